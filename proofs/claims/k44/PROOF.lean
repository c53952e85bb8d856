import PyProof.Rows.All
import Wide.All
import OpenK.AllK
import Wide.FinOn
import Lean
import PyProof.EqAt
import PyProof.EqKinds
import PyProof.TupleCall
import PySem.Challenge.RW_twinstride_k44_even_or_odd
set_option Elab.async false
set_option linter.all false
set_option maxRecDepth 100000
set_option maxHeartbeats 4000000
set_option compiler.extract_closed false
set_option Elab.async false
set_option linter.all false
set_option maxRecDepth 100000
open Array renaming length_toList->Q1,replicate->RH,toList->Sf,append_assoc->Ti,getElem?_eq_getElem->Ug,getElem?_eq_none->UH,getElem?_toList->UQ
open Bool renaming false_eq_true->Pr,false_ne_true->PH,beq_eq_decide_eq->P4,not_true->Qk,not_false->QF,and_eq_true->QM,eq_false_iff->QX,false_or->Q0,or_false->Rj,and_false->RP,true_or->S3,or_true->S4,or_eq_true->Ta,eq_iff_iff->T3,false_and->Ue,and_true->UA
open Decidable renaming byContradiction->Rt
open False renaming elim->Qv
open ForInStep renaming yield->SO
open Function renaming comp_def->Sh,comp->T2
open Int renaming toNat_natCast->Pn,emod_lt_of_pos->QB,emod_nonneg->QJ,le_refl->RL,toNat->Te,zero_add->TJ,mul_one->TZ,mul_le_mul_of_nonneg_left->T1,fdiv_eq_ediv_of_nonneg->Us,eq_ofNat_of_zero_le->UP,toNat_of_nonneg->Ve
open List renaming getElem?_cons_zero->dt,getElem?_cons_succ->OZ,length_map->Pa,getElem?_eq_getElem->Pb,map_cons->Pc,mem_filter->Pf,getElem?_map->Ph,size_toArray->Pk,mem_cons->Po,set->Pp,mem_map->Pq,length_cons->Pu,nil_append->Pw,mem_cons_of_mem->Px,cons_append->Py,length_append->Pz,map_map->PB,range->PD,mem_cons_self->PJ,map_nil->PK,filter_cons->PM,replicate->PN,mem_range->PR,mem_append->PU,mem_map_of_mem->PV,map_congr_left->PZ,lookup->P1,length_filter_le->P2,append_nil->P8,mem_append_right->P9,getElem?_eq_some_iff->Qb,filter_map->Qc,getElem?_eq_none->Qf,replicate_succ->Qg,mem_of_getElem?->Qn,length_nil->Qs,foldl_cons->Qt,find?_cons->Qu,map_id->Qw,getElem?_append_right->Qy,any_cons->QC,eq_nil_of_length_eq_zero->QE,filter_congr->QH,nodup_cons->QI,not_mem_nil->QL,length_singleton->QP,getElem?_append_left->QR,length_set->QS,length_range->QW,filterMap_cons->Q3,range'_succ->Q4,getElem_mem->Q5,any_eq_true->Q6,length->Rb,filter_eq_nil_iff->Rc,map_append->Ri,idxOf_lt_length_of_mem->Rq,flatten_cons->Rr,range_eq_range'->Rx,range'->Ry,lookup_cons->RA,getElem?_zip_eq_some->RF,of_mem_zip->RI,mem_singleton->RK,take_of_length_le->RO,getElem_map->RX,sum_cons->R0,mem_append_left->R5,getElem?_zipIdx->R6,getElem_of_mem->Se,zip_cons_cons->Sm,getD_eq_getElem?_getD->Sn,findIdx?_cons->So,filter_append->Sq,getElem?_eq_none_iff->SA,drop_eq_getElem_cons->SD,nodup_append->SI,getElem?_set->SJ,ext_getElem?->SK,zipIdx_cons->SV,length_take->SW,drop_eq_nil_of_le->S2,length_zip->S9,getElem_idxOf->Tp,findIdx?_eq_some_iff_getElem->Tu,getElem?_nil->Tv,eraseIdxIfInBounds_toArray->TH,nodup_range->TL,isEmpty_nil->TM,take_succ->Uc,pairwise_iff_getElem->Uq,mem_or_eq_of_mem_set->Ur,getElem?_replicate->UG,getElem_cons_zero->UN,getElem?_set_self->UO,dropLast_eq_take->UX,replicate_succ'->U1,getElem?_set_ne->U2,length_reverse->U7,getElem?_range->U8,filter_eq_self->U9,mem_filterMap->Vd
open List.Pairwise renaming map->Ud
open List.cons renaming injEq->Qm
open Nat renaming le_refl->Pl,lt_of_lt_of_le->PF,le_trans->PL,ne_of_lt->PQ,lt_irrefl->P7,pow_le_pow_right->Qo,le_add_right->QA,zero_le->QY,zero_testBit->Q8,testBit_lt_two_pow->Rf,ne_of_gt->Rg,lt_or_ge->RE,not_lt_zero->RJ,zero_add->RT,testBit_or->RU,lt_succ_self->RZ,lt_succ_of_lt->SN,not_lt->Tt,or_lt_two_pow->Tz,min_self->TB,le_of_succ_le->TC,le_of_lt->TF,le_succ->TY,pow_succ->UT,lt_trans->UU,le_of_eq->UW,eq_of_testBit_eq->U6
open Ne renaming symm->P0
open Option renaming join_some->PY,map_some->Qe,map_eq_some_iff->Qp,isSome_iff_exists->QU,isSome_map->To,isSome_some->U0,getD_none->Vc
open Option.some renaming inj->Qa,injEq->Uz
open PyProof.Rows renaming callWith_type1->P5,slot_tuple_getitem->Ql,envOfC->RS,assign_Tuple->Tq
open PySem renaming mem_of_lookup->Qj,Within->UB,call->U3,list_append->Va
open PySem.Around renaming under->Tn,under_plainId->UM
open PySem.AutoSeq1 renaming sub_tuple_tuple->Sl,idx_int->Tj
open PySem.Builtin renaming bitAnd->Ro,bitOr->Tc
open PySem.Builtin.Dict renaming updateFrom->Tx,showsAll->TV
open PySem.Builtin.Dict_items renaming ownsTuple->SY
open PySem.Builtin.Int renaming intBits->QD
open PySem.Builtin.Slice renaming slicePlaces->Rh,sliceAdjust->RY,sliceApplied->Th
open PySem.Builtin.SmallTypes renaming nextOf->P6,ownedTupleHandOut->Sk,ownedTupleIsFree->Sy,iterAll->Tb
open PySem.Builtin.Tuple renaming tupleExact->QO,tupleTooMany->Tf,tupleItemsOf->Tg
open PySem.Calls renaming spliced_cons->Q9,callWith_builtin->Ra,evalArgs_plain->Ru,spliced_nil->RM,Name_function_global->T7
open PySem.Code renaming isFrame->UL
open PySem.Expr renaming Call->UE
open PySem.F renaming slot_dict_keyiterator_next->QK,slot_tuple_mul->Q7,slot_NoneType_hash->Rn,slot_tuple_iterator_next->RC,slot_tuple_index->RD,slot_dict_pop->RN,slot_list_getattribute->RQ,slot_list_pop->Sj,args_tuple_mul_2->Sv,args_tuple_add_2->Sw,plainAttrs_list->SF,entry_tuple_mul->SG,entry_tuple_add->SH,slot_tuple_add->SS,slot_zip_getattribute->S8,slot_list_append->Td,args_tuple_index_2->TU,entry_tuple_index->TX,type_tuple_index->T5,args_dict_keyiterator_next_1->T6,slot_tuple_rmul->T8,plainAttrs_dict->T9,entry_dict_keyiterator_next->Ua,args_dict_pop_3->Ub,entry_dict_pop->Um,args_tuple_iterator_next_1->Uo,type_list_pop->Uv,type_dict_pop->Uw,slot_int_rmul->Ux,entry_tuple_iterator_next->Uy,slot_enumerate_next->Vb
open PySem.Heap renaming get?_push_of_some->Pe,lt_size->Pj,get?_push_size->Pm,size_push->Qi,SameBut->Qx,get?_update_self->RW,ExtBut->SE,get?_update_other->UK
open PySem.Heap.SameBut renaming update->Rk
open PySem.MeetsSeq.EqGives renaming int->UZ
open PySem.NameKind renaming cell->Si
open PySem.Obj renaming mapSeq->Ss,data_mapFields->Su,isFreed_of_fields->UY
open PySem.Paired renaming length->QT
open PySem.SeqAt renaming EqAt->SX,RcNeAt->UC,RcAt->U5
open PySem.SeqAt.EqAt renaming str_none->Ui,none_str->Uj,none_int->Uk,int_none->Ul,str_int->Ut,int_str->Uu
open PySem.SeqAt.RcAt renaming lists_lengths->TK,tuples->UD,lists->UJ
open PySem.Str renaming ofString->Qq,empty->TR
open PySem.Value renaming ref->PC,none->Qh,int->Rz,type->RV,bool->Sg,str->SQ,builtin->Uh,float->US
open PySem.W renaming Frag->Pg,findIn->Qd,mg_none_of->Qr,keepIn->QG,nsIn->QN,emptyDict->RB,kia_one->RG,plainGet->R7,fnOf->R8,cellsFrom_some->Sa,hasDictIn->Sb,mg_of->Sr,instObj->Sz,plainOver->SU,makesIn->S7,codeIn->TN,callWith_K->TQ,hideAll->T4,plainGet_of->UR,excIn->U4
open Std.Legacy renaming Range->UI
open String renaming reduceBEq->SM
open Sum renaming inr->PX,inl->Qz
open Sum.inl renaming inj->S6
open Sum.inr renaming inj->S5
open True renaming intro->QZ
open Bool renaming false->cm
open Option renaming some->ap,none->bb
open PyProof.Rows renaming AllBare->Wc,IsTup->WM,subscriptTail_builtinR->W7,IntsAre->Xd
open PySem renaming wpAny_bind->ax,Value->ay,Addr->ca,Shared->cb,wpAny->cp,wpAny_pure->cx,starEach->cy,model->cT,mainGlobals->eg,Program->eC,Expr->eH,bootBuiltins->eT,eval->eX,World->fe,FuncData->ff,Around->fv,Heap->fx,binaryOp->fy,backTo->g3,compareOp->hG,wpAny_mono->j0,builtinLookup_eq_fast->kc,attributeBase->kl,wpAny_loadPart'->kr,wpAny_field->mu,wpAny_call_entry->nT,wpAny_holding->n7,wpAny_newObj_type->ol,wpAny_setField_rec->pa,assignEach->pt,typeLookup_type->py,cLine->pA,wpAny_Call_Name_kw->pB,sysModules->qa,Stmt->rc,cellsFrom->re,call_meets->s9,isSubtype_type->vr,Keyword->vx,wpAny_passesOwn->vy,backToKw->wh,swapsWith->x9,rawInt->Pi,foldedSetIterable->Ps,Scope->Pv,wpAny_of_eq->PP,pyNext->P3,holding->Re,wpAny_attempt->Rs,wpAny_execs_nil->Sc,wpAny_truthy_bool->SB,wpAny_seqItems->SC,firstArgMember->SL,codeAny_mono->SZ,wpAny_rule->Tk,wpAny_isInstance->Tl,typeLookup->TD,sliceBounds->TW,wpAny_specialOf->T0,codeAny->Uf,pushCells->UF,getMethod->UV,wpAny_newTuple->V6,tupleKind_room_in1->V7,getattributeRaised->V8,wpAny_pyIter_list->V9,standAt->Wa,relabel->Wb,wpAny_standAt->Wd,checkBuiltinCall->We,valueAt->Wf,PlainAttrs->Wg,Paired->Wh,pushCells_keeps->Wi,letOwnedTupleGo->Wj,isSubtype_stop->Wl,assign->Wm,argsOk->Wn,Operator->Wo,NameKind->Wp,IsPart->Wq,getItem->Wr,field->Ws,checkTypeCall->Wt,behindInMarks->Wu,typeOf->Wv,stored->Ww,pyIter->Wx,wpAny_typeOf->Wz,getAttr?->WA,entryFor->WB,callerA->WC,callWith->WD,wpAny_pyIter_zip->WE,wpAny_execs_cons->WF,tupleKind->WG,noFill_tuple_add->WH,DictEntry->WI,wpAny_typeNameOfWhole_keyiter->WJ,sizeLine_eq->WK,IsZip->WL,BindsTo->WN,wpAny_setField->WO,setField->WP,newFunctionEnv->WQ,closureFor->WR,builtinsNs->WS,bindArgs->WT,atKey->WU,wpAny_handled->WV,wpAny_comprehension_free->WW,seq_tuple_add->WX,Slot->WY,seqItems?->WZ,seqIndex?->W0,bindL->W1,bindC->W2,PassesOwn->W3,Meets->W4,wpAny_pyNext_list_item->W5,wpAny_Call_method_late->W6,seqIndex_neg->W8,newExc->W9,isTrue->Xa,concat_meets->Xb,callType_new->Xc,wpAny_pyNext_list_end->Xe,wpAny_isOneOf_keyiter->Xf,wpAny_loadName_local->Xg,seqIndex_of->Xh
noncomputable abbrev Xq:=List Int
noncomputable abbrev Xr:=List PySem.Str
noncomputable abbrev Xs:=List ay
noncomputable abbrev Xt:=List ca
noncomputable abbrev Xu:=List eH
noncomputable abbrev Xv:=List rc
noncomputable abbrev Xw:=ay->cb->Prop
noncomputable abbrev Xx:=List (ca×PySem.Obj)
noncomputable abbrev Xy:=PySem.Str->Option ay
noncomputable abbrev Xz:=Array ay
local macro_rules|`(tactic|lia)=>`(tactic|first|(with_reducible first|assumption|exact Nat.le_add_right _ _|exact Nat.le_trans (by assumption) (by decide +kernel)|exact Nat.lt_of_le_of_lt (by assumption) (by decide +kernel)|exact Int.le_of_lt (by assumption))|decide +kernel|lia -abstractProof)
noncomputable section
namespace _2
open PySem PySem.Spec PyProof.Rows
variable{C a b dx f:ca}{A:fv}{X:Cx}{c e tg:eH}{fd:ff}{o:HO}{base h h':fx}{H H':Hp}{Xi:Xx}{kw:List (Str×ay)}{ch fp:Xt}{es:Xu}{body:Xv}{N ps:Xr}{us:Xs}{M:Model}{i t':Nat}{op:Wo}{K:Pg}{p pos pos':Pos}{P:eC}{r:R2}{s:cb}{sp:Sp}{Z:St}{m x:Str}{mA mg:Xy}{ta tb te:TE}{u:ay}{E Q:Xw}{w:fe}{CX:nV}
noncomputable abbrev aB:=Sum Int Str
noncomputable def mQ:aB->ay->Bool
 |.inl k,v=>Value.isInt k v
 |.inr x,v=>Value.isStrOf x v
noncomputable def Of(w:fe):aB->Int
 |.inl k=>hashInt k
 |.inr x=>hashStr w x
theorem aX:∀{k:aB}{v:ay},mQ k v=true->(∃i t,k=Qz i/\v=Rz i t)\/(∃x t,k=PX x/\v=SQ x t)
 |.inl i,v,h=>by
  obtain⟨t,e⟩:=Value.isInt_shape (k:=i) (v:=v) h;exact .inl ⟨i,t,rfl,e⟩
 |.inr x,v,h=>by
  obtain⟨t,e⟩:=Value.isStrOf_shape (x:=x) (v:=v) h;exact .inr ⟨x,t,rfl,e⟩
theorem Au(i:Int)(t:Tok):mQ (.inl i) (.int i t)=true:=by simp[mQ,Value.isInt]
theorem Ar(x:Str)(t:Tok):mQ (.inr x) (.str x t)=true:=by simp[mQ,Value.isStrOf]
theorem IM(a b:Int):decide ((Qz a:aB)=Qz b)=(a==b):=by
 by_cases e:a=b
 .subst e;simp
 .have h:¬(Qz a:aB)=Qz b:=λq=>e (S6 q)
  rw[decide_eq_false h];exact(beq_eq_false_iff_ne.mpr e).symm
theorem JH(a b:Str):decide ((PX a:aB)=PX b)=decide (a=b):=by
 by_cases e:a=b
 .subst e;simp
 .have h:¬(PX a:aB)=PX b:=λq=>e (S5 q)
  rw[decide_eq_false h,decide_eq_false e]
theorem KW(a:Int)(b:Str):decide ((Qz a:aB)=PX b)=false:=decide_eq_false (λq=>nomatch q)
theorem JT(a:Str)(b:Int):decide ((PX a:aB)=Qz b)=false:=decide_eq_false (λq=>nomatch q)
noncomputable def aU(prog:eC)(w:fe):PySem.KeyKind prog w aB where
 is:=mQ
 hash:=Of w
 inj:=λv a b q l=>by
  rcases aX q with⟨i,t,rfl,rfl⟩|⟨x,t,rfl,rfl⟩
  .rcases aX l with⟨j,u,rfl,e⟩|⟨y,u,rfl,e⟩
   .injection e with e1 _;rw[e1]
   .exact nomatch e
  .rcases aX l with⟨j,u,rfl,e⟩|⟨y,u,rfl,e⟩
   .exact nomatch e
   .injection e with e1 _;rw[e1]
 byValue:=λk v h=>by
  rcases aX h with⟨i,t,rfl,rfl⟩|⟨x,t,rfl,rfl⟩<;>rfl
 pyHash:=λg h=>by
  rcases aX g with⟨i,t,rfl,rfl⟩|⟨x,t,rfl,rfl⟩
  .exact wpAny_pyHash_int h
  .exact wpAny_pyHash_str h
 eqBool:=λn g h=>by
  rcases aX n with⟨i,t,rfl,rfl⟩|⟨x,t,rfl,rfl⟩
  .rcases aX g with⟨j,u,rfl,rfl⟩|⟨y,u,rfl,rfl⟩
   .rw[IM]at h;exact wpAny_eqBool_int h
   .rw[KW]at h;exact Uu i t y u _ _ _ _ h
  .rcases aX g with⟨j,u,rfl,rfl⟩|⟨y,u,rfl,rfl⟩
   .rw[JT]at h;exact Ut x t j u _ _ _ _ h
   .rw[JH]at h;exact wpAny_eqBool_str h
 «strs»:=λk x t v h=>by
  rcases aX h with⟨i,u,rfl,e⟩|⟨y,u,rfl,e⟩
  .exact nomatch e
  .injection e with e1 _
   subst e1;cases v<;>rfl
theorem sV(prog:eC)(w:fe)(i:Int)(t:Tok):(aU prog w).is (.inl i) (.int i t)=true:=Au i t
theorem uc(prog:eC)(w:fe)(x:Str)(t:Tok):(aU prog w).is (.inr x) (.str x t)=true:=Ar x t
inductive V where
 |non|bl (b:Bool)|int (i:Int)|str (x:Str)|byt (b:Array UInt8)|flt (b:UInt64)|ref (a:ca)|ty (n:String)
 deriving DecidableEq
def RelV:V->ay->Prop
 |.non,u=>u=Qh
 |.bl b,u=>u=Sg b
 |.int i,u=>∃t,u=Rz i t
 |.str x,u=>∃t,u=SQ x t
 |.byt b,u=>∃t,u=Value.bytes b t
 |.flt b,u=>∃t,u=US b t
 |.ref a,u=>u=PC a
 |.ty n,u=>u=RV n
abbrev Vals:List V->List ay->Prop:=Wh RelV
theorem Vals.length{xs:List V}(r:Vals xs us):xs.length=us.length:=QT r
theorem Vals.get:∀{xs:List V}{us:Xs}{i:Nat}{x:V},Vals xs us->xs[i]?=ap x->∃u,us[i]?=ap u/\RelV x u
 |_,_,_,_,.nil,e=>by simp at e
 |_,_,0,_,.cons r _,e=>by simp at e;subst e;exact⟨_,rfl,r⟩
 |_,_,i+1,x,.cons _ t,e=>by
  obtain⟨u,g,j⟩:=Vals.get (i:=i) (x:=x) t (by simpa using e)
  exact⟨u,by simpa using g,j⟩
theorem Vals.set{x:V}{u:ay}(r:RelV x u):∀{xs:List V}{us:Xs}(i:Nat),Vals xs us->Vals (xs.set i x) (us.set i u)
 |_,_,_,.nil=>.nil
 |_,_,0,.cons _ t=>.cons r t
 |_,_,i+1,.cons q t=>.cons q (Vals.set r i t)
theorem Vals.append:∀{xs ys:List V}{us g:Xs},Vals xs us->Vals ys g->Vals (xs++ys) (us++g)
 |_,_,_,_,.nil,s=>s
 |_,_,_,_,.cons r t,s=>.cons r (Vals.append t s)
theorem Vals.take:∀{xs:List V}{us:Xs}(n:Nat),Vals xs us->Vals (xs.take n) (us.take n)
 |_,_,0,_=>.nil
 |_,_,_+1,.nil=>.nil
 |_,_,n+1,.cons r t=>.cons r (Vals.take n t)
theorem Vals.drop:∀{xs:List V}{us:Xs}(n:Nat),Vals xs us->Vals (xs.drop n) (us.drop n)
 |_,_,0,r=>r
 |_,_,_+1,.nil=>.nil
 |_,_,n+1,.cons _ t=>Vals.drop n t
def RelO:Option V->Option ay->Prop
 |some v,ap u=>RelV v u
 |none,bb=>True
 |_,_=>False
def KV{κ:Type}:List (κ×V)->List (κ×ay)->Prop:=Wh λ(p:κ×V)(q:κ×ay)=>p.1=q.1/\RelV p.2 q.2
def kV:aB->V
 |.inl i=>.int i
 |.inr x=>.str x
inductive HO where
  |lst (xs:List V)
  |tup (xs:List V)
  |dK (Xk:List (aB×V))|dT (Xk:List (List aB×V))
  |set (S:Int->Bool) (n:Nat)
  |ins (C dx:ca) (fs:List (Str×V))
  |own (x:ca)
  |xd (fs:List (Str×V))
  |met (f x:ca)
  |rng (lo hi:Int)
  |frz (o:Obj) (u:HO)
  |tbl (ps:Xz)
  |ext (φ:fx->Prop)
noncomputable abbrev Hp:=ca->Option HO
noncomputable def upd(H:Hp)(a:ca)(o:HO):Hp:=λb=>if b=a then ap o else H b
theorem upd_same:upd H a o a=ap o:=by unfold upd;rw[if_pos rfl]
theorem aF(h:b≠a):upd H a o b=H b:=by unfold upd;rw[if_neg h]
theorem Mz{u:HO}(h:H a=ap o)(h':H b=ap u)(d:o≠u):a≠b:=by
 intro e;subst e;rw[h]at h';exact d (Qa h')
theorem bc(h:H a=ap o)(h':H b=bb):a≠b:=by
 intro e;subst e;rw[h]at h';cases h'
section
variable(P:eC)(w:fe)
def ObjOk(H:Hp)(h:fx)(a:ca):HO->Prop
 |.lst xs=>xs.length<=sizeLine/\∃(Xo:Xs)(n:Nat),Vals xs Xo/\h.get? a=ap { cls:=.type "list",data:=.seq Xo.toArray n }
 |.tup xs=>xs.length<=sizeLine/\∃Xo:List ay,Vals xs Xo/\∃o,h.get? a=ap o/\(o.cls=.type "tuple"/\∃n,o.data=.seq Xo.toArray n)/\o.dict=bb
 |.dK Xk=>Xk.length<=sizeLine/\(a==qa)=cm/\∃vs,KV Xk vs/\h.DictOf (aU P w) a vs
 |.dT Xk=>Xk.length<=sizeLine/\(a==qa)=cm/\∃xs:List (List aB×ca×ay),
   Wh (λ(p:List aB×V)(q:List aB×ca×ay)=>p.1=q.1/\H q.2.1=ap (.tup<|p.1.map kV)/\RelV p.2 q.2.2) Xk xs/\
   ∃o es ep,h.get? a=ap o/\o.ExactDict/\o.data=.dict es ep/\es.toList=xs.map (entryOfKey<|tupleKind<|aU P w)/\(xs.map (·.1)).Nodup
 |.set S n=>h.SetOf (intKind P w) a S n
 |.ins C dx fs=>H dx=ap (.own a)/\fs.length<=1000/\dx≠a/\h.get? a=ap (Sz C dx)/\
   ∃mA,h.Ns1 dx mA/\(∀f,RelO (fs.lookup f) (mA f))/\UB mA (fs.map (·.1))
 |.own _=>∃o,h.get? a=ap o
 |.xd fs=>∃mA,h.Ns1 a mA/\∀f,RelO (fs.lookup f) (mA f)
 |.rng lo hi=>∃t u v,h.get? a=ap { cls:=.type "range",data:=.fields #[.int lo t,.int hi u,.int 1 v] }
 |.frz o u=>h.get? a=ap o/\ObjOk H h a u
 |.tbl ps=>h.get? a=ap { cls:=.none,data:=.fields ps }
 |.met f x=>h.get? a=ap (W.methodObj (.ref f)<|.ref x)
 |.ext φ=>φ h/\(∃o,h.get? a=ap o)/\∀h1 h2:fx,φ h1->(∀o,h1.get? a=ap o->h2.get? a=ap o)->φ h2
def HOk(H:Hp)(h:fx):Prop:=∀a o,H a=ap o->ObjOk P w H h a o
end
section
theorem ObjOk.lt(x:ObjOk P w H h a o):a<h.objs.size:=by
 cases o with
 |lst xs=>obtain⟨_,_,_,_,e⟩:=x;exact Pj e
 |tup xs=>obtain⟨_,_,_,_,e,_⟩:=x;exact Pj e
 |dK Xk=>obtain⟨_,_,_,_,o,_,_,e,_⟩:=x;exact Pj e
 |dT Xk=>obtain⟨_,_,_,_,o,_,_,e,_⟩:=x;exact Pj e
 |set S n=>obtain⟨o,_,_,_,e,_⟩:=x;exact Pj e
 |ins C dx fs=>obtain⟨_,_,_,e,_⟩:=x;exact Pj e
 |own y=>obtain⟨_,e⟩:=x;exact Pj e
 |xd fs=>obtain⟨_,⟨_,_,_,e,_⟩,_⟩:=x;exact Pj e
 |rng lo hi=>obtain⟨_,_,_,e⟩:=x;exact Pj e
 |frz ob u=>obtain⟨e,_⟩:=x;exact Pj e
 |tbl ps=>exact Pj (show h.get? a=ap _ from x)
 |met f y=>exact Pj (show h.get? a=ap _ from x)
 |ext φ=>obtain⟨_,⟨_,e⟩,_⟩:=x;exact Pj e
theorem eJ{α l:Type}{F G:α->l->Prop}:∀{j:List α}{g:List l},Wh F j g->(∀a b,F a b->G a b)->Wh G j g
 |_,_,.nil,_=>.nil
 |_,_,.cons r t,f=>.cons (f _ _ r) (eJ t f)
theorem ObjOk.stay(x:ObjOk P w H h a o)(k:∀b u,(b=a\/H b=ap (.own a))->h.get? b=ap u->h'.get? b=ap u)(L:∀b,H b=ap (.own a)->H' b=ap (.own a))(J:∀b xs,H b=ap (.tup xs)->H' b=ap (.tup xs)):ObjOk P w H' h' a o:=by
 induction o with
 |lst xs=>obtain⟨z,l,n,r,e⟩:=x;exact⟨z,l,n,r,k _ _ (.inl rfl) e⟩
 |tup xs=>obtain⟨z,l,r,g,e,c⟩:=x;exact⟨z,l,r,g,k _ _ (.inl rfl) e,c⟩
 |dK Xk=>obtain⟨z,y,I,r,g,es,j,e,c⟩:=x;exact⟨z,y,I,r,g,es,j,k _ _ (.inl rfl) e,c⟩
 |dT Xk=>
  obtain⟨z,y,xs,r,g,es,j,e,c⟩:=x;exact⟨z,y,xs,eJ r λp q z=>⟨z.1,J _ _ z.2.1,z.2.2⟩,g,es,j,k _ _ (.inl rfl) e,c⟩
 |set S n=>obtain⟨g,es,j,t,e,c⟩:=x;exact⟨g,es,j,t,k _ _ (.inl rfl) e,c⟩
 |ins C dx fs=>
  obtain⟨d,z,ne,e,mA,⟨B,es,j,G,c⟩,r⟩:=x;exact⟨L _ d,z,ne,k _ _ (.inl rfl) e,mA,⟨B,es,j,k _ _ (.inr d) G,c⟩,r⟩
 |own y=>obtain⟨g,e⟩:=x;exact⟨g,k _ _ (.inl rfl) e⟩
 |xd fs=>obtain⟨mA,⟨B,es,j,e,c⟩,r⟩:=x;exact⟨mA,⟨B,es,j,k _ _ (.inl rfl) e,c⟩,r⟩
 |rng lo hi=>obtain⟨t,u,v,e⟩:=x;exact⟨t,u,v,k _ _ (.inl rfl) e⟩
 |frz g u ih=>obtain⟨e,q⟩:=x;exact⟨k _ _ (.inl rfl) e,ih q⟩
 |tbl ps=>
  have e:h.get? a=ap { cls:=.none,data:=.fields ps }:=x;show h'.get? a=ap { cls:=.none,data:=.fields ps };exact k a _ (.inl rfl) e
 |met f y=>
  have e:h.get? a=ap (W.methodObj (.ref f)<|.ref y):=x;show h'.get? a=ap (W.methodObj (.ref f)<|.ref y);exact k a _ (.inl rfl) e
 |ext φ=>obtain⟨p,⟨o,e⟩,F⟩:=x;exact⟨F _ _ p λo q=>k _ _ (.inl rfl) q,⟨o,k _ _ (.inl rfl) e⟩,F⟩
theorem HOk.lt(x:HOk P w H h)(e:H a=ap o):a<h.objs.size:=(x a o e).lt
theorem HOk.fresh(x:HOk P w H h)(e:h.objs.size<=a):H a=none:=by
 cases q:H a with
 |none=>rfl
 |some u=>exact absurd (PF (x.lt q) e) (P7 _)
theorem HOk.kept(x:HOk P w H h)(k:∀b u,h.get? b=ap u->h'.get? b=ap u):HOk P w H h':=λa o e=>
 (x a o e).stay (λb u _ q=>k b u q) (λ_ q=>q) λ_ _ q=>q
theorem HOk.laid(x:HOk P w H h)(k:∀b u,h.get? b=ap u->h'.get? b=ap u)(l:h.objs.size<=a)(new:ObjOk P w (upd H a o) h' a o):HOk P w (upd H a o) h':=λb u e=>by
 have g:=x.fresh l
 by_cases j:b=a
 .subst j;rw[upd_same]at e;cases e;exact new
 .rw[aF j]at e
  exact(x b u e).stay (λc v _ q=>k c v q) (λc q=>by rw[aF (bc q g)];exact q) λc n q=>by rw[aF (bc q g)];exact q
end
def Rd(H:Hp)(a:ca)(u:HO):Prop:=H a=ap u\/∃o,H a=ap (.frz o u)
theorem Rd.ok{u:HO}(r:Rd H a u)(x:HOk P w H h):ObjOk P w H h a u:=by
 rcases r with r|⟨o,r⟩
 .exact x a u r
 .obtain⟨_,q⟩:=x a _ r
  exact q
def NQ:Option HO->Prop
 |some (.lst _)=>True
 |some (.dK _)=>True
 |some (.dT _)=>True
 |some (.set _ _)=>True
 |some (.ins _ _ _)=>True
 |some (.ext _)=>True
 |_=>False
section
variable{x e:ca}{o':HO}
theorem HOk.write(ok:HOk P w H h)(F:NQ (H x))(J:e=x\/H e=ap (.own x))(k:∀b u,b≠e->h.get? b=ap u->h'.get? b=ap u)(G:∃u,h'.get? e=ap u)(new:ObjOk P w (upd H x o') h' x o'):HOk P w (upd H x o') h':=λb u q=>by
 have j:∀c y,H c=ap (.own y)->c≠x:=λc y r z=>by subst z;rw[r]at F;exact F
 have l:∀c n,H c=ap (.tup n)->c≠x:=λc n r z=>by subst z;rw[r]at F;exact F
 by_cases B:b=x
 .subst B;rw[upd_same]at q;cases q;exact new
 .rw[aF B]at q
  by_cases g:b=e
  .have I:H b=ap (.own x):=by
    rcases J with z|z
    .exact absurd (g.trans z) B
    .rw[g];exact z
   rw[q]at I;cases I;obtain⟨v,L⟩:=G;exact⟨v,by rw[g];exact L⟩
  .refine (ok b u q).stay (λc v hc r=>k c v ?_ r) (λc r=>by rw[aF (j c b r)];exact r) λc n r=>by rw[aF (l c n r)];exact r
   rcases hc with rfl|hc
   .exact g
   .rintro rfl
    rcases J with z|z
    .exact j c b hc z
    .rw[hc]at z;cases z;exact B rfl
end
structure Un(fs ex:Xt)(H H':Hp)(h h':fx):Prop where
 keep:∀b o,h.get? b=ap o->H b=bb->b∉fs->b∉ex->h'.get? b=ap o
 slot:∀b o,h.get? b=ap o->H b=bb->b∈fs->b∉ex->∃sl,h'.get? b=ap { o with slots:=sl }
 free:∀b o,h.get? b=ap o->H b=bb->b∉ex->H' b=bb
 there:∀b o,h.get? b=ap o->b∉ex->∃o',h'.get? b=ap o'
 tups:∀b xs,H b=ap (.tup xs)->H' b=ap (.tup xs)
 frzs:∀b o u,H b=ap (.frz o u)->H' b=ap (.frz o u)
 tbls:∀b ps,H b=ap (.tbl ps)->∃more,H' b=ap (.tbl (ps++more))
section
variable{fs fs' ex ex':Xt}{H1 H2:Hp}{h1 h2:fx}{x e:ca}
theorem Un.any(u:Un fs ex H H1 h h1){g:Obj}(q:h.get? b=ap g)(n:H b=bb)(l:b∉ex):∃v,h1.get? b=ap { g with slots:=v }:=by
 by_cases j:b∈fs
 .exact u.slot b g q n j l
 .exact⟨g.slots,u.keep b g q n j l⟩
theorem Un.kept(k:∀b u,h.get? b=ap u->h'.get? b=ap u):Un fs ex H H h h':=
 ⟨λb g q _ _ _=>k b g q,λb g q _ _ _=>⟨g.slots,k b g q⟩,λ_ _ _ n _=>n,λb g q _=>⟨g,k b g q⟩,λ_ _ q=>q,λ_ _ _ q=>q,λ_ ps q=>⟨#[],by rw[q];simp⟩⟩
theorem Un.refl:Un fs ex H H h h:=Un.kept λ_ _ q=>q
theorem Un.laid(k:∀b u,h.get? b=ap u->h'.get? b=ap u)(l:h.objs.size<=a)(g:H a=bb):Un fs ex H (upd H a o) h h' where
 keep:=λb u q _ _ _=>k b u q
 slot:=λb u q _ _ _=>⟨u.slots,k b u q⟩
 free:=λb u q n _=>by rw[aF (PQ<|PF (Pj q) l)];exact n
 there:=λb u q _=>⟨u,k b u q⟩
 tups:=λb j q=>by rw[aF (bc q g)];exact q
 frzs:=λb u j q=>by rw[aF (bc q g)];exact q
 tbls:=λb ps q=>⟨#[],by rw[aF (bc q g),q];simp⟩
theorem Un.write(j:NQ (H x))(G:e=x\/H e=ap (.own x))(k:∀b u,b≠e->h.get? b=ap u->h'.get? b=ap u)(v:∃u,h'.get? e=ap u):Un fs ex H (upd H x o) h h':=by
 have y:∀b,H b=bb->b≠x:=λb n z=>by subst z;rw[n]at j;exact j
 have B:∀b,H b=bb->b≠e:=λb n z=>by
  subst z;rcases G with r|r
  .exact y b n r
  .rw[n]at r;cases r
 have l:∀b u,H b=ap u->¬NQ (ap u)->b≠x:=λb u q nm z=>by subst z;rw[q]at j;exact nm j
 refine⟨λb u q n _ _=>k b u (B b n) q,λb u q n _ _=>⟨u.slots,k b u (B b n) q⟩,λb u q n _=>by rw[aF (y b n)];exact n,λb u q _=>?_,
  λb F q=>by rw[aF (l b _ q λz=>z)];exact q,λb u F q=>by rw[aF (l b _ q λz=>z)];exact q,λb ps q=>⟨#[],by rw[aF (l b _ q λz=>z),q];simp⟩⟩
 by_cases g:b=e
 .subst g;exact v
 .exact⟨u,k b u g q⟩
end
noncomputable def trk(h:fx)(H:Hp):List Addr:=(PD h.objs.size).filter λa=>(H a).isSome
noncomputable def sE(h:fx)(H:Hp):Heap:=T4 h (trk h H)
theorem zJ(h:fx)(H:Hp):(sE h H).objs.size=h.objs.size:=W.hideAll_size _ _
theorem Dp{o:Obj}(e:h.get? b=ap o)(n:H b=bb):(sE h H).get? b=ap o:=
 W.hideAll_get _ e λg=>by
  have q:(H b).isSome=true:=(Pf.mp g).2;rw[n]at q;simp at q
theorem EW{o:Obj}(e:(sE h H).get? b=ap o):h.get? b=ap o/\H b=none:=by
 have g:h.get? b=ap o:=W.of_hideAll (trk h H) e;refine⟨g,?_⟩;cases q:H b with
 |none=>rfl
 |some x=>
  have j:b∈trk h H:=Pf.mpr ⟨PR.mpr (Pj g),by simp[q]⟩
  have z:(sE h H).get? b=none:=W.hideAll_none (trk h H) j;rw[z]at e;cases e
structure Mod(K:Pg)(mg:Xy)(base:fx):Prop where
 kin:K.In base
 glob:base.Ns eg mg
 blt:∃mb,base.Ns WS mb/\∀x:Str,x≠"__name__"->mb x=eT x
 nolimit:base.NoLimit
structure Cx where
 prog:eC
 w:fe
 K:Pg
 mg:Str->Option ay
 base:fx
 A:fv
 N:List Str
 s₀:cb
 H₀:Hp
 env:Env
 outer:List Env
 stack:List Env
 ex:List ca
 fn:Str->Bool
 calm:Bool
 pn:List (ca×Obj)
 xe:ay->cb->Prop
noncomputable def gJ(l:List Env):List Addr:=l.filterMap (·.frame)
noncomputable abbrev Cx.fs(X:Cx):List Addr:=gJ X.outer
def Mb(sc:Pv)(x:Str):Prop:=sc.names.lookup x=ap .local\/sc.names.lookup x=ap .cell\/sc.names.lookup x=ap .free
def AU(sc:Pv)(x:Str):Prop:=sc.names.lookup x=ap .local\/sc.names.lookup x=ap .cell
def Look(env:Env)(h:fx)(m:Xy)(x:Str)(u:ay):Prop:=
 (env.kindOf x=ap .local/\m x=ap u)\/((env.kindOf x=ap .cell\/env.kindOf x=ap .free)/\∃c,env.cells.lookup x=ap c/\h.IsCell c (ap u))
structure Cx.Ok(X:Cx):Prop where
 mod:Mod X.K X.mg X.base
 kind:X.env.scope.kind=.function
 glob:X.env.globals=eg
 blt:X.env.builtins=WS
 above:X.s₀.heap.objs.size<=X.env.locals
 inj:∀x y c,X.env.cells.lookup x=ap c->X.env.cells.lookup y=ap c->x=y
 has:∀x,(X.env.kindOf x=ap .cell\/X.env.kindOf x=ap .free)->∃c,X.env.cells.lookup x=ap c
 cab:∀x c,X.fn x=true->X.env.cells.lookup x=ap c->X.s₀.heap.objs.size<=c
 hd:X.calm=true->X.A.handled=bb
 frames:X.A.frames=ap X.stack
 stk:X.stack=X.outer\/(X.stack=X.env::X.outer/\X.env.frame=ap X.env.locals)
 exf:∀b∈X.ex,b≠X.env.locals/\∀x c,X.env.cells.lookup x=ap c->c≠b
 bs:∀b o,X.base.get? b=ap o->X.s₀.heap.get? b=ap o/\X.H₀ b=bb
 bsz:X.base.objs.size<=X.s₀.heap.objs.size
 noex:∀b o,X.base.get? b=ap o->b∉X.ex
 exfs:∀b∈X.ex,b∉X.fs
 funs:X.s₀.heap.FunFrames X.base X.outer
 frf:∀b∈X.fs,X.H₀ b=bb
structure Inv(X:Cx)(Xi:Xx)(Z:List (Option V))(H:Hp)(s:cb):Prop where
 ok:X.Ok
 os:s.os=X.s₀.os
 bare:Wc s.gens
 base:Un X.fs X.ex X.H₀ H X.s₀.heap s.heap
 loc:∃m,s.heap.Ns X.env.locals m/\∀(i:Nat)(x:Str)(v:V),X.N[i]?=ap x->Z[i]?=ap (ap v)->Mb X.env.scope x->∃u,RelV v u/\Look X.env s.heap m x u
 cell:∀x c,X.env.cells.lookup x=ap c->∃v,s.heap.IsCell c v
 free:H X.env.locals=bb
 freeC:∀x c,X.env.cells.lookup x=ap c->H c=bb
 pin:∀p∈X.pn++Xi,s.heap.get? p.1=ap p.2/\H p.1=bb/\p.1≠X.env.locals/\p.1∉X.fs/\∀v,p.2.data≠.cell v
 hok:HOk X.prog X.w H s.heap
 len:Z.length=X.N.length
section
variable{Z:List (Option V)}
theorem Cx.Ok.nofr(ok:X.Ok){o:Obj}(e:X.base.get? b=ap o):b∉X.fs:=λg=>by
 have:=(ok.funs.mem g).1;rw[e]at this;cases this
theorem Inv.bs(I:Inv X Xi Z H s):∀b o,X.base.get? b=ap o->s.heap.get? b=ap o/\H b=none:=λb o e=>
 ⟨I.base.keep b o (I.ok.bs b o e).1 (I.ok.bs b o e).2 (I.ok.nofr e) (I.ok.noex b o e),I.base.free b o (I.ok.bs b o e).1 (I.ok.bs b o e).2<|I.ok.noex b o e⟩
theorem Inv.bk(I:Inv X Xi Z H s):∀b o,X.base.get? b=ap o->s.heap.get? b=ap o:=λb o e=>(I.bs b o e).1
theorem Inv.mod(I:Inv X Xi Z H s):Mod X.K X.mg X.base:=I.ok.mod
theorem Inv.kIn(I:Inv X Xi Z H s):X.K.In s.heap:=I.ok.mod.kin.keeps I.bk
theorem Inv.lt(I:Inv X Xi Z H s):X.env.locals<s.heap.objs.size:=let ⟨_,hn,_⟩:=I.loc;hn.lt
theorem Inv.sz(I:Inv X Xi Z H s):X.s₀.heap.objs.size<=s.heap.objs.size:=PL I.ok.above (TF I.lt)
theorem Inv.nofs(I:Inv X Xi Z H s)(h:s.heap.objs.size<=a):a∉X.fs:=λg=>by
 obtain⟨_,o,j,_⟩:=I.ok.funs.mem g;exact absurd (PF (Pj j)<|PL I.sz h) (P7 _)
theorem Inv.cne(I:Inv X Xi Z H s):∀x c,X.env.cells.lookup x=ap c->c≠X.env.locals:=λx c e z=>by
 obtain⟨v,o,n,l⟩:=I.cell x c e;obtain⟨m,⟨q,es,y,j,g,_⟩,_⟩:=I.loc;rw[z,j]at n;cases n;rw[g]at l;cases l
theorem Inv.funs(I:Inv X Xi Z H s):s.heap.FunFrames X.base X.outer:=by
 have all:∀(l:List Env),(∀b∈gJ l,b∈X.fs)->X.s₀.heap.FunFrames X.base l->s.heap.FunFrames X.base l:=by
  intro l
  induction l with
  |nil=>intro _ _;trivial
  |cons env r ih=>
   intro q y;obtain⟨F,⟨L,o,n,J,B,v⟩,G⟩:=y;have g:L∈X.fs:=q L (by unfold gJ;rw[Q3,n];exact PJ)
   obtain⟨O,e⟩:=I.base.slot L o B (I.ok.frf L g) g λz=>I.ok.exfs L z g;exact⟨F,⟨L,_,n,J,e,v⟩,ih (λb j=>q b (by unfold gJ;rw[Q3,n];exact Px _ j)) G⟩
 exact all X.outer (λ_ j=>j) I.ok.funs
theorem Inv.stack(I:Inv X Xi Z H s):s.heap.FunFrames X.base X.stack:=by
 rcases I.ok.stk with e|⟨e,hf⟩
 .rw[e];exact I.funs
 .rw[e]
  obtain⟨m,g,_⟩:=I.loc;refine .cons (by rw[I.ok.kind];decide) hf g ?_ I.funs
  exact Heap.get?_none_of_le (PL I.ok.bsz I.ok.above)
theorem Inv.stkSub(I:Inv X Xi Z H s):∀b∈gJ X.stack,b∈X.env.locals::X.fs:=λb g=>by
 rcases I.ok.stk with e|⟨e,hf⟩
 .rw[e]at g;exact Px _ g
 .rw[e]at g
  unfold gJ at g;rw[Q3,hf]at g;exact g
theorem Inv.stkFree(I:Inv X Xi Z H s):∀b∈gJ X.stack,H b=none:=λb hb=>by
 rcases Po.mp (I.stkSub b hb) with e|hb
 .rw[e];exact I.free
 .obtain⟨_,o,g,_⟩:=I.ok.funs.mem hb
  exact I.base.free b o g (I.ok.frf b hb) λz=>I.ok.exfs b z hb
theorem Inv.step{g':Array GenState}{t':Nat}{d':Drawn}(I:Inv X Xi Z H s)(B:∀b∈ch,(b∈X.ex\/X.s₀.heap.objs.size<=b)/\b≠X.env.locals/\(∀x c,X.env.cells.lookup x=ap c->c≠b)/\∀p∈X.pn++Xi,p.1≠b)(keep:∀b o,b≠X.env.locals->b∉X.fs->b∉ch->s.heap.get? b=ap o->H b=bb->h'.get? b=ap o)(slot:∀b o,b≠X.env.locals->b∈X.fs->b∉ch->s.heap.get? b=ap o->H b=bb->∃Y,h'.get? b=ap { o with slots:=Y })(free:∀b o,b∉ch->s.heap.get? b=ap o->H b=bb->H' b=bb)(there:∀b o,b∉ch->s.heap.get? b=ap o->∃R,h'.get? b=ap R)(tups:∀b J,H b=ap (.tup J)->H' b=ap (.tup J))(frzs:∀b o u,H b=ap (.frz o u)->H' b=ap (.frz o u))(tbls:∀b ps,H b=ap (.tbl ps)->∃more,H' b=ap (.tbl (ps++more)))(ns:∀m,s.heap.Ns X.env.locals m->h'.Ns X.env.locals m)(hok:HOk X.prog X.w H' h')(hg:Wc g'):
  Inv X Xi Z H' { s with heap:=h',gens:=g',drawn:=d',toks:=t' }:=by
 have T:∀b o,X.s₀.heap.get? b=ap o->b≠X.env.locals:=λb o e=>PQ (PF (Pj e) I.ok.above);have G:∀b o,X.s₀.heap.get? b=ap o->b∉X.ex->b∉ch:=λb o e g L=>by
  rcases (B b L).1 with z|z
  .exact g z
  .exact absurd (PF (Pj e) z) (P7 _)
 have y:∀x c,X.env.cells.lookup x=ap c->∀v,s.heap.IsCell c v->h'.IsCell c v:=λx c e v ⟨o,O,U⟩=>by
  have j:c∉ch:=λz=>(B c z).2.2.1 x c e rfl
  by_cases hc:c∈X.fs
  .obtain⟨Y,q⟩:=slot c o (I.cne x c e) hc j O (I.freeC x c e)
   exact⟨_,q,U⟩
  .exact⟨o,keep c o (I.cne x c e) hc j O (I.freeC x c e),U⟩
 refine⟨I.ok,I.os,hg,⟨λb o e n L g=>?_,λb o e n L g=>?_,λb o e n g=>?_,λb o e g=>?_,λb J e=>tups b J (I.base.tups b J e),λb o J e=>frzs b o J (I.base.frzs b o J e),λb ps e=>?_⟩,?_,λx c e=>?_,?_,λx c e=>?_,λp hp=>?_,hok,I.len⟩
 .exact keep b o (T b o e) L (G b o e g) (I.base.keep b o e n L g) (I.base.free b o e n g)
 .obtain⟨Y,F⟩:=I.base.slot b o e n L g
  obtain⟨W,S⟩:=slot b _ (T b o e) L (G b o e g) F (I.base.free b o e n g);exact⟨W,S⟩
 .obtain⟨R,F⟩:=I.base.there b o e g
  exact free b R (G b o e g) F (I.base.free b o e n g)
 .obtain⟨R,F⟩:=I.base.there b o e g
  exact there b R (G b o e g) F
 .obtain⟨m1,F⟩:=I.base.tbls b ps e
  obtain⟨m2,S⟩:=tbls b _ F;exact⟨m1++m2,by rw[S,Ti]⟩
 .obtain⟨m,hn,hl⟩:=I.loc
  refine⟨m,ns m hn,λi x v F S e3=>?_⟩;obtain⟨u,r,l⟩:=hl i x v F S e3;refine⟨u,r,?_⟩;rcases l with l|⟨k,c,e,z⟩
  .exact .inl l
  .exact .inr ⟨k,c,e,y x c e _ z⟩
 .obtain⟨v,z⟩:=I.cell x c e
  exact⟨v,y x c e v z⟩
 .obtain⟨m,⟨o,_,_,O,_⟩,_⟩:=I.loc
  exact free _ o (λz=>(B _ z).2.1 rfl) O I.free
 .obtain⟨v,o,O,U⟩:=I.cell x c e
  exact free c o (λz=>(B c z).2.2.1 x c e rfl) O (I.freeC x c e)
 .obtain⟨e,n,ne,nf,d⟩:=I.pin p hp
  have j:p.1∉ch:=λz=>(B p.1 z).2.2.2 p hp rfl;exact⟨keep p.1 p.2 ne nf j e n,free p.1 p.2 j e n,ne,nf,d⟩
theorem Inv.un{t':Nat}(I:Inv X Xi Z H s)(u:Un X.fs [] H H' s.heap h')(v:HOk X.prog X.w H' h'):Inv X Xi Z H' { s with heap:=h',toks:=t' }:=by
 obtain⟨m,⟨o,es,R,y,r⟩,_⟩:=id I.loc;obtain⟨J,B⟩:=u.any y I.free (by simp)
 exact I.step (g':=s.gens) (d':=s.drawn) (ch:=[]) (λ_ z=>nomatch z) (λb o _ l _ e n=>u.keep b o e n l (by simp)) (λb o _ l _ e n=>u.slot b o e n l (by simp)) (λb o _ e n=>u.free b o e n (by simp)) (λb o _ e=>u.there b o e (by simp)) u.tups u.frzs u.tbls (λO G=>by
  obtain⟨L,q,j,g,F⟩:=G;rw[y]at g;cases g;exact⟨_,q,j,B,F⟩) v I.bare
theorem Inv.call{g':Array GenState}{t':Nat}{d':Drawn}(I:Inv X Xi Z H s)(u:Un (gJ X.stack) ch H H' s.heap h')(B:HOk X.prog X.w H' h')(O:Wc g')(l:∀b∈ch,(b∈X.ex\/X.s₀.heap.objs.size<=b)/\b≠X.env.locals/\(∀x c,X.env.cells.lookup x=ap c->c≠b)/\∀p∈X.pn++Xi,p.1≠b):
  Inv X Xi Z H' { s with heap:=h',gens:=g',drawn:=d',toks:=t' }:=by
 obtain⟨m,⟨o,es,U,F,r⟩,_⟩:=id I.loc;obtain⟨R,v⟩:=u.any F I.free λz=>(l _ z).2.1 rfl;exact I.step (ch:=ch) l (λb o v G g e n=>u.keep b o e n (λz=>(Po.mp<|I.stkSub b z).elim v G) g) (λb o _ _ g e n=>u.any e n g) (λb o g e n=>u.free b o e n g) (λb o g e=>u.there b o e g) u.tups u.frzs u.tbls (λT L=>by
  obtain⟨S,y,q,j,J⟩:=L;rw[F]at j;cases j;exact⟨_,y,q,v,J⟩) B O
theorem Inv.turned{t':Nat}{g:ca}(I:Inv X Xi Z H s)(k:∀b o,b≠g->s.heap.get? b=ap o->h'.get? b=ap o)(L:H g=bb)(y:g≠X.env.locals)(R:g∈X.ex\/X.s₀.heap.objs.size<=g)(O:∀x c,X.env.cells.lookup x=ap c->c≠g)(S:∀p∈X.pn++Xi,p.1≠g):Inv X Xi Z H { s with heap:=h',toks:=t' }:=by
 have l:∀b u,H b=ap u->b≠g:=λb u e z=>by rw[z,L]at e;cases e
 refine I.step (g':=s.gens) (d':=s.drawn) (ch:=[g]) (λb B=>?_) (λb o _ _ j e _=>k b o (λz=>j (by simp[z])) e) (λb o _ _ j e _=>⟨o.slots,k b o (λz=>j (by simp[z])) e⟩) (λ_ _ _ _ n=>n)
  (λb o j e=>⟨o,k b o (λz=>j (by simp[z])) e⟩) (λ_ _ e=>e) (λ_ _ _ e=>e) (λb ps e=>⟨#[],by rw[e];simp⟩) (λm J=>?_) (λb u e=>?_) I.bare
 .have e:b=g:=by simpa using B
  subst e;exact⟨R,y,O,S⟩
 .obtain⟨o,es,F,G,r⟩:=J
  exact⟨o,es,F,k _ o (P0 y) G,r⟩
 .refine (I.hok b u e).stay (λc v j q=>k c v ?_ q) (λ_ q=>q) λ_ _ q=>q
  rcases j with z|z
  .rw[z];exact l b u e
  .exact l c _ z
theorem Inv.tok(I:Inv X Xi Z H s)(t:Nat):Inv X Xi Z H { s with toks:=t }:=I.un (h':=s.heap) (t':=t) Un.refl I.hok
theorem Inv.kept{t':Nat}(I:Inv X Xi Z H s)(k:∀b u,s.heap.get? b=ap u->h'.get? b=ap u):Inv X Xi Z H { s with heap:=h',toks:=t' }:=I.un (Un.kept k) (I.hok.kept k)
theorem Inv.laid{t':Nat}(I:Inv X Xi Z H s)(k:∀b u,s.heap.get? b=ap u->h'.get? b=ap u)(g:s.heap.objs.size<=a)(new:ObjOk X.prog X.w (upd H a o) h' a o):
  Inv X Xi Z (upd H a o) { s with heap:=h',toks:=t' }:=I.un (Un.laid k g<|I.hok.fresh g) (I.hok.laid k g new)
theorem Inv.write{x e:ca}{t':Nat}(I:Inv X Xi Z H s)(j:NQ (H x))(l:e=x\/H e=ap (.own x))(k:∀b u,b≠e->s.heap.get? b=ap u->h'.get? b=ap u)(g:∃u,h'.get? e=ap u)(new:ObjOk X.prog X.w (upd H x o) h' x o):Inv X Xi Z (upd H x o) { s with heap:=h',toks:=t' }:=I.un (Un.write j l k g) (I.hok.write j l k g new)
theorem Inv.pins_of{g:Xx}(I:Inv X Xi Z H s)(h:∀p∈g,s.heap.get? p.1=ap p.2/\H p.1=bb/\p.1≠X.env.locals/\p.1∉X.fs/\∀v,p.2.data≠.cell v):Inv X g Z H s:=
 ⟨I.ok,I.os,I.bare,I.base,I.loc,I.cell,I.free,I.freeC,λp j=>(PU.mp j).elim (λz=>I.pin p (R5 _ z)) (h p),I.hok,I.len⟩
theorem uv(n:N.Nodup){j:Nat}(a:N[i]?=ap x)(b:N[j]?=ap x):i=j:=by
 obtain⟨q,g⟩:=Qb.mp a;obtain⟨v,l⟩:=Qb.mp b;exact(List.getElem_inj n).mp (g.trans l.symm)
theorem p9{v:V}{Q:Unit->cb->Prop}(I:Inv X Xi Z H s)(hN:X.N.Nodup)(hi:X.N[i]?=ap x)(F:AU X.env.scope x)(r:RelV v u)(h:∀s',Inv X Xi (Z.set i<|some v) H s'->(∃a,Qx a s.heap s'.heap/\(a=X.env.locals\/X.env.cells.lookup x=ap a))->Q () s')(hf:X.fn x=true\/X.env.scope.names.lookup x=ap .local:=by first|exact .inl rfl|exact .inr rfl|assumption):cp M A (storeName X.env x u) Q E s:=by
 obtain⟨m,hn,hl⟩:=id I.loc;have T:(X.env.scope.kind==.class||(X.env.scope.kind==.module&&X.env.locals != X.env.globals))=false:=by rw[I.ok.kind];rfl
 have L:i<Z.length:=by rw[I.len];exact(Qb.mp hi).1
 have cne:=I.cne;have B:∀{a:ca}{h':fx},(∃o,s.heap.get? a=ap o/\H a=bb)->Qx a s.heap h'->HOk X.prog X.w H h':=λ{a h'} ha g b ob e=>by
  obtain⟨_,_,G⟩:=ha;refine (I.hok b ob e).stay (λc w' hc q=>(g.2 c ?_).trans q) (λ_ q=>q) λ_ _ q=>q
  rintro rfl
  rcases hc with rfl|hc
  .rw[G]at e;cases e
  .rw[G]at hc;cases hc
 rcases F with hk|hk
 .refine wpAny_storeName_local hk hn (λh' hn' g=>?_) T
  obtain⟨oL,_,_,hoL,_⟩:=id hn;refine h _ ⟨I.ok,I.os,I.bare,⟨λb o e n S F=>?_,λb o e n S F=>?_,I.base.free,λb o e F=>?_,I.base.tups,I.base.frzs,I.base.tbls⟩,⟨_,hn',λj y v' l J e3=>?_⟩,λy c e=>?_,I.free,I.freeC,λp hp=>?_,B ⟨oL,hoL,I.free⟩ g,by simpa using I.len⟩ ⟨_,g,.inl rfl⟩
  .exact(g.2 b<|PQ<|PF (Pj e) I.ok.above).trans (I.base.keep b o e n S F)
  .obtain⟨sl,l⟩:=I.base.slot b o e n S F
   exact⟨sl,(g.2 b<|PQ<|PF (Pj e) I.ok.above).trans l⟩
  .obtain⟨o',l⟩:=I.base.there b o e F
   exact⟨o',(g.2 b<|PQ<|PF (Pj e) I.ok.above).trans l⟩
  .by_cases O:j=i
   .subst O
    rw[hi]at l;cases l;rw[UO L]at J;cases J;exact⟨u,r,.inl ⟨hk,by simp⟩⟩
   .rw[U2 (P0 O)]at J
    obtain⟨u',r',q⟩:=hl j y v' l J e3;refine⟨u',r',?_⟩;rcases q with⟨k,e⟩|⟨k,c,e,z⟩
    .refine .inl ⟨k,?_⟩
     have:y≠x:=λe=>O (uv hN l (e▸hi));simp[this,e]
    .exact .inr ⟨k,c,e,z.sameBut g<|cne y c e⟩
  .obtain⟨w',z⟩:=I.cell y c e
   exact⟨w',z.sameBut g<|cne y c e⟩
  .obtain⟨e,n,ne,nf,d⟩:=I.pin p hp
   exact⟨(g.2 p.1 ne).trans e,n,ne,nf,d⟩
 .have R:X.fn x=true:=by
   rcases hf with z|z
   .exact z
   .rw[z]at hk;cases hk
  obtain⟨c,hc⟩:=I.ok.has x (.inl hk);obtain⟨w',z⟩:=I.cell x c hc;refine wpAny_storeName_cell I.ok.kind hk hc z (λh' U g=>?_);obtain⟨oc,Y,W⟩:=id z;refine h { s with heap:=h' } ⟨I.ok,I.os,I.bare,⟨λb o e n S F=>?_,λb o e n S F=>?_,I.base.free,λb o e F=>?_,I.base.tups,I.base.frzs,I.base.tbls⟩,⟨m,hn.sameBut g (P0<|cne x c hc),λj y v' l J e3=>?_⟩,λy c' e=>?_,I.free,I.freeC,λp hp=>?_,B ⟨oc,Y,I.freeC x c hc⟩ g,by simpa using I.len⟩ ⟨c,g,.inr hc⟩
  .exact(g.2 b<|PQ<|PF (Pj e)<|I.ok.cab x c R hc).trans (I.base.keep b o e n S F)
  .obtain⟨sl,l⟩:=I.base.slot b o e n S F
   exact⟨sl,(g.2 b<|PQ<|PF (Pj e)<|I.ok.cab x c R hc).trans l⟩
  .obtain⟨o',l⟩:=I.base.there b o e F
   exact⟨o',(g.2 b<|PQ<|PF (Pj e)<|I.ok.cab x c R hc).trans l⟩
  .by_cases O:j=i
   .subst O
    rw[hi]at l;cases l;rw[UO L]at J;cases J;exact⟨u,r,.inr ⟨.inl hk,c,hc,U⟩⟩
   .rw[U2 (P0 O)]at J
    obtain⟨u',r',q⟩:=hl j y v' l J e3;refine⟨u',r',?_⟩;rcases q with q|⟨k,c',e,z'⟩
    .exact .inl q
    .refine .inr ⟨k,c',e,z'.sameBut g ?_⟩
     rintro rfl
     exact O (uv hN l (I.ok.inj _ _ _ e hc▸hi))
  .by_cases hcc:c'=c
   .subst hcc;exact⟨_,U⟩
   .obtain⟨w2,z2⟩:=I.cell y c' e
    exact⟨w2,z2.sameBut g hcc⟩
  .obtain⟨e,n,ne,nf,d⟩:=I.pin p hp
   refine⟨(g.2 p.1 ?_).trans e,n,ne,nf,d⟩;intro q;rw[q,Y]at e;have q':oc=p.2:=Qa e;exact d w' (by rw[<- q'];exact W)
theorem lY{v:V}{Q:Unit->cb->Prop}(I:Inv X Xi Z H s)(g:X.N.Nodup)(j:X.N[i]?=ap x)(l:AU X.env.scope x)(r:RelV v u)(h:∀s',Inv X Xi (Z.set i<|some v) H s'->Q () s')(n:X.fn x=true\/X.env.scope.names.lookup x=ap .local:=by first|exact .inl rfl|exact .inr rfl|assumption):cp M A (storeName X.env x u) Q E s:=
 p9 I g j l r (λs' I' _=>h s' I') n
theorem Inv.call'{s':cb}(I:Inv X Xi Z H s)(q:s'.os=s.os)(u:Un (gJ X.stack) ch H H' s.heap s'.heap)(j:HOk X.prog X.w H' s'.heap)(n:Wc s'.gens)(g:∀b∈ch,(b∈X.ex\/X.s₀.heap.objs.size<=b)/\b≠X.env.locals/\(∀x c,X.env.cells.lookup x=ap c->c≠b)/\∀p∈X.pn++Xi,p.1≠b):Inv X Xi Z H' s':=by
 obtain⟨h',g',d',t',l⟩:=s';have e:l=s.os:=q;subst e;exact I.call (g':=g') (t':=t') (d':=d') u j n g
end
noncomputable abbrev XK:=ay->Option ca->Hp->Prop
noncomputable abbrev St:=List (Option V)
noncomputable abbrev VK:=V->Hp->Prop
noncomputable abbrev TE:=St->Hp->VK->Prop
noncomputable abbrev TT:=St->Hp->(Bool->Hp->Prop)->Prop
noncomputable abbrev TA:=St->Hp->(List V->Hp->Prop)->Prop
structure Ends where
 nx:St->Hp->Prop
 rt:VK
 bk:St->Hp->Prop:=λ_ _=>False
 ct:St->Hp->Prop:=λ_ _=>False
noncomputable abbrev TS:=Ends->St->Hp->Prop
inductive EP(X:Cx)(Xi:Xx)(Z:St)(Q:VK)(u:ay)(s':cb):Prop
 |mk (v:V) (H':Hp) (h0:Inv X Xi Z H' s') (h1:RelV v u) (h2:Q v H'):EP X Xi Z Q u s'
inductive TP(X:Cx)(Xi:Xx)(Z:St)(Q:Bool->Hp->Prop)(b:Bool)(s':cb):Prop
 |mk (H':Hp) (h0:Inv X Xi Z H' s') (h1:Q b H'):TP X Xi Z Q b s'
inductive AP(X:Cx)(Xi:Xx)(Z:St)(Q:List V->Hp->Prop)(us:Xs)(s':cb):Prop
 |mk (vs:List V) (H':Hp) (h0:Inv X Xi Z H' s') (h1:Vals vs us) (h2:Q vs H'):AP X Xi Z Q us s'
def SP(X:Cx)(Xi:Xx)(D:Ends)(f:Flow)(s':cb):Prop:=
 match f with
 |.next=>∃σ' H',Inv X Xi σ' H' s'/\D.nx σ' H'
 |.brk=>∃σ' H',Inv X Xi σ' H' s'/\D.bk σ' H'
 |.cont=>∃σ' H',Inv X Xi σ' H' s'/\D.ct σ' H'
 |.ret u=>∃v σ' H',Inv X Xi σ' H' s'/\RelV v u/\D.rt v H'
def PE(X:Cx)(e:eH)(t:TE):Prop:=
 ∀(Xi:Xx)(s:cb)(Z:St)(H:Hp)(Q:VK),Inv X Xi Z H s->t Z H Q->cp (cT X.prog X.w) X.A (eX e X.env) (EP X Xi Z Q) X.xe s
def PT(X:Cx)(e:eH)(t:TT):Prop:=
 ∀(Xi:Xx)(s:cb)(Z:St)(H:Hp)(Q:Bool->Hp->Prop),Inv X Xi Z H s->t Z H Q->cp (cT X.prog X.w) X.A (Xa e X.env<|eval e X.env) (TP X Xi Z Q) X.xe s
def PW(X:Cx)(e:eH)(t:TT):Prop:=
 ∀(whole:Sem ay)(Xi:Xx)(s:cb)(Z:St)(H:Hp)(Q:Bool->Hp->Prop),Inv X Xi Z H s->t Z H Q->cp (cT X.prog X.w) X.A (Xa e X.env whole) (TP X Xi Z Q) X.xe s
theorem OY{t:TT}(h:PW X e t):PT X e t:=h _
def PA(X:Cx)(es:Xu)(t:TA):Prop:=
 ∀(pos:Pos)(Xi:Xx)(s:cb)(Z:St)(H:Hp)(Q:List V->Hp->Prop),Inv X Xi Z H s->t Z H Q->cp (cT X.prog X.w) X.A (spliced<|backTo pos<|starEach es X.env) (AP X Xi Z Q) X.xe s
def PS(X:Cx)(st:rc)(t:TS):Prop:=
 ∀(Xi:Xx)(s:cb)(Z:St)(H:Hp)(D:Ends),Inv X Xi Z H s->t D Z H->cp (cT X.prog X.w) X.A (exec st X.env) (SP X Xi D) X.xe s
def zg(X:Cx)(st:Xv)(t:TS):Prop:=
 ∀(Xi:Xx)(s:cb)(Z:St)(H:Hp)(D:Ends),Inv X Xi Z H s->t D Z H->cp (cT X.prog X.w) X.A (execs st X.env) (SP X Xi D) X.xe s
theorem bv{α:Type}{t:Sem α}{Q Q':α->cb->Prop}(h:cp M A t Q E s)(g:∀a s,Q a s->Q' a s):cp M A t Q' E s:=j0 h g λ_ _ x=>x
section
noncomputable def tVar(i:Nat):TE:=λZ H Q=>∃v,Z[i]?=ap (ap v)/\Q v H
noncomputable def tC(v:V):TE:=λ_ H Q=>Q v H
theorem KH(z:X.N[i]?=ap x)(y:Mb X.env.scope x)(g:(x==("__debug__":Str))=false:=by decide)(hcd:(x==("__classdict__":Str))=false:=by decide):PE X (.Name x pos) (tVar i):=by
 intro Xi s Z H Q I h;obtain⟨v,e,h⟩:=h;obtain⟨m,j,q⟩:=I.loc;obtain⟨u,r,l⟩:=q i x v z e y;have fin:EP X Xi Z Q u s:=⟨v,H,I,r,h⟩;rcases l with⟨hk,n⟩|⟨hk,c,hc,hcell⟩
 .exact wpAny_Name (Xg I.ok.kind hk j n fin) g
 .rcases hk with hk|hk
  .exact wpAny_Name (wpAny_loadName_cell I.ok.kind hk hc hcell fin) g
  .exact wpAny_Name (wpAny_loadName_free I.ok.kind hk hc hcell fin hcd) g
theorem Jg{i j pos}:PE X (.Constant (.int i) j pos) (tC<|.int i):=λ_ _ _ H _ I h=>wpAny_Constant_int ⟨.int i,H,I.tok _,⟨_,rfl⟩,h⟩
theorem Nm{b j pos}:PE X (.Constant (.bool b) j pos) (tC<|.bl b):=λ_ _ _ H _ I h=>Constant_bool ⟨.bl b,H,I,rfl,h⟩
theorem Jo{j pos}:PE X (.Constant .none j pos) (tC .non):=λ_ _ _ H _ I h=>Constant_none ⟨.non,H,I,rfl,h⟩
theorem BW{x j pos}:PE X (.Constant (.str x) j pos) (tC<|.str x):=λ_ _ _ H _ I h=>Calls.Constant_str ⟨.str x,H,I.tok _,⟨_,rfl⟩,h⟩
def Gl(X:Cx)(x:Str):Prop:=X.env.kindOf x=ap .globalImplicit
theorem ip(I:Inv X Xi Z H s)(j:Gl X x)(l:X.mg x=ap u)(h:Q u s)(g:(x==("__debug__":Str))=false:=by decide):cp (cT X.prog X.w) X.A (eX (.Name x pos) X.env) Q E s:=
 T7 I.ok.kind j (Calls.loadGlobal_global (by rw[I.ok.glob];exact I.mod.glob.keeps I.bk) l h) g
theorem dM(I:Inv X Xi Z H s)(n:Gl X x)(v:X.mg x=bb)(q:eT x=ap u)(h:Q u s)(l:x≠"__name__":=by decide)(hd:(x==("__debug__":Str))=false:=by decide):cp (cT X.prog X.w) X.A (eX (.Name x pos) X.env) Q E s:=by
 obtain⟨y,g,j⟩:=I.mod.blt;exact T7 I.ok.kind n (Calls.loadGlobal_builtin (by rw[I.ok.glob];exact I.mod.glob.keeps I.bk) v (by rw[I.ok.blt];exact g.keeps I.bk) ((j x l).trans q) h) hd
theorem Gb{v:V}(j:Gl X x)(n:X.mg x=bb)(l:eT x=ap u)(r:RelV v u)(g:x≠"__name__":=by decide)(hd:(x==("__debug__":Str))=false:=by decide):PE X (.Name x pos) (tC v):=
 λ_ _ _ H _ I h=>dM I j n l ⟨v,H,I,r,h⟩ g hd
variable{a b:eH}
variable{tA tB':TT}{rest:Xu}
noncomputable def tAnd(t u:TT):TT:=λZ H Q=>t Z H λc H1=>if c=true then u Z H1 Q else Q cm H1
noncomputable def tOr(t u:TT):TT:=λZ H Q=>t Z H λc H1=>if c=true then Q true H1 else u Z H1 Q
noncomputable def tNot(t:TT):TT:=λZ H Q=>t Z H λc H1=>Q (!c) H1
theorem Gi(g:PT X a tA):PW X (.BoolOp .And [a] pos) tA:=by
 intro l Xi s Z H Q I h;refine isTrue_and (bv (g Xi s Z H Q I h) λc j e=>?_);cases c with
 |true=>exact isTrue_and_nil e
 |false=>exact e
theorem J6(g:PT X a tA):PW X (.BoolOp .Or [a] pos) tA:=by
 intro l Xi s Z H Q I h;refine isTrue_or (bv (g Xi s Z H Q I h) λc j e=>?_);cases c with
 |false=>exact isTrue_or_nil e
 |true=>exact e
theorem Kl(q:PT X a tA)(n:PW X (.BoolOp .And (b::rest) pos) tB'):PW X (.BoolOp .And (a::b::rest) pos) (tAnd tA tB'):=by
 intro l Xi s Z H Q I h;refine isTrue_and (bv (q Xi s Z H _ I h) λc j ⟨H1,I1,g⟩=>?_);cases c with
 |true=>exact n l Xi j Z H1 Q I1 g
 |false=>exact⟨H1,I1,g⟩
theorem OD(q:PT X a tA)(n:PW X (.BoolOp .Or (b::rest) pos) tB'):PW X (.BoolOp .Or (a::b::rest) pos) (tOr tA tB'):=by
 intro l Xi s Z H Q I h;refine isTrue_or (bv (q Xi s Z H _ I h) λc j ⟨H1,I1,g⟩=>?_);cases c with
 |true=>exact⟨H1,I1,g⟩
 |false=>exact n l Xi j Z H1 Q I1 g
theorem IQ(g:PT X a tA):PT X (.UnaryOp .Not a pos) (tNot tA):=by
 intro Xi s Z H Q I h;exact isTrue_not (j0 (g Xi s Z H (λc H1=>Q (!c) H1) I h) (λc j z=>by cases z with|mk a b d=>exact⟨a,b,d⟩) λ_ _ e=>e)
noncomputable def MF(ta tb:TE):TE:=λZ H Q=>ta Z H λx H1=>∃c,x=.bl c/\if c=true then tb Z H1 Q else Q (.bl cm) H1
noncomputable def Oi(ta:TE):TE:=λZ H Q=>ta Z H λx H1=>∃c,x=.bl c/\Q (.bl<|!c) H1
theorem LM{op}{t:TE}(h:PE X a t):PE X (.BoolOp op [a] pos) t:=λXi s Z H Q I g=>BoolOp_one (h Xi s Z H Q I g)
theorem IN(q:PE X a ta)(n:PE X (.BoolOp .And (b::rest) pos) tb):PE X (.BoolOp .And (a::b::rest) pos) (MF ta tb):=by
 intro Xi s Z H Q I h;refine BoolOp_and (bv (q Xi s Z H _ I h) λv l ⟨x,H1,I1,j,g⟩=>?_);obtain⟨c,rfl,g⟩:=g;cases j;refine SB ?_;cases c with
 |true=>exact n Xi l Z H1 Q I1 g
 |false=>exact⟨.bl cm,H1,I1,rfl,g⟩
theorem JG(l:PE X a ta):PE X (.UnaryOp .Not a pos) (Oi ta):=by
 intro Xi s Z H Q I h;refine UnaryOp_ (bv (l Xi s Z H _ I h) λv n ⟨x,H1,I1,j,g⟩=>?_);obtain⟨c,rfl,g⟩:=g;cases j;exact not_of (SB ⟨.bl (!c),H1,I1,rfl,g⟩)
noncomputable def tIf(t:TT)(ta tb:TE):TE:=λZ H Q=>t Z H λc H1=>if c=true then ta Z H1 Q else tb Z H1 Q
theorem AS(q:PT X c tA)(n:PE X a ta)(l:PE X b tb):PE X (.IfExp c a b pos) (tIf tA ta tb):=by
 intro Xi s Z H Q I h;refine wpAny_IfExp (bv (q Xi s Z H _ I h) λd j ⟨H1,I1,g⟩=>?_);cases d with
 |true=>exact n Xi j Z H1 Q I1 g
 |false=>exact l Xi j Z H1 Q I1 g
end
def SqL(K:Pg)(H:Hp)(a:ca)(xs:List V):Prop:=
 Rd H a (.lst xs)\/
  ∃(o:Obj)(Xo:Xz)(n:Nat),K.lookup a=ap o/\o.cls=.type "list"/\o.dict=bb/\o.data=.seq Xo n/\Xo.size<=sizeLine/\Vals xs Xo.toList
def ic(K:Pg)(H:Hp)(a:ca)(xs:List V):Prop:=
 Rd H a (.tup xs)\/
  ∃(o:Obj)(Xo:Xz)(n:Nat),K.lookup a=ap o/\o.cls=.type "tuple"/\o.data=.seq Xo n/\Xo.size<=sizeLine/\Vals xs Xo.toList
noncomputable def absV:ay->Option V
 |.none=>ap .non
 |.bool b=>ap (.bl b)
 |.int i _=>ap (.int i)
 |.str x _=>ap (.str x)
 |.bytes b _=>ap (.byt b)
 |.float b _=>ap (.flt b)
 |.ref a=>ap (.ref a)
 |.type n=>ap (.ty n)
 |_=>bb
theorem RelV.abs{x:V}(r:RelV x u):absV u=ap x:=by
 cases x with
 |non=>cases r;rfl
 |bl _=>cases r;rfl
 |int _=>obtain⟨t,rfl⟩:=r;rfl
 |str _=>obtain⟨t,rfl⟩:=r;rfl
 |byt _=>obtain⟨t,rfl⟩:=r;rfl
 |flt _=>obtain⟨t,rfl⟩:=r;rfl
 |ref _=>cases r;rfl
 |ty _=>cases r;rfl
theorem RelV.inj{x y:V}(r:RelV x u)(q:RelV y u):x=y:=Qa (r.abs.symm.trans q.abs)
theorem Vals.inj:∀{xs ys:List V}{us:Xs},Vals xs us->Vals ys us->xs=ys
 |_,_,_,.nil,.nil=>rfl
 |_,_,_,.cons r t,.cons r' t'=>by rw[r.inj r',Vals.inj t t']
section
variable{xs ys:List V}
theorem SqL.of(h:H a=ap (.lst xs)):SqL K H a xs:=.inl (.inl h)
theorem Inv.list(I:Inv X Xi Z H s)(h:SqL X.K H a xs):∃Xo:List ay,Vals xs Xo/\PlainL s.heap a Xo.toArray/\xs.length<=sizeLine:=by
 rcases h with h|⟨o,Xo,n,hk,hc,hd,hs,hz,r⟩
 .obtain⟨z,Xo,n,r,e⟩:=h.ok I.hok
  exact⟨Xo,r,⟨_,n,e,rfl,rfl,rfl⟩,z⟩
 .refine⟨Xo.toList,r,⟨o,n,I.kIn a o hk,hc,hd,by simpa using hs⟩,?_⟩
  have e:=r.length;simp only[Q1]at e;lia
theorem Inv.tuple(I:Inv X Xi Z H s)(h:ic X.K H a xs):∃Xo:List ay,Vals xs Xo/\WM s.heap a Xo.toArray/\xs.length<=sizeLine:=by
 rcases h with h|⟨o,Xo,n,hk,hc,hs,hz,r⟩
 .obtain⟨z,Xo,r,g,e,c,_⟩:=h.ok I.hok
  exact⟨Xo,r,⟨g,e,c⟩,z⟩
 .refine⟨Xo.toList,r,⟨o,I.kIn a o hk,hc,n,by simpa using hs⟩,?_⟩
  have e:=r.length;simp only[Q1]at e;lia
theorem Inv.list_inj(I:Inv X Xi Z H s)(h:SqL X.K H a xs)(h':SqL X.K H a ys):xs=ys:=by
 obtain⟨j,r,⟨o,n,e,_,_,d⟩,_⟩:=I.list h;obtain⟨g,v,⟨z,y,l,_,_,q⟩,_⟩:=I.list h';rw[e]at l;cases l;rw[d]at q
 injection q with d1 _
 have:j=g:=by simpa using congrArg Sf d1
 subst this;exact r.inj v
theorem Inv.tuple_inj(I:Inv X Xi Z H s)(h:ic X.K H a xs)(h':ic X.K H a ys):xs=ys:=by
 obtain⟨j,r,⟨o,e,_,n,d⟩,_⟩:=I.tuple h;obtain⟨g,v,⟨z,l,_,y,q⟩,_⟩:=I.tuple h';rw[e]at l;cases l;rw[d]at q
 injection q with d1 _
 have:j=g:=by simpa using congrArg Sf d1
 subst this;exact r.inj v
end
noncomputable abbrev Cx.wish(X:Cx)(E:Xw):Cx:={ X with xe:=E }
noncomputable abbrev Cx.nox(X:Cx):Cx:=X.wish λ_ _=>False
theorem Cx.Ok.wish(ok:X.Ok)(E:Xw):(X.wish E).Ok:=
 ⟨ok.mod,ok.kind,ok.glob,ok.blt,ok.above,ok.inj,ok.has,ok.cab,ok.hd,ok.frames,ok.stk,ok.exf,ok.bs,ok.bsz,ok.noex,ok.exfs,ok.funs,ok.frf⟩
theorem Cx.Ok.unwish(ok:(X.wish E).Ok):X.Ok:=
 ⟨ok.mod,ok.kind,ok.glob,ok.blt,ok.above,ok.inj,ok.has,ok.cab,ok.hd,ok.frames,ok.stk,ok.exf,ok.bs,ok.bsz,ok.noex,ok.exfs,ok.funs,ok.frf⟩
section
theorem Inv.wish(I:Inv X Xi Z H s)(E:Xw):Inv (X.wish E) Xi Z H s:=⟨I.ok.wish E,I.os,I.bare,I.base,I.loc,I.cell,I.free,I.freeC,I.pin,I.hok,I.len⟩
theorem Inv.unwish(I:Inv (X.wish E) Xi Z H s):Inv X Xi Z H s:=⟨I.ok.unwish,I.os,I.bare,I.base,I.loc,I.cell,I.free,I.freeC,I.pin,I.hok,I.len⟩
end
section
variable{st:rc}{rest:Xv}{t u:TS}
noncomputable def Op:TS:=λD Z H=>D.nx Z H
noncomputable def tSeq(t u:TS):TS:=λD Z H=>t { D with nx:=u D } Z H
theorem Ge:zg X [] Op:=λ_ _ Z H _ I h=>Sc ⟨Z,H,I,h⟩
theorem CF(l:PS X st t)(n:zg X rest u):zg X (st::rest) (tSeq t u):=by
 intro Xi s Z H D I h;refine WF (bv (l Xi s Z H { D with nx:=u D } I h) λf j q=>?_);cases f with
 |next=>
  obtain⟨g,H',I',q⟩:=q;exact n Xi j g H' D I' q
 |ret v=>exact q
 |brk=>exact q
 |cont=>exact q
theorem Ex(g:PS X st t):zg X [st] t:=by
 intro Xi s Z H D I h;refine WF (bv (g Xi s Z H D I h) λf j q=>?_);cases f with
 |next=>exact Sc q
 |ret v=>exact q
 |brk=>exact q
 |cont=>exact q
theorem Inv.quiet(I:Inv X Xi Z H s):interactive X.env=false:=by simp[interactive,I.ok.kind]
noncomputable def MJ(te:TE):TS:=λD Z H=>te Z H λ_ H1=>D.nx Z H1
theorem GE(l:PE X e te)(j:x9 e bb pos.line X.env=pure false:=by rfl):PS X (.Expr e pos) (MJ te):=by
 intro Xi s Z H D I h;exact wpAny_Expr_any (bv (l Xi s Z H _ I h) λv q ⟨x,H1,I1,n,g⟩=>⟨Z,H1,I1,g⟩) I.quiet j
noncomputable def tRet(te:TE):TS:=λD Z H=>te Z H D.rt
theorem KM(l:PE X e te):PS X (.Return (ap e) pos) (tRet te):=by
 intro Xi s Z H D I h;exact wpAny_Return_some (bv (l Xi s Z H _ I h) λv n ⟨x,H1,I1,g,j⟩=>⟨x,Z,H1,I1,g,j⟩)
noncomputable def tIfS(c:TT)(t u:TS):TS:=λD Z H=>c Z H λb H1=>if b=true then t D Z H1 else u D Z H1
theorem Ou{a b:Xv}{l:TT}(v:PT X c l)(q:zg X a t)(n:zg X b u):PS X (.If c a b pos) (tIfS l t u):=by
 intro Xi s Z H D I h;refine wpAny_If (bv (v Xi s Z H _ I h) λd j ⟨H1,I1,g⟩=>?_);cases d with
 |true=>exact q Xi j Z H1 D I1 g
 |false=>exact n Xi j Z H1 D I1 g
end
noncomputable abbrev TG:=V->St->Hp->(St->Hp->Prop)->Prop
noncomputable abbrev Hi:=List V->St->Hp->(St->Hp->Prop)->Prop
def PG(X:Cx)(target:eH)(t:TG):Prop:=
 ∀(Xi:Xx)(s:cb)(Z:St)(H:Hp)(v:V)(u:ay)(Q:St->Hp->Prop),Inv X Xi Z H s->RelV v u->t v Z H Q->
  cp (cT X.prog X.w) X.A (Wm target X.env u) (λ_ g=>∃σ' H',Inv X Xi σ' H' g/\Q σ' H') X.xe s
def Le(X:Cx)(ts:Xu)(t:Hi):Prop:=
 ∀(Xi:Xx)(s:cb)(Z:St)(H:Hp)(vs:List V)(us:Xs)(Q:St->Hp->Prop),Inv X Xi Z H s->Vals vs us->t vs Z H Q->
  cp (cT X.prog X.w) X.A (assignInOrder ((pt ts X.env).map (·.2)) us) (λ_ g=>∃σ' H',Inv X Xi σ' H' g/\Q σ' H') X.xe s
noncomputable abbrev Jr:=V->V->V->Hp->(Hp->Prop)->Prop
def Jz(X:Cx)(t:Jr):Prop:=
 ∀(Xi:Xx)(s:cb)(Z:St)(H:Hp)(o i v:V)(ov iv u:ay)(Q:Hp->Prop),Inv X Xi Z H s->RelV o ov->RelV i iv->RelV v u->t o i v H Q->
  cp (cT X.prog X.w) X.A (setItem ov iv u) (λ_ g=>∃H',Inv X Xi Z H' g/\Q H') X.xe s
noncomputable abbrev TIp:=V->V->Hp->VK->Prop
def Jx(X:Cx)(op:Wo)(t:TIp):Prop:=
 ∀(Xi:Xx)(s:cb)(Z:St)(H:Hp)(x y:V)(v u:ay)(Q:VK),Inv X Xi Z H s->RelV x v->RelV y u->t x y H Q->
  cp (cT X.prog X.w) X.A (inplaceOp op v u) (EP X Xi Z Q) X.xe s
section
noncomputable def Iu(i:Nat):TG:=λv Z H Q=>Q (Z.set i<|some v) H
theorem Fu(g:X.N.Nodup)(j:X.N[i]?=ap x)(l:AU X.env.scope x)(n:X.fn x=true\/X.env.scope.names.lookup x=ap .local:=by first|exact .inl rfl|exact .inr rfl|assumption):PG X (.Name x pos) (Iu i):=by
 intro Xi s Z H v u Q I r h;exact wpAny_assign_Name (lY I g j l r (λq I'=>⟨_,H,I',h⟩) n)
noncomputable def gNil:Hi:=λg Z H Q=>g=[]/\Q Z H
noncomputable def Mn(t:TG)(u:Hi):Hi:=λj Z H Q=>∃v r,j=v::r/\t v Z H λg H'=>u r g H' Q
theorem EY:Le X [] gNil:=by
 intro Xi s Z H g us Q I r h;obtain⟨e,h⟩:=h;subst e;cases r;exact assignInOrder_nil ⟨Z,H,I,h⟩
theorem BO{t:TG}{u:Hi}(q:PG X e t)(z:Le X es u)(y:(pt (e::es) X.env).map (·.2)=Wm e X.env::(pt es X.env).map (·.2):=by rfl):Le X (e::es) (Mn t u):=by
 intro Xi s Z H F us Q I r h;obtain⟨v,B,l,h⟩:=h;subst l;cases r with
 |cons r rr=>
  rw[y];refine assignInOrder_cons (bv (q Xi s Z H _ _ _ I r h) λ_ n ⟨g,H1,I1,j⟩=>?_);exact z Xi n g H1 _ _ Q I1 rr j
noncomputable def gTup(K:Pg)(n:Nat)(t:Hi):TG:=λv Z H Q=>∃a xs,v=.ref a/\ic K H a xs/\xs.length=n/\t xs Z H Q
theorem KO{k:Nat}{t:Hi}{n:Nat}(L:X.calm=true)(h:Le X es t)(J:(pt es X.env).length=n:=by rfl)(hst:(pt es X.env).findIdx? (·.1)=none:=by rfl):PG X (.Tuple es k pos) (gTup X.K n t):=by
 intro Xi s Z H v u Q I r g;obtain⟨a,l,B,G,z,g⟩:=g;subst B;cases r;obtain⟨y,j,F,O⟩:=I.tuple G;refine assign_Tuple_tuple (I.ok.hd L) F (by simp[J,<- z,j.length]) hst λh' q=>?_
 have I1:Inv X Xi Z H { s with heap:=h' }:=I.kept (t':=s.toks) λb o e=>q b o (PQ<|Pj e) e;exact h Xi _ Z H l _ Q I1 (by simpa using j) g
noncomputable def gSub(to ti:TE)(t:Jr):TG:=λv Z H Q=>to Z H λo H1=>ti Z H1 λi H2=>t o i v H2 λH3=>Q Z H3
theorem Lr{o i:eH}{to g:TE}{t:Jr}(G:PE X o to)(J:PE X i g)(L:Jz X t)(O:∀v,Wm (.Subscript o i pos) X.env v=(do
   let ov <- Re [v] (eX o X.env)
   let iv <- Re [v,ov] (eX i X.env)
   Wa pos
   Re [v,ov,iv] (setItem ov iv v)
   release [v,ov,iv] []):=by intro _;rfl):PG X (.Subscript o i pos) (gSub to g t):=by
 intro Xi s Z H v u Q I r h;rw[O];refine ax (n7 (bv (G Xi s Z H _ I h) λov F ⟨x,H1,I1,l,j⟩=>?_));refine ax (n7 (bv (J Xi F Z H1 _ I1 j) λiv q ⟨y,H2,I2,B,z⟩=>?_));refine ax (Wd<|wpAny_bind<|wpAny_holding (bv (L Xi q Z H2 x y v ov iv u _ I2 l B r z) λ_ R ⟨H3,I3,n⟩=>?_));exact wpAny_release ⟨Z,H3,I3,n⟩
noncomputable def Nv(te:TE)(g:TG):TS:=λD Z H=>te Z H λx H1=>g x Z H1 D.nx
theorem KY{g:TG}(B:PE X e te)(y:PG X tg g)(z:swapsWithSole [tg] e pos.line X.env=pure false:=by rfl)(hw:swappedStores [tg] e X.env=pure none:=by rfl)(h1:(pt [tg] X.env).map (·.2)=[Wm tg X.env]:=by rfl):PS X (.Assign [tg] e pos) (Nv te g):=by
 intro Xi s Z H D I h;refine wpAny_Assign_stores (bv (B Xi s Z H _ I h) λv n ⟨x,H1,I1,j,l⟩=>?_) z hw;rw[h1];exact bv (y Xi n Z H1 x v _ I1 j l) λ_ F q=>q
theorem Jv(n:X.N.Nodup)(z:X.N[i]?=ap x)(l:AU X.env.scope x)(q:PE X e te)(B:x9 e (ap<|.Name x pos') pos.line X.env=pure false:=by rfl)(hf:X.fn x=true\/X.env.scope.names.lookup x=ap .local:=by first|exact .inl rfl|exact .inr rfl|assumption):
  PS X (.Assign [.Name x pos'] e pos) (Nv te<|Iu i):=by
 intro Xi s Z H D I h;refine wpAny_Assign_Name (bv (q Xi s Z H _ I h) λv G ⟨y,H1,I1,g,j⟩=>?_) B;exact lY I1 n z l g (λF I2=>⟨_,H1,I2,j⟩) hf
noncomputable def tAug(i:Nat)(te:TE)(ti:TIp):TS:=λD Z H=>∃x,Z[i]?=ap (ap x)/\te Z H λy H1=>ti x y H1 λz H2=>D.nx (Z.set i<|some z) H2
theorem J3{B:TIp}(Y:X.N.Nodup)(F:X.N[i]?=ap x)(q:AU X.env.scope x)(he:PE X e te)(ho:Jx X op B)(hf:X.fn x=true\/X.env.scope.names.lookup x=ap .local:=by first|exact .inl rfl|exact .inr rfl|assumption):
  PS X (.AugAssign (.Name x pos') op e pos) (tAug i te B):=by
 intro Xi s Z H D I h;obtain⟨v,J,h⟩:=h;obtain⟨m,W,G⟩:=I.loc;have n:Mb X.env.scope x:=by rcases q with k|k;exact .inl k;exact .inr (.inl k)
 obtain⟨u,r,l⟩:=G i x v F J n;refine wpAny_AugAssign_Name ?_;have go:cp (cT X.prog X.w) X.A (eX e X.env) (λw g=>cp (cT X.prog X.w) X.A (inplaceOp op u w) (λr j=>cp (cT X.prog X.w) X.A (storeName X.env x r) (λ_=>SP X Xi D .next) X.xe j) X.xe g) X.xe s:=by
  refine bv (he Xi s Z H _ I h) λw O ⟨y,H1,I1,R,U⟩=>?_;refine bv (ho Xi O Z H1 v y u w _ I1 r R U) λz s2 ⟨zv,H2,I2,S,L⟩=>?_;exact lY I2 Y F q S (λs3 I3=>⟨_,H2,I3,L⟩) hf
 rcases l with⟨hk,T⟩|⟨hk,c,hc,hcell⟩
 .exact Xg I.ok.kind hk W T go
 .rcases hk with hk|hk
  .exact wpAny_loadName_cell I.ok.kind hk hc hcell go
  .rcases q with k|k
   .have:X.env.scope.names.lookup x=ap .free:=hk
    rw[k]at this;cases this
   .have:X.env.scope.names.lookup x=ap .free:=hk
    rw[k]at this;cases this
noncomputable def ipI(f:Int->Int->Int):TIp:=λx y H Q=>∃i j,x=.int i/\y=.int j/\Q (.int<|f i j) H
theorem JD:Jx X .Add (ipI λi j=>i+j):=by
 intro Xi s Z H x y v u Q I g n h;obtain⟨i,j,z,l,q⟩:=h;subst z;subst l;obtain⟨t,rfl⟩:=g;obtain⟨t',rfl⟩:=n;exact iadd_int ⟨.int _,H,I.tok _,⟨_,rfl⟩,q⟩
end
section
noncomputable def Jf(c:TT)(tb:TS):TS:=λD Z H=>∃W:Nat->St->Hp->Prop,(∃m,W m Z H)/\∀m Z H,W m Z H->
 c Z H λb H1=>if b=true then ∃N:St->Hp->Prop,(∀σ' H',N σ' H'->∃m',m'<m/\W m' σ' H')/\tb { D with nx:=N,ct:=N,bk:=D.nx } Z H1 else D.nx Z H1
theorem BR{L:TT}{tb:TS}(J:W3 (cT X.prog X.w) X.A X.env X.xe)(hc:PT X c L)(hb:zg X body tb):PS X (.While c body [] pos) (Jf L tb):=by
 intro Xi s Z H D I h;obtain⟨W,⟨Y,R⟩,turn⟩:=h;refine wpAny_While (codeAny_whileLoop (λn T=>∃σ' H',Inv X Xi σ' H' T/\W n σ' H') ?_ Y ⟨Z,H,I,R⟩)
 rintro n U ⟨j,H1,I1,S⟩
 refine vy J (bv (hc Xi U j H1 _ I1<|turn n j H1 S) λb O ⟨H2,I2,q⟩=>?_);cases b with
 |true=>
  obtain⟨N,G,q⟩:=q;rw[if_pos rfl];refine vy J (bv (hb Xi O j H2 _ I2 q) λf s3 l=>?_);cases f with
  |next=>
   obtain⟨g,H3,I3,y⟩:=l;obtain⟨F,z,B⟩:=G g H3 y;exact⟨F,z,g,H3,I3,B⟩
  |cont=>
   obtain⟨g,H3,I3,y⟩:=l;obtain⟨F,z,B⟩:=G g H3 y;exact⟨F,z,g,H3,I3,B⟩
  |brk=>exact l
  |ret v=>exact l
 |false=>
  rw[if_neg PH];exact Sc ⟨j,H2,I2,q⟩
end
structure It where
 go:Nat->Hp->Prop
 yld:Nat->Hp->V->Hp->Prop
 stop:Nat->Hp->Prop
def ji(X:Cx)(Xi:Xx)(H:Hp)(b:ca):Prop:=
 H b=bb/\b≠X.env.locals/\b∉X.fs/\(b∈X.ex\/X.s₀.heap.objs.size<=b)/\(∀x c,X.env.cells.lookup x=ap c->c≠b)/\∀p∈X.pn++Xi,p.1≠b
theorem Inv.fpOk(I:Inv X Xi Z H s)(g:s.heap.objs.size<=b)(l:H' b=bb):ji X Xi H' b:=by
 refine⟨l,Rg (PF I.lt g),I.nofs g,.inr (PL I.sz g),λx c e z=>?_,λp j z=>?_⟩
 .obtain⟨v,q⟩:=I.cell x c e
  exact absurd (PF q.lt<|by rw[z];exact g) (P7 _)
 .exact absurd (PF (Pj (I.pin p j).1)<|by rw[z];exact g) (P7 _)
structure Turn(P:eC)(w:fe)(K:Pg)(tg:eH)(J:It)(fp:Xt)(it:ca)(tn:Nat->fx->Prop):Prop where
 mem:it∈fp
 obj:∀i h,tn i h->∀b∈fp,∃o,h.get? b=ap o/\∀v,o.data≠.cell v
 keep:∀i h h',tn i h->(∀b∈fp,∀o,h.get? b=ap o->h'.get? b=ap o)->tn i h'
 item:∀(X:Cx),X.prog=P->X.w=w->X.K=K->X.calm=true->∀(i:Nat)(Xi:Xx)(s:cb)(Z:St)(H:Hp)(E:Xw),Inv X Xi Z H s->(∀b∈fp,ji X Xi H b)->tn i s.heap->J.go i H->
  cp (cT P w) X.A (P3<|.ref it) (λr s1=>∃u,r=ap u/\
   cp (cT P w) X.A (Wj tg (.ref it) u) (λ_ s2=>∃x H',Inv X Xi Z H' s2/\RelV x u/\J.yld i H x H'/\tn (i+1) s2.heap/\∀b∈fp,H' b=bb) E s1) E s
 done:∀(X:Cx),X.prog=P->X.w=w->X.K=K->X.calm=true->∀(i:Nat)(Xi:Xx)(s:cb)(Z:St)(H:Hp)(E:Xw),Inv X Xi Z H s->(∀b∈fp,ji X Xi H b)->tn i s.heap->J.stop i H->
  cp (cT P w) X.A (P3<|.ref it) (λr s1=>r=bb/\Inv X Xi Z H s1) E s
 self:∀(A:fv)(i:Nat)(s:cb)(Q:Xw)(E:Xw),tn i s.heap->Q (.ref it) s->cp (cT P w) A (Wx<|.ref it) Q E s
noncomputable abbrev TI:=St->Hp->(It->Hp->Prop)->Prop
def PIE(X:Cx)(Xi:Xx)(Z:St)(tg:eH)(R:It->Hp->Prop)(itv:ay)(s2:cb):Prop:=
 ∃(it:ca)(fp:Xt)(tn:Nat->fx->Prop)(J:It)(H':Hp),itv=.ref it/\Inv X Xi Z H' s2/\Turn X.prog X.w X.K tg J fp it tn/\tn 0 s2.heap/\(∀b∈fp,ji X Xi H' b)/\R J H'
def PI(X:Cx)(tg iter:eH)(wi:TI):Prop:=
 ∀(Xi:Xx)(s:cb)(Z:St)(H:Hp)(R:It->Hp->Prop),Inv X Xi Z H s->wi Z H R->
  cp (cT X.prog X.w) X.A (eX iter X.env) (λv g=>cp (cT X.prog X.w) X.A (Wx v) (PIE X Xi Z tg R) X.xe g) X.xe s
theorem tF{j:ca}{o:Obj}{n:String}{vs:Xz}{Q:Unit->cb->Prop}(v:s.heap.get? j=ap o)(y:o.cls=.type n)(q:o.data=.fields vs)(l:["enumerate","zip","dict_itemiterator","dict_reverseitemiterator","odict_iterator","itertools.zip_longest","itertools.pairwise"].contains n=cm)(g:Q () s):cp M A (Wj tg (.ref j) u) Q E s:=by
 unfold Wj
 cases tg<;>first
  |exact cx g
  |(cases u<;>first
    |exact cx g
    |(refine ax (wpAny_load v ?_)
      rw[y,q];show cp M A (if (["enumerate","zip","dict_itemiterator","dict_reverseitemiterator","odict_iterator","itertools.zip_longest","itertools.pairwise"].contains n&&vs[0]?==ap (Pi _))=true then _ else _) Q E s
      rw[if_neg (by intro h;rw[l,Ue]at h;cases h)]
      exact cx g))
noncomputable def Itl(K:Pg)(a:ca):It:=
 ⟨λi H=>∃xs x,SqL K H a xs/\xs[i]?=ap x,λi H x H'=>H'=H/\∀xs,SqL K H a xs->xs[i]?=ap x,λi H=>∃xs,SqL K H a xs/\xs.length<=i⟩
noncomputable def Itt(K:Pg)(a:ca):It:=
 ⟨λi H=>∃xs x,ic K H a xs/\xs[i]?=ap x,λi H x H'=>H'=H/\∀xs,ic K H a xs->xs[i]?=ap x,λi H=>∃xs,ic K H a xs/\xs.length<=i⟩
noncomputable def Itr(lo:Int)(n:Nat):It:=⟨λi _=>i<n,λi H x H'=>H'=H/\x=.int (lo+i),λi _=>n<=i⟩
theorem AH(a l:ca):Turn P w K tg (Itl K a) [l] l (λi h=>h.IsListIter l a i) where
 mem:=by simp
 obj:=λi h g b j=>by
  have e:b=l:=by simpa using j
  subst e;obtain⟨o,e,c,d⟩:=g;exact⟨o,e,λv z=>by rw[d]at z;cases z⟩
 keep:=λi h h' g k=>g.at λo e=>k l (by simp) o e
 item:=by
  intro X J T O hc i Xi s Z H E I y g W;subst J T O;obtain⟨xs,x,q,B⟩:=W;obtain⟨R,L,p,hz⟩:=I.list q;obtain⟨u,hu,ru⟩:=L.get B;obtain⟨G,U,f2,S,Y,F⟩:=y l (by simp)
  refine W5 g p.isList (x:=u) (by simpa using hu) λh' n sb=>?_
  have I1:Inv X Xi Z H { s with heap:=h' }:=I.turned (t':=s.toks) (λb o j e=>(sb.2 b j).trans e) G U S Y F;obtain⟨o,e,c,d⟩:=id n;exact⟨u,rfl,tF (s:={ s with heap:=h' }) e c d (by decide) ⟨x,H,I1,ru,⟨rfl,λys hy=>by rw[I.list_inj hy q];exact B⟩,n,λb j=>(y b j).1⟩⟩
 done:=by
  intro X J T O hc i Xi s Z H E I y g W;subst J T O;obtain⟨xs,q,B⟩:=W;obtain⟨R,L,p,hz⟩:=I.list q;obtain⟨G,U,f2,S,Y,F⟩:=y l (by simp)
  have hl:=L.length;exact Xe (I.ok.hd hc) g p.isList (by simp;lia) λh' eb=>⟨rfl,I.turned (t':=s.toks) (λb o j e=>eb b o j e) G U S Y F⟩
 self:=λ_ _ _ _ _ g h=>wpAny_pyIter_listiter g h
theorem wR(a n:ca):Turn P w K tg (Itt K a) [n] n (λi h=>h.IsTupleIter n a i) where
 mem:=by simp
 obj:=λi h g b j=>by
  have e:b=n:=by simpa using j
  subst e;obtain⟨o,e,c,d⟩:=g;exact⟨o,e,λv z=>by rw[d]at z;cases z⟩
 keep:=λi h h' g k=>g.at λo e=>k n (by simp) o e
 item:=by
  intro X L T R hc i Xi s Z H E I B g W;subst L T R;obtain⟨xs,x,y,F⟩:=W;obtain⟨l,O,p,hz⟩:=I.tuple y;obtain⟨u,hu,ru⟩:=O.get F;obtain⟨J,U,f2,S,Y,G⟩:=B n (by simp)
  refine wpAny_pyNext_tuple_item g (show s.heap.IsTuple a l.toArray from p) (x:=u) (by simpa using hu) λh' q sb=>?_
  have I1:Inv X Xi Z H { s with heap:=h' }:=I.turned (t':=s.toks) (λb o j e=>(sb.2 b j).trans e) J U S Y G;obtain⟨o,e,c,d⟩:=id q;exact⟨u,rfl,tF (s:={ s with heap:=h' }) e c d (by decide) ⟨x,H,I1,ru,⟨rfl,λys hy=>by rw[I.tuple_inj hy y];exact F⟩,q,λb j=>(B b j).1⟩⟩
 done:=by
  intro X L T R hc i Xi s Z H E I B g W;subst L T R;obtain⟨xs,y,F⟩:=W;obtain⟨l,O,p,hz⟩:=I.tuple y;obtain⟨J,U,f2,S,Y,G⟩:=B n (by simp)
  have hl:=O.length;exact wpAny_pyNext_tuple_end (I.ok.hd hc) g (show s.heap.IsTuple a l.toArray from p) (by simp;lia) λh' eb=>⟨rfl,I.turned (t':=s.toks) (λb o j e=>eb b o j e) J U S Y G⟩
 self:=λ_ _ _ _ _ g h=>wpAny_pyIter_tupleiter g h
theorem wA(j:ca)(B:Int)(n:Nat):Turn P w K tg (Itr B n) [j] j (λi h=>IsRangeIter h j (B+(i:Nat)*1) ((n:Int)-(i:Nat)) 1) where
 mem:=by simp
 obj:=λi h g b l=>by
  have e:b=j:=by simpa using l
  subst e;exact⟨_,g,λv z=>by
   have z':Data.fields _=Data.cell v:=z;cases z'⟩
 keep:=λi h h' g k=>k j (by simp) _ g
 item:=by
  intro X J S L R i Xi s Z H E I y g U;subst J S L;obtain⟨G,T,f2,O,Y,F⟩:=y j (by simp)
  have W:=Walks.range (prog:=X.prog) (w:=X.w) (I.ok.hd R) j B 1 n;refine W.item i s _ _ U g λv h' tk hv q kk=>?_;obtain⟨t,rfl⟩:=hv;have I1:Inv X Xi Z H { s with heap:=h',toks:=tk }:=I.turned (λb o l e=>kk b o (by simpa using l) e) G T O Y F
  refine⟨_,rfl,tF (s:={ s with heap:=h',toks:=tk }) (n:="range_iterator") q rfl rfl (by decide) ⟨.int (B+i),H,I1,⟨t,?_⟩,⟨rfl,rfl⟩,q,λb l=>(y b l).1⟩⟩
  rw[TZ]
 done:=by
  intro X J S L R i Xi s Z H E I y g U;subst J S L;obtain⟨G,T,f2,O,Y,F⟩:=y j (by simp)
  exact wpAny_pyNext_range_end (I.ok.hd R) g (by have:n<=i:=U;lia) λh' eb=>⟨rfl,I.turned (t':=s.toks) (λb o l e=>eb b o l e) G T O Y F⟩
 self:=λ_ _ _ _ _ g h=>wpAny_pyIter_rangeiter g h
section
theorem B7{R:It->Hp->Prop}{g j:Int}{t u v:Tok}{l:Nat}(I:Inv X Xi Z H s)(G:-(2 ^ 62)<=g)(F:g<2 ^ 62)(J:-(2 ^ 62)<=j)(B:j<2 ^ 62)(q:R (Itr g (j-g).toNat) H):cp (cT X.prog X.w) X.A (Wx<|.ref s.heap.objs.size) (PIE X Xi Z tg R) E { s with heap:=s.heap.push { cls:=.type "range",data:=.fields #[.int g t,.int j u,.int 1 v] },toks:=l }:=by
 refine wpAny_pyIter_range (IsRange.new ..) (small_one G F J B) ?_;have I1:Inv X Xi Z H { s with heap:=s.heap.push { cls:=.type "range",data:=.fields #[.int g t,.int j u,.int 1 v] },toks:=l }:=I.kept λb o e=>Pe _ e;refine⟨(s.heap.push { cls:=.type "range",data:=.fields #[.int g t,.int j u,.int 1 v] }).objs.size,[(s.heap.push { cls:=.type "range",data:=.fields #[.int g t,.int j u,.int 1 v] }).objs.size],_,_,H,rfl,
  I1.kept (t':=l) λb o e=>Pe _ e,wA _ g (j-g).toNat,?_,λb z=>?_,q⟩
 .have y:g+((0:Nat):Int)*1=g:=by simp
  have n:(((j-g).toNat:Nat):Int)-((0:Nat):Int)=Builtin.Range.rangeSize g j 1:=by rw[rangeSize_one];split<;>lia
  show IsRangeIter _ _ (g+((0:Nat):Int)*1) ((((j-g).toNat:Nat):Int)-((0:Nat):Int)) 1;rw[y,n];exact Pm _ rfl
 .have e:b=(s.heap.push { cls:=.type "range",data:=.fields #[.int g t,.int j u,.int 1 v] }).objs.size:=by simpa using z
  subst e;exact I1.fpOk (Pl _) (I1.hok.fresh<|Pl _)
noncomputable def NN(ta:TA):TI:=λZ H R=>ta Z H λg H1=>∃j:Int,g=[.int j]/\-(2 ^ 62)<=j/\j<2 ^ 62/\R (Itr 0 j.toNat) H1
theorem A2{a:eH}{ta:TA}(v:Gl X "range")(B:X.mg "range"=bb)(y:PA X [a] ta)(z:cy [a] X.env=[(cm,eX a X.env)]:=by rfl):PI X tg (.Call (.Name "range" p) [a] [] pos) (NN ta):=by
 intro Xi s Z H R I h;refine Call_ (dM I v B boot_range<|P5 (bv (y pos Xi s Z H _ I h) λus G ⟨F,H1,I1,l,g⟩=>?_) z rfl);obtain⟨j,e,g,n,q⟩:=g;subst e;cases l with
 |cons r rr=>
  cases rr;obtain⟨t,rfl⟩:=r;exact call_range_1 (B7 I1 (by lia) (by lia) g n<|by simpa using q)
noncomputable def tFor(wi:TI)(g:TG)(tb:TS):TS:=λD Z H=>wi Z H λJ H1=>∃W:Nat->Nat->St->Hp->Prop,(∃m,W 0 m Z H1)/\∀i m Z H,W i m Z H->
 (J.stop i H/\D.nx Z H)\/(J.go i H/\∃N:St->Hp->Prop,(∀σ' H',N σ' H'->∃m',m'<m/\W (i+1) m' σ' H')/\∀x H',J.yld i H x H'->g x Z H' λj H2=>tb { D with nx:=N,ct:=N,bk:=D.nx } j H2)
noncomputable def lU(fp:Xt)(h:fx):List (ca×Obj):=fp.filterMap λb=>(h.get? b).map λo=>(b,o)
theorem fI{o:Obj}(g:b∈fp)(e:h.get? b=ap o):(b,o)∈lU fp h:=Vd.mpr ⟨b,g,by rw[e];rfl⟩
theorem Am{p:ca×Obj}(l:p∈lU fp h):p.1∈fp/\h.get? p.1=ap p.2:=by
 obtain⟨b,j,e⟩:=Vd.mp l;cases q:h.get? b with
 |none=>rw[q]at e;cases e
 |some o=>
  rw[q]at e;have g:(b,o)=p:=Qa e;subst g;exact⟨j,q⟩
theorem Inv.pinned(I:Inv X Xi Z H s)(B:∀b∈fp,ji X Xi H b)(F:∀b∈fp,∃o,s.heap.get? b=ap o/\∀v,o.data≠.cell v):Inv X (Xi++lU fp s.heap) Z H s:=
 I.pins_of λp l=>(PU.mp l).elim (λz=>I.pin p (P9 _ z)) λz=>by
  obtain⟨j,e⟩:=Am z;obtain⟨q,n,y,_⟩:=B p.1 j;obtain⟨o,g,d⟩:=F p.1 j;rw[e]at g;cases g;exact⟨e,q,n,y,d⟩
theorem Inv.unpinned{pl:Xx}(I:Inv X (Xi++pl) Z H s):Inv X Xi Z H s:=I.pins_of λp g=>I.pin p (P9 _<|R5 _ g)
theorem L5{y:eH}{wi:TI}{g:TG}{tb:TS}(U:W3 (cT X.prog X.w) X.A X.env X.xe)(hc:X.calm=true)(hi:PI X tg y wi)(hg:PG X tg g)(z:zg X body tb)(hs:∀x,Ps y X.env x=pure x:=by intro _;rfl):PS X (.For tg y body [] pos) (tFor wi g tb):=by
 intro Xi s Z H D I h;refine wpAny_For (bv (hi Xi s Z H _ I h) λv s1 h1=>bv h1 λitv s2 h2=>?_) hs;obtain⟨it,fp,tn,J,H2,e,I2,T,st2,f2,W,⟨m0,w0⟩,S⟩:=h2;subst e
 -- what stays true of the iterator's objects through the loop
 have q:∀{H':Hp},(∀b∈fp,H' b=bb)->∀b∈fp,ji X Xi H' b:=λhn b z=>⟨hn b z,(f2 b z).2⟩;refine codeAny_forLoop_any (λn s'=>∃i σ' H',Inv X Xi σ' H' s'/\tn i s'.heap/\(∀b∈fp,H' b=bb)/\W i n σ' H') ?_ m0 ⟨0,Z,H2,I2,st2,λb z=>(f2 b z).1,w0⟩
 rintro n s3 ⟨i,l,H3,I3,G,L,w3⟩
 rcases S i n l H3 w3 with⟨R,qn⟩|⟨go,N,hN,step⟩
 .refine vy U (bv (T.done X rfl rfl rfl hc i Xi s3 l H3 X.xe I3 (q L) G R) λr s4 ⟨hr,I4⟩=>?_)
  subst hr;exact Sc ⟨l,H3,I4,qn⟩
 .refine vy U (bv (T.item X rfl rfl rfl hc i Xi s3 l H3 X.xe I3 (q L) G go) λr s4 ⟨u,hr,h4⟩=>?_)
  subst hr;refine vy U (bv h4 λ_ s5 ⟨x,H5,I5,r5,y5,F,Y⟩=>?_);have I5':=I5.pinned (q Y) (T.obj _ _ F);refine vy U (bv (hg _ s5 l H5 x u _ I5' r5<|step x H5 y5) λ_ s6 ⟨σ6,H6,I6,q6⟩=>?_);refine vy U (bv (z _ s6 σ6 H6 _ I6 q6) λf s7 B=>?_);have again:∀{j:St}{H7:Hp},Inv X (Xi++lU fp s5.heap) j H7 s7->N j H7->∃m,m<n/\∃i σ' H',Inv X Xi σ' H' s7/\tn i s7.heap/\(∀b∈fp,H' b=bb)/\W i m σ' H':=λ{j H7} I7 O=>by
   obtain⟨m',hm,w7⟩:=hN j H7 O;refine⟨m',hm,i+1,j,H7,I7.unpinned,T.keep _ _ _ F λb z o e=>(I7.pin (b,o)<|P9 _<|P9 _<|fI z e).1,λb z=>?_,w7⟩;obtain⟨o,e,d⟩:=T.obj _ _ F b z;exact(I7.pin (b,o)<|P9 _<|P9 _<|fI z e).2.1
  cases f with
  |next=>obtain⟨j,H7,I7,O⟩:=B;exact again I7 O
  |cont=>obtain⟨j,H7,I7,O⟩:=B;exact again I7 O
  |brk=>obtain⟨j,H7,I7,B⟩:=B;exact⟨j,H7,I7.unpinned,B⟩
  |ret v=>obtain⟨x7,j,H7,I7,r7,B⟩:=B;exact⟨x7,j,H7,I7.unpinned,r7,B⟩
end
noncomputable abbrev R2:=V->V->Hp->VK->Prop
def cJ(X:Cx)(f:ay->ay->Sem ay)(r:R2):Prop:=
 ∀(Xi:Xx)(s:cb)(Z:St)(H:Hp)(x y:V)(v u:ay)(Q:VK),Inv X Xi Z H s->RelV x v->RelV y u->r x y H Q->
  cp (cT X.prog X.w) X.A (f v u) (EP X Xi Z Q) X.xe s
def bO(X:Cx)(f:ay)(r:List V->Hp->VK->Prop):Prop:=
 ∀(Xi:Xx)(s:cb)(Z:St)(H:Hp)(xs:List V)(us:Xs)(Q:VK),Inv X Xi Z H s->Vals xs us->r xs H Q->
  cp (cT X.prog X.w) X.A (call f us) (EP X Xi Z Q) X.xe s
def TruR(X:Cx)(r:V->Hp->(Bool->Hp->Prop)->Prop):Prop:=
 ∀(Xi:Xx)(s:cb)(Z:St)(H:Hp)(x:V)(v:ay)(Q:Bool->Hp->Prop),Inv X Xi Z H s->RelV x v->r x H Q->
  cp (cT X.prog X.w) X.A (truthy v) (TP X Xi Z Q) X.xe s
noncomputable def OG(r:R2)(ta tb:TE):TE:=λZ H Q=>ta Z H λx H1=>tb Z H1 λy H2=>r x y H2 Q
noncomputable def rI(C:Int->Int->Prop)(g:Int->Int->V):R2:=λx y H Q=>∃i j,x=.int i/\y=.int j/\C i j/\Q (g i j) H
noncomputable def AJ(g:Int->Int->V):R2:=λx y H Q=>∃i j,x=.int i/\y=.int j/\Q (g i j) H
section
variable{a b:eH}{tc:TE}
theorem IS(F:PE X a ta)(B:PE X b tb){R:V->V->Hp->Prop}(I:Inv X Xi Z H s)(h:ta Z H λx H1=>tb Z H1 λy H2=>R x y H2){f:ay->ay->Sem ay}(G:∀v u g x y H2,Inv X Xi Z H2 g->RelV x v->RelV y u->R x y H2->cp (cT X.prog X.w) X.A (f v u) Q X.xe g):
  cp (cT X.prog X.w) X.A (eX a X.env) (λv s₁=>cp (cT X.prog X.w) X.A (eX b X.env) (λu s₂=>cp (cT X.prog X.w) X.A (f v u) Q X.xe s₂) X.xe s₁) X.xe s:=by
 refine bv (F Xi s Z H _ I h) λv z ⟨x,H1,I1,j,l⟩=>?_;refine bv (B Xi z Z H1 _ I1 l) λu g ⟨y,H2,I2,q,n⟩=>?_;exact G v u g x y H2 I2 j q n
theorem O3(z:cJ X (fy op) r)(B:PE X a ta)(n:PE X b tb):PE X (.BinOp a op b pos) (OG r ta tb):=by
 intro Xi s Z H Q I h;exact wpAny_BinOp (IS B n I h λv u g x y H2 I2 l j q=>z Xi g Z H2 x y v u Q I2 l j q)
theorem Mc{f:ay->ay->Sem ay}{C:Int->Int->Prop}{g:Int->Int->Int}(l:∀(i j:Int)(t u:Tok)(s:cb)(Q:Xw)(E:Xw),C i j->Q (.int (g i j) s.toks) { s with toks:=s.toks+1 }->cp (cT X.prog X.w) X.A (f (.int i t)<|.int j u) Q E s):
  cJ X f (rI C λi j=>.int (g i j)):=by
 intro Xi s Z H x y v u Q I z n h;obtain⟨i,j,rfl,rfl,B,q⟩:=h;obtain⟨t,rfl⟩:=z;obtain⟨t',rfl⟩:=n;exact l i j t t' s _ _ B ⟨.int (g i j),H,I.tok _,⟨_,rfl⟩,q⟩
theorem Cy{f:ay->ay->Sem ay}{g:Int->Int->Int}(l:∀(i j:Int)(t u:Tok)(s:cb)(Q:Xw)(E:Xw),Q (.int (g i j) s.toks) { s with toks:=s.toks+1 }->cp (cT X.prog X.w) X.A (f (.int i t)<|.int j u) Q E s):
  cJ X f (AJ λi j=>.int (g i j)):=by
 intro Xi s Z H x y v u Q I z n h;obtain⟨i,j,rfl,rfl,q⟩:=h;obtain⟨t,rfl⟩:=z;obtain⟨t',rfl⟩:=n;exact l i j t t' s _ _ ⟨.int (g i j),H,I.tok _,⟨_,rfl⟩,q⟩
theorem G7{f:ay->ay->Sem ay}{g:Int->Int->Bool}(l:∀(i j:Int)(t u:Tok)(s:cb)(Q:Xw)(E:Xw),Q (.bool<|g i j) s->cp (cT X.prog X.w) X.A (f (.int i t)<|.int j u) Q E s):
  cJ X f (AJ λi j=>.bl (g i j)):=by
 intro Xi s Z H x y v u Q I z n h;obtain⟨i,j,rfl,rfl,q⟩:=h;obtain⟨t,rfl⟩:=z;obtain⟨t',rfl⟩:=n;exact l i j t t' s _ _ ⟨.bl (g i j),H,I,rfl,q⟩
def FS(i j:Int):Prop:=0<=j/\j<=1000000/\i.natAbs<2 ^ 64
def CMul(i j:Int):Prop:=(-(2 ^ 64)<i/\i<2 ^ 64)\/(-(2 ^ 64)<j/\j<2 ^ 64)
theorem CMul.ok{i j:Int}(h:CMul i j):IntMulOk i j:=by
 rcases h with⟨g,l⟩|⟨g,l⟩
 .exact .of_left (intBits_le_64 g l)
 .exact .of_right (intBits_le_64 g l)
theorem vK(k:Nat):(0:Int)<=2 ^ k:=by
 rw[two_pow_cast];exact Int.natCast_nonneg _
theorem Kn:cJ X (fy .Add) (AJ λi j=>.int (i+j)):=Cy λ_ _ _ _ _ _ _ q=>add_int q
theorem JV:cJ X (fy .Sub) (AJ λi j=>.int (i-j)):=Cy λ_ _ _ _ _ _ _ q=>sub_int q
theorem KI:cJ X (fy .Mult) (rI CMul λi j=>.int (i*j)):=Mc λ_ _ _ _ _ _ _ g q=>mul_int q g.ok
theorem JO:cJ X (fy .Mod) (rI (λ_ j=>0<j) λi j=>.int (i % j)):=Mc λi j _ _ _ _ _ g q=>by
 have l:(0:Int)<j:=g;exact mod_int' (by lia) (by rw[Int.fmod_eq_emod_of_nonneg i (by lia)];exact q)
theorem Lc:cJ X (fy .Pow) (rI FS λi j=>.int (i ^ j.toNat)):=Mc λ_ _ _ _ _ _ _ g q=>pow_int_small g.1 g.2.1 g.2.2 q
theorem Ld:cJ X (fy .LShift) (rI FS λi j=>.int (i*2 ^ j.toNat)):=Mc λ_ _ _ _ _ _ _ g q=>lshift_int_small g.1 g.2.1 g.2.2 q
theorem KP:cJ X (fy .RShift) (rI (λ_ j=>0<=j) λi j=>.int (i / 2 ^ j.toNat)):=Mc λi j _ _ _ _ _ g q=>
 rshift_int g (by rw[Us i (vK _)];exact q)
theorem LO:cJ X (fy .BitAnd) (AJ λi j=>.int (Ro i j)):=Cy λ_ _ _ _ _ _ _ q=>and_int q
theorem Ob:cJ X (fy .BitOr) (AJ λi j=>.int (Tc i j)):=Cy λ_ _ _ _ _ _ _ q=>or_int q
theorem Ka:cJ X (fy .BitXor) (AJ λi j=>.int (Builtin.bitXor i j)):=Cy λ_ _ _ _ _ _ _ q=>xor_int q
end
section
variable{a b:eH}{tc:TE}
theorem Ca{Q:VK}{k g:Bool}(I:Inv X Xi Z H s)(q:Q (.bl k) H)(e:k=g):EP X Xi Z Q (.bool g) s:=by
 subst e;exact⟨.bl k,H,I,rfl,q⟩
theorem MD:cJ X (hG .Lt) (AJ λi j=>.bl (decide (i<j))):=G7 λ_ _ _ _ _ _ _ q=>lt_int q
theorem N0:cJ X (hG .LtE) (AJ λi j=>.bl (decide (i<=j))):=G7 λ_ _ _ _ _ _ _ q=>le_int q
theorem NL:cJ X (hG .Gt) (AJ λi j=>.bl (decide (j<i))):=G7 λ_ _ _ _ _ _ _ q=>gt_int q
theorem OI:cJ X (hG .GtE) (AJ λi j=>.bl (decide (j<=i))):=G7 λ_ _ _ _ _ _ _ q=>ge_int q
theorem JP:cJ X (hG .Is) (λx y H Q=>y=.non/\Q (.bl<|decide (x=.non)) H):=by
 intro Xi s Z H x y v u Q I g j h;obtain⟨rfl,q⟩:=h;cases j;refine is_none_gen (Ca I q ?_)
 cases x<;>first
  |(cases g;rfl)
  |(obtain⟨t,rfl⟩:=g;rfl)
theorem G4:cJ X (hG .IsNot) (λx y H Q=>y=.non/\Q (.bl<|!decide (x=.non)) H):=by
 intro Xi s Z H x y v u Q I g j h;obtain⟨rfl,q⟩:=h;cases j;refine isnot_none_gen (Ca I q ?_)
 cases x<;>first
  |(cases g;rfl)
  |(obtain⟨t,rfl⟩:=g;rfl)
theorem Gc{op:CmpOp}(z:cJ X (hG op) r)(B:PE X a ta)(n:PE X b tb)(F:Wu op b=cm):PE X (.Compare a [op] [b] pos) (OG r ta tb):=by
 intro Xi s Z H Q I h;exact wpAny_Compare1 (IS B n I h λv u g x y H2 I2 l j q=>z Xi g Z H2 x y v u Q I2 l j q) F
noncomputable def NE(t:TE):TT:=λZ H Q=>t Z H λx H'=>∃k,x=.bl k/\Q k H'
theorem E_{op:CmpOp}(L:cJ X (hG op) r)(O:PE X a ta)(J:PE X b tb)(R:Wu op b=cm):PT X (.Compare a [op] [b] pos) (NE<|OG r ta tb):=by
 intro Xi s Z H Q I h;refine wpAny_isTrue_Compare1 (bv (O Xi s Z H _ I h) λv G ⟨x,H1,I1,l,j⟩=>bv (J Xi G Z H1 _ I1 j) λu q ⟨y,H2,I2,F,B⟩=>
  bv (L Xi q Z H2 x y v u _ I2 l F B) λc S ⟨z,H3,I3,g,k,e,n⟩=>?_) R
 subst e;cases g;exact SB ⟨H3,I3,n⟩
def JL(K:Pg)(x:V)(H:Hp)(k:Bool):Prop:=
 match x with
 |.non=>k=cm
 |.bl b=>k=b
 |.int i=>k=(i != 0)
 |.str y=>y.length<=sizeLine/\k=((y.length:Int) != 0)
 |.byt y=>y.size<=sizeLine/\k=((y.size:Int) != 0)
 |.ref p=>(∃xs,SqL K H p xs/\k=!xs.isEmpty)\/(∃xs,ic K H p xs/\k=!xs.isEmpty)\/∃Xk,H p=ap (.dK Xk)/\k=!Xk.isEmpty
 |_=>False
theorem vO{g:Type}{Xk:List (g×V)}{vs:List (g×ay)}(r:KV Xk vs):(!vs.isEmpty)=!Xk.isEmpty:=by
 cases r<;>rfl
theorem mU{xs:List V}{Xo:Xs}(r:Vals xs Xo):(!Xo.toArray.isEmpty)=!xs.isEmpty:=by
 cases r<;>simp
theorem gT:(sizeLine:Nat)<2 ^ 63:=by rw[WK];decide
theorem LN:TruR X (λx H Q=>∃k,JL X.K x H k/\Q k H):=by
 intro Xi s Z H x v Q I n h;obtain⟨k,e,q⟩:=h;have O:=gT;have R:sizeLine=16777216:=WK;cases x with
 |non=>
  cases n;have g:k=false:=e;subst g;exact truthy_none ⟨H,I,q⟩
 |bl b=>
  cases n;have g:k=b:=e;subst g;exact SB ⟨H,I,q⟩
 |int i=>
  obtain⟨t,rfl⟩:=n;have g:k=(i != 0):=e;subst g;exact PySem.P.truthy_int ⟨H,I,q⟩
 |str y=>
  obtain⟨t,rfl⟩:=n;obtain⟨J,g⟩:y.length<=sizeLine/\k=((y.length:Int) != 0):=e;subst g;exact PySem.P.truthy_str (by lia) ⟨H,I.tok _,q⟩
 |byt y=>
  obtain⟨t,rfl⟩:=n;obtain⟨J,g⟩:y.size<=sizeLine/\k=((y.size:Int) != 0):=e;subst g;exact W.truthy_bytes (by lia) ⟨H,I.tok _,q⟩
 |ref p=>
  cases n;have g:(∃l,SqL X.K H p l/\k=!l.isEmpty)\/(∃l,ic X.K H p l/\k=!l.isEmpty)\/∃Xk,H p=ap (.dK Xk)/\k=!Xk.isEmpty:=e;rcases g with⟨l,z,g⟩|⟨l,z,g⟩|⟨Xk,z,g⟩
  .subst g
   obtain⟨F,r,pl,G⟩:=I.list z;have j:=r.length;exact wpAny_truthy_list pl.isList (by simp only[Pk];lia) ⟨H,I.tok _,by rw[mU r];exact q⟩
  .subst g
   obtain⟨F,r,pl,G⟩:=I.tuple z;have j:=r.length;exact truthy_tuple pl (by simp only[Pk];lia) ⟨H,I.tok _,by rw[mU r];exact q⟩
  .subst g
   obtain⟨G,L,B,r,m⟩:Xk.length<=sizeLine/\(p==qa)=cm/\∃B,KV Xk B/\s.heap.DictOf (aU X.prog X.w) p B:=I.hok p _ z;have j:Xk.length=B.length:=QT r;exact wpAny_truthy_dict L m (by lia) ⟨H,I.tok _,by rw[vO r];exact q⟩
 |_=>exact(show False from e).elim
theorem Cc(q:PE X a ta)(y:∀g,Xa a X.env g=(do let v <- g;Wa a.pos;Re [v] (truthy v))):
  PT X a (λZ H Q=>ta Z H λx H'=>∃k,JL X.K x H' k/\Q k H'):=by
 intro Xi s Z H Q I h;exact isTrue_plain (bv (q Xi s Z H _ I h) λv n ⟨x,H1,I1,j,l⟩=>LN Xi n Z H1 x v Q I1 j l) (y _)
theorem vI:cJ X (fy .Add) (λx y H Q=>∃i j,x=.str i/\y=.str j/\i.length+j.length<=sizeLine/\Q (.str (i++j)) H):=by
 intro Xi s Z H x y v u Q I l g h;obtain⟨i,j,rfl,rfl,n,q⟩:=h;obtain⟨t,rfl⟩:=l;obtain⟨t',rfl⟩:=g;exact add_str (λt' z=>⟨.str (i++j),H,I.tok _,⟨_,rfl⟩,q⟩) n
theorem pq{x:V}(r:Vals [x] us):∃u,us=[u]/\RelV x u:=by
 cases r with
 |cons r1 r2=>cases r2;exact⟨_,rfl,r1⟩
theorem Iq{x y:V}(r:Vals [x,y] us):∃u g,us=[u,g]/\RelV x u/\RelV y g:=by
 cases r with
 |cons r1 r2=>
  cases r2 with
  |cons r3 r4=>cases r4;exact⟨_,_,rfl,r1,r3⟩
theorem zW(l:X.calm=true):bO X (.builtin "max") (λxs H Q=>∃i j,xs=[.int i,.int j]/\Q (.int (if j>i then j else i)) H):=by
 intro Xi s Z H xs us Q I r h;obtain⟨i,j,rfl,q⟩:=h;obtain⟨u,v,rfl,⟨t,rfl⟩,⟨t',rfl⟩⟩:=Iq r;refine max_two_ints (I.ok.hd l) λh' n k=>⟨_,H,I.kept k,?_,q⟩
 by_cases g:j>i
 .rw[if_pos g,if_pos g];exact⟨_,rfl⟩
 .rw[if_neg g,if_neg g];exact⟨_,rfl⟩
theorem Az(l:X.calm=true):bO X (.builtin "min") (λxs H Q=>∃i j,xs=[.int i,.int j]/\Q (.int (if j<i then j else i)) H):=by
 intro Xi s Z H xs us Q I r h;obtain⟨i,j,rfl,q⟩:=h;obtain⟨u,v,rfl,⟨t,rfl⟩,⟨t',rfl⟩⟩:=Iq r;refine min_two_ints (I.ok.hd l) λh' n k=>⟨_,H,I.kept k,?_,q⟩
 by_cases g:j<i
 .rw[if_pos g,if_pos g];exact⟨_,rfl⟩
 .rw[if_neg g,if_neg g];exact⟨_,rfl⟩
end
structure ObjM(h:fx)(x dx C:ca)(mA:Xy):Prop where
 obj:h.get? x=ap (Sz C dx)
 ns:h.Ns1 dx mA
 ne:dx≠x
theorem zM(n:h.Ns1 dx mA):∃j,h.get? dx=ap j/\∀name,W.lookIn name j=ap (mA name):=by
 obtain⟨o,es,J,G,l,F,_,I⟩:=n;refine⟨o,G,λname=>?_⟩;have e:=I name;unfold nsFind findBy at e;rw[<- Array.find?_toList]at e;unfold W.lookIn;rw[l];dsimp only
 split
 .rename_i y q
  rw[q]at e;exact congrArg ap e
 .rename_i q
  rw[q]at e;have a:es.toList.any (·.refKey)=false:=by
   rw[List.any_eq_false];intro y v;obtain⟨z,t,g⟩:=F y (Array.mem_toList_iff.mp v);simp[DictEntry.refKey,g]
  have B:¬es.toList.any (·.refKey)=true:=by rw[a];exact PH
  rw[if_neg B];exact congrArg ap e
theorem ObjM.look{x:ca}(I:ObjM h x dx C mA):∃g,W.InstAt h x (Sz C dx) C (ap g)/\∀name,W.lookIn name g=ap (mA name):=
 let ⟨g,ho,hl⟩:=zM I.ns
 ⟨g,⟨I.obj,rfl,rfl,ho⟩,hl⟩
section
variable{prog:eC}{x:ca}{name:Str}{v:ay}
theorem FD{g:Bool}(X:K.In s.heap)(I:ObjM s.heap x dx C mA)(q:R7 K C name=true)(y:Sb K C=true)(z:Qd K (.ref C) name=ap bb)(n:mA name=ap v)(j:W.handedIn v=true)(h:Q v { s with toks:=s.toks+1 }):
  cp (cT prog w) A (getAttr (.ref x) name g) Q E s:=by
 obtain⟨B,J,l⟩:=I.look;exact W.get_value X J (UR q).1 (W.findObj_own y z rfl<|by rw[l,n]) j h
theorem CW{pl:Sem Bool}{Q:ay×List ay->cb->Prop}(X:K.In s.heap)(I:ObjM s.heap x dx C mA)(g:R7 K C name=true)(y:Qd K (.ref C) name=ap (ap<|.ref f))(q:W.isFn K (.ref f)=true)(n:mA name=bb)(h:Q (.ref f,[.ref x]) s):
  cp (cT prog w) A (UV (.ref x) name pl) Q E s:=by
 obtain⟨j,J,l⟩:=I.look;exact W.method_fn X J (UR g).1 (UR g).2 y (beq_iff_eq.mp q) (by show (W.lookIn name j).map (·.isSome)=ap cm;rw[l,n];rfl) h
theorem gD{ns:Xr}{Q:Unit->cb->Prop}(X:K.In s.heap)(I:ObjM s.heap x dx C mA)(U:Qd K (.ref C) "__setattr__"=ap (ap<|.builtin "object.__setattr__"))(S:SU K C=true)(O:W.takerIn K C name=ap bb)(T:Sb K C=true)(R:UB mA ns)(hsz:ns.length<=sizeLine)(h:∀h',ObjM h' x dx C (λy=>if y=name then ap v else mA y)->Qx dx s.heap h'->Q () { s with heap:=h',toks:=s.toks+2 }):
  cp (cT prog w) A (setAttr (.ref x) name v) Q E s:=by
 obtain⟨od,J,hl⟩:=I.look;refine W.set_plain X J U (W.osa_open (s:={ s with toks:=s.toks+1 }) (r:=bb) X J S O λb=>?_);obtain⟨Y,L,l⟩:=W.any_some T;have F:s.heap.get? x=ap ⟨.ref C,ap dx,.plain,#[]⟩:=I.obj;refine ax (cx<|wpAny_bind<|wpAny_bind<|wpAny_loadPart F<|wpAny_bind<|W.Looks.here (s:={ s with toks:=s.toks+1 }) (W.looks_clsIn X L) ?_);rw[l];refine cx (a:=ap dx) (ax<|wpAny_pure<|wpAny_bind ?_);refine wpAny_nsSet1 (s:={ s with toks:=s.toks+1 }) I.ns λh' j g=>?_;obtain⟨oD,G,B,q,n,z⟩:=j.count (PySem.Within.cons name v R);refine ax (wpAny_lookBehind q (by rw[n];exact pastItsLine_dict (PL z<|by rw[Pu];lia)) ?_)
 exact cx (h _ ⟨(g.2 _<|P0 I.ne).trans I.obj,j,I.ne⟩ g)
theorem Bi{R:Result->cb->Prop}{vs:Xs}(X:K.In s.heap)(q:S7 K C=true)(n:Qd K (.ref C) "__init__"=ap (ap<|.ref f))(l:W.typeIn K (.ref f)=ap (.type "function"))(h:Uf (cT prog w) (A.under<|.builtin "type.__call__" ⟨.ref C::vs,kw⟩) (.call (.ref f) ⟨.ref (s.heap.objs.size+1)::vs,kw⟩) (W.InitBack (s.heap.objs.size+1) R)
   { s with heap:=(s.heap.push RB).push (Sz C s.heap.objs.size) }):
  Uf (cT prog w) A (.call (.ref C) ⟨vs,kw⟩) R s:=by
 obtain⟨z,g,d,t,y⟩:=s;exact W.make_core (W.makes_of X q) (W.looks_findIn X n) (λj=>W.bind_fn X j l) (.inl rfl) h
end
noncomputable def da(f:Str)(v:V):List (Str×V)->List (Str×V)
 |[]=>[(f,v)]
 |(g,x)::r=>if g=f then (g,v)::r else (g,x)::da f v r
theorem jM(f g:Str)(v:V):∀fs:List (Str×V),(da f v fs).lookup g=if g=f then ap v else fs.lookup g
 |[]=>by
  show P1 g [(f,v)]=_
  by_cases h:g=f
  .have j:(g==f)=true:=beq_iff_eq.mpr h
   simp only[P1,j,if_pos h]
  .have j:(g==f)=false:=beq_eq_false_iff_ne.mpr h
   simp only[P1,j,if_neg h]
 |(k,x)::r=>by
  have n:=jM f g v r;rw[show da f v ((k,x)::r)=(if k=f then (k,v)::r else (k,x)::da f v r) from rfl]
  by_cases l:k=f
  .rw[if_pos l]
   by_cases h:g=k
   .have j:(g==k)=true:=beq_iff_eq.mpr h
    simp only[P1,j,if_pos (h.trans l)]
   .have j:(g==k)=false:=beq_eq_false_iff_ne.mpr h
    simp only[P1,j,if_neg (λe:g=f=>h (e.trans l.symm))]
  .rw[if_neg l]
   by_cases h:g=k
   .have j:(g==k)=true:=beq_iff_eq.mpr h
    simp only[P1,j,if_neg (λe:g=f=>l (h.symm.trans e))]
   .have j:(g==k)=false:=beq_eq_false_iff_ne.mpr h
    simp only[P1,j];exact n
theorem jc(f:Str)(v:V):∀fs:List (Str×V),f∈(da f v fs).map (·.1)/\∀g,g∈fs.map (·.1)->g∈(da f v fs).map (·.1)
 |[]=>⟨by simp[da],λg h=>by simp at h⟩
 |(k,x)::r=>by
  obtain⟨i1,i2⟩:=jc f v r;rw[show da f v ((k,x)::r)=(if k=f then (k,v)::r else (k,x)::da f v r) from rfl]
  by_cases j:k=f
  .rw[if_pos j]
   subst j;exact⟨by simp,λg h=>by simpa using h⟩
  .rw[if_neg j]
   refine⟨?_,λg h=>?_⟩
   .rw[Pc]
    exact Px _ i1
   .rw[Pc]at h ⊢
    rcases Po.mp h with e|e
    .exact Po.mpr (.inl e)
    .exact Px _ (i2 g e)
theorem jH(f:Str)(v:V):∀fs:List (Str×V),(da f v fs).length<=fs.length+1
 |[]=>by simp[da]
 |(k,x)::r=>by
  have j:=jH f v r;rw[show da f v ((k,x)::r)=(if k=f then (k,v)::r else (k,x)::da f v r) from rfl]
  by_cases g:k=f
  .rw[if_pos g,Pu,Pu];lia
  .rw[if_neg g,Pu,Pu];lia
theorem dz{v:V}{o:Option ay}(r:RelO (ap v) o):∃u,o=ap u/\RelV v u:=by
 cases o with
 |none=>exact(show False from r).elim
 |some u=>exact⟨u,rfl,r⟩
theorem j7{o:Option ay}(r:RelO bb o):o=none:=by
 cases o with
 |none=>rfl
 |some u=>exact(show False from r).elim
theorem A7{v:V}(r:RelV v u):W.handedIn u=true:=by
 cases v with
 |non=>cases (show u=Qh from r);rfl
 |bl b=>cases (show u=Sg b from r);rfl
 |int i=>obtain⟨t,e⟩:=(show ∃t,u=Rz i t from r);cases e;rfl
 |str x=>obtain⟨t,e⟩:=(show ∃t,u=SQ x t from r);cases e;rfl
 |byt b=>obtain⟨t,e⟩:=(show ∃t,u=Value.bytes b t from r);cases e;rfl
 |flt b=>obtain⟨t,e⟩:=(show ∃t,u=US b t from r);cases e;rfl
 |ref a=>cases (show u=PC a from r);rfl
 |ty n=>cases (show u=RV n from r);rfl
section
variable{fs fs':List (Str×V)}
theorem kf(g:HOk P w H h)(e:H a=ap (.ins C dx fs)):∃mA,ObjM h a dx C mA/\(∀f,RelO (fs.lookup f) (mA f))/\UB mA (fs.map (·.1))/\fs.length<=1000/\H dx=ap (.own a):=by
 obtain⟨d,z,ne,j,mA,n,r,q⟩:=(show ObjOk P w H h a (.ins C dx fs) from g a _ e);exact⟨mA,⟨j,n,ne⟩,r,q,z,d⟩
end
structure Cls(K:Pg)(C:ca):Prop where
 pg:R7 K C TR=true
 hd:Sb K C=true
 po:SU K C=true
 sa:Qd K (.ref C) "__setattr__"=ap (ap<|.builtin "object.__setattr__")
theorem Cls.get(c:Cls K C)(f:Str):R7 K C f=true:=c.pg
def NoAttr(K:Pg)(C:ca)(f:Str):Prop:=Qd K (.ref C) f=ap bb
theorem NoAttr.taker{f:Str}(n:NoAttr K C f):W.takerIn K C f=ap none:=by
 unfold W.takerIn;rw[show Qd K (.ref C) f=ap bb from n];rfl
structure Meth(K:Pg)(C:ca)(m:Str)(f:ca):Prop where
 at_:Qd K (.ref C) m=ap (ap<|.ref f)
 fn:W.isFn K (.ref f)=true
 kp:QG K (.ref f)=true
section
variable{fs:List (Str×V)}{f:Str}{v:V}
theorem mj{b:Bool}(I:Inv X Xi Z H s)(e:H a=ap (.ins C dx fs))(c:Cls X.K C)(n:NoAttr X.K C f)(l:fs.lookup f=ap v)(h:∀u s',Inv X Xi Z H s'->RelV v u->Q u s'):cp (cT X.prog X.w) A (getAttr (.ref a) f b) Q E s:=by
 obtain⟨mA,O,r,_,_,_⟩:=kf I.hok e;obtain⟨u,j,g⟩:=dz (v:=v) (o:=mA f) (by rw[<- l];exact r f)
 exact FD I.kIn O (c.get f) c.hd n j (A7 g) (h u _ (I.tok _) g)
theorem nq{g:ca}{pl:Sem Bool}{Q:ay×List ay->cb->Prop}(I:Inv X Xi Z H s)(e:H a=ap (.ins C dx fs))(c:Cls X.K C)(k:Meth X.K C m g)(l:fs.lookup m=bb)(h:Q (.ref g,[.ref a]) s):cp (cT X.prog X.w) A (UV (.ref a) m pl) Q E s:=by
 obtain⟨mA,O,r,_,_,_⟩:=kf I.hok e;have j:mA m=none:=j7 (by rw[<- l];exact r m)
 exact CW I.kIn O (c.get m) k.at_ k.fn j h
theorem mI{y:V}{Q:Unit->cb->Prop}(I:Inv X Xi Z H s)(e:H a=ap (.ins C dx fs))(c:Cls X.K C)(n:NoAttr X.K C f)(R:fs.length<1000)(L:RelV y u)(h:∀s',Inv X Xi Z (upd H a<|.ins C dx<|da f y fs) s'->Q () s'):cp (cT X.prog X.w) A (setAttr (.ref a) f u) Q E s:=by
 obtain⟨mA,O,r,j,_,l⟩:=kf I.hok e;have J:(fs.map (·.1)).length<=sizeLine:=by rw[Pa,WK];lia
 refine gD I.kIn O c.sa c.po n.taker c.hd j J λh' O' F=>h _ ?_;have hd:∃o,h'.get? dx=ap o:=let ⟨o,_,_,e',_⟩:=O'.ns;⟨o,e'⟩;refine I.write (x:=a) (e:=dx) (by rw[e];exact QZ) (.inr l) (λb q B z=>(F.2 b B).trans z) hd ?_
 refine⟨by rw[aF O.ne];exact l,?_,O.ne,O'.obj,_,O'.ns,λg=>?_,λg G=>?_⟩
 .have:=jH f y fs;lia
 .show RelO ((da f y fs).lookup g) (if g=f then ap u else mA g)
  rw[jM]
  by_cases q:g=f
  .rw[if_pos q,if_pos q];exact L
  .rw[if_neg q,if_neg q];exact r g
 .by_cases q:g=f
  .rw[q];exact(jc f y fs).1
  .refine (jc f y fs).2 g (j g λz=>G ?_)
   show (if g=f then ap u else mA g)=bb
   rw[if_neg q];exact z
theorem E4(I:Inv X Xi Z H s):Inv X Xi Z (upd (upd H s.heap.objs.size<|.own (s.heap.objs.size+1)) (s.heap.objs.size+1)<|.ins C s.heap.objs.size [])
  { s with heap:=(s.heap.push RB).push (Sz C s.heap.objs.size) }:=by
 have g:(s.heap.push RB).get? s.heap.objs.size=ap RB:=Pm s.heap rfl;have n:((s.heap.push RB).push<|Sz C s.heap.objs.size).get? (s.heap.objs.size+1)=ap (Sz C s.heap.objs.size):=by
  have:=Pm (s.heap.push RB) (o:=Sz C s.heap.objs.size) rfl
  rwa [Qi]at this
 have z:(s.heap.push RB).Ns s.heap.objs.size (λ_=>bb):=⟨RB,#[],_,g,rfl,(λe l=>absurd l (by simp)),λ_=>rfl⟩
 have I1:=I.laid (a:=s.heap.objs.size) (o:=.own (s.heap.objs.size+1)) (h':=s.heap.push RB) (t':=s.toks) (λb u q=>Pe _ q) (Pl _) ⟨_,g⟩;refine I1.laid (a:=s.heap.objs.size+1) (o:=.ins C s.heap.objs.size []) (t':=s.toks) (λb u q=>Pe _ q) (UW<|Qi _ _) ?_;have ne:s.heap.objs.size≠s.heap.objs.size+1:=PQ (RZ _);refine⟨by rw[aF ne,upd_same],QY _,ne,n,λ_=>bb,(Heap.Ns1.of_empty z).at λo q=>Pe _ q,λ_=>QZ,λy j=>absurd rfl j⟩
theorem Gv{prog:eC}{env:Env}{f:Str}(g:kl e f env (eX e env)=eX e env)(h:cp (cT prog w) A (eX e env) (λo s₁=>cp (cT prog w) A (getAttr o f true) Q E s₁) E s):cp (cT prog w) A (eX (.Attribute e f pos) env) Q E s:=
 Attribute_any_ h (by rw[arm_eval_Attribute,g])
end
noncomputable def tFld(K:Pg)(ta:TE)(f:Str):TE:=λZ H Q=>ta Z H λx H1=>∃a C dx fs v,x=.ref a/\H1 a=ap (.ins C dx fs)/\Cls K C/\NoAttr K C f/\fs.lookup f=ap v/\Q v H1
noncomputable def sFld(K:Pg)(ta tv:TE)(f:Str):TS:=λD Z H=>tv Z H λy H1=>ta Z H1 λx H2=>∃a C dx fs,x=.ref a/\H2 a=ap (.ins C dx fs)/\Cls K C/\NoAttr K C f/\fs.length<1000/\
 D.nx Z (upd H2 a<|.ins C dx<|da f y fs)
def KJ(X:Cx)(op:Wo)(rd:V->V->Hp->VK->Prop):Prop:=
 ∀(Xi:Xx)(s:cb)(Z:St)(H:Hp)(x y:V)(u v:ay)(Q:VK),Inv X Xi Z H s->RelV x u->RelV y v->rd x y H Q->cp (cT X.prog X.w) X.A (inplaceOp op u v) (EP X Xi Z Q) X.xe s
noncomputable def Fq(K:Pg)(ta tv:TE)(rd:V->V->Hp->VK->Prop)(f:Str):TS:=λD Z H=>ta Z H λx H1=>∃a C dx fs v,x=.ref a/\H1 a=ap (.ins C dx fs)/\Cls K C/\NoAttr K C f/\fs.lookup f=ap v/\
 tv Z H1 λy H2=>rd v y H2 λz H3=>∃dx' fs',H3 a=ap (.ins C dx' fs')/\fs'.length<1000/\D.nx Z (upd H3 a<|.ins C dx'<|da f z fs')
section
variable{o value:eH}{f:Str}{tpos:Pos}{tv:TE}
theorem Km(G:PE X e ta)(F:kl e f X.env (eX e X.env)=eX e X.env):PE X (.Attribute e f pos) (tFld X.K ta f):=by
 intro Xi s Z H Q I h;refine Gv F (bv (G Xi s Z H _ I h) λu O z=>?_);obtain⟨x,H1,I1,g,a,C,dx,fs,v,B,y,c,n,l,q⟩:=z;subst B;obtain rfl:u=PC a:=g;exact mj I1 y c n l λL J I2 j=>⟨v,H1,I2,j,q⟩
theorem L0(R:PE X o ta)(L:PE X value tv)(O:x9 value (ap<|.Attribute o f pos') pos.line X.env=pure cm):PS X (.Assign [.Attribute o f pos'] value pos) (sFld X.K ta tv f):=by
 intro Xi s Z H D I h;refine plainObj_wpAny_Assign_Attribute (bv (L Xi s Z H _ I h) λu J ⟨y,H1,I1,g,q⟩=>bv (R Xi J Z H1 _ I1 q) λB S F=>?_) O;obtain⟨x,H2,I2,v,a,C,dx,fs,G,z,c,n,l,j⟩:=F;subst G;obtain rfl:B=PC a:=v;exact mI I2 z c n l g λT I3=>⟨Z,_,I3,j⟩
theorem om{B:V->V->Hp->VK->Prop}(ha:PE X o ta)(hv:PE X value tv)(j:KJ X op B):PS X (.AugAssign (.Attribute o f tpos) op value pos) (Fq X.K ta tv B f):=by
 intro Xi s Z H D I h;refine wpAny_AugAssign_AttributeAny (bv (ha Xi s Z H _ I h) λov s1 zz=>?_);obtain⟨x,H1,I1,W,a,C,dx,fs,v,ex,ea,c,n,l,q⟩:=zz;subst ex;obtain rfl:ov=PC a:=W;refine mj I1 ea c n l λu G I2 O=>bv (hv Xi G Z H1 _ I2 q) λY U ⟨y,H2,I3,T,S⟩=>bv (j Xi U Z H2 v y u Y _ I3 O T S) λw4 s4 ⟨z,H3,I4,rz,F,J,g,R,L⟩=>?_;exact mI I4 g c n R rz λs5 I5=>⟨Z,_,I5,L⟩
def rAdd:V->V->Hp->VK->Prop:=λx y H Q=>∃i j,x=.int i/\y=.int j/\Q (.int (i+j)) H
def rSub:V->V->Hp->VK->Prop:=λx y H Q=>∃i j,x=.int i/\y=.int j/\Q (.int (i-j)) H
theorem Lq:KJ X .Add rAdd:=by
 rintro Xi s Z H x y u v Q I l g ⟨i,j,rfl,rfl,q⟩
 obtain⟨t,rfl⟩:=(show ∃t,u=Rz i t from l);obtain⟨t',rfl⟩:=(show ∃t',v=Rz j t' from g);exact PyProof.Rows.iadd_int ⟨.int (i+j),H,I.tok _,⟨_,rfl⟩,q⟩
theorem Kf:KJ X .Sub rSub:=by
 rintro Xi s Z H x y u v Q I l g ⟨i,j,rfl,rfl,q⟩
 obtain⟨t,rfl⟩:=(show ∃t,u=Rz i t from l);obtain⟨t',rfl⟩:=(show ∃t',v=Rz j t' from g);exact PyProof.Rows.isub_int ⟨.int (i-j),H,I.tok _,⟨_,rfl⟩,q⟩
end
section
variable{c:ay}{b:Bool}
inductive TyOf(K:Pg)(H:Hp):V->ay->Prop where
 |non:TyOf K H .non (.type "NoneType")
 |bl (x:Bool):TyOf K H (.bl x) (.type "bool")
 |int (i:Int):TyOf K H (.int i) (.type "int")
 |str (x:Str):TyOf K H (.str x) (.type "str")
 |flt (x:UInt64):TyOf K H (.flt x) (.type "float")
 |lst {a:ca} {xs:List V} (e:H a=ap (.lst xs)):TyOf K H (.ref a) (.type "list")
 |frz {a:ca} {o:Obj} {xs:List V} (e:H a=ap (.frz o<|.lst xs)):TyOf K H (.ref a) (.type "list")
 |tup {a:ca} {xs:List V} (e:H a=ap (.tup xs)):TyOf K H (.ref a) (.type "tuple")
 |dK {a:ca} {Xk:List (aB×V)} (e:H a=ap (.dK Xk)):TyOf K H (.ref a) (.type "dict")
 |dT {a:ca} {Xk:List (List aB×V)} (e:H a=ap (.dT Xk)):TyOf K H (.ref a) (.type "dict")
 |ins {a C dx:ca} {fs:List (Str×V)} (e:H a=ap (.ins C dx fs)) (cl:Cls K C) (ha:Qd K (.ref C) "__class__"=ap (ap<|.builtin "object.__class__"))
   (hn:W.specialIn K (.builtin "object.__class__") "__get__"=ap (ap<|.builtin "getset_descriptor.__get__")) (htk:W.takesIn K (.builtin "object.__class__")=ap true)
   (hm:W.mroIn K C (.type "object")=ap true):TyOf K H (.ref a) (.ref C)
theorem A1{x:V}{t:ay}(I:Inv X Xi Z H s)(g:RelV x u)(ty:TyOf X.K H x t)(e:W.kitOne X.K t c=ap b)(h:∀F,Q (.bool b) { s with toks:=F }):
  cp (cT X.prog X.w) A (call (.builtin "isinstance") [u,c]) Q E s:=by
 cases ty with
 |non=>cases (show u=Qh from g);exact RG W.kitx_none I.kIn QZ e (λz=>nomatch z) h
 |bl y=>cases (show u=Sg y from g);exact RG W.kitx_bool I.kIn QZ e (λz=>nomatch z) h
 |int i=>obtain⟨t,q⟩:=(show ∃t,u=Rz i t from g);cases q;exact RG W.kitx_int I.kIn QZ e (λz=>nomatch z) h
 |str y=>obtain⟨t,q⟩:=(show ∃t,u=SQ y t from g);cases q;exact RG W.kitx_str I.kIn QZ e (λz=>nomatch z) h
 |flt y=>obtain⟨t,q⟩:=(show ∃t,u=US y t from g);cases q;exact RG W.kitx_float I.kIn QZ e (λz=>nomatch z) h
 |@lst a l ea=>
  cases (show u=PC a from g);obtain⟨_,_,n,_,j⟩:=(show ObjOk X.prog X.w H s.heap a (.lst l) from I.hok a _ ea);exact RG W.kitx_list I.kIn ⟨_,j,rfl⟩ e (λz=>nomatch z) h
 |@frz a ob l ea=>
  cases (show u=PC a from g);obtain⟨_,_,_,n,_,j⟩:=(show ObjOk X.prog X.w H s.heap a (.frz ob<|.lst l) from I.hok a _ ea);exact RG W.kitx_list I.kIn ⟨_,j,rfl⟩ e (λz=>nomatch z) h
 |@tup a l ea=>
  cases (show u=PC a from g);obtain⟨_,_,_,p⟩:=(show ObjOk X.prog X.w H s.heap a (.tup l) from I.hok a _ ea);obtain⟨o,j,⟨v,_⟩,_⟩:=p;exact RG W.kitx_tuple I.kIn ⟨o,j,v⟩ e (λz=>nomatch z) h
 |@dK a Xk ea=>
  cases (show u=PC a from g);obtain⟨_,_,L,_,p⟩:=(show ObjOk X.prog X.w H s.heap a (.dK Xk) from I.hok a _ ea);obtain⟨o,es,B,j,v,_⟩:=p;exact RG W.kitx_dict I.kIn ⟨o,j,v.1⟩ e (λz=>nomatch z) h
 |@dT a Xk ea=>
  cases (show u=PC a from g);obtain⟨_,_,l,_,o,es,B,j,v,_⟩:=(show ObjOk X.prog X.w H s.heap a (.dT Xk) from I.hok a _ ea);exact RG W.kitx_dict I.kIn ⟨o,j,v.1⟩ e (λz=>nomatch z) h
 |@ins a C dx fs ea cl ha hn htk hm=>
  cases (show u=PC a from g);obtain⟨mA,O,_⟩:=kf I.hok ea;obtain⟨G,J,_⟩:=O.look;exact RG (W.kitx_own (cl.get _) cl.hd ha hn htk hm) I.kIn J e (λz=>nomatch z) h
end
structure Room(k:Nat)(A:fv):Prop where
 hd:A.handled=bb
 dp:A.depth+3*k+5<recursionLimit
 un:A.units+16*k+200<pA
 gd:A.guards=ap []
theorem Room.mono{j k:Nat}(r:Room k A)(h:j<=k):Room j A:=⟨r.hd,by have:=r.dp;lia,by have:=r.un;lia,r.gd⟩
theorem Room.deeper{k:Nat}(r:Room (k+1) A)(env:Env):Room k (A.deeper env):=
 ⟨r.hd,by have:=r.dp;show A.depth+1+3*k+5<_;lia,by have:=r.un;show A.units+3+16*k+200<_;lia,r.gd⟩
theorem xa:(A.under<|.builtin "type.__call__" ⟨.ref C::us,kw⟩).depth=A.depth+1:=by
 first|rfl|simp[Tn,Code.weight,Code.isCreation,Code.isGuard,Code.isCaller,Code.frames,UL,guardIds]
theorem wj:(A.under<|.builtin "type.__call__" ⟨.ref C::us,kw⟩).units=A.units+1:=by
 first|rfl|simp[Tn,Code.cUnits,Code.frames,UL]
theorem sW:(A.under<|.builtin "type.__call__" ⟨.ref C::us,kw⟩).guards=A.guards:=by
 first|rfl|simp[Tn,Code.guards,pushGuards,Code.isGuard,guardIds]
theorem Room.make{k:Nat}(r:Room (k+1) A)(C:ca)(us:Xs)(kw:List (Str×ay)):Room k (A.under<|.builtin "type.__call__" ⟨.ref C::us,kw⟩):=
 ⟨r.hd,by have:=r.dp;rw[xa];lia,by have:=r.un;rw[wj];lia,by rw[sW];exact r.gd⟩
theorem Room.depth{k:Nat}(r:Room k A):A.depth<recursionLimit:=by have:=r.dp;lia
theorem Room.units{k:Nat}(r:Room k A):A.units+64<cLine:=by have:=r.un;lia
noncomputable def OP:TA:=λ_ H Q=>Q [] H
noncomputable def Nt(ta:TE)(tr:TA):TA:=λZ H Q=>ta Z H λx H1=>tr Z H1 λg H2=>Q (x::g) H2
section
variable{t:TA}
theorem DU:PA X [] OP:=λ_ _ _ _ H Q I h=>RM ⟨[],H,I,.nil,h⟩
theorem yz(y:PE X e te)(B:PA X es t)(z:cy (e::es) X.env=(cm,eX e X.env)::cy es X.env:=by rfl):PA X (e::es) (Nt te t):=by
 intro pos Xi s Z H Q I h;rw[z];show cp _ _ (spliced ((cm,eX e X.env)::g3 pos (cy es X.env))) _ _ s;refine Q9 (bv (y Xi s Z H _ I h) λu v ⟨x,H1,I1,l,j⟩=>?_);exact bv (B pos Xi v Z H1 _ I1 j) λus F ⟨g,H2,I2,q,n⟩=>⟨x::g,H2,I2,.cons l q,n⟩
noncomputable def tTup(t:TA):TE:=λZ H Q=>t Z H λg H1=>g.length<=sizeLine/\∀p,H1 p=bb->Q (.ref p) (upd H1 p<|.tup g)
noncomputable def tLst(t:TA):TE:=λZ H Q=>t Z H λg H1=>g.length<=sizeLine/\∀p,H1 p=bb->Q (.ref p) (upd H1 p<|.lst g)
theorem IT{x1}(h:PA X es t):PE X (.Tuple es x1 pos) (tTup t):=by
 intro Xi s Z H Q I l;refine wpAny_Tuple_spliced (bv (h pos Xi s Z H _ I l) λus g ⟨j,H1,I1,r,z,q⟩=>⟨by rw[<- r.length];exact z,?_⟩)
 have n:H1 g.heap.objs.size=none:=I1.hok.fresh (Pl _);refine⟨.ref g.heap.objs.size,upd H1 g.heap.objs.size (.tup j),I1.laid (t':=g.toks) (λb u e=>Pe _ e) (Pl _) ?_,rfl,q _ n⟩;exact⟨z,us,r,⟨_,Pm _ rfl,⟨rfl,_,rfl⟩,rfl⟩⟩
theorem Ls(h:PA X es t):PE X (.List es pos) (tLst t):=by
 intro Xi s Z H Q I l;refine wpAny_List_spliced (bv (h pos Xi s Z H _ I l) λus g ⟨j,H1,I1,r,z,q⟩=>⟨by rw[<- r.length];exact z,?_⟩)
 have n:H1 g.heap.objs.size=none:=I1.hok.fresh (Pl _);refine⟨.ref g.heap.objs.size,upd H1 g.heap.objs.size (.lst j),I1.laid (t':=g.toks) (λb u e=>Pe _ e) (Pl _) ?_,rfl,q _ n⟩;exact⟨z,us,0,r,Pm _ rfl⟩
end
noncomputable abbrev Sp:=List V->Hp->VK->XK->Prop
noncomputable abbrev nV:=List Env->Hp->cb->XK->ay->cb->Prop
structure Env0(P:eC)(w:fe)(K:Pg)(mg:Xy)(base:fx)(A:fv)(outer:List Env)(s:cb)(H:Hp):Prop where
 frames:A.frames=ap outer
 mod:Mod K mg base
 bs:∀b o,base.get? b=ap o->s.heap.get? b=ap o/\H b=bb
 bsz:base.objs.size<=s.heap.objs.size
 funs:s.heap.FunFrames base outer
 frf:∀b∈gJ outer,H b=bb
 hok:HOk P w H s.heap
 bare:Wc s.gens
def CE(outer:List Env)(P:eC)(w:fe)(H:Hp)(s:cb)(Q:VK)(u:ay)(s':cb):Prop:=
 ∃v H',s'.os=s.os/\Wc s'.gens/\Un (gJ outer) [] H H' s.heap s'.heap/\HOk P w H' s'.heap/\RelV v u/\Q v H'
def CR(CX:nV)(outer:List Env)(P:eC)(w:fe)(H:Hp)(s:cb)(Q:VK)(E:XK)(r:Result)(s':cb):Prop:=
 match r with
 |.ok (.ret u)=>CE outer P w H s Q u s'
 |.ok _=>False
 |.error e=>CX outer H s E e s'
structure FnOk(P:eC)(w:fe)(K:Pg)(mg:Xy)(base:fx)(CX:nV)(k:Nat)(f:ca)(fd:ff)(ps:Xr)(sp:Sp):Prop where
 len:∀vs H Q E,sp vs H Q E->vs.length=ps.length
 run:∀(A:fv)(outer:List Env)(s:cb)(H:Hp)(args:Args)(us:Xs)(vs:List V)(Q:VK)(E:XK),Room k A->Env0 P w K mg base A outer s H->WN s fd args (ps.zip us)->Vals vs us->sp vs H Q E->
  Uf (cT P w) A (.call (.ref f) args) (CR CX outer P w H s Q E) s
theorem FnOk.imp{k:Nat}{l:Sp}(F:FnOk P w K mg base CX k f fd ps sp)(h:∀vs H Q E,l vs H Q E->sp vs H Q E):FnOk P w K mg base CX k f fd ps l:=
 ⟨λvs H Q E q=>F.len vs H Q E (h _ _ _ _ q),λA g s H j us vs Q E y v n B z=>F.run A g s H j us vs Q E y v n B (h _ _ _ _ z)⟩
theorem Env0.make{g:List Env}(e:Env0 P w K mg base A g s H)(C:ca)(us:Xs)(kw:List (Str×ay)):
  Env0 P w K mg base (A.under<|.builtin "type.__call__" ⟨.ref C::us,kw⟩) g s H:=⟨by first|exact e.frames|(simpa [Tn,Code.envs,UL,pushEnvs] using e.frames),e.mod,e.bs,e.bsz,e.funs,e.frf,e.hok,e.bare⟩
section
variable{s':cb}
theorem Inv.env0(I:Inv X Xi Z H s):Env0 X.prog X.w X.K X.mg X.base X.A X.stack s H:=
 ⟨I.ok.frames,I.ok.mod,I.bs,PL I.ok.bsz I.sz,I.stack,I.stkFree,I.hok,I.bare⟩
theorem Inv.after{Q:VK}(I:Inv X Xi Z H s)(h:CE X.stack X.prog X.w H s Q u s'):EP X Xi Z Q u s':=by
 obtain⟨v,H',os,j,un,n,r,q⟩:=h;obtain⟨y,g,d,t,l⟩:=s';obtain rfl:l=s.os:=os;exact⟨v,H',I.call (h':=y) (g':=g) (d':=d) (t':=t) (ch:=[]) un n j (λb z=>absurd z (by simp)),r,q⟩
end
noncomputable def O0(sp:Sp)(dvs:List V)(E:XK)(t:TA):TE:=λZ H Q=>t Z H λg H1=>sp (g++dvs) H1 Q E
noncomputable def ID(C:ca)(m:Str)(sp:Sp)(dvs:List V)(E:XK)(ta:TE)(t:TA):TE:=λZ H Q=>ta Z H λx H1=>∃a dx fs,x=.ref a/\H1 a=ap (.ins C dx fs)/\fs.lookup m=bb/\
 t Z H1 λg H2=>sp (x::(g++dvs)) H2 Q E
noncomputable def Nz(C:ca)(sp:Sp)(dvs:List V)(E:XK)(t:TA):TE:=λZ H Q=>t Z H λg H1=>∀x dx,H1 x=bb->H1 dx=bb->dx≠x->
 sp (.ref x::(g++dvs)) (upd (upd H1 dx<|.own x) x<|.ins C dx []) (λv H2=>v=.non/\Q (.ref x) H2) E
def Binds(K:Pg)(fd:ff)(ps:Xr)(ds:Xs):Prop:=
 ∀(s:cb)(us:Xs),K.In s.heap->(us++ds).length=ps.length->WN s fd ⟨us,[]⟩ (ps.zip (us++ds))
theorem Binds.all(h:∀us:List ay,us.length=ps.length->WT fd ⟨us,[]⟩=pure (ps.zip us)):Binds K fd ps []:=λs us _ g=>by
 rw[P8]at g ⊢;exact .of_eq (h us g)
def bM(CX:nV)(X:Cx)(E:XK):Prop:=∀(Xi:Xx)(Z:St)(H:Hp)(s:cb)(e:ay)(s':cb),Inv X Xi Z H s->CX X.stack H s E e s'->X.xe e s'
section
variable{k:Nat}{dvs:List V}{ds:Xs}{E:XK}{Xn:Pos}{o:eH}{t:TA}
theorem vY{Q:VK}{vs:List V}(F:FnOk X.prog X.w X.K X.mg X.base CX k f fd ps sp)(z:Room k X.A)(v:Binds X.K fd ps ds)(q:Vals dvs ds)(y:bM CX X E)(I:Inv X Xi Z H s)(r:Vals vs us)(h:sp (vs++dvs) H Q E):cp (cT X.prog X.w) X.A (call (.ref f) us) (EP X Xi Z Q) X.xe s:=by
 have j:Vals (vs++dvs) (us++ds):=r.append q;have n:(us++ds).length=ps.length:=by rw[<- j.length];exact F.len _ _ _ _ h
 refine wpAny_call (SZ (F.run X.A X.stack s H ⟨us,[]⟩ (us++ds) (vs++dvs) Q E z I.env0 (v s us I.kIn n) j h) λr l g=>?_);cases r with
 |error e=>exact y Xi Z H s e l I g
 |ok fl=>
  cases fl with
  |ret u=>exact I.after g
  |next=>exact Qv g
  |brk=>exact Qv g
  |cont=>exact Qv g
theorem xZ(F:FnOk X.prog X.w X.K X.mg X.base CX k f fd ps sp)(z:Room k X.A)(y:Gl X x)(G:X.mg x=ap (.ref f))(v:QG X.K (.ref f)=true)(n:Binds X.K fd ps ds)(j:Vals dvs ds)(l:bM CX X E)(B:PA X (e::es) t)(g:(x==("__debug__":Str))=false:=by decide)(he:cy (e::es) X.env=(cm,eX e X.env)::cy es X.env:=by rfl)(hpl:(g3 pos<|starEach es X.env).any (·.1)=false:=by rfl):
  PE X (.Call (.Name x p) (e::es) [] pos) (O0 sp dvs E t):=by
 intro Xi s Z H Q I h;refine pB (ip I y G ?_ g);refine TQ (h₀:=X.base) I.ok.mod.kin v (bv (B pos Xi s Z H _ I h) λus L ⟨J,H1,I1,r,q⟩=>⟨I1.kIn,?_⟩) he hpl;exact vY F z n j l I1 r q
theorem G1{pl:Sem Bool}(R:PE X o ta)(c:Cls X.K C)(j:Meth X.K C m f)(F:FnOk X.prog X.w X.K X.mg X.base CX k f fd ps sp)(S:Room k X.A)(O:Binds X.K fd ps ds)(J:Vals dvs ds)(L:bM CX X E)(T:PA X (e::es) t)(g:cy (e::es) X.env=(cm,eX e X.env)::cy es X.env:=by rfl)(hpl:(g3 pos<|starEach es X.env).any (·.1)=false:=by rfl)(ht:eX (.Call (.Attribute o m Xn) (e::es) [] pos) X.env=(do
   let ov <- eX o X.env
   Wa Xn.atName
   let (f,first) <- Re [ov] (UV ov m pl)
   WD pos f first (g3 pos<|starEach (e::es) X.env) (wh pos<|keywordEach [] X.env)):=by rfl):
  PE X (.Call (.Attribute o m Xn) (e::es) [] pos) (ID C m sp dvs E ta t):=by
 intro Xi s Z H Q I h;refine W.methodCall_KW (pl:=pl) (bv (R Xi s Z H _ I h) λu G z=>?_) ht;obtain⟨x,H1,I1,v,a,dx,fs,B,y,l,q⟩:=z;subst B;obtain rfl:u=PC a:=v;refine nq I1 y c j l ?_;refine TQ (first:=[.ref a]) (h₀:=X.base) I.ok.mod.kin j.kp (bv (T pos Xi G Z H1 _ I1 q) λus U ⟨vs,H2,I2,r,n⟩=>⟨I2.kIn,?_⟩) g hpl
 exact vY (us:=.ref a::us) (vs:=.ref a::vs) F S O J L I2 (.cons rfl r) n
theorem C0{pl:Sem Bool}(L:PE X o ta)(c:Cls X.K C)(g:Meth X.K C m f)(F:FnOk X.prog X.w X.K X.mg X.base CX k f fd ps sp)(O:Room k X.A)(J:Binds X.K fd ps ds)(z:Vals dvs ds)(G:bM CX X E)(B:eX (.Call (.Attribute o m Xn) [] [] pos) X.env=(do
   let ov <- eX o X.env
   Wa Xn.atName
   let (f,first) <- Re [ov] (UV ov m pl)
   WD pos f first (g3 pos<|starEach [] X.env) (wh pos<|keywordEach [] X.env)):=by rfl):
  PE X (.Call (.Attribute o m Xn) [] [] pos) (ID C m sp dvs E ta OP):=by
 intro Xi s Z H Q I h;refine W.methodCall_KW (pl:=pl) (bv (L Xi s Z H _ I h) λu R v=>?_) B;obtain⟨x,H1,I1,j,a,dx,fs,y,n,l,q⟩:=v;subst y;obtain rfl:u=PC a:=j;refine nq I1 n c g l ?_;exact W.callWith_K0 (first:=[.ref a]) I1.kIn g.kp (vY (us:=[.ref a]) (vs:=[.ref a]) F O J z G I1 (.cons rfl .nil) q)
structure Mk(K:Pg)(C f:ca):Prop where
 makes:S7 K C=true
 init:Qd K (.ref C) "__init__"=ap (ap<|.ref f)
 fn:W.isFn K (.ref f)=true
 kp:QG K (.ref C)=true
theorem Br{Q:VK}{vs:List V}(M:Mk X.K C f)(F:FnOk X.prog X.w X.K X.mg X.base CX k f fd ps sp)(O:Room (k+1) X.A)(J:Binds X.K fd ps ds)(G:Vals dvs ds)(L:bM CX X E)(I:Inv X Xi Z H s)(r:Vals vs us)(h:∀x dx,H x=bb->H dx=bb->dx≠x->sp (.ref x::(vs++dvs)) (upd (upd H dx<|.own x) x<|.ins C dx []) (λv H2=>v=.non/\Q (.ref x) H2) E):
  cp (cT X.prog X.w) X.A (call (.ref C) us) (EP X Xi Z Q) X.xe s:=by
 have j:=h (s.heap.objs.size+1) s.heap.objs.size (I.hok.fresh<|TY _) (I.hok.fresh<|Pl _) (PQ<|RZ _);have I2:=E4 (C:=C) I;have l:Vals (V.ref (s.heap.objs.size+1)::(vs++dvs)) (PC (s.heap.objs.size+1)::(us++ds)):=.cons rfl (r.append G);have y:(PC (s.heap.objs.size+1)::us++ds).length=ps.length:=by
  have e:=l.length;rw[F.len _ _ _ _ j]at e;exact e.symm
 refine wpAny_call (Bi (f:=f) I.kIn M.makes M.init (beq_iff_eq.mp M.fn) (SZ (F.run _ X.stack _ _ ⟨PC (s.heap.objs.size+1)::us,[]⟩ (PC (s.heap.objs.size+1)::(us++ds)) _ _ E (O.make C us [])
  (I2.env0.make C us []) (J _ (PC (s.heap.objs.size+1)::us) I2.kIn y) l j) λr q g=>?_))
 cases r with
 |error e=>exact L Xi Z _ _ e q I2 g
 |ok fl=>
  cases fl with
  |ret u=>
   obtain⟨v,H',I3,z,B,n⟩:=I2.after g;subst B;exact⟨z,⟨V.ref (s.heap.objs.size+1),H',I3,rfl,n⟩⟩
  |next=>exact Qv g
  |brk=>exact Qv g
  |cont=>exact Qv g
theorem FJ(M:Mk X.K C f)(F:FnOk X.prog X.w X.K X.mg X.base CX k f fd ps sp)(y:Room (k+1) X.A)(v:Gl X x)(B:X.mg x=ap (.ref C))(n:Binds X.K fd ps ds)(j:Vals dvs ds)(l:bM CX X E)(z:PA X (e::es) t)(g:(x==("__debug__":Str))=false:=by decide)(he:cy (e::es) X.env=(cm,eX e X.env)::cy es X.env:=by rfl)(hpl:(g3 pos<|starEach es X.env).any (·.1)=false:=by rfl):
  PE X (.Call (.Name x p) (e::es) [] pos) (Nz C sp dvs E t):=by
 intro Xi s Z H Q I h;refine pB (ip I v B ?_ g);refine TQ (h₀:=X.base) I.ok.mod.kin M.kp (bv (z pos Xi s Z H _ I h) λus J ⟨G,H1,I1,r,q⟩=>⟨I1.kIn,?_⟩) he hpl;exact Br M F y n j l I1 r q
end
section
variable{k:Nat}{ks:Xr}{E:XK}{Xn kpos:Pos}{o:eH}{kws:List vx}{t tk:TA}{nm:Option Str}
variable{g:List ay->List ay->List ay}{gV:List V->List V->List V}
end
structure FnScope(N P:Xr)(sc:Pv):Prop where
 kind:sc.kind=.function
 co:sc.isCoroutine=cm
 gen:sc.isGenerator=cm
 nd:N.Nodup
 pre:N.take P.length=P
 par:∀x∈P,sc.names.lookup x=ap .local\/sc.names.lookup x=ap .cell
 nofree:∀y∈sc.names,y.2≠.free
theorem oX{g:Str->Option Wp}{x:Str}:∀{binds:List (Str×ay)}{m:Xy},(∀v,(x,v)∉binds)->W1 g binds m x=m x
 |[],_,_=>rfl
 |(n,v)::r,m,h=>by
  unfold W1;rw[oX λw j=>h w (Px _ j)]
  split
  .have:x≠n:=by rintro rfl;exact h v PJ
   simp[this]
  .rfl
theorem o7{g:Str->Option Wp}{x:Str}:∀{binds:List (Str×ay)}{m:Xy},(∀v,(x,v)∉binds)->W2 g binds m x=m x
 |[],_,_=>rfl
 |(n,v)::r,m,h=>by
  unfold W2;rw[o7 λw j=>h w (Px _ j)]
  split
  .rfl
  .have:x≠n:=by rintro rfl;exact h v PJ
   simp[this]
theorem oM{g:Str->Option Wp}{x:Str}{v:ay}:∀{P:Xr}{vs:Xs}{i:Nat}{m:Xy},P.Nodup->P[i]?=ap x->vs[i]?=ap v->g x=ap .local->
  W1 g (P.zip vs) m x=ap v
 |[],_,_,_,_,h,_,_=>by simp at h
 |_::_,[],_,_,_,_,h,_=>by simp at h
 |p::P,w::vs,0,m,nd,h1,h2,hk=>by
  simp at h1 h2;subst h1;subst h2;show W1 g ((p,w)::P.zip vs) m p=_;unfold W1;rw[oX λv j=>(QI.mp nd).1 (RI j).1,if_pos hk];simp
 |p::P,w::vs,i+1,m,nd,h1,h2,hk=>by
  show W1 g ((p,w)::P.zip vs) m x=_;unfold W1;exact oM (i:=i) (QI.mp nd).2 (by simpa using h1) (by simpa using h2) hk
theorem ou{g:Str->Option Wp}{x:Str}{v:ay}:∀{P:Xr}{vs:Xs}{i:Nat}{m:Xy},P.Nodup->P[i]?=ap x->vs[i]?=ap v->g x≠ap .local->
  W2 g (P.zip vs) m x=ap v
 |[],_,_,_,_,h,_,_=>by simp at h
 |_::_,[],_,_,_,_,h,_=>by simp at h
 |p::P,w::vs,0,m,nd,h1,h2,hk=>by
  simp at h1 h2;subst h1;subst h2;show W2 g ((p,w)::P.zip vs) m p=_;unfold W2;rw[o7 λv j=>(QI.mp nd).1 (RI j).1,if_neg hk];simp
 |p::P,w::vs,i+1,m,nd,h1,h2,hk=>by
  show W2 g ((p,w)::P.zip vs) m x=_;unfold W2;exact ou (i:=i) (QI.mp nd).2 (by simpa using h1) (by simpa using h2) hk
noncomputable def start(N:Xr)(vs:List V):St:=vs.map ap++PN (N.length-vs.length) bb
noncomputable def dL(CX:nV)(P:eC)(w:fe)(K:Pg)(mg:Xy)(base:fx)(N:Xr)(Xj:Str)(scope:Pv)(f:ca)(cd:ay)(A:fv)(outer:List Env)(s:cb)(H:Hp)(E:XK):Cx where
 prog:=P
 w:=w
 K:=K
 mg:=mg
 base:=base
 A:=A.deeper (envOfC Xj scope s.heap.objs.size f cd)
 N:=N
 s₀:=s
 H₀:=H
 env:=envOfC Xj scope s.heap.objs.size f cd
 outer:=outer
 stack:=envOfC Xj scope s.heap.objs.size f cd::outer
 ex:=[]
 calm:=true
 fn:=λ_=>true
 pn:=[]
 xe:=λe l=>cp (cT P w) (A.deeper<|envOfC Xj scope s.heap.objs.size f cd) (leaving (envOfC Xj scope s.heap.objs.size f cd) e) (λ_ g=>CX outer H s E e g) (λj g=>CX outer H s E j g) l
theorem tm{g:Pv}{n:Nat}(h:g.names.lookup x=ap .cell):∃c,(re n g.names []).lookup x=ap c:=by
 have q:=Sa g.names n [] (.inl h);exact QU.mp q
theorem A6{l:Str}{g:Pv}{R:ay}{j:List Env}{W:cb}{E:XK}{vs:List V}(S:FnScope N ps g)(hd:A.handled=bb)(F:Env0 P w K mg base A j s H)(hl:vs.length=ps.length)(r:Vals vs us)(x:InCallC s s.heap.objs.size (W1 (envOfC l g s.heap.objs.size f R).kindOf (ps.zip us) λ_=>bb) (re (s.heap.objs.size+1) g.names []) (W2 (envOfC l g s.heap.objs.size f R).kindOf (ps.zip us) λ_=>bb) W):
  Inv (dL CX P w K mg base N l g f R A j s H E) [] (start N vs) H W:=by
 have Y:ps.length<=N.length:=by have:=congrArg Rb S.pre;rw[SW]at this;lia
 obtain⟨L,tk,rfl,T⟩:=x.done;have G:∀b:ca,b∉(dL CX P w K mg base N l g f R A j s H E).ex:=λb z=>absurd (show b∈([]:Xt) from z) (by simp)
 refine⟨⟨F.mod,S.kind,rfl,rfl,Pl _,λy z c L B=>?_,λy hy=>?_,λy c _ h=>?_,λ_=>hd,Around.frames_deeper F.frames,.inr ⟨rfl,rfl⟩,λb z=>absurd z (G b),F.bs,F.bsz,λb _ _=>G b,λb z=>absurd z (G b),F.funs,F.frf⟩,
  rfl,F.bare,Un.kept T,⟨_,x.toInCall.ns,λi y v L B h3=>?_⟩,λy c h=>⟨_,x.cell y c h⟩,F.hok.fresh (Pl _),λy c h=>?_,λp I=>absurd (show p∈([]:Xx) from I) (by simp),F.hok.kept T,?_⟩
 .exact name_of_addr x.apart (Qj L) (Qj B)
 .have hy:g.names.lookup y=ap .cell\/g.names.lookup y=ap .free:=hy
  rcases hy with hy|hy
  .exact tm hy
  .exact absurd rfl (S.nofree _<|Qj hy)
 .exact TF (x.above y c<|Qj h)
 .have O:i<vs.length:=by
   unfold start at B
   by_cases O:i<vs.length
   .exact O
   .rw[Qy (by simpa using O)]at B
    rw[UG]at B
    split at B<;>cases B
  have ha:vs[i]?=ap v:=by
   unfold start at B;rw[QR (by simpa using O),Ph]at B
   cases e:vs[i]? with
   |none=>rw[e]at B;cases B
   |some a=>rw[e]at B;cases B;rfl
  obtain⟨u,U,rv⟩:=r.get ha;have I:ps[i]?=ap y:=by
   rw[<- S.pre,List.getElem?_take_of_lt (by lia)];exact L
  have J:ps.Nodup:=by rw[<- S.pre];exact S.nd.sublist (List.take_sublist _ _)
  refine⟨u,rv,?_⟩;rcases S.par y (Qn I) with k|k
  .exact .inl ⟨k,oM J I U k⟩
  .obtain⟨c,e⟩:=tm (n:=s.heap.objs.size+1) k
   refine .inr ⟨.inl k,c,e,?_⟩;have q:=x.cell y c e;rw[ou J I U (by show g.names.lookup y≠_;rw[k];decide)]at q
   exact q
 .exact F.hok.fresh (TF<|x.above y c<|Qj h)
 .unfold start
  show _=N.length;rw[Pz,Pa,List.length_replicate];lia
theorem Ic{k:Nat}{name l:Str}{B:Arguments}{g:Pv}{dV kV U pm z ct oc:ay}{an od:Option ca}{osl:Array (Option ay)}(lk:K.lookup f=ap ⟨oc,od,.func (R8 name l B body g dV kV U pm an z ct),osl⟩)(hcd:TN K z l=true)(S:FnScope N ps g)(len:∀vs H Q E,sp vs H Q E->vs.length=ps.length)(L:∀(A:fv)(j:List Env)(s:cb)(H:Hp)(vs:List V)(Q:VK)(E:XK),Room k (A.deeper<|envOfC l g s.heap.objs.size f z)->sp vs H Q E->
   ∃t,zg (dL CX P w K mg base N l g f z A j s H E) body t/\t { nx:=λ_ H'=>Q .non H',rt:=Q } (start N vs) H):
  FnOk P w K mg base CX (k+1) f (R8 name l B body g dV kV U pm an z ct) ps sp:=by
 refine⟨len,λA j s H args us vs Q E hr T hb r R=>?_⟩;have hl:=len _ _ _ _ R;have KX:K.In s.heap:=T.mod.kin.keeps λb o e=>(T.bs b o e).1;have lim:s.heap.NoLimit:=T.mod.nolimit.keeps λb o e=>(T.bs b o e).1;have G:∀y∈ps.zip us,g.names.lookup y.1=ap .local\/(g.names.lookup y.1=ap .cell/\((re (s.heap.objs.size+1) g.names []).lookup y.1).isSome=true):=λ⟨n,v⟩ hy=>by
  rcases S.par n (RI hy).1 with q|q
  .exact .inl q
  .exact .inr ⟨q,Sa _ _ _<|.inl q⟩
 refine codeAny_call_function hr.depth (KX _ _ lk) rfl S.co S.gen rfl (W.codeRec_of KX hcd) (hb _ _ _ _ ?_);refine wpAny_newFunctionEnv_cells S.kind G λenv he s1 x=>?_;subst he;refine⟨lim.keeps x.toInCall.keep,codeAny_func ?_⟩;obtain⟨t,ht,hq⟩:=L A j s H vs Q E (hr.deeper _) R;have I:Inv (dL CX P w K mg base N l g f z A j s H E) [] (start N vs) H s1:=A6 S hr.hd T hl r x;refine j0 (ht [] s1 (start N vs) H _ I hq) (λfl s' O=>?_) λe s' O=>O;have fin:∀{F:St}{H':Hp}{v:V}{u:ay},Inv (dL CX P w K mg base N l g f z A j s H E) [] F H' s'->RelV v u->Q v H'->CE j P w H s Q u s':=
  λ{F H' v u} J Y q=>⟨v,H',J.os,J.bare,J.base,J.hok,Y,q⟩
 cases fl with
 |ret u=>
  obtain⟨v,F,H',J,Y,q⟩:=O;exact fin J Y q
 |next=>
  obtain⟨F,H',J,q⟩:=O;exact fin (v:=V.non) (u:=Qh) J rfl q
 |brk=>
  obtain⟨_,_,_,q⟩:=O;exact Qv q
 |cont=>
  obtain⟨_,_,_,q⟩:=O;exact Qv q
section
variable{t:TA}{id T:String}{r:List V->Hp->VK->Prop}
noncomputable def tCB(r:List V->Hp->VK->Prop)(t:TA):TE:=λZ H Q=>t Z H λg H1=>r g H1 Q
theorem BP(B:bO X (.builtin id) r)(y:Gl X x)(F:X.mg x=bb)(v:eT x=ap (.builtin id))(z:PA X (e::es) t)(q:x≠"__name__":=by decide)(hdb:(x==("__debug__":Str))=false:=by decide)(he:cy (e::es) X.env=(cm,eX e X.env)::cy es X.env:=by rfl)(hpl:(g3 pos<|starEach es X.env).any (·.1)=false:=by rfl):PE X (.Call (.Name x p) (e::es) [] pos) (tCB r t):=by
 intro Xi s Z H Q I h;refine pB (dM I y F v ?_ q hdb);exact PyProof.Rows.callWith_builtin1 (bv (z pos Xi s Z H _ I h) λus n ⟨l,H1,I1,g,j⟩=>B Xi n Z H1 l us Q I1 g j) he hpl
theorem zF(B:bO X (.type T) r)(y:Gl X x)(F:X.mg x=bb)(v:eT x=ap (.type T))(z:PA X (e::es) t)(q:x≠"__name__":=by decide)(hdb:(x==("__debug__":Str))=false:=by decide)(he:cy (e::es) X.env=(cm,eX e X.env)::cy es X.env:=by rfl)(hpl:(g3 pos<|starEach es X.env).any (·.1)=false:=by rfl):PE X (.Call (.Name x p) (e::es) [] pos) (tCB r t):=by
 intro Xi s Z H Q I h;refine pB (dM I y F v ?_ q hdb);exact P5 (bv (z pos Xi s Z H _ I h) λus n ⟨l,H1,I1,g,j⟩=>B Xi n Z H1 l us Q I1 g j) he hpl
end
end _2
namespace HT
open PySem PyProof.Rows
section
open PySem.SeqAt
open PySem.AutoSeq1 (wpAny_loadPart')
open PySem.MeetsSeq PySem.MeetsSeq2 PySem.MeetsSeq3
end
section
variable {prog:eC}{w:fe}{A:fv}{E:Xw}{s:cb}
theorem Fn{t b:ca}{vs a:Xs}{Q:Xw}(y:WM s.heap t vs.toArray)(z:WM s.heap b a.toArray)(x:vs≠[])
  (C:a=[]->Q (.ref t) s) (B:a≠[]->Q (.ref s.heap.objs.size) { s with heap:=s.heap.push { cls:=.type "tuple",data:=.seq (vs++a).toArray } })
  (hsz:vs.length+a.length<=sizeLine):cp (cT prog w) A (fy .Add (.ref t)<|.ref b) Q E s:=by
 obtain⟨⟨cls,u,data,q⟩,l,v,n,o⟩:=id y;obtain⟨⟨p,f,m,h⟩,c,i,r,g⟩:=id z;simp only at v o i g;subst v o i g;have e:vs.toArray++a.toArray=(vs++a).toArray:=by simp
 by_cases j:a=[]
 .exact Xb ⟨_,l,rfl⟩ ⟨_,c,rfl⟩ WH WX SS SH (Sw _ _)
   (tuple_addW1 t b vs.toArray a.toArray n r u f q h (by simpa using x)<|by simp[j]) ⟨l,c,C j⟩
 .refine Xb ⟨_,l,rfl⟩ ⟨_,c,rfl⟩ WH WX SS SH (Sw _ _)
   (tuple_addW2 t b vs.toArray a.toArray n r u f q h (by simpa using x) (by simpa using j)<|by rw[Pk,Pk];exact hsz) ⟨l,c,?_⟩
  rw[e];exact B j
noncomputable def sIx(n d:Nat):Option Int->Nat
 |none=>d
 |some v=>if v<0 then (v+(n:Int)).toNat else min v.toNat n
theorem CZ(n d:Nat):sIx n d bb=d:=rfl
theorem Ff(n d k:Nat):sIx n d (ap (k:Int))=min k n:=by
 show (if (k:Int)<0 then ((k:Int)+(n:Int)).toNat else min (k:Int).toNat n)=min k n
 rw[if_neg (by lia),Pn]
theorem L9(n d:Nat)(b:d<=n)(o:Option Int):sIx n d o<=n:=by
 cases o with
 |none=>exact b
 |some v=>
  show (if v<0 then (v+(n:Int)).toNat else min v.toNat n)<=n
  by_cases a:v<0
  .rw[if_pos a];lia
  .rw[if_neg a];exact Nat.min_le_right _ _
theorem xw(v:Int)(n d:Nat):(if v<0 then max (v+(n:Int)) 0 else min v (n:Int))=((sIx n d (ap v):Nat):Int):=by
 show (if v<0 then max (v+(n:Int)) 0 else min v (n:Int))=(((if v<0 then (v+(n:Int)).toNat else min v.toNat n):Nat):Int)
 by_cases a:v<0
 .simp only[if_pos a];lia
 .simp only[if_neg a];lia
theorem vE(a b:Option Int)(n:Nat):RY a b 1 (n:Int)=(((sIx n 0 a:Nat):Int),((sIx n n b:Nat):Int)):=by
 have c:¬((1:Int)<0):=by lia
 unfold RY;simp only[c,if_false];refine Prod.ext ?_ ?_
 .cases a with
  |none=>rfl
  |some v=>exact xw v n 0
 .cases b with
  |none=>rfl
  |some v=>exact xw v n n
theorem wm(i j:Nat):Rh (i:Int) (j:Int) 1=j-i:=by
 unfold Rh;have a:(1:Int)>0:=by lia
 simp only[a,if_true,Int.ediv_one]
 split<;>lia
theorem mq{v:ay}{o:Option Int}{Q:Option Int->cb->Prop}(p:Wq v o)(h:Q o s):cp (cT prog w) A (Builtin.Slice.slicePartIndex v) Q E s:=by
 cases p with
 |none=>exact slicePart_none h
 |int i t=>exact slicePart_int h
theorem fm{i:ca}{g f:ay}{a e:Option Int}{n:Nat}{Q:Int×Int×Nat->cb->Prop}(m:s.heap.IsSliceOf i g f .none)(pl:Wq g a)(l:Wq f e)
  (h:Q (((sIx n 0 a:Nat):Int),1,sIx n n e-sIx n 0 a) s):cp (cT prog w) A (Th (.ref i)<|pure (n:Int)) Q E s:=by
 obtain⟨o,b,j,c⟩:=id m;unfold Th Builtin.Slice.sliceFields;refine ax (ax<|wpAny_field b c (x:=g) rfl<|wpAny_bind<|wpAny_field b c (x:=f) rfl<|wpAny_bind<|wpAny_field b c (x:=.none) rfl<|wpAny_pure ?_);refine ax (slicePart_none ?_);show cp _ _ (if ((1:Int)==0)=true then _ else _) _ _ s
 rw[if_neg (by decide)]
 refine ax (mq pl<|wpAny_bind<|mq l<|wpAny_bind<|wpAny_pure ?_);show cp _ _ (match RY a e 1 (n:Int) with|(a,e)=>pure (a,(1:Int),Rh a e 1)) _ _ s
 rw[vE a e n];show cp _ _ (pure (((sIx n 0 a:Nat):Int),(1:Int),Rh ((sIx n 0 a:Nat):Int) ((sIx n n e:Nat):Int) 1)) _ _ s;rw[wm];exact cx h
theorem AM(xs:Xz)(i k:Nat):((PD k).filterMap λ(m:Nat)=>xs[((i:Int)+(m:Int)*1).toNat]?).toArray=((xs.toList.drop i).take k).toArray:=by
 have e:(λ(m:Nat)=>xs[((i:Int)+(m:Int)*1).toNat]?)=λm=>xs[i+m]?:=by
  funext m;have:((i:Int)+(m:Int)*1).toNat=i+m:=by lia
  rw[this]
 rw[e];have:=pick_run xs i k;rw[List.filterMap_map]at this;have a:((λx=>xs[x]?) ∘ λx=>i+x)=λm=>xs[i+m]?:=rfl;rw[a]at this;rw[this]
theorem iM{t n:ca}{a:Xz}{p o:ay}{c e:Option Int}{Q:Xw}(f:WM s.heap t a)(r:s.heap.IsSliceOf n p o .none)(pl:Wq p c)(y:Wq o e)
  (x:¬(sIx a.size 0 c=0/\sIx a.size a.size e=a.size))
  (h:Q (.ref s.heap.objs.size) { s with heap:=s.heap.push { cls:=.type "tuple",data:=.seq ((a.toList.drop<|sIx a.size 0 c).take (sIx a.size a.size e-sIx a.size 0 c)).toArray } })
  (hsz:a.size<=sizeLine):cp (cT prog w) A (Wr (.ref t)<|.ref n) Q E s:=by
 have b:sizeOk (.seq ((a.toList.drop<|sIx a.size 0 c).take (sIx a.size a.size e-sIx a.size 0 c)).toArray):=by
  show ((a.toList.drop<|sIx a.size 0 c).take (sIx a.size a.size e-sIx a.size 0 c)).toArray.size<=sizeLine;rw[Pk,SW,List.length_drop,Q1];lia
 have B:sIx a.size a.size e<=a.size:=L9 _ _ (Pl _) e;obtain⟨v,l,j,u⟩:=id r;have g:s.TypeIs (.ref n) "slice":=⟨v,l,j⟩;unfold Wr
 try with_reducible refine n7 ?_
 first|refine ax (cx ?_)|skip
 refine ax (wpAny_sequenceKey f.typeIs (by decide) ?_)
 refine ax (wpAny_callSpecial?_slot (name:=Qq "__getitem__") f.typeIs Ql
  (nT Ql f.typeIs entry_tuple_getitem ?_<|args_tuple_getitem _ _))
 show cp _ _ (Tg (.ref t) >>= _) _ _ s;refine ax (tupleItemsOf_ f ?_);refine ax (Wz g ?_);rw[if_pos (by decide)]
 refine ax (fm r pl y ?_);have i:¬((((sIx a.size 0 c:Nat):Int)==0&&(1:Int)==1&&(sIx a.size a.size e-sIx a.size 0 c)==a.size)=true):=by
  intro q;rw[QM,QM]at q;have z:((sIx a.size 0 c:Nat):Int)=0:=eq_of_beq q.1.1;have C:sIx a.size a.size e-sIx a.size 0 c=a.size:=eq_of_beq q.2;exact x ⟨by lia,by lia⟩
 show cp _ _ (if (((sIx a.size 0 c:Nat):Int)==0&&(1:Int)==1&&(sIx a.size a.size e-sIx a.size 0 c)==a.size)=true then _ else _) _ _ s
 rw[if_neg i,AM]
 first
  |exact ax (m:=QO _) (ol (cx ⟨_,rfl,cx h⟩) b)
  |exact ax (m:=QO _) (ol (ax<|wpAny_pure<|wpAny_pure ⟨_,rfl,cx h⟩) b)
  |exact ax (ax (m:=QO _)<|wpAny_newObj_type (cx<|wpAny_pure ⟨_,rfl,cx h⟩) b)
  |exact ax (ax (m:=QO _)<|wpAny_newObj_type (cx ⟨_,rfl,cx h⟩) b)
end
end HT
namespace _2
open PySem PySem.Spec PyProof.Rows
variable{a b:ca}{A:fv}{X:Cx}{e o:eH}{H H':Hp}{Xi:Xx}{xs:List (List aB×ca×ay)}{Xo:Xs}{n t':Nat}{pos:Pos}{P:eC}{s:cb}{Z:St}{α:Type}{r u:ay}{E Q:Xw}{w:fe}
noncomputable abbrev TO:=St->Hp->(Option Int->Hp->Prop)->Prop
def PO(X:Cx)(e:Option eH)(t:TO):Prop:=
 ∀(Xi:Xx)(s:cb)(Z:St)(H:Hp)(Q:Option Int->Hp->Prop),Inv X Xi Z H s->t Z H Q->
  cp (cT X.prog X.w) X.A (evalPart e X.env) (λu c=>∃o H',Inv X Xi Z H' c/\Wq u o/\Q o H') X.xe s
noncomputable def FV:TO:=λ_ H Q=>Q bb H
noncomputable def MS(t:TE):TO:=λZ H Q=>t Z H λx H1=>∃i,x=.int i/\Q (ap i) H1
section
variable{te:TE}{lo hi:Option eH}{tl th:TO}{p2:Pos}
theorem G2:PO X bb FV:=by
 intro Xi s Z H Q I h;rw[evalPart_none];exact cx ⟨bb,H,I,.none,h⟩
theorem Ev(h:PE X e te):PO X (ap e) (MS te):=by
 intro Xi s Z H Q I g;rw[evalPart_some];refine bv (h Xi s Z H _ I g) λu j ⟨x,H1,I1,f,c⟩=>?_;obtain⟨i,rfl,q⟩:=c;obtain⟨t,rfl⟩:=f;exact⟨ap i,H1,I1,.int i t,q⟩
def N6(X:Cx)(r:V->Option Int->Option Int->Hp->VK->Prop):Prop:=
 ∀(Xi:Xx)(s:cb)(Z:St)(H:Hp)(x:V)(v vl vu:ay)(lo hi:Option Int)(sl:ca)(Q:VK),Inv X Xi Z H s->RelV x v->s.heap.IsSliceOf sl vl vu .none->Wq vl lo->Wq vu hi->r x lo hi H Q->
  ∃T id,TD (.type T) "__getitem__"=pure (ap<|.builtin id)/\s.TypeIs v T/\cp (cT X.prog X.w) X.A (Wr v<|.ref sl) (EP X Xi Z Q) X.xe s
noncomputable def tSl(r:V->Option Int->Option Int->Hp->VK->Prop)(te:TE)(tl th:TO):TE:=λZ H Q=>te Z H λx H1=>tl Z H1 λl H2=>th Z H2 λu H3=>r x l u H3 Q
theorem Dc{r:V->Option Int->Option Int->Hp->VK->Prop}(K:N6 X r)(L:PE X e te)(J:PO X lo tl)(M:PO X hi th):PE X (.Subscript e (.Slice lo hi bb p2) pos) (tSl r te tl th):=by
 intro Xi s Z H Q I h;refine Subscript_ (bv (L Xi s Z H _ I h) λv F ⟨x,H1,I1,m,j⟩=>?_);refine wpAny_Slice (bv (J Xi F Z H1 _ I1 j) λf y ⟨l,H2,I2,pl,z⟩=>bv (M Xi y Z H2 _ I2 z) λg c ⟨u,H3,I3,G,p⟩=>?_);rw[evalPart_none];refine cx ?_;have I4:Inv X Xi Z H3 { c with heap:=c.heap.push { cls:=.type "slice",data:=.fields #[f,g,.none] } }:=I3.kept (t':=c.toks) λb N q=>Pe _ q;obtain⟨T,id,i,B,C⟩:=K Xi { c with heap:=c.heap.push { cls:=.type "slice",data:=.fields #[f,g,.none] } } Z H3 x v f g l u c.heap.objs.size Q I4 m (Heap.IsSliceOf.new ..) pl G p;show cp (cT X.prog X.w) X.A (subscriptTail e (.Slice lo hi bb p2) v<|.ref c.heap.objs.size) (EP X Xi Z Q) X.xe { c with heap:=c.heap.push { cls:=.type "slice",data:=.fields #[f,g,.none] } };exact tail_any (ops:=[.ref c.heap.objs.size,v]) B i C (by with_unfolding_all rfl)
noncomputable def jU(xs:List V)(lo hi:Option Int):List V:=(xs.drop<|HT.sIx xs.length 0 lo).take (HT.sIx xs.length xs.length hi-HT.sIx xs.length 0 lo)
theorem jD(xs:List V)(lo hi:Option Int):(jU xs lo hi).length<=xs.length:=by
 unfold jU;rw[SW,List.length_drop];lia
def rSlT(K:Pg):V->Option Int->Option Int->Hp->VK->Prop:=λx lo hi H Q=>∃a xs,x=.ref a/\ic K H a xs/\
 ¬(HT.sIx xs.length 0 lo=0/\HT.sIx xs.length xs.length hi=xs.length)/\∀p,H p=bb->Q (.ref p) (upd H p<|.tup<|jU xs lo hi)
theorem JM:N6 X (rSlT X.K):=by
 intro Xi s Z H x v B C lo hi z Q I j l pl p h;obtain⟨a,xs,rfl,i,m,q⟩:=h;cases j;obtain⟨Xo,r,g,f⟩:=I.tuple i;have c:Xo.toArray.size=xs.length:=by rw[Pk];exact r.length.symm
 refine⟨"tuple",_,Ql.lookup,g.typeIs,?_⟩;refine HT.iM g l pl p (by rw[c];exact m) ?_ (by rw[c];exact f)
 rw[c];refine⟨.ref s.heap.objs.size,_,I.laid (t':=s.toks) (o:=.tup (jU xs lo hi)) (λb y q=>Pe _ q) (Pl _) ?_,rfl,q _<|I.hok.fresh<|Pl _⟩;exact⟨PL (jD xs lo hi) f,_,(r.drop<|HT.sIx xs.length 0 lo).take (HT.sIx xs.length xs.length hi-HT.sIx xs.length 0 lo),⟨_,Pm _ rfl,⟨rfl,_,rfl⟩,rfl⟩⟩
noncomputable def OJ(K:Pg):R2:=λx y H Q=>∃a b xs ys,x=.ref a/\y=.ref b/\ic K H a xs/\ic K H b ys/\xs≠[]/\xs.length+ys.length<=sizeLine/\
 (ys=[]->Q (.ref a) H)/\(ys≠[]->∀p,H p=bb->Q (.ref p) (upd H p<|.tup (xs++ys)))
theorem Vals.nil_iff{xs:List V}{us:Xs}(r:Vals xs us):us=[]↔xs=[]:=by
 cases r with
 |nil=>simp
 |cons _ _=>simp
theorem EQ:cJ X (fy .Add) (OJ X.K):=by
 intro Xi s Z H x y v u Q I B l h;obtain⟨a,b,xs,G,rfl,rfl,C,m,i,f,j,p⟩:=h;cases B;cases l;obtain⟨Xo,c,F,_⟩:=I.tuple C;obtain⟨g,r2,p2,_⟩:=I.tuple m;refine HT.Fn F p2 (λz=>i (c.nil_iff.mp z)) (λz=>⟨.ref a,H,I,rfl,j<|r2.nil_iff.mp z⟩) (λz=>?_) (by rw[<- c.length,<- r2.length];exact f)
 refine⟨.ref s.heap.objs.size,_,I.laid (t':=s.toks) (o:=.tup (xs++G)) (λb J q=>Pe _ q) (Pl _) ?_,rfl,p (λw=>z (r2.nil_iff.mpr w)) _<|I.hok.fresh<|Pl _⟩;exact⟨by rw[Pz];exact f,_,c.append r2,⟨_,Pm _ rfl,⟨rfl,_,rfl⟩,rfl⟩⟩
end
noncomputable def vh(n:Nat)(i:Int):Option Nat:=if 0<=i then (if i<n then ap i.toNat else bb) else if -(n:Int)<=i then ap (i+n).toNat else bb
noncomputable def atI{α:Type}(xs:List α)(i:Int):Option α:=(vh xs.length i).bind λj=>xs[j]?
theorem pY{i:Int}{j:Nat}(h:vh n i=ap j):W0 i n=ap j/\j<n/\-(n:Int)<=i/\i<n:=by
 unfold vh at h
 by_cases f:0<=i
 .rw[if_pos f]at h
  by_cases c:i<n
  .rw[if_pos c]at h
   have e:i.toNat=j:=Qa h;exact⟨by rw[Xh f c,e],by lia,by lia,c⟩
  .rw[if_neg c]at h;cases h
 .rw[if_neg f]at h
  by_cases c:-(n:Int)<=i
  .rw[if_pos c]at h
   have e:(i+n).toNat=j:=Qa h;exact⟨by rw[W8 (by lia) c,e],by lia,c,by lia⟩
  .rw[if_neg c]at h;cases h
theorem rb{xs:List α}{i:Int}{v:α}(h:atI xs i=ap v):∃j,W0 i xs.length=ap j/\xs[j]?=ap v/\j<xs.length/\-(xs.length:Int)<=i/\i<xs.length:=by
 unfold atI at h;cases e:vh xs.length i with
 |none=>rw[e]at h;cases h
 |some j=>
  rw[e]at h;obtain⟨g,f,l,c⟩:=pY e;exact⟨j,g,h,f,l,c⟩
def zr(b:eH):Prop:=∀o i,subscripted b cm o i=operate [o,i] (Wr o i)
def IxR(X:Cx)(r:R2):Prop:=
 ∀(value slice:eH)(Xi:Xx)(s:cb)(Z:St)(H:Hp)(x y:V)(v u:ay)(Q:VK),Inv X Xi Z H s->RelV x v->RelV y u->r x y H Q->
  subscripted slice cm v u=operate [v,u] (Wr v u)->cp (cT X.prog X.w) X.A (subscriptTail value slice v u) (EP X Xi Z Q) X.xe s
def w8(X:Cx)(id:String)(r:V->List V->Hp->VK->Prop):Prop:=
 ∀(Xi:Xx)(s:cb)(Z:St)(H:Hp)(x:V)(xs:List V)(v:ay)(us:Xs)(Q:VK),Inv X Xi Z H s->RelV x v->Vals xs us->r x xs H Q->
  cp (cT X.prog X.w) X.A (call (.builtin id) (v::us)) (EP X Xi Z Q) X.xe s
section
variable{a b:eH}{ta tb:TE}
theorem IxR.or{r l:R2}(h:IxR X r)(h':IxR X l):IxR X (λx y H Q=>r x y H Q\/l x y H Q):=by
 intro f c Xi s Z H x y v u Q I i g q j;rcases q with q|q
 .exact h f c Xi s Z H x y v u Q I i g q j
 .exact h' f c Xi s Z H x y v u Q I i g q j
theorem MH{r:R2}(m:IxR X r)(i:PE X a ta)(j:PE X b tb)(l:zr b):PE X (.Subscript a b pos) (OG r ta tb):=by
 intro Xi s Z H Q I h;exact Subscript_ (IS i j I h λv u c x y H2 I2 g f q=>m a b Xi c Z H2 x y v u Q I2 g f q (l _ _))
noncomputable def NR(K:Pg):R2:=λx y H Q=>∃p xs i v,x=.ref p/\y=.int i/\SqL K H p xs/\atI xs i=ap v/\Q v H
noncomputable def ME(K:Pg):R2:=λx y H Q=>∃p xs i v,x=.ref p/\y=.int i/\ic K H p xs/\atI xs i=ap v/\Q v H
noncomputable def N7:R2:=λx y H Q=>∃z i c,x=.str z/\y=.int i/\z.length<=sizeLine/\atI z.cps.toList i=ap c/\Q (.str ⟨#[c]⟩) H
theorem ix_list:IxR X (NR X.K):=by
 intro m l Xi s Z H x y v u Q I S N h C;obtain⟨p,xs,i,z,rfl,rfl,M,R,q⟩:=h;cases S;obtain⟨t,rfl⟩:=N;obtain⟨Xo,r,pl,W⟩:=I.list M;obtain⟨j,c,G,U,L,T⟩:=rb R;obtain⟨w,B,g⟩:=r.get G;have J:=r.length;have Y:=gT;have fin:EP X Xi Z Q w s:=⟨z,H,I,g,q⟩
 by_cases F:0<=i
 .have f:i.toNat=j:=by
   rw[Xh F T]at c;exact Qa c
  exact item_listR pl.isList F (by lia) (by rw[f];simpa using B) fin C
 .have f:(i+(Xo.toArray.size:Int)).toNat=j:=by
   rw[W8 (by lia) L]at c
   rw[Pk,<- J];exact Qa c
  exact W7 (x:=w) pl.isList.typeIs slot_list_getitem.lookup
   (wpAny_getItem_list_neg (Q:=λr O=>r=w/\EP X Xi Z Q r O) pl.isList (by lia) (by rw[Pk]<;>lia) (by lia) (by rw[f];simpa using B) ⟨rfl,fin⟩) C
theorem ix_tup:IxR X (ME X.K):=by
 intro g f Xi s Z H x y v u Q I M F h N;obtain⟨p,xs,i,z,rfl,rfl,C,J,q⟩:=h;cases M;obtain⟨t,rfl⟩:=F;obtain⟨Xo,r,pl,S⟩:=I.tuple C;obtain⟨j,L,m,O,R,T⟩:=rb J;obtain⟨w,l,c⟩:=r.get m;have B:=r.length;have U:=gT;have fin:EP X Xi Z Q w s:=⟨z,H,I,c,q⟩
 exact W7 (x:=w) pl.typeIs slot_tuple_getitem.lookup
  (getItem_tuple (j:=j) (Q:=λr G=>r=w/\EP X Xi Z Q r G) pl (by lia) (by lia) (by rw[Pk,<- B];exact L) (by simpa using l) ⟨rfl,fin⟩) N
theorem B9:IxR X N7:=by
 intro g f Xi s Z H x y v u Q I G m h K;obtain⟨z,i,c,rfl,rfl,N,p,q⟩:=h;obtain⟨t,rfl⟩:=G;obtain⟨t',rfl⟩:=m;obtain⟨j,l,B,O,M,L⟩:=rb p;have C:z.cps.toList.length=z.length:=by simp[Str.length]
 rw[C]at l M L;have R:=gT;exact tail_any (typeIs_str s z t) slot_str_getitem.lookup (getItem_str (c:=c) (by
  have J:decide (i < -(2 ^ 63:Int))=false:=decide_eq_false (by lia)
  have F:decide (i>=2 ^ 63)=false:=decide_eq_false (by lia)
  rw[J,F,Rj]) (by rw[l];simpa using B) ⟨.str ⟨#[c]⟩,H,I.tok _,⟨_,rfl⟩,q⟩) K
noncomputable def rIx(K:Pg):R2:=λx y H Q=>NR K x y H Q\/ME K x y H Q\/N7 x y H Q
theorem IL:IxR X (rIx X.K):=ix_list.or (ix_tup.or B9)
theorem wu(Xo:Xs)(n j:Nat)(u:ay):Ss (·.setIfInBounds j u) { cls:=.type "list",data:=.seq Xo.toArray n }={ cls:=.type "list",data:=.seq (Xo.set j u).toArray n }:=by
 simp[Ss]
theorem Inv.lst{Xi:Xx}{Z:St}{H:Hp}{s:cb}{p:ca}{xs:List V}(I:Inv X Xi Z H s)(h:H p=ap (.lst xs)):
  ∃(Xo:Xs)(n:Nat),Vals xs Xo/\s.heap.get? p=ap { cls:=.type "list",data:=.seq Xo.toArray n }/\xs.length<=sizeLine:=by
 obtain⟨z,Xo,n,r,e⟩:=I.hok p _ h;exact⟨Xo,n,r,e,z⟩
theorem Inv.lstUpd{p:ca}{xs ys:List V}{its':Xs}{n':Nat}{f:Obj->Obj}(I:Inv X Xi Z H s)(h:H p=ap (.lst xs))(ho:s.heap.get? p=ap { cls:=.type "list",data:=.seq Xo.toArray n })(hf:f { cls:=.type "list",data:=.seq Xo.toArray n }={ cls:=.type "list",data:=.seq its'.toArray n' })(r:Vals ys its')(hz:ys.length<=sizeLine)(t:Nat):
  Inv X Xi Z (upd H p<|.lst ys) { s with heap:=s.heap.update p f,toks:=t }:=by
 have e:(s.heap.update p f).get? p=ap { cls:=.type "list",data:=.seq its'.toArray n' }:=by
  rw[RW f ho (by rw[hf]<;>rfl),hf]
 refine I.write (x:=p) (e:=p) (by rw[h];trivial) (.inl rfl) (λb u hb q=>(UK _ _<|P0 hb).trans q) ⟨_,e⟩ ?_
 exact⟨hz,its',n',r,e⟩
def Od:V->V->V->Hp->(Hp->Prop)->Prop:=λo i v H Q=>∃p xs k j,o=.ref p/\i=.int k/\H p=ap (.lst xs)/\vh xs.length k=ap j/\Q (upd H p<|.lst<|xs.set j v)
theorem CD:Jz X Od:=by
 intro Xi s Z H o i v N L u Q I C B G h;obtain⟨p,xs,k,j,rfl,rfl,z,F,q⟩:=h;cases C;obtain⟨t,rfl⟩:=B;obtain⟨Xo,n,r,g,J⟩:=I.lst z;obtain⟨c,K,x,y⟩:=pY F;have f:=r.length;have M:=gT;have I':Inv X Xi Z (upd H p<|.lst<|xs.set j v) { s with heap:=s.heap.update p (Ss (·.setIfInBounds j u)) }:=
  I.lstUpd z g (wu Xo n j u) (r.set G j) (by rw[QS];exact J) s.toks
 by_cases m:0<=k
 .have l:k.toNat=j:=by
   rw[Xh m y]at c;exact Qa c
  exact W.ki_setAt g m (by lia) (by rw[Pk,<- f];exact y) (by rw[l];exact⟨_,I',q⟩)
 .have l:(k+(Xo.toArray.size:Int)).toNat=j:=by
   rw[W8 (by lia) x]at c
   rw[Pk,<- f];exact Qa c
  exact W.ki_setBack g (by lia) (by rw[Pk,<- f];exact x) (by lia) (by rw[l];exact⟨_,I',q⟩)
theorem qi(c f:Option Int)(n:Nat):(TW c f bb n).1=((HT.sIx n 0 c:Nat):Int)/\(TW c f bb n).2.1=((HT.sIx n n f:Nat):Int)/\(TW c f bb n).2.2=1:=by
 refine⟨?_,?_,rfl⟩
 .cases c with
  |none=>simp[TW,HT.sIx]
  |some i=>
   simp only[TW,HT.sIx,Vc,show (1:Int)>0 by decide,if_true]
   by_cases h:i<0
   .simp only[h,if_true]<;>lia
   .simp only[h,if_false]<;>lia
 .cases f with
  |none=>simp[TW,HT.sIx]
  |some i=>
   simp only[TW,HT.sIx,Vc,show (1:Int)>0 by decide,if_true]
   by_cases h:i<0
   .simp only[h,if_true]<;>lia
   .simp only[h,if_false]<;>lia
theorem nH(Xo:Xs)(c f:Option Int):slicePick Xo.toArray c f bb=((Xo.drop<|HT.sIx Xo.length 0 c).take (HT.sIx Xo.length Xo.length f-HT.sIx Xo.length 0 c)).toArray:=by
 obtain⟨g,h,i⟩:=qi c f Xo.toArray.size;unfold slicePick;rw[g,h,i];simp only[sliceRange_one,pick_run,Pk]<;>rfl
def rSlL(K:Pg):V->Option Int->Option Int->Hp->VK->Prop:=λx c f H Q=>∃a xs,x=.ref a/\SqL K H a xs/\∀p,H p=bb->Q (.ref p) (upd H p<|.lst<|jU xs c f)
theorem yJ:N6 X (rSlL X.K):=by
 intro Xi s Z H x v C F f g B Q I l m pl y h;obtain⟨a,xs,rfl,j,q⟩:=h;cases l;obtain⟨Xo,r,i,p⟩:=I.list j;have c:=r.length;refine⟨"list",_,slot_list_getitem.lookup,i.isList.typeIs,?_⟩;refine wpAny_getItem_list_slice i.isList m pl y .none (by simp) ?_ (by rw[Pk]<;>lia)
 rw[nH,<- c];refine⟨.ref s.heap.objs.size,_,I.laid (t':=s.toks) (o:=.lst (jU xs f g)) (λb z q=>Pe _ q) (Pl _) ?_,rfl,q _<|I.hok.fresh<|Pl _⟩;exact⟨PL (jD xs f g) p,_,0,(r.drop<|HT.sIx xs.length 0 f).take (HT.sIx xs.length xs.length g-HT.sIx xs.length 0 f),Pm _ rfl⟩
noncomputable def BF:V->Bool
 |.non=>true
 |.bl _=>true
 |.int _=>true
 |.str _=>true
 |_=>cm
noncomputable def sI:V->V->Bool
 |.non,.non=>true
 |.bl a,.bl b=>a==b
 |.bl a,.int b=>(if a then 1 else 0)==b
 |.int a,.bl b=>a==(if b then 1 else 0)
 |.int a,.int b=>a==b
 |.str a,.str b=>a==b
 |_,_=>cm
theorem Ct{y x:V}{v:ay}(g:RelV y u)(c:RelV x v)(h:BF y=true)(f:BF x=true):SX A s u v (sI y x):=by
 cases y with
 |non=>
  cases g;cases x with
  |non=>cases c;exact SeqAt.EqAt.same _
  |bl b=>cases c;exact SeqAt.EqAt.none_bool b
  |int b=>obtain⟨t,rfl⟩:=c;exact Uk b t
  |str b=>obtain⟨t,rfl⟩:=c;exact Uj b t
  |_=>exact absurd (show cm=true from f) PH
 |bl a=>
  cases g;cases x with
  |non=>cases c;exact SeqAt.EqAt.bool_none a
  |bl b=>cases c;exact SeqAt.EqAt.bool_bool a b
  |int b=>obtain⟨t,rfl⟩:=c;exact SeqAt.EqAt.bool_int a b t
  |str b=>obtain⟨t,rfl⟩:=c;exact SeqAt.EqAt.bool_str a b t
  |_=>exact absurd (show cm=true from f) PH
 |int a=>
  obtain⟨t',rfl⟩:=g;cases x with
  |non=>cases c;exact Ul a t'
  |bl b=>cases c;exact SeqAt.EqAt.int_bool a t' b
  |int b=>obtain⟨t,rfl⟩:=c;exact SeqAt.EqAt.int_int a t' b t
  |str b=>obtain⟨t,rfl⟩:=c;exact Uu a t' b t
  |_=>exact absurd (show cm=true from f) PH
 |str a=>
  obtain⟨t',rfl⟩:=g;cases x with
  |non=>cases c;exact Ui a t'
  |bl b=>cases c;exact SeqAt.EqAt.str_bool a t' b
  |int b=>obtain⟨t,rfl⟩:=c;exact Ut a t' b t
  |str b=>obtain⟨t,rfl⟩:=c;exact SeqAt.EqAt.str_str a t' b t
  |_=>exact absurd (show cm=true from f) PH
 |_=>exact absurd (show cm=true from h) PH
theorem qH:bO X (.builtin "len") (λxs H Q=>∃p ys,xs=[.ref p]/\(SqL X.K H p ys\/ic X.K H p ys)/\Q (.int ys.length) H):=by
 intro Xi s Z H xs l Q I r h;obtain⟨p,ys,rfl,hq,q⟩:=h;obtain⟨u,rfl,g⟩:=pq r;cases g;have j:=gT;rcases hq with hq|hq
 .obtain⟨Xo,f,pl,i⟩:=I.list hq
  have c:=f.length;exact Calls.call_len_list pl.isList (by simp only[Pk]<;>lia) ⟨.int ys.length,H,I.tok _,⟨s.toks+1,by rw[Pk,c]⟩,q⟩
 .obtain⟨Xo,f,pl,i⟩:=I.tuple hq
  have c:=f.length;exact len_tuple pl (by simp only[Pk]<;>lia) ⟨.int ys.length,H,I.tok _,⟨s.toks+1,by rw[Pk,c]⟩,q⟩
theorem sk:bO X (.builtin "len") (λxs H Q=>∃z,xs=[.str z]/\z.length<=sizeLine/\Q (.int z.length) H):=by
 intro Xi s Z H xs f Q I r h;obtain⟨z,rfl,g,q⟩:=h;obtain⟨u,rfl,t,rfl⟩:=pq r;have c:=gT;exact len_str (by lia) ⟨.int z.length,H,I.tok _,⟨_,rfl⟩,q⟩
theorem sH:bO X (.type "list") (λxs H Q=>∃p ys,xs=[.ref p]/\(SqL X.K H p ys\/ic X.K H p ys)/\∀l,H l=bb->Q (.ref l) (upd H l<|.lst ys)):=by
 intro Xi s Z H xs z Q I r h;obtain⟨p,ys,rfl,hq,q⟩:=h;obtain⟨u,rfl,y⟩:=pq r;cases y
 have fin:∀(Xo:Xs),Vals ys Xo->ys.length<=sizeLine->∀(c:fx)(f:Nat),(∀b o',s.heap.get? b=ap o'->c.get? b=ap o')->
   c.get? s.heap.objs.size=ap { cls:=.type "list",dict:=bb,data:=.seq Xo.toArray f,slots:=#[] }->EP X Xi Z Q (.ref s.heap.objs.size) { s with heap:=c }:=λXo g j c f kp e=>
  ⟨.ref s.heap.objs.size,_,I.laid (t':=s.toks) kp (Pl _) (show ObjOk X.prog X.w _ c _ (.lst ys) from ⟨j,Xo,f,g,e⟩),rfl,q _<|I.hok.fresh<|Pl _⟩
 rcases hq with hq|hq
 .obtain⟨Xo,g,pl,j⟩:=I.list hq
  have i:=g.length;obtain⟨o,x,v,n,m⟩:=pl.isList;exact call_list_seq p (.inl rfl) x v m (λc f kp e=>fin Xo g j c f kp e) (by simp only[Pk]<;>lia)
 .obtain⟨Xo,g,pl,j⟩:=I.tuple hq
  have i:=g.length;obtain⟨o,x,v,n,m⟩:=pl;exact call_list_seq p (.inr rfl) x v m (λc f kp e=>fin Xo g j c f kp e) (by simp only[Pk]<;>lia)
theorem gP:bO X (.type "tuple") (λxs H Q=>∃p ys,xs=[.ref p]/\((SqL X.K H p ys/\∀l,H l=bb->Q (.ref l) (upd H l<|.tup ys))\/(ic X.K H p ys/\Q (.ref p) H))):=by
 intro Xi s Z H xs v Q I r h;obtain⟨p,ys,rfl,h⟩:=h;obtain⟨u,rfl,m⟩:=pq r;cases m;rcases h with⟨f,q⟩|⟨f,q⟩
 .obtain⟨Xo,g,pl,j⟩:=I.list f
  have i:=g.length;refine call_tuple_list pl.isList (λc kp=>?_) (by simp only[Pk]<;>lia)
  have I1:Inv X Xi Z H { s with heap:=c }:=I.kept (t':=s.toks) kp;have I2:Inv X Xi Z (upd H c.objs.size<|.tup ys) { s with heap:=c.push { cls:=.type "tuple",data:=.seq Xo.toArray } }:=
   I1.laid (t':=s.toks) (λb o e=>Pe _ e) (Pl _) (show ObjOk X.prog X.w _ _ _ (.tup ys) from ⟨j,Xo,g,⟨_,Pm _ rfl,⟨rfl,_,rfl⟩,rfl⟩⟩)
  exact⟨.ref c.objs.size,_,I2,rfl,q _<|I1.hok.fresh<|Pl _⟩
 .obtain⟨Xo,g,pl,j⟩:=I.tuple f
  exact call_tuple_same pl ⟨.ref p,H,I,rfl,q⟩
def tyV(K:Pg)(T:String)(x:V)(H:Hp):Prop:=match x with
 |.str _=>T="str"
 |.int _=>T="int"
 |.ref p=>(T="list"/\∃xs,SqL K H p xs)\/(T="tuple"/\∃o,K.lookup p=ap o/\o.cls=.type "tuple"/\o.dict=bb)\/
   (T="dict"/\((∃Xk,H p=ap (.dK Xk))\/∃Xk,H p=ap (.dT Xk)))\/(T="set"/\∃S n,H p=ap (.set S n))
 |_=>False
theorem Db{T:String}{x:V}{v:ay}(I:Inv X Xi Z H s)(r:RelV x v)(ty:tyV X.K T x H):
  s.TypeIs v T/\∀a,v=.ref a->∃m,s.heap.get? a=ap m/\m.dict=none:=by
 cases x with
 |str z=>
  obtain⟨t,rfl⟩:=r;cases (show T="str" from ty);exact⟨typeIs_str s z t,λ_ e=>nomatch e⟩
 |int i=>
  obtain⟨t,rfl⟩:=r;cases (show T="int" from ty);exact⟨typeIs_int s i t,λ_ e=>nomatch e⟩
 |ref p=>
  cases r;rcases ty with⟨rfl,xs,q⟩|⟨rfl,o,f,hc,h⟩|⟨rfl,f⟩|⟨rfl,S,n,f⟩
  .obtain⟨Xo,_,pl,_⟩:=I.list q
   refine⟨pl.isList.typeIs,λa e=>?_⟩;cases e;obtain⟨o,n,e,c,h,_⟩:=pl;exact⟨o,e,h⟩
  .refine⟨⟨o,I.kIn p o f,hc⟩,λa e=>?_⟩
   cases e;exact⟨o,I.kIn _ o f,h⟩
  .have z:∃o,s.heap.get? p=ap o/\o.ExactDict:=by
    rcases f with⟨j,f⟩|⟨j,f⟩
    .obtain⟨_,_,_,_,o,_,_,e,g,_⟩:=I.hok p _ f
     exact⟨o,e,g⟩
    .obtain⟨_,_,_,_,o,_,_,e,g,_⟩:=I.hok p _ f
     exact⟨o,e,g⟩
   obtain⟨o,e,g⟩:=z;refine⟨⟨o,e,g.1⟩,λa l=>?_⟩;cases l;exact⟨o,e,g.2.1⟩
  .obtain⟨o,_,_,_,e,g,_⟩:=I.hok p _ f
   refine⟨⟨o,e,g.1⟩,λa l=>?_⟩;cases l;exact⟨o,e,g.2.1⟩
 |_=>exact Qv ty
noncomputable def tBM0(K:Pg)(T:String)(r:V->List V->Hp->VK->Prop)(to:TE):TE:=λZ H Q=>to Z H λx H1=>tyV K T x H1/\r x [] H1 Q
noncomputable def tBM(K:Pg)(T:String)(r:V->List V->Hp->VK->Prop)(to:TE)(t:TA):TE:=λZ H Q=>to Z H λx H1=>tyV K T x H1/\t Z H1 λxs H2=>r x xs H2 Q
variable{es:Xu}{to:TE}{t:TA}{name:Str}{Xn Xm:Pos}{T id:String}{r:V->List V->Hp->VK->Prop}
theorem Ln(q:Wg T)(f:WY T name id)(g:Wv (.builtin id)=pure (.type "method_descriptor"))(hm:w8 X id r)(y:PE X o to)(c:kl o name X.env (eX o X.env)=eX o X.env:=by rfl)(hline:(Xn.endLine==Xm.line)=true:=by rfl):PE X (.Call (.Attribute o name Xn) [] [] Xm) (tBM0 X.K T r to):=by
 intro Xi s Z H Q I h;refine wpAny_Call_method0_late c hline (bv (y Xi s Z H _ I h) λv p ⟨x,H1,I1,i,ty,j⟩=>?_);obtain⟨m,l⟩:=Db I1 i ty;exact⟨T,id,q,f,g,m,l,Ra rfl<|PySem.evalArgs_none<|hm Xi p Z H1 x [] v [] Q I1 i .nil j⟩
theorem Nc(G:Wg T)(f:WY T name id)(g:Wv (.builtin id)=pure (.type "method_descriptor"))(M:w8 X id r)(J:PE X o to)(L:PA X (e::es) t)(c:kl o name X.env (eX o X.env)=eX o X.env:=by rfl)(hfew:((g3 Xm<|starEach (e::es) X.env).all (λx=>!x.1)&&(wh Xm<|keywordEach [] X.env).all (λx=>x.1.isSome)
   && decide ((e::es).length+([]:List vx).length+(if ([]:List vx).isEmpty then 0 else 1)<30))=true:=by rfl)(hline:(Xn.endLine==Xm.line)=true:=by rfl)(hs:cy (e::es) X.env=(cm,eX e X.env)::cy es X.env:=by rfl)(hplain:(g3 Xm<|starEach es X.env).any (·.1)=false:=by rfl):
  PE X (.Call (.Attribute o name Xn) (e::es) [] Xm) (tBM X.K T r to t):=by
 intro Xi s Z H Q I h;refine W6 c hfew hline rfl (bv (J Xi s Z H _ I h) λv F ⟨x,H1,I1,i,ty,l⟩=>?_);obtain⟨z,p⟩:=Db I1 i ty;refine⟨T,id,G,f,g,z,p,?_⟩;have j:=L Xm Xi F Z H1 _ I1 l;rw[hs]at j ⊢;refine Ra (by show (cm||(g3 Xm<|starEach es X.env).any (·.1))=cm;rw[hplain]<;>rfl) (Ru ?_)
 exact bv j λB m ⟨C,H2,I2,y,q⟩=>M Xi m Z H2 x C v B Q I2 i y q
end
def MtM(X:Cx)(id:String)(r:V->List V->Hp->VK->Prop):Prop:=
 ∀(Xi:Xx)(s:cb)(Z:St)(H:Hp)(x:V)(xs:List V)(v:ay)(us:Xs)(Q:VK),Inv X Xi Z H s->RelV x v->Vals xs us->r x xs H Q->
  cp (cT X.prog X.w) X.A (call (.builtin id) (v::us)) (EP X Xi Z Q) X.xe s
theorem Vals.one:∀{x:V}{us:Xs},Vals [x] us->∃u,us=[u]/\RelV x u
 |_,_,h=>by cases h with|cons r q=>cases q;exact⟨_,rfl,r⟩
theorem Vals.two:∀{x y:V}{us:Xs},Vals [x,y] us->∃u v,us=[u,v]/\RelV x u/\RelV y v
 |_,_,_,h=>by cases h with|cons r q=>cases q with|cons q z=>cases z;exact⟨_,_,rfl,r,q⟩
theorem Vals.zero:∀{us:Xs},Vals [] us->us=[]
 |_,.nil=>rfl
theorem Vals.dropLast{xs:List V}{us:Xs}(h:Vals xs us):Vals xs.dropLast us.dropLast:=by
 induction h with
 |nil=>exact .nil
 |cons r t ih=>
  cases t with
  |nil=>exact .nil
  |cons q t'=>exact .cons r ih
theorem Vals.eraseIdx:∀{xs:List V}{us:Xs}(i:Nat),Vals xs us->Vals (xs.eraseIdx i) (us.eraseIdx i)
 |_,_,_,.nil=>.nil
 |_,_,0,.cons _ t=>t
 |_,_,i+1,.cons r t=>.cons r (Vals.eraseIdx i t)
theorem Vals.rep{xs:List V}{us:Xs}(h:Vals xs us):∀k:Nat,Vals (PN k xs).flatten (PN k us).flatten
 |0=>.nil
 |k+1=>by
  rw[Qg,Qg,Rr,Rr];exact Vals.append h (Vals.rep h k)
theorem wY(l:List α):l.eraseIdx (l.length-1)=l.dropLast:=by
 induction l with
 |nil=>rfl
 |cons a r ih=>
  cases r with
  |nil=>rfl
  |cons b r=>
   have e:(a::b::r).length-1=((b::r).length-1)+1:=by
    have c:(a::b::r).length=r.length+2:=rfl;have f:(b::r).length=r.length+1:=rfl;lia
   rw[e,List.eraseIdx_cons_succ,ih]
   all_goals rfl
theorem oF{α:Type}:∀(l:List α)(i:Nat),(l.eraseIdx i).length<=l.length
 |[],_=>Pl _
 |_::_,0=>TY _
 |_::r,i+1=>Nat.succ_le_succ (oF r i)
section
variable{l:ca}{xs ys zs:List V}
theorem Inv.lset{its':Xs}{f:Array ay->Array ay}{t':Nat}(I:Inv X Xi Z H s)(hH:H l=ap (.lst xs))(e:s.heap.get? l=ap { cls:=.type "list",data:=.seq Xo.toArray n })(hf:f Xo.toArray=its'.toArray)(hv:Vals ys its')(hz:ys.length<=sizeLine):
  Inv X Xi Z (upd H l<|.lst ys) { s with heap:=s.heap.update l (Ss f),toks:=t' }:=by
 have q:=PySem.IsL.update e f;rw[hf]at q;refine I.write (x:=l) (e:=l) (by rw[hH];exact trivial) (.inl rfl) (λb' u hb hu=>(UK s.heap (Ss f)<|P0 hb).trans hu) ⟨_,q⟩ ?_
 exact⟨hz,its',_,hv,q⟩
theorem Inv.lnew{t':Nat}(I:Inv X Xi Z H s)(c:Vals ys Xo)(f:ys.length<=sizeLine):
  Inv X Xi Z (upd H s.heap.objs.size<|.lst ys) { s with heap:=s.heap.push { cls:=.type "list",data:=.seq Xo.toArray },toks:=t' }:=
 I.laid (λ_ _ q=>Pe _ q) (Pl _) ⟨f,Xo,0,c,Pm _ rfl⟩
theorem Inv.fresh(I:Inv X Xi Z H s):H s.heap.objs.size=none:=I.hok.fresh (Pl _)
theorem Inv.lstM(I:Inv X Xi Z H s)(c:H l=ap (.lst xs)):xs.length<=sizeLine/\∃(Xo:Xs)(n:Nat),Vals xs Xo/\xs.length=Xo.length/\s.heap.get? l=ap { cls:=.type "list",data:=.seq Xo.toArray n }:=by
 obtain⟨z,Xo,n,r,e⟩:=I.hok l _ c;exact⟨z,Xo,n,r,r.length,e⟩
end
section
def Gn:V->List V->Hp->VK->Prop:=λx c H Q=>∃l xs y,x=.ref l/\c=[y]/\H l=ap (.lst xs)/\xs.length<sizeLine/\Q .non (upd H l<|.lst (xs++[y]))
theorem A8:MtM X "list.append" Gn:=by
 intro Xi s Z H x B v p Q I f i h;obtain⟨l,xs,y,rfl,rfl,c,m,q⟩:=h;cases f;obtain⟨u,rfl,g⟩:=i.one;obtain⟨z,Xo,n,r,j,e⟩:=I.lstM c;refine s9 Td ⟨_,e,rfl⟩ F.entry_list_append (F.args_list_append_2 _ _) (Va l Xo.toArray n u<|by rw[Pk];lia) ⟨e,?_⟩
 refine⟨.non,_,I.lset (its':=Xo++[u]) c e (by simp) (r.append<|.cons g .nil) ?_,rfl,q⟩
 rw[Pz,QP];lia
def rPop:V->List V->Hp->VK->Prop:=λx c H Q=>∃l xs y,x=.ref l/\c=[]/\H l=ap (.lst xs)/\xs[xs.length-1]?=ap y/\Q y (upd H l<|.lst xs.dropLast)
theorem J9:MtM X "list.pop" rPop:=by
 intro Xi s Z H x J v G Q I j C h;obtain⟨l,xs,y,rfl,rfl,g,p,q⟩:=h;cases j;have f:=C.zero;subst f;obtain⟨z,Xo,n,r,i,e⟩:=I.lstM g;obtain⟨u,m,B⟩:=r.get p;have c:Xo.toArray[Xo.toArray.size-1]?=ap u:=by
  show Xo.toArray[Xo.length-1]?=ap u;rw[<- UQ,<- i];exact m
 refine s9 Sj ⟨_,e,rfl⟩ F.entry_list_pop (F.args_list_pop_1 _) (MeetsSeq.list_pop_last l Xo.toArray n u c<|by rw[Pk];lia) ⟨e,?_⟩
 refine⟨y,_,I.lset (its':=Xo.dropLast) g e ?_ r.dropLast ?_,B,q⟩
 .show Xo.toArray.eraseIdxIfInBounds (Xo.toArray.size-1)=Xo.dropLast.toArray
  rw[Pk,TH,wY]
 .rw[List.length_dropLast]
  lia
def KU:V->List V->Hp->VK->Prop:=λx c H Q=>∃l xs i k y,x=.ref l/\c=[.int i]/\H l=ap (.lst xs)/\-(2 ^ 63)<=i/\i<2 ^ 63/\W0 i xs.length=ap k/\xs[k]?=ap y/\Q y (upd H l<|.lst<|xs.eraseIdx k)
theorem B8:MtM X "list.pop" KU:=by
 intro Xi s Z H x M v L Q I B K h;obtain⟨l,xs,i,k,y,rfl,rfl,f,p,g,j,C,q⟩:=h;cases B;obtain⟨u,rfl,G⟩:=K.one;obtain⟨t,rfl⟩:=G;obtain⟨z,Xo,n,r,m,e⟩:=I.lstM f;obtain⟨w,J,c⟩:=r.get C
 refine s9 Sj ⟨_,e,rfl⟩ F.entry_list_pop (F.args_list_pop_2 _ _)
  (MeetsSeq.list_pop_at l Xo.toArray n i t k w (fitsIndex_both p g) (by rw[Pk,<- m];exact j) (by rw[<- UQ];exact J)<|by rw[Pk];lia) ⟨e,?_⟩
 refine⟨y,_,I.lset (its':=Xo.eraseIdx k) f e ?_ (r.eraseIdx k) ?_,c,q⟩
 .show Xo.toArray.eraseIdxIfInBounds k=(Xo.eraseIdx k).toArray
  rw[TH]
 .have:=oF xs k
  lia
theorem FX(xs:List α)(k:Nat):(PN k xs).flatten.length=k*xs.length:=by
 induction k with
 |zero=>simp
 |succ k ih=>rw[Qg,Rr,Pz,ih,Nat.succ_mul,Nat.add_comm]
end
section
variable{prog:eC}
set_option maxRecDepth 100000 in
end
section
end
section
variable{κ:Type}[DecidableEq κ]
noncomputable def dY(Xk:List (κ×V))(k:κ):Option V:=(Xk.find? λc=>decide (c.1=k)).map (·.2)
noncomputable def dq(Xk:List (κ×V))(k:κ)(v:V):List (κ×V):=
 if (Xk.any λc=>decide (c.1=k))=true then Xk.map (λc=>if c.1=k then (c.1,v) else c) else Xk++[(k,v)]
noncomputable def gL(Xk:List (κ×V))(k:κ):List (κ×V):=Xk.filter λc=>decide (c.1≠k)
theorem nz{p:κ×V}{r:List (κ×V)}{k:κ}(e:p.1=k):dY (p::r) k=ap p.2:=by simp[dY,Qu,e]
theorem m7{p:κ×V}{r:List (κ×V)}{k:κ}(e:¬p.1=k):dY (p::r) k=dY r k:=by simp[dY,Qu,e]
theorem uj(k:κ):∀Xk:List (κ×V),(Xk.any λkv=>decide (kv.1=k))=(dY Xk k).isSome
 |[]=>rfl
 |p::r=>by
  rw[QC]
  by_cases e:p.1=k
  .simp only[nz e,decide_eq_true e,S3,U0]
  .rw[m7 e,decide_eq_false e,Q0];exact uj k r
theorem jE(Xk:List (κ×V))(k:κ)(v:V):(dq Xk k v).length<=Xk.length+1:=by
 unfold dq
 split
 .rw[Pa];lia
 .rw[Pz,Pu,Qs];lia
theorem RelO.isSome_eq{o:Option V}{u:Option ay}(r:RelO o u):o.isSome=u.isSome:=by
 cases o with
 |none=>cases u with
  |none=>rfl
  |some _=>exact(show False from r).elim
 |some _=>cases u with
  |none=>exact(show False from r).elim
  |some _=>rfl
theorem KV.val{Xk:List (κ×V)}{vs:List (κ×ay)}(r:KV Xk vs)(k:κ):RelO (dY Xk k) (Wf vs k):=by
 unfold KV at r
 induction r with
 |nil=>exact QZ
 |@cons p q ps qs h t ih=>
  obtain⟨f,g⟩:=h
  by_cases e:p.1=k
  .have c:q.1=k:=f.symm.trans e
   have b:Wf (q::qs) k=ap q.2:=by simp[Wf,Qu,c]
   rw[nz e,b];exact g
  .have c:¬q.1=k:=λz=>e (f.trans z)
   have b:Wf (q::qs) k=Wf qs k:=by simp[Wf,Qu,c]
   rw[m7 e,b];exact ih
theorem KV.any{Xk:List (κ×V)}{vs:List (κ×ay)}(r:KV Xk vs)(k:κ):(Xk.any λkv=>decide (kv.1=k))=vs.any λkv=>decide (kv.1=k):=by
 unfold KV at r
 induction r with
 |nil=>rfl
 |cons h t ih=>rw[QC,QC,ih,h.1]
theorem KV.repl{Xk:List (κ×V)}{vs:List (κ×ay)}(r:KV Xk vs)(k:κ){y:V}(g:RelV y u):
  KV (Xk.map λkv=>if kv.1=k then (kv.1,y) else kv) (vs.map λkv=>if kv.1=k then (kv.1,u) else kv):=by
 unfold KV at r ⊢
 induction r with
 |nil=>exact .nil
 |@cons p q ps qs h t ih=>
  rw[Pc,Pc];refine .cons ?_ ih;obtain⟨c,f⟩:=h
  by_cases e:p.1=k
  .rw[if_pos e,if_pos (c.symm.trans e)];exact⟨c,g⟩
  .rw[if_neg e,if_neg (λz=>e (c.trans z))];exact⟨c,f⟩
theorem KV.put{Xk:List (κ×V)}{vs:List (κ×ay)}(r:KV Xk vs)(k:κ){y:V}(c:RelV y u):KV (dq Xk k y) (Ww vs k u):=by
 unfold dq Ww;rw[r.any k]
 by_cases e:(vs.any λf=>decide (f.1=k))=true
 .rw[if_pos e,if_pos e];exact r.repl k c
 .rw[if_neg e,if_neg e];exact Paired.snoc r ⟨rfl,c⟩
theorem KV.drop{Xk:List (κ×V)}{vs:List (κ×ay)}(r:KV Xk vs)(k:κ):KV (gL Xk k) (without vs k):=by
 unfold KV at r ⊢;unfold gL without
 induction r with
 |nil=>exact .nil
 |@cons p q ps qs h t ih=>
  obtain⟨c,g⟩:=h;rw[PM,PM]
  by_cases e:p.1=k
  .have a:¬decide (p.1≠k)=true:=by simp[e]
   have b:¬decide (q.1≠k)=true:=by simp[c.symm.trans e]
   rw[if_neg a,if_neg b];exact ih
  .have f:¬q.1=k:=λz=>e (c.trans z)
   have a:decide (p.1≠k)=true:=by simp[e]
   have b:decide (q.1≠k)=true:=by simp[f]
   rw[if_pos a,if_pos b];exact .cons ⟨c,g⟩ ih
theorem KV.length{Xk:List (κ×V)}{vs:List (κ×ay)}(r:KV Xk vs):Xk.length=vs.length:=QT r
theorem CB(Xk:List (κ×V))(k:κ):(gL Xk k).length<=Xk.length:=P2 _ _
end
theorem iC{k:aB}(r:RelV (kV k) u):(aU P w).is k u=true:=by
 cases k with
 |inl i=>obtain⟨t,e⟩:=(show ∃t,u=Rz i t from r);subst e;exact sV P w i t
 |inr x=>obtain⟨t,e⟩:=(show ∃t,u=SQ x t from r);subst e;exact uc P w x t
theorem oE{P:eC}{w:fe}:∀{ks:List aB}{us:Xs},Vals (ks.map kV) us->ItemsAre (aU P w) ks us
 |[],_,r=>by rw[PK]at r;cases r;exact .nil
 |k::ks,_,r=>by
  rw[Pc]at r;cases r with
  |cons h t=>exact .cons (iC h) (oE t)
abbrev KT(H:Hp):List (List aB×V)->List (List aB×ca×ay)->Prop:=Wh λp q=>p.1=q.1/\H q.2.1=ap (.tup<|p.1.map kV)/\RelV p.2 q.2.2
theorem KT.val{Xk:List (List aB×V)}(r:KT H Xk xs)(k:List aB):RelO (dY Xk k) ((WU xs k).map (·.2)):=by
 induction r with
 |nil=>exact QZ
 |@cons p q ps qs h t ih=>
  obtain⟨f,_,g⟩:=h
  by_cases e:p.1=k
  .have c:q.1=k:=f.symm.trans e
   have b:WU (q::qs) k=ap q.2:=by simp[WU,Qu,c]
   rw[nz e,b];exact g
  .have c:¬q.1=k:=λz=>e (f.trans z)
   have b:WU (q::qs) k=WU qs k:=by simp[WU,Qu,c]
   rw[m7 e,b];exact ih
theorem KT.repl{Xk:List (List aB×V)}(r:KT H Xk xs)(k:List aB){y:V}(i:RelV y u):
  KT H (Xk.map λkv=>if kv.1=k then (kv.1,y) else kv) (xs.map<|putAt k u):=by
 induction r with
 |nil=>exact .nil
 |@cons p q ps qs h t ih=>
  rw[Pc,Pc];refine .cons ?_ ih;obtain⟨c,f,g⟩:=h;unfold putAt
  by_cases e:p.1=k
  .rw[if_pos e,if_pos (c.symm.trans e)];exact⟨c,f,i⟩
  .rw[if_neg e,if_neg (λz=>e (c.trans z))];exact⟨c,f,g⟩
theorem KT.put{Xk:List (List aB×V)}(r:KT H Xk xs)(k:List aB){y:V}(g:H b=ap (.tup<|k.map kV))(c:RelV y u):
  KT H (dq Xk k y) (storedH xs k b u):=by
 have e:(Xk.any λf=>decide (f.1=k))=(WU xs k).isSome:=by
  rw[uj,(r.val k).isSome_eq,To]
 unfold dq storedH;rw[e]
 by_cases q:(WU xs k).isSome=true
 .rw[if_pos q,if_pos q];exact r.repl k c
 .rw[if_neg q,if_neg q];exact Paired.snoc r ⟨rfl,g,c⟩
theorem KT.keeps{Xk:List (List aB×V)}(r:KT H Xk xs)(c:∀b ys,H b=ap (.tup ys)->H' b=ap (.tup ys)):KT H' Xk xs:=
 eJ r λ_ _ z=>⟨z.1,c _ _ z.2.1,z.2.2⟩
section
variable{h:fx}
theorem Ih{u:HO}(ok:HOk P w H h)(e:Rd H a u):ObjOk P w H h a u:=e.ok ok
theorem iF{Xk:List (aB×V)}(ok:HOk P w H h)(e:Rd H a (.dK Xk)):Xk.length<=sizeLine/\(a==qa)=cm/\∃vs,KV Xk vs/\h.DictOf (aU P w) a vs:=
 show ObjOk P w H h a (.dK Xk) from Ih ok e
theorem AW{Xk:List (aB×V)}(ok:HOk P w H h)(e:H a=ap (.dK Xk)):Xk.length<=sizeLine/\(a==qa)=cm/\∃vs,KV Xk vs/\h.DictOf (aU P w) a vs:=iF ok (.inl e)
theorem lS{ks:List aB}(ok:HOk P w H h)(e:H a=ap (.tup<|ks.map kV)):(WG<|aU P w).is h ks a:=by
 obtain⟨_,Xo,r,o,g,⟨f,n,c⟩,_⟩:=(show ObjOk P w H h a (.tup<|ks.map kV) from ok a _ e);exact⟨o,Xo.toArray,n,g,f,c,by simpa using oE r⟩
theorem oB{Xk:List (List aB×V)}(ok:HOk P w H h)(e:Rd H a (.dT Xk)):Xk.length<=sizeLine/\(a==qa)=cm/\
  ∃xs,KT H Xk xs/\h.DictOfH (WG<|aU P w) a xs:=by
 obtain⟨z,y,xs,r,o,g,B,f,c,j,v,i⟩:=(show ObjOk P w H h a (.dT Xk) from Ih ok e);refine⟨z,y,xs,r,o,g,B,f,c,j,v,λx hx=>?_,i⟩;have all:∀{l:List (List aB×V)}{m:List (List aB×ca×ay)},KT H l m->∀x∈m,(WG<|aU P w).is h x.1 x.2.1:=by
  intro l m q
  induction q with
  |nil=>intro x hx;exact nomatch hx
  |@cons p q ps qs hq t ih=>
   intro x hx;rcases Po.mp hx with e|hx
   .subst e
    exact lS ok (by rw[<- hq.1];exact hq.2.1)
   .exact ih x hx
 exact all r x hx
theorem OS{Xk:List (List aB×V)}(ok:HOk P w H h)(e:H a=ap (.dT Xk)):Xk.length<=sizeLine/\(a==qa)=cm/\
  ∃xs,KT H Xk xs/\h.DictOfH (WG<|aU P w) a xs:=oB ok (.inl e)
end
def DGet(H:Hp)(a:ca)(y:V)(r:Option V):Prop:=
 (∃Xk k,Rd H a (.dK Xk)/\y=kV k/\r=dY Xk k)\/∃Xk k b,Rd H a (.dT Xk)/\y=.ref b/\H b=ap (.tup<|k.map kV)/\r=dY Xk k
def DPut(H:Hp)(a:ca)(y v:V)(H':Hp):Prop:=
 (∃Xk k,H a=ap (.dK Xk)/\y=kV k/\Xk.length<sizeLine/\H'=upd H a (.dK<|dq Xk k v))\/
 ∃Xk k b,H a=ap (.dT Xk)/\y=.ref b/\H b=ap (.tup<|k.map kV)/\Xk.length<sizeLine/\H'=upd H a (.dT<|dq Xk k v)
theorem DGet.k{H:Hp}{a:ca}{Xk:List (aB×V)}{k:aB}(e:H a=ap (.dK Xk)):DGet H a (kV k) (dY Xk k):=.inl ⟨Xk,k,.inl e,rfl,rfl⟩
theorem DGet.t{Xk:List (List aB×V)}{k:List aB}(e:H a=ap (.dT Xk))(c:H b=ap (.tup<|k.map kV)):DGet H a (.ref b) (dY Xk k):=.inr ⟨Xk,k,b,.inl e,rfl,c,rfl⟩
theorem DPut.k{H:Hp}{a:ca}{Xk:List (aB×V)}{k:aB}{v:V}(e:H a=ap (.dK Xk))(c:Xk.length<sizeLine):DPut H a (kV k) v (upd H a<|.dK<|dq Xk k v):=.inl ⟨Xk,k,e,rfl,c,rfl⟩
theorem DPut.t{Xk:List (List aB×V)}{k:List aB}{v:V}(e:H a=ap (.dT Xk))(f:H b=ap (.tup<|k.map kV))(c:Xk.length<sizeLine):
  DPut H a (.ref b) v (upd H a<|.dT<|dq Xk k v):=.inr ⟨Xk,k,b,e,rfl,f,c,rfl⟩
section
variable{y v:V}{o:Option V}
theorem Inv.big(I:Inv X Xi Z H s):qa<s.heap.objs.size:=by
 have h:eg<s.heap.objs.size:=(I.mod.glob.keeps I.bk).lt;exact UU (by decide) h
theorem zQ(K:A.units+1<pA)(I:Inv X Xi Z H s)(g:DGet H a y (ap v))(C:RelV y u)(h:∀i s',Inv X Xi Z H s'->RelV v i->Q i s'):
  cp (cT X.prog X.w) A (Wr (.ref a) u) Q E s:=by
 rcases g with⟨q,k,e,x,l⟩|⟨q,k,b,e,x,eb,l⟩
 .subst x
  obtain⟨z,F,J,f,B⟩:=iF I.hok e;obtain⟨i,m,c⟩:=dz (v:=v) (o:=Wf J k) (by rw[l];exact f.val k)
  exact wpAny_getItem_of (iC C) B.mapOf m (h i _ (I.tok _) c)
 .subst x
  cases (show u=PC b from C);obtain⟨z,F,xs,f,B⟩:=oB I.hok e;obtain⟨i,m,c⟩:=dz (v:=v) (o:=(WU xs k).map (·.2)) (by rw[l];exact f.val k)
  obtain⟨p,G,j⟩:=Qp.mp m;refine wpAny_getItem_heap (V7 K) (lS I.hok eb) B G ?_;rw[j];exact h i _ (I.tok _) c
theorem NW(x:A.units+1<pA)(I:Inv X Xi Z H s)(g:DGet H a y o)(p:RelV y u)(h:∀s',Inv X Xi Z H s'->Q (.bool o.isSome) s'):
  cp (cT X.prog X.w) A (hG .In u<|.ref a) Q E s:=by
 rcases g with⟨i,k,e,j,l⟩|⟨i,k,b,e,j,eb,l⟩
 .subst j
  obtain⟨z,f,B,c,m⟩:=iF I.hok e;refine wpAny_in_of (iC p) f m.mapOf ?_;rw[<- (c.val k).isSome_eq,<- l];exact h _ (I.tok _)
 .subst j
  cases (show u=PC b from p);obtain⟨z,f,xs,c,m⟩:=oB I.hok e;refine wpAny_in_heap (V7 x) (lS I.hok eb) f m ?_;have q:=(c.val k).isSome_eq;rw[To]at q;rw[<- q,<- l];exact h _ (I.tok _)
theorem xC(x:A.units+1<pA)(I:Inv X Xi Z H s)(g:DGet H a y o)(p:RelV y u)(h:∀s',Inv X Xi Z H s'->Q (.bool<|!o.isSome) s'):
  cp (cT X.prog X.w) A (hG .NotIn u<|.ref a) Q E s:=by
 rcases g with⟨i,k,e,j,l⟩|⟨i,k,b,e,j,eb,l⟩
 .subst j
  obtain⟨z,f,B,c,m⟩:=iF I.hok e;refine wpAny_notIn_of (iC p) f m.mapOf ?_;rw[<- (c.val k).isSome_eq,<- l];exact h _ (I.tok _)
 .subst j
  cases (show u=PC b from p);obtain⟨z,f,xs,c,m⟩:=oB I.hok e;refine wpAny_notIn_heap (V7 x) (lS I.hok eb) f m ?_;have q:=(c.val k).isSome_eq;rw[To]at q;rw[<- q,<- l];exact h _ (I.tok _)
theorem sy{h':fx}{t':Nat}{c:HO}(I:Inv X Xi Z H s)(h:NQ (H a))(g:Qx a s.heap h')(i:∃q,h'.get? a=ap q)(new:ObjOk X.prog X.w (upd H a c) h' a c):
  Inv X Xi Z (upd H a c) { s with heap:=h',toks:=t' }:=
 I.write (x:=a) (e:=a) h (.inl rfl) (λb q f z=>(g.2 b f).trans z) i new
theorem qK{h':fx}{Xk:List (aB×V)}{vs:List (aB×ay)}(z:Xk.length<=sizeLine)(f:(a==qa)=cm)(c:KV Xk vs)(dd:h'.DictOf (aU P w) a vs):
  ObjOk P w H' h' a (.dK Xk):=⟨z,f,vs,c,dd⟩
theorem o_{Q:Unit->cb->Prop}(hu:A.units+1<pA)(I:Inv X Xi Z H s)(g:DPut H a y v H')(M:RelV y u)(N:RelV v r)(h:∀s',Inv X Xi Z H' s'->Q () s'):
  cp (cT X.prog X.w) A (setItem (.ref a) u r) Q E s:=by
 rcases g with⟨f,k,e,B,l,G⟩|⟨f,k,b,e,B,eb,l,G⟩
 .subst B G
  obtain⟨z,p,vs,i,J⟩:=AW I.hok e;have F:vs.length<=sizeLine:=by rw[<- i.length];exact z
  have x:(dq f k v).length<=sizeLine:=by have:=jE f k v;lia
  refine wpAny_setItem_pairs (hsz:=F) (iC M) J λK j C=>h _ ?_;have R:∃q,K.get? a=ap q:=let ⟨q,_,_,m,_⟩:=j;⟨q,m⟩;exact sy I (by rw[e];exact QZ) C R (qK x p (i.put k N) j)
 .subst B G
  cases (show u=PC b from M);obtain⟨z,p,xs,i,J⟩:=OS I.hok e;have F:xs.length<=sizeLine:=by rw[<- QT i];exact z
  have x:(dq f k v).length<=sizeLine:=by have:=jE f k v;lia
  refine wpAny_setItem_heap (hsz:=F) (V7 hu) (lS I.hok eb) J λK j C=>h _ ?_;obtain⟨q,S,Y,m,O,U,W,_,T⟩:=j;refine sy I (by rw[e];exact QZ) C ⟨q,m⟩ ⟨x,p,_,(i.put k eb N).keeps λc ys L=>?_,q,S,Y,m,O,U,W,T⟩
  rw[aF (Mz L e λz=>nomatch z)];exact L
end
section
variable{Xk:List (aB×V)}{k:aB}
theorem Hu{v:V}{more:Xs}(I:Inv X Xi Z H s)(e:H a=ap (.dK Xk))(m:RelV (kV k) u)(l:dY Xk k=ap v)(B:more=[]\/∃x,more=[x])(h:∀g s',Inv X Xi Z (upd H a<|.dK<|gL Xk k) s'->RelV v g->Q g s'):cp (cT X.prog X.w) A (call (.builtin "dict.pop") (.ref a::u::more)) Q E s:=by
 obtain⟨z,C,p,c,y⟩:=AW I.hok e;obtain⟨g,G,j⟩:=dz (v:=v) (o:=Wf p k) (by rw[<- l];exact c.val k)
 have J:(keyPart u).isSome=true:=by
  cases k with
  |inl i=>obtain⟨t,q⟩:=(show ∃t,u=Rz i t from m);subst q;rfl
  |inr x=>obtain⟨t,q⟩:=(show ∃t,u=SQ x t from m);subst q;rfl
 have M:Wn "dict.pop" ⟨.ref a::u::more,[]⟩:=by
  rcases B with q|⟨x,q⟩
  .subst q;exact PySem.F.args_dict_pop_2 _ _
  .subst q;exact Ub _ _ _
 refine call_meetsIn RN y.typeIs Um M (meets_dict_pop_there (aU X.prog X.w) a (iC m) more B J)
  ⟨p,g,y,by rw[<- c.length];exact z,G,λK f N=>h g _ ?_ j⟩
 have L:∃q,K.get? a=ap q:=let ⟨q,_,_,hq,_⟩:=f;⟨q,hq⟩;exact sy I (by rw[e];exact QZ) N L (qK (PL (CB Xk k) z) C (c.drop k) f)
theorem JB(I:Inv X Xi Z H s)(e:H a=ap (.dK Xk))(f:RelV (kV k) u)(l:dY Xk k=bb)(h:∀s',Inv X Xi Z H s'->Q r s'):
  cp (cT X.prog X.w) A (call (.builtin "dict.pop") [.ref a,u,r]) Q E s:=by
 obtain⟨z,p,g,c,j⟩:=AW I.hok e;have m:Wf g k=none:=j7 (by rw[<- l];exact c.val k)
 have v:(keyPart u).isSome=true:=by
  cases k with
  |inl i=>obtain⟨t,q⟩:=(show ∃t,u=Rz i t from f);subst q;rfl
  |inr x=>obtain⟨t,q⟩:=(show ∃t,u=SQ x t from f);subst q;rfl
 exact call_meetsIn RN j.typeIs Um (Ub _ _ _) (meets_dict_pop_default (aU X.prog X.w) a (iC f) p v r) ⟨g,j,m,h _<|I.tok _⟩
theorem OL(I:Inv X Xi Z H s)(e:Rd H a (.dK Xk))(h:∀t s',Inv X Xi Z H s'->Q (.int Xk.length t) s'):cp (cT X.prog X.w) A (call (.builtin "len") [.ref a]) Q E s:=by
 obtain⟨z,f,i,c,g⟩:=iF I.hok e;refine call_len_dict f g (by rw[<- c.length];rw[WK]at z;lia) ?_
 rw[<- c.length];exact h _ _ (I.tok _)
end
theorem t9{y:V}{o:Option V}(I:Inv X Xi Z H s)(g:DGet H a y o):s.TypeIs (.ref a) "dict":=by
 rcases g with⟨c,k,e,_,_⟩|⟨c,k,b,e,_,_,_⟩
 .obtain⟨_,_,h,_,f⟩:=iF I.hok e
  exact f.typeIs
 .obtain⟨_,_,xs,_,f⟩:=oB I.hok e
  exact f.typeIs
section
variable{i value:eH}{pos' tpos:Pos}{td ty tv:TE}
end
theorem Bt(h:fx)(c:qa<h.objs.size):ObjOk P w H (h.push { cls:=.type "dict",data:=.dict #[] }) h.objs.size (.dT []):=
 ⟨QY _,beq_eq_false_iff_ne.mpr (P0<|PQ c),[],.nil,_,#[],0,Pm _ rfl,⟨rfl,rfl,rfl⟩,rfl,rfl,List.nodup_nil⟩
noncomputable def J1:TE:=λ_ H Q=>∀p,H p=bb->Q (.ref p) (upd H p<|.dT [])
section
theorem CV:PE X (.Dict [] [] pos) J1:=λXi s Z H Q I h=>
 wpAny_Dict_empty ⟨.ref s.heap.objs.size,_,I.laid (a:=s.heap.objs.size) (o:=.dT []) (t':=s.toks) (λ_ _ q=>Pe _ q) (Pl _) (Bt s.heap I.big),rfl,h _<|I.hok.fresh<|Pl _⟩
end
structure M1(X:Cx)(o:eH)(m:Str)(Xn:Pos)(e:eH)(Xm:Pos):Prop where
 base:kl o m X.env (eX o X.env)=eX o X.env
 few:((g3 Xm<|starEach [e] X.env).all (λx=>!x.1)&&(wh Xm<|keywordEach [] X.env).all (λx=>x.1.isSome)
  && decide (([e]:Xu).length+([]:List vx).length+(if ([]:List vx).isEmpty then 0 else 1)<30))=true
 line:(Xn.endLine==Xm.line)=true
 trees:g3 Xm (cy [e] X.env)=[(cm,eX e X.env)]
structure M2(X:Cx)(o:eH)(m:Str)(Xn:Pos)(e f:eH)(Xm:Pos):Prop where
 base:kl o m X.env (eX o X.env)=eX o X.env
 few:((g3 Xm<|starEach [e,f] X.env).all (λx=>!x.1)&&(wh Xm<|keywordEach [] X.env).all (λx=>x.1.isSome)
  && decide (([e,f]:Xu).length+([]:List vx).length+(if ([]:List vx).isEmpty then 0 else 1)<30))=true
 line:(Xn.endLine==Xm.line)=true
 trees:g3 Xm (cy [e,f] X.env)=[(cm,eX e X.env),(cm,eX f X.env)]
def IsD(H:Hp)(a:ca):Prop:=(∃Xk,Rd H a (.dK Xk))\/∃Xk,Rd H a (.dT Xk)
theorem B2(I:Inv X Xi Z H s)(d:IsD H a):
  s.TypeIs (.ref a) "dict"/\(∀b,PC a=.ref b->∃c,s.heap.get? b=ap c/\c.dict=bb)/\(a==qa)=false:=by
 rcases d with⟨h,e⟩|⟨h,e⟩
 .obtain⟨_,g,l,_,f⟩:=iF I.hok e
  refine⟨f.typeIs,λb q=>?_,g⟩;cases q;obtain⟨c,_,_,j,i,_⟩:=f;exact⟨c,j,i.2.1⟩
 .obtain⟨_,g,xs,_,f⟩:=oB I.hok e
  refine⟨f.typeIs,λb q=>?_,g⟩;cases q;obtain⟨c,_,_,j,i,_⟩:=f;exact⟨c,j,i.2.1⟩
section
variable{y d:V}{o:Option V}
end
noncomputable def J_(td ty:TE):TE:=λZ H Q=>td Z H λx H1=>∃a,x=.ref a/\IsD H1 a/\ty Z H1 λy H2=>∃Xk k v,H2 a=ap (.dK Xk)/\y=kV k/\dY Xk k=ap v/\Q v (upd H2 a<|.dK<|gL Xk k)
noncomputable def K7(td ty tx:TE):TE:=λZ H Q=>td Z H λx H1=>∃a,x=.ref a/\IsD H1 a/\ty Z H1 λy H2=>tx Z H2 λz H3=>∃Xk k,H3 a=ap (.dK Xk)/\y=kV k/\
 (∀v,dY Xk k=ap v->Q v (upd H3 a<|.dK<|gL Xk k))/\(dY Xk k=bb->Q z H3)
section
variable{f:eH}{Xn Xm:Pos}{td ty tx:TE}
theorem B_(G:PE X o td)(J:PE X e ty)(m:M1 X o "pop" Xn e Xm):PE X (.Call (.Attribute o "pop" Xn) [e] [] Xm) (J_ td ty):=by
 intro Xi s Z H Q I h;refine wpAny_Call_method m.base m.few m.line T9 RN Uw (bv (G Xi s Z H _ I h) λu F ⟨x,H1,I1,z,a,C,d,g⟩=>?_);subst C;obtain rfl:u=PC a:=z;obtain⟨t1,t2,_⟩:=B2 I1 d;refine⟨t1,t2,?_⟩;rw[m.trees];refine Ra rfl (Ru<|Q9 (bv (J Xi F Z H1 _ I1 g) λK L ⟨y,H2,I2,j,i,k,v,B,q,l,p⟩=>RM ?_));subst q;exact Hu I2 B j l (.inl rfl) λN M I3 c=>⟨v,_,I3,c,p⟩
theorem D8(S:PE X o td)(T:PE X e ty)(R:PE X f tx)(m:M2 X o "pop" Xn e f Xm):PE X (.Call (.Attribute o "pop" Xn) [e,f] [] Xm) (K7 td ty tx):=by
 intro Xi s Z H Q I h;refine wpAny_Call_method m.base m.few m.line T9 RN Uw (bv (S Xi s Z H _ I h) λu N ⟨x,H1,I1,L,a,M,d,C⟩=>?_);subst M;obtain rfl:u=PC a:=L;obtain⟨t1,t2,_⟩:=B2 I1 d;refine⟨t1,t2,?_⟩;rw[m.trees];refine Ra rfl (Ru<|Q9 (bv (T Xi N Z H1 _ I1 C) λW p ⟨y,H2,I2,i,J⟩=>
  Q9 (bv (R Xi p Z H2 _ I2 J) λq Y ⟨z,H3,I3,O,g,k,j,K,F,B⟩=>RM ?_)))
 subst K;cases l:dY g k with
 |some v=>exact Hu I3 j i l (.inr ⟨q,rfl⟩) λU G I4 c=>⟨v,_,I4,c,F v l⟩
 |none=>exact JB I3 j i l λG I4=>⟨z,H3,I4,O,B l⟩
end
section
variable{Xk:List (aB×V)}
theorem DJ(I:Inv X Xi Z H s)(e:Rd H a (.dK Xk))(h:∀p s',H p=bb->Inv X Xi Z (upd H p<|.dK Xk) s'->Q (.ref p) s'):cp (cT X.prog X.w) A (call (.type "dict") [.ref a]) Q E s:=by
 obtain⟨z,i,v,c,l⟩:=iF I.hok e;refine kt_call_dict i l (by rw[<- c.length];exact z) λm f j=>?_
 refine h _ _ (I.hok.fresh<|Pl _) (I.laid (a:=s.heap.objs.size) (o:=.dK Xk) (t':=s.toks) (λb q g=>?_) (Pl _)<|qK z (beq_eq_false_iff_ne.mpr<|P0<|PQ I.big) c f);exact(j.2 b<|PQ<|Pj g).trans (Pe _ g)
end
section
variable{y:V}
end
end _2
namespace Att
open PySem PySem.W PySem.Calls PyProof.Rows
theorem jV{P:Params}{h:fx}:∀(c:Xq)(vs:Xs),WellAll P h vs (c.map WData.int)->Xd vs c:=by
 intro c
 induction c with
 |nil=>
  intro vs w;rw[PK]at w;cases w;exact .nil
 |cons n c ih=>
  intro vs w;rw[Pc]at w;cases w with
  |cons a b=>
   cases a;exact .cons _ _ (ih _ b)
theorem AC{l:OpenLaw}{n:Nat}(w:l.most=ap n){P:Params}{h:fx}{args:List WData}{e:Xs}
  (c:l.row.toRowW.claim.pre args=true) (m:WellAll P h e args):
  ∃a vs b,e=[PC a]/\args=[WData.list (b.map WData.int)]/\h.get? a=ap { cls:=.type "list",data:=.seq vs.toArray }/\Xd vs b/\b.length<=n:=by
 have j:WShape.hasAll [] args [.list .int]=true:=(pre_splitW c).1;have o:l.pre.holds [] { args:=args }=true:=(pre_splitW c).2;obtain⟨d,r,rfl,u,s⟩:=hasAllW_cons j;obtain rfl:=hasAllW_nil s;obtain⟨x,rfl,v⟩:=hasW_list u;obtain⟨b,rfl⟩:=items_int v;have f:b.length<=n:=by
  unfold OpenLaw.pre at o;have g:(WTm.not<|.lt (.lit<|.int (n:Int))<|.len<|.arg 0).holds [] { args:=[.list (b.map .int)] }=true:=by
   have g:=(holds_andW o).1;rw[w]at g;exact g
  have i:=condW_of g (w_not<|w_lt w_lit<|w_len_list<|w_arg rfl);rw[Pa]at i;refine Nat.le_of_not_lt λq=>?_;have p:(n:Int)<((b.length:Nat):Int):=by lia
  first
   |(rw[decide_eq_true p]at i;exact absurd i (by decide))
   |(simp at i;lia)
 cases m with
 |cons w1 w2=>
  cases w2;cases w1 with
  |list ho hall=>exact⟨_,_,b,rfl,rfl,ho,jV b _ hall,f⟩
theorem zU(l:OpenLaw)(args:List WData):l.row.toRowW.claim.post args (.bool true) args=true:=
 postW_of (r:=l.row.toRowW) (X:=(true==true))
  (show WShape.has [] (.bool true) .bool=true by first|rfl|decide|simp[WShape.has,WShape.arms,WShape.armsAll])
  (show (WTm.eq .res<|.lit<|.bool true).value [] { args:=args,res:=ap (.bool true),after:=args }=ap (.bool (true==true)) from w_eq_bool (w_res rfl) w_lit) rfl
theorem sU{l:OpenLaw}{n:Nat}{q:eC}{loose:Xr}{XP:(Str->Option ay)->fx->Prop}{YP:fe->fx->Prop}{d:DefRec}
  (T:l.most=ap n) (A:d.params.defaults=[])
  (call:∀(w:fe)(c b:cb)(u B:Xy)(fa:ca)(o:Obj)(z s g:ay)(a:ca)(vs:Xs)(p:Xq),
   Ground q loose [] XP w c u B b.heap->YP w b.heap->
   b.heap.get? fa=ap o->o.data=.func (docDef d.name d.params d.body d.scope z s g)->b.heap.CodeRec s d.name->u d.name=ap (.ref fa)->
   b.heap.get? a=ap { cls:=.type "list",data:=.seq vs.toArray }->Xd vs p->p.length<=n->b.gens=#[]->
   Uf (cT l.prog w) WC (.call (.ref fa) ⟨[.ref a],[]⟩) (λr m=>r=.ok (.ret<|.bool true)/\OldK b.heap m.heap/\m.os=b.os/\Wc m.gens) b):
  WalkO q loose XP YP l.row.toRowW d [] (λf vs=>U3 f vs):=by
 intro w c b u B G Y fa o z s g K kV P I x C v S E F U h H M y R;obtain rfl:K=.none:=Dflts.none C A;obtain rfl:kV=.none:=Dflts.noKw C;obtain⟨a,vs,p,rfl,rfl,i,e,j⟩:=AC T h y;refine enter_call (SZ (call w c b u B fa o z s g a vs p G Y P (fd_plain I) x v i e j S) λr m O=>?_);obtain⟨rfl,J,L,N⟩:=O;exact⟨.inl ⟨.bool true,.bool true,[],rfl,λ_=>rfl,.bool true,zU l _,λ_=>⟨List.Pairwise.nil,λ_ Q=>(nomatch Q)⟩⟩,J,L,N⟩
section
variable {prog:eC}{w:fe}{A:fv}{E:Xw}{s:cb}{K:Frag}
end
end Att
namespace _2
open PySem PySem.Spec PyProof.Rows
variable{a it l z:ca}{A:fv}{items:Xz}{b f1:Bool}{X:Cx}{h h' h₀:fx}{H:Hp}{Xi:Xx}{args:List (Bool×ca)}{fp:Xt}{elts:Xu}{S:List ZS}{i j n x1:Nat}{K:Pg}{pos tp:Pos}{P prog:eC}{s:cb}{Z:St}{x:Str}{f0:ay}{E Q:Xw}{w:fe}{F:ZS->Option ay}
theorem cN:∀{vs:Xs}{c:Xq},Xd vs c->Vals (c.map V.int) vs
 |_,_,.nil=>.nil
 |_,_,.cons n t h=>.cons ⟨t,rfl⟩ (cN h)
def AY(H:Hp):Prop:=∀b,H b=bb\/∃o xs,H b=ap (.frz o<|.lst xs)
theorem Cj{R mb:Xy}{CX:nV}{k:Nat}{fa:ca}{fd:ff}{sp:Sp}{c:cb}{vs:Xs}{ns:Xq}(KX:K.In c.heap)(T:c.heap.Ns eg R)(g:c.heap.Ns WS mb)(hbb:∀x:Str,x≠"__name__"->mb x=eT x)(O:c.heap.NoLimit)(hg:c.gens=#[])(U:c.heap.get? a=ap { cls:=.type "list",data:=.seq vs.toArray })(hi:Xd vs ns)(hl:ns.length<=sizeLine)(hr:Room k WC)(F:∀base:fx,K.In base->base.Ns eg R->FnOk P w K R base CX k fa fd [x] sp)(hbind:∀(s:cb)(u:ay),WN s fd ⟨[u],[]⟩ [(x,u)])(hsp:∀H:Hp,AY H->SqL K H a (ns.map V.int)->sp [.ref a] H (λv _=>v=.bl true) λ_ _ _=>False)(hCX:∀H e p,CX [] H c (λ_ _ _=>False) e p->False):
  Uf (cT P w) WC (.call (.ref fa) ⟨[.ref a],[]⟩) (λr p=>r=.ok (.ret<|.bool true)/\OldK c.heap p.heap/\p.os=c.os/\Wc p.gens) c:=by
 have rv:=cN hi;have C:=hi.length
 -- from an abstract heap in which nothing but the script may be tracked
 have y:∀H:Hp,AY H->SqL K H a (ns.map V.int)->HOk P w H c.heap->(∀b,H b≠bb->b=a)->(H a≠bb->K.lookup a=bb)->
   Uf (cT P w) WC (.call (.ref fa) ⟨[.ref a],[]⟩) (λr p=>r=.ok (.ret<|.bool true)/\OldK c.heap p.heap/\p.os=c.os/\Wc p.gens) c:=by
  intro H hO hS G hA hK;have f:∀{b:ca}{o:Obj},c.heap.get? b=ap o->H b=bb->(sE c.heap H).get? b=ap o:=λe n=>Dp e n;have noA:∀{b:ca}{o:Obj}{I:Array WI}{N:Nat},c.heap.get? b=ap o->o.data=.dict I N->H b=none:=λ{b o I N} e d=>by
   cases q:H b with
   |none=>rfl
   |some u=>
    have W:b=a:=hA b (by rw[q];simp)
    subst W;rw[U]at e;cases e;have d':Data.seq vs.toArray _=Data.dict I N:=d;cases d'
  have nsK:∀{b:ca}{m:Xy},c.heap.Ns b m->(sE c.heap H).Ns b m:=λ{b m} ⟨o,I,N,e,d,r⟩=>⟨o,I,N,f e (noA e d),d,r⟩;have B:K.In (sE c.heap H):=λb o e=>f (KX b o e) (by
   cases q:H b with
   |none=>rfl
   |some u=>
    have W:b=a:=hA b (by rw[q];simp)
    subst W;rw[hK (by rw[q];simp)]at e;cases e)
  have hM:Mod K R (sE c.heap H):=⟨B,nsK T,⟨mb,nsK g,hbb⟩,let ⟨mc,h1,h2⟩:=O;⟨mc,nsK h1,h2⟩⟩;have e0:Env0 P w K R (sE c.heap H) WC [] c H:=⟨rfl,hM,λb o e=>EW e,UW (zJ _ _),trivial,λb g=>absurd (show b∈([]:Xt) from g) (by simp),G,.of_eq hg⟩
  refine SZ ((F _ B<|nsK T).run WC [] c H ⟨[.ref a],[]⟩ [.ref a] [.ref a] _ _ hr e0 (hbind c<|.ref a) (.cons rfl .nil)<|hsp H hO hS) λr p h=>?_;cases r with
  |error e=>exact(hCX H e p h).elim
  |ok fl=>
   cases fl with
   |next=>exact Qv h
   |brk=>exact Qv h
   |cont=>exact Qv h
   |ret u=>
    obtain⟨v,H',os,J,un,M,r',q⟩:=h;have q':v=.bl true:=q;subst q';obtain rfl:u=Sg true:=r';refine⟨rfl,OldK.of_keep λb o e=>?_,os,J⟩;cases q:H b with
    |none=>exact un.keep b o e q (by intro z;exact absurd (show b∈([]:Xt) from z) (by simp)) (by simp)
    |some u=>
     rcases hO b with z|⟨ob,xs,z⟩
     .rw[q]at z;cases z
     .have z2:=un.frzs b ob _ z
      obtain⟨e1,_⟩:=G b _ z;obtain⟨e2,_⟩:=M b _ z2;rw[e]at e1;cases e1;exact e2
 cases Y:K.lookup a with
 |some o=>
  -- the script is one of the module's own objects
  have e:=KX a o Y;rw[U]at e;cases e;refine y (λ_=>bb) (λ_=>.inl rfl) (.inr ⟨_,vs.toArray,_,Y,rfl,rfl,rfl,by rw[Pk,C];exact hl,by simpa using rv⟩) (λb u z=>by have L:(none:Option HO)=ap u:=z;cases L) (λb z=>absurd rfl z) λz=>absurd rfl z
 |none=>
  refine y (λb=>if b=a then ap (.frz { cls:=.type "list",data:=.seq vs.toArray }<|.lst<|ns.map V.int) else bb) (λb=>?_) (.inl<|.inr ⟨{ cls:=.type "list",data:=.seq vs.toArray },if_pos rfl⟩) (λb u z=>?_) (λb z=>?_) λ_=>Y
  .by_cases g:b=a
   .exact .inr ⟨_,_,if_pos g⟩
   .exact .inl (if_neg g)
  .by_cases g:b=a
   .have L:=(if_pos g).symm.trans z
    cases L;subst g;exact⟨U,by rw[Pa];exact hl,vs,_,rv,U⟩
   .have L:=(if_neg g).symm.trans z
    cases L
  .by_cases g:b=a
   .exact g
   .exact absurd (if_neg g) z
theorem Eg{l:W.OpenLaw}{k:Nat}{q:eC}{loose:Xr}{XP:(Str->Option ay)->fx->Prop}{YP:fe->fx->Prop}{d:DefRec}{K:Params->Pg}{CX:fe->nV}{sp:fe->Sp}(hn:l.most=ap n)(L:n<=sizeLine)(N:d.params.defaults=[])(hr:Room k WC)(hY:∀(w:fe)(h:fx),YP w h->(K w.params).In h)(F:∀(w:fe)(r:Xy)(fa:ca)(h:fx),(K w.params).In h->h.Ns eg r->r d.name=ap (.ref fa)->
   ∃fd:ff,(∀(s:cb)(u:ay),WN s fd ⟨[u],[]⟩ [(x,u)])/\
    ∀c:fx,(K w.params).In c->c.Ns eg r->FnOk l.prog w (K w.params) r c (CX w) k fa fd [x] (sp w))(J:∀(w:fe)(H:Hp)(a:ca)(C:Xq),C.length<=n->AY H->SqL (K w.params) H a (C.map V.int)->sp w [.ref a] H (λv _=>v=.bl true) λ_ _ _=>False)(M:∀(w:fe)(H:Hp)(s:cb)(e:ay)(s':cb),CX w [] H s (λ_ _ _=>False) e s'->False):
  W.WalkO q loose XP YP l.row.toRowW d [] (λf vs=>U3 f vs):=by
 refine Att.sU hn N λw O B r mb fa o pm cd doc a vs C G Y ho hd hcd I y p m hg=>?_;have KX:=hY w _ Y;obtain⟨fd,R,hF⟩:=F w r fa _ KX G.T.g I;exact Cj KX G.T.g G.T.b G.T.builtins G.T.nolimit hg y p (PL m L) hr hF R (λH U hS=>J w H a C m U hS) λH e s'=>M w H B e s'
noncomputable def eI(s:rc)(j:Nat):Stmt:=match s with
 |.ClassDef _ _ _ body _ _ _ _ _ _ _=>body.getD j (.Pass ⟨0,0,0,0⟩)
 |_=>.Pass ⟨0,0,0,0⟩
def cc(s:rc):Arguments:=match s with
 |.FunctionDef _ a _ _ _ _ _ _ _ _=>a
 |_=>{ posonlyargs:=[],args:=[],vararg:=bb,kwonlyargs:=[],kw_defaults:=[],kwarg:=bb,defaults:=[] }
def bu(s:rc):List Stmt:=match s with
 |.FunctionDef _ _ b _ _ _ _ _ _ _=>b
 |_=>[]
def aR(s:rc):Scope:=match s with
 |.FunctionDef _ _ _ _ _ _ sc _ _ _=>sc
 |_=>{ kind:=.function,names:=[],isGenerator:=cm,isCoroutine:=cm }
noncomputable abbrev CX0:nV:=λ_ _ _ _ _ _=>False
noncomputable abbrev E0:XK:=λ_ _ _=>False
structure Fun(K:Pg)(x Xj:Str)(st:rc)(f:ca)(fd:ff):Prop where
 ex:∃(oc:ay)(od:Option ca)(kV doc pm:ay)(an:Option ca)(cdv ct:ay)(osl:Array (Option ay)),
  fd=R8 x Xj (cc st) (bu st) (aR st) .none kV doc pm an cdv ct/\K.lookup f=ap ⟨oc,od,.func fd,osl⟩/\TN K cdv Xj=true
 kp:QG K (.ref f)=true
section
variable{mg:Xy}{base:fx}
theorem Fun.binds{c:Str}{m:rc}{f:ca}{fd:ff}{p:Xr}(F:Fun K x c m f fd)(h:∀(kV e q:ay)(r:Option ca)(g o:ay)(us:Xs),us.length=p.length->WT (R8 x c (cc m) (bu m) (aR m) .none kV e q r g o) ⟨us,[]⟩=pure (p.zip us)):Binds K fd p []:=by
 obtain⟨y,B,kV,e,q,r,g,o,v,rfl,lk,u⟩:=F.ex;exact .all (h kV e q r g o)
theorem vG{e:Str}{m:rc}{f:ca}{v:ay}{y u:Option ca}{p:Array (Option ay)}{kV o r g q:ay}(l:K.lookup f=ap ⟨v,y,.func (R8 x e (cc m) (bu m) (aR m) .none kV o r u g q),p⟩)(c:TN K g e=true)(k:QG K (.ref f)=true):Fun K x e m f (R8 x e (cc m) (bu m) (aR m) .none kV o r u g q):=⟨⟨v,y,kV,o,r,u,g,q,p,rfl,l,c⟩,k⟩
end
theorem oA{k:Nat}(c:Room k A):A.units+1<cLine:=Nat.lt_of_le_of_lt (Nat.add_le_add_left (by decide:1<=64) _) c.units
section
theorem As:bO X (.builtin "len") (λxs H Q=>∃a Xk,xs=[V.ref a]/\H a=ap (.dK Xk)/\Q (.int Xk.length) H):=by
 intro Xi s Z H xs g Q I r h;obtain⟨a,Xk,rfl,e,q⟩:=h;obtain⟨u,rfl,c⟩:=pq r;cases c;exact OL I (.inl e) λt f I'=>⟨.int Xk.length,H,I',⟨t,rfl⟩,q⟩
end
section
variable{κ:Type}[DecidableEq κ]
end
section
variable{R:Result->cb->Prop}
theorem rA{u e p:eH}{q:Xu}{f:Pv}{it Xl:ay}{env:Env}(I:Nat->cb->Prop)(J:∀n s,I n s->cp (cT prog w) A (P3 it) (λr s₁=>match r with
   |none=>R (.ok .next) s₁
   |some v=>cp (cT prog w) A (Wj e it v) (λ_ s₂=>cp (cT prog w) A (Wm e env v) (λ_ s₃=>
     cp (cT prog w) A (forIn q true λc r=>if r=true then do let ok <- Xa c env (eX c env);pure (SO ok) else pure (SO r)) (λok s₄=>
      if ok=true then cp (cT prog w) A (eX u env) (λx s₅=>
       cp (cT prog w) A (call (.builtin "list.append") [Xl,x]) (λ_ s₆=>∃m,m<n/\I m s₆) (λ_ _=>False) s₅) (λ_ _=>False) s₄
      else ∃m,m<n/\I m s₄) (λ_ _=>False) s₃) (λ_ _=>False) s₂) (λ_ _=>False) s₁) (λ_ _=>False) s)(n:Nat)(h:I n s):
  Uf (cT prog w) A (.compLoop (.ListComp u [⟨e,p,q,0⟩] f pos) 0 it Xl env) R s:=by
 refine codeAny_loop rfl I (λn s L=>?_) n h;show cp _ A ((compTurn (.ListComp u [⟨e,p,q,0⟩] f pos) 0 it Xl env).onRaise λx=>do noteFrame x env;theTreesLotGoes x) _ _ s
 refine wpAny_noted ?_;rw[compTurn_list];refine ax (Wd<|wpAny_bind (j0 (J n s L) (λr s₁ o=>?_) λ_ _ z=>z.elim));cases r with
 |none=>exact cx o
 |some v=>
  refine ax (j0 o (λ_ s₂ C=>ax (j0 C (λ_ s₃ B=>ax (j0 B (λok s₄ g=>?_) λ_ _ z=>z.elim)) λ_ _ z=>z.elim)) λ_ _ z=>z.elim);cases ok with
  |false=>exact cx ⟨rfl,g⟩
  |true=>
   exact ax (ax (j0 g (λx s₅ G=>ax (j0 G (λ_ s₆ y=>cx (cx ⟨rfl,y⟩)) λ_ _ z=>z.elim)) λ_ _ z=>z.elim))
end
noncomputable def Jk(X:Cx)(N:Xr)(scope:Pv)(cl:List (Str×ca))(C:ca)(s₀:cb)(H₀:Hp)(fp:Xt)(pl:Xx):Cx where
 prog:=X.prog
 w:=X.w
 K:=X.K
 mg:=X.mg
 base:=X.base
 A:=X.A
 N:=N
 s₀:=s₀
 H₀:=H₀
 env:=compEnvC scope cl C X.env
 outer:=X.stack
 stack:=X.stack
 ex:=fp
 fn:=λ_=>cm
 calm:=X.calm
 pn:=X.pn++pl
 xe:=λ_ _=>False
inductive Frees(X:Cx)(scope:Pv):List Str->List Nat->Prop where
 |nil:Frees X scope [] []
 |cons {x:Str} {j:Nat} {xs:Xr} {js:List Nat}:X.N[j]?=ap x->(X.env.kindOf x=ap .cell\/X.env.kindOf x=ap .free)->
   ((Wb scope X.env).names.lookup x=ap .cell\/(Wb scope X.env).names.lookup x=ap .free)->Frees X scope xs js->Frees X scope (x::xs) (j::js)
theorem Frees.length{X:Cx}{c:Pv}:∀{xs:Xr}{e:List Nat},Frees X c xs e->xs.length=e.length
 |_,_,.nil=>rfl
 |_,_,.cons _ _ _ t=>congrArg (·+1) t.length
theorem Frees.get{X:Cx}{e:Pv}:∀{xs:Xr}{f:List Nat},Frees X e xs f->∀{i:Nat}{x:Str},xs[i]?=ap x->∃j,f[i]?=ap j/\X.N[j]?=ap x/\(X.env.kindOf x=ap .cell\/X.env.kindOf x=ap .free)/\
   ((Wb e X.env).names.lookup x=ap .cell\/(Wb e X.env).names.lookup x=ap .free)
 |_,_,.nil,i,x,h=>by simp at h
 |_,_,.cons a b c _,0,x,h=>by simp at h;subst h;exact⟨_,rfl,a,b,c⟩
 |_,_,.cons _ _ _ t,i+1,x,h=>by
  obtain⟨j,g,m⟩:=t.get (i:=i) (x:=x) (by simpa using h)
  exact⟨j,by simpa using g,m⟩
noncomputable def dg(ls:Xr)(js:List Nat)(Z:St):St:=ls.map (λ_=>bb)++js.map λj=>(Z[j]?).join
def LU(X:Cx)(ifs:Xu)(t:TT):Prop:=
 ∀(Xi:Xx)(s:cb)(Z:St)(H:Hp)(Q:Bool->Hp->Prop),Inv X Xi Z H s->t Z H Q->
  cp (cT X.prog X.w) X.A (forIn ifs true λc r=>if r=true then do let ok <- Xa c X.env (eX c X.env);pure (SO ok) else pure (SO r)) (TP X Xi Z Q) X.xe s
noncomputable def tAll:TT:=λ_ H Q=>Q true H
theorem GL:LU X [] tAll:=λ_ _ _ H _ I h=>wpAny_tests_nil ⟨H,I,h⟩
theorem Fl{c:eH}{t:TT}(h:PT X c t):LU X [c] t:=λXi s Z H Q I q=>wpAny_tests_one (h Xi s Z H Q I q)
noncomputable def Bp(wi:TI)(ls:Xr)(js:List Nat)(g:TG)(tt:TT)(te:TE):TE:=λZ H Q=>wi Z H λJ H1=>∀p,H1 p=bb->∃W:Nat->Nat->St->Hp->Prop,(∃m,W 0 m (dg ls js Z) (upd H1 p<|.lst []))/\∀i m σ' H',W i m σ' H'->
 (J.stop i H'/\Q (.ref p) H')\/(J.go i H'/\∃N:St->Hp->Prop,(∀σ2 H2,N σ2 H2->∃m',m'<m/\W (i+1) m' σ2 H2)/\∀x H2,J.yld i H' x H2->g x σ' H2 λe H3=>tt e H3 λc H4=>
  if c=true then te e H4 λy H5=>∃ys,H5 p=ap (.lst ys)/\ys.length<sizeLine/\N e (upd H5 p<|.lst (ys++[y])) else N e H4)
section
variable{tg iter elt:eH}{ifs:Xu}{scope:Pv}{cl:List (Str×ca)}{ls fs:Xr}{js:List Nat}{wi:TI}{g:TG}{tt:TT}{te:TE}
noncomputable def LD(i:Nat)(t:TE):TS:=λD Z H=>t Z H λv H1=>D.nx (Z.set i<|some v) H1
end
def SrcTn(b:Bool)(it a:ca)(i:Nat)(h:fx):Prop:=if b=true then h.IsListIter it a i else h.IsTupleIter it a i
def SrcSq(b:Bool)(h:fx)(a:ca)(items:Xz):Prop:=if b=true then h.IsList a items else h.IsTuple a items
theorem SrcTn.lt(x:SrcTn b it a i h):∃o,h.get? it=ap o/\∀v,o.data≠.cell v:=by
 cases b with
 |true=>obtain⟨o,e,c,d⟩:=(show h.IsListIter it a i from x);exact⟨o,e,λv z=>by rw[d]at z;cases z⟩
 |false=>obtain⟨o,e,c,d⟩:=(show h.IsTupleIter it a i from x);exact⟨o,e,λv z=>by rw[d]at z;cases z⟩
theorem SrcTn.keep(x:SrcTn b it a i h)(k:∀o,h.get? it=ap o->h'.get? it=ap o):SrcTn b it a i h':=by
 cases b with
 |true=>obtain⟨o,e,r⟩:=(show h.IsListIter it a i from x);exact(show h'.IsListIter it a i from ⟨o,k o e,r⟩)
 |false=>obtain⟨o,e,r⟩:=(show h.IsTupleIter it a i from x);exact(show h'.IsTupleIter it a i from ⟨o,k o e,r⟩)
theorem SrcSq.keep(x:SrcSq b h a items)(k:∀o,h.get? a=ap o->h'.get? a=ap o):SrcSq b h' a items:=by
 cases b with
 |true=>obtain⟨o,e,r⟩:=(show h.IsList a items from x);exact(show h'.IsList a items from ⟨o,k o e,r⟩)
 |false=>obtain⟨o,e,r⟩:=(show h.IsTuple a items from x);exact(show h'.IsTuple a items from ⟨o,k o e,r⟩)
section
theorem iz{x:ay}(c:s.heap.IsTupleIter it l i)(q:s.heap.IsTuple l items)(r:items[i]?=ap x)(hQ:∀h',h'.IsTupleIter it l (i+1)->Qx it s.heap h'->Q x { s with heap:=h' }):cp (cT prog w) A (P6<|.ref it) Q E s:=by
 obtain⟨o,f,p,e⟩:=id c;obtain⟨v,m,_,u,g⟩:=q;unfold P6
 refine ax (wpAny_callSpecial?_slot (name:=Qq "__next__") c.typeIs RC
  (nT RC c.typeIs Uy ?_<|Uo _))
 show cp _ _ (Ws (.ref it) 0 >>= _) _ _ s;refine ax (mu f e (x:=.ref l) rfl ?_);show cp _ _ (if (PC l==Qh)=true then _ else _) _ _ s
 rw[if_neg (show ¬((PC l==Qh)=true) from PH)];show cp _ _ (Ws (.ref it) 1 >>= _) _ _ s;refine ax (mu f e (x:=.int i 0) rfl ?_);show cp _ _ (WZ (.ref l) >>= _) _ _ s;refine ax (SC m g ?_);simp only[Pn,r];refine ax (WO f e (by simp)<|wpAny_pure ⟨x,rfl,cx<|hQ _ ?_<|Rk ..⟩)
 exact⟨_,RW _ f (UY<|Su e _),(Obj.cls_mapFields ..).trans p,by
  rw[Su e];simp[Pi]⟩
theorem j9(r:A.handled=bb)(c:s.heap.IsTupleIter it l i)(y:s.heap.IsTuple l items)(u:items[i]?=bb)(v:∀h' e,SE it s.heap h'->(∃o,h'.get? e=ap o/\o.cls=.type "StopIteration")->E (.ref e) { s with heap:=h' }):cp (cT prog w) A (P6<|.ref it) Q E s:=by
 obtain⟨o,p,G,f⟩:=id c;obtain⟨C,q,_,B,g⟩:=y;unfold P6
 refine ax (wpAny_callSpecial?_slot (name:=Qq "__next__") c.typeIs RC
  (nT RC c.typeIs Uy ?_<|Uo _))
 show cp _ _ (Ws (.ref it) 0 >>= _) _ _ s;refine ax (mu p f (x:=.ref l) rfl ?_);show cp _ _ (if (PC l==Qh)=true then _ else _) _ _ s
 rw[if_neg (show ¬((PC l==Qh)=true) from PH)];show cp _ _ (Ws (.ref it) 1 >>= _) _ _ s;refine ax (mu p f (x:=.int i 0) rfl ?_);show cp _ _ (WZ (.ref l) >>= _) _ _ s;refine ax (SC q g ?_);simp only[Pn,u];refine ax (Tk<|wpAny_bind<|wpAny_setField p f (by simp) ?_)
 show cp _ _ (W9 (.type "StopIteration") [] >>= _) _ _ _;refine ax ?_;simp only[W9,newTuple];refine ax (ol ?_<|by size_fits)
 refine ax (m:=SL _ _) (PP (a:=Qh) (by first|rfl|(simp only[SL];rfl)) ?_)
 refine ol ?_ (by size_fits)
 simp only[raiseNew];refine ax (WV ?_)
 first|rw[show A.in1.handled=bb from r]|rw[r]
 refine ax (cx<|wpAny_throw ?_);exact v _ _ (((Rk ..).extBut.push _).push _) ⟨_,Pm _ rfl,rfl⟩
theorem fM{x:ay}(c:SrcTn b it l i s.heap)(e:SrcSq b s.heap l items)(g:items[i]?=ap x)(f:∀h',SrcTn b it l (i+1) h'->Qx it s.heap h'->Q x { s with heap:=h' }):cp (cT prog w) A (P6<|.ref it) Q E s:=by
 cases b with
 |true=>exact wpAny_nextOf_list_item c e g f
 |false=>exact iz c e g f
theorem dS(p:A.handled=bb)(c:SrcTn b it l i s.heap)(m:SrcSq b s.heap l items)(f:items[i]?=bb)(g:∀h' e,SE it s.heap h'->(∃o,h'.get? e=ap o/\o.cls=.type "StopIteration")->E (.ref e) { s with heap:=h' }):cp (cT prog w) A (P6<|.ref it) Q E s:=by
 cases b with
 |true=>exact wpAny_nextOf_list_end p c m f g
 |false=>exact j9 p c m f g
noncomputable def gY(b:Bool):String:=if b=true then "list_iterator" else "tuple_iterator"
theorem fB(c:SrcSq b s.heap l items)(e:Q (.ref s.heap.objs.size) { s with heap:=s.heap.push { cls:=.type (gY b),data:=.fields #[.ref l,.int 0 0] } }):cp (cT prog w) A (Wx<|.ref l) Q E s:=by
 cases b with
 |true=>exact V9 c e
 |false=>exact wpAny_pyIter_tuple c e
theorem yt(e:h.get? it=ap { cls:=.type (gY b),data:=.fields #[.ref l,.int 0 0] }):SrcTn b it l 0 h:=by
 cases b with
 |true=>exact(show h.IsListIter it l 0 from ⟨_,e,rfl,rfl⟩)
 |false=>exact(show h.IsTupleIter it l 0 from ⟨_,e,rfl,rfl⟩)
theorem vV{M:Model}{o:Obj}{Q:Option Obj->cb->Prop}(c:s.heap.get? a=ap o)(h:Q (ap o) s):cp M A (loadIfAlive a) Q E s:=λΓ p _=>by
 show Sem.wp M Γ (.loadIfAlive a .pure) _ _ p s;rw[Sem.wp_loadIfAlive,c];exact h
end
structure ZS where
 b:Bool
 i:ca
 l:ca
abbrev h8(h:fx)(T:ca)(vs:Xs):Prop:=h.get? T=ap { cls:=.type "tuple",data:=.seq vs.toArray }
noncomputable abbrev jw(z TI TO:ca)(S:List ZS):List Addr:=z::TI::TO::S.map ZS.i
structure ZOk(z TI TO:ca)(S:List ZS):Prop where
 nd:(jw z TI TO S).Nodup
 off:∀t∈S,t.l∉jw z TI TO S
 ne:S≠[]
 few:S.length<=3
abbrev tu(h:fx)(z TI TO:ca)(f0:ay)(f1:Bool):Prop:=
 h.get? z=ap { cls:=.type "zip",dict:=bb,data:=.fields #[f0,.bool f1,.bool cm,.ref TI,.ref TO],slots:=#[] }
def E6(S:List ZS)(k:Nat)(h:fx):Prop:=∀t∈S,SrcTn t.b t.i t.l k h
section
theorem gG{α c:Type}{f:α->c->Sem (ForInStep c)}{xs:List α}{Q:c->cb->Prop}{M:Model}(b:Nat->c)(I:Nat->cb->Prop)
  (m:∀i x s,xs[i]?=ap x->I i s->cp M A (f x<|b i) (λr s'=>r=.yield (b (i+1))/\I (i+1) s') E s) (o:∀s',I xs.length s'->Q (b xs.length) s'):
  ∀(n j:Nat)(s:cb),j+n=xs.length->I j s->cp M A (forIn (xs.drop j) (b j) f) Q E s
 |0,j,s,e,h=>by
  rw[S2 (by lia)]
  have:j=xs.length:=by lia
  subst this;exact cx (o s h)
 |n+1,j,s,e,h=>by
  have g:j<xs.length:=by lia
  rw[SD g,List.forIn_cons];refine ax (j0 (m j _ s (by simp[g]) h) (λr s' q=>?_) λ_ _ q=>q)
  obtain⟨rfl,q⟩:=q;exact gG b I m o n (j+1) s' (by lia) q
theorem nh{TI TO:ca}(D:ZOk z TI TO S):z≠TI/\z≠TO/\TI≠TO/\∀t∈S,t.i≠z/\t.i≠TI/\t.i≠TO:=by
 have:=D.nd;simp only[QI,Po,not_or]at this;obtain⟨⟨a,b,c⟩,⟨d,e⟩,f,g⟩:=this;exact⟨a,b,d,λt m=>⟨λe=>c (e▸PV m),λq=>e (q▸PV m),λe=>f (e▸PV m)⟩⟩
theorem z4{TI TO:ca}(D:ZOk z TI TO S){t u:ZS}(c:S[i]?=ap t)(f:S[j]?=ap u)(h:i≠j):t.i≠u.i:=by
 have nd:(S.map ZS.i).Nodup:=by have:=D.nd;simp only[QI]at this;exact this.2.2.2
 intro e;exact h ((List.getElem?_inj (by rw[Pa];exact(Qb.1 c).1) nd).1<|by rw[Ph,Ph,c,f];exact congrArg ap e)
theorem ub{t:ZS}{k:Nat}{xs:Xz}{o:Option ay}(m:A.handled=bb)(g:SrcTn t.b t.i t.l k s.heap)(f:SrcSq t.b s.heap t.l xs)(c:xs[k]?=o)(p:∀x h',o=ap x->SrcTn t.b t.i t.l (k+1) h'->Qx t.i s.heap h'->Q x { s with heap:=h' })(hE:∀h' e,o=bb->SE t.i s.heap h'->(∃o,h'.get? e=ap o/\o.cls=.type "StopIteration")->E (.ref e) { s with heap:=h' }):
  cp (cT prog w) A (P6<|.ref t.i) Q E s:=by
 cases o with
 |none=>exact dS m g f c λh' e q r=>hE h' e rfl q r
 |some x=>exact fM g f c λh' q r=>p x h' rfl q r
structure ZMid(S:List ZS)(F:ZS->Option ay)(k:Nat)(fp:Xt)(h₀:fx)(j:Nat)(h:fx):Prop where
 ahead:∀i t,S[i]?=ap t->SrcTn t.b t.i t.l (if i<j then k+1 else k) h
 got:∀i t,i<j->S[i]?=ap t->(F t).isSome=true
 frame:∀c o,c∉fp->h₀.get? c=ap o->h.get? c=ap o
 size:h.objs.size=h₀.objs.size
theorem ZMid.zero{k:Nat}(a:E6 S k h)(f:∀c o,c∉fp->h₀.get? c=ap o->h.get? c=ap o)(z:h.objs.size=h₀.objs.size):ZMid S F k fp h₀ 0 h:=
 ⟨λi t e=>by simpa using a t (Qn e),λi t q=>absurd q (RJ _),f,z⟩
theorem ZMid.at{k:Nat}(m:ZMid S F k fp h₀ j h){t:ZS}(e:S[j]?=ap t):SrcTn t.b t.i t.l k h:=by simpa using m.ahead j t e
theorem ZMid.go{k:Nat}(m:ZMid S F k fp h₀ j h)(i1:∀t∈S,∀o,h.get? t.i=ap o->h'.get? t.i=ap o)(f:∀c o,c∉fp->h.get? c=ap o->h'.get? c=ap o)(z:h'.objs.size=h.objs.size):ZMid S F k fp h₀ j h':=
 ⟨λi t e=>(m.ahead i t e).keep (i1 t<|Qn e),m.got,λc o n e=>f c o n (m.frame c o n e),z.trans m.size⟩
theorem ZMid.step{TI TO:ca}(D:ZOk z TI TO S){k:Nat}(m:ZMid S F k fp h₀ j h){t:ZS}(e:S[j]?=ap t)(v:t.i∈fp)(p:(F t).isSome=true)(r:SrcTn t.b t.i t.l (k+1) h')(b:Qx t.i h h'):ZMid S F k fp h₀ (j+1) h':=by
 refine⟨λi u f=>?_,λi u q f=>?_,λc o n q=>b.extBut c o (λx=>n (x▸v)) (m.frame c o n q),b.1.trans m.size⟩
 .by_cases g:i=j
  .subst g
   cases e.symm.trans f;rw[if_pos (RZ _)];exact r
  .have q:=(m.ahead i u f).keep λo x=>b.extBut _ o (z4 D f e g) x
   by_cases lt:i<j
   .rw[if_pos lt]at q
    rw[if_pos (SN lt)];exact q
   .rw[if_neg lt]at q
    rw[if_neg (by lia)]
    exact q
 .by_cases g:i=j
  .subst g
   cases e.symm.trans f;exact p
  .exact m.got i u (by lia) f
theorem wG{TI TO:ca}{Q:Option ay->cb->Prop}(m:tu s.heap z TI TO f0 f1)(h:cp (cT prog w) A.in1 (Builtin.«zip.__next__» ⟨[.ref z],[]⟩) (λfin s'=>∃v,fin=.done (.ret v)/\Q (ap v) s') (λe s'=>∃a,e=.ref a/\(∃o,s'.heap.get? a=ap o/\o.cls=.type "StopIteration")/\Q bb s') s):
  cp (cT prog w) A (P3<|.ref z) Q E s:=by
 have c:s.TypeIs (.ref z) "zip":=⟨_,m,rfl⟩;unfold P3;refine ax (Rs<|wpAny_callSpecial?_slot (name:=Qq "__next__") c F.slot_zip_next<|wpAny_call_entry F.slot_zip_next c F.entry_zip_next (j0 h (λfin s' q=>?_) λe s' q=>?_)<|F.args_zip_next_1 _)
 .obtain⟨v,rfl,q⟩:=q
  exact⟨v,rfl,cx q⟩
 .obtain⟨a,rfl,⟨o,g,f⟩,q⟩:=q
  exact ax (Tl (T:="StopIteration") (b:=true) ⟨o,g,f⟩ Wl<|wpAny_pure q)
theorem k_{TI TO:ca}{k:Nat}{Q:Option ay->cb->Prop}(hh:A.handled=bb)(D:ZOk z TI TO S)(W:tu s.heap z TI TO f0 f1)(hf:f0=.none/\f1=cm/\(∃vs:List ay,vs.length=S.length/\h8 s.heap TO vs)\/∃(T:ca)(oT:Obj),f0=Pi T/\s.heap.get? T=ap oT)(hTI:h8 s.heap TI (S.map λt=>.ref t.i))(h1:E6 S k s.heap)(hl:∀t∈S,∃xs,SrcSq t.b s.heap t.l xs/\xs[k]?=F t)(hQ:∀h' us,us.map ap=S.map F->(f0=.none/\WL h' z TI TO (Pi s.heap.objs.size)/\h8 h' TO us\/f0≠.none/\tu h' z TI TO f0 true)->E6 S (k+1) h'->h8 h' s.heap.objs.size us->
   (∀c o,c∉z::TO::S.map ZS.i->s.heap.get? c=ap o->h'.get? c=ap o)->Q (ap<|.ref s.heap.objs.size) { s with heap:=h' })(hE:∀h',(∃t∈S,F t=bb)->(∀c o,c∉z::TO::S.map ZS.i->s.heap.get? c=ap o->h'.get? c=ap o)->Q bb { s with heap:=h' }):
  cp (cT prog w) A (P3<|.ref z) Q E s:=by
 obtain⟨zTI,zTO,TITO,ni⟩:=nh D;have few:S.length<=sizeLine:=PL D.few (by decide)
 refine wG W ?_;show cp _ _ (Ws (.ref z) 2 >>= _) _ _ _;refine ax (mu W rfl (x:=.bool cm) rfl ?_);show cp _ _ (Ws (.ref z) 3 >>= _) _ _ _;refine ax (mu W rfl (x:=.ref TI) rfl ?_);refine ax (SC hTI rfl ?_);have hne:(S.map λt=>PC t.i).toArray.isEmpty=false:=by have:=D.ne;simp[this]
 simp only[hne,Pr,if_false];show cp _ _ (Sy (.ref z) >>= _) _ _ _;refine ax ?_;unfold Sy;refine ax (mu W rfl (x:=f0) rfl ?_);have hnd:∀t∈S,t.l∉z::TO::S.map ZS.i:=λt g q=>D.off t g (by
  simp only[jw,Po]at q ⊢;exact q.imp id .inr)
 have B:∀{h h':fx}{c:ca}(b:ca),b∈z::TO::S.map ZS.i->(∀c o,c≠b->h.get? c=ap o->h'.get? c=ap o)->c∉z::TO::S.map ZS.i->∀o,h.get? c=ap o->h'.get? c=ap o:=λb hb k n o e=>k _ o (λx=>n (x▸hb)) e;have mi:∀{t:ZS},t∈S->t.i∈z::TO::S.map ZS.i:=λg=>by simp[PV g]
 have fin:∀{us:Xs},us.length=S.length->(∀i t,i<S.length->S[i]?=ap t->us[i]?=F t)->(∀i t,i<S.length->S[i]?=ap t->(F t).isSome=true)->us.map ap=S.map F:=λ{us} hu G hs=>by
  refine SK λi=>?_;rw[Ph,Ph];cases y:S[i]? with
  |none=>
   rw[SA]at y;rw[Qf (by lia)]
   rfl
  |some t=>
   have il:i<S.length:=(Qb.1 y).1;have hs:=hs i t il y;rw[G i t il y];cases hF:F t with
   |none=>rw[hF]at hs;cases hs
   |some x=>simp[hF]
 have st:∀{h:fx},ZMid S F k (z::TO::S.map ZS.i) s.heap S.length h->E6 S (k+1) h:=λm t g=>by
  obtain⟨i,il,rfl⟩:=Se g;have q:=m.ahead i S[i] (by simp[il])
  rwa [if_pos il]at q
 rcases hf with⟨rfl,rfl,vs,hv,hTO⟩|⟨T,oT,rfl,hT⟩
 .refine cx ?_
  simp only[if_true];refine ax (Tk ?_);refine ax (mu W rfl (x:=.ref TO) rfl ?_);refine ax (pa W (by simp) λY hz1 U=>?_)
  replace hz1:WL Y z TI TO .ellipsis:=hz1
  refine ax ?_
  refine gG (xs:=(S.map λt=>PC t.i).toArray.toList.zipIdx) (λ_=>_)
   (λj M=>∃h' us,M={ s with heap:=h' }/\ZMid S F k (z::TO::S.map ZS.i) s.heap j h'/\WL h' z TI TO .ellipsis/\h8 h' TO us/\us.length=S.length/\∀i t,i<j->S[i]?=ap t->us[i]?=F t)
   (λj x M hx hI=>?_) (λM hI=>?_) _ 0 _ (RT _) ⟨Y,vs,rfl,.zero (λt g=>(h1 t g).keep λo e=>U.extBut _ o (ni t g).1 e) (λc o n e=>B z (.head _) U.extBut n o e) U.1,hz1,U.extBut _ _ zTO.symm hTO,hv,λi t q=>absurd q (RJ _)⟩
  .obtain⟨h',us,rfl,m,r,C,hu,G⟩:=hI
   simp only[R6,Ph,Qp,RT]at hx;obtain⟨v,⟨t,y,rfl⟩,rfl⟩:=hx;have g:=Qn y;obtain⟨xs,hsq,hxs⟩:=hl t g;refine ax (wpAny_onRaise ?_);show cp _ _ (P6 (.ref t.i) >>= _) _ _ _;refine ax (ub hh (m.at y) (hsq.keep λo e=>m.frame _ o (hnd t g) e) hxs (λx p R h12 f=>cx ?_) λp e R f he=>?_)
   .have jl:j<S.length:=(Qb.1 y).1
    have J:h8 p TO us:=f.extBut _ _ (ni t g).2.2.symm C;refine ax (SC J rfl ?_);refine ax (wpAny_updateSeq J rfl ?_ (by show us.toArray.size<=sizeLine;rw[Pk,hu];exact few)<|by rw[Array.size_setIfInBounds,Pk,hu];exact Nat.le_succ_of_le few)
    refine ax (wpAny_letGo<|wpAny_pure ⟨rfl,_,us.set j x,rfl,?_,?_,?_,by rw[QS,hu],λi u q eu=>?_⟩)
    all_goals have sb:Qx TO p (p.update TO<|Ss (·.setIfInBounds j x)):=Rk ..
    .exact(m.step D y (mi g) (by rw[R];rfl) h12 f).go (λu hu' o e=>sb.extBut _ o (ni u hu').2.2 e) (λc o n e=>B TO (by simp) sb.extBut n o e) sb.1
    .exact sb.extBut _ _ zTO (f.extBut _ _ (ni t g).1.symm r)
    .show Heap.get? _ _=_
     rw[RW _ J rfl];simp[Ss]
    .rw[SJ]
     by_cases ij:j=i
     .subst ij
      cases y.symm.trans eu;rw[if_pos rfl,if_pos (by lia),R]
     .rw[if_neg ij]
      exact G i u (by lia) eu
   .obtain⟨oe,hoe,hce⟩:=he
    have hz2:WL p z TI TO .ellipsis:=f _ _ (ni t g).1.symm r;have hez:e≠z:=λx=>by subst x;rw[hz2]at hoe;cases hoe;simp at hce
    exact pa hz2 (by simp) λh₃ _ I=>⟨e,rfl,⟨oe,I.extBut _ _ hez hoe,hce⟩,hE h₃ ⟨t,g,R⟩ λc o n q=>B z (.head _) I.extBut n o (B _ (mi g) f n o<|m.frame c o n q)⟩
  .obtain⟨h',us,rfl,m,r,C,hu,G⟩:=hI
   rw[show (S.map λt=>PC t.i).toArray.toList.zipIdx.length=S.length by simp]at m G
   refine ax (SC C rfl ?_);refine ax (V6 ?_<|by simpa [hu] using few)
   have hzlt:z<h'.objs.size:=Pj r;show cp _ _ (Sk (.ref z) (.ref h'.objs.size) >>= _) _ _ _;refine ax ?_;unfold Sk;have hz8:WL (h'.push { cls:=.type "tuple",data:=.seq us.toArray }) z TI TO .ellipsis:=Pe _ r;refine ax (pa hz8 (by simp) λh₉ hz9 hs9=>?_)
   replace hz9:WL h₉ z TI TO (Pi h'.objs.size):=hz9
   refine pa hz9 (by simp) λhA N hsA=>?_
   replace N:WL hA z TI TO (Pi h'.objs.size):=N
   have up:∀c o,c≠z->h'.get? c=ap o->hA.get? c=ap o:=λc o c1 e=>hsA.extBut _ _ c1 (hs9.extBut _ _ c1<|Pe _ e);have hTA:h8 hA h'.objs.size us:=hsA.extBut _ _ (Rg hzlt) (hs9.extBut _ _ (Rg hzlt)<|Pm _ rfl);rw[m.size]at N hTA;refine cx ⟨_,rfl,?_⟩;show Q (ap<|.ref h'.objs.size) _;rw[m.size];exact hQ hA us (fin hu G m.got) (.inl ⟨rfl,N,up _ _ zTO.symm C⟩) (λt g=>(st m t g).keep λo e=>up _ o (ni _ g).1 e) hTA λc o n e=>B z (.head _) up n o (m.frame c o n e)
 .show cp _ _ (loadIfAlive _ >>= _) _ _ _
  refine ax (vV (o:=oT) (by simpa using hT) ?_)
  simp only[Option.isNone_some,Pr,if_false];refine ax (mu W rfl (x:=.bool f1) rfl ?_)
  have go:cp (cT prog w) A.in1 (if (Sg f1 != Sg true)=true then do WP (PC z) 1 (Sg true);pure cm else pure cm)
    (λa M=>a=cm/\∃h₀,M={ s with heap:=h₀ }/\tu h₀ z TI TO (Pi T) true/\(∀c o,c≠z->s.heap.get? c=ap o->h₀.get? c=ap o)/\h₀.objs.size=s.heap.objs.size) (λ_ _=>False) s:=by
   cases f1 with
   |true=>
    rw[if_neg (by decide)]
    exact cx ⟨rfl,s.heap,rfl,W,λ_ _ _ e=>e,rfl⟩
   |false=>
    rw[if_pos (by decide)]
    exact ax (pa W (by simp) λh₀ hz0 O=>cx ⟨rfl,h₀,rfl,hz0,O.extBut,O.1⟩)
  refine j0 go (λa M hq=>?_) λ_ _ e=>e.elim;obtain⟨rfl,h₀,rfl,hz0,L,O⟩:=hq;simp only[Pr,if_false];rw[<- Array.forIn_toList];refine ax ?_
  refine gG (xs:=(S.map λt=>PC t.i).toArray.toList) (λj=>(bb,((S.map λt=>(F t).getD .none).take j).toArray))
   (λj M=>∃h',M={ s with heap:=h' }/\ZMid S F k (z::TO::S.map ZS.i) s.heap j h'/\tu h' z TI TO (Pi T) true)
   (λj x M hx hI=>?_) (λM hI=>?_) _ 0 _ (RT _) ⟨h₀,rfl,.zero (λt g=>(h1 t g).keep λo e=>L _ o (ni t g).1 e) (λc o n e=>B z (.head _) L n o e) O,hz0⟩
  .obtain⟨h',rfl,m,r⟩:=hI
   simp only[Ph,Qp]at hx;obtain⟨t,y,rfl⟩:=hx;have g:=Qn y;obtain⟨xs,hsq,hxs⟩:=hl t g;refine ax (n7 ?_);show cp _ _ (P6 (.ref t.i) >>= _) _ _ _;refine ax (ub hh (m.at y) (hsq.keep λo e=>m.frame _ o (hnd t g) e) hxs (λx p R h12 f=>cx (cx ⟨?_,_,rfl,m.step D y (mi g) (by rw[R];rfl) h12 f,f.extBut _ _ (ni t g).1.symm r⟩)) λp e R f he=>⟨e,rfl,he,hE p ⟨t,g,R⟩ λc o n q=>B _ (mi g) f n o (m.frame c o n q)⟩)
   rw[Uc,show (S.map λt=>(F t).getD .none)[j]?=ap x by rw[Ph,y];simp[R]]
   simp
  .obtain⟨h',rfl,m,r⟩:=hI
   rw[show (S.map λt=>PC t.i).toArray.toList.length=S.length by simp]at m ⊢
   rw[RO (by simp)]
   refine ax (V6 (cx ⟨_,rfl,?_⟩)<|by simpa using few)
   have up:∀c o,h'.get? c=ap o->(h'.push { cls:=.type "tuple",data:=.seq (S.map λt=>(F t).getD .none).toArray }).get? c=ap o:=λc o e=>Pe _ e;have hn:=Pm h' (o:={ cls:=.type "tuple",data:=.seq (S.map λt=>(F t).getD .none).toArray }) rfl;show Q (ap<|.ref h'.objs.size) _;rw[m.size]at hn ⊢;refine hQ _ (S.map λt=>(F t).getD .none) (fin (by simp) (λi t il y=>?_) m.got) (.inr ⟨by simp[Pi],up _ _ r⟩) (λt g=>(st m t g).keep λo e=>up _ o e) (by simpa using hn) λc o n e=>up _ _ (m.frame c o n e)
   have hs:=m.got i t il y;cases hF:F t with
   |none=>rw[hF]at hs;cases hs
   |some x=>simp[y,hF]
end
theorem lH(a b c:ay):Wt "zip" ⟨[a,b,c],[]⟩=pure ():=by kernel_rfl
theorem nY(a b c:ay):We "zip.__new__" ⟨[.type "zip",a,b,c],[]⟩=pure ():=by kernel_rfl
theorem gW(a b c d:ay):Wn "object.__init__" ⟨[a,b,c,d],[]⟩:=by
 unfold Wn;rw[signature?_of (id:="object.__init__") (n:=['_','_','t','i','n','i','_','_']) (o:=['t','c','e','j','b','o']) (by kernel_rfl) F.owner_object];kernel_rfl
noncomputable def cW(n:Nat)(args:List (Bool×ca)):List ZS:=args.zipIdx.map λp=>⟨p.1.1,n+p.2,p.1.2⟩
theorem fY:(cW n args)[i]?=(args[i]?).map λp=>⟨p.1,n+i,p.2⟩:=by
 simp[cW,Ph,R6,Sh]
section
theorem ut{Q:List ay->cb->Prop}(B:∀p∈args,∃xs,SrcSq p.1 s.heap p.2 xs)(C:∀h',E6 (cW s.heap.objs.size args) 0 h'->(∀c o,s.heap.get? c=ap o->h'.get? c=ap o)->h'.objs.size=s.heap.objs.size+args.length->Q ((cW s.heap.objs.size args).map λt=>.ref t.i) { s with heap:=h' }):
  cp (cT prog w) A (Tb (args.map λp=>.ref p.2)) Q E s:=by
 unfold Tb;refine ax ?_
 refine gG (xs:=args.map λp=>PC p.2) (λj=>(((cW s.heap.objs.size args).take j).map λt=>PC t.i).toArray)
  (λj m=>∃h',m={ s with heap:=h' }/\E6 ((cW s.heap.objs.size args).take j) 0 h'/\(∀c o,s.heap.get? c=ap o->h'.get? c=ap o)/\h'.objs.size=s.heap.objs.size+j)
  (λj x m r q=>?_) (λm q=>?_) _ 0 _ (RT _) ⟨s.heap,rfl,λt ht=>by simp at ht,λ_ _ e=>e,rfl⟩
 .obtain⟨h',rfl,g,k,f⟩:=q
  simp only[Ph,Qp]at r;obtain⟨p,v,rfl⟩:=r;obtain⟨xs,y⟩:=B p (Qn v);have u:(cW s.heap.objs.size args)[j]?=ap ⟨p.1,s.heap.objs.size+j,p.2⟩:=by rw[fY,v];rfl
  refine ax (n7<|fB (s:={ s with heap:=h' }) (y.keep λo e=>k _ o e)<|wpAny_pure ⟨?_,_,rfl,λt ht=>?_,λc o e=>Pe _ (k c o e),by rw[Qi,f];rfl⟩)
  .rw[Uc,u]
   simp[f]
  .rw[Uc,u]at ht
   rcases PU.1 ht with ht|ht
   .exact(g t ht).keep λo e=>Pe _ e
   .have:=RK.1 ht
    subst this;refine yt ?_;rw[<- f];exact Pm _ rfl
 .obtain⟨h',rfl,g,k,f⟩:=q
  have e:(cW s.heap.objs.size args).take (args.map λp=>PC p.2).length=cW s.heap.objs.size args:=RO (by simp[cW])
  rw[e]at g ⊢;refine cx (C h' g k<|by simpa using f)
end
theorem ve(args:List (Bool×ca))(g:args.length<=3):
  W4 (Builtin.«zip.__new__» ⟨.type "zip"::args.map λp=>.ref p.2,[]⟩) (λ_ R s=>(∀p∈args,∃xs,SrcSq p.1 s.heap p.2 xs)/\
   ∀h',WL h' (s.heap.objs.size+args.length+2) (s.heap.objs.size+args.length) (s.heap.objs.size+args.length+1) .none->h8 h' (s.heap.objs.size+args.length) ((cW s.heap.objs.size args).map λt=>.ref t.i)->h8 h' (s.heap.objs.size+args.length+1) (args.map λ_=>.none)->
    E6 (cW s.heap.objs.size args) 0 h'->(∀c o,s.heap.get? c=ap o->h'.get? c=ap o)->R (.ok<|.ret<|.ref (s.heap.objs.size+args.length+2)) { s with heap:=h' }):=
 .of_wp λprog w A R s h=>by
  obtain⟨m,v⟩:=h;have r:=sub_zip;have u:=m;unfold Builtin.«zip.__new__»
  wp_walk using ut m
  intro h' B k f;have len:(cW s.heap.objs.size args).length<=3:=by simpa [cW] using g
  refine ax (V6 ?_<|by rw[Pa];exact PL len (by decide))
  refine ax (V6 ?_<|by rw[Pa,Pa];exact PL len (by decide))
  unfold Builtin.SmallTypes.newRecord Builtin.SmallTypes.ownedTupleFields
  wp_walk
  refine⟨_,rfl,?_⟩;simp only[Qi,f];refine v _ ?_ ?_ ?_ (λt y=>(B t y).keep λo e=>Pe _ (Pe _<|Pe _ e)) λc o e=>Pe _ (Pe _<|Pe _<|k c o e)
  .have q:=Pm ((h'.push { cls:=.type "tuple",data:=.seq ((cW s.heap.objs.size args).map λt=>PC t.i).toArray }).push { cls:=.type "tuple",data:=.seq (((cW s.heap.objs.size args).map λt=>PC t.i).map λ_=>Qh).toArray }) (o:={ cls:=.type "zip",data:=.fields #[.none,.bool cm,.bool cm,.ref (s.heap.objs.size+args.length),.ref (s.heap.objs.size+args.length+1)] }) rfl
   simp only[Qi,f]at q;exact q
  .refine Pe _ (Pe _ ?_)
   rw[<- f];exact Pm _ rfl
  .refine Pe _ ?_
   have q:=Pm (h'.push { cls:=.type "tuple",data:=.seq ((cW s.heap.objs.size args).map λt=>PC t.i).toArray }) (o:={ cls:=.type "tuple",data:=.seq (((cW s.heap.objs.size args).map λt=>PC t.i).map λ_=>Qh).toArray }) rfl;simp only[Qi,f]at q;rw[show (args.map λ_=>Qh)=(((cW s.heap.objs.size args).map λt=>PC t.i).map λ_=>Qh) from ?_]
   .exact q
   .rw[PB,cW,PB]
    exact SK λi=>by simp[Ph,R6];rfl
section
theorem pi(hn:args.length=2\/args.length=3)(hl:∀p∈args,∃xs,SrcSq p.1 s.heap p.2 xs)(h:∀h' z TI TO S,S.map (λt=>(t.b,t.l))=args->ZOk z TI TO S->WL h' z TI TO .none->h8 h' TI (S.map λt=>.ref t.i)->h8 h' TO (S.map λ_=>.none)->E6 S 0 h'->(∀b∈jw z TI TO S,s.heap.objs.size<=b)->
   (∀c o,s.heap.get? c=ap o->h'.get? c=ap o)->Q (.ref z) { s with heap:=h' }):
  cp (cT prog w) A (call (.type "zip") (args.map λp=>.ref p.2)) Q E s:=by
 have few:args.length<=3:=by lia
 have checks:Wt "zip" ⟨args.map λp=>.ref p.2,[]⟩=pure ()/\We "zip.__new__" ⟨.type "zip"::args.map λp=>.ref p.2,[]⟩=pure ()/\∀obj,Wn "object.__init__" ⟨obj::args.map λp=>.ref p.2,[]⟩:=by
  match args,hn with
  |[a,b],_=>exact⟨F.typeCall_zip_2 _ _,F.newCall_zip_2 _ _,λobj=>F.args_object_init_3 obj _ _⟩
  |[a,b,c],_=>exact⟨lH _ _ _,nY _ _ _,λobj=>gW obj _ _ _⟩
 refine Xc F.called_zip (by decide) checks.1 checks.2.1 checks.2.2 F.entry_zip_new (ve args few) ⟨hl,λh' hz hTI hTO st k=>?_⟩
 have em:(cW s.heap.objs.size args).map (λt=>(t.b,t.l))=args:=SK λi=>by
  rw[Ph,fY];cases args[i]?<;>rfl
 have hlen:(cW s.heap.objs.size args).length=args.length:=by rw[<- em,Pa,em]
 have hi:∀t∈cW s.heap.objs.size args,s.heap.objs.size<=t.i/\t.i<s.heap.objs.size+args.length:=λt ht=>by
  obtain⟨i,il,rfl⟩:=Se ht;have q:=fY (n:=s.heap.objs.size) (args:=args) (i:=i);rw[hlen]at il;simp[il,hlen]at q;rw[q];exact⟨QA _ _,Nat.add_lt_add_left il _⟩
 have hb:∀b∈jw (s.heap.objs.size+args.length+2) (s.heap.objs.size+args.length) (s.heap.objs.size+args.length+1) (cW s.heap.objs.size args),s.heap.objs.size<=b:=λb hb=>by
  simp only[jw,Po,Pq]at hb;rcases hb with e|e|e|⟨t,ht,e⟩
  .rw[e];exact PL (QA _ _) (QA _ _)
  .rw[e];exact QA _ _
  .rw[e];exact PL (QA _ _) (QA _ _)
  .rw[<- e];exact(hi t ht).1
 have D:ZOk (s.heap.objs.size+args.length+2) (s.heap.objs.size+args.length) (s.heap.objs.size+args.length+1) (cW s.heap.objs.size args):=by
  refine⟨?_,λt ht q=>?_,λe=>?_,by lia⟩
  .simp only[QI,Po,Pq,not_or,not_exists,not_and]
   refine⟨⟨(show (_:Nat)≠(_:Nat) by lia),(show (_:Nat)≠(_:Nat) by lia),λt ht e=>?_⟩,⟨(show (_:Nat)≠(_:Nat) by lia),λt ht e=>?_⟩,λt ht e=>?_,?_⟩
   all_goals try exact absurd (show (t.i:Nat)<s.heap.objs.size+args.length from (hi t ht).2) (by rw[e];first|exact P7 _|exact Tt.2 (QA _ _))
   refine Uq.2 λi j il jl ij=>?_;have ei:=fY (n:=s.heap.objs.size) (args:=args) (i:=i);have ej:=fY (n:=s.heap.objs.size) (args:=args) (i:=j);simp only[Pa,hlen]at il jl;simp[il,hlen]at ei;simp[jl,hlen]at ej;rw[RX,RX,ei,ej];exact(show (_:Nat)≠(_:Nat) by simp;lia)
  .have:(t.b,t.l)∈args:=em▸PV (f:=λt:ZS=>(t.b,t.l)) ht
   obtain⟨xs,sq⟩:=hl _ this;have ge:=hb _ q;obtain⟨b,i,l⟩:=t;have lt:l<s.heap.objs.size:=by
    cases b with
    |true=>obtain⟨o,e,_⟩:=(show s.heap.IsList l xs from sq);exact Pj e
    |false=>obtain⟨o,e,_⟩:=(show s.heap.IsTuple l xs from sq);exact Pj e
   exact absurd lt (Tt.2 ge)
  .rw[e]at hlen
   simp at hlen;lia
 show _/\_;refine⟨⟨_,hz,rfl⟩,h h' _ _ _ _ em D hz hTI ?_ st hb k⟩;rw[show ((cW s.heap.objs.size args).map λ_=>Qh)=args.map λ_=>Qh by rw[<- em,PB,em];rfl]
 exact hTO
end
def mr(K:Pg)(b:Bool)(H:Hp)(a:ca)(xs:List V):Prop:=if b=true then SqL K H a xs else ic K H a xs
section
variable{xs ys:List V}
theorem Inv.src(I:Inv X Xi Z H s)(h:mr X.K b H a xs):∃Xo:List ay,Vals xs Xo/\SrcSq b s.heap a Xo.toArray/\xs.length<=sizeLine:=by
 cases b with
 |true=>obtain⟨Xo,r,p,z⟩:=I.list (show SqL X.K H a xs from h);exact⟨Xo,r,p.isList,z⟩
 |false=>obtain⟨Xo,r,p,z⟩:=I.tuple (show ic X.K H a xs from h);exact⟨Xo,r,p,z⟩
theorem Inv.src_inj(I:Inv X Xi Z H s)(h:mr X.K b H a xs)(h':mr X.K b H a ys):xs=ys:=by
 cases b with
 |true=>exact I.list_inj (show SqL X.K H a xs from h) h'
 |false=>exact I.tuple_inj (show ic X.K H a xs from h) h'
theorem Inv.src_ne(I:Inv X Xi Z H s)(h:mr X.K b H a xs)(f:ji X Xi H it):a≠it:=by
 obtain⟨f0,f1,u,p,r,q⟩:=f;intro e;subst e;have c:∀o,X.K.lookup a=ap o->False:=λo g=>by
  have m:=I.ok.mod.kin a o g;rcases p with z|z
  .exact I.ok.noex a o m z
  .exact absurd (PF (Pj (I.ok.bs a o m).1) z) (P7 _)
 cases b with
 |true=>
  rcases (show SqL X.K H a xs from h) with (z|⟨o,z⟩)|⟨o,_,_,g,_⟩
  .rw[f0]at z;cases z
  .rw[f0]at z;cases z
  .exact c o g
 |false=>
  rcases (show ic X.K H a xs from h) with (z|⟨o,z⟩)|⟨o,_,_,g,_⟩
  .rw[f0]at z;cases z
  .rw[f0]at z;cases z
  .exact c o g
end
theorem Inv.turned4{t':Nat}(I:Inv X Xi Z H s)(p:∀b∈fp,ji X Xi H b)(k:∀b o,b∉fp->s.heap.get? b=ap o->h'.get? b=ap o):Inv X Xi Z H { s with heap:=h',toks:=t' }:=by
 have g:∀b u,H b=ap u->b∉fp:=λb u e z=>by have:=(p b z).1;rw[e]at this;cases this
 refine I.step (g':=s.gens) (d':=s.drawn) (ch:=fp) (λb B=>?_) (λb o _ _ f e _=>k b o f e) (λb o _ _ f e _=>⟨o.slots,k b o f e⟩) (λ_ _ _ _ n=>n)
  (λb o f e=>⟨o,k b o f e⟩) (λ_ _ e=>e) (λ_ _ _ e=>e) (λb O e=>⟨#[],by rw[e];simp⟩) (λm N=>?_) (λb u e=>?_) I.bare
 .obtain⟨f0,f1,R,C,L,y⟩:=p b B
  exact⟨C,f1,L,y⟩
 .obtain⟨o,G,J,M,r⟩:=N
  exact⟨o,G,J,k _ o (λz=>(p _ z).2.1 rfl) M,r⟩
 .refine (I.hok b u e).stay (λc v f q=>k c v ?_ q) (λ_ q=>q) λ_ _ q=>q
  rcases f with z|z
  .rw[z];exact g b u e
  .exact g c _ z
theorem Inv.turnedNew{t':Nat}{zs:List V}{us:Xs}{y:Obj}(I:Inv X Xi Z H s)(L:∀b∈fp,ji X Xi H b)(k:∀b o,b∉fp->s.heap.get? b=ap o->h'.get? b=ap o)(hlt:∀b∈fp,∃o,s.heap.get? b=ap o)(hlv:∀b∈fp,∃o,h'.get? b=ap o)(hT:h'.get? s.heap.objs.size=ap y)(J:y.cls=.type "tuple")(G:∃n,y.data=.seq us.toArray n)(r:Vals zs us)(M:y.dict=bb)(hz:zs.length<=sizeLine):Inv X Xi Z (upd H s.heap.objs.size<|.tup zs) { s with heap:=h',toks:=t' }:=by
 have f:H s.heap.objs.size=none:=I.hok.fresh (Pl _);have p:∀b u,H b=ap u->b∉fp:=λb u e z=>by have:=(L b z).1;rw[e]at this;cases this
 refine I.step (g':=s.gens) (d':=s.drawn) (ch:=fp) (λb B=>?_) (λb o _ _ g e _=>k b o g e) (λb o _ _ g e _=>⟨o.slots,k b o g e⟩) (λb o _ e n=>by rw[aF (PQ<|Pj e)];exact n)
  (λb o g e=>⟨o,k b o g e⟩) (λb C e=>by rw[aF (bc e f)];exact e) (λb o u e=>by rw[aF (bc e f)];exact e) (λb ps e=>⟨#[],by rw[aF (bc e f),e];simp⟩) (λm hm=>?_) (λb u e=>?_) I.bare
 .obtain⟨f0,f1,f2,R,W,O⟩:=L b B
  exact⟨R,f1,W,O⟩
 .obtain⟨o,T,U,Y,r⟩:=hm
  exact⟨o,T,U,k _ o (λz=>(L _ z).2.1 rfl) Y,r⟩
 .by_cases B:b=s.heap.objs.size
  .subst B
   rw[upd_same]at e;cases e;obtain⟨n,N⟩:=G;exact⟨hz,us,r,⟨y,hT,⟨J,n,N⟩,M⟩⟩
  .rw[aF B]at e
   refine (I.hok b u e).stay (λc v g q=>k c v ?_ q) (λc q=>by rw[aF (bc q f)];exact q) λc C q=>by rw[aF (bc q f)];exact q
   rcases g with z|z
   .rw[z];exact p b u e
   .exact p c _ z
noncomputable def vJ(h:fx)(l:ca)(k:Nat):Option Value:=match h.get? l with
 |some o=>match o.data with
  |.seq xs _=>xs[k]?
  |_=>bb
 |_=>bb
theorem iT{xs:Xz}(q:SrcSq b h l xs)(k:Nat):xs[k]?=vJ h l k:=by
 have:∃o n,h.get? l=ap o/\o.data=.seq xs n:=by
  cases b with
  |true=>obtain⟨o,e,c,n,d⟩:=(show h.IsList l xs from q);exact⟨o,n,e,d⟩
  |false=>obtain⟨o,e,c,n,d⟩:=(show h.IsTuple l xs from q);exact⟨o,n,e,d⟩
 obtain⟨o,n,e,d⟩:=this;simp[vJ,e,d]
noncomputable def N3(K:Pg)(L:List (Bool×ca)):It:=
 ⟨λi H=>∀p∈L,∃xs x,mr K p.1 H p.2 xs/\xs[i]?=ap x,
  λi H v H'=>∃T zs,H T=bb/\v=.ref T/\H'=upd H T (.tup zs)/\zs.length=L.length/\∀(j:Nat)(p:Bool×ca),L[j]?=ap p->∀xs,mr K p.1 H p.2 xs->xs[i]?=zs[j]?,
  λi H=>(∀p∈L,∃xs,mr K p.1 H p.2 xs)/\∃p∈L,∃xs,mr K p.1 H p.2 xs/\xs.length<=i⟩
structure ZTn(z TI TO:ca)(S:List ZS)(i:Nat)(h:fx):Prop where
 hz:WL h z TI TO .none
 hTI:h8 h TI (S.map λt=>.ref t.i)
 hTO:∃vs:List ay,vs.length=S.length/\h8 h TO vs
 st:E6 S i h
theorem ZTn.obj{TI TO:ca}(q:ZTn z TI TO S i h):∀b∈jw z TI TO S,∃o,h.get? b=ap o/\∀v,o.data≠.cell v:=λb c=>by
 obtain⟨f,_,e⟩:=q.hTO;simp only[jw,Po,Pq]at c;rcases c with rfl|rfl|rfl|⟨t,ht,rfl⟩
 .exact⟨_,q.hz,λv q=>nomatch q⟩
 .exact⟨_,q.hTI,λv q=>nomatch q⟩
 .exact⟨_,e,λv q=>nomatch q⟩
 .exact(q.st t ht).lt
theorem ZTn.keep{TI TO:ca}(q:ZTn z TI TO S i h)(k:∀b∈jw z TI TO S,∀o,h.get? b=ap o->h'.get? b=ap o):ZTn z TI TO S i h':=by
 obtain⟨f,l,e⟩:=q.hTO;exact⟨k z (by simp) _ q.hz,k TI (by simp) _ q.hTI,⟨f,l,k TO (by simp) _ e⟩,λt c=>(q.st t c).keep λo e=>k t.i (by simp[PV c]) o e⟩
theorem uL{X:Cx}{Xi:Xx}{Z:St}{H:Hp}{s:cb}{i:Nat}(I:Inv X Xi Z H s):∀(S:List ZS)(us:Xs),us.map ap=S.map (λt=>vJ s.heap t.l i)->(∀t∈S,∃xs x,mr X.K t.b H t.l xs/\xs[i]?=ap x)->
  ∃zs,Vals zs us/\zs.length=S.length/\∀(j:Nat)(p:Bool×ca),(S.map λt=>(t.b,t.l))[j]?=ap p->∀xs,mr X.K p.1 H p.2 xs->xs[i]?=zs[j]?
 |[],[],_,_=>⟨[],.nil,rfl,λj p e=>by simp at e⟩
 |[],_::_,e,_=>by simp at e
 |_::_,[],e,_=>by simp at e
 |t::S,u::us,e,h=>by
  simp only[Pc,Qm]at e;obtain⟨zs,r,l,g⟩:=uL I S us e.2 λo C=>h o (.tail _ C);obtain⟨xs,x,q,f⟩:=h t (.head _);obtain⟨v,L,sq,z⟩:=I.src q;obtain⟨M,B,G⟩:=L.get f;have y:ap u=ap M:=by rw[e.1,<- iT sq i];simpa using B
  cases y;refine⟨x::zs,.cons G r,by simp[l],λj p c J m=>?_⟩
  cases j with
  |zero=>
   simp only[Pc,dt,Uz]at c;subst c;rw[I.src_inj m q];simpa using f
  |succ j=>exact g j p (by simpa using c) J m
theorem jt{α:Type}{f:α->ca}:∀{L:List α}{us:Xs},Vals (L.map λp=>.ref (f p)) us->us=L.map λp=>.ref (f p)
 |[],_,.nil=>rfl
 |p::L,_,.cons r t=>by
  cases r;rw[Pc,jt t]
theorem A5{TI TO:ca}(D:ZOk z TI TO S):
  Turn P w K (.Tuple elts x1 tp) (N3 K (S.map λt=>(t.b,t.l))) (jw z TI TO S) z (ZTn z TI TO S) where
 mem:=.head _
 obj:=λi h st=>st.obj
 keep:=λi h h' st k=>st.keep k
 item:=by
  intro X hP hw hK hc i Xi s Z H E I hf st hg;subst hP hw hK
  replace hg:∀t∈S,∃xs x,mr X.K t.b H t.l xs/\xs[i]?=ap x:=λt ht=>hg _ (PV (f:=λt:ZS=>(t.b,t.l)) ht)
  have fits:∀t∈S,∃Xo x,SrcSq t.b s.heap t.l Xo/\Xo[i]?=ap x:=λt ht=>by
   obtain⟨xs,x,q,hx⟩:=hg t ht;obtain⟨Xo,rv,sq,_⟩:=I.src q;obtain⟨u,hu,_⟩:=rv.get hx;exact⟨_,u,sq,by simpa using hu⟩
  refine k_ (F:=λt=>vJ s.heap t.l i) (I.ok.hd hc) D st.hz (.inl ⟨rfl,rfl,st.hTO⟩) st.hTI st.st (λt ht=>?_) (λh' us eus hzz a3 a4 hk=>?_) λh' ⟨t,ht,eo⟩ _=>?_
  .obtain⟨Xo,x,sq,_⟩:=fits t ht
   exact⟨Xo,sq,iT sq i⟩
  .obtain⟨_,a1,a2⟩|⟨n,_⟩:=hzz
   case inr=>exact absurd rfl n
   refine⟨_,rfl,wpAny_letOwnedTupleGo_zip a1 λh'' hz'' hs''=>?_⟩;obtain⟨zs,rz,lz,gz⟩:=uL I S us eus hg;have zl:z<s.heap.objs.size:=Pj st.hz;have kk:∀b o,b∉jw z TI TO S->s.heap.get? b=ap o->h''.get? b=ap o:=λb o hb e=>by
    simp only[jw,Po,not_or]at hb;exact hs''.extBut b o hb.1 (hk b o (by simp only[Po,not_or];exact⟨hb.1,hb.2.2.1,hb.2.2.2⟩) e)
   obtain⟨zTI,zTO,TITO,ni⟩:=nh D;have hT:h''.get? s.heap.objs.size=ap { cls:=.type "tuple",data:=.seq us.toArray }:=hs''.extBut _ _ (Rg zl) a4;have st':ZTn z TI TO S (i+1) h'':=by
    refine⟨hz'',hs''.extBut _ _ zTI.symm (hk _ _ ?_ st.hTI),⟨us,?_,hs''.extBut _ _ zTO.symm a2⟩,λt ht=>(a3 t ht).keep λo e=>hs''.extBut _ o (ni t ht).1 e⟩
    .simp only[Po,Pq,not_or,not_exists,not_and]
     exact⟨zTI.symm,TITO,λt ht=>(ni t ht).2.1⟩
    .have:=congrArg Rb eus
     simpa using this
   refine⟨.ref s.heap.objs.size,_,I.turnedNew (s:=s) (h':=h'') (t':=s.toks) (zs:=zs) (us:=us) hf kk (λb hb=>let ⟨o,e,_⟩:=st.obj b hb;⟨o,e⟩) (λb hb=>let ⟨o,e,_⟩:=st'.obj b hb;⟨o,e⟩) hT rfl ⟨_,rfl⟩ rz rfl (by rw[lz];exact PL D.few (by decide)),rfl,⟨_,zs,I.hok.fresh (Pl _),rfl,rfl,by rw[lz,Pa],gz⟩,st',λb hb=>?_⟩
   obtain⟨o,e,_⟩:=st.obj b hb;rw[aF (PQ<|Pj e)];exact(hf b hb).1
  .obtain⟨Xo,x,sq,hx⟩:=fits t ht
   rw[iT sq i]at hx;rw[hx]at eo;cases eo
 done:=by
  intro X hP hw hK hc i Xi s Z H E I hf st hg;subst hP hw hK;refine k_ (F:=λt=>vJ s.heap t.l i) (I.ok.hd hc) D st.hz (.inl ⟨rfl,rfl,st.hTO⟩) st.hTI st.st (λt ht=>?_) (λh' us eus _ a3 a4 hk=>?_) λh' _ hk=>⟨rfl,I.turned4 (t':=s.toks) hf λb o hb e=>hk b o (λx=>hb ?_) e⟩
  .obtain⟨xs,q⟩:=hg.1 _ (PV (f:=λt:ZS=>(t.b,t.l)) ht)
   obtain⟨Xo,rv,sq,_⟩:=I.src q;exact⟨_,sq,iT sq i⟩
  .obtain⟨p,hp,xs,q,hle⟩:=hg.2
   obtain⟨t,ht,rfl⟩:=Pq.1 hp;obtain⟨Xo,rv,sq,_⟩:=I.src q;have e:=iT sq i;have hl:=rv.length;have:vJ s.heap t.l i∈us.map some:=by rw[eus];exact PV (f:=λt:ZS=>vJ s.heap t.l i) ht
   rw[<- e,List.getElem?_toArray,Qf (by lia)]at this
   simp at this
  .simp only[jw,Po]at x ⊢
   rcases x with x|x|x
   .exact .inl x
   .exact .inr (.inr<|.inl x)
   .exact .inr (.inr<|.inr x)
 self:=λ_ _ _ _ _ st h=>WE st.hz h
section
noncomputable def Mq(K:Pg)(t:TA):TI:=λZ H R=>t Z H λc H1=>∃L:List (Bool×ca),(L.length=2\/L.length=3)/\c=L.map (λp=>.ref p.2)/\(∀p∈L,∃xs,mr K p.1 H1 p.2 xs)/\R (N3 K L) H1
theorem FI{a:eH}{as:Xu}{o:TA}{p:Pos}(N:Gl X "zip")(U:X.mg "zip"=bb)(T:PA X (a::as) o)(O:cy (a::as) X.env=(cm,eX a X.env)::cy as X.env:=by rfl)(hs2:(PySem.backTo pos<|starEach as X.env).any (·.1)=false:=by rfl):
  PI X (.Tuple elts x1 tp) (.Call (.Name "zip" p) (a::as) [] pos) (Mq X.K o):=by
 intro Xi s Z H R I h;refine Call_ (dM I N U (by decide +kernel:eT "zip"=ap (.type "zip"))<|P5 (bv (T pos Xi s Z H _ I h) λY m ⟨vs,H1,I1,r,y⟩=>?_) O hs2)
 obtain⟨L,J,rfl,v,q⟩:=y;cases jt r;refine pi J (λp B=>?_) λh' z TI TO S M D g f e u hb G=>?_
 .obtain⟨W,q⟩:=v p B
  obtain⟨C,_,sq,_⟩:=I1.src q;exact⟨_,sq⟩
 .refine WE (s:={ m with heap:=h' }) g ?_
  subst M;exact⟨z,jw z TI TO S,_,_,H1,rfl,I1.kept (t':=m.toks) G,A5 D,⟨g,f,⟨_,by rw[Pa],e⟩,u⟩,λb c=>I1.fpOk (H':=H1) (hb b c) (I1.hok.fresh<|hb b c),q⟩
noncomputable def Ite(K:Pg)(b:Bool)(l:ca):It:=
 ⟨λi H=>∃xs x,mr K b H l xs/\xs[i]?=ap x,
  λi H v H'=>∃T x,H T=bb/\v=.ref T/\H'=upd H T (.tup [.int i,x])/\(∀xs,mr K b H l xs->xs[i]?=ap x),
  λi H=>∃xs,mr K b H l xs/\xs.length<=i⟩
end
section
theorem Draws.src(y:A.handled=bb)(b:Bool)(it l:ca)(m:l≠it)(items:Xz):
  Draws prog w A it [it,l] items.size (λi v=>items[i]?=ap v) (λi h=>SrcTn b it l i h/\SrcSq b h l items) where
 live:=λ_ _ c=>let ⟨o,ho,_⟩:=c.1.lt;⟨o,ho⟩
 frame:=λ_ _ _ c p=>⟨c.1.keep λo e=>p it (by simp) o e,c.2.keep λo e=>p l (by simp) o e⟩
 item:=λi s Q E q c r=>by
  refine fM c.1 c.2 (x:=items[i]) (by simp[q]) λh' f g=>?_
  exact r _ h' s.toks (by simp[q]) ⟨f,c.2.keep λo e=>g.extBut _ o m e⟩ g
 done:=λs Q E c u=>dS y c.1 c.2 (by simp) u
theorem vj(b:Bool)(l:ca)(items:Xz):
  W4 (Builtin.«enumerate.__new__» ⟨[.type "enumerate",.ref l],[]⟩) (λ_ R s=>SrcSq b s.heap l items/\
   R (.ok<|.ret<|.ref (s.heap.push { cls:=.type (gY b),data:=.fields #[.ref l,.int 0 0] }).objs.size)
    { s with heap:=(s.heap.push { cls:=.type (gY b),data:=.fields #[.ref l,.int 0 0] }).push { cls:=.type "enumerate",data:=.fields #[.none,.bool cm,.ref s.heap.objs.size,Pi 0,.none,.none] } }):=
 .of_wp λprog w A R s h=>by
  obtain⟨o,g,d,p,m⟩:=s;obtain⟨q,h⟩:=h;have f:=sub_enumerate;have e:SrcSq b (Shared.heap ⟨o,g,d,p,m⟩) l items:=q
  wp_walk
  refine wpAny_stack_any λr=>cx ?_
  split
  .rename_i c _ _ _ _ _
   cases (c==RV "enumerate")
   .wp_walk using fB e
    exact⟨_,rfl,h⟩
   .wp_walk using fB e
    exact⟨_,rfl,h⟩
  .wp_walk using fB e
   exact⟨_,rfl,h⟩
theorem zS(f:SrcSq b s.heap l items)(h:∀h',IsEnum h' (s.heap.objs.size+1) s.heap.objs.size 0 .none->SrcTn b s.heap.objs.size l 0 h'->h'.objs.size=s.heap.objs.size+2->
   (∀b o,s.heap.get? b=ap o->h'.get? b=ap o)->Q (.ref (s.heap.objs.size+1)) { s with heap:=h' }):
  cp (cT prog w) A (call (.type "enumerate") [.ref l]) Q E s:=by
 refine Xc F.called_enumerate (by decide) (F.typeCall_enumerate_1 _) (F.newCall_enumerate_1 _) (λobj=>F.args_object_init_2 obj _) F.entry_enumerate_new (vj b l items) ⟨f,?_⟩
 have c:(s.heap.push { cls:=.type (gY b),data:=.fields #[.ref l,.int 0 0] }).objs.size=s.heap.objs.size+1:=Qi ..;show _/\_;rw[c]
 have e:IsEnum ((s.heap.push { cls:=.type (gY b),data:=.fields #[.ref l,.int 0 0] }).push
   { cls:=.type "enumerate",data:=.fields #[.none,.bool cm,.ref s.heap.objs.size,Pi 0,.none,.none] }) (s.heap.objs.size+1) s.heap.objs.size 0 .none:=by
  have:=Pm (s.heap.push { cls:=.type (gY b),data:=.fields #[.ref l,.int 0 0] })
   (o:={ cls:=.type "enumerate",data:=.fields #[.none,.bool cm,.ref s.heap.objs.size,Pi 0,.none,.none] }) rfl
  rw[c]at this;exact this
 refine⟨⟨_,e,rfl⟩,h _ e (yt<|Pe _<|Pm _ rfl) (by rw[Qi,c]) λb o x=>Pe _ (Pe _ x)⟩
end
theorem z_(b:Bool)(l e it:ca)(O:e≠it):
  Turn P w K (.Tuple elts x1 tp) (Ite K b l) [e,it] e (λi h=>(∃p,IsEnum h e it i p)/\SrcTn b it l i h) where
 mem:=by simp
 obj:=λi h G c f=>by
  obtain⟨⟨p,y⟩,J⟩:=G;have m:c=e\/c=it:=by simpa using f
  rcases m with q|q<;>subst q
  .exact⟨_,y,λv z=>nomatch z⟩
  .exact J.lt
 keep:=λi h h' G k=>by
  obtain⟨⟨p,y⟩,J⟩:=G;exact⟨⟨p,k e (by simp) _ y⟩,J.keep λo q=>k it (by simp) o q⟩
 item:=by
  intro X hP hw hK f i Xi s Z H E I N G hg;subst hP hw hK;obtain⟨xs,x,M,W⟩:=hg;obtain⟨⟨p,y⟩,J⟩:=G;obtain⟨g,r,sq,z1⟩:=I.src M;obtain⟨u,hu,ru⟩:=r.get W;have hle:l≠e:=I.src_ne M (N e<|by simp)
  have R:l≠it:=I.src_ne M (N it<|by simp)
  have hil:i<g.toArray.size:=by
   rw[Pk,<- r.length];exact(Qb.mp W).1
  have D:Draws X.prog X.w X.A.in1 it [it,l] g.toArray.size (λi v=>g.toArray[i]?=ap v) (λi h=>SrcTn b it l i h/\SrcSq b h l g.toArray):=Draws.src (A:=X.A.in1) (I.ok.hd f) b it l R g.toArray;refine wpAny_pyNext_enum_itemD D y ⟨J,sq⟩ hil O (by simp[O,P0 hle]) λv h' tk hv ho hs' Y hsz hk=>?_
  have ev:v=u:=by
   have hu':g.toArray[i]?=ap u:=by simpa using hu
   rw[hu']at hv;exact(Qa hv).symm
  subst ev;refine⟨_,rfl,wpAny_letOwnedTupleGo_enum ho λC L B=>?_⟩;have hes:e≠s.heap.objs.size:=PQ (Pj y);have n1:SrcTn b it l (i+1) C:=hs'.1.keep λo q=>B.extBut _ o O.symm q;have kk:∀c o,c∉[e,it]->s.heap.get? c=ap o->C.get? c=ap o:=λc o f q=>
   B.extBut c o (λz=>f (by simp[z])) (hk c o (λz=>f (by simp[z])) (λz=>f (by simp[z])) q)
  have hT':C.get? s.heap.objs.size=ap { cls:=.type "tuple",data:=.seq #[.int i tk,v] }:=B.extBut _ _ hes.symm Y;have lv:∀c∈[e,it],∃o,s.heap.get? c=ap o:=λc f=>by
   have m:c=e\/c=it:=by simpa using f
   rcases m with q|q<;>subst q
   .exact⟨_,y⟩
   .obtain⟨o,q,_⟩:=J.lt;exact⟨o,q⟩
  have lv':∀c∈[e,it],∃o,C.get? c=ap o:=λc f=>by
   have m:c=e\/c=it:=by simpa using f
   rcases m with q|q<;>subst q
   .exact⟨_,L⟩
   .obtain⟨o,q,_⟩:=n1.lt;exact⟨o,q⟩
  have hTn:H s.heap.objs.size=none:=I.hok.fresh (Pl _);refine⟨.ref s.heap.objs.size,_,I.turnedNew (s:=s) (h':=C) (t':=tk+1) (zs:=[.int i,x]) (us:=[.int i tk,v]) N kk lv lv' hT' rfl ⟨_,rfl⟩ (.cons ⟨tk,rfl⟩<|.cons ru .nil) rfl (by show 2<=sizeLine;decide),rfl,⟨_,x,hTn,rfl,rfl,λzs U=>?_⟩,⟨⟨v,by simpa using L⟩,n1⟩,λc f=>?_⟩
  .rw[I.src_inj U M];exact W
  .obtain⟨o,q⟩:=lv c f
   rw[aF (PQ<|Pj q)];exact(N c f).1
 done:=by
  intro X hP hw hK f i Xi s Z H E I N G hg;subst hP hw hK;obtain⟨xs,M,W⟩:=hg;obtain⟨⟨p,y⟩,J⟩:=G;obtain⟨g,r,sq,z1⟩:=I.src M;have R:l≠it:=I.src_ne M (N it<|by simp)
  have Y:s.TypeIs (.ref e) "enumerate":=⟨_,y,rfl⟩;have hl:=r.length;unfold P3
  refine ax (Rs (wpAny_callSpecial?_slot (name:=Qq "__next__") Y Vb
   (nT Vb Y F.entry_enumerate_next ?_<|F.args_enumerate_next_1 _)))
  show cp _ _ (Ws (.ref e) 2 >>= _) _ _ _;refine ax (mu y rfl (x:=.ref it) rfl ?_);refine ax (dS (I.ok.hd f) J sq (by simp;lia) λh' x he' hx'=>?_)
  obtain⟨o,ho,hcl⟩:=hx';refine ax (Tl (T:="StopIteration") (b:=true) ⟨o,ho,hcl⟩ Wl ?_);exact cx ⟨rfl,I.turned4 (t':=s.toks) N λc o' m q=>he' c o' (λz=>m (by simp[z])) q⟩
 self:=λ_ _ _ _ _ G h=>let ⟨⟨_,y⟩,_⟩:=G;wpAny_pyIter_enum y h
section
theorem tG:bO X (.builtin "isinstance") (λxs H Q=>∃x T t b,xs=[x,.ty T]/\TyOf X.K H x t/\W.kitOne X.K t (.type T)=ap b/\Q (.bl b) H):=by
 intro Xi s Z H xs o Q I r h;obtain⟨x,T,t,b,rfl,ty,e,q⟩:=h;obtain⟨u,c,rfl,m,f⟩:=r.two;obtain rfl:c=RV T:=f;exact A1 I m ty e λg=>⟨.bl b,H,I.tok g,rfl,q⟩
theorem C8(hc:X.calm=true):bO X (.builtin "all") (λxs H Q=>∃(l:ca)(bs:List Bool),xs=[.ref l]/\SqL X.K H l (bs.map V.bl)/\Q (.bl<|bs.all id) H):=by
 intro Xi s Z H xs us Q I r h;obtain⟨l,bs,rfl,Y,q⟩:=h;obtain⟨u,rfl,W⟩:=r.one;cases W;obtain⟨f,T,p,hz⟩:=I.list Y;have R:=T.length;have J:l<s.heap.objs.size:=by obtain⟨o,e,_⟩:=p.isList;exact Pj e
 have N:l≠s.heap.objs.size:=PQ J;have val:∀(i:Nat)(v:ay),f.toArray[i]?=ap v->∃c,bs[i]?=ap c/\v=.bool c:=λi v O=>by
  have y:f[i]?=ap v:=by simpa using O
  have g:i<bs.length:=by
   have:=(Qb.mp y).1;rw[Pa]at R;lia
  obtain⟨w',G,U⟩:=T.get (i:=i) (x:=.bl bs[i]) (by rw[Ph,Pb g];rfl)
  rw[y]at G;cases G;exact⟨bs[i],Pb g,U⟩
 have M:f.toArray.size=bs.length:=by rw[Pk,<- R,Pa]
 refine call_all_walk (V9 p.isList ⟨s.heap.objs.size,_,_,_,_,_,λi=>bs.getD i cm,rfl,Walks.list (A:=X.A.in1) (I.ok.hd hc) s.heap.objs.size l N f.toArray,⟨⟨_,Pm _ rfl,rfl,rfl⟩,p.isList.push _⟩,λi v s' Q' E' O L=>?_,λh' tk hk=>?_⟩)
 .obtain⟨c,G,rfl⟩:=val i v O
  refine SB ?_;have eb:bs.getD i cm=c:=by rw[Sn,G];rfl
  have B:Q' (bs.getD i cm) s':=L;rw[eb]at B;exact B
 .have e:(PD f.toArray.size).all (λi=>bs.getD i cm)=bs.all id:=by
   rw[M,T3,List.all_eq_true,List.all_eq_true];constructor
   .intro h b C
    obtain⟨i,g,rfl⟩:=List.mem_iff_getElem.mp C;have:=h i (PR.mpr g)
    rwa [Sn,Pb g]at this
   .intro h i g
    have m:=PR.mp g;rw[Sn,Pb m];exact h _ (Q5 m)
  rw[e];refine⟨.bl (bs.all id),H,?_,rfl,q⟩;exact I.kept (t':=tk) λb o C=>hk b o (by simp;exact PQ (Pj C)) (Pe _ C)
end
theorem fA:WB table "zip.__getattribute__"=ap Builtin.«object.__getattribute__»:=
 entryFor_alias (id':="object.__getattribute__") (by kernel_rfl) (by decide +kernel) (by decide +kernel) (by kernel_rfl)
theorem jr:TD (.type "zip") "__getattr__"=pure none:=by rw[py,kc];kernel_rfl
theorem uB:TD (.type "zip") "keys"=pure none:=by rw[py,kc];kernel_rfl
theorem eG:WB table "dict.update.loop"=ap Builtin.«dict.update.loop»:=entryFor_of_fast (by kernel_rfl)
theorem bX:plainId "dict.update.loop"=true:=by decide +kernel
theorem lc(a TI TO:ca)(f0:ay)(f1:Bool)(name:Str)(u:Tok)(f:TD (.type "zip") name=pure bb)(c:(["__module__","__name__","__qualname__","__doc__","__annotations__"]:Xr).contains name=cm)(hsz:name.length+100<=sizeLine:=by size_fits):
  W4 (Builtin.«object.__getattribute__» ⟨[.ref a,.str name u],[]⟩) (λA R s=>tu s.heap a TI TO f0 f1/\raisesAttr (.ref a) name A R s):=
 Meets.of_wp λprog w A R s e=>by
  obtain⟨p,g,d,q,o⟩:=s;obtain⟨m,e⟩:=e;have r:(⟨p,g,d,q,o⟩:cb).TypeIs (.ref a) "zip":=⟨_,m,rfl⟩;unfold Builtin.«object.__getattribute__»
  repeat (any_goals (first|assumption|wp_step))
  simp only[c,Pr,if_false]
  repeat (any_goals (first|assumption|wp_step))
  exact wpAny_raiseAttrError e.1 e.2 (attrMsg_fits (by decide +kernel) hsz)
section
theorem nO{TI TO:ca}{Q:Option ay->cb->Prop}(q:tu s.heap a TI TO f0 f1)(y:A.handled=bb)(h:∀h' p,(∀b o,s.heap.get? b=ap o->h'.get? b=ap o)->Q bb { s with heap:=h',toks:=p }):cp (cT prog w) A (WA (.ref a) "keys") Q E s:=by
 obtain⟨u,g,d,p,r⟩:=s;have m:∀f,(⟨u,g,d,f,r⟩:cb).TypeIs (.ref a) "zip":=λ_=>⟨_,q,rfl⟩;have v:=sub_AttributeError;have L:=S8.lookup;have I:=S8.bind (.ref a);have B:=jr;unfold WA getAttrBy? getAttrBy
 repeat (any_goals (first|assumption|exact m _|((with_reducible show cp _ _ (call (Uh "zip.__getattribute__") _ _) _ _ _);refine s9 S8 (m _) fA (F.args_zip_getattribute_2 _ _) (lc a TI TO f0 f1 "keys" _ uB (by decide +kernel)<|by decide +kernel) ⟨q,y,λh' f e c=>?_⟩)|wp_step))
 obtain⟨C,J,G⟩:=c.there;show cp _ _ (V8 _ _ _ _ _ _ _) _ _ _;unfold V8
 repeat (any_goals (first|assumption|wp_step))
 exact h _ _ c.keeps
end
def wv(h:fx)(T:ca)(k v:ay):Prop:=∃o n,h.get? T=ap o/\o.cls=.type "tuple"/\o.data=.seq #[k,v] n
structure PSrc(prog:eC)(w:fe)(d it:ca)(ps:List (ay×ay))(fp:Xt)(St:Nat->fx->Prop):Prop where
 off:d∉fp
 stay:∀i h h',St i h->(∀b o,b≠d->h.get? b=ap o->h'.get? b=ap o)->St i h'
 item:∀(A:fv)(i:Nat)(hi:i<ps.length)(s:cb)(Q:Option ay->cb->Prop)(E:Xw),A.handled=bb->d<s.heap.objs.size->St i s.heap->
  (∀h' T,St (i+1) h'->wv h' T ps[i].1 ps[i].2->(∀c o,c∉fp->s.heap.get? c=ap o->h'.get? c=ap o)->Q (ap<|.ref T) { s with heap:=h' })->cp (cT prog w) A (P3<|.ref it) Q E s
 done:∀(A:fv)(s:cb)(Q:Option ay->cb->Prop)(E:Xw),A.handled=bb->St ps.length s.heap->(∀h',(∀c o,c∉fp->s.heap.get? c=ap o->h'.get? c=ap o)->Q bb { s with heap:=h' })->cp (cT prog w) A (P3<|.ref it) Q E s
theorem vC{R:Result->cb->Prop}{d:ca}{f:List (ay×ay)}{St:Nat->fx->Prop}(W:A.handled=bb)(C:PSrc prog w d it f fp St)(P:Nat->fx->Prop)(Pd:∀i h,P i h->∃o,h.get? d=ap o)(stay:∀i h h',P i h->(∀b o,b∉fp->h.get? b=ap o->h'.get? b=ap o)->P i h')(step:∀(i:Nat)(Y:i<f.length)(s:cb)(Q:Unit->cb->Prop)(E:Xw),P i s.heap->(∀h' u,P (i+1) h'->Qx d s.heap h'->Q () { s with heap:=h',toks:=u })->cp (cT prog w) A.in1 (dictSet d f[i].1 f[i].2) Q E s):
  ∀(n i:Nat)(s:cb),n=f.length-i->i<=f.length->St i s.heap->P i s.heap->
   (∀p:cb,p.os=s.os->p.gens=s.gens->p.drawn=s.drawn->P f.length p.heap->(∀c o,c∉fp->c≠d->s.heap.get? c=ap o->p.heap.get? c=ap o)->R (.ok<|.ret .none) p)->
   ∀u:Nat,Uf (cT prog w) A (.builtin "dict.update.loop" ⟨[.ref d,.ref it,Pi u,.none],[]⟩) R s:=by
 intro n
 induction n with
 |zero=>
  intro i s hn Y q G hR u;have O:i=f.length:=by lia
  subst O;refine codeAny_builtin eG ?_;rw[UM bX _];show cp _ A.in1 (P3 (.ref it) >>= _) _ _ s;refine ax (C.done A.in1 s _ _ W q λh' y=>?_);exact ax (m:=Builtin.Dict.addKeywords d []) (cx<|wpAny_pure (hR _ rfl rfl rfl (stay _ _ _ G y) λc o B N e=>y c o B e))
 |succ n ih=>
  intro i s hn Y q G hR u;have r:i<f.length:=by lia
  obtain⟨od,hd⟩:=Pd _ _ G;refine codeAny_builtin eG ?_;rw[UM bX _];show cp _ A.in1 (P3 (.ref it) >>= _) _ _ s;refine ax (C.item A.in1 i r s _ _ W (Pj hd) q λh' T v ⟨oT,m,U,e2,e3⟩ k1=>?_);have I:({ s with heap:=h' }:cb).TypeIs (.ref T) "tuple":=⟨_,U,e2⟩;refine ax (n7<|wpAny_bind<|wpAny_tryCatch ?_);unfold Builtin.Dict.pairItems;refine ax (Wz I ?_);rw[if_pos (by decide)]
  refine ax (SC (s:={ s with heap:=h' }) U e3<|wpAny_pure ?_);show cp _ _ (Re [f[i].1,f[i].2]<|dictSet d f[i].1 f[i].2) _ _ _;refine n7 (step i r { s with heap:=h' } _ _ (stay i _ _ G k1) λM L J g=>cx ⟨plainId_quiet bX _,?_⟩);exact ih (i+1) { s with heap:=M,toks:=L } (by lia) r (C.stay _ _ _ v λb o hb e=>g.extBut b o hb e) J (λp q1 q2 q3 q4 q5=>hR p q1 q2 q3 q4 λc o B N e=>q5 c o B N (g.extBut c o N<|k1 c o B e)) (u+1)
namespace F
theorem mro_dict:mroOf (.type "dict")=pure [.type "dict",.type "object"]:=by rw[mroOf_type];kernel_rfl
theorem jQ:TD (.type "dict") "__new__"=pure (ap<|.builtin "dict.__new__"):=by rw[py,kc];kernel_rfl
theorem called_dict:TypeCalled "dict" "dict.__new__" "dict.__init__":=
 ⟨by decide +kernel,by decide +kernel,⟨_,_,mro_dict⟩,madeBy_type mro_dict jQ (by decide +kernel),by decide +kernel,by rw[vr];kernel_rfl,PySem.F.slot_dict_init⟩
theorem typeCall_dict_1(a:ay):Wt "dict" ⟨[a],[]⟩=pure ():=by kernel_rfl
theorem newCall_dict_1(a:ay):We "dict.__new__" ⟨[.type "dict",a],[]⟩=pure ():=by kernel_rfl
theorem entry_dict_new:WB table "dict.__new__"=ap Builtin.«dict.__new__»:=entryFor_of_tree (by kernel_rfl)
theorem plain_dict_new:plainId "dict.__new__"=true:=by decide +kernel
theorem sub_dict:isSubtype (.type "dict") (.type "dict")=pure true:=by rw[vr];kernel_rfl
end F
section
theorem nR(a:ay){Q₁:Xw}(h:Q₁ (.ref s.heap.objs.size) { s with heap:=s.heap.push { cls:=.type "dict",data:=.dict #[] } }):
  Uf (cT prog w) A (.call (.builtin "dict.__new__") ⟨[.type "dict",a],[]⟩) (wants Q₁ E) s:=by
 refine codeAny_call_builtin F.plain_dict_new F.entry_dict_new (PP (F.newCall_dict_1 a) ?_);have e:=F.sub_dict;have c:=F.mro_dict;obtain⟨o,g,d,f,m⟩:=s;unfold Builtin.«dict.__new__»
 wp_walk
 exact h
theorem vk{T:String}{m:List (ay×ay)}{fq:Xt}(I:A.handled=bb)(P:Nat->fx->Prop)(hT:∃o,s.heap.get? l=ap o/\o.cls=.type T)(ht:(RV T != RV "dict")=true)(keys:∀(A':fv)(s':cb)(Q:Option ay->cb->Prop)(E:Xw),A'.handled=bb->(∀b o,s.heap.get? b=ap o->s'.heap.get? b=ap o)->(∀h' B,(∀b o,s'.heap.get? b=ap o->h'.get? b=ap o)->Q bb { s' with heap:=h',toks:=B })->cp (cT prog w) A' (WA (.ref l) "keys") Q E s')(iter:∀(A':fv)(s':cb)(Q:Xw)(E:Xw),(∀b o,s.heap.get? b=ap o->s'.heap.get? b=ap o)->s.heap.objs.size<s'.heap.objs.size->
   (∀h' it fp St,(∀b o,s'.heap.get? b=ap o->h'.get? b=ap o)->PSrc prog w s.heap.objs.size it m fp St->St 0 h'->(∀b∈fp,b∈fq\/s.heap.objs.size<b)->Q (.ref it) { s' with heap:=h' })->cp (cT prog w) A' (Wx<|.ref l) Q E s')(Pd:∀i h,P i h->∃o,h.get? s.heap.objs.size=ap o)(h0:∀h',(∀b o,s.heap.get? b=ap o->h'.get? b=ap o)->h'.get? s.heap.objs.size=ap { cls:=.type "dict",data:=.dict #[] }->P 0 h')(stay:∀i h h',P i h->(∀b o,b∉fq->b<=s.heap.objs.size->h.get? b=ap o->h'.get? b=ap o)->P i h')(step:∀(i:Nat)(hi:i<m.length)(s':cb)(Q:Unit->cb->Prop)(E:Xw),P i s'.heap->(∀h' B,P (i+1) h'->Qx s.heap.objs.size s'.heap h'->Q () { s' with heap:=h',toks:=B })->cp (cT prog w) A.in1.in1 (dictSet s.heap.objs.size m[i].1 m[i].2) Q E s')(h:∀s':cb,s'.os=s.os->s'.gens=s.gens->s'.drawn=s.drawn->P m.length s'.heap->(∀c o,c∉fq->s.heap.get? c=ap o->s'.heap.get? c=ap o)->Q (.ref s.heap.objs.size) s'):
  cp (cT prog w) A (call (.type "dict") [.ref l]) Q E s:=by
 refine callType_codes (Q₁:=λobj g=>obj=.ref s.heap.objs.size/\g={ s with heap:=s.heap.push { cls:=.type "dict",data:=.dict #[] } }) F.called_dict (F.typeCall_dict_1 _) PySem.F.entry_dict_init (nR _ ⟨rfl,rfl⟩) ?_
 rintro obj g ⟨rfl,rfl⟩
 have up:∀c o,s.heap.get? c=ap o->(s.heap.push { cls:=.type "dict",data:=.dict #[] }).get? c=ap o:=λc o e=>Pe _ e;have f:(s.heap.push { cls:=.type "dict",data:=.dict #[] }).get? s.heap.objs.size=ap { cls:=.type "dict",data:=.dict #[] }:=Pm _ rfl;have u:({ s with heap:=s.heap.push { cls:=.type "dict",data:=.dict #[] } }:cb).TypeIs (.ref s.heap.objs.size) "dict":=⟨_,f,rfl⟩;refine⟨u,PySem.F.args_dict_init_2 _ _,?_⟩;unfold Builtin.«dict.__init__» Builtin.Dict.selfAndRest;refine ax (ax<|wpAny_notOrdered_dict u<|wpAny_pure ?_);show cp _ _ (Tx "dict.__init__" s.heap.objs.size (.ref l) [] .none) _ _ _;unfold Tx;obtain⟨oT,U,L⟩:=hT;refine ax (Wz (T:=T) ⟨oT,up _ _ U,L⟩ ?_);rw[if_pos ht];refine ax (keys _ _ _ _ I up λp q hk₁=>?_);rw[if_pos (show (none:Option ay).isNone=true from rfl)];have r:=hk₁ _ _ f;refine ax (Tk<|wpAny_bind (iter _ { s with heap:=p,toks:=q } _ _ (λc o e=>hk₁ c o (up c o e)) (Pj r) λv it fp St k₂ C y G=>cx ⟨plainId_quiet bX _,?_⟩))
 exact vC (A:=A.in1) I C P Pd (λi h h' R N=>stay i h h' R λb o n le e=>N b o (λz=>(G b z).elim n λlt=>Tt.2 le lt) e) step m.length 0 { s with heap:=v,toks:=q } (by simp) (QY _) y (h0 _ (λb o e=>k₂ b o (hk₁ b o<|up b o e))<|k₂ _ _ r)
  (λs' W O Y J M=>⟨rfl,h s' W O Y J λc o n e=>M c o (λz=>(G c z).elim n λlt=>Nat.lt_asymm lt (Pj e)) (PQ<|Pj e) (k₂ c o<|hk₁ c o<|up c o e)⟩) 0
end
structure ZPr(z TI TO d:ca)(S:List ZS)(F:ZS->List ay)(i:Nat)(h:fx):Prop where
 hz:∃f0 f1,tu h z TI TO f0 f1/\(f0=.none/\f1=cm/\(∃vs:List ay,vs.length=S.length/\h8 h TO vs)\/∃(T:ca)(oT:Obj),f0=Pi T/\h.get? T=ap oT/\T≠d/\T∉jw z TI TO S)
 hTI:h8 h TI (S.map λt=>.ref t.i)
 st:E6 S i h
 sq:∀t∈S,SrcSq t.b h t.l (F t).toArray
theorem Ep{TI TO d:ca}{F:ZS->List ay}{xs ys:Xs}(D:ZOk z TI TO S)(eS:S.map F=[xs,ys])(hd:d∉jw z TI TO S)(hl:∀t∈S,t.l≠d)(len:xs.length=ys.length):
  PSrc prog w d z (xs.zip ys) (jw z TI TO S) (ZPr z TI TO d S F) where
 off:=hd
 stay:=λi h h' st k=>by
  have ne:∀b∈jw z TI TO S,b≠d:=λb hb e=>hd (e▸hb);obtain⟨⟨f0,f1,hz,r⟩,hTI,st,sq⟩:=st;refine⟨⟨f0,f1,k _ _ (ne z<|by simp) hz,?_⟩,k _ _ (ne TI<|by simp) hTI,λt ht=>(st t ht).keep λo e=>k _ o (ne t.i<|by simp[PV ht]) e,λt ht=>(sq t ht).keep λo e=>k _ o (hl t ht) e⟩
  rcases r with⟨a,b,vs,l,e⟩|⟨T,oT,a,b,c,e⟩
  .exact .inl ⟨a,b,vs,l,k _ _ (ne TO<|by simp) e⟩
  .exact .inr ⟨T,oT,a,k _ _ c b,c,e⟩
 item:=by
  intro A i hi s Q E hh dl st hQ;obtain⟨⟨f0,f1,hz,r⟩,hTI,st,sq⟩:=st;have hx:i<xs.length:=by rw[S9]at hi;lia
  have hy:i<ys.length:=by lia
  obtain⟨zTI,zTO,TITO,ni⟩:=nh D;have pr:∀us:List ay,us.map ap=S.map (λt=>(F t)[i]?)->us=[xs[i],ys[i]]:=λus e=>by
   have:S.map (λt=>(F t)[i]?)=(S.map F).map (·[i]?):=by rw[PB];rfl
   rw[this,eS]at e;rcases us with _|⟨u,_|⟨v,_|⟨_,_⟩⟩⟩<;>simp[hx,hy]at e ⊢
   exact e
  have no:∀t∈S,(F t)[i]?≠none:=λt ht e=>by
   have:F t∈S.map F:=PV ht;rw[eS]at this;have hl:(F t).length<=i:=SA.1 e;simp only[Po,QL,or_false]at this;rcases this with e|e<;>rw[e]at hl<;>lia
  have fpl:∀b∈jw z TI TO S,b<s.heap.objs.size\/b=TO:=λb hb=>by
   simp only[jw,Po,Pq]at hb;rcases hb with rfl|rfl|rfl|⟨t,ht,rfl⟩
   .exact .inl (Pj hz)
   .exact .inl (Pj hTI)
   .exact .inr rfl
   .obtain⟨o,e,_⟩:=(st t ht).lt
    exact .inl (Pj e)
  have up:∀{c:ca},c∉jw z TI TO S->c∉z::TO::S.map ZS.i:=λn x=>n (by
   simp only[jw,Po]at x ⊢;exact x.imp id .inr)
  refine k_ (F:=λt=>(F t)[i]?) hh D hz (r.imp id λ⟨T,oT,a,b,_⟩=>⟨T,oT,a,b⟩) hTI st (λt ht=>⟨_,sq t ht,by simp⟩) (λh' us e a st' hT hk=>?_) λh' ⟨t,ht,eo⟩ _=>absurd eo (no t ht)
  have k':∀c o,c∉jw z TI TO S->s.heap.get? c=ap o->h'.get? c=ap o:=λc o n=>hk c o (up n);refine hQ h' _ ⟨?_,hk _ _ ?_ hTI,st',λt ht=>(sq t ht).keep λo e=>k' _ o (D.off t ht) e⟩ ⟨_,0,hT,rfl,by rw[pr us e];simp⟩ k'
  .rcases r with⟨rfl,rfl,vs,hv,hTO⟩|⟨T,oT,rfl,hT',nd,nf⟩
   .obtain⟨_,a1,_⟩|⟨n,_⟩:=a
    case inr=>exact absurd rfl n
    refine⟨_,_,a1,.inr ⟨_,_,rfl,hT,Rg dl,λhb=>?_⟩⟩;rcases fpl _ hb with lt|e
    .exact P7 _ lt
    .exact P7 _ (e▸Pj hTO)
   .obtain⟨n,_⟩|⟨_,a1⟩:=a
    .cases n
    .exact⟨_,_,a1,.inr ⟨_,_,rfl,k' _ _ nf hT',nd,nf⟩⟩
  .simp only[Po,Pq,not_or,not_exists,not_and]
   exact⟨zTI.symm,TITO,λt ht=>(ni t ht).2.1⟩
 done:=by
  intro A s Q E hh st hQ;obtain⟨⟨f0,f1,hz,r⟩,hTI,st,sq⟩:=st;have no:∀us:List ay,us.map ap≠S.map (λt=>(F t)[(xs.zip ys).length]?):=λus e=>by
   have:S.map (λt=>(F t)[(xs.zip ys).length]?)=(S.map F).map (·[(xs.zip ys).length]?):=by rw[PB];rfl
   rw[this,eS]at e;rcases us with _|⟨u,us⟩<;>simp[len]at e
  refine k_ (F:=λt=>(F t)[(xs.zip ys).length]?) hh D hz (r.imp id λ⟨T,oT,a,b,_⟩=>⟨T,oT,a,b⟩) hTI st (λt ht=>⟨_,sq t ht,by simp⟩) (λh' us e=>absurd e (no us)) λh' _ hk=>hQ h' λc o n=>hk c o λx=>n ?_
  simp only[jw,Po]at x ⊢;exact x.imp id .inr
theorem jb:fillsNumberSlot (.type "tuple") "mul"=pure false:=
 PySem.fillsNumberSlot_seq (id:="tuple.__mul__") (r:=ap (.builtin "tuple.__rmul__")) Q7.lookup (by decide +kernel) T8.lookup (by decide +kernel)
theorem pR:seqRepeat? (.type "tuple")=pure (ap<|.builtin "tuple.__mul__"):=by
 unfold seqRepeat?;rw[PySem.seqSlot_of (T:="tuple") (name:="__mul__") (id:="tuple.__mul__") Q7.lookup (by decide +kernel),PySem.seqSlot_of (T:="tuple") (name:="__rmul__") (id:="tuple.__rmul__") T8.lookup (by decide +kernel)]
 rfl
theorem lO(a:Int)(t:Tok)(l:ca)(items:Xz)(n:Nat)(dd:Option ca)(c:Array (Option ay)):
  W4 (Builtin.«int.__rmul__» ⟨[.int a t,.ref l],[]⟩) (λ_ R s=>s.heap.get? l=ap { cls:=.type "tuple",dict:=dd,data:=.seq items n,slots:=c }/\R (.ok<|.ret Value.notImplemented) s):=
 .of_wp λprog w A R s h=>by obtain⟨f,g,d,m,e⟩:=s;obtain⟨o,h⟩:=h;wp_walk;exact⟨_,rfl,h⟩
theorem l_(l:ca)(items:Xz)(n:Nat)(dd:Option ca)(B:Array (Option ay))(x:Int)(u:Tok)(U:1<x)(C:x<=1000)(G:items.size<=1000)(q:items.isEmpty=cm):
  W4 (Builtin.«tuple.__mul__» ⟨[.ref l,.int x u],[]⟩) (λ_ R s=>s.heap.get? l=ap { cls:=.type "tuple",dict:=dd,data:=.seq items n,slots:=B }/\
   R (.ok<|.ret<|.ref s.heap.objs.size) { s with heap:=s.heap.push { cls:=.type "tuple",data:=.seq ((PN x.toNat items).foldl (·++·) #[]) } }):=
 .of_wp λprog w A R s h=>by
  obtain⟨M,g,d,N,O⟩:=s;obtain⟨m,h⟩:=h;have f1:=Tj;have T:=Sl;have v:(decide (x < -(2 ^ 63))||decide (x>=2 ^ 63))=false:=by simp;lia
  have y:(items.isEmpty||x==1)=false:=by rw[q];simp;lia
  have r:(decide (x<=0)||items.isEmpty)=false:=by rw[q];simp;lia
  have L:(items.size:Int)*x<=1000000:=by
   have J:(items.size:Int)*x<=1000*x:=Int.mul_le_mul_of_nonneg_right (by lia) (by lia)
   lia
  have p:¬((items.size:Int)*x>(2 ^ 63-1) / 8):=by lia
  have o:Tf ((items.size:Int)*x)=false:=by
   unfold Tf;have:(1000000:Int)<=(sizeLine:Int):=by decide
   exact decide_eq_false (by lia)
  wp_walk using kr m
  try simp only[v,Pr,if_false]
  wp_walk using kr m
  try simp only[y,Pr,if_false]
  wp_walk using kr m
  try simp only[r,Pr,if_false]
  wp_walk using kr m
  rw[if_neg p];simp only[o,Pr,if_false];unfold QO;have f:((PN x.toNat items).foldl (·++·) #[]).toList.length<=sizeLine:=by
   have e:∀(k:Nat)(c:Xz),((PN k items).foldl (·++·) c).size=c.size+k*items.size:=by
    intro k
    induction k with
    |zero=>intro c;simp
    |succ k ih=>intro c;rw[Qg,Qt,ih,Array.size_append,Nat.succ_mul];lia
   rw[Q1,e];have:x.toNat*items.size<=1000*1000:=Nat.mul_le_mul (by lia) G
   have I:(1000*1000:Nat)<=sizeLine:=by decide
   simp only[Pk,Qs]at *;lia
  refine ax (V6 (cx ⟨_,rfl,?_⟩) f);simpa using h
theorem nJ(l:ca)(items:Xz)(n:Nat)(dd:Option ca)(m:Array (Option ay))(u:Tok):
  W4 (Builtin.«tuple.__mul__» ⟨[.ref l,.int 1 u],[]⟩) (λ_ R s=>s.heap.get? l=ap { cls:=.type "tuple",dict:=dd,data:=.seq items n,slots:=m }/\R (.ok<|.ret<|.ref l) s):=
 .of_wp λprog w A R s h=>by
  obtain⟨p,g,d,q,o⟩:=s;obtain⟨c,h⟩:=h;have f1:=Tj;have r:=Sl;have e:(decide ((1:Int) < -(2 ^ 63))||decide ((1:Int)>=2 ^ 63))=false:=by decide
  have f:(items.isEmpty||(1:Int)==1)=true:=by simp
  wp_walk using kr c
  try simp only[e,Pr,if_false]
  wp_walk using kr c
  try simp only[f,if_true]
  wp_walk using kr c
  all_goals first|exact⟨_,rfl,h⟩|skip
theorem mV(l:ca)(items:Xz)(n:Nat)(dd:Option ca)(r:Array (Option ay))(x:Int)(u:Tok)(q:x<=0)(o:-1000<=x)(p:items.isEmpty=cm):
  W4 (Builtin.«tuple.__mul__» ⟨[.ref l,.int x u],[]⟩) (λ_ R s=>s.heap.get? l=ap { cls:=.type "tuple",dict:=dd,data:=.seq items n,slots:=r }/\
   R (.ok<|.ret<|.ref s.heap.objs.size) { s with heap:=s.heap.push { cls:=.type "tuple",data:=.seq #[] } }):=
 .of_wp λprog w A R s h=>by
  obtain⟨y,g,d,B,v⟩:=s;obtain⟨c,h⟩:=h;have f1:=Tj;have C:=Sl;have f:(decide (x < -(2 ^ 63))||decide (x>=2 ^ 63))=false:=by simp;lia
  have m:(items.isEmpty||x==1)=false:=by rw[p];simp;lia
  have e:(decide (x<=0)||items.isEmpty)=true:=by simp[q]
  wp_walk using kr c
  try simp only[f,Pr,if_false]
  wp_walk using kr c
  try simp only[m,Pr,if_false]
  wp_walk using kr c
  try simp only[e,if_true]
  all_goals exact⟨_,rfl,h⟩
section
theorem Ak{Xo:Xs}{k:Int}{u:Tok}(N:s.heap.IsTuple l Xo.toArray)(Y:Xo≠[])(O:0<=k)(W:k<=1000)(hi:Xo.length<=1000)(h1:k=1->Q (.ref l) s)(R:k≠1->Q (.ref s.heap.objs.size) { s with heap:=s.heap.push { cls:=.type "tuple",data:=.seq (PN k.toNat Xo).flatten.toArray } }):
  cp (cT prog w) A (fy .Mult (.ref l)<|.int k u) Q E s:=by
 obtain⟨⟨cls,p,data,o⟩,e,C,n,v⟩:=N;simp only at C v;subst C v;have B:Xo.toArray.isEmpty=false:=by cases Xo with|nil=>exact absurd rfl Y|cons a r=>rfl
 refine wpAny_binaryOp_repeat_ref (T:="tuple") (U:="int") (by decide) ⟨_,e,rfl⟩ (λI=>typeIs_int I k u) jb PySem.F.fills_int_mul Ux pR PySem.F.slot_int_index.lookup
  (s9 Ux (typeIs_int s k u) PySem.F.entry_int_rmul (PySem.F.args_int_rmul_2 _ _) (lO k u l Xo.toArray n p o) ⟨e,rfl,⟨_,e,rfl⟩,?_⟩)
 by_cases g:k=1
 .subst g
  exact s9 Q7 ⟨_,e,rfl⟩ SG (Sv _ _) (nJ l Xo.toArray n p o u) ⟨e,h1 rfl⟩
 .have f:=R g
  by_cases q:k<=0
  .refine s9 Q7 ⟨_,e,rfl⟩ SG (Sv _ _) (mV l Xo.toArray n p o k u q (by lia) B) ⟨e,?_⟩
   have L:k.toNat=0:=by lia
   rw[L]at f;exact f
  .refine s9 Q7 ⟨_,e,rfl⟩ SG (Sv _ _) (l_ l Xo.toArray n p o k u (by lia) W (by rw[Pk];exact hi) B) ⟨e,?_⟩
   have J:∀(m:Nat)(c:Xs),List.foldl (λx1 M=>x1++M) c.toArray (PN m Xo.toArray)=(c++(PN m Xo).flatten).toArray:=by
    intro m
    induction m with
    |zero=>intro c;simp
    |succ m ih=>
     intro c;have G:c.toArray++Xo.toArray=(c++Xo).toArray:=by simp
     rw[Qg,Qt,G,ih,Qg,Rr,List.append_assoc]
   have y:=J k.toNat [];rw[Pw]at y;rw[y];exact f
end
section
theorem Bx:cJ X (fy .Add) (λx y H Q=>∃a b ys,x=.ref a/\y=.ref b/\ic X.K H a []/\ic X.K H b ys/\Q (.ref b) H):=by
 intro Xi s Z H x y v u Q I W O h;obtain⟨a,b,ys,rfl,rfl,ha,R,q⟩:=h;cases W;cases O;obtain⟨p,M,p1,_⟩:=I.tuple ha;obtain⟨g,r2,Y,_⟩:=I.tuple R;obtain rfl:p=[]:=M.zero;obtain⟨⟨U,dd,L,N⟩,G,J,n,B⟩:=id p1;obtain⟨⟨C,m,r,o⟩,f,e,T,c⟩:=id Y;simp only at J B e c;subst J B e c
 exact Xb ⟨_,G,rfl⟩ ⟨_,f,rfl⟩ WH WX SS SH (Sw _ _)
  (tuple_addW0 a b #[] g.toArray n T dd m N o rfl) ⟨G,f,⟨.ref b,H,I,rfl,q⟩⟩
theorem CM(e:n.log2<2000)(f:0<n):cJ X (fy .FloorDiv) (rI (λ_ j=>j=(n:Int)) λi j=>.int (i / j)):=Mc λi j _ _ _ _ _ c q=>by
 subst c;refine floordiv_int (by lia) ?_ (.inl<|PyProof.noPylong_of_log2<|by simpa using UU e (by decide))
 rw[Us _ (by lia)]
 exact q
noncomputable def AN(K:Pg)(b1 b2:Bool)(t:TA):TE:=λZ H Q=>t Z H λc H1=>∃(l1 l2:ca)(ks:List aB)(ys:List V),c=[.ref l1,.ref l2]/\mr K b1 H1 l1 (ks.map kV)/\mr K b2 H1 l2 ys/\ks.length=ys.length/\0<ks.length/\ks.length<=1000/\
 ∀d,H1 d=bb->Q (.ref d) (upd H1 d<|.dK<|(ks.zip ys).foldl (λa p=>dq a p.1 p.2) [])
theorem vH{xs:List (aB×ay)}{k:aB}{u:ay}:(Ww xs k u).length<=xs.length+1:=by
 unfold Ww
 split
 .rw[Pa];lia
 .simp
theorem jv:∀(rs xs:List (aB×ay)),(rs.foldl (λa r=>Ww a r.1 r.2) xs).length<=xs.length+rs.length
 |[],xs=>by simp
 |r::rs,xs=>by
  have:=jv rs (Ww xs r.1 r.2);have:=vH (xs:=xs) (k:=r.1) (u:=r.2);rw[Qt,Pu];lia
theorem zC:∀{Xk:List (aB×V)}{rs:List (aB×ay)},KV Xk rs->∀{a:List (aB×V)}{xs:List (aB×ay)},KV a xs->KV (Xk.foldl (λa p=>dq a p.1 p.2) a) (rs.foldl (λa r=>Ww a r.1 r.2) xs)
 |_,_,.nil,a,xs,h=>h
 |_,_,.cons (a:=p) (b:=q) h t,a,xs,h0=>by
  rw[Qt,Qt];refine zC t ?_;rw[<- h.1];exact h0.put p.1 h.2
theorem lx{f:cb}{T:String}{rs:List (aB×ay×ay)}{Xk:List (aB×V)}{fq:Xt}{Q:V->Hp->Prop}(hc:X.calm=true)(I:Inv X Xi Z H f)(o1:s.os=f.os)(o2:s.gens=f.gens)(o3:s.drawn=f.drawn)(k0:∀c o,f.heap.get? c=ap o->s.heap.get? c=ap o)(sz:f.heap.objs.size<=s.heap.objs.size)(B:∀b∈fq,f.heap.objs.size<=b/\b<s.heap.objs.size)(kv:KV Xk (rs.map λr=>(r.1,r.2.2)))(m:∀r∈rs,(aU X.prog X.w).is r.1 r.2.1=true)(hz:rs.length<=1000000)(hT:∃o,s.heap.get? l=ap o/\o.cls=.type T)(ht:(RV T != RV "dict")=true)(keys:∀(A':fv)(s':cb)(Q:Option ay->cb->Prop)(E:Xw),A'.handled=bb->(∀b o,s.heap.get? b=ap o->s'.heap.get? b=ap o)->(∀h' tk,(∀b o,s'.heap.get? b=ap o->h'.get? b=ap o)->Q bb { s' with heap:=h',toks:=tk })->cp (cT X.prog X.w) A' (WA (.ref l) "keys") Q E s')(iter:∀(A':fv)(s':cb)(Q:Xw)(E:Xw),(∀b o,s.heap.get? b=ap o->s'.heap.get? b=ap o)->s.heap.objs.size<s'.heap.objs.size->
   (∀h' it fp St,(∀b o,s'.heap.get? b=ap o->h'.get? b=ap o)->PSrc X.prog X.w s.heap.objs.size it (rs.map λr=>(r.2.1,r.2.2)) fp St->St 0 h'->(∀b∈fp,b∈fq\/s.heap.objs.size<b)->Q (.ref it) { s' with heap:=h' })->cp (cT X.prog X.w) A' (Wx<|.ref l) Q E s')(q:∀p,H p=bb->Q (.ref p) (upd H p<|.dK<|Xk.foldl (λa p=>dq a p.1 p.2) [])):
  cp (cT X.prog X.w) X.A (call (.type "dict") [.ref l]) (EP X Xi Z Q) X.xe s:=by
 refine vk (I.ok.hd hc) (λi h=>h.DictOf (aU X.prog X.w) s.heap.objs.size (((rs.take i).map λr=>(r.1,r.2.2)).foldl (λa r=>Ww a r.1 r.2) [])) hT ht keys iter (λi h ⟨o,G,J,e,_⟩=>⟨o,e⟩) ?_ ?_ ?_ ?_
 .intro h' O hd
  obtain⟨o,G,J,C,r⟩:=Heap.DictOf.new (knd:=aU X.prog X.w) s.heap;rw[Pm _ rfl]at C;cases C;exact⟨_,G,J,hd,r⟩
 .rintro i h h' ⟨o,G,J,C,r⟩ N
  exact⟨o,G,J,N _ o (λz=>P7 _ (B _ z).2) (Pl _) C,r⟩
 .rintro i R s' Q' E' hd hQ
  have v:i<rs.length:=by simpa using R
  simp only[RX];have g:(((rs.take i).map λr=>(r.1,r.2.2)).foldl (λa r=>Ww a r.1 r.2) ([]:List (aB×ay))).length<=sizeLine:=by
   have:=jv ((rs.take i).map λr=>(r.1,r.2.2)) [];have h2:(1000000:Nat)<=sizeLine:=by decide
   simp only[Qs,Pa,SW]at this;lia
  refine wpAny_dictSet_pairs (knd:=aU X.prog X.w) (k:=rs[i].1) (m rs[i] (Q5 v)) hd (λh' M sb=>hQ h' _ ?_ sb) g;rw[List.take_succ_eq_append_getElem v,Ri,List.foldl_append];exact M
 .rintro s' Y p2 U hd O
  simp only[Pa,List.take_length]at hd;have y:=I.big;have hn:H s.heap.objs.size=none:=I.hok.fresh sz;obtain⟨hh',W,d',t',L⟩:=s';obtain rfl:L=f.os:=Y.trans o1;obtain rfl:W=f.gens:=p2.trans o2;obtain rfl:d'=f.drawn:=U.trans o3;refine⟨.ref s.heap.objs.size,_,I.laid (a:=s.heap.objs.size) (o:=.dK (Xk.foldl (λa p=>dq a p.1 p.2) [])) (t':=t') (λc o e=>O c o (λz=>Tt.2 (B c z).1 (Pj e)) (k0 c o e)) sz ?_,rfl,q _ hn⟩;have u:=zC kv (a:=[]) (xs:=[]) .nil;refine qK ?_ (beq_eq_false_iff_ne.mpr<|Rg<|PF y sz) u hd;rw[QT u];have:=jv (rs.map λr=>(r.1,r.2.2)) [];have h2:(1000000:Nat)<=sizeLine:=by decide
  simp only[Qs,Pa]at this;lia
theorem By:∀{ks:List aB}{Xo:Xs}{ys:List V}{us:Xs},Vals (ks.map kV) Xo->Vals ys us->ks.length=ys.length->
  KV (ks.zip ys) ((ks.zip<|Xo.zip us).map λr=>(r.1,r.2.2))/\(∀r∈ks.zip (Xo.zip us),(aU P w).is r.1 r.2.1=true)/\(ks.zip<|Xo.zip us).map (λr=>(r.2.1,r.2.2))=Xo.zip us
 |[],_,_,_,.nil,.nil,_=>⟨.nil,λr h=>by simp at h,rfl⟩
 |[],_,_::_,_,_,_,h=>by simp at h
 |_::_,_,[],_,_,_,h=>by simp at h
 |k::ks,_,y::ys,_,.cons r t,.cons r' t',h=>by
  obtain⟨a,b,c⟩:=By (ks:=ks) (ys:=ys) t t' (by simpa using h)
  exact⟨.cons ⟨rfl,r'⟩ a,λq f=>(Po.1 f).elim (λe=>by subst e;exact iC r) (b q),by simpa using c⟩
theorem vd{a b:eH}{ta:TA}{p p2 c:Pos}(b1 b2:Bool)(hc:X.calm=true)(hg:Gl X "zip")(hm:X.mg "zip"=bb)(hg2:Gl X "dict")(hm2:X.mg "dict"=bb)(ha:PA X [a,b] ta)(hs:cy [a,b] X.env=[(cm,eX a X.env),(cm,eX b X.env)]:=by rfl)(hs2:cy [b] X.env=[(cm,eX b X.env)]:=by rfl)(hs3:cy [UE (.Name "zip" p2) [a,b] [] c] X.env=[(cm,eX (.Call (.Name "zip" p2) [a,b] [] c) X.env)]:=by rfl):
  PE X (.Call (.Name "dict" p) [.Call (.Name "zip" p2) [a,b] [] c] [] pos) (AN X.K b1 b2 ta):=by
 intro Xi s Z H Q I h;refine Call_ (dM I hg2 hm2 (by decide +kernel:eT "dict"=ap (.type "dict"))<|P5 ?_ hs3 rfl)
 rw[hs3];show cp _ _ (spliced ((cm,_)::g3 pos [])) _ _ s;refine Q9 ?_;refine Call_ (dM I hg hm (by decide +kernel:eT "zip"=ap (.type "zip"))<|P5 (bv (ha c Xi s Z H _ I h) λus O ⟨vs,H1,I1,r1,q1⟩=>?_) (by rw[hs,hs2])<|by rw[hs2];rfl)
 obtain⟨l1,l2,ks,ys,e,q1,q2,hl,h0,hz,q⟩:=q1;subst e;obtain⟨u1,u2,rfl,ru1,ru2⟩:=r1.two;cases ru1;cases ru2;obtain⟨J,rv1,M,z1⟩:=I1.src q1;obtain⟨G,Y,N,z2⟩:=I1.src q2;refine pi (args:=[(b1,l1),(b2,l2)]) (.inl rfl) (λp hp=>?_) λh' z TI TO S m D r C y st R W=>?_
 .simp only[Po,QL,or_false]at hp
  rcases hp with rfl|rfl
  .exact⟨_,M⟩
  .exact⟨_,N⟩
 refine RM ?_;have e1:=rv1.length;have e2:=Y.length;rw[Pa]at e1;obtain⟨kv,L,eps⟩:=By (P:=X.prog) (w:=X.w) rv1 Y hl;have zt:ZTn z TI TO S 0 h':=⟨r,C,⟨_,by rw[Pa],y⟩,st⟩
 have g:∀b∈jw z TI TO S,b<h'.objs.size:=λb R=>let ⟨o,e,_⟩:=zt.obj b R;Pj e;have ll:∀t∈S,∃u,SrcSq t.b O.heap t.l u/\t.l<h'.objs.size:=λt ht=>by
  have:(t.b,t.l)∈[(b1,l1),(b2,l2)]:=m▸PV (f:=λt:ZS=>(t.b,t.l)) ht;have h:∃u,SrcSq t.b O.heap t.l u:=by
   simp only[Po,QL,or_false,Prod.mk.injEq]at this;rcases this with⟨e,e'⟩|⟨e,e'⟩<;>rw[e,e']
   .exact⟨_,M⟩
   .exact⟨_,N⟩
  obtain⟨u,q⟩:=h;refine⟨u,q,?_⟩;obtain⟨b,i,l⟩:=t;cases b with
  |true=>obtain⟨o,e,_⟩:=(show O.heap.IsList l u from q);exact Pj (W _ _ e)
  |false=>obtain⟨o,e,_⟩:=(show O.heap.IsTuple l u from q);exact Pj (W _ _ e)
 refine lx (s:={ O with heap:=h' }) (T:="zip") (rs:=ks.zip (J.zip G)) (Xk:=ks.zip ys) (fq:=jw z TI TO S) hc I1 rfl rfl rfl W ?_ (λb h=>⟨R b h,g b h⟩) kv L (by simp only[S9];lia) ⟨_,r,rfl⟩ (by decide) (λA' s' Q' E' hh B k=>nO (B _ _ r) hh k) (λA' s' Q' E' B lt k=>WE (B _ _ r) ?_) q
 .rcases RE h'.objs.size O.heap.objs.size with lt|ge
  .have:=R z (by simp);exact absurd (g z<|by simp) (Tt.2<|PL (TF lt) this)
  .exact ge
 .match S,m,D,C,y,st,R,zt,g,ll,k with
  |[t,u],m,D,C,y,st,R,zt,g,ll,k=>
   simp only[Pc,PK,Qm,Prod.mk.injEq,and_true]at m;obtain⟨⟨eb,el⟩,eb',el'⟩:=m;have ne:u.i≠t.i:=z4 D (i:=1) (j:=0) rfl rfl (by decide)
   rw[eps]at k;refine k s'.heap z _ (ZPr z TI TO h'.objs.size [t,u] λv=>if v.i=t.i then J else G) (λ_ _ e=>e) (Ep D (by simp[ne]) (λh=>P7 _ (g _ h)) (λv U=>let ⟨_,_,h⟩:=ll v U;PQ h)<|by lia) ?_ λb h=>.inl h
   refine⟨⟨_,_,B _ _ r,.inl ⟨rfl,rfl,_,by rw[Pa],B _ _ y⟩⟩,B _ _ C,λv U=>(st v U).keep λo e=>B _ o e,λv U=>?_⟩
   simp only[Po,QL,or_false]at U;rcases U with rfl|rfl
   .rw[if_pos rfl,eb,el]
    exact M.keep λo e=>B _ o (W _ o e)
   .rw[if_neg ne,eb',el']
    exact N.keep λo e=>B _ o (W _ o e)
  |[],m,_,_,_,_,_,_,_,_,_=>simp at m
  |[_],m,_,_,_,_,_,_,_,_,_=>simp at m
  |_::_::_::_,m,_,_,_,_,_,_,_,_,_=>simp at m
end
end _2
namespace _T
open PySem _2
end _T
namespace _2
open PySem PySem.Spec PyProof.Rows
variable{h:fx}{H:Hp}{P:eC}{s:cb}{w:fe}
section
variable{X:Cx}
theorem lh{M:Model}{A:fv}{E:Xw}{g:Type}{n:Nat}(f:Nat->g->Sem (ForInStep g))(I:Nat->g->cb->Prop)(Q:g->cb->Prop)(j:∀i b s,i<n->I i b s->cp M A (f i b) (λr s'=>match r with|.yield b'=>I (i+1) b' s'|.done b'=>Q b' s') E s)(fin:∀b s,I n b s->Q b s)(b:g)(h:I 0 b s):cp M A (forIn [0:n] b f) Q E s:=by
 rw[Std.Legacy.Range.forIn_eq_forIn_range'];have o:([0:n]:UI).size=n:=by simp[Std.Legacy.Range.size]
 show cp M A (forIn (Ry 0 ([0:n]:UI).size 1) b f) Q E s;rw[o];refine wpAny_forIn_list f (λl c s=>∃i,i<=n/\l=Ry i (n-i) 1/\I i c s) Q ?_ ?_ _ b ⟨0,QY _,rfl,h⟩
 .rintro x u c s ⟨i,v,a,p⟩
  have q:i<n:=by
   rcases RE i n with h'|h'
   .exact h'
   .rw[show n-i=0 by lia]at a;simp at a
  obtain⟨k,m⟩:∃k,n-i=k+1:=⟨n-i-1,by lia⟩
  rw[m,Q4]at a;obtain⟨rfl,rfl⟩:=List.cons.inj a;refine j0 (j x c s q p) (λr s' h'=>?_) λ_ _ e=>e;cases r with
  |done c'=>exact h'
  |yield c'=>exact⟨x+1,by lia,by congr 1;lia,h'⟩
 .rintro c s ⟨i,v,a,p⟩
  have:i=n:=by
   rcases RE i n with h'|h'
   .obtain⟨k,m⟩:∃k,n-i=k+1:=⟨n-i-1,by lia⟩
    rw[m,Q4]at a;cases a
   .lia
  subst this;exact fin _ _ p
theorem jK(l:ca)(a:Xz)(n:Nat)(dd:Option ca)(I:Array (Option ay))(x:ay)(e:ay->Bool)(G:∀y,y∈a->MeetsSeq.EqGives y x (e y))(j:Nat)(M:j<a.size)(u:e a[j]=true)(r:∀m (hm:m<a.size),m<j->e a[m]=cm):
  W4 (Builtin.«tuple.index» ⟨[.ref l,x],[]⟩) (λ_ R s=>s.heap.get? l=ap { cls:=.type "tuple",dict:=dd,data:=.seq a n,slots:=I }/\R (.ok<|.ret<|.int j s.toks) { s with toks:=s.toks+1 }):=
 .of_wp λf w A R s h=>by
  obtain⟨B,g,d,C,F⟩:=s;obtain⟨E,h⟩:=h
  wp_walk using AutoSeq1.wpAny_loadPart' E
  refine lh (n:=min a.size a.size) _ (λi (b:Option _×_) o=>b.1=bb/\i<=j/\o=⟨B,g,d,C,F⟩) _ ?turn ?fin _ ?strt
  case turn=>
   rintro i b o J ⟨z,p,rfl⟩
   have c:i<a.size:=by lia
   have q:a[i]?=ap a[i]:=by simp[c]
   simp only[q];refine ax (G _ (Array.getElem_mem c) f w _ _ _ _ ?_)
   by_cases v:i=j
   .subst v
    rw[u]
    wp_walk
    exact⟨_,rfl,h⟩
   .rw[r i c (by lia)]
    wp_walk
    exact⟨rfl,by lia,rfl⟩
  case fin=>
   rintro⟨L,K⟩ o ⟨z,p,rfl⟩
   lia
  case strt=>
   exact⟨rfl,QY _,rfl⟩
theorem Inv.tupD{b:Xx}{Z:St}{a:ca}{xs:List V}(I:Inv X b Z H s)(h:H a=ap (.tup xs)):
  ∃(Xo:Xs)(n:Nat)(sl:Array (Option ay)),Vals xs Xo/\s.heap.get? a=ap { cls:=.type "tuple",dict:=bb,data:=.seq Xo.toArray n,slots:=sl }:=by
 obtain⟨z,Xo,r,⟨cls,g,data,slots⟩,e,⟨c,n,d⟩,f⟩:=I.hok a _ h;simp only at c d f;subst c d f;exact⟨Xo,n,slots,r,e⟩
theorem gp:∀{names:Xr}{us:Xs},Vals (names.map V.str) us->∀(j:Nat)(h:j<us.length),∃(y:Str)(t:Tok),names[j]?=ap y/\us[j]=.str y t
 |[],us,r,j,h=>by cases r;exact absurd h (RJ _)
 |x::names,us,r,j,h=>by
  rw[Pc]at r;cases r with
  |cons r1 r2=>
   cases j with
   |zero=>obtain⟨t,rfl⟩:=r1;exact⟨x,t,rfl,rfl⟩
   |succ j=>obtain⟨y,t,a,b⟩:=gp r2 j (by simpa using h);exact⟨y,t,by simpa using a,by simpa using b⟩
def Mw:V->List V->Hp->VK->Prop:=λx b H Q=>∃(a:ca)(names:Xr)(z:Str)(j:Nat),x=.ref a/\b=[.str z]/\H a=ap (.tup<|names.map V.str)/\names.length<=1000/\names[j]?=ap z/\(∀m,m<j->names[m]?≠ap z)/\Q (.int (j:Int)) H
theorem zG:w8 X "tuple.index" Mw:=by
 intro E s Z H x U v T Q I N M h;obtain⟨a,b,z,j,rfl,rfl,R,S,o,p,q⟩:=h;cases N;obtain⟨u,rfl,L⟩:=M.one;obtain⟨t,rfl⟩:=L;obtain⟨c,n,G,r,e⟩:=I.tupD R;have J:=r.length;rw[Pa]at J;have K:j<b.length:=by
  rcases RE j b.length with z'|z'
  .exact z'
  .rw[Qf z']at o;cases o
 have A:j<c.toArray.size:=by rw[Pk];lia
 refine s9 RD ⟨_,e,rfl⟩ TX (TU _ _)
  (jK a c.toArray n bb G (.str z t) (λv=>match v with|.str y _=>y==z|_=>cm) (λy O=>?_) j A ?_ λm l B=>?_) ⟨e,?_⟩
 .obtain⟨m,l,rfl⟩:=Se (by simpa using O:y∈c)
  obtain⟨i,C,g,f⟩:=gp r m l;rw[f];exact eqGives_str i z C t
 .obtain⟨i,C,g,f⟩:=gp r j (by lia)
  rw[o]at g;cases g;simp[f]
 .obtain⟨i,C,g,f⟩:=gp r m (by rw[Pk]at l;exact l)
  have F:=p m B;rw[g]at F;have ne:¬i=z:=λe=>F (by rw[e])
  simp[f,ne]
 .exact⟨.int (j:Int),H,I.tok _,⟨_,rfl⟩,q⟩
noncomputable def tTM(r:V->List V->Hp->VK->Prop)(to:TE)(t:TA):TE:=λZ H Q=>to Z H λx H1=>(∃a b,x=.ref a/\H1 a=ap (.tup b))/\t Z H1 λb H2=>r x b H2 Q
theorem Om{o e:eH}{es:Xu}{to:TE}{t:TA}{name:Str}{Xn Xm:Pos}{id:String}{r:V->List V->Hp->VK->Prop}(g:WY "tuple" name id)(i:Wv (.builtin id)=pure (.type "method_descriptor"))(M:w8 X id r)(K:PE X o to)(L:PA X (e::es) t)(f:kl o name X.env (eX o X.env)=eX o X.env:=by rfl)(hfew:((g3 Xm<|starEach (e::es) X.env).all (λx=>!x.1)&&(wh Xm<|keywordEach [] X.env).all (λx=>x.1.isSome)
   && decide ((e::es).length+([]:List vx).length+(if ([]:List vx).isEmpty then 0 else 1)<30))=true:=by rfl)(hline:(Xn.endLine==Xm.line)=true:=by rfl)(hs:cy (e::es) X.env=(cm,eX e X.env)::cy es X.env:=by rfl)(hplain:(g3 Xm<|starEach es X.env).any (·.1)=false:=by rfl):
  PE X (.Call (.Attribute o name Xn) (e::es) [] Xm) (tTM r to t):=by
 intro c s Z H Q I h;refine W6 f hfew hline rfl (bv (K c s Z H _ I h) λv G ⟨x,H1,I1,p,⟨a,N,C,B⟩,m⟩=>?_);subst C;cases p;obtain⟨u,n,O,R,l⟩:=I1.tupD B;refine⟨"tuple",id,PySem.F.plainAttrs_tuple,g,i,⟨_,l,rfl⟩,λb J=>by cases J;exact⟨_,l,rfl⟩,?_⟩
 have j:=L Xm c G Z H1 _ I1 m;rw[hs]at j ⊢;refine Ra (by show (cm||(g3 Xm<|starEach es X.env).any (·.1))=cm;rw[hplain]<;>rfl) (Ru ?_)
 exact bv j λA q ⟨E,H2,I2,z,y⟩=>M c q Z H2 (.ref a) E _ A Q I2 rfl z y
end
theorem gc{h a:fx}{S:Xt}:∀{l:List Env},h.FunFrames a l->(∀b∈gJ l,b∈S)->h.FunFrames (T4 h S) l
 |[],_,_=>trivial
 |env::r,hl,hs=>by
  obtain⟨i,⟨L,o,c,n,j,e⟩,m⟩:=hl;have f:L∈S:=hs L (by unfold gJ;rw[Q3,c];exact PJ)
  exact⟨i,⟨L,o,c,W.hideAll_none S f,j,e⟩,gc m λb g=>hs b (by unfold gJ;rw[Q3,c];exact Px _ g)⟩
noncomputable def va(P:eC)(w:fe)(C:ca):nV:=λa H s E e c=>∃(ea:ca)(H':Hp)(B:fx)(a0:ay),e=.ref ea/\c.os=s.os/\Wc c.gens/\Un (gJ a) [] H H' s.heap c.heap/\HOk P w H' c.heap/\
 Heap.FlyingW B a ea (.ref C) a0 c.heap/\(∀b u,H' b=ap u->∃o,B.get? b=ap o)/\(∀b o,s.heap.get? b=ap o->b∉gJ a->∃o',B.get? b=ap o')/\E (.ref C) bb H'
theorem qU{h' B:fx}(c:HOk P w H h)(k:B.StaysIn h)(j:B.StaysIn h')(g:∀b u,H b=ap u->∃o,B.get? b=ap o):HOk P w H h':=λa o e=>
 (c a o e).stay (λb u i q=>by
  obtain⟨v,f⟩:∃v,B.get? b=ap v:=by
   rcases i with rfl|z
   .exact g _ _ e
   .exact g _ _ z
  have:=k b v f;rw[q]at this;cases this;exact j b _ f) (λ_ q=>q) λ_ _ q=>q
theorem vN{fs:Xt}{H':Hp}{m l B:fx}(un:Un fs [] H H' h m)(k1:B.StaysIn m)(k2:B.StaysIn l)(u:m.UpToSlots l)(r:∀b o,h.get? b=ap o->b∉fs->∃e,B.get? b=ap e)(p:∀b∈fs,∀o,h.get? b=ap o->∀vs,o.data≠.fields vs)(x:∀b∈fs,H b=bb):Un fs [] H H' h l where
 keep:=λb o q n a f=>by
  have g:=un.keep b o q n a f;obtain⟨e,c⟩:=r b o q a;have:=k1 b e c;rw[g]at this;cases this;exact k2 b _ c
 slot:=λb o q n a f=>by
  obtain⟨v,g⟩:=un.slot b o q n a f;obtain⟨i,j⟩:=u b _ g (p b a o q);exact⟨i,j⟩
 free:=un.free
 there:=λb o q f=>by
  by_cases a:b∈fs
  .obtain⟨v,g⟩:=un.slot b o q (x b a) a f
   obtain⟨i,j⟩:=u b _ g (p b a o q);exact⟨_,j⟩
  .obtain⟨e,c⟩:=r b o q a
   exact⟨e,k2 b e c⟩
 tups:=un.tups
 frzs:=un.frzs
 tbls:=un.tbls
section
variable{K:Pg}{mg:Xy}{base:fx}{N:Xr}{Xj:Str}{scope:Pv}{f C:ca}{cd:ay}{A:fv}{outer:List Env}{s0:cb}{H0:Hp}{E:XK}
theorem uw{env:Env}{L:ca}{l:List Env}(h:env.frame=ap L):gJ (env::l)=L::gJ l:=by unfold gJ;rw[Q3,h]
theorem Og:bM (va P w C) (dL (va P w C) P w K mg base N Xj scope f cd A outer s0 H0 E) E:=by
 intro S Z H s e s' I a;obtain⟨O,H',B,Y,rfl,Q,g,un,J,l,T,F,hE⟩:=a;have L:(dL (va P w C) P w K mg base N Xj scope f cd A outer s0 H0 E).stack=envOfC Xj scope s0.heap.objs.size f cd::outer:=rfl;have v:(envOfC Xj scope s0.heap.objs.size f cd).frame=ap s0.heap.objs.size:=rfl;have y:gJ (envOfC Xj scope s0.heap.objs.size f cd::outer)=s0.heap.objs.size::gJ outer:=uw v;rw[L]at un l F;show cp (cT P w) (A.deeper<|envOfC Xj scope s0.heap.objs.size f cd) (leaving (envOfC Xj scope s0.heap.objs.size f cd)<|.ref O) (λ_ m=>va P w C outer H0 s0 E (.ref O) m) (λe' m=>va P w C outer H0 s0 E e' m) s';refine wpAny_leaves_onW I.ok.frames v l λh' i M=>?_;have j:Un (gJ outer) [] H0 H s0.heap s.heap:=I.base;have nofr:∀{b:ca}{o:Obj},s0.heap.get? b=ap o->b∉gJ outer->b∉gJ (envOfC Xj scope s0.heap.objs.size f cd::outer):=λ{b o} q g z=>by
  rw[y]at z;rcases Po.mp z with e|z
  .exact P7 _ (e▸Pj q)
  .exact g z
 have c:Un (gJ (envOfC Xj scope s0.heap.objs.size f cd::outer)) [] H H' s.heap h':=by
  refine vN un l.1 i.1 M F (λb g o q vs=>?_) λb g=>?_
  .obtain⟨_,o',x,U⟩:=I.stack.mem (show b∈_ from g)
   rw[q]at x;cases x;exact U vs
  .exact I.stkFree b g
 refine⟨O,H',B,Y,rfl,Q.trans I.os,g,?_,qU J l.1 i.1 T,i,T,λb o q g=>?_,hE⟩
 .refine⟨λb o q n g a=>?_,λb o q n g a=>?_,λb o q n a=>?_,λb o q a=>?_,λb R q=>c.tups b R (j.tups b R q),λb o u q=>c.frzs b o u (j.frzs b o u q),λb X q=>?_⟩
  .exact c.keep b o (j.keep b o q n g a) (j.free b o q n a) (nofr q g) a
  .obtain⟨sl,p⟩:=j.slot b o q n g a
   obtain⟨G,q2⟩:=c.slot b _ p (j.free b o q n a) (by rw[y];exact Px _ g) a
   exact⟨G,q2⟩
  .obtain⟨r,p⟩:=j.there b o q a
   exact c.free b r p (j.free b o q n a) a
  .obtain⟨r,p⟩:=j.there b o q a
   exact c.there b r p a
  .obtain⟨m1,W⟩:=j.tbls b X q
   obtain⟨m2,e2⟩:=c.tbls b _ W;exact⟨m1++m2,by rw[e2,Ti]⟩
 .obtain⟨r,p⟩:=j.there b o q (by simp)
  exact F b r p (nofr q g)
structure ExcAt(K:Pg)(C:ca):Prop where
 at_:∃(nm q:Str)(Nn:ca)(bs bm bmB:Xs)(hdct:Bool)(sn:Xr)(sub:Xs)(ab:Bool)(col:Option Bool)(dd:Option ca)(k0 k1 k2 k3 k5:Option ay)(newId initId Bs:String)(mN:Xy),
  (∀h:fx,K.In h->h.get? C=ap (excClassObj nm q C Nn bs bm hdct sn sub ab col dd k0 k1 k2 k3 k5 newId)/\h.Ns Nn mN/\OwnTail h bmB bm)/\mN "__init__"=bb/\ExcBaseFacts Bs newId initId bmB/\bmB.contains (.type Bs)=true/\bm.contains (.type "BaseException")=true
theorem ObjOk.obj{a:ca}{o:HO}(x:ObjOk P w H h a o):∃v,h.get? a=ap v:=by
 cases o with
 |lst xs=>obtain⟨_,_,_,_,e⟩:=x;exact⟨_,e⟩
 |tup xs=>obtain⟨_,_,_,_,e,_⟩:=x;exact⟨_,e⟩
 |dK Xk=>obtain⟨_,_,_,_,o,_,_,e,_⟩:=x;exact⟨_,e⟩
 |dT Xk=>obtain⟨_,_,_,_,o,_,_,e,_⟩:=x;exact⟨_,e⟩
 |set S n=>obtain⟨o,_,_,_,e,_⟩:=x;exact⟨_,e⟩
 |ins C dx fs=>obtain⟨_,_,_,e,_⟩:=x;exact⟨_,e⟩
 |own y=>obtain⟨_,e⟩:=x;exact⟨_,e⟩
 |xd fs=>obtain⟨_,⟨_,_,_,e,_⟩,_⟩:=x;exact⟨_,e⟩
 |rng lo hi=>obtain⟨_,_,_,e⟩:=x;exact⟨_,e⟩
 |frz ob u=>obtain⟨e,_⟩:=x;exact⟨_,e⟩
 |tbl ps=>exact⟨_,(show h.get? a=ap _ from x)⟩
 |met f y=>exact⟨_,(show h.get? a=ap _ from x)⟩
 |ext φ=>obtain⟨_,⟨_,e⟩,_⟩:=x;exact⟨_,e⟩
theorem Ef{fs:Xt}{L:ca}{H0 H':Hp}{l h':fx}(g:Un fs [] H0 H l h)(a:Un (L::fs) [] H H' h h')(I:l.objs.size<=L):Un fs [] H0 H' l h':=by
 have nofr:∀{b:ca}{o:Obj},l.get? b=ap o->b∉fs->b∉L::fs:=λ{b o} q i z=>by
  rcases Po.mp z with e|z
  .exact P7 _ (PF (e▸Pj q) I)
  .exact i z
 refine⟨λb o q n i c=>a.keep b o (g.keep b o q n i c) (g.free b o q n c) (nofr q i) c,λb o q n i c=>?_,λb o q n c=>?_,λb o q c=>?_,λb r q=>a.tups b r (g.tups b r q),λb o u q=>a.frzs b o u (g.frzs b o u q),λb B q=>?_⟩
 .obtain⟨J,j⟩:=g.slot b o q n i c
  obtain⟨p,x⟩:=a.slot b _ j (g.free b o q n c) (Px _ i) c;exact⟨p,x⟩
 .obtain⟨m,j⟩:=g.there b o q c
  exact a.free b m j (g.free b o q n c) c
 .obtain⟨m,j⟩:=g.there b o q c
  exact a.there b m j c
 .obtain⟨F,y⟩:=g.tbls b B q
  obtain⟨G,v⟩:=a.tbls b _ y;exact⟨F++G,by rw[v,Ti]⟩
noncomputable def wd(E:XK)(C:ca):TS:=λ_ _ H=>E (.ref C) bb H
theorem Cr{x m:Str}{np Xm pos Xn:Pos}{jj}(X:ExcAt K C)(hm:mg x=ap (.ref C))(hg:Gl (dL (va P w C) P w K mg base N Xj scope f cd A outer s0 H0 E) x)(hd:(x==("__debug__":Str))=false:=by decide)(hs:cy [.Constant (.str m) jj Xn] (dL (va P w C) P w K mg base N Xj scope f cd A outer s0 H0 E).env=[(cm,eX (.Constant (.str m) jj Xn) (dL (va P w C) P w K mg base N Xj scope f cd A outer s0 H0 E).env)]:=by rfl):
  PS (dL (va P w C) P w K mg base N Xj scope f cd A outer s0 H0 E) (.Raise (ap<|.Call (.Name x np) [.Constant (.str m) jj Xn] [] Xm) bb pos) (wd E C):=by
 intro F s Z H D I h;obtain⟨nm,q,Nn,bs,bm,bmB,hdct,sn,sub,ab,col,dd,k0,k1,k2,k3,k5,newId,Q,Bs,mN,hX,hni,FB,hBs,j⟩:=X.at_
 refine wpAny_Raise_call_subU (C:=C) (nm:=nm) (q:=q) (N:=Nn) (bs:=bs) (bm:=bm) (hdct:=hdct) (sn:=sn) (sub:=sub) (ab:=ab) (col:=col) (dd:=dd) (k0:=k0) (k1:=k1) (k2:=k2) (k3:=k3) (k5:=k5) FB hBs FB (mN:=mN) j (I.ok.hd rfl) (by rw[hs];rfl) hni
  (ip I hg hm ⟨rfl,?_⟩ hd)
 have hA:=(yz BW DU hs) Xm F s Z H (λxs H1=>xs.length=1/\E (.ref C) bb H1) I ⟨rfl,h⟩;rw[hs]at hA ⊢;refine Ru (j0 hA (λS a B=>?_) λ_ _ y=>y);obtain⟨vv,H1,I1,r,M,hE⟩:=B;obtain⟨hC,hN,T⟩:=hX a.heap I1.kIn;refine⟨rfl,?_,hC,hN,T,λh' e hx=>?_⟩
 .show S.length<=sizeLine
  rw[<- r.length,M]
  decide
 have J:(envOfC Xj scope s0.heap.objs.size f cd).frame=ap s0.heap.objs.size:=rfl;have p:gJ (envOfC Xj scope s0.heap.objs.size f cd::outer)=s0.heap.objs.size::gJ outer:=uw J;have kB:(T4 a.heap<|gJ (envOfC Xj scope s0.heap.objs.size f cd::outer)).StaysIn a.heap:=λb o e=>W.of_hideAll _ e;show cp (cT P w) (A.deeper<|envOfC Xj scope s0.heap.objs.size f cd) (leaving (envOfC Xj scope s0.heap.objs.size f cd)<|.ref e) (λ_ g=>va P w C outer H0 s0 E (.ref e) g) (λe' g=>va P w C outer H0 s0 E e' g) _;refine wpAny_leaves_madeW I1.ok.frames J kB (gc I1.stack λb c=>c) hx λL t i _ _ Y=>?_;have U:a.heap.UpToSlots L:=(Heap.UpToSlots.of_keeps hx.keeps).trans Y;have l:∀{b:ca}{o:Obj},a.heap.get? b=ap o->b∉gJ (envOfC Xj scope s0.heap.objs.size f cd::outer)->(T4 a.heap<|gJ (envOfC Xj scope s0.heap.objs.size f cd::outer)).get? b=ap o:=λe n=>W.hideAll_get _ e n;have sT:∀b u,H1 b=ap u->∃o,(T4 a.heap<|gJ (envOfC Xj scope s0.heap.objs.size f cd::outer)).get? b=ap o:=λb u e=>by
  obtain⟨v,hv⟩:=ObjOk.obj (I1.hok b u e);exact⟨v,l hv λz=>by rw[I1.stkFree b z]at e;cases e⟩
 have G:Un (gJ (envOfC Xj scope s0.heap.objs.size f cd::outer)) [] H1 H1 a.heap L:=by
  refine vN Un.refl kB i.1 U (λb o q c=>⟨o,l q c⟩) (λb c o q S=>?_) λb c=>I1.stkFree b c;obtain⟨_,o',O,R⟩:=I1.stack.mem (show b∈_ from c);rw[q]at O;cases O;exact R S
 rw[p]at G;refine⟨e,H1,_,.ref t,rfl,I1.os,I1.bare,Ef I1.base G (Pl _),qU I1.hok kB i.1 sT,i,sT,λb o q c=>?_,hE⟩;obtain⟨o1,q1⟩:=I1.base.there b o q (λz=>absurd (show b∈([]:Xt) from z) (by simp))
 refine⟨o1,l q1 λz=>?_⟩;rw[p]at z;rcases Po.mp z with e'|z
 .exact P7 _ (e'▸Pj q)
 .exact c z
end
noncomputable abbrev Cx.marked(X:Cx)(e:ay):Cx:={ X with A:=X.A.mark (ap e),calm:=cm,xe:=λ_ _=>False }
section
variable{X:Cx}{Xi:Xx}{Z:St}{e:ay}
theorem Cx.Ok.mark(ok:X.Ok)(e:ay):(X.marked e).Ok:=
 ⟨ok.mod,ok.kind,ok.glob,ok.blt,ok.above,ok.inj,ok.has,ok.cab,λz=>(Bool.noConfusion z),ok.frames,ok.stk,ok.exf,ok.bs,ok.bsz,ok.noex,ok.exfs,ok.funs,ok.frf⟩
theorem Inv.mark(I:Inv X Xi Z H s)(e:ay):Inv (X.marked e) Xi Z H s:=⟨I.ok.mark e,I.os,I.bare,I.base,I.loc,I.cell,I.free,I.freeC,I.pin,I.hok,I.len⟩
theorem Inv.unmark(ok:X.Ok)(I:Inv (X.marked e) Xi Z H s):Inv X Xi Z H s:=⟨ok,I.os,I.bare,I.base,I.loc,I.cell,I.free,I.freeC,I.pin,I.hok,I.len⟩
theorem SP.unmark{D:Ends}{f:Flow}{s':cb}(ok:X.Ok)(h:SP (X.marked e) Xi D f s'):SP X Xi D f s':=by
 cases f with
 |next=>obtain⟨a,H',I,q⟩:=h;exact⟨a,H',I.unmark ok,q⟩
 |brk=>obtain⟨a,H',I,q⟩:=h;exact⟨a,H',I.unmark ok,q⟩
 |cont=>obtain⟨a,H',I,q⟩:=h;exact⟨a,H',I.unmark ok,q⟩
 |ret u=>obtain⟨v,a,H',I,r,q⟩:=h;exact⟨v,a,H',I.unmark ok,r,q⟩
noncomputable def Bq(C:ca)(sp:Sp)(dvs:List V)(ta:TA)(ts:TS):TS:=λD Z H=>ta Z H λa H1=>sp (a++dvs) H1 (λ_ H2=>D.nx Z H2) (λ_ _ H2=>ts D Z H2)
theorem wy{C f:ca}{k:Nat}{fd:ff}{ps:Xr}{sp:Sp}{dvs:List V}{ds:Xs}{x Y:Str}{p W ep np R pos:Pos}{e:eH}{es:Xu}{ta:TA}{j:rc}{g:Xv}{ts:TS}(Q:X.stack=X.env::X.outer)(hfL:X.env.frame=ap X.env.locals)(F:FnOk X.prog X.w X.K X.mg X.base (va X.prog X.w C) k f fd ps sp)(hr:Room k X.A)(hg:Gl X x)(hm:X.mg x=ap (.ref f))(hk:QG X.K (.ref f)=true)(hb:Binds X.K fd ps ds)(hd:Vals dvs ds)(ha:PA X.nox (e::es) ta)(EX:ExcAt X.K C)(hgC:Gl X Y)(hmC:X.mg Y=ap (.ref C))(hsu:∀S:ca,zg (X.marked<|.ref S) (j::g) ts)(hdb:(x==("__debug__":Str))=false:=by decide)(hdC:(Y==("__debug__":Str))=false:=by decide)(he:cy (e::es) X.env=(cm,eX e X.env)::cy es X.env:=by rfl)(hpl:(g3 W<|starEach es X.env).any (·.1)=false:=by rfl)(hsw:x9 (.Call (.Name x p) (e::es) [] W) bb ep.line X.env=pure false:=by rfl):
  PS X (.Try [.Expr (.Call (.Name x p) (e::es) [] W) ep] [.ExceptHandler (ap<|.Name Y np) bb (j::g) R] [] [] pos) (Bq C sp dvs ta ts):=by
 intro Xi s Z H D I h;refine wpAny_Try_except (WF<|wpAny_Expr_any ?_ I.quiet hsw);refine pB (ip I hg hm ?_ hdb);refine TQ (h₀:=X.base) I.ok.mod.kin hk (j0 (ha W Xi s Z H _ (I.wish _) h) (λJ U ⟨y,H1,I1',r,q⟩=>?_) λ_ _ z=>Qv z) he hpl;have I1:Inv X Xi Z H1 U:=I1'.unwish;refine⟨I1.kIn,?_⟩;have r2:Vals (y++dvs) (J++ds):=r.append hd;have hl:(J++ds).length=ps.length:=by rw[<- r2.length];exact F.len _ _ _ _ q
 refine wpAny_call (SZ (F.run X.A X.stack U H1 ⟨J,[]⟩ (J++ds) (y++dvs) _ _ hr I1.env0 (hb U J I1.kIn hl) r2 q) λrr s' G=>?_);cases rr with
 |ok fl=>
  cases fl with
  |ret u=>
   obtain⟨x',H2,I2,_,q2⟩:=I1.after G;exact Sc (Sc ⟨Z,H2,I2,q2⟩)
  |next=>exact Qv G
  |brk=>exact Qv G
  |cont=>exact Qv G
 |error er=>
  obtain⟨S,H',B,a0,rfl,hos,n,un,hok,i,sT,sA,hE⟩:=G;obtain⟨nm,qn,Nn,bs,bm,bmB,hdct,sn,sub,ab,col,dd,k0,k1,k2,k3,k5,newId,T,Bs,mN,hX,hni,FB,hBs,v⟩:=EX.at_;have nf:∀b∈gJ X.stack,∀o,U.heap.get? b=ap o->∀y,o.data≠.fields y:=λb m o q' y=>by
   obtain⟨_,o',O,hd'⟩:=I1.stack.mem (show b∈_ from m);rw[q']at O;cases O;exact hd' y
  have c:∀N:fx,B.StaysIn N->s'.heap.UpToSlots N->Inv X Xi Z H' { s' with heap:=N }:=λN k up=>
   I1.call' (s':={ s' with heap:=N }) hos (vN un i.1 k up sA nf λb m=>I1.stkFree b m) (qU hok i.1 k sT) n λb z=>absurd (show b∈([]:Xt) from z) (by simp)
  rw[Q]at i;have hfr:X.A.frames=ap (X.env::X.outer):=by rw[<- Q];exact I1.ok.frames
  refine wpAny_looks_onW hfr hfL i λh4 l up4=>?_;refine wpAny_landsW l λh5 a L=>?_;have I5:=(c h5 a.1<|up4.trans L).mark (.ref S);obtain⟨hC,_,_⟩:=hX h5 I5.kIn;obtain⟨ob,hob,E⟩:=a.there;refine wpAny_handleBy_cons (codeAny_handlers_test<|ip I5 hgC hmC ?_ hdC) (by intro q';cases q')
  refine wpAny_excMatches_sub_self hC hob E v (codeAny_handlers_suite ?_);refine lands_againW a λh6 M up6=>?_;have I6:=(c h6 M.1<|(up4.trans L).trans up6).mark (.ref S);exact j0 (hsu S Xi _ Z H' D I6 hE) (λfl s7 q7=>q7.unmark I.ok) λ_ _ z=>Qv z
end
end _2
namespace _3
open PySem _2
variable{p:ca}{B:Bd}{X:Cx}{U:Dl}{c e:eH}{H H' H1:Hp}{M:Mem}{K:Pg}{pos:Pos}{Z:St}{r:fQ}
inductive D where
 |non|bl (b:Bool)|int (i:Int)|str (x:Str)|ty (n:String)|ref (a:ca)|tup (xs:List D)|lst (xs:List D)|mt (xs:List D)|ml (xs:List D)|fd (ks:List (List aB)) (xs:List D)
def TpD(_:Pg)(H:Hp)(p:ca)(vs:List V):Prop:=H p=ap (.tup vs)
def TpM(K:Pg)(p:ca)(vs:List V):Prop:=∃(o:Obj)(Xo:Xz)(n:Nat),K.lookup p=ap o/\o.cls=.type "tuple"/\o.data=.seq Xo n/\Xo.size<=sizeLine/\Vals vs Xo.toList
def FzD(K:Pg)(H:Hp)(p:ca)(vs:List V):Prop:=
 ∃o,H p=ap (.frz o<|.lst vs)
def FzK(K:Pg)(H:Hp)(p:ca)(vs:List V):Prop:=(∃o,H p=ap (.frz o<|.lst vs))\/∃(o:Obj)(Xo:Xz)(n:Nat),K.lookup p=ap o/\o.cls=.type "list"/\o.dict=bb/\o.data=.seq Xo n/\Xo.size<=sizeLine/\Vals vs Xo.toList
theorem FzK.sq{vs:List V}(h:FzK K H p vs):SqL K H p vs:=h.imp (λ⟨o,e⟩=>.inr ⟨o,e⟩) λx=>x
theorem TpD.sq{vs:List V}(h:TpD K H p vs):ic K H p vs:=.inl (.inl h)
theorem TpM.sq{vs:List V}(h:TpM K p vs):ic K H p vs:=.inr h
theorem FzD.sq{vs:List V}(h:FzD K H p vs):SqL K H p vs:=by
 obtain⟨o,h⟩:=h;exact .inl (.inr ⟨o,h⟩)
def FdD(H:Hp)(p:ca)(ks:List (List aB))(vs:List V):Prop:=ks.length=vs.length/\∃o,H p=ap (.frz o<|.dT<|ks.zip vs)
mutual
def Rp(K:Pg)(H:Hp):D->V->Prop
 |.non,v=>v=.non
 |.bl b,v=>v=.bl b
 |.int i,v=>v=.int i
 |.str x,v=>v=.str x
 |.ty n,v=>v=.ty n
 |.ref a,v=>v=.ref a
 |.tup xs,v=>∃p vs,v=.ref p/\TpD K H p vs/\Rps K H xs vs
 |.lst xs,v=>∃p vs,v=.ref p/\FzD K H p vs/\Rps K H xs vs
 |.mt xs,v=>∃p vs,v=.ref p/\TpM K p vs/\Rps K H xs vs
 |.ml xs,v=>∃p vs,v=.ref p/\FzK K H p vs/\Rps K H xs vs
 |.fd ks xs,v=>∃p vs,v=.ref p/\FdD H p ks vs/\Rps K H xs vs
def Rps(K:Pg)(H:Hp):List D->List V->Prop
 |[],vs=>vs=[]
 |x::xs,vs=>∃v r,vs=v::r/\Rp K H x v/\Rps K H xs r
end
structure Imm(H H':Hp):Prop where
 tup:∀p vs,H p=ap (.tup vs)->H' p=ap (.tup vs)
 frz:∀p o u,H p=ap (.frz o u)->H' p=ap (.frz o u)
theorem Imm.refl:Imm H H:=⟨λ_ _ e=>e,λ_ _ _ e=>e⟩
theorem TpD.mono{vs:List V}(i:Imm H H')(h:TpD K H p vs):TpD K H' p vs:=i.tup _ _ h
theorem FzK.mono{vs:List V}(i:Imm H H')(h:FzK K H p vs):FzK K H' p vs:=h.imp (λ⟨o,e⟩=>⟨o,i.frz _ _ _ e⟩) λx=>x
theorem FzD.mono{vs:List V}(i:Imm H H')(h:FzD K H p vs):FzD K H' p vs:=let ⟨o,e⟩:=h;⟨o,i.frz _ _ _ e⟩
mutual
theorem Rp.mono{K:Pg}{H H':Hp}(i:Imm H H'):∀{d:D}{v:V},Rp K H d v->Rp K H' d v
 |.non,_,h=>h
 |.bl _,_,h=>h
 |.int _,_,h=>h
 |.str _,_,h=>h
 |.ty _,_,h=>h
 |.ref _,_,h=>h
 |.tup _,_,h=>by
  obtain⟨p,a,e,t,r⟩:=h;exact⟨p,a,e,t.mono i,Rps.mono i r⟩
 |.lst _,_,h=>by
  obtain⟨p,a,e,t,r⟩:=h;exact⟨p,a,e,t.mono i,Rps.mono i r⟩
 |.mt _,_,h=>by
  obtain⟨p,a,e,t,r⟩:=h;exact⟨p,a,e,t,Rps.mono i r⟩
 |.ml _,_,h=>by
  obtain⟨p,a,e,t,r⟩:=h;exact⟨p,a,e,t.mono i,Rps.mono i r⟩
 |.fd _ _,_,h=>by
  obtain⟨p,a,e,⟨t,o,b⟩,r⟩:=h;exact⟨p,a,e,⟨t,o,i.frz _ _ _ b⟩,Rps.mono i r⟩
theorem Rps.mono{K:Pg}{H H':Hp}(i:Imm H H'):∀{ds:List D}{vs:List V},Rps K H ds vs->Rps K H' ds vs
 |[],_,h=>h
 |_::_,_,h=>by
  obtain⟨v,r,e,a,b⟩:=h;exact⟨v,r,e,Rp.mono i a,Rps.mono i b⟩
end
section
theorem Rps.nil:Rps K H [] []:=rfl
theorem Rps.cons{d:D}{v:V}{ds:List D}{vs:List V}(a:Rp K H d v)(b:Rps K H ds vs):Rps K H (d::ds) (v::vs):=⟨v,vs,rfl,a,b⟩
theorem Rps.length:∀{ds:List D}{vs:List V},Rps K H ds vs->ds.length=vs.length
 |[],_,h=>by cases h;rfl
 |_::_,_,h=>by obtain⟨v,r,rfl,_,b⟩:=h;simp[b.length]
theorem Rps.get:∀{ds:List D}{vs:List V},Rps K H ds vs->∀{i:Nat}{d:D},ds[i]?=ap d->∃v,vs[i]?=ap v/\Rp K H d v
 |[],_,_,i,d,e=>by simp at e
 |x::xs,_,h,i,d,e=>by
  obtain⟨v,r,rfl,a,b⟩:=h;cases i with
  |zero=>simp at e;subst e;exact⟨v,by simp,a⟩
  |succ i=>simpa using b.get (by simpa using e)
theorem Rps.append:∀{ds es:List D}{vs f:List V},Rps K H ds vs->Rps K H es f->Rps K H (ds++es) (vs++f)
 |[],_,_,_,h,g=>by cases h;exact g
 |_::_,_,_,_,h,g=>by
  obtain⟨v,r,rfl,a,b⟩:=h;exact⟨v,_,rfl,a,b.append g⟩
theorem Rps.take:∀{ds:List D}{vs:List V}(n:Nat),Rps K H ds vs->Rps K H (ds.take n) (vs.take n)
 |[],_,n,h=>by cases h;simp[Rps]
 |_::_,_,0,h=>rfl
 |_::_,_,n+1,h=>by
  obtain⟨v,r,rfl,a,b⟩:=h;exact⟨v,_,rfl,a,b.take n⟩
theorem Rps.drop:∀{ds:List D}{vs:List V}(n:Nat),Rps K H ds vs->Rps K H (ds.drop n) (vs.drop n)
 |[],_,n,h=>by cases h;simp[Rps]
 |_::_,_,0,h=>h
 |_::_,_,n+1,h=>by
  obtain⟨v,r,rfl,a,b⟩:=h;exact b.drop n
theorem Rps.set{d:D}{v:V}(a:Rp K H d v):∀{ds:List D}{vs:List V}(i:Nat),Rps K H ds vs->Rps K H (ds.set i d) (vs.set i v)
 |[],_,_,h=>by cases h;rfl
 |_::_,_,0,h=>by obtain⟨w,r,rfl,_,b⟩:=h;exact⟨v,r,rfl,a,b⟩
 |_::_,_,i+1,h=>by obtain⟨w,r,rfl,c,b⟩:=h;exact⟨w,_,rfl,c,b.set a i⟩
theorem Rps.dropLast{ds:List D}{vs:List V}(h:Rps K H ds vs):Rps K H ds.dropLast vs.dropLast:=by
 rw[UX,UX,h.length];exact h.take _
theorem Rps.eraseIdx:∀{ds:List D}{vs:List V}(i:Nat),Rps K H ds vs->Rps K H (ds.eraseIdx i) (vs.eraseIdx i)
 |[],_,_,h=>by cases h;rfl
 |_::_,_,0,h=>by obtain⟨w,r,rfl,_,b⟩:=h;exact b
 |_::_,_,i+1,h=>by obtain⟨w,r,rfl,c,b⟩:=h;exact⟨w,_,rfl,c,b.eraseIdx i⟩
theorem uX:∀{a:Xq}{vs:List V},vs=a.map V.int->Rps K H (a.map D.int) vs
 |[],_,e=>e
 |i::a,_,e=>by subst e;exact⟨_,_,rfl,rfl,uX rfl⟩
end
inductive MO where
 |lst (xs:List D)
 |dK (Xk:List (aB×D))
 |dT (Xk:List (List aB×D))
 |ins (C:ca) (fs:List (Str×D))
noncomputable abbrev Mem:=ca->Option MO
noncomputable def Mem.upd(M:Mem)(a:ca)(o:MO):Mem:=λb=>if b=a then ap o else M b
noncomputable def Mem.del(M:Mem)(a:ca):Mem:=λb=>if b=a then bb else M b
def Rkv{κ:Type}(K:Pg)(H:Hp):List (κ×D)->List (κ×V)->Prop:=Wh λp q=>p.1=q.1/\Rp K H p.2 q.2
def RepO(K:Pg)(H:Hp)(a:ca):MO->Prop
 |.lst xs=>∃vs,H a=ap (.lst vs)/\Rps K H xs vs
 |.dK Xk=>∃ws,H a=ap (.dK ws)/\Rkv K H Xk ws
 |.dT Xk=>∃ws,H a=ap (.dT ws)/\Rkv K H Xk ws
 |.ins C fs=>∃dx ws,H a=ap (.ins C dx ws)/\Rkv K H fs ws
def RepH(K:Pg)(H:Hp)(M:Mem):Prop:=∀a o,M a=ap o->RepO K H a o
section
variable{a b:ca}{o:MO}{u:HO}
@[simp] theorem Mem.upd_same:(M.upd a o) a=ap o:=by simp[Mem.upd]
theorem ae(h:b≠a):(M.upd a o) b=M b:=by simp[Mem.upd,h]
@[simp] theorem Mem.upd_upd {o':MO}:(M.upd a o).upd a o'=M.upd a o':=by funext c;simp[Mem.upd];split<;>rfl
@[simp] theorem Mem.upd_del:(M.upd a o).del a=M.del a:=by funext c;simp[Mem.upd,Mem.del];split<;>rfl
theorem ar(h:M a=bb):M.del a=M:=by
 funext c;simp only[Mem.del];split
 .rename_i e;rw[e,h]
 .rfl
theorem az{f:MO}(h:a≠b):(M.upd a o).upd b f=(M.upd b f).upd a o:=by
 funext c;simp only[Mem.upd];split
 .rename_i e;rw[e,if_neg (P0 h)]
 .rfl
theorem Mem.ne{o:MO}(h:M a=ap o)(h':M b=bb):a≠b:=by intro e;subst e;rw[h]at h';cases h'
theorem Rkv.mono{f:Type}{Xk:List (f×D)}{g:List (f×V)}(i:Imm H H')(h:Rkv K H Xk g):Rkv K H' Xk g:=eJ h λ_ _ z=>⟨z.1,z.2.mono i⟩
theorem RepO.obj(r:RepO K H a o):∃u,H a=ap u:=by
 cases o with
 |lst xs=>obtain⟨f,e,_⟩:=r;exact⟨_,e⟩
 |dK xs=>obtain⟨f,e,_⟩:=r;exact⟨_,e⟩
 |dT xs=>obtain⟨f,e,_⟩:=r;exact⟨_,e⟩
 |ins C fs=>obtain⟨g,f,e,_⟩:=r;exact⟨_,e⟩
theorem RepO.keep(r:RepO K H a o)(i:Imm H H')(e:H' a=H a):RepO K H' a o:=by
 cases o with
 |lst xs=>obtain⟨f,q,z⟩:=r;exact⟨f,e.trans q,z.mono i⟩
 |dK xs=>obtain⟨f,q,z⟩:=r;exact⟨f,e.trans q,z.mono i⟩
 |dT xs=>obtain⟨f,q,z⟩:=r;exact⟨f,e.trans q,z.mono i⟩
 |ins C fs=>obtain⟨g,f,q,z⟩:=r;exact⟨g,f,e.trans q,z.mono i⟩
theorem RepH.fresh(r:RepH K H M)(h:H a=bb):M a=none:=by
 cases e:M a with
 |none=>rfl
 |some o=>obtain⟨u,q⟩:=(r a o e).obj;rw[h]at q;cases q
def yc:Option HO->Prop
 |some (.tup _)=>False
 |some (.frz _ _)=>False
 |_=>True
theorem Imm.upd(h:yc (H a)):Imm H (upd H a u):=by
 refine⟨λp f e=>?_,λp o v e=>?_⟩
 .rw[aF];exact e
  rintro rfl;rw[e]at h;exact h
 .rw[aF];exact e
  rintro rfl;rw[e]at h;exact h
theorem Imm.new(h:H a=bb):Imm H (_2.upd H a u):=Imm.upd (by rw[h];trivial)
theorem RepO.loose(r:RepO K H a o):yc (H a):=by
 cases o with
 |lst xs=>obtain⟨f,e,_⟩:=r;rw[e];trivial
 |dK xs=>obtain⟨f,e,_⟩:=r;rw[e];trivial
 |dT xs=>obtain⟨f,e,_⟩:=r;rw[e];trivial
 |ins C fs=>obtain⟨g,f,e,_⟩:=r;rw[e];trivial
theorem RepH.new(r:RepH K H M)(h:H a=bb):RepH K (_2.upd H a u) M:=λb o e=>by
 obtain⟨v,q⟩:=(r b o e).obj;exact(r b o e).keep (Imm.new h) (aF<|bc q h)
theorem RepH.put(r:RepH K H M)(h:yc (H a))(n:RepO K (_2.upd H a u) a o):RepH K (_2.upd H a u) (M.upd a o):=λb p e=>by
 by_cases f:b=a
 .subst f;rw[Mem.upd_same]at e;cases e;exact n
 .rw[ae f]at e
  exact(r b p e).keep (Imm.upd h) (aF f)
theorem RepH.keep(r:RepH K H M)(i:Imm H H')(e:∀b o,M b=ap o->H' b=H b):RepH K H' M:=λb o q=>(r b o q).keep i (e b o q)
structure Frm(M:Mem)(H:Hp)(M':Mem)(H':Hp):Prop where
 keep:∀b u,H b=ap u->M b=bb->H' b=ap u/\M' b=bb
variable{M':Mem}
theorem Frm.refl:Frm M H M H:=⟨λ_ _ e n=>⟨e,n⟩⟩
theorem Frm.trans{M1 M2:Mem}{H2:Hp}(x:Frm M H M1 H1)(y:Frm M1 H1 M2 H2):Frm M H M2 H2:=⟨λb u e n=>let ⟨e1,n1⟩:=x.keep b u e n;y.keep b u e1 n1⟩
theorem Frm.imm(f:Frm M H M' H')(r:RepH K H M):Imm H H':=by
 have g:∀b u,H b=ap u->¬yc (ap u)->H' b=ap u:=λb u e n=>(f.keep b u e (by
  cases q:M b with
  |none=>rfl
  |some o=>exact absurd (by rw[<- e];exact(r b o q).loose) n)).1
 exact⟨λp h e=>g p _ e (λz=>z),λp o u e=>g p _ e (λz=>z)⟩
theorem Frm.new(h:H a=bb):Frm M H M (_2.upd H a u):=⟨λb v e n=>⟨by rw[aF (bc e h)];exact e,n⟩⟩
theorem Frm.put(h:H a=bb\/∃o,M a=ap o):Frm M H (M.upd a o) (_2.upd H a u):=⟨λb v e n=>by
 have f:b≠a:=by
  rintro rfl
  rcases h with h|⟨o,h⟩
  .rw[h]at e;cases e
  .rw[h]at n;cases n
 exact⟨by rw[_2.aF f];exact e,by rw[ae f];exact n⟩⟩
theorem Frm.del(h:∃o,M a=ap o):Frm M H (M.del a) (_2.upd H a u):=⟨λb v e n=>by
 have f:b≠a:=by
  rintro rfl
  obtain⟨o,h⟩:=h;rw[h]at n;cases n
 refine⟨by rw[_2.aF f];exact e,?_⟩
 unfold Mem.del;rw[if_neg f];exact n⟩
theorem Rp.mf{d:D}{v:V}(x:Rp K H d v)(r:RepH K H M)(f:Frm M H M' H'):Rp K H' d v:=x.mono (f.imm r)
theorem Rps.mf{d:List D}{v:List V}(x:Rps K H d v)(r:RepH K H M)(f:Frm M H M' H'):Rps K H' d v:=x.mono (f.imm r)
end
noncomputable abbrev Dl:=List (Option D)
noncomputable abbrev DK:=D->Mem->Prop
noncomputable abbrev bh:=Dl->Mem->DK->Prop
noncomputable abbrev eU:=Dl->Mem->(Bool->Mem->Prop)->Prop
noncomputable abbrev eQ:=Dl->Mem->(List D->Mem->Prop)->Prop
structure RepS(K:Pg)(H:Hp)(U:Dl)(Z:St):Prop where
 len:U.length=Z.length
 get:∀(i:Nat)(d:D),U[i]?=ap (ap d)->∃v,Z[i]?=ap (ap v)/\Rp K H d v
theorem RepS.mono(r:RepS K H U Z)(i:Imm H H'):RepS K H' U Z:=
 ⟨r.len,λj d e=>by obtain⟨v,a,b⟩:=r.get j d e;exact⟨v,a,b.mono i⟩⟩
theorem RepS.set{i:Nat}{d:D}{v:V}(r:RepS K H U Z)(h:Rp K H d v):RepS K H (U.set i<|some d) (Z.set i<|some v):=by
 refine⟨by simp[r.len],λj e q=>?_⟩
 rw[SJ]at q ⊢
 by_cases a:i=j
 .rw[if_pos a]at q ⊢
  by_cases b:i<U.length
  .rw[if_pos (by rw[<- r.len];exact a▸b)]
   rw[if_pos (a▸b)]at q;cases q;exact⟨v,rfl,h⟩
  .rw[if_neg (a▸b)]at q;cases q
 .rw[if_neg a]at q ⊢
  exact r.get j e q
structure Bd where
 p:Mem->Hp->Prop
 go:∀{M M':Mem}{H H':Hp},p M H->Frm M H M' H'->p M' H'
noncomputable def Bd.of(M:Mem)(H:Hp):Bd:=⟨λM' H'=>Frm M H M' H',λa b=>a.trans b⟩
structure SR(X:Cx)(B:Bd)(U:Dl)(M:Mem)(Z:St)(H:Hp):Prop where
 i0:B.p M H
 rh:RepH X.K H M
 rs:RepS X.K H U Z
theorem SR.go{M':Mem}(s:SR X B U M Z H)(rh:RepH X.K H' M')(i:Frm M H M' H'):SR X B U M' Z H':=⟨B.go s.i0 i,rh,s.rs.mono<|i.imm s.rh⟩
def Up(K:Pg)(M:Mem)(H:Hp)(QQ:DK)(Q:VK):Prop:=∀d M',QQ d M'->∀v H',RepH K H' M'->Frm M H M' H'->Rp K H' d v->Q v H'
def UpT(K:Pg)(M:Mem)(H:Hp)(QQ:Bool->Mem->Prop)(Q:Bool->Hp->Prop):Prop:=∀b M',QQ b M'->∀H',RepH K H' M'->Frm M H M' H'->Q b H'
def UpA(K:Pg)(M:Mem)(H:Hp)(QQ:List D->Mem->Prop)(Q:List V->Hp->Prop):Prop:=∀ds M',QQ ds M'->∀vs H',RepH K H' M'->Frm M H M' H'->Rps K H' ds vs->Q vs H'
theorem Up.go{M1:Mem}{QQ:DK}{Q:VK}(u:Up K M H QQ Q)(i:Frm M H M1 H1):Up K M1 H1 QQ Q:=λd M' q v H' a b c=>u d M' q v H' a (i.trans b) c
theorem UpT.go{M1:Mem}{QQ:Bool->Mem->Prop}{Q:Bool->Hp->Prop}(u:UpT K M H QQ Q)(i:Frm M H M1 H1):UpT K M1 H1 QQ Q:=λd M' q H' a b=>u d M' q H' a (i.trans b)
inductive liftE(X:Cx)(B:Bd)(T:bh)(Z:St)(H:Hp)(Q:VK):Prop
 |mk (U:Dl) (M:Mem) (QQ:DK) (s:SR X B U M Z H) (h:T U M QQ) (u:Up X.K M H QQ Q):liftE X B T Z H Q
inductive liftT(X:Cx)(B:Bd)(T:eU)(Z:St)(H:Hp)(Q:Bool->Hp->Prop):Prop
 |mk (U:Dl) (M:Mem) (QQ:Bool->Mem->Prop) (s:SR X B U M Z H) (h:T U M QQ) (u:UpT X.K M H QQ Q):liftT X B T Z H Q
inductive liftA(X:Cx)(B:Bd)(T:eQ)(Z:St)(H:Hp)(Q:List V->Hp->Prop):Prop
 |mk (U:Dl) (M:Mem) (QQ:List D->Mem->Prop) (s:SR X B U M Z H) (h:T U M QQ) (u:UpA X.K M H QQ Q):liftA X B T Z H Q
def DE(X:Cx)(B:Bd)(e:eH)(T:bh):Prop:=PE X e (liftE X B T)
def DT(X:Cx)(B:Bd)(e:eH)(T:eU):Prop:=PT X e (liftT X B T)
def DA(X:Cx)(B:Bd)(es:Xu)(T:eQ):Prop:=PA X es (liftA X B T)
theorem aW{t t':TE}(h:PE X e t)(w:∀Z H Q,t' Z H Q->t Z H Q):PE X e t':=λa s Z H Q I q=>h a s Z H Q I (w Z H Q q)
theorem rK{t t':TT}(h:PT X e t)(w:∀Z H Q,t' Z H Q->t Z H Q):PT X e t':=λa s Z H Q I q=>h a s Z H Q I (w Z H Q q)
theorem yU{e:Xu}{t t':TA}(h:PA X e t)(w:∀Z H Q,t' Z H Q->t Z H Q):PA X e t':=λpos a s Z H Q I q=>h pos a s Z H Q I (w Z H Q q)
theorem bU{e:rc}{t t':TS}(h:PS X e t)(w:∀D Z H,t' D Z H->t D Z H):PS X e t':=λa s Z H D I q=>h a s Z H D I (w D Z H q)
theorem mY{e:Xv}{t t':TS}(h:zg X e t)(w:∀D Z H,t' D Z H->t D Z H):zg X e t':=λa s Z H D I q=>h a s Z H D I (w D Z H q)
def ac(i:Nat):bh:=λU M Q=>match U[i]? with
 |some (ap d)=>Q d M
 |_=>False
def dC(d:D):bh:=λ_ M Q=>Q d M
section
variable{a b:eH}{ta tb tc:bh}
theorem Lv{i:Nat}{x:Str}(m:X.N[i]?=ap x)(j:Mb X.env.scope x)(l:(x==("__debug__":Str))=false:=by decide)(hcd:(x==("__classdict__":Str))=false:=by decide):DE X B (.Name x pos) (ac i):=by
 refine aW (KH m j l hcd) ?_
 rintro Z H Q ⟨U,M,QQ,s,h,u⟩
 unfold ac at h
 split at h
 .rename_i d e
  obtain⟨v,g,f⟩:=s.rs.get i d e;exact⟨v,g,u d M h v H s.rh Frm.refl f⟩
 .exact h.elim
theorem D1{v:V}{d:D}(h:PE X e (tC v))(r:∀H,Rp X.K H d v):DE X B e (dC d):=by
 refine aW h ?_
 rintro Z H Q ⟨U,M,QQ,s,h,u⟩
 exact u d M h v H s.rh Frm.refl (r H)
theorem Kz{i j pos}:DE X B (.Constant (.int i) j pos) (dC<|.int i):=D1 Jg λ_=>rfl
theorem OT{i j pos}:DE X B (.Constant (.bool i) j pos) (dC<|.bl i):=D1 Nm λ_=>rfl
theorem Jn{j pos}:DE X B (.Constant .none j pos) (dC .non):=D1 Jo λ_=>rfl
theorem Jj{i j pos}:DE X B (.Constant (.str i) j pos) (dC<|.str i):=D1 BW λ_=>rfl
noncomputable abbrev fQ:=D->D->Mem->DK->Prop
inductive liftR2(X:Cx)(r:fQ)(x y:V)(H:Hp)(Q:VK):Prop
 |mk (d1 d2:D) (M:Mem) (QQ:DK) (rh:RepH X.K H M) (r1:Rp X.K H d1 x) (r2:Rp X.K H d2 y) (h:r d1 d2 M QQ) (u:Up X.K M H QQ Q):liftR2 X r x y H Q
def ai(r:fQ)(ta tb:bh):bh:=λU M Q=>ta U M λx M1=>tb U M1 λy M2=>r x y M2 Q
theorem kz{Q:VK}(h:liftE X B (ai r ta tb) Z H Q):OG (liftR2 X r) (liftE X B ta) (liftE X B tb) Z H Q:=by
 obtain⟨U,M,QQ,s,h,u⟩:=h;refine⟨U,M,_,s,h,λx M1 l v1 H1 f i1 i=>?_⟩;refine⟨U,M1,_,s.go f i1,l,λy M2 j v2 H2 g i2 m=>?_⟩;exact⟨x,y,M2,QQ,g,i.mf f i2,m,j,u.go<|i1.trans i2⟩
theorem fR{f:Wo}(i:cJ X (fy f) (liftR2 X r))(j:DE X B a ta)(g:DE X B b tb):DE X B (.BinOp a f b pos) (ai r ta tb):=aW (O3 i j g) λ_ _ _ h=>kz h
theorem vR{f:CmpOp}(i:cJ X (hG f) (liftR2 X r))(j:DE X B a ta)(g:DE X B b tb)(l:Wu f b=cm):DE X B (.Compare a [f] [b] pos) (ai r ta tb):=aW (Gc i j g l) λ_ _ _ h=>kz h
theorem HR(f:IxR X (liftR2 X r))(j:DE X B a ta)(g:DE X B b tb)(i:zr b):DE X B (.Subscript a b pos) (ai r ta tb):=aW (MH f j g i) λ_ _ _ h=>kz h
def ak(t:bh):eU:=λU M Q=>t U M λd M'=>match d with
 |.bl k=>Q k M'
 |_=>False
theorem dN{f:CmpOp}(n:cJ X (hG f) (liftR2 X r))(o:DE X B a ta)(m:DE X B b tb)(w:Wu f b=cm):DT X B (.Compare a [f] [b] pos) (ak<|ai r ta tb):=by
 refine rK (E_ n o m w) ?_
 rintro Z H Q ⟨U,M,QQ,s,h,u⟩
 have j:liftE X B (ai r ta tb) Z H (λx H'=>∃k,x=.bl k/\Q k H'):=by
  refine⟨U,M,_,s,h,λd M' q v H' l i g=>?_⟩;cases d with
  |bl k=>exact⟨k,g,u k M' q H' l i⟩
  |_=>exact(show False from q).elim
 exact kz j
def u_(M:Mem):D->Option Bool
 |.non=>ap cm
 |.bl b=>ap b
 |.int i=>ap (i != 0)
 |.str y=>if y.length<=sizeLine then ap ((y.length:Int) != 0) else bb
 |.tup xs=>ap (!xs.isEmpty)
 |.lst xs=>ap (!xs.isEmpty)
 |.ref a=>match M a with
  |some (.lst xs)=>ap (!xs.isEmpty)
  |some (.dK xs)=>ap (!xs.isEmpty)
  |_=>bb
 |_=>bb
def bI(t:bh):eU:=λU M Q=>t U M λd M'=>match u_ M' d with
 |some k=>Q k M'
 |none=>False
theorem gg{ds:List D}{vs:List V}(r:Rps K H ds vs):vs.isEmpty=ds.isEmpty:=by
 have:=r.length;cases ds<;>cases vs<;>simp_all
theorem LC{d:D}{v:V}{k:Bool}(l:RepH K H M)(r:Rp K H d v)(e:u_ M d=ap k):JL K v H k:=by
 cases d with
 |non=>cases r;cases e;rfl
 |bl b=>cases r;cases e;rfl
 |int i=>cases r;cases e;rfl
 |str y=>
  cases r;simp only[u_]at e
  split at e
  .cases e;exact⟨by assumption,rfl⟩
  .cases e
 |ty n=>cases e
 |tup g=>
  obtain⟨p,f,rfl,t,r⟩:=r;cases e;exact .inr (.inl ⟨f,t.sq,by rw[gg r]⟩)
 |mt g=>cases e
 |ml g=>cases e
 |fd _ _=>cases e
 |lst g=>
  obtain⟨p,f,rfl,t,r⟩:=r;cases e;exact .inl ⟨f,t.sq,by rw[gg r]⟩
 |ref a=>
  cases r;simp only[u_]at e
  split at e
  .rename_i g q
   obtain⟨f,j,h⟩:=l _ _ q;cases e;exact .inl ⟨f,SqL.of j,by rw[gg h]⟩
  .rename_i g q
   obtain⟨f,j,h⟩:=l _ _ q;cases e;refine .inr (.inr ⟨f,j,?_⟩);cases h<;>rfl
  .cases e
theorem Lh(h:DE X B e ta)(l:∀f,Xa e X.env f=(do let v <- f;Wa e.pos;Re [v] (truthy v)):=by intro _;rfl):DT X B e (bI ta):=by
 refine rK (Cc h l) ?_
 rintro Z H Q ⟨U,M,QQ,s,h,u⟩
 refine⟨U,M,_,s,h,λd M' q v H' g i j=>?_⟩
 split at q
 .rename_i k e
  exact⟨k,LC g j e,u k M' q H' g i⟩
 .exact q.elim
def dX(t:eU):eU:=λU M Q=>t U M λc M1=>Q (!c) M1
theorem Ly{f:eU}(j:DT X B a f):DT X B (.UnaryOp .Not a pos) (dX f):=by
 refine rK (IQ j) ?_
 rintro Z H Q ⟨U,M,QQ,s,h,u⟩
 exact⟨U,M,_,s,h,λc M' q H' g i=>u _ M' q H' g i⟩
end
section
variable{a b:eH}{ta tb tc:bh}{tA tB':eU}{rest:Xu}
def DW(X:Cx)(B:Bd)(e:eH)(T:eU):Prop:=PW X e (liftT X B T)
theorem OX{T:eU}(h:DW X B e T):DT X B e T:=OY h
theorem zp{t t':TT}(h:PW X e t)(w:∀Z H Q,t' Z H Q->t Z H Q):PW X e t':=λg f s Z H Q I q=>h g f s Z H Q I (w Z H Q q)
def nK(t u:eU):eU:=λU M Q=>t U M λc M1=>if c=true then u U M1 Q else Q cm M1
def Al(t u:eU):eU:=λU M Q=>t U M λc M1=>if c=true then Q true M1 else u U M1 Q
theorem GH(f:DT X B a tA):DW X B (.BoolOp .And [a] pos) tA:=Gi f
theorem J5(f:DT X B a tA):DW X B (.BoolOp .Or [a] pos) tA:=J6 f
theorem Lf(j:DT X B a tA)(g:DW X B (.BoolOp .And (b::rest) pos) tB'):DW X B (.BoolOp .And (a::b::rest) pos) (nK tA tB'):=by
 refine zp (Kl j g) ?_
 rintro Z H Q ⟨U,M,QQ,s,h,u⟩
 refine⟨U,M,_,s,h,λc M' q H' f i=>?_⟩;cases c with
 |true=>rw[if_pos rfl]at q ⊢;exact⟨U,M',QQ,s.go f i,q,u.go i⟩
 |false=>rw[if_neg PH]at q ⊢;exact u _ M' q H' f i
theorem No(j:DT X B a tA)(g:DW X B (.BoolOp .Or (b::rest) pos) tB'):DW X B (.BoolOp .Or (a::b::rest) pos) (Al tA tB'):=by
 refine zp (OD j g) ?_
 rintro Z H Q ⟨U,M,QQ,s,h,u⟩
 refine⟨U,M,_,s,h,λc M' q H' f i=>?_⟩;cases c with
 |false=>rw[if_neg PH]at q ⊢;exact⟨U,M',QQ,s.go f i,q,u.go i⟩
 |true=>rw[if_pos rfl]at q ⊢;exact u _ M' q H' f i
def jN(ta tb:bh):bh:=λU M Q=>ta U M λx M1=>match x with
 |.bl true=>tb U M1 Q
 |.bl cm=>Q (.bl cm) M1
 |_=>False
def Iw(ta:bh):bh:=λU M Q=>ta U M λx M1=>match x with
 |.bl c=>Q (.bl<|!c) M1
 |_=>False
theorem LF{op}{t:bh}(h:DE X B a t):DE X B (.BoolOp op [a] pos) t:=LM h
theorem Kw(j:DE X B a ta)(g:DE X B (.BoolOp .And (b::rest) pos) tb):DE X B (.BoolOp .And (a::b::rest) pos) (jN ta tb):=by
 refine aW (IN j g) ?_
 rintro Z H Q ⟨U,M,QQ,s,h,u⟩
 refine⟨U,M,_,s,h,λd M' q v H' f i r=>?_⟩;cases d with
 |bl c=>
  cases c with
  |true=>exact⟨true,r,by rw[if_pos rfl];exact⟨U,M',QQ,s.go f i,q,u.go i⟩⟩
  |false=>exact⟨cm,r,by rw[if_neg PH];exact u _ M' q _ H' f i rfl⟩
 |_=>exact(show False from q).elim
theorem LJ(g:DE X B a ta):DE X B (.UnaryOp .Not a pos) (Iw ta):=by
 refine aW (JG g) ?_
 rintro Z H Q ⟨U,M,QQ,s,h,u⟩
 refine⟨U,M,_,s,h,λd M' q v H' f i r=>?_⟩;cases d with
 |bl c=>exact⟨c,r,u _ M' q _ H' f i rfl⟩
 |_=>exact(show False from q).elim
def jq(t:eU)(ta tb:bh):bh:=λU M Q=>t U M λc M1=>if c=true then ta U M1 Q else tb U M1 Q
theorem E1(l:DT X B c tA)(j:DE X B a ta)(g:DE X B b tb):DE X B (.IfExp c a b pos) (jq tA ta tb):=by
 refine aW (AS l j g) ?_
 rintro Z H Q ⟨U,M,QQ,s,h,u⟩
 refine⟨U,M,_,s,h,λc M' q H' f i=>?_⟩;cases c with
 |true=>rw[if_pos rfl]at q ⊢;exact⟨U,M',QQ,s.go f i,q,u.go i⟩
 |false=>rw[if_neg PH]at q ⊢;exact⟨U,M',QQ,s.go f i,q,u.go i⟩
variable{es:Xu}{te:bh}{t:eQ}
def af:eQ:=λ_ M Q=>Q [] M
def aa(ta:bh)(tr:eQ):eQ:=λU M Q=>ta U M λx M1=>tr U M1 λf M2=>Q (x::f) M2
theorem Jp:DA X B [] af:=by
 refine yU DU ?_
 rintro Z H Q ⟨U,M,QQ,s,h,u⟩
 exact u [] M h [] H s.rh Frm.refl .nil
theorem GK(n:DE X B e te)(q:DA X B es t)(o:cy (e::es) X.env=(cm,eX e X.env)::cy es X.env:=by rfl):DA X B (e::es) (aa te t):=by
 refine yU (yz n q o) ?_
 rintro Z H Q ⟨U,M,QQ,s,h,u⟩
 refine⟨U,M,_,s,h,λx M1 l v1 H1 f i1 i=>?_⟩;refine⟨U,M1,_,s.go f i1,l,λv M2 j v2 H2 g i2 m=>?_⟩;exact u _ M2 j _ H2 g (i1.trans i2) (.cons (i.mf f i2) m)
def aP(t:eQ):bh:=λU M Q=>t U M λf M1=>f.length<=sizeLine/\Q (.tup f) M1
def bp(t:eQ):bh:=λU M Q=>t U M λf M1=>f.length<=sizeLine/\∀p,M1 p=bb->Q (.ref p) (M1.upd p<|.lst f)
theorem Kb{x1}(h:DA X B es t):DE X B (.Tuple es x1 pos) (aP t):=by
 refine aW (IT h) ?_
 rintro Z H Q ⟨U,M,QQ,s,h,u⟩
 refine⟨U,M,_,s,h,λl M1 j v1 H1 g i1 i=>⟨by rw[<- i.length];exact j.1,λp f=>?_⟩⟩
 exact u _ M1 j.2 _ _ (g.new f) (i1.trans<|Frm.new f) ⟨p,v1,rfl,upd_same,i.mono<|Imm.new f⟩
theorem J2(h:DA X B es t):DE X B (.List es pos) (bp t):=by
 refine aW (Ls h) ?_
 rintro Z H Q ⟨U,M,QQ,s,h,u⟩
 refine⟨U,M,_,s,h,λxs M1 h1 v1 H1 rh1 i1 r1=>⟨by rw[<- r1.length];exact h1.1,λp hp=>?_⟩⟩
 exact u _ _ (h1.2 p<|rh1.fresh hp) _ _ (rh1.put (by rw[hp];trivial) ⟨v1,upd_same,r1.mono<|Imm.new hp⟩) (i1.trans<|Frm.put<|.inl hp) rfl
theorem Inv.freeze{g:Xx}{Z:_2.St}{s:cb}{vs:List V}(I:Inv X g Z H s)(h:H p=ap (.lst vs)):∃o,Inv X g Z (upd H p<|.frz o<|.lst vs) s:=by
 obtain⟨i,n,r,e,z⟩:=I.lst h;have ne:∀{b:ca}{u:Option HO},H b=u->u≠ap (.lst vs)->b≠p:=λ{b u} q C z=>by subst z;rw[h]at q;exact C q.symm
 refine⟨{ cls:=.type "list",data:=.seq i.toArray n },I.ok,I.os,I.bare,⟨I.base.keep,I.base.slot,λb o q F v=>?_,I.base.there,λb j q=>?_,λb o u q=>?_,λb J q=>?_⟩,I.loc,I.cell,?_,λx c q=>?_,λE w=>?_,λb o q=>?_,I.len⟩
 .have f:=I.base.free b o q F v
  rw[aF (ne f<|by simp)];exact f
 .have f:=I.base.tups b j q
  rw[aF (ne f<|by simp)];exact f
 .have f:=I.base.frzs b o u q
  rw[aF (ne f<|by simp)];exact f
 .obtain⟨more,f⟩:=I.base.tbls b J q
  exact⟨more,by rw[aF (ne f<|by simp)];exact f⟩
 .rw[aF (ne I.free<|by simp)];exact I.free
 .have f:=I.freeC x c q
  rw[aF (ne f<|by simp)];exact f
 .obtain⟨A,m,G⟩:=I.pin E w
  exact⟨A,by rw[aF (ne m<|by simp)];exact m,G⟩
 .by_cases l:b=p
  .subst l
   rw[upd_same]at q;cases q;refine⟨e,?_⟩;exact⟨z,i,n,r,e⟩
  .rw[aF l]at q
   refine (I.hok b o q).stay (λ_ _ _ y=>y) (λc y=>?_) λc j y=>?_
   .rw[aF (ne y<|by simp)];exact y
   .rw[aF (ne y<|by simp)];exact y
def frz(d:D)(M:Mem)(Q:DK):Prop:=match d with
 |.ref a=>match M a with
  |some (.lst xs)=>Q (.lst xs) (M.del a)
  |_=>Q d M
 |_=>Q d M
def al(t:bh):bh:=λU M Q=>t U M λd M'=>frz d M' Q
theorem RepH.freeze{vs:List V}{o:Obj}(r:RepH K H M)(h:H p=ap (.lst vs)):RepH K (upd H p<|.frz o<|.lst vs) (M.del p):=λb u e=>by
 unfold Mem.del at e
 split at e
 .cases e
 .rename_i hb
  exact(r b u e).keep (Imm.upd<|by rw[h];trivial) (aF hb)
theorem Lo(h:DE X B e te):DE X B e (al te):=by
 intro g s Z H Q I x;obtain⟨U,M,QQ,z,m,u⟩:=x;refine bv (h g s Z H (λv H'=>∃d M',RepH X.K H' M'/\Frm M H M' H'/\Rp X.K H' d v/\frz d M' QQ) I ⟨U,M,_,z,m,λd M' q v H' f i r=>⟨d,M',f,i,r,q⟩⟩) ?_
 rintro w C ⟨v,H',I',l,d,M',f,i,r,q⟩
 unfold frz at q
 split at q
 .rename_i a
  split at q
  .rename_i A e
   obtain⟨y,j,n⟩:=f _ _ e;obtain⟨o,I2⟩:=Inv.freeze I' j;refine⟨v,_,I2,l,u _ _ q v _ (f.freeze j) (i.trans<|Frm.del ⟨_,e⟩) ?_⟩;exact⟨a,y,r,⟨o,upd_same⟩,n.mono<|Imm.upd<|by rw[j];trivial⟩
  .exact⟨v,H',I',l,u _ _ q v H' f i r⟩
 .exact⟨v,H',I',l,u _ _ q v H' f i r⟩
end
def eY(M:Mem):D->Option (List D)
 |.lst xs=>ap xs
 |.ref a=>match M a with
  |some (.lst xs)=>ap xs
  |_=>bb
 |_=>bb
def aE(M:Mem):D->Option (List D)
 |.tup xs=>ap xs
 |.lst xs=>ap xs
 |.mt xs=>ap xs
 |.ml xs=>ap xs
 |.ref a=>match M a with
  |some (.lst xs)=>ap xs
  |_=>bb
 |_=>bb
section
variable{d:D}{v:V}{xs:List D}
theorem iE(i:RepH K H M)(r:Rp K H d v)(e:eY M d=ap xs):∃p vs,v=.ref p/\Rd H p (.lst vs)/\Rps K H xs vs:=by
 cases d with
 |lst b=>
  cases e;obtain⟨p,vs,rfl,⟨o,h⟩,r⟩:=r;exact⟨p,vs,rfl,.inr ⟨o,h⟩,r⟩
 |ref a=>
  simp only[eY]at e
  split at e
  .rename_i b q
   cases e;obtain⟨vs,g,f⟩:=i _ _ q;exact⟨a,vs,r,.inl g,f⟩
  .cases e
 |_=>cases e
theorem ir(i:RepH K H M)(r:Rp K H d v)(e:aE M d=ap xs):∃p vs,v=.ref p/\(SqL K H p vs\/ic K H p vs)/\Rps K H xs vs:=by
 cases d with
 |tup b=>
  cases e;obtain⟨p,vs,rfl,h,r⟩:=r;exact⟨p,vs,rfl,.inr h.sq,r⟩
 |lst b=>
  cases e;obtain⟨p,vs,rfl,h,r⟩:=r;exact⟨p,vs,rfl,.inl h.sq,r⟩
 |mt b=>
  cases e;obtain⟨p,vs,rfl,h,r⟩:=r;exact⟨p,vs,rfl,.inr h.sq,r⟩
 |ml b=>
  cases e;obtain⟨p,vs,rfl,h,r⟩:=r;exact⟨p,vs,rfl,.inl h.sq,r⟩
 |ref a=>
  simp only[aE]at e
  split at e
  .rename_i b q
   cases e;obtain⟨vs,g,f⟩:=i _ _ q;exact⟨a,vs,r,.inl (SqL.of g),f⟩
  .cases e
 |_=>cases e
theorem G9:cJ X (fy .Add) (λx y H Q=>∃l b xs zs,x=.ref l/\y=.ref b/\Rd H l (.lst xs)/\Rd H b (.lst zs)/\xs.length+zs.length<=sizeLine/\∀p,H p=bb->Q (.ref p) (upd H p<|.lst (xs++zs))):=by
 intro g s Z H x y v u Q I A m h;obtain⟨l,b,xs,zs,rfl,rfl,C,o,L,q⟩:=h;cases A;cases m;obtain⟨z,f,n,r,e⟩:=C.ok I.hok;obtain⟨J,a,F,i,w⟩:=o.ok I.hok;have G:=r.length;have j:=i.length;refine PySem.P.add_list e w ?_ (by rw[Pk,Pk];lia)
 have E:f.toArray++a.toArray=(f++a).toArray:=by simp
 rw[E];exact⟨.ref _,_,I.lnew (t':=s.toks) (r.append i) (by rw[Pz];lia),rfl,q _ I.fresh⟩
def ba:fQ:=λx y M Q=>match x,y with
 |.int i,.int j=>Q (.int (i+j)) M
 |.str a,.str b=>a.length+b.length<=sizeLine/\Q (.str (a++b)) M
 |.tup xs,.tup ys=>xs.length+ys.length<=sizeLine/\Q (.tup (xs++ys)) M
 |x,y=>match eY M x,eY M y with
  |some xs,ap ys=>xs.length+ys.length<=sizeLine/\∀p,M p=bb->Q (.ref p) (M.upd p<|.lst (xs++ys))
  |_,_=>False
theorem F6:cJ X (fy .Add) (liftR2 X ba):=by
 intro Xi s Z H x y v u Q I rx ry h;obtain⟨d1,d2,M,QQ,rh,r1,r2,h,up⟩:=h;unfold ba at h
 split at h
 .cases r1;cases r2
  exact Kn Xi s Z H _ _ v u Q I rx ry ⟨_,_,rfl,rfl,up _ M h _ H rh Frm.refl rfl⟩
 .cases r1;cases r2
  exact vI Xi s Z H _ _ v u Q I rx ry ⟨_,_,rfl,rfl,h.1,up _ M h.2 _ H rh Frm.refl rfl⟩
 .obtain⟨p,vs,rfl,t1,r1⟩:=r1
  obtain⟨p',vs',rfl,t2,r2⟩:=r2;have l1:=r1.length;have l2:=r2.length;have r12:=r1.append r2
  by_cases hx:vs=[]
  .subst hx
   have hu:=up _ M h.2 (.ref p') H rh Frm.refl ⟨p',vs',rfl,t2,r12⟩;exact Bx Xi s Z H _ _ v u Q I rx ry ⟨p,p',vs',rfl,rfl,t1.sq,t2.sq,hu⟩
  .refine EQ Xi s Z H _ _ v u Q I rx ry ⟨p,p',vs,vs',rfl,rfl,t1.sq,t2.sq,hx,by lia,λe=>?_,λ_ q hq=>?_⟩
   .subst e
    rw[P8]at r12;exact up _ M h.2 (.ref p) H rh Frm.refl ⟨p,vs,rfl,t1,r12⟩
   .exact up _ M h.2 _ _ (rh.new hq) (Frm.new hq) ⟨q,_,rfl,upd_same,r12.mono<|Imm.new hq⟩
 .split at h
  .rename_i xs ys e1 e2
   obtain⟨p,vs,rfl,t1,r1⟩:=iE rh r1 e1;obtain⟨p',vs',rfl,t2,r2⟩:=iE rh r2 e2;have l1:=r1.length;have l2:=r2.length;refine G9 Xi s Z H _ _ v u Q I rx ry ⟨p,p',vs,vs',rfl,rfl,t1,t2,by lia,λq hq=>?_⟩
   exact up _ _ (h.2 q<|rh.fresh hq) _ _ (rh.put (by rw[hq];trivial) ⟨_,upd_same,(r1.append r2).mono<|Imm.new hq⟩) (Frm.put<|.inl hq) rfl
  .exact h.elim
def oI(C:Int->Int->Prop)(g:Int->Int->D):fQ:=λx y M Q=>match x,y with
 |.int i,.int j=>C i j/\Q (g i j) M
 |_,_=>False
theorem Bv{f:ay->ay->Sem ay}{C:Int->Int->Prop}{g:Int->Int->V}{g':Int->Int->D}(h:cJ X f (rI C g))(e:∀i j K H,Rp K H (g' i j) (g i j)):cJ X f (liftR2 X<|oI C g'):=by
 intro b s Z H x y v u Q I o m a;obtain⟨z,A,M,QQ,w,l,n,a,q⟩:=a;unfold oI at a
 split at a
 .cases l;cases n
  exact h b s Z H _ _ v u Q I o m ⟨_,_,rfl,rfl,a.1,q _ M a.2 _ H w Frm.refl<|e _ _ _ _⟩
 .exact a.elim
def jS(g:Int->Int->D):fQ:=λx y M Q=>match x,y with
 |.int i,.int j=>Q (g i j) M
 |_,_=>False
theorem jG{f:ay->ay->Sem ay}{g:Int->Int->V}{g':Int->Int->D}(h:cJ X f (AJ g))(e:∀i j K H,Rp K H (g' i j) (g i j)):cJ X f (liftR2 X<|jS g'):=by
 intro b s Z H x y v u Q I o m a;obtain⟨z,A,M,QQ,w,l,n,a,q⟩:=a;unfold jS at a
 split at a
 .cases l;cases n
  exact h b s Z H _ _ v u Q I o m ⟨_,_,rfl,rfl,q _ M a _ H w Frm.refl<|e _ _ _ _⟩
 .exact a.elim
noncomputable abbrev jX:fQ:=jS λi j=>.int (i-j)
theorem FE:cJ X (fy .Sub) (liftR2 X jX):=jG JV λ_ _ _ _=>rfl
noncomputable abbrev fO:fQ:=oI (λ_ j=>0<j) λi j=>.int (i % j)
theorem F0:cJ X (fy .Mod) (liftR2 X fO):=Bv JO λ_ _ _ _=>rfl
def HS(_ j:Int):Prop:=0<j/\j<2 ^ 200
theorem C7:cJ X (fy .FloorDiv) (rI HS λi j=>.int (i / j)):=by
 intro a s Z H x y v u Q I m g h;obtain⟨i,j,rfl,rfl,o,q⟩:=h;obtain⟨w,l⟩:=o;have f:((j.toNat:Nat):Int)=j:=by lia
 refine CM (n:=j.toNat) ?_ (by lia) a s Z H _ _ v u Q I m g ⟨i,j,rfl,rfl,f.symm,q⟩
 have b:j.toNat<2 ^ 200:=by
  have:((j.toNat:Nat):Int)<((2 ^ 200:Nat):Int):=by rw[f,Int.natCast_pow];exact l
  exact Int.ofNat_lt.mp this
 have:=(Nat.log2_lt (n:=j.toNat) (k:=200)<|by lia).mpr b
 lia
noncomputable abbrev uu:fQ:=oI HS λi j=>.int (i / j)
theorem Dd:cJ X (fy .FloorDiv) (liftR2 X uu):=Bv C7 λ_ _ _ _=>rfl
noncomputable abbrev IV:fQ:=oI FS λi j=>.int (i ^ j.toNat)
theorem F3:cJ X (fy .Pow) (liftR2 X IV):=Bv Lc λ_ _ _ _=>rfl
noncomputable abbrev Nh:fQ:=jS λi j=>.int (Builtin.bitXor i j)
theorem ES:cJ X (fy .BitXor) (liftR2 X Nh):=jG Ka λ_ _ _ _=>rfl
noncomputable abbrev A0:fQ:=jS λi j=>.int (Ro i j)
theorem Fo:cJ X (fy .BitAnd) (liftR2 X A0):=jG LO λ_ _ _ _=>rfl
noncomputable abbrev Mi:fQ:=jS λi j=>.int (Tc i j)
theorem Lj:cJ X (fy .BitOr) (liftR2 X Mi):=jG Ob λ_ _ _ _=>rfl
noncomputable abbrev KG:fQ:=oI FS λi j=>.int (i*2 ^ j.toNat)
theorem F1:cJ X (fy .LShift) (liftR2 X KG):=Bv Ld λ_ _ _ _=>rfl
noncomputable abbrev JS:fQ:=oI (λ_ j=>0<=j) λi j=>.int (i / 2 ^ j.toNat)
theorem FW:cJ X (fy .RShift) (liftR2 X JS):=Bv KP λ_ _ _ _=>rfl
noncomputable abbrev y6:fQ:=jS λi j=>.bl (decide (i<j))
theorem Kd:cJ X (hG .Lt) (liftR2 X y6):=jG MD λ_ _ _ _=>rfl
noncomputable abbrev oLe:fQ:=jS λi j=>.bl (decide (i<=j))
theorem Kr:cJ X (hG .LtE) (liftR2 X oLe):=jG N0 λ_ _ _ _=>rfl
noncomputable abbrev E5:fQ:=jS λi j=>.bl (decide (j<i))
theorem Lk:cJ X (hG .Gt) (liftR2 X E5):=jG NL λ_ _ _ _=>rfl
noncomputable abbrev oGe:fQ:=jS λi j=>.bl (decide (j<=i))
theorem K9:cJ X (hG .GtE) (liftR2 X oGe):=jG OI λ_ _ _ _=>rfl
theorem DC{c:Nat}:∀(k:Nat)(Xl:Array Nat),(PN k #[c]).foldl (·++·) Xl=Xl++RH k c
 |0,Xl=>by simp
 |k+1,Xl=>by
  rw[Qg,Qt,DC k (Xl++#[c])];apply Array.ext';simp[Qg]
theorem CI:cJ X (fy .Mult) (λx y H Q=>∃c k,x=.str ⟨#[c]⟩/\y=.int k/\1<=k/\k<=1000/\Q (.str ⟨RH k.toNat c⟩) H):=by
 intro f s Z H x y v u Q I j i h;obtain⟨c,k,rfl,rfl,w,n,q⟩:=h;obtain⟨t,rfl⟩:=j;obtain⟨o,rfl⟩:=i;have a:(⟨#[c]⟩:Str).length=1:=rfl;have m:sizeLine=16777216:=rfl;refine PySem.P.mul_str ?_ ?_ ?_ ?_
 .rw[decide_eq_false (by lia),decide_eq_false (by lia)];rfl
 .intro _ _ l
  rw[a]at l;have:(1:Int)<=(2 ^ 63-1) / k:=Int.le_ediv_of_mul_le (by lia) (by lia)
  lia
 .intro _ _
  rw[a];unfold PySem.Builtin.Str.tooLong;exact decide_eq_false (by lia)
 .rw[if_neg (by lia)]
  by_cases b:k=1
  .rw[if_pos (by rw[b];rfl)]
   subst b;exact⟨.str ⟨#[c]⟩,H,I,⟨_,rfl⟩,q⟩
  .rw[if_neg (by simp[a,b])]
   have g:(PN k.toNat #[c]).foldl (·++·) #[]=RH k.toNat c:=by rw[DC];simp
   refine⟨?_,.str ⟨(PN k.toNat #[c]).foldl (·++·) #[]⟩,H,I.tok _,⟨_,rfl⟩,by rw[g];exact q⟩
   show ((PN k.toNat #[c]).foldl (·++·) #[]).size<=sizeLine;rw[g];simp;lia
def iw:fQ:=λx y M Q=>match x,y with
 |.int i,.int j=>CMul i j/\Q (.int (i*j)) M
 |.str z,.int k=>match z.cps.toList with
  |[c]=>1<=k/\k<=1000/\Q (.str ⟨RH k.toNat c⟩) M
  |_=>False
 |.tup xs,.int k=>xs≠[]/\0<=k/\k<=1000/\xs.length<=1000/\Q (.tup (PN k.toNat xs).flatten) M
 |_,_=>False
theorem Rps.rep{ds:List D}{vs:List V}(h:Rps K H ds vs):∀k:Nat,Rps K H (PN k ds).flatten (PN k vs).flatten
 |0=>rfl
 |k+1=>by
  rw[Qg,Qg,Rr,Rr];exact h.append (Rps.rep h k)
theorem EN:cJ X (fy .Mult) (liftR2 X iw):=by
 intro a s Z H x y v u Q I E A h;obtain⟨S,w,M,QQ,n,f,q,h,m⟩:=h;cases S with
 |int i=>
  cases w with
  |int j=>
   cases f;cases q;exact KI a s Z H _ _ v u Q I E A ⟨_,_,rfl,rfl,h.1,m _ M h.2 _ H n Frm.refl rfl⟩
  |_=>exact(show False from h).elim
 |str z=>
  cases w with
  |int k=>
   cases f;cases q;simp only[iw]at h
   split at h
   .rename_i c e
    have T:z=⟨#[c]⟩:=by
     obtain⟨⟨l⟩⟩:=z;have R:l=[c]:=e;rw[R]
    subst T;exact CI a s Z H _ _ v u Q I E A ⟨_,_,rfl,rfl,h.1,h.2.1,m _ M h.2.2 _ H n Frm.refl rfl⟩
   .exact h.elim
  |_=>exact(show False from h).elim
 |tup xs=>
  cases w with
  |int k=>
   obtain⟨p,g,rfl,t1,f⟩:=f;cases q;obtain⟨F,N,O,h4,J⟩:=h;have l1:=f.length;obtain⟨t,rfl⟩:=A;cases E;obtain⟨C,r,P,_⟩:=I.tuple t1.sq;have Y:=r.length;refine Ak P (λz=>F ?_) N O (by lia) (λe=>?_) λe=>?_
   .have L:C.length=0:=congrArg Rb z
    exact QE (by lia)
   .subst e
    refine⟨.ref p,H,I,rfl,m _ M J _ H n Frm.refl ⟨p,g,rfl,t1,?_⟩⟩;simpa using f
   .have G:H s.heap.objs.size=none:=I.hok.fresh (Pl _)
    have L:(PN k.toNat g).flatten.length<=sizeLine:=by
     rw[FX];have F:k.toNat*g.length<=1000*1000:=Nat.mul_le_mul (by lia) (by lia)
     exact PL F (by decide)
    have i2:Imm H (upd H s.heap.objs.size<|.tup (PN k.toNat g).flatten):=Imm.new G;exact⟨.ref s.heap.objs.size,_,I.laid (t':=s.toks) (o:=.tup (PN k.toNat g).flatten) (λb W z=>Pe _ z) (Pl _) ⟨L,_,r.rep k.toNat,⟨_,Pm _ rfl,⟨rfl,_,rfl⟩,rfl⟩⟩,rfl,
     m _ M J _ _ (n.new G) (Frm.new G) ⟨_,_,rfl,upd_same,(f.rep _).mono i2⟩⟩
  |_=>exact(show False from h).elim
 |_=>exact(show False from h).elim
def fL:D->Bool
 |.non=>true
 |_=>cm
def fP:fQ:=λx y M Q=>match y with
 |.non=>Q (.bl<|fL x) M
 |_=>False
def fh:fQ:=λx y M Q=>match y with
 |.non=>Q (.bl<|!fL x) M
 |_=>False
theorem BQ(r:Rp K H d v):decide (v=V.non)=fL d:=by
 cases d with
 |non=>cases r;rfl
 |tup xs=>obtain⟨p,a,rfl,_⟩:=r;rfl
 |lst xs=>obtain⟨p,a,rfl,_⟩:=r;rfl
 |mt xs=>obtain⟨p,a,rfl,_⟩:=r;rfl
 |ml xs=>obtain⟨p,a,rfl,_⟩:=r;rfl
 |fd ks xs=>obtain⟨p,a,rfl,_⟩:=r;rfl
 |_=>cases r;rfl
theorem yF:cJ X (hG .Is) (liftR2 X fP):=by
 intro a s Z H x y v u Q I i f h;obtain⟨m,n,M,QQ,l,b,g,h,j⟩:=h;unfold fP at h
 split at h
 .cases g
  exact JP a s Z H _ _ v u Q I i f ⟨rfl,by rw[BQ b];exact j _ M h _ H l Frm.refl rfl⟩
 .exact h.elim
theorem DN:cJ X (hG .IsNot) (liftR2 X fh):=by
 intro a s Z H x y v u Q I i f h;obtain⟨m,n,M,QQ,l,b,g,h,j⟩:=h;unfold fh at h
 split at h
 .cases g
  refine G4 a s Z H _ _ v u Q I i f ⟨rfl,j _ M h _ H l Frm.refl ?_⟩;show _=V.bl _;rw[BQ b]
 .exact h.elim
end
section
variable{κ:Type}[DecidableEq κ]
noncomputable def cD(Xk:List (κ×D))(k:κ):Option D:=(Xk.find? λa=>decide (a.1=k)).map (·.2)
noncomputable def dI(Xk:List (κ×D))(k:κ)(v:D):List (κ×D):=
 if (Xk.any λa=>decide (a.1=k))=true then Xk.map (λa=>if a.1=k then (a.1,v) else a) else Xk++[(k,v)]
noncomputable def n_(Xk:List (κ×D))(k:κ):List (κ×D):=Xk.filter λa=>decide (a.1≠k)
theorem Rkv.val{Xk:List (κ×D)}{b:List (κ×V)}(h:Rkv K H Xk b)(k:κ):(cD Xk k=bb/\dY b k=bb)\/∃d v,cD Xk k=ap d/\dY b k=ap v/\Rp K H d v:=by
 induction h with
 |nil=>exact .inl ⟨rfl,rfl⟩
 |@cons p q ps qs r t ih=>
  obtain⟨f,d⟩:=p;obtain⟨g,v⟩:=q;obtain⟨e,r⟩:=r;dsimp only at e r;subst e
  by_cases a:f=k
  .exact .inr ⟨d,v,by simp[cD,a],by simp[dY,a],r⟩
  .simpa [cD,dY,a] using ih
theorem Rkv.any{Xk:List (κ×D)}{a:List (κ×V)}(h:Rkv K H Xk a)(k:κ):(Xk.any λkv=>decide (kv.1=k))=(a.any λkv=>decide (kv.1=k)):=by
 induction h with
 |nil=>rfl
 |cons r t ih=>rw[QC,QC,ih,r.1]
theorem Rkv.put{Xk:List (κ×D)}{f:List (κ×V)}(h:Rkv K H Xk f)(k:κ){d:D}{v:V}(r:Rp K H d v):Rkv K H (dI Xk k d) (dq f k v):=by
 unfold dI dq;rw[h.any k]
 split
 .rename_i q;clear q
  induction h with
  |nil=>exact .nil
  |@cons p q ps qs rr t ih=>
   obtain⟨g,l⟩:=p;obtain⟨j,i⟩:=q;obtain⟨e,b⟩:=rr;dsimp only at e b;subst e;rw[Pc,Pc];refine .cons ?_ ih
   by_cases a:g=k
   .rw[if_pos a,if_pos a];exact⟨rfl,r⟩
   .rw[if_neg a,if_neg a];exact⟨rfl,b⟩
 .rename_i q;clear q
  induction h with
  |nil=>exact .cons ⟨rfl,r⟩ .nil
  |cons rr t ih=>exact .cons rr ih
theorem Rkv.drop{Xk:List (κ×D)}{f:List (κ×V)}(h:Rkv K H Xk f)(k:κ):Rkv K H (n_ Xk k) (gL f k):=by
 unfold n_ gL
 induction h with
 |nil=>exact .nil
 |@cons p q ps qs rr t ih=>
  obtain⟨g,l⟩:=p;obtain⟨j,i⟩:=q;obtain⟨e,b⟩:=rr;dsimp only at e b;subst e
  by_cases a:g=k
  .simpa [a] using ih
  .simp only[PM,ne_eq,a,not_false_eq_true,decide_true,if_true]
   exact .cons ⟨rfl,b⟩ ih
theorem Rkv.length{Xk:List (κ×D)}{a:List (κ×V)}(h:Rkv K H Xk a):Xk.length=a.length:=QT h
end
def cH:D->Option aB
 |.int i=>ap (.inl i)
 |.str x=>ap (.inr x)
 |_=>bb
def eP:List D->Option (List aB)
 |[]=>ap []
 |d::ds=>match cH d,eP ds with
  |some k,ap ks=>ap (k::ks)
  |_,_=>bb
def AG:D->Option (List aB)
 |.tup xs=>eP xs
 |_=>bb
section
theorem gu{d:D}{v:V}{k:aB}(r:Rp K H d v)(e:cH d=ap k):v=kV k:=by
 cases d with
 |int i=>cases e;exact r
 |str x=>cases e;exact r
 |_=>cases e
theorem nv:∀{ds:List D}{vs:List V}{ks:List aB},Rps K H ds vs->eP ds=ap ks->vs=ks.map kV
 |[],vs,ks,r,e=>by cases e;exact r
 |d::ds,vs,ks,r,e=>by
  obtain⟨v,i,rfl,a,b⟩:=r;simp only[eP]at e
  split at e
  .rename_i k f h g
   cases e;rw[gu a h,nv b g];rfl
  .cases e
def tN(M:Mem)(a:ca)(y:D):Option (Option D):=match M a with
 |some (.dK Xk)=>match cH y with
  |some k=>ap (cD Xk k)
  |none=>bb
 |some (.dT Xk)=>match AG y with
  |some k=>ap (cD Xk k)
  |none=>bb
 |_=>bb
theorem ly{d:D}{v:V}{ks:List aB}(r:Rp K H d v)(e:AG d=ap ks):∃b,v=.ref b/\H b=ap (.tup<|ks.map kV):=by
 cases d with
 |tup xs=>
  obtain⟨p,a,rfl,t,r⟩:=r;exact⟨p,rfl,by rw[<- nv r e];exact t⟩
 |_=>cases e
theorem pI{a:ca}{y:D}{v:V}{o:Option D}(q:RepH K H M)(r:Rp K H y v)(e:tN M a y=ap o):
  (o=bb/\DGet H a v bb)\/∃d w,o=ap d/\DGet H a v (ap w)/\Rp K H d w:=by
 unfold tN at e
 split at e
 .rename_i i m
  obtain⟨s,h,l⟩:=q _ _ m
  split at e
  .rename_i k j
   cases e;have u:=gu r j;subst u;rcases l.val k with⟨g,f⟩|⟨d,w,g,f,r'⟩
   .exact .inl ⟨g,by rw[<- f];exact DGet.k h⟩
   .exact .inr ⟨d,w,g,by rw[<- f];exact DGet.k h,r'⟩
  .cases e
 .rename_i i m
  obtain⟨s,h,l⟩:=q _ _ m
  split at e
  .rename_i k j
   cases e;obtain⟨b,rfl,n⟩:=ly r j;rcases l.val k with⟨g,f⟩|⟨d,w,g,f,r'⟩
   .exact .inl ⟨g,by rw[<- f];exact DGet.t h n⟩
   .exact .inr ⟨d,w,g,by rw[<- f];exact DGet.t h n,r'⟩
  .cases e
 .cases e
end
end _3
namespace HT
open PySem PyProof.Rows
section
variable {prog:eC}{w:fe}{A:fv}{E:Xw}{s:cb}
theorem gH{t l:ca}{a:Xz}{p n:ay}{b f:Option Int}{Q:Xw}(e:WM s.heap t a)(q:s.heap.IsSliceOf l p n .none)(pl:Wq p b)(v:Wq n f)
  (o:sIx a.size 0 b=0/\sIx a.size a.size f=a.size) (h:Q (.ref t) s):cp (cT prog w) A (Wr (.ref t)<|.ref l) Q E s:=by
 obtain⟨u,i,g,r⟩:=id q;have j:s.TypeIs (.ref l) "slice":=⟨u,i,g⟩;unfold Wr
 try with_reducible refine n7 ?_
 first|refine ax (cx ?_)|skip
 refine ax (wpAny_sequenceKey e.typeIs (by decide) ?_)
 refine ax (wpAny_callSpecial?_slot (name:=Qq "__getitem__") e.typeIs Ql
  (nT Ql e.typeIs entry_tuple_getitem ?_<|args_tuple_getitem _ _))
 show cp _ _ (Tg (.ref t) >>= _) _ _ s;refine ax (tupleItemsOf_ e ?_);refine ax (Wz j ?_);rw[if_pos (by decide)]
 refine ax (fm q pl v ?_);have c:((((sIx a.size 0 b:Nat):Int)==0&&(1:Int)==1&&(sIx a.size a.size f-sIx a.size 0 b)==a.size)=true):=by
  rw[o.1,o.2];simp
 show cp _ _ (if (((sIx a.size 0 b:Nat):Int)==0&&(1:Int)==1&&(sIx a.size a.size f-sIx a.size 0 b)==a.size)=true then _ else _) _ _ s
 rw[if_pos c];refine ax (m:=Builtin.Tuple.tupleIsExact _) (ax<|wpAny_typeOf e.typeIs<|wpAny_pure ?_);rw[if_pos (by decide)]
 first
  |exact ax (Tk<|wpAny_bind<|wpAny_pure<|wpAny_pure ⟨_,rfl,cx h⟩)
  |exact ax (Tk<|wpAny_pure ⟨_,rfl,cx h⟩)
  |exact ax (Tk<|wpAny_bind<|wpAny_pure ⟨_,rfl,cx h⟩)
  |trace_state
end
end HT
namespace _3
open PySem _2
variable{p p':ca}{A:fv}{a b:Xz}{B:Bd}{X:Cx}{c e tg:eH}{H:Hp}{Z:_2.St}{es:Xu}{Xo its':Xs}{M:Mem}{i n:Nat}{K:Pg}{pos pos':Pos}{s:cb}{x:Str}{u:ay}{tb:aA}{te:bh}{g:ju}{r:uC}
section
variable{a b:eH}{ta tb tc:bh}
def au:fQ:=λx y M Q=>match aE M x,y with
 |some xs,.int i=>match atI xs i with
  |some d=>Q d M
  |none=>False
 |some _,_=>False
 |none,y=>match x,y with
  |.str z,.int i=>z.length<=sizeLine/\match atI z.cps.toList i with
   |some c=>Q (.str ⟨#[c]⟩) M
   |none=>False
  |.ref a,y=>match tN M a y with
   |some (ap d)=>Q d M
   |_=>False
  |_,_=>False
theorem Rps.atI{ds:List D}{vs:List V}{i:Int}{d:D}(r:Rps K H ds vs)(e:atI ds i=ap d):∃v,_2.atI vs i=ap v/\Rp K H d v:=by
 unfold _2.atI at e ⊢;rw[<- r.length];cases q:vh ds.length i with
 |none=>rw[q]at e;cases e
 |some j=>
  rw[q]at e;exact r.get (i:=j) e
theorem xI(E:X.A.units+1<pA):IxR X (λx y H Q=>∃a v,x=.ref a/\DGet H a y (ap v)/\Q v H):=by
 intro l j m s Z H x y v u Q I z o h C;obtain⟨a,w,rfl,g,q⟩:=h;cases z;exact PyProof.Rows.tail_any (t9 I g) PySem.F.slot_dict_getitem.lookup (zQ E I g o λJ G I3 f=>⟨w,H,I3,f,q⟩) C
theorem KB(U:X.A.units+1<pA):IxR X (liftR2 X au):=by
 intro j f l s Z H x y v u Q I L G h N;obtain⟨d1,Y,M,QQ,q,C,E,h,F⟩:=h;unfold au at h
 split at h
 .rename_i W i e
  split at h
  .rename_i d J
   cases E;obtain⟨p,P,rfl,hq,r⟩:=ir q C e;obtain⟨w,O,m⟩:=r.atI J;refine IL j f l s Z H _ _ v u Q I L G ?_ N;have o:=F _ M h _ H q Frm.refl m;rcases hq with hq|hq
   .exact .inl ⟨p,P,i,w,rfl,rfl,hq,O,o⟩
   .exact .inr (.inl ⟨p,P,i,w,rfl,rfl,hq,O,o⟩)
  .exact h.elim
 .exact h.elim
 .split at h
  .obtain⟨S,h⟩:=h
   split at h
   .rename_i R T
    cases C;cases E;exact B9 j f l s Z H _ _ v u Q I L G ⟨_,_,R,rfl,rfl,S,T,F _ M h _ H q Frm.refl rfl⟩ N
   .exact h.elim
  .split at h
   .rename_i d J
    cases C;rcases pI q E J with⟨z,_⟩|⟨d',w,z,g,m⟩
    .cases z
    .cases z
     exact xI U j f l s Z H _ _ v u Q I L G ⟨_,w,rfl,g,F _ M h _ H q Frm.refl m⟩ N
   .exact h.elim
  .exact h.elim
noncomputable abbrev Hv:=Dl->Mem->(Option Int->Mem->Prop)->Prop
inductive liftO(X:Cx)(B:Bd)(T:Hv)(Z:St)(H:Hp)(Q:Option Int->Hp->Prop):Prop
 |mk (U:Dl) (M:Mem) (QQ:Option Int->Mem->Prop) (s:SR X B U M Z H) (h:T U M QQ) (u:∀o M',QQ o M'->∀H',RepH X.K H' M'->Frm M H M' H'->Q o H'):liftO X B T Z H Q
def DO(X:Cx)(B:Bd)(e:Option eH)(T:Hv):Prop:=PO X e (liftO X B T)
theorem xk{e:Option eH}{t t':TO}(h:PO X e t)(w:∀Z H Q,t' Z H Q->t Z H Q):PO X e t':=λf s Z H Q I q=>h f s Z H Q I (w Z H Q q)
def b_:Hv:=λ_ M Q=>Q bb M
def dG(t:bh):Hv:=λU M Q=>t U M λx M1=>match x with
 |.int i=>Q (ap i) M1
 |_=>False
theorem EB:DO X B bb b_:=xk G2 λZ H Q ⟨U,M,QQ,s,h,u⟩=>u bb M h H s.rh Frm.refl
theorem ET(h:DE X B e te):DO X B (ap e) (dG te):=by
 refine xk (Ev h) ?_
 rintro Z H Q ⟨U,M,QQ,s,h,u⟩
 refine⟨U,M,_,s,h,λd M' q v H' f i r=>?_⟩;cases d with
 |int j=>exact⟨j,r,u _ M' q H' f i⟩
 |_=>exact(show False from q).elim
noncomputable def jR(xs:List D)(lo hi:Option Int):List D:=(xs.drop<|HT.sIx xs.length 0 lo).take (HT.sIx xs.length xs.length hi-HT.sIx xs.length 0 lo)
theorem Rps.cut{ds:List D}{vs:List V}(r:Rps K H ds vs)(f h:Option Int):Rps K H (jR ds f h) (jU vs f h):=by
 unfold jR jU;rw[<- r.length];exact(r.drop _).take _
def Me(x:D)(lo hi:Option Int)(M:Mem)(Q:DK):Prop:=match x with
 |.tup xs=>Q (.tup<|jR xs lo hi) M
 |.ml xs=>∀p,M p=bb->Q (.ref p) (M.upd p<|.lst<|jR xs lo hi)
 |x=>match eY M x with
  |some xs=>∀p,M p=bb->Q (.ref p) (M.upd p<|.lst<|jR xs lo hi)
  |none=>False
inductive liftSl(X:Cx)(x:V)(lo hi:Option Int)(H:Hp)(Q:VK):Prop
 |mk (d:D) (M:Mem) (QQ:DK) (rh:RepH X.K H M) (r:Rp X.K H d x) (h:Me d lo hi M QQ) (u:Up X.K M H QQ Q):liftSl X x lo hi H Q
theorem wL{vs:List V}{f j:Option Int}(h:HT.sIx vs.length 0 f=0/\HT.sIx vs.length vs.length j=vs.length):jU vs f j=vs:=by
 unfold jU;rw[h.1,h.2];simp
theorem Eb:N6 X (λx lo hi H Q=>∃a xs,x=.ref a/\ic X.K H a xs/\(jU xs lo hi=xs->Q (.ref a) H)/\∀p,H p=bb->Q (.ref p) (upd H p<|.tup<|jU xs lo hi)):=by
 intro f s Z H x v E F lo hi C Q I o w pl z h;obtain⟨a,xs,rfl,m,G,q⟩:=h
 by_cases l:HT.sIx xs.length 0 lo=0/\HT.sIx xs.length xs.length hi=xs.length
 .cases o
  obtain⟨Xo,r,y,J⟩:=I.tuple m;have j:Xo.toArray.size=xs.length:=by rw[Pk];exact r.length.symm
  refine⟨"tuple",_,Ql.lookup,y.typeIs,?_⟩;exact HT.gH y w pl z (by rw[j];exact l) ⟨.ref a,H,I,rfl,G<|wL l⟩
 .exact JM f s Z H _ v E F lo hi C Q I o w pl z ⟨a,xs,rfl,m,l,q⟩
end
section
variable{lo hi:Option eH}{tl th:Hv}{p2 p:Pos}{t:eQ}
theorem Jw:N6 X (liftSl X):=by
 intro Xi s Z H x v vl vu lo hi sl Q I rx hs pl pu h;obtain⟨d,M,QQ,rh,r,h,up⟩:=h;unfold Me at h
 split at h
 .obtain⟨a,vs,rfl,ht,r⟩:=r
  refine Eb Xi s Z H _ v vl vu lo hi sl Q I rx hs pl pu ⟨a,vs,rfl,ht.sq,λe=>?_,λp hp=>?_⟩
  .exact up _ M h _ H rh Frm.refl ⟨a,vs,rfl,ht,by rw[<- e];exact r.cut lo hi⟩
  .exact up _ M h _ _ (rh.new hp) (Frm.new hp) ⟨p,_,rfl,upd_same,(r.cut lo hi).mono<|Imm.new hp⟩
 .obtain⟨a,vs,rfl,hq,r⟩:=r
  refine yJ Xi s Z H _ v vl vu lo hi sl Q I rx hs pl pu ⟨a,vs,rfl,hq.sq,λp hp=>?_⟩;exact up _ _ (h p<|rh.fresh hp) _ _ (rh.put (by rw[hp];trivial) ⟨_,upd_same,(r.cut lo hi).mono<|Imm.new hp⟩) (Frm.put<|.inl hp) rfl
 .split at h
  .rename_i xs e
   obtain⟨a,vs,rfl,hq,r⟩:=iE rh r e;refine yJ Xi s Z H _ v vl vu lo hi sl Q I rx hs pl pu ⟨a,vs,rfl,.inl hq,λp hp=>?_⟩;exact up _ _ (h p<|rh.fresh hp) _ _ (rh.put (by rw[hp];trivial) ⟨_,upd_same,(r.cut lo hi).mono<|Imm.new hp⟩) (Frm.put<|.inl hp) rfl
  .exact h.elim
def xJ(te:bh)(tl th:Hv):bh:=λU M Q=>te U M λx M1=>tl U M1 λl M2=>th U M2 λu M3=>Me x l u M3 Q
theorem Bh(C:DE X B e te)(z:DO X B lo tl)(E:DO X B hi th):DE X B (.Subscript e (.Slice lo hi bb p2) pos) (xJ te tl th):=by
 refine aW (Dc Jw C z E) ?_
 rintro Z H Q ⟨U,M,QQ,s,h,u⟩
 refine⟨U,M,_,s,h,λx M1 v v1 H1 f i1 o=>?_⟩;refine⟨U,M1,_,s.go f i1,v,λl M2 q H2 m i2=>?_⟩;refine⟨U,M2,_,s.go m (i1.trans i2),q,λw M3 y H3 j i3=>?_⟩;exact⟨x,M3,QQ,j,o.mf f (i2.trans i3),y,u.go<|(i1.trans i2).trans i3⟩
noncomputable abbrev uC:=List D->Mem->DK->Prop
inductive liftC(X:Cx)(r:uC)(xs:List V)(H:Hp)(Q:VK):Prop
 |mk (ds:List D) (M:Mem) (QQ:DK) (rh:RepH X.K H M) (rp:Rps X.K H ds xs) (h:r ds M QQ) (u:Up X.K M H QQ Q):liftC X r xs H Q
def br(r:uC)(t:eQ):bh:=λU M Q=>t U M λf M1=>r f M1 Q
theorem ze{Q:VK}(h:liftE X B (br r t) Z H Q):tCB (liftC X r) (liftA X B t) Z H Q:=by
 obtain⟨U,M,QQ,s,h,u⟩:=h;refine⟨U,M,_,s,h,λl M1 m o H1 f i1 j=>?_⟩;exact⟨l,M1,QQ,f,j,m,u.go i1⟩
theorem DB{id:String}(o:bO X (.builtin id) (liftC X r))(l:Gl X x)(q:X.mg x=bb)(j:eT x=ap (.builtin id))(m:DA X B (e::es) t)(f:x≠"__name__":=by decide)(hdb:(x==("__debug__":Str))=false:=by decide)(he:cy (e::es) X.env=(cm,eX e X.env)::cy es X.env:=by rfl)(hpl:(g3 pos<|starEach es X.env).any (·.1)=false:=by rfl):DE X B (.Call (.Name x p) (e::es) [] pos) (br r t):=
 aW (BP o l q j m f hdb he hpl) λ_ _ _ h=>ze h
theorem Ae{T:String}(o:bO X (.type T) (liftC X r))(l:Gl X x)(q:X.mg x=bb)(j:eT x=ap (.type T))(m:DA X B (e::es) t)(f:x≠"__name__":=by decide)(hdb:(x==("__debug__":Str))=false:=by decide)(he:cy (e::es) X.env=(cm,eX e X.env)::cy es X.env:=by rfl)(hpl:(g3 pos<|starEach es X.env).any (·.1)=false:=by rfl):DE X B (.Call (.Name x p) (e::es) [] pos) (br r t):=
 aW (zF o l q j m f hdb he hpl) λ_ _ _ h=>ze h
theorem ib{ds:List D}{vs:List V}{d:D}(r:Rps K H [d] vs):∃v,vs=[v]/\Rp K H d v:=by
 obtain⟨v,w,rfl,a,b⟩:=r;cases b;exact⟨v,rfl,a⟩
theorem Et{vs:List V}{d e:D}(r:Rps K H [d,e] vs):∃v w,vs=[v,w]/\Rp K H d v/\Rp K H e w:=by
 obtain⟨v,w,rfl,a,b⟩:=r;obtain⟨h,j,rfl,f,b⟩:=b;cases b;exact⟨v,h,rfl,a,f⟩
def bY:uC:=λf M Q=>match f with
 |[d]=>match aE M d with
  |some xs=>Q (.int xs.length) M
  |none=>match d with
   |.str z=>z.length<=sizeLine/\Q (.int z.length) M
   |.ref a=>match M a with
    |some (.dK Xk)=>Q (.int Xk.length) M
    |_=>False
   |_=>False
 |_=>False
theorem Ab:bO X (.builtin "len") (liftC X bY):=by
 intro f s Z H L m Q I r h;obtain⟨ds,M,QQ,j,w,h,l⟩:=h;unfold bY at h
 split at h
 .obtain⟨v,rfl,o⟩:=ib (ds:=[]) w
  split at h
  .rename_i N e
   obtain⟨q,J,rfl,G,F⟩:=ir j o e;exact qH f s Z H _ m Q I r ⟨q,J,rfl,G,by rw[<- F.length];exact l _ M h _ H j Frm.refl rfl⟩
  .split at h
   .cases o
    exact sk f s Z H _ m Q I r ⟨_,rfl,h.1,l _ M h.2 _ H j Frm.refl rfl⟩
   .split at h
    .rename_i y e
     cases o;obtain⟨E,C,z⟩:=j _ _ e;exact As f s Z H _ m Q I r ⟨_,E,rfl,C,by rw[<- z.length];exact l _ M h _ H j Frm.refl rfl⟩
    .exact h.elim
   .exact h.elim
 .exact h.elim
def fk:uC:=λf M Q=>match f with
 |[d]=>match aE M d with
  |some xs=>∀p,M p=bb->Q (.ref p) (M.upd p<|.lst xs)
  |none=>False
 |_=>False
theorem wx:bO X (.type "list") (liftC X fk):=by
 intro Xi s Z H xs us Q I r h;obtain⟨ds,M,QQ,rh,rp,h,up⟩:=h;unfold fk at h
 split at h
 .obtain⟨v,rfl,rv⟩:=ib (ds:=[]) rp
  split at h
  .rename_i ys e
   obtain⟨q,vs,rfl,hq,rr⟩:=ir rh rv e;refine sH Xi s Z H _ us Q I r ⟨q,vs,rfl,hq,λp hp=>?_⟩;exact up _ _ (h p<|rh.fresh hp) _ _ (rh.put (by rw[hp];trivial) ⟨_,upd_same,rr.mono<|Imm.new hp⟩) (Frm.put<|.inl hp) rfl
  .exact h.elim
 .exact h.elim
def bA:uC:=λf M Q=>match f with
 |[.tup xs]=>Q (.tup xs) M
 |[d]=>match eY M d with
  |some xs=>Q (.tup xs) M
  |none=>False
 |_=>False
theorem uG:bO X (.type "tuple") (liftC X bA):=by
 intro f s Z H G E Q I r h;obtain⟨ds,M,QQ,o,y,h,z⟩:=h;unfold bA at h
 split at h
 .obtain⟨v,rfl,w⟩:=ib (ds:=[]) y
  obtain⟨q,j,rfl,C,m⟩:=w;exact gP f s Z H _ E Q I r ⟨q,j,rfl,.inr ⟨C.sq,z _ M h _ H o Frm.refl ⟨q,j,rfl,C,m⟩⟩⟩
 .obtain⟨v,rfl,w⟩:=ib (ds:=[]) y
  split at h
  .rename_i J e
   obtain⟨q,j,rfl,F,m⟩:=iE o w e;refine gP f s Z H _ E Q I r ⟨q,j,rfl,.inl ⟨.inl F,λp l=>?_⟩⟩;exact z _ M h _ _ (o.new l) (Frm.new l) ⟨p,_,rfl,upd_same,m.mono<|Imm.new l⟩
  .exact h.elim
 .exact h.elim
def df(M:Mem):D->Option String
 |.non=>ap "NoneType"
 |.bl _=>ap "bool"
 |.int _=>ap "int"
 |.str _=>ap "str"
 |.tup _=>ap "tuple"
 |.lst _=>ap "list"
 |.ref a=>match M a with
  |some (.lst _)=>ap "list"
  |some (.dK _)=>ap "dict"
  |some (.dT _)=>ap "dict"
  |_=>bb
 |_=>bb
noncomputable def bt(t T:String):Bool:=t==T||(t=="bool"&&T=="int")
noncomputable def m8(T:String):Bool:=T=="bool"||T=="int"||T=="str"||T=="tuple"||T=="list"||T=="dict"
theorem FR:(∀K:Pg,∀t∈["NoneType","bool","int","str","tuple","list","dict"],∀T∈["bool","int","str","tuple","list","dict"],W.kitOne K (.type t) (.type T)=ap (bt t T)):=by
 intro K t h T f;simp only[Po,QL,or_false]at h f;rcases h with rfl|rfl|rfl|rfl|rfl|rfl|rfl<;>rcases f with rfl|rfl|rfl|rfl|rfl|rfl<;>kernel_rfl
theorem Ga{d:D}{v:V}{t:String}(j:RepH K H M)(r:Rp K H d v)(e:df M d=ap t):TyOf K H v (.type t)/\t∈["NoneType","bool","int","str","tuple","list","dict"]:=by
 cases d with
 |non=>cases r;cases e;exact⟨.non,by simp⟩
 |bl b=>cases r;cases e;exact⟨.bl b,by simp⟩
 |int i=>cases r;cases e;exact⟨.int i,by simp⟩
 |str x=>cases r;cases e;exact⟨.str x,by simp⟩
 |ty n=>cases e
 |mt n=>cases e
 |ml n=>cases e
 |fd _ _=>cases e
 |tup xs=>
  cases e;obtain⟨q,y,rfl,h,w⟩:=r;exact⟨.tup h,by simp⟩
 |lst xs=>
  cases e;obtain⟨q,y,rfl,⟨o,h⟩,w⟩:=r;exact⟨.frz h,by simp⟩
 |ref a=>
  cases r;simp only[df]at e
  split at e
  .rename_i q;cases e;obtain⟨m,f,l⟩:=j _ _ q;exact⟨.lst f,by simp⟩
  .rename_i q;cases e;obtain⟨m,f,l⟩:=j _ _ q;exact⟨.dK f,by simp⟩
  .rename_i q;cases e;obtain⟨m,f,l⟩:=j _ _ q;exact⟨.dT f,by simp⟩
  .cases e
def cG:uC:=λf M Q=>match f with
 |[d,.ty T]=>m8 T=true/\match df M d with
  |some t=>Q (.bl<|bt t T) M
  |none=>False
 |_=>False
theorem pF:bO X (.builtin "isinstance") (liftC X cG):=by
 intro f s Z H E z Q I r h;obtain⟨F,M,QQ,m,o,h,q⟩:=h;unfold cG at h
 split at h
 .rename_i d T
  obtain⟨l,h⟩:=h;obtain⟨v,w,rfl,C,j⟩:=Et o;cases j
  split at h
  .rename_i t e
   obtain⟨ty,y⟩:=Ga m C e;refine tG f s Z H _ z Q I r ⟨v,T,.type t,_,rfl,ty,FR X.K t y T ?_,q _ M h _ H m Frm.refl rfl⟩;simp only[m8,Ta,beq_iff_eq]at l;simp only[Po,QL,or_false];rcases l with ((((h|h)|h)|h)|h)|h<;>simp[h]
  .exact h.elim
 .exact h.elim
def pf:List D->Option (List Bool)
 |[]=>ap []
 |.bl b::ds=>match pf ds with
  |some bs=>ap (b::bs)
  |none=>bb
 |_=>bb
theorem og:∀{ds:List D}{vs:List V}{bs:List Bool},Rps K H ds vs->pf ds=ap bs->vs=bs.map V.bl
 |[],vs,bs,r,e=>by cases e;exact r
 |d::ds,vs,bs,r,e=>by
  obtain⟨v,j,rfl,a,b⟩:=r;cases d with
  |bl c=>
   simp only[pf]at e
   split at e
   .rename_i h f
    cases e;cases a;rw[og b f];rfl
   .cases e
  |_=>cases e
def Ku:uC:=λf M Q=>match f with
 |[d]=>match eY M d with
  |some xs=>match pf xs with
   |some bs=>Q (.bl<|bs.all id) M
   |none=>False
  |none=>False
 |_=>False
theorem zN(F:X.calm=true):bO X (.builtin "all") (liftC X Ku):=by
 intro f s Z H G y Q I r h;obtain⟨ds,M,QQ,j,l,h,o⟩:=h;unfold Ku at h
 split at h
 .obtain⟨v,rfl,C⟩:=ib (ds:=[]) l
  split at h
  .rename_i J e
   split at h
   .rename_i bs E
    obtain⟨q,L,rfl,z,w⟩:=iE j C e;have m:=og w E;subst m;exact C8 F f s Z H _ y Q I r ⟨q,bs,rfl,.inl z,o _ M h _ H j Frm.refl rfl⟩
   .exact h.elim
  .exact h.elim
 .exact h.elim
def CJ:uC:=λf M Q=>match f with
 |[.int i,.int j]=>Q (.int (if j<i then j else i)) M
 |_=>False
theorem Av(z:X.calm=true):bO X (.builtin "min") (liftC X CJ):=by
 intro f s Z H C o Q I r h;obtain⟨E,M,QQ,q,l,h,m⟩:=h;unfold CJ at h
 split at h
 .obtain⟨v,w,rfl,y,j⟩:=Et l
  cases y;cases j;exact Az z f s Z H _ o Q I r ⟨_,_,rfl,m _ M h _ H q Frm.refl rfl⟩
 .exact h.elim
def EJ:uC:=λf M Q=>match f with
 |[.int i,.int j]=>Q (.int (if j>i then j else i)) M
 |_=>False
theorem zR(z:X.calm=true):bO X (.builtin "max") (liftC X EJ):=by
 intro f s Z H C o Q I r h;obtain⟨E,M,QQ,q,l,h,m⟩:=h;unfold EJ at h
 split at h
 .obtain⟨v,w,rfl,y,j⟩:=Et l
  cases y;cases j;exact zW z f s Z H _ o Q I r ⟨_,_,rfl,m _ M h _ H q Frm.refl rfl⟩
 .exact h.elim
end
mutual
def aN:D->D->Bool
 |.non,.non=>true
 |.bl a,.bl b=>a==b
 |.bl a,.int b=>(if a then 1 else 0)==b
 |.int a,.bl b=>a==(if b then 1 else 0)
 |.int a,.int b=>decide (a=b)
 |.str a,.str b=>decide (a=b)
 |.tup xs,.tup ys=>e_ xs ys
 |.lst xs,.lst ys=>e_ xs ys
 |_,_=>cm
def e_:List D->List D->Bool
 |[],[]=>true
 |x::xs,y::ys=>aN x y&&e_ xs ys
 |_,_=>cm
end
mutual
def bF:Nat->D->Bool
 |_,.non=>true
 |_,.bl _=>true
 |_,.int _=>true
 |_,.str _=>true
 |n+1,.tup xs=>fits n xs
 |n+1,.lst xs=>fits n xs
 |_,_=>cm
def fits:Nat->List D->Bool
 |_,[]=>true
 |n,x::xs=>bF n x&&fits n xs
end
mutual
def Hr(h:fx):D->ay->Prop
 |.non,u=>u=.none
 |.bl b,u=>u=.bool b
 |.int i,u=>∃t,u=.int i t
 |.str x,u=>∃t,u=.str x t
 |.tup xs,u=>∃p Xo,u=.ref p/\h.IsTuple p (List.toArray Xo)/\Hrs h xs Xo
 |.lst xs,u=>∃p Xo,u=.ref p/\h.IsList p (List.toArray Xo)/\Hrs h xs Xo
 |_,_=>False
def Hrs(h:fx):List D->List ay->Prop
 |[],us=>us=[]
 |x::xs,us=>∃u r,us=u::r/\Hr h x u/\Hrs h xs r
end
section
variable{h:fx}
theorem Hrs.length:∀{ds:List D}{us:Xs},Hrs h ds us->ds.length=us.length
 |[],_,q=>by cases q;rfl
 |_::_,_,q=>by obtain⟨v,r,rfl,_,b⟩:=q;simp[b.length]
theorem Hrs.get:∀{ds:List D}{us:Xs},Hrs h ds us->∀(i:Nat)(f:i<ds.length)(j:i<us.length),Hr h ds[i] us[i]
 |[],_,_,i,f,_=>absurd f (RJ _)
 |x::xs,_,q,i,f,j=>by
  obtain⟨v,r,rfl,a,b⟩:=q;cases i with
  |zero=>exact a
  |succ i=>exact b.get i (by simpa using f) (by simpa using j)
theorem yD(x:h.IsTuple p a)(y:h.IsTuple p b):a=b:=by
 obtain⟨o,m,_,n,l⟩:=x;obtain⟨v,j,_,q,f⟩:=y;rw[m]at j;cases j;rw[l]at f
 injection f with e _
theorem zh(x:h.IsList p a)(y:h.IsList p b):a=b:=by
 obtain⟨o,m,_,n,l⟩:=x;obtain⟨v,j,_,q,f⟩:=y;rw[m]at j;cases j;rw[l]at f
 injection f with e _
theorem OM(x:h.IsList p a)(y:h.IsTuple p b):False:=by
 obtain⟨o,l,c,_⟩:=x;obtain⟨m,f,j,_⟩:=y;rw[l]at f;cases f;rw[c]at j
 injection j with e
 exact absurd e (by decide)
mutual
theorem CU:∀{d e:D}{u:ay},Hr h d u->Hr h e u->d=e
 |.non,e,u,a,b=>by
  cases a;cases e with
  |non=>rfl
  |bl _=>cases b
  |int _=>obtain⟨t,q⟩:=b;cases q
  |str _=>obtain⟨t,q⟩:=b;cases q
  |tup _=>obtain⟨p,i,q,_⟩:=b;cases q
  |lst _=>obtain⟨p,i,q,_⟩:=b;cases q
  |_=>exact(show False from b).elim
 |.bl c,e,u,a,b=>by
  cases a;cases e with
  |non=>cases b
  |bl _=>cases b;rfl
  |int _=>obtain⟨t,q⟩:=b;cases q
  |str _=>obtain⟨t,q⟩:=b;cases q
  |tup _=>obtain⟨p,i,q,_⟩:=b;cases q
  |lst _=>obtain⟨p,i,q,_⟩:=b;cases q
  |_=>exact(show False from b).elim
 |.int c,e,u,a,b=>by
  obtain⟨t,rfl⟩:=a;cases e with
  |non=>cases b
  |bl _=>cases b
  |int _=>obtain⟨t,q⟩:=b;cases q;rfl
  |str _=>obtain⟨t,q⟩:=b;cases q
  |tup _=>obtain⟨p,i,q,_⟩:=b;cases q
  |lst _=>obtain⟨p,i,q,_⟩:=b;cases q
  |_=>exact(show False from b).elim
 |.str c,e,u,a,b=>by
  obtain⟨t,rfl⟩:=a;cases e with
  |non=>cases b
  |bl _=>cases b
  |int _=>obtain⟨t,q⟩:=b;cases q
  |str _=>obtain⟨t,q⟩:=b;cases q;rfl
  |tup _=>obtain⟨p,i,q,_⟩:=b;cases q
  |lst _=>obtain⟨p,i,q,_⟩:=b;cases q
  |_=>exact(show False from b).elim
 |.tup xs,e,u,a,b=>by
  obtain⟨p,Xo,rfl,t1,j⟩:=a;cases e with
  |non=>cases b
  |bl _=>cases b
  |int _=>obtain⟨t,q⟩:=b;cases q
  |str _=>obtain⟨t,q⟩:=b;cases q
  |tup ys=>
   obtain⟨p',its',q,t2,f⟩:=b;cases q;have e:=yD t1 t2;have l:Xo=its':=by simpa using congrArg Sf e
   subst l;rw[iX j f]
  |lst ys=>obtain⟨p',its',q,t2,f⟩:=b;cases q;exact(OM t2 t1).elim
  |_=>exact(show False from b).elim
 |.lst xs,e,u,a,b=>by
  obtain⟨p,Xo,rfl,t1,j⟩:=a;cases e with
  |non=>cases b
  |bl _=>cases b
  |int _=>obtain⟨t,q⟩:=b;cases q
  |str _=>obtain⟨t,q⟩:=b;cases q
  |lst ys=>
   obtain⟨p',its',q,t2,f⟩:=b;cases q;have e:=zh t1 t2;have l:Xo=its':=by simpa using congrArg Sf e
   subst l;rw[iX j f]
  |tup ys=>obtain⟨p',its',q,t2,f⟩:=b;cases q;exact(OM t1 t2).elim
  |_=>exact(show False from b).elim
 |.ty _,_,_,a,_=>(show False from a).elim
 |.ref _,_,_,a,_=>(show False from a).elim
 |.mt _,_,_,a,_=>(show False from a).elim
 |.ml _,_,_,a,_=>(show False from a).elim
 |.fd _ _,_,_,a,_=>(show False from a).elim
theorem iX:∀{ds es:List D}{us:Xs},Hrs h ds us->Hrs h es us->ds=es
 |[],es,us,a,b=>by
  cases a;cases es with
  |nil=>rfl
  |cons _ _=>obtain⟨v,r,q,_⟩:=b;cases q
 |d::ds,es,us,a,b=>by
  obtain⟨v,r,rfl,f,m⟩:=a;cases es with
  |nil=>cases b
  |cons e es=>
   obtain⟨w,o,q,l,j⟩:=b;cases q;rw[CU f l,iX m j]
end
mutual
theorem D5:∀{n:Nat}{d:D},bF n d=true->aN d d=true
 |_,.non,_=>by simp[aN]
 |_,.bl _,_=>by simp[aN]
 |_,.int _,_=>by simp[aN]
 |_,.str _,_=>by simp[aN]
 |0,.tup _,f=>by simp[bF]at f
 |0,.lst _,f=>by simp[bF]at f
 |n+1,.tup xs,f=>by rw[aN];exact eV (n:=n) f
 |n+1,.lst xs,f=>by rw[aN];exact eV (n:=n) f
 |_,.ty _,f=>by simp[bF]at f
 |_,.ref _,f=>by simp[bF]at f
 |_,.mt _,f=>by simp[bF]at f
 |_,.ml _,f=>by simp[bF]at f
 |_,.fd _ _,f=>by simp[bF]at f
theorem eV:∀{n:Nat}{ds:List D},fits n ds=true->e_ ds ds=true
 |_,[],_=>by simp[e_]
 |n,x::xs,f=>by
  rw[fits,QM]at f;rw[e_,D5 f.1,eV f.2];rfl
end
theorem cq:∀{xs ys:List D},xs.length≠ys.length->e_ xs ys=cm
 |[],[],h=>absurd rfl h
 |[],_::_,_=>by simp[e_]
 |_::_,[],_=>by simp[e_]
 |x::xs,y::ys,h=>by rw[e_,cq (by simpa using h),RP]
theorem i_:∀(xs ys:List D)(f:Nat->Bool),xs.length=ys.length->(∀j (h1:j<xs.length)(h2:j<ys.length),f j=aN xs[j] ys[j])->(PD xs.length).all f=e_ xs ys
 |[],[],f,_,_=>by simp[e_]
 |[],_::_,_,h,_=>by simp at h
 |_::_,[],_,h,_=>by simp at h
 |x::xs,y::ys,f,h,hf=>by
  have l:=hf 0 (by simp) (by simp)
  have m:=i_ xs ys (λj=>f (j+1)) (by simpa using h) (λj h1 h2=>hf (j+1) (by simpa using h1) (by simpa using h2))
  rw[Pu,List.range_succ_eq_map,List.all_cons,List.all_map,e_,<- m];simp only[UN]at l;rw[l];rfl
theorem dQ:∀{n:Nat}{xs:List D},fits n xs=true->∀(j:Nat)(l:j<xs.length),bF n xs[j]=true
 |_,[],_,j,l=>absurd l (RJ _)
 |n,x::xs,f,j,l=>by
  rw[fits,QM]at f;cases j with
  |zero=>exact f.1
  |succ j=>exact dQ f.2 j (by simpa using l)
noncomputable def lL:D->Option V
 |.non=>ap .non
 |.bl b=>ap (.bl b)
 |.int i=>ap (.int i)
 |.str x=>ap (.str x)
 |_=>bb
theorem kQ{d:D}{v:V}(e:lL d=ap v)(r:Hr h d u):RelV v u/\BF v=true:=by
 cases d with
 |non=>cases e;exact⟨r,rfl⟩
 |bl b=>cases e;exact⟨r,rfl⟩
 |int b=>cases e;exact⟨r,rfl⟩
 |str b=>cases e;exact⟨r,rfl⟩
 |_=>cases e
theorem uP{d e:D}{v w:V}(j:lL d=ap v)(f:lL e=ap w):sI v w=aN d e:=by
 cases d with
 |non=>cases j;cases e with|non=>cases f;simp[sI,aN]|bl b=>cases f;simp[sI,aN]|int b=>cases f;simp[sI,aN]|str b=>cases f;simp[sI,aN]|_=>cases f
 |bl a=>cases j;cases e with|non=>cases f;simp[sI,aN]|bl b=>cases f;simp[sI,aN]|int b=>cases f;simp[sI,aN]|str b=>cases f;simp[sI,aN]|_=>cases f
 |int a=>cases j;cases e with|non=>cases f;simp[sI,aN]|bl b=>cases f;simp[sI,aN]|int b=>cases f;simp[sI,aN];rfl|str b=>cases f;simp[sI,aN]|_=>cases f
 |str a=>cases j;cases e with|non=>cases f;simp[sI,aN]|bl b=>cases f;simp[sI,aN]|int b=>cases f;simp[sI,aN]|str b=>cases f;simp[sI,aN];rfl|_=>cases f
 |_=>cases j
end
theorem Iv:∀(n:Nat){A:fv}{s:cb}{d e:D}{u w:ay},Hr s.heap d u->Hr s.heap e w->bF n d=true->bF n e=true->A.units+n<pA->SX A s u w (aN d e):=by
 intro n
 induction n with
 |zero=>
  intro A s d e u w l h fd N hu;have S:∃v,lL d=ap v:=by cases d<;>first|exact⟨_,rfl⟩|(simp[bF]at fd)
  have T:∃v,lL e=ap v:=by cases e<;>first|exact⟨_,rfl⟩|(simp[bF]at N)
  obtain⟨v1,J⟩:=S;obtain⟨v2,R⟩:=T;obtain⟨U,b1⟩:=kQ J l;obtain⟨W,b2⟩:=kQ R h;rw[<- uP J R];exact Ct U W b1 b2
 |succ n ih=>
  intro A s d e u w l h fd N hu;have f:A.units<cLine:=by lia
  have O:A.in1.units+n<cLine:=by show A.units+1+n<pA;lia
  by_cases S:∃v,lL d=ap v
  .obtain⟨v1,J⟩:=S
   obtain⟨U,b1⟩:=kQ J l
   by_cases T:∃v,lL e=ap v
   .obtain⟨v2,R⟩:=T
    obtain⟨W,b2⟩:=kQ R h;rw[<- uP J R];exact Ct U W b1 b2
   .cases e with
    |tup ys=>
     obtain⟨p,Xo,rfl,t,_⟩:=h;cases d with
     |non=>cases l;simp only[aN];exact .none_tuple t f
     |bl b=>cases l;simp only[aN];exact .bool_tuple b t f
     |int b=>obtain⟨m,rfl⟩:=l;simp only[aN];exact .int_tuple b m t f
     |str b=>obtain⟨m,rfl⟩:=l;simp only[aN];exact .str_tuple b m t f
     |_=>cases J
    |lst ys=>
     obtain⟨p,Xo,rfl,t,_⟩:=h;cases d with
     |non=>cases l;simp only[aN];exact .none_list t f
     |bl b=>cases l;simp only[aN];exact .bool_list b t f
     |int b=>obtain⟨m,rfl⟩:=l;simp only[aN];exact .int_list b m t f
     |str b=>obtain⟨m,rfl⟩:=l;simp only[aN];exact .str_list b m t f
     |_=>cases J
    |ty _=>exact(show False from h).elim
    |ref _=>exact(show False from h).elim
    |mt _=>exact(show False from h).elim
    |ml _=>exact(show False from h).elim
    |fd _ _=>exact(show False from h).elim
    |_=>exact absurd ⟨_,rfl⟩ T
  .cases d with
   |tup xs=>
    obtain⟨p,Xo,rfl,t1,F⟩:=l;cases e with
    |non=>cases h;simp only[aN];exact .tuple_none t1 f
    |bl b=>cases h;simp only[aN];exact .tuple_bool b t1 f
    |int b=>obtain⟨m,rfl⟩:=h;simp only[aN];exact .tuple_int b m t1 f
    |str b=>obtain⟨m,rfl⟩:=h;simp only[aN];exact .tuple_str b m t1 f
    |tup ys=>
     obtain⟨p',its',rfl,t2,E⟩:=h;rw[aN]
     by_cases Q:p=p'
     .subst Q
      have Y:Xo=its':=by simpa using congrArg Sf (yD t1 t2)
      subst Y;rw[iX F E,eV (n:=n) N];exact .same _
     .refine .of_refs Q ?_
      have l1:=F.length;have l2:=E.length;have G:∀j (C:j<Xo.toArray.size)(z:j<its'.toArray.size),SX A.in1 s Xo.toArray[j] its'.toArray[j] (match xs[j]?,ys[j]? with|some x,ap y=>aN x y|_,_=>cm):=λj C z=>by
       have q:j<xs.length:=by rw[l1];simpa using C
       have o:j<ys.length:=by rw[l2];simpa using z
       rw[Pb q,Pb o];exact ih (F.get j q<|by simpa using C) (E.get j o<|by simpa using z) (dQ fd j q) (dQ N j o) O
      have:=UD (e:=λj=>match xs[j]?,ys[j]? with|some x,ap y=>aN x y|_,_=>cm) t1 t2 f G
      by_cases P:xs.length=ys.length
      .have L:Xo.toArray.size=its'.toArray.size:=by simp;lia
       rw[L]at this;simp only[TB,beq_self_eq_true,UA]at this;have I:its'.toArray.size=xs.length:=by simp;lia
       rw[I,i_ xs ys _ P (λj C z=>by rw[Pb C,Pb z])]at this
       exact this
      .have L:(Xo.toArray.size==its'.toArray.size)=false:=by simp;lia
       rw[L,RP]at this;rw[cq P];exact this
    |lst ys=>obtain⟨p',its',rfl,t2,E⟩:=h;simp only[aN];exact .tuple_list t1 t2 f
    |_=>exact(show False from h).elim
   |lst xs=>
    obtain⟨p,Xo,rfl,t1,F⟩:=l;cases e with
    |non=>cases h;simp only[aN];exact .list_none t1 f
    |bl b=>cases h;simp only[aN];exact .list_bool b t1 f
    |int b=>obtain⟨m,rfl⟩:=h;simp only[aN];exact .list_int b m t1 f
    |str b=>obtain⟨m,rfl⟩:=h;simp only[aN];exact .list_str b m t1 f
    |lst ys=>
     obtain⟨p',its',rfl,t2,E⟩:=h;rw[aN]
     by_cases Q:p=p'
     .subst Q
      have Y:Xo=its':=by simpa using congrArg Sf (zh t1 t2)
      subst Y;rw[iX F E,eV (n:=n) N];exact .same _
     .refine .of_refs Q ?_
      have l1:=F.length;have l2:=E.length
      by_cases P:xs.length=ys.length
      .have G:∀j (C:j<Xo.toArray.size)(z:j<its'.toArray.size),SX A.in1 s Xo.toArray[j] its'.toArray[j] (match xs[j]?,ys[j]? with|some x,ap y=>aN x y|_,_=>cm):=λj C z=>by
        have q:j<xs.length:=by rw[l1];simpa using C
        have o:j<ys.length:=by rw[l2];simpa using z
        rw[Pb q,Pb o];exact ih (F.get j q<|by simpa using C) (E.get j o<|by simpa using z) (dQ fd j q) (dQ N j o) O
       have:=UJ (e:=λj=>match xs[j]?,ys[j]? with|some x,ap y=>aN x y|_,_=>cm) t1 t2 (by simp;lia) f G
       have I:Xo.toArray.size=xs.length:=by simp;lia
       rw[I,i_ xs ys _ P (λj C z=>by rw[Pb C,Pb z])]at this
       exact this
      .rw[cq P]
       exact TK t1 t2 (by simp;lia) f
    |tup ys=>obtain⟨p',its',rfl,t2,E⟩:=h;simp only[aN];exact .list_tuple t1 t2 f
    |_=>exact(show False from h).elim
   |ty _=>exact(show False from l).elim
   |ref _=>exact(show False from l).elim
   |mt _=>exact(show False from l).elim
   |ml _=>exact(show False from l).elim
   |fd _ _=>exact(show False from l).elim
   |_=>exact absurd ⟨_,rfl⟩ S
theorem kC{xs ys:List D}(l:Hrs s.heap xs Xo)(m:Hrs s.heap ys its')(fd:fits n xs=true)(q:fits n ys=true)(o:A.units+n<pA):
  ∀j (h1:j<Xo.toArray.size)(h2:j<its'.toArray.size),SX A s Xo.toArray[j] its'.toArray[j] (match xs[j]?,ys[j]? with|some x,ap y=>aN x y|_,_=>cm):=λj h1 h2=>by
 have h:j<xs.length:=by rw[l.length];simpa using h1
 have f:j<ys.length:=by rw[m.length];simpa using h2
 rw[Pb h,Pb f];exact Iv n (l.get j h<|by simpa using h1) (m.get j f<|by simpa using h2) (dQ fd j h) (dQ q j f) o
theorem kL{xs ys:List D}(l:xs.length=ys.length):(PD xs.length).all (λj=>match xs[j]?,ys[j]? with|some x,ap y=>aN x y|_,_=>cm)=e_ xs ys:=
 i_ xs ys _ l (λj f h=>by rw[Pb f,Pb h])
theorem Ma{xs ys:List D}(t1:s.heap.IsTuple p Xo.toArray)(t2:s.heap.IsTuple p' its'.toArray)(l:Hrs s.heap xs Xo)(m:Hrs s.heap ys its')(fd:bF n (.tup xs)=true)(o:bF n (.tup ys)=true)(w:A.units+n<pA):
  U5 A s (.ref p) (.ref p') (aN (.tup xs)<|.tup ys):=by
 cases n with
 |zero=>simp[bF]at fd
 |succ n=>
  have v:=l.length;have q:=m.length;have:=UD (A:=A) t1 t2 (by lia) (kC (n:=n) l m fd o<|by show A.units+1+n<pA;lia)
  rw[aN]
  by_cases j:xs.length=ys.length
  .have f:Xo.toArray.size=its'.toArray.size:=by simp;lia
   rw[f]at this;simp only[TB,beq_self_eq_true,UA]at this;have h:its'.toArray.size=xs.length:=by simp;lia
   rw[h,kL j]at this;exact this
  .have f:(Xo.toArray.size==its'.toArray.size)=false:=by simp;lia
   rw[f,RP]at this;rw[cq j];exact this
theorem JW{xs ys:List D}(t1:s.heap.IsList p Xo.toArray)(t2:s.heap.IsList p' its'.toArray)(j:Hrs s.heap xs Xo)(l:Hrs s.heap ys its')(fd:bF n (.lst xs)=true)(m:bF n (.lst ys)=true)(v:A.units+n<pA):
  U5 A s (.ref p) (.ref p') (aN (.lst xs)<|.lst ys):=by
 cases n with
 |zero=>simp[bF]at fd
 |succ n=>
  have q:=j.length;have o:=l.length;rw[aN]
  by_cases h:xs.length=ys.length
  .have:=UJ (A:=A) t1 t2 (by simp;lia) (by lia) (kC (n:=n) j l fd m<|by show A.units+1+n<pA;lia)
   have f:Xo.toArray.size=xs.length:=by simp;lia
   rw[f,kL h]at this;exact this
  .rw[cq h]
   exact TK t1 t2 (by simp;lia) (by lia)
theorem Cw{xs ys:List D}(t1:s.heap.IsTuple p Xo.toArray)(t2:s.heap.IsTuple p' its'.toArray)(l:Hrs s.heap xs Xo)(m:Hrs s.heap ys its')(fd:bF n (.tup xs)=true)(o:bF n (.tup ys)=true)(w:A.units+n<pA):
  UC A s (.ref p) (.ref p') (!aN (.tup xs) (.tup ys)):=by
 cases n with
 |zero=>simp[bF]at fd
 |succ n=>
  have v:=l.length;have q:=m.length;have:=SeqAt.RcNeAt.tuples (A:=A) t1 t2 (by lia) (kC (n:=n) l m fd o<|by show A.units+1+n<pA;lia)
  rw[aN]
  by_cases j:xs.length=ys.length
  .have f:Xo.toArray.size=its'.toArray.size:=by simp;lia
   rw[f]at this;simp only[TB,beq_self_eq_true,UA]at this;have h:its'.toArray.size=xs.length:=by simp;lia
   rw[h,kL j]at this;exact this
  .have f:(Xo.toArray.size==its'.toArray.size)=false:=by simp;lia
   rw[f,RP]at this;rw[cq j];exact this
theorem Bg{xs ys:List D}(t1:s.heap.IsList p Xo.toArray)(t2:s.heap.IsList p' its'.toArray)(j:Hrs s.heap xs Xo)(l:Hrs s.heap ys its')(fd:bF n (.lst xs)=true)(m:bF n (.lst ys)=true)(v:A.units+n<pA):
  UC A s (.ref p) (.ref p') (!aN (.lst xs) (.lst ys)):=by
 cases n with
 |zero=>simp[bF]at fd
 |succ n=>
  have q:=j.length;have o:=l.length;rw[aN]
  by_cases h:xs.length=ys.length
  .have:=SeqAt.RcNeAt.lists (A:=A) t1 t2 (by simp;lia) (by lia) (kC (n:=n) j l fd m<|by show A.units+1+n<pA;lia)
   have f:Xo.toArray.size=xs.length:=by simp;lia
   rw[f,kL h]at this;exact this
  .rw[cq h]
   exact SeqAt.RcNeAt.lists_lengths t1 t2 (by simp;lia) (by lia)
theorem NS{d e:D}{w:ay}(z:Hr s.heap d u)(h:Hr s.heap e w)(fd:bF n d=true)(G:bF n e=true)(F:A.units+n<pA):U5 A s u w (aN d e):=by
 have j:A.units<cLine:=by lia
 cases d with
 |non=>
  cases z;cases e with
  |non=>
   cases h;simpa [aN,P4] using SeqAt.RcAt.none_none
  |bl y=>
   cases h;simpa [aN] using SeqAt.RcAt.none_bool y
  |int y=>
   obtain⟨f,rfl⟩:=h;simpa [aN] using SeqAt.RcAt.none_int y f
  |str y=>
   obtain⟨f,rfl⟩:=h;simpa [aN] using SeqAt.RcAt.none_str y f
  |tup y=>
   obtain⟨v,l,rfl,ty,o⟩:=h;simpa [aN] using SeqAt.RcAt.none_tuple ty j
  |lst y=>
   obtain⟨v,l,rfl,ty,o⟩:=h;simpa [aN] using SeqAt.RcAt.none_list ty j
  |_=>exact(show False from h).elim
 |bl x=>
  cases z;cases e with
  |non=>
   cases h;simpa [aN] using SeqAt.RcAt.bool_none x
  |bl y=>
   cases h;simpa [aN,P4] using SeqAt.RcAt.bool_bool x y
  |int y=>
   obtain⟨f,rfl⟩:=h;simpa [aN,P4] using SeqAt.RcAt.bool_int x y f
  |str y=>
   obtain⟨f,rfl⟩:=h;simpa [aN] using SeqAt.RcAt.bool_str x y f
  |tup y=>
   obtain⟨v,l,rfl,ty,o⟩:=h;simpa [aN] using SeqAt.RcAt.bool_tuple x ty j
  |lst y=>
   obtain⟨v,l,rfl,ty,o⟩:=h;simpa [aN] using SeqAt.RcAt.bool_list x ty j
  |_=>exact(show False from h).elim
 |int x=>
  obtain⟨m,rfl⟩:=z;cases e with
  |non=>
   cases h;simpa [aN] using SeqAt.RcAt.int_none x m
  |bl y=>
   cases h;simpa [aN,P4] using SeqAt.RcAt.int_bool x m y
  |int y=>
   obtain⟨f,rfl⟩:=h;simpa [aN,P4] using SeqAt.RcAt.int_int x m y f
  |str y=>
   obtain⟨f,rfl⟩:=h;simpa [aN] using SeqAt.RcAt.int_str x m y f
  |tup y=>
   obtain⟨v,l,rfl,ty,o⟩:=h;simpa [aN] using SeqAt.RcAt.int_tuple x m ty j
  |lst y=>
   obtain⟨v,l,rfl,ty,o⟩:=h;simpa [aN] using SeqAt.RcAt.int_list x m ty j
  |_=>exact(show False from h).elim
 |str x=>
  obtain⟨m,rfl⟩:=z;cases e with
  |non=>
   cases h;simpa [aN] using SeqAt.RcAt.str_none x m
  |bl y=>
   cases h;simpa [aN] using SeqAt.RcAt.str_bool x m y
  |int y=>
   obtain⟨f,rfl⟩:=h;simpa [aN] using SeqAt.RcAt.str_int x m y f
  |str y=>
   obtain⟨f,rfl⟩:=h;simpa [aN,P4] using SeqAt.RcAt.str_str x m y f
  |tup y=>
   obtain⟨v,l,rfl,ty,o⟩:=h;simpa [aN] using SeqAt.RcAt.str_tuple x m ty j
  |lst y=>
   obtain⟨v,l,rfl,ty,o⟩:=h;simpa [aN] using SeqAt.RcAt.str_list x m ty j
  |_=>exact(show False from h).elim
 |tup x=>
  obtain⟨I,C,rfl,q,E⟩:=z;cases e with
  |non=>
   cases h;simpa [aN] using SeqAt.RcAt.tuple_none q j
  |bl y=>
   cases h;simpa [aN] using SeqAt.RcAt.tuple_bool y q j
  |int y=>
   obtain⟨f,rfl⟩:=h;simpa [aN] using SeqAt.RcAt.tuple_int y f q j
  |str y=>
   obtain⟨f,rfl⟩:=h;simpa [aN] using SeqAt.RcAt.tuple_str y f q j
  |tup y=>
   obtain⟨v,l,rfl,ty,o⟩:=h;exact Ma q ty E o fd G F
  |lst y=>
   obtain⟨v,l,rfl,ty,o⟩:=h;simpa [aN] using SeqAt.RcAt.tuple_list q ty j
  |_=>exact(show False from h).elim
 |lst x=>
  obtain⟨I,C,rfl,q,E⟩:=z;cases e with
  |non=>
   cases h;simpa [aN] using SeqAt.RcAt.list_none q j
  |bl y=>
   cases h;simpa [aN] using SeqAt.RcAt.list_bool y q j
  |int y=>
   obtain⟨f,rfl⟩:=h;simpa [aN] using SeqAt.RcAt.list_int y f q j
  |str y=>
   obtain⟨f,rfl⟩:=h;simpa [aN] using SeqAt.RcAt.list_str y f q j
  |tup y=>
   obtain⟨v,l,rfl,ty,o⟩:=h;simpa [aN] using SeqAt.RcAt.list_tuple q ty j
  |lst y=>
   obtain⟨v,l,rfl,ty,o⟩:=h;exact JW q ty E o fd G F
  |_=>exact(show False from h).elim
 |_=>exact(show False from z).elim
theorem Ew{d e:D}{w:ay}(z:Hr s.heap d u)(h:Hr s.heap e w)(fd:bF n d=true)(G:bF n e=true)(F:A.units+n<pA):UC A s u w (!aN d e):=by
 have j:A.units<cLine:=by lia
 cases d with
 |non=>
  cases z;cases e with
  |non=>
   cases h;simpa [aN,P4] using SeqAt.RcNeAt.none_none
  |bl y=>
   cases h;simpa [aN] using SeqAt.RcNeAt.none_bool y
  |int y=>
   obtain⟨f,rfl⟩:=h;simpa [aN] using SeqAt.RcNeAt.none_int y f
  |str y=>
   obtain⟨f,rfl⟩:=h;simpa [aN] using SeqAt.RcNeAt.none_str y f
  |tup y=>
   obtain⟨v,l,rfl,ty,o⟩:=h;simpa [aN] using SeqAt.RcNeAt.none_tuple ty j
  |lst y=>
   obtain⟨v,l,rfl,ty,o⟩:=h;simpa [aN] using SeqAt.RcNeAt.none_list ty j
  |_=>exact(show False from h).elim
 |bl x=>
  cases z;cases e with
  |non=>
   cases h;simpa [aN] using SeqAt.RcNeAt.bool_none x
  |bl y=>
   cases h;simpa [aN,P4] using SeqAt.RcNeAt.bool_bool x y
  |int y=>
   obtain⟨f,rfl⟩:=h;simpa [aN,P4] using SeqAt.RcNeAt.bool_int x y f
  |str y=>
   obtain⟨f,rfl⟩:=h;simpa [aN] using SeqAt.RcNeAt.bool_str x y f
  |tup y=>
   obtain⟨v,l,rfl,ty,o⟩:=h;simpa [aN] using SeqAt.RcNeAt.bool_tuple x ty j
  |lst y=>
   obtain⟨v,l,rfl,ty,o⟩:=h;simpa [aN] using SeqAt.RcNeAt.bool_list x ty j
  |_=>exact(show False from h).elim
 |int x=>
  obtain⟨m,rfl⟩:=z;cases e with
  |non=>
   cases h;simpa [aN] using SeqAt.RcNeAt.int_none x m
  |bl y=>
   cases h;simpa [aN,P4] using SeqAt.RcNeAt.int_bool x m y
  |int y=>
   obtain⟨f,rfl⟩:=h;simpa [aN,P4] using SeqAt.RcNeAt.int_int x m y f
  |str y=>
   obtain⟨f,rfl⟩:=h;simpa [aN] using SeqAt.RcNeAt.int_str x m y f
  |tup y=>
   obtain⟨v,l,rfl,ty,o⟩:=h;simpa [aN] using SeqAt.RcNeAt.int_tuple x m ty j
  |lst y=>
   obtain⟨v,l,rfl,ty,o⟩:=h;simpa [aN] using SeqAt.RcNeAt.int_list x m ty j
  |_=>exact(show False from h).elim
 |str x=>
  obtain⟨m,rfl⟩:=z;cases e with
  |non=>
   cases h;simpa [aN] using SeqAt.RcNeAt.str_none x m
  |bl y=>
   cases h;simpa [aN] using SeqAt.RcNeAt.str_bool x m y
  |int y=>
   obtain⟨f,rfl⟩:=h;simpa [aN] using SeqAt.RcNeAt.str_int x m y f
  |str y=>
   obtain⟨f,rfl⟩:=h;simpa [aN,P4] using SeqAt.RcNeAt.str_str x m y f
  |tup y=>
   obtain⟨v,l,rfl,ty,o⟩:=h;simpa [aN] using SeqAt.RcNeAt.str_tuple x m ty j
  |lst y=>
   obtain⟨v,l,rfl,ty,o⟩:=h;simpa [aN] using SeqAt.RcNeAt.str_list x m ty j
  |_=>exact(show False from h).elim
 |tup x=>
  obtain⟨I,C,rfl,q,E⟩:=z;cases e with
  |non=>
   cases h;simpa [aN] using SeqAt.RcNeAt.tuple_none q j
  |bl y=>
   cases h;simpa [aN] using SeqAt.RcNeAt.tuple_bool y q j
  |int y=>
   obtain⟨f,rfl⟩:=h;simpa [aN] using SeqAt.RcNeAt.tuple_int y f q j
  |str y=>
   obtain⟨f,rfl⟩:=h;simpa [aN] using SeqAt.RcNeAt.tuple_str y f q j
  |tup y=>
   obtain⟨v,l,rfl,ty,o⟩:=h;exact Cw q ty E o fd G F
  |lst y=>
   obtain⟨v,l,rfl,ty,o⟩:=h;simpa [aN] using SeqAt.RcNeAt.tuple_list q ty j
  |_=>exact(show False from h).elim
 |lst x=>
  obtain⟨I,C,rfl,q,E⟩:=z;cases e with
  |non=>
   cases h;simpa [aN] using SeqAt.RcNeAt.list_none q j
  |bl y=>
   cases h;simpa [aN] using SeqAt.RcNeAt.list_bool y q j
  |int y=>
   obtain⟨f,rfl⟩:=h;simpa [aN] using SeqAt.RcNeAt.list_int y f q j
  |str y=>
   obtain⟨f,rfl⟩:=h;simpa [aN] using SeqAt.RcNeAt.list_str y f q j
  |tup y=>
   obtain⟨v,l,rfl,ty,o⟩:=h;simpa [aN] using SeqAt.RcNeAt.list_tuple q ty j
  |lst y=>
   obtain⟨v,l,rfl,ty,o⟩:=h;exact Bg q ty E o fd G F
  |_=>exact(show False from h).elim
 |_=>exact(show False from z).elim
section
variable{Xi:Xx}
mutual
theorem Hm(I:Inv X Xi Z H s):∀{n:Nat}{d:D}{v:V}{u:ay},bF n d=true->Rp X.K H d v->RelV v u->Hr s.heap d u
 |_,.non,v,u,_,r,q=>by cases r;exact q
 |_,.bl _,v,u,_,r,q=>by cases r;exact q
 |_,.int _,v,u,_,r,q=>by cases r;exact q
 |_,.str _,v,u,_,r,q=>by cases r;exact q
 |n+1,.tup xs,v,u,f,r,q=>by
  obtain⟨p,l,rfl,t,r⟩:=r;cases q;obtain⟨Xo,j,h,_⟩:=I.tuple t.sq;exact⟨p,Xo,rfl,h,g9 I (n:=n) f r j⟩
 |n+1,.lst xs,v,u,f,r,q=>by
  obtain⟨p,l,rfl,t,r⟩:=r;cases q;obtain⟨Xo,j,h,_⟩:=I.list t.sq;exact⟨p,Xo,rfl,h.isList,g9 I (n:=n) f r j⟩
 |0,.tup _,_,_,f,_,_=>by simp[bF]at f
 |0,.lst _,_,_,f,_,_=>by simp[bF]at f
 |_,.ty _,_,_,f,_,_=>by simp[bF]at f
 |_,.ref _,_,_,f,_,_=>by simp[bF]at f
 |_,.mt _,_,_,f,_,_=>by simp[bF]at f
 |_,.ml _,_,_,f,_,_=>by simp[bF]at f
 |_,.fd _ _,_,_,f,_,_=>by simp[bF]at f
theorem g9(I:Inv X Xi Z H s):∀{n:Nat}{ds:List D}{vs:List V}{us:Xs},fits n ds=true->Rps X.K H ds vs->Vals vs us->Hrs s.heap ds us
 |_,[],vs,us,_,r,q=>by cases r;cases q;rfl
 |n,d::ds,vs,us,f,r,q=>by
  obtain⟨v,h,rfl,a,b⟩:=r;rw[fits,QM]at f;cases q with
  |cons q1 q2=>exact⟨_,_,rfl,Hm I f.1 a q1,g9 I f.2 b q2⟩
end
def dv(M:Mem):D->D
 |.ref a=>match M a with
  |some (.lst xs)=>.lst xs
  |_=>.ref a
 |d=>d
theorem oQ(I:Inv X Xi Z H s){d:D}{v:V}(o:RepH X.K H M)(f:bF n (dv M d)=true)(r:Rp X.K H d v)(q:RelV v u):Hr s.heap (dv M d) u:=by
 cases d with
 |ref a=>
  cases r;simp only[dv]at f ⊢
  split at f
  .rename_i w e
   obtain⟨y,l,j⟩:=o _ _ e;obtain⟨Xo,m,h,_⟩:=I.list (SqL.of l);cases q;cases n with
   |zero=>simp[bF]at f
   |succ n=>exact⟨a,Xo,rfl,h.isList,g9 I (n:=n) f j m⟩
  .simp[bF]at f
 |_=>exact Hm I f r q
def bG:fQ:=λx y M Q=>bF 60 (dv M x)=true/\bF 60 (dv M y)=true/\Q (.bl<|aN (dv M x)<|dv M y) M
def f_:fQ:=λx y M Q=>bF 60 (dv M x)=true/\bF 60 (dv M y)=true/\Q (.bl<|!aN (dv M x) (dv M y)) M
theorem Dy(F:X.A.units+64<pA):cJ X (hG .Eq) (liftR2 X bG):=by
 intro Xi s Z H x y v u Q I w o h;obtain⟨C,E,M,QQ,f,m,q,⟨j,l,h⟩,z⟩:=h;exact NS (oQ I f j m w) (oQ I f l q o) j l (by lia) _ _ _ _ ⟨.bl _,H,I,rfl,z _ M h _ H f Frm.refl rfl⟩
theorem AQ(F:X.A.units+64<pA):cJ X (hG .NotEq) (liftR2 X f_):=by
 intro Xi s Z H x y v u Q I w o h;obtain⟨C,E,M,QQ,f,m,q,⟨j,l,h⟩,z⟩:=h;exact Ew (oQ I f j m w) (oQ I f l q o) j l (by lia) _ _ _ _ ⟨.bl _,H,I,rfl,z _ M h _ H f Frm.refl rfl⟩
open Classical in
noncomputable def uY(h:fx)(x:D)(u:ay):Bool:=if q:∃d,Hr h d u then aN q.choose x else cm
theorem BY{h:fx}{x d:D}(r:Hr h d u):uY h x u=aN d x:=by
 have q:∃d,Hr h d u:=⟨d,r⟩;unfold uY;rw[dif_pos q,CU q.choose_spec r]
theorem ii{h:fx}{x:D}:∀{ds:List D}{us:Xs},Hrs h ds us->us.any (uY h x)=ds.any λd=>aN d x
 |[],_,r=>by cases r;rfl
 |d::ds,_,r=>by
  obtain⟨v,f,rfl,a,b⟩:=r;rw[QC,QC,BY a,ii b]
theorem iL{A:fv}{n:Nat}{x:D}{w:ay}(m:Hr s.heap x w)(l:bF n x=true)(j:A.units+n<pA):∀{ds:List D}{us:Xs},Hrs s.heap ds us->fits n ds=true->∀u∈us,SX A s u w (uY s.heap x u)
 |[],_,r,_,u,j=>by cases r;cases j
 |d::ds,_,r,f,u,h=>by
  obtain⟨v,o,rfl,a,b⟩:=r;rw[fits,QM]at f;rcases Po.mp h with rfl|h
  .rw[BY a];exact Iv n a m f.1 l j
  .exact iL m l j b f.2 u h
def ia(M:Mem)(x y:D):Option Bool:=match aE M y with
 |some xs=>if bF 60 (dv M x)=true/\fits 60 xs=true then ap (xs.any λd=>aN d (dv M x)) else bb
 |none=>match y with
  |.ref a=>match tN M a x with
   |some o=>ap o.isSome
   |none=>bb
  |_=>bb
def sJ:fQ:=λx y M Q=>match ia M x y with
 |some k=>Q (.bl k) M
 |none=>False
def lg:fQ:=λx y M Q=>match ia M x y with
 |some k=>Q (.bl<|!k) M
 |none=>False
theorem CH(U:X.A.units+64<pA):cJ X (hG .In) (liftR2 X sJ):=by
 intro Xi s Z H x y v u Q I z J h;obtain⟨j,S,M,QQ,m,F,G,h,L⟩:=h;unfold sJ at h
 split at h
 .rename_i k e
  have fin:=L _ M h _ H m Frm.refl rfl;unfold ia at e
  split at e
  .rename_i R P
   split at e
   .rename_i f
    cases e;obtain⟨p,T,rfl,hq,r⟩:=ir m G P;cases J;have E:=oQ I m f.1 F z;rcases hq with hq|hq
    .obtain⟨Xo,q,pl,_⟩:=I.list hq
     have l:=g9 I f.2 r q;refine SeqAt.in_listAt (uY s.heap<|dv M j) pl.isList (λw C=>iL E f.1 (by show X.A.units+1+60<pA;lia) l f.2 w (by simpa using C)) ⟨.bl _,H,I,rfl,?_⟩
     rw[show Xo.toArray.any (uY s.heap<|dv M j)=Xo.any (uY s.heap<|dv M j) by simp,ii l]
     exact fin
    .obtain⟨Xo,q,pl,_⟩:=I.tuple hq
     have l:=g9 I f.2 r q;refine SeqAt.in_tupleAt (uY s.heap<|dv M j) pl (λw C=>iL E f.1 (by show X.A.units+1+60<pA;lia) l f.2 w (by simpa using C)) ⟨.bl _,H,I,rfl,?_⟩
     rw[show Xo.toArray.any (uY s.heap<|dv M j)=Xo.any (uY s.heap<|dv M j) by simp,ii l]
     exact fin
   .cases e
  .split at e
   .split at e
    .rename_i o N
     cases e;cases G;cases J;rcases pI m F N with⟨rfl,g⟩|⟨d,w,rfl,g,_⟩
     .exact NW (by lia) I g z λO I'=>⟨.bl _,H,I',rfl,fin⟩
     .exact NW (by lia) I g z λO I'=>⟨.bl _,H,I',rfl,fin⟩
    .cases e
   .cases e
 .exact h.elim
theorem zD(U:X.A.units+64<pA):cJ X (hG .NotIn) (liftR2 X lg):=by
 intro Xi s Z H x y v u Q I z J h;obtain⟨j,S,M,QQ,m,F,G,h,L⟩:=h;unfold lg at h
 split at h
 .rename_i k e
  have fin:=L _ M h _ H m Frm.refl rfl;unfold ia at e
  split at e
  .rename_i R P
   split at e
   .rename_i f
    cases e;obtain⟨p,T,rfl,hq,r⟩:=ir m G P;cases J;have E:=oQ I m f.1 F z;rcases hq with hq|hq
    .obtain⟨Xo,q,pl,_⟩:=I.list hq
     have l:=g9 I f.2 r q;refine SeqAt.notIn_listAt (uY s.heap<|dv M j) pl.isList (λw C=>iL E f.1 (by show X.A.units+1+60<pA;lia) l f.2 w (by simpa using C)) ⟨.bl _,H,I,rfl,?_⟩
     rw[show Xo.toArray.any (uY s.heap<|dv M j)=Xo.any (uY s.heap<|dv M j) by simp,ii l]
     exact fin
    .obtain⟨Xo,q,pl,_⟩:=I.tuple hq
     have l:=g9 I f.2 r q;refine SeqAt.notIn_tupleAt (uY s.heap<|dv M j) pl (λw C=>iL E f.1 (by show X.A.units+1+60<pA;lia) l f.2 w (by simpa using C)) ⟨.bl _,H,I,rfl,?_⟩
     rw[show Xo.toArray.any (uY s.heap<|dv M j)=Xo.any (uY s.heap<|dv M j) by simp,ii l]
     exact fin
   .cases e
  .split at e
   .split at e
    .rename_i o N
     cases e;cases G;cases J;rcases pI m F N with⟨rfl,g⟩|⟨d,w,rfl,g,_⟩
     .exact xC (by lia) I g z λO I'=>⟨.bl _,H,I',rfl,fin⟩
     .exact xC (by lia) I g z λO I'=>⟨.bl _,H,I',rfl,fin⟩
    .cases e
   .cases e
 .exact h.elim
end
structure DEnds where
 nx:Dl->Mem->Prop
 rt:DK
 bk:Dl->Mem->Prop:=λ_ _=>False
 ct:Dl->Mem->Prop:=λ_ _=>False
noncomputable abbrev aA:=DEnds->Dl->Mem->Prop
def UpN(X:Cx)(B:Bd)(M:Mem)(H:Hp)(QQ:Dl->Mem->Prop)(Q:_2.St->Hp->Prop):Prop:=∀U M',QQ U M'->∀Z H',Frm M H M' H'->SR X B U M' Z H'->Q Z H'
theorem UpN.go{M1:Mem}{H1:Hp}{QQ:Dl->Mem->Prop}{Q:_2.St->Hp->Prop}(u:UpN X B M H QQ Q)(i:Frm M H M1 H1):UpN X B M1 H1 QQ Q:=λU M q Z H' a b=>u U M q Z H' (i.trans a) b
structure UpD(X:Cx)(B:Bd)(M:Mem)(H:Hp)(DD:DEnds)(D:Ends):Prop where
 nx:UpN X B M H DD.nx D.nx
 rt:Up X.K M H DD.rt D.rt
 bk:UpN X B M H DD.bk D.bk
 ct:UpN X B M H DD.ct D.ct
theorem UpD.go{M1:Mem}{H1:Hp}{DD:DEnds}{D:Ends}(u:UpD X B M H DD D)(i:Frm M H M1 H1):UpD X B M1 H1 DD D:=⟨u.nx.go i,u.rt.go i,u.bk.go i,u.ct.go i⟩
inductive liftS(X:Cx)(B:Bd)(T:aA)(D:Ends)(Z:St)(H:Hp):Prop
 |mk (U:Dl) (M:Mem) (DD:DEnds) (s:SR X B U M Z H) (h:T DD U M) (u:UpD X B M H DD D):liftS X B T D Z H
def DS(X:Cx)(B:Bd)(st:rc)(T:aA):Prop:=PS X st (liftS X B T)
def zi(X:Cx)(B:Bd)(st:Xv)(T:aA):Prop:=zg X st (liftS X B T)
section
variable{st:rc}{rest:Xv}{t u:aA}
def aw:aA:=λD U M=>D.nx U M
def ah(t u:aA):aA:=λD U M=>t { D with nx:=u D } U M
theorem G0:zi X B [] aw:=mY Ge λD Z H ⟨U,M,DD,s,h,f⟩=>f.nx U M h Z H Frm.refl s
theorem dH(o:DS X B st t)(v:zi X B rest u):zi X B (st::rest) (ah t u):=by
 refine mY (CF o v) ?_
 rintro D Z H ⟨U,M,DD,s,h,f⟩
 exact⟨U,M,{ DD with nx:=u DD },s,h,⟨λj M' q m H' i l=>⟨j,M',DD,l,q,f.go i⟩,f.rt,f.bk,f.ct⟩⟩
theorem fJ(f:DS X B st t):zi X B [st] t:=Ex f
def bq(te:bh):aA:=λD U M=>te U M λ_ M1=>D.nx U M1
theorem Eu(m:DE X B e te)(l:x9 e bb pos.line X.env=pure false:=by rfl):DS X B (.Expr e pos) (bq te):=by
 refine bU (GE m l) ?_
 rintro D Z H ⟨U,M,DD,s,h,j⟩
 exact⟨U,M,_,s,h,λd M' q v H' f i r=>j.nx U M' q Z H' i (s.go f i)⟩
def av(te:bh):aA:=λD U M=>te U M D.rt
theorem LR(j:DE X B e te):DS X B (.Return (ap e) pos) (av te):=by
 refine bU (KM j) ?_
 rintro D Z H ⟨U,M,DD,s,h,f⟩
 exact⟨U,M,_,s,h,f.rt⟩
def aC(c:eU)(t u:aA):aA:=λD U M=>c U M λb M1=>if b=true then t D U M1 else u D U M1
theorem MZ{a b:Xv}{l:eU}(v:DT X B c l)(o:zi X B a t)(m:zi X B b u):DS X B (.If c a b pos) (aC l t u):=by
 refine bU (Ou v o m) ?_
 rintro D Z H ⟨U,M,DD,s,h,j⟩
 refine⟨U,M,_,s,h,λc M' q H' f i=>?_⟩;cases c with
 |true=>rw[if_pos rfl]at q ⊢;exact⟨U,M',DD,s.go f i,q,j.go i⟩
 |false=>rw[if_neg PH]at q ⊢;exact⟨U,M',DD,s.go f i,q,j.go i⟩
noncomputable abbrev ju:=D->Dl->Mem->(Dl->Mem->Prop)->Prop
noncomputable abbrev nQ:=List D->Dl->Mem->(Dl->Mem->Prop)->Prop
inductive liftG(X:Cx)(B:Bd)(g:ju)(v:V)(Z:St)(H:Hp)(Q:St->Hp->Prop):Prop
 |mk (d:_3.D) (U:Dl) (M:Mem) (QQ:Dl->Mem->Prop) (s:SR X B U M Z H) (r:Rp X.K H d v) (h:g d U M QQ) (u:UpN X B M H QQ Q):liftG X B g v Z H Q
inductive liftGs(X:Cx)(B:Bd)(g:nQ)(vs:List V)(Z:St)(H:Hp)(Q:St->Hp->Prop):Prop
 |mk (ds:List _3.D) (U:Dl) (M:Mem) (QQ:Dl->Mem->Prop) (s:SR X B U M Z H) (r:Rps X.K H ds vs) (h:g ds U M QQ) (u:UpN X B M H QQ Q):liftGs X B g vs Z H Q
def DG(X:Cx)(B:Bd)(tg:eH)(g:ju):Prop:=PG X tg (liftG X B g)
def Oc(X:Cx)(B:Bd)(tgs:Xu)(g:nQ):Prop:=Le X tgs (liftGs X B g)
theorem k4{t t':TG}(h:PG X tg t)(w:∀v Z H Q,t' v Z H Q->t v Z H Q):PG X tg t':=λf s Z H v u Q I r q=>h f s Z H v u Q I r (w v Z H Q q)
theorem sM{tg:Xu}{t t':Hi}(h:Le X tg t)(w:∀v Z H Q,t' v Z H Q->t v Z H Q):Le X tg t':=λf s Z H v u Q I r q=>h f s Z H v u Q I r (w v Z H Q q)
theorem SR.set{U:Dl}{d:D}{v:V}(s:SR X B U M Z H)(r:Rp X.K H d v):SR X B (U.set i<|some d) M (Z.set i<|some v) H:=⟨s.i0,s.rh,s.rs.set r⟩
def ag(i:Nat):ju:=λd U M Q=>Q (U.set i<|some d) M
theorem Gq(f:X.N.Nodup)(j:X.N[i]?=ap x)(l:AU X.env.scope x)(m:X.fn x=true\/X.env.scope.names.lookup x=ap .local:=by first|exact .inl rfl|exact .inr rfl|assumption):DG X B (.Name x pos) (ag i):=by
 refine k4 (Fu f j l m) ?_
 rintro v Z H Q ⟨d,U,M,QQ,s,r,h,u⟩
 exact u _ M h _ H Frm.refl (s.set r)
def cL:nQ:=λf U M Q=>match f with
 |[]=>Q U M
 |_=>False
def aL(t:ju)(u:nQ):nQ:=λh U M Q=>match h with
 |d::r=>t d U M λf M'=>u r f M' Q
 |[]=>False
theorem FK:Oc X B [] cL:=by
 refine sM EY ?_
 rintro v Z H Q ⟨f,U,M,QQ,s,r,h,u⟩
 cases f with
 |nil=>exact⟨r,u U M h Z H Frm.refl s⟩
 |cons _ _=>exact(show False from h).elim
theorem Do{t:ju}{u:nQ}(C:DG X B e t)(F:Oc X B es u)(E:(pt (e::es) X.env).map (·.2)=Wm e X.env::(pt es X.env).map (·.2):=by rfl):Oc X B (e::es) (aL t u):=by
 refine sM (BO C F E) ?_
 rintro v Z H Q ⟨j,U,M,QQ,s,r,h,w⟩
 cases j with
 |nil=>exact(show False from h).elim
 |cons d j=>
  obtain⟨v1,z,rfl,l,o⟩:=r;refine⟨v1,z,rfl,d,U,M,_,s,l,h,λf M' q y H' i m=>?_⟩;exact⟨j,f,M',QQ,m,o.mf s.rh i,q,w.go i⟩
def cU(n:Nat)(t:nQ):ju:=λd U M Q=>match d with
 |.tup xs=>xs.length=n/\t xs U M Q
 |_=>False
theorem Ks{k:Nat}{t:nQ}(o:X.calm=true)(h:Oc X B es t)(m:(pt es X.env).length=n:=by rfl)(hst:(pt es X.env).findIdx? (·.1)=none:=by rfl):DG X B (.Tuple es k pos) (cU n t):=by
 refine k4 (KO o h m hst) ?_
 rintro v Z H Q ⟨d,U,M,QQ,s,r,h,l⟩
 cases d with
 |tup xs=>
  obtain⟨p,j,rfl,f,r⟩:=r;exact⟨p,j,rfl,f.sq,by rw[<- r.length];exact h.1,xs,U,M,QQ,s,r,h.2,l⟩
 |_=>exact(show False from h).elim
def ao(te:bh)(g:ju):aA:=λD U M=>te U M λx M1=>g x U M1 D.nx
theorem L8(o:DE X B e te)(l:DG X B tg g)(m:swapsWithSole [tg] e pos.line X.env=pure false:=by rfl)(hw:swappedStores [tg] e X.env=pure none:=by rfl)(h1:(pt [tg] X.env).map (·.2)=[Wm tg X.env]:=by rfl):DS X B (.Assign [tg] e pos) (ao te g):=by
 refine bU (KY o l m hw h1) ?_
 rintro D Z H ⟨U,M,DD,s,h,j⟩
 refine⟨U,M,_,s,h,λd M' q v H' f i r=>?_⟩;exact⟨d,U,M',DD.nx,s.go f i,r,q,j.nx.go i⟩
theorem LH(m:X.N.Nodup)(w:X.N[i]?=ap x)(l:AU X.env.scope x)(o:DE X B e te)(y:x9 e (ap<|.Name x pos') pos.line X.env=pure false:=by rfl)(hf:X.fn x=true\/X.env.scope.names.lookup x=ap .local:=by first|exact .inl rfl|exact .inr rfl|assumption):
  DS X B (.Assign [.Name x pos'] e pos) (ao te<|ag i):=by
 refine bU (Jv m w l o y hf) ?_
 rintro D Z H ⟨U,M,DD,s,h,j⟩
 refine⟨U,M,_,s,h,λd M' q v H' f i r=>?_⟩;exact j.nx _ M' q _ H' i ((s.go f i).set r)
def Bf(i:Nat)(te:bh)(r:fQ):aA:=λD U M=>match U[i]? with
 |some (ap x)=>te U M λy M1=>r x y M1 λz M2=>D.nx (U.set i<|some z) M2
 |_=>False
theorem Lw{m:Wo}{r:fQ}(O:X.N.Nodup)(S:X.N[i]?=ap x)(L:AU X.env.scope x)(P:DE X B e te)(Q:Jx X m (liftR2 X r))(R:X.fn x=true\/X.env.scope.names.lookup x=ap .local:=by first|exact .inl rfl|exact .inr rfl|assumption):
  DS X B (.AugAssign (.Name x pos') m e pos) (Bf i te r):=by
 refine bU (J3 O S L P Q R) ?_
 rintro D Z H ⟨U,M,DD,s,h,F⟩
 unfold Bf at h
 split at h
 .rename_i l I
  obtain⟨v,G,J⟩:=s.rs.get i l I;refine⟨v,G,U,M,_,s,h,λy M1 C w H1 f i1 o=>?_⟩;refine⟨l,y,M1,_,f,J.mf s.rh i1,o,C,λz M2 q T H2 j i2 E=>?_⟩;exact F.nx _ M2 q _ H2 (i1.trans i2) ((s.go j<|i1.trans i2).set E)
 .exact h.elim
theorem Os{m:Wo}{g:Int->Int->Int}(h:Jx X m (ipI g)):Jx X m (liftR2 X (jS λi j=>.int (g i j))):=by
 intro l s Z H x y v u Q I z q f;obtain⟨F,G,M,QQ,E,o,w,f,C⟩:=f;unfold jS at f
 split at f
 .cases o;cases w
  exact h l s Z H _ _ v u Q I z q ⟨_,_,rfl,rfl,C _ M f _ H E Frm.refl rfl⟩
 .exact f.elim
noncomputable abbrev DM:fQ:=jS λi j=>.int (i+j)
theorem G8:Jx X .Add (liftR2 X DM):=Os JD
def pE(o i v:D)(M:Mem)(Q:Mem->Prop):Prop:=match o with
 |.ref a=>match M a,i with
  |some (.lst xs),.int k=>match vh xs.length k with
   |some j=>Q (M.upd a<|.lst<|xs.set j v)
   |none=>False
  |some (.dK Xk),y=>match cH y with
   |some k=>Xk.length<sizeLine/\Q (M.upd a<|.dK<|dI Xk k v)
   |none=>False
  |some (.dT Xk),y=>match AG y with
   |some k=>Xk.length<sizeLine/\Q (M.upd a<|.dT<|dI Xk k v)
   |none=>False
  |_,_=>False
 |_=>False
inductive liftSet(X:Cx)(o i v:V)(H:Hp)(Q:Hp->Prop):Prop
 |mk (d1 d2 d3:_3.D) (M:Mem) (QQ:Mem->Prop) (rh:RepH X.K H M) (r1:Rp X.K H d1 o) (r2:Rp X.K H d2 i) (r3:Rp X.K H d3 v) (h:pE d1 d2 d3 M QQ) (u:∀M',QQ M'->∀H',RepH X.K H' M'->Frm M H M' H'->Q H'):liftSet X o i v H Q
theorem EM(hu:X.A.units+1<pA):Jz X (liftSet X):=by
 intro Xi s Z H o i v ov iv u Q I ro ri rv h;obtain⟨d1,d2,d3,M,QQ,rh,r1,r2,r3,h,up⟩:=h;unfold pE at h
 split at h
 .rename_i a
  cases r1;cases ro
  split at h
  .rename_i xs k hM
   cases r2;obtain⟨vs,h1,h2⟩:=rh _ _ hM
   split at h
   .rename_i j ej
    refine CD Xi s Z H (.ref a) _ v _ iv u Q I rfl ri rv ⟨a,vs,k,j,rfl,rfl,h1,by rw[<- h2.length];exact ej,?_⟩
    have i2:Imm H (upd H a<|.lst<|vs.set j v):=Imm.upd (by rw[h1];trivial)
    exact up _ h _ (rh.put (by rw[h1];trivial) ⟨_,upd_same,(h2.set r3 j).mono i2⟩) (Frm.put<|.inr ⟨_,hM⟩)
   .exact h.elim
  .rename_i Xk hM
   obtain⟨ws,h1,h2⟩:=rh _ _ hM
   split at h
   .rename_i k ek
    have ev:=gu r2 ek;subst ev;have i2:Imm H (upd H a<|.dK<|dq ws k v):=Imm.upd (by rw[h1];trivial)
    refine o_ hu I (DPut.k h1<|by rw[<- h2.length];exact h.1) ri rv λs' I'=>⟨_,I',?_⟩
    exact up _ h.2 _ (rh.put (by rw[h1];trivial) ⟨_,upd_same,(h2.put k r3).mono i2⟩) (Frm.put<|.inr ⟨_,hM⟩)
   .exact h.elim
  .rename_i Xk hM
   obtain⟨ws,h1,h2⟩:=rh _ _ hM
   split at h
   .rename_i k ek
    obtain⟨b,rfl,hb⟩:=ly r2 ek;have i2:Imm H (upd H a<|.dT<|dq ws k v):=Imm.upd (by rw[h1];trivial)
    refine o_ hu I (DPut.t h1 hb<|by rw[<- h2.length];exact h.1) ri rv λs' I'=>⟨_,I',?_⟩
    exact up _ h.2 _ (rh.put (by rw[h1];trivial) ⟨_,upd_same,(h2.put k r3).mono i2⟩) (Frm.put<|.inr ⟨_,hM⟩)
   .exact h.elim
  .exact h.elim
 .exact h.elim
def cO(to ti:bh):ju:=λv U M Q=>to U M λo M1=>ti U M1 λi M2=>pE o i v M2 λM3=>Q U M3
theorem JX{o i:eH}{to m:bh}(I:X.A.units+1<pA)(G:DE X B o to)(J:DE X B i m)(L:∀v,Wm (.Subscript o i pos) X.env v=(do
   let ov <- Re [v] (eX o X.env)
   let iv <- Re [v,ov] (eX i X.env)
   Wa pos
   Re [v,ov,iv] (setItem ov iv v)
   release [v,ov,iv] []):=by intro _;rfl):DG X B (.Subscript o i pos) (cO to m):=by
 refine k4 (Lr G J (EM I) L) ?_
 rintro v Z H Q ⟨d,U,M,QQ,s,r,h,E⟩
 refine⟨U,M,_,s,h,λx M1 z v1 H1 f i1 q=>?_⟩;refine⟨U,M1,_,s.go f i1,z,λy M2 w v2 H2 l i2 C=>?_⟩;exact⟨x,y,d,M2,_,l,q.mf f i2,C,r.mf s.rh (i1.trans i2),w,λM3 F H3 j i3=>E U M3 F Z H3 ((i1.trans i2).trans i3) (s.go j<|(i1.trans i2).trans i3)⟩
end
section
variable{o value:eH}{f:Str}{tpos:Pos}{ta tv:bh}{C:ca}
noncomputable def bE(f:Str)(v:D):List (Str×D)->List (Str×D)
 |[]=>[(f,v)]
 |(g,w)::r=>if g=f then (g,v)::r else (g,w)::bE f v r
theorem Rkv.lookup{fs:List (Str×D)}{j:List (Str×V)}(h:Rkv K H fs j)(f:Str):(fs.lookup f=bb/\j.lookup f=bb)\/∃d v,fs.lookup f=ap d/\j.lookup f=ap v/\Rp K H d v:=by
 induction h with
 |nil=>exact .inl ⟨rfl,rfl⟩
 |@cons p q ps qs r t ih=>
  obtain⟨l,d⟩:=p;obtain⟨w,v⟩:=q;obtain⟨e,r⟩:=r;dsimp only at e r;subst e;rw[RA,RA];cases m:f==l with
  |true=>exact .inr ⟨d,v,rfl,rfl,r⟩
  |false=>exact ih
theorem ER(f:Str)(v:V):∀h:List (Str×V),da f v h=(match h with|[]=>[(f,v)]|(g,w)::r=>if g=f then (g,v)::r else (g,w)::da f v r)
 |[]=>rfl
 |(g,w)::r=>by rw[da]
theorem j6{K:Pg}{H:Hp}{f:Str}{d:D}{v:V}(h:Rp K H d v):∀{fs:List (Str×D)}{ws:List (Str×V)},Rkv K H fs ws->Rkv K H (bE f d fs) (_2.da f v ws)
 |_,_,.nil=>.cons ⟨rfl,h⟩ .nil
 |(k1,d1)::fs,(k2,v1)::ws,.cons r t=>by
  obtain⟨e,r⟩:=r;dsimp only at e r;subst e;rw[ER];show Rkv K H (if k1=f then (k1,d)::fs else (k1,d1)::bE f d fs) (if k1=f then (k1,v)::ws else (k1,v1)::_2.da f v ws)
  split
  .exact .cons ⟨rfl,h⟩ t
  .exact .cons ⟨rfl,r⟩ (j6 h t)
def aV(C:ca)(ta:bh)(f:Str):bh:=λU M Q=>ta U M λx M1=>match x with
 |.ref a=>match M1 a with
  |some (.ins C' fs)=>C'=C/\match fs.lookup f with
   |some d=>Q d M1
   |none=>False
  |_=>False
 |_=>False
theorem Jb(c:Cls X.K C)(n:NoAttr X.K C f)(J:DE X B e ta)(I:kl e f X.env (eX e X.env)=eX e X.env:=by rfl):DE X B (.Attribute e f pos) (aV C ta f):=by
 refine aW (Km J I) ?_
 rintro Z H Q ⟨U,M,QQ,s,h,u⟩
 refine⟨U,M,_,s,h,λx M1 j v1 H1 l i1 q=>?_⟩
 split at j
 .rename_i a
  cases q
  split at j
  .rename_i C' fs G
   obtain⟨rfl,j⟩:=j;obtain⟨y,F,E,w⟩:=l _ _ G
   split at j
   .rename_i d m
    rcases w.lookup f with⟨z,_⟩|⟨d',v,z1,z2,z3⟩
    .rw[m]at z;cases z
    .rw[m]at z1;cases z1
     exact⟨a,_,y,F,v,rfl,E,c,n,z2,u _ M1 j _ H1 l i1 z3⟩
   .exact j.elim
  .exact j.elim
 .exact j.elim
def cC(C:ca)(ta tv:bh)(f:Str):aA:=λD U M=>tv U M λy M1=>ta U M1 λx M2=>match x with
 |.ref a=>match M2 a with
  |some (.ins C' fs)=>C'=C/\fs.length<1000/\D.nx U (M2.upd a<|.ins C<|bE f y fs)
  |_=>False
 |_=>False
theorem Lg(c:Cls X.K C)(n:NoAttr X.K C f)(ha:DE X B o ta)(hv:DE X B value tv)(hs:x9 value (ap<|.Attribute o f pos') pos.line X.env=pure false:=by rfl):DS X B (.Assign [.Attribute o f pos'] value pos) (cC C ta tv f):=by
 refine bU (L0 ha hv hs) ?_
 rintro D Z H ⟨U,M,DD,s,h,up⟩
 refine⟨U,M,_,s,h,λy M1 h1 v1 H1 rh1 i1 r1=>?_⟩;refine⟨U,M1,_,s.go rh1 i1,h1,λx M2 h2 v2 H2 rh2 i2 r2=>?_⟩
 split at h2
 .rename_i a
  cases r2
  split at h2
  .rename_i C' fs hM
   obtain⟨rfl,hl,h2⟩:=h2;obtain⟨dx,ws,e1,e2⟩:=rh2 _ _ hM;have i3:Frm M2 H2 (M2.upd a<|.ins C'<|bE f y fs) (upd H2 a<|.ins C' dx<|_2.da f v1 ws):=Frm.put (.inr ⟨_,hM⟩);refine⟨a,C',dx,ws,rfl,e1,c,n,by rw[<- e2.length];exact hl,up.nx _ _ h2 Z _ ((i1.trans i2).trans i3)<|s.go (rh2.put (by rw[e1];trivial) ⟨dx,_,upd_same,?_⟩)<|(i1.trans i2).trans i3⟩
   exact(j6 (r1.mf rh1 i2) e2).mono (i3.imm rh2)
  .exact h2.elim
 .exact h2.elim
structure BxW(c:eU)(tb:aA)(D:DEnds):Type
structure BxF(g:ju)(tb:aA)(D:DEnds)(ok:Mem->Prop):Type
def cA(c:eU)(tb:aA)(D:DEnds)(bx:BxW c tb D):Nat->Dl->Mem->Prop
 |0,_,_=>False
 |n+1,U,M=>c U M λb M1=>if b=true then tb { D with nx:=cA c tb D bx n,ct:=cA c tb D bx n,bk:=D.nx } U M1 else D.nx U M1
noncomputable def h_(c:eU)(tb:aA):aA:=λD U M=>∃n,cA c tb D ⟨⟩ n U M
theorem CN{l:Xv}{F:eU}(Q:W3 (cT X.prog X.w) X.A X.env X.xe)(S:DT X B c F)(R:zi X B l tb):DS X B (.While c l [] pos) (h_ F tb):=by
 refine bU (BR Q S R) ?_
 rintro D Z H ⟨U,M,DD,s,⟨n,h⟩,L⟩
 refine⟨λm j H'=>∃δ' M',SR X B δ' M' j H'/\Frm M H M' H'/\cA F tb DD ⟨⟩ m δ' M',⟨n,U,M,s,Frm.refl,h⟩,?_⟩
 rintro m N H1 ⟨y,M1,O,i1,P⟩
 cases m with
 |zero=>exact(show False from P).elim
 |succ m=>
  refine⟨y,M1,_,O,P,λb M2 q H2 E i2=>?_⟩;cases b with
  |false=>rw[if_neg PH]at q ⊢;exact L.nx _ _ q N H2 (i1.trans i2) (O.go E i2)
  |true=>
   rw[if_pos rfl]at q ⊢;refine⟨λj H'=>∃δ' M',SR X B δ' M' j H'/\Frm M H M' H'/\cA F tb DD ⟨⟩ m δ' M',λj H' z=>⟨m,RZ _,z⟩,?_⟩;refine⟨y,M2,_,O.go E i2,q,⟨?_,(L.go<|i1.trans i2).rt,(L.go<|i1.trans i2).nx,?_⟩⟩
   .exact λv M3 G J H3 i3 I=>⟨v,M3,I,(i1.trans i2).trans i3,G⟩
   .exact λv M3 G J H3 i3 I=>⟨v,M3,I,(i1.trans i2).trans i3,G⟩
structure DIt where
 items:List D
 src:List (ca×List D)
def DIt.ok(I:DIt)(M:Mem):Prop:=∀p∈I.src,M p.1=ap (.lst p.2)
noncomputable abbrev uZ:=Dl->Mem->(DIt->Mem->Prop)->Prop
def NC(K:Pg)(H0:Hp)(it:DIt)(J:It):Prop:=∀(i:Nat)(H:Hp)(M:Mem),Imm H0 H->RepH K H M->it.ok M->
 (∀d,it.items[i]?=ap d->J.go i H/\∀x H',J.yld i H x H'->Frm M H M H'/\RepH K H' M/\Rp K H' d x)/\(it.items.length<=i->J.stop i H)
inductive liftI(X:Cx)(B:Bd)(T:uZ)(Z:St)(H:Hp)(R:It->Hp->Prop):Prop
 |mk (U:Dl) (M:Mem) (RR:DIt->Mem->Prop) (s:SR X B U M Z H) (h:T U M RR) (u:∀it M',RR it M'->∀J H',RepH X.K H' M'->Frm M H M' H'->NC X.K H' it J->R J H'):liftI X B T Z H R
def DI(X:Cx)(B:Bd)(tg iter:eH)(T:uZ):Prop:=PI X tg iter (liftI X B T)
theorem gx{j:eH}{t t':TI}(h:PI X tg j t)(w:∀Z H Q,t' Z H Q->t Z H Q):PI X tg j t':=λl s Z H Q I q=>h l s Z H Q I (w Z H Q q)
def iG(g:ju)(tb:aA)(DD:DEnds)(ok:Mem->Prop)(b:BxF g tb DD ok):List D->Dl->Mem->Prop
 |[],U,M=>ok M/\DD.nx U M
 |x::xs,U,M=>ok M/\g x U M λh M2=>tb { DD with nx:=iG g tb DD ok b xs,ct:=iG g tb DD ok b xs,bk:=DD.nx } h M2
noncomputable def cB(wi:uZ)(g:ju)(tb:aA):aA:=λD U M=>wi U M λh M1=>iG g tb D h.ok ⟨⟩ h.items U M1
theorem FU{DD:DEnds}{ok:Mem->Prop}{b:BxF g tb DD ok}{xs:List D}{U:Dl}(h:iG g tb DD ok b xs U M):ok M:=by
 cases xs with
 |nil=>exact h.1
 |cons _ _=>exact h.1
theorem JI{j:eH}{v:Xv}{wi:uZ}(hp:W3 (cT X.prog X.w) X.A X.env X.xe)(hc:X.calm=true)(hi:DI X B tg j wi)(hg:DG X B tg g)(hb:zi X B v tb)(hs:∀x,Ps j X.env x=pure x:=by intro _;rfl):DS X B (.For tg j v [] pos) (cB wi g tb):=by
 refine bU (L5 hp hc hi hg hb hs) ?_
 rintro D Z H ⟨U,M,DD,s,h,Q⟩
 refine⟨U,M,_,s,h,λq M1 h1 J H1 I i1 hJ=>?_⟩;refine⟨λi m l H'=>m=q.items.length-i/\i<=q.items.length/\∃δ' M',SR X B δ' M' l H'/\Frm M1 H1 M' H'/\iG g tb DD q.ok ⟨⟩ (q.items.drop i) δ' M',⟨_,rfl,QY _,U,M1,s.go I i1,Frm.refl,h1⟩,?_⟩
 rintro i m P H2 ⟨rfl,hi',L,M2,N,i2,G⟩
 have S:=FU G;obtain⟨W,y⟩:=hJ i H2 M2 (i2.imm I) N.rh S
 by_cases F:i<q.items.length
 .rw[SD F]at G
  obtain⟨go,hy⟩:=W _ (Pb F);refine .inr ⟨go,λl H'=>∃δ' M',SR X B δ' M' l H'/\Frm M1 H1 M' H'/\iG g tb DD q.ok ⟨⟩ (q.items.drop (i+1)) δ' M',λl H' z=>⟨q.items.length-(i+1),by omega,rfl,F,z⟩,λx H3 hx=>?_⟩
  obtain⟨i3,O,rx⟩:=hy x H3 hx;refine⟨_,L,M2,_,N.go O i3,rx,G.2,λY M4 h4 σ4 H4 i4 s4=>?_⟩;have i14:=(i2.trans i3).trans i4;refine⟨Y,M4,_,s4,h4,⟨?_,(Q.go<|i1.trans i14).rt,(Q.go<|i1.trans i14).nx,?_⟩⟩
  .exact λE M5 R T H5 i5 s5=>⟨E,M5,s5,i14.trans i5,R⟩
  .exact λE M5 R T H5 i5 s5=>⟨E,M5,s5,i14.trans i5,R⟩
 .rw[S2 (by omega)]at G
  exact .inl ⟨y (by omega),Q.nx _ _ G.2 P H2 (i1.trans i2) N⟩
end
end _3
namespace _2
open PySem PySem.Spec PyProof.Rows
section
variable {X:Cx}{B:Bd}{tg:eH}
noncomputable def Mj(K:Pg)(tl:TE):TI:=λZ H R=>tl Z H λx H1=>∃a b xs,x=.ref a/\mr K b H1 a xs/\R (if b=true then Itl K a else Itt K a) H1
theorem Fv{l:eH}{n:TE}(z:PE X l n):PI X tg l (Mj X.K n):=by
 intro f s Z H R I h;refine bv (z f s Z H _ I h) λv c ⟨x,H1,I1,u,r⟩=>?_;obtain⟨a,b,j,e,m,q⟩:=r;subst e;cases u;cases b with
 |true=>
  obtain⟨g,y,p,w⟩:=I1.list (show SqL X.K H1 a j from m);refine V9 p.isList ?_;refine⟨c.heap.objs.size,[c.heap.objs.size],_,_,H1,rfl,I1.kept (t':=c.toks) λb o e=>Pe _ e,AH a _,⟨_,Pm _ rfl,rfl,rfl⟩,λb i=>?_,q⟩;have e:b=c.heap.objs.size:=by simpa using i
  subst e;exact I1.fpOk (Pl _) (I1.hok.fresh<|Pl _)
 |false=>
  obtain⟨g,y,p,w⟩:=I1.tuple (show ic X.K H1 a j from m);refine wpAny_pyIter_tuple (show c.heap.IsTuple a g.toArray from p) ?_;refine⟨c.heap.objs.size,[c.heap.objs.size],_,_,H1,rfl,I1.kept (t':=c.toks) λb o e=>Pe _ e,wR a _,⟨_,Pm _ rfl,rfl,rfl⟩,λb i=>?_,q⟩;have e:b=c.heap.objs.size:=by simpa using i
  subst e;exact I1.fpOk (Pl _) (I1.hok.fresh<|Pl _)
noncomputable def I_(K:Pg)(t:TA):TI:=λZ H R=>t Z H λa H1=>∃b l xs,a=[.ref l]/\mr K b H1 l xs/\R (Ite K b l) H1
theorem CL{a:eH}{j:Xu}{F:Nat}{G:Pos}{v:TA}{p pos:Pos}(J:Gl X "enumerate")(N:X.mg "enumerate"=bb)(M:PA X [a] v)(L:cy [a] X.env=[(cm,eX a X.env)]:=by rfl):
  PI X (.Tuple j F G) (.Call (.Name "enumerate" p) [a] [] pos) (I_ X.K v):=by
 intro g s Z H R I h;refine Call_ (dM I J N (by decide +kernel:eT "enumerate"=ap (.type "enumerate"))<|P5 (bv (M pos g s Z H _ I h) λP f ⟨S,H1,I1,w,m⟩=>?_) L rfl)
 obtain⟨b,l,O,e,m,q⟩:=m;subst e;obtain⟨Q,rfl,n⟩:=w.one;cases n;obtain⟨x,T,sq,z⟩:=I1.src m;refine zS sq λr u C A y=>?_;have I2:Inv X g Z H1 { f with heap:=r }:=I1.kept (t':=f.toks) y;refine wpAny_pyIter_enum (s:={ f with heap:=r }) u ?_;refine⟨f.heap.objs.size+1,[f.heap.objs.size+1,f.heap.objs.size],_,_,H1,rfl,I2,z_ b l _ _ (show (_:Nat)≠(_:Nat) by lia),⟨⟨_,u⟩,C⟩,λc E=>?_,q⟩
 have i:f.heap.objs.size<=c:=by
  have o:c=f.heap.objs.size+1\/c=f.heap.objs.size:=by simpa using E
  rcases o with e|e<;>rw[e]<;>first|exact QA _ _|exact Pl _
 exact I1.fpOk (H':=H1) i (I1.hok.fresh i)
end
end _2
namespace _3
open PySem _2
variable{C f:ca}{B:Bd}{X:Cx}{Q:DK}{EE:DX}{U:Dl}{a e:eH}{fd:ff}{base:fx}{H H':Hp}{Z:_2.St}{elts es:Xu}{N ps:Xr}{M M':Mem}{n x1:Nat}{K:Pg}{Xn p pos tp:Pos}{P:eC}{scope:Pv}{T:Sd}{st:rc}{Xj x:Str}{mg:Xy}{w:fe}{E:XK}{ta:eQ}{g:ju}{r:x_}
section
variable{tg:eH}
def b6(d:D)(xs:List D):List (ca×List D):=match d with
 |.ref a=>[(a,xs)]
 |_=>[]
theorem vP{d:D}{v:V}{xs:List D}(o:RepH K H M)(r:Rp K H d v)(e:aE M d=ap xs):∃p b,v=.ref p/\∀H' M',Imm H H'->RepH K H' M'->(∀q∈b6 d xs,M' q.1=ap (.lst q.2))->∃vs,mr K b H' p vs/\Rps K H' xs vs:=by
 cases d with
 |tup ys=>
  cases e;obtain⟨p,vs,rfl,h,r⟩:=r;exact⟨p,cm,rfl,λH' M' i _ _=>⟨vs,(h.mono i).sq,r.mono i⟩⟩
 |lst ys=>
  cases e;obtain⟨p,vs,rfl,h,r⟩:=r;exact⟨p,true,rfl,λH' M' i _ _=>⟨vs,(h.mono i).sq,r.mono i⟩⟩
 |mt ys=>
  cases e;obtain⟨p,vs,rfl,h,r⟩:=r;exact⟨p,cm,rfl,λH' M' i _ _=>⟨vs,h.sq,r.mono i⟩⟩
 |ml ys=>
  cases e;obtain⟨p,vs,rfl,h,r⟩:=r;exact⟨p,true,rfl,λH' M' i _ _=>⟨vs,(h.mono i).sq,r.mono i⟩⟩
 |ref a=>
  refine⟨a,true,r,λH' M' i c m=>?_⟩;obtain⟨vs,l,j⟩:=c _ _ (m (a,xs)<|by simp[b6])
  exact⟨vs,SqL.of l,j⟩
 |_=>cases e
theorem vo{d:D}{xs:List D}(e:aE M d=ap xs):∀q∈b6 d xs,M q.1=ap (.lst q.2):=by
 cases d with
 |ref a=>
  intro q b;have:q=(a,xs):=by simpa [b6] using b
  subst this;simp only[aE]at e
  split at e
  .rename_i c h;cases e;exact h
  .cases e
 |_=>intro q b;simp[b6]at b
def bo(te:bh):uZ:=λU M R=>te U M λd M1=>match aE M1 d with
 |some xs=>R ⟨xs,b6 d xs⟩ M1
 |none=>False
theorem JY{l:eH}{O:bh}(A:DE X B l O):DI X B tg l (bo O):=by
 refine gx (Fv A) ?_
 rintro Z H R ⟨U,M,RR,s,h,W⟩
 refine⟨U,M,_,s,h,λd M1 L v H1 o i1 S=>?_⟩
 split at L
 .rename_i xs e
  obtain⟨p,b,rfl,m⟩:=vP o S e;obtain⟨vs,Y,_⟩:=m H1 M1 Imm.refl o (vo e);refine⟨p,b,vs,rfl,Y,W _ M1 L _ H1 o i1 λi H2 M2 i2 u J=>?_⟩;obtain⟨c,j,I⟩:=m H2 M2 i2 u J;have A:=I.length;cases b with
  |true=>
   refine⟨λd F=>?_,λy=>⟨c,j,by rw[<- A];exact y⟩⟩
   obtain⟨w,z,q⟩:=I.get F;refine⟨⟨c,w,j,z⟩,?_⟩
   rintro x H3 ⟨rfl,G⟩
   have:=G c j;rw[z]at this;cases this;exact⟨Frm.refl,u,q⟩
  |false=>
   refine⟨λd F=>?_,λy=>⟨c,j,by rw[<- A];exact y⟩⟩
   obtain⟨w,z,q⟩:=I.get F;refine⟨⟨c,w,j,z⟩,?_⟩
   rintro x H3 ⟨rfl,G⟩
   have:=G c j;rw[z]at this;cases this;exact⟨Frm.refl,u,q⟩
 .exact L.elim
noncomputable def cj(lo:Int)(n:Nat):List D:=(PD n).map λ(i:Nat)=>D.int (lo+i)
def cM(t:eQ):uZ:=λU M R=>t U M λb M1=>match b with
 |[.int j]=>-(2 ^ 62)<=j/\j<2 ^ 62/\R ⟨cj 0 j.toNat,[]⟩ M1
 |_=>False
theorem L1{l:Int}:NC K H ⟨cj l n,[]⟩ (Itr l n):=λi H2 M2 i2 m _=>by
 have b:(cj l n).length=n:=by simp[cj]
 refine⟨λd j=>?_,λc=>by rw[b]at c;exact c⟩
 have o:i<n:=by
  rcases RE i n with h|h
  .exact h
  .rw[Qf (by rw[b];exact h)]at j;cases j
 have q:d=.int (l+i):=by
  simp only[cj,Ph,U8 o]at j;exact(Qa j).symm
 subst q;refine⟨o,?_⟩
 rintro x H3 ⟨rfl,rfl⟩
 exact⟨Frm.refl,m,rfl⟩
theorem zL(m:Gl X "range")(u:X.mg "range"=bb)(o:DA X B [a] ta)(q:cy [a] X.env=[(cm,eX a X.env)]:=by rfl):DI X B tg (.Call (.Name "range" p) [a] [] pos) (cM ta):=by
 refine gx (A2 m u o q) ?_
 rintro Z H R ⟨U,M,RR,s,h,j⟩
 refine⟨U,M,_,s,h,λds M1 b y H1 c i1 i=>?_⟩
 split at b
 .obtain⟨v,rfl,l⟩:=ib (ds:=[]) i
  cases l;exact⟨_,rfl,b.1,b.2.1,j _ M1 b.2.2 _ H1 c i1 L1⟩
 .exact b.elim
noncomputable def uy(xs:List D):List D:=(xs.zipIdx).map λp=>D.tup [.int (p.2:Nat),p.1]
theorem A9{xs:List D}{i:Nat}:(uy xs)[i]?=(xs[i]?).map λd=>D.tup [.int (i:Nat),d]:=by
 simp[uy,Ph,R6];cases xs[i]?<;>simp
def ot(t:eQ):uZ:=λU M R=>t U M λb M1=>match b with
 |[d]=>match aE M1 d with
  |some xs=>R ⟨uy xs,b6 d xs⟩ M1
  |none=>False
 |_=>False
theorem F_(hg:Gl X "enumerate")(hm:X.mg "enumerate"=bb)(ha:DA X B [a] ta)(hs:cy [a] X.env=[(cm,eX a X.env)]:=by rfl):
  DI X B (.Tuple elts x1 tp) (.Call (.Name "enumerate" p) [a] [] pos) (ot ta):=by
 refine gx (CL hg hm ha hs) ?_
 rintro Z H R ⟨U,M,RR,s,h,Y⟩
 refine⟨U,M,_,s,h,λds M1 q L H1 l i1 S=>?_⟩
 split at q
 .obtain⟨v,rfl,rv⟩:=ib (ds:=[]) S
  split at q
  .rename_i xs e
   obtain⟨p,b,rfl,c⟩:=vP l rv e;obtain⟨L,hq,_⟩:=c H1 M1 Imm.refl l (vo e);refine⟨b,p,L,rfl,hq,Y _ M1 q _ H1 l i1 λi H2 M2 i2 o u=>?_⟩;obtain⟨j,m,I⟩:=c H2 M2 i2 o u;have W:=I.length;refine⟨λd G=>?_,λF=>⟨j,m,by rw[<- W];simpa [uy] using F⟩⟩
   rw[A9]at G;obtain⟨d0,A,rfl⟩:=Qp.mp G;obtain⟨w,J,y⟩:=I.get A;refine⟨⟨j,w,m,J⟩,?_⟩
   rintro x H3 ⟨T,x',z,rfl,rfl,O⟩
   have:=O j m;rw[J]at this;cases this;have i3:Imm H2 (upd H2 T<|.tup [.int i,w]):=Imm.new z;exact⟨Frm.new z,o.new z,T,_,rfl,upd_same,.cons rfl<|.cons (y.mono i3) .nil⟩
  .exact q.elim
 .exact q.elim
noncomputable def uK(xs ys:List D):List D:=(xs.zip ys).map λp=>D.tup [p.1,p.2]
theorem Bm{xs ys:List D}{i:Nat}{d:D}(h:(uK xs ys)[i]?=ap d):∃x y,xs[i]?=ap x/\ys[i]?=ap y/\d=.tup [x,y]:=by
 simp only[uK,Ph,Qp]at h;obtain⟨⟨x,y⟩,b,rfl⟩:=h;rw[RF]at b;exact⟨x,y,b.1,b.2,rfl⟩
noncomputable def wg:List D->List (List D)->List (ca×List D)
 |d::ds,xs::xss=>b6 d xs++wg ds xss
 |_,_=>[]
abbrev NA(M:Mem)(ds:List D)(xss:List (List D)):Prop:=Wh (λd xs=>aE M d=ap xs) ds xss
structure Zps(xss:List (List D))(zs:List D):Prop where
 get:∀(i:Nat)(d:D),zs[i]?=ap d->∃ys,d=.tup ys/\xss.map (·[i]?)=ys.map ap
 stop:∀i:Nat,zs.length<=i->∃xs∈xss,xs.length<=i
theorem zn:∀{ds:List D}{xss:List (List D)}{vs:List V},RepH K H M->Rps K H ds vs->NA M ds xss->(∀q∈wg ds xss,M q.1=ap (.lst q.2))/\
  ∃L:List (Bool×ca),vs=L.map (λp=>.ref p.2)/\L.length=xss.length/\∀H' M',Imm H H'->RepH K H' M'->(∀q∈wg ds xss,M' q.1=ap (.lst q.2))->
   Wh (λ(p:Bool×ca) xs=>∃us,mr K p.1 H' p.2 us/\Rps K H' xs us) L xss
 |_,_,_,_,r,.nil=>⟨λq h=>by simp[wg]at h,[],r,rfl,λ_ _ _ _ _=>.nil⟩
 |_::_,_,_,rh,⟨v,vs,e,r,rs⟩,.cons h t=>by
  subst e;obtain⟨a,L,rfl,l,k⟩:=zn rh rs t;obtain⟨p,b,rfl,g⟩:=vP rh r h;exact⟨λq c=>(PU.1 c).elim (vo h q) (a q),(b,p)::L,rfl,by simp[l],λH' M' i j ok=>.cons (g H' M' i j λq c=>ok q (R5 _ c)) (k H' M' i j λq c=>ok q (P9 _ c))⟩
theorem z0{i:Nat}{H':Hp}(c:Imm H H'):∀{L:List (Bool×ca)}{xss:List (List D)}{ys:List D}{zs:List V},Wh (λ(p:Bool×ca) xs=>∃us,mr K p.1 H p.2 us/\Rps K H xs us) L xss->xss.map (·[i]?)=ys.map ap->zs.length=L.length->
  (∀(j:Nat)(p:Bool×ca),L[j]?=ap p->∀us,mr K p.1 H p.2 us->us[i]?=zs[j]?)->Rps K H' ys zs
 |_,_,[],zs,.nil,_,l,_=>by
  have:=QE l;subst this;rfl
 |_,_,_::_,_,.nil,e,_,_=>by simp at e
 |_,_,[],_,.cons _ _,e,_,_=>by simp at e
 |_,_,_::_,[],.cons _ _,_,l,_=>by simp at l
 |_,_,y::ys,z::zs,.cons h t,e,l,g=>by
  simp only[Pc,Qm]at e;obtain⟨us,sq,r⟩:=h;obtain⟨w,m,b⟩:=r.get e.1;have:=g 0 _ rfl us sq;rw[m]at this;cases this;exact .cons (b.mono c) (z0 c t e.2 (by simpa using l) λj p o=>g (j+1) p (by simpa using o))
theorem mC{P:(Bool×ca)->List D->Prop}:∀{L:List (Bool×ca)}{xss:List (List D)},Wh P L xss->(∀p∈L,∃xs∈xss,P p xs)/\∀xs∈xss,∃p∈L,P p xs
 |_,_,.nil=>⟨λp h=>by simp at h,λp h=>by simp at h⟩
 |_,_,.cons h t=>by
  obtain⟨a,b⟩:=mC t;exact⟨λp c=>(Po.1 c).elim (λe=>⟨_,.head _,e▸h⟩) λm=>let ⟨x,y,z⟩:=a p m;⟨x,.tail _ y,z⟩,λp c=>(Po.1 c).elim (λe=>⟨_,.head _,e▸h⟩) λm=>let ⟨x,y,z⟩:=b p m;⟨x,.tail _ y,z⟩⟩
theorem zx{f:List D->Mem->(DIt->Mem->Prop)->Prop}(hf:∀ds M1 R,f ds M1 R->∃b zs,(b.length=2\/b.length=3)/\NA M1 ds b/\Zps b zs/\R ⟨zs,wg ds b⟩ M1){as:Xu}(hg:Gl X "zip")(hm:X.mg "zip"=bb)(ha:DA X B (a::as) ta)(hs:cy (a::as) X.env=(cm,eX a X.env)::cy as X.env)(O:(PySem.backTo pos<|starEach as X.env).any (·.1)=cm):
  DI X B (.Tuple elts x1 tp) (.Call (.Name "zip" p) (a::as) [] pos) (λU M R=>ta U M λds M1=>f ds M1 R):=by
 refine gx (FI hg hm ha hs O) ?_
 rintro Z H R ⟨U,M,RR,s,h,up⟩
 refine⟨U,M,_,s,h,λds M1 I S H1 j i1 r1=>?_⟩;obtain⟨b,zs,n,sq,z,I⟩:=hf _ _ _ I;obtain⟨ok,L,rfl,l,k⟩:=zn j r1 sq;refine⟨L,by lia,rfl,λp m=>?_,up _ M1 I _ H1 j i1 λi H2 M2 i2 A F=>?_⟩
 .obtain⟨c,_,o,h,_⟩:=(mC<|k H1 M1 Imm.refl j ok).1 p m
  exact⟨o,h⟩
 .have q:=k H2 M2 i2 A F
  obtain⟨W,qb⟩:=mC q;refine⟨λd Y=>?_,λJ=>⟨λp m=>?_,?_⟩⟩
  .obtain⟨ys,rfl,e⟩:=z.get i d Y
   refine⟨λp m=>?_,?_⟩
   .obtain⟨c,u,o,h,r⟩:=W p m
    have:c[i]?∈ys.map some:=e▸PV (f:=λc:List D=>c[i]?) u;obtain⟨y,_,e⟩:=Pq.1 this;obtain⟨v,hv,_⟩:=r.get e.symm;exact⟨o,v,h,hv⟩
   .rintro x H3 ⟨T,S,G,rfl,rfl,hl,u⟩
    exact⟨Frm.new G,A.new G,T,S,rfl,upd_same,z0 (Imm.new G) q e hl u⟩
  .obtain⟨c,_,o,h,_⟩:=W p m
   exact⟨o,h⟩
  .obtain⟨c,u,le⟩:=z.stop i J
   obtain⟨p,m,o,h,r⟩:=qb c u;exact⟨p,m,o,h,by rw[<- r.length];exact le⟩
def NT(t:eQ):uZ:=λU M R=>t U M λb M1=>match b with
 |[d,e]=>match aE M1 d,aE M1 e with
  |some xs,ap ys=>R ⟨uK xs ys,b6 d xs++b6 e ys⟩ M1
  |_,_=>False
 |_=>False
theorem Je{b:eH}(hg:Gl X "zip")(hm:X.mg "zip"=bb)(ha:DA X B [a,b] ta)(hs:cy [a,b] X.env=[(cm,eX a X.env),(cm,eX b X.env)]:=by rfl)(hs2:cy [b] X.env=[(cm,eX b X.env)]:=by rfl):
  DI X B (.Tuple elts x1 tp) (.Call (.Name "zip" p) [a,b] [] pos) (NT ta):=by
 refine zx (λds M1 R h=>?_) hg hm ha (by rw[hs,hs2]) (by rw[hs2];rfl)
 split at h
 .split at h
  .rename_i d e _ xs ys e1 e2
   refine⟨[xs,ys],uK xs ys,.inl rfl,.cons e1 (.cons e2 .nil),⟨λi z hz=>?_,λi hle=>?_⟩,by simpa [wg] using h⟩
   .obtain⟨x,y,hx,hy,rfl⟩:=Bm hz
    exact⟨_,rfl,by simp[hx,hy]⟩
   .have:(uK xs ys).length=min xs.length ys.length:=by simp[uK]
    simp only[Po,QL,or_false,exists_eq_or_imp,exists_eq_left];lia
  .exact h.elim
 .exact h.elim
end
noncomputable def Gh:Bd:=⟨λ_ _=>True,λ_ _=>trivial⟩
section
inductive liftE0(K:Pg)(T:bh)(Z:_2.St)(H:Hp)(Q:VK):Prop
 |mk (U:Dl) (M:Mem) (QQ:DK) (rh:RepH K H M) (rs:RepS K H U Z) (h:T U M QQ) (u:Up K M H QQ Q):liftE0 K T Z H Q
inductive liftT0(K:Pg)(T:eU)(Z:_2.St)(H:Hp)(Q:Bool->Hp->Prop):Prop
 |mk (U:Dl) (M:Mem) (QQ:Bool->Mem->Prop) (rh:RepH K H M) (rs:RepS K H U Z) (h:T U M QQ) (u:UpT K M H QQ Q):liftT0 K T Z H Q
inductive liftG0(K:Pg)(g:ju)(v:V)(Z:_2.St)(H:Hp)(Q:_2.St->Hp->Prop):Prop
 |mk (d:D) (U:Dl) (M:Mem) (QQ:Dl->Mem->Prop) (rh:RepH K H M) (rs:RepS K H U Z) (r:Rp K H d v) (h:g d U M QQ) (u:∀δ' M',QQ δ' M'->∀σ' H',Frm M H M' H'->RepH K H' M'->RepS K H' δ' σ'->Q σ' H'):liftG0 K g v Z H Q
theorem B1{T:bh}(h:DE X Gh e T):PE X e (liftE0 X.K T):=aW h λZ H Q ⟨U,M,QQ,b,c,h,u⟩=>⟨U,M,QQ,⟨trivial,b,c⟩,h,u⟩
theorem CQ(h:DG X Gh e g):PG X e (liftG0 X.K g):=k4 h λv Z H Q ⟨d,U,M,QQ,rh,rs,r,h,u⟩=>⟨d,U,M,QQ,⟨trivial,rh,rs⟩,r,h,λb M' q c H' f s=>u b M' q c H' f s.rh s.rs⟩
theorem RepH.add{a:ca}{o:MO}(r:RepH K H M)(n:RepO K H a o):RepH K H (M.upd a o):=λb p e=>by
 by_cases c:b=a
 .subst c;rw[Mem.upd_same]at e;cases e;exact n
 .rw[ae c]at e;exact r b p e
noncomputable def aY(ls:Xr)(js:List Nat)(U:Dl):Dl:=ls.map (λ_=>bb)++js.map λj=>(U[j]?).join
theorem RepS.start(r:RepS K H U Z)(ls:Xr)(c:List Nat):RepS K H (aY ls c U) (dg ls c Z):=by
 refine⟨by simp[aY,dg],λi d e=>?_⟩
 unfold aY at e;unfold dg
 by_cases b:i<ls.length
 .rw[QR (by simpa using b),Ph,Pb b]at e
  cases e
 .rw[Qy (by simpa using b),Pa,Ph]at e
  rw[Qy (by simpa using b),Pa,Ph]
  cases h:c[i-ls.length]? with
  |none=>rw[h]at e;cases e
  |some j=>
   rw[h]at e;have q:(U[j]?).join=ap d:=by simpa using e
   have m:U[j]?=ap (ap d):=by
    cases z:U[j]? with
    |none=>rw[z]at q;cases q
    |some o=>rw[z]at q;have u:o=ap d:=q;rw[u]
   obtain⟨v,s,l⟩:=r.get j d m;exact⟨v,by simp[s],l⟩
structure BxC(g:ju)(tt:eU)(te:bh)(ok:Mem->Prop)(Q:List D->Mem->Prop):Type
def bV(g:ju)(tt:eU)(te:bh)(ok:Mem->Prop)(Q:List D->Mem->Prop)(b:BxC g tt te ok Q):List D->List D->Dl->Mem->Prop
 |[],Xl,_,M=>ok M/\Q Xl M
 |x::xs,Xl,U,M=>ok M/\g x U M λh M2=>tt h M2 λc M3=>if c=true then te h M3 λy M4=>Xl.length<sizeLine/\bV g tt te ok Q b xs (Xl++[y]) h M4 else bV g tt te ok Q b xs Xl h M3
noncomputable def aJ(wi:uZ)(ls:Xr)(js:List Nat)(g:ju)(tt:eU)(te:bh):bh:=λU M Q=>wi U M λc M1=>bV g tt te c.ok (λb M'=>∀p,M' p=bb->Q (.ref p) (M'.upd p<|.lst b)) ⟨⟩ c.items [] (aY ls js U) M1
theorem BS{tt:eU}{te:bh}{ok:Mem->Prop}{xs Xl:List D}{Q:List D->Mem->Prop}{b:BxC g tt te ok Q}(h:bV g tt te ok Q b xs Xl U M):ok M:=by
 cases xs with
 |nil=>exact h.1
 |cons _ _=>exact h.1
variable{tg iter elt:eH}{ifs:Xu}{cl:List (Str×ca)}{ls fs:Xr}{js:List Nat}{wi:uZ}{tt:eU}{te:bh}
theorem oP{Q:VK}(h:liftE X B (aJ wi ls js g tt te) Z H Q):Bp (liftI X B wi) ls js (liftG0 X.K g) (liftT0 X.K tt) (liftE0 X.K te) Z H Q:=by
 obtain⟨U,M,QQ,s,h,u⟩:=h;refine⟨U,M,_,s,h,λit M1 h1 J H1 rh1 f1 hJ p hp=>?_⟩;have hMp:M1 p=none:=rh1.fresh hp
 refine⟨λi m σ' H'=>m=it.items.length-i/\i<=it.items.length/\∃δ' M' Xl ys,RepH X.K H' M'/\RepS X.K H' δ' σ'/\H' p=ap (.lst ys)/\Rps X.K H' Xl ys/\M' p=bb/\Frm M1 H1 M' H'/\
   bV g tt te it.ok (λXl M'=>∀p,M' p=bb->QQ (.ref p) (M'.upd p<|.lst Xl)) ⟨⟩ (it.items.drop i) Xl δ' M',
  ⟨_,rfl,QY _,aY ls js U,M1,[],[],rh1.new hp,((s.rs.mono<|f1.imm s.rh).mono<|Imm.new hp).start ls js,upd_same,.nil,hMp,Frm.new hp,h1⟩,?_⟩
 rintro i m σ2 H2 ⟨rfl,hi,δ2,M2,Xl,ys,rh2,rs2,hp2,ra2,hm2,f2,h2⟩
 have hok:=BS h2;obtain⟨hgo,hstop⟩:=hJ i H2 M2 (f2.imm rh1) rh2 hok
 by_cases hlt:i<it.items.length
 .rw[SD hlt]at h2
  obtain⟨go,hy⟩:=hgo _ (Pb hlt)
  refine .inr ⟨go,λσ' H'=>∃δ' M' Xl ys,RepH X.K H' M'/\RepS X.K H' δ' σ'/\H' p=ap (.lst ys)/\Rps X.K H' Xl ys/\M' p=bb/\Frm M1 H1 M' H'/\
   bV g tt te it.ok (λXl M'=>∀p,M' p=bb->QQ (.ref p) (M'.upd p<|.lst Xl)) ⟨⟩ (it.items.drop (i+1)) Xl δ' M',λσ' H' z=>⟨it.items.length-(i+1),by omega,rfl,hlt,z⟩,λx H3 hx=>?_⟩
  obtain⟨f3,rh3,rx⟩:=hy x H3 hx;refine⟨_,δ2,M2,_,rh3,rs2.mono (f3.imm rh2),rx,h2.2,λδ4 M4 h4 σ4 H4 f4 rh4 rs4=>?_⟩;refine⟨δ4,M4,_,rh4,rs4,h4,λc M5 h5 H5 rh5 f5=>?_⟩;have f35:=(f3.trans f4).trans f5;obtain⟨hp5,hm5⟩:=f35.keep p _ hp2 hm2;cases c with
  |false=>
   try dsimp only
   rw[if_neg PH]at h5 ⊢;exact⟨δ4,M5,Xl,ys,rh5,rs4.mono (f5.imm rh4),hp5,ra2.mf rh2 f35,hm5,f2.trans f35,h5⟩
  |true=>
   try dsimp only
   rw[if_pos rfl]at h5 ⊢;refine⟨δ4,M5,_,rh5,rs4.mono (f5.imm rh4),h5,λy M6 h6 v6 H6 rh6 f6 r6=>?_⟩;obtain⟨hp6,hm6⟩:=f6.keep p _ hp5 hm5;have f26:=f35.trans f6;have ra6:=ra2.mf rh2 f26;refine⟨ys,hp6,by rw[<- ra6.length];exact h6.1,?_⟩
   have im:Imm H6 (upd H6 p<|.lst (ys++[v6])):=Imm.upd (by rw[hp6];trivial)
   refine⟨δ4,M6,Xl++[y],ys++[v6],rh6.keep im λb o hb=>aF (Mem.ne hb hm6),((rs4.mono<|f5.imm rh4).mono<|f6.imm rh5).mono im,upd_same,(ra6.append<|.cons r6 .nil).mono im,hm6,?_,h6.2⟩;refine⟨λb w e n=>?_⟩;obtain⟨e2,n2⟩:=(f2.trans f26).keep b w e n;exact⟨by rw[aF (bc e hp)];exact e2,n2⟩
 .rw[S2 (by omega)]at h2
  refine .inl ⟨hstop (by omega),u _ _ (h2.2 p hm2) _ H2 (rh2.add ⟨ys,hp2,ra2⟩) ?_ rfl⟩
  refine⟨λb w e n=>?_⟩;obtain⟨e1,n1⟩:=f1.keep b w e n;obtain⟨e2,n2⟩:=f2.keep b w e1 n1;exact⟨e2,by rw[ae (bc e1 hp)];exact n2⟩
def Oq(X:Cx)(B:Bd)(ifs:Xu)(T:eU):Prop:=LU X ifs (liftT X B T)
def de:eU:=λ_ M Q=>Q true M
theorem FP:Oq X B [] de:=λb s Z H Q I c=>by obtain⟨U,M,QQ,i,h,u⟩:=c;exact GL b s Z H Q I (u true M h H i.rh Frm.refl)
theorem Fh{c:eH}{t:eU}(h:DT X B c t):Oq X B [c] t:=Fl h
theorem yx{T:eU}(h:Oq X Gh es T):LU X es (liftT0 X.K T):=λb s Z H Q I l=>by obtain⟨U,M,QQ,i,j,c,u⟩:=l;exact h b s Z H Q I ⟨U,M,QQ,⟨trivial,i,j⟩,c,u⟩
def bJ(i:Nat)(t:bh):aA:=λD U M=>t U M λd M1=>D.nx (U.set i<|some d) M1
def cu(i:Nat)(U:Dl)(M:Mem)(Q:Dl->Mem->Prop):Prop:=match U[i]? with
 |some (ap<|.ref a)=>match M a with
  |some (.lst xs)=>Q (U.set i<|some<|.lst xs) (M.del a)
  |_=>Q U M
 |_=>Q U M
def bf(t:aA)(i:Nat):aA:=λD U M=>t { D with nx:=λb M'=>cu i b M' D.nx } U M
theorem uT{α:Type}:∀{l:List α}{i:Nat}{x:α},l[i]?=ap x->l.set i x=l
 |[],_,_,h=>by simp at h
 |_::_,0,_,h=>by simp at h;subst h;rfl
 |_::_,i+1,_,h=>by rw[List.set_cons_succ,uT (by simpa using h)]
theorem K_{t:aA}(i:Nat)(h:DS X B st t):DS X B st (bf t i):=by
 intro Xi s Z H D I ⟨U,M,DD,sr,hT,up⟩;refine bv (h Xi s Z H { D with nx:=λσ' H'=>∃δ' M',cu i δ' M' DD.nx/\Frm M H M' H'/\SR X B δ' M' σ' H' } I ⟨U,M,_,sr,hT,⟨λδ' M' q σ' H' f s'=>⟨δ',M',q,f,s'⟩,up.rt,up.bk,up.ct⟩⟩) λf s' q=>?_;cases f with
 |next=>
  obtain⟨σ',H',I',δ',M',q,f,s'⟩:=q;unfold cu at q
  split at q
  .rename_i a ea
   split at q
   .rename_i xs e
    obtain⟨vs,h1,h2⟩:=s'.rh _ _ e;obtain⟨o,I2⟩:=Inv.freeze I' h1;have im:Imm H' (upd H' a<|.frz o<|.lst vs):=Imm.upd (by rw[h1];trivial)
    obtain⟨v,hv,rv⟩:=s'.rs.get i _ ea;cases rv;refine⟨σ',_,I2,up.nx _ _ q σ' _ (f.trans<|Frm.del ⟨_,e⟩) ⟨B.go s'.i0 (Frm.del ⟨_,e⟩),s'.rh.freeze h1,?_⟩⟩;have:=(s'.rs.mono im).set (i:=i) (d:=.lst xs) (v:=.ref a) ⟨a,vs,rfl,⟨o,upd_same⟩,h2.mono im⟩
    rwa [uT hv]at this
   .exact⟨σ',H',I',up.nx _ _ q σ' H' f s'⟩
  .exact⟨σ',H',I',up.nx _ _ q σ' H' f s'⟩
 |brk=>exact q
 |cont=>exact q
 |ret u=>exact q
end
noncomputable abbrev DX:=ca->Mem->Prop
noncomputable abbrev Sd:=List D->Mem->DK->DX->Prop
noncomputable def oU(P:eC)(w:fe):nV:=λb H s E e c=>∃C,va P w C b H s E e c
def UpX(K:Pg)(M:Mem)(H:Hp)(EE:DX)(E:XK):Prop:=∀C M',EE C M'->∀H',RepH K H' M'->Frm M H M' H'->E (.ref C) bb H'
def t_(K:Pg)(B:Bd)(EE:DX)(E:XK):Prop:=∀C M',EE C M'->∀H',RepH K H' M'->B.p M' H'->E (.ref C) bb H'
theorem UpX.go{M1:Mem}{H1:Hp}(u:UpX K M H EE E)(i:Frm M H M1 H1):UpX K M1 H1 EE E:=λC M' q H' a b=>u C M' q H' a (i.trans b)
noncomputable def bw(K:Pg)(n:Nat)(T:Sd):Sp:=λb H Q E=>b.length=n/\∃ds M QQ EE,RepH K H M/\Rps K H ds b/\T ds M QQ EE/\Up K M H QQ Q/\UpX K M H EE E
def startN(N:Xr)(ds:List D):Dl:=ds.map ap++PN (N.length-ds.length) bb
theorem RepS.startN{ds:List D}{vs:List V}(N:Xr)(r:Rps K H ds vs):RepS K H (_3.startN N ds) (_2.start N vs):=by
 have j:=r.length;refine⟨by simp[_3.startN,_2.start,j],λi d e=>?_⟩
 unfold _3.startN at e;unfold _2.start
 by_cases b:i<ds.length
 .rw[QR (by simpa using b),Ph,Pb b]at e
  have c:ds[i]=d:=by simpa using e
  obtain⟨v,l,h⟩:=r.get (i:=i) (d:=d) (by rw[Pb b,c])
  refine⟨v,?_,h⟩;rw[QR (by simp;lia),Ph,l]
  rfl
 .rw[Qy (by simpa using b),UG]at e
  split at e<;>cases e
section
def drp(Q:DK)(d:D)(M':Mem):Prop:=∃M'',(∀b o,M'' b=ap o->M' b=ap o)/\Q d M''
def aM(EE:DX)(C:ca)(M':Mem):Prop:=∃M'',(∀b o,M'' b=ap o->M' b=ap o)/\EE C M''
theorem am{d:D}(h:Q d M'):drp Q d M':=⟨M',λ_ _ e=>e,h⟩
theorem eA(h:EE C M'):aM EE C M':=⟨M',λ_ _ e=>e,h⟩
theorem Frm.less{M'':Mem}(f:Frm M H M' H')(s:∀b o,M'' b=ap o->M' b=ap o):Frm M H M'' H':=⟨λb u e n=>by
 obtain⟨h,c⟩:=f.keep b u e n;refine⟨h,?_⟩;cases q:M'' b with
 |none=>rfl
 |some o=>rw[s b o q]at c;cases c⟩
theorem Up.drp{QV:VK}(u:Up K M H Q QV):Up K M H (_3.drp Q) QV:=λd M' ⟨M'',s,q⟩ v H' c f r=>u d M'' q v H' (λb o e=>c b o (s b o e)) (f.less s) r
theorem UpX.drp(u:UpX K M H EE E):UpX K M H (aM EE) E:=λC M' ⟨M'',s,q⟩ H' c f=>u C M'' q H' (λb o e=>c b o (s b o e)) (f.less s)
def aI(N:Xr)(T:DX->aA):Sd:=λb M Q EE=>T (aM EE) { nx:=λ_ M'=>drp Q .non M',rt:=drp Q } (startN N b) M
theorem fnD{k:Nat}{T:DX->aA}(F:Fun K x Xj st f fd)(S:FnScope N ps (aR st))(I:∀(c:ay)(A:fv)(b:List Env)(s:cb)(H:Hp)(E:XK)(B:Bd)(EE:DX),Room k (A.deeper<|RS Xj (aR st) s.heap.objs.size f c)->t_ K B EE E->
   zi (dL (oU P w) P w K mg base N Xj (aR st) f c A b s H E) B (bu st) (T EE)):
  FnOk P w K mg base (oU P w) (k+1) f fd ps (bw K ps.length<|aI N T):=by
 obtain⟨Y,R,kV,l,O,W,c,J,o,rfl,lk,j⟩:=F.ex;refine Ic lk j S (λG H Q E h=>h.1) λA b s H G Q E z i=>?_;obtain⟨L,m,M,QQ,EE,rh,r,v,u,ux⟩:=i;refine⟨_,I c A b s H E (Bd.of M H) (aM EE) z ux.drp,startN N m,M,{ nx:=λ_ M'=>drp QQ .non M',rt:=drp QQ },⟨Frm.refl,rh,.startN N r⟩,v,⟨?_,u.drp,?_,?_⟩⟩
 .exact λU M' q Z H' f y=>u.drp _ M' q _ H' y.rh f rfl
 .exact λU M' q=>(show False from q).elim
 .exact λU M' q=>(show False from q).elim
theorem eK{k:Nat}{CX:nV}:FnOk P w K mg base CX k f fd ps (bw K n λ_ _ _ _=>False):=
 ⟨λi H Q E h=>(by obtain⟨_,_,_,_,_,_,_,h,_⟩:=h;exact h.elim),λA b s H c j i Q E _ _ _ _ h=>(by obtain⟨_,_,_,_,_,_,_,h,_⟩:=h;exact h.elim)⟩
theorem Bl{h:ay}{A:fv}{b:List Env}{i:cb}{H0:Hp}:bM (oU P w) (dL (oU P w) P w K mg base N Xj scope f h A b i H0 E) E:=by
 intro c Z H s e l I ⟨C,j⟩;have I':Inv (dL (va P w C) P w K mg base N Xj scope f h A b i H0 E) c Z H s:=I.wish _;have:=Og c Z H s e l I' j;exact j0 this (λ_ _ z=>⟨C,z⟩) λ_ _ z=>⟨C,z⟩
theorem C6:bM (oU P w) X E0:=λb Z H s e i I ⟨C,c⟩=>by
 obtain⟨_,_,_,_,_,_,_,_,_,_,_,_,h⟩:=c;exact(show False from h).elim
end
def Sub(M1 M:Mem):Prop:=∀b o,M1 b=ap o->M b=ap o
def Dis(M1 M M':Mem):Prop:=∀b o,M b=ap o->M1 b=bb->M' b=bb
noncomputable def plus(M' M1 M:Mem):Mem:=λb=>match M' b with
 |some o=>ap o
 |none=>match M1 b with
  |some _=>bb
  |none=>M b
theorem pc:plus M' M M=M':=by
 funext b;simp only[plus];cases h:M' b with
 |some o=>rfl
 |none=>cases c:M b<;>rfl
structure BxQ(EE:DX)(Q:DK):Type
structure calls(T:Sd)(EE:DX)(ds:List D)(M:Mem)(Q:DK)(_:BxQ EE Q):Prop where
 go:∃M1,Sub M1 M/\T ds M1 (λd M'=>Dis M1 M M'->Q d (plus M' M1 M)) (λC M'=>Dis M1 M M'->EE C (plus M' M1 M))
section
variable{M1:Mem}
theorem RepH.sub(r:RepH K H M)(s:Sub M1 M):RepH K H M1:=λb o e=>r b o (s b o e)
theorem RepH.dis(r:RepH K H M)(f:Frm M1 H M' H'):Dis M1 M M':=λb o e n=>by
 obtain⟨u,q⟩:=(r b o e).obj;exact(f.keep b u q n).2
theorem RepH.plus(r:RepH K H M)(s:Sub M1 M)(h:RepH K H' M')(f:Frm M1 H M' H'):RepH K H' (plus M' M1 M):=λb o e=>by
 simp only[_3.plus]at e
 split at e
 .rename_i i q;cases e;exact h b _ q
 .split at e
  .cases e
  .rename_i q n
   obtain⟨u,c⟩:=(r b o e).obj;exact(r b o e).keep (f.imm<|r.sub s) ((f.keep b u c n).1.trans c.symm)
theorem Frm.plus(s:Sub M1 M)(f:Frm M1 H M' H'):Frm M H (plus M' M1 M) H':=⟨λb u e n=>by
 have c:M1 b=none:=by
  cases q:M1 b with
  |none=>rfl
  |some o=>rw[s b o q]at n;cases n
 obtain⟨i,h⟩:=f.keep b u e c;exact⟨i,by simp only[_3.plus,h,c,n]⟩⟩
theorem cV{ds:List D}{vs:List V}{QV:VK}{b:BxQ EE Q}(h:calls T EE ds M Q b)(rh:RepH K H M)(r:Rps K H ds vs)(j:vs.length=n)(u:Up K M H Q QV)(ux:UpX K M H EE E):bw K n T vs H QV E:=by
 obtain⟨M1,s,h⟩:=h.go;refine⟨j,ds,M1,_,_,rh.sub s,r,h,λd M' q v H' c f i=>?_,λC M' q H' c f=>?_⟩
 .exact u d _ (q<|rh.dis f) v H' (rh.plus s c f) (f.plus s) i
 .exact ux C _ (q<|rh.dis f) H' (rh.plus s c f) (f.plus s)
theorem aq{ds:List D}{b:BxQ EE Q}(c:∀Q' E',(∀d M,Q d M->Q' d M)->(∀C M,EE C M->E' C M)->T ds M Q' E'):calls T EE ds M Q b:=
 ⟨M,λ_ _ e=>e,c _ _ (λd M' q _=>by rw[pc];exact q) λC M' q _=>by rw[pc];exact q⟩
variable{CX:nV}{k:Nat}{m:Str}{o:eH}{ta:bh}{t:eQ}
def aj(T:Sd)(EE:DX)(n:Nat)(t:eQ):bh:=λU M Q=>t U M λb M1=>b.length=n/\calls T EE b M1 Q ⟨⟩
theorem SR.ux{U:Dl}{Z:_2.St}(s:SR X B U M Z H)(ux:t_ X.K B EE E):UpX X.K M H EE E:=λC M' q H' a b=>ux C M' q H' a (B.go s.i0 b)
theorem pN(F:FnOk X.prog X.w X.K X.mg X.base CX k f fd ps (bw X.K n T))(z:Room k X.A)(y:Gl X x)(I:X.mg x=ap (.ref f))(v:QG X.K (.ref f)=true)(q:Binds X.K fd ps [])(l:bM CX X E)(ux:t_ X.K B EE E)(G:DA X B (e::es) t)(c:(x==("__debug__":Str))=false:=by decide)(he:cy (e::es) X.env=(cm,eX e X.env)::cy es X.env:=by rfl)(hpl:(g3 pos<|starEach es X.env).any (·.1)=false:=by rfl):
  DE X B (.Call (.Name x p) (e::es) [] pos) (aj T EE n t):=by
 refine aW (xZ F z y I v q .nil l G c he hpl) ?_
 rintro Z H Q ⟨U,M,QQ,s,h,u⟩
 refine⟨U,M,_,s,h,λJ M1 j L H1 b i1 i=>?_⟩
 try dsimp only
 rw[P8];exact cV j.2 b i (by rw[<- i.length];exact j.1) (u.go i1) ((s.ux ux).go i1)
def cZ(C:ca)(m:Str)(T:Sd)(EE:DX)(n:Nat)(ta:bh)(t:eQ):bh:=λU M Q=>ta U M λx M1=>match x with
 |.ref a=>match M1 a with
  |some (.ins C' fs)=>C'=C/\fs.lookup m=bb/\t U M1 λb M2=>b.length+1=n/\calls T EE (.ref a::b) M2 Q ⟨⟩
  |_=>False
 |_=>False
theorem F9{pl:Sem Bool}(he:DE X B o ta)(c:Cls X.K C)(hm:Meth X.K C m f)(F:FnOk X.prog X.w X.K X.mg X.base CX k f fd ps (bw X.K n T))(hr:Room k X.A)(hb:Binds X.K fd ps [])(Y:bM CX X E)(ux:t_ X.K B EE E)(ha:DA X B (e::es) t)(q:cy (e::es) X.env=(cm,eX e X.env)::cy es X.env:=by rfl)(hpl:(g3 pos<|starEach es X.env).any (·.1)=false:=by rfl)(ht:eX (.Call (.Attribute o m Xn) (e::es) [] pos) X.env=(do
   let ov <- eX o X.env
   Wa Xn.atName
   let (f,first) <- Re [ov] (UV ov m pl)
   WD pos f first (g3 pos<|starEach (e::es) X.env) (wh pos<|keywordEach [] X.env)):=by rfl):
  DE X B (.Call (.Attribute o m Xn) (e::es) [] pos) (cZ C m T EE n ta t):=by
 refine aW (G1 he c hm F hr hb .nil Y ha q hpl ht) ?_
 rintro Z H Q ⟨U,M,QQ,s,h,u⟩
 refine⟨U,M,_,s,h,λx M1 b v H1 i i1 S=>?_⟩
 split at b
 .rename_i a
  cases S
  split at b
  .rename_i C' fs W
   obtain⟨rfl,L,b⟩:=b;obtain⟨J,y,O,R⟩:=i _ _ W;have l:y.lookup m=none:=by
    rcases R.lookup m with⟨_,z⟩|⟨d,v,z,_⟩
    .exact z
    .rw[L]at z;cases z
   refine⟨a,J,y,rfl,O,l,U,M1,_,s.go i i1,b,λds M2 G vs H2 j i2 I=>?_⟩
   try dsimp only
   rw[P8];exact cV (ds:=.ref a::ds) G.2 j (.cons rfl I) (by rw[Pu,<- I.length];exact G.1) (u.go<|i1.trans i2) ((s.ux ux).go<|i1.trans i2)
  .exact b.elim
 .exact b.elim
theorem De{pl:Sem Bool}(W:DE X B o ta)(c:Cls X.K C)(hm:Meth X.K C m f)(F:FnOk X.prog X.w X.K X.mg X.base CX k f fd ps (bw X.K n T))(Y:Room k X.A)(S:Binds X.K fd ps [])(R:bM CX X E)(ux:t_ X.K B EE E)(O:eX (.Call (.Attribute o m Xn) [] [] pos) X.env=(do
   let ov <- eX o X.env
   Wa Xn.atName
   let (f,first) <- Re [ov] (UV ov m pl)
   WD pos f first (g3 pos<|starEach [] X.env) (wh pos<|keywordEach [] X.env)):=by rfl):
  DE X B (.Call (.Attribute o m Xn) [] [] pos) (cZ C m T EE n ta af):=by
 refine aW (C0 W c hm F Y S .nil R O) ?_
 rintro Z H Q ⟨U,M,QQ,s,h,u⟩
 refine⟨U,M,_,s,h,λx M1 b v H1 i i1 q=>?_⟩
 split at b
 .rename_i a
  cases q
  split at b
  .rename_i C' fs L
   obtain⟨rfl,I,b⟩:=b;obtain⟨y,l,J,G⟩:=i _ _ L;have j:l.lookup m=none:=by
    rcases G.lookup m with⟨_,z⟩|⟨d,v,z,_⟩
    .exact z
    .rw[I]at z;cases z
   refine⟨a,y,l,rfl,J,j,?_⟩;exact cV (ds:=[.ref a]) b.2 i (.cons rfl .nil) b.1 (u.go i1) ((s.ux ux).go i1)
  .exact b.elim
 .exact b.elim
def fT(C:ca)(T:Sd)(EE:DX)(n:Nat)(t:eQ):bh:=λU M Q=>t U M λb M1=>b.length+1=n/\∀a,M1 a=bb->calls T EE (.ref a::b) (M1.upd a<|.ins C []) (λd M2=>match d with
 |.non=>Q (.ref a) M2
 |_=>False) ⟨⟩
theorem El(Mk':Mk X.K C f)(F:FnOk X.prog X.w X.K X.mg X.base CX k f fd ps (bw X.K n T))(hr:Room (k+1) X.A)(hg:Gl X x)(hm:X.mg x=ap (.ref C))(hb:Binds X.K fd ps [])(hx:bM CX X E)(ux:t_ X.K B EE E)(ha:DA X B (e::es) t)(hdb:(x==("__debug__":Str))=false:=by decide)(he:cy (e::es) X.env=(cm,eX e X.env)::cy es X.env:=by rfl)(hpl:(g3 pos<|starEach es X.env).any (·.1)=false:=by rfl):
  DE X B (.Call (.Name x p) (e::es) [] pos) (fT C T EE n t):=by
 refine aW (FJ Mk' F hr hg hm hb .nil hx ha hdb he hpl) ?_
 rintro Z H Q ⟨U,M,QQ,s,h,u⟩
 refine⟨U,M,_,s,h,λds M1 h1 vs H1 rh1 i1 r1 a dx na ndx nex=>?_⟩;rw[P8];have nx1:upd H1 dx (.own a) a=none:=by rw[aF (P0 nex)];exact na
 have im1:Imm H1 (upd H1 dx<|.own a):=Imm.new ndx;have im2:Imm (upd H1 dx<|.own a) (upd (upd H1 dx<|.own a) a<|.ins C dx []):=Imm.new nx1;have rh2:RepH X.K (upd (upd H1 dx<|.own a) a<|.ins C dx []) (M1.upd a<|.ins C []):=(rh1.new ndx).put (by rw[nx1];trivial) ⟨dx,[],upd_same,.nil⟩
 have f2:Frm M1 H1 (M1.upd a<|.ins C []) (upd (upd H1 dx<|.own a) a<|.ins C dx []):=(Frm.new ndx).trans (Frm.put<|.inl nx1);refine cV (h1.2 a<|rh1.fresh na) rh2 (.cons rfl<|(r1.mono im1).mono im2) (by rw[Pu,<- r1.length];exact h1.1) (λd M2 h2 v H2 rh f r=>?_) ((s.ux ux).go<|i1.trans f2)
 cases d with
 |non=>exact⟨r,u _ M2 h2 _ H2 rh ((i1.trans f2).trans f) rfl⟩
 |_=>exact(show False from h2).elim
end
section
variable{M1:Mem}{o:eH}{to:bh}{t:eQ}{name:Str}{Xm:Pos}{Ty id:String}
noncomputable abbrev x_:=D->List D->Mem->DK->Prop
inductive liftM(X:Cx)(r:x_)(x:V)(xs:List V)(H:Hp)(Q:VK):Prop
 |mk (d:D) (ds:List D) (M:Mem) (QQ:DK) (rh:RepH X.K H M) (rx:Rp X.K H d x) (rs:Rps X.K H ds xs) (h:r d ds M QQ) (u:Up X.K M H QQ Q):liftM X r x xs H Q
def nC(Ty:String)(r:x_)(to:bh)(t:eQ):bh:=λU M Q=>to U M λx M1=>df M1 x=ap Ty/\t U M1 λb M2=>r x b M2 Q
theorem CA{d:D}{v:V}(l:RepH K H M)(r:Rp K H d v)(e:df M d=ap Ty)(h:Ty="list"\/Ty="str"\/Ty="int"\/Ty="dict"):tyV K Ty v H:=by
 cases d with
 |non=>cases e;rcases h with h|h|h|h<;>exact absurd h (by decide)
 |bl b=>cases e;rcases h with h|h|h|h<;>exact absurd h (by decide)
 |int i=>cases r;cases e;rfl
 |str x=>cases r;cases e;rfl
 |tup xs=>cases e;rcases h with h|h|h|h<;>exact absurd h (by decide)
 |lst xs=>
  cases e;obtain⟨p,u,rfl,s,r⟩:=r;exact .inl ⟨rfl,u,s.sq⟩
 |ref a=>
  cases r;simp only[df]at e
  split at e
  .rename_i q;cases e;obtain⟨j,c,m⟩:=l _ _ q;exact .inl ⟨rfl,j,SqL.of c⟩
  .rename_i q;cases e;obtain⟨j,c,m⟩:=l _ _ q;exact .inr (.inr<|.inl ⟨rfl,.inl ⟨j,c⟩⟩)
  .rename_i q;cases e;obtain⟨j,c,m⟩:=l _ _ q;exact .inr (.inr<|.inl ⟨rfl,.inr ⟨j,c⟩⟩)
  .cases e
 |_=>cases e
theorem Mo(F:Ty="list"\/Ty="str"\/Ty="int"\/Ty="dict")(G:Wg Ty)(i:WY Ty name id)(l:Wv (.builtin id)=pure (.type "method_descriptor"))(L:w8 X id (liftM X r))(I:DE X B o to)(J:DA X B (e::es) t)(c:kl o name X.env (eX o X.env)=eX o X.env:=by rfl)(hfew:((g3 Xm<|starEach (e::es) X.env).all (λx=>!x.1)&&(wh Xm<|keywordEach [] X.env).all (λx=>x.1.isSome)
   && decide ((e::es).length+([]:List vx).length+(if ([]:List vx).isEmpty then 0 else 1)<30))=true:=by rfl)(hline:(Xn.endLine==Xm.line)=true:=by rfl)(hs:cy (e::es) X.env=(cm,eX e X.env)::cy es X.env:=by rfl)(hplain:(g3 Xm<|starEach es X.env).any (·.1)=false:=by rfl):
  DE X B (.Call (.Attribute o name Xn) (e::es) [] Xm) (nC Ty r to t):=by
 refine aW (Nc G i l L I J c hfew hline hs hplain) ?_
 rintro Z H Q ⟨U,M,QQ,s,h,u⟩
 refine⟨U,M,_,s,h,λx M1 q v H1 b i1 m=>⟨CA b m q.1 F,U,M1,_,s.go b i1,q.2,λA M2 y O H2 j i2 z=>?_⟩⟩;exact⟨x,A,M2,QQ,j,m.mf b i2,z,y,u.go<|i1.trans i2⟩
theorem Jt(q:Ty="list"\/Ty="str"\/Ty="int"\/Ty="dict")(y:Wg Ty)(i:WY Ty name id)(j:Wv (.builtin id)=pure (.type "method_descriptor"))(A:w8 X id (liftM X r))(z:DE X B o to)(b:kl o name X.env (eX o X.env)=eX o X.env:=by rfl)(hline:(Xn.endLine==Xm.line)=true:=by rfl):DE X B (.Call (.Attribute o name Xn) [] [] Xm) (nC Ty r to af):=by
 refine aW (Ln y i j A z b hline) ?_
 rintro Z H Q ⟨U,M,QQ,s,h,u⟩
 refine⟨U,M,_,s,h,λx M1 m v H1 c i1 l=>⟨CA c l m.1 q,?_⟩⟩;exact⟨x,[],M1,QQ,c,l,.nil,m.2,u.go i1⟩
def bL:x_:=λx b M Q=>match x,b with
 |.ref a,[y]=>match M a with
  |some (.lst xs)=>xs.length<sizeLine/\Q .non (M.upd a<|.lst (xs++[y]))
  |_=>False
 |_,_=>False
theorem xc:w8 X "list.append" (liftM X bL):=by
 intro Xi s Z H x vs v us Q I rx rv h;obtain⟨d,ds,M,QQ,rh,r,rs,h,up⟩:=h;unfold bL at h
 split at h
 .rename_i a y
  cases r;obtain⟨w,rfl,rw'⟩:=ib (ds:=[]) rs
  split at h
  .rename_i xs hM
   obtain⟨ws,h1,h2⟩:=rh _ _ hM;have im:Imm H (upd H a<|.lst (ws++[w])):=Imm.upd (by rw[h1];trivial)
   exact A8 Xi s Z H _ _ v us Q I rx rv ⟨a,ws,w,rfl,rfl,h1,by rw[<- h2.length];exact h.1,up _ _ h.2 _ _ (rh.put (by rw[h1];trivial) ⟨_,upd_same,(h2.append<|.cons rw' .nil).mono im⟩) (Frm.put<|.inr ⟨_,hM⟩) rfl⟩
  .exact h.elim
 .exact h.elim
def AA:x_:=λx b M Q=>match x,b with
 |.ref a,[]=>match M a with
  |some (.lst xs)=>match xs[xs.length-1]? with
   |some y=>Q y (M.upd a<|.lst xs.dropLast)
   |none=>False
  |_=>False
 |.ref a,[.int i]=>match M a with
  |some (.lst xs)=>match vh xs.length i with
   |some k=>match xs[k]? with
    |some y=>Q y (M.upd a<|.lst<|xs.eraseIdx k)
    |none=>False
   |none=>False
  |_=>False
 |_,_=>False
theorem xY:w8 X "list.pop" (liftM X AA):=by
 intro Xi s Z H x vs v us Q I rx rv h;obtain⟨d,ds,M,QQ,rh,r,rs,h,up⟩:=h;unfold AA at h
 split at h
 .rename_i a
  cases r;cases rs
  split at h
  .rename_i xs hM
   split at h
   .rename_i y ey
    obtain⟨ws,h1,h2⟩:=rh _ _ hM;obtain⟨w,hw,rw'⟩:=h2.get ey;have im:Imm H (upd H a<|.lst ws.dropLast):=Imm.upd (by rw[h1];trivial)
    exact J9 Xi s Z H _ _ v us Q I rx rv ⟨a,ws,w,rfl,rfl,h1,by rw[<- h2.length];exact hw,up _ _ h _ _ (rh.put (by rw[h1];trivial) ⟨_,upd_same,h2.dropLast.mono im⟩) (Frm.put<|.inr ⟨_,hM⟩)<|rw'.mono im⟩
   .exact h.elim
  .exact h.elim
 .rename_i a i
  cases r;obtain⟨w0,rfl,rw0⟩:=ib (ds:=[]) rs;cases rw0
  split at h
  .rename_i xs hM
   split at h
   .rename_i k ek
    split at h
    .rename_i y ey
     obtain⟨ws,h1,h2⟩:=rh _ _ hM;obtain⟨w,hw,rw'⟩:=h2.get ey;obtain⟨j1,j2,j3,j4⟩:=pY ek;have hz:ws.length<=sizeLine:=(I.lstM h1).1;have hs:sizeLine=16777216:=rfl;have hl:=h2.length;have im:Imm H (upd H a<|.lst<|ws.eraseIdx k):=Imm.upd (by rw[h1];trivial)
     exact B8 Xi s Z H _ _ v us Q I rx rv ⟨a,ws,i,k,w,rfl,rfl,h1,by lia,by lia,by rw[<- hl];exact j1,hw,up _ _ h _ _ (rh.put (by rw[h1];trivial) ⟨_,upd_same,(h2.eraseIdx k).mono im⟩) (Frm.put<|.inr ⟨_,hM⟩)<|rw'.mono im⟩
    .exact h.elim
   .exact h.elim
  .exact h.elim
 .exact h.elim
def je:List D->Option (List Str)
 |[]=>ap []
 |.str x::ds=>match je ds with
  |some xs=>ap (x::xs)
  |none=>bb
 |_=>bb
theorem tE:∀{ds:List D}{vs:List V}{xs:Xr},Rps K H ds vs->je ds=ap xs->vs=xs.map V.str
 |[],vs,xs,r,e=>by cases e;exact r
 |d::ds,vs,xs,r,e=>by
  obtain⟨v,j,rfl,a,b⟩:=r;cases d with
  |str c=>
   simp only[je]at e
   split at e
   .rename_i i h
    cases e;cases a;rw[tE b h];rfl
   .cases e
  |_=>cases e
def hZ:x_:=λx b M Q=>match x,b with
 |.tup xs,[.str z]=>match je xs with
  |some names=>names.length<=1000/\match names.findIdx? (λy=>decide (y=z)) with
   |some j=>Q (.int (j:Nat)) M
   |none=>False
  |none=>False
 |_,_=>False
theorem wk:w8 X "tuple.index" (liftM X hZ):=by
 intro c s Z H x vs v W Q I R J h;obtain⟨d,ds,M,QQ,Y,r,q,h,G⟩:=h;unfold hZ at h
 split at h
 .rename_i xs z
  obtain⟨p,ws,rfl,S,r⟩:=r;obtain⟨w,rfl,i⟩:=ib (ds:=[]) q;cases i
  split at h
  .rename_i b F
   obtain⟨u,h⟩:=h
   split at h
   .rename_i j l
    have:=tE r F;subst this;rw[Tu]at l;obtain⟨y,A,O⟩:=l;refine zG c s Z H _ _ v W Q I R J ⟨p,b,z,j,rfl,rfl,S,u,?_,λm L=>?_,G _ M h _ H Y Frm.refl rfl⟩
    .rw[Pb y];simpa using A
    .have:=O m L
     rw[Pb (by lia)]
     simpa using this
   .exact h.elim
  .exact h.elim
 .exact h.elim
def E9(r:x_)(to:bh)(t:eQ):bh:=λU M Q=>to U M λx M1=>match x with
 |.tup xs=>t U M1 λb M2=>r (.tup xs) b M2 Q
 |_=>False
theorem Nu(i:WY "tuple" name id)(m:Wv (.builtin id)=pure (.type "method_descriptor"))(O:w8 X id (liftM X r))(J:DE X B o to)(L:DA X B (e::es) t)(b:kl o name X.env (eX o X.env)=eX o X.env:=by rfl)(hfew:((g3 Xm<|starEach (e::es) X.env).all (λx=>!x.1)&&(wh Xm<|keywordEach [] X.env).all (λx=>x.1.isSome)
   && decide ((e::es).length+([]:List vx).length+(if ([]:List vx).isEmpty then 0 else 1)<30))=true:=by rfl)(hline:(Xn.endLine==Xm.line)=true:=by rfl)(hs:cy (e::es) X.env=(cm,eX e X.env)::cy es X.env:=by rfl)(hplain:(g3 Xm<|starEach es X.env).any (·.1)=false:=by rfl):
  DE X B (.Call (.Attribute o name Xn) (e::es) [] Xm) (E9 r to t):=by
 refine aW (Om i m O J L b hfew hline hs hplain) ?_
 rintro Z H Q ⟨U,M,QQ,s,h,u⟩
 refine⟨U,M,_,s,h,λx M1 y v H1 c i1 q=>?_⟩;cases x with
 |tup xs=>
  have l:=q;obtain⟨p,z,rfl,G,R⟩:=l;refine⟨⟨p,z,rfl,G⟩,U,M1,_,s.go c i1,y,λI M2 A z H2 j i2 F=>?_⟩;exact⟨_,I,M2,QQ,j,q.mf c i2,F,A,u.go<|i1.trans i2⟩
 |_=>exact(show False from y).elim
noncomputable def CK:bh:=λ_ M Q=>∀p,M p=bb->Q (.ref p) (M.upd p<|.dT [])
theorem EA:DE X B (.Dict [] [] pos) CK:=by
 refine aW CV ?_
 rintro Z H Q ⟨U,M,QQ,s,h,u⟩ p hp
 exact u _ _ (h p<|s.rh.fresh hp) _ _ (s.rh.put (by rw[hp];trivial) ⟨[],upd_same,.nil⟩) (Frm.put<|.inl hp) rfl
noncomputable def CC(ks:List aB)(ys:List D):List (aB×D):=(ks.zip ys).foldl (λa p=>dI a p.1 p.2) []
theorem uW:∀{ks:List aB}{ds:List D}{vs:List V}{a:List (aB×D)}{b:List (aB×V)},Rps K H ds vs->Rkv K H a b->
  Rkv K H ((ks.zip ds).foldl (λa p=>dI a p.1 p.2) a) ((ks.zip vs).foldl (λa p=>dq a p.1 p.2) b)
 |[],_,_,_,_,_,r=>r
 |_::_,[],_,_,_,h,r=>by cases h;exact r
 |k::ks,d::ds,_,_,_,h,r=>by
  obtain⟨v,vs,rfl,a,b⟩:=h;exact uW (ks:=ks) b (r.put k a)
def gk(t:eQ):bh:=λU M Q=>t U M λb M1=>match b with
 |[.tup xs,.tup ys]=>match eP xs with
  |some ks=>ks.length=ys.length/\0<ks.length/\ks.length<=1000/\∀p,M1 p=bb->Q (.ref p) (M1.upd p<|.dK<|CC ks ys)
  |none=>False
 |_=>False
theorem vS{b:eH}{p2 pos2:Pos}(hc:X.calm=true)(hg:Gl X "zip")(hm:X.mg "zip"=bb)(hg2:Gl X "dict")(hm2:X.mg "dict"=bb)(ha:DA X B [a,b] ta)(hs:cy [a,b] X.env=[(cm,eX a X.env),(cm,eX b X.env)]:=by rfl)(hs2:cy [b] X.env=[(cm,eX b X.env)]:=by rfl)(hs3:cy [UE (.Name "zip" p2) [a,b] [] pos2] X.env=[(cm,eX (.Call (.Name "zip" p2) [a,b] [] pos2) X.env)]:=by rfl):
  DE X B (.Call (.Name "dict" p) [.Call (.Name "zip" p2) [a,b] [] pos2] [] pos) (gk ta):=by
 refine aW (vd cm cm hc hg hm hg2 hm2 ha hs hs2 hs3) ?_
 rintro Z H Q ⟨U,M,QQ,s,h,u⟩
 refine⟨U,M,_,s,h,λds M1 h1 vs H1 rh1 i1 r1=>?_⟩
 split at h1
 .obtain⟨v,w,rfl,rv,rw'⟩:=Et r1
  obtain⟨l1,us,rfl,t1,ru⟩:=rv;obtain⟨l2,ws,rfl,t2,rw2⟩:=rw'
  split at h1
  .rename_i ks ek
   obtain⟨e1,e2,e3,h1⟩:=h1;have hk:=nv ru ek;subst hk;refine⟨l1,l2,ks,ws,rfl,t1.sq,t2.sq,by rw[<- rw2.length];exact e1,e2,e3,λd hd=>?_⟩
   have im:Imm H1 (upd H1 d<|.dK<|(ks.zip ws).foldl (λa p=>dq a p.1 p.2) []):=Imm.new hd;exact u _ _ (h1 d<|rh1.fresh hd) _ _ (rh1.put (by rw[hd];trivial) ⟨_,upd_same,(uW rw2 .nil).mono im⟩) (i1.trans<|Frm.put<|.inl hd) rfl
  .exact h1.elim
 .exact h1.elim
end
section
variable{cd:ay}{A:fv}{outer:List Env}{s0:cb}{H0:Hp}
theorem FO{t:TS}{E':Xw}(h:PS X st t)(k:∀e s,X.xe e s->E' e s):PS (X.wish E') st t:=λc s Z H D I q=>
 j0 (h c s Z H D (I.unwish) q) (λf i z=>by
  cases f with
  |next=>obtain⟨b,H',I,q⟩:=z;exact⟨b,H',I.wish _,q⟩
  |brk=>obtain⟨b,H',I,q⟩:=z;exact⟨b,H',I.wish _,q⟩
  |cont=>obtain⟨b,H',I,q⟩:=z;exact⟨b,H',I.wish _,q⟩
  |ret u=>obtain⟨v,b,H',I,r,q⟩:=z;exact⟨v,b,H',I.wish _,r,q⟩) k
def lD(C:ca)(EE:DX):aA:=λ_ _ M=>EE C M
theorem Co{b:Str}{c Xm:Pos}{jj}(X:ExcAt K C)(o:mg x=ap (.ref C))(ux:t_ K B EE E)(m:Gl (dL (oU P w) P w K mg base N Xj scope f cd A outer s0 H0 E) x)(l:(x==("__debug__":Str))=false:=by decide)(hs:cy [.Constant (.str b) jj Xn] (dL (oU P w) P w K mg base N Xj scope f cd A outer s0 H0 E).env=[(cm,eX (.Constant (.str b) jj Xn) (dL (oU P w) P w K mg base N Xj scope f cd A outer s0 H0 E).env)]:=by rfl):
  DS (dL (oU P w) P w K mg base N Xj scope f cd A outer s0 H0 E) B (.Raise (ap<|.Call (.Name x c) [.Constant (.str b) jj Xn] [] Xm) bb pos) (lD C EE):=by
 have j:PS (dL (va P w C) P w K mg base N Xj scope f cd A outer s0 H0 E) (.Raise (ap<|.Call (.Name x c) [.Constant (.str b) jj Xn] [] Xm) bb pos) (wd E C):=Cr X o m l hs;have i:PS (dL (oU P w) P w K mg base N Xj scope f cd A outer s0 H0 E) (.Raise (ap<|.Call (.Name x c) [.Constant (.str b) jj Xn] [] Xm) bb pos) (wd E C):=
  FO j λe s h=>j0 h (λ_ _ z=>⟨C,z⟩) λ_ _ z=>⟨C,z⟩
 refine bU i ?_
 rintro D Z H ⟨U,M,DD,s,h,q⟩
 exact ux C M h H s.rh s.i0
end
section
def Ki(C:ca)(T:Sd)(n:Nat)(ta:eQ)(ts:aA):aA:=λD U M=>ta U M λb M1=>b.length=n/\calls T (λC' M2=>C'=C/\ts D U M2) b M1 (λ_ M2=>D.nx U M2) ⟨⟩
theorem SR.mark{e:ay}(s:SR X B U M Z H):SR (X.marked e) B U M Z H:=⟨s.i0,s.rh,s.rs⟩
theorem SR.unmark{e:ay}(s:SR (X.marked e) B U M Z H):SR X B U M Z H:=⟨s.i0,s.rh,s.rs⟩
theorem UpD.mark{DD:DEnds}{D:Ends}{e:ay}(u:UpD X B M H DD D):UpD (X.marked e) B M H DD D:=
 ⟨λU M q Z H' f s=>u.nx U M q Z H' f s.unmark,u.rt,λU M q Z H' f s=>u.bk U M q Z H' f s.unmark,λU M q Z H' f s=>u.ct U M q Z H' f s.unmark⟩
theorem F5{k:Nat}{sp:Sp}(F:FnOk P w K mg base (oU P w) k f fd ps sp):
  FnOk P w K mg base (va P w C) k f fd ps (λvs H Q E=>sp vs H Q λCv a H'=>Cv=.ref C/\E Cv a H'):=
 ⟨λvs H Q E h=>F.len _ _ _ _ h,λA b s H c I vs Q E u m l L y=>SZ (F.run A b s H c I vs Q _ u m l L y) λr s' h=>by
  cases r with
  |ok fl=>cases fl<;>exact h
  |error e=>
   obtain⟨C',O,H',B,R,v,o,Y,W,q,G,J,z,j,i⟩:=h;have S:C'=C:=by injection j
   subst S;exact⟨O,H',B,R,v,o,Y,W,q,G,J,z,i⟩⟩
theorem vM{k:Nat}{q:Str}{I ep np m:Pos}{c:rc}{b:Xv}{L:aA}(J:X.stack=X.env::X.outer)(O:X.env.frame=ap X.env.locals)(F:FnOk X.prog X.w X.K X.mg X.base (oU X.prog X.w) k f fd ps (bw X.K n T))(hr:Room k X.A)(hg:Gl X x)(hm:X.mg x=ap (.ref f))(hk:QG X.K (.ref f)=true)(hb:Binds X.K fd ps [])(ha:DA X.nox B (e::es) ta)(EX:ExcAt X.K C)(R:Gl X q)(z:X.mg q=ap (.ref C))(S:∀o:ca,zi (X.marked<|.ref o) B (c::b) L)(G:(x==("__debug__":Str))=false:=by decide)(hdC:(q==("__debug__":Str))=false:=by decide)(he:cy (e::es) X.env=(cm,eX e X.env)::cy es X.env:=by rfl)(hpl:(g3 I<|starEach es X.env).any (·.1)=false:=by rfl)(hsw:x9 (.Call (.Name x p) (e::es) [] I) bb ep.line X.env=pure false:=by rfl):
  DS X B (.Try [.Expr (.Call (.Name x p) (e::es) [] I) ep] [.ExceptHandler (ap<|.Name q np) bb (c::b) m] [] [] pos) (Ki C T n ta L):=by
 have l:∀o:ca,zg (X.marked<|.ref o) (c::b) (liftS X B L):=λo=>mY (S o) λD Z H ⟨U,M,DD,s,h,u⟩=>⟨U,M,DD,s.mark,h,u.mark⟩;refine bU (wy (C:=C) J O (F5 F) hr hg hm hk hb .nil ha EX R z l G hdC he hpl hsw) ?_
 rintro D Z H ⟨U,M,DD,s,h,up⟩
 refine⟨U,M,_,⟨s.i0,s.rh,s.rs⟩,h,λds M1 Y vs H1 y i1 W=>?_⟩
 try dsimp only
 rw[P8];refine cV Y.2 y W (by rw[<- W.length];exact Y.1) (λd M2 j v H2 i i2 r2=>?_) λC' M2 j H2 i i2=>?_
 .exact up.nx _ _ j Z H2 (i1.trans i2) (s.go i<|i1.trans i2)
 .obtain⟨rfl,j⟩:=j
  exact⟨rfl,U,M2,DD,s.go i (i1.trans i2),j,up.go<|i1.trans i2⟩
end
end _3
namespace _2
open PySem PySem.Spec PyProof.Rows
theorem gj{scope:Pv}{env:Env}{x:Str}{k:Wp}(h:(Wb scope env).names.lookup x=ap k):∃e,(x,e)∈scope.names/\(k=e\/(e=.free/\k=.cell)):=by
 have j:=Qj h;obtain⟨⟨n,b⟩,g,f⟩:=Pq.mp j
 by_cases c:(b==NameKind.free&&env.scope.kind==.function&&env.kindOf n==ap .cell)=true
 .have a:(n,Si)=(x,k):=by rw[<- f];show _=(if _ then _ else _);rw[if_pos c]
  cases a;have i:b=.free:=by
   simp only[QM]at c;exact beq_iff_eq.mp c.1.1
  exact⟨b,g,.inr ⟨i,rfl⟩⟩
 .have a:(n,b)=(x,k):=by rw[<- f];show _=(if _ then _ else _);rw[if_neg c]
  cases a;exact⟨_,g,.inl rfl⟩
theorem jy{x:Str}:∀{fs:Xr}{cs:Xt},fs.length=cs.length->x∈fs->∃c,(fs.zip cs).lookup x=ap c
 |[],_,_,h=>by cases h
 |_::_,[],h,_=>by simp at h
 |y::fs,c::cs,hl,h=>by
  rw[Sm,RA];cases e:x==y with
  |true=>exact⟨c,rfl⟩
  |false=>
   have ne:¬x=y:=λz=>by rw[z]at e;simp at e
   rcases Po.mp h with z|z
   .exact absurd z ne
   .exact jy (by simpa using hl) z
theorem memZ{α:Type}{C:α->Prop}:∀p∈([]:List α),C p:=λ_ h=>by cases h
theorem memC{α:Type}{C:α->Prop}{a:α}{l:List α}(e:C a)(c:∀p∈l,C p):∀p∈a::l,C p:=λp b=>by
 rcases Po.mp b with rfl|z
 .exact e
 .exact c p z
end _2
namespace _3
open PySem _2
variable{K:Pg}
section
variable{X:Cx}{B:Bd}{pos:Pos}
theorem dnm(i:Nat){x:Str}{pos:Pos}(a:X.N[i]?=ap x:=by rfl)(hv:Mb X.env.scope x:=by first|exact Or.inl rfl|exact Or.inr (Or.inl rfl)|exact Or.inr (Or.inr rfl))(hd:(x==("__debug__":Str))=false:=by decide)(hcd:(x==("__classdict__":Str))=false:=by decide):DE X B (.Name x pos) (ac i):=Lv a hv hd hcd
noncomputable def oW:DX:=λ_ _=>False
theorem uxN{E:XK}:t_ K B oW E:=λ_ _ z=>z.elim
theorem lA:eT "list"=ap (.type "list"):=by decide +kernel
theorem oG:eT "tuple"=ap (.type "tuple"):=by decide +kernel
theorem FG:eT "all"=ap (.builtin "all"):=by decide +kernel
theorem m4:eT "isinstance"=ap (.builtin "isinstance"):=by decide +kernel
theorem Bw:eT "bool"=ap (.type "bool"):=by decide +kernel
theorem G6:eT "int"=ap (.type "int"):=by decide +kernel
theorem Gd:eT "str"=ap (.type "str"):=by decide +kernel
theorem sK:eT "dict"=ap (.type "dict"):=by decide +kernel
theorem Fm:eT "min"=ap (.builtin "min"):=by decide +kernel
theorem Fe:eT "max"=ap (.builtin "max"):=by decide +kernel
theorem G5:eT "len"=ap (.builtin "len"):=by decide +kernel
theorem My{x:Str}{T:String}(b:Gl X x)(e:X.mg x=bb)(c:eT x=ap (.type T))(a:x≠"__name__":=by decide)(hd:(x==("__debug__":Str))=false:=by decide):DE X B (.Name x pos) (dC<|.ty T):=
 D1 (Gb (v:=.ty T) b e c rfl a hd) λ_=>rfl
def frzs:List D->Mem->(List D->Mem->Prop)->Prop
 |[],M,Q=>Q [] M
 |d::ds,M,Q=>match d with
  |.ref a=>match M a with
   |some (.lst xs)=>frzs ds (M.del a) λb M'=>Q (.lst xs::b) M'
   |_=>frzs ds M λb M'=>Q (d::b) M'
  |_=>frzs ds M λb M'=>Q (d::b) M'
theorem io{Xi:Xx}{Z:_2.St}{s:cb}:∀{ds:List D}{vs:List V}{M:Mem}{H:Hp}{Q:List D->Mem->Prop},Inv X Xi Z H s->RepH X.K H M->Rps X.K H ds vs->frzs ds M Q->
  ∃H' es M',Inv X Xi Z H' s/\RepH X.K H' M'/\Frm M H M' H'/\Rps X.K H' es vs/\Q es M'
 |[],vs,M,H,Q,I,rh,r,h=>⟨H,[],M,I,rh,Frm.refl,r,h⟩
 |d::ds,vs,M,H,Q,I,rh,r,h=>by
  obtain⟨v,vs',rfl,a,b⟩:=r;unfold frzs at h
  split at h
  .rename_i a'
   cases a
   split at h
   .rename_i xs e
    obtain⟨ws,h1,h2⟩:=rh _ _ e;obtain⟨o,I2⟩:=Inv.freeze I h1;have im:Imm H (upd H a'<|.frz o<|.lst ws):=Imm.upd (by rw[h1];trivial)
    obtain⟨H',es,M',I',rh',f,r',q⟩:=io I2 (rh.freeze h1) (b.mono im) h;refine⟨H',_,M',I',rh',(Frm.del ⟨_,e⟩).trans f,.cons ?_ r',q⟩;have z:Rp X.K (upd H a'<|.frz o<|.lst ws) (.lst xs) (.ref a'):=⟨a',ws,rfl,⟨o,upd_same⟩,h2.mono im⟩;exact z.mf (rh.freeze h1) f
   .obtain⟨H',es,M',I',rh',f,r',q⟩:=io I rh b h
    exact⟨H',_,M',I',rh',f,.cons (d:=.ref a') rfl r',q⟩
  .obtain⟨H',es,M',I',rh',f,r',q⟩:=io I rh b h
   exact⟨H',_,M',I',rh',f,.cons (a.mf rh f) r',q⟩
def frzT(d:D)(M:Mem)(Q:DK):Prop:=match d with
 |.tup ds=>frzs ds M λa M'=>Q (.tup a) M'
 |d=>Q d M
def fK(t:bh):bh:=λU M Q=>t U M λd M'=>frzT d M' Q
theorem EV{e:eH}{te:bh}(h:DE X B e te):DE X B e (fK te):=by
 intro a s Z H Q I o;obtain⟨U,M,QQ,y,j,u⟩:=o;refine bv (h a s Z H (λv H'=>∃d M',RepH X.K H' M'/\Frm M H M' H'/\Rp X.K H' d v/\frzT d M' QQ) I ⟨U,M,_,y,j,λd M' q v H' b i r=>⟨d,M',b,i,r,q⟩⟩) ?_
 rintro w z ⟨v,H',I',f,d,M',b,i,r,q⟩
 unfold frzT at q
 split at q
 .obtain⟨p,x,rfl,n,r⟩:=r
  obtain⟨H2,A,M2,I2,c,g,m,l⟩:=io I' b r q;exact⟨.ref p,H2,I2,f,u _ _ l _ H2 c (i.trans g) ⟨p,x,rfl,n.mono (g.imm b),m⟩⟩
 .exact⟨v,H',I',f,u _ _ q v H' b i r⟩
theorem Kv{P:eC}{w:fe}{i:Xy}{a:fx}{k n:Nat}{f:ca}{fd:ff}{g:Xr}{T:Sd}(F:FnOk P w K i a (oU P w) k f fd g (bw K n T)):
  FnOk P w K i a CX0 k f fd g (λvs H Q _=>bw K n T vs H Q E0):=
 ⟨λvs H Q E h=>F.len _ _ _ _ h,λA b s H c q vs Q E o m l u p=>SZ (F.run A b s H c q vs Q E0 o m l u p) λr v h=>by
  cases r with
  |ok fl=>cases fl<;>exact h
  |error e=>
   obtain⟨C',J,H',B,L,z,x,N,M,y,G,I,C,j⟩:=h;exact(show False from j).elim⟩
theorem Ed{T:Sd}{H:Hp}{a:ca}{c:Xq}{Q:VK}(g:AY H)(i:SqL K H a (c.map V.int))(h:T [.ml (c.map D.int)] (λ_=>bb) (λd _=>d=.bl true) oW)(k:∀H',Q (.bl true) H'):bw K 1 T [.ref a] H Q E0:=by
 refine⟨rfl,[.ml (c.map D.int)],λ_=>bb,_,_,λb o e=>(by cases e),.cons ⟨a,_,rfl,?_,uX rfl⟩ .nil,h,λd M' q v H' j f r=>?_,λ_ _ z=>z.elim⟩
 .rcases i with (z|z)|z
  .rcases g a with e|⟨o,xs,e⟩
   .rw[e]at z;cases z
   .rw[e]at z;cases z
  .exact .inl z
  .exact .inr z
 .subst q;cases r;exact k H'
end
theorem jY{h h':fx}{N:ca}(X:K.In h)(X':K.In h')(e:W.nsOkIn K N=true):h'.nsMap N=h.nsMap N:=by
 unfold W.nsOkIn at e
 split at e
 .rename_i a
  funext x;unfold Heap.nsMap;rw[X _ _ a,X' _ _ a]
 .cases e
theorem gX{h:fx}{C:ca}(X:K.In h)(q:U4 K C [.type "ValueError",.type "Exception",.type "BaseException",.type "object"] "ValueError.__new__"=true):ExcAt K C:=by
 unfold U4 at q
 split at q
 .rename_i H z i G
  split at q
  .rename_i C' B s j r u n o v m
   simp only[QM,beq_iff_eq,Bool.not_eq_true']at q;obtain⟨⟨⟨⟨⟨rfl,rfl⟩,b⟩,p⟩,a⟩,c⟩:=q;obtain⟨nm,bs,A,g,x,w,E,sub,y,e,del⟩:=z;dsimp only at v b a c;subst v b;have f:i=#[s,j,r,u,ap (.builtin "ValueError.__new__"),o]:=by
    obtain⟨l⟩:=i;simp only at m;rw[m]
   subst f;refine⟨⟨nm,x,g,bs,B,_,w,E,sub,y,e,H,s,j,r,u,o,"ValueError.__new__","ValueError.__init__","ValueError",h.nsMap g,λI X'=>⟨X' _ _ G,?_,W.tail_of_in X' p⟩,W.nsMap_none_of_in X a c,PySem.F.excBase_ValueError,by decide,(W.tail_of_in X p).hasType<|by decide⟩⟩
   rw[<- jY X X' a];exact .of_isNs (W.isNs_of_in X' a)
  .cases q
 .cases q
end _3
namespace _2
open PySem
theorem Fw{b:eH}{a:List Comprehension}{scope:Pv}{pos f:Pos}{x:Str}{line:Nat}{env:Env}(i:env.blockKind=.function)(h:env.scope.names.lookup x=ap .local)(j:f.line=pos.line)
  (g:(scope.names.any λ(n,k)=>n==x&&(k==.local||k==.cell))=cm):x9 (.ListComp b a scope pos) (ap<|.Name x f) line env=pure true:=by
 have e:(Expr.ListComp b a scope pos).pos=pos:=rfl;have c:env.kindOf x=ap .local:=h;unfold x9
 try dsimp only
 rw[i,c,e,j,g];simp
end _2
namespace _3
open PySem _2
variable{B:Bd}{X:Cx}{es:Xu}
noncomputable def Dx:eH->Bool
 |.Starred ..=>cm
 |_=>true
theorem AB{e:eH}{env:Env}(h:Dx e=true):cy (e::es) env=(cm,eX e env)::cy es env:=by
 cases e<;>first|rfl|exact Bool.noConfusion h
section
theorem da_c{e:eH}{te:bh}{t:eQ}(a:DE X B e te)(c:DA X B es t)(b:Dx e=true:=by rfl):DA X B (e::es) (aa te t):=GK a c (AB b)
end
section
end
section
noncomputable def wB(n:Nat)(t:nQ):ju:=λd U M Q=>match d with
 |.lst xs=>xs.length=n/\t xs U M Q
 |.ref a=>match M a with
  |some (.lst xs)=>xs.length=n/\t xs U M Q
  |_=>False
 |_=>False
theorem Lm{k:Nat}{t:nQ}{n:Nat}{pos:Pos}(A:X.calm=true)(h:Oc X B es t)(z:(pt es X.env).length=n:=by rfl)(hst:(pt es X.env).findIdx? (·.1)=none:=by rfl):DG X B (.Tuple es k pos) (wB n t):=by
 intro a s Z H v u Q I r J;obtain⟨d,U,M,QQ,m,y,hd,x⟩:=J;cases d with
 |lst j=>
  obtain⟨p,w,rfl,G,i⟩:=y;obtain⟨C,hd⟩:=hd;cases r;obtain⟨f,c,pl,F⟩:=I.list G.sq;have g:(pt es X.env).length=f.toArray.size:=by have:=c.length;have:=i.length;simp[z];lia
  rw[Tq];refine ax (Wd ?_);unfold unpack;rw[g,hst];refine ax (n7 (W.kun_itemsOf (I.ok.hd A) pl.isList λq l=>?_));have I1:Inv X a Z H { s with heap:=q }:=I.kept (t':=s.toks) λb o e=>l b o (PQ<|Pj e) e;exact h a _ Z H w _ Q I1 (by simpa using c) ⟨j,U,M,QQ,m,i,hd,x⟩
 |ref p=>
  cases y;simp only[wB]at hd
  split at hd
  .rename_i j e
   obtain⟨w,E,i⟩:=m.rh _ _ e;obtain⟨C,hd⟩:=hd;cases r;obtain⟨f,c,pl,F⟩:=I.list (SqL.of E);have g:(pt es X.env).length=f.toArray.size:=by have:=c.length;have:=i.length;simp[z];lia
   rw[Tq];refine ax (Wd ?_);unfold unpack;rw[g,hst];refine ax (n7 (W.kun_itemsOf (I.ok.hd A) pl.isList λq l=>?_));have I1:Inv X a Z H { s with heap:=q }:=I.kept (t':=s.toks) λb o e=>l b o (PQ<|Pj e) e;exact h a _ Z H w _ Q I1 (by simpa using c) ⟨j,U,M,QQ,m,i,hd,x⟩
  .exact hd.elim
 |_=>exact(show False from hd).elim
end
section
end
end _3
namespace _S
open PySem
variable{A:fv}{prog:eC}{s:cb}{E:Xw}{w:fe}
section
variable{K:Type}[DecidableEq K]
variable{knd:KeyKind prog w K}
end
section
variable{K:Type}[DecidableEq K]{knd:KeyKind prog w K}
end
section
variable{M:Model}
end
section
variable{I a:ca}{f:ay}{i n ep:Nat}{es:Array (Int×ay)}{t:SetTable}
end
section
variable{I a:ca}{ep:Nat}{es:Array (Int×ay)}{t:SetTable}
end
end _S
namespace _S
open PySem PySem.W PySem.Calls PyProof.Rows PyProof.V PySem.Spec
section
variable {prog:eC}{w:fe}{A:fv}{E:Xw}{s:cb}{a:ca}{ep:Nat}{es:Array (Int×ay)}{t:SetTable}
end
end _S
namespace _S
open PySem
section
variable {prog:eC}{w:fe}{A:fv}{E:Xw}{s:cb}{a:ca}
end
section
variable {K:Type}[DecidableEq K](o:Ord K)
end
end _S
namespace _3
open PySem _2 _S
section
variable {X:Cx}{B:Bd}
end
end _3
namespace _S
open PySem
section
variable {prog:eC}{w:fe}{A:fv}{E:Xw}{s:cb}{a:ca}
end
end _S
namespace _3
open PySem _2 _S
noncomputable def h7:List D->Option (List Int)
 |[]=>ap []
 |.int i::ds=>match h7 ds with
  |some is=>ap (i::is)
  |none=>bb
 |_=>bb
theorem sL{K:Pg}{H:Hp}:∀{ds:List D}{vs:List V}{xs:Xq},Rps K H ds vs->h7 ds=ap xs->vs=xs.map V.int
 |[],vs,xs,r,e=>by cases e;exact r
 |d::ds,vs,xs,r,e=>by
  obtain⟨v,h,rfl,a,b⟩:=r;cases d with
  |int c=>
   simp only[h7]at e
   split at e
   .rename_i g f
    cases e;cases a;rw[sL b f];rfl
   .cases e
  |_=>simp[h7]at e
section
variable {X:Cx}{B:Bd}
end
end _3
namespace _2
open PySem
section
variable {X:Cx}
end
end _2
namespace _3
open PySem _2 _S
section
variable {X:Cx}{B:Bd}
theorem Aw:eT "range"=ap (.type "range"):=by decide +kernel
def uQ(t:eQ):bh:=λU M Q=>t U M λa M1=>match a with
 |[.int j]=>(-(2 ^ 62)<=j/\j<=1000)/\∀p,M1 p=bb->Q (.ref p) (M1.upd p<|.lst<|cj 0 j.toNat)
 |_=>False
noncomputable def w_(n:Nat):List V:=(PD n).map λ(i:Nat)=>V.int (0+(i:Int))
theorem EK{K:Pg}{H:Hp}{n:Nat}:Rps K H (cj 0 n) (w_ n):=by
 unfold cj w_;generalize PD n=l
 induction l with
 |nil=>rfl
 |cons i l ih=>exact⟨_,_,rfl,rfl,ih⟩
theorem Dk{Xl:Xz}{n:Nat}(h:ItemsOf (λi v=>∃t,v=.int (0+i*1) t) Xl n):Vals (w_ n) Xl.toList:=by
 obtain⟨c,b⟩:=h;have a:∀(l:Xs)(k m:Nat),l.length=m->(∀(j:Nat)(v:ay),l[j]?=ap v->∃t,v=.int (0+((k+j:Nat):Int)) t)->Vals ((Ry k m).map λ(i:Nat)=>V.int (0+(i:Int))) l:=by
  intro l
  induction l with
  |nil=>intro k m e _;subst e;exact .nil
  |cons x l ih=>
   intro k m e h;subst e;rw[Pu,Q4,Pc];refine .cons ?_ (ih (k+1) _ rfl λj v q=>?_)
   .obtain⟨t,rfl⟩:=h 0 x (by simp)
    exact⟨t,rfl⟩
   .obtain⟨t,e⟩:=h (j+1) v (by simpa using q)
    exact⟨t,by rw[e];congr 2;lia⟩
 have:=a Xl.toList 0 n (by simpa using c) λj v q=>by
  obtain⟨t,e⟩:=b j v (by simpa using q)
  exact⟨t,by rw[e,TZ,RT]⟩
 unfold w_;rw[Rx];exact this
noncomputable def Cn(t:TA):TE:=λZ H Q=>t Z H λa H1=>∃j:Int,a=[.int j]/\(-(2 ^ 62)<=j/\j<=1000)/\∀p,H1 p=bb->Q (.ref p) (upd H1 p<|.lst<|w_ j.toNat)
theorem wq{e:eH}{t:TA}{p r pos a:Pos}(S:X.calm=true)(O:Gl X "range")(T:X.mg "range"=bb)(x:Gl X "list")(v:X.mg "list"=bb)(R:PA X [e] t)
  (P:cy [e] X.env=[(cm,eX e X.env)]:=by rfl) (hs3:cy [UE (.Name "range" r) [e] [] a] X.env=[(cm,eX (.Call (.Name "range" r) [e] [] a) X.env)]:=by rfl):
  PE X (.Call (.Name "list" p) [.Call (.Name "range" r) [e] [] a] [] pos) (Cn t):=by
 intro g s Z H Q I h;refine pB (dM I x v lA<|P5 ?_ hs3 rfl);rw[hs3];show cp _ _ (spliced ((cm,_)::g3 pos [])) _ _ s;refine Q9 ?_;refine pB (dM I O T Aw<|P5 (bv (R a g s Z H _ I h) λW c ⟨Y,H1,I1,E,C⟩=>?_) P rfl);obtain⟨j,rfl,⟨A,U⟩,q⟩:=C;obtain⟨u,rfl,L⟩:=pq E;obtain⟨t',rfl⟩:=L;refine call_range_1 ?_;refine RM ?_;have M:=I1.ok.hd S;refine call_list_range (n:=j.toNat) M (IsRange.new ..) (small_one (by decide) (by decide) A<|by lia) (by rw[rangeSize_one];split<;>lia) (by lia) λG F l y J N f=>?_
 have i:(c.heap.push { cls:=.type "range",data:=.fields #[.int 0 c.toks,.int j t',.int 1 (c.toks+1)] }).objs.size=c.heap.objs.size+1:=Qi ..;have K:H1 (c.heap.objs.size+1)=none:=I1.hok.fresh (TY _);have m:G.get? (c.heap.objs.size+1)=ap { cls:=.type "list",dict:=bb,data:=.seq l y,slots:=#[] }:=by rw[<- i];exact N
 refine⟨.ref (c.heap.objs.size+1),_,I1.laid (t':=F) (o:=.lst (w_ j.toNat)) (λb o z=>J b o (Pe _ z)) (TY _) (show ObjOk X.prog X.w _ _ _ (.lst _) from ⟨?_,l.toList,y,Dk f,by rw[Array.toArray_toList];exact m⟩),?_,q _ K⟩
 .simp only[w_,Pa,QW]
  exact PL (by lia:j.toNat<=1000) (by decide)
 .show PC _=PC _
  rw[<- i]
theorem wJ{e:eH}{t:eQ}{p p2 pos pos2:Pos}(hc:X.calm=true)(hg:Gl X "range")(hm:X.mg "range"=bb)(hg2:Gl X "list")(hm2:X.mg "list"=bb)(ha:DA X B [e] t)
  (hs:cy [e] X.env=[(cm,eX e X.env)]:=by rfl) (hs3:cy [UE (.Name "range" p2) [e] [] pos2] X.env=[(cm,eX (.Call (.Name "range" p2) [e] [] pos2) X.env)]:=by rfl):
  DE X B (.Call (.Name "list" p) [.Call (.Name "range" p2) [e] [] pos2] [] pos) (uQ t):=by
 refine aW (wq hc hg hm hg2 hm2 ha hs hs3) ?_
 rintro Z H Q ⟨U,M,QQ,s,h,u⟩
 refine⟨U,M,_,s,h,λds M1 h1 vs H1 rh1 i1 r1=>?_⟩
 split at h1
 .obtain⟨v,rfl,rv⟩:=ib (ds:=[]) r1
  cases rv;refine⟨_,rfl,h1.1,λd hd=>?_⟩;exact u _ _ (h1.2 d<|rh1.fresh hd) _ _ (rh1.put (by rw[hd];trivial) ⟨_,upd_same,EK⟩) (i1.trans<|Frm.put<|.inl hd) rfl
 .exact h1.elim
end
section
variable {X:Cx}{B:Bd}{name:Str}{a:ca}{tab:List (Str×D)}
end
end _3
namespace _S
open PySem
section
variable {prog:eC}{w:fe}{K:Type}[DecidableEq K]{A:fv}{E:Xw}{s:cb}{knd:KeyKind prog w K}
end
section
variable {prog:eC}{w:fe}{K:Type}[DecidableEq K]{A:fv}{E:Xw}{s:cb}{knd:KeyKind prog w K}
end
end _S
namespace _2
open PySem PySem.Spec
section
variable {X:Cx}{tg:eH}
end
end _2
namespace _3
open PySem _2 _S
section
variable {X:Cx}{B:Bd}{tg:eH}{K:Pg}{H:Hp}{M:Mem}
end
end _3
namespace _3
open PySem _2
section
variable {X:Cx}{B:Bd}{pos:Pos}
end
section
variable {X:Cx}{B:Bd}
end
end _3
namespace _3
open PySem _2 _S
section
variable {X:Cx}{B:Bd}
end
end _3
namespace _S
open PySem PySem.W PySem.Calls PyProof.Rows PyProof.V PySem.Spec
section
variable {prog:eC}{w:fe}{K:Type}[DecidableEq K]{knd:KeyKind prog w K}{A:fv}{E:Xw}{s:cb}{v d:ca}{ep:Nat}{Xk:List (K×ay)}
end
end _S
namespace _3
open PySem _2 _S
section
variable {X:Cx}{B:Bd}{pos:Pos}
end
end _3
namespace LX
open PySem PySem.W PySem.Spec PySem.Calls PyProof.Rows Builtin Builtin.ObjectAttr Builtin.Getset_descriptor
section
variable {K:Frag}{prog:eC}{w:fe}{A:fv}{E:Xw}{s:cb}
end
end LX
namespace LX
open PySem PySem.W PySem.Spec PySem.Calls PyProof.Rows
end LX
namespace _2
open PySem PySem.Spec PyProof.Rows
section
variable {X:Cx}{Xi:Xx}{Z:St}{H:Hp}{s:cb}{e:ay}
end
end _2
namespace _2
open PySem
end _2
namespace _3
open PySem _2
variable{K:Pg}
section
variable{X:Cx}{B:Bd}{H H':Hp}{M M1 M':Mem}
end
section
variable{P:eC}{w:fe}{mg:Xy}{base:fx}{f:ca}{fd:ff}
end
section
variable{X:Cx}{B:Bd}{H H':Hp}{M M1 M':Mem}
end
end _3
namespace _3
open PySem _2 _S
section
variable {X:Cx}{B:Bd}
end
end _3
namespace _3
open PySem _2
variable{B:Bd}{X:Cx}{pos:Pos}
section
end
section
variable{C:ca}{f:Str}{o value:eH}{ta tv:bh}{tpos:Pos}
noncomputable def rO(C:ca)(ta tv:bh)(f:Str):aA:=λD U M=>ta U M λx M1=>match x with
 |.ref a=>match M1 a with
  |some (.ins C' fs)=>C'=C/\fs.length<1000/\match fs.lookup f with
   |some (.int i)=>tv U M1 λy M2=>match y with
    |.int j=>M2 a=ap (.ins C fs)/\D.nx U (M2.upd a<|.ins C<|bE f (.int (i+j)) fs)
    |_=>False
   |_=>False
  |_=>False
 |_=>False
theorem zX(c:Cls X.K C)(n:NoAttr X.K C f)(ha:DE X B o ta)(hv:DE X B value tv):DS X B (.AugAssign (.Attribute o f tpos) .Add value pos) (rO C ta tv f):=by
 refine bU (om ha hv Lq) ?_
 rintro D Z H ⟨U,M,DD,s,h,up⟩
 refine⟨U,M,_,s,h,λx M1 h1 v1 H1 rh1 i1 r1=>?_⟩
 split at h1
 .rename_i a
  cases r1
  split at h1
  .rename_i C' fs hM
   obtain⟨rfl,hl,h1⟩:=h1
   split at h1
   .rename_i i hf
    obtain⟨dx,ws,e1,e2⟩:=rh1 _ _ hM;obtain⟨z,_⟩|⟨d,w,hd,hw,rw1⟩:=e2.lookup f
    .rw[hf]at z;cases z
    rw[hf]at hd;cases hd;cases rw1;refine⟨a,C',dx,ws,.int i,rfl,e1,c,n,hw,U,M1,_,s.go rh1 i1,h1,λy M2 h2 v2 H2 rh2 i2 r2=>?_⟩
    split at h2
    .rename_i j
     cases r2;obtain⟨hM2,h2⟩:=h2;obtain⟨dx2,ws2,e3,e4⟩:=rh2 _ _ hM2;have i3:Frm M2 H2 (M2.upd a<|.ins C'<|bE f (.int (i+j)) fs) (upd H2 a<|.ins C' dx2<|_2.da f (.int (i+j)) ws2):=Frm.put (.inr ⟨_,hM2⟩);refine⟨i,j,rfl,rfl,dx2,ws2,e3,by rw[<- e4.length];exact hl,up.nx _ _ h2 Z _ ((i1.trans i2).trans i3)<|s.go (rh2.put (by rw[e3];trivial) ⟨dx2,_,upd_same,?_⟩)<|(i1.trans i2).trans i3⟩
     exact(j6 (show Rp X.K H2 (.int (i+j)) (.int (i+j)) from rfl) e4).mono (i3.imm rh2)
    .exact h2.elim
   .exact h1.elim
  .exact h1.elim
 .exact h1.elim
end
section
variable{CX:nV}{k n:Nat}{f C:ca}{fd:ff}{ps:Xr}{T:Sd}{E:XK}{EE:DX}{x:Str}{p:Pos}
end
section
variable{K:Pg}{H H':Hp}{M M1 M':Mem}
end
section
end
end _3
namespace _S
open PySem PySem.W PySem.Calls PyProof.Rows PyProof.V PySem.Spec
section
variable {prog:eC}{w:fe}{A:fv}{E:Xw}{s:cb}{it d:ca}{i n ep:Nat}{ok ov:ay}{od:Obj}{es:Array WI}
end
end _S
namespace _2
open PySem PySem.Spec PyProof.Rows _S
theorem Inv.frzT{X:Cx}{a:Xx}{Z:St}{H:Hp}{s:cb}{d:ca}{b:Obj}{Xk:List (List aB×V)}{es:Array WI}{m:Nat}(I:Inv X a Z H s)(e:H d=ap (.frz b<|.dT Xk))(l:b.data=.dict es m):
  s.heap.get? d=ap b/\∃xs:List (List aB×ca×ay),KT H Xk xs/\es.toList=xs.map (entryOfKey<|tupleKind<|aU X.prog X.w):=by
 obtain⟨g,_,_,xs,r,o,i,h,f,_,c,j,_⟩:=(show ObjOk X.prog X.w H s.heap d (.frz b<|.dT Xk) from I.hok d _ e);rw[g]at f;cases f;rw[l]at c;cases c;exact⟨g,xs,r,j⟩
theorem KT.at{H:Hp}:∀{Xk:List (List aB×V)}{xs:List (List aB×ca×ay)},KT H Xk xs->∀{i:Nat}{ks:List aB}{x:V},Xk[i]?=ap (ks,x)->∃b u,xs[i]?=ap (ks,b,u)/\H b=ap (.tup<|ks.map kV)/\RelV x u
 |_,_,.nil,i,ks,x,e=>by simp at e
 |_,_,.cons (a:=p) (b:=q) h t,0,ks,x,e=>by
  simp at e;subst e;obtain⟨g,c,f⟩:=q;exact⟨c,f,by simp;exact h.1.symm,h.2.1,h.2.2⟩
 |_,_,.cons h t,i+1,ks,x,e=>by
  simp at e;simpa using KT.at t e
theorem Inv.freezeT{X:Cx}{e:Xx}{Z:St}{H:Hp}{s:cb}{p:ca}{Xk:List (List aB×V)}(I:Inv X e Z H s)(h:H p=ap (.dT Xk)):
  ∃f es m,f.data=.dict es m/\es.size=Xk.length/\s.heap.get? p=ap f/\(p==qa)=cm/\Inv X e Z (upd H p<|.frz f<|.dT Xk) s:=by
 obtain⟨z,y,i,r,f,es,m,g,j,l,G,K⟩:=(show ObjOk X.prog X.w H s.heap p (.dT Xk) from I.hok p _ h);have ne:∀{b:ca}{u:Option HO},H b=u->u≠ap (.dT Xk)->b≠p:=λ{b u} q C z=>by subst z;rw[h]at q;exact C q.symm
 refine⟨f,es,m,l,by rw[<- Q1,G,Pa,<- QT r],g,y,I.ok,I.os,I.bare,⟨I.base.keep,I.base.slot,λb o q F A=>?_,I.base.there,λb i q=>?_,λb o u q=>?_,λb J q=>?_⟩,I.loc,I.cell,?_,λx c q=>?_,λE B=>?_,λb o q=>?_,I.len⟩
 .have a:=I.base.free b o q F A
  rw[aF (ne a<|by simp)];exact a
 .have a:=I.base.tups b i q
  rw[aF (ne a<|by simp)];exact a
 .have a:=I.base.frzs b o u q
  rw[aF (ne a<|by simp)];exact a
 .obtain⟨more,a⟩:=I.base.tbls b J q
  exact⟨more,by rw[aF (ne a<|by simp)];exact a⟩
 .rw[aF (ne I.free<|by simp)];exact I.free
 .have a:=I.freeC x c q
  rw[aF (ne a<|by simp)];exact a
 .obtain⟨g,j,l⟩:=I.pin E B
  exact⟨g,by rw[aF (ne j<|by simp)];exact j,l⟩
 .have v:∀{u:HO}{b:ca},ObjOk X.prog X.w H s.heap b u->ObjOk X.prog X.w (upd H p<|.frz f<|.dT Xk) s.heap b u:=λx=>x.stay (λ_ _ _ y=>y) (λc y=>by rw[aF (ne y<|by simp)];exact y) λc i y=>by rw[aF (ne y<|by simp)];exact y
  by_cases n:b=p
  .subst n
   rw[upd_same]at q;cases q;exact⟨g,v<|I.hok b _ h⟩
  .rw[aF n]at q
   exact v (I.hok b o q)
end _2
namespace _3
open PySem _2 _S
section
variable {X:Cx}{B:Bd}
theorem rL{K:Pg}{H:Hp}:∀ks:List aB,Rps K H (ks.map λk=>match k with|.inl i=>D.int i|.inr x=>D.str x) (ks.map kV)
 |[]=>rfl
 |.inl i::ks=>⟨_,_,rfl,rfl,rL ks⟩
 |.inr x::ks=>⟨_,_,rfl,rfl,rL ks⟩
theorem RepH.freezeT{K:Pg}{H:Hp}{M:Mem}{p:ca}{Xk:List (List aB×V)}{o:Obj}(r:RepH K H M)(h:H p=ap (.dT Xk)):RepH K (upd H p<|.frz o<|.dT Xk) (M.del p):=λb u e=>by
 unfold Mem.del at e
 split at e
 .cases e
 .rename_i hb
  exact(r b u e).keep (Imm.upd<|by rw[h];trivial) (aF hb)
end
end _3
namespace _S
open PySem PySem.W PySem.Calls PyProof.Rows PyProof.V PySem.Spec _2
theorem sf:TD (.type "list") "keys"=pure none:=by rw[py];rw[kc];kernel_rfl
abbrev Ju(h:fx)(a:ca)(Xo:Xz)(n:Nat):Prop:=h.get? a=ap { cls:=.type "list",dict:=bb,data:=.seq Xo n,slots:=#[] }
section
variable {prog:eC}{w:fe}{A:fv}{E:Xw}{s:cb}
theorem nr{a:ca}{Xo:Xz}{n:Nat}{Q:Option ay->cb->Prop}(l:Ju s.heap a Xo n)(r:A.handled=bb)
  (h:∀h' j,(∀b o,s.heap.get? b=ap o->h'.get? b=ap o)->Q bb { s with heap:=h',toks:=j }):cp (cT prog w) A (WA (.ref a) "keys") Q E s:=by
 obtain⟨p,g,d,j,m⟩:=s;have i:∀f,(⟨p,g,d,f,m⟩:cb).TypeIs (.ref a) "list":=λ_=>⟨_,l,rfl⟩;have q:=sub_AttributeError;have B:=RQ.lookup;have y:=RQ.bind (.ref a);have u:=am_list_getattr_none;unfold WA getAttrBy? getAttrBy
 repeat (any_goals (first|assumption|exact i _|((with_reducible show cp _ _ (call (Uh "list.__getattribute__") _ _) _ _ _);refine s9 RQ (i _) am_entry_list_getattribute (PySem.F.args_list_getattribute_2 _ _) (meets_getattribute_miss_list a Xo n #[] "keys" _ sf (by decide +kernel) (by decide +kernel)) ⟨l,r,λh' f e c=>?_⟩)|wp_step))
 obtain⟨v,z,x⟩:=c.there;show cp _ _ (V8 _ _ _ _ _ _ _) _ _ _;unfold V8
 repeat (any_goals (first|assumption|wp_step))
 exact h _ _ c.keeps
end
theorem wt{prog:eC}{w:fe}{s:cb}{l:ca}{m:Nat}{f:List (ay×ay)}{Ts:Xt}(N:Ts.length=f.length)(z:Ju s.heap l (Ts.map PC).toArray m)(u:∀(i:Nat)(g:i<Ts.length)(q:i<f.length),wv s.heap Ts[i] f[i].1 f[i].2):
  ∀(A':fv)(s':cb)(Q:Xw)(E:Xw),(∀b o,s.heap.get? b=ap o->s'.heap.get? b=ap o)->s.heap.objs.size<s'.heap.objs.size->
   (∀h' M O St,(∀b o,s'.heap.get? b=ap o->h'.get? b=ap o)->PSrc prog w s.heap.objs.size M f O St->St 0 h'->(∀b∈O,b∈[]\/s.heap.objs.size<b)->Q (.ref M) { s' with heap:=h' })->cp (cT prog w) A' (Wx<|.ref l) Q E s':=by
 intro A' s' Q E G lt k;have ne:∀{b o},s.heap.get? b=ap o->b≠s.heap.objs.size/\b≠s'.heap.objs.size:=λe=>⟨PQ (Pj e),PQ<|UU (Pj e) lt⟩;have S:∀(i:Nat)(g:i<Ts.length),Ts[i]≠s.heap.objs.size/\Ts[i]≠s'.heap.objs.size:=λi g=>let ⟨_,_,e,_⟩:=u i g (by lia);ne e
 have y:s'.heap.IsList l (Ts.map PC).toArray:=⟨_,G _ _ z,rfl,m,rfl⟩;have I:∀{h h':fx}(b:ca),(∀c o,c≠b->h.get? c=ap o->h'.get? c=ap o)->(∀{c o},s.heap.get? c=ap o->c≠b)->h.IsList l (Ts.map PC).toArray/\(∀(i:Nat)(g:i<Ts.length)(q:i<f.length),wv h Ts[i] f[i].1 f[i].2)->h'.IsList l (Ts.map PC).toArray/\∀(i:Nat)(g:i<Ts.length)(q:i<f.length),wv h' Ts[i] f[i].1 f[i].2:=λb k n ⟨⟨o,B,C⟩,p⟩=>
  ⟨⟨o,k _ _ (n z) B,C⟩,λi g q=>let ⟨o,x,e,r⟩:=p i g q;let ⟨_,_,e',_⟩:=u i g q;⟨o,x,k _ _ (n e') e,r⟩⟩
 refine V9 y (k _ s'.heap.objs.size [s'.heap.objs.size] (λi h=>h.IsListIter s'.heap.objs.size l i/\h.IsList l (Ts.map PC).toArray/\∀(i:Nat)(g:i<Ts.length)(q:i<f.length),wv h Ts[i] f[i].1 f[i].2) (λb o e=>Pe _ e) ⟨by simp;exact PQ lt,λi h h' j k=>⟨j.1.at λo e=>k _ o (Rg lt) e,I _ k (λe=>(ne e).1) j.2⟩,?_,?_⟩ ⟨⟨_,Pm _ rfl,rfl,rfl⟩,?_,λi g q=>?_⟩ λb L=>.inr (by simp at L;subst L;exact lt))
 .intro A i H R Q E K _ j F
  refine W5 (x:=.ref Ts[i]) j.1 j.2.1 (by simp[N,H]) λh' v J=>?_
  obtain⟨a,b⟩:=I _ (λc o P e=>J.extBut c o P e) (λe=>(ne e).2) j.2;exact F h' Ts[i] ⟨v,a,b⟩ (b i (by lia) H) λc o n e=>J.extBut c o (by simpa using n) e
 .exact λA R Q E K j F=>Xe K j.1 j.2.1 (by simp[N]) λh' k=>F h' λc o n e=>k c o (by simpa using n) e
 .obtain⟨o,B,C⟩:=y
  exact⟨o,Pe _ B,C⟩
 .obtain⟨o,n,e,r⟩:=u i g q
  exact⟨o,n,Pe _ (G _ _ e),r⟩
end _S
namespace _2
open PySem PySem.Spec PyProof.Rows _S
inductive PrK(H:Hp):List V->List (aB×V)->Prop
 |nil:PrK H [] []
 |cons {T:ca} {k:aB} {x:V} {vs:List V} {Xk:List (aB×V)} (hT:H T=ap (.tup [kV k,x])) (r:PrK H vs Xk):PrK H (.ref T::vs) ((k,x)::Xk)
section
variable {X:Cx}{Xi:Xx}{Z:St}{H:Hp}{s:cb}
theorem Inv.pair{T:ca}{y x:V}(I:Inv X Xi Z H s)(h:H T=ap (.tup [y,x])):∃k v,RelV y k/\RelV x v/\wv s.heap T k v:=by
 obtain⟨_,b,r,o,e,⟨c,n,d⟩,_⟩:=(show ObjOk X.prog X.w H s.heap T (.tup [y,x]) from I.hok T _ h);obtain⟨k,v,rfl,a,f⟩:=r.two;exact⟨k,v,a,f,o,n,e,c,d⟩
theorem Inv.prK(I:Inv X Xi Z H s):∀{vs:List V}{Xk:List (aB×V)},PrK H vs Xk->∃(Ts:Xt)(rs:List (aB×ay×ay)),vs=Ts.map V.ref/\KV Xk (rs.map λr=>(r.1,r.2.2))/\Ts.length=rs.length/\(∀r∈rs,(aU X.prog X.w).is r.1 r.2.1=true)/\∀(i:Nat)(a:i<Ts.length)(b:i<rs.length),wv s.heap Ts[i] rs[i].2.1 rs[i].2.2
 |_,_,.nil=>⟨[],[],rfl,.nil,rfl,by simp,λi h=>absurd h (RJ _)⟩
 |_,_,.cons (T:=T) (k:=k) hT r=>by
  obtain⟨Ts,rs,rfl,q,g,f,e⟩:=I.prK r;obtain⟨j,v,c,l,p⟩:=I.pair hT;refine⟨T::Ts,(k,j,v)::rs,rfl,.cons ⟨rfl,l⟩ q,by simp[g],λr hr=>?_,λi a b=>?_⟩
  .rcases Po.mp hr with rfl|hr
   .exact iC c
   .exact f r hr
  .cases i with
   |zero=>exact p
   |succ i=>exact e i (by simpa using a) (by simpa using b)
theorem Inv.ls{l:ca}{vs:List V}(I:Inv X Xi Z H s)(e:Rd H l (.lst vs)):∃Xo n,Vals vs Xo/\Ju s.heap l Xo.toArray n:=by
 obtain⟨_,Xo,n,r,q⟩:=(show ObjOk X.prog X.w H s.heap l (.lst vs) from e.ok I.hok);exact⟨Xo,n,r,q⟩
theorem xb(J:X.calm=true):bO X (.type "dict") (λxs H Q=>∃l vs Xk,xs=[.ref l]/\Rd H l (.lst vs)/\PrK H vs Xk/\Xk.length<=1000000/\∀p,H p=bb->Q (.ref p) (upd H p<|.dK<|Xk.foldl (λa p=>dq a p.1 p.2) [])):=by
 intro Xi s Z H xs M Q I r h;obtain⟨l,vs,Xk,rfl,A,y,L,q⟩:=h;obtain⟨u,rfl,C⟩:=r.one;cases C;obtain⟨Ts,w,rfl,x,g,b,v⟩:=I.prK y;obtain⟨m,n,E,c⟩:=I.ls A;obtain rfl:m=Ts.map PC:=jt (f:=λa=>a) E;have j:w.length<=1000000:=by have:=QT x;rw[Pa]at this;lia
 refine lx (T:="list") (fq:=[]) J I rfl rfl rfl (λ_ _ e=>e) (Pl _) (by simp) x b j ⟨_,c,rfl⟩ (by decide) (λA' K Q' E' F B k=>nr (B _ _ c) F k) (wt (by simp[g]) c λi G z=>?_) q
 have o:i<w.length:=by simpa using z
 simp only[RX];exact v i G o
end
end _2
namespace _3
open PySem _2 _S
section
variable {X:Cx}{B:Bd}{K:Pg}{H:Hp}
noncomputable def sQ:List D->Option (List (aB×D))
 |[]=>ap []
 |.tup [k,v]::ds=>match cH k,sQ ds with
  |some ks,ap r=>ap ((ks,v)::r)
  |_,_=>bb
 |_=>bb
theorem Dm:∀{ds:List D}{vs:List V}{Xk:List (aB×D)},Rps K H ds vs->sQ ds=ap Xk->∃f,PrK H vs f/\Rkv K H Xk f
 |[],vs,Xk,r,e=>by cases e;cases r;exact⟨[],.nil,.nil⟩
 |d::ds,vs,Xk,r,e=>by
  obtain⟨v,E,rfl,a,b⟩:=r;unfold sQ at e
  split at e
  .rename_i h;cases h
  .rename_i k x w h
   cases h
   split at e
   .rename_i o q u p
    cases e;obtain⟨f,s,n⟩:=Dm b p;obtain⟨T,A,rfl,l,y⟩:=a;obtain⟨C,z,rfl,i,c⟩:=y;obtain⟨m,j,rfl,c,g⟩:=c;cases g;have:=gu i u;subst this;exact⟨(o,m)::f,.cons l s,.cons ⟨rfl,c⟩ n⟩
   .cases e
  .cases e
theorem ue{c:Type}[DecidableEq c]:∀{a:List (c×D)}{b:List (c×V)},Rkv K H a b->∀{a0:List (c×D)}{b0:List (c×V)},Rkv K H a0 b0->Rkv K H (a.foldl (λx p=>dI x p.1 p.2) a0) (b.foldl (λx p=>dq x p.1 p.2) b0)
 |_,_,.nil,a0,b0,h=>h
 |_,_,.cons (a:=p) (b:=q) h t,a0,b0,h0=>by
  rw[Qt,Qt];refine ue t ?_;rw[<- h.1];exact h0.put p.1 h.2
theorem Ey{M:Mem}{d:D}{v:V}{xs:List D}(f:RepH K H M)(r:Rp K H d v)(e:eY M d=ap xs)(g:∀ys,d≠.ml ys):∃l vs,v=.ref l/\Rd H l (.lst vs)/\Rps K H xs vs:=by
 cases d with
 |lst ys=>
  cases e;obtain⟨p,vs,rfl,⟨o,h⟩,r⟩:=r;exact⟨p,vs,rfl,.inr ⟨o,h⟩,r⟩
 |ml ys=>exact absurd rfl (g ys)
 |ref a=>
  simp only[eY]at e
  split at e
  .rename_i ys q
   cases e;cases r;obtain⟨vs,c,b⟩:=f _ _ q;exact⟨a,vs,rfl,.inl c,b⟩
  .cases e
 |_=>cases e
noncomputable def CY:D->Bool
 |.ml _=>cm
 |_=>true
theorem Fz{d:D}(h:CY d=true):∀ys,d≠.ml ys:=λys e=>by subst e;cases h
noncomputable def g7:uC:=λb M Q=>match b with
 |[d]=>CY d=true/\match eY M d with
  |some xs=>match sQ xs with
   |some Xk=>Xk.length<=1000000/\∀p,M p=bb->Q (.ref p) (M.upd p<|.dK<|Xk.foldl (λa p=>dI a p.1 p.2) [])
   |none=>False
  |none=>False
 |_=>False
theorem uU(hc:X.calm=true):bO X (.type "dict") (liftC X g7):=by
 intro Xi s Z H xs us Q I r h;obtain⟨ds,M,QQ,rh,rp,h,up⟩:=h;unfold g7 at h
 split at h
 .obtain⟨v,rfl,rv⟩:=ib (ds:=[]) rp
  obtain⟨hm,h⟩:=h
  split at h
  .rename_i ys e
   split at h
   .rename_i Xk e2
    obtain⟨l,vs,rfl,hq,rr⟩:=Ey rh rv e (Fz hm);obtain⟨ws,h1,h2⟩:=Dm rr e2;refine xb hc Xi s Z H _ us Q I r ⟨l,vs,ws,rfl,hq,h1,by rw[<- h2.length];exact h.1,λp hp=>?_⟩
    exact up _ _ (h.2 p<|rh.fresh hp) _ _ (rh.put (by rw[hp];trivial) ⟨_,upd_same,(ue h2 .nil).mono<|Imm.new hp⟩) (Frm.put<|.inl hp) rfl
   .exact h.elim
  .exact h.elim
 .exact h.elim
end
end _3
namespace _S
open PySem PySem.W PySem.Calls PyProof.Rows PyProof.V PySem.Spec _2
end _S
namespace _3
open PySem _2 _S
section
variable {X:Cx}{B:Bd}
end
end _3
namespace _3
open PySem PySem.W PySem.Calls PyProof.Rows PyProof.V PySem.Spec _2
section
variable {X:Cx}{B:Bd}{Xi:Xx}{Z:_2.St}{H:Hp}{s:cb}{M:Mem}
end
end _3
namespace _3
open PySem _2 _S
section
variable {X:Cx}{B:Bd}
end
end _3
namespace _2
open PySem PySem.Spec PyProof.Rows
section
variable {X:Cx}{e:eH}{te:TE}{st:eH}{ts:TO}{p2 pos:Pos}
end
end _2
namespace _3
open PySem _2
section
variable {X:Cx}{B:Bd}{K:Pg}{H:Hp}{M:Mem}{e:eH}{te:bh}{st:eH}{ts:Hv}{pos p2:Pos}
end
section
variable {X:Cx}{B:Bd}{K:Pg}{H:Hp}
noncomputable def cX:List D->List D->List D->List D
 |x::xs,y::ys,u::us=>.tup [x,y,u]::cX xs ys us
 |_,_,_=>[]
theorem oC:∀{xs ys us:List D}{i:Nat}{d:D},(cX xs ys us)[i]?=ap d->∃x y u,xs[i]?=ap x/\ys[i]?=ap y/\us[i]?=ap u/\d=.tup [x,y,u]
 |x::xs,y::ys,u::us,0,d,h=>by simp only[cX,dt,Uz]at h;exact⟨x,y,u,rfl,rfl,rfl,h.symm⟩
 |x::xs,y::ys,u::us,i+1,d,h=>by simp only[cX,OZ]at h ⊢;exact oC h
 |[],_,_,_,_,h=>by simp[cX]at h
 |_::_,[],_,_,_,h=>by simp[cX]at h
 |_::_,_::_,[],_,_,h=>by simp[cX]at h
theorem oa:∀{xs ys us:List D}{i:Nat},(cX xs ys us).length<=i->xs.length<=i\/ys.length<=i\/us.length<=i
 |x::xs,y::ys,u::us,0,h=>by simp[cX]at h
 |x::xs,y::ys,u::us,i+1,h=>by
  have:=oa (xs:=xs) (ys:=ys) (us:=us) (i:=i) (by simpa [cX] using h)
  simpa using this
 |[],_,_,_,_=>.inl (by simp)
 |_::_,[],_,_,_=>.inr (.inl<|by simp)
 |_::_,_::_,[],_,_=>.inr (.inr<|by simp)
noncomputable def t7(t:eQ):uZ:=λU M R=>t U M λa M1=>match a with
 |[d,e,f]=>match aE M1 d,aE M1 e,aE M1 f with
  |some xs,ap ys,ap us=>R ⟨cX xs ys us,b6 d xs++(b6 e ys++b6 f us)⟩ M1
  |_,_,_=>False
 |_=>False
theorem F8{a b c:eH}{g:Xu}{E:Nat}{F:Pos}{o:eQ}{p pos:Pos}(G:Gl X "zip")(L:X.mg "zip"=bb)(J:DA X B [a,b,c] o)
  (I:cy [a,b,c] X.env=[(cm,eX a X.env),(cm,eX b X.env),(cm,eX c X.env)]:=by rfl) (hs2:cy [b,c] X.env=[(cm,eX b X.env),(cm,eX c X.env)]:=by rfl):
  DI X B (.Tuple g E F) (.Call (.Name "zip" p) [a,b,c] [] pos) (t7 o):=by
 refine zx (λM M1 R h=>?_) G L J (by rw[I,hs2]) (by rw[hs2];rfl)
 split at h
 .split at h
  .rename_i d e f _ l n m s r C
   refine⟨[l,n,m],cX l n m,.inr rfl,.cons s (.cons r<|.cons C .nil),⟨λi z w=>?_,λi j=>?_⟩,by simpa [wg] using h⟩
   .obtain⟨x,y,u,q,A,v,rfl⟩:=oC w
    exact⟨_,rfl,by simp[q,A,v]⟩
   .have:=oa j
    simpa using this
  .exact h.elim
 .exact h.elim
end
end _3
namespace _S
open PySem PySem.W PyProof.Rows
variable{s:cb}
section
variable{n:Nat}{ky:Nat->Nat}{cmp:Nat->Nat->(Bool->cb->Prop)->cb->Prop}{p:Array Nat}
end
section
variable{prog:eC}{w:fe}{A:fv}{b:Bool}{Q:Bool->cb->Prop}
end
section
variable{prog:eC}{w:fe}{A:fv}{E:Xw}
end
end _S
namespace _3
open PySem _2 _S
section
variable {X:Cx}{B:Bd}
end
end _3
namespace HT
open PySem PyProof.Rows
section
variable {prog:eC}{w:fe}{A:fv}{E:Xw}{s:cb}
end
end HT
namespace _2
open PySem PySem.Spec PyProof.Rows
section
variable {X:Cx}{e:eH}{te:TE}{st:eH}{ts:TO}{p2 pos:Pos}
end
end _2
namespace _3
open PySem _2
variable{B:Bd}{X:Cx}{e:eH}{pos:Pos}{x:Str}{te:bh}{r:x_}
section
variable{st:eH}{ts:Hv}{p2:Pos}
end
structure GF(K:Pg)(mg:Xy)(x:Str)(st:rc)(f:ca)(fd:ff)(ps:Xr):Prop where
 F:Fun K x x st f fd
 b:Binds K fd ps []
 k:QG K (.ref f)=true
 m:mg x=ap (.ref f)
structure GA(K:Pg)(mg:Xy)(x y:Str)(st:rc)(f:ca)(fd:ff)(ps:Xr):Prop where
 F:Fun K y y st f fd
 b:Binds K fd ps []
 k:QG K (.ref f)=true
 m:mg x=ap (.ref f)
structure FunV(K:Pg)(x Xj:Str)(st:rc)(f:ca)(fd:ff):Prop where
 ex:∃(oc:ay)(od:Option ca)(kV doc pm:ay)(an:Option ca)(cdv ct:ay)(osl:Array (Option ay))(T:ca),
  fd=R8 x Xj (cc st) (bu st) (aR st) (.ref T) kV doc pm an cdv ct/\K.lookup f=ap ⟨oc,od,.func fd,osl⟩/\TN K cdv Xj=true
 kp:QG K (.ref f)=true
structure GV(K:Pg)(mg:Xy)(x:Str)(st:rc)(f:ca)(fd:ff)(ps:Xr)(dv:Int):Prop where
 F:FunV K x x st f fd
 b:Binds K fd ps []
 d:∃t,Binds K fd ps [.int dv t]
 k:QG K (.ref f)=true
 m:mg x=ap (.ref f)
inductive GC(K:Pg)(mg:Xy)(x:Str)(st:rc)(f:ca)(fd:ff)(ps:Xr):Prop
 |g (h:GF K mg x st f fd ps):GC K mg x st f fd ps
 |a {y:Str} (h:GA K mg x y st f fd ps):GC K mg x st f fd ps
 |v {dv:Int} (h:GV K mg x st f fd ps dv):GC K mg x st f fd ps
structure GM(K:Pg)(C:ca)(x Xj:Str)(st:rc)(f:ca)(fd:ff)(ps:Xr):Prop where
 F:Fun K x Xj st f fd
 b:Binds K fd ps []
 m:Meth K C x f
structure GI(K:Pg)(C:ca)(x Xj:Str)(st:rc)(f:ca)(fd:ff)(ps:Xr):Prop where
 F:Fun K x Xj st f fd
 b:Binds K fd ps []
 m:Mk K C f
section
variable{CX:nV}{k n:Nat}{f C:ca}{fd:ff}{N ps:Xr}{T:Sd}{EE:DX}{E:XK}{Xj:Str}{st:rc}{p Xn:Pos}{o:eH}{es:Xu}{ta:bh}{t:eQ}
theorem C3(h:GC X.K X.mg x st f fd ps)(F:FnOk X.prog X.w X.K X.mg X.base CX k f fd ps (bw X.K n T))(s:Room k X.A)(q:Gl X x)(j:bM CX X E)(ux:t_ X.K B EE E)(u:DA X B (e::es) t)(i:(x==("__debug__":Str))=cm)(l:cy (e::es) X.env=(cm,eX e X.env)::cy es X.env)(c:(g3 pos<|starEach es X.env).any (·.1)=cm):
  DE X B (.Call (.Name x p) (e::es) [] pos) (aj T EE n t):=by
 cases h with
 |g h=>exact pN F s q h.m h.k h.b j ux u i l c
 |a h=>exact pN F s q h.m h.k h.b j ux u i l c
 |v h=>exact pN F s q h.m h.k h.b j ux u i l c
def La(X:Cx)(B:Bd)(x:Str)(T:Sd)(EE:DX)(n:Nat):Prop:=∃(st:rc)(f:ca)(fd:ff)(ps:Xr)(k:Nat)(CX:nV)(E:XK),GC X.K X.mg x st f fd ps/\FnOk X.prog X.w X.K X.mg X.base CX k f fd ps (bw X.K n T)/\Room k X.A/\bM CX X E/\t_ X.K B EE E
theorem BA(h:La X B x T EE n)(j:Gl X x)(l:DA X B (e::es) t)(b:(x==("__debug__":Str))=cm)(i:cy (e::es) X.env=(cm,eX e X.env)::cy es X.env)(a:(g3 pos<|starEach es X.env).any (·.1)=cm):
  DE X B (.Call (.Name x p) (e::es) [] pos) (aj T EE n t):=by
 obtain⟨_,_,_,_,_,_,_,h,F,g,c,ux⟩:=h;exact C3 h F g j c ux l b i a
theorem CS(h:GI X.K C Xj x st f fd ps)(F:FnOk X.prog X.w X.K X.mg X.base CX k f fd ps (bw X.K n T))(l:Room (k+1) X.A){y:Str}(j:Gl X y)(s:X.mg y=ap (.ref C))(g:bM CX X E)(ux:t_ X.K B EE E)(q:DA X B (e::es) t)(c:(y==("__debug__":Str))=cm)(i:cy (e::es) X.env=(cm,eX e X.env)::cy es X.env)(a:(g3 pos<|starEach es X.env).any (·.1)=cm):
  DE X B (.Call (.Name y p) (e::es) [] pos) (fT C T EE n t):=El h.m F l j s h.b g ux q c i a
theorem CT{m:Str}{pl:Sem Bool}(l:DE X B o ta)(c:Cls X.K C)(h:GM X.K C m Xj st f fd ps)(F:FnOk X.prog X.w X.K X.mg X.base CX k f fd ps (bw X.K n T))(q:Room k X.A)(j:bM CX X E)(ux:t_ X.K B EE E)(s:DA X B (e::es) t)(a:cy (e::es) X.env=(cm,eX e X.env)::cy es X.env)(g:(g3 pos<|starEach es X.env).any (·.1)=cm)(i:eX (.Call (.Attribute o m Xn) (e::es) [] pos) X.env=(do
   let ov <- eX o X.env
   Wa Xn.atName
   let (f,first) <- Re [ov] (UV ov m pl)
   WD pos f first (g3 pos<|starEach (e::es) X.env) (wh pos<|keywordEach [] X.env))):
  DE X B (.Call (.Attribute o m Xn) (e::es) [] pos) (cZ C m T EE n ta t):=F9 l c h.m F q h.b j ux s a g i
theorem AF{m:Str}{pl:Sem Bool}(j:DE X B o ta)(c:Cls X.K C)(h:GM X.K C m Xj st f fd ps)(F:FnOk X.prog X.w X.K X.mg X.base CX k f fd ps (bw X.K n T))(i:Room k X.A)(g:bM CX X E)(ux:t_ X.K B EE E)(a:eX (.Call (.Attribute o m Xn) [] [] pos) X.env=(do
   let ov <- eX o X.env
   Wa Xn.atName
   let (f,first) <- Re [ov] (UV ov m pl)
   WD pos f first (g3 pos<|starEach [] X.env) (wh pos<|keywordEach [] X.env))):
  DE X B (.Call (.Attribute o m Xn) [] [] pos) (cZ C m T EE n ta af):=De j c h.m F i h.b g ux a
inductive FC(X:Cx)(scope:Pv):List Str->List Nat->List (Str×ca)->Prop
 |nil:FC X scope [] [] []
 |cons {x:Str} {j:Nat} {c:ca} {fs:Xr} {js:List Nat} {cl:List (Str×ca)}:X.N[j]?=ap x->X.env.cells.lookup x=ap c->(X.env.kindOf x=ap .cell\/X.env.kindOf x=ap .free)->
   ((Wb scope X.env).names.lookup x=ap .cell\/(Wb scope X.env).names.lookup x=ap .free)->FC X scope fs js cl->FC X scope (x::fs) (j::js) ((x,c)::cl)
theorem FC.ok{g:Pv}{fs:Xr}{j:List Nat}{i:List (Str×ca)}(h:FC X g fs j i):Frees X g fs j/\∃cs:List ca,fs.length=cs.length/\i=fs.zip cs/\∀p∈i,X.env.cells.lookup p.1=ap p.2:=by
 induction h with
 |nil=>exact⟨.nil,[],rfl,rfl,memZ⟩
 |cons a b c d _ ih=>
  obtain⟨l,cs,q,s,m⟩:=ih;exact⟨.cons a c d l,_::cs,congrArg (·+1) q,by rw[s];rfl,memC b m⟩
variable{scope:Pv}{cl:List (Str×ca)}{ls fs:Xr}{js:List Nat}{tg iter elt:eH}{ifs:Xu}{wi:uZ}{g:ju}{tt:eU}{i:Nat}{px spos:Pos}
theorem Gw{l:Str}{v M P j:Pos}{c:rc}{a:Xv}{L:aA}(h:GF X.K X.mg x st f fd ps)(F:FnOk X.prog X.w X.K X.mg X.base (oU X.prog X.w) k f fd ps (bw X.K n T))(y:X.stack=X.env::X.outer)(G:X.env.frame=ap X.env.locals)(Q:Room k X.A)(S:Gl X x)(U:DA X.nox B (e::es) t)(EX:ExcAt X.K C)(H:Gl X l)(q:X.mg l=ap (.ref C))(J:∀R:ca,zi (X.marked<|.ref R) B (c::a) L)(u:(x==("__debug__":Str))=cm)(z:(l==("__debug__":Str))=cm)(O:cy (e::es) X.env=(cm,eX e X.env)::cy es X.env)(I:(g3 v<|starEach es X.env).any (·.1)=cm)(s:x9 (.Call (.Name x p) (e::es) [] v) bb M.line X.env=pure cm):
  DS X B (.Try [.Expr (.Call (.Name x p) (e::es) [] v) M] [.ExceptHandler (ap<|.Name l P) bb (c::a) j] [] [] pos) (Ki C T n t L):=vM y G F Q S h.m h.k h.b U EX H q J u z O I s
end
section
variable{id T Ty:String}{p Xn Xm:Pos}{o:eH}{es:Xu}{to:bh}{t:eQ}{name:Str}
theorem fc{r:uC}(g:bO X (.builtin id) (liftC X r))(f:eT x=ap (.builtin id))(i:Gl X x)(l:X.mg x=bb)(j:DA X B (e::es) t)(c:x≠"__name__")(b:(x==("__debug__":Str))=cm)(h:cy (e::es) X.env=(cm,eX e X.env)::cy es X.env)(a:(g3 pos<|starEach es X.env).any (·.1)=cm):DE X B (.Call (.Name x p) (e::es) [] pos) (br r t):=DB g i l f j c b h a
theorem fG{r:uC}(g:bO X (.type T) (liftC X r))(f:eT x=ap (.type T))(i:Gl X x)(l:X.mg x=bb)(j:DA X B (e::es) t)(c:x≠"__name__")(b:(x==("__debug__":Str))=cm)(h:cy (e::es) X.env=(cm,eX e X.env)::cy es X.env)(a:(g3 pos<|starEach es X.env).any (·.1)=cm):DE X B (.Call (.Name x p) (e::es) [] pos) (br r t):=Ae g i l f j c b h a
theorem mL(c:eT x=ap (.type T))(f:Gl X x)(g:X.mg x=bb)(a:x≠"__name__")(b:(x==("__debug__":Str))=cm):DE X B (.Name x pos) (dC<|.ty T):=My f g c a b
theorem Ci(j:Wg Ty)(f:WY Ty name id)(h:Wv (.builtin id)=pure (.type "method_descriptor"))(q:w8 X id (liftM X r))(i:Ty="list"\/Ty="str"\/Ty="int"\/Ty="dict")(l:DE X B o to)(m:DA X B (e::es) t)(b:kl o name X.env (eX o X.env)=eX o X.env)(g:((g3 Xm<|starEach (e::es) X.env).all (λx=>!x.1)&&(wh Xm<|keywordEach [] X.env).all (λx=>x.1.isSome)
   && decide ((e::es).length+([]:List vx).length+(if ([]:List vx).isEmpty then 0 else 1)<30))=true)(c:(Xn.endLine==Xm.line)=true)(n:cy (e::es) X.env=(cm,eX e X.env)::cy es X.env)(a:(g3 Xm<|starEach es X.env).any (·.1)=cm):
  DE X B (.Call (.Attribute o name Xn) (e::es) [] Xm) (nC Ty r to t):=Mo i j f h q l m b g c n a
theorem z7(h:Wg Ty)(c:WY Ty name id)(f:Wv (.builtin id)=pure (.type "method_descriptor"))(j:w8 X id (liftM X r))(g:Ty="list"\/Ty="str"\/Ty="int"\/Ty="dict")(i:DE X B o to)(a:kl o name X.env (eX o X.env)=eX o X.env)(b:(Xn.endLine==Xm.line)=true):DE X B (.Call (.Attribute o name Xn) [] [] Xm) (nC Ty r to af):=Jt g h c f j i a b
theorem Dz(f:WY "tuple" name id)(h:Wv (.builtin id)=pure (.type "method_descriptor"))(m:w8 X id (liftM X r))(i:DE X B o to)(j:DA X B (e::es) t)(b:kl o name X.env (eX o X.env)=eX o X.env)(g:((g3 Xm<|starEach (e::es) X.env).all (λx=>!x.1)&&(wh Xm<|keywordEach [] X.env).all (λx=>x.1.isSome)
   && decide ((e::es).length+([]:List vx).length+(if ([]:List vx).isEmpty then 0 else 1)<30))=true)(c:(Xn.endLine==Xm.line)=true)(l:cy (e::es) X.env=(cm,eX e X.env)::cy es X.env)(a:(g3 Xm<|starEach es X.env).any (·.1)=cm):
  DE X B (.Call (.Attribute o name Xn) (e::es) [] Xm) (E9 r to t):=Nu f h m i j b g c l a
theorem Gg{i:Nat}{a:Wo}{r:fQ}{pos':Pos}(g:Jx X a (liftR2 X r))(c:X.N.Nodup)(j:X.N[i]?=ap x)(b:AU X.env.scope x)(f:DE X B e te)(h:X.fn x=true\/X.env.scope.names.lookup x=ap .local):
  DS X B (.AugAssign (.Name x pos') a e pos) (Bf i te r):=Lw c j b f g h
end
structure Nf(K:Pg)(x:Str)(st:rc)(f:ca)(fd:ff):Prop where
 a:QN K eg x=ap (ap<|.ref f)
 F:Fun K x x st f fd
structure Af(K:Pg)(x y:Str)(st:rc)(f:ca)(fd:ff):Prop where
 a:QN K eg x=ap (ap<|.ref f)
 F:Fun K y y st f fd
structure Mf(K:Pg)(C:ca)(x q:Str)(st:rc)(f:ca)(fd:ff):Prop where
 a:Qd K (.ref C) x=ap (ap<|.ref f)
 i:W.isFn K (.ref f)=true
 F:Fun K x q st f fd
theorem us1{α:Type}{P:List α->Prop}(h:∀a0,P [a0]):∀us:List α,us.length=1->P us
 |[a0],_=>h a0
theorem us2{α:Type}{P:List α->Prop}(h:∀a0 a,P [a0,a]):∀us:List α,us.length=2->P us
 |[a0,a],_=>h a0 a
theorem us3{α:Type}{P:List α->Prop}(h:∀a0 a b,P [a0,a,b]):∀us:List α,us.length=3->P us
 |[a0,a,b],_=>h a0 a b
theorem us4{α:Type}{P:List α->Prop}(h:∀a0 b c a,P [a0,b,c,a]):∀us:List α,us.length=4->P us
 |[a0,b,c,a],_=>h a0 b c a
theorem us5{α:Type}{P:List α->Prop}(h:∀a0 b f a c,P [a0,b,f,a,c]):∀us:List α,us.length=5->P us
 |[a0,b,f,a,c],_=>h a0 b f a c
theorem us6{α:Type}{P:List α->Prop}(h:∀a0 a g f c b,P [a0,a,g,f,c,b]):∀us:List α,us.length=6->P us
 |[a0,a,g,f,c,b],_=>h a0 a g f c b
abbrev Bnd(ps:Xr)(x Xj:Str)(st:rc):Prop:=∀(kV doc pm:ay)(an:Option ca)(cdv ct:ay)(us:Xs),us.length=ps.length->WT (R8 x Xj (cc st) (bu st) (aR st) .none kV doc pm an cdv ct) ⟨us,[]⟩=pure (ps.zip us)
section
variable{P:eC}{w:fe}{K:Pg}{mg:Xy}{base h:fx}{k n:Nat}{f C:ca}{fd:ff}{N ps:Xr}{S:Sd}{T:DX->aA}{Xj:Str}{st:rc}
theorem gf(X:K.In h)(G:h.Ns eg mg)(l:Nf K x st f fd)(b:Bnd ps x x st:=by intro _ _ _ _ _ _;first|exact us1 λ_=>rfl|exact us2 λ_ _=>rfl|exact us3 λ_ _ _=>rfl|exact us4 λ_ _ _ _=>rfl|exact us5 λ_ _ _ _ _=>rfl|exact us6 λ_ _ _ _ _ _=>rfl|exact us7 λ_ _ _ _ _ _ _=>rfl|exact us8 λ_ _ _ _ _ _ _ _=>rfl):GF K mg x st f fd ps:=⟨l.F,l.F.binds b,l.F.kp,Sr X G l.a⟩
theorem ga{y:Str}(X:K.In h)(G:h.Ns eg mg)(l:Af K x y st f fd)(b:Bnd ps y y st:=by intro _ _ _ _ _ _;first|exact us1 λ_=>rfl|exact us2 λ_ _=>rfl|exact us3 λ_ _ _=>rfl|exact us4 λ_ _ _ _=>rfl|exact us5 λ_ _ _ _ _=>rfl|exact us6 λ_ _ _ _ _ _=>rfl|exact us7 λ_ _ _ _ _ _ _=>rfl|exact us8 λ_ _ _ _ _ _ _ _=>rfl):GA K mg x y st f fd ps:=⟨l.F,l.F.binds b,l.F.kp,Sr X G l.a⟩
theorem gm(l:Mf K C x Xj st f fd)(b:Bnd ps x Xj st:=by intro _ _ _ _ _ _;first|exact us1 λ_=>rfl|exact us2 λ_ _=>rfl|exact us3 λ_ _ _=>rfl|exact us4 λ_ _ _ _=>rfl|exact us5 λ_ _ _ _ _=>rfl|exact us6 λ_ _ _ _ _ _=>rfl|exact us7 λ_ _ _ _ _ _ _=>rfl|exact us8 λ_ _ _ _ _ _ _ _=>rfl):GM K C x Xj st f fd ps:=⟨l.F,l.F.binds b,l.a,l.i,l.F.kp⟩
theorem gi(mk:S7 K C=true)(c:QG K (.ref C)=true)(l:Mf K C "__init__" Xj st f fd)(b:Bnd ps "__init__" Xj st:=by intro _ _ _ _ _ _;first|exact us1 λ_=>rfl|exact us2 λ_ _=>rfl|exact us3 λ_ _ _=>rfl|exact us4 λ_ _ _ _=>rfl|exact us5 λ_ _ _ _ _=>rfl|exact us6 λ_ _ _ _ _ _=>rfl|exact us7 λ_ _ _ _ _ _ _=>rfl|exact us8 λ_ _ _ _ _ _ _ _=>rfl):GI K C "__init__" Xj st f fd ps:=⟨l.F,l.F.binds b,mk,l.a,l.i,c⟩
abbrev ck(P:eC)(w:fe)(mg:Xy)(base:fx)(_:Fun K x Xj st f fd)(_:Binds K fd ps [])(k:Nat)(S:Sd):Prop:=FnOk P w K mg base (oU P w) k f fd ps (bw K ps.length S)
theorem fnS(j:S=aI N T)(F:Fun K x Xj st f fd)(b:Binds K fd ps [])(g:FnScope N ps (aR st))(i:FnScope N ps (aR st)->∀(c:ay)(A:fv)(a:List Env)(s:cb)(H:Hp)(E:XK)(B:Bd)(EE:DX),Room k (A.deeper<|RS Xj (aR st) s.heap.objs.size f c)->t_ K B EE E->
   zi (dL (oU P w) P w K mg base N Xj (aR st) f c A a s H E) B (bu st) (T EE)):ck P w mg base F b (k+1) S:=by
 subst j;exact fnD F g (i g)
end
end _3
namespace _S
open PySem PySem.W PySem.Calls PyProof.Rows PyProof.V PySem.Spec
section
variable {prog:eC}{w:fe}{A:fv}{E:Xw}{s:cb}{x:Str}{t:Tok}
end
end _S
namespace _3
open PySem _2 _S
section
variable {X:Cx}{B:Bd}{pos:Pos}
end
end _3
namespace _3
open PySem _2
section
variable {X:Cx}{B:Bd}{s:cb}
end
section
variable {X:Cx}{B:Bd}{x:Str}{pos p:Pos}{e:eH}{es:Xu}{t:eQ}{a:ca}{tab:List (Str×D)}
end
section
variable {P:eC}{w:fe}{K:Pg}{mg:Xy}{base:fx}{k:Nat}{f C:ca}{fd:ff}{N ps:Xr}{S:ca->Sd}{T:ca->DX->aA}{x Xj:Str}{st:rc}
end
end _3
namespace _3
open PySem _2 _S
section
variable {X:Cx}{B:Bd}{K:Pg}{H:Hp}
def Mh(M:Mem):D->Bool
 |.ref a=>match M a with
  |some (.dK _)=>true
  |_=>cm
 |_=>cm
def Dv(td ty:bh):bh:=λU M Q=>td U M λx M1=>Mh M1 x=true/\ty U M1 λy M2=>match x with
 |.ref a=>match M2 a,cH y with
  |some (.dK Xk),ap k=>match cD Xk k with
   |some v=>Q v (M2.upd a<|.dK<|n_ Xk k)
   |none=>False
  |_,_=>False
 |_=>False
def DF(td ty tx:bh):bh:=λU M Q=>td U M λx M1=>Mh M1 x=true/\ty U M1 λy M2=>tx U M2 λz M3=>match x with
 |.ref a=>match M3 a,cH y with
  |some (.dK Xk),ap k=>match cD Xk k with
   |some v=>Q v (M3.upd a<|.dK<|n_ Xk k)
   |none=>Q z M3
  |_,_=>False
 |_=>False
theorem Ds{M:Mem}{x:D}{v:V}(f:RepH K H M)(r:Rp K H x v)(e:Mh M x=true):∃a,x=.ref a/\v=.ref a/\IsD H a:=by
 cases x with
 |ref a=>
  cases r;refine⟨a,rfl,rfl,?_⟩;simp only[Mh]at e
  split at e
  .rename_i q;obtain⟨b,c,_⟩:=f _ _ q;exact .inl ⟨b,.inl c⟩
  .cases e
 |_=>cases e
theorem Fk{o e:eH}{to te:bh}{Xn Xm:Pos}(ho:DE X B o to)(he:DE X B e te)(m:M1 X o "pop" Xn e Xm):DE X B (.Call (.Attribute o "pop" Xn) [e] [] Xm) (Dv to te):=by
 refine aW (B_ ho he m) ?_
 rintro Z H Q ⟨U,M,QQ,s,h,u⟩
 refine⟨U,M,_,s,h,λx M1 h1 v1 H1 rh1 i1 r1=>?_⟩;obtain⟨a,rfl,rfl,hd⟩:=Ds rh1 r1 h1.1;refine⟨a,rfl,hd,U,M1,_,s.go rh1 i1,h1.2,λy M2 h2 v2 H2 rh2 i2 r2=>?_⟩;dsimp only at h2
 split at h2
 .rename_i Xk k hM ek
  obtain⟨ws,g1,g2⟩:=rh2 _ _ hM;have ey:=gu r2 ek;have im:Imm H2 (upd H2 a<|.dK<|gL ws k):=Imm.upd (by rw[g1];trivial)
  rcases g2.val k with⟨q,_⟩|⟨d,w,q,qw,rw'⟩
  .rw[q]at h2;exact h2.elim
  .rw[q]at h2
   exact⟨ws,k,w,g1,ey,qw,u _ _ h2 _ _ (rh2.put (by rw[g1];trivial) ⟨_,upd_same,(g2.drop k).mono im⟩) ((i1.trans i2).trans<|Frm.put<|.inr ⟨_,hM⟩)<|rw'.mono im⟩
 .exact h2.elim
theorem Gy{o e f:eH}{to te tf:bh}{Xn Xm:Pos}(ho:DE X B o to)(he:DE X B e te)(hf:DE X B f tf)(m:M2 X o "pop" Xn e f Xm):DE X B (.Call (.Attribute o "pop" Xn) [e,f] [] Xm) (DF to te tf):=by
 refine aW (D8 ho he hf m) ?_
 rintro Z H Q ⟨U,M,QQ,s,h,u⟩
 refine⟨U,M,_,s,h,λx M1 h1 v1 H1 rh1 i1 r1=>?_⟩;obtain⟨a,rfl,rfl,hd⟩:=Ds rh1 r1 h1.1;refine⟨a,rfl,hd,U,M1,_,s.go rh1 i1,h1.2,λy M2 h2 v2 H2 rh2 i2 r2=>?_⟩;refine⟨U,M2,_,(s.go rh1 i1).go rh2 i2,h2,λz M3 h3 v3 H3 rh3 i3 r3=>?_⟩;dsimp only at h3;have r2':=r2.mf rh2 i3
 split at h3
 .rename_i Xk k hM ek
  obtain⟨ws,g1,g2⟩:=rh3 _ _ hM;have ey:=gu r2' ek;have im:Imm H3 (upd H3 a<|.dK<|gL ws k):=Imm.upd (by rw[g1];trivial)
  rcases g2.val k with⟨q,qn⟩|⟨d,w,q,qw,rw'⟩
  .rw[q]at h3
   exact⟨ws,k,g1,ey,λv ev=>(by rw[qn]at ev;cases ev),λ_=>u _ _ h3 _ _ rh3 ((i1.trans i2).trans i3) r3⟩
  .rw[q]at h3
   refine⟨ws,k,g1,ey,λv ev=>?_,λev=>by rw[qw]at ev;cases ev⟩
   rw[qw]at ev;cases ev;exact u _ _ h3 _ _ (rh3.put (by rw[g1];trivial) ⟨_,upd_same,(g2.drop k).mono im⟩) (((i1.trans i2).trans i3).trans<|Frm.put<|.inr ⟨_,hM⟩) (rw'.mono im)
 .exact h3.elim
def nc:uC:=λb M Q=>match b with
 |[.ref a]=>match M a with
  |some (.dK Xk)=>∀p,M p=bb->Q (.ref p) (M.upd p<|.dK Xk)
  |_=>False
 |_=>False
theorem sS:bO X (.type "dict") (liftC X nc):=by
 intro Xi s Z H xs us Q I r h;obtain⟨ds,M,QQ,rh,rp,h,up⟩:=h;unfold nc at h
 split at h
 .rename_i a
  obtain⟨v,rfl,rv⟩:=ib (ds:=[]) rp;cases rv
  split at h
  .rename_i Xk e
   obtain⟨u,rfl,ru⟩:=r.one;cases ru;obtain⟨ws,h1,h2⟩:=rh _ _ e;refine DJ I (.inl h1) λp s' hp I'=>⟨.ref p,_,I',rfl,?_⟩;exact up _ _ (h p<|rh.fresh hp) _ _ (rh.put (by rw[hp];trivial) ⟨_,upd_same,h2.mono<|Imm.new hp⟩) (Frm.put<|.inl hp) rfl
  .exact h.elim
 .exact h.elim
end
end _3
namespace _2
open PySem PySem.W PySem.Calls PyProof.Rows PyProof.V PySem.Spec
noncomputable def isO:Option aB->ay->Bool
 |some k,v=>mQ k v
 |none,.none=>true
 |none,_=>cm
theorem dR{v:ay}(h:isO bb v=true):v=.none:=by cases v<;>first|rfl|cases h
section
variable {prog:eC}{w:fe}{A:fv}{E:Xw}{s:cb}
theorem sO{Q:Int->cb->Prop}(h:Q 4238894112 { s with toks:=s.toks+1 }):cp (cT prog w) A (pyHash .none) Q E s:=by
 have a:s.TypeIs .none "NoneType":=rfl;unfold pyHash;refine ax ?_;rw[cRoomFor,if_neg (by decide)];refine cx ?_
 refine ax (T0 a Rn.lookup ?_);show cp _ _ (if (ap (Uh "NoneType.__hash__")==ap Qh)=true then _ else _) Q E s
 rw[if_neg (by rw[beq_builtin_none];exact PH)]
 refine ax (T0 a Rn.lookup ?_);show cp _ _ (callSpecialIfBoundUnlessNone? .none "__hash__" _ >>= _) Q E s
 refine ax (wpAny_callSpecialIfBoundUnlessNone?_slot a Rn
  (nT Rn a PySem.F.entry_NoneType_hash
   (show cp _ _ (do ret (<- mkInt 4238894112)) _ _ s from wpAny_ret_mkInt ?_) (PySem.F.args_NoneType_hash_1 _)))
 exact cx h
theorem ui{Q:Bool->cb->Prop}(h:Q true s):cp (cT prog w) A (eqBool .none .none) Q E s:=by
 unfold eqBool;refine n7 ?_;rw[if_pos (by rfl)]
 exact ax (Tk<|wpAny_pure h)
end
noncomputable def AV(prog:eC)(w:fe):PySem.KeyKind prog w (Option aB) where
 is:=isO
 hash:=λk=>match k with
  |some k=>Of w k
  |none=>4238894112
 inj:=λv a b j f=>by
  cases a with
  |some a=>
   cases b with
   |some b=>rw[(aU prog w).inj v a b j f]
   |none=>
    cases dR f;rcases aX j with⟨i,t,_,e⟩|⟨x,t,_,e⟩<;>exact nomatch e
  |none=>
   cases dR j;cases b with
   |some b=>rcases aX f with⟨i,t,_,e⟩|⟨x,t,_,e⟩<;>exact nomatch e
   |none=>rfl
 byValue:=λk v h=>by
  cases k with
  |some k=>exact(aU prog w).byValue k v h
  |none=>cases dR h;rfl
 pyHash:=λ{A E s k v Q} c h=>by
  cases k with
  |some k=>exact(aU prog w).pyHash c h
  |none=>cases dR c;exact sO h
 eqBool:=λ{A E s a b u v Q} g c h=>by
  cases a with
  |some a=>
   cases b with
   |some b=>
    refine (aU prog w).eqBool g c ?_;have:decide (ap a=ap b)=decide (a=b):=decide_eq_decide.mpr ⟨λe=>by injection e,λe=>by rw[e]⟩
    rw[this]at h;exact h
   |none=>
    cases dR c;have e:decide (ap a=bb)=false:=decide_eq_false (λz=>nomatch z);rw[e]at h;rcases aX g with⟨i,t,rfl,rfl⟩|⟨x,t,rfl,rfl⟩
    .exact Ul i t _ _ _ _ h
    .exact Ui x t _ _ _ _ h
  |none=>
   cases dR g;cases b with
   |some b=>
    have e:decide (bb=ap b)=false:=decide_eq_false (λz=>nomatch z);rw[e]at h;rcases aX c with⟨i,t,rfl,rfl⟩|⟨x,t,rfl,rfl⟩
    .exact Uk i t _ _ _ _ h
    .exact Uj x t _ _ _ _ h
   |none=>
    cases dR c;exact ui h
 «strs»:=λk x t v h=>by
  cases k with
  |some k=>exact(aU prog w).strs k x t v h
  |none=>cases h
section
variable {X:Cx}{Xi:Xx}{Z:St}{H:Hp}{s:cb}{a:ca}{Xk:List (aB×V)}{A:fv}{E:Xw}
theorem map_none{prog:eC}{w:fe}{h:fx}{f:aB->Option ay}(m:h.MapOf (aU prog w) a f):h.MapOf (AV prog w) a (λk=>match k with|some k=>f k|none=>bb):=by
 obtain⟨o,g,y,r,n,v,j,u⟩:=m;refine⟨o,g,y,r,n,v,λe c=>?_,λk=>?_⟩
 .obtain⟨k,b,p⟩:=j e c
  exact⟨ap k,b,p⟩
 .cases k with
  |some k=>exact u k
  |none=>
   have:∀e∈g,isO bb e.key=false:=λe c=>by
    obtain⟨k,b,_⟩:=j e c;rcases aX b with⟨i,t,_,q⟩|⟨x,t,_,q⟩<;>rw[q]<;>rfl
   have e:g.find? (λe=>(AV prog w).is bb e.key)=none:=by
    rw[Array.find?_eq_none];intro x l;exact QX.mp (this x l)
   unfold findBy;rw[e];rfl
theorem NP{Q:Xw}(I:Inv X Xi Z H s)(e:Rd H a (.dK Xk))(h:∀s',Inv X Xi Z H s'->Q (.bool cm) s'):cp (cT X.prog X.w) A (hG .In .none<|.ref a) Q E s:=by
 obtain⟨z,b,g,c,f⟩:=iF I.hok e;refine wpAny_in_of (knd:=AV X.prog X.w) (k:=bb) rfl b (map_none f.mapOf) ?_;exact h _ (I.tok _)
end
end _2
namespace _3
open PySem _2 _S
section
variable {X:Cx}{B:Bd}
def yB(M:Mem)(x y:D):Option Bool:=match x,y with
 |.non,.ref a=>match M a with
  |some (.dK _)=>ap cm
  |_=>bb
 |_,_=>ia M x y
def Cb:fQ:=λx y M Q=>match yB M x y with
 |some k=>Q (.bl k) M
 |none=>False
theorem Ec(r:X.A.units+64<pA):cJ X (hG .In) (liftR2 X Cb):=by
 intro b s Z H x y v u Q I j g h;obtain⟨n,q,M,QQ,c,f,i,h,l⟩:=h;unfold Cb at h
 split at h
 .rename_i k e
  unfold yB at e
  split at e
  .rename_i a
   cases f;cases i;cases j;cases g
   split at e
   .rename_i m p
    cases e;obtain⟨C,o,z⟩:=c _ _ p;exact NP I (.inl o) λw I'=>⟨.bl cm,H,I',rfl,l _ M h _ H c Frm.refl rfl⟩
   .cases e
  .refine CH r b s Z H x y v u Q I j g ⟨n,q,M,QQ,c,f,i,?_,l⟩
   unfold sJ;rw[e];exact h
 .exact h.elim
end
end _3
namespace _2
open PySem PySem.Spec PyProof.Rows
variable{l z:ca}
theorem nW:WY "reversed" "__init__" "object.__init__":=
 .of (owner:="object") (n:="__init__") (by rw[py,kc];kernel_rfl) (by decide +kernel) (by decide +kernel) (by decide +kernel)
  (by first|exact .inl (by decide +kernel)|exact .inr (by decide +kernel)) (by rw[vr];kernel_rfl)
theorem gR:WY "reversed" "__iter__" "reversed.__iter__":=
 .of (owner:="reversed") (n:="__iter__") (by rw[py,kc];kernel_rfl) (by decide +kernel) (by decide +kernel) (by decide +kernel)
  (by first|exact .inl (by decide +kernel)|exact .inr (by decide +kernel)) (by rw[vr];kernel_rfl)
theorem slot_rev_next:WY "reversed" "__next__" "reversed.__next__":=
 .of (owner:="reversed") (n:="__next__") (by rw[py,kc];kernel_rfl) (by decide +kernel) (by decide +kernel) (by decide +kernel)
  (by first|exact .inl (by decide +kernel)|exact .inr (by decide +kernel)) (by rw[vr];kernel_rfl)
theorem on:Manifest.owners.lookup (String.ofList ['d','e','s','r','e','v','e','r'].reverse)=ap Manifest.sig_reversed:=by kernel_rfl
theorem fU:WB table "reversed.__next__"=ap Builtin.«reversed.__next__»:=PySem.entryFor_of_tree (by kernel_rfl)
theorem nZ:WB table "reversed.__new__"=ap Builtin.«reversed.__new__»:=entryFor_of_tree (by kernel_rfl)
theorem lK:WB table "reversed.__iter__"=ap Builtin.«dict_keyiterator.__iter__»:=
 entryFor_alias (id':="dict_keyiterator.__iter__") (by kernel_rfl) (by first|rfl|decide +kernel|(unfold String.splitOn;simp +decide [String.splitOnAux])) (by decide +kernel) (by kernel_rfl)
theorem nS(a:ay):Wn "reversed.__iter__" ⟨[a],[]⟩:=by
 unfold Wn;rw[signature?_of (id:="reversed.__iter__") (n:=['_','_','r','e','t','i','_','_']) (o:=['d','e','s','r','e','v','e','r']) (by kernel_rfl) on];kernel_rfl
theorem gQ(a:ay):Wn "reversed.__next__" ⟨[a],[]⟩:=by
 unfold Wn;rw[signature?_of (id:="reversed.__next__") (n:=['_','_','t','x','e','n','_','_']) (o:=['d','e','s','r','e','v','e','r']) (by kernel_rfl) on];kernel_rfl
theorem xF:mroOf (.type "reversed")=pure [.type "reversed",.type "object"]:=by rw[mroOf_type];kernel_rfl
theorem mZ:TD (.type "reversed") "__new__"=pure (ap<|.builtin "reversed.__new__"):=by rw[py,kc];kernel_rfl
theorem vZ:TypeCalled "reversed" "reversed.__new__" "object.__init__":=
 ⟨by decide +kernel,by decide +kernel,⟨_,_,xF⟩,madeBy_type xF mZ (by decide +kernel),by decide +kernel,by rw[vr];kernel_rfl,nW⟩
theorem rQ(a:ay):Wt "reversed" ⟨[a],[]⟩=pure ():=by kernel_rfl
theorem uM(a:ay):We "reversed.__new__" ⟨[.type "reversed",a],[]⟩=pure ():=by kernel_rfl
theorem gK(a b:ay):Wn "object.__init__" ⟨[a,b],[]⟩:=by
 unfold Wn;rw[signature?_of (id:="object.__init__") (n:=['_','_','t','i','n','i','_','_']) (o:=['t','c','e','j','b','o']) (by kernel_rfl) F.owner_object];kernel_rfl
theorem EH:isSubtype (.type "reversed") (.type "reversed")=pure true:=by rw[vr];kernel_rfl
theorem KA:TD (.type "tuple") "__reversed__"=pure none:=by rw[py,kc];kernel_rfl
theorem Cz:isSubtype (.type "tuple") (.type "dict")=pure false:=by rw[vr];kernel_rfl
abbrev pe(h:fx)(z l:ca)(j:Int):Prop:=h.get? z=ap { cls:=.type "reversed",dict:=bb,data:=.fields #[.ref l,.int j 0],slots:=#[] }
section
variable{prog:eC}{w:fe}{A:fv}{E:Xw}{s:cb}
theorem Ce{a:Xz}{k:Nat}{x:ay}{Q:Option ay->cb->Prop}(b:pe s.heap z l k)(o:WM s.heap l a)(i:a[k]?=ap x)(p:(k:Int)<2 ^ 63)(hQ:∀h',pe h' z l ((k:Int)-1)->Qx z s.heap h'->Q (ap x) { s with heap:=h',toks:=s.toks+1 }):
  cp (cT prog w) A (P3<|.ref z) Q E s:=by
 have m:s.TypeIs (.ref z) "reversed":=⟨_,b,rfl⟩;unfold P3
 refine ax (Rs (wpAny_callSpecial?_slot (name:=Qq "__next__") m slot_rev_next
  (nT slot_rev_next m fU ?_<|gQ _)))
 show cp _ _ (Ws (.ref z) 0 >>= _) _ _ s;refine ax (mu b rfl (x:=.ref l) rfl ?_);show cp _ _ (Ws (.ref z) 1 >>= _) _ _ s;refine ax (mu b rfl (x:=.int k 0) rfl ?_);show cp _ _ (if (k:Int)<0 then _ else _) _ _ _
 rw[if_neg (by lia)]
 refine ax (T0 (T:="tuple") o.typeIs slot_tuple_getitem.lookup ?_);show cp _ _ (if cm=true then _ else _) _ _ _
 rw[if_neg (by simp)]
 refine ax (wpAny_mkInt ?_);have f:k<a.size:=by
  rcases RE k a.size with h|h
  .exact h
  .rw[UH h]at i;cases i
 refine ax (Rs<|getItem_tuple (s:={ s with toks:=s.toks+1 }) o (k:=k) (j:=k) (x:=x) (by lia) p ?_ i ?_)
 .have e:¬((k:Int)<0):=by lia
  simp[W0,f,if_neg e]
 show cp _ _ (Ws (.ref z) 1 >>= _) _ _ _;refine ax (mu (s:={ s with toks:=s.toks+1 }) b rfl (x:=.int k 0) rfl ?_);refine ax (pa (s:={ s with toks:=s.toks+1 }) b (by simp) λn g c=>?_)
 exact cx ⟨_,rfl,cx<|hQ _ g c⟩
theorem FF{j:Int}{Q:Option ay->cb->Prop}(y:A.handled=bb)(i:pe s.heap z l j)(B:j<0)(C:∀h',SE z s.heap h'->Q bb { s with heap:=h' }):cp (cT prog w) A (P3<|.ref z) Q E s:=by
 have r:s.TypeIs (.ref z) "reversed":=⟨_,i,rfl⟩;unfold P3
 refine ax (Rs (wpAny_callSpecial?_slot (name:=Qq "__next__") r slot_rev_next
  (nT slot_rev_next r fU ?_<|gQ _)))
 show cp _ _ (Ws (.ref z) 0 >>= _) _ _ s;refine ax (mu i rfl (x:=.ref l) rfl ?_);show cp _ _ (Ws (.ref z) 1 >>= _) _ _ s;refine ax (mu i rfl (x:=.int j 0) rfl ?_);show cp _ _ (if j<0 then _ else _) _ _ _
 rw[if_pos B];refine ax (Tk ?_);show cp _ _ ((WP (.ref z) 1 (Pi (-1)) >>= λ_=>WP (.ref z) 0 .none) >>= _) _ _ _;refine ax (ax (pa i (by simp) λg p n=>?_))
 refine pa (s:={ s with heap:=g }) p (by simp) λh v f=>?_
 refine ax ?_;show cp _ _ (W9 (.type "StopIteration") [] >>= _) _ _ _;refine ax ?_;simp only[W9,newTuple];refine ax (ol ?_<|by size_fits)
 refine ax (m:=SL _ _) (PP (a:=Qh) (by first|rfl|(simp only[SL];rfl)) ?_)
 refine ol ?_ (by size_fits)
 simp only[raiseNew];refine ax (WV ?_);rw[show A.in1.handled=bb from y];refine ax (cx<|wpAny_throw ?_);refine ax (Tl (T:="StopIteration") (b:=true) ⟨_,Pm _ rfl,rfl⟩ Wl ?_);refine cx (C _ ?_);have q:SE z s.heap h:=λc o u e=>f.extBut _ _ u (n.extBut _ _ u e);exact(q.push _).push _
theorem uF{j:Int}{Q:Xw}(b:pe s.heap z l j)(h:Q (.ref z) s):cp (cT prog w) A (Wx<|.ref z) Q E s:=by
 have a:s.TypeIs (.ref z) "reversed":=⟨_,b,rfl⟩;refine wpAny_pyIter_slot a gR (nT gR a lK ?_<|nS _);show cp _ _ (ret<|.ref z) _ _ s;exact cx ⟨_,rfl,"reversed",_,a,slot_rev_next.lookup,h⟩
theorem D_{b:Xz}{Q:Xw}(n:WM s.heap l b)(j:(b.size:Int)<2 ^ 63)(h:∀f h',h'.objs.size=s.heap.objs.size+1->pe h' s.heap.objs.size l ((b.size:Int)-1)->(∀c o,s.heap.get? c=ap o->h'.get? c=ap o)->Q (.ref s.heap.objs.size) { s with heap:=h',toks:=f }):
  cp (cT prog w) A (call (.type "reversed") [.ref l]) Q E s:=by
 refine Xc (S:=λ_ R s=>WM s.heap l b/\∀f,R (.ok<|.ret<|.ref s.heap.objs.size) { s with heap:=s.heap.push { cls:=.type "reversed",data:=.fields #[.ref l,.int ((b.size:Int)-1) 0] },toks:=f })
  vZ (by decide) (rQ _) (uM _) (λobj=>gK obj _) nZ ?_ ⟨n,λf=>?_⟩
 .refine .of_wp λprog w A R s h=>?_
  obtain⟨n,h⟩:=h;obtain⟨q,g,d,f,r⟩:=s;have i:=EH;have p:=n.typeIs;unfold Builtin.«reversed.__new__»;refine ax ?_;unfold Builtin.SmallTypes.newClass;refine ax (PP (a:=true) rfl ?_);rw[if_neg (by simp)]
  refine ax (PP i ?_);rw[if_neg (by simp)]
  refine cx ?_;refine ax (m:=Builtin.SmallTypes.refuseKeywords _ _ _) (PP (a:=()) rfl ?_);refine ax (m:=checkCount _ _ _ _) (PP (a:=()) rfl ?_);refine ax (m:=specialOf _ _) (T0 p KA ?_);refine ax ?_;show cp _ _ (isInstance (.ref l) (.type "dict") >>= _) _ _ _;refine ax (Tl p Cz ?_);rw[if_neg (by simp)]
  refine ax (T0 (T:="tuple") p slot_tuple_getitem.lookup ?_);show cp _ _ (if (["tuple.__getitem__","str.__getitem__","bytes.__getitem__","bytearray.__getitem__","memoryview.__getitem__","numpy.ndarray.__getitem__","sqlite3.Row.__getitem__"].contains "tuple.__getitem__")=true then _ else _) _ _ _
  rw[if_pos (by decide)]
  refine cx ?_;show cp _ _ (call (.builtin "len") [.ref l] >>= _) _ _ _;refine ax (len_tuple n j ?_);refine ax (PP (a:=ap (b.size:Int)) rfl ?_);show cp _ _ (newObj (.type "reversed") (.fields #[.ref l,.int ((b.size:Int)-1) 0]) >>= _) _ _ _;refine ax (ol ?_<|by size_fits)
  exact cx ⟨_,rfl,h _⟩
 .exact⟨⟨_,Pm _ rfl,rfl⟩,h f _ (Qi ..) (Pm _ rfl) λc o e=>Pe _ e⟩
end
noncomputable def Itv(K:Pg)(a:ca)(n:Nat):It:=
 ⟨λi H=>i<n/\∃xs x,ic K H a xs/\xs[n-1-i]?=ap x,λi H x H'=>H'=H/\∀xs,ic K H a xs->xs[n-1-i]?=ap x,λi _=>n<=i⟩
theorem Dw{P:eC}{w:fe}{K:Pg}{tg:eH}(a m:ca)(n:Nat)(hn:n<2 ^ 63):Turn P w K tg (Itv K a n) [m] m (λi h=>pe h m a ((n:Int)-1-i)) where
 mem:=by simp
 obj:=λi h c b j=>by
  have e:b=m:=by simpa using j
  subst e;exact⟨_,c,λv z=>by cases z⟩
 keep:=λi h q c k=>k m (by simp) _ c
 item:=by
  intro X B J C R i f s Z H E I r c M;subst B J C;obtain⟨hi,xs,x,Q,O⟩:=M;obtain⟨F,Y,p,hz⟩:=I.tuple Q;obtain⟨u,T,U⟩:=Y.get O;obtain⟨A,L,f2,G,N,y⟩:=r m (by simp)
  have S:(n:Int)-1-i=((n-1-i:Nat):Int):=by lia
  refine Ce (k:=n-1-i) (by rw[<- S];exact c) (show WM s.heap a F.toArray from p) (x:=u) (by simpa using T) (by lia) λq g W=>?_
  have I1:Inv X f Z H { s with heap:=q,toks:=s.toks+1 }:=I.turned (λb o j e=>(W.2 b j).trans e) A L G N y;have e2:(((n-1-i:Nat):Int))-1=(n:Int)-1-((i+1:Nat):Int):=by lia
  rw[e2]at g;exact⟨u,rfl,tF (s:={ s with heap:=q,toks:=s.toks+1 }) g rfl rfl (by decide) ⟨x,H,I1,U,⟨rfl,λys hy=>by rw[I.tuple_inj hy Q];exact O⟩,g,λb j=>(r b j).1⟩⟩
 done:=by
  intro X B J C R i f s Z H E I r c M;subst B J C;obtain⟨A,L,f2,G,N,y⟩:=r m (by simp)
  have hg':n<=i:=M;exact FF (I.ok.hd R) c (by lia) λq eb=>⟨rfl,I.turned (t':=s.toks) (λb o j e=>eb b o j e) A L G N y⟩
 self:=λ_ _ _ _ _ c h=>uF c h
section
variable{X:Cx}{tg:eH}
noncomputable def iRev(K:Pg)(t:TA):TI:=λZ H R=>t Z H λa H1=>∃l xs,a=[.ref l]/\ic K H1 l xs/\R (Itv K l xs.length) H1
theorem KR:eT "reversed"=ap (.type "reversed"):=by decide +kernel
theorem Kh{a:eH}{v:TA}{p pos:Pos}(G:Gl X "reversed")(M:X.mg "reversed"=bb)(L:PA X [a] v)(J:cy [a] X.env=[(cm,eX a X.env)]:=by rfl):
  PI X tg (.Call (.Name "reversed" p) [a] [] pos) (iRev X.K v):=by
 intro c s Z H R I h;refine Call_ (dM I G M KR<|P5 (bv (L pos c s Z H _ I h) λN f ⟨P,H1,I1,w,j⟩=>?_) J rfl);obtain⟨l,i,e,j,q⟩:=j;subst e;obtain⟨O,rfl,n⟩:=w.one;cases n;obtain⟨g,E,C,B⟩:=I1.tuple j;have u:=E.length;have F:i.length<2 ^ 63:=Nat.lt_of_le_of_lt B (by decide)
 refine D_ (show WM f.heap l g.toArray from C) (by simp;lia) λm r A o y=>?_
 have I2:Inv X c Z H1 { f with heap:=r,toks:=m }:=I1.kept (t':=m) y;refine uF (s:={ f with heap:=r,toks:=m }) o ?_;refine⟨f.heap.objs.size,[f.heap.objs.size],_,_,H1,rfl,I2,Dw l _ i.length (by lia),?_,λb x=>?_,q⟩
 .have e:((g.toArray.size:Nat):Int)-1=(i.length:Int)-1-((0:Nat):Int):=by simp;lia
  rw[e]at o;exact o
 .have e:b=f.heap.objs.size:=by simpa using x
  subst e;exact I1.fpOk (Pl _) (I1.hok.fresh<|Pl _)
end
end _2
namespace _3
open PySem _2 _S
section
variable {X:Cx}{B:Bd}{tg:eH}{K:Pg}{H:Hp}{M:Mem}
def LK(t:eQ):uZ:=λU M R=>t U M λa M1=>match a with
 |[.tup xs]=>R ⟨xs.reverse,[]⟩ M1
 |_=>False
theorem JQ{a:eH}{z:eQ}{p pos:Pos}(F:Gl X "reversed")(J:X.mg "reversed"=bb)(I:DA X B [a] z)(G:cy [a] X.env=[(cm,eX a X.env)]:=by rfl):
  DI X B tg (.Call (.Name "reversed" p) [a] [] pos) (LK z):=by
 refine gx (Kh F J I G) ?_
 rintro Z H R ⟨U,M,RR,s,h,E⟩
 refine⟨U,M,_,s,h,λds M1 l L H1 e i1 C=>?_⟩
 split at l
 .rename_i o
  obtain⟨v,rfl,q,c,rfl,g,y⟩:=ib (ds:=[]) C;have r:=y.length;refine⟨q,c,rfl,g.sq,E _ M1 l _ H1 e i1 λi H2 M2 i2 j _=>⟨λd b=>?_,λn=>?_⟩⟩
  .have u:i<o.length:=by
    rcases RE i o.length with h|h
    .exact h
    .rw[Qf (by rw[U7];exact h)]at b;cases b
   rw[List.getElem?_reverse u]at b;obtain⟨w,m,f⟩:=(y.mono i2).get b;rw[r]at m;refine⟨⟨by rw[<- r];exact u,c,w,(g.mono i2).sq,m⟩,?_⟩
   rintro x H3 ⟨rfl,A⟩
   have:=A c (g.mono i2).sq;rw[m]at this;cases this;exact⟨Frm.refl,j,f⟩
  .show c.length<=i
   rw[U7]at n;lia
 .exact l.elim
end
end _3
namespace _3
open PySem _2
section
variable {X:Cx}{B:Bd}{C:ca}{f:Str}{o value:eH}{ta tv:bh}{pos tpos:Pos}
def pG(C:ca)(ta tv:bh)(f:Str):aA:=λD U M=>ta U M λx M1=>match x with
 |.ref a=>match M1 a with
  |some (.ins C' fs)=>C'=C/\fs.length<1000/\match fs.lookup f with
   |some (.int i)=>tv U M1 λy M2=>match y with
    |.int j=>M2 a=ap (.ins C fs)/\D.nx U (M2.upd a<|.ins C<|bE f (.int (i-j)) fs)
    |_=>False
   |_=>False
  |_=>False
 |_=>False
theorem Ay(c:Cls X.K C)(n:NoAttr X.K C f)(ha:DE X B o ta)(hv:DE X B value tv):DS X B (.AugAssign (.Attribute o f tpos) .Sub value pos) (pG C ta tv f):=by
 refine bU (om ha hv Kf) ?_
 rintro D Z H ⟨U,M,DD,s,h,up⟩
 refine⟨U,M,_,s,h,λx M1 h1 v1 H1 rh1 i1 r1=>?_⟩
 split at h1
 .rename_i a
  cases r1
  split at h1
  .rename_i C' fs hM
   obtain⟨rfl,hl,h1⟩:=h1
   split at h1
   .rename_i i hf
    obtain⟨dx,ws,e1,e2⟩:=rh1 _ _ hM;obtain⟨z,_⟩|⟨d,w,hd,hw,rw1⟩:=e2.lookup f
    .rw[hf]at z;cases z
    rw[hf]at hd;cases hd;cases rw1;refine⟨a,C',dx,ws,.int i,rfl,e1,c,n,hw,U,M1,_,s.go rh1 i1,h1,λy M2 h2 v2 H2 rh2 i2 r2=>?_⟩
    split at h2
    .rename_i j
     cases r2;obtain⟨hM2,h2⟩:=h2;obtain⟨dx2,ws2,e3,e4⟩:=rh2 _ _ hM2;have i3:Frm M2 H2 (M2.upd a<|.ins C'<|bE f (.int (i-j)) fs) (upd H2 a<|.ins C' dx2<|_2.da f (.int (i-j)) ws2):=Frm.put (.inr ⟨_,hM2⟩);refine⟨i,j,rfl,rfl,dx2,ws2,e3,by rw[<- e4.length];exact hl,up.nx _ _ h2 Z _ ((i1.trans i2).trans i3)<|s.go (rh2.put (by rw[e3];trivial) ⟨dx2,_,upd_same,?_⟩)<|(i1.trans i2).trans i3⟩
     exact(j6 (show Rp X.K H2 (.int (i-j)) (.int (i-j)) from rfl) e4).mono (i3.imm rh2)
    .exact h2.elim
   .exact h1.elim
  .exact h1.elim
 .exact h1.elim
end
section
variable {X:Cx}{B:Bd}
def kx:x_:=λx a M Q=>match x,a with
 |.int i,[]=>Q (.int ((QD i:Nat):Int)) M
 |_,_=>False
theorem vp:w8 X "int.bit_length" (liftM X kx):=by
 intro a s Z H x m v j Q I c g h;obtain⟨d,l,M,QQ,f,r,b,h,e⟩:=h;unfold kx at h
 split at h
 .rename_i i
  cases r;cases b;obtain⟨t,rfl⟩:=c;cases g;exact PyProof.Rows.call_int_bit_length ⟨.int _,H,I.tok _,⟨_,rfl⟩,e _ M h _ H f Frm.refl rfl⟩
 .exact h.elim
end
end _3
namespace _2
open PySem PySem.Spec PyProof.Rows
variable{cl:List (Str×ca)}{scope:Pv}
theorem D6{x:Str}{c:ca}:∀(names:List (Str×Wp))(h:fx)(Xl:List (Str×ca)),(re h.objs.size names Xl).lookup x=ap c->
  Xl.lookup x=ap c\/(h.objs.size<=c/\(UF h names).IsCell c bb/\(x,Si)∈names)
 |[],_,_,e=>.inl e
 |(n,k)::r,h,Xl,e=>by
  unfold re at e;unfold UF
  by_cases a:(k==.cell)=true
  .rw[if_pos a]at e ⊢
   have f:(h.push { cls:=.type "cell",data:=.cell bb }).objs.size=h.objs.size+1:=Qi ..;rw[<- f]at e;rcases D6 r _ _ e with z|⟨z1,z2,z3⟩
   .rw[RA]at z
    cases b:x==n with
    |true=>
     rw[b]at z;cases z;rw[beq_iff_eq.mp b];exact .inr ⟨Pl _,⟨_,Wi _ _ _ _ (Pm _ rfl),rfl⟩,by rw[beq_iff_eq.mp a];exact PJ⟩
    |false=>rw[b]at z;exact .inl z
   .exact .inr ⟨by lia,z2,Px _ z3⟩
  .rw[if_neg a]at e ⊢
   rcases D6 r _ _ e with z|⟨z1,z2,z3⟩
   .exact .inl z
   .exact .inr ⟨z1,z2,Px _ z3⟩
theorem wZ:∀(names:List (Str×Wp))(n:Nat)(Xl:List (Str×ca)),(∀x y c,Xl.lookup x=ap c->Xl.lookup y=ap c->x=y)->(∀x c,Xl.lookup x=ap c->c<n)->
  ∀x y c,(re n names Xl).lookup x=ap c->(re n names Xl).lookup y=ap c->x=y
 |[],_,_,h,_=>h
 |(z,k)::r,n,Xl,h,hl=>by
  unfold re
  split
  .refine wZ r _ _ (λx y c b a=>?_) λx c e=>?_
   .rw[RA]at b a
    cases f:x==z<;>cases g:y==z<;>rw[f]at b<;>rw[g]at a
    .exact h x y c b a
    .cases a;exact absurd (hl _ _ b) (P7 _)
    .cases b;exact absurd (hl _ _ a) (P7 _)
    .rw[beq_iff_eq.mp f,beq_iff_eq.mp g]
   .rw[RA]at e
    cases f:x==z<;>rw[f]at e
    .exact SN (hl _ _ e)
    .cases e;exact RZ _
  .exact wZ r _ _ h hl
theorem tJ{M:Model}{A:fv}{E:Xw}{s:cb}{g:ca}{a:Str}{env:Env}{Q:Env->cb->Prop}(h:Q (newEnv scope s.heap.objs.size g (re (s.heap.objs.size+1) scope.names cl) a bb .none (ap env) WS) { s with heap:=UF (s.heap.push { cls:=.type "dict",data:=.dict #[] }) scope.names }):
  cp M A (WQ scope g cl [] a bb .none<|some env) Q E s:=by
 simp only[WQ,U0,if_true];refine ax (wpAny_alloc ?_);refine ax (wpAny_layCells _ (λf b c=>by cases e:b==Si<;>simp[e]) _ _ _ _ ?_)
 rw[show ({ s with heap:=s.heap.push { cls:=.type "dict",data:=.dict #[] } }:cb).heap.objs.size=s.heap.objs.size+1 from Qi ..];exact ax (by rw[List.forIn_nil];exact cx (cx h))
noncomputable abbrev aZ(X:Cx)(N:Xr)(scope:Pv)(cl:List (Str×ca))(C:ca)(s₀:cb)(H₀:Hp)(fp:Xt)(pl:Xx):Cx:=
 { Jk X N scope (re (C+1) scope.names cl) C s₀ H₀ fp pl with fn:=λx=>scope.names.lookup x==ap .cell }
structure CompOkC(X:Cx)(scope:Pv)(cl:List (Str×ca))(ls fs:Xr)(js:List Nat):Prop where
 kind:scope.kind=.function
 locs:∀x∈scope.names,x.2=.local->scope.names.lookup x.1=ap .local
 clos:WR scope X.env=pure cl
 cells:∀x c,cl.lookup x=ap c->X.env.cells.lookup x=ap c
 has:∀x,((Wb scope X.env).names.lookup x=ap .cell\/(Wb scope X.env).names.lookup x=ap .free)->scope.names.lookup x=ap .cell\/∃c,cl.lookup x=ap c
 frees:Frees X scope fs js
 own:∀x∈fs,(x,Si)∉scope.names
 once:∀x∈scope.names,x.2=.cell->∀c,cl.lookup x.1=ap c->False
theorem An{X:Cx}{a:Xx}{Z:St}{H:Hp}{s:cb}{ls fs:Xr}{B:List Nat}{R:Xt}{t':Nat}(I:Inv X a Z H s)(co:CompOkC X scope cl ls fs B)(m:∀b∈R,ji X a H b/\b<s.heap.objs.size):
  Inv (aZ X (ls++fs) scope cl s.heap.objs.size s H R a) [] (dg ls B Z) H { s with heap:=UF (s.heap.push { cls:=.type "dict",data:=.dict #[] }) scope.names,toks:=t' }:=by
 have w:∀b o,s.heap.get? b=ap o->(UF (s.heap.push { cls:=.type "dict",data:=.dict #[] }) scope.names).get? b=ap o:=λb o e=>Wi _ _ _ _ (Pe _ e);have lk:∀b o,s.heap.get? b=ap o->b≠s.heap.objs.size:=λb o e=>PQ (Pj e);have l:∀{x:Str}{c:ca},(re (s.heap.objs.size+1) scope.names cl).lookup x=ap c->cl.lookup x=ap c\/(s.heap.objs.size+1<=c/\(UF (s.heap.push { cls:=.type "dict",data:=.dict #[] }) scope.names).IsCell c bb/\(x,Si)∈scope.names):=λ{x c} e=>by
  have hs:(s.heap.push { cls:=.type "dict",data:=.dict #[] }).objs.size=s.heap.objs.size+1:=Qi ..;rw[<- hs]at e ⊢;exact D6 _ _ _ e
 have Q:∀{x:Str}{c:ca},cl.lookup x=ap c->c<s.heap.objs.size:=λ{x c} e=>by
  obtain⟨v,z⟩:=I.cell x c (co.cells x c e);exact z.lt
 have hcs:(aZ X (ls++fs) scope cl s.heap.objs.size s H R a).env.cells=re (s.heap.objs.size+1) scope.names cl:=rfl;refine⟨⟨I.ok.mod,co.kind,I.ok.glob,I.ok.blt,Pl _,λx y c M C=>?_,λx F=>?_,λx c h e=>?_,I.ok.hd,I.ok.frames,.inl rfl,λb g=>⟨PQ (m b g).2,λx c e=>?_⟩,
   λb o e=>I.bs b o e,PL I.ok.bsz I.sz,λb o e g=>?_,λb g hf=>?_,I.stack,λb g=>I.stkFree b g⟩,
  rfl,I.bare,Un.kept w,⟨λ_=>bb,(Heap.Ns.new s.heap<|.type "dict").keeps (Wi _ _),λi x v M C h3=>?_⟩,λx c e=>?_,I.hok.fresh (Pl _),λx c e=>?_,λp hp=>?_,I.hok.kept w,?_⟩
 .refine wZ scope.names _ cl (λx y c e1 e2=>I.ok.inj x y c (co.cells x c e1) (co.cells y c e2)) (λx c e=>SN (Q e)) x y c M C
 .rcases co.has x F with z|⟨c,z⟩
  .exact QU.mp (Sa _ _ _<|.inl z)
  .exact QU.mp (Sa _ _ _<|.inr<|by rw[z];rfl)
 .rcases l e with z|⟨z,_,_⟩
  .exact(co.once _ (Qj<|beq_iff_eq.mp h) rfl c z).elim
  .exact TC z
 .rcases l e with z|⟨z,_,_⟩
  .exact(m b g).1.2.2.2.2.1 x c (co.cells x c z)
  .exact Rg (PF (m b g).2<|TC z)
 .obtain⟨f0,f1,f2,U,_⟩:=(m b g).1
  rcases U with z|z
  .exact I.ok.noex b o e z
  .exact absurd (PF (Pj (I.ok.bs b o e).1) z) (P7 _)
 .obtain⟨f0,f1,f2,U,_⟩:=(m b g).1
  rcases Po.mp (I.stkSub b hf) with z|z
  .exact f1 z
  .exact f2 z
 .have E:¬i<ls.length:=λE=>by
   have f:(dg ls B Z)[i]?=ap (ap v):=C;unfold dg at f;rw[QR (by simpa using E),Ph,Pb E]at f
   cases f
  have hN:fs[i-ls.length]?=ap x:=by
   have N:(ls++fs)[i]?=ap x:=M
   rwa [Qy (by lia)]at N
  obtain⟨j,hj,F,W,S⟩:=co.frees.get hN;have J:Z[j]?=ap (ap v):=by
   have f:(dg ls B Z)[i]?=ap (ap v):=C;unfold dg at f;rw[Qy (by simpa using E),Pa,Ph,hj]at f
   have q:(Z[j]?).join=ap v:=by simpa using f
   cases e:Z[j]? with
   |none=>rw[e]at q;cases q
   |some o=>rw[e]at q;have q':o=ap v:=q;rw[q']
  obtain⟨mX,_,K⟩:=I.loc;have O:Mb X.env.scope x:=by
   rcases W with z|z
   .exact .inr (.inl z)
   .exact .inr (.inr z)
  obtain⟨u,ru,lo⟩:=K j x v F J O;refine⟨u,ru,.inr ⟨S,?_⟩⟩;have A:x∈fs:=Qn hN;have r:∃c,(re (s.heap.objs.size+1) scope.names cl).lookup x=ap c:=by
   rcases co.has x S with z|⟨c,z⟩
   .exact absurd (Qj z) (co.own x A)
   .exact QU.mp (Sa _ _ _<|.inr<|by rw[z];rfl)
  obtain⟨c,Y⟩:=r;refine⟨c,Y,?_⟩;have L:cl.lookup x=ap c:=by
   rcases l Y with z|⟨_,_,z⟩
   .exact z
   .exact absurd z (co.own x A)
  rcases lo with⟨T,_⟩|⟨_,c',e',z⟩
  .rcases W with q|q<;>(rw[q]at T;cases T)
  .rw[co.cells x c L]at e'
   cases e';obtain⟨o,G,hd⟩:=z;exact⟨o,w _ _ G,hd⟩
 .rcases l e with z|⟨_,z,_⟩
  .obtain⟨v,o,G,hd⟩:=I.cell x c (co.cells x c z)
   exact⟨v,o,w _ _ G,hd⟩
  .exact⟨_,z⟩
 .rcases l e with z|⟨z,_,_⟩
  .exact I.freeC x c (co.cells x c z)
  .exact I.hok.fresh (TC z)
 .have P:p∈X.pn++a:=by
   have q:p∈(X.pn++a)++[]:=hp;simpa using q
  obtain⟨e,n,ne,nf,d⟩:=I.pin p P;refine⟨w _ _ e,n,lk _ _ e,λg=>?_,d⟩;rcases Po.mp (I.stkSub p.1 g) with z|z
  .exact ne z
  .exact nf z
 .show (dg ls B Z).length=(ls++fs).length
  unfold dg;rw[Pz,Pa,Pa,Pz,co.frees.length]
section
variable{X:Cx}{tg iter elt:eH}{ifs:Xu}{pos:Pos}{ls fs:Xr}{js:List Nat}{wi:TI}{g:TG}{tt:TT}{te:TE}
theorem o9{a:Xx}{Z:St}{f:cb}{it:ca}{j:Xt}{tn:Nat->fx->Prop}{J:It}{H1:Hp}{R:ay->ca->Result->cb->Prop}{Q:VK}{E:Xw}(hc:X.calm=true)(co:CompOkC X scope cl ls fs js)(hY:∀(C:ca)(s₀:cb)(H₀:Hp)(j:Xt)(pl:Xx),PG (aZ X (ls++fs) scope cl C s₀ H₀ j pl) tg g/\LU (aZ X (ls++fs) scope cl C s₀ H₀ j pl) ifs tt/\PE (aZ X (ls++fs) scope cl C s₀ H₀ j pl) elt te)(I:Inv X a Z H1 f)(T:Turn X.prog X.w X.K tg J j it tn)(st:tn 0 f.heap)(M:∀b∈j,ji X a H1 b)(q:∀p,H1 p=bb->∃W:Nat->Nat->St->Hp->Prop,(∃m,W 0 m (dg ls js Z) (upd H1 p<|.lst []))/\∀i m l H',W i m l H'->
   (J.stop i H'/\Q (.ref p) H')\/(J.go i H'/\∃N:St->Hp->Prop,(∀σ2 H2,N σ2 H2->∃m',m'<m/\W (i+1) m' σ2 H2)/\∀x H2,J.yld i H' x H2->g x l H2 λσ3 H3=>tt σ3 H3 λc H4=>
    if c=true then te σ3 H4 λy H5=>∃ys,H5 p=ap (.lst ys)/\ys.length<sizeLine/\N σ3 (upd H5 p<|.lst (ys++[y])) else N σ3 H4))(hR:∀(p C:ca)(H':Hp)(s':cb)(m:Xy),s'.heap.Ns C m->Inv X a Z H' s'->H' C=bb->C≠X.env.locals->X.s₀.heap.objs.size<=C->(∀x c,X.env.cells.lookup x=ap c->c≠C)->(∀pp∈X.pn++a,pp.1≠C)->Q (.ref p) H'->R (.ref p) C (.ok .next) s'):
  cp (cT X.prog X.w) X.A (newList []) (λXl s₃=>cp (cT X.prog X.w) X.A (WQ scope X.env.globals cl [] X.env.qual bb .none<|some X.env) (λcenv s₄=>
   Uf (cT X.prog X.w) X.A (.compStart (.ListComp elt [⟨tg,iter,ifs,0⟩] scope pos) 0 (.ref it) Xl { cenv with scope:=Wb scope X.env }) (R Xl cenv.locals) s₄) E s₃) E f:=by
 have hp0:H1 f.heap.objs.size=none:=I.hok.fresh (Pl _);obtain⟨W,⟨m0,w0⟩,turn⟩:=q f.heap.objs.size hp0;refine ol (tJ ?_);dsimp only;have I3:Inv X a Z (upd H1 f.heap.objs.size<|.lst []) { f with heap:=f.heap.push { cls:=.type "list",dict:=bb,data:=.seq ([]:Xs).toArray } }:=
  I.lnew (Xo:=[]) (t':=f.toks) .nil (QY _)
 generalize hs3:({ f with heap:=f.heap.push { cls:=.type "list",dict:=bb,data:=.seq ([]:Xs).toArray } }:cb)=s3 at I3;have H:f.heap.push { cls:=.type "list",dict:=bb,data:=.seq ([]:Xs).toArray }=s3.heap:=by rw[<- hs3]
 rw[H];have hsz3:s3.heap.objs.size=f.heap.objs.size+1:=by rw[<- H,Qi]
 have hk3:∀b o,f.heap.get? b=ap o->s3.heap.get? b=ap o:=λb o e=>by rw[<- H];exact Pe _ e
 have hlt:∀b∈j,b<f.heap.objs.size:=λb h=>by
  obtain⟨o,e,_⟩:=T.obj _ _ st b h;exact Pj e
 have hnp:∀b∈j,upd H1 f.heap.objs.size (.lst []) b=none:=λb h=>by
  rw[aF (PQ<|hlt b h)];exact(M b h).1
 have hf3:∀b∈j,ji X a (upd H1 f.heap.objs.size<|.lst []) b/\b<s3.heap.objs.size:=λb h=>⟨⟨hnp b h,(M b h).2⟩,by rw[hsz3];exact SN (hlt b h)⟩
 have hk4:∀b o,s3.heap.get? b=ap o->(UF (s3.heap.push { cls:=.type "dict",data:=.dict #[] }) scope.names).get? b=ap o:=λb o e=>Wi _ _ _ _ (Pe _ e);have I4:=An (t':=s3.toks) I3 co hf3;generalize UF (s3.heap.push { cls:=.type "dict",data:=.dict #[] }) scope.names=h₁ at hk4 I4;have st4:tn 0 h₁:=T.keep _ _ _ st λb h o e=>hk4 b o (hk3 b o e);obtain⟨hg,ht,he⟩:=hY s3.heap.objs.size s3 (upd H1 f.heap.objs.size<|.lst []) j a;have B:∀{H':Hp},(∀b∈j,H' b=bb)->∀b∈j,ji (aZ X (ls++fs) scope cl s3.heap.objs.size s3 (upd H1 f.heap.objs.size<|.lst []) j a) [] H' b:=λ{H'} hn b h=>by
  obtain⟨f0,f1,f2,f3,f4,f5⟩:=M b h;refine⟨hn b h,PQ (hf3 b h).2,λz=>?_,.inl h,λx c e=>(I4.ok.exf b h).2 x c e,λpp O=>f5 pp ?_⟩
  .rcases Po.mp (I3.stkSub b z) with y|y
   .exact f1 y
   .exact f2 y
  .have q:pp∈(X.pn++a)++[]:=O
   simpa using q
 have loop:∀s₄:cb,s₄={ s3 with heap:=h₁,toks:=s3.toks }->
   Uf (cT X.prog X.w) X.A (.compLoop (.ListComp elt [⟨tg,iter,ifs,0⟩] scope pos) 0 (.ref it) (.ref f.heap.objs.size)<|compEnvC scope (re (s3.heap.objs.size+1) scope.names cl) s3.heap.objs.size X.env) (R (.ref f.heap.objs.size) s3.heap.objs.size) s₄:=by
  rintro s₄ rfl
  refine rA (λn s'=>∃i l H',Inv (aZ X (ls++fs) scope cl s3.heap.objs.size s3 (upd H1 f.heap.objs.size<|.lst []) j a) [] l H' s'/\tn i s'.heap/\(∀b∈j,H' b=bb)/\W i n l H') ?_ m0 ⟨0,_,_,I4,st4,hnp,w0⟩
  rintro n s5 ⟨i,G,H5,I5,S,Y,w5⟩
  rcases turn i n G H5 w5 with⟨stop,qn⟩|⟨go,N,hN,step⟩
  .refine bv (T.done (aZ X (ls++fs) scope cl s3.heap.objs.size s3 (upd H1 f.heap.objs.size<|.lst []) j a) rfl rfl rfl hc i [] s5 G H5 _ I5 (B Y) S stop) λr s6 ⟨hr,I6⟩=>?_
   subst hr;obtain⟨m6,hn6,_⟩:=I6.loc;have IX:Inv X a Z H5 s6:=I3.call' I6.os I6.base I6.hok I6.bare λb h=>⟨(M b h).2.2.2.1,(M b h).2.1,(M b h).2.2.2.2.1,(M b h).2.2.2.2.2⟩;refine hR _ _ H5 s6 m6 hn6 IX I6.free (Rg I3.lt) I3.sz (λx c e z=>?_) (λpp O z=>?_) qn
   .obtain⟨v,zz⟩:=I3.cell x c e
    have zl:=zz.lt;rw[z]at zl;exact P7 _ zl
   .have zl:=Pj (I3.pin pp O).1
    rw[z]at zl;exact P7 _ zl
  .refine bv (T.item (aZ X (ls++fs) scope cl s3.heap.objs.size s3 (upd H1 f.heap.objs.size<|.lst []) j a) rfl rfl rfl hc i [] s5 G H5 _ I5 (B Y) S go) λr s6 ⟨u,hr,h6⟩=>?_
   subst hr;refine bv h6 λ_ s7 ⟨x,H7,I7,r7,y7,L,fr7⟩=>?_;have I7':=I7.pinned (B fr7) (T.obj _ _ L);refine bv (hg _ s7 G H7 x u _ I7' r7<|step x H7 y7) λ_ s8 ⟨U,H8,I8,q8⟩=>?_
   have again:∀{s:St}{H9:Hp}{P:cb},Inv (aZ X (ls++fs) scope cl s3.heap.objs.size s3 (upd H1 f.heap.objs.size<|.lst []) j a) ([]++lU j s7.heap) s H9 P->N s H9->
     ∃m,m<n/\∃i l H',Inv (aZ X (ls++fs) scope cl s3.heap.objs.size s3 (upd H1 f.heap.objs.size<|.lst []) j a) [] l H' P/\tn i P.heap/\(∀b∈j,H' b=bb)/\W i m l H':=λ{s H9 P} I9 n9=>by
    obtain⟨m',hm,w9⟩:=hN s H9 n9;refine⟨m',hm,i+1,s,H9,I9.unpinned,T.keep _ _ _ L λb h o e=>(I9.pin (b,o)<|P9 _<|P9 _<|fI h e).1,λb h=>?_,w9⟩;obtain⟨o,e,d⟩:=T.obj _ _ L b h;exact(I9.pin (b,o)<|P9 _<|P9 _<|fI h e).2.1
   refine bv (ht _ s8 U H8 _ I8 q8) λok P ⟨H9,I9,q9⟩=>?_;cases ok with
   |false=>exact again I9 q9
   |true=>
    refine bv (he _ P U H9 _ I9 q9) λxv s10 ⟨y,H10,I10,r10,ys,O,hl,n10⟩=>?_;obtain⟨z,Xo,n',r,hl',e⟩:=I10.lstM O;refine s9 Td ⟨_,e,rfl⟩ F.entry_list_append (F.args_list_append_2 _ _) (Va f.heap.objs.size Xo.toArray n' xv<|by rw[Pk];lia) ⟨e,?_⟩
    refine again (I10.lset (its':=Xo++[xv]) O e (by simp) (r.append<|.cons r10 .nil) ?_) n10
    rw[Pz,QP];lia
 have se:({ f with heap:=h₁ }:cb)={ s3 with heap:=h₁,toks:=s3.toks }:=by rw[<- hs3]
 exact codeAny_compStart_list (loop _ se) (T.self _ 0 _ _ _ st4<|loop _ se)
theorem BV(S:X.calm=true)(co:CompOkC X scope cl ls fs js)(P:PI X tg iter wi)(N:∀(C:ca)(a:cb)(H₀:Hp)(j:Xt)(pl:Xx),PG (aZ X (ls++fs) scope cl C a H₀ j pl) tg g/\LU (aZ X (ls++fs) scope cl C a H₀ j pl) ifs tt/\PE (aZ X (ls++fs) scope cl C a H₀ j pl) elt te)(O:∀x,Ps iter X.env x=pure x):PE X (.ListComp elt [⟨tg,iter,ifs,0⟩] scope pos) (Bp wi ls js g tt te):=by
 intro c s Z H Q I h;rw[eval_ListComp];refine WW (use:=bb) rfl O co.clos co.kind co.locs (bv (P c s Z H _ I h) λY s1 L=>bv L λu U v=>?_);obtain⟨W,j,tn,J,H2,e,I2,T,r,y,q⟩:=v;subst e;refine o9 (R:=λl C=>compPost (cT X.prog X.w) X.A X.xe bb (EP X c Z Q) l C) (Q:=Q) S co N I2 T r y q ?_;intro p C H' K m M IX E F n f i z;exact⟨m,M,λh' B=>⟨.ref p,H',IX.turned (t':=K.toks) (λb o G e=>B.extBut b o G e) E F (.inr n) f i,rfl,z⟩⟩
end
end _2
namespace _3
open PySem _2
section
variable {X:Cx}{B:Bd}{scope:Pv}{cl:List (Str×ca)}{ls fs:Xr}{js:List Nat}{tg iter elt:eH}{ifs:Xu}{wi:uZ}{g:ju}{tt:eU}{te:bh}{pos:Pos}
theorem NK{N:Xr}{C:ca}{a:cb}{H₀:Hp}{b:Xt}{pl:Xx}(h:N.Nodup):(aZ X N scope cl C a H₀ b pl).N.Nodup:=h
theorem za(h:FC X scope fs js cl)(q:scope.kind=.function)(f:∀y∈scope.names,(y.2=.free->y.1∈fs)/\(y.2=.cell->y.1∉fs/\scope.names.lookup y.1=ap .cell))(r:∀x∈scope.names,x.2=.local->scope.names.lookup x.1=ap .local)
  (l:WR scope X.env=pure cl):CompOkC X scope cl ls fs js:=by
 obtain⟨b,s,a,n,p⟩:=h.ok;subst n;refine⟨q,r,l,λy d h=>p (y,d) (Qj h),λy h=>?_,b,λx i j=>((f _ j).2 rfl).1 i,λx i j c e=>((f _ i).2 j).1 (RI<|Qj e).1⟩;have o:scope.names.lookup y=ap .cell\/y∈fs:=by
  rcases h with h|h
  .obtain⟨m,b,a|⟨a,_⟩⟩:=gj h
   .exact .inl ((f _ b).2 a.symm).2
   .exact .inr ((f _ b).1 a)
  .obtain⟨m,b,a|⟨a,_⟩⟩:=gj h
   .exact .inr ((f _ b).1 a.symm)
   .exact .inr ((f _ b).1 a)
 exact o.imp id (jy a)
theorem CG(j:X.calm=true)(h:FC X scope fs js cl)(l:scope.kind=.function)(e:∀y∈scope.names,(y.2=.free->y.1∈fs)/\(y.2=.cell->y.1∉fs/\scope.names.lookup y.1=ap .cell))(m:∀x∈scope.names,x.2=.local->scope.names.lookup x.1=ap .local)
  (c:WR scope X.env=pure cl) (n:DI X B tg iter wi)
  (i:∀(C:ca)(a:cb)(H₀:Hp)(b:Xt)(pl:Xx),DG (aZ X (ls++fs) scope cl C a H₀ b pl) Gh tg g)
  (f:∀(C:ca)(a:cb)(H₀:Hp)(b:Xt)(pl:Xx),Oq (aZ X (ls++fs) scope cl C a H₀ b pl) Gh ifs tt)
  (hE:∀(C:ca)(a:cb)(H₀:Hp)(b:Xt)(pl:Xx),DE (aZ X (ls++fs) scope cl C a H₀ b pl) Gh elt te)
  (o:∀x,Ps iter X.env x=pure x):DE X B (.ListComp elt [⟨tg,iter,ifs,0⟩] scope pos) (aJ wi ls js g tt te):=
 aW (BV (g:=liftG0 X.K g) (tt:=liftT0 X.K tt) (te:=liftE0 X.K te) j (za h l e m c) n (λC a H₀ b pl=>⟨CQ (i C a H₀ b pl),yx (f C a H₀ b pl),B1<|hE C a H₀ b pl⟩) o) λ_ _ _ h=>oP h
end
section
variable {P:eC}{w:fe}{K:Pg}{mg:Xy}{base h:fx}{k n:Nat}{f C:ca}{fd:ff}{N ps:Xr}{S:Sd}{T:DX->aA}{x Xj:Str}{st:rc}{dv:Int}
theorem fnDV(F:FunV K x Xj st f fd)(S:FnScope N ps (aR st))
  (v:∀(b:ay)(A:fv)(a:List Env)(s:cb)(H:Hp)(E:XK)(B:Bd)(EE:DX),Room k (A.deeper<|RS Xj (aR st) s.heap.objs.size f b)->t_ K B EE E->
   zi (dL (oU P w) P w K mg base N Xj (aR st) f b A a s H E) B (bu st) (T EE)):
  FnOk P w K mg base (oU P w) (k+1) f fd ps (bw K ps.length<|aI N T):=by
 obtain⟨L,I,kV,g,G,J,b,y,j,_,rfl,lk,e⟩:=F.ex;refine Ic lk e S (λp H Q E h=>h.1) λA a s H p Q E o c=>?_;obtain⟨z,i,M,QQ,EE,rh,r,l,u,ux⟩:=c;refine⟨_,v b A a s H E (Bd.of M H) (aM EE) o ux.drp,startN N i,M,{ nx:=λ_ M'=>drp QQ .non M',rt:=drp QQ },⟨Frm.refl,rh,.startN N r⟩,l,⟨?_,u.drp,?_,?_⟩⟩
 .exact λU M' q Z H' f m=>u.drp _ M' q _ H' m.rh f rfl
 .exact λU M' q=>(show False from q).elim
 .exact λU M' q=>(show False from q).elim
abbrev OkV(P:eC)(w:fe)(mg:Xy)(base:fx)(_:FunV K x Xj st f fd)(_:Binds K fd ps [])(k:Nat)(S:Sd):Prop:=FnOk P w K mg base (oU P w) k f fd ps (bw K ps.length S)
theorem Nj(i:S=aI N T)(F:FunV K x Xj st f fd)(b:Binds K fd ps [])(e:FnScope N ps (aR st))
  (g:FnScope N ps (aR st)->∀(c:ay)(A:fv)(a:List Env)(s:cb)(H:Hp)(E:XK)(B:Bd)(EE:DX),Room k (A.deeper<|RS Xj (aR st) s.heap.objs.size f c)->t_ K B EE E->
   zi (dL (oU P w) P w K mg base N Xj (aR st) f c A a s H E) B (bu st) (T EE)):OkV P w mg base F b (k+1) S:=by
 subst i;exact fnDV F e (g e)
structure NV(K:Pg)(x:Str)(st:rc)(f:ca)(fd:ff)(dv:Int):Prop where
 a:QN K eg x=ap (ap<|.ref f)
 F:∃(oc:ay)(od:Option ca)(kV doc pm:ay)(an:Option ca)(cdv ct:ay)(osl:Array (Option ay))(T:ca)(ob:Obj)(m:Nat)(t:Tok),
  fd=R8 x x (cc st) (bu st) (aR st) (.ref T) kV doc pm an cdv ct/\K.lookup f=ap ⟨oc,od,.func fd,osl⟩/\TN K cdv x=true/\K.lookup T=ap ob/\ob.data=.seq #[.int dv t] m
 kp:QG K (.ref f)=true
theorem Mu{s:ay}{u r o:Option ca}{i g:Array (Option ay)}{kV e p b j q:ay}{T:ca}{m:Nat}{t:Tok}(a:QN K eg x=ap (ap<|.ref f))
  (l:K.lookup f=ap ⟨s,u,.func (R8 x x (cc st) (bu st) (aR st) (.ref T) kV e p r b j),i⟩) (c:TN K b x=true) (k:QG K (.ref f)=true)
  (lt:K.lookup T=ap ⟨q,o,.seq #[.int dv t] m,g⟩):NV K x st f (R8 x x (cc st) (bu st) (aR st) (.ref T) kV e p r b j) dv:=
 ⟨a,⟨s,u,kV,e,p,r,b,j,i,T,_,m,t,rfl,l,c,lt,rfl⟩,k⟩
abbrev BndV(ps:Xr)(x:Str)(st:rc)(dv:Int):Prop:=∀(kV doc pm:ay)(an:Option ca)(cdv ct:ay)(T:ca)(t:Tok),
 (∀u:ay,∃k,WT (R8 x x (cc st) (bu st) (aR st) (.ref T) kV doc pm an cdv ct) ⟨[u],[]⟩=WZ (.ref T) >>= k/\k (ap #[.int dv t])=pure (ps.zip [u,.int dv t]))/\
 ∀u v:ay,∃k,WT (R8 x x (cc st) (bu st) (aR st) (.ref T) kV doc pm an cdv ct) ⟨[u,v],[]⟩=WZ (.ref T) >>= k/\k (ap #[.int dv t])=pure (ps.zip [u,v])
theorem gv(X:K.In h)(G:h.Ns eg mg)(l:NV K x st f fd dv)(A:ps.length=2)(B:BndV ps x st dv):GV K mg x st f fd ps dv:=by
 obtain⟨a,⟨H,E,kV,b,q,r,e,j,y,T,I,m,t,rfl,F,c,lt,z⟩,kp⟩:=l;refine⟨⟨⟨H,E,kV,b,q,r,e,j,y,T,rfl,F,c⟩,kp⟩,λs i KX g=>?_,⟨t,λs i KX g=>?_⟩,kp,Sr X G a⟩
 .rw[P8]at g ⊢
  match i,g.trans A with
  |[u,v],_=>
   obtain⟨k,p,o⟩:=(B kV b q r e j T t).2 u v;exact W.binds_K KX rfl lt z p o
 .rw[Pz,A]at g
  match i,(show i.length=1 by simpa using g) with
  |[u],_=>
   obtain⟨k,p,o⟩:=(B kV b q r e j T t).1 u;exact W.binds_K KX rfl lt z p o
end
section
variable {X:Cx}{B:Bd}{CX:nV}{k n:Nat}{f:ca}{fd:ff}{ps:Xr}{T:Sd}{EE:DX}{E:XK}{x:Str}{st:rc}{p pos:Pos}{e:eH}{es:Xu}{t:eQ}{dv:Int}
def vX(T:Sd)(EE:DX)(n:Nat)(dv:Int)(t:eQ):bh:=λU M Q=>t U M λa M1=>a.length+1=n/\calls T EE (a++[.int dv]) M1 Q ⟨⟩
def Es(X:Cx)(B:Bd)(x:Str)(T:Sd)(EE:DX)(n:Nat)(dv:Int):Prop:=∃(st:rc)(f:ca)(fd:ff)(ps:Xr)(k:Nat)(CX:nV)(E:XK),GV X.K X.mg x st f fd ps dv/\FnOk X.prog X.w X.K X.mg X.base CX k f fd ps (bw X.K n T)/\Room k X.A/\bM CX X E/\t_ X.K B EE E
theorem BZ(h:Es X B x T EE n dv)(v:Gl X x)(w:DA X B (e::es) t)(c:(x==("__debug__":Str))=cm)(r:cy (e::es) X.env=(cm,eX e X.env)::cy es X.env)(b:(g3 pos<|starEach es X.env).any (·.1)=cm):
  DE X B (.Call (.Name x p) (e::es) [] pos) (vX T EE n dv t):=by
 obtain⟨_,_,_,_,_,_,_,h,F,q,j,ux⟩:=h;obtain⟨o,l⟩:=h.d;refine aW (xZ F q v h.m h.k l (dvs:=[.int dv]) (.cons ⟨o,rfl⟩ .nil) j w c r b) ?_
 rintro Z H Q ⟨U,M,QQ,s,h,u⟩
 refine⟨U,M,_,s,h,λy M1 i z H1 a i1 g=>?_⟩;exact cV i.2 a (g.append<|.cons rfl .nil) (by rw[Pz,<- g.length];exact i.1) (u.go i1) ((s.ux ux).go i1)
end
end _3
namespace _3
open PySem _2 PyProof.Rows
section
variable {X:Cx}{B:Bd}
end
end _3
namespace _3
open PySem _2
section
variable {X:Cx}{B:Bd}
end
end _3
namespace _2
open PySem PySem.Spec PyProof.Rows
section
variable {X:Cx}{x y:Str}{p pos yp kp:Pos}{e:eH}{es:Xu}{t:TA}{id:String}{kn:Str}{k:ay}{r:List V->Hp->VK->Prop}
end
end _2
namespace _3
open PySem _2 PyProof.Rows
section
variable {X:Cx}{B:Bd}{x y:Str}{p pos yp kp:Pos}{e:eH}{es:Xu}{t:eQ}{id:String}{kn:Str}{k:ay}{r:uC}
end
end _3
namespace _3
open PySem _2
section
variable {X:Cx}
end
section
variable {X:Cx}
end
end _3
namespace _S
open PySem PySem.W PySem.Calls PyProof.Rows PyProof.V PySem.Spec
section
variable {prog:eC}{w:fe}{A:fv}{E:Xw}{s:cb}{it d:ca}{i n ep:Nat}{od:Obj}{es:Array WI}
theorem AD{Q:Xw}(b:s.TypeIs (.ref d) "dict")(e:(d==qa)=cm)(c:s.heap.get? d=ap od)(a:od.data=.dict es ep)
  (f:Q (.ref s.heap.objs.size) { s with heap:=s.heap.push { cls:=.type "dict_keyiterator",data:=.fields #[.ref d,.int 0 0,.int es.size 0,.int ep 0] } }):cp (cT prog w) A (Wx<|.ref d) Q E s:=by
 refine wpAny_pyIter_slot b F.slot_dict_iter (nT F.slot_dict_iter b F.entry_dict_iter ?_<|F.args_dict_iter_1 _);unfold Builtin.«dict.__iter__»;refine ax ?_;unfold Builtin.Dict.dictSlotNone;refine ax (wpAny_notOrdered_dict b ?_);show cp _ _ (pure<|PC d) _ _ s;refine cx ?_;show cp _ _ (TV d >>= _) _ _ s;unfold TV;rw[if_neg (by rw[e];exact PH)]
 refine ax (cx ?_);refine ax (wpAny_dictEntries c a ?_);refine ax (wpAny_dictEpoch c a ?_);refine ax (ol<|wpAny_pure ⟨_,rfl,"dict_keyiterator",_,⟨_,Pm _ rfl,rfl⟩,QK.lookup,?_⟩);simpa [Pi] using f
theorem At{Q:Option ay->cb->Prop}(a:s.heap.IsKeyIter it d i n ep)(e:s.heap.get? d=ap od)(c:od.data=.dict es ep)(l:es.size=n)(h:i<es.size)
  (hQ:∀h',h'.IsKeyIter it d (i+1) n ep->Qx it s.heap h'->Q (ap es[i].key) { s with heap:=h' }):cp (cT prog w) A (P3<|.ref it) Q E s:=by
 obtain⟨o,g,j,f⟩:=id a;unfold P3;refine ax (Rs<|wpAny_callSpecial?_slot (name:=Qq "__next__") a.typeIs QK<|wpAny_call_entry QK a.typeIs Ua (ax<|wpAny_pure<|wpAny_bind<|wpAny_bind ?_)<|T6 _);refine ax (WJ a.typeIs<|wpAny_pure<|wpAny_bind<|wpAny_fieldsOf g f ?_);simp only[show SY "dict_keyiterator"=cm by decide,Pr,if_false]
 show cp _ _ (if (PC d==Qh)=true then _ else _) _ _ s
 rw[if_neg (show ¬((PC d==Qh)=true) from PH)];refine ax (cx<|wpAny_bind<|wpAny_dictEntries e c ?_);rw[if_neg (by rw[l];simp)]
 refine ax (cx<|wpAny_bind<|wpAny_dictEpoch e c ?_);rw[if_neg (by simp)]
 refine cx ?_;simp only[show ¬((i:Int)<0) from by lia,if_false,Pn,Ug h]
 refine ax (ax<|wpAny_typeNameOfWhole_keyiter a.typeIs<|wpAny_pure ?_);refine ax (Xf a.typeIs ?_);show cp _ _ (WP (.ref it) 1 (Pi ((i:Int)+1)) >>= _) _ _ s;refine ax (WO g f (by simp) ?_)
 have b:(s.heap.update it<|Obj.mapFields (·.setIfInBounds 1 (Pi ((i:Int)+1)))).IsKeyIter it d (i+1) n ep:=
  ⟨_,RW _ g (UY<|Su f _),(Obj.cls_mapFields ..).trans j,by rw[Su f];simp[Pi]⟩
 refine ax (n7 ?_);refine ax (Xf (s:={ s with heap:=s.heap.update it (Obj.mapFields (·.setIfInBounds 1 (Pi ((i:Int)+1)))) }) b.typeIs ?_);show cp _ _ (pure es[i].key) _ _ _;exact cx (cx ⟨_,rfl,cx<|hQ _ b<|Rk ..⟩)
theorem Bj{Q:Option ay->cb->Prop}(p:A.handled=bb)(c:s.heap.IsKeyIter it d i n ep)(e:s.heap.get? d=ap od)(f:od.data=.dict es ep)(l:es.size=n)(g:es.size<=i)
  (q:∀h',SE it s.heap h'->Q bb { s with heap:=h' }):cp (cT prog w) A (P3<|.ref it) Q E s:=by
 obtain⟨o,j,r,h⟩:=id c;unfold P3;refine ax (Rs<|wpAny_callSpecial?_slot (name:=Qq "__next__") c.typeIs QK<|wpAny_call_entry QK c.typeIs Ua (ax<|wpAny_pure<|wpAny_bind<|wpAny_bind ?_)<|T6 _);refine ax (WJ c.typeIs<|wpAny_pure<|wpAny_bind<|wpAny_fieldsOf j h ?_);simp only[show SY "dict_keyiterator"=cm by decide,Pr,if_false]
 show cp _ _ (if (PC d==Qh)=true then _ else _) _ _ s
 rw[if_neg (show ¬((PC d==Qh)=true) from PH)];refine ax (cx<|wpAny_bind<|wpAny_dictEntries e f ?_);rw[if_neg (by rw[l];simp)]
 refine ax (cx<|wpAny_bind<|wpAny_dictEpoch e f ?_);rw[if_neg (by simp)]
 refine cx ?_;simp only[show ¬((i:Int)<0) from by lia,if_false,Pn,UH g]
 refine ax (ax<|wpAny_typeNameOfWhole_keyiter c.typeIs<|wpAny_pure ?_);show cp _ _ (WP (.ref it) 0 .none >>= _) _ _ s;refine ax (WO j h (by simp) ?_)
 show cp _ _ (W9 (.type "StopIteration") [] >>= _) _ _ _;simp only[W9,newTuple];refine ax (ax<|wpAny_newObj_type ?_<|by size_fits)
 refine ax (m:=SL _ _) (PP (a:=Qh) (by first|rfl|(simp only[SL];rfl))<|wpAny_newObj_type ?_<|by size_fits)
 simp only[raiseNew];refine ax (WV ?_);rw[show A.in1.handled=bb from p];refine ax (cx<|wpAny_throw<|wpAny_bind ?_);refine Tl (T:="StopIteration") (b:=true) ⟨_,Pm _ rfl,rfl⟩ Wl (cx ?_);exact q _ (((Rk ..).extBut.push _).push _)
end
end _S
namespace _2
open PySem PySem.Spec PyProof.Rows _S
noncomputable def Itf(d:ca)(od:Obj)(Xk:List (List aB×V)):It:=
 ⟨λi H=>H d=ap (.frz od<|.dT Xk)/\i<Xk.length,
  λi H v H'=>H'=H/\∃ks x b,Xk[i]?=ap (ks,x)/\H b=ap (.tup<|ks.map kV)/\v=.ref b,
  λi H=>H d=ap (.frz od<|.dT Xk)/\Xk.length<=i⟩
theorem zP{P:eC}{w:fe}{K:Pg}{tg:eH}{Xk:List (List aB×V)}{es:Array WI}{S:Nat}{T:Obj}(d j:ca)(hd:T.data=.dict es S)(x:es.size=Xk.length):
  Turn P w K tg (Itf d T Xk) [j] j (λi h=>h.IsKeyIter j d i Xk.length S) where
 mem:=by simp
 obj:=λi h a b g=>by
  have e:b=j:=by simpa using g
  subst e;obtain⟨o,e,c,d⟩:=a;exact⟨o,e,λv z=>by rw[d]at z;cases z⟩
 keep:=λi h p a k=>a.at λo e=>k j (by simp) o e
 item:=by
  intro X B J C R i f s Z H E I q a M;subst B J C;obtain⟨e,n⟩:=M;obtain⟨G,U,r,Q⟩:=I.frzT e hd;have O:Xk[i]?=ap (Xk[i].1,Xk[i].2):=by rw[Pb n]
  obtain⟨b,u,Y,e2,e3⟩:=r.at O;have m:i<es.size:=by rw[x];exact n
  have ee:es[i]=entryOfKey (WG<|aU X.prog X.w) (Xk[i].1,b,u):=by
   have:=entry_at Q i;rw[Y,Ug m]at this;exact Qa this
  have W:es[i].key=.ref b:=by rw[ee];rfl
  obtain⟨A,L,f2,F,N,y⟩:=q j (by simp)
  refine At a G hd x m λp l sb=>?_;rw[W];have I1:Inv X f Z H { s with heap:=p }:=I.turned (t':=s.toks) (λb o g e=>(sb.2 b g).trans e) A L F N y;obtain⟨o,e,c,d⟩:=id l;exact⟨.ref b,rfl,tF (s:={ s with heap:=p }) e c d (by decide) ⟨.ref b,H,I1,rfl,⟨rfl,_,_,b,O,e2,rfl⟩,l,λb g=>(q b g).1⟩⟩
 done:=by
  intro X B J C R i f s Z H E I q a M;subst B J C;obtain⟨e,n⟩:=M;obtain⟨G,U,r,Q⟩:=I.frzT e hd;obtain⟨A,L,f2,F,N,y⟩:=q j (by simp)
  exact Bj (I.ok.hd R) a G hd x (by rw[x];exact n) λp eb=>⟨rfl,I.turned (t':=s.toks) (λb o g e=>eb b o g e) A L F N y⟩
 self:=λ_ _ _ _ _ a h=>wpAny_pyIter_keyiter a h
noncomputable def NI(to:TE):TI:=λZ H R=>to Z H λx H1=>∃a od Xk,x=.ref a/\H1 a=ap (.frz od<|.dT Xk)/\R (Itf a od Xk) H1
theorem FH{X:Cx}{o G:eH}{to:TE}(F:PE X o to):PI X G o (NI to):=by
 intro f s Z H R I h;refine bv (F f s Z H _ I h) λv g ⟨x,H1,I1,n,a,A,c,E,e,q⟩=>?_;subst E;cases n;obtain⟨i,z,y,J,r,L,u,M,j,C,m,B,K⟩:=(show ObjOk X.prog X.w H1 g.heap a (.frz A<|.dT c) from I1.hok a _ e);rw[i]at j;cases j;have l:u.size=c.length:=by rw[<- Q1,B,Pa,<- QT r]
 refine AD ⟨_,i,C.1⟩ y i m ?_;refine⟨g.heap.objs.size,[g.heap.objs.size],_,_,H1,rfl,I1.kept (t':=g.toks) λb o e=>Pe _ e,zP a _ m l,⟨_,Pm _ rfl,rfl,by rw[l];rfl⟩,λb p=>?_,q⟩
 have e:b=g.heap.objs.size:=by simpa using p
 subst e;exact I1.fpOk (Pl _) (I1.hok.fresh<|Pl _)
end _2
namespace _3
open PySem _2 _S
section
variable {X:Cx}{B:Bd}
noncomputable def zH(ks:List aB):D:=.tup (ks.map λk=>match k with|.inl i=>D.int i|.inr x=>D.str x)
noncomputable def um(to:bh):uZ:=λU M R=>to U M λd M1=>match d with
 |.fd ks _=>R ⟨ks.map zH,[]⟩ M1
 |_=>False
theorem Gj{o G:eH}{to:bh}(F:DE X B o to):DI X B G o (um to):=by
 refine gx (FH F) ?_
 rintro Z H R ⟨U,M,RR,s,h,z⟩
 refine⟨U,M,_,s,h,λd M1 m v H1 j i1 u=>?_⟩
 split at m
 .rename_i f I
  obtain⟨a,E,rfl,⟨w,x,e⟩,J⟩:=u;have r:(f.zip E).length=f.length:=by rw[S9,w,TB]
  refine⟨a,x,_,rfl,e,z _ _ m _ _ j i1 λi H2 M2 i2 l _=>⟨λd p=>?_,λn=>?_⟩⟩
  .rw[Ph]at p
   obtain⟨k,q,rfl⟩:=Qp.mp p;refine⟨⟨i2.frz _ _ _ e,by rw[r];exact(Qb.mp q).1⟩,?_⟩
   rintro y H3 ⟨rfl,g,K,b,A,C,rfl⟩
   have c:f[i]?=ap g:=(RF.mp A).1;rw[q]at c;cases c;exact⟨Frm.refl,l,b,_,rfl,C,rL k⟩
  .exact⟨i2.frz _ _ _ e,by rw[r];simpa using n⟩
 .exact m.elim
def Bn(d:D)(M:Mem)(Q:DK):Prop:=match d with
 |.ref a=>match M a with
  |some (.dT Xk)=>Q (.fd (Xk.map (·.1))<|Xk.map (·.2)) (M.del a)
  |_=>False
 |_=>False
noncomputable def Dq(t:bh):bh:=λU M Q=>t U M λd M'=>Bn d M' Q
theorem xX{K:Pg}{H:Hp}:∀{Xk:List (List aB×D)}{ws:List (List aB×V)},Rkv K H Xk ws->ws=(Xk.map (·.1)).zip (ws.map (·.2))/\Rps K H (Xk.map (·.2)) (ws.map (·.2))/\Xk.length=ws.length
 |_,_,.nil=>⟨rfl,rfl,rfl⟩
 |_,_,.cons (a:=p) (b:=q) h t=>by
  obtain⟨c,e,f⟩:=xX t;refine⟨?_,.cons h.2 e,by simp[f]⟩
  simp only[Pc,Sm];rw[<- c,h.1]
theorem yI{K:Pg}{H:Hp}:∀{ks:List (List aB)}{xs:List D}{vs:List V},Rps K H xs vs->Rkv K H (ks.zip xs) (ks.zip vs)
 |[],_,_,_=>by simp;exact .nil
 |k::ks,[],_,h=>by cases h;exact .nil
 |k::ks,x::xs,_,h=>by
  obtain⟨v,r,rfl,a,b⟩:=h;exact .cons ⟨rfl,a⟩ (yI b)
theorem F2{e:eH}{te:bh}(h:DE X B e te):DE X B e (Dq te):=by
 intro b s Z H Q I n;obtain⟨U,M,QQ,x,y,u⟩:=n;refine bv (h b s Z H (λv H'=>∃d M',RepH X.K H' M'/\Frm M H M' H'/\Rp X.K H' d v/\Bn d M' QQ) I ⟨U,M,_,x,y,λd M' q v H' c i r=>⟨d,M',c,i,r,q⟩⟩) ?_
 rintro w C ⟨v,H',I',p,d,M',c,i,r,q⟩
 unfold Bn at q
 split at q
 .rename_i a
  split at q
  .rename_i z e
   obtain⟨A,f,j⟩:=c _ _ e;obtain⟨o,E,F,_,_,_,_,I2⟩:=I'.freezeT f;refine⟨v,_,I2,p,u _ _ q v _ (c.freezeT f) (i.trans<|Frm.del ⟨_,e⟩) ?_⟩;obtain⟨g,l,m⟩:=xX j;exact⟨a,A.map (·.2),r,⟨by simp[m],o,by rw[<- g];exact upd_same⟩,l.mono<|Imm.upd<|by rw[f];trivial⟩
  .exact q.elim
 .exact q.elim
noncomputable def nN:fQ:=λx y M Q=>match x with
 |.fd ks xs=>match AG y with
  |some k=>match cD (ks.zip xs) k with
   |some d=>Q d M
   |none=>False
  |none=>False
 |_=>False
theorem NX(G:X.A.units+1<pA):IxR X (liftR2 X nN):=by
 intro f c g s Z H x y v u Q I z q h C;obtain⟨N,L,M,QQ,F,l,m,h,o⟩:=h;unfold nN at h
 split at h
 .rename_i ks J
  split at h
  .rename_i k E
   split at h
   .rename_i d j
    obtain⟨a,O,rfl,⟨K,n,e⟩,p⟩:=l;obtain⟨b,rfl,r⟩:=ly m E;rcases (yI (ks:=ks) p).val k with⟨i,_⟩|⟨d',w,i,e2,r'⟩
    .rw[j]at i;cases i
    .rw[j]at i;cases i
     exact xI G f c g s Z H _ _ v u Q I z q ⟨a,w,rfl,.inr ⟨_,k,b,.inr ⟨n,e⟩,rfl,r,e2.symm⟩,o _ M h _ H F Frm.refl r'⟩ C
   .exact h.elim
  .exact h.elim
 .exact h.elim
end
end _3
namespace _2
open PySem PySem.Spec PyProof.Rows
section
variable {X:Cx}{tg iter elt:eH}{ifs:Xu}{scope:Pv}{cl:List (Str×ca)}{pos:Pos}{ls fs:Xr}{js:List Nat}{wi:TI}{g:TG}{tt:TT}{te:TE}
theorem Cp{i:Nat}{x:Str}{n l:Pos}(hN:X.N.Nodup)(U:X.N[i]?=ap x)(hx:AU X.env.scope x)(hc:X.calm=true)(co:CompOkC X scope cl ls fs js)(hi:PI X tg iter wi)
  (hY:∀(C:ca)(j:cb)(H₀:Hp)(B:Xt)(pl:Xx),PG (aZ X (ls++fs) scope cl C j H₀ B pl) tg g/\LU (aZ X (ls++fs) scope cl C j H₀ B pl) ifs tt/\PE (aZ X (ls++fs) scope cl C j H₀ B pl) elt te)
  (S:x9 (.ListComp elt [⟨tg,iter,ifs,0⟩] scope pos) (ap<|.Name x n) l.line X.env=pure true)
  (hs:∀x,Ps iter X.env x=pure x) (hf:X.fn x=true\/X.env.scope.names.lookup x=ap .local):
  PS X (.Assign [.Name x n] (.ListComp elt [⟨tg,iter,ifs,0⟩] scope pos) l) (LD i<|Bp wi ls js g tt te):=by
 intro c s Z H D I h;rw[exec_Assign_Name_used _ _ _ _ S];refine ax (Wd<|wpAny_bind ?_);show cp _ X.A (do let _ <- comprehension (.ListComp elt [⟨tg,iter,ifs,0⟩] scope pos) scope X.env _ (newList []) cm (eX iter X.env) (ap<|assign (.Name x n) X.env)) _ _ s
 refine ax (j0 (WW (use:=ap (Wm (.Name x n) X.env)) (Q:=λ_ u=>SP X c D .next u) rfl hs co.clos co.kind co.locs
  (bv (hi c s Z H _ I h) λxv s1 h1=>bv h1 λY s2 h2=>?_)) (λ_ u E=>cx (cx E)) λ_ _ e=>e)
 obtain⟨it,B,tn,J,H2,e,I2,T,O,f2,q⟩:=h2;subst e;refine o9 (R:=λF C=>compPost (cT X.prog X.w) X.A X.xe (ap<|assign (.Name x n) X.env) (λ_ u=>SP X c D .next u) F C) (Q:=λv H1=>D.nx (Z.set i<|some v) H1) hc co hY I2 T O f2 q ?_;intro p C H' u m hn IX hC W G f r E;show cp _ X.A (Wm (.Name x n) X.env<|.ref p) _ _ _;refine wpAny_assign_Name (p9 IX hN U hx (v:=.ref p) rfl (λK I'' M=>?_) hf);obtain⟨a,sb,ha⟩:=M;have P:C≠a:=by
  rcases ha with z|z
  .rw[z];exact W
  .exact λy=>f x a z y.symm
 refine⟨m,hn.sameBut sb P,λh3 L=>?_⟩;exact⟨_,H',I''.turned (t':=K.toks) (λb o M e=>L.extBut b o M e) hC W (.inr G) f r,E⟩
end
end _2
namespace _3
open PySem _2
section
variable {X:Cx}{B:Bd}{scope:Pv}{cl:List (Str×ca)}{ls fs:Xr}{js:List Nat}{tg iter elt:eH}{ifs:Xu}{wi:uZ}{g:ju}{tt:eU}{te:bh}{pos px spos:Pos}{i:Nat}{x:Str}
theorem BH(O:X.N.Nodup)(e:X.N[i]?=ap x)(m:AU X.env.scope x)(I:X.calm=true)(h:FC X scope fs js cl)(E:scope.kind=.function)(J:∀y∈scope.names,(y.2=.free->y.1∈fs)/\(y.2=.cell->y.1∉fs/\scope.names.lookup y.1=ap .cell))(p:∀x∈scope.names,x.2=.local->scope.names.lookup x.1=ap .local)
  (c:WR scope X.env=pure cl) (u:DI X B tg iter wi)
  (L:∀(C:ca)(a:cb)(H₀:Hp)(b:Xt)(pl:Xx),DG (aZ X (ls++fs) scope cl C a H₀ b pl) Gh tg g)
  (A:∀(C:ca)(a:cb)(H₀:Hp)(b:Xt)(pl:Xx),Oq (aZ X (ls++fs) scope cl C a H₀ b pl) Gh ifs tt)
  (hE:∀(C:ca)(a:cb)(H₀:Hp)(b:Xt)(pl:Xx),DE (aZ X (ls++fs) scope cl C a H₀ b pl) Gh elt te)
  (F:X.env.blockKind=.function) (o:X.env.scope.names.lookup x=ap .local) (w:px.line=pos.line) (z:(scope.names.any λ(n,k)=>n==x&&(k==.local||k==.cell))=cm) (G:∀x,Ps iter X.env x=pure x) (P:X.fn x=true\/X.env.scope.names.lookup x=ap .local):
  DS X B (.Assign [.Name x px] (.ListComp elt [⟨tg,iter,ifs,0⟩] scope pos) spos) (bJ i<|aJ wi ls js g tt te):=by
 refine bU (Cp (g:=liftG0 X.K g) (tt:=liftT0 X.K tt) (te:=liftE0 X.K te) O e m I (za h E J p c) u (λC a H₀ b pl=>⟨CQ (L C a H₀ b pl),yx (A C a H₀ b pl),B1<|hE C a H₀ b pl⟩) (Fw F o w z) G P) ?_
 rintro D Z H ⟨U,M,DD,s,h,j⟩
 refine oP ⟨U,M,_,s,h,λd M' q v H' l f r=>?_⟩;exact j.nx _ M' q _ H' f ((s.go l f).set r)
end
section
variable {X:Cx}{B:Bd}
theorem cN:∀{e:Xq}{Xo:Xs},Vals (e.map V.int) Xo->∀(m:Nat)(c:m<Xo.length),∃i t,e[m]?=ap i/\Xo[m]=.int i t
 |[],_,r,m,c=>by cases r;simp at c
 |i::e,_,r,m,c=>by
  cases r with
  |cons a b=>
   obtain⟨t,rfl⟩:=a;cases m with
   |zero=>exact⟨i,t,rfl,rfl⟩
   |succ m=>
    obtain⟨j,h,f,g⟩:=cN b m (by simpa using c)
    exact⟨j,h,by simpa using f,by simpa using g⟩
def iu:x_:=λx a M Q=>match x,a with
 |.tup xs,[.int z]=>match h7 xs with
  |some is=>is.length<=1000/\match is.findIdx? (λy=>decide (y=z)) with
   |some j=>Q (.int (j:Nat)) M
   |none=>False
  |none=>False
 |_,_=>False
theorem ww:w8 X "tuple.index" (liftM X iu):=by
 intro o s Z H x vs v us Q I T R h;obtain⟨d,ds,M,QQ,Y,r,G,h,N⟩:=h;unfold iu at h
 split at h
 .rename_i xs z
  obtain⟨p,ws,rfl,U,r⟩:=r;obtain⟨w,rfl,l⟩:=ib (ds:=[]) G;cases l
  split at h
  .rename_i is L
   obtain⟨q,h⟩:=h
   split at h
   .rename_i j C
    have:=sL r L;subst this;rw[Tu]at C;obtain⟨J,K,S⟩:=C;cases T;obtain⟨u,rfl,P⟩:=R.one;obtain⟨t,rfl⟩:=P;obtain⟨a,n,F,r,e⟩:=I.tupD U;have q:=r.length;rw[Pa]at q;have i:j<a.toArray.size:=by rw[Pk];lia
    refine s9 RD ⟨_,e,rfl⟩ TX (TU _ _)
     (jK p a.toArray n bb F (.int z t) (λv=>match v with|.int y _=>y==z|_=>cm) (λy W=>?_) j i ?_ λm f g=>?_) ⟨e,?_⟩
    .obtain⟨m,f,rfl⟩:=Se (by simpa using W:y∈a)
     obtain⟨A,E,b,c⟩:=cN r m f;rw[c];exact UZ _ _ _ _
    .obtain⟨A,E,b,c⟩:=cN r j (by lia)
     rw[Pb J]at b;cases b;simpa [c] using K
    .obtain⟨A,E,b,c⟩:=cN r m (by rw[Pk]at f;exact f)
     have O:=S m g;rw[Pb (by lia)]at b
     cases b;simpa [c] using O
    .exact⟨.int (j:Int),H,I.tok _,⟨_,rfl⟩,N _ M h _ H Y Frm.refl rfl⟩
   .exact h.elim
  .exact h.elim
 .exact h.elim
end
end _3
namespace _T
open PySem _2 _3
noncomputable def ci(i:Nat):Stmt:=PySem.Challenge.pw_twinstride_k44_even_or_odd.main.body.getD i (.Pass ⟨0,0,0,0⟩)
noncomputable abbrev OE:Stmt:=eI (ci 6) 0
noncomputable abbrev OR:Stmt:=eI (ci 6) 1
noncomputable abbrev IE:Stmt:=eI (ci 6) 2
noncomputable abbrev IG:Stmt:=ci 7
noncomputable abbrev IF:Stmt:=ci 8
noncomputable abbrev GS:Stmt:=ci 9
noncomputable abbrev G_:Stmt:=ci 10
noncomputable abbrev He:Stmt:=ci 12
noncomputable abbrev GT:Stmt:=ci 13
noncomputable abbrev GP:Stmt:=ci 14
noncomputable abbrev Hk:Stmt:=ci 15
noncomputable abbrev IA:Stmt:=ci 16
noncomputable abbrev GO:Stmt:=ci 18
noncomputable abbrev HV:Stmt:=ci 19
noncomputable abbrev Io:Stmt:=ci 20
noncomputable abbrev Ir:Stmt:=ci 22
noncomputable abbrev GR:Stmt:=ci 24
noncomputable abbrev HC:Stmt:=ci 26
noncomputable abbrev II:Stmt:=ci 27
noncomputable abbrev Ht:Stmt:=ci 28
noncomputable abbrev MN:Stmt:=eI (ci 30) 0
noncomputable abbrev O9:Stmt:=eI (ci 30) 1
noncomputable abbrev ON:Stmt:=eI (ci 31) 0
noncomputable abbrev NJ:Stmt:=eI (ci 31) 1
noncomputable abbrev GW:Stmt:=ci 32
noncomputable abbrev HA:Stmt:=ci 33
noncomputable abbrev Hl:Stmt:=ci 34
noncomputable abbrev Hc:Stmt:=ci 35
noncomputable abbrev HP:Stmt:=ci 36
noncomputable abbrev HY:Stmt:=ci 38
noncomputable abbrev Hy:Stmt:=ci 39
noncomputable abbrev Ix:Stmt:=ci 40
noncomputable abbrev GN:Stmt:=ci 41
noncomputable abbrev Ng:Stmt:=eI (ci 43) 0
noncomputable abbrev Hj:Stmt:=ci 44
noncomputable abbrev GU:Stmt:=ci 45
noncomputable abbrev Ib:Stmt:=ci 46
noncomputable abbrev Ia:Stmt:=ci 48
noncomputable abbrev Im:Stmt:=ci 50
noncomputable abbrev HJ:Stmt:=ci 51
noncomputable abbrev Ha:Stmt:=ci 52
noncomputable abbrev Hx:Stmt:=ci 53
noncomputable abbrev HM:Stmt:=ci 54
noncomputable abbrev HU:Stmt:=ci 55
noncomputable abbrev HX:Stmt:=ci 56
noncomputable abbrev Ip:Stmt:=ci 57
noncomputable abbrev HH:Stmt:=ci 58
noncomputable abbrev O1:Stmt:=ci 59
noncomputable abbrev HZ:Stmt:=ci 60
noncomputable abbrev HG:Stmt:=ci 61
noncomputable abbrev H_:Stmt:=ci 62
noncomputable abbrev GY:Stmt:=ci 63
noncomputable abbrev Hg:Stmt:=ci 64
noncomputable abbrev Ik:Stmt:=ci 65
noncomputable abbrev IB:Stmt:=ci 66
noncomputable abbrev Ig:Stmt:=ci 67
noncomputable abbrev ND:Stmt:=ci 68
noncomputable abbrev Il:Stmt:=ci 69
noncomputable abbrev Hs:Stmt:=ci 70
noncomputable abbrev Ij:Stmt:=ci 71
noncomputable abbrev HW:Stmt:=ci 72
noncomputable abbrev Nq:Stmt:=ci 73
noncomputable abbrev Hb:Stmt:=ci 74
noncomputable abbrev Hn:Stmt:=ci 77
noncomputable abbrev HN:Stmt:=ci 78
abbrev jz:Stmt:=ci 79
set_option genInjectivity false in
structure Ad where
 C_Ends:ca
 C_Going:ca
 C_Outcome:ca
 C_Walk:ca
 C_Dry:ca
 C_NoCase:ca
 C_TooMany:ca
 (a1 a2 a3 a4 a5 a6 a7 a8 a9 a10 a11 a12 a13 a14 a15 a16 a17 a18 a19 a20 a21 a22 a23 a24 a25 a26 a27 a28 a29 a30 a31 a32 a33 a34 a35 a36 a37 a38 a39 a40 a41 a42 a43 a44 a45 a46 a47 a48 a49 a50 a51 a52 a53 a54 a55 a56 a57 a58 a59 a60 a61 a62 a63 a64 a65 a66:ca)
 (d1 d2 d3 d4 d5 d6 d7 d8 d9 d10 d11 d12 d13 d14 d15 d16 d17 d18 d19 d20 d21 d22 d23 d24 d25 d26 d27 d28 d29 d30 d31 d32 d33 d34 d35 d36 d37 d38 d39 d40 d41 d42 d43 d44 d45 d46 d47 d48 d49 d50 d51 d52 d53 d54 d55 d56 d57 d58 d59 d60 d61 d62 d63 d64 d65 d66:ff)
section
variable{ad:Ad}{M:Mem}{Q:DK}{E:DX}{a b c d e f g h:D}
local macro_rules|`($q⁻¹)=>`({ nx:=λ_ x=>drp $q .non x,rt:=drp $q })
local macro_rules|`(¬$k:num)=>`(dC (.int $k))|`(¬$k:str)=>`(dC (.str $k))
noncomputable def Fy(w:Ad)(y:DX):aA:=ah (cC w.C_Walk (ac 0) (ac 1) "plan") (ah (cC w.C_Walk (ac 0) (gk<|aa (ai au (ac 1) ¬1)<|aa (ai au (ac 2) ¬0) af) "numbers")<|ah (cC w.C_Walk (ac 0) (ai au (ac 2) ¬1) "pieces")<|ah (cC w.C_Walk (ac 0) (ac 3) "most")<|cC w.C_Walk (ac 0) (bp af) "steps")
noncomputable def EF(ad:Ad):Sd:=aI ["self","plan","stand","most"] (Fy ad)
theorem u_q3:EF ad [a,e,c,b] M Q E=Fy ad (aM E) Q⁻¹ [ap a,ap e,ap c,ap b] M:=rfl
noncomputable def Ez(w:Ad)(y:DX):aA:=ah (aC (ak<|ai oGe (br bY<|aa (aV w.C_Walk (ac 0) "steps") af)<|aV w.C_Walk (ac 0) "most") (lD w.C_Dry y) aw) (bq<|nC "list" bL (aV w.C_Walk (ac 0) "steps")<|aa (aP<|aa (ac 1)<|aa (ac 2) af) af)
noncomputable def wc(ad:Ad):Sd:=aI ["self","place","number"] (Ez ad)
theorem u_q2:wc ad [a,c,b] M Q E=Ez ad (aM E) Q⁻¹ [ap a,ap c,ap b] M:=rfl
noncomputable def zu(w:Ad)(y:DX):aA:=ah (ao (jq (ak<|ai bG (ai au (aV w.C_Walk (ac 0) "numbers")<|ac 2) ¬0) (¬0) ¬1)<|ag 3) (ah (bq<|cZ w.C_Walk "note_step" (wc w) y 3 (ac 0)<|aa (ac 1)<|aa (ac 3) af)<|av<|ac 3)
noncomputable def oo(ad:Ad):Sd:=aI ["self","place","name","seen"] (zu ad)
theorem MQ:oo ad [a,c,b] M Q E=zu ad (aM E) Q⁻¹ [ap a,ap c,ap b,bb] M:=rfl
noncomputable def xM(w:Ad)(y:DX):aA:=ah (aC (ak<|ai bG (ac 0) ¬"sum") (av<|ai fO (al<|ai ba (ac 1)<|ac 2)<|ac 3) aw) (ah (aC (ak<|ai bG (ac 0) ¬"by") (av<|ai fO (ai iw (ac 1)<|ac 2)<|ac 3) aw)<|ah (aC (ak<|ai bG (ac 0) ¬"less") (av<|jq (ak<|ai y6 (ac 1)<|ac 2) (¬1) ¬0) aw)<|av<|jq (ak<|ai bG (ac 1)<|ac 2) (¬1) ¬0)
noncomputable def xP(ad:Ad):Sd:=aI ["word","y","z","wheel"] (xM ad)
theorem O2:xP ad [a,e,c,b] M Q E=xM ad (aM E) Q⁻¹ [ap a,ap e,ap c,ap b] M:=rfl
noncomputable def iN(w:Ad)(y:DX):aA:=ah (aC (ak<|ai bG (ai au (ac 2) ¬0) ¬"take") (av<|ai au (ac 2) ¬2) aw) (ah (aC (ak<|ai bG (ai au (ac 2) ¬0) ¬"pick") (av<|ai fO (ai au (ac 1)<|ai au (ac 2) ¬2)<|ai au (ac 0) ¬2) aw)<|av<|dC .non)
noncomputable def mK(ad:Ad):Sd:=aI ["plan","numbers","row"] (iN ad)
theorem o8:mK ad [a,c,b] M Q E=iN ad (aM E) Q⁻¹ [ap a,ap c,ap b] M:=rfl
noncomputable def g5(w:Ad)(y:DX):aA:=ah (aC (ak<|ai bG (ai au (ac 3) ¬0) ¬"put") (av<|ai au (ac 3) ¬2) aw) (ah (ao (al<|aj (mK w) y 3<|aa (ac 0)<|aa (ac 1)<|aa (ac 3) af)<|ag 4)<|ah (aC (ak<|ai fh (ac 4)<|dC .non) (av<|ai au (ac 2)<|ac 4) aw)<|av<|aj (xP w) y 4<|aa (ai au (ac 3) ¬0)<|aa (ai au (ac 1)<|ai au (ac 3) ¬2)<|aa (ai au (ac 1)<|ai au (ac 3) ¬3)<|aa (ai au (ac 0) ¬0) af)
noncomputable def lP(ad:Ad):Sd:=aI ["plan","numbers","pieces","row","piece"] (g5 ad)
theorem jC:lP ad [a,e,c,b] M Q E=g5 ad (aM E) Q⁻¹ [ap a,ap e,ap c,ap b,bb] M:=rfl
noncomputable def yK(w:Ad)(Vh Vj Vk Vl:Sd)(y:DX):aA:=cB (ot<|aa (ac 1) af) (cU 2<|aL (ag 3)<|aL (ag 4) cL) (bq<|aj Vj y 3<|aa (ac 0)<|aa (ac 4)<|aa (ai ba (ac 2)<|aP<|aa (ac 3) af) af)
noncomputable def oz(w:Ad)(Vh Vj Vk Vl:Sd)(y:DX):aA:=aC (ak<|ai bG (ai au (ac 1) ¬0) ¬"if") (bq<|aj Vk y 3<|aa (ac 0)<|aa (ac 1)<|aa (ac 2) af) (aC (ak<|ai bG (ai au (ac 1) ¬0) ¬"again") (bq<|aj Vl y 3<|aa (ac 0)<|aa (ac 1)<|aa (ac 2) af)<|ah (ao (al<|aj (lP w) y 4<|aa (aV w.C_Walk (ac 0) "plan")<|aa (aV w.C_Walk (ac 0) "numbers")<|aa (aV w.C_Walk (ac 0) "pieces")<|aa (ac 1) af)<|ag 3)<|ah (bq<|cZ w.C_Walk "note_step" (wc w) y 3 (ac 0)<|aa (ac 2)<|aa (ac 3) af)<|ao (ac 3)<|cO (aV w.C_Walk (ac 0) "numbers")<|ai au (ac 1) ¬1)
noncomputable def y3(w:Ad)(Vh Vj Vk Vl:Sd)(y:DX):aA:=ah (ao (al<|cZ w.C_Walk "look" (oo w) y 3 (ac 0)<|aa (ac 2)<|aa (ai au (ac 1) ¬1) af)<|ag 3) (bq<|aj Vh y 3<|aa (ac 0)<|aa (jq (ak<|ai bG (ac 3) ¬1) (ai au (ac 1) ¬2)<|ai au (ac 1) ¬3)<|aa (ai ba (ac 2)<|aP<|aa (ac 3) af) af)
noncomputable def yO(w:Ad)(Vh Vj Vk Vl:Sd)(y:DX):aA:=ah (ao (¬0)<|ag 3) (h_ (ak<|ai bG (al<|cZ w.C_Walk "look" (oo w) y 3 (ac 0)<|aa (ai ba (ac 2)<|aP<|aa (ac 3) af)<|aa (ai au (ac 1) ¬1) af) ¬1)<|ah (bq<|aj Vh y 3<|aa (ac 0)<|aa (ai au (ac 1) ¬2)<|aa (ai ba (ac 2)<|aP<|aa (ac 3) af) af)<|Bf 3 (¬1) DM)
mutual
noncomputable def Vh(ad:Ad):Nat->Sd
 |0=>λ_ _ _ _=>False
 |n+1=>aI ["walk","rows","place","j","row"] (yK ad (Vh ad n) (Vj ad n) (Vk ad n)<|Vl ad n)
noncomputable def Vj(ad:Ad):Nat->Sd
 |0=>λ_ _ _ _=>False
 |n+1=>aI ["walk","row","place","number"] (oz ad (Vh ad n) (Vj ad n) (Vk ad n)<|Vl ad n)
noncomputable def Vk(ad:Ad):Nat->Sd
 |0=>λ_ _ _ _=>False
 |n+1=>aI ["walk","row","place","seen"] (y3 ad (Vh ad n) (Vj ad n) (Vk ad n)<|Vl ad n)
noncomputable def Vl(ad:Ad):Nat->Sd
 |0=>λ_ _ _ _=>False
 |n+1=>aI ["walk","row","place","turn"] (yO ad (Vh ad n) (Vj ad n) (Vk ad n)<|Vl ad n)
end
theorem Mm{n:Nat}:Vh ad (n+1) [a,c,b] M Q E=yK ad (Vh ad n) (Vj ad n) (Vk ad n) (Vl ad n) (aM E) Q⁻¹ [ap a,ap c,ap b,bb,bb] M:=rfl
theorem BB{n:Nat}:Vj ad (n+1) [a,c,b] M Q E=oz ad (Vh ad n) (Vj ad n) (Vk ad n) (Vl ad n) (aM E) Q⁻¹ [ap a,ap c,ap b,bb] M:=rfl
theorem MB{n:Nat}:Vk ad (n+1) [a,c,b] M Q E=y3 ad (Vh ad n) (Vj ad n) (Vk ad n) (Vl ad n) (aM E) Q⁻¹ [ap a,ap c,ap b,bb] M:=rfl
theorem NM{n:Nat}:Vl ad (n+1) [a,c,b] M Q E=yO ad (Vh ad n) (Vj ad n) (Vk ad n) (Vl ad n) (aM E) Q⁻¹ [ap a,ap c,ap b,bb] M:=rfl
noncomputable def yV(w:Ad)(y:DX):aA:=ah (ao (fT w.C_Walk (EF w) y 4<|aa (ac 0)<|aa (ac 1)<|aa (ac 2) af)<|ag 3) (ah (Ki w.C_Dry (Vh w 24) 3 (aa (ac 3)<|aa (ai au (ac 0) ¬3)<|aa (aP af) af)<|av<|aP<|aa (aV w.C_Walk (ac 3) "steps")<|aa (dC .non) af)<|av<|aP<|aa (aV w.C_Walk (ac 3) "steps")<|aa (br bA<|aa (al<|aJ (bo<|ai au (ac 0) ¬1) ["name"] [3] (ag 0) de<|ai au (aV w.C_Walk (ac 1) "numbers")<|ac 0) af) af)
noncomputable def tS(ad:Ad):Sd:=aI ["plan","stand","most","walk"] (yV ad)
theorem Mx:tS ad [a,c,b] M Q E=yV ad (aM E) Q⁻¹ [ap a,ap c,ap b,bb] M:=rfl
noncomputable def z9(w:Ad)(y:DX):aA:=ah (ao (ai au (fK<|aj (tS w) y 3<|aa (ac 0)<|aa (ac 1)<|aa (ac 2) af) ¬1)<|ag 3) (ah (aC (ak<|ai fP (ac 3)<|dC .non) (av<|dC .non) aw)<|av<|ai au (ac 3)<|E9 hZ (ai au (ac 0) ¬1)<|aa (ai au (ac 0) ¬4) af)
noncomputable def oZ(ad:Ad):Sd:=aI ["plan","stand","most","end"] (z9 ad)
theorem NZ:oZ ad [a,c,b] M Q E=z9 ad (aM E) Q⁻¹ [ap a,ap c,ap b,bb] M:=rfl
noncomputable def zq(w:Ad)(y:DX):aA:=av (ai ba (al<|br fk<|aa (ai au (ac 0) ¬1) af)<|al<|uQ<|aa (ai au (ac 0) ¬2) af)
noncomputable def uf(ad:Ad):Sd:=aI ["plan"] (zq ad)
theorem NU:uf ad [a] M Q E=zq ad (aM E) Q⁻¹ [ap a] M:=rfl
def kW(w:Ad)(y:DX):aA:=av (aJ (bo<|al<|aj (uf w) y 1<|aa (ac 0) af) ["thing"] [2] (ag 0) (ak<|ai sJ (ac 0)<|ac 1)<|ac 0)
noncomputable def yL(w:Ad)(y:DX):aA:=ah (ao (br g7<|aa (al<|aJ (bo<|ac 1) ["thing"] [] (ag 0) de<|aP<|aa (ac 0)<|aa (dC<|.bl true) af) af)<|ag 2) (kW w y)
noncomputable def yn(ad:Ad):Sd:=aI ["plan","things","wanted"] (yL ad)
theorem O6:yn ad [a,b] M Q E=yL ad (aM E) Q⁻¹ [ap a,ap b,bb] M:=rfl
noncomputable def tY(w:Ad)(y:DX):aA:=ah (aC (bI<|br cG<|aa (ac 2)<|aa (dC<|.ty "str") af) (av<|ai au (ai au (ac 1) ¬0)<|E9 hZ (ai au (ac 0) ¬1)<|aa (ac 2) af) aw) (av<|ai au (ai au (ac 1) ¬1)<|ac 2)
noncomputable def jJ(ad:Ad):Sd:=aI ["plan","stand","thing"] (tY ad)
theorem HE:jJ ad [a,c,b] M Q E=tY ad (aM E) Q⁻¹ [ap a,ap c,ap b] M:=rfl
noncomputable def iy(w:Ad)(y:DX):aA:=ah (aC (Al (ak<|ai bG (ai au (ac 0) ¬0) ¬"if")<|ak<|ai bG (ai au (ac 0) ¬0) ¬"again") (av<|bp<|aa (ai au (ac 0) ¬1) af) aw) (ah (aC (Al (ak<|ai bG (ai au (ac 0) ¬0) ¬"put")<|ak<|ai bG (ai au (ac 0) ¬0) ¬"take") (av<|bp af) aw)<|av<|br fk<|aa (al<|xJ (ac 0) (dG ¬2) b_) af)
noncomputable def yr(ad:Ad):Sd:=aI ["row"] (iy ad)
theorem o6:yr ad [a] M Q E=iy ad (aM E) Q⁻¹ [ap a] M:=rfl
noncomputable def yR(w:Ad)(y:DX):aA:=av (aJ (bo<|al<|aj (uf w) y 1<|aa (ac 0) af) ["thing"] [0,2,1] (ag 0) (ak<|ai f_ (al<|aj (jJ w) oW 3<|aa (ac 1)<|aa (ac 3)<|aa (ac 0) af)<|al<|aj (jJ w) oW 3<|aa (ac 1)<|aa (ac 2)<|aa (ac 0) af)<|ac 0)
noncomputable def xD(ad:Ad):Sd:=aI ["plan","one","other"] (yR ad)
theorem Oz:xD ad [a,c,b] M Q E=yR ad (aM E) Q⁻¹ [ap a,ap c,ap b] M:=rfl
def pK(w:Ad)(y:DX):aA:=ah (aC (ak<|ai bG (ac 1)<|ac 2) (lD w.C_NoCase y) aw) (av<|aP<|aa (ac 1)<|aa (ac 2) af)
def kS(w:Ad)(y:DX):aA:=ah (aC (Al (ak<|ai fP (ac 1)<|dC .non)<|ak<|ai fP (ac 2)<|dC .non) (lD w.C_NoCase y) aw) (pK w y)
def qg(w:Ad)(y:DX):aA:=ah (ao (al<|aj (oZ w) y 3<|aa (ai au (ac 0) ¬0)<|aa (ai au (ac 0) ¬2)<|aa (ai au (ac 0) ¬3) af)<|ag 2) (kS w y)
noncomputable def xr(w:Ad)(y:DX):aA:=ah (ao (al<|aj (oZ w) y 3<|aa (ai au (ac 0) ¬0)<|aa (ai au (ac 0) ¬1)<|aa (ai au (ac 0) ¬3) af)<|ag 1) (qg w y)
noncomputable def tU(ad:Ad):Sd:=aI ["case","sound","faulty"] (xr ad)
theorem Nd:tU ad [a] M Q E=xr ad (aM E) Q⁻¹ [ap a,bb,bb] M:=rfl
noncomputable def xj(w:Ad)(y:DX):aA:=av (aj (xD w) y 3<|aa (ai au (ac 0) ¬0)<|aa (ai au (ac 0) ¬1)<|aa (ai au (ac 0) ¬2) af)
noncomputable def oh(ad:Ad):Sd:=aI ["case"] (xj ad)
theorem Mt:oh ad [a] M Q E=xj ad (aM E) Q⁻¹ [ap a] M:=rfl
noncomputable def tz(w:Ad)(y:DX):aA:=ah (aC (ak<|ai bG (ac 1)<|ai au (ac 0) ¬0) (av ¬"sound") aw) (ah (aC (ak<|ai bG (ac 1)<|ai au (ac 0) ¬1) (av ¬"faulty") aw)<|av ¬"other")
noncomputable def yM(ad:Ad):Sd:=aI ["two","one"] (tz ad)
theorem HL:yM ad [a,b] M Q E=tz ad (aM E) Q⁻¹ [ap a,ap b] M:=rfl
noncomputable def Gu(w:Ad)(y:DX):aA:=ah (cC w.C_Going (ac 0) (ac 1) "numbers") (ah (cC w.C_Going (ac 0) (ac 2) "pieces")<|ah (cC w.C_Going (ac 0) (ac 3) "unsettled")<|ah (cC w.C_Going (ac 0) (ac 4) "todo")<|cC w.C_Going (ac 0) (ac 5) "left")
noncomputable def Di(ad:Ad):Sd:=aI ["self","numbers","pieces","unsettled","todo","left"] (Gu ad)
theorem u_q1:Di ad [b,c,g,f,a,e] M Q E=Gu ad (aM E) Q⁻¹ [ap b,ap c,ap g,ap f,ap a,ap e] M:=rfl
def wV(w:Ad)(y:DX):aA:=ao (ac 2) (cO (aV w.C_Going (ac 3) "numbers")<|ac 1)
def vL(w:Ad)(y:DX):aA:=ao (ac 2) (cO (aV w.C_Going (ac 3) "pieces")<|ac 1)
def vz(w:Ad)(y:DX):aA:=ah (aC (bI<|br cG<|aa (ac 1)<|aa (dC<|.ty "str") af) (wV w y)<|vL w y) (av<|ac 3)
def wz(w:Ad)(y:DX):aA:=ah (bq<|Dv (aV w.C_Going (ac 3) "unsettled")<|ac 1) (vz w y)
noncomputable def EO(w:Ad)(y:DX):aA:=ah (ao (fT w.C_Going (Di w) y 6<|aa (br nc<|aa (aV w.C_Going (ac 0) "numbers") af)<|aa (br fk<|aa (aV w.C_Going (ac 0) "pieces") af)<|aa (br nc<|aa (aV w.C_Going (ac 0) "unsettled") af)<|aa (aV w.C_Going (ac 0) "todo")<|aa (aV w.C_Going (ac 0) "left") af)<|ag 3) (wz w y)
noncomputable def zV(ad:Ad):Sd:=aI ["self","thing","number","other"] (EO ad)
theorem u_q8:zV ad [a,c,b] M Q E=EO ad (aM E) Q⁻¹ [ap a,ap c,ap b,bb] M:=rfl
noncomputable def Ej(w:Ad)(y:DX):aA:=ah (cC w.C_Ends (ac 0) (ac 1) "limit") (cC w.C_Ends (ac 0) (¬0) "count")
noncomputable def Kg(ad:Ad):Sd:=aI ["self","limit"] (Ej ad)
theorem u_q5:Kg ad [a,b] M Q E=Ej ad (aM E) Q⁻¹ [ap a,ap b] M:=rfl
def v_(w:Ad)(y:DX):aA:=aC (ak<|ai E5 (aV w.C_Ends (ac 0) "count")<|aV w.C_Ends (ac 0) "limit") (lD w.C_TooMany y) aw
noncomputable def Ee(w:Ad)(y:DX):aA:=ah (rO w.C_Ends (ac 0) (¬1) "count") (v_ w y)
noncomputable def Da(ad:Ad):Sd:=aI ["self"] (Ee ad)
theorem u_q7:Da ad [a] M Q E=Ee ad (aM E) Q⁻¹ [ap a] M:=rfl
def rH(w:Ad)(y:DX):aA:=ao (aP<|aa (ac 2)<|aa (ac 1) af) (ag 1)
noncomputable def yu(w:Ad)(y:DX):aA:=ah (cB (LK<|aa (ac 0) af) (ag 2)<|rH w y) (av<|ac 1)
noncomputable def mE(ad:Ad):Sd:=aI ["rows","todo","row"] (yu ad)
theorem N_:mE ad [a,b] M Q E=yu ad (aM E) Q⁻¹ [ap a,ap b,bb] M:=rfl
def qG(w:Ad)(y:DX):aA:=av (fT w.C_Going (Di w) y 6<|aa (gk<|aa (ai au (ac 1) ¬1)<|aa (ai au (ac 2) ¬0) af)<|aa (br fk<|aa (ai au (ac 2) ¬1) af)<|aa (ac 3)<|aa (al<|aj (mE w) y 2<|aa (ai au (ac 1) ¬3)<|aa (dC .non) af)<|aa (ai au (ac 0) ¬3) af)
def qC(w:Ad)(y:DX):aA:=ah (ao (br g7<|aa (al<|aJ (bo<|al<|aj (oh w) y 1<|aa (ac 0) af) ["thing"] [] (ag 0) de<|aP<|aa (ac 0)<|aa (dC<|.bl true) af) af)<|ag 3) (qG w y)
def qM(w:Ad)(y:DX):aA:=ah (ao (ai au (ac 0) ¬1)<|ag 2) (qC w y)
noncomputable def yE(w:Ad)(y:DX):aA:=ah (ao (ai au (ac 0) ¬0)<|ag 1) (qM w y)
noncomputable def yX(ad:Ad):Sd:=aI ["case","plan","sound","unsettled"] (yE ad)
theorem Oe:yX ad [a] M Q E=yE ad (aM E) Q⁻¹ [ap a,bb,bb,bb] M:=rfl
def qh(w:Ad)(y:DX):aA:=av (ai au (al<|aj (yn w) y 2<|aa (ac 0)<|aa (ac 3) af) ¬0)
def rB(w:Ad)(y:DX):aA:=av (jq (ak<|ai Cb (ac 4)<|aV w.C_Going (ac 1) "unsettled") (ac 4)<|dC .non)
def qf(w:Ad)(y:DX):aA:=ah (ao (al<|aj (mK w) y 3<|aa (ac 0)<|aa (aV w.C_Going (ac 1) "numbers")<|aa (ac 2) af)<|ag 4) (rB w y)
def k8(w:Ad)(y:DX):aA:=ah (aC (bI<|ac 3) (qh w y) aw) (qf w y)
def pZ(w:Ad)(y:DX):aA:=ah (bf (bJ 3<|aJ (bo<|al<|aj (yr w) y 1<|aa (ac 2) af) ["name"] [1] (ag 0) (ak<|ai sJ (ac 0)<|aV w.C_Going (ac 1) "unsettled")<|ac 0) 3) (k8 w y)
noncomputable def yw(w:Ad)(y:DX):aA:=ah (aC (dX<|bI<|aV w.C_Going (ac 1) "unsettled") (av<|dC .non) aw) (pZ w y)
noncomputable def yS(ad:Ad):Sd:=aI ["plan","going","row","found","piece"] (yw ad)
theorem Nr:yS ad [a,c,b] M Q E=yw ad (aM E) Q⁻¹ [ap a,ap c,ap b,bb,bb] M:=rfl
def pU(w:Ad)(y:DX):aA:=cC w.C_Going (ac 1) (al<|aj (mE w) y 2<|aa (jq (ak<|ai bG (ai au (aV w.C_Going (ac 1) "numbers")<|ai au (ac 2) ¬1) ¬0) (ai au (ac 2) ¬3)<|ai au (ac 2) ¬2)<|aa (aV w.C_Going (ac 1) "todo") af) "todo"
def qe(w:Ad)(y:DX):aA:=aC (ak<|ai f_ (ai au (aV w.C_Going (ac 1) "numbers")<|ai au (ac 2) ¬1) ¬0) (cC w.C_Going (ac 1) (al<|aj (mE w) y 2<|aa (ai au (ac 2) ¬2)<|aa (aP<|aa (ac 2)<|aa (aV w.C_Going (ac 1) "todo") af) af) "todo") aw
def qj(w:Ad)(y:DX):aA:=bq (DF (aV w.C_Going (ac 1) "unsettled") (ai au (ac 2) ¬1)<|dC .non)
def gE(w:Ad)(y:DX):aA:=ah (ao (al<|aj (lP w) y 4<|aa (ac 0)<|aa (aV w.C_Going (ac 1) "numbers")<|aa (aV w.C_Going (ac 1) "pieces")<|aa (ac 2) af)<|cO (aV w.C_Going (ac 1) "numbers")<|ai au (ac 2) ¬1) (qj w y)
def km(w:Ad)(y:DX):aA:=aC (ak<|ai bG (ai au (ac 2) ¬0) ¬"again") (qe w y) (gE w y)
def iU(w:Ad)(y:DX):aA:=aC (ak<|ai bG (ai au (ac 2) ¬0) ¬"if") (pU w y) (km w y)
def rX(w:Ad)(y:DX):aA:=ah (cC w.C_Going (ac 1) (ai au (aV w.C_Going (ac 1) "todo") ¬1) "todo") (iU w y)
noncomputable def xx(w:Ad)(y:DX):aA:=ah (pG w.C_Going (ac 1) (¬1) "left") (rX w y)
noncomputable def zj(ad:Ad):Sd:=aI ["plan","going","row"] (xx ad)
theorem Nk:zj ad [a,c,b] M Q E=xx ad (aM E) Q⁻¹ [ap a,ap c,ap b] M:=rfl
def qy(w:Ad)(y:DX):aA:=bq (aj (zj w) y 3<|aa (ac 0)<|aa (ac 1)<|aa (ac 2) af)
def qA(w:Ad)(y:DX):aA:=ah (aC (ak<|ai fh (ac 3)<|dC .non) (av<|ac 3) aw) (qy w y)
def rW(w:Ad)(y:DX):aA:=ah (ao (al<|aj (yS w) y 3<|aa (ac 0)<|aa (ac 1)<|aa (ac 2) af)<|ag 3) (qA w y)
def qz(w:Ad)(y:DX):aA:=ah (ao (ai au (aV w.C_Going (ac 1) "todo") ¬0)<|ag 2) (rW w y)
def gq(w:Ad)(y:DX):aA:=ah (aC (ak<|ai oLe (aV w.C_Going (ac 1) "left") ¬0) (av<|dC .non) aw) (qz w y)
def qt(w:Ad)(y:DX):aA:=av (jq (ak<|ai sJ (ai au (ac 0) ¬4)<|aV w.C_Going (ac 1) "unsettled") (ai au (ac 0) ¬4)<|dC .non)
noncomputable def xG(w:Ad)(y:DX):aA:=ah (h_ (ak<|ai fh (aV w.C_Going (ac 1) "todo")<|dC .non)<|gq w y) (qt w y)
noncomputable def xt(ad:Ad):Sd:=aI ["plan","going","row","asked"] (xG ad)
theorem ML:xt ad [a,b] M Q E=xG ad (aM E) Q⁻¹ [ap a,ap b,bb,bb] M:=rfl
noncomputable def xA(w:Ad)(y:DX):aA:=av (jq (ak<|ai fP (aV w.C_Going (ac 1) "todo")<|dC .non) (ai au (aV w.C_Going (ac 1) "numbers")<|ai au (ac 0) ¬4)<|dC .non)
noncomputable def xi(ad:Ad):Sd:=aI ["plan","going"] (xA ad)
theorem NO:xi ad [a,b] M Q E=xA ad (aM E) Q⁻¹ [ap a,ap b] M:=rfl
noncomputable def yH(w:Ad)(y:DX):aA:=av (aJ (bo<|al<|xJ (ac 0) (dG ¬1)<|dG ¬3) ["stand"] [2,1,0] (ag 0) de<|al<|cZ w.C_Going "settled" (zV w) oW 3 (ac 2)<|aa (ac 1)<|aa (al<|aj (jJ w) oW 3<|aa (ai au (ac 3) ¬0)<|aa (ac 0)<|aa (ac 1) af) af)
noncomputable def xE(ad:Ad):Sd:=aI ["case","going","thing"] (yH ad)
theorem Nl:xE ad [a,c,b] M Q E=yH ad (aM E) Q⁻¹ [ap a,ap c,ap b] M:=rfl
def qQ(w:Ad)(Vi:Sd)(y:DX):aA:=av (aP<|aa (¬"end")<|aa (aj (xi w) y 2<|aa (ai au (ac 0) ¬0)<|aa (ac 1) af) af)
def qB(w:Ad)(Vi:Sd)(y:DX):aA:=av (aP<|aa (¬"ask")<|aa (ac 3)<|aa (aj Vi y 3<|aa (ac 0)<|aa (ai au (ac 4) ¬0)<|aa (ac 2) af)<|aa (aj Vi y 3<|aa (ac 0)<|aa (ai au (ac 4) ¬1)<|aa (ac 2) af) af)
def qF(w:Ad)(Vi:Sd)(y:DX):aA:=ah (ao (al<|aj (xE w) y 3<|aa (ac 0)<|aa (ac 1)<|aa (ac 3) af)<|ag 4) (qB w Vi y)
def rq(w:Ad)(Vi:Sd)(y:DX):aA:=ah (bq<|cZ w.C_Ends "one_more" (Da w) y 1 (ac 2) af) (qF w Vi y)
def pO(w:Ad)(Vi:Sd)(y:DX):aA:=ah (aC (ak<|ai fP (ac 3)<|dC .non) (qQ w Vi y) aw) (rq w Vi y)
noncomputable def xu(w:Ad)(Vi:Sd)(y:DX):aA:=ah (ao (al<|aj (xt w) y 2<|aa (ai au (ac 0) ¬0)<|aa (ac 1) af)<|ag 3) (pO w Vi y)
noncomputable def Vi(ad:Ad):Nat->Sd
 |0=>λ_ _ _ _=>False
 |n+1=>aI ["case","going","ends","asked","ways"] (xu ad<|Vi ad n)
theorem MT{n:Nat}:Vi ad (n+1) [a,c,b] M Q E=xu ad (Vi ad n) (aM E) Q⁻¹ [ap a,ap c,ap b,bb,bb] M:=rfl
def rP(w:Ad)(y:DX):aA:=av (aj (Vi w 24) y 3<|aa (ac 0)<|aa (al<|aj (yX w) y 1<|aa (ac 0) af)<|aa (ac 2) af)
def qO(w:Ad)(y:DX):aA:=ah (bq<|cZ w.C_Ends "one_more" (Da w) y 1 (ac 2) af) (rP w y)
def si(w:Ad)(y:DX):aA:=ah (ao (fT w.C_Ends (Kg w) y 2<|aa (ac 1) af)<|ag 2) (qO w y)
noncomputable def zo(w:Ad)(y:DX):aA:=ah (bq<|aj (tU w) y 1<|aa (ac 0) af) (si w y)
noncomputable def yG(ad:Ad):Sd:=aI ["case","limit","ends"] (zo ad)
theorem Ml:yG ad [a,b] M Q E=zo ad (aM E) Q⁻¹ [ap a,ap b,bb] M:=rfl
noncomputable def Fg(w:Ad)(y:DX):aA:=ah (cC w.C_Outcome (ac 0) (ac 1) "verdict") (ah (cC w.C_Outcome (ac 0) (ac 2) "sound")<|cC w.C_Outcome (ac 0) (ac 3) "faulty")
noncomputable def Fs(ad:Ad):Sd:=aI ["self","verdict","sound","faulty"] (Fg ad)
theorem u_q0:Fs ad [a,e,c,b] M Q E=Fg ad (aM E) Q⁻¹ [ap a,ap e,ap c,ap b] M:=rfl
def qV(w:Ad)(y:DX):aA:=bq (nC "list" bL (ac 4)<|aa (fT w.C_Outcome (Fs w) y 4<|aa (al<|aj (yM w) y 2<|aa (ac 2)<|aa (ai au (ai au (ac 6) ¬0) ¬1) af)<|aa (ac 7)<|aa (ac 8) af) af)
def qE(w:Ad)(y:DX):aA:=bq (nC "list" bL (ac 5)<|aa (aP<|aa (ai au (ai au (ac 6) ¬0) ¬3)<|aa (ac 7)<|aa (ai Mi (ac 8)<|ac 9) af) af)
def rD(w:Ad)(y:DX):aA:=ah (bq<|nC "list" bL (ac 5)<|aa (aP<|aa (ai au (ai au (ac 6) ¬0) ¬2)<|aa (ai Mi (ac 7)<|ac 9)<|aa (ac 8) af) af) (qE w y)
def sx(w:Ad)(y:DX):aA:=ah (ao (ai au (ac 3)<|ai au (ai au (ac 6) ¬0) ¬1)<|ag 9) (rD w y)
def r9(w:Ad)(y:DX):aA:=aC (ak<|ai bG (ai au (ai au (ac 6) ¬0) ¬0) ¬"end") (qV w y) (sx w y)
def qT(w:Ad)(y:DX):aA:=ah (ao (ai au (ac 6) ¬2)<|ag 8) (r9 w y)
def qR(w:Ad)(y:DX):aA:=ah (ao (ai au (ac 6) ¬1)<|ag 7) (qT w y)
def gw(w:Ad)(y:DX):aA:=ah (ao (nC "list" AA (ac 5) af)<|ag 6) (qR w y)
def sC(w:Ad)(y:DX):aA:=ah (h_ (bI<|ac 5)<|gw w y) (av<|ac 4)
def lV(w:Ad)(y:DX):aA:=ah (ao (bp<|aa (aP<|aa (aj (yG w) y 2<|aa (ac 0)<|aa (ac 1) af)<|aa (¬0)<|aa (¬0) af) af)<|ag 5) (sC w y)
def lW(w:Ad)(y:DX):aA:=ah (ao (br g7<|aa (al<|aJ (ot<|aa (al<|aj (oh w) y 1<|aa (ac 0) af) af) ["number","thing"] [] (cU 2<|aL (ag 0)<|aL (ag 1) cL) de<|aP<|aa (ac 1)<|aa (ai KG (¬1)<|ac 0) af) af)<|ag 3) (ah (ao (bp af)<|ag 4)<|lV w y)
noncomputable def yi(w:Ad)(y:DX):aA:=ah (ao (al<|aj (tU w) y 1<|aa (ac 0) af)<|ag 2) (lW w y)
noncomputable def xH(ad:Ad):Sd:=aI ["case","limit","two","bit_of","found","waiting","here","sound","faulty","bit"] (yi ad)
theorem OV:xH ad [a,b] M Q E=yi ad (aM E) Q⁻¹ [ap a,ap b,bb,bb,bb,bb,bb,bb,bb,bb] M:=rfl
noncomputable def xm(w:Ad)(y:DX):aA:=av (aJ (cM<|aa (nC "int" kx (ac 0) af) af) ["number"] [0] (ag 0) (ak<|ai bG (ai A0 (ai JS (ac 1)<|ac 0) ¬1) ¬1)<|ac 0)
noncomputable def xV(ad:Ad):Sd:=aI ["bits"] (xm ad)
theorem Nw:xV ad [a] M Q E=xm ad (aM E) Q⁻¹ [ap a] M:=rfl
noncomputable def yP(w:Ad)(y:DX):aA:=av (aJ (bo<|al<|aj (xV w) y 1<|aa (ac 1) af) ["number"] [0] (ag 0) de<|ai au (ac 1)<|ac 0)
noncomputable def sR(ad:Ad):Sd:=aI ["things","bits"] (yP ad)
theorem NY:sR ad [a,b] M Q E=yP ad (aM E) Q⁻¹ [ap a,ap b] M:=rfl
def iP(w:Ad)(y:DX):aA:=av (aP<|aa (¬"odd")<|aa (aj (sR w) y 2<|aa (ac 4)<|aa (ac 6) af)<|aa (aj (sR w) y 2<|aa (ac 4)<|aa (ai Mi (ac 6)<|aV w.C_Outcome (ac 5) "faulty") af) af)
def dy(w:Ad)(y:DX):aA:=aC (ak<|ai bG (ai A0 (ac 6)<|aV w.C_Outcome (ac 5) "sound") ¬0) (iP w y) aw
def sD(w:Ad)(y:DX):aA:=ah (cB (bo<|al<|aJ (bo<|ac 2) ["one"] [] (ag 0) (ak<|ai f_ (aV w.C_Outcome (ac 0) "verdict") ¬"faulty")<|ac 0) (ag 5)<|cB (bo<|ac 3) (ag 6)<|dy w y) (av<|aP<|aa (¬"even") af)
def pL(w:Ad)(y:DX):aA:=ah (ao (al<|aj (oh w) y 1<|aa (ac 0) af)<|ag 4) (sD w y)
def qr(w:Ad)(y:DX):aA:=ah (bf (bJ 3<|aJ (bo<|ac 2) ["one"] [] (ag 0) (ak<|ai bG (aV w.C_Outcome (ac 0) "verdict") ¬"faulty")<|aV w.C_Outcome (ac 0) "faulty") 3) (pL w y)
noncomputable def yf(w:Ad)(y:DX):aA:=ah (ao (al<|aj (xH w) y 2<|aa (ac 0)<|aa (ac 1) af)<|ag 2) (qr w y)
noncomputable def uR(ad:Ad):Sd:=aI ["case","limit","found","causes","things","end","cause"] (yf ad)
theorem MX:uR ad [a,b] M Q E=yf ad (aM E) Q⁻¹ [ap a,ap b,bb,bb,bb,bb,bb] M:=rfl
noncomputable def xU(w:Ad)(y:DX):aA:=ah (ao (ai fO (ai ba (ai ba (ai iw (ac 0) ¬6364136223846793005)<|ai iw (ac 1) ¬1442695040888963407) ¬97) ¬18446744073709551616)<|ag 2) (ah (ao (ai fO (ai iw (ai Nh (ac 2)<|ai uu (ac 2) ¬2147483648) ¬2685821657736338717) ¬18446744073709551616)<|ag 2)<|av<|ai uu (ac 2) ¬1048576)
noncomputable def lQ(ad:Ad):Sd:=aI ["cell","turn","one"] (xU ad)
theorem OU:lQ ad [a,b] M Q E=xU ad (aM E) Q⁻¹ [ap a,ap b,bb] M:=rfl
noncomputable def ya(w:Ad)(y:DX):aA:=ah (ao (¬7)<|ag 1) (ah (cB (bo<|al<|xJ (ac 0) b_<|dG ¬63) (ag 2)<|ao (ai fO (ai ba (ai iw (ac 1) ¬1000003)<|ac 2) ¬18446744073709551616)<|ag 1)<|av<|bp<|aa (br fk<|aa (al<|xJ (ac 0) b_<|dG ¬63) af)<|aa (¬0)<|aa (¬0)<|aa (ac 1) af)
noncomputable def xR(ad:Ad):Sd:=aI ["script","seed","cell"] (ya ad)
theorem Mp:xR ad [a] M Q E=ya ad (aM E) Q⁻¹ [ap a,bb,bb] M:=rfl
noncomputable def yT(w:Ad)(y:DX):aA:=ah (ao (ai ba (ai au (ac 0) ¬1) ¬1)<|cO (ac 0) ¬1) (ah (aC (nK (ak<|ai bG (ai au (ac 0) ¬2) ¬0)<|ak<|ai f_ (ai au (ac 0) ¬0)<|al<|bp af) (ah (ao (nC "list" AA (ai au (ac 0) ¬0)<|aa (¬0) af)<|ag 2)<|ah (aC (ak<|ai y6 (ac 2)<|ai IV (¬10) ¬18) (av<|ai fO (al<|aj (lQ w) y 2<|aa (ac 2)<|aa (ai au (ac 0) ¬1) af)<|ac 1) aw)<|ao (ac 2)<|cO (ac 0) ¬2) aw)<|ah (aC (ak<|ai bG (ai au (ac 0) ¬2) ¬0) (av<|ai fO (al<|aj (lQ w) y 2<|aa (ai au (ac 0) ¬3)<|aa (ai au (ac 0) ¬1) af)<|ac 1) aw)<|ah (ao (ai fO (ai au (ac 0) ¬2)<|ac 1)<|ag 3)<|ah (ao (ai uu (ai au (ac 0) ¬2)<|ac 1)<|cO (ac 0) ¬2)<|av<|ac 3)
noncomputable def a_(ad:Ad):Sd:=aI ["pot","many","cell","found"] (yT ad)
theorem Oh:a_ ad [a,b] M Q E=yT ad (aM E) Q⁻¹ [ap a,ap b,bb,bb] M:=rfl
noncomputable def xp(w:Ad)(y:DX):aA:=ah (ao (al<|aj (a_ w) y 2<|aa (ac 0)<|aa (¬26) af)<|ag 2) (ah (ao (bp af)<|ag 3)<|ah (cB (cM<|aa (ac 1) af) (ag 4)<|ah (ao (ai au (¬"abcdefghijklmnopqrstuvwxyz")<|ai fO (ai ba (ac 2)<|ai iw (¬7)<|ac 4) ¬26)<|ag 5)<|bq<|nC "list" bL (ac 3)<|aa (ai iw (ac 5)<|ai ba (¬1)<|al<|aj (a_ w) y 2<|aa (ac 0)<|aa (¬8) af) af)<|av<|br bA<|aa (ac 3) af)
noncomputable def zB(ad:Ad):Sd:=aI ["pot","many","turn","names","k","sign"] (xp ad)
theorem Ni:zB ad [a,b] M Q E=xp ad (aM E) Q⁻¹ [ap a,ap b,bb,bb,bb,bb] M:=rfl
noncomputable def ye(w:Ad)(y:DX):aA:=ah (ao (ac 1)<|cU 3<|aL (ag 2)<|aL (ag 3)<|aL (ag 4) cL) (ah (ao (al<|bp<|aa (¬"put")<|aa (¬"sum")<|aa (¬"by")<|aa (¬"less")<|aa (¬"same")<|aa (¬"sum")<|aa (¬"put")<|aa (¬"take")<|aa (¬"pick") af)<|ag 5)<|ah (ao (ai au (ac 5)<|al<|aj (a_ w) y 2<|aa (ac 0)<|aa (jq (ak<|ai E5 (ac 4) ¬0) (¬9) ¬7) af)<|ag 6)<|ah (ao (ai au (ac 3)<|al<|aj (a_ w) y 2<|aa (ac 0)<|aa (br bY<|aa (ac 3) af) af)<|ag 7)<|ah (aC (ak<|ai bG (ac 6) ¬"put") (av<|aP<|aa (ac 6)<|aa (ac 7)<|aa (aj (a_ w) y 2<|aa (ac 0)<|aa (ac 2) af) af) aw)<|ah (aC (ak<|ai bG (ac 6) ¬"take") (av<|aP<|aa (ac 6)<|aa (ac 7)<|aa (aj (a_ w) y 2<|aa (ac 0)<|aa (ac 4) af) af) aw)<|ah (ao (ai au (ac 3)<|al<|aj (a_ w) y 2<|aa (ac 0)<|aa (br bY<|aa (ac 3) af) af)<|ag 8)<|ah (aC (ak<|ai bG (ac 6) ¬"pick") (av<|aP<|aa (ac 6)<|aa (ac 7)<|aa (ac 8) af) aw)<|av<|aP<|aa (ac 6)<|aa (ac 7)<|aa (ac 8)<|aa (ai au (ac 3)<|al<|aj (a_ w) y 2<|aa (ac 0)<|aa (br bY<|aa (ac 3) af) af) af)
noncomputable def sX(ad:Ad):Sd:=aI ["pot","told","m","names","many","ways","way","x","y"] (ye ad)
theorem Ox:sX ad [a,b] M Q E=ye ad (aM E) Q⁻¹ [ap a,ap b,bb,bb,bb,bb,bb,bb,bb] M:=rfl
noncomputable def zy(w:Ad)(Vn Vm:Sd)(y:DX):aA:=ah (ao (ac 1)<|cU 3<|aL (ag 4)<|aL (ag 5)<|aL (ag 6) cL) (ah (ao (ai au (ac 5)<|al<|aj (a_ w) y 2<|aa (ac 0)<|aa (br bY<|aa (ac 5) af) af)<|ag 7)<|ah (ao (al<|aj Vm y 5<|aa (ac 0)<|aa (ac 1)<|aa (ac 2)<|aa (ai ba (ac 3) ¬1)<|aa (¬5) af)<|ag 8)<|ah (ao (al<|aj (a_ w) y 2<|aa (ac 0)<|aa (¬5) af)<|ag 9)<|ah (aC (ak<|ai y6 (ac 9) ¬2) (av<|bp<|aa (aP<|aa (¬"if")<|aa (ac 7)<|aa (ac 8)<|aa (aj Vm y 5<|aa (ac 0)<|aa (ac 1)<|aa (ac 2)<|aa (ai ba (ac 3) ¬1)<|aa (¬5) af) af) af) aw)<|ah (aC (ak<|ai bG (ac 9) ¬2) (av<|bp<|aa (aP<|aa (¬"again")<|aa (ac 7)<|aa (ac 8) af) af) aw)<|ah (ao (ai au (ac 5)<|al<|aj (a_ w) y 2<|aa (ac 0)<|aa (br bY<|aa (ac 5) af) af)<|ag 10)<|av<|bp<|aa (aP<|aa (¬"put")<|aa (ac 7)<|aa (aj (a_ w) y 2<|aa (ac 0)<|aa (br CJ<|aa (ac 4)<|aa (¬9) af) af) af)<|aa (aP<|aa (¬"put")<|aa (ac 10)<|aa (ai jX (ac 4) ¬1) af)<|aa (aP<|aa (¬"again")<|aa (ac 7)<|aa (ai ba (ac 8)<|aP<|aa (aP<|aa (¬"sum")<|aa (ac 7)<|aa (ac 7)<|aa (ac 10) af) af) af) af)
noncomputable def yo(w:Ad)(Vn Vm:Sd)(y:DX):aA:=ah (ao (bp af)<|ag 5) (ah (cB (cM<|aa (al<|aj (a_ w) y 2<|aa (ac 0)<|aa (ac 4) af) af) (ag 6)<|aC (nK (ak<|ai E5 (ai au (ac 2) ¬0) ¬4)<|nK (ak<|ai y6 (ac 3) ¬4)<|ak<|ai bG (al<|aj (a_ w) y 2<|aa (ac 0)<|aa (¬4) af) ¬0) (ah (ao (ai jX (ai au (ac 2) ¬0) ¬4)<|cO (ac 2) ¬0)<|ao (ai ba (ac 5)<|al<|aj Vn y 4<|aa (ac 0)<|aa (ac 1)<|aa (ac 2)<|aa (ac 3) af)<|ag 5)<|aC (ak<|ai E5 (ai au (ac 2) ¬0) ¬0) (ah (ao (ai jX (ai au (ac 2) ¬0) ¬1)<|cO (ac 2) ¬0)<|bq<|nC "list" bL (ac 5)<|aa (al<|aj (sX w) y 2<|aa (ac 0)<|aa (ac 1) af) af) aw)<|av<|br bA<|aa (ac 5) af)
mutual
noncomputable def Vn(ad:Ad):Nat->Sd
 |0=>λ_ _ _ _=>False
 |n+1=>aI ["pot","told","room","deep","m","names","many","x","first","way","y"] (zy ad (Vn ad n)<|Vm ad n)
noncomputable def Vm(ad:Ad):Nat->Sd
 |0=>λ_ _ _ _=>False
 |n+1=>aI ["pot","told","room","deep","most","rows","k"] (yo ad (Vn ad n)<|Vm ad n)
end
theorem Ot{n:Nat}:Vn ad (n+1) [a,e,c,b] M Q E=zy ad (Vn ad n) (Vm ad n) (aM E) Q⁻¹ [ap a,ap e,ap c,ap b,bb,bb,bb,bb,bb,bb,bb] M:=rfl
theorem NG{n:Nat}:Vm ad (n+1) [b,c,f,e,a] M Q E=yo ad (Vn ad n) (Vm ad n) (aM E) Q⁻¹ [ap b,ap c,ap f,ap e,ap a,bb,bb] M:=rfl
noncomputable def zf(w:Ad)(y:DX):aA:=ah (ao (ai au (al<|bp<|aa (¬2)<|aa (¬3)<|aa (ai ba (¬2)<|al<|aj (a_ w) y 2<|aa (ac 0)<|aa (¬9) af)<|aa (ai ba (¬2)<|al<|aj (a_ w) y 2<|aa (ac 0)<|aa (¬996) af) af)<|al<|aj (a_ w) y 2<|aa (ac 0)<|aa (¬4) af)<|ag 2) (ah (ao (al<|aj (zB w) y 2<|aa (ac 0)<|aa (ai ba (¬1)<|al<|aj (a_ w) y 2<|aa (ac 0)<|aa (ai au (al<|bp<|aa (¬3)<|aa (¬5)<|aa (¬12) af)<|al<|aj (a_ w) y 2<|aa (ac 0)<|aa (¬3) af) af) af)<|ag 3)<|ah (ao (ai au (al<|bp<|aa (¬0)<|aa (ai ba (¬1)<|al<|aj (a_ w) y 2<|aa (ac 0)<|aa (¬4) af)<|aa (al<|aj (a_ w) y 2<|aa (ac 0)<|aa (¬41) af) af)<|al<|aj (a_ w) y 2<|aa (ac 0)<|aa (¬3) af)<|ag 4)<|ah (ao (al<|aj (Vm w 24) y 5<|aa (ac 0)<|aa (aP<|aa (ac 2)<|aa (ac 3)<|aa (ac 4) af)<|aa (bp<|aa (ac 1) af)<|aa (¬0)<|aa (ai au (al<|bp<|aa (¬6)<|aa (¬12)<|aa (¬30) af)<|al<|aj (a_ w) y 2<|aa (ac 0)<|aa (¬3) af) af)<|ag 5)<|av<|aP<|aa (ac 2)<|aa (ac 3)<|aa (ac 4)<|aa (ac 5)<|aa (ai au (ac 3)<|al<|aj (a_ w) y 2<|aa (ac 0)<|aa (br bY<|aa (ac 3) af) af) af)
noncomputable def yW(ad:Ad):Sd:=aI ["pot","most","m","names","many","rows"] (zf ad)
theorem NF:yW ad [a,b] M Q E=zf ad (aM E) Q⁻¹ [ap a,ap b,bb,bb,bb,bb] M:=rfl
noncomputable def yC(w:Ad)(y:DX):aA:=ah (ao (br bA<|aa (al<|aJ (bo<|ai au (ac 1) ¬1) ["name"] [0,1] (ag 0) de<|al<|aj (a_ w) oW 2<|aa (ac 1)<|aa (ai au (ac 2) ¬0) af) af)<|ag 2) (av<|aP<|aa (ac 2)<|aa (br bA<|aa (al<|aJ (cM<|aa (ai au (ac 1) ¬2) af) ["k"] [0,1] (ag 0) de<|al<|aj (a_ w) oW 2<|aa (ac 1)<|aa (ai au (ac 2) ¬0) af) af) af)
noncomputable def y_(ad:Ad):Sd:=aI ["pot","plan","numbers"] (yC ad)
theorem Np:y_ ad [a,b] M Q E=yC ad (aM E) Q⁻¹ [ap a,ap b,bb] M:=rfl
noncomputable def wE(w:Ad)(y:DX):aA:=ah (ao (ac 0)<|wB 5<|aL (ag 2)<|aL (ag 3)<|aL (ag 4)<|aL (ag 5)<|aL (ag 6) cL) (ah (aC (ak<|ai bG (ai au (ac 1) ¬0) ¬"put") (av<|ai au (ac 1) ¬2) aw)<|ah (aC (ak<|ai bG (ai au (ac 1) ¬0) ¬"take") (av<|ai au (ac 3)<|ai au (ac 1) ¬2) aw)<|ah (aC (ak<|ai bG (ai au (ac 1) ¬0) ¬"pick") (av<|ai au (ac 3)<|ai fO (ai au (ac 2)<|ai au (ac 1) ¬2)<|br bY<|aa (ac 3) af) aw)<|ah (ao (ai au (ac 2)<|ai au (ac 1) ¬2)<|ag 7)<|ah (ao (ai au (ac 2)<|ai au (ac 1) ¬3)<|ag 8)<|ah (aC (ak<|ai bG (ai au (ac 1) ¬0) ¬"sum") (av<|ai fO (al<|ai ba (ac 7)<|ac 8)<|ac 6) aw)<|ah (aC (ak<|ai bG (ai au (ac 1) ¬0) ¬"by") (av<|ai fO (ai iw (ac 7)<|ac 8)<|ac 6) aw)<|ah (aC (ak<|ai bG (ai au (ac 1) ¬0) ¬"less") (av<|jq (ak<|ai y6 (ac 7)<|ac 8) (¬1) ¬0) aw)<|av<|jq (ak<|ai bG (ac 7)<|ac 8) (¬1) ¬0)
noncomputable def DH(ad:Ad):Sd:=aI ["gone","row","numbers","pieces","steps","most","m","one","other"] (wE ad)
theorem F4:DH ad [a,b] M Q E=wE ad (aM E) Q⁻¹ [ap a,ap b,bb,bb,bb,bb,bb,bb,bb] M:=rfl
noncomputable def z8(w:Ad)(y:DX):aA:=ah (aC (ak<|ai bG (br bY<|aa (ai au (ac 0) ¬2) af)<|ai au (ac 0) ¬3) (av<|dC<|.bl cm) aw) (ah (bq<|nC "list" bL (ai au (ac 0) ¬2)<|aa (aP<|aa (ac 1)<|aa (ac 2) af) af)<|av<|dC<|.bl true)
noncomputable def jO(ad:Ad):Sd:=aI ["gone","place","number"] (z8 ad)
theorem OF:jO ad [a,c,b] M Q E=z8 ad (aM E) Q⁻¹ [ap a,ap c,ap b] M:=rfl
def qN(w:Ad)(Vg Vf:Sd)(y:DX):aA:=aC (dX<|bI<|al<|aj Vf y 3<|aa (ac 0)<|aa (ai au (ac 1) ¬2)<|aa (ai ba (ac 2)<|aP<|aa (ac 3) af) af) (av<|dC<|.bl cm) aw
def pz(w:Ad)(Vg Vf:Sd)(y:DX):aA:=ah (aC (ak<|ai bG (ac 4) ¬0) (av<|dC<|.bl true) aw) (qN w Vg Vf y)
def pw(w:Ad)(Vg Vf:Sd)(y:DX):aA:=ah (aC (dX<|bI<|al<|aj (jO w) y 3<|aa (ac 0)<|aa (ai ba (ac 2)<|aP<|aa (ac 3) af)<|aa (ac 4) af) (av<|dC<|.bl cm) aw) (pz w Vg Vf y)
def iI(w:Ad)(Vg Vf:Sd)(y:DX):aA:=ah (ao (jq (ak<|ai bG (ai au (ai au (ac 0) ¬0)<|ai au (ac 1) ¬1) ¬0) (¬0) ¬1)<|ag 4) (pw w Vg Vf y)
noncomputable def yq(w:Ad)(Vg Vf:Sd)(y:DX):aA:=ah (cB (cM<|aa (ai ba (ai au (ac 0) ¬3) ¬1) af) (ag 3)<|iI w Vg Vf y) (av<|dC<|.bl cm)
def qJ(w:Ad)(Vg Vf:Sd)(y:DX):aA:=aC (dX<|bI<|al<|aj Vg y 3<|aa (ac 0)<|aa (ac 4)<|aa (ac 5) af) (av<|dC<|.bl cm) aw
def ra(w:Ad)(Vg Vf:Sd)(y:DX):aA:=aC (Al (dX<|bI<|al<|aj (jO w) y 3<|aa (ac 0)<|aa (ac 5)<|aa (ac 6) af)<|dX<|bI<|al<|aj Vf y 3<|aa (ac 0)<|aa (ac 7)<|aa (ai ba (ac 5)<|aP<|aa (ac 6) af) af) (av<|dC<|.bl cm) aw
def qv(w:Ad)(Vg Vf:Sd)(y:DX):aA:=ah (ao (ai au (al<|bp<|aa (ai au (ac 4) ¬3)<|aa (ai au (ac 4) ¬2) af)<|ac 6)<|ag 7) (ra w Vg Vf y)
def kH(w:Ad)(Vg Vf:Sd)(y:DX):aA:=ah (ao (jq (ak<|ai bG (ai au (ai au (ac 0) ¬0)<|ai au (ac 4) ¬1) ¬0) (¬0) ¬1)<|ag 6) (qv w Vg Vf y)
def pP(w:Ad)(Vg Vf:Sd)(y:DX):aA:=ao (ac 8) (cO (ai au (ac 0) ¬0)<|ai au (ac 4) ¬1)
def kP(w:Ad)(Vg Vf:Sd)(y:DX):aA:=ah (aC (dX<|bI<|al<|aj (jO w) y 3<|aa (ac 0)<|aa (ac 5)<|aa (ac 8) af) (av<|dC<|.bl cm) aw) (pP w Vg Vf y)
def kZ(w:Ad)(Vg Vf:Sd)(y:DX):aA:=ah (ao (al<|aj (DH w) y 2<|aa (ac 0)<|aa (ac 4) af)<|ag 8) (kP w Vg Vf y)
def kG(w:Ad)(Vg Vf:Sd)(y:DX):aA:=aC (ak<|ai bG (ai au (ac 4) ¬0) ¬"if") (kH w Vg Vf y) (kZ w Vg Vf y)
def sh(w:Ad)(Vg Vf:Sd)(y:DX):aA:=aC (ak<|ai bG (ai au (ac 4) ¬0) ¬"again") (qJ w Vg Vf y) (kG w Vg Vf y)
def m3(w:Ad)(Vg Vf:Sd)(y:DX):aA:=ah (ao (ai ba (ac 2)<|aP<|aa (ac 3) af)<|ag 5) (sh w Vg Vf y)
noncomputable def xS(w:Ad)(Vg Vf:Sd)(y:DX):aA:=ah (cB (ot<|aa (ac 1) af) (cU 2<|aL (ag 3)<|aL (ag 4) cL)<|m3 w Vg Vf y) (av<|dC<|.bl true)
mutual
noncomputable def Vg(ad:Ad):Nat->Sd
 |0=>λ_ _ _ _=>False
 |n+1=>aI ["gone","row","place","turn","look"] (yq ad (Vg ad n)<|Vf ad n)
noncomputable def Vf(ad:Ad):Nat->Sd
 |0=>λ_ _ _ _=>False
 |n+1=>aI ["gone","rows","place","at","row","here","look","inner","number"] (xS ad (Vg ad n)<|Vf ad n)
end
theorem MG{n:Nat}:Vg ad (n+1) [a,c,b] M Q E=yq ad (Vg ad n) (Vf ad n) (aM E) Q⁻¹ [ap a,ap c,ap b,bb,bb] M:=rfl
theorem On{n:Nat}:Vf ad (n+1) [a,c,b] M Q E=xS ad (Vg ad n) (Vf ad n) (aM E) Q⁻¹ [ap a,ap c,ap b,bb,bb,bb,bb,bb,bb] M:=rfl
noncomputable def xW(w:Ad)(y:DX):aA:=ah (ao (bp<|aa (gk<|aa (ai au (ac 0) ¬1)<|aa (ai au (ac 1) ¬0) af)<|aa (ai au (ac 1) ¬1)<|aa (bp af)<|aa (ac 2)<|aa (ai au (ac 0) ¬0) af)<|ag 3) (ah (aC (dX<|bI<|al<|aj (Vf w 24) y 3<|aa (ac 3)<|aa (ai au (ac 0) ¬3)<|aa (aP af) af) (av<|aP<|aa (ai au (ac 3) ¬2)<|aa (dC .non) af) aw)<|av<|aP<|aa (ai au (ac 3) ¬2)<|aa (br bA<|aa (al<|aJ (bo<|ai au (ac 0) ¬1) ["name"] [3] (ag 0) de<|ai au (ai au (ac 1) ¬0)<|ac 0) af) af)
noncomputable def jL(ad:Ad):Sd:=aI ["plan","stand","most","gone"] (xW ad)
theorem OA:jL ad [a,c,b] M Q E=xW ad (aM E) Q⁻¹ [ap a,ap c,ap b,bb] M:=rfl
noncomputable def y1(w:Ad)(y:DX):aA:=av (br bA<|aa (al<|aJ (bo<|ac 0) ["row"] [] (ag 0) (ak<|ai lg (ai au (ac 0) ¬0)<|al<|bp<|aa (¬"if")<|aa (¬"again") af)<|ac 0) af)
noncomputable def tK(ad:Ad):Sd:=aI ["rows"] (y1 ad)
theorem N8:tK ad [a] M Q E=y1 ad (aM E) Q⁻¹ [ap a] M:=rfl
def kR(w:Ad)(y:DX):aA:=av (aP<|aa (ai au (ai au (ac 4) ¬0)<|ac 5)<|aa (ai au (ai au (ac 4) ¬1)<|ac 5) af)
def kA(w:Ad)(y:DX):aA:=ah (ao (E9 hZ (ai au (ac 0) ¬1)<|aa (ai au (ac 0) ¬4) af)<|ag 5) (kR w y)
def ki(w:Ad)(y:DX):aA:=ah (aC (ak<|ai sJ (dC .non)<|ac 4) (av<|dC .non) aw) (kA w y)
noncomputable def z5(w:Ad)(y:DX):aA:=ah (bf (bJ 4<|aJ (bo<|al<|bp<|aa (ac 1)<|aa (ac 2) af) ["stand"] [0,3] (ag 0) de<|ai au (fK<|aj (jL w) oW 3<|aa (ac 1)<|aa (ac 0)<|aa (ac 2) af) ¬1) 4) (ki w y)
noncomputable def mw(ad:Ad):Sd:=aI ["plan","sound","faulty","most","last","at"] (z5 ad)
theorem Ow:mw ad [a,e,c,b] M Q E=z5 ad (aM E) Q⁻¹ [ap a,ap e,ap c,ap b,bb,bb] M:=rfl
noncomputable def xq(w:Ad)(y:DX):aA:=av (ai fO (al<|ai ba (ai ba (ac 2) ¬1)<|al<|aj (a_ w) y 2<|aa (ac 0)<|aa (ai jX (ac 1) ¬1) af)<|ac 1)
noncomputable def nA(ad:Ad):Sd:=aI ["pot","m","number"] (xq ad)
theorem Oa:nA ad [a,c,b] M Q E=xq ad (aM E) Q⁻¹ [ap a,ap c,ap b] M:=rfl
def kE(w:Ad)(y:DX):aA:=ao (ai ba (al<|xJ (ac 0) b_<|dG ¬3)<|aP<|aa (ai ba (ac 5)<|aP<|aa (ac 7) af)<|aa (ai au (ac 0) ¬4) af) (ag 0)
def kT(w:Ad)(y:DX):aA:=ah (ao (aP<|aa (¬"sum")<|aa (ai au (ac 0) ¬4)<|aa (ai au (ac 0) ¬4)<|aa (ac 4) af)<|ag 7) (kE w y)
def kt(w:Ad)(y:DX):aA:=ah (aC (ak<|ai bG (ai au (ac 6) ¬0)<|ai au (ac 6) ¬1) (kT w y) aw) (av<|ac 0)
def k6(w:Ad)(y:DX):aA:=ah (ao (al<|aj (mw w) y 4<|aa (ac 0)<|aa (ac 1)<|aa (ac 2)<|aa (ac 3) af)<|ag 6) (kt w y)
def ko(w:Ad)(y:DX):aA:=ah (ao (ai ba (al<|xJ (ac 0) b_<|dG ¬3)<|aP<|aa (ac 5)<|aa (ai au (ac 0) ¬4) af)<|ag 0) (k6 w y)
noncomputable def xK(w:Ad)(y:DX):aA:=ah (ao (br bA<|aa (al<|aJ (bo<|al<|aj (tK w) y 1<|aa (ai au (ac 0) ¬3) af) ["row"] [4] (ag 0) (ak<|ai f_ (ai au (ac 0) ¬1)<|ac 1)<|ac 0) af)<|ag 5) (ko w y)
noncomputable def y2(ad:Ad):Sd:=aI ["plan","sound","faulty","most","name","rows","both","more"] (xK ad)
theorem NB:y2 ad [b,c,f,e,a] M Q E=xK ad (aM E) Q⁻¹ [ap b,ap c,ap f,ap e,ap a,bb,bb,bb] M:=rfl
def qx(w:Ad)(y:DX):aA:=ao (aP<|aa (aP<|aa (¬"take")<|aa (ai au (ac 2) ¬0)<|aa (¬0) af)<|aa (aP<|aa (¬"sum")<|aa (ai au (ac 0) ¬4)<|aa (ai au (ac 0) ¬4)<|aa (ai au (ac 2) ¬0) af) af) (ag 1)
def ma(w:Ad)(y:DX):aA:=av (ai ba (al<|xJ (ac 0) b_<|dG ¬3)<|aP<|aa (al<|ai ba (ai au (ac 0) ¬3)<|ac 1)<|aa (ai au (ac 0) ¬4) af)
def rf(w:Ad)(y:DX):aA:=ah (aC (ak<|ai f_ (ac 2)<|al<|bp af) (qx w y) aw) (ma w y)
def qI(w:Ad)(y:DX):aA:=ah (bf (bJ 2<|aJ (bo<|ai au (ac 0) ¬1) ["one"] [0] (ag 0) (ak<|ai f_ (ac 0)<|ai au (ac 1) ¬4)<|ac 0) 2) (rf w y)
noncomputable def GG(w:Ad)(y:DX):aA:=ah (ao (aP<|aa (aP<|aa (¬"take")<|aa (ai au (ac 0) ¬4)<|aa (¬0) af) af)<|ag 1) (qI w y)
noncomputable def Fc(ad:Ad):Sd:=aI ["plan","more","rest"] (GG ad)
theorem u_q6:Fc ad [a] M Q E=GG ad (aM E) Q⁻¹ [ap a,bb,bb] M:=rfl
def qp(w:Ad)(y:DX):aA:=ao (al<|aj (nA w) y 3<|aa (ac 0)<|aa (ai au (ac 3) ¬0)<|aa (ai au (ac 5)<|ac 7) af) (cO (ac 5)<|ac 7)
def qY(w:Ad)(y:DX):aA:=ao (al<|ai ba (ac 8)<|br CJ<|aa (br bY<|aa (ac 6) af)<|aa (ai iw (¬2)<|ac 2) af) (ag 8)
def pJ(w:Ad)(y:DX):aA:=ah (ao (al<|aj (nA w) y 3<|aa (ac 0)<|aa (ai au (ac 3) ¬0)<|aa (ai au (ac 6) ¬0) af)<|cO (ac 6) ¬0) (qY w y)
def rV(w:Ad)(y:DX):aA:=ao (al<|aj (nA w) y 3<|aa (ac 0)<|aa (ai au (ac 3) ¬0)<|aa (ai au (ai au (ac 4) ¬0)<|ac 10) af) (cO (ac 5)<|ac 10)
def pV(w:Ad)(y:DX):aA:=ao (al<|aj (nA w) y 3<|aa (ac 0)<|aa (ai au (ac 3) ¬0)<|aa (ai au (ai au (ac 4) ¬1)<|ac 10) af) (cO (ac 6)<|ac 10)
def pH(w:Ad)(y:DX):aA:=ah (ao (ai jX (ac 10)<|br bY<|aa (ac 5) af)<|ag 10) (pV w y)
def rG(w:Ad)(y:DX):aA:=aC (ak<|ai y6 (ac 10)<|br bY<|aa (ac 5) af) (rV w y) (pH w y)
def kI(w:Ad)(y:DX):aA:=ah (ao (al<|aj (a_ w) y 2<|aa (ac 0)<|aa (ac 8) af)<|ag 10) (rG w y)
def qc(w:Ad)(y:DX):aA:=ao (ai ba (al<|xJ (ac 3) b_<|dG ¬3)<|aP<|aa (al<|aj (tK w) y 1<|aa (ai au (ac 3) ¬3) af)<|aa (ai au (ac 3) ¬4) af) (ag 3)
def mz(w:Ad)(y:DX):aA:=ao (al<|aj (y2 w) y 5<|aa (ac 3)<|aa (ac 4)<|aa (ac 11)<|aa (ac 12)<|aa (ai au (ai au (ac 3) ¬1)<|ac 7) af) (ag 3)
def ms(w:Ad)(y:DX):aA:=ao (al<|aj (Fc w) y 1<|aa (ac 3) af) (ag 3)
def iY(w:Ad)(y:DX):aA:=aC (ak<|ai y6 (ac 7)<|br bY<|aa (ac 5) af) (mz w y) (ms w y)
def ik(w:Ad)(y:DX):aA:=av (aP<|aa (ac 3)<|aa (ac 4)<|aa (ac 11)<|aa (ac 12) af)
def mF(w:Ad)(y:DX):aA:=ah (aC (ak<|ai bG (ai au (ac 13) ¬0)<|ai au (ac 13) ¬1) (iY w y) aw) (ik w y)
def iO(w:Ad)(y:DX):aA:=ah (ao (al<|aj (mw w) y 4<|aa (ac 3)<|aa (ac 4)<|aa (ac 11)<|aa (ac 12) af)<|ag 13) (mF w y)
def iD(w:Ad)(y:DX):aA:=ah (aC (ak<|ai fP (al<|aj (mw w) y 4<|aa (ac 3)<|aa (ac 4)<|aa (ac 11)<|aa (ai jX (ac 12) ¬4) af)<|dC .non) (qc w y) aw) (iO w y)
def mD(w:Ad)(y:DX):aA:=ah (ao (ai ba (¬30)<|al<|aj (a_ w) y 2<|aa (ac 0)<|aa (¬20) af)<|ag 12) (iD w y)
def lE(w:Ad)(y:DX):aA:=ah (ao (aP<|aa (br bA<|aa (ac 5) af)<|aa (br bA<|aa (ac 6) af) af)<|ag 11) (mD w y)
def iV(w:Ad)(y:DX):aA:=ah (cB (cM<|aa (ai jX (ac 2) ¬1) af) (ag 9)<|kI w y) (lE w y)
def nD(w:Ad)(y:DX):aA:=ah (aC (ak<|ai y6 (ac 7)<|br bY<|aa (ac 5) af) (qp w y)<|pJ w y) (iV w y)
def mh(w:Ad)(y:DX):aA:=ah (ao (br bY<|aa (ac 5) af)<|ag 8) (nD w y)
def ng(w:Ad)(y:DX):aA:=ah (ao (al<|aj (a_ w) y 2<|aa (ac 0)<|aa (ai iw (¬4)<|br bY<|aa (ac 5) af) af)<|ag 7) (mh w y)
def me(w:Ad)(y:DX):aA:=ah (ao (br fk<|aa (ai au (ac 4) ¬1) af)<|ag 6) (ng w y)
def lj(w:Ad)(y:DX):aA:=ah (ao (br fk<|aa (ai au (ac 4) ¬0) af)<|ag 5) (me w y)
def m9(w:Ad)(y:DX):aA:=ah (ao (al<|aj (y_ w) y 2<|aa (ac 0)<|aa (ac 3) af)<|ag 4) (lj w y)
def mP(w:Ad)(y:DX):aA:=ah (ao (al<|ai ba (ai ba (al<|xJ (ac 3) b_<|dG ¬2)<|aP<|aa (br EJ<|aa (¬1)<|aa (ai au (ac 3) ¬2) af) af)<|al<|xJ (ac 3) (dG ¬3) b_)<|ag 3) (m9 w y)
noncomputable def xT(w:Ad)(y:DX):aA:=ah (ao (al<|aj (yW w) y 2<|aa (ac 0)<|aa (ac 1) af)<|ag 3) (mP w y)
noncomputable def zA(ad:Ad):Sd:=aI ["pot","most_rows","few","plan","sound","numbers","pieces","first","some","k","at","faulty","most","both"] (xT ad)
theorem MY:zA ad [a,c,b] M Q E=xT ad (aM E) Q⁻¹ [ap a,ap c,ap b,bb,bb,bb,bb,bb,bb,bb,bb,bb,bb,bb] M:=rfl
def rl(w:Ad)(y:DX):aA:=av (ai ba (ac 5)<|al<|aJ (cM<|aa (ai au (ac 1) ¬2) af) ["k"] [2,3] (ag 0) (ak<|ai f_ (ai au (ai au (ac 1) ¬1)<|ac 0)<|ai au (ai au (ac 2) ¬1)<|ac 0)<|ac 0)
def q_(w:Ad)(y:DX):aA:=ah (bf (bJ 5<|aJ (t7<|aa (ai au (ac 1) ¬1)<|aa (ai au (ac 2) ¬0)<|aa (ai au (ac 3) ¬0) af) ["name","one","other"] [] (cU 3<|aL (ag 0)<|aL (ag 1)<|aL (ag 2) cL) (ak<|ai f_ (ac 1)<|ac 2)<|ac 0) 5) (rl w y)
noncomputable def xh(w:Ad)(y:DX):aA:=ah (ao (ac 0)<|cU 4<|aL (ag 1)<|aL (ag 2)<|aL (ag 3)<|aL (ag 4) cL) (q_ w y)
noncomputable def sZ(ad:Ad):Sd:=aI ["case","plan","sound","faulty","most","found"] (xh ad)
theorem Ov:sZ ad [a] M Q E=xh ad (aM E) Q⁻¹ [ap a,bb,bb,bb,bb,bb] M:=rfl
def gn(w:Ad)(y:DX):aA:=bq (nC "list" bL (ac 6)<|aa (jq (ak<|ai sJ (ac 7)<|ac 1) (ac 9)<|ac 8) af)
def sF(w:Ad)(y:DX):aA:=av (aP<|aa (br bA<|aa (ac 6) af)<|aa (br bA<|aa (ac 10) af) af)
def qD(w:Ad)(y:DX):aA:=ah (bf (bJ 10<|aJ (cM<|aa (ai au (ac 2) ¬2) af) ["k"] [3,1,4] (ag 0) de<|jq (ak<|ai sJ (ac 0)<|ac 2) (ai au (ai au (ac 3) ¬1)<|ac 0)<|ai au (ai au (ac 1) ¬1)<|ac 0) 10) (sF w y)
def rT(w:Ad)(y:DX):aA:=ah (cB (t7<|aa (ai au (ac 2) ¬1)<|aa (ai au (ac 3) ¬0)<|aa (ai au (ac 4) ¬0) af) (cU 3<|aL (ag 7)<|aL (ag 8)<|aL (ag 9) cL)<|gn w y) (qD w y)
noncomputable def xO(w:Ad)(y:DX):aA:=ah (ao (ac 0)<|cU 4<|aL (ag 2)<|aL (ag 3)<|aL (ag 4)<|aL (ag 5) cL) (ah (ao (bp af)<|ag 6)<|rT w y)
noncomputable def yQ(ad:Ad):Sd:=aI ["case","mix","plan","sound","faulty","most","numbers","name","one","other","pieces"] (xO ad)
theorem OC:yQ ad [a,b] M Q E=xO ad (aM E) Q⁻¹ [ap a,ap b,bb,bb,bb,bb,bb,bb,bb,bb,bb] M:=rfl
def ix(w:Ad)(y:DX):aA:=ao (al<|ai ba (ac 1)<|al<|aJ (bo<|ac 1) ["one"] [2] (ag 0) de<|al<|ai ba (ac 0)<|al<|bp<|aa (ac 1) af) (ag 1)
def qX(w:Ad)(y:DX):aA:=ah (cB (cM<|aa (ac 0) af) (ag 2)<|ix w y) (av<|ac 1)
noncomputable def ym(w:Ad)(y:DX):aA:=ah (ao (al<|bp<|aa (al<|bp af) af)<|ag 1) (qX w y)
noncomputable def xN(ad:Ad):Sd:=aI ["many","found","k"] (ym ad)
theorem O7:xN ad [a] M Q E=ym ad (aM E) Q⁻¹ [ap a,bb,bb] M:=rfl
def pS(w:Ad)(y:DX):aA:=ao (ai au (al<|bp<|aa (¬"sound")<|aa (¬"faulty") af)<|E9 iu (ac 7)<|aa (ai au (ac 10)<|ac 6) af) (ag 11)
def lG(w:Ad)(y:DX):aA:=ao (ac 11) (cO (ac 8)<|br bA<|aa (ac 9) af)
def wX(w:Ad)(y:DX):aA:=ah (aC (nK (ak<|ai fh (ac 10)<|dC .non)<|ak<|ai sJ (ai au (ac 10)<|ac 6)<|ac 7) (pS w y) aw) (lG w y)
def wF(w:Ad)(y:DX):aA:=ah (ao (¬"other")<|ag 11) (wX w y)
def jg(w:Ad)(y:DX):aA:=ah (ao (ai au (fK<|aj (jL w) y 3<|aa (ac 1)<|aa (al<|aj (yQ w) y 2<|aa (ac 0)<|aa (al<|aJ (bo<|ac 9) ["k"] [5] (ag 0) de<|ai au (ac 1)<|ac 0) af)<|aa (ac 4) af) ¬1)<|ag 10) (wF w y)
def wH(w:Ad)(y:DX):aA:=ah (cB (bo<|al<|aj (xN w) y 1<|aa (br bY<|aa (ac 5) af) af) (ag 9)<|jg w y) (av<|ac 8)
def vT(w:Ad)(y:DX):aA:=ah (ao (al<|aj (mw w) y 4<|aa (ac 1)<|aa (ac 2)<|aa (ac 3)<|aa (ac 4) af)<|ag 7) (ah (ao CK<|ag 8)<|wH w y)
def vD(w:Ad)(y:DX):aA:=ah (ao (E9 hZ (ai au (ac 1) ¬1)<|aa (ai au (ac 1) ¬4) af)<|ag 6) (vT w y)
def w6(w:Ad)(y:DX):aA:=ah (ao (al<|aj (sZ w) y 1<|aa (ac 0) af)<|ag 5) (vD w y)
noncomputable def EC(w:Ad)(y:DX):aA:=ah (ao (ac 0)<|cU 4<|aL (ag 1)<|aL (ag 2)<|aL (ag 3)<|aL (ag 4) cL) (w6 w y)
noncomputable def GD(ad:Ad):Sd:=aI ["case","plan","sound","faulty","most","some","at","both","found","numbers","end","word"] (EC ad)
theorem u_q4:GD ad [a] M Q E=EC ad (aM E) Q⁻¹ [ap a,bb,bb,bb,bb,bb,bb,bb,bb,bb,bb,bb] M:=rfl
noncomputable def yd(w:Ad)(y:DX):aA:=av (ai bG (al<|aJ (bo<|ac 1) ["k"] [0] (ag 0) (ak<|ai lg (ac 0)<|ac 1)<|ac 0)<|al<|bp af)
noncomputable def lq(ad:Ad):Sd:=aI ["one","other"] (yd ad)
theorem O4:lq ad [a,b] M Q E=yd ad (aM E) Q⁻¹ [ap a,ap b] M:=rfl
noncomputable def iS(w:Ad)(Vo:Sd)(y:DX):aA:=ah (aC (ak<|ai fP (ac 1)<|dC .non) (av<|ai fP (ac 0)<|dC .non) aw) (ah (aC (bI<|br cG<|aa (ac 1)<|aa (dC<|.ty "bool") af) (av<|jN (br cG<|aa (ac 0)<|aa (dC<|.ty "bool") af)<|ai bG (ac 0)<|ac 1) aw)<|ah (aC (bI<|br cG<|aa (ac 1)<|aa (dC<|.ty "int") af) (av<|jN (br cG<|aa (ac 0)<|aa (dC<|.ty "int") af)<|jN (Iw<|br cG<|aa (ac 0)<|aa (dC<|.ty "bool") af)<|ai bG (ac 0)<|ac 1) aw)<|ah (aC (bI<|br cG<|aa (ac 1)<|aa (dC<|.ty "str") af) (av<|jN (br cG<|aa (ac 0)<|aa (dC<|.ty "str") af)<|ai bG (ac 0)<|ac 1) aw)<|ah (aC (Al (ak<|ai f_ (br cG<|aa (ac 1)<|aa (dC<|.ty "tuple") af)<|br cG<|aa (ac 0)<|aa (dC<|.ty "tuple") af)<|ak<|ai f_ (br cG<|aa (ac 1)<|aa (dC<|.ty "list") af)<|br cG<|aa (ac 0)<|aa (dC<|.ty "list") af) (av<|dC<|.bl cm) aw)<|ah (aC (ak<|ai f_ (br bY<|aa (ac 0) af)<|br bY<|aa (ac 1) af) (av<|dC<|.bl cm) aw)<|av<|br Ku<|aa (al<|aJ (NT<|aa (ac 0)<|aa (ac 1) af) ["one","other"] [] (cU 2<|aL (ag 0)<|aL (ag 1) cL) de<|al<|aj Vo oW 2<|aa (ac 0)<|aa (ac 1) af) af)
noncomputable def Vo(ad:Ad):Nat->Sd
 |0=>λ_ _ _ _=>False
 |n+1=>aI ["found","due"] (iS ad<|Vo ad n)
theorem oR{n:Nat}:Vo ad (n+1) [a,b] M Q E=iS ad (Vo ad n) (aM E) Q⁻¹ [ap a,ap b] M:=rfl
def sw(w:Ad)(y:DX):aA:=av (jq (bI<|al<|aj (Vo w 24) y 2<|aa (ac 1)<|aa (al<|aJ (bo<|ac 3) ["k"] [2] (ag 0) de<|ai au (ac 1)<|ac 0) af) (br bA<|aa (ac 3) af)<|dC .non)
def rS(w:Ad)(y:DX):aA:=ah (bf (bJ 3<|aJ (cM<|aa (br bY<|aa (ac 2) af) af) ["k"] [2,1] (ag 0) (ak<|ai sJ (ai au (ac 1)<|ac 0)<|ac 2)<|ac 0) 3) (sw w y)
def sg(w:Ad)(y:DX):aA:=ah (aC (dX<|bI<|br cG<|aa (ac 1)<|aa (dC<|.ty "list") af) (av<|dC .non) aw) (rS w y)
noncomputable def xl(w:Ad)(y:DX):aA:=ah (ao (al<|aj (sZ w) y 1<|aa (ac 0) af)<|ag 2) (sg w y)
noncomputable def tR(ad:Ad):Sd:=aI ["case","mix","some","found"] (xl ad)
theorem MM:tR ad [a,b] M Q E=xl ad (aM E) Q⁻¹ [ap a,ap b,bb,bb] M:=rfl
def rC(w:Ad)(y:DX):aA:=av (aj (Vo w 24) y 2<|aa (ac 8)<|aa (aP<|aa (¬"even") af) af)
def qd(w:Ad)(y:DX):aA:=av (jN (ai bG (ai nN (ac 3)<|ac 4) ¬"faulty")<|jN (ai f_ (ai nN (ac 3)<|ac 9) ¬"faulty")<|al<|aj (Vo w 24) y 2<|aa (ai au (fK<|aj (uR w) y 2<|aa (ac 2)<|aa (¬64) af) ¬0)<|aa (¬"odd") af)
def pT(w:Ad)(y:DX):aA:=ah (aC (Al (ak<|ai fP (ac 4)<|dC .non)<|Al (ak<|ai fP (ac 9)<|dC .non)<|dX<|bI<|al<|aj (lq w) y 2<|aa (ac 9)<|aa (ac 4) af) (av<|dC<|.bl cm) aw) (qd w y)
def pC(w:Ad)(y:DX):aA:=ah (ao (al<|aj (tR w) y 2<|aa (ac 2)<|aa (ai au (ac 8) ¬2) af)<|ag 9) (pT w y)
def r8(w:Ad)(y:DX):aA:=ah (ao (al<|aj (tR w) y 2<|aa (ac 2)<|aa (ai au (ac 8) ¬1) af)<|ag 4) (pC w y)
def lb(w:Ad)(y:DX):aA:=ah (aC (Al (dX<|bI<|br cG<|aa (ac 8)<|aa (dC<|.ty "tuple") af)<|Al (ak<|ai f_ (br bY<|aa (ac 8) af) ¬3)<|dX<|bI<|al<|aj (Vo w 24) y 2<|aa (ai au (ac 8) ¬0)<|aa (¬"odd") af) (av<|dC<|.bl cm) aw) (r8 w y)
def kO(w:Ad)(y:DX):aA:=ah (aC (ak<|ai bG (ac 7)<|al<|bp af) (rC w y) aw) (lb w y)
def qo(w:Ad)(y:DX):aA:=ah (ao (fK<|vX (uR w) y 2 (500)<|aa (ac 2) af)<|ag 8) (kO w y)
def rZ(w:Ad)(y:DX):aA:=ah (bf (bJ 7<|aJ (bo<|ac 5) ["one"] [6] (ag 0) (ak<|ai f_ (al<|aJ (bo<|ac 1) ["more"] [0] (ag 0) (bI<|al<|aj (lq w) oW 2<|aa (ac 0)<|aa (ac 1) af) ¬1)<|al<|bp af)<|ac 0) 7) (qo w y)
def m5(w:Ad)(y:DX):aA:=ah (ao (al<|aJ (um<|ac 3) ["one"] [3] (ag 0) (ak<|ai f_ (ai nN (ac 1)<|ac 0) ¬"faulty")<|ac 0)<|ag 6) (rZ w y)
def lR(w:Ad)(y:DX):aA:=ah (bf (bJ 5<|aJ (um<|ac 3) ["one"] [3] (ag 0) (ak<|ai bG (ai nN (ac 1)<|ac 0) ¬"faulty")<|ac 0) 5) (m5 w y)
def mH(w:Ad)(y:DX):aA:=ah (ao (Dq<|aj (GD w) y 1<|aa (ac 2) af)<|ag 3) (lR w y)
def mx(w:Ad)(y:DX):aA:=ah (ao (al<|aj (zA w) y 3<|aa (ac 1)<|aa (¬24)<|aa (ai ba (¬1)<|al<|aj (a_ w) y 2<|aa (ac 1)<|aa (¬5) af) af)<|ag 2) (mH w y)
noncomputable def xo(w:Ad)(y:DX):aA:=ah (ao (aj (xR w) y 1<|aa (ac 0) af)<|ag 1) (mx w y)
noncomputable def AL(ad:Ad):Sd:=aI ["script","pot","case","verdicts","one","causes","others","odd","found","other"] (xo ad)
theorem Oy:AL ad [a] M Q E=xo ad (aM E) Q⁻¹ [ap a,bb,bb,bb,bb,bb,bb,bb,bb,bb] M:=rfl
end
set_option genInjectivity false in
structure En(P:eC)(w:fe)(K:Pg)(mg:Xy)(base:fx)(ad:Ad):Prop where
 u0:Cls K ad.C_Ends
 u1:mg "Ends"=ap (.ref ad.C_Ends)
 u2:Cls K ad.C_Going
 u3:mg "Going"=ap (.ref ad.C_Going)
 u4:Cls K ad.C_Outcome
 u5:mg "Outcome"=ap (.ref ad.C_Outcome)
 u6:Cls K ad.C_Walk
 u7:mg "Walk"=ap (.ref ad.C_Walk)
 u8:NoAttr K ad.C_Ends "count"
 u9:NoAttr K ad.C_Ends "limit"
 u10:NoAttr K ad.C_Going "left"
 u11:NoAttr K ad.C_Going "numbers"
 u12:NoAttr K ad.C_Going "pieces"
 u13:NoAttr K ad.C_Going "todo"
 u14:NoAttr K ad.C_Going "unsettled"
 u15:NoAttr K ad.C_Outcome "faulty"
 u16:NoAttr K ad.C_Outcome "sound"
 u17:NoAttr K ad.C_Outcome "verdict"
 u18:NoAttr K ad.C_Walk "most"
 u19:NoAttr K ad.C_Walk "numbers"
 u20:NoAttr K ad.C_Walk "pieces"
 u21:NoAttr K ad.C_Walk "plan"
 u22:NoAttr K ad.C_Walk "steps"
 u23:ExcAt K ad.C_Dry
 u24:mg "Dry"=ap (.ref ad.C_Dry)
 u25:ExcAt K ad.C_NoCase
 u26:mg "NoCase"=ap (.ref ad.C_NoCase)
 u27:ExcAt K ad.C_TooMany
 u28:mg "TooMany"=ap (.ref ad.C_TooMany)
 u29:mg "all"=bb
 u30:mg "bool"=bb
 u31:mg "dict"=bb
 u32:mg "enumerate"=bb
 u33:mg "int"=bb
 u34:mg "isinstance"=bb
 u35:mg "len"=bb
 u36:mg "list"=bb
 u37:mg "max"=bb
 u38:mg "min"=bb
 u39:mg "range"=bb
 u40:mg "reversed"=bb
 u41:mg "str"=bb
 u42:mg "tuple"=bb
 u43:mg "zip"=bb
 f1:GI K ad.C_Walk "__init__" "Walk.__init__" OE ad.a1 ad.d1 ["self","plan","stand","most"]
 f2:GM K ad.C_Walk "note_step" "Walk.note_step" OR ad.a2 ad.d2 ["self","place","number"]
 f3:GM K ad.C_Walk "look" "Walk.look" IE ad.a3 ad.d3 ["self","place","name"]
 f4:GF K mg "run" IG ad.a4 ad.d4 ["plan","stand","most"]
 f5:GF K mg "mark" IF ad.a5 ad.d5 ["plan","stand","most"]
 f6:GF K mg "do_rows" GS ad.a6 ad.d6 ["walk","rows","place"]
 f7:GA K mg "do_row_runs" "do_row" G_ ad.a7 ad.d7 ["walk","row","place"]
 f8:GF K mg "do_if" He ad.a8 ad.d8 ["walk","row","place"]
 f9:GF K mg "do_again" GT ad.a9 ad.d9 ["walk","row","place"]
 f10:GF K mg "number_of" GP ad.a10 ad.d10 ["plan","numbers","pieces","row"]
 f11:GF K mg "piece_read" Hk ad.a11 ad.d11 ["plan","numbers","row"]
 f12:GF K mg "joined" IA ad.a12 ad.d12 ["word","y","z","wheel"]
 f13:GF K mg "all_things" GO ad.a13 ad.d13 ["plan"]
 f14:GF K mg "in_order" HV ad.a14 ad.d14 ["plan","things"]
 f15:GF K mg "number_in" Io ad.a15 ad.d15 ["plan","stand","thing"]
 f16:GF K mg "names_read" Ir ad.a16 ad.d16 ["row"]
 f17:GF K mg "unlike" GR ad.a17 ad.d17 ["plan","one","other"]
 f18:GF K mg "marks" HC ad.a18 ad.d18 ["case"]
 f19:GF K mg "unlike_of" II ad.a19 ad.d19 ["case"]
 f20:GF K mg "verdict_of" Ht ad.a20 ad.d20 ["two","one"]
 f21:GI K ad.C_Going "__init__" "Going.__init__" MN ad.a21 ad.d21 ["self","numbers","pieces","unsettled","todo","left"]
 f22:GM K ad.C_Going "settled" "Going.settled" O9 ad.a22 ad.d22 ["self","thing","number"]
 f23:GI K ad.C_Ends "__init__" "Ends.__init__" ON ad.a23 ad.d23 ["self","limit"]
 f24:GM K ad.C_Ends "one_more" "Ends.one_more" NJ ad.a24 ad.d24 ["self"]
 f25:GF K mg "start" GW ad.a25 ad.d25 ["case"]
 f26:GF K mg "put_ahead" HA ad.a26 ad.d26 ["rows","todo"]
 f27:GF K mg "go_on" Hl ad.a27 ad.d27 ["plan","going"]
 f28:GF K mg "asked_by" Hc ad.a28 ad.d28 ["plan","going","row"]
 f29:GA K mg "do_row_trees" "do_row" HP ad.a29 ad.d29 ["plan","going","row"]
 f30:GF K mg "mark_of" HY ad.a30 ad.d30 ["plan","going"]
 f31:GF K mg "both_ways" Hy ad.a31 ad.d31 ["case","going","thing"]
 f32:GV K mg "tree" Ix ad.a32 ad.d32 ["case","limit"] (500)
 f33:GF K mg "grown" GN ad.a33 ad.d33 ["case","going","ends"]
 f34:GI K ad.C_Outcome "__init__" "Outcome.__init__" Ng ad.a34 ad.d34 ["self","verdict","sound","faulty"]
 f35:GF K mg "outcomes" Hj ad.a35 ad.d35 ["case","limit"]
 f36:GF K mg "numbers_of" GU ad.a36 ad.d36 ["bits"]
 f37:GF K mg "mix_of" Ib ad.a37 ad.d37 ["things","bits"]
 f38:GV K mg "even" Ia ad.a38 ad.d38 ["case","limit"] (500)
 f39:GF K mg "_law_stirred" Im ad.a39 ad.d39 ["cell","turn"]
 f40:GF K mg "_law_pot" HJ ad.a40 ad.d40 ["script"]
 f41:GF K mg "_law_draw" Ha ad.a41 ad.d41 ["pot","many"]
 f42:GF K mg "_law_names" Hx ad.a42 ad.d42 ["pot","many"]
 f43:GF K mg "_law_row" HM ad.a43 ad.d43 ["pot","told"]
 f44:GF K mg "_law_block" HU ad.a44 ad.d44 ["pot","told","room","deep"]
 f45:GF K mg "_law_rows" HX ad.a45 ad.d45 ["pot","told","room","deep","most"]
 f46:GF K mg "_law_plan" Ip ad.a46 ad.d46 ["pot","most"]
 f47:GF K mg "_law_stand" HH ad.a47 ad.d47 ["pot","plan"]
 f48:GF K mg "_law_becomes" O1 ad.a48 ad.d48 ["gone","row"]
 f49:GF K mg "_law_stepped" HZ ad.a49 ad.d49 ["gone","place","number"]
 f50:GF K mg "_law_rounds" HG ad.a50 ad.d50 ["gone","row","place"]
 f51:GF K mg "_law_done" H_ ad.a51 ad.d51 ["gone","rows","place"]
 f52:GF K mg "_law_run" GY ad.a52 ad.d52 ["plan","stand","most"]
 f53:GF K mg "_law_flat" Hg ad.a53 ad.d53 ["rows"]
 f54:GF K mg "_law_marks" Ik ad.a54 ad.d54 ["plan","sound","faulty","most"]
 f55:GF K mg "_law_other" IB ad.a55 ad.d55 ["pot","m","number"]
 f56:GF K mg "_law_by_name" Ig ad.a56 ad.d56 ["plan","sound","faulty","most","name"]
 f57:GF K mg "_law_by_piece" ND ad.a57 ad.d57 ["plan"]
 f58:GF K mg "_law_case" Il ad.a58 ad.d58 ["pot","most_rows","few"]
 f59:GF K mg "_law_things" Hs ad.a59 ad.d59 ["case"]
 f60:GF K mg "_law_mixed" Ij ad.a60 ad.d60 ["case","mix"]
 f61:GF K mg "_law_subsets" HW ad.a61 ad.d61 ["many"]
 f62:GF K mg "_law_verdicts" Nq ad.a62 ad.d62 ["case"]
 f63:GF K mg "_law_has" Hb ad.a63 ad.d63 ["one","other"]
 f64:GF K mg "_law_alike" Hn ad.a64 ad.d64 ["found","due"]
 f65:GF K mg "_law_numbers" HN ad.a65 ad.d65 ["case","mix"]
 f66:GF K mg "law" jz ad.a66 ad.d66 ["script"]
section
section
variable {X:Cx}{B:Bd}{a b c o e:eH}{es:Xu}{ta tb tc to:bh}{t:eQ}{i:Nat}{x:Str}{pos p Xn Xm:Pos}(hU:X.A.units+64<pA)(hu:X.A.units+1<pA)(hg:X.A.guards=ap [])(hc:X.calm=true)(ha:DE X B a ta)(hb:DE X B b tb)(hd:DE X B c tc)
def v0:=fR (pos:=pos) F0 ha hb
def v1:=fR (pos:=pos) F6 ha hb
def v2:=fR (pos:=pos) EN ha hb
def v3:=fR (pos:=pos) F1 ha hb
def v4:=fR (pos:=pos) Lj ha hb
def v5:=fR (pos:=pos) Fo ha hb
def v6:=fR (pos:=pos) FW ha hb
def v7:=fR (pos:=pos) ES ha hb
def v8:=fR (pos:=pos) Dd ha hb
def v9:=fR (pos:=pos) F3 ha hb
def v10:=fR (pos:=pos) FE ha hb
def v11:=vR (pos:=pos) (Dy hU) ha hb
def v12:=vR (pos:=pos) yF ha hb
def v13:=vR (pos:=pos) (AQ hU) ha hb
def v14:=fc (X:=X) (B:=B) (p:=p) (pos:=pos) (e:=e) (es:=es) (t:=t) Ab G5
def v15:=fG (X:=X) (B:=B) (p:=p) (pos:=pos) (e:=e) (es:=es) (t:=t) uG oG
def v16:=fG (X:=X) (B:=B) (p:=p) (pos:=pos) (e:=e) (es:=es) (t:=t) wx lA
def v17:=fG (X:=X) (B:=B) (p:=p) (pos:=pos) (e:=e) (es:=es) (t:=t) (uU hc) sK
def v18:=fc (X:=X) (B:=B) (p:=p) (pos:=pos) (e:=e) (es:=es) (t:=t) pF m4
def v19:=fG (X:=X) (B:=B) (p:=p) (pos:=pos) (e:=e) (es:=es) (t:=t) sS sK
def v20:=fc (X:=X) (B:=B) (p:=p) (pos:=pos) (e:=e) (es:=es) (t:=t) (Av hc) Fm
def v21:=fc (X:=X) (B:=B) (p:=p) (pos:=pos) (e:=e) (es:=es) (t:=t) (zR hc) Fe
def v22:=fc (X:=X) (B:=B) (p:=p) (pos:=pos) (e:=e) (es:=es) (t:=t) (zN hc) FG
def v23:=mL (X:=X) (B:=B) (pos:=pos) Gd
def v24:=mL (X:=X) (B:=B) (pos:=pos) Bw
def v25:=mL (X:=X) (B:=B) (pos:=pos) G6
def v26:=mL (X:=X) (B:=B) (pos:=pos) oG
def v27:=mL (X:=X) (B:=B) (pos:=pos) lA
def v28:=Ci (X:=X) (B:=B) (Xn:=Xn) (Xm:=Xm) (o:=o) (e:=e) (es:=es) (t:=t) (to:=to) SF Td PySem.F.type_list_append xc
def v29:=z7 (X:=X) (B:=B) (Xn:=Xn) (Xm:=Xm) (o:=o) (to:=to) SF Sj Uv xY
def v30:=z7 (X:=X) (B:=B) (Xn:=Xn) (Xm:=Xm) (o:=o) (to:=to) PySem.F.plainAttrs_int PySem.F.slot_int_bit_length PySem.F.type_int_bit_length vp
def v31:=Ci (X:=X) (B:=B) (Xn:=Xn) (Xm:=Xm) (o:=o) (e:=e) (es:=es) (t:=t) (to:=to) SF Sj Uv xY
def v32:=Dz (X:=X) (B:=B) (Xn:=Xn) (Xm:=Xm) (o:=o) (e:=e) (es:=es) (to:=to) (t:=t) RD T5 wk
def v33:=Dz (X:=X) (B:=B) (Xn:=Xn) (Xm:=Xm) (o:=o) (e:=e) (es:=es) (to:=to) (t:=t) RD T5 ww
def v34:=Gg (X:=X) (B:=B) (x:=x) (pos:=pos) (e:=e) (i:=i) (te:=ta) (pos':=p) G8
def v35:=dN (pos:=pos) K9 ha hb
def v36:=dN (pos:=pos) (Dy hU) ha hb
def v37:=dN (pos:=pos) Kd ha hb
def v38:=dN (pos:=pos) DN ha hb
def v39:=dN (pos:=pos) yF ha hb
def v40:=dN (pos:=pos) (CH hU) ha hb
def v41:=dN (pos:=pos) (AQ hU) ha hb
def v42:=dN (pos:=pos) Lk ha hb
def v43:=dN (pos:=pos) (Ec hU) ha hb
def v44:=dN (pos:=pos) Kr ha hb
def v45:=dN (pos:=pos) (zD hU) ha hb
end
local macro_rules|`(tactic|exists $n:num)=>do
 let h<-`(?_);let u<-`(_);let I:=λs:String=>Lean.mkIdent s.toName;let p:=λa k=>Lean.Syntax.mkApp (I a) (Array.replicate k h)
 let t<-((["","dnm:u Kz:0 Lo:1 HR:g:KB Jj:0 BA:6 BZ:6 DE:ai:3:2 DE:br:2:3 Kb:1 J2:1 Jb:4 Bh:3 OT:0 Jn:0 DE:dC:1:4 DE:nC:4:5 v32:7 v33:7 HR:g:NX F2:1 E1:3 Kw:2 LJ:1 LF:1 EV:1 EA:0 vS:9 wJ:8 CG:a Fk:3 Gy:4 CT:a AF:a CS:a","v0:2 v1:2 v2:2 v3:2 v4:2 v5:2 v6:2 v7:2 v8:2 v9:2 v10:2 v11:4 v12:3 v13:4","v14:7 v15:7 v16:7 v17:8 v18:7 v19:7 v20:8 v21:8 v22:8","v23:4 v24:4 v25:4 v26:4 v27:4","v28:8 v29:4 v30:4 v31:8","MZ:3 LH:6 L8:5 LR:1 Eu:2 Lg:5 zX:4 Ay:4 JI:6 CN:3 Co:6 K_:2 v34:5 BH:a Gw:a","DT:ak:1:8 Ly:1 Lh:2 OX:1","v35:3 v36:4 v37:3 v38:3 v39:3 v40:4 v41:4 v42:3 v43:4 v44:3 v45:4","dH:2 fJ:1 G0:0 GH:1 J5:1 Lf:2 No:2 EB:0 ET:1 Gq:4 JX:4 Ks:4 Lm:4 Do:3 FK:0 F_:4 zL:4 F8:5 Je:5 JQ:4 Gj:1 JY:1 FC.nil:a FC.cons:a FP:0 Fh:1"].getD n.getNat "").splitOn " ").toArray.mapM λs=>match s.splitOn ":" with
  |[a,"a"]=>`(Lean.Parser.Tactic.tacticSeq|apply $(I a))
  |[a,"d"]=>`(Lean.Parser.Tactic.tacticSeq|(apply $(I a);focus decide))
  |[a,"u"]=>`(Lean.Parser.Tactic.tacticSeq|refine $(I a) _ ?_ ?_ ?_ ?_)
  |[a,k]=>`(Lean.Parser.Tactic.tacticSeq|refine $(p a k.toNat!))
  |[a,_,b]=>`(Lean.Parser.Tactic.tacticSeq|refine $(I a) ($(p b 1)) ?_ ?_ ?_)
  |[d,a,k,m]=>`(Lean.Parser.Tactic.tacticSeq|(show $(I d) _ _ _ $(Lean.Syntax.mkApp (I a) (Array.replicate k.toNat! u));exists $(Lean.Syntax.mkNumLit m)))
  |_=>Lean.Macro.throwUnsupported
 `(tactic|first $[|$t]*)
local macro_rules | `(tactic| exists 0) => `(tactic| first
 |exact Or.inl rfl
 |exact⟨_,_,_,_,_,_,_,by assumption,by assumption,Room.mono (by assumption) (by first|decide|lia),Bl,by assumption⟩
 |exact⟨_,_,_,_,_,_,_,by first|exact .g (by assumption)|exact .a (by assumption)|exact .v (by assumption),by assumption,Room.mono (by assumption) (by first|decide|lia),Bl,by assumption⟩
 |exact⟨_,_,_,_,_,_,_,by first|exact .g (by assumption)|exact .a (by assumption)|exact .v (by assumption),by assumption,Room.mono (by assumption) (by first|decide|lia),C6,uxN⟩
 |assumption
 |exact Room.mono (by assumption) (by first|decide|lia)
 |with_reducible exact Bl
 |with_reducible exact C6
 |with_reducible exact uxN
 |exact FnScope.nd (by assumption)
 |(apply nomark;decide)
 |(apply NK;decide)
 |exact PassesOwn.leaving
 |exact λ_ _=>rfl
 |exact Or.inr (Or.inl rfl)
 |exact Or.inr rfl
 |exact Or.inr (Or.inr rfl)
 |rfl
 |exact λ_=>rfl
 |decide
 |exact⟨rfl,rfl,rfl,rfl⟩
 |with_reducible intro _)
local macro_rules | `(tactic| trivial) => `(tactic| first
 |eq_refl
 |(with_reducible first
 |(show DE _ _ _ _;exists 1)
 |refine da_c ?_ ?_ ?_
 |exact Jp
 |(show DT _ _ _ _;exists 7)
 |(show DS _ _ _ _;exists 6)
 |exists 9)
 |exists 0)
set_option hygiene false in
local macro_rules | `(tactic| exists $t:ident, $g, [$fs,*]) => `(tactic| exists (_), $t:ident, $g, [$fs,*])
set_option hygiene false in
local macro_rules | `(tactic| exists $t:ident, $g, [$fs,*], $[$ps:ident],*) => `(tactic| exists (_), $t:ident, $g, [$fs,*], $[$ps:ident],*)
set_option hygiene false in
local macro_rules | `(tactic| exists ($k), $t:ident, $g, [$fs,*]) => do let hs <- fs.getElems.mapM fun f => `(tactic| have := $f); `(tactic| exact fnS (k := $k) rfl ($g).F ($g).b ⟨rfl, rfl, rfl, by decide +kernel, rfl, by decide +kernel, by decide +kernel⟩ fun hS _ A _ s _ _ _ _ hr ux => (by have hU := hr.units; have hu := oA hr; have hg := hr.gd; ($[$hs];*); unfold $t:ident; (first | refine dH ?_ ?_ | refine fJ ?_); repeat' trivial))
set_option hygiene false in
local macro_rules | `(tactic| exists ($k), $t:ident, $g, [$fs,*], $[$ps:ident],*) => do let hs <- fs.getElems.mapM fun f => `(tactic| have := $f); `(tactic| exact fnS (k := $k) rfl ($g).F ($g).b ⟨rfl, rfl, rfl, by decide +kernel, rfl, by decide +kernel, by decide +kernel⟩ fun hS _ A _ s _ _ _ _ hr ux => (by have hU := hr.units; have hu := oA hr; have hg := hr.gd; ($[$hs];*); unfold $t:ident $[$ps:ident]*; (first | refine dH ?_ ?_ | refine fJ ?_); repeat' trivial))
variable {P:eC}{w:fe}{K:Pg}{mg:Xy}{base:fx}{ad:Ad}(E:En P w K mg base ad)
include E
theorem N9:ck P w mg base E.f1.F E.f1.b 1 (EF ad):=by
 exists Fy,E.f1,[E.u6,E.u21,E.u19,E.u43,E.u31,E.u20,E.u18,E.u22]
theorem Hf:ck P w mg base E.f2.F E.f2.b 1 (wc ad):=by
 exists Ez,E.f2,[E.u35,E.u6,E.u22,E.u18,E.u23,E.u24]
theorem LV:ck P w mg base E.f3.F E.f3.b 2 (oo ad):=by
 have:=Hf E
 exists zu,E.f3,[E.u6,E.u19,E.f2]
theorem K8:ck P w mg base E.f12.F E.f12.b 1 (xP ad):=by
 exists xM,E.f12,[]
theorem BD:ck P w mg base E.f11.F E.f11.b 1 (mK ad):=by
 exists iN,E.f11,[]
theorem Ch:ck P w mg base E.f10.F E.f10.b 2 (lP ad):=by
 have:=K8 E;have:=BD E
 exists g5,E.f10,[E.f11,E.f12]
theorem tj:∀n:Nat,ck P w mg base E.f6.F E.f6.b (2+n) (Vh ad n)/\ck P w mg base E.f7.F E.f7.b (2+n) (Vj ad n)/\ck P w mg base E.f8.F E.f8.b (2+n) (Vk ad n)/\ck P w mg base E.f9.F E.f9.b (2+n) (Vl ad n):=by
 have:=LV E;have:=Hf E;have:=Ch E;intro n
 induction n with
 |zero=>exact⟨eK,eK,eK,eK⟩
 |succ n ih=>
  obtain⟨_,_,_,_⟩:=ih;refine⟨?_,?_,?_,?_⟩
  .exists (2+n),yK,E.f6,[E.u32,E.f7]
  .exists (2+n),oz,E.f7,[E.f8,E.f9,E.f10,E.u6,E.u21,E.u19,E.u20,E.f2]
  .exists (2+n),y3,E.f8,[E.u6,E.f3,E.f6]
  .exists (2+n),yO,E.f9,[E.u6,E.f3,E.f6]
theorem JF:ck P w mg base E.f4.F E.f4.b 27 (tS ad):=by
 have:=N9 E;obtain⟨_,_,_,_⟩:=tj E 24
 exists yV,E.f4,[E.f1,E.u7,E.u6,E.f6,E.u23,E.u24,E.u22,E.u42,E.u19]
theorem IZ:ck P w mg base E.f5.F E.f5.b 28 (oZ ad):=by
 have:=JF E
 exists z9,E.f5,[E.f4]
theorem AR:ck P w mg base E.f13.F E.f13.b 1 (uf ad):=by
 exists zq,E.f13,[E.u36,E.u39]
theorem Ja:ck P w mg base E.f14.F E.f14.b 2 (yn ad):=by
 have:=AR E
 exists yL,E.f14,[E.u31,E.f13],kW
theorem DL:ck P w mg base E.f15.F E.f15.b 1 (jJ ad):=by
 exists tY,E.f15,[E.u34,E.u41]
theorem Jm:ck P w mg base E.f16.F E.f16.b 1 (yr ad):=by
 exists iy,E.f16,[E.u36]
theorem Lb:ck P w mg base E.f17.F E.f17.b 2 (xD ad):=by
 have:=AR E;have:=DL E
 exists yR,E.f17,[E.f13,E.f15]
theorem A_:ck P w mg base E.f18.F E.f18.b 29 (tU ad):=by
 have:=IZ E
 exists xr,E.f18,[E.f5,E.u25,E.u26],qg,kS,pK
theorem vq:ck P w mg base E.f19.F E.f19.b 3 (oh ad):=by
 have:=Lb E
 exists xj,E.f19,[E.f17]
theorem L7:ck P w mg base E.f20.F E.f20.b 1 (yM ad):=by
 exists tz,E.f20,[]
theorem I0:ck P w mg base E.f21.F E.f21.b 1 (Di ad):=by
 exists Gu,E.f21,[E.u2,E.u11,E.u12,E.u14,E.u13,E.u10]
theorem MI:ck P w mg base E.f22.F E.f22.b 3 (zV ad):=by
 have:=I0 E
 exists EO,E.f22,[E.f21,E.u3,E.u2,E.u31,E.u11,E.u36,E.u12,E.u14,E.u13,E.u10,E.u34,E.u41],wz,vz,vL,wV
theorem Mv:ck P w mg base E.f23.F E.f23.b 1 (Kg ad):=by
 exists Ej,E.f23,[E.u0,E.u9,E.u8]
theorem GZ:ck P w mg base E.f24.F E.f24.b 1 (Da ad):=by
 exists Ee,E.f24,[E.u0,E.u8,E.u9,E.u27,E.u28],v_
theorem B6:ck P w mg base E.f26.F E.f26.b 1 (mE ad):=by
 exists yu,E.f26,[E.u40],rH
theorem KZ:ck P w mg base E.f25.F E.f25.b 4 (yX ad):=by
 have:=I0 E;have:=B6 E;have:=vq E
 exists yE,E.f25,[E.u31,E.f19,E.f21,E.u3,E.u2,E.u43,E.u36,E.f26],qM,qC,qG
theorem KL:ck P w mg base E.f28.F E.f28.b 3 (yS ad):=by
 have:=Ja E;have:=Jm E;have:=BD E
 exists yw,E.f28,[E.u2,E.u14,E.f16,E.f14,E.f11,E.u11],pZ,k8,qf,rB,qh
theorem Ll:ck P w mg base E.f29.F E.f29.b 3 (zj ad):=by
 have:=Ch E;have:=B6 E
 exists xx,E.f29,[E.u2,E.u10,E.u13,E.f26,E.u11,E.f10,E.u12,E.u14],rX,iU,km,gE,qj,qe,pU
theorem L_:ck P w mg base E.f27.F E.f27.b 4 (xt ad):=by
 have:=KL E;have:=Ll E
 exists xG,E.f27,[E.u2,E.u13,E.u10,E.f28,E.f29,E.u14],qt,gq,qz,rW,qA,qy
theorem Js:ck P w mg base E.f30.F E.f30.b 1 (xi ad):=by
 exists xA,E.f30,[E.u2,E.u13,E.u11]
theorem IW:ck P w mg base E.f31.F E.f31.b 4 (xE ad):=by
 have:=MI E;have:=DL E
 exists yH,E.f31,[E.u2,E.f22,E.f15]
theorem Ap:∀n:Nat,ck P w mg base E.f33.F E.f33.b (4+n) (Vi ad n):=by
 have:=GZ E;have:=IW E;have:=L_ E;have:=Js E;intro n
 induction n with
 |zero=>exact eK
 |succ n ih=>
  exists (4+n),xu,E.f33,[E.f33,E.f27,E.f30,E.u0,E.f24,E.f31],pO,rq,qF,qB,qQ
theorem IP:OkV P w mg base E.f32.F E.f32.b 30 (yG ad):=by
 have:=Mv E;have:=GZ E;have:=Ap E 24;have:=A_ E;have:=KZ E;exact Nj rfl E.f32.F E.f32.b ⟨rfl,rfl,rfl,by decide +kernel,rfl,by decide +kernel,by decide +kernel⟩ λhS _ A _ s _ _ _ _ hr ux=>(by have hU:=hr.units;have hu:=oA hr;have hg:=hr.gd;have:=E.f18;have:=E.f23;have:=E.u1;have:=E.u0;have:=E.f24;have:=E.f33;have:=E.f25;unfold zo si qO rP;(first|refine dH ?_ ?_|refine fJ ?_);repeat' trivial)
theorem Mr:ck P w mg base E.f34.F E.f34.b 1 (Fs ad):=by
 exists Fg,E.f34,[E.u4,E.u17,E.u16,E.u15]
theorem JJ:ck P w mg base E.f35.F E.f35.b 31 (xH ad):=by
 have:=Mr E;have:=A_ E;have:=IP E;have:=vq E;have:=L7 E
 exists yi,E.f35,[E.f18,E.u31,E.u32,E.f19,E.f32,E.f34,E.u5,E.u4,E.f20],lW,lV,sC,gw,qR,qT,r9,sx,rD,qE,qV
theorem JZ:ck P w mg base E.f36.F E.f36.b 1 (xV ad):=by
 exists xm,E.f36,[E.u39]
theorem Li:ck P w mg base E.f37.F E.f37.b 2 (sR ad):=by
 have:=JZ E
 exists yP,E.f37,[E.f36]
theorem KE:OkV P w mg base E.f38.F E.f38.b 32 (uR ad):=by
 have:=Li E;have:=JJ E;have:=vq E;exact Nj rfl E.f38.F E.f38.b ⟨rfl,rfl,rfl,by decide +kernel,rfl,by decide +kernel,by decide +kernel⟩ λhS _ A _ s _ _ _ _ hr ux=>(by have hU:=hr.units;have hu:=oA hr;have hg:=hr.gd;have:=E.f35;have:=E.u4;have:=E.u17;have:=E.u15;have:=E.f19;have:=E.u16;have:=E.f37;unfold yf qr pL sD dy iP;(first|refine dH ?_ ?_|refine fJ ?_);repeat' trivial)
theorem KD:ck P w mg base E.f39.F E.f39.b 1 (lQ ad):=by
 exists xU,E.f39,[]
theorem LA:ck P w mg base E.f40.F E.f40.b 1 (xR ad):=by
 exists ya,E.f40,[E.u36]
theorem fX:ck P w mg base E.f41.F E.f41.b 2 (a_ ad):=by
 have:=KD E
 exists yT,E.f41,[E.f39]
theorem IJ:ck P w mg base E.f42.F E.f42.b 3 (zB ad):=by
 have:=fX E
 exists xp,E.f42,[E.f41,E.u39,E.u42]
theorem JC:ck P w mg base E.f43.F E.f43.b 3 (sX ad):=by
 have:=fX E
 exists ye,E.f43,[E.f41,E.u35]
theorem lF:∀n:Nat,ck P w mg base E.f44.F E.f44.b (3+n) (Vn ad n)/\ck P w mg base E.f45.F E.f45.b (3+n) (Vm ad n):=by
 have:=fX E;have:=JC E;intro n
 induction n with
 |zero=>exact⟨eK,eK⟩
 |succ n ih=>
  obtain⟨_,_⟩:=ih;refine⟨?_,?_⟩
  .exists (3+n),zy,E.f44,[E.f41,E.u35,E.f45,E.u38]
  .exists (3+n),yo,E.f45,[E.u39,E.f41,E.f44,E.f43,E.u42]
theorem LL:ck P w mg base E.f46.F E.f46.b 28 (yW ad):=by
 have:=fX E;have:=IJ E;obtain⟨_,_⟩:=lF E 24
 exists zf,E.f46,[E.f41,E.f42,E.f45,E.u35]
theorem Ji:ck P w mg base E.f47.F E.f47.b 3 (y_ ad):=by
 have:=fX E
 exists yC,E.f47,[E.u42,E.f41,E.u39]
theorem O5:ck P w mg base E.f48.F E.f48.b 1 (DH ad):=by
 exists wE,E.f48,[E.u35]
theorem JR:ck P w mg base E.f49.F E.f49.b 1 (jO ad):=by
 exists z8,E.f49,[E.u35]
theorem jP:∀n:Nat,ck P w mg base E.f50.F E.f50.b (1+n) (Vg ad n)/\ck P w mg base E.f51.F E.f51.b (1+n) (Vf ad n):=by
 have:=O5 E;have:=JR E;intro n
 induction n with
 |zero=>exact⟨eK,eK⟩
 |succ n ih=>
  obtain⟨_,_⟩:=ih;refine⟨?_,?_⟩
  .exists (1+n),yq,E.f50,[E.u39,E.f49,E.f51],iI,pw,pz,qN
  .exists (1+n),xS,E.f51,[E.f51,E.u32,E.f50,E.f49,E.f48],m3,sh,kG,kZ,kP,pP,kH,qv,ra,qJ
theorem BL:ck P w mg base E.f52.F E.f52.b 26 (jL ad):=by
 obtain⟨_,_⟩:=jP E 24
 exists xW,E.f52,[E.u43,E.u31,E.f51,E.u42]
theorem B3:ck P w mg base E.f53.F E.f53.b 1 (tK ad):=by
 exists y1,E.f53,[E.u42]
theorem wQ:ck P w mg base E.f54.F E.f54.b 27 (mw ad):=by
 have:=BL E
 exists z5,E.f54,[E.f52],ki,kA,kR
theorem IU:ck P w mg base E.f55.F E.f55.b 3 (nA ad):=by
 have:=fX E
 exists xq,E.f55,[E.f41]
theorem KN:ck P w mg base E.f56.F E.f56.b 28 (y2 ad):=by
 have:=B3 E;have:=wQ E
 exists xK,E.f56,[E.u42,E.f53,E.f54],ko,k6,kt,kT,kE
theorem MW:ck P w mg base E.f57.F E.f57.b 1 (Fc ad):=by
 exists GG,E.f57,[],qI,rf,ma,qx
theorem Lu:ck P w mg base E.f58.F E.f58.b 29 (zA ad):=by
 have:=KN E;have:=MW E;have:=fX E;have:=B3 E;have:=wQ E;have:=IU E;have:=LL E;have:=Ji E
 exists xT,E.f58,[E.f46,E.u37,E.f47,E.u36,E.f41,E.u35,E.f55,E.u38,E.u39,E.u42,E.f54,E.f53,E.f56,E.f57],mP,m9,lj,me,ng,mh,nD,iV,lE,mD,iD,iO,mF,ik,iY,ms,mz,qc,kI,rG,pH,pV,rV,pJ,qY,qp
theorem CP:ck P w mg base E.f59.F E.f59.b 1 (sZ ad):=by
 exists xh,E.f59,[E.u43,E.u39],q_,rl
theorem LB:ck P w mg base E.f60.F E.f60.b 1 (yQ ad):=by
 exists xO,E.f60,[E.u43,E.u39,E.u42],rT,qD,sF,gn
theorem J8:ck P w mg base E.f61.F E.f61.b 1 (xN ad):=by
 exists ym,E.f61,[E.u39],qX,ix
theorem O8:ck P w mg base E.f62.F E.f62.b 28 (GD ad):=by
 have:=wQ E;have:=LB E;have:=BL E;have:=J8 E;have:=CP E
 exists EC,E.f62,[E.f59,E.f54,E.f61,E.u35,E.f52,E.f60,E.u42],w6,vD,vT,wH,jg,wF,wX,lG,pS
theorem Ke:ck P w mg base E.f63.F E.f63.b 1 (lq ad):=by
 exists yd,E.f63,[]
theorem g8:∀n:Nat,ck P w mg base E.f64.F E.f64.b (0+n) (Vo ad n):=by
 intro n
 induction n with
 |zero=>exact eK
 |succ n ih=>
  exists (0+n),iS,E.f64,[E.f64,E.u34,E.u30,E.u33,E.u41,E.u42,E.u36,E.u35,E.u29,E.u43]
theorem LW:ck P w mg base E.f65.F E.f65.b 25 (tR ad):=by
 have:=g8 E 24;have:=CP E
 exists xl,E.f65,[E.f59,E.u34,E.u36,E.u39,E.u35,E.f64,E.u42],sg,rS,sw
theorem Lz:ck P w mg base E.f66.F E.f66.b 33 (AL ad):=by
 have:=g8 E 24;have:=Lu E;have:=fX E;have:=Ke E;have:=LW E;have:=LA E;have:=O8 E;have:=KE E
 exists xo,E.f66,[E.f40,E.f58,E.f41,E.f62,E.f63,E.f64,E.u34,E.u42,E.u35,E.f65,E.f38],mx,mH,lR,m5,rZ,qo,kO,lb,r8,pC,pT,qd,rC
end
end _T
namespace _3
open PySem _2
theorem aH{T:Sd}{EE:DX}{ds:List D}{M:Mem}{Q:DK}{b:BxQ EE Q}{d:D}(c:∀Q' E',Q' d M->T ds M Q' E')(h:Q d M):calls T EE ds M Q b:=
 aq λQ' E' a _=>c Q' E' (a d M h)
theorem bi{α:Type}{xs:List α}{i:Int}(h:0<=i):atI xs i=xs[i.toNat]?:=by
 unfold atI vh;rw[if_pos h]
 by_cases a:i<xs.length
 .rw[if_pos a];rfl
 .rw[if_neg a,Qf (by lia)];rfl
@[simp] theorem atI_0 {α:Type} {xs:List α}:atI xs 0=xs[0]?:=bi (by decide)
@[simp] theorem atI_1 {α:Type} {xs:List α}:atI xs 1=xs[1]?:=bi (by decide)
@[simp] theorem atI_2 {α:Type} {xs:List α}:atI xs 2=xs[2]?:=bi (by decide)
@[simp] theorem atI_3 {α:Type} {xs:List α}:atI xs 3=xs[3]?:=bi (by decide)
@[simp] theorem atI_4 {α:Type} {xs:List α}:atI xs 4=xs[4]?:=bi (by decide)
theorem cI{g:ju}{i:aA}{DD:DEnds}{ok:Mem->Prop}{b:BxF g i DD ok}(I:List D->Dl->Mem->Prop)(c:∀xs U M,I xs U M->ok M)(f:∀U M,I [] U M->DD.nx U M)
  (j:∀x xs U M,I (x::xs) U M->∀D':DEnds,(∀a M',I xs a M'->D'.nx a M')->(∀a M',I xs a M'->D'.ct a M')->D'.rt=DD.rt->D'.bk=DD.nx->g x U M λδ2 M2=>i D' δ2 M2):∀xs U M,I xs U M->iG g i DD ok b xs U M
 |[],U,M,h=>⟨c _ _ _ h,f U M h⟩
 |x::xs,U,M,h=>⟨c _ _ _ h,j x xs U M h _ (λa M' e=>cI I c f j xs a M' e) (λa M' e=>cI I c f j xs a M' e) rfl rfl⟩
theorem bZ{g:ju}{tt:eU}{te:bh}{ok:Mem->Prop}{Q:List D->Mem->Prop}{b:BxC g tt te ok Q}(I:List D->List D->Dl->Mem->Prop)(e:∀xs Xl U M,I xs Xl U M->ok M)(j:∀Xl U M,I [] Xl U M->Q Xl M)
  (l:∀x xs Xl U M,I (x::xs) Xl U M->∀N:Bool->D->Dl->Mem->Prop,(∀y a M',Xl.length<sizeLine->I xs (Xl++[y]) a M'->N true y a M')->(∀y a M',I xs Xl a M'->N cm y a M')->g x U M λδ2 M2=>tt δ2 M2 λc M3=>if c=true then te δ2 M3 λy M4=>N true y δ2 M4 else N cm .non δ2 M3)
  (m:∀x xs Xl U M,I (x::xs) Xl U M->Xl.length<sizeLine):∀xs Xl U M,I xs Xl U M->bV g tt te ok Q b xs Xl U M
 |[],Xl,U,M,h=>⟨e _ _ _ _ h,j Xl U M h⟩
 |x::xs,Xl,U,M,h=>⟨e _ _ _ _ h,l x xs Xl U M h (λk y a M'=>if k=true then Xl.length<sizeLine/\bV g tt te ok Q b xs (Xl++[y]) a M' else bV g tt te ok Q b xs Xl a M')
   (λy a M' f i=>by rw[if_pos rfl];exact⟨f,bZ I e j l m xs _ a M' i⟩) (λy a M' i=>by rw[if_neg (by simp)];exact bZ I e j l m xs _ a M' i) |> λz=>by simpa using z⟩
theorem bg{n:Nat}(h:n<=1000000):n<=sizeLine:=PL h (by decide)
theorem fS{n:Nat}(h:n<1000000):n<sizeLine:=PF h (by decide)
end _3
namespace _T
open PySem _2 _3
variable{v:Int}{x:Str}{n:cE}
inductive Rw where
 |put (x:Str) (k:Int)|take (x:Str) (i:Int)|pick (x y:Str)|two (w x y z:Str)|ifr (x:Str) (a b:List Rw)|again (x:Str) (a:List Rw)
mutual
noncomputable def Rw.d:Rw->D
 |.put x k=>.tup [.str "put",.str x,.int k]
 |.take x i=>.tup [.str "take",.str x,.int i]
 |.pick x y=>.tup [.str "pick",.str x,.str y]
 |.two w x y z=>.tup [.str w,.str x,.str y,.str z]
 |.ifr x a b=>.tup [.str "if",.str x,.tup (aG a),.tup (aG b)]
 |.again x a=>.tup [.str "again",.str x,.tup (aG a)]
noncomputable def aG:List Rw->List D
 |[]=>[]
 |r::rs=>r.d::aG rs
end
theorem gl:∀rs:List Rw,aG rs=rs.map Rw.d
 |[]=>rfl
 |r::rs=>by rw[aG,gl rs];rfl
noncomputable abbrev cE:=List (Str×Int)
noncomputable def gN(n:cE)(x:Str):Option Int:=(n.find? λp=>decide (p.1=x)).map (·.2)
noncomputable def nm(n:cE)(x:Str):Int:=(gN n x).getD 0
noncomputable def sN(n:cE)(x:Str)(v:Int):cE:=n.map λp=>if p.1=x then (p.1,v) else p
noncomputable def dF(n:cE):List (aB×D):=n.map λp=>(PX p.1,D.int p.2)
theorem Hd:∀{n:cE}{x:Str},x∈n.map (·.1)->gN n x=ap (nm n x)
 |[],_,h=>by simp at h
 |(y,v)::n,x,h=>by
  by_cases e:y=x
  .simp[gN,nm,e]
  .have:=Hd (n:=n) (x:=x) (by simpa [P0 e,eq_comm,e] using h)
   simpa [gN,nm,e] using this
theorem ce:∀{n:cE}{x:Str},cD (dF n) (PX x)=(gN n x).map D.int
 |[],x=>rfl
 |(y,v)::n,x=>by
  by_cases e:y=x
  .simp[cD,dF,gN,e]
  .have:=ce (n:=n) (x:=x)
   simpa [cD,dF,gN,e] using this
theorem Dj:∀{n:cE}{x:Str},x∈n.map (·.1)->((dF n).any λkv=>decide (kv.1=PX x))=true
 |[],_,h=>by simp at h
 |(y,v)::n,x,h=>by
  by_cases e:y=x
  .simp[dF,e]
  .have:=Dj (n:=n) (x:=x) (by simpa [P0 e,eq_comm,e] using h)
   simp only[dF,Pc,QC,Ta]at this ⊢;exact .inr this
theorem ku(h:x∈n.map (·.1)):dI (dF n) (PX x) (.int v)=dF (sN n x v):=by
 unfold dI;rw[Dj h,if_pos rfl];simp only[dF,sN,PB];apply PZ;intro p _
 by_cases e:p.1=x
 .simp[e]
 .simp[e]
theorem iH:(sN n x v).map (·.1)=n.map (·.1):=by
 simp only[sN,PB];apply PZ;intro p _
 by_cases e:p.1=x<;>simp[e]
theorem MK{y:Str}(h:x∈n.map (·.1)):gN (sN n x v) y=if y=x then ap v else gN n y:=by
 induction n with
 |nil=>simp at h
 |cons p n ih=>
  obtain⟨k,u⟩:=p
  by_cases e:k=x
  .subst e
   by_cases a:y=k
   .subst a;simp[gN,sN]
   .simp only[if_neg a]
    have c:¬k=y:=λz=>a z.symm
    by_cases b:k∈n.map (·.1)
    .have:=ih b
     simpa [gN,sN,c,if_neg a] using this
    .simp only[gN,sN,Pc,if_pos,Qu,c,decide_false]
     congr 1;have:n.map (λp=>if p.1=k then (p.1,v) else p)=n:=by
      conv=>rhs;rw[<- Qw n]
      apply PZ;intro p g;have:p.1≠k:=λz=>b (by rw[<- z];exact PV g)
      simp[this]
     rw[this]
  .have b:x∈n.map (·.1):=by simpa [P0 e,eq_comm,e] using h
   have:=ih b
   by_cases a:y=x
   .subst a;simpa [gN,sN,e] using this
   .by_cases f:k=y
    .subst f;simp[gN,sN,e]
    .simpa [gN,sN,e,f,a] using this
structure Cf where
 m:Int
 pieces:List Int
 most:Nat
structure Sx where
 nums:cE
 steps:List (List Int×Int)
noncomputable def yY(w:Str)(y z m:Int):Int:=if w="sum" then (y+z) % m else if w="by" then y*z % m else if w="less" then (if y<z then 1 else 0) else if y=z then 1 else 0
def num(c:Cf)(n:cE):Rw->Int
 |.put _ k=>k
 |.take _ i=>(c.pieces[i.toNat]?).getD 0
 |.pick _ y=>(c.pieces[(nm n y % (c.pieces.length:Int)).toNat]?).getD 0
 |.two w _ y z=>yY w (nm n y) (nm n z) c.m
 |_=>0
noncomputable def eB:Rw->Str
 |.put x _=>x
 |.take x _=>x
 |.pick x _=>x
 |.two _ x _ _=>x
 |.ifr x _ _=>x
 |.again x _=>x
noncomputable def nt(c:Cf)(pl:Xq)(v:Int)(s:Sx):Bool×Sx:=if s.steps.length<c.most then (true,⟨s.nums,s.steps++[(pl,v)]⟩) else (cm,s)
noncomputable def lk(n:cE)(x:Str):Int:=if nm n x=0 then 0 else 1
noncomputable def fu(c:Cf)(x:Str)(pl:Xq)(body:Nat->Sx->Bool×Sx):Nat->Nat->Sx->Bool×Sx
 |0,_,s=>(cm,s)
 |f+1,t,s=>if (nt c (pl++[(t:Int)]) (lk s.nums x) s).1=true then
   (if lk s.nums x=1 then
    (if (body t (nt c (pl++[(t:Int)]) (lk s.nums x) s).2).1=true then fu c x pl body f (t+1) (body t (nt c (pl++[(t:Int)]) (lk s.nums x) s).2).2 else body t (nt c (pl++[(t:Int)]) (lk s.nums x) s).2)
   else nt c (pl++[(t:Int)]) (lk s.nums x) s)
  else nt c (pl++[(t:Int)]) (lk s.nums x) s
mutual
noncomputable def gr(c:Cf):Rw->List Int->Sx->Bool×Sx
 |.ifr x a b,pl,s=>if (nt c pl (lk s.nums x) s).1=true then (if lk s.nums x=1 then bK c a (pl++[lk s.nums x]) 0 (nt c pl (lk s.nums x) s).2 else bK c b (pl++[lk s.nums x]) 0 (nt c pl (lk s.nums x) s).2) else nt c pl (lk s.nums x) s
 |.again x a,pl,s=>fu c x pl (λt s=>bK c a (pl++[(t:Int)]) 0 s) (c.most+1) 0 s
 |.put x k,pl,s=>if (nt c pl (num c s.nums<|.put x k) s).1=true then (true,⟨sN s.nums x (num c s.nums<|.put x k),(nt c pl (num c s.nums<|.put x k) s).2.steps⟩) else nt c pl (num c s.nums<|.put x k) s
 |.take x i,pl,s=>if (nt c pl (num c s.nums<|.take x i) s).1=true then (true,⟨sN s.nums x (num c s.nums<|.take x i),(nt c pl (num c s.nums<|.take x i) s).2.steps⟩) else nt c pl (num c s.nums<|.take x i) s
 |.pick x y,pl,s=>if (nt c pl (num c s.nums<|.pick x y) s).1=true then (true,⟨sN s.nums x (num c s.nums<|.pick x y),(nt c pl (num c s.nums<|.pick x y) s).2.steps⟩) else nt c pl (num c s.nums<|.pick x y) s
 |.two w x y z,pl,s=>if (nt c pl (num c s.nums<|.two w x y z) s).1=true then (true,⟨sN s.nums x (num c s.nums<|.two w x y z),(nt c pl (num c s.nums<|.two w x y z) s).2.steps⟩) else nt c pl (num c s.nums<|.two w x y z) s
noncomputable def bK(c:Cf):List Rw->List Int->Nat->Sx->Bool×Sx
 |[],_,_,s=>(true,s)
 |r::rs,pl,j,s=>if (gr c r (pl++[(j:Int)]) s).1=true then bK c rs pl (j+1) (gr c r (pl++[(j:Int)]) s).2 else gr c r (pl++[(j:Int)]) s
end
noncomputable def gZ(c:Cf)(r:Rw)(pl:Xq)(s:Sx):Bool×Sx:=if s.steps.length<c.most then (true,⟨sN s.nums (eB r) (num c s.nums r),s.steps++[(pl,num c s.nums r)]⟩) else (cm,s)
noncomputable def bn:Rw->Bool
 |.ifr _ _ _=>cm
 |.again _ _=>cm
 |_=>true
theorem bW{c:Cf}{r:Rw}{pl:Xq}{s:Sx}(h:bn r=true):gr c r pl s=gZ c r pl s:=by
 cases r with
 |ifr x a b=>simp[bn]at h
 |again x a=>simp[bn]at h
 |put x k=>simp only[gr,gZ,nt,eB];split<;>simp_all
 |take x k=>simp only[gr,gZ,nt,eB];split<;>simp_all
 |pick x k=>simp only[gr,gZ,nt,eB];split<;>simp_all
 |two w x y z=>simp only[gr,gZ,nt,eB];split<;>simp_all
theorem ofs_inj(a b:String):(Qq a=Qq b)=(a=b):=by
 refine propext ⟨λh=>?_,λh=>by rw[h]⟩
 rw[Str.ofString_eq_byList]at h;have c:=congrArg (λx:Str=>x.cps.toList) h;simp only[Str.ofStringByList]at c;exact String.toList_inj.mp ((List.map_inj_right λx y e=>Char.toNat_inj.mp e).mp c)
end _T
open PySem _2 _3 _T
local macro_rules | `(tactic| simp! [$a,*]) => do let p <- ("kW pK kS qg wV vL vz wz v_ rH qG qC qM qh rB qf k8 pZ pU qe qj gE km iU rX qy qA rW qz gq qt qQ qB qF rq pO rP qO si qV qE rD sx r9 qT qR gw sC lV lW iP dy sD pL qr qN pz pw iI qJ ra qv kH pP kP kZ kG sh m3 kR kA ki kE kT kt k6 ko qx ma rf qI qp qY pJ rV pV pH rG kI qc mz ms iY ik mF iO iD mD lE iV nD mh ng me lj m9 mP rl q_ gn sF qD rT ix qX pS lG wX wF jg wH vT vD w6 sw rS sg rC qd pT pC r8 lb kO qo rZ m5 lR mH mx nc Dv DF Mh Cb yB LK vX kx pG uQ iu aI startN ah aC ak bI u_ ai bG f_ dv bF fits aN e_ ac dC av jq aw dX nK Al jN Iw oI jS iw au aE eY al frz ba fP fh fL ao ag cU aL cL cO pE aa af aP bp br bY fk bA cG df Ku pf CJ EJ aV cC bq nC bL AA E9 hZ je gk eP cH AG tN lD Bf Me xJ dG b_ aj cZ fT bo cM ot NT b6 bJ de bf cu fK frzT frzs Ki ia sJ lg".splitOn " ").toArray.mapM (fun s => `(Lean.Parser.Tactic.simpLemma| ↓$(Lean.mkIdent s.toName):ident)); let q <- ("List.map_cons List.map_nil List.cons_append List.nil_append List.length_cons List.length_nil List.getElem?_cons_succ List.getElem?_cons_zero List.set_cons_succ List.set_cons_zero Nat.zero_add Nat.reduceAdd Nat.reduceSub List.replicate_succ List.replicate_zero List.append_nil true_and and_true if_true if_false Bool.false_eq_true decide_eq_true_eq decide_eq_false_iff_not Bool.not_true Bool.not_false Bool.and_true Bool.true_and Bool.and_false Bool.false_and Mem.upd_same Option.isSome_some Option.isSome_none ofs_inj String.reduceEq".splitOn " ").toArray.mapM (fun s => `(Lean.Parser.Tactic.simpLemma| $(Lean.mkIdent s.toName):ident)); let r : Lean.TSyntaxArray [`Lean.Parser.Tactic.simpStar, `Lean.Parser.Tactic.simpErase, `Lean.Parser.Tactic.simpLemma] := (p.map (⟨·.raw⟩)) ++ (q.map (⟨·.raw⟩)) ++ a.getElems; `(tactic| simp -dsimp only [$r,*])
namespace _T
open PySem _2 _3
variable{ad:Ad}{c:Cf}{Q:DK}{E:DX}{names:Xr}{M:Mem}{r:Rw}{n:cE}
theorem jx{w:Str}{y z m:Int}(b:0<m)(i:0<=y)(g:y<1000)(h:Q (.int<|yY w y z m) M):xP ad [.str w,.int y,.int z,.int m] M Q E:=by
 have f:CMul y z:=.inl ⟨by lia,by lia⟩
 unfold yY at h;simp![O2,xM]
 split
 .rename_i e;rw[if_pos e]at h;exact⟨b,am h⟩
 .rename_i e;rw[if_neg e]at h
  split
  .rename_i e;rw[if_pos e]at h;exact⟨f,b,am h⟩
  .rename_i e;rw[if_neg e]at h
   split
   .rename_i e;rw[if_pos e]at h
    split<;>rename_i a
    .rw[if_pos a]at h;exact am h
    .rw[if_neg a]at h;exact am h
   .rename_i e;rw[if_neg e]at h
    split<;>rename_i a
    .rw[if_pos a]at h;exact am h
    .rw[if_neg a]at h;exact am h
def c_(names:Xr)(m many:Int):Rw->Prop
 |.put x k=>x∈names/\0<=k/\k<m
 |.take x i=>x∈names/\0<=i/\i<many
 |.pick x y=>x∈names/\y∈names/\0<many
 |.two w x y z=>(w="sum"\/w="by"\/w="less"\/w="same")/\x∈names/\y∈names/\z∈names
 |_=>False
structure NOk(names:Xr)(m:Int)(n:cE):Prop where
 keys:n.map (·.1)=names
 rng:∀p∈n,0<=p.2/\p.2<m
theorem NOk.at{names:Xr}{m:Int}{n:cE}(h:NOk names m n){x:Str}(f:x∈names):gN n x=ap (nm n x)/\0<=nm n x/\nm n x<m:=by
 have e:gN n x=ap (nm n x):=Hd (by rw[h.keys];exact f)
 refine⟨e,?_⟩;unfold gN at e;obtain⟨p,b,a⟩:=Qp.mp e;rw[<- a];exact h.rng p (List.mem_of_find?_eq_some b)
theorem FQ{w:Str}{y z m:Int}(g:2<=m):0<=yY w y z m/\yY w y z m<m:=by
 unfold yY;have b:=QJ (y+z) (show m≠0 by lia)
 have f:=QB (y+z) (show 0<m by lia)
 have a:=QJ (y*z) (show m≠0 by lia)
 have e:=QB (y*z) (show 0<m by lia)
 repeat' split
 all_goals lia
structure COk(c:Cf):Prop where
 m2:2<=c.m
 m1:c.m<=997
 rng:∀v∈c.pieces,0<=v/\v<c.m
 few:c.pieces.length<=1000
 most:c.most<=10000
theorem COk.piece(h:COk c){i:Nat}(a:i<c.pieces.length):c.pieces[i]?=ap ((c.pieces[i]?).getD 0)/\0<=(c.pieces[i]?).getD 0/\(c.pieces[i]?).getD 0<c.m:=by
 rw[Pb a];exact⟨rfl,h.rng _<|Q5 a⟩
theorem zd(h:COk c)(g:NOk names c.m n)(a:c_ names c.m c.pieces.length r):0<=num c n r/\num c n r<c.m:=by
 cases r with
 |put x k=>exact a.2
 |take x i=>exact(h.piece (i:=i.toNat)<|by have:=a.2;lia).2
 |pick x y=>
  have b:=a.2.2;have e:=QJ (nm n y) (show (c.pieces.length:Int)≠0 by lia)
  have f:=QB (nm n y) b;exact(h.piece (i:=(nm n y % (c.pieces.length:Int)).toNat)<|by lia).2
 |two w x y z=>exact FQ h.m2
 |ifr=>exact a.elim
 |again=>exact a.elim
noncomputable def aT(c:Cf)(names:Xr)(rows:List Rw)(mk:Str):D:=.tup [.int c.m,.tup (names.map D.str),.int (c.pieces.length:Nat),.tup (aG rows),.str mk]
theorem cw{rows:List Rw}{mk:Str}{b:ca}(f:NOk names c.m n)(a:c_ names c.m c.pieces.length r)(g:M b=ap (.dK<|dF n))(h:Q (match r with|.take _ i=>.int i|.pick _ y=>.int (nm n y % (c.pieces.length:Int))|_=>.non) M):mK ad [aT c names rows mk,.ref b,r.d] M Q E:=by
 cases r with
 |put x k=>(simp![o8,iN,aT,Rw.d,atI_0,atI_2];exact am h)
 |take x i=>(simp![o8,iN,aT,Rw.d,atI_0,atI_2];exact am h)
 |pick x y=>
  simp![o8,iN,aT,Rw.d,atI_0,atI_2,g,ce,(f.at a.2.1).1,Qe];exact⟨a.2.2,am h⟩
 |two w x y z=>
  obtain⟨e,_⟩:=a;rcases e with rfl|rfl|rfl|rfl<;>(simp![o8,iN,aT,Rw.d,atI_0,atI_2];exact am h)
 |ifr=>exact a.elim
 |again=>exact a.elim
theorem lI{rows:List Rw}{mk:Str}{v:ca}(g:COk c)(e:NOk names c.m n)(b:c_ names c.m c.pieces.length r)(f:M v=ap (.dK<|dF n))(h:Q (.int<|num c n r) M):lP ad [aT c names rows mk,.ref v,.tup (c.pieces.map D.int),r.d] M Q E:=by
 have F:=g.m1;have A:=g.m2;cases r with
 |put x k=>
  simp![jC,g5,aT,Rw.d,atI_0,atI_2];exact am h
 |take x i=>
  have a:=b;obtain⟨u,o,J⟩:=a;have l:=g.piece (i:=i.toNat) (by lia)
  have p:(c.pieces.map D.int)[i.toNat]?=ap (.int<|num c n<|.take x i):=by rw[Ph,l.1];rfl
  simp![jC,g5,aT,Rw.d,atI_0,atI_2];refine aH (d:=.int i) (λ_ _ q=>cw (c:=c) (names:=names) (rows:=rows) (mk:=mk) (r:=.take x i) e b f q) ?_;simp![bi o,p];exact am h
 |pick x y=>
  have a:=b;obtain⟨u,s,o⟩:=a;have g0:=QJ (nm n y) (show (c.pieces.length:Int)≠0 by lia)
  have I:=QB (nm n y) o;have l:=g.piece (i:=(nm n y % (c.pieces.length:Int)).toNat) (by lia)
  have p:(c.pieces.map D.int)[(nm n y % (c.pieces.length:Int)).toNat]?=ap (.int<|num c n<|.pick x y):=by rw[Ph,l.1];rfl
  simp![jC,g5,aT,Rw.d,atI_0,atI_2];refine aH (d:=.int (nm n y % (c.pieces.length:Int))) (λ_ _ q=>cw (c:=c) (names:=names) (rows:=rows) (mk:=mk) (r:=.pick x y) e b f q) ?_;simp![bi g0,p];exact am h
 |two w x y z=>
  have a:=b;obtain⟨B,u,s,G⟩:=a;have C:=e.at s;have H:=e.at G;have j:((w=Qq "put")=False):=by rcases B with rfl|rfl|rfl|rfl<;>exact eq_false (by decide +kernel)
  simp![jC,g5,aT,Rw.d,atI_0,atI_2,j];refine aH (d:=.non) (λ_ _ q=>cw (c:=c) (names:=names) (rows:=rows) (mk:=mk) (r:=.two w x y z) e b f q) ?_;simp![atI_0,atI_2,atI_3,f,ce,C.1,H.1,Qe];exact aH (d:=.int (num c n<|.two w x y z)) (λ_ _ q=>jx (by lia) (by lia) (by lia) q) (am h)
 |ifr=>exact b.elim
 |again=>exact b.elim
structure Wk where
 a:ca
 dn:ca
 ls:ca
 h1:a≠dn
 h2:a≠ls
 h3:dn≠ls
noncomputable def gB(l:Xq):D:=.tup (l.map D.int)
noncomputable def wb(l:List (List Int×Int)):List D:=l.map λp=>.tup [gB p.1,.int p.2]
noncomputable def wM(ad:Ad)(k:Wk)(c:Cf)(pD:D)(s:Sx)(M:Mem):Mem:=
 ((M.upd k.a<|.ins ad.C_Walk [("plan",pD),("numbers",.ref k.dn),("pieces",.tup (c.pieces.map D.int)),("most",.int (c.most:Nat)),("steps",.ref k.ls)]).upd k.dn<|.dK<|dF s.nums).upd k.ls (.lst<|wb s.steps)
section
variable{k:Wk}{pD:D}{s:Sx}
theorem nP:wM ad k c pD s M k.a=ap (.ins ad.C_Walk [("plan",pD),("numbers",.ref k.dn),("pieces",.tup (c.pieces.map D.int)),("most",.int (c.most:Nat)),("steps",.ref k.ls)]):=by
 unfold wM;rw[ae k.h2,ae k.h1,Mem.upd_same]
theorem xn:wM ad k c pD s M k.dn=ap (.dK<|dF s.nums):=by unfold wM;rw[ae k.h3,Mem.upd_same]
theorem HK:wM ad k c pD s M k.ls=ap (.lst<|wb s.steps):=by unfold wM;rw[Mem.upd_same]
theorem DZ{x:List (List Int×Int)}:(wM ad k c pD s M).upd k.ls (.lst<|wb x)=wM ad k c pD ⟨s.nums,x⟩ M:=by unfold wM;rw[Mem.upd_upd]
theorem ED{x:cE}:(wM ad k c pD s M).upd k.dn (.dK<|dF x)=wM ad k c pD ⟨x,s.steps⟩ M:=by
 unfold wM;rw[az (P0 k.h3),Mem.upd_upd]
theorem lf0:P1 ("plan":Str) [(("plan":Str),x0),(("numbers":Str),x1),(("pieces":Str),x2),(("most":Str),x3),(("steps":Str),x4)]=ap (x0:D):=rfl
theorem E7:P1 ("numbers":Str) [(("plan":Str),x0),(("numbers":Str),x1),(("pieces":Str),x2),(("most":Str),x3),(("steps":Str),x4)]=ap (x1:D):=rfl
theorem lf2:P1 ("pieces":Str) [(("plan":Str),x0),(("numbers":Str),x1),(("pieces":Str),x2),(("most":Str),x3),(("steps":Str),x4)]=ap (x2:D):=rfl
theorem lf3:P1 ("most":Str) [(("plan":Str),x0),(("numbers":Str),x1),(("pieces":Str),x2),(("most":Str),x3),(("steps":Str),x4)]=ap (x3:D):=rfl
theorem lf4:P1 ("steps":Str) [(("plan":Str),x0),(("numbers":Str),x1),(("pieces":Str),x2),(("most":Str),x3),(("steps":Str),x4)]=ap (x4:D):=rfl
theorem lfm:P1 ("note_step":Str) [(("plan":Str),x0),(("numbers":Str),x1),(("pieces":Str),x2),(("most":Str),x3),(("steps":Str),x4)]=(none:Option D):=rfl
theorem lfl:P1 ("look":Str) [(("plan":Str),x0),(("numbers":Str),x1),(("pieces":Str),x2),(("most":Str),x3),(("steps":Str),x4)]=(none:Option D):=rfl
theorem fZ{pl:Xq}{v:Int}(h:c.most<=10000)(b:(nt c pl v s).1=true->Q .non (wM ad k c pD (nt c pl v s).2 M))(f:(nt c pl v s).1=cm->E ad.C_Dry (wM ad k c pD (nt c pl v s).2 M)):
  wc ad [.ref k.a,gB pl,.int v] (wM ad k c pD s M) Q E:=by
 unfold nt at b f;simp![u_q2,Ez,nP,HK,lf3,lf4,wb,Pa]
 split
 .rename_i e
  have:¬s.steps.length<c.most:=by lia
  rw[if_neg this]at f;exact eA (f rfl)
 .rename_i e
  have g:s.steps.length<c.most:=by lia
  rw[if_pos g]at b;refine⟨bg (by decide),fS (by lia),am ?_⟩
  have:=b rfl;rw[<- DZ]at this;simpa [wb] using this
end
end _T
namespace _3
open PySem _2
noncomputable def eE:Nat->List D->List D
 |_,[]=>[]
 |k,x::xs=>.tup [.int (k:Nat),x]::eE (k+1) xs
theorem uE:∀(xs:List D)(k:Nat),(xs.zipIdx k).map (λp=>D.tup [.int (p.2:Nat),p.1])=eE k xs
 |[],_=>rfl
 |x::xs,k=>by rw[SV,Pc,uE xs (k+1)];rfl
theorem lZ(xs:List D):uy xs=eE 0 xs:=uE xs 0
theorem aK{xs:List D}{M:Mem}:DIt.ok ⟨xs,[]⟩ M:=λ_ h=>by cases h
end _3
namespace _T
open PySem _2 _3
variable{ad:Ad}{l ln lp p rm:ca}{c:Cf}{C:Cse}{D' D0:DEnds}{K Q:DK}{E EE:DX}{U:Dl}{g:Gs}{a b hh left m many sd v:Int}{ns nums ps xs:Xq}{Xl rest rows Xp rs td:List Rw}{names:Xr}{ks u us:List aB}{o:MO}{M M' M0 N:Mem}{B L fi i j n:Nat}{r:Rw}{s z:Sta}{mk w x y:Str}{A:aA}{q:aB}{te:bh}{n1 n2:cE}{tt:eU}
mutual
def dA(names:Xr)(m many:Int):Rw->Prop
 |.ifr x a b=>x∈names/\bj names m many a/\bj names m many b
 |.again x a=>x∈names/\bj names m many a
 |.put x k=>c_ names m many (.put x k)
 |.take x k=>c_ names m many (.take x k)
 |.pick x k=>c_ names m many (.pick x k)
 |.two w x y z=>c_ names m many (.two w x y z)
def bj(names:Xr)(m many:Int):List Rw->Prop
 |[]=>True
 |r::rs=>dA names m many r/\bj names m many rs
end
mutual
noncomputable def hR:Rw->Nat
 |.ifr _ a b=>1+max (dj a) (dj b)
 |.again _ a=>1+dj a
 |_=>0
noncomputable def dj:List Rw->Nat
 |[]=>0
 |r::rs=>max (hR r) (dj rs)
end
section
theorem Cg{n:cE}(f:NOk names c.m n)(F:0<=v/\v<c.m):NOk names c.m (sN n x v):=by
 refine⟨by rw[iH];exact f.keys,λp e=>?_⟩
 simp only[sN,Pq]at e;obtain⟨q,h,rfl⟩:=e
 split
 .exact F
 .exact f.rng q h
theorem fE{pl:Xq}{s:Sx}:(nt c pl v s).2.nums=s.nums:=by unfold nt;split<;>rfl
theorem kX(h:COk c)(f:c_ names c.m c.pieces.length r){pl:Xq}{s:Sx}(e:NOk names c.m s.nums):NOk names c.m (gZ c r pl s).2.nums:=by
 unfold gZ
 split
 .exact Cg e (zd h e f)
 .exact e
theorem yg{x:Str}{pl:Xq}{e:Nat->Sx->Bool×Sx}(G:∀t s,NOk names c.m s.nums->NOk names c.m (e t s).2.nums):∀(f t:Nat)(s:Sx),NOk names c.m s.nums->NOk names c.m (fu c x pl e f t s).2.nums
 |0,_,s,h=>h
 |f+1,t,s,h=>by
  have F:NOk names c.m (nt c (pl++[(t:Int)]) (lk s.nums x) s).2.nums:=by rw[fE];exact h
  unfold fu
  split
  .split
   .split
    .exact yg G f (t+1) _ (G t _ F)
    .exact G t _ F
   .exact F
  .exact F
mutual
theorem pQ(e:COk c):∀(r:Rw),dA names c.m c.pieces.length r->∀(pl:Xq)(s:Sx),NOk names c.m s.nums->NOk names c.m (gr c r pl s).2.nums
 |.ifr x a b,h,pl,s,hn=>by
  have f:NOk names c.m (nt c pl (lk s.nums x) s).2.nums:=by rw[fE];exact hn
  simp only[dA]at h;unfold gr
  split
  .split
   .exact dk e a h.2.1 _ _ _ f
   .exact dk e b h.2.2 _ _ _ f
  .exact f
 |.again x a,h,pl,s,hn=>by
  simp only[dA]at h;unfold gr;exact yg (λt s F=>dk e a h.2 _ _ _ F) _ _ _ hn
 |.put x k,h,pl,s,hn=>by rw[bW rfl];exact kX e (by simpa only[dA] using h) hn
 |.take x k,h,pl,s,hn=>by rw[bW rfl];exact kX e (by simpa only[dA] using h) hn
 |.pick x k,h,pl,s,hn=>by rw[bW rfl];exact kX e (by simpa only[dA] using h) hn
 |.two w x y z,h,pl,s,hn=>by rw[bW rfl];exact kX e (by simpa only[dA] using h) hn
theorem dk(e:COk c):∀(rs:List Rw),bj names c.m c.pieces.length rs->∀(pl:Xq)(j:Nat)(s:Sx),NOk names c.m s.nums->NOk names c.m (bK c rs pl j s).2.nums
 |[],_,_,_,s,hn=>by simpa only[bK] using hn
 |r::rs,h,pl,j,s,hn=>by
  simp only[bj]at h;unfold bK
  split
  .exact dk e rs h.2 _ _ _ (pQ e r h.1 _ _ hn)
  .exact pQ e r h.1 _ _ hn
end
end
def Post(ad:Ad)(k:Wk)(c:Cf)(pD:D)(r:Bool×Sx)(M:Mem)(d:D)(Q:DK)(E:DX):Prop:=(r.1=true->Q d (wM ad k c pD r.2 M))/\(r.1=cm->E ad.C_Dry (wM ad k c pD r.2 M))
theorem bz{k:Wk}{f:D}{r:Bool×Sx}{d:D}{T:Sd}{ds:List D}(H:∀Q' E',Post ad k c f r M d Q' E'->T ds M0 Q' E'){b:BxQ E Q}(h:Post ad k c f r M d Q E):calls T E ds M0 Q b:=
 aq λQ' E' F G=>H Q' E' ⟨λe=>F _ _ (h.1 e),λe=>G _ _ (h.2 e)⟩
theorem Post.drp{k:Wk}{f:D}{r:Bool×Sx}{d:D}(h:Post ad k c f r M d Q E):Post ad k c f r M d (_3.drp Q) (aM E):=⟨λe=>am (h.1 e),λe=>eA (h.2 e)⟩
section
variable{k:Wk}{s:Sx}
theorem pj{pl:Xq}(I:COk c)(G:NOk names c.m s.nums)(H:x∈names)(h:Post ad k c (aT c names Xp mk) (nt c pl (lk s.nums x) s) M (.int<|lk s.nums x) Q E):
  oo ad [.ref k.a,gB pl,.str x] (wM ad k c (aT c names Xp mk) s M) Q E:=by
 have F:=G.at H;have f:∀v:Int,v=lk s.nums x->calls (wc ad) (aM E) [.ref k.a,gB pl,.int v] (wM ad k c (aT c names Xp mk) s M) (λ_ M1=>_3.drp Q (.int v) M1) ⟨⟩:=by
  rintro v rfl
  exact bz (d:=.non) (λQ' E' z=>fZ I.most z.1 z.2) ⟨λe=>am (h.1 e),λe=>eA (h.2 e)⟩
 simp![MQ,zu,nP,xn,E7,lfm,ce,F.1,Qe]
 split
 .rename_i e
  exact f 0 (by unfold lk;rw[if_pos e])
 .rename_i e
  exact f 1 (by unfold lk;rw[if_neg e])
theorem ja(h:c_ names m many r):∃w rest,r.d=.tup (.str w::.str (eB r)::rest)/\(w="again")=False/\(w="if")=False:=by
 cases r with
 |put x k=>exact⟨_,_,rfl,(eq_false<|by decide +kernel),(eq_false<|by decide +kernel)⟩
 |take x k=>exact⟨_,_,rfl,(eq_false<|by decide +kernel),(eq_false<|by decide +kernel)⟩
 |pick x k=>exact⟨_,_,rfl,(eq_false<|by decide +kernel),(eq_false<|by decide +kernel)⟩
 |two w x y z=>
  refine⟨_,_,rfl,?_⟩;rcases h.1 with rfl|rfl|rfl|rfl
  .exact⟨(eq_false<|by decide +kernel),(eq_false<|by decide +kernel)⟩
  .exact⟨(eq_false<|by decide +kernel),(eq_false<|by decide +kernel)⟩
  .exact⟨(eq_false<|by decide +kernel),(eq_false<|by decide +kernel)⟩
  .exact⟨(eq_false<|by decide +kernel),(eq_false<|by decide +kernel)⟩
 |ifr=>exact h.elim
 |again=>exact h.elim
theorem dw{pl:Xq}(X:names.length<=1000)(T:COk c)(P:NOk names c.m s.nums)(F:c_ names c.m c.pieces.length r)(h:Post ad k c (aT c names Xp mk) (gZ c r pl s) M .non Q E):
  Vj ad (n+1) [.ref k.a,r.d,gB pl] (wM ad k c (aT c names Xp mk) s M) Q E:=by
 obtain⟨w,rest,S,J,O⟩:=ja F;have fin:calls (lP ad) (aM E) [aT c names Xp mk,.ref k.dn,.tup (c.pieces.map D.int),r.d] (wM ad k c (aT c names Xp mk) s M) (λd M'=>frz d M' λx M1=>
   ag 3 x [ap (.ref k.a),ap r.d,ap (gB pl),bb] M1 λU M2=>ah (bq<|cZ ad.C_Walk "note_step" (wc ad) (aM E) 3 (ac 0)<|aa (ac 2)<|aa (ac 3) af)
    (ao (ac 3)<|cO (aV ad.C_Walk (ac 0) "numbers")<|ai au (ac 1)<|dC<|.int 1) { nx:=λ_ M'=>_3.drp Q .non M',rt:=_3.drp Q } U M2) ⟨⟩:=by
  refine aH (d:=.int (num c s.nums r)) (λ_ _ q=>lI T P F xn q) ?_;simp![nP,lfm];refine bz (r:=nt c pl (num c s.nums r) s) (d:=.non) (λQ' E' z=>fZ T.most z.1 z.2) ?_;unfold gZ at h;unfold nt;have G:eB r∈s.nums.map (·.1):=by
   rw[P.keys];cases r with
   |put x k=>exact F.1
   |take x k=>exact F.1
   |pick x k=>exact F.1
   |two w x y z=>exact F.2.1
   |ifr=>exact F.elim
   |again=>exact F.elim
  split
  .rename_i I
   rw[if_pos I]at h;refine⟨λ_=>?_,λe=>by simp at e⟩
   have R:=h.1 rfl;have W:wM ad k c (aT c names Xp mk) ⟨sN s.nums (eB r) (num c s.nums r),s.steps++[(pl,num c s.nums r)]⟩ M=(wM ad k c (aT c names Xp mk) ⟨s.nums,s.steps++[(pl,num c s.nums r)]⟩ M).upd k.dn (.dK<|dI (dF s.nums) (PX<|eB r)<|.int<|num c s.nums r):=by
    rw[ku G,ED]
   rw[W]at R;have H:(dF s.nums).length<sizeLine:=by rw[dF,Pa,<- Pa (f:=(·.1)),P.keys];exact fS (by lia)
   rw[S];simp![nP,xn,E7,atI_1];exact⟨H,am R⟩
  .rename_i I
   rw[if_neg I]at h;exact⟨λe=>by simp at e,λ_=>eA (h.2 rfl)⟩
 rw[S]at fin ⊢;simp![BB,oz,nP,lf0,E7,lf2,atI_0,J,O];exact fin
end
section
def Gr(c:Cf)(s s':Sx):Prop:=s.steps.length<=s'.steps.length/\(s.steps.length<=c.most->s'.steps.length<=c.most)
theorem Gr.refl{s:Sx}:Gr c s s:=⟨Pl _,id⟩
theorem Gr.trans{s f e:Sx}(a:Gr c s f)(b:Gr c f e):Gr c s e:=⟨PL a.1 b.1,λh=>b.2 (a.2 h)⟩
theorem nt_gr{pl:Xq}{s:Sx}:Gr c s (nt c pl v s).2:=by
 unfold nt
 split
 .refine⟨by simp,λ_=>?_⟩;simp;lia
 .exact Gr.refl
theorem kF{pl:Xq}{s:Sx}:Gr c s (gZ c r pl s).2:=by
 unfold gZ
 split
 .refine⟨by simp,λ_=>?_⟩;simp;lia
 .exact Gr.refl
theorem yA{x:Str}{pl:Xq}{e:Nat->Sx->Bool×Sx}(h:∀t s,Gr c s (e t s).2):∀(f t:Nat)(s:Sx),Gr c s (fu c x pl e f t s).2
 |0,_,s=>Gr.refl
 |f+1,t,s=>by
  unfold fu
  split
  .split
   .split
    .exact nt_gr.trans ((h t _).trans<|yA h f (t+1) _)
    .exact nt_gr.trans (h t _)
   .exact nt_gr
  .exact nt_gr
mutual
theorem sB:∀(r:Rw)(pl:Xq)(s:Sx),Gr c s (gr c r pl s).2
 |.ifr x a b,pl,s=>by
  unfold gr
  split
  .split
   .exact nt_gr.trans (fF a _ _ _)
   .exact nt_gr.trans (fF b _ _ _)
  .exact nt_gr
 |.again x a,pl,s=>by
  unfold gr;exact yA (λt s=>fF a _ _ _) _ _ _
 |.put x k,pl,s=>by rw[bW rfl];exact kF
 |.take x k,pl,s=>by rw[bW rfl];exact kF
 |.pick x k,pl,s=>by rw[bW rfl];exact kF
 |.two w x y z,pl,s=>by rw[bW rfl];exact kF
theorem fF:∀(rs:List Rw)(pl:Xq)(j:Nat)(s:Sx),Gr c s (bK c rs pl j s).2
 |[],_,_,s=>by unfold bK;exact Gr.refl
 |r::rs,pl,j,s=>by
  unfold bK
  split
  .exact(sB r _ _).trans (fF rs _ _ _)
  .exact sB r _ _
end
end
theorem g6{pl:Xq}:D.tup (pl.map D.int++[D.int v])=gB (pl++[v]):=by simp[gB]
section
variable{k:Wk}
def z6(ad:Ad)(k:Wk)(c:Cf)(names:Xr)(Xp:List Rw)(mk:Str)(n:Nat):Prop:=∀(rs:List Rw)(pl:Xq)(s:Sx)(M:Mem)(Q:DK)(E:DX),bj names c.m c.pieces.length rs->3*dj rs+2<=n->pl.length+2*dj rs+2<=1000->NOk names c.m s.nums->s.steps.length<=c.most->
 Post ad k c (aT c names Xp mk) (bK c rs pl 0 s) M .non Q E->Vh ad n [.ref k.a,.tup (aG rs),gB pl] (wM ad k c (aT c names Xp mk) s M) Q E
def Jd(ad:Ad)(k:Wk)(c:Cf)(names:Xr)(Xp:List Rw)(mk:Str)(n:Nat):Prop:=∀(r:Rw)(pl:Xq)(s:Sx)(M:Mem)(Q:DK)(E:DX),dA names c.m c.pieces.length r->3*hR r+1<=n->pl.length+2*hR r+1<=1000->NOk names c.m s.nums->s.steps.length<=c.most->
 Post ad k c (aT c names Xp mk) (gr c r pl s) M .non Q E->Vj ad n [.ref k.a,r.d,gB pl] (wM ad k c (aT c names Xp mk) s M) Q E
def PIf(ad:Ad)(k:Wk)(c:Cf)(names:Xr)(Xp:List Rw)(mk:Str)(n:Nat):Prop:=∀(x:Str)(a b:List Rw)(pl:Xq)(s:Sx)(M:Mem)(Q:DK)(E:DX),dA names c.m c.pieces.length (.ifr x a b)->3*hR (.ifr x a b)<=n->pl.length+2*hR (.ifr x a b)+1<=1000->NOk names c.m s.nums->s.steps.length<=c.most->
 Post ad k c (aT c names Xp mk) (gr c (.ifr x a b) pl s) M .non Q E->Vk ad n [.ref k.a,(Rw.ifr x a b).d,gB pl] (wM ad k c (aT c names Xp mk) s M) Q E
def PAg(ad:Ad)(k:Wk)(c:Cf)(names:Xr)(Xp:List Rw)(mk:Str)(n:Nat):Prop:=∀(x:Str)(a:List Rw)(pl:Xq)(s:Sx)(M:Mem)(Q:DK)(E:DX),dA names c.m c.pieces.length (.again x a)->3*hR (.again x a)<=n->pl.length+2*hR (.again x a)+1<=1000->NOk names c.m s.nums->s.steps.length<=c.most->
 Post ad k c (aT c names Xp mk) (gr c (.again x a) pl s) M .non Q E->Vl ad n [.ref k.a,(Rw.again x a).d,gB pl] (wM ad k c (aT c names Xp mk) s M) Q E
theorem zI(Y:COk c)(X:Jd ad k c names Xp mk n):z6 ad k c names Xp mk (n+1):=by
 intro rs pl s M Q E F T J G H h;simp![Mm,yK,cB,lZ]
 refine cI (λxs U M'=>∃(f:List Rw)(j:Nat)(I:Sx)(R W:Option D),xs=eE j (aG f)/\U=[ap (.ref k.a),ap (.tup<|aG rs),ap (gB pl),R,W]/\M'=wM ad k c (aT c names Xp mk) I M/\bj names c.m c.pieces.length f/\3*dj f+2<=n+1/\pl.length+2*dj f+2<=1000/\NOk names c.m I.nums/\I.steps.length<=c.most/\
  Post ad k c (aT c names Xp mk) (bK c f pl j I) M .non Q E) (λ_ _ _ _=>aK) ?_ ?_ _ _ _ ⟨rs,0,s,bb,bb,rfl,rfl,rfl,F,T,J,G,H,h⟩
 .rintro U M' ⟨f,j,I,R,W,O,rfl,rfl,F,T,J,G,H,h⟩
  cases f with
  |nil=>exact am (by simpa [bK] using h.1 (by simp[bK]))
  |cons r rs=>simp[aG,eE]at O
 .rintro x xs U M' ⟨f,j,I,R,W,O,rfl,rfl,F,T,J,G,H,h⟩ D' S _ _ _
  cases f with
  |nil=>simp[aG,eE]at O
  |cons r f=>
   simp only[aG,eE,Qm]at O;obtain⟨rfl,rfl⟩:=O;simp only[bj]at F;have Z:hR r<=dj (r::f)/\dj f<=dj (r::f):=by simp only[dj];lia
   simp![gB,Pz,Pa];refine⟨bg (by decide),bg (by lia),?_⟩
   rw[g6];refine bz (r:=gr c r (pl++[(j:Int)]) I) (d:=.non) (λQ' E' z=>X r (pl++[(j:Int)]) I M Q' E' F.1 (by lia) (by simp;lia) G H z) ?_
   simp only[bK]at h;cases P:(gr c r (pl++[(j:Int)]) I).1 with
   |true=>
    rw[if_pos P]at h;refine⟨λ_=>S _ _ ⟨f,j+1,_,_,_,rfl,rfl,rfl,F.2,by lia,by lia,pQ Y r F.1 _ _ G,(sB r _ _).2 H,h⟩,λe=>by rw[P]at e;cases e⟩
   |false=>
    rw[if_neg (by rw[P];simp)]at h
    exact⟨λe=>(by rw[P]at e;cases e),λ_=>eA (h.2 P)⟩
theorem Be(F:names.length<=1000)(J:COk c)(P:PIf ad k c names Xp mk n)(O:PAg ad k c names Xp mk n):Jd ad k c names Xp mk (n+1):=by
 intro r pl s M Q E e R H f G h;cases r with
 |put x kk=>rw[bW rfl]at h;exact dw F J f (by simpa only[dA] using e) h
 |take x kk=>rw[bW rfl]at h;exact dw F J f (by simpa only[dA] using e) h
 |pick x kk=>rw[bW rfl]at h;exact dw F J f (by simpa only[dA] using e) h
 |two w x y z=>rw[bW rfl]at h;exact dw F J f (by simpa only[dA] using e) h
 |ifr x a b=>
  have I:=λQ' E' z=>P x a b pl s M Q' E' e (by lia) H f G z
  simp only[Rw.d]at I;simp![BB,oz,Rw.d,atI_0];exact bz I h.drp
 |again x a=>
  have I:=λQ' E' z=>O x a pl s M Q' E' e (by lia) H f G z
  simp only[Rw.d]at I;simp![BB,oz,Rw.d,atI_0];exact bz I h.drp
theorem Eo(S:COk c)(P:z6 ad k c names Xp mk n):PIf ad k c names Xp mk (n+1):=by
 intro x a b pl s M Q E G R J I O h;simp only[dA]at G;simp only[hR]at R J;simp![MB,y3,Rw.d,nP,lfl,atI_1,atI_2,atI_3];refine bz (r:=nt c pl (lk s.nums x) s) (d:=.int (lk s.nums x)) (λQ' E' z=>pj S I G.1 z) ?_;have hl:lk s.nums x=0\/lk s.nums x=1:=by unfold lk;split<;>simp
 have F:NOk names c.m (nt c pl (lk s.nums x) s).2.nums:=by rw[fE];exact I
 have f:=(nt_gr (c:=c) (pl:=pl) (v:=lk s.nums x) (s:=s)).2 O;unfold gr at h;cases H:(nt c pl (lk s.nums x) s).1 with
 |false=>
  rw[if_neg (by rw[H];simp)]at h
  exact⟨λe=>(by rw[H]at e;cases e),λ_=>eA (h.2 H)⟩
 |true=>
  rw[if_pos H]at h;refine⟨λ_=>?_,λe=>by rw[H]at e;cases e⟩
  rcases hl with hl|hl
  .rw[if_neg (by rw[hl];decide)]at h
   rw[hl]at h F f ⊢;simp![atI_2,atI_3,gB,Pz,Pa,show ((0:Int)=1)=False from eq_false (by decide)]
   refine⟨bg (by decide),bg (by lia),?_⟩
   rw[g6];exact bz (λQ' E' z=>P b (pl++[0]) _ M Q' E' G.2.2 (by lia) (by simp;lia) F f z) h.drp
  .rw[if_pos hl]at h
   rw[hl]at h F f ⊢;simp![atI_2,atI_3,gB,Pz,Pa];refine⟨bg (by decide),bg (by lia),?_⟩
   rw[g6];exact bz (λQ' E' z=>P a (pl++[1]) _ M Q' E' G.2.1 (by lia) (by simp;lia) F f z) h.drp
end
section
variable{k:Wk}
theorem vg(hc:COk c)(ih:z6 ad k c names Xp mk n):PAg ad k c names Xp mk (n+1):=by
 intro x a pl s M Q E P hn Y F O h;simp only[dA]at P;simp only[hR]at hn Y;simp![NM,yO,Rw.d,h_];refine⟨c.most+1,?_⟩;unfold gr at h
 have X:∀(f t:Nat)(s:Sx)(S:eU)(W:aA)(DD:DEnds)(b:BxW S W DD),NOk names c.m s.nums->s.steps.length<=c.most->c.most<s.steps.length+f->
   S=ak (ai bG (al<|cZ ad.C_Walk "look" (oo ad) (aM E) 3 (ac 0)<|aa (ai ba (ac 2)<|aP<|aa (ac 3) af)<|aa (ai au (ac 1)<|dC<|.int 1) af)<|dC<|.int 1)->
   W=ah (bq<|aj (Vh ad n) (aM E) 3<|aa (ac 0)<|aa (ai au (ac 1)<|dC<|.int 2)<|aa (ai ba (ac 2)<|aP<|aa (ac 3) af) af) (Bf 3 (dC<|.int 1) DM)->
   DD.nx=(λ_ M'=>_3.drp Q .non M')->
   Post ad k c (aT c names Xp mk) (fu c x pl (λt s=>bK c a (pl++[(t:Int)]) 0 s) f t s) M .non Q E->
   cA S W DD b f [ap (.ref k.a),ap (.tup [.str "again",.str x,.tup (aG a)]),ap (gB pl),ap (.int (t:Int))] (wM ad k c (aT c names Xp mk) s M):=by
  intro f
  induction f with
  |zero=>intro t s S W DD b F O hf;lia
  |succ f ihf=>
   intro t s S W DD b F O hf Z htb T h;unfold cA;subst Z;simp![nP,lfl,atI_1,gB,Pz,Pa];refine⟨bg (by decide),bg (by lia),?_⟩
   rw[g6];refine bz (r:=nt c (pl++[(t:Int)]) (lk s.nums x) s) (d:=.int (lk s.nums x)) (λQ' E' z=>pj hc F P.1 z) ?_;have hl:lk s.nums x=0\/lk s.nums x=1:=by unfold lk;split<;>simp
   have I:NOk names c.m (nt c (pl++[(t:Int)]) (lk s.nums x) s).2.nums:=by rw[fE];exact F
   have H:=(nt_gr (c:=c) (pl:=pl++[(t:Int)]) (v:=lk s.nums x) (s:=s)).2 O;unfold fu at h;cases J:(nt c (pl++[(t:Int)]) (lk s.nums x) s).1 with
   |false=>
    rw[if_neg (by rw[J];simp)]at h
    exact⟨λe=>(by rw[J]at e;cases e),λ_=>eA (h.2 J)⟩
   |true=>
    rw[if_pos J]at h;refine⟨λ_=>?_,λe=>by rw[J]at e;cases e⟩
    have R:(nt c (pl++[(t:Int)]) (lk s.nums x) s).2.steps.length=s.steps.length+1:=by
     unfold nt at J ⊢
     split at J
     .rename_i q;rw[if_pos q];simp
     .cases J
    rcases hl with hl|hl
    .rw[if_neg (by rw[hl];decide)]at h
     rw[hl]at h ⊢;simp![show ((0:Int)=1)=False from eq_false (by decide)]
     rw[T];rw[hl]at J;exact am (h.1 J)
    .rw[if_pos hl]at h
     rw[hl]at h I H R ⊢;simp![];subst htb;simp![atI_2,gB,Pz,Pa];refine⟨bg (by decide),bg (by lia),?_⟩
     rw[g6];refine bz (r:=bK c a (pl++[(t:Int)]) 0 (nt c (pl++[(t:Int)]) 1 s).2) (λQ' E' z=>ih a (pl++[(t:Int)]) _ M Q' E' P.2 (by lia) (by simp;lia) I H z) ?_
     have hg:=fF (c:=c) a (pl++[(t:Int)]) 0 (nt c (pl++[(t:Int)]) 1 s).2;cases G:(bK c a (pl++[(t:Int)]) 0 (nt c (pl++[(t:Int)]) 1 s).2).1 with
     |true=>
      rw[if_pos G]at h;refine⟨λ_=>?_,λe=>by rw[G]at e;cases e⟩
      simp![];exact ihf (t+1) _ _ _ _ _ (dk hc a P.2 _ _ _ I) (hg.2 H) (by have:=hg.1;lia) rfl rfl T h
     |false=>
      rw[if_neg (by rw[G];simp)]at h
      exact⟨λe=>(by rw[G]at e;cases e),λ_=>eA (h.2 G)⟩
 exact X (c.most+1) 0 s _ _ _ _ F O (by lia) rfl rfl rfl h
theorem uq(e:names.length<=1000)(f:COk c):∀n:Nat,z6 ad k c names Xp mk n/\Jd ad k c names Xp mk n/\PIf ad k c names Xp mk n/\PAg ad k c names Xp mk n
 |0=>⟨λrs pl s M Q E _ h=>by lia,λr pl s M Q E _ h=>by lia,λx a b pl s M Q E _ h=>by simp only[hR]at h;lia,λx a pl s M Q E _ h=>by simp only[hR]at h;lia⟩
 |n+1=>by
  obtain⟨F,G,H,I⟩:=uq e f n;exact⟨zI f G,Be e f H I,Eo f F,vg f F⟩
end
theorem tT:∀(names:Xr)(nums:Xq)(Xl:cE),names.length=nums.length->(Xl.map (·.1)++names).Nodup->
  ((names.map λx=>(PX x:aB)).zip<|nums.map D.int).foldl (λa p=>dI a p.1 p.2) (dF Xl)=dF (Xl++names.zip nums)
 |[],nums,Xl,_,_=>by simp
 |x::names,[],Xl,h,_=>by simp at h
 |x::names,v::nums,Xl,h,nd=>by
  have G:x∉Xl.map (·.1):=by
   have:=(SI.mp nd).2.2;exact λO=>this x O x (by simp) rfl
  have f:((dF Xl).any λJ=>decide (J.1=PX x))=false:=by
   rw[List.any_eq_false];intro p F;simp only[dF,Pq]at F;obtain⟨q,I,rfl⟩:=F;simp only[decide_eq_true_eq];intro e;have:q.1=x:=S5 e;exact G (by rw[<- this];exact PV I)
  simp only[Pc,Sm,Qt];have H:dI (dF Xl) (PX x) (.int v)=dF (Xl++[(x,v)]):=by
   unfold dI;rw[f];simp[dF]
  rw[H,tT names nums (Xl++[(x,v)]) (by simpa using h) (by simpa using nd)]
  simp
theorem eh:∀names:List Str,eP (names.map D.str)=ap (names.map λx=>(PX x:aB))
 |[]=>rfl
 |x::names=>by simp[eP,cH,eh names]
theorem fV(h:names.length=nums.length)(e:names.Nodup):CC (names.map λx=>(PX x:aB)) (nums.map D.int)=dF (names.zip nums):=by
 have:=tT names nums [] h (by simpa using e)
 simpa [CC,dF] using this
theorem dp1{d:D}:bE "plan" d []=[(("plan":Str),d)]:=rfl
theorem dp2{a d:D}:bE "numbers" d [(("plan":Str),a)]=[(("plan":Str),a),(("numbers":Str),d)]:=rfl
theorem dp3{a b d:D}:bE "pieces" d [(("plan":Str),a),(("numbers":Str),b)]=[(("plan":Str),a),(("numbers":Str),b),(("pieces":Str),d)]:=rfl
theorem dp4{a b e d:D}:bE "most" d [(("plan":Str),a),(("numbers":Str),b),(("pieces":Str),e)]=[(("plan":Str),a),(("numbers":Str),b),(("pieces":Str),e),(("most":Str),d)]:=rfl
theorem dp5{a b e g d:D}:bE "steps" d [(("plan":Str),a),(("numbers":Str),b),(("pieces":Str),e),(("most":Str),g)]=[(("plan":Str),a),(("numbers":Str),b),(("pieces":Str),e),(("most":Str),g),(("steps":Str),d)]:=rfl
noncomputable def bB(nums pieces:Xq):D:=.tup [.tup (nums.map D.int),.tup (pieces.map D.int)]
section
theorem Ac{a:ca}(S:M a=bb)(J:names.length=nums.length)(O:names.Nodup)(P:0<names.length)(R:names.length<=1000)(h:∀(k:Wk),k.a=a->M k.dn=bb->M k.ls=bb->Q .non (wM ad k c (aT c names rows mk) ⟨names.zip nums,[]⟩ M)):
  EF ad [.ref a,aT c names rows mk,bB nums c.pieces,.int (c.most:Nat)] (M.upd a<|.ins ad.C_Walk []) Q E:=by
 simp![u_q3,Fy,aT,bB,Mem.upd_upd,atI_0,atI_1,eh,Pa,dp1];refine⟨by decide,J,P,R,λdn F=>?_⟩
 have n1:a≠dn:=Mem.ne Mem.upd_same F;have H:M dn=none:=by rw[ae (P0 n1)]at F;exact F
 simp![ae n1,Mem.upd_same,dp2,az (P0 n1),Mem.upd_upd,fV J O];refine⟨by simp,?_⟩
 simp![ae n1,Mem.upd_same,dp3,az (P0 n1),Mem.upd_upd];refine⟨by simp,?_⟩
 simp![ae n1,Mem.upd_same,dp4,az (P0 n1),Mem.upd_upd];refine⟨by simp,bg (by simp),λls f=>?_⟩
 have n2:a≠ls:=by
  intro e;subst e;rw[ae n1,Mem.upd_same]at f;cases f
 have I:dn≠ls:=by
  intro e;subst e;rw[Mem.upd_same]at f;cases f
 have G:M ls=none:=by rw[ae (P0 I),ae (P0 n2)]at f;exact f
 simp![ae n2,ae n1,Mem.upd_same,dp5];refine⟨by simp,am ?_⟩
 have:=h ⟨a,dn,ls,n1,n2,I⟩ rfl H G;have e:wM ad ⟨a,dn,ls,n1,n2,I⟩ c (aT c names rows mk) ⟨names.zip nums,[]⟩ M=(((M.upd a<|.ins ad.C_Walk [("plan",aT c names rows mk),("numbers",.ref dn),("pieces",.tup (c.pieces.map D.int)),("most",.int (c.most:Nat))]).upd dn<|.dK<|dF<|names.zip nums).upd ls<|.lst []).upd a (.ins ad.C_Walk [("plan",aT c names rows mk),("numbers",.ref dn),("pieces",.tup (c.pieces.map D.int)),("most",.int (c.most:Nat)),("steps",.ref ls)]):=by
  unfold wM;rw[az (P0 n2),az (P0 n1),Mem.upd_upd];rfl
 rw[e]at this;exact this
noncomputable def dh(c:Cf)(names:Xr)(rows:List Rw)(nums:Xq):Bool×Sx:=bK c rows [] 0 ⟨names.zip nums,[]⟩
noncomputable def di(names:Xr)(r:Bool×Sx):D:=if r.1=true then .tup (names.map λx=>.int (nm r.2.nums x)) else .non
structure PlOk(c:Cf)(names:Xr)(rows:List Rw)(nums:Xq):Prop where
 co:COk c
 ln:names.length=nums.length
 nd:names.Nodup
 l0:0<names.length
 l1:names.length<=1000
 rng:∀v∈nums,0<=v/\v<c.m
 ok:bj names c.m c.pieces.length rows
 h:dj rows<=7
theorem g4:∀{names:Xr}{nums:Xq},names.length=nums.length->(names.zip nums).map (·.1)=names
 |[],[],_=>rfl
 |[],_::_,h=>by simp at h
 |_::_,[],h=>by simp at h
 |x::xs,v::vs,h=>by simp[g4 (by simpa using h)]
theorem PlOk.nok(p:PlOk c names rows nums):NOk names c.m (names.zip nums):=⟨g4 p.ln,λq e=>p.rng _ (RI e).2⟩
theorem AX(p:PlOk c names rows nums)(h:∀l,M l=bb->Q (.tup [.ref l,di names (dh c names rows nums)]) (M.upd l<|.lst<|wb (dh c names rows nums).2.steps)):
  tS ad [aT c names rows mk,bB nums c.pieces,.int (c.most:Nat)] M Q E:=by
 simp![Mx,yV];intro a Z;refine aq λQ' E' P _=>Ac Z p.ln p.nd p.l0 p.l1 λk hk O H=>P _ _ ?_;subst hk;have f:∀(S:Sx),∀b o,(M.upd k.ls<|.lst<|wb S.steps) b=ap o->wM ad k c (aT c names rows mk) S M b=ap o:=by
  intro S b o e
  by_cases T:b=k.ls
  .subst T;rw[Mem.upd_same]at e;rw[HK];exact e
  .rw[ae T]at e
   have h2:b≠k.dn:=by rintro rfl;rw[O]at e;cases e
   have h3:b≠k.a:=by rintro rfl;rw[Z]at e;cases e
   unfold wM;rw[ae T,ae h2,ae h3];exact e
 have Y:=(uq (ad:=ad) (k:=k) (Xp:=rows) (mk:=mk) p.l1 p.co 24).1 rows [] ⟨names.zip nums,[]⟩ M;unfold aT at Y;simp![aT,atI_3];refine⟨bg (by decide),?_⟩
 refine aq λQ2 E2 X W=>Y Q2 E2 p.ok (by have:=p.h;lia) (by have:=p.h;simp;lia) p.nok (QY _) ⟨λe=>X _ _ ?_,λe=>W _ _ ⟨rfl,?_⟩⟩
 .have hn:NOk names c.m (dh c names rows nums).2.nums:=dk p.co rows p.ok [] 0 ⟨names.zip nums,[]⟩ p.nok
  have R:(dh c names rows nums).1=true:=e;simp![nP,lf4,atI_1,aJ]
  refine bZ (λxs Xl U M'=>∃n1 n2 I,names=n1++n2/\xs=n2.map D.str/\Xl=n1.map (λx=>D.int (nm (dh c names rows nums).2.nums x))/\U=[I,ap (.ref k.a)]/\M'=wM ad k c (aT c names rows mk) (dh c names rows nums).2 M)
   (λ_ _ _ _ _=>aK) ?_ ?_ ?_ _ _ _ _ ⟨[],names,bb,rfl,rfl,rfl,rfl,rfl⟩
  .rintro Xl U M' ⟨n1,n2,I,F,G,rfl,rfl,rfl⟩
   have:n2=[]:=by cases n2 with|nil=>rfl|cons _ _=>simp at G
   subst this;intro q P;simp![Mem.upd_upd,Mem.upd_del,ar P];refine⟨bg (by decide),⟨_,f _,?_⟩⟩
   have:=h k.ls H;unfold di at this;rw[if_pos R]at this;have en:n1=names:=by simpa using F.symm
   rw[en];exact this
  .rintro x xs Xl U M' ⟨n1,n2,I,F,G,rfl,rfl,rfl⟩ N hN _
   cases n2 with
   |nil=>simp at G
   |cons y n2=>
    simp only[Pc,Qm]at G;obtain⟨rfl,rfl⟩:=G;have hy:y∈names:=by rw[F];simp
    simp![nP,xn,E7,ce,(hn.at hy).1,Qe];refine hN _ _ _ ?_ ⟨n1++[y],n2,_,by simp[F],rfl,by simp,rfl,rfl⟩
    have J:=congrArg Rb F;have:=p.l1;simp at J ⊢;exact fS (by lia)
  .rintro x xs Xl U M' ⟨n1,n2,I,F,G,rfl,rfl,rfl⟩
   have J:=congrArg Rb F;have:=p.l1;simp at J ⊢;exact fS (by lia)
 .have R:(dh c names rows nums).1=false:=e
  simp![nP,lf4];refine⟨bg (by decide),⟨_,f _,?_⟩⟩
  have:=h k.ls H;unfold di at this;rw[if_neg (by rw[R];simp)]at this
  exact this
end
structure Pt where
 p:ca
 q:ca
 ne:p≠q
def Has(k:Pt)(M:Mem):Prop:=∃(cells:Xq)(t h sd:Int),cells.length<=63/\M k.p=ap (.lst [.ref k.q,.int t,.int h,.int sd])/\M k.q=ap (.lst<|cells.map D.int)
def Dr(k:Pt)(M M':Mem):Prop:=Has k M'/\∀b,b≠k.p->b≠k.q->M' b=M b
theorem Has.refl{k:Pt}(h:Has k M):Dr k M M:=⟨h,λ_ _ _=>rfl⟩
theorem Dr.trans{k:Pt}{M1 M2:Mem}(a:Dr k M M1)(b:Dr k M1 M2):Dr k M M2:=⟨b.1,λx f e=>(b.2 x f e).trans (a.2 x f e)⟩
theorem Has.nep{k:Pt}(h:Has k M)(f:M l=bb):l≠k.p/\l≠k.q:=by
 obtain⟨F,t,hh,sd,_,H,G⟩:=h;exact⟨λe=>(by rw[e,H]at f;cases f),λe=>(by rw[e,G]at f;cases f)⟩
theorem Has.upd{k:Pt}(h:Has k M)(f:l≠k.p/\l≠k.q):Has k (M.upd l o):=by
 obtain⟨e,t,hh,sd,H,G,F⟩:=h;exact⟨e,t,hh,sd,H,by rw[ae (P0 f.1)];exact G,by rw[ae (P0 f.2)];exact F⟩
theorem Has.del{k:Pt}(h:Has k M)(f:l≠k.p/\l≠k.q):Has k (M.del l):=by
 obtain⟨e,t,hh,sd,H,G,F⟩:=h;refine⟨e,t,hh,sd,H,?_,?_⟩
 .unfold Mem.del;rw[if_neg (P0 f.1)];exact G
 .unfold Mem.del;rw[if_neg (P0 f.2)];exact F
theorem Dr.none{k:Pt}(f:Has k M)(h:Dr k M M')(e:M l=bb):M' l=none:=by
 have:=f.nep e;rw[h.2 l this.1 this.2];exact e
theorem oV:∀(n:Nat)(cs:Xq),fits n (cs.map D.int)=true
 |_,[]=>by unfold fits;rfl
 |n,c::cs=>by
  rw[Pc];unfold fits;rw[oV n cs];cases n<;>rfl
theorem iJ(h:∀r,Q (.int r) M):lQ ad [.int a,.int b] M Q E:=by
 simp![OU,xU];refine⟨.inr (by decide),.inr (by decide),by decide,⟨by decide,by decide⟩,.inr (by decide),by decide,⟨by decide,by decide⟩,am<|h _⟩
theorem BJ{α:Type}{x:α}{xs:List α}:atI (x::xs) 0=ap x:=by rw[atI_0];rfl
theorem t6(h:0<m):0<=a % m/\a % m<m:=⟨QJ _ (by lia),QB _ h⟩
theorem hV{i:Int}(h:0<=i)(e:i<n):vh n i=ap i.toNat:=by unfold vh;rw[if_pos h,if_pos e]
theorem ix0:vh (n+1) 0=ap 0:=hV (by decide) (by lia)
theorem HB:vh 4 2=ap 2:=rfl
theorem cz{s u:aA}(h:s { D0 with nx:=u D0 } U M):ah s u D0 U M:=h
theorem Gm{k:Pt}{t:Int}(f:U[0]?=ap (ap<|.ref k.p))(e:M k.p=ap (.lst [.ref k.q,.int t,.int hh,.int sd]))(h:D0.nx U (M.upd k.p<|.lst [.ref k.q,.int (t+1),.int hh,.int sd])):
  ao (ai ba (ai au (ac 0)<|dC<|.int 1)<|dC<|.int 1) (cO (ac 0)<|dC<|.int 1) D0 U M:=by
 simp![f,e,atI_1,hV (n:=4) (i:=1) (by decide) (by decide),show (1:Int).toNat=1 from rfl]
 exact h
theorem xB{k:Pt}{t:Int}{H:Option D}(e:0<many)(J:many<2 ^ 62)(h:M k.p=ap (.lst [.ref k.q,.int t,.int hh,.int sd]))(I:∀r,D0.rt (.int<|r % many) M)(G:D0.rt (.int<|hh % many) (M.upd k.p<|.lst [.ref k.q,.int t,.int (hh / many),.int sd])):
  (ah (aC (ak<|ai bG (ai au (ac 0)<|dC<|.int 2)<|dC<|.int 0) (av<|ai fO (al<|aj (lQ ad) EE 2<|aa (ai au (ac 0)<|dC<|.int 3)<|aa (ai au (ac 0)<|dC<|.int 1) af)<|ac 1) aw)
  (ah (ao (ai fO (ai au (ac 0)<|dC<|.int 2)<|ac 1)<|ag 3)
  (ah (ao (ai uu (ai au (ac 0)<|dC<|.int 2)<|ac 1)<|cO (ac 0)<|dC<|.int 2)
  (av<|ac 3)))) D0 [ap (.ref k.p),ap (.int many),H,bb] M:=by
 simp![h,atI_1,atI_2,atI_3]
 by_cases f:hh=0
 .rw[if_pos f]
  refine aq λQ' E' F _=>iJ λr=>F _ _ ?_;simp![];exact⟨e,I r⟩
 .rw[if_neg f]
  simp![h,HB];exact⟨e,⟨e,by lia⟩,G⟩
theorem FA{k:Pt}{t:Int}{cells:Xq}(S:0<many)(F:M k.p=ap (.lst [.ref k.q,.int t,.int hh,.int sd]))(H:M k.q=ap (.lst<|cells.map D.int))(I:D0.nx [ap (.ref k.p),ap (.int many),bb,bb] M)(R:∀c cs,hh=0->cells=c::cs->∀r,D0.rt (.int<|r % many) (M.upd k.q<|.lst<|cs.map D.int))(T:∀c cs,hh=0->cells=c::cs->¬c<10 ^ Te 18->D0.nx [ap (.ref k.p),ap (.int many),ap (.int c),bb] ((M.upd k.q<|.lst<|cs.map D.int).upd k.p<|.lst [.ref k.q,.int t,.int c,.int sd])):
  aC (nK (ak<|ai bG (ai au (ac 0)<|dC<|.int 2)<|dC<|.int 0)<|ak<|ai f_ (ai au (ac 0)<|dC<|.int 0)<|al<|bp af) (ah (ao (nC "list" AA (ai au (ac 0)<|dC<|.int 0)<|aa (dC<|.int 0) af)<|ag 2)
   (ah (aC (ak<|ai y6 (ac 2)<|ai IV (dC<|.int 10)<|dC<|.int 18) (av<|ai fO (al<|aj (lQ ad) EE 2<|aa (ac 2)<|aa (ai au (ac 0)<|dC<|.int 1) af)<|ac 1) aw)
   (ao (ac 2)<|cO (ac 0)<|dC<|.int 2))) aw D0 [ap (.ref k.p),ap (.int many),bb,bb] M:=by
 have h:=k.ne;simp![F,atI_2,BJ]
 by_cases e:hh=0
 .rw[if_pos e]
  refine⟨bg (by decide),λp J=>?_⟩
  simp only[Mem.upd_del,ar J,H];cases cells with
  |nil=>
   simp![];exact I
  |cons c cs=>
   have P:∀G,(M.upd k.q G) k.p=ap (.lst [.ref k.q,.int t,.int hh,.int sd]):=λG=>by rw[ae h,F]
   simp![BJ,F,H,P,oV,ix0,HB,List.eraseIdx_zero,List.tail_cons,atI_1,atI_2,atI_3];refine⟨⟨by decide,by decide,by decide⟩,?_⟩
   by_cases f:c<10 ^ Te 18
   .rw[if_pos f]
    refine aq λQ' E' O _=>iJ λr=>O _ _ ?_;simp![];exact⟨S,R c cs e rfl r⟩
   .rw[if_neg f]
    exact T c cs e rfl f
 .rw[if_neg e]
  exact I
theorem jo{k:Pt}(hp:Has k M)(J:0<many)(T:many<2 ^ 62)(h:∀r M',0<=r->r<many->Dr k M M'->Q (.int r) M'):
  a_ ad [.ref k.p,.int many] M Q E:=by
 obtain⟨cells,t,hh,sd,I,Y,X⟩:=hp;have e:=k.ne;have fin:∀(r:Int)(M':Mem)(cells':Xq)(P F G:Int),cells'.length<=63->(∀b,b≠k.p->b≠k.q->M' b=M b)->M' k.p=ap (.lst [.ref k.q,.int P,.int F,.int G])->M' k.q=ap (.lst<|cells'.map D.int)->drp Q (.int<|r % many) M':=by
  intro r M' cells' P F G a1 a2 Z W;exact am (h _ _ (t6 J).1 (t6 J).2 ⟨⟨cells',P,F,G,a1,Z,W⟩,a2⟩)
 have S:∀o,(M.upd k.p o) k.q=ap (.lst<|cells.map D.int):=λo=>by rw[ae (P0 e)];exact X
 rw[Oh];unfold yT;refine cz (Gm rfl Y ?_);dsimp only;refine cz (FA J Mem.upd_same (S _) ?_ (λc O ez R r=>?_) λc O ez R hb=>?_)
 .dsimp only
  refine xB J T Mem.upd_same (λr=>?_) ?_
  .exact fin _ _ cells _ _ _ I (λb f H=>ae f) Mem.upd_same (S _)
  .exact fin _ _ cells _ _ _ I (λb f H=>by rw[ae f,ae f]) Mem.upd_same (by rw[ae (P0 e),S])
 .subst R
  exact fin _ _ O _ _ _ (by simp at I;lia) (λb f H=>by rw[ae H,ae f]) (by rw[ae e,Mem.upd_same]) Mem.upd_same
 .subst R
  dsimp only;refine xB J T Mem.upd_same (λr=>?_) ?_
  .exact fin _ _ O _ _ _ (by simp at I;lia) (λb f H=>by rw[ae f,ae H,ae f]) Mem.upd_same (by rw[ae (P0 e),Mem.upd_same])
  .exact fin _ _ O _ _ _ (by simp at I;lia) (λb f H=>by rw[ae f,ae f,ae H,ae f]) Mem.upd_same (by rw[ae (P0 e),ae (P0 e),Mem.upd_same])
theorem Gx{xs:List D}{k:Nat}:jR xs bb (ap (k:Int))=xs.take k:=by
 unfold jR;rw[HT.CZ,HT.Ff,List.drop_zero,Nat.sub_zero];rcases Nat.le_total k xs.length with h|h
 .rw[Nat.min_eq_left h]
 .rw[Nat.min_eq_right h,RO (Pl _),RO h]
theorem Bu(h:∀(k:Pt) M',Has k M'->(∀b,b≠k.p->b≠k.q->M' b=M b)->Q (.ref k.p) M'):xR ad [.ml (ns.map D.int)] M Q E:=by
 have F:jR (ns.map D.int) bb (ap 63)=(ns.take 63).map D.int:=by rw[List.map_take];exact Gx (k:=63)
 simp![Mp,ya,cB,F];intro a S;refine cI (λxs U M'=>∃(f:Xq)(sd:Int)(H:Option D),xs=f.map D.int/\U=[ap (.ml<|ns.map D.int),ap (.int sd),H]/\M'=M) (λ_ _ _ _=>aK) ?_ ?_ _ _ _ ⟨ns.take 63,7,bb,rfl,rfl,by rw[Mem.upd_del,ar S]⟩
 .rintro U M' ⟨f,sd,H,_,rfl,rfl⟩
  simp![F];intro b O;rw[Mem.upd_del,ar O];intro q T;refine⟨bg (by decide),λp J=>?_⟩
  have ne:p≠q:=by intro e;subst e;rw[Mem.upd_same]at J;cases J
  refine am (h ⟨p,q,ne⟩ _ ⟨ns.take 63,0,0,sd,by simp;lia,Mem.upd_same,?_⟩ λb R P=>?_)
  .show ((M'.upd q _).upd p _) q=_
   rw[ae (P0 ne),Mem.upd_same]
  .rw[ae R,ae P]
 .rintro x xs U M' ⟨f,sd,H,I,rfl,rfl⟩ D' G _ _ _
  cases f with
  |nil=>simp at I
  |cons c f=>
   simp only[Pc,Qm]at I;obtain⟨rfl,rfl⟩:=I;simp![];exact⟨.inr (by decide),by decide,G _ _ ⟨f,_,_,rfl,rfl,rfl⟩⟩
noncomputable def alpha:Str:="abcdefghijklmnopqrstuvwxyz"
theorem Bo:∀i<26,alpha.cps.toList[i]?=ap (97+i):=by decide +kernel
theorem A3:alpha.length<=sizeLine:=PL (show alpha.length<=100 by decide +kernel) (by decide)
theorem tW{t:Nat}(O:names.length<=12)(h:∀(j:Nat)(F:j<names.length),names[j].cps[0]?=ap (97+(t+7*j) % 26)):names.Nodup:=by
 refine Uq.mpr λi j I F H e=>?_;have f:=h i I;have G:=h j F;rw[e,G]at f;have J:=Qa f;lia
def Er(x:Str):Prop:=∃(n c:Nat),1<=n/\n<=8/\97<=c/\c<=122/\x=⟨RH n c⟩
theorem wN{k:Pt}{many:Nat}(hp:Has k M)(h1:many<=12)(h:∀(names:Xr)(M':Mem),names.length=many->names.Nodup->(∀x∈names,Er x)->Dr k M M'->Q (.tup<|names.map D.str) M'):zB ad [.ref k.p,.int many] M Q E:=by
 simp![Ni,xp,cB];refine aq λQ' E' W _=>jo hp (by decide) (by decide) λturn M1 t0 t1 R=>W _ _ ?_
 simp![];refine⟨bg (by decide),λl hl=>?_⟩
 have f:=R.1.nep hl;refine⟨by lia,by lia,?_⟩
 obtain⟨t,rfl⟩:=UP t0
 refine cI (λxs U M'=>∃(j:Nat)(Xl:Xr)(c4 c5:Option D),j<=many/\xs=(Ry j (many-j)).map (λ(i:Nat)=>D.int (0+(i:Int)))/\U=[ap (.ref k.p),ap (.int (many:Nat)),ap (.int (t:Nat)),ap (.ref l),c4,c5]/\Xl.length=j/\(∀(i:Nat)(O:i<Xl.length),Xl[i].cps[0]?=ap (97+(t+7*i) % 26))/\(∀x∈Xl,Er x)/\
  Has k M'/\M' l=ap (.lst<|Xl.map D.str)/\∀b,b≠k.p->b≠k.q->b≠l->M' b=M1 b) (λ_ _ _ _=>aK) ?_ ?_ _ _ _ ⟨0,[],bb,bb,QY _,?_,rfl,rfl,?_,by simp,R.1.upd f,Mem.upd_same,λb _ _ hb=>ae hb⟩
 .rintro U M' ⟨j,Xl,c4,c5,hj,e,rfl,S,hf,F,hh,P,Z⟩
  have:j=many:=by
   have:=congrArg Rb e;simp at this;lia
  subst this;simp![P];refine⟨M'.del l,λb o e=>?_,h Xl _ S (tW (by lia) hf) F ⟨hh.del f,λb I H=>?_⟩⟩
  .unfold Mem.del at e;split at e
   .cases e
   .exact e
  .unfold Mem.del
   split
   .rename_i e;subst e;rw[<- R.2 b I H];exact hl.symm
   .rename_i e;rw[Z b I H e,R.2 b I H]
 .rintro x xs U M' ⟨j,Xl,c4,c5,hj,e,rfl,S,hf,F,hh,P,Z⟩ D' T _ _ _
  have hjl:j<many:=by
   have:=congrArg Rb e;simp at this;lia
  obtain⟨n,hn⟩:∃n,many-j=n+1:=⟨many-j-1,by lia⟩
  rw[hn,Q4,Pc,Qm]at e;obtain⟨rfl,rfl⟩:=e;have G:atI alpha.cps.toList (((t:Nat)+7*(0+(j:Int))) % 26)=ap (97+(t+7*j) % 26):=by
   have:(((t:Nat):Int)+7*(0+(j:Int))) % 26=(((t+7*j) % 26:Nat):Int):=by lia
   rw[this,bi (by lia),Pn,Bo _ (by lia)]
  simp only[alpha]at G;simp![G,P];refine⟨.inl (by decide),by decide,A3,?_⟩
  refine aq λQ' E' W _=>jo hh (by decide) (by decide) λr M2 r0 r1 X=>W _ _ ?_
  have Y:M2 l=ap (.lst<|Xl.map D.str):=by rw[X.2 l f.1 f.2];exact P
  simp![Y];refine⟨by lia,by lia,by simp;exact fS (by lia),T _ _ ⟨j+1,Xl++[⟨RH (1+r).toNat (97+(t+7*j) % 26)⟩],_,_,by lia,?_,rfl,by simp[S],?_,?_,X.1.upd f,?_,?_⟩⟩
  .rw[show many-(j+1)=n by lia]
  .intro i O
   by_cases J:i<Xl.length
   .rw[List.getElem_append_left J];exact hf i J
   .have:i=Xl.length:=by simp at O;lia
    subst this;rw[List.getElem_append_right (Pl _)];simp only[Nat.sub_self,UN];rw[Array.getElem?_replicate,if_pos (by lia),S]
  .intro x hx
   rcases PU.mp hx with hx|hx
   .exact F x hx
   .simp at hx;subst hx
    exact⟨(1+r).toNat,97+(t+7*j) % 26,by lia,by lia,by lia,by lia,rfl⟩
  .rw[Mem.upd_same];simp
  .intro b I H b3
   rw[ae b3,X.2 b I H,Z b I H b3]
 .simp[cj,Rx]
 .intro i O;simp at O
@[simp] theorem atI_5 {α:Type} {xs:List α}:atI xs 5=xs[5]?:=bi (by decide)
@[simp] theorem atI_6 {α:Type} {xs:List α}:atI xs 6=xs[6]?:=bi (by decide)
@[simp] theorem atI_7 {α:Type} {xs:List α}:atI xs 7=xs[7]?:=bi (by decide)
@[simp] theorem atI_8 {α:Type} {xs:List α}:atI xs 8=xs[8]?:=bi (by decide)
theorem k7{r:Int}(f:0<=r)(h:r<names.length):∃y,y∈names/\atI (names.map D.str) r=ap (.str y):=by
 have e:r.toNat<names.length:=by lia
 refine⟨names[r.toNat],Q5 e,?_⟩;rw[bi f,Ph,Pb e];rfl
structure ToldOk(names:Xr)(m many:Int):Prop where
 m2:2<=m
 m1:m<=997
 n0:0<names.length
 n1:names.length<=12
 k0:0<=many
 k1:many<=40
noncomputable def gO(names:Xr)(m many:Int):D:=.tup [.int m,.tup (names.map D.str),.int many]
theorem aO{b:BxQ EE Q}{k:Pt}(G:Has k M)(H:0<many)(I:many<2 ^ 62)(h:∀r M',0<=r->r<many->Dr k M M'->Q (.int r) M'):calls (a_ ad) EE [.ref k.p,.int many] M Q b:=
 aq λQ' E' f _=>jo G H I λr M' F e d=>f _ _ (h r M' F e d)
section
variable{k:Pt}
theorem Kk(h:te U M λd M1=>D0.nx (U.set i<|some d) M1):ao te (ag i) D0 U M:=h
theorem BX{d:D}(h:U[i]?=ap (ap d))(e:K d M):ac i U M K:=by simp only[ac,h];exact e
theorem vc{c:Str}{B:aA}(f:U[i]?=ap (ap<|.str w))(h:w=c->A D0 U M)(F:w≠c->B D0 U M):aC (ak<|ai bG (ac i)<|dC<|.str c) A B D0 U M:=by
 have e:aC (ak<|ai bG (ac i)<|dC<|.str c) A B D0 U M=(if w=c then A D0 U M else B D0 U M):=by
  simp[aC,ak,ai,ac,dC,bG,bF,dv,aN,f]
 rw[e]
 by_cases q:w=c
 .rw[if_pos q];exact h q
 .rw[if_neg q];exact F q
theorem J0(F:U[0]?=ap (ap<|.ref k.p))(e:∀K:DK,K (.int v) M->te U M K)(f:Has k M)(v0:0<v)(v1:v<2 ^ 62)(h:∀r M',0<=r->r<v->Dr k M M'->K (.int r) M'):
  aj (a_ ad) EE 2 (aa (ac 0)<|aa te af) U M K:=by
 simp only[aj,aa,ac,af,F];refine e _ ?_;exact⟨rfl,aO f v0 v1 h⟩
theorem Gp(h:te U M λd M'=>frz d M' K):al te U M K:=h
theorem GQ(F:U[0]?=ap (ap<|.ref k.p))(e:∀K:DK,K (.int v) M->te U M K)(f:Has k M)(v0:0<v)(v1:v<2 ^ 62)(h:∀r M',0<=r->r<v->Dr k M M'->K (.int r) M'):
  al (aj (a_ ad) EE 2<|aa (ac 0)<|aa te af) U M K:=
 Gp (J0 F e f v0 v1 λr M' a b d=>by simp only[frz];exact h r M' a b d)
theorem J7(J:U[0]?=ap (ap<|.ref k.p))(e:U[i]?=ap (ap<|.tup<|names.map D.str))(I:Has k M)(O:0<names.length)(n1:names.length<=12)(h:∀x M',x∈names->Dr k M M'->K (.str x) M'):
  ai au (ac i) (al<|aj (a_ ad) EE 2<|aa (ac 0)<|aa (br bY<|aa (ac i) af) af) U M K:=by
 have G:∀K:DK,K (.int names.length) M->br bY (aa (ac i) af) U M K:=λK f=>by
  simp![e,Pa];exact f
 simp only[ai];refine BX e (GQ J G I (by lia) (by lia) λr M' a b d=>?_)
 obtain⟨x,F,H⟩:=k7 a b;simp![H];exact h x M' F d
theorem K0{a b:D}(f:U[i]?=ap (ap a))(e:U[j]?=ap (ap b))(h:te U M λd M'=>3<=sizeLine/\D0.rt (.tup [a,b,d]) M'):av (aP<|aa (ac i)<|aa (ac j)<|aa te af) D0 U M:=by
 simp only[av,aP,aa,af,ac,f,e];exact h
theorem ret4{a b c:D}{l:Nat}(e:U[i]?=ap (ap a))(f:U[j]?=ap (ap b))(F:U[l]?=ap (ap c))(h:te U M λd M'=>4<=sizeLine/\D0.rt (.tup [a,b,c,d]) M'):av (aP<|aa (ac i)<|aa (ac j)<|aa (ac l)<|aa te af) D0 U M:=by
 simp only[av,aP,aa,af,ac,e,f,F];exact h
theorem Fj{a:Option D}{s:Dl}(h:D0.nx (a::ap (gO names m many)::ap (.int m)::ap (.tup<|names.map D.str)::ap (.int many)::s) M){b c d:Option D}:
  ao (ac 1) (cU 3<|aL (ag 2)<|aL (ag 3)<|aL (ag 4) cL) D0 (a::ap (gO names m many)::b::c::d::s) M:=by
 unfold gO at h ⊢;simp![];exact h
end
noncomputable def waysL:List Str:=["put","sum","by","less","same","sum","put","take","pick"]
def Hq(many:Int)(w:Str):Prop:=w="put"\/(w="sum"\/w="by"\/w="less"\/w="same")\/(0<many/\(w="take"\/w="pick"))
section
variable{k:Pt}
theorem Ei(h:D0.nx (U.set 5<|some<|.lst<|waysL.map D.str) M):
  ao (al<|bp<|aa (dC<|.str "put")<|aa (dC<|.str "sum")<|aa (dC<|.str "by")<|aa (dC<|.str "less")<|aa (dC<|.str "same")<|aa (dC<|.str "sum")<|aa (dC<|.str "put")<|aa (dC<|.str "take")<|aa (dC<|.str "pick") af) (ag 5) D0 U M:=by
 simp![];refine⟨bg (by decide),λp e=>?_⟩
 rw[Mem.upd_del,ar e];exact h
theorem Jq(r:Nat)(f:r<if 0<many then 9 else 7):∃w,atI (waysL.map D.str) (r:Int)=ap (.str w)/\Hq many w:=by
 rw[bi (by lia),Pn]
 by_cases e:0<many
 .rw[if_pos e]at f
  match r,f with
  |0,_=>exact⟨_,rfl,.inl rfl⟩
  |1,_=>exact⟨_,rfl,.inr<|.inl<|.inl rfl⟩
  |2,_=>exact⟨_,rfl,.inr<|.inl<|.inr<|.inl rfl⟩
  |3,_=>exact⟨_,rfl,.inr<|.inl<|.inr<|.inr<|.inl rfl⟩
  |4,_=>exact⟨_,rfl,.inr<|.inl<|.inr<|.inr<|.inr rfl⟩
  |5,_=>exact⟨_,rfl,.inr<|.inl<|.inl rfl⟩
  |6,_=>exact⟨_,rfl,.inl rfl⟩
  |7,_=>exact⟨_,rfl,.inr<|.inr ⟨e,.inl rfl⟩⟩
  |8,_=>exact⟨_,rfl,.inr<|.inr ⟨e,.inr rfl⟩⟩
 .rw[if_neg e]at f
  match r,f with
  |0,_=>exact⟨_,rfl,.inl rfl⟩
  |1,_=>exact⟨_,rfl,.inr<|.inl<|.inl rfl⟩
  |2,_=>exact⟨_,rfl,.inr<|.inl<|.inr<|.inl rfl⟩
  |3,_=>exact⟨_,rfl,.inr<|.inl<|.inr<|.inr<|.inl rfl⟩
  |4,_=>exact⟨_,rfl,.inr<|.inl<|.inr<|.inr<|.inr rfl⟩
  |5,_=>exact⟨_,rfl,.inr<|.inl<|.inl rfl⟩
  |6,_=>exact⟨_,rfl,.inl rfl⟩
theorem wayE(J:U[0]?=ap (ap<|.ref k.p))(P:U[4]?=ap (ap<|.int many))(O:U[5]?=ap (ap<|.lst<|waysL.map D.str))(I:Has k M)(h:∀w M',Hq many w->Dr k M M'->K (.str w) M'):
  ai au (ac 5) (al<|aj (a_ ad) EE 2<|aa (ac 0)<|aa (jq (ak<|ai E5 (ac 4)<|dC<|.int 0) (dC<|.int 9)<|dC<|.int 7) af) U M K:=by
 have H:∀K:DK,K (.int (if 0<many then 9 else 7)) M->jq (ak<|ai E5 (ac 4)<|dC<|.int 0) (dC<|.int 9) (dC<|.int 7) U M K:=λK e=>by
  simp![P]
  by_cases f:0<many
  .rw[if_pos f]at e ⊢;exact e
  .rw[if_neg f]at e ⊢;exact e
 simp only[ai];refine BX O (GQ J H I (by split<;>decide) (by split<;>decide) λr M' a b d=>?_)
 obtain⟨r,rfl⟩:=UP a;obtain⟨w,G,F⟩:=Jq (many:=many) r (by split at b<;>(split<;>lia))
 simp![G];exact h w M' F d
end
theorem C1{k:Pt}(X:Has k M)(W:ToldOk names m many)(h:∀(r:Rw) M',c_ names m many r->Dr k M M'->Q r.d M'):sX ad [.ref k.p,gO names m many] M Q E:=by
 obtain⟨m2,Z,F,n1,k0,Y⟩:=W;rw[Ox];unfold ye;refine cz (Fj ?_);dsimp only;refine cz (Ei ?_);dsimp only;refine cz (Kk (wayE rfl rfl rfl X λw M1 H d1=>?_));dsimp only;refine cz (Kk (J7 rfl rfl d1.1 F n1 λx M2 f d2=>?_));dsimp only;refine cz (vc rfl (λe=>?_) λG=>?_)
 .subst e
  refine K0 rfl rfl (J0 rfl (λK q=>BX rfl q) d2.1 (by lia) (by lia) λr M3 a b d3=>?_)
  exact⟨bg (by decide),am<|h (.put x r) M3 ⟨f,a,b⟩<|d1.trans<|d2.trans d3⟩
 dsimp only[aw];refine cz (vc rfl (λe=>?_) λO=>?_)
 .subst e
  have I:0<many:=by
   rcases H with e|(e|e|e|e)|e
   .exact(G e).elim
   .exact absurd e (by decide +kernel)
   .exact absurd e (by decide +kernel)
   .exact absurd e (by decide +kernel)
   .exact absurd e (by decide +kernel)
   .exact e.1
  refine K0 rfl rfl (J0 rfl (λK q=>BX rfl q) d2.1 (by lia) (by lia) λr M3 a b d3=>?_)
  exact⟨bg (by decide),am<|h (.take x r) M3 ⟨f,a,b⟩<|d1.trans<|d2.trans d3⟩
 dsimp only[aw];refine cz (Kk (J7 rfl rfl d2.1 F n1 λy M3 J d3=>?_));dsimp only;refine cz (vc rfl (λe=>?_) λT=>?_)
 .subst e
  have I:0<many:=by
   rcases H with e|(e|e|e|e)|e
   .exact(G e).elim
   .exact absurd e (by decide +kernel)
   .exact absurd e (by decide +kernel)
   .exact absurd e (by decide +kernel)
   .exact absurd e (by decide +kernel)
   .exact e.1
  exact K0 rfl rfl (BX rfl ⟨bg (by decide),am<|h (.pick x y) M3 ⟨f,J,I⟩<|d1.trans<|d2.trans d3⟩)
 dsimp only[aw];have P:w="sum"\/w="by"\/w="less"\/w="same":=by
  rcases H with e|e|⟨_,e|e⟩
  .exact(G e).elim
  .exact e
  .exact(O e).elim
  .exact(T e).elim
 refine ret4 rfl rfl rfl (J7 rfl rfl d3.1 F n1 λz M4 R S=>?_);exact⟨bg (by decide),am<|h (.two w x y z) M4 ⟨P,f,J,R⟩<|d1.trans<|d2.trans<|d3.trans S⟩
mutual
def Mg:Rw->Prop
 |.ifr _ a b=>(a.length<=200/\fD a)/\b.length<=200/\fD b
 |.again _ a=>a.length<=200/\fD a
 |_=>True
def fD:List Rw->Prop
 |[]=>True
 |r::rs=>Mg r/\fD rs
end
theorem LnRs_append:∀{a b:List Rw},fD (a++b)↔fD a/\fD b
 |[],b=>by simp[fD]
 |r::a,b=>by simp[fD,LnRs_append,and_assoc]
mutual
noncomputable def cR:Rw->Nat
 |.ifr _ a b=>1+cRs a+cRs b
 |.again _ a=>1+cRs a
 |.put _ _=>1
 |.take _ _=>1
 |.pick _ _=>1
 |.two _ _ _ _=>1
noncomputable def cRs:List Rw->Nat
 |[]=>0
 |r::rs=>cR r+cRs rs
end
theorem dB:∀{a b:List Rw},cRs (a++b)=cRs a+cRs b
 |[],b=>by simp[cRs]
 |r::a,b=>by simp only[Py,cRs,dB];lia
theorem MA(h:c_ names m many r):cR r=1:=by
 cases r with
 |ifr=>exact h.elim
 |again=>exact h.elim
 |_=>simp only[cR]
def Rv(rm:ca)(M:Mem)(v:Int):Prop:=M rm=ap (.lst [.int v])/\0<=v
def Kp(k:Pt)(rm:ca)(M M':Mem):Prop:=Has k M'/\(∃v:Int,M' rm=ap (.lst [.int v]))/\∀b o,b≠k.p->b≠k.q->b≠rm->M b=ap o->M' b=ap o
theorem Kp.trans{k:Pt}{M1 M2:Mem}(a:Kp k rm M M1)(b:Kp k rm M1 M2):Kp k rm M M2:=⟨b.1,b.2.1,λx o f F e h=>b.2.2 x o f F e (a.2.2 x o f F e h)⟩
structure Rm(k:Pt)(rm:ca)(M:Mem):Prop where
 h:Has k M
 n1:rm≠k.p
 n2:rm≠k.q
 v:∃v:Int,M rm=ap (.lst [.int v])
theorem Rm.kp{k:Pt}(r:Rm k rm M):Kp k rm M M:=⟨r.h,r.v,λ_ _ _ _ _ e=>e⟩
theorem Rm.go{k:Pt}(r:Rm k rm M)(d:Kp k rm M M'):Rm k rm M':=⟨d.1,r.n1,r.n2,d.2.1⟩
theorem Rm.dr{k:Pt}(r:Rm k rm M)(d:Dr k M M'):Kp k rm M M':=⟨d.1,by obtain⟨v,e⟩:=r.v;exact⟨v,by rw[d.2 rm r.n1 r.n2];exact e⟩,λb o f h _ e=>by rw[d.2 b f h];exact e⟩
theorem Rm.new{k:Pt}(r:Rm k rm M)(f:M l=bb)(o:MO):Kp k rm M (M.upd l o):=by
 have a:=r.h.nep f;obtain⟨v,e⟩:=r.v;have b:rm≠l:=Mem.ne e f;exact⟨r.h.upd a,⟨v,by rw[ae b];exact e⟩,λc o _ _ _ e=>by rw[ae (Mem.ne e f)];exact e⟩
theorem Rm.set{k:Pt}(r:Rm k rm M)(v:Int):Kp k rm M (M.upd rm<|.lst [.int v]):=
 ⟨r.h.upd ⟨r.n1,r.n2⟩,⟨v,Mem.upd_same⟩,λc o _ _ h e=>by rw[ae h];exact e⟩
section
variable{k:Pt}
def PRo(ad:Ad)(k:Pt)(rm:ca)(names:Xr)(m many:Int)(n:Nat):Prop:=∀(deep:Nat)(most:Int)(M:Mem)(Q:DK)(E:DX),deep<=4->2*(4-deep)+1<=n->0<most->most<=30->Rm k rm M->∀v:Int,Rv rm M v->
 (∀(rs:List Rw)(M':Mem),(∃v',Rv rm M' v'/\(cRs rs:Int)+v'<=v)->bj names m many rs/\fD rs->dj rs+deep<=4->rs.length<=100->Kp k rm M M'->Q (.tup<|aG rs) M')->Vm ad n [.ref k.p,gO names m many,.ref rm,.int deep,.int most] M Q E
def PBl(ad:Ad)(k:Pt)(rm:ca)(names:Xr)(m many:Int)(n:Nat):Prop:=∀(deep:Nat)(M:Mem)(Q:DK)(E:DX),deep<4->2*(4-deep)<=n->Rm k rm M->∀v:Int,Rv rm M v->
 (∀(rs:List Rw)(l:ca)(M':Mem),(∃v',Rv rm M' v'/\(cRs rs:Int)+v'<=v+4)->bj names m many rs/\fD rs->dj rs+deep<=4->rs.length<=3->Kp k rm M M'->M' l=bb->Q (.ref l) (M'.upd l<|.lst<|aG rs))->Vn ad n [.ref k.p,gO names m many,.ref rm,.int deep] M Q E
theorem OkRs_append:∀{a b:List Rw},bj names m many (a++b)↔bj names m many a/\bj names m many b
 |[],b=>by simp[bj]
 |r::a,b=>by simp[bj,OkRs_append,and_assoc]
theorem dP:∀{a b:List Rw},dj (a++b)=max (dj a) (dj b)
 |[],b=>by simp[dj]
 |r::a,b=>by simp only[Py,dj,dP,Nat.max_assoc]
theorem bN:∀{a b:List Rw},aG (a++b)=aG a++aG b
 |[],b=>rfl
 |r::a,b=>by simp[aG,bN]
theorem bQ:∀{a:List Rw},(aG a).length=a.length
 |[]=>rfl
 |r::a=>by simp[aG,bQ]
theorem Kc(h:c_ names m many r):dA names m many r:=by
 cases r with
 |ifr=>exact h.elim
 |again=>exact h.elim
 |_=>simpa only[dA] using h
theorem MP(h:c_ names m many r):hR r=0:=by
 cases r with
 |ifr=>exact h.elim
 |again=>exact h.elim
 |_=>simp only[hR]
theorem JU(h:c_ names m many r):Mg r:=by
 cases r with
 |ifr=>exact h.elim
 |again=>exact h.elim
 |_=>simp only[Mg]
theorem vW(ht:ToldOk names m many)(ih:PRo ad k rm names m many n):PBl ad k rm names m many (n+1):=by
 intro e M Q E hd hn r v rv h;obtain⟨m2,m1,n0,n1,k0,k1⟩:=ht;have dd:(e:Int)+1=((e+1:Nat):Int):=by lia
 simp![Ot,zy,gO,Pa];refine aO r.h (by lia) (by lia) λr1 M1 a1 b1 R=>?_
 have R1:=r.go (r.dr R);have Y:Rv rm M1 v:=⟨by rw[R.2 rm r.n1 r.n2];exact rv.1,rv.2⟩
 obtain⟨x,G,ex⟩:=k7 a1 b1;simp![ex,dd];refine aq λQ' E' W _=>ih (e+1) 5 M1 Q' E' (by lia) (by lia) (by decide) (by decide) R1 v Y λfirst M2 c2 H h2 l2 d2=>W _ _ ?_
 obtain⟨v2,O,c2⟩:=c2;have R2:=R1.go d2;simp![];refine aO R2.h (by decide) (by decide) λw M3 a3 b3 I=>?_
 have R3:=R2.go (R2.dr I);have f:Rv rm M3 v2:=⟨by rw[I.2 rm r.n1 r.n2];exact O.1,O.2⟩
 simp![dd]
 by_cases hw:w<2
 .rw[if_pos hw]
  refine aq λQ' E' W _=>ih (e+1) 5 M3 Q' E' (by lia) (by lia) (by decide) (by decide) R3 v2 f λF M4 c4 o4 h4 l4 S=>W _ _ ?_
  obtain⟨v4,X,c4⟩:=c4;simp![];refine⟨bg (by decide),bg (by decide),λl J=>am (h [.ifr x first F] l M4 ⟨v4,X,by simp only[cRs,cR];lia⟩ ?_ ?_ (by simp) ((r.dr R).trans<|d2.trans<|(R2.dr I).trans S) J)⟩
  .simp only[bj,dA,fD,Mg];exact⟨⟨⟨G,H.1,o4.1⟩,trivial⟩,⟨⟨by lia,H.2⟩,by lia,o4.2⟩,trivial⟩
  .simp only[dj,hR];lia
 .rw[if_neg hw]
  by_cases P:w=2
  .rw[if_pos P]
   refine⟨bg (by decide),bg (by decide),λl J=>am (h [.again x first] l M3 ⟨v2,f,by simp only[cRs,cR];lia⟩ ?_ ?_ (by simp) ((r.dr R).trans<|d2.trans<|R2.dr I) J)⟩
   .simp only[bj,dA,fD,Mg];exact⟨⟨⟨G,H.1⟩,trivial⟩,⟨by lia,H.2⟩,trivial⟩
   .simp only[dj,hR];lia
  .rw[if_neg P]
   simp only[Pa];refine aO R3.h (by lia) (by lia) λr4 M4 a4 b4 S=>?_
   have R4:=R3.go (R3.dr S);obtain⟨y,hy,ey⟩:=k7 a4 b4;simp![ey];refine aO R4.h (by split<;>lia) (by split<;>lia) λZ M5 a5 b5 d5=>?_
   have T:Z<m:=by split at b5<;>lia
   simp![];refine⟨bg (by decide),bg (by decide),bg (by decide),bg (by decide),bg (by rw[bQ];lia),bg (by decide),bg (by decide),λl J=>am ?_⟩
   have:=h [.put x Z,.put y (m-1),.again x (first++[.two "sum" x x y])] l M5 ⟨v2,⟨by rw[d5.2 rm r.n1 r.n2,S.2 rm r.n1 r.n2];exact f.1,f.2⟩,by simp only[cRs,cR,dB];lia⟩ ?_ ?_ (by simp) ((r.dr R).trans<|d2.trans<|(R2.dr I).trans<|(R3.dr S).trans<|R4.dr d5) J
   .simp only[aG,Rw.d,bN]at this
    exact this
   .simp only[bj,dA,c_,OkRs_append,fD,Mg,LnRs_append]
    exact⟨⟨⟨G,a5,T⟩,⟨hy,by lia,by lia⟩,⟨G,H.1,⟨.inl trivial,G,G,hy⟩,trivial⟩,trivial⟩,trivial,trivial,⟨by simp;lia,H.2,trivial,trivial⟩,trivial⟩
   .simp only[dj,hR,dP];lia
theorem M_:frz r.d M Q=Q r.d M:=by cases r<;>rfl
theorem yb{c:Int}(f:U[2]?=ap (ap<|.ref rm))(e:M rm=ap (.lst [.int v]))(h:D0.nx U (M.upd rm<|.lst [.int (v-c)])):
  ao (ai jX (ai au (ac 2)<|dC<|.int 0)<|dC<|.int c) (cO (ac 2)<|dC<|.int 0) D0 U M:=by
 simp![f,e,BJ,ix0];exact h
theorem LZ{B:aA}{deep:Int}(O:U[0]?=ap (ap<|.ref k.p))(J:U[2]?=ap (ap<|.ref rm))(R:U[3]?=ap (ap<|.int deep))(h:Has k M)(I:M rm=ap (.lst [.int v]))(P:∀M',4<v->deep<4->Dr k M M'->A D0 U M')(F:∀M',Dr k M M'->B D0 U M'):
  aC (nK (ak<|ai E5 (ai au (ac 2)<|dC<|.int 0)<|dC<|.int 4)<|nK (ak<|ai y6 (ac 3)<|dC<|.int 4)<|ak<|ai bG (al<|aj (a_ ad) EE 2<|aa (ac 0)<|aa (dC<|.int 4) af)<|dC<|.int 0) A B D0 U M:=by
 simp![O,J,R,I,BJ]
 by_cases e:4<v
 .rw[if_pos e]
  by_cases f:deep<4
  .rw[if_pos f]
   refine aO h (by decide) (by decide) λw M2 T S H=>?_
   simp![]
   by_cases G:w=0
   .rw[if_pos G];exact P _ e f H
   .rw[if_neg G];exact F _ H
  .rw[if_neg f];exact F _ h.refl
 .rw[if_neg e];exact F _ h.refl
theorem Ft(F:U[2]?=ap (ap<|.ref rm))(f:M rm=ap (.lst [.int v]))(G:0<v->A D0 U M)(h:D0.nx U M):
  aC (ak<|ai E5 (ai au (ac 2)<|dC<|.int 0)<|dC<|.int 0) A aw D0 U M:=by
 simp![F,f,BJ]
 by_cases e:0<v
 .rw[if_pos e];exact G e
 .rw[if_neg e];exact h
theorem Go(P:U[0]?=ap (ap<|.ref k.p))(R:U[1]?=ap (ap<|gO names m many))(S:U[5]?=ap (ap<|.ref l))(O:Has k M)(J:ToldOk names m many)(n1:l≠k.p)(n2:l≠k.q)(H:M l=ap (.lst<|aG Xl))(T:Xl.length<=1000)(h:∀(r:Rw) M',c_ names m many r->Dr k M M'->D0.nx U (M'.upd l<|.lst (aG Xl++[r.d]))):
  bq (nC "list" bL (ac 5)<|aa (al<|aj (sX ad) EE 2<|aa (ac 0)<|aa (ac 1) af) af) D0 U M:=by
 simp![P,R,S,H];refine aq λQ' E' I _=>C1 O J λF M3 f G=>I _ _ ?_;have e:M3 l=ap (.lst<|aG Xl):=by rw[G.2 l n1 n2];exact H
 have fin:=h F M3 f G;have sz:(aG Xl).length+1<=sizeLine:=by rw[bQ];exact fS (by lia)
 rw[M_];simp![e];exact⟨sz,fin⟩
theorem Fx(ih:PBl ad k rm names m many n){deep:Nat}(Z:U[0]?=ap (ap<|.ref k.p))(h1:U[1]?=ap (ap<|gO names m many))(X:U[2]?=ap (ap<|.ref rm))(h3:U[3]?=ap (ap<|.int deep))(h5:U[5]?=ap (ap<|.ref l))(W:deep<4)(T:2*(4-deep)<=n)(R:Rm k rm M)(n1:l≠k.p)(n2:l≠k.q)(n3:l≠rm)(Y:M l=ap (.lst<|aG Xl))(ha:Xl.length<=1000)(rv:Rv rm M v)(h:∀(rs:List Rw)(f:ca)(M':Mem),(∃O,Rv rm M' O/\(cRs rs:Int)+O<=v+4)->bj names m many rs/\fD rs->dj rs+deep<=4->rs.length<=3->Kp k rm M M'->M' f=bb->D0.nx (U.set 5<|some<|.ref f) (M'.upd f<|.lst (aG Xl++aG rs))):
  ao (ai ba (ac 5)<|al<|aj (Vn ad n) EE 4<|aa (ac 0)<|aa (ac 1)<|aa (ac 2)<|aa (ac 3) af) (ag 5) D0 U M:=by
 simp![Z,h1,X,h3,h5];refine aq λQ' E' S _=>ih deep M Q' E' W T R v rv λbl l2 M3 P I hh e J F=>S _ _ ?_;have H:M3 l=ap (.lst<|aG Xl):=J.2.2 l _ n1 n2 n3 Y;simp![Mem.upd_del,ar F,H];exact⟨by rw[bQ,bQ];exact bg (by lia),λf G=>h bl f M3 P I hh e J G⟩
structure RInv(k:Pt)(rm:ca)(names:Xr)(m many:Int)(M:Mem)(v:Int)(deep:Nat)(n j:Nat)(Xl:List Rw)(l:ca)(M':Mem):Prop where
 cv:∃v',Rv rm M' v'/\(cRs Xl:Int)+v'<=v
 hj:n+j<=30
 ha:Xl.length<=3*j
 ok:bj names m many Xl
 ln:fD Xl
 hh:dj Xl+deep<=4
 kp:Kp k rm M M'
 hm:M' l=ap (.lst<|aG Xl)
 n1:l≠k.p
 n2:l≠k.q
 n3:l≠rm
 h0:M l=bb
theorem RInv.len{deep:Nat}(I:RInv k rm names m many M v deep n j Xl l M'):Xl.length<=100:=by
 have:=I.hj;have:=I.ha;lia
theorem n8(ht:ToldOk names m many)(ih:PBl ad k rm names m many n):PRo ad k rm names m many (n+1):=by
 intro deep most M Q E hd hn h0 h1 r v0 S h;simp![NG,yo,cB];refine⟨bg (by decide),λl P=>?_⟩
 have R1:=r.go (r.new P<|.lst []);refine aO R1.h h0 (by lia) λcnt M1 a1 b1 d1=>?_
 have J:=r.h.nep P;simp![];refine⟨by lia,by lia,?_⟩
 refine cI (λxs U M'=>∃(j:Nat)(Xl:List Rw)(l:ca)(c6:Option D),RInv k rm names m many M v0 deep xs.length j Xl l M'/\U=[ap (.ref k.p),ap (gO names m many),ap (.ref rm),ap (.int deep),ap (.int most),ap (.ref l),c6]) (λ_ _ _ _=>aK) ?_ ?_ _ _ _ ⟨0,[],l,bb,⟨⟨v0,⟨?_,S.2⟩,by simp[cRs]⟩,?_,by simp,by simp only[bj],by simp only[fD],by simp only[dj];lia,(r.new P _).trans (R1.dr d1),?_,J.1,J.2,?_,P⟩,rfl⟩
 .rintro U M' ⟨j,Xl,l,c6,I,rfl⟩
  simp![I.hm];exact am (h Xl M' I.cv ⟨I.ok,I.ln⟩ I.hh I.len I.kp)
 .rintro x xs U M' ⟨j,Xl,l,c6,I,rfl⟩ D' W _ _ _
  have R:=r.go I.kp;have hj:=I.hj;have ha:=I.ha;simp only[Pu]at hj;obtain⟨v,⟨hv,hv0⟩,hcv⟩:=I.cv;refine LZ rfl rfl rfl R.h hv (λM2 h4 h5 H=>?_) λM2 H=>?_
  .have Y:=I.kp.trans (R.dr H)
   have R2:=r.go Y;refine cz (yb rfl (by rw[H.2 rm r.n1 r.n2];exact hv) ?_)
   have X:=R2.set (v-4);dsimp only;refine Fx (deep:=deep) (Xl:=Xl) ih rfl rfl rfl rfl rfl (by lia) (by lia) (R2.go X) I.n1 I.n2 I.n3 (by rw[ae I.n3,H.2 l I.n1 I.n2];exact I.hm) (by lia) (v:=v-4) ⟨Mem.upd_same,by lia⟩ λbl l3 M3 c3 F hh3 len3 k3 G=>?_
   have f:=(Y.trans X).trans k3;have R3:=r.go f;have O:=R3.h.nep G;have T:l3≠rm:=by
    obtain⟨u,eu⟩:=R3.v;exact λe=>by rw[e,eu]at G;cases G
   have hM3:M l3=none:=by
    cases e:M l3 with
    |none=>rfl
    |some o=>rw[f.2.2 l3 o O.1 O.2 T e]at G;cases G
   obtain⟨v3,Z,c3⟩:=c3;exact W _ _ ⟨j+1,Xl++bl,l3,_,⟨⟨v3,⟨by rw[ae (P0 T)];exact Z.1,Z.2⟩,by rw[dB];lia⟩,by lia,by rw[Pz];lia,OkRs_append.mpr ⟨I.ok,F.1⟩,LnRs_append.mpr ⟨I.ln,F.2⟩,by rw[dP];exact PL (UW (Nat.add_max_add_right ..).symm) (Nat.max_le.mpr ⟨I.hh,hh3⟩),f.trans (R3.new G _),by rw[Mem.upd_same,bN],O.1,O.2,T,hM3⟩,rfl⟩
  .have Y:=I.kp.trans (R.dr H)
   have R2:=r.go Y;have hm2:M2 l=ap (.lst<|aG Xl):=by rw[H.2 l I.n1 I.n2];exact I.hm
   refine Ft rfl (by rw[H.2 rm r.n1 r.n2];exact hv) (λhz=>?_) ?_
   .refine cz (yb rfl (by rw[H.2 rm r.n1 r.n2];exact hv) ?_)
    have X:=R2.set (v-1);dsimp only;refine Go (Xl:=Xl) rfl rfl rfl X.1 ht I.n1 I.n2 (by rw[ae I.n3];exact hm2) (by lia) λrw1 M3 F d3=>?_
    have f:=(Y.trans X).trans ((R2.go X).dr d3);refine W _ _ ⟨j+1,Xl++[rw1],l,_,⟨⟨v-1,⟨by rw[ae (P0 I.n3),d3.2 rm r.n1 r.n2,Mem.upd_same],by lia⟩,by rw[dB];simp only[cRs,MA F];lia⟩,by lia,by rw[Pz,QP];lia,OkRs_append.mpr ⟨I.ok,by simp only[bj];exact⟨Kc F,trivial⟩⟩,LnRs_append.mpr ⟨I.ln,by simp only[fD];exact⟨JU F,trivial⟩⟩,by rw[dP];simp only[dj,MP F,Nat.max_zero,Nat.max_self];exact I.hh,?_,by rw[Mem.upd_same,bN];rfl,I.n1,I.n2,I.n3,I.h0⟩,rfl⟩
    refine⟨f.1.upd ⟨I.n1,I.n2⟩,?_,λb o h1 h2 h3 e=>?_⟩
    .obtain⟨u,eu⟩:=f.2.1
     exact⟨u,by rw[ae (P0 I.n3)];exact eu⟩
    .rw[ae (Mem.ne e I.h0)];exact f.2.2 b o h1 h2 h3 e
   .exact W _ _ ⟨j,Xl,l,_,⟨⟨v,⟨by rw[H.2 rm r.n1 r.n2];exact hv,hv0⟩,hcv⟩,by lia,ha,I.ok,I.ln,I.hh,Y,hm2,I.n1,I.n2,I.n3,I.h0⟩,rfl⟩
 .rw[d1.2 rm r.n1 r.n2,ae (λz=>by rw[<- z,S.1]at P;cases P)];exact S.1
 .simp[cj];lia
 .rw[d1.2 l J.1 J.2,Mem.upd_same];rfl
 .obtain⟨v,e⟩:=r.v
  exact λe'=>by rw[e',e]at P;cases P
theorem jm(f:ToldOk names m many):∀n:Nat,PRo ad k rm names m many n/\PBl ad k rm names m many n
 |0=>⟨λe F M Q E _ h=>by lia,λe M Q E _ h=>by lia⟩
 |n+1=>⟨n8 f (jm f n).2,vW f (jm f n).1⟩
end
section
variable{k:Pt}
def Kq(k:Pt)(M M':Mem):Prop:=Has k M'/\∀b o,b≠k.p->b≠k.q->M b=ap o->M' b=ap o
theorem Kq.trans{M1 M2:Mem}(a:Kq k M M1)(b:Kq k M1 M2):Kq k M M2:=⟨b.1,λx o e f h=>b.2 x o e f (a.2 x o e f h)⟩
theorem Dr.kq(d:Dr k M M'):Kq k M M':=⟨d.1,λb o f h e=>by rw[d.2 b f h];exact e⟩
structure PlG(m many:Int)(names:Xr)(rows:List Rw)(mk:Str):Prop where
 t:ToldOk names m many
 nd:names.Nodup
 ok:bj names m many rows
 h:dj rows<=4
 cn:cRs rows<=60
 l:rows.length<=100
 ln:fD rows
 mkm:mk∈names
 one:∀x∈names,Er x
noncomputable def iZ(m many:Int)(names:Xr)(rows:List Rw)(mk:Str):D:=.tup [.int m,.tup (names.map D.str),.int many,.tup (aG rows),.str mk]
theorem zE(v0:0<=v)(v60:v<=60)(hp:Has k M)(h:∀(m many:Int)(names:Xr)(rows:List Rw)(mk:Str)(M':Mem),PlG m many names rows mk->(cRs rows:Int)<=v->Kq k M M'->Q (iZ m many names rows mk) M'):yW ad [.ref k.p,.int v] M Q E:=by
 simp![NF,zf];refine aO hp (by decide) (by decide) λx1 M1 a1 b1 d1=>?_
 simp![];refine aO d1.1 (by decide) (by decide) λx2 M2 a2 b2 d2=>?_
 simp![];refine⟨bg (by decide),λp f=>?_⟩
 rw[Mem.upd_del,ar f];refine aO d2.1 (by decide) (by decide) λR M3 a3 b3 d3=>?_
 obtain⟨m,em,m2,m1⟩:∃m:Int,atI [D.int 2,.int 3,.int (2+x1),.int (2+x2)] R=ap (.int m)/\2<=m/\m<=997:=by
  have:R=0\/R=1\/R=2\/R=3:=by lia
  rcases this with rfl|rfl|rfl|rfl
  .exact⟨2,by simp,by lia,by lia⟩
  .exact⟨3,by simp,by lia,by lia⟩
  .exact⟨2+x1,by simp,by lia,by lia⟩
  .exact⟨2+x2,by simp,by lia,by lia⟩
 simp![em];refine⟨bg (by decide),λp f=>?_⟩
 rw[Mem.upd_del,ar f];refine aO d3.1 (by decide) (by decide) λX M4 a4 b4 d4=>?_
 obtain⟨w,ew,w2,w1⟩:∃m:Int,atI [D.int 3,.int 5,.int 12] X=ap (.int m)/\0<m/\m<=12:=by
  have:X=0\/X=1\/X=2:=by lia
  rcases this with rfl|rfl|rfl
  .exact⟨3,by simp,by lia,by lia⟩
  .exact⟨5,by simp,by lia,by lia⟩
  .exact⟨12,by simp,by lia,by lia⟩
 simp![ew];refine aO d4.1 w2 (by lia) λx5 M5 a5 b5 d5=>?_
 simp![];obtain⟨nn,hnn⟩:∃nn:Nat,(1:Int)+x5=nn:=⟨(1+x5).toNat,by lia⟩
 rw[hnn];refine aq λQ' E' hq _=>wN d5.1 (by lia) λnames M6 n6 Z on6 d6=>hq _ _ ?_
 simp![];refine aO d6.1 (by decide) (by decide) λx7 M7 a7 b7 d7=>?_
 simp![];refine aO d7.1 (by decide) (by decide) λx8 M8 a8 b8 d8=>?_
 simp![];refine⟨bg (by decide),λp f=>?_⟩
 rw[Mem.upd_del,ar f];refine aO d8.1 (by decide) (by decide) λW M9 a9 b9 d9=>?_
 obtain⟨many,ek,k0,k1⟩:∃m:Int,atI [D.int 0,.int (1+x7),.int x8] W=ap (.int m)/\0<=m/\m<=40:=by
  have:W=0\/W=1\/W=2:=by lia
  rcases this with rfl|rfl|rfl
  .exact⟨0,by simp,by lia,by lia⟩
  .exact⟨1+x7,by simp,by lia,by lia⟩
  .exact⟨x8,by simp,by lia,by lia⟩
 simp![ek];refine⟨bg (by decide),bg (by decide),λrm S=>⟨bg (by decide),λp f=>?_⟩⟩
 rw[Mem.upd_del,ar f];have D9:=d1.trans (d2.trans<|d3.trans<|d4.trans<|d5.trans<|d6.trans<|d7.trans<|d8.trans d9);have F:=d9.1.nep S;have R9:Rm k rm (M9.upd rm<|.lst [.int v]):=⟨d9.1.upd F,F.1,F.2,v,Mem.upd_same⟩;refine aO R9.h (by decide) (by decide) λG M10 a10 b10 J=>?_
 have R10:=R9.go (R9.dr J);obtain⟨O,eo,o0,o1⟩:∃m:Int,atI [D.int 6,.int 12,.int 30] G=ap (.int m)/\0<m/\m<=30:=by
  have:G=0\/G=1\/G=2:=by lia
  rcases this with rfl|rfl|rfl
  .exact⟨6,by simp,by lia,by lia⟩
  .exact⟨12,by simp,by lia,by lia⟩
  .exact⟨30,by simp,by lia,by lia⟩
 simp![eo];have ht:ToldOk names m many:=⟨m2,m1,by lia,by lia,k0,k1⟩
 refine aq λQ' E' hq _=>(jm ht 24).1 0 O M10 Q' E' (by decide) (by decide) o0 o1 R10 v ⟨by rw[J.2 rm F.1 F.2,Mem.upd_same],v0⟩ λrows M11 T H h11 l11 I=>hq _ _ ?_
 obtain⟨v11,P,T⟩:=T;have v110:=P.2;simp![Pa];refine aO I.1 (by lia) (by lia) λx12 M12 a12 b12 d12=>?_
 obtain⟨mk,hmk,Y⟩:=k7 a12 b12;simp![Y];refine⟨bg (by decide),am<|h m many names rows mk M12 ⟨ht,Z,H.1,by lia,by lia,l11,H.2,hmk,on6⟩ (by lia) ?_⟩
 refine D9.kq.trans (Kq.trans ?_ d12.kq);refine⟨I.1,λb o h1 h2 e=>?_⟩;have hb:b≠rm:=Mem.ne e S;have:=(R9.dr J).2.2 b o h1 h2 hb (by rw[ae hb];exact e)
 exact I.2.2 b o h1 h2 hb this
theorem wT(W:Has k M)(pl:PlG m many names rows mk)(h:∀(nums e:Xq)(M':Mem),nums.length=names.length->(e.length:Int)=many->(∀v∈nums,0<=v/\v<m)->(∀v∈e,0<=v/\v<m)->Kq k M M'->Q (bB nums e) M'):y_ ad [.ref k.p,iZ m many names rows mk] M Q E:=by
 have t1:=pl.t.m1;have t2:=pl.t.m2;have t3:=pl.t.n1;have t4:=pl.t.k0;have t5:=pl.t.k1;simp![Np,yC,iZ,aJ,atI_1];refine bZ (λxs Xl U M'=>∃(nums:Xq)(G:Option D),xs.length+nums.length=names.length/\Xl=nums.map D.int/\U=[G,ap (.ref k.p),ap (iZ m many names rows mk)]/\Dr k M M'/\∀v∈nums,0<=v/\v<m) (λ_ _ _ _ _=>aK) ?_ ?_ ?_ _ _ _ _ ⟨[],bb,by simp,rfl,rfl,W.refl,by simp⟩
 .rintro Xl U M' ⟨nums,G,S,rfl,rfl,T,hv⟩
  intro p I;simp![Mem.upd_del,ar I,atI_2];refine⟨by lia,by lia,?_⟩
  refine bZ (λxs Xl U M'=>∃(ps:Xq)(G:Option D),xs.length+ps.length=many.toNat/\Xl=ps.map D.int/\U=[G,ap (.ref k.p),ap (iZ m many names rows mk)]/\Dr k M M'/\∀v∈ps,0<=v/\v<m) (λ_ _ _ _ _=>aK) ?_ ?_ ?_ _ _ _ _ ⟨[],bb,by simp[cj],rfl,rfl,T,by simp⟩
  .rintro Xl U M' ⟨ps,G,H,rfl,rfl,F,f⟩
   intro p I;simp![Mem.upd_del,ar I];refine⟨bg (by decide),am<|h nums ps M' (by simpa using S) (by simp at H;lia) hv f F.kq⟩
  .rintro x xs Xl U M' ⟨ps,G,H,rfl,rfl,F,f⟩ N R _
   simp![iZ,atI_0];refine aO F.1 (by lia) (by lia) λr M3 O P J=>?_
   simp![];simp only[Pu]at H;refine R _ _ _ (by simp;exact fS (by lia)) ⟨ps++[r],_,by simp;lia,by simp,rfl,F.trans J,λv hv=>?_⟩
   rcases PU.mp hv with hv|hv
   .exact f v hv
   .simp at hv;subst hv;exact⟨O,P⟩
  .rintro x xs Xl U M' ⟨ps,G,H,rfl,rfl,F,f⟩
   simp at H ⊢;exact fS (by lia)
 .rintro x xs Xl U M' ⟨ps,G,H,rfl,rfl,F,f⟩ N R _
  simp![iZ,atI_0];refine aO F.1 (by lia) (by lia) λr M3 O P J=>?_
  simp![];simp only[Pu]at H;refine R _ _ _ (by simp;exact fS (by lia)) ⟨ps++[r],_,by simp;lia,by simp,rfl,F.trans J,λv hv=>?_⟩
  rcases PU.mp hv with hv|hv
  .exact f v hv
  .simp at hv;subst hv;exact⟨O,P⟩
 .rintro x xs Xl U M' ⟨ps,G,H,rfl,rfl,F,f⟩
  simp at H ⊢;exact fS (by lia)
end
section
theorem bT{ok:Mem->Prop}{Q:List D->Mem->Prop}{b:BxC (ag 0) tt te ok Q}{rest:Dl}{c:Option D}{xs:List D}(p:D->Bool)(f:D->D)(T:ok M)(X:xs.length<=100000)(S:∀x∈xs,∀K:Bool->Mem->Prop,K (p x) M->tt (ap x::rest) M K)(W:∀x∈xs,p x=true->∀K:DK,K (f x) M->te (ap x::rest) M K)(h:Q ((xs.filter p).map f) M):
  bV (ag 0) tt te ok Q b xs [] (c::rest) M:=by
 refine bZ (λJ Xl U N=>∃(us:List D)(F:Option D),xs=us++J/\Xl=(us.filter p).map f/\U=F::rest/\M=N) (λ_ _ _ _ z=>by obtain⟨_,_,_,_,_,rfl⟩:=z;exact T) ?_ ?_ ?_ _ _ _ _ ⟨[],c,rfl,rfl,rfl,rfl⟩
 .rintro Xl U N ⟨us,F,e,rfl,rfl,rfl⟩
  rw[P8]at e;subst e;exact h
 .rintro y J Xl U N ⟨us,F,e,rfl,rfl,rfl⟩ N' G O
  have P:y∈xs:=by rw[e];simp
  have I:=congrArg Rb e;simp only[Pz,Pu]at I;have R:=P2 p us;simp only[ag,Pp];refine S y P _ ?_;cases H:p y with
  |true=>
   rw[if_pos rfl];exact W y P H _ (G _ _ _ (by rw[Pa];exact fS (by lia)) ⟨us++[y],_,by simp[e],by simp[H],rfl,rfl⟩)
  |false=>
   rw[if_neg (by simp)]
   exact O .non _ _ ⟨us++[y],_,by simp[e],by simp[H],rfl,rfl⟩
 .rintro y J Xl U N ⟨us,F,e,rfl,rfl,rfl⟩
  have I:=congrArg Rb e;simp only[Pz,Pu]at I;have R:=P2 p us;rw[Pa];exact fS (by lia)
theorem dJ{ok:Mem->Prop}{Q:List D->Mem->Prop}{b:BxC (ag 0) de te ok Q}{rest:Dl}{c:Option D}{xs:List D}(f:D->D)(G:ok M)(F:xs.length<=100000)(H:∀x∈xs,∀K:DK,K (f x) M->te (ap x::rest) M K)(h:Q (xs.map f) M):bV (ag 0) de te ok Q b xs [] (c::rest) M:=by
 refine bT (λ_=>true) f G F (λx _ K q=>q) (λx e _=>H x e) ?_;rw[U9.mpr λ_ _=>rfl];exact h
end
instance lawKey:LawfulBEq aB where
 eq_of_beq {a b} h:=by
  cases a<;>cases b
  .exact congrArg Qz (eq_of_beq (α:=Int) h)
  .cases h
  .cases h
  .exact congrArg PX (eq_of_beq (α:=Str) h)
 rfl {a}:=by
  cases a
  .exact beq_self_eq_true (α:=Int) _
  .exact beq_self_eq_true (α:=Str) _
noncomputable def kD:aB->D
 |.inl i=>.int i
 |.inr x=>.str x
theorem BM(a b:aB):aN (kD a) (kD b)=decide (a=b):=by
 cases a<;>cases b<;>simp[kD,aN]
theorem C2(n:Nat)(a:aB):bF n (kD a)=true:=by cases a<;>cases n<;>rfl
theorem y0(n:Nat):∀ks:List aB,fits n (ks.map kD)=true
 |[]=>by cases n<;>rfl
 |k::ks=>by simp only[Pc,fits,C2,y0 n ks,Bool.and_self]
theorem oY:∀ks:List aB,eP (ks.map kD)=ap ks
 |[]=>rfl
 |k::ks=>by
  have:=oY ks;cases k<;>simp[eP,kD,cH,this]
theorem yk:∀a b:List aB,e_ (a.map kD) (b.map kD)=decide (a=b)
 |[],[]=>rfl
 |[],_::_=>rfl
 |_::_,[]=>rfl
 |a::as,b::bs=>by
  simp only[Pc,e_,BM,yk as bs]
  by_cases h:a=b
  .by_cases e:as=bs<;>simp[h,e]
  .simp[h]
theorem BC{k:aB}:((ks.map kD).any λd=>aN d (kD k))=decide (k∈ks):=by
 induction ks with
 |nil=>rfl
 |cons a ks ih=>
  rw[Pc,QC,ih,BM]
  by_cases h:a=k
  .simp[h]
  .have:¬k=a:=λe=>h e.symm
   simp[h,this]
noncomputable def ql(ks:List aB):D:=.lst (ks.map kD)
theorem OW{k:aB}:dv M (kD k)=kD k:=by cases k<;>rfl
theorem FL{k:aB}:ia M (kD k) (ql ks)=ap (decide (k∈ks)):=by
 unfold ia ql;simp only[aE,OW,C2,y0,and_self,if_true,BC]
structure Cse where
 w:Int
 many:Nat
 names:List Str
 rows:List Rw
 mn:Str
 most:Nat
structure Sta where
 nums:List Int
 pieces:List Int
noncomputable def Sta.d(s:Sta):D:=bB s.nums s.pieces
noncomputable def Cse.cf(C:Cse)(s:Sta):Cf:=⟨C.w,s.pieces,C.most⟩
noncomputable def Cse.d(C:Cse):D:=.tup [.int C.w,.tup (C.names.map D.str),.int (C.many:Nat),.tup (aG C.rows),.str C.mn]
structure Cse.Ok(C:Cse):Prop where
 m2:2<=C.w
 m1:C.w<=997
 few:C.many<=100
 most:C.most<=10000
 nd:C.names.Nodup
 l0:0<C.names.length
 l1:C.names.length<=100
 ok:bj C.names C.w C.many C.rows
 h:dj C.rows<=7
 mn:C.mn∈C.names
structure SOk(C:Cse)(s:Sta):Prop where
 ln:s.nums.length=C.names.length
 lp:s.pieces.length=C.many
 rn:∀v∈s.nums,0<=v/\v<C.w
 rp:∀v∈s.pieces,0<=v/\v<C.w
noncomputable def uA(mk:Str)(r:Bool×Sx):D:=if r.1=true then .int (nm r.2.nums mk) else .non
noncomputable def Cse.run(C:Cse)(s:Sta):Bool×Sx:=dh (C.cf s) C.names C.rows s.nums
noncomputable def Cse.mark(C:Cse)(s:Sta):D:=uA C.mn (C.run s)
section
theorem Cse.Ok.pl(o:C.Ok)(k:SOk C s):PlOk (C.cf s) C.names C.rows s.nums:=
 ⟨⟨o.m2,o.m1,k.rp,by show s.pieces.length<=1000;rw[k.lp];have:=o.few;lia,o.most⟩,k.ln.symm,o.nd,o.l0,by have:=o.l1;lia,k.rn,by show bj C.names C.w s.pieces.length C.rows;rw[k.lp];exact o.ok,o.h⟩
theorem SOk.pd(k:SOk C s):C.d=aT (C.cf s) C.names C.rows C.mn:=by unfold Cse.d aT Cse.cf;rw[k.lp]
theorem x6(C:Cse)(s:Sta):C.mark s=.non\/∃v,C.mark s=.int v:=by
 unfold Cse.mark uA
 split
 .exact .inr ⟨_,rfl⟩
 .exact .inl rfl
theorem tM(h:Q (C.mark s) M):frz (C.mark s) M Q:=by rcases x6 C s with e|⟨v,e⟩<;>rw[e]at h ⊢<;>exact h
theorem lN{mk:Str}:∀{names:Xr},mk∈names->∃j,names.findIdx? (λy=>decide (y=mk))=ap j/\names[j]?=ap mk
 |[],h=>by simp at h
 |x::names,h=>by
  by_cases e:x=mk
  .subst e;exact⟨0,by simp[So],rfl⟩
  .have F:mk∈names:=by
    rcases Po.mp h with z|z
    .exact absurd z.symm e
    .exact z
   obtain⟨j,G,f⟩:=lN F;exact⟨j+1,by simp[So,e,G],by simpa using f⟩
theorem dO:∀names:List Str,je (names.map D.str)=ap names
 |[]=>rfl
 |x::names=>by rw[Pc,je,dO names]
noncomputable def wC(names:Xr)(r:Bool×Sx):D:=.tup [.lst (wb r.2.steps),di names r]
theorem D4{b:BxQ EE λd M'=>frzT d M' Q}(p:PlOk c names rows nums)(h:Q (wC names<|dh c names rows nums) M):
  calls (tS ad) EE [aT c names rows mk,bB nums c.pieces,.int (c.most:Nat)] M (λd M'=>frzT d M' Q) b:=by
 refine aq λQ' E' F _=>AX p λl f=>F _ _ ?_;unfold wC di at h;unfold di;cases e:(dh c names rows nums).1 with
 |true=>
  rw[e,if_pos rfl]at h;rw[if_pos rfl];simp![Mem.upd_del,ar f];exact h
 |false=>
  rw[e,if_neg (by simp)]at h
  rw[if_neg (by simp)]
  simp![Mem.upd_del,ar f];exact h
theorem Aq(p:PlOk c names rows nums)(H:mk∈names)(h:Q (uA mk<|dh c names rows nums) M):oZ ad [aT c names rows mk,bB nums c.pieces,.int (c.most:Nat)] M Q E:=by
 have l1:=p.l1;obtain⟨j,F,f⟩:=lN H;simp![NZ,z9];refine D4 p ?_;simp![wC,atI_1];unfold uA at h;unfold di;cases e:(dh c names rows nums).1 with
 |true=>
  rw[e,if_pos rfl]at h;rw[if_pos rfl];simp![aT,atI_1,atI_4,dO,F];refine⟨l1,?_⟩;have G:atI (names.map λx=>D.int (nm (dh c names rows nums).2.nums x)) (j:Nat)=ap (.int<|nm (dh c names rows nums).2.nums mk):=by
   rw[bi (by lia),Pn,Ph,f];rfl
  simp![G];exact am h
 |false=>
  rw[e,if_neg (by simp)]at h
  rw[if_neg (by simp)]
  simp![];exact am h
theorem ow{b:BxQ EE Q}(o:C.Ok)(k:SOk C s)(h:Q (C.mark s) M):calls (oZ ad) EE [C.d,s.d,.int (C.most:Nat)] M Q b:=by
 refine aH (d:=C.mark s) (λQ' E' q=>?_) h;rw[k.pd];exact Aq (o.pl k) o.mn q
noncomputable def bC(C:Cse)(s t:Sta):D:=.tup [C.d,s.d,t.d,.int (C.most:Nat)]
theorem GX{C:Cse}{s t:Sta}:bC C s t=.tup [C.d,s.d,t.d,.int (C.most:Nat)]:=rfl
theorem AK{C:Cse}:C.d=.tup [.int C.w,.tup (C.names.map D.str),.int (C.many:Nat),.tup (aG C.rows),.str C.mn]:=rfl
noncomputable def dU(C:Cse):List aB:=C.names.map PX++(PD C.many).map λ(i:Nat)=>Qz (i:Int)
noncomputable def aD(C:Cse)(s:Sta):aB->Int
 |.inl i=>(s.pieces[i.toNat]?).getD 0
 |.inr x=>nm (C.names.zip s.nums) x
theorem jk:∀{names:Xr}{nums:Xq}{j:Nat}{x:Str},names.Nodup->names.length=nums.length->names[j]?=ap x->nums[j]?=ap (nm (names.zip nums) x)
 |[],_,j,x,_,_,h=>by simp at h
 |y::names,[],j,x,_,h,_=>by simp at h
 |y::names,v::nums,0,x,nd,hl,h=>by
  simp at h;subst h;simp[nm,gN]
 |y::names,v::nums,j+1,x,nd,hl,h=>by
  simp only[OZ]at h ⊢;have f:=QI.mp nd;have F:¬y=x:=λe=>f.1 (e▸Qn h);rw[jk f.2 (by simpa using hl) h]
  simp[nm,gN,F]
theorem gC{k:aB}(h:k∈dU C):(∃x,x∈C.names/\k=.inr x)\/∃i:Nat,i<C.many/\k=.inl (i:Int):=by
 rcases PU.mp h with q|q
 .obtain⟨x,e,rfl⟩:=Pq.mp q
  exact .inl ⟨x,e,rfl⟩
 .obtain⟨i,f,rfl⟩:=Pq.mp q
  exact .inr ⟨i,PR.mp f,rfl⟩
theorem bH(o:C.Ok)(k:SOk C s){t:aB}(f:t∈dU C):0<=aD C s t/\aD C s t<C.w:=by
 rcases gC f with⟨x,e,rfl⟩|⟨i,hi,rfl⟩
 .exact((o.pl k).nok.at e).2
 .exact((o.pl k).co.piece (i:=(i:Int).toNat)<|by show _<s.pieces.length;rw[k.lp];lia).2
theorem dE(o:C.Ok)(k:SOk C s){t:aB}(H:t∈dU C)(h:Q (.int<|aD C s t) M):jJ ad [C.d,s.d,kD t] M Q E:=by
 have l1:=o.l1;rcases gC H with⟨x,F,rfl⟩|⟨i,hi,rfl⟩
 .obtain⟨j,G,f⟩:=lN F
  have e:atI (s.nums.map D.int) (j:Nat)=ap (.int<|nm (C.names.zip s.nums) x):=by
   rw[bi (by lia),Pn,Ph,jk o.nd k.ln.symm f];rfl
  simp![HE,tY,kD,Cse.d,Sta.d,bB,bt,m8,atI_0,atI_1,dO,G,SM,S4,Rj,Q0,S3];refine⟨by lia,?_⟩
  simp![e];exact am h
 .have e:atI (s.pieces.map D.int) (i:Nat)=ap (.int<|(s.pieces[(i:Int).toNat]?).getD 0):=by
   rw[bi (by lia),Pn,Ph,Pb (by rw[k.lp];exact hi)];rfl
  simp![HE,tY,kD,Cse.d,Sta.d,bB,bt,m8,atI_0,atI_1,e,SM,S4,Rj,Q0,S3,Ue,RP];exact am h
end
noncomputable def lM(k:Wk)(c:Cf)(s:Sx)(M:Mem):Mem:=
 ((M.upd k.a<|.lst [.ref k.dn,.tup (c.pieces.map D.int),.ref k.ls,.int (c.most:Nat),.int c.m]).upd k.dn<|.dK<|dF s.nums).upd k.ls (.lst<|wb s.steps)
section
variable{k:Wk}{s:Sx}
theorem mT:lM k c s M k.a=ap (.lst [.ref k.dn,.tup (c.pieces.map D.int),.ref k.ls,.int (c.most:Nat),.int c.m]):=by
 unfold lM;rw[ae k.h2,ae k.h1,Mem.upd_same]
theorem mB:lM k c s M k.dn=ap (.dK<|dF s.nums):=by unfold lM;rw[ae k.h3,Mem.upd_same]
theorem HD:lM k c s M k.ls=ap (.lst<|wb s.steps):=by unfold lM;rw[Mem.upd_same]
theorem AT{x:List (List Int×Int)}:(lM k c s M).upd k.ls (.lst<|wb x)=lM k c ⟨s.nums,x⟩ M:=by unfold lM;rw[Mem.upd_upd]
theorem Fb{x:cE}:(lM k c s M).upd k.dn (.dK<|dF x)=lM k c ⟨x,s.steps⟩ M:=by
 unfold lM;rw[az (P0 k.h3),Mem.upd_upd]
theorem pv{pl:Xq}(f:c.most<=10000)(e:s.steps.length<=c.most)(h:Q (.bl (nt c pl v s).1) (lM k c (nt c pl v s).2 M)):
  jO ad [.ref k.a,gB pl,.int v] (lM k c s M) Q E:=by
 unfold nt at h;simp![OF,z8,mT,HD,atI_2,atI_3,wb,Pa]
 by_cases q:s.steps.length<c.most
 .rw[if_pos q]at h
  rw[if_neg (by lia)]
  refine⟨bg (by decide),fS (by lia),am ?_⟩
  rw[<- AT]at h;simpa [wb] using h
 .rw[if_neg q]at h
  rw[if_pos (by lia)]
  exact am h
theorem sj{b:BxQ EE Q}{pl:Xq}(F:c.most<=10000)(e:s.steps.length<=c.most)(h:Q (.bl (nt c pl v s).1) (lM k c (nt c pl v s).2 M)):
  calls (jO ad) EE [.ref k.a,gB pl,.int v] (lM k c s M) Q b:=
 aq λ_ _ f _=>pv F e (f _ _ h)
theorem tQ(F:COk c){i:Int}(f:0<=i)(h:i<c.pieces.length):atI (c.pieces.map D.int) i=ap (.int<|(c.pieces[i.toNat]?).getD 0):=by
 have e:i.toNat<c.pieces.length:=by lia
 rw[bi f,Ph,Pb e];rfl
theorem qS(G:COk c)(F:NOk names c.m s.nums)(f:c_ names c.m c.pieces.length r)(h:Q (.int<|num c s.nums r) (lM k c s M)):
  DH ad [.ref k.a,r.d] (lM k c s M) Q E:=by
 have m2:=G.m2;have m1:=G.m1;cases r with
 |put x kk=>
  simp![F4,wE,Rw.d,↓wB,mT,mB,atI_0,atI_2,atI_3,Tv];exact am h
 |take x i=>
  simp![F4,wE,Rw.d,↓wB,mT,mB,atI_0,atI_2,atI_3,Tv,tQ G f.2.1 f.2.2];exact am h
 |pick x y=>
  have I:=(F.at f.2.1).1;have S:=f.2.2;have e3:=QJ (nm s.nums y) (show (c.pieces.length:Int)≠0 by lia)
  have Z:=QB (nm s.nums y) S;simp![F4,wE,Rw.d,↓wB,mT,mB,atI_0,atI_2,atI_3,Tv,ce,I,Qe,Pa,tQ G e3 Z];exact⟨S,am h⟩
 |two w x y z=>
  obtain⟨Y,hx,R,W⟩:=f;have I:=(F.at R).1;have X:=(F.at W).1;have ry:=(F.at R).2;have T:CMul (nm s.nums y) (nm s.nums z):=.inl ⟨by lia,by lia⟩
  have H:(w="put")=False/\(w="take")=False/\(w="pick")=False:=by
   rcases Y with rfl|rfl|rfl|rfl
   .exact⟨(eq_false<|by decide +kernel),(eq_false<|by decide +kernel),(eq_false<|by decide +kernel)⟩
   .exact⟨(eq_false<|by decide +kernel),(eq_false<|by decide +kernel),(eq_false<|by decide +kernel)⟩
   .exact⟨(eq_false<|by decide +kernel),(eq_false<|by decide +kernel),(eq_false<|by decide +kernel)⟩
   .exact⟨(eq_false<|by decide +kernel),(eq_false<|by decide +kernel),(eq_false<|by decide +kernel)⟩
  simp![F4,wE,Rw.d,↓wB,mT,mB,atI_0,atI_2,atI_3,ce,I,X,Qe,H.1,H.2.1,H.2.2];have e:Q (.int<|yY w (nm s.nums y) (nm s.nums z) c.m) (lM k c s M):=h;unfold yY at e
  by_cases J:w="sum"
  .rw[if_pos J]at e ⊢;exact⟨by lia,am e⟩
  .rw[if_neg J]at e ⊢
   by_cases O:w="by"
   .rw[if_pos O]at e ⊢;exact⟨T,by lia,am e⟩
   .rw[if_neg O]at e ⊢
    by_cases P:w="less"
    .rw[if_pos P]at e ⊢
     split<;>rename_i q
     .rw[if_pos q]at e;exact am e
     .rw[if_neg q]at e;exact am e
    .rw[if_neg P]at e ⊢
     split<;>rename_i q
     .rw[if_pos q]at e;exact am e
     .rw[if_neg q]at e;exact am e
 |ifr=>exact f.elim
 |again=>exact f.elim
theorem qW{b:BxQ EE Q}{d:D}(e:d=r.d)(H:COk c)(F:NOk names c.m s.nums)(G:c_ names c.m c.pieces.length r)(h:Q (.int<|num c s.nums r) (lM k c s M)):
  calls (DH ad) EE [.ref k.a,d] (lM k c s M) Q b:=
 e▸aq λ_ _ f _=>qS H F G (f _ _ h)
end
section
variable{k:Wk}
def mR(ad:Ad)(k:Wk)(c:Cf)(names:Xr)(n:Nat):Prop:=∀(rs:List Rw)(pl:Xq)(s:Sx)(M:Mem)(Q:DK)(E:DX),bj names c.m c.pieces.length rs->2*dj rs+1<=n->pl.length+2*dj rs+2<=1000->NOk names c.m s.nums->s.steps.length<=c.most->
 Q (.bl (bK c rs pl 0 s).1) (lM k c (bK c rs pl 0 s).2 M)->Vf ad n [.ref k.a,.tup (aG rs),gB pl] (lM k c s M) Q E
def Kx(ad:Ad)(k:Wk)(c:Cf)(names:Xr)(n:Nat):Prop:=∀(x:Str)(a:List Rw)(pl:Xq)(s:Sx)(M:Mem)(Q:DK)(E:DX),dA names c.m c.pieces.length (.again x a)->2*hR (.again x a)<=n->pl.length+2*hR (.again x a)+1<=1000->NOk names c.m s.nums->s.steps.length<=c.most->
 Q (.bl (gr c (.again x a) pl s).1) (lM k c (gr c (.again x a) pl s).2 M)->Vg ad n [.ref k.a,(Rw.again x a).d,gB pl] (lM k c s M) Q E
theorem Fp{pl:Xq}{s:Sx}:gZ c r pl s=if (nt c pl (num c s.nums r) s).1=true then (true,⟨sN s.nums (eB r) (num c s.nums r),(nt c pl (num c s.nums r) s).2.steps⟩) else nt c pl (num c s.nums r) s:=by
 unfold gZ nt
 by_cases q:s.steps.length<c.most
 .simp[q]
 .simp[q]
theorem KQ{s:Sx}(f:NOk names c.m s.nums)(e:c_ names c.m c.pieces.length r):eB r∈s.nums.map (·.1):=by
 rw[f.keys];cases r with
 |put x k=>exact e.1
 |take x k=>exact e.1
 |pick x k=>exact e.1
 |two w x y z=>exact e.2.1
 |ifr=>exact e.elim
 |again=>exact e.elim
theorem vt{f h:bh}{pl:Xq}{s:Sx}{K:Bool->Mem->Prop}(I:COk c)(e:s.steps.length<=c.most)(H:U[0]?=ap (ap<|.ref k.a))(G:∀N K,K (gB pl) N->f U N K)(F:∀N K,K (.int v) N->h U N K)(q:K (!(nt c pl v s).1) (lM k c (nt c pl v s).2 M)):dX (bI<|al<|aj (jO ad) EE 3<|aa (ac 0)<|aa f<|aa h af) U (lM k c s M) K:=by
 simp only[dX,bI,al,aj,aa,af,ac,H];exact G _ _ (F _ _ ⟨rfl,sj I.most e q⟩)
theorem Cd{rest:List D}{w:D}{s:Sx}(f:gN s.nums x=ap (nm s.nums x))(F:U[0]?=ap (ap<|.ref k.a))(h:U[i]?=ap (ap<|.tup (w::.str x::rest)))(q:K (.int<|lk s.nums x) (lM k c s M)):
  jq (ak<|ai bG (ai au (ai au (ac 0)<|dC<|.int 0)<|ai au (ac i)<|dC<|.int 1)<|dC<|.int 0) (dC<|.int 0) (dC<|.int 1) U (lM k c s M) K:=by
 simp![F,h,mT,mB,atI_0,atI_1,ce,f,Qe];unfold lk at q
 split
 .rename_i e;rw[if_pos e]at q;exact q
 .rename_i e;rw[if_neg e]at q;exact q
theorem rj{pl:Xq}(F:pl.length<=1000)(f:U[i]?=ap (ap<|gB pl))(h:U[j]?=ap (ap<|.int v))(q:K (gB (pl++[v])) M):ai ba (ac i) (aP<|aa (ac j) af) U M K:=by
 simp only[ai,ac,aP,aa,af,f,h,gB,ba,Pa,Pu,Qs];refine⟨bg (by decide),bg (by lia),?_⟩
 have e:pl.map D.int++[.int v]=(pl++[v]).map D.int:=by simp
 rw[e];exact q
theorem Dn{s:Sx}{K:Bool->Mem->Prop}{pl:Xq}{G F:bh}(R:mR ad k c names n)(O:U[0]?=ap (ap<|.ref k.a))(P:∀N K,K (.tup<|aG rs) N->G U N K)(J:∀N K,K (gB pl) N->F U N K)(ok:bj names c.m c.pieces.length rs)(I:2*dj rs+1<=n)(f:pl.length+2*dj rs+2<=1000)(h:NOk names c.m s.nums)(e:s.steps.length<=c.most)(q:K (!(bK c rs pl 0 s).1) (lM k c (bK c rs pl 0 s).2 M)):
  dX (bI<|al<|aj (Vf ad n) EE 3<|aa (ac 0)<|aa G<|aa F af) U (lM k c s M) K:=by
 simp only[dX,bI,al,aj,aa,af,ac,O];refine P _ _ (J _ _ ⟨rfl,aq λQ' E' H _=>R rs pl _ M Q' E' ok I f h e (H _ _ q)⟩)
theorem GJ(h:dA names m many r)(e:bn r=true):c_ names m many r:=by
 cases r<;>first|(simp only[dA]at h;exact h)|cases e
theorem tZ{n:cE}:lk n x=0\/lk n x=1:=by unfold lk;split<;>simp
theorem jA{EE:DX}{S0:Sd}{n:Nat}{x:Str}{a:List Rw}{pl:Xq}{M:Mem}{Q:DK}{D':DEnds}{ok:Mem->Prop}{bx:BxF (ag 3) (iI ad S0 (Vf ad n) EE) D' ok}(W:COk c)(Z:mR ad k c names n)(Y:x∈names)(I:bj names c.m c.pieces.length a)(X:2*dj a+1<=n)(R:pl.length+2*dj a+3<=1000)
  (S:∀M,ok M) (e:D'.rt=_3.drp Q) (J:∀U M',_3.drp Q (.bl cm) M'->D'.nx U M'):∀(f t:Nat)(s:Sx)(P T:Option D),NOk names c.m s.nums->s.steps.length<=c.most->
  Q (.bl (fu c x pl (λt s=>bK c a (pl++[(t:Int)]) 0 s) f t s).1) (lM k c (fu c x pl (λt s=>bK c a (pl++[(t:Int)]) 0 s) f t s).2 M)->
  iG (ag 3) (iI ad S0 (Vf ad n) EE) D' ok bx ((Ry t f).map λ(i:Nat)=>D.int (i:Int)) [ap (.ref k.a),ap (.tup [.str "again",.str x,.tup (aG a)]),ap (gB pl),P,T] (lM k c s M)
 |0,t,s,P,T,hno,hst,h=>⟨S _,J _ _<|am h⟩
 |f+1,t,s,P,T,hno,hst,h=>by
  rw[Q4,Pc];refine⟨S _,?_⟩;unfold fu at h;have F:=(nt_gr (c:=c) (pl:=pl++[(t:Int)]) (v:=lk s.nums x) (s:=s)).2 hst;have G:NOk names c.m (nt c (pl++[(t:Int)]) (lk s.nums x) s).2.nums:=by rw[fE];exact hno
  simp only[ag,Pp];unfold iI ah ao;refine Cd (hno.at Y).1 rfl rfl ?_;simp only[ag,Pp];unfold pw ah aC;refine vt W hst rfl (λN K q=>rj (by lia) rfl rfl q) (λN K q=>q) ?_
  cases O:(nt c (pl++[(t:Int)]) (lk s.nums x) s).1 with
  |false=>
   rw[if_neg (by rw[O];simp),O]at h
   simp only[QF,if_true,av,dC,e];exact am h
  |true=>
   rw[if_pos O]at h;simp only[Qk,Pr,if_false,aw];unfold pz ah aC;have zt:∀K:Bool->Mem->Prop,K (decide (lk s.nums x=0)) (lM k c (nt c (pl++[(t:Int)]) (lk s.nums x) s).2 M)->ak (ai bG (ac 4)<|dC<|.int 0) [ap (.ref k.a),ap (.tup [.str "again",.str x,.tup (aG a)]),ap (gB pl),ap (.int (t:Int)),ap (.int<|lk s.nums x)] (lM k c (nt c (pl++[(t:Int)]) (lk s.nums x) s).2 M) K:=λK q=>by
    simp only[ak,ai,ac,dC,dt,OZ,bG,dv,bF,aN];exact⟨trivial,trivial,q⟩
   refine zt _ ?_;rcases tZ (n:=s.nums) (x:=x) with hl|hl
   .rw[hl,if_neg (by decide),<- hl,O]at h
    simp only[hl,decide_true,if_true,av,dC,e];rw[<- hl];exact am h
   .rw[hl,if_pos rfl,<- hl]at h
    have n1:decide (lk s.nums x=0)=false:=by rw[hl];rfl
    simp only[n1,Pr,if_false,aw];unfold qN aC;refine Dn (pl:=pl++[(t:Int)]) Z rfl (λN K q=>?_) (λN K q=>rj (by lia) rfl rfl q) I X (by simp;lia) G F ?_
    .simp only[ai,ac,dC,dt,OZ,au,aE,atI_2]
     exact q
    cases H:(bK c a (pl++[(t:Int)]) 0 (nt c (pl++[(t:Int)]) (lk s.nums x) s).2).1 with
    |false=>
     rw[if_neg (by rw[H];simp),H]at h
     simp only[QF,if_true,av,dC,e];exact am h
    |true=>
     rw[if_pos H]at h;simp only[Qk,Pr,if_false,aw];exact jA W Z Y I X R S e J f (t+1) _ _ _ (dk W a I _ _ _ G) ((fF (c:=c) a (pl++[(t:Int)]) 0 _).2 F) h
theorem uz(I:COk c)(P:mR ad k c names n):Kx ad k c names (n+1):=by
 intro x a pl s M Q E f J F G H h;simp only[dA]at f;simp only[hR]at J F;have O:=I.most;rw[MG];unfold yq;simp only[Rw.d,ah,cB,cM,aa,af,ai,ac,dC,dt,OZ,au,aE,mT,atI_3,ba];refine⟨by lia,by lia,?_⟩
 unfold gr at h;have e:cj 0 (((c.most:Nat):Int)+1).toNat=(Ry 0 (c.most+1)).map λ(i:Nat)=>D.int (i:Int):=by
  unfold cj;rw[Rx];exact PZ λi _=>by rw[TJ]
 rw[e];exact jA I P f.1 f.2 (by lia) (by lia) (λ_=>aK) rfl (λ_ _ z=>z) (c.most+1) 0 s bb bb G H h
theorem lT{e:Str}{rest:List D}{K:Bool->Mem->Prop}(f:U[4]?=ap (ap<|.tup (.str w::rest)))(q:K (decide (w=e)) M):ak (ai bG (ai au (ac 4)<|dC<|.int 0)<|dC<|.str e) U M K:=by
 simp only[ak,ai,ac,dC,f,au,aE,atI_0,dt,bG,dv,bF,aN];exact⟨trivial,trivial,q⟩
def RGo(D':DEnds)(k:Wk)(c:Cf)(M:Mem)(d1 d2:Option D)(r:Bool×Sx):Prop:=(r.1=true->∀c3 c4 c5 c6 c7 c8,D'.nx [ap (.ref k.a),d1,d2,c3,c4,c5,c6,c7,c8] (lM k c r.2 M))/\(r.1=cm->D'.rt (.bl cm) (lM k c r.2 M))
section
variable{S0 S1:Sd}{d1 d2 d3 d6 d7 d8:Option D}{pl:Xq}{s:Sx}
theorem B0(J:COk c)(e:NOk names c.m s.nums)(H:s.steps.length<=c.most)(R:names.length<=1000)(I:c_ names c.m c.pieces.length r)(g:RGo D' k c M d1 d2 (gZ c r pl s)):kZ ad S0 S1 EE D' [ap (.ref k.a),d1,d2,d3,ap r.d,ap (gB pl),d6,d7,d8] (lM k c s M):=by
 obtain⟨w,rest,P,_,_⟩:=ja I;rw[Fp]at g;unfold kZ;generalize F:kP ad S0 S1 EE=K6;simp only[ah,ao,al,aj,aa,af,ac,dt,OZ];refine⟨rfl,qW rfl J e I ?_⟩;show ag 8 (.int _) _ _ _;simp only[ag,Pp];rw[<- F];unfold kP ah aC;refine vt J H rfl (λ_ _ q=>q) (λ_ _ q=>q) ?_;cases G:(nt c pl (num c s.nums r) s).1 with
 |false=>
  rw[if_neg (by rw[G];simp)]at g
  simp only[QF,if_true,av,dC];exact g.2 G
 |true=>
  rw[if_pos G]at g;simp only[Qk,Pr,if_false,aw];have h:(dF s.nums).length<sizeLine:=by rw[dF,Pa,<- Pa (f:=(·.1)),e.keys];exact fS (by lia)
  have O:=Fb (k:=k) (c:=c) (s:=(nt c pl (num c s.nums r) s).2) (M:=M) (x:=sN s.nums (eB r) (num c s.nums r));rw[P];unfold pP;simp![mT,mB,atI_0,atI_1,fE];refine⟨h,?_⟩;rw[ku (v:=num c s.nums r) (KQ e I),O];exact g.1 rfl _ _ _ _ _ _
theorem Fi{a b:List Rw}(S:COk c)(h:NOk names c.m s.nums)(f:s.steps.length<=c.most)(R:mR ad k c names n)(ok:dA names c.m c.pieces.length (.ifr x a b))(F:2*dj a+1<=n/\2*dj b+1<=n/\pl.length+2*dj a+3<=1000/\pl.length+2*dj b+3<=1000)(g:RGo D' k c M d1 d2 (gr c (.ifr x a b) pl s)):
  kH ad S0 (Vf ad n) EE D' [ap (.ref k.a),d1,d2,d3,ap (.tup [.str "if",.str x,.tup (aG a),.tup (aG b)]),ap (gB pl),d6,d7,d8] (lM k c s M):=by
 simp only[dA]at ok;unfold kH ah ao;refine Cd (h.at ok.1).1 rfl rfl ?_;obtain⟨rs,G,I,O,P,T⟩:∃rs,atI [D.tup (aG b),.tup (aG a)] (lk s.nums x)=ap (.tup<|aG rs)/\(gr c (.ifr x a b) pl s=if (nt c pl (lk s.nums x) s).1=true then bK c rs (pl++[lk s.nums x]) 0 (nt c pl (lk s.nums x) s).2 else nt c pl (lk s.nums x) s)/\bj names c.m c.pieces.length rs/\2*dj rs+1<=n/\pl.length+2*dj rs+3<=1000:=by
  unfold gr;rcases tZ (n:=s.nums) (x:=x) with hl|hl<;>rw[hl]
  .exact⟨b,rfl,rfl,ok.2.2,F.2.1,F.2.2.2⟩
  .exact⟨a,rfl,rfl,ok.2.1,F.1,F.2.2.1⟩
 rw[I]at g;unfold qv;simp only[ag,Pp,ah,ao,ai,al,bp,aa,af,ac,dC,dt,OZ,au,aE,atI_2,atI_3];refine⟨bg (by simp),λp J=>?_⟩
 simp only[frz,Mem.upd_same,Mem.upd_del,ar J,aE,G];unfold ra aC Al;refine vt S f rfl (λ_ _ q=>q) (λ_ _ q=>q) ?_;cases H:(nt c pl (lk s.nums x) s).1 with
 |false=>
  rw[if_neg (by rw[H];simp)]at g
  simp only[QF,if_true,av,dC];exact g.2 H
 |true=>
  rw[if_pos H]at g;simp only[Qk,Pr,if_false];refine Dn (pl:=pl++[lk s.nums x]) R rfl (λN K q=>q) (λN K q=>rj (by lia) rfl rfl q) O P (by simp;lia) (by rw[fE];exact h) ((nt_gr (c:=c)).2 f) ?_
  cases e:(bK c rs (pl++[lk s.nums x]) 0 (nt c pl (lk s.nums x) s).2).1 with
  |false=>
   simp only[QF,if_true,av,dC];exact g.2 e
  |true=>
   simp only[Qk,Pr,if_false,aw];exact g.1 e _ _ _ _ _ _
end
theorem zT(hnl:names.length<=1000)(hc:COk c)(ihd:mR ad k c names n)(ihr:Kx ad k c names n):mR ad k c names (n+1):=by
 intro rs pl s M Q E f hn O F G h;rw[On];unfold xS;simp only[ah,cB,ot,aa,af,ac,dt,OZ,aE,b6,lZ]
 refine cI (λxs U M'=>∃(e:List Rw)(j:Nat)(I:Sx)(T c4 Z P S R:Option D),xs=eE j (aG e)/\U=[ap (.ref k.a),ap (.tup<|aG rs),ap (gB pl),T,c4,Z,P,S,R]/\M'=lM k c I M/\bj names c.m c.pieces.length e/\2*dj e+1<=n+1/\pl.length+2*dj e+2<=1000/\NOk names c.m I.nums/\I.steps.length<=c.most/\
  Q (.bl (bK c e pl j I).1) (lM k c (bK c e pl j I).2 M)) (λ_ _ _ _=>aK) ?_ ?_ _ _ _ ⟨rs,0,s,bb,bb,bb,bb,bb,bb,rfl,rfl,rfl,f,hn,O,F,G,h⟩
 .rintro U M' ⟨e,j,I,T,c4,Z,P,S,R,X,rfl,rfl,f,hn,O,F,G,h⟩
  cases e with
  |nil=>
   simp only[bK]at h;simp only[av,dC];exact am h
  |cons r rs=>simp[aG,eE]at X
 .rintro x xs U M' ⟨e,j,I,T,c4,Z,P,S,R,X,rfl,rfl,f,hn,O,F,G,h⟩ D' W _ hrt _
  cases e with
  |nil=>simp[aG,eE]at X
  |cons r e=>
   simp only[aG,eE,Qm]at X;obtain⟨rfl,rfl⟩:=X;simp only[bj]at f;have h1:hR r<=dj (r::e)/\dj e<=dj (r::e):=by simp only[dj];lia
   simp only[bK]at h;have g:RGo D' k c M (ap<|.tup<|aG rs) (ap<|gB pl) (gr c r (pl++[(j:Int)]) I):=⟨λJ T c4 Z P S R=>by
    rw[if_pos J]at h;exact W _ _ ⟨e,j+1,_,T,c4,Z,P,S,R,rfl,rfl,rfl,f.2,by lia,by lia,pQ hc r f.1 _ _ F,(sB r _ _).2 G,h⟩,λJ=>by
    rw[if_neg (by rw[J];simp),J]at h
    rw[show D'.rt=_3.drp Q from hrt];exact am h⟩
   clear W h;simp only[cU,aL,cL,ag,Pp];refine⟨rfl,?_⟩;unfold m3 ah ao;refine rj (by lia) rfl rfl ?_
   simp only[ag,Pp];unfold sh aC
   by_cases H:bn r=true
   .have Y:=GJ f.1 H
    rw[bW H]at g;have ds:=B0 (ad:=ad) (S0:=Vg ad n) (S1:=Vf ad n) (EE:=aM E) (d3:=ap (.int (j:Int))) (d6:=P) (d7:=S) (d8:=R) hc F G hnl Y g;obtain⟨w,rest,er,hw1,hw2⟩:=ja Y;rw[er]at ds ⊢;have n1:decide (w=("again":Str))=false:=decide_eq_false λz=>by rw[hw1]at z;exact z
    have n2:decide (w=("if":Str))=false:=decide_eq_false λz=>by rw[hw2]at z;exact z
    refine lT rfl ?_;simp only[n1,Pr,if_false];unfold kG aC;refine lT rfl ?_;simp only[n2,Pr,if_false];exact ds
   cases r with
   |again x a=>
    simp only[Rw.d];refine lT rfl ?_;simp only[decide_true,if_true];unfold qJ aC;simp only[dX,bI,al,aj,aa,af,ac,dt,OZ];refine⟨rfl,aq λQ' E' hq _=>ihr x a (pl++[(j:Int)]) I M Q' E' f.1 (by lia) (by simp;lia) F G (hq _ _ ?_)⟩
    cases J:(gr c (.again x a) (pl++[(j:Int)]) I).1 with
    |true=>
     simp only[frz,u_,Qk,Pr,if_false,aw];exact g.1 J _ _ _ _ _ _
    |false=>
     simp only[frz,u_,QF,if_true,av,dC];exact g.2 J
   |ifr x a b=>
    simp only[hR]at h1;simp only[Rw.d];have n1:decide (("if":Str)=("again":Str))=false:=by decide +kernel
    refine lT rfl ?_;simp only[n1,Pr,if_false];unfold kG aC;refine lT rfl ?_;simp only[decide_true,if_true];exact Fi hc F G ihd f.1 ⟨by lia,by lia,by simp;lia,by simp;lia⟩ g
   |_=>exact absurd rfl H
theorem tD(e:names.length<=1000)(f:COk c):∀n:Nat,mR ad k c names n/\Kx ad k c names n
 |0=>⟨λrs pl s M Q E _ h=>by lia,λx a pl s M Q E _ h=>by simp only[hR]at h;lia⟩
 |n+1=>by
  obtain⟨F,G⟩:=tD e f n;exact⟨zT e f F G,uz f F⟩
end
section
theorem Kj{k:Wk}{s:Sx}(h:M k.a=bb)(F:M k.dn=bb):∀b o,(M.upd k.ls<|.lst<|wb s.steps) b=ap o->lM k c s M b=ap o:=by
 intro b o e
 by_cases f:b=k.ls
 .subst f;rw[Mem.upd_same]at e;rw[HD];exact e
 .rw[ae f]at e
  unfold lM;rw[ae f,ae (Mem.ne e F),ae (Mem.ne e h)];exact e
theorem tI(p:PlOk c names rows nums)(h:∀l,M l=bb->Q (.tup [.ref l,di names (dh c names rows nums)]) (M.upd l<|.lst<|wb (dh c names rows nums).2.steps)):
  jL ad [aT c names rows mk,bB nums c.pieces,.int (c.most:Nat)] M Q E:=by
 have hl1:=p.l1;simp![OA,xW,aT,bB,atI_0,atI_1,atI_3,eh,Pa];refine⟨p.ln,p.l0,p.l1,λdn X=>?_⟩;simp![fV p.ln p.nd];refine⟨bg (by decide),λls e=>⟨bg (by decide),λa H=>⟨bg (by decide),?_⟩⟩⟩
 have Z:dn≠ls:=by rintro rfl;rw[Mem.upd_same]at e;cases e
 have R:M ls=none:=by rw[ae (P0 Z)]at e;exact e
 have n2:a≠ls:=by rintro rfl;rw[Mem.upd_same]at H;cases H
 have n1:a≠dn:=by rintro rfl;rw[ae Z,Mem.upd_same]at H;cases H
 have W:M a=none:=by rw[ae n2,ae n1]at H;exact H
 obtain⟨k,J,I,O⟩:∃k:Wk,k.a=a/\k.dn=dn/\k.ls=ls:=⟨⟨a,dn,ls,n1,n2,Z⟩,rfl,rfl,rfl⟩;have e0:((M.upd dn<|.dK<|dF<|names.zip nums).upd ls<|.lst []).upd a (.lst [.ref dn,.tup (c.pieces.map D.int),.ref ls,.int (c.most:Nat),.int c.m])=lM k c ⟨names.zip nums,[]⟩ M:=by
  unfold lM;rw[J,I,O,az (P0 n2),az (P0 n1)];rfl
 rw[e0];have hD:=(tD (ad:=ad) (k:=k) p.l1 p.co 24).1 rows [] ⟨names.zip nums,[]⟩ M;have hn:NOk names c.m (dh c names rows nums).2.nums:=dk p.co rows p.ok [] 0 ⟨names.zip nums,[]⟩ p.nok;have P:=h ls R;subst J I O;have f:=Kj (c:=c) (k:=k) (s:=(dh c names rows nums).2) W X;refine aq λQ' E' Y _=>hD Q' E' p.ok (by have:=p.h;lia) (by have:=p.h;simp;lia) p.nok (QY _) (Y _ _ ?_)
 have er:bK c rows [] 0 ⟨names.zip nums,[]⟩=dh c names rows nums:=rfl;rw[er];unfold di at P;cases hb:(dh c names rows nums).1 with
 |false=>
  rw[hb,if_neg (by simp)]at P
  simp![mT,atI_2];exact⟨bg (by decide),⟨_,f,P⟩⟩
 |true=>
  rw[hb,if_pos rfl]at P;simp![mT,atI_1,atI_2,↓aJ]
  refine bZ (λxs Xl U M'=>∃n1 n2 T,names=n1++n2/\xs=n2.map D.str/\Xl=n1.map (λx=>D.int (nm (dh c names rows nums).2.nums x))/\U=[T,ap (.ref k.a)]/\M'=lM k c (dh c names rows nums).2 M)
   (λ_ _ _ _ _=>aK) ?_ ?_ ?_ _ _ _ _ ⟨[],names,bb,rfl,rfl,rfl,rfl,rfl⟩
  .rintro Xl U M' ⟨n1,n2,T,F,G,rfl,rfl,rfl⟩ q Y
   have:n2=[]:=by cases n2 with|nil=>rfl|cons _ _=>simp at G
   subst this;have en:n1=names:=by simpa using F.symm
   subst en;simp![Mem.upd_del,ar Y];exact⟨bg (by decide),⟨_,f,P⟩⟩
  .rintro x xs Xl U M' ⟨n1,n2,T,F,G,rfl,rfl,rfl⟩ N hN _
   cases n2 with
   |nil=>simp at G
   |cons y n2=>
    simp only[Pc,Qm]at G;obtain⟨rfl,rfl⟩:=G;have hy:=(hn.at (x:=y)<|by rw[F];simp).1
    have S:n1.length+n2.length+1=names.length:=by rw[F];simp;lia
    simp![mT,mB,atI_0,ce,hy,Qe];exact hN _ _ _ (by rw[Pa];exact fS (by lia)) ⟨n1++[y],n2,_,by rw[F];simp,rfl,by simp,rfl,rfl⟩
  .rintro x xs Xl U M' ⟨n1,n2,T,F,G,rfl,rfl,rfl⟩
   have S:n1.length+n2.length=names.length:=by rw[F];simp
   rw[Pa];exact fS (by lia)
theorem jF{b:BxQ EE λd M'=>frzT d M' Q}(p:PlOk c names rows nums)(h:Q (wC names<|dh c names rows nums) M):
  calls (jL ad) EE [aT c names rows mk,bB nums c.pieces,.int (c.most:Nat)] M (λd M'=>frzT d M' Q) b:=by
 refine aq λQ' E' F _=>tI p λl f=>F _ _ ?_;unfold wC di at h;unfold di;cases e:(dh c names rows nums).1 with
 |true=>
  rw[e,if_pos rfl]at h;rw[if_pos rfl];simp![Mem.upd_del,ar f];exact h
 |false=>
  rw[e,if_neg (by simp)]at h
  rw[if_neg (by simp)]
  simp![Mem.upd_del,ar f];exact h
end
theorem whT{e:eU}{f:aA}{F:BxW e f D'}(G:∀K:Bool->Mem->Prop,K true M->e U M K)(h:f { D' with nx:=cA e f D' F n,ct:=cA e f D' F n,bk:=D'.nx } U M):cA e f D' F (n+1) U M:=by
 unfold cA;refine G _ ?_;rw[if_pos rfl];exact h
theorem whF{e:eU}{f:aA}{F:BxW e f D'}(G:∀K:Bool->Mem->Prop,K cm M->e U M K)(h:D'.nx U M):cA e f D' F (n+1) U M:=by
 unfold cA;refine G _ ?_;rw[if_neg (by simp)]
 exact h
theorem bS{xs:List D}(e:M p=bb)(h:Q (.lst xs) M):frz (.ref p) (M.upd p<|.lst xs) Q:=by
 simp only[frz,Mem.upd_same,Mem.upd_del,ar e];exact h
section
variable{t:Sta}
noncomputable def aS(C:Cse)(s t:Sta):List aB:=(dU C).filter λk=>decide (aD C s k≠aD C t k)
theorem uI(o:C.Ok)(h:∀p,M p=bb->Q (.ref p) (M.upd p<|.lst<|(dU C).map kD)):uf ad [C.d] M Q E:=by
 have l1:=o.l1;have few:=o.few;rw[NU];unfold zq Cse.d;simp![atI_1,atI_2];intro J G;simp only[Mem.upd_del,ar G];refine⟨⟨by lia,by lia⟩,λI f=>?_⟩
 simp only[Mem.upd_del,ar f];refine⟨bg (by simp[cj];lia),λF H=>am ?_⟩
 have:=h F H;have e:(dU C).map kD=C.names.map D.str++cj 0 (Te (C.many:Nat)):=by simp only[dU,cj,Ri,PB,Pn];congr 1;exact PZ λi _=>by simp[kD]
 rw[e]at this;exact this
theorem C_(o:C.Ok)(J:SOk C s)(I:SOk C t)(h:∀p,M p=bb->Q (.ref p) (M.upd p<|.lst<|(aS C s t).map kD)):xD ad [C.d,s.d,t.d] M Q E:=by
 have l1:=o.l1;have few:=o.few;have O:(dU C).length=C.names.length+C.many:=by simp[dU]
 rw[Oz];unfold yR;simp only[av,aJ,bo,al,aj,aa,ac,af,OZ,dt];refine⟨rfl,aq λQ' E' H _=>uI o λp f=>H _ _ (bS f ?_)⟩;simp only[aE,b6,aY,Pc,PK,Py,Pw,OZ,dt,PY];refine bT (λd=>match cH d with|some k=>decide (aD C s k≠aD C t k)|none=>cm) id aK (by simp;lia) (λx F K q=>?_) (λx F _ K q=>q) ?_
 .obtain⟨k,G,rfl⟩:=Pq.mp F
  simp only[ak,ai,al,aj,aa,ac,af,OZ,dt];refine⟨rfl,aH (λ_ _ q=>dE o J G q) ?_⟩;refine⟨rfl,aH (λ_ _ q=>dE o I G q) ?_⟩;show bF 60 (.int _)=true/\bF 60 (.int _)=true/\_;refine⟨rfl,rfl,?_⟩;have e:cH (kD k)=ap k:=by cases k<;>rfl
  simp only[e]at q;simpa [dv,aN] using q
 .intro p f
  have e:(((dU C).map kD).filter λd=>match cH d with|some k=>decide (aD C s k≠aD C t k)|none=>cm).map id=(aS C s t).map kD:=by
   rw[Qw,Qc];congr 1;refine QH λk _=>?_;cases k<;>rfl
  rw[e];exact am (h p f)
theorem m_(o:C.Ok)(I:SOk C s)(F:SOk C t)(G:C.mark s=.int a)(H:C.mark t=.int b)(e:a≠b)(h:Q (.tup [.int a,.int b]) M):tU ad [bC C s t] M Q E:=by
 rw[Nd];unfold xr qg;generalize f:kS ad (aM E)=K;simp![bC,atI_0,atI_1,atI_2,atI_3];refine ow o I (tM ?_);rw[G];simp![];refine ow o F (tM ?_);rw[H];simp![Pp];rw[<- f];unfold kS pK;simp![e,decide_false];exact⟨bg (by decide),am h⟩
theorem jT{m:D}(e:m=.non\/∃v,m=.int v)(h:Q (.str (if aN m (.int a)=true then "sound" else if aN m (.int b)=true then "faulty" else "other")) M):yM ad [.tup [.int a,.int b],m] M Q E:=by
 rcases e with rfl|⟨v,rfl⟩
 .simp![HL,tz,atI_0,atI_1]
  exact am h
 .simp![HL,tz,atI_0,atI_1]
  simp only[aN,decide_eq_true_eq]at h
  split
  .rename_i q;rw[if_pos q]at h;exact am h
  .rename_i q;rw[if_neg q]at h
   split
   .rename_i q;rw[if_pos q]at h;exact am h
   .rename_i q;rw[if_neg q]at h;exact am h
end
section
variable{κ:Type}[DecidableEq κ]
theorem EI{Xk:List (κ×D)}{k j:κ}{v:D}:(cD (dI Xk k v) j).isSome=(decide (j=k)||(cD Xk j).isSome):=by
 unfold dI
 split
 .rename_i h
  induction Xk with
  |nil=>simp at h
  |cons p r ih=>
   obtain⟨F,O⟩:=p;simp only[Pc,cD,Qu] at*
   by_cases e:F=k
   .subst e
    by_cases f:F=j
    .subst f;simp
    .have I:¬j=F:=λz=>f z.symm
     simp only[if_pos,f,decide_false,I,Q0]
     by_cases H:(r.any λG=>decide (G.1=F))=true
     .have:=ih H
      simp only[I,decide_false,Q0]at this;exact this
     .have:r.map (λG=>if G.1=F then (G.1,v) else G)=r:=by
       conv=>rhs;rw[<- Qw r]
       refine PZ λq J=>?_;have:¬q.1=F:=λz=>H (Q6.mpr ⟨q,J,by simp[z]⟩)
       simp[this]
      rw[this]
   .rw[if_neg e]
    by_cases f:F=j
    .subst f;simp
    .simp only[f,decide_false]
     exact ih (by simpa [e] using h)
 .rename_i h
  unfold cD;rw[List.find?_append];cases q:Xk.find? λG=>decide (G.1=j) with
  |some x=>simp
  |none=>
   by_cases e:j=k
   .subst e;simp
   .have f:¬k=j:=λz=>e z.symm
    simp[e,f]
theorem my{Xk:List (κ×D)}{j:κ}:∀{a0:List (κ×D)},(cD (Xk.foldl (λa p=>dI a p.1 p.2) a0) j).isSome=(decide (j∈Xk.map (·.1))||(cD a0 j).isSome):=by
 induction Xk with
 |nil=>simp
 |cons p r ih=>
  intro a0;rw[Qt,ih,EI,Pc]
  by_cases e:j=p.1
  .simp[e]
  .simp only[Po,e,false_or,decide_false,Q0]
theorem qk{Xk:List (κ×D)}:∀{a0:List (κ×D)},(a0.map (·.1)++Xk.map (·.1)).Nodup->Xk.foldl (λa p=>dI a p.1 p.2) a0=a0++Xk:=by
 induction Xk with
 |nil=>simp
 |cons p r ih=>
  intro a0 h;rw[Qt];have e:dI a0 p.1 p.2=a0++[p]:=by
   unfold dI;rw[if_neg];intro z;obtain⟨q,f,e⟩:=Q6.mp z;have e:=of_decide_eq_true e;rw[Pc]at h;exact(SI.mp h).2.2 q.1 (PV f) p.1 PJ e
  rw[e,ih]
  .simp
  .simpa using h
end
noncomputable def uD(u:List aB):List (aB×D):=u.map λk=>(k,D.bl true)
theorem kb:(uD u).map (·.1)=u:=by
 unfold uD;rw[PB];exact Qw u
theorem j_{k:aB}:(cD (uD u) k).isSome=decide (k∈u):=by
 have:=@my aB _ (uD u) k [];rw[kb]at this
 induction u with
 |nil=>rfl
 |cons a r ih=>
  unfold uD cD;rw[Pc,Qu]
  by_cases e:a=k
  .subst e;simp
  .have f:¬k=a:=λz=>e z.symm
   simp only[e,decide_false,Po,f,false_or];exact ih (@my aB _ (uD r) k [] |>.trans (by rw[kb]))
theorem tH{k:aB}:n_ (uD u) k=uD (u.filter λx=>decide (x≠k)):=by
 unfold n_ uD;rw[Qc];rfl
theorem jf:∀ks:List aB,sQ (ks.map λk=>D.tup [kD k,.bl true])=ap (uD ks)
 |[]=>rfl
 |k::ks=>by
  have e:cH (kD k)=ap k:=by cases k<;>rfl
  simp only[Pc,sQ,e,jf ks];rfl
section
variable{t:Sta}
theorem eZ{k:aB}:cH (kD k)=ap k:=by cases k<;>rfl
theorem pM{a:ca}{Xk:List (aB×D)}{k:aB}(h:M a=ap (.dK Xk)):ia M (kD k) (.ref a)=ap (cD Xk k).isSome:=by
 unfold ia;have:aE M (.ref a)=none:=by simp only[aE,h]
 rw[this];unfold tN;simp only[h,eZ]
theorem qZ(o:C.Ok)(T:ks.length<=1000)(h:∀p,M p=bb->Q (.ref p) (M.upd p<|.lst<|((dU C).filter λk=>decide (k∈ks)).map kD)):yn ad [C.d,ql ks] M Q E:=by
 have l1:=o.l1;have few:=o.few;have Y:(dU C).length=C.names.length+C.many:=by simp[dU]
 rw[O6];unfold yL;generalize I:kW ad (aM E)=K;unfold ql;simp only[ah,ao,br,aa,al,aJ,bo,ac,af,OZ,dt,aE,b6,aY,Pc,PK,Py,Pw];refine dJ (λd=>.tup [d,.bl true]) aK (by simp;lia) (λx G K q=>?_) ?_
 .simp only[aP,aa,ac,dC,af,OZ,dt]
  exact⟨bg (by simp),q⟩
 .intro p J
  refine bS J ?_;have e:(ks.map kD).map (λd=>D.tup [d,.bl true])=ks.map λk=>D.tup [kD k,.bl true]:=by simp
  rw[e];simp only[g7,CY,eY,jf];refine⟨trivial,by simp[uD];lia,λR P=>?_⟩
  simp only[ag,Pp];rw[<- I];unfold kW;simp only[av,aJ,bo,al,aj,aa,ac,af,OZ,dt];refine⟨rfl,aq λQ' E' S _=>uI o λX O=>S _ _ (bS O ?_)⟩;simp only[aE,b6,aY,Pc,PK,Py,Pw,OZ,dt,PY];refine bT (λd=>match cH d with|some k=>decide (k∈ks)|none=>cm) id aK (by simp;lia) (λx G K q=>?_) (λx G _ K q=>q) ?_
  .obtain⟨k,T,rfl⟩:=Pq.mp G
   simp only[eZ]at q;simp only[ak,ai,ac,OZ,dt,sJ,pM (Mem.upd_same),my,kb];simpa [cD] using q
  .intro f F
   have e:(((dU C).map kD).filter λd=>match cH d with|some k=>decide (k∈ks)|none=>cm).map id=((dU C).filter λk=>decide (k∈ks)).map kD:=by
    rw[Qw,Qc];congr 1;refine QH λk _=>?_;simp only[T2,eZ]
   rw[e];have n1:f≠R:=λz=>by rw[z,Mem.upd_same]at F;cases F
   rw[ae n1]at F;refine⟨M.upd f (.lst<|((dU C).filter λk=>decide (k∈ks)).map kD),λb W e=>?_,h f F⟩
   by_cases H:b=f
   .subst H;rw[Mem.upd_same]at e ⊢;exact e
   .rw[ae H]at e ⊢
    rw[ae (λz=>by rw[z,P]at e;cases e)]
    exact e
noncomputable def dZ:Rw->List Str
 |.pick _ y=>[y]
 |.two _ _ y z=>[y,z]
 |.ifr x _ _=>[x]
 |.again x _=>[x]
 |_=>[]
theorem lJ(F:dA names m many r)(h:∀p,M p=bb->Q (.ref p) (M.upd p<|.lst<|(dZ r).map D.str)):yr ad [r.d] M Q E:=by
 cases r with
 |put x k=>simp![o6,iy,Rw.d,atI_0];exact⟨bg (by decide),λp e=>am (h p e)⟩
 |take x i=>simp![o6,iy,Rw.d,atI_0];exact⟨bg (by decide),λp e=>am (h p e)⟩
 |pick x y=>simp![o6,iy,Rw.d,atI_0];exact λp e=>am (h p e)
 |two w x y z=>
  obtain⟨f,_⟩:=F;rcases f with rfl|rfl|rfl|rfl<;>(simp![o6,iy,Rw.d,atI_0];exact λp e=>am (h p e))
 |ifr x a b=>simp![o6,iy,Rw.d,atI_0,atI_1];exact⟨bg (by decide),λp e=>am (h p e)⟩
 |again x a=>simp![o6,iy,Rw.d,atI_0,atI_1];exact⟨bg (by decide),λp e=>am (h p e)⟩
end
structure Gk where
 a:ca
 dn:ca
 lp:ca
 du:ca
 h1:a≠dn
 h2:a≠lp
 h3:a≠du
 h4:dn≠lp
 h5:dn≠du
 h6:lp≠du
structure Gs where
 n:cE
 ps:List Int
 u:List aB
 td:List Rw
 left:Int
noncomputable def nG:List Rw->D
 |[]=>.non
 |r::rs=>.tup [r.d,nG rs]
noncomputable def gF(k:Gk)(td:D)(left:Int):List (Str×D):=[("numbers",.ref k.dn),("pieces",.ref k.lp),("unsettled",.ref k.du),("todo",td),("left",.int left)]
noncomputable def gM(ad:Ad)(k:Gk)(g:Gs)(M:Mem):Mem:=(((M.upd k.a<|.ins ad.C_Going<|gF k (nG g.td) g.left).upd k.dn<|.dK<|dF g.n).upd k.lp<|.lst<|g.ps.map D.int).upd k.du (.dK<|uD g.u)
section
variable{k:Gk}
theorem gh:gM ad k g M k.du=ap (.dK<|uD g.u):=by unfold gM;rw[Mem.upd_same]
theorem oq:gM ad k g M k.lp=ap (.lst<|g.ps.map D.int):=by unfold gM;rw[ae k.h6,Mem.upd_same]
theorem gb:gM ad k g M k.dn=ap (.dK<|dF g.n):=by unfold gM;rw[ae k.h5,ae k.h4,Mem.upd_same]
theorem cK:gM ad k g M k.a=ap (.ins ad.C_Going<|gF k (nG g.td) g.left):=by unfold gM;rw[ae k.h3,ae k.h2,ae k.h1,Mem.upd_same]
theorem jW{b:ca}(e:b≠k.a)(h:b≠k.dn)(f:b≠k.lp)(F:b≠k.du):gM ad k g M b=M b:=by
 unfold gM;rw[ae F,ae f,ae h,ae e]
structure Gk.Fr(k:Gk)(M:Mem):Prop where
 a:M k.a=bb
 dn:M k.dn=bb
 lp:M k.lp=bb
 du:M k.du=bb
theorem cg{b:ca}(h:gM ad k g M b=bb):b≠k.a/\b≠k.dn/\b≠k.lp/\b≠k.du/\M b=none:=by
 have F:b≠k.a:=λz=>by rw[z,cK]at h;cases h
 have f:b≠k.dn:=λz=>by rw[z,gb]at h;cases h
 have G:b≠k.lp:=λz=>by rw[z,oq]at h;cases h
 have e:b≠k.du:=λz=>by rw[z,gh]at h;cases h
 rw[jW F f G e]at h;exact⟨F,f,G,e,h⟩
theorem dD(f:k.Fr M){b:ca}(e:M b=ap o):gM ad k g M b=ap o:=by
 rw[jW (λz=>by rw[z,f.a]at e;cases e) (λz=>by rw[z,f.dn]at e;cases e) (λz=>by rw[z,f.lp]at e;cases e) (λz=>by rw[z,f.du]at e;cases e)]
 exact e
theorem rM(f:k.Fr M){b:ca}{h:MO}(e:M b=ap o):(gM ad k g M).upd b h=gM ad k g (M.upd b h):=by
 have n1:k.a≠b:=λz=>by rw[<- z,f.a]at e;cases e
 have n2:k.dn≠b:=λz=>by rw[<- z,f.dn]at e;cases e
 have G:k.lp≠b:=λz=>by rw[<- z,f.lp]at e;cases e
 have F:k.du≠b:=λz=>by rw[<- z,f.du]at e;cases e
 unfold gM;rw[az F,az G,az n2,az n1]
theorem yN:(gM ad k g M).upd k.a (.ins ad.C_Going<|gF k (nG td) left)=gM ad k { g with td:=td,left:=left } M:=by
 unfold gM;rw[az (P0 k.h3),az (P0 k.h2),az (P0 k.h1),Mem.upd_upd]
theorem Ie{n:cE}:(gM ad k g M).upd k.dn (.dK<|dF n)=gM ad k { g with n:=n } M:=by
 unfold gM;rw[az (P0 k.h5),az (P0 k.h4),Mem.upd_upd]
theorem Oj:(gM ad k g M).upd k.lp (.lst<|ps.map D.int)=gM ad k { g with ps:=ps } M:=by
 unfold gM;rw[az (P0 k.h6),Mem.upd_upd]
theorem HQ:(gM ad k g M).upd k.du (.dK<|uD u)=gM ad k { g with u:=u } M:=by
 unfold gM;rw[Mem.upd_upd]
end
section
variable{k:Gk}{td:D}
theorem Ho:P1 ("numbers":Str) (gF k td left)=ap (.ref k.dn):=rfl
theorem gf1:P1 ("pieces":Str) (gF k td left)=ap (.ref k.lp):=rfl
theorem Iz:P1 ("unsettled":Str) (gF k td left)=ap (.ref k.du):=rfl
theorem KF:P1 ("todo":Str) (gF k td left)=ap td:=rfl
theorem gf4:P1 ("left":Str) (gF k td left)=ap (.int left):=rfl
theorem gfs:P1 ("settled":Str) (gF k td left)=none:=rfl
theorem LY{d:D}:bE "todo" d (gF k td left)=gF k d left:=rfl
theorem gfp4:bE "left" (.int v) (gF k td left)=gF k td v:=rfl
theorem gfl:(gF k td left).length=5:=rfl
end
section
variable{t:Sta}
theorem eL(h:Q (nG (rs++td)) M):mE ad [.tup (aG rs),nG td] M Q E:=by
 rw[N_];unfold yu;simp only[ah,cB,LK,aa,ac,af,OZ,dt];refine cI (λH U N=>∃(c:Option D)(us F:List Rw),rs=us++F/\H=(aG us).reverse/\U=[ap (.tup<|aG rs),ap (nG (F++td)),c]/\N=M) (λ_ _ _ _=>aK) ?_ ?_ _ _ _ ⟨bb,rs,[],by simp,rfl,rfl,rfl⟩
 .rintro U N ⟨c,us,F,G,f,rfl,rfl⟩
  have:us=[]:=by
   cases us with
   |nil=>rfl
   |cons a b=>rw[aG]at f;simp at f
  subst this;rw[Pw]at G;subst G;simp only[av,ac,OZ,dt];exact am h
 .rintro y H U N ⟨c,us,F,G,f,rfl,rfl⟩ D' I _ _ _
  obtain⟨e,r,rfl⟩:∃e r,us=e++[r]:=by
   rcases List.eq_nil_or_concat us with z|⟨e,r,z⟩
   .subst z;rw[aG]at f;simp at f
   .exact⟨e,r,by simpa using z⟩
  rw[gl,Ri,List.reverse_append]at f;simp only[Pc,PK,List.reverse_cons,List.reverse_nil,Pw,Py,Qm]at f;obtain⟨rfl,rfl⟩:=f;simp only[ag,Pp];unfold rH;simp only[ao,aP,aa,ac,af,ag,Pp,OZ,dt];exact⟨bg (by simp),I _ _ ⟨_,e,r::F,by simp[G],by rw[gl],rfl,rfl⟩⟩
end
structure GOk(C:Cse)(g:Gs):Prop where
 n:NOk C.names C.w g.n
 lp:g.ps.length=C.many
 rp:∀v∈g.ps,0<=v/\v<C.w
 td:bj C.names C.w C.many g.td
noncomputable def Gs.cf(C:Cse)(g:Gs):Cf:=⟨C.w,g.ps,C.most⟩
section
theorem GOk.pd(k:GOk C g):C.d=aT (g.cf C) C.names C.rows C.mn:=by unfold Cse.d aT Gs.cf;rw[k.lp]
theorem GOk.co(k:GOk C g)(o:C.Ok):COk (g.cf C):=⟨o.m2,o.m1,k.rp,by show g.ps.length<=_;rw[k.lp];have:=o.few;lia,o.most⟩
noncomputable def Hh(C:Cse)(n:cE):Rw->Option Int
 |.take _ i=>ap i
 |.pick _ y=>ap (nm n y % (C.many:Int))
 |_=>bb
noncomputable def Jy(o:Option Int):D:=match o with
 |some i=>.int i
 |none=>.non
theorem gy(h:dA names m many r)(e:bn r=true):c_ names m many r:=by
 cases r<;>first|exact h|cases e
end
section
variable{t:Sta}
theorem jB{F:ca}(k:GOk C g)(H:dA C.names C.w C.many r)(G:M F=ap (.dK<|dF g.n))(h:Q (Jy<|Hh C g.n r) M):mK ad [C.d,.ref F,r.d] M Q E:=by
 cases f:bn r with
 |true=>
  rw[k.pd];refine cw (c:=g.cf C) (names:=C.names) k.n (by have:=gy H f;rw[<- k.lp]at this;exact this) G ?_
  have e:((g.cf C).pieces.length:Int)=(C.many:Int):=by show ((g.ps.length:Nat):Int)=_;rw[k.lp]
  cases r with
  |pick x y=>
   show Q (.int<|nm g.n y % ((g.cf C).pieces.length:Int)) M;rw[e];exact h
  |_=>exact h
 |false=>
  cases r with
  |ifr x a b=>simp![o8,iN,Cse.d,Rw.d,atI_0,atI_2];exact am h
  |again x a=>simp![o8,iN,Cse.d,Rw.d,atI_0,atI_2];exact am h
  |_=>cases f
theorem vi{S:ca}(o:C.Ok)(k:GOk C g)(Z:dA C.names C.w C.many r)(R:bn r=true)(X:M S=ap (.dK<|dF g.n))(Y:M lp=ap (.lst<|g.ps.map D.int))(h:Q (.int<|num (g.cf C) g.n r) M):
  lP ad [C.d,.ref S,.ref lp,r.d] M Q E:=by
 have hm1:=o.m1;have hm2:=o.m2;have hc:=k.co o;have e:=gy Z R;have O:=k.lp;have H:∀i:Nat,i<C.many->(g.ps.map D.int)[i]?=ap (.int<|(g.ps[i]?).getD 0):=λi hi=>by
  rw[Ph,Pb (by lia)];rfl
 have F:∀{K:DK},K (Jy<|Hh C g.n r) M->∀Q' E',(∀d M,K d M->Q' d M)->mK ad [C.d,.ref S,r.d] M Q' E':=λ{K} q Q' E' f=>jB k Z X (f _ _ q);have G:=@AK C;cases r with
 |put x v=>
  simp![jC,g5,G,Rw.d,atI_0,atI_2];exact am h
 |take x i=>
  obtain⟨T,P,h1⟩:=e;have I:=H i.toNat (by lia)
  rw[Rw.d]at F ⊢;simp![jC,g5,atI_0,atI_2];refine aq λQ' E' f _=>F (K:=λd M=>_) ?_ Q' E' f;simp![Hh,Jy,Y,bi P,I];exact am h
 |pick x y=>
  obtain⟨T,W,P⟩:=e;have g0:=QJ (nm g.n y) (show (C.many:Int)≠0 by lia)
  have g1:=QB (nm g.n y) P;have I:=H (nm g.n y % (C.many:Int)).toNat (by lia)
  have e2:num (g.cf C) g.n (.pick x y)=(g.ps[(nm g.n y % (C.many:Int)).toNat]?).getD 0:=by show (g.ps[(nm g.n y % (g.ps.length:Int)).toNat]?).getD 0=_;rw[O]
  rw[e2]at h;rw[Rw.d]at F ⊢;simp![jC,g5,atI_0,atI_2];refine aq λQ' E' f _=>F (K:=λd M=>_) ?_ Q' E' f;simp![Hh,Jy,Y,bi g0,I];exact am h
 |two w x y z=>
  obtain⟨hw,T,W,hz⟩:=e;have a1:=k.n.at W;have a2:=k.n.at hz;have J:((w=Qq "put")=False):=by rcases hw with rfl|rfl|rfl|rfl<;>exact eq_false (by decide +kernel)
  rw[Rw.d]at F ⊢;simp![jC,g5,atI_0,atI_2,J];refine aq λQ' E' f _=>F (K:=λd M=>_) ?_ Q' E' f;simp![Hh,Jy,G,atI_0,atI_2,atI_3,X,ce,a1.1,a2.1,Qe];exact aH (d:=.int (num (g.cf C) g.n<|.two w x y z)) (λ_ _ q=>jx (by lia) (by lia) (by lia) q) (am h)
 |ifr=>cases R
 |again=>cases R
end
noncomputable def fC(C:Cse)(g:Gs)(r:Rw):Option aB:=
 if g.u=[] then bb else match (dU C).filter λk=>decide (k∈((dZ r).filter λx=>decide ((PX x:aB)∈g.u)).map PX) with
  |k::_=>ap k
  |[]=>match Hh C g.n r with
   |some i=>if (Qz i:aB)∈g.u then ap (.inl i) else bb
   |none=>bb
noncomputable def AI:Option aB->D
 |some k=>kD k
 |none=>.non
section
variable{t:Sta}{k:Gk}
theorem yh(h:dA names m many r):∀x∈dZ r,x∈names:=by
 cases r with
 |put=>simp[dZ]
 |take=>simp[dZ]
 |pick x y=>intro z e;simp[dZ]at e;subst e;exact h.2.1
 |two w x y z=>intro v f;simp[dZ]at f;rcases f with rfl|rfl;exact h.2.2.1;exact h.2.2.2
 |ifr x a b=>intro z e;simp[dZ]at e;subst e;exact h.1
 |again x a=>intro z e;simp[dZ]at e;subst e;exact h.1
theorem B5:(dZ r).length<=2:=by cases r<;>simp[dZ]
theorem JA:(uD u).isEmpty=u.isEmpty:=by cases u<;>rfl
theorem DV:ia (gM ad k g M) (.str x) (.ref k.du)=ap (decide ((PX x:aB)∈g.u)):=by
 have:=pM (k:=.inr x) (gh (ad:=ad) (k:=k) (g:=g) (M:=M));rw[j_]at this;exact this
theorem pW(o:C.Ok)(ok:GOk C g)(S:dA C.names C.w C.many r)(h:Q (AI<|fC C g r) (gM ad k g M)):yS ad [C.d,.ref k.a,r.d] (gM ad k g M) Q E:=by
 have R:=yh S;have I:=B5 (r:=r);rw[Nr];unfold yw;simp only[ah,aC,dX,bI,aV,ac,OZ,dt,cK,Iz,u_,gh,JA];refine⟨trivial,?_⟩;unfold fC at h;cases X:g.u with
 |nil=>
  rw[if_pos X]at h;simp only[TM,Qk,QF,if_true,av,dC];exact am h
 |cons u0 ur=>
  rw[if_neg (by rw[X];simp)]at h
  rw[if_neg (by simp)]
  simp only[aw];unfold pZ;simp only[ah,bf,bJ,aJ,bo,al,aj,aa,ac,af,OZ,dt];refine⟨rfl,aq λQ' E' O _=>lJ S λp f=>O _ _ (bS f ?_)⟩;simp only[aE,b6,aY,Pc,PK,Py,Pw,OZ,dt,PY];refine bT (λd=>match d with|.str x=>decide ((PX x:aB)∈g.u)|_=>cm) id aK (by simp;lia) (λx F K q=>?_) (λx F _ K q=>q) ?_
  .obtain⟨y,hy,rfl⟩:=Pq.mp F
   simp only[ak,ai,ac,aV,OZ,dt,cK,Iz,sJ,DV];exact⟨trivial,q⟩
  .intro p f
   generalize P:((dZ r).filter λx=>decide ((PX x:aB)∈g.u))=fnd at h;have e:(((dZ r).map D.str).filter λd=>match d with|.str x=>decide ((PX x:aB)∈g.u)|_=>cm).map id=(fnd.map PX).map kD:=by
    rw[Qw,Qc,<- P,PB];rfl
   have hfn:∀x∈fnd,x∈C.names:=λx F=>by rw[<- P]at F;exact R x (Pf.mp F).1
   have hfl:fnd.length<=2:=by rw[<- P];exact PL (P2 _ _) I
   rw[e];simp only[cu,Pp,OZ,dt];refine bS (Q:=λd M'=>(k8 ad<|aM E) _ [ap C.d,ap (.ref k.a),ap r.d,ap d,bb] M') f ?_;unfold k8;simp only[ah,aC,bI,ac,OZ,dt,u_];cases G:fnd with
   |nil=>
    have Z:((dU C).filter λk=>decide (k∈(fnd.map PX:List aB)))=[]:=by rw[G];simp
    rw[Z]at h;simp only[PK,TM,Qk];rw[if_neg (by simp)]
    simp only[aw];unfold qf rB;simp only[ah,ao,al,aj,aa,ac,af,aV,OZ,dt,cK,Ho];refine⟨trivial,rfl,aH (λ_ _ q=>jB ok S gb q) ?_⟩;cases f:Hh C g.n r with
    |none=>
     simp only[f]at h;simp only[Jy,frz,ag,Pp,av,jq,ak,ai,ac,dC,aV,OZ,dt,cK,Iz,Cb,yB,gh];refine⟨trivial,?_⟩;rw[if_neg (by simp)]
     exact am h
    |some i=>
     simp only[f]at h;have J:=pM (k:=.inl i) (gh (ad:=ad) (k:=k) (g:=g) (M:=M));rw[j_]at J;simp only[kD]at J;simp only[Jy,frz,ag,Pp,av,jq,ak,ai,ac,dC,aV,OZ,dt,cK,Iz,Cb,yB,J];refine⟨trivial,?_⟩
     by_cases c:(Qz i:aB)∈g.u
     .rw[if_pos c]at h
      rw[if_pos (by simpa using c)]
      exact am h
     .rw[if_neg c]at h
      rw[if_neg (by simpa using c)]
      exact am h
   |cons f0 fr=>
    have H:∃Y W,((dU C).filter λk=>decide (k∈(fnd.map PX:List aB)))=Y::W:=by
     have:(PX f0:aB)∈(dU C).filter λk=>decide (k∈(fnd.map PX:List aB)):=by
      refine Pf.mpr ⟨R5 _ (PV<|hfn f0<|by rw[G];simp),?_⟩
      rw[G];simp
     cases q:(dU C).filter λk=>decide (k∈(fnd.map PX:List aB)) with
     |nil=>rw[q]at this;cases this
     |cons a b=>exact⟨a,b,rfl⟩
    obtain⟨Y,W,T⟩:=H;rw[T]at h;simp only at h;have hne:((f0::fr).map (PX:Str->aB)).map kD≠[]:=by simp
    rw[if_pos (by simp)]
    unfold qh;simp only[av,ai,al,aj,aa,ac,af,dC,OZ,dt];refine⟨rfl,aq λQ' E' O _=>qZ (ks:=(f0::fr).map PX) o (by rw[<- G,Pa];lia) λp f=>O _ _ (bS f ?_)⟩
    rw[<- G,T];simp only[au,aE,Pc,atI_0,dt];exact am h
end
theorem okRs_app{names:Xr}{m many:Int}:∀{a b:List Rw},bj names m many (a++b)↔bj names m many a/\bj names m many b
 |[],b=>by simp[bj]
 |r::a,b=>by simp[bj,okRs_app,and_assoc]
noncomputable def lC(C:Cse)(g:Gs)(rest:List Rw):Rw->Gs
 |.ifr x a b=>{ g with left:=g.left-1,td:=(if nm g.n x=0 then b else a)++rest }
 |.again x a=>{ g with left:=g.left-1,td:=if nm g.n x=0 then rest else a++(.again x a::rest) }
 |r=>{ g with left:=g.left-1,td:=rest,n:=sN g.n (eB r) (num (g.cf C) g.n r),u:=g.u.filter λk=>decide (k≠.inr (eB r)) }
theorem nE:(lC C g rest r).left=g.left-1:=by cases r<;>rfl
section
variable{t:Sta}{k:Gk}
theorem Du(o:C.Ok)(ok:GOk C g)(f:dA C.names C.w C.many r)(e:bn r=true):0<=num (g.cf C) g.n r/\num (g.cf C) g.n r<C.w:=
 zd (ok.co o) (names:=C.names) ok.n (by have:=gy f e;rw[<- ok.lp]at this;exact this)
theorem vb(o:C.Ok)(ok:GOk C g)(e:g.td=r::rest):GOk C (lC C g rest r):=by
 have h:=ok.td;rw[e]at h;obtain⟨G,f⟩:=h;have F:bn r=true->GOk C { g with left:=g.left-1,td:=rest,n:=sN g.n (eB r) (num (g.cf C) g.n r),u:=g.u.filter λk=>decide (k≠.inr (eB r)) }:=λH=>
  ⟨Cg (c:=g.cf C) ok.n (Du o ok G H),ok.lp,ok.rp,f⟩
 cases r with
 |ifr x a b=>
  refine⟨ok.n,ok.lp,ok.rp,okRs_app.mpr ⟨?_,f⟩⟩
  split
  .exact G.2.2
  .exact G.2.1
 |again x a=>
  refine⟨ok.n,ok.lp,ok.rp,?_⟩;show bj _ _ _ (if nm g.n x=0 then rest else a++(.again x a::rest))
  split
  .exact f
  .exact okRs_app.mpr ⟨G.2,G,f⟩
 |put x v=>exact F rfl
 |take x v=>exact F rfl
 |pick x y=>exact F rfl
 |two w x y z=>exact F rfl
theorem wI(h:c_ names m many r):eB r∈names:=by
 cases r with
 |put x v=>exact h.1
 |take x v=>exact h.1
 |pick x v=>exact h.1
 |two w x y z=>exact h.2.1
 |ifr=>exact h.elim
 |again=>exact h.elim
theorem BK:Mh (gM ad k g M) (.ref k.du)=true:=by simp only[Mh,gh]
theorem GB{k:aB}(h:k∉u):u.filter (λx=>decide (x≠k))=u:=U9.mpr λx e=>by
 have:x≠k:=λz=>h (z▸e);simp[this]
theorem JK(o:C.Ok)(ok:GOk C g)(F:dA C.names C.w C.many r)(f:bn r=true)(h:D'.nx [ap C.d,ap (.ref k.a),ap r.d] (gM ad k { g with n:=sN g.n (eB r) (num (g.cf C) g.n r),u:=g.u.filter λk=>decide (k≠.inr (eB r)) } M)):
  gE ad EE D' [ap C.d,ap (.ref k.a),ap r.d] (gM ad k g M):=by
 have H:=wI (gy F f);have e:∀{M:Mem}{K:DK},K (.str<|eB r) M->au r.d (.int 1) M K:=λq=>by
  cases r with
  |ifr=>cases f
  |again=>cases f
  |_=>simp only[Rw.d,au,aE,atI_1,OZ,dt];exact q
 have keys:eB r∈g.n.map (·.1):=by rw[ok.n.keys];exact H
 unfold gE qj;simp only[ah,ao,al,aj,aa,ac,af,aV,OZ,dt,cK,Ho,gf1];refine⟨trivial,trivial,rfl,aH (λ_ _ q=>vi o ok F f gb oq q) ?_⟩;simp only[frz,cO,aV,ai,ac,dC,OZ,dt,cK,Ho];refine⟨trivial,e ?_⟩;have I:(dF g.n).length<sizeLine:=by
  have O:(dF g.n).length=C.names.length:=by rw[<- ok.n.keys];simp[dF]
  have:=o.l1;exact fS (by lia)
 simp only[pE,gb,cH,ku keys,Ie];refine⟨I,?_⟩;simp only[bq,DF,aV,ai,ac,dC,OZ,dt,cK,Iz,BK];refine⟨trivial,trivial,e ?_⟩;simp only[gh,cH];cases J:cD (uD g.u) (.inr<|eB r) with
 |some v=>simp only[tH,HQ];exact h
 |none=>
  have G:(PX (eB r):aB)∉g.u:=λz=>by
   have:=j_ (u:=g.u) (k:=.inr (eB r));rw[J]at this;simp[z]at this
  rw[GB G]at h;exact h
theorem mM{e:Str}{rest:List D}{K:Bool->Mem->Prop}(f:U[2]?=ap (ap<|.tup (.str w::rest)))(q:K (decide (w=e)) M):ak (ai bG (ai au (ac 2)<|dC<|.int 0)<|dC<|.str e) U M K:=by
 simp only[ak,ai,ac,dC,f,au,aE,atI_0,dt,bG,dv,bF,aN];exact⟨trivial,trivial,q⟩
theorem Ax(h:dA C.names C.w C.many r)(e:bn r=true):∃w rest,r.d=.tup (.str w::rest)/\decide (w=("if":Str))=cm/\decide (w=("again":Str))=false:=by
 cases r with
 |ifr=>cases e
 |again=>cases e
 |two w x y z=>
  obtain⟨f,_⟩:=h;refine⟨_,_,rfl,?_⟩;rcases f with rfl|rfl|rfl|rfl<;>exact⟨by decide +kernel,by decide +kernel⟩
 |_=>exact⟨_,_,rfl,by decide +kernel,by decide +kernel⟩
theorem vF(o:C.Ok)(ok:GOk C g)(e:g.td=r::rest)(h:Q .non (gM ad k (lC C g rest r) M)):zj ad [C.d,.ref k.a,r.d] (gM ad k g M) Q E:=by
 have J:=ok.td;rw[e]at J;obtain⟨O,H⟩:=J;have G:GOk C { g with td:=rest,left:=g.left-1 }:=⟨ok.n,ok.lp,ok.rp,H⟩;rw[Nk];unfold xx rX;have W:nG g.td=.tup [r.d,nG rest]:=by rw[e];rfl
 have u1:=yN (ad:=ad) (k:=k) (g:=g) (M:=M) (td:=g.td) (left:=g.left-1);simp only[ah,pG,cC,aV,ai,ac,dC,OZ,dt,cK,gf4,gfl,gfp4,u1];refine⟨trivial,by decide,trivial,trivial,?_⟩
 have X:=yN (ad:=ad) (k:=k) (g:={ g with left:=g.left-1 }) (M:=M) (td:=rest) (left:=g.left-1);simp only[KF,W,au,aE,atI_1,OZ,dt,cK,gfl,LY,X];refine⟨trivial,by decide,?_⟩
 have I:bn r=true->∀{D':DEnds}{EE:DX},D'.nx [ap C.d,ap (.ref k.a),ap r.d] (gM ad k (lC C g rest r) M)->gE ad EE D' [ap C.d,ap (.ref k.a),ap r.d] (gM ad k { g with td:=rest,left:=g.left-1 } M):=λf D' EE q=>JK o G O f (by
  cases r with
  |ifr=>cases f
  |again=>cases f
  |_=>exact q)
 have F:bn r=true->(gE ad<|aM E) { nx:=λ_ M'=>drp Q .non M',rt:=drp Q } [ap C.d,ap (.ref k.a),ap r.d] (gM ad k { g with td:=rest,left:=g.left-1 } M):=λf=>by
  exact I f (am h)
 by_cases f:bn r=true
 .obtain⟨w,wr,Z,n1,n2⟩:=Ax O f
  have:=F f;rw[Z]at this ⊢;unfold iU aC;refine mM rfl ?_;simp only[n1,Pr,if_false];unfold km aC;refine mM rfl ?_;simp only[n2,Pr,if_false];exact this
 cases r with
 |ifr x a b=>
  have P:x∈C.names:=O.1;have T:=(G.n.at P).1;have S:=λl=>yN (ad:=ad) (k:=k) (g:={ g with td:=rest,left:=g.left-1 }) (M:=M) (td:=l) (left:=g.left-1);have fin:∀l:List Rw,(lC C g rest<|.ifr x a b).td=l++rest->calls (mE ad) (aM E) [.tup (aG l),nG rest] (gM ad k { g with td:=rest,left:=g.left-1 } M) (λd M'=>frz d M' λy M1=>match M1 k.a with
    |some (MO.ins C' fs)=>C'=ad.C_Going/\fs.length<1000/\drp Q D.non (M1.upd k.a<|MO.ins ad.C_Going<|bE (Qq "todo") y fs)
    |_=>False) ⟨⟩:=λl Y=>by
   refine aH (λ_ _ q=>eL q) ?_;have R:∀{l:List Rw}{M:Mem}{Q:DK},Q (nG l) M->frz (nG l) M Q:=λ{l} {M} {Q} q=>by cases l<;>exact q
   refine R ?_;simp only[cK,gfl,LY,S];rw[<- Y];exact⟨trivial,by decide,am h⟩
  simp only[Rw.d];unfold iU aC;refine mM rfl ?_;simp only[decide_true,if_true];unfold pU;simp![atI_1,atI_2,atI_3,cK,Ho,KF,gb,ce,T,Qe]
  by_cases c:nm g.n x=0
  .simp only[c,decide_true,if_true]
   exact fin b (by simp only[lC,c,if_true])
  .simp only[c,decide_false]
   exact fin a (by simp only[lC,c,if_false])
 |again x a=>
  have P:x∈C.names:=O.1;have T:=(G.n.at P).1;have S:=λl=>yN (ad:=ad) (k:=k) (g:={ g with td:=rest,left:=g.left-1 }) (M:=M) (td:=l) (left:=g.left-1);have n1:decide (("again":Str)=("if":Str))=false:=by decide +kernel
  simp only[Rw.d];unfold iU aC;refine mM rfl ?_;simp only[n1,Pr,if_false];unfold km aC;refine mM rfl ?_;simp only[decide_true,if_true];unfold qe;simp![atI_1,atI_2,cK,Ho,KF,gb,ce,T,Qe]
  by_cases c:nm g.n x=0
  .simp only[c,decide_true,Qk]
   refine am ?_;have:lC C g rest (.again x a)={ g with td:=rest,left:=g.left-1 }:=by simp only[lC,c,if_true]
   rw[<- this];exact h
  .simp only[c,decide_false,QF,if_true]
   refine⟨bg (by decide),?_⟩
   refine aH (λ_ _ q=>eL (td:=.again x a::rest) q) ?_;have R:∀{l:List Rw}{M:Mem}{Q:DK},Q (nG l) M->frz (nG l) M Q:=λ{l} {M} {Q} q=>by cases l<;>exact q
   refine R ?_;simp only[ac,OZ,dt,cK,gfl,LY,S];have:lC C g rest (.again x a)={ g with td:=a++(.again x a::rest),left:=g.left-1 }:=by simp only[lC,c,if_false]
   rw[<- this];exact⟨trivial,by decide,am h⟩
 |_=>exact absurd rfl f
end
noncomputable def bR(C:Cse):Nat->Gs->Option aB×Gs
 |0,g=>(bb,g)
 |f+1,g=>match g.td with
  |[]=>(if (PX C.mn:aB)∈g.u then ap (.inr C.mn) else bb,g)
  |r::rest=>if g.left<=0 then (bb,g) else match fC C g r with
   |some k=>(ap k,g)
   |none=>bR C f (lC C g rest r)
section
variable{t:Sta}{k:Gk}
theorem D7:fL (nG td)=td.isEmpty:=by cases td<;>rfl
theorem p_(o:C.Ok):∀(f:Nat)(g:Gs),GOk C g->GOk C (bR C f g).2
 |0,g,h=>h
 |f+1,g,h=>by
  unfold bR;cases e:g.td with
  |nil=>exact h
  |cons r rest=>
   dsimp only
   split
   .exact h
   .cases a:fC C g r with
    |some k=>exact h
    |none=>exact p_ o f _ (vb o h e)
theorem Eh{I H:Option D}(o:C.Ok)(ok:GOk C g)(e:g.td=r::rest)(T:g.left<=0->D'.rt .non (gM ad k g M))(W:¬g.left<=0->∀q,fC C g r=ap q->D'.rt (kD q) (gM ad k g M))(h3:¬g.left<=0->fC C g r=bb->∀I H,D'.nx [ap C.d,ap (.ref k.a),I,H] (gM ad k (lC C g rest r) M)):gq ad EE D' [ap C.d,ap (.ref k.a),I,H] (gM ad k g M):=by
 have f:=ok.td;rw[e]at f;obtain⟨S,G⟩:=f;have F:nG g.td=.tup [r.d,nG rest]:=by rw[e];rfl
 unfold gq;simp only[ah,aC,ak,ai,aV,ac,dC,oLe,jS,OZ,dt,cK,gf4];refine⟨trivial,?_⟩
 by_cases h:g.left<=0
 .rw[if_pos (by simpa using h)]
  exact T h
 .rw[if_neg (by simpa using h)]
  simp only[aw];unfold qz rW;simp only[ah,ao,ai,aV,ac,dC,OZ,dt,cK,KF,F,au,aE,atI_0,ag,Pp,al,aj,aa,af];refine⟨trivial,rfl,aH (λ_ _ q=>pW o ok S q) ?_⟩;have O:∀{q:Option aB}{M:Mem}{Q:DK},Q (AI q) M->frz (AI q) M Q:=λ{q} {M} {Q} z=>by
   cases q with
   |none=>exact z
   |some k=>cases k<;>exact z
  refine O ?_;unfold qA qy;have R:fL (AI<|fC C g r)=(fC C g r).isNone:=by
   cases fC C g r with
   |none=>rfl
   |some k=>cases k<;>rfl
  simp only[ah,aC,ak,ai,ac,dC,fh,OZ,dt,R];cases J:fC C g r with
  |some q=>
   rw[if_pos (by simp)]
   exact W h q J
  |none=>
   rw[if_neg (by simp)]
   simp only[aw,bq,aj,aa,ac,af,OZ,dt];exact⟨rfl,aq λQ' E' P _=>vF o ok e (P _ _<|h3 h J _ _)⟩
theorem oi{EE:DX}{D':DEnds}{P:BxW (ak<|ai fh (aV ad.C_Going (ac 1) "todo")<|dC .non) (gq ad EE) D'}(o:C.Ok):∀(f:Nat)(g:Gs)(F h:Option D),GOk C g->g.left<f->
  (∀F h g',(bR C f g)=(if (PX C.mn:aB)∈g'.u then ap (.inr C.mn) else bb,g')->g'.td=[]->D'.nx [ap C.d,ap (.ref k.a),F,h] (gM ad k g' M))->
  (∀g' q,bR C f g=(q,g')->D'.rt (AI q) (gM ad k g' M))->0<=g.left->
  cA (ak<|ai fh (aV ad.C_Going (ac 1) "todo")<|dC .non) (gq ad EE) D' P (f+1) [ap C.d,ap (.ref k.a),F,h] (gM ad k g M)
 |0,g,F,h,ok,hf,h1,h2,h0=>by lia
 |f+1,g,F,h,ok,hf,h1,h2,h0=>by
  have I:∀K:Bool->Mem->Prop,K (!g.td.isEmpty) (gM ad k g M)->ak (ai fh (aV ad.C_Going (ac 1) "todo")<|dC .non) [ap C.d,ap (.ref k.a),F,h] (gM ad k g M) K:=λK q=>by
   simp only[ak,ai,aV,ac,dC,OZ,dt,cK,KF,fh,D7];exact⟨trivial,q⟩
  cases e:g.td with
  |nil=>
   refine whF (λK q=>I K (by rw[e];exact q)) (h1 F h g ?_ e)
   unfold bR;rw[e]
  |cons r rest=>
   have G:bR C (f+1) g=if g.left<=0 then (bb,g) else match fC C g r with
    |some k=>(ap k,g)
    |none=>bR C f (lC C g rest r):=by conv=>lhs;unfold bR;rw[e]
   have O:(lC C g rest r).left=g.left-1:=nE;refine whT (λK q=>I K (by rw[e];exact q)) (Eh o ok e (λH=>?_) (λH q J=>?_) λH J F h=>?_)
   .rw[if_pos H]at G
    exact h2 g bb G
   .rw[if_neg H,J]at G
    exact h2 g (ap q) G
   .rw[if_neg H,J]at G
    exact oi o f _ _ _ (vb o ok e) (by lia) (λF h g' q=>h1 F h g' (G.trans q)) (λg' q z=>h2 g' q (G.trans z)) (by lia)
theorem zY{f:Nat}(o:C.Ok)(ok:GOk C g)(I:0<=g.left)(H:g.left<f)(h:Q (AI (bR C f g).1) (gM ad k (bR C f g).2 M)):xt ad [C.d,.ref k.a] (gM ad k g M) Q E:=by
 rw[ML];unfold xG;simp only[ah,h_];refine⟨f+1,oi o f g _ _ ok H (λO J G e _=>?_) (λG q e=>?_) I⟩
 .unfold qt
  rw[e]at h;have F:=@AK C;simp only[F,av,jq,ak,ai,aV,ac,dC,OZ,dt,au,aE,atI_4,cK,Iz,sJ,DV];refine⟨trivial,?_⟩
  by_cases c:(PX C.mn:aB)∈G.u
  .simp only[if_pos c,AI,kD]at h
   rw[if_pos (by simpa using c)]
   exact am h
  .simp only[if_neg c,AI]at h
   rw[if_neg (by simpa using c)]
   exact am h
 .rw[e]at h
  exact am h
noncomputable def IK(C:Cse)(g:Gs):D:=if g.td=[] then .int (nm g.n C.mn) else .non
theorem t8(o:C.Ok)(ok:GOk C g)(h:Q (IK C g) (gM ad k g M)):xi ad [C.d,.ref k.a] (gM ad k g M) Q E:=by
 have F:=(ok.n.at o.mn).1;have f:=@AK C;rw[NO];unfold xA;simp only[f,av,jq,ak,ai,aV,ac,dC,OZ,dt,cK,KF,fP,D7];refine⟨trivial,?_⟩;unfold IK at h;cases e:g.td with
 |nil=>
  rw[if_pos e]at h;simp only[TM,if_true,Ho,au,aE,atI_4,OZ,dt,gb,tN,cH,ce,F,Qe];exact⟨trivial,am h⟩
 |cons r rest=>
  rw[if_neg (by rw[e];simp)]at h
  rw[if_neg (by simp)]
  exact am h
end
noncomputable def cY(g:Gs)(q:aB)(v:Int):Gs:=match q with
 |.inl i=>{ g with u:=g.u.filter λk=>decide (k≠q),ps:=g.ps.set i.toNat v }
 |.inr x=>{ g with u:=g.u.filter λk=>decide (k≠q),n:=sN g.n x v }
section
variable{t:Sta}{k:Gk}
theorem qu(ok:GOk C g)(e:0<=v/\v<C.w):GOk C (cY g q v):=by
 cases q with
 |inl i=>
  refine⟨ok.n,by show (g.ps.set _ _).length=_;rw[QS];exact ok.lp,λz f=>?_,ok.td⟩
  rcases Ur f with h|h
  .exact ok.rp z h
  .rw[h];exact e
 |inr x=>exact⟨Cg (c:=g.cf C) ok.n e,ok.lp,ok.rp,ok.td⟩
theorem eR:(cY g q v).u=g.u.filter λk=>decide (k≠q):=by cases q<;>rfl
theorem fj:(cY g q v).left=g.left:=by cases q<;>rfl
theorem mJ{x:ca}{e f d3 td:D}(h:Q .non (M.upd x<|.ins ad.C_Going [("numbers",e),("pieces",f),("unsettled",d3),("todo",td),("left",.int left)])):
  Di ad [.ref x,e,f,d3,td,.int left] (M.upd x<|.ins ad.C_Going []) Q E:=by
 have I:bE ("numbers":Str) e []=[(("numbers":Str),e)]:=rfl;have F:bE ("pieces":Str) f [(("numbers":Str),e)]=[(("numbers":Str),e),(("pieces":Str),f)]:=rfl;have J:bE ("unsettled":Str) d3 [(("numbers":Str),e),(("pieces":Str),f)]=[(("numbers":Str),e),(("pieces":Str),f),(("unsettled":Str),d3)]:=rfl;have H:bE ("todo":Str) td [(("numbers":Str),e),(("pieces":Str),f),(("unsettled":Str),d3)]=[(("numbers":Str),e),(("pieces":Str),f),(("unsettled":Str),d3),(("todo":Str),td)]:=rfl;have G:bE ("left":Str) (.int left) [(("numbers":Str),e),(("pieces":Str),f),(("unsettled":Str),d3),(("todo":Str),td)]=[(("numbers":Str),e),(("pieces":Str),f),(("unsettled":Str),d3),(("todo":Str),td),(("left":Str),.int left)]:=rfl;rw[u_q1];unfold Gu;simp![Mem.upd_same,Mem.upd_upd,I,F,J,H,G,Qs,Pu];exact⟨by decide,by decide,by decide,by decide,by decide,am h⟩
structure Gat(ad:Ad)(k:Gk)(g:Gs)(N:Mem):Prop where
 a:N k.a=ap (.ins ad.C_Going<|gF k (nG g.td) g.left)
 dn:N k.dn=ap (.dK<|dF g.n)
 lp:N k.lp=ap (.lst<|g.ps.map D.int)
 du:N k.du=ap (.dK<|uD g.u)
theorem Gat.of:Gat ad k g (gM ad k g M):=⟨cK,gb,oq,gh⟩
theorem Gat.more{k1:Gk}{e:Gs}(h:Gat ad k g M)(f:k1.Fr M):Gat ad k g (gM ad k1 e M):=⟨dD f h.a,dD f h.dn,dD f h.lp,dD f h.du⟩
theorem rR(at':Gat ad k g N)(o:C.Ok)(ok:GOk C g)(hk:q∈dU C)(hu:q∈g.u)(h:∀k':Gk,k'.Fr N->Q (.ref k'.a) (gM ad k' (cY g q v) N)):
  zV ad [.ref k.a,kD q,.int v] N Q E:=by
 obtain⟨T,hdn,X,S⟩:=at';rw[u_q8];unfold EO;simp only[ah,ao,fT,aa,af,br,aV,ac,OZ,dt,T,Ho,nc,hdn];refine⟨trivial,λf Z=>?_⟩;have a1:k.a≠f:=Mem.ne T Z;have l1:k.lp≠f:=Mem.ne X Z;have u1:k.du≠f:=Mem.ne S Z;simp only[ae a1,T,gf1,fk,aE,ae l1,X];refine⟨trivial,λH Y=>?_⟩;have P:f≠H:=Mem.ne Mem.upd_same Y;rw[ae P.symm]at Y;have a2:k.a≠H:=Mem.ne T Y;have u2:k.du≠H:=Mem.ne S Y;simp only[ae a2,ae a1,T,Iz,ae u2,ae u1,S];refine⟨trivial,λJ W=>?_⟩;have I:H≠J:=Mem.ne Mem.upd_same W;rw[ae I.symm]at W;have O:f≠J:=Mem.ne Mem.upd_same W;rw[ae O.symm]at W;have a3:k.a≠J:=Mem.ne T W;simp only[ae a3,ae a2,ae a1,T,KF,gf4];refine⟨trivial,trivial,rfl,λx R=>?_⟩;have e:J≠x:=Mem.ne Mem.upd_same R;rw[ae e.symm]at R;have G:H≠x:=Mem.ne Mem.upd_same R;rw[ae G.symm]at R;have F:f≠x:=Mem.ne Mem.upd_same R;rw[ae F.symm]at R;refine aq λQ' E' hq _=>mJ (hq _ _ ?_);have key:((((N.upd f<|.dK<|dF g.n).upd H<|.lst<|g.ps.map D.int).upd J<|.dK<|uD g.u).upd x<|.ins ad.C_Going [("numbers",.ref f),("pieces",.ref H),("unsettled",.ref J),("todo",nG g.td),("left",.int g.left)])=gM ad ⟨x,f,H,J,F.symm,G.symm,e.symm,P,O,I⟩ g N:=by
  unfold gM gF;rw[az e,az G,az F]
 rw[key];have hfr:Gk.Fr ⟨x,f,H,J,F.symm,G.symm,e.symm,P,O,I⟩ N:=⟨R,Z,Y,W⟩;have hh:=h _ hfr;generalize hk':(⟨x,f,H,J,F.symm,G.symm,e.symm,P,O,I⟩:Gk)=k' at *;have ex:x=k'.a:=by rw[<- hk']
 rw[ex];simp only[ag,Pp];unfold wz;have hv:∃w,cD (uD g.u) q=ap w:=QU.mp (by rw[j_];simpa using hu)
 obtain⟨w,hv⟩:=hv;simp only[ah,bq,Dv,aV,ac,OZ,dt,cK,Iz,BK,gh,eZ,hv,tH,HQ];refine⟨trivial,trivial,?_⟩;unfold vz wV vL;rcases gC hk with⟨y,hy,rfl⟩|⟨i,hi,rfl⟩
 .have keys:y∈g.n.map (·.1):=by rw[ok.n.keys];exact hy
  have nl:(dF g.n).length<sizeLine:=by
   have Z:(dF g.n).length=C.names.length:=by rw[<- ok.n.keys];simp[dF]
   have:=o.l1;exact fS (by lia)
  simp only[kD]at hh ⊢;simp![bt,m8,SM,S4,Rj,Q0,S3,cK,Ho,gb,ku keys,Ie];exact⟨nl,am hh⟩
 .have e3:vh (g.ps.map D.int).length (i:Nat)=ap i:=by
   rw[hV (by lia) (by rw[Pa,ok.lp];lia),Pn]
  have e4:(g.ps.map D.int).set i (.int v)=(g.ps.set i v).map D.int:=by rw[List.map_set]
  simp only[kD]at hh ⊢;simp![bt,m8,SM,S4,Rj,Q0,S3,Ue,RP,cK,gf1,oq,e3,e4,Oj];exact am hh
end
noncomputable def eO(ad:Ad)(L c:Nat):MO:=.ins ad.C_Ends [("limit",.int (L:Nat)),("count",.int (c:Nat))]
inductive Tr where
 |e (m:D)|a (q:aB) (x y:Tr)
noncomputable def Tr.d:Tr->D
 |.e m=>.tup [.str "end",m]
 |.a q x y=>.tup [.str "ask",kD q,x.d,y.d]
noncomputable def Tr.asks:Tr->Nat
 |.e _=>0
 |.a _ x y=>1+x.asks+y.asks
noncomputable def cF(C:Cse)(s t:Sta):Nat->Gs->Tr
 |0,_=>.e .non
 |n+1,g=>match (bR C (C.most+1) g).1 with
  |none=>.e (IK C (bR C (C.most+1) g).2)
  |some q=>.a q (cF C s t n<|cY (bR C (C.most+1) g).2 q<|aD C s q) (cF C s t n<|cY (bR C (C.most+1) g).2 q<|aD C t q)
section
variable{t:Sta}{k:Gk}
theorem ig{e:ca}{c:Nat}(f:M e=ap (eO ad L c))(O:c+1<=L)(h:Q .non (M.upd e<|eO ad L (c+1))):Da ad [.ref e] M Q E:=by
 have I:P1 ("count":Str) [(("limit":Str),D.int (L:Nat)),(("count":Str),D.int (c:Nat))]=ap (.int (c:Nat)):=rfl;have G:∀v,bE ("count":Str) (.int v) [(("limit":Str),D.int (L:Nat)),(("count":Str),D.int (c:Nat))]=[(("limit":Str),D.int (L:Nat)),(("count":Str),D.int v)]:=λ_=>rfl;have J:∀v,P1 ("count":Str) [(("limit":Str),D.int (L:Nat)),(("count":Str),D.int v)]=ap (.int v):=λ_=>rfl;have H:∀v,P1 ("limit":Str) [(("limit":Str),D.int (L:Nat)),(("count":Str),D.int v)]=ap (.int (L:Nat)):=λ_=>rfl;have F:decide (((L:Nat):Int)<((c:Nat):Int)+1)=false:=decide_eq_false (by lia)
 unfold eO at f h;rw[u_q7];unfold Ee v_;simp only[ah,rO,aC,ak,ai,aV,ac,dC,aw,dt,f,I,G,J,H,Mem.upd_same,E5,jS,F];refine⟨trivial,by simp,trivial,trivial,trivial,?_⟩
 rw[if_neg (by simp)]
 refine am ?_;have e:(((c:Nat):Int)+1)=((c+1:Nat):Int):=by lia
 rw[e];exact h
theorem CO{a:ca}{fs:List (Str×D)}{Cl:ca}{m:Str}{T:Sd}{e:bh}{t:eQ}(F:∀K:DK,K (.ref a) M->e U M K)(f:M a=ap (.ins Cl fs))(G:fs.lookup m=bb)(h:t U M λds M2=>ds.length+1=n/\calls T EE (.ref a::ds) M2 Q ⟨⟩):cZ Cl m T EE n e t U M Q:=by
 unfold cZ;refine F _ ?_;simp only[f];exact⟨trivial,G,h⟩
theorem N5(f:Gat ad k g N)(o:C.Ok)(J:SOk C z)(ok:GOk C g)(G:q∈dU C)(O:q∈g.u)(h:∀k1:Gk,k1.Fr N->K (.ref k1.a) (gM ad k1 (cY g q<|aD C z q) N)):
  al (cZ ad.C_Going "settled" (zV ad) oW 3 (ac 2)<|aa (ac 1)<|aa (al<|aj (jJ ad) oW 3<|aa (ai au (ac 3)<|dC<|.int 0)<|aa (ac 0)<|aa (ac 1) af) af) [ap z.d,ap (kD q),ap (.ref k.a),ap (bC C s t)] N K:=by
 have fi:∀{v:Int}{M:Mem}{Q:DK},Q (.int v) M->frz (.int v) M Q:=λz=>z;have I:∀{a:ca}{M:Mem}{Q:DK}{fs:List (Str×D)},M a=ap (.ins ad.C_Going fs)->Q (.ref a) M->frz (.ref a) M Q:=λ{a M Q fs} e z=>by simp only[frz,e];exact z
 unfold al;refine CO (λK q=>q) f.a gfs ?_;unfold bC;simp only[aa,ac,aj,af,ai,dC,OZ,dt,au,aE,atI_0];refine⟨rfl,aH (λ_ _ z=>dE o J G z)<|fi ?_⟩;exact⟨rfl,aq λQ' E' H _=>rR f o ok G O λk1 F=>H _ _ (I cK<|h k1 F)⟩
theorem nL(F:Gat ad k g N)(o:C.Ok)(X:SOk C s)(S:SOk C t)(ok:GOk C g)(T:q∈dU C)(W:q∈g.u)(h:∀(k1 k2:Gk)(p:ca),k1.Fr N->k2.Fr (gM ad k1 (cY g q<|aD C s q) N)->gM ad k2 (cY g q<|aD C t q) (gM ad k1 (cY g q<|aD C s q) N) p=bb->
   Q (.ref p) ((gM ad k2 (cY g q<|aD C t q)<|gM ad k1 (cY g q<|aD C s q) N).upd p<|.lst [.ref k1.a,.ref k2.a])):
  xE ad [bC C s t,.ref k.a,kD q] N Q E:=by
 have f:=@GX C s t;rw[Nl];unfold yH;simp only[av,aJ,bo,xJ,dG,b_,ac,dC,OZ,dt,aY,Pc,PK,Py,Pw,PY];have O:jR [C.d,s.d,t.d,D.int (C.most:Nat)] (ap 1) (ap 3)=[s.d,t.d]:=rfl;generalize H:al (cZ ad.C_Going "settled" (zV ad) oW 3 (ac 2)<|aa (ac 1)<|aa (al<|aj (jJ ad) oW 3<|aa (ai au (ac 3)<|dC<|.int 0)<|aa (ac 0)<|aa (ac 1) af) af)=te;have I:∀{N:Mem}{z:Sta}{K:DK},Gat ad k g N->SOk C z->(∀k1:Gk,k1.Fr N->K (.ref k1.a) (gM ad k1 (cY g q<|aD C z q) N))->te [ap z.d,ap (kD q),ap (.ref k.a),ap (bC C s t)] N K:=λ{N z K} J R hh=>by
  rw[<- H];exact N5 J o R ok T W hh
 simp only[f,al,ac,dC,dt,Me,O,frz,aE,b6];rw[<- f];unfold bV;refine⟨aK,?_⟩;simp only[ag,Pp,de,if_true];refine I F X λk1 e=>⟨fS (by simp),?_⟩
 unfold bV;refine⟨aK,?_⟩;simp only[ag,Pp,de,if_true];refine I (F.more e) S λk2 G=>⟨fS (by simp),?_⟩
 unfold bV;exact⟨aK,λp P=>am (h k1 k2 p e G P)⟩
end
theorem Bz{b:ca}(h:M b=ap o):M.upd b o=M:=by
 funext c;unfold Mem.upd
 split
 .rename_i e;rw[e,h]
 .rfl
theorem EZ{k1 k2:Gk}{H I:Gs}(h:k2.Fr (gM ad k1 H N)):gM ad k2 I (gM ad k1 H N)=gM ad k1 H (gM ad k2 I N):=by
 obtain⟨P,X,T,Y,_⟩:=cg h.a;obtain⟨b1,b2,b3,R,_⟩:=cg h.dn;obtain⟨S,Z,J,c4,_⟩:=cg h.lp;obtain⟨d1,W,O,d4,_⟩:=cg h.du;funext b
 by_cases e:b=k2.a
 .subst e;rw[cK,jW P X T Y,cK]
 by_cases G:b=k2.dn
 .subst G;rw[gb,jW b1 b2 b3 R,gb]
 by_cases F:b=k2.lp
 .subst F;rw[oq,jW S Z J c4,oq]
 by_cases f:b=k2.du
 .subst f;rw[gh,jW d1 W O d4,gh]
 rw[jW e G F f];unfold gM;simp only[Mem.upd,e,G,F,f,if_false]
section
variable{t:Sta}{k:Gk}
theorem L6(h:fC C g r=ap q):q∈g.u:=by
 unfold fC at h
 split at h
 .cases h
 .split at h
  .rename_i G F e
   cases h;have:q∈(dU C).filter λk=>decide (k∈((dZ r).filter λx=>decide ((PX x:aB)∈g.u)).map PX):=by rw[e];simp
   have:=(Pf.mp this).2;obtain⟨x,f,rfl⟩:=Pq.mp (of_decide_eq_true this);exact of_decide_eq_true (Pf.mp f).2
  .split at h
   .split at h
    .rename_i c;cases h;exact c
    .cases h
   .cases h
theorem Nx:(lC C g rest r).u.length<=g.u.length/\∀x∈(lC C g rest r).u,x∈g.u:=by
 have f:∀z:aB,(g.u.filter λk=>decide (k≠z)).length<=g.u.length/\∀x∈g.u.filter (λk=>decide (k≠z)),x∈g.u:=λz=>⟨P2 _ _,λx e=>(Pf.mp e).1⟩;cases r with
 |ifr=>exact⟨Pl _,λ_ h=>h⟩
 |again=>exact⟨Pl _,λ_ h=>h⟩
 |_=>exact f _
theorem jn:∀(f:Nat)(g:Gs),((bR C f g).2.u.length<=g.u.length/\∀x∈(bR C f g).2.u,x∈g.u)/\(0<=g.left->0<=(bR C f g).2.left/\(bR C f g).2.left<=g.left)/\∀q,(bR C f g).1=ap q->q∈(bR C f g).2.u
 |0,g=>⟨⟨Pl _,λ_ h=>h⟩,λh=>⟨h,RL _⟩,λq h=>by cases h⟩
 |f+1,g=>by
  unfold bR;cases e:g.td with
  |nil=>
   refine⟨⟨Pl _,λ_ h=>h⟩,λh=>⟨h,RL _⟩,λq h=>?_⟩;dsimp only at h ⊢
   split at h
   .rename_i c;cases h;exact c
   .cases h
  |cons r rest=>
   dsimp only
   split
   .exact⟨⟨Pl _,λ_ h=>h⟩,λh=>⟨h,RL _⟩,λq h=>by cases h⟩
   .rename_i S
    cases a:fC C g r with
    |some k=>
     refine⟨⟨Pl _,λ_ h=>h⟩,λh=>⟨h,RL _⟩,λq h=>?_⟩;cases h;exact L6 a
    |none=>
     obtain⟨⟨I,H⟩,P,G⟩:=jn f (lC C g rest r);obtain⟨J,O⟩:=Nx (C:=C) (g:=g) (r:=r) (rest:=rest);have R:(lC C g rest r).left=g.left-1:=nE;refine⟨⟨PL I J,λx F=>O x (H x F)⟩,λh=>?_,G⟩;have:=P (by lia)
     exact⟨this.1,by dsimp only;lia⟩
theorem rU(h:q∈u):(u.filter λk=>decide (k≠q)).length<u.length:=by
 rw[List.length_filter_lt_length_iff_exists];exact⟨q,h,by simp⟩
theorem hW{e:ca}{L:Nat}(o:C.Ok)(hs:SOk C s)(ht:SOk C t):∀(n:Nat)(g:Gs)(k:Gk)(M:Mem)(c:Nat)(Q:DK)(E:DX),GOk C g->0<=g.left->g.left<=C.most->(∀x∈g.u,x∈dU C)->g.u.length<n->M e=ap (eO ad L c)->k.Fr M->
  c+(cF C s t n g).asks<=L->Q (cF C s t n g).d (M.upd e<|eO ad L (c+(cF C s t n g).asks))->Vi ad n [bC C s t,.ref k.a,.ref e] (gM ad k g M) Q E
 |0,g,k,M,c,Q,E,ok,h0,hm,hu,hn,he,hf,hc,h=>by lia
 |n+1,g,k,M,c,Q,E,ok,h0,hm,hu,hn,he,hf,hc,h=>by
  have hcs:=@GX C s t;have P:=p_ o (C.most+1) g ok;obtain⟨⟨hlen,G⟩,Z,hask⟩:=jn (C:=C) (C.most+1) g;rw[MT];unfold xu;simp only[ah,ao,al,aj,aa,af,ai,ac,dC,OZ,dt,hcs,au,aE,atI_0];refine⟨rfl,aq λQ' E' O _=>zY (f:=C.most+1) o ok h0 (by lia) (O _ _ ?_)⟩
  have fo:∀{q:Option aB}{M:Mem}{Q:DK},Q (AI q) M->frz (AI q) M Q:=λ{q} {M} {Q} z=>by
   cases q with
   |none=>exact z
   |some k=>cases k<;>exact z
  refine fo ?_;simp only[ag,Pp];unfold cF at h hc;generalize hgo:bR C (C.most+1) g=go at *;obtain⟨a,I⟩:=go;dsimp only at *;unfold pO;cases a with
  |none=>
   unfold qQ;simp only[ah,aC,ak,ai,ac,dC,AI,fP,fL,if_true,av,aP,aa,af,aj,OZ,dt,au,aE,atI_0];refine⟨rfl,aH (λ_ _ z=>t8 o P z) ⟨bg (by simp),?_⟩⟩
   simp only[Tr.asks,Tr.d,Nat.add_zero,Bz he]at h;exact⟨M,λb ob eb=>dD hf eb,h⟩
  |some q=>
   have S:=hask q rfl;have R:=hu q (G q S);have fl:=rU S;simp only[Tr.asks,Tr.d]at h hc;have nn:fL (kD q)=false:=by cases q<;>rfl
   simp only[ah,aC,ak,ai,ac,dC,AI,fP,nn,aw,OZ,dt];rw[if_neg (by simp)]
   unfold rq;simp only[ah,bq];have lo:P1 ("one_more":Str) [(("limit":Str),D.int (L:Nat)),(("count":Str),D.int (c:Nat))]=none:=rfl;refine CO (a:=e) (fs:=[("limit",.int (L:Nat)),("count",.int (c:Nat))]) (λK q=>q) (dD hf he) lo ?_;simp only[af];refine⟨rfl,aq λQ' E' O _=>ig (dD hf he) (by lia) (O _ _ ?_)⟩
   rw[rM hf he];have he1:(M.upd e<|eO ad L (c+1)) e=ap (eO ad L (c+1)):=Mem.upd_same;have H:∀{o':MO},k.Fr (M.upd e o'):=λ{o'}=>⟨by rw[ae (λz=>by rw[<- z,hf.a]at he;cases he)];exact hf.a,by rw[ae (λz=>by rw[<- z,hf.dn]at he;cases he)];exact hf.dn,by rw[ae (λz=>by rw[<- z,hf.lp]at he;cases he)];exact hf.lp,by rw[ae (λz=>by rw[<- z,hf.du]at he;cases he)];exact hf.du⟩
   unfold qF;simp only[ah,ao,al,aj,aa,af,ac,OZ,dt];refine⟨rfl,aq λQ' E' O _=>nL .of o hs ht P R S λk1 k2 p h1 J hp=>O _ _ (bS hp ?_)⟩;simp only[ag,Pp];unfold qB;simp only[av,aP,aa,af,aj,ac,dC,ai,OZ,dt,au,aE,atI_0,atI_1];generalize hg1:cY I q (aD C s q)=g1 at *;generalize hg2:cY I q (aD C t q)=g2 at *;have T:g1.u.length<n/\(∀x∈g1.u,x∈dU C)/\g1.left=I.left/\GOk C g1:=by
    rw[<- hg1];exact⟨by rw[eR];lia,λx X=>by rw[eR]at X;exact hu x (G x (Pf.mp X).1),fj,qu P<|bH o hs R⟩
   have W:g2.u.length<n/\(∀x∈g2.u,x∈dU C)/\g2.left=I.left/\GOk C g2:=by
    rw[<- hg2];exact⟨by rw[eR];lia,λx X=>by rw[eR]at X;exact hu x (G x (Pf.mp X).1),fj,qu P<|bH o ht R⟩
   have hll:=Z h0;rw[EZ J];have F:k2.Fr (gM ad k I<|M.upd e<|eO ad L (c+1)):=⟨(cg J.a).2.2.2.2,(cg J.dn).2.2.2.2,(cg J.lp).2.2.2.2,(cg J.du).2.2.2.2⟩;obtain⟨a1,a2,a3,a4,_⟩:=cg J.a;obtain⟨b1,b2,b3,b4,_⟩:=cg J.dn;obtain⟨c1,c2,c3,c4,_⟩:=cg J.lp;obtain⟨d1,d2,d3,d4,_⟩:=cg J.du;have h1N:k1.Fr (gM ad k2 g2<|gM ad k I<|M.upd e<|eO ad L (c+1)):=⟨by rw[jW a1.symm b1.symm c1.symm d1.symm];exact h1.a,by rw[jW a2.symm b2.symm c2.symm d2.symm];exact h1.dn,by rw[jW a3.symm b3.symm c3.symm d3.symm];exact h1.lp,by rw[jW a4.symm b4.symm c4.symm d4.symm];exact h1.du⟩
   have Y:gM ad k I (M.upd e<|eO ad L (c+1)) e=ap (eO ad L (c+1)):=dD H he1;refine⟨rfl,aq λQ' E' O _=>hW o hs ht n g1 k1 _ (c+1) _ _ T.2.2.2 (by lia) (by lia) T.2.1 T.1 (dD F Y) h1N (by lia) (O _ _ ?_)⟩
   rw[rM F Y,rM H he1,Mem.upd_upd];have h2N':k2.Fr (gM ad k I<|M.upd e<|eO ad L (c+1+(cF C s t n g1).asks)):=by
    have z:∀{b:ca},gM ad k I (M.upd e<|eO ad L (c+1)) b=bb->gM ad k I (M.upd e<|eO ad L (c+1+(cF C s t n g1).asks)) b=none:=λ{b} hb=>by
     obtain⟨n1,n2,n3,n4,n5⟩:=cg hb;rw[jW n1 n2 n3 n4];have:b≠e:=λz=>by rw[z,Mem.upd_same]at n5;cases n5
     rw[ae this]at n5 ⊢;exact n5
    exact⟨z F.a,z F.dn,z F.lp,z F.du⟩
   refine⟨rfl,aq λQ' E' O _=>hW o hs ht n g2 k2 _ (c+1+(cF C s t n g1).asks) _ _ W.2.2.2 (by lia) (by lia) W.2.1 W.1 (dD H Mem.upd_same) h2N' (by lia) (O _ _ ?_)⟩
   rw[rM H Mem.upd_same,Mem.upd_upd];refine⟨bg (by simp),M.upd e (eO ad L (c+(1+(cF C s t n g1).asks+(cF C s t n g2).asks))),λb ob eb=>?_,h⟩
   have ec:c+1+(cF C s t n g1).asks+(cF C s t n g2).asks=c+(1+(cF C s t n g1).asks+(cF C s t n g2).asks):=by lia
   rw[ec];exact dD H eb
end
noncomputable def g0(C:Cse)(s t:Sta):Gs:=⟨C.names.zip s.nums,s.pieces,aS C s t,C.rows,(C.most:Nat)⟩
section
variable{t:Sta}
theorem kJ(o:C.Ok):(aS C s t).Nodup:=by
 refine List.Pairwise.filter _ ?_;show (dU C).Nodup;unfold dU;rw[SI];refine⟨?_,?_,?_⟩
 .exact Ud _ (λa b h z=>h (S5 z)) o.nd
 .exact Ud _ (λa b h z=>h (by have:=S6 z;lia)) TL
 .intro a f b e z
  obtain⟨x,_,rfl⟩:=Pq.mp f;obtain⟨y,_,rfl⟩:=Pq.mp e;cases z
theorem r_:∀x∈aS C s t,x∈dU C:=λx e=>(Pf.mp e).1
theorem fg(o:C.Ok):(aS C s t).length<=200:=by
 have e:(aS C s t).length<=(dU C).length:=P2 _ _;have f:(dU C).length=C.names.length+C.many:=by simp[dU]
 have:=o.l1;have:=o.few;lia
theorem eM(o:C.Ok)(G:SOk C s)(F:SOk C t)(h:∀p,M p=bb->Q (.ref p) (M.upd p<|.lst<|(aS C s t).map kD)):oh ad [bC C s t] M Q E:=by
 rw[Mt];unfold xj bC;simp only[av,aj,aa,ai,ac,dC,af,dt,OZ,au,aE,atI_0,atI_1,atI_2];exact⟨rfl,aq λQ' E' f _=>C_ o G F λp e=>f _ _ (am<|h p e)⟩
theorem Hz(o:C.Ok)(e:SOk C s):GOk C (g0 C s t):=⟨(o.pl e).nok,e.lp,e.rp,o.ok⟩
theorem wW(o:C.Ok)(hs:SOk C s)(ht:SOk C t)(h:∀k:Gk,k.Fr M->Q (.ref k.a) (gM ad k (g0 C s t) M)):yX ad [bC C s t] M Q E:=by
 have ul:=fg (s:=s) (t:=t) o;have T:=@GX C s t;have hcd:=@AK C;have hsd:s.d=.tup [.tup (s.nums.map D.int),.tup (s.pieces.map D.int)]:=rfl;rw[Oe];unfold yE qM;simp only[ah,ao,ai,ac,dC,ag,Pp,dt,OZ,T,au,aE,atI_0,atI_1];rw[<- T];unfold qC;simp only[ah,ao,br,aa,af,al,aJ,bo,aj,ac,aY,Pc,PK,Py,Pw,dt,OZ];refine⟨rfl,aq λQ' E' hq _=>eM o hs ht λp Y=>hq _ _ (bS Y ?_)⟩;simp only[aE,b6];refine dJ (λd=>.tup [d,.bl true]) aK (by simp;lia) (λx O K q=>?_) ?_
 .simp only[aP,aa,ac,dC,af,OZ,dt]
  exact⟨bg (by simp),q⟩
 intro p Y;refine bS Y ?_;have e:((aS C s t).map kD).map (λd=>D.tup [d,.bl true])=(aS C s t).map λk=>D.tup [kD k,.bl true]:=by simp
 rw[e];have Z:(([]:List (aB×D)).map (·.1)++(uD<|aS C s t).map (·.1)).Nodup:=by rw[kb];exact kJ o
 simp only[g7,CY,eY,jf,qk Z,Pw];refine⟨trivial,by simp[uD];lia,λF h3=>?_⟩
 simp only[ag,Pp];unfold qG;simp only[av,fT,aa,gk,ai,ac,dC,af,br,aj,al,dt,OZ,hcd,hsd,au,aE,atI_0,atI_1,eh,Pa];refine⟨hs.ln.symm,o.l0,PL o.l1 (by decide),λR h1=>?_⟩
 have G:F≠R:=Mem.ne Mem.upd_same h1;rw[ae G.symm]at h1;simp only[fk,aE];intro P W;have S:R≠P:=Mem.ne Mem.upd_same W;rw[ae S.symm]at W;have H:F≠P:=Mem.ne Mem.upd_same W;rw[ae H.symm]at W;simp only[T,atI_3,dt,OZ];refine⟨rfl,aH (λ_ _ q=>eL (td:=[]) q) ?_⟩;have ft:∀{l:List Rw}{M:Mem}{Q:DK},Q (nG l) M->frz (nG l) M Q:=λ{l} {M} {Q} q=>by cases l<;>exact q
 rw[P8];refine ft ?_;refine⟨rfl,λx O=>?_⟩;have f:P≠x:=Mem.ne Mem.upd_same O;rw[ae f.symm]at O;have I:R≠x:=Mem.ne Mem.upd_same O;rw[ae I.symm]at O;have J:F≠x:=Mem.ne Mem.upd_same O;rw[ae J.symm]at O;refine aq λQ' E' hq _=>mJ (hq _ _ ?_);rw[fV hs.ln.symm o.nd];have X:((((M.upd F<|.dK<|uD<|aS C s t).upd R<|.dK<|dF<|C.names.zip s.nums).upd P<|.lst<|s.pieces.map D.int).upd x<|.ins ad.C_Going [("numbers",.ref R),("pieces",.ref P),("unsettled",.ref F),("todo",nG C.rows),("left",.int (C.most:Nat))])=gM ad ⟨x,R,P,F,I.symm,f.symm,J.symm,S,G.symm,H.symm⟩ (g0 C s t) M:=by
  unfold gM gF g0;rw[az f,az I,az J,az (a:=F) (b:=R) G,az (a:=F) (b:=P) H]
 rw[X];exact am (h ⟨x,R,P,F,I.symm,f.symm,J.symm,S,G.symm,H.symm⟩ ⟨O,h1,W,h3⟩)
noncomputable def Cse.tree(C:Cse)(s t:Sta):Tr:=cF C s t 24 (g0 C s t)
theorem Aj(o:C.Ok)(F:SOk C s)(G:SOk C t)(T:C.mark s=.int a)(f:C.mark t=.int b)(H:a≠b)(W:(aS C s t).length<24)(X:1+(C.tree s t).asks<=L)(h:Q (C.tree s t).d M):
  yG ad [bC C s t,.int (L:Nat)] M Q E:=by
 rw[Ml];unfold zo si;simp only[ah,bq,aj,aa,ac,af,ao,fT,dt,OZ];refine⟨rfl,aH (λ_ _ q=>m_ o F G T f H q) ⟨rfl,λe O=>?_⟩⟩;have I:bE ("limit":Str) (.int (L:Nat)) []=[(("limit":Str),D.int (L:Nat))]:=rfl;have R:bE ("count":Str) (.int 0) [(("limit":Str),D.int (L:Nat))]=[(("limit":Str),D.int (L:Nat)),(("count":Str),D.int 0)]:=rfl;refine aq λQ' E' hq _=>?_;rw[u_q5];unfold Ej;simp![Mem.upd_same,Mem.upd_upd,I,R,Qs,Pu];refine⟨by decide,by decide,am<|hq _ _ ?_⟩
 simp only[ag,Pp];unfold qO rP;simp only[ah,bq];have S:P1 ("one_more":Str) [(("limit":Str),D.int (L:Nat)),(("count":Str),D.int 0)]=none:=rfl;refine CO (a:=e) (λK q=>q) Mem.upd_same S ?_;simp only[af];refine⟨rfl,aq λQ' E' hq _=>ig (L:=L) (c:=0) Mem.upd_same (by lia) (hq _ _ ?_)⟩
 rw[Mem.upd_upd];simp only[av,aj,aa,ac,af,al,dt,OZ];refine⟨rfl,aq λQ' E' hq _=>wW o F G λk P=>hq _ _ ?_⟩;have J:∀{M:Mem}{Q:DK}{fs:List (Str×D)},M k.a=ap (.ins ad.C_Going fs)->Q (.ref k.a) M->frz (.ref k.a) M Q:=λ{M Q fs} e z=>by simp only[frz,e];exact z
 refine J cK ⟨rfl,aq λQ' E' hq _=>hW o F G 24 _ k _ 1 _ _ (Hz o F) (by show (0:Int)<=((C.most:Nat):Int);lia) (RL _) r_ W Mem.upd_same P X (hq _ _ ?_)⟩
 rw[Mem.upd_upd];refine⟨M,λb Y f=>?_,h⟩;rw[ae (Mem.ne f O)];exact f
end
theorem oS(a b:Nat):Tc (a:Int) (b:Int)=((a ||| b:Nat):Int):=by
 have h:decide ((0:Int)<=-(a:Int)-1)=false:=decide_eq_false (by lia)
 have F:decide ((0:Int)<=-(b:Int)-1)=false:=decide_eq_false (by lia)
 have e:(-(-(a:Int)-1)-1).toNat=a:=by lia
 have f:(-(-(b:Int)-1)-1).toNat=b:=by lia
 unfold Tc Ro Builtin.bitNot;rw[h,F];simp only[e,f];lia
theorem Dt(a:Nat):Ro (a:Int) 1=((a % 2:Nat):Int):=by
 have e:decide ((0:Int)<=(a:Int))=true:=decide_eq_true (by lia)
 unfold Ro;rw[e];show (((a:Int).toNat &&& (1:Int).toNat:Nat):Int)=_;rw[Pn];show ((a &&& 1:Nat):Int)=_;rw[Nat.and_one_is_mod]
noncomputable def Ea(b:Nat):Nat:=QD (b:Int)
noncomputable def aQ(b:Nat):List Nat:=(PD<|Ea b).filter λi=>b.testBit i
theorem DY{b m:Nat}(h:b<2 ^ m):Ea b<=m:=by
 unfold Ea QD
 split
 .lia
 .rename_i f
  have e:b≠0:=λz=>f (by rw[z];rfl)
  rw[Int.natAbs_natCast];have:=(Nat.log2_lt e).mpr h;lia
theorem cQ{b m:Nat}(h:b<2 ^ m):aQ b=(PD m).filter λi=>b.testBit i:=by
 obtain⟨d,rfl⟩:∃d,m=Ea b+d:=⟨m-Ea b,by have:=DY h;lia⟩
 unfold aQ;rw[List.range_add,Sq];have:((PD d).map (Ea b+·)).filter (λi=>b.testBit i)=[]:=by
  rw[Rc];intro i F;obtain⟨j,_,rfl⟩:=Pq.mp F;have e:b<2 ^ Ea b:=by
   unfold Ea QD
   split
   .rename_i f
    have:b=0:=by have:=beq_iff_eq.mp f;lia
    subst this;decide
   .rename_i f
    rw[Int.natAbs_natCast];exact Nat.lt_log2_self
  rw[Rf (PF e<|Qo (by decide)<|QA _ _)]
  simp
 rw[this,P8]
section
theorem mv{b:Nat}(O:b<2 ^ 200)(h:∀p,M p=bb->Q (.ref p) (M.upd p<|.lst ((aQ b).map λ(i:Nat)=>D.int (i:Int)))):xV ad [.int (b:Nat)] M Q E:=by
 have H:=DY O;rw[Nw];unfold xm;simp only[av,aJ,cM,aa,nC,ac,af,kx,dt,OZ,aY,Pc,PK,Py,Pw,PY];have G:((QD (b:Int):Nat):Int)<=200:=by have:QD (b:Int)<=200:=H;lia
 refine⟨rfl,by lia,by lia,?_⟩
 refine bT (λd=>match d with|.int i=>b.testBit i.toNat|_=>cm) id aK ?_ (λx f K q=>?_) (λx f _ K q=>q) ?_
 .simp only[cj,Pa,QW,Pn];show Ea b<=_;lia
 .simp only[cj,Pq,PR]at f
  obtain⟨i,P,rfl⟩:=f;rw[TJ]at q ⊢;have J:((b:Nat):Int) / 2 ^ (((i:Nat):Int)).toNat=((b / 2 ^ i:Nat):Int):=by rw[Pn];simp
  simp only[ak,ai,ac,dC,dt,OZ,JS,A0,oI,jS,J,Dt,bG,dv,bF,aN];refine⟨by lia,trivial,trivial,?_⟩
  simp only[Pn,Nat.testBit_eq_decide_div_mod_eq]at q;have I:decide (((b / 2 ^ i % 2:Nat):Int)=1)=decide (b / 2 ^ i % 2=1):=by congr 1;exact propext (by lia)
  rw[I];exact q
 .intro p F
  have e:((cj 0<|Te ((QD (b:Int):Nat):Int)).filter λd=>match d with|.int i=>b.testBit i.toNat|_=>cm).map id=(aQ b).map λ(i:Nat)=>D.int (i:Int):=by
   rw[Qw];unfold cj aQ Ea;rw[Qc,Pn];have:∀l:List Nat,l.map (λ(i:Nat)=>D.int (0+(i:Int)))=l.map λ(i:Nat)=>D.int (i:Int):=λl=>PZ λi _=>by simp
   rw[this];congr 1;refine QH λi _=>?_;simp
  rw[e];exact am (h p F)
theorem yj{te:bh}{ok:Mem->Prop}{Q:List D->Mem->Prop}{b:BxC (cU 2<|aL (ag 0)<|aL (ag 1) cL) de te ok Q}{rest:Dl}(f:Nat->D->D)(G:ok M):∀(xs:List D)(j:Nat)(Xl:List D)(e F:Option D),Xl.length+xs.length<=100000->
  (∀(i:Nat) x,xs[i]?=ap x->∀K:DK,K (f (j+i) x) M->te (ap (.int ((j+i:Nat):Int))::ap x::rest) M K)->Q (Xl++(xs.zipIdx j).map λp=>f p.2 p.1) M->
  bV (cU 2<|aL (ag 0)<|aL (ag 1) cL) de te ok Q b (eE j xs) Xl (e::F::rest) M
 |[],j,Xl,e,F,hl,he,h=>by
  unfold eE bV;exact⟨G,by simpa using h⟩
 |x::xs,j,Xl,e,F,hl,he,h=>by
  simp only[Pu]at hl;unfold eE bV;refine⟨G,?_⟩;simp only[cU,aL,cL,ag,Pp,de,if_true];refine⟨rfl,he 0 x rfl _ ⟨fS (by lia),?_⟩⟩
  refine yj f G xs (j+1) _ _ _ (by simp;lia) (λi y H K q=>?_) ?_
  .have:=he (i+1) y (by simpa using H) K (by rw[show j+(i+1)=j+1+i by lia];exact q)
   rw[show j+(i+1)=j+1+i by lia]at this
   exact this
  .simpa [SV] using h
end
structure Out where
 v:Str
 s:Nat
 f:Nat
noncomputable def nF(ad:Ad)(x:Out):MO:=.ins ad.C_Outcome [("verdict",.str x.v),("sound",.int (x.s:Nat)),("faulty",.int (x.f:Nat))]
def Ext(M M':Mem):Prop:=∀b o,M b=ap o->M' b=ap o
theorem Ext.refl:Ext M M:=λ_ _ e=>e
theorem Ext.trans{M1 M2:Mem}(a:Ext M M1)(b:Ext M1 M2):Ext M M2:=λx o e=>b x o (a x o e)
theorem Ext.no(h:Ext M M'){b:ca}(e:M' b=bb):M b=none:=by
 cases q:M b with
 |none=>rfl
 |some o=>rw[h b o q]at e;cases e
theorem Ext.new{b:ca}(h:M b=bb):Ext M (M.upd b o):=λx u e=>by rw[ae (Mem.ne e h)];exact e
theorem Ext.upd{b:ca}(x:Ext M M')(h:M b=bb):Ext M (M'.upd b o):=λc u e=>by rw[ae (Mem.ne e h)];exact x c u e
theorem Ext.del{b:ca}(x:Ext M M')(h:M b=bb):Ext M (M'.del b):=λc u e=>by unfold Mem.del;rw[if_neg (Mem.ne e h)];exact x c u e
inductive Lay(ad:Ad)(M:Mem):List ca->List Out->Prop
 |nil:Lay ad M [] []
 |cons {a:ca} {x:Out} {as:Xt} {xs:List Out} (h:M a=ap (nF ad x)) (t:Lay ad M as xs):Lay ad M (a::as) (x::xs)
theorem Lay.go{ad:Ad}{M M':Mem}:∀{as:Xt}{xs:List Out},Lay ad M as xs->(∀a x,M a=ap (nF ad x)->M' a=ap (nF ad x))->Lay ad M' as xs
 |_,_,.nil,_=>.nil
 |_,_,.cons h t,g=>.cons (g _ _ h) (t.go g)
theorem Lay.snoc{ad:Ad}{M:Mem}{a:ca}{x:Out}(h:M a=ap (nF ad x)):∀{as:Xt}{xs:List Out},Lay ad M as xs->Lay ad M (as++[a]) (xs++[x])
 |_,_,.nil=>.cons h .nil
 |_,_,.cons h' t=>.cons h' (t.snoc h)
theorem Lay.length{ad:Ad}{M:Mem}:∀{as:Xt}{xs:List Out},Lay ad M as xs->as.length=xs.length
 |_,_,.nil=>rfl
 |_,_,.cons _ t=>congrArg (·+1) t.length
theorem C5{xs ys:List D}(h:M l=ap (.lst xs))(a:ca)(x:Out)(e:M a=ap (nF ad x)):(M.upd l<|.lst ys) a=ap (nF ad x):=by
 rw[ae (λz=>by rw[z,h]at e;cases e)];exact e
noncomputable def jh(a b:Int)(m:D):Str:=if aN m (.int a)=true then "sound" else if aN m (.int b)=true then "faulty" else "other"
noncomputable def bitK(us:List aB)(q:aB):Nat:=2 ^ us.idxOf q
noncomputable def fN(a b:Int)(us:List aB):Tr->Nat->Nat->List Out
 |.e m,S,F=>[⟨jh a b m,S,F⟩]
 |.a q x y,S,F=>fN a b us y S (F ||| bitK us q)++fN a b us x (S ||| bitK us q) F
def Fd(us:List aB):Tr->Prop
 |.e m=>m=.non\/∃v,m=.int v
 |.a q x y=>q∈us/\Fd us x/\Fd us y
noncomputable def d_:Tr->Nat
 |.e _=>1
 |.a _ x y=>1+d_ x+d_ y
noncomputable def wD(w:Tr×Nat×Nat):D:=.tup [w.1.d,.int (w.2.1:Nat),.int (w.2.2:Nat)]
noncomputable def wa(a b:Int)(us:List aB)(ws:List (Tr×Nat×Nat)):List Out:=(ws.map λw=>fN a b us w.1 w.2.1 w.2.2).flatten
noncomputable def cS(ws:List (Tr×Nat×Nat)):Nat:=(ws.map λw=>d_ w.1).sum
theorem ph:∀t:Tr,1<=d_ t
 |.e _=>Pl _
 |.a _ x y=>by unfold d_;lia
theorem Ol:∀e:List (Tr×Nat×Nat),e.length<=cS e
 |[]=>Pl _
 |w::e=>by
  have:=Ol e;have:=ph w.1;simp only[cS,Pc,R0,Pu]at *;lia
noncomputable def bD(us:List aB):List (aB×D):=us.zipIdx.map λp=>(p.1,D.int ((2 ^ p.2:Nat):Int))
theorem EG:(bD us).map (·.1)=us:=by
 unfold bD;rw[PB];exact List.zipIdx_map_fst 0 us
theorem JE(h:q∈us):cD (bD us) q=ap (.int ((bitK us q:Nat):Int)):=by
 have f:∀(l:List aB)(j:Nat),q∈l->cD ((l.zipIdx j).map λp=>(p.1,D.int ((2 ^ p.2:Nat):Int))) q=ap (.int ((2 ^ (j+l.idxOf q):Nat):Int)):=by
  intro l
  induction l with
  |nil=>intro j h;cases h
  |cons a r ih=>
   intro j h;rw[SV,Pc];unfold cD;rw[Qu]
   by_cases e:a=q
   .subst e
    simp[List.idxOf_cons]
   .have F:(a==q)=false:=by simpa using e
    simp only[e,decide_false];have:=ih (j+1) (by rcases Po.mp h with z|z;exact absurd z.symm e;exact z)
    unfold cD at this;rw[this,List.idxOf_cons,F];congr 4;simp only[cond_false];lia
 have:=f us 0 h;rw[RT]at this;exact this
section
theorem vm{x:ca}{y:Out}(h:Q .non (M.upd x<|nF ad y)):Fs ad [.ref x,.str y.v,.int (y.s:Nat),.int (y.f:Nat)] (M.upd x<|.ins ad.C_Outcome []) Q E:=by
 have e:bE ("verdict":Str) (.str y.v) []=[(("verdict":Str),D.str y.v)]:=rfl;have F:bE ("sound":Str) (.int (y.s:Nat)) [(("verdict":Str),D.str y.v)]=[(("verdict":Str),D.str y.v),(("sound":Str),D.int (y.s:Nat))]:=rfl;have G:bE ("faulty":Str) (.int (y.f:Nat)) [(("verdict":Str),D.str y.v),(("sound":Str),D.int (y.s:Nat))]=[(("verdict":Str),D.str y.v),(("sound":Str),D.int (y.s:Nat)),(("faulty":Str),D.int (y.f:Nat))]:=rfl;rw[u_q0];unfold Fg;simp![Mem.upd_same,Mem.upd_upd,e,F,G,Qs,Pu];exact⟨by decide,by decide,by decide,am h⟩
structure OK(ad:Ad)(M0:Mem)(us:List aB)(db lf lw:ca)(as:Xt)(ds:List Out)(ws:List (Tr×Nat×Nat))(N:Mem):Prop where
 x:Ext M0 N
 f:M0 lf=bb
 w:M0 lw=bb
 b:M0 db=bb
 bd:N db=ap (.dK<|bD us)
 lf':N lf=ap (.lst<|as.map D.ref)
 lw':N lw=ap (.lst (ws.map wD).reverse)
 ne:lf≠lw
 nb:lf≠db
 ny:Lay ad N as ds
 few:as.length+cS ws<=100000
 tr:∀w∈ws,Fd us w.1
theorem C9{cs ld:D}{R T J:ca}{as:Xt}{ds:List Out}{w:Tr×Nat×Nat}{G:List (Tr×Nat×Nat)}{c6 c7 c8 c9:Option D}(I:OK ad M0 us R T J as ds (w::G) N)(h:∀as' ds' W N' c6 c7 c8 c9,OK ad M0 us R T J as' ds' W N'->cS W<cS (w::G)->ds'++wa a b us W=ds++wa a b us (w::G)->D'.nx [ap cs,ap ld,ap (.tup [.int a,.int b]),ap (.ref R),ap (.ref T),ap (.ref J),c6,c7,c8,c9] N'):
  gw ad EE D' [ap cs,ap ld,ap (.tup [.int a,.int b]),ap (.ref R),ap (.ref T),ap (.ref J),c6,c7,c8,c9] N:=by
 obtain⟨tr,S,F⟩:=w;have ew:((((tr,S,F)::G).map wD).reverse)=(G.map wD).reverse++[wD (tr,S,F)]:=by simp
 have O:=I.lw';rw[ew]at O;have hlen:((G.map wD).reverse++[wD (tr,S,F)])[((G.map wD).reverse++[wD (tr,S,F)]).length-1]?=ap (wD (tr,S,F)):=by simp
 have htr:=I.tr _ PJ;have few:=I.few;have len:=Ol G;simp only[cS,Pc,R0]at few len;unfold gw;simp only[ah,ao,nC,ac,af,dt,OZ,df,O,AA,hlen,List.dropLast_concat];refine⟨trivial,?_⟩;simp only[ag,Pp];have wr:wD (tr,S,F)=.tup [tr.d,.int (S:Nat),.int (F:Nat)]:=rfl;unfold qR qT;simp only[ah,ao,ai,ac,dC,wr,au,aE,atI_1,atI_2,ag,Pp,dt,OZ];have I1:∀{u:D},(N.upd J<|.lst (G.map wD).reverse) T=ap (.lst<|as.map D.ref):=λ{u}=>by rw[ae I.ne];exact I.lf'
 have ex1:Ext M0 (N.upd J<|.lst (G.map wD).reverse):=I.x.upd I.w;have X:Lay ad (N.upd J<|.lst (G.map wD).reverse) as ds:=I.ny.go λa x=>C5 O a x;have Z:R≠J:=λz=>by have:=I.bd;rw[z,O]at this;cases this
 have H:(N.upd J<|.lst (G.map wD).reverse) R=ap (.dK<|bD us):=by rw[ae Z];exact I.bd
 generalize hN1:N.upd J (.lst (G.map wD).reverse)=N1 at *;have P:N1 J=ap (.lst (G.map wD).reverse):=by rw[<- hN1,Mem.upd_same]
 have E7:N1 T=ap (.lst<|as.map D.ref):=I1 (u:=.non);unfold r9;cases tr with
 |e m=>
  have ed:Tr.d (.e m)=.tup [.str "end",m]:=rfl;unfold qV;simp only[aC,ak,ai,ac,dC,au,aE,atI_0,atI_1,ed,bG,dv,bF,aN,decide_true,if_true,dt,OZ,bq,nC,df,E7,aa,fT,al,aj,af];refine⟨trivial,trivial,trivial,rfl,aH (λ_ _ q=>jT htr q) ?_⟩;have fs:∀{x:Str}{M:Mem}{Q:DK},Q (.str x) M->frz (.str x) M Q:=λz=>z;refine fs ⟨rfl,λx Y=>aq λQ' E' hq _=>vm (y:=⟨jh a b m,S,F⟩) (hq _ _ ?_)⟩;have nx:T≠x:=Mem.ne E7 Y;have nw:J≠x:=Mem.ne P Y;have nd:R≠x:=Mem.ne H Y;simp only[bL,ae nx,E7];refine⟨by simp[d_]at *;exact fS (by lia),?_⟩
  refine h (as++[x]) (ds++[⟨jh a b m,S,F⟩]) G _ _ _ _ _ ⟨(ex1.upd<|ex1.no Y).upd I.f,I.f,I.w,I.b,?_,?_,?_,I.ne,I.nb,?_,?_,λw hw=>I.tr w (Px _ hw)⟩ ?_ ?_
  .rw[ae (P0 I.nb),ae nd];exact H
  .rw[Mem.upd_same];simp
  .rw[ae (P0 I.ne),ae nw];exact P
  .refine Lay.snoc ?_ (X.go λa y e=>?_)
   .rw[ae (P0 nx),Mem.upd_same]
   .rw[ae (λz=>by rw[z,E7]at e;cases e),ae (Mem.ne e Y)];exact e
  .simp only[cS,Pz,QP,d_]at few ⊢;lia
  .simp[cS,d_]
  .simp[wa,fN]
 |a q x y=>
  obtain⟨hq,htx,hty⟩:=htr;have ed:Tr.d (.a q x y)=.tup [.str "ask",kD q,x.d,y.d]:=rfl;have hne:decide (("ask":Str)=("end":Str))=false:=by decide +kernel
  have gd:tN N1 R (kD q)=ap (ap<|.int ((bitK us q:Nat):Int)):=by simp only[tN,H,eZ,JE hq]
  have sq:aE N1 (.ref R)=none:=by simp only[aE,H]
  unfold sx rD qE;simp only[aC,ak,ai,ac,dC,au,atI_0,atI_1,atI_2,atI_3,ed,bG,dv,bF,aN,hne,dt,OZ,ah,ao,aE,H,gd,ag,Pp,bq,nC,df,P,aa,aP,af,Mi,jS,oS,bL,Mem.upd_same,Mem.upd_upd];refine⟨trivial,trivial,?_⟩;rw[if_neg (by simp)]
  have hr:(G.map wD).reverse.length=G.length:=by simp
  refine⟨trivial,bg (by simp),by rw[hr];exact fS (by simp[d_]at few;lia),trivial,bg (by simp),by rw[Pz,hr];simp[d_]at few;exact fS (by simp;lia),?_⟩
  have er:((G.map wD).reverse++[D.tup [x.d,.int ((S ||| bitK us q:Nat):Int),.int (F:Nat)]])++[D.tup [y.d,.int (S:Nat),.int ((F ||| bitK us q:Nat):Int)]]=(((y,S,F ||| bitK us q)::(x,S ||| bitK us q,F)::G).map wD).reverse:=by simp[wD]
  rw[er];refine h as ds ((y,S,F ||| bitK us q)::(x,S ||| bitK us q,F)::G) _ _ _ _ _ ⟨ex1.upd I.w,I.f,I.w,I.b,by rw[ae Z];exact H,by rw[ae I.ne];exact E7,Mem.upd_same,I.ne,I.nb,X.go λa x=>C5 P a x,?_,?_⟩ ?_ ?_
  .simp only[cS,Pc,R0,d_]at few ⊢;lia
  .intro w hw
   rcases Po.mp hw with z|hw
   .rw[z];exact hty
   .rcases Po.mp hw with z|hw
    .rw[z];exact htx
    .exact I.tr w (Px _ hw)
  .simp only[cS,Pc,R0,d_];lia
  .simp[wa,fN]
end
section
variable{t:Sta}
theorem uo{us:List aB}{a b:Int}{cs W:D}{P O J:ca}{M0:Mem}{D':DEnds}{EE:DX}{bx:BxW (bI<|ac 5) (gw ad EE) D'}:∀(n:Nat)(as:Xt)(ds:List Out)(ws:List (Tr×Nat×Nat))(N:Mem)(H f F e:Option D),cS ws<=n->OK ad M0 us P O J as ds ws N->
  (∀G N' H f F e,OK ad M0 us P O J G (ds++wa a b us ws) [] N'->D'.nx [ap cs,ap W,ap (.tup [.int a,.int b]),ap (.ref P),ap (.ref O),ap (.ref J),H,f,F,e] N')->
  cA (bI<|ac 5) (gw ad EE) D' bx (n+1) [ap cs,ap W,ap (.tup [.int a,.int b]),ap (.ref P),ap (.ref O),ap (.ref J),H,f,F,e] N
 |n,as,ds,[],N,H,f,F,e,hn,I,h=>by
  refine whF (λK q=>?_) (h as N H f F e<|by simpa [wa] using I)
  simp only[bI,ac,dt,OZ,u_,I.lw'];exact q
 |0,as,ds,w::ws,N,H,f,F,e,hn,I,h=>by
  have:=ph w.1;simp only[cS,Pc,R0]at hn;lia
 |n+1,as,ds,w::ws,N,H,f,F,e,hn,I,h=>by
  refine whT (λK q=>?_) (C9 I λG S R N' Y Z d8 d9 I' hlt he=>?_)
  .have:((((w::ws).map wD).reverse).isEmpty)=false:=by simp
   simp only[bI,ac,dt,OZ,u_,I.lw',this];exact q
  .exact uo n G S R N' Y Z d8 d9 (by lia) I' λT N2 e6 e7 e8 X I2=>h T N2 e6 e7 e8 X (by rw[<- he];exact I2)
theorem sv{us:List aB}:∀(n:Nat)(g:Gs),(∀x∈g.u,x∈us)->Fd us (cF C s t n g)
 |0,g,h=>.inl rfl
 |n+1,g,h=>by
  obtain⟨⟨G,f⟩,H,hask⟩:=jn (C:=C) (C.most+1) g;unfold cF;cases e:(bR C (C.most+1) g).1 with
  |none=>
   show IK C _=.non\/_;unfold IK
   split
   .exact .inr ⟨_,rfl⟩
   .exact .inl rfl
  |some q=>
   have hs:∀v,∀x∈(cY (bR C (C.most+1) g).2 q v).u,x∈us:=λv x F=>by rw[eR]at F;exact h x (f x (Pf.mp F).1)
   exact⟨h q (f q<|hask q e),sv n _ (hs _),sv n _<|hs _⟩
theorem li:∀t:Tr,d_ t=2*t.asks+1
 |.e _=>rfl
 |.a _ x y=>by unfold d_ Tr.asks;rw[li x,li y];lia
theorem oN:∀(us:List aB)(j:Nat),sQ ((us.zipIdx j).map λp=>D.tup [kD p.1,.int ((2 ^ p.2:Nat):Int)])=ap ((us.zipIdx j).map λp=>(p.1,D.int ((2 ^ p.2:Nat):Int)))
 |[],_=>rfl
 |k::ks,j=>by simp only[SV,Pc,sQ,eZ,oN ks (j+1)]
theorem nX(o:C.Ok)(hs:SOk C s)(Z:SOk C t)(ea:C.mark s=.int a)(eb:C.mark t=.int b)(P:a≠b)(hu:(aS C s t).length<24)(hc:1+(C.tree s t).asks<=L)(hL:L<=10000)(h:∀p as N,Ext M N->N p=ap (.lst<|as.map D.ref)->M p=bb->Lay ad N as (fN a b (aS C s t) (C.tree s t) 0 0)->Q (.ref p) N):xH ad [bC C s t,.int (L:Nat)] M Q E:=by
 have ul:=fg (s:=s) (t:=t) o;have hcs:=@GX C s t;rw[OV];unfold yi;simp only[ah,ao,al,aj,aa,ac,af,dt];have ft:∀{xs:List D}{M:Mem}{Q:DK},Q (.tup xs) M->frz (.tup xs) M Q:=λz=>z;refine⟨rfl,aH (λ_ _ q=>m_ o hs Z ea eb P q)<|ft ?_⟩;simp only[ag,Pp];unfold lW;simp only[ah,ao,br,al,aJ,ot,aj,aa,ac,af,aY,Pc,PK,Py,Pw,dt,OZ];refine⟨rfl,aq λQ' E' hq _=>eM o hs Z λp X=>hq _ _ (bS X ?_)⟩;simp only[aE,b6,lZ];refine yj (λi d=>.tup [d,.int ((2 ^ i:Nat):Int)]) aK _ 0 [] _ _ (by simp;lia) (λi x R K q=>?_) ?_
 .have hi:i<200:=by
   have h1:i<((aS C s t).map kD).length:=by
    rcases RE i ((aS C s t).map kD).length with z|z
    .exact z
    .rw[Qf z]at R;cases R
   rw[Pa]at h1;lia
  simp only[aP,aa,ai,ac,dC,af,KG,oI,dt,OZ];refine⟨⟨by lia,by lia,by decide⟩,bg (by simp),?_⟩
  have:(1:Int)*2 ^ (((0+i:Nat):Int)).toNat=((2 ^ (0+i):Nat):Int):=by rw[Pn];simp
  rw[this];exact q
 intro p X;refine bS X ?_;have e:([]:List D)++(((aS C s t).map kD).zipIdx 0).map (λp=>D.tup [p.1,.int ((2 ^ p.2:Nat):Int)])=((aS C s t).zipIdx 0).map λp=>D.tup [kD p.1,.int ((2 ^ p.2:Nat):Int)]:=by
  rw[Pw,List.zipIdx_map,PB];rfl
 rw[e];have W:(([]:List (aB×D)).map (·.1)++(bD<|aS C s t).map (·.1)).Nodup:=by rw[EG];exact kJ o
 have G:=qk W;rw[Pw]at G;simp only[g7,CY,eY,oN];refine⟨trivial,by simp;lia,λS J=>?_⟩
 have H:(List.foldl (λa p=>dI a p.fst p.snd) []<|List.map (λp=>(p.1,D.int ((2 ^ p.2:Nat):Int)))<|List.zipIdx<|aS C s t)=bD (aS C s t):=G;rw[H];simp only[bp,af,ag,Pp];refine⟨bg (by simp),λO F=>?_⟩
 have n1:S≠O:=Mem.ne Mem.upd_same F;rw[ae n1.symm]at F;unfold lV sC;simp only[ah,ao,bp,aa,aP,aj,ac,dC,af,dt,OZ];refine⟨rfl,aH (λ_ _ q=>Aj o hs Z ea eb P hu hc q) ⟨bg (by simp),bg (by simp),λT f=>?_⟩⟩
 have n2:O≠T:=Mem.ne Mem.upd_same f;rw[ae n2.symm]at f;have n3:S≠T:=Mem.ne Mem.upd_same f;rw[ae n3.symm]at f;simp only[ag,Pp,h_];have I:OK ad M (aS C s t) S O T [] [] [(C.tree s t,0,0)] (((M.upd S<|.dK<|bD<|aS C s t).upd O<|.lst []).upd T<|.lst [D.tup [(C.tree s t).d,.int 0,.int 0]]):=
  ⟨((Ext.new J).upd F).upd f,F,f,J,by rw[ae n3,ae n1,Mem.upd_same],by rw[ae n2,Mem.upd_same];rfl,Mem.upd_same,n2,n1.symm,.nil,by simp only[cS,Pc,PK,R0,List.sum_nil,Qs,li];lia,λw hw=>by
   rcases Po.mp hw with z|z
   .rw[z];exact sv 24 _ λx R=>R
   .cases z⟩
 refine⟨_,uo _ _ _ _ _ _ _ _ _ (Pl _) I λY N' c6 c7 c8 c9 I'=>?_⟩;simp only[av,ac,dt,OZ];refine am (h O Y N' I'.x I'.lf' F ?_);have:=I'.ny;simpa [wa] using this
end
noncomputable def iQ(cf:Cf)(n:cE)(rest:List Rw):Rw->cE×List Rw
 |.ifr x a b=>(n,(if nm n x=0 then b else a)++rest)
 |.again x a=>(n,if nm n x=0 then rest else a++(.again x a::rest))
 |r=>(sN n (eB r) (num cf n r),rest)
noncomputable def fin(cf:Cf):Nat->cE->List Rw->Option cE
 |_,n,[]=>ap n
 |0,_,_::_=>bb
 |k+1,n,r::rest=>fin cf k (iQ cf n rest r).1 (iQ cf n rest r).2
theorem dm{cf:Cf}{k:Nat}{n:cE}:fin cf k n []=ap n:=by cases k<;>rfl
noncomputable def vf(cf:Cf)(b:Bool×Sx)(rest:List Rw):Option cE:=if b.1=true then fin cf (cf.most-b.2.steps.length) b.2.nums rest else bb
section
variable{cf:Cf}
theorem ua{s:Sx}:vf cf (true,s) rest=fin cf (cf.most-s.steps.length) s.nums rest:=by unfold vf;rw[if_pos rfl]
theorem mO{s:Sx}:vf cf (cm,s) rest=none:=by unfold vf;rw[if_neg (by simp)]
theorem MC{pl:Xq}{s:Sx}(h:s.steps.length<cf.most):nt cf pl v s=(true,⟨s.nums,s.steps++[(pl,v)]⟩):=by unfold nt;rw[if_pos h]
theorem MR{pl:Xq}{s:Sx}(h:¬s.steps.length<cf.most):nt cf pl v s=(cm,s):=by unfold nt;rw[if_neg h]
theorem rF{s:Sx}{n:cE}(h:¬s.steps.length<cf.most):fin cf (cf.most-s.steps.length) n (r::rest)=none:=by
 have:cf.most-s.steps.length=0:=by lia
 rw[this];rfl
theorem vU{s:Sx}{n:cE}{p:List Int×Int}(h:s.steps.length<cf.most):fin cf (cf.most-s.steps.length) n (r::rest)=fin cf (cf.most-(s.steps++[p]).length) (iQ cf n rest r).1 (iQ cf n rest r).2:=by
 have:cf.most-s.steps.length=(cf.most-(s.steps++[p]).length)+1:=by rw[Pz];simp;lia
 rw[this];rfl
theorem uS{x:Str}{a:List Rw}{pl:Xq}(I:∀pl s rest,fin cf (cf.most-s.steps.length) s.nums (a++rest)=vf cf (bK cf a pl 0 s) rest):∀(f t:Nat)(s:Sx)(rest:List Rw),cf.most-s.steps.length<f->
  fin cf (cf.most-s.steps.length) s.nums (.again x a::rest)=vf cf (fu cf x pl (λt s=>bK cf a (pl++[(t:Int)]) 0 s) f t s) rest
 |0,t,s,rest,h=>by lia
 |f+1,t,s,rest,h=>by
  unfold fu
  by_cases c:s.steps.length<cf.most
  .rw[MC c,if_pos rfl]
   rw[vU (p:=(pl++[(t:Int)],lk s.nums x)) c]
   by_cases e:nm s.nums x=0
   .have F:lk s.nums x=0:=by unfold lk;rw[if_pos e]
    rw[F,if_neg (by decide),ua]
    simp only[iQ,if_pos e]
   .have F:lk s.nums x=1:=by unfold lk;rw[if_neg e]
    rw[F,if_pos rfl];simp only[iQ,if_neg e];have i1:=I (pl++[(t:Int)]) ⟨s.nums,s.steps++[(pl++[(t:Int)],1)]⟩ (.again x a::rest);have O:=fF (c:=cf) a (pl++[(t:Int)]) 0 ⟨s.nums,s.steps++[(pl++[(t:Int)],1)]⟩;generalize J:bK cf a (pl++[(t:Int)]) 0 ⟨s.nums,s.steps++[(pl++[(t:Int)],1)]⟩=ex at *;obtain⟨b,G⟩:=ex;rw[i1];cases b with
    |true=>
     rw[ua,if_pos rfl];have H:s.steps.length+1<=G.steps.length:=by
      have:=O.1;simp only[Pz,Pu,Qs]at this;lia
     exact uS I f (t+1) G rest (by lia)
    |false=>rw[mO,if_neg (by simp),mO]
  .rw[MR c,if_neg (by simp),mO]
   exact rF c
theorem kK{pl:Xq}{s:Sx}(e:bn r=true):fin cf (cf.most-s.steps.length) s.nums (r::rest)=vf cf (gr cf r pl s) rest:=by
 rw[bW e];unfold gZ;have f:iQ cf s.nums rest r=(sN s.nums (eB r) (num cf s.nums r),rest):=by
  cases r with
  |ifr=>cases e
  |again=>cases e
  |_=>rfl
 by_cases c:s.steps.length<cf.most
 .rw[if_pos c,ua,vU (p:=(pl,num cf s.nums r)) c,f]
 .rw[if_neg c,mO];exact rF c
mutual
theorem Na:∀(r:Rw)(pl:Xq)(s:Sx)(rest:List Rw),fin cf (cf.most-s.steps.length) s.nums (r::rest)=vf cf (gr cf r pl s) rest
 |.ifr x a b,pl,s,rest=>by
  unfold gr
  by_cases c:s.steps.length<cf.most
  .rw[MC c,if_pos rfl,vU (p:=(pl,lk s.nums x)) c]
   by_cases e:nm s.nums x=0
   .have f:lk s.nums x=0:=by unfold lk;rw[if_pos e]
    rw[f,if_neg (by decide)]
    simp only[iQ,if_pos e];exact gU b (pl++[0]) 0 ⟨s.nums,s.steps++[(pl,0)]⟩ rest
   .have f:lk s.nums x=1:=by unfold lk;rw[if_neg e]
    rw[f,if_pos rfl];simp only[iQ,if_neg e];exact gU a (pl++[1]) 0 ⟨s.nums,s.steps++[(pl,1)]⟩ rest
  .rw[MR c,if_neg (by simp),mO]
   exact rF c
 |.again x a,pl,s,rest=>by
  unfold gr;exact uS (λpl s rest=>gU a pl 0 s rest) _ _ _ _ (by lia)
 |.put x k,pl,s,rest=>kK rfl
 |.take x k,pl,s,rest=>kK rfl
 |.pick x y,pl,s,rest=>kK rfl
 |.two w x y z,pl,s,rest=>kK rfl
theorem gU:∀(rs:List Rw)(pl:Xq)(j:Nat)(s:Sx)(rest:List Rw),fin cf (cf.most-s.steps.length) s.nums (rs++rest)=vf cf (bK cf rs pl j s) rest
 |[],pl,j,s,rest=>by unfold bK;rw[ua];rfl
 |r::rs,pl,j,s,rest=>by
  unfold bK;rw[Py,Na r (pl++[(j:Int)]) s (rs++rest)];generalize gr cf r (pl++[(j:Int)]) s=ex;obtain⟨b,e⟩:=ex;cases b with
  |true=>rw[ua,if_pos rfl];exact gU rs pl (j+1) e rest
  |false=>rw[mO,if_neg (by simp),mO]
end
end
noncomputable def mkO(mn:Str):Option cE->D
 |some n=>.int (nm n mn)
 |none=>.non
theorem tX:C.mark z=mkO C.mn (fin (C.cf z) C.most (C.names.zip z.nums) C.rows):=by
 have h:=gU (cf:=C.cf z) C.rows [] 0 ⟨C.names.zip z.nums,[]⟩ [];rw[P8]at h;have e:fin (C.cf z) C.most (C.names.zip z.nums) C.rows=vf (C.cf z) (C.run z) []:=h;rw[e];unfold Cse.mark uA vf
 split
 .rw[dm];rfl
 .rfl
noncomputable def HI(p:aB->Bool):Tr->D
 |.e m=>m
 |.a q x y=>if p q=true then HI p y else HI p x
theorem gS{n:cE}(h:x∈n.map (·.1)):nm (sN n x v) y=if y=x then v else nm n y:=by
 unfold nm;rw[MK h]
 split<;>rfl
structure Rl(C:Cse)(z:Sta)(g:Gs)(n:cE):Prop where
 nk:∀x,(PX x:aB)∉g.u->nm g.n x=nm n x
 nu:∀x,(PX x:aB)∈g.u->nm n x=aD C z (.inr x)
 pk:∀i:Nat,(Qz (i:Int):aB)∉g.u->(g.ps[i]?).getD 0=(z.pieces[i]?).getD 0
 k:n.map (·.1)=C.names
section
variable{t:Sta}{n:cE}{p:aB->Bool}
theorem DR(H:dA C.names C.w C.many r)(h:fC C g r=bb):(∀x∈dZ r,(PX x:aB)∉g.u)/\∀i,Hh C g.n r=ap i->(Qz i:aB)∉g.u:=by
 unfold fC at h
 split at h
 .rename_i e
  rw[e];exact⟨λ_ _ z=>(by cases z),λ_ _ z=>(by cases z)⟩
 .split at h
  .cases h
  .rename_i e
   refine⟨λx F f=>?_,λi G f=>?_⟩
   .have:(PX x:aB)∈(dU C).filter λk=>decide (k∈((dZ r).filter λx=>decide ((PX x:aB)∈g.u)).map PX):=by
     rw[Pf];refine⟨PU.mpr (.inl<|Pq.mpr ⟨x,yh H x F,rfl⟩),decide_eq_true ?_⟩;exact Pq.mpr ⟨x,Pf.mpr ⟨F,decide_eq_true f⟩,rfl⟩
    rw[e]at this;cases this
   .rw[G]at h
    simp only[if_pos f]at h;cases h
theorem Rl.num(R:Rl C z g n)(ok:GOk C g)(S:SOk C z)(f:c_ C.names C.w C.many r)(h:fC C g r=bb):num (g.cf C) g.n r=num (C.cf z) n r:=by
 have F:dA C.names C.w C.many r:=by
  cases r with
  |ifr=>exact f.elim
  |again=>exact f.elim
  |_=>exact f
 obtain⟨G,H⟩:=DR F h;have J:g.ps.length=z.pieces.length:=by rw[ok.lp,S.lp]
 cases r with
 |put x k=>rfl
 |take x i=>
  have:=R.pk i.toNat (by rw[Ve f.2.1];exact H i rfl)
  exact this
 |pick x y=>
  have e:=R.nk y (G y<|by simp[dZ])
  have I:=H _ rfl;have T:(0:Int)<(C.many:Int):=f.2.2;have P:=QJ (nm g.n y) (show (C.many:Int)≠0 by lia)
  rw[<- Ve P]at I;have O:=R.pk _ I;show (g.ps[(nm g.n y % (g.ps.length:Int)).toNat]?).getD 0=(z.pieces[(nm n y % (z.pieces.length:Int)).toNat]?).getD 0;rw[<- e,<- J,ok.lp];exact O
 |two w x y u=>
  show yY w (nm g.n y) (nm g.n u) C.w=yY w (nm n y) (nm n u) C.w;rw[R.nk y (G y<|by simp[dZ]),R.nk u (G u<|by simp[dZ])]
 |ifr=>exact f.elim
 |again=>exact f.elim
theorem Rl.step(R:Rl C z g n)(ok:GOk C g)(W:SOk C z)(P:dA C.names C.w C.many r)(h:fC C g r=bb):Rl C z (lC C g rest r) (iQ (C.cf z) n rest r).1/\(lC C g rest r).td=(iQ (C.cf z) n rest r).2:=by
 have look:∀x,x∈dZ r->nm g.n x=nm n x:=λx G=>R.nk x ((DR P h).1 x G);have set:∀O,r=O->bn r=true->Rl C z { g with left:=g.left-1,td:=rest,n:=sN g.n (eB r) (_T.num (g.cf C) g.n r),u:=g.u.filter λk=>decide (k≠.inr (eB r)) } (sN n (eB r)<|_T.num (C.cf z) n r):=λO _ T=>by
  have F:=gy P T;have G:eB r∈C.names:=wI F;have H:eB r∈g.n.map (·.1):=by rw[ok.n.keys];exact G
  have e:eB r∈n.map (·.1):=by rw[R.k];exact G
  rw[R.num ok W F h];refine⟨λy J=>?_,λy J=>?_,λi S=>?_,by rw[iH];exact R.k⟩
  .rw[gS H,gS e]
   split
   .rfl
   .rename_i c
    refine R.nk y λI=>J ?_;rw[Pf];exact⟨I,decide_eq_true λz=>c (S5 z)⟩
  .have f:=Pf.mp J
   have c:¬y=eB r:=λz=>(of_decide_eq_true f.2) (by rw[z])
   rw[gS e,if_neg c];exact R.nu y f.1
  .refine R.pk i λI=>S ?_
   rw[Pf];exact⟨I,decide_eq_true λz=>by cases z⟩
 cases r with
 |ifr x a b=>
  refine⟨⟨R.nk,R.nu,R.pk,R.k⟩,?_⟩;show (if nm g.n x=0 then b else a)++rest=(if nm n x=0 then b else a)++rest
  rw[look x (by simp[dZ])]
 |again x a=>
  refine⟨⟨R.nk,R.nu,R.pk,R.k⟩,?_⟩;show (if nm g.n x=0 then rest else a++(.again x a::rest))=(if nm n x=0 then rest else a++(.again x a::rest))
  rw[look x (by simp[dZ])]
 |_=>exact⟨set _ rfl rfl,rfl⟩
theorem zk(o:C.Ok)(H:SOk C z):∀(f:Nat)(g:Gs)(n:cE),Rl C z g n->GOk C g->0<=g.left->g.left<f->∃F,Rl C z (bR C f g).2 F/\fin (C.cf z) g.left.toNat n g.td=fin (C.cf z) (bR C f g).2.left.toNat F (bR C f g).2.td/\
  ((bR C f g).1=bb->((bR C f g).2.td=[]/\(PX C.mn:aB)∉(bR C f g).2.u)\/((bR C f g).2.td≠[]/\(bR C f g).2.left<=0))
 |0,g,n,R,ok,h0,hf=>by lia
 |f+1,g,n,R,ok,h0,hf=>by
  unfold bR;cases e:g.td with
  |nil=>
   refine⟨n,R,by dsimp only;rw[e],λh=>.inl ⟨e,?_⟩⟩
   dsimp only at h ⊢
   split at h
   .cases h
   .assumption
  |cons r rest=>
   dsimp only;have P:dA C.names C.w C.many r:=by
    have:=ok.td;rw[e]at this;exact this.1
   split
   .rename_i G
    exact⟨n,R,by rw[e],λ_=>.inr ⟨by rw[e];simp,G⟩⟩
   .rename_i G
    cases a:fC C g r with
    |some k=>exact⟨n,R,by dsimp only;rw[e],λh=>by cases h⟩
    |none=>
     dsimp only;obtain⟨R1,S⟩:=R.step (rest:=rest) ok H P a;have I:(lC C g rest r).left=g.left-1:=nE;obtain⟨F,R2,O,J⟩:=zk o H f (lC C g rest r) _ R1 (vb o ok e) (by lia) (by lia)
     refine⟨F,R2,?_,J⟩;rw[<- O,I,S];have:g.left.toNat=(g.left-1).toNat+1:=by lia
     rw[this];rfl
theorem Rl.set(R:Rl C z g n)(ok:GOk C g)(I:q∈dU C)(F:q∈g.u):Rl C z (cY g q<|aD C z q) n:=by
 cases q with
 |inr x=>
  have J:x∈C.names:=by
   rcases gC I with⟨y,f,e⟩|⟨i,_,e⟩
   .cases e;exact f
   .cases e
  have G:x∈g.n.map (·.1):=by rw[ok.n.keys];exact J
  refine⟨λy f=>?_,λy f=>R.nu y (Pf.mp f).1,λi H=>R.pk i λF=>H (Pf.mpr ⟨F,decide_eq_true λz=>by cases z⟩),R.k⟩
  show nm (sN g.n x _) y=_;rw[gS G]
  split
  .rename_i c;subst c;exact(R.nu _ F).symm
  .rename_i c
   exact R.nk y λF=>f (Pf.mpr ⟨F,decide_eq_true λz=>c (S5 z)⟩)
 |inl j=>
  obtain⟨i,H,e⟩:∃i:Nat,i<C.many/\j=(i:Int):=by
   rcases gC I with⟨y,f,e⟩|⟨i,h,e⟩
   .cases e
   .exact⟨i,h,S6 e⟩
  subst e;refine⟨λy f=>R.nk y λF=>f (Pf.mpr ⟨F,decide_eq_true λz=>by cases z⟩),λy f=>R.nu y (Pf.mp f).1,λk O=>?_,R.k⟩
  show ((g.ps.set ((i:Nat):Int).toNat<|(z.pieces[((i:Nat):Int).toNat]?).getD 0)[k]?).getD 0=_;rw[Pn,SJ]
  split
  .rename_i c
   subst c;rw[if_pos (by rw[ok.lp];exact H)]
   rfl
  .rename_i c
   exact R.pk k λF=>O (Pf.mpr ⟨F,decide_eq_true λz=>c (by have:=S6 z;lia)⟩)
theorem y9(o:C.Ok)(hs:SOk C s)(ht:SOk C t)(Y:SOk C z):∀(f:Nat)(g:Gs)(n:cE),(∀q∈g.u,aD C z q=aD C (if p q=true then t else s) q)->Rl C z g n->GOk C g->0<=g.left->g.left<=C.most->(∀x∈g.u,x∈dU C)->g.u.length<f->
  HI p (cF C s t f g)=mkO C.mn (fin (C.cf z) g.left.toNat n g.td)
 |0,g,n,hp,R,ok,h0,hm,hu,hf=>by lia
 |f+1,g,n,hp,R,ok,h0,hm,hu,hf=>by
  obtain⟨n',R',e,W⟩:=zk o Y (C.most+1) g n R ok h0 (by lia)
  have T:=p_ o (C.most+1) g ok;obtain⟨⟨hlen,h⟩,S,J⟩:=jn (C:=C) (C.most+1) g;have hl:=S h0;unfold cF;rw[e];generalize bR C (C.most+1) g=go at *;obtain⟨a,F⟩:=go;dsimp only at *;cases a with
  |none=>
   show IK C F=_;unfold IK;rcases W rfl with⟨O,h2⟩|⟨O,h2⟩
   .rw[if_pos O,O,dm]
    show D.int _=D.int _;rw[R'.nk _ h2]
   .rw[if_neg O]
    have:F.left.toNat=0:=by lia
    rw[this];cases e3:F.td with
    |nil=>exact absurd e3 O
    |cons=>rfl
  |some q=>
   have G:=J q rfl;have I:=hu q (h q G);have fl:=rU G;have P:∀y:Sta,aD C z q=aD C y q->SOk C y->HI p (cF C s t f<|cY F q<|aD C y q)=mkO C.mn (fin (C.cf z) F.left.toNat n' F.td):=λy hy ky=>by
    rw[<- hy]
    have:=y9 o hs ht Y f (cY F q<|aD C z q) n' (λk hk=>by rw[eR]at hk;exact hp k (h k (Pf.mp hk).1)) (R'.set T I G) (qu T<|bH o Y I) (by rw[fj];lia) (by rw[fj];lia)
     (λx Z=>by rw[eR]at Z;exact hu x (h x (Pf.mp Z).1)) (by rw[eR];lia)
    rw[fj]at this;have X:(cY F q<|aD C z q).td=F.td:=by cases q<;>rfl
    rw[X]at this;exact this
   have H:=hp q (h q G);show (if p q=true then HI p (cF C s t f<|cY F q<|aD C t q) else HI p (cF C s t f<|cY F q<|aD C s q))=_
   split
   .rename_i c;rw[if_pos c]at H;exact P t H ht
   .rename_i c;rw[if_neg c]at H;exact P s H hs
theorem pb(f:C.names.length=nums.length)(h:x∉C.names):nm (C.names.zip nums) x=0:=by
 unfold nm gN;rw[List.find?_eq_none.mpr]
 .rfl
 .intro q e
  have:=(RI e).1;simp only[decide_eq_true_eq];exact λz=>h (by rw[<- z];exact this)
theorem wS(o:C.Ok)(G:SOk C s)(P:SOk C t)(F:SOk C z)(R:(aS C s t).length<24)(H:∀q∈dU C,aD C z q=aD C (if p q=true then t else s) q):HI p (C.tree s t)=C.mark z:=by
 rw[tX];have f:∀q∈dU C,q∉aS C s t->aD C z q=aD C s q:=λq h I=>by
  rw[H q h];have:aD C s q=aD C t q:=Rt λc=>I (Pf.mpr ⟨h,decide_eq_true c⟩)
  split
  .exact this.symm
  .rfl
 have:=y9 (p:=p) o G P F 24 (g0 C s t) (C.names.zip z.nums) (λq h=>H q (r_ q h)) ⟨λx J=>?_,λx _=>rfl,λi O=>?_,g4 F.ln.symm⟩ (Hz o G) (by show (0:Int)<=((C.most:Nat):Int);lia) (RL _) r_ R
 .have e:(g0 C s t).left.toNat=C.most:=rfl
  rw[e]at this;exact this
 .by_cases c:x∈C.names
  .exact(f (.inr x) (PU.mpr<|.inl<|Pq.mpr ⟨x,c,rfl⟩) J).symm
  .show nm (C.names.zip s.nums) x=_
   rw[pb G.ln.symm c,pb F.ln.symm c]
 .show (s.pieces[i]?).getD 0=_
  by_cases c:i<C.many
  .have:=f (.inl (i:Int)) (PU.mpr<|.inr<|Pq.mpr ⟨i,PR.mpr c,rfl⟩) O
   exact this.symm
  .rw[Qf (by rw[G.lp];lia),Qf (by rw[F.lp];lia)]
theorem jp:∀(f:Nat)(g:Gs),(cF C s t f g).asks+1<=2 ^ g.u.length
 |0,g=>Nat.one_le_two_pow
 |f+1,g=>by
  obtain⟨⟨G,H⟩,_,h⟩:=jn (C:=C) (C.most+1) g;unfold cF;generalize bR C (C.most+1) g=go at *;obtain⟨a,F⟩:=go;dsimp only at *;cases a with
  |none=>exact Nat.one_le_two_pow
  |some q=>
   have O:=rU (h q rfl);have J:=jp f (cY F q<|aD C s q);have I:=jp f (cY F q<|aD C t q);rw[eR]at J I;have e:2 ^ ((F.u.filter λk=>decide (k≠q)).length+1)<=2 ^ g.u.length:=Qo (by decide) (by lia)
   rw[UT]at e;show 1+_+_+1<=_;lia
theorem Ao:1+(C.tree s t).asks<=2 ^ (aS C s t).length:=by
 have:=jp (C:=C) (s:=s) (t:=t) 24 (g0 C s t);have e:(g0 C s t).u=aS C s t:=rfl;rw[e]at this;show 1+(cF C s t 24<|g0 C s t).asks<=_;lia
end
structure OutOk(n:Nat)(x:Out):Prop where
 s:x.s<2 ^ n
 f:x.f<2 ^ n
 l:(aQ x.f).length+(aQ x.s).length<=n
theorem bP{b:Nat}(h:b<2 ^ n):i∈aQ b↔i<n/\b.testBit i=true:=by
 rw[cQ h,Pf,PR]
def TrN:Tr->List aB->Prop
 |.e _,_=>True
 |.a q x y,u=>q∈u/\TrN x (u.filter λk=>decide (k≠q))/\TrN y (u.filter λk=>decide (k≠q))
theorem TrN.mono:∀{t:Tr}{u v:List aB},TrN t u->(∀k∈u,k∈v)->TrN t v
 |.e _,_,_,_,_=>trivial
 |.a q x y,u,v,h,s=>⟨s q h.1,h.2.1.mono λk f=>Pf.mpr ⟨s k (Pf.mp f).1,(Pf.mp f).2⟩,h.2.2.mono λk f=>Pf.mpr ⟨s k (Pf.mp f).1,(Pf.mp f).2⟩⟩
theorem tB{C:Cse}{s t:Sta}:∀(f:Nat)(g:Gs),TrN (cF C s t f g) g.u
 |0,_=>trivial
 |f+1,g=>by
  obtain⟨⟨_,e⟩,_,h⟩:=jn (C:=C) (C.most+1) g;unfold cF;generalize bR C (C.most+1) g=go at *;obtain⟨a,G⟩:=go;dsimp only at *;cases a with
  |none=>trivial
  |some q=>
   have w:∀v,TrN (cF C s t f<|cY G q v) (g.u.filter λk=>decide (k≠q)):=λv=>by
    have:=tB (C:=C) (s:=s) (t:=t) f (cY G q v);rw[eR]at this;exact this.mono λk F=>Pf.mpr ⟨e k (Pf.mp F).1,(Pf.mp F).2⟩
   exact⟨e q (h q rfl),w _,w _⟩
structure Wy(us:List aB)(u:List aB)(S F:Nat):Prop where
 s:S<2 ^ us.length
 f:F<2 ^ us.length
 sub:∀q∈u,q∈us
 no:∀q∈u,S.testBit (us.idxOf q)=cm/\F.testBit (us.idxOf q)=cm
 dis:∀i,¬(S.testBit i=true/\F.testBit i=true)
section
variable{S F:Nat}
theorem LI(e:q∈us):bitK us q<2 ^ us.length:=Nat.pow_lt_pow_right (by decide) (Rq e)
theorem wf:(bitK us q).testBit i=decide (us.idxOf q=i):=by unfold bitK;exact Nat.testBit_two_pow
theorem FY{k:aB}(G:k∈us)(H:q∈us)(h:us.idxOf q=us.idxOf k):k=q:=by
 have e:=Tp (Rq G);have f:=Tp (Rq H);rw[<- e,<- f];congr 1;exact h.symm
theorem Wy.swap(w:Wy us u S F):Wy us u F S:=⟨w.f,w.s,w.sub,λq e=>(w.no q e).symm,λi h=>w.dis i h.symm⟩
theorem Wy.fa(w:Wy us u S F)(I:q∈u):Wy us (u.filter λk=>decide (k≠q)) S (F ||| bitK us q):=by
 have e:=w.sub q I;refine⟨w.s,Tz w.f (LI e),λk G=>w.sub k (Pf.mp G).1,λk G=>?_,λi h=>?_⟩
 .obtain⟨H,J⟩:=Pf.mp G
  refine⟨(w.no k H).1,?_⟩;rw[RU,(w.no k H).2,wf,Q0];exact decide_eq_false λz=>(of_decide_eq_true J) (FY (w.sub k H) e z)
 .rw[RU,wf]at h
  by_cases c:us.idxOf q=i
  .subst c;rw[(w.no q I).1]at h;exact absurd h.1 (by simp)
  .rw[decide_eq_false c,Rj]at h;exact w.dis i h
theorem Wy.so(w:Wy us u S F)(e:q∈u):Wy us (u.filter λk=>decide (k≠q)) (S ||| bitK us q) F:=(w.swap.fa e).swap
theorem tO{p r:Nat->Bool}:∀(l:List Nat),(∀i,¬(p i=true/\r i=true))->(l.filter p).length+(l.filter r).length<=l.length
 |[],_=>by simp
 |i::l,h=>by
  have:=tO l h;have e:=h i;rw[PM,PM,Pu]
  split<;>split<;>simp_all<;>lia
theorem Wy.ok(w:Wy us u S F){v:Str}:OutOk us.length ⟨v,S,F⟩:=by
 refine⟨w.s,w.f,?_⟩;show (aQ F).length+(aQ S).length<=_;rw[cQ w.f,cQ w.s];have:=tO (p:=λi=>F.testBit i) (r:=λi=>S.testBit i) (PD us.length) λi h=>w.dis i h.symm;rw[QW]at this;exact this
theorem rJ:∀(t:Tr)(u:List aB)(S F:Nat),TrN t u->Wy us u S F->∀x∈fN a b us t S F,OutOk us.length x
 |.e m,u,S,F,_,w,x,hx=>by
  have:x=⟨jh a b m,S,F⟩:=by simpa [fN] using hx
  subst this;exact w.ok
 |.a q x y,u,S,F,h,w,o,ho=>by
  rcases PU.mp ho with h1|h1
  .exact rJ y _ _ _ h.2.2 (w.fa h.1) o h1
  .exact rJ x _ _ _ h.2.1 (w.so h.1) o h1
theorem Wy.zero(h:∀q∈u,q∈us):Wy us u 0 0:=⟨Nat.two_pow_pos _,Nat.two_pow_pos _,h,λq _=>⟨Q8 _,Q8 _⟩,λi h=>by rw[Q8]at h;exact absurd h.1 (by simp)⟩
end
section
variable{t:Sta}
theorem ug:TrN (C.tree s t) (aS C s t):=tB 24 (g0 C s t)
end
theorem mG{a b:Int}{us:List aB}:∀(t:Tr){S F:Nat},(fN a b us t S F).length=t.asks+1
 |.e m,S,F=>rfl
 |.a q x y,S,F=>by unfold fN Tr.asks;rw[Pz,mG x,mG y];lia
noncomputable def flt(rs:List Rw):List Rw:=rs.filter bn
noncomputable def BN(d:D):Bool:=match d with
 |.tup (.str w::_)=>!(decide (w=("if":Str))||decide (w=("again":Str)))
 |_=>true
theorem Lx(h:dA names m many r):BN r.d=bn r:=by
 have e:∀w rest,BN (.tup (.str w::rest))=!(decide (w=("if":Str))||decide (w=("again":Str))):=λ_ _=>rfl
 cases r with
 |two w x y z=>
  simp only[Rw.d,e,bn];rcases h.1 with rfl|rfl|rfl|rfl<;>decide +kernel
 |_=>simp only[Rw.d,e,bn];decide +kernel
theorem xg{names:Xr}{m many:Int}:∀{rs:List Rw},bj names m many rs->(aG rs).filter BN=aG (flt rs)
 |[],_=>rfl
 |r::rs,h=>by
  have e:=xg h.2;unfold flt at e ⊢;rw[aG,PM,PM,Lx h.1,e]
  split<;>rfl
theorem wl{names:Xr}{m many:Int}:∀{rs:List Rw},bj names m many rs->bj names m many (flt rs)
 |[],_=>trivial
 |r::rs,h=>by
  have e:=wl h.2;unfold flt at e ⊢;rw[PM]
  split
  .exact⟨h.1,e⟩
  .exact e
theorem rY(h:dA names m many r):∃(w:Str)(rest:List D),r.d=.tup (.str w::.str (eB r)::rest):=by
 cases r<;>exact⟨_,_,rfl⟩
theorem s_{d:D}(h:d∈aG rs):∃r∈rs,d=r.d:=by
 rw[gl]at h;obtain⟨r,e,rfl⟩:=Pq.mp h;exact⟨r,e,rfl⟩
theorem iq{names:Xr}{m many:Int}:∀{rs:List Rw}{r:Rw},bj names m many rs->r∈rs->dA names m many r
 |r::rs,q,h,hq=>by
  rcases Po.mp hq with rfl|hq
  .exact h.1
  .exact iq h.2 hq
section
variable{k:Pt}
theorem oH(O:rs.length<=1000)(ok:bj names m many rs)(h:Q (.tup<|aG<|flt rs) M):tK ad [.tup (aG rs)] M Q E:=by
 rw[N8];unfold y1;simp only[av,br,aa,af,al,aJ,bo,ac,dt,aE,b6,aY,PK,Py,Pw,Pc];refine bT BN id aK (by rw[bQ];lia) (λx H K q=>?_) (λx H _ K q=>q) ?_
 .obtain⟨r,J,rfl⟩:=s_ H
  obtain⟨w,rest,e⟩:=rY (iq ok J);have I:BN r.d=!(decide (w=("if":Str))||decide (w=("again":Str))):=by rw[e];rfl
  rw[I]at q;rw[e];simp![atI_0];refine⟨bg (by decide),λp F=>?_⟩
  rw[Mem.upd_del,ar F];rcases Decidable.em (w=("if":Str)) with c1|c1
  .subst c1
   simpa [aN] using q
  .rcases Decidable.em (w=("again":Str)) with c2|c2
   .subst c2
    simpa [aN] using q
   .have f:¬("if":Str)=w:=λz=>c1 z.symm
    have G:¬("again":Str)=w:=λz=>c2 z.symm;simpa [aN,c1,c2,f,G] using q
 intro p F;rw[Qw,xg ok];refine bS F ?_;exact am h
theorem fH(F:Has k M)(H:2<=m)(f:m<=997)(G:0<=v/\v<m)(h:∀w M',0<=w->w<m->w≠v->Dr k M M'->Q (.int w) M'):nA ad [.ref k.p,.int m,.int v] M Q E:=by
 rw[Oa];unfold xq;simp![];refine aO F (by lia) (by lia) λr M' a b d=>?_
 simp![];refine⟨by lia,am<|h _ _ (QJ _<|by lia) (QB _<|by lia) ?_ d⟩
 intro z
 by_cases c:v+1+r<m
 .rw[Int.emod_eq_of_lt (by lia) c]at z;lia
 .have e:(v+1+r) % m=v+1+r-m:=by
   rw[<- Int.sub_emod_right,Int.emod_eq_of_lt (by lia) (by lia)]
  rw[e]at z;lia
end
noncomputable def E8(C:Cse)(s t:Sta):D:=if (C.run s).1=true/\(C.run t).1=true then .tup [.int (nm (C.run s).2.nums C.mn),.int (nm (C.run t).2.nums C.mn)] else .non
theorem oj:∀(n:Nat)(f:Str->Int)(xs:Xr),fits n (xs.map λx=>D.int (f x))=true
 |n,f,[]=>by cases n<;>rfl
 |n,f,x::xs=>by
  have:=oj n f xs;cases n<;>simp[fits,bF,this]
theorem Fa{r:Bool×Sx}:bF 60 (di names r)=true:=by
 unfold di
 split
 .have:=oj 59 (λx=>nm r.2.nums x) names
  simp[bF,this]
 .rfl
theorem F7{r:Bool×Sx}:aN (di names r) .non=!r.1:=by
 unfold di;cases r.1<;>rfl
theorem wU{r:Bool×Sx}(f:r.1=true)(e:names[j]?=ap mk):∃xs,di names r=.tup xs/\atI xs (j:Int)=ap (.int<|nm r.2.nums mk):=by
 refine⟨names.map λx=>.int (nm r.2.nums x),by unfold di;rw[if_pos f],?_⟩
 rw[bi (by lia),Pn,Ph,e];rfl
section
variable{t:Sta}
theorem NH(o:C.Ok)(e:SOk C z)(h:K (di C.names<|C.run z) M):
  ai au (fK<|aj (jL ad) EE 3<|aa (ac 1)<|aa (ac 0)<|aa (ac 2) af) (dC<|.int 1) [ap z.d,ap C.d,ap (.int (C.most:Nat))] M K:=by
 rw[e.pd];simp only[ai,fK,aj,aa,ac,af,dC,OZ,dt];refine⟨rfl,jF (o.pl e) ?_⟩;unfold wC;simp only[au,aE,atI_1,OZ,dt];exact h
theorem eD(o:C.Ok)(hs:SOk C s)(Z:SOk C t)(h:Q (E8 C s t) M):mw ad [C.d,s.d,t.d,.int (C.most:Nat)] M Q E:=by
 have H:=@AK C;rw[Ow];unfold z5;generalize F:ki ad (aM E)=K3;generalize I:(ai au (fK<|aj (jL ad) oW 3<|aa (ac 1)<|aa (ac 0)<|aa (ac 2) af)<|dC<|.int 1)=te;have O:∀{z:Sta}{K:DK},SOk C z->K (di C.names<|C.run z) M->te [ap z.d,ap C.d,ap (.int (C.most:Nat))] M K:=λ{z K} W q=>by
  rw[<- I];exact NH o W q
 simp only[ah,bf,bJ,aJ,bo,al,bp,aa,ac,af,dt,OZ,aY,Pc,PK,Py,Pw];refine⟨bg (by simp),λp J=>bS J ?_⟩
 simp only[aE,b6];unfold bV;refine⟨aK,?_⟩;simp only[ag,Pp,de,if_true,PY];refine O hs ⟨fS (by simp),?_⟩
 unfold bV;refine⟨aK,?_⟩;simp only[ag,Pp,de,if_true];refine O Z ⟨fS (by simp),?_⟩
 unfold bV;refine⟨aK,λp J=>?_⟩;simp only[Pw,Py,Pp,dt,OZ,cu,Mem.upd_same,Mem.upd_del,ar J];rw[<- F];unfold ki;generalize f:kA ad (aM E)=K2;unfold E8 at h;have P:fits 60 [di C.names (C.run s),di C.names (C.run t)]=true:=by simp[fits,Fa]
 simp only[ah,aC,ak,ai,dC,ac,dt,OZ,sJ,ia,aE,dv,P,(show bF 60 D.non=true from rfl),and_self,if_true,QC,List.any_nil,F7,Rj]
 by_cases c:(C.run s).1=true/\(C.run t).1=true
 .rw[if_pos c]at h
  simp only[c.1,c.2,Qk,Bool.or_self,Pr,if_false,aw];rw[<- f];unfold kA;generalize G:kR ad (aM E)=K1;obtain⟨j,R,e⟩:=lN o.mn;obtain⟨xs,Y,X⟩:=wU c.1 e;obtain⟨ys,T,S⟩:=wU c.2 e;rw[H];simp![atI_1,atI_4,dO,R];rw[<- G];unfold kR;simp![atI_0,atI_1,Y,T,X,S];exact⟨PL o.l1 (by decide),bg (by simp),am h⟩
 .rw[if_neg c]at h
  have:(!(C.run s).1||!(C.run t).1)=true:=by
   cases h1:(C.run s).1<;>cases h2:(C.run t).1<;>simp_all
  simp only[this,if_true,av,dC];exact am h
theorem kM(h:Q (E8 C s t) M):frz (E8 C s t) M Q:=by
 unfold E8 at h ⊢
 split at h
 .rename_i c;rw[if_pos c];exact h
 .rename_i c;rw[if_neg c];exact h
end
section
variable{cf:Cf}
theorem FN{n:cE}:iQ cf n (rs++rest) r=((iQ cf n rs r).1,(iQ cf n rs r).2++rest):=by
 cases r with
 |ifr x a b=>simp only[iQ,List.append_assoc]
 |again x a=>
  simp only[iQ]
  split<;>simp
 |_=>rfl
theorem ka:∀(k:Nat)(n:cE)(rs:List Rw)(f:cE),fin cf k n rs=ap f->∀(e:Nat)(rest:List Rw),∃j,e<=j/\fin cf (k+e) n (rs++rest)=fin cf j f rest
 |k,n,[],f,h,e,rest=>by
  rw[dm]at h;cases h;exact⟨k+e,by lia,rfl⟩
 |0,n,r::rs,f,h,e,rest=>by cases h
 |k+1,n,r::rs,f,h,e,rest=>by
  have H:fin cf k (iQ cf n rs r).1 (iQ cf n rs r).2=ap f:=h;obtain⟨j,G,F⟩:=ka k _ _ _ H e rest;refine⟨j,G,?_⟩;have:k+1+e=(k+e)+1:=by lia
  rw[this,Py];show fin cf (k+e) (iQ cf n (rs++rest) r).1 (iQ cf n (rs++rest) r).2=_;rw[FN];exact F
theorem LP{k1 k2:Nat}{n:cE}:iQ ⟨m,ps,k1⟩ n rest r=iQ ⟨m,ps,k2⟩ n rest r:=by cases r<;>rfl
theorem Dg{m:Int}{ps:Xq}{k1 k2:Nat}:∀(k:Nat)(n:cE)(rs:List Rw),fin ⟨m,ps,k1⟩ k n rs=fin ⟨m,ps,k2⟩ k n rs
 |k,n,[]=>by rw[dm,dm]
 |0,n,r::rs=>rfl
 |k+1,n,r::rs=>by
  show fin _ k (iQ ⟨m,ps,k1⟩ n rs r).1 (iQ ⟨m,ps,k1⟩ n rs r).2=fin _ k (iQ ⟨m,ps,k2⟩ n rs r).1 (iQ ⟨m,ps,k2⟩ n rs r).2;rw[LP (k1:=k1) (k2:=k2)];exact Dg k _ _
noncomputable def fz(cf:Cf)(n:cE)(rs:List Rw):cE:=rs.foldl (λn r=>sN n (eB r) (num cf n r)) n
theorem ke:∀(rs:List Rw)(k:Nat)(n:cE),(∀r∈rs,bn r=true)->rs.length<=k->fin cf k n rs=ap (fz cf n rs)
 |[],k,n,_,_=>dm
 |r::rs,0,n,_,h=>by simp at h
 |r::rs,k+1,n,hs,h=>by
  have e:=hs r PJ;have f:iQ cf n rs r=(sN n (eB r) (num cf n r),rs):=by
   cases r with
   |ifr=>cases e
   |again=>cases e
   |_=>rfl
  show fin cf k (iQ cf n rs r).1 (iQ cf n rs r).2=_;rw[f];exact ke rs k _ (λq F=>hs q (Px _ F)) (by simpa using h)
theorem Gz{n:cE}:∀(rs:List Rw),(fz cf n rs).map (·.1)=n.map (·.1):=by
 intro rs
 induction rs generalizing n with
 |nil=>rfl
 |cons r rs ih=>
  show (fz cf (sN n (eB r)<|num cf n r) rs).map (·.1)=_;rw[ih,iH]
theorem Iy{y:Str}:∀(rs:List Rw)(n:cE),(∀r∈rs,eB r∈n.map (·.1))->(∀r∈rs,eB r≠y)->nm (fz cf n rs) y=nm n y
 |[],n,_,_=>rfl
 |r::rs,n,hk,hn=>by
  show nm (fz cf (sN n (eB r)<|num cf n r) rs) y=_;rw[Iy rs _ (λq e=>by rw[iH];exact hk q (Px _ e)) (λq e=>hn q (Px _ e)),gS (hk r PJ),if_neg λz=>hn r PJ z.symm]
end
theorem Dh{p q:Int}(H:0<=p/\p<m)(I:0<=q/\q<m)(h:p≠q):(a+p) % m≠(a+q) % m:=by
 intro z;have e:(a+p-(a+q)) % m=0:=Int.emod_eq_emod_iff_emod_sub_eq_zero.mp z;have f:a+p-(a+q)=p-q:=by lia
 rw[f]at e;have G:=Int.dvd_of_emod_eq_zero e;obtain⟨c,F⟩:=G;have:c=0:=by
  rcases Int.lt_trichotomy c 0 with g|g|g
  .have:=T1 (show c<=-1 by lia) (show (0:Int)<=m by lia)
   rw[Int.mul_neg,TZ]at this;lia
  .exact g
  .have:=T1 (show 1<=c by lia) (show (0:Int)<=m by lia)
   rw[TZ]at this;lia
 subst this;rw[Int.mul_zero]at F;lia
noncomputable def Cse.rw(C:Cse)(rs:List Rw):Cse:={ C with rows:=rs }
def Cse.two(C:Cse)(s t:Sta):Prop:=∃a b,C.mark s=.int a/\C.mark t=.int b/\a≠b
section
variable{t:Sta}{more:List Rw}{n:cE}
theorem y8(o:C.Ok)(e:SOk C z):NOk C.names C.w (C.run z).2.nums:=dk (o.pl e).co C.rows (o.pl e).ok [] 0 ⟨C.names.zip z.nums,[]⟩ (o.pl e).nok
theorem yZ(h:(C.run z).1=true):fin (C.cf z) C.most (C.names.zip z.nums) C.rows=ap (C.run z).2.nums:=by
 have e:=gU (cf:=C.cf z) C.rows [] 0 ⟨C.names.zip z.nums,[]⟩ [];rw[P8]at e;have f:fin (C.cf z) C.most (C.names.zip z.nums) C.rows=vf (C.cf z) (C.run z) []:=e;rw[f];unfold vf;rw[if_pos h,dm]
theorem jZ{n:cE}(h:fin (C.cf z) C.most (C.names.zip z.nums) C.rows=ap n):(C.run z).1=true/\(C.run z).2.nums=n:=by
 have e:=gU (cf:=C.cf z) C.rows [] 0 ⟨C.names.zip z.nums,[]⟩ [];rw[P8]at e;have f:fin (C.cf z) C.most (C.names.zip z.nums) C.rows=vf (C.cf z) (C.run z) []:=e;rw[f]at h;unfold vf at h
 split at h
 .rename_i c
  rw[dm]at h;cases h;exact⟨c,rfl⟩
 .cases h
theorem fb{n:cE}(h:fin (C.cf z) C.most (C.names.zip z.nums) C.rows=ap n):C.mark z=.int (nm n C.mn):=by
 rw[tX,h];rfl
theorem oK(h:fin (C.cf z) (C.most-4) (C.names.zip z.nums) C.rows=ap n)(I:4<=C.most)(F:∀r∈more,bn r=true)(H:more.length<=4):(C.rw (C.rows++more)).mark z=.int (nm (fz (C.cf z) n more) C.mn):=by
 obtain⟨j,G,e⟩:=ka _ _ _ _ h 4 more;have f:C.most-4+4=C.most:=by lia
 rw[f,ke more j n F (by lia)]at e
 exact fb (C:=C.rw (C.rows++more)) e
end
noncomputable def kU(y:Str)(rs:List Rw):List Rw:=rs.filter λr=>decide (eB r≠y)
noncomputable def FM(y:Str)(d:D):Bool:=match d with
 |.tup (_::.str x::_)=>decide (x≠y)
 |_=>true
theorem sY{names:Xr}{m many:Int}{y:Str}:∀{rs:List Rw},bj names m many rs->(aG rs).filter (FM y)=aG (kU y rs)
 |[],_=>rfl
 |r::rs,h=>by
  have f:=sY (y:=y) h.2;obtain⟨w,rest,e⟩:=rY h.1;have F:FM y r.d=decide (eB r≠y):=by rw[e];rfl
  unfold kU at f ⊢;rw[aG,PM,PM,F,f]
  split<;>rfl
theorem xQ{names:Xr}{m many:Int}{p:Rw->Bool}:∀{rs:List Rw},bj names m many rs->bj names m many (rs.filter p)
 |[],_=>trivial
 |r::rs,h=>by
  have e:=xQ (p:=p) h.2;rw[PM]
  split
  .exact⟨h.1,e⟩
  .exact e
theorem Ai:∀{rs:List Rw},bj names m many rs->(∀r∈rs,bn r=true)->∀r∈rs,c_ names m many r:=λh f r e=>gy (iq h e) (f r e)
theorem fW:∀{rs:List Rw},(∀r∈rs,bn r=true)->dj rs=0
 |[],_=>rfl
 |r::rs,h=>by
  have e:=h r PJ;have f:=fW λq F=>h q (Px _ F);cases r with
  |ifr=>exact absurd e PH
  |again=>exact absurd e PH
  |_=>simp[dj,hR,f]
theorem pX:∀r∈flt rs,bn r=true:=λr e=>(Pf.mp e).2
theorem gs:∀r∈kU y (flt rs),bn r=true:=λr e=>pX r (Pf.mp e).1
theorem DP{a b c d e:D}:jR [a,b,c,d,e] bb (ap 3)=[a,b,c]:=rfl
section
variable{t:Sta}
theorem Cse.Ok.rw(o:C.Ok)(e:bj C.names C.w C.many rs)(f:dj rs<=7):(C.rw rs).Ok:=⟨o.m2,o.m1,o.few,o.most,o.nd,o.l0,o.l1,e,f,o.mn⟩
theorem SOk.rw(k:SOk C s):SOk (C.rw rs) s:=⟨k.ln,k.lp,k.rn,k.rp⟩
theorem nj(o:C.Ok)(f:∀r∈rs,bn r=true)(e:rs.length<=C.most):fin ((C.rw rs).cf z) (C.rw rs).most (C.names.zip z.nums) (C.rw rs).rows=ap (fz (C.cf z) (C.names.zip z.nums) rs):=ke (cf:=C.cf z) rs C.most _ f e
theorem Ah(o:C.Ok)(f:∀r∈rs,bn r=true)(e:rs.length<=C.most):(C.rw rs).mark z=.int (nm (fz (C.cf z) (C.names.zip z.nums) rs) C.mn):=fb (C:=C.rw rs) (nj o f e)
theorem E3{n e:cE}(H:fin (C.cf s) C.most (C.names.zip s.nums) C.rows=ap n)(I:fin (C.cf t) C.most (C.names.zip t.nums) C.rows=ap e):E8 C s t=.tup [.int (nm n C.mn),.int (nm e C.mn)]:=by
 obtain⟨h,F⟩:=jZ H;obtain⟨f,G⟩:=jZ I;unfold E8;rw[if_pos ⟨h,f⟩,F,G]
theorem ne_e{w:D}{rest:List D}{K:Bool->Mem->Prop}(q:K (!decide (x=y)) M):ak (ai f_ (ai au (ac 0)<|dC<|.int 1)<|ac 1) [ap (.tup (w::.str x::rest)),ap (.str y)] M K:=by
 simp only[ak,ai,ac,dC,au,f_,dv,bF,aN,aE,atI_1,dt,OZ];exact⟨trivial,trivial,q⟩
theorem ud(o:C.Ok)(hs:SOk C s)(ht:SOk C t)(hy:y∈C.names)(hn:aD C s (.inr y)≠aD C t (.inr y))(hrl:C.rows.length<=1000)(hl:(flt C.rows).length+1<=C.most)(h:∀rs,(C.rw rs).Ok->(C.rw rs).two s t->(∀r∈rs,bn r=true)->rs.length<=(flt C.rows).length+1->Q (C.rw rs).d M):y2 ad [C.d,s.d,t.d,.int (C.most:Nat),.str y] M Q E:=by
 have X:=@AK C;have F:∀rs,(C.rw rs).d=.tup [.int C.w,.tup (C.names.map D.str),.int (C.many:Nat),.tup (aG rs),.str C.mn]:=λ_=>rfl;have G:=wl o.ok;have I:bj C.names C.w C.many (kU y<|flt C.rows):=xQ G;have ln:(kU y<|flt C.rows).length<=(flt C.rows).length:=P2 _ _;have lf:(flt C.rows).length<=C.rows.length:=P2 _ _;have o1:=o.rw I (by rw[fW gs];decide)
 have f1:=nj (z:=s) o gs (show (kU y<|flt C.rows).length<=C.most by lia)
 have f2:=nj (z:=t) o gs (show (kU y<|flt C.rows).length<=C.most by lia)
 have em:=E3 (C:=C.rw (kU y<|flt C.rows)) f1 f2;have rk:∀(z:Sta),SOk C z->∀r∈kU y (flt C.rows),eB r∈(C.names.zip z.nums).map (·.1):=λz J r H=>by
  rw[g4 J.ln.symm];exact wI (Ai I gs r H)
 have ny:∀(z:Sta),SOk C z->nm (fz (C.cf z) (C.names.zip z.nums)<|kU y<|flt C.rows) y=aD C z (.inr y):=λz J=>Iy _ _ (rk z J) λr H=>of_decide_eq_true (Pf.mp H).2;rw[NB];unfold xK;generalize P:ko ad (aM E)=K5;rw[X];simp only[ah,ao,br,aa,af,al,aJ,bo,aj,ai,ac,dC,au,aE,atI_3,dt,OZ,aY,PK,Pc,Py,Pw];refine⟨rfl,aH (λ_ _ q=>oH hrl o.ok q) ?_⟩;simp only[frz,b6,aE,PY];refine bT (FM y) id aK (by rw[bQ];lia) (λx hx K q=>?_) (λx hx _ K q=>q) ?_
 .obtain⟨r,H,rfl⟩:=s_ hx
  obtain⟨w,rest,e⟩:=rY (iq G H);have e2:FM y r.d=decide (eB r≠y):=by rw[e];rfl
  rw[e2]at q;rw[e];exact ne_e (by simpa [aN] using q)
 intro p hp;rw[Qw,sY G];simp only[Mem.upd_same,Mem.upd_del,ar hp,bA,aE,ag,Pp];rw[<- P];unfold ko;generalize Z:k6 ad (aM E)=K4;simp![DP,atI_4];refine⟨bg (by decide),bg (by decide),?_⟩
 rw[<- Z];unfold k6;generalize T:kt ad (aM E)=K3;simp only[ah,ao,al,aj,aa,ac,af,dt,OZ];rw[<- F];refine⟨rfl,aH (λ_ _ q=>eD (C:=C.rw (kU y<|flt C.rows)) o1 hs.rw ht.rw q)<|kM ?_⟩;rw[em];simp only[ag,Pp];rw[<- T];unfold kt;generalize R:kT ad (aM E)=K2;simp![atI_0,atI_1];generalize hfs:fz (C.cf s) (C.names.zip s.nums) (kU y<|flt C.rows)=ns at *;generalize hft:fz (C.cf t) (C.names.zip t.nums) (kU y<|flt C.rows)=nt' at *;have Y:(C.rw<|kU y<|flt C.rows).mn=C.mn:=rfl;rw[Y]
 by_cases c:nm ns C.mn=nm nt' C.mn
 .simp only[if_pos c]
  rw[<- R];unfold kT;generalize W:kE ad (aM E)=K1;rw[F];simp![atI_4];refine⟨bg (by decide),?_⟩
  rw[<- W];unfold kE;simp![DP,atI_4,bQ];refine⟨bg (by decide),bg (by lia),bg (by decide),bg (by decide),am ?_⟩
  have er:aG (kU y<|flt C.rows)++[D.tup [.str "sum",.str C.mn,.str C.mn,.str y]]=aG (kU y (flt C.rows)++[.two "sum" C.mn C.mn y]):=by
   rw[bN];rfl
  rw[er,<- F];have f:∀r∈kU y (flt C.rows)++[.two "sum" C.mn C.mn y],bn r=true:=λr H=>by
   rcases PU.mp H with h|h
   .exact gs r h
   .simp only[RK]at h;subst h;rfl
  have S:bj C.names C.w C.many (kU y (flt C.rows)++[.two "sum" C.mn C.mn y]):=OkRs_append.mpr ⟨I,⟨⟨.inl rfl,o.mn,o.mn,hy⟩,trivial⟩⟩;refine h _ (o.rw S<|by rw[fW f];decide) ?_ f (by rw[Pz,QP];lia)
  have g:∀(z:Sta),SOk C z->(C.rw (kU y (flt C.rows)++[.two "sum" C.mn C.mn y])).mark z=.int ((nm (fz (C.cf z) (C.names.zip z.nums)<|kU y<|flt C.rows) C.mn+aD C z (.inr y)) % C.w):=λz J=>by
   refine (Ah o f<|by rw[Pz,QP];lia).trans ?_
   have e:fz (C.cf z) (C.names.zip z.nums) (kU y (flt C.rows)++[.two "sum" C.mn C.mn y])=sN (fz (C.cf z) (C.names.zip z.nums)<|kU y<|flt C.rows) C.mn (num (C.cf z) (fz (C.cf z) (C.names.zip z.nums)<|kU y<|flt C.rows)<|.two "sum" C.mn C.mn y):=by
    unfold fz;rw[List.foldl_append];rfl
   have ek:C.mn∈(fz (C.cf z) (C.names.zip z.nums)<|kU y<|flt C.rows).map (·.1):=by rw[Gz,g4 J.ln.symm];exact o.mn
   rw[e];rw[gS ek,if_pos rfl];show D.int (yY "sum" _ _ _)=_;unfold yY;rw[if_pos rfl,ny z J];rfl
  refine⟨_,_,g s hs,g t ht,?_⟩;rw[hfs,hft,c];have O:(PX y:aB)∈dU C:=PU.mpr (.inl<|Pq.mpr ⟨y,hy,rfl⟩);exact Dh (bH o hs O) (bH o ht O) hn
 .simp only[if_neg c]
  refine am (h _ o1 ⟨_,_,?_,?_,c⟩ gs<|by lia)
  .exact fb f1
  .exact fb f2
end
theorem oO:∀(n:Nat)(xs:Xr),fits n (xs.map D.str)=true
 |n,[]=>by cases n<;>rfl
 |n,x::xs=>by
  have:=oO n xs;cases n<;>simp[fits,bF,this]
section
variable{t:Sta}
theorem ne_m{h G F f:D}{e:Str}{K:Bool->Mem->Prop}(q:K (!decide (x=e)) M):ak (ai f_ (ac 0)<|ai au (ac 1)<|dC<|.int 4) [ap (.str x),ap (.tup [h,G,F,f,.str e])] M K:=by
 simp only[ak,ai,ac,dC,au,f_,dv,bF,aN,aE,atI_4,dt,OZ];exact⟨trivial,trivial,q⟩
theorem IH{e f:Option D}{xs:Xr}{b:Bool}{K:Bool->Mem->Prop}(H:b=!xs.isEmpty)(q:K b M):ak (ai f_ (ac 2)<|al<|bp af) [e,f,ap (.lst<|xs.map D.str)] M K:=by
 simp only[ak,ai,ac,al,bp,af,dt,OZ];refine⟨bg (by simp),λp F=>bS F ?_⟩
 have G:=oO 59 xs;have h:fits 59 ([]:List D)=true:=rfl;simp only[f_,dv,bF,G,h];refine⟨trivial,trivial,?_⟩;rw[H]at q;cases xs with
 |nil=>exact q
 |cons x xs=>exact q
theorem we{f h:Str}:∀r∈[Rw.take h 0,.two "sum" f f h],bn r=true:=by
 intro r e;simp only[Po,QL,or_false]at e;rcases e with rfl|rfl<;>rfl
theorem qq(o:C.Ok)(hs:SOk C s)(ht:SOk C t)(h0:0<C.many)(hn:aD C s (.inl 0)≠aD C t (.inl 0))(hrl:C.rows.length<=1000)(h4:4<=C.most)(f1:fin (C.cf s) (C.most-4) (C.names.zip s.nums) C.rows=ap n1)(f2:fin (C.cf t) (C.most-4) (C.names.zip t.nums) C.rows=ap n2)(k1:n1.map (·.1)=C.names)(k2:n2.map (·.1)=C.names)(he:nm n1 C.mn=nm n2 C.mn)(h:∀more,(C.rw (C.rows++more)).Ok->(C.rw (C.rows++more)).two s t->(∀r∈more,bn r=true)->more.length<=2->Q (C.rw (C.rows++more)).d M):Fc ad [C.d] M Q E:=by
 have W:=@AK C;have G:∀rs,(C.rw rs).d=.tup [.int C.w,.tup (C.names.map D.str),.int (C.many:Nat),.tup (aG rs),.str C.mn]:=λ_=>rfl;have l1:=o.l1;have J:(Qz 0:aB)∈dU C:=PU.mpr (.inr<|Pq.mpr ⟨0,PR.mpr h0,rfl⟩);have Z:∀more:List Rw,(∀r∈more,bn r=true)->bj C.names C.w C.many more->(C.rw (C.rows++more)).Ok:=λmore e O=>o.rw (OkRs_append.mpr ⟨o.ok,O⟩) (by rw[dP,fW e];have:=o.h;lia)
 rw[u_q6];unfold GG;generalize P:qI ad (aM E)=K4;rw[W];simp![atI_4];refine⟨bg (by decide),bg (by decide),?_⟩
 rw[<- P];unfold qI;generalize R:rf ad (aM E)=K3;simp only[ah,bf,bJ,aJ,bo,ai,ac,dC,au,aE,atI_1,dt,OZ,aY,PK,Pc,Py,Pw,b6,PY];refine bT (λd=>match d with|.str x=>!decide (x=C.mn)|_=>true) id aK (by rw[Pa];lia) (λx H K q=>?_) (λx H _ K q=>q) ?_
 .obtain⟨y,hy,rfl⟩:=Pq.mp H
  exact ne_m q
 intro p hp;have ef:((C.names.map D.str).filter λd=>match d with|.str x=>!decide (x=C.mn)|_=>true)=(C.names.filter λx=>!decide (x=C.mn)).map D.str:=by
  rw[Qc];rfl
 rw[Qw,ef];simp only[cu,Pp,dt,OZ,Mem.upd_same,Mem.upd_del,ar hp];rw[<- R];unfold rf;generalize I:ma ad (aM E)=K2;generalize S:qx ad (aM E)=K1;cases hf:C.names.filter λx=>!decide (x=C.mn) with
 |nil=>
  unfold ah aC;refine IH (b:=cm) rfl ?_;rw[if_neg (by simp),<- I]
  unfold ma;simp![DP,atI_3,atI_4,bQ];refine⟨bg (by lia),bg (by decide),bg (by decide),am ?_⟩
  have T:aG C.rows++[D.tup [.str "take",.str C.mn,.int 0]]=aG (C.rows++[.take C.mn 0]):=by rw[bN];rfl
  rw[T,<- G];have e:∀r∈[Rw.take C.mn 0],bn r=true:=λr Y=>by simp only[RK]at Y;subst Y;rfl
  have g:∀(z:Sta)(n:cE),fin (C.cf z) (C.most-4) (C.names.zip z.nums) C.rows=ap n->n.map (·.1)=C.names->(C.rw (C.rows++[.take C.mn 0])).mark z=.int (aD C z<|.inl 0):=λz n f k=>by
   refine (oK f h4 e<|by simp).trans ?_
   have:nm (fz (C.cf z) n [.take C.mn 0]) C.mn=aD C z (.inl 0):=by
    show nm (sN n C.mn _) C.mn=_;rw[gS (by rw[k];exact o.mn),if_pos rfl];rfl
   rw[this]
  exact h _ (Z _ e ⟨⟨o.mn,RL _,by lia⟩,trivial⟩) ⟨_,_,g s n1 f1 k1,g t n2 f2 k2,hn⟩ e (by simp)
 |cons x0 xs=>
  have H:x0∈C.names.filter λx=>!decide (x=C.mn):=by rw[hf];exact PJ
  have F:=(Pf.mp H).1;have X:¬x0=C.mn:=by simpa using (Pf.mp H).2
  unfold ah aC;refine IH (b:=true) rfl ?_;rw[if_pos rfl,<- S];unfold qx;simp![atI_0,atI_4,Pc];refine⟨bg (by decide),bg (by decide),bg (by decide),?_⟩
  rw[<- I];unfold ma;simp![DP,atI_3,atI_4,bQ];refine⟨bg (by lia),bg (by decide),bg (by decide),am ?_⟩
  have T:aG C.rows++[D.tup [.str "take",.str x0,.int 0],D.tup [.str "sum",.str C.mn,.str C.mn,.str x0]]=aG (C.rows++[.take x0 0,.two "sum" C.mn C.mn x0]):=by rw[bN];rfl
  rw[T,<- G];have g:∀(z:Sta)(n:cE),fin (C.cf z) (C.most-4) (C.names.zip z.nums) C.rows=ap n->n.map (·.1)=C.names->(C.rw (C.rows++[.take x0 0,.two "sum" C.mn C.mn x0])).mark z=.int ((nm n C.mn+aD C z (.inl 0)) % C.w):=λz n f k=>by
   refine (oK f h4 we<|by simp).trans ?_
   have:nm (fz (C.cf z) n [.take x0 0,.two "sum" C.mn C.mn x0]) C.mn=(nm n C.mn+aD C z (.inl 0)) % C.w:=by
    show nm (sN (sN n x0<|aD C z<|.inl 0) C.mn<|yY "sum" (nm (sN n x0<|aD C z<|.inl 0) C.mn) (nm (sN n x0<|aD C z<|.inl 0) x0) C.w) C.mn=_;rw[gS (by rw[iH,k];exact o.mn),if_pos rfl,gS (by rw[k];exact F),gS (by rw[k];exact F),if_neg λz=>X z.symm,if_pos rfl]
    unfold yY;rw[if_pos rfl]
   rw[this]
  refine h _ (Z _ we ⟨⟨F,RL _,by lia⟩,⟨.inl rfl,o.mn,o.mn,F⟩,trivial⟩) ⟨_,_,g s n1 f1 k1,g t n2 f2 k2,?_⟩ we (by simp)
  rw[he];exact Dh (bH o hs J) (bH o ht J) hn
end
theorem uh{p:Rw->Bool}:∀(rs:List Rw),cRs (rs.filter p)<=cRs rs
 |[]=>Pl _
 |r::rs=>by
  have:=uh (p:=p) rs;rw[PM]
  split
  .simp only[cRs];lia
  .simp only[cRs];lia
theorem rN:∀(rs:List Rw),rs.length<=cRs rs
 |[]=>Pl _
 |r::rs=>by
  have:=rN rs;have:1<=cR r:=by cases r<;>simp only[cR]<;>lia
  simp only[cRs,Pu];lia
theorem ss:∀{rs:List Rw},(∀r∈rs,bn r=true)->cRs rs=rs.length
 |[],_=>rfl
 |r::rs,h=>by
  have e:=h r PJ;have f:=ss λq F=>h q (Px _ F);cases r with
  |ifr=>exact absurd e PH
  |again=>exact absurd e PH
  |_=>simp only[cRs,cR,f,Pu];lia
section
variable{t:Sta}{d0 d1 d2 d5 d6 d8 d9 d10:Option D}
def Nb(C:Cse)(s t:Sta)(fi:Nat):Prop:=if fi<C.names.length then ∀y,C.names[fi]?=ap y->aD C s (.inr y)≠aD C t (.inr y) else aD C s (.inl 0)≠aD C t (.inl 0)
theorem Jh(o:C.Ok)(T:SOk C s)(S:SOk C t)(h0:0<C.many)(hc:cRs C.rows<=24)(Y:30<=C.most)(F:Nb C s t fi)(R:M ln=ap (.lst<|t.nums.map D.int))(Z:fin (C.cf s) (C.most-4) (C.names.zip s.nums) C.rows=ap n1)(f2:fin (C.cf t) (C.most-4) (C.names.zip t.nums) C.rows=ap n2)(k1:n1.map (·.1)=C.names)(k2:n2.map (·.1)=C.names)(he:nm n1 C.mn=nm n2 C.mn)(h:∀rs,(C.rw rs).Ok->(C.rw rs).two s t->cRs rs<=26->∀e,D'.nx [d0,d1,d2,ap (C.rw rs).d,ap s.d,ap (.ref ln),d6,ap (.int (fi:Nat)),d8,d9,d10,ap t.d,ap (.int (C.most:Nat)),e] M):
  ∀e,iY ad EE D' [d0,d1,d2,ap C.d,ap s.d,ap (.ref ln),d6,ap (.int (fi:Nat)),d8,d9,d10,ap t.d,ap (.int (C.most:Nat)),e] M:=by
 intro e;have f:=@AK C;have lr:=rN C.rows;have lf:(flt C.rows).length<=C.rows.length:=P2 _ _;have fd:∀{rs:List Rw}{M:Mem}{Q:DK},Q (C.rw rs).d M->frz (C.rw rs).d M Q:=λq=>q;unfold iY;have hl:t.nums.length=C.names.length:=S.ln;simp only[aC,ak,ai,ac,br,aa,af,dt,OZ,bY,aE,R,Pa,y6,jS];unfold Nb at F
 by_cases c:fi<C.names.length
 .rw[if_pos c]at F
  rw[if_pos (by simp;lia)]
  obtain⟨y,P⟩:∃y,C.names[fi]?=ap y:=⟨_,Pb c⟩;have O:y∈C.names:=Qn P;have W:atI (C.names.map D.str) (fi:Int)=ap (.str y):=by rw[bi (by lia),Pn,Ph,P];rfl
  unfold mz;simp only[ao,al,aj,aa,af,ac,ai,dC,dt,OZ,f,au,aE,atI_1,W];rw[<- f];refine⟨rfl,aq λQ' E' J _=>ud o T S O (F y P) (by lia) (by lia) λrs G I H X=>J _ _ (fd ?_)⟩
  simp only[ag,Pp];exact h rs G I (by rw[ss H];lia) _
 .rw[if_neg c]at F
  rw[if_neg (by simp;lia)]
  unfold ms;simp only[ao,al,aj,aa,af,ac,dt,OZ];refine⟨rfl,aq λQ' E' J _=>qq o T S h0 F (by lia) (by lia) Z f2 k1 k2 he λmore G I H X=>J _ _ (fd ?_)⟩
  simp only[ag,Pp];exact h _ G I (by rw[dB,ss H];lia) _
theorem BU(o:C.Ok)(O:SOk C s)(I:SOk C t)(h0:0<C.many)(hc:cRs C.rows<=24)(J:30<=C.most)(hf:Nb C s t fi)(H:M ln=ap (.lst<|t.nums.map D.int))(P:fin (C.cf s) (C.most-4) (C.names.zip s.nums) C.rows=ap n1)(R:fin (C.cf t) (C.most-4) (C.names.zip t.nums) C.rows=ap n2)(h:∀rs,(C.rw rs).Ok->(C.rw rs).two s t->cRs rs<=26->D'.rt (bC (C.rw rs) s t) M):
  iO ad EE D' [d0,d1,d2,ap C.d,ap s.d,ap (.ref ln),d6,ap (.int (fi:Nat)),d8,d9,d10,ap t.d,ap (.int (C.most:Nat)),bb] M:=by
 obtain⟨j1,_,F⟩:=ka _ _ _ _ P 4 [];obtain⟨j2,_,G⟩:=ka _ _ _ _ R 4 [];have X:C.most-4+4=C.most:=by lia
 rw[X,P8,dm]at F G;have Y:=E3 F G;have S:=jZ F;have Z:=jZ G;have W:n1.map (·.1)=C.names:=by rw[<- S.2];exact(y8 o O).keys
 have T:n2.map (·.1)=C.names:=by rw[<- Z.2];exact(y8 o I).keys
 have e:∀rs,(C.rw rs).Ok->(C.rw rs).two s t->cRs rs<=26->∀f,ik ad EE D' [d0,d1,d2,ap (C.rw rs).d,ap s.d,ap (.ref ln),d6,ap (.int (fi:Nat)),d8,d9,d10,ap t.d,ap (.int (C.most:Nat)),f] M:=λrs a b c f=>by
  unfold ik;simp only[av,aP,aa,ac,af,dt,OZ];exact⟨bg (by simp),h rs a b c⟩
 unfold iO;simp only[ah,ao,al,aj,aa,af,ac,dt,OZ];refine⟨rfl,aH (λ_ _ q=>eD o O I q)<|kM ?_⟩;rw[Y];simp only[ag,Pp];unfold mF;simp only[ah,aC,ak,ai,ac,dC,dt,OZ,au,aE,atI_0,atI_1,bG,dv,bF,aN];refine⟨trivial,trivial,?_⟩
 by_cases c:nm n1 C.mn=nm n2 C.mn
 .rw[if_pos (by simpa using c)]
  exact Jh o O I h0 hc J hf H P R W T c e _
 .rw[if_neg (by simpa using c)]
  simp only[aw];exact e C.rows o ⟨_,_,fb F,fb G,c⟩ (by lia) _
theorem Kt(o:C.Ok)(F:SOk C s)(f:SOk C t)(T:0<C.many)(X:cRs C.rows<=24)(H:30<=C.most)(W:Nb C s t fi)(G:M ln=ap (.lst<|t.nums.map D.int))(h:∀rs,(C.rw rs).Ok->(C.rw rs).two s t->cRs rs<=26->D'.rt (bC (C.rw rs) s t) M):
  iD ad EE D' [d0,d1,d2,ap C.d,ap s.d,ap (.ref ln),d6,ap (.int (fi:Nat)),d8,d9,d10,ap t.d,ap (.int (C.most:Nat)),bb] M:=by
 have I:=@AK C;have lr:=rN C.rows;have lf:(flt C.rows).length<=C.rows.length:=P2 _ _;generalize e:({ C with most:=C.most-4 }:Cse)=C4;have Z:C4.Ok:=by subst e;exact⟨o.m2,o.m1,o.few,by show C.most-4<=_;have:=o.most;lia,o.nd,o.l0,o.l1,o.ok,o.h,o.mn⟩
 have Y:SOk C4 s:=by subst e;exact⟨F.ln,F.lp,F.rn,F.rp⟩
 have t4:SOk C4 t:=by subst e;exact⟨f.ln,f.lp,f.rn,f.rp⟩
 have O:C4.d=C.d:=by subst e;rfl
 have em:((C.most:Nat):Int)-4=(C4.most:Nat):=by subst e;show _=((C.most-4:Nat):Int);lia
 have f4:∀z,fin (C4.cf z) C4.most (C4.names.zip z.nums) C4.rows=fin (C.cf z) (C.most-4) (C.names.zip z.nums) C.rows:=λz=>by
  subst e;exact Dg (k1:=C.most-4) (k2:=C.most) (C.most-4) _ _
 have J:=wl o.ok;have of:=o.rw J (by rw[fW pX];decide)
 unfold iD;simp only[ah,aC,ak,ai,al,aj,aa,af,ac,dC,dt,OZ,jX,jS,em];rw[<- O];refine⟨rfl,aH (λ_ _ q=>eD Z Y t4 q)<|kM ?_⟩;rw[O];unfold E8
 by_cases c:(C4.run s).1=true/\(C4.run t).1=true
 .rw[if_pos c]
  have R:=yZ c.1;have S:=yZ c.2;rw[f4]at R S;simp only[fP,fL,Pr,if_false,aw];exact BU o F f T X H W G R S h
 .rw[if_neg c]
  simp only[fP,fL,if_true];unfold qc;rw[I];simp only[ao,ai,al,xJ,b_,dG,aP,aa,af,aj,ac,dC,dt,OZ,Me,DP,frz,au,aE,atI_3,atI_4];refine⟨rfl,aH (λ_ _ q=>oH (by lia) o.ok q) ?_⟩
  simp only[ba,ag,Pp];refine⟨bg (by simp),bg (by simp),?_⟩
  have eq:D.tup [.int C.w,.tup (C.names.map D.str),.int (C.many:Nat),.tup (aG<|flt C.rows),.str C.mn]=(C.rw<|flt C.rows).d:=rfl;simp only[Py,Pw,eq];have P:∀z,fin ((C.rw<|flt C.rows).cf z) ((C.rw<|flt C.rows).most-4) (C.names.zip z.nums) (flt C.rows)=ap (fz (C.cf z) (C.names.zip z.nums)<|flt C.rows):=λz=>ke (cf:=C.cf z) _ _ _ pX (by show _<=C.most-4;lia)
  exact BU (C:=C.rw (flt C.rows)) of F.rw f.rw T (PL (uh C.rows) X) H W G (P s) (P t) h
end
noncomputable def gA(xs:Xq)(i:Nat):Int:=(xs[i]?).getD 0
noncomputable def Cq(xs ys:Xq):Nat:=((PD xs.length).filter λi=>decide (gA xs i≠gA ys i)).length
theorem uN{p q:Nat->Bool}{j:Nat}:∀(l:List Nat),l.Nodup->(∀i∈l,i≠j->p i=true->q i=true)->(l.filter p).length<=(l.filter q).length+if j∈l then 1 else 0
 |[],_,_=>by simp
 |i::l,nd,h=>by
  have f:=QI.mp nd;have G:=uN (p:=p) (q:=q) (j:=j) l f.2 λk I=>h k (Px _ I)
  by_cases e:i=j
  .subst e
   rw[if_neg f.1]at G;rw[if_pos PJ,PM,PM]
   split<;>split<;>(try simp only[Pu])<;>lia
  .have J:=h i PJ e
   have H:(if j∈i::l then 1 else 0)=if j∈l then 1 else 0:=by
    have:j∈i::l↔j∈l:=by simp[Po,P0 e,eq_comm,e]
    simp only[this]
   rw[H,PM,PM]
   by_cases F:p i=true
   .rw[if_pos F,if_pos (J F),Pu,Pu];lia
   .rw[if_neg F]
    split
    .rw[Pu];lia
    .exact G
theorem mW(f:j<xs.length):gA (xs.set j v) i=if i=j then v else gA xs i:=by
 unfold gA;rw[SJ]
 by_cases e:j=i
 .subst e;rw[if_pos rfl,if_pos f,if_pos rfl];rfl
 .rw[if_neg e,if_neg λz=>e z.symm]
theorem kg{ys:Xq}(h:j<ys.length):Cq xs (ys.set j v)<=Cq xs ys+1:=by
 unfold Cq;have:=uN (p:=λi=>decide (gA xs i≠gA (ys.set j v) i)) (q:=λi=>decide (gA xs i≠gA ys i)) (j:=j) (PD xs.length) TL λi _ e f=>by
  rw[mW h,if_neg e]at f;exact f
 split at this<;>lia
theorem iW:Cq xs xs=0:=by
 unfold Cq;rw[Rc.mpr λi _=>by simp];rfl
theorem su(h:i<xs.length):gA xs i∈xs:=by
 unfold gA;rw[Pb h];exact Q5 h
theorem zc(h:i<xs.length):atI (xs.map D.int) (i:Int)=ap (.int<|gA xs i):=by
 rw[bi (by lia),Pn,Ph]
 unfold gA;rw[Pb h];rfl
structure Cm(k:Pt)(ln lp:ca)(ns ps:Xq)(M0 M:Mem):Prop where
 has:Has k M
 a:ln≠k.p/\ln≠k.q
 b:lp≠k.p/\lp≠k.q
 ab:ln≠lp
 en:M ln=ap (.lst<|ns.map D.int)
 ep:M lp=ap (.lst<|ps.map D.int)
 n0:M0 ln=bb
 p0:M0 lp=bb
 keep:∀b o,b≠k.p->b≠k.q->M0 b=ap o->M b=ap o
structure Df(m:Int)(nums pieces ns ps:Xq)(fi cnt:Nat):Prop where
 ln:ns.length=nums.length
 lp:ps.length=pieces.length
 rn:∀v∈ns,0<=v/\v<m
 rp:∀v∈ps,0<=v/\v<m
 few:Cq nums ns+Cq pieces ps<=cnt
 fi:if fi<nums.length then gA nums fi≠gA ns fi else gA pieces 0≠gA ps 0
section
variable{k:Pt}{pieces:Xq}{cnt:Nat}
theorem Cm.dr(c:Cm k ln lp ns ps M0 M)(d:Dr k M M'):Cm k ln lp ns ps M0 M':=
 ⟨d.1,c.a,c.b,c.ab,by rw[d.2 ln c.a.1 c.a.2];exact c.en,by rw[d.2 lp c.b.1 c.b.2];exact c.ep,c.n0,c.p0,λb o f h e=>by rw[d.2 b f h];exact c.keep b o f h e⟩
theorem gD:(xs.map D.int).set j (.int v)=(xs.set j v).map D.int:=by rw[List.map_set]
theorem Cm.sN(c:Cm k ln lp ns ps M0 M):Cm k ln lp (ns.set j v) ps M0 (M.upd ln<|.lst<|(ns.set j v).map D.int):=
 ⟨c.has.upd c.a,c.a,c.b,c.ab,Mem.upd_same,by rw[ae c.ab.symm];exact c.ep,c.n0,c.p0,λb o f h e=>by rw[ae (Mem.ne e c.n0)];exact c.keep b o f h e⟩
theorem Cm.sP(c:Cm k ln lp ns ps M0 M):Cm k ln lp ns (ps.set j v) M0 (M.upd lp<|.lst<|(ps.set j v).map D.int):=
 ⟨c.has.upd c.b,c.a,c.b,c.ab,by rw[ae c.ab];exact c.en,Mem.upd_same,c.n0,c.p0,λb o f h e=>by rw[ae (Mem.ne e c.p0)];exact c.keep b o f h e⟩
theorem kY(h:∀v∈xs,0<=v/\v<m)(f:0<=v/\v<m):∀w∈xs.set j v,0<=w/\w<m:=λw e=>by
 rcases Ur e with h1|h1
 .exact h w h1
 .subst h1;exact f
theorem Df.sN(d:Df m nums pieces ns ps fi cnt)(F:j<nums.length)(h:0<=v/\v<m)(G:v≠gA nums j):Df m nums pieces (ns.set j v) ps fi (cnt+1):=by
 have f:j<ns.length:=by rw[d.ln];exact F
 refine⟨by rw[QS];exact d.ln,d.lp,kY d.rn h,d.rp,?_,?_⟩
 .have:=kg (xs:=nums) (v:=v) f
  have:=d.few;lia
 .have:=d.fi
  split at this
  .rename_i c
   rw[if_pos c,mW f]
   split
   .rename_i e;rw[e];exact λz=>G z.symm
   .exact this
  .rename_i c;rw[if_neg c];exact this
theorem Df.sP(d:Df m nums pieces ns ps fi cnt)(F:j<pieces.length)(h:0<=v/\v<m)(G:v≠gA pieces j):Df m nums pieces ns (ps.set j v) fi (cnt+1):=by
 have f:j<ps.length:=by rw[d.lp];exact F
 refine⟨d.ln,by rw[QS];exact d.lp,d.rn,kY d.rp h,?_,?_⟩
 .have:=kg (xs:=pieces) (v:=v) f
  have:=d.few;lia
 .have:=d.fi
  split at this
  .rename_i c;rw[if_pos c];exact this
  .rename_i c
   rw[if_neg c,mW f]
   split
   .rename_i e;rw[e];exact λz=>G z.symm
   .exact this
end
section
variable{k:Pt}{pieces:Xq}{cnt:Nat}{d1 d2 d7 d9 d10 d11 d12 d13:Option D}{pl:List D}{sm:Int}
theorem OO(c:Cm k ln lp ns ps M0 M)(d:Df m nums pieces ns ps fi cnt)(Y:2<=m)(X:m<=997)(rn:∀v∈nums,0<=v/\v<m)(rp:∀v∈pieces,0<=v/\v<m)(W:atI pl 0=ap (.int m))(s0:0<sm)(s1:sm<=(nums.length:Int)+pieces.length)(hb:nums.length+pieces.length<=1000)(h:∀O I M' J,Cm k ln lp O I M0 M'->Df m nums pieces O I fi (cnt+1)->D'.nx [ap (.ref k.p),d1,d2,ap (.tup pl),ap (bB nums pieces),ap (.ref ln),ap (.ref lp),d7,ap (.int sm),d9,J,d11,d12,d13] M'):
  kI ad EE D' [ap (.ref k.p),d1,d2,ap (.tup pl),ap (bB nums pieces),ap (.ref ln),ap (.ref lp),d7,ap (.int sm),d9,d10,d11,d12,d13] M:=by
 have f:∀{v:Int}{M:Mem}{Q:DK},Q (.int v) M->frz (.int v) M Q:=λz=>z;unfold kI;simp only[ah,ao,al,aj,aa,af,ac,dt,OZ];refine⟨rfl,aO c.has s0 (by lia) λr M1 a1 b1 dr=>f ?_⟩
 have G:=c.dr dr;simp only[ag,Pp];unfold rG;simp only[aC,ak,ai,br,aa,af,ac,dt,OZ,bY,aE,G.en,Pa,y6,jS,d.ln];obtain⟨j,Z⟩:∃j:Nat,r=(j:Int):=⟨r.toNat,by lia⟩
 subst Z
 by_cases q:j<nums.length
 .rw[if_pos (by simp;lia)]
  unfold rV;simp only[ao,al,aj,aa,af,ac,ai,dC,bB,dt,OZ,au,aE,W,atI_0,zc q];refine⟨rfl,aq λQ' E' S _=>fH G.has Y X (rn _<|su q) λw M2 R P T F=>S _ _ (f ?_)⟩;have H:=G.dr F;simp only[cO,ac,dt,OZ,pE,H.en,Pa,hV (show (0:Int)<=(j:Int) by lia) (show (j:Int)<(ns.length:Nat) by rw[d.ln];lia),Pn,gD]
  exact h _ _ _ _ H.sN (d.sN q ⟨R,P⟩ T)
 .rw[if_neg (by simp;lia)]
  unfold pH;simp only[ah,ao,ai,br,aa,af,ac,dt,OZ,bY,aE,G.en,Pa,jX,jS,d.ln,ag,Pp];obtain⟨i,hi,e⟩:∃i:Nat,(j:Int)-(nums.length:Int)=(i:Int)/\i<pieces.length:=⟨j-nums.length,by lia,by lia⟩
  rw[hi];unfold pV;simp only[ao,al,aj,aa,af,ac,ai,dC,bB,dt,OZ,au,aE,W,atI_0,atI_1,zc e];refine⟨rfl,aq λQ' E' S _=>fH G.has Y X (rp _<|su e) λw M2 R P T F=>S _ _ (f ?_)⟩;have H:=G.dr F;simp only[cO,ac,dt,OZ,pE,H.ep,Pa,hV (show (0:Int)<=(i:Int) by lia) (show (i:Int)<(ps.length:Nat) by rw[d.lp];lia),Pn,gD]
  exact h _ _ _ _ H.sP (d.sP e ⟨R,P⟩ T)
end
mutual
theorem Lp{names:Xr}{m a b:Int}(h:a<=b):∀(r:Rw),dA names m a r->dA names m b r
 |.put x k,h1=>h1
 |.take x i,h1=>⟨h1.1,h1.2.1,Int.lt_of_lt_of_le h1.2.2 h⟩
 |.pick x y,h1=>⟨h1.1,h1.2.1,Int.lt_of_lt_of_le h1.2.2 h⟩
 |.two w x y z,h1=>h1
 |.ifr x c d,h1=>by
  simp only[dA]at h1 ⊢;exact⟨h1.1,j5 h c h1.2.1,j5 h d h1.2.2⟩
 |.again x c,h1=>by
  simp only[dA]at h1 ⊢;exact⟨h1.1,j5 h c h1.2⟩
theorem j5{names:Xr}{m a b:Int}(h:a<=b):∀(rs:List Rw),bj names m a rs->bj names m b rs
 |[],_=>trivial
 |r::rs,h1=>⟨Lp h r h1.1,j5 h rs h1.2⟩
end
theorem FZ(l:Xr)(p:aB->Bool):((l.map PX).filter p).length=((PD l.length).filter λi=>p (.inr<|(l[i]?).getD ("":Str))).length:=by
 have e:l=(PD l.length).map λi=>(l[i]?).getD ("":Str):=List.ext_getElem (by simp) λi f h=>by rw[RX,List.getElem_range,Pb f];rfl
 conv=>lhs;rw[e]
 rw[PB,Qc,Pa];rfl
structure CaOk(C:Cse)(s t:Sta)(few:Nat):Prop where
 o:C.Ok
 hs:SOk C s
 ht:SOk C t
 two:C.two s t
 un:(aS C s t).length<=few
 h0:0<C.many
 h1:C.many<=40
 cn:cRs C.rows<=26
 one:∀x∈C.names,Er x
section
variable{t:Sta}
theorem rg(o:C.Ok)(e:SOk C s)(h:C.names[i]?=ap y):aD C s (.inr y)=gA s.nums i:=by
 have:=jk o.nd e.ln.symm h;unfold gA;rw[this];rfl
theorem Em(o:C.Ok)(h:SOk C s)(F:SOk C t):(aS C s t).length=Cq s.nums t.nums+Cq s.pieces t.pieces:=by
 unfold aS dU;rw[Sq,Pz,FZ];congr 1
 .unfold Cq
  rw[h.ln];congr 1;refine QH λi f=>?_;have f:=PR.mp f;have e:C.names[i]?=ap ((C.names[i]?).getD ("":Str)):=by rw[Pb f];rfl
  rw[rg o h e,rg o F e]
 .unfold Cq
  rw[Qc,Pa,h.lp];rfl
theorem IY:aS (C.rw rs) s t=aS C s t:=rfl
end
section
variable{k:Pt}
theorem cut2{a b c d e:D}:jR [a,b,c,d,e] bb (ap 2)=[a,b]:=rfl
theorem MV{a b c d e:D}:jR [a,b,c,d,e] (ap 3) bb=[d,e]:=rfl
theorem zK{few:Nat}(f1:1<=few)(f5:few<=5)(hp:Has k M)(h:∀C s t M',CaOk C s t few->Kq k M M'->Q (bC C s t) M'):zA ad [.ref k.p,.int 24,.int (few:Nat)] M Q E:=by
 have ft:∀{xs:List D}{M:Mem}{Q:DK},Q (.tup xs) M->frz (.tup xs) M Q:=λz=>z;have I:∀{v:Int}{M:Mem}{Q:DK},Q (.int v) M->frz (.int v) M Q:=λz=>z;rw[MY];unfold xT;simp only[ah,ao,al,aj,aa,af,ac,dt,OZ];refine⟨rfl,aq λQ' E' S _=>zE (v:=24) (by decide) (by decide) hp λm many names rows mk M1 pl hc q1=>S _ _ (ft ?_)⟩
 simp only[ag,Pp];unfold mP;have t4:=pl.t.k0;have t5:=pl.t.k1;have m2:=pl.t.m2;have m1:=pl.t.m1;have l0:=pl.t.n0;have l1:=pl.t.n1;obtain⟨f,hmn,mn1,mn40,mle⟩:∃f:Nat,(if many>1 then many else 1)=(f:Int)/\1<=f/\f<=40/\many<=(f:Int):=by
  refine⟨(if many>1 then many else 1).toNat,?_,?_,?_,?_⟩<;>split<;>lia
 simp only[ah,ao,ai,al,xJ,b_,dG,aP,aa,af,br,ac,dC,iZ,dt,OZ,Me,cut2,MV,frz,au,aE,atI_2,EJ,hmn,ba,Pu,Qs];refine⟨bg (by simp),bg (by simp),bg (by simp),?_⟩
 simp only[Py,Pw,ag,Pp];have pl':PlG m (f:Int) names rows mk:=⟨⟨pl.t.m2,pl.t.m1,pl.t.n0,pl.t.n1,by lia,by lia⟩,pl.nd,j5 mle _ pl.ok,pl.h,pl.cn,pl.l,pl.ln,pl.mkm,pl.one⟩
 have T:D.tup [.int m,.tup (names.map D.str),.int (f:Int),.tup (aG rows),.str mk]=iZ m (f:Int) names rows mk:=rfl;rw[T];unfold m9;simp only[ah,ao,al,aj,aa,af,ac,dt,OZ];refine⟨rfl,aq λQ' E' S _=>wT q1.1 pl' λnums pieces M2 ln lp rn rp q2=>S _ _ (ft ?_)⟩;simp only[ag,Pp];unfold lj;simp only[ah,ao,br,ai,aa,af,ac,dC,bB,dt,OZ,au,aE,atI_0,fk];intro P han;simp only[ag,Pp];unfold me;simp only[ah,ao,br,ai,aa,af,ac,dC,dt,OZ,au,aE,atI_1,fk];intro J G;simp only[ag,Pp];have Z:P≠J:=Mem.ne Mem.upd_same G;rw[ae Z.symm]at G;have hlN:nums.length=names.length:=ln;have hlP:pieces.length=f:=by lia
 have c0:Cm k P J nums pieces M2 ((M2.upd P<|.lst<|nums.map D.int).upd J<|.lst<|pieces.map D.int):=by
  have a:=q2.1.nep han;have b:=q2.1.nep G;exact⟨(q2.1.upd a).upd b,a,b,Z,by rw[ae Z,Mem.upd_same],Mem.upd_same,han,G,λb' o _ _ e=>by rw[ae (Mem.ne e G),ae (Mem.ne e han)];exact e⟩
 generalize (M2.upd P<|.lst<|nums.map D.int).upd J (.lst<|pieces.map D.int)=M3 at c0 ⊢;have es:D.tup [.tup (nums.map D.int),.tup (pieces.map D.int)]=bB nums pieces:=rfl;rw[es];unfold ng;simp only[ah,ao,al,aj,ai,br,aa,af,ac,dC,dt,OZ,bY,aE,c0.en,Pa,iw];refine⟨.inl ⟨by decide,by decide⟩,rfl,aO c0.has (by lia) (by lia) λr M4 a4 b4 d4=>I ?_⟩
 have R:=c0.dr d4;obtain⟨fi,hfi⟩:∃fi:Nat,r=(fi:Int):=⟨r.toNat,by lia⟩
 subst hfi;simp only[ag,Pp];unfold mh;simp only[ah,ao,br,aa,af,ac,dt,OZ,bY,aE,R.en,Pa,ag,Pp];unfold nD
 have rest:∀(ns ps:Xq)(M5:Mem)(sm:Int),Cm k P J ns ps M2 M5->Df m nums pieces ns ps fi 1->0<sm->sm<=(nums.length:Int)+pieces.length->
   (iV ad<|aM E) { nx:=λx M'=>drp Q D.non M',rt:=drp Q } [ap (.ref k.p),ap (.int 24),ap (.int (few:Nat)),ap (iZ m (f:Int) names rows mk),ap (bB nums pieces),ap (.ref P),ap (.ref J),ap (.int (fi:Nat)),ap (.int sm),bb,bb,bb,bb,bb] M5:=by
  intro ns ps M5 sm c5 d5 s0 s1;unfold iV;simp only[ah,cB,cM,aa,af,ai,ac,dC,dt,OZ,jX,jS];refine⟨by lia,by lia,?_⟩
  refine cI (λxs U N=>∃(ns ps:Xq)(c9 Y:Option D)(j:Nat),xs.length+j=few-1/\U=[ap (.ref k.p),ap (.int 24),ap (.int (few:Nat)),ap (iZ m (f:Int) names rows mk),ap (bB nums pieces),ap (.ref P),ap (.ref J),ap (.int (fi:Nat)),ap (.int sm),c9,Y,bb,bb,bb]/\Cm k P J ns ps M2 N/\Df m nums pieces ns ps fi (1+j))
   (λ_ _ _ _=>aK) ?_ ?_ _ _ _ ⟨ns,ps,bb,bb,0,by simp[cj],rfl,c5,d5⟩
  .rintro U N ⟨ns,ps,c9,Y,j,e1,rfl,H,O⟩
   have ej:1+j=few:=by simp at e1;lia
   rw[ej]at O;unfold lE;simp only[ah,ao,aP,br,aa,af,ac,dt,OZ,bA,eY,aE,H.en,H.ep];refine⟨bg (by simp),?_⟩
   have et:D.tup [.tup (ns.map D.int),.tup (ps.map D.int)]=(Sta.mk ns ps).d:=rfl;simp only[ag,Pp,et];unfold mD;simp only[ah,ao,al,aj,ai,aa,af,ac,dC,dt,OZ];refine⟨rfl,aO H.has (by decide) (by decide) λr2 M7 a7 b7 d7=>I ?_⟩
   have c7:=H.dr d7;simp only[ba,ag,Pp];obtain⟨mo,hmo,mo1,mo2⟩:∃mo:Nat,30+r2=(mo:Int)/\30<=mo/\mo<50:=⟨(30+r2).toNat,by lia,by lia,by lia⟩
   rw[hmo];generalize F:(⟨m,f,names,rows,mk,mo⟩:Cse)=C;have o:C.Ok:=by subst F;exact⟨m2,m1,by show f<=100;lia,by show mo<=10000;lia,pl.nd,by show 0<names.length;lia,by show names.length<=100;lia,pl'.ok,PL pl.h (by decide),pl.mkm⟩
   have hs:SOk C ⟨nums,pieces⟩:=by subst F;exact⟨hlN,hlP,rn,rp⟩
   have ht:SOk C ⟨ns,ps⟩:=by subst F;exact⟨O.ln.trans hlN,O.lp.trans hlP,O.rn,O.rp⟩
   have eN:C.names.length=nums.length:=by subst F;exact hlN.symm
   have ed:iZ m (f:Int) names rows mk=C.d:=by subst F;rfl
   have es2:bB nums pieces=(Sta.mk nums pieces).d:=rfl;have em:(mo:Nat)=C.most:=by subst F;rfl
   rw[ed,es2,em];refine Kt (s:=⟨nums,pieces⟩) (t:=⟨ns,ps⟩) o hs ht (by subst F;show 0<f;lia) (by subst F;show cRs rows<=24;lia) (by rw[<- em];lia) ?_ c7.en λrs o1 tw cr=>am (h _ _ _ _ ⟨o1,hs.rw,ht.rw,tw,?_,by subst F;show 0<f;lia,by subst F;exact mn40,cr,by subst F;exact pl.one⟩ ?_)
   .unfold Nb
    rw[eN];have hd:=O.fi
    split
    .rename_i c
     rw[if_pos c]at hd;intro y hy;rw[rg o hs hy,rg o ht hy];exact hd
    .rename_i c
     rw[if_neg c]at hd;exact hd
   .rw[IY,Em o hs ht]
    exact O.few
   .exact q1.trans (q2.trans ⟨c7.has,c7.keep⟩)
  .rintro x xs U N ⟨ns,ps,c9,Y,j,e1,rfl,H,O⟩ D' hD _ _ _
   simp only[Pu]at e1;simp only[ag,Pp];refine OO H O m2 m1 rn rp (by simp) s0 s1 (by lia) λns' ps' M' d10' c' d'=>hD _ _ ⟨ns',ps',_,_,j+1,by lia,rfl,c',?_⟩
   rw[<- Nat.add_assoc];exact d'
 simp only[ah,aC,ak,ai,br,aa,af,ac,dt,OZ,bY,aE,R.en,Pa,y6,jS];have d0:∀{j:Nat}{v:Int}(hj:j<nums.length),fi=j->0<=v->v<m->v≠gA nums j->Df m nums pieces (nums.set j v) pieces fi 1:=λ{j v} hj e v0 v1 vn=>by
  subst e;refine⟨QS,rfl,kY rn ⟨v0,v1⟩,rp,?_,?_⟩
  .have h1:=kg (xs:=nums) (ys:=nums) (v:=v) hj
   have h2:=iW (xs:=nums);have h3:=iW (xs:=pieces);lia
  .rw[if_pos hj,mW hj,if_pos rfl];exact λz=>vn z.symm
 by_cases q:fi<nums.length
 .rw[if_pos (by simp;lia)]
  unfold qp;have W:atI [D.int m,.tup (names.map D.str),.int (f:Int),.tup (aG rows),.str mk] 0=ap (.int m):=by simp
  simp only[ao,al,aj,aa,af,ac,ai,dC,iZ,dt,OZ,au,aE,W,R.en,zc q];refine⟨rfl,aq λQ' E' S _=>fH R.has m2 m1 (rn _<|su q) λw M5 w0 w1 wn X=>S _ _ (I ?_)⟩;have c5:=R.dr X;simp only[cO,ac,dt,OZ,pE,c5.en,Pa,hV (show (0:Int)<=(fi:Int) by lia) (show (fi:Int)<(nums.length:Nat) by lia),Pn,gD]
  rw[T];exact rest _ _ _ _ c5.sN (d0 q rfl w0 w1 wn) (by lia) (by lia)
 .rw[if_neg (by simp;lia)]
  unfold pJ;have hP:0<pieces.length:=by lia
  have W:atI [D.int m,.tup (names.map D.str),.int (f:Int),.tup (aG rows),.str mk] 0=ap (.int m):=by simp
  have ga0:=zc (xs:=pieces) hP;have ga0':atI (pieces.map D.int) 0=ap (.int<|gA pieces 0):=ga0;simp only[ah,ao,al,aj,aa,af,ac,ai,dC,iZ,dt,OZ,au,aE,W,R.ep,ga0'];refine⟨rfl,aq λQ' E' S _=>fH R.has m2 m1 (rp _<|su hP) λw M5 w0 w1 wn X=>S _ _ (I ?_)⟩;have c5:=R.dr X;have ix0':vh pieces.length 0=ap 0:=hV (by decide) (by lia)
  simp only[cO,ac,dC,dt,OZ,pE,c5.ep,Pa,ix0',gD];have H:=c5.sP (j:=0) (v:=w);generalize M5.upd J (.lst<|(pieces.set 0 w).map D.int)=M6 at H ⊢;unfold qY;simp only[ao,al,ai,br,aa,af,ac,dC,dt,OZ,bY,aE,H.ep,Pa,QS,iw,CJ,ba,frz,ag,Pp];refine⟨.inl ⟨by decide,by decide⟩,?_⟩
  rw[T];refine rest _ _ _ _ H ⟨rfl,QS,rn,kY rp ⟨w0,w1⟩,?_,?_⟩ (by split<;>lia) (by split<;>lia)
  .have h1:=kg (xs:=pieces) (ys:=pieces) (v:=w) hP
   have h2:=iW (xs:=nums);have h3:=iW (xs:=pieces);lia
  .rw[if_neg q,mW hP,if_pos rfl];exact λz=>wn z.symm
theorem AO{t:Sta}(h:Q (bC C s t) M):frz (bC C s t) M Q:=h
end
noncomputable def L4(us:List aB)(t:Tr)(B:Nat):D:=HI (λq=>B.testBit (us.idxOf q)) t
structure Cms(x:Out)(B:Nat):Prop where
 f:∀i,x.f.testBit i=true->B.testBit i=true
 s:∀i,x.s.testBit i=true->B.testBit i=cm
section
variable{S F:Nat}{x:Out}
theorem oJ:(F ||| bitK us q).testBit i=(F.testBit i||decide (us.idxOf q=i)):=by rw[RU,wf]
theorem Hw{t1 t2:Tr}:L4 us (.a q t1 t2) B=if B.testBit (us.idxOf q)=true then L4 us t2 B else L4 us t1 B:=rfl
theorem lX:∀(t:Tr)(S F:Nat),(∀i,F.testBit i=true->B.testBit i=true)->(∀i,S.testBit i=true->B.testBit i=cm)->∃x∈fN a b us t S F,Cms x B/\x.v=jh a b (L4 us t B)
 |.e m,S,F,hF,hS=>⟨_,RK.mpr rfl,⟨hF,hS⟩,rfl⟩
 |.a q t1 t2,S,F,hF,hS=>by
  rw[Hw]
  by_cases c:B.testBit (us.idxOf q)=true
  .rw[if_pos c]
   obtain⟨x,f,h⟩:=lX t2 S (F ||| bitK us q) (λi hi=>by
    rw[oJ,Ta]at hi;rcases hi with hi|hi
    .exact hF i hi
    .rw[<- of_decide_eq_true hi];exact c) hS
   exact⟨x,PU.mpr (.inl f),h⟩
  .rw[if_neg c]
   obtain⟨x,f,h⟩:=lX t1 (S ||| bitK us q) F hF (λi hi=>by
    rw[oJ,Ta]at hi;rcases hi with hi|hi
    .exact hS i hi
    .rw[<- of_decide_eq_true hi];exact QX.mpr c)
   exact⟨x,PU.mpr (.inr f),h⟩
theorem kd:∀(t:Tr)(S F:Nat),x∈fN a b us t S F->(∀i,F.testBit i=true->x.f.testBit i=true)/\∀i,S.testBit i=true->x.s.testBit i=true
 |.e m,S,F,h=>by
  have:x=⟨jh a b m,S,F⟩:=by simpa [fN] using h
  subst this;exact⟨λ_ h=>h,λ_ h=>h⟩
 |.a q t1 t2,S,F,h=>by
  rcases PU.mp h with h1|h1
  .obtain⟨p,r⟩:=kd t2 _ _ h1
   exact⟨λi G=>p i (by rw[oJ,G];rfl),r⟩
  .obtain⟨p,r⟩:=kd t1 _ _ h1
   exact⟨p,λi G=>r i (by rw[oJ,G];rfl)⟩
theorem jd:∀(t:Tr)(S F:Nat),x∈fN a b us t S F->Cms x B->x.v=jh a b (L4 us t B)
 |.e m,S,F,h,_=>by
  have:x=⟨jh a b m,S,F⟩:=by simpa [fN] using h
  subst this;rfl
 |.a q t1 t2,S,F,h,c=>by
  rw[Hw];rcases PU.mp h with h1|h1
  .rw[if_pos (c.f _<|(kd t2 _ _ h1).1 _<|by rw[oJ];simp)]
   exact jd t2 _ _ h1 c
  .rw[if_neg (by rw[c.s _ ((kd t1 _ _ h1).2 _<|by rw[oJ];simp)];simp)]
   exact jd t1 _ _ h1 c
theorem rE:∀(t:Tr)(u:List aB)(S F:Nat),TrN t u->Wy us u S F->x∈fN a b us t S F->∀i,x.f.testBit i=true->x.s.testBit i=cm
 |.e m,u,S,F,_,w,h=>by
  have:x=⟨jh a b m,S,F⟩:=by simpa [fN] using h
  subst this;exact λi G=>QX.mpr λz=>w.dis i ⟨z,G⟩
 |.a q t1 t2,u,S,F,hn,w,h=>by
  rcases PU.mp h with h1|h1
  .exact rE t2 _ _ _ hn.2.2 (w.fa hn.1) h1
  .exact rE t1 _ _ _ hn.2.1 (w.so hn.1) h1
end
noncomputable def vB(C:Cse)(s t:Sta)(a b:Int)(B:Nat):Str:=jh a b (L4 (aS C s t) (C.tree s t) B)
noncomputable def dW(C:Cse)(s t:Sta)(a b:Int):List Out:=fN a b (aS C s t) (C.tree s t) 0 0
section
variable{t:Sta}{x y:Out}
theorem Bc:∃x∈dW C s t a b,Cms x B/\x.v=vB C s t a b B:=lX _ _ _ (λi e=>by rw[Q8]at e;cases e) λi e=>by rw[Q8]at e;cases e
theorem xL(h:x∈dW C s t a b)(c:Cms x B):x.v=vB C s t a b B:=jd _ _ _ h c
theorem uJ(h:x∈dW C s t a b):∀i,x.f.testBit i=true->x.s.testBit i=false:=rE _ _ _ _ ug (Wy.zero λ_ h=>h) h
theorem k9(h:x∈dW C s t a b):OutOk (aS C s t).length x:=rJ _ _ _ _ ug (Wy.zero λ_ h=>h) x h
theorem BE(h:x∈dW C s t a b):Cms x x.f:=⟨λ_ h=>h,λi e=>QX.mpr λz=>by rw[uJ h i z]at e;cases e⟩
theorem LQ(h:x∈dW C s t a b):vB C s t a b x.f=x.v:=(xL h<|BE h).symm
theorem KC(h:y∈dW C s t a b)(d:∀i,x.f.testBit i=true->y.s.testBit i=cm):vB C s t a b (x.f ||| y.f)=y.v:=(xL h ⟨λi e=>by rw[RU,e,S4],λi e=>by
 rw[RU,Bool.or_eq_false_iff];refine⟨QX.mpr λz=>?_,QX.mpr λz=>?_⟩
 .have:=d i z
  rw[e]at this;cases this
 .have:=uJ h i z
  rw[e]at this;cases this⟩).symm
def sbB(A B:Nat):Prop:=∀i,A.testBit i=true->B.testBit i=true
theorem BG:(∃A B:Nat,sbB A B/\vB C s t a b A=("faulty":Str)/\vB C s t a b B≠("faulty":Str))->∃x∈dW C s t a b,∃y∈dW C s t a b,x.v=("faulty":Str)/\y.v≠("faulty":Str)/\∀i,x.f.testBit i=true->y.s.testBit i=false:=by
 rintro⟨A,B,P,R,I⟩
 obtain⟨x,h,G,F⟩:=Bc (C:=C) (s:=s) (t:=t) (a:=a) (b:=b) (B:=A);obtain⟨y,e,H,J⟩:=Bc (C:=C) (s:=s) (t:=t) (a:=a) (b:=b) (B:=B);exact⟨x,h,y,e,by rw[F,R],by rw[J];exact I,λi O=>QX.mpr λz=>by have:=P i (G.f i O);rw[H.s i z]at this;cases this⟩
end
section
variable{A:Nat}
theorem Cu(f:A<2 ^ n)(e:B<2 ^ n)(h:aQ A=aQ B):A=B:=by
 refine U6 λi=>?_
 by_cases c:i<n
 .have h1:=bP (i:=i) f
  have h2:=bP (i:=i) e;rw[h]at h1;have:(A.testBit i=true↔B.testBit i=true):=⟨λz=>(h2.mp<|h1.mpr ⟨c,z⟩).2,λz=>(h1.mp<|h2.mpr ⟨c,z⟩).2⟩;exact T3.mpr this
 .rw[Rf (PF f<|Qo (by decide)<|by lia),Rf (PF e<|Qo (by decide)<|by lia)]
theorem OB(e:A<2 ^ n)(h:A.testBit i=true):i<n:=Rt λc=>by
 rw[Rf (PF e<|Qo (by decide)<|by lia)]at h;cases h
theorem xf(f:A<2 ^ n)(F:B<2 ^ n):sbB A B↔∀i∈aQ A,i∈aQ B:=
 ⟨λh i e=>by rw[bP f]at e;rw[bP F];exact⟨e.1,h i e.2⟩,λh i e=>((bP F).mp<|h i<|(bP f).mpr ⟨OB f e,e⟩).2⟩
theorem and_0:A &&& B=0↔∀i,A.testBit i=true->B.testBit i=false:=by
 constructor
 .intro h i e
  have:=congrArg (λz=>z.testBit i) h;simp only[Nat.testBit_and,Q8,e,Bool.true_and]at this;exact this
 .intro h
  refine U6 λi=>?_;rw[Nat.testBit_and,Q8];cases c:A.testBit i with
  |false=>rfl
  |true=>rw[h i c];rfl
noncomputable def iK:Nat->List (List Nat)
 |0=>[[]]
 |n+1=>iK n++(iK n).map (·++[n])
theorem AZ(h:B<2 ^ n):aQ (2 ^ n+B)=aQ B++[n]:=by
 have f:2 ^ n+B<2 ^ (n+1):=by rw[UT];lia
 rw[cQ f,cQ h,List.range_succ,Sq];congr 1
 .refine QH λi e=>?_
  rw[Nat.testBit_two_pow_add_gt (PR.mp e)]
 .rw[PM,Nat.testBit_two_pow_add_eq,Rf h]
  rfl
theorem kj:∀n:Nat,iK n=(PD<|2 ^ n).map aQ
 |0=>rfl
 |n+1=>by
  rw[iK,kj n,UT,Nat.mul_two,List.range_add,Ri,PB,PB];congr 1;refine PZ λB e=>?_;exact(AZ<|PR.mp e).symm
theorem Ba:(iK n).length=2 ^ n:=by rw[kj,Pa,QW]
end
noncomputable abbrev Ko:=Str×Int×Int
noncomputable def AE(p:Ko):D:=.tup [.str p.1,.int p.2.1,.int p.2.2]
theorem md:∀(ns:Xr)(xs ys:Xq),cX (ns.map D.str) (xs.map D.int) (ys.map D.int)=(ns.zip<|xs.zip ys).map AE
 |[],_,_=>by simp[cX]
 |_::_,[],_=>by simp[cX]
 |_::_,_::_,[]=>by simp[cX]
 |n::ns,x::xs,y::ys=>by
  have:=md ns xs ys;simp only[cX,Pc,Sm]at this ⊢;rw[<- this];rfl
theorem B4{ns:Xr}{ys:Xq}(e:ns.Nodup)(F:ns.length=xs.length)(f:ns.length=ys.length):ns.zip (xs.zip ys)=ns.map λx=>(x,nm (ns.zip xs) x,nm (ns.zip ys) x):=by
 refine SK λi=>?_;rw[Ph];cases h:ns[i]? with
 |none=>
  rw[Option.map_none,Qf];rw[S9];have:=SA.mp h;lia
 |some x=>
  rw[Qe,RF];exact⟨h,RF.mpr ⟨jk e F h,jk e f h⟩⟩
theorem lB{M:Mem}{tt:eU}{te:bh}{ok:Mem->Prop}{Q:List D->Mem->Prop}{b:BxC (cU 3<|aL (ag 0)<|aL (ag 1)<|aL (ag 2) cL) tt te ok Q}{rest:Dl}(p:Ko->Bool)(f:Ko->D)(F:ok M):∀(xs:List Ko)(Xl:List D)(G H I:Option D),Xl.length+xs.length<=100000->
  (∀x∈xs,∀K:Bool->Mem->Prop,K (p x) M->tt (ap (.str x.1)::ap (.int x.2.1)::ap (.int x.2.2)::rest) M K)->(∀x∈xs,∀K:DK,K (f x) M->te (ap (.str x.1)::ap (.int x.2.1)::ap (.int x.2.2)::rest) M K)->Q (Xl++(xs.filter p).map f) M->
  bV (cU 3<|aL (ag 0)<|aL (ag 1)<|aL (ag 2) cL) tt te ok Q b (xs.map AE) Xl (G::H::I::rest) M
 |[],Xl,G,H,I,hl,ht,he,h=>⟨F,by simpa using h⟩
 |x::xs,Xl,G,H,I,hl,ht,he,h=>by
  simp only[Pu]at hl;rw[Pc];refine⟨F,?_⟩;simp only[AE,cU,aL,cL,ag,Pp];refine⟨rfl,ht x PJ _ ?_⟩;cases J:p x with
  |true=>
   rw[if_pos rfl];refine he x PJ _ ⟨fS (by lia),lB p f F xs _ _ _ _ (by simp;lia) (λy e=>ht y (Px _ e)) (λy e=>he y (Px _ e)) ?_⟩
   rw[PM,if_pos J]at h;simpa using h
  |false=>
   rw[if_neg (by simp)]
   refine lB p f F xs _ _ _ _ (by lia) (λy e=>ht y (Px _ e)) (λy e=>he y (Px _ e)) ?_
   rw[PM,if_neg (by simp[J])]at h
   exact h
section
variable{t:Sta}
theorem xz(h:SOk C s)(f:i<C.many):atI (s.pieces.map D.int) (i:Nat)=ap (.int<|aD C s<|.inl (i:Int)):=by
 have e:i<s.pieces.length:=by rw[h.lp];exact f
 have:atI (s.pieces.map D.int) (i:Nat)=(s.pieces.map D.int)[i]?:=by rw[bi (by lia),Pn]
 rw[this,Ph,Pb e,Qe];show _=ap (D.int<|(s.pieces[(Te (i:Nat))]?).getD 0);rw[Pn,Pb e];rfl
theorem jI(o:C.Ok)(T:SOk C s)(S:SOk C t)(h:∀p,M p=bb->Q (.ref p) (M.upd p<|.lst<|(aS C s t).map kD)):sZ ad [bC C s t] M Q E:=by
 have l1:=o.l1;have few:=o.few;have O:=@GX C s t;have H:=@AK C;have e:∀z:Sta,z.d=.tup [.tup (z.nums.map D.int),.tup (z.pieces.map D.int)]:=λ_=>rfl;rw[Ov];unfold xh;simp only[ah,ao,ac,dt,O,cU,aL,ag,cL,Pp];refine⟨rfl,?_⟩;unfold q_;rw[H,e s,e t];simp only[ah,bf,bJ,aJ,t7,aa,af,ai,ac,dC,au,aE,atI_0,atI_1,dt,OZ,aY,PK,Pc,Py,Pw,b6,P8];rw[md,B4 o.nd T.ln.symm S.ln.symm];refine lB (λx=>decide (x.2.1≠x.2.2)) (λx=>.str x.1) aK _ _ _ _ _ (by simp;lia) (λx _ K q=>?_) (λx _ K q=>q) ?_
 .simp only[ak,ai,ac,dt,OZ,f_,dv,bF,aN]
  refine⟨trivial,trivial,?_⟩;simpa using q
 intro p X;have W:(((C.names.map λx=>(x,nm (C.names.zip s.nums) x,nm (C.names.zip t.nums) x)).filter λx=>decide (x.2.1≠x.2.2)).map λx:Ko=>D.str x.1)=((C.names.map PX).filter λk=>decide (aD C s k≠aD C t k)).map kD:=by
  rw[Qc,Qc,PB,PB];rfl
 simp only[Pw];rw[W];simp only[cu,Pp,dt,OZ,Mem.upd_same,Mem.upd_del,ar X];unfold rl;simp only[av,ai,ac,al,aJ,cM,aa,af,dC,au,aE,atI_2,dt,OZ,aY,PK,Pc,Py,Pw,PY];refine⟨by lia,by lia,?_⟩
 rw[Pn];refine bT (λd=>match d with|.int i=>decide (aD C s (.inl i)≠aD C t (.inl i))|_=>true) id aK (by simp[cj];lia) (λx P K q=>?_) (λx P _ K q=>q) ?_
 .obtain⟨i,F,rfl⟩:=Pq.mp P
  have F:=PR.mp F;have I:(0:Int)+(i:Nat)=(i:Nat):=by lia
  rw[I]at q ⊢;simp only[ak,ai,ac,dC,au,aE,atI_1,dt,OZ,xz T F,xz S F,f_,dv,bF,aN];refine⟨trivial,trivial,?_⟩;simpa using q
 intro p2 G;refine bS G ?_;have Z:((cj 0 C.many).filter λd=>match d with|.int i=>decide (aD C s (.inl i)≠aD C t (.inl i))|_=>true).map id=(((PD C.many).map λ(i:Nat)=>(Qz (i:Int):aB)).filter λk=>decide (aD C s k≠aD C t k)).map kD:=by
  unfold cj;rw[Qw,Qc,Qc,PB];have I:∀i:Nat,(0:Int)+(i:Nat)=(i:Nat):=λi=>by lia
  simp only[Sh,I];rfl
 rw[Z];have R:((C.names.map PX).filter λk=>decide (aD C s k≠aD C t k)).map kD++(((PD C.many).map λ(i:Nat)=>(Qz (i:Int):aB)).filter λk=>decide (aD C s k≠aD C t k)).map kD=(aS C s t).map kD:=by
  unfold aS dU;rw[Sq,Ri]
 have f:=congrArg Rb R;have Y:=fg (C:=C) (s:=s) (t:=t) o;rw[Pz,Pa (as:=aS C s t)]at f;simp only[ba,eY];refine⟨bg (by lia),?_⟩
 rw[R];exact λp3 J=>am (h p3 J)
end
noncomputable def gI(ks:List Nat):List D:=ks.map λ(i:Nat)=>D.int (i:Int)
noncomputable def A4(ks:List Nat):D:=.lst (gI ks)
noncomputable def FT:Nat->Nat->List D
 |_,0=>[]
 |j,n+1=>.int ((j:Nat):Int)::FT (j+1) n
theorem zw:∀(n j:Nat),(Ry j n).map (λ(i:Nat)=>D.int ((i:Nat):Int))=FT j n
 |0,_=>rfl
 |n+1,j=>by rw[Q4,Pc,zw n (j+1)];rfl
theorem KS(n:Nat):cj 0 n=FT 0 n:=by
 rw[<- zw,<- Rx];unfold cj;exact PZ λi _=>by rw[TJ]
theorem DQ{ks:List Nat}(h:ks∈iK n):∃B,B<2 ^ n/\ks=aQ B:=by
 rw[kj]at h;obtain⟨B,e,rfl⟩:=Pq.mp h;exact⟨B,PR.mp e,rfl⟩
theorem eW(h:B<2 ^ n):(aQ B).length<=n:=by
 rw[cQ h];exact PL (P2 _ _) (by rw[QW];exact Pl _)
section
variable{t:Sta}
theorem uk{n:Nat}{D':DEnds}{EE:DX}{ok:Mem->Prop}{T:BxF (ag 2) (ix ad EE) D' ok}(H:ok M):∀(m j:Nat)(f:Option D),j+m<=10->(∀f,D'.nx [ap (.int (n:Nat)),ap (.lst<|(iK (j+m)).map A4),f] M)->
  iG (ag 2) (ix ad EE) D' ok T (FT j m) [ap (.int (n:Nat)),ap (.lst<|(iK j).map A4),f] M
 |0,j,f,hl,h=>⟨H,h f⟩
 |m+1,j,f,hl,h=>by
  have W:2 ^ j<=1024:=(Qo (by decide) (show j<=10 by lia):2 ^ j<=2 ^ 10)
  have S:=Ba (n:=j);refine⟨H,?_⟩;simp only[ag,Pp];unfold ix;simp only[ao,al,ai,ac,aJ,bo,aE,b6,aY,dt,OZ,Pc,PK,Py,Pw,PY];refine dJ (λd=>match d with|.lst xs=>.lst (xs++[.int ((j:Nat):Int)])|_=>.non) aK (by rw[Pa];lia) (λx I K q=>?_) ?_
  .obtain⟨ks,J,rfl⟩:=Pq.mp I
   obtain⟨B,O,rfl⟩:=DQ J;have:=eW O;simp only[al,ai,ac,bp,aa,af,dt,OZ,A4];refine⟨bg (by simp),λR G=>bS G ?_⟩
   simp only[ba,eY];refine⟨bg (by simp[gI];lia),λP F=>bS F ?_⟩
   exact q
  intro R G;refine bS G ?_;simp only[ba,eY];refine⟨bg (by simp;lia),λP F=>bS F ?_⟩
  simp only[ag,Pp];have e:(iK j).map A4++((iK j).map A4).map (λd=>match d with|.lst xs=>.lst (xs++[.int ((j:Nat):Int)])|_=>.non)=(iK (j+1)).map A4:=by
   rw[iK,Ri,PB,PB];congr 1;refine PZ λks _=>?_;simp[A4,gI]
  rw[e];exact uk H m (j+1) _ (by lia) λf=>by
   have:=h f;rw[show j+1+m=j+(m+1) by lia]
   exact this
theorem sG(I:n<=10)(h:Q (.lst<|(iK n).map A4) M):xN ad [.int (n:Nat)] M Q E:=by
 rw[O7];unfold ym;simp only[ah,ao,al,bp,aa,af];refine⟨bg (by simp),λF e=>bS e ⟨bg (by simp),λH f=>bS f ?_⟩⟩
 simp only[ag,Pp];unfold qX;simp only[ah,cB,cM,aa,af,ac,dt,OZ];refine⟨by lia,by lia,?_⟩
 rw[Pn,KS];refine uk (n:=n) aK n 0 bb (by lia) λG=>?_
 simp only[av,ac,dt,OZ,RT];exact am h
noncomputable def fw(C:Cse)(s t:Sta)(ks:List aB):Sta:=
 ⟨C.names.map λx=>aD C (if PX x∈ks then t else s) (.inr x),(PD C.many).map λ(i:Nat)=>aD C (if Qz (i:Int)∈ks then t else s) (.inl (i:Int))⟩
theorem zm(o:C.Ok)(F:SOk C s)(h:SOk C t):SOk C (fw C s t ks):=by
 refine⟨by simp[fw],by simp[fw],λv e=>?_,λv e=>?_⟩
 .simp only[fw,Pq]at e
  obtain⟨x,G,rfl⟩:=e;have f:PX x∈dU C:=PU.mpr (.inl<|Pq.mpr ⟨x,G,rfl⟩)
  split
  .exact bH o h f
  .exact bH o F f
 .simp only[fw,Pq]at e
  obtain⟨i,H,rfl⟩:=e;have f:(Qz (i:Int):aB)∈dU C:=PU.mpr (.inr<|Pq.mpr ⟨i,H,rfl⟩)
  split
  .exact bH o h f
  .exact bH o F f
theorem D3{e f:bh}{k:aB}{K:Bool->Mem->Prop}(F:∀K,K (kD k) M->e U M K)(G:∀K,K (ql ks) M->f U M K)(h:K (decide (k∈ks)) M):ak (ai sJ e f) U M K:=by
 unfold ak ai;refine F _ (G _ ?_);unfold sJ;rw[FL];exact h
noncomputable def Md(ks:List aB)(x:Ko):Int:=if PX x.1∈ks then x.2.2 else x.2.1
theorem uV{D':DEnds}{EE:DX}{ok:Mem->Prop}{S:BxF (cU 3<|aL (ag 7)<|aL (ag 8)<|aL (ag 9) cL) (gn ad EE) D' ok}{l:ca}{O R d3 I P H:Option D}(J:∀xs,ok (M.upd l xs)):∀(xs:List Ko)(Xl:Xq)(f F G:Option D),Xl.length+xs.length<=1000->
  (∀f F G,D'.nx [O,ap (ql ks),R,d3,I,P,ap (.ref l),f,F,G,H] (M.upd l<|.lst<|(Xl++xs.map (Md ks)).map D.int))->
  iG (cU 3<|aL (ag 7)<|aL (ag 8)<|aL (ag 9) cL) (gn ad EE) D' ok S (xs.map AE) [O,ap (ql ks),R,d3,I,P,ap (.ref l),f,F,G,H] (M.upd l<|.lst<|Xl.map D.int)
 |[],Xl,f,F,G,hl,h=>⟨J _,by simpa using h f F G⟩
 |x::xs,Xl,f,F,G,hl,h=>by
  simp only[Pu]at hl;rw[Pc];refine⟨J _,?_⟩;simp only[AE,cU,aL,cL,ag,Pp];refine⟨rfl,?_⟩;unfold gn;have fin:∀v:Int,v=Md ks x->bL (.ref l) [.int v] (M.upd l<|.lst<|Xl.map D.int) λ_ M1=>iG (cU 3<|aL (ag 7)<|aL (ag 8)<|aL (ag 9) cL) (gn ad EE) D' ok S (xs.map AE) [O,ap (ql ks),R,d3,I,P,ap (.ref l),ap (.str x.1),ap (.int x.2.1),ap (.int x.2.2),H] M1:=λv T=>by
   simp only[bL,Mem.upd_same,Mem.upd_upd];refine⟨by rw[Pa];exact fS (by lia),?_⟩
   have e:Xl.map D.int++[.int v]=(Xl++[v]).map D.int:=by simp
   rw[e];refine uV J xs (Xl++[v]) _ _ _ (by simp;lia) λf F G=>?_
   have:=h f F G;rw[Pc,<- T]at this;simpa using this
  simp only[bq,nC,ac,dt,OZ,df,Mem.upd_same,true_and,aa,af,jq];refine D3 (k:=.inr x.1) (λK q=>q) (λK q=>q) ?_
  by_cases c:(PX x.1:aB)∈ks
  .rw[if_pos (by simpa using c)]
   exact fin _ (by unfold Md;rw[if_pos c])
  .rw[if_neg (by simpa using c)]
   exact fin _ (by unfold Md;rw[if_neg c])
theorem wK(o:C.Ok)(J:SOk C s)(I:SOk C t)(h:Q (fw C s t ks).d M):yQ ad [bC C s t,ql ks] M Q E:=by
 have l1:=o.l1;have few:=o.few;have G:=@GX C s t;have H:=@AK C;have f:∀z:Sta,z.d=.tup [.tup (z.nums.map D.int),.tup (z.pieces.map D.int)]:=λ_=>rfl;rw[OC];unfold xO;simp only[ah,ao,ac,dt,G,cU,aL,ag,cL,Pp,bp,af];refine⟨rfl,bg (by simp),λl T=>?_⟩
 unfold rT;have Y:∀xs:MO,(M.upd l xs) l=ap xs:=λ_=>Mem.upd_same;rw[H,f s,f t];simp only[ah,cB,t7,aa,af,ai,ac,dC,au,aE,atI_0,atI_1,dt,OZ,b6,P8];rw[md,B4 o.nd J.ln.symm I.ln.symm];refine uV (Xl:=[]) (ks:=ks) (λ_=>aK) _ _ _ _ (by simp;lia) λZ X c9=>?_
 unfold qD;simp only[ah,bf,bJ,aJ,cM,aa,af,ai,ac,dC,au,aE,atI_2,dt,OZ,aY,PK,Pc,Py,Pw,PY];refine⟨by lia,by lia,?_⟩
 rw[Pn];refine dJ (λd=>match d with|.int i=>.int (aD C (if Qz i∈ks then t else s)<|.inl i)|_=>.non) aK (by simp[cj];lia) (λx P K q=>?_) ?_
 .obtain⟨i,F,rfl⟩:=Pq.mp P
  have F:=PR.mp F;have O:(0:Int)+(i:Nat)=(i:Nat):=by lia
  rw[O]at q ⊢;unfold jq;refine D3 (k:=.inl (i:Int)) (λK q=>q) (λK q=>q) ?_
  by_cases c:(Qz (i:Int):aB)∈ks
  .rw[if_pos (by simpa using c)]
   simp only[ai,ac,dC,au,aE,atI_1,dt,OZ,xz I F];simp only[if_pos c]at q;exact q
  .rw[if_neg (by simpa using c)]
   simp only[ai,ac,dC,au,aE,atI_1,dt,OZ,xz J F];simp only[if_neg c]at q;exact q
 intro p R;simp only[cu,Pp,dt,OZ,Mem.upd_same,Mem.upd_del,ar R];unfold sF;simp only[av,aP,br,aa,af,ac,dt,OZ,bA,eY,aE,Mem.upd_same];refine⟨bg (by simp),M,λb o e=>by rw[ae (Mem.ne e T)];exact e,?_⟩
 have W:(C.names.map λx=>(x,nm (C.names.zip s.nums) x,nm (C.names.zip t.nums) x)).map (Md ks)=(fw C s t ks).nums:=by
  rw[PB];refine PZ λx _=>?_;simp only[T2,Md]
  split<;>rfl
 have S:(cj 0 C.many).map (λd=>match d with|.int i=>.int (aD C (if Qz i∈ks then t else s)<|.inl i)|_=>.non)=(fw C s t ks).pieces.map D.int:=by
  unfold cj fw;rw[PB,PB];refine PZ λi _=>?_;simp only[T2,TJ]
 rw[W,S];exact h
theorem zZ(o:C.Ok)(G:q∈dU C):aD C (fw C s t ks) q=aD C (if q∈ks then t else s) q:=by
 rcases gC G with⟨x,h,rfl⟩|⟨i,hi,rfl⟩
 .obtain⟨j,e⟩:=List.getElem?_of_mem h
  have F:=jk (nums:=(fw C s t ks).nums) o.nd (by simp[fw]) e
  have f:(fw C s t ks).nums[j]?=ap (aD C (if PX x∈ks then t else s)<|.inr x):=by
   unfold fw;rw[Ph,e];rfl
  rw[F]at f;exact Qa f
 .show (((fw C s t ks).pieces[(Te (i:Nat))]?).getD 0)=_
  rw[Pn];unfold fw;rw[Ph,U8 hi];rfl
end
noncomputable def nI(us:List aB)(B:Nat):List aB:=(aQ B).map λi=>(us[i]?).getD (.inl 0)
theorem zb(O:us.Nodup)(H:B<2 ^ us.length)(P:q∈us):q∈nI us B↔B.testBit (us.idxOf q)=true:=by
 have f:=Rq P;have eq:=Tp f;constructor
 .intro h
  obtain⟨i,F,e⟩:=Pq.mp h;obtain⟨G,J⟩:=(bP H).mp F;rw[Pb G]at e;have I:us[i]=q:=e;have:us.idxOf q=i:=by rw[<- I];exact O.idxOf_getElem i G
  rw[this];exact J
 .intro h
  refine Pq.mpr ⟨us.idxOf q,(bP H).mpr ⟨f,h⟩,?_⟩;rw[Pb f,eq];rfl
theorem Jc(H:B<2 ^ us.length)(h:q∈nI us B):q∈us:=by
 obtain⟨i,f,e⟩:=Pq.mp h;obtain⟨F,_⟩:=(bP H).mp f;rw[Pb F]at e;have G:us[i]=q:=e;rw[<- G];exact Q5 F
noncomputable def ie(B:Nat):List aB:=(aQ B).map λ(i:Nat)=>Qz (i:Int)
theorem uO:eP (gI<|aQ B)=ap (ie B):=by
 have:gI (aQ B)=(ie B).map kD:=by unfold gI ie;rw[PB];rfl
 rw[this,oY]
theorem kN{A:Nat}(F:A<2 ^ n)(f:B<2 ^ n)(h:ie A=ie B):A=B:=by
 refine Cu F f ?_;have e:=congrArg (List.map λk:aB=>match k with|.inl i=>i.toNat|.inr _=>0) h
 unfold ie at e;rw[PB,PB]at e;simpa [Sh] using e
noncomputable def wP(v:Nat->Str)(Bs:List Nat):List (List aB×D):=Bs.map λB=>(ie B,D.str (v B))
section
variable{t:Sta}
theorem Ck(o:C.Ok)(F:SOk C s)(h:SOk C t)(H:(aS C s t).length<24)(G:B<2 ^ (aS C s t).length):C.mark (fw C s t<|nI (aS C s t) B)=L4 (aS C s t) (C.tree s t) B:=by
 refine (wS (p:=λq=>B.testBit ((aS C s t).idxOf q)) o F h (zm o F h) H λq f=>?_).symm;rw[zZ o f]
 by_cases c:q∈aS C s t
 .have:=zb (B:=B) (kJ (s:=s) (t:=t) o) G c
  by_cases d:B.testBit ((aS C s t).idxOf q)=true
  .rw[if_pos (this.mpr d),if_pos d]
  .rw[if_neg (λz=>d (this.mp z)),if_neg d]
 .have e:aD C s q=aD C t q:=Rt λz=>c (Pf.mpr ⟨f,decide_eq_true z⟩)
  rw[if_neg (λz=>c (Jc G z))]
  split
  .exact e
  .rfl
theorem Ek{r:Bool×Sx}{m:D}(h:m=uA C.mn r)(f:w=jh a b m):(r.1=cm/\w=("other":Str))\/(r.1=true/\w=if nm r.2.nums C.mn=a then ("sound":Str) else if nm r.2.nums C.mn=b then ("faulty":Str) else ("other":Str)):=by
 subst h;unfold uA at f;cases e:r.1 with
 |false=>
  rw[e,if_neg (by simp)]at f
  exact .inl ⟨rfl,f⟩
 |true=>
  rw[e,if_pos rfl]at f;refine .inr ⟨rfl,?_⟩;unfold jh at f;rw[f];simp only[aN,decide_eq_true_eq,beq_iff_eq]
theorem Bk{Y G H:Option D}{Xk:List (List aB×D)}(o:C.Ok)(Z:SOk C s)(T:SOk C t)(hu:(aS C s t).length<24)(W:B<2 ^ (aS C s t).length)(X:a≠b)(hj:C.names[j]?=ap C.mn)(hl:M l=bb)(hk:Xk.length<100000)(h:∀G H,D'.nx [ap (bC C s t),ap C.d,ap s.d,ap t.d,ap (.int (C.most:Nat)),ap (ql<|aS C s t),ap (.int (j:Nat)),ap (.tup [.int a,.int b]),ap (.ref l),Y,G,H] (M.upd l<|.dT<|dI Xk (ie B)<|.str<|vB C s t a b B))(h9:Y=ap (A4<|aQ B)):
  jg ad EE D' [ap (bC C s t),ap C.d,ap s.d,ap t.d,ap (.int (C.most:Nat)),ap (ql<|aS C s t),ap (.int (j:Nat)),ap (.tup [.int a,.int b]),ap (.ref l),Y,G,H] (M.upd l<|.dT Xk):=by
 subst h9;have ul:=fg (C:=C) (s:=s) (t:=t) o;have nl:=eW W;have mm:=Ck o Z T hu W;have lu:(M.upd l<|.dT Xk) l=ap (.dT Xk):=Mem.upd_same;generalize hN:M.upd l (.dT Xk)=N at *;unfold jg;simp only[ah,ao,ai,fK,aj,aa,af,ac,dC,dt,OZ,al,aJ,bo,aE,b6,aY,Pc,PK,Py,Pw,PY,A4];refine dJ (λd=>match d with|.int i=>kD (((aS C s t)[i.toNat]?).getD<|.inl 0)|_=>.non) aK (by simp[gI];lia) (λx hx K q=>?_) ?_
 .obtain⟨i,O,rfl⟩:=Pq.mp hx
  have O:=((bP W).mp O).1;have e:atI ((aS C s t).map kD) ((i:Nat):Int)=ap (kD<|((aS C s t)[i]?).getD<|.inl 0):=by
   rw[bi (by lia),Pn,Ph,Pb O];rfl
  simp only[ai,ac,dt,OZ,ql,au,aE,e];simpa using q
 intro p I;refine bS I ?_;have e1:(gI<|aQ B).map (λd=>match d with|.int i=>kD (((aS C s t)[i.toNat]?).getD<|.inl 0)|_=>.non)=(nI (aS C s t) B).map kD:=by
  unfold gI nI;rw[PB,PB];exact PZ λi _=>by simp
 rw[e1];refine⟨rfl,aH (λ_ _ q=>wK o Z T q) ?_⟩;show frz (fw C s t<|nI (aS C s t) B).d N _;generalize hz:fw C s t (nI (aS C s t) B)=z at *;have F:SOk C z:=by rw[<- hz];exact zm o Z T
 have fz:∀{Q:DK},Q z.d N->frz z.d N Q:=λq=>q;refine fz ?_;rw[F.pd];refine⟨rfl,jF (o.pl F) ?_⟩;unfold wC;have er:dh (C.cf z) C.names C.rows z.nums=C.run z:=rfl;rw[er];simp only[au,aE,atI_1,OZ,dt,ag,Pp];rw[<- F.pd];unfold wF;simp only[ah,ao,dC,ag,Pp];unfold wX;have fin:∀w:Str,w=vB C s t a b B->lG ad EE D' [ap (bC C s t),ap C.d,ap s.d,ap t.d,ap (.int (C.most:Nat)),ap (ql<|aS C s t),ap (.int (j:Nat)),ap (.tup [.int a,.int b]),ap (.ref l),ap (.lst<|gI<|aQ B),ap (di C.names<|C.run z),ap (.str w)] N:=λw hw=>by
  unfold lG;simp only[ao,ac,dt,OZ,cO,br,aa,af,bA,eY,pE,lu,AG,uO];refine⟨fS (by lia),?_⟩
  have:=h (ap<|di C.names<|C.run z) (ap<|.str w);subst hw;rw[<- hN,Mem.upd_upd];exact this
 generalize lG ad EE=K2 at *;have vw:vB C s t a b B=jh a b (C.mark z):=by rw[mm];rfl
 rcases Ek (C:=C) (r:=C.run z) (a:=a) (b:=b) (m:=C.mark z) rfl vw with⟨r0,w0⟩|⟨r1,w1⟩
 .have ee:di C.names (C.run z)=.non:=by unfold di;rw[r0,if_neg (by simp)]
  rw[ee]at fin ⊢;simp only[ah,aC,nK,ak,ai,ac,dC,dt,OZ,fh,fL,Qk,Pr,if_false,aw];exact fin _ w0.symm
 .obtain⟨xs,ex,R⟩:=wU r1 hj
  rw[ex]at fin ⊢;generalize nm (C.run z).2.nums C.mn=v at *;have S:ia N (.int v) (.tup [.int a,.int b])=ap (decide (v=a)||decide (v=b)):=by
   simp only[ia,aE,dv,fits,bF,Bool.and_self,and_self,if_true,QC,List.any_nil,aN,Rj];congr 2<;>exact decide_eq_decide.mpr ⟨Eq.symm,Eq.symm⟩
  simp only[ah,aC,nK,ak,ai,ac,dC,dt,OZ,fh,fL,QF,if_true,au,aE,R,sJ,S]
  by_cases f:v=a
  .rw[if_pos (by simp[f])]
   unfold pS;have fi:[a,b].findIdx? (λy=>decide (y=v))=ap 0:=by simp[So,f]
   simp only[ao,ai,al,bp,aa,af,dC,E9,ac,dt,OZ];refine⟨bg (by simp),λp I=>bS I ?_⟩
   simp only[au,aE,R,iu,h7,fi];refine⟨by simp,?_⟩
   simp only[Int.natCast_zero,atI_0,dt,ag,Pp,aw];exact fin _ (by rw[w1,if_pos f])
  .by_cases J:v=b
   .rw[if_pos (by simp[J])]
    unfold pS;have fi:[a,b].findIdx? (λy=>decide (y=v))=ap 1:=by
     have:¬a=v:=λz=>f z.symm;simp[So,J,this,X]
    simp only[ao,ai,al,bp,aa,af,dC,E9,ac,dt,OZ];refine⟨bg (by simp),λp I=>bS I ?_⟩
    simp only[au,aE,R,iu,h7,fi];refine⟨by simp,?_⟩
    have P:atI [D.str "sound",.str "faulty"] ((1:Nat):Int)=ap (.str "faulty"):=rfl;simp only[P,ag,Pp,aw];exact fin _ (by rw[w1,if_neg f,if_pos J])
   .rw[if_neg (by simp[f,J])]
    simp only[aw];exact fin _ (by rw[w1,if_neg f,if_neg J])
end
theorem Jl{Xk:List (List aB×D)}{k:List aB}{d:D}(h:k∉Xk.map (·.1))(F:(Xk.map (·.1)).Nodup):dI Xk k d=Xk++[(k,d)]:=by
 have:=qk (Xk:=[(k,d)]) (a0:=Xk) (by
  rw[SI];refine⟨F,by simp,λx f y e=>?_⟩
  have:y=k:=by simpa using e
  subst this;exact λz=>h (by rw[<- z];exact f))
 simpa using this
theorem lm{v:Nat->Str}{Bs:List Nat}:(wP v Bs).map (·.1)=Bs.map ie:=by unfold wP;rw[PB];rfl
theorem N4(h:j<=2 ^ n):((PD j).map ie).Nodup:=by
 rw[List.nodup_iff_pairwise_ne,List.pairwise_map];refine List.Pairwise.imp_of_mem (R:=λx y=>x≠y) (λ{x y} f e F z=>F ?_) TL;have f:=PR.mp f;have e:=PR.mp e;exact kN (n:=n) (by lia) (by lia) z
section
variable{t:Sta}
theorem J4(H:C.mark s=.int a)(I:C.mark t=.int b):E8 C s t=.tup [.int a,.int b]:=by
 have g:∀{z:Sta}{v:Int},C.mark z=.int v->(C.run z).1=true/\nm (C.run z).2.nums C.mn=v:=λ{z v} e=>by
  unfold Cse.mark uA at e
  split at e
  .rename_i c;exact⟨c,D.int.inj e⟩
  .cases e
 obtain⟨h,f⟩:=g H;obtain⟨F,G⟩:=g I;unfold E8;rw[if_pos ⟨h,F⟩,f,G]
theorem tP{D':DEnds}{EE:DX}{ok:Mem->Prop}{Z:BxF (ag 9) (jg ad EE) D' ok}{l:ca}{i:Nat}(o:C.Ok)(T:SOk C s)(O:SOk C t)(R:(aS C s t).length<=10)(H:a≠b)(S:C.names[i]?=ap C.mn)(P:M l=bb)(I:∀N,ok N):∀(m j:Nat)(G f F:Option D),j+m=2 ^ (aS C s t).length->
  (∀G f F,D'.nx [ap (bC C s t),ap C.d,ap s.d,ap t.d,ap (.int (C.most:Nat)),ap (ql<|aS C s t),ap (.int (i:Nat)),ap (.tup [.int a,.int b]),ap (.ref l),G,f,F] (M.upd l<|.dT<|wP (vB C s t a b)<|PD<|2 ^ (aS C s t).length))->
  iG (ag 9) (jg ad EE) D' ok Z ((Ry j m).map λB=>A4 (aQ B)) [ap (bC C s t),ap C.d,ap s.d,ap t.d,ap (.int (C.most:Nat)),ap (ql<|aS C s t),ap (.int (i:Nat)),ap (.tup [.int a,.int b]),ap (.ref l),G,f,F] (M.upd l<|.dT<|wP (vB C s t a b)<|PD j)
 |0,j,G,f,F,e,h=>⟨I _,by
   rw[Nat.add_zero]at e;have:=h G f F;rw[<- e]at this;exact this⟩
 |m+1,j,G,f,F,e,h=>by
  have hp:2 ^ (aS C s t).length<=2 ^ 10:=Qo (by decide) R
  rw[Q4,Pc];refine⟨I _,?_⟩;simp only[ag,Pp];refine Bk o T O (by lia) (by lia) H S P (by simp[wP];lia) (λf F=>?_) rfl
  have X:ie j∉(wP (vB C s t a b)<|PD j).map (·.1):=by
   rw[lm];intro z;obtain⟨B,J,W⟩:=Pq.mp z;have J:=PR.mp J;have:=kN (n:=(aS C s t).length) (by lia) (by lia) W
   lia
  rw[Jl X (by rw[lm];exact N4 (n:=(aS C s t).length) (by lia))]
  have Y:wP (vB C s t a b) (PD j)++[(ie j,.str (vB C s t a b j))]=wP (vB C s t a b) (PD (j+1)):=by unfold wP;rw[List.range_succ,Ri];rfl
  rw[Y];exact tP o T O R H S P I m (j+1) _ _ _ (by lia) h
theorem nU(o:C.Ok)(J:SOk C s)(H:SOk C t)(ea:C.mark s=.int a)(eb:C.mark t=.int b)(P:(aS C s t).length<=10)(I:a≠b)(h:∀p,M p=bb->Q (.ref p) (M.upd p<|.dT<|wP (vB C s t a b)<|PD<|2 ^ (aS C s t).length)):GD ad [bC C s t] M Q E:=by
 have f:=@GX C s t;have e:=@AK C;obtain⟨i,R,F⟩:=lN o.mn;have l1:=o.l1;rw[u_q4];unfold EC;simp only[ah,ao,ac,dt,f,cU,aL,ag,cL,Pp];refine⟨rfl,?_⟩;rw[<- f];unfold w6;simp only[ah,ao,al,aj,aa,af,ac,dt];refine⟨rfl,aq λQ' E' G _=>jI o J H λp T=>G _ _ (bS T ?_)⟩;simp only[ag,Pp];unfold vD;rw[e];simp only[ah,ao,E9,ai,aa,af,ac,dC,dt,OZ,au,aE,atI_1,atI_4,hZ,dO,R];refine⟨by lia,?_⟩
 simp only[ag,Pp];rw[<- e];unfold vT;simp only[ah,ao,al,aj,aa,af,ac,dt,OZ];refine⟨rfl,aq λQ' E' G _=>eD o J H (G _ _<|kM ?_)⟩;rw[J4 ea eb];simp only[ag,Pp,CK];intro l O;unfold wH;simp only[ah,cB,bo,al,aj,br,aa,af,ac,dt,OZ,bY,aE,Pa];refine⟨rfl,aH (λ_ _ q=>sG (by rw[Pa];exact P) q) ?_⟩
 show frz (.lst _) _ _;have W:∀{xs:List D}{N:Mem}{Q:DK},Q (.lst xs) N->frz (.lst xs) N Q:=λq=>q;refine W ?_;simp only[aE,b6];have X:(iK ((aS C s t).map kD).length).map A4=(Ry 0<|2 ^ (aS C s t).length).map λB=>A4 (aQ B):=by rw[Pa,kj,PB,Rx];rfl
 rw[X];have S:M.upd l (.dT [])=M.upd l (.dT<|wP (vB C s t a b)<|PD 0):=rfl;rw[S];dsimp only[Pp];refine tP o J H P I F O (λ_=>aK) _ 0 _ _ _ (by lia) λd9 Y Z=>?_
 simp only[av,ac,dt,OZ];exact am (h l O)
end
noncomputable def G3(v:Nat->Str)(n:Nat):D:=.fd ((PD<|2 ^ n).map ie) ((PD<|2 ^ n).map λB=>D.str (v B))
theorem EU{v:Nat->Str}(F:M p=bb)(h:Q (G3 v n) M):Bn (.ref p) (M.upd p<|.dT<|wP v<|PD<|2 ^ n) Q:=by
 simp only[Bn,Mem.upd_same,Mem.upd_del,ar F];have e:(wP v<|PD<|2 ^ n).map (·.1)=(PD<|2 ^ n).map ie:=lm;have f:(wP v<|PD<|2 ^ n).map (·.2)=(PD<|2 ^ n).map λB=>D.str (v B):=by unfold wP;rw[PB];rfl
 rw[e,f];exact h
noncomputable def j8(B:Nat):D:=.tup (gI<|aQ B)
theorem EL:zH (ie B)=j8 B:=by
 unfold zH ie j8 gI;rw[PB];rfl
theorem LG{v:Nat->Str}(G:B<2 ^ n):cD (((PD<|2 ^ n).map ie).zip ((PD<|2 ^ n).map λB=>D.str (v B))) (ie B)=ap (.str<|v B):=by
 have e:((PD<|2 ^ n).map ie).zip ((PD<|2 ^ n).map λB=>D.str (v B))=(PD<|2 ^ n).map λB=>(ie B,D.str (v B)):=by rw[List.zip_map']
 rw[e];unfold cD;have f:∀l:List Nat,(∀A∈l,A<2 ^ n)->B∈l->(l.map λB=>(ie B,D.str (v B))).find? (λI=>decide (I.1=ie B))=ap (ie B,.str (v B)):=by
  intro l
  induction l with
  |nil=>intro _ h;cases h
  |cons A l ih=>
   intro F O;rw[Pc,Qu]
   by_cases c:A=B
   .subst c;simp
   .have:¬ie A=ie B:=λz=>c (kN (F A PJ) G z)
    simp only[this,decide_false];exact ih (λx H=>F x (Px _ H)) ((Po.mp O).resolve_left λz=>c z.symm)
 rw[f _ (λA J=>PR.mp J) (PR.mpr G)];rfl
theorem xy{v:Nat->Str}(e:B<2 ^ n)(h:K (.str<|v B) M):nN (G3 v n) (j8 B) M K:=by
 unfold nN G3 j8;simp only[AG,uO,LG e];exact h
theorem wo(a b:Nat):Ro (a:Int) (b:Int)=((a &&& b:Nat):Int):=by
 have e:decide ((0:Int)<=(a:Int))=true:=decide_eq_true (by lia)
 have f:decide ((0:Int)<=(b:Int))=true:=decide_eq_true (by lia)
 unfold Ro;rw[e,f];show (((a:Int).toNat &&& (b:Int).toNat:Nat):Int)=_;rw[Pn,Pn]
section
variable{Q':List D->Mem->Prop}{ok:Mem->Prop}{b:BxC (ag 0) tt te ok Q'}{rest:Dl}
theorem qL(p:Out->Bool)(f:Out->D)(e:ok N)(F:∀a x,N a=ap (nF ad x)->∀K:Bool->Mem->Prop,K (p x) N->tt (ap (.ref a)::rest) N K)(G:∀a x,N a=ap (nF ad x)->∀K:DK,K (f x) N->te (ap (.ref a)::rest) N K):
  ∀{as:Xt}{xs:List Out},Lay ad N as xs->∀(Xl:List D)(c:Option D),Xl.length+xs.length<=100000->Q' (Xl++(xs.filter p).map f) N->bV (ag 0) tt te ok Q' b (as.map D.ref) Xl (c::rest) N
 |_,_,.nil,Xl,c,hl,h=>⟨e,by simpa using h⟩
 |_,_,.cons (a:=a) (x:=x) (as:=as) (xs:=xs) hx t,Xl,c,hl,h=>by
  simp only[Pu]at hl;rw[Pc];refine⟨e,?_⟩;simp only[ag,Pp];refine F a x hx _ ?_;cases H:p x with
  |true=>
   rw[if_pos rfl];refine G a x hx _ ⟨fS (by lia),qL p f e F G t _ _ (by simp;lia) ?_⟩
   rw[PM,if_pos H]at h;simpa using h
  |false=>
   rw[if_neg (by simp)]
   refine qL p f e F G t _ _ (by lia) ?_
   rw[PM,if_neg (by simp[H])]at h
   exact h
theorem qm{b:BxC (ag 0) tt (ac 0) ok Q'}(p:Out->Bool)(F:ok N)(H:∀a x,N a=ap (nF ad x)->∀K:Bool->Mem->Prop,K (p x) N->tt (ap (.ref a)::rest) N K):
  ∀{as:Xt}{xs:List Out},Lay ad N as xs->∀(Xl:Xt)(ys:List Out)(c:Option D),Lay ad N Xl ys->Xl.length+xs.length<=100000->(∀f,Lay ad N f (ys++xs.filter p)->Q' (f.map D.ref) N)->bV (ag 0) tt (ac 0) ok Q' b (as.map D.ref) (Xl.map D.ref) (c::rest) N
 |_,_,.nil,Xl,ys,c,la,hl,h=>⟨F,h Xl<|by simpa using la⟩
 |_,_,.cons (a:=a) (x:=x) (as:=as) (xs:=xs) hx t,Xl,ys,c,la,hl,h=>by
  simp only[Pu]at hl;rw[Pc];refine⟨F,?_⟩;simp only[ag,Pp];refine H a x hx _ ?_;cases I:p x with
  |true=>
   rw[if_pos rfl];simp only[ac,dt];refine⟨by rw[Pa];exact fS (by lia),?_⟩
   have e:Xl.map D.ref++[.ref a]=(Xl++[a]).map D.ref:=by simp
   rw[e];refine qm p F H t (Xl++[a]) (ys++[x]) _ (la.snoc hx) (by simp;lia) λf G=>h f ?_
   rw[PM,if_pos I];simpa using G
  |false=>
   rw[if_neg (by simp)]
   refine qm p F H t Xl ys _ la (by lia) λf G=>h f ?_
   rw[PM,if_neg (by simp[I])]
   exact G
theorem IC{a:ca}{x:Out}(h:N a=ap (nF ad x))(q:K (.str x.v) N):aV ad.C_Outcome (ac 0) "verdict" (ap (.ref a)::rest) N K:=by
 have e:P1 ("verdict":Str) [(("verdict":Str),D.str x.v),(("sound":Str),D.int (x.s:Nat)),(("faulty":Str),D.int (x.f:Nat))]=ap (.str x.v):=rfl;unfold nF at h;simp only[aV,ac,dt,h,e];exact⟨trivial,q⟩
theorem Ms{a:ca}{x:Out}(F:U[i]?=ap (ap<|.ref a))(h:N a=ap (nF ad x))(q:K (.int (x.s:Nat)) N):aV ad.C_Outcome (ac i) "sound" U N K:=by
 have e:P1 ("sound":Str) [(("verdict":Str),D.str x.v),(("sound":Str),D.int (x.s:Nat)),(("faulty":Str),D.int (x.f:Nat))]=ap (.int (x.s:Nat)):=rfl;unfold nF at h;simp only[aV,ac,F,h,e];exact⟨trivial,q⟩
theorem Ii{a:ca}{x:Out}(F:U[i]?=ap (ap<|.ref a))(h:N a=ap (nF ad x))(q:K (.int (x.f:Nat)) N):aV ad.C_Outcome (ac i) "faulty" U N K:=by
 have e:P1 ("faulty":Str) [(("verdict":Str),D.str x.v),(("sound":Str),D.int (x.s:Nat)),(("faulty":Str),D.int (x.f:Nat))]=ap (.int (x.f:Nat)):=rfl;unfold nF at h;simp only[aV,ac,F,h,e];exact⟨trivial,q⟩
theorem is_v{a:ca}{x:Out}{K:Bool->Mem->Prop}(h:N a=ap (nF ad x))(q:K (decide (x.v=w)) N):ak (ai bG (aV ad.C_Outcome (ac 0) "verdict")<|dC<|.str w) (ap (.ref a)::rest) N K:=by
 unfold ak ai;refine IC h ?_;simp only[dC,bG,dv,bF,aN];exact⟨trivial,trivial,q⟩
theorem no_v{a:ca}{x:Out}{K:Bool->Mem->Prop}(h:N a=ap (nF ad x))(q:K (!decide (x.v=w)) N):ak (ai f_ (aV ad.C_Outcome (ac 0) "verdict")<|dC<|.str w) (ap (.ref a)::rest) N K:=by
 unfold ak ai;refine IC h ?_;simp only[dC,f_,dv,bF,aN];exact⟨trivial,trivial,q⟩
theorem nB(S:us.length<=200)(H:B<2 ^ us.length)(h:∀p,M p=bb->Q (.ref p) (M.upd p<|.lst<|(nI us B).map kD)):sR ad [ql us,.int (B:Nat)] M Q E:=by
 have G:B<2 ^ 200:=PF H (Qo (by decide) S)
 have T:=eW H;rw[NY];unfold yP;simp only[av,aJ,bo,al,aj,aa,af,ac,dt,OZ];refine⟨rfl,aq λQ' E' O _=>mv G λp P=>O _ _ (bS P ?_)⟩;simp only[aE,b6,aY,Pc,PK,Py,Pw,PY,dt];refine dJ (λd=>match d with|.int i=>kD ((us[i.toNat]?).getD<|.inl 0)|_=>.non) aK (by simp;lia) (λx I K q=>?_) ?_
 .obtain⟨i,F,rfl⟩:=Pq.mp I
  have F:=((bP H).mp F).1;have e:atI (us.map kD) ((i:Nat):Int)=ap (kD<|(us[i]?).getD<|.inl 0):=by
   rw[bi (by lia),Pn,Ph,Pb F];rfl
  simp only[ai,ac,dt,OZ,ql,au,aE,e];simpa using q
 intro R f;have J:((aQ B).map λ(i:Nat)=>D.int (i:Int)).map (λd=>match d with|.int i=>kD ((us[i.toNat]?).getD<|.inl 0)|_=>.non)=(nI us B).map kD:=by
  unfold nI;rw[PB,PB];exact PZ λi _=>by simp
 rw[J];exact am (h R f)
end
section
variable{t:Sta}
theorem OQ{c:Nat}{y:Out}{e:ca}{H G f d3 F:Option D}{K:Bool->Mem->Prop}(h:N e=ap (nF ad y))(q:K (decide (c &&& y.s=0)) N):
  ak (ai bG (ai A0 (ac 6)<|aV ad.C_Outcome (ac 5) "sound")<|dC<|.int 0) [H,G,f,d3,F,ap (.ref e),ap (.int (c:Nat))] N K:=by
 simp only[ak,ai];unfold ac;simp only[dt,OZ];refine Ms (i:=5) (a:=e) rfl h ?_;simp only[A0,jS,wo,dC,bG,dv,bF,aN];refine⟨trivial,trivial,?_⟩;have e:decide (((c &&& y.s:Nat):Int)=0)=decide (c &&& y.s=0):=decide_eq_decide.mpr (by lia)
 rw[e];exact q
theorem yl{D':DEnds}{EE:DX}{ok:Mem->Prop}{R:BxF (ag 6) (dy ad EE) D' ok}{y:Out}{e:ca}{J I O d3 G:Option D}(H:ok N)(P:N e=ap (nF ad y)):∀(cs:List Nat)(f:Option D),
  (∀c∈cs,c &&& y.s=0->∀D2:DEnds,D2.rt=D'.rt->iP ad EE D2 [J,I,O,d3,G,ap (.ref e),ap (.int (c:Nat))] N)->((∀c∈cs,c &&& y.s≠0)->∀f,D'.nx [J,I,O,d3,G,ap (.ref e),f] N)->
  iG (ag 6) (dy ad EE) D' ok R (cs.map λ(c:Nat)=>D.int (c:Int)) [J,I,O,d3,G,ap (.ref e),f] N
 |[],f,_,h=>⟨H,h (λ_ z=>by cases z) f⟩
 |c::cs,f,hr,h=>by
  rw[Pc];refine⟨H,?_⟩;simp only[ag,Pp];unfold dy aC;refine OQ P ?_
  by_cases q:c &&& y.s=0
  .rw[decide_eq_true q,if_pos rfl]
   exact hr c PJ q _ rfl
  .rw[decide_eq_false q,if_neg (by simp)]
   exact yl H P cs _ (λF hc'=>hr F (Px _ hc')) λz=>h λF hc'=>by
    rcases Po.mp hc' with rfl|hc'
    .exact q
    .exact z F hc'
theorem tL{D':DEnds}{EE:DX}{ok:Mem->Prop}{cs:List Nat}{W:BxF (ag 5) (cB (bo<|ac 3) (ag 6)<|dy ad EE) D' ok}{O J P H:Option D}(I:ok N):∀{as:Xt}{ys:List Out},Lay ad N as ys->∀(F f:Option D),
  (∀y∈ys,∀c∈cs,c &&& y.s=0->∀(e:ca)(D2:DEnds),N e=ap (nF ad y)->D2.rt=D'.rt->iP ad EE D2 [O,J,P,ap (.lst (cs.map λ(c:Nat)=>D.int (c:Int))),H,ap (.ref e),ap (.int (c:Nat))] N)->
  ((∀y∈ys,∀c∈cs,c &&& y.s≠0)->∀F f,D'.nx [O,J,P,ap (.lst (cs.map λ(c:Nat)=>D.int (c:Int))),H,F,f] N)->
  iG (ag 5) (cB (bo<|ac 3) (ag 6)<|dy ad EE) D' ok W (as.map D.ref) [O,J,P,ap (.lst (cs.map λ(c:Nat)=>D.int (c:Int))),H,F,f] N
 |_,_,.nil,F,f,_,h=>⟨I,h (λ_ z=>by cases z) F f⟩
 |_,_,.cons (a:=e) (x:=y) (as:=as) (xs:=ys) hy l,F,f,hr,h=>by
  rw[Pc];refine⟨I,?_⟩;simp only[ag,Pp,cB,bo,ac,dt,OZ,aE,b6];refine yl aK hy cs _ (λc T q D2 R=>hr y PJ c T q e D2 hy R) λz f=>?_;exact tL I l _ _ (λG hy'=>hr G (Px _ hy')) λS=>h λG hy'=>by
   rcases Po.mp hy' with rfl|hy'
   .exact z
   .exact S G hy'
theorem o5(o:C.Ok)(hs:SOk C s)(ht:SOk C t)(ea:C.mark s=.int a)(F:C.mark t=.int b)(hab:a≠b)(hu:(aS C s t).length<24)(Z:1+(C.tree s t).asks<=L)(hL:L<=10000)(h0:(∀x∈dW C s t a b,∀y∈dW C s t a b,x.v=("faulty":Str)->y.v≠("faulty":Str)->x.f &&& y.s≠0)->Q (.tup [.str "even"]) M)(h1:∀x∈dW C s t a b,∀y∈dW C s t a b,x.v=("faulty":Str)->y.v≠("faulty":Str)->x.f &&& y.s=0->∀p q,M p=bb->M q=bb->p≠q->Q (.tup [.str "odd",.ref p,.ref q]) ((M.upd p<|.lst<|(nI (aS C s t) x.f).map kD).upd q<|.lst<|(nI (aS C s t) (x.f ||| y.f)).map kD)):
  uR ad [bC C s t,.int (L:Nat)] M Q E:=by
 have ul:=fg (s:=s) (t:=t) o;have hcs:=@GX C s t;rw[MX];unfold yf;simp only[ah,ao,al,aj,aa,af,ac,dt,OZ];refine⟨rfl,aq λQ' E' J _=>nX o hs ht ea F hab hu Z hL λp as N ex hp hpn ny=>J _ _ ?_⟩;have P:Lay ad (N.del p) as (dW C s t a b):=ny.go λc y e=>by unfold Mem.del;rw[if_neg (λz=>by rw[z,hp]at e;cases e)];exact e
 have G:Ext M (N.del p):=ex.del hpn;have hll:(dW C s t a b).length<=10000:=by unfold dW;rw[mG];lia
 simp only[frz,hp,ag,Pp];have ex':∀{K:Dl->Mem->Prop}{U:Dl},K U (N.del p)->K U (N.del p):=λz=>z;generalize N.del p=N1 at *;unfold qr;simp only[ah,bf,bJ,aJ,bo,ac,dt,OZ,aE,b6,aY,Pc,PK,Py,Pw];refine qL (λx=>decide (x.v=("faulty":Str))) (λx=>.int (x.f:Nat)) aK (λa x h K q=>is_v h q) (λa x h K q=>Ii (i:=0) rfl h q) P [] _ (by simp;lia) ?_
 intro p3 hp3;simp only[cu,Pp,dt,OZ,Mem.upd_same,Mem.upd_del,ar hp3,Pw];have ecs:((dW C s t a b).filter λx=>decide (x.v=("faulty":Str))).map (λx=>D.int (x.f:Nat))=(((dW C s t a b).filter λx=>decide (x.v=("faulty":Str))).map λx=>x.f).map λ(c:Nat)=>D.int (c:Int):=by rw[PB];rfl
 rw[ecs];generalize H:((dW C s t a b).filter λx=>decide (x.v=("faulty":Str))).map (λx=>x.f)=cl;unfold pL;simp only[ah,ao,al,aj,aa,af,ac,dt,OZ];refine⟨rfl,aq λQ' E' J _=>eM o hs ht λp4 hp4=>J _ _ (bS hp4 ?_)⟩;simp only[ag,Pp];unfold sD;simp only[ah,cB,bo,al,aJ,ac,dt,OZ,aE,b6,aY,Pc,PK,Py,Pw];refine qm (Xl:=[]) (ys:=[]) (λx=>!decide (x.v=("faulty":Str))) aK (λa x h K q=>no_v h q) P _ .nil (by simp;lia) ?_
 intro as' l' p5 hp5;refine bS hp5 ?_;rw[Pw]at l';simp only[aE,b6];have S:∀y,y∈(dW C s t a b).filter (λx=>!decide (x.v=("faulty":Str)))↔y∈dW C s t a b/\y.v≠("faulty":Str):=λy=>by rw[Pf];simp
 have inc:∀c,c∈cl->∃x∈dW C s t a b,x.v=("faulty":Str)/\x.f=c:=λc Z=>by
  rw[<- H]at Z;obtain⟨x,h,rfl⟩:=Pq.mp Z;obtain⟨h1,h2⟩:=Pf.mp h;exact⟨x,h1,of_decide_eq_true h2,rfl⟩
 have eF:cB (bo<|ac 3) (ag 6) (dy ad<|aM E)=cB (bo<|ac 3) (ag 6) (dy ad<|aM E):=rfl;refine tL (cs:=cl) aK l' _ _ (λy hy c hcc q0 e D2 he e2=>?_) λz c5 c6=>?_
 .obtain⟨R,hy2⟩:=(S y).mp hy
  obtain⟨x,h,O,rfl⟩:=inc c hcc;have ox:=k9 h;have oy:=k9 R;unfold iP;simp only[av,aP,aa,af,dC,aj,ac,dt,OZ];refine⟨rfl,aq λQ' E' J _=>nB (us:=aS C s t) ul ox.f λY T=>J _ _ ?_⟩;have he':(N1.upd Y<|.lst<|(nI (aS C s t) x.f).map kD) e=ap (nF ad y):=by rw[ae (Mem.ne he T)];exact he
  simp only[ai];unfold ac;simp only[dt,OZ];refine Ii (i:=5) (a:=e) (x:=y) rfl he' ?_;simp only[Mi,jS,oS];refine⟨rfl,aq λQ' E' J _=>nB (us:=aS C s t) ul (Tz ox.f oy.f) λp7 I=>J _ _ ?_⟩;have W:Y≠p7:=Mem.ne Mem.upd_same I;rw[ae W.symm]at I;rw[e2];refine⟨bg (by simp),_,λX ob F=>?_,h1 x h y R O hy2 q0 Y p7 (G.no T) (G.no I) W⟩
  by_cases c7:X=p7
  .subst c7;rw[Mem.upd_same]at F ⊢;exact F
  .rw[ae c7]at F ⊢
   by_cases c6:X=Y
   .subst c6;rw[Mem.upd_same]at F ⊢;exact F
   .rw[ae c6]at F ⊢
    exact G X ob F
 .simp only[av,aP,aa,af,dC]
  refine⟨bg (by simp),M,λX ob F=>G X ob F,h0 λx h y hy O hyv=>?_⟩
  refine z y ((S y).mpr ⟨hy,hyv⟩) x.f ?_;rw[<- H];exact Pq.mpr ⟨x,Pf.mpr ⟨h,decide_eq_true O⟩,rfl⟩
end
def HF:Nat->D->Prop
 |_,.non=>True
 |_,.bl _=>True
 |_,.int _=>True
 |_,.str _=>True
 |n+1,.tup xs=>xs.length<=100000/\∀x∈xs,HF n x
 |n+1,.lst xs=>xs.length<=100000/\∀x∈xs,HF n x
 |_,_=>False
theorem g_:∀n:Nat,pf (PN n<|.bl true)=ap (PN n true)
 |0=>rfl
 |n+1=>by rw[Qg,pf,g_ n];rfl
theorem tq:(PN n true).all id=true:=by simp
theorem i1:bt "tuple" "bool"=false:=by decide +kernel
theorem i2:bt "tuple" "int"=false:=by decide +kernel
theorem i3:bt "tuple" "str"=false:=by decide +kernel
theorem i4:bt "tuple" "tuple"=true:=by decide +kernel
theorem i5:bt "tuple" "list"=false:=by decide +kernel
theorem i6:bt "list" "bool"=false:=by decide +kernel
theorem i7:bt "list" "int"=false:=by decide +kernel
theorem i8:bt "list" "str"=false:=by decide +kernel
theorem i9:bt "list" "tuple"=false:=by decide +kernel
theorem i10:bt "list" "list"=true:=by decide +kernel
theorem i11:bt "bool" "bool"=true:=by decide +kernel
theorem i12:bt "int" "bool"=false:=by decide +kernel
theorem i13:bt "int" "int"=true:=by decide +kernel
theorem i14:bt "str" "bool"=false:=by decide +kernel
theorem i15:bt "str" "int"=false:=by decide +kernel
theorem i16:bt "str" "str"=true:=by decide +kernel
theorem t1:m8 "bool"=true:=by decide +kernel
theorem t2:m8 "int"=true:=by decide +kernel
theorem t3:m8 "str"=true:=by decide +kernel
theorem t4:m8 "tuple"=true:=by decide +kernel
theorem t5:m8 "list"=true:=by decide +kernel
theorem mS:∀xs:List D,uK xs xs=xs.map (λz=>D.tup [z,z])
 |[]=>rfl
 |x::xs=>by
  have:=mS xs;simp only[uK]at this ⊢;simp[this]
theorem cP{ad:Ad}:∀(n:Nat)(x:D)(M:Mem)(Q:DK)(E:DX),HF n x->Q (.bl true) M->Vo ad (n+1) [x,x] M Q E
 |n,x,M,Q,E,F,h=>by
  cases x with
  |non=>simp![oR,iS];exact am h
  |bl b=>simp![oR,iS,i11,t1,beq_self_eq_true];exact am h
  |int i=>simp![oR,iS,i12,i13,t1,t2];exact am h
  |str i=>simp![oR,iS,i14,i15,i16,t1,t2,t3];exact am h
  |tup xs=>
   cases n with
   |zero=>exact F.elim
   |succ n=>
    obtain⟨T,F⟩:=F;simp![oR,iS,i1,i2,i3,i4,i5,t1,t2,t3,t4,t5,aJ];rw[if_neg (by decide),if_neg (by decide),if_neg (by decide)]
    refine bZ (λP Xl U M'=>∃(e:List D)(j:Nat)(H G:Option D),P=e.map (λz=>D.tup [z,z])/\(∀z∈e,HF n z)/\e.length+j<=100000/\Xl=PN j (.bl true)/\U=[H,G]/\M'=M) (λ_ _ _ _ _=>aK) ?_ ?_ ?_ _ _ _ _ ⟨xs,0,bb,bb,mS xs,F,by omega,rfl,rfl,rfl⟩
    .rintro Xl U M' ⟨e,j,H,G,f,I,O,rfl,rfl,rfl⟩ p J
     simp![Mem.upd_del,ar J,g_,tq];exact am h
    .rintro y P Xl U M' ⟨e,j,H,G,f,I,O,rfl,rfl,rfl⟩ N S _
     cases e with
     |nil=>simp at f
     |cons z e=>
      simp only[Pc,Qm]at f;obtain⟨rfl,rfl⟩:=f;simp only[Pu]at O;simp![];refine aH (d:=.bl true) (λQ' E' q=>cP n z M' Q' E' (I z<|PJ ..) q) ?_;simp![];exact S _ _ _ (by simp;exact fS (by omega)) ⟨e,j+1,_,_,rfl,λw R=>I w (Px _ R),by omega,by rw[U1],rfl,rfl⟩
    .rintro y P Xl U M' ⟨e,j,H,G,f,I,O,rfl,rfl,rfl⟩
     simp;exact fS (by omega)
  |lst xs=>
   cases n with
   |zero=>exact F.elim
   |succ n=>
    obtain⟨T,F⟩:=F;simp![oR,iS,i6,i7,i8,i9,i10,t1,t2,t3,t4,t5,aJ];rw[if_neg (by decide),if_neg (by decide),if_neg (by decide)]
    refine bZ (λP Xl U M'=>∃(e:List D)(j:Nat)(H G:Option D),P=e.map (λz=>D.tup [z,z])/\(∀z∈e,HF n z)/\e.length+j<=100000/\Xl=PN j (.bl true)/\U=[H,G]/\M'=M) (λ_ _ _ _ _=>aK) ?_ ?_ ?_ _ _ _ _ ⟨xs,0,bb,bb,mS xs,F,by omega,rfl,rfl,rfl⟩
    .rintro Xl U M' ⟨e,j,H,G,f,I,O,rfl,rfl,rfl⟩ p J
     simp![Mem.upd_del,ar J,g_,tq];exact am h
    .rintro y P Xl U M' ⟨e,j,H,G,f,I,O,rfl,rfl,rfl⟩ N S _
     cases e with
     |nil=>simp at f
     |cons z e=>
      simp only[Pc,Qm]at f;obtain⟨rfl,rfl⟩:=f;simp only[Pu]at O;simp![];refine aH (d:=.bl true) (λQ' E' q=>cP n z M' Q' E' (I z<|PJ ..) q) ?_;simp![];exact S _ _ _ (by simp;exact fS (by omega)) ⟨e,j+1,_,_,rfl,λw R=>I w (Px _ R),by omega,by rw[U1],rfl,rfl⟩
    .rintro y P Xl U M' ⟨e,j,H,G,f,I,O,rfl,rfl,rfl⟩
     simp;exact fS (by omega)
  |_=>cases n<;>exact F.elim
theorem kh(n:Nat):∀ks:List Nat,fits n (gI ks)=true
 |[]=>by cases n<;>rfl
 |k::ks=>by
  have:=kh n ks;show fits n (.int (k:Int)::gI ks)=true;cases n<;>simp[fits,bF,this]
theorem Oo{ks:List Nat}:ia M (.int (i:Int)) (.tup<|gI ks)=ap (decide (i∈ks)):=by
 have e:gI ks=(ks.map λ(i:Nat)=>(Qz (i:Int):aB)).map kD:=by unfold gI;rw[PB];rfl
 have f:=kh 60 ks;simp only[ia,aE,dv,bF,f,and_self,if_true];congr 1;rw[e];have:=BC (ks:=ks.map λ(i:Nat)=>(Qz (i:Int):aB)) (k:=.inl (i:Int));show (((ks.map λ(i:Nat)=>(Qz (i:Int):aB)).map kD).any λd=>aN d (kD<|.inl (i:Int)))=_;rw[this];refine decide_eq_decide.mpr ?_;constructor
 .intro h
  obtain⟨j,F,G⟩:=Pq.mp h;have:(j:Int)=(i:Int):=S6 G;have:j=i:=by lia
  rw[<- this];exact F
 .intro h
  exact Pq.mpr ⟨i,h,rfl⟩
section
theorem tV{A B:List Nat}(R:B.length<=1000)(h:Q (.bl<|decide (∀i∈B,i∈A)) M):lq ad [.tup (gI A),.tup (gI B)] M Q E:=by
 rw[O4];unfold yd;simp only[av,ai,al,aJ,bo,ac,dt,OZ,aE,b6,aY,Pc,PK,Py,Pw,PY];refine bT (λd=>match d with|.int i=>!decide (i.toNat∈A)|_=>true) id aK (by simp[gI];lia) (λx G K q=>?_) (λx G _ K q=>q) ?_
 .obtain⟨i,f,rfl⟩:=Pq.mp G
  simp only[ak,ai,ac,dt,OZ,lg,Oo];simpa using q
 intro p I;refine bS I ?_;simp only[bp,af];refine⟨bg (by simp),λP F=>bS F ?_⟩
 have e:((gI B).filter λd=>match d with|.int i=>!decide (i.toNat∈A)|_=>true).map id=gI (B.filter λi=>!decide (i∈A)):=by
  unfold gI;rw[Qw,Qc];rfl
 rw[e];have O:=kh 59 (B.filter λi=>!decide (i∈A));simp only[bG,dv,bF,O,fits,aN];refine⟨trivial,trivial,am ?_⟩;have J:e_ (gI (B.filter λi=>!decide (i∈A))) []=decide (∀i∈B,i∈A):=by
  by_cases c:∀i∈B,i∈A
  .rw[decide_eq_true c]
   have:B.filter (λi=>!decide (i∈A))=[]:=by
    rw[Rc];intro i f;simp[c i f]
   rw[this];rfl
  .rw[decide_eq_false c]
   refine cq λz=>c λi f=>Rt λn=>?_;have:i∈B.filter λi=>!decide (i∈A):=Pf.mpr ⟨f,by simp[n]⟩
   have H:(gI (B.filter λi=>!decide (i∈A))).length=0:=z;rw[gI,Pa]at H;rw[QE H]at this;cases this
 rw[J];exact h
variable{t:Sta}
theorem Ag(G:us.Nodup)(F:B<2 ^ us.length):(PD us.length).filter (λi=>decide ((us[i]?).getD (.inl 0)∈nI us B))=aQ B:=by
 rw[cQ F];refine QH λi f=>?_;have f:=PR.mp f;have e:(us[i]?).getD (.inl 0)=us[i]:=by rw[Pb f];rfl
 rw[e];have:=zb G F (Q5 f);rw[G.idxOf_getElem i f]at this;cases h:B.testBit i with
 |true=>exact decide_eq_true (this.mpr h)
 |false=>exact decide_eq_false λz=>by rw[this.mp z]at h;cases h
theorem Ky(h:ks.length<=1000):HF (n+1) (.lst<|ks.map kD):=by
 refine⟨by rw[Pa];lia,λx e=>?_⟩
 obtain⟨k,_,rfl⟩:=Pq.mp e;cases k<;>cases n<;>trivial
theorem iR(o:C.Ok)(Y:SOk C s)(X:SOk C t)(O:B<2 ^ (aS C s t).length)(h:Q (j8 B) M):tR ad [bC C s t,ql (nI (aS C s t) B)] M Q E:=by
 have ul:=fg (s:=s) (t:=t) o;have P:=kJ (s:=s) (t:=t) o;have nl:=eW O;generalize J:aS C s t=us at *;rw[MM];unfold xl;simp only[ah,ao,al,aj,aa,af,ac,dt];refine⟨rfl,aq λQ' E' W _=>jI o Y X λp R=>W _ _ (bS R ?_)⟩;rw[J];simp only[ag,Pp];unfold sg;simp only[ah,aC,dX,bI,br,aa,af,ac,dC,dt,OZ,cG,ql,df,t5,i10,u_,Qk,Pr,if_false,aw,if_true];unfold rS;simp only[ah,bf,bJ,aJ,cM,br,aa,af,ac,dt,OZ,bY,aE,Pa,aY,Pc,PK,Py,Pw,PY];refine⟨trivial,by lia,by lia,?_⟩
 simp only[Pn];have e:∀{i:Nat},i<us.length->atI (us.map kD) ((i:Nat):Int)=ap (kD<|(us[i]?).getD<|.inl 0):=λ{i} f=>by
  rw[bi (by lia),Pn,Ph,Pb f];rfl
 refine bT (λd=>match d with|.int i=>decide ((us[i.toNat]?).getD (.inl 0)∈nI us B)|_=>true) id aK (by simp[cj];lia) (λx F K q=>?_) (λx F _ K q=>q) ?_
 .obtain⟨i,f,rfl⟩:=Pq.mp F
  have f:=PR.mp f;have G:(0:Int)+(i:Nat)=(i:Nat):=by lia
  rw[G]at q ⊢;refine D3 (k:=(us[i]?).getD (.inl 0)) (ks:=nI us B) (λK q=>?_) (λK q=>q) (by simpa using q)
  simp only[ai,ac,dt,OZ,au,aE,e f];exact q
 intro p3 I;simp only[cu,Pp,dt,OZ,Mem.upd_same,Mem.upd_del,ar I];have T:((cj 0 us.length).filter λd=>match d with|.int i=>decide ((us[i.toNat]?).getD (.inl 0)∈nI us B)|_=>true).map id=gI (aQ B):=by
  unfold cj gI;rw[Qw,Qc,<- Ag P O];have G:∀i:Nat,(0:Int)+(i:Nat)=(i:Nat):=λi=>by lia
  simp only[Sh,G,Pn]
 rw[T];unfold sw;simp only[av,jq,bI,al,aj,aa,af,ac,dt,OZ,aJ,bo,aE,b6,aY,Pc,PK,Py,Pw,PY];refine dJ (λd=>match d with|.int i=>kD ((us[i.toNat]?).getD<|.inl 0)|_=>.non) aK (by simp[gI];lia) (λx F K q=>?_) ?_
 .obtain⟨i,f,rfl⟩:=Pq.mp F
  have f:=((bP O).mp f).1;simp only[ai,ac,dt,OZ,au,aE,e f];simpa using q
 intro Z H;refine bS H ?_;have S:(gI<|aQ B).map (λd=>match d with|.int i=>kD ((us[i.toNat]?).getD<|.inl 0)|_=>.non)=(nI us B).map kD:=by
  unfold gI nI;rw[PB,PB];exact PZ λi _=>by simp
 rw[S];refine⟨rfl,aH (λ_ _ q=>cP 23 _ _ _ _ (Ky<|by unfold nI;rw[Pa];lia) q) ?_⟩
 simp only[frz,u_,if_true,br,aa,af,ac,dt,OZ,bA,eY];exact am h
end
section
variable{v:Nat->Str}
noncomputable def nM(v:Nat->Str)(n:Nat):List Nat:=(PD<|2 ^ n).filter λB=>decide (v B=("faulty":Str))
noncomputable def qP(v:Nat->Str)(n:Nat):List Nat:=(PD<|2 ^ n).filter λB=>!decide (v B=("faulty":Str))
noncomputable def uH(v:Nat->Str)(n:Nat)(A:Nat):Bool:=(qP v n).any λB=>decide (∀i∈aQ A,i∈aQ B)
theorem cau_in:B∈nM v n↔B<2 ^ n/\v B=("faulty":Str):=by unfold nM;rw[Pf,PR,decide_eq_true_eq]
theorem oth_in:B∈qP v n↔B<2 ^ n/\v B≠("faulty":Str):=by unfold qP;rw[Pf,PR];simp
theorem wO(e:n<=5):2 ^ n<=32:=(Qo (by decide) e:2 ^ n<=2 ^ 5)
theorem Gf{l:List Nat}:(l.map ie).map zH=l.map j8:=by rw[PB];exact PZ λB _=>EL
theorem vQ{l:List Nat}{p:Nat->Bool}(I:∀B∈l,B<2 ^ n):∃H:D->Bool,(∀A∈l,H (j8 A)=p A)/\((l.map j8).filter H).map id=(l.filter p).map j8:=by
 have G:∀A,gI (aQ A)=(ie A).map kD:=λA=>by unfold gI ie;rw[PB];rfl
 have h:∀A∈l,(l.filter λB=>aN (j8 A) (j8 B)).any p=p A:=λA f=>by
  have e:l.filter (λB=>aN (j8 A) (j8 B))=l.filter λB=>decide (B=A):=by
   refine QH λB F=>?_;unfold j8;rw[aN,G,G,yk];exact decide_eq_decide.mpr ⟨λz=>(kN (I A f) (I B F) z).symm,λz=>by rw[z]⟩
  rw[e,T3,Q6];constructor
  .rintro⟨B,F,O⟩
   have:=of_decide_eq_true (Pf.mp F).2;rw[<- this];exact O
  .exact λJ=>⟨A,Pf.mpr ⟨f,by simp⟩,J⟩
 refine⟨λd=>(l.filter λA=>aN d (j8 A)).any p,h,?_⟩;rw[Qw,Qc];congr 1;exact QH λA f=>h A f
theorem BI{p:Nat->Bool}{ok:Mem->Prop}{Q:List D->Mem->Prop}{O:BxC (ag 0) tt (ac 0) ok Q}{c:Option D}(I:n<=5)(P:ok M)(J:∀B<2 ^ n,∀K:Bool->Mem->Prop,K (p B) M->tt [ap (j8 B),ap (G3 v n)] M K)(h:Q (((PD<|2 ^ n).filter p).map j8) M):bV (ag 0) tt (ac 0) ok Q O (((PD<|2 ^ n).map ie).map zH) [] [c,ap (G3 v n)] M:=by
 have R:=wO I;rw[Gf];obtain⟨G,f,H⟩:=vQ (n:=n) (l:=PD (2 ^ n)) (p:=p) λB e=>PR.mp e;refine bT G id P (by simp;lia) (λx F K q=>?_) (λx F _ K q=>q) (by rw[H];exact h)
 obtain⟨B,e,rfl⟩:=Pq.mp F;exact J B (PR.mp e) K (by rw[<- f B e];exact q)
theorem y4{R:DIt->Mem->Prop}(e:U[i]?=ap (ap<|G3 v n))(h:R ⟨((PD<|2 ^ n).map ie).map zH,[]⟩ M):um (ac i) U M R:=by
 simp only[um,ac,e,G3];exact h
theorem OH{K:Bool->Mem->Prop}(e:B<2 ^ n)(q:K (decide (v B=("faulty":Str))) M):ak (ai bG (ai nN (ac 1)<|ac 0)<|dC<|.str "faulty") [ap (j8 B),ap (G3 v n)] M K:=by
 simp only[ak,ai,ac,dC,dt,OZ];refine xy e ?_;simp only[bG,dv,bF,aN];exact⟨trivial,trivial,q⟩
theorem Ny{K:Bool->Mem->Prop}(e:B<2 ^ n)(q:K (!decide (v B=("faulty":Str))) M):ak (ai f_ (ai nN (ac 1)<|ac 0)<|dC<|.str "faulty") [ap (j8 B),ap (G3 v n)] M K:=by
 simp only[ak,ai,ac,dC,dt,OZ];refine xy e ?_;simp only[f_,dv,bF,aN];exact⟨trivial,trivial,q⟩
theorem JN{l:List Nat}{p:Nat->Bool}:e_ ((l.filter p).map λ_=>D.int 1) []=!l.any p:=by
 cases c:l.any p with
 |true=>
  obtain⟨x,e,h⟩:=Q6.mp c;refine (cq λz=>?_).trans rfl;rw[Pa]at z;have:x∈l.filter p:=Pf.mpr ⟨e,h⟩;rw[QE z]at this;cases this
 |false=>
  have:l.filter p=[]:=Rc.mpr λx e f=>by
   have:=Q6.mpr ⟨x,e,f⟩;rw[c]at this;cases this
  rw[this];rfl
theorem MU{A:Nat}{K:Bool->Mem->Prop}(T:n<=5)(W:A<2 ^ n)(q:K (uH v n A) M):
  ak (ai f_ (al<|aJ (bo<|ac 1) ["more"] [0] (ag 0) (bI<|al<|aj (lq ad) oW 2<|aa (ac 0)<|aa (ac 1) af)<|dC<|.int 1)<|al<|bp af) [ap (j8 A),ap (.lst<|(qP v n).map j8)] M K:=by
 have P:=wO T;have O:(qP v n).length<=32:=PL (P2 _ _) (by rw[QW];exact P)
 have H:∀B∈qP v n,B<2 ^ n:=λB F=>(oth_in.mp F).1;obtain⟨J,G,S⟩:=vQ (l:=qP v n) (p:=λB=>decide (∀i∈aQ A,i∈aQ B)) H;simp only[ak,ai,al,aJ,bo,ac,dt,OZ,aE,b6,aY,Pc,PK,Py,Pw,PY];refine bT J (λ_=>.int 1) aK (by simp;lia) (λx I K q=>?_) (λx I _ K q=>q) ?_
 .obtain⟨B,F,rfl⟩:=Pq.mp I
  simp only[bI,al,aj,aa,af,ac,dt,OZ];refine⟨rfl,aH (λ_ _ q=>tV (by have:=eW W;lia) q) ?_⟩
  simp only[frz,u_];rw[G B F]at q;exact q
 intro Y h;refine bS h ?_;simp only[bp,af];refine⟨bg (by simp),λX f=>bS f ?_⟩
 have e:(((qP v n).map j8).filter J).map (λ_=>D.int 1)=((qP v n).filter λB=>decide (∀i∈aQ A,i∈aQ B)).map λ_=>D.int 1:=by
  have:=congrArg (List.map λ_=>D.int 1) S;rw[Qw,PB]at this;exact this
 rw[e];have R:∀l:List Nat,fits 59 (l.map λ_=>D.int 1)=true:=λl=>by
  induction l with
  |nil=>rfl
  |cons _ _ ih=>simp[fits,bF,ih]
 simp only[f_,dv,bF,R,fits,aN,JN,Bool.not_not];exact⟨trivial,trivial,q⟩
theorem yy{q:ca}{xs ys:List D}(G:M p=bb)(H:M q=bb)(ne:p≠q)(h:Q (.tup [.str w,.lst xs,.lst ys]) M):frzT (.tup [.str w,.ref p,.ref q]) ((M.upd p<|.lst xs).upd q<|.lst ys) Q:=by
 have e:((M.upd p<|.lst xs).upd q<|.lst ys) p=ap (.lst xs):=by rw[ae ne,Mem.upd_same]
 have f:(((M.upd p<|.lst xs).upd q<|.lst ys).del p) q=ap (.lst ys):=by unfold Mem.del;rw[if_neg ne.symm,Mem.upd_same]
 have F:(((M.upd p<|.lst xs).upd q<|.lst ys).del p).del q=M:=by
  funext c;unfold Mem.del Mem.upd
  split
  .rename_i z;rw[z,H]
  .split
   .rename_i z;rw[z,G]
   .rfl
 simp only[frzT,frzs,frz,e,f,F];exact h
end
theorem zO(ad:Ad)(ns:Xq)(hl:ns.length<=63):AL ad [.ml (ns.map D.int)] (λ_=>bb) (λd _=>d=.bl true) oW:=by
 have fi':∀{v:Int}{M:Mem}{Q:DK},Q (.int v) M->frz (.int v) M Q:=λz=>z;have fb':∀{v:Bool}{M:Mem}{Q:DK},Q (.bl v) M->frz (.bl v) M Q:=λz=>z;have ft':∀{xs:List D}{M:Mem}{Q:DK},Q (.tup xs) M->frz (.tup xs) M Q:=λz=>z;rw[Oy];unfold xo;simp only[ah,ao,aj,aa,af,ac,dt];refine⟨rfl,aq λQ' E' hq _=>Bu λk M1 hk _=>hq _ _ ?_⟩;simp only[ag,Pp];unfold mx;simp only[ah,ao,al,aj,aa,af,ai,ac,dC,dt,OZ];refine⟨rfl,aO hk (by decide) (by decide) λr M2 a2 b2 d2=>fi' ?_⟩
 simp only[ba];obtain⟨few,hfew,f1,f5⟩:∃few:Nat,1+r=(few:Int)/\1<=few/\few<=5:=⟨(1+r).toNat,by lia,by lia,by lia⟩
 rw[hfew];refine⟨rfl,aq λQ' E' hq _=>zK f1 f5 d2.1 λC s t M3 c q3=>hq _ _ (AO ?_)⟩;obtain⟨a,b,ea,eb,hab⟩:=c.two;have hu:=c.un;have hn:(aS C s t).length<=5:=by lia
 have hp5:=wO hn;have hasks:=Ao (C:=C) (s:=s) (t:=t);simp only[ag,Pp];unfold mH;simp only[ah,ao,Dq,aj,aa,af,ac,dt,OZ];refine⟨rfl,aq λQ' E' hq _=>nU c.o c.hs c.ht ea eb (by lia) hab λp hp=>hq _ _ (EU hp ?_)⟩
 simp only[ag,Pp];unfold lR;generalize hv:vB C s t a b=v at *;generalize hnn:(aS C s t).length=n at *;simp only[ah,bf,bJ];unfold aJ;refine y4 rfl ?_;simp only[aY,Pc,PK,Py,Pw,PY,dt,OZ];refine BI (p:=λB=>decide (v B=("faulty":Str))) hn aK (λB hB K q=>OH hB q) ?_;intro p5' hp5';simp only[cu,Pp,dt,OZ,Mem.upd_same,Mem.upd_del,ar hp5'];unfold m5;simp only[ah,ao,al];unfold aJ;refine y4 rfl ?_;simp only[aY,Pc,PK,Py,Pw,PY,dt,OZ];refine BI (p:=λB=>!decide (v B=("faulty":Str))) hn aK (λB hB K q=>Ny hB q) ?_;intro p6 hp6;refine bS hp6 ?_;simp only[ag,Pp];unfold rZ;have hlc:(nM v n).length<=32:=PL (P2 _ _) (by rw[QW];exact hp5)
 have hcin:∀B∈nM v n,B<2 ^ n:=λB hB=>(cau_in.mp hB).1;obtain⟨p',hp',ep⟩:=vQ (l:=nM v n) (p:=uH v n) hcin;have odd':=λ(A:Nat)(K:Bool->Mem->Prop)(hA:A<2 ^ n)(q:K (uH v n A) M3)=>MU (ad:=ad) (v:=v) hn hA q;generalize hte:ak (ai f_ (al<|aJ (bo<|ac 1) ["more"] [0] (ag 0) (bI<|al<|aj (lq ad) oW 2<|aa (ac 0)<|aa (ac 1) af)<|dC<|.int 1)<|al<|bp af)=te at *;simp only[ah,bf,bJ,aJ,bo,ac,dt,OZ,aE,b6,aY,Pc,PK,Py,Pw,PY];refine bT p' id aK (by rw[Pa];exact PL hlc (by decide)) (λx hx K q=>?_) (λx hx _ K q=>q) ?_
 .obtain⟨A,hA,rfl⟩:=Pq.mp hx
  exact odd' A K (hcin A hA) (by rw[<- hp' A hA];exact q)
 intro p7 hp7;have ep':((((PD<|2 ^ n).filter λB=>decide (v B=("faulty":Str))).map j8).filter p').map id=((nM v n).filter<|uH v n).map j8:=ep;rw[ep'];simp only[cu,Pp,dt,OZ,Mem.upd_same,Mem.upd_del,ar hp7];unfold qo;have ffo:fits 59 (((nM v n).filter<|uH v n).map j8)=true:=by
  have:∀l:List Nat,fits 59 (l.map j8)=true:=λl=>by
   induction l with
   |nil=>rfl
   |cons A l ih=>simp[fits,ih,j8,bF,kh]
  exact this _
 simp only[ah,ao,fK,vX,aa,af,ac,dt,OZ];refine⟨rfl,aq λQ' E' hq _=>o5 (L:=500) c.o c.hs c.ht ea eb hab (by lia) (by lia) (by decide) (λno=>hq _ _ ?_) (λx hx y hy hxv hyv h0 p q hp hq' npq=>hq _ _ (yy hp hq' npq ?_))⟩
 .simp only[frzT,frzs,frz,ag,Pp]
  unfold kO;have e0:(nM v n).filter (uH v n)=[]:=by
   rw[Rc];intro A hA hodd;obtain⟨B,hB,sb⟩:=Q6.mp hodd;have hA':=cau_in.mp hA;have hB':=oth_in.mp hB;obtain⟨x,hx,y,hy,xv,yv,dis⟩:=BG (C:=C) (s:=s) (t:=t) (a:=a) (b:=b) ⟨A,B,(xf hA'.1 hB'.1).mpr (of_decide_eq_true sb),by rw[hv];exact hA'.2,by rw[hv];exact hB'.2⟩
   exact no x hx y hy xv yv (and_0.mpr dis)
  rw[e0];generalize lb ad (aM oW)=K6;simp only[ah,aC,ak,ai,al,ac,bp,af,dt,OZ,PK];refine⟨bg (by simp),λp8 hp8=>bS hp8 ?_⟩
  simp only[bG,dv,bF,fits,aN,e_];refine⟨trivial,trivial,?_⟩;rw[if_pos trivial];unfold rC;simp only[av,aj,aa,aP,dC,af,ac,dt,OZ];refine⟨bg (by simp),rfl,aH (λ_ _ q=>cP 23 _ _ _ _ ⟨by simp,λx hx=>by simp only[RK]at hx;subst hx;trivial⟩ q) ?_⟩
  exact am rfl
 .have ox:=k9 hx
  have oy:=k9 hy;rw[hnn]at ox oy;have hA:x.f<2 ^ n:=ox.f;have hB:x.f ||| y.f<2 ^ n:=Tz ox.f oy.f
  have vA:v x.f=("faulty":Str):=by rw[<- hv,LQ hx];exact hxv
  have vBn:v (x.f ||| y.f)≠("faulty":Str):=by rw[<- hv,KC hy (and_0.mp h0)];exact hyv
  have sub:∀i∈aQ x.f,i∈aQ (x.f ||| y.f):=(xf hA hB).mp λi hi=>by rw[RU,hi];rfl
  have inA:x.f∈(nM v n).filter (uH v n):=Pf.mpr ⟨cau_in.mpr ⟨hA,vA⟩,Q6.mpr ⟨_,oth_in.mpr ⟨hB,vBn⟩,decide_eq_true sub⟩⟩;have ne0:e_ (((nM v n).filter<|uH v n).map j8) []=false:=cq λz=>by
   rw[Pa]at z;rw[QE z]at inA;cases inA
  generalize hB':x.f ||| y.f=Bb at*
  generalize hA':x.f=Aa at *;simp only[ag,Pp];unfold kO;simp only[ah,aC,ak,ai,al,ac,bp,af,dt,OZ];refine⟨bg (by simp),λp8 hp8=>bS hp8 ?_⟩
  simp only[bG,dv,bF,ffo,fits,aN,ne0];refine⟨trivial,trivial,?_⟩;rw[if_neg (by simp)]
  simp only[aw];unfold lb;simp only[ah,aC,Al,dX,bI,ak,ai,al,br,aj,aa,af,ac,dC,dt,OZ,cG,df,t4,i4,u_,Qk,Pr,if_false,bY,aE,f_,dv,bF,aN,au,atI_0];refine⟨trivial,trivial,trivial,?_⟩;rw[if_neg (by simp)]
  refine⟨rfl,aH (λ_ _ q=>cP 23 _ _ _ _ (show HF 23 (.str "odd") from trivial) q)<|fb' ?_⟩;simp only[u_,Qk,Pr,if_false,aw];unfold r8;simp only[ah,ao,al,aj,aa,af,ai,ac,dC,dt,OZ,au,aE,atI_1];refine⟨rfl,aH (λ_ _ q=>iR (B:=Aa) c.o c.hs c.ht (by rw[hnn];exact hA) q) ?_⟩
  show frz (.tup _) _ _;refine ft' ?_;simp only[ag,Pp];unfold pC;simp only[ah,ao,al,aj,aa,af,ai,ac,dC,dt,OZ,au,aE,atI_2];refine⟨rfl,aH (λ_ _ q=>iR (B:=Bb) c.o c.hs c.ht (by rw[hnn];exact hB) q) ?_⟩
  show frz (.tup _) _ _;refine ft' ?_;simp only[ag,Pp];unfold pT;simp only[ah,aC,Al,dX,bI,ak,ai,al,aj,aa,af,ac,dC,dt,OZ,fP,fL,Pr,if_false];refine⟨rfl,aH (λ_ _ q=>tV (by have:=eW hA;lia) q)<|fb' ?_⟩
  rw[decide_eq_true sub];simp only[u_,Qk,Pr,if_false,aw];unfold qd;have iA:=λ(K:DK)(q:K (.str<|v Aa) M3)=>xy (v:=v) (n:=n) hA q;have iB:=λ(K:DK)(q:K (.str<|v Bb) M3)=>xy (v:=v) (n:=n) hB q;unfold av jN;simp only[ai,ac,dC,dt,OZ];refine iA _ ?_;simp only[bG,dv,bF,aN,vA];refine⟨trivial,trivial,?_⟩;simp only[decide_true];refine iB _ ?_;simp only[f_,dv,bF,aN,decide_eq_false vBn,QF];refine⟨trivial,trivial,?_⟩;simp only[al,aj,aa,af,ai,fK,ac,dC,dt,OZ];refine⟨rfl,aq λQ' E' hq _=>o5 (L:=64) c.o c.hs c.ht ea eb hab (by lia) (by lia) (by decide) (λno=>absurd (by rw[hA'];exact h0) (no x hx y hy hxv hyv)) (λx' hx' y' hy' _ _ _ p q hp hq' npq=>hq _ _ (yy hp hq' npq ?_))⟩
  simp only[au,aE,atI_0,dt];refine⟨rfl,aH (λ_ _ q=>cP 23 _ _ _ _ (show HF 23 (.str "odd") from trivial) q)<|fb' ?_⟩;exact am rfl
noncomputable def Cs(K:Pg):Sp:=λe H Q _=>∃(a:ca)(ns:Xq),e=[.ref a]/\AY H/\SqL K H a (ns.map V.int)/\ns.length<=63/\∀H',Q (.bl true) H'
theorem IR{l:W.OpenLaw}{w:fe}{K:Pg}{h:fx}{mg:Xy}{fa C_Ends C_Going C_Outcome C_Walk C_Dry C_NoCase C_TooMany f1 f2 f3 f4 f5 f6 f7 f8 f9 f10 f11 f12 f13 f14 f15 f16 f17 f18 f19 f20 f21 f22 f23 f24 f25 f26 f27 f28 f29 f30 f31 f32 f33 f34 f35 f36 f37 f38 f39 f40 f41 f42 f43 f44 f45 f46 f47 f48 f49 f50 f51 f52 f53 f54 f55 f56 f57 f58 f59 f60 f61 f62 f63 f64 f65 f66:ca}(X:K.In h)(G:h.Ns eg mg)(hfa:mg "law"=ap (.ref fa)){e1 e2 e3 e4 e5 e6 e7 e8 e9 e10 e11 e12 e13 e14 e15 e16 e17 e18 e19 e20 e21 e22 e23 e24 e25 e26 e27 e28 e29 e30 e31 e32 e33 e34 e35 e36 e37 e38 e39 e40 e41 e42 e43 e44 e45 e46 e47 e48 e49 e50 e51 e52 e53 e54 e55 e56 e57 e58 e59 e60 e61 e62 e63 e64 e65 e66:ff}(aC_Ends:QN K eg "Ends"=ap (ap<|.ref C_Ends))(Y:QN K eg "Going"=ap (ap<|.ref C_Going))(J:QN K eg "Outcome"=ap (ap<|.ref C_Outcome))(aC_Walk:QN K eg "Walk"=ap (ap<|.ref C_Walk))(aC_Dry:QN K eg "Dry"=ap (ap<|.ref C_Dry))(S:QN K eg "NoCase"=ap (ap<|.ref C_NoCase))(R:QN K eg "TooMany"=ap (ap<|.ref C_TooMany))(l1:Mf K C_Walk "__init__" "Walk.__init__" OE f1 e1)(l2:Mf K C_Walk "note_step" "Walk.note_step" OR f2 e2)(l3:Mf K C_Walk "look" "Walk.look" IE f3 e3)(l4:Nf K "run" IG f4 e4)(l5:Nf K "mark" IF f5 e5)(l6:Nf K "do_rows" GS f6 e6)(l7:Af K "do_row_runs" "do_row" G_ f7 e7)(l8:Nf K "do_if" He f8 e8)(l9:Nf K "do_again" GT f9 e9)(l10:Nf K "number_of" GP f10 e10)(l11:Nf K "piece_read" Hk f11 e11)(l12:Nf K "joined" IA f12 e12)(l13:Nf K "all_things" GO f13 e13)(l14:Nf K "in_order" HV f14 e14)(l15:Nf K "number_in" Io f15 e15)(l16:Nf K "names_read" Ir f16 e16)(l17:Nf K "unlike" GR f17 e17)(l18:Nf K "marks" HC f18 e18)(l19:Nf K "unlike_of" II f19 e19)(l20:Nf K "verdict_of" Ht f20 e20)(l21:Mf K C_Going "__init__" "Going.__init__" MN f21 e21)(l22:Mf K C_Going "settled" "Going.settled" O9 f22 e22)(l23:Mf K C_Ends "__init__" "Ends.__init__" ON f23 e23)(l24:Mf K C_Ends "one_more" "Ends.one_more" NJ f24 e24)(l25:Nf K "start" GW f25 e25)(l26:Nf K "put_ahead" HA f26 e26)(l27:Nf K "go_on" Hl f27 e27)(l28:Nf K "asked_by" Hc f28 e28)(l29:Af K "do_row_trees" "do_row" HP f29 e29)(l30:Nf K "mark_of" HY f30 e30)(l31:Nf K "both_ways" Hy f31 e31)(l32:NV K "tree" Ix f32 e32 (500))(l33:Nf K "grown" GN f33 e33)(l34:Mf K C_Outcome "__init__" "Outcome.__init__" Ng f34 e34)(l35:Nf K "outcomes" Hj f35 e35)(l36:Nf K "numbers_of" GU f36 e36)(l37:Nf K "mix_of" Ib f37 e37)(l38:NV K "even" Ia f38 e38 (500))(l39:Nf K "_law_stirred" Im f39 e39)(l40:Nf K "_law_pot" HJ f40 e40)(l41:Nf K "_law_draw" Ha f41 e41)(l42:Nf K "_law_names" Hx f42 e42)(l43:Nf K "_law_row" HM f43 e43)(l44:Nf K "_law_block" HU f44 e44)(l45:Nf K "_law_rows" HX f45 e45)(l46:Nf K "_law_plan" Ip f46 e46)(l47:Nf K "_law_stand" HH f47 e47)(l48:Nf K "_law_becomes" O1 f48 e48)(l49:Nf K "_law_stepped" HZ f49 e49)(l50:Nf K "_law_rounds" HG f50 e50)(l51:Nf K "_law_done" H_ f51 e51)(l52:Nf K "_law_run" GY f52 e52)(l53:Nf K "_law_flat" Hg f53 e53)(l54:Nf K "_law_marks" Ik f54 e54)(l55:Nf K "_law_other" IB f55 e55)(l56:Nf K "_law_by_name" Ig f56 e56)(l57:Nf K "_law_by_piece" ND f57 e57)(l58:Nf K "_law_case" Il f58 e58)(l59:Nf K "_law_things" Hs f59 e59)(l60:Nf K "_law_mixed" Ij f60 e60)(l61:Nf K "_law_subsets" HW f61 e61)(l62:Nf K "_law_verdicts" Nq f62 e62)(l63:Nf K "_law_has" Hb f63 e63)(l64:Nf K "_law_alike" Hn f64 e64)(l65:Nf K "_law_numbers" HN f65 e65)(l66:Nf K "law" jz f66 e66)(V5:U4 K C_Dry [.type "ValueError",.type "Exception",.type "BaseException",.type "object"] "ValueError.__new__"=true)(VM:U4 K C_NoCase [.type "ValueError",.type "Exception",.type "BaseException",.type "object"] "ValueError.__new__"=true)(VL:U4 K C_TooMany [.type "ValueError",.type "Exception",.type "BaseException",.type "object"] "ValueError.__new__"=true)(VT:R7 K C_Ends TR=true)(VU:Sb K C_Ends=true)(VV:SU K C_Ends=true)(VW:Qd K (.ref C_Ends) "__setattr__"=ap (ap<|.builtin "object.__setattr__"))(VX:S7 K C_Ends=true)(VY:QG K (.ref C_Ends)=true)(VN:R7 K C_Going TR=true)(VO:Sb K C_Going=true)(VP:SU K C_Going=true)(VQ:Qd K (.ref C_Going) "__setattr__"=ap (ap<|.builtin "object.__setattr__"))(VR:S7 K C_Going=true)(VS:QG K (.ref C_Going)=true)(VE:R7 K C_Outcome TR=true)(VF:Sb K C_Outcome=true)(VG:SU K C_Outcome=true)(VH:Qd K (.ref C_Outcome) "__setattr__"=ap (ap<|.builtin "object.__setattr__"))(VI:S7 K C_Outcome=true)(VJ:QG K (.ref C_Outcome)=true)(VZ:R7 K C_Walk TR=true)(V0:Sb K C_Walk=true)(V1:SU K C_Walk=true)(V2:Qd K (.ref C_Walk) "__setattr__"=ap (ap<|.builtin "object.__setattr__"))(V3:S7 K C_Walk=true)(V4:QG K (.ref C_Walk)=true)(Vx:Qd K (.ref C_Ends) "count"=ap bb)(Vy:Qd K (.ref C_Ends) "limit"=ap bb)(Vz:Qd K (.ref C_Going) "left"=ap bb)(Vs:Qd K (.ref C_Going) "numbers"=ap bb)(Vu:Qd K (.ref C_Going) "pieces"=ap bb)(VA:Qd K (.ref C_Going) "todo"=ap bb)(Vp:Qd K (.ref C_Going) "unsettled"=ap bb)(Vr:Qd K (.ref C_Outcome) "faulty"=ap bb)(Vt:Qd K (.ref C_Outcome) "sound"=ap bb)(Vq:Qd K (.ref C_Outcome) "verdict"=ap bb)(VC:Qd K (.ref C_Walk) "most"=ap bb)(Vv:Qd K (.ref C_Walk) "numbers"=ap bb)(Vw:Qd K (.ref C_Walk) "pieces"=ap bb)(VD:Qd K (.ref C_Walk) "plan"=ap bb)(VB:Qd K (.ref C_Walk) "steps"=ap bb)(z_all:QN K eg "all"=ap bb)(z_bool:QN K eg "bool"=ap bb)(z_dict:QN K eg "dict"=ap bb)(I:QN K eg "enumerate"=ap bb)(z_int:QN K eg "int"=ap bb)(f:QN K eg "isinstance"=ap bb)(z_len:QN K eg "len"=ap bb)(z_list:QN K eg "list"=ap bb)(z_max:QN K eg "max"=ap bb)(z_min:QN K eg "min"=ap bb)(z_range:QN K eg "range"=ap bb)(O:QN K eg "reversed"=ap bb)(z_str:QN K eg "str"=ap bb)(Z:QN K eg "tuple"=ap bb)(z_zip:QN K eg "zip"=ap bb):
  ∃fd:ff,(∀(s:cb)(v:ay),WN s fd ⟨[v],[]⟩ [("script",v)])/\∀P:fx,K.In P->P.Ns eg mg->FnOk l.prog w K mg P CX0 33 fa fd ["script"] (Cs K):=by
 have e:=hfa.symm.trans (Sr X G l66.a);cases e;obtain⟨_,_,kV,dc,pm,an,cd,ct,_,rfl,_⟩:=l66.F.ex;refine⟨R8 "law" "law" (cc jz) (bu jz) (aR jz) .none kV dc pm an cd ct,λs v=>.of_eq rfl,λP _ _=>?_⟩
 let ad:Ad:=⟨C_Ends,C_Going,C_Outcome,C_Walk,C_Dry,C_NoCase,C_TooMany,f1,f2,f3,f4,f5,f6,f7,f8,f9,f10,f11,f12,f13,f14,f15,f16,f17,f18,f19,f20,f21,f22,f23,f24,f25,f26,f27,f28,f29,f30,f31,f32,f33,f34,f35,f36,f37,f38,f39,f40,f41,f42,f43,f44,f45,f46,f47,f48,f49,f50,f51,f52,f53,f54,f55,f56,f57,f58,f59,f60,f61,f62,f63,f64,f65,fa,e1,e2,e3,e4,e5,e6,e7,e8,e9,e10,e11,e12,e13,e14,e15,e16,e17,e18,e19,e20,e21,e22,e23,e24,e25,e26,e27,e28,e29,e30,e31,e32,e33,e34,e35,e36,e37,e38,e39,e40,e41,e42,e43,e44,e45,e46,e47,e48,e49,e50,e51,e52,e53,e54,e55,e56,e57,e58,e59,e60,e61,e62,e63,e64,e65,R8 "law" "law" (cc jz) (bu jz) (aR jz) .none kV dc pm an cd ct⟩
 have T:En l.prog w K mg P ad:=⟨⟨VT,VU,VV,VW⟩,
  Sr X G aC_Ends,
  ⟨VN,VO,VP,VQ⟩,
  Sr X G Y,
  ⟨VE,VF,VG,VH⟩,
  Sr X G J,
  ⟨VZ,V0,V1,V2⟩,
  Sr X G aC_Walk,
  Vx,
  Vy,
  Vz,
  Vs,
  Vu,
  VA,
  Vp,
  Vr,
  Vt,
  Vq,
  VC,
  Vv,
  Vw,
  VD,
  VB,
  gX X V5,
  Sr X G aC_Dry,
  gX X VM,
  Sr X G S,
  gX X VL,
  Sr X G R,
  Qr X G z_all,
  Qr X G z_bool,
  Qr X G z_dict,
  Qr X G I,
  Qr X G z_int,
  Qr X G f,
  Qr X G z_len,
  Qr X G z_list,
  Qr X G z_max,
  Qr X G z_min,
  Qr X G z_range,
  Qr X G O,
  Qr X G z_str,
  Qr X G Z,
  Qr X G z_zip,
  gi V3 V4 l1,
  gm l2,
  gm l3,
  gf X G l4,
  gf X G l5,
  gf X G l6,
  ga X G l7,
  gf X G l8,
  gf X G l9,
  gf X G l10,
  gf X G l11,
  gf X G l12,
  gf X G l13,
  gf X G l14,
  gf X G l15,
  gf X G l16,
  gf X G l17,
  gf X G l18,
  gf X G l19,
  gf X G l20,
  gi VR VS l21,
  gm l22,
  gi VX VY l23,
  gm l24,
  gf X G l25,
  gf X G l26,
  gf X G l27,
  gf X G l28,
  ga X G l29,
  gf X G l30,
  gf X G l31,
  gv X G l32 rfl λ_ _ _ _ _ _ _ _=>⟨λ_=>⟨_,rfl,rfl⟩,λ_ _=>⟨_,rfl,rfl⟩⟩,
  gf X G l33,
  gi VI VJ l34,
  gf X G l35,
  gf X G l36,
  gf X G l37,
  gv X G l38 rfl λ_ _ _ _ _ _ _ _=>⟨λ_=>⟨_,rfl,rfl⟩,λ_ _=>⟨_,rfl,rfl⟩⟩,
  gf X G l39,
  gf X G l40,
  gf X G l41,
  gf X G l42,
  gf X G l43,
  gf X G l44,
  gf X G l45,
  gf X G l46,
  gf X G l47,
  gf X G l48,
  gf X G l49,
  gf X G l50,
  gf X G l51,
  gf X G l52,
  gf X G l53,
  gf X G l54,
  gf X G l55,
  gf X G l56,
  gf X G l57,
  gf X G l58,
  gf X G l59,
  gf X G l60,
  gf X G l61,
  gf X G l62,
  gf X G l63,
  gf X G l64,
  gf X G l65,
  gf X G l66⟩
 exact(Kv<|Lz T).imp λvs H Q E ⟨a,ns,e,hO,hS,hl,k⟩=>by subst e;exact Ed hO hS (zO ad ns hl) k
theorem walk{l:W.OpenLaw}{q:eC}{loose:Xr}{XP:(Str->Option ay)->fx->Prop}{YP:fe->fx->Prop}{d:DefRec}{K:Params->Pg}(P:l.most=ap 63)(H:d.params.defaults=[])(R:∀(w:fe)(h:fx),YP w h->(K w.params).In h)(F:∀(w:fe)(G:Xy)(fa:ca)(h:fx),(K w.params).In h->h.Ns eg G->G d.name=ap (.ref fa)->
   ∃fd:ff,(∀(s:cb)(u:ay),WN s fd ⟨[u],[]⟩ [("script",u)])/\∀e:fx,(K w.params).In e->e.Ns eg G->FnOk l.prog w (K w.params) G e CX0 33 fa fd ["script"] (Cs<|K w.params)):
  W.WalkO q loose XP YP l.row.toRowW d [] (λf vs=>U3 f vs):=
 _2.Eg (n:=63) (k:=33) (x:="script") (CX:=λ_=>CX0) (sp:=λw=>Cs (K w.params)) P (by decide) H ⟨rfl,by decide,by decide,rfl⟩ R F (λ_ _ a ns O I J=>⟨a,ns,rfl,I,J,O,λ_=>rfl⟩) λ_ _ _ _ _ z=>z
end _T
open PySem PySem.W PyProof.Rows
structure PySem.W.Fast:Prop where
 (tw119502294819976023 tw8379606851479907409 tw9905230228305786334 tw9637372861359915 tw10166826698645950228 tw8998049599047422310 tw952651854553017105 tw12944876726347137171 tw918138578592472524 tw15934433604462750777 tw6259722917571812000 tw5865569405772086855 tw18279864919107963816 tw11522978456693889869 tw7691501133218707596 tw3991366559913381262 tw7563840781361063019 tw4850711761365966146 tw8262649895631063792 tw6594044214026203970 tw6531159233207871125 tw6263325684279453635 tw9511650426187425555 tw8152280744798565798 tw18243009030314748741 tw10002070203412834204 tw13299311746595232566 tw5183997403154589969 tw6160818396494861209 tw10000249299222038713 tw17645803228222614599 tw12485960809866240664 tw15522646329752861960 tw14526821850742001537 tw8340748559732123262 tw2479853345005283246 tw934712221244098903 tw506968099110186277 tw4403794679058799645 tw13347694553510705241 tw1434342189353516735 tw14746201415907206949 tw5211925036038085401 tw8475142165767359232 tw7932438402274202525 tw8857586629494289420 tw14409981111476407284 tw10666675412762535665 tw12111636481969434077 tw5247205464640350379 tw3337573882887440846 tw6990928402332862123 tw8306774556388274564 tw15841386547890369742 tw13015178072863223628 tw10569886823502366718 tw3796578327660809790 tw2122414936291332256 tw7925299135985511577 tw3050772244271293533 tw7687437851639170813 tw4843729477686518114 tw10719615664826720314 tw5871563331056783121 tw17195018467905727493 tw11031596482450426617 tw13657888192432289448 tw5872182996526564884 tw3376009638143203807 tw18306414284802297000 tw6810422967819798389 tw4756472984117755129 tw14449673582407078939 tw3372244232179965554 tw1154378018395855511 tw18108381424103714493 tw11426691088463262328 tw1981019276616244660 tw15829476548241689201 tw13553787451685180461 tw14331689419192799074 tw4454414288074977373 tw14437771630445856336 tw7648687585929497917 tw2507727227508164567 tw5292174171886476955 tw2109277659195009749 tw12940959840006022122 tw12977529232931069840 tw4847079255787978511 tw12744667785683562844 tw16926752526453774159 tw7673844463434991431 tw3116491207137146933 tw9244885283379659097 tw8569650186145099937 tw9854998308968214040 tw9645393654107477353 tw13490114319814663044 tw5826110608886370751 tw4589374613771495532 tw15192986971647452842 tw7674589294902698697 tw11962995535913880323 tw12678337932038886661 tw15592684303775594766 tw1971895434262302199 tw15553577861156946900 tw11684602742869701374 tw16222379146918326086 tw11010390847114405330 tw10369343185907166231 tw7394804845062898136 tw14214206515177899891 tw15258824531879476535 tw6477916446552187348 tw5653056023632548546 tw9343098602211860860 tw11306724197816354927 tw8352476517614631422 tw15092222573068837521 tw6123518473353708770 tw18372548485293357033 tw12198939530782338964 tw12617702693634295088 tw16379833491576431197 tw12347472724044812668 tw11284995734710731177 tw5162078405625127727 tw3214059154760162224 tw17794298807720736036 tw6999508948049177607 tw1172813634449297216 tw14154481812954229794 tw13257930072397517204 tw6704479906680769261 tw16900467200383582263 tw11761673997455027593 tw1692644020227847282 tw14837588315040006508 tw14751101230452695063 tw5199556749557155323 tw4154924563973100273 tw14396270251612067628 tw5039695871519261081 tw9995355065123808169 tw11163077827445271772 tw9736035861112753818 tw17703829390880997981 tw18117372129177811850 tw17365703475536286033 tw11318420461828193775 tw1728429169824849225 tw9311764173918162844 tw1770333894539168859 tw4879064516698855055 tw5282690119105170519 tw7012117380577974214 tw17631515556714122744 tw14659555747574693278 tw3991533831161862803 tw3479111188725829835 tw18348100325605490525 tw10589576760393070063 tw3152812800603653138 tw7451644152428071837 tw7516973822875836404 tw9311892885867284547 tw5401958225330460653 tw4580602308117265842 tw6000353058464540723 tw15932720766346143487 tw4560755807493000323 tw10349597397446390737 tw3977709816061300604 tw9586531927578140045 tw15088355064322238658 tw17513917538873203733 tw6675986826563317020 tw8183737379200790643 tw6700918107683826553 tw14030671428812107262 tw10375166759052872946 tw13060815875118086202 tw11339962823415233950 tw16865651988786276703 tw18151525358001340010 tw8725761312522202083 tw14030863776701078913 tw10687905320348408472 tw1351442222581153457 tw12458222521432406274 tw8206554297914335448 tw10166631605083426463 tw2421927725931724576 tw8392094268745861276 tw3591951358469132927 tw17336550341667641777 tw3653356983693861055 tw724945669076274083 tw16771857664845870371 tw3778641557238182642 tw14118362282574326765 tw5539230089346262328 tw990639007938530841 tw9960385524038641951 tw1882548435744703958 tw13153909736858989338 tw3028751003818069682 tw13470316235661393369 tw1883271615590805153 tw14986726937499043460 tw3646847328876981737 tw14120221928122938861 tw11747271289803748583 tw15734557727238474263 tw17284743819184946737 tw10282561015515121300 tw7158272983981470173 tw7571301088130920327 tw6976861938071458962 tw1745977761272093400 tw18108980042616988692 tw15380595995036644977 tw11365767314547181974 tw14677456650525073340 tw10309757884740340281 tw1214522782097919316 tw18416295808037909459 tw10847377996024035805 tw9519180051811437463 tw235849751986183509 tw13648162808761671279 tw9315858768853331059 tw10315861147104857371 tw14014001023304214316 tw3389484321695651442 tw9121663464786267850 tw7950202315695533602 tw17387130665060837899 tw1468823309651867818 tw11801920808091569020 tw5050663480492649626 tw12547609057006221866 tw17371846427442891303 tw13067747718022152566 tw4746117960751184821 tw13113816568843036548 tw7403498450216253636 tw14895569115711515448 tw10991844588900418437 tw16638789329439941183 tw10786546961554623839 tw4919648711027692730 tw15388238995729819016 tw11361975045133623325 tw5177444179569932686 tw3827857045655295312 tw6220278870195705502 tw15631107672103073193 tw18116844512354524598 tw7803448144355454045 tw4378151118910139923 tw3671922844368059869 tw7558797246344940762 tw14508915925559267905 tw8991938453730611043 tw1906834880127702657 tw11624523444350955588 tw14463999199698614416 tw15147155053385109642 tw10236566645623440207 tw5956033600098961769 tw9318044495647683372 tw18407666544370730915 tw8473598074986978652 tw7575802788902916623 tw10541436236032486152 tw13162082205856376824 tw5593588995926488675 tw14154719709222149765 tw17944233845231993253 tw9296638760433805809 tw2290396866839550532 tw18022565145953245977 tw13580204862895996976 tw7809255111847244167 tw9766707588163226471 tw15474512272522607164 tw10035584604100546832 tw15329643882447766566 tw15402061718434800521 tw4898612319881170385 tw12264219521999820154 tw10296310274392050210 tw4639696802487972458 tw5069622350040081678 tw16312386392289145858 tw1172784998930790134 tw10399131245901629089 tw9892018729211243875 tw6272361448931616419 tw2889956895940162577 tw841950120282355401 tw10788450099889179891 tw12474495027952978912 tw17739413454391844700 tw15337327340756975960 tw16608088644437655081 tw14866980644183863299 tw17537391713352949952 tw15685712176156768231 tw9719137180929656647 tw16394977042259165740 tw11968042017881739517 tw3235714867461307147 tw14181267025150739159 tw1965257854161146937 tw17011593098540745979 tw1480444415589620294 tw15420350712408712168 tw16279365892941005557 tw1259632200104553951 tw5522797483410643863 tw16350787595508850913 tw5051494178420086848 tw18072686683465355228 tw3826321764602912462 tw17191967614326077685 tw11151401868507138268 tw853982114441258828 tw546651427208494647 tw4129219537196449628 tw4553251152898507076 tw3795004648315926537 tw933219663217860145 tw2056905597420894038 tw15698006290858273197 tw1519237676308558729 tw1819999930667456506 tw3171779320249560814:True)
set_option maxRecDepth 100000 in
set_option maxHeartbeats 0 in
theorem PySem.Challenge.cw_twinstride_k44_even_or_odd_holds : PySem.Challenge.rw_twinstride_k44_even_or_odd.Holds := by
 w_on;o_law;k_head;(case hw=>w_witness2)
 k_fill
 refine _T.walk (l:=PySem.Challenge.rw_twinstride_k44_even_or_odd) rfl rfl (λw h Y=>W.kIn_of Y) ?F
 case F=>
  intro w b fa h KX G a;refine' _T.IR KX G a ..
  any_goals k_is
  any_goals (first|refine' _3.Nf.mk ?_ (_2.vG ?_ ?_ ?_)|refine' _3.Mf.mk ?_ ?_ (_2.vG ?_ ?_ ?_)|refine' _3.Af.mk ?_ (_2.vG ?_ ?_ ?_)|refine' _3.Mu ?_ ?_ ?_ ?_ ?_)
  any_goals k_is
  any_goals k_exc
