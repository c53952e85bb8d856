import PyProof.Rows.All
import Wide.All
import OpenK.AllK
import Wide.FinOn
import Lean
import PyProof.EqAt
import PyProof.EqKinds
import PyProof.TupleCall
import PySem.Challenge.RW_twinstride_k53_whole_shares_come_to_one
set_option Elab.async false
set_option linter.all false
set_option maxRecDepth 100000
set_option maxHeartbeats 4000000
set_option compiler.extract_closed false
set_option Elab.async false
set_option linter.all false
set_option maxRecDepth 100000
open Array renaming replicate->Qz,append_assoc->Q1,length_toList->RA,toList->RG,size_append->SN,getElem?_toList->UC,forIn_toList->UY
open Bool renaming false_eq_true->ON,false_ne_true->OW,beq_eq_decide_eq->Pk,and_eq_true->PZ,not_true->P1,false_or->Qo,not_false->Qt,or_false->QY,and_false->Ra,true_or->Sh,and_true->SA,or_true->SY,false_and->TN,and_self->Ub
open False renaming elim->PX
open ForInStep renaming yield->RZ
open Int renaming toNat_natCast->OL,emod_nonneg->PK,emod_lt_of_pos->PY,natCast_mul->QE,natCast_dvd_natCast->Q5,le_refl->Q6,toNat_of_nonneg->RH,eq_ofNat_of_zero_le->Se,add_zero->Sn,zero_add->S7,mul_one->Tu,mul_le_mul_of_nonneg_left->Tv,fdiv_eq_ediv_of_nonneg->T4,mul_ediv_cancel_left->Uk,mul_assoc->Ul,toNat->Uz,mul_ediv_mul_of_pos->UA,dvd_mul_of_dvd_left->UB
open List renaming getElem?_cons_zero->dt,getElem?_cons_succ->Ov,length_map->Ox,map_cons->Oy,getElem?_eq_getElem->Oz,mem_filter->OC,length_cons->OE,size_toArray->OG,length_append->OH,mem_cons_of_mem->OJ,set->OM,getElem?_map->OO,mem_cons->OQ,mem_cons_self->OR,cons_append->OS,nil_append->OU,map_nil->OZ,mem_append_right->Pb,lookup->Pd,replicate->Pe,mem_map->Pf,filter_cons->Pg,mem_append->Ph,getElem?_append_right->Pj,range->Pm,length_nil->Pn,length_filter_le->Po,sum_cons->Pp,not_mem_nil->Pu,append_nil->Pw,getElem?_eq_none->PC,foldl_cons->PF,getElem?_append_left->PJ,replicate_succ->PM,map_congr_left->PN,length_singleton->PV,find?_cons->P2,filter_append->P4,mem_range->P7,filter_map->P9,map_map->Qb,getElem?_eq_some_iff->Qh,map_id->Qj,any_cons->Qn,getElem?_range->Qp,filterMap_cons->Qq,zipIdx_cons->Qr,getElem_mem->Qs,nodup_cons->QC,length_set->QD,idxOf_lt_length_of_mem->QG,flatten_cons->QH,filter_congr->QI,length->QM,range'_succ->QO,lookup_cons->QP,drop_eq_getElem_cons->QT,filter_eq_self->QU,of_mem_zip->QZ,map_append->Q0,range_eq_range'->Rn,range'->Ro,mem_of_getElem?->Rq,mem_map_of_mem->RF,getD_eq_getElem?_getD->RN,getElem?_set->RX,length_take->Sa,filter_eq_nil_iff->Sf,drop_eq_nil_of_le->Sg,length_zip->Sm,mem_append_left->Sq,forIn_nil->Sr,take_succ_eq_append_getElem->SS,sum_nil->SU,nodup_append->SV,length_range->SW,getElem?_nil->SX,eraseIdxIfInBounds_toArray->S6,nodup_range->Ta,isEmpty_nil->Tb,getElem_map->Tc,eq_nil_of_length_eq_zero->Tj,range_succ->Tq,forIn_cons->Tt,mem_or_eq_of_mem_set->T3,getElem?_replicate->Uh,filter_cons_of_pos->Ui,filter_cons_of_neg->Uj,take_of_length_le->Uv,range_succ_eq_map->Uw,getElem_cons_zero->Ux,getElem?_set_self->Uy,dropLast_eq_take->UL,getElem?_set_ne->UP,length_reverse->UW,length_pos_iff->UX,zip_cons_cons->U1,mem_singleton->U2,mem_filterMap->U3,getElem_idxOf->U4,findIdx?_cons->U5
open List.Pairwise renaming filter->Tn,map->TM
open List.cons renaming injEq->Qf
open Nat renaming le_refl->OB,lt_of_lt_of_le->OF,ne_of_lt->OP,le_trans->OV,lt_irrefl->Pq,pow_le_pow_right->Py,le_add_right->P5,zero_le->Qc,ne_of_gt->Qk,lt_or_ge->Ql,gcd->Q3,lt_succ_of_lt->Rg,lt_succ_self->Rj,not_lt_zero->RE,mul_comm->RI,lt_of_le_of_lt->RS,mul_assoc->R6,testBit_lt_two_pow->Sl,mul_le_mul->Ss,div_mul_cancel->SM,zero_add->S2,lt_trans->S3,le_of_succ_le->S4,le_of_eq->S5,zero_testBit->Ti,le_succ->To,testBit_or->T2,gcd_pos_of_pos_left->Uu,min_self->UI,le_of_lt->UJ,add_zero->UK,log2_lt->UU
open Ne renaming symm->Pa
open Option renaming map_some->PQ,join_some->PR,isSome_iff_exists->Qi,map_eq_some_iff->R8,isSome_map->SG,isSome_some->UN,isNone_some->UO,getD_none->U0
open Option.some renaming inj->PH
open PyProof.Rows renaming callWith_type1->Pr,slot_tuple_getitem->PL,envOfC->Rf,assign_Tuple->SK
open PySem renaming mem_of_lookup->Pz,stored->Q7,list_append->SH,Within->Uc,call->UQ
open PySem.Around renaming under_plainId->QJ,under->SF
open PySem.AutoSeq1 renaming sub_tuple_tuple->RM,idx_int->SE
open PySem.Builtin renaming bitAnd->RD,bitOr->So
open PySem.Builtin.Dict renaming updateFrom->QN,pairItems->RL,selfAndRest->SO,addKeywords->SQ
open PySem.Builtin.Int renaming intBits->P6
open PySem.Builtin.Slice renaming slicePlaces->QB,sliceAdjust->Ri,sliceApplied->Sz
open PySem.Builtin.SmallTypes renaming nextOf->Pc,ownedTupleIsFree->Px,ownedTupleHandOut->RK
open PySem.Builtin.Tuple renaming tupleExact->Qe,tupleTooMany->Sw,tupleItemsOf->Sy
open PySem.Calls renaming spliced_cons->Qw,callWith_builtin->Qx,evalArgs_plain->QL,spliced_nil->Q8,Name_function_global->TH
open PySem.Code renaming isFrame->Ut
open PySem.Expr renaming Call->Ug
open PySem.F renaming slot_tuple_mul->Qu,slot_NoneType_hash->QF,slot_tuple_iterator_next->QS,slot_zip_next->Q4,slot_dict_pop->Q9,slot_list_getattribute->Rc,slot_list_append->RC,slot_list_pop->RJ,args_tuple_mul_2->RP,args_tuple_add_2->RQ,plainAttrs_list->RU,entry_tuple_mul->RV,entry_tuple_add->RW,slot_tuple_add->R5,slot_zip_getattribute->Sk,args_list_append_2->Sv,entry_list_append->SJ,args_zip_next_1->Th,slot_tuple_index->TC,entry_zip_next->TF,slot_tuple_rmul->TJ,plainAttrs_dict->TK,args_dict_pop_3->TL,entry_dict_pop->TY,args_tuple_iterator_next_1->TZ,type_list_pop->T7,type_dict_pop->T8,slot_int_rmul->T9,entry_tuple_iterator_next->Ua,args_dict_init_2->UH,entry_dict_init->UM,slot_enumerate_next->UZ
open PySem.Heap renaming get?_push_of_some->Ow,lt_size->OD,get?_push_size->OI,size_push->Pl,SameBut->Qy,ExtBut->Tg,get?_update_other->Ur,get?_update_self->UG
open PySem.Heap.DictOf renaming new->Us
open PySem.Heap.SameBut renaming update->TB
open PySem.NameKind renaming cell->Rb
open PySem.Obj renaming mapSeq->SI
open PySem.Paired renaming length->Qa
open PySem.PyData renaming hasDict->P0,shownAll->QX,showable->Rk,shown->Ry,depth->Rz,showableAll->Su,hasDictAll->SD,depthAll->S9,noDict_hsm->UT
open PySem.SeqAt renaming EqAt->Sb,RcNeAt->Ud,RcAt->US
open PySem.SeqAt.EqAt renaming str_none->TR,none_str->TU,none_int->TV,int_none->TX,str_int->T5,int_str->T6
open PySem.SeqAt.RcAt renaming lists_lengths->S8,tuples->Ue,lists->Uq
open PySem.Shared renaming heap->Uo
open PySem.Str renaming ofString->PD,empty->Tf
open PySem.Txt renaming contains->Rx
open PySem.Value renaming ref->OY,none->Qv,int->QA,bool->QK,str->R0,type->Tz,builtin->TQ,float->UE
open PySem.W renaming Frag->OA,findIn->PB,mg_none_of->PU,keepIn->P8,nsIn->Qd,emptyDict->QR,kia_one->QW,plainGet->Rr,fnOf->Rt,cellsFrom_some->Ru,hasDictIn->RB,mg_of->RO,instObj->RT,plainOver->R7,makesIn->Sj,codeIn->Td,callWith_K->Te,hideAll->Tx,plainGet_of->UD,excIn->UR
open Std.Legacy renaming Range->Um
open String renaming reduceBEq->RY
open Sum renaming inr->OX,inl->Qg
open Sum.inl renaming inj->Rh
open Sum.inr renaming inj->Si
open True renaming intro->Qm
open Bool renaming false->eC
open Option renaming some->ap,none->cm
open PyProof.Rows renaming AllBare->VZ,assignInOrder_cons->Wn,IsTup->Wv,subscriptTail_builtinR->WU,IntsAre->W0
open PySem renaming wpAny_bind->ax,Value->ay,Addr->eg,Shared->el,wpAny->eH,wpAny_pure->eX,starEach->fe,model->ff,mainGlobals->fv,Program->fx,Expr->fy,bootBuiltins->gl,eval->gp,World->g3,FuncData->g4,wpAny_field->g5,binaryOp->hB,Heap->hG,backTo->hI,Around->i5,builtinLookup_eq_fast->j0,compareOp->kc,wpAny_call_entry->kr,wpAny_mono->mu,attributeBase->nr,wpAny_newObj_type->n7,foldedSetIterable->ol,wpAny_holding->om,wpAny_loadPart'->pa,wpAny_seqItems->pt,typeLookup_type->py,wpAny_setField_rec->p3,assignEach->ra,cLine->rc,wpAny_Call_Name_kw->re,Stmt->tm,IsPair->t3,cellsFrom->va,holding->vb,call_meets->vr,swapsWith->wh,rawInt->x9,isSubtype_type->zt,Keyword->z0,wpAny_passesOwn->z4,backToKw->z5,Scope->Pi,wpAny_rule->Ps,typeLookup->Pv,sysModules->PP,pyNext->P3,wpAny_attempt->Re,wpAny_execs_nil->Rs,codeAny->Sc,wpAny_of_eq->SB,wpAny_typeOf->SC,relabel->SL,codeAny_mono->SZ,closureFor->Tk,wpAny_standAt->Tl,sliceBounds->TD,wpAny_specialOf->TW,codeAny_builtin->T0,pushCells->Uf,getMethod->UF,tupleKind_room_in1->UV,getattributeRaised->VW,standAt->VX,field->VY,wpAny_comprehension_free->V0,stored->V1,plainId_quiet->V2,wpAny_isInstance->V3,Operator->V4,valueAt->V5,getItem->V6,PlainAttrs->V7,Paired->V8,pushCells_keeps->V9,letOwnedTupleGo->Wa,newFunctionEnv->Wb,firstArgMember->Wc,entryFor->Wd,assign->We,NameKind->Wf,IsPart->Wg,wpAny_dictSet_pairs->Wh,swapsWithSole->Wi,swappedStores->Wj,behindInMarks->Wl,typeOf->Wm,wpAny_pyIter_list->Wo,callerA->Wp,callWith->Wq,IsZip->Wr,wpAny_execs_cons->Ws,noFill_tuple_add->Wt,sizeLine_eq->Wu,setItem->Ww,BindsTo->Wx,wpAny_newTuple->Wz,isSubtype_stop->WA,entryFor_alias->WB,builtinsNs->WC,bindArgs->WD,atKey->WE,argsOk->WF,Result->WG,Meets->WH,seq_tuple_add->WI,assignInOrder->WJ,Slot->WK,tupleKind->WL,seqItems?->WM,seqIndex?->WN,bindL->WO,bindC->WP,PassesOwn->WQ,DictEntry->WR,wpAny_pyNext_list_item->WS,wpAny_Call_method_late->WT,seqIndex_neg->WV,isTrue->WW,concat_meets->WX,codeAny_compStart_list->WY,callType_new->WZ,wpAny_pyNext_list_end->W1,wpAny_updateSeq_pair->W2,wpAny_raiseAttrError->W3,wpAny_loadName_local->W4,table->W5,setField->W6,seqIndex_of->W7,loadIfAlive->W8,getAttr?->W9,bindName->Xa
abbrev Xj:=List Int
abbrev Xk:=List PySem.Str
abbrev Xl:=List ay
abbrev Xm:=List eg
abbrev Xn:=List fy
abbrev Xo:=List tm
abbrev Xp:=ay->el->Prop
abbrev Xq:=List (eg×PySem.Obj)
abbrev Xr:=PySem.Str->Option ay
abbrev Xs:=Array ay
namespace _2
open PySem PySem.Spec PyProof.Rows
variable{C a b dx f:eg}{A:i5}{X:Cx}{c e tg:fy}{fd:g4}{o:HO}{base h h':hG}{H H':Hp}{Xb:Xq}{kw:List (Str×ay)}{ch fp:Xm}{es:Xn}{body:Xo}{N ps:Xk}{us:Xl}{M:Model}{i j t':Nat}{K:OA}{op:V4}{p pos pos':Pos}{P:fx}{s:el}{sp:Sp}{Z:St}{m x:Str}{mA mg:Xr}{ta tb te:TE}{u:ay}{E Q:Xp}{w:g3}{CX:oA}
abbrev aG:=Sum Int Str
def nj:aG->ay->Bool
 |.inl k,v=>Value.isInt k v
 |.inr x,v=>Value.isStrOf x v
def LQ(w:g3):aG->Int
 |.inl k=>hashInt k
 |.inr x=>hashStr w x
theorem a_:∀{k:aG}{v:ay},nj k v=true->(∃i t,k=Qg i/\v=QA i t)\/(∃x t,k=OX x/\v=R0 x t)
 |.inl i,v,h=>by
  obtain⟨t,e⟩:=Value.isInt_shape (k:=i) (v:=v) h;exact .inl ⟨i,t,rfl,e⟩
 |.inr x,v,h=>by
  obtain⟨t,e⟩:=Value.isStrOf_shape (x:=x) (v:=v) h;exact .inr ⟨x,t,rfl,e⟩
theorem zE(i:Int)(t:Tok):nj (.inl i) (.int i t)=true:=by simp[nj,Value.isInt]
theorem A6(x:Str)(t:Tok):nj (.inr x) (.str x t)=true:=by simp[nj,Value.isStrOf]
theorem Lf(a b:Int):decide ((Qg a:aG)=Qg b)=(a==b):=by
 by_cases e:a=b
 .subst e;simp
 .have h:¬(Qg a:aG)=Qg b:=λq=>e (Rh q)
  rw[decide_eq_false h];exact(beq_eq_false_iff_ne.mpr e).symm
theorem J6(a b:Str):decide ((OX a:aG)=OX b)=decide (a=b):=by
 by_cases e:a=b
 .subst e;simp
 .have h:¬(OX a:aG)=OX b:=λq=>e (Si q)
  rw[decide_eq_false h,decide_eq_false e]
theorem Ld(a:Int)(b:Str):decide ((Qg a:aG)=OX b)=false:=decide_eq_false (λq=>nomatch q)
theorem Iv(a:Str)(b:Int):decide ((OX a:aG)=Qg b)=false:=decide_eq_false (λq=>nomatch q)
def aV(prog:fx)(w:g3):PySem.KeyKind prog w aG where
 is:=nj
 hash:=LQ w
 inj:=λv a b q n=>by
  rcases a_ q with⟨i,t,rfl,rfl⟩|⟨x,t,rfl,rfl⟩
  .rcases a_ n with⟨j,u,rfl,e⟩|⟨y,u,rfl,e⟩
   .injection e with e1 _;rw[e1]
   .exact nomatch e
  .rcases a_ n with⟨j,u,rfl,e⟩|⟨y,u,rfl,e⟩
   .exact nomatch e
   .injection e with e1 _;rw[e1]
 byValue:=λk v h=>by
  rcases a_ h with⟨i,t,rfl,rfl⟩|⟨x,t,rfl,rfl⟩<;>rfl
 pyHash:=λg h=>by
  rcases a_ g with⟨i,t,rfl,rfl⟩|⟨x,t,rfl,rfl⟩
  .exact wpAny_pyHash_int h
  .exact wpAny_pyHash_str h
 eqBool:=λz g h=>by
  rcases a_ z with⟨i,t,rfl,rfl⟩|⟨x,t,rfl,rfl⟩
  .rcases a_ g with⟨j,u,rfl,rfl⟩|⟨y,u,rfl,rfl⟩
   .rw[Lf]at h;exact wpAny_eqBool_int h
   .rw[Ld]at h;exact T6 i t y u _ _ _ _ h
  .rcases a_ g with⟨j,u,rfl,rfl⟩|⟨y,u,rfl,rfl⟩
   .rw[Iv]at h;exact T5 x t j u _ _ _ _ h
   .rw[J6]at h;exact wpAny_eqBool_str h
 «strs»:=λk x t v h=>by
  rcases a_ h with⟨i,u,rfl,e⟩|⟨y,u,rfl,e⟩
  .exact nomatch e
  .injection e with e1 _
   subst e1;cases v<;>rfl
theorem s_(prog:fx)(w:g3)(i:Int)(t:Tok):(aV prog w).is (.inl i) (.int i t)=true:=zE i t
theorem tQ(prog:fx)(w:g3)(x:Str)(t:Tok):(aV prog w).is (.inr x) (.str x t)=true:=A6 x t
inductive V where
 |non|bl (b:Bool)|int (i:Int)|str (x:Str)|byt (b:Array UInt8)|flt (b:UInt64)|ref (a:eg)|ty (n:String)
 deriving DecidableEq
def RelV:V->ay->Prop
 |.non,u=>u=Qv
 |.bl b,u=>u=QK b
 |.int i,u=>∃t,u=QA i t
 |.str x,u=>∃t,u=R0 x t
 |.byt b,u=>∃t,u=Value.bytes b t
 |.flt b,u=>∃t,u=UE b t
 |.ref a,u=>u=OY a
 |.ty n,u=>u=Tz n
abbrev Vals:List V->List ay->Prop:=V8 RelV
theorem Vals.length{xs:List V}(r:Vals xs us):xs.length=us.length:=Qa r
theorem Vals.get:∀{xs:List V}{us:Xl}{i:Nat}{x:V},Vals xs us->xs[i]?=ap x->∃u,us[i]?=ap u/\RelV x u
 |_,_,_,_,.nil,e=>by simp at e
 |_,_,0,_,.cons r _,e=>by simp at e;subst e;exact⟨_,rfl,r⟩
 |_,_,i+1,x,.cons _ t,e=>by
  obtain⟨u,g,n⟩:=Vals.get (i:=i) (x:=x) t (by simpa using e)
  exact⟨u,by simpa using g,n⟩
theorem Vals.set{x:V}{u:ay}(r:RelV x u):∀{xs:List V}{us:Xl}(i:Nat),Vals xs us->Vals (xs.set i x) (us.set i u)
 |_,_,_,.nil=>.nil
 |_,_,0,.cons _ t=>.cons r t
 |_,_,i+1,.cons q t=>.cons q (Vals.set r i t)
theorem Vals.append:∀{xs ys:List V}{us g:Xl},Vals xs us->Vals ys g->Vals (xs++ys) (us++g)
 |_,_,_,_,.nil,s=>s
 |_,_,_,_,.cons r t,s=>.cons r (Vals.append t s)
theorem Vals.take:∀{xs:List V}{us:Xl}(n:Nat),Vals xs us->Vals (xs.take n) (us.take n)
 |_,_,0,_=>.nil
 |_,_,_+1,.nil=>.nil
 |_,_,n+1,.cons r t=>.cons r (Vals.take n t)
theorem Vals.drop:∀{xs:List V}{us:Xl}(n:Nat),Vals xs us->Vals (xs.drop n) (us.drop n)
 |_,_,0,r=>r
 |_,_,_+1,.nil=>.nil
 |_,_,n+1,.cons _ t=>Vals.drop n t
def RelO:Option V->Option ay->Prop
 |some v,ap u=>RelV v u
 |none,cm=>True
 |_,_=>False
def KV{κ:Type}:List (κ×V)->List (κ×ay)->Prop:=V8 λ(p:κ×V)(q:κ×ay)=>p.1=q.1/\RelV p.2 q.2
def kV:aG->V
 |.inl i=>.int i
 |.inr x=>.str x
inductive HO where
  |lst (xs:List V)
  |tup (xs:List V)
  |dK (Xd:List (aG×V))|dT (Xd:List (List aG×V))
  |set (S:Int->Bool) (n:Nat)
  |ins (C dx:eg) (fs:List (Str×V))
  |own (x:eg)
  |xd (fs:List (Str×V))
  |met (f x:eg)
  |rng (lo hi:Int)
  |frz (o:Obj) (u:HO)
  |tbl (ps:Xs)
  |ext (φ:hG->Prop)
abbrev Hp:=eg->Option HO
def upd(H:Hp)(a:eg)(o:HO):Hp:=λb=>if b=a then ap o else H b
theorem upd_same:upd H a o a=ap o:=by unfold upd;rw[if_pos rfl]
theorem aL(h:b≠a):upd H a o b=H b:=by unfold upd;rw[if_neg h]
theorem Oi{u:HO}(h:H a=ap o)(h':H b=ap u)(d:o≠u):a≠b:=by
 intro e;subst e;rw[h]at h';exact d (PH h')
theorem bg(h:H a=ap o)(h':H b=cm):a≠b:=by
 intro e;subst e;rw[h]at h';cases h'
section
variable(P:fx)(w:g3)
def ObjOk(H:Hp)(h:hG)(a:eg):HO->Prop
 |.lst xs=>xs.length<=sizeLine/\∃(Xh:Xl)(n:Nat),Vals xs Xh/\h.get? a=ap { cls:=.type "list",data:=.seq Xh.toArray n }
 |.tup xs=>xs.length<=sizeLine/\∃Xh:List ay,Vals xs Xh/\∃o,h.get? a=ap o/\(o.cls=.type "tuple"/\∃n,o.data=.seq Xh.toArray n)/\o.dict=cm
 |.dK Xd=>Xd.length<=sizeLine/\(a==PP)=eC/\∃vs,KV Xd vs/\h.DictOf (aV P w) a vs
 |.dT Xd=>Xd.length<=sizeLine/\(a==PP)=eC/\∃xs:List (List aG×eg×ay),
   V8 (λ(p:List aG×V)(q:List aG×eg×ay)=>p.1=q.1/\H q.2.1=ap (.tup<|p.1.map kV)/\RelV p.2 q.2.2) Xd xs/\
   ∃o es ep,h.get? a=ap o/\o.ExactDict/\o.data=.dict es ep/\es.toList=xs.map (entryOfKey<|tupleKind<|aV P w)/\(xs.map (·.1)).Nodup
 |.set S n=>h.SetOf (intKind P w) a S n
 |.ins C dx fs=>H dx=ap (.own a)/\fs.length<=1000/\dx≠a/\h.get? a=ap (RT C dx)/\
   ∃mA,h.Ns1 dx mA/\(∀f,RelO (fs.lookup f) (mA f))/\Uc mA (fs.map (·.1))
 |.own _=>∃o,h.get? a=ap o
 |.xd fs=>∃mA,h.Ns1 a mA/\∀f,RelO (fs.lookup f) (mA f)
 |.rng lo hi=>∃t u v,h.get? a=ap { cls:=.type "range",data:=.fields #[.int lo t,.int hi u,.int 1 v] }
 |.frz o u=>h.get? a=ap o/\ObjOk H h a u
 |.tbl ps=>h.get? a=ap { cls:=.none,data:=.fields ps }
 |.met f x=>h.get? a=ap (W.methodObj (.ref f)<|.ref x)
 |.ext φ=>φ h/\(∃o,h.get? a=ap o)/\∀h1 h2:hG,φ h1->(∀o,h1.get? a=ap o->h2.get? a=ap o)->φ h2
def HOk(H:Hp)(h:hG):Prop:=∀a o,H a=ap o->ObjOk P w H h a o
end
section
theorem ObjOk.lt(x:ObjOk P w H h a o):a<h.objs.size:=by
 cases o with
 |lst xs=>obtain⟨_,_,_,_,e⟩:=x;exact OD e
 |tup xs=>obtain⟨_,_,_,_,e,_⟩:=x;exact OD e
 |dK Xd=>obtain⟨_,_,_,_,o,_,_,e,_⟩:=x;exact OD e
 |dT Xd=>obtain⟨_,_,_,_,o,_,_,e,_⟩:=x;exact OD e
 |set S n=>obtain⟨o,_,_,_,e,_⟩:=x;exact OD e
 |ins C dx fs=>obtain⟨_,_,_,e,_⟩:=x;exact OD e
 |own y=>obtain⟨_,e⟩:=x;exact OD e
 |xd fs=>obtain⟨_,⟨_,_,_,e,_⟩,_⟩:=x;exact OD e
 |rng lo hi=>obtain⟨_,_,_,e⟩:=x;exact OD e
 |frz ob u=>obtain⟨e,_⟩:=x;exact OD e
 |tbl ps=>exact OD (show h.get? a=ap _ from x)
 |met f y=>exact OD (show h.get? a=ap _ from x)
 |ext φ=>obtain⟨_,⟨_,e⟩,_⟩:=x;exact OD e
theorem eE{α q:Type}{F G:α->q->Prop}:∀{g:List α}{n:List q},V8 F g n->(∀a b,F a b->G a b)->V8 G g n
 |_,_,.nil,_=>.nil
 |_,_,.cons r t,f=>.cons (f _ _ r) (eE t f)
theorem ObjOk.stay(x:ObjOk P w H h a o)(k:∀b u,(b=a\/H b=ap (.own a))->h.get? b=ap u->h'.get? b=ap u)(O:∀b,H b=ap (.own a)->H' b=ap (.own a))(R:∀b xs,H b=ap (.tup xs)->H' b=ap (.tup xs)):ObjOk P w H' h' a o:=by
 induction o with
 |lst xs=>obtain⟨z,F,n,r,e⟩:=x;exact⟨z,F,n,r,k _ _ (.inl rfl) e⟩
 |tup xs=>obtain⟨z,F,r,g,e,c⟩:=x;exact⟨z,F,r,g,k _ _ (.inl rfl) e,c⟩
 |dK Xd=>obtain⟨z,y,L,r,g,es,B,e,c⟩:=x;exact⟨z,y,L,r,g,es,B,k _ _ (.inl rfl) e,c⟩
 |dT Xd=>
  obtain⟨z,y,xs,r,g,es,B,e,c⟩:=x;exact⟨z,y,xs,eE r λp q z=>⟨z.1,R _ _ z.2.1,z.2.2⟩,g,es,B,k _ _ (.inl rfl) e,c⟩
 |set S n=>obtain⟨g,es,B,t,e,c⟩:=x;exact⟨g,es,B,t,k _ _ (.inl rfl) e,c⟩
 |ins C dx fs=>
  obtain⟨d,z,ne,e,mA,⟨G,es,B,J,c⟩,r⟩:=x;exact⟨O _ d,z,ne,k _ _ (.inl rfl) e,mA,⟨G,es,B,k _ _ (.inr d) J,c⟩,r⟩
 |own y=>obtain⟨g,e⟩:=x;exact⟨g,k _ _ (.inl rfl) e⟩
 |xd fs=>obtain⟨mA,⟨G,es,B,e,c⟩,r⟩:=x;exact⟨mA,⟨G,es,B,k _ _ (.inl rfl) e,c⟩,r⟩
 |rng lo hi=>obtain⟨t,u,v,e⟩:=x;exact⟨t,u,v,k _ _ (.inl rfl) e⟩
 |frz g u ih=>obtain⟨e,q⟩:=x;exact⟨k _ _ (.inl rfl) e,ih q⟩
 |tbl ps=>
  have e:h.get? a=ap { cls:=.none,data:=.fields ps }:=x;show h'.get? a=ap { cls:=.none,data:=.fields ps };exact k a _ (.inl rfl) e
 |met f y=>
  have e:h.get? a=ap (W.methodObj (.ref f)<|.ref y):=x;show h'.get? a=ap (W.methodObj (.ref f)<|.ref y);exact k a _ (.inl rfl) e
 |ext φ=>obtain⟨p,⟨o,e⟩,I⟩:=x;exact⟨I _ _ p λo q=>k _ _ (.inl rfl) q,⟨o,k _ _ (.inl rfl) e⟩,I⟩
theorem HOk.lt(x:HOk P w H h)(e:H a=ap o):a<h.objs.size:=(x a o e).lt
theorem HOk.fresh(x:HOk P w H h)(e:h.objs.size<=a):H a=none:=by
 cases q:H a with
 |none=>rfl
 |some u=>exact absurd (OF (x.lt q) e) (Pq _)
theorem HOk.kept(x:HOk P w H h)(k:∀b u,h.get? b=ap u->h'.get? b=ap u):HOk P w H h':=λa o e=>
 (x a o e).stay (λb u _ q=>k b u q) (λ_ q=>q) λ_ _ q=>q
theorem HOk.laid(x:HOk P w H h)(k:∀b u,h.get? b=ap u->h'.get? b=ap u)(y:h.objs.size<=a)(new:ObjOk P w (upd H a o) h' a o):HOk P w (upd H a o) h':=λb u e=>by
 have n:=x.fresh y
 by_cases g:b=a
 .subst g;rw[upd_same]at e;cases e;exact new
 .rw[aL g]at e
  exact(x b u e).stay (λc v _ q=>k c v q) (λc q=>by rw[aL (bg q n)];exact q) λc z q=>by rw[aL (bg q n)];exact q
end
def Rd(H:Hp)(a:eg)(u:HO):Prop:=H a=ap u\/∃o,H a=ap (.frz o u)
theorem Rd.ok{u:HO}(r:Rd H a u)(x:HOk P w H h):ObjOk P w H h a u:=by
 rcases r with r|⟨o,r⟩
 .exact x a u r
 .obtain⟨_,q⟩:=x a _ r
  exact q
def LN:Option HO->Prop
 |some (.lst _)=>True
 |some (.dK _)=>True
 |some (.dT _)=>True
 |some (.set _ _)=>True
 |some (.ins _ _ _)=>True
 |some (.ext _)=>True
 |_=>False
section
variable{x e:eg}{o':HO}
theorem HOk.write(ok:HOk P w H h)(I:LN (H x))(O:e=x\/H e=ap (.own x))(k:∀b u,b≠e->h.get? b=ap u->h'.get? b=ap u)(J:∃u,h'.get? e=ap u)(new:ObjOk P w (upd H x o') h' x o'):HOk P w (upd H x o') h':=λb u q=>by
 have n:∀c y,H c=ap (.own y)->c≠x:=λc y r z=>by subst z;rw[r]at I;exact I
 have B:∀c G,H c=ap (.tup G)->c≠x:=λc G r z=>by subst z;rw[r]at I;exact I
 by_cases F:b=x
 .subst F;rw[upd_same]at q;cases q;exact new
 .rw[aL F]at q
  by_cases g:b=e
  .have L:H b=ap (.own x):=by
    rcases O with z|z
    .exact absurd (g.trans z) F
    .rw[g];exact z
   rw[q]at L;cases L;obtain⟨v,R⟩:=J;exact⟨v,by rw[g];exact R⟩
  .refine (ok b u q).stay (λc v hc r=>k c v ?_ r) (λc r=>by rw[aL (n c b r)];exact r) λc G r=>by rw[aL (B c G r)];exact r
   rcases hc with rfl|hc
   .exact g
   .rintro rfl
    rcases O with z|z
    .exact n c b hc z
    .rw[hc]at z;cases z;exact F rfl
end
structure Un(fs ex:Xm)(H H':Hp)(h h':hG):Prop where
 keep:∀b o,h.get? b=ap o->H b=cm->b∉fs->b∉ex->h'.get? b=ap o
 slot:∀b o,h.get? b=ap o->H b=cm->b∈fs->b∉ex->∃sl,h'.get? b=ap { o with slots:=sl }
 free:∀b o,h.get? b=ap o->H b=cm->b∉ex->H' b=cm
 there:∀b o,h.get? b=ap o->b∉ex->∃o',h'.get? b=ap o'
 tups:∀b xs,H b=ap (.tup xs)->H' b=ap (.tup xs)
 frzs:∀b o u,H b=ap (.frz o u)->H' b=ap (.frz o u)
 tbls:∀b ps,H b=ap (.tbl ps)->∃more,H' b=ap (.tbl (ps++more))
section
variable{fs fs' ex ex':Xm}{H1 H2:Hp}{h1 h2:hG}{x e:eg}
theorem Un.any(u:Un fs ex H H1 h h1){g:Obj}(q:h.get? b=ap g)(n:H b=cm)(y:b∉ex):∃z,h1.get? b=ap { g with slots:=z }:=by
 by_cases v:b∈fs
 .exact u.slot b g q n v y
 .exact⟨g.slots,u.keep b g q n v y⟩
theorem Un.kept(k:∀b u,h.get? b=ap u->h'.get? b=ap u):Un fs ex H H h h':=
 ⟨λb g q _ _ _=>k b g q,λb g q _ _ _=>⟨g.slots,k b g q⟩,λ_ _ _ n _=>n,λb g q _=>⟨g,k b g q⟩,λ_ _ q=>q,λ_ _ _ q=>q,λ_ ps q=>⟨#[],by rw[q];simp⟩⟩
theorem Un.refl:Un fs ex H H h h:=Un.kept λ_ _ q=>q
theorem Un.laid(k:∀b u,h.get? b=ap u->h'.get? b=ap u)(y:h.objs.size<=a)(g:H a=cm):Un fs ex H (upd H a o) h h' where
 keep:=λb u q _ _ _=>k b u q
 slot:=λb u q _ _ _=>⟨u.slots,k b u q⟩
 free:=λb u q n _=>by rw[aL (OP<|OF (OD q) y)];exact n
 there:=λb u q _=>⟨u,k b u q⟩
 tups:=λb v q=>by rw[aL (bg q g)];exact q
 frzs:=λb u v q=>by rw[aL (bg q g)];exact q
 tbls:=λb ps q=>⟨#[],by rw[aL (bg q g),q];simp⟩
theorem Un.write(v:LN (H x))(J:e=x\/H e=ap (.own x))(k:∀b u,b≠e->h.get? b=ap u->h'.get? b=ap u)(B:∃u,h'.get? e=ap u):Un fs ex H (upd H x o) h h':=by
 have G:∀b,H b=cm->b≠x:=λb n z=>by subst z;rw[n]at v;exact v
 have F:∀b,H b=cm->b≠e:=λb n z=>by
  subst z;rcases J with r|r
  .exact G b n r
  .rw[n]at r;cases r
 have y:∀b u,H b=ap u->¬LN (ap u)->b≠x:=λb u q nm z=>by subst z;rw[q]at v;exact nm v
 refine⟨λb u q n _ _=>k b u (F b n) q,λb u q n _ _=>⟨u.slots,k b u (F b n) q⟩,λb u q n _=>by rw[aL (G b n)];exact n,λb u q _=>?_,
  λb I q=>by rw[aL (y b _ q λz=>z)];exact q,λb u I q=>by rw[aL (y b _ q λz=>z)];exact q,λb ps q=>⟨#[],by rw[aL (y b _ q λz=>z),q];simp⟩⟩
 by_cases g:b=e
 .subst g;exact B
 .exact⟨u,k b u g q⟩
end
def trk(h:hG)(H:Hp):List Addr:=(Pm h.objs.size).filter λa=>(H a).isSome
def ql(h:hG)(H:Hp):Heap:=Tx h (trk h H)
theorem zT(h:hG)(H:Hp):(ql h H).objs.size=h.objs.size:=W.hideAll_size _ _
theorem CD{o:Obj}(e:h.get? b=ap o)(n:H b=cm):(ql h H).get? b=ap o:=
 W.hideAll_get _ e λg=>by
  have q:(H b).isSome=true:=(OC.mp g).2;rw[n]at q;simp at q
theorem EI{o:Obj}(e:(ql h H).get? b=ap o):h.get? b=ap o/\H b=none:=by
 have g:h.get? b=ap o:=W.of_hideAll (trk h H) e;refine⟨g,?_⟩;cases q:H b with
 |none=>rfl
 |some x=>
  have n:b∈trk h H:=OC.mpr ⟨P7.mpr (OD g),by simp[q]⟩
  have z:(ql h H).get? b=none:=W.hideAll_none (trk h H) n;rw[z]at e;cases e
structure Mod(K:OA)(mg:Xr)(base:hG):Prop where
 kin:K.In base
 glob:base.Ns fv mg
 blt:∃mb,base.Ns WC mb/\∀x:Str,x≠"__name__"->mb x=gl x
 nolimit:base.NoLimit
structure Cx where
 prog:fx
 w:g3
 K:OA
 mg:Str->Option ay
 base:hG
 A:i5
 N:List Str
 s₀:el
 H₀:Hp
 env:Env
 outer:List Env
 stack:List Env
 ex:List eg
 fn:Str->Bool
 calm:Bool
 pn:List (eg×Obj)
 xe:ay->el->Prop
def gZ(l:List Env):List Addr:=l.filterMap (·.frame)
abbrev Cx.fs(X:Cx):List Addr:=gZ X.outer
def Iw(sc:Pi)(x:Str):Prop:=sc.names.lookup x=ap .local\/sc.names.lookup x=ap .cell\/sc.names.lookup x=ap .free
def Ah(sc:Pi)(x:Str):Prop:=sc.names.lookup x=ap .local\/sc.names.lookup x=ap .cell
def Look(env:Env)(h:hG)(m:Xr)(x:Str)(u:ay):Prop:=
 (env.kindOf x=ap .local/\m x=ap u)\/((env.kindOf x=ap .cell\/env.kindOf x=ap .free)/\∃c,env.cells.lookup x=ap c/\h.IsCell c (ap u))
structure Cx.Ok(X:Cx):Prop where
 mod:Mod X.K X.mg X.base
 kind:X.env.scope.kind=.function
 glob:X.env.globals=fv
 blt:X.env.builtins=WC
 above:X.s₀.heap.objs.size<=X.env.locals
 inj:∀x y c,X.env.cells.lookup x=ap c->X.env.cells.lookup y=ap c->x=y
 has:∀x,(X.env.kindOf x=ap .cell\/X.env.kindOf x=ap .free)->∃c,X.env.cells.lookup x=ap c
 cab:∀x c,X.fn x=true->X.env.cells.lookup x=ap c->X.s₀.heap.objs.size<=c
 hd:X.calm=true->X.A.handled=cm
 frames:X.A.frames=ap X.stack
 stk:X.stack=X.outer\/(X.stack=X.env::X.outer/\X.env.frame=ap X.env.locals)
 exf:∀b∈X.ex,b≠X.env.locals/\∀x c,X.env.cells.lookup x=ap c->c≠b
 bs:∀b o,X.base.get? b=ap o->X.s₀.heap.get? b=ap o/\X.H₀ b=cm
 bsz:X.base.objs.size<=X.s₀.heap.objs.size
 noex:∀b o,X.base.get? b=ap o->b∉X.ex
 exfs:∀b∈X.ex,b∉X.fs
 funs:X.s₀.heap.FunFrames X.base X.outer
 frf:∀b∈X.fs,X.H₀ b=cm
structure Inv(X:Cx)(Xb:Xq)(Z:List (Option V))(H:Hp)(s:el):Prop where
 ok:X.Ok
 os:s.os=X.s₀.os
 bare:VZ s.gens
 base:Un X.fs X.ex X.H₀ H X.s₀.heap s.heap
 loc:∃m,s.heap.Ns X.env.locals m/\∀(i:Nat)(x:Str)(v:V),X.N[i]?=ap x->Z[i]?=ap (ap v)->Iw X.env.scope x->∃u,RelV v u/\Look X.env s.heap m x u
 cell:∀x c,X.env.cells.lookup x=ap c->∃v,s.heap.IsCell c v
 free:H X.env.locals=cm
 freeC:∀x c,X.env.cells.lookup x=ap c->H c=cm
 pin:∀p∈X.pn++Xb,s.heap.get? p.1=ap p.2/\H p.1=cm/\p.1≠X.env.locals/\p.1∉X.fs/\∀v,p.2.data≠.cell v
 hok:HOk X.prog X.w H s.heap
 len:Z.length=X.N.length
section
variable{Z:List (Option V)}
theorem Cx.Ok.nofr(ok:X.Ok){o:Obj}(e:X.base.get? b=ap o):b∉X.fs:=λg=>by
 have:=(ok.funs.mem g).1;rw[e]at this;cases this
theorem Inv.bs(I:Inv X Xb Z H s):∀b o,X.base.get? b=ap o->s.heap.get? b=ap o/\H b=none:=λb o e=>
 ⟨I.base.keep b o (I.ok.bs b o e).1 (I.ok.bs b o e).2 (I.ok.nofr e) (I.ok.noex b o e),I.base.free b o (I.ok.bs b o e).1 (I.ok.bs b o e).2<|I.ok.noex b o e⟩
theorem Inv.bk(I:Inv X Xb Z H s):∀b o,X.base.get? b=ap o->s.heap.get? b=ap o:=λb o e=>(I.bs b o e).1
theorem Inv.mod(I:Inv X Xb Z H s):Mod X.K X.mg X.base:=I.ok.mod
theorem Inv.kIn(I:Inv X Xb Z H s):X.K.In s.heap:=I.ok.mod.kin.keeps I.bk
theorem Inv.lt(I:Inv X Xb Z H s):X.env.locals<s.heap.objs.size:=let ⟨_,hn,_⟩:=I.loc;hn.lt
theorem Inv.sz(I:Inv X Xb Z H s):X.s₀.heap.objs.size<=s.heap.objs.size:=OV I.ok.above (UJ I.lt)
theorem Inv.nofs(I:Inv X Xb Z H s)(h:s.heap.objs.size<=a):a∉X.fs:=λn=>by
 obtain⟨_,o,g,_⟩:=I.ok.funs.mem n;exact absurd (OF (OD g)<|OV I.sz h) (Pq _)
theorem Inv.cne(I:Inv X Xb Z H s):∀x c,X.env.cells.lookup x=ap c->c≠X.env.locals:=λx c e z=>by
 obtain⟨v,o,q,y⟩:=I.cell x c e;obtain⟨m,⟨B,es,F,g,n,_⟩,_⟩:=I.loc;rw[z,g]at q;cases q;rw[n]at y;cases y
theorem Inv.funs(I:Inv X Xb Z H s):s.heap.FunFrames X.base X.outer:=by
 have all:∀(l:List Env),(∀b∈gZ l,b∈X.fs)->X.s₀.heap.FunFrames X.base l->s.heap.FunFrames X.base l:=by
  intro l
  induction l with
  |nil=>intro _ _;trivial
  |cons env r ih=>
   intro v y;obtain⟨B,⟨L,o,n,J,F,O⟩,G⟩:=y;have q:L∈X.fs:=v L (by unfold gZ;rw[Qq,n];exact OR)
   obtain⟨R,e⟩:=I.base.slot L o F (I.ok.frf L q) q λz=>I.ok.exfs L z q;exact⟨B,⟨L,_,n,J,e,O⟩,ih (λb g=>v b (by unfold gZ;rw[Qq,n];exact OJ _ g)) G⟩
 exact all X.outer (λ_ g=>g) I.ok.funs
theorem Inv.stack(I:Inv X Xb Z H s):s.heap.FunFrames X.base X.stack:=by
 rcases I.ok.stk with e|⟨e,hf⟩
 .rw[e];exact I.funs
 .rw[e]
  obtain⟨m,g,_⟩:=I.loc;refine .cons (by rw[I.ok.kind];decide) hf g ?_ I.funs
  exact Heap.get?_none_of_le (OV I.ok.bsz I.ok.above)
theorem Inv.stkSub(I:Inv X Xb Z H s):∀b∈gZ X.stack,b∈X.env.locals::X.fs:=λb g=>by
 rcases I.ok.stk with e|⟨e,hf⟩
 .rw[e]at g;exact OJ _ g
 .rw[e]at g
  unfold gZ at g;rw[Qq,hf]at g;exact g
theorem Inv.stkFree(I:Inv X Xb Z H s):∀b∈gZ X.stack,H b=none:=λb hb=>by
 rcases OQ.mp (I.stkSub b hb) with e|hb
 .rw[e];exact I.free
 .obtain⟨_,o,g,_⟩:=I.ok.funs.mem hb
  exact I.base.free b o g (I.ok.frf b hb) λz=>I.ok.exfs b z hb
theorem Inv.step{g':Array GenState}{t':Nat}{d':Drawn}(I:Inv X Xb Z H s)(F:∀b∈ch,(b∈X.ex\/X.s₀.heap.objs.size<=b)/\b≠X.env.locals/\(∀x c,X.env.cells.lookup x=ap c->c≠b)/\∀p∈X.pn++Xb,p.1≠b)(keep:∀b o,b≠X.env.locals->b∉X.fs->b∉ch->s.heap.get? b=ap o->H b=cm->h'.get? b=ap o)(slot:∀b o,b≠X.env.locals->b∈X.fs->b∉ch->s.heap.get? b=ap o->H b=cm->∃sl,h'.get? b=ap { o with slots:=sl })(free:∀b o,b∉ch->s.heap.get? b=ap o->H b=cm->H' b=cm)(there:∀b o,b∉ch->s.heap.get? b=ap o->∃S,h'.get? b=ap S)(tups:∀b L,H b=ap (.tup L)->H' b=ap (.tup L))(frzs:∀b o u,H b=ap (.frz o u)->H' b=ap (.frz o u))(tbls:∀b ps,H b=ap (.tbl ps)->∃more,H' b=ap (.tbl (ps++more)))(ns:∀m,s.heap.Ns X.env.locals m->h'.Ns X.env.locals m)(hok:HOk X.prog X.w H' h')(hg:VZ g'):
  Inv X Xb Z H' { s with heap:=h',gens:=g',drawn:=d',toks:=t' }:=by
 have T:∀b o,X.s₀.heap.get? b=ap o->b≠X.env.locals:=λb o e=>OP (OF (OD e) I.ok.above);have G:∀b o,X.s₀.heap.get? b=ap o->b∉X.ex->b∉ch:=λb o e g O=>by
  rcases (F b O).1 with z|z
  .exact g z
  .exact absurd (OF (OD e) z) (Pq _)
 have y:∀x c,X.env.cells.lookup x=ap c->∀v,s.heap.IsCell c v->h'.IsCell c v:=λx c e v ⟨o,R,Y⟩=>by
  have B:c∉ch:=λz=>(F c z).2.2.1 x c e rfl
  by_cases hc:c∈X.fs
  .obtain⟨sl,q⟩:=slot c o (I.cne x c e) hc B R (I.freeC x c e)
   exact⟨_,q,Y⟩
  .exact⟨o,keep c o (I.cne x c e) hc B R (I.freeC x c e),Y⟩
 refine⟨I.ok,I.os,hg,⟨λb o e n O g=>?_,λb o e n O g=>?_,λb o e n g=>?_,λb o e g=>?_,λb L e=>tups b L (I.base.tups b L e),λb o L e=>frzs b o L (I.base.frzs b o L e),λb ps e=>?_⟩,?_,λx c e=>?_,?_,λx c e=>?_,λp hp=>?_,hok,I.len⟩
 .exact keep b o (T b o e) O (G b o e g) (I.base.keep b o e n O g) (I.base.free b o e n g)
 .obtain⟨sl,J⟩:=I.base.slot b o e n O g
  obtain⟨W,U⟩:=slot b _ (T b o e) O (G b o e g) J (I.base.free b o e n g);exact⟨W,U⟩
 .obtain⟨S,J⟩:=I.base.there b o e g
  exact free b S (G b o e g) J (I.base.free b o e n g)
 .obtain⟨S,J⟩:=I.base.there b o e g
  exact there b S (G b o e g) J
 .obtain⟨m1,J⟩:=I.base.tbls b ps e
  obtain⟨m2,U⟩:=tbls b _ J;exact⟨m1++m2,by rw[U,Q1]⟩
 .obtain⟨m,hn,hl⟩:=I.loc
  refine⟨m,ns m hn,λi x v J U e3=>?_⟩;obtain⟨u,r,l⟩:=hl i x v J U e3;refine⟨u,r,?_⟩;rcases l with l|⟨k,c,e,z⟩
  .exact .inl l
  .exact .inr ⟨k,c,e,y x c e _ z⟩
 .obtain⟨v,z⟩:=I.cell x c e
  exact⟨v,y x c e v z⟩
 .obtain⟨m,⟨o,_,_,R,_⟩,_⟩:=I.loc
  exact free _ o (λz=>(F _ z).2.1 rfl) R I.free
 .obtain⟨v,o,R,Y⟩:=I.cell x c e
  exact free c o (λz=>(F c z).2.2.1 x c e rfl) R (I.freeC x c e)
 .obtain⟨e,n,ne,nf,d⟩:=I.pin p hp
  have B:p.1∉ch:=λz=>(F p.1 z).2.2.2 p hp rfl;exact⟨keep p.1 p.2 ne nf B e n,free p.1 p.2 B e n,ne,nf,d⟩
theorem Inv.un{t':Nat}(I:Inv X Xb Z H s)(u:Un X.fs [] H H' s.heap h')(B:HOk X.prog X.w H' h'):Inv X Xb Z H' { s with heap:=h',toks:=t' }:=by
 obtain⟨m,⟨o,es,S,F,r⟩,_⟩:=id I.loc;obtain⟨R,J⟩:=u.any F I.free (by simp)
 exact I.step (g':=s.gens) (d':=s.drawn) (ch:=[]) (λ_ z=>nomatch z) (λb o _ q _ e n=>u.keep b o e n q (by simp)) (λb o _ q _ e n=>u.slot b o e n q (by simp)) (λb o _ e n=>u.free b o e n (by simp)) (λb o _ e=>u.there b o e (by simp)) u.tups u.frzs u.tbls (λO L=>by
  obtain⟨T,v,y,g,G⟩:=L;rw[F]at g;cases g;exact⟨_,v,y,J,G⟩) B I.bare
theorem Inv.call{g':Array GenState}{t':Nat}{d':Drawn}(I:Inv X Xb Z H s)(u:Un (gZ X.stack) ch H H' s.heap h')(G:HOk X.prog X.w H' h')(S:VZ g')(v:∀b∈ch,(b∈X.ex\/X.s₀.heap.objs.size<=b)/\b≠X.env.locals/\(∀x c,X.env.cells.lookup x=ap c->c≠b)/\∀p∈X.pn++Xb,p.1≠b):
  Inv X Xb Z H' { s with heap:=h',gens:=g',drawn:=d',toks:=t' }:=by
 obtain⟨m,⟨o,es,W,J,r⟩,_⟩:=id I.loc;obtain⟨U,y⟩:=u.any J I.free λz=>(v _ z).2.1 rfl;exact I.step (ch:=ch) v (λb o y L g e n=>u.keep b o e n (λz=>(OQ.mp<|I.stkSub b z).elim y L) g) (λb o _ _ g e n=>u.any e n g) (λb o g e n=>u.free b o e n g) (λb o g e=>u.there b o e g) u.tups u.frzs u.tbls (λT R=>by
  obtain⟨Y,B,F,q,O⟩:=R;rw[J]at q;cases q;exact⟨_,B,F,y,O⟩) G S
theorem Inv.turned{t':Nat}{it:eg}(I:Inv X Xb Z H s)(k:∀b o,b≠it->s.heap.get? b=ap o->h'.get? b=ap o)(R:H it=cm)(B:it≠X.env.locals)(S:it∈X.ex\/X.s₀.heap.objs.size<=it)(T:∀x c,X.env.cells.lookup x=ap c->c≠it)(O:∀p∈X.pn++Xb,p.1≠it):Inv X Xb Z H { s with heap:=h',toks:=t' }:=by
 have y:∀b u,H b=ap u->b≠it:=λb u e z=>by rw[z,R]at e;cases e
 refine I.step (g':=s.gens) (d':=s.drawn) (ch:=[it]) (λb G=>?_) (λb o _ _ g e _=>k b o (λz=>g (by simp[z])) e) (λb o _ _ g e _=>⟨o.slots,k b o (λz=>g (by simp[z])) e⟩) (λ_ _ _ _ n=>n)
  (λb o g e=>⟨o,k b o (λz=>g (by simp[z])) e⟩) (λ_ _ e=>e) (λ_ _ _ e=>e) (λb ps e=>⟨#[],by rw[e];simp⟩) (λm L=>?_) (λb u e=>?_) I.bare
 .have e:b=it:=by simpa using G
  subst e;exact⟨S,B,T,O⟩
 .obtain⟨o,es,J,F,r⟩:=L
  exact⟨o,es,J,k _ o (Pa B) F,r⟩
 .refine (I.hok b u e).stay (λc v g q=>k c v ?_ q) (λ_ q=>q) λ_ _ q=>q
  rcases g with z|z
  .rw[z];exact y b u e
  .exact y c _ z
theorem Inv.tok(I:Inv X Xb Z H s)(t:Nat):Inv X Xb Z H { s with toks:=t }:=I.un (h':=s.heap) (t':=t) Un.refl I.hok
theorem Inv.kept{t':Nat}(I:Inv X Xb Z H s)(k:∀b u,s.heap.get? b=ap u->h'.get? b=ap u):Inv X Xb Z H { s with heap:=h',toks:=t' }:=I.un (Un.kept k) (I.hok.kept k)
theorem Inv.laid{t':Nat}(I:Inv X Xb Z H s)(k:∀b u,s.heap.get? b=ap u->h'.get? b=ap u)(g:s.heap.objs.size<=a)(new:ObjOk X.prog X.w (upd H a o) h' a o):
  Inv X Xb Z (upd H a o) { s with heap:=h',toks:=t' }:=I.un (Un.laid k g<|I.hok.fresh g) (I.hok.laid k g new)
theorem Inv.write{x e:eg}{t':Nat}(I:Inv X Xb Z H s)(n:LN (H x))(q:e=x\/H e=ap (.own x))(k:∀b u,b≠e->s.heap.get? b=ap u->h'.get? b=ap u)(g:∃u,h'.get? e=ap u)(new:ObjOk X.prog X.w (upd H x o) h' x o):Inv X Xb Z (upd H x o) { s with heap:=h',toks:=t' }:=I.un (Un.write n q k g) (I.hok.write n q k g new)
theorem Inv.pins_of{g:Xq}(I:Inv X Xb Z H s)(h:∀p∈g,s.heap.get? p.1=ap p.2/\H p.1=cm/\p.1≠X.env.locals/\p.1∉X.fs/\∀v,p.2.data≠.cell v):Inv X g Z H s:=
 ⟨I.ok,I.os,I.bare,I.base,I.loc,I.cell,I.free,I.freeC,λp n=>(Ph.mp n).elim (λz=>I.pin p (Sq _ z)) (h p),I.hok,I.len⟩
theorem t8(q:N.Nodup)(a:N[i]?=ap x)(b:N[j]?=ap x):i=j:=by
 obtain⟨v,g⟩:=Qh.mp a;obtain⟨y,n⟩:=Qh.mp b;exact(List.getElem_inj q).mp (g.trans n.symm)
theorem oQ{v:V}{Q:Unit->el->Prop}(I:Inv X Xb Z H s)(hN:X.N.Nodup)(hi:X.N[i]?=ap x)(G:Ah X.env.scope x)(r:RelV v u)(h:∀s',Inv X Xb (Z.set i<|some v) H s'->(∃a,Qy a s.heap s'.heap/\(a=X.env.locals\/X.env.cells.lookup x=ap a))->Q () s')(hf:X.fn x=true\/X.env.scope.names.lookup x=ap .local:=by first|exact .inl rfl|exact .inr rfl|assumption):eH M A (storeName X.env x u) Q E s:=by
 obtain⟨m,hn,hl⟩:=id I.loc;have U:(X.env.scope.kind==.class||(X.env.scope.kind==.module&&X.env.locals != X.env.globals))=false:=by rw[I.ok.kind];rfl
 have O:i<Z.length:=by rw[I.len];exact(Qh.mp hi).1
 have cne:=I.cne;have B:∀{a:eg}{h':hG},(∃o,s.heap.get? a=ap o/\H a=cm)->Qy a s.heap h'->HOk X.prog X.w H h':=λ{a h'} ha g b ob e=>by
  obtain⟨_,_,J⟩:=ha;refine (I.hok b ob e).stay (λc w' hc q=>(g.2 c ?_).trans q) (λ_ q=>q) λ_ _ q=>q
  rintro rfl
  rcases hc with rfl|hc
  .rw[J]at e;cases e
  .rw[J]at hc;cases hc
 rcases G with hk|hk
 .refine wpAny_storeName_local hk hn (λh' hn' g=>?_) U
  obtain⟨oL,_,_,hoL,_⟩:=id hn;refine h _ ⟨I.ok,I.os,I.bare,⟨λb o e n R G=>?_,λb o e n R G=>?_,I.base.free,λb o e G=>?_,I.base.tups,I.base.frzs,I.base.tbls⟩,⟨_,hn',λj y v' F L e3=>?_⟩,λy c e=>?_,I.free,I.freeC,λp hp=>?_,B ⟨oL,hoL,I.free⟩ g,by simpa using I.len⟩ ⟨_,g,.inl rfl⟩
  .exact(g.2 b<|OP<|OF (OD e) I.ok.above).trans (I.base.keep b o e n R G)
  .obtain⟨sl,F⟩:=I.base.slot b o e n R G
   exact⟨sl,(g.2 b<|OP<|OF (OD e) I.ok.above).trans F⟩
  .obtain⟨o',F⟩:=I.base.there b o e G
   exact⟨o',(g.2 b<|OP<|OF (OD e) I.ok.above).trans F⟩
  .by_cases T:j=i
   .subst T
    rw[hi]at F;cases F;rw[Uy O]at L;cases L;exact⟨u,r,.inl ⟨hk,by simp⟩⟩
   .rw[UP (Pa T)]at L
    obtain⟨u',r',q⟩:=hl j y v' F L e3;refine⟨u',r',?_⟩;rcases q with⟨k,e⟩|⟨k,c,e,z⟩
    .refine .inl ⟨k,?_⟩
     have:y≠x:=λe=>T (t8 hN F (e▸hi));simp[this,e]
    .exact .inr ⟨k,c,e,z.sameBut g<|cne y c e⟩
  .obtain⟨w',z⟩:=I.cell y c e
   exact⟨w',z.sameBut g<|cne y c e⟩
  .obtain⟨e,n,ne,nf,d⟩:=I.pin p hp
   exact⟨(g.2 p.1 ne).trans e,n,ne,nf,d⟩
 .have S:X.fn x=true:=by
   rcases hf with z|z
   .exact z
   .rw[z]at hk;cases hk
  obtain⟨c,hc⟩:=I.ok.has x (.inl hk);obtain⟨w',z⟩:=I.cell x c hc;refine wpAny_storeName_cell I.ok.kind hk hc z (λh' hc' g=>?_);obtain⟨oc,Y,hocd⟩:=id z;refine h { s with heap:=h' } ⟨I.ok,I.os,I.bare,⟨λb o e n R G=>?_,λb o e n R G=>?_,I.base.free,λb o e G=>?_,I.base.tups,I.base.frzs,I.base.tbls⟩,⟨m,hn.sameBut g (Pa<|cne x c hc),λj y v' F L e3=>?_⟩,λy c' e=>?_,I.free,I.freeC,λp hp=>?_,B ⟨oc,Y,I.freeC x c hc⟩ g,by simpa using I.len⟩ ⟨c,g,.inr hc⟩
  .exact(g.2 b<|OP<|OF (OD e)<|I.ok.cab x c S hc).trans (I.base.keep b o e n R G)
  .obtain⟨sl,F⟩:=I.base.slot b o e n R G
   exact⟨sl,(g.2 b<|OP<|OF (OD e)<|I.ok.cab x c S hc).trans F⟩
  .obtain⟨o',F⟩:=I.base.there b o e G
   exact⟨o',(g.2 b<|OP<|OF (OD e)<|I.ok.cab x c S hc).trans F⟩
  .by_cases T:j=i
   .subst T
    rw[hi]at F;cases F;rw[Uy O]at L;cases L;exact⟨u,r,.inr ⟨.inl hk,c,hc,hc'⟩⟩
   .rw[UP (Pa T)]at L
    obtain⟨u',r',q⟩:=hl j y v' F L e3;refine⟨u',r',?_⟩;rcases q with q|⟨k,c',e,z'⟩
    .exact .inl q
    .refine .inr ⟨k,c',e,z'.sameBut g ?_⟩
     rintro rfl
     exact T (t8 hN F (I.ok.inj _ _ _ e hc▸hi))
  .by_cases W:c'=c
   .subst W;exact⟨_,hc'⟩
   .obtain⟨w2,z2⟩:=I.cell y c' e
    exact⟨w2,z2.sameBut g W⟩
  .obtain⟨e,n,ne,nf,d⟩:=I.pin p hp
   refine⟨(g.2 p.1 ?_).trans e,n,ne,nf,d⟩;intro q;rw[q,Y]at e;have q':oc=p.2:=PH e;exact d w' (by rw[<- q'];exact hocd)
theorem fR{v:V}{Q:Unit->el->Prop}(I:Inv X Xb Z H s)(g:X.N.Nodup)(n:X.N[i]?=ap x)(y:Ah X.env.scope x)(r:RelV v u)(h:∀s',Inv X Xb (Z.set i<|some v) H s'->Q () s')(q:X.fn x=true\/X.env.scope.names.lookup x=ap .local:=by first|exact .inl rfl|exact .inr rfl|assumption):eH M A (storeName X.env x u) Q E s:=
 oQ I g n y r (λs' I' _=>h s' I') q
theorem Inv.call'{s':el}(I:Inv X Xb Z H s)(v:s'.os=s.os)(u:Un (gZ X.stack) ch H H' s.heap s'.heap)(g:HOk X.prog X.w H' s'.heap)(y:VZ s'.gens)(n:∀b∈ch,(b∈X.ex\/X.s₀.heap.objs.size<=b)/\b≠X.env.locals/\(∀x c,X.env.cells.lookup x=ap c->c≠b)/\∀p∈X.pn++Xb,p.1≠b):Inv X Xb Z H' s':=by
 obtain⟨h',g',d',t',q⟩:=s';have e:q=s.os:=v;subst e;exact I.call (g':=g') (t':=t') (d':=d') u g y n
end
abbrev XK:=ay->Option eg->Hp->Prop
abbrev St:=List (Option V)
abbrev VK:=V->Hp->Prop
abbrev TE:=St->Hp->VK->Prop
abbrev TT:=St->Hp->(Bool->Hp->Prop)->Prop
abbrev TA:=St->Hp->(List V->Hp->Prop)->Prop
structure Ends where
 nx:St->Hp->Prop
 rt:VK
 bk:St->Hp->Prop:=λ_ _=>False
 ct:St->Hp->Prop:=λ_ _=>False
abbrev TS:=Ends->St->Hp->Prop
inductive EP(X:Cx)(Xb:Xq)(Z:St)(Q:VK)(u:ay)(s':el):Prop
 |mk (v:V) (H':Hp) (h0:Inv X Xb Z H' s') (h1:RelV v u) (h2:Q v H'):EP X Xb Z Q u s'
inductive TP(X:Cx)(Xb:Xq)(Z:St)(Q:Bool->Hp->Prop)(b:Bool)(s':el):Prop
 |mk (H':Hp) (h0:Inv X Xb Z H' s') (h1:Q b H'):TP X Xb Z Q b s'
inductive AP(X:Cx)(Xb:Xq)(Z:St)(Q:List V->Hp->Prop)(us:Xl)(s':el):Prop
 |mk (vs:List V) (H':Hp) (h0:Inv X Xb Z H' s') (h1:Vals vs us) (h2:Q vs H'):AP X Xb Z Q us s'
def SP(X:Cx)(Xb:Xq)(D:Ends)(f:Flow)(s':el):Prop:=
 match f with
 |.next=>∃σ' H',Inv X Xb σ' H' s'/\D.nx σ' H'
 |.brk=>∃σ' H',Inv X Xb σ' H' s'/\D.bk σ' H'
 |.cont=>∃σ' H',Inv X Xb σ' H' s'/\D.ct σ' H'
 |.ret u=>∃v σ' H',Inv X Xb σ' H' s'/\RelV v u/\D.rt v H'
def PE(X:Cx)(e:fy)(t:TE):Prop:=
 ∀(Xb:Xq)(s:el)(Z:St)(H:Hp)(Q:VK),Inv X Xb Z H s->t Z H Q->eH (ff X.prog X.w) X.A (gp e X.env) (EP X Xb Z Q) X.xe s
def PT(X:Cx)(e:fy)(t:TT):Prop:=
 ∀(Xb:Xq)(s:el)(Z:St)(H:Hp)(Q:Bool->Hp->Prop),Inv X Xb Z H s->t Z H Q->eH (ff X.prog X.w) X.A (WW e X.env<|eval e X.env) (TP X Xb Z Q) X.xe s
def PW(X:Cx)(e:fy)(t:TT):Prop:=
 ∀(whole:Sem ay)(Xb:Xq)(s:el)(Z:St)(H:Hp)(Q:Bool->Hp->Prop),Inv X Xb Z H s->t Z H Q->eH (ff X.prog X.w) X.A (WW e X.env whole) (TP X Xb Z Q) X.xe s
theorem Ou{t:TT}(h:PW X e t):PT X e t:=h _
def PA(X:Cx)(es:Xn)(t:TA):Prop:=
 ∀(pos:Pos)(Xb:Xq)(s:el)(Z:St)(H:Hp)(Q:List V->Hp->Prop),Inv X Xb Z H s->t Z H Q->eH (ff X.prog X.w) X.A (spliced<|backTo pos<|starEach es X.env) (AP X Xb Z Q) X.xe s
def PS(X:Cx)(st:tm)(t:TS):Prop:=
 ∀(Xb:Xq)(s:el)(Z:St)(H:Hp)(D:Ends),Inv X Xb Z H s->t D Z H->eH (ff X.prog X.w) X.A (exec st X.env) (SP X Xb D) X.xe s
def yv(X:Cx)(st:Xo)(t:TS):Prop:=
 ∀(Xb:Xq)(s:el)(Z:St)(H:Hp)(D:Ends),Inv X Xb Z H s->t D Z H->eH (ff X.prog X.w) X.A (execs st X.env) (SP X Xb D) X.xe s
theorem bq{α:Type}{t:Sem α}{Q Q':α->el->Prop}(h:eH M A t Q E s)(g:∀a s,Q a s->Q' a s):eH M A t Q' E s:=mu h g λ_ _ x=>x
section
def tVar(i:Nat):TE:=λZ H Q=>∃v,Z[i]?=ap (ap v)/\Q v H
def tC(v:V):TE:=λ_ H Q=>Q v H
theorem Km(B:X.N[i]?=ap x)(z:Iw X.env.scope x)(g:(x==("__debug__":Str))=false:=by decide)(hcd:(x==("__classdict__":Str))=false:=by decide):PE X (.Name x pos) (tVar i):=by
 intro Xb s Z H Q I h;obtain⟨v,e,h⟩:=h;obtain⟨m,n,q⟩:=I.loc;obtain⟨u,r,l⟩:=q i x v B e z;have fin:EP X Xb Z Q u s:=⟨v,H,I,r,h⟩;rcases l with⟨hk,y⟩|⟨hk,c,hc,hcell⟩
 .exact wpAny_Name (W4 I.ok.kind hk n y fin) g
 .rcases hk with hk|hk
  .exact wpAny_Name (wpAny_loadName_cell I.ok.kind hk hc hcell fin) g
  .exact wpAny_Name (wpAny_loadName_free I.ok.kind hk hc hcell fin hcd) g
theorem Kl{i j pos}:PE X (.Constant (.int i) j pos) (tC<|.int i):=λ_ _ _ H _ I h=>wpAny_Constant_int ⟨.int i,H,I.tok _,⟨_,rfl⟩,h⟩
theorem Oc{b j pos}:PE X (.Constant (.bool b) j pos) (tC<|.bl b):=λ_ _ _ H _ I h=>Constant_bool ⟨.bl b,H,I,rfl,h⟩
theorem Jj{j pos}:PE X (.Constant .none j pos) (tC .non):=λ_ _ _ H _ I h=>Constant_none ⟨.non,H,I,rfl,h⟩
theorem Cq{x j pos}:PE X (.Constant (.str x) j pos) (tC<|.str x):=λ_ _ _ H _ I h=>Calls.Constant_str ⟨.str x,H,I.tok _,⟨_,rfl⟩,h⟩
def Gl(X:Cx)(x:Str):Prop:=X.env.kindOf x=ap .globalImplicit
theorem ja(I:Inv X Xb Z H s)(n:Gl X x)(q:X.mg x=ap u)(h:Q u s)(g:(x==("__debug__":Str))=false:=by decide):eH (ff X.prog X.w) X.A (gp (.Name x pos) X.env) Q E s:=
 TH I.ok.kind n (Calls.loadGlobal_global (by rw[I.ok.glob];exact I.mod.glob.keeps I.bk) q h) g
theorem eF(I:Inv X Xb Z H s)(v:Gl X x)(q:X.mg x=cm)(y:gl x=ap u)(h:Q u s)(z:x≠"__name__":=by decide)(hd:(x==("__debug__":Str))=false:=by decide):eH (ff X.prog X.w) X.A (gp (.Name x pos) X.env) Q E s:=by
 obtain⟨B,g,n⟩:=I.mod.blt;exact TH I.ok.kind v (Calls.loadGlobal_builtin (by rw[I.ok.glob];exact I.mod.glob.keeps I.bk) q (by rw[I.ok.blt];exact g.keeps I.bk) ((n x z).trans y) h) hd
theorem Ex{v:V}(n:Gl X x)(g:X.mg x=cm)(q:gl x=ap u)(r:RelV v u)(y:x≠"__name__":=by decide)(hd:(x==("__debug__":Str))=false:=by decide):PE X (.Name x pos) (tC v):=
 λ_ _ _ H _ I h=>eF I n g q ⟨v,H,I,r,h⟩ y hd
variable{a b:fy}
variable{tA tB':TT}{rest:Xn}
def tAnd(t u:TT):TT:=λZ H Q=>t Z H λc H1=>if c=true then u Z H1 Q else Q eC H1
def tOr(t u:TT):TT:=λZ H Q=>t Z H λc H1=>if c=true then Q true H1 else u Z H1 Q
def tNot(t:TT):TT:=λZ H Q=>t Z H λc H1=>Q (!c) H1
theorem E6(g:PT X a tA):PW X (.BoolOp .And [a] pos) tA:=by
 intro q Xb s Z H Q I h;refine isTrue_and (bq (g Xb s Z H Q I h) λc n e=>?_);cases c with
 |true=>exact isTrue_and_nil e
 |false=>exact e
theorem IM(g:PT X a tA):PW X (.BoolOp .Or [a] pos) tA:=by
 intro q Xb s Z H Q I h;refine isTrue_or (bq (g Xb s Z H Q I h) λc n e=>?_);cases c with
 |false=>exact isTrue_or_nil e
 |true=>exact e
theorem J4(y:PT X a tA)(v:PW X (.BoolOp .And (b::rest) pos) tB'):PW X (.BoolOp .And (a::b::rest) pos) (tAnd tA tB'):=by
 intro q Xb s Z H Q I h;refine isTrue_and (bq (y Xb s Z H _ I h) λc n ⟨H1,I1,g⟩=>?_);cases c with
 |true=>exact v q Xb n Z H1 Q I1 g
 |false=>exact⟨H1,I1,g⟩
theorem LJ(y:PT X a tA)(v:PW X (.BoolOp .Or (b::rest) pos) tB'):PW X (.BoolOp .Or (a::b::rest) pos) (tOr tA tB'):=by
 intro q Xb s Z H Q I h;refine isTrue_or (bq (y Xb s Z H _ I h) λc n ⟨H1,I1,g⟩=>?_);cases c with
 |true=>exact⟨H1,I1,g⟩
 |false=>exact v q Xb n Z H1 Q I1 g
theorem KM(g:PT X a tA):PT X (.UnaryOp .Not a pos) (tNot tA):=by
 intro Xb s Z H Q I h;exact isTrue_not (mu (g Xb s Z H (λc H1=>Q (!c) H1) I h) (λc n z=>by cases z with|mk a b d=>exact⟨a,b,d⟩) λ_ _ e=>e)
def tIf(t:TT)(ta tb:TE):TE:=λZ H Q=>t Z H λc H1=>if c=true then ta Z H1 Q else tb Z H1 Q
theorem B0(q:PT X c tA)(y:PE X a ta)(v:PE X b tb):PE X (.IfExp c a b pos) (tIf tA ta tb):=by
 intro Xb s Z H Q I h;refine wpAny_IfExp (bq (q Xb s Z H _ I h) λd g ⟨H1,I1,n⟩=>?_);cases d with
 |true=>exact y Xb g Z H1 Q I1 n
 |false=>exact v Xb g Z H1 Q I1 n
end
def SqL(K:OA)(H:Hp)(a:eg)(xs:List V):Prop:=
 Rd H a (.lst xs)\/
  ∃(o:Obj)(Xh:Xs)(n:Nat),K.lookup a=ap o/\o.cls=.type "list"/\o.dict=cm/\o.data=.seq Xh n/\Xh.size<=sizeLine/\Vals xs Xh.toList
def ij(K:OA)(H:Hp)(a:eg)(xs:List V):Prop:=
 Rd H a (.tup xs)\/
  ∃(o:Obj)(Xh:Xs)(n:Nat),K.lookup a=ap o/\o.cls=.type "tuple"/\o.data=.seq Xh n/\Xh.size<=sizeLine/\Vals xs Xh.toList
def absV:ay->Option V
 |.none=>ap .non
 |.bool b=>ap (.bl b)
 |.int i _=>ap (.int i)
 |.str x _=>ap (.str x)
 |.bytes b _=>ap (.byt b)
 |.float b _=>ap (.flt b)
 |.ref a=>ap (.ref a)
 |.type n=>ap (.ty n)
 |_=>cm
theorem RelV.abs{x:V}(r:RelV x u):absV u=ap x:=by
 cases x with
 |non=>cases r;rfl
 |bl _=>cases r;rfl
 |int _=>obtain⟨t,rfl⟩:=r;rfl
 |str _=>obtain⟨t,rfl⟩:=r;rfl
 |byt _=>obtain⟨t,rfl⟩:=r;rfl
 |flt _=>obtain⟨t,rfl⟩:=r;rfl
 |ref _=>cases r;rfl
 |ty _=>cases r;rfl
theorem RelV.inj{x y:V}(r:RelV x u)(q:RelV y u):x=y:=PH (r.abs.symm.trans q.abs)
theorem Vals.inj:∀{xs ys:List V}{us:Xl},Vals xs us->Vals ys us->xs=ys
 |_,_,_,.nil,.nil=>rfl
 |_,_,_,.cons r t,.cons r' t'=>by rw[r.inj r',Vals.inj t t']
section
variable{xs ys:List V}
theorem SqL.of(h:H a=ap (.lst xs)):SqL K H a xs:=.inl (.inl h)
theorem Inv.list(I:Inv X Xb Z H s)(h:SqL X.K H a xs):∃Xh:List ay,Vals xs Xh/\PlainL s.heap a Xh.toArray/\xs.length<=sizeLine:=by
 rcases h with h|⟨o,Xh,n,hk,hc,hd,hs,hz,r⟩
 .obtain⟨z,Xh,n,r,e⟩:=h.ok I.hok
  exact⟨Xh,r,⟨_,n,e,rfl,rfl,rfl⟩,z⟩
 .refine⟨Xh.toList,r,⟨o,n,I.kIn a o hk,hc,hd,by simpa using hs⟩,?_⟩
  have e:=r.length;simp only[RA]at e;lia
theorem Inv.tuple(I:Inv X Xb Z H s)(h:ij X.K H a xs):∃Xh:List ay,Vals xs Xh/\Wv s.heap a Xh.toArray/\xs.length<=sizeLine:=by
 rcases h with h|⟨o,Xh,n,hk,hc,hs,hz,r⟩
 .obtain⟨z,Xh,r,g,e,c,_⟩:=h.ok I.hok
  exact⟨Xh,r,⟨g,e,c⟩,z⟩
 .refine⟨Xh.toList,r,⟨o,I.kIn a o hk,hc,n,by simpa using hs⟩,?_⟩
  have e:=r.length;simp only[RA]at e;lia
theorem Inv.list_inj(I:Inv X Xb Z H s)(h:SqL X.K H a xs)(h':SqL X.K H a ys):xs=ys:=by
 obtain⟨q,r,⟨o,n,e,_,_,d⟩,_⟩:=I.list h;obtain⟨g,z,⟨F,B,v,_,_,y⟩,_⟩:=I.list h';rw[e]at v;cases v;rw[d]at y
 injection y with d1 _
 have:q=g:=by simpa using congrArg RG d1
 subst this;exact r.inj z
theorem Inv.tuple_inj(I:Inv X Xb Z H s)(h:ij X.K H a xs)(h':ij X.K H a ys):xs=ys:=by
 obtain⟨q,r,⟨o,e,_,n,d⟩,_⟩:=I.tuple h;obtain⟨g,z,⟨F,v,_,B,y⟩,_⟩:=I.tuple h';rw[e]at v;cases v;rw[d]at y
 injection y with d1 _
 have:q=g:=by simpa using congrArg RG d1
 subst this;exact r.inj z
end
abbrev Cx.wish(X:Cx)(E:Xp):Cx:={ X with xe:=E }
abbrev Cx.nox(X:Cx):Cx:=X.wish λ_ _=>False
theorem Cx.Ok.wish(ok:X.Ok)(E:Xp):(X.wish E).Ok:=
 ⟨ok.mod,ok.kind,ok.glob,ok.blt,ok.above,ok.inj,ok.has,ok.cab,ok.hd,ok.frames,ok.stk,ok.exf,ok.bs,ok.bsz,ok.noex,ok.exfs,ok.funs,ok.frf⟩
theorem Cx.Ok.unwish(ok:(X.wish E).Ok):X.Ok:=
 ⟨ok.mod,ok.kind,ok.glob,ok.blt,ok.above,ok.inj,ok.has,ok.cab,ok.hd,ok.frames,ok.stk,ok.exf,ok.bs,ok.bsz,ok.noex,ok.exfs,ok.funs,ok.frf⟩
section
theorem Inv.wish(I:Inv X Xb Z H s)(E:Xp):Inv (X.wish E) Xb Z H s:=⟨I.ok.wish E,I.os,I.bare,I.base,I.loc,I.cell,I.free,I.freeC,I.pin,I.hok,I.len⟩
theorem Inv.unwish(I:Inv (X.wish E) Xb Z H s):Inv X Xb Z H s:=⟨I.ok.unwish,I.os,I.bare,I.base,I.loc,I.cell,I.free,I.freeC,I.pin,I.hok,I.len⟩
end
section
variable{st:tm}{rest:Xo}{t u:TS}
def O5:TS:=λD Z H=>D.nx Z H
def tSeq(t u:TS):TS:=λD Z H=>t { D with nx:=u D } Z H
theorem Fu:yv X [] O5:=λ_ _ Z H _ I h=>Rs ⟨Z,H,I,h⟩
theorem BO(y:PS X st t)(z:yv X rest u):yv X (st::rest) (tSeq t u):=by
 intro Xb s Z H D I h;refine Ws (bq (y Xb s Z H { D with nx:=u D } I h) λf n q=>?_);cases f with
 |next=>
  obtain⟨g,H',I',q⟩:=q;exact z Xb n g H' D I' q
 |ret v=>exact q
 |brk=>exact q
 |cont=>exact q
theorem DQ(g:PS X st t):yv X [st] t:=by
 intro Xb s Z H D I h;refine Ws (bq (g Xb s Z H D I h) λf n q=>?_);cases f with
 |next=>exact Rs q
 |ret v=>exact q
 |brk=>exact q
 |cont=>exact q
theorem Inv.quiet(I:Inv X Xb Z H s):interactive X.env=false:=by simp[interactive,I.ok.kind]
def Nh(te:TE):TS:=λD Z H=>te Z H λ_ H1=>D.nx Z H1
theorem DL(q:PE X e te)(n:wh e cm pos.line X.env=pure false:=by rfl):PS X (.Expr e pos) (Nh te):=by
 intro Xb s Z H D I h;exact wpAny_Expr_any (bq (q Xb s Z H _ I h) λv y ⟨x,H1,I1,z,g⟩=>⟨Z,H1,I1,g⟩) I.quiet n
def tRet(te:TE):TS:=λD Z H=>te Z H D.rt
theorem Lk(q:PE X e te):PS X (.Return (ap e) pos) (tRet te):=by
 intro Xb s Z H D I h;exact wpAny_Return_some (bq (q Xb s Z H _ I h) λv y ⟨x,H1,I1,g,n⟩=>⟨x,Z,H1,I1,g,n⟩)
def tIfS(c:TT)(t u:TS):TS:=λD Z H=>c Z H λb H1=>if b=true then t D Z H1 else u D Z H1
theorem ND{a b:Xo}{q:TT}(v:PT X c q)(z:yv X a t)(y:yv X b u):PS X (.If c a b pos) (tIfS q t u):=by
 intro Xb s Z H D I h;refine wpAny_If (bq (v Xb s Z H _ I h) λd g ⟨H1,I1,n⟩=>?_);cases d with
 |true=>exact z Xb g Z H1 D I1 n
 |false=>exact y Xb g Z H1 D I1 n
end
abbrev TG:=V->St->Hp->(St->Hp->Prop)->Prop
abbrev Gn:=List V->St->Hp->(St->Hp->Prop)->Prop
def PG(X:Cx)(target:fy)(t:TG):Prop:=
 ∀(Xb:Xq)(s:el)(Z:St)(H:Hp)(v:V)(u:ay)(Q:St->Hp->Prop),Inv X Xb Z H s->RelV v u->t v Z H Q->
  eH (ff X.prog X.w) X.A (We target X.env u) (λ_ g=>∃σ' H',Inv X Xb σ' H' g/\Q σ' H') X.xe s
def Lz(X:Cx)(ts:Xn)(t:Gn):Prop:=
 ∀(Xb:Xq)(s:el)(Z:St)(H:Hp)(vs:List V)(us:Xl)(Q:St->Hp->Prop),Inv X Xb Z H s->Vals vs us->t vs Z H Q->
  eH (ff X.prog X.w) X.A (WJ ((ra ts X.env).map (·.2)) us) (λ_ g=>∃σ' H',Inv X Xb σ' H' g/\Q σ' H') X.xe s
abbrev BY:=V->V->V->Hp->(Hp->Prop)->Prop
def Fz(X:Cx)(t:BY):Prop:=
 ∀(Xb:Xq)(s:el)(Z:St)(H:Hp)(o i v:V)(ov iv u:ay)(Q:Hp->Prop),Inv X Xb Z H s->RelV o ov->RelV i iv->RelV v u->t o i v H Q->
  eH (ff X.prog X.w) X.A (Ww ov iv u) (λ_ g=>∃H',Inv X Xb Z H' g/\Q H') X.xe s
abbrev LG:=V->V->Hp->VK->Prop
def AI(X:Cx)(op:V4)(t:LG):Prop:=
 ∀(Xb:Xq)(s:el)(Z:St)(H:Hp)(x y:V)(v u:ay)(Q:VK),Inv X Xb Z H s->RelV x v->RelV y u->t x y H Q->
  eH (ff X.prog X.w) X.A (inplaceOp op v u) (EP X Xb Z Q) X.xe s
section
def HC(i:Nat):TG:=λv Z H Q=>Q (Z.set i<|some v) H
theorem G7(g:X.N.Nodup)(n:X.N[i]?=ap x)(y:Ah X.env.scope x)(q:X.fn x=true\/X.env.scope.names.lookup x=ap .local:=by first|exact .inl rfl|exact .inr rfl|assumption):PG X (.Name x pos) (HC i):=by
 intro Xb s Z H v u Q I r h;exact wpAny_assign_Name (fR I g n y r (λz I'=>⟨_,H,I',h⟩) q)
def gNil:Gn:=λg Z H Q=>g=[]/\Q Z H
def Me(t:TG)(u:Gn):Gn:=λn Z H Q=>∃v r,n=v::r/\t v Z H λg H'=>u r g H' Q
theorem Ge:Lz X [] gNil:=by
 intro Xb s Z H g us Q I r h;obtain⟨e,h⟩:=h;subst e;cases r;exact assignInOrder_nil ⟨Z,H,I,h⟩
theorem BK{t:TG}{u:Gn}(B:PG X e t)(F:Lz X es u)(z:(ra (e::es) X.env).map (·.2)=We e X.env::(ra es X.env).map (·.2):=by rfl):Lz X (e::es) (Me t u):=by
 intro Xb s Z H J us Q I r h;obtain⟨v,G,n,h⟩:=h;subst n;cases r with
 |cons r rr=>
  rw[z];refine Wn (bq (B Xb s Z H _ _ _ I r h) λ_ q ⟨g,H1,I1,y⟩=>?_);exact F Xb q g H1 _ _ Q I1 rr y
def gTup(K:OA)(n:Nat)(t:Gn):TG:=λv Z H Q=>∃a xs,v=.ref a/\ij K H a xs/\xs.length=n/\t xs Z H Q
theorem IW{k:Nat}{t:Gn}{n:Nat}(O:X.calm=true)(h:Lz X es t)(R:(ra es X.env).length=n:=by rfl)(hst:(ra es X.env).findIdx? (·.1)=none:=by rfl):PG X (.Tuple es k pos) (gTup X.K n t):=by
 intro Xb s Z H v u Q I r g;obtain⟨a,y,z,F,B,g⟩:=g;subst z;cases r;obtain⟨G,q,L,S⟩:=I.tuple F;refine assign_Tuple_tuple (I.ok.hd O) L (by simp[R,<- B,q.length]) hst λh' J=>?_
 have I1:Inv X Xb Z H { s with heap:=h' }:=I.kept (t':=s.toks) λb o e=>J b o (OP<|OD e) e;exact h Xb _ Z H y _ Q I1 (by simpa using q) g
def gSub(to ti:TE)(t:BY):TG:=λv Z H Q=>to Z H λo H1=>ti Z H1 λi H2=>t o i v H2 λH3=>Q Z H3
theorem Ih{o i:fy}{to ti:TE}{t:BY}(L:PE X o to)(O:PE X i ti)(J:Fz X t)(R:∀v,We (.Subscript o i pos) X.env v=(do
   let ov <- vb [v] (gp o X.env)
   let iv <- vb [v,ov] (gp i X.env)
   VX pos
   vb [v,ov,iv] (Ww ov iv v)
   release [v,ov,iv] []):=by intro _;rfl):PG X (.Subscript o i pos) (gSub to ti t):=by
 intro Xb s Z H v u Q I r h;rw[R];refine ax (om (bq (L Xb s Z H _ I h) λov z ⟨x,H1,I1,B,F⟩=>?_));refine ax (om (bq (O Xb z Z H1 _ I1 F) λiv n ⟨y,H2,I2,g,G⟩=>?_));refine ax (Tl<|wpAny_bind<|wpAny_holding (bq (J Xb n Z H2 x y v ov iv u _ I2 B g r G) λ_ S ⟨H3,I3,q⟩=>?_));exact wpAny_release ⟨Z,H3,I3,q⟩
def NW(te:TE)(g:TG):TS:=λD Z H=>te Z H λx H1=>g x Z H1 D.nx
theorem Kk{g:TG}(G:PE X e te)(B:PG X tg g)(F:Wi [tg] e pos.line X.env=pure false:=by rfl)(hw:Wj [tg] e X.env=pure none:=by rfl)(h1:(ra [tg] X.env).map (·.2)=[We tg X.env]:=by rfl):PS X (.Assign [tg] e pos) (NW te g):=by
 intro Xb s Z H D I h;refine wpAny_Assign_stores (bq (G Xb s Z H _ I h) λv n ⟨x,H1,I1,y,z⟩=>?_) F hw;rw[h1];exact bq (B Xb n Z H1 x v _ I1 y z) λ_ J q=>q
theorem IA(q:X.N.Nodup)(F:X.N[i]?=ap x)(B:Ah X.env.scope x)(z:PE X e te)(G:wh e (ap<|.Name x pos') pos.line X.env=pure false:=by rfl)(hf:X.fn x=true\/X.env.scope.names.lookup x=ap .local:=by first|exact .inl rfl|exact .inr rfl|assumption):
  PS X (.Assign [.Name x pos'] e pos) (NW te<|HC i):=by
 intro Xb s Z H D I h;refine wpAny_Assign_Name (bq (z Xb s Z H _ I h) λv J ⟨y,H1,I1,g,n⟩=>?_) G;exact fR I1 q F B g (λL I2=>⟨_,H1,I2,n⟩) hf
def tPar(i j:Nat)(ta:TA):TS:=λD Z H=>ta Z H λg H1=>∃v w,g=[v,w]/\D.nx ((Z.set i<|some v).set j<|some w) H1
theorem Ja{y:Str}{a b:fy}{ta:TA}{L J R:Pos}{kt k2 pt2}(hc:X.calm=true)(S:X.N.Nodup)(hi:X.N[i]?=ap x)(hj:X.N[j]?=ap y)(O:i≠j)(U:X.env.scope.names.lookup x=ap .local)(T:X.env.scope.names.lookup y=ap .local)(ha:PA X [a,b] ta)(hw:Wj [.Tuple [.Name x L,.Name y J] kt R] (.Tuple [a,b] k2 pt2) X.env=pure (ap [x,y]))(hs:Wi [.Tuple [.Name x L,.Name y J] kt R] (.Tuple [a,b] k2 pt2) pos.line X.env=pure false:=by rfl):
  PS X (.Assign [.Tuple [.Name x L,.Name y J] kt R] (.Tuple [a,b] k2 pt2) pos) (tPar i j ta):=by
 intro Xb s Z H D I h;rw[exec_Assign_arm];refine ax (Tl ?_);rw[hs];refine ax (eX ?_);rw[if_neg (by decide)]
 refine ax (Tuple_ (bq (ha _ Xb s Z H _ I h) λus z ⟨vs,H1,I1,r1,G⟩=>?_));obtain⟨v,w,W,G⟩:=G;subst W;obtain⟨g,n,rfl,Y,B⟩:∃g n,us=[g,n]/\RelV v g/\RelV w n:=by
  cases r1 with
  |cons p q=>
   cases q with
   |cons p' q'=>
    cases q';exact⟨_,_,rfl,p,p'⟩
 refine n7 ?_ (by show 2<=sizeLine;decide)
 have I2:Inv X Xb Z H1 { z with heap:=z.heap.push { cls:=.type "tuple",data:=.seq [g,n].toArray } }:=I1.kept (t':=z.toks) λb o e=>Ow _ e;rw[hw];refine ax (eX ?_);show eH (ff X.prog X.w) X.A (do rule "assign.swapped-stores";let items <- unpackItems (.ref z.heap.objs.size) 2 cm;WJ [λv=>Xa X.env y v,λv=>Xa X.env x v] items.reverse;pure Flow.next) _ _ _
 refine ax (Ps<|wpAny_bind (unpackItems_tuple (items:=#[g,n]) (I.ok.hd hc) (IsTup.new z.heap _) λh' F=>?_));have I3:=I2.kept (h':=h') (t':=z.toks) λb o e=>F b o (OP<|OD e) e;show eH _ _ (WJ [λv=>Xa X.env y v,λv=>Xa X.env x v] [n,g] >>= λ_=>pure Flow.next) _ _ _;refine ax (Wn<|wpAny_bindName<|fR I3 S hj (.inl T) B (λs2 I4=>?_)<|.inr T);refine Wn (wpAny_bindName<|fR I4 S hi (.inl U) Y (λs3 I5=>assignInOrder_nil (eX ?_))<|.inr U);rw[List.set_comm _ _ (Pa O)]at I5;exact⟨_,H1,I5,G⟩
def tAug(i:Nat)(te:TE)(ti:LG):TS:=λD Z H=>∃x,Z[i]?=ap (ap x)/\te Z H λy H1=>ti x y H1 λz H2=>D.nx (Z.set i<|some z) H2
theorem Iq{ti:LG}(hN:X.N.Nodup)(F:X.N[i]?=ap x)(B:Ah X.env.scope x)(he:PE X e te)(Y:AI X op ti)(hf:X.fn x=true\/X.env.scope.names.lookup x=ap .local:=by first|exact .inl rfl|exact .inr rfl|assumption):
  PS X (.AugAssign (.Name x pos') op e pos) (tAug i te ti):=by
 intro Xb s Z H D I h;obtain⟨v,L,h⟩:=h;obtain⟨m,R,G⟩:=I.loc;have q:Iw X.env.scope x:=by rcases B with k|k;exact .inl k;exact .inr (.inl k)
 obtain⟨u,r,l⟩:=G i x v F L q;refine wpAny_AugAssign_Name ?_;have go:eH (ff X.prog X.w) X.A (gp e X.env) (λw g=>eH (ff X.prog X.w) X.A (inplaceOp op u w) (λr n=>eH (ff X.prog X.w) X.A (storeName X.env x r) (λ_=>SP X Xb D .next) X.xe n) X.xe g) X.xe s:=by
  refine bq (he Xb s Z H _ I h) λw S ⟨y,H1,I1,O,J⟩=>?_;refine bq (Y Xb S Z H1 v y u w _ I1 r O J) λz s2 ⟨zv,H2,I2,U,T⟩=>?_;exact fR I2 hN F B U (λs3 I3=>⟨_,H2,I3,T⟩) hf
 rcases l with⟨hk,W⟩|⟨hk,c,hc,hcell⟩
 .exact W4 I.ok.kind hk R W go
 .rcases hk with hk|hk
  .exact wpAny_loadName_cell I.ok.kind hk hc hcell go
  .rcases B with k|k
   .have:X.env.scope.names.lookup x=ap .free:=hk
    rw[k]at this;cases this
   .have:X.env.scope.names.lookup x=ap .free:=hk
    rw[k]at this;cases this
def Nr(to ti te:TE)(tget:V->V->Hp->VK->Prop)(tip:LG)(tset:BY):TS:=λD Z H=>to Z H λo H1=>ti Z H1 λi H2=>tget o i H2 λx H3=>te Z H3 λy H4=>tip x y H4 λz H5=>tset o i z H5 λH6=>D.nx Z H6
def Ms(X:Cx)(t:V->V->Hp->VK->Prop):Prop:=
 ∀(Xb:Xq)(s:el)(Z:St)(H:Hp)(o i:V)(ov iv:ay)(Q:VK),Inv X Xb Z H s->RelV o ov->RelV i iv->t o i H Q->
  eH (ff X.prog X.w) X.A (V6 ov iv) (EP X Xb Z Q) X.xe s
theorem Fv{o i:fy}{to ti:TE}{g:V->V->Hp->VK->Prop}{z:LG}{n:BY}{tpos:Pos}(ho:PE X o to)(hi:PE X i ti)(hg:Ms X g)(he:PE X e te)(hp:AI X op z)(hs:Fz X n)(ha:∀y q new,augStore i y q new=(do vb [new,y,q] (Ww y q new);release [new,y,q] [];pure .next):=by intros;rfl):PS X (.AugAssign (.Subscript o i tpos) op e pos) (Nr to ti te g z n):=by
 intro Xb s Z H D I h;refine wpAny_AugAssign_SubscriptAny (bq (ho Xb s Z H _ I h) λy R ⟨F,H1,I1,L,T⟩=>?_) ha;refine bq (hi Xb R Z H1 _ I1 T) λq s2 ⟨G,H2,I2,J,U⟩=>?_;refine bq (hg Xb s2 Z H2 F G y q _ I2 L J U) λB Y ⟨x3,H3,I3,O,q3⟩=>?_;refine bq (he Xb Y Z H3 _ I3 q3) λv S ⟨x4,H4,I4,r4,W⟩=>?_;refine bq (hp Xb S Z H4 x3 x4 B v _ I4 O r4 W) λnew s5 ⟨x5,H5,I5,r5,q5⟩=>?_;exact bq (hs Xb s5 Z H5 F G x5 y q new _ I5 L J r5 q5) λ_ s6 ⟨H6,I6,q6⟩=>⟨Z,H6,I6,q6⟩
def ipI(f:Int->Int->Int):LG:=λx y H Q=>∃i j,x=.int i/\y=.int j/\Q (.int<|f i j) H
theorem KO:AI X .Add (ipI λi j=>i+j):=by
 intro Xb s Z H x y v u Q I B g h;obtain⟨i,j,n,z,q⟩:=h;subst n;subst z;obtain⟨t,rfl⟩:=B;obtain⟨t',rfl⟩:=g;exact iadd_int ⟨.int _,H,I.tok _,⟨_,rfl⟩,q⟩
theorem Kr:AI X .Sub (ipI λi j=>i-j):=by
 intro Xb s Z H x y v u Q I B g h;obtain⟨i,j,n,z,q⟩:=h;subst n;subst z;obtain⟨t,rfl⟩:=B;obtain⟨t',rfl⟩:=g;exact isub_int ⟨.int _,H,I.tok _,⟨_,rfl⟩,q⟩
end
section
def Ly(c:TT)(tb:TS):TS:=λD Z H=>∃W:Nat->St->Hp->Prop,(∃m,W m Z H)/\∀m Z H,W m Z H->
 c Z H λb H1=>if b=true then ∃N:St->Hp->Prop,(∀σ' H',N σ' H'->∃m',m'<m/\W m' σ' H')/\tb { D with nx:=N,ct:=N,bk:=D.nx } Z H1 else D.nx Z H1
theorem AG{O:TT}{tb:TS}(R:WQ (ff X.prog X.w) X.A X.env X.xe)(hc:PT X c O)(hb:yv X body tb):PS X (.While c body [] pos) (Ly O tb):=by
 intro Xb s Z H D I h;obtain⟨W,⟨Y,T⟩,turn⟩:=h;refine wpAny_While (codeAny_whileLoop (λn s'=>∃σ' H',Inv X Xb σ' H' s'/\W n σ' H') ?_ Y ⟨Z,H,I,T⟩)
 rintro n U ⟨q,H1,I1,S⟩
 refine z4 R (bq (hc Xb U q H1 _ I1<|turn n q H1 S) λb s2 ⟨H2,I2,y⟩=>?_);cases b with
 |true=>
  obtain⟨N,L,y⟩:=y;rw[if_pos rfl];refine z4 R (bq (hb Xb s2 q H2 _ I2 y) λf s3 z=>?_);cases f with
  |next=>
   obtain⟨g,H3,I3,B⟩:=z;obtain⟨F,J,G⟩:=L g H3 B;exact⟨F,J,g,H3,I3,G⟩
  |cont=>
   obtain⟨g,H3,I3,B⟩:=z;obtain⟨F,J,G⟩:=L g H3 B;exact⟨F,J,g,H3,I3,G⟩
  |brk=>exact z
  |ret v=>exact z
 |false=>
  rw[if_neg OW];exact Rs ⟨q,H2,I2,y⟩
end
structure It where
 go:Nat->Hp->Prop
 yld:Nat->Hp->V->Hp->Prop
 stop:Nat->Hp->Prop
def gs(X:Cx)(Xb:Xq)(H:Hp)(b:eg):Prop:=
 H b=cm/\b≠X.env.locals/\b∉X.fs/\(b∈X.ex\/X.s₀.heap.objs.size<=b)/\(∀x c,X.env.cells.lookup x=ap c->c≠b)/\∀p∈X.pn++Xb,p.1≠b
theorem Inv.fpOk(I:Inv X Xb Z H s)(g:s.heap.objs.size<=b)(y:H' b=cm):gs X Xb H' b:=by
 refine⟨y,Qk (OF I.lt g),I.nofs g,.inr (OV I.sz g),λx c e z=>?_,λp n z=>?_⟩
 .obtain⟨v,q⟩:=I.cell x c e
  exact absurd (OF q.lt<|by rw[z];exact g) (Pq _)
 .exact absurd (OF (OD (I.pin p n).1)<|by rw[z];exact g) (Pq _)
structure Turn(P:fx)(w:g3)(K:OA)(tg:fy)(J:It)(fp:Xm)(it:eg)(tn:Nat->hG->Prop):Prop where
 mem:it∈fp
 obj:∀i h,tn i h->∀b∈fp,∃o,h.get? b=ap o/\∀v,o.data≠.cell v
 keep:∀i h h',tn i h->(∀b∈fp,∀o,h.get? b=ap o->h'.get? b=ap o)->tn i h'
 item:∀(X:Cx),X.prog=P->X.w=w->X.K=K->X.calm=true->∀(i:Nat)(Xb:Xq)(s:el)(Z:St)(H:Hp)(E:Xp),Inv X Xb Z H s->(∀b∈fp,gs X Xb H b)->tn i s.heap->J.go i H->
  eH (ff P w) X.A (P3<|.ref it) (λr s1=>∃u,r=ap u/\
   eH (ff P w) X.A (Wa tg (.ref it) u) (λ_ s2=>∃x H',Inv X Xb Z H' s2/\RelV x u/\J.yld i H x H'/\tn (i+1) s2.heap/\∀b∈fp,H' b=cm) E s1) E s
 done:∀(X:Cx),X.prog=P->X.w=w->X.K=K->X.calm=true->∀(i:Nat)(Xb:Xq)(s:el)(Z:St)(H:Hp)(E:Xp),Inv X Xb Z H s->(∀b∈fp,gs X Xb H b)->tn i s.heap->J.stop i H->
  eH (ff P w) X.A (P3<|.ref it) (λr s1=>r=cm/\Inv X Xb Z H s1) E s
 self:∀(A:i5)(i:Nat)(s:el)(Q:Xp)(E:Xp),tn i s.heap->Q (.ref it) s->eH (ff P w) A (pyIter<|.ref it) Q E s
abbrev TI:=St->Hp->(It->Hp->Prop)->Prop
def PIE(X:Cx)(Xb:Xq)(Z:St)(tg:fy)(R:It->Hp->Prop)(itv:ay)(s2:el):Prop:=
 ∃(it:eg)(fp:Xm)(tn:Nat->hG->Prop)(J:It)(H':Hp),itv=.ref it/\Inv X Xb Z H' s2/\Turn X.prog X.w X.K tg J fp it tn/\tn 0 s2.heap/\(∀b∈fp,gs X Xb H' b)/\R J H'
def PI(X:Cx)(tg iter:fy)(wi:TI):Prop:=
 ∀(Xb:Xq)(s:el)(Z:St)(H:Hp)(R:It->Hp->Prop),Inv X Xb Z H s->wi Z H R->
  eH (ff X.prog X.w) X.A (gp iter X.env) (λv g=>eH (ff X.prog X.w) X.A (pyIter v) (PIE X Xb Z tg R) X.xe g) X.xe s
theorem xF{it:eg}{o:Obj}{n:String}{vs:Xs}{Q:Unit->el->Prop}(v:s.heap.get? it=ap o)(q:o.cls=.type n)(z:o.data=.fields vs)(y:["enumerate","zip","dict_itemiterator","dict_reverseitemiterator","odict_iterator","itertools.zip_longest","itertools.pairwise"].contains n=eC)(g:Q () s):eH M A (Wa tg (.ref it) u) Q E s:=by
 unfold Wa
 cases tg<;>first
  |exact eX g
  |(cases u<;>first
    |exact eX g
    |(refine ax (wpAny_load v ?_)
      rw[q,z];show eH M A (if (["enumerate","zip","dict_itemiterator","dict_reverseitemiterator","odict_iterator","itertools.zip_longest","itertools.pairwise"].contains n&&vs[0]?==ap (x9 _))=true then _ else _) Q E s
      rw[if_neg (by intro h;rw[y,TN]at h;cases h)]
      exact eX g))
def Itl(K:OA)(a:eg):It:=
 ⟨λi H=>∃xs x,SqL K H a xs/\xs[i]?=ap x,λi H x H'=>H'=H/\∀xs,SqL K H a xs->xs[i]?=ap x,λi H=>∃xs,SqL K H a xs/\xs.length<=i⟩
def Itt(K:OA)(a:eg):It:=
 ⟨λi H=>∃xs x,ij K H a xs/\xs[i]?=ap x,λi H x H'=>H'=H/\∀xs,ij K H a xs->xs[i]?=ap x,λi H=>∃xs,ij K H a xs/\xs.length<=i⟩
def Itr(lo:Int)(n:Nat):It:=⟨λi _=>i<n,λi H x H'=>H'=H/\x=.int (lo+i),λi _=>n<=i⟩
theorem A2(a it:eg):Turn P w K tg (Itl K a) [it] it (λi h=>h.IsListIter it a i) where
 mem:=by simp
 obj:=λi h g b n=>by
  have e:b=it:=by simpa using n
  subst e;obtain⟨o,e,c,d⟩:=g;exact⟨o,e,λv z=>by rw[d]at z;cases z⟩
 keep:=λi h h' g k=>g.at λo e=>k it (by simp) o e
 item:=by
  intro X Y R O hc i Xb s Z H E I y g T;subst Y R O;obtain⟨xs,x,B,hx⟩:=T;obtain⟨L,W,p,hz⟩:=I.list B;obtain⟨u,hu,ru⟩:=W.get hx;obtain⟨S,F,f2,G,J,U⟩:=y it (by simp)
  refine WS g p.isList (x:=u) (by simpa using hu) λh' q sb=>?_
  have I1:Inv X Xb Z H { s with heap:=h' }:=I.turned (t':=s.toks) (λb o n e=>(sb.2 b n).trans e) S F G J U;obtain⟨o,e,c,d⟩:=id q;exact⟨u,rfl,xF (s:={ s with heap:=h' }) e c d (by decide) ⟨x,H,I1,ru,⟨rfl,λys hy=>by rw[I.list_inj hy B];exact hx⟩,q,λb n=>(y b n).1⟩⟩
 done:=by
  intro X Y R O hc i Xb s Z H E I y g T;subst Y R O;obtain⟨xs,B,hx⟩:=T;obtain⟨L,W,p,hz⟩:=I.list B;obtain⟨S,F,f2,G,J,U⟩:=y it (by simp)
  have hl:=W.length;exact W1 (I.ok.hd hc) g p.isList (by simp;lia) λh' eb=>⟨rfl,I.turned (t':=s.toks) (λb o n e=>eb b o n e) S F G J U⟩
 self:=λ_ _ _ _ _ g h=>wpAny_pyIter_listiter g h
theorem vC(a it:eg):Turn P w K tg (Itt K a) [it] it (λi h=>h.IsTupleIter it a i) where
 mem:=by simp
 obj:=λi h g b n=>by
  have e:b=it:=by simpa using n
  subst e;obtain⟨o,e,c,d⟩:=g;exact⟨o,e,λv z=>by rw[d]at z;cases z⟩
 keep:=λi h h' g k=>g.at λo e=>k it (by simp) o e
 item:=by
  intro X Y R O hc i Xb s Z H E I B g T;subst Y R O;obtain⟨xs,x,F,hx⟩:=T;obtain⟨q,W,p,hz⟩:=I.tuple F;obtain⟨u,hu,ru⟩:=W.get hx;obtain⟨S,G,f2,J,L,U⟩:=B it (by simp)
  refine wpAny_pyNext_tuple_item g (show s.heap.IsTuple a q.toArray from p) (x:=u) (by simpa using hu) λh' y sb=>?_
  have I1:Inv X Xb Z H { s with heap:=h' }:=I.turned (t':=s.toks) (λb o n e=>(sb.2 b n).trans e) S G J L U;obtain⟨o,e,c,d⟩:=id y;exact⟨u,rfl,xF (s:={ s with heap:=h' }) e c d (by decide) ⟨x,H,I1,ru,⟨rfl,λys hy=>by rw[I.tuple_inj hy F];exact hx⟩,y,λb n=>(B b n).1⟩⟩
 done:=by
  intro X Y R O hc i Xb s Z H E I B g T;subst Y R O;obtain⟨xs,F,hx⟩:=T;obtain⟨q,W,p,hz⟩:=I.tuple F;obtain⟨S,G,f2,J,L,U⟩:=B it (by simp)
  have hl:=W.length;exact wpAny_pyNext_tuple_end (I.ok.hd hc) g (show s.heap.IsTuple a q.toArray from p) (by simp;lia) λh' eb=>⟨rfl,I.turned (t':=s.toks) (λb o n e=>eb b o n e) S G J L U⟩
 self:=λ_ _ _ _ _ g h=>wpAny_pyIter_tupleiter g h
theorem vR(it:eg)(F:Int)(n:Nat):Turn P w K tg (Itr F n) [it] it (λi h=>IsRangeIter h it (F+(i:Nat)*1) ((n:Int)-(i:Nat)) 1) where
 mem:=by simp
 obj:=λi h g b q=>by
  have e:b=it:=by simpa using q
  subst e;exact⟨_,g,λv z=>by
   have z':Data.fields _=Data.cell v:=z;cases z'⟩
 keep:=λi h h' g k=>k it (by simp) _ g
 item:=by
  intro X hP S O R i Xb s Z H E I B g U;subst hP S O;obtain⟨T,G,f2,J,L,Y⟩:=B it (by simp)
  have W:=Walks.range (prog:=X.prog) (w:=X.w) (I.ok.hd R) it F 1 n;refine W.item i s _ _ U g λv h' tk hv y kk=>?_;obtain⟨t,rfl⟩:=hv;have I1:Inv X Xb Z H { s with heap:=h',toks:=tk }:=I.turned (λb o q e=>kk b o (by simpa using q) e) T G J L Y
  refine⟨_,rfl,xF (s:={ s with heap:=h',toks:=tk }) (n:="range_iterator") y rfl rfl (by decide) ⟨.int (F+i),H,I1,⟨t,?_⟩,⟨rfl,rfl⟩,y,λb q=>(B b q).1⟩⟩
  rw[Tu]
 done:=by
  intro X hP S O R i Xb s Z H E I B g U;subst hP S O;obtain⟨T,G,f2,J,L,Y⟩:=B it (by simp)
  exact wpAny_pyNext_range_end (I.ok.hd R) g (by have:n<=i:=U;lia) λh' eb=>⟨rfl,I.turned (t':=s.toks) (λb o q e=>eb b o q e) T G J L Y⟩
 self:=λ_ _ _ _ _ g h=>wpAny_pyIter_rangeiter g h
section
theorem B2{R:It->Hp->Prop}{g n:Int}{t u v:Tok}{y:Nat}(I:Inv X Xb Z H s)(J:-(2 ^ 62)<=g)(L:g<2 ^ 62)(O:-(2 ^ 62)<=n)(G:n<2 ^ 62)(q:R (Itr g (n-g).toNat) H):eH (ff X.prog X.w) X.A (pyIter<|.ref s.heap.objs.size) (PIE X Xb Z tg R) E { s with heap:=s.heap.push { cls:=.type "range",data:=.fields #[.int g t,.int n u,.int 1 v] },toks:=y }:=by
 refine wpAny_pyIter_range (IsRange.new ..) (small_one J L O G) ?_;have I1:Inv X Xb Z H { s with heap:=s.heap.push { cls:=.type "range",data:=.fields #[.int g t,.int n u,.int 1 v] },toks:=y }:=I.kept λb o e=>Ow _ e;refine⟨(s.heap.push { cls:=.type "range",data:=.fields #[.int g t,.int n u,.int 1 v] }).objs.size,[(s.heap.push { cls:=.type "range",data:=.fields #[.int g t,.int n u,.int 1 v] }).objs.size],_,_,H,rfl,
  I1.kept (t':=y) λb o e=>Ow _ e,vR _ g (n-g).toNat,?_,λb F=>?_,q⟩
 .have z:g+((0:Nat):Int)*1=g:=by simp
  have B:(((n-g).toNat:Nat):Int)-((0:Nat):Int)=Builtin.Range.rangeSize g n 1:=by rw[rangeSize_one];split<;>lia
  show IsRangeIter _ _ (g+((0:Nat):Int)*1) ((((n-g).toNat:Nat):Int)-((0:Nat):Int)) 1;rw[z,B];exact OI _ rfl
 .have e:b=(s.heap.push { cls:=.type "range",data:=.fields #[.int g t,.int n u,.int 1 v] }).objs.size:=by simpa using F
  subst e;exact I1.fpOk (OB _) (I1.hok.fresh<|OB _)
def Nt(ta:TA):TI:=λZ H R=>ta Z H λg H1=>∃j:Int,g=[.int j]/\-(2 ^ 62)<=j/\j<2 ^ 62/\R (Itr 0 j.toNat) H1
theorem zD{a:fy}{ta:TA}(B:Gl X "range")(z:X.mg "range"=cm)(y:PA X [a] ta)(F:fe [a] X.env=[(eC,gp a X.env)]:=by rfl):PI X tg (.Call (.Name "range" p) [a] [] pos) (Nt ta):=by
 intro Xb s Z H R I h;refine Call_ (eF I B z boot_range<|Pr (bq (y pos Xb s Z H _ I h) λus G ⟨J,H1,I1,n,g⟩=>?_) F rfl);obtain⟨j,e,g,v,q⟩:=g;subst e;cases n with
 |cons r rr=>
  cases rr;obtain⟨t,rfl⟩:=r;exact call_range_1 (B2 I1 (by lia) (by lia) g v<|by simpa using q)
def tFor(wi:TI)(g:TG)(tb:TS):TS:=λD Z H=>wi Z H λJ H1=>∃W:Nat->Nat->St->Hp->Prop,(∃m,W 0 m Z H1)/\∀i m Z H,W i m Z H->
 (J.stop i H/\D.nx Z H)\/(J.go i H/\∃N:St->Hp->Prop,(∀σ' H',N σ' H'->∃m',m'<m/\W (i+1) m' σ' H')/\∀x H',J.yld i H x H'->g x Z H' λn H2=>tb { D with nx:=N,ct:=N,bk:=D.nx } n H2)
def jQ(fp:Xm)(h:hG):List (eg×Obj):=fp.filterMap λb=>(h.get? b).map λo=>(b,o)
theorem cS{o:Obj}(g:b∈fp)(e:h.get? b=ap o):(b,o)∈jQ fp h:=U3.mpr ⟨b,g,by rw[e];rfl⟩
theorem z_{p:eg×Obj}(v:p∈jQ fp h):p.1∈fp/\h.get? p.1=ap p.2:=by
 obtain⟨b,g,e⟩:=U3.mp v;cases q:h.get? b with
 |none=>rw[q]at e;cases e
 |some o=>
  rw[q]at e;have n:(b,o)=p:=PH e;subst n;exact⟨g,q⟩
theorem Inv.pinned(I:Inv X Xb Z H s)(J:∀b∈fp,gs X Xb H b)(G:∀b∈fp,∃o,s.heap.get? b=ap o/\∀v,o.data≠.cell v):Inv X (Xb++jQ fp s.heap) Z H s:=
 I.pins_of λp B=>(Ph.mp B).elim (λz=>I.pin p (Pb _ z)) λz=>by
  obtain⟨g,e⟩:=z_ z;obtain⟨y,q,F,_⟩:=J p.1 g;obtain⟨o,n,d⟩:=G p.1 g;rw[e]at n;cases n;exact⟨e,y,q,F,d⟩
theorem Inv.unpinned{pl:Xq}(I:Inv X (Xb++pl) Z H s):Inv X Xb Z H s:=I.pins_of λp g=>I.pin p (Pb _<|Sq _ g)
theorem Lh{F:fy}{wi:TI}{g:TG}{tb:TS}(hp:WQ (ff X.prog X.w) X.A X.env X.xe)(hc:X.calm=true)(hi:PI X tg F wi)(hg:PG X tg g)(B:yv X body tb)(hs:∀x,ol F X.env x=pure x:=by intro _;rfl):PS X (.For tg F body [] pos) (tFor wi g tb):=by
 intro Xb s Z H D I h;refine wpAny_For (bq (hi Xb s Z H _ I h) λv s1 h1=>bq h1 λitv s2 h2=>?_) hs;obtain⟨it,fp,tn,J,H2,e,I2,T,st2,f2,W,⟨m0,w0⟩,U⟩:=h2;subst e
 -- what stays true of the iterator's objects through the loop
 have z:∀{H':Hp},(∀b∈fp,H' b=cm)->∀b∈fp,gs X Xb H' b:=λhn b B=>⟨hn b B,(f2 b B).2⟩;refine codeAny_forLoop_any (λn s'=>∃i σ' H',Inv X Xb σ' H' s'/\tn i s'.heap/\(∀b∈fp,H' b=cm)/\W i n σ' H') ?_ m0 ⟨0,Z,H2,I2,st2,λb B=>(f2 b B).1,w0⟩
 rintro n s3 ⟨i,y,H3,I3,Y,S,w3⟩
 rcases U i n y H3 w3 with⟨O,qn⟩|⟨go,N,hN,step⟩
 .refine z4 hp (bq (T.done X rfl rfl rfl hc i Xb s3 y H3 X.xe I3 (z S) Y O) λr s4 ⟨hr,I4⟩=>?_)
  subst hr;exact Rs ⟨y,H3,I4,qn⟩
 .refine z4 hp (bq (T.item X rfl rfl rfl hc i Xb s3 y H3 X.xe I3 (z S) Y go) λr s4 ⟨u,hr,h4⟩=>?_)
  subst hr;refine z4 hp (bq h4 λ_ s5 ⟨x,H5,I5,r5,y5,L,fr5⟩=>?_);have I5':=I5.pinned (z fr5) (T.obj _ _ L);refine z4 hp (bq (hg _ s5 y H5 x u _ I5' r5<|step x H5 y5) λ_ s6 ⟨σ6,H6,I6,q6⟩=>?_);refine z4 hp (bq (B _ s6 σ6 H6 _ I6 q6) λf s7 G=>?_);have again:∀{q:St}{H7:Hp},Inv X (Xb++jQ fp s5.heap) q H7 s7->N q H7->∃m,m<n/\∃i σ' H',Inv X Xb σ' H' s7/\tn i s7.heap/\(∀b∈fp,H' b=cm)/\W i m σ' H':=λ{q H7} I7 R=>by
   obtain⟨m',hm,w7⟩:=hN q H7 R;refine⟨m',hm,i+1,q,H7,I7.unpinned,T.keep _ _ _ L λb B o e=>(I7.pin (b,o)<|Pb _<|Pb _<|cS B e).1,λb B=>?_,w7⟩;obtain⟨o,e,d⟩:=T.obj _ _ L b B;exact(I7.pin (b,o)<|Pb _<|Pb _<|cS B e).2.1
  cases f with
  |next=>obtain⟨q,H7,I7,R⟩:=G;exact again I7 R
  |cont=>obtain⟨q,H7,I7,R⟩:=G;exact again I7 R
  |brk=>obtain⟨q,H7,I7,G⟩:=G;exact⟨q,H7,I7.unpinned,G⟩
  |ret v=>obtain⟨x7,q,H7,I7,r7,G⟩:=G;exact⟨x7,q,H7,I7.unpinned,r7,G⟩
end
abbrev R2:=V->V->Hp->VK->Prop
def cF(X:Cx)(f:ay->ay->Sem ay)(r:R2):Prop:=
 ∀(Xb:Xq)(s:el)(Z:St)(H:Hp)(x y:V)(v u:ay)(Q:VK),Inv X Xb Z H s->RelV x v->RelV y u->r x y H Q->
  eH (ff X.prog X.w) X.A (f v u) (EP X Xb Z Q) X.xe s
def UnR(X:Cx)(f:ay->Sem ay)(r:V->Hp->VK->Prop):Prop:=
 ∀(Xb:Xq)(s:el)(Z:St)(H:Hp)(x:V)(v:ay)(Q:VK),Inv X Xb Z H s->RelV x v->r x H Q->
  eH (ff X.prog X.w) X.A (f v) (EP X Xb Z Q) X.xe s
def bN(X:Cx)(f:ay)(r:List V->Hp->VK->Prop):Prop:=
 ∀(Xb:Xq)(s:el)(Z:St)(H:Hp)(xs:List V)(us:Xl)(Q:VK),Inv X Xb Z H s->Vals xs us->r xs H Q->
  eH (ff X.prog X.w) X.A (call f us) (EP X Xb Z Q) X.xe s
def TruR(X:Cx)(r:V->Hp->(Bool->Hp->Prop)->Prop):Prop:=
 ∀(Xb:Xq)(s:el)(Z:St)(H:Hp)(x:V)(v:ay)(Q:Bool->Hp->Prop),Inv X Xb Z H s->RelV x v->r x H Q->
  eH (ff X.prog X.w) X.A (truthy v) (TP X Xb Z Q) X.xe s
def MK(r:R2)(ta tb:TE):TE:=λZ H Q=>ta Z H λx H1=>tb Z H1 λy H2=>r x y H2 Q
def tUn(r:V->Hp->VK->Prop)(ta:TE):TE:=λZ H Q=>ta Z H λx H1=>r x H1 Q
def rI(C:Int->Int->Prop)(g:Int->Int->V):R2:=λx y H Q=>∃i j,x=.int i/\y=.int j/\C i j/\Q (g i j) H
def Am(g:Int->Int->V):R2:=λx y H Q=>∃i j,x=.int i/\y=.int j/\Q (g i j) H
def rU(g:Int->V):V->Hp->VK->Prop:=λx H Q=>∃i,x=.int i/\Q (g i) H
section
variable{a b:fy}{tc:TE}
theorem J5(G:PE X a ta)(J:PE X b tb){R:V->V->Hp->Prop}(I:Inv X Xb Z H s)(h:ta Z H λx H1=>tb Z H1 λy H2=>R x y H2){f:ay->ay->Sem ay}(L:∀v u g x y H2,Inv X Xb Z H2 g->RelV x v->RelV y u->R x y H2->eH (ff X.prog X.w) X.A (f v u) Q X.xe g):
  eH (ff X.prog X.w) X.A (gp a X.env) (λv s₁=>eH (ff X.prog X.w) X.A (gp b X.env) (λu s₂=>eH (ff X.prog X.w) X.A (f v u) Q X.xe s₂) X.xe s₁) X.xe s:=by
 refine bq (G Xb s Z H _ I h) λv n ⟨x,H1,I1,q,B⟩=>?_;refine bq (J Xb n Z H1 _ I1 B) λu g ⟨y,H2,I2,z,F⟩=>?_;exact L v u g x y H2 I2 q z F
theorem Mi{r:R2}(B:cF X (hB op) r)(G:PE X a ta)(F:PE X b tb):PE X (.BinOp a op b pos) (MK r ta tb):=by
 intro Xb s Z H Q I h;exact wpAny_BinOp (J5 G F I h λv u z x y H2 I2 n g q=>B Xb z Z H2 x y v u Q I2 n g q)
theorem Oa{op:UnaryOp}{r:V->Hp->VK->Prop}(y:UnR X (unaryOp op) r)(z:PE X a ta):PE X (.UnaryOp op a pos) (tUn r ta):=by
 intro Xb s Z H Q I h;exact UnaryOp_ (bq (z Xb s Z H _ I h) λv g ⟨x,H1,I1,n,q⟩=>y Xb g Z H1 x v Q I1 n q)
theorem LD{f:ay->ay->Sem ay}{C:Int->Int->Prop}{g:Int->Int->Int}(n:∀(i j:Int)(t u:Tok)(s:el)(Q:Xp)(E:Xp),C i j->Q (.int (g i j) s.toks) { s with toks:=s.toks+1 }->eH (ff X.prog X.w) X.A (f (.int i t)<|.int j u) Q E s):
  cF X f (rI C λi j=>.int (g i j)):=by
 intro Xb s Z H x y v u Q I B z h;obtain⟨i,j,rfl,rfl,F,q⟩:=h;obtain⟨t,rfl⟩:=B;obtain⟨t',rfl⟩:=z;exact n i j t t' s _ _ F ⟨.int (g i j),H,I.tok _,⟨_,rfl⟩,q⟩
theorem Br{f:ay->ay->Sem ay}{g:Int->Int->Int}(n:∀(i j:Int)(t u:Tok)(s:el)(Q:Xp)(E:Xp),Q (.int (g i j) s.toks) { s with toks:=s.toks+1 }->eH (ff X.prog X.w) X.A (f (.int i t)<|.int j u) Q E s):
  cF X f (Am λi j=>.int (g i j)):=by
 intro Xb s Z H x y v u Q I B z h;obtain⟨i,j,rfl,rfl,q⟩:=h;obtain⟨t,rfl⟩:=B;obtain⟨t',rfl⟩:=z;exact n i j t t' s _ _ ⟨.int (g i j),H,I.tok _,⟨_,rfl⟩,q⟩
theorem Gi{f:ay->ay->Sem ay}{g:Int->Int->Bool}(n:∀(i j:Int)(t u:Tok)(s:el)(Q:Xp)(E:Xp),Q (.bool<|g i j) s->eH (ff X.prog X.w) X.A (f (.int i t)<|.int j u) Q E s):
  cF X f (Am λi j=>.bl (g i j)):=by
 intro Xb s Z H x y v u Q I B z h;obtain⟨i,j,rfl,rfl,q⟩:=h;obtain⟨t,rfl⟩:=B;obtain⟨t',rfl⟩:=z;exact n i j t t' s _ _ ⟨.bl (g i j),H,I,rfl,q⟩
def Fb(i j:Int):Prop:=0<=j/\j<=1000000/\i.natAbs<2 ^ 64
def CMul(i j:Int):Prop:=(-(2 ^ 64)<i/\i<2 ^ 64)\/(-(2 ^ 64)<j/\j<2 ^ 64)
theorem CMul.ok{i j:Int}(h:CMul i j):IntMulOk i j:=by
 rcases h with⟨g,n⟩|⟨g,n⟩
 .exact .of_left (intBits_le_64 g n)
 .exact .of_right (intBits_le_64 g n)
theorem vk(k:Nat):(0:Int)<=2 ^ k:=by
 rw[two_pow_cast];exact Int.natCast_nonneg _
theorem Jf:cF X (hB .Add) (Am λi j=>.int (i+j)):=Br λ_ _ _ _ _ _ _ q=>add_int q
theorem IY:cF X (hB .Sub) (Am λi j=>.int (i-j)):=Br λ_ _ _ _ _ _ _ q=>sub_int q
theorem JG:cF X (hB .Mult) (rI CMul λi j=>.int (i*j)):=LD λ_ _ _ _ _ _ _ g q=>mul_int q g.ok
theorem JT:cF X (hB .Mod) (rI (λ_ j=>0<j) λi j=>.int (i % j)):=LD λi j _ _ _ _ _ g q=>by
 have n:(0:Int)<j:=g;exact mod_int' (by lia) (by rw[Int.fmod_eq_emod_of_nonneg i (by lia)];exact q)
theorem KP:cF X (hB .Pow) (rI Fb λi j=>.int (i ^ j.toNat)):=LD λ_ _ _ _ _ _ _ g q=>pow_int_small g.1 g.2.1 g.2.2 q
theorem KC:cF X (hB .LShift) (rI Fb λi j=>.int (i*2 ^ j.toNat)):=LD λ_ _ _ _ _ _ _ g q=>lshift_int_small g.1 g.2.1 g.2.2 q
theorem L8:cF X (hB .RShift) (rI (λ_ j=>0<=j) λi j=>.int (i / 2 ^ j.toNat)):=LD λi j _ _ _ _ _ g q=>
 rshift_int g (by rw[T4 i (vk _)];exact q)
theorem Kd:cF X (hB .BitAnd) (Am λi j=>.int (RD i j)):=Br λ_ _ _ _ _ _ _ q=>and_int q
theorem O7:cF X (hB .BitOr) (Am λi j=>.int (So i j)):=Br λ_ _ _ _ _ _ _ q=>or_int q
theorem Jr:cF X (hB .BitXor) (Am λi j=>.int (Builtin.bitXor i j)):=Br λ_ _ _ _ _ _ _ q=>xor_int q
theorem unI{f:ay->Sem ay}{g:Int->Int}(n:∀(i:Int)(t:Tok)(s:el)(Q:Xp)(E:Xp),Q (.int (g i) s.toks) { s with toks:=s.toks+1 }->eH (ff X.prog X.w) X.A (f<|.int i t) Q E s):
  UnR X f (rU λi=>.int (g i)):=by
 intro Xb s Z H x v Q I y h;obtain⟨i,rfl,q⟩:=h;obtain⟨t,rfl⟩:=y;exact n i t s _ _ ⟨.int (g i),H,I.tok _,⟨_,rfl⟩,q⟩
theorem La:UnR X (unaryOp .USub) (rU λi=>.int (-i)):=unI λ_ _ _ _ _ q=>neg_int q
end
section
variable{a b:fy}{tc:TE}
theorem Bm{Q:VK}{k g:Bool}(I:Inv X Xb Z H s)(q:Q (.bl k) H)(e:k=g):EP X Xb Z Q (.bool g) s:=by
 subst e;exact⟨.bl k,H,I,rfl,q⟩
theorem MQ:cF X (kc .Lt) (Am λi j=>.bl (decide (i<j))):=Gi λ_ _ _ _ _ _ _ q=>lt_int q
theorem Mh:cF X (kc .LtE) (Am λi j=>.bl (decide (i<=j))):=Gi λ_ _ _ _ _ _ _ q=>le_int q
theorem MV:cF X (kc .Gt) (Am λi j=>.bl (decide (j<i))):=Gi λ_ _ _ _ _ _ _ q=>gt_int q
theorem Oq:cF X (kc .GtE) (Am λi j=>.bl (decide (j<=i))):=Gi λ_ _ _ _ _ _ _ q=>ge_int q
theorem KU:cF X (kc .Is) (λx y H Q=>y=.non/\Q (.bl<|decide (x=.non)) H):=by
 intro Xb s Z H x y v u Q I g n h;obtain⟨rfl,q⟩:=h;cases n;refine is_none_gen (Bm I q ?_)
 cases x<;>first
  |(cases g;rfl)
  |(obtain⟨t,rfl⟩:=g;rfl)
theorem FS:cF X (kc .IsNot) (λx y H Q=>y=.non/\Q (.bl<|!decide (x=.non)) H):=by
 intro Xb s Z H x y v u Q I g n h;obtain⟨rfl,q⟩:=h;cases n;refine isnot_none_gen (Bm I q ?_)
 cases x<;>first
  |(cases g;rfl)
  |(obtain⟨t,rfl⟩:=g;rfl)
theorem EW{op:CmpOp}{r:R2}(F:cF X (kc op) r)(B:PE X a ta)(G:PE X b tb)(J:Wl op b=eC):PE X (.Compare a [op] [b] pos) (MK r ta tb):=by
 intro Xb s Z H Q I h;exact wpAny_Compare1 (J5 B G I h λv u z x y H2 I2 n g q=>F Xb z Z H2 x y v u Q I2 n g q) J
def NE(t:TE):TT:=λZ H Q=>t Z H λx H'=>∃k,x=.bl k/\Q k H'
theorem EC{op:CmpOp}{r:R2}(R:cF X (kc op) r)(O:PE X a ta)(S:PE X b tb)(T:Wl op b=eC):PT X (.Compare a [op] [b] pos) (NE<|MK r ta tb):=by
 intro Xb s Z H Q I h;refine wpAny_isTrue_Compare1 (bq (O Xb s Z H _ I h) λv F ⟨x,H1,I1,G,J⟩=>bq (S Xb F Z H1 _ I1 J) λu q ⟨y,H2,I2,n,L⟩=>
  bq (R Xb q Z H2 x y v u _ I2 G n L) λc U ⟨z,H3,I3,g,k,e,B⟩=>?_) T
 subst e;cases g;exact wpAny_truthy_bool ⟨H3,I3,B⟩
def KF(K:OA)(x:V)(H:Hp)(k:Bool):Prop:=
 match x with
 |.non=>k=eC
 |.bl b=>k=b
 |.int i=>k=(i != 0)
 |.str y=>y.length<=sizeLine/\k=((y.length:Int) != 0)
 |.byt y=>y.size<=sizeLine/\k=((y.size:Int) != 0)
 |.ref p=>(∃xs,SqL K H p xs/\k=!xs.isEmpty)\/(∃xs,ij K H p xs/\k=!xs.isEmpty)\/∃Xd,H p=ap (.dK Xd)/\k=!Xd.isEmpty
 |_=>False
theorem vy{n:Type}{g:List (n×V)}{vs:List (n×ay)}(r:KV g vs):(!vs.isEmpty)=!g.isEmpty:=by
 cases r<;>rfl
theorem mE{xs:List V}{Xh:Xl}(r:Vals xs Xh):(!Xh.toArray.isEmpty)=!xs.isEmpty:=by
 cases r<;>simp
theorem fO:(sizeLine:Nat)<2 ^ 63:=by rw[Wu];decide
theorem Jk:TruR X (λx H Q=>∃k,KF X.K x H k/\Q k H):=by
 intro Xb s Z H x v Q I B h;obtain⟨k,e,q⟩:=h;have S:=fO;have T:sizeLine=16777216:=Wu;cases x with
 |non=>
  cases B;have g:k=false:=e;subst g;exact truthy_none ⟨H,I,q⟩
 |bl b=>
  cases B;have g:k=b:=e;subst g;exact wpAny_truthy_bool ⟨H,I,q⟩
 |int i=>
  obtain⟨t,rfl⟩:=B;have g:k=(i != 0):=e;subst g;exact PySem.P.truthy_int ⟨H,I,q⟩
 |str y=>
  obtain⟨t,rfl⟩:=B;obtain⟨O,g⟩:y.length<=sizeLine/\k=((y.length:Int) != 0):=e;subst g;exact PySem.P.truthy_str (by lia) ⟨H,I.tok _,q⟩
 |byt y=>
  obtain⟨t,rfl⟩:=B;obtain⟨O,g⟩:y.size<=sizeLine/\k=((y.size:Int) != 0):=e;subst g;exact W.truthy_bytes (by lia) ⟨H,I.tok _,q⟩
 |ref p=>
  cases B;have g:(∃z,SqL X.K H p z/\k=!z.isEmpty)\/(∃z,ij X.K H p z/\k=!z.isEmpty)\/∃Xd,H p=ap (.dK Xd)/\k=!Xd.isEmpty:=e;rcases g with⟨z,F,g⟩|⟨z,F,g⟩|⟨Xd,F,g⟩
  .subst g
   obtain⟨J,r,pl,L⟩:=I.list F;have n:=r.length;exact wpAny_truthy_list pl.isList (by simp only[OG];lia) ⟨H,I.tok _,by rw[mE r];exact q⟩
  .subst g
   obtain⟨J,r,pl,L⟩:=I.tuple F;have n:=r.length;exact truthy_tuple pl (by simp only[OG];lia) ⟨H,I.tok _,by rw[mE r];exact q⟩
  .subst g
   obtain⟨L,R,G,r,m⟩:Xd.length<=sizeLine/\(p==PP)=eC/\∃G,KV Xd G/\s.heap.DictOf (aV X.prog X.w) p G:=I.hok p _ F;have n:Xd.length=G.length:=Qa r;exact wpAny_truthy_dict R m (by lia) ⟨H,I.tok _,by rw[vy r];exact q⟩
 |_=>exact(show False from e).elim
theorem By(z:PE X a ta)(B:∀g,WW a X.env g=(do let v <- g;VX a.pos;vb [v] (truthy v))):
  PT X a (λZ H Q=>ta Z H λx H'=>∃k,KF X.K x H' k/\Q k H'):=by
 intro Xb s Z H Q I h;exact isTrue_plain (bq (z Xb s Z H _ I h) λv n ⟨x,H1,I1,q,y⟩=>Jk Xb n Z H1 x v Q I1 q y) (B _)
theorem vf:cF X (hB .Add) (λx y H Q=>∃i j,x=.str i/\y=.str j/\i.length+j.length<=sizeLine/\Q (.str (i++j)) H):=by
 intro Xb s Z H x y v u Q I n g h;obtain⟨i,j,rfl,rfl,z,q⟩:=h;obtain⟨t,rfl⟩:=n;obtain⟨t',rfl⟩:=g;exact add_str (λt' B=>⟨.str (i++j),H,I.tok _,⟨_,rfl⟩,q⟩) z
theorem iU{x:V}(r:Vals [x] us):∃u,us=[u]/\RelV x u:=by
 cases r with
 |cons r1 r2=>cases r2;exact⟨_,rfl,r1⟩
theorem GZ{x y:V}(r:Vals [x,y] us):∃u w',us=[u,w']/\RelV x u/\RelV y w':=by
 cases r with
 |cons r1 r2=>
  cases r2 with
  |cons r3 r4=>cases r4;exact⟨_,_,rfl,r1,r3⟩
theorem zQ(n:X.calm=true):bN X (.builtin "max") (λxs H Q=>∃i j,xs=[.int i,.int j]/\Q (.int (if j>i then j else i)) H):=by
 intro Xb s Z H xs us Q I r h;obtain⟨i,j,rfl,q⟩:=h;obtain⟨u,v,rfl,⟨t,rfl⟩,⟨t',rfl⟩⟩:=GZ r;refine max_two_ints (I.ok.hd n) λh' y k=>⟨_,H,I.kept k,?_,q⟩
 by_cases g:j>i
 .rw[if_pos g,if_pos g];exact⟨_,rfl⟩
 .rw[if_neg g,if_neg g];exact⟨_,rfl⟩
theorem zU(n:X.calm=true):bN X (.builtin "min") (λxs H Q=>∃i j,xs=[.int i,.int j]/\Q (.int (if j<i then j else i)) H):=by
 intro Xb s Z H xs us Q I r h;obtain⟨i,j,rfl,q⟩:=h;obtain⟨u,v,rfl,⟨t,rfl⟩,⟨t',rfl⟩⟩:=GZ r;refine min_two_ints (I.ok.hd n) λh' y k=>⟨_,H,I.kept k,?_,q⟩
 by_cases g:j<i
 .rw[if_pos g,if_pos g];exact⟨_,rfl⟩
 .rw[if_neg g,if_neg g];exact⟨_,rfl⟩
end
structure ObjM(h:hG)(x dx C:eg)(mA:Xr):Prop where
 obj:h.get? x=ap (RT C dx)
 ns:h.Ns1 dx mA
 ne:dx≠x
theorem Aa(n:h.Ns1 dx mA):∃v,h.get? dx=ap v/\∀name,W.lookIn name v=ap (mA name):=by
 obtain⟨o,es,O,F,B,J,_,L⟩:=n;refine⟨o,F,λname=>?_⟩;have e:=L name;unfold nsFind findBy at e;rw[<- Array.find?_toList]at e;unfold W.lookIn;rw[B];dsimp only
 split
 .rename_i y q
  rw[q]at e;exact congrArg ap e
 .rename_i q
  rw[q]at e;have a:es.toList.any (·.refKey)=false:=by
   rw[List.any_eq_false];intro y G;obtain⟨z,t,g⟩:=J y (Array.mem_toList_iff.mp G);simp[DictEntry.refKey,g]
  have I:¬es.toList.any (·.refKey)=true:=by rw[a];exact OW
  rw[if_neg I];exact congrArg ap e
theorem ObjM.look{x:eg}(I:ObjM h x dx C mA):∃g,W.InstAt h x (RT C dx) C (ap g)/\∀name,W.lookIn name g=ap (mA name):=
 let ⟨g,ho,hl⟩:=Aa I.ns
 ⟨g,⟨I.obj,rfl,rfl,ho⟩,hl⟩
section
variable{prog:fx}{x:eg}{name:Str}{v:ay}
theorem E5{g:Bool}(X:K.In s.heap)(I:ObjM s.heap x dx C mA)(B:Rr K C name=true)(z:RB K C=true)(F:PB K (.ref C) name=ap cm)(y:mA name=ap v)(n:W.handedIn v=true)(h:Q v { s with toks:=s.toks+1 }):
  eH (ff prog w) A (getAttr (.ref x) name g) Q E s:=by
 obtain⟨G,J,q⟩:=I.look;exact W.get_value X J (UD B).1 (W.findObj_own z F rfl<|by rw[q,y]) n h
theorem Du{pl:Sem Bool}{Q:ay×List ay->el->Prop}(X:K.In s.heap)(I:ObjM s.heap x dx C mA)(g:Rr K C name=true)(z:PB K (.ref C) name=ap (ap<|.ref f))(B:W.isFn K (.ref f)=true)(y:mA name=cm)(h:Q (.ref f,[.ref x]) s):
  eH (ff prog w) A (UF (.ref x) name pl) Q E s:=by
 obtain⟨q,J,n⟩:=I.look;exact W.method_fn X J (UD g).1 (UD g).2 z (beq_iff_eq.mp B) (by show (W.lookIn name q).map (·.isSome)=ap eC;rw[n,y];rfl) h
theorem gK{ns:Xk}{Q:Unit->el->Prop}(X:K.In s.heap)(I:ObjM s.heap x dx C mA)(Y:PB K (.ref C) "__setattr__"=ap (ap<|.builtin "object.__setattr__"))(U:R7 K C=true)(ht:W.takerIn K C name=ap cm)(T:RB K C=true)(S:Uc mA ns)(hsz:ns.length<=sizeLine)(h:∀h',ObjM h' x dx C (λy=>if y=name then ap v else mA y)->Qy dx s.heap h'->Q () { s with heap:=h',toks:=s.toks+2 }):
  eH (ff prog w) A (setAttr (.ref x) name v) Q E s:=by
 obtain⟨od,J,hl⟩:=I.look;refine W.set_plain X J Y (W.osa_open (s:={ s with toks:=s.toks+1 }) (r:=cm) X J U ht λb=>?_);obtain⟨cd,G,B⟩:=W.any_some T;have L:s.heap.get? x=ap ⟨.ref C,ap dx,.plain,#[]⟩:=I.obj;refine ax (eX<|wpAny_bind<|wpAny_bind<|wpAny_loadPart L<|wpAny_bind<|W.Looks.here (s:={ s with toks:=s.toks+1 }) (W.looks_clsIn X G) ?_);rw[B];refine eX (a:=ap dx) (ax<|wpAny_pure<|wpAny_bind ?_);refine wpAny_nsSet1 (s:={ s with toks:=s.toks+1 }) I.ns λh' g n=>?_;obtain⟨oD,R,O,F,z,q⟩:=g.count (PySem.Within.cons name v S);refine ax (wpAny_lookBehind F (by rw[z];exact pastItsLine_dict (OV q<|by rw[OE];lia)) ?_)
 exact eX (h _ ⟨(n.2 _<|Pa I.ne).trans I.obj,g,I.ne⟩ n)
theorem BH{R:WG->el->Prop}{vs:Xl}(X:K.In s.heap)(q:Sj K C=true)(y:PB K (.ref C) "__init__"=ap (ap<|.ref f))(z:W.typeIn K (.ref f)=ap (.type "function"))(h:Sc (ff prog w) (A.under<|.builtin "type.__call__" ⟨.ref C::vs,kw⟩) (.call (.ref f) ⟨.ref (s.heap.objs.size+1)::vs,kw⟩) (W.InitBack (s.heap.objs.size+1) R)
   { s with heap:=(s.heap.push QR).push (RT C s.heap.objs.size) }):
  Sc (ff prog w) A (.call (.ref C) ⟨vs,kw⟩) R s:=by
 obtain⟨B,g,d,t,F⟩:=s;exact W.make_core (W.makes_of X q) (W.looks_findIn X y) (λn=>W.bind_fn X n z) (.inl rfl) h
end
def da(f:Str)(v:V):List (Str×V)->List (Str×V)
 |[]=>[(f,v)]
 |(g,x)::r=>if g=f then (g,v)::r else (g,x)::da f v r
theorem jV(f g:Str)(v:V):∀fs:List (Str×V),(da f v fs).lookup g=if g=f then ap v else fs.lookup g
 |[]=>by
  show Pd g [(f,v)]=_
  by_cases h:g=f
  .have n:(g==f)=true:=beq_iff_eq.mpr h
   simp only[Pd,n,if_pos h]
  .have n:(g==f)=false:=beq_eq_false_iff_ne.mpr h
   simp only[Pd,n,if_neg h]
 |(k,x)::r=>by
  have y:=jV f g v r;rw[show da f v ((k,x)::r)=(if k=f then (k,v)::r else (k,x)::da f v r) from rfl]
  by_cases q:k=f
  .rw[if_pos q]
   by_cases h:g=k
   .have n:(g==k)=true:=beq_iff_eq.mpr h
    simp only[Pd,n,if_pos (h.trans q)]
   .have n:(g==k)=false:=beq_eq_false_iff_ne.mpr h
    simp only[Pd,n,if_neg (λe:g=f=>h (e.trans q.symm))]
  .rw[if_neg q]
   by_cases h:g=k
   .have n:(g==k)=true:=beq_iff_eq.mpr h
    simp only[Pd,n,if_neg (λe:g=f=>q (h.symm.trans e))]
   .have n:(g==k)=false:=beq_eq_false_iff_ne.mpr h
    simp only[Pd,n];exact y
theorem jM(f:Str)(v:V):∀fs:List (Str×V),f∈(da f v fs).map (·.1)/\∀g,g∈fs.map (·.1)->g∈(da f v fs).map (·.1)
 |[]=>⟨by simp[da],λg h=>by simp at h⟩
 |(k,x)::r=>by
  obtain⟨q,y⟩:=jM f v r;rw[show da f v ((k,x)::r)=(if k=f then (k,v)::r else (k,x)::da f v r) from rfl]
  by_cases n:k=f
  .rw[if_pos n]
   subst n;exact⟨by simp,λg h=>by simpa using h⟩
  .rw[if_neg n]
   refine⟨?_,λg h=>?_⟩
   .rw[Oy]
    exact OJ _ q
   .rw[Oy]at h ⊢
    rcases OQ.mp h with e|e
    .exact OQ.mpr (.inl e)
    .exact OJ _ (y g e)
theorem jT(f:Str)(v:V):∀fs:List (Str×V),(da f v fs).length<=fs.length+1
 |[]=>by simp[da]
 |(k,x)::r=>by
  have n:=jT f v r;rw[show da f v ((k,x)::r)=(if k=f then (k,v)::r else (k,x)::da f v r) from rfl]
  by_cases g:k=f
  .rw[if_pos g,OE,OE];lia
  .rw[if_neg g,OE,OE];lia
theorem dy{v:V}{o:Option ay}(r:RelO (ap v) o):∃u,o=ap u/\RelV v u:=by
 cases o with
 |none=>exact(show False from r).elim
 |some u=>exact⟨u,rfl,r⟩
theorem jq{o:Option ay}(r:RelO cm o):o=none:=by
 cases o with
 |none=>rfl
 |some u=>exact(show False from r).elim
theorem A4{v:V}(r:RelV v u):W.handedIn u=true:=by
 cases v with
 |non=>cases (show u=Qv from r);rfl
 |bl b=>cases (show u=QK b from r);rfl
 |int i=>obtain⟨t,e⟩:=(show ∃t,u=QA i t from r);cases e;rfl
 |str x=>obtain⟨t,e⟩:=(show ∃t,u=R0 x t from r);cases e;rfl
 |byt b=>obtain⟨t,e⟩:=(show ∃t,u=Value.bytes b t from r);cases e;rfl
 |flt b=>obtain⟨t,e⟩:=(show ∃t,u=UE b t from r);cases e;rfl
 |ref a=>cases (show u=OY a from r);rfl
 |ty n=>cases (show u=Tz n from r);rfl
section
variable{fs fs':List (Str×V)}
theorem kR(g:HOk P w H h)(e:H a=ap (.ins C dx fs)):∃mA,ObjM h a dx C mA/\(∀f,RelO (fs.lookup f) (mA f))/\Uc mA (fs.map (·.1))/\fs.length<=1000/\H dx=ap (.own a):=by
 obtain⟨d,z,ne,v,mA,n,r,q⟩:=(show ObjOk P w H h a (.ins C dx fs) from g a _ e);exact⟨mA,⟨v,n,ne⟩,r,q,z,d⟩
end
structure Cls(K:OA)(C:eg):Prop where
 pg:Rr K C Tf=true
 hd:RB K C=true
 po:R7 K C=true
 sa:PB K (.ref C) "__setattr__"=ap (ap<|.builtin "object.__setattr__")
theorem Cls.get(c:Cls K C)(f:Str):Rr K C f=true:=c.pg
def NoAttr(K:OA)(C:eg)(f:Str):Prop:=PB K (.ref C) f=ap cm
theorem NoAttr.taker{f:Str}(n:NoAttr K C f):W.takerIn K C f=ap none:=by
 unfold W.takerIn;rw[show PB K (.ref C) f=ap cm from n];rfl
structure Meth(K:OA)(C:eg)(m:Str)(f:eg):Prop where
 at_:PB K (.ref C) m=ap (ap<|.ref f)
 fn:W.isFn K (.ref f)=true
 kp:P8 K (.ref f)=true
section
variable{fs:List (Str×V)}{f:Str}{v:V}
theorem my{b:Bool}(I:Inv X Xb Z H s)(e:H a=ap (.ins C dx fs))(c:Cls X.K C)(n:NoAttr X.K C f)(l:fs.lookup f=ap v)(h:∀u s',Inv X Xb Z H s'->RelV v u->Q u s'):eH (ff X.prog X.w) A (getAttr (.ref a) f b) Q E s:=by
 obtain⟨mA,O,r,_,_,_⟩:=kR I.hok e;obtain⟨u,q,g⟩:=dy (v:=v) (o:=mA f) (by rw[<- l];exact r f)
 exact E5 I.kIn O (c.get f) c.hd n q (A4 g) (h u _ (I.tok _) g)
theorem mx{g:eg}{pl:Sem Bool}{Q:ay×List ay->el->Prop}(I:Inv X Xb Z H s)(e:H a=ap (.ins C dx fs))(c:Cls X.K C)(k:Meth X.K C m g)(l:fs.lookup m=cm)(h:Q (.ref g,[.ref a]) s):eH (ff X.prog X.w) A (UF (.ref a) m pl) Q E s:=by
 obtain⟨mA,O,r,_,_,_⟩:=kR I.hok e;have n:mA m=none:=jq (by rw[<- l];exact r m)
 exact Du I.kIn O (c.get m) k.at_ k.fn n h
theorem nH{y:V}{Q:Unit->el->Prop}(I:Inv X Xb Z H s)(e:H a=ap (.ins C dx fs))(c:Cls X.K C)(n:NoAttr X.K C f)(T:fs.length<1000)(S:RelV y u)(h:∀s',Inv X Xb Z (upd H a<|.ins C dx<|da f y fs) s'->Q () s'):eH (ff X.prog X.w) A (setAttr (.ref a) f u) Q E s:=by
 obtain⟨mA,O,r,F,_,B⟩:=kR I.hok e;have R:(fs.map (·.1)).length<=sizeLine:=by rw[Ox,Wu];lia
 refine gK I.kIn O c.sa c.po n.taker c.hd F R λh' O' L=>h _ ?_;have hd:∃o,h'.get? dx=ap o:=let ⟨o,_,_,e',_⟩:=O'.ns;⟨o,e'⟩;refine I.write (x:=a) (e:=dx) (by rw[e];exact Qm) (.inr B) (λb q G z=>(L.2 b G).trans z) hd ?_
 refine⟨by rw[aL O.ne];exact B,?_,O.ne,O'.obj,_,O'.ns,λg=>?_,λg J=>?_⟩
 .have:=jT f y fs;lia
 .show RelO ((da f y fs).lookup g) (if g=f then ap u else mA g)
  rw[jV]
  by_cases q:g=f
  .rw[if_pos q,if_pos q];exact S
  .rw[if_neg q,if_neg q];exact r g
 .by_cases q:g=f
  .rw[q];exact(jM f y fs).1
  .refine (jM f y fs).2 g (F g λz=>J ?_)
   show (if g=f then ap u else mA g)=cm
   rw[if_neg q];exact z
theorem Dv(I:Inv X Xb Z H s):Inv X Xb Z (upd (upd H s.heap.objs.size<|.own (s.heap.objs.size+1)) (s.heap.objs.size+1)<|.ins C s.heap.objs.size [])
  { s with heap:=(s.heap.push QR).push (RT C s.heap.objs.size) }:=by
 have g:(s.heap.push QR).get? s.heap.objs.size=ap QR:=OI s.heap rfl;have F:((s.heap.push QR).push<|RT C s.heap.objs.size).get? (s.heap.objs.size+1)=ap (RT C s.heap.objs.size):=by
  have:=OI (s.heap.push QR) (o:=RT C s.heap.objs.size) rfl
  rwa [Pl]at this
 have B:(s.heap.push QR).Ns s.heap.objs.size (λ_=>cm):=⟨QR,#[],_,g,rfl,(λe z=>absurd z (by simp)),λ_=>rfl⟩
 have I1:=I.laid (a:=s.heap.objs.size) (o:=.own (s.heap.objs.size+1)) (h':=s.heap.push QR) (t':=s.toks) (λb u q=>Ow _ q) (OB _) ⟨_,g⟩;refine I1.laid (a:=s.heap.objs.size+1) (o:=.ins C s.heap.objs.size []) (t':=s.toks) (λb u q=>Ow _ q) (S5<|Pl _ _) ?_;have ne:s.heap.objs.size≠s.heap.objs.size+1:=OP (Rj _);refine⟨by rw[aL ne,upd_same],Qc _,ne,F,λ_=>cm,(Heap.Ns1.of_empty B).at λo q=>Ow _ q,λ_=>Qm,λy n=>absurd rfl n⟩
theorem F6{prog:fx}{env:Env}{f:Str}(g:nr e f env (gp e env)=gp e env)(h:eH (ff prog w) A (gp e env) (λo s₁=>eH (ff prog w) A (getAttr o f true) Q E s₁) E s):eH (ff prog w) A (gp (.Attribute e f pos) env) Q E s:=
 Attribute_any_ h (by rw[arm_eval_Attribute,g])
end
def tFld(K:OA)(ta:TE)(f:Str):TE:=λZ H Q=>ta Z H λx H1=>∃a C dx fs v,x=.ref a/\H1 a=ap (.ins C dx fs)/\Cls K C/\NoAttr K C f/\fs.lookup f=ap v/\Q v H1
def sFld(K:OA)(ta tv:TE)(f:Str):TS:=λD Z H=>tv Z H λy H1=>ta Z H1 λx H2=>∃a C dx fs,x=.ref a/\H2 a=ap (.ins C dx fs)/\Cls K C/\NoAttr K C f/\fs.length<1000/\
 D.nx Z (upd H2 a<|.ins C dx<|da f y fs)
def Jd(X:Cx)(op:V4)(rd:V->V->Hp->VK->Prop):Prop:=
 ∀(Xb:Xq)(s:el)(Z:St)(H:Hp)(x y:V)(u v:ay)(Q:VK),Inv X Xb Z H s->RelV x u->RelV y v->rd x y H Q->eH (ff X.prog X.w) X.A (inplaceOp op u v) (EP X Xb Z Q) X.xe s
def EZ(K:OA)(ta tv:TE)(rd:V->V->Hp->VK->Prop)(f:Str):TS:=λD Z H=>ta Z H λx H1=>∃a C dx fs v,x=.ref a/\H1 a=ap (.ins C dx fs)/\Cls K C/\NoAttr K C f/\fs.lookup f=ap v/\
 tv Z H1 λy H2=>rd v y H2 λz H3=>∃dx' fs',H3 a=ap (.ins C dx' fs')/\fs'.length<1000/\D.nx Z (upd H3 a<|.ins C dx'<|da f z fs')
section
variable{o value:fy}{f:Str}{tpos:Pos}{tv:TE}
theorem L9(J:PE X e ta)(G:nr e f X.env (gp e X.env)=gp e X.env):PE X (.Attribute e f pos) (tFld X.K ta f):=by
 intro Xb s Z H Q I h;refine F6 G (bq (J Xb s Z H _ I h) λu O B=>?_);obtain⟨x,H1,I1,g,a,C,dx,fs,v,z,F,c,n,l,q⟩:=B;subst z;obtain rfl:u=OY a:=g;exact my I1 F c n l λR L I2 y=>⟨v,H1,I2,y,q⟩
theorem JP(O:PE X o ta)(R:PE X value tv)(S:wh value (ap<|.Attribute o f pos') pos.line X.env=pure eC):PS X (.Assign [.Attribute o f pos'] value pos) (sFld X.K ta tv f):=by
 intro Xb s Z H D I h;refine plainObj_wpAny_Assign_Attribute (bq (R Xb s Z H _ I h) λu z ⟨y,H1,I1,g,q⟩=>bq (O Xb z Z H1 _ I1 q) λB U J=>?_) S;obtain⟨x,H2,I2,v,a,C,dx,fs,F,L,c,n,l,G⟩:=J;subst F;obtain rfl:B=OY a:=v;exact nH I2 L c n l g λT I3=>⟨Z,_,I3,G⟩
theorem oJ{F:V->V->Hp->VK->Prop}(ha:PE X o ta)(hv:PE X value tv)(B:Jd X op F):PS X (.AugAssign (.Attribute o f tpos) op value pos) (EZ X.K ta tv F f):=by
 intro Xb s Z H D I h;refine wpAny_AugAssign_AttributeAny (bq (ha Xb s Z H _ I h) λov s1 L=>?_);obtain⟨x,H1,I1,U,a,C,dx,fs,v,ex,ea,c,n,l,q⟩:=L;subst ex;obtain rfl:ov=OY a:=U;refine my I1 ea c n l λu W I2 J=>bq (hv Xb W Z H1 _ I2 q) λw3 T ⟨y,H2,I3,S,Y⟩=>bq (B Xb T Z H2 v y u w3 _ I3 J S Y) λw4 s4 ⟨z,H3,I4,rz,G,O,g,l',R⟩=>?_;exact nH I4 g c n l' rz λs5 I5=>⟨Z,_,I5,R⟩
def rAdd:V->V->Hp->VK->Prop:=λx y H Q=>∃i j,x=.int i/\y=.int j/\Q (.int (i+j)) H
def rSub:V->V->Hp->VK->Prop:=λx y H Q=>∃i j,x=.int i/\y=.int j/\Q (.int (i-j)) H
theorem Ii:Jd X .Add rAdd:=by
 rintro Xb s Z H x y u v Q I n g ⟨i,j,rfl,rfl,q⟩
 obtain⟨t,rfl⟩:=(show ∃t,u=QA i t from n);obtain⟨t',rfl⟩:=(show ∃t',v=QA j t' from g);exact PyProof.Rows.iadd_int ⟨.int (i+j),H,I.tok _,⟨_,rfl⟩,q⟩
theorem L4:Jd X .Sub rSub:=by
 rintro Xb s Z H x y u v Q I n g ⟨i,j,rfl,rfl,q⟩
 obtain⟨t,rfl⟩:=(show ∃t,u=QA i t from n);obtain⟨t',rfl⟩:=(show ∃t',v=QA j t' from g);exact PyProof.Rows.isub_int ⟨.int (i-j),H,I.tok _,⟨_,rfl⟩,q⟩
end
section
variable{c:ay}{b:Bool}
inductive TyOf(K:OA)(H:Hp):V->ay->Prop where
 |non:TyOf K H .non (.type "NoneType")
 |bl (x:Bool):TyOf K H (.bl x) (.type "bool")
 |int (i:Int):TyOf K H (.int i) (.type "int")
 |str (x:Str):TyOf K H (.str x) (.type "str")
 |flt (x:UInt64):TyOf K H (.flt x) (.type "float")
 |lst {a:eg} {xs:List V} (e:H a=ap (.lst xs)):TyOf K H (.ref a) (.type "list")
 |frz {a:eg} {o:Obj} {xs:List V} (e:H a=ap (.frz o<|.lst xs)):TyOf K H (.ref a) (.type "list")
 |tup {a:eg} {xs:List V} (e:H a=ap (.tup xs)):TyOf K H (.ref a) (.type "tuple")
 |dK {a:eg} {Xd:List (aG×V)} (e:H a=ap (.dK Xd)):TyOf K H (.ref a) (.type "dict")
 |dT {a:eg} {Xd:List (List aG×V)} (e:H a=ap (.dT Xd)):TyOf K H (.ref a) (.type "dict")
 |ins {a C dx:eg} {fs:List (Str×V)} (e:H a=ap (.ins C dx fs)) (cl:Cls K C) (ha:PB K (.ref C) "__class__"=ap (ap<|.builtin "object.__class__"))
   (hn:W.specialIn K (.builtin "object.__class__") "__get__"=ap (ap<|.builtin "getset_descriptor.__get__")) (htk:W.takesIn K (.builtin "object.__class__")=ap true)
   (hm:W.mroIn K C (.type "object")=ap true):TyOf K H (.ref a) (.ref C)
theorem ze{x:V}{t:ay}(I:Inv X Xb Z H s)(g:RelV x u)(ty:TyOf X.K H x t)(e:W.kitOne X.K t c=ap b)(h:∀L,Q (.bool b) { s with toks:=L }):
  eH (ff X.prog X.w) A (call (.builtin "isinstance") [u,c]) Q E s:=by
 cases ty with
 |non=>cases (show u=Qv from g);exact QW W.kitx_none I.kIn Qm e (λz=>nomatch z) h
 |bl y=>cases (show u=QK y from g);exact QW W.kitx_bool I.kIn Qm e (λz=>nomatch z) h
 |int i=>obtain⟨t,q⟩:=(show ∃t,u=QA i t from g);cases q;exact QW W.kitx_int I.kIn Qm e (λz=>nomatch z) h
 |str y=>obtain⟨t,q⟩:=(show ∃t,u=R0 y t from g);cases q;exact QW W.kitx_str I.kIn Qm e (λz=>nomatch z) h
 |flt y=>obtain⟨t,q⟩:=(show ∃t,u=UE y t from g);cases q;exact QW W.kitx_float I.kIn Qm e (λz=>nomatch z) h
 |@lst a B ea=>
  cases (show u=OY a from g);obtain⟨_,_,n,_,v⟩:=(show ObjOk X.prog X.w H s.heap a (.lst B) from I.hok a _ ea);exact QW W.kitx_list I.kIn ⟨_,v,rfl⟩ e (λz=>nomatch z) h
 |@frz a ob B ea=>
  cases (show u=OY a from g);obtain⟨_,_,_,n,_,v⟩:=(show ObjOk X.prog X.w H s.heap a (.frz ob<|.lst B) from I.hok a _ ea);exact QW W.kitx_list I.kIn ⟨_,v,rfl⟩ e (λz=>nomatch z) h
 |@tup a B ea=>
  cases (show u=OY a from g);obtain⟨_,_,_,p⟩:=(show ObjOk X.prog X.w H s.heap a (.tup B) from I.hok a _ ea);obtain⟨o,v,⟨F,_⟩,_⟩:=p;exact QW W.kitx_tuple I.kIn ⟨o,v,F⟩ e (λz=>nomatch z) h
 |@dK a Xd ea=>
  cases (show u=OY a from g);obtain⟨_,_,S,_,p⟩:=(show ObjOk X.prog X.w H s.heap a (.dK Xd) from I.hok a _ ea);obtain⟨o,es,G,v,F,_⟩:=p;exact QW W.kitx_dict I.kIn ⟨o,v,F.1⟩ e (λz=>nomatch z) h
 |@dT a Xd ea=>
  cases (show u=OY a from g);obtain⟨_,_,B,_,o,es,G,v,F,_⟩:=(show ObjOk X.prog X.w H s.heap a (.dT Xd) from I.hok a _ ea);exact QW W.kitx_dict I.kIn ⟨o,v,F.1⟩ e (λz=>nomatch z) h
 |@ins a C dx fs ea cl ha hn htk hm=>
  cases (show u=OY a from g);obtain⟨mA,O,_⟩:=kR I.hok ea;obtain⟨R,J,_⟩:=O.look;exact QW (W.kitx_own (cl.get _) cl.hd ha hn htk hm) I.kIn J e (λz=>nomatch z) h
end
structure Room(k:Nat)(A:i5):Prop where
 hd:A.handled=cm
 dp:A.depth+3*k+5<recursionLimit
 un:A.units+16*k+200<rc
 gd:A.guards=ap []
theorem Room.mono{k:Nat}(r:Room k A)(h:j<=k):Room j A:=⟨r.hd,by have:=r.dp;lia,by have:=r.un;lia,r.gd⟩
theorem Room.deeper{k:Nat}(r:Room (k+1) A)(env:Env):Room k (A.deeper env):=
 ⟨r.hd,by have:=r.dp;show A.depth+1+3*k+5<_;lia,by have:=r.un;show A.units+3+16*k+200<_;lia,r.gd⟩
theorem wj:(A.under<|.builtin "type.__call__" ⟨.ref C::us,kw⟩).depth=A.depth+1:=by
 first|rfl|simp[SF,Code.weight,Code.isCreation,Code.isGuard,Code.isCaller,Code.frames,Ut,guardIds]
theorem vD:(A.under<|.builtin "type.__call__" ⟨.ref C::us,kw⟩).units=A.units+1:=by
 first|rfl|simp[SF,Code.cUnits,Code.frames,Ut]
theorem tz:(A.under<|.builtin "type.__call__" ⟨.ref C::us,kw⟩).guards=A.guards:=by
 first|rfl|simp[SF,Code.guards,pushGuards,Code.isGuard,guardIds]
theorem Room.make{k:Nat}(r:Room (k+1) A)(C:eg)(us:Xl)(kw:List (Str×ay)):Room k (A.under<|.builtin "type.__call__" ⟨.ref C::us,kw⟩):=
 ⟨r.hd,by have:=r.dp;rw[wj];lia,by have:=r.un;rw[vD];lia,by rw[tz];exact r.gd⟩
theorem Room.depth{k:Nat}(r:Room k A):A.depth<recursionLimit:=by have:=r.dp;lia
theorem Room.units{k:Nat}(r:Room k A):A.units+64<cLine:=by have:=r.un;lia
def LL:TA:=λ_ H Q=>Q [] H
def Mu(ta:TE)(tr:TA):TA:=λZ H Q=>ta Z H λx H1=>tr Z H1 λg H2=>Q (x::g) H2
section
variable{t:TA}
theorem CB:PA X [] LL:=λ_ _ _ _ H Q I h=>Q8 ⟨[],H,I,.nil,h⟩
theorem xy(B:PE X e te)(G:PA X es t)(F:fe (e::es) X.env=(eC,gp e X.env)::fe es X.env:=by rfl):PA X (e::es) (Mu te t):=by
 intro pos Xb s Z H Q I h;rw[F];show eH _ _ (spliced ((eC,gp e X.env)::hI pos (fe es X.env))) _ _ s;refine Qw (bq (B Xb s Z H _ I h) λu q ⟨x,H1,I1,v,y⟩=>?_);exact bq (G pos Xb q Z H1 _ I1 y) λus J ⟨n,H2,I2,g,z⟩=>⟨x::n,H2,I2,.cons v g,z⟩
def tTup(t:TA):TE:=λZ H Q=>t Z H λg H1=>g.length<=sizeLine/\∀p,H1 p=cm->Q (.ref p) (upd H1 p<|.tup g)
def tLst(t:TA):TE:=λZ H Q=>t Z H λg H1=>g.length<=sizeLine/\∀p,H1 p=cm->Q (.ref p) (upd H1 p<|.lst g)
theorem II{x1}(h:PA X es t):PE X (.Tuple es x1 pos) (tTup t):=by
 intro Xb s Z H Q I y;refine wpAny_Tuple_spliced (bq (h pos Xb s Z H _ I y) λus g ⟨n,H1,I1,r,z,q⟩=>⟨by rw[<- r.length];exact z,?_⟩)
 have v:H1 g.heap.objs.size=none:=I1.hok.fresh (OB _);refine⟨.ref g.heap.objs.size,upd H1 g.heap.objs.size (.tup n),I1.laid (t':=g.toks) (λb u e=>Ow _ e) (OB _) ?_,rfl,q _ v⟩;exact⟨z,us,r,⟨_,OI _ rfl,⟨rfl,_,rfl⟩,rfl⟩⟩
theorem Kb(h:PA X es t):PE X (.List es pos) (tLst t):=by
 intro Xb s Z H Q I y;refine wpAny_List_spliced (bq (h pos Xb s Z H _ I y) λus g ⟨n,H1,I1,r,z,q⟩=>⟨by rw[<- r.length];exact z,?_⟩)
 have v:H1 g.heap.objs.size=none:=I1.hok.fresh (OB _);refine⟨.ref g.heap.objs.size,upd H1 g.heap.objs.size (.lst n),I1.laid (t':=g.toks) (λb u e=>Ow _ e) (OB _) ?_,rfl,q _ v⟩;exact⟨z,us,0,r,OI _ rfl⟩
end
abbrev Sp:=List V->Hp->VK->XK->Prop
abbrev oA:=List Env->Hp->el->XK->ay->el->Prop
structure Env0(P:fx)(w:g3)(K:OA)(mg:Xr)(base:hG)(A:i5)(outer:List Env)(s:el)(H:Hp):Prop where
 frames:A.frames=ap outer
 mod:Mod K mg base
 bs:∀b o,base.get? b=ap o->s.heap.get? b=ap o/\H b=cm
 bsz:base.objs.size<=s.heap.objs.size
 funs:s.heap.FunFrames base outer
 frf:∀b∈gZ outer,H b=cm
 hok:HOk P w H s.heap
 bare:VZ s.gens
def CE(outer:List Env)(P:fx)(w:g3)(H:Hp)(s:el)(Q:VK)(u:ay)(s':el):Prop:=
 ∃v H',s'.os=s.os/\VZ s'.gens/\Un (gZ outer) [] H H' s.heap s'.heap/\HOk P w H' s'.heap/\RelV v u/\Q v H'
def CR(CX:oA)(outer:List Env)(P:fx)(w:g3)(H:Hp)(s:el)(Q:VK)(E:XK)(r:WG)(s':el):Prop:=
 match r with
 |.ok (.ret u)=>CE outer P w H s Q u s'
 |.ok _=>False
 |.error e=>CX outer H s E e s'
structure FnOk(P:fx)(w:g3)(K:OA)(mg:Xr)(base:hG)(CX:oA)(k:Nat)(f:eg)(fd:g4)(ps:Xk)(sp:Sp):Prop where
 len:∀vs H Q E,sp vs H Q E->vs.length=ps.length
 run:∀(A:i5)(outer:List Env)(s:el)(H:Hp)(args:Args)(us:Xl)(vs:List V)(Q:VK)(E:XK),Room k A->Env0 P w K mg base A outer s H->Wx s fd args (ps.zip us)->Vals vs us->sp vs H Q E->
  Sc (ff P w) A (.call (.ref f) args) (CR CX outer P w H s Q E) s
theorem FnOk.imp{k:Nat}{v:Sp}(F:FnOk P w K mg base CX k f fd ps sp)(h:∀vs H Q E,v vs H Q E->sp vs H Q E):FnOk P w K mg base CX k f fd ps v:=
 ⟨λvs H Q E q=>F.len vs H Q E (h _ _ _ _ q),λA g s H n us vs Q E B y z I G=>F.run A g s H n us vs Q E B y z I (h _ _ _ _ G)⟩
theorem Env0.make{g:List Env}(e:Env0 P w K mg base A g s H)(C:eg)(us:Xl)(kw:List (Str×ay)):
  Env0 P w K mg base (A.under<|.builtin "type.__call__" ⟨.ref C::us,kw⟩) g s H:=⟨by first|exact e.frames|(simpa [SF,Code.envs,Ut,pushEnvs] using e.frames),e.mod,e.bs,e.bsz,e.funs,e.frf,e.hok,e.bare⟩
section
variable{s':el}
theorem Inv.env0(I:Inv X Xb Z H s):Env0 X.prog X.w X.K X.mg X.base X.A X.stack s H:=
 ⟨I.ok.frames,I.ok.mod,I.bs,OV I.ok.bsz I.sz,I.stack,I.stkFree,I.hok,I.bare⟩
theorem Inv.after{Q:VK}(I:Inv X Xb Z H s)(h:CE X.stack X.prog X.w H s Q u s'):EP X Xb Z Q u s':=by
 obtain⟨v,H',os,n,un,y,r,q⟩:=h;obtain⟨F,g,d,t,B⟩:=s';obtain rfl:B=s.os:=os;exact⟨v,H',I.call (h':=F) (g':=g) (d':=d) (t':=t) (ch:=[]) un y n (λb z=>absurd z (by simp)),r,q⟩
end
def O3(sp:Sp)(dvs:List V)(E:XK)(t:TA):TE:=λZ H Q=>t Z H λg H1=>sp (g++dvs) H1 Q E
def Hm(C:eg)(m:Str)(sp:Sp)(dvs:List V)(E:XK)(ta:TE)(t:TA):TE:=λZ H Q=>ta Z H λx H1=>∃a dx fs,x=.ref a/\H1 a=ap (.ins C dx fs)/\fs.lookup m=cm/\
 t Z H1 λg H2=>sp (x::(g++dvs)) H2 Q E
def Ma(C:eg)(sp:Sp)(dvs:List V)(E:XK)(t:TA):TE:=λZ H Q=>t Z H λg H1=>∀x dx,H1 x=cm->H1 dx=cm->dx≠x->
 sp (.ref x::(g++dvs)) (upd (upd H1 dx<|.own x) x<|.ins C dx []) (λv H2=>v=.non/\Q (.ref x) H2) E
def Binds(K:OA)(fd:g4)(ps:Xk)(ds:Xl):Prop:=
 ∀(s:el)(us:Xl),K.In s.heap->(us++ds).length=ps.length->Wx s fd ⟨us,[]⟩ (ps.zip (us++ds))
theorem Binds.all(h:∀us:List ay,us.length=ps.length->WD fd ⟨us,[]⟩=pure (ps.zip us)):Binds K fd ps []:=λs us _ g=>by
 rw[Pw]at g ⊢;exact .of_eq (h us g)
def bT(CX:oA)(X:Cx)(E:XK):Prop:=∀(Xb:Xq)(Z:St)(H:Hp)(s:el)(e:ay)(s':el),Inv X Xb Z H s->CX X.stack H s E e s'->X.xe e s'
section
variable{k:Nat}{dvs:List V}{ds:Xl}{E:XK}{Xg:Pos}{o:fy}{t:TA}
theorem vq{Q:VK}{vs:List V}(F:FnOk X.prog X.w X.K X.mg X.base CX k f fd ps sp)(B:Room k X.A)(y:Binds X.K fd ps ds)(z:Vals dvs ds)(G:bT CX X E)(I:Inv X Xb Z H s)(r:Vals vs us)(h:sp (vs++dvs) H Q E):eH (ff X.prog X.w) X.A (call (.ref f) us) (EP X Xb Z Q) X.xe s:=by
 have n:Vals (vs++dvs) (us++ds):=r.append z;have q:(us++ds).length=ps.length:=by rw[<- n.length];exact F.len _ _ _ _ h
 refine wpAny_call (SZ (F.run X.A X.stack s H ⟨us,[]⟩ (us++ds) (vs++dvs) Q E B I.env0 (y s us I.kIn q) n h) λr v g=>?_);cases r with
 |error e=>exact G Xb Z H s e v I g
 |ok fl=>
  cases fl with
  |ret u=>exact I.after g
  |next=>exact PX g
  |brk=>exact PX g
  |cont=>exact PX g
theorem Fe(F:FnOk X.prog X.w X.K X.mg X.base CX k f fd ps sp)(J:Room k X.A)(y:Gl X x)(G:X.mg x=ap (.ref f))(v:P8 X.K (.ref f)=true)(n:Binds X.K fd ps ds)(L:Vals dvs ds)(z:bT CX X E)(B:PA X (e::es) t)(g:(x==("__debug__":Str))=false:=by decide)(he:fe (e::es) X.env=(eC,gp e X.env)::fe es X.env:=by rfl)(hpl:(hI pos<|starEach es X.env).any (·.1)=false:=by rfl):
  PE X (.Call (.Name x p) (e::es) [] pos) (O3 sp dvs E t):=by
 intro Xb s Z H Q I h;refine re (ja I y G ?_ g);refine Te (h₀:=X.base) I.ok.mod.kin v (bq (B pos Xb s Z H _ I h) λus O ⟨R,H1,I1,r,q⟩=>⟨I1.kIn,?_⟩) he hpl;exact vq F J n L z I1 r q
theorem E9{pl:Sem Bool}(R:PE X o ta)(c:Cls X.K C)(n:Meth X.K C m f)(F:FnOk X.prog X.w X.K X.mg X.base CX k f fd ps sp)(T:Room k X.A)(O:Binds X.K fd ps ds)(L:Vals dvs ds)(S:bT CX X E)(U:PA X (e::es) t)(g:fe (e::es) X.env=(eC,gp e X.env)::fe es X.env:=by rfl)(hpl:(hI pos<|starEach es X.env).any (·.1)=false:=by rfl)(ht:gp (.Call (.Attribute o m Xg) (e::es) [] pos) X.env=(do
   let ov <- gp o X.env
   VX Xg.atName
   let (f,first) <- vb [ov] (UF ov m pl)
   Wq pos f first (hI pos<|starEach (e::es) X.env) (z5 pos<|keywordEach [] X.env)):=by rfl):
  PE X (.Call (.Attribute o m Xg) (e::es) [] pos) (Hm C m sp dvs E ta t):=by
 intro Xb s Z H Q I h;refine W.methodCall_KW (pl:=pl) (bq (R Xb s Z H _ I h) λu y G=>?_) ht;obtain⟨x,H1,I1,v,a,dx,fs,z,J,l,q⟩:=G;subst z;obtain rfl:u=OY a:=v;refine mx I1 J c n l ?_;refine Te (first:=[.ref a]) (h₀:=X.base) I.ok.mod.kin n.kp (bq (U pos Xb y Z H1 _ I1 q) λus Y ⟨vs,H2,I2,r,B⟩=>⟨I2.kIn,?_⟩) g hpl
 exact vq (us:=.ref a::us) (vs:=.ref a::vs) F T O L S I2 (.cons rfl r) B
theorem CJ{pl:Sem Bool}(G:PE X o ta)(c:Cls X.K C)(g:Meth X.K C m f)(F:FnOk X.prog X.w X.K X.mg X.base CX k f fd ps sp)(L:Room k X.A)(B:Binds X.K fd ps ds)(O:Vals dvs ds)(J:bT CX X E)(R:gp (.Call (.Attribute o m Xg) [] [] pos) X.env=(do
   let ov <- gp o X.env
   VX Xg.atName
   let (f,first) <- vb [ov] (UF ov m pl)
   Wq pos f first (hI pos<|starEach [] X.env) (z5 pos<|keywordEach [] X.env)):=by rfl):
  PE X (.Call (.Attribute o m Xg) [] [] pos) (Hm C m sp dvs E ta LL):=by
 intro Xb s Z H Q I h;refine W.methodCall_KW (pl:=pl) (bq (G Xb s Z H _ I h) λu S y=>?_) R;obtain⟨x,H1,I1,n,a,dx,fs,v,z,l,q⟩:=y;subst v;obtain rfl:u=OY a:=n;refine mx I1 z c g l ?_;exact W.callWith_K0 (first:=[.ref a]) I1.kIn g.kp (vq (us:=[.ref a]) (vs:=[.ref a]) F L B O J I1 (.cons rfl .nil) q)
structure Mk(K:OA)(C f:eg):Prop where
 makes:Sj K C=true
 init:PB K (.ref C) "__init__"=ap (ap<|.ref f)
 fn:W.isFn K (.ref f)=true
 kp:P8 K (.ref C)=true
theorem AR{Q:VK}{vs:List V}(M:Mk X.K C f)(F:FnOk X.prog X.w X.K X.mg X.base CX k f fd ps sp)(R:Room (k+1) X.A)(L:Binds X.K fd ps ds)(O:Vals dvs ds)(S:bT CX X E)(I:Inv X Xb Z H s)(r:Vals vs us)(h:∀x dx,H x=cm->H dx=cm->dx≠x->sp (.ref x::(vs++dvs)) (upd (upd H dx<|.own x) x<|.ins C dx []) (λv H2=>v=.non/\Q (.ref x) H2) E):
  eH (ff X.prog X.w) X.A (call (.ref C) us) (EP X Xb Z Q) X.xe s:=by
 have q:=h (s.heap.objs.size+1) s.heap.objs.size (I.hok.fresh<|To _) (I.hok.fresh<|OB _) (OP<|Rj _);have I2:=Dv (C:=C) I;have n:Vals (V.ref (s.heap.objs.size+1)::(vs++dvs)) (OY (s.heap.objs.size+1)::(us++ds)):=.cons rfl (r.append O);have G:(OY (s.heap.objs.size+1)::us++ds).length=ps.length:=by
  have e:=n.length;rw[F.len _ _ _ _ q]at e;exact e.symm
 refine wpAny_call (BH (f:=f) I.kIn M.makes M.init (beq_iff_eq.mp M.fn) (SZ (F.run _ X.stack _ _ ⟨OY (s.heap.objs.size+1)::us,[]⟩ (OY (s.heap.objs.size+1)::(us++ds)) _ _ E (R.make C us [])
  (I2.env0.make C us []) (L _ (OY (s.heap.objs.size+1)::us) I2.kIn G) n q) λr J g=>?_))
 cases r with
 |error e=>exact S Xb Z _ _ e J I2 g
 |ok fl=>
  cases fl with
  |ret u=>
   obtain⟨v,H',I3,y,z,B⟩:=I2.after g;subst z;exact⟨y,⟨V.ref (s.heap.objs.size+1),H',I3,rfl,B⟩⟩
  |next=>exact PX g
  |brk=>exact PX g
  |cont=>exact PX g
theorem Fm(M:Mk X.K C f)(F:FnOk X.prog X.w X.K X.mg X.base CX k f fd ps sp)(G:Room (k+1) X.A)(v:Gl X x)(B:X.mg x=ap (.ref C))(n:Binds X.K fd ps ds)(J:Vals dvs ds)(y:bT CX X E)(z:PA X (e::es) t)(g:(x==("__debug__":Str))=false:=by decide)(he:fe (e::es) X.env=(eC,gp e X.env)::fe es X.env:=by rfl)(hpl:(hI pos<|starEach es X.env).any (·.1)=false:=by rfl):
  PE X (.Call (.Name x p) (e::es) [] pos) (Ma C sp dvs E t):=by
 intro Xb s Z H Q I h;refine re (ja I v B ?_ g);refine Te (h₀:=X.base) I.ok.mod.kin M.kp (bq (z pos Xb s Z H _ I h) λus L ⟨O,H1,I1,r,q⟩=>⟨I1.kIn,?_⟩) he hpl;exact AR M F G n J y I1 r q
end
section
variable{k:Nat}{ks:Xk}{E:XK}{Xg kpos:Pos}{o:fy}{kws:List z0}{t tk:TA}{nm:Option Str}
variable{g:List ay->List ay->List ay}{gV:List V->List V->List V}
end
structure FnScope(N P:Xk)(sc:Pi):Prop where
 kind:sc.kind=.function
 co:sc.isCoroutine=eC
 gen:sc.isGenerator=eC
 nd:N.Nodup
 pre:N.take P.length=P
 par:∀x∈P,sc.names.lookup x=ap .local\/sc.names.lookup x=ap .cell
 nofree:∀y∈sc.names,y.2≠.free
theorem oB{g:Str->Option Wf}{x:Str}:∀{binds:List (Str×ay)}{m:Xr},(∀v,(x,v)∉binds)->WO g binds m x=m x
 |[],_,_=>rfl
 |(n,v)::r,m,h=>by
  unfold WO;rw[oB λw q=>h w (OJ _ q)]
  split
  .have:x≠n:=by rintro rfl;exact h v OR
   simp[this]
  .rfl
theorem pG{g:Str->Option Wf}{x:Str}:∀{binds:List (Str×ay)}{m:Xr},(∀v,(x,v)∉binds)->WP g binds m x=m x
 |[],_,_=>rfl
 |(n,v)::r,m,h=>by
  unfold WP;rw[pG λw q=>h w (OJ _ q)]
  split
  .rfl
  .have:x≠n:=by rintro rfl;exact h v OR
   simp[this]
theorem oS{g:Str->Option Wf}{x:Str}{v:ay}:∀{P:Xk}{vs:Xl}{i:Nat}{m:Xr},P.Nodup->P[i]?=ap x->vs[i]?=ap v->g x=ap .local->
  WO g (P.zip vs) m x=ap v
 |[],_,_,_,_,h,_,_=>by simp at h
 |_::_,[],_,_,_,_,h,_=>by simp at h
 |p::P,w::vs,0,m,nd,h1,h2,hk=>by
  simp at h1 h2;subst h1;subst h2;show WO g ((p,w)::P.zip vs) m p=_;unfold WO;rw[oB λv n=>(QC.mp nd).1 (QZ n).1,if_pos hk];simp
 |p::P,w::vs,i+1,m,nd,h1,h2,hk=>by
  show WO g ((p,w)::P.zip vs) m x=_;unfold WO;exact oS (i:=i) (QC.mp nd).2 (by simpa using h1) (by simpa using h2) hk
theorem oq{g:Str->Option Wf}{x:Str}{v:ay}:∀{P:Xk}{vs:Xl}{i:Nat}{m:Xr},P.Nodup->P[i]?=ap x->vs[i]?=ap v->g x≠ap .local->
  WP g (P.zip vs) m x=ap v
 |[],_,_,_,_,h,_,_=>by simp at h
 |_::_,[],_,_,_,_,h,_=>by simp at h
 |p::P,w::vs,0,m,nd,h1,h2,hk=>by
  simp at h1 h2;subst h1;subst h2;show WP g ((p,w)::P.zip vs) m p=_;unfold WP;rw[pG λv n=>(QC.mp nd).1 (QZ n).1,if_neg hk];simp
 |p::P,w::vs,i+1,m,nd,h1,h2,hk=>by
  show WP g ((p,w)::P.zip vs) m x=_;unfold WP;exact oq (i:=i) (QC.mp nd).2 (by simpa using h1) (by simpa using h2) hk
def start(N:Xk)(vs:List V):St:=vs.map ap++Pe (N.length-vs.length) cm
def dM(CX:oA)(P:fx)(w:g3)(K:OA)(mg:Xr)(base:hG)(N:Xk)(Xc:Str)(scope:Pi)(f:eg)(cd:ay)(A:i5)(outer:List Env)(s:el)(H:Hp)(E:XK):Cx where
 prog:=P
 w:=w
 K:=K
 mg:=mg
 base:=base
 A:=A.deeper (envOfC Xc scope s.heap.objs.size f cd)
 N:=N
 s₀:=s
 H₀:=H
 env:=envOfC Xc scope s.heap.objs.size f cd
 outer:=outer
 stack:=envOfC Xc scope s.heap.objs.size f cd::outer
 ex:=[]
 calm:=true
 fn:=λ_=>true
 pn:=[]
 xe:=λe q=>eH (ff P w) (A.deeper<|envOfC Xc scope s.heap.objs.size f cd) (leaving (envOfC Xc scope s.heap.objs.size f cd) e) (λ_ g=>CX outer H s E e g) (λn g=>CX outer H s E n g) q
theorem tZ{g:Pi}{n:Nat}(h:g.names.lookup x=ap .cell):∃c,(va n g.names []).lookup x=ap c:=by
 have q:=Ru g.names n [] (.inl h);exact Qi.mp q
theorem zI{F:Str}{g:Pi}{U:ay}{B:List Env}{s1:el}{E:XK}{vs:List V}(S:FnScope N ps g)(hd:A.handled=cm)(I:Env0 P w K mg base A B s H)(hl:vs.length=ps.length)(r:Vals vs us)(x:InCallC s s.heap.objs.size (WO (envOfC F g s.heap.objs.size f U).kindOf (ps.zip us) λ_=>cm) (va (s.heap.objs.size+1) g.names []) (WP (envOfC F g s.heap.objs.size f U).kindOf (ps.zip us) λ_=>cm) s1):
  Inv (dM CX P w K mg base N F g f U A B s H E) [] (start N vs) H s1:=by
 have hpl:ps.length<=N.length:=by have:=congrArg QM S.pre;rw[Sa]at this;lia
 obtain⟨R,tk,rfl,W⟩:=x.done;have J:∀b:eg,b∉(dM CX P w K mg base N F g f U A B s H E).ex:=λb z=>absurd (show b∈([]:Xm) from z) (by simp)
 refine⟨⟨I.mod,S.kind,rfl,rfl,OB _,λy z c R G=>?_,λy hy=>?_,λy c _ h=>?_,λ_=>hd,Around.frames_deeper I.frames,.inr ⟨rfl,rfl⟩,λb z=>absurd z (J b),I.bs,I.bsz,λb _ _=>J b,λb z=>absurd z (J b),I.funs,I.frf⟩,
  rfl,I.bare,Un.kept W,⟨_,x.toInCall.ns,λi y v R G h3=>?_⟩,λy c h=>⟨_,x.cell y c h⟩,I.hok.fresh (OB _),λy c h=>?_,λp O=>absurd (show p∈([]:Xq) from O) (by simp),I.hok.kept W,?_⟩
 .exact name_of_addr x.apart (Pz R) (Pz G)
 .have hy:g.names.lookup y=ap .cell\/g.names.lookup y=ap .free:=hy
  rcases hy with hy|hy
  .exact tZ hy
  .exact absurd rfl (S.nofree _<|Pz hy)
 .exact UJ (x.above y c<|Pz h)
 .have T:i<vs.length:=by
   unfold start at G
   by_cases T:i<vs.length
   .exact T
   .rw[Pj (by simpa using T)]at G
    rw[Uh]at G
    split at G<;>cases G
  have ha:vs[i]?=ap v:=by
   unfold start at G;rw[PJ (by simpa using T),OO]at G
   cases e:vs[i]? with
   |none=>rw[e]at G;cases G
   |some a=>rw[e]at G;cases G;rfl
  obtain⟨u,Y,rv⟩:=r.get ha;have O:ps[i]?=ap y:=by
   rw[<- S.pre,List.getElem?_take_of_lt (by lia)];exact R
  have L:ps.Nodup:=by rw[<- S.pre];exact S.nd.sublist (List.take_sublist _ _)
  refine⟨u,rv,?_⟩;rcases S.par y (Rq O) with k|k
  .exact .inl ⟨k,oS L O Y k⟩
  .obtain⟨c,e⟩:=tZ (n:=s.heap.objs.size+1) k
   refine .inr ⟨.inl k,c,e,?_⟩;have q:=x.cell y c e;rw[oq L O Y (by show g.names.lookup y≠_;rw[k];decide)]at q
   exact q
 .exact I.hok.fresh (UJ<|x.above y c<|Pz h)
 .unfold start
  show _=N.length;rw[OH,Ox,List.length_replicate];lia
theorem GD{k:Nat}{name B:Str}{G:Arguments}{g:Pi}{dV kV doc pm F ct oc:ay}{an od:Option eg}{osl:Array (Option ay)}(lk:K.lookup f=ap ⟨oc,od,.func (Rt name B G body g dV kV doc pm an F ct),osl⟩)(hcd:Td K F B=true)(S:FnScope N ps g)(len:∀vs H Q E,sp vs H Q E->vs.length=ps.length)(R:∀(A:i5)(z:List Env)(s:el)(H:Hp)(vs:List V)(Q:VK)(E:XK),Room k (A.deeper<|envOfC B g s.heap.objs.size f F)->sp vs H Q E->
   ∃t,yv (dM CX P w K mg base N B g f F A z s H E) body t/\t { nx:=λ_ H'=>Q .non H',rt:=Q } (start N vs) H):
  FnOk P w K mg base CX (k+1) f (Rt name B G body g dV kV doc pm an F ct) ps sp:=by
 refine⟨len,λA z s H args us vs Q E hr Y hb r U=>?_⟩;have hl:=len _ _ _ _ U;have KX:K.In s.heap:=Y.mod.kin.keeps λb o e=>(Y.bs b o e).1;have lim:s.heap.NoLimit:=Y.mod.nolimit.keeps λb o e=>(Y.bs b o e).1;have O:∀y∈ps.zip us,g.names.lookup y.1=ap .local\/(g.names.lookup y.1=ap .cell/\((va (s.heap.objs.size+1) g.names []).lookup y.1).isSome=true):=λ⟨n,v⟩ hy=>by
  rcases S.par n (QZ hy).1 with q|q
  .exact .inl q
  .exact .inr ⟨q,Ru _ _ _<|.inl q⟩
 refine codeAny_call_function hr.depth (KX _ _ lk) rfl S.co S.gen rfl (W.codeRec_of KX hcd) (hb _ _ _ _ ?_);refine wpAny_newFunctionEnv_cells S.kind O λenv he s1 x=>?_;subst he;refine⟨lim.keeps x.toInCall.keep,codeAny_func ?_⟩;obtain⟨t,ht,hq⟩:=R A z s H vs Q E (hr.deeper _) U;have I:Inv (dM CX P w K mg base N B g f F A z s H E) [] (start N vs) H s1:=zI S hr.hd Y hl r x;refine mu (ht [] s1 (start N vs) H _ I hq) (λfl s' T=>?_) λe s' T=>T;have fin:∀{L:St}{H':Hp}{v:V}{u:ay},Inv (dM CX P w K mg base N B g f F A z s H E) [] L H' s'->RelV v u->Q v H'->CE z P w H s Q u s':=
  λ{L H' v u} J rv q=>⟨v,H',J.os,J.bare,J.base,J.hok,rv,q⟩
 cases fl with
 |ret u=>
  obtain⟨v,L,H',J,rv,q⟩:=T;exact fin J rv q
 |next=>
  obtain⟨L,H',J,q⟩:=T;exact fin (v:=V.non) (u:=Qv) J rfl q
 |brk=>
  obtain⟨_,_,_,q⟩:=T;exact PX q
 |cont=>
  obtain⟨_,_,_,q⟩:=T;exact PX q
section
variable{t:TA}{id T:String}{r:List V->Hp->VK->Prop}
def tCB(r:List V->Hp->VK->Prop)(t:TA):TE:=λZ H Q=>t Z H λg H1=>r g H1 Q
theorem AK(y:bN X (.builtin id) r)(B:Gl X x)(J:X.mg x=cm)(z:gl x=ap (.builtin id))(G:PA X (e::es) t)(F:x≠"__name__":=by decide)(hdb:(x==("__debug__":Str))=false:=by decide)(he:fe (e::es) X.env=(eC,gp e X.env)::fe es X.env:=by rfl)(hpl:(hI pos<|starEach es X.env).any (·.1)=false:=by rfl):PE X (.Call (.Name x p) (e::es) [] pos) (tCB r t):=by
 intro Xb s Z H Q I h;refine re (eF I B J z ?_ F hdb);exact PyProof.Rows.callWith_builtin1 (bq (G pos Xb s Z H _ I h) λus g ⟨n,H1,I1,q,v⟩=>y Xb g Z H1 n us Q I1 q v) he hpl
theorem Ae(y:bN X (.type T) r)(B:Gl X x)(J:X.mg x=cm)(z:gl x=ap (.type T))(G:PA X (e::es) t)(F:x≠"__name__":=by decide)(hdb:(x==("__debug__":Str))=false:=by decide)(he:fe (e::es) X.env=(eC,gp e X.env)::fe es X.env:=by rfl)(hpl:(hI pos<|starEach es X.env).any (·.1)=false:=by rfl):PE X (.Call (.Name x p) (e::es) [] pos) (tCB r t):=by
 intro Xb s Z H Q I h;refine re (eF I B J z ?_ F hdb);exact Pr (bq (G pos Xb s Z H _ I h) λus g ⟨n,H1,I1,q,v⟩=>y Xb g Z H1 n us Q I1 q v) he hpl
end
end _2
namespace HT
open PySem PyProof.Rows
section
open PySem.SeqAt
open PySem.AutoSeq1 (wpAny_loadPart')
open PySem.MeetsSeq PySem.MeetsSeq2 PySem.MeetsSeq3
end
section
variable {prog:fx}{w:g3}{A:i5}{E:Xp}{s:el}
theorem ES{t b:eg}{vs a:Xl}{Q:Xp}(G:Wv s.heap t vs.toArray)(B:Wv s.heap b a.toArray)(z:vs≠[])
  (C:a=[]->Q (.ref t) s) (F:a≠[]->Q (.ref s.heap.objs.size) { s with heap:=s.heap.push { cls:=.type "tuple",data:=.seq (vs++a).toArray } })
  (hsz:vs.length+a.length<=sizeLine):eH (ff prog w) A (hB .Add (.ref t)<|.ref b) Q E s:=by
 obtain⟨⟨cls,y,data,u⟩,j,p,n,q⟩:=id G;obtain⟨⟨v,i,o,g⟩,c,f,x,h⟩:=id B;simp only at p q f h;subst p q f h;have e:vs.toArray++a.toArray=(vs++a).toArray:=by simp
 by_cases m:a=[]
 .exact WX ⟨_,j,rfl⟩ ⟨_,c,rfl⟩ Wt WI R5 RW (RQ _ _)
   (tuple_addW1 t b vs.toArray a.toArray n x y i u g (by simpa using z)<|by simp[m]) ⟨j,c,C m⟩
 .refine WX ⟨_,j,rfl⟩ ⟨_,c,rfl⟩ Wt WI R5 RW (RQ _ _)
   (tuple_addW2 t b vs.toArray a.toArray n x y i u g (by simpa using z) (by simpa using m)<|by rw[OG,OG];exact hsz) ⟨j,c,?_⟩
  rw[e];exact F m
def sIx(n d:Nat):Option Int->Nat
 |none=>d
 |some v=>if v<0 then (v+(n:Int)).toNat else min v.toNat n
theorem D7(n d:Nat):sIx n d cm=d:=rfl
theorem G1(n d k:Nat):sIx n d (ap (k:Int))=min k n:=by
 show (if (k:Int)<0 then ((k:Int)+(n:Int)).toNat else min (k:Int).toNat n)=min k n
 rw[if_neg (by lia),OL]
theorem Kc(n d:Nat)(b:d<=n)(o:Option Int):sIx n d o<=n:=by
 cases o with
 |none=>exact b
 |some v=>
  show (if v<0 then (v+(n:Int)).toNat else min v.toNat n)<=n
  by_cases a:v<0
  .rw[if_pos a];lia
  .rw[if_neg a];exact Nat.min_le_right _ _
theorem yT(v:Int)(n d:Nat):(if v<0 then max (v+(n:Int)) 0 else min v (n:Int))=((sIx n d (ap v):Nat):Int):=by
 show (if v<0 then max (v+(n:Int)) 0 else min v (n:Int))=(((if v<0 then (v+(n:Int)).toNat else min v.toNat n):Nat):Int)
 by_cases a:v<0
 .simp only[if_pos a];lia
 .simp only[if_neg a];lia
theorem vJ(a b:Option Int)(n:Nat):Ri a b 1 (n:Int)=(((sIx n 0 a:Nat):Int),((sIx n n b:Nat):Int)):=by
 have c:¬((1:Int)<0):=by lia
 unfold Ri;simp only[c,if_false];refine Prod.ext ?_ ?_
 .cases a with
  |none=>rfl
  |some v=>exact yT v n 0
 .cases b with
  |none=>rfl
  |some v=>exact yT v n n
theorem vS(i j:Nat):QB (i:Int) (j:Int) 1=j-i:=by
 unfold QB;have a:(1:Int)>0:=by lia
 simp only[a,if_true,Int.ediv_one]
 split<;>lia
theorem nA{v:ay}{o:Option Int}{Q:Option Int->el->Prop}(p:Wg v o)(h:Q o s):eH (ff prog w) A (Builtin.Slice.slicePartIndex v) Q E s:=by
 cases p with
 |none=>exact slicePart_none h
 |int i t=>exact slicePart_int h
theorem eM{i:eg}{g f:ay}{a e:Option Int}{n:Nat}{Q:Int×Int×Nat->el->Prop}(o:s.heap.IsSliceOf i g f .none)(pl:Wg g a)(m:Wg f e)
  (h:Q (((sIx n 0 a:Nat):Int),1,sIx n n e-sIx n 0 a) s):eH (ff prog w) A (Sz (.ref i)<|pure (n:Int)) Q E s:=by
 obtain⟨p,c,j,b⟩:=id o;unfold Sz Builtin.Slice.sliceFields;refine ax (ax<|wpAny_field c b (x:=g) rfl<|wpAny_bind<|wpAny_field c b (x:=f) rfl<|wpAny_bind<|wpAny_field c b (x:=.none) rfl<|wpAny_pure ?_);refine ax (slicePart_none ?_);show eH _ _ (if ((1:Int)==0)=true then _ else _) _ _ s
 rw[if_neg (by decide)]
 refine ax (nA pl<|wpAny_bind<|nA m<|wpAny_bind<|wpAny_pure ?_);show eH _ _ (match Ri a e 1 (n:Int) with|(a,e)=>pure (a,(1:Int),QB a e 1)) _ _ s
 rw[vJ a e n];show eH _ _ (pure (((sIx n 0 a:Nat):Int),(1:Int),QB ((sIx n 0 a:Nat):Int) ((sIx n n e:Nat):Int) 1)) _ _ s;rw[vS];exact eX h
theorem Co(xs:Xs)(i k:Nat):((Pm k).filterMap λ(m:Nat)=>xs[((i:Int)+(m:Int)*1).toNat]?).toArray=((xs.toList.drop i).take k).toArray:=by
 have e:(λ(m:Nat)=>xs[((i:Int)+(m:Int)*1).toNat]?)=λm=>xs[i+m]?:=by
  funext m;have:((i:Int)+(m:Int)*1).toNat=i+m:=by lia
  rw[this]
 rw[e];have:=pick_run xs i k;rw[List.filterMap_map]at this;have a:((λx=>xs[x]?) ∘ λx=>i+x)=λm=>xs[i+m]?:=rfl;rw[a]at this;rw[this]
theorem iy{t n:eg}{items:Xs}{p o:ay}{b c:Option Int}{Q:Xp}(e:Wv s.heap t items)(u:s.heap.IsSliceOf n p o .none)(pl:Wg p b)(z:Wg o c)
  (y:¬(sIx items.size 0 b=0/\sIx items.size items.size c=items.size))
  (h:Q (.ref s.heap.objs.size) { s with heap:=s.heap.push { cls:=.type "tuple",data:=.seq ((items.toList.drop<|sIx items.size 0 b).take (sIx items.size items.size c-sIx items.size 0 b)).toArray } })
  (hsz:items.size<=sizeLine):eH (ff prog w) A (V6 (.ref t)<|.ref n) Q E s:=by
 have a:sizeOk (.seq ((items.toList.drop<|sIx items.size 0 b).take (sIx items.size items.size c-sIx items.size 0 b)).toArray):=by
  show ((items.toList.drop<|sIx items.size 0 b).take (sIx items.size items.size c-sIx items.size 0 b)).toArray.size<=sizeLine;rw[OG,Sa,List.length_drop,RA];lia
 have B:sIx items.size items.size c<=items.size:=Kc _ _ (OB _) c;obtain⟨x,f,j,v⟩:=id u;have g:s.TypeIs (.ref n) "slice":=⟨x,f,j⟩;unfold V6
 try with_reducible refine om ?_
 first|refine ax (eX ?_)|skip
 refine ax (wpAny_sequenceKey e.typeIs (by decide) ?_)
 refine ax (wpAny_callSpecial?_slot (name:=PD "__getitem__") e.typeIs PL
  (kr PL e.typeIs entry_tuple_getitem ?_<|args_tuple_getitem _ _))
 show eH _ _ (Sy (.ref t) >>= _) _ _ s;refine ax (tupleItemsOf_ e ?_);refine ax (SC g ?_);rw[if_pos (by decide)]
 refine ax (eM u pl z ?_);have i:¬((((sIx items.size 0 b:Nat):Int)==0&&(1:Int)==1&&(sIx items.size items.size c-sIx items.size 0 b)==items.size)=true):=by
  intro q;rw[PZ,PZ]at q;have C:((sIx items.size 0 b:Nat):Int)=0:=eq_of_beq q.1.1;have F:sIx items.size items.size c-sIx items.size 0 b=items.size:=eq_of_beq q.2;exact y ⟨by lia,by lia⟩
 show eH _ _ (if (((sIx items.size 0 b:Nat):Int)==0&&(1:Int)==1&&(sIx items.size items.size c-sIx items.size 0 b)==items.size)=true then _ else _) _ _ s
 rw[if_neg i,Co]
 first
  |exact ax (m:=Qe _) (n7 (eX ⟨_,rfl,eX h⟩) a)
  |exact ax (m:=Qe _) (n7 (ax<|wpAny_pure<|wpAny_pure ⟨_,rfl,eX h⟩) a)
  |exact ax (ax (m:=Qe _)<|wpAny_newObj_type (eX<|wpAny_pure ⟨_,rfl,eX h⟩) a)
  |exact ax (ax (m:=Qe _)<|wpAny_newObj_type (eX ⟨_,rfl,eX h⟩) a)
end
end HT
namespace _2
open PySem PySem.Spec PyProof.Rows
variable{a b:eg}{A:i5}{X:Cx}{e o:fy}{H H':Hp}{Xb:Xq}{xs:List (List aG×eg×ay)}{Xh:Xl}{n t':Nat}{pos:Pos}{P:fx}{s:el}{Z:St}{α:Type}{u:ay}{E Q:Xp}{w:g3}
abbrev TO:=St->Hp->(Option Int->Hp->Prop)->Prop
def PO(X:Cx)(e:Option fy)(t:TO):Prop:=
 ∀(Xb:Xq)(s:el)(Z:St)(H:Hp)(Q:Option Int->Hp->Prop),Inv X Xb Z H s->t Z H Q->
  eH (ff X.prog X.w) X.A (evalPart e X.env) (λu c=>∃o H',Inv X Xb Z H' c/\Wg u o/\Q o H') X.xe s
def DH:TO:=λ_ H Q=>Q cm H
def Nv(t:TE):TO:=λZ H Q=>t Z H λx H1=>∃i,x=.int i/\Q (ap i) H1
section
variable{te:TE}{lo hi:Option fy}{tl th:TO}{p2:Pos}
theorem Gb:PO X cm DH:=by
 intro Xb s Z H Q I h;rw[evalPart_none];exact eX ⟨cm,H,I,.none,h⟩
theorem Fo(h:PE X e te):PO X (ap e) (Nv te):=by
 intro Xb s Z H Q I f;rw[evalPart_some];refine bq (h Xb s Z H _ I f) λu j ⟨x,H1,I1,c,g⟩=>?_;obtain⟨i,rfl,q⟩:=g;obtain⟨t,rfl⟩:=c;exact⟨ap i,H1,I1,.int i t,q⟩
def Mx(X:Cx)(r:V->Option Int->Option Int->Hp->VK->Prop):Prop:=
 ∀(Xb:Xq)(s:el)(Z:St)(H:Hp)(x:V)(v vl vu:ay)(lo hi:Option Int)(sl:eg)(Q:VK),Inv X Xb Z H s->RelV x v->s.heap.IsSliceOf sl vl vu .none->Wg vl lo->Wg vu hi->r x lo hi H Q->
  ∃T id,Pv (.type T) "__getitem__"=pure (ap<|.builtin id)/\s.TypeIs v T/\eH (ff X.prog X.w) X.A (V6 v<|.ref sl) (EP X Xb Z Q) X.xe s
def tSl(r:V->Option Int->Option Int->Hp->VK->Prop)(te:TE)(tl th:TO):TE:=λZ H Q=>te Z H λx H1=>tl Z H1 λl H2=>th Z H2 λu H3=>r x l u H3 Q
theorem BQ{r:V->Option Int->Option Int->Hp->VK->Prop}(L:Mx X r)(M:PE X e te)(J:PO X lo tl)(K:PO X hi th):PE X (.Subscript e (.Slice lo hi cm p2) pos) (tSl r te tl th):=by
 intro Xb s Z H Q I h;refine Subscript_ (bq (M Xb s Z H _ I h) λv y ⟨x,H1,I1,z,B⟩=>?_);refine wpAny_Slice (bq (J Xb y Z H1 _ I1 B) λg i ⟨l,H2,I2,pl,C⟩=>bq (K Xb i Z H2 _ I2 C) λf c ⟨u,H3,I3,j,p⟩=>?_);rw[evalPart_none];refine eX ?_;have I4:Inv X Xb Z H3 { c with heap:=c.heap.push { cls:=.type "slice",data:=.fields #[g,f,.none] } }:=I3.kept (t':=c.toks) λb N q=>Ow _ q;obtain⟨T,id,m,G,F⟩:=L Xb { c with heap:=c.heap.push { cls:=.type "slice",data:=.fields #[g,f,.none] } } Z H3 x v g f l u c.heap.objs.size Q I4 z (Heap.IsSliceOf.new ..) pl j p;show eH (ff X.prog X.w) X.A (subscriptTail e (.Slice lo hi cm p2) v<|.ref c.heap.objs.size) (EP X Xb Z Q) X.xe { c with heap:=c.heap.push { cls:=.type "slice",data:=.fields #[g,f,.none] } };exact tail_any (ops:=[.ref c.heap.objs.size,v]) G m F (by with_unfolding_all rfl)
def ki(xs:List V)(lo hi:Option Int):List V:=(xs.drop<|HT.sIx xs.length 0 lo).take (HT.sIx xs.length xs.length hi-HT.sIx xs.length 0 lo)
theorem jY(xs:List V)(lo hi:Option Int):(ki xs lo hi).length<=xs.length:=by
 unfold ki;rw[Sa,List.length_drop];lia
def rSlT(K:OA):V->Option Int->Option Int->Hp->VK->Prop:=λx lo hi H Q=>∃a xs,x=.ref a/\ij K H a xs/\
 ¬(HT.sIx xs.length 0 lo=0/\HT.sIx xs.length xs.length hi=xs.length)/\∀p,H p=cm->Q (.ref p) (upd H p<|.tup<|ki xs lo hi)
theorem Ll:Mx X (rSlT X.K):=by
 intro Xb s Z H x v C B lo hi z Q I i m pl j h;obtain⟨a,xs,rfl,y,p,q⟩:=h;cases i;obtain⟨Xh,r,g,f⟩:=I.tuple y;have c:Xh.toArray.size=xs.length:=by rw[OG];exact r.length.symm
 refine⟨"tuple",_,PL.lookup,g.typeIs,?_⟩;refine HT.iy g m pl j (by rw[c];exact p) ?_ (by rw[c];exact f)
 rw[c];refine⟨.ref s.heap.objs.size,_,I.laid (t':=s.toks) (o:=.tup (ki xs lo hi)) (λb F q=>Ow _ q) (OB _) ?_,rfl,q _<|I.hok.fresh<|OB _⟩;exact⟨OV (jY xs lo hi) f,_,(r.drop<|HT.sIx xs.length 0 lo).take (HT.sIx xs.length xs.length hi-HT.sIx xs.length 0 lo),⟨_,OI _ rfl,⟨rfl,_,rfl⟩,rfl⟩⟩
def NO(K:OA):R2:=λx y H Q=>∃a b xs ys,x=.ref a/\y=.ref b/\ij K H a xs/\ij K H b ys/\xs≠[]/\xs.length+ys.length<=sizeLine/\
 (ys=[]->Q (.ref a) H)/\(ys≠[]->∀p,H p=cm->Q (.ref p) (upd H p<|.tup (xs++ys)))
theorem Vals.nil_iff{xs:List V}{us:Xl}(r:Vals xs us):us=[]↔xs=[]:=by
 cases r with
 |nil=>simp
 |cons _ _=>simp
theorem ED:cF X (hB .Add) (NO X.K):=by
 intro Xb s Z H x y v u Q I m i h;obtain⟨a,b,xs,G,rfl,rfl,p,j,B,f,C,F⟩:=h;cases m;cases i;obtain⟨Xh,c,J,_⟩:=I.tuple p;obtain⟨g,r2,p2,_⟩:=I.tuple j;refine HT.ES J p2 (λz=>B (c.nil_iff.mp z)) (λz=>⟨.ref a,H,I,rfl,C<|r2.nil_iff.mp z⟩) (λz=>?_) (by rw[<- c.length,<- r2.length];exact f)
 refine⟨.ref s.heap.objs.size,_,I.laid (t':=s.toks) (o:=.tup (xs++G)) (λb L q=>Ow _ q) (OB _) ?_,rfl,F (λw=>z (r2.nil_iff.mpr w)) _<|I.hok.fresh<|OB _⟩;exact⟨by rw[OH];exact f,_,c.append r2,⟨_,OI _ rfl,⟨rfl,_,rfl⟩,rfl⟩⟩
end
def rX(n:Nat)(i:Int):Option Nat:=if 0<=i then (if i<n then ap i.toNat else cm) else if -(n:Int)<=i then ap (i+n).toNat else cm
def atI{α:Type}(xs:List α)(i:Int):Option α:=(rX xs.length i).bind λj=>xs[j]?
theorem pI{i:Int}{j:Nat}(h:rX n i=ap j):WN i n=ap j/\j<n/\-(n:Int)<=i/\i<n:=by
 unfold rX at h
 by_cases f:0<=i
 .rw[if_pos f]at h
  by_cases c:i<n
  .rw[if_pos c]at h
   have e:i.toNat=j:=PH h;exact⟨by rw[W7 f c,e],by lia,by lia,c⟩
  .rw[if_neg c]at h;cases h
 .rw[if_neg f]at h
  by_cases c:-(n:Int)<=i
  .rw[if_pos c]at h
   have e:(i+n).toNat=j:=PH h;exact⟨by rw[WV (by lia) c,e],by lia,c,by lia⟩
  .rw[if_neg c]at h;cases h
theorem pK{xs:List α}{i:Int}{v:α}(h:atI xs i=ap v):∃j,WN i xs.length=ap j/\xs[j]?=ap v/\j<xs.length/\-(xs.length:Int)<=i/\i<xs.length:=by
 unfold atI at h;cases e:rX xs.length i with
 |none=>rw[e]at h;cases h
 |some j=>
  rw[e]at h;obtain⟨f,g,m,c⟩:=pI e;exact⟨j,f,h,g,m,c⟩
def x6(b:fy):Prop:=∀o i,subscripted b eC o i=operate [o,i] (V6 o i)
def IxR(X:Cx)(r:R2):Prop:=
 ∀(value slice:fy)(Xb:Xq)(s:el)(Z:St)(H:Hp)(x y:V)(v u:ay)(Q:VK),Inv X Xb Z H s->RelV x v->RelV y u->r x y H Q->
  subscripted slice eC v u=operate [v,u] (V6 v u)->eH (ff X.prog X.w) X.A (subscriptTail value slice v u) (EP X Xb Z Q) X.xe s
def xO(X:Cx)(id:String)(r:V->List V->Hp->VK->Prop):Prop:=
 ∀(Xb:Xq)(s:el)(Z:St)(H:Hp)(x:V)(xs:List V)(v:ay)(us:Xl)(Q:VK),Inv X Xb Z H s->RelV x v->Vals xs us->r x xs H Q->
  eH (ff X.prog X.w) X.A (call (.builtin id) (v::us)) (EP X Xb Z Q) X.xe s
section
variable{a b:fy}{ta tb:TE}
theorem IxR.or{r m:R2}(h:IxR X r)(h':IxR X m):IxR X (λx y H Q=>r x y H Q\/m x y H Q):=by
 intro c f Xb s Z H x y v u Q I i g q j;rcases q with q|q
 .exact h c f Xb s Z H x y v u Q I i g q j
 .exact h' c f Xb s Z H x y v u Q I i g q j
theorem Oh{r:R2}(p:IxR X r)(m:PE X a ta)(j:PE X b tb)(i:x6 b):PE X (.Subscript a b pos) (MK r ta tb):=by
 intro Xb s Z H Q I h;exact Subscript_ (J5 m j I h λv u g x y H2 I2 f c q=>p a b Xb g Z H2 x y v u Q I2 f c q (i _ _))
def NU(K:OA):R2:=λx y H Q=>∃p xs i v,x=.ref p/\y=.int i/\SqL K H p xs/\atI xs i=ap v/\Q v H
def O6(K:OA):R2:=λx y H Q=>∃p xs i v,x=.ref p/\y=.int i/\ij K H p xs/\atI xs i=ap v/\Q v H
def O8:R2:=λx y H Q=>∃z i c,x=.str z/\y=.int i/\z.length<=sizeLine/\atI z.cps.toList i=ap c/\Q (.str ⟨#[c]⟩) H
theorem ix_list:IxR X (NU X.K):=by
 intro f B Xb s Z H x y v u Q I O N h F;obtain⟨p,xs,i,z,rfl,rfl,R,J,q⟩:=h;cases O;obtain⟨t,rfl⟩:=N;obtain⟨Xh,r,pl,W⟩:=I.list R;obtain⟨j,c,U,Y,T,M⟩:=pK J;obtain⟨w,C,m⟩:=r.get U;have L:=r.length;have hn:=fO;have fin:EP X Xb Z Q w s:=⟨z,H,I,m,q⟩
 by_cases G:0<=i
 .have g:i.toNat=j:=by
   rw[W7 G M]at c;exact PH c
  exact item_listR pl.isList G (by lia) (by rw[g];simpa using C) fin F
 .have g:(i+(Xh.toArray.size:Int)).toNat=j:=by
   rw[WV (by lia) T]at c
   rw[OG,<- L];exact PH c
  exact WU (x:=w) pl.isList.typeIs slot_list_getitem.lookup
   (wpAny_getItem_list_neg (Q:=λr S=>r=w/\EP X Xb Z Q r S) pl.isList (by lia) (by rw[OG]<;>lia) (by lia) (by rw[g];simpa using C) ⟨rfl,fin⟩) F
theorem ix_tup:IxR X (O6 X.K):=by
 intro c g Xb s Z H x y v u Q I G F h M;obtain⟨p,xs,i,z,rfl,rfl,L,m,q⟩:=h;cases G;obtain⟨t,rfl⟩:=F;obtain⟨Xh,r,pl,S⟩:=I.tuple L;obtain⟨j,B,O,T,U,R⟩:=pK m;obtain⟨w,J,f⟩:=r.get O;have C:=r.length;have W:=fO;have fin:EP X Xb Z Q w s:=⟨z,H,I,f,q⟩
 exact WU (x:=w) pl.typeIs slot_tuple_getitem.lookup
  (getItem_tuple (j:=j) (Q:=λr N=>r=w/\EP X Xb Z Q r N) pl (by lia) (by lia) (by rw[OG,<- C];exact B) (by simpa using J) ⟨rfl,fin⟩) M
theorem Dg:IxR X O8:=by
 intro f g Xb s Z H x y v u Q I B p h K;obtain⟨z,i,c,rfl,rfl,S,C,q⟩:=h;obtain⟨t,rfl⟩:=B;obtain⟨t',rfl⟩:=p;obtain⟨j,m,N,O,M,J⟩:=pK C;have G:z.cps.toList.length=z.length:=by simp[Str.length]
 rw[G]at m M J;have R:=fO;exact tail_any (typeIs_str s z t) slot_str_getitem.lookup (getItem_str (c:=c) (by
  have F:decide (i < -(2 ^ 63:Int))=false:=decide_eq_false (by lia)
  have L:decide (i>=2 ^ 63)=false:=decide_eq_false (by lia)
  rw[F,L,QY]) (by rw[m];simpa using N) ⟨.str ⟨#[c]⟩,H,I.tok _,⟨_,rfl⟩,q⟩) K
def rIx(K:OA):R2:=λx y H Q=>NU K x y H Q\/O6 K x y H Q\/O8 x y H Q
theorem Jg:IxR X (rIx X.K):=ix_list.or (ix_tup.or Dg)
theorem vx(Xh:Xl)(n j:Nat)(u:ay):SI (·.setIfInBounds j u) { cls:=.type "list",data:=.seq Xh.toArray n }={ cls:=.type "list",data:=.seq (Xh.set j u).toArray n }:=by
 simp[SI]
theorem Inv.lst{Xb:Xq}{Z:St}{H:Hp}{s:el}{p:eg}{xs:List V}(I:Inv X Xb Z H s)(h:H p=ap (.lst xs)):
  ∃(Xh:Xl)(n:Nat),Vals xs Xh/\s.heap.get? p=ap { cls:=.type "list",data:=.seq Xh.toArray n }/\xs.length<=sizeLine:=by
 obtain⟨z,Xh,n,r,e⟩:=I.hok p _ h;exact⟨Xh,n,r,e,z⟩
theorem Inv.lstUpd{p:eg}{xs ys:List V}{its':Xl}{n':Nat}{f:Obj->Obj}(I:Inv X Xb Z H s)(h:H p=ap (.lst xs))(ho:s.heap.get? p=ap { cls:=.type "list",data:=.seq Xh.toArray n })(hf:f { cls:=.type "list",data:=.seq Xh.toArray n }={ cls:=.type "list",data:=.seq its'.toArray n' })(r:Vals ys its')(hz:ys.length<=sizeLine)(t:Nat):
  Inv X Xb Z (upd H p<|.lst ys) { s with heap:=s.heap.update p f,toks:=t }:=by
 have e:(s.heap.update p f).get? p=ap { cls:=.type "list",data:=.seq its'.toArray n' }:=by
  rw[UG f ho (by rw[hf]<;>rfl),hf]
 refine I.write (x:=p) (e:=p) (by rw[h];trivial) (.inl rfl) (λb u hb q=>(Ur _ _<|Pa hb).trans q) ⟨_,e⟩ ?_
 exact⟨hz,its',n',r,e⟩
def M_:V->V->V->Hp->(Hp->Prop)->Prop:=λo i v H Q=>∃p xs k j,o=.ref p/\i=.int k/\H p=ap (.lst xs)/\rX xs.length k=ap j/\Q (upd H p<|.lst<|xs.set j v)
theorem Bn:Fz X M_:=by
 intro Xb s Z H o i v N L u Q I K J G h;obtain⟨p,xs,k,j,rfl,rfl,x,C,q⟩:=h;cases K;obtain⟨t,rfl⟩:=J;obtain⟨Xh,n,r,m,F⟩:=I.lst x;obtain⟨c,O,y,z⟩:=pI C;have f:=r.length;have M:=fO;have I':Inv X Xb Z (upd H p<|.lst<|xs.set j v) { s with heap:=s.heap.update p (SI (·.setIfInBounds j u)) }:=
  I.lstUpd x m (vx Xh n j u) (r.set G j) (by rw[QD];exact F) s.toks
 by_cases B:0<=k
 .have g:k.toNat=j:=by
   rw[W7 B z]at c;exact PH c
  exact W.ki_setAt m B (by lia) (by rw[OG,<- f];exact z) (by rw[g];exact⟨_,I',q⟩)
 .have g:(k+(Xh.toArray.size:Int)).toNat=j:=by
   rw[WV (by lia) y]at c
   rw[OG,<- f];exact PH c
  exact W.ki_setBack m (by lia) (by rw[OG,<- f];exact y) (by lia) (by rw[g];exact⟨_,I',q⟩)
theorem qy(c f:Option Int)(n:Nat):(TD c f cm n).1=((HT.sIx n 0 c:Nat):Int)/\(TD c f cm n).2.1=((HT.sIx n n f:Nat):Int)/\(TD c f cm n).2.2=1:=by
 refine⟨?_,?_,rfl⟩
 .cases c with
  |none=>simp[TD,HT.sIx]
  |some i=>
   simp only[TD,HT.sIx,U0,show (1:Int)>0 by decide,if_true]
   by_cases h:i<0
   .simp only[h,if_true]<;>lia
   .simp only[h,if_false]<;>lia
 .cases f with
  |none=>simp[TD,HT.sIx]
  |some i=>
   simp only[TD,HT.sIx,U0,show (1:Int)>0 by decide,if_true]
   by_cases h:i<0
   .simp only[h,if_true]<;>lia
   .simp only[h,if_false]<;>lia
theorem oh(Xh:Xl)(c f:Option Int):slicePick Xh.toArray c f cm=((Xh.drop<|HT.sIx Xh.length 0 c).take (HT.sIx Xh.length Xh.length f-HT.sIx Xh.length 0 c)).toArray:=by
 obtain⟨h,i,g⟩:=qy c f Xh.toArray.size;unfold slicePick;rw[h,i,g];simp only[sliceRange_one,pick_run,OG]<;>rfl
def rSlL(K:OA):V->Option Int->Option Int->Hp->VK->Prop:=λx c f H Q=>∃a xs,x=.ref a/\SqL K H a xs/\∀p,H p=cm->Q (.ref p) (upd H p<|.lst<|ki xs c f)
theorem xh:Mx X (rSlL X.K):=by
 intro Xb s Z H x v F C f g B Q I j p pl m h;obtain⟨a,xs,rfl,y,q⟩:=h;cases j;obtain⟨Xh,r,i,z⟩:=I.list y;have c:=r.length;refine⟨"list",_,slot_list_getitem.lookup,i.isList.typeIs,?_⟩;refine wpAny_getItem_list_slice i.isList p pl m .none (by simp) ?_ (by rw[OG]<;>lia)
 rw[oh,<- c];refine⟨.ref s.heap.objs.size,_,I.laid (t':=s.toks) (o:=.lst (ki xs f g)) (λb G q=>Ow _ q) (OB _) ?_,rfl,q _<|I.hok.fresh<|OB _⟩;exact⟨OV (jY xs f g) z,_,0,(r.drop<|HT.sIx xs.length 0 f).take (HT.sIx xs.length xs.length g-HT.sIx xs.length 0 f),OI _ rfl⟩
def B7:V->Bool
 |.non=>true
 |.bl _=>true
 |.int _=>true
 |.str _=>true
 |_=>eC
def rY:V->V->Bool
 |.non,.non=>true
 |.bl a,.bl b=>a==b
 |.bl a,.int b=>(if a then 1 else 0)==b
 |.int a,.bl b=>a==(if b then 1 else 0)
 |.int a,.int b=>a==b
 |.str a,.str b=>a==b
 |_,_=>eC
theorem AB{y x:V}{v:ay}(g:RelV y u)(c:RelV x v)(h:B7 y=true)(f:B7 x=true):Sb A s u v (rY y x):=by
 cases y with
 |non=>
  cases g;cases x with
  |non=>cases c;exact SeqAt.EqAt.same _
  |bl b=>cases c;exact SeqAt.EqAt.none_bool b
  |int b=>obtain⟨t,rfl⟩:=c;exact TV b t
  |str b=>obtain⟨t,rfl⟩:=c;exact TU b t
  |_=>exact absurd (show eC=true from f) OW
 |bl a=>
  cases g;cases x with
  |non=>cases c;exact SeqAt.EqAt.bool_none a
  |bl b=>cases c;exact SeqAt.EqAt.bool_bool a b
  |int b=>obtain⟨t,rfl⟩:=c;exact SeqAt.EqAt.bool_int a b t
  |str b=>obtain⟨t,rfl⟩:=c;exact SeqAt.EqAt.bool_str a b t
  |_=>exact absurd (show eC=true from f) OW
 |int a=>
  obtain⟨t',rfl⟩:=g;cases x with
  |non=>cases c;exact TX a t'
  |bl b=>cases c;exact SeqAt.EqAt.int_bool a t' b
  |int b=>obtain⟨t,rfl⟩:=c;exact SeqAt.EqAt.int_int a t' b t
  |str b=>obtain⟨t,rfl⟩:=c;exact T6 a t' b t
  |_=>exact absurd (show eC=true from f) OW
 |str a=>
  obtain⟨t',rfl⟩:=g;cases x with
  |non=>cases c;exact TR a t'
  |bl b=>cases c;exact SeqAt.EqAt.str_bool a t' b
  |int b=>obtain⟨t,rfl⟩:=c;exact T5 a t' b t
  |str b=>obtain⟨t,rfl⟩:=c;exact SeqAt.EqAt.str_str a t' b t
  |_=>exact absurd (show eC=true from f) OW
 |_=>exact absurd (show eC=true from h) OW
theorem qJ:bN X (.builtin "len") (λxs H Q=>∃p ys,xs=[.ref p]/\(SqL X.K H p ys\/ij X.K H p ys)/\Q (.int ys.length) H):=by
 intro Xb s Z H xs j Q I r h;obtain⟨p,ys,rfl,hq,q⟩:=h;obtain⟨u,rfl,g⟩:=iU r;cases g;have m:=fO;rcases hq with hq|hq
 .obtain⟨Xh,f,pl,i⟩:=I.list hq
  have c:=f.length;exact Calls.call_len_list pl.isList (by simp only[OG]<;>lia) ⟨.int ys.length,H,I.tok _,⟨s.toks+1,by rw[OG,c]⟩,q⟩
 .obtain⟨Xh,f,pl,i⟩:=I.tuple hq
  have c:=f.length;exact len_tuple pl (by simp only[OG]<;>lia) ⟨.int ys.length,H,I.tok _,⟨s.toks+1,by rw[OG,c]⟩,q⟩
theorem qO:bN X (.builtin "len") (λxs H Q=>∃z,xs=[.str z]/\z.length<=sizeLine/\Q (.int z.length) H):=by
 intro Xb s Z H xs c Q I r h;obtain⟨z,rfl,f,q⟩:=h;obtain⟨u,rfl,t,rfl⟩:=iU r;have g:=fO;exact len_str (by lia) ⟨.int z.length,H,I.tok _,⟨_,rfl⟩,q⟩
theorem pM:bN X (.type "list") (λxs H Q=>∃p ys,xs=[.ref p]/\(SqL X.K H p ys\/ij X.K H p ys)/\∀l,H l=cm->Q (.ref l) (upd H l<|.lst ys)):=by
 intro Xb s Z H xs z Q I r h;obtain⟨p,ys,rfl,hq,q⟩:=h;obtain⟨u,rfl,y⟩:=iU r;cases y
 have fin:∀(Xh:Xl),Vals ys Xh->ys.length<=sizeLine->∀(c:hG)(g:Nat),(∀b o',s.heap.get? b=ap o'->c.get? b=ap o')->
   c.get? s.heap.objs.size=ap { cls:=.type "list",dict:=cm,data:=.seq Xh.toArray g,slots:=#[] }->EP X Xb Z Q (.ref s.heap.objs.size) { s with heap:=c }:=λXh f j c g kp e=>
  ⟨.ref s.heap.objs.size,_,I.laid (t':=s.toks) kp (OB _) (show ObjOk X.prog X.w _ c _ (.lst ys) from ⟨j,Xh,g,f,e⟩),rfl,q _<|I.hok.fresh<|OB _⟩
 rcases hq with hq|hq
 .obtain⟨Xh,f,pl,j⟩:=I.list hq
  have i:=f.length;obtain⟨o,m,v,n,x⟩:=pl.isList;exact call_list_seq p (.inl rfl) m v x (λc g kp e=>fin Xh f j c g kp e) (by simp only[OG]<;>lia)
 .obtain⟨Xh,f,pl,j⟩:=I.tuple hq
  have i:=f.length;obtain⟨o,m,v,n,x⟩:=pl;exact call_list_seq p (.inr rfl) m v x (λc g kp e=>fin Xh f j c g kp e) (by simp only[OG]<;>lia)
theorem hV:bN X (.type "tuple") (λxs H Q=>∃p ys,xs=[.ref p]/\((SqL X.K H p ys/\∀l,H l=cm->Q (.ref l) (upd H l<|.tup ys))\/(ij X.K H p ys/\Q (.ref p) H))):=by
 intro Xb s Z H xs v Q I r h;obtain⟨p,ys,rfl,h⟩:=h;obtain⟨u,rfl,m⟩:=iU r;cases m;rcases h with⟨g,q⟩|⟨g,q⟩
 .obtain⟨Xh,f,pl,j⟩:=I.list g
  have i:=f.length;refine call_tuple_list pl.isList (λc kp=>?_) (by simp only[OG]<;>lia)
  have I1:Inv X Xb Z H { s with heap:=c }:=I.kept (t':=s.toks) kp;have I2:Inv X Xb Z (upd H c.objs.size<|.tup ys) { s with heap:=c.push { cls:=.type "tuple",data:=.seq Xh.toArray } }:=
   I1.laid (t':=s.toks) (λb o e=>Ow _ e) (OB _) (show ObjOk X.prog X.w _ _ _ (.tup ys) from ⟨j,Xh,f,⟨_,OI _ rfl,⟨rfl,_,rfl⟩,rfl⟩⟩)
  exact⟨.ref c.objs.size,_,I2,rfl,q _<|I1.hok.fresh<|OB _⟩
 .obtain⟨Xh,f,pl,j⟩:=I.tuple g
  exact call_tuple_same pl ⟨.ref p,H,I,rfl,q⟩
def tyV(K:OA)(T:String)(x:V)(H:Hp):Prop:=match x with
 |.str _=>T="str"
 |.int _=>T="int"
 |.ref p=>(T="list"/\∃xs,SqL K H p xs)\/(T="tuple"/\∃o,K.lookup p=ap o/\o.cls=.type "tuple"/\o.dict=cm)\/
   (T="dict"/\((∃Xd,H p=ap (.dK Xd))\/∃Xd,H p=ap (.dT Xd)))\/(T="set"/\∃S n,H p=ap (.set S n))
 |_=>False
theorem Cp{T:String}{x:V}{v:ay}(I:Inv X Xb Z H s)(r:RelV x v)(ty:tyV X.K T x H):
  s.TypeIs v T/\∀a,v=.ref a->∃q,s.heap.get? a=ap q/\q.dict=none:=by
 cases x with
 |str z=>
  obtain⟨t,rfl⟩:=r;cases (show T="str" from ty);exact⟨typeIs_str s z t,λ_ e=>nomatch e⟩
 |int i=>
  obtain⟨t,rfl⟩:=r;cases (show T="int" from ty);exact⟨typeIs_int s i t,λ_ e=>nomatch e⟩
 |ref p=>
  cases r;rcases ty with⟨rfl,xs,y⟩|⟨rfl,o,f,hc,m⟩|⟨rfl,f⟩|⟨rfl,S,n,f⟩
  .obtain⟨Xh,_,pl,_⟩:=I.list y
   refine⟨pl.isList.typeIs,λa e=>?_⟩;cases e;obtain⟨o,n,e,c,m,_⟩:=pl;exact⟨o,e,m⟩
  .refine⟨⟨o,I.kIn p o f,hc⟩,λa e=>?_⟩
   cases e;exact⟨o,I.kIn _ o f,m⟩
  .have z:∃o,s.heap.get? p=ap o/\o.ExactDict:=by
    rcases f with⟨j,f⟩|⟨j,f⟩
    .obtain⟨_,_,_,_,o,_,_,e,g,_⟩:=I.hok p _ f
     exact⟨o,e,g⟩
    .obtain⟨_,_,_,_,o,_,_,e,g,_⟩:=I.hok p _ f
     exact⟨o,e,g⟩
   obtain⟨o,e,g⟩:=z;refine⟨⟨o,e,g.1⟩,λa h=>?_⟩;cases h;exact⟨o,e,g.2.1⟩
  .obtain⟨o,_,_,_,e,g,_⟩:=I.hok p _ f
   refine⟨⟨o,e,g.1⟩,λa h=>?_⟩;cases h;exact⟨o,e,g.2.1⟩
 |_=>exact PX ty
def tBM0(K:OA)(T:String)(r:V->List V->Hp->VK->Prop)(to:TE):TE:=λZ H Q=>to Z H λx H1=>tyV K T x H1/\r x [] H1 Q
def tBM(K:OA)(T:String)(r:V->List V->Hp->VK->Prop)(to:TE)(t:TA):TE:=λZ H Q=>to Z H λx H1=>tyV K T x H1/\t Z H1 λxs H2=>r x xs H2 Q
variable{es:Xn}{to:TE}{t:TA}{name:Str}{Xg Xf:Pos}{T id:String}{r:V->List V->Hp->VK->Prop}
theorem IV(z:V7 T)(f:WK T name id)(g:Wm (.builtin id)=pure (.type "method_descriptor"))(hm:xO X id r)(y:PE X o to)(c:nr o name X.env (gp o X.env)=gp o X.env:=by rfl)(hline:(Xg.endLine==Xf.line)=true:=by rfl):PE X (.Call (.Attribute o name Xg) [] [] Xf) (tBM0 X.K T r to):=by
 intro Xb s Z H Q I h;refine wpAny_Call_method0_late c hline (bq (y Xb s Z H _ I h) λv j ⟨x,H1,I1,i,ty,m⟩=>?_);obtain⟨p,q⟩:=Cp I1 i ty;exact⟨T,id,z,f,g,p,q,Qx rfl<|PySem.evalArgs_none<|hm Xb j Z H1 x [] v [] Q I1 i .nil m⟩
theorem Mo(M:V7 T)(f:WK T name id)(g:Wm (.builtin id)=pure (.type "method_descriptor"))(L:xO X id r)(J:PE X o to)(N:PA X (e::es) t)(c:nr o name X.env (gp o X.env)=gp o X.env:=by rfl)(hfew:((hI Xf<|starEach (e::es) X.env).all (λx=>!x.1)&&(z5 Xf<|keywordEach [] X.env).all (λx=>x.1.isSome)
   && decide ((e::es).length+([]:List z0).length+(if ([]:List z0).isEmpty then 0 else 1)<30))=true:=by rfl)(hline:(Xg.endLine==Xf.line)=true:=by rfl)(hs:fe (e::es) X.env=(eC,gp e X.env)::fe es X.env:=by rfl)(hplain:(hI Xf<|starEach es X.env).any (·.1)=false:=by rfl):
  PE X (.Call (.Attribute o name Xg) (e::es) [] Xf) (tBM X.K T r to t):=by
 intro Xb s Z H Q I h;refine WT c hfew hline rfl (bq (J Xb s Z H _ I h) λv z ⟨x,H1,I1,j,ty,C⟩=>?_);obtain⟨q,G⟩:=Cp I1 j ty;refine⟨T,id,M,f,g,q,G,?_⟩;have i:=N Xf Xb z Z H1 _ I1 C;rw[hs]at i ⊢;refine Qx (by show (eC||(hI Xf<|starEach es X.env).any (·.1))=eC;rw[hplain]<;>rfl) (QL ?_)
 exact bq i λm y ⟨B,H2,I2,p,F⟩=>L Xb y Z H2 x B v m Q I2 j p F
end
def MtM(X:Cx)(id:String)(r:V->List V->Hp->VK->Prop):Prop:=
 ∀(Xb:Xq)(s:el)(Z:St)(H:Hp)(x:V)(xs:List V)(v:ay)(us:Xl)(Q:VK),Inv X Xb Z H s->RelV x v->Vals xs us->r x xs H Q->
  eH (ff X.prog X.w) X.A (call (.builtin id) (v::us)) (EP X Xb Z Q) X.xe s
theorem Vals.one:∀{x:V}{us:Xl},Vals [x] us->∃u,us=[u]/\RelV x u
 |_,_,h=>by cases h with|cons r q=>cases q;exact⟨_,rfl,r⟩
theorem Vals.two:∀{x y:V}{us:Xl},Vals [x,y] us->∃u v,us=[u,v]/\RelV x u/\RelV y v
 |_,_,_,h=>by cases h with|cons r q=>cases q with|cons q z=>cases z;exact⟨_,_,rfl,r,q⟩
theorem Vals.zero:∀{us:Xl},Vals [] us->us=[]
 |_,.nil=>rfl
theorem Vals.dropLast{xs:List V}{us:Xl}(h:Vals xs us):Vals xs.dropLast us.dropLast:=by
 induction h with
 |nil=>exact .nil
 |cons r t ih=>
  cases t with
  |nil=>exact .nil
  |cons q t'=>exact .cons r ih
theorem Vals.eraseIdx:∀{xs:List V}{us:Xl}(i:Nat),Vals xs us->Vals (xs.eraseIdx i) (us.eraseIdx i)
 |_,_,_,.nil=>.nil
 |_,_,0,.cons _ t=>t
 |_,_,i+1,.cons r t=>.cons r (Vals.eraseIdx i t)
theorem Vals.rep{xs:List V}{us:Xl}(h:Vals xs us):∀k:Nat,Vals (Pe k xs).flatten (Pe k us).flatten
 |0=>.nil
 |k+1=>by
  rw[PM,PM,QH,QH];exact Vals.append h (Vals.rep h k)
theorem uU(l:List α):l.eraseIdx (l.length-1)=l.dropLast:=by
 induction l with
 |nil=>rfl
 |cons a r ih=>
  cases r with
  |nil=>rfl
  |cons b r=>
   have e:(a::b::r).length-1=((b::r).length-1)+1:=by
    have c:(a::b::r).length=r.length+2:=rfl;have f:(b::r).length=r.length+1:=rfl;lia
   rw[e,List.eraseIdx_cons_succ,ih]
   all_goals rfl
theorem oE{α:Type}:∀(l:List α)(i:Nat),(l.eraseIdx i).length<=l.length
 |[],_=>OB _
 |_::_,0=>To _
 |_::r,i+1=>Nat.succ_le_succ (oE r i)
section
variable{l:eg}{xs ys zs:List V}
theorem Inv.lset{its':Xl}{f:Array ay->Array ay}{t':Nat}(I:Inv X Xb Z H s)(hH:H l=ap (.lst xs))(e:s.heap.get? l=ap { cls:=.type "list",data:=.seq Xh.toArray n })(hf:f Xh.toArray=its'.toArray)(hv:Vals ys its')(hz:ys.length<=sizeLine):
  Inv X Xb Z (upd H l<|.lst ys) { s with heap:=s.heap.update l (SI f),toks:=t' }:=by
 have q:=PySem.IsL.update e f;rw[hf]at q;refine I.write (x:=l) (e:=l) (by rw[hH];exact trivial) (.inl rfl) (λb' u hb hu=>(Ur s.heap (SI f)<|Pa hb).trans hu) ⟨_,q⟩ ?_
 exact⟨hz,its',_,hv,q⟩
theorem Inv.lnew{t':Nat}(I:Inv X Xb Z H s)(f:Vals ys Xh)(c:ys.length<=sizeLine):
  Inv X Xb Z (upd H s.heap.objs.size<|.lst ys) { s with heap:=s.heap.push { cls:=.type "list",data:=.seq Xh.toArray },toks:=t' }:=
 I.laid (λ_ _ q=>Ow _ q) (OB _) ⟨c,Xh,0,f,OI _ rfl⟩
theorem Inv.fresh(I:Inv X Xb Z H s):H s.heap.objs.size=none:=I.hok.fresh (OB _)
theorem Inv.lstM(I:Inv X Xb Z H s)(c:H l=ap (.lst xs)):xs.length<=sizeLine/\∃(Xh:Xl)(n:Nat),Vals xs Xh/\xs.length=Xh.length/\s.heap.get? l=ap { cls:=.type "list",data:=.seq Xh.toArray n }:=by
 obtain⟨z,Xh,n,r,e⟩:=I.hok l _ c;exact⟨z,Xh,n,r,r.length,e⟩
end
section
def FH:V->List V->Hp->VK->Prop:=λx c H Q=>∃l xs y,x=.ref l/\c=[y]/\H l=ap (.lst xs)/\xs.length<sizeLine/\Q .non (upd H l<|.lst (xs++[y]))
theorem zV:MtM X "list.append" FH:=by
 intro Xb s Z H x p v j Q I f g h;obtain⟨l,xs,y,rfl,rfl,c,B,q⟩:=h;cases f;obtain⟨u,rfl,i⟩:=g.one;obtain⟨z,Xh,n,r,m,e⟩:=I.lstM c;refine vr RC ⟨_,e,rfl⟩ SJ (Sv _ _) (SH l Xh.toArray n u<|by rw[OG];lia) ⟨e,?_⟩
 refine⟨.non,_,I.lset (its':=Xh++[u]) c e (by simp) (r.append<|.cons i .nil) ?_,rfl,q⟩
 rw[OH,PV];lia
def rPop:V->List V->Hp->VK->Prop:=λx c H Q=>∃l xs y,x=.ref l/\c=[]/\H l=ap (.lst xs)/\xs[xs.length-1]?=ap y/\Q y (upd H l<|.lst xs.dropLast)
theorem IP:MtM X "list.pop" rPop:=by
 intro Xb s Z H x J v G Q I i m h;obtain⟨l,xs,y,rfl,rfl,g,B,q⟩:=h;cases i;have f:=m.zero;subst f;obtain⟨z,Xh,n,r,j,e⟩:=I.lstM g;obtain⟨u,C,p⟩:=r.get B;have c:Xh.toArray[Xh.toArray.size-1]?=ap u:=by
  show Xh.toArray[Xh.length-1]?=ap u;rw[<- UC,<- j];exact C
 refine vr RJ ⟨_,e,rfl⟩ F.entry_list_pop (F.args_list_pop_1 _) (MeetsSeq.list_pop_last l Xh.toArray n u c<|by rw[OG];lia) ⟨e,?_⟩
 refine⟨y,_,I.lset (its':=Xh.dropLast) g e ?_ r.dropLast ?_,p,q⟩
 .show Xh.toArray.eraseIdxIfInBounds (Xh.toArray.size-1)=Xh.dropLast.toArray
  rw[OG,S6,uU]
 .rw[List.length_dropLast]
  lia
def L1:V->List V->Hp->VK->Prop:=λx c H Q=>∃l xs i k y,x=.ref l/\c=[.int i]/\H l=ap (.lst xs)/\-(2 ^ 63)<=i/\i<2 ^ 63/\WN i xs.length=ap k/\xs[k]?=ap y/\Q y (upd H l<|.lst<|xs.eraseIdx k)
theorem Bt:MtM X "list.pop" L1:=by
 intro Xb s Z H x M v L Q I g p h;obtain⟨l,xs,i,k,y,rfl,rfl,f,j,K,J,C,q⟩:=h;cases g;obtain⟨u,rfl,B⟩:=p.one;obtain⟨t,rfl⟩:=B;obtain⟨z,Xh,n,r,m,e⟩:=I.lstM f;obtain⟨w,G,c⟩:=r.get C
 refine vr RJ ⟨_,e,rfl⟩ F.entry_list_pop (F.args_list_pop_2 _ _)
  (MeetsSeq.list_pop_at l Xh.toArray n i t k w (fitsIndex_both j K) (by rw[OG,<- m];exact J) (by rw[<- UC];exact G)<|by rw[OG];lia) ⟨e,?_⟩
 refine⟨y,_,I.lset (its':=Xh.eraseIdx k) f e ?_ (r.eraseIdx k) ?_,c,q⟩
 .show Xh.toArray.eraseIdxIfInBounds k=(Xh.eraseIdx k).toArray
  rw[S6]
 .have:=oE xs k
  lia
theorem FP(xs:List α)(k:Nat):(Pe k xs).flatten.length=k*xs.length:=by
 induction k with
 |zero=>simp
 |succ k ih=>rw[PM,QH,OH,ih,Nat.succ_mul,Nat.add_comm]
end
section
variable{prog:fx}
set_option maxRecDepth 100000 in
end
section
end
section
variable{κ:Type}[DecidableEq κ]
def dU(Xd:List (κ×V))(k:κ):Option V:=(Xd.find? λc=>decide (c.1=k)).map (·.2)
def cN(Xd:List (κ×V))(k:κ)(v:V):List (κ×V):=
 if (Xd.any λc=>decide (c.1=k))=true then Xd.map (λc=>if c.1=k then (c.1,v) else c) else Xd++[(k,v)]
def g_(Xd:List (κ×V))(k:κ):List (κ×V):=Xd.filter λc=>decide (c.1≠k)
theorem mB{p:κ×V}{r:List (κ×V)}{k:κ}(e:p.1=k):dU (p::r) k=ap p.2:=by simp[dU,P2,e]
theorem nJ{p:κ×V}{r:List (κ×V)}{k:κ}(e:¬p.1=k):dU (p::r) k=dU r k:=by simp[dU,P2,e]
theorem uH(k:κ):∀c:List (κ×V),(c.any λkv=>decide (kv.1=k))=(dU c k).isSome
 |[]=>rfl
 |p::r=>by
  rw[Qn]
  by_cases e:p.1=k
  .simp only[mB e,decide_eq_true e,Sh,UN]
  .rw[nJ e,decide_eq_false e,Qo];exact uH k r
theorem fZ(c:List (κ×V))(k:κ)(v:V):(cN c k v).length<=c.length+1:=by
 unfold cN
 split
 .rw[Ox];lia
 .rw[OH,OE,Pn];lia
theorem RelO.isSome_eq{o:Option V}{u:Option ay}(r:RelO o u):o.isSome=u.isSome:=by
 cases o with
 |none=>cases u with
  |none=>rfl
  |some _=>exact(show False from r).elim
 |some _=>cases u with
  |none=>exact(show False from r).elim
  |some _=>rfl
theorem KV.val{c:List (κ×V)}{vs:List (κ×ay)}(r:KV c vs)(k:κ):RelO (dU c k) (V5 vs k):=by
 unfold KV at r
 induction r with
 |nil=>exact Qm
 |@cons p q ps qs h t ih=>
  obtain⟨g,i⟩:=h
  by_cases e:p.1=k
  .have f:q.1=k:=g.symm.trans e
   have b:V5 (q::qs) k=ap q.2:=by simp[V5,P2,f]
   rw[mB e,b];exact i
  .have f:¬q.1=k:=λz=>e (g.trans z)
   have b:V5 (q::qs) k=V5 qs k:=by simp[V5,P2,f]
   rw[nJ e,b];exact ih
theorem KV.any{c:List (κ×V)}{vs:List (κ×ay)}(r:KV c vs)(k:κ):(c.any λkv=>decide (kv.1=k))=vs.any λkv=>decide (kv.1=k):=by
 unfold KV at r
 induction r with
 |nil=>rfl
 |cons h t ih=>rw[Qn,Qn,ih,h.1]
theorem KV.repl{c:List (κ×V)}{vs:List (κ×ay)}(r:KV c vs)(k:κ){y:V}(i:RelV y u):
  KV (c.map λkv=>if kv.1=k then (kv.1,y) else kv) (vs.map λkv=>if kv.1=k then (kv.1,u) else kv):=by
 unfold KV at r ⊢
 induction r with
 |nil=>exact .nil
 |@cons p q ps qs h t ih=>
  rw[Oy,Oy];refine .cons ?_ ih;obtain⟨f,g⟩:=h
  by_cases e:p.1=k
  .rw[if_pos e,if_pos (f.symm.trans e)];exact⟨f,i⟩
  .rw[if_neg e,if_neg (λz=>e (f.trans z))];exact⟨f,g⟩
theorem KV.put{c:List (κ×V)}{vs:List (κ×ay)}(r:KV c vs)(k:κ){y:V}(f:RelV y u):KV (cN c k y) (V1 vs k u):=by
 unfold cN V1;rw[r.any k]
 by_cases e:(vs.any λg=>decide (g.1=k))=true
 .rw[if_pos e,if_pos e];exact r.repl k f
 .rw[if_neg e,if_neg e];exact Paired.snoc r ⟨rfl,f⟩
theorem KV.drop{c:List (κ×V)}{vs:List (κ×ay)}(r:KV c vs)(k:κ):KV (g_ c k) (without vs k):=by
 unfold KV at r ⊢;unfold g_ without
 induction r with
 |nil=>exact .nil
 |@cons p q ps qs h t ih=>
  obtain⟨f,i⟩:=h;rw[Pg,Pg]
  by_cases e:p.1=k
  .have a:¬decide (p.1≠k)=true:=by simp[e]
   have b:¬decide (q.1≠k)=true:=by simp[f.symm.trans e]
   rw[if_neg a,if_neg b];exact ih
  .have g:¬q.1=k:=λz=>e (f.trans z)
   have a:decide (p.1≠k)=true:=by simp[e]
   have b:decide (q.1≠k)=true:=by simp[g]
   rw[if_pos a,if_pos b];exact .cons ⟨f,i⟩ ih
theorem KV.length{c:List (κ×V)}{vs:List (κ×ay)}(r:KV c vs):c.length=vs.length:=Qa r
theorem Dc(c:List (κ×V))(k:κ):(g_ c k).length<=c.length:=Po _ _
end
theorem je{k:aG}(r:RelV (kV k) u):(aV P w).is k u=true:=by
 cases k with
 |inl i=>obtain⟨t,e⟩:=(show ∃t,u=QA i t from r);subst e;exact s_ P w i t
 |inr x=>obtain⟨t,e⟩:=(show ∃t,u=R0 x t from r);subst e;exact tQ P w x t
theorem pz{P:fx}{w:g3}:∀{ks:List aG}{us:Xl},Vals (ks.map kV) us->ItemsAre (aV P w) ks us
 |[],_,r=>by rw[OZ]at r;cases r;exact .nil
 |k::ks,_,r=>by
  rw[Oy]at r;cases r with
  |cons h t=>exact .cons (je h) (pz t)
abbrev KT(H:Hp):List (List aG×V)->List (List aG×eg×ay)->Prop:=V8 λp q=>p.1=q.1/\H q.2.1=ap (.tup<|p.1.map kV)/\RelV p.2 q.2.2
theorem KT.val{c:List (List aG×V)}(r:KT H c xs)(k:List aG):RelO (dU c k) ((WE xs k).map (·.2)):=by
 induction r with
 |nil=>exact Qm
 |@cons p q ps qs h t ih=>
  obtain⟨g,_,i⟩:=h
  by_cases e:p.1=k
  .have f:q.1=k:=g.symm.trans e
   have b:WE (q::qs) k=ap q.2:=by simp[WE,P2,f]
   rw[mB e,b];exact i
  .have f:¬q.1=k:=λz=>e (g.trans z)
   have b:WE (q::qs) k=WE qs k:=by simp[WE,P2,f]
   rw[nJ e,b];exact ih
theorem KT.repl{c:List (List aG×V)}(r:KT H c xs)(k:List aG){y:V}(j:RelV y u):
  KT H (c.map λkv=>if kv.1=k then (kv.1,y) else kv) (xs.map<|putAt k u):=by
 induction r with
 |nil=>exact .nil
 |@cons p q ps qs h t ih=>
  rw[Oy,Oy];refine .cons ?_ ih;obtain⟨f,g,i⟩:=h;unfold putAt
  by_cases e:p.1=k
  .rw[if_pos e,if_pos (f.symm.trans e)];exact⟨f,g,j⟩
  .rw[if_neg e,if_neg (λz=>e (f.trans z))];exact⟨f,g,i⟩
theorem KT.put{c:List (List aG×V)}(r:KT H c xs)(k:List aG){y:V}(h:H b=ap (.tup<|k.map kV))(f:RelV y u):
  KT H (cN c k y) (storedH xs k b u):=by
 have e:(c.any λg=>decide (g.1=k))=(WE xs k).isSome:=by
  rw[uH,(r.val k).isSome_eq,SG]
 unfold cN storedH;rw[e]
 by_cases q:(WE xs k).isSome=true
 .rw[if_pos q,if_pos q];exact r.repl k f
 .rw[if_neg q,if_neg q];exact Paired.snoc r ⟨rfl,h,f⟩
theorem KT.keeps{c:List (List aG×V)}(r:KT H c xs)(f:∀b ys,H b=ap (.tup ys)->H' b=ap (.tup ys)):KT H' c xs:=
 eE r λ_ _ z=>⟨z.1,f _ _ z.2.1,z.2.2⟩
section
variable{h:hG}
theorem HF{u:HO}(ok:HOk P w H h)(e:Rd H a u):ObjOk P w H h a u:=e.ok ok
theorem jf{c:List (aG×V)}(ok:HOk P w H h)(e:Rd H a (.dK c)):c.length<=sizeLine/\(a==PP)=eC/\∃vs,KV c vs/\h.DictOf (aV P w) a vs:=
 show ObjOk P w H h a (.dK c) from HF ok e
theorem BJ{c:List (aG×V)}(ok:HOk P w H h)(e:H a=ap (.dK c)):c.length<=sizeLine/\(a==PP)=eC/\∃vs,KV c vs/\h.DictOf (aV P w) a vs:=jf ok (.inl e)
theorem nO{ks:List aG}(ok:HOk P w H h)(e:H a=ap (.tup<|ks.map kV)):(WL<|aV P w).is h ks a:=by
 obtain⟨_,Xh,r,o,c,⟨f,n,g⟩,_⟩:=(show ObjOk P w H h a (.tup<|ks.map kV) from ok a _ e);exact⟨o,Xh.toArray,n,c,f,g,by simpa using pz r⟩
theorem pB{c:List (List aG×V)}(ok:HOk P w H h)(e:Rd H a (.dT c)):c.length<=sizeLine/\(a==PP)=eC/\
  ∃xs,KT H c xs/\h.DictOfH (WL<|aV P w) a xs:=by
 obtain⟨z,y,xs,r,o,v,i,f,C,j,B,g⟩:=(show ObjOk P w H h a (.dT c) from HF ok e);refine⟨z,y,xs,r,o,v,i,f,C,j,B,λx hx=>?_,g⟩;have all:∀{l:List (List aG×V)}{m:List (List aG×eg×ay)},KT H l m->∀x∈m,(WL<|aV P w).is h x.1 x.2.1:=by
  intro l m q
  induction q with
  |nil=>intro x hx;exact nomatch hx
  |@cons p q ps qs hq t ih=>
   intro x hx;rcases OQ.mp hx with e|hx
   .subst e
    exact nO ok (by rw[<- hq.1];exact hq.2.1)
   .exact ih x hx
 exact all r x hx
theorem Mz{c:List (List aG×V)}(ok:HOk P w H h)(e:H a=ap (.dT c)):c.length<=sizeLine/\(a==PP)=eC/\
  ∃xs,KT H c xs/\h.DictOfH (WL<|aV P w) a xs:=pB ok (.inl e)
end
def DGet(H:Hp)(a:eg)(y:V)(r:Option V):Prop:=
 (∃Xd k,Rd H a (.dK Xd)/\y=kV k/\r=dU Xd k)\/∃Xd k b,Rd H a (.dT Xd)/\y=.ref b/\H b=ap (.tup<|k.map kV)/\r=dU Xd k
def DPut(H:Hp)(a:eg)(y v:V)(H':Hp):Prop:=
 (∃Xd k,H a=ap (.dK Xd)/\y=kV k/\Xd.length<sizeLine/\H'=upd H a (.dK<|cN Xd k v))\/
 ∃Xd k b,H a=ap (.dT Xd)/\y=.ref b/\H b=ap (.tup<|k.map kV)/\Xd.length<sizeLine/\H'=upd H a (.dT<|cN Xd k v)
theorem DGet.k{H:Hp}{a:eg}{c:List (aG×V)}{k:aG}(e:H a=ap (.dK c)):DGet H a (kV k) (dU c k):=.inl ⟨c,k,.inl e,rfl,rfl⟩
theorem DGet.t{c:List (List aG×V)}{k:List aG}(e:H a=ap (.dT c))(f:H b=ap (.tup<|k.map kV)):DGet H a (.ref b) (dU c k):=.inr ⟨c,k,b,.inl e,rfl,f,rfl⟩
theorem DPut.k{H:Hp}{a:eg}{c:List (aG×V)}{k:aG}{v:V}(e:H a=ap (.dK c))(f:c.length<sizeLine):DPut H a (kV k) v (upd H a<|.dK<|cN c k v):=.inl ⟨c,k,e,rfl,f,rfl⟩
theorem DPut.t{c:List (List aG×V)}{k:List aG}{v:V}(e:H a=ap (.dT c))(f:H b=ap (.tup<|k.map kV))(g:c.length<sizeLine):
  DPut H a (.ref b) v (upd H a<|.dT<|cN c k v):=.inr ⟨c,k,b,e,rfl,f,g,rfl⟩
section
variable{y v:V}{r:ay}{o:Option V}
theorem Inv.big(I:Inv X Xb Z H s):PP<s.heap.objs.size:=by
 have h:fv<s.heap.objs.size:=(I.mod.glob.keeps I.bk).lt;exact S3 (by decide) h
theorem oR(J:A.units+1<rc)(I:Inv X Xb Z H s)(g:DGet H a y (ap v))(B:RelV y u)(h:∀w' s',Inv X Xb Z H s'->RelV v w'->Q w' s'):
  eH (ff X.prog X.w) A (V6 (.ref a) u) Q E s:=by
 rcases g with⟨q,k,e,m,l⟩|⟨q,k,b,e,m,eb,l⟩
 .subst m
  obtain⟨z,G,C,c,x⟩:=jf I.hok e;obtain⟨w',i,f⟩:=dy (v:=v) (o:=V5 C k) (by rw[l];exact c.val k)
  exact wpAny_getItem_of (je B) x.mapOf i (h w' _ (I.tok _) f)
 .subst m
  cases (show u=OY b from B);obtain⟨z,G,xs,c,x⟩:=pB I.hok e;obtain⟨w',i,f⟩:=dy (v:=v) (o:=(WE xs k).map (·.2)) (by rw[l];exact c.val k)
  obtain⟨p,F,j⟩:=R8.mp i;refine wpAny_getItem_heap (UV J) (nO I.hok eb) x F ?_;rw[j];exact h w' _ (I.tok _) f
theorem Mj(x:A.units+1<rc)(I:Inv X Xb Z H s)(g:DGet H a y o)(p:RelV y u)(h:∀s',Inv X Xb Z H s'->Q (.bool o.isSome) s'):
  eH (ff X.prog X.w) A (kc .In u<|.ref a) Q E s:=by
 rcases g with⟨i,k,e,f,l⟩|⟨i,k,b,e,f,eb,l⟩
 .subst f
  obtain⟨z,m,B,c,j⟩:=jf I.hok e;refine wpAny_in_of (je p) m j.mapOf ?_;rw[<- (c.val k).isSome_eq,<- l];exact h _ (I.tok _)
 .subst f
  cases (show u=OY b from p);obtain⟨z,m,xs,c,j⟩:=pB I.hok e;refine wpAny_in_heap (UV x) (nO I.hok eb) m j ?_;have q:=(c.val k).isSome_eq;rw[SG]at q;rw[<- q,<- l];exact h _ (I.tok _)
theorem wY(x:A.units+1<rc)(I:Inv X Xb Z H s)(g:DGet H a y o)(p:RelV y u)(h:∀s',Inv X Xb Z H s'->Q (.bool<|!o.isSome) s'):
  eH (ff X.prog X.w) A (kc .NotIn u<|.ref a) Q E s:=by
 rcases g with⟨i,k,e,f,l⟩|⟨i,k,b,e,f,eb,l⟩
 .subst f
  obtain⟨z,m,B,c,j⟩:=jf I.hok e;refine wpAny_notIn_of (je p) m j.mapOf ?_;rw[<- (c.val k).isSome_eq,<- l];exact h _ (I.tok _)
 .subst f
  cases (show u=OY b from p);obtain⟨z,m,xs,c,j⟩:=pB I.hok e;refine wpAny_notIn_heap (UV x) (nO I.hok eb) m j ?_;have q:=(c.val k).isSome_eq;rw[SG]at q;rw[<- q,<- l];exact h _ (I.tok _)
theorem pQ{h':hG}{t':Nat}{c:HO}(I:Inv X Xb Z H s)(g:LN (H a))(h:Qy a s.heap h')(i:∃q,h'.get? a=ap q)(new:ObjOk X.prog X.w (upd H a c) h' a c):
  Inv X Xb Z (upd H a c) { s with heap:=h',toks:=t' }:=
 I.write (x:=a) (e:=a) g (.inl rfl) (λb q f z=>(h.2 b f).trans z) i new
theorem mz{h':hG}{c:List (aG×V)}{vs:List (aG×ay)}(z:c.length<=sizeLine)(g:(a==PP)=eC)(f:KV c vs)(dd:h'.DictOf (aV P w) a vs):
  ObjOk P w H' h' a (.dK c):=⟨z,g,vs,f,dd⟩
theorem pq{Q:Unit->el->Prop}(hu:A.units+1<rc)(I:Inv X Xb Z H s)(g:DPut H a y v H')(N:RelV y u)(M:RelV v r)(h:∀s',Inv X Xb Z H' s'->Q () s'):
  eH (ff X.prog X.w) A (Ww (.ref a) u r) Q E s:=by
 rcases g with⟨i,k,e,G,l,C⟩|⟨i,k,b,e,G,eb,l,C⟩
 .subst G C
  obtain⟨z,J,U,f,x⟩:=BJ I.hok e;have F:U.length<=sizeLine:=by rw[<- f.length];exact z
  have p:(cN i k v).length<=sizeLine:=by have:=fZ i k v;lia
  refine wpAny_setItem_pairs (hsz:=F) (je N) x λL j B=>h _ ?_;have O:∃q,L.get? a=ap q:=let ⟨q,_,_,m,_⟩:=j;⟨q,m⟩;exact pQ I (by rw[e];exact Qm) B O (mz p J (f.put k M) j)
 .subst G C
  cases (show u=OY b from N);obtain⟨z,J,xs,f,x⟩:=Mz I.hok e;have F:xs.length<=sizeLine:=by rw[<- Qa f];exact z
  have p:(cN i k v).length<=sizeLine:=by have:=fZ i k v;lia
  refine wpAny_setItem_heap (hsz:=F) (UV hu) (nO I.hok eb) x λL j B=>h _ ?_;obtain⟨q,W,S,m,h2,T,Y,_,R⟩:=j;refine pQ I (by rw[e];exact Qm) B ⟨q,m⟩ ⟨p,J,_,(f.put k eb M).keeps λc ys K=>?_,q,W,S,m,h2,T,Y,R⟩
  rw[aL (Oi K e λz=>nomatch z)];exact K
end
section
variable{Xd:List (aG×V)}{k:aG}
theorem HZ{v:V}{more:Xl}(I:Inv X Xb Z H s)(e:H a=ap (.dK Xd))(j:RelV (kV k) u)(l:dU Xd k=ap v)(y:more=[]\/∃x,more=[x])(h:∀w' s',Inv X Xb Z (upd H a<|.dK<|g_ Xd k) s'->RelV v w'->Q w' s'):eH (ff X.prog X.w) A (call (.builtin "dict.pop") (.ref a::u::more)) Q E s:=by
 obtain⟨z,B,m,c,p⟩:=BJ I.hok e;obtain⟨w',C,g⟩:=dy (v:=v) (o:=V5 m k) (by rw[<- l];exact c.val k)
 have K:(keyPart u).isSome=true:=by
  cases k with
  |inl i=>obtain⟨t,q⟩:=(show ∃t,u=QA i t from j);subst q;rfl
  |inr x=>obtain⟨t,q⟩:=(show ∃t,u=R0 x t from j);subst q;rfl
 have J:WF "dict.pop" ⟨.ref a::u::more,[]⟩:=by
  rcases y with q|⟨x,q⟩
  .subst q;exact PySem.F.args_dict_pop_2 _ _
  .subst q;exact TL _ _ _
 refine call_meetsIn Q9 p.typeIs TY J (meets_dict_pop_there (aV X.prog X.w) a (je j) more y K)
  ⟨m,w',p,by rw[<- c.length];exact z,C,λM f L=>h w' _ ?_ g⟩
 have G:∃q,M.get? a=ap q:=let ⟨q,_,_,hq,_⟩:=f;⟨q,hq⟩;exact pQ I (by rw[e];exact Qm) L G (mz (OV (Dc Xd k) z) B (c.drop k) f)
theorem Ix{r:ay}(I:Inv X Xb Z H s)(e:H a=ap (.dK Xd))(f:RelV (kV k) u)(l:dU Xd k=cm)(h:∀s',Inv X Xb Z H s'->Q r s'):
  eH (ff X.prog X.w) A (call (.builtin "dict.pop") [.ref a,u,r]) Q E s:=by
 obtain⟨z,v,g,c,j⟩:=BJ I.hok e;have m:V5 g k=none:=jq (by rw[<- l];exact c.val k)
 have p:(keyPart u).isSome=true:=by
  cases k with
  |inl i=>obtain⟨t,q⟩:=(show ∃t,u=QA i t from f);subst q;rfl
  |inr x=>obtain⟨t,q⟩:=(show ∃t,u=R0 x t from f);subst q;rfl
 exact call_meetsIn Q9 j.typeIs TY (TL _ _ _) (meets_dict_pop_default (aV X.prog X.w) a (je f) v p r) ⟨g,j,m,h _<|I.tok _⟩
theorem MX(I:Inv X Xb Z H s)(e:Rd H a (.dK Xd))(h:∀t s',Inv X Xb Z H s'->Q (.int Xd.length t) s'):eH (ff X.prog X.w) A (call (.builtin "len") [.ref a]) Q E s:=by
 obtain⟨z,g,i,c,f⟩:=jf I.hok e;refine call_len_dict g f (by rw[<- c.length];rw[Wu]at z;lia) ?_
 rw[<- c.length];exact h _ _ (I.tok _)
end
theorem sS{y:V}{o:Option V}(I:Inv X Xb Z H s)(g:DGet H a y o):s.TypeIs (.ref a) "dict":=by
 rcases g with⟨c,k,e,_,_⟩|⟨c,k,b,e,_,_,_⟩
 .obtain⟨_,_,h,_,f⟩:=jf I.hok e
  exact f.typeIs
 .obtain⟨_,_,xs,_,f⟩:=pB I.hok e
  exact f.typeIs
section
variable{i value:fy}{pos' tpos:Pos}{td ty tv:TE}
end
section
end
structure M1(X:Cx)(o:fy)(m:Str)(Xg:Pos)(e:fy)(Xf:Pos):Prop where
 base:nr o m X.env (gp o X.env)=gp o X.env
 few:((hI Xf<|starEach [e] X.env).all (λx=>!x.1)&&(z5 Xf<|keywordEach [] X.env).all (λx=>x.1.isSome)
  && decide (([e]:Xn).length+([]:List z0).length+(if ([]:List z0).isEmpty then 0 else 1)<30))=true
 line:(Xg.endLine==Xf.line)=true
 trees:hI Xf (fe [e] X.env)=[(eC,gp e X.env)]
structure M2(X:Cx)(o:fy)(m:Str)(Xg:Pos)(e f:fy)(Xf:Pos):Prop where
 base:nr o m X.env (gp o X.env)=gp o X.env
 few:((hI Xf<|starEach [e,f] X.env).all (λx=>!x.1)&&(z5 Xf<|keywordEach [] X.env).all (λx=>x.1.isSome)
  && decide (([e,f]:Xn).length+([]:List z0).length+(if ([]:List z0).isEmpty then 0 else 1)<30))=true
 line:(Xg.endLine==Xf.line)=true
 trees:hI Xf (fe [e,f] X.env)=[(eC,gp e X.env),(eC,gp f X.env)]
def IsD(H:Hp)(a:eg):Prop:=(∃Xd,Rd H a (.dK Xd))\/∃Xd,Rd H a (.dT Xd)
theorem Ap(I:Inv X Xb Z H s)(d:IsD H a):
  s.TypeIs (.ref a) "dict"/\(∀b,OY a=.ref b->∃c,s.heap.get? b=ap c/\c.dict=cm)/\(a==PP)=false:=by
 rcases d with⟨h,e⟩|⟨h,e⟩
 .obtain⟨_,j,m,_,f⟩:=jf I.hok e
  refine⟨f.typeIs,λb q=>?_,j⟩;cases q;obtain⟨c,_,_,g,i,_⟩:=f;exact⟨c,g,i.2.1⟩
 .obtain⟨_,j,xs,_,f⟩:=pB I.hok e
  refine⟨f.typeIs,λb q=>?_,j⟩;cases q;obtain⟨c,_,_,g,i,_⟩:=f;exact⟨c,g,i.2.1⟩
section
variable{y d:V}{r:ay}{o:Option V}
end
def Kg(td ty:TE):TE:=λZ H Q=>td Z H λx H1=>∃a,x=.ref a/\IsD H1 a/\ty Z H1 λy H2=>∃Xd k v,H2 a=ap (.dK Xd)/\y=kV k/\dU Xd k=ap v/\Q v (upd H2 a<|.dK<|g_ Xd k)
def Ku(td ty tx:TE):TE:=λZ H Q=>td Z H λx H1=>∃a,x=.ref a/\IsD H1 a/\ty Z H1 λy H2=>tx Z H2 λz H3=>∃Xd k,H3 a=ap (.dK Xd)/\y=kV k/\
 (∀v,dU Xd k=ap v->Q v (upd H3 a<|.dK<|g_ Xd k))/\(dU Xd k=cm->Q z H3)
section
variable{f:fy}{Xg Xf:Pos}{td ty tx:TE}
theorem BA(K:PE X o td)(L:PE X e ty)(m:M1 X o "pop" Xg e Xf):PE X (.Call (.Attribute o "pop" Xg) [e] [] Xf) (Kg td ty):=by
 intro Xb s Z H Q I h;refine wpAny_Call_method m.base m.few m.line TK Q9 T8 (bq (K Xb s Z H _ I h) λu j ⟨x,H1,I1,i,a,p,d,q⟩=>?_);subst p;obtain rfl:u=OY a:=i;obtain⟨B,C,_⟩:=Ap I1 d;refine⟨B,C,?_⟩;rw[m.trees];refine Qx rfl (QL<|Qw (bq (L Xb j Z H1 _ I1 q) λM R ⟨y,H2,I2,g,G,k,v,J,F,l,z⟩=>Q8 ?_));subst F;exact HZ I2 J g l (.inl rfl) λO N I3 c=>⟨v,_,I3,c,z⟩
theorem Dd(T:PE X o td)(W:PE X e ty)(U:PE X f tx)(m:M2 X o "pop" Xg e f Xf):PE X (.Call (.Attribute o "pop" Xg) [e,f] [] Xf) (Ku td ty tx):=by
 intro Xb s Z H Q I h;refine wpAny_Call_method m.base m.few m.line TK Q9 T8 (bq (T Xb s Z H _ I h) λu p ⟨x,H1,I1,K,a,N,d,B⟩=>?_);subst N;obtain rfl:u=OY a:=K;obtain⟨R,F,_⟩:=Ap I1 d;refine⟨R,F,?_⟩;rw[m.trees];refine Qx rfl (QL<|Qw (bq (W Xb p Z H1 _ I1 B) λY L ⟨y,H2,I2,i,C⟩=>
  Qw (bq (U Xb L Z H2 _ I2 C) λO s3 ⟨z,H3,I3,S,g,k,j,G,M,J⟩=>Q8 ?_)))
 subst G;cases l:dU g k with
 |some v=>exact HZ I3 j i l (.inr ⟨O,rfl⟩) λw' q I4 c=>⟨v,_,I4,c,M v l⟩
 |none=>exact Ix I3 j i l λq I4=>⟨z,H3,I4,S,J l⟩
end
section
variable{Xd:List (aG×V)}
theorem D4(I:Inv X Xb Z H s)(e:Rd H a (.dK Xd))(h:∀p s',H p=cm->Inv X Xb Z (upd H p<|.dK Xd) s'->Q (.ref p) s'):eH (ff X.prog X.w) A (call (.type "dict") [.ref a]) Q E s:=by
 obtain⟨z,i,v,c,j⟩:=jf I.hok e;refine kt_call_dict i j (by rw[<- c.length];exact z) λx f m=>?_
 refine h _ _ (I.hok.fresh<|OB _) (I.laid (a:=s.heap.objs.size) (o:=.dK Xd) (t':=s.toks) (λb q g=>?_) (OB _)<|mz z (beq_eq_false_iff_ne.mpr<|Pa<|OP I.big) c f);exact(m.2 b<|OP<|OD g).trans (Ow _ g)
end
section
variable{y:V}
end
end _2
namespace Att
open PySem PySem.W PySem.Calls PyProof.Rows
theorem km{P:Params}{h:hG}:∀(c:Xj)(vs:Xl),WellAll P h vs (c.map WData.int)->W0 vs c:=by
 intro c
 induction c with
 |nil=>
  intro vs w;rw[OZ]at w;cases w;exact .nil
 |cons n c ih=>
  intro vs w;rw[Oy]at w;cases w with
  |cons a b=>
   cases a;exact .cons _ _ (ih _ b)
theorem zq{l:OpenLaw}{n:Nat}(w:l.most=ap n){P:Params}{h:hG}{args:List WData}{c:Xl}
  (e:l.row.toRowW.claim.pre args=true) (m:WellAll P h c args):
  ∃a vs b,c=[OY a]/\args=[WData.list (b.map WData.int)]/\h.get? a=ap { cls:=.type "list",data:=.seq vs.toArray }/\W0 vs b/\b.length<=n:=by
 have j:WShape.hasAll [] args [.list .int]=true:=(pre_splitW e).1;have o:l.pre.holds [] { args:=args }=true:=(pre_splitW e).2;obtain⟨d,r,rfl,s,u⟩:=hasAllW_cons j;obtain rfl:=hasAllW_nil u;obtain⟨x,rfl,v⟩:=hasW_list s;obtain⟨b,rfl⟩:=items_int v;have f:b.length<=n:=by
  unfold OpenLaw.pre at o;have g:(WTm.not<|.lt (.lit<|.int (n:Int))<|.len<|.arg 0).holds [] { args:=[.list (b.map .int)] }=true:=by
   have g:=(holds_andW o).1;rw[w]at g;exact g
  have i:=condW_of g (w_not<|w_lt w_lit<|w_len_list<|w_arg rfl);rw[Ox]at i;refine Nat.le_of_not_lt λq=>?_;have p:(n:Int)<((b.length:Nat):Int):=by lia
  first
   |(rw[decide_eq_true p]at i;exact absurd i (by decide))
   |(simp at i;lia)
 cases m with
 |cons w1 w2=>
  cases w2;cases w1 with
  |list ho hall=>exact⟨_,_,b,rfl,rfl,ho,km b _ hall,f⟩
theorem A7(l:OpenLaw)(args:List WData):l.row.toRowW.claim.post args (.bool true) args=true:=
 postW_of (r:=l.row.toRowW) (X:=(true==true))
  (show WShape.has [] (.bool true) .bool=true by first|rfl|decide|simp[WShape.has,WShape.arms,WShape.armsAll])
  (show (WTm.eq .res<|.lit<|.bool true).value [] { args:=args,res:=ap (.bool true),after:=args }=ap (.bool (true==true)) from w_eq_bool (w_res rfl) w_lit) rfl
theorem tW{l:OpenLaw}{n:Nat}{q:fx}{loose:Xk}{XP:(Str->Option ay)->hG->Prop}{YP:g3->hG->Prop}{d:DefRec}
  (T:l.most=ap n) (B:d.params.defaults=[])
  (call:∀(w:g3)(c b:el)(s z:Xr)(fa:eg)(o:Obj)(A p g:ay)(a:eg)(vs:Xl)(u:Xj),
   Ground q loose [] XP w c s z b.heap->YP w b.heap->
   b.heap.get? fa=ap o->o.data=.func (docDef d.name d.params d.body d.scope A p g)->b.heap.CodeRec p d.name->s d.name=ap (.ref fa)->
   b.heap.get? a=ap { cls:=.type "list",data:=.seq vs.toArray }->W0 vs u->u.length<=n->b.gens=#[]->
   Sc (ff l.prog w) Wp (.call (.ref fa) ⟨[.ref a],[]⟩) (λr m=>r=.ok (.ret<|.bool true)/\OldK b.heap m.heap/\m.os=b.os/\VZ m.gens) b):
  WalkO q loose XP YP l.row.toRowW d [] (λf vs=>UQ f vs):=by
 intro w c b s z G Y fa o A p g J kV M L v E y K C H U h F N x I;obtain rfl:J=.none:=Dflts.none E B;obtain rfl:kV=.none:=Dflts.noKw E;obtain⟨a,vs,u,rfl,rfl,i,e,j⟩:=zq T h x;refine enter_call (SZ (call w c b s z fa o A p g a vs u G Y M (fd_plain L) v y i e j K) λr m O=>?_);obtain⟨rfl,R,P,Q⟩:=O;exact⟨.inl ⟨.bool true,.bool true,[],rfl,λ_=>rfl,.bool true,A7 l _,λ_=>⟨List.Pairwise.nil,λ_ S=>(nomatch S)⟩⟩,R,P,Q⟩
section
variable {prog:fx}{w:g3}{A:i5}{E:Xp}{s:el}{K:Frag}
end
end Att
namespace _2
open PySem PySem.Spec PyProof.Rows
variable{T a i1 i2 it l1 l2 z:eg}{A:i5}{items xs ys:Xs}{b b1 b2 f1:Bool}{X:Cx}{h h':hG}{H:Hp}{Xb:Xq}{fp:Xm}{i k1 k2 t':Nat}{K:OA}{oT:Obj}{pos:Pos}{P prog:fx}{scope:Pi}{s:el}{Z:St}{x y:ay}{E Q:Xp}{w:g3}
theorem ow:∀{vs:Xl}{c:Xj},W0 vs c->Vals (c.map V.int) vs
 |_,_,.nil=>.nil
 |_,_,.cons n t h=>.cons ⟨t,rfl⟩ (ow h)
def AO(H:Hp):Prop:=∀b,H b=cm\/∃o xs,H b=ap (.frz o<|.lst xs)
theorem Cg{S mb:Xr}{CX:oA}{k:Nat}{fa:eg}{fd:g4}{x:Str}{sp:Sp}{c:el}{vs:Xl}{ns:Xj}(KX:K.In c.heap)(O:c.heap.Ns fv S)(g:c.heap.Ns WC mb)(hbb:∀x:Str,x≠"__name__"->mb x=gl x)(R:c.heap.NoLimit)(hg:c.gens=#[])(U:c.heap.get? a=ap { cls:=.type "list",data:=.seq vs.toArray })(hi:W0 vs ns)(hl:ns.length<=sizeLine)(hr:Room k Wp)(F:∀base:hG,K.In base->base.Ns fv S->FnOk P w K S base CX k fa fd [x] sp)(hbind:∀(s:el)(u:ay),Wx s fd ⟨[u],[]⟩ [(x,u)])(hsp:∀H:Hp,AO H->SqL K H a (ns.map V.int)->sp [.ref a] H (λv _=>v=.bl true) λ_ _ _=>False)(hCX:∀H e j,CX [] H c (λ_ _ _=>False) e j->False):
  Sc (ff P w) Wp (.call (.ref fa) ⟨[.ref a],[]⟩) (λr j=>r=.ok (.ret<|.bool true)/\OldK c.heap j.heap/\j.os=c.os/\VZ j.gens) c:=by
 have rv:=ow hi;have N:=hi.length
 -- from an abstract heap in which nothing but the script may be tracked
 have p:∀H:Hp,AO H->SqL K H a (ns.map V.int)->HOk P w H c.heap->(∀b,H b≠cm->b=a)->(H a≠cm->K.lookup a=cm)->
   Sc (ff P w) Wp (.call (.ref fa) ⟨[.ref a],[]⟩) (λr j=>r=.ok (.ret<|.bool true)/\OldK c.heap j.heap/\j.os=c.os/\VZ j.gens) c:=by
  intro H hO hS G hA hK;have f:∀{b:eg}{o:Obj},c.heap.get? b=ap o->H b=cm->(ql c.heap H).get? b=ap o:=λe n=>CD e n;have Y:∀{b:eg}{o:Obj}{C:Array WR}{B:Nat},c.heap.get? b=ap o->o.data=.dict C B->H b=none:=λ{b o C B} e d=>by
   cases q:H b with
   |none=>rfl
   |some u=>
    have e':b=a:=hA b (by rw[q];simp)
    subst e';rw[U]at e;cases e;have d':Data.seq vs.toArray _=Data.dict C B:=d;cases d'
  have nsK:∀{b:eg}{m:Xr},c.heap.Ns b m->(ql c.heap H).Ns b m:=λ{b m} ⟨o,C,B,e,d,r⟩=>⟨o,C,B,f e (Y e d),d,r⟩;have I:K.In (ql c.heap H):=λb o e=>f (KX b o e) (by
   cases q:H b with
   |none=>rfl
   |some u=>
    have e':b=a:=hA b (by rw[q];simp)
    subst e';rw[hK (by rw[q];simp)]at e;cases e)
  have hM:Mod K S (ql c.heap H):=⟨I,nsK O,⟨mb,nsK g,hbb⟩,let ⟨mc,h1,h2⟩:=R;⟨mc,nsK h1,h2⟩⟩;have e0:Env0 P w K S (ql c.heap H) Wp [] c H:=⟨rfl,hM,λb o e=>EI e,S5 (zT _ _),trivial,λb g=>absurd (show b∈([]:Xm) from g) (by simp),G,.of_eq hg⟩
  refine SZ ((F _ I<|nsK O).run Wp [] c H ⟨[.ref a],[]⟩ [.ref a] [.ref a] _ _ hr e0 (hbind c<|.ref a) (.cons rfl .nil)<|hsp H hO hS) λr j h=>?_;cases r with
  |error e=>exact(hCX H e j h).elim
  |ok fl=>
   cases fl with
   |next=>exact PX h
   |brk=>exact PX h
   |cont=>exact PX h
   |ret u=>
    obtain⟨v,H',os,L,un,M,r',q⟩:=h;have q':v=.bl true:=q;subst q';obtain rfl:u=QK true:=r';refine⟨rfl,OldK.of_keep λb o e=>?_,os,L⟩;cases q:H b with
    |none=>exact un.keep b o e q (by intro z;exact absurd (show b∈([]:Xm) from z) (by simp)) (by simp)
    |some u=>
     rcases hO b with z|⟨ob,xs,z⟩
     .rw[q]at z;cases z
     .have z2:=un.frzs b ob _ z
      obtain⟨e1,_⟩:=G b _ z;obtain⟨e2,_⟩:=M b _ z2;rw[e]at e1;cases e1;exact e2
 cases W:K.lookup a with
 |some o=>
  -- the script is one of the module's own objects
  have e:=KX a o W;rw[U]at e;cases e;refine p (λ_=>cm) (λ_=>.inl rfl) (.inr ⟨_,vs.toArray,_,W,rfl,rfl,rfl,by rw[OG,N];exact hl,by simpa using rv⟩) (λb u z=>by have J:(none:Option HO)=ap u:=z;cases J) (λb z=>absurd rfl z) λz=>absurd rfl z
 |none=>
  refine p (λb=>if b=a then ap (.frz { cls:=.type "list",data:=.seq vs.toArray }<|.lst<|ns.map V.int) else cm) (λb=>?_) (.inl<|.inr ⟨{ cls:=.type "list",data:=.seq vs.toArray },if_pos rfl⟩) (λb u z=>?_) (λb z=>?_) λ_=>W
  .by_cases g:b=a
   .exact .inr ⟨_,_,if_pos g⟩
   .exact .inl (if_neg g)
  .by_cases g:b=a
   .have J:=(if_pos g).symm.trans z
    cases J;subst g;exact⟨U,by rw[Ox];exact hl,vs,_,rv,U⟩
   .have J:=(if_neg g).symm.trans z
    cases J
  .by_cases g:b=a
   .exact g
   .exact absurd (if_neg g) z
theorem Eo{l:W.OpenLaw}{n k:Nat}{q:fx}{loose:Xk}{XP:(Str->Option ay)->hG->Prop}{YP:g3->hG->Prop}{d:DefRec}{K:Params->OA}{CX:g3->oA}{sp:g3->Sp}{x:Str}(hn:l.most=ap n)(L:n<=sizeLine)(M:d.params.defaults=[])(hr:Room k Wp)(hY:∀(w:g3)(h:hG),YP w h->(K w.params).In h)(F:∀(w:g3)(p:Xr)(fa:eg)(h:hG),(K w.params).In h->h.Ns fv p->p d.name=ap (.ref fa)->
   ∃fd:g4,(∀(s:el)(u:ay),Wx s fd ⟨[u],[]⟩ [(x,u)])/\
    ∀c:hG,(K w.params).In c->c.Ns fv p->FnOk l.prog w (K w.params) p c (CX w) k fa fd [x] (sp w))(O:∀(w:g3)(H:Hp)(a:eg)(I:Xj),I.length<=n->AO H->SqL (K w.params) H a (I.map V.int)->sp w [.ref a] H (λv _=>v=.bl true) λ_ _ _=>False)(N:∀(w:g3)(H:Hp)(s:el)(e:ay)(s':el),CX w [] H s (λ_ _ _=>False) e s'->False):
  W.WalkO q loose XP YP l.row.toRowW d [] (λf vs=>UQ f vs):=by
 refine Att.tW hn M λw R C p mb fa o pm cd doc a vs I G Y ho hd hcd J B m j hg=>?_;have KX:=hY w _ Y;obtain⟨fd,U,S⟩:=F w p fa _ KX G.T.g J;exact Cg KX G.T.g G.T.b G.T.builtins G.T.nolimit hg B m (OV j L) hr S U (λH hO hS=>O w H a I j hO hS) λH e s'=>N w H C e s'
def dZ(s:tm)(j:Nat):Stmt:=match s with
 |.ClassDef _ _ _ body _ _ _ _ _ _ _=>body.getD j (.Pass ⟨0,0,0,0⟩)
 |_=>.Pass ⟨0,0,0,0⟩
def cb(s:tm):Arguments:=match s with
 |.FunctionDef _ a _ _ _ _ _ _ _ _=>a
 |_=>{ posonlyargs:=[],args:=[],vararg:=cm,kwonlyargs:=[],kw_defaults:=[],kwarg:=cm,defaults:=[] }
def bv(s:tm):List Stmt:=match s with
 |.FunctionDef _ _ b _ _ _ _ _ _ _=>b
 |_=>[]
def aQ(s:tm):Scope:=match s with
 |.FunctionDef _ _ _ _ _ _ sc _ _ _=>sc
 |_=>{ kind:=.function,names:=[],isGenerator:=eC,isCoroutine:=eC }
abbrev CX0:oA:=λ_ _ _ _ _ _=>False
abbrev E0:XK:=λ_ _ _=>False
structure Fun(K:OA)(x Xc:Str)(st:tm)(f:eg)(fd:g4):Prop where
 ex:∃(oc:ay)(od:Option eg)(kV doc pm:ay)(an:Option eg)(cdv ct:ay)(osl:Array (Option ay)),
  fd=Rt x Xc (cb st) (bv st) (aQ st) .none kV doc pm an cdv ct/\K.lookup f=ap ⟨oc,od,.func fd,osl⟩/\Td K cdv Xc=true
 kp:P8 K (.ref f)=true
section
variable{mg:Xr}{base:hG}
theorem Fun.binds{x c:Str}{j:tm}{f:eg}{fd:g4}{ps:Xk}(F:Fun K x c j f fd)(h:∀(kV e n:ay)(m:Option eg)(g o:ay)(us:Xl),us.length=ps.length->WD (Rt x c (cb j) (bv j) (aQ j) .none kV e n m g o) ⟨us,[]⟩=pure (ps.zip us)):Binds K fd ps []:=by
 obtain⟨v,u,kV,e,n,m,g,o,q,rfl,lk,p⟩:=F.ex;exact .all (h kV e n m g o)
theorem wx{x e:Str}{m:tm}{f:eg}{v:ay}{u o:Option eg}{n:Array (Option ay)}{kV j p g q:ay}(l:K.lookup f=ap ⟨v,u,.func (Rt x e (cb m) (bv m) (aQ m) .none kV j p o g q),n⟩)(c:Td K g e=true)(k:P8 K (.ref f)=true):Fun K x e m f (Rt x e (cb m) (bv m) (aQ m) .none kV j p o g q):=⟨⟨v,u,kV,j,p,o,g,q,n,rfl,l,c⟩,k⟩
end
theorem pv{k:Nat}(c:Room k A):A.units+1<cLine:=RS (Nat.add_le_add_left (by decide:1<=64) _) c.units
section
theorem zh:bN X (.builtin "len") (λxs H Q=>∃a c,xs=[V.ref a]/\H a=ap (.dK c)/\Q (.int c.length) H):=by
 intro Xb s Z H xs g Q I r h;obtain⟨a,c,rfl,e,q⟩:=h;obtain⟨u,rfl,f⟩:=iU r;cases f;exact MX I (.inl e) λt j I'=>⟨.int c.length,H,I',⟨t,rfl⟩,q⟩
end
section
variable{κ:Type}[DecidableEq κ]
end
section
variable{R:WG->el->Prop}
theorem iH{p e j:fy}{o:Xn}{it Xe:ay}{env:Env}(I:Nat->el->Prop)(F:∀n s,I n s->eH (ff prog w) A (P3 it) (λr s₁=>match r with
   |none=>R (.ok .next) s₁
   |some v=>eH (ff prog w) A (Wa e it v) (λ_ s₂=>eH (ff prog w) A (We e env v) (λ_ s₃=>
     eH (ff prog w) A (forIn o true λc r=>if r=true then do let ok <- WW c env (gp c env);pure (RZ ok) else pure (RZ r)) (λok s₄=>
      if ok=true then eH (ff prog w) A (gp p env) (λx s₅=>
       eH (ff prog w) A (call (.builtin "list.append") [Xe,x]) (λ_ s₆=>∃m,m<n/\I m s₆) (λ_ _=>False) s₅) (λ_ _=>False) s₄
      else ∃m,m<n/\I m s₄) (λ_ _=>False) s₃) (λ_ _=>False) s₂) (λ_ _=>False) s₁) (λ_ _=>False) s)(n:Nat)(h:I n s):
  Sc (ff prog w) A (.compLoop (.ListComp p [⟨e,j,o,0⟩] scope pos) 0 it Xe env) R s:=by
 refine codeAny_loop rfl I (λn s G=>?_) n h;show eH _ A ((compTurn (.ListComp p [⟨e,j,o,0⟩] scope pos) 0 it Xe env).onRaise λx=>do noteFrame x env;theTreesLotGoes x) _ _ s
 refine wpAny_noted ?_;rw[compTurn_list];refine ax (Tl<|wpAny_bind (mu (F n s G) (λr s₁ g=>?_) λ_ _ z=>z.elim));cases r with
 |none=>exact eX g
 |some v=>
  refine ax (mu g (λ_ s₂ u=>ax (mu u (λ_ s₃ C=>ax (mu C (λok s₄ f=>?_) λ_ _ z=>z.elim)) λ_ _ z=>z.elim)) λ_ _ z=>z.elim);cases ok with
  |false=>exact eX ⟨rfl,f⟩
  |true=>
   exact ax (ax (mu f (λx s₅ q=>ax (mu q (λ_ s₆ B=>eX (eX ⟨rfl,B⟩)) λ_ _ z=>z.elim)) λ_ _ z=>z.elim))
end
def ba(X:Cx)(N:Xk)(scope:Pi)(cl:List (Str×eg))(C:eg)(s₀:el)(H₀:Hp)(fp:Xm)(pl:Xq):Cx where
 prog:=X.prog
 w:=X.w
 K:=X.K
 mg:=X.mg
 base:=X.base
 A:=X.A
 N:=N
 s₀:=s₀
 H₀:=H₀
 env:=compEnvC scope cl C X.env
 outer:=X.stack
 stack:=X.stack
 ex:=fp
 fn:=λ_=>eC
 calm:=X.calm
 pn:=X.pn++pl
 xe:=λ_ _=>False
inductive Frees(X:Cx)(scope:Pi):List Str->List Nat->Prop where
 |nil:Frees X scope [] []
 |cons {x:Str} {j:Nat} {xs:Xk} {js:List Nat}:X.N[j]?=ap x->(X.env.kindOf x=ap .cell\/X.env.kindOf x=ap .free)->
   ((SL scope X.env).names.lookup x=ap .cell\/(SL scope X.env).names.lookup x=ap .free)->Frees X scope xs js->Frees X scope (x::xs) (j::js)
theorem Frees.length{X:Cx}{scope:Pi}:∀{xs:Xk}{c:List Nat},Frees X scope xs c->xs.length=c.length
 |_,_,.nil=>rfl
 |_,_,.cons _ _ _ t=>congrArg (·+1) t.length
theorem Frees.get{X:Cx}{scope:Pi}:∀{xs:Xk}{e:List Nat},Frees X scope xs e->∀{i:Nat}{x:Str},xs[i]?=ap x->∃j,e[i]?=ap j/\X.N[j]?=ap x/\(X.env.kindOf x=ap .cell\/X.env.kindOf x=ap .free)/\
   ((SL scope X.env).names.lookup x=ap .cell\/(SL scope X.env).names.lookup x=ap .free)
 |_,_,.nil,i,x,h=>by simp at h
 |_,_,.cons a b c _,0,x,h=>by simp at h;subst h;exact⟨_,rfl,a,b,c⟩
 |_,_,.cons _ _ _ t,i+1,x,h=>by
  obtain⟨j,g,f⟩:=t.get (i:=i) (x:=x) (by simpa using h)
  exact⟨j,by simpa using g,f⟩
def bL(ls:Xk)(js:List Nat)(Z:St):St:=ls.map (λ_=>cm)++js.map λj=>(Z[j]?).join
structure CompOk(X:Cx)(scope:Pi)(cl:List (Str×eg))(ls fs:Xk)(js:List Nat):Prop where
 kind:scope.kind=.function
 nocell:∀y∈scope.names,y.2≠.cell
 locs:∀x∈scope.names,x.2=.local->scope.names.lookup x.1=ap .local
 clos:Tk scope X.env=pure cl
 cells:∀x c,cl.lookup x=ap c->X.env.cells.lookup x=ap c
 has:∀x,((SL scope X.env).names.lookup x=ap .cell\/(SL scope X.env).names.lookup x=ap .free)->∃c,cl.lookup x=ap c
 frees:Frees X scope fs js
theorem CY{cl:List (Str×eg)}{ls fs:Xk}{F:List Nat}{g:hG}{m:Xr}{t':Nat}(I:Inv X Xb Z H s)(co:CompOk X scope cl ls fs F)(C:∀b∈fp,gs X Xb H b/\b<s.heap.objs.size)(hns:g.Ns s.heap.objs.size m)(G:∀b o,s.heap.get? b=ap o->g.get? b=ap o):
  Inv (ba X (ls++fs) scope cl s.heap.objs.size s H fp Xb) [] (bL ls F Z) H { s with heap:=g,toks:=t' }:=by
 have lk:∀b o,s.heap.get? b=ap o->b≠s.heap.objs.size:=λb o e=>OP (OD e);refine⟨⟨I.ok.mod,co.kind,I.ok.glob,I.ok.blt,OB _,λx y c N L=>?_,λx Y=>co.has x Y,λx c h _=>absurd (show eC=true from h) OW,I.ok.hd,I.ok.frames,.inl rfl,λb B=>⟨OP (C b B).2,λx c e=>?_⟩,
   λb o e=>I.bs b o e,OV I.ok.bsz I.sz,λb o e B=>?_,λb B hf=>?_,I.stack,λb B=>I.stkFree b B⟩,
  rfl,I.bare,Un.kept G,⟨m,hns,λi x v N L h3=>?_⟩,λx c e=>?_,I.hok.fresh (OB _),λx c e=>I.freeC x c (co.cells x c e),λp hp=>?_,I.hok.kept G,?_⟩
 .exact I.ok.inj x y c (co.cells x c N) (co.cells y c L)
 .exact(C b B).1.2.2.2.2.1 x c (co.cells x c e)
 .obtain⟨f0,f1,f2,f3,_⟩:=(C b B).1
  rcases f3 with z|z
  .exact I.ok.noex b o e z
  .exact absurd (OF (OD (I.ok.bs b o e).1) z) (Pq _)
 .obtain⟨f0,f1,f2,f3,_⟩:=(C b B).1
  rcases OQ.mp (I.stkSub b hf) with z|z
  .exact f1 z
  .exact f2 z
 .have J:¬i<ls.length:=λJ=>by
   have f:(bL ls F Z)[i]?=ap (ap v):=L;unfold bL at f;rw[PJ (by simpa using J),OO,Oz J]at f
   cases f
  have hN:fs[i-ls.length]?=ap x:=by
   have W:(ls++fs)[i]?=ap x:=N
   rwa [Pj (by lia)]at W
  obtain⟨j,hj,Y,hc,hl⟩:=co.frees.get hN;have O:Z[j]?=ap (ap v):=by
   have f:(bL ls F Z)[i]?=ap (ap v):=L;unfold bL at f;rw[Pj (by simpa using J),Ox,OO,hj]at f
   have q:(Z[j]?).join=ap v:=by simpa using f
   cases e:Z[j]? with
   |none=>rw[e]at q;cases q
   |some o=>rw[e]at q;have q':o=ap v:=q;rw[q']
  obtain⟨mX,_,U⟩:=I.loc;have R:Iw X.env.scope x:=by
   rcases hc with z|z
   .exact .inr (.inl z)
   .exact .inr (.inr z)
  obtain⟨u,ru,lo⟩:=U j x v Y O R;refine⟨u,ru,.inr ⟨hl,?_⟩⟩;obtain⟨c,ec⟩:=co.has x hl;refine⟨c,ec,?_⟩;rcases lo with⟨kl,_⟩|⟨_,c',e',z⟩
  .rcases hc with q|q<;>(rw[q]at kl;cases kl)
  .rw[co.cells x c ec]at e'
   cases e';obtain⟨o,S,hd⟩:=z;exact⟨o,G _ _ S,hd⟩
 .obtain⟨v,o,S,hd⟩:=I.cell x c (co.cells x c e)
  exact⟨v,o,G _ _ S,hd⟩
 .have M:p∈X.pn++Xb:=by
   have q:p∈(X.pn++Xb)++[]:=hp;simpa using q
  obtain⟨e,n,ne,nf,d⟩:=I.pin p M;refine⟨G _ _ e,n,lk _ _ e,λB=>?_,d⟩;rcases OQ.mp (I.stkSub p.1 B) with z|z
  .exact ne z
  .exact nf z
 .show (bL ls F Z).length=(ls++fs).length
  unfold bL;rw[OH,Ox,Ox,OH,co.frees.length]
def FG(X:Cx)(ifs:Xn)(t:TT):Prop:=
 ∀(Xb:Xq)(s:el)(Z:St)(H:Hp)(Q:Bool->Hp->Prop),Inv X Xb Z H s->t Z H Q->
  eH (ff X.prog X.w) X.A (forIn ifs true λc r=>if r=true then do let ok <- WW c X.env (gp c X.env);pure (RZ ok) else pure (RZ r)) (TP X Xb Z Q) X.xe s
def tAll:TT:=λ_ H Q=>Q true H
theorem F5:FG X [] tAll:=λ_ _ _ H _ I h=>wpAny_tests_nil ⟨H,I,h⟩
theorem G0{c:fy}{t:TT}(h:PT X c t):FG X [c] t:=λXb s Z H Q I q=>wpAny_tests_one (h Xb s Z H Q I q)
def xC(wi:TI)(ls:Xk)(js:List Nat)(g:TG)(tt:TT)(te:TE):TE:=λZ H Q=>wi Z H λJ H1=>∀p,H1 p=cm->∃W:Nat->Nat->St->Hp->Prop,(∃m,W 0 m (bL ls js Z) (upd H1 p<|.lst []))/\∀i m σ' H',W i m σ' H'->
 (J.stop i H'/\Q (.ref p) H')\/(J.go i H'/\∃N:St->Hp->Prop,(∀σ2 H2,N σ2 H2->∃m',m'<m/\W (i+1) m' σ2 H2)/\∀x H2,J.yld i H' x H2->g x σ' H2 λe H3=>tt e H3 λc H4=>
  if c=true then te e H4 λy H5=>∃ys,H5 p=ap (.lst ys)/\ys.length<sizeLine/\N e (upd H5 p<|.lst (ys++[y])) else N e H4)
section
variable{tg iter elt:fy}{ifs:Xn}{cl:List (Str×eg)}{ls fs:Xk}{js:List Nat}{wi:TI}{g:TG}{tt:TT}{te:TE}
theorem sf{f:el}{tn:Nat->hG->Prop}{J:It}{H1:Hp}{R:ay->eg->WG->el->Prop}{Q:VK}{E:Xp}(hc:X.calm=true)(co:CompOk X scope cl ls fs js)(hY:∀(C:eg)(s₀:el)(H₀:Hp)(fp:Xm)(pl:Xq),PG (ba X (ls++fs) scope cl C s₀ H₀ fp pl) tg g/\FG (ba X (ls++fs) scope cl C s₀ H₀ fp pl) ifs tt/\PE (ba X (ls++fs) scope cl C s₀ H₀ fp pl) elt te)(I:Inv X Xb Z H1 f)(T:Turn X.prog X.w X.K tg J fp it tn)(st:tn 0 f.heap)(hf:∀b∈fp,gs X Xb H1 b)(q:∀p,H1 p=cm->∃W:Nat->Nat->St->Hp->Prop,(∃m,W 0 m (bL ls js Z) (upd H1 p<|.lst []))/\∀i m F H',W i m F H'->
   (J.stop i H'/\Q (.ref p) H')\/(J.go i H'/\∃N:St->Hp->Prop,(∀σ2 H2,N σ2 H2->∃m',m'<m/\W (i+1) m' σ2 H2)/\∀x H2,J.yld i H' x H2->g x F H2 λσ3 H3=>tt σ3 H3 λc H4=>
    if c=true then te σ3 H4 λy H5=>∃ys,H5 p=ap (.lst ys)/\ys.length<sizeLine/\N σ3 (upd H5 p<|.lst (ys++[y])) else N σ3 H4))(hR:∀(p C:eg)(H':Hp)(s':el)(m:Xr),s'.heap.Ns C m->Inv X Xb Z H' s'->H' C=cm->C≠X.env.locals->X.s₀.heap.objs.size<=C->(∀x c,X.env.cells.lookup x=ap c->c≠C)->(∀pp∈X.pn++Xb,pp.1≠C)->Q (.ref p) H'->R (.ref p) C (.ok .next) s'):
  eH (ff X.prog X.w) X.A (newList []) (λXe s₃=>eH (ff X.prog X.w) X.A (Wb scope X.env.globals cl [] X.env.qual cm .none<|some X.env) (λcenv s₄=>
   Sc (ff X.prog X.w) X.A (.compStart (.ListComp elt [⟨tg,iter,ifs,0⟩] scope pos) 0 (.ref it) Xe { cenv with scope:=SL scope X.env }) (R Xe cenv.locals) s₄) E s₃) E f:=by
 have hp0:H1 f.heap.objs.size=none:=I.hok.fresh (OB _);obtain⟨W,⟨m0,w0⟩,turn⟩:=q f.heap.objs.size hp0;refine n7 (wpAny_newFunctionEnv co.nocell (by intro y hy;simp at hy) (λB G L=>?_) co.kind)
 dsimp only at G L ⊢;have I3:Inv X Xb Z (upd H1 f.heap.objs.size<|.lst []) { f with heap:=f.heap.push { cls:=.type "list",dict:=cm,data:=.seq ([]:Xl).toArray } }:=
  I.lnew (Xh:=[]) (t':=f.toks) .nil (Qc _)
 generalize hs3:({ f with heap:=f.heap.push { cls:=.type "list",dict:=cm,data:=.seq ([]:Xl).toArray } }:el)=s3 at I3;have U:f.heap.push { cls:=.type "list",dict:=cm,data:=.seq ([]:Xl).toArray }=s3.heap:=by rw[<- hs3]
 rw[U]at G L ⊢;have hsz3:s3.heap.objs.size=f.heap.objs.size+1:=by rw[<- U,Pl]
 have hk3:∀b o,f.heap.get? b=ap o->s3.heap.get? b=ap o:=λb o e=>by rw[<- U];exact Ow _ e
 have hlt:∀b∈fp,b<f.heap.objs.size:=λb j=>by
  obtain⟨o,e,_⟩:=T.obj _ _ st b j;exact OD e
 have hnp:∀b∈fp,upd H1 f.heap.objs.size (.lst []) b=none:=λb j=>by
  rw[aL (OP<|hlt b j)];exact(hf b j).1
 have hf3:∀b∈fp,gs X Xb (upd H1 f.heap.objs.size<|.lst []) b/\b<s3.heap.objs.size:=λb j=>⟨⟨hnp b j,(hf b j).2⟩,by rw[hsz3];exact Rg (hlt b j)⟩
 have hk4:∀b o,s3.heap.get? b=ap o->B.get? b=ap o:=λb o e=>L.extBut b o (OP<|OD e) (Ow _ e);have st4:tn 0 B:=T.keep _ _ _ st λb j o e=>hk4 b o (hk3 b o e);have I4:=CY (t':=s3.toks) I3 co hf3 G hk4;obtain⟨hg,ht,he⟩:=hY s3.heap.objs.size s3 (upd H1 f.heap.objs.size<|.lst []) fp Xb;have O:∀{H':Hp},(∀b∈fp,H' b=cm)->∀b∈fp,gs (ba X (ls++fs) scope cl s3.heap.objs.size s3 (upd H1 f.heap.objs.size<|.lst []) fp Xb) [] H' b:=λ{H'} hn b j=>by
  obtain⟨f0,f1,f2,f3,f4,f5⟩:=hf b j;refine⟨hn b j,OP (hf3 b j).2,λz=>?_,.inl j,λx c e=>f4 x c (co.cells x c e),λpp hp=>f5 pp ?_⟩
  .rcases OQ.mp (I3.stkSub b z) with y|y
   .exact f1 y
   .exact f2 y
  .have q:pp∈(X.pn++Xb)++[]:=hp
   simpa using q
 have loop:∀s₄:el,s₄={ s3 with heap:=B,toks:=s3.toks }->
   Sc (ff X.prog X.w) X.A (.compLoop (.ListComp elt [⟨tg,iter,ifs,0⟩] scope pos) 0 (.ref it) (.ref f.heap.objs.size)<|compEnvC scope cl s3.heap.objs.size X.env) (R (.ref f.heap.objs.size) s3.heap.objs.size) s₄:=by
  rintro s₄ rfl
  refine iH (λn s'=>∃i F H',Inv (ba X (ls++fs) scope cl s3.heap.objs.size s3 (upd H1 f.heap.objs.size<|.lst []) fp Xb) [] F H' s'/\tn i s'.heap/\(∀b∈fp,H' b=cm)/\W i n F H') ?_ m0 ⟨0,_,_,I4,st4,hnp,w0⟩
  rintro n s5 ⟨i,S,H5,I5,st5,fr5,w5⟩
  rcases turn i n S H5 w5 with⟨stop,qn⟩|⟨go,N,hN,step⟩
  .refine bq (T.done (ba X (ls++fs) scope cl s3.heap.objs.size s3 (upd H1 f.heap.objs.size<|.lst []) fp Xb) rfl rfl rfl hc i [] s5 S H5 _ I5 (O fr5) st5 stop) λr s6 ⟨hr,I6⟩=>?_
   subst hr;obtain⟨m6,hn6,_⟩:=I6.loc;have IX:Inv X Xb Z H5 s6:=I3.call' I6.os I6.base I6.hok I6.bare λb j=>⟨(hf b j).2.2.2.1,(hf b j).2.1,(hf b j).2.2.2.2.1,(hf b j).2.2.2.2.2⟩;refine hR _ _ H5 s6 m6 hn6 IX I6.free (Qk I3.lt) I3.sz (λx c e z=>?_) (λpp hp z=>?_) qn
   .obtain⟨v,zz⟩:=I3.cell x c e
    have zl:=zz.lt;rw[z]at zl;exact Pq _ zl
   .have zl:=OD (I3.pin pp hp).1
    rw[z]at zl;exact Pq _ zl
  .refine bq (T.item (ba X (ls++fs) scope cl s3.heap.objs.size s3 (upd H1 f.heap.objs.size<|.lst []) fp Xb) rfl rfl rfl hc i [] s5 S H5 _ I5 (O fr5) st5 go) λr s6 ⟨u,hr,h6⟩=>?_
   subst hr;refine bq h6 λ_ s7 ⟨x,H7,I7,r7,y7,Y,fr7⟩=>?_;have I7':=I7.pinned (O fr7) (T.obj _ _ Y);refine bq (hg _ s7 S H7 x u _ I7' r7<|step x H7 y7) λ_ s8 ⟨σ8,H8,I8,q8⟩=>?_
   have again:∀{M:St}{H9:Hp}{s9:el},Inv (ba X (ls++fs) scope cl s3.heap.objs.size s3 (upd H1 f.heap.objs.size<|.lst []) fp Xb) ([]++jQ fp s7.heap) M H9 s9->N M H9->
     ∃m,m<n/\∃i F H',Inv (ba X (ls++fs) scope cl s3.heap.objs.size s3 (upd H1 f.heap.objs.size<|.lst []) fp Xb) [] F H' s9/\tn i s9.heap/\(∀b∈fp,H' b=cm)/\W i m F H':=λ{M H9 s9} I9 n9=>by
    obtain⟨m',hm,w9⟩:=hN M H9 n9;refine⟨m',hm,i+1,M,H9,I9.unpinned,T.keep _ _ _ Y λb j o e=>(I9.pin (b,o)<|Pb _<|Pb _<|cS j e).1,λb j=>?_,w9⟩;obtain⟨o,e,d⟩:=T.obj _ _ Y b j;exact(I9.pin (b,o)<|Pb _<|Pb _<|cS j e).2.1
   refine bq (ht _ s8 σ8 H8 _ I8 q8) λok s9 ⟨H9,I9,q9⟩=>?_;cases ok with
   |false=>exact again I9 q9
   |true=>
    refine bq (he _ s9 σ8 H9 _ I9 q9) λxv s10 ⟨y,H10,I10,r10,ys,hp,hl,n10⟩=>?_;obtain⟨z,Xh,n',r,hl',e⟩:=I10.lstM hp;refine vr RC ⟨_,e,rfl⟩ SJ (Sv _ _) (SH f.heap.objs.size Xh.toArray n' xv<|by rw[OG];lia) ⟨e,?_⟩
    refine again (I10.lset (its':=Xh++[xv]) hp e (by simp) (r.append<|.cons r10 .nil) ?_) n10
    rw[OH,PV];lia
 have se:({ f with heap:=B,toks:=f.toks+([]:List (Str×ay)).length }:el)={ s3 with heap:=B,toks:=s3.toks }:=by rw[<- hs3];rfl
 exact WY (loop _ se) (T.self _ 0 _ _ _ st4<|loop _ se)
theorem Fg(hc:X.calm=true)(co:CompOk X scope cl ls fs js)(hi:PI X tg iter wi)(hY:∀(C:eg)(c:el)(H₀:Hp)(fp:Xm)(pl:Xq),PG (ba X (ls++fs) scope cl C c H₀ fp pl) tg g/\FG (ba X (ls++fs) scope cl C c H₀ fp pl) ifs tt/\PE (ba X (ls++fs) scope cl C c H₀ fp pl) elt te)(hs:∀x,ol iter X.env x=pure x:=by intro _;rfl):PE X (.ListComp elt [⟨tg,iter,ifs,0⟩] scope pos) (xC wi ls js g tt te):=by
 intro Xb s Z H Q I h;rw[eval_ListComp];refine V0 (use:=cm) rfl hs co.clos co.kind co.locs (bq (hi Xb s Z H _ I h) λxv s1 L=>bq L λF s2 Y=>?_);obtain⟨it,fp,tn,J,H2,e,I2,T,n,M,q⟩:=Y;subst e;refine sf (R:=λv C=>compPost (ff X.prog X.w) X.A X.xe cm (EP X Xb Z Q) v C) (Q:=Q) hc co hY I2 T n M q ?_;intro p C H' U m W IX N O u f j S;exact⟨m,W,λh' G=>⟨.ref p,H',IX.turned (t':=U.toks) (λb o B e=>G.extBut b o B e) N O (.inr u) f j,rfl,S⟩⟩
def JZ(i:Nat)(t:TE):TS:=λD Z H=>t Z H λv H1=>D.nx (Z.set i<|some v) H1
theorem FR{x:Str}{n j:Pos}(hN:X.N.Nodup)(hix:X.N[i]?=ap x)(hx:Ah X.env.scope x)(hc:X.calm=true)(co:CompOk X scope cl ls fs js)(hi:PI X tg iter wi)(hY:∀(C:eg)(f:el)(H₀:Hp)(fp:Xm)(pl:Xq),PG (ba X (ls++fs) scope cl C f H₀ fp pl) tg g/\FG (ba X (ls++fs) scope cl C f H₀ fp pl) ifs tt/\PE (ba X (ls++fs) scope cl C f H₀ fp pl) elt te)(Y:wh (.ListComp elt [⟨tg,iter,ifs,0⟩] scope pos) (ap<|.Name x n) j.line X.env=pure true:=by rfl)(hs:∀x,ol iter X.env x=pure x:=by intro _;rfl)(hf:X.fn x=true\/X.env.scope.names.lookup x=ap .local:=by first|exact .inl rfl|exact .inr rfl|assumption):
  PS X (.Assign [.Name x n] (.ListComp elt [⟨tg,iter,ifs,0⟩] scope pos) j) (JZ i<|xC wi ls js g tt te):=by
 intro Xb s Z H D I h;rw[exec_Assign_Name_used _ _ _ _ Y];refine ax (Tl<|wpAny_bind ?_);show eH _ X.A (do let _ <- comprehension (.ListComp elt [⟨tg,iter,ifs,0⟩] scope pos) scope X.env _ (newList []) eC (gp iter X.env) (ap<|assign (.Name x n) X.env)) _ _ s
 refine ax (mu (V0 (use:=ap (We (.Name x n) X.env)) (Q:=λ_ u=>SP X Xb D .next u) rfl hs co.clos co.kind co.locs
  (bq (hi Xb s Z H _ I h) λxv s1 h1=>bq h1 λitv s2 h2=>?_)) (λ_ u U=>eX (eX U)) λ_ _ e=>e)
 obtain⟨it,fp,tn,J,H2,e,I2,T,L,f2,q⟩:=h2;subst e;refine sf (R:=λW C=>compPost (ff X.prog X.w) X.A X.xe (ap<|assign (.Name x n) X.env) (λ_ u=>SP X Xb D .next u) W C) (Q:=λv H1=>D.nx (Z.set i<|some v) H1) hc co hY I2 T L f2 q ?_;intro p C H' u m hn IX hC hL O c B U;show eH _ X.A (We (.Name x n) X.env<|.ref p) _ _ _;refine wpAny_assign_Name (oQ IX hN hix hx (v:=.ref p) rfl (λG I'' F=>?_) hf);obtain⟨a,sb,ha⟩:=F;have M:C≠a:=by
  rcases ha with z|z
  .rw[z];exact hL
  .exact λy=>c x a z y.symm
 refine⟨m,hn.sameBut sb M,λh3 S=>?_⟩;exact⟨_,H',I''.turned (t':=G.toks) (λb o F e=>S.extBut b o F e) hC hL (.inr O) c B,U⟩
end
def SrcTn(b:Bool)(it a:eg)(i:Nat)(h:hG):Prop:=if b=true then h.IsListIter it a i else h.IsTupleIter it a i
def SrcSq(b:Bool)(h:hG)(a:eg)(items:Xs):Prop:=if b=true then h.IsList a items else h.IsTuple a items
theorem SrcTn.lt(x:SrcTn b it a i h):∃o,h.get? it=ap o/\∀v,o.data≠.cell v:=by
 cases b with
 |true=>obtain⟨o,e,c,d⟩:=(show h.IsListIter it a i from x);exact⟨o,e,λv z=>by rw[d]at z;cases z⟩
 |false=>obtain⟨o,e,c,d⟩:=(show h.IsTupleIter it a i from x);exact⟨o,e,λv z=>by rw[d]at z;cases z⟩
theorem SrcTn.keep(x:SrcTn b it a i h)(k:∀o,h.get? it=ap o->h'.get? it=ap o):SrcTn b it a i h':=by
 cases b with
 |true=>obtain⟨o,e,r⟩:=(show h.IsListIter it a i from x);exact(show h'.IsListIter it a i from ⟨o,k o e,r⟩)
 |false=>obtain⟨o,e,r⟩:=(show h.IsTupleIter it a i from x);exact(show h'.IsTupleIter it a i from ⟨o,k o e,r⟩)
theorem SrcSq.keep(x:SrcSq b h a items)(k:∀o,h.get? a=ap o->h'.get? a=ap o):SrcSq b h' a items:=by
 cases b with
 |true=>obtain⟨o,e,r⟩:=(show h.IsList a items from x);exact(show h'.IsList a items from ⟨o,k o e,r⟩)
 |false=>obtain⟨o,e,r⟩:=(show h.IsTuple a items from x);exact(show h'.IsTuple a items from ⟨o,k o e,r⟩)
section
theorem iB{l:eg}(c:s.heap.IsTupleIter it l i)(n:s.heap.IsTuple l items)(p:items[i]?=ap x)(hQ:∀h',h'.IsTupleIter it l (i+1)->Qy it s.heap h'->Q x { s with heap:=h' }):eH (ff prog w) A (Pc<|.ref it) Q E s:=by
 obtain⟨o,f,m,e⟩:=id c;obtain⟨q,j,_,u,g⟩:=n;unfold Pc
 refine ax (wpAny_callSpecial?_slot (name:=PD "__next__") c.typeIs QS
  (kr QS c.typeIs Ua ?_<|TZ _))
 show eH _ _ (VY (.ref it) 0 >>= _) _ _ s;refine ax (g5 f e (x:=.ref l) rfl ?_);show eH _ _ (if (OY l==Qv)=true then _ else _) _ _ s
 rw[if_neg (show ¬((OY l==Qv)=true) from OW)];show eH _ _ (VY (.ref it) 1 >>= _) _ _ s;refine ax (g5 f e (x:=.int i 0) rfl ?_);show eH _ _ (WM (.ref l) >>= _) _ _ s;refine ax (pt j g ?_);simp only[OL,p];refine ax (wpAny_setField f e (by simp)<|wpAny_pure ⟨x,rfl,eX<|hQ _ ?_<|TB ..⟩)
 exact⟨_,UG _ f (Obj.isFreed_of_fields<|Obj.data_mapFields e _),(Obj.cls_mapFields ..).trans m,by
  rw[Obj.data_mapFields e];simp[x9]⟩
theorem jN{l:eg}(p:A.handled=cm)(c:s.heap.IsTupleIter it l i)(v:s.heap.IsTuple l items)(u:items[i]?=cm)(q:∀h' e,Tg it s.heap h'->(∃o,h'.get? e=ap o/\o.cls=.type "StopIteration")->E (.ref e) { s with heap:=h' }):eH (ff prog w) A (Pc<|.ref it) Q E s:=by
 obtain⟨o,f,B,n⟩:=id c;obtain⟨C,j,_,F,g⟩:=v;unfold Pc
 refine ax (wpAny_callSpecial?_slot (name:=PD "__next__") c.typeIs QS
  (kr QS c.typeIs Ua ?_<|TZ _))
 show eH _ _ (VY (.ref it) 0 >>= _) _ _ s;refine ax (g5 f n (x:=.ref l) rfl ?_);show eH _ _ (if (OY l==Qv)=true then _ else _) _ _ s
 rw[if_neg (show ¬((OY l==Qv)=true) from OW)];show eH _ _ (VY (.ref it) 1 >>= _) _ _ s;refine ax (g5 f n (x:=.int i 0) rfl ?_);show eH _ _ (WM (.ref l) >>= _) _ _ s;refine ax (pt j g ?_);simp only[OL,u];refine ax (Ps<|wpAny_bind<|wpAny_setField f n (by simp) ?_)
 show eH _ _ (newExc (.type "StopIteration") [] >>= _) _ _ _;refine ax ?_;simp only[newExc,newTuple];refine ax (n7 ?_<|by size_fits)
 refine ax (m:=Wc _ _) (SB (a:=Qv) (by first|rfl|(simp only[Wc];rfl)) ?_)
 refine n7 ?_ (by size_fits)
 simp only[raiseNew];refine ax (wpAny_handled ?_)
 first|rw[show A.in1.handled=cm from p]|rw[p]
 refine ax (eX<|wpAny_throw ?_);exact q _ _ (((TB ..).extBut.push _).push _) ⟨_,OI _ rfl,rfl⟩
theorem bR{l:eg}(c:SrcTn b it l i s.heap)(e:SrcSq b s.heap l items)(g:items[i]?=ap x)(f:∀h',SrcTn b it l (i+1) h'->Qy it s.heap h'->Q x { s with heap:=h' }):eH (ff prog w) A (Pc<|.ref it) Q E s:=by
 cases b with
 |true=>exact wpAny_nextOf_list_item c e g f
 |false=>exact iB c e g f
theorem dH{l:eg}(g:A.handled=cm)(c:SrcTn b it l i s.heap)(m:SrcSq b s.heap l items)(j:items[i]?=cm)(f:∀h' e,Tg it s.heap h'->(∃o,h'.get? e=ap o/\o.cls=.type "StopIteration")->E (.ref e) { s with heap:=h' }):eH (ff prog w) A (Pc<|.ref it) Q E s:=by
 cases b with
 |true=>exact wpAny_nextOf_list_end g c m j f
 |false=>exact jN g c m j f
def aU(b:Bool):String:=if b=true then "list_iterator" else "tuple_iterator"
theorem dB{l:eg}(e:SrcSq b s.heap l items)(c:Q (.ref s.heap.objs.size) { s with heap:=s.heap.push { cls:=.type (aU b),data:=.fields #[.ref l,.int 0 0] } }):eH (ff prog w) A (pyIter<|.ref l) Q E s:=by
 cases b with
 |true=>exact Wo e c
 |false=>exact wpAny_pyIter_tuple e c
theorem rM{l:eg}(e:h.get? it=ap { cls:=.type (aU b),data:=.fields #[.ref l,.int 0 0] }):SrcTn b it l 0 h:=by
 cases b with
 |true=>exact(show h.IsListIter it l 0 from ⟨_,e,rfl,rfl⟩)
 |false=>exact(show h.IsTupleIter it l 0 from ⟨_,e,rfl,rfl⟩)
structure ZApart(z TI TO i1 i2:eg):Prop where
 TIz:TI≠z
 TOz:TO≠z
 i1z:i1≠z
 i2z:i2≠z
 TITO:TI≠TO
 TIi1:TI≠i1
 TIi2:TI≠i2
 TOi1:TO≠i1
 TOi2:TO≠i2
 i12:i1≠i2
def Il(z TO i1 i2 l:eg):Prop:=l≠z/\l≠TO/\l≠i1/\l≠i2
theorem C8{TI TO:eg}{a b:ay}(D:ZApart z TI TO i1 i2)(O1:Il z TO i1 i2 l1)(O2:Il z TO i1 i2 l2)(hz:Wr s.heap z TI TO .none)(hTI:t3 s.heap TI (.ref i1) (.ref i2))(hTO:t3 s.heap TO a b)(h1:SrcTn b1 i1 l1 k1 s.heap)(h2:SrcTn b2 i2 l2 k2 s.heap)(hl1:SrcSq b1 s.heap l1 xs)(hl2:SrcSq b2 s.heap l2 ys)(hx:xs[k1]?=ap x)(hy:ys[k2]?=ap y)(hQ:∀h',Wr h' z TI TO (x9 s.heap.objs.size)->t3 h' TO x y->SrcTn b1 i1 l1 (k1+1) h'->SrcTn b2 i2 l2 (k2+1) h'->t3 h' s.heap.objs.size x y->h'.objs.size=s.heap.objs.size+1->
   (∀c o,c≠z->c≠TO->c≠i1->c≠i2->s.heap.get? c=ap o->h'.get? c=ap o)->Q (.ref s.heap.objs.size) { s with heap:=h' }):
  eH (ff prog w) A (Builtin.«zip.__next__» ⟨[.ref z],[]⟩) (λfin s'=>∃v,fin=.done (.ret v)/\Q v s') E s:=by
 show eH _ _ (VY (.ref z) 2 >>= _) _ _ _;refine ax (g5 hz rfl (x:=.bool eC) rfl ?_);show eH _ _ (VY (.ref z) 3 >>= _) _ _ _;refine ax (g5 hz rfl (x:=.ref TI) rfl ?_);refine ax (pt hTI rfl ?_);show eH _ _ (Px (.ref z) >>= _) _ _ _;refine ax ?_;unfold Px;refine ax (g5 hz rfl (x:=.none) rfl<|wpAny_pure ?_);simp only[if_true];refine ax (Ps ?_);refine ax (g5 hz rfl (x:=.ref TO) rfl ?_);refine ax (p3 hz (by simp) λh₁ F hs1=>?_)
 replace F:Wr h₁ z TI TO .ellipsis:=F
 refine ax ?_;simp only[Qr,List.zipIdx_nil,Tt,Sr];refine ax (ax<|wpAny_onRaise ?_);show eH _ _ (Pc (.ref i1) >>= _) _ _ _;refine ax (bR (h1.keep λo e=>hs1.extBut _ o D.i1z e) (hl1.keep λo e=>hs1.extBut _ o O1.1 e) hx λU J hs₂=>eX ?_);have C:t3 U TO a b:=hs₂.extBut _ _ D.TOi1 (hs1.extBut _ _ D.TOz hTO);refine ax (pt C rfl ?_);refine ax (W2 C λW n hs₃=>?_)
 replace n:t3 W TO x b:=n
 refine ax (wpAny_letGo<|wpAny_pure ?_);refine ax (ax<|wpAny_onRaise ?_);show eH _ _ (Pc (.ref i2) >>= _) _ _ _
 refine ax (bR (h2.keep λo e=>hs₃.extBut _ o D.TOi2.symm (hs₂.extBut _ o D.i12.symm<|hs1.extBut _ o D.i2z e))
  (hl2.keep λo e=>hs₃.extBut _ o O2.2.1 (hs₂.extBut _ o O2.2.2.1<|hs1.extBut _ o O2.1 e)) hy λS h24 q=>eX ?_)
 have B:t3 S TO x b:=q.extBut _ _ D.TOi2 n;refine ax (pt B rfl ?_);refine ax (W2 B λf m p=>?_)
 replace m:t3 f TO x y:=m
 refine ax (wpAny_letGo<|wpAny_pure<|wpAny_pure ?_);refine ax (pt m rfl ?_);refine ax (Wz ?_);have O:f.objs.size=s.heap.objs.size:=by rw[p.1,q.1,hs₃.1,hs₂.1,hs1.1]
 have hz5:Wr f z TI TO .ellipsis:=p.extBut _ _ D.TOz.symm (q.extBut _ _ D.i2z.symm<|hs₃.extBut _ _ D.TOz.symm<|hs₂.extBut _ _ D.i1z.symm F);have hk5:∀c o,c≠z->c≠TO->c≠i1->c≠i2->s.heap.get? c=ap o->f.get? c=ap o:=λc o G c2 c3 c4 e=>
  p.extBut _ _ c2 (q.extBut _ _ c4<|hs₃.extBut _ _ c2<|hs₂.extBut _ _ c3<|hs1.extBut _ _ G e)
 have h15:SrcTn b1 i1 l1 (k1+1) f:=J.keep λo e=>p.extBut _ o D.TOi1.symm (q.extBut _ o D.i12<|hs₃.extBut _ o D.TOi1.symm e);have h25:SrcTn b2 i2 l2 (k2+1) f:=h24.keep λo e=>p.extBut _ o D.TOi2.symm e;have u:z<f.objs.size:=OD hz5;show eH _ _ (RK (.ref z) (.ref f.objs.size) >>= _) _ _ _;refine ax ?_;unfold RK;have hz6:Wr (f.push { cls:=.type "tuple",data:=.seq #[x,y] }) z TI TO .ellipsis:=Ow _ hz5;refine ax (p3 hz6 (by simp) λY I M=>?_)
 replace I:Wr Y z TI TO (x9 f.objs.size):=I
 refine p3 I (by simp) λj g L=>?_
 replace g:Wr j z TI TO (x9 f.objs.size):=g
 have up:∀c o,c≠z->f.get? c=ap o->j.get? c=ap o:=λc o G e=>L.extBut _ _ G (M.extBut _ _ G<|Ow _ e);have R:t3 j f.objs.size x y:=L.extBut _ _ (Qk u) (M.extBut _ _ (Qk u)<|OI _ rfl);have N:j.objs.size=f.objs.size+1:=by rw[L.1,M.1,Pl]
 rw[O]at g R N;refine eX ⟨_,rfl,?_⟩;show Q (.ref f.objs.size) _;rw[O];exact hQ j g (up _ _ D.TOz m) (h15.keep λo e=>up _ o D.i1z e) (h25.keep λo e=>up _ o D.i2z e) R N λc o G c2 c3 c4 e=>up c o G (hk5 c o G c2 c3 c4 e)
theorem kj{TI TO:eg}{a b:ay}{Q:Option ay->el->Prop}(D:ZApart z TI TO i1 i2)(O1:Il z TO i1 i2 l1)(O2:Il z TO i1 i2 l2)(n:Wr s.heap z TI TO .none)(g:t3 s.heap TI (.ref i1) (.ref i2))(f:t3 s.heap TO a b)(L:SrcTn b1 i1 l1 k1 s.heap)(M:SrcTn b2 i2 l2 k2 s.heap)(e:SrcSq b1 s.heap l1 xs)(j:SrcSq b2 s.heap l2 ys)(I:xs[k1]?=ap x)(G:ys[k2]?=ap y)(J:∀h',Wr h' z TI TO (x9 s.heap.objs.size)->t3 h' TO x y->SrcTn b1 i1 l1 (k1+1) h'->SrcTn b2 i2 l2 (k2+1) h'->t3 h' s.heap.objs.size x y->h'.objs.size=s.heap.objs.size+1->
   (∀c o,c≠z->c≠TO->c≠i1->c≠i2->s.heap.get? c=ap o->h'.get? c=ap o)->Q (ap<|.ref s.heap.objs.size) { s with heap:=h' }):
  eH (ff prog w) A (P3<|.ref z) Q E s:=by
 have m:s.TypeIs (.ref z) "zip":=⟨_,n,rfl⟩;unfold P3
 exact ax (Re (wpAny_callSpecial?_slot (name:=PD "__next__") m Q4
  (kr Q4 m TF (C8 D O1 O2 n g f L M e j I G λh' C v B p q u F=>eX (J h' C v B p q u F))<|Th _)))
end
abbrev zH1(c1:String)(h:hG)(l1:eg):Heap:=h.push { cls:=.type c1,data:=.fields #[.ref l1,.int 0 0] }
abbrev zH2(c1 c2:String)(h:hG)(l1 l2:eg):Heap:=(zH1 c1 h l1).push { cls:=.type c2,data:=.fields #[.ref l2,.int 0 0] }
abbrev zH3(c1 c2:String)(h:hG)(l1 l2:eg):Heap:=(zH2 c1 c2 h l1 l2).push { cls:=.type "tuple",data:=.seq #[.ref h.objs.size,.ref (zH1 c1 h l1).objs.size] }
abbrev zH4(c1 c2:String)(h:hG)(l1 l2:eg):Heap:=(zH3 c1 c2 h l1 l2).push { cls:=.type "tuple",data:=.seq #[.none,.none] }
abbrev JS(c1 c2:String)(h:hG)(l1 l2:eg):Heap:=(zH4 c1 c2 h l1 l2).push { cls:=.type "zip",data:=.fields #[.none,.bool eC,.bool eC,.ref (zH2 c1 c2 h l1 l2).objs.size,.ref (zH3 c1 c2 h l1 l2).objs.size] }
theorem A3(b1 b2:Bool)(l1 l2:eg)(xs ys:Xs):
  WH (Builtin.«zip.__new__» ⟨[.type "zip",.ref l1,.ref l2],[]⟩) (λ_ R s=>SrcSq b1 s.heap l1 xs/\SrcSq b2 s.heap l2 ys/\
   R (.ok<|.ret<|.ref (zH4 (aU b1) (aU b2) s.heap l1 l2).objs.size) { s with heap:=JS (aU b1) (aU b2) s.heap l1 l2 }):=
 .of_wp λprog w A R s h=>by
  obtain⟨q,g,d,p,n⟩:=s;obtain⟨c,m,h⟩:=h;have u:=sub_zip;have f:SrcSq b1 (Uo ⟨q,g,d,p,n⟩) l1 xs:=c;have j:SrcSq b2 (Uo ⟨q.push { cls:=.type (aU b1),data:=.fields #[.ref l1,.int 0 0] },g,d,p,n⟩) l2 ys:=SrcSq.keep m λo e=>Ow _ e
  wp_walk using dB f,dB j
  exact⟨_,rfl,h⟩
section
theorem Da(n:SrcSq b1 s.heap l1 xs)(p:SrcSq b2 s.heap l2 ys)(h:∀h',Wr h' (s.heap.objs.size+4) (s.heap.objs.size+2) (s.heap.objs.size+3) .none->t3 h' (s.heap.objs.size+2) (.ref s.heap.objs.size) (.ref (s.heap.objs.size+1))->
   t3 h' (s.heap.objs.size+3) .none .none->SrcTn b1 s.heap.objs.size l1 0 h'->SrcTn b2 (s.heap.objs.size+1) l2 0 h'->h'.objs.size=s.heap.objs.size+5->
   (∀c o,s.heap.get? c=ap o->h'.get? c=ap o)->Q (.ref (s.heap.objs.size+4)) { s with heap:=h' }):
  eH (ff prog w) A (call (.type "zip") [.ref l1,.ref l2]) Q E s:=by
 refine WZ F.called_zip (by decide) (F.typeCall_zip_2 _ _) (F.newCall_zip_2 _ _) (λobj=>F.args_object_init_3 obj _ _) F.entry_zip_new (A3 b1 b2 l1 l2 xs ys) ⟨n,p,?_⟩
 have m:(zH1 (aU b1) s.heap l1).objs.size=s.heap.objs.size+1:=Pl ..;have e:(zH2 (aU b1) (aU b2) s.heap l1 l2).objs.size=s.heap.objs.size+2:=by rw[Pl,m]
 have j:(zH3 (aU b1) (aU b2) s.heap l1 l2).objs.size=s.heap.objs.size+3:=by rw[Pl,e]
 have g:(zH4 (aU b1) (aU b2) s.heap l1 l2).objs.size=s.heap.objs.size+4:=by rw[Pl,j]
 have B:(JS (aU b1) (aU b2) s.heap l1 l2).objs.size=s.heap.objs.size+5:=by rw[Pl,g]
 have f:(JS (aU b1) (aU b2) s.heap l1 l2).get? (zH4 (aU b1) (aU b2) s.heap l1 l2).objs.size=ap _:=OI _ rfl;have u:(JS (aU b1) (aU b2) s.heap l1 l2).get? (zH3 (aU b1) (aU b2) s.heap l1 l2).objs.size=ap _:=Ow _ (OI _ rfl);have v:(JS (aU b1) (aU b2) s.heap l1 l2).get? (zH2 (aU b1) (aU b2) s.heap l1 l2).objs.size=ap _:=Ow _ (Ow _<|OI _ rfl);have q:(JS (aU b1) (aU b2) s.heap l1 l2).get? (zH1 (aU b1) s.heap l1).objs.size=ap _:=Ow _ (Ow _<|Ow _<|OI _ rfl);have C:(JS (aU b1) (aU b2) s.heap l1 l2).get? s.heap.objs.size=ap _:=Ow _ (Ow _<|Ow _<|Ow _<|OI _ rfl);show _/\_;rw[e,j,g]at f;rw[m,e]at v;rw[j]at u;rw[m]at q;rw[g];exact⟨⟨_,f,rfl⟩,h _ f v u (rM C) (rM q) B λc o x=>
  Ow _ (Ow _<|Ow _<|Ow _<|Ow _ x)⟩
end
def Ai(K:OA)(b:Bool)(H:Hp)(a:eg)(xs:List V):Prop:=if b=true then SqL K H a xs else ij K H a xs
section
variable{xs ys:List V}
theorem Inv.src(I:Inv X Xb Z H s)(h:Ai X.K b H a xs):∃Xh:List ay,Vals xs Xh/\SrcSq b s.heap a Xh.toArray/\xs.length<=sizeLine:=by
 cases b with
 |true=>obtain⟨Xh,r,p,z⟩:=I.list (show SqL X.K H a xs from h);exact⟨Xh,r,p.isList,z⟩
 |false=>obtain⟨Xh,r,p,z⟩:=I.tuple (show ij X.K H a xs from h);exact⟨Xh,r,p,z⟩
theorem Inv.src_inj(I:Inv X Xb Z H s)(h:Ai X.K b H a xs)(h':Ai X.K b H a ys):xs=ys:=by
 cases b with
 |true=>exact I.list_inj (show SqL X.K H a xs from h) h'
 |false=>exact I.tuple_inj (show ij X.K H a xs from h) h'
theorem Inv.src_ne(I:Inv X Xb Z H s)(h:Ai X.K b H a xs)(f:gs X Xb H it):a≠it:=by
 obtain⟨j,f1,u,n,p,q⟩:=f;intro e;subst e;have g:∀o,X.K.lookup a=ap o->False:=λo c=>by
  have m:=I.ok.mod.kin a o c;rcases n with z|z
  .exact I.ok.noex a o m z
  .exact absurd (OF (OD (I.ok.bs a o m).1) z) (Pq _)
 cases b with
 |true=>
  rcases (show SqL X.K H a xs from h) with (z|⟨o,z⟩)|⟨o,_,_,c,_⟩
  .rw[j]at z;cases z
  .rw[j]at z;cases z
  .exact g o c
 |false=>
  rcases (show ij X.K H a xs from h) with (z|⟨o,z⟩)|⟨o,_,_,c,_⟩
  .rw[j]at z;cases z
  .rw[j]at z;cases z
  .exact g o c
end
theorem Inv.turned4{t':Nat}(I:Inv X Xb Z H s)(j:∀b∈fp,gs X Xb H b)(k:∀b o,b∉fp->s.heap.get? b=ap o->h'.get? b=ap o):Inv X Xb Z H { s with heap:=h',toks:=t' }:=by
 have g:∀b u,H b=ap u->b∉fp:=λb u e z=>by have:=(j b z).1;rw[e]at this;cases this
 refine I.step (g':=s.gens) (d':=s.drawn) (ch:=fp) (λb C=>?_) (λb o _ _ f e _=>k b o f e) (λb o _ _ f e _=>⟨o.slots,k b o f e⟩) (λ_ _ _ _ n=>n)
  (λb o f e=>⟨o,k b o f e⟩) (λ_ _ e=>e) (λ_ _ _ e=>e) (λb R e=>⟨#[],by rw[e];simp⟩) (λm M=>?_) (λb u e=>?_) I.bare
 .obtain⟨O,f1,N,p,F,L⟩:=j b C
  exact⟨p,f1,F,L⟩
 .obtain⟨o,J,G,B,r⟩:=M
  exact⟨o,J,G,k _ o (λz=>(j _ z).2.1 rfl) B,r⟩
 .refine (I.hok b u e).stay (λc v f q=>k c v ?_ q) (λ_ q=>q) λ_ _ q=>q
  rcases f with z|z
  .rw[z];exact g b u e
  .exact g c _ z
theorem Inv.turnedNew{t':Nat}{zs:List V}{us:Xl}{p:Obj}(I:Inv X Xb Z H s)(F:∀b∈fp,gs X Xb H b)(k:∀b o,b∉fp->s.heap.get? b=ap o->h'.get? b=ap o)(hlt:∀b∈fp,∃o,s.heap.get? b=ap o)(hlv:∀b∈fp,∃o,h'.get? b=ap o)(hT:h'.get? s.heap.objs.size=ap p)(J:p.cls=.type "tuple")(L:∃n,p.data=.seq us.toArray n)(r:Vals zs us)(G:p.dict=cm)(hz:zs.length<=sizeLine):Inv X Xb Z (upd H s.heap.objs.size<|.tup zs) { s with heap:=h',toks:=t' }:=by
 have f:H s.heap.objs.size=none:=I.hok.fresh (OB _);have j:∀b u,H b=ap u->b∉fp:=λb u e z=>by have:=(F b z).1;rw[e]at this;cases this
 refine I.step (g':=s.gens) (d':=s.drawn) (ch:=fp) (λb B=>?_) (λb o _ _ g e _=>k b o g e) (λb o _ _ g e _=>⟨o.slots,k b o g e⟩) (λb o _ e n=>by rw[aL (OP<|OD e)];exact n)
  (λb o g e=>⟨o,k b o g e⟩) (λb C e=>by rw[aL (bg e f)];exact e) (λb o u e=>by rw[aL (bg e f)];exact e) (λb ps e=>⟨#[],by rw[aL (bg e f),e];simp⟩) (λm Y=>?_) (λb u e=>?_) I.bare
 .obtain⟨f0,f1,f2,M,R,W⟩:=F b B
  exact⟨M,f1,R,W⟩
 .obtain⟨o,U,S,N,r⟩:=Y
  exact⟨o,U,S,k _ o (λz=>(F _ z).2.1 rfl) N,r⟩
 .by_cases B:b=s.heap.objs.size
  .subst B
   rw[upd_same]at e;cases e;obtain⟨n,O⟩:=L;exact⟨hz,us,r,⟨p,hT,⟨J,n,O⟩,G⟩⟩
  .rw[aL B]at e
   refine (I.hok b u e).stay (λc v g q=>k c v ?_ q) (λc q=>by rw[aL (bg q f)];exact q) λc C q=>by rw[aL (bg q f)];exact q
   rcases g with z|z
   .rw[z];exact j b u e
   .exact j c _ z
section
def Ite(K:OA)(b:Bool)(l:eg):It:=
 ⟨λi H=>∃xs x,Ai K b H l xs/\xs[i]?=ap x,
  λi H v H'=>∃T x,H T=cm/\v=.ref T/\H'=upd H T (.tup [.int i,x])/\(∀xs,Ai K b H l xs->xs[i]?=ap x),
  λi H=>∃xs,Ai K b H l xs/\xs.length<=i⟩
end
section
theorem Draws.src(u:A.handled=cm)(b:Bool)(it l:eg)(j:l≠it)(items:Xs):
  Draws prog w A it [it,l] items.size (λi v=>items[i]?=ap v) (λi h=>SrcTn b it l i h/\SrcSq b h l items) where
 live:=λ_ _ c=>let ⟨o,ho,_⟩:=c.1.lt;⟨o,ho⟩
 frame:=λ_ _ _ c n=>⟨c.1.keep λo e=>n it (by simp) o e,c.2.keep λo e=>n l (by simp) o e⟩
 item:=λi s Q E m c p=>by
  refine bR c.1 c.2 (x:=items[i]) (by simp[m]) λh' g f=>?_
  exact p _ h' s.toks (by simp[m]) ⟨g,c.2.keep λo e=>f.extBut _ o j e⟩ f
 done:=λs Q E c q=>dH u c.1 c.2 (by simp) q
theorem vF(b:Bool)(l:eg)(items:Xs):
  WH (Builtin.«enumerate.__new__» ⟨[.type "enumerate",.ref l],[]⟩) (λ_ R s=>SrcSq b s.heap l items/\
   R (.ok<|.ret<|.ref (s.heap.push { cls:=.type (aU b),data:=.fields #[.ref l,.int 0 0] }).objs.size)
    { s with heap:=(s.heap.push { cls:=.type (aU b),data:=.fields #[.ref l,.int 0 0] }).push { cls:=.type "enumerate",data:=.fields #[.none,.bool eC,.ref s.heap.objs.size,x9 0,.none,.none] } }):=
 .of_wp λprog w A R s h=>by
  obtain⟨n,g,d,m,j⟩:=s;obtain⟨o,h⟩:=h;have f:=sub_enumerate;have e:SrcSq b (Uo ⟨n,g,d,m,j⟩) l items:=o
  wp_walk
  refine wpAny_stack_any λp=>eX ?_
  split
  .rename_i c _ _ _ _ _
   cases (c==Tz "enumerate")
   .wp_walk using dB e
    exact⟨_,rfl,h⟩
   .wp_walk using dB e
    exact⟨_,rfl,h⟩
  .wp_walk using dB e
   exact⟨_,rfl,h⟩
theorem zc{l:eg}(f:SrcSq b s.heap l items)(h:∀h',IsEnum h' (s.heap.objs.size+1) s.heap.objs.size 0 .none->SrcTn b s.heap.objs.size l 0 h'->h'.objs.size=s.heap.objs.size+2->
   (∀b o,s.heap.get? b=ap o->h'.get? b=ap o)->Q (.ref (s.heap.objs.size+1)) { s with heap:=h' }):
  eH (ff prog w) A (call (.type "enumerate") [.ref l]) Q E s:=by
 refine WZ F.called_enumerate (by decide) (F.typeCall_enumerate_1 _) (F.newCall_enumerate_1 _) (λobj=>F.args_object_init_2 obj _) F.entry_enumerate_new (vF b l items) ⟨f,?_⟩
 have c:(s.heap.push { cls:=.type (aU b),data:=.fields #[.ref l,.int 0 0] }).objs.size=s.heap.objs.size+1:=Pl ..;show _/\_;rw[c]
 have e:IsEnum ((s.heap.push { cls:=.type (aU b),data:=.fields #[.ref l,.int 0 0] }).push
   { cls:=.type "enumerate",data:=.fields #[.none,.bool eC,.ref s.heap.objs.size,x9 0,.none,.none] }) (s.heap.objs.size+1) s.heap.objs.size 0 .none:=by
  have:=OI (s.heap.push { cls:=.type (aU b),data:=.fields #[.ref l,.int 0 0] })
   (o:={ cls:=.type "enumerate",data:=.fields #[.none,.bool eC,.ref s.heap.objs.size,x9 0,.none,.none] }) rfl
  rw[c]at this;exact this
 refine⟨⟨_,e,rfl⟩,h _ e (rM<|Ow _<|OI _ rfl) (by rw[Pl,c]) λb o x=>Ow _ (Ow _ x)⟩
end
theorem A5{S:Xn}{x1:Nat}{tp:Pos}(b:Bool)(l e it:eg)(N:e≠it):
  Turn P w K (.Tuple S x1 tp) (Ite K b l) [e,it] e (λi h=>(∃m,IsEnum h e it i m)/\SrcTn b it l i h) where
 mem:=by simp
 obj:=λi h C c f=>by
  obtain⟨⟨m,n⟩,G⟩:=C;have j:c=e\/c=it:=by simpa using f
  rcases j with q|q<;>subst q
  .exact⟨_,n,λv z=>nomatch z⟩
  .exact G.lt
 keep:=λi h h' C k=>by
  obtain⟨⟨m,n⟩,G⟩:=C;exact⟨⟨m,k e (by simp) _ n⟩,G.keep λo q=>k it (by simp) o q⟩
 item:=by
  intro X hP hw hK f i Xb s Z H E I L C hg;subst hP hw hK;obtain⟨xs,x,M,Y⟩:=hg;obtain⟨⟨m,n⟩,G⟩:=C;obtain⟨g,r,sq,z1⟩:=I.src M;obtain⟨u,hu,ru⟩:=r.get Y;have hle:l≠e:=I.src_ne M (L e<|by simp)
  have R:l≠it:=I.src_ne M (L it<|by simp)
  have hil:i<g.toArray.size:=by
   rw[OG,<- r.length];exact(Qh.mp Y).1
  have D:Draws X.prog X.w X.A.in1 it [it,l] g.toArray.size (λi v=>g.toArray[i]?=ap v) (λi h=>SrcTn b it l i h/\SrcSq b h l g.toArray):=Draws.src (A:=X.A.in1) (I.ok.hd f) b it l R g.toArray;refine wpAny_pyNext_enum_itemD D n ⟨G,sq⟩ hil N (by simp[N,Pa hle]) λv h' W hv ho hs' U hsz hk=>?_
  have ev:v=u:=by
   have hu':g.toArray[i]?=ap u:=by simpa using hu
   rw[hu']at hv;exact(PH hv).symm
  subst ev;refine⟨_,rfl,wpAny_letOwnedTupleGo_enum ho λB J p=>?_⟩;have hes:e≠s.heap.objs.size:=OP (OD n);have n1:SrcTn b it l (i+1) B:=hs'.1.keep λo q=>p.extBut _ o N.symm q;have kk:∀c o,c∉[e,it]->s.heap.get? c=ap o->B.get? c=ap o:=λc o f q=>
   p.extBut c o (λz=>f (by simp[z])) (hk c o (λz=>f (by simp[z])) (λz=>f (by simp[z])) q)
  have hT':B.get? s.heap.objs.size=ap { cls:=.type "tuple",data:=.seq #[.int i W,v] }:=p.extBut _ _ hes.symm U;have lv:∀c∈[e,it],∃o,s.heap.get? c=ap o:=λc f=>by
   have j:c=e\/c=it:=by simpa using f
   rcases j with q|q<;>subst q
   .exact⟨_,n⟩
   .obtain⟨o,q,_⟩:=G.lt;exact⟨o,q⟩
  have lv':∀c∈[e,it],∃o,B.get? c=ap o:=λc f=>by
   have j:c=e\/c=it:=by simpa using f
   rcases j with q|q<;>subst q
   .exact⟨_,J⟩
   .obtain⟨o,q,_⟩:=n1.lt;exact⟨o,q⟩
  have hTn:H s.heap.objs.size=none:=I.hok.fresh (OB _);refine⟨.ref s.heap.objs.size,_,I.turnedNew (s:=s) (h':=B) (t':=W+1) (zs:=[.int i,x]) (us:=[.int i W,v]) L kk lv lv' hT' rfl ⟨_,rfl⟩ (.cons ⟨W,rfl⟩<|.cons ru .nil) rfl (by show 2<=sizeLine;decide),rfl,⟨_,x,hTn,rfl,rfl,λzs O=>?_⟩,⟨⟨v,by simpa using J⟩,n1⟩,λc f=>?_⟩
  .rw[I.src_inj O M];exact Y
  .obtain⟨o,q⟩:=lv c f
   rw[aL (OP<|OD q)];exact(L c f).1
 done:=by
  intro X hP hw hK f i Xb s Z H E I L C hg;subst hP hw hK;obtain⟨xs,M,Y⟩:=hg;obtain⟨⟨m,n⟩,G⟩:=C;obtain⟨g,r,sq,z1⟩:=I.src M;have R:l≠it:=I.src_ne M (L it<|by simp)
  have U:s.TypeIs (.ref e) "enumerate":=⟨_,n,rfl⟩;have hl:=r.length;unfold P3
  refine ax (Re (wpAny_callSpecial?_slot (name:=PD "__next__") U UZ
   (kr UZ U F.entry_enumerate_next ?_<|F.args_enumerate_next_1 _)))
  show eH _ _ (VY (.ref e) 2 >>= _) _ _ _;refine ax (g5 n rfl (x:=.ref it) rfl ?_);refine ax (dH (I.ok.hd f) G sq (by simp;lia) λh' x he' hx'=>?_)
  obtain⟨o,ho,hcl⟩:=hx';refine ax (V3 (T:="StopIteration") (b:=true) ⟨o,ho,hcl⟩ WA ?_);exact eX ⟨rfl,I.turned4 (t':=s.toks) L λc o' j q=>he' c o' (λz=>j (by simp[z])) q⟩
 self:=λ_ _ _ _ _ C h=>let ⟨⟨_,n⟩,_⟩:=C;wpAny_pyIter_enum n h
section
theorem uI:bN X (.builtin "isinstance") (λxs H Q=>∃x T t b,xs=[x,.ty T]/\TyOf X.K H x t/\W.kitOne X.K t (.type T)=ap b/\Q (.bl b) H):=by
 intro Xb s Z H xs m Q I r h;obtain⟨x,T,t,b,rfl,ty,e,q⟩:=h;obtain⟨u,c,rfl,f,g⟩:=r.two;obtain rfl:c=Tz T:=g;exact ze I f ty e λj=>⟨.bl b,H,I.tok j,rfl,q⟩
end
abbrev Dx(h:hG)(z TI TO:eg)(f0:ay)(f1:Bool):Prop:=
 h.get? z=ap { cls:=.type "zip",dict:=cm,data:=.fields #[f0,.bool f1,.bool eC,.ref TI,.ref TO],slots:=#[] }
theorem fB:Wd W5 "zip.__getattribute__"=ap Builtin.«object.__getattribute__»:=
 WB (id':="object.__getattribute__") (by kernel_rfl) (by decide +kernel) (by decide +kernel) (by kernel_rfl)
theorem jH:Pv (.type "zip") "__getattr__"=pure none:=by rw[py,j0];kernel_rfl
theorem sM:Pv (.type "zip") "keys"=pure none:=by rw[py,j0];kernel_rfl
theorem bw:Wd W5 "dict.update.loop"=ap Builtin.«dict.update.loop»:=entryFor_of_fast (by kernel_rfl)
theorem aR:plainId "dict.update.loop"=true:=by decide +kernel
theorem mS(a TI TO:eg)(p:ay)(f1:Bool)(name:Str)(u:Tok)(f:Pv (.type "zip") name=pure cm)(c:(["__module__","__name__","__qualname__","__doc__","__annotations__"]:Xk).contains name=eC)(hsz:name.length+100<=sizeLine:=by size_fits):
  WH (Builtin.«object.__getattribute__» ⟨[.ref a,.str name u],[]⟩) (λA R s=>Dx s.heap a TI TO p f1/\raisesAttr (.ref a) name A R s):=
 Meets.of_wp λprog w A R s e=>by
  obtain⟨m,g,d,n,j⟩:=s;obtain⟨o,e⟩:=e;have q:(⟨m,g,d,n,j⟩:el).TypeIs (.ref a) "zip":=⟨_,o,rfl⟩;unfold Builtin.«object.__getattribute__»
  repeat (any_goals (first|assumption|wp_step))
  simp only[c,ON,if_false]
  repeat (any_goals (first|assumption|wp_step))
  exact W3 e.1 e.2 (attrMsg_fits (by decide +kernel) hsz)
section
theorem og{TI TO:eg}{p:ay}{Q:Option ay->el->Prop}(m:Dx s.heap a TI TO p f1)(B:A.handled=cm)(h:∀h' n,(∀b o,s.heap.get? b=ap o->h'.get? b=ap o)->Q cm { s with heap:=h',toks:=n }):eH (ff prog w) A (W9 (.ref a) "keys") Q E s:=by
 obtain⟨v,g,d,n,q⟩:=s;have j:∀f,(⟨v,g,d,f,q⟩:el).TypeIs (.ref a) "zip":=λ_=>⟨_,m,rfl⟩;have u:=sub_AttributeError;have C:=Sk.lookup;have I:=Sk.bind (.ref a);have J:=jH;unfold W9 getAttrBy? getAttrBy
 repeat (any_goals (first|assumption|exact j _|((with_reducible show eH _ _ (call (TQ "zip.__getattribute__") _ _) _ _ _);refine vr Sk (j _) fB (F.args_zip_getattribute_2 _ _) (mS a TI TO p f1 "keys" _ sM (by decide +kernel)<|by decide +kernel) ⟨m,B,λh' f e c=>?_⟩)|wp_step))
 obtain⟨t',L,G⟩:=c.there;show eH _ _ (VW _ _ _ _ _ _ _) _ _ _;unfold VW
 repeat (any_goals (first|assumption|wp_step))
 exact h _ _ c.keeps
theorem nh{M:Model}{o:Obj}{Q:Option Obj->el->Prop}(c:s.heap.get? a=ap o)(h:Q (ap o) s):eH M A (W8 a) Q E s:=λΓ p _=>by
 show Sem.wp M Γ (.loadIfAlive a .pure) _ _ p s;rw[Sem.wp_loadIfAlive,c];exact h
end
section
theorem zF{TI TO:eg}(D:ZApart z TI TO i1 i2)(O1:l1≠z/\l1≠i1)(O2:l2≠z/\l2≠i1/\l2≠i2)(u:Dx s.heap z TI TO (x9 T) f1)(hT:s.heap.get? T=ap oT)(I:t3 s.heap TI (.ref i1) (.ref i2))(h1:SrcTn b1 i1 l1 k1 s.heap)(h2:SrcTn b2 i2 l2 k2 s.heap)(G:SrcSq b1 s.heap l1 xs)(J:SrcSq b2 s.heap l2 ys)(hx:xs[k1]?=ap x)(Y:ys[k2]?=ap y)(hQ:∀h',Dx h' z TI TO (x9 T) true->SrcTn b1 i1 l1 (k1+1) h'->SrcTn b2 i2 l2 (k2+1) h'->t3 h' s.heap.objs.size x y->h'.objs.size=s.heap.objs.size+1->
   (∀c o,c≠z->c≠i1->c≠i2->s.heap.get? c=ap o->h'.get? c=ap o)->Q (.ref s.heap.objs.size) { s with heap:=h' }):
  eH (ff prog w) A (Builtin.«zip.__next__» ⟨[.ref z],[]⟩) (λfin B=>∃v,fin=.done (.ret v)/\Q v B) E s:=by
 show eH _ _ (VY (.ref z) 2 >>= _) _ _ _;refine ax (g5 u rfl (x:=.bool eC) rfl ?_);show eH _ _ (VY (.ref z) 3 >>= _) _ _ _;refine ax (g5 u rfl (x:=.ref TI) rfl ?_);refine ax (pt I rfl ?_);show eH _ _ (Px (.ref z) >>= _) _ _ _;refine ax ?_;unfold Px;refine ax (g5 u rfl (x:=x9 T) rfl ?_);show eH _ _ (W8 _ >>= _) _ _ _;refine ax (nh (o:=oT) (by simpa using hT) ?_)
 simp only[UO,ON,if_false];refine ax (g5 u rfl (x:=.bool f1) rfl ?_)
 have go:eH (ff prog w) A (if (QK f1 != QK true)=true then do W6 (OY z) 1 (QK true);pure eC else pure eC)
   (λa B=>a=eC/\∃f,B={ s with heap:=f }/\Dx f z TI TO (x9 T) true/\(∀c o,c≠z->s.heap.get? c=ap o->f.get? c=ap o)/\f.objs.size=s.heap.objs.size) E s:=by
  cases f1 with
  |true=>
   rw[if_neg (by decide)]
   exact eX ⟨rfl,s.heap,rfl,u,λ_ _ _ e=>e,rfl⟩
  |false=>
   rw[if_pos (by decide)]
   refine ax (p3 u (by simp) λf g n=>eX ⟨rfl,f,rfl,g,λc o R e=>n.extBut c o R e,n.1⟩)
 refine mu go (λa B M=>?_) λ_ _ e=>e;obtain⟨rfl,f,rfl,g,hk₀,n⟩:=M;simp only[ON,if_false];rw[<- UY];simp only[Tt,Sr];refine ax (ax<|wpAny_bind<|wpAny_holding ?_);show eH _ _ (Pc (.ref i1) >>= _) _ _ _;refine ax (bR (s:={ s with heap:=f }) (h1.keep λo e=>hk₀ _ o D.i1z e) (G.keep λo e=>hk₀ _ o O1.1 e) hx λj p hs₂=>eX ?_);refine eX ?_;refine ax (ax<|wpAny_holding ?_);show eH _ _ (Pc (.ref i2) >>= _) _ _ _;refine ax (bR (s:={ s with heap:=j }) (h2.keep λo e=>hs₂.extBut _ o D.i12.symm (hk₀ _ o D.i2z e)) (J.keep λo e=>hs₂.extBut _ o O2.2.1 (hk₀ _ o O2.1 e)) Y λm C hs₃=>eX ?_);refine eX (eX ?_);refine ax (Wz (eX ⟨_,rfl,?_⟩)<|by show 2<=sizeLine;decide)
 have O:j.objs.size=f.objs.size:=hs₂.1;have U:m.objs.size=j.objs.size:=hs₃.1;have q:m.objs.size=s.heap.objs.size:=by rw[U,O,n]
 have N:z≠i1:=D.i1z.symm;have F:z≠i2:=D.i2z.symm;show Q (.ref m.objs.size) _;rw[q];refine hQ _ (Ow _<|hs₃.extBut _ _ F<|hs₂.extBut _ _ N g) (p.keep λo e=>Ow _ (hs₃.extBut _ o D.i12 e)) (C.keep λo e=>Ow _ e) ?_ ?_ λc o L S W e=>Ow _ (hs₃.extBut _ _ W<|hs₂.extBut _ _ S<|hk₀ c o L e)
 .rw[<- q]
  exact OI _ rfl
 .rw[Pl,q]
theorem C2{b2:Bool}{TI TO l2:eg}{k2:Nat}{ys:Xs}{Q:Fin->el->Prop}(N:A.handled=cm)(D:ZApart z TI TO i1 i2)(O1:l1≠z/\l1≠i1)(n:Dx s.heap z TI TO (x9 T) f1)(S:s.heap.get? T=ap oT)(B:t3 s.heap TI (.ref i1) (.ref i2))(R:SrcTn b1 i1 l1 k1 s.heap)(v:SrcSq b1 s.heap l1 xs)(O:xs[k1]?=cm)(M:∀h' e,(∀c o,c≠z->c≠i1->s.heap.get? c=ap o->h'.get? c=ap o)->(∃o,h'.get? e=ap o/\o.cls=.type "StopIteration")->E (.ref e) { s with heap:=h' }):
  eH (ff prog w) A (Builtin.«zip.__next__» ⟨[.ref z],[]⟩) Q E s:=by
 show eH _ _ (VY (.ref z) 2 >>= _) _ _ _;refine ax (g5 n rfl (x:=.bool eC) rfl ?_);show eH _ _ (VY (.ref z) 3 >>= _) _ _ _;refine ax (g5 n rfl (x:=.ref TI) rfl ?_);refine ax (pt B rfl ?_);show eH _ _ (Px (.ref z) >>= _) _ _ _;refine ax ?_;unfold Px;refine ax (g5 n rfl (x:=x9 T) rfl ?_);show eH _ _ (W8 _ >>= _) _ _ _;refine ax (nh (o:=oT) (by simpa using S) ?_)
 simp only[UO,ON,if_false];refine ax (g5 n rfl (x:=.bool f1) rfl ?_)
 have go:eH (ff prog w) A (if (QK f1 != QK true)=true then do W6 (OY z) 1 (QK true);pure eC else pure eC)
   (λa C=>a=eC/\∃f,C={ s with heap:=f }/\(∀c o,c≠z->s.heap.get? c=ap o->f.get? c=ap o)) E s:=by
  cases f1 with
  |true=>
   rw[if_neg (by decide)]
   exact eX ⟨rfl,s.heap,rfl,λ_ _ _ e=>e⟩
  |false=>
   rw[if_pos (by decide)]
   refine ax (p3 n (by simp) λf p u=>eX ⟨rfl,f,rfl,λc o J e=>u.extBut c o J e⟩)
 refine mu go (λa C I=>?_) λ_ _ e=>e;obtain⟨rfl,f,rfl,g⟩:=I;simp only[ON,if_false];rw[<- UY];simp only[Tt,Sr];refine ax (ax<|wpAny_bind<|wpAny_holding ?_);show eH _ _ (Pc (.ref i1) >>= _) _ _ _;exact ax (dH (s:={ s with heap:=f }) N (R.keep λo e=>g _ o D.i1z e) (v.keep λo e=>g _ o O1.1 e) O λm e j F=>M m e (λc o G L q=>j _ _ L (g c o G q)) F)
theorem jL{TI TO:eg}{Q:Option ay->el->Prop}(D:ZApart z TI TO i1 i2)(O1:l1≠z/\l1≠i1)(O2:l2≠z/\l2≠i1/\l2≠i2)(m:Dx s.heap z TI TO (x9 T) f1)(L:s.heap.get? T=ap oT)(g:t3 s.heap TI (.ref i1) (.ref i2))(I:SrcTn b1 i1 l1 k1 s.heap)(J:SrcTn b2 i2 l2 k2 s.heap)(f:SrcSq b1 s.heap l1 xs)(j:SrcSq b2 s.heap l2 ys)(F:xs[k1]?=ap x)(C:ys[k2]?=ap y)(G:∀h',Dx h' z TI TO (x9 T) true->SrcTn b1 i1 l1 (k1+1) h'->SrcTn b2 i2 l2 (k2+1) h'->t3 h' s.heap.objs.size x y->h'.objs.size=s.heap.objs.size+1->
   (∀c o,c≠z->c≠i1->c≠i2->s.heap.get? c=ap o->h'.get? c=ap o)->Q (ap<|.ref s.heap.objs.size) { s with heap:=h' }):eH (ff prog w) A (P3<|.ref z) Q E s:=by
 have e:s.TypeIs (.ref z) "zip":=⟨_,m,rfl⟩;unfold P3
 exact ax (Re (wpAny_callSpecial?_slot (name:=PD "__next__") e Q4
  (kr Q4 e TF (zF D O1 O2 m L g I J f j F C λh' q n p u v B=>eX (G h' q n p u v B))<|Th _)))
theorem ko{TI TO:eg}{Q:Option ay->el->Prop}(v:A.handled=cm)(D:ZApart z TI TO i1 i2)(O1:l1≠z/\l1≠i1)(m:Dx s.heap z TI TO (x9 T) f1)(G:s.heap.get? T=ap oT)(j:t3 s.heap TI (.ref i1) (.ref i2))(F:SrcTn b1 i1 l1 k1 s.heap)(g:SrcSq b1 s.heap l1 xs)(B:xs[k1]?=cm)(C:∀h',(∀c o,c≠z->c≠i1->s.heap.get? c=ap o->h'.get? c=ap o)->Q cm { s with heap:=h' }):eH (ff prog w) A (P3<|.ref z) Q E s:=by
 have f:s.TypeIs (.ref z) "zip":=⟨_,m,rfl⟩;unfold P3
 refine ax (Re (wpAny_callSpecial?_slot (name:=PD "__next__") f Q4
  (kr Q4 f TF (C2 (b2:=true) (l2:=l1) (k2:=0) (ys:=#[]) v D O1 m G j F g B λh' e u q=>?_)<|Th _)))
 obtain⟨o,p,n⟩:=q;refine ax (V3 (T:="StopIteration") (b:=true) ⟨o,p,n⟩ WA ?_);exact eX (C _ u)
end
theorem zj{K:Type}[DecidableEq K]{knd:KeyKind prog w K}{R:WG->el->Prop}{TI TO d:eg}{xs ys:Xl}{ks:List K}(hh:A.handled=cm)(D:ZApart z TI TO i1 i2)(O1:l1≠z/\l1≠i1/\l1≠i2/\l1≠d)(O2:l2≠z/\l2≠i1/\l2≠i2/\l2≠d)(Od:d≠z/\d≠i1/\d≠i2/\d≠TI/\d≠T)(OT:T≠z/\T≠i1/\T≠i2)(hk:V8 (λk v=>knd.is k v=true) ks xs)(hl:xs.length=ys.length)(hz:xs.length<=1000):
  ∀(n i:Nat)(s:el)(f1:Bool)(Xd:List (K×ay)),n=xs.length-i->i<=xs.length->Xd.length<=i->Dx s.heap z TI TO (x9 T) f1->(∃oT,s.heap.get? T=ap oT)->t3 s.heap TI (.ref i1) (.ref i2)->
   SrcTn b1 i1 l1 i s.heap->SrcTn b2 i2 l2 i s.heap->SrcSq b1 s.heap l1 xs.toArray->SrcSq b2 s.heap l2 ys.toArray->s.heap.DictOf knd d Xd->
   (∀s':el,s'.os=s.os->s'.gens=s.gens->s'.drawn=s.drawn->s'.heap.DictOf knd d (((ks.zip ys).drop i).foldl (λa p=>V1 a p.1 p.2) Xd)->(∀c o,c≠z->c≠i1->c≠i2->c≠d->s.heap.get? c=ap o->s'.heap.get? c=ap o)->R (.ok<|.ret .none) s')->
   ∀tk:Nat,Sc (ff prog w) A (.builtin "dict.update.loop" ⟨[.ref d,.ref z,x9 tk,.none],[]⟩) R s:=by
 intro n
 induction n with
 |zero=>
  intro i s f1 Xd hn hi hkl I G B F h2 s1 s2 hd hR tk;obtain⟨oT,G⟩:=G;have hin:i=xs.length:=by lia
  refine T0 bw ?_;rw[QJ aR _];show eH _ A.in1 (P3 (.ref z) >>= _) _ _ s;refine ax (ko hh D ⟨O1.1,O1.2.1⟩ I G B F s1 (by simp;lia) λh' u=>?_)
  refine ax (m:=SQ d []) (eX ?_);refine eX (hR _ rfl rfl rfl ?_ λc o L J Y W e=>u c o L J e);rw[Sg (by have e:=Qa hk;rw[Sm];lia)]
  obtain⟨o,es,ep,ho,r⟩:=hd;exact⟨o,es,ep,u d o Od.1 Od.2.1 ho,r⟩
 |succ n ih=>
  intro i s f1 Xd hn hi hkl I G B F h2 s1 s2 hd hR tk;obtain⟨oT,G⟩:=G;have C:i<xs.length:=by lia
  have M:i<ys.length:=by lia
  refine T0 bw ?_;rw[QJ aR _];show eH _ A.in1 (P3 (.ref z) >>= _) _ _ s;refine ax (jL (x:=xs[i]) (y:=ys[i]) D ⟨O1.1,O1.2.1⟩ ⟨O2.1,O2.2.1,O2.2.2.1⟩ I G B F h2 s1 s2 (by simp[C]) (by simp[M]) λh' a1 a2 a3 a4 a5 u=>?_)
  have hTy:({ s with heap:=h' }:el).TypeIs (.ref s.heap.objs.size) "tuple":=⟨_,a4,rfl⟩;refine ax (om<|wpAny_bind<|wpAny_tryCatch ?_);unfold RL;refine ax (SC hTy ?_);rw[if_pos (by decide)]
  refine ax (pt (s:={ s with heap:=h' }) a4 rfl<|wpAny_pure ?_);have hd':h'.DictOf knd d Xd:=by
   obtain⟨o,es,ep,ho,r⟩:=hd;exact⟨o,es,ep,u d o Od.1 Od.2.1 Od.2.2.1 ho,r⟩
  have hks:i<ks.length:=by rw[Qa hk];exact C
  have U:knd.is ks[i] xs[i]=true:=by
   have:∀{q:List K}{f:Xl},V8 (λk v=>knd.is k v=true) q f->∀(j:Nat)(F:j<q.length)(h2:j<f.length),knd.is q[j] f[j]=true:=by
    intro q f p
    induction p with
    |nil=>intro j F;exact absurd F (RE _)
    |cons r _ ihp=>
     intro j F h2;cases j with
     |zero=>exact r
     |succ j=>exact ihp j (by simpa using F) (by simpa using h2)
   exact this hk i hks C
  have hkz:Xd.length<=sizeLine:=OV (OV hkl hi) (OV hz<|by decide)
  show eH _ _ (vb [xs[i],ys[i]]<|dictSet d xs[i] ys[i]) _ _ _;refine om (Wh (s:={ s with heap:=h' }) U hd' (λS O g=>?_) hkz);have N:∀c o,c≠z->c≠i1->c≠i2->c≠d->s.heap.get? c=ap o->S.get? c=ap o:=λc o L J Y W e=>g.extBut c o W (u c o L J Y e);refine eX ⟨V2 aR _,?_⟩;have hst:(V1 Xd ks[i] ys[i]).length<=i+1:=by
   unfold V1
   split
   .rw[Ox];lia
   .rw[OH,PV];lia
  refine ih (i+1) { s with heap:=S,toks:=s.toks+1 } true (V1 Xd ks[i] ys[i]) (by lia) C hst (g.extBut _ _ Od.1.symm a1) ⟨oT,N T oT OT.1 OT.2.1 OT.2.2 Od.2.2.2.2.symm G⟩ (N TI _ D.TIz D.TIi1 D.TIi2 Od.2.2.2.1.symm B)
   (a2.keep λo e=>g.extBut _ o Od.2.1.symm e) (a3.keep λo e=>g.extBut _ o Od.2.2.1.symm e) (s1.keep λo e=>N l1 o O1.1 O1.2.1 O1.2.2.1 O1.2.2.2 e) (s2.keep λo e=>N l2 o O2.1 O2.2.1 O2.2.2.1 O2.2.2.2 e) O ?_ (tk+1)
  intro s' q1 q2 q3 q4 q5;refine hR s' q1 q2 q3 ?_ λc o L J Y W e=>q5 c o L J Y W (N c o L J Y W e);have ez:(ks.zip ys).drop i=(ks[i],ys[i])::(ks.zip ys).drop (i+1):=by
   rw[QT (by rw[Sm];lia)]
   simp
  rw[ez,PF];exact q4
namespace F
theorem mro_dict:mroOf (.type "dict")=pure [.type "dict",.type "object"]:=by rw[mroOf_type];kernel_rfl
theorem kh:Pv (.type "dict") "__new__"=pure (ap<|.builtin "dict.__new__"):=by rw[py,j0];kernel_rfl
theorem called_dict:TypeCalled "dict" "dict.__new__" "dict.__init__":=
 ⟨by decide +kernel,by decide +kernel,⟨_,_,mro_dict⟩,madeBy_type mro_dict kh (by decide +kernel),by decide +kernel,by rw[zt];kernel_rfl,PySem.F.slot_dict_init⟩
theorem typeCall_dict_1(a:ay):checkTypeCall "dict" ⟨[a],[]⟩=pure ():=by kernel_rfl
theorem newCall_dict_1(a:ay):checkBuiltinCall "dict.__new__" ⟨[.type "dict",a],[]⟩=pure ():=by kernel_rfl
theorem entry_dict_new:Wd W5 "dict.__new__"=ap Builtin.«dict.__new__»:=entryFor_of_tree (by kernel_rfl)
theorem plain_dict_new:plainId "dict.__new__"=true:=by decide +kernel
theorem sub_dict:isSubtype (.type "dict") (.type "dict")=pure true:=by rw[zt];kernel_rfl
end F
section
variable{K:Type}[DecidableEq K]{knd:KeyKind prog w K}
theorem h7(a:ay){Q₁:Xp}(h:Q₁ (.ref s.heap.objs.size) { s with heap:=s.heap.push { cls:=.type "dict",data:=.dict #[] } }):
  Sc (ff prog w) A (.call (.builtin "dict.__new__") ⟨[.type "dict",a],[]⟩) (wants Q₁ E) s:=by
 refine codeAny_call_builtin F.plain_dict_new F.entry_dict_new (SB (F.newCall_dict_1 a) ?_);have c:=F.sub_dict;have e:=F.mro_dict;obtain⟨j,g,d,m,f⟩:=s;unfold Builtin.«dict.__new__»
 wp_walk
 exact h
theorem o5{TI TO:eg}{xs ys:Xl}{ks:List K}(hh:A.handled=cm)(D:ZApart z TI TO i1 i2)(O1:Il z TO i1 i2 l1)(O2:Il z TO i1 i2 l2)(Y:Wr s.heap z TI TO .none)(W:t3 s.heap TI (.ref i1) (.ref i2))(L:∃a b,t3 s.heap TO a b)(h1:SrcTn b1 i1 l1 0 s.heap)(h2:SrcTn b2 i2 l2 0 s.heap)(J:SrcSq b1 s.heap l1 xs.toArray)(N:SrcSq b2 s.heap l2 ys.toArray)(hk:V8 (λk v=>knd.is k v=true) ks xs)(hl:xs.length=ys.length)(M:0<xs.length)(hzz:xs.length<=1000)(h:∀s':el,s'.os=s.os->s'.gens=s.gens->s'.drawn=s.drawn->s'.heap.DictOf knd s.heap.objs.size ((ks.zip ys).foldl (λa p=>V1 a p.1 p.2) [])->
   (∀c o,c≠z->c≠TO->c≠i1->c≠i2->s.heap.get? c=ap o->s'.heap.get? c=ap o)->Q (.ref s.heap.objs.size) s'):
  eH (ff prog w) A (call (.type "dict") [.ref z]) Q E s:=by
 refine callType_codes (Q₁:=λobj S=>obj=.ref s.heap.objs.size/\S={ s with heap:=s.heap.push { cls:=.type "dict",data:=.dict #[] } }) F.called_dict (F.typeCall_dict_1 _) UM (h7 _ ⟨rfl,rfl⟩) ?_
 rintro obj S ⟨rfl,rfl⟩
 have u:(s.heap.push { cls:=.type "dict",data:=.dict #[] }).DictOf knd s.heap.objs.size []:=Us s.heap;refine⟨u.typeIs,UH _ _,?_⟩;unfold Builtin.«dict.__init__»;refine ax ?_;unfold SO;refine ax (wpAny_notOrdered_dict u.typeIs ?_);show eH _ _ (pure (s.heap.objs.size,[OY z])) _ _ _;refine eX ?_;show eH _ _ (QN "dict.__init__" s.heap.objs.size (.ref z) [] .none) _ _ _;unfold QN;have j:∀c o,s.heap.get? c=ap o->c≠s.heap.objs.size:=λc o e=>OP (OD e);have up:∀c o,s.heap.get? c=ap o->(s.heap.push { cls:=.type "dict",data:=.dict #[] }).get? c=ap o:=λc o e=>Ow _ e;refine ax (SC (T:="zip") ⟨_,up _ _ Y,rfl⟩ ?_);rw[if_pos (by decide)]
 refine ax (og (f1:=eC) (s:={ s with heap:=s.heap.push { cls:=.type "dict",data:=.dict #[] } }) (up _ _ Y) hh λf n C=>?_);rw[if_pos (show (none:Option ay).isNone=true from rfl)];have up1:∀c o,s.heap.get? c=ap o->f.get? c=ap o:=λc o e=>C c o (up c o e);refine ax (Ps<|wpAny_bind<|wpAny_pyIter_zip (s:={ s with heap:=f,toks:=n }) (up1 _ _ Y)<|wpAny_pure ⟨V2 aR _,T0 bw ?_⟩);rw[QJ aR _];show eH _ A.in1.in1 (P3 (.ref z) >>= _) _ _ _;obtain⟨a,b,L⟩:=L;have hlt2:0<ys.length:=by lia
 have hd1:f.DictOf knd s.heap.objs.size []:=by
  obtain⟨o,es,ep,ho,r⟩:=u;exact⟨o,es,ep,C _ o ho,r⟩
 have U:s.heap.objs.size≠z:=(j _ _ Y).symm;have O:s.heap.objs.size≠TI:=(j _ _ W).symm;have hnTO:s.heap.objs.size≠TO:=(j _ _ L).symm;have I:s.heap.objs.size≠i1:=by obtain⟨o,e,_⟩:=h1.lt;exact(j _ _ e).symm
 have B:s.heap.objs.size≠i2:=by obtain⟨o,e,_⟩:=h2.lt;exact(j _ _ e).symm
 have nl:∀{b:Bool}{l:eg}{us:Xs},SrcSq b s.heap l us->l≠s.heap.objs.size:=λ{b l us} q=>by
  cases b with
  |true=>obtain⟨o,e,_⟩:=(show s.heap.IsList l us from q);exact j _ _ e
  |false=>obtain⟨o,e,_⟩:=(show s.heap.IsTuple l us from q);exact j _ _ e
 refine ax (kj (s:={ s with heap:=f,toks:=n }) (x:=xs[0]) (y:=ys[0]) D O1 O2 (up1 _ _ Y) (up1 _ _ W) (up1 _ _ L) (h1.keep λo e=>up1 _ o e) (h2.keep λo e=>up1 _ o e) (J.keep λo e=>up1 _ o e) (N.keep λo e=>up1 _ o e) (by simp[M]) (by simp[hlt2]) λm a1 a2 a3 a4 a5 a6 G=>?_)
 have hTy:({ s with heap:=m,toks:=n }:el).TypeIs (.ref f.objs.size) "tuple":=⟨_,a5,rfl⟩;refine ax (om<|wpAny_bind<|wpAny_tryCatch ?_);unfold RL;refine ax (SC hTy ?_);rw[if_pos (by decide)]
 refine ax (pt (s:={ s with heap:=m,toks:=n }) a5 rfl<|wpAny_pure ?_);have hks:0<ks.length:=by rw[Qa hk];exact M
 have hkey:knd.is ks[0] xs[0]=true:=by
  cases hk with
  |nil=>exact absurd M (Pq _)
  |cons r _=>exact r
 have hd2:m.DictOf knd s.heap.objs.size []:=by
  obtain⟨o,es,ep,ho,r⟩:=hd1;exact⟨o,es,ep,G _ o U hnTO I B ho,r⟩
 show eH _ _ (vb [xs[0],ys[0]]<|dictSet s.heap.objs.size xs[0] ys[0]) _ _ _;refine om (Wh (s:={ s with heap:=m,toks:=n }) hkey hd2 (λR hd3 g=>?_)<|Qc _);refine eX ⟨V2 aR _,?_⟩;have T1:∀c o,f.get? c=ap o->f.objs.size≠c:=λc o e=>Qk (OD e);have hdl:s.heap.objs.size<f.objs.size:=by obtain⟨o,es,ep,ho,r⟩:=hd1;exact OD ho
 have kk:∀c o,c≠z->c≠TO->c≠i1->c≠i2->c≠s.heap.objs.size->s.heap.get? c=ap o->R.get? c=ap o:=λc o c1 c2 c3 c4 c5 e=>g.extBut c o c5 (G c o c1 c2 c3 c4<|up1 c o e);have hst:(V1 ([]:List (K×ay)) ks[0] ys[0]).length<=1:=by simp[V1]
 refine zj (A:=A.in1) (T:=f.objs.size) (l1:=l1) (l2:=l2) (xs:=xs) (ys:=ys) (ks:=ks) hh D ⟨O1.1,O1.2.2.1,O1.2.2.2,nl J⟩ ⟨O2.1,O2.2.2.1,O2.2.2.2,nl N⟩ ⟨U,I,B,O,OP hdl⟩
  ⟨T1 _ _ (up1 _ _ Y),(by obtain⟨o,e,_⟩:=h1.lt;exact T1 _ _ (up1 _ _ e)),(by obtain⟨o,e,_⟩:=h2.lt;exact T1 _ _ (up1 _ _ e))⟩ hk hl hzz (xs.length-1) 1 { s with heap:=R,toks:=n+1 } eC (V1 [] ks[0] ys[0]) rfl M hst
  (g.extBut _ _ U.symm a1) ⟨_,g.extBut _ _ (Qk hdl) a5⟩ (kk TI _ D.TIz D.TITO D.TIi1 D.TIi2 O.symm W) (a3.keep λo e=>g.extBut _ o I.symm e) (a4.keep λo e=>g.extBut _ o B.symm e)
  (J.keep λo e=>kk l1 o O1.1 O1.2.1 O1.2.2.1 O1.2.2.2 (nl J) e) (N.keep λo e=>kk l2 o O2.1 O2.2.1 O2.2.2.1 O2.2.2.2 (nl N) e) hd3 ?_ 1
 intro s' q1 q2 q3 q4 q5;refine⟨rfl,h s' q1 q2 q3 ?_ λc o c1 c2 c3 c4 e=>q5 c o c1 c3 c4 (j c o e) (kk c o c1 c2 c3 c4 (j c o e) e)⟩;have ez:ks.zip ys=(ks[0],ys[0])::(ks.zip ys).drop 1:=by
  have:=QT (l:=ks.zip ys) (i:=0) (by rw[Sm];lia)
  simpa using this
 rw[ez,PF];exact q4
end
theorem jv:fillsNumberSlot (.type "tuple") "mul"=pure false:=
 PySem.fillsNumberSlot_seq (id:="tuple.__mul__") (r:=ap (.builtin "tuple.__rmul__")) Qu.lookup (by decide +kernel) TJ.lookup (by decide +kernel)
theorem rD:seqRepeat? (.type "tuple")=pure (ap<|.builtin "tuple.__mul__"):=by
 unfold seqRepeat?;rw[PySem.seqSlot_of (T:="tuple") (name:="__mul__") (id:="tuple.__mul__") Qu.lookup (by decide +kernel),PySem.seqSlot_of (T:="tuple") (name:="__rmul__") (id:="tuple.__rmul__") TJ.lookup (by decide +kernel)]
 rfl
theorem nN(a:Int)(t:Tok)(l:eg)(items:Xs)(n:Nat)(dd:Option eg)(c:Array (Option ay)):
  WH (Builtin.«int.__rmul__» ⟨[.int a t,.ref l],[]⟩) (λ_ R s=>s.heap.get? l=ap { cls:=.type "tuple",dict:=dd,data:=.seq items n,slots:=c }/\R (.ok<|.ret Value.notImplemented) s):=
 .of_wp λprog w A R s h=>by obtain⟨j,g,d,f,e⟩:=s;obtain⟨m,h⟩:=h;wp_walk;exact⟨_,rfl,h⟩
theorem mV(l:eg)(items:Xs)(n:Nat)(dd:Option eg)(C:Array (Option ay))(x:Int)(u:Tok)(U:1<x)(F:x<=1000)(G:items.size<=1000)(p:items.isEmpty=eC):
  WH (Builtin.«tuple.__mul__» ⟨[.ref l,.int x u],[]⟩) (λ_ R s=>s.heap.get? l=ap { cls:=.type "tuple",dict:=dd,data:=.seq items n,slots:=C }/\
   R (.ok<|.ret<|.ref s.heap.objs.size) { s with heap:=s.heap.push { cls:=.type "tuple",data:=.seq ((Pe x.toNat items).foldl (·++·) #[]) } }):=
 .of_wp λprog w A R s h=>by
  obtain⟨L,g,d,J,M⟩:=s;obtain⟨j,h⟩:=h;have f1:=SE;have I:=RM;have v:(decide (x < -(2 ^ 63))||decide (x>=2 ^ 63))=false:=by simp;lia
  have q:(items.isEmpty||x==1)=false:=by rw[p];simp;lia
  have B:(decide (x<=0)||items.isEmpty)=false:=by rw[p];simp;lia
  have S:(items.size:Int)*x<=1000000:=by
   have N:(items.size:Int)*x<=1000*x:=Int.mul_le_mul_of_nonneg_right (by lia) (by lia)
   lia
  have m:¬((items.size:Int)*x>(2 ^ 63-1) / 8):=by lia
  have o:Sw ((items.size:Int)*x)=false:=by
   unfold Sw;have:(1000000:Int)<=(sizeLine:Int):=by decide
   exact decide_eq_false (by lia)
  wp_walk using pa j
  try simp only[v,ON,if_false]
  wp_walk using pa j
  try simp only[q,ON,if_false]
  wp_walk using pa j
  try simp only[B,ON,if_false]
  wp_walk using pa j
  rw[if_neg m];simp only[o,ON,if_false];unfold Qe;have f:((Pe x.toNat items).foldl (·++·) #[]).toList.length<=sizeLine:=by
   have e:∀(k:Nat)(c:Xs),((Pe k items).foldl (·++·) c).size=c.size+k*items.size:=by
    intro k
    induction k with
    |zero=>intro c;simp
    |succ k ih=>intro c;rw[PM,PF,ih,SN,Nat.succ_mul];lia
   rw[RA,e];have:x.toNat*items.size<=1000*1000:=Ss (by lia) G
   have O:(1000*1000:Nat)<=sizeLine:=by decide
   simp only[OG,Pn]at *;lia
  refine ax (Wz (eX ⟨_,rfl,?_⟩) f);simpa using h
theorem oi(l:eg)(items:Xs)(n:Nat)(dd:Option eg)(j:Array (Option ay))(u:Tok):
  WH (Builtin.«tuple.__mul__» ⟨[.ref l,.int 1 u],[]⟩) (λ_ R s=>s.heap.get? l=ap { cls:=.type "tuple",dict:=dd,data:=.seq items n,slots:=j }/\R (.ok<|.ret<|.ref l) s):=
 .of_wp λprog w A R s h=>by
  obtain⟨p,g,d,o,m⟩:=s;obtain⟨c,h⟩:=h;have f1:=SE;have q:=RM;have f:(decide ((1:Int) < -(2 ^ 63))||decide ((1:Int)>=2 ^ 63))=false:=by decide
  have e:(items.isEmpty||(1:Int)==1)=true:=by simp
  wp_walk using pa c
  try simp only[f,ON,if_false]
  wp_walk using pa c
  try simp only[e,if_true]
  wp_walk using pa c
  all_goals first|exact⟨_,rfl,h⟩|skip
theorem nR(l:eg)(items:Xs)(n:Nat)(dd:Option eg)(o:Array (Option ay))(x:Int)(u:Tok)(q:x<=0)(m:-1000<=x)(p:items.isEmpty=eC):
  WH (Builtin.«tuple.__mul__» ⟨[.ref l,.int x u],[]⟩) (λ_ R s=>s.heap.get? l=ap { cls:=.type "tuple",dict:=dd,data:=.seq items n,slots:=o }/\
   R (.ok<|.ret<|.ref s.heap.objs.size) { s with heap:=s.heap.push { cls:=.type "tuple",data:=.seq #[] } }):=
 .of_wp λprog w A R s h=>by
  obtain⟨C,g,d,B,v⟩:=s;obtain⟨c,h⟩:=h;have f1:=SE;have F:=RM;have f:(decide (x < -(2 ^ 63))||decide (x>=2 ^ 63))=false:=by simp;lia
  have e:(items.isEmpty||x==1)=false:=by rw[p];simp;lia
  have j:(decide (x<=0)||items.isEmpty)=true:=by simp[q]
  wp_walk using pa c
  try simp only[f,ON,if_false]
  wp_walk using pa c
  try simp only[e,ON,if_false]
  wp_walk using pa c
  try simp only[j,if_true]
  all_goals exact⟨_,rfl,h⟩
section
theorem zB{l:eg}{Xh:Xl}{k:Int}{u:Tok}(ht:s.heap.IsTuple l Xh.toArray)(Y:Xh≠[])(O:0<=k)(R:k<=1000)(hi:Xh.length<=1000)(S:k=1->Q (.ref l) s)(W:k≠1->Q (.ref s.heap.objs.size) { s with heap:=s.heap.push { cls:=.type "tuple",data:=.seq (Pe k.toNat Xh).flatten.toArray } }):
  eH (ff prog w) A (hB .Mult (.ref l)<|.int k u) Q E s:=by
 obtain⟨⟨cls,o,data,j⟩,e,B,n,C⟩:=ht;simp only at B C;subst B C;have q:Xh.toArray.isEmpty=false:=by cases Xh with|nil=>exact absurd rfl Y|cons a r=>rfl
 refine wpAny_binaryOp_repeat_ref (T:="tuple") (U:="int") (by decide) ⟨_,e,rfl⟩ (λN=>typeIs_int N k u) jv PySem.F.fills_int_mul T9 rD PySem.F.slot_int_index.lookup
  (vr T9 (typeIs_int s k u) PySem.F.entry_int_rmul (PySem.F.args_int_rmul_2 _ _) (nN k u l Xh.toArray n o j) ⟨e,rfl,⟨_,e,rfl⟩,?_⟩)
 by_cases g:k=1
 .subst g
  exact vr Qu ⟨_,e,rfl⟩ RV (RP _ _) (oi l Xh.toArray n o j u) ⟨e,S rfl⟩
 .have f:=W g
  by_cases p:k<=0
  .refine vr Qu ⟨_,e,rfl⟩ RV (RP _ _) (nR l Xh.toArray n o j k u p (by lia) q) ⟨e,?_⟩
   have I:k.toNat=0:=by lia
   rw[I]at f;exact f
  .refine vr Qu ⟨_,e,rfl⟩ RV (RP _ _) (mV l Xh.toArray n o j k u (by lia) R (by rw[OG];exact hi) q) ⟨e,?_⟩
   have J:∀(m:Nat)(c:Xl),List.foldl (λG L=>G++L) c.toArray (Pe m Xh.toArray)=(c++(Pe m Xh).flatten).toArray:=by
    intro m
    induction m with
    |zero=>intro c;simp
    |succ m ih=>
     intro c;have M:c.toArray++Xh.toArray=(c++Xh).toArray:=by simp
     rw[PM,PF,M,ih,PM,QH,List.append_assoc]
   have v:=J k.toNat [];rw[OU]at v;rw[v];exact f
end
section
theorem Aw:cF X (hB .Add) (λx y H Q=>∃a b ys,x=.ref a/\y=.ref b/\ij X.K H a []/\ij X.K H b ys/\Q (.ref b) H):=by
 intro Xb s Z H x y v u Q I S R h;obtain⟨a,b,ys,rfl,rfl,W,L,q⟩:=h;cases S;cases R;obtain⟨j,r1,O,_⟩:=I.tuple W;obtain⟨c,r2,N,_⟩:=I.tuple L;obtain rfl:j=[]:=r1.zero;obtain⟨⟨Y,U,G,M⟩,F,C,n,J⟩:=id O;obtain⟨⟨B,o,p,m⟩,e,g,n2,f⟩:=id N;simp only at C J g f;subst C J g f
 exact WX ⟨_,F,rfl⟩ ⟨_,e,rfl⟩ Wt WI R5 RW (RQ _ _)
  (tuple_addW0 a b #[] c.toArray n n2 U o M m rfl) ⟨F,e,⟨.ref b,H,I,rfl,q⟩⟩
theorem AW{n:Nat}(f:n.log2<2000)(e:0<n):cF X (hB .FloorDiv) (rI (λ_ j=>j=(n:Int)) λi j=>.int (i / j)):=LD λi j _ _ _ _ _ c q=>by
 subst c;refine floordiv_int (by lia) ?_ (.inl<|PyProof.noPylong_of_log2<|by simpa using S3 f (by decide))
 rw[T4 _ (by lia)]
 exact q
def BV(K:OA)(b1 b2:Bool)(t:TA):TE:=λZ H Q=>t Z H λc H1=>∃(l1 l2:eg)(ks:List aG)(ys:List V),c=[.ref l1,.ref l2]/\Ai K b1 H1 l1 (ks.map kV)/\Ai K b2 H1 l2 ys/\ks.length=ys.length/\0<ks.length/\ks.length<=1000/\
 ∀d,H1 d=cm->Q (.ref d) (upd H1 d<|.dK<|(ks.zip ys).foldl (λa p=>cN a p.1 p.2) [])
theorem oP{P:fx}{w:g3}:∀{ks:List aG}{us:Xl},Vals (ks.map kV) us->V8 (λk v=>(aV P w).is k v=true) ks us
 |[],_,.nil=>.nil
 |_::_,_,.cons r t=>.cons (je r) (oP t)
theorem y_:∀{ks:List aG}{ys:List V}{us:Xl}{Xd:List (aG×V)}{vs:List (aG×ay)},Vals ys us->KV Xd vs->
  KV ((ks.zip ys).foldl (λa p=>cN a p.1 p.2) Xd) ((ks.zip us).foldl (λa p=>V1 a p.1 p.2) vs)
 |[],_,_,_,_,_,r=>r
 |_::_,_,_,_,_,.nil,r=>r
 |k::ks,_,_,_,_,.cons ru t,r=>y_ (ks:=ks) t (KV.put r k ru)
theorem uh:∀(ps:List (aG×V))(Xd:List (aG×V)),(ps.foldl (λa p=>cN a p.1 p.2) Xd).length<=Xd.length+ps.length
 |[],Xd=>OB _
 |p::ps,Xd=>by
  have c:=uh ps (cN Xd p.1 p.2);have e:=fZ Xd p.1 p.2;rw[PF,OE];lia
theorem u_{a b:fy}{ta:TA}{p p2 g:Pos}(b1 b2:Bool)(hc:X.calm=true)(hg:Gl X "zip")(hm:X.mg "zip"=cm)(hg2:Gl X "dict")(hm2:X.mg "dict"=cm)(ha:PA X [a,b] ta)(hs:fe [a,b] X.env=[(eC,gp a X.env),(eC,gp b X.env)]:=by rfl)(hs2:fe [b] X.env=[(eC,gp b X.env)]:=by rfl)(hs3:fe [Ug (.Name "zip" p2) [a,b] [] g] X.env=[(eC,gp (.Call (.Name "zip" p2) [a,b] [] g) X.env)]:=by rfl):
  PE X (.Call (.Name "dict" p) [.Call (.Name "zip" p2) [a,b] [] g] [] pos) (BV X.K b1 b2 ta):=by
 intro Xb s Z H Q I h;refine Call_ (eF I hg2 hm2 (by decide +kernel:gl "dict"=ap (.type "dict"))<|Pr ?_ hs3 rfl)
 rw[hs3];show eH _ _ (spliced ((eC,_)::hI pos [])) _ _ s;refine Qw ?_;refine Call_ (eF I hg hm (by decide +kernel:gl "zip"=ap (.type "zip"))<|Pr (bq (ha g Xb s Z H _ I h) λC f ⟨vs,H1,I1,r1,W⟩=>?_) (by rw[hs,hs2])<|by rw[hs2];rfl)
 obtain⟨l1,l2,ks,ys,e,W,q2,hl,h0,hz,q⟩:=W;subst e;obtain⟨u1,u2,rfl,N,ru2⟩:=r1.two;cases N;cases ru2;obtain⟨J,F,m,z1⟩:=I1.src W;obtain⟨j,G,n,z2⟩:=I1.src q2;refine Da m n λh' U R L h1 h2 Y S=>?_;refine Q8 ?_;have e1:=F.length;have e2:=G.length;rw[Ox]at e1;have D:ZApart (f.heap.objs.size+4) (f.heap.objs.size+2) (f.heap.objs.size+3) f.heap.objs.size (f.heap.objs.size+1):=by constructor<;>exact(show (_:Nat)≠(_:Nat) by lia)
 have lt:∀{c:Bool}{l:eg}{C:Xs},SrcSq c f.heap l C->l<f.heap.objs.size:=λ{c l C} z=>by
  cases c with
  |true=>obtain⟨o,e,_⟩:=(show f.heap.IsList l C from z);exact OD e
  |false=>obtain⟨o,e,_⟩:=(show f.heap.IsTuple l C from z);exact OD e
 have O:∀{l:eg},l<f.heap.objs.size->Il (f.heap.objs.size+4) (f.heap.objs.size+3) f.heap.objs.size (f.heap.objs.size+1) l:=λ{l} z=>⟨OP (OF z<|P5 _ _),OP (OF z<|P5 _ _),OP z,OP<|OF z<|P5 _ _⟩;refine o5 (s:={ f with heap:=h' }) (knd:=aV X.prog X.w) (ks:=ks) (xs:=J) (ys:=j) (I1.ok.hd hc) D (O<|lt m) (O<|lt n) U R ⟨_,_,L⟩ h1 h2 (m.keep λo e=>S _ o e) (n.keep λo e=>S _ o e) (oP F) (by lia) (by lia) (by lia) ?_
 intro s' o1 o2 o3 hd u;have hd':s'.heap.DictOf (aV X.prog X.w) h'.objs.size ((ks.zip j).foldl (λa p=>V1 a p.1 p.2) []):=hd;have B:=I1.big;have v:∀c o,f.heap.get? c=ap o->s'.heap.get? c=ap o:=λc o e=>by
  have z:=OD e;exact u c o (OP<|OF z<|P5 _ _) (OP<|OF z<|P5 _ _) (OP z) (OP<|OF z<|P5 _ _) (S c o e)
 have hn:H1 h'.objs.size=none:=I1.hok.fresh (by lia)
 obtain⟨hh',g',d',t',M⟩:=s';obtain rfl:M=f.os:=o1;obtain rfl:g'=f.gens:=o2;obtain rfl:d'=f.drawn:=o3;refine⟨.ref h'.objs.size,_,I1.laid (a:=h'.objs.size) (o:=.dK ((ks.zip ys).foldl (λa p=>cN a p.1 p.2) [])) (t':=t') v (by lia) ?_,rfl,q _ hn⟩
 refine mz ?_ ?_ (y_ G .nil) hd'
 .have:=uh (ks.zip ys) []
  rw[Sm]at this;have h3:(1000:Nat)<=sizeLine:=by decide
  simp only[Pn]at this;lia
 .exact beq_eq_false_iff_ne.mpr (Qk<|OF B<|by rw[Y];exact P5 _ _)
end
end _2
namespace _T
open PySem _2
end _T
namespace _2
open PySem PySem.Spec PyProof.Rows
variable{h:hG}{H:Hp}{P:fx}{s:el}{w:g3}
section
variable{X:Cx}
theorem mQ{M:Model}{A:i5}{E:Xp}{g:Type}{n:Nat}(f:Nat->g->Sem (ForInStep g))(I:Nat->g->el->Prop)(Q:g->el->Prop)(j:∀i b s,i<n->I i b s->eH M A (f i b) (λr s'=>match r with|.yield b'=>I (i+1) b' s'|.done b'=>Q b' s') E s)(fin:∀b s,I n b s->Q b s)(b:g)(h:I 0 b s):eH M A (forIn [0:n] b f) Q E s:=by
 rw[Std.Legacy.Range.forIn_eq_forIn_range'];have m:([0:n]:Um).size=n:=by simp[Std.Legacy.Range.size]
 show eH M A (forIn (Ro 0 ([0:n]:Um).size 1) b f) Q E s;rw[m];refine wpAny_forIn_list f (λl c s=>∃i,i<=n/\l=Ro i (n-i) 1/\I i c s) Q ?_ ?_ _ b ⟨0,Qc _,rfl,h⟩
 .rintro x u c s ⟨i,v,a,q⟩
  have o:i<n:=by
   rcases Ql i n with h'|h'
   .exact h'
   .rw[show n-i=0 by lia]at a;simp at a
  obtain⟨k,p⟩:∃k,n-i=k+1:=⟨n-i-1,by lia⟩
  rw[p,QO]at a;obtain⟨rfl,rfl⟩:=List.cons.inj a;refine mu (j x c s o q) (λr s' h'=>?_) λ_ _ e=>e;cases r with
  |done c'=>exact h'
  |yield c'=>exact⟨x+1,by lia,by congr 1;lia,h'⟩
 .rintro c s ⟨i,v,a,q⟩
  have:i=n:=by
   rcases Ql i n with h'|h'
   .obtain⟨k,p⟩:∃k,n-i=k+1:=⟨n-i-1,by lia⟩
    rw[p,QO]at a;cases a
   .lia
  subst this;exact fin _ _ q
theorem tN(l:eg)(items:Xs)(n:Nat)(dd:Option eg)(G:Array (Option ay))(x:ay)(e:ay->Bool)(I:∀y,y∈items->MeetsSeq.EqGives y x (e y))(j:Nat)(M:j<items.size)(q:e items[j]=true)(u:∀m (hm:m<items.size),m<j->e items[m]=eC):
  WH (Builtin.«tuple.index» ⟨[.ref l,x],[]⟩) (λ_ R s=>s.heap.get? l=ap { cls:=.type "tuple",dict:=dd,data:=.seq items n,slots:=G }/\R (.ok<|.ret<|.int j s.toks) { s with toks:=s.toks+1 }):=
 .of_wp λc w A R s h=>by
  obtain⟨F,g,d,C,z⟩:=s;obtain⟨B,h⟩:=h
  wp_walk using AutoSeq1.wpAny_loadPart' B
  refine mQ (n:=min items.size items.size) _ (λi (b:Option _×_) p=>b.1=cm/\i<=j/\p=⟨F,g,d,C,z⟩) _ ?turn ?fin _ ?strt
  case turn=>
   rintro i b p K ⟨v,f,rfl⟩
   have a:i<items.size:=by lia
   have o:items[i]?=ap items[i]:=by simp[a]
   simp only[o];refine ax (I _ (Array.getElem_mem a) c w _ _ _ _ ?_)
   by_cases E:i=j
   .subst E
    rw[q]
    wp_walk
    exact⟨_,rfl,h⟩
   .rw[u i a (by lia)]
    wp_walk
    exact⟨rfl,by lia,rfl⟩
  case fin=>
   rintro⟨J,L⟩ p ⟨v,f,rfl⟩
   lia
  case strt=>
   exact⟨rfl,Qc _,rfl⟩
theorem Inv.tupD{b:Xq}{Z:St}{a:eg}{xs:List V}(I:Inv X b Z H s)(h:H a=ap (.tup xs)):
  ∃(Xh:Xl)(n:Nat)(sl:Array (Option ay)),Vals xs Xh/\s.heap.get? a=ap { cls:=.type "tuple",dict:=cm,data:=.seq Xh.toArray n,slots:=sl }:=by
 obtain⟨z,Xh,r,⟨cls,g,data,slots⟩,e,⟨c,n,d⟩,f⟩:=I.hok a _ h;simp only at c d f;subst c d f;exact⟨Xh,n,slots,r,e⟩
theorem gL:∀{names:Xk}{us:Xl},Vals (names.map V.str) us->∀(j:Nat)(h:j<us.length),∃(y:Str)(t:Tok),names[j]?=ap y/\us[j]=.str y t
 |[],us,r,j,h=>by cases r;exact absurd h (RE _)
 |x::names,us,r,j,h=>by
  rw[Oy]at r;cases r with
  |cons r1 r2=>
   cases j with
   |zero=>obtain⟨t,rfl⟩:=r1;exact⟨x,t,rfl,rfl⟩
   |succ j=>obtain⟨y,t,a,b⟩:=gL r2 j (by simpa using h);exact⟨y,t,by simpa using a,by simpa using b⟩
def Nu:V->List V->Hp->VK->Prop:=λx b H Q=>∃(a:eg)(names:Xk)(z:Str)(j:Nat),x=.ref a/\b=[.str z]/\H a=ap (.tup<|names.map V.str)/\names.length<=1000/\names[j]?=ap z/\(∀m,m<j->names[m]?≠ap z)/\Q (.int (j:Int)) H
theorem A9:xO X "tuple.index" Nu:=by
 intro G s Z H x Y v W Q I N S h;obtain⟨a,b,z,j,rfl,rfl,R,U,A,B,q⟩:=h;cases N;obtain⟨u,rfl,M⟩:=S.one;obtain⟨t,rfl⟩:=M;obtain⟨c,n,K,r,e⟩:=I.tupD R;have L:=r.length;rw[Ox]at L;have O:j<b.length:=by
  rcases Ql j b.length with z'|z'
  .exact z'
  .rw[PC z']at A;cases A
 have p:j<c.toArray.size:=by rw[OG];lia
 refine vr TC ⟨_,e,rfl⟩ PySem.F.entry_tuple_index (PySem.F.args_tuple_index_2 _ _)
  (tN a c.toArray n cm K (.str z t) (λv=>match v with|.str y _=>y==z|_=>eC) (λy T=>?_) j p ?_ λm o E=>?_) ⟨e,?_⟩
 .obtain⟨m,o,rfl⟩:=List.getElem_of_mem (by simpa using T:y∈c)
  obtain⟨i,C,f,g⟩:=gL r m o;rw[g];exact eqGives_str i z C t
 .obtain⟨i,C,f,g⟩:=gL r j (by lia)
  rw[A]at f;cases f;simp[g]
 .obtain⟨i,C,f,g⟩:=gL r m (by rw[OG]at o;exact o)
  have J:=B m E;rw[f]at J;have ne:¬i=z:=λe=>J (by rw[e])
  simp[g,ne]
 .exact⟨.int (j:Int),H,I.tok _,⟨_,rfl⟩,q⟩
def tTM(r:V->List V->Hp->VK->Prop)(to:TE)(t:TA):TE:=λZ H Q=>to Z H λx H1=>(∃a b,x=.ref a/\H1 a=ap (.tup b))/\t Z H1 λb H2=>r x b H2 Q
theorem NX{o e:fy}{es:Xn}{to:TE}{t:TA}{name:Str}{Xg Xf:Pos}{id:String}{r:V->List V->Hp->VK->Prop}(g:WK "tuple" name id)(i:Wm (.builtin id)=pure (.type "method_descriptor"))(M:xO X id r)(L:PE X o to)(N:PA X (e::es) t)(f:nr o name X.env (gp o X.env)=gp o X.env:=by rfl)(hfew:((hI Xf<|starEach (e::es) X.env).all (λx=>!x.1)&&(z5 Xf<|keywordEach [] X.env).all (λx=>x.1.isSome)
   && decide ((e::es).length+([]:List z0).length+(if ([]:List z0).isEmpty then 0 else 1)<30))=true:=by rfl)(hline:(Xg.endLine==Xf.line)=true:=by rfl)(hs:fe (e::es) X.env=(eC,gp e X.env)::fe es X.env:=by rfl)(hplain:(hI Xf<|starEach es X.env).any (·.1)=false:=by rfl):
  PE X (.Call (.Attribute o name Xg) (e::es) [] Xf) (tTM r to t):=by
 intro c s Z H Q I h;refine WT f hfew hline rfl (bq (L c s Z H _ I h) λv z ⟨x,H1,I1,A,⟨a,R,C,J⟩,E⟩=>?_);subst C;cases A;obtain⟨y,n,O,S,m⟩:=I1.tupD J;refine⟨"tuple",id,PySem.F.plainAttrs_tuple,g,i,⟨_,m,rfl⟩,λb K=>by cases K;exact⟨_,m,rfl⟩,?_⟩
 have j:=N Xf c z Z H1 _ I1 E;rw[hs]at j ⊢;refine Qx (by show (eC||(hI Xf<|starEach es X.env).any (·.1))=eC;rw[hplain]<;>rfl) (QL ?_)
 exact bq j λp u ⟨B,H2,I2,q,G⟩=>M c u Z H2 (.ref a) B _ p Q I2 rfl q G
end
theorem g6{h a:hG}{S:Xm}:∀{l:List Env},h.FunFrames a l->(∀b∈gZ l,b∈S)->h.FunFrames (Tx h S) l
 |[],_,_=>trivial
 |env::r,hl,hs=>by
  obtain⟨g,⟨L,o,c,n,e,m⟩,i⟩:=hl;have j:L∈S:=hs L (by unfold gZ;rw[Qq,c];exact OR)
  exact⟨g,⟨L,o,c,W.hideAll_none S j,e,m⟩,g6 i λb f=>hs b (by unfold gZ;rw[Qq,c];exact OJ _ f)⟩
def uT(P:fx)(w:g3)(C:eg):oA:=λa H s E e c=>∃(ea:eg)(H':Hp)(B:hG)(a0:ay),e=.ref ea/\c.os=s.os/\VZ c.gens/\Un (gZ a) [] H H' s.heap c.heap/\HOk P w H' c.heap/\
 Heap.FlyingW B a ea (.ref C) a0 c.heap/\(∀b u,H' b=ap u->∃o,B.get? b=ap o)/\(∀b o,s.heap.get? b=ap o->b∉gZ a->∃o',B.get? b=ap o')/\E (.ref C) cm H'
theorem rL{h' B:hG}(c:HOk P w H h)(k:B.StaysIn h)(j:B.StaysIn h')(g:∀b u,H b=ap u->∃o,B.get? b=ap o):HOk P w H h':=λa o e=>
 (c a o e).stay (λb u i q=>by
  obtain⟨v,f⟩:∃v,B.get? b=ap v:=by
   rcases i with rfl|z
   .exact g _ _ e
   .exact g _ _ z
  have:=k b v f;rw[q]at this;cases this;exact j b _ f) (λ_ q=>q) λ_ _ q=>q
theorem wg{fs:Xm}{H':Hp}{m p B:hG}(un:Un fs [] H H' h m)(k1:B.StaysIn m)(k2:B.StaysIn p)(x:m.UpToSlots p)(u:∀b o,h.get? b=ap o->b∉fs->∃e,B.get? b=ap e)(v:∀b∈fs,∀o,h.get? b=ap o->∀vs,o.data≠.fields vs)(z:∀b∈fs,H b=cm):Un fs [] H H' h p where
 keep:=λb o q n a f=>by
  have g:=un.keep b o q n a f;obtain⟨e,c⟩:=u b o q a;have:=k1 b e c;rw[g]at this;cases this;exact k2 b _ c
 slot:=λb o q n a f=>by
  obtain⟨y,g⟩:=un.slot b o q n a f;obtain⟨i,j⟩:=x b _ g (v b a o q);exact⟨i,j⟩
 free:=un.free
 there:=λb o q f=>by
  by_cases a:b∈fs
  .obtain⟨y,g⟩:=un.slot b o q (z b a) a f
   obtain⟨i,j⟩:=x b _ g (v b a o q);exact⟨_,j⟩
  .obtain⟨e,c⟩:=u b o q a
   exact⟨e,k2 b e c⟩
 tups:=un.tups
 frzs:=un.frzs
 tbls:=un.tbls
section
variable{K:OA}{mg:Xr}{base:hG}{N:Xk}{Xc:Str}{scope:Pi}{f C:eg}{cd:ay}{A:i5}{outer:List Env}{s0:el}{H0:Hp}{E:XK}
theorem uE{env:Env}{L:eg}{l:List Env}(h:env.frame=ap L):gZ (env::l)=L::gZ l:=by unfold gZ;rw[Qq,h]
theorem MG:bT (uT P w C) (dM (uT P w C) P w K mg base N Xc scope f cd A outer s0 H0 E) E:=by
 intro W Z H s e s' I a;obtain⟨S,H',B,Y,rfl,Q,c,un,O,m,T,M,hE⟩:=a;have R:(dM (uT P w C) P w K mg base N Xc scope f cd A outer s0 H0 E).stack=envOfC Xc scope s0.heap.objs.size f cd::outer:=rfl;have G:(envOfC Xc scope s0.heap.objs.size f cd).frame=ap s0.heap.objs.size:=rfl;have F:gZ (envOfC Xc scope s0.heap.objs.size f cd::outer)=s0.heap.objs.size::gZ outer:=uE G;rw[R]at un m M;show eH (ff P w) (A.deeper<|envOfC Xc scope s0.heap.objs.size f cd) (leaving (envOfC Xc scope s0.heap.objs.size f cd)<|.ref S) (λ_ p=>uT P w C outer H0 s0 E (.ref S) p) (λe' p=>uT P w C outer H0 s0 E e' p) s';refine wpAny_leaves_onW I.ok.frames G m λh' j J=>?_;have i:Un (gZ outer) [] H0 H s0.heap s.heap:=I.base;have nofr:∀{b:eg}{o:Obj},s0.heap.get? b=ap o->b∉gZ outer->b∉gZ (envOfC Xc scope s0.heap.objs.size f cd::outer):=λ{b o} q c z=>by
  rw[F]at z;rcases OQ.mp z with e|z
  .exact Pq _ (e▸OD q)
  .exact c z
 have g:Un (gZ (envOfC Xc scope s0.heap.objs.size f cd::outer)) [] H H' s.heap h':=by
  refine wg un m.1 j.1 J M (λb c o q vs=>?_) λb c=>?_
  .obtain⟨_,o',x,hd⟩:=I.stack.mem (show b∈_ from c)
   rw[q]at x;cases x;exact hd vs
  .exact I.stkFree b c
 refine⟨S,H',B,Y,rfl,Q.trans I.os,c,?_,rL O m.1 j.1 T,j,T,λb o q c=>?_,hE⟩
 .refine⟨λb o q n c a=>?_,λb o q n c a=>?_,λb o q n a=>?_,λb o q a=>?_,λb U q=>g.tups b U (i.tups b U q),λb o u q=>g.frzs b o u (i.frzs b o u q),λb ps q=>?_⟩
  .exact g.keep b o (i.keep b o q n c a) (i.free b o q n a) (nofr q c) a
  .obtain⟨sl,v⟩:=i.slot b o q n c a
   obtain⟨L,q2⟩:=g.slot b _ v (i.free b o q n a) (by rw[F];exact OJ _ c) a
   exact⟨L,q2⟩
  .obtain⟨y,v⟩:=i.there b o q a
   exact g.free b y v (i.free b o q n a) a
  .obtain⟨y,v⟩:=i.there b o q a
   exact g.there b y v a
  .obtain⟨m1,e1⟩:=i.tbls b ps q
   obtain⟨X,e2⟩:=g.tbls b _ e1;exact⟨m1++X,by rw[e2,Q1]⟩
 .obtain⟨y,v⟩:=i.there b o q (by simp)
  exact M b y v (nofr q c)
structure ExcAt(K:OA)(C:eg):Prop where
 at_:∃(nm q:Str)(Nn:eg)(bs bm bmB:Xl)(hdct:Bool)(sn:Xk)(sub:Xl)(ab:Bool)(col:Option Bool)(dd:Option eg)(k0 k1 k2 k3 k5:Option ay)(newId initId Bs:String)(mN:Xr),
  (∀h:hG,K.In h->h.get? C=ap (excClassObj nm q C Nn bs bm hdct sn sub ab col dd k0 k1 k2 k3 k5 newId)/\h.Ns Nn mN/\OwnTail h bmB bm)/\mN "__init__"=cm/\ExcBaseFacts Bs newId initId bmB/\bmB.contains (.type Bs)=true/\bm.contains (.type "BaseException")=true
theorem ObjOk.obj{a:eg}{o:HO}(x:ObjOk P w H h a o):∃v,h.get? a=ap v:=by
 cases o with
 |lst xs=>obtain⟨_,_,_,_,e⟩:=x;exact⟨_,e⟩
 |tup xs=>obtain⟨_,_,_,_,e,_⟩:=x;exact⟨_,e⟩
 |dK Xd=>obtain⟨_,_,_,_,o,_,_,e,_⟩:=x;exact⟨_,e⟩
 |dT Xd=>obtain⟨_,_,_,_,o,_,_,e,_⟩:=x;exact⟨_,e⟩
 |set S n=>obtain⟨o,_,_,_,e,_⟩:=x;exact⟨_,e⟩
 |ins C dx fs=>obtain⟨_,_,_,e,_⟩:=x;exact⟨_,e⟩
 |own y=>obtain⟨_,e⟩:=x;exact⟨_,e⟩
 |xd fs=>obtain⟨_,⟨_,_,_,e,_⟩,_⟩:=x;exact⟨_,e⟩
 |rng lo hi=>obtain⟨_,_,_,e⟩:=x;exact⟨_,e⟩
 |frz ob u=>obtain⟨e,_⟩:=x;exact⟨_,e⟩
 |tbl ps=>exact⟨_,(show h.get? a=ap _ from x)⟩
 |met f y=>exact⟨_,(show h.get? a=ap _ from x)⟩
 |ext φ=>obtain⟨_,⟨_,e⟩,_⟩:=x;exact⟨_,e⟩
theorem EJ{fs:Xm}{L:eg}{H0 H':Hp}{m h':hG}(g:Un fs [] H0 H m h)(a:Un (L::fs) [] H H' h h')(M:m.objs.size<=L):Un fs [] H0 H' m h':=by
 have nofr:∀{b:eg}{o:Obj},m.get? b=ap o->b∉fs->b∉L::fs:=λ{b o} q i z=>by
  rcases OQ.mp z with e|z
  .exact Pq _ (OF (e▸OD q) M)
  .exact i z
 refine⟨λb o q n i c=>a.keep b o (g.keep b o q n i c) (g.free b o q n c) (nofr q i) c,λb o q n i c=>?_,λb o q n c=>?_,λb o q c=>?_,λb x q=>a.tups b x (g.tups b x q),λb o u q=>a.frzs b o u (g.frzs b o u q),λb J q=>?_⟩
 .obtain⟨O,j⟩:=g.slot b o q n i c
  obtain⟨v,I⟩:=a.slot b _ j (g.free b o q n c) (OJ _ i) c;exact⟨v,I⟩
 .obtain⟨p,j⟩:=g.there b o q c
  exact a.free b p j (g.free b o q n c) c
 .obtain⟨p,j⟩:=g.there b o q c
  exact a.there b p j c
 .obtain⟨B,F⟩:=g.tbls b J q
  obtain⟨y,G⟩:=a.tbls b _ F;exact⟨B++y,by rw[G,Q1]⟩
def vc(E:XK)(C:eg):TS:=λ_ _ H=>E (.ref C) cm H
theorem BI{x p:Str}{np Xf pos Xg:Pos}{jj}(X:ExcAt K C)(hm:mg x=ap (.ref C))(hg:Gl (dM (uT P w C) P w K mg base N Xc scope f cd A outer s0 H0 E) x)(hd:(x==("__debug__":Str))=false:=by decide)(hs:fe [.Constant (.str p) jj Xg] (dM (uT P w C) P w K mg base N Xc scope f cd A outer s0 H0 E).env=[(eC,gp (.Constant (.str p) jj Xg) (dM (uT P w C) P w K mg base N Xc scope f cd A outer s0 H0 E).env)]:=by rfl):
  PS (dM (uT P w C) P w K mg base N Xc scope f cd A outer s0 H0 E) (.Raise (ap<|.Call (.Name x np) [.Constant (.str p) jj Xg] [] Xf) cm pos) (vc E C):=by
 intro M s Z H D I h;obtain⟨nm,q,Nn,bs,bm,bmB,hdct,sn,sub,ab,col,dd,k0,k1,k2,k3,k5,newId,R,Bs,mN,hX,Y,FB,hBs,g⟩:=X.at_
 refine wpAny_Raise_call_subU (C:=C) (nm:=nm) (q:=q) (N:=Nn) (bs:=bs) (bm:=bm) (hdct:=hdct) (sn:=sn) (sub:=sub) (ab:=ab) (col:=col) (dd:=dd) (k0:=k0) (k1:=k1) (k2:=k2) (k3:=k3) (k5:=k5) FB hBs FB (mN:=mN) g (I.ok.hd rfl) (by rw[hs];rfl) Y
  (ja I hg hm ⟨rfl,?_⟩ hd)
 have hA:=(xy Cq CB hs) Xf M s Z H (λxs H1=>xs.length=1/\E (.ref C) cm H1) I ⟨rfl,h⟩;rw[hs]at hA ⊢;refine QL (mu hA (λvs a B=>?_) λ_ _ y=>y);obtain⟨vv,H1,I1,r,Q,hE⟩:=B;obtain⟨hC,hN,T⟩:=hX a.heap I1.kIn;refine⟨rfl,?_,hC,hN,T,λh' e hx=>?_⟩
 .show vs.length<=sizeLine
  rw[<- r.length,Q]
  decide
 have J:(envOfC Xc scope s0.heap.objs.size f cd).frame=ap s0.heap.objs.size:=rfl;have O:gZ (envOfC Xc scope s0.heap.objs.size f cd::outer)=s0.heap.objs.size::gZ outer:=uE J;have kB:(Tx a.heap<|gZ (envOfC Xc scope s0.heap.objs.size f cd::outer)).StaysIn a.heap:=λb o e=>W.of_hideAll _ e;show eH (ff P w) (A.deeper<|envOfC Xc scope s0.heap.objs.size f cd) (leaving (envOfC Xc scope s0.heap.objs.size f cd)<|.ref e) (λ_ i=>uT P w C outer H0 s0 E (.ref e) i) (λU i=>uT P w C outer H0 s0 E U i) _;refine wpAny_leaves_madeW I1.ok.frames J kB (g6 I1.stack λb c=>c) hx λF t m _ _ S=>?_;have up2:a.heap.UpToSlots F:=(Heap.UpToSlots.of_keeps hx.keeps).trans S;have j:∀{b:eg}{o:Obj},a.heap.get? b=ap o->b∉gZ (envOfC Xc scope s0.heap.objs.size f cd::outer)->(Tx a.heap<|gZ (envOfC Xc scope s0.heap.objs.size f cd::outer)).get? b=ap o:=λe n=>W.hideAll_get _ e n;have sT:∀b u,H1 b=ap u->∃o,(Tx a.heap<|gZ (envOfC Xc scope s0.heap.objs.size f cd::outer)).get? b=ap o:=λb u e=>by
  obtain⟨v,hv⟩:=ObjOk.obj (I1.hok b u e);exact⟨v,j hv λz=>by rw[I1.stkFree b z]at e;cases e⟩
 have G:Un (gZ (envOfC Xc scope s0.heap.objs.size f cd::outer)) [] H1 H1 a.heap F:=by
  refine wg Un.refl kB m.1 up2 (λb o q c=>⟨o,j q c⟩) (λb c o q vs=>?_) λb c=>I1.stkFree b c;obtain⟨_,o',L,hd'⟩:=I1.stack.mem (show b∈_ from c);rw[q]at L;cases L;exact hd' vs
 rw[O]at G;refine⟨e,H1,_,.ref t,rfl,I1.os,I1.bare,EJ I1.base G (OB _),rL I1.hok kB m.1 sT,m,sT,λb o q c=>?_,hE⟩;obtain⟨o1,q1⟩:=I1.base.there b o q (λz=>absurd (show b∈([]:Xm) from z) (by simp))
 refine⟨o1,j q1 λz=>?_⟩;rw[O]at z;rcases OQ.mp z with U|z
 .exact Pq _ (U▸OD q)
 .exact c z
end
abbrev Cx.marked(X:Cx)(e:ay):Cx:={ X with A:=X.A.mark (ap e),calm:=eC,xe:=λ_ _=>False }
section
variable{X:Cx}{Xb:Xq}{Z:St}{e:ay}
theorem Cx.Ok.mark(ok:X.Ok)(e:ay):(X.marked e).Ok:=
 ⟨ok.mod,ok.kind,ok.glob,ok.blt,ok.above,ok.inj,ok.has,ok.cab,λz=>(Bool.noConfusion z),ok.frames,ok.stk,ok.exf,ok.bs,ok.bsz,ok.noex,ok.exfs,ok.funs,ok.frf⟩
theorem Inv.mark(I:Inv X Xb Z H s)(e:ay):Inv (X.marked e) Xb Z H s:=⟨I.ok.mark e,I.os,I.bare,I.base,I.loc,I.cell,I.free,I.freeC,I.pin,I.hok,I.len⟩
theorem Inv.unmark(ok:X.Ok)(I:Inv (X.marked e) Xb Z H s):Inv X Xb Z H s:=⟨ok,I.os,I.bare,I.base,I.loc,I.cell,I.free,I.freeC,I.pin,I.hok,I.len⟩
theorem SP.unmark{D:Ends}{f:Flow}{s':el}(ok:X.Ok)(h:SP (X.marked e) Xb D f s'):SP X Xb D f s':=by
 cases f with
 |next=>obtain⟨a,H',I,q⟩:=h;exact⟨a,H',I.unmark ok,q⟩
 |brk=>obtain⟨a,H',I,q⟩:=h;exact⟨a,H',I.unmark ok,q⟩
 |cont=>obtain⟨a,H',I,q⟩:=h;exact⟨a,H',I.unmark ok,q⟩
 |ret u=>obtain⟨v,a,H',I,r,q⟩:=h;exact⟨v,a,H',I.unmark ok,r,q⟩
def Bj(C:eg)(sp:Sp)(dvs:List V)(ta:TA)(ts:TS):TS:=λD Z H=>ta Z H λa H1=>sp (a++dvs) H1 (λ_ H2=>D.nx Z H2) (λ_ _ H2=>ts D Z H2)
theorem vZ{C f:eg}{k:Nat}{fd:g4}{ps:Xk}{sp:Sp}{j:List V}{ds:Xl}{x cx:Str}{p cp ep np S pos:Pos}{e:fy}{es:Xn}{ta:TA}{m:tm}{g:Xo}{ts:TS}(T:X.stack=X.env::X.outer)(hfL:X.env.frame=ap X.env.locals)(F:FnOk X.prog X.w X.K X.mg X.base (uT X.prog X.w C) k f fd ps sp)(hr:Room k X.A)(hg:Gl X x)(hm:X.mg x=ap (.ref f))(hk:P8 X.K (.ref f)=true)(hb:Binds X.K fd ps ds)(hd:Vals j ds)(ha:PA X.nox (e::es) ta)(EX:ExcAt X.K C)(hgC:Gl X cx)(hmC:X.mg cx=ap (.ref C))(hsu:∀U:eg,yv (X.marked<|.ref U) (m::g) ts)(hdb:(x==("__debug__":Str))=false:=by decide)(hdC:(cx==("__debug__":Str))=false:=by decide)(he:fe (e::es) X.env=(eC,gp e X.env)::fe es X.env:=by rfl)(hpl:(hI cp<|starEach es X.env).any (·.1)=false:=by rfl)(hsw:wh (.Call (.Name x p) (e::es) [] cp) cm ep.line X.env=pure false:=by rfl):
  PS X (.Try [.Expr (.Call (.Name x p) (e::es) [] cp) ep] [.ExceptHandler (ap<|.Name cx np) cm (m::g) S] [] [] pos) (Bj C sp j ta ts):=by
 intro Xb s Z H D I h;refine wpAny_Try_except (Ws<|wpAny_Expr_any ?_ I.quiet hsw);refine re (ja I hg hm ?_ hdb);refine Te (h₀:=X.base) I.ok.mod.kin hk (mu (ha cp Xb s Z H _ (I.wish _) h) (λM Y ⟨G,H1,I1',r,q⟩=>?_) λ_ _ z=>PX z) he hpl;have I1:Inv X Xb Z H1 Y:=I1'.unwish;refine⟨I1.kIn,?_⟩;have r2:Vals (G++j) (M++ds):=r.append hd;have hl:(M++ds).length=ps.length:=by rw[<- r2.length];exact F.len _ _ _ _ q
 refine wpAny_call (SZ (F.run X.A X.stack Y H1 ⟨M,[]⟩ (M++ds) (G++j) _ _ hr I1.env0 (hb Y M I1.kIn hl) r2 q) λrr s' R=>?_);cases rr with
 |ok fl=>
  cases fl with
  |ret u=>
   obtain⟨x',H2,I2,_,q2⟩:=I1.after R;exact Rs (Rs ⟨Z,H2,I2,q2⟩)
  |next=>exact PX R
  |brk=>exact PX R
  |cont=>exact PX R
 |error er=>
  obtain⟨U,H',B,a0,rfl,hos,v,un,hok,i,sT,sA,hE⟩:=R;obtain⟨nm,qn,Nn,bs,bm,bmB,hdct,sn,sub,ab,col,dd,k0,k1,k2,k3,k5,newId,W,Bs,mN,hX,hni,FB,hBs,y⟩:=EX.at_;have nf:∀b∈gZ X.stack,∀o,Y.heap.get? b=ap o->∀G,o.data≠.fields G:=λb E o q' G=>by
   obtain⟨_,o',J,hd'⟩:=I1.stack.mem (show b∈_ from E);rw[q']at J;cases J;exact hd' G
  have c:∀L:hG,B.StaysIn L->s'.heap.UpToSlots L->Inv X Xb Z H' { s' with heap:=L }:=λL k up=>
   I1.call' (s':={ s' with heap:=L }) hos (wg un i.1 k up sA nf λb E=>I1.stkFree b E) (rL hok i.1 k sT) v λb z=>absurd (show b∈([]:Xm) from z) (by simp)
  rw[T]at i;have hfr:X.A.frames=ap (X.env::X.outer):=by rw[<- T];exact I1.ok.frames
  refine wpAny_looks_onW hfr hfL i λh4 n up4=>?_;refine wpAny_landsW n λh5 a Q=>?_;have I5:=(c h5 a.1<|up4.trans Q).mark (.ref U);obtain⟨hC,_,_⟩:=hX h5 I5.kIn;obtain⟨ob,hob,O⟩:=a.there;refine wpAny_handleBy_cons (codeAny_handlers_test<|ja I5 hgC hmC ?_ hdC) (by intro q';cases q')
  refine wpAny_excMatches_sub_self hC hob O y (codeAny_handlers_suite ?_);refine lands_againW a λh6 N up6=>?_;have I6:=(c h6 N.1<|(up4.trans Q).trans up6).mark (.ref U);exact mu (hsu U Xb _ Z H' D I6 hE) (λfl s7 q7=>q7.unmark I.ok) λ_ _ z=>PX z
end
end _2
namespace _3
open PySem _2
variable{p:eg}{B:Bd}{X:Cx}{U:Dl}{c e:fy}{H H' H1:Hp}{M:Mem}{K:OA}{pos:Pos}{Z:St}
inductive D where
 |non|bl (b:Bool)|int (i:Int)|str (x:Str)|ty (n:String)|ref (a:eg)|tup (xs:List D)|lst (xs:List D)|mt (xs:List D)|ml (xs:List D)|fd (ks:List (List aG)) (xs:List D)
def TpD(_:OA)(H:Hp)(p:eg)(vs:List V):Prop:=H p=ap (.tup vs)
def TpM(K:OA)(p:eg)(vs:List V):Prop:=∃(o:Obj)(Xh:Xs)(n:Nat),K.lookup p=ap o/\o.cls=.type "tuple"/\o.data=.seq Xh n/\Xh.size<=sizeLine/\Vals vs Xh.toList
def FzD(K:OA)(H:Hp)(p:eg)(vs:List V):Prop:=
 ∃o,H p=ap (.frz o<|.lst vs)
def FzK(K:OA)(H:Hp)(p:eg)(vs:List V):Prop:=(∃o,H p=ap (.frz o<|.lst vs))\/∃(o:Obj)(Xh:Xs)(n:Nat),K.lookup p=ap o/\o.cls=.type "list"/\o.dict=cm/\o.data=.seq Xh n/\Xh.size<=sizeLine/\Vals vs Xh.toList
theorem FzK.sq{vs:List V}(h:FzK K H p vs):SqL K H p vs:=h.imp (λ⟨o,e⟩=>.inr ⟨o,e⟩) λx=>x
theorem TpD.sq{vs:List V}(h:TpD K H p vs):ij K H p vs:=.inl (.inl h)
theorem TpM.sq{vs:List V}(h:TpM K p vs):ij K H p vs:=.inr h
theorem FzD.sq{vs:List V}(h:FzD K H p vs):SqL K H p vs:=by
 obtain⟨o,h⟩:=h;exact .inl (.inr ⟨o,h⟩)
def FdD(H:Hp)(p:eg)(ks:List (List aG))(vs:List V):Prop:=ks.length=vs.length/\∃o,H p=ap (.frz o<|.dT<|ks.zip vs)
mutual
def Rp(K:OA)(H:Hp):D->V->Prop
 |.non,v=>v=.non
 |.bl b,v=>v=.bl b
 |.int i,v=>v=.int i
 |.str x,v=>v=.str x
 |.ty n,v=>v=.ty n
 |.ref a,v=>v=.ref a
 |.tup xs,v=>∃p vs,v=.ref p/\TpD K H p vs/\Rps K H xs vs
 |.lst xs,v=>∃p vs,v=.ref p/\FzD K H p vs/\Rps K H xs vs
 |.mt xs,v=>∃p vs,v=.ref p/\TpM K p vs/\Rps K H xs vs
 |.ml xs,v=>∃p vs,v=.ref p/\FzK K H p vs/\Rps K H xs vs
 |.fd ks xs,v=>∃p vs,v=.ref p/\FdD H p ks vs/\Rps K H xs vs
def Rps(K:OA)(H:Hp):List D->List V->Prop
 |[],vs=>vs=[]
 |x::xs,vs=>∃v r,vs=v::r/\Rp K H x v/\Rps K H xs r
end
structure Imm(H H':Hp):Prop where
 tup:∀p vs,H p=ap (.tup vs)->H' p=ap (.tup vs)
 frz:∀p o u,H p=ap (.frz o u)->H' p=ap (.frz o u)
theorem Imm.refl:Imm H H:=⟨λ_ _ e=>e,λ_ _ _ e=>e⟩
theorem TpD.mono{vs:List V}(i:Imm H H')(h:TpD K H p vs):TpD K H' p vs:=i.tup _ _ h
theorem FzK.mono{vs:List V}(i:Imm H H')(h:FzK K H p vs):FzK K H' p vs:=h.imp (λ⟨o,e⟩=>⟨o,i.frz _ _ _ e⟩) λx=>x
theorem FzD.mono{vs:List V}(i:Imm H H')(h:FzD K H p vs):FzD K H' p vs:=let ⟨o,e⟩:=h;⟨o,i.frz _ _ _ e⟩
mutual
theorem Rp.mono{K:OA}{H H':Hp}(i:Imm H H'):∀{d:D}{v:V},Rp K H d v->Rp K H' d v
 |.non,_,h=>h
 |.bl _,_,h=>h
 |.int _,_,h=>h
 |.str _,_,h=>h
 |.ty _,_,h=>h
 |.ref _,_,h=>h
 |.tup _,_,h=>by
  obtain⟨p,a,e,t,r⟩:=h;exact⟨p,a,e,t.mono i,Rps.mono i r⟩
 |.lst _,_,h=>by
  obtain⟨p,a,e,t,r⟩:=h;exact⟨p,a,e,t.mono i,Rps.mono i r⟩
 |.mt _,_,h=>by
  obtain⟨p,a,e,t,r⟩:=h;exact⟨p,a,e,t,Rps.mono i r⟩
 |.ml _,_,h=>by
  obtain⟨p,a,e,t,r⟩:=h;exact⟨p,a,e,t.mono i,Rps.mono i r⟩
 |.fd _ _,_,h=>by
  obtain⟨p,a,e,⟨t,o,b⟩,r⟩:=h;exact⟨p,a,e,⟨t,o,i.frz _ _ _ b⟩,Rps.mono i r⟩
theorem Rps.mono{K:OA}{H H':Hp}(i:Imm H H'):∀{ds:List D}{vs:List V},Rps K H ds vs->Rps K H' ds vs
 |[],_,h=>h
 |_::_,_,h=>by
  obtain⟨v,r,e,a,b⟩:=h;exact⟨v,r,e,Rp.mono i a,Rps.mono i b⟩
end
section
theorem Rps.nil:Rps K H [] []:=rfl
theorem Rps.cons{d:D}{v:V}{ds:List D}{vs:List V}(a:Rp K H d v)(b:Rps K H ds vs):Rps K H (d::ds) (v::vs):=⟨v,vs,rfl,a,b⟩
theorem Rps.length:∀{ds:List D}{vs:List V},Rps K H ds vs->ds.length=vs.length
 |[],_,h=>by cases h;rfl
 |_::_,_,h=>by obtain⟨v,r,rfl,_,b⟩:=h;simp[b.length]
theorem Rps.get:∀{ds:List D}{vs:List V},Rps K H ds vs->∀{i:Nat}{d:D},ds[i]?=ap d->∃v,vs[i]?=ap v/\Rp K H d v
 |[],_,_,i,d,e=>by simp at e
 |x::xs,_,h,i,d,e=>by
  obtain⟨v,r,rfl,a,b⟩:=h;cases i with
  |zero=>simp at e;subst e;exact⟨v,by simp,a⟩
  |succ i=>simpa using b.get (by simpa using e)
theorem Rps.append:∀{ds es:List D}{vs f:List V},Rps K H ds vs->Rps K H es f->Rps K H (ds++es) (vs++f)
 |[],_,_,_,h,g=>by cases h;exact g
 |_::_,_,_,_,h,g=>by
  obtain⟨v,r,rfl,a,b⟩:=h;exact⟨v,_,rfl,a,b.append g⟩
theorem Rps.take:∀{ds:List D}{vs:List V}(n:Nat),Rps K H ds vs->Rps K H (ds.take n) (vs.take n)
 |[],_,n,h=>by cases h;simp[Rps]
 |_::_,_,0,h=>rfl
 |_::_,_,n+1,h=>by
  obtain⟨v,r,rfl,a,b⟩:=h;exact⟨v,_,rfl,a,b.take n⟩
theorem Rps.drop:∀{ds:List D}{vs:List V}(n:Nat),Rps K H ds vs->Rps K H (ds.drop n) (vs.drop n)
 |[],_,n,h=>by cases h;simp[Rps]
 |_::_,_,0,h=>h
 |_::_,_,n+1,h=>by
  obtain⟨v,r,rfl,a,b⟩:=h;exact b.drop n
theorem Rps.set{d:D}{v:V}(a:Rp K H d v):∀{ds:List D}{vs:List V}(i:Nat),Rps K H ds vs->Rps K H (ds.set i d) (vs.set i v)
 |[],_,_,h=>by cases h;rfl
 |_::_,_,0,h=>by obtain⟨w,r,rfl,_,b⟩:=h;exact⟨v,r,rfl,a,b⟩
 |_::_,_,i+1,h=>by obtain⟨w,r,rfl,c,b⟩:=h;exact⟨w,_,rfl,c,b.set a i⟩
theorem Rps.dropLast{ds:List D}{vs:List V}(h:Rps K H ds vs):Rps K H ds.dropLast vs.dropLast:=by
 rw[UL,UL,h.length];exact h.take _
theorem Rps.eraseIdx:∀{ds:List D}{vs:List V}(i:Nat),Rps K H ds vs->Rps K H (ds.eraseIdx i) (vs.eraseIdx i)
 |[],_,_,h=>by cases h;rfl
 |_::_,_,0,h=>by obtain⟨w,r,rfl,_,b⟩:=h;exact b
 |_::_,_,i+1,h=>by obtain⟨w,r,rfl,c,b⟩:=h;exact⟨w,_,rfl,c,b.eraseIdx i⟩
theorem uO:∀{a:Xj}{vs:List V},vs=a.map V.int->Rps K H (a.map D.int) vs
 |[],_,e=>e
 |i::a,_,e=>by subst e;exact⟨_,_,rfl,rfl,uO rfl⟩
end
inductive MO where
 |lst (xs:List D)
 |dK (Xd:List (aG×D))
 |dT (Xd:List (List aG×D))
 |ins (C:eg) (fs:List (Str×D))
abbrev Mem:=eg->Option MO
def Mem.upd(M:Mem)(a:eg)(o:MO):Mem:=λb=>if b=a then ap o else M b
def Mem.del(M:Mem)(a:eg):Mem:=λb=>if b=a then cm else M b
def Rkv{κ:Type}(K:OA)(H:Hp):List (κ×D)->List (κ×V)->Prop:=V8 λp q=>p.1=q.1/\Rp K H p.2 q.2
def RepO(K:OA)(H:Hp)(a:eg):MO->Prop
 |.lst xs=>∃vs,H a=ap (.lst vs)/\Rps K H xs vs
 |.dK Xd=>∃ws,H a=ap (.dK ws)/\Rkv K H Xd ws
 |.dT Xd=>∃ws,H a=ap (.dT ws)/\Rkv K H Xd ws
 |.ins C fs=>∃dx ws,H a=ap (.ins C dx ws)/\Rkv K H fs ws
def RepH(K:OA)(H:Hp)(M:Mem):Prop:=∀a o,M a=ap o->RepO K H a o
section
variable{a b:eg}{o:MO}{u:HO}
@[simp] theorem Mem.upd_same:(M.upd a o) a=ap o:=by simp[Mem.upd]
theorem ae(h:b≠a):(M.upd a o) b=M b:=by simp[Mem.upd,h]
@[simp] theorem Mem.upd_upd {o':MO}:(M.upd a o).upd a o'=M.upd a o':=by funext c;simp[Mem.upd];split<;>rfl
@[simp] theorem Mem.upd_del:(M.upd a o).del a=M.del a:=by funext c;simp[Mem.upd,Mem.del];split<;>rfl
theorem aD(h:M a=cm):M.del a=M:=by
 funext c;simp only[Mem.del];split
 .rename_i e;rw[e,h]
 .rfl
theorem aC{f:MO}(h:a≠b):(M.upd a o).upd b f=(M.upd b f).upd a o:=by
 funext c;simp only[Mem.upd];split
 .rename_i e;rw[e,if_neg (Pa h)]
 .rfl
theorem Mem.ne{o:MO}(h:M a=ap o)(h':M b=cm):a≠b:=by intro e;subst e;rw[h]at h';cases h'
theorem Rkv.mono{j:Type}{f:List (j×D)}{g:List (j×V)}(i:Imm H H')(h:Rkv K H f g):Rkv K H' f g:=eE h λ_ _ z=>⟨z.1,z.2.mono i⟩
theorem RepO.obj(r:RepO K H a o):∃u,H a=ap u:=by
 cases o with
 |lst xs=>obtain⟨f,e,_⟩:=r;exact⟨_,e⟩
 |dK xs=>obtain⟨f,e,_⟩:=r;exact⟨_,e⟩
 |dT xs=>obtain⟨f,e,_⟩:=r;exact⟨_,e⟩
 |ins C fs=>obtain⟨g,f,e,_⟩:=r;exact⟨_,e⟩
theorem RepO.keep(r:RepO K H a o)(i:Imm H H')(e:H' a=H a):RepO K H' a o:=by
 cases o with
 |lst xs=>obtain⟨f,q,z⟩:=r;exact⟨f,e.trans q,z.mono i⟩
 |dK xs=>obtain⟨f,q,z⟩:=r;exact⟨f,e.trans q,z.mono i⟩
 |dT xs=>obtain⟨f,q,z⟩:=r;exact⟨f,e.trans q,z.mono i⟩
 |ins C fs=>obtain⟨g,f,q,z⟩:=r;exact⟨g,f,e.trans q,z.mono i⟩
theorem RepH.fresh(r:RepH K H M)(h:H a=cm):M a=none:=by
 cases e:M a with
 |none=>rfl
 |some o=>obtain⟨u,q⟩:=(r a o e).obj;rw[h]at q;cases q
def y8:Option HO->Prop
 |some (.tup _)=>False
 |some (.frz _ _)=>False
 |_=>True
theorem Imm.upd(h:y8 (H a)):Imm H (upd H a u):=by
 refine⟨λp f e=>?_,λp o v e=>?_⟩
 .rw[aL];exact e
  rintro rfl;rw[e]at h;exact h
 .rw[aL];exact e
  rintro rfl;rw[e]at h;exact h
theorem Imm.new(h:H a=cm):Imm H (_2.upd H a u):=Imm.upd (by rw[h];trivial)
theorem RepO.loose(r:RepO K H a o):y8 (H a):=by
 cases o with
 |lst xs=>obtain⟨f,e,_⟩:=r;rw[e];trivial
 |dK xs=>obtain⟨f,e,_⟩:=r;rw[e];trivial
 |dT xs=>obtain⟨f,e,_⟩:=r;rw[e];trivial
 |ins C fs=>obtain⟨g,f,e,_⟩:=r;rw[e];trivial
theorem RepH.new(r:RepH K H M)(h:H a=cm):RepH K (_2.upd H a u) M:=λb o e=>by
 obtain⟨v,q⟩:=(r b o e).obj;exact(r b o e).keep (Imm.new h) (aL<|bg q h)
theorem RepH.put(r:RepH K H M)(h:y8 (H a))(n:RepO K (_2.upd H a u) a o):RepH K (_2.upd H a u) (M.upd a o):=λb p e=>by
 by_cases f:b=a
 .subst f;rw[Mem.upd_same]at e;cases e;exact n
 .rw[ae f]at e
  exact(r b p e).keep (Imm.upd h) (aL f)
theorem RepH.keep(r:RepH K H M)(i:Imm H H')(e:∀b o,M b=ap o->H' b=H b):RepH K H' M:=λb o q=>(r b o q).keep i (e b o q)
structure Frm(M:Mem)(H:Hp)(M':Mem)(H':Hp):Prop where
 keep:∀b u,H b=ap u->M b=cm->H' b=ap u/\M' b=cm
variable{M':Mem}
theorem Frm.refl:Frm M H M H:=⟨λ_ _ e n=>⟨e,n⟩⟩
theorem Frm.trans{M1 M2:Mem}{H2:Hp}(x:Frm M H M1 H1)(y:Frm M1 H1 M2 H2):Frm M H M2 H2:=⟨λb u e n=>let ⟨e1,n1⟩:=x.keep b u e n;y.keep b u e1 n1⟩
theorem Frm.imm(f:Frm M H M' H')(r:RepH K H M):Imm H H':=by
 have g:∀b u,H b=ap u->¬y8 (ap u)->H' b=ap u:=λb u e n=>(f.keep b u e (by
  cases q:M b with
  |none=>rfl
  |some o=>exact absurd (by rw[<- e];exact(r b o q).loose) n)).1
 exact⟨λp h e=>g p _ e (λz=>z),λp o u e=>g p _ e (λz=>z)⟩
theorem Frm.new(h:H a=cm):Frm M H M (_2.upd H a u):=⟨λb v e n=>⟨by rw[aL (bg e h)];exact e,n⟩⟩
theorem Frm.put(h:H a=cm\/∃o,M a=ap o):Frm M H (M.upd a o) (_2.upd H a u):=⟨λb v e n=>by
 have f:b≠a:=by
  rintro rfl
  rcases h with h|⟨o,h⟩
  .rw[h]at e;cases e
  .rw[h]at n;cases n
 exact⟨by rw[_2.aL f];exact e,by rw[ae f];exact n⟩⟩
theorem Frm.del(h:∃o,M a=ap o):Frm M H (M.del a) (_2.upd H a u):=⟨λb v e n=>by
 have f:b≠a:=by
  rintro rfl
  obtain⟨o,h⟩:=h;rw[h]at n;cases n
 refine⟨by rw[_2.aL f];exact e,?_⟩
 unfold Mem.del;rw[if_neg f];exact n⟩
theorem Rp.mf{d:D}{v:V}(x:Rp K H d v)(r:RepH K H M)(f:Frm M H M' H'):Rp K H' d v:=x.mono (f.imm r)
theorem Rps.mf{d:List D}{v:List V}(x:Rps K H d v)(r:RepH K H M)(f:Frm M H M' H'):Rps K H' d v:=x.mono (f.imm r)
end
abbrev Dl:=List (Option D)
abbrev DK:=D->Mem->Prop
abbrev bp:=Dl->Mem->DK->Prop
abbrev fC:=Dl->Mem->(Bool->Mem->Prop)->Prop
abbrev fj:=Dl->Mem->(List D->Mem->Prop)->Prop
structure RepS(K:OA)(H:Hp)(U:Dl)(Z:St):Prop where
 len:U.length=Z.length
 get:∀(i:Nat)(d:D),U[i]?=ap (ap d)->∃v,Z[i]?=ap (ap v)/\Rp K H d v
theorem RepS.mono(r:RepS K H U Z)(i:Imm H H'):RepS K H' U Z:=
 ⟨r.len,λj d e=>by obtain⟨v,a,b⟩:=r.get j d e;exact⟨v,a,b.mono i⟩⟩
theorem RepS.set{i:Nat}{d:D}{v:V}(r:RepS K H U Z)(h:Rp K H d v):RepS K H (U.set i<|some d) (Z.set i<|some v):=by
 refine⟨by simp[r.len],λj e q=>?_⟩
 rw[RX]at q ⊢
 by_cases a:i=j
 .rw[if_pos a]at q ⊢
  by_cases b:i<U.length
  .rw[if_pos (by rw[<- r.len];exact a▸b)]
   rw[if_pos (a▸b)]at q;cases q;exact⟨v,rfl,h⟩
  .rw[if_neg (a▸b)]at q;cases q
 .rw[if_neg a]at q ⊢
  exact r.get j e q
structure Bd where
 p:Mem->Hp->Prop
 go:∀{M M':Mem}{H H':Hp},p M H->Frm M H M' H'->p M' H'
def Bd.of(M:Mem)(H:Hp):Bd:=⟨λM' H'=>Frm M H M' H',λa b=>a.trans b⟩
structure SR(X:Cx)(B:Bd)(U:Dl)(M:Mem)(Z:St)(H:Hp):Prop where
 i0:B.p M H
 rh:RepH X.K H M
 rs:RepS X.K H U Z
theorem SR.go{M':Mem}(s:SR X B U M Z H)(rh:RepH X.K H' M')(i:Frm M H M' H'):SR X B U M' Z H':=⟨B.go s.i0 i,rh,s.rs.mono<|i.imm s.rh⟩
def Up(K:OA)(M:Mem)(H:Hp)(QQ:DK)(Q:VK):Prop:=∀d M',QQ d M'->∀v H',RepH K H' M'->Frm M H M' H'->Rp K H' d v->Q v H'
def UpT(K:OA)(M:Mem)(H:Hp)(QQ:Bool->Mem->Prop)(Q:Bool->Hp->Prop):Prop:=∀b M',QQ b M'->∀H',RepH K H' M'->Frm M H M' H'->Q b H'
def UpA(K:OA)(M:Mem)(H:Hp)(QQ:List D->Mem->Prop)(Q:List V->Hp->Prop):Prop:=∀ds M',QQ ds M'->∀vs H',RepH K H' M'->Frm M H M' H'->Rps K H' ds vs->Q vs H'
theorem Up.go{M1:Mem}{QQ:DK}{Q:VK}(u:Up K M H QQ Q)(i:Frm M H M1 H1):Up K M1 H1 QQ Q:=λd M' q v H' a b c=>u d M' q v H' a (i.trans b) c
theorem UpT.go{M1:Mem}{QQ:Bool->Mem->Prop}{Q:Bool->Hp->Prop}(u:UpT K M H QQ Q)(i:Frm M H M1 H1):UpT K M1 H1 QQ Q:=λd M' q H' a b=>u d M' q H' a (i.trans b)
inductive liftE(X:Cx)(B:Bd)(T:bp)(Z:St)(H:Hp)(Q:VK):Prop
 |mk (U:Dl) (M:Mem) (QQ:DK) (s:SR X B U M Z H) (h:T U M QQ) (u:Up X.K M H QQ Q):liftE X B T Z H Q
inductive liftT(X:Cx)(B:Bd)(T:fC)(Z:St)(H:Hp)(Q:Bool->Hp->Prop):Prop
 |mk (U:Dl) (M:Mem) (QQ:Bool->Mem->Prop) (s:SR X B U M Z H) (h:T U M QQ) (u:UpT X.K M H QQ Q):liftT X B T Z H Q
inductive liftA(X:Cx)(B:Bd)(T:fj)(Z:St)(H:Hp)(Q:List V->Hp->Prop):Prop
 |mk (U:Dl) (M:Mem) (QQ:List D->Mem->Prop) (s:SR X B U M Z H) (h:T U M QQ) (u:UpA X.K M H QQ Q):liftA X B T Z H Q
def DE(X:Cx)(B:Bd)(e:fy)(T:bp):Prop:=PE X e (liftE X B T)
def DT(X:Cx)(B:Bd)(e:fy)(T:fC):Prop:=PT X e (liftT X B T)
def DA(X:Cx)(B:Bd)(es:Xn)(T:fj):Prop:=PA X es (liftA X B T)
theorem aY{t t':TE}(h:PE X e t)(w:∀Z H Q,t' Z H Q->t Z H Q):PE X e t':=λa s Z H Q I q=>h a s Z H Q I (w Z H Q q)
theorem qt{t t':TT}(h:PT X e t)(w:∀Z H Q,t' Z H Q->t Z H Q):PT X e t':=λa s Z H Q I q=>h a s Z H Q I (w Z H Q q)
theorem y1{e:Xn}{t t':TA}(h:PA X e t)(w:∀Z H Q,t' Z H Q->t Z H Q):PA X e t':=λpos a s Z H Q I q=>h pos a s Z H Q I (w Z H Q q)
theorem bJ{e:tm}{t t':TS}(h:PS X e t)(w:∀D Z H,t' D Z H->t D Z H):PS X e t':=λa s Z H D I q=>h a s Z H D I (w D Z H q)
theorem mL{e:Xo}{t t':TS}(h:yv X e t)(w:∀D Z H,t' D Z H->t D Z H):yv X e t':=λa s Z H D I q=>h a s Z H D I (w D Z H q)
def ac(i:Nat):bp:=λU M Q=>match U[i]? with
 |some (ap d)=>Q d M
 |_=>False
def dC(d:D):bp:=λ_ M Q=>Q d M
section
variable{a b:fy}{ta tb tc:bp}
theorem KQ{i:Nat}{x:Str}(m:X.N[i]?=ap x)(n:Iw X.env.scope x)(j:(x==("__debug__":Str))=false:=by decide)(hcd:(x==("__classdict__":Str))=false:=by decide):DE X B (.Name x pos) (ac i):=by
 refine aY (Km m n j hcd) ?_
 rintro Z H Q ⟨U,M,QQ,s,h,u⟩
 unfold ac at h
 split at h
 .rename_i d e
  obtain⟨v,f,g⟩:=s.rs.get i d e;exact⟨v,f,u d M h v H s.rh Frm.refl g⟩
 .exact h.elim
theorem Cj{v:V}{d:D}(h:PE X e (tC v))(r:∀H,Rp X.K H d v):DE X B e (dC d):=by
 refine aY h ?_
 rintro Z H Q ⟨U,M,QQ,s,h,u⟩
 exact u d M h v H s.rh Frm.refl (r H)
theorem Kt{i j pos}:DE X B (.Constant (.int i) j pos) (dC<|.int i):=Cj Kl λ_=>rfl
theorem LR{i j pos}:DE X B (.Constant (.bool i) j pos) (dC<|.bl i):=Cj Oc λ_=>rfl
theorem Lu{j pos}:DE X B (.Constant .none j pos) (dC .non):=Cj Jj λ_=>rfl
theorem IK{i j pos}:DE X B (.Constant (.str i) j pos) (dC<|.str i):=Cj Cq λ_=>rfl
abbrev eY:=D->D->Mem->DK->Prop
inductive liftR2(X:Cx)(r:eY)(x y:V)(H:Hp)(Q:VK):Prop
 |mk (d1 d2:D) (M:Mem) (QQ:DK) (rh:RepH X.K H M) (r1:Rp X.K H d1 x) (r2:Rp X.K H d2 y) (h:r d1 d2 M QQ) (u:Up X.K M H QQ Q):liftR2 X r x y H Q
def ah(r:eY)(ta tb:bp):bp:=λU M Q=>ta U M λx M1=>tb U M1 λy M2=>r x y M2 Q
theorem kT{r:eY}{Q:VK}(h:liftE X B (ah r ta tb) Z H Q):MK (liftR2 X r) (liftE X B ta) (liftE X B tb) Z H Q:=by
 obtain⟨U,M,QQ,s,h,u⟩:=h;refine⟨U,M,_,s,h,λx M1 m v1 H1 f i1 n=>?_⟩;refine⟨U,M1,_,s.go f i1,m,λy M2 o v2 H2 g i j=>?_⟩;exact⟨x,y,M2,QQ,g,n.mf f i,j,o,u.go<|i1.trans i⟩
theorem gq{f:V4}{r:eY}(g:cF X (hB f) (liftR2 X r))(j:DE X B a ta)(i:DE X B b tb):DE X B (.BinOp a f b pos) (ah r ta tb):=aY (Mi g j i) λ_ _ _ h=>kT h
theorem Ln{f:CmpOp}{r:eY}(g:cF X (kc f) (liftR2 X r))(j:DE X B a ta)(i:DE X B b tb)(m:Wl f b=eC):DE X B (.Compare a [f] [b] pos) (ah r ta tb):=aY (EW g j i m) λ_ _ _ h=>kT h
theorem MW{r:eY}(j:IxR X (liftR2 X r))(i:DE X B a ta)(g:DE X B b tb)(f:x6 b):DE X B (.Subscript a b pos) (ah r ta tb):=aY (Oh j i g f) λ_ _ _ h=>kT h
def am(t:bp):fC:=λU M Q=>t U M λd M'=>match d with
 |.bl k=>Q k M'
 |_=>False
theorem cX{f:CmpOp}{r:eY}(n:cF X (kc f) (liftR2 X r))(w:DE X B a ta)(o:DE X B b tb)(y:Wl f b=eC):DT X B (.Compare a [f] [b] pos) (am<|ah r ta tb):=by
 refine qt (EC n w o y) ?_
 rintro Z H Q ⟨U,M,QQ,s,h,u⟩
 have g:liftE X B (ah r ta tb) Z H (λx H'=>∃k,x=.bl k/\Q k H'):=by
  refine⟨U,M,_,s,h,λd M' q v H' m i j=>?_⟩;cases d with
  |bl k=>exact⟨k,j,u k M' q H' m i⟩
  |_=>exact(show False from q).elim
 exact kT g
def Dw(M:Mem):D->Option Bool
 |.non=>ap eC
 |.bl b=>ap b
 |.int i=>ap (i != 0)
 |.str y=>if y.length<=sizeLine then ap ((y.length:Int) != 0) else cm
 |.tup xs=>ap (!xs.isEmpty)
 |.lst xs=>ap (!xs.isEmpty)
 |.ref a=>match M a with
  |some (.lst xs)=>ap (!xs.isEmpty)
  |some (.dK xs)=>ap (!xs.isEmpty)
  |_=>cm
 |_=>cm
def dm(t:bp):fC:=λU M Q=>t U M λd M'=>match Dw M' d with
 |some k=>Q k M'
 |none=>False
theorem gb{ds:List D}{vs:List V}(r:Rps K H ds vs):vs.isEmpty=ds.isEmpty:=by
 have:=r.length;cases ds<;>cases vs<;>simp_all
theorem JN{d:D}{v:V}{k:Bool}(m:RepH K H M)(r:Rp K H d v)(e:Dw M d=ap k):KF K v H k:=by
 cases d with
 |non=>cases r;cases e;rfl
 |bl b=>cases r;cases e;rfl
 |int i=>cases r;cases e;rfl
 |str y=>
  cases r;simp only[Dw]at e
  split at e
  .cases e;exact⟨by assumption,rfl⟩
  .cases e
 |ty n=>cases e
 |tup g=>
  obtain⟨p,f,rfl,t,r⟩:=r;cases e;exact .inr (.inl ⟨f,t.sq,by rw[gb r]⟩)
 |mt g=>cases e
 |ml g=>cases e
 |fd _ _=>cases e
 |lst g=>
  obtain⟨p,f,rfl,t,r⟩:=r;cases e;exact .inl ⟨f,t.sq,by rw[gb r]⟩
 |ref a=>
  cases r;simp only[Dw]at e
  split at e
  .rename_i g q
   obtain⟨f,h,j⟩:=m _ _ q;cases e;exact .inl ⟨f,SqL.of h,by rw[gb j]⟩
  .rename_i g q
   obtain⟨f,h,j⟩:=m _ _ q;cases e;refine .inr (.inr ⟨f,h,?_⟩);cases j<;>rfl
  .cases e
theorem Ju(h:DE X B e ta)(m:∀f,WW e X.env f=(do let v <- f;VX e.pos;vb [v] (truthy v)):=by intro _;rfl):DT X B e (dm ta):=by
 refine qt (By h m) ?_
 rintro Z H Q ⟨U,M,QQ,s,h,u⟩
 refine⟨U,M,_,s,h,λd M' q v H' g i j=>?_⟩
 split at q
 .rename_i k e
  exact⟨k,JN g j e,u k M' q H' g i⟩
 .exact q.elim
def i9(t:fC):fC:=λU M Q=>t U M λc M1=>Q (!c) M1
theorem Li{f:fC}(j:DT X B a f):DT X B (.UnaryOp .Not a pos) (i9 f):=by
 refine qt (KM j) ?_
 rintro Z H Q ⟨U,M,QQ,s,h,u⟩
 exact⟨U,M,_,s,h,λc M' q H' g i=>u _ M' q H' g i⟩
end
section
variable{a b:fy}{ta tb tc:bp}{tA tB':fC}{rest:Xn}
def DW(X:Cx)(B:Bd)(e:fy)(T:fC):Prop:=PW X e (liftT X B T)
theorem Ot{T:fC}(h:DW X B e T):DT X B e T:=Ou h
theorem wF{t t':TT}(h:PW X e t)(w:∀Z H Q,t' Z H Q->t Z H Q):PW X e t':=λg f s Z H Q I q=>h g f s Z H Q I (w Z H Q q)
def vV(t u:fC):fC:=λU M Q=>t U M λc M1=>if c=true then u U M1 Q else Q eC M1
def Ak(t u:fC):fC:=λU M Q=>t U M λc M1=>if c=true then Q true M1 else u U M1 Q
theorem Fc(f:DT X B a tA):DW X B (.BoolOp .And [a] pos) tA:=E6 f
theorem KL(f:DT X B a tA):DW X B (.BoolOp .Or [a] pos) tA:=IM f
theorem Kn(j:DT X B a tA)(g:DW X B (.BoolOp .And (b::rest) pos) tB'):DW X B (.BoolOp .And (a::b::rest) pos) (vV tA tB'):=by
 refine wF (J4 j g) ?_
 rintro Z H Q ⟨U,M,QQ,s,h,u⟩
 refine⟨U,M,_,s,h,λc M' q H' f i=>?_⟩;cases c with
 |true=>rw[if_pos rfl]at q ⊢;exact⟨U,M',QQ,s.go f i,q,u.go i⟩
 |false=>rw[if_neg OW]at q ⊢;exact u _ M' q H' f i
theorem L_(j:DT X B a tA)(g:DW X B (.BoolOp .Or (b::rest) pos) tB'):DW X B (.BoolOp .Or (a::b::rest) pos) (Ak tA tB'):=by
 refine wF (LJ j g) ?_
 rintro Z H Q ⟨U,M,QQ,s,h,u⟩
 refine⟨U,M,_,s,h,λc M' q H' f i=>?_⟩;cases c with
 |false=>rw[if_neg OW]at q ⊢;exact⟨U,M',QQ,s.go f i,q,u.go i⟩
 |true=>rw[if_pos rfl]at q ⊢;exact u _ M' q H' f i
def o9(t:fC)(ta tb:bp):bp:=λU M Q=>t U M λc M1=>if c=true then ta U M1 Q else tb U M1 Q
theorem Db(g:DT X B c tA)(m:DE X B a ta)(j:DE X B b tb):DE X B (.IfExp c a b pos) (o9 tA ta tb):=by
 refine aY (B0 g m j) ?_
 rintro Z H Q ⟨U,M,QQ,s,h,u⟩
 refine⟨U,M,_,s,h,λc M' q H' f i=>?_⟩;cases c with
 |true=>rw[if_pos rfl]at q ⊢;exact⟨U,M',QQ,s.go f i,q,u.go i⟩
 |false=>rw[if_neg OW]at q ⊢;exact⟨U,M',QQ,s.go f i,q,u.go i⟩
variable{es:Xn}{te:bp}{t:fj}
def af:fj:=λ_ M Q=>Q [] M
def aa(ta:bp)(tr:fj):fj:=λU M Q=>ta U M λx M1=>tr U M1 λf M2=>Q (x::f) M2
theorem IR:DA X B [] af:=by
 refine y1 CB ?_
 rintro Z H Q ⟨U,M,QQ,s,h,u⟩
 exact u [] M h [] H s.rh Frm.refl .nil
theorem EN(v:DE X B e te)(y:DA X B es t)(w:fe (e::es) X.env=(eC,gp e X.env)::fe es X.env:=by rfl):DA X B (e::es) (aa te t):=by
 refine y1 (xy v y w) ?_
 rintro Z H Q ⟨U,M,QQ,s,h,u⟩
 refine⟨U,M,_,s,h,λx M1 n v1 H1 f j o=>?_⟩;refine⟨U,M1,_,s.go f j,n,λz M2 q v2 H2 g i m=>?_⟩;exact u _ M2 q _ H2 g (j.trans i) (.cons (o.mf f i) m)
def aK(t:fj):bp:=λU M Q=>t U M λf M1=>f.length<=sizeLine/\Q (.tup f) M1
def bQ(t:fj):bp:=λU M Q=>t U M λf M1=>f.length<=sizeLine/\∀p,M1 p=cm->Q (.ref p) (M1.upd p<|.lst f)
theorem KW{x1}(h:DA X B es t):DE X B (.Tuple es x1 pos) (aK t):=by
 refine aY (II h) ?_
 rintro Z H Q ⟨U,M,QQ,s,h,u⟩
 refine⟨U,M,_,s,h,λn M1 i v1 H1 f m j=>⟨by rw[<- j.length];exact i.1,λp g=>?_⟩⟩
 exact u _ M1 i.2 _ _ (f.new g) (m.trans<|Frm.new g) ⟨p,v1,rfl,upd_same,j.mono<|Imm.new g⟩
theorem Kf(h:DA X B es t):DE X B (.List es pos) (bQ t):=by
 refine aY (Kb h) ?_
 rintro Z H Q ⟨U,M,QQ,s,h,u⟩
 refine⟨U,M,_,s,h,λxs M1 h1 v1 H1 rh1 i1 r1=>⟨by rw[<- r1.length];exact h1.1,λp hp=>?_⟩⟩
 exact u _ _ (h1.2 p<|rh1.fresh hp) _ _ (rh1.put (by rw[hp];trivial) ⟨v1,upd_same,r1.mono<|Imm.new hp⟩) (i1.trans<|Frm.put<|.inl hp) rfl
theorem Inv.freeze{g:Xq}{Z:_2.St}{s:el}{vs:List V}(I:Inv X g Z H s)(h:H p=ap (.lst vs)):∃o,Inv X g Z (upd H p<|.frz o<|.lst vs) s:=by
 obtain⟨i,n,r,e,z⟩:=I.lst h;have ne:∀{b:eg}{u:Option HO},H b=u->u≠ap (.lst vs)->b≠p:=λ{b u} q G z=>by subst z;rw[h]at q;exact G q.symm
 refine⟨{ cls:=.type "list",data:=.seq i.toArray n },I.ok,I.os,I.bare,⟨I.base.keep,I.base.slot,λb o q E F=>?_,I.base.there,λb m q=>?_,λb o u q=>?_,λb J q=>?_⟩,I.loc,I.cell,?_,λx c q=>?_,λC L=>?_,λb o q=>?_,I.len⟩
 .have f:=I.base.free b o q E F
  rw[aL (ne f<|by simp)];exact f
 .have f:=I.base.tups b m q
  rw[aL (ne f<|by simp)];exact f
 .have f:=I.base.frzs b o u q
  rw[aL (ne f<|by simp)];exact f
 .obtain⟨more,f⟩:=I.base.tbls b J q
  exact⟨more,by rw[aL (ne f<|by simp)];exact f⟩
 .rw[aL (ne I.free<|by simp)];exact I.free
 .have f:=I.freeC x c q
  rw[aL (ne f<|by simp)];exact f
 .obtain⟨w,v,A⟩:=I.pin C L
  exact⟨w,by rw[aL (ne v<|by simp)];exact v,A⟩
 .by_cases j:b=p
  .subst j
   rw[upd_same]at q;cases q;refine⟨e,?_⟩;exact⟨z,i,n,r,e⟩
  .rw[aL j]at q
   refine (I.hok b o q).stay (λ_ _ _ y=>y) (λc y=>?_) λc m y=>?_
   .rw[aL (ne y<|by simp)];exact y
   .rw[aL (ne y<|by simp)];exact y
def frz(d:D)(M:Mem)(Q:DK):Prop:=match d with
 |.ref a=>match M a with
  |some (.lst xs)=>Q (.lst xs) (M.del a)
  |_=>Q d M
 |_=>Q d M
def ao(t:bp):bp:=λU M Q=>t U M λd M'=>frz d M' Q
theorem RepH.freeze{vs:List V}{o:Obj}(r:RepH K H M)(h:H p=ap (.lst vs)):RepH K (upd H p<|.frz o<|.lst vs) (M.del p):=λb u e=>by
 unfold Mem.del at e
 split at e
 .cases e
 .rename_i hb
  exact(r b u e).keep (Imm.upd<|by rw[h];trivial) (aL hb)
theorem Jl(h:DE X B e te):DE X B e (ao te):=by
 intro g s Z H Q I n;obtain⟨U,M,QQ,z,x,u⟩:=n;refine bq (h g s Z H (λv H'=>∃d M',RepH X.K H' M'/\Frm M H M' H'/\Rp X.K H' d v/\frz d M' QQ) I ⟨U,M,_,z,x,λd M' q v H' f i r=>⟨d,M',f,i,r,q⟩⟩) ?_
 rintro w E ⟨v,H',I',m,d,M',f,i,r,q⟩
 unfold frz at q
 split at q
 .rename_i a
  split at q
  .rename_i C e
   obtain⟨y,j,A⟩:=f _ _ e;obtain⟨o,I2⟩:=Inv.freeze I' j;refine⟨v,_,I2,m,u _ _ q v _ (f.freeze j) (i.trans<|Frm.del ⟨_,e⟩) ?_⟩;exact⟨a,y,r,⟨o,upd_same⟩,A.mono<|Imm.upd<|by rw[j];trivial⟩
  .exact⟨v,H',I',m,u _ _ q v H' f i r⟩
 .exact⟨v,H',I',m,u _ _ q v H' f i r⟩
end
def gW(M:Mem):D->Option (List D)
 |.lst xs=>ap xs
 |.ref a=>match M a with
  |some (.lst xs)=>ap xs
  |_=>cm
 |_=>cm
def aJ(M:Mem):D->Option (List D)
 |.tup xs=>ap xs
 |.lst xs=>ap xs
 |.mt xs=>ap xs
 |.ml xs=>ap xs
 |.ref a=>match M a with
  |some (.lst xs)=>ap xs
  |_=>cm
 |_=>cm
section
variable{d:D}{v:V}{xs:List D}
theorem jb(i:RepH K H M)(r:Rp K H d v)(e:gW M d=ap xs):∃p vs,v=.ref p/\Rd H p (.lst vs)/\Rps K H xs vs:=by
 cases d with
 |lst g=>
  cases e;obtain⟨p,vs,rfl,⟨o,h⟩,r⟩:=r;exact⟨p,vs,rfl,.inr ⟨o,h⟩,r⟩
 |ref a=>
  simp only[gW]at e
  split at e
  .rename_i g q
   cases e;obtain⟨vs,b,f⟩:=i _ _ q;exact⟨a,vs,r,.inl b,f⟩
  .cases e
 |_=>cases e
theorem jp(i:RepH K H M)(r:Rp K H d v)(e:aJ M d=ap xs):∃p vs,v=.ref p/\(SqL K H p vs\/ij K H p vs)/\Rps K H xs vs:=by
 cases d with
 |tup b=>
  cases e;obtain⟨p,vs,rfl,h,r⟩:=r;exact⟨p,vs,rfl,.inr h.sq,r⟩
 |lst b=>
  cases e;obtain⟨p,vs,rfl,h,r⟩:=r;exact⟨p,vs,rfl,.inl h.sq,r⟩
 |mt b=>
  cases e;obtain⟨p,vs,rfl,h,r⟩:=r;exact⟨p,vs,rfl,.inr h.sq,r⟩
 |ml b=>
  cases e;obtain⟨p,vs,rfl,h,r⟩:=r;exact⟨p,vs,rfl,.inl h.sq,r⟩
 |ref a=>
  simp only[aJ]at e
  split at e
  .rename_i b q
   cases e;obtain⟨vs,f,g⟩:=i _ _ q;exact⟨a,vs,r,.inl (SqL.of f),g⟩
  .cases e
 |_=>cases e
theorem Ej:cF X (hB .Add) (λx y H Q=>∃l b xs zs,x=.ref l/\y=.ref b/\Rd H l (.lst xs)/\Rd H b (.lst zs)/\xs.length+zs.length<=sizeLine/\∀p,H p=cm->Q (.ref p) (upd H p<|.lst (xs++zs))):=by
 intro i s Z H x y v u Q I m j h;obtain⟨l,b,xs,zs,rfl,rfl,C,A,G,q⟩:=h;cases m;cases j;obtain⟨z,f,n,r,e⟩:=C.ok I.hok;obtain⟨J,a,L,g,w⟩:=A.ok I.hok;have F:=r.length;have o:=g.length;refine PySem.P.add_list e w ?_ (by rw[OG,OG];lia)
 have E:f.toArray++a.toArray=(f++a).toArray:=by simp
 rw[E];exact⟨.ref _,_,I.lnew (t':=s.toks) (r.append g) (by rw[OH];lia),rfl,q _ I.fresh⟩
def aW:eY:=λx y M Q=>match x,y with
 |.int i,.int j=>Q (.int (i+j)) M
 |.str a,.str b=>a.length+b.length<=sizeLine/\Q (.str (a++b)) M
 |.tup xs,.tup ys=>xs.length+ys.length<=sizeLine/\Q (.tup (xs++ys)) M
 |x,y=>match gW M x,gW M y with
  |some xs,ap ys=>xs.length+ys.length<=sizeLine/\∀p,M p=cm->Q (.ref p) (M.upd p<|.lst (xs++ys))
  |_,_=>False
theorem EO:cF X (hB .Add) (liftR2 X aW):=by
 intro Xb s Z H x y v u Q I rx ry h;obtain⟨d1,d2,M,QQ,rh,r1,r2,h,up⟩:=h;unfold aW at h
 split at h
 .cases r1;cases r2
  exact Jf Xb s Z H _ _ v u Q I rx ry ⟨_,_,rfl,rfl,up _ M h _ H rh Frm.refl rfl⟩
 .cases r1;cases r2
  exact vf Xb s Z H _ _ v u Q I rx ry ⟨_,_,rfl,rfl,h.1,up _ M h.2 _ H rh Frm.refl rfl⟩
 .obtain⟨p,vs,rfl,t1,r1⟩:=r1
  obtain⟨p',vs',rfl,t2,r2⟩:=r2;have l1:=r1.length;have l2:=r2.length;have r12:=r1.append r2
  by_cases hx:vs=[]
  .subst hx
   have hu:=up _ M h.2 (.ref p') H rh Frm.refl ⟨p',vs',rfl,t2,r12⟩;exact Aw Xb s Z H _ _ v u Q I rx ry ⟨p,p',vs',rfl,rfl,t1.sq,t2.sq,hu⟩
  .refine ED Xb s Z H _ _ v u Q I rx ry ⟨p,p',vs,vs',rfl,rfl,t1.sq,t2.sq,hx,by lia,λe=>?_,λ_ q hq=>?_⟩
   .subst e
    rw[Pw]at r12;exact up _ M h.2 (.ref p) H rh Frm.refl ⟨p,vs,rfl,t1,r12⟩
   .exact up _ M h.2 _ _ (rh.new hq) (Frm.new hq) ⟨q,_,rfl,upd_same,r12.mono<|Imm.new hq⟩
 .split at h
  .rename_i xs ys e1 e2
   obtain⟨p,vs,rfl,t1,r1⟩:=jb rh r1 e1;obtain⟨p',vs',rfl,t2,r2⟩:=jb rh r2 e2;have l1:=r1.length;have l2:=r2.length;refine Ej Xb s Z H _ _ v u Q I rx ry ⟨p,p',vs,vs',rfl,rfl,t1,t2,by lia,λq hq=>?_⟩
   exact up _ _ (h.2 q<|rh.fresh hq) _ _ (rh.put (by rw[hq];trivial) ⟨_,upd_same,(r1.append r2).mono<|Imm.new hq⟩) (Frm.put<|.inl hq) rfl
  .exact h.elim
def oI(C:Int->Int->Prop)(g:Int->Int->D):eY:=λx y M Q=>match x,y with
 |.int i,.int j=>C i j/\Q (g i j) M
 |_,_=>False
theorem CP{f:ay->ay->Sem ay}{C:Int->Int->Prop}{g:Int->Int->V}{g':Int->Int->D}(h:cF X f (rI C g))(e:∀i j K H,Rp K H (g' i j) (g i j)):cF X f (liftR2 X<|oI C g'):=by
 intro b s Z H x y v u Q I o m a;obtain⟨E,A,M,QQ,w,q,n,a,z⟩:=a;unfold oI at a
 split at a
 .cases q;cases n
  exact h b s Z H _ _ v u Q I o m ⟨_,_,rfl,rfl,a.1,z _ M a.2 _ H w Frm.refl<|e _ _ _ _⟩
 .exact a.elim
def jt(g:Int->Int->D):eY:=λx y M Q=>match x,y with
 |.int i,.int j=>Q (g i j) M
 |_,_=>False
theorem jZ{f:ay->ay->Sem ay}{g:Int->Int->V}{g':Int->Int->D}(h:cF X f (Am g))(e:∀i j K H,Rp K H (g' i j) (g i j)):cF X f (liftR2 X<|jt g'):=by
 intro b s Z H x y v u Q I o m a;obtain⟨C,A,M,QQ,w,q,n,a,z⟩:=a;unfold jt at a
 split at a
 .cases q;cases n
  exact h b s Z H _ _ v u Q I o m ⟨_,_,rfl,rfl,z _ M a _ H w Frm.refl<|e _ _ _ _⟩
 .exact a.elim
abbrev fI:eY:=jt λi j=>.int (i-j)
theorem FW:cF X (hB .Sub) (liftR2 X fI):=jZ IY λ_ _ _ _=>rfl
abbrev dg:eY:=oI (λ_ j=>0<j) λi j=>.int (i % j)
theorem G3:cF X (hB .Mod) (liftR2 X dg):=CP JT λ_ _ _ _=>rfl
def wW(_ j:Int):Prop:=0<j/\j<2 ^ 200
theorem Cn:cF X (hB .FloorDiv) (rI wW λi j=>.int (i / j)):=by
 intro a s Z H x y v u Q I m g h;obtain⟨i,j,rfl,rfl,w,q⟩:=h;obtain⟨z,o⟩:=w;have f:((j.toNat:Nat):Int)=j:=by lia
 refine AW (n:=j.toNat) ?_ (by lia) a s Z H _ _ v u Q I m g ⟨i,j,rfl,rfl,f.symm,q⟩
 have b:j.toNat<2 ^ 200:=by
  have:((j.toNat:Nat):Int)<((2 ^ 200:Nat):Int):=by rw[f,Int.natCast_pow];exact o
  exact Int.ofNat_lt.mp this
 have:=(UU (n:=j.toNat) (k:=200)<|by lia).mpr b
 lia
abbrev i7:eY:=oI wW λi j=>.int (i / j)
theorem Ck:cF X (hB .FloorDiv) (liftR2 X i7):=CP Cn λ_ _ _ _=>rfl
abbrev Im:eY:=oI Fb λi j=>.int (i ^ j.toNat)
theorem Ek:cF X (hB .Pow) (liftR2 X Im):=CP KP λ_ _ _ _=>rfl
abbrev N6:eY:=jt λi j=>.int (Builtin.bitXor i j)
theorem F4:cF X (hB .BitXor) (liftR2 X N6):=jZ Jr λ_ _ _ _=>rfl
abbrev Kx:eY:=jt λi j=>.int (RD i j)
theorem DY:cF X (hB .BitAnd) (liftR2 X Kx):=jZ Kd λ_ _ _ _=>rfl
abbrev oOr:eY:=jt λi j=>.int (So i j)
theorem JJ:cF X (hB .BitOr) (liftR2 X oOr):=jZ O7 λ_ _ _ _=>rfl
abbrev Lm:eY:=oI Fb λi j=>.int (i*2 ^ j.toNat)
theorem Fh:cF X (hB .LShift) (liftR2 X Lm):=CP KC λ_ _ _ _=>rfl
abbrev Iz:eY:=oI (λ_ j=>0<=j) λi j=>.int (i / 2 ^ j.toNat)
theorem Fi:cF X (hB .RShift) (liftR2 X Iz):=CP L8 λ_ _ _ _=>rfl
abbrev uQ:eY:=jt λi j=>.bl (decide (i<j))
theorem KN:cF X (kc .Lt) (liftR2 X uQ):=jZ MQ λ_ _ _ _=>rfl
abbrev oLe:eY:=jt λi j=>.bl (decide (i<=j))
theorem Jm:cF X (kc .LtE) (liftR2 X oLe):=jZ Mh λ_ _ _ _=>rfl
abbrev uf:eY:=jt λi j=>.bl (decide (j<i))
theorem Ik:cF X (kc .Gt) (liftR2 X uf):=jZ MV λ_ _ _ _=>rfl
abbrev oGe:eY:=jt λi j=>.bl (decide (j<=i))
theorem Ko:cF X (kc .GtE) (liftR2 X oGe):=jZ Oq λ_ _ _ _=>rfl
theorem Cz{c:Nat}:∀(k:Nat)(Xe:Array Nat),(Pe k #[c]).foldl (·++·) Xe=Xe++Qz k c
 |0,Xe=>by simp
 |k+1,Xe=>by
  rw[PM,PF,Cz k (Xe++#[c])];apply Array.ext';simp[PM]
theorem Cw:cF X (hB .Mult) (λx y H Q=>∃c k,x=.str ⟨#[c]⟩/\y=.int k/\1<=k/\k<=1000/\Q (.str ⟨Qz k.toNat c⟩) H):=by
 intro g s Z H x y v u Q I j i h;obtain⟨c,k,rfl,rfl,w,z,q⟩:=h;obtain⟨t,rfl⟩:=j;obtain⟨o,rfl⟩:=i;have a:(⟨#[c]⟩:Str).length=1:=rfl;have n:sizeLine=16777216:=rfl;refine PySem.P.mul_str ?_ ?_ ?_ ?_
 .rw[decide_eq_false (by lia),decide_eq_false (by lia)];rfl
 .intro _ _ m
  rw[a]at m;have:(1:Int)<=(2 ^ 63-1) / k:=Int.le_ediv_of_mul_le (by lia) (by lia)
  lia
 .intro _ _
  rw[a];unfold PySem.Builtin.Str.tooLong;exact decide_eq_false (by lia)
 .rw[if_neg (by lia)]
  by_cases b:k=1
  .rw[if_pos (by rw[b];rfl)]
   subst b;exact⟨.str ⟨#[c]⟩,H,I,⟨_,rfl⟩,q⟩
  .rw[if_neg (by simp[a,b])]
   have f:(Pe k.toNat #[c]).foldl (·++·) #[]=Qz k.toNat c:=by rw[Cz];simp
   refine⟨?_,.str ⟨(Pe k.toNat #[c]).foldl (·++·) #[]⟩,H,I.tok _,⟨_,rfl⟩,by rw[f];exact q⟩
   show ((Pe k.toNat #[c]).foldl (·++·) #[]).size<=sizeLine;rw[f];simp;lia
def cI:eY:=λx y M Q=>match x,y with
 |.int i,.int j=>CMul i j/\Q (.int (i*j)) M
 |.str z,.int k=>match z.cps.toList with
  |[c]=>1<=k/\k<=1000/\Q (.str ⟨Qz k.toNat c⟩) M
  |_=>False
 |.tup xs,.int k=>xs≠[]/\0<=k/\k<=1000/\xs.length<=1000/\Q (.tup (Pe k.toNat xs).flatten) M
 |_,_=>False
theorem Rps.rep{ds:List D}{vs:List V}(h:Rps K H ds vs):∀k:Nat,Rps K H (Pe k ds).flatten (Pe k vs).flatten
 |0=>rfl
 |k+1=>by
  rw[PM,PM,QH,QH];exact h.append (Rps.rep h k)
theorem FE:cF X (hB .Mult) (liftR2 X cI):=by
 intro a s Z H x y v u Q I G E h;obtain⟨Y,C,M,QQ,m,f,F,h,n⟩:=h;cases Y with
 |int i=>
  cases C with
  |int j=>
   cases f;cases F;exact JG a s Z H _ _ v u Q I G E ⟨_,_,rfl,rfl,h.1,n _ M h.2 _ H m Frm.refl rfl⟩
  |_=>exact(show False from h).elim
 |str z=>
  cases C with
  |int k=>
   cases f;cases F;simp only[cI]at h
   split at h
   .rename_i c e
    have O:z=⟨#[c]⟩:=by
     obtain⟨⟨l⟩⟩:=z;have P:l=[c]:=e;rw[P]
    subst O;exact Cw a s Z H _ _ v u Q I G E ⟨_,_,rfl,rfl,h.1,h.2.1,n _ M h.2.2 _ H m Frm.refl rfl⟩
   .exact h.elim
  |_=>exact(show False from h).elim
 |tup xs=>
  cases C with
  |int k=>
   obtain⟨p,g,rfl,N,f⟩:=f;cases F;obtain⟨q,W,S,h4,J⟩:=h;have l1:=f.length;obtain⟨t,rfl⟩:=E;cases G;obtain⟨w,r,T,_⟩:=I.tuple N.sq;have hl:=r.length;refine zB T (λz=>q ?_) W S (by lia) (λe=>?_) λe=>?_
   .have L:w.length=0:=congrArg QM z
    exact Tj (by lia)
   .subst e
    refine⟨.ref p,H,I,rfl,n _ M J _ H m Frm.refl ⟨p,g,rfl,N,?_⟩⟩;simpa using f
   .have A:H s.heap.objs.size=none:=I.hok.fresh (OB _)
    have L:(Pe k.toNat g).flatten.length<=sizeLine:=by
     rw[FP];have q:k.toNat*g.length<=1000*1000:=Ss (by lia) (by lia)
     exact OV q (by decide)
    have R:Imm H (upd H s.heap.objs.size<|.tup (Pe k.toNat g).flatten):=Imm.new A;exact⟨.ref s.heap.objs.size,_,I.laid (t':=s.toks) (o:=.tup (Pe k.toNat g).flatten) (λb ob z=>Ow _ z) (OB _) ⟨L,_,r.rep k.toNat,⟨_,OI _ rfl,⟨rfl,_,rfl⟩,rfl⟩⟩,rfl,
     n _ M J _ _ (m.new A) (Frm.new A) ⟨_,_,rfl,upd_same,(f.rep _).mono R⟩⟩
  |_=>exact(show False from h).elim
 |_=>exact(show False from h).elim
def iV:D->Bool
 |.non=>true
 |_=>eC
def jC:eY:=λx y M Q=>match y with
 |.non=>Q (.bl<|iV x) M
 |_=>False
def h9:eY:=λx y M Q=>match y with
 |.non=>Q (.bl<|!iV x) M
 |_=>False
theorem AJ(r:Rp K H d v):decide (v=V.non)=iV d:=by
 cases d with
 |non=>cases r;rfl
 |tup xs=>obtain⟨p,a,rfl,_⟩:=r;rfl
 |lst xs=>obtain⟨p,a,rfl,_⟩:=r;rfl
 |mt xs=>obtain⟨p,a,rfl,_⟩:=r;rfl
 |ml xs=>obtain⟨p,a,rfl,_⟩:=r;rfl
 |fd ks xs=>obtain⟨p,a,rfl,_⟩:=r;rfl
 |_=>cases r;rfl
theorem G9:cF X (kc .Is) (liftR2 X jC):=by
 intro a s Z H x y v u Q I g b h;obtain⟨o,n,M,QQ,j,i,f,h,m⟩:=h;unfold jC at h
 split at h
 .cases f
  exact KU a s Z H _ _ v u Q I g b ⟨rfl,by rw[AJ i];exact m _ M h _ H j Frm.refl rfl⟩
 .exact h.elim
theorem De:cF X (kc .IsNot) (liftR2 X h9):=by
 intro a s Z H x y v u Q I g b h;obtain⟨o,n,M,QQ,j,i,f,h,m⟩:=h;unfold h9 at h
 split at h
 .cases f
  refine FS a s Z H _ _ v u Q I g b ⟨rfl,m _ M h _ H j Frm.refl ?_⟩;show _=V.bl _;rw[AJ i]
 .exact h.elim
end
section
variable{κ:Type}[DecidableEq κ]
def cT(Xd:List (κ×D))(k:κ):Option D:=(Xd.find? λa=>decide (a.1=k)).map (·.2)
def eK(Xd:List (κ×D))(k:κ)(v:D):List (κ×D):=
 if (Xd.any λa=>decide (a.1=k))=true then Xd.map (λa=>if a.1=k then (a.1,v) else a) else Xd++[(k,v)]
def oW(Xd:List (κ×D))(k:κ):List (κ×D):=Xd.filter λa=>decide (a.1≠k)
theorem Rkv.val{a:List (κ×D)}{f:List (κ×V)}(h:Rkv K H a f)(k:κ):(cT a k=cm/\dU f k=cm)\/∃d v,cT a k=ap d/\dU f k=ap v/\Rp K H d v:=by
 induction h with
 |nil=>exact .inl ⟨rfl,rfl⟩
 |@cons p q ps qs r t ih=>
  obtain⟨g,d⟩:=p;obtain⟨i,v⟩:=q;obtain⟨e,r⟩:=r;dsimp only at e r;subst e
  by_cases b:g=k
  .exact .inr ⟨d,v,by simp[cT,b],by simp[dU,b],r⟩
  .simpa [cT,dU,b] using ih
theorem Rkv.any{a:List (κ×D)}{b:List (κ×V)}(h:Rkv K H a b)(k:κ):(a.any λkv=>decide (kv.1=k))=(b.any λkv=>decide (kv.1=k)):=by
 induction h with
 |nil=>rfl
 |cons r t ih=>rw[Qn,Qn,ih,r.1]
theorem Rkv.put{a:List (κ×D)}{g:List (κ×V)}(h:Rkv K H a g)(k:κ){d:D}{v:V}(r:Rp K H d v):Rkv K H (eK a k d) (cN g k v):=by
 unfold eK cN;rw[h.any k]
 split
 .rename_i q;clear q
  induction h with
  |nil=>exact .nil
  |@cons p q ps qs rr t ih=>
   obtain⟨i,n⟩:=p;obtain⟨m,j⟩:=q;obtain⟨e,f⟩:=rr;dsimp only at e f;subst e;rw[Oy,Oy];refine .cons ?_ ih
   by_cases b:i=k
   .rw[if_pos b,if_pos b];exact⟨rfl,r⟩
   .rw[if_neg b,if_neg b];exact⟨rfl,f⟩
 .rename_i q;clear q
  induction h with
  |nil=>exact .cons ⟨rfl,r⟩ .nil
  |cons rr t ih=>exact .cons rr ih
theorem Rkv.drop{a:List (κ×D)}{g:List (κ×V)}(h:Rkv K H a g)(k:κ):Rkv K H (oW a k) (g_ g k):=by
 unfold oW g_
 induction h with
 |nil=>exact .nil
 |@cons p q ps qs rr t ih=>
  obtain⟨i,n⟩:=p;obtain⟨m,j⟩:=q;obtain⟨e,f⟩:=rr;dsimp only at e f;subst e
  by_cases b:i=k
  .simpa [b] using ih
  .simp only[Pg,ne_eq,b,not_false_eq_true,decide_true,if_true]
   exact .cons ⟨rfl,f⟩ ih
theorem Rkv.length{a:List (κ×D)}{b:List (κ×V)}(h:Rkv K H a b):a.length=b.length:=Qa h
end
def cL:D->Option aG
 |.int i=>ap (.inl i)
 |.str x=>ap (.inr x)
 |_=>cm
def i8:List D->Option (List aG)
 |[]=>ap []
 |d::ds=>match cL d,i8 ds with
  |some k,ap ks=>ap (k::ks)
  |_,_=>cm
def Lg:D->Option (List aG)
 |.tup xs=>i8 xs
 |_=>cm
section
theorem gD{d:D}{v:V}{k:aG}(r:Rp K H d v)(e:cL d=ap k):v=kV k:=by
 cases d with
 |int i=>cases e;exact r
 |str x=>cases e;exact r
 |_=>cases e
theorem nq:∀{ds:List D}{vs:List V}{ks:List aG},Rps K H ds vs->i8 ds=ap ks->vs=ks.map kV
 |[],vs,ks,r,e=>by cases e;exact r
 |d::ds,vs,ks,r,e=>by
  obtain⟨v,i,rfl,a,b⟩:=r;simp only[i8]at e
  split at e
  .rename_i k f g h
   cases e;rw[gD a g,nq b h];rfl
  .cases e
def pR(M:Mem)(a:eg)(y:D):Option (Option D):=match M a with
 |some (.dK Xd)=>match cL y with
  |some k=>ap (cT Xd k)
  |none=>cm
 |some (.dT Xd)=>match Lg y with
  |some k=>ap (cT Xd k)
  |none=>cm
 |_=>cm
theorem su{d:D}{v:V}{ks:List aG}(r:Rp K H d v)(e:Lg d=ap ks):∃b,v=.ref b/\H b=ap (.tup<|ks.map kV):=by
 cases d with
 |tup xs=>
  obtain⟨p,a,rfl,t,r⟩:=r;exact⟨p,rfl,by rw[<- nq r e];exact t⟩
 |_=>cases e
theorem lU{a:eg}{y:D}{v:V}{o:Option D}(s:RepH K H M)(r:Rp K H y v)(e:pR M a y=ap o):
  (o=cm/\DGet H a v cm)\/∃d w,o=ap d/\DGet H a v (ap w)/\Rp K H d w:=by
 unfold pR at e
 split at e
 .rename_i m j
  obtain⟨u,h,n⟩:=s _ _ j
  split at e
  .rename_i k i
   cases e;have x:=gD r i;subst x;rcases n.val k with⟨f,g⟩|⟨d,w,f,g,r'⟩
   .exact .inl ⟨f,by rw[<- g];exact DGet.k h⟩
   .exact .inr ⟨d,w,f,by rw[<- g];exact DGet.k h,r'⟩
  .cases e
 .rename_i m j
  obtain⟨u,h,n⟩:=s _ _ j
  split at e
  .rename_i k i
   cases e;obtain⟨b,rfl,q⟩:=su r i;rcases n.val k with⟨f,g⟩|⟨d,w,f,g,r'⟩
   .exact .inl ⟨f,by rw[<- g];exact DGet.t h q⟩
   .exact .inr ⟨d,w,f,by rw[<- g];exact DGet.t h q,r'⟩
  .cases e
 .cases e
end
end _3
namespace HT
open PySem PyProof.Rows
section
variable {prog:fx}{w:g3}{A:i5}{E:Xp}{s:el}
theorem gX{t j:eg}{items:Xs}{p n:ay}{a e:Option Int}{Q:Xp}(c:Wv s.heap t items)(q:s.heap.IsSliceOf j p n .none)(pl:Wg p a)(x:Wg n e)
  (o:sIx items.size 0 a=0/\sIx items.size items.size e=items.size) (h:Q (.ref t) s):eH (ff prog w) A (V6 (.ref t)<|.ref j) Q E s:=by
 obtain⟨v,f,i,u⟩:=id q;have g:s.TypeIs (.ref j) "slice":=⟨v,f,i⟩;unfold V6
 try with_reducible refine om ?_
 first|refine ax (eX ?_)|skip
 refine ax (wpAny_sequenceKey c.typeIs (by decide) ?_)
 refine ax (wpAny_callSpecial?_slot (name:=PD "__getitem__") c.typeIs PL
  (kr PL c.typeIs entry_tuple_getitem ?_<|args_tuple_getitem _ _))
 show eH _ _ (Sy (.ref t) >>= _) _ _ s;refine ax (tupleItemsOf_ c ?_);refine ax (SC g ?_);rw[if_pos (by decide)]
 refine ax (eM q pl x ?_);have b:((((sIx items.size 0 a:Nat):Int)==0&&(1:Int)==1&&(sIx items.size items.size e-sIx items.size 0 a)==items.size)=true):=by
  rw[o.1,o.2];simp
 show eH _ _ (if (((sIx items.size 0 a:Nat):Int)==0&&(1:Int)==1&&(sIx items.size items.size e-sIx items.size 0 a)==items.size)=true then _ else _) _ _ s
 rw[if_pos b];refine ax (m:=Builtin.Tuple.tupleIsExact _) (ax<|wpAny_typeOf c.typeIs<|wpAny_pure ?_);rw[if_pos (by decide)]
 first
  |exact ax (Ps<|wpAny_bind<|wpAny_pure<|wpAny_pure ⟨_,rfl,eX h⟩)
  |exact ax (Ps<|wpAny_pure ⟨_,rfl,eX h⟩)
  |exact ax (Ps<|wpAny_bind<|wpAny_pure ⟨_,rfl,eX h⟩)
  |trace_state
end
end HT
namespace _3
open PySem _2
variable{p p':eg}{A:i5}{a b:Xs}{B:Bd}{X:Cx}{c e tg:fy}{H:Hp}{Z:_2.St}{es:Xn}{Xh its':Xl}{M:Mem}{i n:Nat}{K:OA}{pos pos':Pos}{s:el}{x:Str}{u:ay}{tb:aE}{te:bp}{g:jK}
section
variable{a b:fy}{ta tb tc:bp}
def au:eY:=λx y M Q=>match aJ M x,y with
 |some xs,.int i=>match atI xs i with
  |some d=>Q d M
  |none=>False
 |some _,_=>False
 |none,y=>match x,y with
  |.str z,.int i=>z.length<=sizeLine/\match atI z.cps.toList i with
   |some c=>Q (.str ⟨#[c]⟩) M
   |none=>False
  |.ref a,y=>match pR M a y with
   |some (ap d)=>Q d M
   |_=>False
  |_,_=>False
theorem Rps.atI{ds:List D}{vs:List V}{i:Int}{d:D}(r:Rps K H ds vs)(e:atI ds i=ap d):∃v,_2.atI vs i=ap v/\Rp K H d v:=by
 unfold _2.atI at e ⊢;rw[<- r.length];cases q:rX ds.length i with
 |none=>rw[q]at e;cases e
 |some j=>
  rw[q]at e;exact r.get (i:=j) e
theorem EK(G:X.A.units+1<rc):IxR X (λx y H Q=>∃a v,x=.ref a/\DGet H a y (ap v)/\Q v H):=by
 intro f m o s Z H x y v u Q I C z h E;obtain⟨a,w,rfl,g,q⟩:=h;cases C;exact PyProof.Rows.tail_any (sS I g) PySem.F.slot_dict_getitem.lookup (oR G I g z λL J I3 j=>⟨w,H,I3,j,q⟩) E
theorem IN(W:X.A.units+1<rc):IxR X (liftR2 X au):=by
 intro f j m s Z H x y v u Q I J F h L;obtain⟨d1,d2,M,QQ,C,N,G,h,O⟩:=h;unfold au at h
 split at h
 .rename_i Y i e
  split at h
  .rename_i d E
   cases G;obtain⟨p,R,rfl,hq,r⟩:=jp C N e;obtain⟨w,P,o⟩:=r.atI E;refine Jg f j m s Z H _ _ v u Q I J F ?_ L;have q:=O _ M h _ H C Frm.refl o;rcases hq with hq|hq
   .exact .inl ⟨p,R,i,w,rfl,rfl,hq,P,q⟩
   .exact .inr (.inl ⟨p,R,i,w,rfl,rfl,hq,P,q⟩)
  .exact h.elim
 .exact h.elim
 .split at h
  .obtain⟨T,h⟩:=h
   split at h
   .rename_i U S
    cases N;cases G;exact Dg f j m s Z H _ _ v u Q I J F ⟨_,_,U,rfl,rfl,T,S,O _ M h _ H C Frm.refl rfl⟩ L
   .exact h.elim
  .split at h
   .rename_i d E
    cases N;rcases lU C G E with⟨z,_⟩|⟨d',w,z,g,o⟩
    .cases z
    .cases z
     exact EK W f j m s Z H _ _ v u Q I J F ⟨_,w,rfl,g,O _ M h _ H C Frm.refl o⟩ L
   .exact h.elim
  .exact h.elim
abbrev HE:=Dl->Mem->(Option Int->Mem->Prop)->Prop
inductive liftO(X:Cx)(B:Bd)(T:HE)(Z:St)(H:Hp)(Q:Option Int->Hp->Prop):Prop
 |mk (U:Dl) (M:Mem) (QQ:Option Int->Mem->Prop) (s:SR X B U M Z H) (h:T U M QQ) (u:∀o M',QQ o M'->∀H',RepH X.K H' M'->Frm M H M' H'->Q o H'):liftO X B T Z H Q
def DO(X:Cx)(B:Bd)(e:Option fy)(T:HE):Prop:=PO X e (liftO X B T)
theorem xg{e:Option fy}{t t':TO}(h:PO X e t)(w:∀Z H Q,t' Z H Q->t Z H Q):PO X e t':=λf s Z H Q I q=>h f s Z H Q I (w Z H Q q)
def bI:HE:=λ_ M Q=>Q cm M
def cK(t:bp):HE:=λU M Q=>t U M λx M1=>match x with
 |.int i=>Q (ap i) M1
 |_=>False
theorem FD:DO X B cm bI:=xg Gb λZ H Q ⟨U,M,QQ,s,h,u⟩=>u cm M h H s.rh Frm.refl
theorem E3(h:DE X B e te):DO X B (ap e) (cK te):=by
 refine xg (Fo h) ?_
 rintro Z H Q ⟨U,M,QQ,s,h,u⟩
 refine⟨U,M,_,s,h,λd M' q v H' f i r=>?_⟩;cases d with
 |int j=>exact⟨j,r,u _ M' q H' f i⟩
 |_=>exact(show False from q).elim
def kd(xs:List D)(lo hi:Option Int):List D:=(xs.drop<|HT.sIx xs.length 0 lo).take (HT.sIx xs.length xs.length hi-HT.sIx xs.length 0 lo)
theorem Rps.cut{ds:List D}{vs:List V}(r:Rps K H ds vs)(f h:Option Int):Rps K H (kd ds f h) (ki vs f h):=by
 unfold kd ki;rw[<- r.length];exact(r.drop _).take _
def Jt(x:D)(lo hi:Option Int)(M:Mem)(Q:DK):Prop:=match x with
 |.tup xs=>Q (.tup<|kd xs lo hi) M
 |.ml xs=>∀p,M p=cm->Q (.ref p) (M.upd p<|.lst<|kd xs lo hi)
 |x=>match gW M x with
  |some xs=>∀p,M p=cm->Q (.ref p) (M.upd p<|.lst<|kd xs lo hi)
  |none=>False
inductive liftSl(X:Cx)(x:V)(lo hi:Option Int)(H:Hp)(Q:VK):Prop
 |mk (d:D) (M:Mem) (QQ:DK) (rh:RepH X.K H M) (r:Rp X.K H d x) (h:Jt d lo hi M QQ) (u:Up X.K M H QQ Q):liftSl X x lo hi H Q
theorem vj{vs:List V}{f j:Option Int}(h:HT.sIx vs.length 0 f=0/\HT.sIx vs.length vs.length j=vs.length):ki vs f j=vs:=by
 unfold ki;rw[h.1,h.2];simp
theorem Fx:Mx X (λx lo hi H Q=>∃a xs,x=.ref a/\ij X.K H a xs/\(ki xs lo hi=xs->Q (.ref a) H)/\∀p,H p=cm->Q (.ref p) (upd H p<|.tup<|ki xs lo hi)):=by
 intro j s Z H x v J G lo hi E Q I o y pl w h;obtain⟨a,xs,rfl,z,F,q⟩:=h
 by_cases m:HT.sIx xs.length 0 lo=0/\HT.sIx xs.length xs.length hi=xs.length
 .cases o
  obtain⟨Xh,r,C,L⟩:=I.tuple z;have f:Xh.toArray.size=xs.length:=by rw[OG];exact r.length.symm
  refine⟨"tuple",_,PL.lookup,C.typeIs,?_⟩;exact HT.gX C y pl w (by rw[f];exact m) ⟨.ref a,H,I,rfl,F<|vj m⟩
 .exact Ll j s Z H _ v J G lo hi E Q I o y pl w ⟨a,xs,rfl,z,m,q⟩
end
section
variable{lo hi:Option fy}{tl th:HE}{p2 p:Pos}{t:fj}
theorem Ji:Mx X (liftSl X):=by
 intro Xb s Z H x v vl vu lo hi sl Q I rx hs pl pu h;obtain⟨d,M,QQ,rh,r,h,up⟩:=h;unfold Jt at h
 split at h
 .obtain⟨a,vs,rfl,ht,r⟩:=r
  refine Fx Xb s Z H _ v vl vu lo hi sl Q I rx hs pl pu ⟨a,vs,rfl,ht.sq,λe=>?_,λp hp=>?_⟩
  .exact up _ M h _ H rh Frm.refl ⟨a,vs,rfl,ht,by rw[<- e];exact r.cut lo hi⟩
  .exact up _ M h _ _ (rh.new hp) (Frm.new hp) ⟨p,_,rfl,upd_same,(r.cut lo hi).mono<|Imm.new hp⟩
 .obtain⟨a,vs,rfl,hq,r⟩:=r
  refine xh Xb s Z H _ v vl vu lo hi sl Q I rx hs pl pu ⟨a,vs,rfl,hq.sq,λp hp=>?_⟩;exact up _ _ (h p<|rh.fresh hp) _ _ (rh.put (by rw[hp];trivial) ⟨_,upd_same,(r.cut lo hi).mono<|Imm.new hp⟩) (Frm.put<|.inl hp) rfl
 .split at h
  .rename_i xs e
   obtain⟨a,vs,rfl,hq,r⟩:=jb rh r e;refine xh Xb s Z H _ v vl vu lo hi sl Q I rx hs pl pu ⟨a,vs,rfl,.inl hq,λp hp=>?_⟩;exact up _ _ (h p<|rh.fresh hp) _ _ (rh.put (by rw[hp];trivial) ⟨_,upd_same,(r.cut lo hi).mono<|Imm.new hp⟩) (Frm.put<|.inl hp) rfl
  .exact h.elim
def tR(te:bp)(tl th:HE):bp:=λU M Q=>te U M λx M1=>tl U M1 λl M2=>th U M2 λu M3=>Jt x l u M3 Q
theorem As(I:DE X B e te)(F:DO X B lo tl)(G:DO X B hi th):DE X B (.Subscript e (.Slice lo hi cm p2) pos) (tR te tl th):=by
 refine aY (BQ Ji I F G) ?_
 rintro Z H Q ⟨U,M,QQ,s,h,u⟩
 refine⟨U,M,_,s,h,λx M1 y v1 H1 f o C=>?_⟩;refine⟨U,M1,_,s.go f o,y,λl M2 E H2 q j=>?_⟩;refine⟨U,M2,_,s.go q (o.trans j),E,λw M3 z H3 m v=>?_⟩;exact⟨x,M3,QQ,m,C.mf f (j.trans v),z,u.go<|(o.trans j).trans v⟩
abbrev qv:=List D->Mem->DK->Prop
inductive liftC(X:Cx)(r:qv)(xs:List V)(H:Hp)(Q:VK):Prop
 |mk (ds:List D) (M:Mem) (QQ:DK) (rh:RepH X.K H M) (rp:Rps X.K H ds xs) (h:r ds M QQ) (u:Up X.K M H QQ Q):liftC X r xs H Q
def bz(r:qv)(t:fj):bp:=λU M Q=>t U M λf M1=>r f M1 Q
theorem yc{r:qv}{Q:VK}(h:liftE X B (bz r t) Z H Q):tCB (liftC X r) (liftA X B t) Z H Q:=by
 obtain⟨U,M,QQ,s,h,u⟩:=h;refine⟨U,M,_,s,h,λo M1 q v H1 f j m=>?_⟩;exact⟨o,M1,QQ,f,m,q,u.go j⟩
theorem BZ{id:String}{r:qv}(f:bN X (.builtin id) (liftC X r))(m:Gl X x)(q:X.mg x=cm)(j:gl x=ap (.builtin id))(v:DA X B (e::es) t)(o:x≠"__name__":=by decide)(hdb:(x==("__debug__":Str))=false:=by decide)(he:fe (e::es) X.env=(eC,gp e X.env)::fe es X.env:=by rfl)(hpl:(hI pos<|starEach es X.env).any (·.1)=false:=by rfl):DE X B (.Call (.Name x p) (e::es) [] pos) (bz r t):=
 aY (AK f m q j v o hdb he hpl) λ_ _ _ h=>yc h
theorem zk{T:String}{r:qv}(f:bN X (.type T) (liftC X r))(m:Gl X x)(q:X.mg x=cm)(j:gl x=ap (.type T))(v:DA X B (e::es) t)(o:x≠"__name__":=by decide)(hdb:(x==("__debug__":Str))=false:=by decide)(he:fe (e::es) X.env=(eC,gp e X.env)::fe es X.env:=by rfl)(hpl:(hI pos<|starEach es X.env).any (·.1)=false:=by rfl):DE X B (.Call (.Name x p) (e::es) [] pos) (bz r t):=
 aY (Ae f m q j v o hdb he hpl) λ_ _ _ h=>yc h
theorem gR{ds:List D}{vs:List V}{d:D}(r:Rps K H [d] vs):∃v,vs=[v]/\Rp K H d v:=by
 obtain⟨v,w,rfl,a,b⟩:=r;cases b;exact⟨v,rfl,a⟩
theorem Dz{vs:List V}{d e:D}(r:Rps K H [d,e] vs):∃v w,vs=[v,w]/\Rp K H d v/\Rp K H e w:=by
 obtain⟨v,w,rfl,a,b⟩:=r;obtain⟨h,j,rfl,f,b⟩:=b;cases b;exact⟨v,h,rfl,a,f⟩
def bM:qv:=λf M Q=>match f with
 |[d]=>match aJ M d with
  |some xs=>Q (.int xs.length) M
  |none=>match d with
   |.str z=>z.length<=sizeLine/\Q (.int z.length) M
   |.ref a=>match M a with
    |some (.dK Xd)=>Q (.int Xd.length) M
    |_=>False
   |_=>False
 |_=>False
theorem zR:bN X (.builtin "len") (liftC X bM):=by
 intro f s Z H N m Q I r h;obtain⟨ds,M,QQ,j,z,h,o⟩:=h;unfold bM at h
 split at h
 .obtain⟨v,rfl,w⟩:=gR (ds:=[]) z
  split at h
  .rename_i O e
   obtain⟨q,G,rfl,F,C⟩:=jp j w e;exact qJ f s Z H _ m Q I r ⟨q,G,rfl,F,by rw[<- C.length];exact o _ M h _ H j Frm.refl rfl⟩
  .split at h
   .cases w
    exact qO f s Z H _ m Q I r ⟨_,rfl,h.1,o _ M h.2 _ H j Frm.refl rfl⟩
   .split at h
    .rename_i J e
     cases w;obtain⟨y,E,L⟩:=j _ _ e;exact zh f s Z H _ m Q I r ⟨_,y,rfl,E,by rw[<- L.length];exact o _ M h _ H j Frm.refl rfl⟩
    .exact h.elim
   .exact h.elim
 .exact h.elim
def eR:qv:=λf M Q=>match f with
 |[d]=>match aJ M d with
  |some xs=>∀p,M p=cm->Q (.ref p) (M.upd p<|.lst xs)
  |none=>False
 |_=>False
theorem vK:bN X (.type "list") (liftC X eR):=by
 intro Xb s Z H xs us Q I r h;obtain⟨ds,M,QQ,rh,rp,h,up⟩:=h;unfold eR at h
 split at h
 .obtain⟨v,rfl,rv⟩:=gR (ds:=[]) rp
  split at h
  .rename_i ys e
   obtain⟨q,vs,rfl,hq,rr⟩:=jp rh rv e;refine pM Xb s Z H _ us Q I r ⟨q,vs,rfl,hq,λp hp=>?_⟩;exact up _ _ (h p<|rh.fresh hp) _ _ (rh.put (by rw[hp];trivial) ⟨_,upd_same,rr.mono<|Imm.new hp⟩) (Frm.put<|.inl hp) rfl
  .exact h.elim
 .exact h.elim
def cB:qv:=λf M Q=>match f with
 |[.tup xs]=>Q (.tup xs) M
 |[d]=>match gW M d with
  |some xs=>Q (.tup xs) M
  |none=>False
 |_=>False
theorem tu:bN X (.type "tuple") (liftC X cB):=by
 intro f s Z H J z Q I r h;obtain⟨ds,M,QQ,w,C,h,E⟩:=h;unfold cB at h
 split at h
 .obtain⟨v,rfl,o⟩:=gR (ds:=[]) C
  obtain⟨q,j,rfl,F,m⟩:=o;exact hV f s Z H _ z Q I r ⟨q,j,rfl,.inr ⟨F.sq,E _ M h _ H w Frm.refl ⟨q,j,rfl,F,m⟩⟩⟩
 .obtain⟨v,rfl,o⟩:=gR (ds:=[]) C
  split at h
  .rename_i L e
   obtain⟨q,j,rfl,G,m⟩:=jb w o e;refine hV f s Z H _ z Q I r ⟨q,j,rfl,.inl ⟨.inl G,λp y=>?_⟩⟩;exact E _ M h _ _ (w.new y) (Frm.new y) ⟨p,_,rfl,upd_same,m.mono<|Imm.new y⟩
  .exact h.elim
 .exact h.elim
def eI(M:Mem):D->Option String
 |.non=>ap "NoneType"
 |.bl _=>ap "bool"
 |.int _=>ap "int"
 |.str _=>ap "str"
 |.tup _=>ap "tuple"
 |.lst _=>ap "list"
 |.ref a=>match M a with
  |some (.lst _)=>ap "list"
  |some (.dK _)=>ap "dict"
  |some (.dT _)=>ap "dict"
  |_=>cm
 |_=>cm
def jA(t T:String):Bool:=t==T||(t=="bool"&&T=="int")
def zr(T:String):Bool:=T=="bool"||T=="int"||T=="str"||T=="tuple"||T=="list"||T=="dict"
theorem Fy:(∀K:OA,∀t∈["NoneType","bool","int","str","tuple","list","dict"],∀T∈["bool","int","str","tuple","list","dict"],W.kitOne K (.type t) (.type T)=ap (jA t T)):=by
 intro K t h T f;simp only[OQ,Pu,or_false]at h f;rcases h with rfl|rfl|rfl|rfl|rfl|rfl|rfl<;>rcases f with rfl|rfl|rfl|rfl|rfl|rfl<;>kernel_rfl
theorem F1{d:D}{v:V}{t:String}(j:RepH K H M)(r:Rp K H d v)(e:eI M d=ap t):TyOf K H v (.type t)/\t∈["NoneType","bool","int","str","tuple","list","dict"]:=by
 cases d with
 |non=>cases r;cases e;exact⟨.non,by simp⟩
 |bl b=>cases r;cases e;exact⟨.bl b,by simp⟩
 |int i=>cases r;cases e;exact⟨.int i,by simp⟩
 |str x=>cases r;cases e;exact⟨.str x,by simp⟩
 |ty n=>cases e
 |mt n=>cases e
 |ml n=>cases e
 |fd _ _=>cases e
 |tup xs=>
  cases e;obtain⟨q,z,rfl,h,y⟩:=r;exact⟨.tup h,by simp⟩
 |lst xs=>
  cases e;obtain⟨q,z,rfl,⟨o,h⟩,y⟩:=r;exact⟨.frz h,by simp⟩
 |ref a=>
  cases r;simp only[eI]at e
  split at e
  .rename_i q;cases e;obtain⟨m,f,w⟩:=j _ _ q;exact⟨.lst f,by simp⟩
  .rename_i q;cases e;obtain⟨m,f,w⟩:=j _ _ q;exact⟨.dK f,by simp⟩
  .rename_i q;cases e;obtain⟨m,f,w⟩:=j _ _ q;exact⟨.dT f,by simp⟩
  .cases e
def yW:qv:=λf M Q=>match f with
 |[d,.ty T]=>zr T=true/\match eI M d with
  |some t=>Q (.bl<|jA t T) M
  |none=>False
 |_=>False
theorem qE:bN X (.builtin "isinstance") (liftC X yW):=by
 intro f s Z H F q Q I r h;obtain⟨G,M,QQ,o,y,h,z⟩:=h;unfold yW at h
 split at h
 .rename_i d T
  obtain⟨m,h⟩:=h;obtain⟨v,w,rfl,C,j⟩:=Dz y;cases j
  split at h
  .rename_i t e
   obtain⟨ty,E⟩:=F1 o C e;refine uI f s Z H _ q Q I r ⟨v,T,.type t,_,rfl,ty,Fy X.K t E T ?_,z _ M h _ H o Frm.refl rfl⟩;simp only[zr,Bool.or_eq_true,beq_iff_eq]at m;simp only[OQ,Pu,or_false];rcases m with ((((h|h)|h)|h)|h)|h<;>simp[h]
  .exact h.elim
 .exact h.elim
def BX:qv:=λf M Q=>match f with
 |[.int i,.int j]=>Q (.int (if j<i then j else i)) M
 |_=>False
theorem zu(C:X.calm=true):bN X (.builtin "min") (liftC X BX):=by
 intro f s Z H E m Q I r h;obtain⟨F,M,QQ,y,o,h,z⟩:=h;unfold BX at h
 split at h
 .obtain⟨v,w,rfl,q,j⟩:=Dz o
  cases q;cases j;exact zU C f s Z H _ m Q I r ⟨_,_,rfl,z _ M h _ H y Frm.refl rfl⟩
 .exact h.elim
def F0:qv:=λf M Q=>match f with
 |[.int i,.int j]=>Q (.int (if j>i then j else i)) M
 |_=>False
theorem zG(C:X.calm=true):bN X (.builtin "max") (liftC X F0):=by
 intro f s Z H E m Q I r h;obtain⟨F,M,QQ,y,o,h,z⟩:=h;unfold F0 at h
 split at h
 .obtain⟨v,w,rfl,q,j⟩:=Dz o
  cases q;cases j;exact zQ C f s Z H _ m Q I r ⟨_,_,rfl,z _ M h _ H y Frm.refl rfl⟩
 .exact h.elim
end
mutual
def aP:D->D->Bool
 |.non,.non=>true
 |.bl a,.bl b=>a==b
 |.bl a,.int b=>(if a then 1 else 0)==b
 |.int a,.bl b=>a==(if b then 1 else 0)
 |.int a,.int b=>decide (a=b)
 |.str a,.str b=>decide (a=b)
 |.tup xs,.tup ys=>gn xs ys
 |.lst xs,.lst ys=>gn xs ys
 |_,_=>eC
def gn:List D->List D->Bool
 |[],[]=>true
 |x::xs,y::ys=>aP x y&&gn xs ys
 |_,_=>eC
end
mutual
def bj:Nat->D->Bool
 |_,.non=>true
 |_,.bl _=>true
 |_,.int _=>true
 |_,.str _=>true
 |n+1,.tup xs=>bt n xs
 |n+1,.lst xs=>bt n xs
 |_,_=>eC
def bt:Nat->List D->Bool
 |_,[]=>true
 |n,x::xs=>bj n x&&bt n xs
end
mutual
def Hr(h:hG):D->ay->Prop
 |.non,u=>u=.none
 |.bl b,u=>u=.bool b
 |.int i,u=>∃t,u=.int i t
 |.str x,u=>∃t,u=.str x t
 |.tup xs,u=>∃p Xh,u=.ref p/\h.IsTuple p (List.toArray Xh)/\Hrs h xs Xh
 |.lst xs,u=>∃p Xh,u=.ref p/\h.IsList p (List.toArray Xh)/\Hrs h xs Xh
 |_,_=>False
def Hrs(h:hG):List D->List ay->Prop
 |[],us=>us=[]
 |x::xs,us=>∃u r,us=u::r/\Hr h x u/\Hrs h xs r
end
section
variable{h:hG}
theorem Hrs.length:∀{ds:List D}{us:Xl},Hrs h ds us->ds.length=us.length
 |[],_,q=>by cases q;rfl
 |_::_,_,q=>by obtain⟨v,r,rfl,_,b⟩:=q;simp[b.length]
theorem Hrs.get:∀{ds:List D}{us:Xl},Hrs h ds us->∀(i:Nat)(f:i<ds.length)(j:i<us.length),Hr h ds[i] us[i]
 |[],_,_,i,f,_=>absurd f (RE _)
 |x::xs,_,q,i,f,j=>by
  obtain⟨v,r,rfl,a,b⟩:=q;cases i with
  |zero=>exact a
  |succ i=>exact b.get i (by simpa using f) (by simpa using j)
theorem xK(x:h.IsTuple p a)(y:h.IsTuple p b):a=b:=by
 obtain⟨o,m,_,n,q⟩:=x;obtain⟨w,j,_,v,f⟩:=y;rw[m]at j;cases j;rw[q]at f
 injection f with e _
theorem yb(x:h.IsList p a)(y:h.IsList p b):a=b:=by
 obtain⟨o,m,_,n,q⟩:=x;obtain⟨w,j,_,v,f⟩:=y;rw[m]at j;cases j;rw[q]at f
 injection f with e _
theorem Oo(x:h.IsList p a)(y:h.IsTuple p b):False:=by
 obtain⟨o,m,c,_⟩:=x;obtain⟨q,f,j,_⟩:=y;rw[m]at f;cases f;rw[c]at j
 injection j with e
 exact absurd e (by decide)
mutual
theorem D6:∀{d e:D}{u:ay},Hr h d u->Hr h e u->d=e
 |.non,e,u,a,b=>by
  cases a;cases e with
  |non=>rfl
  |bl _=>cases b
  |int _=>obtain⟨t,q⟩:=b;cases q
  |str _=>obtain⟨t,q⟩:=b;cases q
  |tup _=>obtain⟨p,i,q,_⟩:=b;cases q
  |lst _=>obtain⟨p,i,q,_⟩:=b;cases q
  |_=>exact(show False from b).elim
 |.bl c,e,u,a,b=>by
  cases a;cases e with
  |non=>cases b
  |bl _=>cases b;rfl
  |int _=>obtain⟨t,q⟩:=b;cases q
  |str _=>obtain⟨t,q⟩:=b;cases q
  |tup _=>obtain⟨p,i,q,_⟩:=b;cases q
  |lst _=>obtain⟨p,i,q,_⟩:=b;cases q
  |_=>exact(show False from b).elim
 |.int c,e,u,a,b=>by
  obtain⟨t,rfl⟩:=a;cases e with
  |non=>cases b
  |bl _=>cases b
  |int _=>obtain⟨t,q⟩:=b;cases q;rfl
  |str _=>obtain⟨t,q⟩:=b;cases q
  |tup _=>obtain⟨p,i,q,_⟩:=b;cases q
  |lst _=>obtain⟨p,i,q,_⟩:=b;cases q
  |_=>exact(show False from b).elim
 |.str c,e,u,a,b=>by
  obtain⟨t,rfl⟩:=a;cases e with
  |non=>cases b
  |bl _=>cases b
  |int _=>obtain⟨t,q⟩:=b;cases q
  |str _=>obtain⟨t,q⟩:=b;cases q;rfl
  |tup _=>obtain⟨p,i,q,_⟩:=b;cases q
  |lst _=>obtain⟨p,i,q,_⟩:=b;cases q
  |_=>exact(show False from b).elim
 |.tup xs,e,u,a,b=>by
  obtain⟨p,Xh,rfl,m,o⟩:=a;cases e with
  |non=>cases b
  |bl _=>cases b
  |int _=>obtain⟨t,q⟩:=b;cases q
  |str _=>obtain⟨t,q⟩:=b;cases q
  |tup ys=>
   obtain⟨p',its',q,f,j⟩:=b;cases q;have e:=xK m f;have v:Xh=its':=by simpa using congrArg RG e
   subst v;rw[iR o j]
  |lst ys=>obtain⟨p',its',q,f,j⟩:=b;cases q;exact(Oo f m).elim
  |_=>exact(show False from b).elim
 |.lst xs,e,u,a,b=>by
  obtain⟨p,Xh,rfl,m,o⟩:=a;cases e with
  |non=>cases b
  |bl _=>cases b
  |int _=>obtain⟨t,q⟩:=b;cases q
  |str _=>obtain⟨t,q⟩:=b;cases q
  |lst ys=>
   obtain⟨p',its',q,f,j⟩:=b;cases q;have e:=yb m f;have v:Xh=its':=by simpa using congrArg RG e
   subst v;rw[iR o j]
  |tup ys=>obtain⟨p',its',q,f,j⟩:=b;cases q;exact(Oo m f).elim
  |_=>exact(show False from b).elim
 |.ty _,_,_,a,_=>(show False from a).elim
 |.ref _,_,_,a,_=>(show False from a).elim
 |.mt _,_,_,a,_=>(show False from a).elim
 |.ml _,_,_,a,_=>(show False from a).elim
 |.fd _ _,_,_,a,_=>(show False from a).elim
theorem iR:∀{ds es:List D}{us:Xl},Hrs h ds us->Hrs h es us->ds=es
 |[],es,us,a,b=>by
  cases a;cases es with
  |nil=>rfl
  |cons _ _=>obtain⟨v,r,q,_⟩:=b;cases q
 |d::ds,es,us,a,b=>by
  obtain⟨v,r,rfl,m,j⟩:=a;cases es with
  |nil=>cases b
  |cons e es=>
   obtain⟨y,w,q,f,o⟩:=b;cases q;rw[D6 m f,iR j o]
end
mutual
theorem A_:∀{n:Nat}{d:D},bj n d=true->aP d d=true
 |_,.non,_=>by simp[aP]
 |_,.bl _,_=>by simp[aP]
 |_,.int _,_=>by simp[aP]
 |_,.str _,_=>by simp[aP]
 |0,.tup _,f=>by simp[bj]at f
 |0,.lst _,f=>by simp[bj]at f
 |n+1,.tup xs,f=>by rw[aP];exact eV (n:=n) f
 |n+1,.lst xs,f=>by rw[aP];exact eV (n:=n) f
 |_,.ty _,f=>by simp[bj]at f
 |_,.ref _,f=>by simp[bj]at f
 |_,.mt _,f=>by simp[bj]at f
 |_,.ml _,f=>by simp[bj]at f
 |_,.fd _ _,f=>by simp[bj]at f
theorem eV:∀{n:Nat}{ds:List D},bt n ds=true->gn ds ds=true
 |_,[],_=>by simp[gn]
 |n,x::xs,f=>by
  rw[bt,PZ]at f;rw[gn,A_ f.1,eV f.2];rfl
end
theorem dO:∀{xs ys:List D},xs.length≠ys.length->gn xs ys=eC
 |[],[],h=>absurd rfl h
 |[],_::_,_=>by simp[gn]
 |_::_,[],_=>by simp[gn]
 |x::xs,y::ys,h=>by rw[gn,dO (by simpa using h),Ra]
theorem jk:∀(xs ys:List D)(f:Nat->Bool),xs.length=ys.length->(∀j (h1:j<xs.length)(h2:j<ys.length),f j=aP xs[j] ys[j])->(Pm xs.length).all f=gn xs ys
 |[],[],f,_,_=>by simp[gn]
 |[],_::_,_,h,_=>by simp at h
 |_::_,[],_,h,_=>by simp at h
 |x::xs,y::ys,f,h,hf=>by
  have m:=hf 0 (by simp) (by simp)
  have o:=jk xs ys (λj=>f (j+1)) (by simpa using h) (λj h1 h2=>hf (j+1) (by simpa using h1) (by simpa using h2))
  rw[OE,Uw,List.all_cons,List.all_map,gn,<- o];simp only[Ux]at m;rw[m];rfl
theorem dL:∀{n:Nat}{xs:List D},bt n xs=true->∀(j:Nat)(m:j<xs.length),bj n xs[j]=true
 |_,[],_,j,m=>absurd m (RE _)
 |n,x::xs,f,j,m=>by
  rw[bt,PZ]at f;cases j with
  |zero=>exact f.1
  |succ j=>exact dL f.2 j (by simpa using m)
def nE:D->Option V
 |.non=>ap .non
 |.bl b=>ap (.bl b)
 |.int i=>ap (.int i)
 |.str x=>ap (.str x)
 |_=>cm
theorem kI{d:D}{v:V}(e:nE d=ap v)(r:Hr h d u):RelV v u/\B7 v=true:=by
 cases d with
 |non=>cases e;exact⟨r,rfl⟩
 |bl b=>cases e;exact⟨r,rfl⟩
 |int b=>cases e;exact⟨r,rfl⟩
 |str b=>cases e;exact⟨r,rfl⟩
 |_=>cases e
theorem tY{d e:D}{v w:V}(j:nE d=ap v)(f:nE e=ap w):rY v w=aP d e:=by
 cases d with
 |non=>cases j;cases e with|non=>cases f;simp[rY,aP]|bl b=>cases f;simp[rY,aP]|int b=>cases f;simp[rY,aP]|str b=>cases f;simp[rY,aP]|_=>cases f
 |bl a=>cases j;cases e with|non=>cases f;simp[rY,aP]|bl b=>cases f;simp[rY,aP]|int b=>cases f;simp[rY,aP]|str b=>cases f;simp[rY,aP]|_=>cases f
 |int a=>cases j;cases e with|non=>cases f;simp[rY,aP]|bl b=>cases f;simp[rY,aP]|int b=>cases f;simp[rY,aP];rfl|str b=>cases f;simp[rY,aP]|_=>cases f
 |str a=>cases j;cases e with|non=>cases f;simp[rY,aP]|bl b=>cases f;simp[rY,aP]|int b=>cases f;simp[rY,aP]|str b=>cases f;simp[rY,aP];rfl|_=>cases f
 |_=>cases j
end
theorem GW:∀(n:Nat){A:i5}{s:el}{d e:D}{u w:ay},Hr s.heap d u->Hr s.heap e w->bj n d=true->bj n e=true->A.units+n<rc->Sb A s u w (aP d e):=by
 intro n
 induction n with
 |zero=>
  intro A s d e u w m h fd Q hu;have W:∃v,nE d=ap v:=by cases d<;>first|exact⟨_,rfl⟩|(simp[bj]at fd)
  have Y:∃v,nE e=ap v:=by cases e<;>first|exact⟨_,rfl⟩|(simp[bj]at Q)
  obtain⟨v1,N⟩:=W;obtain⟨v2,U⟩:=Y;obtain⟨a1,b1⟩:=kI N m;obtain⟨a2,b2⟩:=kI U h;rw[<- tY N U];exact AB a1 a2 b1 b2
 |succ n ih=>
  intro A s d e u w m h fd Q hu;have f:A.units<cLine:=by lia
  have S:A.in1.units+n<cLine:=by show A.units+1+n<rc;lia
  by_cases W:∃v,nE d=ap v
  .obtain⟨v1,N⟩:=W
   obtain⟨a1,b1⟩:=kI N m
   by_cases Y:∃v,nE e=ap v
   .obtain⟨v2,U⟩:=Y
    obtain⟨a2,b2⟩:=kI U h;rw[<- tY N U];exact AB a1 a2 b1 b2
   .cases e with
    |tup ys=>
     obtain⟨p,Xh,rfl,t,_⟩:=h;cases d with
     |non=>cases m;simp only[aP];exact .none_tuple t f
     |bl b=>cases m;simp only[aP];exact .bool_tuple b t f
     |int b=>obtain⟨z,rfl⟩:=m;simp only[aP];exact .int_tuple b z t f
     |str b=>obtain⟨z,rfl⟩:=m;simp only[aP];exact .str_tuple b z t f
     |_=>cases N
    |lst ys=>
     obtain⟨p,Xh,rfl,t,_⟩:=h;cases d with
     |non=>cases m;simp only[aP];exact .none_list t f
     |bl b=>cases m;simp only[aP];exact .bool_list b t f
     |int b=>obtain⟨z,rfl⟩:=m;simp only[aP];exact .int_list b z t f
     |str b=>obtain⟨z,rfl⟩:=m;simp only[aP];exact .str_list b z t f
     |_=>cases N
    |ty _=>exact(show False from h).elim
    |ref _=>exact(show False from h).elim
    |mt _=>exact(show False from h).elim
    |ml _=>exact(show False from h).elim
    |fd _ _=>exact(show False from h).elim
    |_=>exact absurd ⟨_,rfl⟩ Y
  .cases d with
   |tup xs=>
    obtain⟨p,Xh,rfl,o,P⟩:=m;cases e with
    |non=>cases h;simp only[aP];exact .tuple_none o f
    |bl b=>cases h;simp only[aP];exact .tuple_bool b o f
    |int b=>obtain⟨z,rfl⟩:=h;simp only[aP];exact .tuple_int b z o f
    |str b=>obtain⟨z,rfl⟩:=h;simp only[aP];exact .tuple_str b z o f
    |tup ys=>
     obtain⟨p',its',rfl,G,I⟩:=h;rw[aP]
     by_cases T:p=p'
     .subst T
      have e':Xh=its':=by simpa using congrArg RG (xK o G)
      subst e';rw[iR P I,eV (n:=n) Q];exact .same _
     .refine .of_refs T ?_
      have l1:=P.length;have l2:=I.length;have O:∀j (E:j<Xh.toArray.size)(F:j<its'.toArray.size),Sb A.in1 s Xh.toArray[j] its'.toArray[j] (match xs[j]?,ys[j]? with|some x,ap y=>aP x y|_,_=>eC):=λj E F=>by
       have C:j<xs.length:=by rw[l1];simpa using E
       have q:j<ys.length:=by rw[l2];simpa using F
       rw[Oz C,Oz q];exact ih (P.get j C<|by simpa using E) (I.get j q<|by simpa using F) (dL fd j C) (dL Q j q) S
      have:=Ue (e:=λj=>match xs[j]?,ys[j]? with|some x,ap y=>aP x y|_,_=>eC) o G f O
      by_cases R:xs.length=ys.length
      .have L:Xh.toArray.size=its'.toArray.size:=by simp;lia
       rw[L]at this;simp only[UI,beq_self_eq_true,SA]at this;have J:its'.toArray.size=xs.length:=by simp;lia
       rw[J,jk xs ys _ R (λj E F=>by rw[Oz E,Oz F])]at this
       exact this
      .have L:(Xh.toArray.size==its'.toArray.size)=false:=by simp;lia
       rw[L,Ra]at this;rw[dO R];exact this
    |lst ys=>obtain⟨p',its',rfl,G,I⟩:=h;simp only[aP];exact .tuple_list o G f
    |_=>exact(show False from h).elim
   |lst xs=>
    obtain⟨p,Xh,rfl,o,P⟩:=m;cases e with
    |non=>cases h;simp only[aP];exact .list_none o f
    |bl b=>cases h;simp only[aP];exact .list_bool b o f
    |int b=>obtain⟨z,rfl⟩:=h;simp only[aP];exact .list_int b z o f
    |str b=>obtain⟨z,rfl⟩:=h;simp only[aP];exact .list_str b z o f
    |lst ys=>
     obtain⟨p',its',rfl,G,I⟩:=h;rw[aP]
     by_cases T:p=p'
     .subst T
      have e':Xh=its':=by simpa using congrArg RG (yb o G)
      subst e';rw[iR P I,eV (n:=n) Q];exact .same _
     .refine .of_refs T ?_
      have l1:=P.length;have l2:=I.length
      by_cases R:xs.length=ys.length
      .have O:∀j (E:j<Xh.toArray.size)(F:j<its'.toArray.size),Sb A.in1 s Xh.toArray[j] its'.toArray[j] (match xs[j]?,ys[j]? with|some x,ap y=>aP x y|_,_=>eC):=λj E F=>by
        have C:j<xs.length:=by rw[l1];simpa using E
        have q:j<ys.length:=by rw[l2];simpa using F
        rw[Oz C,Oz q];exact ih (P.get j C<|by simpa using E) (I.get j q<|by simpa using F) (dL fd j C) (dL Q j q) S
       have:=Uq (e:=λj=>match xs[j]?,ys[j]? with|some x,ap y=>aP x y|_,_=>eC) o G (by simp;lia) f O
       have J:Xh.toArray.size=xs.length:=by simp;lia
       rw[J,jk xs ys _ R (λj E F=>by rw[Oz E,Oz F])]at this
       exact this
      .rw[dO R]
       exact S8 o G (by simp;lia) f
    |tup ys=>obtain⟨p',its',rfl,G,I⟩:=h;simp only[aP];exact .list_tuple o G f
    |_=>exact(show False from h).elim
   |ty _=>exact(show False from m).elim
   |ref _=>exact(show False from m).elim
   |mt _=>exact(show False from m).elim
   |ml _=>exact(show False from m).elim
   |fd _ _=>exact(show False from m).elim
   |_=>exact absurd ⟨_,rfl⟩ W
theorem kQ{xs ys:List D}(o:Hrs s.heap xs Xh)(m:Hrs s.heap ys its')(fd:bt n xs=true)(q:bt n ys=true)(v:A.units+n<rc):
  ∀j (h1:j<Xh.toArray.size)(h2:j<its'.toArray.size),Sb A s Xh.toArray[j] its'.toArray[j] (match xs[j]?,ys[j]? with|some x,ap y=>aP x y|_,_=>eC):=λj h1 h2=>by
 have h:j<xs.length:=by rw[o.length];simpa using h1
 have f:j<ys.length:=by rw[m.length];simpa using h2
 rw[Oz h,Oz f];exact GW n (o.get j h<|by simpa using h1) (m.get j f<|by simpa using h2) (dL fd j h) (dL q j f) v
theorem kS{xs ys:List D}(m:xs.length=ys.length):(Pm xs.length).all (λj=>match xs[j]?,ys[j]? with|some x,ap y=>aP x y|_,_=>eC)=gn xs ys:=
 jk xs ys _ m (λj h f=>by rw[Oz h,Oz f])
theorem IQ{xs ys:List D}(v:s.heap.IsTuple p Xh.toArray)(w:s.heap.IsTuple p' its'.toArray)(m:Hrs s.heap xs Xh)(o:Hrs s.heap ys its')(fd:bj n (.tup xs)=true)(q:bj n (.tup ys)=true)(C:A.units+n<rc):
  US A s (.ref p) (.ref p') (aP (.tup xs)<|.tup ys):=by
 cases n with
 |zero=>simp[bj]at fd
 |succ n=>
  have y:=m.length;have z:=o.length;have:=Ue (A:=A) v w (by lia) (kQ (n:=n) m o fd q<|by show A.units+1+n<rc;lia)
  rw[aP]
  by_cases j:xs.length=ys.length
  .have f:Xh.toArray.size=its'.toArray.size:=by simp;lia
   rw[f]at this;simp only[UI,beq_self_eq_true,SA]at this;have h:its'.toArray.size=xs.length:=by simp;lia
   rw[h,kS j]at this;exact this
  .have f:(Xh.toArray.size==its'.toArray.size)=false:=by simp;lia
   rw[f,Ra]at this;rw[dO j];exact this
theorem J_{xs ys:List D}(o:s.heap.IsList p Xh.toArray)(q:s.heap.IsList p' its'.toArray)(j:Hrs s.heap xs Xh)(m:Hrs s.heap ys its')(fd:bj n (.lst xs)=true)(v:bj n (.lst ys)=true)(z:A.units+n<rc):
  US A s (.ref p) (.ref p') (aP (.lst xs)<|.lst ys):=by
 cases n with
 |zero=>simp[bj]at fd
 |succ n=>
  have y:=j.length;have w:=m.length;rw[aP]
  by_cases h:xs.length=ys.length
  .have:=Uq (A:=A) o q (by simp;lia) (by lia) (kQ (n:=n) j m fd v<|by show A.units+1+n<rc;lia)
   have f:Xh.toArray.size=xs.length:=by simp;lia
   rw[f,kS h]at this;exact this
  .rw[dO h]
   exact S8 o q (by simp;lia) (by lia)
theorem B6{xs ys:List D}(v:s.heap.IsTuple p Xh.toArray)(w:s.heap.IsTuple p' its'.toArray)(m:Hrs s.heap xs Xh)(o:Hrs s.heap ys its')(fd:bj n (.tup xs)=true)(q:bj n (.tup ys)=true)(C:A.units+n<rc):
  Ud A s (.ref p) (.ref p') (!aP (.tup xs) (.tup ys)):=by
 cases n with
 |zero=>simp[bj]at fd
 |succ n=>
  have y:=m.length;have z:=o.length;have:=SeqAt.RcNeAt.tuples (A:=A) v w (by lia) (kQ (n:=n) m o fd q<|by show A.units+1+n<rc;lia)
  rw[aP]
  by_cases j:xs.length=ys.length
  .have f:Xh.toArray.size=its'.toArray.size:=by simp;lia
   rw[f]at this;simp only[UI,beq_self_eq_true,SA]at this;have h:its'.toArray.size=xs.length:=by simp;lia
   rw[h,kS j]at this;exact this
  .have f:(Xh.toArray.size==its'.toArray.size)=false:=by simp;lia
   rw[f,Ra]at this;rw[dO j];exact this
theorem AQ{xs ys:List D}(o:s.heap.IsList p Xh.toArray)(q:s.heap.IsList p' its'.toArray)(j:Hrs s.heap xs Xh)(m:Hrs s.heap ys its')(fd:bj n (.lst xs)=true)(v:bj n (.lst ys)=true)(z:A.units+n<rc):
  Ud A s (.ref p) (.ref p') (!aP (.lst xs) (.lst ys)):=by
 cases n with
 |zero=>simp[bj]at fd
 |succ n=>
  have y:=j.length;have w:=m.length;rw[aP]
  by_cases h:xs.length=ys.length
  .have:=SeqAt.RcNeAt.lists (A:=A) o q (by simp;lia) (by lia) (kQ (n:=n) j m fd v<|by show A.units+1+n<rc;lia)
   have f:Xh.toArray.size=xs.length:=by simp;lia
   rw[f,kS h]at this;exact this
  .rw[dO h]
   exact SeqAt.RcNeAt.lists_lengths o q (by simp;lia) (by lia)
theorem NH{d e:D}{w:ay}(C:Hr s.heap d u)(h:Hr s.heap e w)(fd:bj n d=true)(I:bj n e=true)(G:A.units+n<rc):US A s u w (aP d e):=by
 have j:A.units<cLine:=by lia
 cases d with
 |non=>
  cases C;cases e with
  |non=>
   cases h;simpa [aP,Pk] using SeqAt.RcAt.none_none
  |bl y=>
   cases h;simpa [aP] using SeqAt.RcAt.none_bool y
  |int y=>
   obtain⟨f,rfl⟩:=h;simpa [aP] using SeqAt.RcAt.none_int y f
  |str y=>
   obtain⟨f,rfl⟩:=h;simpa [aP] using SeqAt.RcAt.none_str y f
  |tup y=>
   obtain⟨z,m,rfl,ty,q⟩:=h;simpa [aP] using SeqAt.RcAt.none_tuple ty j
  |lst y=>
   obtain⟨z,m,rfl,ty,q⟩:=h;simpa [aP] using SeqAt.RcAt.none_list ty j
  |_=>exact(show False from h).elim
 |bl x=>
  cases C;cases e with
  |non=>
   cases h;simpa [aP] using SeqAt.RcAt.bool_none x
  |bl y=>
   cases h;simpa [aP,Pk] using SeqAt.RcAt.bool_bool x y
  |int y=>
   obtain⟨f,rfl⟩:=h;simpa [aP,Pk] using SeqAt.RcAt.bool_int x y f
  |str y=>
   obtain⟨f,rfl⟩:=h;simpa [aP] using SeqAt.RcAt.bool_str x y f
  |tup y=>
   obtain⟨z,m,rfl,ty,q⟩:=h;simpa [aP] using SeqAt.RcAt.bool_tuple x ty j
  |lst y=>
   obtain⟨z,m,rfl,ty,q⟩:=h;simpa [aP] using SeqAt.RcAt.bool_list x ty j
  |_=>exact(show False from h).elim
 |int x=>
  obtain⟨o,rfl⟩:=C;cases e with
  |non=>
   cases h;simpa [aP] using SeqAt.RcAt.int_none x o
  |bl y=>
   cases h;simpa [aP,Pk] using SeqAt.RcAt.int_bool x o y
  |int y=>
   obtain⟨f,rfl⟩:=h;simpa [aP,Pk] using SeqAt.RcAt.int_int x o y f
  |str y=>
   obtain⟨f,rfl⟩:=h;simpa [aP] using SeqAt.RcAt.int_str x o y f
  |tup y=>
   obtain⟨z,m,rfl,ty,q⟩:=h;simpa [aP] using SeqAt.RcAt.int_tuple x o ty j
  |lst y=>
   obtain⟨z,m,rfl,ty,q⟩:=h;simpa [aP] using SeqAt.RcAt.int_list x o ty j
  |_=>exact(show False from h).elim
 |str x=>
  obtain⟨o,rfl⟩:=C;cases e with
  |non=>
   cases h;simpa [aP] using SeqAt.RcAt.str_none x o
  |bl y=>
   cases h;simpa [aP] using SeqAt.RcAt.str_bool x o y
  |int y=>
   obtain⟨f,rfl⟩:=h;simpa [aP] using SeqAt.RcAt.str_int x o y f
  |str y=>
   obtain⟨f,rfl⟩:=h;simpa [aP,Pk] using SeqAt.RcAt.str_str x o y f
  |tup y=>
   obtain⟨z,m,rfl,ty,q⟩:=h;simpa [aP] using SeqAt.RcAt.str_tuple x o ty j
  |lst y=>
   obtain⟨z,m,rfl,ty,q⟩:=h;simpa [aP] using SeqAt.RcAt.str_list x o ty j
  |_=>exact(show False from h).elim
 |tup x=>
  obtain⟨J,E,rfl,v,F⟩:=C;cases e with
  |non=>
   cases h;simpa [aP] using SeqAt.RcAt.tuple_none v j
  |bl y=>
   cases h;simpa [aP] using SeqAt.RcAt.tuple_bool y v j
  |int y=>
   obtain⟨f,rfl⟩:=h;simpa [aP] using SeqAt.RcAt.tuple_int y f v j
  |str y=>
   obtain⟨f,rfl⟩:=h;simpa [aP] using SeqAt.RcAt.tuple_str y f v j
  |tup y=>
   obtain⟨z,m,rfl,ty,q⟩:=h;exact IQ v ty F q fd I G
  |lst y=>
   obtain⟨z,m,rfl,ty,q⟩:=h;simpa [aP] using SeqAt.RcAt.tuple_list v ty j
  |_=>exact(show False from h).elim
 |lst x=>
  obtain⟨J,E,rfl,v,F⟩:=C;cases e with
  |non=>
   cases h;simpa [aP] using SeqAt.RcAt.list_none v j
  |bl y=>
   cases h;simpa [aP] using SeqAt.RcAt.list_bool y v j
  |int y=>
   obtain⟨f,rfl⟩:=h;simpa [aP] using SeqAt.RcAt.list_int y f v j
  |str y=>
   obtain⟨f,rfl⟩:=h;simpa [aP] using SeqAt.RcAt.list_str y f v j
  |tup y=>
   obtain⟨z,m,rfl,ty,q⟩:=h;simpa [aP] using SeqAt.RcAt.list_tuple v ty j
  |lst y=>
   obtain⟨z,m,rfl,ty,q⟩:=h;exact J_ v ty F q fd I G
  |_=>exact(show False from h).elim
 |_=>exact(show False from C).elim
theorem Eb{d e:D}{w:ay}(C:Hr s.heap d u)(h:Hr s.heap e w)(fd:bj n d=true)(I:bj n e=true)(G:A.units+n<rc):Ud A s u w (!aP d e):=by
 have j:A.units<cLine:=by lia
 cases d with
 |non=>
  cases C;cases e with
  |non=>
   cases h;simpa [aP,Pk] using SeqAt.RcNeAt.none_none
  |bl y=>
   cases h;simpa [aP] using SeqAt.RcNeAt.none_bool y
  |int y=>
   obtain⟨f,rfl⟩:=h;simpa [aP] using SeqAt.RcNeAt.none_int y f
  |str y=>
   obtain⟨f,rfl⟩:=h;simpa [aP] using SeqAt.RcNeAt.none_str y f
  |tup y=>
   obtain⟨z,m,rfl,ty,q⟩:=h;simpa [aP] using SeqAt.RcNeAt.none_tuple ty j
  |lst y=>
   obtain⟨z,m,rfl,ty,q⟩:=h;simpa [aP] using SeqAt.RcNeAt.none_list ty j
  |_=>exact(show False from h).elim
 |bl x=>
  cases C;cases e with
  |non=>
   cases h;simpa [aP] using SeqAt.RcNeAt.bool_none x
  |bl y=>
   cases h;simpa [aP,Pk] using SeqAt.RcNeAt.bool_bool x y
  |int y=>
   obtain⟨f,rfl⟩:=h;simpa [aP,Pk] using SeqAt.RcNeAt.bool_int x y f
  |str y=>
   obtain⟨f,rfl⟩:=h;simpa [aP] using SeqAt.RcNeAt.bool_str x y f
  |tup y=>
   obtain⟨z,m,rfl,ty,q⟩:=h;simpa [aP] using SeqAt.RcNeAt.bool_tuple x ty j
  |lst y=>
   obtain⟨z,m,rfl,ty,q⟩:=h;simpa [aP] using SeqAt.RcNeAt.bool_list x ty j
  |_=>exact(show False from h).elim
 |int x=>
  obtain⟨o,rfl⟩:=C;cases e with
  |non=>
   cases h;simpa [aP] using SeqAt.RcNeAt.int_none x o
  |bl y=>
   cases h;simpa [aP,Pk] using SeqAt.RcNeAt.int_bool x o y
  |int y=>
   obtain⟨f,rfl⟩:=h;simpa [aP,Pk] using SeqAt.RcNeAt.int_int x o y f
  |str y=>
   obtain⟨f,rfl⟩:=h;simpa [aP] using SeqAt.RcNeAt.int_str x o y f
  |tup y=>
   obtain⟨z,m,rfl,ty,q⟩:=h;simpa [aP] using SeqAt.RcNeAt.int_tuple x o ty j
  |lst y=>
   obtain⟨z,m,rfl,ty,q⟩:=h;simpa [aP] using SeqAt.RcNeAt.int_list x o ty j
  |_=>exact(show False from h).elim
 |str x=>
  obtain⟨o,rfl⟩:=C;cases e with
  |non=>
   cases h;simpa [aP] using SeqAt.RcNeAt.str_none x o
  |bl y=>
   cases h;simpa [aP] using SeqAt.RcNeAt.str_bool x o y
  |int y=>
   obtain⟨f,rfl⟩:=h;simpa [aP] using SeqAt.RcNeAt.str_int x o y f
  |str y=>
   obtain⟨f,rfl⟩:=h;simpa [aP,Pk] using SeqAt.RcNeAt.str_str x o y f
  |tup y=>
   obtain⟨z,m,rfl,ty,q⟩:=h;simpa [aP] using SeqAt.RcNeAt.str_tuple x o ty j
  |lst y=>
   obtain⟨z,m,rfl,ty,q⟩:=h;simpa [aP] using SeqAt.RcNeAt.str_list x o ty j
  |_=>exact(show False from h).elim
 |tup x=>
  obtain⟨J,E,rfl,v,F⟩:=C;cases e with
  |non=>
   cases h;simpa [aP] using SeqAt.RcNeAt.tuple_none v j
  |bl y=>
   cases h;simpa [aP] using SeqAt.RcNeAt.tuple_bool y v j
  |int y=>
   obtain⟨f,rfl⟩:=h;simpa [aP] using SeqAt.RcNeAt.tuple_int y f v j
  |str y=>
   obtain⟨f,rfl⟩:=h;simpa [aP] using SeqAt.RcNeAt.tuple_str y f v j
  |tup y=>
   obtain⟨z,m,rfl,ty,q⟩:=h;exact B6 v ty F q fd I G
  |lst y=>
   obtain⟨z,m,rfl,ty,q⟩:=h;simpa [aP] using SeqAt.RcNeAt.tuple_list v ty j
  |_=>exact(show False from h).elim
 |lst x=>
  obtain⟨J,E,rfl,v,F⟩:=C;cases e with
  |non=>
   cases h;simpa [aP] using SeqAt.RcNeAt.list_none v j
  |bl y=>
   cases h;simpa [aP] using SeqAt.RcNeAt.list_bool y v j
  |int y=>
   obtain⟨f,rfl⟩:=h;simpa [aP] using SeqAt.RcNeAt.list_int y f v j
  |str y=>
   obtain⟨f,rfl⟩:=h;simpa [aP] using SeqAt.RcNeAt.list_str y f v j
  |tup y=>
   obtain⟨z,m,rfl,ty,q⟩:=h;simpa [aP] using SeqAt.RcNeAt.list_tuple v ty j
  |lst y=>
   obtain⟨z,m,rfl,ty,q⟩:=h;exact AQ v ty F q fd I G
  |_=>exact(show False from h).elim
 |_=>exact(show False from C).elim
section
variable{Xb:Xq}
mutual
theorem AN(I:Inv X Xb Z H s):∀{n:Nat}{d:D}{v:V}{u:ay},bj n d=true->Rp X.K H d v->RelV v u->Hr s.heap d u
 |_,.non,v,u,_,r,q=>by cases r;exact q
 |_,.bl _,v,u,_,r,q=>by cases r;exact q
 |_,.int _,v,u,_,r,q=>by cases r;exact q
 |_,.str _,v,u,_,r,q=>by cases r;exact q
 |n+1,.tup xs,v,u,f,r,q=>by
  obtain⟨p,m,rfl,t,r⟩:=r;cases q;obtain⟨Xh,h,j,_⟩:=I.tuple t.sq;exact⟨p,Xh,rfl,j,gk I (n:=n) f r h⟩
 |n+1,.lst xs,v,u,f,r,q=>by
  obtain⟨p,m,rfl,t,r⟩:=r;cases q;obtain⟨Xh,h,j,_⟩:=I.list t.sq;exact⟨p,Xh,rfl,j.isList,gk I (n:=n) f r h⟩
 |0,.tup _,_,_,f,_,_=>by simp[bj]at f
 |0,.lst _,_,_,f,_,_=>by simp[bj]at f
 |_,.ty _,_,_,f,_,_=>by simp[bj]at f
 |_,.ref _,_,_,f,_,_=>by simp[bj]at f
 |_,.mt _,_,_,f,_,_=>by simp[bj]at f
 |_,.ml _,_,_,f,_,_=>by simp[bj]at f
 |_,.fd _ _,_,_,f,_,_=>by simp[bj]at f
theorem gk(I:Inv X Xb Z H s):∀{n:Nat}{ds:List D}{vs:List V}{us:Xl},bt n ds=true->Rps X.K H ds vs->Vals vs us->Hrs s.heap ds us
 |_,[],vs,us,_,r,q=>by cases r;cases q;rfl
 |n,d::ds,vs,us,f,r,q=>by
  obtain⟨v,h,rfl,a,b⟩:=r;rw[bt,PZ]at f;cases q with
  |cons q1 q2=>exact⟨_,_,rfl,AN I f.1 a q1,gk I f.2 b q2⟩
end
def dv(M:Mem):D->D
 |.ref a=>match M a with
  |some (.lst xs)=>.lst xs
  |_=>.ref a
 |d=>d
theorem pc(I:Inv X Xb Z H s){d:D}{v:V}(w:RepH X.K H M)(f:bj n (dv M d)=true)(r:Rp X.K H d v)(q:RelV v u):Hr s.heap (dv M d) u:=by
 cases d with
 |ref a=>
  cases r;simp only[dv]at f ⊢
  split at f
  .rename_i z e
   obtain⟨y,j,m⟩:=w _ _ e;obtain⟨Xh,h,o,_⟩:=I.list (SqL.of j);cases q;cases n with
   |zero=>simp[bj]at f
   |succ n=>exact⟨a,Xh,rfl,o.isList,gk I (n:=n) f m h⟩
  .simp[bj]at f
 |_=>exact AN I f r q
def bZ:eY:=λx y M Q=>bj 60 (dv M x)=true/\bj 60 (dv M y)=true/\Q (.bl<|aP (dv M x)<|dv M y) M
def k8:eY:=λx y M Q=>bj 60 (dv M x)=true/\bj 60 (dv M y)=true/\Q (.bl<|!aP (dv M x) (dv M y)) M
theorem Cy(G:X.A.units+64<rc):cF X (kc .Eq) (liftR2 X bZ):=by
 intro Xb s Z H x y v u Q I w o h;obtain⟨F,E,M,QQ,f,z,q,⟨j,m,h⟩,C⟩:=h;exact NH (pc I f j z w) (pc I f m q o) j m (by lia) _ _ _ _ ⟨.bl _,H,I,rfl,C _ M h _ H f Frm.refl rfl⟩
theorem JK(G:X.A.units+64<rc):cF X (kc .NotEq) (liftR2 X k8):=by
 intro Xb s Z H x y v u Q I w o h;obtain⟨F,E,M,QQ,f,z,q,⟨j,m,h⟩,C⟩:=h;exact Eb (pc I f j z w) (pc I f m q o) j m (by lia) _ _ _ _ ⟨.bl _,H,I,rfl,C _ M h _ H f Frm.refl rfl⟩
open Classical in
noncomputable def uS(h:hG)(x:D)(u:ay):Bool:=if q:∃d,Hr h d u then aP q.choose x else eC
theorem Ao{h:hG}{x d:D}(r:Hr h d u):uS h x u=aP d x:=by
 have q:∃d,Hr h d u:=⟨d,r⟩;unfold uS;rw[dif_pos q,D6 q.choose_spec r]
theorem ip{h:hG}{x:D}:∀{ds:List D}{us:Xl},Hrs h ds us->us.any (uS h x)=ds.any λd=>aP d x
 |[],_,r=>by cases r;rfl
 |d::ds,_,r=>by
  obtain⟨v,f,rfl,a,b⟩:=r;rw[Qn,Qn,Ao a,ip b]
theorem iG{A:i5}{n:Nat}{x:D}{w:ay}(m:Hr s.heap x w)(o:bj n x=true)(j:A.units+n<rc):∀{ds:List D}{us:Xl},Hrs s.heap ds us->bt n ds=true->∀u∈us,Sb A s u w (uS s.heap x u)
 |[],_,r,_,u,j=>by cases r;cases j
 |d::ds,_,r,f,u,h=>by
  obtain⟨v,q,rfl,a,b⟩:=r;rw[bt,PZ]at f;rcases OQ.mp h with rfl|h
  .rw[Ao a];exact GW n a m f.1 o j
  .exact iG m o j b f.2 u h
def qx(M:Mem)(x y:D):Option Bool:=match aJ M y with
 |some xs=>if bj 60 (dv M x)=true/\bt 60 xs=true then ap (xs.any λd=>aP d (dv M x)) else cm
 |none=>match y with
  |.ref a=>match pR M a x with
   |some o=>ap o.isSome
   |none=>cm
  |_=>cm
def C1:eY:=λx y M Q=>match qx M x y with
 |some k=>Q (.bl k) M
 |none=>False
def wf:eY:=λx y M Q=>match qx M x y with
 |some k=>Q (.bl<|!k) M
 |none=>False
theorem Cr(W:X.A.units+64<rc):cF X (kc .In) (liftR2 X C1):=by
 intro Xb s Z H x y v u Q I C F h;obtain⟨j,T,M,QQ,q,J,G,h,R⟩:=h;unfold C1 at h
 split at h
 .rename_i k e
  have fin:=R _ M h _ H q Frm.refl rfl;unfold qx at e
  split at e
  .rename_i S O
   split at e
   .rename_i f
    cases e;obtain⟨p,U,rfl,hq,r⟩:=jp q G O;cases F;have L:=pc I q f.1 J C;rcases hq with hq|hq
    .obtain⟨Xh,E,pl,_⟩:=I.list hq
     have m:=gk I f.2 r E;refine SeqAt.in_listAt (uS s.heap<|dv M j) pl.isList (λw z=>iG L f.1 (by show X.A.units+1+60<rc;lia) m f.2 w (by simpa using z)) ⟨.bl _,H,I,rfl,?_⟩
     rw[show Xh.toArray.any (uS s.heap<|dv M j)=Xh.any (uS s.heap<|dv M j) by simp,ip m]
     exact fin
    .obtain⟨Xh,E,pl,_⟩:=I.tuple hq
     have m:=gk I f.2 r E;refine SeqAt.in_tupleAt (uS s.heap<|dv M j) pl (λw z=>iG L f.1 (by show X.A.units+1+60<rc;lia) m f.2 w (by simpa using z)) ⟨.bl _,H,I,rfl,?_⟩
     rw[show Xh.toArray.any (uS s.heap<|dv M j)=Xh.any (uS s.heap<|dv M j) by simp,ip m]
     exact fin
   .cases e
  .split at e
   .split at e
    .rename_i o P
     cases e;cases G;cases F;rcases lU q J P with⟨rfl,g⟩|⟨d,w,rfl,g,_⟩
     .exact Mj (by lia) I g C λN I'=>⟨.bl _,H,I',rfl,fin⟩
     .exact Mj (by lia) I g C λN I'=>⟨.bl _,H,I',rfl,fin⟩
    .cases e
   .cases e
 .exact h.elim
theorem zY(W:X.A.units+64<rc):cF X (kc .NotIn) (liftR2 X wf):=by
 intro Xb s Z H x y v u Q I C F h;obtain⟨j,T,M,QQ,q,J,G,h,R⟩:=h;unfold wf at h
 split at h
 .rename_i k e
  have fin:=R _ M h _ H q Frm.refl rfl;unfold qx at e
  split at e
  .rename_i S O
   split at e
   .rename_i f
    cases e;obtain⟨p,U,rfl,hq,r⟩:=jp q G O;cases F;have L:=pc I q f.1 J C;rcases hq with hq|hq
    .obtain⟨Xh,E,pl,_⟩:=I.list hq
     have m:=gk I f.2 r E;refine SeqAt.notIn_listAt (uS s.heap<|dv M j) pl.isList (λw z=>iG L f.1 (by show X.A.units+1+60<rc;lia) m f.2 w (by simpa using z)) ⟨.bl _,H,I,rfl,?_⟩
     rw[show Xh.toArray.any (uS s.heap<|dv M j)=Xh.any (uS s.heap<|dv M j) by simp,ip m]
     exact fin
    .obtain⟨Xh,E,pl,_⟩:=I.tuple hq
     have m:=gk I f.2 r E;refine SeqAt.notIn_tupleAt (uS s.heap<|dv M j) pl (λw z=>iG L f.1 (by show X.A.units+1+60<rc;lia) m f.2 w (by simpa using z)) ⟨.bl _,H,I,rfl,?_⟩
     rw[show Xh.toArray.any (uS s.heap<|dv M j)=Xh.any (uS s.heap<|dv M j) by simp,ip m]
     exact fin
   .cases e
  .split at e
   .split at e
    .rename_i o P
     cases e;cases G;cases F;rcases lU q J P with⟨rfl,g⟩|⟨d,w,rfl,g,_⟩
     .exact wY (by lia) I g C λN I'=>⟨.bl _,H,I',rfl,fin⟩
     .exact wY (by lia) I g C λN I'=>⟨.bl _,H,I',rfl,fin⟩
    .cases e
   .cases e
 .exact h.elim
end
structure DEnds where
 nx:Dl->Mem->Prop
 rt:DK
 bk:Dl->Mem->Prop:=λ_ _=>False
 ct:Dl->Mem->Prop:=λ_ _=>False
abbrev aE:=DEnds->Dl->Mem->Prop
def UpN(X:Cx)(B:Bd)(M:Mem)(H:Hp)(QQ:Dl->Mem->Prop)(Q:_2.St->Hp->Prop):Prop:=∀U M',QQ U M'->∀Z H',Frm M H M' H'->SR X B U M' Z H'->Q Z H'
theorem UpN.go{M1:Mem}{H1:Hp}{QQ:Dl->Mem->Prop}{Q:_2.St->Hp->Prop}(u:UpN X B M H QQ Q)(i:Frm M H M1 H1):UpN X B M1 H1 QQ Q:=λU M q Z H' a b=>u U M q Z H' (i.trans a) b
structure UpD(X:Cx)(B:Bd)(M:Mem)(H:Hp)(DD:DEnds)(D:Ends):Prop where
 nx:UpN X B M H DD.nx D.nx
 rt:Up X.K M H DD.rt D.rt
 bk:UpN X B M H DD.bk D.bk
 ct:UpN X B M H DD.ct D.ct
theorem UpD.go{M1:Mem}{H1:Hp}{DD:DEnds}{D:Ends}(u:UpD X B M H DD D)(i:Frm M H M1 H1):UpD X B M1 H1 DD D:=⟨u.nx.go i,u.rt.go i,u.bk.go i,u.ct.go i⟩
inductive liftS(X:Cx)(B:Bd)(T:aE)(D:Ends)(Z:St)(H:Hp):Prop
 |mk (U:Dl) (M:Mem) (DD:DEnds) (s:SR X B U M Z H) (h:T DD U M) (u:UpD X B M H DD D):liftS X B T D Z H
def DS(X:Cx)(B:Bd)(st:tm)(T:aE):Prop:=PS X st (liftS X B T)
def yt(X:Cx)(B:Bd)(st:Xo)(T:aE):Prop:=yv X st (liftS X B T)
section
variable{st:tm}{rest:Xo}{t u:aE}
def aF:aE:=λD U M=>D.nx U M
def ai(t u:aE):aE:=λD U M=>t { D with nx:=u D } U M
theorem Gc:yt X B [] aF:=mL Fu λD Z H ⟨U,M,DD,s,h,f⟩=>f.nx U M h Z H Frm.refl s
theorem dA(v:DS X B st t)(w:yt X B rest u):yt X B (st::rest) (ai t u):=by
 refine mL (BO v w) ?_
 rintro D Z H ⟨U,M,DD,s,h,f⟩
 exact⟨U,M,{ DD with nx:=u DD },s,h,⟨λj M' q m H' i o=>⟨j,M',DD,o,q,f.go i⟩,f.rt,f.bk,f.ct⟩⟩
theorem fD(f:DS X B st t):yt X B [st] t:=DQ f
def bn(te:bp):aE:=λD U M=>te U M λ_ M1=>D.nx U M1
theorem DV(o:DE X B e te)(m:wh e cm pos.line X.env=pure false:=by rfl):DS X B (.Expr e pos) (bn te):=by
 refine bJ (DL o m) ?_
 rintro D Z H ⟨U,M,DD,s,h,f⟩
 exact⟨U,M,_,s,h,λd M' q v H' j i r=>f.nx U M' q Z H' i (s.go j i)⟩
def az(te:bp):aE:=λD U M=>te U M D.rt
theorem Je(j:DE X B e te):DS X B (.Return (ap e) pos) (az te):=by
 refine bJ (Lk j) ?_
 rintro D Z H ⟨U,M,DD,s,h,f⟩
 exact⟨U,M,_,s,h,f.rt⟩
def aH(c:fC)(t u:aE):aE:=λD U M=>c U M λb M1=>if b=true then t D U M1 else u D U M1
theorem O9{a b:Xo}{m:fC}(o:DT X B c m)(w:yt X B a t)(v:yt X B b u):DS X B (.If c a b pos) (aH m t u):=by
 refine bJ (ND o w v) ?_
 rintro D Z H ⟨U,M,DD,s,h,j⟩
 refine⟨U,M,_,s,h,λc M' q H' f i=>?_⟩;cases c with
 |true=>rw[if_pos rfl]at q ⊢;exact⟨U,M',DD,s.go f i,q,j.go i⟩
 |false=>rw[if_neg OW]at q ⊢;exact⟨U,M',DD,s.go f i,q,j.go i⟩
abbrev jK:=D->Dl->Mem->(Dl->Mem->Prop)->Prop
abbrev o8:=List D->Dl->Mem->(Dl->Mem->Prop)->Prop
inductive liftG(X:Cx)(B:Bd)(g:jK)(v:V)(Z:St)(H:Hp)(Q:St->Hp->Prop):Prop
 |mk (d:_3.D) (U:Dl) (M:Mem) (QQ:Dl->Mem->Prop) (s:SR X B U M Z H) (r:Rp X.K H d v) (h:g d U M QQ) (u:UpN X B M H QQ Q):liftG X B g v Z H Q
inductive liftGs(X:Cx)(B:Bd)(g:o8)(vs:List V)(Z:St)(H:Hp)(Q:St->Hp->Prop):Prop
 |mk (ds:List _3.D) (U:Dl) (M:Mem) (QQ:Dl->Mem->Prop) (s:SR X B U M Z H) (r:Rps X.K H ds vs) (h:g ds U M QQ) (u:UpN X B M H QQ Q):liftGs X B g vs Z H Q
def DG(X:Cx)(B:Bd)(tg:fy)(g:jK):Prop:=PG X tg (liftG X B g)
def LU(X:Cx)(B:Bd)(tgs:Xn)(g:o8):Prop:=Lz X tgs (liftGs X B g)
theorem kM{t t':TG}(h:PG X tg t)(w:∀v Z H Q,t' v Z H Q->t v Z H Q):PG X tg t':=λf s Z H v u Q I r q=>h f s Z H v u Q I r (w v Z H Q q)
theorem tK{tg:Xn}{t t':Gn}(h:Lz X tg t)(w:∀v Z H Q,t' v Z H Q->t v Z H Q):Lz X tg t':=λf s Z H v u Q I r q=>h f s Z H v u Q I r (w v Z H Q q)
theorem SR.set{U:Dl}{d:D}{v:V}(s:SR X B U M Z H)(r:Rp X.K H d v):SR X B (U.set i<|some d) M (Z.set i<|some v) H:=⟨s.i0,s.rh,s.rs.set r⟩
def ag(i:Nat):jK:=λd U M Q=>Q (U.set i<|some d) M
theorem Em(f:X.N.Nodup)(j:X.N[i]?=ap x)(o:Ah X.env.scope x)(m:X.fn x=true\/X.env.scope.names.lookup x=ap .local:=by first|exact .inl rfl|exact .inr rfl|assumption):DG X B (.Name x pos) (ag i):=by
 refine kM (G7 f j o m) ?_
 rintro v Z H Q ⟨d,U,M,QQ,s,r,h,u⟩
 exact u _ M h _ H Frm.refl (s.set r)
def fm:o8:=λf U M Q=>match f with
 |[]=>Q U M
 |_=>False
def b6(t:jK)(u:o8):o8:=λh U M Q=>match h with
 |d::r=>t d U M λf M'=>u r f M' Q
 |[]=>False
theorem Et:LU X B [] fm:=by
 refine tK Ge ?_
 rintro v Z H Q ⟨f,U,M,QQ,s,r,h,u⟩
 cases f with
 |nil=>exact⟨r,u U M h Z H Frm.refl s⟩
 |cons _ _=>exact(show False from h).elim
theorem AZ{t:jK}{u:o8}(F:DG X B e t)(G:LU X B es u)(E:(ra (e::es) X.env).map (·.2)=We e X.env::(ra es X.env).map (·.2):=by rfl):LU X B (e::es) (b6 t u):=by
 refine tK (BK F G E) ?_
 rintro v Z H Q ⟨f,U,M,QQ,s,r,h,C⟩
 cases f with
 |nil=>exact(show False from h).elim
 |cons d f=>
  obtain⟨v1,y,rfl,z,o⟩:=r;refine⟨v1,y,rfl,d,U,M,_,s,z,h,λj M' q m H' i w=>?_⟩;exact⟨f,j,M',QQ,w,o.mf s.rh i,q,C.go i⟩
def fH(n:Nat)(t:o8):jK:=λd U M Q=>match d with
 |.tup xs=>xs.length=n/\t xs U M Q
 |_=>False
theorem Lw{k:Nat}{t:o8}(o:X.calm=true)(h:LU X B es t)(q:(ra es X.env).length=n:=by rfl)(hst:(ra es X.env).findIdx? (·.1)=none:=by rfl):DG X B (.Tuple es k pos) (fH n t):=by
 refine kM (IW o h q hst) ?_
 rintro v Z H Q ⟨d,U,M,QQ,s,r,h,f⟩
 cases d with
 |tup xs=>
  obtain⟨p,j,rfl,m,r⟩:=r;exact⟨p,j,rfl,m.sq,by rw[<- r.length];exact h.1,xs,U,M,QQ,s,r,h.2,f⟩
 |_=>exact(show False from h).elim
def ar(te:bp)(g:jK):aE:=λD U M=>te U M λx M1=>g x U M1 D.nx
theorem KJ(w:DE X B e te)(m:DG X B tg g)(o:Wi [tg] e pos.line X.env=pure false:=by rfl)(hw:Wj [tg] e X.env=pure none:=by rfl)(h1:(ra [tg] X.env).map (·.2)=[We tg X.env]:=by rfl):DS X B (.Assign [tg] e pos) (ar te g):=by
 refine bJ (Kk w m o hw h1) ?_
 rintro D Z H ⟨U,M,DD,s,h,f⟩
 refine⟨U,M,_,s,h,λd M' q v H' j i r=>?_⟩;exact⟨d,U,M',DD.nx,s.go j i,r,q,f.nx.go i⟩
theorem Jc(m:X.N.Nodup)(y:X.N[i]?=ap x)(w:Ah X.env.scope x)(o:DE X B e te)(z:wh e (ap<|.Name x pos') pos.line X.env=pure false:=by rfl)(hf:X.fn x=true\/X.env.scope.names.lookup x=ap .local:=by first|exact .inl rfl|exact .inr rfl|assumption):
  DS X B (.Assign [.Name x pos'] e pos) (ar te<|ag i):=by
 refine bJ (IA m y w o z hf) ?_
 rintro D Z H ⟨U,M,DD,s,h,f⟩
 refine⟨U,M,_,s,h,λd M' q v H' j i r=>?_⟩;exact f.nx _ M' q _ H' i ((s.go j i).set r)
def B5(i:Nat)(te:bp)(r:eY):aE:=λD U M=>match U[i]? with
 |some (ap x)=>te U M λy M1=>r x y M1 λz M2=>D.nx (U.set i<|some z) M2
 |_=>False
theorem J2{q:V4}{r:eY}(Q:X.N.Nodup)(W:X.N[i]?=ap x)(T:Ah X.env.scope x)(S:DE X B e te)(P:AI X q (liftR2 X r))(R:X.fn x=true\/X.env.scope.names.lookup x=ap .local:=by first|exact .inl rfl|exact .inr rfl|assumption):
  DS X B (.AugAssign (.Name x pos') q e pos) (B5 i te r):=by
 refine bJ (Iq Q W T S P R) ?_
 rintro D Z H ⟨U,M,DD,s,h,O⟩
 unfold B5 at h
 split at h
 .rename_i o J
  obtain⟨v,I,F⟩:=s.rs.get i o J;refine⟨v,I,U,M,_,s,h,λy M1 E w H1 f i1 G=>?_⟩;refine⟨o,y,M1,_,f,F.mf s.rh i1,G,E,λz M2 L Y H2 j m C=>?_⟩;exact O.nx _ M2 L _ H2 (i1.trans m) ((s.go j<|i1.trans m).set C)
 .exact h.elim
theorem HM{o:V4}{g:Int->Int->Int}(h:AI X o (ipI g)):AI X o (liftR2 X (jt λi j=>.int (g i j))):=by
 intro m s Z H x y v u Q I z q f;obtain⟨J,G,M,QQ,E,C,w,f,F⟩:=f;unfold jt at f
 split at f
 .cases C;cases w
  exact h m s Z H _ _ v u Q I z q ⟨_,_,rfl,rfl,F _ M f _ H E Frm.refl rfl⟩
 .exact f.elim
abbrev pb:eY:=jt λi j=>.int (i+j)
theorem xt:AI X .Add (liftR2 X pb):=HM KO
theorem DU:AI X .Sub (liftR2 X fI):=HM Kr
def nz(o i v:D)(M:Mem)(Q:Mem->Prop):Prop:=match o with
 |.ref a=>match M a,i with
  |some (.lst xs),.int k=>match rX xs.length k with
   |some j=>Q (M.upd a<|.lst<|xs.set j v)
   |none=>False
  |some (.dK Xd),y=>match cL y with
   |some k=>Xd.length<sizeLine/\Q (M.upd a<|.dK<|eK Xd k v)
   |none=>False
  |some (.dT Xd),y=>match Lg y with
   |some k=>Xd.length<sizeLine/\Q (M.upd a<|.dT<|eK Xd k v)
   |none=>False
  |_,_=>False
 |_=>False
inductive liftSet(X:Cx)(o i v:V)(H:Hp)(Q:Hp->Prop):Prop
 |mk (d1 d2 d3:_3.D) (M:Mem) (QQ:Mem->Prop) (rh:RepH X.K H M) (r1:Rp X.K H d1 o) (r2:Rp X.K H d2 i) (r3:Rp X.K H d3 v) (h:nz d1 d2 d3 M QQ) (u:∀M',QQ M'->∀H',RepH X.K H' M'->Frm M H M' H'->Q H'):liftSet X o i v H Q
theorem yq(hu:X.A.units+1<rc):Fz X (liftSet X):=by
 intro Xb s Z H o i v ov iv u Q I ro ri rv h;obtain⟨d1,d2,d3,M,QQ,rh,r1,r2,r3,h,up⟩:=h;unfold nz at h
 split at h
 .rename_i a
  cases r1;cases ro
  split at h
  .rename_i xs k hM
   cases r2;obtain⟨vs,h1,h2⟩:=rh _ _ hM
   split at h
   .rename_i j ej
    refine Bn Xb s Z H (.ref a) _ v _ iv u Q I rfl ri rv ⟨a,vs,k,j,rfl,rfl,h1,by rw[<- h2.length];exact ej,?_⟩
    have i2:Imm H (upd H a<|.lst<|vs.set j v):=Imm.upd (by rw[h1];trivial)
    exact up _ h _ (rh.put (by rw[h1];trivial) ⟨_,upd_same,(h2.set r3 j).mono i2⟩) (Frm.put<|.inr ⟨_,hM⟩)
   .exact h.elim
  .rename_i Xd hM
   obtain⟨ws,h1,h2⟩:=rh _ _ hM
   split at h
   .rename_i k ek
    have ev:=gD r2 ek;subst ev;have i2:Imm H (upd H a<|.dK<|cN ws k v):=Imm.upd (by rw[h1];trivial)
    refine pq hu I (DPut.k h1<|by rw[<- h2.length];exact h.1) ri rv λs' I'=>⟨_,I',?_⟩
    exact up _ h.2 _ (rh.put (by rw[h1];trivial) ⟨_,upd_same,(h2.put k r3).mono i2⟩) (Frm.put<|.inr ⟨_,hM⟩)
   .exact h.elim
  .rename_i Xd hM
   obtain⟨ws,h1,h2⟩:=rh _ _ hM
   split at h
   .rename_i k ek
    obtain⟨b,rfl,hb⟩:=su r2 ek;have i2:Imm H (upd H a<|.dT<|cN ws k v):=Imm.upd (by rw[h1];trivial)
    refine pq hu I (DPut.t h1 hb<|by rw[<- h2.length];exact h.1) ri rv λs' I'=>⟨_,I',?_⟩
    exact up _ h.2 _ (rh.put (by rw[h1];trivial) ⟨_,upd_same,(h2.put k r3).mono i2⟩) (Frm.put<|.inr ⟨_,hM⟩)
   .exact h.elim
  .exact h.elim
 .exact h.elim
def de(to ti:bp):jK:=λv U M Q=>to U M λo M1=>ti U M1 λi M2=>nz o i v M2 λM3=>Q U M3
theorem Jo{o i:fy}{to ti:bp}(O:X.A.units+1<rc)(L:DE X B o to)(N:DE X B i ti)(P:∀v,We (.Subscript o i pos) X.env v=(do
   let ov <- vb [v] (gp o X.env)
   let iv <- vb [v,ov] (gp i X.env)
   VX pos
   vb [v,ov,iv] (Ww ov iv v)
   release [v,ov,iv] []):=by intro _;rfl):DG X B (.Subscript o i pos) (de to ti):=by
 refine kM (Ih L N (yq O) P) ?_
 rintro v Z H Q ⟨d,U,M,QQ,s,r,h,J⟩
 refine⟨U,M,_,s,h,λx M1 E v1 H1 f m G=>?_⟩;refine⟨U,M1,_,s.go f m,E,λy M2 I v2 H2 w j C=>?_⟩;exact⟨x,y,d,M2,_,w,G.mf f j,C,r.mf s.rh (m.trans j),I,λM3 F H3 q z=>J U M3 F Z H3 ((m.trans j).trans z) (s.go q<|(m.trans j).trans z)⟩
end
section
variable{o value:fy}{f:Str}{tpos:Pos}{ta tv:bp}{C:eg}
def bG(f:Str)(v:D):List (Str×D)->List (Str×D)
 |[]=>[(f,v)]
 |(g,w)::r=>if g=f then (g,v)::r else (g,w)::bG f v r
theorem Rkv.lookup{fs:List (Str×D)}{j:List (Str×V)}(h:Rkv K H fs j)(f:Str):(fs.lookup f=cm/\j.lookup f=cm)\/∃d v,fs.lookup f=ap d/\j.lookup f=ap v/\Rp K H d v:=by
 induction h with
 |nil=>exact .inl ⟨rfl,rfl⟩
 |@cons p q ps qs r t ih=>
  obtain⟨m,d⟩:=p;obtain⟨y,v⟩:=q;obtain⟨e,r⟩:=r;dsimp only at e r;subst e;rw[QP,QP];cases w:f==m with
  |true=>exact .inr ⟨d,v,rfl,rfl,r⟩
  |false=>exact ih
theorem D_(f:Str)(v:V):∀h:List (Str×V),da f v h=(match h with|[]=>[(f,v)]|(g,w)::r=>if g=f then (g,v)::r else (g,w)::da f v r)
 |[]=>rfl
 |(g,w)::r=>by rw[da]
theorem jr{K:OA}{H:Hp}{f:Str}{d:D}{v:V}(h:Rp K H d v):∀{fs:List (Str×D)}{ws:List (Str×V)},Rkv K H fs ws->Rkv K H (bG f d fs) (_2.da f v ws)
 |_,_,.nil=>.cons ⟨rfl,h⟩ .nil
 |(k1,d1)::fs,(k2,v1)::ws,.cons r t=>by
  obtain⟨e,r⟩:=r;dsimp only at e r;subst e;rw[D_];show Rkv K H (if k1=f then (k1,d)::fs else (k1,d1)::bG f d fs) (if k1=f then (k1,v)::ws else (k1,v1)::_2.da f v ws)
  split
  .exact .cons ⟨rfl,h⟩ t
  .exact .cons ⟨rfl,r⟩ (jr h t)
def aZ(C:eg)(ta:bp)(f:Str):bp:=λU M Q=>ta U M λx M1=>match x with
 |.ref a=>match M1 a with
  |some (.ins C' fs)=>C'=C/\match fs.lookup f with
   |some d=>Q d M1
   |none=>False
  |_=>False
 |_=>False
theorem JM(c:Cls X.K C)(n:NoAttr X.K C f)(N:DE X B e ta)(L:nr e f X.env (gp e X.env)=gp e X.env:=by rfl):DE X B (.Attribute e f pos) (aZ C ta f):=by
 refine aY (L9 N L) ?_
 rintro Z H Q ⟨U,M,QQ,s,h,u⟩
 refine⟨U,M,_,s,h,λx M1 j v1 H1 m F G=>?_⟩
 split at j
 .rename_i a
  cases G
  split at j
  .rename_i C' fs J
   obtain⟨rfl,j⟩:=j;obtain⟨I,w,y,E⟩:=m _ _ J
   split at j
   .rename_i d q
    rcases E.lookup f with⟨z,_⟩|⟨d',v,z1,z2,z3⟩
    .rw[q]at z;cases z
    .rw[q]at z1;cases z1
     exact⟨a,_,I,w,v,rfl,y,c,n,z2,u _ M1 j _ H1 m F z3⟩
   .exact j.elim
  .exact j.elim
 .exact j.elim
def cu(C:eg)(ta tv:bp)(f:Str):aE:=λD U M=>tv U M λy M1=>ta U M1 λx M2=>match x with
 |.ref a=>match M2 a with
  |some (.ins C' fs)=>C'=C/\fs.length<1000/\D.nx U (M2.upd a<|.ins C<|bG f y fs)
  |_=>False
 |_=>False
theorem J1(c:Cls X.K C)(n:NoAttr X.K C f)(ha:DE X B o ta)(hv:DE X B value tv)(hs:wh value (ap<|.Attribute o f pos') pos.line X.env=pure false:=by rfl):DS X B (.Assign [.Attribute o f pos'] value pos) (cu C ta tv f):=by
 refine bJ (JP ha hv hs) ?_
 rintro D Z H ⟨U,M,DD,s,h,up⟩
 refine⟨U,M,_,s,h,λy M1 h1 v1 H1 rh1 i1 r1=>?_⟩;refine⟨U,M1,_,s.go rh1 i1,h1,λx M2 h2 v2 H2 rh2 i2 r2=>?_⟩
 split at h2
 .rename_i a
  cases r2
  split at h2
  .rename_i C' fs hM
   obtain⟨rfl,hl,h2⟩:=h2;obtain⟨dx,ws,e1,e2⟩:=rh2 _ _ hM;have i3:Frm M2 H2 (M2.upd a<|.ins C'<|bG f y fs) (upd H2 a<|.ins C' dx<|_2.da f v1 ws):=Frm.put (.inr ⟨_,hM⟩);refine⟨a,C',dx,ws,rfl,e1,c,n,by rw[<- e2.length];exact hl,up.nx _ _ h2 Z _ ((i1.trans i2).trans i3)<|s.go (rh2.put (by rw[e1];trivial) ⟨dx,_,upd_same,?_⟩)<|(i1.trans i2).trans i3⟩
   exact(jr (r1.mf rh1 i2) e2).mono (i3.imm rh2)
  .exact h2.elim
 .exact h2.elim
structure BxW(c:fC)(tb:aE)(D:DEnds):Type
structure BxF(g:jK)(tb:aE)(D:DEnds)(ok:Mem->Prop):Type
def bY(c:fC)(tb:aE)(D:DEnds)(bx:BxW c tb D):Nat->Dl->Mem->Prop
 |0,_,_=>False
 |n+1,U,M=>c U M λb M1=>if b=true then tb { D with nx:=bY c tb D bx n,ct:=bY c tb D bx n,bk:=D.nx } U M1 else D.nx U M1
def dQ(c:fC)(tb:aE):aE:=λD U M=>∃n,bY c tb D ⟨⟩ n U M
theorem D8{v:Xo}{I:fC}(Y:WQ (ff X.prog X.w) X.A X.env X.xe)(T:DT X B c I)(W:yt X B v tb):DS X B (.While c v [] pos) (dQ I tb):=by
 refine bJ (AG Y T W) ?_
 rintro D Z H ⟨U,M,DD,s,⟨n,h⟩,Q⟩
 refine⟨λm j H'=>∃δ' M',SR X B δ' M' j H'/\Frm M H M' H'/\bY I tb DD ⟨⟩ m δ' M',⟨n,U,M,s,Frm.refl,h⟩,?_⟩
 rintro m O H1 ⟨F,M1,N,i1,S⟩
 cases m with
 |zero=>exact(show False from S).elim
 |succ m=>
  refine⟨F,M1,_,N,S,λb M2 q H2 G y=>?_⟩;cases b with
  |false=>rw[if_neg OW]at q ⊢;exact Q.nx _ _ q O H2 (i1.trans y) (N.go G y)
  |true=>
   rw[if_pos rfl]at q ⊢;refine⟨λj H'=>∃δ' M',SR X B δ' M' j H'/\Frm M H M' H'/\bY I tb DD ⟨⟩ m δ' M',λj H' z=>⟨m,Rj _,z⟩,?_⟩;refine⟨F,M2,_,N.go G y,q,⟨?_,(Q.go<|i1.trans y).rt,(Q.go<|i1.trans y).nx,?_⟩⟩
   .exact λE M3 L R H3 P J=>⟨E,M3,J,(i1.trans y).trans P,L⟩
   .exact λE M3 L R H3 P J=>⟨E,M3,J,(i1.trans y).trans P,L⟩
structure DIt where
 items:List D
 src:List (eg×List D)
def DIt.ok(I:DIt)(M:Mem):Prop:=∀p∈I.src,M p.1=ap (.lst p.2)
abbrev zK:=Dl->Mem->(DIt->Mem->Prop)->Prop
def Mt(K:OA)(H0:Hp)(it:DIt)(J:It):Prop:=∀(i:Nat)(H:Hp)(M:Mem),Imm H0 H->RepH K H M->it.ok M->
 (∀d,it.items[i]?=ap d->J.go i H/\∀x H',J.yld i H x H'->Frm M H M H'/\RepH K H' M/\Rp K H' d x)/\(it.items.length<=i->J.stop i H)
inductive liftI(X:Cx)(B:Bd)(T:zK)(Z:St)(H:Hp)(R:It->Hp->Prop):Prop
 |mk (U:Dl) (M:Mem) (RR:DIt->Mem->Prop) (s:SR X B U M Z H) (h:T U M RR) (u:∀it M',RR it M'->∀J H',RepH X.K H' M'->Frm M H M' H'->Mt X.K H' it J->R J H'):liftI X B T Z H R
def DI(X:Cx)(B:Bd)(tg iter:fy)(T:zK):Prop:=PI X tg iter (liftI X B T)
theorem m8{j:fy}{t t':TI}(h:PI X tg j t)(w:∀Z H Q,t' Z H Q->t Z H Q):PI X tg j t':=λm s Z H Q I q=>h m s Z H Q I (w Z H Q q)
def gU(g:jK)(tb:aE)(DD:DEnds)(ok:Mem->Prop)(b:BxF g tb DD ok):List D->Dl->Mem->Prop
 |[],U,M=>ok M/\DD.nx U M
 |x::xs,U,M=>ok M/\g x U M λh M2=>tb { DD with nx:=gU g tb DD ok b xs,ct:=gU g tb DD ok b xs,bk:=DD.nx } h M2
def cH(wi:zK)(g:jK)(tb:aE):aE:=λD U M=>wi U M λh M1=>gU g tb D h.ok ⟨⟩ h.items U M1
theorem Ff{DD:DEnds}{ok:Mem->Prop}{b:BxF g tb DD ok}{xs:List D}{U:Dl}(h:gU g tb DD ok b xs U M):ok M:=by
 cases xs with
 |nil=>exact h.1
 |cons _ _=>exact h.1
theorem Js{j:fy}{E:Xo}{wi:zK}(hp:WQ (ff X.prog X.w) X.A X.env X.xe)(hc:X.calm=true)(hi:DI X B tg j wi)(hg:DG X B tg g)(hb:yt X B E tb)(hs:∀x,ol j X.env x=pure x:=by intro _;rfl):DS X B (.For tg j E [] pos) (cH wi g tb):=by
 refine bJ (Lh hp hc hi hg hb hs) ?_
 rintro D Z H ⟨U,M,DD,s,h,up⟩
 refine⟨U,M,_,s,h,λy M1 h1 J H1 L i1 hJ=>?_⟩;refine⟨λi m v H'=>m=y.items.length-i/\i<=y.items.length/\∃δ' M',SR X B δ' M' v H'/\Frm M1 H1 M' H'/\gU g tb DD y.ok ⟨⟩ (y.items.drop i) δ' M',⟨_,rfl,Qc _,U,M1,s.go L i1,Frm.refl,h1⟩,?_⟩
 rintro i m O H2 ⟨rfl,hi',P,M2,T,S,N⟩
 have Y:=Ff N;obtain⟨R,G⟩:=hJ i H2 M2 (S.imm L) T.rh Y
 by_cases I:i<y.items.length
 .rw[QT I]at N
  obtain⟨go,hy⟩:=R _ (Oz I);refine .inr ⟨go,λv H'=>∃δ' M',SR X B δ' M' v H'/\Frm M1 H1 M' H'/\gU g tb DD y.ok ⟨⟩ (y.items.drop (i+1)) δ' M',λv H' z=>⟨y.items.length-(i+1),by omega,rfl,I,z⟩,λx H3 hx=>?_⟩
  obtain⟨i3,W,rx⟩:=hy x H3 hx;refine⟨_,P,M2,_,T.go W i3,rx,N.2,λδ4 M4 h4 σ4 H4 i4 s4=>?_⟩;have q:=(S.trans i3).trans i4;refine⟨δ4,M4,_,s4,h4,⟨?_,(up.go<|i1.trans q).rt,(up.go<|i1.trans q).nx,?_⟩⟩
  .exact λF M5 q5 σ5 H5 Q s5=>⟨F,M5,s5,q.trans Q,q5⟩
  .exact λF M5 q5 σ5 H5 Q s5=>⟨F,M5,s5,q.trans Q,q5⟩
 .rw[Sg (by omega)]at N
  exact .inl ⟨G (by omega),up.nx _ _ N.2 O H2 (i1.trans S) T⟩
end
end _3
namespace _2
open PySem PySem.Spec PyProof.Rows
section
variable {X:Cx}{B:Bd}{tg:fy}
def Np(K:OA)(tl:TE):TI:=λZ H R=>tl Z H λx H1=>∃a b xs,x=.ref a/\Ai K b H1 a xs/\R (if b=true then Itl K a else Itt K a) H1
theorem FV{l:fy}{n:TE}(A:PE X l n):PI X tg l (Np X.K n):=by
 intro g s Z H R I h;refine bq (A g s Z H _ I h) λv c ⟨x,H1,I1,w,y⟩=>?_;obtain⟨a,b,j,e,m,q⟩:=y;subst e;cases w;cases b with
 |true=>
  obtain⟨f,u,p,z⟩:=I1.list (show SqL X.K H1 a j from m);refine Wo p.isList ?_;refine⟨c.heap.objs.size,[c.heap.objs.size],_,_,H1,rfl,I1.kept (t':=c.toks) λb o e=>Ow _ e,A2 a _,⟨_,OI _ rfl,rfl,rfl⟩,λb i=>?_,q⟩;have e:b=c.heap.objs.size:=by simpa using i
  subst e;exact I1.fpOk (OB _) (I1.hok.fresh<|OB _)
 |false=>
  obtain⟨f,u,p,z⟩:=I1.tuple (show ij X.K H1 a j from m);refine wpAny_pyIter_tuple (show c.heap.IsTuple a f.toArray from p) ?_;refine⟨c.heap.objs.size,[c.heap.objs.size],_,_,H1,rfl,I1.kept (t':=c.toks) λb o e=>Ow _ e,vC a _,⟨_,OI _ rfl,rfl,rfl⟩,λb i=>?_,q⟩;have e:b=c.heap.objs.size:=by simpa using i
  subst e;exact I1.fpOk (OB _) (I1.hok.fresh<|OB _)
def Ka(K:OA)(t:TA):TI:=λZ H R=>t Z H λa H1=>∃b l xs,a=[.ref l]/\Ai K b H1 l xs/\R (Ite K b l) H1
theorem Ch{a:fy}{j:Xn}{J:Nat}{tp:Pos}{w:TA}{p pos:Pos}(L:Gl X "enumerate")(M:X.mg "enumerate"=cm)(N:PA X [a] w)(G:fe [a] X.env=[(eC,gp a X.env)]:=by rfl):
  PI X (.Tuple j J tp) (.Call (.Name "enumerate" p) [a] [] pos) (Ka X.K w):=by
 intro g s Z H R I h;refine Call_ (eF I L M (by decide +kernel:gl "enumerate"=ap (.type "enumerate"))<|Pr (bq (N pos g s Z H _ I h) λO f ⟨T,H1,I1,C,o⟩=>?_) G rfl)
 obtain⟨b,l,Q,e,o,q⟩:=o;subst e;obtain⟨P,rfl,m⟩:=C.one;cases m;obtain⟨A,S,sq,z⟩:=I1.src o;refine zc sq λv u x F E=>?_;have I2:Inv X g Z H1 { f with heap:=v }:=I1.kept (t':=f.toks) E;refine wpAny_pyIter_enum (s:={ f with heap:=v }) u ?_;refine⟨f.heap.objs.size+1,[f.heap.objs.size+1,f.heap.objs.size],_,_,H1,rfl,I2,A5 b l _ _ (show (_:Nat)≠(_:Nat) by lia),⟨⟨_,u⟩,x⟩,λc y=>?_,q⟩
 have i:f.heap.objs.size<=c:=by
  have n:c=f.heap.objs.size+1\/c=f.heap.objs.size:=by simpa using y
  rcases n with e|e<;>rw[e]<;>first|exact P5 _ _|exact OB _
 exact I1.fpOk (H':=H1) i (I1.hok.fresh i)
end
end _2
namespace _3
open PySem _2
variable{C f:eg}{B:Bd}{X:Cx}{Q:DK}{EE:DX}{U:Dl}{a e:fy}{fd:g4}{base:hG}{H H':Hp}{Z:_2.St}{es:Xn}{N ps:Xk}{M M':Mem}{n:Nat}{K:OA}{Xg p pos:Pos}{P:fx}{scope:Pi}{T:Sd}{st:tm}{Xc x:Str}{mg:Xr}{w:g3}{E:XK}{ta:fj}{g:jK}
section
variable{tg:fy}
def bE(d:D)(xs:List D):List (eg×List D):=match d with
 |.ref a=>[(a,xs)]
 |_=>[]
theorem AA{d:D}{v:V}{xs:List D}(s:RepH K H M)(r:Rp K H d v)(e:aJ M d=ap xs):∃p b,v=.ref p/\∀H' M',Imm H H'->RepH K H' M'->(∀q∈bE d xs,M' q.1=ap (.lst q.2))->∃vs,Ai K b H' p vs/\Rps K H' xs vs:=by
 cases d with
 |tup ys=>
  cases e;obtain⟨p,vs,rfl,h,r⟩:=r;exact⟨p,eC,rfl,λH' M' i _ _=>⟨vs,(h.mono i).sq,r.mono i⟩⟩
 |lst ys=>
  cases e;obtain⟨p,vs,rfl,h,r⟩:=r;exact⟨p,true,rfl,λH' M' i _ _=>⟨vs,(h.mono i).sq,r.mono i⟩⟩
 |mt ys=>
  cases e;obtain⟨p,vs,rfl,h,r⟩:=r;exact⟨p,eC,rfl,λH' M' i _ _=>⟨vs,h.sq,r.mono i⟩⟩
 |ml ys=>
  cases e;obtain⟨p,vs,rfl,h,r⟩:=r;exact⟨p,true,rfl,λH' M' i _ _=>⟨vs,(h.mono i).sq,r.mono i⟩⟩
 |ref a=>
  refine⟨a,true,r,λH' M' i c o=>?_⟩;obtain⟨vs,j,m⟩:=c _ _ (o (a,xs)<|by simp[bE])
  exact⟨vs,SqL.of j,m⟩
 |_=>cases e
theorem Dq{d:D}{xs:List D}(e:aJ M d=ap xs):∀q∈bE d xs,M q.1=ap (.lst q.2):=by
 cases d with
 |ref a=>
  intro q b;have:q=(a,xs):=by simpa [bE] using b
  subst this;simp only[aJ]at e
  split at e
  .rename_i c h;cases e;exact h
  .cases e
 |_=>intro q b;simp[bE]at b
def bH(te:bp):zK:=λU M R=>te U M λd M1=>match aJ M1 d with
 |some xs=>R ⟨xs,bE d xs⟩ M1
 |none=>False
theorem JR{l:fy}{O:bp}(A:DE X B l O):DI X B tg l (bH O):=by
 refine m8 (FV A) ?_
 rintro Z H R ⟨U,M,RR,s,h,up⟩
 refine⟨U,M,_,s,h,λd M1 F v H1 q Y r1=>?_⟩
 split at F
 .rename_i xs e
  obtain⟨p,b,rfl,m⟩:=AA q r1 e;obtain⟨vs,W,_⟩:=m H1 M1 Imm.refl q (Dq e);refine⟨p,b,vs,rfl,W,up _ M1 F _ H1 q Y λi H2 M2 S y G=>?_⟩;obtain⟨j,c,I⟩:=m H2 M2 S y G;have A:=I.length;cases b with
  |true=>
   refine⟨λd L=>?_,λo=>⟨j,c,by rw[<- A];exact o⟩⟩
   obtain⟨w,z,u⟩:=I.get L;refine⟨⟨j,w,c,z⟩,?_⟩
   rintro x H3 ⟨rfl,J⟩
   have:=J j c;rw[z]at this;cases this;exact⟨Frm.refl,y,u⟩
  |false=>
   refine⟨λd L=>?_,λo=>⟨j,c,by rw[<- A];exact o⟩⟩
   obtain⟨w,z,u⟩:=I.get L;refine⟨⟨j,w,c,z⟩,?_⟩
   rintro x H3 ⟨rfl,J⟩
   have:=J j c;rw[z]at this;cases this;exact⟨Frm.refl,y,u⟩
 .exact F.elim
def dW(lo:Int)(n:Nat):List D:=(Pm n).map λ(i:Nat)=>D.int (lo+i)
def fG(t:fj):zK:=λU M R=>t U M λb M1=>match b with
 |[.int j]=>-(2 ^ 62)<=j/\j<2 ^ 62/\R ⟨dW 0 j.toNat,[]⟩ M1
 |_=>False
theorem Jz{m:Int}:Mt K H ⟨dW m n,[]⟩ (Itr m n):=λi H2 M2 u o _=>by
 have b:(dW m n).length=n:=by simp[dW]
 refine⟨λd j=>?_,λc=>by rw[b]at c;exact c⟩
 have q:i<n:=by
  rcases Ql i n with h|h
  .exact h
  .rw[PC (by rw[b];exact h)]at j;cases j
 have s:d=.int (m+i):=by
  simp only[dW,OO,Qp q]at j;exact(PH j).symm
 subst s;refine⟨q,?_⟩
 rintro x H3 ⟨rfl,rfl⟩
 exact⟨Frm.refl,o,rfl⟩
theorem z8(y:Gl X "range")(u:X.mg "range"=cm)(z:DA X B [a] ta)(q:fe [a] X.env=[(eC,gp a X.env)]:=by rfl):DI X B tg (.Call (.Name "range" p) [a] [] pos) (fG ta):=by
 refine m8 (zD y u z q) ?_
 rintro Z H R ⟨U,M,RR,s,h,o⟩
 refine⟨U,M,_,s,h,λds M1 b A H1 c j m=>?_⟩
 split at b
 .obtain⟨v,rfl,i⟩:=gR (ds:=[]) m
  cases i;exact⟨_,rfl,b.1,b.2.1,o _ M1 b.2.2 _ H1 c j Jz⟩
 .exact b.elim
def sh(xs:List D):List D:=(xs.zipIdx).map λp=>D.tup [.int (p.2:Nat),p.1]
theorem zS{xs:List D}{i:Nat}:(sh xs)[i]?=(xs[i]?).map λd=>D.tup [.int (i:Nat),d]:=by
 simp[sh,OO,List.getElem?_zipIdx];cases xs[i]?<;>simp
def k7(t:fj):zK:=λU M R=>t U M λb M1=>match b with
 |[d]=>match aJ M1 d with
  |some xs=>R ⟨sh xs,bE d xs⟩ M1
  |none=>False
 |_=>False
theorem Ep{y:Xn}{x1:Nat}{tp:Pos}(hg:Gl X "enumerate")(hm:X.mg "enumerate"=cm)(ha:DA X B [a] ta)(hs:fe [a] X.env=[(eC,gp a X.env)]:=by rfl):
  DI X B (.Tuple y x1 tp) (.Call (.Name "enumerate" p) [a] [] pos) (k7 ta):=by
 refine m8 (Ch hg hm ha hs) ?_
 rintro Z H R ⟨U,M,RR,s,h,up⟩
 refine⟨U,M,_,s,h,λds M1 q S H1 o i1 r1=>?_⟩
 split at q
 .obtain⟨v,rfl,rv⟩:=gR (ds:=[]) r1
  split at q
  .rename_i xs e
   obtain⟨p,b,rfl,c⟩:=AA o rv e;obtain⟨S,hq,_⟩:=c H1 M1 Imm.refl o (Dq e);refine⟨b,p,S,rfl,hq,up _ M1 q _ H1 o i1 λi H2 M2 Y u A=>?_⟩;obtain⟨m,j,O⟩:=c H2 M2 Y u A;have W:=O.length;refine⟨λd L=>?_,λz=>⟨m,j,by rw[<- W];simpa [sh] using z⟩⟩
   rw[zS]at L;obtain⟨d0,G,rfl⟩:=R8.mp L;obtain⟨w,J,I⟩:=O.get G;refine⟨⟨m,w,j,J⟩,?_⟩
   rintro x H3 ⟨T,x',F,rfl,rfl,hx⟩
   have:=hx m j;rw[J]at this;cases this;have i3:Imm H2 (upd H2 T<|.tup [.int i,w]):=Imm.new F;exact⟨Frm.new F,u.new F,T,_,rfl,upd_same,.cons rfl<|.cons (I.mono i3) .nil⟩
  .exact q.elim
 .exact q.elim
end
def rZ:Bd:=⟨λ_ _=>True,λ_ _=>trivial⟩
section
inductive liftE0(K:OA)(T:bp)(Z:_2.St)(H:Hp)(Q:VK):Prop
 |mk (U:Dl) (M:Mem) (QQ:DK) (rh:RepH K H M) (rs:RepS K H U Z) (h:T U M QQ) (u:Up K M H QQ Q):liftE0 K T Z H Q
inductive liftT0(K:OA)(T:fC)(Z:_2.St)(H:Hp)(Q:Bool->Hp->Prop):Prop
 |mk (U:Dl) (M:Mem) (QQ:Bool->Mem->Prop) (rh:RepH K H M) (rs:RepS K H U Z) (h:T U M QQ) (u:UpT K M H QQ Q):liftT0 K T Z H Q
inductive liftG0(K:OA)(g:jK)(v:V)(Z:_2.St)(H:Hp)(Q:_2.St->Hp->Prop):Prop
 |mk (d:D) (U:Dl) (M:Mem) (QQ:Dl->Mem->Prop) (rh:RepH K H M) (rs:RepS K H U Z) (r:Rp K H d v) (h:g d U M QQ) (u:∀δ' M',QQ δ' M'->∀σ' H',Frm M H M' H'->RepH K H' M'->RepS K H' δ' σ'->Q σ' H'):liftG0 K g v Z H Q
theorem ve{T:bp}(h:DE X rZ e T):PE X e (liftE0 X.K T):=aY h λZ H Q ⟨U,M,QQ,c,b,h,u⟩=>⟨U,M,QQ,⟨trivial,c,b⟩,h,u⟩
theorem uX(h:DG X rZ e g):PG X e (liftG0 X.K g):=kM h λv Z H Q ⟨d,U,M,QQ,rh,rs,r,h,u⟩=>⟨d,U,M,QQ,⟨trivial,rh,rs⟩,r,h,λc M' q b H' f s=>u c M' q b H' f s.rh s.rs⟩
theorem RepH.add{a:eg}{o:MO}(r:RepH K H M)(n:RepO K H a o):RepH K H (M.upd a o):=λb p e=>by
 by_cases c:b=a
 .subst c;rw[Mem.upd_same]at e;cases e;exact n
 .rw[ae c]at e;exact r b p e
def bu(ls:Xk)(js:List Nat)(U:Dl):Dl:=ls.map (λ_=>cm)++js.map λj=>(U[j]?).join
theorem RepS.start(r:RepS K H U Z)(ls:Xk)(c:List Nat):RepS K H (bu ls c U) (bL ls c Z):=by
 refine⟨by simp[bu,bL],λi d e=>?_⟩
 unfold bu at e;unfold bL
 by_cases b:i<ls.length
 .rw[PJ (by simpa using b),OO,Oz b]at e
  cases e
 .rw[Pj (by simpa using b),Ox,OO]at e
  rw[Pj (by simpa using b),Ox,OO]
  cases h:c[i-ls.length]? with
  |none=>rw[h]at e;cases e
  |some j=>
   rw[h]at e;have q:(U[j]?).join=ap d:=by simpa using e
   have u:U[j]?=ap (ap d):=by
    cases z:U[j]? with
    |none=>rw[z]at q;cases q
    |some o=>rw[z]at q;have s:o=ap d:=q;rw[s]
   obtain⟨v,m,y⟩:=r.get j d u;exact⟨v,by simp[m],y⟩
structure BxC(g:jK)(tt:fC)(te:bp)(ok:Mem->Prop)(Q:List D->Mem->Prop):Type
def cw(g:jK)(tt:fC)(te:bp)(ok:Mem->Prop)(Q:List D->Mem->Prop)(b:BxC g tt te ok Q):List D->List D->Dl->Mem->Prop
 |[],Xe,_,M=>ok M/\Q Xe M
 |x::xs,Xe,U,M=>ok M/\g x U M λh M2=>tt h M2 λc M3=>if c=true then te h M3 λy M4=>Xe.length<sizeLine/\cw g tt te ok Q b xs (Xe++[y]) h M4 else cw g tt te ok Q b xs Xe h M3
def aX(wi:zK)(ls:Xk)(js:List Nat)(g:jK)(tt:fC)(te:bp):bp:=λU M Q=>wi U M λc M1=>cw g tt te c.ok (λb M'=>∀p,M' p=cm->Q (.ref p) (M'.upd p<|.lst b)) ⟨⟩ c.items [] (bu ls js U) M1
theorem BD{tt:fC}{te:bp}{ok:Mem->Prop}{xs Xe:List D}{Q:List D->Mem->Prop}{b:BxC g tt te ok Q}(h:cw g tt te ok Q b xs Xe U M):ok M:=by
 cases xs with
 |nil=>exact h.1
 |cons _ _=>exact h.1
variable{tg iter elt:fy}{ifs:Xn}{cl:List (Str×eg)}{ls fs:Xk}{js:List Nat}{wi:zK}{tt:fC}{te:bp}
theorem jz{Q:VK}(h:liftE X B (aX wi ls js g tt te) Z H Q):xC (liftI X B wi) ls js (liftG0 X.K g) (liftT0 X.K tt) (liftE0 X.K te) Z H Q:=by
 obtain⟨U,M,QQ,s,h,u⟩:=h;refine⟨U,M,_,s,h,λit M1 h1 J H1 rh1 f1 hJ p hp=>?_⟩;have hMp:M1 p=none:=rh1.fresh hp
 refine⟨λi m σ' H'=>m=it.items.length-i/\i<=it.items.length/\∃δ' M' Xe ys,RepH X.K H' M'/\RepS X.K H' δ' σ'/\H' p=ap (.lst ys)/\Rps X.K H' Xe ys/\M' p=cm/\Frm M1 H1 M' H'/\
   cw g tt te it.ok (λXe M'=>∀p,M' p=cm->QQ (.ref p) (M'.upd p<|.lst Xe)) ⟨⟩ (it.items.drop i) Xe δ' M',
  ⟨_,rfl,Qc _,bu ls js U,M1,[],[],rh1.new hp,((s.rs.mono<|f1.imm s.rh).mono<|Imm.new hp).start ls js,upd_same,.nil,hMp,Frm.new hp,h1⟩,?_⟩
 rintro i m σ2 H2 ⟨rfl,hi,δ2,M2,Xe,ys,rh2,rs2,hp2,ra2,hm2,f2,h2⟩
 have hok:=BD h2;obtain⟨hgo,hstop⟩:=hJ i H2 M2 (f2.imm rh1) rh2 hok
 by_cases hlt:i<it.items.length
 .rw[QT hlt]at h2
  obtain⟨go,hy⟩:=hgo _ (Oz hlt)
  refine .inr ⟨go,λσ' H'=>∃δ' M' Xe ys,RepH X.K H' M'/\RepS X.K H' δ' σ'/\H' p=ap (.lst ys)/\Rps X.K H' Xe ys/\M' p=cm/\Frm M1 H1 M' H'/\
   cw g tt te it.ok (λXe M'=>∀p,M' p=cm->QQ (.ref p) (M'.upd p<|.lst Xe)) ⟨⟩ (it.items.drop (i+1)) Xe δ' M',λσ' H' z=>⟨it.items.length-(i+1),by omega,rfl,hlt,z⟩,λx H3 hx=>?_⟩
  obtain⟨f3,rh3,rx⟩:=hy x H3 hx;refine⟨_,δ2,M2,_,rh3,rs2.mono (f3.imm rh2),rx,h2.2,λδ4 M4 h4 σ4 H4 f4 rh4 rs4=>?_⟩;refine⟨δ4,M4,_,rh4,rs4,h4,λc M5 h5 H5 rh5 f5=>?_⟩;have f35:=(f3.trans f4).trans f5;obtain⟨hp5,hm5⟩:=f35.keep p _ hp2 hm2;cases c with
  |false=>
   try dsimp only
   rw[if_neg OW]at h5 ⊢;exact⟨δ4,M5,Xe,ys,rh5,rs4.mono (f5.imm rh4),hp5,ra2.mf rh2 f35,hm5,f2.trans f35,h5⟩
  |true=>
   try dsimp only
   rw[if_pos rfl]at h5 ⊢;refine⟨δ4,M5,_,rh5,rs4.mono (f5.imm rh4),h5,λy M6 h6 v6 H6 rh6 f6 r6=>?_⟩;obtain⟨hp6,hm6⟩:=f6.keep p _ hp5 hm5;have f26:=f35.trans f6;have ra6:=ra2.mf rh2 f26;refine⟨ys,hp6,by rw[<- ra6.length];exact h6.1,?_⟩
   have im:Imm H6 (upd H6 p<|.lst (ys++[v6])):=Imm.upd (by rw[hp6];trivial)
   refine⟨δ4,M6,Xe++[y],ys++[v6],rh6.keep im λb o hb=>aL (Mem.ne hb hm6),((rs4.mono<|f5.imm rh4).mono<|f6.imm rh5).mono im,upd_same,(ra6.append<|.cons r6 .nil).mono im,hm6,?_,h6.2⟩;refine⟨λb w e n=>?_⟩;obtain⟨e2,n2⟩:=(f2.trans f26).keep b w e n;exact⟨by rw[aL (bg e hp)];exact e2,n2⟩
 .rw[Sg (by omega)]at h2
  refine .inl ⟨hstop (by omega),u _ _ (h2.2 p hm2) _ H2 (rh2.add ⟨ys,hp2,ra2⟩) ?_ rfl⟩
  refine⟨λb w e n=>?_⟩;obtain⟨e1,n1⟩:=f1.keep b w e n;obtain⟨e2,n2⟩:=f2.keep b w e1 n1;exact⟨e2,by rw[ae (bg e1 hp)];exact n2⟩
def GH(X:Cx)(B:Bd)(ifs:Xn)(T:fC):Prop:=FG X ifs (liftT X B T)
def dG:fC:=λ_ M Q=>Q true M
theorem F2:GH X B [] dG:=λb s Z H Q I i=>by obtain⟨U,M,QQ,c,h,u⟩:=i;exact F5 b s Z H Q I (u true M h H c.rh Frm.refl)
theorem Fp{c:fy}{t:fC}(h:DT X B c t):GH X B [c] t:=G0 h
theorem rK{T:fC}(h:GH X rZ es T):FG X es (liftT0 X.K T):=λb s Z H Q I i=>by obtain⟨U,M,QQ,j,c,m,u⟩:=i;exact h b s Z H Q I ⟨U,M,QQ,⟨trivial,j,c⟩,m,u⟩
theorem Eg(j:X.calm=true)(co:CompOk X scope cl ls fs js)(m:DI X B tg iter wi)(i:∀(C:eg)(b:el)(H₀:Hp)(c:Xm)(pl:Xq),DG (ba X (ls++fs) scope cl C b H₀ c pl) rZ tg g/\GH (ba X (ls++fs) scope cl C b H₀ c pl) rZ ifs tt/\DE (ba X (ls++fs) scope cl C b H₀ c pl) rZ elt te)(o:∀x,ol iter X.env x=pure x:=by intro _;rfl):DE X B (.ListComp elt [⟨tg,iter,ifs,0⟩] scope pos) (aX wi ls js g tt te):=
 aY (Fg (g:=liftG0 X.K g) (tt:=liftT0 X.K tt) (te:=liftE0 X.K te) j co m (λC b H₀ c pl=>⟨uX (i C b H₀ c pl).1,rK (i C b H₀ c pl).2.1,ve (i C b H₀ c pl).2.2⟩) o) λ_ _ _ h=>jz h
def cZ(i:Nat)(t:bp):aE:=λD U M=>t U M λd M1=>D.nx (U.set i<|some d) M1
theorem G2{i:Nat}{y c:Pos}(G:X.N.Nodup)(o:X.N[i]?=ap x)(I:Ah X.env.scope x)(F:X.calm=true)(co:CompOk X scope cl ls fs js)(J:DI X B tg iter wi)(u:∀(C:eg)(b:el)(H₀:Hp)(j:Xm)(pl:Xq),DG (ba X (ls++fs) scope cl C b H₀ j pl) rZ tg g/\GH (ba X (ls++fs) scope cl C b H₀ j pl) rZ ifs tt/\DE (ba X (ls++fs) scope cl C b H₀ j pl) rZ elt te)(m:wh (.ListComp elt [⟨tg,iter,ifs,0⟩] scope pos) (ap<|.Name x y) c.line X.env=pure true:=by rfl)(hs:∀x,ol iter X.env x=pure x:=by intro _;rfl)(hf:X.fn x=true\/X.env.scope.names.lookup x=ap .local:=by first|exact .inl rfl|exact .inr rfl|assumption):
  DS X B (.Assign [.Name x y] (.ListComp elt [⟨tg,iter,ifs,0⟩] scope pos) c) (cZ i<|aX wi ls js g tt te):=by
 refine bJ (FR (g:=liftG0 X.K g) (tt:=liftT0 X.K tt) (te:=liftE0 X.K te) G o I F co J (λC b H₀ j pl=>⟨uX (u C b H₀ j pl).1,rK (u C b H₀ j pl).2.1,ve (u C b H₀ j pl).2.2⟩) m hs hf) ?_
 rintro D Z H ⟨U,M,DD,s,h,z⟩
 refine jz ⟨U,M,_,s,h,λd M' q v H' A f r=>?_⟩;exact z.nx _ M' q _ H' f ((s.go A f).set r)
def fg(i:Nat)(U:Dl)(M:Mem)(Q:Dl->Mem->Prop):Prop:=match U[i]? with
 |some (ap<|.ref a)=>match M a with
  |some (.lst xs)=>Q (U.set i<|some<|.lst xs) (M.del a)
  |_=>Q U M
 |_=>Q U M
def cG(t:aE)(i:Nat):aE:=λD U M=>t { D with nx:=λb M'=>fg i b M' D.nx } U M
theorem sI{α:Type}:∀{l:List α}{i:Nat}{x:α},l[i]?=ap x->l.set i x=l
 |[],_,_,h=>by simp at h
 |_::_,0,_,h=>by simp at h;subst h;rfl
 |_::_,i+1,_,h=>by rw[List.set_cons_succ,sI (by simpa using h)]
theorem IJ{t:aE}(i:Nat)(h:DS X B st t):DS X B st (cG t i):=by
 intro Xb s Z H D I ⟨U,M,DD,sr,hT,up⟩;refine bq (h Xb s Z H { D with nx:=λσ' H'=>∃δ' M',fg i δ' M' DD.nx/\Frm M H M' H'/\SR X B δ' M' σ' H' } I ⟨U,M,_,sr,hT,⟨λδ' M' q σ' H' f s'=>⟨δ',M',q,f,s'⟩,up.rt,up.bk,up.ct⟩⟩) λf s' q=>?_;cases f with
 |next=>
  obtain⟨σ',H',I',δ',M',q,f,s'⟩:=q;unfold fg at q
  split at q
  .rename_i a ea
   split at q
   .rename_i xs e
    obtain⟨vs,h1,h2⟩:=s'.rh _ _ e;obtain⟨o,I2⟩:=Inv.freeze I' h1;have im:Imm H' (upd H' a<|.frz o<|.lst vs):=Imm.upd (by rw[h1];trivial)
    obtain⟨v,hv,rv⟩:=s'.rs.get i _ ea;cases rv;refine⟨σ',_,I2,up.nx _ _ q σ' _ (f.trans<|Frm.del ⟨_,e⟩) ⟨B.go s'.i0 (Frm.del ⟨_,e⟩),s'.rh.freeze h1,?_⟩⟩;have:=(s'.rs.mono im).set (i:=i) (d:=.lst xs) (v:=.ref a) ⟨a,vs,rfl,⟨o,upd_same⟩,h2.mono im⟩
    rwa [sI hv]at this
   .exact⟨σ',H',I',up.nx _ _ q σ' H' f s'⟩
  .exact⟨σ',H',I',up.nx _ _ q σ' H' f s'⟩
 |brk=>exact q
 |cont=>exact q
 |ret u=>exact q
end
abbrev DX:=eg->Mem->Prop
abbrev Sd:=List D->Mem->DK->DX->Prop
def oH(P:fx)(w:g3):oA:=λb H s E e c=>∃C,uT P w C b H s E e c
def UpX(K:OA)(M:Mem)(H:Hp)(EE:DX)(E:XK):Prop:=∀C M',EE C M'->∀H',RepH K H' M'->Frm M H M' H'->E (.ref C) cm H'
def uR(K:OA)(B:Bd)(EE:DX)(E:XK):Prop:=∀C M',EE C M'->∀H',RepH K H' M'->B.p M' H'->E (.ref C) cm H'
theorem UpX.go{M1:Mem}{H1:Hp}(u:UpX K M H EE E)(i:Frm M H M1 H1):UpX K M1 H1 EE E:=λC M' q H' a b=>u C M' q H' a (i.trans b)
def bK(K:OA)(n:Nat)(T:Sd):Sp:=λb H Q E=>b.length=n/\∃ds M QQ EE,RepH K H M/\Rps K H ds b/\T ds M QQ EE/\Up K M H QQ Q/\UpX K M H EE E
def startN(N:Xk)(ds:List D):Dl:=ds.map ap++Pe (N.length-ds.length) cm
theorem RepS.startN{ds:List D}{vs:List V}(N:Xk)(r:Rps K H ds vs):RepS K H (_3.startN N ds) (_2.start N vs):=by
 have j:=r.length;refine⟨by simp[_3.startN,_2.start,j],λi d e=>?_⟩
 unfold _3.startN at e;unfold _2.start
 by_cases b:i<ds.length
 .rw[PJ (by simpa using b),OO,Oz b]at e
  have c:ds[i]=d:=by simpa using e
  obtain⟨v,h,m⟩:=r.get (i:=i) (d:=d) (by rw[Oz b,c])
  refine⟨v,?_,m⟩;rw[PJ (by simp;lia),OO,h]
  rfl
 .rw[Pj (by simpa using b),Uh]at e
  split at e<;>cases e
section
def drp(Q:DK)(d:D)(M':Mem):Prop:=∃M'',(∀b o,M'' b=ap o->M' b=ap o)/\Q d M''
def aA(EE:DX)(C:eg)(M':Mem):Prop:=∃M'',(∀b o,M'' b=ap o->M' b=ap o)/\EE C M''
theorem ak{d:D}(h:Q d M'):drp Q d M':=⟨M',λ_ _ e=>e,h⟩
theorem dY(h:EE C M'):aA EE C M':=⟨M',λ_ _ e=>e,h⟩
theorem Frm.less{M'':Mem}(f:Frm M H M' H')(s:∀b o,M'' b=ap o->M' b=ap o):Frm M H M'' H':=⟨λb u e n=>by
 obtain⟨h,c⟩:=f.keep b u e n;refine⟨h,?_⟩;cases q:M'' b with
 |none=>rfl
 |some o=>rw[s b o q]at c;cases c⟩
theorem Up.drp{QV:VK}(u:Up K M H Q QV):Up K M H (_3.drp Q) QV:=λd M' ⟨M'',s,q⟩ v H' c f r=>u d M'' q v H' (λb o e=>c b o (s b o e)) (f.less s) r
theorem UpX.drp(u:UpX K M H EE E):UpX K M H (aA EE) E:=λC M' ⟨M'',s,q⟩ H' c f=>u C M'' q H' (λb o e=>c b o (s b o e)) (f.less s)
def aI(N:Xk)(T:DX->aE):Sd:=λb M Q EE=>T (aA EE) { nx:=λ_ M'=>drp Q .non M',rt:=drp Q } (startN N b) M
theorem fnD{k:Nat}{T:DX->aE}(F:Fun K x Xc st f fd)(S:FnScope N ps (aQ st))(J:∀(c:ay)(A:i5)(b:List Env)(s:el)(H:Hp)(E:XK)(B:Bd)(EE:DX),Room k (A.deeper<|Rf Xc (aQ st) s.heap.objs.size f c)->uR K B EE E->
   yt (dM (oH P w) P w K mg base N Xc (aQ st) f c A b s H E) B (bv st) (T EE)):
  FnOk P w K mg base (oH P w) (k+1) f fd ps (bK K ps.length<|aI N T):=by
 obtain⟨R,L,kV,z,pm,W,c,Y,m,rfl,lk,j⟩:=F.ex;refine GD lk j S (λG H Q E h=>h.1) λA b s H G Q E v i=>?_;obtain⟨O,I,M,QQ,EE,rh,r,o,u,ux⟩:=i;refine⟨_,J c A b s H E (Bd.of M H) (aA EE) v ux.drp,startN N I,M,{ nx:=λ_ M'=>drp QQ .non M',rt:=drp QQ },⟨Frm.refl,rh,.startN N r⟩,o,⟨?_,u.drp,?_,?_⟩⟩
 .exact λU M' q Z H' f y=>u.drp _ M' q _ H' y.rh f rfl
 .exact λU M' q=>(show False from q).elim
 .exact λU M' q=>(show False from q).elim
theorem e_{k:Nat}{CX:oA}:FnOk P w K mg base CX k f fd ps (bK K n λ_ _ _ _=>False):=
 ⟨λi H Q E h=>(by obtain⟨_,_,_,_,_,_,_,h,_⟩:=h;exact h.elim),λA b s H c j i Q E _ _ _ _ h=>(by obtain⟨_,_,_,_,_,_,_,h,_⟩:=h;exact h.elim)⟩
theorem GS{i:ay}{A:i5}{b:List Env}{h:el}{H0:Hp}:bT (oH P w) (dM (oH P w) P w K mg base N Xc scope f i A b h H0 E) E:=by
 intro c Z H s e m I ⟨C,j⟩;have I':Inv (dM (uT P w C) P w K mg base N Xc scope f i A b h H0 E) c Z H s:=I.wish _;have:=MG c Z H s e m I' j;exact mu this (λ_ _ z=>⟨C,z⟩) λ_ _ z=>⟨C,z⟩
theorem BG:bT (oH P w) X E0:=λb Z H s e i I ⟨C,h⟩=>by
 obtain⟨_,_,_,_,_,_,_,_,_,_,_,_,c⟩:=h;exact(show False from c).elim
end
def Sub(M1 M:Mem):Prop:=∀b o,M1 b=ap o->M b=ap o
def Dis(M1 M M':Mem):Prop:=∀b o,M b=ap o->M1 b=cm->M' b=cm
def plus(M' M1 M:Mem):Mem:=λb=>match M' b with
 |some o=>ap o
 |none=>match M1 b with
  |some _=>cm
  |none=>M b
theorem pC:plus M' M M=M':=by
 funext b;simp only[plus];cases h:M' b with
 |some o=>rfl
 |none=>cases c:M b<;>rfl
structure BxQ(EE:DX)(Q:DK):Type
structure calls(T:Sd)(EE:DX)(ds:List D)(M:Mem)(Q:DK)(_:BxQ EE Q):Prop where
 go:∃M1,Sub M1 M/\T ds M1 (λd M'=>Dis M1 M M'->Q d (plus M' M1 M)) (λC M'=>Dis M1 M M'->EE C (plus M' M1 M))
section
variable{M1:Mem}
theorem RepH.sub(r:RepH K H M)(s:Sub M1 M):RepH K H M1:=λb o e=>r b o (s b o e)
theorem RepH.dis(r:RepH K H M)(f:Frm M1 H M' H'):Dis M1 M M':=λb o e n=>by
 obtain⟨u,q⟩:=(r b o e).obj;exact(f.keep b u q n).2
theorem RepH.plus(r:RepH K H M)(s:Sub M1 M)(h:RepH K H' M')(f:Frm M1 H M' H'):RepH K H' (plus M' M1 M):=λb o e=>by
 simp only[_3.plus]at e
 split at e
 .rename_i i q;cases e;exact h b _ q
 .split at e
  .cases e
  .rename_i q n
   obtain⟨u,c⟩:=(r b o e).obj;exact(r b o e).keep (f.imm<|r.sub s) ((f.keep b u c n).1.trans c.symm)
theorem Frm.plus(s:Sub M1 M)(f:Frm M1 H M' H'):Frm M H (plus M' M1 M) H':=⟨λb u e n=>by
 have c:M1 b=none:=by
  cases q:M1 b with
  |none=>rfl
  |some o=>rw[s b o q]at n;cases n
 obtain⟨i,h⟩:=f.keep b u e c;exact⟨i,by simp only[_3.plus,h,c,n]⟩⟩
theorem dz{ds:List D}{vs:List V}{QV:VK}{b:BxQ EE Q}(h:calls T EE ds M Q b)(rh:RepH K H M)(r:Rps K H ds vs)(j:vs.length=n)(u:Up K M H Q QV)(ux:UpX K M H EE E):bK K n T vs H QV E:=by
 obtain⟨M1,s,h⟩:=h.go;refine⟨j,ds,M1,_,_,rh.sub s,r,h,λd M' q v H' c f i=>?_,λC M' q H' c f=>?_⟩
 .exact u d _ (q<|rh.dis f) v H' (rh.plus s c f) (f.plus s) i
 .exact ux C _ (q<|rh.dis f) H' (rh.plus s c f) (f.plus s)
theorem aq{ds:List D}{b:BxQ EE Q}(c:∀Q' E',(∀d M,Q d M->Q' d M)->(∀C M,EE C M->E' C M)->T ds M Q' E'):calls T EE ds M Q b:=
 ⟨M,λ_ _ e=>e,c _ _ (λd M' q _=>by rw[pC];exact q) λC M' q _=>by rw[pC];exact q⟩
variable{CX:oA}{k:Nat}{m:Str}{o:fy}{ta:bp}{t:fj}
def aj(T:Sd)(EE:DX)(n:Nat)(t:fj):bp:=λU M Q=>t U M λb M1=>b.length=n/\calls T EE b M1 Q ⟨⟩
theorem SR.ux{U:Dl}{Z:_2.St}(s:SR X B U M Z H)(ux:uR X.K B EE E):UpX X.K M H EE E:=λC M' q H' a b=>ux C M' q H' a (B.go s.i0 b)
theorem qR(F:FnOk X.prog X.w X.K X.mg X.base CX k f fd ps (bK X.K n T))(J:Room k X.A)(z:Gl X x)(I:X.mg x=ap (.ref f))(y:P8 X.K (.ref f)=true)(v:Binds X.K fd ps [])(G:bT CX X E)(ux:uR X.K B EE E)(L:DA X B (e::es) t)(c:(x==("__debug__":Str))=false:=by decide)(he:fe (e::es) X.env=(eC,gp e X.env)::fe es X.env:=by rfl)(hpl:(hI pos<|starEach es X.env).any (·.1)=false:=by rfl):
  DE X B (.Call (.Name x p) (e::es) [] pos) (aj T EE n t):=by
 refine aY (Fe F J z I y v .nil G L c he hpl) ?_
 rintro Z H Q ⟨U,M,QQ,s,h,u⟩
 refine⟨U,M,_,s,h,λR M1 q O H1 b i j=>?_⟩
 try dsimp only
 rw[Pw];exact dz q.2 b j (by rw[<- j.length];exact q.1) (u.go i) ((s.ux ux).go i)
def cV(C:eg)(m:Str)(T:Sd)(EE:DX)(n:Nat)(ta:bp)(t:fj):bp:=λU M Q=>ta U M λx M1=>match x with
 |.ref a=>match M1 a with
  |some (.ins C' fs)=>C'=C/\fs.lookup m=cm/\t U M1 λb M2=>b.length+1=n/\calls T EE (.ref a::b) M2 Q ⟨⟩
  |_=>False
 |_=>False
theorem E1{pl:Sem Bool}(he:DE X B o ta)(c:Cls X.K C)(hm:Meth X.K C m f)(F:FnOk X.prog X.w X.K X.mg X.base CX k f fd ps (bK X.K n T))(hr:Room k X.A)(hb:Binds X.K fd ps [])(hx:bT CX X E)(ux:uR X.K B EE E)(ha:DA X B (e::es) t)(y:fe (e::es) X.env=(eC,gp e X.env)::fe es X.env:=by rfl)(hpl:(hI pos<|starEach es X.env).any (·.1)=false:=by rfl)(ht:gp (.Call (.Attribute o m Xg) (e::es) [] pos) X.env=(do
   let ov <- gp o X.env
   VX Xg.atName
   let (f,first) <- vb [ov] (UF ov m pl)
   Wq pos f first (hI pos<|starEach (e::es) X.env) (z5 pos<|keywordEach [] X.env)):=by rfl):
  DE X B (.Call (.Attribute o m Xg) (e::es) [] pos) (cV C m T EE n ta t):=by
 refine aY (E9 he c hm F hr hb .nil hx ha y hpl ht) ?_
 rintro Z H Q ⟨U,M,QQ,s,h,u⟩
 refine⟨U,M,_,s,h,λx M1 b v H1 i i1 W=>?_⟩
 split at b
 .rename_i a
  cases W
  split at b
  .rename_i C' fs R
   obtain⟨rfl,O,b⟩:=b;obtain⟨dx,G,S,Y⟩:=i _ _ R;have q:G.lookup m=none:=by
    rcases Y.lookup m with⟨_,z⟩|⟨d,v,z,_⟩
    .exact z
    .rw[O]at z;cases z
   refine⟨a,dx,G,rfl,S,q,U,M1,_,s.go i i1,b,λds M2 L vs H2 j J I=>?_⟩
   try dsimp only
   rw[Pw];exact dz (ds:=.ref a::ds) L.2 j (.cons rfl I) (by rw[OE,<- I.length];exact L.1) (u.go<|i1.trans J) ((s.ux ux).go<|i1.trans J)
  .exact b.elim
 .exact b.elim
theorem D5{pl:Sem Bool}(W:DE X B o ta)(c:Cls X.K C)(hm:Meth X.K C m f)(F:FnOk X.prog X.w X.K X.mg X.base CX k f fd ps (bK X.K n T))(hr:Room k X.A)(S:Binds X.K fd ps [])(Y:bT CX X E)(ux:uR X.K B EE E)(ht:gp (.Call (.Attribute o m Xg) [] [] pos) X.env=(do
   let ov <- gp o X.env
   VX Xg.atName
   let (f,first) <- vb [ov] (UF ov m pl)
   Wq pos f first (hI pos<|starEach [] X.env) (z5 pos<|keywordEach [] X.env)):=by rfl):
  DE X B (.Call (.Attribute o m Xg) [] [] pos) (cV C m T EE n ta af):=by
 refine aY (CJ W c hm F hr S .nil Y ht) ?_
 rintro Z H Q ⟨U,M,QQ,s,h,u⟩
 refine⟨U,M,_,s,h,λx M1 b v H1 i y L=>?_⟩
 split at b
 .rename_i a
  cases L
  split at b
  .rename_i C' fs R
   obtain⟨rfl,I,b⟩:=b;obtain⟨O,q,G,J⟩:=i _ _ R;have j:q.lookup m=none:=by
    rcases J.lookup m with⟨_,z⟩|⟨d,v,z,_⟩
    .exact z
    .rw[I]at z;cases z
   refine⟨a,O,q,rfl,G,j,?_⟩;exact dz (ds:=[.ref a]) b.2 i (.cons rfl .nil) b.1 (u.go y) ((s.ux ux).go y)
  .exact b.elim
 .exact b.elim
def fY(C:eg)(T:Sd)(EE:DX)(n:Nat)(t:fj):bp:=λU M Q=>t U M λb M1=>b.length+1=n/\∀a,M1 a=cm->calls T EE (.ref a::b) (M1.upd a<|.ins C []) (λd M2=>match d with
 |.non=>Q (.ref a) M2
 |_=>False) ⟨⟩
theorem G8(Mk':Mk X.K C f)(F:FnOk X.prog X.w X.K X.mg X.base CX k f fd ps (bK X.K n T))(hr:Room (k+1) X.A)(hg:Gl X x)(hm:X.mg x=ap (.ref C))(hb:Binds X.K fd ps [])(hx:bT CX X E)(ux:uR X.K B EE E)(ha:DA X B (e::es) t)(hdb:(x==("__debug__":Str))=false:=by decide)(he:fe (e::es) X.env=(eC,gp e X.env)::fe es X.env:=by rfl)(hpl:(hI pos<|starEach es X.env).any (·.1)=false:=by rfl):
  DE X B (.Call (.Name x p) (e::es) [] pos) (fY C T EE n t):=by
 refine aY (Fm Mk' F hr hg hm hb .nil hx ha hdb he hpl) ?_
 rintro Z H Q ⟨U,M,QQ,s,h,u⟩
 refine⟨U,M,_,s,h,λds M1 h1 vs H1 rh1 i1 r1 a dx na ndx nex=>?_⟩;rw[Pw];have nx1:upd H1 dx (.own a) a=none:=by rw[aL (Pa nex)];exact na
 have im1:Imm H1 (upd H1 dx<|.own a):=Imm.new ndx;have im2:Imm (upd H1 dx<|.own a) (upd (upd H1 dx<|.own a) a<|.ins C dx []):=Imm.new nx1;have rh2:RepH X.K (upd (upd H1 dx<|.own a) a<|.ins C dx []) (M1.upd a<|.ins C []):=(rh1.new ndx).put (by rw[nx1];trivial) ⟨dx,[],upd_same,.nil⟩
 have f2:Frm M1 H1 (M1.upd a<|.ins C []) (upd (upd H1 dx<|.own a) a<|.ins C dx []):=(Frm.new ndx).trans (Frm.put<|.inl nx1);refine dz (h1.2 a<|rh1.fresh na) rh2 (.cons rfl<|(r1.mono im1).mono im2) (by rw[OE,<- r1.length];exact h1.1) (λd M2 h2 v H2 rh f r=>?_) ((s.ux ux).go<|i1.trans f2)
 cases d with
 |non=>exact⟨r,u _ M2 h2 _ H2 rh ((i1.trans f2).trans f) rfl⟩
 |_=>exact(show False from h2).elim
end
section
variable{M1:Mem}{o:fy}{to:bp}{t:fj}{name:Str}{Xf:Pos}{Ty id:String}
abbrev z6:=D->List D->Mem->DK->Prop
inductive liftM(X:Cx)(r:z6)(x:V)(xs:List V)(H:Hp)(Q:VK):Prop
 |mk (d:D) (ds:List D) (M:Mem) (QQ:DK) (rh:RepH X.K H M) (rx:Rp X.K H d x) (rs:Rps X.K H ds xs) (h:r d ds M QQ) (u:Up X.K M H QQ Q):liftM X r x xs H Q
def mM(Ty:String)(r:z6)(to:bp)(t:fj):bp:=λU M Q=>to U M λx M1=>eI M1 x=ap Ty/\t U M1 λb M2=>r x b M2 Q
theorem Ci{d:D}{v:V}(m:RepH K H M)(r:Rp K H d v)(e:eI M d=ap Ty)(h:Ty="list"\/Ty="str"\/Ty="int"\/Ty="dict"):tyV K Ty v H:=by
 cases d with
 |non=>cases e;rcases h with h|h|h|h<;>exact absurd h (by decide)
 |bl b=>cases e;rcases h with h|h|h|h<;>exact absurd h (by decide)
 |int i=>cases r;cases e;rfl
 |str x=>cases r;cases e;rfl
 |tup xs=>cases e;rcases h with h|h|h|h<;>exact absurd h (by decide)
 |lst xs=>
  cases e;obtain⟨p,y,rfl,u,r⟩:=r;exact .inl ⟨rfl,y,u.sq⟩
 |ref a=>
  cases r;simp only[eI]at e
  split at e
  .rename_i q;cases e;obtain⟨c,j,s⟩:=m _ _ q;exact .inl ⟨rfl,c,SqL.of j⟩
  .rename_i q;cases e;obtain⟨c,j,s⟩:=m _ _ q;exact .inr (.inr<|.inl ⟨rfl,.inl ⟨c,j⟩⟩)
  .rename_i q;cases e;obtain⟨c,j,s⟩:=m _ _ q;exact .inr (.inr<|.inl ⟨rfl,.inr ⟨c,j⟩⟩)
  .cases e
 |_=>cases e
theorem Nj{r:z6}(L:Ty="list"\/Ty="str"\/Ty="int"\/Ty="dict")(O:V7 Ty)(i:WK Ty name id)(m:Wm (.builtin id)=pure (.type "method_descriptor"))(J:xO X id (liftM X r))(I:DE X B o to)(R:DA X B (e::es) t)(c:nr o name X.env (gp o X.env)=gp o X.env:=by rfl)(hfew:((hI Xf<|starEach (e::es) X.env).all (λx=>!x.1)&&(z5 Xf<|keywordEach [] X.env).all (λx=>x.1.isSome)
   && decide ((e::es).length+([]:List z0).length+(if ([]:List z0).isEmpty then 0 else 1)<30))=true:=by rfl)(hline:(Xg.endLine==Xf.line)=true:=by rfl)(hs:fe (e::es) X.env=(eC,gp e X.env)::fe es X.env:=by rfl)(hplain:(hI Xf<|starEach es X.env).any (·.1)=false:=by rfl):
  DE X B (.Call (.Attribute o name Xg) (e::es) [] Xf) (mM Ty r to t):=by
 refine aY (Mo O i m J I R c hfew hline hs hplain) ?_
 rintro Z H Q ⟨U,M,QQ,s,h,u⟩
 refine⟨U,M,_,s,h,λx M1 y v H1 b i1 z=>⟨Ci b z y.1 L,U,M1,_,s.go b i1,y.2,λF M2 G S H2 j q A=>?_⟩⟩;exact⟨x,F,M2,QQ,j,z.mf b q,A,G,u.go<|i1.trans q⟩
theorem JC{r:z6}(A:Ty="list"\/Ty="str"\/Ty="int"\/Ty="dict")(F:V7 Ty)(i:WK Ty name id)(j:Wm (.builtin id)=pure (.type "method_descriptor"))(G:xO X id (liftM X r))(z:DE X B o to)(b:nr o name X.env (gp o X.env)=gp o X.env:=by rfl)(hline:(Xg.endLine==Xf.line)=true:=by rfl):DE X B (.Call (.Attribute o name Xg) [] [] Xf) (mM Ty r to af):=by
 refine aY (IV F i j G z b hline) ?_
 rintro Z H Q ⟨U,M,QQ,s,h,u⟩
 refine⟨U,M,_,s,h,λx M1 q v H1 c y m=>⟨Ci c m q.1 A,?_⟩⟩;exact⟨x,[],M1,QQ,c,m,.nil,q.2,u.go y⟩
def bW:z6:=λx b M Q=>match x,b with
 |.ref a,[y]=>match M a with
  |some (.lst xs)=>xs.length<sizeLine/\Q .non (M.upd a<|.lst (xs++[y]))
  |_=>False
 |_,_=>False
theorem vd:xO X "list.append" (liftM X bW):=by
 intro Xb s Z H x vs v us Q I rx rv h;obtain⟨d,ds,M,QQ,rh,r,rs,h,up⟩:=h;unfold bW at h
 split at h
 .rename_i a y
  cases r;obtain⟨w,rfl,rw'⟩:=gR (ds:=[]) rs
  split at h
  .rename_i xs hM
   obtain⟨ws,h1,h2⟩:=rh _ _ hM;have im:Imm H (upd H a<|.lst (ws++[w])):=Imm.upd (by rw[h1];trivial)
   exact zV Xb s Z H _ _ v us Q I rx rv ⟨a,ws,w,rfl,rfl,h1,by rw[<- h2.length];exact h.1,up _ _ h.2 _ _ (rh.put (by rw[h1];trivial) ⟨_,upd_same,(h2.append<|.cons rw' .nil).mono im⟩) (Frm.put<|.inr ⟨_,hM⟩) rfl⟩
  .exact h.elim
 .exact h.elim
def zo:z6:=λx b M Q=>match x,b with
 |.ref a,[]=>match M a with
  |some (.lst xs)=>match xs[xs.length-1]? with
   |some y=>Q y (M.upd a<|.lst xs.dropLast)
   |none=>False
  |_=>False
 |.ref a,[.int i]=>match M a with
  |some (.lst xs)=>match rX xs.length i with
   |some k=>match xs[k]? with
    |some y=>Q y (M.upd a<|.lst<|xs.eraseIdx k)
    |none=>False
   |none=>False
  |_=>False
 |_,_=>False
theorem yX:xO X "list.pop" (liftM X zo):=by
 intro Xb s Z H x vs v us Q I rx rv h;obtain⟨d,ds,M,QQ,rh,r,rs,h,up⟩:=h;unfold zo at h
 split at h
 .rename_i a
  cases r;cases rs
  split at h
  .rename_i xs hM
   split at h
   .rename_i y ey
    obtain⟨ws,h1,h2⟩:=rh _ _ hM;obtain⟨w,hw,rw'⟩:=h2.get ey;have im:Imm H (upd H a<|.lst ws.dropLast):=Imm.upd (by rw[h1];trivial)
    exact IP Xb s Z H _ _ v us Q I rx rv ⟨a,ws,w,rfl,rfl,h1,by rw[<- h2.length];exact hw,up _ _ h _ _ (rh.put (by rw[h1];trivial) ⟨_,upd_same,h2.dropLast.mono im⟩) (Frm.put<|.inr ⟨_,hM⟩)<|rw'.mono im⟩
   .exact h.elim
  .exact h.elim
 .rename_i a i
  cases r;obtain⟨w0,rfl,rw0⟩:=gR (ds:=[]) rs;cases rw0
  split at h
  .rename_i xs hM
   split at h
   .rename_i k ek
    split at h
    .rename_i y ey
     obtain⟨ws,h1,h2⟩:=rh _ _ hM;obtain⟨w,hw,rw'⟩:=h2.get ey;obtain⟨j1,j2,j3,j4⟩:=pI ek;have hz:ws.length<=sizeLine:=(I.lstM h1).1;have hs:sizeLine=16777216:=rfl;have hl:=h2.length;have im:Imm H (upd H a<|.lst<|ws.eraseIdx k):=Imm.upd (by rw[h1];trivial)
     exact Bt Xb s Z H _ _ v us Q I rx rv ⟨a,ws,i,k,w,rfl,rfl,h1,by lia,by lia,by rw[<- hl];exact j1,hw,up _ _ h _ _ (rh.put (by rw[h1];trivial) ⟨_,upd_same,(h2.eraseIdx k).mono im⟩) (Frm.put<|.inr ⟨_,hM⟩)<|rw'.mono im⟩
    .exact h.elim
   .exact h.elim
  .exact h.elim
 .exact h.elim
def jw:List D->Option (List Str)
 |[]=>ap []
 |.str x::ds=>match jw ds with
  |some xs=>ap (x::xs)
  |none=>cm
 |_=>cm
theorem sW:∀{ds:List D}{vs:List V}{xs:Xk},Rps K H ds vs->jw ds=ap xs->vs=xs.map V.str
 |[],vs,xs,r,e=>by cases e;exact r
 |d::ds,vs,xs,r,e=>by
  obtain⟨v,j,rfl,a,b⟩:=r;cases d with
  |str c=>
   simp only[jw]at e
   split at e
   .rename_i h i
    cases e;cases a;rw[sW b i];rfl
   .cases e
  |_=>cases e
def nU:z6:=λx b M Q=>match x,b with
 |.tup xs,[.str z]=>match jw xs with
  |some names=>names.length<=1000/\match names.findIdx? (λy=>decide (y=z)) with
   |some j=>Q (.int (j:Nat)) M
   |none=>False
  |none=>False
 |_,_=>False
theorem vo:xO X "tuple.index" (liftM X nU):=by
 intro c s Z H x vs v G Q I J S h;obtain⟨d,ds,M,QQ,W,r,L,h,Y⟩:=h;unfold nU at h
 split at h
 .rename_i xs z
  obtain⟨p,ws,rfl,F,r⟩:=r;obtain⟨w,rfl,i⟩:=gR (ds:=[]) L;cases i
  split at h
  .rename_i b A
   obtain⟨u,h⟩:=h
   split at h
   .rename_i j q
    have:=sW r A;subst this;rw[List.findIdx?_eq_some_iff_getElem]at q;obtain⟨y,O,R⟩:=q;refine A9 c s Z H _ _ v G Q I J S ⟨p,b,z,j,rfl,rfl,F,u,?_,λm hm=>?_,Y _ M h _ H W Frm.refl rfl⟩
    .rw[Oz y];simpa using O
    .have:=R m hm
     rw[Oz (by lia)]
     simpa using this
   .exact h.elim
  .exact h.elim
 .exact h.elim
def Mq(r:z6)(to:bp)(t:fj):bp:=λU M Q=>to U M λx M1=>match x with
 |.tup xs=>t U M1 λb M2=>r (.tup xs) b M2 Q
 |_=>False
theorem Nl{r:z6}(i:WK "tuple" name id)(q:Wm (.builtin id)=pure (.type "method_descriptor"))(R:xO X id (liftM X r))(O:DE X B o to)(S:DA X B (e::es) t)(b:nr o name X.env (gp o X.env)=gp o X.env:=by rfl)(hfew:((hI Xf<|starEach (e::es) X.env).all (λx=>!x.1)&&(z5 Xf<|keywordEach [] X.env).all (λx=>x.1.isSome)
   && decide ((e::es).length+([]:List z0).length+(if ([]:List z0).isEmpty then 0 else 1)<30))=true:=by rfl)(hline:(Xg.endLine==Xf.line)=true:=by rfl)(hs:fe (e::es) X.env=(eC,gp e X.env)::fe es X.env:=by rfl)(hplain:(hI Xf<|starEach es X.env).any (·.1)=false:=by rfl):
  DE X B (.Call (.Attribute o name Xg) (e::es) [] Xf) (Mq r to t):=by
 refine aY (NX i q R O S b hfew hline hs hplain) ?_
 rintro Z H Q ⟨U,M,QQ,s,h,u⟩
 refine⟨U,M,_,s,h,λx M1 z v H1 c i1 A=>?_⟩;cases x with
 |tup xs=>
  have j:=A;obtain⟨p,F,rfl,L,W⟩:=j;refine⟨⟨p,F,rfl,L⟩,U,M1,_,s.go c i1,z,λI M2 J F H2 m y G=>?_⟩;exact⟨_,I,M2,QQ,m,A.mf c y,G,J,u.go<|i1.trans y⟩
 |_=>exact(show False from z).elim
def Be(ks:List aG)(ys:List D):List (aG×D):=(ks.zip ys).foldl (λa p=>eK a p.1 p.2) []
theorem uN:∀{ks:List aG}{ds:List D}{vs:List V}{a:List (aG×D)}{b:List (aG×V)},Rps K H ds vs->Rkv K H a b->
  Rkv K H ((ks.zip ds).foldl (λa p=>eK a p.1 p.2) a) ((ks.zip vs).foldl (λa p=>cN a p.1 p.2) b)
 |[],_,_,_,_,_,r=>r
 |_::_,[],_,_,_,h,r=>by cases h;exact r
 |k::ks,d::ds,_,_,_,h,r=>by
  obtain⟨v,vs,rfl,a,b⟩:=h;exact uN (ks:=ks) b (r.put k a)
def fK(t:fj):bp:=λU M Q=>t U M λb M1=>match b with
 |[.tup xs,.tup ys]=>match i8 xs with
  |some ks=>ks.length=ys.length/\0<ks.length/\ks.length<=1000/\∀p,M1 p=cm->Q (.ref p) (M1.upd p<|.dK<|Be ks ys)
  |none=>False
 |_=>False
theorem vG{b:fy}{p2 pos2:Pos}(hc:X.calm=true)(hg:Gl X "zip")(hm:X.mg "zip"=cm)(hg2:Gl X "dict")(hm2:X.mg "dict"=cm)(ha:DA X B [a,b] ta)(hs:fe [a,b] X.env=[(eC,gp a X.env),(eC,gp b X.env)]:=by rfl)(hs2:fe [b] X.env=[(eC,gp b X.env)]:=by rfl)(hs3:fe [Ug (.Name "zip" p2) [a,b] [] pos2] X.env=[(eC,gp (.Call (.Name "zip" p2) [a,b] [] pos2) X.env)]:=by rfl):
  DE X B (.Call (.Name "dict" p) [.Call (.Name "zip" p2) [a,b] [] pos2] [] pos) (fK ta):=by
 refine aY (u_ eC eC hc hg hm hg2 hm2 ha hs hs2 hs3) ?_
 rintro Z H Q ⟨U,M,QQ,s,h,u⟩
 refine⟨U,M,_,s,h,λds M1 h1 vs H1 rh1 i1 r1=>?_⟩
 split at h1
 .obtain⟨v,w,rfl,rv,rw'⟩:=Dz r1
  obtain⟨l1,us,rfl,t1,ru⟩:=rv;obtain⟨l2,ws,rfl,t2,rw2⟩:=rw'
  split at h1
  .rename_i ks ek
   obtain⟨e1,e2,e3,h1⟩:=h1;have hk:=nq ru ek;subst hk;refine⟨l1,l2,ks,ws,rfl,t1.sq,t2.sq,by rw[<- rw2.length];exact e1,e2,e3,λd hd=>?_⟩
   have im:Imm H1 (upd H1 d<|.dK<|(ks.zip ws).foldl (λa p=>cN a p.1 p.2) []):=Imm.new hd;exact u _ _ (h1 d<|rh1.fresh hd) _ _ (rh1.put (by rw[hd];trivial) ⟨_,upd_same,(uN rw2 .nil).mono im⟩) (i1.trans<|Frm.put<|.inl hd) rfl
  .exact h1.elim
 .exact h1.elim
end
section
variable{cd:ay}{A:i5}{outer:List Env}{s0:el}{H0:Hp}
theorem Ee{t:TS}{E':Xp}(h:PS X st t)(k:∀e s,X.xe e s->E' e s):PS (X.wish E') st t:=λc s Z H D I q=>
 mu (h c s Z H D (I.unwish) q) (λf i z=>by
  cases f with
  |next=>obtain⟨b,H',I,q⟩:=z;exact⟨b,H',I.wish _,q⟩
  |brk=>obtain⟨b,H',I,q⟩:=z;exact⟨b,H',I.wish _,q⟩
  |cont=>obtain⟨b,H',I,q⟩:=z;exact⟨b,H',I.wish _,q⟩
  |ret u=>obtain⟨v,b,H',I,r,q⟩:=z;exact⟨v,b,H',I.wish _,r,q⟩) k
def ju(C:eg)(EE:DX):aE:=λ_ _ M=>EE C M
theorem CT{b:Str}{c Xf:Pos}{jj}(X:ExcAt K C)(q:mg x=ap (.ref C))(ux:uR K B EE E)(o:Gl (dM (oH P w) P w K mg base N Xc scope f cd A outer s0 H0 E) x)(m:(x==("__debug__":Str))=false:=by decide)(hs:fe [.Constant (.str b) jj Xg] (dM (oH P w) P w K mg base N Xc scope f cd A outer s0 H0 E).env=[(eC,gp (.Constant (.str b) jj Xg) (dM (oH P w) P w K mg base N Xc scope f cd A outer s0 H0 E).env)]:=by rfl):
  DS (dM (oH P w) P w K mg base N Xc scope f cd A outer s0 H0 E) B (.Raise (ap<|.Call (.Name x c) [.Constant (.str b) jj Xg] [] Xf) cm pos) (ju C EE):=by
 have i:PS (dM (uT P w C) P w K mg base N Xc scope f cd A outer s0 H0 E) (.Raise (ap<|.Call (.Name x c) [.Constant (.str b) jj Xg] [] Xf) cm pos) (vc E C):=BI X q o m hs;have j:PS (dM (oH P w) P w K mg base N Xc scope f cd A outer s0 H0 E) (.Raise (ap<|.Call (.Name x c) [.Constant (.str b) jj Xg] [] Xf) cm pos) (vc E C):=
  Ee i λe s h=>mu h (λ_ _ z=>⟨C,z⟩) λ_ _ z=>⟨C,z⟩
 refine bJ j ?_
 rintro D Z H ⟨U,M,DD,s,h,u⟩
 exact ux C M h H s.rh s.i0
end
section
def KY(C:eg)(T:Sd)(n:Nat)(ta:fj)(ts:aE):aE:=λD U M=>ta U M λb M1=>b.length=n/\calls T (λC' M2=>C'=C/\ts D U M2) b M1 (λ_ M2=>D.nx U M2) ⟨⟩
theorem SR.mark{e:ay}(s:SR X B U M Z H):SR (X.marked e) B U M Z H:=⟨s.i0,s.rh,s.rs⟩
theorem SR.unmark{e:ay}(s:SR (X.marked e) B U M Z H):SR X B U M Z H:=⟨s.i0,s.rh,s.rs⟩
theorem UpD.mark{DD:DEnds}{D:Ends}{e:ay}(u:UpD X B M H DD D):UpD (X.marked e) B M H DD D:=
 ⟨λU M q Z H' f s=>u.nx U M q Z H' f s.unmark,u.rt,λU M q Z H' f s=>u.bk U M q Z H' f s.unmark,λU M q Z H' f s=>u.ct U M q Z H' f s.unmark⟩
theorem F7{k:Nat}{sp:Sp}(F:FnOk P w K mg base (oH P w) k f fd ps sp):
  FnOk P w K mg base (uT P w C) k f fd ps (λvs H Q E=>sp vs H Q λCv a H'=>Cv=.ref C/\E Cv a H'):=
 ⟨λvs H Q E h=>F.len _ _ _ _ h,λA b s H c j vs Q E y m o O G=>SZ (F.run A b s H c j vs Q _ y m o O G) λr s' h=>by
  cases r with
  |ok fl=>cases fl<;>exact h
  |error e=>
   obtain⟨C',Y,H',B,z,v,J,R,q,L,W,I,e8,u,i⟩:=h;have S:C'=C:=by injection u
   subst S;exact⟨Y,H',B,z,v,J,R,q,L,W,I,e8,i⟩⟩
theorem wa{k:Nat}{z:Str}{I ep np q:Pos}{c:tm}{b:Xo}{O:aE}(W:X.stack=X.env::X.outer)(L:X.env.frame=ap X.env.locals)(F:FnOk X.prog X.w X.K X.mg X.base (oH X.prog X.w) k f fd ps (bK X.K n T))(hr:Room k X.A)(hg:Gl X x)(hm:X.mg x=ap (.ref f))(hk:P8 X.K (.ref f)=true)(hb:Binds X.K fd ps [])(ha:DA X.nox B (e::es) ta)(EX:ExcAt X.K C)(Y:Gl X z)(R:X.mg z=ap (.ref C))(S:∀y:eg,yt (X.marked<|.ref y) B (c::b) O)(J:(x==("__debug__":Str))=false:=by decide)(hdC:(z==("__debug__":Str))=false:=by decide)(he:fe (e::es) X.env=(eC,gp e X.env)::fe es X.env:=by rfl)(hpl:(hI I<|starEach es X.env).any (·.1)=false:=by rfl)(hsw:wh (.Call (.Name x p) (e::es) [] I) cm ep.line X.env=pure false:=by rfl):
  DS X B (.Try [.Expr (.Call (.Name x p) (e::es) [] I) ep] [.ExceptHandler (ap<|.Name z np) cm (c::b) q] [] [] pos) (KY C T n ta O):=by
 have o:∀y:eg,yv (X.marked<|.ref y) (c::b) (liftS X B O):=λy=>mL (S y) λD Z H ⟨U,M,DD,s,h,u⟩=>⟨U,M,DD,s.mark,h,u.mark⟩;refine bJ (vZ (C:=C) W L (F7 F) hr hg hm hk hb .nil ha EX Y R o J hdC he hpl hsw) ?_
 rintro D Z H ⟨U,M,DD,s,h,up⟩
 refine⟨U,M,_,⟨s.i0,s.rh,s.rs⟩,h,λds M1 h1 vs H1 G i1 r1=>?_⟩
 try dsimp only
 rw[Pw];refine dz h1.2 G r1 (by rw[<- r1.length];exact h1.1) (λd M2 m v H2 i j r2=>?_) λC' M2 m H2 i j=>?_
 .exact up.nx _ _ m Z H2 (i1.trans j) (s.go i<|i1.trans j)
 .obtain⟨rfl,m⟩:=m
  exact⟨rfl,U,M2,DD,s.go i (i1.trans j),m,up.go<|i1.trans j⟩
end
end _3
namespace _2
open PySem PySem.Spec PyProof.Rows
theorem cD{scope:Pi}{env:Env}{x:Str}{k:Wf}(h:(SL scope env).names.lookup x=ap k):∃e,(x,e)∈scope.names/\(k=e\/(e=.free/\k=.cell)):=by
 have j:=Pz h;obtain⟨⟨n,c⟩,f,g⟩:=Pf.mp j
 by_cases b:(c==NameKind.free&&env.scope.kind==.function&&env.kindOf n==ap .cell)=true
 .have a:(n,Rb)=(x,k):=by rw[<- g];show _=(if _ then _ else _);rw[if_pos b]
  cases a;have i:c=.free:=by
   simp only[PZ]at b;exact beq_iff_eq.mp b.1.1
  exact⟨c,f,.inr ⟨i,rfl⟩⟩
 .have a:(n,c)=(x,k):=by rw[<- g];show _=(if _ then _ else _);rw[if_neg b]
  cases a;exact⟨_,f,.inl rfl⟩
theorem gu{x:Str}:∀{fs:Xk}{a:Xm},fs.length=a.length->x∈fs->∃c,(fs.zip a).lookup x=ap c
 |[],_,_,h=>by cases h
 |_::_,[],h,_=>by simp at h
 |y::fs,c::a,hl,h=>by
  rw[U1,QP];cases e:x==y with
  |true=>exact⟨c,rfl⟩
  |false=>
   have ne:¬x=y:=λz=>by rw[z]at e;simp at e
   rcases OQ.mp h with z|z
   .exact absurd z ne
   .exact gu (by simpa using hl) z
theorem Ef{X:Cx}{a:Pi}{ls fs:Xk}{g:Xm}{m:List Nat}(s:a.kind=.function)(e:∀y∈a.names,y.2≠.cell/\(y.2=.free->y.1∈fs))(u:∀x∈a.names,x.2=.local->a.names.lookup x.1=ap .local)
  (f:fs.length=g.length) (j:Tk a X.env=pure (fs.zip g)) (o:∀p∈fs.zip g,X.env.cells.lookup p.1=ap p.2) (q:Frees X a fs m):CompOk X a (fs.zip g) ls fs m where
 kind:=s
 nocell:=λy i=>(e y i).1
 locs:=u
 clos:=j
 cells:=λy d h=>o (y,d) (Pz h)
 has:=λy h=>by
  have i:y∈fs:=by
   rcases h with h|h
   .obtain⟨n,c,b|⟨b,_⟩⟩:=cD h
    .exact absurd b.symm (e _ c).1
    .exact(e _ c).2 b
   .obtain⟨n,c,b|⟨b,_⟩⟩:=cD h
    .exact(e _ c).2 b.symm
    .exact(e _ c).2 b
  exact gu f i
 frees:=q
theorem memZ{α:Type}{C:α->Prop}:∀p∈([]:List α),C p:=λ_ h=>by cases h
theorem memC{α:Type}{C:α->Prop}{a:α}{l:List α}(e:C a)(c:∀p∈l,C p):∀p∈a::l,C p:=λp b=>by
 rcases OQ.mp b with rfl|z
 .exact e
 .exact c p z
end _2
namespace _3
open PySem _2
variable{K:OA}
section
variable{X:Cx}{B:Bd}{pos:Pos}
theorem dnm(i:Nat){x:Str}{pos:Pos}(a:X.N[i]?=ap x:=by rfl)(hv:Iw X.env.scope x:=by first|exact Or.inl rfl|exact Or.inr (Or.inl rfl)|exact Or.inr (Or.inr rfl))(hd:(x==("__debug__":Str))=false:=by decide)(hcd:(x==("__classdict__":Str))=false:=by decide):DE X B (.Name x pos) (ac i):=KQ a hv hd hcd
def iY:DX:=λ_ _=>False
theorem uxN{E:XK}:uR K B iY E:=λ_ _ z=>z.elim
theorem uy:gl "list"=ap (.type "list"):=by decide +kernel
theorem Ab:gl "tuple"=ap (.type "tuple"):=by decide +kernel
theorem nV:gl "isinstance"=ap (.builtin "isinstance"):=by decide +kernel
theorem Eh:gl "str"=ap (.type "str"):=by decide +kernel
theorem sU:gl "dict"=ap (.type "dict"):=by decide +kernel
theorem Fq:gl "min"=ap (.builtin "min"):=by decide +kernel
theorem F9:gl "max"=ap (.builtin "max"):=by decide +kernel
theorem FT:gl "len"=ap (.builtin "len"):=by decide +kernel
theorem N9{x:Str}{T:String}(b:Gl X x)(a:X.mg x=cm)(c:gl x=ap (.type T))(e:x≠"__name__":=by decide)(hd:(x==("__debug__":Str))=false:=by decide):DE X B (.Name x pos) (dC<|.ty T):=
 Cj (Ex (v:=.ty T) b a c rfl e hd) λ_=>rfl
def vz(t:bp):bp:=λU M Q=>t U M λx M1=>match x with
 |.int i=>Q (.int (-i)) M1
 |_=>False
theorem Jh{a:fy}{b:bp}(e:DE X B a b):DE X B (.UnaryOp .USub a pos) (vz b):=by
 refine aY (Oa La e) ?_
 rintro Z H Q ⟨U,M,QQ,s,h,u⟩
 refine⟨U,M,_,s,h,λd M' q v H' c i r=>?_⟩;cases d with
 |int j=>exact⟨j,r,u _ M' q _ H' c i rfl⟩
 |_=>exact(show False from q).elim
def frzs:List D->Mem->(List D->Mem->Prop)->Prop
 |[],M,Q=>Q [] M
 |d::ds,M,Q=>match d with
  |.ref a=>match M a with
   |some (.lst xs)=>frzs ds (M.del a) λb M'=>Q (.lst xs::b) M'
   |_=>frzs ds M λb M'=>Q (d::b) M'
  |_=>frzs ds M λb M'=>Q (d::b) M'
theorem iD{Xb:Xq}{Z:_2.St}{s:el}:∀{ds:List D}{vs:List V}{M:Mem}{H:Hp}{Q:List D->Mem->Prop},Inv X Xb Z H s->RepH X.K H M->Rps X.K H ds vs->frzs ds M Q->
  ∃H' es M',Inv X Xb Z H' s/\RepH X.K H' M'/\Frm M H M' H'/\Rps X.K H' es vs/\Q es M'
 |[],vs,M,H,Q,I,rh,r,h=>⟨H,[],M,I,rh,Frm.refl,r,h⟩
 |d::ds,vs,M,H,Q,I,rh,r,h=>by
  obtain⟨v,vs',rfl,a,b⟩:=r;unfold frzs at h
  split at h
  .rename_i a'
   cases a
   split at h
   .rename_i xs e
    obtain⟨ws,h1,h2⟩:=rh _ _ e;obtain⟨o,I2⟩:=Inv.freeze I h1;have im:Imm H (upd H a'<|.frz o<|.lst ws):=Imm.upd (by rw[h1];trivial)
    obtain⟨H',es,M',I',rh',f,r',q⟩:=iD I2 (rh.freeze h1) (b.mono im) h;refine⟨H',_,M',I',rh',(Frm.del ⟨_,e⟩).trans f,.cons ?_ r',q⟩;have z:Rp X.K (upd H a'<|.frz o<|.lst ws) (.lst xs) (.ref a'):=⟨a',ws,rfl,⟨o,upd_same⟩,h2.mono im⟩;exact z.mf (rh.freeze h1) f
   .obtain⟨H',es,M',I',rh',f,r',q⟩:=iD I rh b h
    exact⟨H',_,M',I',rh',f,.cons (d:=.ref a') rfl r',q⟩
  .obtain⟨H',es,M',I',rh',f,r',q⟩:=iD I rh b h
   exact⟨H',_,M',I',rh',f,.cons (a.mf rh f) r',q⟩
def wy(d:D)(M:Mem)(Q:DK):Prop:=match d with
 |.tup ds=>frzs ds M λa M'=>Q (.tup a) M'
 |d=>Q d M
def ou(t:bp):bp:=λU M Q=>t U M λd M'=>wy d M' Q
theorem DC{e:fy}{te:bp}(h:DE X B e te):DE X B e (ou te):=by
 intro a s Z H Q I m;obtain⟨U,M,QQ,x,n,u⟩:=m;refine bq (h a s Z H (λv H'=>∃d M',RepH X.K H' M'/\Frm M H M' H'/\Rp X.K H' d v/\wy d M' QQ) I ⟨U,M,_,x,n,λd M' q v H' b i r=>⟨d,M',b,i,r,q⟩⟩) ?_
 rintro w A ⟨v,H',I',g,d,M',b,i,r,q⟩
 unfold wy at q
 split at q
 .obtain⟨p,o,rfl,z,r⟩:=r
  obtain⟨H2,C,M2,I2,c,f,j,y⟩:=iD I' b r q;exact⟨.ref p,H2,I2,g,u _ _ y _ H2 c (i.trans f) ⟨p,o,rfl,z.mono (f.imm b),j⟩⟩
 .exact⟨v,H',I',g,u _ _ q v H' b i r⟩
theorem Ip{P:fx}{w:g3}{g:Xr}{a:hG}{k n:Nat}{f:eg}{fd:g4}{ps:Xk}{T:Sd}(F:FnOk P w K g a (oH P w) k f fd ps (bK K n T)):
  FnOk P w K g a CX0 k f fd ps (λvs H Q _=>bK K n T vs H Q E0):=
 ⟨λvs H Q E h=>F.len _ _ _ _ h,λA b s H c i vs Q E p j m u q=>SZ (F.run A b s H c i vs Q E0 p j m u q) λr C h=>by
  cases r with
  |ok fl=>cases fl<;>exact h
  |error e=>
   obtain⟨C',M,H',B,y,x,G,J,v,I,L,z,N,o⟩:=h;exact(show False from o).elim⟩
theorem EF{T:Sd}{H:Hp}{a:eg}{c:Xj}{Q:VK}(g:AO H)(i:SqL K H a (c.map V.int))(h:T [.ml (c.map D.int)] (λ_=>cm) (λd _=>d=.bl true) iY)(k:∀H',Q (.bl true) H'):bK K 1 T [.ref a] H Q E0:=by
 refine⟨rfl,[.ml (c.map D.int)],λ_=>cm,_,_,λb o e=>(by cases e),.cons ⟨a,_,rfl,?_,uO rfl⟩ .nil,h,λd M' q v H' j f r=>?_,λ_ _ z=>z.elim⟩
 .rcases i with (z|z)|z
  .rcases g a with e|⟨o,xs,e⟩
   .rw[e]at z;cases z
   .rw[e]at z;cases z
  .exact .inl z
  .exact .inr z
 .subst q;cases r;exact k H'
end
theorem kb{h h':hG}{N:eg}(X:K.In h)(X':K.In h')(e:W.nsOkIn K N=true):h'.nsMap N=h.nsMap N:=by
 unfold W.nsOkIn at e
 split at e
 .rename_i a
  funext x;unfold Heap.nsMap;rw[X _ _ a,X' _ _ a]
 .cases e
theorem ig{h:hG}{C:eg}(X:K.In h)(q:UR K C [.type "ValueError",.type "Exception",.type "BaseException",.type "object"] "ValueError.__new__"=true):ExcAt K C:=by
 unfold UR at q
 split at q
 .rename_i G I i z
  split at q
  .rename_i C' E o j g u n v m p
   simp only[PZ,beq_iff_eq,Bool.not_eq_true']at q;obtain⟨⟨⟨⟨⟨rfl,rfl⟩,b⟩,w⟩,a⟩,c⟩:=q;obtain⟨nm,bs,H,s,A,y,B,sub,x,e,del⟩:=I;dsimp only at m b a c;subst m b;have f:i=#[o,j,g,u,ap (.builtin "ValueError.__new__"),v]:=by
    obtain⟨l⟩:=i;simp only at p;rw[p]
   subst f;refine⟨⟨nm,A,s,bs,E,_,y,B,sub,x,e,G,o,j,g,u,v,"ValueError.__new__","ValueError.__init__","ValueError",h.nsMap s,λJ X'=>⟨X' _ _ z,?_,W.tail_of_in X' w⟩,W.nsMap_none_of_in X a c,PySem.F.excBase_ValueError,by decide,(W.tail_of_in X w).hasType<|by decide⟩⟩
   rw[<- kb X X' a];exact .of_isNs (W.isNs_of_in X' a)
  .cases q
 .cases q
end _3
namespace _2
open PySem
theorem EH{b:fy}{a:List Comprehension}{scope:Pi}{pos f:Pos}{x:Str}{line:Nat}{env:Env}(h:env.blockKind=.function)(i:env.scope.names.lookup x=ap .local)(j:f.line=pos.line)
  (g:(scope.names.any λ(n,k)=>n==x&&(k==.local||k==.cell))=eC):wh (.ListComp b a scope pos) (ap<|.Name x f) line env=pure true:=by
 have e:(Expr.ListComp b a scope pos).pos=pos:=rfl;have c:env.kindOf x=ap .local:=i;unfold wh
 try dsimp only
 rw[h,c,e,j,g];simp
end _2
namespace _3
open PySem _2
variable{B:Bd}{X:Cx}{es:Xn}
def Ay:fy->Bool
 |.Starred ..=>eC
 |_=>true
theorem A0{e:fy}{env:Env}(h:Ay e=true):fe (e::es) env=(eC,gp e env)::fe es env:=by
 cases e<;>first|rfl|exact Bool.noConfusion h
section
theorem da_c{e:fy}{te:bp}{t:fj}(b:DE X B e te)(c:DA X B es t)(a:Ay e=true:=by rfl):DA X B (e::es) (aa te t):=EN b c (A0 a)
end
section
end
section
def vQ(n:Nat)(t:o8):jK:=λd U M Q=>match d with
 |.lst xs=>xs.length=n/\t xs U M Q
 |.ref a=>match M a with
  |some (.lst xs)=>xs.length=n/\t xs U M Q
  |_=>False
 |_=>False
theorem Lq{k:Nat}{t:o8}{n:Nat}{pos:Pos}(A:X.calm=true)(h:LU X B es t)(C:(ra es X.env).length=n:=by rfl)(hst:(ra es X.env).findIdx? (·.1)=none:=by rfl):DG X B (.Tuple es k pos) (vQ n t):=by
 intro a s Z H v u Q I r G;obtain⟨d,U,M,QQ,q,y,hd,z⟩:=G;cases d with
 |lst j=>
  obtain⟨p,w,rfl,K,i⟩:=y;obtain⟨E,hd⟩:=hd;cases r;obtain⟨f,c,pl,J⟩:=I.list K.sq;have g:(ra es X.env).length=f.toArray.size:=by have:=c.length;have:=i.length;simp[C];lia
  rw[SK];refine ax (Tl ?_);unfold unpack;rw[g,hst];refine ax (om (W.kun_itemsOf (I.ok.hd A) pl.isList λm x=>?_));have I1:Inv X a Z H { s with heap:=m }:=I.kept (t':=s.toks) λb o e=>x b o (OP<|OD e) e;exact h a _ Z H w _ Q I1 (by simpa using c) ⟨j,U,M,QQ,q,i,hd,z⟩
 |ref p=>
  cases y;simp only[vQ]at hd
  split at hd
  .rename_i j e
   obtain⟨w,F,i⟩:=q.rh _ _ e;obtain⟨E,hd⟩:=hd;cases r;obtain⟨f,c,pl,J⟩:=I.list (SqL.of F);have g:(ra es X.env).length=f.toArray.size:=by have:=c.length;have:=i.length;simp[C];lia
   rw[SK];refine ax (Tl ?_);unfold unpack;rw[g,hst];refine ax (om (W.kun_itemsOf (I.ok.hd A) pl.isList λm x=>?_));have I1:Inv X a Z H { s with heap:=m }:=I.kept (t':=s.toks) λb o e=>x b o (OP<|OD e) e;exact h a _ Z H w _ Q I1 (by simpa using c) ⟨j,U,M,QQ,q,i,hd,z⟩
  .exact hd.elim
 |_=>exact(show False from hd).elim
end
mutual
def di:D->PyData
 |.non=>.none
 |.bl b=>.bool b
 |.int i=>.int i
 |.str x=>.str x
 |.tup xs=>.tuple (fk xs)
 |.lst xs=>.list (fk xs)
 |_=>.none
def fk:List D->List PyData
 |[]=>[]
 |x::xs=>di x::fk xs
end
mutual
theorem uY:∀d:D,(di d).hasDict=eC
 |.non=>by simp only[di,P0]
 |.bl _=>by simp only[di,P0]
 |.int _=>by simp only[di,P0]
 |.str _=>by simp only[di,P0]
 |.tup xs=>by simp only[di,P0];exact rg xs
 |.lst xs=>by simp only[di,P0];exact rg xs
 |.ty _=>by simp only[di,P0]
 |.ref _=>by simp only[di,P0]
 |.mt _=>by simp only[di,P0]
 |.ml _=>by simp only[di,P0]
 |.fd _ _=>by simp only[di,P0]
theorem rg:∀xs:List D,SD (fk xs)=eC
 |[]=>by simp only[fk,SD]
 |x::xs=>by simp only[fk,SD,uY x,rg xs,Bool.or_self]
end
mutual
theorem si:∀(n:Nat)(d:D),bj n d=true->(di d).depth<=n
 |_,.non,_=>by simp[di,Rz]
 |_,.bl _,_=>by simp[di,Rz]
 |_,.int _,_=>by simp[di,Rz]
 |_,.str _,_=>by simp[di,Rz]
 |n+1,.tup xs,f=>by have:=jJ n xs f;simp only[di,Rz];lia
 |n+1,.lst xs,f=>by have:=jJ n xs f;simp only[di,Rz];lia
 |0,.tup _,f=>by simp[bj]at f
 |0,.lst _,f=>by simp[bj]at f
 |_,.ty _,f=>by simp[bj]at f
 |_,.ref _,f=>by simp[bj]at f
 |_,.mt _,f=>by simp[bj]at f
 |_,.ml _,f=>by simp[bj]at f
 |_,.fd _ _,f=>by simp[bj]at f
theorem jJ:∀(n:Nat)(xs:List D),bt n xs=true->S9 (fk xs)<=n
 |_,[],_=>by simp[fk,S9]
 |n,x::xs,f=>by
  rw[bt,PZ]at f;have:=si n x f.1;have:=jJ n xs f.2;simp only[fk,S9];lia
end
mutual
theorem uB{h:hG}:∀(d:D)(u:ay),Hr h d u->∃g,Reads h u (di d) g
 |.non,u,q=>by cases q;exact⟨_,.none⟩
 |.bl _,u,q=>by cases q;exact⟨_,.bool _⟩
 |.int _,u,q=>by obtain⟨t,rfl⟩:=q;exact⟨_,.int _ _⟩
 |.str _,u,q=>by obtain⟨t,rfl⟩:=q;exact⟨_,.str _ _⟩
 |.tup xs,u,q=>by
  obtain⟨p,a,rfl,⟨o,b,e,n,c⟩,r⟩:=q;obtain⟨g,f⟩:=jI xs a r;exact⟨_,.tuple b e c f⟩
 |.lst xs,u,q=>by
  obtain⟨p,a,rfl,⟨o,b,e,n,c⟩,r⟩:=q;obtain⟨g,f⟩:=jI xs a r;exact⟨_,.list b e c f⟩
 |.ty _,_,q=>q.elim
 |.ref _,_,q=>q.elim
 |.mt _,_,q=>q.elim
 |.ml _,_,q=>q.elim
 |.fd _ _,_,q=>q.elim
theorem jI{h:hG}:∀(xs:List D)(us:Xl),Hrs h xs us->∃f,ReadsAll h us (fk xs) f
 |[],_,q=>by cases q;exact⟨_,.nil⟩
 |x::xs,_,q=>by
  obtain⟨u,r,rfl,a,b⟩:=q;obtain⟨i,c⟩:=uB x u a;obtain⟨g,e⟩:=jI xs r b;exact⟨_,.cons c e⟩
end
section
end
theorem Bw:gl "repr"=ap (.builtin "repr"):=by decide +kernel
end _3
namespace _S
open PySem
variable{A:i5}{prog:fx}{s:el}{E:Xp}{w:g3}
section
variable{K:Type}[DecidableEq K]
variable{knd:KeyKind prog w K}
end
section
variable{K:Type}[DecidableEq K]{knd:KeyKind prog w K}
end
section
variable{M:Model}
end
section
variable{I a:eg}{f:ay}{i n ep:Nat}{es:Array (Int×ay)}{t:SetTable}
end
section
variable{I a:eg}{ep:Nat}{es:Array (Int×ay)}{t:SetTable}
end
end _S
namespace _S
open PySem PySem.W PySem.Calls PyProof.Rows PyProof.V PySem.Spec
section
variable {prog:fx}{w:g3}{A:i5}{E:Xp}{s:el}{a:eg}{ep:Nat}{es:Array (Int×ay)}{t:SetTable}
end
end _S
namespace _S
open PySem
section
variable {prog:fx}{w:g3}{A:i5}{E:Xp}{s:el}{a:eg}
end
section
variable {K:Type}[DecidableEq K](o:Ord K)
end
end _S
namespace _3
open PySem _2 _S
section
variable {X:Cx}{B:Bd}
end
end _3
namespace _S
open PySem
section
variable {prog:fx}{w:g3}{A:i5}{E:Xp}{s:el}{a:eg}
end
end _S
namespace _3
open PySem _2 _S
def jB:List D->Option (List Int)
 |[]=>ap []
 |.int i::ds=>match jB ds with
  |some is=>ap (i::is)
  |none=>cm
 |_=>cm
theorem uC{K:OA}{H:Hp}:∀{ds:List D}{vs:List V}{xs:Xj},Rps K H ds vs->jB ds=ap xs->vs=xs.map V.int
 |[],vs,xs,r,e=>by cases e;exact r
 |d::ds,vs,xs,r,e=>by
  obtain⟨v,h,rfl,a,b⟩:=r;cases d with
  |int c=>
   simp only[jB]at e
   split at e
   .rename_i f g
    cases e;cases a;rw[uC b g];rfl
   .cases e
  |_=>simp[jB]at e
section
variable {X:Cx}{B:Bd}
end
end _3
namespace _2
open PySem
section
variable {X:Cx}
end
end _2
namespace _3
open PySem _2 _S
section
variable {X:Cx}{B:Bd}
theorem zX:gl "range"=ap (.type "range"):=by decide +kernel
def uz(t:fj):bp:=λU M Q=>t U M λa M1=>match a with
 |[.int j]=>(-(2 ^ 62)<=j/\j<=1000)/\∀p,M1 p=cm->Q (.ref p) (M1.upd p<|.lst<|dW 0 j.toNat)
 |_=>False
def vp(n:Nat):List V:=(Pm n).map λ(i:Nat)=>V.int (0+(i:Int))
theorem Fa{K:OA}{H:Hp}{n:Nat}:Rps K H (dW 0 n) (vp n):=by
 unfold dW vp;generalize Pm n=l
 induction l with
 |nil=>rfl
 |cons i l ih=>exact⟨_,_,rfl,rfl,ih⟩
theorem Bu{Xe:Xs}{n:Nat}(h:ItemsOf (λi v=>∃t,v=.int (0+i*1) t) Xe n):Vals (vp n) Xe.toList:=by
 obtain⟨b,c⟩:=h;have a:∀(l:Xl)(k m:Nat),l.length=m->(∀(j:Nat)(v:ay),l[j]?=ap v->∃t,v=.int (0+((k+j:Nat):Int)) t)->Vals ((Ro k m).map λ(i:Nat)=>V.int (0+(i:Int))) l:=by
  intro l
  induction l with
  |nil=>intro k m e _;subst e;exact .nil
  |cons x l ih=>
   intro k m e h;subst e;rw[OE,QO,Oy];refine .cons ?_ (ih (k+1) _ rfl λj v q=>?_)
   .obtain⟨t,rfl⟩:=h 0 x (by simp)
    exact⟨t,rfl⟩
   .obtain⟨t,e⟩:=h (j+1) v (by simpa using q)
    exact⟨t,by rw[e];congr 2;lia⟩
 have:=a Xe.toList 0 n (by simpa using b) λj v q=>by
  obtain⟨t,e⟩:=c j v (by simpa using q)
  exact⟨t,by rw[e,Tu,S2]⟩
 unfold vp;rw[Rn];exact this
def Ca(t:TA):TE:=λZ H Q=>t Z H λa H1=>∃j:Int,a=[.int j]/\(-(2 ^ 62)<=j/\j<=1000)/\∀p,H1 p=cm->Q (.ref p) (upd H1 p<|.lst<|vp j.toNat)
theorem uZ{e:fy}{t:TA}{p A pos a:Pos}(R:X.calm=true)(S:Gl X "range")(U:X.mg "range"=cm)(y:Gl X "list")(x:X.mg "list"=cm)(T:PA X [e] t)
  (W:fe [e] X.env=[(eC,gp e X.env)]:=by rfl) (hs3:fe [Ug (.Name "range" A) [e] [] a] X.env=[(eC,gp (.Call (.Name "range" A) [e] [] a) X.env)]:=by rfl):
  PE X (.Call (.Name "list" p) [.Call (.Name "range" A) [e] [] a] [] pos) (Ca t):=by
 intro g s Z H Q I h;refine re (eF I y x uy<|Pr ?_ hs3 rfl);rw[hs3];show eH _ _ (spliced ((eC,_)::hI pos [])) _ _ s;refine Qw ?_;refine re (eF I S U zX<|Pr (bq (T a g s Z H _ I h) λY c ⟨vs,H1,I1,K,O⟩=>?_) W rfl);obtain⟨j,rfl,⟨E,j1⟩,q⟩:=O;obtain⟨u,rfl,J⟩:=iU K;obtain⟨t',rfl⟩:=J;refine call_range_1 ?_;refine Q8 ?_;have L:=I1.ok.hd R;refine call_list_range (n:=j.toNat) L (IsRange.new ..) (small_one (by decide) (by decide) E<|by lia) (by rw[rangeSize_one];split<;>lia) (by lia) λG M i C F N f=>?_
 have m:(c.heap.push { cls:=.type "range",data:=.fields #[.int 0 c.toks,.int j t',.int 1 (c.toks+1)] }).objs.size=c.heap.objs.size+1:=Pl ..;have P:H1 (c.heap.objs.size+1)=none:=I1.hok.fresh (To _);have v:G.get? (c.heap.objs.size+1)=ap { cls:=.type "list",dict:=cm,data:=.seq i C,slots:=#[] }:=by rw[<- m];exact N
 refine⟨.ref (c.heap.objs.size+1),_,I1.laid (t':=M) (o:=.lst (vp j.toNat)) (λb o z=>F b o (Ow _ z)) (To _) (show ObjOk X.prog X.w _ _ _ (.lst _) from ⟨?_,i.toList,C,Bu f,by rw[Array.toArray_toList];exact v⟩),?_,q _ P⟩
 .simp only[vp,Ox,SW]
  exact OV (by lia:j.toNat<=1000) (by decide)
 .show OY _=OY _
  rw[<- m]
theorem wz{e:fy}{t:fj}{p p2 pos pos2:Pos}(hc:X.calm=true)(hg:Gl X "range")(hm:X.mg "range"=cm)(hg2:Gl X "list")(hm2:X.mg "list"=cm)(ha:DA X B [e] t)
  (hs:fe [e] X.env=[(eC,gp e X.env)]:=by rfl) (hs3:fe [Ug (.Name "range" p2) [e] [] pos2] X.env=[(eC,gp (.Call (.Name "range" p2) [e] [] pos2) X.env)]:=by rfl):
  DE X B (.Call (.Name "list" p) [.Call (.Name "range" p2) [e] [] pos2] [] pos) (uz t):=by
 refine aY (uZ hc hg hm hg2 hm2 ha hs hs3) ?_
 rintro Z H Q ⟨U,M,QQ,s,h,u⟩
 refine⟨U,M,_,s,h,λds M1 h1 vs H1 rh1 i1 r1=>?_⟩
 split at h1
 .obtain⟨v,rfl,rv⟩:=gR (ds:=[]) r1
  cases rv;refine⟨_,rfl,h1.1,λd hd=>?_⟩;exact u _ _ (h1.2 d<|rh1.fresh hd) _ _ (rh1.put (by rw[hd];trivial) ⟨_,upd_same,Fa⟩) (i1.trans<|Frm.put<|.inl hd) rfl
 .exact h1.elim
end
section
variable {X:Cx}{B:Bd}{name:Str}{a:eg}{tab:List (Str×D)}
end
end _3
namespace _S
open PySem
section
variable {prog:fx}{w:g3}{K:Type}[DecidableEq K]{A:i5}{E:Xp}{s:el}{knd:KeyKind prog w K}
end
section
variable {prog:fx}{w:g3}{K:Type}[DecidableEq K]{A:i5}{E:Xp}{s:el}{knd:KeyKind prog w K}
end
end _S
namespace _2
open PySem PySem.Spec
section
variable {X:Cx}{tg:fy}
end
end _2
namespace _3
open PySem _2 _S
section
variable {X:Cx}{B:Bd}{tg:fy}{K:OA}{H:Hp}{M:Mem}
end
end _3
namespace _3
open PySem _2
section
variable {X:Cx}{B:Bd}{pos:Pos}
end
section
variable {X:Cx}{B:Bd}
end
end _3
namespace _3
open PySem _2 _S
section
variable {X:Cx}{B:Bd}
end
end _3
namespace _S
open PySem PySem.W PySem.Calls PyProof.Rows PyProof.V PySem.Spec
section
variable {prog:fx}{w:g3}{K:Type}[DecidableEq K]{knd:KeyKind prog w K}{A:i5}{E:Xp}{s:el}{v d:eg}{ep:Nat}{Xd:List (K×ay)}
end
end _S
namespace _3
open PySem _2 _S
section
variable {X:Cx}{B:Bd}{pos:Pos}
end
end _3
namespace LX
open PySem PySem.W PySem.Spec PySem.Calls PyProof.Rows Builtin Builtin.ObjectAttr Builtin.Getset_descriptor
section
variable {K:Frag}{prog:fx}{w:g3}{A:i5}{E:Xp}{s:el}
end
end LX
namespace LX
open PySem PySem.W PySem.Spec PySem.Calls PyProof.Rows
end LX
namespace _2
open PySem PySem.Spec PyProof.Rows
section
variable {X:Cx}{Xb:Xq}{Z:St}{H:Hp}{s:el}{e:ay}
end
end _2
namespace _2
open PySem
end _2
namespace _3
open PySem _2
variable{K:OA}
section
variable{X:Cx}{B:Bd}{H H':Hp}{M M1 M':Mem}
end
section
variable{P:fx}{w:g3}{mg:Xr}{base:hG}{f:eg}{fd:g4}
end
section
variable{X:Cx}{B:Bd}{H H':Hp}{M M1 M':Mem}
end
end _3
namespace _3
open PySem _2 _S
section
variable {X:Cx}{B:Bd}
end
end _3
namespace _3
open PySem _2
variable{B:Bd}{X:Cx}{pos:Pos}
section
theorem ID{bs:Xj}{Xh:Xl}(f:Vals (bs.map V.int) Xh){i:Nat}{v:ay}(j:Xh.toArray[i]?=ap v):∃c t,bs[i]?=ap c/\v=.int c t:=by
 have a:Xh[i]?=ap v:=by simpa using j
 have g:=f.length;rw[Ox]at g;have e:i<bs.length:=by
  have:=(Qh.mp a).1;lia
 obtain⟨m,b,h⟩:=f.get (i:=i) (x:=.int bs[i]) (by rw[OO,Oz e];rfl)
 rw[a]at b;cases b;obtain⟨t,rfl⟩:=h;exact⟨bs[i],t,Oz e,rfl⟩
theorem fT(bs:Xj):∀n,n<=bs.length->preSum (λi=>bs.getD i 0) n=(bs.take n).sum
 |0,_=>by simp[preSum]
 |n+1,h=>by
  rw[preSum,fT bs n (by lia),SS (by lia),RN,Oz (by lia),List.sum_append,List.sum_singleton]
  rfl
theorem on{b:Int}:∀l:List Int,(∀x∈l,-b<=x/\x<=b)->-(l.length*b)<=l.sum/\l.sum<=l.length*b
 |[],_=>by simp
 |x::l,h=>by
  have c:=h x (OR ..);have f:=on l λy a=>h y (OJ _ a);have e:((x::l).length:Int)*b=b+l.length*b:=by
   rw[OE];push_cast;rw[Int.add_mul];lia
  rw[Pp,e];lia
def wV:qv:=λa M Q=>match a with
 |[d]=>match gW M d with
  |some xs=>match jB xs with
   |some ss=>(ss.length<=1000/\∀x∈ss,-1000000000000000<=x/\x<=1000000000000000)/\Q (.int ss.sum) M
   |none=>False
  |none=>False
 |_=>False
theorem z9(Y:X.calm=true):bN X (.builtin "sum") (liftC X wV):=by
 intro C s Z H xs us Q I r h;obtain⟨ds,M,QQ,F,P,h,W⟩:=h;unfold wV at h
 split at h
 .obtain⟨v,rfl,S⟩:=gR (ds:=[]) P
  split at h
  .rename_i ys e
   obtain⟨q,vs,rfl,R,G⟩:=jb F S e
   split at h
   .rename_i a L
    obtain⟨⟨hl,E⟩,h⟩:=h;have:=uC G L;subst this;obtain⟨u,rfl,K⟩:=iU r;cases K;obtain⟨g,z,p,hz⟩:=I.list (.inl R);have f:=z.length;rw[Ox]at f;have n:q<s.heap.objs.size:=by obtain⟨o,e,_⟩:=p.isList;exact OD e
    have w:q≠s.heap.objs.size:=OP n;have m:g.toArray.size=a.length:=by rw[OG,<- f]
    refine call_sum_walk (Wo p.isList ⟨s.heap.objs.size,_,_,_,_,_,λi=>a.getD i 0,rfl,Walks.list (A:=X.A.in1) (I.ok.hd Y) s.heap.objs.size q w g.toArray,⟨⟨_,OI _ rfl,rfl,rfl⟩,p.isList.push _⟩,?_,λi v T=>?_,λj y=>?_,λh' O t' N=>?_⟩)
    .intro b hb
     simp at hb;rcases hb with hb|hb
     .show _<(s.heap.objs.push _).size;rw[Array.size_push,hb];exact Rj _
     .show _<(s.heap.objs.push _).size;rw[Array.size_push,hb];exact Rg n
    .obtain⟨c,t,J,rfl⟩:=ID z T
     exact⟨t,by show _=QA (a.getD i 0) t;rw[RN,J];rfl⟩
    .rw[m]at y
     have b1:-1000000000000000<=a.getD j 0/\a.getD j 0<=1000000000000000:=by
      rw[RN,Oz y];exact E _ (Qs y)
     have b2:=on (b:=1000000000000000) (a.take (j+1)) λx U=>E x (List.mem_of_mem_take U);have b3:((a.take (j+1)).length:Int)<=1000:=by simp;lia
     rw[fT a (j+1) (by lia)]
     show InLong (a.getD j 0)/\_;unfold InLong;lia
    .rw[m,fT a _ (OB _),List.take_length]
     refine⟨.int a.sum,H,?_,⟨_,rfl⟩,W _ M h _ H F Frm.refl rfl⟩;exact I.kept (t':=O) λb o hb=>N b o (by simp;exact OP (OD hb)) (Ow _ hb)
   .exact h.elim
  .exact h.elim
 .exact h.elim
def qZ:qv:=λa M Q=>match a with
 |[d]=>bj 60 d=true/\(di d).showable=true/\(di d).shown.length<=sizeLine/\Q (.str (di d).shown) M
 |_=>False
theorem we(C:X.A.guards=ap [])(R:X.A.units+64<rc):bN X (.builtin "repr") (liftC X qZ):=by
 intro g s Z H w L Q I r h;obtain⟨ds,M,QQ,J,F,h,K⟩:=h;unfold qZ at h
 split at h
 .rename_i d
  obtain⟨y,n,m,h⟩:=h;obtain⟨v,rfl,G⟩:=gR (ds:=[]) F;obtain⟨u,rfl,E⟩:=iU r;have q:=AN I y G E;have O:=si 60 _ y;obtain⟨N,z⟩:=uB _ _ q;have fin:∀(t:Tok)(c:Nat)(a:hG),(∀b o,s.heap.get? b=ap o->a.get? b=ap o)->EP X g Z Q (.str (di d).shown t) { s with heap:=a,toks:=c }:=λt c a f=>
   ⟨.str _,H,I.kept (t':=c) λb o e=>f b o e,⟨_,rfl⟩,K _ M h _ H J Frm.refl rfl⟩
  cases d with
  |non=>cases q;exact PySem.P.repr_of_none (fin _ _ _ λ_ _ e=>e)
  |bl b=>cases q;exact PySem.P.repr_of_bool (fin _ _ _ λ_ _ e=>e)
  |int i=>
   obtain⟨t,rfl⟩:=q;exact PySem.P.repr_of_int (by simpa [di,Rk] using n) (fin _ _ _ λ_ _ e=>e)
  |str x=>
   obtain⟨t,rfl⟩:=q;exact PySem.P.repr_of_str (fin _ _ _ λ_ _ e=>e) m
  |tup w=>
   obtain⟨p,j,rfl,_⟩:=q;exact repr_of_reads' z n (UT<|uY _) C (by lia) (λ_ _ e=>e) (λa u c f=>fin u c a f) m
  |lst w=>
   obtain⟨p,j,rfl,_⟩:=q;exact repr_of_reads' z n (UT<|uY _) C (by lia) (λ_ _ e=>e) (λa u c f=>fin u c a f) m
  |_=>exact q.elim
 .exact h.elim
end
theorem Eu:gl "sum"=ap (.builtin "sum"):=PyProof.Rows.boot_sum
section
variable{C:eg}{f:Str}{o value:fy}{ta tv:bp}{tpos:Pos}
def pO(C:eg)(ta tv:bp)(f:Str):aE:=λD U M=>ta U M λx M1=>match x with
 |.ref a=>match M1 a with
  |some (.ins C' fs)=>C'=C/\fs.length<1000/\match fs.lookup f with
   |some (.int i)=>tv U M1 λy M2=>match y with
    |.int j=>M2 a=ap (.ins C fs)/\D.nx U (M2.upd a<|.ins C<|bG f (.int (i+j)) fs)
    |_=>False
   |_=>False
  |_=>False
 |_=>False
theorem zp(c:Cls X.K C)(n:NoAttr X.K C f)(ha:DE X B o ta)(hv:DE X B value tv):DS X B (.AugAssign (.Attribute o f tpos) .Add value pos) (pO C ta tv f):=by
 refine bJ (oJ ha hv Ii) ?_
 rintro D Z H ⟨U,M,DD,s,h,up⟩
 refine⟨U,M,_,s,h,λx M1 h1 v1 H1 rh1 i1 r1=>?_⟩
 split at h1
 .rename_i a
  cases r1
  split at h1
  .rename_i C' fs hM
   obtain⟨rfl,hl,h1⟩:=h1
   split at h1
   .rename_i i hf
    obtain⟨dx,ws,e1,e2⟩:=rh1 _ _ hM;obtain⟨z,_⟩|⟨d,w,hd,hw,rw1⟩:=e2.lookup f
    .rw[hf]at z;cases z
    rw[hf]at hd;cases hd;cases rw1;refine⟨a,C',dx,ws,.int i,rfl,e1,c,n,hw,U,M1,_,s.go rh1 i1,h1,λy M2 h2 v2 H2 rh2 i2 r2=>?_⟩
    split at h2
    .rename_i j
     cases r2;obtain⟨hM2,h2⟩:=h2;obtain⟨dx2,ws2,e3,e4⟩:=rh2 _ _ hM2;have i3:Frm M2 H2 (M2.upd a<|.ins C'<|bG f (.int (i+j)) fs) (upd H2 a<|.ins C' dx2<|_2.da f (.int (i+j)) ws2):=Frm.put (.inr ⟨_,hM2⟩);refine⟨i,j,rfl,rfl,dx2,ws2,e3,by rw[<- e4.length];exact hl,up.nx _ _ h2 Z _ ((i1.trans i2).trans i3)<|s.go (rh2.put (by rw[e3];trivial) ⟨dx2,_,upd_same,?_⟩)<|(i1.trans i2).trans i3⟩
     exact(jr (show Rp X.K H2 (.int (i+j)) (.int (i+j)) from rfl) e4).mono (i3.imm rh2)
    .exact h2.elim
   .exact h1.elim
  .exact h1.elim
 .exact h1.elim
end
section
variable{CX:oA}{k n:Nat}{f C:eg}{fd:g4}{ps:Xk}{T:Sd}{E:XK}{EE:DX}{x:Str}{p:Pos}
end
section
variable{K:OA}{H H':Hp}{M M1 M':Mem}
end
section
end
end _3
namespace _S
open PySem PySem.W PySem.Calls PyProof.Rows PyProof.V PySem.Spec
section
variable {prog:fx}{w:g3}{A:i5}{E:Xp}{s:el}{it d:eg}{i n ep:Nat}{ok ov:ay}{od:Obj}{es:Array WR}
end
end _S
namespace _2
open PySem PySem.Spec PyProof.Rows _S
theorem Os{X:Cx}{b:Xq}{Z:St}{H:Hp}{s:el}{d:eg}{c:Obj}{a:List (List aG×V)}{es:Array WR}{n:Nat}(I:Inv X b Z H s)(e:H d=ap (.frz c<|.dT a))(p:c.data=.dict es n):
  s.heap.get? d=ap c/\∃xs:List (List aG×eg×ay),KT H a xs/\es.toList=xs.map (entryOfKey<|tupleKind<|aV X.prog X.w):=by
 obtain⟨g,_,_,xs,r,o,i,j,h,_,f,m,_⟩:=(show ObjOk X.prog X.w H s.heap d (.frz c<|.dT a) from I.hok d _ e);rw[g]at h;cases h;rw[p]at f;cases f;exact⟨g,xs,r,m⟩
end _2
namespace _3
open PySem _2 _S
section
variable {X:Cx}{B:Bd}
end
end _3
namespace _S
open PySem PySem.W PySem.Calls PyProof.Rows PyProof.V PySem.Spec _2
variable{A:i5}{prog:fx}{w:g3}
theorem eQ:Wd W5 "list.__getattribute__"=ap Builtin.«object.__getattribute__»:=WB (id':="object.__getattribute__") (by kernel_rfl) (by decide +kernel) (by decide +kernel) (by kernel_rfl)
theorem iw:Pv (.type "list") "__getattr__"=pure none:=by rw[py];rw[j0];kernel_rfl
theorem rW:Pv (.type "list") "keys"=pure none:=by rw[py];rw[j0];kernel_rfl
abbrev EU(h:hG)(a:eg)(Xh:Xs)(n:Nat):Prop:=h.get? a=ap { cls:=.type "list",dict:=cm,data:=.seq Xh n,slots:=#[] }
theorem ke(a:eg)(Xh:Xs)(n:Nat)(name:Str)(u:Tok)(e:Pv (.type "list") name=pure cm)(b:(["__module__","__name__","__qualname__","__doc__","__annotations__"]:Xk).contains name=eC)(hsz:name.length+100<=sizeLine):
  WH (Builtin.«object.__getattribute__» ⟨[.ref a,.str name u],[]⟩) (λA R s=>EU s.heap a Xh n/\raisesAttr (.ref a) name A R s):=
 Meets.of_wp λprog w A R s c=>by
  obtain⟨h,g,d,i,f⟩:=s;obtain⟨j,c⟩:=c;have m:(⟨h,g,d,i,f⟩:el).TypeIs (.ref a) "list":=⟨_,j,rfl⟩;unfold Builtin.«object.__getattribute__»
  repeat (any_goals (first|assumption|wp_step))
  simp only[b,ON,if_false]
  repeat (any_goals (first|assumption|wp_step))
  exact W3 c.1 c.2 (attrMsg_fits (by decide +kernel) hsz)
section
variable{E:Xp}{s:el}
theorem nY{a:eg}{Xh:Xs}{n:Nat}{Q:Option ay->el->Prop}(m:EU s.heap a Xh n)(v:A.handled=cm)(h:∀h' j,(∀b o,s.heap.get? b=ap o->h'.get? b=ap o)->Q cm { s with heap:=h',toks:=j }):eH (ff prog w) A (W9 (.ref a) "keys") Q E s:=by
 obtain⟨u,g,d,j,p⟩:=s;have i:∀f,(⟨u,g,d,f,p⟩:el).TypeIs (.ref a) "list":=λ_=>⟨_,m,rfl⟩;have q:=sub_AttributeError;have x:=Rc.lookup;have B:=Rc.bind (.ref a);have C:=iw;unfold W9 getAttrBy? getAttrBy
 repeat (any_goals (first|assumption|exact i _|((with_reducible show eH _ _ (call (TQ "list.__getattribute__") _ _) _ _ _);refine vr Rc (i _) eQ (PySem.F.args_list_getattribute_2 _ _) (ke a Xh n "keys" _ rW (by decide +kernel)<|by decide +kernel) ⟨m,v,λh' f e c=>?_⟩)|wp_step))
 obtain⟨z,G,y⟩:=c.there;show eH _ _ (VW _ _ _ _ _ _ _) _ _ _;unfold VW
 repeat (any_goals (first|assumption|wp_step))
 exact h _ _ c.keeps
end
def DJ(h:hG)(T:eg)(k v:ay):Prop:=∃o n,h.get? T=ap o/\o.cls=.type "tuple"/\o.data=.seq #[k,v] n
theorem zO{R:WG->el->Prop}{l it d:eg}{ps:List (ay×ay)}{Ts:Xm}(hh:A.handled=cm)(P:Nat->hG->Prop)(stay:∀i h h',P i h->(∀b o,b≠it->h.get? b=ap o->h'.get? b=ap o)->P i h')(step:∀(i:Nat)(hi:i<ps.length)(s:el)(Q:Unit->el->Prop)(E:Xp),P i s.heap->(∀h' v,P (i+1) h'->Qy d s.heap h'->Q () { s with heap:=h',toks:=v })->eH (ff prog w) A.in1 (dictSet d ps[i].1 ps[i].2) Q E s)(hl:Ts.length=ps.length)(n1:l≠it)(n2:d≠it)(n3:l≠d)(nT:∀T∈Ts,T≠it/\T≠d):
  ∀(n i:Nat)(s:el),n=ps.length-i->i<=ps.length->s.heap.IsListIter it l i->s.heap.IsList l (Ts.map OY).toArray->(∀(i:Nat)(K:i<Ts.length)(h2:i<ps.length),DJ s.heap Ts[i] ps[i].1 ps[i].2)->P i s.heap->
   (∀g:el,g.os=s.os->g.gens=s.gens->g.drawn=s.drawn->P ps.length g.heap->(∀c o,c≠it->c≠d->s.heap.get? c=ap o->g.heap.get? c=ap o)->R (.ok<|.ret .none) g)->
   ∀v:Nat,Sc (ff prog w) A (.builtin "dict.update.loop" ⟨[.ref d,.ref it,x9 v,.none],[]⟩) R s:=by
 intro n
 induction n with
 |zero=>
  intro i s hn hi p a _ Z hR v;have W:i=ps.length:=by lia
  refine T0 bw ?_;rw[QJ aR _];show eH _ A.in1 (P3 (.ref it) >>= _) _ _ s;refine ax (W1 (A:=A.in1) hh p a (by simp;lia) λh' G=>?_)
  refine ax (m:=SQ d []) (eX<|wpAny_pure (hR _ rfl rfl rfl ?_ λc o H N e=>G c o H e));rw[<- W];exact stay i _ _ Z λb o y e=>G b o y e
 |succ n ih=>
  intro i s hn hi p a z Z hR v;have u:i<ps.length:=by lia
  have q:i<Ts.length:=by lia
  refine T0 bw ?_;rw[QJ aR _];show eH _ A.in1 (P3 (.ref it) >>= _) _ _ s;refine ax (WS (x:=.ref Ts[i]) p a (by simp[q]) λh' C sb=>?_)
  obtain⟨Y,nTd⟩:=nT Ts[i] (Qs q);have J:∀b o,b≠it->s.heap.get? b=ap o->h'.get? b=ap o:=λb o y e=>sb.extBut b o y e;obtain⟨oT,m,e1,e2,e3⟩:=z i q u;have F:=J _ _ Y e1;have I:({ s with heap:=h' }:el).TypeIs (.ref Ts[i]) "tuple":=⟨_,F,e2⟩;refine ax (om<|wpAny_bind<|wpAny_tryCatch ?_);unfold RL;refine ax (SC I ?_);rw[if_pos (by decide)]
  refine ax (pt (s:={ s with heap:=h' }) F e3<|wpAny_pure ?_);show eH _ _ (vb [ps[i].1,ps[i].2]<|dictSet d ps[i].1 ps[i].2) _ _ _;refine om (step i u { s with heap:=h' } _ _ (stay i _ _ Z J) λB U L f=>?_);have X:∀b o,b≠it->b≠d->s.heap.get? b=ap o->B.get? b=ap o:=λb o y hd e=>f.extBut b o hd (J b o y e);refine eX ⟨V2 aR _,?_⟩;refine ih (i+1) { s with heap:=B,toks:=U } (by lia) u (C.at λo e=>f.extBut _ o n2.symm e) ?_ (λj K h2=>?_) L (λg O S q3 q4 q5=>hR g O S q3 q4 λc o H N e=>q5 c o H N (X c o H N e)) (v+1)
  .obtain⟨o,M,z2⟩:=a
   exact⟨o,X _ _ n1 n3 M,z2⟩
  .obtain⟨o,m,M,z2⟩:=z j K h2
   obtain⟨O,S⟩:=nT Ts[j] (Qs K);exact⟨o,m,X _ _ O S M,z2⟩
theorem zZ{E:Xp}{s:el}{l:eg}{m:Nat}{ps:List (ay×ay)}{Ts:Xm}{Q:Xp}(I:A.handled=cm)(P:Nat->hG->Prop)(Y:∀h',(∀b o,s.heap.get? b=ap o->h'.get? b=ap o)->h'.get? s.heap.objs.size=ap { cls:=.type "dict",data:=.dict #[] }->P 0 h')(stay:∀i h h',P i h->(∀b o,b<=s.heap.objs.size->h.get? b=ap o->h'.get? b=ap o)->P i h')(step:∀(i:Nat)(G:i<ps.length)(f:el)(Q:Unit->el->Prop)(E:Xp),P i f.heap->(∀h' tk,P (i+1) h'->Qy s.heap.objs.size f.heap h'->Q () { f with heap:=h',toks:=tk })->eH (ff prog w) A.in1.in1 (dictSet s.heap.objs.size ps[i].1 ps[i].2) Q E f)(hl:Ts.length=ps.length)(hls:EU s.heap l (Ts.map OY).toArray m)(hpr:∀(i:Nat)(C:i<Ts.length)(H:i<ps.length),DJ s.heap Ts[i] ps[i].1 ps[i].2)(h:∀f:el,f.os=s.os->f.gens=s.gens->f.drawn=s.drawn->P ps.length f.heap->(∀c o,s.heap.get? c=ap o->f.heap.get? c=ap o)->Q (.ref s.heap.objs.size) f):
  eH (ff prog w) A (call (.type "dict") [.ref l]) Q E s:=by
 refine callType_codes (Q₁:=λobj q=>obj=.ref s.heap.objs.size/\q={ s with heap:=s.heap.push { cls:=.type "dict",data:=.dict #[] } }) _2.F.called_dict (_2.F.typeCall_dict_1 _) UM (h7 _ ⟨rfl,rfl⟩) ?_
 rintro obj q ⟨rfl,rfl⟩
 have B:∀c o,s.heap.get? c=ap o->(s.heap.push { cls:=.type "dict",data:=.dict #[] }).get? c=ap o:=λc o e=>Ow _ e;have lt:∀{c o},s.heap.get? c=ap o->c<s.heap.objs.size:=λe=>OD e;have p:(s.heap.push { cls:=.type "dict",data:=.dict #[] }).get? s.heap.objs.size=ap { cls:=.type "dict",data:=.dict #[] }:=OI _ rfl;have x:({ s with heap:=s.heap.push { cls:=.type "dict",data:=.dict #[] } }:el).TypeIs (.ref s.heap.objs.size) "dict":=⟨_,p,rfl⟩;refine⟨x,UH _ _,?_⟩;unfold Builtin.«dict.__init__» SO;refine ax (ax<|wpAny_notOrdered_dict x<|wpAny_pure ?_);show eH _ _ (QN "dict.__init__" s.heap.objs.size (.ref l) [] .none) _ _ _;unfold QN;refine ax (SC (T:="list") ⟨_,B _ _ hls,rfl⟩ ?_);rw[if_pos (by decide)]
 refine ax (nY (s:={ s with heap:=s.heap.push { cls:=.type "dict",data:=.dict #[] } }) (B _ _ hls) I λa v g=>?_);rw[if_pos (show (none:Option ay).isNone=true from rfl)];have up1:∀c o,s.heap.get? c=ap o->a.get? c=ap o:=λc o e=>g c o (B c o e);have z:a.IsList l (Ts.map OY).toArray:=⟨_,up1 _ _ hls,rfl,m,rfl⟩;refine ax (Ps<|wpAny_bind<|wpAny_pyIter_list (s:={ s with heap:=a,toks:=v }) z<|wpAny_pure ⟨V2 aR _,?_⟩);have y:=g _ _ p;have u:s.heap.objs.size<a.objs.size:=OD y;have up2:∀c o,a.get? c=ap o->(a.push { cls:=.type "list_iterator",data:=.fields #[.ref l,.int 0 0] }).get? c=ap o:=λc o e=>Ow _ e;have j:∀{c o},s.heap.get? c=ap o->c≠a.objs.size/\c≠s.heap.objs.size:=λ{c o} e=>⟨OP (S3 (lt e) u),OP<|lt e⟩;refine zO (A:=A.in1) (l:=l) (it:=a.objs.size) (d:=s.heap.objs.size) (ps:=ps) (Ts:=Ts) I P (λi h h' L R=>stay i h h' L λb o N e=>R b o (OP<|RS N u) e) step hl (j hls).1 (OP u) (j hls).2 (λT J=>?_) ps.length 0 { s with heap:=a.push { cls:=.type "list_iterator",data:=.fields #[.ref l,.int 0 0] },toks:=v } (by simp) (Qc _) ⟨_,OI _ rfl,rfl,rfl⟩ ?_ (λi C H=>?_) (Y _ (λb o e=>up2 b o (up1 b o e))<|up2 _ _ y) (λf K S W U X=>?_) 0
 .obtain⟨i,G,rfl⟩:=List.mem_iff_getElem.mp J
  obtain⟨o,n,e,_⟩:=hpr i G (by lia)
  exact j e
 .obtain⟨o,O,M⟩:=z
  exact⟨o,up2 _ _ O,M⟩
 .obtain⟨o,n,e,r⟩:=hpr i C H
  exact⟨o,n,up2 _ _ (up1 _ _ e),r⟩
 .exact⟨rfl,h f K S W U λc o e=>X c o (j e).1 (j e).2 (up2 _ _<|up1 _ _ e)⟩
end _S
namespace _2
open PySem PySem.Spec PyProof.Rows _S
inductive PrK(H:Hp):List V->List (aG×V)->Prop
 |nil:PrK H [] []
 |cons {T:eg} {k:aG} {x:V} {vs:List V} {Xd:List (aG×V)} (hT:H T=ap (.tup [kV k,x])) (r:PrK H vs Xd):PrK H (.ref T::vs) ((k,x)::Xd)
section
variable {X:Cx}{Xb:Xq}{Z:St}{H:Hp}{s:el}
theorem Inv.pair{T:eg}{y x:V}(I:Inv X Xb Z H s)(h:H T=ap (.tup [y,x])):∃k v,RelV y k/\RelV x v/\DJ s.heap T k v:=by
 obtain⟨_,f,r,o,e,⟨c,n,d⟩,_⟩:=(show ObjOk X.prog X.w H s.heap T (.tup [y,x]) from I.hok T _ h);obtain⟨k,v,rfl,a,b⟩:=r.two;exact⟨k,v,a,b,o,n,e,c,d⟩
theorem Inv.prK(I:Inv X Xb Z H s):∀{vs:List V}{Xd:List (aG×V)},PrK H vs Xd->∃(Ts:Xm)(rs:List (aG×ay×ay)),vs=Ts.map V.ref/\KV Xd (rs.map λr=>(r.1,r.2.2))/\Ts.length=rs.length/\(∀r∈rs,(aV X.prog X.w).is r.1 r.2.1=true)/\∀(i:Nat)(a:i<Ts.length)(b:i<rs.length),DJ s.heap Ts[i] rs[i].2.1 rs[i].2.2
 |_,_,.nil=>⟨[],[],rfl,.nil,rfl,by simp,λi h=>absurd h (RE _)⟩
 |_,_,.cons (T:=T) (k:=k) hT r=>by
  obtain⟨Ts,rs,rfl,q,j,f,m⟩:=I.prK r;obtain⟨g,v,c,e,p⟩:=I.pair hT;refine⟨T::Ts,(k,g,v)::rs,rfl,.cons ⟨rfl,e⟩ q,by simp[j],λr hr=>?_,λi a b=>?_⟩
  .rcases OQ.mp hr with rfl|hr
   .exact je c
   .exact f r hr
  .cases i with
   |zero=>exact p
   |succ i=>exact m i (by simpa using a) (by simpa using b)
theorem vL{xs:List (aG×ay)}{k:aG}{u:ay}:(Q7 xs k u).length<=xs.length+1:=by
 unfold Q7
 split
 .rw[Ox];lia
 .simp
theorem jE:∀(rs xs:List (aG×ay)),(rs.foldl (λa r=>Q7 a r.1 r.2) xs).length<=xs.length+rs.length
 |[],xs=>by simp
 |r::rs,xs=>by
  have:=jE rs (Q7 xs r.1 r.2);have:=vL (xs:=xs) (k:=r.1) (u:=r.2);rw[PF,OE];lia
theorem yZ:∀{Xd:List (aG×V)}{rs:List (aG×ay)},KV Xd rs->∀{a:List (aG×V)}{xs:List (aG×ay)},KV a xs->KV (Xd.foldl (λa p=>cN a p.1 p.2) a) (rs.foldl (λa r=>Q7 a r.1 r.2) xs)
 |_,_,.nil,a,xs,h=>h
 |_,_,.cons (a:=p) (b:=q) h t,a,xs,h0=>by
  rw[PF,PF];refine yZ t ?_;rw[<- h.1];exact h0.put p.1 h.2
theorem Inv.ls{l:eg}{vs:List V}(I:Inv X Xb Z H s)(e:Rd H l (.lst vs)):∃Xh n,Vals vs Xh/\EU s.heap l Xh.toArray n:=by
 obtain⟨_,Xh,n,r,q⟩:=(show ObjOk X.prog X.w H s.heap l (.lst vs) from e.ok I.hok);exact⟨Xh,n,r,q⟩
theorem oK:∀{Ts:Xm}{Xh:Xl},Vals (Ts.map V.ref) Xh->Xh=Ts.map OY
 |[],_,h=>by cases h;rfl
 |T::Ts,_,h=>by
  cases h with
  |cons r t=>
   have a:_=OY T:=r;rw[a,oK t];rfl
theorem wb(hc:X.calm=true):bN X (.type "dict") (λxs H Q=>∃l vs Xd,xs=[.ref l]/\Rd H l (.lst vs)/\PrK H vs Xd/\Xd.length<=1000000/\∀p,H p=cm->Q (.ref p) (upd H p<|.dK<|Xd.foldl (λa p=>cN a p.1 p.2) [])):=by
 intro Xb s Z H xs us Q I r h;obtain⟨l,vs,Xd,rfl,U,pr,hz,q⟩:=h;obtain⟨u,rfl,ru⟩:=r.one;cases ru;obtain⟨Ts,b,rfl,L,m,c,A⟩:=I.prK pr;obtain⟨Y,n,rv,E⟩:=I.ls U;have:=oK rv;subst this;have W:b.length<=1000000:=by have:=Qa L;rw[Ox]at this;lia
 refine zZ (ps:=b.map λr=>(r.2.1,r.2.2)) (Ts:=Ts) (I.ok.hd hc) (λi h=>h.DictOf (aV X.prog X.w) s.heap.objs.size (((b.take i).map λr=>(r.1,r.2.2)).foldl (λa r=>Q7 a r.1 r.2) [])) ?_ ?_ ?_ (by simp[m]) E (λi T G=>?_) ?_
 .intro B K hd
  obtain⟨o,C,z,v,r⟩:=Us (knd:=aV X.prog X.w) s.heap;rw[OI _ rfl]at v;cases v;exact⟨_,C,z,hd,r⟩
 .rintro i h B ⟨o,C,z,v,r⟩ J
  exact⟨o,C,z,J _ o (OB _) v,r⟩
 .rintro i hi M Q' E' hd S
  have f:i<b.length:=by simpa using hi
  simp only[Tc];have e:(((b.take i).map λr=>(r.1,r.2.2)).foldl (λa r=>Q7 a r.1 r.2) ([]:List (aG×ay))).length<=sizeLine:=by
   have:=jE ((b.take i).map λr=>(r.1,r.2.2)) [];have G:(1000000:Nat)<=sizeLine:=by decide
   simp only[Pn,Ox,Sa]at this;lia
  refine Wh (knd:=aV X.prog X.w) (k:=b[i].1) (c b[i] (Qs f)) hd (λB F R=>S B _ ?_ R) e;rw[SS f,Q0,List.foldl_append];exact F
 .have x:i<b.length:=by simpa using G
  simp only[Tc];exact A i T x
 .rintro M o1 o2 O hd K
  simp only[Ox,List.take_length]at hd;have g:=I.big;have hn:H s.heap.objs.size=none:=I.hok.fresh (OB _);obtain⟨N,P,d',t',y⟩:=M;obtain rfl:y=s.os:=o1;obtain rfl:P=s.gens:=o2;obtain rfl:d'=s.drawn:=O;have j:=yZ L (a:=[]) (xs:=[]) .nil;refine⟨.ref s.heap.objs.size,_,I.laid (a:=s.heap.objs.size) (o:=.dK (Xd.foldl (λa p=>cN a p.1 p.2) [])) (t':=t') K (OB _) (mz ?_ (beq_eq_false_iff_ne.mpr<|Qk g) j hd),rfl,q _ hn⟩;rw[Qa j];have:=jE (b.map λr=>(r.1,r.2.2)) [];have G:(1000000:Nat)<=sizeLine:=by decide
  simp only[Pn,Ox]at this;lia
end
end _2
namespace _3
open PySem _2 _S
section
variable {X:Cx}{B:Bd}{K:OA}{H:Hp}
def ui:List D->Option (List (aG×D))
 |[]=>ap []
 |.tup [k,v]::ds=>match cL k,ui ds with
  |some ks,ap r=>ap ((ks,v)::r)
  |_,_=>cm
 |_=>cm
theorem BR:∀{ds:List D}{vs:List V}{Xd:List (aG×D)},Rps K H ds vs->ui ds=ap Xd->∃f,PrK H vs f/\Rkv K H Xd f
 |[],vs,Xd,r,e=>by cases e;cases r;exact⟨[],.nil,.nil⟩
 |d::ds,vs,Xd,r,e=>by
  obtain⟨v,C,rfl,a,b⟩:=r;unfold ui at e
  split at e
  .rename_i h;cases h
  .rename_i k x p h
   cases h
   split at e
   .rename_i y q n u
    cases e;obtain⟨f,o,z⟩:=BR b u;obtain⟨T,E,rfl,s,w⟩:=a;obtain⟨F,A,rfl,g,c⟩:=w;obtain⟨m,j,rfl,c,i⟩:=c;cases i;have:=gD g n;subst this;exact⟨(y,m)::f,.cons s o,.cons ⟨rfl,c⟩ z⟩
   .cases e
  .cases e
theorem t_{c:Type}[DecidableEq c]:∀{a:List (c×D)}{b:List (c×V)},Rkv K H a b->∀{a0:List (c×D)}{b0:List (c×V)},Rkv K H a0 b0->Rkv K H (a.foldl (λx p=>eK x p.1 p.2) a0) (b.foldl (λx p=>cN x p.1 p.2) b0)
 |_,_,.nil,a0,b0,h=>h
 |_,_,.cons (a:=p) (b:=q) h t,a0,b0,h0=>by
  rw[PF,PF];refine t_ t ?_;rw[<- h.1];exact h0.put p.1 h.2
theorem Ed{M:Mem}{d:D}{v:V}{xs:List D}(f:RepH K H M)(r:Rp K H d v)(e:gW M d=ap xs)(g:∀ys,d≠.ml ys):∃l vs,v=.ref l/\Rd H l (.lst vs)/\Rps K H xs vs:=by
 cases d with
 |lst ys=>
  cases e;obtain⟨p,vs,rfl,⟨o,h⟩,r⟩:=r;exact⟨p,vs,rfl,.inr ⟨o,h⟩,r⟩
 |ml ys=>exact absurd rfl (g ys)
 |ref a=>
  simp only[gW]at e
  split at e
  .rename_i ys q
   cases e;cases r;obtain⟨vs,b,c⟩:=f _ _ q;exact⟨a,vs,rfl,.inl b,c⟩
  .cases e
 |_=>cases e
def Ct:D->Bool
 |.ml _=>eC
 |_=>true
theorem FY{d:D}(h:Ct d=true):∀ys,d≠.ml ys:=λys e=>by subst e;cases h
def fS:qv:=λb M Q=>match b with
 |[d]=>Ct d=true/\match gW M d with
  |some xs=>match ui xs with
   |some Xd=>Xd.length<=1000000/\∀p,M p=cm->Q (.ref p) (M.upd p<|.dK<|Xd.foldl (λa p=>eK a p.1 p.2) [])
   |none=>False
  |none=>False
 |_=>False
theorem uF(hc:X.calm=true):bN X (.type "dict") (liftC X fS):=by
 intro Xb s Z H xs us Q I r h;obtain⟨ds,M,QQ,rh,rp,h,up⟩:=h;unfold fS at h
 split at h
 .obtain⟨v,rfl,rv⟩:=gR (ds:=[]) rp
  obtain⟨hm,h⟩:=h
  split at h
  .rename_i ys e
   split at h
   .rename_i Xd e2
    obtain⟨l,vs,rfl,hq,rr⟩:=Ed rh rv e (FY hm);obtain⟨ws,h1,h2⟩:=BR rr e2;refine wb hc Xb s Z H _ us Q I r ⟨l,vs,ws,rfl,hq,h1,by rw[<- h2.length];exact h.1,λp hp=>?_⟩
    exact up _ _ (h.2 p<|rh.fresh hp) _ _ (rh.put (by rw[hp];trivial) ⟨_,upd_same,(t_ h2 .nil).mono<|Imm.new hp⟩) (Frm.put<|.inl hp) rfl
   .exact h.elim
  .exact h.elim
 .exact h.elim
end
end _3
namespace _S
open PySem PySem.W PySem.Calls PyProof.Rows PyProof.V PySem.Spec _2
end _S
namespace _3
open PySem _2 _S
section
variable {X:Cx}{B:Bd}
end
end _3
namespace _3
open PySem PySem.W PySem.Calls PyProof.Rows PyProof.V PySem.Spec _2
section
variable {X:Cx}{B:Bd}{Xb:Xq}{Z:_2.St}{H:Hp}{s:el}{M:Mem}
end
end _3
namespace _3
open PySem _2 _S
section
variable {X:Cx}{B:Bd}
end
end _3
namespace _2
open PySem PySem.Spec PyProof.Rows
section
variable {X:Cx}{e:fy}{te:TE}{st:fy}{ts:TO}{p2 pos:Pos}
end
end _2
namespace _3
open PySem _2
section
variable {X:Cx}{B:Bd}{K:OA}{H:Hp}{M:Mem}{e:fy}{te:bp}{st:fy}{ts:HE}{pos p2:Pos}
end
end _3
namespace _2
open PySem PySem.Spec PyProof.Rows
section
variable {prog:fx}{w:g3}{A:i5}{E:Xp}{s:el}
end
section
variable {prog:fx}{w:g3}{A:i5}{E:Xp}{s:el}
end
section
variable {X:Cx}
end
end _2
namespace _3
open PySem _2
section
variable {X:Cx}{B:Bd}{K:OA}{H:Hp}
end
end _3
namespace _S
open PySem PySem.W PyProof.Rows
variable{s:el}
section
variable{n:Nat}{ky:Nat->Nat}{cmp:Nat->Nat->(Bool->el->Prop)->el->Prop}{p:Array Nat}
end
section
variable{prog:fx}{w:g3}{A:i5}{b:Bool}{Q:Bool->el->Prop}
end
section
variable{prog:fx}{w:g3}{A:i5}{E:Xp}
end
end _S
namespace _3
open PySem _2 _S
section
variable {X:Cx}{B:Bd}
end
end _3
namespace HT
open PySem PyProof.Rows
section
variable {prog:fx}{w:g3}{A:i5}{E:Xp}{s:el}
end
end HT
namespace _2
open PySem PySem.Spec PyProof.Rows
section
variable {X:Cx}{e:fy}{te:TE}{st:fy}{ts:TO}{p2 pos:Pos}
end
end _2
namespace _3
open PySem _2
variable{B:Bd}{X:Cx}{e:fy}{pos:Pos}{x:Str}{te:bp}
section
variable{st:fy}{ts:HE}{p2:Pos}
end
structure GF(K:OA)(mg:Xr)(x:Str)(st:tm)(f:eg)(fd:g4)(ps:Xk):Prop where
 F:Fun K x x st f fd
 b:Binds K fd ps []
 k:P8 K (.ref f)=true
 m:mg x=ap (.ref f)
structure GA(K:OA)(mg:Xr)(x y:Str)(st:tm)(f:eg)(fd:g4)(ps:Xk):Prop where
 F:Fun K y y st f fd
 b:Binds K fd ps []
 k:P8 K (.ref f)=true
 m:mg x=ap (.ref f)
structure FunV(K:OA)(x Xc:Str)(st:tm)(f:eg)(fd:g4):Prop where
 ex:∃(oc:ay)(od:Option eg)(kV doc pm:ay)(an:Option eg)(cdv ct:ay)(osl:Array (Option ay))(T:eg),
  fd=Rt x Xc (cb st) (bv st) (aQ st) (.ref T) kV doc pm an cdv ct/\K.lookup f=ap ⟨oc,od,.func fd,osl⟩/\Td K cdv Xc=true
 kp:P8 K (.ref f)=true
structure GV(K:OA)(mg:Xr)(x:Str)(st:tm)(f:eg)(fd:g4)(ps:Xk)(dv:Int):Prop where
 F:FunV K x x st f fd
 b:Binds K fd ps []
 d:∃t,Binds K fd ps [.int dv t]
 k:P8 K (.ref f)=true
 m:mg x=ap (.ref f)
inductive GC(K:OA)(mg:Xr)(x:Str)(st:tm)(f:eg)(fd:g4)(ps:Xk):Prop
 |g (h:GF K mg x st f fd ps):GC K mg x st f fd ps
 |a {y:Str} (h:GA K mg x y st f fd ps):GC K mg x st f fd ps
 |v {dv:Int} (h:GV K mg x st f fd ps dv):GC K mg x st f fd ps
structure GM(K:OA)(C:eg)(x Xc:Str)(st:tm)(f:eg)(fd:g4)(ps:Xk):Prop where
 F:Fun K x Xc st f fd
 b:Binds K fd ps []
 m:Meth K C x f
structure GI(K:OA)(C:eg)(x Xc:Str)(st:tm)(f:eg)(fd:g4)(ps:Xk):Prop where
 F:Fun K x Xc st f fd
 b:Binds K fd ps []
 m:Mk K C f
section
variable{CX:oA}{k n:Nat}{f C:eg}{fd:g4}{N ps:Xk}{T:Sd}{EE:DX}{E:XK}{Xc:Str}{st:tm}{p Xg:Pos}{o:fy}{es:Xn}{ta:bp}{t:fj}
theorem Dj(h:GC X.K X.mg x st f fd ps)(F:FnOk X.prog X.w X.K X.mg X.base CX k f fd ps (bK X.K n T))(u:Room k X.A)(q:Gl X x)(s:bT CX X E)(ux:uR X.K B EE E)(y:DA X B (e::es) t)(c:(x==("__debug__":Str))=eC)(j:fe (e::es) X.env=(eC,gp e X.env)::fe es X.env)(i:(hI pos<|starEach es X.env).any (·.1)=eC):
  DE X B (.Call (.Name x p) (e::es) [] pos) (aj T EE n t):=by
 cases h with
 |g h=>exact qR F u q h.m h.k h.b s ux y c j i
 |a h=>exact qR F u q h.m h.k h.b s ux y c j i
 |v h=>exact qR F u q h.m h.k h.b s ux y c j i
def I_(X:Cx)(B:Bd)(x:Str)(T:Sd)(EE:DX)(n:Nat):Prop:=∃(st:tm)(f:eg)(fd:g4)(ps:Xk)(k:Nat)(CX:oA)(E:XK),GC X.K X.mg x st f fd ps/\FnOk X.prog X.w X.K X.mg X.base CX k f fd ps (bK X.K n T)/\Room k X.A/\bT CX X E/\uR X.K B EE E
theorem CV(h:I_ X B x T EE n)(j:Gl X x)(m:DA X B (e::es) t)(a:(x==("__debug__":Str))=eC)(i:fe (e::es) X.env=(eC,gp e X.env)::fe es X.env)(b:(hI pos<|starEach es X.env).any (·.1)=eC):
  DE X B (.Call (.Name x p) (e::es) [] pos) (aj T EE n t):=by
 obtain⟨_,_,_,_,_,_,_,h,F,c,g,ux⟩:=h;exact Dj h F c j g ux m a i b
theorem Ar(h:GI X.K C Xc x st f fd ps)(F:FnOk X.prog X.w X.K X.mg X.base CX k f fd ps (bK X.K n T))(s:Room (k+1) X.A){y:Str}(i:Gl X y)(q:X.mg y=ap (.ref C))(j:bT CX X E)(ux:uR X.K B EE E)(u:DA X B (e::es) t)(a:(y==("__debug__":Str))=eC)(g:fe (e::es) X.env=(eC,gp e X.env)::fe es X.env)(c:(hI pos<|starEach es X.env).any (·.1)=eC):
  DE X B (.Call (.Name y p) (e::es) [] pos) (fY C T EE n t):=G8 h.m F s i q h.b j ux u a g c
theorem CH{m:Str}{pl:Sem Bool}(i:DE X B o ta)(c:Cls X.K C)(h:GM X.K C m Xc st f fd ps)(F:FnOk X.prog X.w X.K X.mg X.base CX k f fd ps (bK X.K n T))(q:Room k X.A)(j:bT CX X E)(ux:uR X.K B EE E)(s:DA X B (e::es) t)(g:fe (e::es) X.env=(eC,gp e X.env)::fe es X.env)(a:(hI pos<|starEach es X.env).any (·.1)=eC)(u:gp (.Call (.Attribute o m Xg) (e::es) [] pos) X.env=(do
   let ov <- gp o X.env
   VX Xg.atName
   let (f,first) <- vb [ov] (UF ov m pl)
   Wq pos f first (hI pos<|starEach (e::es) X.env) (z5 pos<|keywordEach [] X.env))):
  DE X B (.Call (.Attribute o m Xg) (e::es) [] pos) (cV C m T EE n ta t):=E1 i c h.m F q h.b j ux s g a u
theorem zL{m:Str}{pl:Sem Bool}(i:DE X B o ta)(c:Cls X.K C)(h:GM X.K C m Xc st f fd ps)(F:FnOk X.prog X.w X.K X.mg X.base CX k f fd ps (bK X.K n T))(g:Room k X.A)(j:bT CX X E)(ux:uR X.K B EE E)(a:gp (.Call (.Attribute o m Xg) [] [] pos) X.env=(do
   let ov <- gp o X.env
   VX Xg.atName
   let (f,first) <- vb [ov] (UF ov m pl)
   Wq pos f first (hI pos<|starEach [] X.env) (z5 pos<|keywordEach [] X.env))):
  DE X B (.Call (.Attribute o m Xg) [] [] pos) (cV C m T EE n ta af):=D5 i c h.m F g h.b j ux a
inductive FC(X:Cx)(scope:Pi):List Str->List Nat->List (Str×eg)->Prop
 |nil:FC X scope [] [] []
 |cons {x:Str} {j:Nat} {c:eg} {fs:Xk} {js:List Nat} {cl:List (Str×eg)}:X.N[j]?=ap x->X.env.cells.lookup x=ap c->(X.env.kindOf x=ap .cell\/X.env.kindOf x=ap .free)->
   ((SL scope X.env).names.lookup x=ap .cell\/(SL scope X.env).names.lookup x=ap .free)->FC X scope fs js cl->FC X scope (x::fs) (j::js) ((x,c)::cl)
theorem FC.ok{g:Pi}{fs:Xk}{m:List Nat}{j:List (Str×eg)}(h:FC X g fs m j):Frees X g fs m/\∃i:List eg,fs.length=i.length/\j=fs.zip i/\∀p∈j,X.env.cells.lookup p.1=ap p.2:=by
 induction h with
 |nil=>exact⟨.nil,[],rfl,rfl,memZ⟩
 |cons a b c d _ ih=>
  obtain⟨q,i,s,v,u⟩:=ih;exact⟨.cons a c d q,_::i,congrArg (·+1) s,by rw[v];rfl,memC b u⟩
variable{scope:Pi}{cl:List (Str×eg)}{ls fs:Xk}{js:List Nat}{tg iter elt:fy}{ifs:Xn}{wi:zK}{g:jK}{tt:fC}{i:Nat}{px spos:Pos}
theorem nodC{a:el}{H₀:Hp}{b:Xm}{pl:Xq}(h:N.Nodup):(ba X N scope cl C a H₀ b pl).N.Nodup:=h
theorem yK(h:FC X scope fs js cl)(q:scope.kind=.function)(u:∀y∈scope.names,y.2≠.cell/\(y.2=.free->y.1∈fs))(s:∀x∈scope.names,x.2=.local->scope.names.lookup x.1=ap .local)(a:Tk scope X.env=pure cl):CompOk X scope cl ls fs js:=by
 obtain⟨b,v,c,m,j⟩:=h.ok;subst m;exact Ef q u s c a j b
theorem Ce(s:X.calm=true)(h:FC X scope fs js cl)(v:scope.kind=.function)(w:∀y∈scope.names,y.2≠.cell/\(y.2=.free->y.1∈fs))(z:∀x∈scope.names,x.2=.local->scope.names.lookup x.1=ap .local)(q:Tk scope X.env=pure cl)(F:DI X B tg iter wi)(H:∀(C:eg)(j:el)(H₀:Hp)(m:Xm)(pl:Xq),DG (ba X (ls++fs) scope cl C j H₀ m pl) rZ tg g)(A:∀(C:eg)(j:el)(H₀:Hp)(m:Xm)(pl:Xq),GH (ba X (ls++fs) scope cl C j H₀ m pl) rZ ifs tt)(u:∀(C:eg)(j:el)(H₀:Hp)(m:Xm)(pl:Xq),DE (ba X (ls++fs) scope cl C j H₀ m pl) rZ elt te)(G:∀x,ol iter X.env x=pure x):DE X B (.ListComp elt [⟨tg,iter,ifs,0⟩] scope pos) (aX wi ls js g tt te):=
 Eg s (yK h v w z q) F (λa b c d e=>⟨H a b c d e,A a b c d e,u a b c d e⟩) G
theorem Az(H:X.N.Nodup)(s:X.N[i]?=ap x)(O:Ah X.env.scope x)(A:X.calm=true)(h:FC X scope fs js cl)(G:scope.kind=.function)(P:∀y∈scope.names,y.2≠.cell/\(y.2=.free->y.1∈fs))(u:∀x∈scope.names,x.2=.local->scope.names.lookup x.1=ap .local)(q:Tk scope X.env=pure cl)(J:DI X B tg iter wi)(z:∀(C:eg)(j:el)(H₀:Hp)(m:Xm)(pl:Xq),DG (ba X (ls++fs) scope cl C j H₀ m pl) rZ tg g)(w:∀(C:eg)(j:el)(H₀:Hp)(m:Xm)(pl:Xq),GH (ba X (ls++fs) scope cl C j H₀ m pl) rZ ifs tt)(L:∀(C:eg)(j:el)(H₀:Hp)(m:Xm)(pl:Xq),DE (ba X (ls++fs) scope cl C j H₀ m pl) rZ elt te)(v:X.env.blockKind=.function)(Q:X.env.scope.names.lookup x=ap .local)(I:px.line=pos.line)(M:(scope.names.any λ(n,k)=>n==x&&(k==.local||k==.cell))=eC)(K:∀x,ol iter X.env x=pure x)(F:X.fn x=true\/X.env.scope.names.lookup x=ap .local):
  DS X B (.Assign [.Name x px] (.ListComp elt [⟨tg,iter,ifs,0⟩] scope pos) spos) (cZ i<|aX wi ls js g tt te):=
 G2 H s O A (yK h G P u q) J (λa b c d e=>⟨z a b c d e,w a b c d e,L a b c d e⟩) (EH v Q I M) K F
theorem Ey{q:Str}{u M P j:Pos}{c:tm}{a:Xo}{O:aE}(h:GF X.K X.mg x st f fd ps)(F:FnOk X.prog X.w X.K X.mg X.base (oH X.prog X.w) k f fd ps (bK X.K n T))(J:X.stack=X.env::X.outer)(y:X.env.frame=ap X.env.locals)(S:Room k X.A)(R:Gl X x)(U:DA X.nox B (e::es) t)(EX:ExcAt X.K C)(L:Gl X q)(G:X.mg q=ap (.ref C))(H:∀W:eg,yt (X.marked<|.ref W) B (c::a) O)(v:(x==("__debug__":Str))=eC)(I:(q==("__debug__":Str))=eC)(Q:fe (e::es) X.env=(eC,gp e X.env)::fe es X.env)(s:(hI u<|starEach es X.env).any (·.1)=eC)(z:wh (.Call (.Name x p) (e::es) [] u) cm M.line X.env=pure eC):
  DS X B (.Try [.Expr (.Call (.Name x p) (e::es) [] u) M] [.ExceptHandler (ap<|.Name q P) cm (c::a) j] [] [] pos) (KY C T n t O):=wa J y F S R h.m h.k h.b U EX L G H v I Q s z
end
section
variable{id T Ty:String}{p Xg Xf:Pos}{o:fy}{es:Xn}{to:bp}{t:fj}{name:Str}
theorem cP{r:qv}(c:bN X (.builtin id) (liftC X r))(f:gl x=ap (.builtin id))(h:Gl X x)(j:X.mg x=cm)(m:DA X B (e::es) t)(i:x≠"__name__")(b:(x==("__debug__":Str))=eC)(g:fe (e::es) X.env=(eC,gp e X.env)::fe es X.env)(a:(hI pos<|starEach es X.env).any (·.1)=eC):DE X B (.Call (.Name x p) (e::es) [] pos) (bz r t):=BZ c h j f m i b g a
theorem eZ{r:qv}(c:bN X (.type T) (liftC X r))(f:gl x=ap (.type T))(h:Gl X x)(j:X.mg x=cm)(m:DA X B (e::es) t)(i:x≠"__name__")(b:(x==("__debug__":Str))=eC)(g:fe (e::es) X.env=(eC,gp e X.env)::fe es X.env)(a:(hI pos<|starEach es X.env).any (·.1)=eC):DE X B (.Call (.Name x p) (e::es) [] pos) (bz r t):=zk c h j f m i b g a
theorem Iy(a:gl x=ap (.type T))(b:Gl X x)(f:X.mg x=cm)(c:x≠"__name__")(g:(x==("__debug__":Str))=eC):DE X B (.Name x pos) (dC<|.ty T):=N9 b f a c g
theorem BN{r:z6}(q:V7 Ty)(g:WK Ty name id)(h:Wm (.builtin id)=pure (.type "method_descriptor"))(n:xO X id (liftM X r))(j:Ty="list"\/Ty="str"\/Ty="int"\/Ty="dict")(i:DE X B o to)(m:DA X B (e::es) t)(b:nr o name X.env (gp o X.env)=gp o X.env)(f:((hI Xf<|starEach (e::es) X.env).all (λx=>!x.1)&&(z5 Xf<|keywordEach [] X.env).all (λx=>x.1.isSome)
   && decide ((e::es).length+([]:List z0).length+(if ([]:List z0).isEmpty then 0 else 1)<30))=true)(c:(Xg.endLine==Xf.line)=true)(s:fe (e::es) X.env=(eC,gp e X.env)::fe es X.env)(a:(hI Xf<|starEach es X.env).any (·.1)=eC):
  DE X B (.Call (.Attribute o name Xg) (e::es) [] Xf) (mM Ty r to t):=Nj j q g h n i m b f c s a
theorem yG{r:z6}(i:V7 Ty)(c:WK Ty name id)(f:Wm (.builtin id)=pure (.type "method_descriptor"))(j:xO X id (liftM X r))(h:Ty="list"\/Ty="str"\/Ty="int"\/Ty="dict")(g:DE X B o to)(a:nr o name X.env (gp o X.env)=gp o X.env)(b:(Xg.endLine==Xf.line)=true):DE X B (.Call (.Attribute o name Xg) [] [] Xf) (mM Ty r to af):=JC h i c f j g a b
theorem L7{r:z6}(g:WK "tuple" name id)(h:Wm (.builtin id)=pure (.type "method_descriptor"))(m:xO X id (liftM X r))(j:DE X B o to)(n:DA X B (e::es) t)(b:nr o name X.env (gp o X.env)=gp o X.env)(f:((hI Xf<|starEach (e::es) X.env).all (λx=>!x.1)&&(z5 Xf<|keywordEach [] X.env).all (λx=>x.1.isSome)
   && decide ((e::es).length+([]:List z0).length+(if ([]:List z0).isEmpty then 0 else 1)<30))=true)(c:(Xg.endLine==Xf.line)=true)(i:fe (e::es) X.env=(eC,gp e X.env)::fe es X.env)(a:(hI Xf<|starEach es X.env).any (·.1)=eC):
  DE X B (.Call (.Attribute o name Xg) (e::es) [] Xf) (Mq r to t):=Nl g h m j n b f c i a
theorem FK{i:Nat}{a:V4}{r:eY}{pos':Pos}(b:AI X a (liftR2 X r))(c:X.N.Nodup)(j:X.N[i]?=ap x)(h:Ah X.env.scope x)(g:DE X B e te)(f:X.fn x=true\/X.env.scope.names.lookup x=ap .local):
  DS X B (.AugAssign (.Name x pos') a e pos) (B5 i te r):=J2 c j h g b f
end
structure Nf(K:OA)(x:Str)(st:tm)(f:eg)(fd:g4):Prop where
 a:Qd K fv x=ap (ap<|.ref f)
 F:Fun K x x st f fd
structure Af(K:OA)(x y:Str)(st:tm)(f:eg)(fd:g4):Prop where
 a:Qd K fv x=ap (ap<|.ref f)
 F:Fun K y y st f fd
structure Mf(K:OA)(C:eg)(x q:Str)(st:tm)(f:eg)(fd:g4):Prop where
 a:PB K (.ref C) x=ap (ap<|.ref f)
 i:W.isFn K (.ref f)=true
 F:Fun K x q st f fd
theorem us1{α:Type}{P:List α->Prop}(h:∀a,P [a]):∀us:List α,us.length=1->P us
 |[a],_=>h a
theorem us2{α:Type}{P:List α->Prop}(h:∀b a,P [b,a]):∀us:List α,us.length=2->P us
 |[b,a],_=>h b a
theorem us3{α:Type}{P:List α->Prop}(h:∀c b a,P [c,b,a]):∀us:List α,us.length=3->P us
 |[c,b,a],_=>h c b a
theorem us4{α:Type}{P:List α->Prop}(h:∀f c a b,P [f,c,a,b]):∀us:List α,us.length=4->P us
 |[f,c,a,b],_=>h f c a b
theorem us5{α:Type}{P:List α->Prop}(h:∀g f b c a,P [g,f,b,c,a]):∀us:List α,us.length=5->P us
 |[g,f,b,c,a],_=>h g f b c a
theorem us6{α:Type}{P:List α->Prop}(h:∀i g c f a b,P [i,g,c,f,a,b]):∀us:List α,us.length=6->P us
 |[i,g,c,f,a,b],_=>h i g c f a b
abbrev Bnd(ps:Xk)(x Xc:Str)(st:tm):Prop:=∀(kV doc pm:ay)(an:Option eg)(cdv ct:ay)(us:Xl),us.length=ps.length->WD (Rt x Xc (cb st) (bv st) (aQ st) .none kV doc pm an cdv ct) ⟨us,[]⟩=pure (ps.zip us)
section
variable{P:fx}{w:g3}{K:OA}{mg:Xr}{base h:hG}{k n:Nat}{f C:eg}{fd:g4}{N ps:Xk}{S:Sd}{T:DX->aE}{Xc:Str}{st:tm}
theorem gf(X:K.In h)(G:h.Ns fv mg)(l:Nf K x st f fd)(b:Bnd ps x x st:=by intro _ _ _ _ _ _;first|exact us1 λ_=>rfl|exact us2 λ_ _=>rfl|exact us3 λ_ _ _=>rfl|exact us4 λ_ _ _ _=>rfl|exact us5 λ_ _ _ _ _=>rfl|exact us6 λ_ _ _ _ _ _=>rfl|exact us7 λ_ _ _ _ _ _ _=>rfl|exact us8 λ_ _ _ _ _ _ _ _=>rfl):GF K mg x st f fd ps:=⟨l.F,l.F.binds b,l.F.kp,RO X G l.a⟩
theorem ga{y:Str}(X:K.In h)(G:h.Ns fv mg)(l:Af K x y st f fd)(b:Bnd ps y y st:=by intro _ _ _ _ _ _;first|exact us1 λ_=>rfl|exact us2 λ_ _=>rfl|exact us3 λ_ _ _=>rfl|exact us4 λ_ _ _ _=>rfl|exact us5 λ_ _ _ _ _=>rfl|exact us6 λ_ _ _ _ _ _=>rfl|exact us7 λ_ _ _ _ _ _ _=>rfl|exact us8 λ_ _ _ _ _ _ _ _=>rfl):GA K mg x y st f fd ps:=⟨l.F,l.F.binds b,l.F.kp,RO X G l.a⟩
theorem gm(l:Mf K C x Xc st f fd)(b:Bnd ps x Xc st:=by intro _ _ _ _ _ _;first|exact us1 λ_=>rfl|exact us2 λ_ _=>rfl|exact us3 λ_ _ _=>rfl|exact us4 λ_ _ _ _=>rfl|exact us5 λ_ _ _ _ _=>rfl|exact us6 λ_ _ _ _ _ _=>rfl|exact us7 λ_ _ _ _ _ _ _=>rfl|exact us8 λ_ _ _ _ _ _ _ _=>rfl):GM K C x Xc st f fd ps:=⟨l.F,l.F.binds b,l.a,l.i,l.F.kp⟩
theorem gi(mk:Sj K C=true)(b:P8 K (.ref C)=true)(l:Mf K C "__init__" Xc st f fd)(c:Bnd ps "__init__" Xc st:=by intro _ _ _ _ _ _;first|exact us1 λ_=>rfl|exact us2 λ_ _=>rfl|exact us3 λ_ _ _=>rfl|exact us4 λ_ _ _ _=>rfl|exact us5 λ_ _ _ _ _=>rfl|exact us6 λ_ _ _ _ _ _=>rfl|exact us7 λ_ _ _ _ _ _ _=>rfl|exact us8 λ_ _ _ _ _ _ _ _=>rfl):GI K C "__init__" Xc st f fd ps:=⟨l.F,l.F.binds c,mk,l.a,l.i,b⟩
abbrev ck(P:fx)(w:g3)(mg:Xr)(base:hG)(_:Fun K x Xc st f fd)(_:Binds K fd ps [])(k:Nat)(S:Sd):Prop:=FnOk P w K mg base (oH P w) k f fd ps (bK K ps.length S)
theorem fnS(j:S=aI N T)(F:Fun K x Xc st f fd)(b:Binds K fd ps [])(g:FnScope N ps (aQ st))(i:FnScope N ps (aQ st)->∀(c:ay)(A:i5)(a:List Env)(s:el)(H:Hp)(E:XK)(B:Bd)(EE:DX),Room k (A.deeper<|Rf Xc (aQ st) s.heap.objs.size f c)->uR K B EE E->
   yt (dM (oH P w) P w K mg base N Xc (aQ st) f c A a s H E) B (bv st) (T EE)):ck P w mg base F b (k+1) S:=by
 subst j;exact fnD F g (i g)
end
end _3
namespace _S
open PySem PySem.W PySem.Calls PyProof.Rows PyProof.V PySem.Spec
section
variable {prog:fx}{w:g3}{A:i5}{E:Xp}{s:el}{x:Str}{t:Tok}
end
end _S
namespace _3
open PySem _2 _S
section
variable {X:Cx}{B:Bd}{pos:Pos}
end
end _3
namespace _3
open PySem _2
section
variable {X:Cx}{B:Bd}{s:el}
end
section
variable {X:Cx}{B:Bd}{x:Str}{pos p:Pos}{e:fy}{es:Xn}{t:fj}{a:eg}{tab:List (Str×D)}
end
section
variable {P:fx}{w:g3}{K:OA}{mg:Xr}{base:hG}{k:Nat}{f C:eg}{fd:g4}{N ps:Xk}{S:eg->Sd}{T:eg->DX->aE}{x Xc:Str}{st:tm}
end
end _3
namespace _3
open PySem _2 _S
section
variable {X:Cx}{B:Bd}{K:OA}{H:Hp}
def LB(M:Mem):D->Bool
 |.ref a=>match M a with
  |some (.dK _)=>true
  |_=>eC
 |_=>eC
def C7(td ty:bp):bp:=λU M Q=>td U M λx M1=>LB M1 x=true/\ty U M1 λy M2=>match x with
 |.ref a=>match M2 a,cL y with
  |some (.dK Xd),ap k=>match cT Xd k with
   |some v=>Q v (M2.upd a<|.dK<|oW Xd k)
   |none=>False
  |_,_=>False
 |_=>False
def Dn(td ty tx:bp):bp:=λU M Q=>td U M λx M1=>LB M1 x=true/\ty U M1 λy M2=>tx U M2 λz M3=>match x with
 |.ref a=>match M3 a,cL y with
  |some (.dK Xd),ap k=>match cT Xd k with
   |some v=>Q v (M3.upd a<|.dK<|oW Xd k)
   |none=>Q z M3
  |_,_=>False
 |_=>False
theorem Dp{M:Mem}{x:D}{v:V}(f:RepH K H M)(r:Rp K H x v)(e:LB M x=true):∃a,x=.ref a/\v=.ref a/\IsD H a:=by
 cases x with
 |ref a=>
  cases r;refine⟨a,rfl,rfl,?_⟩;simp only[LB]at e
  split at e
  .rename_i q;obtain⟨b,c,_⟩:=f _ _ q;exact .inl ⟨b,.inl c⟩
  .cases e
 |_=>cases e
theorem E7{o e:fy}{to te:bp}{Xg Xf:Pos}(ho:DE X B o to)(he:DE X B e te)(m:M1 X o "pop" Xg e Xf):DE X B (.Call (.Attribute o "pop" Xg) [e] [] Xf) (C7 to te):=by
 refine aY (BA ho he m) ?_
 rintro Z H Q ⟨U,M,QQ,s,h,u⟩
 refine⟨U,M,_,s,h,λx M1 h1 v1 H1 rh1 i1 r1=>?_⟩;obtain⟨a,rfl,rfl,hd⟩:=Dp rh1 r1 h1.1;refine⟨a,rfl,hd,U,M1,_,s.go rh1 i1,h1.2,λy M2 h2 v2 H2 rh2 i2 r2=>?_⟩;dsimp only at h2
 split at h2
 .rename_i Xd k hM ek
  obtain⟨ws,g1,g2⟩:=rh2 _ _ hM;have ey:=gD r2 ek;have im:Imm H2 (upd H2 a<|.dK<|g_ ws k):=Imm.upd (by rw[g1];trivial)
  rcases g2.val k with⟨q,_⟩|⟨d,w,q,qw,rw'⟩
  .rw[q]at h2;exact h2.elim
  .rw[q]at h2
   exact⟨ws,k,w,g1,ey,qw,u _ _ h2 _ _ (rh2.put (by rw[g1];trivial) ⟨_,upd_same,(g2.drop k).mono im⟩) ((i1.trans i2).trans<|Frm.put<|.inr ⟨_,hM⟩)<|rw'.mono im⟩
 .exact h2.elim
theorem Fn{o e f:fy}{to te tf:bp}{Xg Xf:Pos}(ho:DE X B o to)(he:DE X B e te)(hf:DE X B f tf)(m:M2 X o "pop" Xg e f Xf):DE X B (.Call (.Attribute o "pop" Xg) [e,f] [] Xf) (Dn to te tf):=by
 refine aY (Dd ho he hf m) ?_
 rintro Z H Q ⟨U,M,QQ,s,h,u⟩
 refine⟨U,M,_,s,h,λx M1 h1 v1 H1 rh1 i1 r1=>?_⟩;obtain⟨a,rfl,rfl,hd⟩:=Dp rh1 r1 h1.1;refine⟨a,rfl,hd,U,M1,_,s.go rh1 i1,h1.2,λy M2 h2 v2 H2 rh2 i2 r2=>?_⟩;refine⟨U,M2,_,(s.go rh1 i1).go rh2 i2,h2,λz M3 h3 v3 H3 rh3 i3 r3=>?_⟩;dsimp only at h3;have r2':=r2.mf rh2 i3
 split at h3
 .rename_i Xd k hM ek
  obtain⟨ws,g1,g2⟩:=rh3 _ _ hM;have ey:=gD r2' ek;have im:Imm H3 (upd H3 a<|.dK<|g_ ws k):=Imm.upd (by rw[g1];trivial)
  rcases g2.val k with⟨q,qn⟩|⟨d,w,q,qw,rw'⟩
  .rw[q]at h3
   exact⟨ws,k,g1,ey,λv ev=>(by rw[qn]at ev;cases ev),λ_=>u _ _ h3 _ _ rh3 ((i1.trans i2).trans i3) r3⟩
  .rw[q]at h3
   refine⟨ws,k,g1,ey,λv ev=>?_,λev=>by rw[qw]at ev;cases ev⟩
   rw[qw]at ev;cases ev;exact u _ _ h3 _ _ (rh3.put (by rw[g1];trivial) ⟨_,upd_same,(g2.drop k).mono im⟩) (((i1.trans i2).trans i3).trans<|Frm.put<|.inr ⟨_,hM⟩) (rw'.mono im)
 .exact h3.elim
def mT:qv:=λb M Q=>match b with
 |[.ref a]=>match M a with
  |some (.dK Xd)=>∀p,M p=cm->Q (.ref p) (M.upd p<|.dK Xd)
  |_=>False
 |_=>False
theorem ut:bN X (.type "dict") (liftC X mT):=by
 intro Xb s Z H xs us Q I r h;obtain⟨ds,M,QQ,rh,rp,h,up⟩:=h;unfold mT at h
 split at h
 .rename_i a
  obtain⟨v,rfl,rv⟩:=gR (ds:=[]) rp;cases rv
  split at h
  .rename_i Xd e
   obtain⟨u,rfl,ru⟩:=r.one;cases ru;obtain⟨ws,h1,h2⟩:=rh _ _ e;refine D4 I (.inl h1) λp s' hp I'=>⟨.ref p,_,I',rfl,?_⟩;exact up _ _ (h p<|rh.fresh hp) _ _ (rh.put (by rw[hp];trivial) ⟨_,upd_same,h2.mono<|Imm.new hp⟩) (Frm.put<|.inl hp) rfl
  .exact h.elim
 .exact h.elim
end
end _3
namespace _2
open PySem PySem.W PySem.Calls PyProof.Rows PyProof.V PySem.Spec
def isO:Option aG->ay->Bool
 |some k,v=>nj k v
 |none,.none=>true
 |none,_=>eC
theorem dD{v:ay}(h:isO cm v=true):v=.none:=by cases v<;>first|rfl|cases h
section
variable {prog:fx}{w:g3}{A:i5}{E:Xp}{s:el}
theorem tH{Q:Int->el->Prop}(h:Q 4238894112 { s with toks:=s.toks+1 }):eH (ff prog w) A (pyHash .none) Q E s:=by
 have a:s.TypeIs .none "NoneType":=rfl;unfold pyHash;refine ax ?_;rw[cRoomFor,if_neg (by decide)];refine eX ?_
 refine ax (TW a QF.lookup ?_);show eH _ _ (if (ap (TQ "NoneType.__hash__")==ap Qv)=true then _ else _) Q E s
 rw[if_neg (by rw[beq_builtin_none];exact OW)]
 refine ax (TW a QF.lookup ?_);show eH _ _ (callSpecialIfBoundUnlessNone? .none "__hash__" _ >>= _) Q E s
 refine ax (wpAny_callSpecialIfBoundUnlessNone?_slot a QF
  (kr QF a PySem.F.entry_NoneType_hash
   (show eH _ _ (do ret (<- mkInt 4238894112)) _ _ s from wpAny_ret_mkInt ?_) (PySem.F.args_NoneType_hash_1 _)))
 exact eX h
theorem tV{Q:Bool->el->Prop}(h:Q true s):eH (ff prog w) A (eqBool .none .none) Q E s:=by
 unfold eqBool;refine om ?_;rw[if_pos (by rfl)]
 exact ax (Ps<|wpAny_pure h)
end
def B3(prog:fx)(w:g3):PySem.KeyKind prog w (Option aG) where
 is:=isO
 hash:=λk=>match k with
  |some k=>LQ w k
  |none=>4238894112
 inj:=λv a b g f=>by
  cases a with
  |some a=>
   cases b with
   |some b=>rw[(aV prog w).inj v a b g f]
   |none=>
    cases dD f;rcases a_ g with⟨i,t,_,e⟩|⟨x,t,_,e⟩<;>exact nomatch e
  |none=>
   cases dD g;cases b with
   |some b=>rcases a_ f with⟨i,t,_,e⟩|⟨x,t,_,e⟩<;>exact nomatch e
   |none=>rfl
 byValue:=λk v h=>by
  cases k with
  |some k=>exact(aV prog w).byValue k v h
  |none=>cases dD h;rfl
 pyHash:=λ{A E s k v Q} c h=>by
  cases k with
  |some k=>exact(aV prog w).pyHash c h
  |none=>cases dD c;exact tH h
 eqBool:=λ{A E s a b u v Q} j c h=>by
  cases a with
  |some a=>
   cases b with
   |some b=>
    refine (aV prog w).eqBool j c ?_;have:decide (ap a=ap b)=decide (a=b):=decide_eq_decide.mpr ⟨λe=>by injection e,λe=>by rw[e]⟩
    rw[this]at h;exact h
   |none=>
    cases dD c;have e:decide (ap a=cm)=false:=decide_eq_false (λz=>nomatch z);rw[e]at h;rcases a_ j with⟨i,t,rfl,rfl⟩|⟨x,t,rfl,rfl⟩
    .exact TX i t _ _ _ _ h
    .exact TR x t _ _ _ _ h
  |none=>
   cases dD j;cases b with
   |some b=>
    have e:decide (cm=ap b)=false:=decide_eq_false (λz=>nomatch z);rw[e]at h;rcases a_ c with⟨i,t,rfl,rfl⟩|⟨x,t,rfl,rfl⟩
    .exact TV i t _ _ _ _ h
    .exact TU x t _ _ _ _ h
   |none=>
    cases dD c;exact tV h
 «strs»:=λk x t v h=>by
  cases k with
  |some k=>exact(aV prog w).strs k x t v h
  |none=>cases h
section
variable {X:Cx}{Xb:Xq}{Z:St}{H:Hp}{s:el}{a:eg}{Xd:List (aG×V)}{A:i5}{E:Xp}
theorem Bb{prog:fx}{w:g3}{h:hG}{f:aG->Option ay}(m:h.MapOf (aV prog w) a f):h.MapOf (B3 prog w) a (λk=>match k with|some k=>f k|none=>cm):=by
 obtain⟨o,c,u,n,B,v,j,p⟩:=m;refine⟨o,c,u,n,B,v,λe b=>?_,λk=>?_⟩
 .obtain⟨k,g,z⟩:=j e b
  exact⟨ap k,g,z⟩
 .cases k with
  |some k=>exact p k
  |none=>
   have:∀e∈c,isO cm e.key=false:=λe b=>by
    obtain⟨k,g,_⟩:=j e b;rcases a_ g with⟨i,t,_,q⟩|⟨x,t,_,q⟩<;>rw[q]<;>rfl
   have e:c.find? (λe=>(B3 prog w).is cm e.key)=none:=by
    rw[Array.find?_eq_none];intro x y;exact Bool.eq_false_iff.mp (this x y)
   unfold findBy;rw[e];rfl
theorem MH{Q:Xp}(I:Inv X Xb Z H s)(e:Rd H a (.dK Xd))(h:∀s',Inv X Xb Z H s'->Q (.bool eC) s'):eH (ff X.prog X.w) A (kc .In .none<|.ref a) Q E s:=by
 obtain⟨z,f,g,b,c⟩:=jf I.hok e;refine wpAny_in_of (knd:=B3 X.prog X.w) (k:=cm) rfl f (Bb c.mapOf) ?_;exact h _ (I.tok _)
end
end _2
namespace _3
open PySem _2 _S
section
variable {X:Cx}{B:Bd}
def xY(M:Mem)(x y:D):Option Bool:=match x,y with
 |.non,.ref a=>match M a with
  |some (.dK _)=>ap eC
  |_=>cm
 |_,_=>qx M x y
def BW:eY:=λx y M Q=>match xY M x y with
 |some k=>Q (.bl k) M
 |none=>False
theorem Fw(z:X.A.units+64<rc):cF X (kc .In) (liftR2 X BW):=by
 intro b s Z H x y v u Q I i f h;obtain⟨w,n,M,QQ,c,j,g,h,m⟩:=h;unfold BW at h
 split at h
 .rename_i k e
  unfold xY at e
  split at e
  .rename_i a
   cases j;cases g;cases i;cases f
   split at e
   .rename_i q p
    cases e;obtain⟨C,o,F⟩:=c _ _ p;exact MH I (.inl o) λE I'=>⟨.bl eC,H,I',rfl,m _ M h _ H c Frm.refl rfl⟩
   .cases e
  .refine Cr z b s Z H x y v u Q I i f ⟨w,n,M,QQ,c,j,g,?_,m⟩
   unfold C1;rw[e];exact h
 .exact h.elim
end
end _3
namespace _2
open PySem PySem.Spec PyProof.Rows
variable{z:eg}
theorem oa:WK "reversed" "__init__" "object.__init__":=
 .of (owner:="object") (n:="__init__") (by rw[py,j0];kernel_rfl) (by decide +kernel) (by decide +kernel) (by decide +kernel)
  (by first|exact .inl (by decide +kernel)|exact .inr (by decide +kernel)) (by rw[zt];kernel_rfl)
theorem h_:WK "reversed" "__iter__" "reversed.__iter__":=
 .of (owner:="reversed") (n:="__iter__") (by rw[py,j0];kernel_rfl) (by decide +kernel) (by decide +kernel) (by decide +kernel)
  (by first|exact .inl (by decide +kernel)|exact .inr (by decide +kernel)) (by rw[zt];kernel_rfl)
theorem slot_rev_next:WK "reversed" "__next__" "reversed.__next__":=
 .of (owner:="reversed") (n:="__next__") (by rw[py,j0];kernel_rfl) (by decide +kernel) (by decide +kernel) (by decide +kernel)
  (by first|exact .inl (by decide +kernel)|exact .inr (by decide +kernel)) (by rw[zt];kernel_rfl)
theorem oM:Manifest.owners.lookup (String.ofList ['d','e','s','r','e','v','e','r'].reverse)=ap Manifest.sig_reversed:=by kernel_rfl
theorem gh:Wd W5 "reversed.__next__"=ap Builtin.«reversed.__next__»:=PySem.entryFor_of_tree (by kernel_rfl)
theorem o6:Wd W5 "reversed.__new__"=ap Builtin.«reversed.__new__»:=entryFor_of_tree (by kernel_rfl)
theorem nC:Wd W5 "reversed.__iter__"=ap Builtin.«dict_keyiterator.__iter__»:=
 WB (id':="dict_keyiterator.__iter__") (by kernel_rfl) (by first|rfl|decide +kernel|(unfold String.splitOn;simp +decide [String.splitOnAux])) (by decide +kernel) (by kernel_rfl)
theorem oe(a:ay):WF "reversed.__iter__" ⟨[a],[]⟩:=by
 unfold WF;rw[signature?_of (id:="reversed.__iter__") (n:=['_','_','r','e','t','i','_','_']) (o:=['d','e','s','r','e','v','e','r']) (by kernel_rfl) oM];kernel_rfl
theorem hW(a:ay):WF "reversed.__next__" ⟨[a],[]⟩:=by
 unfold WF;rw[signature?_of (id:="reversed.__next__") (n:=['_','_','t','x','e','n','_','_']) (o:=['d','e','s','r','e','v','e','r']) (by kernel_rfl) oM];kernel_rfl
theorem xn:mroOf (.type "reversed")=pure [.type "reversed",.type "object"]:=by rw[mroOf_type];kernel_rfl
theorem mI:Pv (.type "reversed") "__new__"=pure (ap<|.builtin "reversed.__new__"):=by rw[py,j0];kernel_rfl
theorem vB:TypeCalled "reversed" "reversed.__new__" "object.__init__":=
 ⟨by decide +kernel,by decide +kernel,⟨_,_,xn⟩,madeBy_type xn mI (by decide +kernel),by decide +kernel,by rw[zt];kernel_rfl,oa⟩
theorem rG(a:ay):checkTypeCall "reversed" ⟨[a],[]⟩=pure ():=by kernel_rfl
theorem sB(a:ay):checkBuiltinCall "reversed.__new__" ⟨[.type "reversed",a],[]⟩=pure ():=by kernel_rfl
theorem gY(a b:ay):WF "object.__init__" ⟨[a,b],[]⟩:=by
 unfold WF;rw[signature?_of (id:="object.__init__") (n:=['_','_','t','i','n','i','_','_']) (o:=['t','c','e','j','b','o']) (by kernel_rfl) F.owner_object];kernel_rfl
theorem Gh:isSubtype (.type "reversed") (.type "reversed")=pure true:=by rw[zt];kernel_rfl
theorem Jw:Pv (.type "tuple") "__reversed__"=pure none:=by rw[py,j0];kernel_rfl
theorem CQ:isSubtype (.type "tuple") (.type "dict")=pure false:=by rw[zt];kernel_rfl
abbrev oz(h:hG)(z l:eg)(j:Int):Prop:=h.get? z=ap { cls:=.type "reversed",dict:=cm,data:=.fields #[.ref l,.int j 0],slots:=#[] }
section
variable{prog:fx}{w:g3}{A:i5}{E:Xp}{s:el}
theorem AY{l:eg}{items:Xs}{k:Nat}{x:ay}{Q:Option ay->el->Prop}(a:oz s.heap z l k)(n:Wv s.heap l items)(g:items[k]?=ap x)(o:(k:Int)<2 ^ 63)(hQ:∀h',oz h' z l ((k:Int)-1)->Qy z s.heap h'->Q (ap x) { s with heap:=h',toks:=s.toks+1 }):
  eH (ff prog w) A (P3<|.ref z) Q E s:=by
 have i:s.TypeIs (.ref z) "reversed":=⟨_,a,rfl⟩;unfold P3
 refine ax (Re (wpAny_callSpecial?_slot (name:=PD "__next__") i slot_rev_next
  (kr slot_rev_next i gh ?_<|hW _)))
 show eH _ _ (VY (.ref z) 0 >>= _) _ _ s;refine ax (g5 a rfl (x:=.ref l) rfl ?_);show eH _ _ (VY (.ref z) 1 >>= _) _ _ s;refine ax (g5 a rfl (x:=.int k 0) rfl ?_);show eH _ _ (if (k:Int)<0 then _ else _) _ _ _
 rw[if_neg (by lia)]
 refine ax (TW (T:="tuple") n.typeIs slot_tuple_getitem.lookup ?_);show eH _ _ (if eC=true then _ else _) _ _ _
 rw[if_neg (by simp)]
 refine ax (wpAny_mkInt ?_);have f:k<items.size:=by
  rcases Ql k items.size with h|h
  .exact h
  .rw[Array.getElem?_eq_none h]at g;cases g
 refine ax (Re<|getItem_tuple (s:={ s with toks:=s.toks+1 }) n (k:=k) (j:=k) (x:=x) (by lia) o ?_ g ?_)
 .have e:¬((k:Int)<0):=by lia
  simp[WN,f,if_neg e]
 show eH _ _ (VY (.ref z) 1 >>= _) _ _ _;refine ax (g5 (s:={ s with toks:=s.toks+1 }) a rfl (x:=.int k 0) rfl ?_);refine ax (p3 (s:={ s with toks:=s.toks+1 }) a (by simp) λm c b=>?_)
 exact eX ⟨_,rfl,eX<|hQ _ c b⟩
theorem Gg{l:eg}{j:Int}{Q:Option ay->el->Prop}(F:A.handled=cm)(i:oz s.heap z l j)(C:j<0)(B:∀h',Tg z s.heap h'->Q cm { s with heap:=h' }):eH (ff prog w) A (P3<|.ref z) Q E s:=by
 have v:s.TypeIs (.ref z) "reversed":=⟨_,i,rfl⟩;unfold P3
 refine ax (Re (wpAny_callSpecial?_slot (name:=PD "__next__") v slot_rev_next
  (kr slot_rev_next v gh ?_<|hW _)))
 show eH _ _ (VY (.ref z) 0 >>= _) _ _ s;refine ax (g5 i rfl (x:=.ref l) rfl ?_);show eH _ _ (VY (.ref z) 1 >>= _) _ _ s;refine ax (g5 i rfl (x:=.int j 0) rfl ?_);show eH _ _ (if j<0 then _ else _) _ _ _
 rw[if_pos C];refine ax (Ps ?_);show eH _ _ ((W6 (.ref z) 1 (x9 (-1)) >>= λ_=>W6 (.ref z) 0 .none) >>= _) _ _ _;refine ax (ax (p3 i (by simp) λh p n=>?_))
 refine p3 (s:={ s with heap:=h }) p (by simp) λg y f=>?_
 refine ax ?_;show eH _ _ (newExc (.type "StopIteration") [] >>= _) _ _ _;refine ax ?_;simp only[newExc,newTuple];refine ax (n7 ?_<|by size_fits)
 refine ax (m:=Wc _ _) (SB (a:=Qv) (by first|rfl|(simp only[Wc];rfl)) ?_)
 refine n7 ?_ (by size_fits)
 simp only[raiseNew];refine ax (wpAny_handled ?_);rw[show A.in1.handled=cm from F];refine ax (eX<|wpAny_throw ?_);refine ax (V3 (T:="StopIteration") (b:=true) ⟨_,OI _ rfl,rfl⟩ WA ?_);refine eX (B _ ?_);have q:Tg z s.heap g:=λc o u e=>f.extBut _ _ u (n.extBut _ _ u e);exact(q.push _).push _
theorem uu{l:eg}{j:Int}{Q:Xp}(b:oz s.heap z l j)(h:Q (.ref z) s):eH (ff prog w) A (pyIter<|.ref z) Q E s:=by
 have a:s.TypeIs (.ref z) "reversed":=⟨_,b,rfl⟩;refine wpAny_pyIter_slot a h_ (kr h_ a nC ?_<|oe _);show eH _ _ (ret<|.ref z) _ _ s;exact eX ⟨_,rfl,"reversed",_,a,slot_rev_next.lookup,h⟩
theorem BC{l:eg}{items:Xs}{Q:Xp}(j:Wv s.heap l items)(i:(items.size:Int)<2 ^ 63)(h:∀b h',h'.objs.size=s.heap.objs.size+1->oz h' s.heap.objs.size l ((items.size:Int)-1)->(∀c o,s.heap.get? c=ap o->h'.get? c=ap o)->Q (.ref s.heap.objs.size) { s with heap:=h',toks:=b }):
  eH (ff prog w) A (call (.type "reversed") [.ref l]) Q E s:=by
 refine WZ (S:=λ_ R s=>Wv s.heap l items/\∀b,R (.ok<|.ret<|.ref s.heap.objs.size) { s with heap:=s.heap.push { cls:=.type "reversed",data:=.fields #[.ref l,.int ((items.size:Int)-1) 0] },toks:=b })
  vB (by decide) (rG _) (sB _) (λobj=>gY obj _) o6 ?_ ⟨j,λb=>?_⟩
 .refine .of_wp λprog w A R s h=>?_
  obtain⟨j,h⟩:=h;obtain⟨p,g,d,b,q⟩:=s;have f:=Gh;have n:=j.typeIs;unfold Builtin.«reversed.__new__»;refine ax ?_;unfold Builtin.SmallTypes.newClass;refine ax (SB (a:=true) rfl ?_);rw[if_neg (by simp)]
  refine ax (SB f ?_);rw[if_neg (by simp)]
  refine eX ?_;refine ax (m:=Builtin.SmallTypes.refuseKeywords _ _ _) (SB (a:=()) rfl ?_);refine ax (m:=checkCount _ _ _ _) (SB (a:=()) rfl ?_);refine ax (m:=specialOf _ _) (TW n Jw ?_);refine ax ?_;show eH _ _ (isInstance (.ref l) (.type "dict") >>= _) _ _ _;refine ax (V3 n CQ ?_);rw[if_neg (by simp)]
  refine ax (TW (T:="tuple") n slot_tuple_getitem.lookup ?_);show eH _ _ (if (["tuple.__getitem__","str.__getitem__","bytes.__getitem__","bytearray.__getitem__","memoryview.__getitem__","numpy.ndarray.__getitem__","sqlite3.Row.__getitem__"].contains "tuple.__getitem__")=true then _ else _) _ _ _
  rw[if_pos (by decide)]
  refine eX ?_;show eH _ _ (call (.builtin "len") [.ref l] >>= _) _ _ _;refine ax (len_tuple j i ?_);refine ax (SB (a:=ap (items.size:Int)) rfl ?_);show eH _ _ (newObj (.type "reversed") (.fields #[.ref l,.int ((items.size:Int)-1) 0]) >>= _) _ _ _;refine ax (n7 ?_<|by size_fits)
  exact eX ⟨_,rfl,h _⟩
 .exact⟨⟨_,OI _ rfl,rfl⟩,h b _ (Pl ..) (OI _ rfl) λc o e=>Ow _ e⟩
end
def Itv(K:OA)(a:eg)(n:Nat):It:=
 ⟨λi H=>i<n/\∃xs x,ij K H a xs/\xs[n-1-i]?=ap x,λi H x H'=>H'=H/\∀xs,ij K H a xs->xs[n-1-i]?=ap x,λi _=>n<=i⟩
theorem Cc{P:fx}{w:g3}{K:OA}{tg:fy}(a it:eg)(n:Nat)(hn:n<2 ^ 63):Turn P w K tg (Itv K a n) [it] it (λi h=>oz h it a ((n:Int)-1-i)) where
 mem:=by simp
 obj:=λi h c b g=>by
  have e:b=it:=by simpa using g
  subst e;exact⟨_,c,λv z=>by cases z⟩
 keep:=λi h m c k=>k it (by simp) _ c
 item:=by
  intro X N G F O i f s Z H E I q c L;subst N G F;obtain⟨hi,xs,x,Q,R⟩:=L;obtain⟨C,rv,p,hz⟩:=I.tuple Q;obtain⟨u,hu,T⟩:=rv.get R;obtain⟨J,y,U,A,B,M⟩:=q it (by simp)
  have Y:(n:Int)-1-i=((n-1-i:Nat):Int):=by lia
  refine AY (k:=n-1-i) (by rw[<- Y];exact c) (show Wv s.heap a C.toArray from p) (x:=u) (by simpa using hu) (by lia) λm j S=>?_
  have I1:Inv X f Z H { s with heap:=m,toks:=s.toks+1 }:=I.turned (λb o g e=>(S.2 b g).trans e) J y A B M;have e2:(((n-1-i:Nat):Int))-1=(n:Int)-1-((i+1:Nat):Int):=by lia
  rw[e2]at j;exact⟨u,rfl,xF (s:={ s with heap:=m,toks:=s.toks+1 }) j rfl rfl (by decide) ⟨x,H,I1,T,⟨rfl,λys hy=>by rw[I.tuple_inj hy Q];exact R⟩,j,λb g=>(q b g).1⟩⟩
 done:=by
  intro X N G F O i f s Z H E I q c L;subst N G F;obtain⟨J,y,U,A,B,M⟩:=q it (by simp)
  have W:n<=i:=L;exact Gg (I.ok.hd O) c (by lia) λm eb=>⟨rfl,I.turned (t':=s.toks) (λb o g e=>eb b o g e) J y A B M⟩
 self:=λ_ _ _ _ _ c h=>uu c h
section
variable{X:Cx}{tg:fy}
def iRev(K:OA)(t:TA):TI:=λZ H R=>t Z H λa H1=>∃l xs,a=[.ref l]/\ij K H1 l xs/\R (Itv K l xs.length) H1
theorem IB:gl "reversed"=ap (.type "reversed"):=by decide +kernel
theorem JW{a:fy}{w:TA}{p pos:Pos}(L:Gl X "reversed")(M:X.mg "reversed"=cm)(N:PA X [a] w)(J:fe [a] X.env=[(eC,gp a X.env)]:=by rfl):
  PI X tg (.Call (.Name "reversed" p) [a] [] pos) (iRev X.K w):=by
 intro c s Z H R I h;refine Call_ (eF I L M IB<|Pr (bq (N pos c s Z H _ I h) λO f ⟨Q,H1,I1,B,o⟩=>?_) J rfl);obtain⟨l,i,e,o,q⟩:=o;subst e;obtain⟨P,rfl,m⟩:=B.one;cases m;obtain⟨g,y,A,F⟩:=I1.tuple o;have u:=y.length;have E:i.length<2 ^ 63:=RS F (by decide)
 refine BC (show Wv f.heap l g.toArray from A) (by simp;lia) λn v G j C=>?_
 have I2:Inv X c Z H1 { f with heap:=v,toks:=n }:=I1.kept (t':=n) C;refine uu (s:={ f with heap:=v,toks:=n }) j ?_;refine⟨f.heap.objs.size,[f.heap.objs.size],_,_,H1,rfl,I2,Cc l _ i.length (by lia),?_,λb x=>?_,q⟩
 .have e:((g.toArray.size:Nat):Int)-1=(i.length:Int)-1-((0:Nat):Int):=by simp;lia
  rw[e]at j;exact j
 .have e:b=f.heap.objs.size:=by simpa using x
  subst e;exact I1.fpOk (OB _) (I1.hok.fresh<|OB _)
end
end _2
namespace _3
open PySem _2 _S
section
variable {X:Cx}{B:Bd}{tg:fy}{K:OA}{H:Hp}{M:Mem}
def Io(t:fj):zK:=λU M R=>t U M λa M1=>match a with
 |[.tup xs]=>R ⟨xs.reverse,[]⟩ M1
 |_=>False
theorem Jb{a:fy}{E:fj}{p pos:Pos}(N:Gl X "reversed")(O:X.mg "reversed"=cm)(P:DA X B [a] E)(L:fe [a] X.env=[(eC,gp a X.env)]:=by rfl):
  DI X B tg (.Call (.Name "reversed" p) [a] [] pos) (Io E):=by
 refine m8 (JW N O P L) ?_
 rintro Z H R ⟨U,M,RR,s,h,J⟩
 refine⟨U,M,_,s,h,λds M1 f Q H1 j F G=>?_⟩
 split at f
 .rename_i z
  obtain⟨v,rfl,q,b,rfl,o,y⟩:=gR (ds:=[]) G;have A:=y.length;refine⟨q,b,rfl,o.sq,J _ M1 f _ H1 j F λi H2 M2 m u _=>⟨λd c=>?_,λe=>?_⟩⟩
  .have C:i<z.length:=by
    rcases Ql i z.length with h|h
    .exact h
    .rw[PC (by rw[UW];exact h)]at c;cases c
   rw[List.getElem?_reverse C]at c;obtain⟨w,g,n⟩:=(y.mono m).get c;rw[A]at g;refine⟨⟨by rw[<- A];exact C,b,w,(o.mono m).sq,g⟩,?_⟩
   rintro x H3 ⟨rfl,I⟩
   have:=I b (o.mono m).sq;rw[g]at this;cases this;exact⟨Frm.refl,u,n⟩
  .show b.length<=i
   rw[UW]at e;lia
 .exact f.elim
end
end _3
namespace _3
open PySem _2
section
variable {X:Cx}{B:Bd}{C:eg}{f:Str}{o value:fy}{ta tv:bp}{pos tpos:Pos}
def qm(C:eg)(ta tv:bp)(f:Str):aE:=λD U M=>ta U M λx M1=>match x with
 |.ref a=>match M1 a with
  |some (.ins C' fs)=>C'=C/\fs.length<1000/\match fs.lookup f with
   |some (.int i)=>tv U M1 λy M2=>match y with
    |.int j=>M2 a=ap (.ins C fs)/\D.nx U (M2.upd a<|.ins C<|bG f (.int (i-j)) fs)
    |_=>False
   |_=>False
  |_=>False
 |_=>False
theorem z7(c:Cls X.K C)(n:NoAttr X.K C f)(ha:DE X B o ta)(hv:DE X B value tv):DS X B (.AugAssign (.Attribute o f tpos) .Sub value pos) (qm C ta tv f):=by
 refine bJ (oJ ha hv L4) ?_
 rintro D Z H ⟨U,M,DD,s,h,up⟩
 refine⟨U,M,_,s,h,λx M1 h1 v1 H1 rh1 i1 r1=>?_⟩
 split at h1
 .rename_i a
  cases r1
  split at h1
  .rename_i C' fs hM
   obtain⟨rfl,hl,h1⟩:=h1
   split at h1
   .rename_i i hf
    obtain⟨dx,ws,e1,e2⟩:=rh1 _ _ hM;obtain⟨z,_⟩|⟨d,w,hd,hw,rw1⟩:=e2.lookup f
    .rw[hf]at z;cases z
    rw[hf]at hd;cases hd;cases rw1;refine⟨a,C',dx,ws,.int i,rfl,e1,c,n,hw,U,M1,_,s.go rh1 i1,h1,λy M2 h2 v2 H2 rh2 i2 r2=>?_⟩
    split at h2
    .rename_i j
     cases r2;obtain⟨hM2,h2⟩:=h2;obtain⟨dx2,ws2,e3,e4⟩:=rh2 _ _ hM2;have i3:Frm M2 H2 (M2.upd a<|.ins C'<|bG f (.int (i-j)) fs) (upd H2 a<|.ins C' dx2<|_2.da f (.int (i-j)) ws2):=Frm.put (.inr ⟨_,hM2⟩);refine⟨i,j,rfl,rfl,dx2,ws2,e3,by rw[<- e4.length];exact hl,up.nx _ _ h2 Z _ ((i1.trans i2).trans i3)<|s.go (rh2.put (by rw[e3];trivial) ⟨dx2,_,upd_same,?_⟩)<|(i1.trans i2).trans i3⟩
     exact(jr (show Rp X.K H2 (.int (i-j)) (.int (i-j)) from rfl) e4).mono (i3.imm rh2)
    .exact h2.elim
   .exact h1.elim
  .exact h1.elim
 .exact h1.elim
end
section
variable {X:Cx}{B:Bd}
def kA:z6:=λx a M Q=>match x,a with
 |.int i,[]=>Q (.int ((P6 i:Nat):Int)) M
 |_,_=>False
theorem vT:xO X "int.bit_length" (liftM X kA):=by
 intro a s Z H x m v j Q I b e h;obtain⟨d,n,M,QQ,f,r,c,h,g⟩:=h;unfold kA at h
 split at h
 .rename_i i
  cases r;cases c;obtain⟨t,rfl⟩:=b;cases e;exact PyProof.Rows.call_int_bit_length ⟨.int _,H,I.tok _,⟨_,rfl⟩,g _ M h _ H f Frm.refl rfl⟩
 .exact h.elim
end
end _3
namespace _2
open PySem PySem.Spec PyProof.Rows
variable{cl:List (Str×eg)}{scope:Pi}
theorem Do{x:Str}{c:eg}:∀(names:List (Str×Wf))(h:hG)(Xe:List (Str×eg)),(va h.objs.size names Xe).lookup x=ap c->
  Xe.lookup x=ap c\/(h.objs.size<=c/\(Uf h names).IsCell c cm/\(x,Rb)∈names)
 |[],_,_,e=>.inl e
 |(n,k)::r,h,Xe,e=>by
  unfold va at e;unfold Uf
  by_cases a:(k==.cell)=true
  .rw[if_pos a]at e ⊢
   have f:(h.push { cls:=.type "cell",data:=.cell cm }).objs.size=h.objs.size+1:=Pl ..;rw[<- f]at e;rcases Do r _ _ e with z|⟨z1,z2,z3⟩
   .rw[QP]at z
    cases b:x==n with
    |true=>
     rw[b]at z;cases z;rw[beq_iff_eq.mp b];exact .inr ⟨OB _,⟨_,V9 _ _ _ _ (OI _ rfl),rfl⟩,by rw[beq_iff_eq.mp a];exact OR⟩
    |false=>rw[b]at z;exact .inl z
   .exact .inr ⟨by lia,z2,OJ _ z3⟩
  .rw[if_neg a]at e ⊢
   rcases Do r _ _ e with z|⟨z1,z2,z3⟩
   .exact .inl z
   .exact .inr ⟨z1,z2,OJ _ z3⟩
theorem vX:∀(names:List (Str×Wf))(n:Nat)(Xe:List (Str×eg)),(∀x y c,Xe.lookup x=ap c->Xe.lookup y=ap c->x=y)->(∀x c,Xe.lookup x=ap c->c<n)->
  ∀x y c,(va n names Xe).lookup x=ap c->(va n names Xe).lookup y=ap c->x=y
 |[],_,_,h,_=>h
 |(z,k)::r,n,Xe,h,hl=>by
  unfold va
  split
  .refine vX r _ _ (λx y c a b=>?_) λx c e=>?_
   .rw[QP]at a b
    cases f:x==z<;>cases g:y==z<;>rw[f]at a<;>rw[g]at b
    .exact h x y c a b
    .cases b;exact absurd (hl _ _ a) (Pq _)
    .cases a;exact absurd (hl _ _ b) (Pq _)
    .rw[beq_iff_eq.mp f,beq_iff_eq.mp g]
   .rw[QP]at e
    cases f:x==z<;>rw[f]at e
    .exact Rg (hl _ _ e)
    .cases e;exact Rj _
  .exact vX r _ _ h hl
theorem sF{M:Model}{A:i5}{E:Xp}{s:el}{g:eg}{a:Str}{env:Env}{Q:Env->el->Prop}(h:Q (newEnv scope s.heap.objs.size g (va (s.heap.objs.size+1) scope.names cl) a cm .none (ap env) WC) { s with heap:=Uf (s.heap.push { cls:=.type "dict",data:=.dict #[] }) scope.names }):
  eH M A (Wb scope g cl [] a cm .none<|some env) Q E s:=by
 simp only[Wb,UN,if_true];refine ax (wpAny_alloc ?_);refine ax (wpAny_layCells _ (λf b c=>by cases e:b==Rb<;>simp[e]) _ _ _ _ ?_)
 rw[show ({ s with heap:=s.heap.push { cls:=.type "dict",data:=.dict #[] } }:el).heap.objs.size=s.heap.objs.size+1 from Pl ..];exact ax (by rw[Sr];exact eX (eX h))
abbrev br(X:Cx)(N:Xk)(scope:Pi)(cl:List (Str×eg))(C:eg)(s₀:el)(H₀:Hp)(fp:Xm)(pl:Xq):Cx:=
 { ba X N scope (va (C+1) scope.names cl) C s₀ H₀ fp pl with fn:=λx=>scope.names.lookup x==ap .cell }
structure CompOkC(X:Cx)(scope:Pi)(cl:List (Str×eg))(ls fs:Xk)(js:List Nat):Prop where
 kind:scope.kind=.function
 locs:∀x∈scope.names,x.2=.local->scope.names.lookup x.1=ap .local
 clos:Tk scope X.env=pure cl
 cells:∀x c,cl.lookup x=ap c->X.env.cells.lookup x=ap c
 has:∀x,((SL scope X.env).names.lookup x=ap .cell\/(SL scope X.env).names.lookup x=ap .free)->scope.names.lookup x=ap .cell\/∃c,cl.lookup x=ap c
 frees:Frees X scope fs js
 own:∀x∈fs,(x,Rb)∉scope.names
 once:∀x∈scope.names,x.2=.cell->∀c,cl.lookup x.1=ap c->False
theorem A1{X:Cx}{a:Xq}{Z:St}{H:Hp}{s:el}{ls fs:Xk}{E:List Nat}{T:Xm}{t':Nat}(I:Inv X a Z H s)(co:CompOkC X scope cl ls fs E)(w:∀b∈T,gs X a H b/\b<s.heap.objs.size):
  Inv (br X (ls++fs) scope cl s.heap.objs.size s H T a) [] (bL ls E Z) H { s with heap:=Uf (s.heap.push { cls:=.type "dict",data:=.dict #[] }) scope.names,toks:=t' }:=by
 have C:∀b o,s.heap.get? b=ap o->(Uf (s.heap.push { cls:=.type "dict",data:=.dict #[] }) scope.names).get? b=ap o:=λb o e=>V9 _ _ _ _ (Ow _ e);have lk:∀b o,s.heap.get? b=ap o->b≠s.heap.objs.size:=λb o e=>OP (OD e);have m:∀{x:Str}{c:eg},(va (s.heap.objs.size+1) scope.names cl).lookup x=ap c->cl.lookup x=ap c\/(s.heap.objs.size+1<=c/\(Uf (s.heap.push { cls:=.type "dict",data:=.dict #[] }) scope.names).IsCell c cm/\(x,Rb)∈scope.names):=λ{x c} e=>by
  have hs:(s.heap.push { cls:=.type "dict",data:=.dict #[] }).objs.size=s.heap.objs.size+1:=Pl ..;rw[<- hs]at e ⊢;exact Do _ _ _ e
 have N:∀{x:Str}{c:eg},cl.lookup x=ap c->c<s.heap.objs.size:=λ{x c} e=>by
  obtain⟨v,z⟩:=I.cell x c (co.cells x c e);exact z.lt
 have hcs:(br X (ls++fs) scope cl s.heap.objs.size s H T a).env.cells=va (s.heap.objs.size+1) scope.names cl:=rfl;refine⟨⟨I.ok.mod,co.kind,I.ok.glob,I.ok.blt,OB _,λx y c K G=>?_,λx R=>?_,λx c h e=>?_,I.ok.hd,I.ok.frames,.inl rfl,λb g=>⟨OP (w b g).2,λx c e=>?_⟩,
   λb o e=>I.bs b o e,OV I.ok.bsz I.sz,λb o e g=>?_,λb g hf=>?_,I.stack,λb g=>I.stkFree b g⟩,
  rfl,I.bare,Un.kept C,⟨λ_=>cm,(Heap.Ns.new s.heap<|.type "dict").keeps (V9 _ _),λi x v K G h3=>?_⟩,λx c e=>?_,I.hok.fresh (OB _),λx c e=>?_,λp hp=>?_,I.hok.kept C,?_⟩
 .refine vX scope.names _ cl (λx y c e1 e2=>I.ok.inj x y c (co.cells x c e1) (co.cells y c e2)) (λx c e=>Rg (N e)) x y c K G
 .rcases co.has x R with z|⟨c,z⟩
  .exact Qi.mp (Ru _ _ _<|.inl z)
  .exact Qi.mp (Ru _ _ _<|.inr<|by rw[z];rfl)
 .rcases m e with z|⟨z,_,_⟩
  .exact(co.once _ (Pz<|beq_iff_eq.mp h) rfl c z).elim
  .exact S4 z
 .rcases m e with z|⟨z,_,_⟩
  .exact(w b g).1.2.2.2.2.1 x c (co.cells x c z)
  .exact Qk (OF (w b g).2<|S4 z)
 .obtain⟨f0,U,f2,W,_⟩:=(w b g).1
  rcases W with z|z
  .exact I.ok.noex b o e z
  .exact absurd (OF (OD (I.ok.bs b o e).1) z) (Pq _)
 .obtain⟨f0,U,f2,W,_⟩:=(w b g).1
  rcases OQ.mp (I.stkSub b hf) with z|z
  .exact U z
  .exact f2 z
 .have F:¬i<ls.length:=λF=>by
   have f:(bL ls E Z)[i]?=ap (ap v):=G;unfold bL at f;rw[PJ (by simpa using F),OO,Oz F]at f
   cases f
  have hN:fs[i-ls.length]?=ap x:=by
   have Q:(ls++fs)[i]?=ap x:=K
   rwa [Pj (by lia)]at Q
  obtain⟨j,hj,R,hc,Y⟩:=co.frees.get hN;have L:Z[j]?=ap (ap v):=by
   have f:(bL ls E Z)[i]?=ap (ap v):=G;unfold bL at f;rw[Pj (by simpa using F),Ox,OO,hj]at f
   have q:(Z[j]?).join=ap v:=by simpa using f
   cases e:Z[j]? with
   |none=>rw[e]at q;cases q
   |some o=>rw[e]at q;have q':o=ap v:=q;rw[q']
  obtain⟨mX,_,P⟩:=I.loc;have M:Iw X.env.scope x:=by
   rcases hc with z|z
   .exact .inr (.inl z)
   .exact .inr (.inr z)
  obtain⟨u,ru,lo⟩:=P j x v R L M;refine⟨u,ru,.inr ⟨Y,?_⟩⟩;have B:x∈fs:=Rq hN;have A:∃c,(va (s.heap.objs.size+1) scope.names cl).lookup x=ap c:=by
   rcases co.has x Y with z|⟨c,z⟩
   .exact absurd (Pz z) (co.own x B)
   .exact Qi.mp (Ru _ _ _<|.inr<|by rw[z];rfl)
  obtain⟨c,ec⟩:=A;refine⟨c,ec,?_⟩;have S:cl.lookup x=ap c:=by
   rcases m ec with z|⟨_,_,z⟩
   .exact z
   .exact absurd z (co.own x B)
  rcases lo with⟨kl,_⟩|⟨_,c',e',z⟩
  .rcases hc with q|q<;>(rw[q]at kl;cases kl)
  .rw[co.cells x c S]at e'
   cases e';obtain⟨o,O,hd⟩:=z;exact⟨o,C _ _ O,hd⟩
 .rcases m e with z|⟨_,z,_⟩
  .obtain⟨v,o,O,hd⟩:=I.cell x c (co.cells x c z)
   exact⟨v,o,C _ _ O,hd⟩
  .exact⟨_,z⟩
 .rcases m e with z|⟨z,_,_⟩
  .exact I.freeC x c (co.cells x c z)
  .exact I.hok.fresh (S4 z)
 .have J:p∈X.pn++a:=by
   have q:p∈(X.pn++a)++[]:=hp;simpa using q
  obtain⟨e,n,ne,nf,d⟩:=I.pin p J;refine⟨C _ _ e,n,lk _ _ e,λg=>?_,d⟩;rcases OQ.mp (I.stkSub p.1 g) with z|z
  .exact ne z
  .exact nf z
 .show (bL ls E Z).length=(ls++fs).length
  unfold bL;rw[OH,Ox,Ox,OH,co.frees.length]
section
variable{X:Cx}{tg iter elt:fy}{ifs:Xn}{pos:Pos}{ls fs:Xk}{js:List Nat}{wi:TI}{g:TG}{tt:TT}{te:TE}
theorem zf{a:Xq}{Z:St}{f:el}{it:eg}{j:Xm}{tn:Nat->hG->Prop}{J:It}{H1:Hp}{R:ay->eg->WG->el->Prop}{Q:VK}{E:Xp}(hc:X.calm=true)(co:CompOkC X scope cl ls fs js)(hY:∀(C:eg)(s₀:el)(H₀:Hp)(j:Xm)(pl:Xq),PG (br X (ls++fs) scope cl C s₀ H₀ j pl) tg g/\FG (br X (ls++fs) scope cl C s₀ H₀ j pl) ifs tt/\PE (br X (ls++fs) scope cl C s₀ H₀ j pl) elt te)(I:Inv X a Z H1 f)(T:Turn X.prog X.w X.K tg J j it tn)(st:tn 0 f.heap)(M:∀b∈j,gs X a H1 b)(q:∀p,H1 p=cm->∃W:Nat->Nat->St->Hp->Prop,(∃m,W 0 m (bL ls js Z) (upd H1 p<|.lst []))/\∀i m s H',W i m s H'->
   (J.stop i H'/\Q (.ref p) H')\/(J.go i H'/\∃N:St->Hp->Prop,(∀σ2 H2,N σ2 H2->∃m',m'<m/\W (i+1) m' σ2 H2)/\∀x H2,J.yld i H' x H2->g x s H2 λσ3 H3=>tt σ3 H3 λc H4=>
    if c=true then te σ3 H4 λy H5=>∃ys,H5 p=ap (.lst ys)/\ys.length<sizeLine/\N σ3 (upd H5 p<|.lst (ys++[y])) else N σ3 H4))(hR:∀(p C:eg)(H':Hp)(s':el)(m:Xr),s'.heap.Ns C m->Inv X a Z H' s'->H' C=cm->C≠X.env.locals->X.s₀.heap.objs.size<=C->(∀x c,X.env.cells.lookup x=ap c->c≠C)->(∀pp∈X.pn++a,pp.1≠C)->Q (.ref p) H'->R (.ref p) C (.ok .next) s'):
  eH (ff X.prog X.w) X.A (newList []) (λXe s₃=>eH (ff X.prog X.w) X.A (Wb scope X.env.globals cl [] X.env.qual cm .none<|some X.env) (λcenv s₄=>
   Sc (ff X.prog X.w) X.A (.compStart (.ListComp elt [⟨tg,iter,ifs,0⟩] scope pos) 0 (.ref it) Xe { cenv with scope:=SL scope X.env }) (R Xe cenv.locals) s₄) E s₃) E f:=by
 have hp0:H1 f.heap.objs.size=none:=I.hok.fresh (OB _);obtain⟨W,⟨m0,w0⟩,turn⟩:=q f.heap.objs.size hp0;refine n7 (sF ?_);dsimp only;have I3:Inv X a Z (upd H1 f.heap.objs.size<|.lst []) { f with heap:=f.heap.push { cls:=.type "list",dict:=cm,data:=.seq ([]:Xl).toArray } }:=
  I.lnew (Xh:=[]) (t':=f.toks) .nil (Qc _)
 generalize hs3:({ f with heap:=f.heap.push { cls:=.type "list",dict:=cm,data:=.seq ([]:Xl).toArray } }:el)=s3 at I3;have H:f.heap.push { cls:=.type "list",dict:=cm,data:=.seq ([]:Xl).toArray }=s3.heap:=by rw[<- hs3]
 rw[H];have hsz3:s3.heap.objs.size=f.heap.objs.size+1:=by rw[<- H,Pl]
 have hk3:∀b o,f.heap.get? b=ap o->s3.heap.get? b=ap o:=λb o e=>by rw[<- H];exact Ow _ e
 have hlt:∀b∈j,b<f.heap.objs.size:=λb h=>by
  obtain⟨o,e,_⟩:=T.obj _ _ st b h;exact OD e
 have S:∀b∈j,upd H1 f.heap.objs.size (.lst []) b=none:=λb h=>by
  rw[aL (OP<|hlt b h)];exact(M b h).1
 have hf3:∀b∈j,gs X a (upd H1 f.heap.objs.size<|.lst []) b/\b<s3.heap.objs.size:=λb h=>⟨⟨S b h,(M b h).2⟩,by rw[hsz3];exact Rg (hlt b h)⟩
 have hk4:∀b o,s3.heap.get? b=ap o->(Uf (s3.heap.push { cls:=.type "dict",data:=.dict #[] }) scope.names).get? b=ap o:=λb o e=>V9 _ _ _ _ (Ow _ e);have I4:=A1 (t':=s3.toks) I3 co hf3;generalize Uf (s3.heap.push { cls:=.type "dict",data:=.dict #[] }) scope.names=h₁ at hk4 I4;have st4:tn 0 h₁:=T.keep _ _ _ st λb h o e=>hk4 b o (hk3 b o e);obtain⟨hg,ht,he⟩:=hY s3.heap.objs.size s3 (upd H1 f.heap.objs.size<|.lst []) j a;have F:∀{H':Hp},(∀b∈j,H' b=cm)->∀b∈j,gs (br X (ls++fs) scope cl s3.heap.objs.size s3 (upd H1 f.heap.objs.size<|.lst []) j a) [] H' b:=λ{H'} hn b h=>by
  obtain⟨f0,f1,f2,f3,f4,f5⟩:=M b h;refine⟨hn b h,OP (hf3 b h).2,λz=>?_,.inl h,λx c e=>(I4.ok.exf b h).2 x c e,λpp O=>f5 pp ?_⟩
  .rcases OQ.mp (I3.stkSub b z) with y|y
   .exact f1 y
   .exact f2 y
  .have q:pp∈(X.pn++a)++[]:=O
   simpa using q
 have loop:∀s₄:el,s₄={ s3 with heap:=h₁,toks:=s3.toks }->
   Sc (ff X.prog X.w) X.A (.compLoop (.ListComp elt [⟨tg,iter,ifs,0⟩] scope pos) 0 (.ref it) (.ref f.heap.objs.size)<|compEnvC scope (va (s3.heap.objs.size+1) scope.names cl) s3.heap.objs.size X.env) (R (.ref f.heap.objs.size) s3.heap.objs.size) s₄:=by
  rintro s₄ rfl
  refine iH (λn s'=>∃i s H',Inv (br X (ls++fs) scope cl s3.heap.objs.size s3 (upd H1 f.heap.objs.size<|.lst []) j a) [] s H' s'/\tn i s'.heap/\(∀b∈j,H' b=cm)/\W i n s H') ?_ m0 ⟨0,_,_,I4,st4,S,w0⟩
  rintro n s5 ⟨i,G,H5,I5,Y,fr5,w5⟩
  rcases turn i n G H5 w5 with⟨stop,qn⟩|⟨go,N,hN,step⟩
  .refine bq (T.done (br X (ls++fs) scope cl s3.heap.objs.size s3 (upd H1 f.heap.objs.size<|.lst []) j a) rfl rfl rfl hc i [] s5 G H5 _ I5 (F fr5) Y stop) λr s6 ⟨hr,I6⟩=>?_
   subst hr;obtain⟨m6,hn6,_⟩:=I6.loc;have IX:Inv X a Z H5 s6:=I3.call' I6.os I6.base I6.hok I6.bare λb h=>⟨(M b h).2.2.2.1,(M b h).2.1,(M b h).2.2.2.2.1,(M b h).2.2.2.2.2⟩;refine hR _ _ H5 s6 m6 hn6 IX I6.free (Qk I3.lt) I3.sz (λx c e z=>?_) (λpp O z=>?_) qn
   .obtain⟨v,zz⟩:=I3.cell x c e
    have U:=zz.lt;rw[z]at U;exact Pq _ U
   .have U:=OD (I3.pin pp O).1
    rw[z]at U;exact Pq _ U
  .refine bq (T.item (br X (ls++fs) scope cl s3.heap.objs.size s3 (upd H1 f.heap.objs.size<|.lst []) j a) rfl rfl rfl hc i [] s5 G H5 _ I5 (F fr5) Y go) λr s6 ⟨u,hr,h6⟩=>?_
   subst hr;refine bq h6 λ_ s7 ⟨x,H7,I7,r7,y7,L,fr7⟩=>?_;have I7':=I7.pinned (F fr7) (T.obj _ _ L);refine bq (hg _ s7 G H7 x u _ I7' r7<|step x H7 y7) λ_ s8 ⟨σ8,H8,I8,q8⟩=>?_
   have again:∀{B:St}{H9:Hp}{P:el},Inv (br X (ls++fs) scope cl s3.heap.objs.size s3 (upd H1 f.heap.objs.size<|.lst []) j a) ([]++jQ j s7.heap) B H9 P->N B H9->
     ∃m,m<n/\∃i s H',Inv (br X (ls++fs) scope cl s3.heap.objs.size s3 (upd H1 f.heap.objs.size<|.lst []) j a) [] s H' P/\tn i P.heap/\(∀b∈j,H' b=cm)/\W i m s H':=λ{B H9 P} I9 n9=>by
    obtain⟨m',hm,w9⟩:=hN B H9 n9;refine⟨m',hm,i+1,B,H9,I9.unpinned,T.keep _ _ _ L λb h o e=>(I9.pin (b,o)<|Pb _<|Pb _<|cS h e).1,λb h=>?_,w9⟩;obtain⟨o,e,d⟩:=T.obj _ _ L b h;exact(I9.pin (b,o)<|Pb _<|Pb _<|cS h e).2.1
   refine bq (ht _ s8 σ8 H8 _ I8 q8) λok P ⟨H9,I9,q9⟩=>?_;cases ok with
   |false=>exact again I9 q9
   |true=>
    refine bq (he _ P σ8 H9 _ I9 q9) λxv s10 ⟨y,H10,I10,r10,ys,O,hl,n10⟩=>?_;obtain⟨z,Xh,n',r,hl',e⟩:=I10.lstM O;refine vr RC ⟨_,e,rfl⟩ SJ (Sv _ _) (SH f.heap.objs.size Xh.toArray n' xv<|by rw[OG];lia) ⟨e,?_⟩
    refine again (I10.lset (its':=Xh++[xv]) O e (by simp) (r.append<|.cons r10 .nil) ?_) n10
    rw[OH,PV];lia
 have se:({ f with heap:=h₁ }:el)={ s3 with heap:=h₁,toks:=s3.toks }:=by rw[<- hs3]
 exact WY (loop _ se) (T.self _ 0 _ _ _ st4<|loop _ se)
theorem AC(P:X.calm=true)(co:CompOkC X scope cl ls fs js)(U:PI X tg iter wi)(S:∀(C:eg)(a:el)(H₀:Hp)(j:Xm)(pl:Xq),PG (br X (ls++fs) scope cl C a H₀ j pl) tg g/\FG (br X (ls++fs) scope cl C a H₀ j pl) ifs tt/\PE (br X (ls++fs) scope cl C a H₀ j pl) elt te)(W:∀x,ol iter X.env x=pure x):PE X (.ListComp elt [⟨tg,iter,ifs,0⟩] scope pos) (xC wi ls js g tt te):=by
 intro c s Z H Q I h;rw[eval_ListComp];refine V0 (use:=cm) rfl W co.clos co.kind co.locs (bq (U c s Z H _ I h) λxv s1 E=>bq E λz s2 O=>?_);obtain⟨Y,j,tn,J,H2,e,I2,T,n,F,q⟩:=O;subst e;refine zf (R:=λv C=>compPost (ff X.prog X.w) X.A X.xe cm (EP X c Z Q) v C) (Q:=Q) P co S I2 T n F q ?_;intro p C H' M m N IX G K u f i L;exact⟨m,N,λh' B=>⟨.ref p,H',IX.turned (t':=M.toks) (λb o y e=>B.extBut b o y e) G K (.inr u) f i,rfl,L⟩⟩
end
end _2
namespace _3
open PySem _2
section
variable {X:Cx}{B:Bd}{scope:Pi}{cl:List (Str×eg)}{ls fs:Xk}{js:List Nat}{tg iter elt:fy}{ifs:Xn}{wi:zK}{g:jK}{tt:fC}{te:bp}{pos:Pos}
theorem Og{N:Xk}{C:eg}{a:el}{H₀:Hp}{b:Xm}{pl:Xq}(h:N.Nodup):(br X N scope cl C a H₀ b pl).N.Nodup:=h
theorem Gm(h:FC X scope fs js cl)(s:scope.kind=.function)(f:∀y∈scope.names,(y.2=.free->y.1∈fs)/\(y.2=.cell->y.1∉fs/\scope.names.lookup y.1=ap .cell))(u:∀x∈scope.names,x.2=.local->scope.names.lookup x.1=ap .local)
  (m:Tk scope X.env=pure cl):CompOkC X scope cl ls fs js:=by
 obtain⟨b,v,a,n,p⟩:=h.ok;subst n;refine⟨s,u,m,λy d h=>p (y,d) (Pz h),λy h=>?_,b,λx j i=>((f _ i).2 rfl).1 j,λx j i c e=>((f _ j).2 i).1 (QZ<|Pz e).1⟩;have o:scope.names.lookup y=ap .cell\/y∈fs:=by
  rcases h with h|h
  .obtain⟨q,b,a|⟨a,_⟩⟩:=cD h
   .exact .inl ((f _ b).2 a.symm).2
   .exact .inr ((f _ b).1 a)
  .obtain⟨q,b,a|⟨a,_⟩⟩:=cD h
   .exact .inr ((f _ b).1 a.symm)
   .exact .inr ((f _ b).1 a)
 exact o.imp id (gu a)
theorem C5(q:(scope.names.any λy=>y.2==Rb)=true)(e:X.calm=true)(h:FC X scope fs js cl)(f:scope.kind=.function)(i:∀y∈scope.names,(y.2=.free->y.1∈fs)/\(y.2=.cell->y.1∉fs/\scope.names.lookup y.1=ap .cell))(j:∀x∈scope.names,x.2=.local->scope.names.lookup x.1=ap .local)
  (c:Tk scope X.env=pure cl) (n:DI X B tg iter wi)
  (p:∀(C:eg)(a:el)(H₀:Hp)(b:Xm)(pl:Xq),DG (br X (ls++fs) scope cl C a H₀ b pl) rZ tg g)
  (m:∀(C:eg)(a:el)(H₀:Hp)(b:Xm)(pl:Xq),GH (br X (ls++fs) scope cl C a H₀ b pl) rZ ifs tt)
  (hE:∀(C:eg)(a:el)(H₀:Hp)(b:Xm)(pl:Xq),DE (br X (ls++fs) scope cl C a H₀ b pl) rZ elt te)
  (o:∀x,ol iter X.env x=pure x):DE X B (.ListComp elt [⟨tg,iter,ifs,0⟩] scope pos) (aX wi ls js g tt te):=
 aY (AC (g:=liftG0 X.K g) (tt:=liftT0 X.K tt) (te:=liftE0 X.K te) e (Gm h f i j c) n (λC a H₀ b pl=>⟨uX (p C a H₀ b pl),rK (m C a H₀ b pl),ve<|hE C a H₀ b pl⟩) o) λ_ _ _ h=>jz h
end
section
variable {P:fx}{w:g3}{K:OA}{mg:Xr}{base h:hG}{k n:Nat}{f C:eg}{fd:g4}{N ps:Xk}{S:Sd}{T:DX->aE}{x Xc:Str}{st:tm}{dv:Int}
theorem fnDV(F:FunV K x Xc st f fd)(S:FnScope N ps (aQ st))
  (y:∀(b:ay)(A:i5)(a:List Env)(s:el)(H:Hp)(E:XK)(B:Bd)(EE:DX),Room k (A.deeper<|Rf Xc (aQ st) s.heap.objs.size f b)->uR K B EE E->
   yt (dM (oH P w) P w K mg base N Xc (aQ st) f b A a s H E) B (bv st) (T EE)):
  FnOk P w K mg base (oH P w) (k+1) f fd ps (bK K ps.length<|aI N T):=by
 obtain⟨I,z,kV,o,O,J,b,L,g,_,rfl,lk,e⟩:=F.ex;refine GD lk e S (λp H Q E h=>h.1) λA a s H p Q E j c=>?_;obtain⟨G,v,M,QQ,EE,rh,r,i,u,ux⟩:=c;refine⟨_,y b A a s H E (Bd.of M H) (aA EE) j ux.drp,startN N v,M,{ nx:=λ_ M'=>drp QQ .non M',rt:=drp QQ },⟨Frm.refl,rh,.startN N r⟩,i,⟨?_,u.drp,?_,?_⟩⟩
 .exact λU M' q Z H' f m=>u.drp _ M' q _ H' m.rh f rfl
 .exact λU M' q=>(show False from q).elim
 .exact λU M' q=>(show False from q).elim
abbrev OkV(P:fx)(w:g3)(mg:Xr)(base:hG)(_:FunV K x Xc st f fd)(_:Binds K fd ps [])(k:Nat)(S:Sd):Prop:=FnOk P w K mg base (oH P w) k f fd ps (bK K ps.length S)
theorem NR(i:S=aI N T)(F:FunV K x Xc st f fd)(b:Binds K fd ps [])(e:FnScope N ps (aQ st))
  (g:FnScope N ps (aQ st)->∀(c:ay)(A:i5)(a:List Env)(s:el)(H:Hp)(E:XK)(B:Bd)(EE:DX),Room k (A.deeper<|Rf Xc (aQ st) s.heap.objs.size f c)->uR K B EE E->
   yt (dM (oH P w) P w K mg base N Xc (aQ st) f c A a s H E) B (bv st) (T EE)):OkV P w mg base F b (k+1) S:=by
 subst i;exact fnDV F e (g e)
structure NV(K:OA)(x:Str)(st:tm)(f:eg)(fd:g4)(dv:Int):Prop where
 a:Qd K fv x=ap (ap<|.ref f)
 F:∃(oc:ay)(od:Option eg)(kV doc pm:ay)(an:Option eg)(cdv ct:ay)(osl:Array (Option ay))(T:eg)(ob:Obj)(m:Nat)(t:Tok),
  fd=Rt x x (cb st) (bv st) (aQ st) (.ref T) kV doc pm an cdv ct/\K.lookup f=ap ⟨oc,od,.func fd,osl⟩/\Td K cdv x=true/\K.lookup T=ap ob/\ob.data=.seq #[.int dv t] m
 kp:P8 K (.ref f)=true
theorem Mw{v:ay}{u j q:Option eg}{i g:Array (Option ay)}{kV e p b s o:ay}{T:eg}{m:Nat}{t:Tok}(a:Qd K fv x=ap (ap<|.ref f))
  (l:K.lookup f=ap ⟨v,u,.func (Rt x x (cb st) (bv st) (aQ st) (.ref T) kV e p j b s),i⟩) (c:Td K b x=true) (k:P8 K (.ref f)=true)
  (lt:K.lookup T=ap ⟨o,q,.seq #[.int dv t] m,g⟩):NV K x st f (Rt x x (cb st) (bv st) (aQ st) (.ref T) kV e p j b s) dv:=
 ⟨a,⟨v,u,kV,e,p,j,b,s,i,T,_,m,t,rfl,l,c,lt,rfl⟩,k⟩
abbrev BndV(ps:Xk)(x:Str)(st:tm)(dv:Int):Prop:=∀(kV doc pm:ay)(an:Option eg)(cdv ct:ay)(T:eg)(t:Tok),
 (∀u:ay,∃k,WD (Rt x x (cb st) (bv st) (aQ st) (.ref T) kV doc pm an cdv ct) ⟨[u],[]⟩=WM (.ref T) >>= k/\k (ap #[.int dv t])=pure (ps.zip [u,.int dv t]))/\
 ∀u v:ay,∃k,WD (Rt x x (cb st) (bv st) (aQ st) (.ref T) kV doc pm an cdv ct) ⟨[u,v],[]⟩=WM (.ref T) >>= k/\k (ap #[.int dv t])=pure (ps.zip [u,v])
theorem gv(X:K.In h)(G:h.Ns fv mg)(l:NV K x st f fd dv)(B:ps.length=2)(E:BndV ps x st dv):GV K mg x st f fd ps dv:=by
 obtain⟨a,⟨H,F,kV,e,y,j,b,q,o,T,J,m,t,rfl,I,c,lt,A⟩,kp⟩:=l;refine⟨⟨⟨H,F,kV,e,y,j,b,q,o,T,rfl,I,c⟩,kp⟩,λs i KX g=>?_,⟨t,λs i KX g=>?_⟩,kp,RO X G a⟩
 .rw[Pw]at g ⊢
  match i,g.trans B with
  |[u,v],_=>
   obtain⟨k,p,z⟩:=(E kV e y j b q T t).2 u v;exact W.binds_K KX rfl lt A p z
 .rw[OH,B]at g
  match i,(show i.length=1 by simpa using g) with
  |[u],_=>
   obtain⟨k,p,z⟩:=(E kV e y j b q T t).1 u;exact W.binds_K KX rfl lt A p z
end
section
variable {X:Cx}{B:Bd}{CX:oA}{k n:Nat}{f:eg}{fd:g4}{ps:Xk}{T:Sd}{EE:DX}{E:XK}{x:Str}{st:tm}{p pos:Pos}{e:fy}{es:Xn}{t:fj}{dv:Int}
end
end _3
namespace _3
open PySem _2 PyProof.Rows
section
variable {X:Cx}{B:Bd}
def AL:eY:=λx y M Q=>match x with
 |.ref a=>match M a,y with
  |some (.lst xs),.int i=>0<=i/\match xs[i.toNat]? with
   |some d=>Q d M
   |none=>False
  |_,y=>match pR M a y with
   |some (ap d)=>Q d M
   |_=>False
 |_=>False
theorem F3(S:X.A.units+1<rc):Ms X (liftR2 X AL):=by
 intro m s Z H x y v u Q I p n h;obtain⟨d1,Y,M,QQ,c,O,o,h,E⟩:=h;unfold AL at h
 split at h
 .rename_i a
  cases O
  split at h
  .rename_i T i J
   obtain⟨R,h⟩:=h
   split at h
   .rename_i d e
    cases o;cases p;obtain⟨t,rfl⟩:=n;obtain⟨C,F,P⟩:=c _ _ J;obtain⟨G,r,pl,W⟩:=I.list (SqL.of F);obtain⟨z,f,N⟩:=P.get e;obtain⟨w,L,b⟩:=r.get f;have U:=r.length;have hn:=fO;have K:i.toNat<C.length:=by
     rcases Ql i.toNat C.length with q|q
     .exact q
     .rw[PC q]at f;cases f
    exact wpAny_getItem_list pl.isList R (by lia) (by simpa using L) ⟨z,H,I,b,E _ M h _ H c Frm.refl N⟩
   .exact h.elim
  .split at h
   .rename_i d e
    cases p;rcases lU c o e with⟨z,_⟩|⟨d',w,z,g,b⟩
    .cases z
    .cases z
     exact oR S I g n λw' s3 I3 j=>⟨w,H,I3,j,E _ M h _ H c Frm.refl b⟩
   .exact h.elim
 .exact h.elim
def ue(to ti te:bp)(r:eY):aE:=λD U M=>to U M λo M1=>ti U M1 λi M2=>AL o i M2 λx M3=>te U M3 λy M4=>r x y M4 λz M5=>nz o i z M5 λM6=>D.nx U M6
theorem x_{o i e:fy}{to ti te:bp}{r:eY}{F:V4}{pos tpos:Pos}(G:X.A.units+1<rc)(ho:DE X B o to)(hi:DE X B i ti)(he:DE X B e te)(hp:AI X F (liftR2 X r))
  (ha:∀p n new,augStore i p n new=(do vb [new,p,n] (Ww p n new);release [new,p,n] [];pure .next)):DS X B (.AugAssign (.Subscript o i tpos) F e pos) (ue to ti te r):=by
 refine bJ (Fv ho hi (F3 G) he hp (yq G) ha) ?_
 rintro D Z H ⟨U,M,DD,s,h,up⟩
 refine⟨U,M,_,s,h,λy M1 J v1 H1 a q E=>?_⟩;refine⟨U,M1,_,s.go a q,J,λz M2 Y v2 H2 c m C=>?_⟩;refine⟨y,z,M2,_,c,E.mf a m,C,Y,λN M3 Q v3 H3 b g I=>?_⟩;refine⟨U,M3,_,s.go b ((q.trans m).trans g),Q,λO M4 T v4 H4 v j R=>?_⟩;refine⟨N,O,M4,_,v,I.mf b j,R,T,λS M5 K v5 H5 u w W=>?_⟩;refine⟨y,z,S,M5,_,u,E.mf a (((m.trans g).trans j).trans w),C.mf c ((g.trans j).trans w),W,K,λM6 L H6 x P=>?_⟩;have f:=((((q.trans m).trans g).trans j).trans w).trans P;exact up.nx U M6 L Z H6 f (s.go x f)
end
end _3
namespace _3
open PySem _2
section
variable {X:Cx}{B:Bd}
end
end _3
namespace _2
open PySem PySem.Spec PyProof.Rows
section
variable {X:Cx}{x y:Str}{p pos yp kp:Pos}{e:fy}{es:Xn}{t:TA}{id:String}{kn:Str}{k:ay}{r:List V->Hp->VK->Prop}
end
end _2
namespace _3
open PySem _2 PyProof.Rows
section
variable {X:Cx}{B:Bd}{x y:Str}{p pos yp kp:Pos}{e:fy}{es:Xn}{t:fj}{id:String}{kn:Str}{k:ay}{r:qv}
end
end _3
namespace _3
open PySem _2
section
variable {X:Cx}
def ET:qv:=λb M Q=>match b with
 |[.int a]=>Q (.int (if a<0 then -a else a)) M
 |_=>False
theorem zn:bN X (.builtin "abs") (liftC X ET):=by
 intro a s Z H m j Q I r h;obtain⟨ds,M,QQ,i,c,h,e⟩:=h;unfold ET at h
 split at h
 .rename_i b
  obtain⟨v,rfl,f⟩:=gR (ds:=[]) c;cases f;obtain⟨u,rfl,g⟩:=iU r;obtain⟨t,rfl⟩:=g;exact PyProof.Rows.call_abs_int λu n=>⟨.int _,H,I.tok _,⟨_,rfl⟩,e _ M h _ H i Frm.refl rfl⟩
 .exact h.elim
theorem EA:gl "abs"=ap (.builtin "abs"):=by decide +kernel
end
section
variable {X:Cx}
def FN:eY:=λx y M Q=>match x,y with
 |.str a,.str b=>Q (.bl<|Rx b a) M
 |_,_=>False
theorem Lo:cF X (kc .In) (liftR2 X FN):=by
 intro a s Z H x y v u Q I e b h;obtain⟨n,j,M,QQ,g,f,c,h,i⟩:=h;unfold FN at h
 split at h
 .cases f;cases c
  obtain⟨t,rfl⟩:=e;obtain⟨m,rfl⟩:=b;exact P.in_str ⟨.bl _,H,I,rfl,i _ M h _ H g Frm.refl rfl⟩
 .exact h.elim
def JD(i j:Nat)(ta:fj):aE:=λD U M=>ta U M λa M1=>match a with
 |[x,y]=>D.nx ((U.set i<|some x).set j<|some y) M1
 |_=>False
theorem Lb{B:Bd}{i j:Nat}{x y:Str}{a b:fy}{n:fj}{g e c pos:Pos}{kt k2 pt2}(C:X.calm=true)(E:X.N.Nodup)(K:X.N[i]?=ap x)(G:X.N[j]?=ap y)(f:i≠j)
  (J:X.env.scope.names.lookup x=ap .local) (F:X.env.scope.names.lookup y=ap .local) (L:DA X B [a,b] n)
  (I:Wj [.Tuple [.Name x g,.Name y e] kt c] (.Tuple [a,b] k2 pt2) X.env=pure (ap [x,y]))
  (A:Wi [.Tuple [.Name x g,.Name y e] kt c] (.Tuple [a,b] k2 pt2) pos.line X.env=pure eC):
  DS X B (.Assign [.Tuple [.Name x g,.Name y e] kt c] (.Tuple [a,b] k2 pt2) pos) (JD i j n):=by
 refine bJ (Ja C E K G f J F L I A) ?_
 rintro D Z H ⟨U,M,DD,s,h,w⟩
 refine⟨U,M,_,s,h,λm M' q O H' v i r=>?_⟩;rcases m with _|⟨d1,_|⟨d2,_|⟨d3,m⟩⟩⟩
 .exact(show False from q).elim
 .exact(show False from q).elim
 .obtain⟨v1,u,rfl,p,r⟩:=r
  obtain⟨v2,z,rfl,o,r⟩:=r;cases r;exact⟨_,_,rfl,w.nx _ M' q _ H' i<|((s.go v i).set p).set o⟩
 .exact(show False from q).elim
end
end _3
namespace _S
open PySem PySem.W PySem.Calls PyProof.Rows PyProof.V PySem.Spec
section
variable {prog:fx}{w:g3}{A:i5}{E:Xp}{s:el}{it d:eg}{i n ep:Nat}{od:Obj}{es:Array WR}
end
end _S
namespace _2
open PySem PySem.Spec PyProof.Rows _S
end _2
namespace _3
open PySem _2 _S
section
variable {X:Cx}{B:Bd}
end
end _3
namespace _2
open PySem PySem.Spec PyProof.Rows
section
variable {X:Cx}{tg iter elt:fy}{ifs:Xn}{scope:Pi}{cl:List (Str×eg)}{pos:Pos}{ls fs:Xk}{js:List Nat}{wi:TI}{g:TG}{tt:TT}{te:TE}
end
end _2
namespace _3
open PySem _2
section
variable {X:Cx}{B:Bd}{scope:Pi}{cl:List (Str×eg)}{ls fs:Xk}{js:List Nat}{tg iter elt:fy}{ifs:Xn}{wi:zK}{g:jK}{tt:fC}{te:bp}{pos px spos:Pos}{i:Nat}{x:Str}
end
section
variable {X:Cx}{B:Bd}
end
end _3
namespace _T
open PySem _2 _3
def top(i:Nat):Stmt:=PySem.Challenge.pw_twinstride_k53_whole_shares_come_to_one.main.body.getD i (.Pass ⟨0,0,0,0⟩)
abbrev LM:Stmt:=dZ (top 6) 0
abbrev Mn:Stmt:=dZ (top 6) 1
abbrev Hu:Stmt:=dZ (top 6) 2
abbrev Hn:Stmt:=top 7
abbrev GR:Stmt:=top 8
abbrev Hi:Stmt:=top 9
abbrev GG:Stmt:=top 10
abbrev GB:Stmt:=top 12
abbrev Hk:Stmt:=top 13
abbrev GE:Stmt:=top 14
abbrev GK:Stmt:=top 15
abbrev HR:Stmt:=top 16
abbrev HA:Stmt:=top 18
abbrev HB:Stmt:=top 19
abbrev Gq:Stmt:=top 20
abbrev HD:Stmt:=top 22
abbrev GL:Stmt:=top 24
abbrev Hv:Stmt:=top 26
abbrev Gy:Stmt:=top 27
abbrev Hw:Stmt:=top 28
abbrev Nw:Stmt:=dZ (top 30) 0
abbrev Ml:Stmt:=dZ (top 30) 1
abbrev N7:Stmt:=dZ (top 31) 0
abbrev NC:Stmt:=dZ (top 31) 1
abbrev HH:Stmt:=top 32
abbrev H_:Stmt:=top 33
abbrev HY:Stmt:=top 34
abbrev HV:Stmt:=top 35
abbrev GQ:Stmt:=top 36
abbrev HP:Stmt:=top 38
abbrev GY:Stmt:=top 39
abbrev GX:Stmt:=top 40
abbrev HW:Stmt:=top 41
abbrev MJ:Stmt:=dZ (top 43) 0
abbrev HQ:Stmt:=top 44
abbrev Ie:Stmt:=top 45
abbrev Gz:Stmt:=top 47
abbrev Hy:Stmt:=top 48
abbrev Ho:Stmt:=top 49
abbrev GJ:Stmt:=top 50
abbrev Nm:Stmt:=top 51
abbrev Gv:Stmt:=top 53
abbrev Gu:Stmt:=top 54
abbrev HN:Stmt:=top 55
abbrev HI:Stmt:=top 56
abbrev Hz:Stmt:=top 57
abbrev He:Stmt:=top 58
abbrev Hc:Stmt:=top 59
abbrev Ib:Stmt:=top 60
abbrev Gw:Stmt:=top 61
abbrev Hx:Stmt:=top 62
abbrev O4:Stmt:=top 63
abbrev Hd:Stmt:=top 64
abbrev Hq:Stmt:=top 65
abbrev Gp:Stmt:=top 66
abbrev Ht:Stmt:=top 67
abbrev Go:Stmt:=top 68
abbrev Gx:Stmt:=top 69
abbrev GO:Stmt:=top 70
abbrev MA:Stmt:=top 71
abbrev I0:Stmt:=top 72
abbrev Hf:Stmt:=top 74
abbrev j_:Stmt:=top 75
set_option genInjectivity false in
structure Ad where
 C_Ends:eg
 C_Going:eg
 C_Outcome:eg
 C_Walk:eg
 C_Dry:eg
 C_NoCase:eg
 C_TooMany:eg
 (a1 a2 a3 a4 a5 a6 a7 a8 a9 a10 a11 a12 a13 a14 a15 a16 a17 a18 a19 a20 a21 a22 a23 a24 a25 a26 a27 a28 a29 a30 a31 a32 a33 a34 a35 a36 a37 a38 a39 a40 a41 a42 a43 a44 a45 a46 a47 a48 a49 a50 a51 a52 a53 a54 a55 a56 a57 a58 a59 a60 a61 a62 a63:eg)
 (d1 d2 d3 d4 d5 d6 d7 d8 d9 d10 d11 d12 d13 d14 d15 d16 d17 d18 d19 d20 d21 d22 d23 d24 d25 d26 d27 d28 d29 d30 d31 d32 d33 d34 d35 d36 d37 d38 d39 d40 d41 d42 d43 d44 d45 d46 d47 d48 d49 d50 d51 d52 d53 d54 d55 d56 d57 d58 d59 d60 d61 d62 d63:g4)
def FZ(ad:Ad)(EE:DX):aE:=
 (ai (cu ad.C_Walk (ac 0) (ac 1) "plan")
  (ai (cu ad.C_Walk (ac 0) (fK<|aa (ah au (ac 1)<|dC<|.int 1)<|aa (ah au (ac 2)<|dC<|.int 0) af) "numbers")
  (ai (cu ad.C_Walk (ac 0) (ah au (ac 2)<|dC<|.int 1) "pieces")
  (ai (cu ad.C_Walk (ac 0) (ac 3) "most")
  (cu ad.C_Walk (ac 0) (bQ af) "steps")))))
def FM(ad:Ad):Sd:=aI ["self","plan","stand","most"] (FZ ad)
theorem u_q7{ad:Ad}{n:Nat}{b c e a:D}{M:Mem}{Q:DK}{E:DX}:FM ad [b,c,e,a] M Q E=FZ ad (aA E) { nx:=λ_ M'=>drp Q .non M',rt:=drp Q } [ap b,ap c,ap e,ap a] M:=rfl
def Fk(ad:Ad)(EE:DX):aE:=
 (ai (aH (am<|ah oGe (bz bM<|aa (aZ ad.C_Walk (ac 0) "steps") af)<|aZ ad.C_Walk (ac 0) "most") (ju ad.C_Dry EE) aF)
  (bn<|mM "list" bW (aZ ad.C_Walk (ac 0) "steps")<|aa (aK<|aa (ac 1)<|aa (ac 2) af) af))
def vW(ad:Ad):Sd:=aI ["self","place","number"] (Fk ad)
theorem u_q2{ad:Ad}{n:Nat}{a b c:D}{M:Mem}{Q:DK}{E:DX}:vW ad [a,b,c] M Q E=Fk ad (aA E) { nx:=λ_ M'=>drp Q .non M',rt:=drp Q } [ap a,ap b,ap c] M:=rfl
def wC(ad:Ad)(EE:DX):aE:=
 (ai (ar (o9 (am<|ah bZ (ah au (aZ ad.C_Walk (ac 0) "numbers")<|ac 2)<|dC<|.int 0) (dC<|.int 0)<|dC<|.int 1)<|ag 3)
  (ai (bn<|cV ad.C_Walk "note_step" (vW ad) EE 3 (ac 0)<|aa (ac 1)<|aa (ac 3) af)
  (az<|ac 3)))
def oV(ad:Ad):Sd:=aI ["self","place","name","seen"] (wC ad)
theorem N8{ad:Ad}{n:Nat}{a b c:D}{M:Mem}{Q:DK}{E:DX}:oV ad [a,b,c] M Q E=wC ad (aA E) { nx:=λ_ M'=>drp Q .non M',rt:=drp Q } [ap a,ap b,ap c,cm] M:=rfl
def yf(ad:Ad)(EE:DX):aE:=
 (ai (aH (am<|ah bZ (ac 0)<|dC<|.str "sum") (az<|ah dg (ao<|ah aW (ac 1)<|ac 2)<|ac 3) aF)
  (ai (aH (am<|ah bZ (ac 0)<|dC<|.str "by") (az<|ah dg (ah cI (ac 1)<|ac 2)<|ac 3) aF)
  (ai (aH (am<|ah bZ (ac 0)<|dC<|.str "less") (az<|o9 (am<|ah uQ (ac 1)<|ac 2) (dC<|.int 1)<|dC<|.int 0) aF)
  (az<|o9 (am<|ah bZ (ac 1)<|ac 2) (dC<|.int 1)<|dC<|.int 0))))
def wK(ad:Ad):Sd:=aI ["word","y","z","wheel"] (yf ad)
theorem LK{ad:Ad}{n:Nat}{b c e a:D}{M:Mem}{Q:DK}{E:DX}:wK ad [b,c,e,a] M Q E=yf ad (aA E) { nx:=λ_ M'=>drp Q .non M',rt:=drp Q } [ap b,ap c,ap e,ap a] M:=rfl
def j7(ad:Ad)(EE:DX):aE:=
 (ai (aH (am<|ah bZ (ah au (ac 2)<|dC<|.int 0)<|dC<|.str "take") (az<|ah au (ac 2)<|dC<|.int 2) aF)
  (ai (aH (am<|ah bZ (ah au (ac 2)<|dC<|.int 0)<|dC<|.str "pick") (az<|ah dg (ah au (ac 1)<|ah au (ac 2)<|dC<|.int 2)<|ah au (ac 0)<|dC<|.int 2) aF)
  (az<|dC .non)))
def mO(ad:Ad):Sd:=aI ["plan","numbers","row"] (j7 ad)
theorem p8{ad:Ad}{n:Nat}{a b c:D}{M:Mem}{Q:DK}{E:DX}:mO ad [a,b,c] M Q E=j7 ad (aA E) { nx:=λ_ M'=>drp Q .non M',rt:=drp Q } [ap a,ap b,ap c] M:=rfl
def gg(ad:Ad)(EE:DX):aE:=
 (ai (aH (am<|ah bZ (ah au (ac 3)<|dC<|.int 0)<|dC<|.str "put") (az<|ah au (ac 3)<|dC<|.int 2) aF)
  (ai (ar (ao<|aj (mO ad) EE 3<|aa (ac 0)<|aa (ac 1)<|aa (ac 3) af)<|ag 4)
  (ai (aH (am<|ah h9 (ac 4)<|dC .non) (az<|ah au (ac 2)<|ac 4) aF)
  (az<|aj (wK ad) EE 4<|aa (ah au (ac 3)<|dC<|.int 0)<|aa (ah au (ac 1)<|ah au (ac 3)<|dC<|.int 2)<|aa (ah au (ac 1)<|ah au (ac 3)<|dC<|.int 3)<|aa (ah au (ac 0)<|dC<|.int 0) af))))
def mW(ad:Ad):Sd:=aI ["plan","numbers","pieces","row","piece"] (gg ad)
theorem jU{ad:Ad}{n:Nat}{b c e a:D}{M:Mem}{Q:DK}{E:DX}:mW ad [b,c,e,a] M Q E=gg ad (aA E) { nx:=λ_ M'=>drp Q .non M',rt:=drp Q } [ap b,ap c,ap e,ap a,cm] M:=rfl
def xx(ad:Ad)(U9 Va Vb Vc:Sd)(EE:DX):aE:=
 (cH (k7<|aa (ac 1) af) (fH 2<|b6 (ag 3)<|b6 (ag 4) fm)<|bn<|aj Va EE 3<|aa (ac 0)<|aa (ac 4)<|aa (ah aW (ac 2)<|aK<|aa (ac 3) af) af)
def iW(ad:Ad)(U9 Va Vb Vc:Sd)(EE:DX):aE:=
 (aH (am<|ah bZ (ah au (ac 1)<|dC<|.int 0)<|dC<|.str "if") (bn<|aj Vb EE 3<|aa (ac 0)<|aa (ac 1)<|aa (ac 2) af)<|aH (am<|ah bZ (ah au (ac 1)<|dC<|.int 0)<|dC<|.str "again") (bn<|aj Vc EE 3<|aa (ac 0)<|aa (ac 1)<|aa (ac 2) af) (ai (ar (ao<|aj (mW ad) EE 4<|aa (aZ ad.C_Walk (ac 0) "plan")<|aa (aZ ad.C_Walk (ac 0) "numbers")<|aa (aZ ad.C_Walk (ac 0) "pieces")<|aa (ac 1) af)<|ag 3)
    (ai (bn<|cV ad.C_Walk "note_step" (vW ad) EE 3 (ac 0)<|aa (ac 2)<|aa (ac 3) af)
    (ar (ac 3)<|de (aZ ad.C_Walk (ac 0) "numbers")<|ah au (ac 1)<|dC<|.int 1))))
def y4(ad:Ad)(U9 Va Vb Vc:Sd)(EE:DX):aE:=
 (ai (ar (ao<|cV ad.C_Walk "look" (oV ad) EE 3 (ac 0)<|aa (ac 2)<|aa (ah au (ac 1)<|dC<|.int 1) af)<|ag 3)
  (bn<|aj U9 EE 3<|aa (ac 0)<|aa (o9 (am<|ah bZ (ac 3)<|dC<|.int 1) (ah au (ac 1)<|dC<|.int 2)<|ah au (ac 1)<|dC<|.int 3)<|aa (ah aW (ac 2)<|aK<|aa (ac 3) af) af))
def xM(ad:Ad)(U9 Va Vb Vc:Sd)(EE:DX):aE:=
 (ai (ar (dC<|.int 0)<|ag 3)
  (dQ (am<|ah bZ (ao<|cV ad.C_Walk "look" (oV ad) EE 3 (ac 0)<|aa (ah aW (ac 2)<|aK<|aa (ac 3) af)<|aa (ah au (ac 1)<|dC<|.int 1) af)<|dC<|.int 1) (ai (bn<|aj U9 EE 3<|aa (ac 0)<|aa (ah au (ac 1)<|dC<|.int 2)<|aa (ah aW (ac 2)<|aK<|aa (ac 3) af) af)
   (B5 3 (dC<|.int 1) pb))))
mutual
def U9(ad:Ad):Nat->Sd
 |0=>λ_ _ _ _=>False
 |n+1=>aI ["walk","rows","place","j","row"] (xx ad (U9 ad n) (Va ad n) (Vb ad n)<|Vc ad n)
def Va(ad:Ad):Nat->Sd
 |0=>λ_ _ _ _=>False
 |n+1=>aI ["walk","row","place","number"] (iW ad (U9 ad n) (Va ad n) (Vb ad n)<|Vc ad n)
def Vb(ad:Ad):Nat->Sd
 |0=>λ_ _ _ _=>False
 |n+1=>aI ["walk","row","place","seen"] (y4 ad (U9 ad n) (Va ad n) (Vb ad n)<|Vc ad n)
def Vc(ad:Ad):Nat->Sd
 |0=>λ_ _ _ _=>False
 |n+1=>aI ["walk","row","place","turn"] (xM ad (U9 ad n) (Va ad n) (Vb ad n)<|Vc ad n)
end
theorem N5{ad:Ad}{n:Nat}{a b c:D}{M:Mem}{Q:DK}{E:DX}:U9 ad (n+1) [a,b,c] M Q E=xx ad (U9 ad n) (Va ad n) (Vb ad n) (Vc ad n) (aA E) { nx:=λ_ M'=>drp Q .non M',rt:=drp Q } [ap a,ap b,ap c,cm,cm] M:=rfl
theorem pf{ad:Ad}{n:Nat}{a b c:D}{M:Mem}{Q:DK}{E:DX}:Va ad (n+1) [a,b,c] M Q E=iW ad (U9 ad n) (Va ad n) (Vb ad n) (Vc ad n) (aA E) { nx:=λ_ M'=>drp Q .non M',rt:=drp Q } [ap a,ap b,ap c,cm] M:=rfl
theorem MN{ad:Ad}{n:Nat}{a b c:D}{M:Mem}{Q:DK}{E:DX}:Vb ad (n+1) [a,b,c] M Q E=y4 ad (U9 ad n) (Va ad n) (Vb ad n) (Vc ad n) (aA E) { nx:=λ_ M'=>drp Q .non M',rt:=drp Q } [ap a,ap b,ap c,cm] M:=rfl
theorem MR{ad:Ad}{n:Nat}{a b c:D}{M:Mem}{Q:DK}{E:DX}:Vc ad (n+1) [a,b,c] M Q E=xM ad (U9 ad n) (Va ad n) (Vb ad n) (Vc ad n) (aA E) { nx:=λ_ M'=>drp Q .non M',rt:=drp Q } [ap a,ap b,ap c,cm] M:=rfl
def yr(ad:Ad)(EE:DX):aE:=
 (ai (ar (fY ad.C_Walk (FM ad) EE 4<|aa (ac 0)<|aa (ac 1)<|aa (ac 2) af)<|ag 3)
  (ai (KY ad.C_Dry (U9 ad 24) 3 (aa (ac 3)<|aa (ah au (ac 0)<|dC<|.int 3)<|aa (aK af) af)<|az<|aK<|aa (aZ ad.C_Walk (ac 3) "steps")<|aa (dC .non) af)
  (az<|aK<|aa (aZ ad.C_Walk (ac 3) "steps")<|aa (bz cB<|aa (ao<|aX (bH<|ah au (ac 0)<|dC<|.int 1) ["name"] [3] (ag 0) dG<|ah au (aZ ad.C_Walk (ac 1) "numbers")<|ac 0) af) af)))
def ua(ad:Ad):Sd:=aI ["plan","stand","most","walk"] (yr ad)
theorem Nq{ad:Ad}{n:Nat}{a b c:D}{M:Mem}{Q:DK}{E:DX}:ua ad [a,b,c] M Q E=yr ad (aA E) { nx:=λ_ M'=>drp Q .non M',rt:=drp Q } [ap a,ap b,ap c,cm] M:=rfl
def xb(ad:Ad)(EE:DX):aE:=
 (ai (ar (ah au (ou<|aj (ua ad) EE 3<|aa (ac 0)<|aa (ac 1)<|aa (ac 2) af)<|dC<|.int 1)<|ag 3)
  (ai (aH (am<|ah jC (ac 3)<|dC .non) (az<|dC .non) aF)
  (az<|ah au (ac 3)<|Mq nU (ah au (ac 0)<|dC<|.int 1)<|aa (ah au (ac 0)<|dC<|.int 4) af)))
def oN(ad:Ad):Sd:=aI ["plan","stand","most","end"] (xb ad)
theorem MP{ad:Ad}{n:Nat}{a b c:D}{M:Mem}{Q:DK}{E:DX}:oN ad [a,b,c] M Q E=xb ad (aA E) { nx:=λ_ M'=>drp Q .non M',rt:=drp Q } [ap a,ap b,ap c,cm] M:=rfl
def yD(ad:Ad)(EE:DX):aE:=
 (az<|ah aW (ao<|bz eR<|aa (ah au (ac 0)<|dC<|.int 1) af)<|ao<|uz<|aa (ah au (ac 0)<|dC<|.int 2) af)
def sK(ad:Ad):Sd:=aI ["plan"] (yD ad)
theorem NM{ad:Ad}{n:Nat}{a:D}{M:Mem}{Q:DK}{E:DX}:sK ad [a] M Q E=yD ad (aA E) { nx:=λ_ M'=>drp Q .non M',rt:=drp Q } [ap a] M:=rfl
def kK(ad:Ad)(EE:DX):aE:=
 (az<|aX (bH<|ao<|aj (sK ad) EE 1<|aa (ac 0) af) ["thing"] [2] (ag 0) (am<|ah C1 (ac 0)<|ac 1)<|ac 0)
def xw(ad:Ad)(EE:DX):aE:=
 (ai (ar (bz fS<|aa (ao<|aX (bH<|ac 1) ["thing"] [] (ag 0) dG<|aK<|aa (ac 0)<|aa (dC<|.bl true) af) af)<|ag 2)
  (kK ad EE))
def wL(ad:Ad):Sd:=aI ["plan","things","wanted"] (xw ad)
theorem Mp{ad:Ad}{n:Nat}{a b:D}{M:Mem}{Q:DK}{E:DX}:wL ad [a,b] M Q E=xw ad (aA E) { nx:=λ_ M'=>drp Q .non M',rt:=drp Q } [ap a,ap b,cm] M:=rfl
def tB(ad:Ad)(EE:DX):aE:=
 (ai (aH (dm<|bz yW<|aa (ac 2)<|aa (dC<|.ty "str") af) (az<|ah au (ah au (ac 1)<|dC<|.int 0)<|Mq nU (ah au (ac 0)<|dC<|.int 1)<|aa (ac 2) af) aF)
  (az<|ah au (ah au (ac 1)<|dC<|.int 1)<|ac 2))
def jX(ad:Ad):Sd:=aI ["plan","stand","thing"] (tB ad)
theorem GT{ad:Ad}{n:Nat}{a b c:D}{M:Mem}{Q:DK}{E:DX}:jX ad [a,b,c] M Q E=tB ad (aA E) { nx:=λ_ M'=>drp Q .non M',rt:=drp Q } [ap a,ap b,ap c] M:=rfl
def iO(ad:Ad)(EE:DX):aE:=
 (ai (aH (Ak (am<|ah bZ (ah au (ac 0)<|dC<|.int 0)<|dC<|.str "if")<|am<|ah bZ (ah au (ac 0)<|dC<|.int 0)<|dC<|.str "again") (az<|bQ<|aa (ah au (ac 0)<|dC<|.int 1) af) aF)
  (ai (aH (Ak (am<|ah bZ (ah au (ac 0)<|dC<|.int 0)<|dC<|.str "put")<|am<|ah bZ (ah au (ac 0)<|dC<|.int 0)<|dC<|.str "take") (az<|bQ af) aF)
  (az<|bz eR<|aa (ao<|tR (ac 0) (cK<|dC<|.int 2) bI) af)))
def yS(ad:Ad):Sd:=aI ["row"] (iO ad)
theorem pA{ad:Ad}{n:Nat}{a:D}{M:Mem}{Q:DK}{E:DX}:yS ad [a] M Q E=iO ad (aA E) { nx:=λ_ M'=>drp Q .non M',rt:=drp Q } [ap a] M:=rfl
def xa(ad:Ad)(EE:DX):aE:=
 (az<|aX (bH<|ao<|aj (sK ad) EE 1<|aa (ac 0) af) ["thing"] [0,2,1] (ag 0) (am<|ah k8 (ao<|aj (jX ad) iY 3<|aa (ac 1)<|aa (ac 3)<|aa (ac 0) af)<|ao<|aj (jX ad) iY 3<|aa (ac 1)<|aa (ac 2)<|aa (ac 0) af)<|ac 0)
def yP(ad:Ad):Sd:=aI ["plan","one","other"] (xa ad)
theorem Nx{ad:Ad}{n:Nat}{a b c:D}{M:Mem}{Q:DK}{E:DX}:yP ad [a,b,c] M Q E=xa ad (aA E) { nx:=λ_ M'=>drp Q .non M',rt:=drp Q } [ap a,ap b,ap c] M:=rfl
def pT(ad:Ad)(EE:DX):aE:=
 (ai (aH (am<|ah bZ (ac 1)<|ac 2) (ju ad.C_NoCase EE) aF)
  (az<|aK<|aa (ac 1)<|aa (ac 2) af))
def m4(ad:Ad)(EE:DX):aE:=
 (ai (aH (Ak (am<|ah jC (ac 1)<|dC .non)<|am<|ah jC (ac 2)<|dC .non) (ju ad.C_NoCase EE) aF)
  (pT ad EE))
def qN(ad:Ad)(EE:DX):aE:=
 (ai (ar (ao<|aj (oN ad) EE 3<|aa (ah au (ac 0)<|dC<|.int 0)<|aa (ah au (ac 0)<|dC<|.int 2)<|aa (ah au (ac 0)<|dC<|.int 3) af)<|ag 2)
  (m4 ad EE))
def y6(ad:Ad)(EE:DX):aE:=
 (ai (ar (ao<|aj (oN ad) EE 3<|aa (ah au (ac 0)<|dC<|.int 0)<|aa (ah au (ac 0)<|dC<|.int 1)<|aa (ah au (ac 0)<|dC<|.int 3) af)<|ag 1)
  (qN ad EE))
def uJ(ad:Ad):Sd:=aI ["case","sound","faulty"] (y6 ad)
theorem LV{ad:Ad}{n:Nat}{a:D}{M:Mem}{Q:DK}{E:DX}:uJ ad [a] M Q E=y6 ad (aA E) { nx:=λ_ M'=>drp Q .non M',rt:=drp Q } [ap a,cm,cm] M:=rfl
def xA(ad:Ad)(EE:DX):aE:=
 (az<|aj (yP ad) EE 3<|aa (ah au (ac 0)<|dC<|.int 0)<|aa (ah au (ac 0)<|dC<|.int 1)<|aa (ah au (ac 0)<|dC<|.int 2) af)
def k4(ad:Ad):Sd:=aI ["case"] (xA ad)
theorem MB{ad:Ad}{n:Nat}{a:D}{M:Mem}{Q:DK}{E:DX}:k4 ad [a] M Q E=xA ad (aA E) { nx:=λ_ M'=>drp Q .non M',rt:=drp Q } [ap a] M:=rfl
def uM(ad:Ad)(EE:DX):aE:=
 (ai (aH (am<|ah bZ (ac 1)<|ah au (ac 0)<|dC<|.int 0) (az<|dC<|.str "sound") aF)
  (ai (aH (am<|ah bZ (ac 1)<|ah au (ac 0)<|dC<|.int 1) (az<|dC<|.str "faulty") aF)
  (az<|dC<|.str "other")))
def wH(ad:Ad):Sd:=aI ["two","one"] (uM ad)
theorem Hj{ad:Ad}{n:Nat}{a b:D}{M:Mem}{Q:DK}{E:DX}:wH ad [a,b] M Q E=uM ad (aA E) { nx:=λ_ M'=>drp Q .non M',rt:=drp Q } [ap a,ap b] M:=rfl
def G6(ad:Ad)(EE:DX):aE:=
 (ai (cu ad.C_Going (ac 0) (ac 1) "numbers")
  (ai (cu ad.C_Going (ac 0) (ac 2) "pieces")
  (ai (cu ad.C_Going (ac 0) (ac 3) "unsettled")
  (ai (cu ad.C_Going (ac 0) (ac 4) "todo")
  (cu ad.C_Going (ac 0) (ac 5) "left")))))
def BP(ad:Ad):Sd:=aI ["self","numbers","pieces","unsettled","todo","left"] (G6 ad)
theorem u_q3{ad:Ad}{n:Nat}{b f a c g e:D}{M:Mem}{Q:DK}{E:DX}:BP ad [b,f,a,c,g,e] M Q E=G6 ad (aA E) { nx:=λ_ M'=>drp Q .non M',rt:=drp Q } [ap b,ap f,ap a,ap c,ap g,ap e] M:=rfl
def wc(ad:Ad)(EE:DX):aE:=
 (ar (ac 2)<|de (aZ ad.C_Going (ac 3) "numbers")<|ac 1)
def vt(ad:Ad)(EE:DX):aE:=
 (ar (ac 2)<|de (aZ ad.C_Going (ac 3) "pieces")<|ac 1)
def qL(ad:Ad)(EE:DX):aE:=
 (ai (aH (dm<|bz yW<|aa (ac 1)<|aa (dC<|.ty "str") af) (wc ad EE)<|vt ad EE)
  (az<|ac 3))
def rE(ad:Ad)(EE:DX):aE:=
 (ai (bn<|C7 (aZ ad.C_Going (ac 3) "unsettled")<|ac 1)
  (qL ad EE))
def El(ad:Ad)(EE:DX):aE:=
 (ai (ar (fY ad.C_Going (BP ad) EE 6<|aa (bz mT<|aa (aZ ad.C_Going (ac 0) "numbers") af)<|aa (bz eR<|aa (aZ ad.C_Going (ac 0) "pieces") af)<|aa (bz mT<|aa (aZ ad.C_Going (ac 0) "unsettled") af)<|aa (aZ ad.C_Going (ac 0) "todo")<|aa (aZ ad.C_Going (ac 0) "left") af)<|ag 3)
  (rE ad EE))
def Ag(ad:Ad):Sd:=aI ["self","thing","number","other"] (El ad)
theorem u_q5{ad:Ad}{n:Nat}{a b c:D}{M:Mem}{Q:DK}{E:DX}:Ag ad [a,b,c] M Q E=El ad (aA E) { nx:=λ_ M'=>drp Q .non M',rt:=drp Q } [ap a,ap b,ap c,cm] M:=rfl
def E8(ad:Ad)(EE:DX):aE:=
 (ai (cu ad.C_Ends (ac 0) (ac 1) "limit")
  (cu ad.C_Ends (ac 0) (dC<|.int 0) "count"))
def K0(ad:Ad):Sd:=aI ["self","limit"] (E8 ad)
theorem u_q8{ad:Ad}{n:Nat}{a b:D}{M:Mem}{Q:DK}{E:DX}:K0 ad [a,b] M Q E=E8 ad (aA E) { nx:=λ_ M'=>drp Q .non M',rt:=drp Q } [ap a,ap b] M:=rfl
def wt(ad:Ad)(EE:DX):aE:=
 (aH (am<|ah uf (aZ ad.C_Ends (ac 0) "count")<|aZ ad.C_Ends (ac 0) "limit") (ju ad.C_TooMany EE) aF)
def Gj(ad:Ad)(EE:DX):aE:=
 (ai (pO ad.C_Ends (ac 0) (dC<|.int 1) "count")
  (wt ad EE))
def C_(ad:Ad):Sd:=aI ["self"] (Gj ad)
theorem u_q4{ad:Ad}{n:Nat}{a:D}{M:Mem}{Q:DK}{E:DX}:C_ ad [a] M Q E=Gj ad (aA E) { nx:=λ_ M'=>drp Q .non M',rt:=drp Q } [ap a] M:=rfl
def qI(ad:Ad)(EE:DX):aE:=
 (ar (aK<|aa (ac 2)<|aa (ac 1) af)<|ag 1)
def wI(ad:Ad)(EE:DX):aE:=
 (ai (cH (Io<|aa (ac 0) af) (ag 2)<|qI ad EE)
  (az<|ac 1))
def nv(ad:Ad):Sd:=aI ["rows","todo","row"] (wI ad)
theorem MZ{ad:Ad}{n:Nat}{a b:D}{M:Mem}{Q:DK}{E:DX}:nv ad [a,b] M Q E=wI ad (aA E) { nx:=λ_ M'=>drp Q .non M',rt:=drp Q } [ap a,ap b,cm] M:=rfl
def mm(ad:Ad)(EE:DX):aE:=
 (az<|fY ad.C_Going (BP ad) EE 6<|aa (fK<|aa (ah au (ac 1)<|dC<|.int 1)<|aa (ah au (ac 2)<|dC<|.int 0) af)<|aa (bz eR<|aa (ah au (ac 2)<|dC<|.int 1) af)<|aa (ac 3)<|aa (ao<|aj (nv ad) EE 2<|aa (ah au (ac 1)<|dC<|.int 3)<|aa (dC .non) af)<|aa (ah au (ac 0)<|dC<|.int 3) af)
def ma(ad:Ad)(EE:DX):aE:=
 (ai (ar (bz fS<|aa (ao<|aX (bH<|ao<|aj (k4 ad) EE 1<|aa (ac 0) af) ["thing"] [] (ag 0) dG<|aK<|aa (ac 0)<|aa (dC<|.bl true) af) af)<|ag 3)
  (mm ad EE))
def qr(ad:Ad)(EE:DX):aE:=
 (ai (ar (ah au (ac 0)<|dC<|.int 1)<|ag 2)
  (ma ad EE))
def yj(ad:Ad)(EE:DX):aE:=
 (ai (ar (ah au (ac 0)<|dC<|.int 0)<|ag 1)
  (qr ad EE))
def yu(ad:Ad):Sd:=aI ["case","plan","sound","unsettled"] (yj ad)
theorem NS{ad:Ad}{n:Nat}{a:D}{M:Mem}{Q:DK}{E:DX}:yu ad [a] M Q E=yj ad (aA E) { nx:=λ_ M'=>drp Q .non M',rt:=drp Q } [ap a,cm,cm,cm] M:=rfl
def r8(ad:Ad)(EE:DX):aE:=
 (az<|ah au (ao<|aj (wL ad) EE 2<|aa (ac 0)<|aa (ac 3) af)<|dC<|.int 0)
def qD(ad:Ad)(EE:DX):aE:=
 (az<|o9 (am<|ah BW (ac 4)<|aZ ad.C_Going (ac 1) "unsettled") (ac 4)<|dC .non)
def lY(ad:Ad)(EE:DX):aE:=
 (ai (ar (ao<|aj (mO ad) EE 3<|aa (ac 0)<|aa (aZ ad.C_Going (ac 1) "numbers")<|aa (ac 2) af)<|ag 4)
  (qD ad EE))
def lG(ad:Ad)(EE:DX):aE:=
 (ai (aH (dm<|ac 3) (r8 ad EE) aF)
  (lY ad EE))
def lq(ad:Ad)(EE:DX):aE:=
 (ai (cG (cZ 3<|aX (bH<|ao<|aj (yS ad) EE 1<|aa (ac 2) af) ["name"] [1] (ag 0) (am<|ah C1 (ac 0)<|aZ ad.C_Going (ac 1) "unsettled")<|ac 0) 3)
  (lG ad EE))
def xT(ad:Ad)(EE:DX):aE:=
 (ai (aH (i9<|dm<|aZ ad.C_Going (ac 1) "unsettled") (az<|dC .non) aF)
  (lq ad EE))
def yU(ad:Ad):Sd:=aI ["plan","going","row","found","piece"] (xT ad)
theorem Nd{ad:Ad}{n:Nat}{a b c:D}{M:Mem}{Q:DK}{E:DX}:yU ad [a,b,c] M Q E=xT ad (aA E) { nx:=λ_ M'=>drp Q .non M',rt:=drp Q } [ap a,ap b,ap c,cm,cm] M:=rfl
def rT(ad:Ad)(EE:DX):aE:=
 (cu ad.C_Going (ac 1) (ao<|aj (nv ad) EE 2<|aa (o9 (am<|ah bZ (ah au (aZ ad.C_Going (ac 1) "numbers")<|ah au (ac 2)<|dC<|.int 1)<|dC<|.int 0) (ah au (ac 2)<|dC<|.int 3)<|ah au (ac 2)<|dC<|.int 2)<|aa (aZ ad.C_Going (ac 1) "todo") af) "todo")
def qY(ad:Ad)(EE:DX):aE:=
 (aH (am<|ah k8 (ah au (aZ ad.C_Going (ac 1) "numbers")<|ah au (ac 2)<|dC<|.int 1)<|dC<|.int 0) (cu ad.C_Going (ac 1) (ao<|aj (nv ad) EE 2<|aa (ah au (ac 2)<|dC<|.int 2)<|aa (aK<|aa (ac 2)<|aa (aZ ad.C_Going (ac 1) "todo") af) af) "todo") aF)
def pU(ad:Ad)(EE:DX):aE:=
 (bn<|Dn (aZ ad.C_Going (ac 1) "unsettled") (ah au (ac 2)<|dC<|.int 1)<|dC .non)
def gI(ad:Ad)(EE:DX):aE:=
 (ai (ar (ao<|aj (mW ad) EE 4<|aa (ac 0)<|aa (aZ ad.C_Going (ac 1) "numbers")<|aa (aZ ad.C_Going (ac 1) "pieces")<|aa (ac 2) af)<|de (aZ ad.C_Going (ac 1) "numbers")<|ah au (ac 2)<|dC<|.int 1)
    (pU ad EE))
def mi(ad:Ad)(EE:DX):aE:=
 (aH (am<|ah bZ (ah au (ac 2)<|dC<|.int 0)<|dC<|.str "again") (qY ad EE)<|gI ad EE)
def gQ(ad:Ad)(EE:DX):aE:=
 (aH (am<|ah bZ (ah au (ac 2)<|dC<|.int 0)<|dC<|.str "if") (rT ad EE)<|mi ad EE)
def qe(ad:Ad)(EE:DX):aE:=
 (ai (cu ad.C_Going (ac 1) (ah au (aZ ad.C_Going (ac 1) "todo")<|dC<|.int 1) "todo")
  (gQ ad EE))
def xq(ad:Ad)(EE:DX):aE:=
 (ai (qm ad.C_Going (ac 1) (dC<|.int 1) "left")
  (qe ad EE))
def yQ(ad:Ad):Sd:=aI ["plan","going","row"] (xq ad)
theorem Mm{ad:Ad}{n:Nat}{a b c:D}{M:Mem}{Q:DK}{E:DX}:yQ ad [a,b,c] M Q E=xq ad (aA E) { nx:=λ_ M'=>drp Q .non M',rt:=drp Q } [ap a,ap b,ap c] M:=rfl
def pJ(ad:Ad)(EE:DX):aE:=
 (bn<|aj (yQ ad) EE 3<|aa (ac 0)<|aa (ac 1)<|aa (ac 2) af)
def lE(ad:Ad)(EE:DX):aE:=
 (ai (aH (am<|ah h9 (ac 3)<|dC .non) (az<|ac 3) aF)
   (pJ ad EE))
def pW(ad:Ad)(EE:DX):aE:=
 (ai (ar (ao<|aj (yU ad) EE 3<|aa (ac 0)<|aa (ac 1)<|aa (ac 2) af)<|ag 3)
   (lE ad EE))
def m5(ad:Ad)(EE:DX):aE:=
 (ai (ar (ah au (aZ ad.C_Going (ac 1) "todo")<|dC<|.int 0)<|ag 2)
   (pW ad EE))
def gP(ad:Ad)(EE:DX):aE:=
 (ai (aH (am<|ah oLe (aZ ad.C_Going (ac 1) "left")<|dC<|.int 0) (az<|dC .non) aF)
   (m5 ad EE))
def rR(ad:Ad)(EE:DX):aE:=
 (az<|o9 (am<|ah C1 (ah au (ac 0)<|dC<|.int 4)<|aZ ad.C_Going (ac 1) "unsettled") (ah au (ac 0)<|dC<|.int 4)<|dC .non)
def wN(ad:Ad)(EE:DX):aE:=
 (ai (dQ (am<|ah h9 (aZ ad.C_Going (ac 1) "todo")<|dC .non)<|gP ad EE)
  (rR ad EE))
def yI(ad:Ad):Sd:=aI ["plan","going","row","asked"] (wN ad)
theorem Ob{ad:Ad}{n:Nat}{a b:D}{M:Mem}{Q:DK}{E:DX}:yI ad [a,b] M Q E=wN ad (aA E) { nx:=λ_ M'=>drp Q .non M',rt:=drp Q } [ap a,ap b,cm,cm] M:=rfl
def yL(ad:Ad)(EE:DX):aE:=
 (az<|o9 (am<|ah jC (aZ ad.C_Going (ac 1) "todo")<|dC .non) (ah au (aZ ad.C_Going (ac 1) "numbers")<|ah au (ac 0)<|dC<|.int 4)<|dC .non)
def yR(ad:Ad):Sd:=aI ["plan","going"] (yL ad)
theorem NJ{ad:Ad}{n:Nat}{a b:D}{M:Mem}{Q:DK}{E:DX}:yR ad [a,b] M Q E=yL ad (aA E) { nx:=λ_ M'=>drp Q .non M',rt:=drp Q } [ap a,ap b] M:=rfl
def yz(ad:Ad)(EE:DX):aE:=
 (az<|aX (bH<|ao<|tR (ac 0) (cK<|dC<|.int 1)<|cK<|dC<|.int 3) ["stand"] [2,1,0] (ag 0) dG<|ao<|cV ad.C_Going "settled" (Ag ad) iY 3 (ac 2)<|aa (ac 1)<|aa (ao<|aj (jX ad) iY 3<|aa (ah au (ac 3)<|dC<|.int 0)<|aa (ac 0)<|aa (ac 1) af) af)
def xf(ad:Ad):Sd:=aI ["case","going","thing"] (yz ad)
theorem N4{ad:Ad}{n:Nat}{a b c:D}{M:Mem}{Q:DK}{E:DX}:xf ad [a,b,c] M Q E=yz ad (aA E) { nx:=λ_ M'=>drp Q .non M',rt:=drp Q } [ap a,ap b,ap c] M:=rfl
def rH(ad:Ad)(U8:Sd)(EE:DX):aE:=
 (az<|aK<|aa (dC<|.str "end")<|aa (aj (yR ad) EE 2<|aa (ah au (ac 0)<|dC<|.int 0)<|aa (ac 1) af) af)
def lW(ad:Ad)(U8:Sd)(EE:DX):aE:=
 (az<|aK<|aa (dC<|.str "ask")<|aa (ac 3)<|aa (aj U8 EE 3<|aa (ac 0)<|aa (ah au (ac 4)<|dC<|.int 0)<|aa (ac 2) af)<|aa (aj U8 EE 3<|aa (ac 0)<|aa (ah au (ac 4)<|dC<|.int 1)<|aa (ac 2) af) af)
def kF(ad:Ad)(U8:Sd)(EE:DX):aE:=
 (ai (ar (ao<|aj (xf ad) EE 3<|aa (ac 0)<|aa (ac 1)<|aa (ac 3) af)<|ag 4)
  (lW ad U8 EE))
def lC(ad:Ad)(U8:Sd)(EE:DX):aE:=
 (ai (bn<|cV ad.C_Ends "one_more" (C_ ad) EE 1 (ac 2) af)
  (kF ad U8 EE))
def kE(ad:Ad)(U8:Sd)(EE:DX):aE:=
 (ai (aH (am<|ah jC (ac 3)<|dC .non) (rH ad U8 EE) aF)
  (lC ad U8 EE))
def yg(ad:Ad)(U8:Sd)(EE:DX):aE:=
 (ai (ar (ao<|aj (yI ad) EE 2<|aa (ah au (ac 0)<|dC<|.int 0)<|aa (ac 1) af)<|ag 3)
  (kE ad U8 EE))
def U8(ad:Ad):Nat->Sd
 |0=>λ_ _ _ _=>False
 |n+1=>aI ["case","going","ends","asked","ways"] (yg ad<|U8 ad n)
theorem Oj{ad:Ad}{n:Nat}{a b c:D}{M:Mem}{Q:DK}{E:DX}:U8 ad (n+1) [a,b,c] M Q E=yg ad (U8 ad n) (aA E) { nx:=λ_ M'=>drp Q .non M',rt:=drp Q } [ap a,ap b,ap c,cm,cm] M:=rfl
def qu(ad:Ad)(EE:DX):aE:=
 (az<|aj (U8 ad 24) EE 3<|aa (ac 0)<|aa (ao<|aj (yu ad) EE 1<|aa (ac 0) af)<|aa (ac 2) af)
def kC(ad:Ad)(EE:DX):aE:=
 (ai (bn<|cV ad.C_Ends "one_more" (C_ ad) EE 1 (ac 2) af)
  (qu ad EE))
def qh(ad:Ad)(EE:DX):aE:=
 (ai (ar (fY ad.C_Ends (K0 ad) EE 2<|aa (ac 1) af)<|ag 2)
  (kC ad EE))
def xI(ad:Ad)(EE:DX):aE:=
 (ai (bn<|aj (uJ ad) EE 1<|aa (ac 0) af)
  (qh ad EE))
def wQ(ad:Ad):Sd:=aI ["case","limit","ends"] (xI ad)
theorem LZ{ad:Ad}{n:Nat}{a b:D}{M:Mem}{Q:DK}{E:DX}:wQ ad [a,b] M Q E=xI ad (aA E) { nx:=λ_ M'=>drp Q .non M',rt:=drp Q } [ap a,ap b,cm] M:=rfl
def DB(ad:Ad)(EE:DX):aE:=
 (ai (cu ad.C_Outcome (ac 0) (ac 1) "verdict")
  (ai (cu ad.C_Outcome (ac 0) (ac 2) "sound")
  (cu ad.C_Outcome (ac 0) (ac 3) "faulty")))
def FF(ad:Ad):Sd:=aI ["self","verdict","sound","faulty"] (DB ad)
theorem u_q0{ad:Ad}{n:Nat}{b c e a:D}{M:Mem}{Q:DK}{E:DX}:FF ad [b,c,e,a] M Q E=DB ad (aA E) { nx:=λ_ M'=>drp Q .non M',rt:=drp Q } [ap b,ap c,ap e,ap a] M:=rfl
def qV(ad:Ad)(EE:DX):aE:=
 (bn<|mM "list" bW (ac 4)<|aa (fY ad.C_Outcome (FF ad) EE 4<|aa (ao<|aj (wH ad) EE 2<|aa (ac 2)<|aa (ah au (ah au (ac 6)<|dC<|.int 0)<|dC<|.int 1) af)<|aa (ac 7)<|aa (ac 8) af) af)
def qB(ad:Ad)(EE:DX):aE:=
 (bn<|mM "list" bW (ac 5)<|aa (aK<|aa (ah au (ah au (ac 6)<|dC<|.int 0)<|dC<|.int 3)<|aa (ac 7)<|aa (ah oOr (ac 8)<|ac 9) af) af)
def rS(ad:Ad)(EE:DX):aE:=
 (ai (bn<|mM "list" bW (ac 5)<|aa (aK<|aa (ah au (ah au (ac 6)<|dC<|.int 0)<|dC<|.int 2)<|aa (ah oOr (ac 7)<|ac 9)<|aa (ac 8) af) af)
    (qB ad EE))
def qK(ad:Ad)(EE:DX):aE:=
 (ai (ar (ah au (ac 3)<|ah au (ah au (ac 6)<|dC<|.int 0)<|dC<|.int 1)<|ag 9)
    (rS ad EE))
def kX(ad:Ad)(EE:DX):aE:=
 (aH (am<|ah bZ (ah au (ah au (ac 6)<|dC<|.int 0)<|dC<|.int 0)<|dC<|.str "end") (qV ad EE)<|qK ad EE)
def qj(ad:Ad)(EE:DX):aE:=
 (ai (ar (ah au (ac 6)<|dC<|.int 2)<|ag 8)
   (kX ad EE))
def kU(ad:Ad)(EE:DX):aE:=
 (ai (ar (ah au (ac 6)<|dC<|.int 1)<|ag 7)
   (qj ad EE))
def gJ(ad:Ad)(EE:DX):aE:=
 (ai (ar (mM "list" zo (ac 5) af)<|ag 6)
   (kU ad EE))
def qf(ad:Ad)(EE:DX):aE:=
 (ai (dQ (dm<|ac 5)<|gJ ad EE)
  (az<|ac 4))
def iP(ad:Ad)(EE:DX):aE:=
 (ai (ar (bQ<|aa (aK<|aa (aj (wQ ad) EE 2<|aa (ac 0)<|aa (ac 1) af)<|aa (dC<|.int 0)<|aa (dC<|.int 0) af) af)<|ag 5)
  (qf ad EE))
def io(ad:Ad)(EE:DX):aE:=
 (ai (ar (bz fS<|aa (ao<|aX (k7<|aa (ao<|aj (k4 ad) EE 1<|aa (ac 0) af) af) ["number","thing"] [] (fH 2<|b6 (ag 0)<|b6 (ag 1) fm) dG<|aK<|aa (ac 1)<|aa (ah Lm (dC<|.int 1)<|ac 0) af) af)<|ag 3)
  (ai (ar (bQ af)<|ag 4)
  (iP ad EE)))
def yN(ad:Ad)(EE:DX):aE:=
 (ai (ar (ao<|aj (uJ ad) EE 1<|aa (ac 0) af)<|ag 2)
  (io ad EE))
def y2(ad:Ad):Sd:=aI ["case","limit","two","bit_of","found","waiting","here","sound","faulty","bit"] (yN ad)
theorem Op{ad:Ad}{n:Nat}{a b:D}{M:Mem}{Q:DK}{E:DX}:y2 ad [a,b] M Q E=yN ad (aA E) { nx:=λ_ M'=>drp Q .non M',rt:=drp Q } [ap a,ap b,cm,cm,cm,cm,cm,cm,cm,cm] M:=rfl
def xQ(ad:Ad)(EE:DX):aE:=
 (az<|aX (fG<|aa (mM "int" kA (ac 0) af) af) ["number"] [0] (ag 0) (am<|ah bZ (ah Kx (ah Iz (ac 1)<|ac 0)<|dC<|.int 1)<|dC<|.int 1)<|ac 0)
def sw(ad:Ad):Sd:=aI ["bits"] (xQ ad)
theorem NA{ad:Ad}{n:Nat}{a:D}{M:Mem}{Q:DK}{E:DX}:sw ad [a] M Q E=xQ ad (aA E) { nx:=λ_ M'=>drp Q .non M',rt:=drp Q } [ap a] M:=rfl
def vg(ad:Ad)(EE:DX):aE:=
 (ai (ar (ac 3)<|ag 2)
   (ar (ac 4)<|ag 3))
def nS(ad:Ad)(EE:DX):aE:=
 (ai (ar (ah dg (ac 2)<|ac 3)<|ag 4)
   (vg ad EE))
def vM(ad:Ad)(EE:DX):aE:=
 (az<|aK<|aa (ah i7 (ac 0)<|ac 2)<|aa (ah i7 (ac 1)<|ac 2) af)
def v_(ad:Ad)(EE:DX):aE:=
 (ai (dQ (am<|ah k8 (ac 3)<|dC<|.int 0)<|nS ad EE)
  (vM ad EE))
def wd(ad:Ad)(EE:DX):aE:=
 (ai (ar (ah dg (ac 0)<|ac 1)<|ag 3)
  (v_ ad EE))
def DP(ad:Ad)(EE:DX):aE:=
 (ai (ar (ac 1)<|ag 2)
  (wd ad EE))
def Ei(ad:Ad):Sd:=aI ["n","d","divisor","rest","behind"] (DP ad)
theorem u_q1{ad:Ad}{n:Nat}{a b:D}{M:Mem}{Q:DK}{E:DX}:Ei ad [a,b] M Q E=DP ad (aA E) { nx:=λ_ M'=>drp Q .non M',rt:=drp Q } [ap a,ap b,cm,cm,cm] M:=rfl
def rJ(ad:Ad)(EE:DX):aE:=
 (bn<|mM "list" bW (ac 1)<|aa (ah cI (ah au (ac 1)<|vz<|dC<|.int 1)<|ah aW (ac 2)<|dC<|.int 1) af)
def rB(ad:Ad)(EE:DX):aE:=
 (ai (cH (fG<|aa (ac 0) af) (ag 2)<|rJ ad EE)
  (az<|ac 1))
def xl(ad:Ad)(EE:DX):aE:=
 (ai (ar (bQ<|aa (dC<|.int 1) af)<|ag 1)
  (rB ad EE))
def tD(ad:Ad):Sd:=aI ["count","told","number"] (xl ad)
theorem ML{ad:Ad}{n:Nat}{a:D}{M:Mem}{Q:DK}{E:DX}:tD ad [a] M Q E=xl ad (aA E) { nx:=λ_ M'=>drp Q .non M',rt:=drp Q } [ap a,cm,cm] M:=rfl
def pL(ad:Ad)(EE:DX):aE:=
 (ue (ac 3) (ac 10) (ah cI (ah cI (ac 9)<|ah au (ac 5)<|ah fI (bz bM<|aa (ac 7) af)<|dC<|.int 1)<|ah au (ac 5)<|bz bM<|aa (ac 8) af) pb)
def pV(ad:Ad)(EE:DX):aE:=
 (ue (ac 3) (ac 10) (ah cI (ah cI (ac 9)<|ah au (ac 5)<|bz bM<|aa (ac 7) af)<|ah au (ac 5)<|ah fI (bz bM<|aa (ac 8) af)<|dC<|.int 1) fI)
def lP(ad:Ad)(EE:DX):aE:=
 (ai (cH (bH<|ac 7) (ag 10)<|pL ad EE)
   (cH (bH<|ac 8) (ag 10)<|pV ad EE))
def mr(ad:Ad)(EE:DX):aE:=
 (ai (ar (ah i7 (ah au (ac 5)<|vz<|dC<|.int 1)<|ah au (ac 5)<|ao<|ah aW (bz bM<|aa (ac 7) af)<|bz bM<|aa (ac 8) af)<|ag 9)
   (lP ad EE))
def me(ad:Ad)(EE:DX):aE:=
 (ai (ar (ao<|aj (sw ad) EE 1<|aa (aZ ad.C_Outcome (ac 6) "sound") af)<|ag 8)
   (mr ad EE))
def gz(ad:Ad)(EE:DX):aE:=
 (ai (ar (ao<|aj (sw ad) EE 1<|aa (aZ ad.C_Outcome (ac 6) "faulty") af)<|ag 7)
   (me ad EE))
def mj(ad:Ad)(EE:DX):aE:=
 (ai (cH (bH<|ac 4) (ag 6)<|gz ad EE)
  (az<|ac 3))
def mh(ad:Ad)(EE:DX):aE:=
 (ai (ar (ao<|aj (tD ad) EE 1<|aa (bz bM<|aa (ac 2) af) af)<|ag 5)
  (mj ad EE))
def lc(ad:Ad)(EE:DX):aE:=
 (ai (cG (cZ 4<|aX (bH<|ao<|aj (y2 ad) EE 2<|aa (ac 0)<|aa (ac 1) af) ["one"] [] (ag 0) (am<|ah bZ (aZ ad.C_Outcome (ac 0) "verdict")<|dC<|.str "faulty")<|ac 0) 4)
  (mh ad EE))
def iK(ad:Ad)(EE:DX):aE:=
 (ai (cZ 3<|aX (bH<|ac 2) ["thing"] [] (ag 0) dG<|dC<|.int 0)
  (lc ad EE))
def yn(ad:Ad)(EE:DX):aE:=
 (ai (ar (ao<|aj (k4 ad) EE 1<|aa (ac 0) af)<|ag 2)
  (iK ad EE))
def sJ(ad:Ad):Sd:=aI ["case","limit","things","told","ends","many","end","faulty","sound","each","number"] (yn ad)
theorem Ny{ad:Ad}{n:Nat}{a b:D}{M:Mem}{Q:DK}{E:DX}:sJ ad [a,b] M Q E=yn ad (aA E) { nx:=λ_ M'=>drp Q .non M',rt:=drp Q } [ap a,ap b,cm,cm,cm,cm,cm,cm,cm,cm,cm] M:=rfl
def pS(ad:Ad)(EE:DX):aE:=
 (aH (Ak (am<|ah k8 (ah au (ac 2)<|dC<|.int 0)<|ah au (ah au (ac 0)<|dC<|.int 0)<|dC<|.int 0)<|am<|ah k8 (ao<|aj (k4 ad) EE 1<|aa (ac 2) af)<|ac 4) (ju ad.C_NoCase EE) aF)
def lX(ad:Ad)(EE:DX):aE:=
 (az<|aX (k7<|aa (ac 4) af) ["number","thing"] [5,3] (fH 2<|b6 (ag 0)<|b6 (ag 1) fm) dG<|aK<|aa (ac 1)<|aa (ao<|aj (Ei ad) iY 2<|aa (bz wV<|aa (ao<|aX (bH<|ac 3) ["orders"] [0] (ag 0) dG<|ah au (ac 0)<|ac 1) af)<|aa (ac 2) af) af)
def kH(ad:Ad)(EE:DX):aE:=
 (ai (ar (ah cI (ah au (ao<|aj (tD ad) EE 1<|aa (bz bM<|aa (ac 4) af) af)<|vz<|dC<|.int 1)<|bz bM<|aa (ac 0) af)<|ag 5)
  (lX ad EE))
def kJ(ad:Ad)(EE:DX):aE:=
 (ai (cH (bH<|ac 0) (ag 2)<|pS ad EE)
  (kH ad EE))
def lO(ad:Ad)(EE:DX):aE:=
 (ai (ar (ao<|aj (k4 ad) EE 1<|aa (ah au (ac 0)<|dC<|.int 0) af)<|ag 4)
  (kJ ad EE))
def wO(ad:Ad)(EE:DX):aE:=
 (ai (ar (ao<|aX (bH<|ac 0) ["case"] [1] (ag 0) dG<|ao<|aj (sJ ad) iY 2<|aa (ac 0)<|aa (ac 1) af)<|ag 3)
  (lO ad EE))
def xW(ad:Ad):Sd:=aI ["cases","limit","case","held","things","whole"] (wO ad)
theorem N3{ad:Ad}{n:Nat}{a b:D}{M:Mem}{Q:DK}{E:DX}:xW ad [a,b] M Q E=wO ad (aA E) { nx:=λ_ M'=>drp Q .non M',rt:=drp Q } [ap a,ap b,cm,cm,cm,cm] M:=rfl
def xp(ad:Ad)(EE:DX):aE:=
 (az<|aj (xW ad) EE 2<|aa (ao<|bQ<|aa (ac 0) af)<|aa (ac 1) af)
def ka(ad:Ad):Sd:=aI ["case","limit"] (xp ad)
theorem NL{ad:Ad}{n:Nat}{a b:D}{M:Mem}{Q:DK}{E:DX}:ka ad [a,b] M Q E=xp ad (aA E) { nx:=λ_ M'=>drp Q .non M',rt:=drp Q } [ap a,ap b] M:=rfl
def xG(ad:Ad)(EE:DX):aE:=
 (ai (ar (ah dg (ah aW (ah aW (ah cI (ac 0)<|dC<|.int 6364136223846793005)<|ah cI (ac 1)<|dC<|.int 1442695040888963407)<|dC<|.int 97)<|dC<|.int 18446744073709551616)<|ag 2)
  (ai (ar (ah dg (ah cI (ah N6 (ac 2)<|ah i7 (ac 2)<|dC<|.int 2147483648)<|dC<|.int 2685821657736338717)<|dC<|.int 18446744073709551616)<|ag 2)
  (az<|ah i7 (ac 2)<|dC<|.int 1048576)))
def mK(ad:Ad):Sd:=aI ["cell","turn","one"] (xG ad)
theorem N0{ad:Ad}{n:Nat}{a b:D}{M:Mem}{Q:DK}{E:DX}:mK ad [a,b] M Q E=xG ad (aA E) { nx:=λ_ M'=>drp Q .non M',rt:=drp Q } [ap a,ap b,cm] M:=rfl
def wX(ad:Ad)(EE:DX):aE:=
 (ai (ar (dC<|.int 7)<|ag 1)
  (ai (cH (bH<|ao<|tR (ac 0) bI<|cK<|dC<|.int 63) (ag 2)<|ar (ah dg (ah aW (ah cI (ac 1)<|dC<|.int 1000003)<|ac 2)<|dC<|.int 18446744073709551616)<|ag 1)
  (az<|bQ<|aa (bz eR<|aa (ao<|tR (ac 0) bI<|cK<|dC<|.int 63) af)<|aa (dC<|.int 0)<|aa (dC<|.int 0)<|aa (ac 1) af)))
def xc(ad:Ad):Sd:=aI ["script","seed","cell"] (wX ad)
theorem MD{ad:Ad}{n:Nat}{a:D}{M:Mem}{Q:DK}{E:DX}:xc ad [a] M Q E=wX ad (aA E) { nx:=λ_ M'=>drp Q .non M',rt:=drp Q } [ap a,cm,cm] M:=rfl
def y9(ad:Ad)(EE:DX):aE:=
 (ai (ar (ah aW (ah au (ac 0)<|dC<|.int 1)<|dC<|.int 1)<|de (ac 0)<|dC<|.int 1)
  (ai (aH (vV (am<|ah bZ (ah au (ac 0)<|dC<|.int 2)<|dC<|.int 0)<|am<|ah k8 (ah au (ac 0)<|dC<|.int 0)<|ao<|bQ af) (ai (ar (mM "list" zo (ah au (ac 0)<|dC<|.int 0)<|aa (dC<|.int 0) af)<|ag 2)
   (ai (aH (am<|ah uQ (ac 2)<|ah Im (dC<|.int 10)<|dC<|.int 18) (az<|ah dg (ao<|aj (mK ad) EE 2<|aa (ac 2)<|aa (ah au (ac 0)<|dC<|.int 1) af)<|ac 1) aF)
   (ar (ac 2)<|de (ac 0)<|dC<|.int 2))) aF)
  (ai (aH (am<|ah bZ (ah au (ac 0)<|dC<|.int 2)<|dC<|.int 0) (az<|ah dg (ao<|aj (mK ad) EE 2<|aa (ah au (ac 0)<|dC<|.int 3)<|aa (ah au (ac 0)<|dC<|.int 1) af)<|ac 1) aF)
  (ai (ar (ah dg (ah au (ac 0)<|dC<|.int 2)<|ac 1)<|ag 3)
  (ai (ar (ah i7 (ah au (ac 0)<|dC<|.int 2)<|ac 1)<|de (ac 0)<|dC<|.int 2)
  (az<|ac 3))))))
def bb(ad:Ad):Sd:=aI ["pot","many","cell","found"] (y9 ad)
theorem Nb{ad:Ad}{n:Nat}{a b:D}{M:Mem}{Q:DK}{E:DX}:bb ad [a,b] M Q E=y9 ad (aA E) { nx:=λ_ M'=>drp Q .non M',rt:=drp Q } [ap a,ap b,cm,cm] M:=rfl
def xH(ad:Ad)(EE:DX):aE:=
 (ai (ar (ao<|aj (bb ad) EE 2<|aa (ac 0)<|aa (dC<|.int 26) af)<|ag 2)
  (ai (ar (bQ af)<|ag 3)
  (ai (cH (fG<|aa (ac 1) af) (ag 4) (ai (ar (ah au (dC<|.str "abcdefghijklmnopqrstuvwxyz")<|ah dg (ah aW (ac 2)<|ah cI (dC<|.int 7)<|ac 4)<|dC<|.int 26)<|ag 5)
   (bn<|mM "list" bW (ac 3)<|aa (ah cI (ac 5)<|ah aW (dC<|.int 1)<|ao<|aj (bb ad) EE 2<|aa (ac 0)<|aa (dC<|.int 8) af) af)))
  (az<|bz cB<|aa (ac 3) af))))
def yY(ad:Ad):Sd:=aI ["pot","many","turn","names","k","sign"] (xH ad)
theorem MU{ad:Ad}{n:Nat}{a b:D}{M:Mem}{Q:DK}{E:DX}:yY ad [a,b] M Q E=xH ad (aA E) { nx:=λ_ M'=>drp Q .non M',rt:=drp Q } [ap a,ap b,cm,cm,cm,cm] M:=rfl
def wA(ad:Ad)(EE:DX):aE:=
 (ai (ar (ac 1)<|fH 3<|b6 (ag 2)<|b6 (ag 3)<|b6 (ag 4) fm)
  (ai (ar (ao<|bQ<|aa (dC<|.str "put")<|aa (dC<|.str "sum")<|aa (dC<|.str "by")<|aa (dC<|.str "less")<|aa (dC<|.str "same")<|aa (dC<|.str "sum")<|aa (dC<|.str "put")<|aa (dC<|.str "take")<|aa (dC<|.str "pick") af)<|ag 5)
  (ai (ar (ah au (ac 5)<|ao<|aj (bb ad) EE 2<|aa (ac 0)<|aa (o9 (am<|ah uf (ac 4)<|dC<|.int 0) (dC<|.int 9)<|dC<|.int 7) af)<|ag 6)
  (ai (ar (ah au (ac 3)<|ao<|aj (bb ad) EE 2<|aa (ac 0)<|aa (bz bM<|aa (ac 3) af) af)<|ag 7)
  (ai (aH (am<|ah bZ (ac 6)<|dC<|.str "put") (az<|aK<|aa (ac 6)<|aa (ac 7)<|aa (aj (bb ad) EE 2<|aa (ac 0)<|aa (ac 2) af) af) aF)
  (ai (aH (am<|ah bZ (ac 6)<|dC<|.str "take") (az<|aK<|aa (ac 6)<|aa (ac 7)<|aa (aj (bb ad) EE 2<|aa (ac 0)<|aa (ac 4) af) af) aF)
  (ai (ar (ah au (ac 3)<|ao<|aj (bb ad) EE 2<|aa (ac 0)<|aa (bz bM<|aa (ac 3) af) af)<|ag 8)
  (ai (aH (am<|ah bZ (ac 6)<|dC<|.str "pick") (az<|aK<|aa (ac 6)<|aa (ac 7)<|aa (ac 8) af) aF)
  (az<|aK<|aa (ac 6)<|aa (ac 7)<|aa (ac 8)<|aa (ah au (ac 3)<|ao<|aj (bb ad) EE 2<|aa (ac 0)<|aa (bz bM<|aa (ac 3) af) af) af)))))))))
def tP(ad:Ad):Sd:=aI ["pot","told","m","names","many","ways","way","x","y"] (wA ad)
theorem ME{ad:Ad}{n:Nat}{a b:D}{M:Mem}{Q:DK}{E:DX}:tP ad [a,b] M Q E=wA ad (aA E) { nx:=λ_ M'=>drp Q .non M',rt:=drp Q } [ap a,ap b,cm,cm,cm,cm,cm,cm,cm] M:=rfl
def yd(ad:Ad)(Ve Vd:Sd)(EE:DX):aE:=
 (ai (ar (ac 1)<|fH 3<|b6 (ag 4)<|b6 (ag 5)<|b6 (ag 6) fm)
  (ai (ar (ah au (ac 5)<|ao<|aj (bb ad) EE 2<|aa (ac 0)<|aa (bz bM<|aa (ac 5) af) af)<|ag 7)
  (ai (ar (ao<|aj Vd EE 5<|aa (ac 0)<|aa (ac 1)<|aa (ac 2)<|aa (ah aW (ac 3)<|dC<|.int 1)<|aa (dC<|.int 5) af)<|ag 8)
  (ai (ar (ao<|aj (bb ad) EE 2<|aa (ac 0)<|aa (dC<|.int 5) af)<|ag 9)
  (ai (aH (am<|ah uQ (ac 9)<|dC<|.int 2) (az<|bQ<|aa (aK<|aa (dC<|.str "if")<|aa (ac 7)<|aa (ac 8)<|aa (aj Vd EE 5<|aa (ac 0)<|aa (ac 1)<|aa (ac 2)<|aa (ah aW (ac 3)<|dC<|.int 1)<|aa (dC<|.int 5) af) af) af) aF)
  (ai (aH (am<|ah bZ (ac 9)<|dC<|.int 2) (az<|bQ<|aa (aK<|aa (dC<|.str "again")<|aa (ac 7)<|aa (ac 8) af) af) aF)
  (ai (ar (ah au (ac 5)<|ao<|aj (bb ad) EE 2<|aa (ac 0)<|aa (bz bM<|aa (ac 5) af) af)<|ag 10)
  (az<|bQ<|aa (aK<|aa (dC<|.str "put")<|aa (ac 7)<|aa (aj (bb ad) EE 2<|aa (ac 0)<|aa (bz BX<|aa (ac 4)<|aa (dC<|.int 9) af) af) af)<|aa (aK<|aa (dC<|.str "put")<|aa (ac 10)<|aa (ah fI (ac 4)<|dC<|.int 1) af)<|aa (aK<|aa (dC<|.str "again")<|aa (ac 7)<|aa (ah aW (ac 8)<|aK<|aa (aK<|aa (dC<|.str "sum")<|aa (ac 7)<|aa (ac 7)<|aa (ac 10) af) af) af) af))))))))
def xX(ad:Ad)(Ve Vd:Sd)(EE:DX):aE:=
 (ai (ar (bQ af)<|ag 5)
  (ai (cH (fG<|aa (ao<|aj (bb ad) EE 2<|aa (ac 0)<|aa (ac 4) af) af) (ag 6)<|aH (vV (am<|ah uf (ah au (ac 2)<|dC<|.int 0)<|dC<|.int 4)<|vV (am<|ah uQ (ac 3)<|dC<|.int 4)<|am<|ah bZ (ao<|aj (bb ad) EE 2<|aa (ac 0)<|aa (dC<|.int 4) af)<|dC<|.int 0) (ai (ar (ah fI (ah au (ac 2)<|dC<|.int 0)<|dC<|.int 4)<|de (ac 2)<|dC<|.int 0)
    (ar (ah aW (ac 5)<|ao<|aj Ve EE 4<|aa (ac 0)<|aa (ac 1)<|aa (ac 2)<|aa (ac 3) af)<|ag 5))<|aH (am<|ah uf (ah au (ac 2)<|dC<|.int 0)<|dC<|.int 0) (ai (ar (ah fI (ah au (ac 2)<|dC<|.int 0)<|dC<|.int 1)<|de (ac 2)<|dC<|.int 0)
     (bn<|mM "list" bW (ac 5)<|aa (ao<|aj (tP ad) EE 2<|aa (ac 0)<|aa (ac 1) af) af)) aF)
  (az<|bz cB<|aa (ac 5) af)))
mutual
def Ve(ad:Ad):Nat->Sd
 |0=>λ_ _ _ _=>False
 |n+1=>aI ["pot","told","room","deep","m","names","many","x","first","way","y"] (yd ad (Ve ad n)<|Vd ad n)
def Vd(ad:Ad):Nat->Sd
 |0=>λ_ _ _ _=>False
 |n+1=>aI ["pot","told","room","deep","most","rows","k"] (xX ad (Ve ad n)<|Vd ad n)
end
theorem NZ{ad:Ad}{n:Nat}{b c e a:D}{M:Mem}{Q:DK}{E:DX}:Ve ad (n+1) [b,c,e,a] M Q E=yd ad (Ve ad n) (Vd ad n) (aA E) { nx:=λ_ M'=>drp Q .non M',rt:=drp Q } [ap b,ap c,ap e,ap a,cm,cm,cm,cm,cm,cm,cm] M:=rfl
theorem LY{ad:Ad}{n:Nat}{b e a c f:D}{M:Mem}{Q:DK}{E:DX}:Vd ad (n+1) [b,e,a,c,f] M Q E=xX ad (Ve ad n) (Vd ad n) (aA E) { nx:=λ_ M'=>drp Q .non M',rt:=drp Q } [ap b,ap e,ap a,ap c,ap f,cm,cm] M:=rfl
def wS(ad:Ad)(EE:DX):aE:=
 (ai (ar (ah au (ao<|bQ<|aa (dC<|.int 2)<|aa (dC<|.int 3)<|aa (ah aW (dC<|.int 2)<|ao<|aj (bb ad) EE 2<|aa (ac 0)<|aa (dC<|.int 9) af)<|aa (ah aW (dC<|.int 2)<|ao<|aj (bb ad) EE 2<|aa (ac 0)<|aa (dC<|.int 996) af) af)<|ao<|aj (bb ad) EE 2<|aa (ac 0)<|aa (dC<|.int 4) af)<|ag 2)
  (ai (ar (ao<|aj (yY ad) EE 2<|aa (ac 0)<|aa (ah aW (dC<|.int 1)<|ao<|aj (bb ad) EE 2<|aa (ac 0)<|aa (ah au (ao<|bQ<|aa (dC<|.int 3)<|aa (dC<|.int 5)<|aa (dC<|.int 12) af)<|ao<|aj (bb ad) EE 2<|aa (ac 0)<|aa (dC<|.int 3) af) af) af)<|ag 3)
  (ai (ar (ah au (ao<|bQ<|aa (dC<|.int 0)<|aa (ah aW (dC<|.int 1)<|ao<|aj (bb ad) EE 2<|aa (ac 0)<|aa (dC<|.int 4) af)<|aa (ao<|aj (bb ad) EE 2<|aa (ac 0)<|aa (dC<|.int 41) af) af)<|ao<|aj (bb ad) EE 2<|aa (ac 0)<|aa (dC<|.int 3) af)<|ag 4)
  (ai (ar (ao<|aj (Vd ad 24) EE 5<|aa (ac 0)<|aa (aK<|aa (ac 2)<|aa (ac 3)<|aa (ac 4) af)<|aa (bQ<|aa (ac 1) af)<|aa (dC<|.int 0)<|aa (ah au (ao<|bQ<|aa (dC<|.int 6)<|aa (dC<|.int 12)<|aa (dC<|.int 30) af)<|ao<|aj (bb ad) EE 2<|aa (ac 0)<|aa (dC<|.int 3) af) af)<|ag 5)
  (az<|aK<|aa (ac 2)<|aa (ac 3)<|aa (ac 4)<|aa (ac 5)<|aa (ah au (ac 3)<|ao<|aj (bb ad) EE 2<|aa (ac 0)<|aa (bz bM<|aa (ac 3) af) af) af)))))
def yV(ad:Ad):Sd:=aI ["pot","most","m","names","many","rows"] (wS ad)
theorem NY{ad:Ad}{n:Nat}{a b:D}{M:Mem}{Q:DK}{E:DX}:yV ad [a,b] M Q E=wS ad (aA E) { nx:=λ_ M'=>drp Q .non M',rt:=drp Q } [ap a,ap b,cm,cm,cm,cm] M:=rfl
def xE(ad:Ad)(EE:DX):aE:=
 (ai (ar (bz cB<|aa (ao<|aX (bH<|ah au (ac 1)<|dC<|.int 1) ["name"] [0,1] (ag 0) dG<|ao<|aj (bb ad) iY 2<|aa (ac 1)<|aa (ah au (ac 2)<|dC<|.int 0) af) af)<|ag 2)
  (az<|aK<|aa (ac 2)<|aa (bz cB<|aa (ao<|aX (fG<|aa (ah au (ac 1)<|dC<|.int 2) af) ["k"] [0,1] (ag 0) dG<|ao<|aj (bb ad) iY 2<|aa (ac 1)<|aa (ah au (ac 2)<|dC<|.int 0) af) af) af))
def yx(ad:Ad):Sd:=aI ["pot","plan","numbers"] (xE ad)
theorem NI{ad:Ad}{n:Nat}{a b:D}{M:Mem}{Q:DK}{E:DX}:yx ad [a,b] M Q E=xE ad (aA E) { nx:=λ_ M'=>drp Q .non M',rt:=drp Q } [ap a,ap b,cm] M:=rfl
def nF(ad:Ad)(EE:DX):aE:=
 (ai (ar (ac 0)<|vQ 5<|b6 (ag 2)<|b6 (ag 3)<|b6 (ag 4)<|b6 (ag 5)<|b6 (ag 6) fm)
  (ai (aH (am<|ah bZ (ah au (ac 1)<|dC<|.int 0)<|dC<|.str "put") (az<|ah au (ac 1)<|dC<|.int 2) aF)
  (ai (aH (am<|ah bZ (ah au (ac 1)<|dC<|.int 0)<|dC<|.str "take") (az<|ah au (ac 3)<|ah au (ac 1)<|dC<|.int 2) aF)
  (ai (aH (am<|ah bZ (ah au (ac 1)<|dC<|.int 0)<|dC<|.str "pick") (az<|ah au (ac 3)<|ah dg (ah au (ac 2)<|ah au (ac 1)<|dC<|.int 2)<|bz bM<|aa (ac 3) af) aF)
  (ai (ar (ah au (ac 2)<|ah au (ac 1)<|dC<|.int 2)<|ag 7)
  (ai (ar (ah au (ac 2)<|ah au (ac 1)<|dC<|.int 3)<|ag 8)
  (ai (aH (am<|ah bZ (ah au (ac 1)<|dC<|.int 0)<|dC<|.str "sum") (az<|ah dg (ao<|ah aW (ac 7)<|ac 8)<|ac 6) aF)
  (ai (aH (am<|ah bZ (ah au (ac 1)<|dC<|.int 0)<|dC<|.str "by") (az<|ah dg (ah cI (ac 7)<|ac 8)<|ac 6) aF)
  (ai (aH (am<|ah bZ (ah au (ac 1)<|dC<|.int 0)<|dC<|.str "less") (az<|o9 (am<|ah uQ (ac 7)<|ac 8) (dC<|.int 1)<|dC<|.int 0) aF)
  (az<|o9 (am<|ah bZ (ac 7)<|ac 8) (dC<|.int 1)<|dC<|.int 0))))))))))
def uq(ad:Ad):Sd:=aI ["gone","row","numbers","pieces","steps","most","m","one","other"] (nF ad)
theorem xo{ad:Ad}{n:Nat}{a b:D}{M:Mem}{Q:DK}{E:DX}:uq ad [a,b] M Q E=nF ad (aA E) { nx:=λ_ M'=>drp Q .non M',rt:=drp Q } [ap a,ap b,cm,cm,cm,cm,cm,cm,cm] M:=rfl
def EQ(ad:Ad)(EE:DX):aE:=
 (ai (aH (am<|ah bZ (bz bM<|aa (ah au (ac 0)<|dC<|.int 2) af)<|ah au (ac 0)<|dC<|.int 3) (az<|dC<|.bl eC) aF)
  (ai (bn<|mM "list" bW (ah au (ac 0)<|dC<|.int 2)<|aa (aK<|aa (ac 1)<|aa (ac 2) af) af)
  (az<|dC<|.bl true)))
def uk(ad:Ad):Sd:=aI ["gone","place","number"] (EQ ad)
theorem u_q9{ad:Ad}{n:Nat}{a b c:D}{M:Mem}{Q:DK}{E:DX}:uk ad [a,b,c] M Q E=EQ ad (aA E) { nx:=λ_ M'=>drp Q .non M',rt:=drp Q } [ap a,ap b,ap c] M:=rfl
def rf(ad:Ad)(U7 U6:Sd)(EE:DX):aE:=
 (aH (i9<|dm<|ao<|aj U6 EE 3<|aa (ac 0)<|aa (ah au (ac 1)<|dC<|.int 2)<|aa (ah aW (ac 2)<|aK<|aa (ac 3) af) af) (az<|dC<|.bl eC) aF)
def qp(ad:Ad)(U7 U6:Sd)(EE:DX):aE:=
 (ai (aH (am<|ah bZ (ac 4)<|dC<|.int 0) (az<|dC<|.bl true) aF)
   (rf ad U7 U6 EE))
def qQ(ad:Ad)(U7 U6:Sd)(EE:DX):aE:=
 (ai (aH (i9<|dm<|ao<|aj (uk ad) EE 3<|aa (ac 0)<|aa (ah aW (ac 2)<|aK<|aa (ac 3) af)<|aa (ac 4) af) (az<|dC<|.bl eC) aF)
   (qp ad U7 U6 EE))
def j6(ad:Ad)(U7 U6:Sd)(EE:DX):aE:=
 (ai (ar (o9 (am<|ah bZ (ah au (ah au (ac 0)<|dC<|.int 0)<|ah au (ac 1)<|dC<|.int 1)<|dC<|.int 0) (dC<|.int 0)<|dC<|.int 1)<|ag 4)
   (qQ ad U7 U6 EE))
def xz(ad:Ad)(U7 U6:Sd)(EE:DX):aE:=
 (ai (cH (fG<|aa (ah aW (ah au (ac 0)<|dC<|.int 3)<|dC<|.int 1) af) (ag 3)<|j6 ad U7 U6 EE)
  (az<|dC<|.bl eC))
def qM(ad:Ad)(U7 U6:Sd)(EE:DX):aE:=
 (aH (i9<|dm<|ao<|aj U7 EE 3<|aa (ac 0)<|aa (ac 4)<|aa (ac 5) af) (az<|dC<|.bl eC) aF)
def lV(ad:Ad)(U7 U6:Sd)(EE:DX):aE:=
 (aH (Ak (i9<|dm<|ao<|aj (uk ad) EE 3<|aa (ac 0)<|aa (ac 5)<|aa (ac 6) af)<|i9<|dm<|ao<|aj U6 EE 3<|aa (ac 0)<|aa (ac 7)<|aa (ah aW (ac 5)<|aK<|aa (ac 6) af) af) (az<|dC<|.bl eC) aF)
def qo(ad:Ad)(U7 U6:Sd)(EE:DX):aE:=
 (ai (ar (ah au (ao<|bQ<|aa (ah au (ac 4)<|dC<|.int 3)<|aa (ah au (ac 4)<|dC<|.int 2) af)<|ac 6)<|ag 7)
     (lV ad U7 U6 EE))
def kz(ad:Ad)(U7 U6:Sd)(EE:DX):aE:=
 (ai (ar (o9 (am<|ah bZ (ah au (ah au (ac 0)<|dC<|.int 0)<|ah au (ac 4)<|dC<|.int 1)<|dC<|.int 0) (dC<|.int 0)<|dC<|.int 1)<|ag 6)
     (qo ad U7 U6 EE))
def pZ(ad:Ad)(U7 U6:Sd)(EE:DX):aE:=
 (ar (ac 8)<|de (ah au (ac 0)<|dC<|.int 0)<|ah au (ac 4)<|dC<|.int 1)
def lh(ad:Ad)(U7 U6:Sd)(EE:DX):aE:=
 (ai (aH (i9<|dm<|ao<|aj (uk ad) EE 3<|aa (ac 0)<|aa (ac 5)<|aa (ac 8) af) (az<|dC<|.bl eC) aF)
     (pZ ad U7 U6 EE))
def ms(ad:Ad)(U7 U6:Sd)(EE:DX):aE:=
 (ai (ar (ao<|aj (uq ad) EE 2<|aa (ac 0)<|aa (ac 4) af)<|ag 8)
     (lh ad U7 U6 EE))
def lg(ad:Ad)(U7 U6:Sd)(EE:DX):aE:=
 (aH (am<|ah bZ (ah au (ac 4)<|dC<|.int 0)<|dC<|.str "if") (kz ad U7 U6 EE)<|ms ad U7 U6 EE)
def pH(ad:Ad)(U7 U6:Sd)(EE:DX):aE:=
 (aH (am<|ah bZ (ah au (ac 4)<|dC<|.int 0)<|dC<|.str "again") (qM ad U7 U6 EE)<|lg ad U7 U6 EE)
def iN(ad:Ad)(U7 U6:Sd)(EE:DX):aE:=
 (ai (ar (ah aW (ac 2)<|aK<|aa (ac 3) af)<|ag 5)
   (pH ad U7 U6 EE))
def yF(ad:Ad)(U7 U6:Sd)(EE:DX):aE:=
 (ai (cH (k7<|aa (ac 1) af) (fH 2<|b6 (ag 3)<|b6 (ag 4) fm)<|iN ad U7 U6 EE)
  (az<|dC<|.bl true))
mutual
def U7(ad:Ad):Nat->Sd
 |0=>λ_ _ _ _=>False
 |n+1=>aI ["gone","row","place","turn","look"] (xz ad (U7 ad n)<|U6 ad n)
def U6(ad:Ad):Nat->Sd
 |0=>λ_ _ _ _=>False
 |n+1=>aI ["gone","rows","place","at","row","here","look","inner","number"] (yF ad (U7 ad n)<|U6 ad n)
end
theorem N_{ad:Ad}{n:Nat}{a b c:D}{M:Mem}{Q:DK}{E:DX}:U7 ad (n+1) [a,b,c] M Q E=xz ad (U7 ad n) (U6 ad n) (aA E) { nx:=λ_ M'=>drp Q .non M',rt:=drp Q } [ap a,ap b,ap c,cm,cm] M:=rfl
theorem NQ{ad:Ad}{n:Nat}{a b c:D}{M:Mem}{Q:DK}{E:DX}:U6 ad (n+1) [a,b,c] M Q E=yF ad (U7 ad n) (U6 ad n) (aA E) { nx:=λ_ M'=>drp Q .non M',rt:=drp Q } [ap a,ap b,ap c,cm,cm,cm,cm,cm,cm] M:=rfl
def wU(ad:Ad)(EE:DX):aE:=
 (ai (ar (bQ<|aa (fK<|aa (ah au (ac 0)<|dC<|.int 1)<|aa (ah au (ac 1)<|dC<|.int 0) af)<|aa (ah au (ac 1)<|dC<|.int 1)<|aa (bQ af)<|aa (ac 2)<|aa (ah au (ac 0)<|dC<|.int 0) af)<|ag 3)
  (ai (aH (i9<|dm<|ao<|aj (U6 ad 24) EE 3<|aa (ac 3)<|aa (ah au (ac 0)<|dC<|.int 3)<|aa (aK af) af) (az<|aK<|aa (ah au (ac 3)<|dC<|.int 2)<|aa (dC .non) af) aF)
  (az<|aK<|aa (ah au (ac 3)<|dC<|.int 2)<|aa (bz cB<|aa (ao<|aX (bH<|ah au (ac 0)<|dC<|.int 1) ["name"] [3] (ag 0) dG<|ah au (ah au (ac 1)<|dC<|.int 0)<|ac 0) af) af)))
def mY(ad:Ad):Sd:=aI ["plan","stand","most","gone"] (wU ad)
theorem NT{ad:Ad}{n:Nat}{a b c:D}{M:Mem}{Q:DK}{E:DX}:mY ad [a,b,c] M Q E=wU ad (aA E) { nx:=λ_ M'=>drp Q .non M',rt:=drp Q } [ap a,ap b,ap c,cm] M:=rfl
def yi(ad:Ad)(EE:DX):aE:=
 (az<|bz cB<|aa (ao<|aX (bH<|ac 0) ["row"] [] (ag 0) (am<|ah wf (ah au (ac 0)<|dC<|.int 0)<|ao<|bQ<|aa (dC<|.str "if")<|aa (dC<|.str "again") af)<|ac 0) af)
def sx(ad:Ad):Sd:=aI ["rows"] (yi ad)
theorem My{ad:Ad}{n:Nat}{a:D}{M:Mem}{Q:DK}{E:DX}:sx ad [a] M Q E=yi ad (aA E) { nx:=λ_ M'=>drp Q .non M',rt:=drp Q } [ap a] M:=rfl
def lZ(ad:Ad)(EE:DX):aE:=
 (az<|aK<|aa (ah au (ah au (ac 4)<|dC<|.int 0)<|ac 5)<|aa (ah au (ah au (ac 4)<|dC<|.int 1)<|ac 5) af)
def kL(ad:Ad)(EE:DX):aE:=
 (ai (ar (Mq nU (ah au (ac 0)<|dC<|.int 1)<|aa (ah au (ac 0)<|dC<|.int 4) af)<|ag 5)
  (lZ ad EE))
def lB(ad:Ad)(EE:DX):aE:=
 (ai (aH (am<|ah C1 (dC .non)<|ac 4) (az<|dC .non) aF)
  (kL ad EE))
def wB(ad:Ad)(EE:DX):aE:=
 (ai (cG (cZ 4<|aX (bH<|ao<|bQ<|aa (ac 1)<|aa (ac 2) af) ["stand"] [0,3] (ag 0) dG<|ah au (ou<|aj (mY ad) iY 3<|aa (ac 1)<|aa (ac 0)<|aa (ac 2) af)<|dC<|.int 1) 4)
  (lB ad EE))
def p9(ad:Ad):Sd:=aI ["plan","sound","faulty","most","last","at"] (wB ad)
theorem MS{ad:Ad}{n:Nat}{b c e a:D}{M:Mem}{Q:DK}{E:DX}:p9 ad [b,c,e,a] M Q E=wB ad (aA E) { nx:=λ_ M'=>drp Q .non M',rt:=drp Q } [ap b,ap c,ap e,ap a,cm,cm] M:=rfl
def ye(ad:Ad)(EE:DX):aE:=
 (az<|ah dg (ao<|ah aW (ah aW (ac 2)<|dC<|.int 1)<|ao<|aj (bb ad) EE 2<|aa (ac 0)<|aa (ah fI (ac 1)<|dC<|.int 1) af)<|ac 1)
def nK(ad:Ad):Sd:=aI ["pot","m","number"] (ye ad)
theorem Mc{ad:Ad}{n:Nat}{a b c:D}{M:Mem}{Q:DK}{E:DX}:nK ad [a,b,c] M Q E=ye ad (aA E) { nx:=λ_ M'=>drp Q .non M',rt:=drp Q } [ap a,ap b,ap c] M:=rfl
def lN(ad:Ad)(EE:DX):aE:=
 (ar (ah aW (ao<|tR (ac 0) bI<|cK<|dC<|.int 3)<|aK<|aa (ah aW (ac 5)<|aK<|aa (ac 7) af)<|aa (ah au (ac 0)<|dC<|.int 4) af)<|ag 0)
def kW(ad:Ad)(EE:DX):aE:=
 (ai (ar (aK<|aa (dC<|.str "sum")<|aa (ah au (ac 0)<|dC<|.int 4)<|aa (ah au (ac 0)<|dC<|.int 4)<|aa (ac 4) af)<|ag 7)
   (lN ad EE))
def lF(ad:Ad)(EE:DX):aE:=
 (ai (aH (am<|ah bZ (ah au (ac 6)<|dC<|.int 0)<|ah au (ac 6)<|dC<|.int 1) (kW ad EE) aF)
  (az<|ac 0))
def lJ(ad:Ad)(EE:DX):aE:=
 (ai (ar (ao<|aj (p9 ad) EE 4<|aa (ac 0)<|aa (ac 1)<|aa (ac 2)<|aa (ac 3) af)<|ag 6)
  (lF ad EE))
def li(ad:Ad)(EE:DX):aE:=
 (ai (ar (ah aW (ao<|tR (ac 0) bI<|cK<|dC<|.int 3)<|aK<|aa (ac 5)<|aa (ah au (ac 0)<|dC<|.int 4) af)<|ag 0)
  (lJ ad EE))
def xk(ad:Ad)(EE:DX):aE:=
 (ai (ar (bz cB<|aa (ao<|aX (bH<|ao<|aj (sx ad) EE 1<|aa (ah au (ac 0)<|dC<|.int 3) af) ["row"] [4] (ag 0) (am<|ah k8 (ah au (ac 0)<|dC<|.int 1)<|ac 1)<|ac 0) af)<|ag 5)
  (li ad EE))
def xL(ad:Ad):Sd:=aI ["plan","sound","faulty","most","name","rows","both","more"] (xk ad)
theorem No{ad:Ad}{n:Nat}{b e a c f:D}{M:Mem}{Q:DK}{E:DX}:xL ad [b,e,a,c,f] M Q E=xk ad (aA E) { nx:=λ_ M'=>drp Q .non M',rt:=drp Q } [ap b,ap e,ap a,ap c,ap f,cm,cm,cm] M:=rfl
def qq(ad:Ad)(EE:DX):aE:=
 (ar (aK<|aa (aK<|aa (dC<|.str "take")<|aa (ah au (ac 2)<|dC<|.int 0)<|aa (dC<|.int 0) af)<|aa (aK<|aa (dC<|.str "sum")<|aa (ah au (ac 0)<|dC<|.int 4)<|aa (ah au (ac 0)<|dC<|.int 4)<|aa (ah au (ac 2)<|dC<|.int 0) af) af)<|ag 1)
def mU(ad:Ad)(EE:DX):aE:=
 (az<|ah aW (ao<|tR (ac 0) bI<|cK<|dC<|.int 3)<|aK<|aa (ao<|ah aW (ah au (ac 0)<|dC<|.int 3)<|ac 1)<|aa (ah au (ac 0)<|dC<|.int 4) af)
def qG(ad:Ad)(EE:DX):aE:=
 (ai (aH (am<|ah k8 (ac 2)<|ao<|bQ af) (qq ad EE) aF)
  (mU ad EE))
def qP(ad:Ad)(EE:DX):aE:=
 (ai (cG (cZ 2<|aX (bH<|ah au (ac 0)<|dC<|.int 1) ["one"] [0] (ag 0) (am<|ah k8 (ac 0)<|ah au (ac 1)<|dC<|.int 4)<|ac 0) 2)
  (qG ad EE))
def G5(ad:Ad)(EE:DX):aE:=
 (ai (ar (aK<|aa (aK<|aa (dC<|.str "take")<|aa (ah au (ac 0)<|dC<|.int 4)<|aa (dC<|.int 0) af) af)<|ag 1)
  (qP ad EE))
def Ea(ad:Ad):Sd:=aI ["plan","more","rest"] (G5 ad)
theorem u_q6{ad:Ad}{n:Nat}{a:D}{M:Mem}{Q:DK}{E:DX}:Ea ad [a] M Q E=G5 ad (aA E) { nx:=λ_ M'=>drp Q .non M',rt:=drp Q } [ap a,cm,cm] M:=rfl
def lL(ad:Ad)(EE:DX):aE:=
 (ar (ao<|aj (nK ad) EE 3<|aa (ac 0)<|aa (ah au (ac 3)<|dC<|.int 0)<|aa (ah au (ac 5)<|ac 7) af)<|de (ac 5)<|ac 7)
def kN(ad:Ad)(EE:DX):aE:=
 (ar (ao<|ah aW (ac 8)<|bz BX<|aa (bz bM<|aa (ac 6) af)<|aa (ah cI (dC<|.int 2)<|ac 2) af)<|ag 8)
def k_(ad:Ad)(EE:DX):aE:=
 (ai (ar (ao<|aj (nK ad) EE 3<|aa (ac 0)<|aa (ah au (ac 3)<|dC<|.int 0)<|aa (ah au (ac 6)<|dC<|.int 0) af)<|de (ac 6)<|dC<|.int 0)
   (kN ad EE))
def lQ(ad:Ad)(EE:DX):aE:=
 (ar (ao<|aj (nK ad) EE 3<|aa (ac 0)<|aa (ah au (ac 3)<|dC<|.int 0)<|aa (ah au (ah au (ac 4)<|dC<|.int 0)<|ac 10) af)<|de (ac 5)<|ac 10)
def lz(ad:Ad)(EE:DX):aE:=
 (ar (ao<|aj (nK ad) EE 3<|aa (ac 0)<|aa (ah au (ac 3)<|dC<|.int 0)<|aa (ah au (ah au (ac 4)<|dC<|.int 1)<|ac 10) af)<|de (ac 6)<|ac 10)
def kZ(ad:Ad)(EE:DX):aE:=
 (ai (ar (ah fI (ac 10)<|bz bM<|aa (ac 5) af)<|ag 10)
    (lz ad EE))
def lD(ad:Ad)(EE:DX):aE:=
 (aH (am<|ah uQ (ac 10)<|bz bM<|aa (ac 5) af) (lQ ad EE)<|kZ ad EE)
def ir(ad:Ad)(EE:DX):aE:=
 (ai (ar (ao<|aj (bb ad) EE 2<|aa (ac 0)<|aa (ac 8) af)<|ag 10)
   (lD ad EE))
def lx(ad:Ad)(EE:DX):aE:=
 (ar (ah aW (ao<|tR (ac 3) bI<|cK<|dC<|.int 3)<|aK<|aa (ao<|aj (sx ad) EE 1<|aa (ah au (ac 3)<|dC<|.int 3) af)<|aa (ah au (ac 3)<|dC<|.int 4) af)<|ag 3)
def nG(ad:Ad)(EE:DX):aE:=
 (ar (ao<|aj (xL ad) EE 5<|aa (ac 3)<|aa (ac 4)<|aa (ac 11)<|aa (ac 12)<|aa (ah au (ah au (ac 3)<|dC<|.int 1)<|ac 7) af)<|ag 3)
def mH(ad:Ad)(EE:DX):aE:=
 (ar (ao<|aj (Ea ad) EE 1<|aa (ac 3) af)<|ag 3)
def fN(ad:Ad)(EE:DX):aE:=
 (aH (am<|ah uQ (ac 7)<|bz bM<|aa (ac 5) af) (nG ad EE)<|mH ad EE)
def fL(ad:Ad)(EE:DX):aE:=
 (az<|aK<|aa (ac 3)<|aa (ac 4)<|aa (ac 11)<|aa (ac 12) af)
def jc(ad:Ad)(EE:DX):aE:=
 (ai (aH (am<|ah bZ (ah au (ac 13)<|dC<|.int 0)<|ah au (ac 13)<|dC<|.int 1) (fN ad EE) aF)
  (fL ad EE))
def fU(ad:Ad)(EE:DX):aE:=
 (ai (ar (ao<|aj (p9 ad) EE 4<|aa (ac 3)<|aa (ac 4)<|aa (ac 11)<|aa (ac 12) af)<|ag 13)
  (jc ad EE))
def g9(ad:Ad)(EE:DX):aE:=
 (ai (aH (am<|ah jC (ao<|aj (p9 ad) EE 4<|aa (ac 3)<|aa (ac 4)<|aa (ac 11)<|aa (ah fI (ac 12)<|dC<|.int 4) af)<|dC .non) (lx ad EE) aF)
  (fU ad EE))
def iX(ad:Ad)(EE:DX):aE:=
 (ai (ar (ah aW (dC<|.int 30)<|ao<|aj (bb ad) EE 2<|aa (ac 0)<|aa (dC<|.int 20) af)<|ag 12)
  (g9 ad EE))
def jn(ad:Ad)(EE:DX):aE:=
 (ai (ar (aK<|aa (bz cB<|aa (ac 5) af)<|aa (bz cB<|aa (ac 6) af) af)<|ag 11)
  (iX ad EE))
def iC(ad:Ad)(EE:DX):aE:=
 (ai (cH (fG<|aa (ah fI (ac 2)<|dC<|.int 1) af) (ag 9)<|ir ad EE)
  (jn ad EE))
def iT(ad:Ad)(EE:DX):aE:=
 (ai (aH (am<|ah uQ (ac 7)<|bz bM<|aa (ac 5) af) (lL ad EE)<|k_ ad EE)
  (iC ad EE))
def jl(ad:Ad)(EE:DX):aE:=
 (ai (ar (bz bM<|aa (ac 5) af)<|ag 8)
  (iT ad EE))
def il(ad:Ad)(EE:DX):aE:=
 (ai (ar (ao<|aj (bb ad) EE 2<|aa (ac 0)<|aa (ah cI (dC<|.int 4)<|bz bM<|aa (ac 5) af) af)<|ag 7)
  (jl ad EE))
def jh(ad:Ad)(EE:DX):aE:=
 (ai (ar (bz eR<|aa (ah au (ac 4)<|dC<|.int 1) af)<|ag 6)
  (il ad EE))
def iz(ad:Ad)(EE:DX):aE:=
 (ai (ar (bz eR<|aa (ah au (ac 4)<|dC<|.int 0) af)<|ag 5)
  (jh ad EE))
def j9(ad:Ad)(EE:DX):aE:=
 (ai (ar (ao<|aj (yx ad) EE 2<|aa (ac 0)<|aa (ac 3) af)<|ag 4)
  (iz ad EE))
def iF(ad:Ad)(EE:DX):aE:=
 (ai (ar (ao<|ah aW (ah aW (ao<|tR (ac 3) bI<|cK<|dC<|.int 2)<|aK<|aa (bz F0<|aa (dC<|.int 1)<|aa (ah au (ac 3)<|dC<|.int 2) af) af)<|ao<|tR (ac 3) (cK<|dC<|.int 3) bI)<|ag 3)
  (j9 ad EE))
def wZ(ad:Ad)(EE:DX):aE:=
 (ai (ar (ao<|aj (yV ad) EE 2<|aa (ac 0)<|aa (ac 1) af)<|ag 3)
  (iF ad EE))
def yO(ad:Ad):Sd:=aI ["pot","most_rows","few","plan","sound","numbers","pieces","first","some","k","at","faulty","most","both"] (wZ ad)
theorem MM{ad:Ad}{n:Nat}{a b c:D}{M:Mem}{Q:DK}{E:DX}:yO ad [a,b,c] M Q E=wZ ad (aA E) { nx:=λ_ M'=>drp Q .non M',rt:=drp Q } [ap a,ap b,ap c,cm,cm,cm,cm,cm,cm,cm,cm,cm,cm,cm] M:=rfl
def iM(ad:Ad)(EE:DX):aE:=
 (JD 0 1<|aa (ah dg (ac 1)<|ac 0)<|aa (ac 0) af)
def xU(ad:Ad)(EE:DX):aE:=
 (ai (dQ (am<|ah uf (ac 0)<|dC<|.int 0)<|iM ad EE)
  (az<|ac 1))
def xu(ad:Ad):Sd:=aI ["one","other"] (xU ad)
theorem LO{ad:Ad}{n:Nat}{a b:D}{M:Mem}{Q:DK}{E:DX}:xu ad [a,b] M Q E=xU ad (aA E) { nx:=λ_ M'=>drp Q .non M',rt:=drp Q } [ap a,ap b] M:=rfl
def rF(ad:Ad)(EE:DX):aE:=
 (ar (ah cI (ac 9)<|ah au (ac 11)<|dC<|.int 1)<|ag 9)
def lK(ad:Ad)(EE:DX):aE:=
 (ai (ar (ah aW (ah cI (ac 8)<|ah au (ac 11)<|dC<|.int 1)<|ah cI (ah au (ac 11)<|dC<|.int 0)<|ac 9)<|ag 8)
   (rF ad EE))
def gB(ad:Ad)(EE:DX):aE:=
 (ai (aH (Ak (am<|ah uQ (ah au (ac 11)<|dC<|.int 1)<|dC<|.int 1)<|am<|ah k8 (ao<|aj (xu ad) EE 2<|aa (bz ET<|aa (ah au (ac 11)<|dC<|.int 0) af)<|aa (ah au (ac 11)<|dC<|.int 1) af)<|dC<|.int 1) (az<|dC<|.bl eC) aF)
   (lK ad EE))
def m7(ad:Ad)(EE:DX):aE:=
 (az<|ah bZ (ao<|aj (ka ad) EE 2<|aa (ac 13)<|aa (dC<|.int 2000) af)<|ao<|ah aW (ac 7)<|ao<|bQ<|aa (aK<|aa (ah au (ac 3)<|dC<|.int 2)<|aa (aK<|aa (dC<|.int 0)<|aa (dC<|.int 1) af) af)<|aa (aK<|aa (ah aW (ah au (ac 3)<|dC<|.int 2)<|dC<|.int 1)<|aa (aK<|aa (dC<|.int 0)<|aa (dC<|.int 1) af) af) af)
def mv(ad:Ad)(EE:DX):aE:=
 (ai (ar (aK<|aa (ac 12)<|aa (aK<|aa (ah au (ac 4)<|dC<|.int 0)<|aa (ah aW (ah au (ac 4)<|dC<|.int 1)<|aK<|aa (dC<|.int 0)<|aa (dC<|.int 1) af) af)<|aa (aK<|aa (ah au (ac 5)<|dC<|.int 0)<|aa (ah aW (ah au (ac 5)<|dC<|.int 1)<|aK<|aa (dC<|.int 1)<|aa (dC<|.int 0) af) af)<|aa (ac 6) af)<|ag 13)
  (m7 ad EE))
def ik(ad:Ad)(EE:DX):aE:=
 (ai (ar (ah aW (aK<|aa (ah au (ac 3)<|dC<|.int 0)<|aa (ah au (ac 3)<|dC<|.int 1)<|aa (ah aW (ah au (ac 3)<|dC<|.int 2)<|dC<|.int 2) af)<|ao<|tR (ac 3) (cK<|dC<|.int 3) bI)<|ag 12)
  (mv ad EE))
def lI(ad:Ad)(EE:DX):aE:=
 (ai (aH (Ak (am<|ah uf (ah au (ac 3)<|dC<|.int 2)<|dC<|.int 38)<|am<|ah FN (dC<|.str "'pick'")<|bz qZ<|aa (ah au (ac 3)<|dC<|.int 3) af) (az<|dC<|.bl true) aF)
  (ik ad EE))
def kG(ad:Ad)(EE:DX):aE:=
 (ai (aH (am<|ah k8 (ac 8)<|ac 9) (az<|dC<|.bl eC) aF)
  (lI ad EE))
def lj(ad:Ad)(EE:DX):aE:=
 (ai (cH (bH<|ac 7) (fH 2<|b6 (ag 10)<|b6 (ag 11) fm)<|gB ad EE)
  (kG ad EE))
def iQ(ad:Ad)(EE:DX):aE:=
 (ai (ar (dC<|.int 0)<|ag 8)
  (ai (ar (dC<|.int 1)<|ag 9)
  (lj ad EE)))
def jg(ad:Ad)(EE:DX):aE:=
 (ai (ar (ao<|aj (ka ad) EE 2<|aa (ac 2)<|aa (dC<|.int 2000) af)<|ag 7)
  (iQ ad EE))
def iJ(ad:Ad)(EE:DX):aE:=
 (ai (ar (ac 2)<|fH 4<|b6 (ag 3)<|b6 (ag 4)<|b6 (ag 5)<|b6 (ag 6) fm)
  (jg ad EE))
def iA(ad:Ad)(EE:DX):aE:=
 (ai (ar (ao<|aj (yO ad) EE 3<|aa (ac 1)<|aa (dC<|.int 24)<|aa (ah aW (dC<|.int 1)<|ao<|aj (bb ad) EE 2<|aa (ac 1)<|aa (dC<|.int 5) af) af)<|ag 2)
  (iJ ad EE))
def xD(ad:Ad)(EE:DX):aE:=
 (ai (ar (aj (xc ad) EE 1<|aa (ac 0) af)<|ag 1)
  (iA ad EE))
def Au(ad:Ad):Sd:=aI ["script","pot","case","plan","sound","faulty","most","found","top","bottom","thing","share","more","other"] (xD ad)
theorem NG{ad:Ad}{n:Nat}{a:D}{M:Mem}{Q:DK}{E:DX}:Au ad [a] M Q E=xD ad (aA E) { nx:=λ_ M'=>drp Q .non M',rt:=drp Q } [ap a,cm,cm,cm,cm,cm,cm,cm,cm,cm,cm,cm,cm,cm] M:=rfl
set_option genInjectivity false in
structure En(P:fx)(w:g3)(K:OA)(mg:Xr)(base:hG)(ad:Ad):Prop where
 u0:Cls K ad.C_Ends
 u1:mg "Ends"=ap (.ref ad.C_Ends)
 u2:Cls K ad.C_Going
 u3:mg "Going"=ap (.ref ad.C_Going)
 u4:Cls K ad.C_Outcome
 u5:mg "Outcome"=ap (.ref ad.C_Outcome)
 u6:Cls K ad.C_Walk
 u7:mg "Walk"=ap (.ref ad.C_Walk)
 u8:NoAttr K ad.C_Ends "count"
 u9:NoAttr K ad.C_Ends "limit"
 u10:NoAttr K ad.C_Going "left"
 u11:NoAttr K ad.C_Going "numbers"
 u12:NoAttr K ad.C_Going "pieces"
 u13:NoAttr K ad.C_Going "todo"
 u14:NoAttr K ad.C_Going "unsettled"
 u15:NoAttr K ad.C_Outcome "faulty"
 u16:NoAttr K ad.C_Outcome "sound"
 u17:NoAttr K ad.C_Outcome "verdict"
 u18:NoAttr K ad.C_Walk "most"
 u19:NoAttr K ad.C_Walk "numbers"
 u20:NoAttr K ad.C_Walk "pieces"
 u21:NoAttr K ad.C_Walk "plan"
 u22:NoAttr K ad.C_Walk "steps"
 u23:ExcAt K ad.C_Dry
 u24:mg "Dry"=ap (.ref ad.C_Dry)
 u25:ExcAt K ad.C_NoCase
 u26:mg "NoCase"=ap (.ref ad.C_NoCase)
 u27:ExcAt K ad.C_TooMany
 u28:mg "TooMany"=ap (.ref ad.C_TooMany)
 u29:mg "abs"=cm
 u30:mg "dict"=cm
 u31:mg "enumerate"=cm
 u32:mg "isinstance"=cm
 u33:mg "len"=cm
 u34:mg "list"=cm
 u35:mg "max"=cm
 u36:mg "min"=cm
 u37:mg "range"=cm
 u38:mg "repr"=cm
 u39:mg "reversed"=cm
 u40:mg "str"=cm
 u41:mg "sum"=cm
 u42:mg "tuple"=cm
 u43:mg "zip"=cm
 f1:GI K ad.C_Walk "__init__" "Walk.__init__" LM ad.a1 ad.d1 ["self","plan","stand","most"]
 f2:GM K ad.C_Walk "note_step" "Walk.note_step" Mn ad.a2 ad.d2 ["self","place","number"]
 f3:GM K ad.C_Walk "look" "Walk.look" Hu ad.a3 ad.d3 ["self","place","name"]
 f4:GF K mg "run" Hn ad.a4 ad.d4 ["plan","stand","most"]
 f5:GF K mg "mark" GR ad.a5 ad.d5 ["plan","stand","most"]
 f6:GF K mg "do_rows" Hi ad.a6 ad.d6 ["walk","rows","place"]
 f7:GA K mg "do_row_runs" "do_row" GG ad.a7 ad.d7 ["walk","row","place"]
 f8:GF K mg "do_if" GB ad.a8 ad.d8 ["walk","row","place"]
 f9:GF K mg "do_again" Hk ad.a9 ad.d9 ["walk","row","place"]
 f10:GF K mg "number_of" GE ad.a10 ad.d10 ["plan","numbers","pieces","row"]
 f11:GF K mg "piece_read" GK ad.a11 ad.d11 ["plan","numbers","row"]
 f12:GF K mg "joined" HR ad.a12 ad.d12 ["word","y","z","wheel"]
 f13:GF K mg "all_things" HA ad.a13 ad.d13 ["plan"]
 f14:GF K mg "in_order" HB ad.a14 ad.d14 ["plan","things"]
 f15:GF K mg "number_in" Gq ad.a15 ad.d15 ["plan","stand","thing"]
 f16:GF K mg "names_read" HD ad.a16 ad.d16 ["row"]
 f17:GF K mg "unlike" GL ad.a17 ad.d17 ["plan","one","other"]
 f18:GF K mg "marks" Hv ad.a18 ad.d18 ["case"]
 f19:GF K mg "unlike_of" Gy ad.a19 ad.d19 ["case"]
 f20:GF K mg "verdict_of" Hw ad.a20 ad.d20 ["two","one"]
 f21:GI K ad.C_Going "__init__" "Going.__init__" Nw ad.a21 ad.d21 ["self","numbers","pieces","unsettled","todo","left"]
 f22:GM K ad.C_Going "settled" "Going.settled" Ml ad.a22 ad.d22 ["self","thing","number"]
 f23:GI K ad.C_Ends "__init__" "Ends.__init__" N7 ad.a23 ad.d23 ["self","limit"]
 f24:GM K ad.C_Ends "one_more" "Ends.one_more" NC ad.a24 ad.d24 ["self"]
 f25:GF K mg "start" HH ad.a25 ad.d25 ["case"]
 f26:GF K mg "put_ahead" H_ ad.a26 ad.d26 ["rows","todo"]
 f27:GF K mg "go_on" HY ad.a27 ad.d27 ["plan","going"]
 f28:GF K mg "asked_by" HV ad.a28 ad.d28 ["plan","going","row"]
 f29:GA K mg "do_row_trees" "do_row" GQ ad.a29 ad.d29 ["plan","going","row"]
 f30:GF K mg "mark_of" HP ad.a30 ad.d30 ["plan","going"]
 f31:GF K mg "both_ways" GY ad.a31 ad.d31 ["case","going","thing"]
 f32:GV K mg "tree" GX ad.a32 ad.d32 ["case","limit"] (500)
 f33:GF K mg "grown" HW ad.a33 ad.d33 ["case","going","ends"]
 f34:GI K ad.C_Outcome "__init__" "Outcome.__init__" MJ ad.a34 ad.d34 ["self","verdict","sound","faulty"]
 f35:GF K mg "outcomes" HQ ad.a35 ad.d35 ["case","limit"]
 f36:GF K mg "numbers_of" Ie ad.a36 ad.d36 ["bits"]
 f37:GV K mg "shares" Gz ad.a37 ad.d37 ["case","limit"] (500)
 f38:GF K mg "mean_of" Hy ad.a38 ad.d38 ["cases","limit"]
 f39:GF K mg "orders_of" Ho ad.a39 ad.d39 ["case","limit"]
 f40:GF K mg "orders_up_to" GJ ad.a40 ad.d40 ["count"]
 f41:GF K mg "in_lowest_terms" Nm ad.a41 ad.d41 ["n","d"]
 f42:GF K mg "_law_stirred" Gv ad.a42 ad.d42 ["cell","turn"]
 f43:GF K mg "_law_pot" Gu ad.a43 ad.d43 ["script"]
 f44:GF K mg "_law_draw" HN ad.a44 ad.d44 ["pot","many"]
 f45:GF K mg "_law_names" HI ad.a45 ad.d45 ["pot","many"]
 f46:GF K mg "_law_row" Hz ad.a46 ad.d46 ["pot","told"]
 f47:GF K mg "_law_block" He ad.a47 ad.d47 ["pot","told","room","deep"]
 f48:GF K mg "_law_rows" Hc ad.a48 ad.d48 ["pot","told","room","deep","most"]
 f49:GF K mg "_law_plan" Ib ad.a49 ad.d49 ["pot","most"]
 f50:GF K mg "_law_stand" Gw ad.a50 ad.d50 ["pot","plan"]
 f51:GF K mg "_law_becomes" Hx ad.a51 ad.d51 ["gone","row"]
 f52:GF K mg "_law_stepped" O4 ad.a52 ad.d52 ["gone","place","number"]
 f53:GF K mg "_law_rounds" Hd ad.a53 ad.d53 ["gone","row","place"]
 f54:GF K mg "_law_done" Hq ad.a54 ad.d54 ["gone","rows","place"]
 f55:GF K mg "_law_run" Gp ad.a55 ad.d55 ["plan","stand","most"]
 f56:GF K mg "_law_flat" Ht ad.a56 ad.d56 ["rows"]
 f57:GF K mg "_law_marks" Go ad.a57 ad.d57 ["plan","sound","faulty","most"]
 f58:GF K mg "_law_other" Gx ad.a58 ad.d58 ["pot","m","number"]
 f59:GF K mg "_law_by_name" GO ad.a59 ad.d59 ["plan","sound","faulty","most","name"]
 f60:GF K mg "_law_by_piece" MA ad.a60 ad.d60 ["plan"]
 f61:GF K mg "_law_case" I0 ad.a61 ad.d61 ["pot","most_rows","few"]
 f62:GF K mg "_law_common" Hf ad.a62 ad.d62 ["one","other"]
 f63:GF K mg "law" j_ ad.a63 ad.d63 ["script"]
section
section
variable {X:Cx}{B:Bd}{a b c o e:fy}{es:Xn}{ta tb tc to:bp}{t:fj}{i:Nat}{x:Str}{pos p Xg Xf:Pos}(hU:X.A.units+64<rc)(hu:X.A.units+1<rc)(hg:X.A.guards=ap [])(hc:X.calm=true)(ha:DE X B a ta)(hb:DE X B b tb)(hd:DE X B c tc)
def v0:=gq (pos:=pos) G3 ha hb
def v1:=gq (pos:=pos) EO ha hb
def v2:=gq (pos:=pos) FE ha hb
def v3:=gq (pos:=pos) Fh ha hb
def v4:=gq (pos:=pos) JJ ha hb
def v5:=gq (pos:=pos) DY ha hb
def v6:=gq (pos:=pos) Fi ha hb
def v7:=gq (pos:=pos) Ck ha hb
def v8:=gq (pos:=pos) FW ha hb
def v9:=gq (pos:=pos) F4 ha hb
def v10:=gq (pos:=pos) Ek ha hb
def v11:=Ln (pos:=pos) (Cy hU) ha hb
def v12:=cP (X:=X) (B:=B) (p:=p) (pos:=pos) (e:=e) (es:=es) (t:=t) zR FT
def v13:=eZ (X:=X) (B:=B) (p:=p) (pos:=pos) (e:=e) (es:=es) (t:=t) tu Ab
def v14:=eZ (X:=X) (B:=B) (p:=p) (pos:=pos) (e:=e) (es:=es) (t:=t) vK uy
def v15:=eZ (X:=X) (B:=B) (p:=p) (pos:=pos) (e:=e) (es:=es) (t:=t) (uF hc) sU
def v16:=cP (X:=X) (B:=B) (p:=p) (pos:=pos) (e:=e) (es:=es) (t:=t) qE nV
def v17:=eZ (X:=X) (B:=B) (p:=p) (pos:=pos) (e:=e) (es:=es) (t:=t) ut sU
def v18:=cP (X:=X) (B:=B) (p:=p) (pos:=pos) (e:=e) (es:=es) (t:=t) (z9 hc) Eu
def v19:=cP (X:=X) (B:=B) (p:=p) (pos:=pos) (e:=e) (es:=es) (t:=t) (zu hc) Fq
def v20:=cP (X:=X) (B:=B) (p:=p) (pos:=pos) (e:=e) (es:=es) (t:=t) (zG hc) F9
def v21:=cP (X:=X) (B:=B) (p:=p) (pos:=pos) (e:=e) (es:=es) (t:=t) zn EA
def v22:=cP (X:=X) (B:=B) (p:=p) (pos:=pos) (e:=e) (es:=es) (t:=t) (we hg hU) Bw
def v23:=Iy (X:=X) (B:=B) (pos:=pos) Eh
def v24:=BN (X:=X) (B:=B) (Xg:=Xg) (Xf:=Xf) (o:=o) (e:=e) (es:=es) (t:=t) (to:=to) RU RC PySem.F.type_list_append vd
def v25:=yG (X:=X) (B:=B) (Xg:=Xg) (Xf:=Xf) (o:=o) (to:=to) RU RJ T7 yX
def v26:=yG (X:=X) (B:=B) (Xg:=Xg) (Xf:=Xf) (o:=o) (to:=to) PySem.F.plainAttrs_int PySem.F.slot_int_bit_length PySem.F.type_int_bit_length vT
def v27:=BN (X:=X) (B:=B) (Xg:=Xg) (Xf:=Xf) (o:=o) (e:=e) (es:=es) (t:=t) (to:=to) RU RJ T7 yX
def v28:=L7 (X:=X) (B:=B) (Xg:=Xg) (Xf:=Xf) (o:=o) (e:=e) (es:=es) (to:=to) (t:=t) TC PySem.F.type_tuple_index vo
def v29:=FK (X:=X) (B:=B) (x:=x) (pos:=pos) (e:=e) (i:=i) (te:=ta) (pos':=p) xt
def v30:=x_ (X:=X) (B:=B) (pos:=pos) (tpos:=p) (o:=a) (i:=b) (e:=c) (to:=ta) (ti:=tb) (te:=tc) hu ha hb hd xt
def v31:=x_ (X:=X) (B:=B) (pos:=pos) (tpos:=p) (o:=a) (i:=b) (e:=c) (to:=ta) (ti:=tb) (te:=tc) hu ha hb hd DU
def v32:=cX (pos:=pos) Ko ha hb
def v33:=cX (pos:=pos) (Cy hU) ha hb
def v34:=cX (pos:=pos) KN ha hb
def v35:=cX (pos:=pos) De ha hb
def v36:=cX (pos:=pos) G9 ha hb
def v37:=cX (pos:=pos) (Cr hU) ha hb
def v38:=cX (pos:=pos) (JK hU) ha hb
def v39:=cX (pos:=pos) Ik ha hb
def v40:=cX (pos:=pos) (Fw hU) ha hb
def v41:=cX (pos:=pos) Jm ha hb
def v42:=cX (pos:=pos) (zY hU) ha hb
def v43:=cX (pos:=pos) Lo ha hb
end
local macro_rules|`(tactic|exists $n:num)=>do
 let h<-`(?_);let u<-`(_);let I:=λs:String=>Lean.mkIdent s.toName;let p:=λa k=>Lean.Syntax.mkApp (I a) (Array.replicate k h)
 let t<-((["","dnm:u Kt:0 Jl:1 MW:g:IN IK:0 CV:6 DE:ah:3:2 DE:bz:2:3 KW:1 Kf:1 JM:4 As:3 LR:0 Lu:0 v23:4 DE:mM:4:5 v28:7 Db:3 Jh:1 DC:1 vG:9 wz:8 C5:d Ce:a E7:3 Fn:4 CH:a zL:a Ar:a","v0:2 v1:2 v2:2 v3:2 v4:2 v5:2 v6:2 v7:2 v8:2 v9:2 v10:2 v11:4","v12:7 v13:7 v14:7 v15:8 v16:7 v17:7 v18:8 v19:8 v20:8 v21:7 v22:9","","v24:8 v25:4 v26:4 v27:8","O9:3 Jc:6 Lb:10 KJ:5 Je:1 DV:2 J1:5 zp:4 z7:4 Js:6 D8:3 CT:6 IJ:2 v29:5 v30:5 v31:5 Az:a Ey:a","DT:am:1:8 Li:1 Ju:2 Ot:1","v32:3 v33:4 v34:3 v35:3 v36:3 v37:4 v38:4 v39:3 v40:4 v41:3 v42:4 v43:3","dA:2 fD:1 Gc:0 Fc:1 KL:1 Kn:2 L_:2 FD:0 E3:1 Em:4 Jo:4 Lw:4 Lq:4 AZ:3 Et:0 Ep:4 z8:4 Jb:4 JR:1 FC.nil:a FC.cons:a F2:0 Fp:1"].getD n.getNat "").splitOn " ").toArray.mapM λs=>match s.splitOn ":" with
  |[a,"a"]=>`(Lean.Parser.Tactic.tacticSeq|apply $(I a))
  |[a,"d"]=>`(Lean.Parser.Tactic.tacticSeq|(apply $(I a);focus decide))
  |[a,"u"]=>`(Lean.Parser.Tactic.tacticSeq|refine $(I a) _ ?_ ?_ ?_ ?_)
  |[a,k]=>`(Lean.Parser.Tactic.tacticSeq|refine $(p a k.toNat!))
  |[a,_,b]=>`(Lean.Parser.Tactic.tacticSeq|refine $(I a) ($(p b 1)) ?_ ?_ ?_)
  |[d,a,k,m]=>`(Lean.Parser.Tactic.tacticSeq|(show $(I d) _ _ _ $(Lean.Syntax.mkApp (I a) (Array.replicate k.toNat! u));exists $(Lean.Syntax.mkNumLit m)))
  |_=>Lean.Macro.throwUnsupported
 `(tactic|first $[|$t]*)
local macro_rules | `(tactic| exists 0) => `(tactic| first
 |exact Or.inl rfl
 |exact⟨_,_,_,_,_,_,_,by first|exact .g (by assumption)|exact .a (by assumption)|exact .v (by assumption),by assumption,Room.mono (by assumption) (by first|decide|lia),GS,by assumption⟩
 |exact⟨_,_,_,_,_,_,_,by first|exact .g (by assumption)|exact .a (by assumption)|exact .v (by assumption),by assumption,Room.mono (by assumption) (by first|decide|lia),BG,uxN⟩
 |assumption
 |exact Room.mono (by assumption) (by first|decide|lia)
 |with_reducible exact GS
 |with_reducible exact BG
 |with_reducible exact uxN
 |exact FnScope.nd (by assumption)
 |(apply nomark;decide)
 |(apply nodC;decide)
 |(apply Og;decide)
 |exact PassesOwn.leaving
 |exact λ_ _=>rfl
 |exact Or.inr (Or.inl rfl)
 |exact Or.inr rfl
 |exact Or.inr (Or.inr rfl)
 |rfl
 |exact λ_=>rfl
 |decide
 |exact λ_ _ _=>rfl
 |exact⟨rfl,rfl,rfl,rfl⟩
 |with_reducible intro _)
local macro_rules | `(tactic| trivial) => `(tactic| first
 |eq_refl
 |(with_reducible first
 |(show DE _ _ _ _;exists 1)
 |refine da_c ?_ ?_ ?_
 |exact IR
 |(show DT _ _ _ _;exists 7)
 |(show DS _ _ _ _;exists 6)
 |exists 9)
 |exists 0)
set_option hygiene false in
local macro_rules | `(tactic| exists $t:ident, $g) => `(tactic| exact fnS rfl ($g).F ($g).b ⟨rfl, rfl, rfl, by decide +kernel, rfl, by decide +kernel, by decide +kernel⟩ fun hS _ A _ s _ _ _ _ hr ux => (by have hU := hr.units; have hu := pv hr; have hg := hr.gd; have E2 := E; cases E2; unfold $t:ident; (first | refine dA ?_ ?_ | refine fD ?_); repeat' trivial))
set_option hygiene false in
local macro_rules | `(tactic| exists $t:ident, $g, $[$ps:ident],*) => `(tactic| exists (_), $t:ident, $g, $[$ps:ident],*)
set_option hygiene false in
local macro_rules | `(tactic| exists ($k), $t:ident, $g) => `(tactic| exact fnS (k := $k) rfl ($g).F ($g).b ⟨rfl, rfl, rfl, by decide +kernel, rfl, by decide +kernel, by decide +kernel⟩ fun hS _ A _ s _ _ _ _ hr ux => (by have hU := hr.units; have hu := pv hr; have hg := hr.gd; have E2 := E; cases E2; unfold $t:ident; (first | refine dA ?_ ?_ | refine fD ?_); repeat' trivial))
set_option hygiene false in
local macro_rules | `(tactic| exists ($k), $t:ident, $g, $[$ps:ident],*) => `(tactic| exact fnS (k := $k) rfl ($g).F ($g).b ⟨rfl, rfl, rfl, by decide +kernel, rfl, by decide +kernel, by decide +kernel⟩ fun hS _ A _ s _ _ _ _ hr ux => (by have hU := hr.units; have hu := pv hr; have hg := hr.gd; have E2 := E; cases E2; unfold $t:ident $[$ps:ident]*; (first | refine dA ?_ ?_ | refine fD ?_); repeat' trivial))
variable {P:fx}{w:g3}{K:OA}{mg:Xr}{base:hG}{ad:Ad}(E:En P w K mg base ad)
include E
theorem LW:ck P w mg base E.f1.F E.f1.b 1 (FM ad):=by
 exists FZ,E.f1
theorem Hl:ck P w mg base E.f2.F E.f2.b 1 (vW ad):=by
 exists Fk,E.f2
theorem JO:ck P w mg base E.f3.F E.f3.b 2 (oV ad):=by
 have:=Hl E
 exists wC,E.f3
theorem Lr:ck P w mg base E.f12.F E.f12.b 1 (wK ad):=by
 exists yf,E.f12
theorem Dk:ck P w mg base E.f11.F E.f11.b 1 (mO ad):=by
 exists j7,E.f11
theorem CU:ck P w mg base E.f10.F E.f10.b 2 (mW ad):=by
 have:=Lr E;have:=Dk E
 exists gg,E.f10
theorem tO:∀n:Nat,ck P w mg base E.f6.F E.f6.b (2+n) (U9 ad n)/\ck P w mg base E.f7.F E.f7.b (2+n) (Va ad n)/\ck P w mg base E.f8.F E.f8.b (2+n) (Vb ad n)/\ck P w mg base E.f9.F E.f9.b (2+n) (Vc ad n):=by
 have:=JO E;have:=Hl E;have:=CU E;intro n
 induction n with
 |zero=>exact⟨e_,e_,e_,e_⟩
 |succ n ih=>
  obtain⟨_,_,_,_⟩:=ih;refine⟨?_,?_,?_,?_⟩
  .exists (2+n),xx,E.f6
  .exists (2+n),iW,E.f7
  .exists (2+n),y4,E.f8
  .exists (2+n),xM,E.f9
theorem Jp:ck P w mg base E.f4.F E.f4.b 27 (ua ad):=by
 have:=LW E;obtain⟨_,_,_,_⟩:=tO E 24
 exists yr,E.f4
theorem IU:ck P w mg base E.f5.F E.f5.b 28 (oN ad):=by
 have:=Jp E
 exists xb,E.f5
theorem CW:ck P w mg base E.f13.F E.f13.b 1 (sK ad):=by
 exists yD,E.f13
theorem JA:ck P w mg base E.f14.F E.f14.b 2 (wL ad):=by
 have:=CW E
 exists xw,E.f14,kK
theorem CG:ck P w mg base E.f15.F E.f15.b 1 (jX ad):=by
 exists tB,E.f15
theorem IF:ck P w mg base E.f16.F E.f16.b 1 (yS ad):=by
 exists iO,E.f16
theorem KA:ck P w mg base E.f17.F E.f17.b 2 (yP ad):=by
 have:=CW E;have:=CG E
 exists xa,E.f17
theorem AT:ck P w mg base E.f18.F E.f18.b 29 (uJ ad):=by
 have:=IU E
 exists y6,E.f18,qN,m4,pT
theorem qb:ck P w mg base E.f19.F E.f19.b 3 (k4 ad):=by
 have:=KA E
 exists xA,E.f19
theorem JH:ck P w mg base E.f20.F E.f20.b 1 (wH ad):=by
 exists uM,E.f20
theorem HX:ck P w mg base E.f21.F E.f21.b 1 (BP ad):=by
 exists G6,E.f21
theorem MC:ck P w mg base E.f22.F E.f22.b 3 (Ag ad):=by
 have:=HX E
 exists El,E.f22,rE,qL,vt,wc
theorem NN:ck P w mg base E.f23.F E.f23.b 1 (K0 ad):=by
 exists E8,E.f23
theorem Ic:ck P w mg base E.f24.F E.f24.b 1 (C_ ad):=by
 exists Gj,E.f24,wt
theorem Bk:ck P w mg base E.f26.F E.f26.b 1 (nv ad):=by
 exists wI,E.f26,qI
theorem Ls:ck P w mg base E.f25.F E.f25.b 4 (yu ad):=by
 have:=HX E;have:=Bk E;have:=qb E
 exists yj,E.f25,qr,ma,mm
theorem Jq:ck P w mg base E.f28.F E.f28.b 3 (yU ad):=by
 have:=JA E;have:=IF E;have:=Dk E
 exists xT,E.f28,lq,lG,lY,qD,r8
theorem Jv:ck P w mg base E.f29.F E.f29.b 3 (yQ ad):=by
 have:=CU E;have:=Bk E
 exists xq,E.f29,qe,gQ,mi,gI,pU,qY,rT
theorem IL:ck P w mg base E.f27.F E.f27.b 4 (yI ad):=by
 have:=Jq E;have:=Jv E
 exists wN,E.f27,rR,gP,m5,pW,lE,pJ
theorem IT:ck P w mg base E.f30.F E.f30.b 1 (yR ad):=by
 exists yL,E.f30
theorem Kj:ck P w mg base E.f31.F E.f31.b 4 (xf ad):=by
 have:=MC E;have:=CG E
 exists yz,E.f31
theorem Ac:∀n:Nat,ck P w mg base E.f33.F E.f33.b (4+n) (U8 ad n):=by
 have:=Ic E;have:=Kj E;have:=IL E;have:=IT E;intro n
 induction n with
 |zero=>exact e_
 |succ n ih=>
  exists (4+n),yg,E.f33,kE,lC,kF,lW,rH
theorem Kh:OkV P w mg base E.f32.F E.f32.b 30 (wQ ad):=by
 have:=NN E;have:=Ic E;have:=Ac E 24;have:=AT E;have:=Ls E;exact NR rfl E.f32.F E.f32.b ⟨rfl,rfl,rfl,by decide +kernel,rfl,by decide +kernel,by decide +kernel⟩ λhS _ A _ s _ _ _ _ hr ux=>(by have hU:=hr.units;have hu:=pv hr;have hg:=hr.gd;have E2:=E;cases E2;unfold xI qh kC qu;(first|refine dA ?_ ?_|refine fD ?_);repeat' trivial)
theorem Na:ck P w mg base E.f34.F E.f34.b 1 (FF ad):=by
 exists DB,E.f34
theorem JY:ck P w mg base E.f35.F E.f35.b 31 (y2 ad):=by
 have:=Na E;have:=AT E;have:=Kh E;have:=qb E;have:=JH E
 exists yN,E.f35,io,iP,qf,gJ,kU,qj,kX,qK,rS,qB,qV
theorem Kv:ck P w mg base E.f36.F E.f36.b 1 (sw ad):=by
 exists xQ,E.f36
theorem Ng:ck P w mg base E.f41.F E.f41.b 1 (Ei ad):=by
 exists DP,E.f41,wd,v_,vM,nS,vg
theorem BE:ck P w mg base E.f40.F E.f40.b 1 (tD ad):=by
 exists xl,E.f40,rB,rJ
theorem J8:ck P w mg base E.f39.F E.f39.b 32 (sJ ad):=by
 have:=Kv E;have:=BE E;have:=JY E;have:=qb E
 exists yn,E.f39,iK,lc,mh,mj,gz,me,mr,lP,pV,pL
theorem J7:ck P w mg base E.f38.F E.f38.b 33 (xW ad):=by
 have:=Ng E;have:=J8 E;have:=BE E;have:=qb E
 exists wO,E.f38,lO,kJ,kH,lX,pS
theorem KG:OkV P w mg base E.f37.F E.f37.b 34 (ka ad):=by
 have:=J7 E;exact NR rfl E.f37.F E.f37.b ⟨rfl,rfl,rfl,by decide +kernel,rfl,by decide +kernel,by decide +kernel⟩ λhS _ A _ s _ _ _ _ hr ux=>(by have hU:=hr.units;have hu:=pv hr;have hg:=hr.gd;have E2:=E;cases E2;unfold xp;(first|refine dA ?_ ?_|refine fD ?_);repeat' trivial)
theorem IG:ck P w mg base E.f42.F E.f42.b 1 (mK ad):=by
 exists xG,E.f42
theorem Lj:ck P w mg base E.f43.F E.f43.b 1 (xc ad):=by
 exists wX,E.f43
theorem f_:ck P w mg base E.f44.F E.f44.b 2 (bb ad):=by
 have:=IG E
 exists y9,E.f44
theorem IZ:ck P w mg base E.f45.F E.f45.b 3 (yY ad):=by
 have:=f_ E
 exists xH,E.f45
theorem K_:ck P w mg base E.f46.F E.f46.b 3 (tP ad):=by
 have:=f_ E
 exists wA,E.f46
theorem nL:∀n:Nat,ck P w mg base E.f47.F E.f47.b (3+n) (Ve ad n)/\ck P w mg base E.f48.F E.f48.b (3+n) (Vd ad n):=by
 have:=f_ E;have:=K_ E;intro n
 induction n with
 |zero=>exact⟨e_,e_⟩
 |succ n ih=>
  obtain⟨_,_⟩:=ih;refine⟨?_,?_⟩
  .exists (3+n),yd,E.f47
  .exists (3+n),xX,E.f48
theorem L5:ck P w mg base E.f49.F E.f49.b 28 (yV ad):=by
 have:=f_ E;have:=IZ E;obtain⟨_,_⟩:=nL E 24
 exists wS,E.f49
theorem Ke:ck P w mg base E.f50.F E.f50.b 3 (yx ad):=by
 have:=f_ E
 exists xE,E.f50
theorem IC:ck P w mg base E.f51.F E.f51.b 1 (uq ad):=by
 exists nF,E.f51
theorem LI:ck P w mg base E.f52.F E.f52.b 1 (uk ad):=by
 exists EQ,E.f52
theorem kf:∀n:Nat,ck P w mg base E.f53.F E.f53.b (1+n) (U7 ad n)/\ck P w mg base E.f54.F E.f54.b (1+n) (U6 ad n):=by
 have:=IC E;have:=LI E;intro n
 induction n with
 |zero=>exact⟨e_,e_⟩
 |succ n ih=>
  obtain⟨_,_⟩:=ih;refine⟨?_,?_⟩
  .exists (1+n),xz,E.f53,j6,qQ,qp,rf
  .exists (1+n),yF,E.f54,iN,pH,lg,ms,lh,pZ,kz,qo,lV,qM
theorem KR:ck P w mg base E.f55.F E.f55.b 26 (mY ad):=by
 obtain⟨_,_⟩:=kf E 24
 exists wU,E.f55
theorem CO:ck P w mg base E.f56.F E.f56.b 1 (sx ad):=by
 exists yi,E.f56
theorem B8:ck P w mg base E.f57.F E.f57.b 27 (p9 ad):=by
 have:=KR E
 exists wB,E.f57,lB,kL,lZ
theorem KE:ck P w mg base E.f58.F E.f58.b 3 (nK ad):=by
 have:=f_ E
 exists ye,E.f58
theorem Jn:ck P w mg base E.f59.F E.f59.b 28 (xL ad):=by
 have:=CO E;have:=B8 E
 exists xk,E.f59,li,lJ,lF,kW,lN
theorem Of:ck P w mg base E.f60.F E.f60.b 1 (Ea ad):=by
 exists G5,E.f60,qP,qG,mU,qq
theorem J9:ck P w mg base E.f61.F E.f61.b 29 (yO ad):=by
 have:=Jn E;have:=Of E;have:=f_ E;have:=CO E;have:=B8 E;have:=KE E;have:=L5 E;have:=Ke E
 exists wZ,E.f61,iF,j9,iz,jh,il,jl,iT,iC,jn,iX,g9,fU,jc,fL,fN,mH,nG,lx,ir,lD,kZ,lz,lQ,k_,kN,lL
theorem JE:ck P w mg base E.f62.F E.f62.b 1 (xu ad):=by
 exists xU,E.f62,iM
theorem KH:ck P w mg base E.f63.F E.f63.b 35 (Au ad):=by
 have:=J9 E;have:=JE E;have:=f_ E;have:=Lj E;have:=KG E
 exists xD,E.f63,iA,iJ,jg,iQ,lj,kG,lI,ik,mv,m7,gB,lK,rF
end
end _T
namespace _3
open PySem _2
theorem aO{T:Sd}{EE:DX}{ds:List D}{M:Mem}{Q:DK}{b:BxQ EE Q}{d:D}(c:∀Q' E',Q' d M->T ds M Q' E')(h:Q d M):calls T EE ds M Q b:=
 aq λQ' E' a _=>c Q' E' (a d M h)
theorem bo{α:Type}{xs:List α}{i:Int}(h:0<=i):atI xs i=xs[i.toNat]?:=by
 unfold atI rX;rw[if_pos h]
 by_cases a:i<xs.length
 .rw[if_pos a];rfl
 .rw[if_neg a,PC (by lia)];rfl
@[simp] theorem atI_0 {α:Type} {xs:List α}:atI xs 0=xs[0]?:=bo (by decide)
@[simp] theorem atI_1 {α:Type} {xs:List α}:atI xs 1=xs[1]?:=bo (by decide)
@[simp] theorem atI_2 {α:Type} {xs:List α}:atI xs 2=xs[2]?:=bo (by decide)
@[simp] theorem atI_3 {α:Type} {xs:List α}:atI xs 3=xs[3]?:=bo (by decide)
@[simp] theorem atI_4 {α:Type} {xs:List α}:atI xs 4=xs[4]?:=bo (by decide)
theorem cc{g:jK}{f:aE}{DD:DEnds}{ok:Mem->Prop}{b:BxF g f DD ok}(I:List D->Dl->Mem->Prop)(c:∀xs U M,I xs U M->ok M)(i:∀U M,I [] U M->DD.nx U M)
  (j:∀x xs U M,I (x::xs) U M->∀D':DEnds,(∀a M',I xs a M'->D'.nx a M')->(∀a M',I xs a M'->D'.ct a M')->D'.rt=DD.rt->D'.bk=DD.nx->g x U M λδ2 M2=>f D' δ2 M2):∀xs U M,I xs U M->gU g f DD ok b xs U M
 |[],U,M,h=>⟨c _ _ _ h,i U M h⟩
 |x::xs,U,M,h=>⟨c _ _ _ h,j x xs U M h _ (λa M' e=>cc I c i j xs a M' e) (λa M' e=>cc I c i j xs a M' e) rfl rfl⟩
theorem cO{g:jK}{tt:fC}{te:bp}{ok:Mem->Prop}{Q:List D->Mem->Prop}{b:BxC g tt te ok Q}(I:List D->List D->Dl->Mem->Prop)(e:∀xs Xe U M,I xs Xe U M->ok M)(j:∀Xe U M,I [] Xe U M->Q Xe M)
  (m:∀x xs Xe U M,I (x::xs) Xe U M->∀N:Bool->D->Dl->Mem->Prop,(∀y a M',Xe.length<sizeLine->I xs (Xe++[y]) a M'->N true y a M')->(∀y a M',I xs Xe a M'->N eC y a M')->g x U M λδ2 M2=>tt δ2 M2 λc M3=>if c=true then te δ2 M3 λy M4=>N true y δ2 M4 else N eC .non δ2 M3)
  (n:∀x xs Xe U M,I (x::xs) Xe U M->Xe.length<sizeLine):∀xs Xe U M,I xs Xe U M->cw g tt te ok Q b xs Xe U M
 |[],Xe,U,M,h=>⟨e _ _ _ _ h,j Xe U M h⟩
 |x::xs,Xe,U,M,h=>⟨e _ _ _ _ h,m x xs Xe U M h (λk y a M'=>if k=true then Xe.length<sizeLine/\cw g tt te ok Q b xs (Xe++[y]) a M' else cw g tt te ok Q b xs Xe a M')
   (λy a M' f i=>by rw[if_pos rfl];exact⟨f,cO I e j m n xs _ a M' i⟩) (λy a M' i=>by rw[if_neg (by simp)];exact cO I e j m n xs _ a M' i) |> λz=>by simpa using z⟩
theorem bf{n:Nat}(h:n<=1000000):n<=sizeLine:=OV h (by decide)
theorem jx{n:Nat}(h:n<1000000):n<sizeLine:=OF h (by decide)
end _3
namespace _T
open PySem _2 _3
variable{v:Int}{x:Str}{n:cA}
inductive Rw where
 |put (x:Str) (k:Int)|take (x:Str) (i:Int)|pick (x y:Str)|two (w x y z:Str)|ifr (x:Str) (a b:List Rw)|again (x:Str) (a:List Rw)
mutual
def Rw.d:Rw->D
 |.put x k=>.tup [.str "put",.str x,.int k]
 |.take x i=>.tup [.str "take",.str x,.int i]
 |.pick x y=>.tup [.str "pick",.str x,.str y]
 |.two w x y z=>.tup [.str w,.str x,.str y,.str z]
 |.ifr x a b=>.tup [.str "if",.str x,.tup (aw a),.tup (aw b)]
 |.again x a=>.tup [.str "again",.str x,.tup (aw a)]
def aw:List Rw->List D
 |[]=>[]
 |r::rs=>r.d::aw rs
end
theorem gC:∀a:List Rw,aw a=a.map Rw.d
 |[]=>rfl
 |r::a=>by rw[aw,gC a];rfl
abbrev cA:=List (Str×Int)
def gN(n:cA)(x:Str):Option Int:=(n.find? λp=>decide (p.1=x)).map (·.2)
def nm(n:cA)(x:Str):Int:=(gN n x).getD 0
def sN(n:cA)(x:Str)(v:Int):cA:=n.map λp=>if p.1=x then (p.1,v) else p
def dE(n:cA):List (aG×D):=n.map λp=>(OX p.1,D.int p.2)
theorem GP:∀{n:cA}{x:Str},x∈n.map (·.1)->gN n x=ap (nm n x)
 |[],_,h=>by simp at h
 |(y,v)::n,x,h=>by
  by_cases e:y=x
  .simp[gN,nm,e]
  .have:=GP (n:=n) (x:=x) (by simpa [Pa e,eq_comm,e] using h)
   simpa [gN,nm,e] using this
theorem b_:∀{n:cA}{x:Str},cT (dE n) (OX x)=(gN n x).map D.int
 |[],x=>rfl
 |(y,v)::n,x=>by
  by_cases e:y=x
  .simp[cT,dE,gN,e]
  .have:=b_ (n:=n) (x:=x)
   simpa [cT,dE,gN,e] using this
theorem CC:∀{n:cA}{x:Str},x∈n.map (·.1)->((dE n).any λkv=>decide (kv.1=OX x))=true
 |[],_,h=>by simp at h
 |(y,v)::n,x,h=>by
  by_cases e:y=x
  .simp[dE,e]
  .have:=CC (n:=n) (x:=x) (by simpa [Pa e,eq_comm,e] using h)
   simp only[dE,Oy,Qn,Bool.or_eq_true]at this ⊢;exact .inr this
theorem lT(h:x∈n.map (·.1)):eK (dE n) (OX x) (.int v)=dE (sN n x v):=by
 unfold eK;rw[CC h,if_pos rfl];simp only[dE,sN,Qb];apply PN;intro p _
 by_cases e:p.1=x
 .simp[e]
 .simp[e]
theorem iS:(sN n x v).map (·.1)=n.map (·.1):=by
 simp only[sN,Qb];apply PN;intro p _
 by_cases e:p.1=x<;>simp[e]
theorem Ni{y:Str}(h:x∈n.map (·.1)):gN (sN n x v) y=if y=x then ap v else gN n y:=by
 induction n with
 |nil=>simp at h
 |cons p n ih=>
  obtain⟨k,u⟩:=p
  by_cases e:k=x
  .subst e
   by_cases a:y=k
   .subst a;simp[gN,sN]
   .simp only[if_neg a]
    have f:¬k=y:=λz=>a z.symm
    by_cases b:k∈n.map (·.1)
    .have:=ih b
     simpa [gN,sN,f,if_neg a] using this
    .simp only[gN,sN,Oy,if_pos,P2,f,decide_false]
     congr 1;have:n.map (λp=>if p.1=k then (p.1,v) else p)=n:=by
      conv=>rhs;rw[<- Qj n]
      apply PN;intro p g;have:p.1≠k:=λz=>b (by rw[<- z];exact RF g)
      simp[this]
     rw[this]
  .have b:x∈n.map (·.1):=by simpa [Pa e,eq_comm,e] using h
   have:=ih b
   by_cases a:y=x
   .subst a;simpa [gN,sN,e] using this
   .by_cases c:k=y
    .subst c;simp[gN,sN,e]
    .simpa [gN,sN,e,c,a] using this
structure Cf where
 m:Int
 pieces:List Int
 most:Nat
structure Sx where
 nums:cA
 steps:List (List Int×Int)
def yJ(w:Str)(y z m:Int):Int:=if w="sum" then (y+z) % m else if w="by" then y*z % m else if w="less" then (if y<z then 1 else 0) else if y=z then 1 else 0
def num(c:Cf)(n:cA):Rw->Int
 |.put _ k=>k
 |.take _ i=>(c.pieces[i.toNat]?).getD 0
 |.pick _ y=>(c.pieces[(nm n y % (c.pieces.length:Int)).toNat]?).getD 0
 |.two w _ y z=>yJ w (nm n y) (nm n z) c.m
 |_=>0
def eD:Rw->Str
 |.put x _=>x
 |.take x _=>x
 |.pick x _=>x
 |.two _ x _ _=>x
 |.ifr x _ _=>x
 |.again x _=>x
def nt(c:Cf)(pl:Xj)(v:Int)(s:Sx):Bool×Sx:=if s.steps.length<c.most then (true,⟨s.nums,s.steps++[(pl,v)]⟩) else (eC,s)
def lk(n:cA)(x:Str):Int:=if nm n x=0 then 0 else 1
def eU(c:Cf)(x:Str)(pl:Xj)(body:Nat->Sx->Bool×Sx):Nat->Nat->Sx->Bool×Sx
 |0,_,s=>(eC,s)
 |f+1,t,s=>if (nt c (pl++[(t:Int)]) (lk s.nums x) s).1=true then
   (if lk s.nums x=1 then
    (if (body t (nt c (pl++[(t:Int)]) (lk s.nums x) s).2).1=true then eU c x pl body f (t+1) (body t (nt c (pl++[(t:Int)]) (lk s.nums x) s).2).2 else body t (nt c (pl++[(t:Int)]) (lk s.nums x) s).2)
   else nt c (pl++[(t:Int)]) (lk s.nums x) s)
  else nt c (pl++[(t:Int)]) (lk s.nums x) s
mutual
def gy(c:Cf):Rw->List Int->Sx->Bool×Sx
 |.ifr x a b,pl,s=>if (nt c pl (lk s.nums x) s).1=true then (if lk s.nums x=1 then bP c a (pl++[lk s.nums x]) 0 (nt c pl (lk s.nums x) s).2 else bP c b (pl++[lk s.nums x]) 0 (nt c pl (lk s.nums x) s).2) else nt c pl (lk s.nums x) s
 |.again x a,pl,s=>eU c x pl (λt s=>bP c a (pl++[(t:Int)]) 0 s) (c.most+1) 0 s
 |.put x k,pl,s=>if (nt c pl (num c s.nums<|.put x k) s).1=true then (true,⟨sN s.nums x (num c s.nums<|.put x k),(nt c pl (num c s.nums<|.put x k) s).2.steps⟩) else nt c pl (num c s.nums<|.put x k) s
 |.take x i,pl,s=>if (nt c pl (num c s.nums<|.take x i) s).1=true then (true,⟨sN s.nums x (num c s.nums<|.take x i),(nt c pl (num c s.nums<|.take x i) s).2.steps⟩) else nt c pl (num c s.nums<|.take x i) s
 |.pick x y,pl,s=>if (nt c pl (num c s.nums<|.pick x y) s).1=true then (true,⟨sN s.nums x (num c s.nums<|.pick x y),(nt c pl (num c s.nums<|.pick x y) s).2.steps⟩) else nt c pl (num c s.nums<|.pick x y) s
 |.two w x y z,pl,s=>if (nt c pl (num c s.nums<|.two w x y z) s).1=true then (true,⟨sN s.nums x (num c s.nums<|.two w x y z),(nt c pl (num c s.nums<|.two w x y z) s).2.steps⟩) else nt c pl (num c s.nums<|.two w x y z) s
def bP(c:Cf):List Rw->List Int->Nat->Sx->Bool×Sx
 |[],_,_,s=>(true,s)
 |r::rs,pl,j,s=>if (gy c r (pl++[(j:Int)]) s).1=true then bP c rs pl (j+1) (gy c r (pl++[(j:Int)]) s).2 else gy c r (pl++[(j:Int)]) s
end
def ie(c:Cf)(r:Rw)(pl:Xj)(s:Sx):Bool×Sx:=if s.steps.length<c.most then (true,⟨sN s.nums (eD r) (num c s.nums r),s.steps++[(pl,num c s.nums r)]⟩) else (eC,s)
def bi:Rw->Bool
 |.ifr _ _ _=>eC
 |.again _ _=>eC
 |_=>true
theorem bV{c:Cf}{r:Rw}{pl:Xj}{s:Sx}(h:bi r=true):gy c r pl s=ie c r pl s:=by
 cases r with
 |ifr x a b=>simp[bi]at h
 |again x a=>simp[bi]at h
 |put x k=>simp only[gy,ie,nt,eD];split<;>simp_all
 |take x k=>simp only[gy,ie,nt,eD];split<;>simp_all
 |pick x k=>simp only[gy,ie,nt,eD];split<;>simp_all
 |two w x y z=>simp only[gy,ie,nt,eD];split<;>simp_all
theorem ofs_inj(a b:String):(PD a=PD b)=(a=b):=by
 refine propext ⟨λh=>?_,λh=>by rw[h]⟩
 rw[Str.ofString_eq_byList]at h;have c:=congrArg (λx:Str=>x.cps.toList) h;simp only[Str.ofStringByList]at c;exact String.toList_inj.mp ((List.map_inj_right λx y e=>Char.toNat_inj.mp e).mp c)
end _T
open PySem _2 _3 _T
local macro_rules | `(tactic| simp! [$a,*]) => do let p <- ("kK pT m4 qN wc vt qL rE wt qI mm ma qr r8 qD lY lG lq rT qY pU gI mi gQ qe pJ lE pW m5 gP rR rH lW kF lC kE qu kC qh qV qB rS qK kX qj kU gJ qf iP io vg nS vM v_ wd rJ rB pL pV lP mr me gz mj mh lc iK pS lX kH kJ lO rf qp qQ j6 qM lV qo kz pZ lh ms lg pH iN lZ kL lB lN kW lF lJ li qq mU qG qP lL kN k_ lQ lz kZ lD ir lx nG mH fN fL jc fU g9 iX jn iC iT jl il jh iz j9 iF iM rF lK gB m7 mv ik lI kG lj iQ jg iJ iA mT C7 Dn LB BW xY Io ue AL kA qm uz wV ET qZ FN JD aI startN ai aH am dm Dw ah bZ k8 dv bj bt aP gn ac dC az o9 aF i9 vV Ak oI jt cI au aJ gW ao frz aW jC h9 iV vz ar ag fH b6 fm de nz aa af aK bQ bz bM eR cB yW eI BX F0 aZ cu bn mM bW zo Mq nU jw fK i8 cL Lg pR ju B5 Jt tR cK bI aj cV fY bH fG k7 bE cZ dG cG fg ou wy frzs KY qx C1 wf".splitOn " ").toArray.mapM (fun s => `(Lean.Parser.Tactic.simpLemma| ↓$(Lean.mkIdent s.toName):ident)); let q <- ("List.map_cons List.map_nil List.cons_append List.nil_append List.length_cons List.length_nil List.getElem?_cons_succ List.getElem?_cons_zero List.set_cons_succ List.set_cons_zero Nat.zero_add Nat.reduceAdd Nat.reduceSub List.replicate_succ List.replicate_zero List.append_nil true_and and_true if_true if_false Bool.false_eq_true decide_eq_true_eq decide_eq_false_iff_not Bool.not_true Bool.not_false Bool.and_true Bool.true_and Bool.and_false Bool.false_and Mem.upd_same Option.isSome_some Option.isSome_none ofs_inj String.reduceEq".splitOn " ").toArray.mapM (fun s => `(Lean.Parser.Tactic.simpLemma| $(Lean.mkIdent s.toName):ident)); let r : Lean.TSyntaxArray [`Lean.Parser.Tactic.simpStar, `Lean.Parser.Tactic.simpErase, `Lean.Parser.Tactic.simpLemma] := (p.map (⟨·.raw⟩)) ++ (q.map (⟨·.raw⟩)) ++ a.getElems; `(tactic| simp -dsimp only [$r,*])
namespace _T
open PySem _2 _3
variable{ad:Ad}{c:Cf}{Q:DK}{E:DX}{names:Xk}{M:Mem}{n:cA}
theorem k9{w:Str}{y z m:Int}(b:0<m)(i:0<=y)(g:y<1000)(h:Q (.int<|yJ w y z m) M):wK ad [.str w,.int y,.int z,.int m] M Q E:=by
 have f:CMul y z:=.inl ⟨by lia,by lia⟩
 unfold yJ at h;simp![LK,yf]
 split
 .rename_i e;rw[if_pos e]at h;exact⟨b,ak h⟩
 .rename_i e;rw[if_neg e]at h
  split
  .rename_i e;rw[if_pos e]at h;exact⟨f,b,ak h⟩
  .rename_i e;rw[if_neg e]at h
   split
   .rename_i e;rw[if_pos e]at h
    split<;>rename_i a
    .rw[if_pos a]at h;exact ak h
    .rw[if_neg a]at h;exact ak h
   .rename_i e;rw[if_neg e]at h
    split<;>rename_i a
    .rw[if_pos a]at h;exact ak h
    .rw[if_neg a]at h;exact ak h
def cz(names:Xk)(m many:Int):Rw->Prop
 |.put x k=>x∈names/\0<=k/\k<m
 |.take x i=>x∈names/\0<=i/\i<many
 |.pick x y=>x∈names/\y∈names/\0<many
 |.two w x y z=>(w="sum"\/w="by"\/w="less"\/w="same")/\x∈names/\y∈names/\z∈names
 |_=>False
structure NOk(names:Xk)(m:Int)(n:cA):Prop where
 keys:n.map (·.1)=names
 rng:∀p∈n,0<=p.2/\p.2<m
theorem NOk.at{names:Xk}{m:Int}{n:cA}(h:NOk names m n){x:Str}(f:x∈names):gN n x=ap (nm n x)/\0<=nm n x/\nm n x<m:=by
 have e:gN n x=ap (nm n x):=GP (by rw[h.keys];exact f)
 refine⟨e,?_⟩;unfold gN at e;obtain⟨p,a,b⟩:=R8.mp e;rw[<- b];exact h.rng p (List.mem_of_find?_eq_some a)
theorem Ga{w:Str}{y z m:Int}(g:2<=m):0<=yJ w y z m/\yJ w y z m<m:=by
 unfold yJ;have e:=PK (y+z) (show m≠0 by lia)
 have a:=PY (y+z) (show 0<m by lia)
 have b:=PK (y*z) (show m≠0 by lia)
 have f:=PY (y*z) (show 0<m by lia)
 repeat' split
 all_goals lia
structure COk(c:Cf):Prop where
 m2:2<=c.m
 m1:c.m<=997
 rng:∀v∈c.pieces,0<=v/\v<c.m
 few:c.pieces.length<=1000
 most:c.most<=10000
theorem COk.piece(h:COk c){i:Nat}(a:i<c.pieces.length):c.pieces[i]?=ap ((c.pieces[i]?).getD 0)/\0<=(c.pieces[i]?).getD 0/\(c.pieces[i]?).getD 0<c.m:=by
 rw[Oz a];exact⟨rfl,h.rng _<|Qs a⟩
theorem xj(h:COk c)(g:NOk names c.m n){r:Rw}(a:cz names c.m c.pieces.length r):0<=num c n r/\num c n r<c.m:=by
 cases r with
 |put x k=>exact a.2
 |take x i=>exact(h.piece (i:=i.toNat)<|by have:=a.2;lia).2
 |pick x y=>
  have b:=a.2.2;have e:=PK (nm n y) (show (c.pieces.length:Int)≠0 by lia)
  have f:=PY (nm n y) b;exact(h.piece (i:=(nm n y % (c.pieces.length:Int)).toNat)<|by lia).2
 |two w x y z=>exact Ga h.m2
 |ifr=>exact a.elim
 |again=>exact a.elim
def aT(c:Cf)(names:Xk)(rows:List Rw)(mk:Str):D:=.tup [.int c.m,.tup (names.map D.str),.int (c.pieces.length:Nat),.tup (aw rows),.str mk]
theorem ci{rows:List Rw}{mk:Str}{b:eg}{r:Rw}(g:NOk names c.m n)(a:cz names c.m c.pieces.length r)(f:M b=ap (.dK<|dE n))(h:Q (match r with|.take _ i=>.int i|.pick _ y=>.int (nm n y % (c.pieces.length:Int))|_=>.non) M):mO ad [aT c names rows mk,.ref b,r.d] M Q E:=by
 cases r with
 |put x k=>(simp![p8,j7,aT,Rw.d,atI_0,atI_2];exact ak h)
 |take x i=>(simp![p8,j7,aT,Rw.d,atI_0,atI_2];exact ak h)
 |pick x y=>
  simp![p8,j7,aT,Rw.d,atI_0,atI_2,f,b_,(g.at a.2.1).1,PQ];exact⟨a.2.2,ak h⟩
 |two w x y z=>
  obtain⟨e,_⟩:=a;rcases e with rfl|rfl|rfl|rfl<;>(simp![p8,j7,aT,Rw.d,atI_0,atI_2];exact ak h)
 |ifr=>exact a.elim
 |again=>exact a.elim
theorem nP{rows:List Rw}{mk:Str}{A:eg}{r:Rw}(f:COk c)(e:NOk names c.m n)(b:cz names c.m c.pieces.length r)(g:M A=ap (.dK<|dE n))(h:Q (.int<|num c n r) M):mW ad [aT c names rows mk,.ref A,.tup (c.pieces.map D.int),r.d] M Q E:=by
 have C:=f.m1;have B:=f.m2;cases r with
 |put x k=>
  simp![jU,gg,aT,Rw.d,atI_0,atI_2];exact ak h
 |take x i=>
  have a:=b;obtain⟨v,p,J⟩:=a;have s:=f.piece (i:=i.toNat) (by lia)
  have o:(c.pieces.map D.int)[i.toNat]?=ap (.int<|num c n<|.take x i):=by rw[OO,s.1];rfl
  simp![jU,gg,aT,Rw.d,atI_0,atI_2];refine aO (d:=.int i) (λ_ _ q=>ci (c:=c) (names:=names) (rows:=rows) (mk:=mk) (r:=.take x i) e b g q) ?_;simp![bo p,o];exact ak h
 |pick x y=>
  have a:=b;obtain⟨v,u,p⟩:=a;have g0:=PK (nm n y) (show (c.pieces.length:Int)≠0 by lia)
  have K:=PY (nm n y) p;have s:=f.piece (i:=(nm n y % (c.pieces.length:Int)).toNat) (by lia)
  have o:(c.pieces.map D.int)[(nm n y % (c.pieces.length:Int)).toNat]?=ap (.int<|num c n<|.pick x y):=by rw[OO,s.1];rfl
  simp![jU,gg,aT,Rw.d,atI_0,atI_2];refine aO (d:=.int (nm n y % (c.pieces.length:Int))) (λ_ _ q=>ci (c:=c) (names:=names) (rows:=rows) (mk:=mk) (r:=.pick x y) e b g q) ?_;simp![bo g0,o];exact ak h
 |two w x y z=>
  have a:=b;obtain⟨F,v,u,G⟩:=a;have H:=e.at u;have I:=e.at G;have j:((w=PD "put")=False):=by rcases F with rfl|rfl|rfl|rfl<;>exact eq_false (by decide +kernel)
  simp![jU,gg,aT,Rw.d,atI_0,atI_2,j];refine aO (d:=.non) (λ_ _ q=>ci (c:=c) (names:=names) (rows:=rows) (mk:=mk) (r:=.two w x y z) e b g q) ?_;simp![atI_0,atI_2,atI_3,g,b_,H.1,I.1,PQ];exact aO (d:=.int (num c n<|.two w x y z)) (λ_ _ q=>k9 (by lia) (by lia) (by lia) q) (ak h)
 |ifr=>exact b.elim
 |again=>exact b.elim
structure Wk where
 a:eg
 dn:eg
 ls:eg
 h1:a≠dn
 h2:a≠ls
 h3:dn≠ls
def gO(l:Xj):D:=.tup (l.map D.int)
def vN(l:List (List Int×Int)):List D:=l.map λp=>.tup [gO p.1,.int p.2]
def wM(ad:Ad)(k:Wk)(c:Cf)(pD:D)(s:Sx)(M:Mem):Mem:=
 ((M.upd k.a<|.ins ad.C_Walk [("plan",pD),("numbers",.ref k.dn),("pieces",.tup (c.pieces.map D.int)),("most",.int (c.most:Nat)),("steps",.ref k.ls)]).upd k.dn<|.dK<|dE s.nums).upd k.ls (.lst<|vN s.steps)
section
variable{k:Wk}{pD:D}{s:Sx}
theorem gS:wM ad k c pD s M k.a=ap (.ins ad.C_Walk [("plan",pD),("numbers",.ref k.dn),("pieces",.tup (c.pieces.map D.int)),("most",.int (c.most:Nat)),("steps",.ref k.ls)]):=by
 unfold wM;rw[ae k.h2,ae k.h1,Mem.upd_same]
theorem mP:wM ad k c pD s M k.dn=ap (.dK<|dE s.nums):=by unfold wM;rw[ae k.h3,Mem.upd_same]
theorem HK:wM ad k c pD s M k.ls=ap (.lst<|vN s.steps):=by unfold wM;rw[Mem.upd_same]
theorem CM{x:List (List Int×Int)}:(wM ad k c pD s M).upd k.ls (.lst<|vN x)=wM ad k c pD ⟨s.nums,x⟩ M:=by unfold wM;rw[Mem.upd_upd]
theorem Ew{x:cA}:(wM ad k c pD s M).upd k.dn (.dK<|dE x)=wM ad k c pD ⟨x,s.steps⟩ M:=by
 unfold wM;rw[aC (Pa k.h3),Mem.upd_upd]
theorem lf0:Pd ("plan":Str) [(("plan":Str),x0),(("numbers":Str),x1),(("pieces":Str),x2),(("most":Str),x3),(("steps":Str),x4)]=ap (x0:D):=rfl
theorem uP:Pd ("numbers":Str) [(("plan":Str),x0),(("numbers":Str),x1),(("pieces":Str),x2),(("most":Str),x3),(("steps":Str),x4)]=ap (x1:D):=rfl
theorem lf2:Pd ("pieces":Str) [(("plan":Str),x0),(("numbers":Str),x1),(("pieces":Str),x2),(("most":Str),x3),(("steps":Str),x4)]=ap (x2:D):=rfl
theorem lf3:Pd ("most":Str) [(("plan":Str),x0),(("numbers":Str),x1),(("pieces":Str),x2),(("most":Str),x3),(("steps":Str),x4)]=ap (x3:D):=rfl
theorem lf4:Pd ("steps":Str) [(("plan":Str),x0),(("numbers":Str),x1),(("pieces":Str),x2),(("most":Str),x3),(("steps":Str),x4)]=ap (x4:D):=rfl
theorem lfm:Pd ("note_step":Str) [(("plan":Str),x0),(("numbers":Str),x1),(("pieces":Str),x2),(("most":Str),x3),(("steps":Str),x4)]=(none:Option D):=rfl
theorem lfl:Pd ("look":Str) [(("plan":Str),x0),(("numbers":Str),x1),(("pieces":Str),x2),(("most":Str),x3),(("steps":Str),x4)]=(none:Option D):=rfl
theorem fX{pl:Xj}{v:Int}(h:c.most<=10000)(b:(nt c pl v s).1=true->Q .non (wM ad k c pD (nt c pl v s).2 M))(f:(nt c pl v s).1=eC->E ad.C_Dry (wM ad k c pD (nt c pl v s).2 M)):
  vW ad [.ref k.a,gO pl,.int v] (wM ad k c pD s M) Q E:=by
 unfold nt at b f;simp![u_q2,Fk,gS,HK,lf3,lf4,vN,Ox]
 split
 .rename_i e
  have:¬s.steps.length<c.most:=by lia
  rw[if_neg this]at f;exact dY (f rfl)
 .rename_i e
  have g:s.steps.length<c.most:=by lia
  rw[if_pos g]at b;refine⟨bf (by decide),jx (by lia),ak ?_⟩
  have:=b rfl;rw[<- CM]at this;simpa [vN] using this
end
end _T
namespace _3
open PySem _2
def d_:Nat->List D->List D
 |_,[]=>[]
 |k,x::xs=>.tup [.int (k:Nat),x]::d_ (k+1) xs
theorem ub:∀(xs:List D)(k:Nat),(xs.zipIdx k).map (λp=>D.tup [.int (p.2:Nat),p.1])=d_ k xs
 |[],_=>rfl
 |x::xs,k=>by rw[Qr,Oy,ub xs (k+1)];rfl
theorem iq(xs:List D):sh xs=d_ 0 xs:=ub xs 0
theorem aS{xs:List D}{M:Mem}:DIt.ok ⟨xs,[]⟩ M:=λ_ h=>by cases h
end _3
namespace _T
open PySem _2 _3
variable{ad:Ad}{ln lp rm:eg}{c:Cf}{C:Cse}{D' D0:DEnds}{K Q:DK}{E EE:DX}{U:Dl}{g:Gs}{a b hh left m many sd v:Int}{ns nums ps xs:Xj}{Xe rest rows Xi rs td:List Rw}{names:Xk}{u us:List aG}{o:MO}{M M' M0 N:Mem}{L fi i j n:Nat}{T:Nat->Int}{s z:Sta}{mk w x y:Str}{A:aE}{q:aG}{te:bp}{n1 n2:cA}
mutual
def cy(names:Xk)(m many:Int):Rw->Prop
 |.ifr x a b=>x∈names/\bc names m many a/\bc names m many b
 |.again x a=>x∈names/\bc names m many a
 |.put x k=>cz names m many (.put x k)
 |.take x k=>cz names m many (.take x k)
 |.pick x k=>cz names m many (.pick x k)
 |.two w x y z=>cz names m many (.two w x y z)
def bc(names:Xk)(m many:Int):List Rw->Prop
 |[]=>True
 |r::rs=>cy names m many r/\bc names m many rs
end
mutual
def hR:Rw->Nat
 |.ifr _ a b=>1+max (cU a) (cU b)
 |.again _ a=>1+cU a
 |_=>0
def cU:List Rw->Nat
 |[]=>0
 |r::rs=>max (hR r) (cU rs)
end
section
theorem C3{n:cA}(f:NOk names c.m n)(B:0<=v/\v<c.m):NOk names c.m (sN n x v):=by
 refine⟨by rw[iS];exact f.keys,λp e=>?_⟩
 simp only[sN,Pf]at e;obtain⟨q,h,rfl⟩:=e
 split
 .exact B
 .exact f.rng q h
theorem fc{pl:Xj}{s:Sx}:(nt c pl v s).2.nums=s.nums:=by unfold nt;split<;>rfl
theorem lS(f:COk c){r:Rw}(h:cz names c.m c.pieces.length r){pl:Xj}{s:Sx}(e:NOk names c.m s.nums):NOk names c.m (ie c r pl s).2.nums:=by
 unfold ie
 split
 .exact C3 e (xj f e h)
 .exact e
theorem xi{x:Str}{pl:Xj}{e:Nat->Sx->Bool×Sx}(B:∀t s,NOk names c.m s.nums->NOk names c.m (e t s).2.nums):∀(f t:Nat)(s:Sx),NOk names c.m s.nums->NOk names c.m (eU c x pl e f t s).2.nums
 |0,_,s,h=>h
 |f+1,t,s,h=>by
  have p:NOk names c.m (nt c (pl++[(t:Int)]) (lk s.nums x) s).2.nums:=by rw[fc];exact h
  unfold eU
  split
  .split
   .split
    .exact xi B f (t+1) _ (B t _ p)
    .exact B t _ p
   .exact p
  .exact p
mutual
theorem r9(e:COk c):∀(r:Rw),cy names c.m c.pieces.length r->∀(pl:Xj)(s:Sx),NOk names c.m s.nums->NOk names c.m (gy c r pl s).2.nums
 |.ifr x a b,h,pl,s,hn=>by
  have f:NOk names c.m (nt c pl (lk s.nums x) s).2.nums:=by rw[fc];exact hn
  simp only[cy]at h;unfold gy
  split
  .split
   .exact dq e a h.2.1 _ _ _ f
   .exact dq e b h.2.2 _ _ _ f
  .exact f
 |.again x a,h,pl,s,hn=>by
  simp only[cy]at h;unfold gy;exact xi (λt s p=>dq e a h.2 _ _ _ p) _ _ _ hn
 |.put x k,h,pl,s,hn=>by rw[bV rfl];exact lS e (by simpa only[cy] using h) hn
 |.take x k,h,pl,s,hn=>by rw[bV rfl];exact lS e (by simpa only[cy] using h) hn
 |.pick x k,h,pl,s,hn=>by rw[bV rfl];exact lS e (by simpa only[cy] using h) hn
 |.two w x y z,h,pl,s,hn=>by rw[bV rfl];exact lS e (by simpa only[cy] using h) hn
theorem dq(e:COk c):∀(rs:List Rw),bc names c.m c.pieces.length rs->∀(pl:Xj)(j:Nat)(s:Sx),NOk names c.m s.nums->NOk names c.m (bP c rs pl j s).2.nums
 |[],_,_,_,s,hn=>by simpa only[bP] using hn
 |r::rs,h,pl,j,s,hn=>by
  simp only[bc]at h;unfold bP
  split
  .exact dq e rs h.2 _ _ _ (r9 e r h.1 _ _ hn)
  .exact r9 e r h.1 _ _ hn
end
end
def Post(ad:Ad)(k:Wk)(c:Cf)(pD:D)(r:Bool×Sx)(M:Mem)(d:D)(Q:DK)(E:DX):Prop:=(r.1=true->Q d (wM ad k c pD r.2 M))/\(r.1=eC->E ad.C_Dry (wM ad k c pD r.2 M))
theorem bA{k:Wk}{f:D}{r:Bool×Sx}{d:D}{T:Sd}{ds:List D}(F:∀Q' E',Post ad k c f r M d Q' E'->T ds M0 Q' E'){b:BxQ E Q}(h:Post ad k c f r M d Q E):calls T E ds M0 Q b:=
 aq λQ' E' B p=>F Q' E' ⟨λe=>B _ _ (h.1 e),λe=>p _ _ (h.2 e)⟩
theorem Post.drp{k:Wk}{f:D}{r:Bool×Sx}{d:D}(h:Post ad k c f r M d Q E):Post ad k c f r M d (_3.drp Q) (aA E):=⟨λe=>ak (h.1 e),λe=>dY (h.2 e)⟩
section
variable{k:Wk}{s:Sx}
theorem ox{pl:Xj}(B:COk c)(F:NOk names c.m s.nums)(G:x∈names)(h:Post ad k c (aT c names Xi mk) (nt c pl (lk s.nums x) s) M (.int<|lk s.nums x) Q E):
  oV ad [.ref k.a,gO pl,.str x] (wM ad k c (aT c names Xi mk) s M) Q E:=by
 have p:=F.at G;have f:∀v:Int,v=lk s.nums x->calls (vW ad) (aA E) [.ref k.a,gO pl,.int v] (wM ad k c (aT c names Xi mk) s M) (λ_ M1=>_3.drp Q (.int v) M1) ⟨⟩:=by
  rintro v rfl
  exact bA (d:=.non) (λQ' E' z=>fX B.most z.1 z.2) ⟨λe=>ak (h.1 e),λe=>dY (h.2 e)⟩
 simp![N8,wC,gS,mP,uP,lfm,b_,p.1,PQ]
 split
 .rename_i e
  exact f 0 (by unfold lk;rw[if_pos e])
 .rename_i e
  exact f 1 (by unfold lk;rw[if_neg e])
theorem dw{pl:Xj}{r:Rw}(S:names.length<=1000)(P:COk c)(O:NOk names c.m s.nums)(B:cz names c.m c.pieces.length r)(h:Post ad k c (aT c names Xi mk) (ie c r pl s) M .non Q E):
  Va ad (n+1) [.ref k.a,r.d,gO pl] (wM ad k c (aT c names Xi mk) s M) Q E:=by
 have fin:calls (mW ad) (aA E) [aT c names Xi mk,.ref k.dn,.tup (c.pieces.map D.int),r.d] (wM ad k c (aT c names Xi mk) s M) (λd M'=>frz d M' λx M1=>
   ag 3 x [ap (.ref k.a),ap r.d,ap (gO pl),cm] M1 λU M2=>ai (bn<|cV ad.C_Walk "note_step" (vW ad) (aA E) 3 (ac 0)<|aa (ac 2)<|aa (ac 3) af)
    (ar (ac 3)<|de (aZ ad.C_Walk (ac 0) "numbers")<|ah au (ac 1)<|dC<|.int 1) { nx:=λ_ M'=>_3.drp Q .non M',rt:=_3.drp Q } U M2) ⟨⟩:=by
  refine aO (d:=.int (num c s.nums r)) (λ_ _ q=>nP P O B mP q) ?_;simp![gS,lfm];refine bA (r:=nt c pl (num c s.nums r) s) (d:=.non) (λQ' E' z=>fX P.most z.1 z.2) ?_;unfold ie at h;unfold nt;have F:eD r∈s.nums.map (·.1):=by
   rw[O.keys];cases r with
   |put x k=>exact B.1
   |take x k=>exact B.1
   |pick x k=>exact B.1
   |two w x y z=>exact B.2.1
   |ifr=>exact B.elim
   |again=>exact B.elim
  split
  .rename_i I
   rw[if_pos I]at h;refine⟨λ_=>?_,λe=>by simp at e⟩
   have G:=h.1 rfl;have R:wM ad k c (aT c names Xi mk) ⟨sN s.nums (eD r) (num c s.nums r),s.steps++[(pl,num c s.nums r)]⟩ M=(wM ad k c (aT c names Xi mk) ⟨s.nums,s.steps++[(pl,num c s.nums r)]⟩ M).upd k.dn (.dK<|eK (dE s.nums) (OX<|eD r)<|.int<|num c s.nums r):=by
    rw[lT F,Ew]
   rw[R]at G;have p:(dE s.nums).length<sizeLine:=by rw[dE,Ox,<- Ox (f:=(·.1)),O.keys];exact jx (by lia)
   cases r with
   |put x kk=>simp![Rw.d,gS,mP,uP,atI_1];exact⟨p,ak G⟩
   |take x kk=>simp![Rw.d,gS,mP,uP,atI_1];exact⟨p,ak G⟩
   |pick x kk=>simp![Rw.d,gS,mP,uP,atI_1];exact⟨p,ak G⟩
   |two w x y z=>simp![Rw.d,gS,mP,uP,atI_1];exact⟨p,ak G⟩
   |ifr=>exact B.elim
   |again=>exact B.elim
  .rename_i I
   rw[if_neg I]at h;exact⟨λe=>by simp at e,λ_=>dY (h.2 rfl)⟩
 cases r with
 |put x kk=>simp![pf,iW,Rw.d,gS,lf0,uP,lf2,atI_0];exact fin
 |take x kk=>simp![pf,iW,Rw.d,gS,lf0,uP,lf2,atI_0];exact fin
 |pick x kk=>simp![pf,iW,Rw.d,gS,lf0,uP,lf2,atI_0];exact fin
 |two w x y z=>
  have H:((w=PD "if")=False):=by rcases B.1 with rfl|rfl|rfl|rfl<;>exact eq_false (by decide +kernel)
  have J:((w=PD "again")=False):=by rcases B.1 with rfl|rfl|rfl|rfl<;>exact eq_false (by decide +kernel)
  simp![pf,iW,Rw.d,gS,lf0,uP,lf2,atI_0,H,J];exact fin
 |ifr=>exact B.elim
 |again=>exact B.elim
end
section
def Gr(c:Cf)(s s':Sx):Prop:=s.steps.length<=s'.steps.length/\(s.steps.length<=c.most->s'.steps.length<=c.most)
theorem Gr.refl{s:Sx}:Gr c s s:=⟨OB _,id⟩
theorem Gr.trans{s f e:Sx}(a:Gr c s f)(b:Gr c f e):Gr c s e:=⟨OV a.1 b.1,λh=>b.2 (a.2 h)⟩
theorem nt_gr{pl:Xj}{s:Sx}:Gr c s (nt c pl v s).2:=by
 unfold nt
 split
 .refine⟨by simp,λ_=>?_⟩;simp;lia
 .exact Gr.refl
theorem lb{r:Rw}{pl:Xj}{s:Sx}:Gr c s (ie c r pl s).2:=by
 unfold ie
 split
 .refine⟨by simp,λ_=>?_⟩;simp;lia
 .exact Gr.refl
theorem ym{x:Str}{pl:Xj}{e:Nat->Sx->Bool×Sx}(h:∀t s,Gr c s (e t s).2):∀(f t:Nat)(s:Sx),Gr c s (eU c x pl e f t s).2
 |0,_,s=>Gr.refl
 |f+1,t,s=>by
  unfold eU
  split
  .split
   .split
    .exact nt_gr.trans ((h t _).trans<|ym h f (t+1) _)
    .exact nt_gr.trans (h t _)
   .exact nt_gr
  .exact nt_gr
mutual
theorem rO:∀(r:Rw)(pl:Xj)(s:Sx),Gr c s (gy c r pl s).2
 |.ifr x a b,pl,s=>by
  unfold gy
  split
  .split
   .exact nt_gr.trans (fh a _ _ _)
   .exact nt_gr.trans (fh b _ _ _)
  .exact nt_gr
 |.again x a,pl,s=>by
  unfold gy;exact ym (λt s=>fh a _ _ _) _ _ _
 |.put x k,pl,s=>by rw[bV rfl];exact lb
 |.take x k,pl,s=>by rw[bV rfl];exact lb
 |.pick x k,pl,s=>by rw[bV rfl];exact lb
 |.two w x y z,pl,s=>by rw[bV rfl];exact lb
theorem fh:∀(rs:List Rw)(pl:Xj)(j:Nat)(s:Sx),Gr c s (bP c rs pl j s).2
 |[],_,_,s=>by unfold bP;exact Gr.refl
 |r::rs,pl,j,s=>by
  unfold bP
  split
  .exact(rO r _ _).trans (fh rs _ _ _)
  .exact rO r _ _
end
end
theorem gj{pl:Xj}:D.tup (pl.map D.int++[D.int v])=gO (pl++[v]):=by simp[gO]
section
variable{k:Wk}
def xr(ad:Ad)(k:Wk)(c:Cf)(names:Xk)(Xi:List Rw)(mk:Str)(n:Nat):Prop:=∀(rs:List Rw)(pl:Xj)(s:Sx)(M:Mem)(Q:DK)(E:DX),bc names c.m c.pieces.length rs->3*cU rs+2<=n->pl.length+2*cU rs+2<=1000->NOk names c.m s.nums->s.steps.length<=c.most->
 Post ad k c (aT c names Xi mk) (bP c rs pl 0 s) M .non Q E->U9 ad n [.ref k.a,.tup (aw rs),gO pl] (wM ad k c (aT c names Xi mk) s M) Q E
def JF(ad:Ad)(k:Wk)(c:Cf)(names:Xk)(Xi:List Rw)(mk:Str)(n:Nat):Prop:=∀(r:Rw)(pl:Xj)(s:Sx)(M:Mem)(Q:DK)(E:DX),cy names c.m c.pieces.length r->3*hR r+1<=n->pl.length+2*hR r+1<=1000->NOk names c.m s.nums->s.steps.length<=c.most->
 Post ad k c (aT c names Xi mk) (gy c r pl s) M .non Q E->Va ad n [.ref k.a,r.d,gO pl] (wM ad k c (aT c names Xi mk) s M) Q E
def PIf(ad:Ad)(k:Wk)(c:Cf)(names:Xk)(Xi:List Rw)(mk:Str)(n:Nat):Prop:=∀(x:Str)(a b:List Rw)(pl:Xj)(s:Sx)(M:Mem)(Q:DK)(E:DX),cy names c.m c.pieces.length (.ifr x a b)->3*hR (.ifr x a b)<=n->pl.length+2*hR (.ifr x a b)+1<=1000->NOk names c.m s.nums->s.steps.length<=c.most->
 Post ad k c (aT c names Xi mk) (gy c (.ifr x a b) pl s) M .non Q E->Vb ad n [.ref k.a,(Rw.ifr x a b).d,gO pl] (wM ad k c (aT c names Xi mk) s M) Q E
def PAg(ad:Ad)(k:Wk)(c:Cf)(names:Xk)(Xi:List Rw)(mk:Str)(n:Nat):Prop:=∀(x:Str)(a:List Rw)(pl:Xj)(s:Sx)(M:Mem)(Q:DK)(E:DX),cy names c.m c.pieces.length (.again x a)->3*hR (.again x a)<=n->pl.length+2*hR (.again x a)+1<=1000->NOk names c.m s.nums->s.steps.length<=c.most->
 Post ad k c (aT c names Xi mk) (gy c (.again x a) pl s) M .non Q E->Vc ad n [.ref k.a,(Rw.again x a).d,gO pl] (wM ad k c (aT c names Xi mk) s M) Q E
theorem zA(W:COk c)(X:JF ad k c names Xi mk n):xr ad k c names Xi mk (n+1):=by
 intro rs pl s M Q E p S H B F h;simp![N5,xx,cH,iq]
 refine cc (λxs U M'=>∃(f:List Rw)(j:Nat)(G:Sx)(R P:Option D),xs=d_ j (aw f)/\U=[ap (.ref k.a),ap (.tup<|aw rs),ap (gO pl),R,P]/\M'=wM ad k c (aT c names Xi mk) G M/\bc names c.m c.pieces.length f/\3*cU f+2<=n+1/\pl.length+2*cU f+2<=1000/\NOk names c.m G.nums/\G.steps.length<=c.most/\
  Post ad k c (aT c names Xi mk) (bP c f pl j G) M .non Q E) (λ_ _ _ _=>aS) ?_ ?_ _ _ _ ⟨rs,0,s,cm,cm,rfl,rfl,rfl,p,S,H,B,F,h⟩
 .rintro U M' ⟨f,j,G,R,P,J,rfl,rfl,p,S,H,B,F,h⟩
  cases f with
  |nil=>exact ak (by simpa [bP] using h.1 (by simp[bP]))
  |cons r rs=>simp[aw,d_]at J
 .rintro x xs U M' ⟨f,j,G,R,P,J,rfl,rfl,p,S,H,B,F,h⟩ D' O _ _ _
  cases f with
  |nil=>simp[aw,d_]at J
  |cons r f=>
   simp only[aw,d_,Qf]at J;obtain⟨rfl,rfl⟩:=J;simp only[bc]at p;have Y:hR r<=cU (r::f)/\cU f<=cU (r::f):=by simp only[cU];lia
   simp![gO,OH,Ox];refine⟨bf (by decide),bf (by lia),?_⟩
   rw[gj];refine bA (r:=gy c r (pl++[(j:Int)]) G) (d:=.non) (λQ' E' z=>X r (pl++[(j:Int)]) G M Q' E' p.1 (by lia) (by simp;lia) B F z) ?_
   simp only[bP]at h;cases I:(gy c r (pl++[(j:Int)]) G).1 with
   |true=>
    rw[if_pos I]at h;refine⟨λ_=>O _ _ ⟨f,j+1,_,_,_,rfl,rfl,rfl,p.2,by lia,by lia,r9 W r p.1 _ _ B,(rO r _ _).2 F,h⟩,λe=>by rw[I]at e;cases e⟩
   |false=>
    rw[if_neg (by rw[I];simp)]at h
    exact⟨λe=>(by rw[I]at e;cases e),λ_=>dY (h.2 I)⟩
theorem AD(p:names.length<=1000)(H:COk c)(J:PIf ad k c names Xi mk n)(I:PAg ad k c names Xi mk n):JF ad k c names Xi mk (n+1):=by
 intro r pl s M Q E e O B f G h;cases r with
 |put x kk=>rw[bV rfl]at h;exact dw p H f (by simpa only[cy] using e) h
 |take x kk=>rw[bV rfl]at h;exact dw p H f (by simpa only[cy] using e) h
 |pick x kk=>rw[bV rfl]at h;exact dw p H f (by simpa only[cy] using e) h
 |two w x y z=>rw[bV rfl]at h;exact dw p H f (by simpa only[cy] using e) h
 |ifr x a b=>
  have F:=λQ' E' z=>J x a b pl s M Q' E' e (by lia) B f G z
  simp only[Rw.d]at F;simp![pf,iW,Rw.d,atI_0];exact bA F h.drp
 |again x a=>
  have F:=λQ' E' z=>I x a pl s M Q' E' e (by lia) B f G z
  simp only[Rw.d]at F;simp![pf,iW,Rw.d,atI_0];exact bA F h.drp
theorem Ft(P:COk c)(J:xr ad k c names Xi mk n):PIf ad k c names Xi mk (n+1):=by
 intro x a b pl s M Q E B O H G I h;simp only[cy]at B;simp only[hR]at O H;simp![MN,y4,Rw.d,gS,lfl,atI_1,atI_2,atI_3];refine bA (r:=nt c pl (lk s.nums x) s) (d:=.int (lk s.nums x)) (λQ' E' z=>ox P G B.1 z) ?_;have hl:lk s.nums x=0\/lk s.nums x=1:=by unfold lk;split<;>simp
 have f:NOk names c.m (nt c pl (lk s.nums x) s).2.nums:=by rw[fc];exact G
 have p:=(nt_gr (c:=c) (pl:=pl) (v:=lk s.nums x) (s:=s)).2 I;unfold gy at h;cases F:(nt c pl (lk s.nums x) s).1 with
 |false=>
  rw[if_neg (by rw[F];simp)]at h
  exact⟨λe=>(by rw[F]at e;cases e),λ_=>dY (h.2 F)⟩
 |true=>
  rw[if_pos F]at h;refine⟨λ_=>?_,λe=>by rw[F]at e;cases e⟩
  rcases hl with hl|hl
  .rw[if_neg (by rw[hl];decide)]at h
   rw[hl]at h f p ⊢;simp![atI_2,atI_3,gO,OH,Ox,show ((0:Int)=1)=False from eq_false (by decide)]
   refine⟨bf (by decide),bf (by lia),?_⟩
   rw[gj];exact bA (λQ' E' z=>J b (pl++[0]) _ M Q' E' B.2.2 (by lia) (by simp;lia) f p z) h.drp
  .rw[if_pos hl]at h
   rw[hl]at h f p ⊢;simp![atI_2,atI_3,gO,OH,Ox];refine⟨bf (by decide),bf (by lia),?_⟩
   rw[gj];exact bA (λQ' E' z=>J a (pl++[1]) _ M Q' E' B.2.1 (by lia) (by simp;lia) f p z) h.drp
end
section
variable{k:Wk}
theorem wl(hc:COk c)(ih:xr ad k c names Xi mk n):PAg ad k c names Xi mk (n+1):=by
 intro x a pl s M Q E I hn W p J h;simp only[cy]at I;simp only[hR]at hn W;simp![MR,xM,Rw.d,dQ];refine⟨c.most+1,?_⟩;unfold gy at h
 have Z:∀(f t:Nat)(s:Sx)(S:fC)(R:aE)(DD:DEnds)(b:BxW S R DD),NOk names c.m s.nums->s.steps.length<=c.most->c.most<s.steps.length+f->
   S=am (ah bZ (ao<|cV ad.C_Walk "look" (oV ad) (aA E) 3 (ac 0)<|aa (ah aW (ac 2)<|aK<|aa (ac 3) af)<|aa (ah au (ac 1)<|dC<|.int 1) af)<|dC<|.int 1)->
   R=ai (bn<|aj (U9 ad n) (aA E) 3<|aa (ac 0)<|aa (ah au (ac 1)<|dC<|.int 2)<|aa (ah aW (ac 2)<|aK<|aa (ac 3) af) af) (B5 3 (dC<|.int 1) pb)->
   DD.nx=(λ_ M'=>_3.drp Q .non M')->
   Post ad k c (aT c names Xi mk) (eU c x pl (λt s=>bP c a (pl++[(t:Int)]) 0 s) f t s) M .non Q E->
   bY S R DD b f [ap (.ref k.a),ap (.tup [.str "again",.str x,.tup (aw a)]),ap (gO pl),ap (.int (t:Int))] (wM ad k c (aT c names Xi mk) s M):=by
  intro f
  induction f with
  |zero=>intro t s S R DD b p J hf;lia
  |succ f ihf=>
   intro t s S R DD b p J hf X Y P h;unfold bY;subst X;simp![gS,lfl,atI_1,gO,OH,Ox];refine⟨bf (by decide),bf (by lia),?_⟩
   rw[gj];refine bA (r:=nt c (pl++[(t:Int)]) (lk s.nums x) s) (d:=.int (lk s.nums x)) (λQ' E' z=>ox hc p I.1 z) ?_;have hl:lk s.nums x=0\/lk s.nums x=1:=by unfold lk;split<;>simp
   have G:NOk names c.m (nt c (pl++[(t:Int)]) (lk s.nums x) s).2.nums:=by rw[fc];exact p
   have B:=(nt_gr (c:=c) (pl:=pl++[(t:Int)]) (v:=lk s.nums x) (s:=s)).2 J;unfold eU at h;cases H:(nt c (pl++[(t:Int)]) (lk s.nums x) s).1 with
   |false=>
    rw[if_neg (by rw[H];simp)]at h
    exact⟨λe=>(by rw[H]at e;cases e),λ_=>dY (h.2 H)⟩
   |true=>
    rw[if_pos H]at h;refine⟨λ_=>?_,λe=>by rw[H]at e;cases e⟩
    have O:(nt c (pl++[(t:Int)]) (lk s.nums x) s).2.steps.length=s.steps.length+1:=by
     unfold nt at H ⊢
     split at H
     .rename_i q;rw[if_pos q];simp
     .cases H
    rcases hl with hl|hl
    .rw[if_neg (by rw[hl];decide)]at h
     rw[hl]at h ⊢;simp![show ((0:Int)=1)=False from eq_false (by decide)]
     rw[P];rw[hl]at H;exact ak (h.1 H)
    .rw[if_pos hl]at h
     rw[hl]at h G B O ⊢;simp![];subst Y;simp![atI_2,gO,OH,Ox];refine⟨bf (by decide),bf (by lia),?_⟩
     rw[gj];refine bA (r:=bP c a (pl++[(t:Int)]) 0 (nt c (pl++[(t:Int)]) 1 s).2) (λQ' E' z=>ih a (pl++[(t:Int)]) _ M Q' E' I.2 (by lia) (by simp;lia) G B z) ?_
     have hg:=fh (c:=c) a (pl++[(t:Int)]) 0 (nt c (pl++[(t:Int)]) 1 s).2;cases F:(bP c a (pl++[(t:Int)]) 0 (nt c (pl++[(t:Int)]) 1 s).2).1 with
     |true=>
      rw[if_pos F]at h;refine⟨λ_=>?_,λe=>by rw[F]at e;cases e⟩
      simp![];exact ihf (t+1) _ _ _ _ _ (dq hc a I.2 _ _ _ G) (hg.2 B) (by have:=hg.1;lia) rfl rfl P h
     |false=>
      rw[if_neg (by rw[F];simp)]at h
      exact⟨λe=>(by rw[F]at e;cases e),λ_=>dY (h.2 F)⟩
 exact Z (c.most+1) 0 s _ _ _ _ p J (by lia) rfl rfl rfl h
theorem uA(f:names.length<=1000)(e:COk c):∀n:Nat,xr ad k c names Xi mk n/\JF ad k c names Xi mk n/\PIf ad k c names Xi mk n/\PAg ad k c names Xi mk n
 |0=>⟨λrs pl s M Q E _ h=>by lia,λr pl s M Q E _ h=>by lia,λx a b pl s M Q E _ h=>by simp only[hR]at h;lia,λx a pl s M Q E _ h=>by simp only[hR]at h;lia⟩
 |n+1=>by
  obtain⟨p,G,B,F⟩:=uA f e n;exact⟨zA e G,AD f e B F,Ft e p,wl e p⟩
end
theorem uL:∀(names:Xk)(nums:Xj)(Xe:cA),names.length=nums.length->(Xe.map (·.1)++names).Nodup->
  ((names.map λx=>(OX x:aG)).zip<|nums.map D.int).foldl (λa p=>eK a p.1 p.2) (dE Xe)=dE (Xe++names.zip nums)
 |[],nums,Xe,_,_=>by simp
 |x::names,[],Xe,h,_=>by simp at h
 |x::names,v::nums,Xe,h,nd=>by
  have I:x∉Xe.map (·.1):=by
   have:=(SV.mp nd).2.2;exact λJ=>this x J x (by simp) rfl
  have f:((dE Xe).any λG=>decide (G.1=OX x))=false:=by
   rw[List.any_eq_false];intro p B;simp only[dE,Pf]at B;obtain⟨q,H,rfl⟩:=B;simp only[decide_eq_true_eq];intro e;have:q.1=x:=Si e;exact I (by rw[<- this];exact RF H)
  simp only[Oy,U1,PF];have F:eK (dE Xe) (OX x) (.int v)=dE (Xe++[(x,v)]):=by
   unfold eK;rw[f];simp[dE]
  rw[F,uL names nums (Xe++[(x,v)]) (by simpa using h) (by simpa using nd)]
  simp
theorem eA:∀names:List Str,i8 (names.map D.str)=ap (names.map λx=>(OX x:aG))
 |[]=>rfl
 |x::names=>by simp[i8,cL,eA names]
theorem fV(h:names.length=nums.length)(e:names.Nodup):Be (names.map λx=>(OX x:aG)) (nums.map D.int)=dE (names.zip nums):=by
 have:=uL names nums [] h (by simpa using e)
 simpa [Be,dE] using this
theorem dp1{d:D}:bG "plan" d []=[(("plan":Str),d)]:=rfl
theorem dp2{a d:D}:bG "numbers" d [(("plan":Str),a)]=[(("plan":Str),a),(("numbers":Str),d)]:=rfl
theorem dp3{a b d:D}:bG "pieces" d [(("plan":Str),a),(("numbers":Str),b)]=[(("plan":Str),a),(("numbers":Str),b),(("pieces":Str),d)]:=rfl
theorem dp4{a b e d:D}:bG "most" d [(("plan":Str),a),(("numbers":Str),b),(("pieces":Str),e)]=[(("plan":Str),a),(("numbers":Str),b),(("pieces":Str),e),(("most":Str),d)]:=rfl
theorem dp5{a b e g d:D}:bG "steps" d [(("plan":Str),a),(("numbers":Str),b),(("pieces":Str),e),(("most":Str),g)]=[(("plan":Str),a),(("numbers":Str),b),(("pieces":Str),e),(("most":Str),g),(("steps":Str),d)]:=rfl
def bC(nums pieces:Xj):D:=.tup [.tup (nums.map D.int),.tup (pieces.map D.int)]
section
theorem za{a:eg}(P:M a=cm)(H:names.length=nums.length)(I:names.Nodup)(O:0<names.length)(J:names.length<=1000)(h:∀(k:Wk),k.a=a->M k.dn=cm->M k.ls=cm->Q .non (wM ad k c (aT c names rows mk) ⟨names.zip nums,[]⟩ M)):
  FM ad [.ref a,aT c names rows mk,bC nums c.pieces,.int (c.most:Nat)] (M.upd a<|.ins ad.C_Walk []) Q E:=by
 simp![u_q7,FZ,aT,bC,Mem.upd_upd,atI_0,atI_1,eA,Ox,dp1];refine⟨by decide,H,O,J,λdn p=>?_⟩
 have n1:a≠dn:=Mem.ne Mem.upd_same p;have F:M dn=none:=by rw[ae (Pa n1)]at p;exact p
 simp![ae n1,Mem.upd_same,dp2,aC (Pa n1),Mem.upd_upd,fV H I];refine⟨by simp,?_⟩
 simp![ae n1,Mem.upd_same,dp3,aC (Pa n1),Mem.upd_upd];refine⟨by simp,?_⟩
 simp![ae n1,Mem.upd_same,dp4,aC (Pa n1),Mem.upd_upd];refine⟨by simp,bf (by simp),λls f=>?_⟩
 have n2:a≠ls:=by
  intro e;subst e;rw[ae n1,Mem.upd_same]at f;cases f
 have G:dn≠ls:=by
  intro e;subst e;rw[Mem.upd_same]at f;cases f
 have B:M ls=none:=by rw[ae (Pa G),ae (Pa n2)]at f;exact f
 simp![ae n2,ae n1,Mem.upd_same,dp5];refine⟨by simp,ak ?_⟩
 have:=h ⟨a,dn,ls,n1,n2,G⟩ rfl F B;have e:wM ad ⟨a,dn,ls,n1,n2,G⟩ c (aT c names rows mk) ⟨names.zip nums,[]⟩ M=(((M.upd a<|.ins ad.C_Walk [("plan",aT c names rows mk),("numbers",.ref dn),("pieces",.tup (c.pieces.map D.int)),("most",.int (c.most:Nat))]).upd dn<|.dK<|dE<|names.zip nums).upd ls<|.lst []).upd a (.ins ad.C_Walk [("plan",aT c names rows mk),("numbers",.ref dn),("pieces",.tup (c.pieces.map D.int)),("most",.int (c.most:Nat)),("steps",.ref ls)]):=by
  unfold wM;rw[aC (Pa n2),aC (Pa n1),Mem.upd_upd];rfl
 rw[e]at this;exact this
def dj(c:Cf)(names:Xk)(rows:List Rw)(nums:Xj):Bool×Sx:=bP c rows [] 0 ⟨names.zip nums,[]⟩
def eL(names:Xk)(r:Bool×Sx):D:=if r.1=true then .tup (names.map λx=>.int (nm r.2.nums x)) else .non
structure PlOk(c:Cf)(names:Xk)(rows:List Rw)(nums:Xj):Prop where
 co:COk c
 ln:names.length=nums.length
 nd:names.Nodup
 l0:0<names.length
 l1:names.length<=1000
 rng:∀v∈nums,0<=v/\v<c.m
 ok:bc names c.m c.pieces.length rows
 h:cU rows<=7
theorem fM:∀{names:Xk}{nums:Xj},names.length=nums.length->(names.zip nums).map (·.1)=names
 |[],[],_=>rfl
 |[],_::_,h=>by simp at h
 |_::_,[],h=>by simp at h
 |x::xs,v::vs,h=>by simp[fM (by simpa using h)]
theorem PlOk.nok(p:PlOk c names rows nums):NOk names c.m (names.zip nums):=⟨fM p.ln,λq e=>p.rng _ (QZ e).2⟩
theorem BU(p:PlOk c names rows nums)(h:∀l,M l=cm->Q (.tup [.ref l,eL names (dj c names rows nums)]) (M.upd l<|.lst<|vN (dj c names rows nums).2.steps)):
  ua ad [aT c names rows mk,bC nums c.pieces,.int (c.most:Nat)] M Q E:=by
 simp![Nq,yr];intro a Z;refine aq λQ' E' W _=>za Z p.ln p.nd p.l0 p.l1 λk hk R G=>W _ _ ?_;subst hk;have f:∀(X:Sx),∀b o,(M.upd k.ls<|.lst<|vN X.steps) b=ap o->wM ad k c (aT c names rows mk) X M b=ap o:=by
  intro X b o e
  by_cases O:b=k.ls
  .subst O;rw[Mem.upd_same]at e;rw[HK];exact e
  .rw[ae O]at e
   have h2:b≠k.dn:=by rintro rfl;rw[R]at e;cases e
   have h3:b≠k.a:=by rintro rfl;rw[Z]at e;cases e
   unfold wM;rw[ae O,ae h2,ae h3];exact e
 have Y:=(uA (ad:=ad) (k:=k) (Xi:=rows) (mk:=mk) p.l1 p.co 24).1 rows [] ⟨names.zip nums,[]⟩ M;unfold aT at Y;simp![aT,atI_3];refine⟨bf (by decide),?_⟩
 refine aq λQ2 E2 I J=>Y Q2 E2 p.ok (by have:=p.h;lia) (by have:=p.h;simp;lia) p.nok (Qc _) ⟨λe=>I _ _ ?_,λe=>J _ _ ⟨rfl,?_⟩⟩
 .have hn:NOk names c.m (dj c names rows nums).2.nums:=dq p.co rows p.ok [] 0 ⟨names.zip nums,[]⟩ p.nok
  have S:(dj c names rows nums).1=true:=e;simp![gS,lf4,atI_1,aX]
  refine cO (λxs Xe U M'=>∃n1 n2 H,names=n1++n2/\xs=n2.map D.str/\Xe=n1.map (λx=>D.int (nm (dj c names rows nums).2.nums x))/\U=[H,ap (.ref k.a)]/\M'=wM ad k c (aT c names rows mk) (dj c names rows nums).2 M)
   (λ_ _ _ _ _=>aS) ?_ ?_ ?_ _ _ _ _ ⟨[],names,cm,rfl,rfl,rfl,rfl,rfl⟩
  .rintro Xe U M' ⟨n1,n2,H,B,F,rfl,rfl,rfl⟩
   have:n2=[]:=by cases n2 with|nil=>rfl|cons _ _=>simp at F
   subst this;intro q W;simp![Mem.upd_upd,Mem.upd_del,aD W];refine⟨bf (by decide),⟨_,f _,?_⟩⟩
   have:=h k.ls G;unfold eL at this;rw[if_pos S]at this;have en:n1=names:=by simpa using B.symm
   rw[en];exact this
  .rintro x xs Xe U M' ⟨n1,n2,H,B,F,rfl,rfl,rfl⟩ N hN _
   cases n2 with
   |nil=>simp at F
   |cons y n2=>
    simp only[Oy,Qf]at F;obtain⟨rfl,rfl⟩:=F;have hy:y∈names:=by rw[B];simp
    simp![gS,mP,uP,b_,(hn.at hy).1,PQ];refine hN _ _ _ ?_ ⟨n1++[y],n2,_,by simp[B],rfl,by simp,rfl,rfl⟩
    have P:=congrArg QM B;have:=p.l1;simp at P ⊢;exact jx (by lia)
  .rintro x xs Xe U M' ⟨n1,n2,H,B,F,rfl,rfl,rfl⟩
   have P:=congrArg QM B;have:=p.l1;simp at P ⊢;exact jx (by lia)
 .have S:(dj c names rows nums).1=false:=e
  simp![gS,lf4];refine⟨bf (by decide),⟨_,f _,?_⟩⟩
  have:=h k.ls G;unfold eL at this;rw[if_neg (by rw[S];simp)]at this
  exact this
end
structure Pt where
 p:eg
 q:eg
 ne:p≠q
def Has(k:Pt)(M:Mem):Prop:=∃(cells:Xj)(t h sd:Int),cells.length<=63/\M k.p=ap (.lst [.ref k.q,.int t,.int h,.int sd])/\M k.q=ap (.lst<|cells.map D.int)
def Dr(k:Pt)(M M':Mem):Prop:=Has k M'/\∀b,b≠k.p->b≠k.q->M' b=M b
theorem Has.refl{k:Pt}(h:Has k M):Dr k M M:=⟨h,λ_ _ _=>rfl⟩
theorem Dr.trans{k:Pt}{M1 M2:Mem}(a:Dr k M M1)(b:Dr k M1 M2):Dr k M M2:=⟨b.1,λx e f=>(b.2 x e f).trans (a.2 x e f)⟩
theorem Has.nep{k:Pt}(h:Has k M){l:eg}(f:M l=cm):l≠k.p/\l≠k.q:=by
 obtain⟨B,t,hh,sd,_,F,G⟩:=h;exact⟨λe=>(by rw[e,F]at f;cases f),λe=>(by rw[e,G]at f;cases f)⟩
theorem Has.upd{k:Pt}{l:eg}(h:Has k M)(f:l≠k.p/\l≠k.q):Has k (M.upd l o):=by
 obtain⟨e,t,hh,sd,B,F,G⟩:=h;exact⟨e,t,hh,sd,B,by rw[ae (Pa f.1)];exact F,by rw[ae (Pa f.2)];exact G⟩
theorem Has.del{k:Pt}{l:eg}(h:Has k M)(f:l≠k.p/\l≠k.q):Has k (M.del l):=by
 obtain⟨e,t,hh,sd,B,F,G⟩:=h;refine⟨e,t,hh,sd,B,?_,?_⟩
 .unfold Mem.del;rw[if_neg (Pa f.1)];exact F
 .unfold Mem.del;rw[if_neg (Pa f.2)];exact G
theorem Dr.none{k:Pt}(f:Has k M)(h:Dr k M M'){l:eg}(e:M l=cm):M' l=none:=by
 have:=f.nep e;rw[h.2 l this.1 this.2];exact e
theorem oY:∀(n:Nat)(e:Xj),bt n (e.map D.int)=true
 |_,[]=>by unfold bt;rfl
 |n,c::e=>by
  rw[Oy];unfold bt;rw[oY n e];cases n<;>rfl
theorem iI(h:∀r,Q (.int r) M):mK ad [.int a,.int b] M Q E:=by
 simp![N0,xG];refine⟨.inr (by decide),.inr (by decide),by decide,⟨by decide,by decide⟩,.inr (by decide),by decide,⟨by decide,by decide⟩,ak<|h _⟩
theorem AF{α:Type}{x:α}{xs:List α}:atI (x::xs) 0=ap x:=by rw[atI_0];rfl
theorem sZ(h:0<m):0<=a % m/\a % m<m:=⟨PK _ (by lia),PY _ h⟩
theorem fq{i:Int}(h:0<=i)(e:i<n):rX n i=ap i.toNat:=by unfold rX;rw[if_pos h,if_pos e]
theorem ix0:rX (n+1) 0=ap 0:=fq (by decide) (by lia)
theorem Hs:rX 4 2=ap 2:=rfl
theorem cg{s u:aE}(h:s { D0 with nx:=u D0 } U M):ai s u D0 U M:=h
theorem Ev{k:Pt}{t:Int}(f:U[0]?=ap (ap<|.ref k.p))(e:M k.p=ap (.lst [.ref k.q,.int t,.int hh,.int sd]))(h:D0.nx U (M.upd k.p<|.lst [.ref k.q,.int (t+1),.int hh,.int sd])):
  ar (ah aW (ah au (ac 0)<|dC<|.int 1)<|dC<|.int 1) (de (ac 0)<|dC<|.int 1) D0 U M:=by
 simp![f,e,atI_1,fq (n:=4) (i:=1) (by decide) (by decide),show (1:Int).toNat=1 from rfl]
 exact h
theorem xV{k:Pt}{t:Int}{G:Option D}(e:0<many)(I:many<2 ^ 62)(h:M k.p=ap (.lst [.ref k.q,.int t,.int hh,.int sd]))(H:∀r,D0.rt (.int<|r % many) M)(F:D0.rt (.int<|hh % many) (M.upd k.p<|.lst [.ref k.q,.int t,.int (hh / many),.int sd])):
  (ai (aH (am<|ah bZ (ah au (ac 0)<|dC<|.int 2)<|dC<|.int 0) (az<|ah dg (ao<|aj (mK ad) EE 2<|aa (ah au (ac 0)<|dC<|.int 3)<|aa (ah au (ac 0)<|dC<|.int 1) af)<|ac 1) aF)
  (ai (ar (ah dg (ah au (ac 0)<|dC<|.int 2)<|ac 1)<|ag 3)
  (ai (ar (ah i7 (ah au (ac 0)<|dC<|.int 2)<|ac 1)<|de (ac 0)<|dC<|.int 2)
  (az<|ac 3)))) D0 [ap (.ref k.p),ap (.int many),G,cm] M:=by
 simp![h,atI_1,atI_2,atI_3]
 by_cases f:hh=0
 .rw[if_pos f]
  refine aq λQ' E' B _=>iI λr=>B _ _ ?_;simp![];exact⟨e,H r⟩
 .rw[if_neg f]
  simp![h,Hs];exact⟨e,⟨e,by lia⟩,F⟩
theorem F8{k:Pt}{t:Int}{cells:Xj}(P:0<many)(B:M k.p=ap (.lst [.ref k.q,.int t,.int hh,.int sd]))(H:M k.q=ap (.lst<|cells.map D.int))(G:D0.nx [ap (.ref k.p),ap (.int many),cm,cm] M)(R:∀c cs,hh=0->cells=c::cs->∀r,D0.rt (.int<|r % many) (M.upd k.q<|.lst<|cs.map D.int))(S:∀c cs,hh=0->cells=c::cs->¬c<10 ^ Uz 18->D0.nx [ap (.ref k.p),ap (.int many),ap (.int c),cm] ((M.upd k.q<|.lst<|cs.map D.int).upd k.p<|.lst [.ref k.q,.int t,.int c,.int sd])):
  aH (vV (am<|ah bZ (ah au (ac 0)<|dC<|.int 2)<|dC<|.int 0)<|am<|ah k8 (ah au (ac 0)<|dC<|.int 0)<|ao<|bQ af) (ai (ar (mM "list" zo (ah au (ac 0)<|dC<|.int 0)<|aa (dC<|.int 0) af)<|ag 2)
   (ai (aH (am<|ah uQ (ac 2)<|ah Im (dC<|.int 10)<|dC<|.int 18) (az<|ah dg (ao<|aj (mK ad) EE 2<|aa (ac 2)<|aa (ah au (ac 0)<|dC<|.int 1) af)<|ac 1) aF)
   (ar (ac 2)<|de (ac 0)<|dC<|.int 2))) aF D0 [ap (.ref k.p),ap (.int many),cm,cm] M:=by
 have h:=k.ne;simp![B,atI_2,AF]
 by_cases e:hh=0
 .rw[if_pos e]
  refine⟨bf (by decide),λp O=>?_⟩
  simp only[Mem.upd_del,aD O,H];cases cells with
  |nil=>
   simp![];exact G
  |cons c cs=>
   have J:∀F,(M.upd k.q F) k.p=ap (.lst [.ref k.q,.int t,.int hh,.int sd]):=λF=>by rw[ae h,B]
   simp![AF,B,H,J,oY,ix0,Hs,List.eraseIdx_zero,List.tail_cons,atI_1,atI_2,atI_3];refine⟨⟨by decide,by decide,by decide⟩,?_⟩
   by_cases f:c<10 ^ Uz 18
   .rw[if_pos f]
    refine aq λQ' E' I _=>iI λr=>I _ _ ?_;simp![];exact⟨P,R c cs e rfl r⟩
   .rw[if_neg f]
    exact S c cs e rfl f
 .rw[if_neg e]
  exact G
theorem jP{k:Pt}(hp:Has k M)(I:0<many)(S:many<2 ^ 62)(h:∀r M',0<=r->r<many->Dr k M M'->Q (.int r) M'):
  bb ad [.ref k.p,.int many] M Q E:=by
 obtain⟨cells,t,hh,sd,H,e1,e2⟩:=hp;have f:=k.ne;have fin:∀(r:Int)(M':Mem)(cells':Xj)(O B F:Int),cells'.length<=63->(∀b,b≠k.p->b≠k.q->M' b=M b)->M' k.p=ap (.lst [.ref k.q,.int O,.int B,.int F])->M' k.q=ap (.lst<|cells'.map D.int)->drp Q (.int<|r % many) M':=by
  intro r M' cells' O B F Z X Y W;exact ak (h _ _ (sZ I).1 (sZ I).2 ⟨⟨cells',O,B,F,Z,Y,W⟩,X⟩)
 have P:∀o,(M.upd k.p o) k.q=ap (.lst<|cells.map D.int):=λo=>by rw[ae (Pa f)];exact e2
 rw[Nb (n:=0)];unfold y9;refine cg (Ev rfl e1 ?_);dsimp only;refine cg (F8 I Mem.upd_same (P _) ?_ (λc J ez R r=>?_) λc J ez R hb=>?_)
 .dsimp only
  refine xV I S Mem.upd_same (λr=>?_) ?_
  .exact fin _ _ cells _ _ _ H (λb e G=>ae e) Mem.upd_same (P _)
  .exact fin _ _ cells _ _ _ H (λb e G=>by rw[ae e,ae e]) Mem.upd_same (by rw[ae (Pa f),P])
 .subst R
  exact fin _ _ J _ _ _ (by simp at H;lia) (λb e G=>by rw[ae G,ae e]) (by rw[ae f,Mem.upd_same]) Mem.upd_same
 .subst R
  dsimp only;refine xV I S Mem.upd_same (λr=>?_) ?_
  .exact fin _ _ J _ _ _ (by simp at H;lia) (λb e G=>by rw[ae e,ae G,ae e]) Mem.upd_same (by rw[ae (Pa f),Mem.upd_same])
  .exact fin _ _ J _ _ _ (by simp at H;lia) (λb e G=>by rw[ae e,ae e,ae G,ae e]) Mem.upd_same (by rw[ae (Pa f),ae (Pa f),Mem.upd_same])
theorem EY{xs:List D}{k:Nat}:kd xs cm (ap (k:Int))=xs.take k:=by
 unfold kd;rw[HT.D7,HT.G1,List.drop_zero,Nat.sub_zero];rcases Nat.le_total k xs.length with h|h
 .rw[Nat.min_eq_left h]
 .rw[Nat.min_eq_right h,Uv (OB _),Uv h]
theorem Bl(h:∀(k:Pt) M',Has k M'->(∀b,b≠k.p->b≠k.q->M' b=M b)->Q (.ref k.p) M'):xc ad [.ml (ns.map D.int)] M Q E:=by
 have B:kd (ns.map D.int) cm (ap 63)=(ns.take 63).map D.int:=by rw[List.map_take];exact EY (k:=63)
 simp![MD,wX,cH,B];intro a R;refine cc (λxs U M'=>∃(f:Xj)(sd:Int)(H:Option D),xs=f.map D.int/\U=[ap (.ml<|ns.map D.int),ap (.int sd),H]/\M'=M) (λ_ _ _ _=>aS) ?_ ?_ _ _ _ ⟨ns.take 63,7,cm,rfl,rfl,by rw[Mem.upd_del,aD R]⟩
 .rintro U M' ⟨f,sd,H,_,rfl,rfl⟩
  simp![B];intro b O;rw[Mem.upd_del,aD O];intro q S;refine⟨bf (by decide),λp I=>?_⟩
  have ne:p≠q:=by intro e;subst e;rw[Mem.upd_same]at I;cases I
  refine ak (h ⟨p,q,ne⟩ _ ⟨ns.take 63,0,0,sd,by simp;lia,Mem.upd_same,?_⟩ λb J P=>?_)
  .show ((M'.upd q _).upd p _) q=_
   rw[ae (Pa ne),Mem.upd_same]
  .rw[ae J,ae P]
 .rintro x xs U M' ⟨f,sd,H,G,rfl,rfl⟩ D' F _ _ _
  cases f with
  |nil=>simp at G
  |cons c f=>
   simp only[Oy,Qf]at G;obtain⟨rfl,rfl⟩:=G;simp![];exact⟨.inr (by decide),by decide,F _ _ ⟨f,_,_,rfl,rfl,rfl⟩⟩
def alpha:Str:="abcdefghijklmnopqrstuvwxyz"
theorem Bx:∀i<26,alpha.cps.toList[i]?=ap (97+i):=by decide +kernel
theorem A8:alpha.length<=sizeLine:=OV (show alpha.length<=100 by decide +kernel) (by decide)
theorem tE{t:Nat}(I:names.length<=12)(h:∀(j:Nat)(p:j<names.length),names[j].cps[0]?=ap (97+(t+7*j) % 26)):names.Nodup:=by
 refine List.pairwise_iff_getElem.mpr λi j F p B e=>?_;have f:=h i F;have G:=h j p;rw[e,G]at f;have H:=PH f;lia
def ug(x:Str):Prop:=∃(n c:Nat),1<=n/\n<=8/\97<=c/\c<=122/\x=⟨Qz n c⟩
theorem vH{k:Pt}{many:Nat}(hp:Has k M)(h1:many<=12)(h:∀(names:Xk)(M':Mem),names.length=many->names.Nodup->(∀x∈names,ug x)->Dr k M M'->Q (.tup<|names.map D.str) M'):yY ad [.ref k.p,.int many] M Q E:=by
 simp![MU,xH,cH];refine aq λQ' E' hq _=>jP hp (by decide) (by decide) λturn M1 t0 t1 P=>hq _ _ ?_
 simp![];refine⟨bf (by decide),λl hl=>?_⟩
 have B:=P.1.nep hl;refine⟨by lia,by lia,?_⟩
 obtain⟨t,rfl⟩:=Se t0
 refine cc (λxs U M'=>∃(j:Nat)(Xe:Xk)(Z Y:Option D),j<=many/\xs=(Ro j (many-j)).map (λ(i:Nat)=>D.int (0+(i:Int)))/\U=[ap (.ref k.p),ap (.int (many:Nat)),ap (.int (t:Nat)),ap (.ref l),Z,Y]/\Xe.length=j/\(∀(i:Nat)(J:i<Xe.length),Xe[i].cps[0]?=ap (97+(t+7*i) % 26))/\(∀x∈Xe,ug x)/\
  Has k M'/\M' l=ap (.lst<|Xe.map D.str)/\∀b,b≠k.p->b≠k.q->b≠l->M' b=M1 b) (λ_ _ _ _=>aS) ?_ ?_ _ _ _ ⟨0,[],cm,cm,Qc _,?_,rfl,rfl,?_,by simp,P.1.upd B,Mem.upd_same,λb _ _ hb=>ae hb⟩
 .rintro U M' ⟨j,Xe,Z,Y,hj,e,rfl,O,X,f,hh,R,hs⟩
  have:j=many:=by
   have:=congrArg QM e;simp at this;lia
  subst this;simp![R];refine⟨M'.del l,λb o e=>?_,h Xe _ O (tE (by lia) X) f ⟨hh.del B,λb G H=>?_⟩⟩
  .unfold Mem.del at e;split at e
   .cases e
   .exact e
  .unfold Mem.del
   split
   .rename_i e;subst e;rw[<- P.2 b G H];exact hl.symm
   .rename_i e;rw[hs b G H e,P.2 b G H]
 .rintro x xs U M' ⟨j,Xe,Z,Y,hj,e,rfl,O,X,f,hh,R,hs⟩ D' S _ _ _
  have hjl:j<many:=by
   have:=congrArg QM e;simp at this;lia
  obtain⟨n,hn⟩:∃n,many-j=n+1:=⟨many-j-1,by lia⟩
  rw[hn,QO,Oy,Qf]at e;obtain⟨rfl,rfl⟩:=e;have F:atI alpha.cps.toList (((t:Nat)+7*(0+(j:Int))) % 26)=ap (97+(t+7*j) % 26):=by
   have:(((t:Nat):Int)+7*(0+(j:Int))) % 26=(((t+7*j) % 26:Nat):Int):=by lia
   rw[this,bo (by lia),OL,Bx _ (by lia)]
  simp only[alpha]at F;simp![F,R];refine⟨.inl (by decide),by decide,A8,?_⟩
  refine aq λQ' E' hq _=>jP hh (by decide) (by decide) λr M2 r0 r1 d2=>hq _ _ ?_
  have W:M2 l=ap (.lst<|Xe.map D.str):=by rw[d2.2 l B.1 B.2];exact R
  simp![W];refine⟨by lia,by lia,by simp;exact jx (by lia),S _ _ ⟨j+1,Xe++[⟨Qz (1+r).toNat (97+(t+7*j) % 26)⟩],_,_,by lia,?_,rfl,by simp[O],?_,?_,d2.1.upd B,?_,?_⟩⟩
  .rw[show many-(j+1)=n by lia]
  .intro i J
   by_cases I:i<Xe.length
   .rw[List.getElem_append_left I];exact X i I
   .have:i=Xe.length:=by simp at J;lia
    subst this;rw[List.getElem_append_right (OB _)];simp only[Nat.sub_self,Ux];rw[Array.getElem?_replicate,if_pos (by lia),O]
  .intro x hx
   rcases Ph.mp hx with hx|hx
   .exact f x hx
   .simp at hx;subst hx
    exact⟨(1+r).toNat,97+(t+7*j) % 26,by lia,by lia,by lia,by lia,rfl⟩
  .rw[Mem.upd_same];simp
  .intro b G H b3
   rw[ae b3,d2.2 b G H,hs b G H b3]
 .simp[dW,Rn]
 .intro i J;simp at J
@[simp] theorem atI_5 {α:Type} {xs:List α}:atI xs 5=xs[5]?:=bo (by decide)
@[simp] theorem atI_6 {α:Type} {xs:List α}:atI xs 6=xs[6]?:=bo (by decide)
@[simp] theorem atI_7 {α:Type} {xs:List α}:atI xs 7=xs[7]?:=bo (by decide)
@[simp] theorem atI_8 {α:Type} {xs:List α}:atI xs 8=xs[8]?:=bo (by decide)
theorem m3{r:Int}(f:0<=r)(h:r<names.length):∃y,y∈names/\atI (names.map D.str) r=ap (.str y):=by
 have e:r.toNat<names.length:=by lia
 refine⟨names[r.toNat],Qs e,?_⟩;rw[bo f,OO,Oz e];rfl
structure ToldOk(names:Xk)(m many:Int):Prop where
 m2:2<=m
 m1:m<=997
 n0:0<names.length
 n1:names.length<=12
 k0:0<=many
 k1:many<=40
def h8(names:Xk)(m many:Int):D:=.tup [.int m,.tup (names.map D.str),.int many]
theorem aN{b:BxQ EE Q}{k:Pt}(G:Has k M)(F:0<many)(H:many<2 ^ 62)(h:∀r M',0<=r->r<many->Dr k M M'->Q (.int r) M'):calls (bb ad) EE [.ref k.p,.int many] M Q b:=
 aq λQ' E' B _=>jP G F H λr M' f e d=>B _ _ (h r M' f e d)
section
variable{k:Pt}
theorem L0(h:te U M λd M1=>D0.nx (U.set i<|some d) M1):ar te (ag i) D0 U M:=h
theorem CK{d:D}(h:U[i]?=ap (ap d))(e:K d M):ac i U M K:=by simp only[ac,h];exact e
theorem wm{c:Str}{B:aE}(p:U[i]?=ap (ap<|.str w))(h:w=c->A D0 U M)(f:w≠c->B D0 U M):aH (am<|ah bZ (ac i)<|dC<|.str c) A B D0 U M:=by
 have e:aH (am<|ah bZ (ac i)<|dC<|.str c) A B D0 U M=(if w=c then A D0 U M else B D0 U M):=by
  simp[aH,am,ah,ac,dC,bZ,bj,dv,aP,p]
 rw[e]
 by_cases q:w=c
 .rw[if_pos q];exact h q
 .rw[if_neg q];exact f q
theorem Kw(e:U[0]?=ap (ap<|.ref k.p))(B:∀K:DK,K (.int v) M->te U M K)(f:Has k M)(v0:0<v)(v1:v<2 ^ 62)(h:∀r M',0<=r->r<v->Dr k M M'->K (.int r) M'):
  aj (bb ad) EE 2 (aa (ac 0)<|aa te af) U M K:=by
 simp only[aj,aa,ac,af,e];refine B _ ?_;exact⟨rfl,aN f v0 v1 h⟩
theorem DZ(h:te U M λd M'=>frz d M' K):ao te U M K:=h
theorem GN(e:U[0]?=ap (ap<|.ref k.p))(B:∀K:DK,K (.int v) M->te U M K)(f:Has k M)(v0:0<v)(v1:v<2 ^ 62)(h:∀r M',0<=r->r<v->Dr k M M'->K (.int r) M'):
  ao (aj (bb ad) EE 2<|aa (ac 0)<|aa te af) U M K:=
 DZ (Kw e B f v0 v1 λr M' a b d=>by simp only[frz];exact h r M' a b d)
theorem IS(H:U[0]?=ap (ap<|.ref k.p))(e:U[i]?=ap (ap<|.tup<|names.map D.str))(I:Has k M)(J:0<names.length)(n1:names.length<=12)(h:∀x M',x∈names->Dr k M M'->K (.str x) M'):
  ah au (ac i) (ao<|aj (bb ad) EE 2<|aa (ac 0)<|aa (bz bM<|aa (ac i) af) af) U M K:=by
 have G:∀K:DK,K (.int names.length) M->bz bM (aa (ac i) af) U M K:=λK f=>by
  simp![e,Ox];exact f
 simp only[ah];refine CK e (GN H G I (by lia) (by lia) λr M' a b d=>?_)
 obtain⟨x,F,B⟩:=m3 a b;simp![B];exact h x M' F d
theorem Le{a b:D}(e:U[i]?=ap (ap a))(f:U[j]?=ap (ap b))(h:te U M λd M'=>3<=sizeLine/\D0.rt (.tup [a,b,d]) M'):az (aK<|aa (ac i)<|aa (ac j)<|aa te af) D0 U M:=by
 simp only[az,aK,aa,af,ac,e,f];exact h
theorem ret4{a b c:D}{l:Nat}(f:U[i]?=ap (ap a))(p:U[j]?=ap (ap b))(e:U[l]?=ap (ap c))(h:te U M λd M'=>4<=sizeLine/\D0.rt (.tup [a,b,c,d]) M'):az (aK<|aa (ac i)<|aa (ac j)<|aa (ac l)<|aa te af) D0 U M:=by
 simp only[az,aK,aa,af,ac,f,p,e];exact h
theorem Er{a:Option D}{s:Dl}(h:D0.nx (a::ap (h8 names m many)::ap (.int m)::ap (.tup<|names.map D.str)::ap (.int many)::s) M){b c d:Option D}:
  ar (ac 1) (fH 3<|b6 (ag 2)<|b6 (ag 3)<|b6 (ag 4) fm) D0 (a::ap (h8 names m many)::b::c::d::s) M:=by
 unfold h8 at h ⊢;simp![];exact h
end
def waysL:List Str:=["put","sum","by","less","same","sum","put","take","pick"]
def HS(many:Int)(w:Str):Prop:=w="put"\/(w="sum"\/w="by"\/w="less"\/w="same")\/(0<many/\(w="take"\/w="pick"))
section
variable{k:Pt}
theorem Fj(h:D0.nx (U.set 5<|some<|.lst<|waysL.map D.str) M):
  ar (ao<|bQ<|aa (dC<|.str "put")<|aa (dC<|.str "sum")<|aa (dC<|.str "by")<|aa (dC<|.str "less")<|aa (dC<|.str "same")<|aa (dC<|.str "sum")<|aa (dC<|.str "put")<|aa (dC<|.str "take")<|aa (dC<|.str "pick") af) (ag 5) D0 U M:=by
 simp![];refine⟨bf (by decide),λp e=>?_⟩
 rw[Mem.upd_del,aD e];exact h
theorem JI(r:Nat)(f:r<if 0<many then 9 else 7):∃w,atI (waysL.map D.str) (r:Int)=ap (.str w)/\HS many w:=by
 rw[bo (by lia),OL]
 by_cases e:0<many
 .rw[if_pos e]at f
  match r,f with
  |0,_=>exact⟨_,rfl,.inl rfl⟩
  |1,_=>exact⟨_,rfl,.inr<|.inl<|.inl rfl⟩
  |2,_=>exact⟨_,rfl,.inr<|.inl<|.inr<|.inl rfl⟩
  |3,_=>exact⟨_,rfl,.inr<|.inl<|.inr<|.inr<|.inl rfl⟩
  |4,_=>exact⟨_,rfl,.inr<|.inl<|.inr<|.inr<|.inr rfl⟩
  |5,_=>exact⟨_,rfl,.inr<|.inl<|.inl rfl⟩
  |6,_=>exact⟨_,rfl,.inl rfl⟩
  |7,_=>exact⟨_,rfl,.inr<|.inr ⟨e,.inl rfl⟩⟩
  |8,_=>exact⟨_,rfl,.inr<|.inr ⟨e,.inr rfl⟩⟩
 .rw[if_neg e]at f
  match r,f with
  |0,_=>exact⟨_,rfl,.inl rfl⟩
  |1,_=>exact⟨_,rfl,.inr<|.inl<|.inl rfl⟩
  |2,_=>exact⟨_,rfl,.inr<|.inl<|.inr<|.inl rfl⟩
  |3,_=>exact⟨_,rfl,.inr<|.inl<|.inr<|.inr<|.inl rfl⟩
  |4,_=>exact⟨_,rfl,.inr<|.inl<|.inr<|.inr<|.inr rfl⟩
  |5,_=>exact⟨_,rfl,.inr<|.inl<|.inl rfl⟩
  |6,_=>exact⟨_,rfl,.inl rfl⟩
theorem wayE(H:U[0]?=ap (ap<|.ref k.p))(O:U[4]?=ap (ap<|.int many))(J:U[5]?=ap (ap<|.lst<|waysL.map D.str))(I:Has k M)(h:∀w M',HS many w->Dr k M M'->K (.str w) M'):
  ah au (ac 5) (ao<|aj (bb ad) EE 2<|aa (ac 0)<|aa (o9 (am<|ah uf (ac 4)<|dC<|.int 0) (dC<|.int 9)<|dC<|.int 7) af) U M K:=by
 have F:∀K:DK,K (.int (if 0<many then 9 else 7)) M->o9 (am<|ah uf (ac 4)<|dC<|.int 0) (dC<|.int 9) (dC<|.int 7) U M K:=λK e=>by
  simp![O]
  by_cases f:0<many
  .rw[if_pos f]at e ⊢;exact e
  .rw[if_neg f]at e ⊢;exact e
 simp only[ah];refine CK J (GN H F I (by split<;>decide) (by split<;>decide) λr M' a b d=>?_)
 obtain⟨r,rfl⟩:=Se a;obtain⟨w,G,B⟩:=JI (many:=many) r (by split at b<;>(split<;>lia))
 simp![G];exact h w M' B d
end
theorem Dh{k:Pt}(W:Has k M)(X:ToldOk names m many)(h:∀(r:Rw) M',cz names m many r->Dr k M M'->Q r.d M'):tP ad [.ref k.p,h8 names m many] M Q E:=by
 obtain⟨Y,m1,G,n1,k0,Z⟩:=X;rw[ME (n:=0)];unfold wA;refine cg (Er ?_);dsimp only;refine cg (Fj ?_);dsimp only;refine cg (L0 (wayE rfl rfl rfl W λw M1 F d1=>?_));dsimp only;refine cg (L0 (IS rfl rfl d1.1 G n1 λx M2 f d2=>?_));dsimp only;refine cg (wm rfl (λe=>?_) λB=>?_)
 .subst e
  refine Le rfl rfl (Kw rfl (λK q=>CK rfl q) d2.1 (by lia) (by lia) λr M3 a b d3=>?_)
  exact⟨bf (by decide),ak<|h (.put x r) M3 ⟨f,a,b⟩<|d1.trans<|d2.trans d3⟩
 dsimp only[aF];refine cg (wm rfl (λe=>?_) λP=>?_)
 .subst e
  have I:0<many:=by
   rcases F with e|(e|e|e|e)|e
   .exact(B e).elim
   .exact absurd e (by decide +kernel)
   .exact absurd e (by decide +kernel)
   .exact absurd e (by decide +kernel)
   .exact absurd e (by decide +kernel)
   .exact e.1
  refine Le rfl rfl (Kw rfl (λK q=>CK rfl q) d2.1 (by lia) (by lia) λr M3 a b d3=>?_)
  exact⟨bf (by decide),ak<|h (.take x r) M3 ⟨f,a,b⟩<|d1.trans<|d2.trans d3⟩
 dsimp only[aF];refine cg (L0 (IS rfl rfl d2.1 G n1 λy M3 H d3=>?_));dsimp only;refine cg (wm rfl (λe=>?_) λR=>?_)
 .subst e
  have I:0<many:=by
   rcases F with e|(e|e|e|e)|e
   .exact(B e).elim
   .exact absurd e (by decide +kernel)
   .exact absurd e (by decide +kernel)
   .exact absurd e (by decide +kernel)
   .exact absurd e (by decide +kernel)
   .exact e.1
  exact Le rfl rfl (CK rfl ⟨bf (by decide),ak<|h (.pick x y) M3 ⟨f,H,I⟩<|d1.trans<|d2.trans d3⟩)
 dsimp only[aF];have J:w="sum"\/w="by"\/w="less"\/w="same":=by
  rcases F with e|e|⟨_,e|e⟩
  .exact(B e).elim
  .exact e
  .exact(P e).elim
  .exact(R e).elim
 refine ret4 rfl rfl rfl (IS rfl rfl d3.1 G n1 λz M4 S O=>?_);exact⟨bf (by decide),ak<|h (.two w x y z) M4 ⟨J,f,H,S⟩<|d1.trans<|d2.trans<|d3.trans O⟩
mutual
def LF:Rw->Prop
 |.ifr _ a b=>(a.length<=200/\fF a)/\b.length<=200/\fF b
 |.again _ a=>a.length<=200/\fF a
 |_=>True
def fF:List Rw->Prop
 |[]=>True
 |r::rs=>LF r/\fF rs
end
theorem LnRs_append:∀{a b:List Rw},fF (a++b)↔fF a/\fF b
 |[],b=>by simp[fF]
 |r::a,b=>by simp[fF,LnRs_append,and_assoc]
mutual
def cR:Rw->Nat
 |.ifr _ a b=>1+cRs a+cRs b
 |.again _ a=>1+cRs a
 |.put _ _=>1
 |.take _ _=>1
 |.pick _ _=>1
 |.two _ _ _ _=>1
def cRs:List Rw->Nat
 |[]=>0
 |r::rs=>cR r+cRs rs
end
theorem dF:∀{a b:List Rw},cRs (a++b)=cRs a+cRs b
 |[],b=>by simp[cRs]
 |r::a,b=>by simp only[OS,cRs,dF];lia
theorem On{r:Rw}(h:cz names m many r):cR r=1:=by
 cases r with
 |ifr=>exact h.elim
 |again=>exact h.elim
 |_=>simp only[cR]
def Rv(rm:eg)(M:Mem)(v:Int):Prop:=M rm=ap (.lst [.int v])/\0<=v
def Kp(k:Pt)(rm:eg)(M M':Mem):Prop:=Has k M'/\(∃v:Int,M' rm=ap (.lst [.int v]))/\∀b o,b≠k.p->b≠k.q->b≠rm->M b=ap o->M' b=ap o
theorem Kp.trans{k:Pt}{M1 M2:Mem}(a:Kp k rm M M1)(b:Kp k rm M1 M2):Kp k rm M M2:=⟨b.1,b.2.1,λx o e f p h=>b.2.2 x o e f p (a.2.2 x o e f p h)⟩
structure Rm(k:Pt)(rm:eg)(M:Mem):Prop where
 h:Has k M
 n1:rm≠k.p
 n2:rm≠k.q
 v:∃v:Int,M rm=ap (.lst [.int v])
theorem Rm.kp{k:Pt}(r:Rm k rm M):Kp k rm M M:=⟨r.h,r.v,λ_ _ _ _ _ e=>e⟩
theorem Rm.go{k:Pt}(r:Rm k rm M)(d:Kp k rm M M'):Rm k rm M':=⟨d.1,r.n1,r.n2,d.2.1⟩
theorem Rm.dr{k:Pt}(r:Rm k rm M)(d:Dr k M M'):Kp k rm M M':=⟨d.1,by obtain⟨v,e⟩:=r.v;exact⟨v,by rw[d.2 rm r.n1 r.n2];exact e⟩,λb o f h _ e=>by rw[d.2 b f h];exact e⟩
theorem Rm.new{k:Pt}(r:Rm k rm M){l:eg}(f:M l=cm)(o:MO):Kp k rm M (M.upd l o):=by
 have a:=r.h.nep f;obtain⟨v,e⟩:=r.v;have b:rm≠l:=Mem.ne e f;exact⟨r.h.upd a,⟨v,by rw[ae b];exact e⟩,λc o _ _ _ e=>by rw[ae (Mem.ne e f)];exact e⟩
theorem Rm.set{k:Pt}(r:Rm k rm M)(v:Int):Kp k rm M (M.upd rm<|.lst [.int v]):=
 ⟨r.h.upd ⟨r.n1,r.n2⟩,⟨v,Mem.upd_same⟩,λc o _ _ h e=>by rw[ae h];exact e⟩
section
variable{k:Pt}
def PRo(ad:Ad)(k:Pt)(rm:eg)(names:Xk)(m many:Int)(n:Nat):Prop:=∀(deep:Nat)(most:Int)(M:Mem)(Q:DK)(E:DX),deep<=4->2*(4-deep)+1<=n->0<most->most<=30->Rm k rm M->∀v:Int,Rv rm M v->
 (∀(rs:List Rw)(M':Mem),(∃v',Rv rm M' v'/\(cRs rs:Int)+v'<=v)->bc names m many rs/\fF rs->cU rs+deep<=4->rs.length<=100->Kp k rm M M'->Q (.tup<|aw rs) M')->Vd ad n [.ref k.p,h8 names m many,.ref rm,.int deep,.int most] M Q E
def PBl(ad:Ad)(k:Pt)(rm:eg)(names:Xk)(m many:Int)(n:Nat):Prop:=∀(deep:Nat)(M:Mem)(Q:DK)(E:DX),deep<4->2*(4-deep)<=n->Rm k rm M->∀v:Int,Rv rm M v->
 (∀(rs:List Rw)(l:eg)(M':Mem),(∃v',Rv rm M' v'/\(cRs rs:Int)+v'<=v+4)->bc names m many rs/\fF rs->cU rs+deep<=4->rs.length<=3->Kp k rm M M'->M' l=cm->Q (.ref l) (M'.upd l<|.lst<|aw rs))->Ve ad n [.ref k.p,h8 names m many,.ref rm,.int deep] M Q E
theorem OkRs_append:∀{a b:List Rw},bc names m many (a++b)↔bc names m many a/\bc names m many b
 |[],b=>by simp[bc]
 |r::a,b=>by simp[bc,OkRs_append,and_assoc]
theorem dI:∀{a b:List Rw},cU (a++b)=max (cU a) (cU b)
 |[],b=>by simp[cU]
 |r::a,b=>by simp only[OS,cU,dI,Nat.max_assoc]
theorem bO:∀{a b:List Rw},aw (a++b)=aw a++aw b
 |[],b=>rfl
 |r::a,b=>by simp[aw,bO]
theorem bS:∀{a:List Rw},(aw a).length=a.length
 |[]=>rfl
 |r::a=>by simp[aw,bS]
theorem JQ{r:Rw}(h:cz names m many r):cy names m many r:=by
 cases r with
 |ifr=>exact h.elim
 |again=>exact h.elim
 |_=>simpa only[cy] using h
theorem Mv{r:Rw}(h:cz names m many r):hR r=0:=by
 cases r with
 |ifr=>exact h.elim
 |again=>exact h.elim
 |_=>simp only[hR]
theorem JB{r:Rw}(h:cz names m many r):LF r:=by
 cases r with
 |ifr=>exact h.elim
 |again=>exact h.elim
 |_=>simp only[LF]
theorem vY(ht:ToldOk names m many)(ih:PRo ad k rm names m many n):PBl ad k rm names m many (n+1):=by
 intro e M Q E hd hn r v rv h;obtain⟨m2,m1,n0,n1,k0,k1⟩:=ht;have dd:(e:Int)+1=((e+1:Nat):Int):=by lia
 simp![NZ,yd,h8,Ox];refine aN r.h (by lia) (by lia) λr1 M1 a1 b1 P=>?_
 have R1:=r.go (r.dr P);have W:Rv rm M1 v:=⟨by rw[P.2 rm r.n1 r.n2];exact rv.1,rv.2⟩
 obtain⟨x,F,ex⟩:=m3 a1 b1;simp![ex,dd];refine aq λQ' E' X _=>ih (e+1) 5 M1 Q' E' (by lia) (by lia) (by decide) (by decide) R1 v W λfirst M2 Y B h2 l2 d2=>X _ _ ?_
 obtain⟨v2,O,Y⟩:=Y;have R2:=R1.go d2;simp![];refine aN R2.h (by decide) (by decide) λw M3 a3 b3 H=>?_
 have R3:=R2.go (R2.dr H);have f:Rv rm M3 v2:=⟨by rw[H.2 rm r.n1 r.n2];exact O.1,O.2⟩
 simp![dd]
 by_cases Z:w<2
 .rw[if_pos Z]
  refine aq λQ' E' X _=>ih (e+1) 5 M3 Q' E' (by lia) (by lia) (by decide) (by decide) R3 v2 f λp M4 c4 o4 h4 l4 I=>X _ _ ?_
  obtain⟨v4,R,c4⟩:=c4;simp![];refine⟨bf (by decide),bf (by decide),λl G=>ak (h [.ifr x first p] l M4 ⟨v4,R,by simp only[cRs,cR];lia⟩ ?_ ?_ (by simp) ((r.dr P).trans<|d2.trans<|(R2.dr H).trans I) G)⟩
  .simp only[bc,cy,fF,LF];exact⟨⟨⟨F,B.1,o4.1⟩,trivial⟩,⟨⟨by lia,B.2⟩,by lia,o4.2⟩,trivial⟩
  .simp only[cU,hR];lia
 .rw[if_neg Z]
  by_cases J:w=2
  .rw[if_pos J]
   refine⟨bf (by decide),bf (by decide),λl G=>ak (h [.again x first] l M3 ⟨v2,f,by simp only[cRs,cR];lia⟩ ?_ ?_ (by simp) ((r.dr P).trans<|d2.trans<|R2.dr H) G)⟩
   .simp only[bc,cy,fF,LF];exact⟨⟨⟨F,B.1⟩,trivial⟩,⟨by lia,B.2⟩,trivial⟩
   .simp only[cU,hR];lia
  .rw[if_neg J]
   simp only[Ox];refine aN R3.h (by lia) (by lia) λr4 M4 a4 b4 I=>?_
   have R4:=R3.go (R3.dr I);obtain⟨y,hy,ey⟩:=m3 a4 b4;simp![ey];refine aN R4.h (by split<;>lia) (by split<;>lia) λr5 M5 a5 b5 d5=>?_
   have S:r5<m:=by split at b5<;>lia
   simp![];refine⟨bf (by decide),bf (by decide),bf (by decide),bf (by decide),bf (by rw[bS];lia),bf (by decide),bf (by decide),λl G=>ak ?_⟩
   have:=h [.put x r5,.put y (m-1),.again x (first++[.two "sum" x x y])] l M5 ⟨v2,⟨by rw[d5.2 rm r.n1 r.n2,I.2 rm r.n1 r.n2];exact f.1,f.2⟩,by simp only[cRs,cR,dF];lia⟩ ?_ ?_ (by simp) ((r.dr P).trans<|d2.trans<|(R2.dr H).trans<|(R3.dr I).trans<|R4.dr d5) G
   .simp only[aw,Rw.d,bO]at this
    exact this
   .simp only[bc,cy,cz,OkRs_append,fF,LF,LnRs_append]
    exact⟨⟨⟨F,a5,S⟩,⟨hy,by lia,by lia⟩,⟨F,B.1,⟨.inl trivial,F,F,hy⟩,trivial⟩,trivial⟩,trivial,trivial,⟨by simp;lia,B.2,trivial,trivial⟩,trivial⟩
   .simp only[cU,hR,dI];lia
theorem O0{r:Rw}:frz r.d M Q=Q r.d M:=by cases r<;>rfl
theorem wJ{c:Int}(e:U[2]?=ap (ap<|.ref rm))(f:M rm=ap (.lst [.int v]))(h:D0.nx U (M.upd rm<|.lst [.int (v-c)])):
  ar (ah fI (ah au (ac 2)<|dC<|.int 0)<|dC<|.int c) (de (ac 2)<|dC<|.int 0) D0 U M:=by
 simp![e,f,AF,ix0];exact h
theorem IH{B:aE}{deep:Int}(J:U[0]?=ap (ap<|.ref k.p))(P:U[2]?=ap (ap<|.ref rm))(O:U[3]?=ap (ap<|.int deep))(F:Has k M)(I:M rm=ap (.lst [.int v]))(R:∀M',4<v->deep<4->Dr k M M'->A D0 U M')(h:∀M',Dr k M M'->B D0 U M'):
  aH (vV (am<|ah uf (ah au (ac 2)<|dC<|.int 0)<|dC<|.int 4)<|vV (am<|ah uQ (ac 3)<|dC<|.int 4)<|am<|ah bZ (ao<|aj (bb ad) EE 2<|aa (ac 0)<|aa (dC<|.int 4) af)<|dC<|.int 0) A B D0 U M:=by
 simp![J,P,O,I,AF]
 by_cases f:4<v
 .rw[if_pos f]
  by_cases e:deep<4
  .rw[if_pos e]
   refine aN F (by decide) (by decide) λw M2 S W G=>?_
   simp![]
   by_cases H:w=0
   .rw[if_pos H];exact R _ f e G
   .rw[if_neg H];exact h _ G
  .rw[if_neg e];exact h _ F.refl
 .rw[if_neg f];exact h _ F.refl
theorem FU(f:U[2]?=ap (ap<|.ref rm))(p:M rm=ap (.lst [.int v]))(B:0<v->A D0 U M)(h:D0.nx U M):
  aH (am<|ah uf (ah au (ac 2)<|dC<|.int 0)<|dC<|.int 0) A aF D0 U M:=by
 simp![f,p,AF]
 by_cases e:0<v
 .rw[if_pos e];exact B e
 .rw[if_neg e];exact h
theorem E4{l:eg}(O:U[0]?=ap (ap<|.ref k.p))(I:U[1]?=ap (ap<|h8 names m many))(J:U[5]?=ap (ap<|.ref l))(P:Has k M)(R:ToldOk names m many)(n1:l≠k.p)(n2:l≠k.q)(G:M l=ap (.lst<|aw Xe))(S:Xe.length<=1000)(h:∀(r:Rw) M',cz names m many r->Dr k M M'->D0.nx U (M'.upd l<|.lst (aw Xe++[r.d]))):
  bn (mM "list" bW (ac 5)<|aa (ao<|aj (tP ad) EE 2<|aa (ac 0)<|aa (ac 1) af) af) D0 U M:=by
 simp![O,I,J,G];refine aq λQ' E' H _=>Dh P R λB M3 f F=>H _ _ ?_;have e:M3 l=ap (.lst<|aw Xe):=by rw[F.2 l n1 n2];exact G
 have fin:=h B M3 f F;have sz:(aw Xe).length+1<=sizeLine:=by rw[bS];exact jx (by lia)
 rw[O0];simp![e];exact⟨sz,fin⟩
theorem Ez(W:PBl ad k rm names m many n){l:eg}{deep:Nat}(h0:U[0]?=ap (ap<|.ref k.p))(Z:U[1]?=ap (ap<|h8 names m many))(h2:U[2]?=ap (ap<|.ref rm))(h3:U[3]?=ap (ap<|.int deep))(h5:U[5]?=ap (ap<|.ref l))(S:deep<4)(X:2*(4-deep)<=n)(R:Rm k rm M)(n1:l≠k.p)(n2:l≠k.q)(n3:l≠rm)(Y:M l=ap (.lst<|aw Xe))(ha:Xe.length<=1000)(P:Rv rm M v)(h:∀(rs:List Rw)(f:eg)(M':Mem),(∃v',Rv rm M' v'/\(cRs rs:Int)+v'<=v+4)->bc names m many rs/\fF rs->cU rs+deep<=4->rs.length<=3->Kp k rm M M'->M' f=cm->D0.nx (U.set 5<|some<|.ref f) (M'.upd f<|.lst (aw Xe++aw rs))):
  ar (ah aW (ac 5)<|ao<|aj (Ve ad n) EE 4<|aa (ac 0)<|aa (ac 1)<|aa (ac 2)<|aa (ac 3) af) (ag 5) D0 U M:=by
 simp![h0,Z,h2,h3,h5];refine aq λQ' E' J _=>W deep M Q' E' S X R v P λbl l2 M3 O F hh e I G=>J _ _ ?_;have H:M3 l=ap (.lst<|aw Xe):=I.2.2 l _ n1 n2 n3 Y;simp![Mem.upd_del,aD G,H];exact⟨by rw[bS,bS];exact bf (by lia),λf B=>h bl f M3 O F hh e I B⟩
structure RInv(k:Pt)(rm:eg)(names:Xk)(m many:Int)(M:Mem)(v:Int)(deep:Nat)(n j:Nat)(Xe:List Rw)(l:eg)(M':Mem):Prop where
 cv:∃v',Rv rm M' v'/\(cRs Xe:Int)+v'<=v
 hj:n+j<=30
 ha:Xe.length<=3*j
 ok:bc names m many Xe
 ln:fF Xe
 hh:cU Xe+deep<=4
 kp:Kp k rm M M'
 hm:M' l=ap (.lst<|aw Xe)
 n1:l≠k.p
 n2:l≠k.q
 n3:l≠rm
 h0:M l=cm
theorem RInv.len{deep:Nat}{l:eg}(I:RInv k rm names m many M v deep n j Xe l M'):Xe.length<=100:=by
 have:=I.hj;have:=I.ha;lia
theorem nc(ht:ToldOk names m many)(ih:PBl ad k rm names m many n):PRo ad k rm names m many (n+1):=by
 intro deep most M Q E hd hn h0 h1 r v0 P h;simp![LY,xX,cH];refine⟨bf (by decide),λl O=>?_⟩
 have R1:=r.go (r.new O<|.lst []);refine aN R1.h h0 (by lia) λcnt M1 a1 b1 d1=>?_
 have J:=r.h.nep O;simp![];refine⟨by lia,by lia,?_⟩
 refine cc (λxs U M'=>∃(j:Nat)(Xe:List Rw)(l:eg)(c6:Option D),RInv k rm names m many M v0 deep xs.length j Xe l M'/\U=[ap (.ref k.p),ap (h8 names m many),ap (.ref rm),ap (.int deep),ap (.int most),ap (.ref l),c6]) (λ_ _ _ _=>aS) ?_ ?_ _ _ _ ⟨0,[],l,cm,⟨⟨v0,⟨?_,P.2⟩,by simp[cRs]⟩,?_,by simp,by simp only[bc],by simp only[fF],by simp only[cU];lia,(r.new O _).trans (R1.dr d1),?_,J.1,J.2,?_,O⟩,rfl⟩
 .rintro U M' ⟨j,Xe,l,c6,I,rfl⟩
  simp![I.hm];exact ak (h Xe M' I.cv ⟨I.ok,I.ln⟩ I.hh I.len I.kp)
 .rintro x xs U M' ⟨j,Xe,l,c6,I,rfl⟩ D' S _ _ _
  have R:=r.go I.kp;have hj:=I.hj;have ha:=I.ha;simp only[OE]at hj;obtain⟨v,⟨hv,hv0⟩,hcv⟩:=I.cv;refine IH rfl rfl rfl R.h hv (λM2 h4 h5 G=>?_) λM2 G=>?_
  .have X:=I.kp.trans (R.dr G)
   have R2:=r.go X;refine cg (wJ rfl (by rw[G.2 rm r.n1 r.n2];exact hv) ?_)
   have Y:=R2.set (v-4);dsimp only;refine Ez (deep:=deep) (Xe:=Xe) ih rfl rfl rfl rfl rfl (by lia) (by lia) (R2.go Y) I.n1 I.n2 I.n3 (by rw[ae I.n3,G.2 l I.n1 I.n2];exact I.hm) (by lia) (v:=v-4) ⟨Mem.upd_same,by lia⟩ λbl Z M3 c3 B hh3 len3 k3 F=>?_
   have f:=(X.trans Y).trans k3;have R3:=r.go f;have H:=R3.h.nep F;have W:Z≠rm:=by
    obtain⟨u,eu⟩:=R3.v;exact λe=>by rw[e,eu]at F;cases F
   have hM3:M Z=none:=by
    cases e:M Z with
    |none=>rfl
    |some o=>rw[f.2.2 Z o H.1 H.2 W e]at F;cases F
   obtain⟨v3,rv3,c3⟩:=c3;exact S _ _ ⟨j+1,Xe++bl,Z,_,⟨⟨v3,⟨by rw[ae (Pa W)];exact rv3.1,rv3.2⟩,by rw[dF];lia⟩,by lia,by rw[OH];lia,OkRs_append.mpr ⟨I.ok,B.1⟩,LnRs_append.mpr ⟨I.ln,B.2⟩,by rw[dI];exact OV (S5 (Nat.add_max_add_right ..).symm) (Nat.max_le.mpr ⟨I.hh,hh3⟩),f.trans (R3.new F _),by rw[Mem.upd_same,bO],H.1,H.2,W,hM3⟩,rfl⟩
  .have X:=I.kp.trans (R.dr G)
   have R2:=r.go X;have hm2:M2 l=ap (.lst<|aw Xe):=by rw[G.2 l I.n1 I.n2];exact I.hm
   refine FU rfl (by rw[G.2 rm r.n1 r.n2];exact hv) (λhz=>?_) ?_
   .refine cg (wJ rfl (by rw[G.2 rm r.n1 r.n2];exact hv) ?_)
    have Y:=R2.set (v-1);dsimp only;refine E4 (Xe:=Xe) rfl rfl rfl Y.1 ht I.n1 I.n2 (by rw[ae I.n3];exact hm2) (by lia) λrw1 M3 B d3=>?_
    have f:=(X.trans Y).trans ((R2.go Y).dr d3);refine S _ _ ⟨j+1,Xe++[rw1],l,_,⟨⟨v-1,⟨by rw[ae (Pa I.n3),d3.2 rm r.n1 r.n2,Mem.upd_same],by lia⟩,by rw[dF];simp only[cRs,On B];lia⟩,by lia,by rw[OH,PV];lia,OkRs_append.mpr ⟨I.ok,by simp only[bc];exact⟨JQ B,trivial⟩⟩,LnRs_append.mpr ⟨I.ln,by simp only[fF];exact⟨JB B,trivial⟩⟩,by rw[dI];simp only[cU,Mv B,Nat.max_zero,Nat.max_self];exact I.hh,?_,by rw[Mem.upd_same,bO];rfl,I.n1,I.n2,I.n3,I.h0⟩,rfl⟩
    refine⟨f.1.upd ⟨I.n1,I.n2⟩,?_,λb o h1 h2 h3 e=>?_⟩
    .obtain⟨u,eu⟩:=f.2.1
     exact⟨u,by rw[ae (Pa I.n3)];exact eu⟩
    .rw[ae (Mem.ne e I.h0)];exact f.2.2 b o h1 h2 h3 e
   .exact S _ _ ⟨j,Xe,l,_,⟨⟨v,⟨by rw[G.2 rm r.n1 r.n2];exact hv,hv0⟩,hcv⟩,by lia,ha,I.ok,I.ln,I.hh,X,hm2,I.n1,I.n2,I.n3,I.h0⟩,rfl⟩
 .rw[d1.2 rm r.n1 r.n2,ae (λz=>by rw[<- z,P.1]at O;cases O)];exact P.1
 .simp[dW];lia
 .rw[d1.2 l J.1 J.2,Mem.upd_same];rfl
 .obtain⟨v,e⟩:=r.v
  exact λe'=>by rw[e',e]at O;cases O
theorem jG(f:ToldOk names m many):∀n:Nat,PRo ad k rm names m many n/\PBl ad k rm names m many n
 |0=>⟨λe p M Q E _ h=>by lia,λe M Q E _ h=>by lia⟩
 |n+1=>⟨nc f (jG f n).2,vY f (jG f n).1⟩
end
section
variable{k:Pt}
def Kq(k:Pt)(M M':Mem):Prop:=Has k M'/\∀b o,b≠k.p->b≠k.q->M b=ap o->M' b=ap o
theorem Kq.trans{M1 M2:Mem}(a:Kq k M M1)(b:Kq k M1 M2):Kq k M M2:=⟨b.1,λx o e f h=>b.2 x o e f (a.2 x o e f h)⟩
theorem Dr.kq(d:Dr k M M'):Kq k M M':=⟨d.1,λb o f h e=>by rw[d.2 b f h];exact e⟩
structure PlG(m many:Int)(names:Xk)(rows:List Rw)(mk:Str):Prop where
 t:ToldOk names m many
 nd:names.Nodup
 ok:bc names m many rows
 h:cU rows<=4
 cn:cRs rows<=60
 l:rows.length<=100
 ln:fF rows
 mkm:mk∈names
 one:∀x∈names,ug x
def jo(m many:Int)(names:Xk)(rows:List Rw)(mk:Str):D:=.tup [.int m,.tup (names.map D.str),.int many,.tup (aw rows),.str mk]
theorem zx(v0:0<=v)(v60:v<=60)(hp:Has k M)(h:∀(m many:Int)(names:Xk)(rows:List Rw)(mk:Str)(M':Mem),PlG m many names rows mk->(cRs rows:Int)<=v->Kq k M M'->Q (jo m many names rows mk) M'):yV ad [.ref k.p,.int v] M Q E:=by
 simp![NY,wS];refine aN hp (by decide) (by decide) λx1 M1 a1 b1 d1=>?_
 simp![];refine aN d1.1 (by decide) (by decide) λx2 M2 a2 b2 d2=>?_
 simp![];refine⟨bf (by decide),λp f=>?_⟩
 rw[Mem.upd_del,aD f];refine aN d2.1 (by decide) (by decide) λP M3 a3 b3 d3=>?_
 obtain⟨m,em,m2,m1⟩:∃m:Int,atI [D.int 2,.int 3,.int (2+x1),.int (2+x2)] P=ap (.int m)/\2<=m/\m<=997:=by
  have:P=0\/P=1\/P=2\/P=3:=by lia
  rcases this with rfl|rfl|rfl|rfl
  .exact⟨2,by simp,by lia,by lia⟩
  .exact⟨3,by simp,by lia,by lia⟩
  .exact⟨2+x1,by simp,by lia,by lia⟩
  .exact⟨2+x2,by simp,by lia,by lia⟩
 simp![em];refine⟨bf (by decide),λp f=>?_⟩
 rw[Mem.upd_del,aD f];refine aN d3.1 (by decide) (by decide) λW M4 a4 b4 d4=>?_
 obtain⟨w,ew,w2,w1⟩:∃m:Int,atI [D.int 3,.int 5,.int 12] W=ap (.int m)/\0<m/\m<=12:=by
  have:W=0\/W=1\/W=2:=by lia
  rcases this with rfl|rfl|rfl
  .exact⟨3,by simp,by lia,by lia⟩
  .exact⟨5,by simp,by lia,by lia⟩
  .exact⟨12,by simp,by lia,by lia⟩
 simp![ew];refine aN d4.1 w2 (by lia) λx5 M5 a5 b5 d5=>?_
 simp![];obtain⟨nn,hnn⟩:∃nn:Nat,(1:Int)+x5=nn:=⟨(1+x5).toNat,by lia⟩
 rw[hnn];refine aq λQ' E' hq _=>vH d5.1 (by lia) λnames M6 n6 nd6 on6 d6=>hq _ _ ?_
 simp![];refine aN d6.1 (by decide) (by decide) λx7 M7 a7 b7 d7=>?_
 simp![];refine aN d7.1 (by decide) (by decide) λx8 M8 a8 b8 d8=>?_
 simp![];refine⟨bf (by decide),λp f=>?_⟩
 rw[Mem.upd_del,aD f];refine aN d8.1 (by decide) (by decide) λX M9 a9 b9 d9=>?_
 obtain⟨many,ek,k0,k1⟩:∃m:Int,atI [D.int 0,.int (1+x7),.int x8] X=ap (.int m)/\0<=m/\m<=40:=by
  have:X=0\/X=1\/X=2:=by lia
  rcases this with rfl|rfl|rfl
  .exact⟨0,by simp,by lia,by lia⟩
  .exact⟨1+x7,by simp,by lia,by lia⟩
  .exact⟨x8,by simp,by lia,by lia⟩
 simp![ek];refine⟨bf (by decide),bf (by decide),λrm S=>⟨bf (by decide),λp f=>?_⟩⟩
 rw[Mem.upd_del,aD f];have D9:=d1.trans (d2.trans<|d3.trans<|d4.trans<|d5.trans<|d6.trans<|d7.trans<|d8.trans d9);have B:=d9.1.nep S;have R9:Rm k rm (M9.upd rm<|.lst [.int v]):=⟨d9.1.upd B,B.1,B.2,v,Mem.upd_same⟩;refine aN R9.h (by decide) (by decide) λF M10 a10 b10 H=>?_
 have R10:=R9.go (R9.dr H);obtain⟨J,eo,o0,o1⟩:∃m:Int,atI [D.int 6,.int 12,.int 30] F=ap (.int m)/\0<m/\m<=30:=by
  have:F=0\/F=1\/F=2:=by lia
  rcases this with rfl|rfl|rfl
  .exact⟨6,by simp,by lia,by lia⟩
  .exact⟨12,by simp,by lia,by lia⟩
  .exact⟨30,by simp,by lia,by lia⟩
 simp![eo];have ht:ToldOk names m many:=⟨m2,m1,by lia,by lia,k0,k1⟩
 refine aq λQ' E' hq _=>(jG ht 24).1 0 J M10 Q' E' (by decide) (by decide) o0 o1 R10 v ⟨by rw[H.2 rm B.1 B.2,Mem.upd_same],v0⟩ λrows M11 R G h11 Y I=>hq _ _ ?_
 obtain⟨v11,O,R⟩:=R;have v110:=O.2;simp![Ox];refine aN I.1 (by lia) (by lia) λx12 M12 a12 Z d12=>?_
 obtain⟨mk,hmk,emk⟩:=m3 a12 Z;simp![emk];refine⟨bf (by decide),ak<|h m many names rows mk M12 ⟨ht,nd6,G.1,by lia,by lia,Y,G.2,hmk,on6⟩ (by lia) ?_⟩
 refine D9.kq.trans (Kq.trans ?_ d12.kq);refine⟨I.1,λb o h1 h2 e=>?_⟩;have hb:b≠rm:=Mem.ne e S;have:=(R9.dr H).2.2 b o h1 h2 hb (by rw[ae hb];exact e)
 exact I.2.2 b o h1 h2 hb this
theorem ww(W:Has k M)(pl:PlG m many names rows mk)(h:∀(nums e:Xj)(M':Mem),nums.length=names.length->(e.length:Int)=many->(∀v∈nums,0<=v/\v<m)->(∀v∈e,0<=v/\v<m)->Kq k M M'->Q (bC nums e) M'):yx ad [.ref k.p,jo m many names rows mk] M Q E:=by
 have t1:=pl.t.m1;have Z:=pl.t.m2;have Y:=pl.t.n1;have X:=pl.t.k0;have t5:=pl.t.k1;simp![NI,xE,jo,aX,atI_1];refine cO (λxs Xe U M'=>∃(nums:Xj)(B:Option D),xs.length+nums.length=names.length/\Xe=nums.map D.int/\U=[B,ap (.ref k.p),ap (jo m many names rows mk)]/\Dr k M M'/\∀v∈nums,0<=v/\v<m) (λ_ _ _ _ _=>aS) ?_ ?_ ?_ _ _ _ _ ⟨[],cm,by simp,rfl,rfl,W.refl,by simp⟩
 .rintro Xe U M' ⟨nums,B,R,rfl,rfl,S,hv⟩
  intro p H;simp![Mem.upd_del,aD H,atI_2];refine⟨by lia,by lia,?_⟩
  refine cO (λxs Xe U M'=>∃(ps:Xj)(B:Option D),xs.length+ps.length=many.toNat/\Xe=ps.map D.int/\U=[B,ap (.ref k.p),ap (jo m many names rows mk)]/\Dr k M M'/\∀v∈ps,0<=v/\v<m) (λ_ _ _ _ _=>aS) ?_ ?_ ?_ _ _ _ _ ⟨[],cm,by simp[dW],rfl,rfl,S,by simp⟩
  .rintro Xe U M' ⟨ps,B,G,rfl,rfl,F,f⟩
   intro p H;simp![Mem.upd_del,aD H];refine⟨bf (by decide),ak<|h nums ps M' (by simpa using R) (by simp at G;lia) hv f F.kq⟩
  .rintro x xs Xe U M' ⟨ps,B,G,rfl,rfl,F,f⟩ N O _
   simp![jo,atI_0];refine aN F.1 (by lia) (by lia) λr M3 I P J=>?_
   simp![];simp only[OE]at G;refine O _ _ _ (by simp;exact jx (by lia)) ⟨ps++[r],_,by simp;lia,by simp,rfl,F.trans J,λv hv=>?_⟩
   rcases Ph.mp hv with hv|hv
   .exact f v hv
   .simp at hv;subst hv;exact⟨I,P⟩
  .rintro x xs Xe U M' ⟨ps,B,G,rfl,rfl,F,f⟩
   simp at G ⊢;exact jx (by lia)
 .rintro x xs Xe U M' ⟨ps,B,G,rfl,rfl,F,f⟩ N O _
  simp![jo,atI_0];refine aN F.1 (by lia) (by lia) λr M3 I P J=>?_
  simp![];simp only[OE]at G;refine O _ _ _ (by simp;exact jx (by lia)) ⟨ps++[r],_,by simp;lia,by simp,rfl,F.trans J,λv hv=>?_⟩
  rcases Ph.mp hv with hv|hv
  .exact f v hv
  .simp at hv;subst hv;exact⟨I,P⟩
 .rintro x xs Xe U M' ⟨ps,B,G,rfl,rfl,F,f⟩
  simp at G ⊢;exact jx (by lia)
end
section
theorem dk{tt:fC}{ok:Mem->Prop}{Q:List D->Mem->Prop}{b:BxC (ag 0) tt te ok Q}{rest:Dl}{c:Option D}{xs:List D}(p:D->Bool)(f:D->D)(R:ok M)(X:xs.length<=100000)(W:∀x∈xs,∀K:Bool->Mem->Prop,K (p x) M->tt (ap x::rest) M K)(S:∀x∈xs,p x=true->∀K:DK,K (f x) M->te (ap x::rest) M K)(h:Q ((xs.filter p).map f) M):
  cw (ag 0) tt te ok Q b xs [] (c::rest) M:=by
 refine cO (λI Xe U N=>∃(us:List D)(B:Option D),xs=us++I/\Xe=(us.filter p).map f/\U=B::rest/\M=N) (λ_ _ _ _ z=>by obtain⟨_,_,_,_,_,rfl⟩:=z;exact R) ?_ ?_ ?_ _ _ _ _ ⟨[],c,rfl,rfl,rfl,rfl⟩
 .rintro Xe U N ⟨us,B,e,rfl,rfl,rfl⟩
  rw[Pw]at e;subst e;exact h
 .rintro y I Xe U N ⟨us,B,e,rfl,rfl,rfl⟩ N' G F
  have O:y∈xs:=by rw[e];simp
  have H:=congrArg QM e;simp only[OH,OE]at H;have P:=Po p us;simp only[ag,OM];refine W y O _ ?_;cases J:p y with
  |true=>
   rw[if_pos rfl];exact S y O J _ (G _ _ _ (by rw[Ox];exact jx (by lia)) ⟨us++[y],_,by simp[e],by simp[J],rfl,rfl⟩)
  |false=>
   rw[if_neg (by simp)]
   exact F .non _ _ ⟨us++[y],_,by simp[e],by simp[J],rfl,rfl⟩
 .rintro y I Xe U N ⟨us,B,e,rfl,rfl,rfl⟩
  have H:=congrArg QM e;simp only[OH,OE]at H;have P:=Po p us;rw[Ox];exact jx (by lia)
theorem gc{ok:Mem->Prop}{Q:List D->Mem->Prop}{b:BxC (ag 0) dG te ok Q}{rest:Dl}{c:Option D}{xs:List D}(f:D->D)(p:ok M)(B:xs.length<=100000)(F:∀x∈xs,∀K:DK,K (f x) M->te (ap x::rest) M K)(h:Q (xs.map f) M):cw (ag 0) dG te ok Q b xs [] (c::rest) M:=by
 refine dk (λ_=>true) f p B (λx _ K q=>q) (λx e _=>F x e) ?_;rw[QU.mpr λ_ _=>rfl];exact h
end
instance lawKey:LawfulBEq aG where
 eq_of_beq {a b} h:=by
  cases a<;>cases b
  .exact congrArg Qg (eq_of_beq (α:=Int) h)
  .cases h
  .cases h
  .exact congrArg OX (eq_of_beq (α:=Str) h)
 rfl {a}:=by
  cases a
  .exact beq_self_eq_true (α:=Int) _
  .exact beq_self_eq_true (α:=Str) _
def kD:aG->D
 |.inl i=>.int i
 |.inr x=>.str x
theorem Cd(n:Nat)(a:aG):bj n (kD a)=true:=by cases a<;>cases n<;>rfl
theorem yk(n:Nat):∀ks:List aG,bt n (ks.map kD)=true
 |[]=>by cases n<;>rfl
 |k::ks=>by simp only[Oy,bt,Cd,yk n ks,Ub]
def mxD(ks:List aG):D:=.lst (ks.map kD)
structure Cse where
 w:Int
 many:Nat
 names:List Str
 rows:List Rw
 mn:Str
 most:Nat
structure Sta where
 nums:List Int
 pieces:List Int
def Sta.d(s:Sta):D:=bC s.nums s.pieces
def Cse.cf(C:Cse)(s:Sta):Cf:=⟨C.w,s.pieces,C.most⟩
def Cse.d(C:Cse):D:=.tup [.int C.w,.tup (C.names.map D.str),.int (C.many:Nat),.tup (aw C.rows),.str C.mn]
structure Cse.Ok(C:Cse):Prop where
 m2:2<=C.w
 m1:C.w<=997
 few:C.many<=100
 most:C.most<=10000
 nd:C.names.Nodup
 l0:0<C.names.length
 l1:C.names.length<=100
 ok:bc C.names C.w C.many C.rows
 h:cU C.rows<=7
 mn:C.mn∈C.names
structure SOk(C:Cse)(s:Sta):Prop where
 ln:s.nums.length=C.names.length
 lp:s.pieces.length=C.many
 rn:∀v∈s.nums,0<=v/\v<C.w
 rp:∀v∈s.pieces,0<=v/\v<C.w
def Bc(mk:Str)(r:Bool×Sx):D:=if r.1=true then .int (nm r.2.nums mk) else .non
def Cse.run(C:Cse)(s:Sta):Bool×Sx:=dj (C.cf s) C.names C.rows s.nums
def Cse.mark(C:Cse)(s:Sta):D:=Bc C.mn (C.run s)
section
theorem Cse.Ok.pl(o:C.Ok)(k:SOk C s):PlOk (C.cf s) C.names C.rows s.nums:=
 ⟨⟨o.m2,o.m1,k.rp,by show s.pieces.length<=1000;rw[k.lp];have:=o.few;lia,o.most⟩,k.ln.symm,o.nd,o.l0,by have:=o.l1;lia,k.rn,by show bc C.names C.w s.pieces.length C.rows;rw[k.lp];exact o.ok,o.h⟩
theorem SOk.pd(k:SOk C s):C.d=aT (C.cf s) C.names C.rows C.mn:=by unfold Cse.d aT Cse.cf;rw[k.lp]
theorem vm(C:Cse)(s:Sta):C.mark s=.non\/∃v,C.mark s=.int v:=by
 unfold Cse.mark Bc
 split
 .exact .inr ⟨_,rfl⟩
 .exact .inl rfl
theorem tJ(h:Q (C.mark s) M):frz (C.mark s) M Q:=by rcases vm C s with e|⟨v,e⟩<;>rw[e]at h ⊢<;>exact h
theorem rP{mk:Str}:∀{names:Xk},mk∈names->∃j,names.findIdx? (λy=>decide (y=mk))=ap j/\names[j]?=ap mk
 |[],h=>by simp at h
 |x::names,h=>by
  by_cases e:x=mk
  .subst e;exact⟨0,by simp[U5],rfl⟩
  .have p:mk∈names:=by
    rcases OQ.mp h with z|z
    .exact absurd z.symm e
    .exact z
   obtain⟨j,B,f⟩:=rP p;exact⟨j+1,by simp[U5,e,B],by simpa using f⟩
theorem fE:∀names:List Str,jw (names.map D.str)=ap names
 |[]=>rfl
 |x::names=>by rw[Oy,jw,fE names]
def zg(names:Xk)(r:Bool×Sx):D:=.tup [.lst (vN r.2.steps),eL names r]
theorem D3{b:BxQ EE λd M'=>wy d M' Q}(p:PlOk c names rows nums)(h:Q (zg names<|dj c names rows nums) M):
  calls (ua ad) EE [aT c names rows mk,bC nums c.pieces,.int (c.most:Nat)] M (λd M'=>wy d M' Q) b:=by
 refine aq λQ' E' B _=>BU p λl f=>B _ _ ?_;unfold zg eL at h;unfold eL;cases e:(dj c names rows nums).1 with
 |true=>
  rw[e,if_pos rfl]at h;rw[if_pos rfl];simp![Mem.upd_del,aD f];exact h
 |false=>
  rw[e,if_neg (by simp)]at h
  rw[if_neg (by simp)]
  simp![Mem.upd_del,aD f];exact h
theorem zd(p:PlOk c names rows nums)(G:mk∈names)(h:Q (Bc mk<|dj c names rows nums) M):oN ad [aT c names rows mk,bC nums c.pieces,.int (c.most:Nat)] M Q E:=by
 have l1:=p.l1;obtain⟨j,B,F⟩:=rP G;simp![MP,xb];refine D3 p ?_;simp![zg,atI_1];unfold Bc at h;unfold eL;cases e:(dj c names rows nums).1 with
 |true=>
  rw[e,if_pos rfl]at h;rw[if_pos rfl];simp![aT,atI_1,atI_4,fE,B];refine⟨l1,?_⟩;have f:atI (names.map λx=>D.int (nm (dj c names rows nums).2.nums x)) (j:Nat)=ap (.int<|nm (dj c names rows nums).2.nums mk):=by
   rw[bo (by lia),OL,OO,F];rfl
  simp![f];exact ak h
 |false=>
  rw[e,if_neg (by simp)]at h
  rw[if_neg (by simp)]
  simp![];exact ak h
theorem oo{b:BxQ EE Q}(o:C.Ok)(k:SOk C s)(h:Q (C.mark s) M):calls (oN ad) EE [C.d,s.d,.int (C.most:Nat)] M Q b:=by
 refine aO (d:=C.mark s) (λQ' E' q=>?_) h;rw[k.pd];exact zd (o.pl k) o.mn q
def bF(C:Cse)(s t:Sta):D:=.tup [C.d,s.d,t.d,.int (C.most:Nat)]
theorem LC{C:Cse}{s t:Sta}:bF C s t=.tup [C.d,s.d,t.d,.int (C.most:Nat)]:=rfl
theorem AS{C:Cse}:C.d=.tup [.int C.w,.tup (C.names.map D.str),.int (C.many:Nat),.tup (aw C.rows),.str C.mn]:=rfl
def cW(C:Cse):List aG:=C.names.map OX++(Pm C.many).map λ(i:Nat)=>Qg (i:Int)
def aM(C:Cse)(s:Sta):aG->Int
 |.inl i=>(s.pieces[i.toNat]?).getD 0
 |.inr x=>nm (C.names.zip s.nums) x
theorem wu:∀{names:Xk}{nums:Xj}{j:Nat}{x:Str},names.Nodup->names.length=nums.length->names[j]?=ap x->nums[j]?=ap (nm (names.zip nums) x)
 |[],_,j,x,_,_,h=>by simp at h
 |y::names,[],j,x,_,h,_=>by simp at h
 |y::names,v::nums,0,x,nd,hl,h=>by
  simp at h;subst h;simp[nm,gN]
 |y::names,v::nums,j+1,x,nd,hl,h=>by
  simp only[Ov]at h ⊢;have f:=QC.mp nd;have p:¬y=x:=λe=>f.1 (e▸Rq h);rw[wu f.2 (by simpa using hl) h]
  simp[nm,gN,p]
theorem dX{k:aG}(h:k∈cW C):(∃x,x∈C.names/\k=.inr x)\/∃i:Nat,i<C.many/\k=.inl (i:Int):=by
 rcases Ph.mp h with q|q
 .obtain⟨x,f,rfl⟩:=Pf.mp q
  exact .inl ⟨x,f,rfl⟩
 .obtain⟨i,e,rfl⟩:=Pf.mp q
  exact .inr ⟨i,P7.mp e,rfl⟩
theorem cq(o:C.Ok)(k:SOk C s){t:aG}(f:t∈cW C):0<=aM C s t/\aM C s t<C.w:=by
 rcases dX f with⟨x,e,rfl⟩|⟨i,hi,rfl⟩
 .exact((o.pl k).nok.at e).2
 .exact((o.pl k).co.piece (i:=(i:Int).toNat)<|by show _<s.pieces.length;rw[k.lp];lia).2
theorem dP(o:C.Ok)(k:SOk C s){t:aG}(F:t∈cW C)(h:Q (.int<|aM C s t) M):jX ad [C.d,s.d,kD t] M Q E:=by
 have l1:=o.l1;rcases dX F with⟨x,B,rfl⟩|⟨i,hi,rfl⟩
 .obtain⟨j,f,p⟩:=rP B
  have e:atI (s.nums.map D.int) (j:Nat)=ap (.int<|nm (C.names.zip s.nums) x):=by
   rw[bo (by lia),OL,OO,wu o.nd k.ln.symm p];rfl
  simp![GT,tB,kD,Cse.d,Sta.d,bC,jA,zr,atI_0,atI_1,fE,f,RY,SY,QY,Qo,Sh];refine⟨by lia,?_⟩
  simp![e];exact ak h
 .have e:atI (s.pieces.map D.int) (i:Nat)=ap (.int<|(s.pieces[(i:Int).toNat]?).getD 0):=by
   rw[bo (by lia),OL,OO,Oz (by rw[k.lp];exact hi)];rfl
  simp![GT,tB,kD,Cse.d,Sta.d,bC,jA,zr,atI_0,atI_1,e,RY,SY,QY,Qo,Sh,TN,Ra];exact ak h
end
def lM(k:Wk)(c:Cf)(s:Sx)(M:Mem):Mem:=
 ((M.upd k.a<|.lst [.ref k.dn,.tup (c.pieces.map D.int),.ref k.ls,.int (c.most:Nat),.int c.m]).upd k.dn<|.dK<|dE s.nums).upd k.ls (.lst<|vN s.steps)
section
variable{k:Wk}{s:Sx}
theorem nD:lM k c s M k.a=ap (.lst [.ref k.dn,.tup (c.pieces.map D.int),.ref k.ls,.int (c.most:Nat),.int c.m]):=by
 unfold lM;rw[ae k.h2,ae k.h1,Mem.upd_same]
theorem mJ:lM k c s M k.dn=ap (.dK<|dE s.nums):=by unfold lM;rw[ae k.h3,Mem.upd_same]
theorem HG:lM k c s M k.ls=ap (.lst<|vN s.steps):=by unfold lM;rw[Mem.upd_same]
theorem B1{x:List (List Int×Int)}:(lM k c s M).upd k.ls (.lst<|vN x)=lM k c ⟨s.nums,x⟩ M:=by unfold lM;rw[Mem.upd_upd]
theorem FI{x:cA}:(lM k c s M).upd k.dn (.dK<|dE x)=lM k c ⟨x,s.steps⟩ M:=by
 unfold lM;rw[aC (Pa k.h3),Mem.upd_upd]
theorem qA{pl:Xj}(f:c.most<=10000)(e:s.steps.length<=c.most)(h:Q (.bl (nt c pl v s).1) (lM k c (nt c pl v s).2 M)):
  uk ad [.ref k.a,gO pl,.int v] (lM k c s M) Q E:=by
 unfold nt at h;simp![u_q9,EQ,nD,HG,atI_2,atI_3,vN,Ox]
 by_cases q:s.steps.length<c.most
 .rw[if_pos q]at h
  rw[if_neg (by lia)]
  refine⟨bf (by decide),jx (by lia),ak ?_⟩
  rw[<- B1]at h;simpa [vN] using h
 .rw[if_neg q]at h
  rw[if_pos (by lia)]
  exact ak h
theorem rV{b:BxQ EE Q}{pl:Xj}(p:c.most<=10000)(e:s.steps.length<=c.most)(h:Q (.bl (nt c pl v s).1) (lM k c (nt c pl v s).2 M)):
  calls (uk ad) EE [.ref k.a,gO pl,.int v] (lM k c s M) Q b:=
 aq λ_ _ f _=>qA p e (f _ _ h)
theorem tX(p:COk c){i:Int}(f:0<=i)(h:i<c.pieces.length):atI (c.pieces.map D.int) i=ap (.int<|(c.pieces[i.toNat]?).getD 0):=by
 have e:i.toNat<c.pieces.length:=by lia
 rw[bo f,OO,Oz e];rfl
theorem qd{r:Rw}(p:COk c)(B:NOk names c.m s.nums)(f:cz names c.m c.pieces.length r)(h:Q (.int<|num c s.nums r) (lM k c s M)):
  uq ad [.ref k.a,r.d] (lM k c s M) Q E:=by
 have m2:=p.m2;have m1:=p.m1;cases r with
 |put x kk=>
  simp![xo,nF,Rw.d,↓vQ,nD,mJ,atI_0,atI_2,atI_3,SX];exact ak h
 |take x i=>
  simp![xo,nF,Rw.d,↓vQ,nD,mJ,atI_0,atI_2,atI_3,SX,tX p f.2.1 f.2.2];exact ak h
 |pick x y=>
  have F:=(B.at f.2.1).1;have O:=f.2.2;have X:=PK (nm s.nums y) (show (c.pieces.length:Int)≠0 by lia)
  have R:=PY (nm s.nums y) O;simp![xo,nF,Rw.d,↓vQ,nD,mJ,atI_0,atI_2,atI_3,SX,b_,F,PQ,Ox,tX p X R];exact⟨O,ak h⟩
 |two w x y z=>
  obtain⟨W,hx,I,Z⟩:=f;have F:=(B.at I).1;have Y:=(B.at Z).1;have ry:=(B.at I).2;have S:CMul (nm s.nums y) (nm s.nums z):=.inl ⟨by lia,by lia⟩
  have G:(w="put")=False/\(w="take")=False/\(w="pick")=False:=by
   rcases W with rfl|rfl|rfl|rfl
   .exact⟨(eq_false<|by decide +kernel),(eq_false<|by decide +kernel),(eq_false<|by decide +kernel)⟩
   .exact⟨(eq_false<|by decide +kernel),(eq_false<|by decide +kernel),(eq_false<|by decide +kernel)⟩
   .exact⟨(eq_false<|by decide +kernel),(eq_false<|by decide +kernel),(eq_false<|by decide +kernel)⟩
   .exact⟨(eq_false<|by decide +kernel),(eq_false<|by decide +kernel),(eq_false<|by decide +kernel)⟩
  simp![xo,nF,Rw.d,↓vQ,nD,mJ,atI_0,atI_2,atI_3,b_,F,Y,PQ,G.1,G.2.1,G.2.2];have e:Q (.int<|yJ w (nm s.nums y) (nm s.nums z) c.m) (lM k c s M):=h;unfold yJ at e
  by_cases H:w="sum"
  .rw[if_pos H]at e ⊢;exact⟨by lia,ak e⟩
  .rw[if_neg H]at e ⊢
   by_cases P:w="by"
   .rw[if_pos P]at e ⊢;exact⟨S,by lia,ak e⟩
   .rw[if_neg P]at e ⊢
    by_cases J:w="less"
    .rw[if_pos J]at e ⊢
     split<;>rename_i q
     .rw[if_pos q]at e;exact ak e
     .rw[if_neg q]at e;exact ak e
    .rw[if_neg J]at e ⊢
     split<;>rename_i q
     .rw[if_pos q]at e;exact ak e
     .rw[if_neg q]at e;exact ak e
 |ifr=>exact f.elim
 |again=>exact f.elim
theorem pY{b:BxQ EE Q}{r:Rw}{d:D}(e:d=r.d)(p:COk c)(F:NOk names c.m s.nums)(B:cz names c.m c.pieces.length r)(h:Q (.int<|num c s.nums r) (lM k c s M)):
  calls (uq ad) EE [.ref k.a,d] (lM k c s M) Q b:=
 e▸aq λ_ _ f _=>qd p F B (f _ _ h)
end
section
variable{k:Wk}
def mC(ad:Ad)(k:Wk)(c:Cf)(names:Xk)(n:Nat):Prop:=∀(rs:List Rw)(pl:Xj)(s:Sx)(M:Mem)(Q:DK)(E:DX),bc names c.m c.pieces.length rs->2*cU rs+1<=n->pl.length+2*cU rs+2<=1000->NOk names c.m s.nums->s.steps.length<=c.most->
 Q (.bl (bP c rs pl 0 s).1) (lM k c (bP c rs pl 0 s).2 M)->U6 ad n [.ref k.a,.tup (aw rs),gO pl] (lM k c s M) Q E
def J3(ad:Ad)(k:Wk)(c:Cf)(names:Xk)(n:Nat):Prop:=∀(x:Str)(a:List Rw)(pl:Xj)(s:Sx)(M:Mem)(Q:DK)(E:DX),cy names c.m c.pieces.length (.again x a)->2*hR (.again x a)<=n->pl.length+2*hR (.again x a)+1<=1000->NOk names c.m s.nums->s.steps.length<=c.most->
 Q (.bl (gy c (.again x a) pl s).1) (lM k c (gy c (.again x a) pl s).2 M)->U7 ad n [.ref k.a,(Rw.again x a).d,gO pl] (lM k c s M) Q E
theorem Gf{r:Rw}{pl:Xj}{s:Sx}:ie c r pl s=if (nt c pl (num c s.nums r) s).1=true then (true,⟨sN s.nums (eD r) (num c s.nums r),(nt c pl (num c s.nums r) s).2.steps⟩) else nt c pl (num c s.nums r) s:=by
 unfold ie nt
 by_cases q:s.steps.length<c.most
 .simp[q]
 .simp[q]
theorem KD{s:Sx}{r:Rw}(f:NOk names c.m s.nums)(e:cz names c.m c.pieces.length r):eD r∈s.nums.map (·.1):=by
 rw[f.keys];cases r with
 |put x k=>exact e.1
 |take x k=>exact e.1
 |pick x k=>exact e.1
 |two w x y z=>exact e.2.1
 |ifr=>exact e.elim
 |again=>exact e.elim
theorem vi{tp f:bp}{pl:Xj}{s:Sx}{K:Bool->Mem->Prop}(h:COk c)(e:s.steps.length<=c.most)(B:U[0]?=ap (ap<|.ref k.a))(F:∀N K,K (gO pl) N->tp U N K)(p:∀N K,K (.int v) N->f U N K)(q:K (!(nt c pl v s).1) (lM k c (nt c pl v s).2 M)):i9 (dm<|ao<|aj (uk ad) EE 3<|aa (ac 0)<|aa tp<|aa f af) U (lM k c s M) K:=by
 simp only[i9,dm,ao,aj,aa,af,ac,B];exact F _ _ (p _ _ ⟨rfl,rV h.most e q⟩)
theorem BS{rest:List D}{w:D}{s:Sx}(p:gN s.nums x=ap (nm s.nums x))(f:U[0]?=ap (ap<|.ref k.a))(h:U[i]?=ap (ap<|.tup (w::.str x::rest)))(q:K (.int<|lk s.nums x) (lM k c s M)):
  o9 (am<|ah bZ (ah au (ah au (ac 0)<|dC<|.int 0)<|ah au (ac i)<|dC<|.int 1)<|dC<|.int 0) (dC<|.int 0) (dC<|.int 1) U (lM k c s M) K:=by
 simp![f,h,nD,mJ,atI_0,atI_1,b_,p,PQ];unfold lk at q
 split
 .rename_i e;rw[if_pos e]at q;exact q
 .rename_i e;rw[if_neg e]at q;exact q
theorem rl{pl:Xj}(p:pl.length<=1000)(f:U[i]?=ap (ap<|gO pl))(h:U[j]?=ap (ap<|.int v))(q:K (gO (pl++[v])) M):ah aW (ac i) (aK<|aa (ac j) af) U M K:=by
 simp only[ah,ac,aK,aa,af,f,h,gO,aW,Ox,OE,Pn];refine⟨bf (by decide),bf (by lia),?_⟩
 have e:pl.map D.int++[.int v]=(pl++[v]).map D.int:=by simp
 rw[e];exact q
theorem BL{s:Sx}{K:Bool->Mem->Prop}{pl:Xj}{p tp:bp}(F:mC ad k c names n)(I:U[0]?=ap (ap<|.ref k.a))(H:∀N K,K (.tup<|aw rs) N->p U N K)(J:∀N K,K (gO pl) N->tp U N K)(ok:bc names c.m c.pieces.length rs)(G:2*cU rs+1<=n)(e:pl.length+2*cU rs+2<=1000)(f:NOk names c.m s.nums)(h:s.steps.length<=c.most)(q:K (!(bP c rs pl 0 s).1) (lM k c (bP c rs pl 0 s).2 M)):
  i9 (dm<|ao<|aj (U6 ad n) EE 3<|aa (ac 0)<|aa p<|aa tp af) U (lM k c s M) K:=by
 simp only[i9,dm,ao,aj,aa,af,ac,I];refine H _ _ (J _ _ ⟨rfl,aq λQ' E' B _=>F rs pl _ M Q' E' ok G e f h (B _ _ q)⟩)
theorem oZ{r:Rw}(h:cz names m many r):∃w rest,r.d=.tup (.str w::.str (eD r)::rest)/\(w="again")=False/\(w="if")=False:=by
 cases r with
 |put x k=>exact⟨_,_,rfl,(eq_false<|by decide +kernel),(eq_false<|by decide +kernel)⟩
 |take x k=>exact⟨_,_,rfl,(eq_false<|by decide +kernel),(eq_false<|by decide +kernel)⟩
 |pick x k=>exact⟨_,_,rfl,(eq_false<|by decide +kernel),(eq_false<|by decide +kernel)⟩
 |two w x y z=>
  refine⟨_,_,rfl,?_⟩;rcases h.1 with rfl|rfl|rfl|rfl
  .exact⟨(eq_false<|by decide +kernel),(eq_false<|by decide +kernel)⟩
  .exact⟨(eq_false<|by decide +kernel),(eq_false<|by decide +kernel)⟩
  .exact⟨(eq_false<|by decide +kernel),(eq_false<|by decide +kernel)⟩
  .exact⟨(eq_false<|by decide +kernel),(eq_false<|by decide +kernel)⟩
 |ifr=>exact h.elim
 |again=>exact h.elim
theorem Gd{r:Rw}(h:cy names m many r)(e:bi r=true):cz names m many r:=by
 cases r<;>first|(simp only[cy]at h;exact h)|cases e
theorem t7{n:cA}:lk n x=0\/lk n x=1:=by unfold lk;split<;>simp
theorem jW{EE:DX}{S0:Sd}{n:Nat}{x:Str}{a:List Rw}{pl:Xj}{M:Mem}{Q:DK}{D':DEnds}{ok:Mem->Prop}{bx:BxF (ag 3) (j6 ad S0 (U6 ad n) EE) D' ok}(J:COk c)(W:mC ad k c names n)(X:x∈names)(G:bc names c.m c.pieces.length a)(Y:2*cU a+1<=n)(P:pl.length+2*cU a+3<=1000)
  (O:∀M,ok M) (e:D'.rt=_3.drp Q) (H:∀U M',_3.drp Q (.bl eC) M'->D'.nx U M'):∀(f t:Nat)(s:Sx)(S R:Option D),NOk names c.m s.nums->s.steps.length<=c.most->
  Q (.bl (eU c x pl (λt s=>bP c a (pl++[(t:Int)]) 0 s) f t s).1) (lM k c (eU c x pl (λt s=>bP c a (pl++[(t:Int)]) 0 s) f t s).2 M)->
  gU (ag 3) (j6 ad S0 (U6 ad n) EE) D' ok bx ((Ro t f).map λ(i:Nat)=>D.int (i:Int)) [ap (.ref k.a),ap (.tup [.str "again",.str x,.tup (aw a)]),ap (gO pl),S,R] (lM k c s M)
 |0,t,s,S,R,hno,hst,h=>⟨O _,H _ _<|ak h⟩
 |f+1,t,s,S,R,hno,hst,h=>by
  rw[QO,Oy];refine⟨O _,?_⟩;unfold eU at h;have B:=(nt_gr (c:=c) (pl:=pl++[(t:Int)]) (v:=lk s.nums x) (s:=s)).2 hst;have p:NOk names c.m (nt c (pl++[(t:Int)]) (lk s.nums x) s).2.nums:=by rw[fc];exact hno
  simp only[ag,OM];unfold j6 ai ar;refine BS (hno.at X).1 rfl rfl ?_;simp only[ag,OM];unfold qQ ai aH;refine vi J hst rfl (λN K q=>rl (by lia) rfl rfl q) (λN K q=>q) ?_
  cases I:(nt c (pl++[(t:Int)]) (lk s.nums x) s).1 with
  |false=>
   rw[if_neg (by rw[I];simp),I]at h
   simp only[Qt,if_true,az,dC,e];exact ak h
  |true=>
   rw[if_pos I]at h;simp only[P1,ON,if_false,aF];unfold qp ai aH;have Z:∀K:Bool->Mem->Prop,K (decide (lk s.nums x=0)) (lM k c (nt c (pl++[(t:Int)]) (lk s.nums x) s).2 M)->am (ah bZ (ac 4)<|dC<|.int 0) [ap (.ref k.a),ap (.tup [.str "again",.str x,.tup (aw a)]),ap (gO pl),ap (.int (t:Int)),ap (.int<|lk s.nums x)] (lM k c (nt c (pl++[(t:Int)]) (lk s.nums x) s).2 M) K:=λK q=>by
    simp only[am,ah,ac,dC,dt,Ov,bZ,dv,bj,aP];exact⟨trivial,trivial,q⟩
   refine Z _ ?_;rcases t7 (n:=s.nums) (x:=x) with hl|hl
   .rw[hl,if_neg (by decide),<- hl,I]at h
    simp only[hl,decide_true,if_true,az,dC,e];rw[<- hl];exact ak h
   .rw[hl,if_pos rfl,<- hl]at h
    have n1:decide (lk s.nums x=0)=false:=by rw[hl];rfl
    simp only[n1,ON,if_false,aF];unfold rf aH;refine BL (pl:=pl++[(t:Int)]) W rfl (λN K q=>?_) (λN K q=>rl (by lia) rfl rfl q) G Y (by simp;lia) p B ?_
    .simp only[ah,ac,dC,dt,Ov,au,aJ,atI_2]
     exact q
    cases F:(bP c a (pl++[(t:Int)]) 0 (nt c (pl++[(t:Int)]) (lk s.nums x) s).2).1 with
    |false=>
     rw[if_neg (by rw[F];simp),F]at h
     simp only[Qt,if_true,az,dC,e];exact ak h
    |true=>
     rw[if_pos F]at h;simp only[P1,ON,if_false,aF];exact jW J W X G Y P O e H f (t+1) _ _ _ (dq J a G _ _ _ p) ((fh (c:=c) a (pl++[(t:Int)]) 0 _).2 B) h
theorem uc(G:COk c)(J:mC ad k c names n):J3 ad k c names (n+1):=by
 intro x a pl s M Q E f I p B F h;simp only[cy]at f;simp only[hR]at I p;have H:=G.most;rw[N_];unfold xz;simp only[Rw.d,ai,cH,fG,aa,af,ah,ac,dC,dt,Ov,au,aJ,nD,atI_3,aW];refine⟨by lia,by lia,?_⟩
 unfold gy at h;have e:dW 0 (((c.most:Nat):Int)+1).toNat=(Ro 0 (c.most+1)).map λ(i:Nat)=>D.int (i:Int):=by
  unfold dW;rw[Rn];exact PN λi _=>by rw[S7]
 rw[e];exact jW G J f.1 f.2 (by lia) (by lia) (λ_=>aS) rfl (λ_ _ z=>z) (c.most+1) 0 s cm cm B F h
theorem nX{e:Str}{rest:List D}{K:Bool->Mem->Prop}(f:U[4]?=ap (ap<|.tup (.str w::rest)))(q:K (decide (w=e)) M):am (ah bZ (ah au (ac 4)<|dC<|.int 0)<|dC<|.str e) U M K:=by
 simp only[am,ah,ac,dC,f,au,aJ,atI_0,dt,bZ,dv,bj,aP];exact⟨trivial,trivial,q⟩
def RGo(D':DEnds)(k:Wk)(c:Cf)(M:Mem)(d1 d2:Option D)(r:Bool×Sx):Prop:=(r.1=true->∀c3 c4 c5 c6 c7 c8,D'.nx [ap (.ref k.a),d1,d2,c3,c4,c5,c6,c7,c8] (lM k c r.2 M))/\(r.1=eC->D'.rt (.bl eC) (lM k c r.2 M))
section
variable{S0 S1:Sd}{d1 d2 d3 d6 d7 d8:Option D}{pl:Xj}{s:Sx}
theorem C9{r:Rw}(H:COk c)(e:NOk names c.m s.nums)(G:s.steps.length<=c.most)(O:names.length<=1000)(F:cz names c.m c.pieces.length r)(g:RGo D' k c M d1 d2 (ie c r pl s)):ms ad S0 S1 EE D' [ap (.ref k.a),d1,d2,d3,ap r.d,ap (gO pl),d6,d7,d8] (lM k c s M):=by
 obtain⟨w,rest,J,_,_⟩:=oZ F;rw[Gf]at g;unfold ms;generalize B:lh ad S0 S1 EE=K6;simp only[ai,ar,ao,aj,aa,af,ac,dt,Ov];refine⟨rfl,pY rfl H e F ?_⟩;show ag 8 (.int _) _ _ _;simp only[ag,OM];rw[<- B];unfold lh ai aH;refine vi H G rfl (λ_ _ q=>q) (λ_ _ q=>q) ?_;cases p:(nt c pl (num c s.nums r) s).1 with
 |false=>
  rw[if_neg (by rw[p];simp)]at g
  simp only[Qt,if_true,az,dC];exact g.2 p
 |true=>
  rw[if_pos p]at g;simp only[P1,ON,if_false,aF];have h:(dE s.nums).length<sizeLine:=by rw[dE,Ox,<- Ox (f:=(·.1)),e.keys];exact jx (by lia)
  have I:=FI (k:=k) (c:=c) (s:=(nt c pl (num c s.nums r) s).2) (M:=M) (x:=sN s.nums (eD r) (num c s.nums r));rw[J];unfold pZ;simp![nD,mJ,atI_0,atI_1,fc];refine⟨h,?_⟩;rw[lT (v:=num c s.nums r) (KD e F),I];exact g.1 rfl _ _ _ _ _ _
theorem EL{a b:List Rw}(R:COk c)(f:NOk names c.m s.nums)(h:s.steps.length<=c.most)(S:mC ad k c names n)(ok:cy names c.m c.pieces.length (.ifr x a b))(B:2*cU a+1<=n/\2*cU b+1<=n/\pl.length+2*cU a+3<=1000/\pl.length+2*cU b+3<=1000)(g:RGo D' k c M d1 d2 (gy c (.ifr x a b) pl s)):
  kz ad S0 (U6 ad n) EE D' [ap (.ref k.a),d1,d2,d3,ap (.tup [.str "if",.str x,.tup (aw a),.tup (aw b)]),ap (gO pl),d6,d7,d8] (lM k c s M):=by
 simp only[cy]at ok;unfold kz ai ar;refine BS (f.at ok.1).1 rfl rfl ?_;obtain⟨rs,G,J,I,P,W⟩:∃rs,atI [D.tup (aw b),.tup (aw a)] (lk s.nums x)=ap (.tup<|aw rs)/\(gy c (.ifr x a b) pl s=if (nt c pl (lk s.nums x) s).1=true then bP c rs (pl++[lk s.nums x]) 0 (nt c pl (lk s.nums x) s).2 else nt c pl (lk s.nums x) s)/\bc names c.m c.pieces.length rs/\2*cU rs+1<=n/\pl.length+2*cU rs+3<=1000:=by
  unfold gy;rcases t7 (n:=s.nums) (x:=x) with hl|hl<;>rw[hl]
  .exact⟨b,rfl,rfl,ok.2.2,B.2.1,B.2.2.2⟩
  .exact⟨a,rfl,rfl,ok.2.1,B.1,B.2.2.1⟩
 rw[J]at g;unfold qo;generalize H:lV ad S0 (U6 ad n) EE=K2;simp only[ag,OM,ai,ar,ah,ao,bQ,aa,af,ac,dC,dt,Ov,au,aJ,atI_2,atI_3];refine⟨bf (by simp),λp O=>?_⟩
 simp only[frz,Mem.upd_same,Mem.upd_del,aD O,aJ,G];rw[<- H];unfold lV aH Ak;refine vi R h rfl (λ_ _ q=>q) (λ_ _ q=>q) ?_;cases F:(nt c pl (lk s.nums x) s).1 with
 |false=>
  rw[if_neg (by rw[F];simp)]at g
  simp only[Qt,if_true,az,dC];exact g.2 F
 |true=>
  rw[if_pos F]at g;simp only[P1,ON,if_false];refine BL (pl:=pl++[lk s.nums x]) S rfl (λN K q=>q) (λN K q=>rl (by lia) rfl rfl q) I P (by simp;lia) (by rw[fc];exact f) ((nt_gr (c:=c)).2 h) ?_
  cases e:(bP c rs (pl++[lk s.nums x]) 0 (nt c pl (lk s.nums x) s).2).1 with
  |false=>
   simp only[Qt,if_true,az,dC];exact g.2 e
  |true=>
   simp only[P1,ON,if_false,aF];exact g.1 e _ _ _ _ _ _
end
theorem zC(hnl:names.length<=1000)(hc:COk c)(ihd:mC ad k c names n)(ihr:J3 ad k c names n):mC ad k c names (n+1):=by
 intro rs pl s M Q E f hn I p B h;rw[NQ];unfold yF;generalize hK:iN ad (U7 ad n) (U6 ad n) (aA E)=KK;simp only[ai,cH,k7,aa,af,ac,dt,Ov,aJ,bE,iq]
 refine cc (λxs U M'=>∃(e:List Rw)(j:Nat)(G:Sx)(Y X W J O P:Option D),xs=d_ j (aw e)/\U=[ap (.ref k.a),ap (.tup<|aw rs),ap (gO pl),Y,X,W,J,O,P]/\M'=lM k c G M/\bc names c.m c.pieces.length e/\2*cU e+1<=n+1/\pl.length+2*cU e+2<=1000/\NOk names c.m G.nums/\G.steps.length<=c.most/\
  Q (.bl (bP c e pl j G).1) (lM k c (bP c e pl j G).2 M)) (λ_ _ _ _=>aS) ?_ ?_ _ _ _ ⟨rs,0,s,cm,cm,cm,cm,cm,cm,rfl,rfl,rfl,f,hn,I,p,B,h⟩
 .rintro U M' ⟨e,j,G,Y,X,W,J,O,P,Z,rfl,rfl,f,hn,I,p,B,h⟩
  cases e with
  |nil=>
   simp only[bP]at h;simp only[az,dC];exact ak h
  |cons r rs=>simp[aw,d_]at Z
 .rintro x xs U M' ⟨e,j,G,Y,X,W,J,O,P,Z,rfl,rfl,f,hn,I,p,B,h⟩ D' R _ hrt _
  cases e with
  |nil=>simp[aw,d_]at Z
  |cons r e=>
   simp only[aw,d_,Qf]at Z;obtain⟨rfl,rfl⟩:=Z;simp only[bc]at f;have h1:hR r<=cU (r::e)/\cU e<=cU (r::e):=by simp only[cU];lia
   simp only[bP]at h;have g:RGo D' k c M (ap<|.tup<|aw rs) (ap<|gO pl) (gy c r (pl++[(j:Int)]) G):=⟨λH Y X W J O P=>by
    rw[if_pos H]at h;exact R _ _ ⟨e,j+1,_,Y,X,W,J,O,P,rfl,rfl,rfl,f.2,by lia,by lia,r9 hc r f.1 _ _ p,(rO r _ _).2 B,h⟩,λH=>by
    rw[if_neg (by rw[H];simp),H]at h
    rw[show D'.rt=_3.drp Q from hrt];exact ak h⟩
   clear R h;simp only[fH,b6,fm,ag,OM];refine⟨rfl,?_⟩;rw[<- hK];unfold iN ai ar;refine rl (by lia) rfl rfl ?_
   simp only[ag,OM];unfold pH aH
   by_cases F:bi r=true
   .have S:=Gd f.1 F
    rw[bV F]at g;have ds:=C9 (ad:=ad) (S0:=U7 ad n) (S1:=U6 ad n) (EE:=aA E) (d3:=ap (.int (j:Int))) (d6:=J) (d7:=O) (d8:=P) hc p B hnl S g;obtain⟨w,rest,er,hw1,hw2⟩:=oZ S;rw[er]at ds ⊢;have n1:decide (w=("again":Str))=false:=decide_eq_false λz=>by rw[hw1]at z;exact z
    have n2:decide (w=("if":Str))=false:=decide_eq_false λz=>by rw[hw2]at z;exact z
    refine nX rfl ?_;simp only[n1,ON,if_false];unfold lg aH;refine nX rfl ?_;simp only[n2,ON,if_false];exact ds
   cases r with
   |again x a=>
    simp only[Rw.d];refine nX rfl ?_;simp only[decide_true,if_true];unfold qM aH;simp only[i9,dm,ao,aj,aa,af,ac,dt,Ov];refine⟨rfl,aq λQ' E' hq _=>ihr x a (pl++[(j:Int)]) G M Q' E' f.1 (by lia) (by simp;lia) p B (hq _ _ ?_)⟩
    cases H:(gy c (.again x a) (pl++[(j:Int)]) G).1 with
    |true=>
     simp only[frz,Dw,P1,ON,if_false,aF];exact g.1 H _ _ _ _ _ _
    |false=>
     simp only[frz,Dw,Qt,if_true,az,dC];exact g.2 H
   |ifr x a b=>
    simp only[hR]at h1;simp only[Rw.d];have n1:decide (("if":Str)=("again":Str))=false:=by decide +kernel
    refine nX rfl ?_;simp only[n1,ON,if_false];unfold lg aH;refine nX rfl ?_;simp only[decide_true,if_true];exact EL hc p B ihd f.1 ⟨by lia,by lia,by simp;lia,by simp;lia⟩ g
   |_=>exact absurd rfl F
theorem uo(e:names.length<=1000)(f:COk c):∀n:Nat,mC ad k c names n/\J3 ad k c names n
 |0=>⟨λrs pl s M Q E _ h=>by lia,λx a pl s M Q E _ h=>by simp only[hR]at h;lia⟩
 |n+1=>by
  obtain⟨p,B⟩:=uo e f n;exact⟨zC e f p B,uc f p⟩
end
section
theorem Jy{k:Wk}{s:Sx}(h:M k.a=cm)(p:M k.dn=cm):∀b o,(M.upd k.ls<|.lst<|vN s.steps) b=ap o->lM k c s M b=ap o:=by
 intro b o e
 by_cases f:b=k.ls
 .subst f;rw[Mem.upd_same]at e;rw[HG];exact e
 .rw[ae f]at e
  unfold lM;rw[ae f,ae (Mem.ne e p),ae (Mem.ne e h)];exact e
theorem sC(p:PlOk c names rows nums)(h:∀l,M l=cm->Q (.tup [.ref l,eL names (dj c names rows nums)]) (M.upd l<|.lst<|vN (dj c names rows nums).2.steps)):
  mY ad [aT c names rows mk,bC nums c.pieces,.int (c.most:Nat)] M Q E:=by
 have hl1:=p.l1;simp![NT,wU,aT,bC,atI_0,atI_1,atI_3,eA,Ox];refine⟨p.ln,p.l0,p.l1,λdn Y=>?_⟩;simp![fV p.ln p.nd];refine⟨bf (by decide),λls e=>⟨bf (by decide),λa F=>⟨bf (by decide),?_⟩⟩⟩
 have W:dn≠ls:=by rintro rfl;rw[Mem.upd_same]at e;cases e
 have P:M ls=none:=by rw[ae (Pa W)]at e;exact e
 have n2:a≠ls:=by rintro rfl;rw[Mem.upd_same]at F;cases F
 have n1:a≠dn:=by rintro rfl;rw[ae W,Mem.upd_same]at F;cases F
 have X:M a=none:=by rw[ae n2,ae n1]at F;exact F
 obtain⟨k,O,H,J⟩:∃k:Wk,k.a=a/\k.dn=dn/\k.ls=ls:=⟨⟨a,dn,ls,n1,n2,W⟩,rfl,rfl,rfl⟩;have e0:((M.upd dn<|.dK<|dE<|names.zip nums).upd ls<|.lst []).upd a (.lst [.ref dn,.tup (c.pieces.map D.int),.ref ls,.int (c.most:Nat),.int c.m])=lM k c ⟨names.zip nums,[]⟩ M:=by
  unfold lM;rw[O,H,J,aC (Pa n2),aC (Pa n1)];rfl
 rw[e0];have hD:=(uo (ad:=ad) (k:=k) p.l1 p.co 24).1 rows [] ⟨names.zip nums,[]⟩ M;have hn:NOk names c.m (dj c names rows nums).2.nums:=dq p.co rows p.ok [] 0 ⟨names.zip nums,[]⟩ p.nok;have I:=h ls P;subst O H J;have f:=Jy (c:=c) (k:=k) (s:=(dj c names rows nums).2) X Y;refine aq λQ' E' Z _=>hD Q' E' p.ok (by have:=p.h;lia) (by have:=p.h;simp;lia) p.nok (Qc _) (Z _ _ ?_)
 have er:bP c rows [] 0 ⟨names.zip nums,[]⟩=dj c names rows nums:=rfl;rw[er];unfold eL at I;cases hb:(dj c names rows nums).1 with
 |false=>
  rw[hb,if_neg (by simp)]at I
  simp![nD,atI_2];exact⟨bf (by decide),⟨_,f,I⟩⟩
 |true=>
  rw[hb,if_pos rfl]at I;simp![nD,atI_1,atI_2,↓aX]
  refine cO (λxs Xe U M'=>∃n1 n2 S,names=n1++n2/\xs=n2.map D.str/\Xe=n1.map (λx=>D.int (nm (dj c names rows nums).2.nums x))/\U=[S,ap (.ref k.a)]/\M'=lM k c (dj c names rows nums).2 M)
   (λ_ _ _ _ _=>aS) ?_ ?_ ?_ _ _ _ _ ⟨[],names,cm,rfl,rfl,rfl,rfl,rfl⟩
  .rintro Xe U M' ⟨n1,n2,S,B,G,rfl,rfl,rfl⟩ q Z
   have:n2=[]:=by cases n2 with|nil=>rfl|cons _ _=>simp at G
   subst this;have en:n1=names:=by simpa using B.symm
   subst en;simp![Mem.upd_del,aD Z];exact⟨bf (by decide),⟨_,f,I⟩⟩
  .rintro x xs Xe U M' ⟨n1,n2,S,B,G,rfl,rfl,rfl⟩ N hN _
   cases n2 with
   |nil=>simp at G
   |cons y n2=>
    simp only[Oy,Qf]at G;obtain⟨rfl,rfl⟩:=G;have hy:=(hn.at (x:=y)<|by rw[B];simp).1
    have R:n1.length+n2.length+1=names.length:=by rw[B];simp;lia
    simp![nD,mJ,atI_0,b_,hy,PQ];exact hN _ _ _ (by rw[Ox];exact jx (by lia)) ⟨n1++[y],n2,_,by rw[B];simp,rfl,by simp,rfl,rfl⟩
  .rintro x xs Xe U M' ⟨n1,n2,S,B,G,rfl,rfl,rfl⟩
   have R:n1.length+n2.length=names.length:=by rw[B];simp
   rw[Ox];exact jx (by lia)
theorem um{b:BxQ EE λd M'=>wy d M' Q}(p:PlOk c names rows nums)(h:Q (zg names<|dj c names rows nums) M):
  calls (mY ad) EE [aT c names rows mk,bC nums c.pieces,.int (c.most:Nat)] M (λd M'=>wy d M' Q) b:=by
 refine aq λQ' E' B _=>sC p λl f=>B _ _ ?_;unfold zg eL at h;unfold eL;cases e:(dj c names rows nums).1 with
 |true=>
  rw[e,if_pos rfl]at h;rw[if_pos rfl];simp![Mem.upd_del,aD f];exact h
 |false=>
  rw[e,if_neg (by simp)]at h
  rw[if_neg (by simp)]
  simp![Mem.upd_del,aD f];exact h
end
theorem whT{e:fC}{f:aE}{p:BxW e f D'}(B:∀K:Bool->Mem->Prop,K true M->e U M K)(h:f { D' with nx:=bY e f D' p n,ct:=bY e f D' p n,bk:=D'.nx } U M):bY e f D' p (n+1) U M:=by
 unfold bY;refine B _ ?_;rw[if_pos rfl];exact h
theorem whF{e:fC}{f:aE}{B:BxW e f D'}(p:∀K:Bool->Mem->Prop,K eC M->e U M K)(h:D'.nx U M):bY e f D' B (n+1) U M:=by
 unfold bY;refine p _ ?_;rw[if_neg (by simp)]
 exact h
theorem cC{p:eg}{xs:List D}(e:M p=cm)(h:Q (.lst xs) M):frz (.ref p) (M.upd p<|.lst xs) Q:=by
 simp only[frz,Mem.upd_same,Mem.upd_del,aD e];exact h
section
variable{t:Sta}{ks:List aG}
def aB(C:Cse)(s t:Sta):List aG:=(cW C).filter λk=>decide (aM C s k≠aM C t k)
theorem tL(o:C.Ok)(h:∀p,M p=cm->Q (.ref p) (M.upd p<|.lst<|(cW C).map kD)):sK ad [C.d] M Q E:=by
 have l1:=o.l1;have few:=o.few;rw[NM (n:=0)];unfold yD Cse.d;simp![atI_1,atI_2];intro I f;simp only[Mem.upd_del,aD f];refine⟨⟨by lia,by lia⟩,λH F=>?_⟩
 simp only[Mem.upd_del,aD F];refine⟨bf (by simp[dW];lia),λG B=>ak ?_⟩
 have:=h G B;have e:(cW C).map kD=C.names.map D.str++dW 0 (Uz (C.many:Nat)):=by simp only[cW,dW,Q0,Qb,OL];congr 1;exact PN λi _=>by simp[kD]
 rw[e]at this;exact this
theorem AH(o:C.Ok)(H:SOk C s)(I:SOk C t)(h:∀p,M p=cm->Q (.ref p) (M.upd p<|.lst<|(aB C s t).map kD)):yP ad [C.d,s.d,t.d] M Q E:=by
 have l1:=o.l1;have few:=o.few;have J:(cW C).length=C.names.length+C.many:=by simp[cW]
 rw[Nx (n:=0)];unfold xa;simp only[az,aX,bH,ao,aj,aa,ac,af,Ov,dt];refine⟨rfl,aq λQ' E' G _=>tL o λp f=>G _ _ (cC f ?_)⟩;simp only[aJ,bE,bu,Oy,OZ,OS,OU,Ov,dt,PR];refine dk (λd=>match cL d with|some k=>decide (aM C s k≠aM C t k)|none=>eC) id aS (by simp;lia) (λx F K q=>?_) (λx F _ K q=>q) ?_
 .obtain⟨k,B,rfl⟩:=Pf.mp F
  simp only[am,ah,ao,aj,aa,ac,af,Ov,dt];refine⟨rfl,aO (λ_ _ q=>dP o H B q) ?_⟩;refine⟨rfl,aO (λ_ _ q=>dP o I B q) ?_⟩;show bj 60 (.int _)=true/\bj 60 (.int _)=true/\_;refine⟨rfl,rfl,?_⟩;have e:cL (kD k)=ap k:=by cases k<;>rfl
  simp only[e]at q;simpa [dv,aP] using q
 .intro p f
  have e:(((cW C).map kD).filter λd=>match cL d with|some k=>decide (aM C s k≠aM C t k)|none=>eC).map id=(aB C s t).map kD:=by
   rw[Qj,P9];congr 1;refine QI λk _=>?_;cases k<;>rfl
  rw[e];exact ak (h p f)
theorem nB(o:C.Ok)(p:SOk C s)(G:SOk C t)(B:C.mark s=.int a)(F:C.mark t=.int b)(e:a≠b)(h:Q (.tup [.int a,.int b]) M):uJ ad [bF C s t] M Q E:=by
 rw[LV (n:=0)];unfold y6 qN;generalize f:m4 ad (aA E)=K;simp![bF,atI_0,atI_1,atI_2,atI_3];refine oo o p (tJ ?_);rw[B];simp![];refine oo o G (tJ ?_);rw[F];simp![OM];rw[<- f];unfold m4 pT;simp![e,decide_false];exact⟨bf (by decide),ak h⟩
theorem kg{m:D}(e:m=.non\/∃v,m=.int v)(h:Q (.str (if aP m (.int a)=true then "sound" else if aP m (.int b)=true then "faulty" else "other")) M):wH ad [.tup [.int a,.int b],m] M Q E:=by
 rcases e with rfl|⟨v,rfl⟩
 .simp![Hj,uM,atI_0,atI_1]
  exact ak h
 .simp![Hj,uM,atI_0,atI_1]
  simp only[aP,decide_eq_true_eq]at h
  split
  .rename_i q;rw[if_pos q]at h;exact ak h
  .rename_i q;rw[if_neg q]at h
   split
   .rename_i q;rw[if_pos q]at h;exact ak h
   .rename_i q;rw[if_neg q]at h;exact ak h
end
section
variable{κ:Type}[DecidableEq κ]
theorem E_{f:List (κ×D)}{k j:κ}{v:D}:(cT (eK f k v) j).isSome=(decide (j=k)||(cT f j).isSome):=by
 unfold eK
 split
 .rename_i h
  induction f with
  |nil=>simp at h
  |cons p r ih=>
   obtain⟨F,O⟩:=p;simp only[Oy,cT,P2] at*
   by_cases e:F=k
   .subst e
    by_cases B:F=j
    .subst B;simp
    .have H:¬j=F:=λz=>B z.symm
     simp only[if_pos,B,decide_false,H,Qo]
     by_cases I:(r.any λG=>decide (G.1=F))=true
     .have:=ih I
      simp only[H,decide_false,Qo]at this;exact this
     .have:r.map (λG=>if G.1=F then (G.1,v) else G)=r:=by
       conv=>rhs;rw[<- Qj r]
       refine PN λq J=>?_;have:¬q.1=F:=λz=>I (List.any_eq_true.mpr ⟨q,J,by simp[z]⟩)
       simp[this]
      rw[this]
   .rw[if_neg e]
    by_cases B:F=j
    .subst B;simp
    .simp only[B,decide_false]
     exact ih (by simpa [e] using h)
 .rename_i h
  unfold cT;rw[List.find?_append];cases q:f.find? λG=>decide (G.1=j) with
  |some x=>simp
  |none=>
   by_cases e:j=k
   .subst e;simp
   .have B:¬k=j:=λz=>e z.symm
    simp[e,B]
theorem mR{f:List (κ×D)}{j:κ}:∀{a0:List (κ×D)},(cT (f.foldl (λa p=>eK a p.1 p.2) a0) j).isSome=(decide (j∈f.map (·.1))||(cT a0 j).isSome):=by
 induction f with
 |nil=>simp
 |cons p r ih=>
  intro a0;rw[PF,ih,E_,Oy]
  by_cases e:j=p.1
  .simp[e]
  .simp only[OQ,e,false_or,decide_false,Qo]
theorem xJ{f:List (κ×D)}:∀{a0:List (κ×D)},(a0.map (·.1)++f.map (·.1)).Nodup->f.foldl (λa p=>eK a p.1 p.2) a0=a0++f:=by
 induction f with
 |nil=>simp
 |cons p r ih=>
  intro a0 h;rw[PF];have e:eK a0 p.1 p.2=a0++[p]:=by
   unfold eK;rw[if_neg];intro z;obtain⟨q,B,e⟩:=List.any_eq_true.mp z;have e:=of_decide_eq_true e;rw[Oy]at h;exact(SV.mp h).2.2 q.1 (RF B) p.1 OR e
  rw[e,ih]
  .simp
  .simpa using h
end
def uD(u:List aG):List (aG×D):=u.map λk=>(k,D.bl true)
theorem m9:(uD u).map (·.1)=u:=by
 unfold uD;rw[Qb];exact Qj u
theorem mq{k:aG}:(cT (uD u) k).isSome=decide (k∈u):=by
 have:=@mR aG _ (uD u) k [];rw[m9]at this
 induction u with
 |nil=>rfl
 |cons a r ih=>
  unfold uD cT;rw[Oy,P2]
  by_cases e:a=k
  .subst e;simp
  .have f:¬k=a:=λz=>e z.symm
   simp only[e,decide_false,OQ,f,false_or];exact ih (@mR aG _ (uD r) k [] |>.trans (by rw[m9]))
theorem tI{k:aG}:oW (uD u) k=uD (u.filter λx=>decide (x≠k)):=by
 unfold oW uD;rw[P9];rfl
theorem jO:∀ks:List aG,ui (ks.map λk=>D.tup [kD k,.bl true])=ap (uD ks)
 |[]=>rfl
 |k::ks=>by
  have e:cL (kD k)=ap k:=by cases k<;>rfl
  simp only[Oy,ui,e,jO ks];rfl
section
variable{t:Sta}
theorem eS{k:aG}:cL (kD k)=ap k:=by cases k<;>rfl
theorem rQ{a:eg}{e:List (aG×D)}{k:aG}(h:M a=ap (.dK e)):qx M (kD k) (.ref a)=ap (cT e k).isSome:=by
 unfold qx;have:aJ M (.ref a)=none:=by simp only[aJ,h]
 rw[this];unfold pR;simp only[h,eS]
theorem qk{ks:List aG}(o:C.Ok)(S:ks.length<=1000)(h:∀p,M p=cm->Q (.ref p) (M.upd p<|.lst<|((cW C).filter λk=>decide (k∈ks)).map kD)):wL ad [C.d,mxD ks] M Q E:=by
 have l1:=o.l1;have few:=o.few;have Y:(cW C).length=C.names.length+C.many:=by simp[cW]
 rw[Mp (n:=0)];unfold xw;generalize O:kK ad (aA E)=K;unfold mxD;simp only[ai,ar,bz,aa,ao,aX,bH,ac,af,Ov,dt,aJ,bE,bu,Oy,OZ,OS,OU];refine gc (λd=>.tup [d,.bl true]) aS (by simp;lia) (λx F K q=>?_) ?_
 .simp only[aK,aa,ac,dC,af,Ov,dt]
  exact⟨bf (by simp),q⟩
 .intro p H
  refine cC H ?_;have e:(ks.map kD).map (λd=>D.tup [d,.bl true])=ks.map λk=>D.tup [kD k,.bl true]:=by simp
  rw[e];simp only[fS,Ct,gW,jO];refine⟨trivial,by simp[uD];lia,λR I=>?_⟩
  simp only[ag,OM];rw[<- O];unfold kK;simp only[az,aX,bH,ao,aj,aa,ac,af,Ov,dt];refine⟨rfl,aq λQ' E' J _=>tL o λW P=>J _ _ (cC P ?_)⟩;simp only[aJ,bE,bu,Oy,OZ,OS,OU,Ov,dt,PR];refine dk (λd=>match cL d with|some k=>decide (k∈ks)|none=>eC) id aS (by simp;lia) (λx F K q=>?_) (λx F _ K q=>q) ?_
  .obtain⟨k,S,rfl⟩:=Pf.mp F
   simp only[eS]at q;simp only[am,ah,ac,Ov,dt,C1,rQ (Mem.upd_same),mR,m9];simpa [cT] using q
  .intro B f
   have e:(((cW C).map kD).filter λd=>match cL d with|some k=>decide (k∈ks)|none=>eC).map id=((cW C).filter λk=>decide (k∈ks)).map kD:=by
    rw[Qj,P9];congr 1;refine QI λk _=>?_;simp only[Function.comp,eS]
   rw[e];have n1:B≠R:=λz=>by rw[z,Mem.upd_same]at f;cases f
   rw[ae n1]at f;refine⟨M.upd B (.lst<|((cW C).filter λk=>decide (k∈ks)).map kD),λb X e=>?_,h B f⟩
   by_cases G:b=B
   .subst G;rw[Mem.upd_same]at e ⊢;exact e
   .rw[ae G]at e ⊢
    rw[ae (λz=>by rw[z,I]at e;cases e)]
    exact e
def cY:Rw->List Str
 |.pick _ y=>[y]
 |.two _ _ y z=>[y,z]
 |.ifr x _ _=>[x]
 |.again x _=>[x]
 |_=>[]
theorem nI{r:Rw}(B:cy names m many r)(h:∀p,M p=cm->Q (.ref p) (M.upd p<|.lst<|(cY r).map D.str)):yS ad [r.d] M Q E:=by
 cases r with
 |put x k=>simp![pA,iO,Rw.d,atI_0];exact⟨bf (by decide),λp e=>ak (h p e)⟩
 |take x i=>simp![pA,iO,Rw.d,atI_0];exact⟨bf (by decide),λp e=>ak (h p e)⟩
 |pick x y=>simp![pA,iO,Rw.d,atI_0];exact λp e=>ak (h p e)
 |two w x y z=>
  obtain⟨f,_⟩:=B;rcases f with rfl|rfl|rfl|rfl<;>(simp![pA,iO,Rw.d,atI_0];exact λp e=>ak (h p e))
 |ifr x a b=>simp![pA,iO,Rw.d,atI_0,atI_1];exact⟨bf (by decide),λp e=>ak (h p e)⟩
 |again x a=>simp![pA,iO,Rw.d,atI_0,atI_1];exact⟨bf (by decide),λp e=>ak (h p e)⟩
end
structure Gk where
 a:eg
 dn:eg
 lp:eg
 du:eg
 h1:a≠dn
 h2:a≠lp
 h3:a≠du
 h4:dn≠lp
 h5:dn≠du
 h6:lp≠du
structure Gs where
 n:cA
 ps:List Int
 u:List aG
 td:List Rw
 left:Int
def nZ:List Rw->D
 |[]=>.non
 |r::rs=>.tup [r.d,nZ rs]
def gF(k:Gk)(td:D)(left:Int):List (Str×D):=[("numbers",.ref k.dn),("pieces",.ref k.lp),("unsettled",.ref k.du),("todo",td),("left",.int left)]
def gM(ad:Ad)(k:Gk)(g:Gs)(M:Mem):Mem:=(((M.upd k.a<|.ins ad.C_Going<|gF k (nZ g.td) g.left).upd k.dn<|.dK<|dE g.n).upd k.lp<|.lst<|g.ps.map D.int).upd k.du (.dK<|uD g.u)
section
variable{k:Gk}
theorem fP:gM ad k g M k.du=ap (.dK<|uD g.u):=by unfold gM;rw[Mem.upd_same]
theorem oF:gM ad k g M k.lp=ap (.lst<|g.ps.map D.int):=by unfold gM;rw[ae k.h6,Mem.upd_same]
theorem gw:gM ad k g M k.dn=ap (.dK<|dE g.n):=by unfold gM;rw[ae k.h5,ae k.h4,Mem.upd_same]
theorem cJ:gM ad k g M k.a=ap (.ins ad.C_Going<|gF k (nZ g.td) g.left):=by unfold gM;rw[ae k.h3,ae k.h2,ae k.h1,Mem.upd_same]
theorem ku{b:eg}(f:b≠k.a)(h:b≠k.dn)(e:b≠k.lp)(p:b≠k.du):gM ad k g M b=M b:=by
 unfold gM;rw[ae p,ae e,ae h,ae f]
structure Gk.Fr(k:Gk)(M:Mem):Prop where
 a:M k.a=cm
 dn:M k.dn=cm
 lp:M k.lp=cm
 du:M k.du=cm
theorem ca{b:eg}(h:gM ad k g M b=cm):b≠k.a/\b≠k.dn/\b≠k.lp/\b≠k.du/\M b=none:=by
 have f:b≠k.a:=λz=>by rw[z,cJ]at h;cases h
 have p:b≠k.dn:=λz=>by rw[z,gw]at h;cases h
 have B:b≠k.lp:=λz=>by rw[z,oF]at h;cases h
 have e:b≠k.du:=λz=>by rw[z,fP]at h;cases h
 rw[ku f p B e]at h;exact⟨f,p,B,e,h⟩
theorem dJ(f:k.Fr M){b:eg}(e:M b=ap o):gM ad k g M b=ap o:=by
 rw[ku (λz=>by rw[z,f.a]at e;cases e) (λz=>by rw[z,f.dn]at e;cases e) (λz=>by rw[z,f.lp]at e;cases e) (λz=>by rw[z,f.du]at e;cases e)]
 exact e
theorem rb(f:k.Fr M){b:eg}{h:MO}(e:M b=ap o):(gM ad k g M).upd b h=gM ad k g (M.upd b h):=by
 have n1:k.a≠b:=λz=>by rw[<- z,f.a]at e;cases e
 have n2:k.dn≠b:=λz=>by rw[<- z,f.dn]at e;cases e
 have B:k.lp≠b:=λz=>by rw[<- z,f.lp]at e;cases e
 have p:k.du≠b:=λz=>by rw[<- z,f.du]at e;cases e
 unfold gM;rw[aC p,aC B,aC n2,aC n1]
theorem wP:(gM ad k g M).upd k.a (.ins ad.C_Going<|gF k (nZ td) left)=gM ad k { g with td:=td,left:=left } M:=by
 unfold gM;rw[aC (Pa k.h3),aC (Pa k.h2),aC (Pa k.h1),Mem.upd_upd]
theorem GU{n:cA}:(gM ad k g M).upd k.dn (.dK<|dE n)=gM ad k { g with n:=n } M:=by
 unfold gM;rw[aC (Pa k.h5),aC (Pa k.h4),Mem.upd_upd]
theorem Nk:(gM ad k g M).upd k.lp (.lst<|ps.map D.int)=gM ad k { g with ps:=ps } M:=by
 unfold gM;rw[aC (Pa k.h6),Mem.upd_upd]
theorem Ig:(gM ad k g M).upd k.du (.dK<|uD u)=gM ad k { g with u:=u } M:=by
 unfold gM;rw[Mem.upd_upd]
end
section
variable{k:Gk}{td:D}
theorem Hb:Pd ("numbers":Str) (gF k td left)=ap (.ref k.dn):=rfl
theorem gf1:Pd ("pieces":Str) (gF k td left)=ap (.ref k.lp):=rfl
theorem Ia:Pd ("unsettled":Str) (gF k td left)=ap (.ref k.du):=rfl
theorem Lx:Pd ("todo":Str) (gF k td left)=ap td:=rfl
theorem gf4:Pd ("left":Str) (gF k td left)=ap (.int left):=rfl
theorem gfs:Pd ("settled":Str) (gF k td left)=none:=rfl
theorem Ir{d:D}:bG "todo" d (gF k td left)=gF k d left:=rfl
theorem gfp4:bG "left" (.int v) (gF k td left)=gF k td v:=rfl
theorem gfl:(gF k td left).length=5:=rfl
end
section
variable{t:Sta}
theorem eJ(h:Q (nZ (rs++td)) M):nv ad [.tup (aw rs),nZ td] M Q E:=by
 rw[MZ (n:=0)];unfold wI;simp only[ai,cH,Io,aa,ac,af,Ov,dt];refine cc (λF U N=>∃(c:Option D)(us p:List Rw),rs=us++p/\F=(aw us).reverse/\U=[ap (.tup<|aw rs),ap (nZ (p++td)),c]/\N=M) (λ_ _ _ _=>aS) ?_ ?_ _ _ _ ⟨cm,rs,[],by simp,rfl,rfl,rfl⟩
 .rintro U N ⟨c,us,p,B,f,rfl,rfl⟩
  have:us=[]:=by
   cases us with
   |nil=>rfl
   |cons a b=>rw[aw]at f;simp at f
  subst this;rw[OU]at B;subst B;simp only[az,ac,Ov,dt];exact ak h
 .rintro y F U N ⟨c,us,p,B,f,rfl,rfl⟩ D' G _ _ _
  obtain⟨e,r,rfl⟩:∃e r,us=e++[r]:=by
   rcases List.eq_nil_or_concat us with z|⟨e,r,z⟩
   .subst z;rw[aw]at f;simp at f
   .exact⟨e,r,by simpa using z⟩
  rw[gC,Q0,List.reverse_append]at f;simp only[Oy,OZ,List.reverse_cons,List.reverse_nil,OU,OS,Qf]at f;obtain⟨rfl,rfl⟩:=f;simp only[ag,OM];unfold qI;simp only[ar,aK,aa,ac,af,ag,OM,Ov,dt];exact⟨bf (by simp),G _ _ ⟨_,e,r::p,by simp[B],by rw[gC],rfl,rfl⟩⟩
end
structure GOk(C:Cse)(g:Gs):Prop where
 n:NOk C.names C.w g.n
 lp:g.ps.length=C.many
 rp:∀v∈g.ps,0<=v/\v<C.w
 td:bc C.names C.w C.many g.td
def Gs.cf(C:Cse)(g:Gs):Cf:=⟨C.w,g.ps,C.most⟩
section
theorem GOk.pd(k:GOk C g):C.d=aT (g.cf C) C.names C.rows C.mn:=by unfold Cse.d aT Gs.cf;rw[k.lp]
theorem GOk.co(k:GOk C g)(o:C.Ok):COk (g.cf C):=⟨o.m2,o.m1,k.rp,by show g.ps.length<=_;rw[k.lp];have:=o.few;lia,o.most⟩
def xS(C:Cse)(n:cA):Rw->Option Int
 |.take _ i=>ap i
 |.pick _ y=>ap (nm n y % (C.many:Int))
 |_=>cm
def Ij(o:Option Int):D:=match o with
 |some i=>.int i
 |none=>.non
theorem gE{r:Rw}(h:cy names m many r)(e:bi r=true):cz names m many r:=by
 cases r<;>first|exact h|cases e
end
section
variable{t:Sta}{r:Rw}
theorem k6{p:eg}(k:GOk C g)(F:cy C.names C.w C.many r)(B:M p=ap (.dK<|dE g.n))(h:Q (Ij<|xS C g.n r) M):mO ad [C.d,.ref p,r.d] M Q E:=by
 cases f:bi r with
 |true=>
  rw[k.pd];refine ci (c:=g.cf C) (names:=C.names) k.n (by have:=gE F f;rw[<- k.lp]at this;exact this) B ?_
  have e:((g.cf C).pieces.length:Int)=(C.many:Int):=by show ((g.ps.length:Nat):Int)=_;rw[k.lp]
  cases r with
  |pick x y=>
   show Q (.int<|nm g.n y % ((g.cf C).pieces.length:Int)) M;rw[e];exact h
  |_=>exact h
 |false=>
  cases r with
  |ifr x a b=>simp![p8,j7,Cse.d,Rw.d,atI_0,atI_2];exact ak h
  |again x a=>simp![p8,j7,Cse.d,Rw.d,atI_0,atI_2];exact ak h
  |_=>cases f
theorem w6{P:eg}(o:C.Ok)(k:GOk C g)(Y:cy C.names C.w C.many r)(O:bi r=true)(W:M P=ap (.dK<|dE g.n))(X:M lp=ap (.lst<|g.ps.map D.int))(h:Q (.int<|num (g.cf C) g.n r) M):
  mW ad [C.d,.ref P,.ref lp,r.d] M Q E:=by
 have hm1:=o.m1;have Z:=o.m2;have hc:=k.co o;have e:=gE Y O;have H:=k.lp;have B:∀i:Nat,i<C.many->(g.ps.map D.int)[i]?=ap (.int<|(g.ps[i]?).getD 0):=λi hi=>by
  rw[OO,Oz (by lia)];rfl
 have p:∀{K:DK},K (Ij<|xS C g.n r) M->∀Q' E',(∀d M,K d M->Q' d M)->mO ad [C.d,.ref P,r.d] M Q' E':=λ{K} q Q' E' f=>k6 k Y W (f _ _ q);have F:=@AS C;cases r with
 |put x v=>
  simp![jU,gg,F,Rw.d,atI_0,atI_2];exact ak h
 |take x i=>
  obtain⟨S,J,h1⟩:=e;have I:=B i.toNat (by lia)
  rw[Rw.d]at p ⊢;simp![jU,gg,atI_0,atI_2];refine aq λQ' E' f _=>p (K:=λd M=>_) ?_ Q' E' f;simp![xS,Ij,X,bo J,I];exact ak h
 |pick x y=>
  obtain⟨S,R,J⟩:=e;have g0:=PK (nm g.n y) (show (C.many:Int)≠0 by lia)
  have g1:=PY (nm g.n y) J;have I:=B (nm g.n y % (C.many:Int)).toNat (by lia)
  have e2:num (g.cf C) g.n (.pick x y)=(g.ps[(nm g.n y % (C.many:Int)).toNat]?).getD 0:=by show (g.ps[(nm g.n y % (g.ps.length:Int)).toNat]?).getD 0=_;rw[H]
  rw[e2]at h;rw[Rw.d]at p ⊢;simp![jU,gg,atI_0,atI_2];refine aq λQ' E' f _=>p (K:=λd M=>_) ?_ Q' E' f;simp![xS,Ij,X,bo g0,I];exact ak h
 |two w x y z=>
  obtain⟨hw,S,R,hz⟩:=e;have a1:=k.n.at R;have a2:=k.n.at hz;have G:((w=PD "put")=False):=by rcases hw with rfl|rfl|rfl|rfl<;>exact eq_false (by decide +kernel)
  rw[Rw.d]at p ⊢;simp![jU,gg,atI_0,atI_2,G];refine aq λQ' E' f _=>p (K:=λd M=>_) ?_ Q' E' f;simp![xS,Ij,F,atI_0,atI_2,atI_3,W,b_,a1.1,a2.1,PQ];exact aO (d:=.int (num (g.cf C) g.n<|.two w x y z)) (λ_ _ q=>k9 (by lia) (by lia) (by lia) q) (ak h)
 |ifr=>cases O
 |again=>cases O
end
def dR(C:Cse)(g:Gs)(r:Rw):Option aG:=
 if g.u=[] then cm else match (cW C).filter λk=>decide (k∈((cY r).filter λx=>decide ((OX x:aG)∈g.u)).map OX) with
  |k::_=>ap k
  |[]=>match xS C g.n r with
   |some i=>if (Qg i:aG)∈g.u then ap (.inl i) else cm
   |none=>cm
def Aj:Option aG->D
 |some k=>kD k
 |none=>.non
section
variable{t:Sta}{r:Rw}{k:Gk}
theorem yo(h:cy names m many r):∀x∈cY r,x∈names:=by
 cases r with
 |put=>simp[cY]
 |take=>simp[cY]
 |pick x y=>intro z e;simp[cY]at e;subst e;exact h.2.1
 |two w x y z=>intro v f;simp[cY]at f;rcases f with rfl|rfl;exact h.2.2.1;exact h.2.2.2
 |ifr x a b=>intro z e;simp[cY]at e;subst e;exact h.1
 |again x a=>intro z e;simp[cY]at e;subst e;exact h.1
theorem C0:(cY r).length<=2:=by cases r<;>simp[cY]
theorem KB:(uD u).isEmpty=u.isEmpty:=by cases u<;>rfl
theorem Bp:qx (gM ad k g M) (.str x) (.ref k.du)=ap (decide ((OX x:aG)∈g.u)):=by
 have:=rQ (k:=.inr x) (fP (ad:=ad) (k:=k) (g:=g) (M:=M));rw[mq]at this;exact this
theorem qS(o:C.Ok)(ok:GOk C g)(X:cy C.names C.w C.many r)(h:Q (Aj<|dR C g r) (gM ad k g M)):yU ad [C.d,.ref k.a,r.d] (gM ad k g M) Q E:=by
 have H:=yo X;have J:=C0 (r:=r);rw[Nd (n:=0)];unfold xT;generalize I:lq ad (aA E)=K5;simp only[ai,aH,i9,dm,aZ,ac,Ov,dt,cJ,Ia,Dw,fP,KB];refine⟨trivial,?_⟩;unfold dR at h;cases hu:g.u with
 |nil=>
  rw[if_pos hu]at h;simp only[Tb,P1,Qt,if_true,az,dC];exact ak h
 |cons u0 ur=>
  rw[if_neg (by rw[hu];simp)]at h
  rw[if_neg (by simp)]
  simp only[aF];rw[<- I];unfold lq;generalize W:lG ad (aA E)=K4;simp only[ai,cG,cZ,aX,bH,ao,aj,aa,ac,af,Ov,dt];refine⟨rfl,aq λQ' E' O _=>nI X λp f=>O _ _ (cC f ?_)⟩;simp only[aJ,bE,bu,Oy,OZ,OS,OU,Ov,dt,PR];refine dk (λd=>match d with|.str x=>decide ((OX x:aG)∈g.u)|_=>eC) id aS (by simp;lia) (λx G K q=>?_) (λx G _ K q=>q) ?_
  .obtain⟨y,hy,rfl⟩:=Pf.mp G
   simp only[am,ah,ac,aZ,Ov,dt,cJ,Ia,C1,Bp];exact⟨trivial,q⟩
  .intro p f
   generalize S:((cY r).filter λx=>decide ((OX x:aG)∈g.u))=fnd at h;have e:(((cY r).map D.str).filter λd=>match d with|.str x=>decide ((OX x:aG)∈g.u)|_=>eC).map id=(fnd.map OX).map kD:=by
    rw[Qj,P9,<- S,Qb];rfl
   have hfn:∀x∈fnd,x∈C.names:=λx G=>by rw[<- S]at G;exact H x (OC.mp G).1
   have hfl:fnd.length<=2:=by rw[<- S];exact OV (Po _ _) J
   rw[e];simp only[fg,OM,Ov,dt];refine cC (Q:=λd M'=>K4 _ [ap C.d,ap (.ref k.a),ap r.d,ap d,cm] M') f ?_;rw[<- W];unfold lG;generalize P:lY ad (aA E)=K3;simp only[ai,aH,dm,ac,Ov,dt,Dw];cases B:fnd with
   |nil=>
    have hz:((cW C).filter λk=>decide (k∈(fnd.map OX:List aG)))=[]:=by rw[B];simp
    rw[hz]at h;simp only[OZ,Tb,P1];rw[if_neg (by simp)]
    simp only[aF];rw[<- P];unfold lY qD;simp only[ai,ar,ao,aj,aa,ac,af,aZ,Ov,dt,cJ,Hb];refine⟨trivial,rfl,aO (λ_ _ q=>k6 ok X gw q) ?_⟩;cases f:xS C g.n r with
    |none=>
     simp only[f]at h;simp only[Ij,frz,ag,OM,az,o9,am,ah,ac,dC,aZ,Ov,dt,cJ,Ia,BW,xY,fP];refine⟨trivial,?_⟩;rw[if_neg (by simp)]
     exact ak h
    |some i=>
     simp only[f]at h;have R:=rQ (k:=.inl i) (fP (ad:=ad) (k:=k) (g:=g) (M:=M));rw[mq]at R;simp only[kD]at R;simp only[Ij,frz,ag,OM,az,o9,am,ah,ac,dC,aZ,Ov,dt,cJ,Ia,BW,xY,R];refine⟨trivial,?_⟩
     by_cases c:(Qg i:aG)∈g.u
     .rw[if_pos c]at h
      rw[if_pos (by simpa using c)]
      exact ak h
     .rw[if_neg c]at h
      rw[if_neg (by simpa using c)]
      exact ak h
   |cons f0 fr=>
    have F:∃Z Y,((cW C).filter λk=>decide (k∈(fnd.map OX:List aG)))=Z::Y:=by
     have:(OX f0:aG)∈(cW C).filter λk=>decide (k∈(fnd.map OX:List aG)):=by
      refine OC.mpr ⟨Sq _ (RF<|hfn f0<|by rw[B];simp),?_⟩
      rw[B];simp
     cases q:(cW C).filter λk=>decide (k∈(fnd.map OX:List aG)) with
     |nil=>rw[q]at this;cases this
     |cons a b=>exact⟨a,b,rfl⟩
    obtain⟨Z,Y,e0⟩:=F;rw[e0]at h;simp only at h;have hne:((f0::fr).map (OX:Str->aG)).map kD≠[]:=by simp
    rw[if_pos (by simp)]
    unfold r8;simp only[az,ah,ao,aj,aa,ac,af,dC,Ov,dt];refine⟨rfl,aq λQ' E' O _=>qk (ks:=(f0::fr).map OX) o (by rw[<- B,Ox];lia) λp f=>O _ _ (cC f ?_)⟩
    rw[<- B,e0];simp only[au,aJ,Oy,atI_0,dt];exact ak h
end
theorem okRs_app{names:Xk}{m many:Int}:∀{a b:List Rw},bc names m many (a++b)↔bc names m many a/\bc names m many b
 |[],b=>by simp[bc]
 |r::a,b=>by simp[bc,okRs_app,and_assoc]
def jS(C:Cse)(g:Gs)(rest:List Rw):Rw->Gs
 |.ifr x a b=>{ g with left:=g.left-1,td:=(if nm g.n x=0 then b else a)++rest }
 |.again x a=>{ g with left:=g.left-1,td:=if nm g.n x=0 then rest else a++(.again x a::rest) }
 |r=>{ g with left:=g.left-1,td:=rest,n:=sN g.n (eD r) (num (g.cf C) g.n r),u:=g.u.filter λk=>decide (k≠.inr (eD r)) }
theorem n8{r:Rw}:(jS C g rest r).left=g.left-1:=by cases r<;>rfl
section
variable{t:Sta}{r:Rw}{k:Gk}
theorem AU(o:C.Ok)(ok:GOk C g)(f:cy C.names C.w C.many r)(e:bi r=true):0<=num (g.cf C) g.n r/\num (g.cf C) g.n r<C.w:=
 xj (ok.co o) (names:=C.names) ok.n (by have:=gE f e;rw[<- ok.lp]at this;exact this)
theorem qi(o:C.Ok)(ok:GOk C g)(e:g.td=r::rest):GOk C (jS C g rest r):=by
 have h:=ok.td;rw[e]at h;obtain⟨B,f⟩:=h;have p:bi r=true->GOk C { g with left:=g.left-1,td:=rest,n:=sN g.n (eD r) (num (g.cf C) g.n r),u:=g.u.filter λk=>decide (k≠.inr (eD r)) }:=λF=>
  ⟨C3 (c:=g.cf C) ok.n (AU o ok B F),ok.lp,ok.rp,f⟩
 cases r with
 |ifr x a b=>
  refine⟨ok.n,ok.lp,ok.rp,okRs_app.mpr ⟨?_,f⟩⟩
  split
  .exact B.2.2
  .exact B.2.1
 |again x a=>
  refine⟨ok.n,ok.lp,ok.rp,?_⟩;show bc _ _ _ (if nm g.n x=0 then rest else a++(.again x a::rest))
  split
  .exact f
  .exact okRs_app.mpr ⟨B.2,B,f⟩
 |put x v=>exact p rfl
 |take x v=>exact p rfl
 |pick x y=>exact p rfl
 |two w x y z=>exact p rfl
theorem wk(h:cz names m many r):eD r∈names:=by
 cases r with
 |put x v=>exact h.1
 |take x v=>exact h.1
 |pick x v=>exact h.1
 |two w x y z=>exact h.2.1
 |ifr=>exact h.elim
 |again=>exact h.elim
theorem CF:LB (gM ad k g M) (.ref k.du)=true:=by simp only[LB,fP]
theorem FX{k:aG}(h:k∉u):u.filter (λx=>decide (x≠k))=u:=QU.mpr λx e=>by
 have:x≠k:=λz=>h (z▸e);simp[this]
theorem J0(o:C.Ok)(ok:GOk C g)(p:cy C.names C.w C.many r)(f:bi r=true)(h:D'.nx [ap C.d,ap (.ref k.a),ap r.d] (gM ad k { g with n:=sN g.n (eD r) (num (g.cf C) g.n r),u:=g.u.filter λk=>decide (k≠.inr (eD r)) } M)):
  gI ad EE D' [ap C.d,ap (.ref k.a),ap r.d] (gM ad k g M):=by
 have F:=wk (gE p f);have e:∀{M:Mem}{K:DK},K (.str<|eD r) M->au r.d (.int 1) M K:=λq=>by
  cases r with
  |ifr=>cases f
  |again=>cases f
  |_=>simp only[Rw.d,au,aJ,atI_1,Ov,dt];exact q
 have keys:eD r∈g.n.map (·.1):=by rw[ok.n.keys];exact F
 unfold gI pU;simp only[ai,ar,ao,aj,aa,ac,af,aZ,Ov,dt,cJ,Hb,gf1];refine⟨trivial,trivial,rfl,aO (λ_ _ q=>w6 o ok p f gw oF q) ?_⟩;simp only[frz,de,aZ,ah,ac,dC,Ov,dt,cJ,Hb];refine⟨trivial,e ?_⟩;have G:(dE g.n).length<sizeLine:=by
  have I:(dE g.n).length=C.names.length:=by rw[<- ok.n.keys];simp[dE]
  have:=o.l1;exact jx (by lia)
 simp only[nz,gw,cL,lT keys,GU];refine⟨G,?_⟩;simp only[bn,Dn,aZ,ah,ac,dC,Ov,dt,cJ,Ia,CF];refine⟨trivial,trivial,e ?_⟩;simp only[fP,cL];cases B:cT (uD g.u) (.inr<|eD r) with
 |some v=>simp only[tI,Ig];exact h
 |none=>
  have H:(OX (eD r):aG)∉g.u:=λz=>by
   have:=mq (u:=g.u) (k:=.inr (eD r));rw[B]at this;simp[z]at this
  rw[FX H]at h;exact h
theorem nM{e:Str}{rest:List D}{K:Bool->Mem->Prop}(f:U[2]?=ap (ap<|.tup (.str w::rest)))(q:K (decide (w=e)) M):am (ah bZ (ah au (ac 2)<|dC<|.int 0)<|dC<|.str e) U M K:=by
 simp only[am,ah,ac,dC,f,au,aJ,atI_0,dt,bZ,dv,bj,aP];exact⟨trivial,trivial,q⟩
theorem zy(h:cy C.names C.w C.many r)(e:bi r=true):∃w rest,r.d=.tup (.str w::rest)/\decide (w=("if":Str))=eC/\decide (w=("again":Str))=false:=by
 cases r with
 |ifr=>cases e
 |again=>cases e
 |two w x y z=>
  obtain⟨f,_⟩:=h;refine⟨_,_,rfl,?_⟩;rcases f with rfl|rfl|rfl|rfl<;>exact⟨by decide +kernel,by decide +kernel⟩
 |_=>exact⟨_,_,rfl,by decide +kernel,by decide +kernel⟩
theorem uV(o:C.Ok)(ok:GOk C g)(e:g.td=r::rest)(h:Q .non (gM ad k (jS C g rest r) M)):yQ ad [C.d,.ref k.a,r.d] (gM ad k g M) Q E:=by
 have I:=ok.td;rw[e]at I;obtain⟨J,p⟩:=I;have B:GOk C { g with td:=rest,left:=g.left-1 }:=⟨ok.n,ok.lp,ok.rp,p⟩;rw[Mm (n:=0)];unfold xq qe;generalize hK:gQ ad (aA E)=K;have P:nZ g.td=.tup [r.d,nZ rest]:=by rw[e];rfl
 have X:=wP (ad:=ad) (k:=k) (g:=g) (M:=M) (td:=g.td) (left:=g.left-1);simp only[ai,qm,cu,aZ,ah,ac,dC,Ov,dt,cJ,gf4,gfl,gfp4,X];refine⟨trivial,by decide,trivial,trivial,?_⟩
 have Y:=wP (ad:=ad) (k:=k) (g:={ g with left:=g.left-1 }) (M:=M) (td:=rest) (left:=g.left-1);simp only[Lx,P,au,aJ,atI_1,Ov,dt,cJ,gfl,Ir,Y];refine⟨trivial,by decide,?_⟩
 rw[<- hK];have G:bi r=true->∀{D':DEnds}{EE:DX},D'.nx [ap C.d,ap (.ref k.a),ap r.d] (gM ad k (jS C g rest r) M)->gI ad EE D' [ap C.d,ap (.ref k.a),ap r.d] (gM ad k { g with td:=rest,left:=g.left-1 } M):=λf D' EE q=>J0 o B J f (by
  cases r with
  |ifr=>cases f
  |again=>cases f
  |_=>exact q)
 generalize H:gI ad (aA E)=K5;have F:bi r=true->K5 { nx:=λ_ M'=>drp Q .non M',rt:=drp Q } [ap C.d,ap (.ref k.a),ap r.d] (gM ad k { g with td:=rest,left:=g.left-1 } M):=λf=>by
  rw[<- H];exact G f (ak h)
 by_cases f:bi r=true
 .obtain⟨w,wr,er,n1,n2⟩:=zy J f
  have:=F f;rw[er]at this ⊢;unfold gQ aH;refine nM rfl ?_;simp only[n1,ON,if_false];unfold mi aH;refine nM rfl ?_;simp only[n2,ON,if_false,H];exact this
 cases r with
 |ifr x a b=>
  have R:x∈C.names:=J.1;have S:=(B.n.at R).1;have W:=λl=>wP (ad:=ad) (k:=k) (g:={ g with td:=rest,left:=g.left-1 }) (M:=M) (td:=l) (left:=g.left-1);have fin:∀l:List Rw,(jS C g rest<|.ifr x a b).td=l++rest->calls (nv ad) (aA E) [.tup (aw l),nZ rest] (gM ad k { g with td:=rest,left:=g.left-1 } M) (λd M'=>frz d M' λy M1=>match M1 k.a with
    |some (MO.ins C' fs)=>C'=ad.C_Going/\fs.length<1000/\drp Q D.non (M1.upd k.a<|MO.ins ad.C_Going<|bG (PD "todo") y fs)
    |_=>False) ⟨⟩:=λl Z=>by
   refine aO (λ_ _ q=>eJ q) ?_;have O:∀{l:List Rw}{M:Mem}{Q:DK},Q (nZ l) M->frz (nZ l) M Q:=λ{l} {M} {Q} q=>by cases l<;>exact q
   refine O ?_;simp only[cJ,gfl,Ir,W];rw[<- Z];exact⟨trivial,by decide,ak h⟩
  simp only[Rw.d];unfold gQ aH;refine nM rfl ?_;simp only[decide_true,if_true];unfold rT;simp![atI_1,atI_2,atI_3,cJ,Hb,Lx,gw,b_,S,PQ]
  by_cases c:nm g.n x=0
  .simp only[c,decide_true,if_true]
   exact fin b (by simp only[jS,c,if_true])
  .simp only[c,decide_false]
   exact fin a (by simp only[jS,c,if_false])
 |again x a=>
  have R:x∈C.names:=J.1;have S:=(B.n.at R).1;have W:=λl=>wP (ad:=ad) (k:=k) (g:={ g with td:=rest,left:=g.left-1 }) (M:=M) (td:=l) (left:=g.left-1);have n1:decide (("again":Str)=("if":Str))=false:=by decide +kernel
  simp only[Rw.d];unfold gQ aH;refine nM rfl ?_;simp only[n1,ON,if_false];unfold mi aH;refine nM rfl ?_;simp only[decide_true,if_true];unfold qY;simp![atI_1,atI_2,cJ,Hb,Lx,gw,b_,S,PQ]
  by_cases c:nm g.n x=0
  .simp only[c,decide_true,P1]
   refine ak ?_;have:jS C g rest (.again x a)={ g with td:=rest,left:=g.left-1 }:=by simp only[jS,c,if_true]
   rw[<- this];exact h
  .simp only[c,decide_false,Qt,if_true]
   refine⟨bf (by decide),?_⟩
   refine aO (λ_ _ q=>eJ (td:=.again x a::rest) q) ?_;have O:∀{l:List Rw}{M:Mem}{Q:DK},Q (nZ l) M->frz (nZ l) M Q:=λ{l} {M} {Q} q=>by cases l<;>exact q
   refine O ?_;simp only[ac,Ov,dt,cJ,gfl,Ir,W];have:jS C g rest (.again x a)={ g with td:=a++(.again x a::rest),left:=g.left-1 }:=by simp only[jS,c,if_false]
   rw[<- this];exact⟨trivial,by decide,ak h⟩
 |_=>exact absurd rfl f
end
def bB(C:Cse):Nat->Gs->Option aG×Gs
 |0,g=>(cm,g)
 |f+1,g=>match g.td with
  |[]=>(if (OX C.mn:aG)∈g.u then ap (.inr C.mn) else cm,g)
  |r::rest=>if g.left<=0 then (cm,g) else match dR C g r with
   |some k=>(ap k,g)
   |none=>bB C f (jS C g rest r)
section
variable{t:Sta}{k:Gk}
theorem Bf:iV (nZ td)=td.isEmpty:=by cases td<;>rfl
theorem l_(o:C.Ok):∀(f:Nat)(g:Gs),GOk C g->GOk C (bB C f g).2
 |0,g,h=>h
 |f+1,g,h=>by
  unfold bB;cases e:g.td with
  |nil=>exact h
  |cons r rest=>
   dsimp only
   split
   .exact h
   .cases a:dR C g r with
    |some k=>exact h
    |none=>exact l_ o f _ (qi o h e)
theorem DM{r:Rw}{I H:Option D}(o:C.Ok)(ok:GOk C g)(e:g.td=r::rest)(W:g.left<=0->D'.rt .non (gM ad k g M))(X:¬g.left<=0->∀q,dR C g r=ap q->D'.rt (kD q) (gM ad k g M))(h3:¬g.left<=0->dR C g r=cm->∀I H,D'.nx [ap C.d,ap (.ref k.a),I,H] (gM ad k (jS C g rest r) M)):gP ad EE D' [ap C.d,ap (.ref k.a),I,H] (gM ad k g M):=by
 have h:=ok.td;rw[e]at h;obtain⟨R,F⟩:=h;have p:nZ g.td=.tup [r.d,nZ rest]:=by rw[e];rfl
 unfold gP;generalize B:m5 ad EE=K4;simp only[ai,aH,am,ah,aZ,ac,dC,oLe,jt,Ov,dt,cJ,gf4];refine⟨trivial,?_⟩
 by_cases f:g.left<=0
 .rw[if_pos (by simpa using f)]
  exact W f
 .rw[if_neg (by simpa using f)]
  simp only[aF];rw[<- B];unfold m5 pW;generalize G:lE ad EE=K2;simp only[ai,ar,ah,aZ,ac,dC,Ov,dt,cJ,Lx,p,au,aJ,atI_0,ag,OM,ao,aj,aa,af];refine⟨trivial,rfl,aO (λ_ _ q=>qS o ok R q) ?_⟩;have P:∀{q:Option aG}{M:Mem}{Q:DK},Q (Aj q) M->frz (Aj q) M Q:=λ{q} {M} {Q} z=>by
   cases q with
   |none=>exact z
   |some k=>cases k<;>exact z
  refine P ?_;rw[<- G];unfold lE pJ;have O:iV (Aj<|dR C g r)=(dR C g r).isNone:=by
   cases dR C g r with
   |none=>rfl
   |some k=>cases k<;>rfl
  simp only[ai,aH,am,ah,ac,dC,h9,Ov,dt,O];cases J:dR C g r with
  |some q=>
   rw[if_pos (by simp)]
   exact X f q J
  |none=>
   rw[if_neg (by simp)]
   simp only[aF,bn,aj,aa,ac,af,Ov,dt];exact⟨rfl,aq λQ' E' S _=>uV o ok e (S _ _<|h3 f J _ _)⟩
theorem oG{EE:DX}{D':DEnds}{J:BxW (am<|ah h9 (aZ ad.C_Going (ac 1) "todo")<|dC .non) (gP ad EE) D'}(o:C.Ok):∀(f:Nat)(g:Gs)(p h:Option D),GOk C g->g.left<f->
  (∀p h g',(bB C f g)=(if (OX C.mn:aG)∈g'.u then ap (.inr C.mn) else cm,g')->g'.td=[]->D'.nx [ap C.d,ap (.ref k.a),p,h] (gM ad k g' M))->
  (∀g' q,bB C f g=(q,g')->D'.rt (Aj q) (gM ad k g' M))->0<=g.left->
  bY (am<|ah h9 (aZ ad.C_Going (ac 1) "todo")<|dC .non) (gP ad EE) D' J (f+1) [ap C.d,ap (.ref k.a),p,h] (gM ad k g M)
 |0,g,p,h,ok,hf,h1,h2,h0=>by lia
 |f+1,g,p,h,ok,hf,h1,h2,h0=>by
  have G:∀K:Bool->Mem->Prop,K (!g.td.isEmpty) (gM ad k g M)->am (ah h9 (aZ ad.C_Going (ac 1) "todo")<|dC .non) [ap C.d,ap (.ref k.a),p,h] (gM ad k g M) K:=λK q=>by
   simp only[am,ah,aZ,ac,dC,Ov,dt,cJ,Lx,h9,Bf];exact⟨trivial,q⟩
  cases e:g.td with
  |nil=>
   refine whF (λK q=>G K (by rw[e];exact q)) (h1 p h g ?_ e)
   unfold bB;rw[e]
  |cons r rest=>
   have B:bB C (f+1) g=if g.left<=0 then (cm,g) else match dR C g r with
    |some k=>(ap k,g)
    |none=>bB C f (jS C g rest r):=by conv=>lhs;unfold bB;rw[e]
   have I:(jS C g rest r).left=g.left-1:=n8;refine whT (λK q=>G K (by rw[e];exact q)) (DM o ok e (λF=>?_) (λF q H=>?_) λF H p h=>?_)
   .rw[if_pos F]at B
    exact h2 g cm B
   .rw[if_neg F,H]at B
    exact h2 g (ap q) B
   .rw[if_neg F,H]at B
    exact oG o f _ _ _ (qi o ok e) (by lia) (λp h g' q=>h1 p h g' (B.trans q)) (λg' q z=>h2 g' q (B.trans z)) (by lia)
theorem zi{f:Nat}(o:C.Ok)(ok:GOk C g)(F:0<=g.left)(G:g.left<f)(h:Q (Aj (bB C f g).1) (gM ad k (bB C f g).2 M)):yI ad [C.d,.ref k.a] (gM ad k g M) Q E:=by
 rw[Ob (n:=0)];unfold wN;simp only[ai,dQ];refine⟨f+1,oG o f g _ _ ok G (λH I B e _=>?_) (λB q e=>?_) F⟩
 .unfold rR
  rw[e]at h;have p:=@AS C;simp only[p,az,o9,am,ah,aZ,ac,dC,Ov,dt,au,aJ,atI_4,cJ,Ia,C1,Bp];refine⟨trivial,?_⟩
  by_cases c:(OX C.mn:aG)∈B.u
  .simp only[if_pos c,Aj,kD]at h
   rw[if_pos (by simpa using c)]
   exact ak h
  .simp only[if_neg c,Aj]at h
   rw[if_neg (by simpa using c)]
   exact ak h
 .rw[e]at h
  exact ak h
def KS(C:Cse)(g:Gs):D:=if g.td=[] then .int (nm g.n C.mn) else .non
theorem sR(o:C.Ok)(ok:GOk C g)(h:Q (KS C g) (gM ad k g M)):yR ad [C.d,.ref k.a] (gM ad k g M) Q E:=by
 have p:=(ok.n.at o.mn).1;have f:=@AS C;rw[NJ (n:=0)];unfold yL;simp only[f,az,o9,am,ah,aZ,ac,dC,Ov,dt,cJ,Lx,jC,Bf];refine⟨trivial,?_⟩;unfold KS at h;cases e:g.td with
 |nil=>
  rw[if_pos e]at h;simp only[Tb,if_true,Hb,au,aJ,atI_4,Ov,dt,gw,pR,cL,b_,p,PQ];exact⟨trivial,ak h⟩
 |cons r rest=>
  rw[if_neg (by rw[e];simp)]at h
  rw[if_neg (by simp)]
  exact ak h
end
def cj(g:Gs)(q:aG)(v:Int):Gs:=match q with
 |.inl i=>{ g with u:=g.u.filter λk=>decide (k≠q),ps:=g.ps.set i.toNat v }
 |.inr x=>{ g with u:=g.u.filter λk=>decide (k≠q),n:=sN g.n x v }
section
variable{t:Sta}{k:Gk}
theorem lA(ok:GOk C g)(e:0<=v/\v<C.w):GOk C (cj g q v):=by
 cases q with
 |inl i=>
  refine⟨ok.n,by show (g.ps.set _ _).length=_;rw[QD];exact ok.lp,λz f=>?_,ok.td⟩
  rcases T3 f with h|h
  .exact ok.rp z h
  .rw[h];exact e
 |inr x=>exact⟨C3 (c:=g.cf C) ok.n e,ok.lp,ok.rp,ok.td⟩
theorem dS:(cj g q v).u=g.u.filter λk=>decide (k≠q):=by cases q<;>rfl
theorem eP:(cj g q v).left=g.left:=by cases q<;>rfl
theorem ni{x:eg}{d1 d2 d3 td:D}(h:Q .non (M.upd x<|.ins ad.C_Going [("numbers",d1),("pieces",d2),("unsettled",d3),("todo",td),("left",.int left)])):
  BP ad [.ref x,d1,d2,d3,td,.int left] (M.upd x<|.ins ad.C_Going []) Q E:=by
 have B:bG ("numbers":Str) d1 []=[(("numbers":Str),d1)]:=rfl;have F:bG ("pieces":Str) d2 [(("numbers":Str),d1)]=[(("numbers":Str),d1),(("pieces":Str),d2)]:=rfl;have p:bG ("unsettled":Str) d3 [(("numbers":Str),d1),(("pieces":Str),d2)]=[(("numbers":Str),d1),(("pieces":Str),d2),(("unsettled":Str),d3)]:=rfl;have f:bG ("todo":Str) td [(("numbers":Str),d1),(("pieces":Str),d2),(("unsettled":Str),d3)]=[(("numbers":Str),d1),(("pieces":Str),d2),(("unsettled":Str),d3),(("todo":Str),td)]:=rfl;have e:bG ("left":Str) (.int left) [(("numbers":Str),d1),(("pieces":Str),d2),(("unsettled":Str),d3),(("todo":Str),td)]=[(("numbers":Str),d1),(("pieces":Str),d2),(("unsettled":Str),d3),(("todo":Str),td),(("left":Str),.int left)]:=rfl;rw[u_q3 (n:=0)];unfold G6;simp![Mem.upd_same,Mem.upd_upd,B,F,p,f,e,Pn,OE];exact⟨by decide,by decide,by decide,by decide,by decide,ak h⟩
structure Gat(ad:Ad)(k:Gk)(g:Gs)(N:Mem):Prop where
 a:N k.a=ap (.ins ad.C_Going<|gF k (nZ g.td) g.left)
 dn:N k.dn=ap (.dK<|dE g.n)
 lp:N k.lp=ap (.lst<|g.ps.map D.int)
 du:N k.du=ap (.dK<|uD g.u)
theorem Gat.of:Gat ad k g (gM ad k g M):=⟨cJ,gw,oF,fP⟩
theorem Gat.more{k1:Gk}{e:Gs}(h:Gat ad k g M)(f:k1.Fr M):Gat ad k g (gM ad k1 e M):=⟨dJ f h.a,dJ f h.dn,dJ f h.lp,dJ f h.du⟩
theorem qc(at':Gat ad k g N)(o:C.Ok)(ok:GOk C g)(hk:q∈cW C)(hu:q∈g.u)(h:∀Z:Gk,Z.Fr N->Q (.ref Z.a) (gM ad Z (cj g q v) N)):
  Ag ad [.ref k.a,kD q,.int v] N Q E:=by
 obtain⟨P,hdn,W,O⟩:=at';rw[u_q5 (n:=0)];unfold El;generalize hK:rE ad (aA E)=K;simp only[ai,ar,fY,aa,af,bz,aZ,ac,Ov,dt,P,Hb,mT,hdn];refine⟨trivial,λe X=>?_⟩;have a1:k.a≠e:=Mem.ne P X;have l1:k.lp≠e:=Mem.ne W X;have u1:k.du≠e:=Mem.ne O X;simp only[ae a1,P,gf1,eR,aJ,ae l1,W];refine⟨trivial,λF Y=>?_⟩;have I:e≠F:=Mem.ne Mem.upd_same Y;rw[ae I.symm]at Y;have a2:k.a≠F:=Mem.ne P Y;have u2:k.du≠F:=Mem.ne O Y;simp only[ae a2,ae a1,P,Ia,ae u2,ae u1,O];refine⟨trivial,λH S=>?_⟩;have G:F≠H:=Mem.ne Mem.upd_same S;rw[ae G.symm]at S;have J:e≠H:=Mem.ne Mem.upd_same S;rw[ae J.symm]at S;have a3:k.a≠H:=Mem.ne P S;simp only[ae a3,ae a2,ae a1,P,Lx,gf4];refine⟨trivial,trivial,rfl,λx R=>?_⟩;have B:H≠x:=Mem.ne Mem.upd_same R;rw[ae B.symm]at R;have p:F≠x:=Mem.ne Mem.upd_same R;rw[ae p.symm]at R;have f:e≠x:=Mem.ne Mem.upd_same R;rw[ae f.symm]at R;refine aq λQ' E' hq _=>ni (hq _ _ ?_);have key:((((N.upd e<|.dK<|dE g.n).upd F<|.lst<|g.ps.map D.int).upd H<|.dK<|uD g.u).upd x<|.ins ad.C_Going [("numbers",.ref e),("pieces",.ref F),("unsettled",.ref H),("todo",nZ g.td),("left",.int g.left)])=gM ad ⟨x,e,F,H,f.symm,p.symm,B.symm,I,J,G⟩ g N:=by
  unfold gM gF;rw[aC B,aC p,aC f]
 rw[key];have hfr:Gk.Fr ⟨x,e,F,H,f.symm,p.symm,B.symm,I,J,G⟩ N:=⟨R,X,Y,S⟩;have hh:=h _ hfr;generalize hk':(⟨x,e,F,H,f.symm,p.symm,B.symm,I,J,G⟩:Gk)=Z at *;have ex:x=Z.a:=by rw[<- hk']
 rw[ex];simp only[ag,OM];rw[<- hK];unfold rE;generalize hK3:qL ad (aA E)=K3;have hv:∃w,cT (uD g.u) q=ap w:=Qi.mp (by rw[mq];simpa using hu)
 obtain⟨w,hv⟩:=hv;simp only[ai,bn,C7,aZ,ac,Ov,dt,cJ,Ia,CF,fP,eS,hv,tI,Ig];refine⟨trivial,trivial,?_⟩;rw[<- hK3];unfold qL wc vt;rcases dX hk with⟨y,hy,rfl⟩|⟨i,hi,rfl⟩
 .have keys:y∈g.n.map (·.1):=by rw[ok.n.keys];exact hy
  have nl:(dE g.n).length<sizeLine:=by
   have X:(dE g.n).length=C.names.length:=by rw[<- ok.n.keys];simp[dE]
   have:=o.l1;exact jx (by lia)
  simp only[kD]at hh ⊢;simp![jA,zr,RY,SY,QY,Qo,Sh,cJ,Hb,gw,lT keys,GU];exact⟨nl,ak hh⟩
 .have e3:rX (g.ps.map D.int).length (i:Nat)=ap i:=by
   rw[fq (by lia) (by rw[Ox,ok.lp];lia),OL]
  have e4:(g.ps.map D.int).set i (.int v)=(g.ps.set i v).map D.int:=by rw[List.map_set]
  simp only[kD]at hh ⊢;simp![jA,zr,RY,SY,QY,Qo,Sh,TN,Ra,cJ,gf1,oF,e3,e4,Nk];exact ak hh
end
def eO(ad:Ad)(L c:Nat):MO:=.ins ad.C_Ends [("limit",.int (L:Nat)),("count",.int (c:Nat))]
inductive Tr where
 |e (m:D)|a (q:aG) (x y:Tr)
def Tr.d:Tr->D
 |.e m=>.tup [.str "end",m]
 |.a q x y=>.tup [.str "ask",kD q,x.d,y.d]
def Tr.asks:Tr->Nat
 |.e _=>0
 |.a _ x y=>1+x.asks+y.asks
def bX(C:Cse)(s t:Sta):Nat->Gs->Tr
 |0,_=>.e .non
 |n+1,g=>match (bB C (C.most+1) g).1 with
  |none=>.e (KS C (bB C (C.most+1) g).2)
  |some q=>.a q (bX C s t n<|cj (bB C (C.most+1) g).2 q<|aM C s q) (bX C s t n<|cj (bB C (C.most+1) g).2 q<|aM C t q)
section
variable{t:Sta}{k:Gk}
theorem j8{e:eg}{c:Nat}(f:M e=ap (eO ad L c))(I:c+1<=L)(h:Q .non (M.upd e<|eO ad L (c+1))):C_ ad [.ref e] M Q E:=by
 have p:Pd ("count":Str) [(("limit":Str),D.int (L:Nat)),(("count":Str),D.int (c:Nat))]=ap (.int (c:Nat)):=rfl;have B:∀v,bG ("count":Str) (.int v) [(("limit":Str),D.int (L:Nat)),(("count":Str),D.int (c:Nat))]=[(("limit":Str),D.int (L:Nat)),(("count":Str),D.int v)]:=λ_=>rfl;have F:∀v,Pd ("count":Str) [(("limit":Str),D.int (L:Nat)),(("count":Str),D.int v)]=ap (.int v):=λ_=>rfl;have G:∀v,Pd ("limit":Str) [(("limit":Str),D.int (L:Nat)),(("count":Str),D.int v)]=ap (.int (L:Nat)):=λ_=>rfl;have H:decide (((L:Nat):Int)<((c:Nat):Int)+1)=false:=decide_eq_false (by lia)
 unfold eO at f h;rw[u_q4 (n:=0)];unfold Gj wt;simp only[ai,pO,aH,am,ah,aZ,ac,dC,aF,dt,f,p,B,F,G,Mem.upd_same,uf,jt,H];refine⟨trivial,by simp,trivial,trivial,trivial,?_⟩
 rw[if_neg (by simp)]
 refine ak ?_;have e:(((c:Nat):Int)+1)=((c+1:Nat):Int):=by lia
 rw[e];exact h
theorem Bg{a:eg}{fs:List (Str×D)}{Cl:eg}{m:Str}{T:Sd}{e:bp}{t:fj}(B:∀K:DK,K (.ref a) M->e U M K)(f:M a=ap (.ins Cl fs))(p:fs.lookup m=cm)(h:t U M λds M2=>ds.length+1=n/\calls T EE (.ref a::ds) M2 Q ⟨⟩):cV Cl m T EE n e t U M Q:=by
 unfold cV;refine B _ ?_;simp only[f];exact⟨trivial,p,h⟩
theorem Oe(f:Gat ad k g N)(o:C.Ok)(H:SOk C z)(ok:GOk C g)(B:q∈cW C)(I:q∈g.u)(h:∀k1:Gk,k1.Fr N->K (.ref k1.a) (gM ad k1 (cj g q<|aM C z q) N)):
  ao (cV ad.C_Going "settled" (Ag ad) iY 3 (ac 2)<|aa (ac 1)<|aa (ao<|aj (jX ad) iY 3<|aa (ah au (ac 3)<|dC<|.int 0)<|aa (ac 0)<|aa (ac 1) af) af) [ap z.d,ap (kD q),ap (.ref k.a),ap (bF C s t)] N K:=by
 have fi:∀{v:Int}{M:Mem}{Q:DK},Q (.int v) M->frz (.int v) M Q:=λz=>z;have F:∀{a:eg}{M:Mem}{Q:DK}{fs:List (Str×D)},M a=ap (.ins ad.C_Going fs)->Q (.ref a) M->frz (.ref a) M Q:=λ{a M Q fs} e z=>by simp only[frz,e];exact z
 unfold ao;refine Bg (λK q=>q) f.a gfs ?_;unfold bF;simp only[aa,ac,aj,af,ah,dC,Ov,dt,au,aJ,atI_0];refine⟨rfl,aO (λ_ _ z=>dP o H B z)<|fi ?_⟩;exact⟨rfl,aq λQ' E' G _=>qc f o ok B I λk1 p=>G _ _ (F cJ<|h k1 p)⟩
theorem n_(B:Gat ad k g N)(o:C.Ok)(W:SOk C s)(X:SOk C t)(ok:GOk C g)(R:q∈cW C)(S:q∈g.u)(h:∀(k1 k2:Gk)(p:eg),k1.Fr N->k2.Fr (gM ad k1 (cj g q<|aM C s q) N)->gM ad k2 (cj g q<|aM C t q) (gM ad k1 (cj g q<|aM C s q) N) p=cm->
   Q (.ref p) ((gM ad k2 (cj g q<|aM C t q)<|gM ad k1 (cj g q<|aM C s q) N).upd p<|.lst [.ref k1.a,.ref k2.a])):
  xf ad [bF C s t,.ref k.a,kD q] N Q E:=by
 have f:=@LC C s t;rw[N4 (n:=0)];unfold yz;simp only[az,aX,bH,tR,cK,bI,ac,dC,Ov,dt,bu,Oy,OZ,OS,OU,PR];have P:kd [C.d,s.d,t.d,D.int (C.most:Nat)] (ap 1) (ap 3)=[s.d,t.d]:=rfl;generalize F:ao (cV ad.C_Going "settled" (Ag ad) iY 3 (ac 2)<|aa (ac 1)<|aa (ao<|aj (jX ad) iY 3<|aa (ah au (ac 3)<|dC<|.int 0)<|aa (ac 0)<|aa (ac 1) af) af)=te;have H:∀{N:Mem}{z:Sta}{K:DK},Gat ad k g N->SOk C z->(∀k1:Gk,k1.Fr N->K (.ref k1.a) (gM ad k1 (cj g q<|aM C z q) N))->te [ap z.d,ap (kD q),ap (.ref k.a),ap (bF C s t)] N K:=λ{N z K} J I hh=>by
  rw[<- F];exact Oe J o I ok R S hh
 simp only[f,ao,ac,dC,dt,Jt,P,frz,aJ,bE];rw[<- f];unfold cw;refine⟨aS,?_⟩;simp only[ag,OM,dG,if_true];refine H B W λk1 e=>⟨jx (by simp),?_⟩
 unfold cw;refine⟨aS,?_⟩;simp only[ag,OM,dG,if_true];refine H (B.more e) X λk2 G=>⟨jx (by simp),?_⟩
 unfold cw;exact⟨aS,λp O=>ak (h k1 k2 p e G O)⟩
end
theorem mZ{b:eg}(h:M b=ap o):M.upd b o=M:=by
 funext c;unfold Mem.upd
 split
 .rename_i e;rw[e,h]
 .rfl
theorem G4{k1 k2:Gk}{F G:Gs}(h:k2.Fr (gM ad k1 F N)):gM ad k2 G (gM ad k1 F N)=gM ad k1 F (gM ad k2 G N):=by
 obtain⟨a1,a2,I,Y,_⟩:=ca h.a;obtain⟨H,J,b3,b4,_⟩:=ca h.dn;obtain⟨Z,O,W,R,_⟩:=ca h.lp;obtain⟨d1,X,P,S,_⟩:=ca h.du;funext b
 by_cases f:b=k2.a
 .subst f;rw[cJ,ku a1 a2 I Y,cJ]
 by_cases p:b=k2.dn
 .subst p;rw[gw,ku H J b3 b4,gw]
 by_cases B:b=k2.lp
 .subst B;rw[oF,ku Z O W R,oF]
 by_cases e:b=k2.du
 .subst e;rw[fP,ku d1 X P S,fP]
 rw[ku f p B e];unfold gM;simp only[Mem.upd,f,p,B,e,if_false]
section
variable{t:Sta}{k:Gk}
theorem L6{r:Rw}(h:dR C g r=ap q):q∈g.u:=by
 unfold dR at h
 split at h
 .cases h
 .split at h
  .rename_i B p e
   cases h;have:q∈(cW C).filter λk=>decide (k∈((cY r).filter λx=>decide ((OX x:aG)∈g.u)).map OX):=by rw[e];simp
   have:=(OC.mp this).2;obtain⟨x,f,rfl⟩:=Pf.mp (of_decide_eq_true this);exact of_decide_eq_true (OC.mp f).2
  .split at h
   .split at h
    .rename_i c;cases h;exact c
    .cases h
   .cases h
theorem NB{r:Rw}:(jS C g rest r).u.length<=g.u.length/\∀x∈(jS C g rest r).u,x∈g.u:=by
 have e:∀z:aG,(g.u.filter λk=>decide (k≠z)).length<=g.u.length/\∀x∈g.u.filter (λk=>decide (k≠z)),x∈g.u:=λz=>⟨Po _ _,λx f=>(OC.mp f).1⟩;cases r with
 |ifr=>exact⟨OB _,λ_ h=>h⟩
 |again=>exact⟨OB _,λ_ h=>h⟩
 |_=>exact e _
theorem ii:∀(f:Nat)(g:Gs),((bB C f g).2.u.length<=g.u.length/\∀x∈(bB C f g).2.u,x∈g.u)/\(0<=g.left->0<=(bB C f g).2.left/\(bB C f g).2.left<=g.left)/\∀q,(bB C f g).1=ap q->q∈(bB C f g).2.u
 |0,g=>⟨⟨OB _,λ_ h=>h⟩,λh=>⟨h,Q6 _⟩,λq h=>by cases h⟩
 |f+1,g=>by
  unfold bB;cases e:g.td with
  |nil=>
   refine⟨⟨OB _,λ_ h=>h⟩,λh=>⟨h,Q6 _⟩,λq h=>?_⟩;dsimp only at h ⊢
   split at h
   .rename_i c;cases h;exact c
   .cases h
  |cons r rest=>
   dsimp only
   split
   .exact⟨⟨OB _,λ_ h=>h⟩,λh=>⟨h,Q6 _⟩,λq h=>by cases h⟩
   .rename_i O
    cases a:dR C g r with
    |some k=>
     refine⟨⟨OB _,λ_ h=>h⟩,λh=>⟨h,Q6 _⟩,λq h=>?_⟩;cases h;exact L6 a
    |none=>
     obtain⟨⟨G,H⟩,I,B⟩:=ii f (jS C g rest r);obtain⟨J,p⟩:=NB (C:=C) (g:=g) (r:=r) (rest:=rest);have P:(jS C g rest r).left=g.left-1:=n8;refine⟨⟨OV G J,λx F=>p x (H x F)⟩,λh=>?_,B⟩;have:=I (by lia)
     exact⟨this.1,by dsimp only;lia⟩
theorem pN(h:q∈u):(u.filter λk=>decide (k≠q)).length<u.length:=by
 rw[List.length_filter_lt_length_iff_exists];exact⟨q,h,by simp⟩
theorem ia{e:eg}{L:Nat}(o:C.Ok)(hs:SOk C s)(ht:SOk C t):∀(n:Nat)(g:Gs)(k:Gk)(M:Mem)(c:Nat)(Q:DK)(E:DX),GOk C g->0<=g.left->g.left<=C.most->(∀x∈g.u,x∈cW C)->g.u.length<n->M e=ap (eO ad L c)->k.Fr M->
  c+(bX C s t n g).asks<=L->Q (bX C s t n g).d (M.upd e<|eO ad L (c+(bX C s t n g).asks))->U8 ad n [bF C s t,.ref k.a,.ref e] (gM ad k g M) Q E
 |0,g,k,M,c,Q,E,ok,h0,hm,hu,hn,he,hf,hc,h=>by lia
 |n+1,g,k,M,c,Q,E,ok,h0,hm,hu,hn,he,hf,hc,h=>by
  have hcs:=@LC C s t;have I:=l_ o (C.most+1) g ok;obtain⟨⟨hlen,G⟩,hlft,Y⟩:=ii (C:=C) (C.most+1) g;rw[Oj];unfold yg;generalize hK5:kE ad (U8 ad n) (aA E)=K5;simp only[ai,ar,ao,aj,aa,af,ah,ac,dC,Ov,dt,hcs,au,aJ,atI_0];refine⟨rfl,aq λQ' E' J _=>zi (f:=C.most+1) o ok h0 (by lia) (J _ _ ?_)⟩
  have fo:∀{q:Option aG}{M:Mem}{Q:DK},Q (Aj q) M->frz (Aj q) M Q:=λ{q} {M} {Q} z=>by
   cases q with
   |none=>exact z
   |some k=>cases k<;>exact z
  refine fo ?_;simp only[ag,OM];rw[<- hK5];unfold bX at h hc;generalize hgo:bB C (C.most+1) g=go at *;obtain⟨a,H⟩:=go;dsimp only at *;unfold kE;generalize hK4:lC ad (U8 ad n) (aA E)=K4;cases a with
  |none=>
   unfold rH;simp only[ai,aH,am,ah,ac,dC,Aj,jC,iV,if_true,az,aK,aa,af,aj,Ov,dt,au,aJ,atI_0];refine⟨rfl,aO (λ_ _ z=>sR o I z) ⟨bf (by simp),?_⟩⟩
   simp only[Tr.asks,Tr.d,UK,mZ he]at h;exact⟨M,λb ob eb=>dJ hf eb,h⟩
  |some q=>
   have W:=Y q rfl;have P:=hu q (G q W);have fl:=pN W;simp only[Tr.asks,Tr.d]at h hc;have nn:iV (kD q)=false:=by cases q<;>rfl
   simp only[ai,aH,am,ah,ac,dC,Aj,jC,nn,aF,Ov,dt];rw[if_neg (by simp),<- hK4]
   unfold lC;generalize hK3:kF ad (U8 ad n) (aA E)=K3;simp only[ai,bn];have lo:Pd ("one_more":Str) [(("limit":Str),D.int (L:Nat)),(("count":Str),D.int (c:Nat))]=none:=rfl;refine Bg (a:=e) (fs:=[("limit",.int (L:Nat)),("count",.int (c:Nat))]) (λK q=>q) (dJ hf he) lo ?_;simp only[af];refine⟨rfl,aq λQ' E' J _=>j8 (dJ hf he) (by lia) (J _ _ ?_)⟩
   rw[rb hf he,<- hK3];have X:(M.upd e<|eO ad L (c+1)) e=ap (eO ad L (c+1)):=Mem.upd_same;have F:∀{o':MO},k.Fr (M.upd e o'):=λ{o'}=>⟨by rw[ae (λz=>by rw[<- z,hf.a]at he;cases he)];exact hf.a,by rw[ae (λz=>by rw[<- z,hf.dn]at he;cases he)];exact hf.dn,by rw[ae (λz=>by rw[<- z,hf.lp]at he;cases he)];exact hf.lp,by rw[ae (λz=>by rw[<- z,hf.du]at he;cases he)];exact hf.du⟩
   unfold kF;generalize hK2:lW ad (U8 ad n) (aA E)=K2;simp only[ai,ar,ao,aj,aa,af,ac,Ov,dt];refine⟨rfl,aq λQ' E' J _=>n_ .of o hs ht I P W λk1 k2 p h1 O hp=>J _ _ (cC hp ?_)⟩;simp only[ag,OM];rw[<- hK2];unfold lW;simp only[az,aK,aa,af,aj,ac,dC,ah,Ov,dt,au,aJ,atI_0,atI_1];generalize hg1:cj H q (aM C s q)=g1 at *;generalize hg2:cj H q (aM C t q)=g2 at *;have R:g1.u.length<n/\(∀x∈g1.u,x∈cW C)/\g1.left=H.left/\GOk C g1:=by
    rw[<- hg1];exact⟨by rw[dS];lia,λx hx=>by rw[dS]at hx;exact hu x (G x (OC.mp hx).1),eP,lA I<|cq o hs P⟩
   have S:g2.u.length<n/\(∀x∈g2.u,x∈cW C)/\g2.left=H.left/\GOk C g2:=by
    rw[<- hg2];exact⟨by rw[dS];lia,λx hx=>by rw[dS]at hx;exact hu x (G x (OC.mp hx).1),eP,lA I<|cq o ht P⟩
   have hll:=hlft h0;rw[G4 O];have B:k2.Fr (gM ad k H<|M.upd e<|eO ad L (c+1)):=⟨(ca O.a).2.2.2.2,(ca O.dn).2.2.2.2,(ca O.lp).2.2.2.2,(ca O.du).2.2.2.2⟩;obtain⟨a1,a2,a3,a4,_⟩:=ca O.a;obtain⟨b1,b2,b3,b4,_⟩:=ca O.dn;obtain⟨c1,c2,c3,c4,_⟩:=ca O.lp;obtain⟨d1,d2,d3,d4,_⟩:=ca O.du;have h1N:k1.Fr (gM ad k2 g2<|gM ad k H<|M.upd e<|eO ad L (c+1)):=⟨by rw[ku a1.symm b1.symm c1.symm d1.symm];exact h1.a,by rw[ku a2.symm b2.symm c2.symm d2.symm];exact h1.dn,by rw[ku a3.symm b3.symm c3.symm d3.symm];exact h1.lp,by rw[ku a4.symm b4.symm c4.symm d4.symm];exact h1.du⟩
   have heN:gM ad k H (M.upd e<|eO ad L (c+1)) e=ap (eO ad L (c+1)):=dJ F X;refine⟨rfl,aq λQ' E' J _=>ia o hs ht n g1 k1 _ (c+1) _ _ R.2.2.2 (by lia) (by lia) R.2.1 R.1 (dJ B heN) h1N (by lia) (J _ _ ?_)⟩
   rw[rb B heN,rb F X,Mem.upd_upd];have Z:k2.Fr (gM ad k H<|M.upd e<|eO ad L (c+1+(bX C s t n g1).asks)):=by
    have z:∀{b:eg},gM ad k H (M.upd e<|eO ad L (c+1)) b=cm->gM ad k H (M.upd e<|eO ad L (c+1+(bX C s t n g1).asks)) b=none:=λ{b} hb=>by
     obtain⟨n1,n2,n3,n4,n5⟩:=ca hb;rw[ku n1 n2 n3 n4];have:b≠e:=λz=>by rw[z,Mem.upd_same]at n5;cases n5
     rw[ae this]at n5 ⊢;exact n5
    exact⟨z B.a,z B.dn,z B.lp,z B.du⟩
   refine⟨rfl,aq λQ' E' J _=>ia o hs ht n g2 k2 _ (c+1+(bX C s t n g1).asks) _ _ S.2.2.2 (by lia) (by lia) S.2.1 S.1 (dJ F Mem.upd_same) Z (by lia) (J _ _ ?_)⟩
   rw[rb F Mem.upd_same,Mem.upd_upd];refine⟨bf (by simp),M.upd e (eO ad L (c+(1+(bX C s t n g1).asks+(bX C s t n g2).asks))),λb ob eb=>?_,h⟩
   have ec:c+1+(bX C s t n g1).asks+(bX C s t n g2).asks=c+(1+(bX C s t n g1).asks+(bX C s t n g2).asks):=by lia
   rw[ec];exact dJ F eb
end
def g0(C:Cse)(s t:Sta):Gs:=⟨C.names.zip s.nums,s.pieces,aB C s t,C.rows,(C.most:Nat)⟩
section
variable{t:Sta}
theorem yC(o:C.Ok):(aB C s t).Nodup:=by
 refine Tn _ ?_;show (cW C).Nodup;unfold cW;rw[SV];refine⟨?_,?_,?_⟩
 .exact TM _ (λa b h z=>h (Si z)) o.nd
 .exact TM _ (λa b h z=>h (by have:=Rh z;lia)) Ta
 .intro a f b e z
  obtain⟨x,_,rfl⟩:=Pf.mp f;obtain⟨y,_,rfl⟩:=Pf.mp e;cases z
theorem kx:∀x∈aB C s t,x∈cW C:=λx e=>(OC.mp e).1
theorem tS(o:C.Ok):(aB C s t).length<=200:=by
 have e:(aB C s t).length<=(cW C).length:=Po _ _;have f:(cW C).length=C.names.length+C.many:=by simp[cW]
 have:=o.l1;have:=o.few;lia
theorem ce(o:C.Ok)(B:SOk C s)(F:SOk C t)(h:∀p,M p=cm->Q (.ref p) (M.upd p<|.lst<|(aB C s t).map kD)):k4 ad [bF C s t] M Q E:=by
 rw[MB (n:=0)];unfold xA bF;simp only[az,aj,aa,ah,ac,dC,af,dt,Ov,au,aJ,atI_0,atI_1,atI_2];exact⟨rfl,aq λQ' E' e _=>AH o B F λp f=>e _ _ (ak<|h p f)⟩
theorem CZ(o:C.Ok)(e:SOk C s):GOk C (g0 C s t):=⟨(o.pl e).nok,e.lp,e.rp,o.ok⟩
theorem uW(o:C.Ok)(hs:SOk C s)(ht:SOk C t)(h:∀k:Gk,k.Fr M->Q (.ref k.a) (gM ad k (g0 C s t) M)):yu ad [bF C s t] M Q E:=by
 have ul:=tS (s:=s) (t:=t) o;have R:=@LC C s t;have hcd:=@AS C;have hsd:s.d=.tup [.tup (s.nums.map D.int),.tup (s.pieces.map D.int)]:=rfl;rw[NS (n:=0)];unfold yj qr;generalize Y:ma ad (aA E)=K2;simp only[ai,ar,ah,ac,dC,ag,OM,dt,Ov,R,au,aJ,atI_0,atI_1];rw[<- R,<- Y];unfold ma;generalize hK1:mm ad (aA E)=K1;simp only[ai,ar,bz,aa,af,ao,aX,bH,aj,ac,bu,Oy,OZ,OS,OU,dt,Ov];refine⟨rfl,aq λQ' E' Z _=>ce o hs ht λp hp=>Z _ _ (cC hp ?_)⟩;simp only[aJ,bE];refine gc (λd=>.tup [d,.bl true]) aS (by simp;lia) (λx J K q=>?_) ?_
 .simp only[aK,aa,ac,dC,af,Ov,dt]
  exact⟨bf (by simp),q⟩
 intro p hp;refine cC hp ?_;have e:((aB C s t).map kD).map (λd=>D.tup [d,.bl true])=(aB C s t).map λk=>D.tup [kD k,.bl true]:=by simp
 rw[e];have hnd:(([]:List (aG×D)).map (·.1)++(uD<|aB C s t).map (·.1)).Nodup:=by rw[m9];exact yC o
 simp only[fS,Ct,gW,jO,xJ hnd,OU];refine⟨trivial,by simp[uD];lia,λH h3=>?_⟩
 simp only[ag,OM];rw[<- hK1];unfold mm;simp only[az,fY,aa,fK,ah,ac,dC,af,bz,aj,ao,dt,Ov,hcd,hsd,au,aJ,atI_0,atI_1,eA,Ox];refine⟨hs.ln.symm,o.l0,OV o.l1 (by decide),λP X=>?_⟩
 have B:H≠P:=Mem.ne Mem.upd_same X;rw[ae B.symm]at X;simp only[eR,aJ];intro O W;have S:P≠O:=Mem.ne Mem.upd_same W;rw[ae S.symm]at W;have G:H≠O:=Mem.ne Mem.upd_same W;rw[ae G.symm]at W;simp only[R,atI_3,dt,Ov];refine⟨rfl,aO (λ_ _ q=>eJ (td:=[]) q) ?_⟩;have ft:∀{l:List Rw}{M:Mem}{Q:DK},Q (nZ l) M->frz (nZ l) M Q:=λ{l} {M} {Q} q=>by cases l<;>exact q
 rw[Pw];refine ft ?_;refine⟨rfl,λx J=>?_⟩;have F:O≠x:=Mem.ne Mem.upd_same J;rw[ae F.symm]at J;have f:P≠x:=Mem.ne Mem.upd_same J;rw[ae f.symm]at J;have I:H≠x:=Mem.ne Mem.upd_same J;rw[ae I.symm]at J;refine aq λQ' E' Z _=>ni (Z _ _ ?_);rw[fV hs.ln.symm o.nd];have key:((((M.upd H<|.dK<|uD<|aB C s t).upd P<|.dK<|dE<|C.names.zip s.nums).upd O<|.lst<|s.pieces.map D.int).upd x<|.ins ad.C_Going [("numbers",.ref P),("pieces",.ref O),("unsettled",.ref H),("todo",nZ C.rows),("left",.int (C.most:Nat))])=gM ad ⟨x,P,O,H,f.symm,F.symm,I.symm,S,B.symm,G.symm⟩ (g0 C s t) M:=by
  unfold gM gF g0;rw[aC F,aC f,aC I,aC (a:=H) (b:=P) B,aC (a:=H) (b:=O) G]
 rw[key];exact ak (h ⟨x,P,O,H,f.symm,F.symm,I.symm,S,B.symm,G.symm⟩ ⟨J,X,W,h3⟩)
def Cse.tree(C:Cse)(s t:Sta):Tr:=bX C s t 24 (g0 C s t)
theorem zN(o:C.Ok)(p:SOk C s)(G:SOk C t)(X:C.mark s=.int a)(f:C.mark t=.int b)(F:a≠b)(W:(aB C s t).length<24)(S:1+(C.tree s t).asks<=L)(h:Q (C.tree s t).d M):
  wQ ad [bF C s t,.int (L:Nat)] M Q E:=by
 rw[LZ (n:=0)];unfold xI qh;generalize B:kC ad (aA E)=K2;simp only[ai,bn,aj,aa,ac,af,ar,fY,dt,Ov];refine⟨rfl,aO (λ_ _ q=>nB o p G X f F q) ⟨rfl,λe H=>?_⟩⟩;have O:bG ("limit":Str) (.int (L:Nat)) []=[(("limit":Str),D.int (L:Nat))]:=rfl;have R:bG ("count":Str) (.int 0) [(("limit":Str),D.int (L:Nat))]=[(("limit":Str),D.int (L:Nat)),(("count":Str),D.int 0)]:=rfl;refine aq λQ' E' hq _=>?_;rw[u_q8 (n:=0)];unfold E8;simp![Mem.upd_same,Mem.upd_upd,O,R,Pn,OE];refine⟨by decide,by decide,ak<|hq _ _ ?_⟩
 simp only[ag,OM];rw[<- B];unfold kC qu;simp only[ai,bn];have J:Pd ("one_more":Str) [(("limit":Str),D.int (L:Nat)),(("count":Str),D.int 0)]=none:=rfl;refine Bg (a:=e) (λK q=>q) Mem.upd_same J ?_;simp only[af];refine⟨rfl,aq λQ' E' hq _=>j8 (L:=L) (c:=0) Mem.upd_same (by lia) (hq _ _ ?_)⟩
 rw[Mem.upd_upd];simp only[az,aj,aa,ac,af,ao,dt,Ov];refine⟨rfl,aq λQ' E' hq _=>uW o p G λk I=>hq _ _ ?_⟩;have P:∀{M:Mem}{Q:DK}{fs:List (Str×D)},M k.a=ap (.ins ad.C_Going fs)->Q (.ref k.a) M->frz (.ref k.a) M Q:=λ{M Q fs} e z=>by simp only[frz,e];exact z
 refine P cJ ⟨rfl,aq λQ' E' hq _=>ia o p G 24 _ k _ 1 _ _ (CZ o p) (by show (0:Int)<=((C.most:Nat):Int);lia) (Q6 _) kx W Mem.upd_same I S (hq _ _ ?_)⟩
 rw[Mem.upd_upd];refine⟨M,λb Y f=>?_,h⟩;rw[ae (Mem.ne f H)];exact f
end
theorem zJ(a b:Nat):So (a:Int) (b:Int)=((a ||| b:Nat):Int):=by
 have f:decide ((0:Int)<=-(a:Int)-1)=false:=decide_eq_false (by lia)
 have h:decide ((0:Int)<=-(b:Int)-1)=false:=decide_eq_false (by lia)
 have e:(-(-(a:Int)-1)-1).toNat=a:=by lia
 have p:(-(-(b:Int)-1)-1).toNat=b:=by lia
 unfold So RD Builtin.bitNot;rw[f,h];simp only[e,p];lia
theorem Cb(a:Nat):RD (a:Int) 1=((a % 2:Nat):Int):=by
 have e:decide ((0:Int)<=(a:Int))=true:=decide_eq_true (by lia)
 unfold RD;rw[e];show (((a:Int).toNat &&& (1:Int).toNat:Nat):Int)=_;rw[OL];show ((a &&& 1:Nat):Int)=_;rw[Nat.and_one_is_mod]
def Dy(b:Nat):Nat:=P6 (b:Int)
def av(b:Nat):List Nat:=(Pm<|Dy b).filter λi=>b.testBit i
theorem Cu{b m:Nat}(h:b<2 ^ m):Dy b<=m:=by
 unfold Dy P6
 split
 .lia
 .rename_i e
  have f:b≠0:=λz=>e (by rw[z];rfl)
  rw[Int.natAbs_natCast];have:=(UU f).mpr h;lia
theorem gH{b m:Nat}(h:b<2 ^ m):av b=(Pm m).filter λi=>b.testBit i:=by
 obtain⟨d,rfl⟩:∃d,m=Dy b+d:=⟨m-Dy b,by have:=Cu h;lia⟩
 unfold av;rw[List.range_add,P4];have:((Pm d).map (Dy b+·)).filter (λi=>b.testBit i)=[]:=by
  rw[Sf];intro i p;obtain⟨j,_,rfl⟩:=Pf.mp p;have e:b<2 ^ Dy b:=by
   unfold Dy P6
   split
   .rename_i f
    have:b=0:=by have:=beq_iff_eq.mp f;lia
    subst this;decide
   .rename_i f
    rw[Int.natAbs_natCast];exact Nat.lt_log2_self
  rw[Sl (OF e<|Py (by decide)<|P5 _ _)]
  simp
 rw[this,Pw]
section
theorem g8{b:Nat}(J:b<2 ^ 200)(h:∀p,M p=cm->Q (.ref p) (M.upd p<|.lst ((av b).map λ(i:Nat)=>D.int (i:Int)))):sw ad [.int (b:Nat)] M Q E:=by
 have B:=Cu J;rw[NA (n:=0)];unfold xQ;simp only[az,aX,fG,aa,mM,ac,af,kA,dt,Ov,bu,Oy,OZ,OS,OU,PR];have F:((P6 (b:Int):Nat):Int)<=200:=by have:P6 (b:Int)<=200:=B;lia
 refine⟨rfl,by lia,by lia,?_⟩
 refine dk (λd=>match d with|.int i=>b.testBit i.toNat|_=>eC) id aS ?_ (λx f K q=>?_) (λx f _ K q=>q) ?_
 .simp only[dW,Ox,SW,OL];show Dy b<=_;lia
 .simp only[dW,Pf,P7]at f
  obtain⟨i,O,rfl⟩:=f;rw[S7]at q ⊢;have G:((b:Nat):Int) / 2 ^ (((i:Nat):Int)).toNat=((b / 2 ^ i:Nat):Int):=by rw[OL];simp
  simp only[am,ah,ac,dC,dt,Ov,Iz,Kx,oI,jt,G,Cb,bZ,dv,bj,aP];refine⟨by lia,trivial,trivial,?_⟩
  simp only[OL,Nat.testBit_eq_decide_div_mod_eq]at q;have H:decide (((b / 2 ^ i % 2:Nat):Int)=1)=decide (b / 2 ^ i % 2=1):=by congr 1;exact propext (by lia)
  rw[H];exact q
 .intro p I
  have e:((dW 0<|Uz ((P6 (b:Int):Nat):Int)).filter λd=>match d with|.int i=>b.testBit i.toNat|_=>eC).map id=(av b).map λ(i:Nat)=>D.int (i:Int):=by
   rw[Qj];unfold dW av Dy;rw[P9,OL];have:∀l:List Nat,l.map (λ(i:Nat)=>D.int (0+(i:Int)))=l.map λ(i:Nat)=>D.int (i:Int):=λl=>PN λi _=>by simp
   rw[this];congr 1;refine QI λi _=>?_;simp
  rw[e];exact ak (h p I)
theorem qH{te:bp}{ok:Mem->Prop}{Q:List D->Mem->Prop}{b:BxC (fH 2<|b6 (ag 0)<|b6 (ag 1) fm) dG te ok Q}{rest:Dl}(f:Nat->D->D)(e:ok M):∀(xs:List D)(j:Nat)(Xe:List D)(F B:Option D),Xe.length+xs.length<=100000->
  (∀(i:Nat) x,xs[i]?=ap x->∀K:DK,K (f (j+i) x) M->te (ap (.int ((j+i:Nat):Int))::ap x::rest) M K)->Q (Xe++(xs.zipIdx j).map λp=>f p.2 p.1) M->
  cw (fH 2<|b6 (ag 0)<|b6 (ag 1) fm) dG te ok Q b (d_ j xs) Xe (F::B::rest) M
 |[],j,Xe,F,B,hl,he,h=>by
  unfold d_ cw;exact⟨e,by simpa using h⟩
 |x::xs,j,Xe,F,B,hl,he,h=>by
  simp only[OE]at hl;unfold d_ cw;refine⟨e,?_⟩;simp only[fH,b6,fm,ag,OM,dG,if_true];refine⟨rfl,he 0 x rfl _ ⟨jx (by lia),?_⟩⟩
  refine qH f e xs (j+1) _ _ _ (by simp;lia) (λi y G K q=>?_) ?_
  .have:=he (i+1) y (by simpa using G) K (by rw[show j+(i+1)=j+1+i by lia];exact q)
   rw[show j+(i+1)=j+1+i by lia]at this
   exact this
  .simpa [Qr] using h
end
structure Out where
 v:Str
 s:Nat
 f:Nat
def Al(ad:Ad)(x:Out):MO:=.ins ad.C_Outcome [("verdict",.str x.v),("sound",.int (x.s:Nat)),("faulty",.int (x.f:Nat))]
def Ext(M M':Mem):Prop:=∀b o,M b=ap o->M' b=ap o
theorem Ext.refl:Ext M M:=λ_ _ e=>e
theorem Ext.trans{M1 M2:Mem}(a:Ext M M1)(b:Ext M1 M2):Ext M M2:=λx o e=>b x o (a x o e)
theorem Ext.no(h:Ext M M'){b:eg}(e:M' b=cm):M b=none:=by
 cases q:M b with
 |none=>rfl
 |some o=>rw[h b o q]at e;cases e
theorem Ext.new{b:eg}(h:M b=cm):Ext M (M.upd b o):=λx u e=>by rw[ae (Mem.ne e h)];exact e
theorem Ext.upd{b:eg}(x:Ext M M')(h:M b=cm):Ext M (M'.upd b o):=λc u e=>by rw[ae (Mem.ne e h)];exact x c u e
theorem Ext.del{b:eg}(x:Ext M M')(h:M b=cm):Ext M (M'.del b):=λc u e=>by unfold Mem.del;rw[if_neg (Mem.ne e h)];exact x c u e
inductive Lay(ad:Ad)(M:Mem):List eg->List Out->Prop
 |nil:Lay ad M [] []
 |cons {a:eg} {x:Out} {as:Xm} {xs:List Out} (h:M a=ap (Al ad x)) (t:Lay ad M as xs):Lay ad M (a::as) (x::xs)
theorem Lay.go{ad:Ad}{M M':Mem}:∀{e:Xm}{xs:List Out},Lay ad M e xs->(∀a x,M a=ap (Al ad x)->M' a=ap (Al ad x))->Lay ad M' e xs
 |_,_,.nil,_=>.nil
 |_,_,.cons h t,g=>.cons (g _ _ h) (t.go g)
theorem Lay.snoc{ad:Ad}{M:Mem}{a:eg}{x:Out}(h:M a=ap (Al ad x)):∀{e:Xm}{xs:List Out},Lay ad M e xs->Lay ad M (e++[a]) (xs++[x])
 |_,_,.nil=>.cons h .nil
 |_,_,.cons h' t=>.cons h' (t.snoc h)
theorem Lay.length{ad:Ad}{M:Mem}:∀{e:Xm}{xs:List Out},Lay ad M e xs->e.length=xs.length
 |_,_,.nil=>rfl
 |_,_,.cons _ t=>congrArg (·+1) t.length
theorem w8{l:eg}{xs ys:List D}(h:M l=ap (.lst xs))(a:eg)(x:Out)(e:M a=ap (Al ad x)):(M.upd l<|.lst ys) a=ap (Al ad x):=by
 rw[ae (λz=>by rw[z,h]at e;cases e)];exact e
def jF(a b:Int)(m:D):Str:=if aP m (.int a)=true then "sound" else if aP m (.int b)=true then "faulty" else "other"
def bitK(us:List aG)(q:aG):Nat:=2 ^ us.idxOf q
def c_(a b:Int)(us:List aG):Tr->Nat->Nat->List Out
 |.e m,S,F=>[⟨jF a b m,S,F⟩]
 |.a q x y,S,F=>c_ a b us y S (F ||| bitK us q)++c_ a b us x (S ||| bitK us q) F
def EM(us:List aG):Tr->Prop
 |.e m=>m=.non\/∃v,m=.int v
 |.a q x y=>q∈us/\EM us x/\EM us y
def eh:Tr->Nat
 |.e _=>1
 |.a _ x y=>1+eh x+eh y
def wD(w:Tr×Nat×Nat):D:=.tup [w.1.d,.int (w.2.1:Nat),.int (w.2.2:Nat)]
def wv(a b:Int)(us:List aG)(ws:List (Tr×Nat×Nat)):List Out:=(ws.map λw=>c_ a b us w.1 w.2.1 w.2.2).flatten
def cM(ws:List (Tr×Nat×Nat)):Nat:=(ws.map λw=>eh w.1).sum
theorem ph:∀t:Tr,1<=eh t
 |.e _=>OB _
 |.a _ x y=>by unfold eh;lia
theorem NF:∀e:List (Tr×Nat×Nat),e.length<=cM e
 |[]=>OB _
 |w::e=>by
  have:=NF e;have:=ph w.1;simp only[cM,Oy,Pp,OE]at *;lia
def bD(us:List aG):List (aG×D):=us.zipIdx.map λp=>(p.1,D.int ((2 ^ p.2:Nat):Int))
theorem DN:(bD us).map (·.1)=us:=by
 unfold bD;rw[Qb];exact List.zipIdx_map_fst 0 us
theorem Jx(h:q∈us):cT (bD us) q=ap (.int ((bitK us q:Nat):Int)):=by
 have f:∀(l:List aG)(j:Nat),q∈l->cT ((l.zipIdx j).map λp=>(p.1,D.int ((2 ^ p.2:Nat):Int))) q=ap (.int ((2 ^ (j+l.idxOf q):Nat):Int)):=by
  intro l
  induction l with
  |nil=>intro j h;cases h
  |cons a r ih=>
   intro j h;rw[Qr,Oy];unfold cT;rw[P2]
   by_cases e:a=q
   .subst e
    simp[List.idxOf_cons]
   .have B:(a==q)=false:=by simpa using e
    simp only[e,decide_false];have:=ih (j+1) (by rcases OQ.mp h with z|z;exact absurd z.symm e;exact z)
    unfold cT at this;rw[this,List.idxOf_cons,B];congr 4;simp only[cond_false];lia
 have:=f us 0 h;rw[S2]at this;exact this
section
theorem vU{x:eg}{y:Out}(h:Q .non (M.upd x<|Al ad y)):FF ad [.ref x,.str y.v,.int (y.s:Nat),.int (y.f:Nat)] (M.upd x<|.ins ad.C_Outcome []) Q E:=by
 have e:bG ("verdict":Str) (.str y.v) []=[(("verdict":Str),D.str y.v)]:=rfl;have B:bG ("sound":Str) (.int (y.s:Nat)) [(("verdict":Str),D.str y.v)]=[(("verdict":Str),D.str y.v),(("sound":Str),D.int (y.s:Nat))]:=rfl;have p:bG ("faulty":Str) (.int (y.f:Nat)) [(("verdict":Str),D.str y.v),(("sound":Str),D.int (y.s:Nat))]=[(("verdict":Str),D.str y.v),(("sound":Str),D.int (y.s:Nat)),(("faulty":Str),D.int (y.f:Nat))]:=rfl;rw[u_q0 (n:=0)];unfold DB;simp![Mem.upd_same,Mem.upd_upd,e,B,p,Pn,OE];exact⟨by decide,by decide,by decide,ak h⟩
structure OK(ad:Ad)(M0:Mem)(us:List aG)(db lf lw:eg)(as:Xm)(ds:List Out)(ws:List (Tr×Nat×Nat))(N:Mem):Prop where
 x:Ext M0 N
 f:M0 lf=cm
 w:M0 lw=cm
 b:M0 db=cm
 bd:N db=ap (.dK<|bD us)
 lf':N lf=ap (.lst<|as.map D.ref)
 lw':N lw=ap (.lst (ws.map wD).reverse)
 ne:lf≠lw
 nb:lf≠db
 ny:Lay ad N as ds
 few:as.length+cM ws<=100000
 tr:∀w∈ws,EM us w.1
theorem BB{cs ld:D}{O P G:eg}{as:Xm}{ds:List Out}{w:Tr×Nat×Nat}{p:List (Tr×Nat×Nat)}{c6 c7 c8 c9:Option D}(I:OK ad M0 us O P G as ds (w::p) N)(h:∀as' ds' R N' c6 c7 c8 c9,OK ad M0 us O P G as' ds' R N'->cM R<cM (w::p)->ds'++wv a b us R=ds++wv a b us (w::p)->D'.nx [ap cs,ap ld,ap (.tup [.int a,.int b]),ap (.ref O),ap (.ref P),ap (.ref G),c6,c7,c8,c9] N'):
  gJ ad EE D' [ap cs,ap ld,ap (.tup [.int a,.int b]),ap (.ref O),ap (.ref P),ap (.ref G),c6,c7,c8,c9] N:=by
 obtain⟨tr,S,F⟩:=w;have ew:((((tr,S,F)::p).map wD).reverse)=(p.map wD).reverse++[wD (tr,S,F)]:=by simp
 have H:=I.lw';rw[ew]at H;have Y:((p.map wD).reverse++[wD (tr,S,F)])[((p.map wD).reverse++[wD (tr,S,F)]).length-1]?=ap (wD (tr,S,F)):=by simp
 have htr:=I.tr _ OR;have few:=I.few;have len:=NF p;simp only[cM,Oy,Pp]at few len;unfold gJ;generalize hK7:kU ad EE=K7;simp only[ai,ar,mM,ac,af,dt,Ov,eI,H,zo,Y,List.dropLast_concat];refine⟨trivial,?_⟩;simp only[ag,OM];rw[<- hK7];have wr:wD (tr,S,F)=.tup [tr.d,.int (S:Nat),.int (F:Nat)]:=rfl;unfold kU qj;generalize hK5:kX ad EE=K5;simp only[ai,ar,ah,ac,dC,wr,au,aJ,atI_1,atI_2,ag,OM,dt,Ov];rw[<- hK5];have I1:∀{u:D},(N.upd G<|.lst (p.map wD).reverse) P=ap (.lst<|as.map D.ref):=λ{u}=>by rw[ae I.ne];exact I.lf'
 have ex1:Ext M0 (N.upd G<|.lst (p.map wD).reverse):=I.x.upd I.w;have X:Lay ad (N.upd G<|.lst (p.map wD).reverse) as ds:=I.ny.go λa x=>w8 H a x;have W:O≠G:=λz=>by have:=I.bd;rw[z,H]at this;cases this
 have B:(N.upd G<|.lst (p.map wD).reverse) O=ap (.dK<|bD us):=by rw[ae W];exact I.bd
 generalize hN1:N.upd G (.lst (p.map wD).reverse)=N1 at *;have J:N1 G=ap (.lst (p.map wD).reverse):=by rw[<- hN1,Mem.upd_same]
 have uP:N1 P=ap (.lst<|as.map D.ref):=I1 (u:=.non);unfold kX;cases tr with
 |e m=>
  have ed:Tr.d (.e m)=.tup [.str "end",m]:=rfl;unfold qV;simp only[aH,am,ah,ac,dC,au,aJ,atI_0,atI_1,ed,bZ,dv,bj,aP,decide_true,if_true,dt,Ov,bn,mM,eI,uP,aa,fY,ao,aj,af];refine⟨trivial,trivial,trivial,rfl,aO (λ_ _ q=>kg htr q) ?_⟩;have fs:∀{x:Str}{M:Mem}{Q:DK},Q (.str x) M->frz (.str x) M Q:=λz=>z;refine fs ⟨rfl,λx Z=>aq λQ' E' hq _=>vU (y:=⟨jF a b m,S,F⟩) (hq _ _ ?_)⟩;have nx:P≠x:=Mem.ne uP Z;have nw:G≠x:=Mem.ne J Z;have nd:O≠x:=Mem.ne B Z;simp only[bW,ae nx,uP];refine⟨by simp[eh]at *;exact jx (by lia),?_⟩
  refine h (as++[x]) (ds++[⟨jF a b m,S,F⟩]) p _ _ _ _ _ ⟨(ex1.upd<|ex1.no Z).upd I.f,I.f,I.w,I.b,?_,?_,?_,I.ne,I.nb,?_,?_,λw hw=>I.tr w (OJ _ hw)⟩ ?_ ?_
  .rw[ae (Pa I.nb),ae nd];exact B
  .rw[Mem.upd_same];simp
  .rw[ae (Pa I.ne),ae nw];exact J
  .refine Lay.snoc ?_ (X.go λa y e=>?_)
   .rw[ae (Pa nx),Mem.upd_same]
   .rw[ae (λz=>by rw[z,uP]at e;cases e),ae (Mem.ne e Z)];exact e
  .simp only[cM,OH,PV,eh]at few ⊢;lia
  .simp[cM,eh]
  .simp[wv,c_]
 |a q x y=>
  obtain⟨hq,htx,hty⟩:=htr;have ed:Tr.d (.a q x y)=.tup [.str "ask",kD q,x.d,y.d]:=rfl;have hne:decide (("ask":Str)=("end":Str))=false:=by decide +kernel
  have gd:pR N1 O (kD q)=ap (ap<|.int ((bitK us q:Nat):Int)):=by simp only[pR,B,eS,Jx hq]
  have sq:aJ N1 (.ref O)=none:=by simp only[aJ,B]
  unfold qK rS qB;simp only[aH,am,ah,ac,dC,au,atI_0,atI_1,atI_2,atI_3,ed,bZ,dv,bj,aP,hne,dt,Ov,ai,ar,aJ,B,gd,ag,OM,bn,mM,eI,J,aa,aK,af,oOr,jt,zJ,bW,Mem.upd_same,Mem.upd_upd];refine⟨trivial,trivial,?_⟩;rw[if_neg (by simp)]
  have hr:(p.map wD).reverse.length=p.length:=by simp
  refine⟨trivial,bf (by simp),by rw[hr];exact jx (by simp[eh]at few;lia),trivial,bf (by simp),by rw[OH,hr];simp[eh]at few;exact jx (by simp;lia),?_⟩
  have er:((p.map wD).reverse++[D.tup [x.d,.int ((S ||| bitK us q:Nat):Int),.int (F:Nat)]])++[D.tup [y.d,.int (S:Nat),.int ((F ||| bitK us q:Nat):Int)]]=(((y,S,F ||| bitK us q)::(x,S ||| bitK us q,F)::p).map wD).reverse:=by simp[wD]
  rw[er];refine h as ds ((y,S,F ||| bitK us q)::(x,S ||| bitK us q,F)::p) _ _ _ _ _ ⟨ex1.upd I.w,I.f,I.w,I.b,by rw[ae W];exact B,by rw[ae I.ne];exact uP,Mem.upd_same,I.ne,I.nb,X.go λa x=>w8 J a x,?_,?_⟩ ?_ ?_
  .simp only[cM,Oy,Pp,eh]at few ⊢;lia
  .intro w hw
   rcases OQ.mp hw with z|hw
   .rw[z];exact hty
   .rcases OQ.mp hw with z|hw
    .rw[z];exact htx
    .exact I.tr w (OJ _ hw)
  .simp only[cM,Oy,Pp,eh];lia
  .simp[wv,c_]
end
section
variable{t:Sta}
theorem t6{us:List aG}{a b:Int}{X W:D}{J O H:eg}{M0:Mem}{D':DEnds}{EE:DX}{bx:BxW (dm<|ac 5) (gJ ad EE) D'}:∀(n:Nat)(G:Xm)(ds:List Out)(ws:List (Tr×Nat×Nat))(N:Mem)(F e f p:Option D),cM ws<=n->OK ad M0 us J O H G ds ws N->
  (∀B N' F e f p,OK ad M0 us J O H B (ds++wv a b us ws) [] N'->D'.nx [ap X,ap W,ap (.tup [.int a,.int b]),ap (.ref J),ap (.ref O),ap (.ref H),F,e,f,p] N')->
  bY (dm<|ac 5) (gJ ad EE) D' bx (n+1) [ap X,ap W,ap (.tup [.int a,.int b]),ap (.ref J),ap (.ref O),ap (.ref H),F,e,f,p] N
 |n,G,ds,[],N,F,e,f,p,hn,I,h=>by
  refine whF (λK q=>?_) (h G N F e f p<|by simpa [wv] using I)
  simp only[dm,ac,dt,Ov,Dw,I.lw'];exact q
 |0,G,ds,w::ws,N,F,e,f,p,hn,I,h=>by
  have:=ph w.1;simp only[cM,Oy,Pp]at hn;lia
 |n+1,G,ds,w::ws,N,F,e,f,p,hn,I,h=>by
  refine whT (λK q=>?_) (BB I λB P S N' d6 d7 d8 d9 I' hlt Y=>?_)
  .have:((((w::ws).map wD).reverse).isEmpty)=false:=by simp
   simp only[dm,ac,dt,Ov,Dw,I.lw',this];exact q
  .exact t6 n B P S N' d6 d7 d8 d9 (by lia) I' λR N2 e6 e7 e8 Z I2=>h R N2 e6 e7 e8 Z (by rw[<- Y];exact I2)
theorem qF{us:List aG}:∀(n:Nat)(g:Gs),(∀x∈g.u,x∈us)->EM us (bX C s t n g)
 |0,g,h=>.inl rfl
 |n+1,g,h=>by
  obtain⟨⟨p,f⟩,F,hask⟩:=ii (C:=C) (C.most+1) g;unfold bX;cases e:(bB C (C.most+1) g).1 with
  |none=>
   show KS C _=.non\/_;unfold KS
   split
   .exact .inr ⟨_,rfl⟩
   .exact .inl rfl
  |some q=>
   have hs:∀v,∀x∈(cj (bB C (C.most+1) g).2 q v).u,x∈us:=λv x B=>by rw[dS]at B;exact h x (f x (OC.mp B).1)
   exact⟨h q (f q<|hask q e),qF n _ (hs _),qF n _<|hs _⟩
theorem mD:∀t:Tr,eh t=2*t.asks+1
 |.e _=>rfl
 |.a _ x y=>by unfold eh Tr.asks;rw[mD x,mD y];lia
theorem pE:∀(us:List aG)(j:Nat),ui ((us.zipIdx j).map λp=>D.tup [kD p.1,.int ((2 ^ p.2:Nat):Int)])=ap ((us.zipIdx j).map λp=>(p.1,D.int ((2 ^ p.2:Nat):Int)))
 |[],_=>rfl
 |k::ks,j=>by simp only[Qr,Oy,ui,eS,pE ks (j+1)]
theorem oj(o:C.Ok)(hs:SOk C s)(ht:SOk C t)(ea:C.mark s=.int a)(eb:C.mark t=.int b)(R:a≠b)(hu:(aB C s t).length<24)(hc:1+(C.tree s t).asks<=L)(hL:L<=10000)(h:∀p as N,Ext M N->N p=ap (.lst<|as.map D.ref)->M p=cm->Lay ad N as (c_ a b (aB C s t) (C.tree s t) 0 0)->Q (.ref p) N):y2 ad [bF C s t,.int (L:Nat)] M Q E:=by
 have ul:=tS (s:=s) (t:=t) o;have hcs:=@LC C s t;rw[Op (n:=0)];unfold yN;generalize H:io ad (aA E)=K11;simp only[ai,ar,ao,aj,aa,ac,af,dt];have ft:∀{xs:List D}{M:Mem}{Q:DK},Q (.tup xs) M->frz (.tup xs) M Q:=λz=>z;refine⟨rfl,aO (λ_ _ q=>nB o hs ht ea eb R q)<|ft ?_⟩;simp only[ag,OM];rw[<- H];unfold io;generalize J:iP ad (aA E)=K10;simp only[ai,ar,bz,ao,aX,k7,aj,aa,ac,af,bu,Oy,OZ,OS,OU,dt,Ov];refine⟨rfl,aq λQ' E' hq _=>ce o hs ht λp Y=>hq _ _ (cC Y ?_)⟩;simp only[aJ,bE,iq];refine qH (λi d=>.tup [d,.int ((2 ^ i:Nat):Int)]) aS _ 0 [] _ _ (by simp;lia) (λi x X K q=>?_) ?_
 .have hi:i<200:=by
   have h1:i<((aB C s t).map kD).length:=by
    rcases Ql i ((aB C s t).map kD).length with z|z
    .exact z
    .rw[PC z]at X;cases X
   rw[Ox]at h1;lia
  simp only[aK,aa,ah,ac,dC,af,Lm,oI,dt,Ov];refine⟨⟨by lia,by lia,by decide⟩,bf (by simp),?_⟩
  have:(1:Int)*2 ^ (((0+i:Nat):Int)).toNat=((2 ^ (0+i):Nat):Int):=by rw[OL];simp
  rw[this];exact q
 intro p Y;refine cC Y ?_;have e:([]:List D)++(((aB C s t).map kD).zipIdx 0).map (λp=>D.tup [p.1,.int ((2 ^ p.2:Nat):Int)])=((aB C s t).zipIdx 0).map λp=>D.tup [kD p.1,.int ((2 ^ p.2:Nat):Int)]:=by
  rw[OU,List.zipIdx_map,Qb];rfl
 rw[e];have hnd:(([]:List (aG×D)).map (·.1)++(bD<|aB C s t).map (·.1)).Nodup:=by rw[DN];exact yC o
 have B:=xJ hnd;rw[OU]at B;simp only[fS,Ct,gW,pE];refine⟨trivial,by simp;lia,λS O=>?_⟩
 have G:(List.foldl (λa p=>eK a p.fst p.snd) []<|List.map (λp=>(p.1,D.int ((2 ^ p.2:Nat):Int)))<|List.zipIdx<|aB C s t)=bD (aB C s t):=B;rw[G];simp only[bQ,af,ag,OM];refine⟨bf (by simp),λP F=>?_⟩
 have n1:S≠P:=Mem.ne Mem.upd_same F;rw[ae n1.symm]at F;rw[<- J];unfold iP qf;simp only[ai,ar,bQ,aa,aK,aj,ac,dC,af,dt,Ov];refine⟨rfl,aO (λ_ _ q=>zN o hs ht ea eb R hu hc q) ⟨bf (by simp),bf (by simp),λW f=>?_⟩⟩
 have n2:P≠W:=Mem.ne Mem.upd_same f;rw[ae n2.symm]at f;have n3:S≠W:=Mem.ne Mem.upd_same f;rw[ae n3.symm]at f;simp only[ag,OM,dQ];have I:OK ad M (aB C s t) S P W [] [] [(C.tree s t,0,0)] (((M.upd S<|.dK<|bD<|aB C s t).upd P<|.lst []).upd W<|.lst [D.tup [(C.tree s t).d,.int 0,.int 0]]):=
  ⟨((Ext.new O).upd F).upd f,F,f,O,by rw[ae n3,ae n1,Mem.upd_same],by rw[ae n2,Mem.upd_same];rfl,Mem.upd_same,n2,n1.symm,.nil,by simp only[cM,Oy,OZ,Pp,SU,Pn,mD];lia,λw hw=>by
   rcases OQ.mp hw with z|z
   .rw[z];exact qF 24 _ λx X=>X
   .cases z⟩
 refine⟨_,t6 _ _ _ _ _ _ _ _ _ (OB _) I λZ N' c6 c7 c8 c9 I'=>?_⟩;simp only[az,ac,dt,Ov];refine ak (h P Z N' I'.x I'.lf' F ?_);have:=I'.ny;simpa [wv] using this
end
def fct:Nat->Nat
 |0=>1
 |n+1=>fct n*(n+1)
theorem eB:∀n,0<fct n
 |0=>by decide
 |n+1=>Nat.mul_pos (eB n) (Nat.succ_pos n)
theorem sD:∀{a b:Nat},a<=b->fct a<=fct b:=by
 intro a b h
 induction b with
 |zero=>
  exact S5 (congrArg fct<|Nat.le_zero.mp h)
 |succ b ih=>
  by_cases e:a=b+1
  .subst e;exact OB _
  .exact OV (ih<|by lia) (Nat.le_mul_of_pos_right _<|Nat.succ_pos b)
theorem fJ{a:Nat}(h:a<=20):((fct a:Nat):Int)<2 ^ 64:=by
 have e:=sD h;have f:fct 20<2 ^ 64:=by decide
 have:fct a<2 ^ 64:=by lia
 exact_mod_cast this
def gr(n:Nat):List D:=(Pm (n+1)).map λi=>D.int ((fct i:Nat):Int)
theorem iZ(h:i<=n):atI (gr n) (i:Int)=ap (.int ((fct i:Nat):Int)):=by
 rw[bo (by lia),OL,gr,OO,Qp (by lia)];rfl
theorem jR:atI (gr n) (-1)=ap (.int ((fct n:Nat):Int)):=by
 have e:(gr n).length=n+1:=by simp[gr]
 unfold atI rX;rw[if_neg (by decide),e]
 rw[if_pos (by lia)]
 have:((-1:Int)+((n+1:Nat):Int)).toNat=n:=by lia
 rw[this];show (gr n)[n]?=_;rw[gr,OO,Qp (by lia)];rfl
section
variable{t:Sta}
theorem hZ(J:n<=20)(h:∀p,M p=cm->Q (.ref p) (M.upd p<|.lst<|gr n)):tD ad [.int (n:Nat)] M Q E:=by
 rw[ML (n:=0)];unfold xl rB;simp only[ai,ar,bQ,aa,dC,af,ag,OM,cH,fG,ac,dt,Ov];refine⟨bf (by simp),λp I=>⟨by lia,by lia,?_⟩⟩
 refine cc (λB U N=>∃(c:Option D)(j:Nat),j<=n/\B=(Pm (n-j)).map (λ(i:Nat)=>D.int ((j+i:Nat):Int))/\U=[ap (.int (n:Nat)),ap (.ref p),c]/\N=M.upd p (.lst<|gr j)) (λ_ _ _ _=>aS) ?_ ?_ _ _ _ ⟨cm,0,by lia,?_,rfl,rfl⟩
 .rintro U N ⟨c,j,H,e,rfl,rfl⟩
  have:j=n:=by
   have:=congrArg QM e;simp at this;lia
  subst this;simp only[az,ac,dt,Ov];exact ak (h p I)
 .rintro y B U N ⟨c,j,H,e,rfl,rfl⟩ D' G _ _ _
  have f:j<n:=by
   rcases Ql j n with z|z
   .exact z
   .rw[show n-j=0 by lia]at e;simp at e
  rw[show n-j=(n-(j+1))+1 by lia,Uw]at e
  simp only[Oy,Qb,UK,Qf]at e;obtain⟨rfl,rfl⟩:=e;unfold rJ;simp only[ag,OM,bn,mM,ac,aa,ah,dC,af,vz,dt,Ov,eI,Mem.upd_same,au,aJ,jR,aW,cI,bW,Mem.upd_upd];have F:=fJ (a:=j) (by lia)
  refine⟨trivial,.inl ⟨by lia,F⟩,by simp[gr];exact jx (by lia),G _ _ ⟨_,j+1,f,?_,rfl,?_⟩⟩
  .refine PN λi _=>?_
   simp only[Function.comp];congr 2;lia
  .congr 2
   unfold gr;rw[Tq (n:=j+1),Q0];simp[fct]
 .simp[dW]
theorem uG{n d:Int}{EE:DX}{D':DEnds}{G:BxW (am<|ah k8 (ac 3)<|dC<|.int 0) (nS ad EE) D'}:∀(f:Nat)(v r:Nat)(p:Option D),r<f->r<v->(∀p,D'.nx [ap (.int n),ap (.int d),ap (.int ((Q3 v r:Nat):Int)),ap (.int 0),p] M)->
  bY (am<|ah k8 (ac 3)<|dC<|.int 0) (nS ad EE) D' G (f+1) [ap (.int n),ap (.int d),ap (.int (v:Nat)),ap (.int (r:Nat)),p] M
 |0,v,r,p,hf,hv,h=>by lia
 |f+1,v,r,p,hf,hv,h=>by
  have B:∀K:Bool->Mem->Prop,K (!decide (((r:Nat):Int)=0)) M->am (ah k8 (ac 3)<|dC<|.int 0) [ap (.int n),ap (.int d),ap (.int (v:Nat)),ap (.int (r:Nat)),p] M K:=λK q=>by
   simp only[am,ah,ac,dC,k8,dv,bj,aP,dt,Ov];exact⟨trivial,trivial,q⟩
  by_cases F:r=0
  .subst F
   refine whF (λK q=>B K (by simpa using q)) ?_
   have:=h p;rw[Nat.gcd_zero_right]at this;exact this
  .refine whT (λK q=>B K (by
    have:¬((r:Nat):Int)=0:=by lia
    rw[decide_eq_false this];exact q)) ?_
   unfold nS vg;have e:((v:Nat):Int) % ((r:Nat):Int)=((v % r:Nat):Int):=by simp
   simp only[ai,ar,ah,ac,ag,OM,dg,oI,dt,Ov,e];refine⟨by lia,uG f r (v % r) _ ?_ ?_ λp=>?_⟩
   .have:=Nat.mod_lt v (show r>0 by lia);lia
   .exact Nat.mod_lt v (by lia)
   .have:=h p
    rw[Nat.gcd_comm v r,Nat.gcd_rec,Nat.gcd_comm]at this;exact this
theorem sQ{n:Int}{d:Nat}(p:0<d)(e:d<2 ^ 190)(h:Q (.tup [.int (n / ((Q3 d (n % (d:Int)).toNat:Nat):Int)),.int (((d:Nat):Int) / ((Q3 d (n % (d:Int)).toNat:Nat):Int))]) M):Ei ad [.int n,.int (d:Nat)] M Q E:=by
 rw[u_q1 (n:=0)];unfold DP wd v_;have J:=PK n (show ((d:Nat):Int)≠0 by lia)
 have H:=PY n (show (0:Int)<((d:Nat):Int) by lia)
 have B:n % ((d:Nat):Int)=(((n % (d:Int)).toNat:Nat):Int):=by lia
 simp only[ai,ar,ah,ac,ag,OM,dg,oI,dt,Ov,dQ];refine⟨by lia,(n % (d:Int)).toNat+2,?_⟩
 rw[B];have G:0<Q3 d (n % (d:Int)).toNat:=Uu _ p;have F:Q3 d (n % (d:Int)).toNat<=d:=Nat.gcd_le_left _ p;refine uG _ d _ _ (by lia) (by lia) λI=>?_
 unfold vM;have f:((Q3 d (n % (d:Int)).toNat:Nat):Int)<2 ^ 200:=by
  have:Q3 d (n % (d:Int)).toNat<2 ^ 200:=RS F (S3 e<|by decide)
  exact_mod_cast this
 simp only[az,aK,aa,ah,ac,af,i7,oI,wW,dt,Ov];exact⟨⟨by lia,f⟩,⟨by lia,f⟩,bf (by simp),ak h⟩
end
mutual
theorem wG:∀(d:D)(n:Nat),bj n d=true->aP d d=true
 |.non,_,_=>rfl
 |.bl b,_,_=>by simp[aP]
 |.int i,_,_=>by simp[aP]
 |.str x,_,_=>by simp[aP]
 |.tup xs,n+1,h=>by simp only[aP];exact vI xs n (by simpa [bj] using h)
 |.lst xs,n+1,h=>by simp only[aP];exact vI xs n (by simpa [bj] using h)
 |.tup xs,0,h=>by simp[bj]at h
 |.lst xs,0,h=>by simp[bj]at h
 |.ty x,n,h=>by cases n<;>simp[bj]at h
 |.ref x,n,h=>by cases n<;>simp[bj]at h
 |.mt x,n,h=>by cases n<;>simp[bj]at h
 |.ml x,n,h=>by cases n<;>simp[bj]at h
theorem vI:∀(ds:List D)(n:Nat),bt n ds=true->gn ds ds=true
 |[],_,_=>by simp[gn]
 |d::ds,n,h=>by
  simp only[bt,PZ]at h;simp only[gn,wG d n h.1,vI ds n h.2,Ub]
end
def ic(n:Nat)(x:Out)(i:Nat):Int:=
 (if x.f.testBit i=true then ((fct n / fct ((av x.f).length+(av x.s).length)*fct ((av x.f).length-1)*fct (av x.s).length:Nat):Int) else 0)
 - (if x.s.testBit i=true then ((fct n / fct ((av x.f).length+(av x.s).length)*fct (av x.f).length*fct ((av x.s).length-1):Nat):Int) else 0)
def bU(n:Nat)(xs:List Out)(i:Nat):Int:=(xs.map λx=>ic n x i).sum
def cE(n:Nat)(T:Nat->Int):List D:=(Pm n).map λi=>D.int (T i)
structure OutOk(n:Nat)(x:Out):Prop where
 s:x.s<2 ^ n
 f:x.f<2 ^ n
 l:(av x.f).length+(av x.s).length<=n
theorem tT(h:j<n):(cE n T).set j (.int v)=cE n λi=>if i=j then v else T i:=by
 unfold cE;refine List.ext_getElem? λi=>?_;rw[RX]
 by_cases e:j=i
 .subst e
  rw[if_pos rfl,OO,Qp h];simp[h]
 .rw[if_neg e,OO,OO]
  by_cases f:i<n
  .rw[Qp f]
   have:¬i=j:=λz=>e z.symm;simp[this]
  .rw[PC (by simp;lia)];rfl
theorem rj(h:j<n):(cE n T)[j]?=ap (.int<|T j):=by
 unfold cE;rw[OO,Qp h];rfl
theorem yy{b:Nat}:(av b).Nodup:=Tn _ Ta
theorem dN{b:Nat}(h:b<2 ^ n):i∈av b↔i<n/\b.testBit i=true:=by
 rw[gH h,OC,P7]
section
variable{t:Sta}
theorem nW{n:Nat}{D':DEnds}{lt:eg}{H:aE}{ok:Mem->Prop}{R:BxF (ag 10) H D' ok}{v:Int}{δ0:Dl}{P:Prop}(p:∀M,ok M)(F:δ0.length=10)
  (G:P->∀(j:Nat)(T:Nat->Int)(N:Mem)(D2:DEnds),j<n->N lt=ap (.lst<|cE n T)->D2.nx (δ0++[ap (.int (j:Nat))]) (N.upd lt<|.lst (cE n λi=>if i=j then T i+v else T i))->H D2 (δ0++[ap (.int (j:Nat))]) N):
  ∀(f:List Nat)(T:Nat->Int)(N:Mem)(c:Option D),(f≠[]->P)->(∀j∈f,j<n)->f.Nodup->N lt=ap (.lst<|cE n T)->(∀c,D'.nx (δ0++[c]) (N.upd lt<|.lst (cE n λi=>T i+if i∈f then v else 0)))->
  gU (ag 10) H D' ok R (f.map λ(j:Nat)=>D.int (j:Int)) (δ0++[c]) N
 |[],T,N,c,hP,hj,nd,hN,h=>by
  unfold gU;refine⟨p _,?_⟩;have:=h c;simp only[Pu,if_false,Sn]at this;rw[mZ hN]at this;exact this
 |j::f,T,N,c,hP,hj,nd,hN,h=>by
  unfold gU;refine⟨p _,?_⟩;have J:(δ0++[c]).set 10 (ap<|.int (j:Int))=δ0++[ap (.int (j:Int))]:=by
   rw[List.set_append_right _ _ (by lia),F];rfl
  simp only[ag,J];have B:=QC.mp nd;refine G (hP<|by simp) j T N _ (hj j OR) hN ?_
  refine nW p F G f _ _ _ (λ_=>hP (by simp)) (λx O=>hj x (OJ _ O)) B.2 Mem.upd_same λc=>?_
  rw[Mem.upd_upd];have e:(λi=>(if i=j then T i+v else T i)+if i∈f then v else 0)=λi=>T i+if i∈j::f then v else 0:=by
   funext i
   by_cases I:i=j
   .subst I
    simp[B.1]
   .simp[I]
  rw[e];exact h c
theorem B9{x:Out}{a:eg}{lt:eg}{X S W B:D}{c7 c8 c9 G:Option D}(hn:n<=20)(H:OutOk n x)(ha:N a=ap (Al ad x))(hl:N lt=ap (.lst<|cE n T))(h:∀c7 c8 c9 G,D'.nx [ap X,ap S,ap W,ap (.ref lt),ap B,ap (.lst<|gr n),ap (.ref a),c7,c8,c9,G] (N.upd lt<|.lst (cE n λi=>T i+ic n x i))):
  gz ad EE D' [ap X,ap S,ap W,ap (.ref lt),ap B,ap (.lst<|gr n),ap (.ref a),c7,c8,c9,G] N:=by
 have hx1:=H.l;have p1:x.f<2 ^ 200:=OF H.f (Py (by decide)<|OV hn<|by decide)
 have p2:x.s<2 ^ 200:=OF H.s (Py (by decide)<|OV hn<|by decide)
 have f1:Pd ("faulty":Str) [(("verdict":Str),D.str x.v),(("sound":Str),D.int (x.s:Nat)),(("faulty":Str),D.int (x.f:Nat))]=ap (.int (x.f:Nat)):=rfl;have f2:Pd ("sound":Str) [(("verdict":Str),D.str x.v),(("sound":Str),D.int (x.s:Nat)),(("faulty":Str),D.int (x.f:Nat))]=ap (.int (x.s:Nat)):=rfl;unfold Al at ha;unfold gz;generalize Y:me ad EE=K5;simp only[ai,ar,ao,aj,aa,aZ,ac,af,dt,Ov,ha,f1];refine⟨trivial,rfl,aq λQ' E' hq _=>g8 p1 λp Z=>hq _ _ (cC Z ?_)⟩;simp only[ag,OM];rw[<- Y];unfold me;generalize hK4:mr ad EE=K4;simp only[ai,ar,ao,aj,aa,aZ,ac,af,dt,Ov,ha,f2];refine⟨trivial,rfl,aq λQ' E' hq _=>g8 p2 λp Z=>hq _ _ (cC Z ?_)⟩;simp only[ag,OM];rw[<- hK4];unfold mr;generalize hK3:lP ad EE=K3;generalize O:(av x.f).length=al at *;generalize I:(av x.s).length=zl at *;have la:∀(l:List Nat),(l.map λ(i:Nat)=>D.int (i:Int)).length=l.length:=λl=>by simp
 have eaz:((al:Nat):Int)+((zl:Nat):Int)=((al+zl:Nat):Int):=by lia
 simp only[ai,ar,ah,ac,bz,aa,af,dC,ao,vz,dt,Ov,bM,aJ,au,jR,la,O,I,aW,frz,eaz,iZ (show al+zl<=n by lia),i7,oI,wW,ag,OM]
 have fb:=fJ (a:=al+zl) (by lia)
 have fp:=eB (al+zl);refine⟨⟨by lia,Int.lt_trans fb<|by decide⟩,?_⟩
 have ee:((fct n:Nat):Int) / ((fct (al+zl):Nat):Int)=((fct n / fct (al+zl):Nat):Int):=by simp
 rw[ee,<- hK3];unfold lP pL pV;simp only[ai,cH,bH,ac,aJ,bE,dt,Ov];have hz:zl<=n:=by lia
 have b1:=fJ (a:=zl) (by lia)
 have b2:=fJ (a:=al) (by lia)
 have b1':(0:Int)<=((fct zl:Nat):Int):=by lia
 refine nW (n:=n) (lt:=lt) (P:=0<al) (δ0:=[ap X,ap S,ap W,ap (.ref lt),ap B,ap (.lst<|gr n),ap (.ref a),ap (.lst ((av x.f).map λ(i:Nat)=>D.int (i:Int))),ap (.lst ((av x.s).map λ(i:Nat)=>D.int (i:Int))),ap (.int ((fct n / fct (al+zl):Nat):Int))]) (v:=((fct n / fct (al+zl)*fct (al-1)*fct zl:Nat):Int)) (λ_=>aS) rfl (λhP j T N D2 F hN q=>?_) (av x.f) T N G (λz=>?_) (λj F=>((dN H.f).mp F).1) yy hl λc=>?_
 .have e1:((al:Nat):Int)-1=((al-1:Nat):Int):=by lia
  have b3:=fJ (a:=al-1) (by lia)
  have hm:((fct n / fct (al+zl):Nat):Int)*((fct (al-1):Nat):Int)*((fct zl:Nat):Int)=((fct n / fct (al+zl)*fct (al-1)*fct zl:Nat):Int):=by simp
  simp only[OS,OU]at q ⊢;simp only[ue,ac,ah,bz,aa,af,dC,dt,Ov,AL,hN,OL,rj F,bM,aJ,au,la,O,I,fI,jt,e1,iZ (show al-1<=n by lia),iZ hz,cI,pb,hm,nz]
  have ix:rX (cE n T).length ((j:Nat):Int)=ap j:=by rw[fq (by lia) (by simp[cE];exact F),OL]
  simp only[ix,tT F];refine⟨by lia,.inr ⟨by lia,b3⟩,.inr ⟨by lia,b1⟩,?_⟩
  have J:(λi=>if i=j then T j+((fct n / fct (al+zl)*fct (al-1)*fct zl:Nat):Int) else T i)=λi=>if i=j then T i+((fct n / fct (al+zl)*fct (al-1)*fct zl:Nat):Int) else T i:=by
   funext i
   by_cases e:i=j
   .subst e;rfl
   .simp[e]
  rw[J];exact q
 .rw[<- O];exact UX.mpr z
 .simp only[OS,OU,dt,Ov]
  refine nW (n:=n) (lt:=lt) (P:=0<zl) (δ0:=[ap X,ap S,ap W,ap (.ref lt),ap B,ap (.lst<|gr n),ap (.ref a),ap (.lst ((av x.f).map λ(i:Nat)=>D.int (i:Int))),ap (.lst ((av x.s).map λ(i:Nat)=>D.int (i:Int))),ap (.int ((fct n / fct (al+zl):Nat):Int))]) (v:=-((fct n / fct (al+zl)*fct al*fct (zl-1):Nat):Int)) (λ_=>aS) rfl (λhP j T N D2 F hN q=>?_) (av x.s) _ _ c (λz=>?_) (λj F=>((dN H.s).mp F).1) yy Mem.upd_same λc=>?_
  .have e1:((zl:Nat):Int)-1=((zl-1:Nat):Int):=by lia
   have b3:=fJ (a:=zl-1) (by lia)
   have hm:((fct n / fct (al+zl):Nat):Int)*((fct al:Nat):Int)*((fct (zl-1):Nat):Int)=((fct n / fct (al+zl)*fct al*fct (zl-1):Nat):Int):=by simp
   simp only[OS,OU]at q ⊢;simp only[ue,ac,ah,bz,aa,af,dC,dt,Ov,AL,hN,OL,rj F,bM,aJ,au,la,O,I,fI,jt,e1,iZ (show zl-1<=n by lia),iZ (show al<=n by lia),cI,pb,hm,nz]
   have ix:rX (cE n T).length ((j:Nat):Int)=ap j:=by rw[fq (by lia) (by simp[cE];exact F),OL]
   simp only[ix,tT F];refine⟨by lia,.inr ⟨by lia,b2⟩,.inr ⟨by lia,b3⟩,?_⟩
   have J:(λi=>if i=j then T j-((fct n / fct (al+zl)*fct al*fct (zl-1):Nat):Int) else T i)=λi=>if i=j then T i+-((fct n / fct (al+zl)*fct al*fct (zl-1):Nat):Int) else T i:=by
    funext i
    by_cases e:i=j
    .subst e;simp[Int.sub_eq_add_neg]
    .simp[e]
   rw[J];exact q
  .rw[<- I];exact UX.mpr z
  .rw[Mem.upd_upd]
   have J:cE n (λi=>(T i+if i∈av x.f then ((fct n / fct (al+zl)*fct (al-1)*fct zl:Nat):Int) else 0)+if i∈av x.s then -((fct n / fct (al+zl)*fct al*fct (zl-1):Nat):Int) else 0)=cE n λi=>T i+ic n x i:=by
    unfold cE;refine PN λi R=>?_;have R:=P7.mp R;congr 1;unfold ic;rw[O,I];have m1:(i∈av x.f)=(x.f.testBit i=true):=propext ⟨λz=>((dN H.f).mp z).2,λz=>(dN H.f).mpr ⟨R,z⟩⟩;have m2:(i∈av x.s)=(x.s.testBit i=true):=propext ⟨λz=>((dN H.s).mp z).2,λz=>(dN H.s).mpr ⟨R,z⟩⟩;simp only[m1,m2]
    split<;>split<;>lia
   rw[J];exact h _ _ _ _
end
def LH(N:Mem)(a:eg):Bool:=match N a with
 |some (.ins _ fs)=>match fs.lookup ("verdict":Str) with
  |some (.str v)=>decide (v=("faulty":Str))
  |_=>eC
 |_=>eC
theorem AE{a:eg}{x:Out}(h:N a=ap (Al ad x)):LH N a=decide (x.v=("faulty":Str)):=by
 unfold LH;rw[h];rfl
theorem Lay.filt{ad:Ad}{N:Mem}:∀{p:Xm}{xs:List Out},Lay ad N p xs->Lay ad N (p.filter<|LH N) (xs.filter λx=>decide (x.v=("faulty":Str)))
 |_,_,.nil=>.nil
 |_,_,.cons (a:=a) (x:=x) h t=>by
  have e:=AE h;have f:=t.filt
  by_cases c:x.v=("faulty":Str)
  .rw[Ui (by rw[e];simpa using c),Ui (by simpa using c)]
   exact .cons h f
  .rw[Uj (by rw[e];simpa using c),Uj (by simpa using c)]
   exact f
theorem Lay.mem{ad:Ad}{N:Mem}{c:eg}:∀{e:Xm}{xs:List Out},Lay ad N e xs->c∈e->∃y,N c=ap (Al ad y)
 |_,_,.nil,h=>by cases h
 |_,_,.cons h t,hc=>by
  rcases OQ.mp hc with z|z
  .rw[z];exact⟨_,h⟩
  .exact t.mem z
theorem j5{a b:Int}{us:List aG}:∀(t:Tr){S F:Nat},(c_ a b us t S F).length=t.asks+1
 |.e m,S,F=>rfl
 |.a q x y,S,F=>by unfold c_ Tr.asks;rw[OH,j5 x,j5 y];lia
section
variable{t:Sta}
theorem uK{n:Nat}{lt:eg}{W P R p:D}{D':DEnds}{EE:DX}{ok:Mem->Prop}{bx:BxF (ag 6) (gz ad EE) D' ok}(O:n<=20)(B:∀M,ok M):∀(S:Xm)(xs:List Out)(T:Nat->Int)(N:Mem)(I F G H f:Option D),Lay ad N S xs->(∀x∈xs,OutOk n x)->N lt=ap (.lst<|cE n T)->
  (∀I F G H f,D'.nx [ap W,ap P,ap R,ap (.ref lt),ap p,ap (.lst<|gr n),I,F,G,H,f] (N.upd lt<|.lst (cE n λi=>T i+bU n xs i)))->
  gU (ag 6) (gz ad EE) D' ok bx (S.map D.ref) [ap W,ap P,ap R,ap (.ref lt),ap p,ap (.lst<|gr n),I,F,G,H,f] N
 |_,_,T,N,I,F,G,H,f,.nil,hx,hl,h=>by
  have:=h I F G H f;simp only[bU,OZ,SU,Sn]at this;rw[mZ hl]at this;exact⟨B _,this⟩
 |_,_,T,N,I,F,G,H,f,.cons (a:=a) (x:=x) (xs:=xs) ha ht,hx,hl,h=>by
  rw[Oy];unfold gU;refine⟨B _,?_⟩;simp only[ag,OM];refine B9 O (hx x OR) ha hl λd7 d8 d9 d10=>?_;refine uK O B _ xs _ _ _ _ _ _ _ (ht.go λb y e=>w8 hl b y e) (λy X=>hx y (OJ _ X)) Mem.upd_same λZ e7 e8 Y J=>?_;rw[Mem.upd_upd];have:=h Z e7 e8 Y J;simp only[bU,Oy,Pp]at this ⊢;simp only[Int.add_assoc];exact this
theorem o7(o:C.Ok)(hs:SOk C s)(ht:SOk C t)(ea:C.mark s=.int a)(eb:C.mark t=.int b)(hab:a≠b)(hu:(aB C s t).length<=20)(hc:1+(C.tree s t).asks<=L)(hL:L<=10000)(J:∀x∈(c_ a b (aB C s t) (C.tree s t) 0 0).filter (λx=>decide (x.v=("faulty":Str))),OutOk (aB C s t).length x)(h:∀p,M p=cm->Q (.ref p) (M.upd p<|.lst<|cE (aB C s t).length<|bU (aB C s t).length ((c_ a b (aB C s t) (C.tree s t) 0 0).filter λx=>decide (x.v=("faulty":Str))))):sJ ad [bF C s t,.int (L:Nat)] M Q E:=by
 rw[Ny (n:=0)];unfold yn;generalize G:iK ad (aA E)=K10;simp only[ai,ar,ao,aj,aa,ac,af,dt];refine⟨rfl,aq λQ' E' I _=>ce o hs ht λp O=>I _ _ (cC O ?_)⟩;simp only[ag,OM];rw[<- G];unfold iK;generalize hK9:lc ad (aA E)=K9;simp only[ai,cZ,aX,bH,ac,aJ,bE,bu,Oy,OZ,OS,OU,dt,Ov];refine gc (λ_=>.int 0) aS (by simp;lia) (λx J K q=>q) ?_
 intro lt W;have e0:((aB C s t).map kD).map (λ_=>D.int 0)=cE (aB C s t).length λ_=>0:=by
  unfold cE;rw[Qb];refine List.ext_getElem (by simp) λi h1 h2=>?_
  simp
 rw[e0];simp only[OM];rw[<- hK9];unfold lc;generalize R:mh ad (aA E)=K8;simp only[ai,cG,cZ,aX,bH,ao,aj,aa,ac,af,bu,Oy,OZ,OS,OU,dt,Ov];refine⟨rfl,aq λQ' E' I _=>oj o hs ht ea eb hab (by lia) hc hL λp P N ex O B ny=>I _ _ ?_⟩
 have nl:lt≠p:=λz=>by rw[<- z,Mem.upd_same]at B;cases B
 have H:N lt=ap (.lst (cE (aB C s t).length λ_=>0)):=ex _ _ Mem.upd_same;simp only[frz,O];simp only[aJ,bE];have F:Lay ad (N.del p) P (c_ a b (aB C s t) (C.tree s t) 0 0):=ny.go λc y e=>by unfold Mem.del;rw[if_neg (λz=>by rw[z,O]at e;cases e)];exact e
 have X:(N.del p) lt=ap (.lst (cE (aB C s t).length λ_=>0)):=by unfold Mem.del;rw[if_neg nl];exact H
 have Z:Ext (M.upd lt<|.lst (cE (aB C s t).length λ_=>0)) (N.del p):=ex.del B;have hno:∀{z:eg},(N.del p) z=cm->M z=cm\/z=p:=λ{z} e=>by
  unfold Mem.del at e
  split at e
  .exact .inr (by assumption)
  .refine .inl ?_
   have:=ex.no e
   by_cases c:z=lt
   .rw[c,Mem.upd_same]at this;cases this
   .rw[ae c]at this;exact this
 generalize N.del p=N1 at *;have al:=F.length;have hal:P.length<=100000:=by rw[al,j5];lia
 refine dk (λd=>match d with|.ref a=>LH N1 a|_=>eC) id aS (by simpa using hal) (λx J K q=>?_) (λx J _ K q=>q) ?_
 .obtain⟨c,hcm,rfl⟩:=Pf.mp J
  obtain⟨y,hy⟩:=F.mem hcm;have l1:Pd ("verdict":Str) [(("verdict":Str),D.str y.v),(("sound":Str),D.int (y.s:Nat)),(("faulty":Str),D.int (y.f:Nat))]=ap (.str y.v):=rfl;have q':K (decide (y.v=("faulty":Str))) N1:=by rw[<- AE hy];exact q
  unfold Al at hy;simp only[am,ah,aZ,ac,dC,dt,hy,l1,bZ,dv,bj,aP];exact⟨trivial,trivial,trivial,q'⟩
 intro p4 S;have e4:((P.map D.ref).filter λd=>match d with|.ref a=>LH N1 a|_=>eC).map id=(P.filter<|LH N1).map D.ref:=by
  rw[Qj,P9];rfl
 rw[e4];simp only[fg,OM,dt,Ov];refine cC (Q:=λd M'=>K8 _ [ap (bF C s t),ap (.int (L:Nat)),ap (.lst<|(aB C s t).map kD),ap (.ref lt),ap d,cm,cm,cm,cm,cm,cm] M') S ?_;rw[<- R];unfold mh;generalize hK7:mj ad (aA E)=K7;have lu:((aB C s t).map kD).length=(aB C s t).length:=by simp
 simp only[ai,ar,ao,aj,bz,aa,ac,af,bM,aJ,lu,dt,Ov];refine⟨rfl,aq λQ' E' I _=>hZ hu λp5 Y=>I _ _ (cC Y ?_)⟩;simp only[ag,OM];rw[<- hK7];unfold mj;simp only[ai,cH,bH,ac,aJ,bE,dt,Ov];refine uK hu (λ_=>aS) _ _ _ _ _ _ _ _ _ F.filt J X λc6 c7 c8 c9 c10=>?_;simp only[az,ac,dt,Ov,S7];have hlm:M lt=none:=W;refine⟨_,λz ob e=>?_,h lt hlm⟩
 by_cases c:z=lt
 .subst c;rw[Mem.upd_same]at e ⊢;exact e
 .rw[ae c]at e ⊢
  exact Z z ob (by rw[ae c];exact e)
end
def yh(n:Nat)(T:Nat->Int)(i:Nat):D:=.tup [.int (T i / ((Q3 (fct n) (T i % ((fct n:Nat):Int)).toNat:Nat):Int)),.int (((fct n:Nat):Int) / ((Q3 (fct n) (T i % ((fct n:Nat):Int)).toNat:Nat):Int))]
mutual
theorem Om:∀(r:Rw)(n:Nat),2*hR r+1<=n->bj n r.d=true
 |.put _ _,n+1,_=>by simp[Rw.d,bj,bt]
 |.take _ _,n+1,_=>by simp[Rw.d,bj,bt]
 |.pick _ _,n+1,_=>by simp[Rw.d,bj,bt]
 |.two _ _ _ _,n+1,_=>by simp[Rw.d,bj,bt]
 |.ifr _ a b,n+2,h=>by
  simp only[hR]at h;have e:=jy a n (by lia)
  have f:=jy b n (by lia)
  simp[Rw.d,bj,bt,e,f]
 |.again _ a,n+2,h=>by
  simp only[hR]at h;have e:=jy a n (by lia)
  simp[Rw.d,bj,bt,e]
 |.ifr _ _ _,0,h=>by lia
 |.ifr _ _ _,1,h=>by simp only[hR]at h;lia
 |.again _ _,0,h=>by lia
 |.again _ _,1,h=>by simp only[hR]at h;lia
theorem jy:∀(rs:List Rw)(n:Nat),2*cU rs+1<=n->bt n (aw rs)=true
 |[],n,_=>by simp[aw,bt]
 |r::rs,n,h=>by
  simp only[cU]at h;simp[aw,bt,Om r n (by lia),jy rs n (by lia)]
end
theorem tM:∀(n:Nat)(xs:Xk),bt n (xs.map D.str)=true
 |n,[]=>by simp[bt]
 |n,x::xs=>by
  rw[Oy];unfold bt;rw[tM n xs];cases n<;>rfl
section
variable{t:Sta}
theorem BM(o:C.Ok):bj 60 C.d=true:=by
 have e:=jy C.rows 58 (by have:=o.h;lia)
 have f:=tM 58 C.names;unfold Cse.d;simp[bj,bt,e,f]
theorem tG(o:C.Ok)(hs:SOk C s)(ht:SOk C t)(ea:C.mark s=.int a)(eb:C.mark t=.int b)(hab:a≠b)(hu:(aB C s t).length<=20)(hc:1+(C.tree s t).asks<=L)(hL:L<=10000)(f:∀x∈(c_ a b (aB C s t) (C.tree s t) 0 0).filter (λx=>decide (x.v=("faulty":Str))),OutOk (aB C s t).length x)(hT:bU (aB C s t).length ((c_ a b (aB C s t) (C.tree s t) 0 0).filter λx=>decide (x.v=("faulty":Str)))=T)(Z:∀i,i<(aB C s t).length->-1000000000000000<=T i/\T i<=1000000000000000)(h:∀p,M p=cm->Q (.ref p) (M.upd p<|.lst (((aB C s t).zipIdx 0).map λp=>D.tup [kD p.1,yh (aB C s t).length T p.2]))):xW ad [.lst [bF C s t],.int (L:Nat)] M Q E:=by
 have G:=@LC C s t;have fp:=eB (aB C s t).length;have W:=fJ hu;rw[N3 (n:=0)];unfold wO;generalize H:lO ad (aA E)=K5;simp only[ai,ar,ao,aX,bH,ac,aJ,bE,bu,Oy,OZ,OS,OU,dt,Ov,PR];have te:∀{K:DK}{c:Option D},K (.lst<|cE (aB C s t).length T) M->(λU M Q=>aj (sJ ad) iY 2 (aa (ac 0)<|aa (ac 1) af) U M λd M'=>frz d M' Q) [ap (bF C s t),ap (.int (L:Nat))] M K:=λ{K c} q=>by
  simp only[aj,aa,ac,af,dt,Ov];refine⟨rfl,aq λQ' E' F _=>o7 o hs ht ea eb hab hu hc hL f λp B=>F _ _ (cC B ?_)⟩;rw[hT];exact q
 refine gc (λ_=>.lst (cE (aB C s t).length T)) aS (by simp) (λx f K q=>?_) ?_
 .have:x=bF C s t:=by simpa using f
  subst this;exact te (c:=cm) q
 intro p B;refine cC B ?_;simp only[Oy,OZ,ag,OM];rw[<- H];unfold lO;generalize X:kJ ad (aA E)=K4;simp only[ai,ar,ao,aj,aa,ah,ac,dC,af,au,aJ,atI_0,dt,Ov];refine⟨rfl,aq λQ' E' F _=>ce o hs ht λp B=>F _ _ (cC B ?_)⟩;simp only[ag,OM];rw[<- X];unfold kJ;generalize O:kH ad (aA E)=K3;simp only[ai,cH,bH,ac,aJ,bE,dt,Ov];have fu:bj 60 (.lst<|(aB C s t).map kD)=true:=by unfold bj;exact yk 59 _
 have fd:=BM o;have R:∀{M:Mem},dv M C.d=C.d:=rfl;unfold gU;refine⟨aS,?_⟩;simp only[ag,OM];unfold pS;simp only[aH,Ak,am,ah,ac,dC,au,aJ,atI_0,dt,Ov,G,k8,R,fd,wG _ _ fd,P1];refine⟨trivial,trivial,?_⟩;rw[if_neg (by simp)]
 simp only[ao,aj,aa,ac,af,dt,Ov];rw[<- G];refine⟨rfl,aq λQ' E' F _=>ce o hs ht λp B=>F _ _ (cC B ?_)⟩;have P:∀{M:Mem},dv M (.lst<|(aB C s t).map kD)=.lst ((aB C s t).map kD):=rfl;simp only[P,fu,wG _ _ fu,P1];refine⟨trivial,trivial,?_⟩;rw[if_neg (by simp)]
 simp only[aF];unfold gU;refine⟨aS,?_⟩;rw[<- O];unfold kH;generalize I:lX ad (aA E)=K2;have lu:((aB C s t).map kD).length=(aB C s t).length:=by simp
 simp only[ai,ar,ah,ao,aj,bz,aa,ac,af,dC,vz,bM,aJ,lu,dt,Ov];refine⟨rfl,aq λQ' E' F _=>hZ hu λp5 S=>F _ _ (cC S ?_)⟩;simp only[au,aJ,jR,cI,OE,Pn];refine⟨.inr ⟨by decide,by decide⟩,?_⟩
 have ew:((fct (aB C s t).length:Nat):Int)*(((0+1:Nat)):Int)=((fct (aB C s t).length:Nat):Int):=by simp
 simp only[ag,OM,ew];rw[<- I];unfold lX;simp only[az,aX,k7,aa,ac,af,aJ,bE,iq,bu,Oy,OZ,OS,OU,dt,Ov,PR];refine qH (λi d=>.tup [d,yh (aB C s t).length T i]) aS _ 0 [] _ _ (by simp;lia) (λi x f K q=>?_) ?_
 .have hi:i<(aB C s t).length:=by
   rcases Ql i (aB C s t).length with z|z
   .exact z
   .rw[PC (by simpa using z)]at f;cases f
  rw[S2]at q ⊢;simp only[aK,aa,ao,aj,bz,aX,bH,ac,af,aJ,bE,bu,Oy,OZ,OS,OU,dt,Ov,PR];refine gc (λ_=>.int (T i)) aS (by simp) (λx f K q=>?_) ?_
  .have:x=.lst (cE (aB C s t).length T):=by simpa using f
   subst this;simp only[ah,ac,dt,Ov,au,aJ,bo (show (0:Int)<=((i:Nat):Int) by lia),OL,rj hi]
   exact q
  intro p6 Y;refine cC Y ?_;have hb:=Z i hi;simp only[Oy,OZ,wV,gW,jB,Pp,SU,Sn];refine⟨⟨by simp,λx f=>by simp at f;subst f;exact hb⟩,rfl,aO (λ_ _ z=>sQ fp (OF (show fct (aB C s t).length<2 ^ 64 by exact_mod_cast W)<|by decide) z) ?_⟩
  exact⟨bf (by simp),q⟩
 .intro p7 J
  have e:([]:List D)++(((aB C s t).map kD).zipIdx 0).map (λp=>D.tup [p.1,yh (aB C s t).length T p.2])=((aB C s t).zipIdx 0).map λp=>D.tup [kD p.1,yh (aB C s t).length T p.2]:=by
   rw[OU,List.zipIdx_map,Qb];rfl
  rw[e];exact ak (h p7 J)
theorem sy(o:C.Ok)(S:SOk C s)(W:SOk C t)(P:C.mark s=.int a)(I:C.mark t=.int b)(B:a≠b)(O:(aB C s t).length<=20)(G:1+(C.tree s t).asks<=L)(H:L<=10000)(J:∀x∈(c_ a b (aB C s t) (C.tree s t) 0 0).filter (λx=>decide (x.v=("faulty":Str))),OutOk (aB C s t).length x)(R:bU (aB C s t).length ((c_ a b (aB C s t) (C.tree s t) 0 0).filter λx=>decide (x.v=("faulty":Str)))=T)(f:∀i,i<(aB C s t).length->-1000000000000000<=T i/\T i<=1000000000000000)(h:∀p,M p=cm->Q (.ref p) (M.upd p<|.lst (((aB C s t).zipIdx 0).map λp=>D.tup [kD p.1,yh (aB C s t).length T p.2]))):ka ad [bF C s t,.int (L:Nat)] M Q E:=by
 rw[NL (n:=0)];unfold xp;simp only[az,aj,aa,ao,bQ,ac,af,dt,Ov];refine⟨bf (by simp),λp e=>cC e ⟨rfl,aq λQ' E' F _=>tG o S W P I B O G H J R f λp e=>F _ _ (ak<|h p e)⟩⟩
end
def iE(cf:Cf)(n:cA)(rest:List Rw):Rw->cA×List Rw
 |.ifr x a b=>(n,(if nm n x=0 then b else a)++rest)
 |.again x a=>(n,if nm n x=0 then rest else a++(.again x a::rest))
 |r=>(sN n (eD r) (num cf n r),rest)
def fin(cf:Cf):Nat->cA->List Rw->Option cA
 |_,n,[]=>ap n
 |0,_,_::_=>cm
 |k+1,n,r::rest=>fin cf k (iE cf n rest r).1 (iE cf n rest r).2
theorem df{cf:Cf}{k:Nat}{n:cA}:fin cf k n []=ap n:=by cases k<;>rfl
def vw(cf:Cf)(b:Bool×Sx)(rest:List Rw):Option cA:=if b.1=true then fin cf (cf.most-b.2.steps.length) b.2.nums rest else cm
section
variable{cf:Cf}
theorem sv{s:Sx}:vw cf (true,s) rest=fin cf (cf.most-s.steps.length) s.nums rest:=by unfold vw;rw[if_pos rfl]
theorem mF{s:Sx}:vw cf (eC,s) rest=none:=by unfold vw;rw[if_neg (by simp)]
theorem Ol{pl:Xj}{s:Sx}(h:s.steps.length<cf.most):nt cf pl v s=(true,⟨s.nums,s.steps++[(pl,v)]⟩):=by unfold nt;rw[if_pos h]
theorem MF{pl:Xj}{s:Sx}(h:¬s.steps.length<cf.most):nt cf pl v s=(eC,s):=by unfold nt;rw[if_neg h]
theorem pX{s:Sx}{n:cA}{r:Rw}(h:¬s.steps.length<cf.most):fin cf (cf.most-s.steps.length) n (r::rest)=none:=by
 have:cf.most-s.steps.length=0:=by lia
 rw[this];rfl
theorem wq{s:Sx}{n:cA}{r:Rw}{p:List Int×Int}(h:s.steps.length<cf.most):fin cf (cf.most-s.steps.length) n (r::rest)=fin cf (cf.most-(s.steps++[p]).length) (iE cf n rest r).1 (iE cf n rest r).2:=by
 have:cf.most-s.steps.length=(cf.most-(s.steps++[p]).length)+1:=by rw[OH];simp;lia
 rw[this];rfl
theorem sG{x:Str}{a:List Rw}{pl:Xj}(H:∀pl s rest,fin cf (cf.most-s.steps.length) s.nums (a++rest)=vw cf (bP cf a pl 0 s) rest):∀(f t:Nat)(s:Sx)(rest:List Rw),cf.most-s.steps.length<f->
  fin cf (cf.most-s.steps.length) s.nums (.again x a::rest)=vw cf (eU cf x pl (λt s=>bP cf a (pl++[(t:Int)]) 0 s) f t s) rest
 |0,t,s,rest,h=>by lia
 |f+1,t,s,rest,h=>by
  unfold eU
  by_cases c:s.steps.length<cf.most
  .rw[Ol c,if_pos rfl]
   rw[wq (p:=(pl++[(t:Int)],lk s.nums x)) c]
   by_cases e:nm s.nums x=0
   .have B:lk s.nums x=0:=by unfold lk;rw[if_pos e]
    rw[B,if_neg (by decide),sv]
    simp only[iE,if_pos e]
   .have B:lk s.nums x=1:=by unfold lk;rw[if_neg e]
    rw[B,if_pos rfl];simp only[iE,if_neg e];have I:=H (pl++[(t:Int)]) ⟨s.nums,s.steps++[(pl++[(t:Int)],1)]⟩ (.again x a::rest);have O:=fh (c:=cf) a (pl++[(t:Int)]) 0 ⟨s.nums,s.steps++[(pl++[(t:Int)],1)]⟩;generalize J:bP cf a (pl++[(t:Int)]) 0 ⟨s.nums,s.steps++[(pl++[(t:Int)],1)]⟩=ex at *;obtain⟨b,G⟩:=ex;rw[I];cases b with
    |true=>
     rw[sv,if_pos rfl];have F:s.steps.length+1<=G.steps.length:=by
      have:=O.1;simp only[OH,OE,Pn]at this;lia
     exact sG H f (t+1) G rest (by lia)
    |false=>rw[mF,if_neg (by simp),mF]
  .rw[MF c,if_neg (by simp),mF]
   exact pX c
theorem kP{r:Rw}{pl:Xj}{s:Sx}(e:bi r=true):fin cf (cf.most-s.steps.length) s.nums (r::rest)=vw cf (gy cf r pl s) rest:=by
 rw[bV e];unfold ie;have f:iE cf s.nums rest r=(sN s.nums (eD r) (num cf s.nums r),rest):=by
  cases r with
  |ifr=>cases e
  |again=>cases e
  |_=>rfl
 by_cases c:s.steps.length<cf.most
 .rw[if_pos c,sv,wq (p:=(pl,num cf s.nums r)) c,f]
 .rw[if_neg c,mF];exact pX c
mutual
theorem NK:∀(r:Rw)(pl:Xj)(s:Sx)(rest:List Rw),fin cf (cf.most-s.steps.length) s.nums (r::rest)=vw cf (gy cf r pl s) rest
 |.ifr x a b,pl,s,rest=>by
  unfold gy
  by_cases c:s.steps.length<cf.most
  .rw[Ol c,if_pos rfl,wq (p:=(pl,lk s.nums x)) c]
   by_cases e:nm s.nums x=0
   .have f:lk s.nums x=0:=by unfold lk;rw[if_pos e]
    rw[f,if_neg (by decide)]
    simp only[iE,if_pos e];exact ib b (pl++[0]) 0 ⟨s.nums,s.steps++[(pl,0)]⟩ rest
   .have f:lk s.nums x=1:=by unfold lk;rw[if_neg e]
    rw[f,if_pos rfl];simp only[iE,if_neg e];exact ib a (pl++[1]) 0 ⟨s.nums,s.steps++[(pl,1)]⟩ rest
  .rw[MF c,if_neg (by simp),mF]
   exact pX c
 |.again x a,pl,s,rest=>by
  unfold gy;exact sG (λpl s rest=>ib a pl 0 s rest) _ _ _ _ (by lia)
 |.put x k,pl,s,rest=>kP rfl
 |.take x k,pl,s,rest=>kP rfl
 |.pick x y,pl,s,rest=>kP rfl
 |.two w x y z,pl,s,rest=>kP rfl
theorem ib:∀(rs:List Rw)(pl:Xj)(j:Nat)(s:Sx)(rest:List Rw),fin cf (cf.most-s.steps.length) s.nums (rs++rest)=vw cf (bP cf rs pl j s) rest
 |[],pl,j,s,rest=>by unfold bP;rw[sv];rfl
 |r::rs,pl,j,s,rest=>by
  unfold bP;rw[OS,NK r (pl++[(j:Int)]) s (rs++rest)];generalize gy cf r (pl++[(j:Int)]) s=ex;obtain⟨b,e⟩:=ex;cases b with
  |true=>rw[sv,if_pos rfl];exact ib rs pl (j+1) e rest
  |false=>rw[mF,if_neg (by simp),mF]
end
end
def mkO(mn:Str):Option cA->D
 |some n=>.int (nm n mn)
 |none=>.non
theorem sk:C.mark z=mkO C.mn (fin (C.cf z) C.most (C.names.zip z.nums) C.rows):=by
 have h:=ib (cf:=C.cf z) C.rows [] 0 ⟨C.names.zip z.nums,[]⟩ [];rw[Pw]at h;have e:fin (C.cf z) C.most (C.names.zip z.nums) C.rows=vw (C.cf z) (C.run z) []:=h;rw[e];unfold Cse.mark Bc vw
 split
 .rw[df];rfl
 .rfl
def zm(p:aG->Bool):Tr->D
 |.e m=>m
 |.a q x y=>if p q=true then zm p y else zm p x
theorem i6{n:cA}(h:x∈n.map (·.1)):nm (sN n x v) y=if y=x then v else nm n y:=by
 unfold nm;rw[Ni h]
 split<;>rfl
structure Rl(C:Cse)(z:Sta)(g:Gs)(n:cA):Prop where
 nk:∀x,(OX x:aG)∉g.u->nm g.n x=nm n x
 nu:∀x,(OX x:aG)∈g.u->nm n x=aM C z (.inr x)
 pk:∀i:Nat,(Qg (i:Int):aG)∉g.u->(g.ps[i]?).getD 0=(z.pieces[i]?).getD 0
 k:n.map (·.1)=C.names
section
variable{t:Sta}{n:cA}{r:Rw}{p:aG->Bool}
theorem AV(G:cy C.names C.w C.many r)(h:dR C g r=cm):(∀x∈cY r,(OX x:aG)∉g.u)/\∀i,xS C g.n r=ap i->(Qg i:aG)∉g.u:=by
 unfold dR at h
 split at h
 .rename_i e
  rw[e];exact⟨λ_ _ z=>(by cases z),λ_ _ z=>(by cases z)⟩
 .split at h
  .cases h
  .rename_i e
   refine⟨λx B f=>?_,λi F f=>?_⟩
   .have:(OX x:aG)∈(cW C).filter λk=>decide (k∈((cY r).filter λx=>decide ((OX x:aG)∈g.u)).map OX):=by
     rw[OC];refine⟨Ph.mpr (.inl<|Pf.mpr ⟨x,yo G x B,rfl⟩),decide_eq_true ?_⟩;exact Pf.mpr ⟨x,OC.mpr ⟨B,decide_eq_true f⟩,rfl⟩
    rw[e]at this;cases this
   .rw[F]at h
    simp only[if_pos f]at h;cases h
theorem Rl.num(R:Rl C z g n)(ok:GOk C g)(P:SOk C z)(f:cz C.names C.w C.many r)(h:dR C g r=cm):num (g.cf C) g.n r=num (C.cf z) n r:=by
 have B:cy C.names C.w C.many r:=by
  cases r with
  |ifr=>exact f.elim
  |again=>exact f.elim
  |_=>exact f
 obtain⟨F,G⟩:=AV B h;have O:g.ps.length=z.pieces.length:=by rw[ok.lp,P.lp]
 cases r with
 |put x k=>rfl
 |take x i=>
  have:=R.pk i.toNat (by rw[RH f.2.1];exact G i rfl)
  exact this
 |pick x y=>
  have e:=R.nk y (F y<|by simp[cY])
  have H:=G _ rfl;have S:(0:Int)<(C.many:Int):=f.2.2;have J:=PK (nm g.n y) (show (C.many:Int)≠0 by lia)
  rw[<- RH J]at H;have I:=R.pk _ H;show (g.ps[(nm g.n y % (g.ps.length:Int)).toNat]?).getD 0=(z.pieces[(nm n y % (z.pieces.length:Int)).toNat]?).getD 0;rw[<- e,<- O,ok.lp];exact I
 |two w x y u=>
  show yJ w (nm g.n y) (nm g.n u) C.w=yJ w (nm n y) (nm n u) C.w;rw[R.nk y (F y<|by simp[cY]),R.nk u (F u<|by simp[cY])]
 |ifr=>exact f.elim
 |again=>exact f.elim
theorem Rl.step(R:Rl C z g n)(ok:GOk C g)(W:SOk C z)(O:cy C.names C.w C.many r)(h:dR C g r=cm):Rl C z (jS C g rest r) (iE (C.cf z) n rest r).1/\(jS C g rest r).td=(iE (C.cf z) n rest r).2:=by
 have look:∀x,x∈cY r->nm g.n x=nm n x:=λx F=>R.nk x ((AV O h).1 x F);have set:∀J,r=J->bi r=true->Rl C z { g with left:=g.left-1,td:=rest,n:=sN g.n (eD r) (_T.num (g.cf C) g.n r),u:=g.u.filter λk=>decide (k≠.inr (eD r)) } (sN n (eD r)<|_T.num (C.cf z) n r):=λJ _ S=>by
  have f:=gE O S;have F:eD r∈C.names:=wk f;have G:eD r∈g.n.map (·.1):=by rw[ok.n.keys];exact F
  have B:eD r∈n.map (·.1):=by rw[R.k];exact F
  rw[R.num ok W f h];refine⟨λy H=>?_,λy H=>?_,λi P=>?_,by rw[iS];exact R.k⟩
  .rw[i6 G,i6 B]
   split
   .rfl
   .rename_i c
    refine R.nk y λI=>H ?_;rw[OC];exact⟨I,decide_eq_true λz=>c (Si z)⟩
  .have e:=OC.mp H
   have c:¬y=eD r:=λz=>(of_decide_eq_true e.2) (by rw[z])
   rw[i6 B,if_neg c];exact R.nu y e.1
  .refine R.pk i λI=>P ?_
   rw[OC];exact⟨I,decide_eq_true λz=>by cases z⟩
 cases r with
 |ifr x a b=>
  refine⟨⟨R.nk,R.nu,R.pk,R.k⟩,?_⟩;show (if nm g.n x=0 then b else a)++rest=(if nm n x=0 then b else a)++rest
  rw[look x (by simp[cY])]
 |again x a=>
  refine⟨⟨R.nk,R.nu,R.pk,R.k⟩,?_⟩;show (if nm g.n x=0 then rest else a++(.again x a::rest))=(if nm n x=0 then rest else a++(.again x a::rest))
  rw[look x (by simp[cY])]
 |_=>exact⟨set _ rfl rfl,rfl⟩
theorem xB(o:C.Ok)(G:SOk C z):∀(f:Nat)(g:Gs)(n:cA),Rl C z g n->GOk C g->0<=g.left->g.left<f->∃B,Rl C z (bB C f g).2 B/\fin (C.cf z) g.left.toNat n g.td=fin (C.cf z) (bB C f g).2.left.toNat B (bB C f g).2.td/\
  ((bB C f g).1=cm->((bB C f g).2.td=[]/\(OX C.mn:aG)∉(bB C f g).2.u)\/((bB C f g).2.td≠[]/\(bB C f g).2.left<=0))
 |0,g,n,R,ok,h0,hf=>by lia
 |f+1,g,n,R,ok,h0,hf=>by
  unfold bB;cases e:g.td with
  |nil=>
   refine⟨n,R,by dsimp only;rw[e],λh=>.inl ⟨e,?_⟩⟩
   dsimp only at h ⊢
   split at h
   .cases h
   .assumption
  |cons r rest=>
   dsimp only;have J:cy C.names C.w C.many r:=by
    have:=ok.td;rw[e]at this;exact this.1
   split
   .rename_i F
    exact⟨n,R,by rw[e],λ_=>.inr ⟨by rw[e];simp,F⟩⟩
   .rename_i F
    cases a:dR C g r with
    |some k=>exact⟨n,R,by dsimp only;rw[e],λh=>by cases h⟩
    |none=>
     dsimp only;obtain⟨R1,H⟩:=R.step (rest:=rest) ok G J a;have O:(jS C g rest r).left=g.left-1:=n8;obtain⟨B,R2,P,I⟩:=xB o G f (jS C g rest r) _ R1 (qi o ok e) (by lia) (by lia)
     refine⟨B,R2,?_,I⟩;rw[<- P,O,H];have:g.left.toNat=(g.left-1).toNat+1:=by lia
     rw[this];rfl
theorem Rl.set(R:Rl C z g n)(ok:GOk C g)(H:q∈cW C)(B:q∈g.u):Rl C z (cj g q<|aM C z q) n:=by
 cases q with
 |inr x=>
  have J:x∈C.names:=by
   rcases dX H with⟨y,f,e⟩|⟨i,_,e⟩
   .cases e;exact f
   .cases e
  have F:x∈g.n.map (·.1):=by rw[ok.n.keys];exact J
  refine⟨λy f=>?_,λy f=>R.nu y (OC.mp f).1,λi G=>R.pk i λB=>G (OC.mpr ⟨B,decide_eq_true λz=>by cases z⟩),R.k⟩
  show nm (sN g.n x _) y=_;rw[i6 F]
  split
  .rename_i c;subst c;exact(R.nu _ B).symm
  .rename_i c
   exact R.nk y λB=>f (OC.mpr ⟨B,decide_eq_true λz=>c (Si z)⟩)
 |inl j=>
  obtain⟨i,G,e⟩:∃i:Nat,i<C.many/\j=(i:Int):=by
   rcases dX H with⟨y,f,e⟩|⟨i,h,e⟩
   .cases e
   .exact⟨i,h,Rh e⟩
  subst e;refine⟨λy f=>R.nk y λB=>f (OC.mpr ⟨B,decide_eq_true λz=>by cases z⟩),λy f=>R.nu y (OC.mp f).1,λk I=>?_,R.k⟩
  show ((g.ps.set ((i:Nat):Int).toNat<|(z.pieces[((i:Nat):Int).toNat]?).getD 0)[k]?).getD 0=_;rw[OL,RX]
  split
  .rename_i c
   subst c;rw[if_pos (by rw[ok.lp];exact G)]
   rfl
  .rename_i c
   exact R.pk k λB=>I (OC.mpr ⟨B,decide_eq_true λz=>c (by have:=Rh z;lia)⟩)
theorem yB(o:C.Ok)(hs:SOk C s)(ht:SOk C t)(Y:SOk C z):∀(f:Nat)(g:Gs)(n:cA),(∀q∈g.u,aM C z q=aM C (if p q=true then t else s) q)->Rl C z g n->GOk C g->0<=g.left->g.left<=C.most->(∀x∈g.u,x∈cW C)->g.u.length<f->
  zm p (bX C s t f g)=mkO C.mn (fin (C.cf z) g.left.toNat n g.td)
 |0,g,n,hp,R,ok,h0,hm,hu,hf=>by lia
 |f+1,g,n,hp,R,ok,h0,hm,hu,hf=>by
  obtain⟨n',R',e,X⟩:=xB o Y (C.most+1) g n R ok h0 (by lia)
  have J:=l_ o (C.most+1) g ok;obtain⟨⟨Z,h⟩,S,I⟩:=ii (C:=C) (C.most+1) g;have hl:=S h0;unfold bX;rw[e];generalize bB C (C.most+1) g=go at *;obtain⟨a,B⟩:=go;dsimp only at *;cases a with
  |none=>
   show KS C B=_;unfold KS;rcases X rfl with⟨H,h2⟩|⟨H,h2⟩
   .rw[if_pos H,H,df]
    show D.int _=D.int _;rw[R'.nk _ h2]
   .rw[if_neg H]
    have:B.left.toNat=0:=by lia
    rw[this];cases e3:B.td with
    |nil=>exact absurd e3 H
    |cons=>rfl
  |some q=>
   have G:=I q rfl;have P:=hu q (h q G);have fl:=pN G;have O:∀y:Sta,aM C z q=aM C y q->SOk C y->zm p (bX C s t f<|cj B q<|aM C y q)=mkO C.mn (fin (C.cf z) B.left.toNat n' B.td):=λy hy ky=>by
    rw[<- hy]
    have:=yB o hs ht Y f (cj B q<|aM C z q) n' (λk hk=>by rw[dS]at hk;exact hp k (h k (OC.mp hk).1)) (R'.set J P G) (lA J<|cq o Y P) (by rw[eP];lia) (by rw[eP];lia)
     (λx hx=>by rw[dS]at hx;exact hu x (h x (OC.mp hx).1)) (by rw[dS];lia)
    rw[eP]at this;have W:(cj B q<|aM C z q).td=B.td:=by cases q<;>rfl
    rw[W]at this;exact this
   have F:=hp q (h q G);show (if p q=true then zm p (bX C s t f<|cj B q<|aM C t q) else zm p (bX C s t f<|cj B q<|aM C s q))=_
   split
   .rename_i c;rw[if_pos c]at F;exact O t F ht
   .rename_i c;rw[if_neg c]at F;exact O s F hs
theorem pi(f:C.names.length=nums.length)(h:x∉C.names):nm (C.names.zip nums) x=0:=by
 unfold nm gN;rw[List.find?_eq_none.mpr]
 .rfl
 .intro q e
  have:=(QZ e).1;simp only[decide_eq_true_eq];exact λz=>h (by rw[<- z];exact this)
theorem cQ(o:C.Ok)(F:SOk C s)(P:SOk C t)(B:SOk C z)(O:(aB C s t).length<24)(G:∀q∈cW C,aM C z q=aM C (if p q=true then t else s) q):zm p (C.tree s t)=C.mark z:=by
 rw[sk];have f:∀q∈cW C,q∉aB C s t->aM C z q=aM C s q:=λq h I=>by
  rw[G q h];have:aM C s q=aM C t q:=Decidable.byContradiction λc=>I (OC.mpr ⟨h,decide_eq_true c⟩)
  split
  .exact this.symm
  .rfl
 have:=yB (p:=p) o F P B 24 (g0 C s t) (C.names.zip z.nums) (λq h=>G q (kx q h)) ⟨λx H=>?_,λx _=>rfl,λi J=>?_,fM B.ln.symm⟩ (CZ o F) (by show (0:Int)<=((C.most:Nat):Int);lia) (Q6 _) kx O
 .have e:(g0 C s t).left.toNat=C.most:=rfl
  rw[e]at this;exact this
 .by_cases c:x∈C.names
  .exact(f (.inr x) (Ph.mpr<|.inl<|Pf.mpr ⟨x,c,rfl⟩) H).symm
  .show nm (C.names.zip s.nums) x=_
   rw[pi F.ln.symm c,pi B.ln.symm c]
 .show (s.pieces[i]?).getD 0=_
  by_cases c:i<C.many
  .have:=f (.inl (i:Int)) (Ph.mpr<|.inr<|Pf.mpr ⟨i,P7.mpr c,rfl⟩) J
   exact this.symm
  .rw[PC (by rw[F.lp];lia),PC (by rw[B.lp];lia)]
theorem jD:∀(f:Nat)(g:Gs),(bX C s t f g).asks+1<=2 ^ g.u.length
 |0,g=>Nat.one_le_two_pow
 |f+1,g=>by
  obtain⟨⟨G,F⟩,_,h⟩:=ii (C:=C) (C.most+1) g;unfold bX;generalize bB C (C.most+1) g=go at *;obtain⟨a,B⟩:=go;dsimp only at *;cases a with
  |none=>exact Nat.one_le_two_pow
  |some q=>
   have J:=pN (h q rfl);have H:=jD f (cj B q<|aM C s q);have I:=jD f (cj B q<|aM C t q);rw[dS]at H I;have e:2 ^ ((B.u.filter λk=>decide (k≠q)).length+1)<=2 ^ g.u.length:=Py (by decide) (by lia)
   rw[Nat.pow_succ]at e;show 1+_+_+1<=_;lia
theorem oO:1+(C.tree s t).asks<=2 ^ (aB C s t).length:=by
 have:=jD (C:=C) (s:=s) (t:=t) 24 (g0 C s t);have e:(g0 C s t).u=aB C s t:=rfl;rw[e]at this;show 1+(bX C s t 24<|g0 C s t).asks<=_;lia
end
def TrN:Tr->List aG->Prop
 |.e _,_=>True
 |.a q x y,u=>q∈u/\TrN x (u.filter λk=>decide (k≠q))/\TrN y (u.filter λk=>decide (k≠q))
theorem TrN.mono:∀{t:Tr}{u v:List aG},TrN t u->(∀k∈u,k∈v)->TrN t v
 |.e _,_,_,_,_=>trivial
 |.a q x y,u,v,h,s=>⟨s q h.1,h.2.1.mono λk f=>OC.mpr ⟨s k (OC.mp f).1,(OC.mp f).2⟩,h.2.2.mono λk f=>OC.mpr ⟨s k (OC.mp f).1,(OC.mp f).2⟩⟩
theorem uv{C:Cse}{s t:Sta}:∀(f:Nat)(g:Gs),TrN (bX C s t f g) g.u
 |0,_=>trivial
 |f+1,g=>by
  obtain⟨⟨_,e⟩,_,h⟩:=ii (C:=C) (C.most+1) g;unfold bX;generalize bB C (C.most+1) g=go at *;obtain⟨a,p⟩:=go;dsimp only at *;cases a with
  |none=>trivial
  |some q=>
   have w:∀v,TrN (bX C s t f<|cj p q v) (g.u.filter λk=>decide (k≠q)):=λv=>by
    have:=uv (C:=C) (s:=s) (t:=t) f (cj p q v);rw[dS]at this;exact this.mono λk B=>OC.mpr ⟨e k (OC.mp B).1,(OC.mp B).2⟩
   exact⟨e q (h q rfl),w _,w _⟩
theorem qa:∀{a b:Nat},a<=b->fct a ∣ fct b:=by
 intro a b h
 induction b with
 |zero=>
  rw[Nat.le_zero.mp h];exact Nat.dvd_refl _
 |succ b ih=>
  by_cases e:a=b+1
  .subst e;exact Nat.dvd_refl _
  .exact Nat.dvd_trans (ih<|by lia) (Nat.dvd_mul_right (fct b) (b+1))
theorem tj{k:Nat}(h:0<k):k*fct (k-1)=fct k:=by
 cases k with
 |zero=>lia
 |succ k=>exact RI (k+1) (fct k)
theorem Bi{A:Int}{p:Nat->Bool}:∀l:List Nat,(l.map λi=>if p i=true then A else 0).sum=((l.filter p).length:Int)*A
 |[]=>by simp
 |i::l=>by
  rw[Oy,Pp,Bi l,Pg]
  split
  .rw[OE];push_cast;rw[Int.add_mul];lia
  .lia
theorem uw{A:Int}{b:Nat}(h:b<2 ^ n):((Pm n).map λi=>if b.testBit i=true then A else 0).sum=((av b).length:Int)*A:=by
 rw[gH h];exact Bi _
theorem w_{f g:Nat->Int}:∀l:List Nat,(l.map λi=>f i-g i).sum=(l.map f).sum-(l.map g).sum
 |[]=>by simp
 |i::l=>by simp only[Oy,Pp,w_ l];lia
theorem xm{f g:Nat->Int}:∀l:List Nat,(l.map λi=>f i+g i).sum=(l.map f).sum+(l.map g).sum
 |[]=>by simp
 |i::l=>by simp only[Oy,Pp,xm l];lia
def vO(n f s:Nat):Int:=(if f=0 then 0 else ((fct n / fct (f+s)*fct f*fct s:Nat):Int))-(if s=0 then 0 else ((fct n / fct (f+s)*fct f*fct s:Nat):Int))
theorem Es{x:Out}(h:OutOk n x):((Pm n).map<|ic n x).sum=vO n (av x.f).length (av x.s).length:=by
 have e:ic n x=λi=>(if x.f.testBit i=true then ((fct n / fct ((av x.f).length+(av x.s).length)*fct ((av x.f).length-1)*fct (av x.s).length:Nat):Int) else 0)-(if x.s.testBit i=true then ((fct n / fct ((av x.f).length+(av x.s).length)*fct (av x.f).length*fct ((av x.s).length-1):Nat):Int) else 0):=rfl
 rw[e,w_,uw h.f,uw h.s];unfold vO;generalize (av x.f).length=f;generalize (av x.s).length=s;generalize fct n / fct (f+s)=E;congr 1
 .split
  .rename_i c;subst c;simp
  .rename_i c
   rw[<- tj (k:=f) (by lia)]
   rw[<- QE];congr 1;rw[RI E (f*fct (f-1)),R6 f,RI (fct (f-1)) E,R6 f]
 .split
  .rename_i c;subst c;simp
  .rename_i c
   conv=>rhs;rw[<- tj (k:=s) (by lia)]
   rw[<- QE];congr 1;rw[<- R6 (E*fct f) s,RI (E*fct f) s,R6 s]
theorem ot{n:Nat}:∀{xs:List Out},(∀x∈xs,OutOk n x)->((Pm n).map<|bU n xs).sum=(xs.map λx=>vO n (av x.f).length (av x.s).length).sum
 |[],_=>by
  have:∀l:List Nat,(l.map<|bU n []).sum=0:=λl=>by
   induction l with
   |nil=>rfl
   |cons i l ih=>rw[Oy,Pp,ih];rfl
  exact this _
 |x::xs,h=>by
  have e:bU n (x::xs)=λi=>ic n x i+bU n xs i:=by funext i;simp[bU]
  rw[e,xm,Es (h x OR),ot λy p=>h y (OJ _ p)];simp
structure Wy(us:List aG)(u:List aG)(S F:Nat):Prop where
 s:S<2 ^ us.length
 f:F<2 ^ us.length
 sub:∀q∈u,q∈us
 no:∀q∈u,S.testBit (us.idxOf q)=eC/\F.testBit (us.idxOf q)=eC
 dis:∀i,¬(S.testBit i=true/\F.testBit i=true)
section
variable{S F:Nat}
theorem Ba(e:q∈us):bitK us q<2 ^ us.length:=Nat.pow_lt_pow_right (by decide) (QG e)
theorem vA:(bitK us q).testBit i=decide (us.idxOf q=i):=by unfold bitK;exact Nat.testBit_two_pow
theorem Ec{k:aG}(p:k∈us)(B:q∈us)(h:us.idxOf q=us.idxOf k):k=q:=by
 have e:=U4 (QG p);have f:=U4 (QG B);rw[<- e,<- f];congr 1;exact h.symm
theorem Wy.swap(w:Wy us u S F):Wy us u F S:=⟨w.f,w.s,w.sub,λq e=>(w.no q e).symm,λi h=>w.dis i h.symm⟩
theorem Wy.fa(w:Wy us u S F)(G:q∈u):Wy us (u.filter λk=>decide (k≠q)) S (F ||| bitK us q):=by
 have e:=w.sub q G;refine⟨w.s,Nat.or_lt_two_pow w.f (Ba e),λk B=>w.sub k (OC.mp B).1,λk B=>?_,λi h=>?_⟩
 .obtain⟨p,H⟩:=OC.mp B
  refine⟨(w.no k p).1,?_⟩;rw[T2,(w.no k p).2,vA,Qo];exact decide_eq_false λz=>(of_decide_eq_true H) (Ec (w.sub k p) e z)
 .rw[T2,vA]at h
  by_cases c:us.idxOf q=i
  .subst c;rw[(w.no q G).1]at h;exact absurd h.1 (by simp)
  .rw[decide_eq_false c,QY]at h;exact w.dis i h
theorem Wy.so(w:Wy us u S F)(e:q∈u):Wy us (u.filter λk=>decide (k≠q)) (S ||| bitK us q) F:=(w.swap.fa e).swap
theorem fW{B:Nat}(f:B<2 ^ us.length)(e:q∈us):(av (B ||| bitK us q)).length≠0:=by
 have:us.idxOf q∈av (B ||| bitK us q):=by
  rw[dN (Nat.or_lt_two_pow f<|Ba e)];exact⟨QG e,by rw[T2,vA];simp⟩
 exact λz=>by rw[Tj z]at this;cases this
theorem sV{p r:Nat->Bool}:∀(l:List Nat),(∀i,¬(p i=true/\r i=true))->(l.filter p).length+(l.filter r).length<=l.length
 |[],_=>by simp
 |i::l,h=>by
  have:=sV l h;have e:=h i;rw[Pg,Pg,OE]
  split<;>split<;>simp_all<;>lia
theorem Wy.ok(w:Wy us u S F){v:Str}:OutOk us.length ⟨v,S,F⟩:=by
 refine⟨w.s,w.f,?_⟩;show (av F).length+(av S).length<=_;rw[gH w.f,gH w.s];have:=sV (p:=λi=>F.testBit i) (r:=λi=>S.testBit i) (Pm us.length) λi h=>w.dis i h.symm;rw[SW]at this;exact this
theorem pP:∀(t:Tr)(u:List aG)(S F:Nat),TrN t u->Wy us u S F->∀x∈c_ a b us t S F,OutOk us.length x
 |.e m,u,S,F,_,w,x,hx=>by
  have:x=⟨jF a b m,S,F⟩:=by simpa [c_] using hx
  subst this;exact w.ok
 |.a q x y,u,S,F,h,w,o,ho=>by
  rcases Ph.mp ho with h1|h1
  .exact pP y _ _ _ h.2.2 (w.fa h.1) o h1
  .exact pP x _ _ _ h.2.1 (w.so h.1) o h1
def wT(a b:Int)(us:List aG)(t:Tr)(S F:Nat):Int:=(((c_ a b us t S F).filter λx=>decide (x.v=("faulty":Str))).map λx=>vO us.length (av x.f).length (av x.s).length).sum
theorem Lv{m:D}:wT a b us (.e m) S F=if jF a b m=("faulty":Str) then vO us.length (av F).length (av S).length else 0:=by
 unfold wT c_;rw[Pg]
 split
 .rename_i c
  rw[if_pos (of_decide_eq_true c)];simp
 .rename_i c
  rw[if_neg (λz=>c (decide_eq_true z))];rfl
theorem FA{x y:Tr}:wT a b us (.a q x y) S F=wT a b us y S (F ||| bitK us q)+wT a b us x (S ||| bitK us q) F:=by
 unfold wT
 conv=>lhs;unfold c_
 rw[P4,Q0,List.sum_append]
theorem qX:∀(t:Tr)(u:List aG)(S F:Nat),TrN t u->Wy us u S F->(av F).length≠0->(av S).length≠0->wT a b us t S F=0
 |.e m,u,S,F,_,w,hF,hS=>by
  rw[Lv]
  split
  .unfold vO;rw[if_neg hF,if_neg hS];lia
  .rfl
 |.a q x y,u,S,F,h,w,hF,hS=>by
  have p:=w.sub q h.1;rw[FA,qX y _ _ _ h.2.2 (w.fa h.1) (fW w.f p) hS,qX x _ _ _ h.2.1 (w.so h.1) hF (fW w.s p)];rfl
theorem Mr:∀(t:Tr)(u:List aG)(S F:Nat),TrN t u->Wy us u S F->(av F).length≠0->(av S).length=0->wT a b us t S F=if jF a b (zm (λ_=>true) t)=("faulty":Str) then ((fct us.length:Nat):Int) else 0
 |.e m,u,S,F,_,w,hF,hS=>by
  rw[Lv];show _=if jF a b m=_ then _ else _
  split
  .have G:=(w.ok (v:="")).l
   have B:(av F).length+(av S).length<=us.length:=G;unfold vO;rw[if_neg hF,if_pos hS,hS,UK];have:fct us.length / fct (av F).length*fct (av F).length=fct us.length:=SM (qa<|by lia)
   rw[this];show ((fct us.length*1:Nat):Int)-0=_;lia
  .rfl
 |.a q x y,u,S,F,h,w,hF,hS=>by
  have p:=w.sub q h.1;rw[FA,Mr y _ _ _ h.2.2 (w.fa h.1) (fW w.f p) hS,qX x _ _ _ h.2.1 (w.so h.1) hF (fW w.s p)];rw[Sn];rfl
theorem Md:∀(t:Tr)(u:List aG)(S F:Nat),TrN t u->Wy us u S F->(av F).length=0->(av S).length≠0->wT a b us t S F=if jF a b (zm (λ_=>eC) t)=("faulty":Str) then -((fct us.length:Nat):Int) else 0
 |.e m,u,S,F,_,w,hF,hS=>by
  rw[Lv];show _=if jF a b m=_ then _ else _
  split
  .have G:=(w.ok (v:="")).l
   have B:(av F).length+(av S).length<=us.length:=G;unfold vO;rw[if_pos hF,if_neg hS,hF,S2];have:fct us.length / fct (av S).length*fct 0*fct (av S).length=fct us.length:=by
    show fct us.length / fct (av S).length*1*fct (av S).length=_;rw[Nat.mul_one];exact SM (qa<|by lia)
   rw[this];lia
  .rfl
 |.a q x y,u,S,F,h,w,hF,hS=>by
  have p:=w.sub q h.1;rw[FA,qX y _ _ _ h.2.2 (w.fa h.1) (fW w.f p) hS,Md x _ _ _ h.2.1 (w.so h.1) hF (fW w.s p)];rw[S7];rfl
theorem Ds:(av 0).length=0:=rfl
theorem Wy.zero(h:∀q∈u,q∈us):Wy us u 0 0:=⟨Nat.two_pow_pos _,Nat.two_pow_pos _,h,λq _=>⟨Ti _,Ti _⟩,λi h=>by rw[Ti]at h;exact absurd h.1 (by simp)⟩
theorem Mg{t:Tr}(h:TrN t us)(H:zm (λ_=>eC) t=.int a)(I:zm (λ_=>true) t=.int b)(p:a≠b):wT a b us t 0 0=((fct us.length:Nat):Int):=by
 have O:¬jF a b (.int a)=("faulty":Str):=by
  unfold jF;rw[if_pos (by simp[aP])]
  decide +kernel
 have J:jF a b (.int b)=("faulty":Str):=by
  unfold jF;have:¬b=a:=λz=>p z.symm;rw[if_neg (by simp[aP,this]),if_pos (by simp[aP])]
 cases t with
 |e m=>
  have:D.int a=D.int b:=H.symm.trans I;exact absurd (D.int.inj this) p
 |a q x y=>
  have w:=Wy.zero (us:=us) (u:=us) λ_ h=>h;have B:zm (λ_=>eC) x=.int a:=H;have G:zm (λ_=>true) y=.int b:=I;rw[FA,Mr y _ _ _ h.2.2 (w.fa h.1) (fW w.f h.1) Ds,Md x _ _ _ h.2.1 (w.so h.1) Ds (fW w.s h.1),B,G,if_pos J,if_neg O];lia
end
section
variable{t:Sta}
def dh(C:Cse)(s t:Sta)(a b:Int):List Out:=(c_ a b (aB C s t) (C.tree s t) 0 0).filter λx=>decide (x.v=("faulty":Str))
theorem mw:TrN (C.tree s t) (aB C s t):=uv 24 (g0 C s t)
theorem gG:∀x∈dh C s t a b,OutOk (aB C s t).length x:=λx e=>pP _ _ _ _ mw (Wy.zero λ_ h=>h) x (OC.mp e).1
theorem vh(o:C.Ok)(e:SOk C s)(h:SOk C t)(F:C.mark s=.int a)(G:C.mark t=.int b)(f:a≠b)(B:(aB C s t).length<24):
  ((Pm (aB C s t).length).map<|bU (aB C s t).length<|dh C s t a b).sum=((fct (aB C s t).length:Nat):Int):=by
 rw[ot gG];exact Mg mw ((cQ (p:=λ_=>eC) o e h e B λq _=>rfl).trans F) ((cQ (p:=λ_=>true) o e h h B λq _=>rfl).trans G) f
end
def gT(d:Nat)(T:Int):Nat:=Q3 d (T % (d:Int)).toNat
section
variable{d:Nat}{T:Int}
theorem p_(h:0<d):0<gT d T:=Uu _ h
theorem Fl:gT d T ∣ d:=Nat.gcd_dvd_left _ _
theorem Ks(h:0<d):((gT d T:Nat):Int) ∣ T:=by
 have e:=PK T (show ((d:Nat):Int)≠0 by lia)
 have p:gT d T ∣ (T % (d:Int)).toNat:=Nat.gcd_dvd_right _ _;have B:((gT d T:Nat):Int) ∣ T % (d:Int):=by
  have:=Q5.mpr p
  rwa [RH e]at this
 have f:((gT d T:Nat):Int) ∣ (d:Int):=Q5.mpr Fl;have:=Int.dvd_add B (UB (c:=T / (d:Int)) f)
 rwa [Int.emod_add_mul_ediv]at this
theorem ER(h:0<d):Q3 (T / ((gT d T:Nat):Int)).natAbs (d / gT d T)=1:=by
 have p:=p_ (T:=T) h;generalize f:Q3 (T / ((gT d T:Nat):Int)).natAbs (d / gT d T)=k;have H:k ∣ d / gT d T:=by rw[<- f];exact Nat.gcd_dvd_right _ _
 have G:k ∣ (T / ((gT d T:Nat):Int)).natAbs:=by rw[<- f];exact Nat.gcd_dvd_left _ _
 have e:k*gT d T ∣ d:=by
  have:=Nat.mul_dvd_mul_right H (gT d T)
  rwa [SM Fl]at this
 have F:((k*gT d T:Nat):Int) ∣ T:=by
  have:=Int.mul_dvd_mul (Int.ofNat_dvd_left.mpr G) (Int.dvd_refl ((gT d T:Nat):Int));rw[Int.ediv_mul_cancel (Ks h)]at this;rw[QE];exact this
 have B:((k*gT d T:Nat):Int) ∣ T % (d:Int):=by
  rw[Int.emod_def];exact Int.dvd_sub F (UB<|Q5.mpr e)
 have I:=PK T (show ((d:Nat):Int)≠0 by lia)
 have J:k*gT d T ∣ (T % (d:Int)).toNat:=by
  rw[<- RH I]at B;exact Q5.mp B
 have O:k*gT d T ∣ gT d T:=Nat.dvd_gcd e J;have:=Nat.le_of_dvd p O;have kp:0<k:=by
  rcases Nat.eq_zero_or_pos k with z|z
  .subst z;rw[Nat.zero_mul]at e;have:=Nat.eq_zero_of_zero_dvd e;lia
  .exact z
 have:k*gT d T<=1*gT d T:=by lia
 have:=Nat.le_of_mul_le_mul_right this p;lia
theorem y3(h:0<d):0<d / gT d T:=Nat.div_pos (Nat.le_of_dvd h Fl) (p_ h)
theorem Bz(h:0<d):(T / ((gT d T:Nat):Int))*(d:Int)=T*((d / gT d T:Nat):Int):=by
 have B:=p_ (T:=T) h;obtain⟨x,f⟩:=Ks (T:=T) h;obtain⟨y,e⟩:=Fl (d:=d) (T:=T);generalize gT d T=g at *;have p:T / (g:Int)=x:=by rw[f];exact Uk _ (by lia)
 have F:d / g=y:=by rw[e];exact Nat.mul_div_cancel_left _ B
 rw[p,F,f,e]
 push_cast
 rw[<- Ul,Int.mul_comm x (g:Int)]
theorem Kz{k:Nat}(p:0<k)(h:0<d):gT (k*d) ((k:Int)*T)=k*gT d T:=by
 have e:=PK T (show ((d:Nat):Int)≠0 by lia)
 unfold gT;have:((k:Int)*T % ((k*d:Nat):Int)).toNat=k*(T % (d:Int)).toNat:=by
  rw[QE,Int.mul_emod_mul_of_pos _ _ (by lia)]
  obtain⟨r,f⟩:=Se e;rw[f,<- QE,OL,OL]
 rw[this,Nat.gcd_mul_left]
theorem zw{k:Nat}(e:0<k)(h:0<d):(k:Int)*T / ((gT (k*d) ((k:Int)*T):Nat):Int)=T / ((gT d T:Nat):Int)/\((k*d:Nat):Int) / ((gT (k*d) ((k:Int)*T):Nat):Int)=(d:Int) / ((gT d T:Nat):Int):=by
 rw[Kz e h,QE,QE];exact⟨UA _ _ (by lia),UA _ _<|by lia⟩
theorem Fd:gT d 0=d:=by unfold gT;simp
end
theorem qz:yh n T i=.tup [.int (T i / ((gT (fct n) (T i):Nat):Int)),.int (((fct n:Nat):Int) / ((gT (fct n) (T i):Nat):Int))]:=rfl
theorem Hh:fct (n+2)=(n+2)*(n+1)*fct n:=by
 show fct n*(n+1)*(n+2)=_;rw[RI,R6,RI (fct n)]
theorem BF{x:Out}(h:OutOk n x):ic (n+2) x i=(((n+2)*(n+1):Nat):Int)*ic n x i:=by
 have e:fct (n+2) / fct ((av x.f).length+(av x.s).length)=(n+2)*(n+1)*(fct n / fct ((av x.f).length+(av x.s).length)):=by
  rw[Hh,Nat.mul_div_assoc _ (qa h.l)]
 unfold ic;rw[e];generalize (n+2)*(n+1)=k;generalize fct n / fct ((av x.f).length+(av x.s).length)=E;rw[Int.mul_sub];congr 1
 .split
  .push_cast;simp only[Ul]
  .simp
 .split
  .push_cast;simp only[Ul]
  .simp
theorem pj{n:Nat}{i:Nat}:∀{xs:List Out},(∀x∈xs,OutOk n x)->bU (n+2) xs i=(((n+2)*(n+1):Nat):Int)*bU n xs i
 |[],_=>by simp[bU]
 |x::xs,h=>by
  have e:=pj (i:=i) λy p=>h y (OJ _ p);have f:=BF (i:=i) (h x OR);unfold bU at e ⊢;rw[Oy,Pp,e,f,Oy,Pp,Int.mul_add]
theorem Di{m:Nat}{x:Out}(h:OutOk n x)(e:n<=i):ic m x i=0:=by
 have p:x.f.testBit i=false:=Sl (OF h.f<|Py (by decide) e)
 have B:x.s.testBit i=false:=Sl (OF h.s<|Py (by decide) e)
 unfold ic;rw[p,B];simp
theorem oU{n m:Nat}{i:Nat}(f:n<=i):∀{xs:List Out},(∀x∈xs,OutOk n x)->bU m xs i=0
 |[],_=>rfl
 |x::xs,h=>by
  have e:=oU (m:=m) f λy p=>h y (OJ _ p);unfold bU at e ⊢;rw[Oy,Pp,e,Di (h x OR) f];rfl
theorem OutOk.more{x:Out}(h:OutOk n x):OutOk (n+2) x:=
 ⟨OF h.s (Py (by decide)<|by lia),OF h.f (Py (by decide)<|by lia),by have:=h.l;lia⟩
theorem ng(h:n<=7):fct n<=5040:=sD (b:=7) h
theorem JU{x:Out}(I:n<=7)(h:OutOk n x):-128024064000<=ic n x i/\ic n x i<=128024064000:=by
 have J:=h.l;have e:fct n / fct ((av x.f).length+(av x.s).length)<=5040:=OV (Nat.div_le_self _ _) (ng I);have p:∀E A B:Nat,E<=5040->A<=5040->B<=5040->E*A*B<=128024064000:=λE A B F H G=>by
  have:=Ss (Ss F H) G;exact this
 have P:=p _ _ _ e (ng (n:=(av x.f).length-1)<|by lia) (ng (n:=(av x.s).length)<|by lia)
 have O:=p _ _ _ e (ng (n:=(av x.f).length)<|by lia) (ng (n:=(av x.s).length-1)<|by lia)
 unfold ic
 split<;>split<;>lia
theorem yE{n:Nat}{i:Nat}(e:n<=7):∀{xs:List Out},(∀x∈xs,OutOk n x)->-128024064000*(xs.length:Int)<=bU n xs i/\bU n xs i<=128024064000*(xs.length:Int)
 |[],_=>by simp[bU]
 |x::xs,h=>by
  have f:=yE (i:=i) e λy p=>h y (OJ _ p);have B:=JU (i:=i) e (h x OR);unfold bU at f ⊢;rw[Oy,Pp,OE]
  push_cast
  lia
mutual
def Ki:Rw->Prop
 |.pick _ _=>False
 |.ifr _ a b=>eG a/\eG b
 |.again _ a=>eG a
 |.put _ _=>True
 |.take _ _=>True
 |.two _ _ _ _=>True
def eG:List Rw->Prop
 |[]=>True
 |r::rs=>Ki r/\eG rs
end
theorem jm:∀{a b:List Rw},eG a->eG b->eG (a++b)
 |[],_,_,h=>h
 |r::rs,b,h,h'=>⟨h.1,jm h.2 h'⟩
mutual
theorem An{names:Xk}{m:Int}{many:Nat}:∀(r:Rw),cy names m many r->cy names m ((many+2:Nat):Int) r
 |.put x k,h=>h
 |.take x i,h=>⟨h.1,h.2.1,by have:=h.2.2;lia⟩
 |.pick x y,h=>⟨h.1,h.2.1,by lia⟩
 |.two w x y z,h=>h
 |.ifr x a b,h=>by
  simp only[cy]at h ⊢;exact⟨h.1,eT a h.2.1,eT b h.2.2⟩
 |.again x a,h=>by
  simp only[cy]at h ⊢;exact⟨h.1,eT a h.2⟩
theorem eT{names:Xk}{m:Int}{many:Nat}:∀(rs:List Rw),bc names m many rs->bc names m ((many+2:Nat):Int) rs
 |[],_=>trivial
 |r::rs,h=>⟨An r h.1,eT rs h.2⟩
end
def Cse.mo(C:Cse):Cse:={ C with many:=C.many+2 }
def Sta.mo(s:Sta)(v w:Int):Sta:=⟨s.nums,s.pieces++[v,w]⟩
def jd(C:Cse):List aG:=[.inl (C.many:Nat),.inl ((C.many:Nat)+1:Int)]
def Gs.mo(g:Gs)(C:Cse)(v w:Int):Gs:={ g with ps:=g.ps++[v,w],u:=g.u++jd C }
section
variable{t:Sta}{r:Rw}{w v' w':Int}
theorem Cse.Ok.mo(o:C.Ok)(h:C.many<=90):C.mo.Ok:=⟨o.m2,o.m1,by show C.many+2<=100;lia,o.most,o.nd,o.l0,o.l1,eT _ o.ok,o.h,o.mn⟩
theorem SOk.mo(k:SOk C s)(f:0<=v/\v<C.w)(p:0<=w/\w<C.w):SOk C.mo (s.mo v w):=by
 refine⟨k.ln,?_,k.rn,λx e=>?_⟩
 .show (s.pieces++[v,w]).length=C.many+2
  rw[OH,k.lp];rfl
 .have e:x∈s.pieces++[v,w]:=e
  rcases Ph.mp e with h|h
  .exact k.rp x h
  .simp only[OQ,Pu,or_false]at h
   rcases h with rfl|rfl
   .exact f
   .exact p
theorem Ha:cW C.mo=cW C++jd C:=by
 show C.names.map OX++(Pm (C.many+2)).map (λ(i:Nat)=>(Qg (i:Int):aG))=C.names.map OX++(Pm C.many).map (λ(i:Nat)=>(Qg (i:Int):aG))++jd C;rw[Tq,Tq];simp[jd]
theorem Nz(e:q∈cW C):q∉jd C:=by
 intro h;simp only[jd,OQ,Pu,or_false]at h;rcases dX e with⟨x,_,rfl⟩|⟨i,hi,rfl⟩
 .rcases h with h|h<;>cases h
 .rcases h with h|h
  .have:=Rh h;lia
  .have:=Rh h;lia
theorem qC(k:SOk C s)(e:q∈cW C):aM C.mo (s.mo v w) q=aM C s q:=by
 rcases dX e with⟨x,_,rfl⟩|⟨i,hi,rfl⟩
 .rfl
 .show ((s.pieces++[v,w])[((i:Nat):Int).toNat]?).getD 0=(s.pieces[((i:Nat):Int).toNat]?).getD 0
  rw[OL,PJ (by rw[k.lp];exact hi)]
theorem qU(h:SOk C s)(p:SOk C t)(G:v≠v')(H:w≠w'):aB C.mo (s.mo v w) (t.mo v' w')=aB C s t++jd C:=by
 unfold aB;rw[Ha,P4];congr 1
 .refine QI λq e=>?_
  rw[qC h e,qC p e]
 .refine QU.mpr λq e=>?_
  have B:∀(z:Sta)(x y:Int),z.pieces.length=C.many->aM C.mo (z.mo x y) (.inl (C.many:Nat))=x:=λz x y f=>by
   show ((z.pieces++[x,y])[((C.many:Nat):Int).toNat]?).getD 0=x;rw[OL,Pj (by lia),f];simp
  have F:∀(z:Sta)(x y:Int),z.pieces.length=C.many->aM C.mo (z.mo x y) (.inl ((C.many:Nat)+1:Int))=y:=λz x y f=>by
   show ((z.pieces++[x,y])[(((C.many:Nat):Int)+1).toNat]?).getD 0=y;have:(((C.many:Nat):Int)+1).toNat=C.many+1:=by lia
   rw[this,Pj (by lia),f];simp
  simp only[jd,OQ,Pu,or_false]at e;rcases e with rfl|rfl
  .rw[B s v w h.lp,B t v' w' p.lp];exact decide_eq_true G
  .rw[F s v w h.lp,F t v' w' p.lp];exact decide_eq_true H
theorem At(e:q∈cW C):q∈(g.mo C v w).u↔q∈g.u:=by
 show q∈g.u++jd C↔_;rw[Ph];exact⟨λh=>h.elim id λz=>absurd z (Nz e),.inl⟩
theorem Dt:(OX x:aG)∈(g.mo C v w).u↔(OX x:aG)∈g.u:=by
 show _∈g.u++jd C↔_;rw[Ph];refine⟨λh=>h.elim id λz=>?_,.inl⟩;simp only[jd,OQ,Pu,or_false]at z;rcases z with z|z<;>cases z
theorem JX(f:cy C.names C.w C.many r)(G:Ki r):dR C.mo (g.mo C v w) r=dR C g r:=by
 have O:((cY r).filter λx=>decide ((OX x:aG)∈(g.mo C v w).u))=(cY r).filter λx=>decide ((OX x:aG)∈g.u):=QI λx _=>by simp only[Dt]
 have ne:¬(g.mo C v w).u=[]:=by
  show ¬g.u++jd C=[];simp[jd]
 have R:∀l:List Str,(jd C).filter (λk=>decide (k∈l.map (OX:Str->aG)))=[]:=λl=>by
  rw[Sf];intro q H h;obtain⟨x,_,e⟩:=Pf.mp (of_decide_eq_true h);simp only[jd,OQ,Pu,or_false]at H;subst e;rcases H with z|z<;>cases z
 have I:xS C.mo (g.mo C v w).n r=xS C g.n r:=by
  cases r with
  |pick=>exact G.elim
  |_=>rfl
 unfold dR;rw[if_neg ne,O,Ha,P4,R,Pw,I]
 by_cases c:g.u=[]
 .rw[if_pos c,c]
  simp only[Pu,decide_false];have J:∀l:List Str,l.filter (λ_=>eC)=[]:=λl=>by induction l<;>simp_all
  have P:∀l:List aG,l.filter (λ_=>eC)=[]:=λl=>by induction l<;>simp_all
  simp only[J,OZ,Pu,decide_false,P];cases p:xS C g.n r with
  |none=>rfl
  |some i=>
   have:(Qg i:aG)∉(g.mo C v w).u:=by
    have F:(Qg i:aG)∈cW C:=by
     cases r with
     |take x j=>
      have e:j=i:=by simpa [xS] using p
      subst e;exact Ph.mpr (.inr<|Pf.mpr ⟨j.toNat,P7.mpr (by have:=f.2.1;have:=f.2.2;lia),by congr 1;have:=f.2.1;lia⟩)
     |pick=>exact G.elim
     |_=>cases p
    rw[At F,c];exact Pu
   simp only[if_neg this]
 .rw[if_neg c]
  cases S:(cW C).filter λk=>decide (k∈((cY r).filter λx=>decide ((OX x:aG)∈g.u)).map OX) with
  |cons k l=>rfl
  |nil=>
   cases p:xS C g.n r with
   |none=>rfl
   |some i=>
    have F:(Qg i:aG)∈cW C:=by
     cases r with
     |take x j=>
      have e:j=i:=by simpa [xS] using p
      subst e;exact Ph.mpr (.inr<|Pf.mpr ⟨j.toNat,P7.mpr (by have:=f.2.1;have:=f.2.2;lia),by congr 1;have:=f.2.1;lia⟩)
     |pick=>exact G.elim
     |_=>cases p
    by_cases B:(Qg i:aG)∈g.u
    .simp only[if_pos B,if_pos ((At (v:=v) (w:=w) F).mpr B)]
    .simp only[if_neg B,if_neg λz=>B ((At (v:=v) (w:=w) F).mp z)]
theorem Mb(ok:GOk C g)(h:cy C.names C.w C.many r)(B:Ki r):jS C.mo (g.mo C v w) rest r=(jS C g rest r).mo C v w:=by
 have p:∀x:Str,(jd C).filter (λk=>decide (k≠(OX x:aG)))=jd C:=λx=>QU.mpr λq f=>by
  simp only[jd,OQ,Pu,or_false]at f;rcases f with rfl|rfl<;>exact decide_eq_true λz=>by cases z
 have set:∀(x:Str)(n:Int),Gs.mk (sN g.n x n) (g.ps++[v,w]) ((g.u++jd C).filter λk=>decide (k≠.inr x)) rest (g.left-1)=Gs.mo ⟨sN g.n x n,g.ps,g.u.filter λk=>decide (k≠.inr x),rest,g.left-1⟩ C v w:=λx n=>by
  show _=Gs.mk _ _ _ _ _;rw[P4,p]
 cases r with
 |pick=>exact B.elim
 |take x i=>
  have G:=h.2.2;have F:=h.2.1;have e:num ((g.mo C v w).cf C.mo) (g.mo C v w).n (.take x i)=num (g.cf C) g.n (.take x i):=by
   show ((g.ps++[v,w])[i.toNat]?).getD 0=(g.ps[i.toNat]?).getD 0;rw[PJ (by rw[ok.lp];lia)]
  show Gs.mk (sN g.n x<|num ((g.mo C v w).cf C.mo) (g.mo C v w).n<|.take x i) (g.ps++[v,w]) ((g.u++jd C).filter λk=>decide (k≠.inr x)) rest (g.left-1)=_;rw[e];exact set x _
 |put x k=>exact set x _
 |two w' x y z=>exact set x _
 |ifr x a b=>rfl
 |again x a=>rfl
theorem Nc(f:Ki r)(e:eG rest):eG (jS C g rest r).td:=by
 cases r with
 |ifr x a b=>
  show eG ((if nm g.n x=0 then b else a)++rest)
  simp only[Ki]at f
  split
  .exact jm f.2 e
  .exact jm f.1 e
 |again x a=>
  show eG (if nm g.n x=0 then rest else a++(.again x a::rest))
  split
  .exact e
  .exact jm (by simpa only[Ki] using f) ⟨f,e⟩
 |_=>exact e
theorem G_(o:C.Ok):∀(f:Nat)(g:Gs),GOk C g->eG g.td->bB C.mo f (g.mo C v w)=((bB C f g).1,(bB C f g).2.mo C v w)/\eG (bB C f g).2.td
 |0,g,ok,np=>⟨rfl,np⟩
 |f+1,g,ok,np=>by
  have h:(g.mo C v w).td=g.td:=rfl;have B:(g.mo C v w).left=g.left:=rfl;unfold bB;rw[h,B];cases e:g.td with
  |nil=>
   refine⟨?_,by rw[e];trivial⟩
   show (if (OX C.mn:aG)∈(g.mo C v w).u then ap (OX C.mn) else cm,g.mo C v w)=(if (OX C.mn:aG)∈g.u then ap (OX C.mn) else cm,g.mo C v w)
   simp only[Dt]
  |cons r rest=>
   have p:cy C.names C.w C.many r:=by
    have:=ok.td;rw[e]at this;exact this.1
   rw[e]at np;dsimp only
   by_cases c:g.left<=0
   .rw[if_pos c,if_pos c]
    exact⟨rfl,by rw[e];exact np⟩
   .rw[if_neg c,if_neg c,JX p np.1]
    cases a:dR C g r with
    |some k=>exact⟨rfl,by dsimp only;rw[e];exact np⟩
    |none=>
     dsimp only;rw[Mb ok p np.1];exact G_ o f _ (qi o ok e) (Nc np.1 np.2)
theorem Ax{x:Int}(ok:GOk C g)(p:q∈cW C):cj (g.mo C v w) q x=(cj g q x).mo C v w:=by
 have f:(jd C).filter (λk=>decide (k≠q))=jd C:=QU.mpr λk B=>decide_eq_true λz=>Nz p (z▸B);cases q with
 |inr y=>
  show Gs.mk (sN g.n y x) (g.ps++[v,w]) ((g.u++jd C).filter λk=>decide (k≠.inr y)) g.td g.left=Gs.mk (sN g.n y x) (g.ps++[v,w]) ((g.u.filter λk=>decide (k≠.inr y))++jd C) g.td g.left;rw[P4,f]
 |inl j=>
  obtain⟨i,F,e⟩:∃i:Nat,i<C.many/\j=(i:Int):=by
   rcases dX p with⟨y,G,e⟩|⟨i,h,e⟩
   .cases e
   .exact⟨i,h,Rh e⟩
  subst e;show Gs.mk g.n ((g.ps++[v,w]).set ((i:Nat):Int).toNat x) ((g.u++jd C).filter λk=>decide (k≠.inl (i:Int))) g.td g.left=Gs.mk g.n (g.ps.set ((i:Nat):Int).toNat x++[v,w]) ((g.u.filter λk=>decide (k≠.inl (i:Int)))++jd C) g.td g.left;rw[P4,f,List.set_append_left _ _ (by rw[OL,ok.lp];exact F)]
theorem yl(o:C.Ok)(I:SOk C s)(J:SOk C t):∀(f:Nat)(g:Gs),GOk C g->eG g.td->(∀x∈g.u,x∈cW C)->bX C.mo (s.mo v w) (t.mo v' w') f (g.mo C v w)=bX C s t f g
 |0,g,ok,np,hu=>rfl
 |f+1,g,ok,np,hu=>by
  have p:=l_ o (C.most+1) g ok;obtain⟨⟨_,h⟩,_,hask⟩:=ii (C:=C) (C.most+1) g;obtain⟨R,H⟩:=G_ (v:=v) (w:=w) o (C.most+1) g ok np;unfold bX;have S:C.mo.most=C.most:=rfl;rw[S,R];generalize bB C (C.most+1) g=go at *;obtain⟨a,F⟩:=go;dsimp only at *;cases a with
  |none=>rfl
  |some q=>
   have e:=hu q (h q<|hask q rfl);dsimp only;rw[qC I e,qC J e,Ax p e,Ax p e];have B:∀y:Sta,SOk C y->bX C.mo (s.mo v w) (t.mo v' w') f ((cj F q<|aM C y q).mo C v w)=bX C s t f (cj F q<|aM C y q):=λy P=>by
    refine yl o I J f _ (lA p<|cq o P e) ?_ λx O=>?_
    .have G:(cj F q<|aM C y q).td=F.td:=by cases q<;>rfl
     rw[G];exact H
    .rw[dS]at O;exact hu x (h x (OC.mp O).1)
   rw[B s I,B t J]
theorem xP(o:C.Ok)(f:SOk C s)(h:SOk C t)(p:eG C.rows)(B:v≠v')(F:w≠w'):C.mo.tree (s.mo v w) (t.mo v' w')=C.tree s t:=by
 have e:g0 C.mo (s.mo v w) (t.mo v' w')=(g0 C s t).mo C v w:=by
  show Gs.mk _ _ _ _ _=Gs.mk _ _ _ _ _;rw[qU f h B F];rfl
 show bX C.mo (s.mo v w) (t.mo v' w') 24 (g0 C.mo (s.mo v w)<|t.mo v' w')=bX C s t 24 (g0 C s t);rw[e];exact yl o f h 24 _ (CZ o f) p kx
theorem wo{us X:List aG}{a b:Int}:∀(t:Tr)(u:List aG)(S F:Nat),TrN t u->(∀q∈u,q∈us)->c_ a b (us++X) t S F=c_ a b us t S F
 |.e m,u,S,F,_,_=>rfl
 |.a q x y,u,S,F,h,hs=>by
  have p:bitK (us++X) q=bitK us q:=by
   unfold bitK;rw[List.idxOf_append,if_pos (hs q h.1)]
  have f:∀k∈u.filter (λk=>decide (k≠q)),k∈us:=λk B=>hs k (OC.mp B).1;unfold c_;rw[p,wo x _ _ _ h.2.1 f,wo y _ _ _ h.2.2 f]
end
def flt(rs:List Rw):List Rw:=rs.filter bi
def C6(d:D):Bool:=match d with
 |.tup (.str w::_)=>!(decide (w=("if":Str))||decide (w=("again":Str)))
 |_=>true
theorem Iu{r:Rw}(h:cy names m many r):C6 r.d=bi r:=by
 have e:∀w rest,C6 (.tup (.str w::rest))=!(decide (w=("if":Str))||decide (w=("again":Str))):=λ_ _=>rfl
 cases r with
 |two w x y z=>
  simp only[Rw.d,e,bi];rcases h.1 with rfl|rfl|rfl|rfl<;>decide +kernel
 |_=>simp only[Rw.d,e,bi];decide +kernel
theorem wR{names:Xk}{m many:Int}:∀{rs:List Rw},bc names m many rs->(aw rs).filter C6=aw (flt rs)
 |[],_=>rfl
 |r::rs,h=>by
  have e:=wR h.2;unfold flt at e ⊢;rw[aw,Pg,Pg,Iu h.1,e]
  split<;>rfl
theorem vP{names:Xk}{m many:Int}:∀{rs:List Rw},bc names m many rs->bc names m many (flt rs)
 |[],_=>trivial
 |r::rs,h=>by
  have e:=vP h.2;unfold flt at e ⊢;rw[Pg]
  split
  .exact⟨h.1,e⟩
  .exact e
theorem qg{r:Rw}(h:cy names m many r):∃(w:Str)(rest:List D),r.d=.tup (.str w::.str (eD r)::rest):=by
 cases r<;>exact⟨_,_,rfl⟩
theorem t9{d:D}(h:d∈aw rs):∃r∈rs,d=r.d:=by
 rw[gC]at h;obtain⟨r,e,rfl⟩:=Pf.mp h;exact⟨r,e,rfl⟩
theorem i_{names:Xk}{m many:Int}:∀{rs:List Rw}{r:Rw},bc names m many rs->r∈rs->cy names m many r
 |r::rs,q,h,hq=>by
  rcases OQ.mp hq with rfl|hq
  .exact h.1
  .exact i_ h.2 hq
section
variable{k:Pt}
theorem pF(J:rs.length<=1000)(ok:bc names m many rs)(h:Q (.tup<|aw<|flt rs) M):sx ad [.tup (aw rs)] M Q E:=by
 rw[My (n:=0)];unfold yi;simp only[az,bz,aa,af,ao,aX,bH,ac,dt,aJ,bE,bu,OZ,OS,OU,Oy];refine dk C6 id aS (by rw[bS];lia) (λx G K q=>?_) (λx G _ K q=>q) ?_
 .obtain⟨r,H,rfl⟩:=t9 G
  obtain⟨w,rest,e⟩:=qg (i_ ok H);have I:C6 r.d=!(decide (w=("if":Str))||decide (w=("again":Str))):=by rw[e];rfl
  rw[I]at q;rw[e];simp![atI_0];refine⟨bf (by decide),λp B=>?_⟩
  rw[Mem.upd_del,aD B];rcases Decidable.em (w=("if":Str)) with c1|c1
  .subst c1
   simpa [aP] using q
  .rcases Decidable.em (w=("again":Str)) with c2|c2
   .subst c2
    simpa [aP] using q
   .have f:¬("if":Str)=w:=λz=>c1 z.symm
    have F:¬("again":Str)=w:=λz=>c2 z.symm;simpa [aP,c1,c2,f,F] using q
 intro p B;rw[Qj,wR ok];refine cC B ?_;exact ak h
theorem fA(B:Has k M)(F:2<=m)(f:m<=997)(G:0<=v/\v<m)(h:∀w M',0<=w->w<m->w≠v->Dr k M M'->Q (.int w) M'):nK ad [.ref k.p,.int m,.int v] M Q E:=by
 rw[Mc (n:=0)];unfold ye;simp![];refine aN B (by lia) (by lia) λr M' a b d=>?_
 simp![];refine⟨by lia,ak<|h _ _ (PK _<|by lia) (PY _<|by lia) ?_ d⟩
 intro z
 by_cases c:v+1+r<m
 .rw[Int.emod_eq_of_lt (by lia) c]at z;lia
 .have e:(v+1+r) % m=v+1+r-m:=by
   rw[<- Int.sub_emod_right,Int.emod_eq_of_lt (by lia) (by lia)]
  rw[e]at z;lia
end
def HU(C:Cse)(s t:Sta):D:=if (C.run s).1=true/\(C.run t).1=true then .tup [.int (nm (C.run s).2.nums C.mn),.int (nm (C.run t).2.nums C.mn)] else .non
theorem pw:∀(n:Nat)(f:Str->Int)(xs:Xk),bt n (xs.map λx=>D.int (f x))=true
 |n,f,[]=>by cases n<;>rfl
 |n,f,x::xs=>by
  have:=pw n f xs;cases n<;>simp[bt,bj,this]
theorem EB{r:Bool×Sx}:bj 60 (eL names r)=true:=by
 unfold eL
 split
 .have:=pw 59 (λx=>nm r.2.nums x) names
  simp[bj,this]
 .rfl
theorem DF{r:Bool×Sx}:aP (eL names r) .non=!r.1:=by
 unfold eL;cases r.1<;>rfl
theorem B4{r:Bool×Sx}(f:r.1=true)(e:names[j]?=ap mk):∃xs,eL names r=.tup xs/\atI xs (j:Int)=ap (.int<|nm r.2.nums mk):=by
 refine⟨names.map λx=>.int (nm r.2.nums x),by unfold eL;rw[if_pos f],?_⟩
 rw[bo (by lia),OL,OO,e];rfl
section
variable{t:Sta}
theorem MI(o:C.Ok)(e:SOk C z)(h:K (eL C.names<|C.run z) M):
  ah au (ou<|aj (mY ad) EE 3<|aa (ac 1)<|aa (ac 0)<|aa (ac 2) af) (dC<|.int 1) [ap z.d,ap C.d,ap (.int (C.most:Nat))] M K:=by
 rw[e.pd];simp only[ah,ou,aj,aa,ac,af,dC,Ov,dt];refine⟨rfl,um (o.pl e) ?_⟩;unfold zg;simp only[au,aJ,atI_1,Ov,dt];exact h
theorem fQ(o:C.Ok)(Z:SOk C s)(ht:SOk C t)(h:Q (HU C s t) M):p9 ad [C.d,s.d,t.d,.int (C.most:Nat)] M Q E:=by
 have H:=@AS C;rw[MS (n:=0)];unfold wB;generalize f:lB ad (aA E)=K3;generalize F:(ah au (ou<|aj (mY ad) iY 3<|aa (ac 1)<|aa (ac 0)<|aa (ac 2) af)<|dC<|.int 1)=te;have J:∀{z:Sta}{K:DK},SOk C z->K (eL C.names<|C.run z) M->te [ap z.d,ap C.d,ap (.int (C.most:Nat))] M K:=λ{z K} R q=>by
  rw[<- F];exact MI o R q
 simp only[ai,cG,cZ,aX,bH,ao,bQ,aa,ac,af,dt,Ov,bu,Oy,OZ,OS,OU];refine⟨bf (by simp),λp B=>cC B ?_⟩
 simp only[aJ,bE];unfold cw;refine⟨aS,?_⟩;simp only[ag,OM,dG,if_true,PR];refine J Z ⟨jx (by simp),?_⟩
 unfold cw;refine⟨aS,?_⟩;simp only[ag,OM,dG,if_true];refine J ht ⟨jx (by simp),?_⟩
 unfold cw;refine⟨aS,λp B=>?_⟩;simp only[OU,OS,OM,dt,Ov,fg,Mem.upd_same,Mem.upd_del,aD B];rw[<- f];unfold lB;generalize G:kL ad (aA E)=K2;unfold HU at h;have W:bt 60 [eL C.names (C.run s),eL C.names (C.run t)]=true:=by simp[bt,EB]
 simp only[ai,aH,am,ah,dC,ac,dt,Ov,C1,qx,aJ,dv,W,(show bj 60 D.non=true from rfl),and_self,if_true,Qn,List.any_nil,DF,QY]
 by_cases c:(C.run s).1=true/\(C.run t).1=true
 .rw[if_pos c]at h
  simp only[c.1,c.2,P1,Bool.or_self,ON,if_false,aF];rw[<- G];unfold kL;generalize I:lZ ad (aA E)=K1;obtain⟨j,P,e⟩:=rP o.mn;obtain⟨xs,X,Y⟩:=B4 c.1 e;obtain⟨ys,S,O⟩:=B4 c.2 e;rw[H];simp![atI_1,atI_4,fE,P];rw[<- I];unfold lZ;simp![atI_0,atI_1,X,S,Y,O];exact⟨OV o.l1 (by decide),bf (by simp),ak h⟩
 .rw[if_neg c]at h
  have:(!(C.run s).1||!(C.run t).1)=true:=by
   cases h1:(C.run s).1<;>cases h2:(C.run t).1<;>simp_all
  simp only[this,if_true,az,dC];exact ak h
theorem rC(h:Q (HU C s t) M):frz (HU C s t) M Q:=by
 unfold HU at h ⊢
 split at h
 .rename_i c;rw[if_pos c];exact h
 .rename_i c;rw[if_neg c];exact h
end
section
variable{cf:Cf}
theorem F_{n:cA}{r:Rw}:iE cf n (rs++rest) r=((iE cf n rs r).1,(iE cf n rs r).2++rest):=by
 cases r with
 |ifr x a b=>simp only[iE,List.append_assoc]
 |again x a=>
  simp only[iE]
  split<;>simp
 |_=>rfl
theorem kY:∀(k:Nat)(n:cA)(rs:List Rw)(f:cA),fin cf k n rs=ap f->∀(e:Nat)(rest:List Rw),∃j,e<=j/\fin cf (k+e) n (rs++rest)=fin cf j f rest
 |k,n,[],f,h,e,rest=>by
  rw[df]at h;cases h;exact⟨k+e,by lia,rfl⟩
 |0,n,r::rs,f,h,e,rest=>by cases h
 |k+1,n,r::rs,f,h,e,rest=>by
  have F:fin cf k (iE cf n rs r).1 (iE cf n rs r).2=ap f:=h;obtain⟨j,B,p⟩:=kY k _ _ _ F e rest;refine⟨j,B,?_⟩;have:k+1+e=(k+e)+1:=by lia
  rw[this,OS];show fin cf (k+e) (iE cf n (rs++rest) r).1 (iE cf n (rs++rest) r).2=_;rw[F_];exact p
theorem Lp{k1 k2:Nat}{n:cA}{r:Rw}:iE ⟨m,ps,k1⟩ n rest r=iE ⟨m,ps,k2⟩ n rest r:=by cases r<;>rfl
theorem Bq{m:Int}{ps:Xj}{k1 k2:Nat}:∀(k:Nat)(n:cA)(rs:List Rw),fin ⟨m,ps,k1⟩ k n rs=fin ⟨m,ps,k2⟩ k n rs
 |k,n,[]=>by rw[df,df]
 |0,n,r::rs=>rfl
 |k+1,n,r::rs=>by
  show fin _ k (iE ⟨m,ps,k1⟩ n rs r).1 (iE ⟨m,ps,k1⟩ n rs r).2=fin _ k (iE ⟨m,ps,k2⟩ n rs r).1 (iE ⟨m,ps,k2⟩ n rs r).2;rw[Lp (k1:=k1) (k2:=k2)];exact Bq k _ _
def fz(cf:Cf)(n:cA)(rs:List Rw):cA:=rs.foldl (λn r=>sN n (eD r) (num cf n r)) n
theorem lH:∀(rs:List Rw)(k:Nat)(n:cA),(∀r∈rs,bi r=true)->rs.length<=k->fin cf k n rs=ap (fz cf n rs)
 |[],k,n,_,_=>df
 |r::rs,0,n,_,h=>by simp at h
 |r::rs,k+1,n,hs,h=>by
  have e:=hs r OR;have p:iE cf n rs r=(sN n (eD r) (num cf n r),rs):=by
   cases r with
   |ifr=>cases e
   |again=>cases e
   |_=>rfl
  show fin cf k (iE cf n rs r).1 (iE cf n rs r).2=_;rw[p];exact lH rs k _ (λq f=>hs q (OJ _ f)) (by simpa using h)
theorem FO{n:cA}:∀(rs:List Rw),(fz cf n rs).map (·.1)=n.map (·.1):=by
 intro rs
 induction rs generalizing n with
 |nil=>rfl
 |cons r rs ih=>
  show (fz cf (sN n (eD r)<|num cf n r) rs).map (·.1)=_;rw[ih,iS]
theorem Hg{y:Str}:∀(rs:List Rw)(n:cA),(∀r∈rs,eD r∈n.map (·.1))->(∀r∈rs,eD r≠y)->nm (fz cf n rs) y=nm n y
 |[],n,_,_=>rfl
 |r::rs,n,hk,hn=>by
  show nm (fz cf (sN n (eD r)<|num cf n r) rs) y=_;rw[Hg rs _ (λq e=>by rw[iS];exact hk q (OJ _ e)) (λq e=>hn q (OJ _ e)),i6 (hk r OR),if_neg λz=>hn r OR z.symm]
end
theorem Cs{p q:Int}(H:0<=p/\p<m)(G:0<=q/\q<m)(h:p≠q):(a+p) % m≠(a+q) % m:=by
 intro z;have e:(a+p-(a+q)) % m=0:=Int.emod_eq_emod_iff_emod_sub_eq_zero.mp z;have B:a+p-(a+q)=p-q:=by lia
 rw[B]at e;have F:=Int.dvd_of_emod_eq_zero e;obtain⟨c,f⟩:=F;have:c=0:=by
  rcases Int.lt_trichotomy c 0 with g|g|g
  .have:=Tv (show c<=-1 by lia) (show (0:Int)<=m by lia)
   rw[Int.mul_neg,Tu]at this;lia
  .exact g
  .have:=Tv (show 1<=c by lia) (show (0:Int)<=m by lia)
   rw[Tu]at this;lia
 subst this;rw[Int.mul_zero]at f;lia
def Cse.rw(C:Cse)(rs:List Rw):Cse:={ C with rows:=rs }
def Cse.two(C:Cse)(s t:Sta):Prop:=∃a b,C.mark s=.int a/\C.mark t=.int b/\a≠b
section
variable{t:Sta}{more:List Rw}{n:cA}
theorem y0(o:C.Ok)(e:SOk C z):NOk C.names C.w (C.run z).2.nums:=dq (o.pl e).co C.rows (o.pl e).ok [] 0 ⟨C.names.zip z.nums,[]⟩ (o.pl e).nok
theorem yM(h:(C.run z).1=true):fin (C.cf z) C.most (C.names.zip z.nums) C.rows=ap (C.run z).2.nums:=by
 have e:=ib (cf:=C.cf z) C.rows [] 0 ⟨C.names.zip z.nums,[]⟩ [];rw[Pw]at e;have f:fin (C.cf z) C.most (C.names.zip z.nums) C.rows=vw (C.cf z) (C.run z) []:=e;rw[f];unfold vw;rw[if_pos h,df]
theorem md{n:cA}(h:fin (C.cf z) C.most (C.names.zip z.nums) C.rows=ap n):(C.run z).1=true/\(C.run z).2.nums=n:=by
 have e:=ib (cf:=C.cf z) C.rows [] 0 ⟨C.names.zip z.nums,[]⟩ [];rw[Pw]at e;have f:fin (C.cf z) C.most (C.names.zip z.nums) C.rows=vw (C.cf z) (C.run z) []:=e;rw[f]at h;unfold vw at h
 split at h
 .rename_i c
  rw[df]at h;cases h;exact⟨c,rfl⟩
 .cases h
theorem eW{n:cA}(h:fin (C.cf z) C.most (C.names.zip z.nums) C.rows=ap n):C.mark z=.int (nm n C.mn):=by
 rw[sk,h];rfl
theorem oy(h:fin (C.cf z) (C.most-4) (C.names.zip z.nums) C.rows=ap n)(G:4<=C.most)(p:∀r∈more,bi r=true)(F:more.length<=4):(C.rw (C.rows++more)).mark z=.int (nm (fz (C.cf z) n more) C.mn):=by
 obtain⟨j,B,e⟩:=kY _ _ _ _ h 4 more;have f:C.most-4+4=C.most:=by lia
 rw[f,lH more j n p (by lia)]at e
 exact eW (C:=C.rw (C.rows++more)) e
end
def kO(y:Str)(rs:List Rw):List Rw:=rs.filter λr=>decide (eD r≠y)
def FQ(y:Str)(d:D):Bool:=match d with
 |.tup (_::.str x::_)=>decide (x≠y)
 |_=>true
theorem ud{names:Xk}{m many:Int}{y:Str}:∀{rs:List Rw},bc names m many rs->(aw rs).filter (FQ y)=aw (kO y rs)
 |[],_=>rfl
 |r::rs,h=>by
  have f:=ud (y:=y) h.2;obtain⟨w,rest,e⟩:=qg h.1;have p:FQ y r.d=decide (eD r≠y):=by rw[e];rfl
  unfold kO at f ⊢;rw[aw,Pg,Pg,p,f]
  split<;>rfl
theorem yH{names:Xk}{m many:Int}{p:Rw->Bool}:∀{rs:List Rw},bc names m many rs->bc names m many (rs.filter p)
 |[],_=>trivial
 |r::rs,h=>by
  have e:=yH (p:=p) h.2;rw[Pg]
  split
  .exact⟨h.1,e⟩
  .exact e
theorem zM:∀{rs:List Rw},bc names m many rs->(∀r∈rs,bi r=true)->∀r∈rs,cz names m many r:=λh f r e=>gE (i_ h e) (f r e)
theorem g7:∀{rs:List Rw},(∀r∈rs,bi r=true)->cU rs=0
 |[],_=>rfl
 |r::rs,h=>by
  have e:=h r OR;have p:=g7 λq f=>h q (OJ _ f);cases r with
  |ifr=>exact absurd e OW
  |again=>exact absurd e OW
  |_=>simp[cU,hR,p]
theorem qT:∀r∈flt rs,bi r=true:=λr e=>(OC.mp e).2
theorem gx:∀r∈kO y (flt rs),bi r=true:=λr e=>qT r (OC.mp e).1
theorem CN{a b c d e:D}:kd [a,b,c,d,e] cm (ap 3)=[a,b,c]:=rfl
section
variable{t:Sta}
theorem Cse.Ok.rw(o:C.Ok)(e:bc C.names C.w C.many rs)(f:cU rs<=7):(C.rw rs).Ok:=⟨o.m2,o.m1,o.few,o.most,o.nd,o.l0,o.l1,e,f,o.mn⟩
theorem SOk.rw(k:SOk C s):SOk (C.rw rs) s:=⟨k.ln,k.lp,k.rn,k.rp⟩
theorem nQ(o:C.Ok)(f:∀r∈rs,bi r=true)(e:rs.length<=C.most):fin ((C.rw rs).cf z) (C.rw rs).most (C.names.zip z.nums) (C.rw rs).rows=ap (fz (C.cf z) (C.names.zip z.nums) rs):=lH (cf:=C.cf z) rs C.most _ f e
theorem zb(o:C.Ok)(f:∀r∈rs,bi r=true)(e:rs.length<=C.most):(C.rw rs).mark z=.int (nm (fz (C.cf z) (C.names.zip z.nums) rs) C.mn):=eW (C:=C.rw rs) (nQ o f e)
theorem Dm{n e:cA}(F:fin (C.cf s) C.most (C.names.zip s.nums) C.rows=ap n)(G:fin (C.cf t) C.most (C.names.zip t.nums) C.rows=ap e):HU C s t=.tup [.int (nm n C.mn),.int (nm e C.mn)]:=by
 obtain⟨h,f⟩:=md F;obtain⟨p,B⟩:=md G;unfold HU;rw[if_pos ⟨h,p⟩,f,B]
theorem ne_e{w:D}{rest:List D}{K:Bool->Mem->Prop}(q:K (!decide (x=y)) M):am (ah k8 (ah au (ac 0)<|dC<|.int 1)<|ac 1) [ap (.tup (w::.str x::rest)),ap (.str y)] M K:=by
 simp only[am,ah,ac,dC,au,k8,dv,bj,aP,aJ,atI_1,dt,Ov];exact⟨trivial,trivial,q⟩
theorem sH(o:C.Ok)(hs:SOk C s)(ht:SOk C t)(hy:y∈C.names)(hn:aM C s (.inr y)≠aM C t (.inr y))(hrl:C.rows.length<=1000)(hl:(flt C.rows).length+1<=C.most)(h:∀rs,(C.rw rs).Ok->(C.rw rs).two s t->(∀r∈rs,bi r=true)->rs.length<=(flt C.rows).length+1->Q (C.rw rs).d M):xL ad [C.d,s.d,t.d,.int (C.most:Nat),.str y] M Q E:=by
 have Z:=@AS C;have H:∀rs,(C.rw rs).d=.tup [.int C.w,.tup (C.names.map D.str),.int (C.many:Nat),.tup (aw rs),.str C.mn]:=λ_=>rfl;have G:=vP o.ok;have B:bc C.names C.w C.many (kO y<|flt C.rows):=yH G;have ln:(kO y<|flt C.rows).length<=(flt C.rows).length:=Po _ _;have lf:(flt C.rows).length<=C.rows.length:=Po _ _;have o1:=o.rw B (by rw[g7 gx];decide)
 have f1:=nQ (z:=s) o gx (show (kO y<|flt C.rows).length<=C.most by lia)
 have f2:=nQ (z:=t) o gx (show (kO y<|flt C.rows).length<=C.most by lia)
 have em:=Dm (C:=C.rw (kO y<|flt C.rows)) f1 f2;have rk:∀(z:Sta),SOk C z->∀r∈kO y (flt C.rows),eD r∈(C.names.zip z.nums).map (·.1):=λz I r F=>by
  rw[fM I.ln.symm];exact wk (zM B gx r F)
 have ny:∀(z:Sta),SOk C z->nm (fz (C.cf z) (C.names.zip z.nums)<|kO y<|flt C.rows) y=aM C z (.inr y):=λz I=>Hg _ _ (rk z I) λr F=>of_decide_eq_true (OC.mp F).2;rw[No (n:=0)];unfold xk;generalize O:li ad (aA E)=K5;rw[Z];simp only[ai,ar,bz,aa,af,ao,aX,bH,aj,ah,ac,dC,au,aJ,atI_3,dt,Ov,bu,OZ,Oy,OS,OU];refine⟨rfl,aO (λ_ _ q=>pF hrl o.ok q) ?_⟩;simp only[frz,bE,aJ,PR];refine dk (FQ y) id aS (by rw[bS];lia) (λx hx K q=>?_) (λx hx _ K q=>q) ?_
 .obtain⟨r,F,rfl⟩:=t9 hx
  obtain⟨w,rest,e⟩:=qg (i_ G F);have e2:FQ y r.d=decide (eD r≠y):=by rw[e];rfl
  rw[e2]at q;rw[e];exact ne_e (by simpa [aP] using q)
 intro p hp;rw[Qj,ud G];simp only[Mem.upd_same,Mem.upd_del,aD hp,cB,aJ,ag,OM];rw[<- O];unfold li;generalize Y:lJ ad (aA E)=K4;simp![CN,atI_4];refine⟨bf (by decide),bf (by decide),?_⟩
 rw[<- Y];unfold lJ;generalize R:lF ad (aA E)=K3;simp only[ai,ar,ao,aj,aa,ac,af,dt,Ov];rw[<- H];refine⟨rfl,aO (λ_ _ q=>fQ (C:=C.rw (kO y<|flt C.rows)) o1 hs.rw ht.rw q)<|rC ?_⟩;rw[em];simp only[ag,OM];rw[<- R];unfold lF;generalize X:kW ad (aA E)=K2;simp![atI_0,atI_1];generalize hfs:fz (C.cf s) (C.names.zip s.nums) (kO y<|flt C.rows)=ns at *;generalize W:fz (C.cf t) (C.names.zip t.nums) (kO y<|flt C.rows)=nt' at *;have S:(C.rw<|kO y<|flt C.rows).mn=C.mn:=rfl;rw[S]
 by_cases c:nm ns C.mn=nm nt' C.mn
 .simp only[if_pos c]
  rw[<- X];unfold kW;generalize hK1:lN ad (aA E)=K1;rw[H];simp![atI_4];refine⟨bf (by decide),?_⟩
  rw[<- hK1];unfold lN;simp![CN,atI_4,bS];refine⟨bf (by decide),bf (by lia),bf (by decide),bf (by decide),ak ?_⟩
  have er:aw (kO y<|flt C.rows)++[D.tup [.str "sum",.str C.mn,.str C.mn,.str y]]=aw (kO y (flt C.rows)++[.two "sum" C.mn C.mn y]):=by
   rw[bO];rfl
  rw[er,<- H];have f:∀r∈kO y (flt C.rows)++[.two "sum" C.mn C.mn y],bi r=true:=λr F=>by
   rcases Ph.mp F with h|h
   .exact gx r h
   .simp only[U2]at h;subst h;rfl
  have P:bc C.names C.w C.many (kO y (flt C.rows)++[.two "sum" C.mn C.mn y]):=OkRs_append.mpr ⟨B,⟨⟨.inl rfl,o.mn,o.mn,hy⟩,trivial⟩⟩;refine h _ (o.rw P<|by rw[g7 f];decide) ?_ f (by rw[OH,PV];lia)
  have g:∀(z:Sta),SOk C z->(C.rw (kO y (flt C.rows)++[.two "sum" C.mn C.mn y])).mark z=.int ((nm (fz (C.cf z) (C.names.zip z.nums)<|kO y<|flt C.rows) C.mn+aM C z (.inr y)) % C.w):=λz I=>by
   refine (zb o f<|by rw[OH,PV];lia).trans ?_
   have e:fz (C.cf z) (C.names.zip z.nums) (kO y (flt C.rows)++[.two "sum" C.mn C.mn y])=sN (fz (C.cf z) (C.names.zip z.nums)<|kO y<|flt C.rows) C.mn (num (C.cf z) (fz (C.cf z) (C.names.zip z.nums)<|kO y<|flt C.rows)<|.two "sum" C.mn C.mn y):=by
    unfold fz;rw[List.foldl_append];rfl
   have ek:C.mn∈(fz (C.cf z) (C.names.zip z.nums)<|kO y<|flt C.rows).map (·.1):=by rw[FO,fM I.ln.symm];exact o.mn
   rw[e];rw[i6 ek,if_pos rfl];show D.int (yJ "sum" _ _ _)=_;unfold yJ;rw[if_pos rfl,ny z I];rfl
  refine⟨_,_,g s hs,g t ht,?_⟩;rw[hfs,W,c];have J:(OX y:aG)∈cW C:=Ph.mpr (.inl<|Pf.mpr ⟨y,hy,rfl⟩);exact Cs (cq o hs J) (cq o ht J) hn
 .simp only[if_neg c]
  refine ak (h _ o1 ⟨_,_,?_,?_,c⟩ gx<|by lia)
  .exact eW f1
  .exact eW f2
end
theorem pe:∀(n:Nat)(xs:Xk),bt n (xs.map D.str)=true
 |n,[]=>by cases n<;>rfl
 |n,x::xs=>by
  have:=pe n xs;cases n<;>simp[bt,bj,this]
section
variable{t:Sta}
theorem ne_m{p h B f:D}{e:Str}{K:Bool->Mem->Prop}(q:K (!decide (x=e)) M):am (ah k8 (ac 0)<|ah au (ac 1)<|dC<|.int 4) [ap (.str x),ap (.tup [p,h,B,f,.str e])] M K:=by
 simp only[am,ah,ac,dC,au,k8,dv,bj,aP,aJ,atI_4,dt,Ov];exact⟨trivial,trivial,q⟩
theorem HJ{δ0 e:Option D}{xs:Xk}{b:Bool}{K:Bool->Mem->Prop}(F:b=!xs.isEmpty)(q:K b M):am (ah k8 (ac 2)<|ao<|bQ af) [δ0,e,ap (.lst<|xs.map D.str)] M K:=by
 simp only[am,ah,ac,ao,bQ,af,dt,Ov];refine⟨bf (by simp),λp h=>cC h ?_⟩
 have f:=pe 59 xs;have B:bt 59 ([]:List D)=true:=rfl;simp only[k8,dv,bj,f,B];refine⟨trivial,trivial,?_⟩;rw[F]at q;cases xs with
 |nil=>exact q
 |cons x xs=>exact q
theorem vE{f h:Str}:∀r∈[Rw.take h 0,.two "sum" f f h],bi r=true:=by
 intro r e;simp only[OQ,Pu,or_false]at e;rcases e with rfl|rfl<;>rfl
theorem rN(o:C.Ok)(hs:SOk C s)(ht:SOk C t)(h0:0<C.many)(hn:aM C s (.inl 0)≠aM C t (.inl 0))(hrl:C.rows.length<=1000)(h4:4<=C.most)(f1:fin (C.cf s) (C.most-4) (C.names.zip s.nums) C.rows=ap n1)(f2:fin (C.cf t) (C.most-4) (C.names.zip t.nums) C.rows=ap n2)(k1:n1.map (·.1)=C.names)(k2:n2.map (·.1)=C.names)(he:nm n1 C.mn=nm n2 C.mn)(h:∀more,(C.rw (C.rows++more)).Ok->(C.rw (C.rows++more)).two s t->(∀r∈more,bi r=true)->more.length<=2->Q (C.rw (C.rows++more)).d M):Ea ad [C.d] M Q E:=by
 have S:=@AS C;have I:∀rs,(C.rw rs).d=.tup [.int C.w,.tup (C.names.map D.str),.int (C.many:Nat),.tup (aw rs),.str C.mn]:=λ_=>rfl;have l1:=o.l1;have F:(Qg 0:aG)∈cW C:=Ph.mpr (.inr<|Pf.mpr ⟨0,P7.mpr h0,rfl⟩);have Z:∀more:List Rw,(∀r∈more,bi r=true)->bc C.names C.w C.many more->(C.rw (C.rows++more)).Ok:=λmore e P=>o.rw (OkRs_append.mpr ⟨o.ok,P⟩) (by rw[dI,g7 e];have:=o.h;lia)
 rw[u_q6 (n:=0)];unfold G5;generalize R:qP ad (aA E)=K4;rw[S];simp![atI_4];refine⟨bf (by decide),bf (by decide),?_⟩
 rw[<- R];unfold qP;generalize J:qG ad (aA E)=K3;simp only[ai,cG,cZ,aX,bH,ah,ac,dC,au,aJ,atI_1,dt,Ov,bu,OZ,Oy,OS,OU,bE,PR];refine dk (λd=>match d with|.str x=>!decide (x=C.mn)|_=>true) id aS (by rw[Ox];lia) (λx H K q=>?_) (λx H _ K q=>q) ?_
 .obtain⟨y,hy,rfl⟩:=Pf.mp H
  exact ne_m q
 intro p hp;have ef:((C.names.map D.str).filter λd=>match d with|.str x=>!decide (x=C.mn)|_=>true)=(C.names.filter λx=>!decide (x=C.mn)).map D.str:=by
  rw[P9];rfl
 rw[Qj,ef];simp only[fg,OM,dt,Ov,Mem.upd_same,Mem.upd_del,aD hp];rw[<- J];unfold qG;generalize G:mU ad (aA E)=K2;generalize W:qq ad (aA E)=K1;cases hf:C.names.filter λx=>!decide (x=C.mn) with
 |nil=>
  unfold ai aH;refine HJ (b:=eC) rfl ?_;rw[if_neg (by simp),<- G]
  unfold mU;simp![CN,atI_3,atI_4,bS];refine⟨bf (by lia),bf (by decide),bf (by decide),ak ?_⟩
  have O:aw C.rows++[D.tup [.str "take",.str C.mn,.int 0]]=aw (C.rows++[.take C.mn 0]):=by rw[bO];rfl
  rw[O,<- I];have e:∀r∈[Rw.take C.mn 0],bi r=true:=λr Y=>by simp only[U2]at Y;subst Y;rfl
  have g:∀(z:Sta)(n:cA),fin (C.cf z) (C.most-4) (C.names.zip z.nums) C.rows=ap n->n.map (·.1)=C.names->(C.rw (C.rows++[.take C.mn 0])).mark z=.int (aM C z<|.inl 0):=λz n f k=>by
   refine (oy f h4 e<|by simp).trans ?_
   have:nm (fz (C.cf z) n [.take C.mn 0]) C.mn=aM C z (.inl 0):=by
    show nm (sN n C.mn _) C.mn=_;rw[i6 (by rw[k];exact o.mn),if_pos rfl];rfl
   rw[this]
  exact h _ (Z _ e ⟨⟨o.mn,Q6 _,by lia⟩,trivial⟩) ⟨_,_,g s n1 f1 k1,g t n2 f2 k2,hn⟩ e (by simp)
 |cons x0 xs=>
  have H:x0∈C.names.filter λx=>!decide (x=C.mn):=by rw[hf];exact OR
  have B:=(OC.mp H).1;have X:¬x0=C.mn:=by simpa using (OC.mp H).2
  unfold ai aH;refine HJ (b:=true) rfl ?_;rw[if_pos rfl,<- W];unfold qq;simp![atI_0,atI_4,Oy];refine⟨bf (by decide),bf (by decide),bf (by decide),?_⟩
  rw[<- G];unfold mU;simp![CN,atI_3,atI_4,bS];refine⟨bf (by lia),bf (by decide),bf (by decide),ak ?_⟩
  have O:aw C.rows++[D.tup [.str "take",.str x0,.int 0],D.tup [.str "sum",.str C.mn,.str C.mn,.str x0]]=aw (C.rows++[.take x0 0,.two "sum" C.mn C.mn x0]):=by rw[bO];rfl
  rw[O,<- I];have g:∀(z:Sta)(n:cA),fin (C.cf z) (C.most-4) (C.names.zip z.nums) C.rows=ap n->n.map (·.1)=C.names->(C.rw (C.rows++[.take x0 0,.two "sum" C.mn C.mn x0])).mark z=.int ((nm n C.mn+aM C z (.inl 0)) % C.w):=λz n f k=>by
   refine (oy f h4 vE<|by simp).trans ?_
   have:nm (fz (C.cf z) n [.take x0 0,.two "sum" C.mn C.mn x0]) C.mn=(nm n C.mn+aM C z (.inl 0)) % C.w:=by
    show nm (sN (sN n x0<|aM C z<|.inl 0) C.mn<|yJ "sum" (nm (sN n x0<|aM C z<|.inl 0) C.mn) (nm (sN n x0<|aM C z<|.inl 0) x0) C.w) C.mn=_;rw[i6 (by rw[iS,k];exact o.mn),if_pos rfl,i6 (by rw[k];exact B),i6 (by rw[k];exact B),if_neg λz=>X z.symm,if_pos rfl]
    unfold yJ;rw[if_pos rfl]
   rw[this]
  refine h _ (Z _ vE ⟨⟨B,Q6 _,by lia⟩,⟨.inl rfl,o.mn,o.mn,B⟩,trivial⟩) ⟨_,_,g s n1 f1 k1,g t n2 f2 k2,?_⟩ vE (by simp)
  rw[he];exact Cs (cq o hs F) (cq o ht F) hn
end
theorem tq{p:Rw->Bool}:∀(rs:List Rw),cRs (rs.filter p)<=cRs rs
 |[]=>OB _
 |r::rs=>by
  have:=tq (p:=p) rs;rw[Pg]
  split
  .simp only[cRs];lia
  .simp only[cRs];lia
theorem rA:∀(rs:List Rw),rs.length<=cRs rs
 |[]=>OB _
 |r::rs=>by
  have:=rA rs;have:1<=cR r:=by cases r<;>simp only[cR]<;>lia
  simp only[cRs,OE];lia
theorem qW:∀{rs:List Rw},(∀r∈rs,bi r=true)->cRs rs=rs.length
 |[],_=>rfl
 |r::rs,h=>by
  have e:=h r OR;have p:=qW λq f=>h q (OJ _ f);cases r with
  |ifr=>exact absurd e OW
  |again=>exact absurd e OW
  |_=>simp only[cRs,cR,p,OE];lia
section
variable{t:Sta}{d0 d1 d2 d5 d6 d8 d9 d10:Option D}
def NP(C:Cse)(s t:Sta)(fi:Nat):Prop:=if fi<C.names.length then ∀y,C.names[fi]?=ap y->aM C s (.inr y)≠aM C t (.inr y) else aM C s (.inl 0)≠aM C t (.inl 0)
theorem KZ(o:C.Ok)(R:SOk C s)(P:SOk C t)(Z:0<C.many)(hc:cRs C.rows<=24)(Y:30<=C.most)(p:NP C s t fi)(O:M ln=ap (.lst<|t.nums.map D.int))(f1:fin (C.cf s) (C.most-4) (C.names.zip s.nums) C.rows=ap n1)(f2:fin (C.cf t) (C.most-4) (C.names.zip t.nums) C.rows=ap n2)(k1:n1.map (·.1)=C.names)(k2:n2.map (·.1)=C.names)(X:nm n1 C.mn=nm n2 C.mn)(h:∀rs,(C.rw rs).Ok->(C.rw rs).two s t->cRs rs<=26->∀e,D'.nx [d0,d1,d2,ap (C.rw rs).d,ap s.d,ap (.ref ln),d6,ap (.int (fi:Nat)),d8,d9,d10,ap t.d,ap (.int (C.most:Nat)),e] M):
  ∀e,fN ad EE D' [d0,d1,d2,ap C.d,ap s.d,ap (.ref ln),d6,ap (.int (fi:Nat)),d8,d9,d10,ap t.d,ap (.int (C.most:Nat)),e] M:=by
 intro e;have f:=@AS C;have lr:=rA C.rows;have lf:(flt C.rows).length<=C.rows.length:=Po _ _;have fd:∀{rs:List Rw}{M:Mem}{Q:DK},Q (C.rw rs).d M->frz (C.rw rs).d M Q:=λq=>q;unfold fN;have hl:t.nums.length=C.names.length:=P.ln;simp only[aH,am,ah,ac,bz,aa,af,dt,Ov,bM,aJ,O,Ox,uQ,jt];unfold NP at p
 by_cases c:fi<C.names.length
 .rw[if_pos c]at p
  rw[if_pos (by simp;lia)]
  obtain⟨y,I⟩:∃y,C.names[fi]?=ap y:=⟨_,Oz c⟩;have J:y∈C.names:=Rq I;have S:atI (C.names.map D.str) (fi:Int)=ap (.str y):=by rw[bo (by lia),OL,OO,I];rfl
  unfold nG;simp only[ar,ao,aj,aa,af,ac,ah,dC,dt,Ov,f,au,aJ,atI_1,S];rw[<- f];refine⟨rfl,aq λQ' E' H _=>sH o R P J (p y I) (by lia) (by lia) λrs G F B W=>H _ _ (fd ?_)⟩
  simp only[ag,OM];exact h rs G F (by rw[qW B];lia) _
 .rw[if_neg c]at p
  rw[if_neg (by simp;lia)]
  unfold mH;simp only[ar,ao,aj,aa,af,ac,dt,Ov];refine⟨rfl,aq λQ' E' H _=>rN o R P Z p (by lia) (by lia) f1 f2 k1 k2 X λmore G F B W=>H _ _ (fd ?_)⟩
  simp only[ag,OM];exact h _ G F (by rw[dF,qW B];lia) _
theorem AM(o:C.Ok)(J:SOk C s)(O:SOk C t)(h0:0<C.many)(hc:cRs C.rows<=24)(I:30<=C.most)(hf:NP C s t fi)(H:M ln=ap (.lst<|t.nums.map D.int))(f1:fin (C.cf s) (C.most-4) (C.names.zip s.nums) C.rows=ap n1)(R:fin (C.cf t) (C.most-4) (C.names.zip t.nums) C.rows=ap n2)(h:∀rs,(C.rw rs).Ok->(C.rw rs).two s t->cRs rs<=26->D'.rt (bF (C.rw rs) s t) M):
  fU ad EE D' [d0,d1,d2,ap C.d,ap s.d,ap (.ref ln),d6,ap (.int (fi:Nat)),d8,d9,d10,ap t.d,ap (.int (C.most:Nat)),cm] M:=by
 obtain⟨j1,_,G⟩:=kY _ _ _ _ f1 4 [];obtain⟨j2,_,F⟩:=kY _ _ _ _ R 4 [];have X:C.most-4+4=C.most:=by lia
 rw[X,Pw,df]at G F;have em:=Dm G F;have Z:=md G;have Y:=md F;have S:n1.map (·.1)=C.names:=by rw[<- Z.2];exact(y0 o J).keys
 have W:n2.map (·.1)=C.names:=by rw[<- Y.2];exact(y0 o O).keys
 have e:∀rs,(C.rw rs).Ok->(C.rw rs).two s t->cRs rs<=26->∀f,fL ad EE D' [d0,d1,d2,ap (C.rw rs).d,ap s.d,ap (.ref ln),d6,ap (.int (fi:Nat)),d8,d9,d10,ap t.d,ap (.int (C.most:Nat)),f] M:=λrs a b c f=>by
  unfold fL;simp only[az,aK,aa,ac,af,dt,Ov];exact⟨bf (by simp),h rs a b c⟩
 unfold fU;generalize B:jc ad EE=K14;simp only[ai,ar,ao,aj,aa,af,ac,dt,Ov];refine⟨rfl,aO (λ_ _ q=>fQ o J O q)<|rC ?_⟩;rw[em];simp only[ag,OM];rw[<- B];unfold jc;generalize p:fN ad EE=K12;generalize P:fL ad EE=K13 at *;simp only[ai,aH,am,ah,ac,dC,dt,Ov,au,aJ,atI_0,atI_1,bZ,dv,bj,aP];refine⟨trivial,trivial,?_⟩
 by_cases c:nm n1 C.mn=nm n2 C.mn
 .rw[if_pos (by simpa using c)]
  rw[<- p];exact KZ o J O h0 hc I hf H f1 R S W c e _
 .rw[if_neg (by simpa using c)]
  simp only[aF];exact e C.rows o ⟨_,_,eW G,eW F,c⟩ (by lia) _
theorem KI(o:C.Ok)(p:SOk C s)(B:SOk C t)(Y:0<C.many)(W:cRs C.rows<=24)(G:30<=C.most)(X:NP C s t fi)(F:M ln=ap (.lst<|t.nums.map D.int))(h:∀rs,(C.rw rs).Ok->(C.rw rs).two s t->cRs rs<=26->D'.rt (bF (C.rw rs) s t) M):
  g9 ad EE D' [d0,d1,d2,ap C.d,ap s.d,ap (.ref ln),d6,ap (.int (fi:Nat)),d8,d9,d10,ap t.d,ap (.int (C.most:Nat)),cm] M:=by
 have H:=@AS C;have lr:=rA C.rows;have lf:(flt C.rows).length<=C.rows.length:=Po _ _;generalize e:({ C with most:=C.most-4 }:Cse)=C4;have o4:C4.Ok:=by subst e;exact⟨o.m2,o.m1,o.few,by show C.most-4<=_;have:=o.most;lia,o.nd,o.l0,o.l1,o.ok,o.h,o.mn⟩
 have s4:SOk C4 s:=by subst e;exact⟨p.ln,p.lp,p.rn,p.rp⟩
 have t4:SOk C4 t:=by subst e;exact⟨B.ln,B.lp,B.rn,B.rp⟩
 have O:C4.d=C.d:=by subst e;rfl
 have em:((C.most:Nat):Int)-4=(C4.most:Nat):=by subst e;show _=((C.most-4:Nat):Int);lia
 have Z:∀z,fin (C4.cf z) C4.most (C4.names.zip z.nums) C4.rows=fin (C.cf z) (C.most-4) (C.names.zip z.nums) C.rows:=λz=>by
  subst e;exact Bq (k1:=C.most-4) (k2:=C.most) (C.most-4) _ _
 have J:=vP o.ok;have of:=o.rw J (by rw[g7 qT];decide)
 unfold g9;generalize f:fU ad EE=K15;generalize I:lx ad EE=K9;simp only[ai,aH,am,ah,ao,aj,aa,af,ac,dC,dt,Ov,fI,jt,em];rw[<- O];refine⟨rfl,aO (λ_ _ q=>fQ o4 s4 t4 q)<|rC ?_⟩;rw[O];unfold HU
 by_cases c:(C4.run s).1=true/\(C4.run t).1=true
 .rw[if_pos c]
  have R:=yM c.1;have S:=yM c.2;rw[Z]at R S;simp only[jC,iV,ON,if_false,aF];rw[<- f];exact AM o p B Y W G X F R S h
 .rw[if_neg c]
  simp only[jC,iV,if_true];rw[<- I];unfold lx;rw[H];simp only[ar,ah,ao,tR,bI,cK,aK,aa,af,aj,ac,dC,dt,Ov,Jt,CN,frz,au,aJ,atI_3,atI_4];refine⟨rfl,aO (λ_ _ q=>pF (by lia) o.ok q) ?_⟩
  simp only[aW,ag,OM];refine⟨bf (by simp),bf (by simp),?_⟩
  have eq:D.tup [.int C.w,.tup (C.names.map D.str),.int (C.many:Nat),.tup (aw<|flt C.rows),.str C.mn]=(C.rw<|flt C.rows).d:=rfl;simp only[OS,OU,eq];have P:∀z,fin ((C.rw<|flt C.rows).cf z) ((C.rw<|flt C.rows).most-4) (C.names.zip z.nums) (flt C.rows)=ap (fz (C.cf z) (C.names.zip z.nums)<|flt C.rows):=λz=>lH (cf:=C.cf z) _ _ _ qT (by show _<=C.most-4;lia)
  rw[<- f];exact AM (C:=C.rw (flt C.rows)) of p.rw B.rw Y (OV (tq C.rows) W) G X F (P s) (P t) h
end
def gA(xs:Xj)(i:Nat):Int:=(xs[i]?).getD 0
def Aq(xs ys:Xj):Nat:=((Pm xs.length).filter λi=>decide (gA xs i≠gA ys i)).length
theorem tF{p q:Nat->Bool}{j:Nat}:∀(l:List Nat),l.Nodup->(∀i∈l,i≠j->p i=true->q i=true)->(l.filter p).length<=(l.filter q).length+if j∈l then 1 else 0
 |[],_,_=>by simp
 |i::l,nd,h=>by
  have f:=QC.mp nd;have F:=tF (p:=p) (q:=q) (j:=j) l f.2 λk G=>h k (OJ _ G)
  by_cases e:i=j
  .subst e
   rw[if_neg f.1]at F;rw[if_pos OR,Pg,Pg]
   split<;>split<;>(try simp only[OE])<;>lia
  .have I:=h i OR e
   have H:(if j∈i::l then 1 else 0)=if j∈l then 1 else 0:=by
    have:j∈i::l↔j∈l:=by simp[OQ,Pa e,eq_comm,e]
    simp only[this]
   rw[H,Pg,Pg]
   by_cases B:p i=true
   .rw[if_pos B,if_pos (I B),OE,OE];lia
   .rw[if_neg B]
    split
    .rw[OE];lia
    .exact F
theorem mG(f:j<xs.length):gA (xs.set j v) i=if i=j then v else gA xs i:=by
 unfold gA;rw[RX]
 by_cases e:j=i
 .subst e;rw[if_pos rfl,if_pos f,if_pos rfl];rfl
 .rw[if_neg e,if_neg λz=>e z.symm]
theorem ly{ys:Xj}(h:j<ys.length):Aq xs (ys.set j v)<=Aq xs ys+1:=by
 unfold Aq;have:=tF (p:=λi=>decide (gA xs i≠gA (ys.set j v) i)) (q:=λi=>decide (gA xs i≠gA ys i)) (j:=j) (Pm xs.length) Ta λi _ e f=>by
  rw[mG h,if_neg e]at f;exact f
 split at this<;>lia
theorem ji:Aq xs xs=0:=by
 unfold Aq;rw[Sf.mpr λi _=>by simp];rfl
theorem q_(h:i<xs.length):gA xs i∈xs:=by
 unfold gA;rw[Oz h];exact Qs h
theorem ya(h:i<xs.length):atI (xs.map D.int) (i:Int)=ap (.int<|gA xs i):=by
 rw[bo (by lia),OL,OO]
 unfold gA;rw[Oz h];rfl
structure Cm(k:Pt)(ln lp:eg)(ns ps:Xj)(M0 M:Mem):Prop where
 has:Has k M
 a:ln≠k.p/\ln≠k.q
 b:lp≠k.p/\lp≠k.q
 ab:ln≠lp
 en:M ln=ap (.lst<|ns.map D.int)
 ep:M lp=ap (.lst<|ps.map D.int)
 n0:M0 ln=cm
 p0:M0 lp=cm
 keep:∀b o,b≠k.p->b≠k.q->M0 b=ap o->M b=ap o
structure Df(m:Int)(nums pieces ns ps:Xj)(fi cnt:Nat):Prop where
 ln:ns.length=nums.length
 lp:ps.length=pieces.length
 rn:∀v∈ns,0<=v/\v<m
 rp:∀v∈ps,0<=v/\v<m
 few:Aq nums ns+Aq pieces ps<=cnt
 fi:if fi<nums.length then gA nums fi≠gA ns fi else gA pieces 0≠gA ps 0
section
variable{k:Pt}{pieces:Xj}{cnt:Nat}
theorem Cm.dr(c:Cm k ln lp ns ps M0 M)(d:Dr k M M'):Cm k ln lp ns ps M0 M':=
 ⟨d.1,c.a,c.b,c.ab,by rw[d.2 ln c.a.1 c.a.2];exact c.en,by rw[d.2 lp c.b.1 c.b.2];exact c.ep,c.n0,c.p0,λb o f h e=>by rw[d.2 b f h];exact c.keep b o f h e⟩
theorem gK:(xs.map D.int).set j (.int v)=(xs.set j v).map D.int:=by rw[List.map_set]
theorem Cm.sN(c:Cm k ln lp ns ps M0 M):Cm k ln lp (ns.set j v) ps M0 (M.upd ln<|.lst<|(ns.set j v).map D.int):=
 ⟨c.has.upd c.a,c.a,c.b,c.ab,Mem.upd_same,by rw[ae c.ab.symm];exact c.ep,c.n0,c.p0,λb o f h e=>by rw[ae (Mem.ne e c.n0)];exact c.keep b o f h e⟩
theorem Cm.sP(c:Cm k ln lp ns ps M0 M):Cm k ln lp ns (ps.set j v) M0 (M.upd lp<|.lst<|(ps.set j v).map D.int):=
 ⟨c.has.upd c.b,c.a,c.b,c.ab,by rw[ae c.ab];exact c.en,Mem.upd_same,c.n0,c.p0,λb o f h e=>by rw[ae (Mem.ne e c.p0)];exact c.keep b o f h e⟩
theorem lR(h:∀v∈xs,0<=v/\v<m)(f:0<=v/\v<m):∀w∈xs.set j v,0<=w/\w<m:=λw e=>by
 rcases T3 e with h1|h1
 .exact h w h1
 .subst h1;exact f
theorem Df.sN(d:Df m nums pieces ns ps fi cnt)(h:j<nums.length)(p:0<=v/\v<m)(B:v≠gA nums j):Df m nums pieces (ns.set j v) ps fi (cnt+1):=by
 have f:j<ns.length:=by rw[d.ln];exact h
 refine⟨by rw[QD];exact d.ln,d.lp,lR d.rn p,d.rp,?_,?_⟩
 .have:=ly (xs:=nums) (v:=v) f
  have:=d.few;lia
 .have:=d.fi
  split at this
  .rename_i c
   rw[if_pos c,mG f]
   split
   .rename_i e;rw[e];exact λz=>B z.symm
   .exact this
  .rename_i c;rw[if_neg c];exact this
theorem Df.sP(d:Df m nums pieces ns ps fi cnt)(h:j<pieces.length)(p:0<=v/\v<m)(B:v≠gA pieces j):Df m nums pieces ns (ps.set j v) fi (cnt+1):=by
 have f:j<ps.length:=by rw[d.lp];exact h
 refine⟨d.ln,by rw[QD];exact d.lp,d.rn,lR d.rp p,?_,?_⟩
 .have:=ly (xs:=pieces) (v:=v) f
  have:=d.few;lia
 .have:=d.fi
  split at this
  .rename_i c;rw[if_pos c];exact this
  .rename_i c
   rw[if_neg c,mG f]
   split
   .rename_i e;rw[e];exact λz=>B z.symm
   .exact this
end
section
variable{k:Pt}{pieces:Xj}{cnt:Nat}{d1 d2 d7 d9 d10 d11 d12 d13:Option D}{pl:List D}{sm:Int}
theorem MT(c:Cm k ln lp ns ps M0 M)(d:Df m nums pieces ns ps fi cnt)(m2:2<=m)(m1:m<=997)(rn:∀v∈nums,0<=v/\v<m)(rp:∀v∈pieces,0<=v/\v<m)(hp:atI pl 0=ap (.int m))(s0:0<sm)(s1:sm<=(nums.length:Int)+pieces.length)(hb:nums.length+pieces.length<=1000)(h:∀I H M' J,Cm k ln lp I H M0 M'->Df m nums pieces I H fi (cnt+1)->D'.nx [ap (.ref k.p),d1,d2,ap (.tup pl),ap (bC nums pieces),ap (.ref ln),ap (.ref lp),d7,ap (.int sm),d9,J,d11,d12,d13] M'):
  ir ad EE D' [ap (.ref k.p),d1,d2,ap (.tup pl),ap (bC nums pieces),ap (.ref ln),ap (.ref lp),d7,ap (.int sm),d9,d10,d11,d12,d13] M:=by
 have f:∀{v:Int}{M:Mem}{Q:DK},Q (.int v) M->frz (.int v) M Q:=λz=>z;unfold ir;generalize Y:lD ad EE=K7;simp only[ai,ar,ao,aj,aa,af,ac,dt,Ov];refine⟨rfl,aN c.has s0 (by lia) λr M1 a1 b1 dr=>f ?_⟩
 have F:=c.dr dr;simp only[ag,OM];rw[<- Y];unfold lD;generalize X:lQ ad EE=K4;generalize Z:kZ ad EE=K6;simp only[aH,am,ah,bz,aa,af,ac,dt,Ov,bM,aJ,F.en,Ox,uQ,jt,d.ln];obtain⟨j,hj⟩:∃j:Nat,r=(j:Int):=⟨r.toNat,by lia⟩
 subst hj
 by_cases q:j<nums.length
 .rw[if_pos (by simp;lia),<- X]
  unfold lQ;simp only[ar,ao,aj,aa,af,ac,ah,dC,bC,dt,Ov,au,aJ,hp,atI_0,ya q];refine⟨rfl,aq λQ' E' W _=>fA F.has m2 m1 (rn _<|q_ q) λw M2 S P O B=>W _ _ (f ?_)⟩;have G:=F.dr B;simp only[de,ac,dt,Ov,nz,G.en,Ox,fq (show (0:Int)<=(j:Int) by lia) (show (j:Int)<(ns.length:Nat) by rw[d.ln];lia),OL,gK]
  exact h _ _ _ _ G.sN (d.sN q ⟨S,P⟩ O)
 .rw[if_neg (by simp;lia),<- Z]
  unfold kZ;generalize R:lz ad EE=K5;simp only[ai,ar,ah,bz,aa,af,ac,dt,Ov,bM,aJ,F.en,Ox,fI,jt,d.ln,ag,OM];obtain⟨i,hi,e⟩:∃i:Nat,(j:Int)-(nums.length:Int)=(i:Int)/\i<pieces.length:=⟨j-nums.length,by lia,by lia⟩
  rw[hi,<- R];unfold lz;simp only[ar,ao,aj,aa,af,ac,ah,dC,bC,dt,Ov,au,aJ,hp,atI_0,atI_1,ya e];refine⟨rfl,aq λQ' E' W _=>fA F.has m2 m1 (rp _<|q_ e) λw M2 S P O B=>W _ _ (f ?_)⟩;have G:=F.dr B;simp only[de,ac,dt,Ov,nz,G.ep,Ox,fq (show (0:Int)<=(i:Int) by lia) (show (i:Int)<(ps.length:Nat) by rw[d.lp];lia),OL,gK]
  exact h _ _ _ _ G.sP (d.sP e ⟨S,P⟩ O)
end
mutual
theorem Lc{names:Xk}{m a b:Int}(h:a<=b):∀(r:Rw),cy names m a r->cy names m b r
 |.put x k,h1=>h1
 |.take x i,h1=>⟨h1.1,h1.2.1,Int.lt_of_lt_of_le h1.2.2 h⟩
 |.pick x y,h1=>⟨h1.1,h1.2.1,Int.lt_of_lt_of_le h1.2.2 h⟩
 |.two w x y z,h1=>h1
 |.ifr x c d,h1=>by
  simp only[cy]at h1 ⊢;exact⟨h1.1,iu h c h1.2.1,iu h d h1.2.2⟩
 |.again x c,h1=>by
  simp only[cy]at h1 ⊢;exact⟨h1.1,iu h c h1.2⟩
theorem iu{names:Xk}{m a b:Int}(h:a<=b):∀(rs:List Rw),bc names m a rs->bc names m b rs
 |[],_=>trivial
 |r::rs,h1=>⟨Lc h r h1.1,iu h rs h1.2⟩
end
theorem EG(l:Xk)(p:aG->Bool):((l.map OX).filter p).length=((Pm l.length).filter λi=>p (.inr<|(l[i]?).getD ("":Str))).length:=by
 have e:l=(Pm l.length).map λi=>(l[i]?).getD ("":Str):=List.ext_getElem (by simp) λi f h=>by rw[Tc,List.getElem_range,Oz f];rfl
 conv=>lhs;rw[e]
 rw[Qb,P9,Ox];rfl
structure CaOk(C:Cse)(s t:Sta)(few:Nat):Prop where
 o:C.Ok
 hs:SOk C s
 ht:SOk C t
 two:C.two s t
 un:(aB C s t).length<=few
 h0:0<C.many
 h1:C.many<=40
 cn:cRs C.rows<=26
 one:∀x∈C.names,ug x
section
variable{t:Sta}
theorem rq(o:C.Ok)(e:SOk C s)(h:C.names[i]?=ap y):aM C s (.inr y)=gA s.nums i:=by
 have:=wu o.nd e.ln.symm h;unfold gA;rw[this];rfl
theorem EV(o:C.Ok)(h:SOk C s)(p:SOk C t):(aB C s t).length=Aq s.nums t.nums+Aq s.pieces t.pieces:=by
 unfold aB cW;rw[P4,OH,EG];congr 1
 .unfold Aq
  rw[h.ln];congr 1;refine QI λi f=>?_;have f:=P7.mp f;have e:C.names[i]?=ap ((C.names[i]?).getD ("":Str)):=by rw[Oz f];rfl
  rw[rq o h e,rq o p e]
 .unfold Aq
  rw[P9,Ox,h.lp];rfl
theorem JL:aB (C.rw rs) s t=aB C s t:=rfl
end
section
variable{k:Pt}
theorem cut2{a b c d e:D}:kd [a,b,c,d,e] cm (ap 2)=[a,b]:=rfl
theorem HL{a b c d e:D}:kd [a,b,c,d,e] (ap 3) cm=[d,e]:=rfl
theorem zP{few:Nat}(f1:1<=few)(f5:few<=5)(hp:Has k M)(h:∀C s t M',CaOk C s t few->Kq k M M'->Q (bF C s t) M'):yO ad [.ref k.p,.int 24,.int (few:Nat)] M Q E:=by
 have ft:∀{xs:List D}{M:Mem}{Q:DK},Q (.tup xs) M->frz (.tup xs) M Q:=λz=>z;have H:∀{v:Int}{M:Mem}{Q:DK},Q (.int v) M->frz (.int v) M Q:=λz=>z;rw[MM (n:=0)];unfold wZ;generalize hK26:iF ad (aA E)=K26;simp only[ai,ar,ao,aj,aa,af,ac,dt,Ov];refine⟨rfl,aq λQ' E' hq _=>zx (v:=24) (by decide) (by decide) hp λm many names rows mk M1 pl hc q1=>hq _ _ (ft ?_)⟩
 simp only[ag,OM];rw[<- hK26];unfold iF;generalize hK25:j9 ad (aA E)=K25;have t4:=pl.t.k0;have t5:=pl.t.k1;have m2:=pl.t.m2;have m1:=pl.t.m1;have l0:=pl.t.n0;have l1:=pl.t.n1;obtain⟨f,hmn,mn1,mn40,mle⟩:∃f:Nat,(if many>1 then many else 1)=(f:Int)/\1<=f/\f<=40/\many<=(f:Int):=by
  refine⟨(if many>1 then many else 1).toNat,?_,?_,?_,?_⟩<;>split<;>lia
 simp only[ai,ar,ah,ao,tR,bI,cK,aK,aa,af,bz,ac,dC,jo,dt,Ov,Jt,cut2,HL,frz,au,aJ,atI_2,F0,hmn,aW,OE,Pn];refine⟨bf (by simp),bf (by simp),bf (by simp),?_⟩
 simp only[OS,OU,ag,OM];have pl':PlG m (f:Int) names rows mk:=⟨⟨pl.t.m2,pl.t.m1,pl.t.n0,pl.t.n1,by lia,by lia⟩,pl.nd,iu mle _ pl.ok,pl.h,pl.cn,pl.l,pl.ln,pl.mkm,pl.one⟩
 have Y:D.tup [.int m,.tup (names.map D.str),.int (f:Int),.tup (aw rows),.str mk]=jo m (f:Int) names rows mk:=rfl;rw[Y,<- hK25];unfold j9;generalize hK24:iz ad (aA E)=K24;simp only[ai,ar,ao,aj,aa,af,ac,dt,Ov];refine⟨rfl,aq λQ' E' hq _=>ww q1.1 pl' λnums pieces M2 ln lp rn rp q2=>hq _ _ (ft ?_)⟩;simp only[ag,OM];rw[<- hK24];unfold iz;generalize hK23:jh ad (aA E)=K23;simp only[ai,ar,bz,ah,aa,af,ac,dC,bC,dt,Ov,au,aJ,atI_0,eR];intro P han;simp only[ag,OM];rw[<- hK23];unfold jh;generalize hK22:il ad (aA E)=K22;simp only[ai,ar,bz,ah,aa,af,ac,dC,dt,Ov,au,aJ,atI_1,eR];intro I F;simp only[ag,OM];have R:P≠I:=Mem.ne Mem.upd_same F;rw[ae R.symm]at F;have Z:nums.length=names.length:=ln;have hlP:pieces.length=f:=by lia
 have c0:Cm k P I nums pieces M2 ((M2.upd P<|.lst<|nums.map D.int).upd I<|.lst<|pieces.map D.int):=by
  have a:=q2.1.nep han;have b:=q2.1.nep F;exact⟨(q2.1.upd a).upd b,a,b,R,by rw[ae R,Mem.upd_same],Mem.upd_same,han,F,λb' o _ _ e=>by rw[ae (Mem.ne e F),ae (Mem.ne e han)];exact e⟩
 generalize (M2.upd P<|.lst<|nums.map D.int).upd I (.lst<|pieces.map D.int)=M3 at c0 ⊢;have es:D.tup [.tup (nums.map D.int),.tup (pieces.map D.int)]=bC nums pieces:=rfl;rw[es,<- hK22];unfold il;generalize hK21:jl ad (aA E)=K21;simp only[ai,ar,ao,aj,ah,bz,aa,af,ac,dC,dt,Ov,bM,aJ,c0.en,Ox,cI];refine⟨.inl ⟨by decide,by decide⟩,rfl,aN c0.has (by lia) (by lia) λr M4 a4 b4 d4=>H ?_⟩
 have O:=c0.dr d4;obtain⟨fi,hfi⟩:∃fi:Nat,r=(fi:Int):=⟨r.toNat,by lia⟩
 subst hfi;simp only[ag,OM];rw[<- hK21];unfold jl;generalize hK20:iT ad (aA E)=K20;simp only[ai,ar,bz,aa,af,ac,dt,Ov,bM,aJ,O.en,Ox,ag,OM];rw[<- hK20];unfold iT;generalize hK19:iC ad (aA E)=K19
 have rest:∀(ns ps:Xj)(M5:Mem)(sm:Int),Cm k P I ns ps M2 M5->Df m nums pieces ns ps fi 1->0<sm->sm<=(nums.length:Int)+pieces.length->
   K19 { nx:=λx M'=>drp Q D.non M',rt:=drp Q } [ap (.ref k.p),ap (.int 24),ap (.int (few:Nat)),ap (jo m (f:Int) names rows mk),ap (bC nums pieces),ap (.ref P),ap (.ref I),ap (.int (fi:Nat)),ap (.int sm),cm,cm,cm,cm,cm] M5:=by
  intro ns ps M5 sm S d5 s0 s1;rw[<- hK19];unfold iC;generalize hK18:jn ad (aA E)=K18;generalize hK8:ir ad (aA E)=K8;simp only[ai,cH,fG,aa,af,ah,ac,dC,dt,Ov,fI,jt];refine⟨by lia,by lia,?_⟩
  refine cc (λxs U N=>∃(ns ps:Xj)(c9 c10:Option D)(j:Nat),xs.length+j=few-1/\U=[ap (.ref k.p),ap (.int 24),ap (.int (few:Nat)),ap (jo m (f:Int) names rows mk),ap (bC nums pieces),ap (.ref P),ap (.ref I),ap (.int (fi:Nat)),ap (.int sm),c9,c10,cm,cm,cm]/\Cm k P I ns ps M2 N/\Df m nums pieces ns ps fi (1+j))
   (λ_ _ _ _=>aS) ?_ ?_ _ _ _ ⟨ns,ps,cm,cm,0,by simp[dW],rfl,S,d5⟩
  .rintro U N ⟨ns,ps,c9,c10,j,e1,rfl,G,J⟩
   have ej:1+j=few:=by simp at e1;lia
   rw[ej]at J;rw[<- hK18];unfold jn;generalize hK17:iX ad (aA E)=K17;simp only[ai,ar,aK,bz,aa,af,ac,dt,Ov,cB,gW,aJ,G.en,G.ep];refine⟨bf (by simp),?_⟩
   have et:D.tup [.tup (ns.map D.int),.tup (ps.map D.int)]=(Sta.mk ns ps).d:=rfl;simp only[ag,OM,et];rw[<- hK17];unfold iX;generalize hK16:g9 ad (aA E)=K16;simp only[ai,ar,ao,aj,ah,aa,af,ac,dC,dt,Ov];refine⟨rfl,aN G.has (by decide) (by decide) λr2 M7 a7 b7 d7=>H ?_⟩
   have c7:=G.dr d7;simp only[aW,ag,OM];obtain⟨mo,hmo,mo1,mo2⟩:∃mo:Nat,30+r2=(mo:Int)/\30<=mo/\mo<50:=⟨(30+r2).toNat,by lia,by lia,by lia⟩
   rw[hmo];generalize B:(⟨m,f,names,rows,mk,mo⟩:Cse)=C;have o:C.Ok:=by subst B;exact⟨m2,m1,by show f<=100;lia,by show mo<=10000;lia,pl.nd,by show 0<names.length;lia,by show names.length<=100;lia,pl'.ok,OV pl.h (by decide),pl.mkm⟩
   have hs:SOk C ⟨nums,pieces⟩:=by subst B;exact⟨Z,hlP,rn,rp⟩
   have ht:SOk C ⟨ns,ps⟩:=by subst B;exact⟨J.ln.trans Z,J.lp.trans hlP,J.rn,J.rp⟩
   have eN:C.names.length=nums.length:=by subst B;exact Z.symm
   have ed:jo m (f:Int) names rows mk=C.d:=by subst B;rfl
   have es2:bC nums pieces=(Sta.mk nums pieces).d:=rfl;have em:(mo:Nat)=C.most:=by subst B;rfl
   rw[ed,es2,em];rw[<- hK16];refine KI (s:=⟨nums,pieces⟩) (t:=⟨ns,ps⟩) o hs ht (by subst B;show 0<f;lia) (by subst B;show cRs rows<=24;lia) (by rw[<- em];lia) ?_ c7.en λrs o1 tw cr=>ak (h _ _ _ _ ⟨o1,hs.rw,ht.rw,tw,?_,by subst B;show 0<f;lia,by subst B;exact mn40,cr,by subst B;exact pl.one⟩ ?_)
   .unfold NP
    rw[eN];have hd:=J.fi
    split
    .rename_i c
     rw[if_pos c]at hd;intro y hy;rw[rq o hs hy,rq o ht hy];exact hd
    .rename_i c
     rw[if_neg c]at hd;exact hd
   .rw[JL,EV o hs ht]
    exact J.few
   .exact q1.trans (q2.trans ⟨c7.has,c7.keep⟩)
  .rintro x xs U N ⟨ns,ps,c9,c10,j,e1,rfl,G,J⟩ D' hD _ _ _
   simp only[OE]at e1;simp only[ag,OM];rw[<- hK8];refine MT G J m2 m1 rn rp (by simp) s0 s1 (by lia) λns' ps' M' d10' c' d'=>hD _ _ ⟨ns',ps',_,_,j+1,by lia,rfl,c',?_⟩
   rw[<- Nat.add_assoc];exact d'
 generalize hK1:lL ad (aA E)=K1;generalize hK3:k_ ad (aA E)=K3;simp only[ai,aH,am,ah,bz,aa,af,ac,dt,Ov,bM,aJ,O.en,Ox,uQ,jt];have d0:∀{j:Nat}{v:Int}(hj:j<nums.length),fi=j->0<=v->v<m->v≠gA nums j->Df m nums pieces (nums.set j v) pieces fi 1:=λ{j v} hj e v0 v1 vn=>by
  subst e;refine⟨QD,rfl,lR rn ⟨v0,v1⟩,rp,?_,?_⟩
  .have h1:=ly (xs:=nums) (ys:=nums) (v:=v) hj
   have h2:=ji (xs:=nums);have h3:=ji (xs:=pieces);lia
  .rw[if_pos hj,mG hj,if_pos rfl];exact λz=>vn z.symm
 by_cases q:fi<nums.length
 .rw[if_pos (by simp;lia),<- hK1]
  unfold lL;have W:atI [D.int m,.tup (names.map D.str),.int (f:Int),.tup (aw rows),.str mk] 0=ap (.int m):=by simp
  simp only[ar,ao,aj,aa,af,ac,ah,dC,jo,dt,Ov,au,aJ,W,O.en,ya q];refine⟨rfl,aq λQ' E' hq _=>fA O.has m2 m1 (rn _<|q_ q) λw M5 w0 w1 wn X=>hq _ _ (H ?_)⟩;have S:=O.dr X;simp only[de,ac,dt,Ov,nz,S.en,Ox,fq (show (0:Int)<=(fi:Int) by lia) (show (fi:Int)<(nums.length:Nat) by lia),OL,gK]
  rw[Y];exact rest _ _ _ _ S.sN (d0 q rfl w0 w1 wn) (by lia) (by lia)
 .rw[if_neg (by simp;lia),<- hK3]
  unfold k_;generalize hK2:kN ad (aA E)=K2;have hP:0<pieces.length:=by lia
  have W:atI [D.int m,.tup (names.map D.str),.int (f:Int),.tup (aw rows),.str mk] 0=ap (.int m):=by simp
  have ga0:=ya (xs:=pieces) hP;have ga0':atI (pieces.map D.int) 0=ap (.int<|gA pieces 0):=ga0;simp only[ai,ar,ao,aj,aa,af,ac,ah,dC,jo,dt,Ov,au,aJ,W,O.ep,ga0'];refine⟨rfl,aq λQ' E' hq _=>fA O.has m2 m1 (rp _<|q_ hP) λw M5 w0 w1 wn X=>hq _ _ (H ?_)⟩;have S:=O.dr X;have ix0':rX pieces.length 0=ap 0:=fq (by decide) (by lia)
  simp only[de,ac,dC,dt,Ov,nz,S.ep,Ox,ix0',gK];have G:=S.sP (j:=0) (v:=w);generalize M5.upd I (.lst<|(pieces.set 0 w).map D.int)=M6 at G ⊢;rw[<- hK2];unfold kN;simp only[ar,ao,ah,bz,aa,af,ac,dC,dt,Ov,bM,aJ,G.ep,Ox,QD,cI,BX,aW,frz,ag,OM];refine⟨.inl ⟨by decide,by decide⟩,?_⟩
  rw[Y];refine rest _ _ _ _ G ⟨rfl,QD,rn,lR rp ⟨w0,w1⟩,?_,?_⟩ (by split<;>lia) (by split<;>lia)
  .have h1:=ly (xs:=pieces) (ys:=pieces) (v:=w) hP
   have h2:=ji (xs:=nums);have h3:=ji (xs:=pieces);lia
  .rw[if_neg q,mG hP,if_pos rfl];exact λz=>wn z.symm
theorem Bo{t:Sta}(h:Q (bF C s t) M):frz (bF C s t) M Q:=h
end
end _T
namespace _3
open PySem _2
mutual
def sO:D->Prop
 |.non=>True
 |.int i=>i.natAbs<10 ^ 6
 |.str x=>x.length<=100/\∀c∈x.cps.toList,c<16 ^ 8
 |.tup xs=>sE xs
 |_=>False
def sE:List D->Prop
 |[]=>True
 |x::xs=>sO x/\sE xs
end
mutual
def sz:D->Nat
 |.tup xs=>5+yA xs
 |_=>2000
def yA:List D->Nat
 |[]=>0
 |x::xs=>sz x+2+yA xs
end
theorem Av{i:Int}(h:i.natAbs<10 ^ 6):i.natAbs.log2<1920:=by
 by_cases a:i.natAbs=0
 .rw[a];decide
 .exact(UU a).mpr (OF h<|OV (by decide:10 ^ 6<=2 ^ 20)<|Py (by decide)<|by decide)
mutual
theorem wE:∀d:D,sO d->(di d).showable=true
 |.non,_=>by simp only[di,Rk]
 |.int i,h=>by simp only[di,Rk,decide_eq_true_eq];exact Av h
 |.str x,_=>by simp only[di,Rk]
 |.tup xs,h=>by simp only[di,Rk];exact sY xs h
 |.bl _,h=>h.elim
 |.lst _,h=>h.elim
 |.ty _,h=>h.elim
 |.ref _,h=>h.elim
 |.mt _,h=>h.elim
 |.ml _,h=>h.elim
theorem sY:∀xs:List D,sE xs->Su (fk xs)=true
 |[],_=>by simp only[fk,Su]
 |x::xs,h=>by simp only[fk,Su,wE x h.1,sY xs h.2,Ub]
end
theorem Fs(a:Xk):(tupleText a).length<=piled a+5:=by
 unfold tupleText;rw[strLen_append,strLen_append];have b:(("(":String):Str).length=1:=rfl;have c:((if a.length==1 then ",)" else ")":String):Str).length<=2:=by split<;>decide
 by_cases h:a=[]
 .subst h
  have:(Str.join ", " ([]:Xk)).length=0:=rfl;lia
 .have:=join_length_add a h
  lia
mutual
theorem oX:∀d:D,sO d->(di d).shown.length<=sz d
 |.non,_=>by simp only[di,Ry,sz];decide
 |.int i,h=>by simp only[di,Ry,sz];exact OV (PyProof.Rows.int_text_len_1921<|Av h) (by decide)
 |.str x,h=>by
  simp only[di,Ry,sz];have:=StrLaws.reprText_len x h.2;have:=h.1;lia
 |.tup xs,h=>by
  simp only[di,Ry,sz];have:=Fs (QX<|fk xs);have:=m_ xs h;lia
 |.bl _,h=>h.elim
 |.lst _,h=>h.elim
 |.ty _,h=>h.elim
 |.ref _,h=>h.elim
 |.mt _,h=>h.elim
 |.ml _,h=>h.elim
theorem m_:∀xs:List D,sE xs->piled (QX<|fk xs)<=yA xs
 |[],_=>by simp[fk,QX,piled,yA]
 |x::xs,h=>by
  have b:=oX x h.1;have a:=m_ xs h.2;simp only[fk,QX,yA];simp[piled]at a ⊢;lia
end
end _3
namespace _T
open PySem _2 _3
variable{ad:Ad}{C:Cse}{Q:DK}{E:DX}{a b:Int}{M:Mem}{few n:Nat}{T:Nat->Int}{s:Sta}{x y:Str}
section
variable{names:Xk}{m many:Int}
mutual
theorem sz_R:∀r:Rw,sz r.d+2<=9000*cR r
 |.put _ _=>by simp[Rw.d,sz,yA,cR]
 |.take _ _=>by simp[Rw.d,sz,yA,cR]
 |.pick _ _=>by simp[Rw.d,sz,yA,cR]
 |.two _ _ _ _=>by simp[Rw.d,sz,yA,cR]
 |.ifr _ a b=>by
  have:=uj a;have:=uj b;simp only[Rw.d,sz,yA,cR];lia
 |.again _ a=>by
  have:=uj a;simp only[Rw.d,sz,yA,cR];lia
theorem uj:∀c:List Rw,yA (aw c)<=9000*cRs c
 |[]=>by simp[aw,yA,cRs]
 |r::c=>by
  have:=sz_R r;have:=uj c;simp only[aw,yA,cRs];lia
end
theorem bh(h:ug x):sO (.str x):=by
 obtain⟨n,c,g,i,j,f,rfl⟩:=h;refine⟨?_,λd e=>?_⟩
 .show (Qz n c).size<=100
  rw[Array.size_replicate];lia
 .simp at e
  obtain⟨_,rfl⟩:=e;have:(122:Nat)<16 ^ 8:=by decide
  lia
theorem fw{w:String}(h:w∈["put","take","pick","sum","by","less","same","if","again"]):sO (.str<|PD w):=by
 simp only[OQ,Pu,or_false]at h;rcases h with rfl|rfl|rfl|rfl|rfl|rfl|rfl|rfl|rfl<;>exact⟨by decide +kernel,by decide +kernel⟩
theorem B_{i:Int}(c:0<=i)(e:i<1000):sO (.int i):=by
 have:(1000:Nat)<10 ^ 6:=by decide
 show i.natAbs<10 ^ 6;lia
mutual
theorem LA(c:∀x∈names,ug x)(i:m<=997)(k1:many<=40):∀r:Rw,cy names m many r->sO r.d
 |.put x k,h=>by
  simp only[cy,cz]at h;exact⟨fw (w:="put") (by simp),bh (c _ h.1),B_ h.2.1 (by lia),trivial⟩
 |.take x k,h=>by
  simp only[cy,cz]at h;exact⟨fw (w:="take") (by simp),bh (c _ h.1),B_ h.2.1 (by lia),trivial⟩
 |.pick x y,h=>by
  simp only[cy,cz]at h;exact⟨fw (w:="pick") (by simp),bh (c _ h.1),bh (c _ h.2.1),trivial⟩
 |.two w x y z,h=>by
  simp only[cy,cz]at h;obtain⟨j,g,f,e⟩:=h;rcases j with rfl|rfl|rfl|rfl
  .exact⟨fw (w:="sum") (by simp),bh (c _ g),bh (c _ f),bh (c _ e),trivial⟩
  .exact⟨fw (w:="by") (by simp),bh (c _ g),bh (c _ f),bh (c _ e),trivial⟩
  .exact⟨fw (w:="less") (by simp),bh (c _ g),bh (c _ f),bh (c _ e),trivial⟩
  .exact⟨fw (w:="same") (by simp),bh (c _ g),bh (c _ f),bh (c _ e),trivial⟩
 |.ifr x a b,h=>by
  simp only[cy]at h;exact⟨fw (w:="if") (by simp),bh (c _ h.1),iL c i k1 a h.2.1,iL c i k1 b h.2.2,trivial⟩
 |.again x a,h=>by
  simp only[cy]at h;exact⟨fw (w:="again") (by simp),bh (c _ h.1),iL c i k1 a h.2,trivial⟩
theorem iL(e:∀x∈names,ug x)(f:m<=997)(k1:many<=40):∀c:List Rw,bc names m many c->sE (aw c)
 |[],_=>trivial
 |r::c,h=>by
  simp only[bc]at h;exact⟨LA e f k1 r h.1,iL e f k1 c h.2⟩
end
end
def Sub(y x:Str):Prop:=∃a b:Array Nat,x.cps=a++y.cps++b
theorem xZ:(x++y).cps=x.cps++y.cps:=rfl
theorem Sub.refl:Sub y y:=⟨#[],#[],by simp⟩
theorem Sub.l{z:Str}(h:Sub y x):Sub y (z++x):=by
 obtain⟨a,b,e⟩:=h;exact⟨z.cps++a,b,by rw[xZ,e];simp[Q1]⟩
theorem Sub.r{z:Str}(h:Sub y x):Sub y (x++z):=by
 obtain⟨a,b,e⟩:=h;exact⟨a,b++z.cps,by rw[xZ,e];simp[Q1]⟩
theorem JV(h:Sub y x):Rx x y=true:=by
 obtain⟨a,b,e⟩:=h;have c:x.length=a.size+y.length+b.size:=by
  show x.cps.size=a.size+y.cps.size+b.size;rw[e,SN,SN]
 refine (StrLaws.found_iff x y).mpr ⟨a.size,by lia,?_⟩
 unfold Builtin.Str.subAt;refine beq_iff_eq.mpr ?_;show x.cps.extract a.size (a.size+y.cps.size)=y.cps;rw[e];apply Array.ext';simp[Array.toList_extract,List.extract_eq_take_drop]
theorem tU{y c:Str}:∀{e:Xk}{t:Str},t∈e->Sub y t->Sub y (Str.join c e)
 |[x],t,h,s=>by
  have:t=x:=by simpa using h
  subst this;exact s
 |x::z::r,t,h,s=>by
  show Sub y (x++c++Str.join c (z::r));rcases OQ.mp h with rfl|h
  .exact s.r.r
  .exact(tU h s).l
theorem o_:∀{xs:List D}{x:D},x∈xs->(di x).shown∈QX (fk xs)
 |z::xs,x,h=>by
  simp only[fk,QX];rcases OQ.mp h with rfl|h
  .exact OR
  .exact OJ _ (o_ h)
theorem ei{xs:List D}{x:D}(h:x∈xs)(s:Sub y (di x).shown):Sub y (di<|.tup xs).shown:=by
 simp only[di,Ry];unfold tupleText;exact(tU (o_ h) s).l.r
theorem Bh:Sub "'pick'" (di<|.str "pick").shown:=by
 have:(di<|.str "pick").shown=("'pick'":Str):=by
  simp only[di,Ry]
  decide +kernel
 rw[this];exact .refl
mutual
theorem np_R:∀r:Rw,Ki r\/Sub "'pick'" (di r.d).shown
 |.put _ _=>.inl trivial
 |.take _ _=>.inl trivial
 |.two _ _ _ _=>.inl trivial
 |.pick x y=>.inr (ei OR Bh)
 |.ifr x a b=>by
  rcases sL a with h1|⟨d,hd,h1⟩
  .rcases sL b with h2|⟨d,hd,h2⟩
   .exact .inl ⟨h1,h2⟩
   .exact .inr (ei (xs:=[.str "if",.str x,.tup (aw a),.tup (aw b)]) (x:=.tup (aw b)) (by simp)<|ei hd h2)
  .exact .inr (ei (xs:=[.str "if",.str x,.tup (aw a),.tup (aw b)]) (x:=.tup (aw a)) (by simp)<|ei hd h1)
 |.again x a=>by
  rcases sL a with h1|⟨d,hd,h1⟩
  .exact .inl h1
  .exact .inr (ei (xs:=[.str "again",.str x,.tup (aw a)]) (x:=.tup (aw a)) (by simp)<|ei hd h1)
theorem sL:∀c:List Rw,eG c\/∃d∈aw c,Sub "'pick'" (di d).shown
 |[]=>.inl trivial
 |r::c=>by
  rcases np_R r with h1|h1
  .rcases sL c with h2|⟨d,hd,h2⟩
   .exact .inl ⟨h1,h2⟩
   .exact .inr ⟨d,OJ _ hd,h2⟩
  .exact .inr ⟨_,OR,h1⟩
end
theorem MY{c:List Rw}(h:Rx (di<|.tup<|aw c).shown "'pick'"=eC):eG c:=by
 rcases sL c with h1|⟨d,hd,h1⟩
 .exact h1
 .rw[JV (ei hd h1)]at h;cases h
theorem zW{names:Xk}{m many:Int}{c:List Rw}(h:∀x∈names,ug x)(g:m<=997)(k1:many<=40)(ok:bc names m many c)(j:cU c<=7)(i:cRs c<=60):
  bj 60 (.tup<|aw c)=true/\(di<|.tup<|aw c).showable=true/\(di<|.tup<|aw c).shown.length<=sizeLine:=by
 have e:sO (.tup<|aw c):=iL h g k1 c ok;refine⟨?_,wE _ e,OV (oX _ e) ?_⟩
 .have f:=jy c 59 (by lia)
  simp[bj,f]
 .have:=uj c
  refine bf ?_;simp only[sz];lia
section
variable{t:Sta}
def CL(us:List aG)(n:Nat)(T:Nat->Int):List D:=(us.zipIdx 0).map λp=>D.tup [kD p.1,yh n T p.2]
theorem sj:(dh C s t a b).length<=2 ^ (aB C s t).length:=by
 have c:(dh C s t a b).length<=(c_ a b (aB C s t) (C.tree s t) 0 0).length:=Po _ _;rw[j5]at c;have:=oO (C:=C) (s:=s) (t:=t);lia
theorem yw{i:Nat}(c:n<=7)(e:(dh C s t a b).length<=128)(ok:∀x∈dh C s t a b,OutOk n x):-1000000000000000<=bU n (dh C s t a b) i/\bU n (dh C s t a b) i<=1000000000000000:=by
 have:=yE (i:=i) c ok;lia
theorem oC(o:C.Ok)(j:SOk C s)(u:SOk C t)(m:C.mark s=.int a)(q:C.mark t=.int b)(e:a≠b)(f:(aB C s t).length<=7)(h:Q (.lst<|CL (aB C s t) (aB C s t).length<|bU (aB C s t).length<|dh C s t a b) M):ao (aj (ka ad) E 2<|aa (ac 0)<|aa (dC<|.int 2000) af) [ap (bF C s t)] M Q:=by
 have c:2 ^ (aB C s t).length<=128:=Py (n:=2) (by decide) f
 have v:=oO (C:=C) (s:=s) (t:=t);simp only[ao,aj,aa,ac,dC,af,dt];refine⟨rfl,aq λQ' E' g _=>sy (L:=2000) o j u m q e (by lia) (by lia) (by decide) gG rfl (λi _=>yw f (OV sj c) gG) λp c=>g _ _ (cC c h)⟩
theorem xN{T:Nat->Int}:∀(us:List aG)(j:Nat),((us.zipIdx j).map λp=>T p.2)=(Ro j us.length).map T
 |[],j=>rfl
 |u::us,j=>by simp only[Qr,Oy,OE,QO,xN us (j+1)]
theorem FJ{us:List aG}:((us.zipIdx 0).map λp=>T p.2).sum=((Pm us.length).map T).sum:=by
 rw[xN,Rn]
theorem FL(o:C.Ok)(I:C.many<=90)(c:SOk C s)(e:SOk C t)(F:eG C.rows)(J:(aB C s t).length<=20)(H:C.mark s=.int a)(G:C.mark t=.int b):C.mo.mark (s.mo 0 1)=.int a/\C.mo.mark (t.mo 1 0)=.int b:=by
 have m2:=o.m2;have i:=o.mo I;have h:=c.mo (v:=0) (w:=1) ⟨by lia,by lia⟩ ⟨by lia,by lia⟩
 have g:=e.mo (v:=1) (w:=0) ⟨by lia,by lia⟩ ⟨by lia,by lia⟩
 have z:=xP o c e F (v:=0) (v':=1) (w:=1) (w':=0) (by decide) (by decide)
 have B:=qU c e (v:=0) (v':=1) (w:=1) (w':=0) (by decide) (by decide)
 have f:(aB C.mo (s.mo 0 1)<|t.mo 1 0).length<24:=by rw[B,OH];simp[jd];lia
 have j:=cQ (p:=λ_=>eC) i h g h f λq _=>rfl;have m:=cQ (p:=λ_=>true) i h g g f λq _=>rfl;have A:=cQ (p:=λ_=>eC) o c e c (by lia) λq _=>rfl
 have u:=cQ (p:=λ_=>true) o c e e (by lia) λq _=>rfl
 rw[z]at j m;exact⟨by rw[<- j,A,H],by rw[<- m,u,G]⟩
theorem DR(o:C.Ok)(c:SOk C s)(e:SOk C t)(f:eG C.rows):dh C.mo (s.mo 0 1) (t.mo 1 0) a b=dh C s t a b:=by
 unfold dh;rw[xP o c e f (by decide) (by decide),qU c e (by decide) (by decide),wo _ _ _ _ mw λ_ h=>h]
theorem CS(m:SOk C s)(o:SOk C t):CL (aB C s t++jd C) ((aB C s t).length+2) (bU ((aB C s t).length+2)<|dh C s t a b)=CL (aB C s t) (aB C s t).length (bU (aB C s t).length<|dh C s t a b)++[.tup [.int (C.many:Nat),.tup [.int 0,.int 1]],.tup [.int ((C.many:Nat)+1),.tup [.int 0,.int 1]]]:=by
 have j:=eB ((aB C s t).length+2);have e:∀i,(aB C s t).length<=i->yh ((aB C s t).length+2) (bU ((aB C s t).length+2)<|dh C s t a b) i=.tup [.int 0,.int 1]:=λi g=>by
  rw[qz,oU g gG,Fd];have f:(0:Int) / ((fct ((aB C s t).length+2):Nat):Int)=0:=Int.zero_ediv _;have h:((fct ((aB C s t).length+2):Nat):Int) / ((fct ((aB C s t).length+2):Nat):Int)=1:=Int.ediv_self (by lia)
  rw[f,h]
 unfold CL;rw[List.zipIdx_append,Q0];congr 1
 .refine PN λp _=>?_
  congr 3;rw[qz,qz,pj gG];have c:=zw (k:=((aB C s t).length+2)*((aB C s t).length+1)) (d:=fct (aB C s t).length) (T:=bU (aB C s t).length (dh C s t a b) p.2) (Nat.mul_pos (by lia)<|by lia) (eB _)
  rw[Hh,c.1,c.2]
 .simp only[jd,Qr,List.zipIdx_nil,Oy,OZ]
  rw[e _ (by lia),e _ (by lia)]
  rfl
theorem r_{D':DEnds}{EE:DX}{i:BxW (am<|ah uf (ac 0)<|dC<|.int 0) (iM ad EE) D'}:∀(f a b:Nat),a<f->D'.nx [ap (.int 0),ap (.int ((Q3 a b:Nat):Int))] M->
  bY (am<|ah uf (ac 0)<|dC<|.int 0) (iM ad EE) D' i (f+1) [ap (.int (a:Nat)),ap (.int (b:Nat))] M
 |0,a,b,hf,h=>by lia
 |f+1,a,b,hf,h=>by
  have c:∀K:Bool->Mem->Prop,K (decide ((0:Int)<((a:Nat):Int))) M->am (ah uf (ac 0)<|dC<|.int 0) [ap (.int (a:Nat)),ap (.int (b:Nat))] M K:=λK q=>by
   simp only[am,ah,ac,dC,uf,jt,dt];exact q
  by_cases g:a=0
  .subst g
   refine whF (λK q=>c K (by simpa using q)) ?_
   rw[Nat.gcd_zero_left]at h;exact h
  .refine whT (λK q=>c K (by rw[decide_eq_true (by lia)];exact q)) ?_
   unfold iM;have e:((b:Nat):Int) % ((a:Nat):Int)=((b % a:Nat):Int):=by simp
   simp only[JD,aa,ah,ac,af,dg,oI,dt,Ov,e,OM];refine⟨by lia,r_ f (b % a) a ?_ ?_⟩
   .have:=Nat.mod_lt b (show a>0 by lia);lia
   .rw[<- Nat.gcd_rec];exact h
theorem sX{a b:Nat}(h:Q (.int ((Q3 a b:Nat):Int)) M):xu ad [.int (a:Nat),.int (b:Nat)] M Q E:=by
 rw[LO (n:=0)];unfold xU;simp only[ai,dQ];refine⟨a+2,r_ _ a b (by lia) ?_⟩
 simp only[az,ac,dt,Ov];exact ak h
end
section
variable{t:Sta}
theorem Bv{x:Int}:(if x<0 then -x else x)=((x.natAbs:Nat):Int):=by split<;>lia
theorem CA{D':DEnds}{EE:DX}{q:aG}{i:Nat}{d0 d1 d2 d3 u w d6 d7 d12 e:Option D}{top c:Int}(J:n<=20)(P:-1000000000000000<=T i/\T i<=1000000000000000)(h:D'.nx [d0,d1,d2,d3,u,w,d6,d7,ap (.int (top*((fct n / gT (fct n) (T i):Nat):Int)+T i / ((gT (fct n) (T i):Nat):Int)*c)),ap (.int (c*((fct n / gT (fct n) (T i):Nat):Int))),ap (kD q),ap (yh n T i),d12,e] M):
  gB ad EE D' [d0,d1,d2,d3,u,w,d6,d7,ap (.int top),ap (.int c),ap (kD q),ap (yh n T i),d12,e] M:=by
 have f:=eB n;have I:=fJ J;have N:=y3 (T:=T i) f;have L:=p_ (T:=T i) f;have A:=ER (T:=T i) f;have K:fct n / gT (fct n) (T i)<=fct n:=Nat.div_le_self _ _;have B:((fct n:Nat):Int) / ((gT (fct n) (T i):Nat):Int)=((fct n / gT (fct n) (T i):Nat):Int):=(Int.natCast_ediv _ _).symm;have G:-(2 ^ 64)<T i / ((gT (fct n) (T i):Nat):Int)/\T i / ((gT (fct n) (T i):Nat):Int)<2 ^ 64:=by
  obtain⟨x,m⟩:=Ks (T:=T i) f;generalize gT (fct n) (T i)=g at *;have F:T i / (g:Int)=x:=by rw[m];exact Uk _ (by lia)
  rw[F];have o:(1:Int)<=(g:Int):=by lia
  have H:x.natAbs<=(T i).natAbs:=by
   rw[m,Int.natAbs_mul];exact Nat.le_mul_of_pos_left _ (by lia)
  lia
 have fi':∀{v:Int}{M:Mem}{Q:DK},Q (.int v) M->frz (.int v) M Q:=λz=>z;generalize o:gT (fct n) (T i)=g at *;rw[qz,o]at h ⊢;rw[B]at h ⊢;generalize O:fct n / g=d at *;generalize m:T i / ((g:Nat):Int)=x at *;unfold gB;generalize j:lK ad EE=K2;simp only[ai,aH,Ak,am,ah,ac,dC,dt,Ov,au,aJ,atI_1,uQ,jt];rw[if_neg (by simp;lia)]
 simp only[ao,aj,bz,aa,af,ah,ac,dC,dt,Ov,au,aJ,atI_0,atI_1,ET,Bv];refine⟨rfl,aO (λ_ _ q=>sX q)<|fi' ?_⟩;rw[A];simp only[k8,dv,bj,aP];refine⟨trivial,trivial,?_⟩;rw[if_neg (by simp)]
 simp only[aF];rw[<- j];unfold lK rF;simp only[ai,ar,ah,ac,dC,dt,Ov,au,aJ,atI_0,atI_1,cI,aW,ag,OM];have p:(-(2 ^ 64)<(d:Int)/\(d:Int)<2 ^ 64):=by lia
 exact⟨.inr p,.inl G,.inr p,h⟩
theorem xR{n:Nat}{T:Nat->Int}{d0 d1 d2 d3 m o d6 d7 d12 g:Option D}{D':DEnds}{EE:DX}{ok:Mem->Prop}{w:BxF (fH 2<|b6 (ag 10)<|b6 (ag 11) fm) (gB ad EE) D' ok}(j:n<=20)(c:∀M,ok M):∀(ps:List (aG×Nat))(top bot:Int)(d10 d11:Option D),(∀p∈ps,-1000000000000000<=T p.2/\T p.2<=1000000000000000)->0<bot->
  top*((fct n:Nat):Int)+bot*(ps.map λp=>T p.2).sum=bot*((fct n:Nat):Int)->(∀v d10 d11,D'.nx [d0,d1,d2,d3,m,o,d6,d7,ap (.int v),ap (.int v),d10,d11,d12,g] M)->
  gU (fH 2<|b6 (ag 10)<|b6 (ag 11) fm) (gB ad EE) D' ok w (ps.map λp=>D.tup [kD p.1,yh n T p.2]) [d0,d1,d2,d3,m,o,d6,d7,ap (.int top),ap (.int bot),d10,d11,d12,g] M
 |[],top,bot,d10,d11,_,hb,he,h=>by
  have i:=eB n;have e:top=bot:=by
   simp only[OZ,SU,Int.mul_zero,Sn]at he;exact Int.eq_of_mul_eq_mul_right (by lia) he
  subst e;exact⟨c _,h _ _ _⟩
 |p::ps,top,bot,d10,d11,hT,hb,he,h=>by
  have i:=eB n;have z:=y3 (T:=T p.2) i;have A:=Bz (T:=T p.2) i;rw[Oy];refine⟨c _,?_⟩;simp only[fH,b6,ag,fm,OM];refine⟨rfl,CA j (hT p OR)<|xR j c ps _ _ _ _ (λq u=>hT q (OJ _ u)) (Int.mul_pos hb<|by lia) ?_ h⟩
  rw[Oy,Pp]at he;generalize (ps.map λp=>T p.2).sum=S at *;generalize fct n / gT (fct n) (T p.2)=dd at *;generalize T p.2 / ((gT (fct n) (T p.2):Nat):Int)=x at *;generalize T p.2=Tp at *;generalize ((fct n:Nat):Int)=f at*
  grind
end
section
variable{t:Sta}
theorem D1{us:List aG}:bj 60 (.lst<|CL us n T)=true:=by
 have:∀(l:List (aG×Nat)),bt 59 (l.map λp=>D.tup [kD p.1,yh n T p.2])=true:=λl=>by
  induction l with
  |nil=>rfl
  |cons p l ih=>
   rw[Oy];simp only[bt,ih,SA];simp[bj,bt,Cd,yh]
 simp[bj,CL,this]
theorem IE{U:Dl}{w f c e:D}{n:Int}{K:DK}(g:U[3]?=ap (ap<|.tup [w,f,.int n,c,e]))(h:K (.tup [w,f,.int (n+2),c,e]) M):
  ah aW (aK<|aa (ah au (ac 3)<|dC<|.int 0)<|aa (ah au (ac 3)<|dC<|.int 1)<|aa (ah aW (ah au (ac 3)<|dC<|.int 2)<|dC<|.int 2) af) (ao<|tR (ac 3) (cK<|dC<|.int 3) bI) U M K:=by
 simp only[ah,aK,aa,af,ao,tR,bI,cK,ac,dC,g,au,aJ,atI_0,atI_1,atI_2,dt,Ov,aW,Jt,HL,frz,OE,Pn];exact⟨bf (by simp),bf (by simp),h⟩
theorem LP{U:Dl}{d12 p0 q0 d6:D}{sp tp:List D}{K:DK}(c:U[12]?=ap (ap d12))(g:U[4]?=ap (ap<|.tup [p0,.tup sp]))(f:U[5]?=ap (ap<|.tup [q0,.tup tp]))(e:U[6]?=ap (ap d6))(ls:sp.length<=1000)(lt:tp.length<=1000)(h:K (.tup [d12,.tup [p0,.tup (sp++[.int 0,.int 1])],.tup [q0,.tup (tp++[.int 1,.int 0])],d6]) M):
  aK (aa (ac 12)<|aa (aK<|aa (ah au (ac 4)<|dC<|.int 0)<|aa (ah aW (ah au (ac 4)<|dC<|.int 1)<|aK<|aa (dC<|.int 0)<|aa (dC<|.int 1) af) af)<|aa (aK<|aa (ah au (ac 5)<|dC<|.int 0)<|aa (ah aW (ah au (ac 5)<|dC<|.int 1)<|aK<|aa (dC<|.int 1)<|aa (dC<|.int 0) af) af)<|aa (ac 6) af) U M K:=by
 simp only[ah,aK,aa,af,ac,dC,c,g,f,e,au,aJ,atI_0,atI_1,dt,Ov,aW,OE,Pn];exact⟨bf (by simp),bf (by lia),bf (by simp),bf (by simp),bf (by lia),bf (by simp),bf (by simp),h⟩
theorem AX{EE:DX}{D':DEnds}{d0 d1 d2 d8 d9 d10 d11:Option D}(c:CaOk C s t few)(hf:few<=5)(J:eG C.rows)(ea:C.mark s=.int a)(eb:C.mark t=.int b)(F:a≠b)(h:D'.rt (.bl true) M):ik ad EE D' [d0,d1,d2,ap C.d,ap s.d,ap t.d,ap (.int (C.most:Nat)),ap (.lst<|CL (aB C s t) (aB C s t).length<|bU (aB C s t).length<|dh C s t a b),d8,d9,d10,d11,cm,cm] M:=by
 have i:=@AS C;have j:∀z:Sta,z.d=.tup [.tup (z.nums.map D.int),.tup (z.pieces.map D.int)]:=λ_=>rfl;have m2:=c.o.m2;have hu:=c.un;have N:=c.h1;have K:=c.hs.lp;have P:=c.ht.lp;have G:=qU c.hs c.ht (v:=0) (v':=1) (w:=1) (w':=0) (by decide) (by decide)
 have W:(aB C.mo (s.mo 0 1)<|t.mo 1 0).length=(aB C s t).length+2:=by rw[G,OH];rfl
 obtain⟨S,X⟩:=FL c.o (by lia) c.hs c.ht J (by lia) ea eb
 have Z:=DR (a:=a) (b:=b) c.o c.hs c.ht J;have H:=λ(Q:DK)=>oC (ad:=ad) (E:=EE) (M:=M) (Q:=Q) (c.o.mo<|by lia) (c.hs.mo (v:=0) (w:=1) ⟨by lia,by lia⟩ ⟨by lia,by lia⟩) (c.ht.mo (v:=1) (w:=0) ⟨by lia,by lia⟩ ⟨by lia,by lia⟩) S X F (by lia)
 rw[W,Z,G,CS c.hs c.ht]at H;have Y:D.tup [.int C.w,.tup (C.names.map D.str),.int (((C.many:Nat):Int)+2),.tup (aw C.rows),.str C.mn]=C.mo.d:=by
  show _=D.tup [.int C.w,.tup (C.names.map D.str),.int ((C.many+2:Nat):Int),.tup (aw C.rows),.str C.mn];rw[Int.natCast_add];rfl
 have O:D.tup [C.mo.d,.tup [.tup (s.nums.map D.int),.tup (s.pieces.map D.int++[.int 0,.int 1])],.tup [.tup (t.nums.map D.int),.tup (t.pieces.map D.int++[.int 1,.int 0])],.int (C.most:Nat)]=bF C.mo (s.mo 0 1) (t.mo 1 0):=by
  show _=D.tup [C.mo.d,(s.mo 0 1).d,(t.mo 1 0).d,.int (C.most:Nat)];rw[j,j];simp[Sta.mo]
 unfold ik;generalize m:mv ad EE=K5;rw[i];unfold ai ar;refine IE rfl ?_;rw[Y,<- i];unfold ag;dsimp only[OM];rw[<- m];unfold mv;generalize B:m7 ad EE=K4;unfold ai ar;dsimp only[OM];refine LP (d12:=C.mo.d) (p0:=.tup (s.nums.map D.int)) (q0:=.tup (t.nums.map D.int)) (d6:=.int (C.most:Nat)) (sp:=s.pieces.map D.int) (tp:=t.pieces.map D.int) ?_ ?_ ?_ ?_ (by rw[Ox];lia) (by rw[Ox];lia) ?_
 .rfl
 .rfl
 .rfl
 .rfl
 unfold ag;dsimp only[OM];rw[O,<- B];unfold m7;rw[i];generalize f:CL (aB C s t) (aB C s t).length (bU (aB C s t).length<|dh C s t a b)=L at *;have g:∀(Q:DK)(U:Dl),U[13]?=ap (ap<|bF C.mo (s.mo 0 1)<|t.mo 1 0)->Q (.lst (L++[.tup [.int (C.many:Nat),.tup [.int 0,.int 1]],.tup [.int ((C.many:Nat)+1),.tup [.int 0,.int 1]]])) M->ao (aj (ka ad) EE 2<|aa (ac 13)<|aa (dC<|.int 2000) af) U M Q:=λQ U u q=>by
  have:=H Q q;simp only[ao,aj,aa,ac,dC,af,dt]at this ⊢;rw[u];exact this
 have ll:L.length<=20:=by rw[<- f];simp[CL];lia
 have I:bj 60 (.lst L)=true:=by rw[<- f];exact D1
 simp only[az];unfold ah;refine g _ _ rfl ?_;simp only[ao,ah,bQ,aK,aa,af,ac,dC,dt,Ov,au,aJ,atI_2,aW,OE,Pn];refine⟨bf (by simp),bf (by simp),bf (by simp),bf (by simp),bf (by simp),λp R=>cC R ?_⟩
 simp only[gW];refine⟨bf (by simp;lia),λp2 A=>cC A ?_⟩
 have e:bj 60 (.lst (L++[.tup [.int (C.many:Nat),.tup [.int 0,.int 1]],.tup [.int ((C.many:Nat)+1),.tup [.int 0,.int 1]]]))=true:=by
  rw[<- f,<- CS c.hs c.ht];exact D1
 simp only[bZ,dv,e,wG _ _ e];exact⟨trivial,trivial,h⟩
end
theorem zH(ad:Ad)(S:Xj)(hl:S.length<=63):Au ad [.ml (S.map D.int)] (λ_=>cm) (λd _=>d=.bl true) iY:=by
 have I:∀{v:Int}{M:Mem}{Q:DK},Q (.int v) M->frz (.int v) M Q:=λz=>z;rw[NG (n:=0)];unfold xD;generalize w:iA ad (aA iY)=K13;simp only[ai,ar,aj,aa,af,ac,dt];refine⟨rfl,aq λQ' E' J _=>Bl λk M1 hk _=>J _ _ ?_⟩;simp only[ag,OM];rw[<- w];unfold iA;generalize u:iJ ad (aA iY)=K12;simp only[ai,ar,ao,aj,aa,af,ah,ac,dC,dt,Ov];refine⟨rfl,aN hk (by decide) (by decide) λr M2 a2 b2 d2=>I ?_⟩
 simp only[aW];obtain⟨few,B,W,R⟩:∃few:Nat,1+r=(few:Int)/\1<=few/\few<=5:=⟨(1+r).toNat,by lia,by lia,by lia⟩
 rw[B];refine⟨rfl,aq λQ' E' J _=>zP W R d2.1 λC s t M3 c q3=>J _ _ (Bo ?_)⟩;obtain⟨a,b,N,O,f⟩:=c.two;have hu:=c.un;have A:=@LC C s t;have F:=@AS C;simp only[ag,OM];rw[<- u];unfold iJ;generalize g:jg ad (aA iY)=K11;simp only[ai,ar,ac,dt,Ov,A,fH,b6,ag,fm,OM];refine⟨rfl,?_⟩;rw[<- A,<- g];unfold jg;generalize m:iQ ad (aA iY)=K10;have sg:=λ(Q:DK)=>oC (ad:=ad) (E:=aA iY) (M:=M3) (Q:=Q) c.o c.hs c.ht N O f (by lia)
 have s1:=vh c.o c.hs c.ht N O f (by lia)
 have Y:∀i,-1000000000000000<=bU (aB C s t).length (dh C s t a b) i/\bU (aB C s t).length (dh C s t a b) i<=1000000000000000:=λi=>
  yw (by lia) (OV sj<|Py (n:=2) (j:=7) (by decide)<|by lia) gG
 have lm:=λ(d0 d1 d2 d8 d9 d10 d11:Option D)(D':DEnds)(np:eG C.rows)=>AX (ad:=ad) (M:=M3) (EE:=aA iY) (D':=D') (d0:=d0) (d1:=d1) (d2:=d2) (d8:=d8) (d9:=d9) (d10:=d10) (d11:=d11) c R np N O f;have e:∀(Q:DK)(U:Dl),U[2]?=ap (ap<|bF C s t)->Q (.lst<|CL (aB C s t) (aB C s t).length<|bU (aB C s t).length<|dh C s t a b) M3->ao (aj (ka ad) (aA iY) 2<|aa (ac 2)<|aa (dC<|.int 2000) af) U M3 Q:=λQ U H q=>by
  have:=sg Q q;simp only[ao,aj,aa,ac,dC,af,dt]at this ⊢;rw[H];exact this
 simp only[ai];unfold ar;refine e _ _ rfl ?_;simp only[ag,OM];rw[<- m];unfold iQ;generalize K:lj ad (aA iY)=K9;simp only[ai,ar,dC,ag,OM];rw[<- K];unfold lj;generalize G:kG ad (aA iY)=K8;simp only[ai,cH,bH,ac,dt,Ov,aJ,bE];have P:CL (aB C s t) (aB C s t).length (bU (aB C s t).length<|dh C s t a b)=((aB C s t).zipIdx 0).map λp=>D.tup [kD p.1,yh (aB C s t).length (bU (aB C s t).length<|dh C s t a b) p.2]:=rfl;generalize hT:bU (aB C s t).length (dh C s t a b)=T at *;rw[P];refine xR (n:=(aB C s t).length) (T:=T) (by lia) (λ_=>aS) _ 0 1 cm cm (λp _=>Y p.2) (by decide) ?_ λv d10 d11=>?_
 .rw[FJ,s1];simp
 rw[<- P,<- G];unfold kG;generalize L:lI ad (aA iY)=K7;simp only[ai,aH,am,ah,ac,dt,Ov,k8,dv,bj,aP];refine⟨trivial,trivial,?_⟩;rw[if_neg (by simp)]
 simp only[aF];rw[<- L];unfold lI;generalize hK6:ik ad (aA iY)=K6 at *;obtain⟨r1,r2,X⟩:=zW c.one c.o.m1 (show ((C.many:Nat):Int)<=40 by have:=c.h1;lia) c.o.ok c.o.h (by have:=c.cn;lia)
 rw[F];simp only[ai,aH,Ak,am,ah,ac,dC,bz,aa,af,dt,Ov,au,aJ,atI_2,atI_3,uf,jt,az]
 split
 .simp only[az,dC,if_true]
  exact ak rfl
 .simp only[qZ,FN]
  refine⟨r1,r2,X,?_⟩;cases Z:Rx (di<|.tup<|aw C.rows).shown "'pick'" with
  |true=>
   simp only[if_true];exact ak rfl
  |false=>
   simp only[ON,if_false,aF];rw[<- F];refine lm _ _ _ _ _ _ _ _ (MY Z) ?_;dsimp only;exact ak rfl
def CI(K:OA):Sp:=λc H Q _=>∃(a:eg)(ns:Xj),c=[.ref a]/\AO H/\SqL K H a (ns.map V.int)/\ns.length<=63/\∀H',Q (.bl true) H'
theorem Ky{l:W.OpenLaw}{w:g3}{K:OA}{h:hG}{mg:Xr}{fa C_Ends C_Going C_Outcome C_Walk C_Dry C_NoCase C_TooMany f1 f2 f3 f4 f5 f6 f7 f8 f9 f10 f11 f12 f13 f14 f15 f16 f17 f18 f19 f20 f21 f22 f23 f24 f25 f26 f27 f28 f29 f30 f31 f32 f33 f34 f35 f36 f37 f38 f39 f40 f41 f42 f43 f44 f45 f46 f47 f48 f49 f50 f51 f52 f53 f54 f55 f56 f57 f58 f59 f60 f61 f62 f63:eg}(X:K.In h)(G:h.Ns fv mg)(hfa:mg "law"=ap (.ref fa)){e1 e2 e3 e4 e5 e6 e7 e8 e9 e10 e11 e12 e13 e14 e15 e16 e17 e18 e19 e20 e21 e22 e23 e24 e25 e26 e27 e28 e29 e30 e31 e32 e33 e34 e35 e36 e37 e38 e39 e40 e41 e42 e43 e44 e45 e46 e47 e48 e49 e50 e51 e52 e53 e54 e55 e56 e57 e58 e59 e60 e61 e62 e63:g4}(u:Qd K fv "Ends"=ap (ap<|.ref C_Ends))(p:Qd K fv "Going"=ap (ap<|.ref C_Going))(g:Qd K fv "Outcome"=ap (ap<|.ref C_Outcome))(q:Qd K fv "Walk"=ap (ap<|.ref C_Walk))(B:Qd K fv "Dry"=ap (ap<|.ref C_Dry))(o:Qd K fv "NoCase"=ap (ap<|.ref C_NoCase))(j:Qd K fv "TooMany"=ap (ap<|.ref C_TooMany))(l1:Mf K C_Walk "__init__" "Walk.__init__" LM f1 e1)(l2:Mf K C_Walk "note_step" "Walk.note_step" Mn f2 e2)(l3:Mf K C_Walk "look" "Walk.look" Hu f3 e3)(l4:Nf K "run" Hn f4 e4)(l5:Nf K "mark" GR f5 e5)(l6:Nf K "do_rows" Hi f6 e6)(l7:Af K "do_row_runs" "do_row" GG f7 e7)(l8:Nf K "do_if" GB f8 e8)(l9:Nf K "do_again" Hk f9 e9)(l10:Nf K "number_of" GE f10 e10)(l11:Nf K "piece_read" GK f11 e11)(l12:Nf K "joined" HR f12 e12)(l13:Nf K "all_things" HA f13 e13)(l14:Nf K "in_order" HB f14 e14)(l15:Nf K "number_in" Gq f15 e15)(l16:Nf K "names_read" HD f16 e16)(l17:Nf K "unlike" GL f17 e17)(l18:Nf K "marks" Hv f18 e18)(l19:Nf K "unlike_of" Gy f19 e19)(l20:Nf K "verdict_of" Hw f20 e20)(l21:Mf K C_Going "__init__" "Going.__init__" Nw f21 e21)(l22:Mf K C_Going "settled" "Going.settled" Ml f22 e22)(l23:Mf K C_Ends "__init__" "Ends.__init__" N7 f23 e23)(l24:Mf K C_Ends "one_more" "Ends.one_more" NC f24 e24)(l25:Nf K "start" HH f25 e25)(l26:Nf K "put_ahead" H_ f26 e26)(l27:Nf K "go_on" HY f27 e27)(l28:Nf K "asked_by" HV f28 e28)(l29:Af K "do_row_trees" "do_row" GQ f29 e29)(l30:Nf K "mark_of" HP f30 e30)(l31:Nf K "both_ways" GY f31 e31)(l32:NV K "tree" GX f32 e32 (500))(l33:Nf K "grown" HW f33 e33)(l34:Mf K C_Outcome "__init__" "Outcome.__init__" MJ f34 e34)(l35:Nf K "outcomes" HQ f35 e35)(l36:Nf K "numbers_of" Ie f36 e36)(l37:NV K "shares" Gz f37 e37 (500))(l38:Nf K "mean_of" Hy f38 e38)(l39:Nf K "orders_of" Ho f39 e39)(l40:Nf K "orders_up_to" GJ f40 e40)(l41:Nf K "in_lowest_terms" Nm f41 e41)(l42:Nf K "_law_stirred" Gv f42 e42)(l43:Nf K "_law_pot" Gu f43 e43)(l44:Nf K "_law_draw" HN f44 e44)(l45:Nf K "_law_names" HI f45 e45)(l46:Nf K "_law_row" Hz f46 e46)(l47:Nf K "_law_block" He f47 e47)(l48:Nf K "_law_rows" Hc f48 e48)(l49:Nf K "_law_plan" Ib f49 e49)(l50:Nf K "_law_stand" Gw f50 e50)(l51:Nf K "_law_becomes" Hx f51 e51)(l52:Nf K "_law_stepped" O4 f52 e52)(l53:Nf K "_law_rounds" Hd f53 e53)(l54:Nf K "_law_done" Hq f54 e54)(l55:Nf K "_law_run" Gp f55 e55)(l56:Nf K "_law_flat" Ht f56 e56)(l57:Nf K "_law_marks" Go f57 e57)(l58:Nf K "_law_other" Gx f58 e58)(l59:Nf K "_law_by_name" GO f59 e59)(l60:Nf K "_law_by_piece" MA f60 e60)(l61:Nf K "_law_case" I0 f61 e61)(l62:Nf K "_law_common" Hf f62 e62)(S:Nf K "law" j_ f63 e63)(VV:UR K C_Dry [.type "ValueError",.type "Exception",.type "BaseException",.type "object"] "ValueError.__new__"=true)(VB:UR K C_NoCase [.type "ValueError",.type "Exception",.type "BaseException",.type "object"] "ValueError.__new__"=true)(VA:UR K C_TooMany [.type "ValueError",.type "Exception",.type "BaseException",.type "object"] "ValueError.__new__"=true)(VI:Rr K C_Ends Tf=true)(VJ:RB K C_Ends=true)(VL:R7 K C_Ends=true)(VM:PB K (.ref C_Ends) "__setattr__"=ap (ap<|.builtin "object.__setattr__"))(VN:Sj K C_Ends=true)(VO:P8 K (.ref C_Ends)=true)(VC:Rr K C_Going Tf=true)(VD:RB K C_Going=true)(VE:R7 K C_Going=true)(VF:PB K (.ref C_Going) "__setattr__"=ap (ap<|.builtin "object.__setattr__"))(VG:Sj K C_Going=true)(VH:P8 K (.ref C_Going)=true)(Vu:Rr K C_Outcome Tf=true)(Vv:RB K C_Outcome=true)(Vw:R7 K C_Outcome=true)(Vx:PB K (.ref C_Outcome) "__setattr__"=ap (ap<|.builtin "object.__setattr__"))(Vy:Sj K C_Outcome=true)(Vz:P8 K (.ref C_Outcome)=true)(VP:Rr K C_Walk Tf=true)(VQ:RB K C_Walk=true)(VR:R7 K C_Walk=true)(VS:PB K (.ref C_Walk) "__setattr__"=ap (ap<|.builtin "object.__setattr__"))(VT:Sj K C_Walk=true)(VU:P8 K (.ref C_Walk)=true)(Vn:PB K (.ref C_Ends) "count"=ap cm)(Vo:PB K (.ref C_Ends) "limit"=ap cm)(Vp:PB K (.ref C_Going) "left"=ap cm)(Vi:PB K (.ref C_Going) "numbers"=ap cm)(Vk:PB K (.ref C_Going) "pieces"=ap cm)(Vq:PB K (.ref C_Going) "todo"=ap cm)(Vf:PB K (.ref C_Going) "unsettled"=ap cm)(Vh:PB K (.ref C_Outcome) "faulty"=ap cm)(Vj:PB K (.ref C_Outcome) "sound"=ap cm)(Vg:PB K (.ref C_Outcome) "verdict"=ap cm)(Vs:PB K (.ref C_Walk) "most"=ap cm)(Vl:PB K (.ref C_Walk) "numbers"=ap cm)(Vm:PB K (.ref C_Walk) "pieces"=ap cm)(Vt:PB K (.ref C_Walk) "plan"=ap cm)(Vr:PB K (.ref C_Walk) "steps"=ap cm)(N:Qd K fv "abs"=ap cm)(L:Qd K fv "dict"=ap cm)(f:Qd K fv "enumerate"=ap cm)(c:Qd K fv "isinstance"=ap cm)(O:Qd K fv "len"=ap cm)(I:Qd K fv "list"=ap cm)(P:Qd K fv "max"=ap cm)(Z:Qd K fv "min"=ap cm)(z:Qd K fv "range"=ap cm)(J:Qd K fv "repr"=ap cm)(i:Qd K fv "reversed"=ap cm)(Y:Qd K fv "str"=ap cm)(R:Qd K fv "sum"=ap cm)(A:Qd K fv "tuple"=ap cm)(U:Qd K fv "zip"=ap cm):
  ∃fd:g4,(∀(s:el)(v:ay),Wx s fd ⟨[v],[]⟩ [("script",v)])/\∀m:hG,K.In m->m.Ns fv mg->FnOk l.prog w K mg m CX0 35 fa fd ["script"] (CI K):=by
 have e:=hfa.symm.trans (RO X G S.a);cases e;obtain⟨_,_,kV,dc,pm,an,cd,ct,_,rfl,_⟩:=S.F.ex;refine⟨Rt "law" "law" (cb j_) (bv j_) (aQ j_) .none kV dc pm an cd ct,λs v=>.of_eq rfl,λm _ _=>?_⟩
 let ad:Ad:=⟨C_Ends,C_Going,C_Outcome,C_Walk,C_Dry,C_NoCase,C_TooMany,f1,f2,f3,f4,f5,f6,f7,f8,f9,f10,f11,f12,f13,f14,f15,f16,f17,f18,f19,f20,f21,f22,f23,f24,f25,f26,f27,f28,f29,f30,f31,f32,f33,f34,f35,f36,f37,f38,f39,f40,f41,f42,f43,f44,f45,f46,f47,f48,f49,f50,f51,f52,f53,f54,f55,f56,f57,f58,f59,f60,f61,f62,fa,e1,e2,e3,e4,e5,e6,e7,e8,e9,e10,e11,e12,e13,e14,e15,e16,e17,e18,e19,e20,e21,e22,e23,e24,e25,e26,e27,e28,e29,e30,e31,e32,e33,e34,e35,e36,e37,e38,e39,e40,e41,e42,e43,e44,e45,e46,e47,e48,e49,e50,e51,e52,e53,e54,e55,e56,e57,e58,e59,e60,e61,e62,Rt "law" "law" (cb j_) (bv j_) (aQ j_) .none kV dc pm an cd ct⟩
 have T:En l.prog w K mg m ad:=⟨⟨VI,VJ,VL,VM⟩,
  RO X G u,
  ⟨VC,VD,VE,VF⟩,
  RO X G p,
  ⟨Vu,Vv,Vw,Vx⟩,
  RO X G g,
  ⟨VP,VQ,VR,VS⟩,
  RO X G q,
  Vn,
  Vo,
  Vp,
  Vi,
  Vk,
  Vq,
  Vf,
  Vh,
  Vj,
  Vg,
  Vs,
  Vl,
  Vm,
  Vt,
  Vr,
  ig X VV,
  RO X G B,
  ig X VB,
  RO X G o,
  ig X VA,
  RO X G j,
  PU X G N,
  PU X G L,
  PU X G f,
  PU X G c,
  PU X G O,
  PU X G I,
  PU X G P,
  PU X G Z,
  PU X G z,
  PU X G J,
  PU X G i,
  PU X G Y,
  PU X G R,
  PU X G A,
  PU X G U,
  gi VT VU l1,
  gm l2,
  gm l3,
  gf X G l4,
  gf X G l5,
  gf X G l6,
  ga X G l7,
  gf X G l8,
  gf X G l9,
  gf X G l10,
  gf X G l11,
  gf X G l12,
  gf X G l13,
  gf X G l14,
  gf X G l15,
  gf X G l16,
  gf X G l17,
  gf X G l18,
  gf X G l19,
  gf X G l20,
  gi VG VH l21,
  gm l22,
  gi VN VO l23,
  gm l24,
  gf X G l25,
  gf X G l26,
  gf X G l27,
  gf X G l28,
  ga X G l29,
  gf X G l30,
  gf X G l31,
  gv X G l32 rfl λ_ _ _ _ _ _ _ _=>⟨λ_=>⟨_,rfl,rfl⟩,λ_ _=>⟨_,rfl,rfl⟩⟩,
  gf X G l33,
  gi Vy Vz l34,
  gf X G l35,
  gf X G l36,
  gv X G l37 rfl λ_ _ _ _ _ _ _ _=>⟨λ_=>⟨_,rfl,rfl⟩,λ_ _=>⟨_,rfl,rfl⟩⟩,
  gf X G l38,
  gf X G l39,
  gf X G l40,
  gf X G l41,
  gf X G l42,
  gf X G l43,
  gf X G l44,
  gf X G l45,
  gf X G l46,
  gf X G l47,
  gf X G l48,
  gf X G l49,
  gf X G l50,
  gf X G l51,
  gf X G l52,
  gf X G l53,
  gf X G l54,
  gf X G l55,
  gf X G l56,
  gf X G l57,
  gf X G l58,
  gf X G l59,
  gf X G l60,
  gf X G l61,
  gf X G l62,
  gf X G S⟩
 exact(Ip<|KH T).imp λvs H Q E ⟨a,ns,e,hO,hS,hl,k⟩=>by subst e;exact EF hO hS (zH ad ns hl) k
theorem walk{l:W.OpenLaw}{q:fx}{loose:Xk}{XP:(Str->Option ay)->hG->Prop}{YP:g3->hG->Prop}{d:DefRec}{K:Params->OA}(p:l.most=ap 63)(g:d.params.defaults=[])(v:∀(w:g3)(h:hG),YP w h->(K w.params).In h)(F:∀(w:g3)(e:Xr)(fa:eg)(h:hG),(K w.params).In h->h.Ns fv e->e d.name=ap (.ref fa)->
   ∃fd:g4,(∀(s:el)(u:ay),Wx s fd ⟨[u],[]⟩ [("script",u)])/\∀c:hG,(K w.params).In c->c.Ns fv e->FnOk l.prog w (K w.params) e c CX0 35 fa fd ["script"] (CI<|K w.params)):
  W.WalkO q loose XP YP l.row.toRowW d [] (λf vs=>UQ f vs):=
 _2.Eo (n:=63) (k:=35) (x:="script") (CX:=λ_=>CX0) (sp:=λw=>CI (K w.params)) p (by decide) g ⟨rfl,by decide,by decide,rfl⟩ v F (λ_ _ a o m i j=>⟨a,o,rfl,i,j,m,λ_=>rfl⟩) λ_ _ _ _ _ z=>z
end _T
open PySem PySem.W PyProof.Rows
structure PySem.W.Fast:Prop where
 (tw7103689247721251636 tw7124466163671743953 tw5736935699331260406 tw14821059038102020348 tw721181917251441749 tw2043618365275159104 tw16731881048962977580 tw698992375867191055 tw8212322202168942616 tw16241222141461820758 tw14081658490968135100 tw4966269989060349958 tw17712251570810434277 tw12220608172179934983 tw9769643576942894309 tw17275379435724337638 tw16719953117392881777 tw11527530950588750117 tw10180475241208329910 tw10108886131117100457 tw7372351961377397980 tw14398559174541004340 tw10908268143174518801 tw16460744747176659810 tw2604389797969549786 tw405957506349635617 tw1325700988581343664 tw8573374847452154078 tw14671096045006950275 tw16346809765590006223 tw16116127740761961175 tw11016880410322123185 tw12952223458796415474 tw16554849810108028613 tw9554505367664367769 tw17699337693818262798 tw6993355331538598510 tw8832025580725735865 tw13233542442323437168 tw13441000161822493010 tw8460086293149712881 tw7364403405777816313 tw10403543853273497772 tw15682153338925139424 tw13469804615079768243 tw4371326352151275165 tw17290726095499577625 tw6138611339230022776 tw837484624214239568 tw3482389702171312905 tw8702534939455890454 tw10010277639316277302 tw10351386913981931019 tw2979578984353124804 tw10547675816188875408 tw5965478164916532441 tw8340115758188534983 tw17705853207014389648 tw7575193744916915334 tw17838848450930975263 tw7838818395173168140 tw17692178252627316279 tw12691343498263510280 tw8793517167352110492 tw17047781311082301493 tw417351613643927349 tw10319711842741331488 tw3586564731096239861 tw14447506083489107122 tw3156137606540221627 tw687122881171129672 tw7603256784585347709 tw2809204520888867130 tw14674867781081509649 tw10045098460299076420 tw17673176990658590366 tw4138620340872668974 tw712096770411407280 tw7502389583200667794 tw16457392493134369072 tw1274995162270238871 tw550359947752965525 tw5349716780025221891 tw9493532730631927806 tw4356997897346940155 tw3960794812284898445 tw7689645266734500227 tw15453747911652470979 tw5745318244500426497 tw8091468930377195934 tw12294959515589692896 tw5713229921986896964 tw7454835030105226622 tw6780124645031030428 tw3651816364860434081 tw4999167719288092623 tw10609162787350514872 tw1059667690073184679 tw15384634426683734840 tw377916025411647264 tw10734005156959279655 tw8989820601350451564 tw9127630401514621534 tw9947080209445995943 tw17864038402735486439 tw17655436333689500018 tw5404306038834091873 tw18219173778090367787 tw310282354004220131 tw14770461977104246294 tw10864054991523651856 tw18413487114814778343 tw7585356374421457555 tw13157934664474307832 tw13846417351233320437 tw12797184296098143718 tw16462389843103180372 tw6173715677148519157 tw2204498150144242378 tw14467429148656080531 tw2166213928351480319 tw9727343306050043078 tw2100014833427395318 tw18107891333346587630 tw12682808418011331194 tw10615999515377815935 tw8520903162803505100 tw5806626831685634906 tw2787523542814721946 tw17231861497820982473 tw17754769868870428610 tw18064210881569982102 tw10990408709175015621 tw8399255758100239931 tw7738222885033993467 tw8933410211107539885 tw6933705664351054850 tw10375357423418487131 tw9319776165861486395 tw16928165097984363076 tw14535111710989912746 tw10450444057191851157 tw481787065052884062 tw11293867737480018757 tw4495555697035399560 tw3057873208632895112 tw851554462791960827 tw12756674917775011251 tw8433883680035709257 tw2093354806627201050 tw9972189782134204168 tw7870624743346588405 tw132298991321557040 tw3537154804231236925 tw715799621129279553 tw7377024446998620856 tw2432674293123387404 tw15618341473071352523 tw7458662904063875664 tw13332141017130654242 tw1617853135064889764 tw16855322687757010974 tw6510864649443204253 tw47207099423063389 tw6422244121054649118 tw7182468460638637904 tw6196396418870494025 tw12832147932576037086 tw7479445785983206889 tw12731949649012458918 tw7971041958701158734 tw17525348382792419245 tw3598075989533560664 tw10513164283243521576 tw7589112772501278825 tw4352974317866142236 tw1990450024632748012 tw1058325948654216889 tw9701134055147219395 tw6596574674074802569 tw274569815223382346 tw5159103591635300165 tw6396405783008323275 tw10860447300969493175 tw17264098014500698942 tw6920161672804899644 tw4404043528894778920 tw5978502332290941312 tw9239314022079923151 tw7378274027856619310 tw706101863395808175 tw10933879174710942232 tw11956470258765326399 tw740739399263647394 tw14802893224406589787 tw459865855501163339 tw2305546197614072195 tw18387215179697756194 tw17305404994986474197:True)
set_option maxRecDepth 100000 in
set_option maxHeartbeats 0 in
theorem PySem.Challenge.cw_twinstride_k53_whole_shares_come_to_one_holds : PySem.Challenge.rw_twinstride_k53_whole_shares_come_to_one.Holds := by
 w_on;o_law;k_head;(case hw=>w_witness2)
 k_fill
 refine _T.walk (l:=PySem.Challenge.rw_twinstride_k53_whole_shares_come_to_one) rfl rfl (λw h Y=>W.kIn_of Y) ?F
 case F=>
  intro w b fa h KX G a;refine' _T.Ky KX G a ..
  any_goals k_is
  any_goals (first|refine' _3.Nf.mk ?_ (_2.wx ?_ ?_ ?_)|refine' _3.Mf.mk ?_ ?_ (_2.wx ?_ ?_ ?_)|refine' _3.Af.mk ?_ (_2.wx ?_ ?_ ?_)|refine' _3.Mw ?_ ?_ ?_ ?_ ?_)
  any_goals k_is
  any_goals k_exc
