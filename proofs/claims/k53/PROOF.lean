import PyProof.Rows.All
import Wide.All
import OpenK.AllK
import Wide.FinOn
import Lean
import PyProof.EqAt
import PyProof.EqKinds
import PyProof.TupleCall
import PySem.Challenge.RW_twinstride_k53_whole_shares_come_to_one
set_option Elab.async false
set_option linter.all false
set_option maxRecDepth 100000
set_option maxHeartbeats 4000000
set_option compiler.extract_closed false
set_option Elab.async false
set_option linter.all false
set_option maxRecDepth 100000
open Array renaming replicate->Qv,append_assoc->QX,length_toList->Rr,toList->Rz,size_append->SF,getElem?_toList->Uv,forIn_toList->UQ
open Bool renaming false_eq_true->OI,false_ne_true->OS,beq_eq_decide_eq->Pd,and_eq_true->PR,not_true->PV,false_or->Qj,not_false->Qo,or_false->QT,and_false->Q6,true_or->Sa,and_true->Su,or_true->SO,false_and->TC,and_self->T4
open False renaming elim->PN
open ForInStep renaming yield->RU
open Int renaming toNat_natCast->OF,emod_nonneg->Py,emod_lt_of_pos->PQ,natCast_mul->QA,natCast_dvd_natCast->Q0,le_refl->Q1,toNat_of_nonneg->RA,eq_ofNat_of_zero_le->R6,add_zero->Si,zero_add->SX,mul_one->Th,mul_le_mul_of_nonneg_left->Ti,fdiv_eq_ediv_of_nonneg->TU,mul_ediv_cancel_left->Uc,mul_assoc->Ud,toNat->Us,mul_ediv_mul_of_pos->Ut,dvd_mul_of_dvd_left->Uu
open List renaming getElem?_cons_zero->dt,getElem?_cons_succ->Oo,length_map->Ot,map_cons->Ou,getElem?_eq_getElem->Ov,mem_filter->Ox,length_cons->Oy,size_toArray->OB,mem_cons_of_mem->OE,length_append->OG,set->OH,getElem?_map->OJ,mem_cons_self->OL,mem_cons->OM,cons_append->OO,nil_append->OP,map_nil->OV,lookup->OY,replicate->OZ,mem_map->Pa,filter_cons->Pb,mem_append->Pc,range->Pe,length_nil->Pf,length_filter_le->Ph,sum_cons->Pj,not_mem_nil->Pl,append_nil->Pm,mem_append_right->Pq,getElem?_eq_none->Pr,foldl_cons->Pu,getElem?_append_right->Pw,replicate_succ->PD,map_congr_left->PF,getElem?_append_left->PL,find?_cons->PX,length_singleton->PY,filter_append->PZ,mem_range->P2,filter_map->P5,map_map->P7,getElem?_eq_some_iff->Qc,map_id->Qe,any_cons->Qi,getElem?_range->Qk,filterMap_cons->Ql,zipIdx_cons->Qm,getElem_mem->Qn,nodup_cons->Qy,length_set->Qz,idxOf_lt_length_of_mem->QC,flatten_cons->QD,filter_congr->QE,length->QI,range'_succ->QK,lookup_cons->QL,drop_eq_getElem_cons->QO,filter_eq_self->QP,of_mem_zip->QU,map_append->QW,range_eq_range'->Rf,range'->Rg,mem_of_getElem?->Rh,mem_map_of_mem->Ry,getD_eq_getElem?_getD->RH,getElem?_set->RQ,length_take->R0,filter_eq_nil_iff->R7,drop_eq_nil_of_le->R8,length_zip->Sh,mem_append_left->Sk,forIn_nil->Sl,take_succ_eq_append_getElem->SI,sum_nil->SJ,nodup_append->SK,length_range->SM,getElem?_nil->SN,eraseIdxIfInBounds_toArray->SW,nodup_range->S3,isEmpty_nil->S4,getElem_map->S5,eq_nil_of_length_eq_zero->Tc,range_succ->Tf,forIn_cons->Tg,mem_or_eq_of_mem_set->TR,getElem?_replicate->T9,filter_cons_of_pos->Ua,filter_cons_of_neg->Ub,take_of_length_le->Um,range_succ_eq_map->Uo,getElem_cons_zero->Uq,getElem?_set_self->Ur,dropLast_eq_take->UD,getElem?_set_ne->UI,length_reverse->UO,length_pos_iff->UP,zip_cons_cons->UU,mem_singleton->UW,mem_filterMap->UX,getElem_idxOf->UY,findIdx?_cons->UZ
open List.Pairwise renaming filter->Td,map->TB
open List.cons renaming injEq->Qa
open Nat renaming le_refl->Oz,lt_of_lt_of_le->OA,ne_of_lt->ON,le_trans->OQ,pow_le_pow_right->Po,lt_irrefl->PC,le_add_right->P0,zero_le->Qf,lt_or_ge->Qg,ne_of_gt->Qu,gcd->QY,lt_succ_self->Rb,not_lt_zero->Rx,mul_comm->RB,lt_of_le_of_lt->RL,lt_succ_of_lt->RT,mul_assoc->RX,testBit_lt_two_pow->Sg,mul_le_mul->Sn,div_mul_cancel->SE,zero_add->SQ,lt_trans->SS,le_of_succ_le->SU,le_of_eq->SV,zero_testBit->Tb,le_succ->Te,testBit_or->TQ,gcd_pos_of_pos_left->Ul,min_self->UA,le_of_lt->UB,add_zero->UC,log2_lt->UN
open Ne renaming symm->OW
open Option renaming map_some->PJ,join_some->PK,isSome_iff_exists->Qd,map_eq_some_iff->RZ,isSome_map->Sz,isSome_some->UG,isNone_some->UH,getD_none->UT
open Option.some renaming inj->Px
open PyProof.Rows renaming callWith_type1->Pk,slot_tuple_getitem->PB,envOfC->Q8,assign_Tuple->SD
open PySem renaming mem_of_lookup->Pz,stored->Q3,Within->T5,call->UJ,list_append->UR
open PySem.Around renaming under_plainId->QF,under->Sy
open PySem.AutoSeq1 renaming sub_tuple_tuple->RG,idx_int->Sw
open PySem.Builtin renaming bitAnd->Ru,bitOr->Sj
open PySem.Builtin.Dict renaming updateFrom->QJ,pairItems->RF,selfAndRest->SG,addKeywords->SH
open PySem.Builtin.Int renaming intBits->P1
open PySem.Builtin.Slice renaming slicePlaces->Qx,sliceAdjust->Ra,sliceApplied->Ss
open PySem.Builtin.SmallTypes renaming nextOf->OX,ownedTupleIsFree->Pn,ownedTupleHandOut->RE
open PySem.Builtin.Tuple renaming tupleExact->P9,tupleTooMany->Sq,tupleItemsOf->Sr
open PySem.Calls renaming spliced_cons->Qr,callWith_builtin->Qs,evalArgs_plain->QH,spliced_nil->Q4,Name_function_global->Tu
open PySem.Code renaming isFrame->Uk
open PySem.Expr renaming Call->T8
open PySem.F renaming slot_tuple_mul->Qp,slot_NoneType_hash->QB,slot_tuple_iterator_next->QN,slot_zip_next->QZ,slot_dict_pop->Q5,slot_list_getattribute->Q7,slot_list_pop->RD,args_tuple_mul_2->RJ,args_tuple_add_2->RK,plainAttrs_list->RN,entry_tuple_mul->RO,entry_tuple_add->RP,slot_tuple_add->RW,slot_zip_getattribute->Sf,slot_list_append->Sm,args_zip_next_1->Ta,slot_tuple_index->Tq,entry_zip_next->Tt,slot_tuple_rmul->Tv,plainAttrs_dict->Tx,args_dict_pop_3->Tz,entry_dict_pop->TM,args_tuple_iterator_next_1->TN,type_list_pop->TY,type_dict_pop->TZ,slot_int_rmul->T2,entry_tuple_iterator_next->T3,args_dict_init_2->Uz,entry_dict_init->UE,slot_enumerate_next->US
open PySem.Heap renaming get?_push_of_some->Oq,lt_size->OC,get?_push_size->OD,size_push->Pg,SameBut->Qt,ExtBut->S9,get?_update_other->Ui,get?_update_self->Uy
open PySem.Heap.DictOf renaming new->Uj
open PySem.Heap.SameBut renaming update->To
open PySem.NameKind renaming cell->RC
open PySem.Obj renaming mapSeq->SA
open PySem.Paired renaming length->P6
open PySem.PyData renaming hasDict->PU,shownAll->QS,showable->Rc,shown->Ro,depth->Rq,showableAll->So,hasDictAll->Sv,depthAll->S2,noDict_hsm->UM
open PySem.SeqAt renaming EqAt->R5,RcNeAt->T6,RcAt->UL
open PySem.SeqAt.EqAt renaming str_none->TH,none_str->TJ,none_int->TK,int_none->TL,str_int->TV,int_str->TX
open PySem.SeqAt.RcAt renaming lists_lengths->SY,tuples->T7,lists->Uh
open PySem.Shared renaming heap->Ug
open PySem.Str renaming ofString->PH,empty->S8
open PySem.Txt renaming contains->Rn
open PySem.Value renaming ref->OU,none->Qq,int->Qw,bool->QG,str->RV,type->Tn,builtin->TF,float->Ux
open PySem.W renaming Frag->Ow,findIn->Pp,mg_none_of->PM,keepIn->P4,nsIn->P8,emptyDict->QM,kia_one->QR,plainGet->Ri,fnOf->Rj,cellsFrom_some->Rk,hasDictIn->Rt,mg_of->RI,instObj->RM,plainOver->RY,makesIn->Se,codeIn->S6,callWith_K->S7,hideAll->Tj,plainGet_of->Uw,excIn->UK
open Std.Legacy renaming Range->Ue
open String renaming reduceBEq->RS
open Sum renaming inr->OR,inl->Qb
open Sum.inl renaming inj->Q9
open Sum.inr renaming inj->Sb
open True renaming intro->Qh
open Bool renaming false->eC
open Option renaming some->ap,none->cm
open PyProof.Rows renaming AllBare->Uf,assignInOrder_cons->V8,IsTup->Wg,subscriptTail_builtinR->WI,IntsAre->WO
open PySem renaming wpAny_bind->ax,Value->ay,Addr->eg,Shared->el,wpAny->eH,wpAny_pure->eX,starEach->fe,model->ff,mainGlobals->fv,Program->fx,Expr->fy,bootBuiltins->gl,eval->gp,World->g3,FuncData->g4,wpAny_field->g5,binaryOp->hB,backTo->hG,Heap->hI,Around->ix,builtinLookup_eq_fast->j0,compareOp->kc,wpAny_call_entry->kr,wpAny_mono->mu,attributeBase->nr,wpAny_holding->n7,wpAny_loadPart'->ol,wpAny_seqItems->om,wpAny_newObj_type->pa,typeLookup_type->pr,wpAny_setField_rec->pt,assignEach->py,cLine->p3,wpAny_Call_Name_kw->ra,Stmt->rc,IsPair->re,cellsFrom->s9,holding->tm,rawInt->t3,isSubtype_type->va,call_meets->vb,Keyword->vr,wpAny_passesOwn->wh,backToKw->x9,swapsWith->zt,foldedSetIterable->z0,Scope->z4,wpAny_rule->z5,typeLookup->On,sysModules->Op,pyNext->Os,wpAny_attempt->Pi,wpAny_execs_nil->Ps,wpAny_of_eq->Pv,wpAny_typeOf->PP,codeAny_mono->P3,wpAny_standAt->Re,codeAny->Rs,sliceBounds->Sc,wpAny_specialOf->SB,codeAny_builtin->SC,pushCells->SL,getMethod->SZ,tupleKind_room_in1->Tk,getattributeRaised->Tl,standAt->TD,relabel->TW,field->T0,stored->UF,plainId_quiet->UV,wpAny_isInstance->VQ,Operator->VR,valueAt->VS,getItem->VT,PlainAttrs->VU,Paired->VV,pushCells_keeps->VW,letOwnedTupleGo->VX,firstArgMember->VY,entryFor->VZ,assign->V0,NameKind->V1,IsPart->V2,wpAny_dictSet_pairs->V3,swapsWithSole->V4,swappedStores->V5,behindInMarks->V6,typeOf->V7,wpAny_pyIter_list->V9,callerA->Wa,callWith->Wb,IsZip->Wc,wpAny_execs_cons->Wd,noFill_tuple_add->We,sizeLine_eq->Wf,setItem->Wh,BindsTo->Wi,wpAny_newTuple->Wj,newFunctionEnv->Wl,isSubtype_stop->Wm,entryFor_alias->Wn,closureFor->Wo,builtinsNs->Wp,bindArgs->Wq,atKey->Wr,argsOk->Ws,Meets->Wt,wpAny_comprehension_free->Wu,seq_tuple_add->Wv,assignInOrder->Ww,Slot->Wx,tupleKind->Wz,seqItems?->WA,seqIndex?->WB,bindL->WC,bindC->WD,PassesOwn->WE,DictEntry->WF,wpAny_pyNext_list_item->WG,wpAny_Call_method_late->WH,seqIndex_neg->WJ,isTrue->WK,concat_meets->WL,callType_new->WM,Result->WN,wpAny_pyNext_list_end->WP,wpAny_updateSeq_pair->WQ,wpAny_raiseAttrError->WR,wpAny_loadName_local->WS,table->WT,setField->WU,seqIndex_of->WV,loadIfAlive->WW,getAttr?->WX,bindName->WY
abbrev W7:=List Int
abbrev W8:=List PySem.Str
abbrev W9:=List ay
abbrev Xa:=List eg
abbrev Xb:=List fy
abbrev Xc:=List rc
abbrev Xd:=ay->el->Prop
abbrev Xe:=List (eg×PySem.Obj)
abbrev Xf:=PySem.Str->Option ay
abbrev Xg:=Array ay
namespace _2
open PySem PySem.Spec PyProof.Rows
variable{C a b dx f:eg}{A:ix}{X:Cx}{c e tg:fy}{fd:g4}{o:HO}{base h h':hI}{H H':Hp}{WZ:Xe}{kw:List (Str×ay)}{ch fp:Xa}{es:Xb}{body:Xc}{N ps:W8}{us:W9}{M:Model}{i j t':Nat}{op:VR}{K:Ow}{p pos pos':Pos}{P:fx}{s:el}{sp:Sp}{Z:St}{m x:Str}{mA mg:Xf}{ta tb te:TE}{u:ay}{E Q:Xd}{w:g3}{CX:oo}
abbrev aF:=Sum Int Str
def lR:aF->ay->Bool
 |.inl k,v=>Value.isInt k v
 |.inr x,v=>Value.isStrOf x v
def MA(w:g3):aF->Int
 |.inl k=>hashInt k
 |.inr x=>hashStr w x
theorem aY:∀{k:aF}{v:ay},lR k v=true->(∃i t,k=Qb i/\v=Qw i t)\/(∃x t,k=OR x/\v=RV x t)
 |.inl i,v,h=>by
  obtain⟨t,e⟩:=Value.isInt_shape (k:=i) (v:=v) h;exact .inl ⟨i,t,rfl,e⟩
 |.inr x,v,h=>by
  obtain⟨t,e⟩:=Value.isStrOf_shape (x:=x) (v:=v) h;exact .inr ⟨x,t,rfl,e⟩
theorem zr(i:Int)(t:Tok):lR (.inl i) (.int i t)=true:=by simp[lR,Value.isInt]
theorem zm(x:Str)(t:Tok):lR (.inr x) (.str x t)=true:=by simp[lR,Value.isStrOf]
theorem Ib(a b:Int):decide ((Qb a:aF)=Qb b)=(a==b):=by
 by_cases e:a=b
 .subst e;simp
 .have h:¬(Qb a:aF)=Qb b:=λq=>e (Q9 q)
  rw[decide_eq_false h];exact(beq_eq_false_iff_ne.mpr e).symm
theorem IM(a b:Str):decide ((OR a:aF)=OR b)=decide (a=b):=by
 by_cases e:a=b
 .subst e;simp
 .have h:¬(OR a:aF)=OR b:=λq=>e (Sb q)
  rw[decide_eq_false h,decide_eq_false e]
theorem Ie(a:Int)(b:Str):decide ((Qb a:aF)=OR b)=false:=decide_eq_false (λq=>nomatch q)
theorem Ko(a:Str)(b:Int):decide ((OR a:aF)=Qb b)=false:=decide_eq_false (λq=>nomatch q)
def aV(prog:fx)(w:g3):PySem.KeyKind prog w aF where
 is:=lR
 hash:=MA w
 inj:=λv a b z n=>by
  rcases aY z with⟨i,t,rfl,rfl⟩|⟨x,t,rfl,rfl⟩
  .rcases aY n with⟨j,u,rfl,e⟩|⟨y,u,rfl,e⟩
   .injection e with e1 _;rw[e1]
   .exact nomatch e
  .rcases aY n with⟨j,u,rfl,e⟩|⟨y,u,rfl,e⟩
   .exact nomatch e
   .injection e with e1 _;rw[e1]
 byValue:=λk v h=>by
  rcases aY h with⟨i,t,rfl,rfl⟩|⟨x,t,rfl,rfl⟩<;>rfl
 pyHash:=λg h=>by
  rcases aY g with⟨i,t,rfl,rfl⟩|⟨x,t,rfl,rfl⟩
  .exact wpAny_pyHash_int h
  .exact wpAny_pyHash_str h
 eqBool:=λq g h=>by
  rcases aY q with⟨i,t,rfl,rfl⟩|⟨x,t,rfl,rfl⟩
  .rcases aY g with⟨j,u,rfl,rfl⟩|⟨y,u,rfl,rfl⟩
   .rw[Ib]at h;exact wpAny_eqBool_int h
   .rw[Ie]at h;exact TX i t y u _ _ _ _ h
  .rcases aY g with⟨j,u,rfl,rfl⟩|⟨y,u,rfl,rfl⟩
   .rw[Ko]at h;exact TV x t j u _ _ _ _ h
   .rw[IM]at h;exact wpAny_eqBool_str h
 «strs»:=λk x t v h=>by
  rcases aY h with⟨i,u,rfl,e⟩|⟨y,u,rfl,e⟩
  .exact nomatch e
  .injection e with e1 _
   subst e1;cases v<;>rfl
theorem r_(prog:fx)(w:g3)(i:Int)(t:Tok):(aV prog w).is (.inl i) (.int i t)=true:=zr i t
theorem tS(prog:fx)(w:g3)(x:Str)(t:Tok):(aV prog w).is (.inr x) (.str x t)=true:=zm x t
inductive V where
 |non|bl (b:Bool)|int (i:Int)|str (x:Str)|byt (b:Array UInt8)|flt (b:UInt64)|ref (a:eg)|ty (n:String)
 deriving DecidableEq
def RelV:V->ay->Prop
 |.non,u=>u=Qq
 |.bl b,u=>u=QG b
 |.int i,u=>∃t,u=Qw i t
 |.str x,u=>∃t,u=RV x t
 |.byt b,u=>∃t,u=Value.bytes b t
 |.flt b,u=>∃t,u=Ux b t
 |.ref a,u=>u=OU a
 |.ty n,u=>u=Tn n
abbrev Vals:List V->List ay->Prop:=VV RelV
theorem Vals.length{xs:List V}(r:Vals xs us):xs.length=us.length:=P6 r
theorem Vals.get:∀{xs:List V}{us:W9}{i:Nat}{x:V},Vals xs us->xs[i]?=ap x->∃u,us[i]?=ap u/\RelV x u
 |_,_,_,_,.nil,e=>by simp at e
 |_,_,0,_,.cons r _,e=>by simp at e;subst e;exact⟨_,rfl,r⟩
 |_,_,i+1,x,.cons _ t,e=>by
  obtain⟨u,n,g⟩:=Vals.get (i:=i) (x:=x) t (by simpa using e)
  exact⟨u,by simpa using n,g⟩
theorem Vals.set{x:V}{u:ay}(r:RelV x u):∀{xs:List V}{us:W9}(i:Nat),Vals xs us->Vals (xs.set i x) (us.set i u)
 |_,_,_,.nil=>.nil
 |_,_,0,.cons _ t=>.cons r t
 |_,_,i+1,.cons q t=>.cons q (Vals.set r i t)
theorem Vals.append:∀{xs ys:List V}{us g:W9},Vals xs us->Vals ys g->Vals (xs++ys) (us++g)
 |_,_,_,_,.nil,s=>s
 |_,_,_,_,.cons r t,s=>.cons r (Vals.append t s)
theorem Vals.take:∀{xs:List V}{us:W9}(n:Nat),Vals xs us->Vals (xs.take n) (us.take n)
 |_,_,0,_=>.nil
 |_,_,_+1,.nil=>.nil
 |_,_,n+1,.cons r t=>.cons r (Vals.take n t)
theorem Vals.drop:∀{xs:List V}{us:W9}(n:Nat),Vals xs us->Vals (xs.drop n) (us.drop n)
 |_,_,0,r=>r
 |_,_,_+1,.nil=>.nil
 |_,_,n+1,.cons _ t=>Vals.drop n t
def RelO:Option V->Option ay->Prop
 |some v,ap u=>RelV v u
 |none,cm=>True
 |_,_=>False
def KV{κ:Type}:List (κ×V)->List (κ×ay)->Prop:=VV λ(p:κ×V)(q:κ×ay)=>p.1=q.1/\RelV p.2 q.2
def kV:aF->V
 |.inl i=>.int i
 |.inr x=>.str x
inductive HO where
  |lst (xs:List V)
  |tup (xs:List V)
  |dK (W1:List (aF×V))|dT (W1:List (List aF×V))
  |set (S:Int->Bool) (n:Nat)
  |ins (C dx:eg) (fs:List (Str×V))
  |own (x:eg)
  |xd (fs:List (Str×V))
  |met (f x:eg)
  |rng (lo hi:Int)
  |frz (o:Obj) (u:HO)
  |tbl (ps:Xg)
  |ext (φ:hI->Prop)
abbrev Hp:=eg->Option HO
def upd(H:Hp)(a:eg)(o:HO):Hp:=λb=>if b=a then ap o else H b
theorem upd_same:upd H a o a=ap o:=by unfold upd;rw[if_pos rfl]
theorem aM(h:b≠a):upd H a o b=H b:=by unfold upd;rw[if_neg h]
theorem Mt{u:HO}(h:H a=ap o)(h':H b=ap u)(d:o≠u):a≠b:=by
 intro e;subst e;rw[h]at h';exact d (Px h')
theorem bg(h:H a=ap o)(h':H b=cm):a≠b:=by
 intro e;subst e;rw[h]at h';cases h'
section
variable(P:fx)(w:g3)
def ObjOk(H:Hp)(h:hI)(a:eg):HO->Prop
 |.lst xs=>xs.length<=sizeLine/\∃(W5:W9)(n:Nat),Vals xs W5/\h.get? a=ap { cls:=.type "list",data:=.seq W5.toArray n }
 |.tup xs=>xs.length<=sizeLine/\∃W5:List ay,Vals xs W5/\∃o,h.get? a=ap o/\(o.cls=.type "tuple"/\∃n,o.data=.seq W5.toArray n)/\o.dict=cm
 |.dK W1=>W1.length<=sizeLine/\(a==Op)=eC/\∃vs,KV W1 vs/\h.DictOf (aV P w) a vs
 |.dT W1=>W1.length<=sizeLine/\(a==Op)=eC/\∃xs:List (List aF×eg×ay),
   VV (λ(p:List aF×V)(q:List aF×eg×ay)=>p.1=q.1/\H q.2.1=ap (.tup<|p.1.map kV)/\RelV p.2 q.2.2) W1 xs/\
   ∃o es ep,h.get? a=ap o/\o.ExactDict/\o.data=.dict es ep/\es.toList=xs.map (entryOfKey<|tupleKind<|aV P w)/\(xs.map (·.1)).Nodup
 |.set S n=>h.SetOf (intKind P w) a S n
 |.ins C dx fs=>H dx=ap (.own a)/\fs.length<=1000/\dx≠a/\h.get? a=ap (RM C dx)/\
   ∃mA,h.Ns1 dx mA/\(∀f,RelO (fs.lookup f) (mA f))/\T5 mA (fs.map (·.1))
 |.own _=>∃o,h.get? a=ap o
 |.xd fs=>∃mA,h.Ns1 a mA/\∀f,RelO (fs.lookup f) (mA f)
 |.rng lo hi=>∃t u v,h.get? a=ap { cls:=.type "range",data:=.fields #[.int lo t,.int hi u,.int 1 v] }
 |.frz o u=>h.get? a=ap o/\ObjOk H h a u
 |.tbl ps=>h.get? a=ap { cls:=.none,data:=.fields ps }
 |.met f x=>h.get? a=ap (W.methodObj (.ref f)<|.ref x)
 |.ext φ=>φ h/\(∃o,h.get? a=ap o)/\∀h1 h2:hI,φ h1->(∀o,h1.get? a=ap o->h2.get? a=ap o)->φ h2
def HOk(H:Hp)(h:hI):Prop:=∀a o,H a=ap o->ObjOk P w H h a o
end
section
theorem ObjOk.lt(x:ObjOk P w H h a o):a<h.objs.size:=by
 cases o with
 |lst xs=>obtain⟨_,_,_,_,e⟩:=x;exact OC e
 |tup xs=>obtain⟨_,_,_,_,e,_⟩:=x;exact OC e
 |dK W1=>obtain⟨_,_,_,_,o,_,_,e,_⟩:=x;exact OC e
 |dT W1=>obtain⟨_,_,_,_,o,_,_,e,_⟩:=x;exact OC e
 |set S n=>obtain⟨o,_,_,_,e,_⟩:=x;exact OC e
 |ins C dx fs=>obtain⟨_,_,_,e,_⟩:=x;exact OC e
 |own y=>obtain⟨_,e⟩:=x;exact OC e
 |xd fs=>obtain⟨_,⟨_,_,_,e,_⟩,_⟩:=x;exact OC e
 |rng lo hi=>obtain⟨_,_,_,e⟩:=x;exact OC e
 |frz ob u=>obtain⟨e,_⟩:=x;exact OC e
 |tbl ps=>exact OC (show h.get? a=ap _ from x)
 |met f y=>exact OC (show h.get? a=ap _ from x)
 |ext φ=>obtain⟨_,⟨_,e⟩,_⟩:=x;exact OC e
theorem eA{α q:Type}{F G:α->q->Prop}:∀{n:List α}{g:List q},VV F n g->(∀a b,F a b->G a b)->VV G n g
 |_,_,.nil,_=>.nil
 |_,_,.cons r t,f=>.cons (f _ _ r) (eA t f)
theorem ObjOk.stay(x:ObjOk P w H h a o)(k:∀b u,(b=a\/H b=ap (.own a))->h.get? b=ap u->h'.get? b=ap u)(R:∀b,H b=ap (.own a)->H' b=ap (.own a))(O:∀b xs,H b=ap (.tup xs)->H' b=ap (.tup xs)):ObjOk P w H' h' a o:=by
 induction o with
 |lst xs=>obtain⟨z,F,n,r,e⟩:=x;exact⟨z,F,n,r,k _ _ (.inl rfl) e⟩
 |tup xs=>obtain⟨z,F,r,g,e,c⟩:=x;exact⟨z,F,r,g,k _ _ (.inl rfl) e,c⟩
 |dK W1=>obtain⟨z,y,L,r,g,es,B,e,c⟩:=x;exact⟨z,y,L,r,g,es,B,k _ _ (.inl rfl) e,c⟩
 |dT W1=>
  obtain⟨z,y,xs,r,g,es,B,e,c⟩:=x;exact⟨z,y,xs,eA r λp q z=>⟨z.1,O _ _ z.2.1,z.2.2⟩,g,es,B,k _ _ (.inl rfl) e,c⟩
 |set S n=>obtain⟨g,es,B,t,e,c⟩:=x;exact⟨g,es,B,t,k _ _ (.inl rfl) e,c⟩
 |ins C dx fs=>
  obtain⟨d,z,ne,e,mA,⟨G,es,B,J,c⟩,r⟩:=x;exact⟨R _ d,z,ne,k _ _ (.inl rfl) e,mA,⟨G,es,B,k _ _ (.inr d) J,c⟩,r⟩
 |own y=>obtain⟨g,e⟩:=x;exact⟨g,k _ _ (.inl rfl) e⟩
 |xd fs=>obtain⟨mA,⟨G,es,B,e,c⟩,r⟩:=x;exact⟨mA,⟨G,es,B,k _ _ (.inl rfl) e,c⟩,r⟩
 |rng lo hi=>obtain⟨t,u,v,e⟩:=x;exact⟨t,u,v,k _ _ (.inl rfl) e⟩
 |frz g u ih=>obtain⟨e,q⟩:=x;exact⟨k _ _ (.inl rfl) e,ih q⟩
 |tbl ps=>
  have e:h.get? a=ap { cls:=.none,data:=.fields ps }:=x;show h'.get? a=ap { cls:=.none,data:=.fields ps };exact k a _ (.inl rfl) e
 |met f y=>
  have e:h.get? a=ap (W.methodObj (.ref f)<|.ref y):=x;show h'.get? a=ap (W.methodObj (.ref f)<|.ref y);exact k a _ (.inl rfl) e
 |ext φ=>obtain⟨p,⟨o,e⟩,I⟩:=x;exact⟨I _ _ p λo q=>k _ _ (.inl rfl) q,⟨o,k _ _ (.inl rfl) e⟩,I⟩
theorem HOk.lt(x:HOk P w H h)(e:H a=ap o):a<h.objs.size:=(x a o e).lt
theorem HOk.fresh(x:HOk P w H h)(e:h.objs.size<=a):H a=none:=by
 cases q:H a with
 |none=>rfl
 |some u=>exact absurd (OA (x.lt q) e) (PC _)
theorem HOk.kept(x:HOk P w H h)(k:∀b u,h.get? b=ap u->h'.get? b=ap u):HOk P w H h':=λa o e=>
 (x a o e).stay (λb u _ q=>k b u q) (λ_ q=>q) λ_ _ q=>q
theorem HOk.laid(x:HOk P w H h)(k:∀b u,h.get? b=ap u->h'.get? b=ap u)(y:h.objs.size<=a)(new:ObjOk P w (upd H a o) h' a o):HOk P w (upd H a o) h':=λb u e=>by
 have g:=x.fresh y
 by_cases n:b=a
 .subst n;rw[upd_same]at e;cases e;exact new
 .rw[aM n]at e
  exact(x b u e).stay (λc v _ q=>k c v q) (λc q=>by rw[aM (bg q g)];exact q) λc z q=>by rw[aM (bg q g)];exact q
end
def Rd(H:Hp)(a:eg)(u:HO):Prop:=H a=ap u\/∃o,H a=ap (.frz o u)
theorem Rd.ok{u:HO}(r:Rd H a u)(x:HOk P w H h):ObjOk P w H h a u:=by
 rcases r with r|⟨o,r⟩
 .exact x a u r
 .obtain⟨_,q⟩:=x a _ r
  exact q
def NB:Option HO->Prop
 |some (.lst _)=>True
 |some (.dK _)=>True
 |some (.dT _)=>True
 |some (.set _ _)=>True
 |some (.ins _ _ _)=>True
 |some (.ext _)=>True
 |_=>False
section
variable{x e:eg}{o':HO}
theorem HOk.write(ok:HOk P w H h)(I:NB (H x))(O:e=x\/H e=ap (.own x))(k:∀b u,b≠e->h.get? b=ap u->h'.get? b=ap u)(J:∃u,h'.get? e=ap u)(new:ObjOk P w (upd H x o') h' x o'):HOk P w (upd H x o') h':=λb u q=>by
 have n:∀c y,H c=ap (.own y)->c≠x:=λc y r z=>by subst z;rw[r]at I;exact I
 have B:∀c F,H c=ap (.tup F)->c≠x:=λc F r z=>by subst z;rw[r]at I;exact I
 by_cases G:b=x
 .subst G;rw[upd_same]at q;cases q;exact new
 .rw[aM G]at q
  by_cases g:b=e
  .have L:H b=ap (.own x):=by
    rcases O with z|z
    .exact absurd (g.trans z) G
    .rw[g];exact z
   rw[q]at L;cases L;obtain⟨v,R⟩:=J;exact⟨v,by rw[g];exact R⟩
  .refine (ok b u q).stay (λc v hc r=>k c v ?_ r) (λc r=>by rw[aM (n c b r)];exact r) λc F r=>by rw[aM (B c F r)];exact r
   rcases hc with rfl|hc
   .exact g
   .rintro rfl
    rcases O with z|z
    .exact n c b hc z
    .rw[hc]at z;cases z;exact G rfl
end
structure Un(fs ex:Xa)(H H':Hp)(h h':hI):Prop where
 keep:∀b o,h.get? b=ap o->H b=cm->b∉fs->b∉ex->h'.get? b=ap o
 slot:∀b o,h.get? b=ap o->H b=cm->b∈fs->b∉ex->∃sl,h'.get? b=ap { o with slots:=sl }
 free:∀b o,h.get? b=ap o->H b=cm->b∉ex->H' b=cm
 there:∀b o,h.get? b=ap o->b∉ex->∃o',h'.get? b=ap o'
 tups:∀b xs,H b=ap (.tup xs)->H' b=ap (.tup xs)
 frzs:∀b o u,H b=ap (.frz o u)->H' b=ap (.frz o u)
 tbls:∀b ps,H b=ap (.tbl ps)->∃more,H' b=ap (.tbl (ps++more))
section
variable{fs fs' ex ex':Xa}{H1 H2:Hp}{h1 h2:hI}{x e:eg}
theorem Un.any(u:Un fs ex H H1 h h1){g:Obj}(q:h.get? b=ap g)(n:H b=cm)(y:b∉ex):∃z,h1.get? b=ap { g with slots:=z }:=by
 by_cases v:b∈fs
 .exact u.slot b g q n v y
 .exact⟨g.slots,u.keep b g q n v y⟩
theorem Un.kept(k:∀b u,h.get? b=ap u->h'.get? b=ap u):Un fs ex H H h h':=
 ⟨λb g q _ _ _=>k b g q,λb g q _ _ _=>⟨g.slots,k b g q⟩,λ_ _ _ n _=>n,λb g q _=>⟨g,k b g q⟩,λ_ _ q=>q,λ_ _ _ q=>q,λ_ ps q=>⟨#[],by rw[q];simp⟩⟩
theorem Un.refl:Un fs ex H H h h:=Un.kept λ_ _ q=>q
theorem Un.laid(k:∀b u,h.get? b=ap u->h'.get? b=ap u)(y:h.objs.size<=a)(g:H a=cm):Un fs ex H (upd H a o) h h' where
 keep:=λb u q _ _ _=>k b u q
 slot:=λb u q _ _ _=>⟨u.slots,k b u q⟩
 free:=λb u q n _=>by rw[aM (ON<|OA (OC q) y)];exact n
 there:=λb u q _=>⟨u,k b u q⟩
 tups:=λb v q=>by rw[aM (bg q g)];exact q
 frzs:=λb u v q=>by rw[aM (bg q g)];exact q
 tbls:=λb ps q=>⟨#[],by rw[aM (bg q g),q];simp⟩
theorem Un.write(v:NB (H x))(J:e=x\/H e=ap (.own x))(k:∀b u,b≠e->h.get? b=ap u->h'.get? b=ap u)(B:∃u,h'.get? e=ap u):Un fs ex H (upd H x o) h h':=by
 have F:∀b,H b=cm->b≠x:=λb n z=>by subst z;rw[n]at v;exact v
 have G:∀b,H b=cm->b≠e:=λb n z=>by
  subst z;rcases J with r|r
  .exact F b n r
  .rw[n]at r;cases r
 have y:∀b u,H b=ap u->¬NB (ap u)->b≠x:=λb u q nm z=>by subst z;rw[q]at v;exact nm v
 refine⟨λb u q n _ _=>k b u (G b n) q,λb u q n _ _=>⟨u.slots,k b u (G b n) q⟩,λb u q n _=>by rw[aM (F b n)];exact n,λb u q _=>?_,
  λb I q=>by rw[aM (y b _ q λz=>z)];exact q,λb u I q=>by rw[aM (y b _ q λz=>z)];exact q,λb ps q=>⟨#[],by rw[aM (y b _ q λz=>z),q];simp⟩⟩
 by_cases g:b=e
 .subst g;exact B
 .exact⟨u,k b u g q⟩
end
def trk(h:hI)(H:Hp):List Addr:=(Pe h.objs.size).filter λa=>(H a).isSome
def rN(h:hI)(H:Hp):Heap:=Tj h (trk h H)
theorem zq(h:hI)(H:Hp):(rN h H).objs.size=h.objs.size:=W.hideAll_size _ _
theorem AF{o:Obj}(e:h.get? b=ap o)(n:H b=cm):(rN h H).get? b=ap o:=
 W.hideAll_get _ e λg=>by
  have q:(H b).isSome=true:=(Ox.mp g).2;rw[n]at q;simp at q
theorem Fz{o:Obj}(e:(rN h H).get? b=ap o):h.get? b=ap o/\H b=none:=by
 have g:h.get? b=ap o:=W.of_hideAll (trk h H) e;refine⟨g,?_⟩;cases q:H b with
 |none=>rfl
 |some x=>
  have n:b∈trk h H:=Ox.mpr ⟨P2.mpr (OC g),by simp[q]⟩
  have z:(rN h H).get? b=none:=W.hideAll_none (trk h H) n;rw[z]at e;cases e
structure Mod(K:Ow)(mg:Xf)(base:hI):Prop where
 kin:K.In base
 glob:base.Ns fv mg
 blt:∃mb,base.Ns Wp mb/\∀x:Str,x≠"__name__"->mb x=gl x
 nolimit:base.NoLimit
structure Cx where
 prog:fx
 w:g3
 K:Ow
 mg:Str->Option ay
 base:hI
 A:ix
 N:List Str
 s₀:el
 H₀:Hp
 env:Env
 outer:List Env
 stack:List Env
 ex:List eg
 fn:Str->Bool
 calm:Bool
 pn:List (eg×Obj)
 xe:ay->el->Prop
def gK(l:List Env):List Addr:=l.filterMap (·.frame)
abbrev Cx.fs(X:Cx):List Addr:=gK X.outer
def Lw(sc:z4)(x:Str):Prop:=sc.names.lookup x=ap .local\/sc.names.lookup x=ap .cell\/sc.names.lookup x=ap .free
def Ap(sc:z4)(x:Str):Prop:=sc.names.lookup x=ap .local\/sc.names.lookup x=ap .cell
def Look(env:Env)(h:hI)(m:Xf)(x:Str)(u:ay):Prop:=
 (env.kindOf x=ap .local/\m x=ap u)\/((env.kindOf x=ap .cell\/env.kindOf x=ap .free)/\∃c,env.cells.lookup x=ap c/\h.IsCell c (ap u))
structure Cx.Ok(X:Cx):Prop where
 mod:Mod X.K X.mg X.base
 kind:X.env.scope.kind=.function
 glob:X.env.globals=fv
 blt:X.env.builtins=Wp
 above:X.s₀.heap.objs.size<=X.env.locals
 inj:∀x y c,X.env.cells.lookup x=ap c->X.env.cells.lookup y=ap c->x=y
 has:∀x,(X.env.kindOf x=ap .cell\/X.env.kindOf x=ap .free)->∃c,X.env.cells.lookup x=ap c
 cab:∀x c,X.fn x=true->X.env.cells.lookup x=ap c->X.s₀.heap.objs.size<=c
 hd:X.calm=true->X.A.handled=cm
 frames:X.A.frames=ap X.stack
 stk:X.stack=X.outer\/(X.stack=X.env::X.outer/\X.env.frame=ap X.env.locals)
 exf:∀b∈X.ex,b≠X.env.locals/\∀x c,X.env.cells.lookup x=ap c->c≠b
 bs:∀b o,X.base.get? b=ap o->X.s₀.heap.get? b=ap o/\X.H₀ b=cm
 bsz:X.base.objs.size<=X.s₀.heap.objs.size
 noex:∀b o,X.base.get? b=ap o->b∉X.ex
 exfs:∀b∈X.ex,b∉X.fs
 funs:X.s₀.heap.FunFrames X.base X.outer
 frf:∀b∈X.fs,X.H₀ b=cm
structure Inv(X:Cx)(WZ:Xe)(Z:List (Option V))(H:Hp)(s:el):Prop where
 ok:X.Ok
 os:s.os=X.s₀.os
 bare:Uf s.gens
 base:Un X.fs X.ex X.H₀ H X.s₀.heap s.heap
 loc:∃m,s.heap.Ns X.env.locals m/\∀(i:Nat)(x:Str)(v:V),X.N[i]?=ap x->Z[i]?=ap (ap v)->Lw X.env.scope x->∃u,RelV v u/\Look X.env s.heap m x u
 cell:∀x c,X.env.cells.lookup x=ap c->∃v,s.heap.IsCell c v
 free:H X.env.locals=cm
 freeC:∀x c,X.env.cells.lookup x=ap c->H c=cm
 pin:∀p∈X.pn++WZ,s.heap.get? p.1=ap p.2/\H p.1=cm/\p.1≠X.env.locals/\p.1∉X.fs/\∀v,p.2.data≠.cell v
 hok:HOk X.prog X.w H s.heap
 len:Z.length=X.N.length
section
variable{Z:List (Option V)}
theorem Cx.Ok.nofr(ok:X.Ok){o:Obj}(e:X.base.get? b=ap o):b∉X.fs:=λg=>by
 have:=(ok.funs.mem g).1;rw[e]at this;cases this
theorem Inv.bs(I:Inv X WZ Z H s):∀b o,X.base.get? b=ap o->s.heap.get? b=ap o/\H b=none:=λb o e=>
 ⟨I.base.keep b o (I.ok.bs b o e).1 (I.ok.bs b o e).2 (I.ok.nofr e) (I.ok.noex b o e),I.base.free b o (I.ok.bs b o e).1 (I.ok.bs b o e).2<|I.ok.noex b o e⟩
theorem Inv.bk(I:Inv X WZ Z H s):∀b o,X.base.get? b=ap o->s.heap.get? b=ap o:=λb o e=>(I.bs b o e).1
theorem Inv.mod(I:Inv X WZ Z H s):Mod X.K X.mg X.base:=I.ok.mod
theorem Inv.kIn(I:Inv X WZ Z H s):X.K.In s.heap:=I.ok.mod.kin.keeps I.bk
theorem Inv.lt(I:Inv X WZ Z H s):X.env.locals<s.heap.objs.size:=let ⟨_,hn,_⟩:=I.loc;hn.lt
theorem Inv.sz(I:Inv X WZ Z H s):X.s₀.heap.objs.size<=s.heap.objs.size:=OQ I.ok.above (UB I.lt)
theorem Inv.nofs(I:Inv X WZ Z H s)(h:s.heap.objs.size<=a):a∉X.fs:=λn=>by
 obtain⟨_,o,g,_⟩:=I.ok.funs.mem n;exact absurd (OA (OC g)<|OQ I.sz h) (PC _)
theorem Inv.cne(I:Inv X WZ Z H s):∀x c,X.env.cells.lookup x=ap c->c≠X.env.locals:=λx c e z=>by
 obtain⟨v,o,y,q⟩:=I.cell x c e;obtain⟨m,⟨F,es,B,n,g,_⟩,_⟩:=I.loc;rw[z,n]at y;cases y;rw[g]at q;cases q
theorem Inv.funs(I:Inv X WZ Z H s):s.heap.FunFrames X.base X.outer:=by
 have all:∀(l:List Env),(∀b∈gK l,b∈X.fs)->X.s₀.heap.FunFrames X.base l->s.heap.FunFrames X.base l:=by
  intro l
  induction l with
  |nil=>intro _ _;trivial
  |cons env r ih=>
   intro v J;obtain⟨G,⟨L,o,q,O,y,F⟩,B⟩:=J;have g:L∈X.fs:=v L (by unfold gK;rw[Ql,q];exact OL)
   obtain⟨R,e⟩:=I.base.slot L o y (I.ok.frf L g) g λz=>I.ok.exfs L z g;exact⟨G,⟨L,_,q,O,e,F⟩,ih (λb n=>v b (by unfold gK;rw[Ql,q];exact OE _ n)) B⟩
 exact all X.outer (λ_ n=>n) I.ok.funs
theorem Inv.stack(I:Inv X WZ Z H s):s.heap.FunFrames X.base X.stack:=by
 rcases I.ok.stk with e|⟨e,hf⟩
 .rw[e];exact I.funs
 .rw[e]
  obtain⟨m,g,_⟩:=I.loc;refine .cons (by rw[I.ok.kind];decide) hf g ?_ I.funs
  exact Heap.get?_none_of_le (OQ I.ok.bsz I.ok.above)
theorem Inv.stkSub(I:Inv X WZ Z H s):∀b∈gK X.stack,b∈X.env.locals::X.fs:=λb g=>by
 rcases I.ok.stk with e|⟨e,hf⟩
 .rw[e]at g;exact OE _ g
 .rw[e]at g
  unfold gK at g;rw[Ql,hf]at g;exact g
theorem Inv.stkFree(I:Inv X WZ Z H s):∀b∈gK X.stack,H b=none:=λb hb=>by
 rcases OM.mp (I.stkSub b hb) with e|hb
 .rw[e];exact I.free
 .obtain⟨_,o,g,_⟩:=I.ok.funs.mem hb
  exact I.base.free b o g (I.ok.frf b hb) λz=>I.ok.exfs b z hb
theorem Inv.step{g':Array GenState}{t':Nat}{d':Drawn}(I:Inv X WZ Z H s)(F:∀b∈ch,(b∈X.ex\/X.s₀.heap.objs.size<=b)/\b≠X.env.locals/\(∀x c,X.env.cells.lookup x=ap c->c≠b)/\∀p∈X.pn++WZ,p.1≠b)(keep:∀b o,b≠X.env.locals->b∉X.fs->b∉ch->s.heap.get? b=ap o->H b=cm->h'.get? b=ap o)(slot:∀b o,b≠X.env.locals->b∈X.fs->b∉ch->s.heap.get? b=ap o->H b=cm->∃sl,h'.get? b=ap { o with slots:=sl })(free:∀b o,b∉ch->s.heap.get? b=ap o->H b=cm->H' b=cm)(there:∀b o,b∉ch->s.heap.get? b=ap o->∃U,h'.get? b=ap U)(tups:∀b L,H b=ap (.tup L)->H' b=ap (.tup L))(frzs:∀b o u,H b=ap (.frz o u)->H' b=ap (.frz o u))(tbls:∀b ps,H b=ap (.tbl ps)->∃more,H' b=ap (.tbl (ps++more)))(ns:∀m,s.heap.Ns X.env.locals m->h'.Ns X.env.locals m)(hok:HOk X.prog X.w H' h')(hg:Uf g'):
  Inv X WZ Z H' { s with heap:=h',gens:=g',drawn:=d',toks:=t' }:=by
 have T:∀b o,X.s₀.heap.get? b=ap o->b≠X.env.locals:=λb o e=>ON (OA (OC e) I.ok.above);have J:∀b o,X.s₀.heap.get? b=ap o->b∉X.ex->b∉ch:=λb o e g O=>by
  rcases (F b O).1 with z|z
  .exact g z
  .exact absurd (OA (OC e) z) (PC _)
 have y:∀x c,X.env.cells.lookup x=ap c->∀v,s.heap.IsCell c v->h'.IsCell c v:=λx c e v ⟨o,R,W⟩=>by
  have B:c∉ch:=λz=>(F c z).2.2.1 x c e rfl
  by_cases hc:c∈X.fs
  .obtain⟨sl,q⟩:=slot c o (I.cne x c e) hc B R (I.freeC x c e)
   exact⟨_,q,W⟩
  .exact⟨o,keep c o (I.cne x c e) hc B R (I.freeC x c e),W⟩
 refine⟨I.ok,I.os,hg,⟨λb o e n O g=>?_,λb o e n O g=>?_,λb o e n g=>?_,λb o e g=>?_,λb L e=>tups b L (I.base.tups b L e),λb o L e=>frzs b o L (I.base.frzs b o L e),λb ps e=>?_⟩,?_,λx c e=>?_,?_,λx c e=>?_,λp hp=>?_,hok,I.len⟩
 .exact keep b o (T b o e) O (J b o e g) (I.base.keep b o e n O g) (I.base.free b o e n g)
 .obtain⟨sl,G⟩:=I.base.slot b o e n O g
  obtain⟨Y,S⟩:=slot b _ (T b o e) O (J b o e g) G (I.base.free b o e n g);exact⟨Y,S⟩
 .obtain⟨U,G⟩:=I.base.there b o e g
  exact free b U (J b o e g) G (I.base.free b o e n g)
 .obtain⟨U,G⟩:=I.base.there b o e g
  exact there b U (J b o e g) G
 .obtain⟨m1,G⟩:=I.base.tbls b ps e
  obtain⟨m2,S⟩:=tbls b _ G;exact⟨m1++m2,by rw[S,QX]⟩
 .obtain⟨m,hn,hl⟩:=I.loc
  refine⟨m,ns m hn,λi x v G S e3=>?_⟩;obtain⟨u,r,l⟩:=hl i x v G S e3;refine⟨u,r,?_⟩;rcases l with l|⟨k,c,e,z⟩
  .exact .inl l
  .exact .inr ⟨k,c,e,y x c e _ z⟩
 .obtain⟨v,z⟩:=I.cell x c e
  exact⟨v,y x c e v z⟩
 .obtain⟨m,⟨o,_,_,R,_⟩,_⟩:=I.loc
  exact free _ o (λz=>(F _ z).2.1 rfl) R I.free
 .obtain⟨v,o,R,W⟩:=I.cell x c e
  exact free c o (λz=>(F c z).2.2.1 x c e rfl) R (I.freeC x c e)
 .obtain⟨e,n,ne,nf,d⟩:=I.pin p hp
  have B:p.1∉ch:=λz=>(F p.1 z).2.2.2 p hp rfl;exact⟨keep p.1 p.2 ne nf B e n,free p.1 p.2 B e n,ne,nf,d⟩
theorem Inv.un{t':Nat}(I:Inv X WZ Z H s)(u:Un X.fs [] H H' s.heap h')(B:HOk X.prog X.w H' h'):Inv X WZ Z H' { s with heap:=h',toks:=t' }:=by
 obtain⟨m,⟨o,es,R,F,r⟩,_⟩:=id I.loc;obtain⟨T,J⟩:=u.any F I.free (by simp)
 exact I.step (g':=s.gens) (d':=s.drawn) (ch:=[]) (λ_ z=>nomatch z) (λb o _ v _ e n=>u.keep b o e n v (by simp)) (λb o _ v _ e n=>u.slot b o e n v (by simp)) (λb o _ e n=>u.free b o e n (by simp)) (λb o _ e=>u.there b o e (by simp)) u.tups u.frzs u.tbls (λO L=>by
  obtain⟨S,q,y,g,G⟩:=L;rw[F]at g;cases g;exact⟨_,q,y,J,G⟩) B I.bare
theorem Inv.call{g':Array GenState}{t':Nat}{d':Drawn}(I:Inv X WZ Z H s)(u:Un (gK X.stack) ch H H' s.heap h')(G:HOk X.prog X.w H' h')(S:Uf g')(v:∀b∈ch,(b∈X.ex\/X.s₀.heap.objs.size<=b)/\b≠X.env.locals/\(∀x c,X.env.cells.lookup x=ap c->c≠b)/\∀p∈X.pn++WZ,p.1≠b):
  Inv X WZ Z H' { s with heap:=h',gens:=g',drawn:=d',toks:=t' }:=by
 obtain⟨m,⟨o,es,U,J,r⟩,_⟩:=id I.loc;obtain⟨Y,B⟩:=u.any J I.free λz=>(v _ z).2.1 rfl;exact I.step (ch:=ch) v (λb o B R g e n=>u.keep b o e n (λz=>(OM.mp<|I.stkSub b z).elim B R) g) (λb o _ _ g e n=>u.any e n g) (λb o g e n=>u.free b o e n g) (λb o g e=>u.there b o e g) u.tups u.frzs u.tbls (λT O=>by
  obtain⟨W,y,F,q,L⟩:=O;rw[J]at q;cases q;exact⟨_,y,F,B,L⟩) G S
theorem Inv.turned{t':Nat}{it:eg}(I:Inv X WZ Z H s)(k:∀b o,b≠it->s.heap.get? b=ap o->h'.get? b=ap o)(S:H it=cm)(B:it≠X.env.locals)(R:it∈X.ex\/X.s₀.heap.objs.size<=it)(T:∀x c,X.env.cells.lookup x=ap c->c≠it)(O:∀p∈X.pn++WZ,p.1≠it):Inv X WZ Z H { s with heap:=h',toks:=t' }:=by
 have y:∀b u,H b=ap u->b≠it:=λb u e z=>by rw[z,S]at e;cases e
 refine I.step (g':=s.gens) (d':=s.drawn) (ch:=[it]) (λb L=>?_) (λb o _ _ g e _=>k b o (λz=>g (by simp[z])) e) (λb o _ _ g e _=>⟨o.slots,k b o (λz=>g (by simp[z])) e⟩) (λ_ _ _ _ n=>n)
  (λb o g e=>⟨o,k b o (λz=>g (by simp[z])) e⟩) (λ_ _ e=>e) (λ_ _ _ e=>e) (λb ps e=>⟨#[],by rw[e];simp⟩) (λm J=>?_) (λb u e=>?_) I.bare
 .have e:b=it:=by simpa using L
  subst e;exact⟨R,B,T,O⟩
 .obtain⟨o,es,G,F,r⟩:=J
  exact⟨o,es,G,k _ o (OW B) F,r⟩
 .refine (I.hok b u e).stay (λc v g q=>k c v ?_ q) (λ_ q=>q) λ_ _ q=>q
  rcases g with z|z
  .rw[z];exact y b u e
  .exact y c _ z
theorem Inv.tok(I:Inv X WZ Z H s)(t:Nat):Inv X WZ Z H { s with toks:=t }:=I.un (h':=s.heap) (t':=t) Un.refl I.hok
theorem Inv.kept{t':Nat}(I:Inv X WZ Z H s)(k:∀b u,s.heap.get? b=ap u->h'.get? b=ap u):Inv X WZ Z H { s with heap:=h',toks:=t' }:=I.un (Un.kept k) (I.hok.kept k)
theorem Inv.laid{t':Nat}(I:Inv X WZ Z H s)(k:∀b u,s.heap.get? b=ap u->h'.get? b=ap u)(g:s.heap.objs.size<=a)(new:ObjOk X.prog X.w (upd H a o) h' a o):
  Inv X WZ Z (upd H a o) { s with heap:=h',toks:=t' }:=I.un (Un.laid k g<|I.hok.fresh g) (I.hok.laid k g new)
theorem Inv.write{x e:eg}{t':Nat}(I:Inv X WZ Z H s)(n:NB (H x))(q:e=x\/H e=ap (.own x))(k:∀b u,b≠e->s.heap.get? b=ap u->h'.get? b=ap u)(g:∃u,h'.get? e=ap u)(new:ObjOk X.prog X.w (upd H x o) h' x o):Inv X WZ Z (upd H x o) { s with heap:=h',toks:=t' }:=I.un (Un.write n q k g) (I.hok.write n q k g new)
theorem Inv.pins_of{g:Xe}(I:Inv X WZ Z H s)(h:∀p∈g,s.heap.get? p.1=ap p.2/\H p.1=cm/\p.1≠X.env.locals/\p.1∉X.fs/\∀v,p.2.data≠.cell v):Inv X g Z H s:=
 ⟨I.ok,I.os,I.bare,I.base,I.loc,I.cell,I.free,I.freeC,λp n=>(Pc.mp n).elim (λz=>I.pin p (Sk _ z)) (h p),I.hok,I.len⟩
theorem uz(q:N.Nodup)(a:N[i]?=ap x)(b:N[j]?=ap x):i=j:=by
 obtain⟨y,n⟩:=Qc.mp a;obtain⟨v,g⟩:=Qc.mp b;exact(List.getElem_inj q).mp (n.trans g.symm)
theorem o5{v:V}{Q:Unit->el->Prop}(I:Inv X WZ Z H s)(hN:X.N.Nodup)(hi:X.N[i]?=ap x)(G:Ap X.env.scope x)(r:RelV v u)(h:∀s',Inv X WZ (Z.set i<|some v) H s'->(∃a,Qt a s.heap s'.heap/\(a=X.env.locals\/X.env.cells.lookup x=ap a))->Q () s')(hf:X.fn x=true\/X.env.scope.names.lookup x=ap .local:=by first|exact .inl rfl|exact .inr rfl|assumption):eH M A (storeName X.env x u) Q E s:=by
 obtain⟨m,hn,hl⟩:=id I.loc;have hcls:(X.env.scope.kind==.class||(X.env.scope.kind==.module&&X.env.locals != X.env.globals))=false:=by rw[I.ok.kind];rfl
 have O:i<Z.length:=by rw[I.len];exact(Qc.mp hi).1
 have cne:=I.cne;have F:∀{a:eg}{h':hI},(∃o,s.heap.get? a=ap o/\H a=cm)->Qt a s.heap h'->HOk X.prog X.w H h':=λ{a h'} ha g b ob e=>by
  obtain⟨_,_,J⟩:=ha;refine (I.hok b ob e).stay (λc w' hc q=>(g.2 c ?_).trans q) (λ_ q=>q) λ_ _ q=>q
  rintro rfl
  rcases hc with rfl|hc
  .rw[J]at e;cases e
  .rw[J]at hc;cases hc
 rcases G with hk|hk
 .refine wpAny_storeName_local hk hn (λh' hn' g=>?_) hcls
  obtain⟨oL,_,_,hoL,_⟩:=id hn;refine h _ ⟨I.ok,I.os,I.bare,⟨λb o e n R G=>?_,λb o e n R G=>?_,I.base.free,λb o e G=>?_,I.base.tups,I.base.frzs,I.base.tbls⟩,⟨_,hn',λj y v' B L e3=>?_⟩,λy c e=>?_,I.free,I.freeC,λp hp=>?_,F ⟨oL,hoL,I.free⟩ g,by simpa using I.len⟩ ⟨_,g,.inl rfl⟩
  .exact(g.2 b<|ON<|OA (OC e) I.ok.above).trans (I.base.keep b o e n R G)
  .obtain⟨sl,B⟩:=I.base.slot b o e n R G
   exact⟨sl,(g.2 b<|ON<|OA (OC e) I.ok.above).trans B⟩
  .obtain⟨o',B⟩:=I.base.there b o e G
   exact⟨o',(g.2 b<|ON<|OA (OC e) I.ok.above).trans B⟩
  .by_cases S:j=i
   .subst S
    rw[hi]at B;cases B;rw[Ur O]at L;cases L;exact⟨u,r,.inl ⟨hk,by simp⟩⟩
   .rw[UI (OW S)]at L
    obtain⟨u',r',q⟩:=hl j y v' B L e3;refine⟨u',r',?_⟩;rcases q with⟨k,e⟩|⟨k,c,e,z⟩
    .refine .inl ⟨k,?_⟩
     have:y≠x:=λe=>S (uz hN B (e▸hi));simp[this,e]
    .exact .inr ⟨k,c,e,z.sameBut g<|cne y c e⟩
  .obtain⟨w',z⟩:=I.cell y c e
   exact⟨w',z.sameBut g<|cne y c e⟩
  .obtain⟨e,n,ne,nf,d⟩:=I.pin p hp
   exact⟨(g.2 p.1 ne).trans e,n,ne,nf,d⟩
 .have T:X.fn x=true:=by
   rcases hf with z|z
   .exact z
   .rw[z]at hk;cases hk
  obtain⟨c,hc⟩:=I.ok.has x (.inl hk);obtain⟨w',z⟩:=I.cell x c hc;refine wpAny_storeName_cell I.ok.kind hk hc z (λh' W g=>?_);obtain⟨oc,Y,U⟩:=id z;refine h { s with heap:=h' } ⟨I.ok,I.os,I.bare,⟨λb o e n R G=>?_,λb o e n R G=>?_,I.base.free,λb o e G=>?_,I.base.tups,I.base.frzs,I.base.tbls⟩,⟨m,hn.sameBut g (OW<|cne x c hc),λj y v' B L e3=>?_⟩,λy c' e=>?_,I.free,I.freeC,λp hp=>?_,F ⟨oc,Y,I.freeC x c hc⟩ g,by simpa using I.len⟩ ⟨c,g,.inr hc⟩
  .exact(g.2 b<|ON<|OA (OC e)<|I.ok.cab x c T hc).trans (I.base.keep b o e n R G)
  .obtain⟨sl,B⟩:=I.base.slot b o e n R G
   exact⟨sl,(g.2 b<|ON<|OA (OC e)<|I.ok.cab x c T hc).trans B⟩
  .obtain⟨o',B⟩:=I.base.there b o e G
   exact⟨o',(g.2 b<|ON<|OA (OC e)<|I.ok.cab x c T hc).trans B⟩
  .by_cases S:j=i
   .subst S
    rw[hi]at B;cases B;rw[Ur O]at L;cases L;exact⟨u,r,.inr ⟨.inl hk,c,hc,W⟩⟩
   .rw[UI (OW S)]at L
    obtain⟨u',r',q⟩:=hl j y v' B L e3;refine⟨u',r',?_⟩;rcases q with q|⟨k,c',e,z'⟩
    .exact .inl q
    .refine .inr ⟨k,c',e,z'.sameBut g ?_⟩
     rintro rfl
     exact S (uz hN B (I.ok.inj _ _ _ e hc▸hi))
  .by_cases hcc:c'=c
   .subst hcc;exact⟨_,W⟩
   .obtain⟨w2,z2⟩:=I.cell y c' e
    exact⟨w2,z2.sameBut g hcc⟩
  .obtain⟨e,n,ne,nf,d⟩:=I.pin p hp
   refine⟨(g.2 p.1 ?_).trans e,n,ne,nf,d⟩;intro q;rw[q,Y]at e;have q':oc=p.2:=Px e;exact d w' (by rw[<- q'];exact U)
theorem gc{v:V}{Q:Unit->el->Prop}(I:Inv X WZ Z H s)(n:X.N.Nodup)(g:X.N[i]?=ap x)(y:Ap X.env.scope x)(r:RelV v u)(h:∀s',Inv X WZ (Z.set i<|some v) H s'->Q () s')(q:X.fn x=true\/X.env.scope.names.lookup x=ap .local:=by first|exact .inl rfl|exact .inr rfl|assumption):eH M A (storeName X.env x u) Q E s:=
 o5 I n g y r (λs' I' _=>h s' I') q
theorem Inv.call'{s':el}(I:Inv X WZ Z H s)(y:s'.os=s.os)(u:Un (gK X.stack) ch H H' s.heap s'.heap)(g:HOk X.prog X.w H' s'.heap)(v:Uf s'.gens)(n:∀b∈ch,(b∈X.ex\/X.s₀.heap.objs.size<=b)/\b≠X.env.locals/\(∀x c,X.env.cells.lookup x=ap c->c≠b)/\∀p∈X.pn++WZ,p.1≠b):Inv X WZ Z H' s':=by
 obtain⟨h',g',d',t',q⟩:=s';have e:q=s.os:=y;subst e;exact I.call (g':=g') (t':=t') (d':=d') u g v n
end
abbrev XK:=ay->Option eg->Hp->Prop
abbrev St:=List (Option V)
abbrev VK:=V->Hp->Prop
abbrev TE:=St->Hp->VK->Prop
abbrev TT:=St->Hp->(Bool->Hp->Prop)->Prop
abbrev TA:=St->Hp->(List V->Hp->Prop)->Prop
structure Ends where
 nx:St->Hp->Prop
 rt:VK
 bk:St->Hp->Prop:=λ_ _=>False
 ct:St->Hp->Prop:=λ_ _=>False
abbrev TS:=Ends->St->Hp->Prop
inductive EP(X:Cx)(WZ:Xe)(Z:St)(Q:VK)(u:ay)(s':el):Prop
 |mk (v:V) (H':Hp) (h0:Inv X WZ Z H' s') (h1:RelV v u) (h2:Q v H'):EP X WZ Z Q u s'
inductive TP(X:Cx)(WZ:Xe)(Z:St)(Q:Bool->Hp->Prop)(b:Bool)(s':el):Prop
 |mk (H':Hp) (h0:Inv X WZ Z H' s') (h1:Q b H'):TP X WZ Z Q b s'
inductive AP(X:Cx)(WZ:Xe)(Z:St)(Q:List V->Hp->Prop)(us:W9)(s':el):Prop
 |mk (vs:List V) (H':Hp) (h0:Inv X WZ Z H' s') (h1:Vals vs us) (h2:Q vs H'):AP X WZ Z Q us s'
def SP(X:Cx)(WZ:Xe)(D:Ends)(f:Flow)(s':el):Prop:=
 match f with
 |.next=>∃σ' H',Inv X WZ σ' H' s'/\D.nx σ' H'
 |.brk=>∃σ' H',Inv X WZ σ' H' s'/\D.bk σ' H'
 |.cont=>∃σ' H',Inv X WZ σ' H' s'/\D.ct σ' H'
 |.ret u=>∃v σ' H',Inv X WZ σ' H' s'/\RelV v u/\D.rt v H'
def PE(X:Cx)(e:fy)(t:TE):Prop:=
 ∀(WZ:Xe)(s:el)(Z:St)(H:Hp)(Q:VK),Inv X WZ Z H s->t Z H Q->eH (ff X.prog X.w) X.A (gp e X.env) (EP X WZ Z Q) X.xe s
def PT(X:Cx)(e:fy)(t:TT):Prop:=
 ∀(WZ:Xe)(s:el)(Z:St)(H:Hp)(Q:Bool->Hp->Prop),Inv X WZ Z H s->t Z H Q->eH (ff X.prog X.w) X.A (WK e X.env<|eval e X.env) (TP X WZ Z Q) X.xe s
def PW(X:Cx)(e:fy)(t:TT):Prop:=
 ∀(whole:Sem ay)(WZ:Xe)(s:el)(Z:St)(H:Hp)(Q:Bool->Hp->Prop),Inv X WZ Z H s->t Z H Q->eH (ff X.prog X.w) X.A (WK e X.env whole) (TP X WZ Z Q) X.xe s
theorem Om{t:TT}(h:PW X e t):PT X e t:=h _
def PA(X:Cx)(es:Xb)(t:TA):Prop:=
 ∀(pos:Pos)(WZ:Xe)(s:el)(Z:St)(H:Hp)(Q:List V->Hp->Prop),Inv X WZ Z H s->t Z H Q->eH (ff X.prog X.w) X.A (spliced<|backTo pos<|starEach es X.env) (AP X WZ Z Q) X.xe s
def PS(X:Cx)(st:rc)(t:TS):Prop:=
 ∀(WZ:Xe)(s:el)(Z:St)(H:Hp)(D:Ends),Inv X WZ Z H s->t D Z H->eH (ff X.prog X.w) X.A (exec st X.env) (SP X WZ D) X.xe s
def xC(X:Cx)(st:Xc)(t:TS):Prop:=
 ∀(WZ:Xe)(s:el)(Z:St)(H:Hp)(D:Ends),Inv X WZ Z H s->t D Z H->eH (ff X.prog X.w) X.A (execs st X.env) (SP X WZ D) X.xe s
theorem br{α:Type}{t:Sem α}{Q Q':α->el->Prop}(h:eH M A t Q E s)(g:∀a s,Q a s->Q' a s):eH M A t Q' E s:=mu h g λ_ _ x=>x
section
def tVar(i:Nat):TE:=λZ H Q=>∃v,Z[i]?=ap (ap v)/\Q v H
def tC(v:V):TE:=λ_ H Q=>Q v H
theorem KD(z:X.N[i]?=ap x)(B:Lw X.env.scope x)(g:(x==("__debug__":Str))=false:=by decide)(hcd:(x==("__classdict__":Str))=false:=by decide):PE X (.Name x pos) (tVar i):=by
 intro WZ s Z H Q I h;obtain⟨v,e,h⟩:=h;obtain⟨m,q,n⟩:=I.loc;obtain⟨u,r,l⟩:=n i x v z e B;have fin:EP X WZ Z Q u s:=⟨v,H,I,r,h⟩;rcases l with⟨hk,y⟩|⟨hk,c,hc,hcell⟩
 .exact wpAny_Name (WS I.ok.kind hk q y fin) g
 .rcases hk with hk|hk
  .exact wpAny_Name (wpAny_loadName_cell I.ok.kind hk hc hcell fin) g
  .exact wpAny_Name (wpAny_loadName_free I.ok.kind hk hc hcell fin hcd) g
theorem JV{i j pos}:PE X (.Constant (.int i) j pos) (tC<|.int i):=λ_ _ _ H _ I h=>wpAny_Constant_int ⟨.int i,H,I.tok _,⟨_,rfl⟩,h⟩
theorem O4{b j pos}:PE X (.Constant (.bool b) j pos) (tC<|.bl b):=λ_ _ _ H _ I h=>Constant_bool ⟨.bl b,H,I,rfl,h⟩
theorem HW{j pos}:PE X (.Constant .none j pos) (tC .non):=λ_ _ _ H _ I h=>Constant_none ⟨.non,H,I,rfl,h⟩
theorem BA{x j pos}:PE X (.Constant (.str x) j pos) (tC<|.str x):=λ_ _ _ H _ I h=>Calls.Constant_str ⟨.str x,H,I.tok _,⟨_,rfl⟩,h⟩
def Gl(X:Cx)(x:Str):Prop:=X.env.kindOf x=ap .globalImplicit
theorem iD(I:Inv X WZ Z H s)(q:Gl X x)(g:X.mg x=ap u)(h:Q u s)(n:(x==("__debug__":Str))=false:=by decide):eH (ff X.prog X.w) X.A (gp (.Name x pos) X.env) Q E s:=
 Tu I.ok.kind q (Calls.loadGlobal_global (by rw[I.ok.glob];exact I.mod.glob.keeps I.bk) g h) n
theorem eG(I:Inv X WZ Z H s)(v:Gl X x)(z:X.mg x=cm)(y:gl x=ap u)(h:Q u s)(q:x≠"__name__":=by decide)(hd:(x==("__debug__":Str))=false:=by decide):eH (ff X.prog X.w) X.A (gp (.Name x pos) X.env) Q E s:=by
 obtain⟨B,n,g⟩:=I.mod.blt;exact Tu I.ok.kind v (Calls.loadGlobal_builtin (by rw[I.ok.glob];exact I.mod.glob.keeps I.bk) z (by rw[I.ok.blt];exact n.keeps I.bk) ((g x q).trans y) h) hd
theorem FU{v:V}(n:Gl X x)(y:X.mg x=cm)(q:gl x=ap u)(r:RelV v u)(g:x≠"__name__":=by decide)(hd:(x==("__debug__":Str))=false:=by decide):PE X (.Name x pos) (tC v):=
 λ_ _ _ H _ I h=>eG I n y q ⟨v,H,I,r,h⟩ g hd
variable{a b:fy}
variable{tA tB':TT}{rest:Xb}
def tAnd(t u:TT):TT:=λZ H Q=>t Z H λc H1=>if c=true then u Z H1 Q else Q eC H1
def tOr(t u:TT):TT:=λZ H Q=>t Z H λc H1=>if c=true then Q true H1 else u Z H1 Q
def tNot(t:TT):TT:=λZ H Q=>t Z H λc H1=>Q (!c) H1
theorem Eo(g:PT X a tA):PW X (.BoolOp .And [a] pos) tA:=by
 intro n WZ s Z H Q I h;refine isTrue_and (br (g WZ s Z H Q I h) λc q e=>?_);cases c with
 |true=>exact isTrue_and_nil e
 |false=>exact e
theorem IV(g:PT X a tA):PW X (.BoolOp .Or [a] pos) tA:=by
 intro n WZ s Z H Q I h;refine isTrue_or (br (g WZ s Z H Q I h) λc q e=>?_);cases c with
 |false=>exact isTrue_or_nil e
 |true=>exact e
theorem JL(v:PT X a tA)(y:PW X (.BoolOp .And (b::rest) pos) tB'):PW X (.BoolOp .And (a::b::rest) pos) (tAnd tA tB'):=by
 intro n WZ s Z H Q I h;refine isTrue_and (br (v WZ s Z H _ I h) λc q ⟨H1,I1,g⟩=>?_);cases c with
 |true=>exact y n WZ q Z H1 Q I1 g
 |false=>exact⟨H1,I1,g⟩
theorem Mr(v:PT X a tA)(y:PW X (.BoolOp .Or (b::rest) pos) tB'):PW X (.BoolOp .Or (a::b::rest) pos) (tOr tA tB'):=by
 intro n WZ s Z H Q I h;refine isTrue_or (br (v WZ s Z H _ I h) λc q ⟨H1,I1,g⟩=>?_);cases c with
 |true=>exact⟨H1,I1,g⟩
 |false=>exact y n WZ q Z H1 Q I1 g
theorem KN(g:PT X a tA):PT X (.UnaryOp .Not a pos) (tNot tA):=by
 intro WZ s Z H Q I h;exact isTrue_not (mu (g WZ s Z H (λc H1=>Q (!c) H1) I h) (λc n z=>by cases z with|mk a b d=>exact⟨a,b,d⟩) λ_ _ e=>e)
def tIf(t:TT)(ta tb:TE):TE:=λZ H Q=>t Z H λc H1=>if c=true then ta Z H1 Q else tb Z H1 Q
theorem Cs(v:PT X c tA)(q:PE X a ta)(y:PE X b tb):PE X (.IfExp c a b pos) (tIf tA ta tb):=by
 intro WZ s Z H Q I h;refine wpAny_IfExp (br (v WZ s Z H _ I h) λd n ⟨H1,I1,g⟩=>?_);cases d with
 |true=>exact q WZ n Z H1 Q I1 g
 |false=>exact y WZ n Z H1 Q I1 g
end
def SqL(K:Ow)(H:Hp)(a:eg)(xs:List V):Prop:=
 Rd H a (.lst xs)\/
  ∃(o:Obj)(W5:Xg)(n:Nat),K.lookup a=ap o/\o.cls=.type "list"/\o.dict=cm/\o.data=.seq W5 n/\W5.size<=sizeLine/\Vals xs W5.toList
def i7(K:Ow)(H:Hp)(a:eg)(xs:List V):Prop:=
 Rd H a (.tup xs)\/
  ∃(o:Obj)(W5:Xg)(n:Nat),K.lookup a=ap o/\o.cls=.type "tuple"/\o.data=.seq W5 n/\W5.size<=sizeLine/\Vals xs W5.toList
def absV:ay->Option V
 |.none=>ap .non
 |.bool b=>ap (.bl b)
 |.int i _=>ap (.int i)
 |.str x _=>ap (.str x)
 |.bytes b _=>ap (.byt b)
 |.float b _=>ap (.flt b)
 |.ref a=>ap (.ref a)
 |.type n=>ap (.ty n)
 |_=>cm
theorem RelV.abs{x:V}(r:RelV x u):absV u=ap x:=by
 cases x with
 |non=>cases r;rfl
 |bl _=>cases r;rfl
 |int _=>obtain⟨t,rfl⟩:=r;rfl
 |str _=>obtain⟨t,rfl⟩:=r;rfl
 |byt _=>obtain⟨t,rfl⟩:=r;rfl
 |flt _=>obtain⟨t,rfl⟩:=r;rfl
 |ref _=>cases r;rfl
 |ty _=>cases r;rfl
theorem RelV.inj{x y:V}(r:RelV x u)(q:RelV y u):x=y:=Px (r.abs.symm.trans q.abs)
theorem Vals.inj:∀{xs ys:List V}{us:W9},Vals xs us->Vals ys us->xs=ys
 |_,_,_,.nil,.nil=>rfl
 |_,_,_,.cons r t,.cons r' t'=>by rw[r.inj r',Vals.inj t t']
section
variable{xs ys:List V}
theorem SqL.of(h:H a=ap (.lst xs)):SqL K H a xs:=.inl (.inl h)
theorem Inv.list(I:Inv X WZ Z H s)(h:SqL X.K H a xs):∃W5:List ay,Vals xs W5/\PlainL s.heap a W5.toArray/\xs.length<=sizeLine:=by
 rcases h with h|⟨o,W5,n,hk,hc,hd,hs,hz,r⟩
 .obtain⟨z,W5,n,r,e⟩:=h.ok I.hok
  exact⟨W5,r,⟨_,n,e,rfl,rfl,rfl⟩,z⟩
 .refine⟨W5.toList,r,⟨o,n,I.kIn a o hk,hc,hd,by simpa using hs⟩,?_⟩
  have e:=r.length;simp only[Rr]at e;lia
theorem Inv.tuple(I:Inv X WZ Z H s)(h:i7 X.K H a xs):∃W5:List ay,Vals xs W5/\Wg s.heap a W5.toArray/\xs.length<=sizeLine:=by
 rcases h with h|⟨o,W5,n,hk,hc,hs,hz,r⟩
 .obtain⟨z,W5,r,g,e,c,_⟩:=h.ok I.hok
  exact⟨W5,r,⟨g,e,c⟩,z⟩
 .refine⟨W5.toList,r,⟨o,I.kIn a o hk,hc,n,by simpa using hs⟩,?_⟩
  have e:=r.length;simp only[Rr]at e;lia
theorem Inv.list_inj(I:Inv X WZ Z H s)(h:SqL X.K H a xs)(h':SqL X.K H a ys):xs=ys:=by
 obtain⟨q,r,⟨o,n,e,_,_,d⟩,_⟩:=I.list h;obtain⟨g,z,⟨F,B,v,_,_,y⟩,_⟩:=I.list h';rw[e]at v;cases v;rw[d]at y
 injection y with d1 _
 have:q=g:=by simpa using congrArg Rz d1
 subst this;exact r.inj z
theorem Inv.tuple_inj(I:Inv X WZ Z H s)(h:i7 X.K H a xs)(h':i7 X.K H a ys):xs=ys:=by
 obtain⟨q,r,⟨o,e,_,n,d⟩,_⟩:=I.tuple h;obtain⟨g,z,⟨F,v,_,B,y⟩,_⟩:=I.tuple h';rw[e]at v;cases v;rw[d]at y
 injection y with d1 _
 have:q=g:=by simpa using congrArg Rz d1
 subst this;exact r.inj z
end
abbrev Cx.wish(X:Cx)(E:Xd):Cx:={ X with xe:=E }
abbrev Cx.nox(X:Cx):Cx:=X.wish λ_ _=>False
theorem Cx.Ok.wish(ok:X.Ok)(E:Xd):(X.wish E).Ok:=
 ⟨ok.mod,ok.kind,ok.glob,ok.blt,ok.above,ok.inj,ok.has,ok.cab,ok.hd,ok.frames,ok.stk,ok.exf,ok.bs,ok.bsz,ok.noex,ok.exfs,ok.funs,ok.frf⟩
theorem Cx.Ok.unwish(ok:(X.wish E).Ok):X.Ok:=
 ⟨ok.mod,ok.kind,ok.glob,ok.blt,ok.above,ok.inj,ok.has,ok.cab,ok.hd,ok.frames,ok.stk,ok.exf,ok.bs,ok.bsz,ok.noex,ok.exfs,ok.funs,ok.frf⟩
section
theorem Inv.wish(I:Inv X WZ Z H s)(E:Xd):Inv (X.wish E) WZ Z H s:=⟨I.ok.wish E,I.os,I.bare,I.base,I.loc,I.cell,I.free,I.freeC,I.pin,I.hok,I.len⟩
theorem Inv.unwish(I:Inv (X.wish E) WZ Z H s):Inv X WZ Z H s:=⟨I.ok.unwish,I.os,I.bare,I.base,I.loc,I.cell,I.free,I.freeC,I.pin,I.hok,I.len⟩
end
section
variable{st:rc}{rest:Xc}{t u:TS}
def NG:TS:=λD Z H=>D.nx Z H
def tSeq(t u:TS):TS:=λD Z H=>t { D with nx:=u D } Z H
theorem EB:xC X [] NG:=λ_ _ Z H _ I h=>Ps ⟨Z,H,I,h⟩
theorem Ct(z:PS X st t)(y:xC X rest u):xC X (st::rest) (tSeq t u):=by
 intro WZ s Z H D I h;refine Wd (br (z WZ s Z H { D with nx:=u D } I h) λf n q=>?_);cases f with
 |next=>
  obtain⟨g,H',I',q⟩:=q;exact y WZ n g H' D I' q
 |ret v=>exact q
 |brk=>exact q
 |cont=>exact q
theorem Dy(g:PS X st t):xC X [st] t:=by
 intro WZ s Z H D I h;refine Wd (br (g WZ s Z H D I h) λf n q=>?_);cases f with
 |next=>exact Ps q
 |ret v=>exact q
 |brk=>exact q
 |cont=>exact q
theorem Inv.quiet(I:Inv X WZ Z H s):interactive X.env=false:=by simp[interactive,I.ok.kind]
def Ms(te:TE):TS:=λD Z H=>te Z H λ_ H1=>D.nx Z H1
theorem Dw(q:PE X e te)(n:zt e cm pos.line X.env=pure false:=by rfl):PS X (.Expr e pos) (Ms te):=by
 intro WZ s Z H D I h;exact wpAny_Expr_any (br (q WZ s Z H _ I h) λv z ⟨x,H1,I1,y,g⟩=>⟨Z,H1,I1,g⟩) I.quiet n
def tRet(te:TE):TS:=λD Z H=>te Z H D.rt
theorem Lp(q:PE X e te):PS X (.Return (ap e) pos) (tRet te):=by
 intro WZ s Z H D I h;exact wpAny_Return_some (br (q WZ s Z H _ I h) λv y ⟨x,H1,I1,g,n⟩=>⟨x,Z,H1,I1,g,n⟩)
def tIfS(c:TT)(t u:TS):TS:=λD Z H=>c Z H λb H1=>if b=true then t D Z H1 else u D Z H1
theorem NL{a b:Xc}{q:TT}(y:PT X c q)(v:xC X a t)(z:xC X b u):PS X (.If c a b pos) (tIfS q t u):=by
 intro WZ s Z H D I h;refine wpAny_If (br (y WZ s Z H _ I h) λd n ⟨H1,I1,g⟩=>?_);cases d with
 |true=>exact v WZ n Z H1 D I1 g
 |false=>exact z WZ n Z H1 D I1 g
end
abbrev TG:=V->St->Hp->(St->Hp->Prop)->Prop
abbrev GJ:=List V->St->Hp->(St->Hp->Prop)->Prop
def PG(X:Cx)(target:fy)(t:TG):Prop:=
 ∀(WZ:Xe)(s:el)(Z:St)(H:Hp)(v:V)(u:ay)(Q:St->Hp->Prop),Inv X WZ Z H s->RelV v u->t v Z H Q->
  eH (ff X.prog X.w) X.A (V0 target X.env u) (λ_ g=>∃σ' H',Inv X WZ σ' H' g/\Q σ' H') X.xe s
def Ld(X:Cx)(ts:Xb)(t:GJ):Prop:=
 ∀(WZ:Xe)(s:el)(Z:St)(H:Hp)(vs:List V)(us:W9)(Q:St->Hp->Prop),Inv X WZ Z H s->Vals vs us->t vs Z H Q->
  eH (ff X.prog X.w) X.A (Ww ((py ts X.env).map (·.2)) us) (λ_ g=>∃σ' H',Inv X WZ σ' H' g/\Q σ' H') X.xe s
abbrev Ar:=V->V->V->Hp->(Hp->Prop)->Prop
def FQ(X:Cx)(t:Ar):Prop:=
 ∀(WZ:Xe)(s:el)(Z:St)(H:Hp)(o i v:V)(ov iv u:ay)(Q:Hp->Prop),Inv X WZ Z H s->RelV o ov->RelV i iv->RelV v u->t o i v H Q->
  eH (ff X.prog X.w) X.A (Wh ov iv u) (λ_ g=>∃H',Inv X WZ Z H' g/\Q H') X.xe s
abbrev Lr:=V->V->Hp->VK->Prop
def Bq(X:Cx)(op:VR)(t:Lr):Prop:=
 ∀(WZ:Xe)(s:el)(Z:St)(H:Hp)(x y:V)(v u:ay)(Q:VK),Inv X WZ Z H s->RelV x v->RelV y u->t x y H Q->
  eH (ff X.prog X.w) X.A (inplaceOp op v u) (EP X WZ Z Q) X.xe s
section
def Hs(i:Nat):TG:=λv Z H Q=>Q (Z.set i<|some v) H
theorem Fg(g:X.N.Nodup)(y:X.N[i]?=ap x)(q:Ap X.env.scope x)(n:X.fn x=true\/X.env.scope.names.lookup x=ap .local:=by first|exact .inl rfl|exact .inr rfl|assumption):PG X (.Name x pos) (Hs i):=by
 intro WZ s Z H v u Q I r h;exact wpAny_assign_Name (gc I g y q r (λz I'=>⟨_,H,I',h⟩) n)
def gNil:GJ:=λg Z H Q=>g=[]/\Q Z H
def LV(t:TG)(u:GJ):GJ:=λn Z H Q=>∃v r,n=v::r/\t v Z H λg H'=>u r g H' Q
theorem F6:Ld X [] gNil:=by
 intro WZ s Z H g us Q I r h;obtain⟨e,h⟩:=h;subst e;cases r;exact assignInOrder_nil ⟨Z,H,I,h⟩
theorem Bf{t:TG}{u:GJ}(F:PG X e t)(B:Ld X es u)(z:(py (e::es) X.env).map (·.2)=V0 e X.env::(py es X.env).map (·.2):=by rfl):Ld X (e::es) (LV t u):=by
 intro WZ s Z H J us Q I r h;obtain⟨v,G,n,h⟩:=h;subst n;cases r with
 |cons r rr=>
  rw[z];refine V8 (br (F WZ s Z H _ _ _ I r h) λ_ q ⟨g,H1,I1,y⟩=>?_);exact B WZ q g H1 _ _ Q I1 rr y
def gTup(K:Ow)(n:Nat)(t:GJ):TG:=λv Z H Q=>∃a xs,v=.ref a/\i7 K H a xs/\xs.length=n/\t xs Z H Q
theorem HY{k:Nat}{t:GJ}{n:Nat}(R:X.calm=true)(h:Ld X es t)(O:(py es X.env).length=n:=by rfl)(hst:(py es X.env).findIdx? (·.1)=none:=by rfl):PG X (.Tuple es k pos) (gTup X.K n t):=by
 intro WZ s Z H v u Q I r g;obtain⟨a,F,y,B,J,g⟩:=g;subst y;cases r;obtain⟨G,q,L,S⟩:=I.tuple B;refine assign_Tuple_tuple (I.ok.hd R) L (by simp[O,<- J,q.length]) hst λh' z=>?_
 have I1:Inv X WZ Z H { s with heap:=h' }:=I.kept (t':=s.toks) λb o e=>z b o (ON<|OC e) e;exact h WZ _ Z H F _ Q I1 (by simpa using q) g
def gSub(to ti:TE)(t:Ar):TG:=λv Z H Q=>to Z H λo H1=>ti Z H1 λi H2=>t o i v H2 λH3=>Q Z H3
theorem Ks{o i:fy}{to ti:TE}{t:Ar}(O:PE X o to)(R:PE X i ti)(L:FQ X t)(J:∀v,V0 (.Subscript o i pos) X.env v=(do
   let ov <- tm [v] (gp o X.env)
   let iv <- tm [v,ov] (gp i X.env)
   TD pos
   tm [v,ov,iv] (Wh ov iv v)
   release [v,ov,iv] []):=by intro _;rfl):PG X (.Subscript o i pos) (gSub to ti t):=by
 intro WZ s Z H v u Q I r h;rw[J];refine ax (n7 (br (O WZ s Z H _ I h) λov n ⟨x,H1,I1,q,z⟩=>?_));refine ax (n7 (br (R WZ n Z H1 _ I1 z) λiv F ⟨y,H2,I2,G,B⟩=>?_));refine ax (Re<|wpAny_bind<|wpAny_holding (br (L WZ F Z H2 x y v ov iv u _ I2 q G r B) λ_ S ⟨H3,I3,g⟩=>?_));exact wpAny_release ⟨Z,H3,I3,g⟩
def MT(te:TE)(g:TG):TS:=λD Z H=>te Z H λx H1=>g x Z H1 D.nx
theorem IF{g:TG}(G:PE X e te)(B:PG X tg g)(F:V4 [tg] e pos.line X.env=pure false:=by rfl)(hw:V5 [tg] e X.env=pure none:=by rfl)(h1:(py [tg] X.env).map (·.2)=[V0 tg X.env]:=by rfl):PS X (.Assign [tg] e pos) (MT te g):=by
 intro WZ s Z H D I h;refine wpAny_Assign_stores (br (G WZ s Z H _ I h) λv z ⟨x,H1,I1,n,y⟩=>?_) F hw;rw[h1];exact br (B WZ z Z H1 x v _ I1 n y) λ_ J q=>q
theorem JS(q:X.N.Nodup)(F:X.N[i]?=ap x)(z:Ap X.env.scope x)(B:PE X e te)(G:zt e (ap<|.Name x pos') pos.line X.env=pure false:=by rfl)(hf:X.fn x=true\/X.env.scope.names.lookup x=ap .local:=by first|exact .inl rfl|exact .inr rfl|assumption):
  PS X (.Assign [.Name x pos'] e pos) (MT te<|Hs i):=by
 intro WZ s Z H D I h;refine wpAny_Assign_Name (br (B WZ s Z H _ I h) λv L ⟨y,H1,I1,n,g⟩=>?_) G;exact gc I1 q F z n (λJ I2=>⟨_,H1,I2,g⟩) hf
def tPar(i j:Nat)(ta:TA):TS:=λD Z H=>ta Z H λg H1=>∃v w,g=[v,w]/\D.nx ((Z.set i<|some v).set j<|some w) H1
theorem IH{y:Str}{a b:fy}{ta:TA}{R L J:Pos}{kt k2 pt2}(hc:X.calm=true)(S:X.N.Nodup)(hi:X.N[i]?=ap x)(hj:X.N[j]?=ap y)(O:i≠j)(T:X.env.scope.names.lookup x=ap .local)(U:X.env.scope.names.lookup y=ap .local)(ha:PA X [a,b] ta)(hw:V5 [.Tuple [.Name x R,.Name y L] kt J] (.Tuple [a,b] k2 pt2) X.env=pure (ap [x,y]))(hs:V4 [.Tuple [.Name x R,.Name y L] kt J] (.Tuple [a,b] k2 pt2) pos.line X.env=pure false:=by rfl):
  PS X (.Assign [.Tuple [.Name x R,.Name y L] kt J] (.Tuple [a,b] k2 pt2) pos) (tPar i j ta):=by
 intro WZ s Z H D I h;rw[exec_Assign_arm];refine ax (Re ?_);rw[hs];refine ax (eX ?_);rw[if_neg (by decide)]
 refine ax (Tuple_ (br (ha _ WZ s Z H _ I h) λus g ⟨vs,H1,I1,r1,F⟩=>?_));obtain⟨v,w,W,F⟩:=F;subst W;obtain⟨z,n,rfl,Y,B⟩:∃z n,us=[z,n]/\RelV v z/\RelV w n:=by
  cases r1 with
  |cons p q=>
   cases q with
   |cons p' q'=>
    cases q';exact⟨_,_,rfl,p,p'⟩
 refine pa ?_ (by show 2<=sizeLine;decide)
 have I2:Inv X WZ Z H1 { g with heap:=g.heap.push { cls:=.type "tuple",data:=.seq [z,n].toArray } }:=I1.kept (t':=g.toks) λb o e=>Oq _ e;rw[hw];refine ax (eX ?_);show eH (ff X.prog X.w) X.A (do rule "assign.swapped-stores";let items <- unpackItems (.ref g.heap.objs.size) 2 cm;Ww [λv=>WY X.env y v,λv=>WY X.env x v] items.reverse;pure Flow.next) _ _ _
 refine ax (z5<|wpAny_bind (unpackItems_tuple (items:=#[z,n]) (I.ok.hd hc) (IsTup.new g.heap _) λh' G=>?_));have I3:=I2.kept (h':=h') (t':=g.toks) λb o e=>G b o (ON<|OC e) e;show eH _ _ (Ww [λv=>WY X.env y v,λv=>WY X.env x v] [n,z] >>= λ_=>pure Flow.next) _ _ _;refine ax (V8<|wpAny_bindName<|gc I3 S hj (.inl U) B (λs2 I4=>?_)<|.inr U);refine V8 (wpAny_bindName<|gc I4 S hi (.inl T) Y (λs3 I5=>assignInOrder_nil (eX ?_))<|.inr T);rw[List.set_comm _ _ (OW O)]at I5;exact⟨_,H1,I5,F⟩
def tAug(i:Nat)(te:TE)(ti:Lr):TS:=λD Z H=>∃x,Z[i]?=ap (ap x)/\te Z H λy H1=>ti x y H1 λz H2=>D.nx (Z.set i<|some z) H2
theorem Kl{ti:Lr}(Y:X.N.Nodup)(F:X.N[i]?=ap x)(B:Ap X.env.scope x)(he:PE X e te)(ho:Bq X op ti)(hf:X.fn x=true\/X.env.scope.names.lookup x=ap .local:=by first|exact .inl rfl|exact .inr rfl|assumption):
  PS X (.AugAssign (.Name x pos') op e pos) (tAug i te ti):=by
 intro WZ s Z H D I h;obtain⟨v,L,h⟩:=h;obtain⟨m,U,T⟩:=I.loc;have q:Lw X.env.scope x:=by rcases B with k|k;exact .inl k;exact .inr (.inl k)
 obtain⟨u,r,l⟩:=T i x v F L q;refine wpAny_AugAssign_Name ?_;have go:eH (ff X.prog X.w) X.A (gp e X.env) (λw n=>eH (ff X.prog X.w) X.A (inplaceOp op u w) (λr g=>eH (ff X.prog X.w) X.A (storeName X.env x r) (λ_=>SP X WZ D .next) X.xe g) X.xe n) X.xe s:=by
  refine br (he WZ s Z H _ I h) λw S ⟨y,H1,I1,G,O⟩=>?_;refine br (ho WZ S Z H1 v y u w _ I1 r G O) λz s2 ⟨zv,H2,I2,W,R⟩=>?_;exact gc I2 Y F B W (λs3 I3=>⟨_,H2,I3,R⟩) hf
 rcases l with⟨hk,J⟩|⟨hk,c,hc,hcell⟩
 .exact WS I.ok.kind hk U J go
 .rcases hk with hk|hk
  .exact wpAny_loadName_cell I.ok.kind hk hc hcell go
  .rcases B with k|k
   .have:X.env.scope.names.lookup x=ap .free:=hk
    rw[k]at this;cases this
   .have:X.env.scope.names.lookup x=ap .free:=hk
    rw[k]at this;cases this
def NK(to ti te:TE)(tget:V->V->Hp->VK->Prop)(tip:Lr)(tset:Ar):TS:=λD Z H=>to Z H λo H1=>ti Z H1 λi H2=>tget o i H2 λx H3=>te Z H3 λy H4=>tip x y H4 λz H5=>tset o i z H5 λH6=>D.nx Z H6
def MD(X:Cx)(t:V->V->Hp->VK->Prop):Prop:=
 ∀(WZ:Xe)(s:el)(Z:St)(H:Hp)(o i:V)(ov iv:ay)(Q:VK),Inv X WZ Z H s->RelV o ov->RelV i iv->t o i H Q->
  eH (ff X.prog X.w) X.A (VT ov iv) (EP X WZ Z Q) X.xe s
theorem Fq{o i:fy}{to ti:TE}{n:V->V->Hp->VK->Prop}{z:Lr}{g:Ar}{tpos:Pos}(ho:PE X o to)(hi:PE X i ti)(hg:MD X n)(he:PE X e te)(hp:Bq X op z)(hs:FQ X g)(ha:∀y q new,augStore i y q new=(do tm [new,y,q] (Wh y q new);release [new,y,q] [];pure .next):=by intros;rfl):PS X (.AugAssign (.Subscript o i tpos) op e pos) (NK to ti te n z g):=by
 intro WZ s Z H D I h;refine wpAny_AugAssign_SubscriptAny (br (ho WZ s Z H _ I h) λy s1 ⟨F,H1,I1,G,T⟩=>?_) ha;refine br (hi WZ s1 Z H1 _ I1 T) λq s2 ⟨J,H2,I2,L,q2⟩=>?_;refine br (hg WZ s2 Z H2 F J y q _ I2 G L q2) λB s3 ⟨O,H3,I3,U,q3⟩=>?_;refine br (he WZ s3 Z H3 _ I3 q3) λv Y ⟨x4,H4,I4,r4,q4⟩=>?_;refine br (hp WZ Y Z H4 O x4 B v _ I4 U r4 q4) λnew s5 ⟨R,H5,I5,r5,S⟩=>?_;exact br (hs WZ s5 Z H5 F J R y q new _ I5 G L r5 S) λ_ s6 ⟨H6,I6,W⟩=>⟨Z,H6,I6,W⟩
def ipI(f:Int->Int->Int):Lr:=λx y H Q=>∃i j,x=.int i/\y=.int j/\Q (.int<|f i j) H
theorem Jv:Bq X .Add (ipI λi j=>i+j):=by
 intro WZ s Z H x y v u Q I z B h;obtain⟨i,j,n,g,q⟩:=h;subst n;subst g;obtain⟨t,rfl⟩:=z;obtain⟨t',rfl⟩:=B;exact iadd_int ⟨.int _,H,I.tok _,⟨_,rfl⟩,q⟩
theorem Ln:Bq X .Sub (ipI λi j=>i-j):=by
 intro WZ s Z H x y v u Q I z B h;obtain⟨i,j,n,g,q⟩:=h;subst n;subst g;obtain⟨t,rfl⟩:=z;obtain⟨t',rfl⟩:=B;exact isub_int ⟨.int _,H,I.tok _,⟨_,rfl⟩,q⟩
end
section
def Jb(c:TT)(tb:TS):TS:=λD Z H=>∃W:Nat->St->Hp->Prop,(∃m,W m Z H)/\∀m Z H,W m Z H->
 c Z H λb H1=>if b=true then ∃N:St->Hp->Prop,(∀σ' H',N σ' H'->∃m',m'<m/\W m' σ' H')/\tb { D with nx:=N,ct:=N,bk:=D.nx } Z H1 else D.nx Z H1
theorem D4{O:TT}{tb:TS}(R:WE (ff X.prog X.w) X.A X.env X.xe)(hc:PT X c O)(hb:xC X body tb):PS X (.While c body [] pos) (Jb O tb):=by
 intro WZ s Z H D I h;obtain⟨W,⟨m0,w0⟩,turn⟩:=h;refine wpAny_While (codeAny_whileLoop (λn S=>∃σ' H',Inv X WZ σ' H' S/\W n σ' H') ?_ m0 ⟨Z,H,I,w0⟩)
 rintro n Y ⟨q,H1,I1,T⟩
 refine wh R (br (hc WZ Y q H1 _ I1<|turn n q H1 T) λb U ⟨H2,I2,y⟩=>?_);cases b with
 |true=>
  obtain⟨N,L,y⟩:=y;rw[if_pos rfl];refine wh R (br (hb WZ U q H2 _ I2 y) λf s3 z=>?_);cases f with
  |next=>
   obtain⟨g,H3,I3,J⟩:=z;obtain⟨G,B,F⟩:=L g H3 J;exact⟨G,B,g,H3,I3,F⟩
  |cont=>
   obtain⟨g,H3,I3,J⟩:=z;obtain⟨G,B,F⟩:=L g H3 J;exact⟨G,B,g,H3,I3,F⟩
  |brk=>exact z
  |ret v=>exact z
 |false=>
  rw[if_neg OS];exact Ps ⟨q,H2,I2,y⟩
end
structure It where
 go:Nat->Hp->Prop
 yld:Nat->Hp->V->Hp->Prop
 stop:Nat->Hp->Prop
def jd(X:Cx)(WZ:Xe)(H:Hp)(b:eg):Prop:=
 H b=cm/\b≠X.env.locals/\b∉X.fs/\(b∈X.ex\/X.s₀.heap.objs.size<=b)/\(∀x c,X.env.cells.lookup x=ap c->c≠b)/\∀p∈X.pn++WZ,p.1≠b
theorem Inv.fpOk(I:Inv X WZ Z H s)(g:s.heap.objs.size<=b)(y:H' b=cm):jd X WZ H' b:=by
 refine⟨y,Qu (OA I.lt g),I.nofs g,.inr (OQ I.sz g),λx c e z=>?_,λp n z=>?_⟩
 .obtain⟨v,q⟩:=I.cell x c e
  exact absurd (OA q.lt<|by rw[z];exact g) (PC _)
 .exact absurd (OA (OC (I.pin p n).1)<|by rw[z];exact g) (PC _)
structure Turn(P:fx)(w:g3)(K:Ow)(tg:fy)(J:It)(fp:Xa)(it:eg)(tn:Nat->hI->Prop):Prop where
 mem:it∈fp
 obj:∀i h,tn i h->∀b∈fp,∃o,h.get? b=ap o/\∀v,o.data≠.cell v
 keep:∀i h h',tn i h->(∀b∈fp,∀o,h.get? b=ap o->h'.get? b=ap o)->tn i h'
 item:∀(X:Cx),X.prog=P->X.w=w->X.K=K->X.calm=true->∀(i:Nat)(WZ:Xe)(s:el)(Z:St)(H:Hp)(E:Xd),Inv X WZ Z H s->(∀b∈fp,jd X WZ H b)->tn i s.heap->J.go i H->
  eH (ff P w) X.A (Os<|.ref it) (λr s1=>∃u,r=ap u/\
   eH (ff P w) X.A (VX tg (.ref it) u) (λ_ s2=>∃x H',Inv X WZ Z H' s2/\RelV x u/\J.yld i H x H'/\tn (i+1) s2.heap/\∀b∈fp,H' b=cm) E s1) E s
 done:∀(X:Cx),X.prog=P->X.w=w->X.K=K->X.calm=true->∀(i:Nat)(WZ:Xe)(s:el)(Z:St)(H:Hp)(E:Xd),Inv X WZ Z H s->(∀b∈fp,jd X WZ H b)->tn i s.heap->J.stop i H->
  eH (ff P w) X.A (Os<|.ref it) (λr s1=>r=cm/\Inv X WZ Z H s1) E s
 self:∀(A:ix)(i:Nat)(s:el)(Q:Xd)(E:Xd),tn i s.heap->Q (.ref it) s->eH (ff P w) A (pyIter<|.ref it) Q E s
abbrev TI:=St->Hp->(It->Hp->Prop)->Prop
def PIE(X:Cx)(WZ:Xe)(Z:St)(tg:fy)(R:It->Hp->Prop)(itv:ay)(s2:el):Prop:=
 ∃(it:eg)(fp:Xa)(tn:Nat->hI->Prop)(J:It)(H':Hp),itv=.ref it/\Inv X WZ Z H' s2/\Turn X.prog X.w X.K tg J fp it tn/\tn 0 s2.heap/\(∀b∈fp,jd X WZ H' b)/\R J H'
def PI(X:Cx)(tg iter:fy)(wi:TI):Prop:=
 ∀(WZ:Xe)(s:el)(Z:St)(H:Hp)(R:It->Hp->Prop),Inv X WZ Z H s->wi Z H R->
  eH (ff X.prog X.w) X.A (gp iter X.env) (λv g=>eH (ff X.prog X.w) X.A (pyIter v) (PIE X WZ Z tg R) X.xe g) X.xe s
theorem xA{it:eg}{o:Obj}{n:String}{vs:Xg}{Q:Unit->el->Prop}(v:s.heap.get? it=ap o)(y:o.cls=.type n)(q:o.data=.fields vs)(z:["enumerate","zip","dict_itemiterator","dict_reverseitemiterator","odict_iterator","itertools.zip_longest","itertools.pairwise"].contains n=eC)(g:Q () s):eH M A (VX tg (.ref it) u) Q E s:=by
 unfold VX
 cases tg<;>first
  |exact eX g
  |(cases u<;>first
    |exact eX g
    |(refine ax (wpAny_load v ?_)
      rw[y,q];show eH M A (if (["enumerate","zip","dict_itemiterator","dict_reverseitemiterator","odict_iterator","itertools.zip_longest","itertools.pairwise"].contains n&&vs[0]?==ap (t3 _))=true then _ else _) Q E s
      rw[if_neg (by intro h;rw[z,TC]at h;cases h)]
      exact eX g))
def Itl(K:Ow)(a:eg):It:=
 ⟨λi H=>∃xs x,SqL K H a xs/\xs[i]?=ap x,λi H x H'=>H'=H/\∀xs,SqL K H a xs->xs[i]?=ap x,λi H=>∃xs,SqL K H a xs/\xs.length<=i⟩
def Itt(K:Ow)(a:eg):It:=
 ⟨λi H=>∃xs x,i7 K H a xs/\xs[i]?=ap x,λi H x H'=>H'=H/\∀xs,i7 K H a xs->xs[i]?=ap x,λi H=>∃xs,i7 K H a xs/\xs.length<=i⟩
def Itr(lo:Int)(n:Nat):It:=⟨λi _=>i<n,λi H x H'=>H'=H/\x=.int (lo+i),λi _=>n<=i⟩
theorem zO(a it:eg):Turn P w K tg (Itl K a) [it] it (λi h=>h.IsListIter it a i) where
 mem:=by simp
 obj:=λi h g b n=>by
  have e:b=it:=by simpa using n
  subst e;obtain⟨o,e,c,d⟩:=g;exact⟨o,e,λv z=>by rw[d]at z;cases z⟩
 keep:=λi h h' g k=>g.at λo e=>k it (by simp) o e
 item:=by
  intro X O S F hc i WZ s Z H E I B g R;subst O S F;obtain⟨xs,x,y,J⟩:=R;obtain⟨L,T,p,hz⟩:=I.list y;obtain⟨u,hu,ru⟩:=T.get J;obtain⟨W,G,f2,f3,U,Y⟩:=B it (by simp)
  refine WG g p.isList (x:=u) (by simpa using hu) λh' q sb=>?_
  have I1:Inv X WZ Z H { s with heap:=h' }:=I.turned (t':=s.toks) (λb o n e=>(sb.2 b n).trans e) W G f3 U Y;obtain⟨o,e,c,d⟩:=id q;exact⟨u,rfl,xA (s:={ s with heap:=h' }) e c d (by decide) ⟨x,H,I1,ru,⟨rfl,λys hy=>by rw[I.list_inj hy y];exact J⟩,q,λb n=>(B b n).1⟩⟩
 done:=by
  intro X O S F hc i WZ s Z H E I B g R;subst O S F;obtain⟨xs,y,J⟩:=R;obtain⟨L,T,p,hz⟩:=I.list y;obtain⟨W,G,f2,f3,U,Y⟩:=B it (by simp)
  have hl:=T.length;exact WP (I.ok.hd hc) g p.isList (by simp;lia) λh' eb=>⟨rfl,I.turned (t':=s.toks) (λb o n e=>eb b o n e) W G f3 U Y⟩
 self:=λ_ _ _ _ _ g h=>wpAny_pyIter_listiter g h
theorem vQ(a it:eg):Turn P w K tg (Itt K a) [it] it (λi h=>h.IsTupleIter it a i) where
 mem:=by simp
 obj:=λi h g b q=>by
  have e:b=it:=by simpa using q
  subst e;obtain⟨o,e,c,d⟩:=g;exact⟨o,e,λv z=>by rw[d]at z;cases z⟩
 keep:=λi h h' g k=>g.at λo e=>k it (by simp) o e
 item:=by
  intro X O S G hc i WZ s Z H E I F g R;subst O S G;obtain⟨xs,x,B,L⟩:=R;obtain⟨n,T,p,hz⟩:=I.tuple B;obtain⟨u,hu,ru⟩:=T.get L;obtain⟨W,J,f2,f3,U,Y⟩:=F it (by simp)
  refine wpAny_pyNext_tuple_item g (show s.heap.IsTuple a n.toArray from p) (x:=u) (by simpa using hu) λh' y sb=>?_
  have I1:Inv X WZ Z H { s with heap:=h' }:=I.turned (t':=s.toks) (λb o q e=>(sb.2 b q).trans e) W J f3 U Y;obtain⟨o,e,c,d⟩:=id y;exact⟨u,rfl,xA (s:={ s with heap:=h' }) e c d (by decide) ⟨x,H,I1,ru,⟨rfl,λys hy=>by rw[I.tuple_inj hy B];exact L⟩,y,λb q=>(F b q).1⟩⟩
 done:=by
  intro X O S G hc i WZ s Z H E I F g R;subst O S G;obtain⟨xs,B,L⟩:=R;obtain⟨n,T,p,hz⟩:=I.tuple B;obtain⟨W,J,f2,f3,U,Y⟩:=F it (by simp)
  have hl:=T.length;exact wpAny_pyNext_tuple_end (I.ok.hd hc) g (show s.heap.IsTuple a n.toArray from p) (by simp;lia) λh' eb=>⟨rfl,I.turned (t':=s.toks) (λb o q e=>eb b o q e) W J f3 U Y⟩
 self:=λ_ _ _ _ _ g h=>wpAny_pyIter_tupleiter g h
theorem vL(it:eg)(F:Int)(n:Nat):Turn P w K tg (Itr F n) [it] it (λi h=>IsRangeIter h it (F+(i:Nat)*1) ((n:Int)-(i:Nat)) 1) where
 mem:=by simp
 obj:=λi h g b q=>by
  have e:b=it:=by simpa using q
  subst e;exact⟨_,g,λv z=>by
   have z':Data.fields _=Data.cell v:=z;cases z'⟩
 keep:=λi h h' g k=>k it (by simp) _ g
 item:=by
  intro X L S G R i WZ s Z H E I B g O;subst L S G;obtain⟨U,J,f2,f3,T,Y⟩:=B it (by simp)
  have W:=Walks.range (prog:=X.prog) (w:=X.w) (I.ok.hd R) it F 1 n;refine W.item i s _ _ O g λv h' tk hv y kk=>?_;obtain⟨t,rfl⟩:=hv;have I1:Inv X WZ Z H { s with heap:=h',toks:=tk }:=I.turned (λb o q e=>kk b o (by simpa using q) e) U J f3 T Y
  refine⟨_,rfl,xA (s:={ s with heap:=h',toks:=tk }) (n:="range_iterator") y rfl rfl (by decide) ⟨.int (F+i),H,I1,⟨t,?_⟩,⟨rfl,rfl⟩,y,λb q=>(B b q).1⟩⟩
  rw[Th]
 done:=by
  intro X L S G R i WZ s Z H E I B g O;subst L S G;obtain⟨U,J,f2,f3,T,Y⟩:=B it (by simp)
  exact wpAny_pyNext_range_end (I.ok.hd R) g (by have:n<=i:=O;lia) λh' eb=>⟨rfl,I.turned (t':=s.toks) (λb o q e=>eb b o q e) U J f3 T Y⟩
 self:=λ_ _ _ _ _ g h=>wpAny_pyIter_rangeiter g h
section
theorem Cu{R:It->Hp->Prop}{g n:Int}{t u v:Tok}{y:Nat}(I:Inv X WZ Z H s)(J:-(2 ^ 62)<=g)(L:g<2 ^ 62)(G:-(2 ^ 62)<=n)(O:n<2 ^ 62)(q:R (Itr g (n-g).toNat) H):eH (ff X.prog X.w) X.A (pyIter<|.ref s.heap.objs.size) (PIE X WZ Z tg R) E { s with heap:=s.heap.push { cls:=.type "range",data:=.fields #[.int g t,.int n u,.int 1 v] },toks:=y }:=by
 refine wpAny_pyIter_range (IsRange.new ..) (small_one J L G O) ?_;have I1:Inv X WZ Z H { s with heap:=s.heap.push { cls:=.type "range",data:=.fields #[.int g t,.int n u,.int 1 v] },toks:=y }:=I.kept λb o e=>Oq _ e;refine⟨(s.heap.push { cls:=.type "range",data:=.fields #[.int g t,.int n u,.int 1 v] }).objs.size,[(s.heap.push { cls:=.type "range",data:=.fields #[.int g t,.int n u,.int 1 v] }).objs.size],_,_,H,rfl,
  I1.kept (t':=y) λb o e=>Oq _ e,vL _ g (n-g).toNat,?_,λb B=>?_,q⟩
 .have F:g+((0:Nat):Int)*1=g:=by simp
  have z:(((n-g).toNat:Nat):Int)-((0:Nat):Int)=Builtin.Range.rangeSize g n 1:=by rw[rangeSize_one];split<;>lia
  show IsRangeIter _ _ (g+((0:Nat):Int)*1) ((((n-g).toNat:Nat):Int)-((0:Nat):Int)) 1;rw[F,z];exact OD _ rfl
 .have e:b=(s.heap.push { cls:=.type "range",data:=.fields #[.int g t,.int n u,.int 1 v] }).objs.size:=by simpa using B
  subst e;exact I1.fpOk (Oz _) (I1.hok.fresh<|Oz _)
def ND(ta:TA):TI:=λZ H R=>ta Z H λg H1=>∃j:Int,g=[.int j]/\-(2 ^ 62)<=j/\j<2 ^ 62/\R (Itr 0 j.toNat) H1
theorem z8{a:fy}{ta:TA}(F:Gl X "range")(B:X.mg "range"=cm)(y:PA X [a] ta)(z:fe [a] X.env=[(eC,gp a X.env)]:=by rfl):PI X tg (.Call (.Name "range" p) [a] [] pos) (ND ta):=by
 intro WZ s Z H R I h;refine Call_ (eG I F B boot_range<|Pk (br (y pos WZ s Z H _ I h) λus G ⟨J,H1,I1,n,g⟩=>?_) z rfl);obtain⟨j,e,g,v,q⟩:=g;subst e;cases n with
 |cons r rr=>
  cases rr;obtain⟨t,rfl⟩:=r;exact call_range_1 (Cu I1 (by lia) (by lia) g v<|by simpa using q)
def tFor(wi:TI)(g:TG)(tb:TS):TS:=λD Z H=>wi Z H λJ H1=>∃W:Nat->Nat->St->Hp->Prop,(∃m,W 0 m Z H1)/\∀i m Z H,W i m Z H->
 (J.stop i H/\D.nx Z H)\/(J.go i H/\∃N:St->Hp->Prop,(∀σ' H',N σ' H'->∃m',m'<m/\W (i+1) m' σ' H')/\∀x H',J.yld i H x H'->g x Z H' λn H2=>tb { D with nx:=N,ct:=N,bk:=D.nx } n H2)
def ms(fp:Xa)(h:hI):List (eg×Obj):=fp.filterMap λb=>(h.get? b).map λo=>(b,o)
theorem fD{o:Obj}(g:b∈fp)(e:h.get? b=ap o):(b,o)∈ms fp h:=UX.mpr ⟨b,g,by rw[e];rfl⟩
theorem zU{p:eg×Obj}(v:p∈ms fp h):p.1∈fp/\h.get? p.1=ap p.2:=by
 obtain⟨b,n,e⟩:=UX.mp v;cases q:h.get? b with
 |none=>rw[q]at e;cases e
 |some o=>
  rw[q]at e;have g:(b,o)=p:=Px e;subst g;exact⟨n,q⟩
theorem Inv.pinned(I:Inv X WZ Z H s)(J:∀b∈fp,jd X WZ H b)(G:∀b∈fp,∃o,s.heap.get? b=ap o/\∀v,o.data≠.cell v):Inv X (WZ++ms fp s.heap) Z H s:=
 I.pins_of λp y=>(Pc.mp y).elim (λz=>I.pin p (Pq _ z)) λz=>by
  obtain⟨n,e⟩:=zU z;obtain⟨q,F,B,_⟩:=J p.1 n;obtain⟨o,g,d⟩:=G p.1 n;rw[e]at g;cases g;exact⟨e,q,F,B,d⟩
theorem Inv.unpinned{pl:Xe}(I:Inv X (WZ++pl) Z H s):Inv X WZ Z H s:=I.pins_of λp g=>I.pin p (Pq _<|Sk _ g)
theorem Iw{F:fy}{wi:TI}{g:TG}{tb:TS}(hp:WE (ff X.prog X.w) X.A X.env X.xe)(hc:X.calm=true)(hi:PI X tg F wi)(hg:PG X tg g)(B:xC X body tb)(hs:∀x,z0 F X.env x=pure x:=by intro _;rfl):PS X (.For tg F body [] pos) (tFor wi g tb):=by
 intro WZ s Z H D I h;refine wpAny_For (br (hi WZ s Z H _ I h) λv s1 h1=>br h1 λitv s2 h2=>?_) hs;obtain⟨it,fp,tn,J,H2,e,I2,T,st2,f2,W,⟨m0,w0⟩,Y⟩:=h2;subst e
 -- what stays true of the iterator's objects through the loop
 have z:∀{H':Hp},(∀b∈fp,H' b=cm)->∀b∈fp,jd X WZ H' b:=λhn b B=>⟨hn b B,(f2 b B).2⟩;refine codeAny_forLoop_any (λn s'=>∃i σ' H',Inv X WZ σ' H' s'/\tn i s'.heap/\(∀b∈fp,H' b=cm)/\W i n σ' H') ?_ m0 ⟨0,Z,H2,I2,st2,λb B=>(f2 b B).1,w0⟩
 rintro n s3 ⟨i,y,H3,I3,S,R,w3⟩
 rcases Y i n y H3 w3 with⟨O,qn⟩|⟨go,N,hN,step⟩
 .refine wh hp (br (T.done X rfl rfl rfl hc i WZ s3 y H3 X.xe I3 (z R) S O) λr s4 ⟨hr,I4⟩=>?_)
  subst hr;exact Ps ⟨y,H3,I4,qn⟩
 .refine wh hp (br (T.item X rfl rfl rfl hc i WZ s3 y H3 X.xe I3 (z R) S go) λr s4 ⟨u,hr,h4⟩=>?_)
  subst hr;refine wh hp (br h4 λ_ s5 ⟨x,H5,I5,r5,y5,L,fr5⟩=>?_);have I5':=I5.pinned (z fr5) (T.obj _ _ L);refine wh hp (br (hg _ s5 y H5 x u _ I5' r5<|step x H5 y5) λ_ s6 ⟨σ6,H6,I6,q6⟩=>?_);refine wh hp (br (B _ s6 σ6 H6 _ I6 q6) λf s7 G=>?_);have again:∀{q:St}{H7:Hp},Inv X (WZ++ms fp s5.heap) q H7 s7->N q H7->∃m,m<n/\∃i σ' H',Inv X WZ σ' H' s7/\tn i s7.heap/\(∀b∈fp,H' b=cm)/\W i m σ' H':=λ{q H7} I7 U=>by
   obtain⟨m',hm,w7⟩:=hN q H7 U;refine⟨m',hm,i+1,q,H7,I7.unpinned,T.keep _ _ _ L λb B o e=>(I7.pin (b,o)<|Pq _<|Pq _<|fD B e).1,λb B=>?_,w7⟩;obtain⟨o,e,d⟩:=T.obj _ _ L b B;exact(I7.pin (b,o)<|Pq _<|Pq _<|fD B e).2.1
  cases f with
  |next=>obtain⟨q,H7,I7,U⟩:=G;exact again I7 U
  |cont=>obtain⟨q,H7,I7,U⟩:=G;exact again I7 U
  |brk=>obtain⟨q,H7,I7,G⟩:=G;exact⟨q,H7,I7.unpinned,G⟩
  |ret v=>obtain⟨x7,q,H7,I7,r7,G⟩:=G;exact⟨x7,q,H7,I7.unpinned,r7,G⟩
end
abbrev R2:=V->V->Hp->VK->Prop
def cC(X:Cx)(f:ay->ay->Sem ay)(r:R2):Prop:=
 ∀(WZ:Xe)(s:el)(Z:St)(H:Hp)(x y:V)(v u:ay)(Q:VK),Inv X WZ Z H s->RelV x v->RelV y u->r x y H Q->
  eH (ff X.prog X.w) X.A (f v u) (EP X WZ Z Q) X.xe s
def UnR(X:Cx)(f:ay->Sem ay)(r:V->Hp->VK->Prop):Prop:=
 ∀(WZ:Xe)(s:el)(Z:St)(H:Hp)(x:V)(v:ay)(Q:VK),Inv X WZ Z H s->RelV x v->r x H Q->
  eH (ff X.prog X.w) X.A (f v) (EP X WZ Z Q) X.xe s
def bL(X:Cx)(f:ay)(r:List V->Hp->VK->Prop):Prop:=
 ∀(WZ:Xe)(s:el)(Z:St)(H:Hp)(xs:List V)(us:W9)(Q:VK),Inv X WZ Z H s->Vals xs us->r xs H Q->
  eH (ff X.prog X.w) X.A (call f us) (EP X WZ Z Q) X.xe s
def TruR(X:Cx)(r:V->Hp->(Bool->Hp->Prop)->Prop):Prop:=
 ∀(WZ:Xe)(s:el)(Z:St)(H:Hp)(x:V)(v:ay)(Q:Bool->Hp->Prop),Inv X WZ Z H s->RelV x v->r x H Q->
  eH (ff X.prog X.w) X.A (truthy v) (TP X WZ Z Q) X.xe s
def M_(r:R2)(ta tb:TE):TE:=λZ H Q=>ta Z H λx H1=>tb Z H1 λy H2=>r x y H2 Q
def tUn(r:V->Hp->VK->Prop)(ta:TE):TE:=λZ H Q=>ta Z H λx H1=>r x H1 Q
def rI(C:Int->Int->Prop)(g:Int->Int->V):R2:=λx y H Q=>∃i j,x=.int i/\y=.int j/\C i j/\Q (g i j) H
def A7(g:Int->Int->V):R2:=λx y H Q=>∃i j,x=.int i/\y=.int j/\Q (g i j) H
def rU(g:Int->V):V->Hp->VK->Prop:=λx H Q=>∃i,x=.int i/\Q (g i) H
section
variable{a b:fy}{tc:TE}
theorem KW(G:PE X a ta)(L:PE X b tb){R:V->V->Hp->Prop}(I:Inv X WZ Z H s)(h:ta Z H λx H1=>tb Z H1 λy H2=>R x y H2){f:ay->ay->Sem ay}(J:∀v u g x y H2,Inv X WZ Z H2 g->RelV x v->RelV y u->R x y H2->eH (ff X.prog X.w) X.A (f v u) Q X.xe g):
  eH (ff X.prog X.w) X.A (gp a X.env) (λv s₁=>eH (ff X.prog X.w) X.A (gp b X.env) (λu s₂=>eH (ff X.prog X.w) X.A (f v u) Q X.xe s₂) X.xe s₁) X.xe s:=by
 refine br (G WZ s Z H _ I h) λv B ⟨x,H1,I1,n,q⟩=>?_;refine br (L WZ B Z H1 _ I1 q) λu g ⟨y,H2,I2,F,z⟩=>?_;exact J v u g x y H2 I2 n F z
theorem Oa{r:R2}(F:cC X (hB op) r)(B:PE X a ta)(G:PE X b tb):PE X (.BinOp a op b pos) (M_ r ta tb):=by
 intro WZ s Z H Q I h;exact wpAny_BinOp (KW B G I h λv u g x y H2 I2 n z q=>F WZ g Z H2 x y v u Q I2 n z q)
theorem N0{op:UnaryOp}{r:V->Hp->VK->Prop}(z:UnR X (unaryOp op) r)(y:PE X a ta):PE X (.UnaryOp op a pos) (tUn r ta):=by
 intro WZ s Z H Q I h;exact UnaryOp_ (br (y WZ s Z H _ I h) λv q ⟨x,H1,I1,g,n⟩=>z WZ q Z H1 x v Q I1 g n)
theorem Ls{f:ay->ay->Sem ay}{C:Int->Int->Prop}{g:Int->Int->Int}(n:∀(i j:Int)(t u:Tok)(s:el)(Q:Xd)(E:Xd),C i j->Q (.int (g i j) s.toks) { s with toks:=s.toks+1 }->eH (ff X.prog X.w) X.A (f (.int i t)<|.int j u) Q E s):
  cC X f (rI C λi j=>.int (g i j)):=by
 intro WZ s Z H x y v u Q I B F h;obtain⟨i,j,rfl,rfl,z,q⟩:=h;obtain⟨t,rfl⟩:=B;obtain⟨t',rfl⟩:=F;exact n i j t t' s _ _ z ⟨.int (g i j),H,I.tok _,⟨_,rfl⟩,q⟩
theorem By{f:ay->ay->Sem ay}{g:Int->Int->Int}(n:∀(i j:Int)(t u:Tok)(s:el)(Q:Xd)(E:Xd),Q (.int (g i j) s.toks) { s with toks:=s.toks+1 }->eH (ff X.prog X.w) X.A (f (.int i t)<|.int j u) Q E s):
  cC X f (A7 λi j=>.int (g i j)):=by
 intro WZ s Z H x y v u Q I z B h;obtain⟨i,j,rfl,rfl,q⟩:=h;obtain⟨t,rfl⟩:=z;obtain⟨t',rfl⟩:=B;exact n i j t t' s _ _ ⟨.int (g i j),H,I.tok _,⟨_,rfl⟩,q⟩
theorem DQ{f:ay->ay->Sem ay}{g:Int->Int->Bool}(n:∀(i j:Int)(t u:Tok)(s:el)(Q:Xd)(E:Xd),Q (.bool<|g i j) s->eH (ff X.prog X.w) X.A (f (.int i t)<|.int j u) Q E s):
  cC X f (A7 λi j=>.bl (g i j)):=by
 intro WZ s Z H x y v u Q I z B h;obtain⟨i,j,rfl,rfl,q⟩:=h;obtain⟨t,rfl⟩:=z;obtain⟨t',rfl⟩:=B;exact n i j t t' s _ _ ⟨.bl (g i j),H,I,rfl,q⟩
def E4(i j:Int):Prop:=0<=j/\j<=1000000/\i.natAbs<2 ^ 64
def CMul(i j:Int):Prop:=(-(2 ^ 64)<i/\i<2 ^ 64)\/(-(2 ^ 64)<j/\j<2 ^ 64)
theorem CMul.ok{i j:Int}(h:CMul i j):IntMulOk i j:=by
 rcases h with⟨n,g⟩|⟨n,g⟩
 .exact .of_left (intBits_le_64 n g)
 .exact .of_right (intBits_le_64 n g)
theorem vm(k:Nat):(0:Int)<=2 ^ k:=by
 rw[two_pow_cast];exact Int.natCast_nonneg _
theorem Kb:cC X (hB .Add) (A7 λi j=>.int (i+j)):=By λ_ _ _ _ _ _ _ q=>add_int q
theorem Kg:cC X (hB .Sub) (A7 λi j=>.int (i-j)):=By λ_ _ _ _ _ _ _ q=>sub_int q
theorem Jx:cC X (hB .Mult) (rI CMul λi j=>.int (i*j)):=Ls λ_ _ _ _ _ _ _ g q=>mul_int q g.ok
theorem Lh:cC X (hB .Mod) (rI (λ_ j=>0<j) λi j=>.int (i % j)):=Ls λi j _ _ _ _ _ g q=>by
 have n:(0:Int)<j:=g;exact mod_int' (by lia) (by rw[Int.fmod_eq_emod_of_nonneg i (by lia)];exact q)
theorem J_:cC X (hB .Pow) (rI E4 λi j=>.int (i ^ j.toNat)):=Ls λ_ _ _ _ _ _ _ g q=>pow_int_small g.1 g.2.1 g.2.2 q
theorem H_:cC X (hB .LShift) (rI E4 λi j=>.int (i*2 ^ j.toNat)):=Ls λ_ _ _ _ _ _ _ g q=>lshift_int_small g.1 g.2.1 g.2.2 q
theorem Lb:cC X (hB .RShift) (rI (λ_ j=>0<=j) λi j=>.int (i / 2 ^ j.toNat)):=Ls λi j _ _ _ _ _ g q=>
 rshift_int g (by rw[TU i (vm _)];exact q)
theorem Iq:cC X (hB .BitAnd) (A7 λi j=>.int (Ru i j)):=By λ_ _ _ _ _ _ _ q=>and_int q
theorem Mm:cC X (hB .BitOr) (A7 λi j=>.int (Sj i j)):=By λ_ _ _ _ _ _ _ q=>or_int q
theorem Jt:cC X (hB .BitXor) (A7 λi j=>.int (Builtin.bitXor i j)):=By λ_ _ _ _ _ _ _ q=>xor_int q
theorem unI{f:ay->Sem ay}{g:Int->Int}(n:∀(i:Int)(t:Tok)(s:el)(Q:Xd)(E:Xd),Q (.int (g i) s.toks) { s with toks:=s.toks+1 }->eH (ff X.prog X.w) X.A (f<|.int i t) Q E s):
  UnR X f (rU λi=>.int (g i)):=by
 intro WZ s Z H x v Q I y h;obtain⟨i,rfl,q⟩:=h;obtain⟨t,rfl⟩:=y;exact n i t s _ _ ⟨.int (g i),H,I.tok _,⟨_,rfl⟩,q⟩
theorem IQ:UnR X (unaryOp .USub) (rU λi=>.int (-i)):=unI λ_ _ _ _ _ q=>neg_int q
end
section
variable{a b:fy}{tc:TE}
theorem BW{Q:VK}{k g:Bool}(I:Inv X WZ Z H s)(q:Q (.bl k) H)(e:k=g):EP X WZ Z Q (.bool g) s:=by
 subst e;exact⟨.bl k,H,I,rfl,q⟩
theorem N4:cC X (kc .Lt) (A7 λi j=>.bl (decide (i<j))):=DQ λ_ _ _ _ _ _ _ q=>lt_int q
theorem Of:cC X (kc .LtE) (A7 λi j=>.bl (decide (i<=j))):=DQ λ_ _ _ _ _ _ _ q=>le_int q
theorem Mi:cC X (kc .Gt) (A7 λi j=>.bl (decide (j<i))):=DQ λ_ _ _ _ _ _ _ q=>gt_int q
theorem NU:cC X (kc .GtE) (A7 λi j=>.bl (decide (j<=i))):=DQ λ_ _ _ _ _ _ _ q=>ge_int q
theorem Iy:cC X (kc .Is) (λx y H Q=>y=.non/\Q (.bl<|decide (x=.non)) H):=by
 intro WZ s Z H x y v u Q I g n h;obtain⟨rfl,q⟩:=h;cases n;refine is_none_gen (BW I q ?_)
 cases x<;>first
  |(cases g;rfl)
  |(obtain⟨t,rfl⟩:=g;rfl)
theorem F2:cC X (kc .IsNot) (λx y H Q=>y=.non/\Q (.bl<|!decide (x=.non)) H):=by
 intro WZ s Z H x y v u Q I g n h;obtain⟨rfl,q⟩:=h;cases n;refine isnot_none_gen (BW I q ?_)
 cases x<;>first
  |(cases g;rfl)
  |(obtain⟨t,rfl⟩:=g;rfl)
theorem E7{op:CmpOp}{r:R2}(G:cC X (kc op) r)(B:PE X a ta)(J:PE X b tb)(F:V6 op b=eC):PE X (.Compare a [op] [b] pos) (M_ r ta tb):=by
 intro WZ s Z H Q I h;exact wpAny_Compare1 (KW B J I h λv u g x y H2 I2 n z q=>G WZ g Z H2 x y v u Q I2 n z q) F
def LW(t:TE):TT:=λZ H Q=>t Z H λx H'=>∃k,x=.bl k/\Q k H'
theorem EU{op:CmpOp}{r:R2}(S:cC X (kc op) r)(O:PE X a ta)(T:PE X b tb)(R:V6 op b=eC):PT X (.Compare a [op] [b] pos) (LW<|M_ r ta tb):=by
 intro WZ s Z H Q I h;refine wpAny_isTrue_Compare1 (br (O WZ s Z H _ I h) λv n ⟨x,H1,I1,q,B⟩=>br (T WZ n Z H1 _ I1 B) λu J ⟨y,H2,I2,L,G⟩=>
  br (S WZ J Z H2 x y v u _ I2 q L G) λc U ⟨z,H3,I3,F,k,e,g⟩=>?_) R
 subst e;cases F;exact wpAny_truthy_bool ⟨H3,I3,g⟩
def Ia(K:Ow)(x:V)(H:Hp)(k:Bool):Prop:=
 match x with
 |.non=>k=eC
 |.bl b=>k=b
 |.int i=>k=(i != 0)
 |.str y=>y.length<=sizeLine/\k=((y.length:Int) != 0)
 |.byt y=>y.size<=sizeLine/\k=((y.size:Int) != 0)
 |.ref p=>(∃xs,SqL K H p xs/\k=!xs.isEmpty)\/(∃xs,i7 K H p xs/\k=!xs.isEmpty)\/∃W1,H p=ap (.dK W1)/\k=!W1.isEmpty
 |_=>False
theorem vk{n:Type}{g:List (n×V)}{vs:List (n×ay)}(r:KV g vs):(!vs.isEmpty)=!g.isEmpty:=by
 cases r<;>rfl
theorem lJ{xs:List V}{W5:W9}(r:Vals xs W5):(!W5.toArray.isEmpty)=!xs.isEmpty:=by
 cases r<;>simp
theorem fR:(sizeLine:Nat)<2 ^ 63:=by rw[Wf];decide
theorem Il:TruR X (λx H Q=>∃k,Ia X.K x H k/\Q k H):=by
 intro WZ s Z H x v Q I B h;obtain⟨k,e,q⟩:=h;have T:=fR;have S:sizeLine=16777216:=Wf;cases x with
 |non=>
  cases B;have g:k=false:=e;subst g;exact truthy_none ⟨H,I,q⟩
 |bl b=>
  cases B;have g:k=b:=e;subst g;exact wpAny_truthy_bool ⟨H,I,q⟩
 |int i=>
  obtain⟨t,rfl⟩:=B;have g:k=(i != 0):=e;subst g;exact PySem.P.truthy_int ⟨H,I,q⟩
 |str y=>
  obtain⟨t,rfl⟩:=B;obtain⟨R,g⟩:y.length<=sizeLine/\k=((y.length:Int) != 0):=e;subst g;exact PySem.P.truthy_str (by lia) ⟨H,I.tok _,q⟩
 |byt y=>
  obtain⟨t,rfl⟩:=B;obtain⟨R,g⟩:y.size<=sizeLine/\k=((y.size:Int) != 0):=e;subst g;exact W.truthy_bytes (by lia) ⟨H,I.tok _,q⟩
 |ref p=>
  cases B;have g:(∃z,SqL X.K H p z/\k=!z.isEmpty)\/(∃z,i7 X.K H p z/\k=!z.isEmpty)\/∃W1,H p=ap (.dK W1)/\k=!W1.isEmpty:=e;rcases g with⟨z,F,g⟩|⟨z,F,g⟩|⟨W1,F,g⟩
  .subst g
   obtain⟨J,r,pl,L⟩:=I.list F;have n:=r.length;exact wpAny_truthy_list pl.isList (by simp only[OB];lia) ⟨H,I.tok _,by rw[lJ r];exact q⟩
  .subst g
   obtain⟨J,r,pl,L⟩:=I.tuple F;have n:=r.length;exact truthy_tuple pl (by simp only[OB];lia) ⟨H,I.tok _,by rw[lJ r];exact q⟩
  .subst g
   obtain⟨L,O,G,r,m⟩:W1.length<=sizeLine/\(p==Op)=eC/\∃G,KV W1 G/\s.heap.DictOf (aV X.prog X.w) p G:=I.hok p _ F;have n:W1.length=G.length:=P6 r;exact wpAny_truthy_dict O m (by lia) ⟨H,I.tok _,by rw[vk r];exact q⟩
 |_=>exact(show False from e).elim
theorem Bl(z:PE X a ta)(B:∀g,WK a X.env g=(do let v <- g;TD a.pos;tm [v] (truthy v))):
  PT X a (λZ H Q=>ta Z H λx H'=>∃k,Ia X.K x H' k/\Q k H'):=by
 intro WZ s Z H Q I h;exact isTrue_plain (br (z WZ s Z H _ I h) λv y ⟨x,H1,I1,n,q⟩=>Il WZ y Z H1 x v Q I1 n q) (B _)
theorem vC:cC X (hB .Add) (λx y H Q=>∃i j,x=.str i/\y=.str j/\i.length+j.length<=sizeLine/\Q (.str (i++j)) H):=by
 intro WZ s Z H x y v u Q I g z h;obtain⟨i,j,rfl,rfl,n,q⟩:=h;obtain⟨t,rfl⟩:=g;obtain⟨t',rfl⟩:=z;exact add_str (λt' B=>⟨.str (i++j),H,I.tok _,⟨_,rfl⟩,q⟩) n
theorem iq{x:V}(r:Vals [x] us):∃u,us=[u]/\RelV x u:=by
 cases r with
 |cons r1 r2=>cases r2;exact⟨_,rfl,r1⟩
theorem HF{x y:V}(r:Vals [x,y] us):∃u w',us=[u,w']/\RelV x u/\RelV y w':=by
 cases r with
 |cons r1 r2=>
  cases r2 with
  |cons r3 r4=>cases r4;exact⟨_,_,rfl,r1,r3⟩
theorem zD(n:X.calm=true):bL X (.builtin "max") (λxs H Q=>∃i j,xs=[.int i,.int j]/\Q (.int (if j>i then j else i)) H):=by
 intro WZ s Z H xs us Q I r h;obtain⟨i,j,rfl,q⟩:=h;obtain⟨u,v,rfl,⟨t,rfl⟩,⟨t',rfl⟩⟩:=HF r;refine max_two_ints (I.ok.hd n) λh' y k=>⟨_,H,I.kept k,?_,q⟩
 by_cases g:j>i
 .rw[if_pos g,if_pos g];exact⟨_,rfl⟩
 .rw[if_neg g,if_neg g];exact⟨_,rfl⟩
theorem A3(n:X.calm=true):bL X (.builtin "min") (λxs H Q=>∃i j,xs=[.int i,.int j]/\Q (.int (if j<i then j else i)) H):=by
 intro WZ s Z H xs us Q I r h;obtain⟨i,j,rfl,q⟩:=h;obtain⟨u,v,rfl,⟨t,rfl⟩,⟨t',rfl⟩⟩:=HF r;refine min_two_ints (I.ok.hd n) λh' y k=>⟨_,H,I.kept k,?_,q⟩
 by_cases g:j<i
 .rw[if_pos g,if_pos g];exact⟨_,rfl⟩
 .rw[if_neg g,if_neg g];exact⟨_,rfl⟩
end
structure ObjM(h:hI)(x dx C:eg)(mA:Xf):Prop where
 obj:h.get? x=ap (RM C dx)
 ns:h.Ns1 dx mA
 ne:dx≠x
theorem zN(n:h.Ns1 dx mA):∃v,h.get? dx=ap v/\∀name,W.lookIn name v=ap (mA name):=by
 obtain⟨o,es,O,I,B,F,_,J⟩:=n;refine⟨o,I,λname=>?_⟩;have e:=J name;unfold nsFind findBy at e;rw[<- Array.find?_toList]at e;unfold W.lookIn;rw[B];dsimp only
 split
 .rename_i y q
  rw[q]at e;exact congrArg ap e
 .rename_i q
  rw[q]at e;have a:es.toList.any (·.refKey)=false:=by
   rw[List.any_eq_false];intro y L;obtain⟨z,t,g⟩:=F y (Array.mem_toList_iff.mp L);simp[DictEntry.refKey,g]
  have G:¬es.toList.any (·.refKey)=true:=by rw[a];exact OS
  rw[if_neg G];exact congrArg ap e
theorem ObjM.look{x:eg}(I:ObjM h x dx C mA):∃g,W.InstAt h x (RM C dx) C (ap g)/\∀name,W.lookIn name g=ap (mA name):=
 let ⟨g,ho,hl⟩:=zN I.ns
 ⟨g,⟨I.obj,rfl,rfl,ho⟩,hl⟩
section
variable{prog:fx}{x:eg}{name:Str}{v:ay}
theorem FZ{g:Bool}(X:K.In s.heap)(I:ObjM s.heap x dx C mA)(B:Ri K C name=true)(F:Rt K C=true)(z:Pp K (.ref C) name=ap cm)(y:mA name=ap v)(n:W.handedIn v=true)(h:Q v { s with toks:=s.toks+1 }):
  eH (ff prog w) A (getAttr (.ref x) name g) Q E s:=by
 obtain⟨G,J,q⟩:=I.look;exact W.get_value X J (Uw B).1 (W.findObj_own F z rfl<|by rw[q,y]) n h
theorem B8{pl:Sem Bool}{Q:ay×List ay->el->Prop}(X:K.In s.heap)(I:ObjM s.heap x dx C mA)(g:Ri K C name=true)(B:Pp K (.ref C) name=ap (ap<|.ref f))(z:W.isFn K (.ref f)=true)(y:mA name=cm)(h:Q (.ref f,[.ref x]) s):
  eH (ff prog w) A (SZ (.ref x) name pl) Q E s:=by
 obtain⟨q,J,n⟩:=I.look;exact W.method_fn X J (Uw g).1 (Uw g).2 B (beq_iff_eq.mp z) (by show (W.lookIn name q).map (·.isSome)=ap eC;rw[n,y];rfl) h
theorem gz{ns:W8}{Q:Unit->el->Prop}(X:K.In s.heap)(I:ObjM s.heap x dx C mA)(U:Pp K (.ref C) "__setattr__"=ap (ap<|.builtin "object.__setattr__"))(S:RY K C=true)(T:W.takerIn K C name=ap cm)(hh:Rt K C=true)(Y:T5 mA ns)(hsz:ns.length<=sizeLine)(h:∀h',ObjM h' x dx C (λy=>if y=name then ap v else mA y)->Qt dx s.heap h'->Q () { s with heap:=h',toks:=s.toks+2 }):
  eH (ff prog w) A (setAttr (.ref x) name v) Q E s:=by
 obtain⟨od,J,hl⟩:=I.look;refine W.set_plain X J U (W.osa_open (s:={ s with toks:=s.toks+1 }) (r:=cm) X J S T λb=>?_);obtain⟨cd,O,B⟩:=W.any_some hh;have R:s.heap.get? x=ap ⟨.ref C,ap dx,.plain,#[]⟩:=I.obj;refine ax (eX<|wpAny_bind<|wpAny_bind<|wpAny_loadPart R<|wpAny_bind<|W.Looks.here (s:={ s with toks:=s.toks+1 }) (W.looks_clsIn X O) ?_);rw[B];refine eX (a:=ap dx) (ax<|wpAny_pure<|wpAny_bind ?_);refine wpAny_nsSet1 (s:={ s with toks:=s.toks+1 }) I.ns λh' g n=>?_;obtain⟨oD,G,L,q,F,z⟩:=g.count (PySem.Within.cons name v Y);refine ax (wpAny_lookBehind q (by rw[F];exact pastItsLine_dict (OQ z<|by rw[Oy];lia)) ?_)
 exact eX (h _ ⟨(n.2 _<|OW I.ne).trans I.obj,g,I.ne⟩ n)
theorem Cr{R:WN->el->Prop}{vs:W9}(X:K.In s.heap)(y:Se K C=true)(q:Pp K (.ref C) "__init__"=ap (ap<|.ref f))(z:W.typeIn K (.ref f)=ap (.type "function"))(h:Rs (ff prog w) (A.under<|.builtin "type.__call__" ⟨.ref C::vs,kw⟩) (.call (.ref f) ⟨.ref (s.heap.objs.size+1)::vs,kw⟩) (W.InitBack (s.heap.objs.size+1) R)
   { s with heap:=(s.heap.push QM).push (RM C s.heap.objs.size) }):
  Rs (ff prog w) A (.call (.ref C) ⟨vs,kw⟩) R s:=by
 obtain⟨F,g,d,t,B⟩:=s;exact W.make_core (W.makes_of X y) (W.looks_findIn X q) (λn=>W.bind_fn X n z) (.inl rfl) h
end
def cV(f:Str)(v:V):List (Str×V)->List (Str×V)
 |[]=>[(f,v)]
 |(g,x)::r=>if g=f then (g,v)::r else (g,x)::cV f v r
theorem jM(f g:Str)(v:V):∀fs:List (Str×V),(cV f v fs).lookup g=if g=f then ap v else fs.lookup g
 |[]=>by
  show OY g [(f,v)]=_
  by_cases h:g=f
  .have n:(g==f)=true:=beq_iff_eq.mpr h
   simp only[OY,n,if_pos h]
  .have n:(g==f)=false:=beq_eq_false_iff_ne.mpr h
   simp only[OY,n,if_neg h]
 |(k,x)::r=>by
  have y:=jM f g v r;rw[show cV f v ((k,x)::r)=(if k=f then (k,v)::r else (k,x)::cV f v r) from rfl]
  by_cases q:k=f
  .rw[if_pos q]
   by_cases h:g=k
   .have n:(g==k)=true:=beq_iff_eq.mpr h
    simp only[OY,n,if_pos (h.trans q)]
   .have n:(g==k)=false:=beq_eq_false_iff_ne.mpr h
    simp only[OY,n,if_neg (λe:g=f=>h (e.trans q.symm))]
  .rw[if_neg q]
   by_cases h:g=k
   .have n:(g==k)=true:=beq_iff_eq.mpr h
    simp only[OY,n,if_neg (λe:g=f=>q (h.symm.trans e))]
   .have n:(g==k)=false:=beq_eq_false_iff_ne.mpr h
    simp only[OY,n];exact y
theorem jq(f:Str)(v:V):∀fs:List (Str×V),f∈(cV f v fs).map (·.1)/\∀g,g∈fs.map (·.1)->g∈(cV f v fs).map (·.1)
 |[]=>⟨by simp[cV],λg h=>by simp at h⟩
 |(k,x)::r=>by
  obtain⟨y,q⟩:=jq f v r;rw[show cV f v ((k,x)::r)=(if k=f then (k,v)::r else (k,x)::cV f v r) from rfl]
  by_cases n:k=f
  .rw[if_pos n]
   subst n;exact⟨by simp,λg h=>by simpa using h⟩
  .rw[if_neg n]
   refine⟨?_,λg h=>?_⟩
   .rw[Ou]
    exact OE _ y
   .rw[Ou]at h ⊢
    rcases OM.mp h with e|e
    .exact OM.mpr (.inl e)
    .exact OE _ (q g e)
theorem jL(f:Str)(v:V):∀fs:List (Str×V),(cV f v fs).length<=fs.length+1
 |[]=>by simp[cV]
 |(k,x)::r=>by
  have n:=jL f v r;rw[show cV f v ((k,x)::r)=(if k=f then (k,v)::r else (k,x)::cV f v r) from rfl]
  by_cases g:k=f
  .rw[if_pos g,Oy,Oy];lia
  .rw[if_neg g,Oy,Oy];lia
theorem dk{v:V}{o:Option ay}(r:RelO (ap v) o):∃u,o=ap u/\RelV v u:=by
 cases o with
 |none=>exact(show False from r).elim
 |some u=>exact⟨u,rfl,r⟩
theorem j6{o:Option ay}(r:RelO cm o):o=none:=by
 cases o with
 |none=>rfl
 |some u=>exact(show False from r).elim
theorem zd{v:V}(r:RelV v u):W.handedIn u=true:=by
 cases v with
 |non=>cases (show u=Qq from r);rfl
 |bl b=>cases (show u=QG b from r);rfl
 |int i=>obtain⟨t,e⟩:=(show ∃t,u=Qw i t from r);cases e;rfl
 |str x=>obtain⟨t,e⟩:=(show ∃t,u=RV x t from r);cases e;rfl
 |byt b=>obtain⟨t,e⟩:=(show ∃t,u=Value.bytes b t from r);cases e;rfl
 |flt b=>obtain⟨t,e⟩:=(show ∃t,u=Ux b t from r);cases e;rfl
 |ref a=>cases (show u=OU a from r);rfl
 |ty n=>cases (show u=Tn n from r);rfl
section
variable{fs fs':List (Str×V)}
theorem lc(g:HOk P w H h)(e:H a=ap (.ins C dx fs)):∃mA,ObjM h a dx C mA/\(∀f,RelO (fs.lookup f) (mA f))/\T5 mA (fs.map (·.1))/\fs.length<=1000/\H dx=ap (.own a):=by
 obtain⟨d,z,ne,v,mA,n,r,q⟩:=(show ObjOk P w H h a (.ins C dx fs) from g a _ e);exact⟨mA,⟨v,n,ne⟩,r,q,z,d⟩
end
structure Cls(K:Ow)(C:eg):Prop where
 pg:Ri K C S8=true
 hd:Rt K C=true
 po:RY K C=true
 sa:Pp K (.ref C) "__setattr__"=ap (ap<|.builtin "object.__setattr__")
theorem Cls.get(c:Cls K C)(f:Str):Ri K C f=true:=c.pg
def NoAttr(K:Ow)(C:eg)(f:Str):Prop:=Pp K (.ref C) f=ap cm
theorem NoAttr.taker{f:Str}(n:NoAttr K C f):W.takerIn K C f=ap none:=by
 unfold W.takerIn;rw[show Pp K (.ref C) f=ap cm from n];rfl
structure Meth(K:Ow)(C:eg)(m:Str)(f:eg):Prop where
 at_:Pp K (.ref C) m=ap (ap<|.ref f)
 fn:W.isFn K (.ref f)=true
 kp:P4 K (.ref f)=true
section
variable{fs:List (Str×V)}{f:Str}{v:V}
theorem lY{b:Bool}(I:Inv X WZ Z H s)(e:H a=ap (.ins C dx fs))(c:Cls X.K C)(n:NoAttr X.K C f)(l:fs.lookup f=ap v)(h:∀u s',Inv X WZ Z H s'->RelV v u->Q u s'):eH (ff X.prog X.w) A (getAttr (.ref a) f b) Q E s:=by
 obtain⟨mA,O,r,_,_,_⟩:=lc I.hok e;obtain⟨u,q,g⟩:=dk (v:=v) (o:=mA f) (by rw[<- l];exact r f)
 exact FZ I.kIn O (c.get f) c.hd n q (zd g) (h u _ (I.tok _) g)
theorem mx{g:eg}{pl:Sem Bool}{Q:ay×List ay->el->Prop}(I:Inv X WZ Z H s)(e:H a=ap (.ins C dx fs))(c:Cls X.K C)(k:Meth X.K C m g)(l:fs.lookup m=cm)(h:Q (.ref g,[.ref a]) s):eH (ff X.prog X.w) A (SZ (.ref a) m pl) Q E s:=by
 obtain⟨mA,O,r,_,_,_⟩:=lc I.hok e;have n:mA m=none:=j6 (by rw[<- l];exact r m)
 exact B8 I.kIn O (c.get m) k.at_ k.fn n h
theorem m8{y:V}{Q:Unit->el->Prop}(I:Inv X WZ Z H s)(e:H a=ap (.ins C dx fs))(c:Cls X.K C)(n:NoAttr X.K C f)(T:fs.length<1000)(S:RelV y u)(h:∀s',Inv X WZ Z (upd H a<|.ins C dx<|cV f y fs) s'->Q () s'):eH (ff X.prog X.w) A (setAttr (.ref a) f u) Q E s:=by
 obtain⟨mA,O,r,B,_,F⟩:=lc I.hok e;have G:(fs.map (·.1)).length<=sizeLine:=by rw[Ot,Wf];lia
 refine gz I.kIn O c.sa c.po n.taker c.hd B G λh' O' R=>h _ ?_;have hd:∃o,h'.get? dx=ap o:=let ⟨o,_,_,e',_⟩:=O'.ns;⟨o,e'⟩;refine I.write (x:=a) (e:=dx) (by rw[e];exact Qh) (.inr F) (λb q J z=>(R.2 b J).trans z) hd ?_
 refine⟨by rw[aM O.ne];exact F,?_,O.ne,O'.obj,_,O'.ns,λg=>?_,λg L=>?_⟩
 .have:=jL f y fs;lia
 .show RelO ((cV f y fs).lookup g) (if g=f then ap u else mA g)
  rw[jM]
  by_cases q:g=f
  .rw[if_pos q,if_pos q];exact S
  .rw[if_neg q,if_neg q];exact r g
 .by_cases q:g=f
  .rw[q];exact(jq f y fs).1
  .refine (jq f y fs).2 g (B g λz=>L ?_)
   show (if g=f then ap u else mA g)=cm
   rw[if_neg q];exact z
theorem Dp(I:Inv X WZ Z H s):Inv X WZ Z (upd (upd H s.heap.objs.size<|.own (s.heap.objs.size+1)) (s.heap.objs.size+1)<|.ins C s.heap.objs.size [])
  { s with heap:=(s.heap.push QM).push (RM C s.heap.objs.size) }:=by
 have g:(s.heap.push QM).get? s.heap.objs.size=ap QM:=OD s.heap rfl;have n:((s.heap.push QM).push<|RM C s.heap.objs.size).get? (s.heap.objs.size+1)=ap (RM C s.heap.objs.size):=by
  have:=OD (s.heap.push QM) (o:=RM C s.heap.objs.size) rfl
  rwa [Pg]at this
 have z:(s.heap.push QM).Ns s.heap.objs.size (λ_=>cm):=⟨QM,#[],_,g,rfl,(λe B=>absurd B (by simp)),λ_=>rfl⟩
 have I1:=I.laid (a:=s.heap.objs.size) (o:=.own (s.heap.objs.size+1)) (h':=s.heap.push QM) (t':=s.toks) (λb u q=>Oq _ q) (Oz _) ⟨_,g⟩;refine I1.laid (a:=s.heap.objs.size+1) (o:=.ins C s.heap.objs.size []) (t':=s.toks) (λb u q=>Oq _ q) (SV<|Pg _ _) ?_;have ne:s.heap.objs.size≠s.heap.objs.size+1:=ON (Rb _);refine⟨by rw[aM ne,upd_same],Qf _,ne,n,λ_=>cm,(Heap.Ns1.of_empty z).at λo q=>Oq _ q,λ_=>Qh,λy F=>absurd rfl F⟩
theorem G7{prog:fx}{env:Env}{f:Str}(g:nr e f env (gp e env)=gp e env)(h:eH (ff prog w) A (gp e env) (λo s₁=>eH (ff prog w) A (getAttr o f true) Q E s₁) E s):eH (ff prog w) A (gp (.Attribute e f pos) env) Q E s:=
 Attribute_any_ h (by rw[arm_eval_Attribute,g])
end
def tFld(K:Ow)(ta:TE)(f:Str):TE:=λZ H Q=>ta Z H λx H1=>∃a C dx fs v,x=.ref a/\H1 a=ap (.ins C dx fs)/\Cls K C/\NoAttr K C f/\fs.lookup f=ap v/\Q v H1
def sFld(K:Ow)(ta tv:TE)(f:Str):TS:=λD Z H=>tv Z H λy H1=>ta Z H1 λx H2=>∃a C dx fs,x=.ref a/\H2 a=ap (.ins C dx fs)/\Cls K C/\NoAttr K C f/\fs.length<1000/\
 D.nx Z (upd H2 a<|.ins C dx<|cV f y fs)
def KL(X:Cx)(op:VR)(rd:V->V->Hp->VK->Prop):Prop:=
 ∀(WZ:Xe)(s:el)(Z:St)(H:Hp)(x y:V)(u v:ay)(Q:VK),Inv X WZ Z H s->RelV x u->RelV y v->rd x y H Q->eH (ff X.prog X.w) X.A (inplaceOp op u v) (EP X WZ Z Q) X.xe s
def EI(K:Ow)(ta tv:TE)(rd:V->V->Hp->VK->Prop)(f:Str):TS:=λD Z H=>ta Z H λx H1=>∃a C dx fs v,x=.ref a/\H1 a=ap (.ins C dx fs)/\Cls K C/\NoAttr K C f/\fs.lookup f=ap v/\
 tv Z H1 λy H2=>rd v y H2 λz H3=>∃dx' fs',H3 a=ap (.ins C dx' fs')/\fs'.length<1000/\D.nx Z (upd H3 a<|.ins C dx'<|cV f z fs')
section
variable{o value:fy}{f:Str}{tpos:Pos}{tv:TE}
theorem KM(J:PE X e ta)(G:nr e f X.env (gp e X.env)=gp e X.env):PE X (.Attribute e f pos) (tFld X.K ta f):=by
 intro WZ s Z H Q I h;refine G7 G (br (J WZ s Z H _ I h) λu L z=>?_);obtain⟨x,H1,I1,B,a,C,dx,fs,v,y,F,c,n,l,q⟩:=z;subst y;obtain rfl:u=OU a:=B;exact lY I1 F c n l λR O I2 g=>⟨v,H1,I2,g,q⟩
theorem L5(O:PE X o ta)(S:PE X value tv)(R:zt value (ap<|.Attribute o f pos') pos.line X.env=pure eC):PS X (.Assign [.Attribute o f pos'] value pos) (sFld X.K ta tv f):=by
 intro WZ s Z H D I h;refine plainObj_wpAny_Assign_Attribute (br (S WZ s Z H _ I h) λu g ⟨y,H1,I1,L,q⟩=>br (O WZ g Z H1 _ I1 q) λv U F=>?_) R;obtain⟨x,H2,I2,G,a,C,dx,fs,z,J,c,n,l,B⟩:=F;subst z;obtain rfl:v=OU a:=G;exact m8 I2 J c n l L λT I3=>⟨Z,_,I3,B⟩
theorem nW{F:V->V->Hp->VK->Prop}(ha:PE X o ta)(hv:PE X value tv)(B:KL X op F):PS X (.AugAssign (.Attribute o f tpos) op value pos) (EI X.K ta tv F f):=by
 intro WZ s Z H D I h;refine wpAny_AugAssign_AttributeAny (br (ha WZ s Z H _ I h) λG s1 S=>?_);obtain⟨x,H1,I1,T,a,C,dx,fs,v,J,U,c,n,l,q⟩:=S;subst J;obtain rfl:G=OU a:=T;refine lY I1 U c n l λu O I2 ru=>br (hv WZ O Z H1 _ I2 q) λW s3 ⟨y,H2,I3,ry,Y⟩=>br (B WZ s3 Z H2 v y u W _ I3 ru ry Y) λw4 s4 ⟨z,H3,I4,rz,R,L,g,l',q4⟩=>?_;exact m8 I4 g c n l' rz λs5 I5=>⟨Z,_,I5,q4⟩
def rAdd:V->V->Hp->VK->Prop:=λx y H Q=>∃i j,x=.int i/\y=.int j/\Q (.int (i+j)) H
def rSub:V->V->Hp->VK->Prop:=λx y H Q=>∃i j,x=.int i/\y=.int j/\Q (.int (i-j)) H
theorem Ji:KL X .Add rAdd:=by
 rintro WZ s Z H x y u v Q I g n ⟨i,j,rfl,rfl,q⟩
 obtain⟨t,rfl⟩:=(show ∃t,u=Qw i t from g);obtain⟨t',rfl⟩:=(show ∃t',v=Qw j t' from n);exact PyProof.Rows.iadd_int ⟨.int (i+j),H,I.tok _,⟨_,rfl⟩,q⟩
theorem Jd:KL X .Sub rSub:=by
 rintro WZ s Z H x y u v Q I g n ⟨i,j,rfl,rfl,q⟩
 obtain⟨t,rfl⟩:=(show ∃t,u=Qw i t from g);obtain⟨t',rfl⟩:=(show ∃t',v=Qw j t' from n);exact PyProof.Rows.isub_int ⟨.int (i-j),H,I.tok _,⟨_,rfl⟩,q⟩
end
section
variable{c:ay}{b:Bool}
inductive TyOf(K:Ow)(H:Hp):V->ay->Prop where
 |non:TyOf K H .non (.type "NoneType")
 |bl (x:Bool):TyOf K H (.bl x) (.type "bool")
 |int (i:Int):TyOf K H (.int i) (.type "int")
 |str (x:Str):TyOf K H (.str x) (.type "str")
 |flt (x:UInt64):TyOf K H (.flt x) (.type "float")
 |lst {a:eg} {xs:List V} (e:H a=ap (.lst xs)):TyOf K H (.ref a) (.type "list")
 |frz {a:eg} {o:Obj} {xs:List V} (e:H a=ap (.frz o<|.lst xs)):TyOf K H (.ref a) (.type "list")
 |tup {a:eg} {xs:List V} (e:H a=ap (.tup xs)):TyOf K H (.ref a) (.type "tuple")
 |dK {a:eg} {W1:List (aF×V)} (e:H a=ap (.dK W1)):TyOf K H (.ref a) (.type "dict")
 |dT {a:eg} {W1:List (List aF×V)} (e:H a=ap (.dT W1)):TyOf K H (.ref a) (.type "dict")
 |ins {a C dx:eg} {fs:List (Str×V)} (e:H a=ap (.ins C dx fs)) (cl:Cls K C) (ha:Pp K (.ref C) "__class__"=ap (ap<|.builtin "object.__class__"))
   (hn:W.specialIn K (.builtin "object.__class__") "__get__"=ap (ap<|.builtin "getset_descriptor.__get__")) (htk:W.takesIn K (.builtin "object.__class__")=ap true)
   (hm:W.mroIn K C (.type "object")=ap true):TyOf K H (.ref a) (.ref C)
theorem z6{x:V}{t:ay}(I:Inv X WZ Z H s)(g:RelV x u)(ty:TyOf X.K H x t)(e:W.kitOne X.K t c=ap b)(h:∀L,Q (.bool b) { s with toks:=L }):
  eH (ff X.prog X.w) A (call (.builtin "isinstance") [u,c]) Q E s:=by
 cases ty with
 |non=>cases (show u=Qq from g);exact QR W.kitx_none I.kIn Qh e (λz=>nomatch z) h
 |bl y=>cases (show u=QG y from g);exact QR W.kitx_bool I.kIn Qh e (λz=>nomatch z) h
 |int i=>obtain⟨t,q⟩:=(show ∃t,u=Qw i t from g);cases q;exact QR W.kitx_int I.kIn Qh e (λz=>nomatch z) h
 |str y=>obtain⟨t,q⟩:=(show ∃t,u=RV y t from g);cases q;exact QR W.kitx_str I.kIn Qh e (λz=>nomatch z) h
 |flt y=>obtain⟨t,q⟩:=(show ∃t,u=Ux y t from g);cases q;exact QR W.kitx_float I.kIn Qh e (λz=>nomatch z) h
 |@lst a B ea=>
  cases (show u=OU a from g);obtain⟨_,_,n,_,v⟩:=(show ObjOk X.prog X.w H s.heap a (.lst B) from I.hok a _ ea);exact QR W.kitx_list I.kIn ⟨_,v,rfl⟩ e (λz=>nomatch z) h
 |@frz a ob B ea=>
  cases (show u=OU a from g);obtain⟨_,_,_,n,_,v⟩:=(show ObjOk X.prog X.w H s.heap a (.frz ob<|.lst B) from I.hok a _ ea);exact QR W.kitx_list I.kIn ⟨_,v,rfl⟩ e (λz=>nomatch z) h
 |@tup a B ea=>
  cases (show u=OU a from g);obtain⟨_,_,_,p⟩:=(show ObjOk X.prog X.w H s.heap a (.tup B) from I.hok a _ ea);obtain⟨o,v,⟨F,_⟩,_⟩:=p;exact QR W.kitx_tuple I.kIn ⟨o,v,F⟩ e (λz=>nomatch z) h
 |@dK a W1 ea=>
  cases (show u=OU a from g);obtain⟨_,_,S,_,p⟩:=(show ObjOk X.prog X.w H s.heap a (.dK W1) from I.hok a _ ea);obtain⟨o,es,G,v,F,_⟩:=p;exact QR W.kitx_dict I.kIn ⟨o,v,F.1⟩ e (λz=>nomatch z) h
 |@dT a W1 ea=>
  cases (show u=OU a from g);obtain⟨_,_,B,_,o,es,G,v,F,_⟩:=(show ObjOk X.prog X.w H s.heap a (.dT W1) from I.hok a _ ea);exact QR W.kitx_dict I.kIn ⟨o,v,F.1⟩ e (λz=>nomatch z) h
 |@ins a C dx fs ea cl ha hn htk hm=>
  cases (show u=OU a from g);obtain⟨mA,O,_⟩:=lc I.hok ea;obtain⟨R,J,_⟩:=O.look;exact QR (W.kitx_own (cl.get _) cl.hd ha hn htk hm) I.kIn J e (λz=>nomatch z) h
end
structure Room(k:Nat)(A:ix):Prop where
 hd:A.handled=cm
 dp:A.depth+3*k+5<recursionLimit
 un:A.units+16*k+200<p3
 gd:A.guards=ap []
theorem Room.mono{k:Nat}(r:Room k A)(h:j<=k):Room j A:=⟨r.hd,by have:=r.dp;lia,by have:=r.un;lia,r.gd⟩
theorem Room.deeper{k:Nat}(r:Room (k+1) A)(env:Env):Room k (A.deeper env):=
 ⟨r.hd,by have:=r.dp;show A.depth+1+3*k+5<_;lia,by have:=r.un;show A.units+3+16*k+200<_;lia,r.gd⟩
theorem vT:(A.under<|.builtin "type.__call__" ⟨.ref C::us,kw⟩).depth=A.depth+1:=by
 first|rfl|simp[Sy,Code.weight,Code.isCreation,Code.isGuard,Code.isCaller,Code.frames,Uk,guardIds]
theorem wb:(A.under<|.builtin "type.__call__" ⟨.ref C::us,kw⟩).units=A.units+1:=by
 first|rfl|simp[Sy,Code.cUnits,Code.frames,Uk]
theorem tz:(A.under<|.builtin "type.__call__" ⟨.ref C::us,kw⟩).guards=A.guards:=by
 first|rfl|simp[Sy,Code.guards,pushGuards,Code.isGuard,guardIds]
theorem Room.make{k:Nat}(r:Room (k+1) A)(C:eg)(us:W9)(kw:List (Str×ay)):Room k (A.under<|.builtin "type.__call__" ⟨.ref C::us,kw⟩):=
 ⟨r.hd,by have:=r.dp;rw[vT];lia,by have:=r.un;rw[wb];lia,by rw[tz];exact r.gd⟩
theorem Room.depth{k:Nat}(r:Room k A):A.depth<recursionLimit:=by have:=r.dp;lia
theorem Room.units{k:Nat}(r:Room k A):A.units+64<cLine:=by have:=r.un;lia
def Mp:TA:=λ_ H Q=>Q [] H
def Mb(ta:TE)(tr:TA):TA:=λZ H Q=>ta Z H λx H1=>tr Z H1 λg H2=>Q (x::g) H2
section
variable{t:TA}
theorem Bt:PA X [] Mp:=λ_ _ _ _ H Q I h=>Q4 ⟨[],H,I,.nil,h⟩
theorem wV(B:PE X e te)(G:PA X es t)(F:fe (e::es) X.env=(eC,gp e X.env)::fe es X.env:=by rfl):PA X (e::es) (Mb te t):=by
 intro pos WZ s Z H Q I h;rw[F];show eH _ _ (spliced ((eC,gp e X.env)::hG pos (fe es X.env))) _ _ s;refine Qr (br (B WZ s Z H _ I h) λu n ⟨x,H1,I1,q,v⟩=>?_);exact br (G pos WZ n Z H1 _ I1 v) λus J ⟨g,H2,I2,z,y⟩=>⟨x::g,H2,I2,.cons q z,y⟩
def tTup(t:TA):TE:=λZ H Q=>t Z H λg H1=>g.length<=sizeLine/\∀p,H1 p=cm->Q (.ref p) (upd H1 p<|.tup g)
def tLst(t:TA):TE:=λZ H Q=>t Z H λg H1=>g.length<=sizeLine/\∀p,H1 p=cm->Q (.ref p) (upd H1 p<|.lst g)
theorem IA{x1}(h:PA X es t):PE X (.Tuple es x1 pos) (tTup t):=by
 intro WZ s Z H Q I n;refine wpAny_Tuple_spliced (br (h pos WZ s Z H _ I n) λus g ⟨v,H1,I1,r,z,q⟩=>⟨by rw[<- r.length];exact z,?_⟩)
 have y:H1 g.heap.objs.size=none:=I1.hok.fresh (Oz _);refine⟨.ref g.heap.objs.size,upd H1 g.heap.objs.size (.tup v),I1.laid (t':=g.toks) (λb u e=>Oq _ e) (Oz _) ?_,rfl,q _ y⟩;exact⟨z,us,r,⟨_,OD _ rfl,⟨rfl,_,rfl⟩,rfl⟩⟩
theorem J9(h:PA X es t):PE X (.List es pos) (tLst t):=by
 intro WZ s Z H Q I n;refine wpAny_List_spliced (br (h pos WZ s Z H _ I n) λus g ⟨v,H1,I1,r,z,q⟩=>⟨by rw[<- r.length];exact z,?_⟩)
 have y:H1 g.heap.objs.size=none:=I1.hok.fresh (Oz _);refine⟨.ref g.heap.objs.size,upd H1 g.heap.objs.size (.lst v),I1.laid (t':=g.toks) (λb u e=>Oq _ e) (Oz _) ?_,rfl,q _ y⟩;exact⟨z,us,0,r,OD _ rfl⟩
end
abbrev Sp:=List V->Hp->VK->XK->Prop
abbrev oo:=List Env->Hp->el->XK->ay->el->Prop
structure Env0(P:fx)(w:g3)(K:Ow)(mg:Xf)(base:hI)(A:ix)(outer:List Env)(s:el)(H:Hp):Prop where
 frames:A.frames=ap outer
 mod:Mod K mg base
 bs:∀b o,base.get? b=ap o->s.heap.get? b=ap o/\H b=cm
 bsz:base.objs.size<=s.heap.objs.size
 funs:s.heap.FunFrames base outer
 frf:∀b∈gK outer,H b=cm
 hok:HOk P w H s.heap
 bare:Uf s.gens
def CE(outer:List Env)(P:fx)(w:g3)(H:Hp)(s:el)(Q:VK)(u:ay)(s':el):Prop:=
 ∃v H',s'.os=s.os/\Uf s'.gens/\Un (gK outer) [] H H' s.heap s'.heap/\HOk P w H' s'.heap/\RelV v u/\Q v H'
def CR(CX:oo)(outer:List Env)(P:fx)(w:g3)(H:Hp)(s:el)(Q:VK)(E:XK)(r:WN)(s':el):Prop:=
 match r with
 |.ok (.ret u)=>CE outer P w H s Q u s'
 |.ok _=>False
 |.error e=>CX outer H s E e s'
structure FnOk(P:fx)(w:g3)(K:Ow)(mg:Xf)(base:hI)(CX:oo)(k:Nat)(f:eg)(fd:g4)(ps:W8)(sp:Sp):Prop where
 len:∀vs H Q E,sp vs H Q E->vs.length=ps.length
 run:∀(A:ix)(outer:List Env)(s:el)(H:Hp)(args:Args)(us:W9)(vs:List V)(Q:VK)(E:XK),Room k A->Env0 P w K mg base A outer s H->Wi s fd args (ps.zip us)->Vals vs us->sp vs H Q E->
  Rs (ff P w) A (.call (.ref f) args) (CR CX outer P w H s Q E) s
theorem FnOk.imp{k:Nat}{v:Sp}(F:FnOk P w K mg base CX k f fd ps sp)(h:∀vs H Q E,v vs H Q E->sp vs H Q E):FnOk P w K mg base CX k f fd ps v:=
 ⟨λvs H Q E q=>F.len vs H Q E (h _ _ _ _ q),λA g s H n us vs Q E z y I G B=>F.run A g s H n us vs Q E z y I G (h _ _ _ _ B)⟩
theorem Env0.make{g:List Env}(e:Env0 P w K mg base A g s H)(C:eg)(us:W9)(kw:List (Str×ay)):
  Env0 P w K mg base (A.under<|.builtin "type.__call__" ⟨.ref C::us,kw⟩) g s H:=⟨by first|exact e.frames|(simpa [Sy,Code.envs,Uk,pushEnvs] using e.frames),e.mod,e.bs,e.bsz,e.funs,e.frf,e.hok,e.bare⟩
section
variable{s':el}
theorem Inv.env0(I:Inv X WZ Z H s):Env0 X.prog X.w X.K X.mg X.base X.A X.stack s H:=
 ⟨I.ok.frames,I.ok.mod,I.bs,OQ I.ok.bsz I.sz,I.stack,I.stkFree,I.hok,I.bare⟩
theorem Inv.after{Q:VK}(I:Inv X WZ Z H s)(h:CE X.stack X.prog X.w H s Q u s'):EP X WZ Z Q u s':=by
 obtain⟨v,H',os,n,un,B,r,q⟩:=h;obtain⟨F,g,d,t,y⟩:=s';obtain rfl:y=s.os:=os;exact⟨v,H',I.call (h':=F) (g':=g) (d':=d) (t':=t) (ch:=[]) un B n (λb z=>absurd z (by simp)),r,q⟩
end
def Mq(sp:Sp)(dvs:List V)(E:XK)(t:TA):TE:=λZ H Q=>t Z H λg H1=>sp (g++dvs) H1 Q E
def Gd(C:eg)(m:Str)(sp:Sp)(dvs:List V)(E:XK)(ta:TE)(t:TA):TE:=λZ H Q=>ta Z H λx H1=>∃a dx fs,x=.ref a/\H1 a=ap (.ins C dx fs)/\fs.lookup m=cm/\
 t Z H1 λg H2=>sp (x::(g++dvs)) H2 Q E
def NS(C:eg)(sp:Sp)(dvs:List V)(E:XK)(t:TA):TE:=λZ H Q=>t Z H λg H1=>∀x dx,H1 x=cm->H1 dx=cm->dx≠x->
 sp (.ref x::(g++dvs)) (upd (upd H1 dx<|.own x) x<|.ins C dx []) (λv H2=>v=.non/\Q (.ref x) H2) E
def Binds(K:Ow)(fd:g4)(ps:W8)(ds:W9):Prop:=
 ∀(s:el)(us:W9),K.In s.heap->(us++ds).length=ps.length->Wi s fd ⟨us,[]⟩ (ps.zip (us++ds))
theorem Binds.all(h:∀us:List ay,us.length=ps.length->Wq fd ⟨us,[]⟩=pure (ps.zip us)):Binds K fd ps []:=λs us _ g=>by
 rw[Pm]at g ⊢;exact .of_eq (h us g)
def bS(CX:oo)(X:Cx)(E:XK):Prop:=∀(WZ:Xe)(Z:St)(H:Hp)(s:el)(e:ay)(s':el),Inv X WZ Z H s->CX X.stack H s E e s'->X.xe e s'
section
variable{k:Nat}{dvs:List V}{ds:W9}{E:XK}{W4:Pos}{o:fy}{t:TA}
theorem uM{Q:VK}{vs:List V}(F:FnOk X.prog X.w X.K X.mg X.base CX k f fd ps sp)(B:Room k X.A)(z:Binds X.K fd ps ds)(y:Vals dvs ds)(G:bS CX X E)(I:Inv X WZ Z H s)(r:Vals vs us)(h:sp (vs++dvs) H Q E):eH (ff X.prog X.w) X.A (call (.ref f) us) (EP X WZ Z Q) X.xe s:=by
 have n:Vals (vs++dvs) (us++ds):=r.append y;have v:(us++ds).length=ps.length:=by rw[<- n.length];exact F.len _ _ _ _ h
 refine wpAny_call (P3 (F.run X.A X.stack s H ⟨us,[]⟩ (us++ds) (vs++dvs) Q E B I.env0 (z s us I.kIn v) n h) λr q g=>?_);cases r with
 |error e=>exact G WZ Z H s e q I g
 |ok fl=>
  cases fl with
  |ret u=>exact I.after g
  |next=>exact PN g
  |brk=>exact PN g
  |cont=>exact PN g
theorem DH(F:FnOk X.prog X.w X.K X.mg X.base CX k f fd ps sp)(G:Room k X.A)(L:Gl X x)(B:X.mg x=ap (.ref f))(v:P4 X.K (.ref f)=true)(J:Binds X.K fd ps ds)(n:Vals dvs ds)(z:bS CX X E)(y:PA X (e::es) t)(g:(x==("__debug__":Str))=false:=by decide)(he:fe (e::es) X.env=(eC,gp e X.env)::fe es X.env:=by rfl)(hpl:(hG pos<|starEach es X.env).any (·.1)=false:=by rfl):
  PE X (.Call (.Name x p) (e::es) [] pos) (Mq sp dvs E t):=by
 intro WZ s Z H Q I h;refine ra (iD I L B ?_ g);refine S7 (h₀:=X.base) I.ok.mod.kin v (br (y pos WZ s Z H _ I h) λus R ⟨O,H1,I1,r,q⟩=>⟨I1.kIn,?_⟩) he hpl;exact uM F G J n z I1 r q
theorem FW{pl:Sem Bool}(S:PE X o ta)(c:Cls X.K C)(n:Meth X.K C m f)(F:FnOk X.prog X.w X.K X.mg X.base CX k f fd ps sp)(T:Room k X.A)(U:Binds X.K fd ps ds)(L:Vals dvs ds)(R:bS CX X E)(O:PA X (e::es) t)(g:fe (e::es) X.env=(eC,gp e X.env)::fe es X.env:=by rfl)(hpl:(hG pos<|starEach es X.env).any (·.1)=false:=by rfl)(ht:gp (.Call (.Attribute o m W4) (e::es) [] pos) X.env=(do
   let ov <- gp o X.env
   TD W4.atName
   let (f,first) <- tm [ov] (SZ ov m pl)
   Wb pos f first (hG pos<|starEach (e::es) X.env) (x9 pos<|keywordEach [] X.env)):=by rfl):
  PE X (.Call (.Attribute o m W4) (e::es) [] pos) (Gd C m sp dvs E ta t):=by
 intro WZ s Z H Q I h;refine W.methodCall_KW (pl:=pl) (br (S WZ s Z H _ I h) λu v B=>?_) ht;obtain⟨x,H1,I1,G,a,dx,fs,y,J,l,q⟩:=B;subst y;obtain rfl:u=OU a:=G;refine mx I1 J c n l ?_;refine S7 (first:=[.ref a]) (h₀:=X.base) I.ok.mod.kin n.kp (br (O pos WZ v Z H1 _ I1 q) λus Y ⟨vs,H2,I2,r,z⟩=>⟨I2.kIn,?_⟩) g hpl
 exact uM (us:=.ref a::us) (vs:=.ref a::vs) F T U L R I2 (.cons rfl r) z
theorem CJ{pl:Sem Bool}(J:PE X o ta)(c:Cls X.K C)(g:Meth X.K C m f)(F:FnOk X.prog X.w X.K X.mg X.base CX k f fd ps sp)(O:Room k X.A)(R:Binds X.K fd ps ds)(B:Vals dvs ds)(G:bS CX X E)(L:gp (.Call (.Attribute o m W4) [] [] pos) X.env=(do
   let ov <- gp o X.env
   TD W4.atName
   let (f,first) <- tm [ov] (SZ ov m pl)
   Wb pos f first (hG pos<|starEach [] X.env) (x9 pos<|keywordEach [] X.env)):=by rfl):
  PE X (.Call (.Attribute o m W4) [] [] pos) (Gd C m sp dvs E ta Mp):=by
 intro WZ s Z H Q I h;refine W.methodCall_KW (pl:=pl) (br (J WZ s Z H _ I h) λu S v=>?_) L;obtain⟨x,H1,I1,y,a,dx,fs,n,z,l,q⟩:=v;subst n;obtain rfl:u=OU a:=y;refine mx I1 z c g l ?_;exact W.callWith_K0 (first:=[.ref a]) I1.kIn g.kp (uM (us:=[.ref a]) (vs:=[.ref a]) F O R B G I1 (.cons rfl .nil) q)
structure Mk(K:Ow)(C f:eg):Prop where
 makes:Se K C=true
 init:Pp K (.ref C) "__init__"=ap (ap<|.ref f)
 fn:W.isFn K (.ref f)=true
 kp:P4 K (.ref C)=true
theorem CT{Q:VK}{vs:List V}(M:Mk X.K C f)(F:FnOk X.prog X.w X.K X.mg X.base CX k f fd ps sp)(R:Room (k+1) X.A)(O:Binds X.K fd ps ds)(L:Vals dvs ds)(S:bS CX X E)(I:Inv X WZ Z H s)(r:Vals vs us)(h:∀x dx,H x=cm->H dx=cm->dx≠x->sp (.ref x::(vs++dvs)) (upd (upd H dx<|.own x) x<|.ins C dx []) (λv H2=>v=.non/\Q (.ref x) H2) E):
  eH (ff X.prog X.w) X.A (call (.ref C) us) (EP X WZ Z Q) X.xe s:=by
 have n:=h (s.heap.objs.size+1) s.heap.objs.size (I.hok.fresh<|Te _) (I.hok.fresh<|Oz _) (ON<|Rb _);have I2:=Dp (C:=C) I;have q:Vals (V.ref (s.heap.objs.size+1)::(vs++dvs)) (OU (s.heap.objs.size+1)::(us++ds)):=.cons rfl (r.append L);have B:(OU (s.heap.objs.size+1)::us++ds).length=ps.length:=by
  have e:=q.length;rw[F.len _ _ _ _ n]at e;exact e.symm
 refine wpAny_call (Cr (f:=f) I.kIn M.makes M.init (beq_iff_eq.mp M.fn) (P3 (F.run _ X.stack _ _ ⟨OU (s.heap.objs.size+1)::us,[]⟩ (OU (s.heap.objs.size+1)::(us++ds)) _ _ E (R.make C us [])
  (I2.env0.make C us []) (O _ (OU (s.heap.objs.size+1)::us) I2.kIn B) q n) λr y g=>?_))
 cases r with
 |error e=>exact S WZ Z _ _ e y I2 g
 |ok fl=>
  cases fl with
  |ret u=>
   obtain⟨v,H',I3,J,G,z⟩:=I2.after g;subst G;exact⟨J,⟨V.ref (s.heap.objs.size+1),H',I3,rfl,z⟩⟩
  |next=>exact PN g
  |brk=>exact PN g
  |cont=>exact PN g
theorem E6(M:Mk X.K C f)(F:FnOk X.prog X.w X.K X.mg X.base CX k f fd ps sp)(B:Room (k+1) X.A)(J:Gl X x)(z:X.mg x=ap (.ref C))(G:Binds X.K fd ps ds)(n:Vals dvs ds)(y:bS CX X E)(v:PA X (e::es) t)(g:(x==("__debug__":Str))=false:=by decide)(he:fe (e::es) X.env=(eC,gp e X.env)::fe es X.env:=by rfl)(hpl:(hG pos<|starEach es X.env).any (·.1)=false:=by rfl):
  PE X (.Call (.Name x p) (e::es) [] pos) (NS C sp dvs E t):=by
 intro WZ s Z H Q I h;refine ra (iD I J z ?_ g);refine S7 (h₀:=X.base) I.ok.mod.kin M.kp (br (v pos WZ s Z H _ I h) λus O ⟨L,H1,I1,r,q⟩=>⟨I1.kIn,?_⟩) he hpl;exact CT M F B G n y I1 r q
end
section
variable{k:Nat}{ks:W8}{E:XK}{W4 kpos:Pos}{o:fy}{kws:List vr}{t tk:TA}{nm:Option Str}
variable{g:List ay->List ay->List ay}{gV:List V->List V->List V}
end
structure FnScope(N P:W8)(sc:z4):Prop where
 kind:sc.kind=.function
 co:sc.isCoroutine=eC
 gen:sc.isGenerator=eC
 nd:N.Nodup
 pre:N.take P.length=P
 par:∀x∈P,sc.names.lookup x=ap .local\/sc.names.lookup x=ap .cell
 nofree:∀y∈sc.names,y.2≠.free
theorem nZ{g:Str->Option V1}{x:Str}:∀{binds:List (Str×ay)}{m:Xf},(∀v,(x,v)∉binds)->WC g binds m x=m x
 |[],_,_=>rfl
 |(n,v)::r,m,h=>by
  unfold WC;rw[nZ λw q=>h w (OE _ q)]
  split
  .have:x≠n:=by rintro rfl;exact h v OL
   simp[this]
  .rfl
theorem oP{g:Str->Option V1}{x:Str}:∀{binds:List (Str×ay)}{m:Xf},(∀v,(x,v)∉binds)->WD g binds m x=m x
 |[],_,_=>rfl
 |(n,v)::r,m,h=>by
  unfold WD;rw[oP λw q=>h w (OE _ q)]
  split
  .rfl
  .have:x≠n:=by rintro rfl;exact h v OL
   simp[this]
theorem on{g:Str->Option V1}{x:Str}{v:ay}:∀{P:W8}{vs:W9}{i:Nat}{m:Xf},P.Nodup->P[i]?=ap x->vs[i]?=ap v->g x=ap .local->
  WC g (P.zip vs) m x=ap v
 |[],_,_,_,_,h,_,_=>by simp at h
 |_::_,[],_,_,_,_,h,_=>by simp at h
 |p::P,w::vs,0,m,nd,h1,h2,hk=>by
  simp at h1 h2;subst h1;subst h2;show WC g ((p,w)::P.zip vs) m p=_;unfold WC;rw[nZ λv n=>(Qy.mp nd).1 (QU n).1,if_pos hk];simp
 |p::P,w::vs,i+1,m,nd,h1,h2,hk=>by
  show WC g ((p,w)::P.zip vs) m x=_;unfold WC;exact on (i:=i) (Qy.mp nd).2 (by simpa using h1) (by simpa using h2) hk
theorem oH{g:Str->Option V1}{x:Str}{v:ay}:∀{P:W8}{vs:W9}{i:Nat}{m:Xf},P.Nodup->P[i]?=ap x->vs[i]?=ap v->g x≠ap .local->
  WD g (P.zip vs) m x=ap v
 |[],_,_,_,_,h,_,_=>by simp at h
 |_::_,[],_,_,_,_,h,_=>by simp at h
 |p::P,w::vs,0,m,nd,h1,h2,hk=>by
  simp at h1 h2;subst h1;subst h2;show WD g ((p,w)::P.zip vs) m p=_;unfold WD;rw[oP λv n=>(Qy.mp nd).1 (QU n).1,if_neg hk];simp
 |p::P,w::vs,i+1,m,nd,h1,h2,hk=>by
  show WD g ((p,w)::P.zip vs) m x=_;unfold WD;exact oH (i:=i) (Qy.mp nd).2 (by simpa using h1) (by simpa using h2) hk
def start(N:W8)(vs:List V):St:=vs.map ap++OZ (N.length-vs.length) cm
def dF(CX:oo)(P:fx)(w:g3)(K:Ow)(mg:Xf)(base:hI)(N:W8)(W0:Str)(scope:z4)(f:eg)(cd:ay)(A:ix)(outer:List Env)(s:el)(H:Hp)(E:XK):Cx where
 prog:=P
 w:=w
 K:=K
 mg:=mg
 base:=base
 A:=A.deeper (envOfC W0 scope s.heap.objs.size f cd)
 N:=N
 s₀:=s
 H₀:=H
 env:=envOfC W0 scope s.heap.objs.size f cd
 outer:=outer
 stack:=envOfC W0 scope s.heap.objs.size f cd::outer
 ex:=[]
 calm:=true
 fn:=λ_=>true
 pn:=[]
 xe:=λe n=>eH (ff P w) (A.deeper<|envOfC W0 scope s.heap.objs.size f cd) (leaving (envOfC W0 scope s.heap.objs.size f cd) e) (λ_ g=>CX outer H s E e g) (λq g=>CX outer H s E q g) n
theorem sw{g:z4}{n:Nat}(h:g.names.lookup x=ap .cell):∃c,(s9 n g.names []).lookup x=ap c:=by
 have q:=Rk g.names n [] (.inl h);exact Qd.mp q
theorem zT{F:Str}{g:z4}{U:ay}{B:List Env}{s1:el}{E:XK}{vs:List V}(S:FnScope N ps g)(hd:A.handled=cm)(I:Env0 P w K mg base A B s H)(hl:vs.length=ps.length)(r:Vals vs us)(x:InCallC s s.heap.objs.size (WC (envOfC F g s.heap.objs.size f U).kindOf (ps.zip us) λ_=>cm) (s9 (s.heap.objs.size+1) g.names []) (WD (envOfC F g s.heap.objs.size f U).kindOf (ps.zip us) λ_=>cm) s1):
  Inv (dF CX P w K mg base N F g f U A B s H E) [] (start N vs) H s1:=by
 have hpl:ps.length<=N.length:=by have:=congrArg QI S.pre;rw[R0]at this;lia
 obtain⟨R,tk,rfl,Y⟩:=x.done;have J:∀b:eg,b∉(dF CX P w K mg base N F g f U A B s H E).ex:=λb z=>absurd (show b∈([]:Xa) from z) (by simp)
 refine⟨⟨I.mod,S.kind,rfl,rfl,Oz _,λy z c R G=>?_,λy hy=>?_,λy c _ h=>?_,λ_=>hd,Around.frames_deeper I.frames,.inr ⟨rfl,rfl⟩,λb z=>absurd z (J b),I.bs,I.bsz,λb _ _=>J b,λb z=>absurd z (J b),I.funs,I.frf⟩,
  rfl,I.bare,Un.kept Y,⟨_,x.toInCall.ns,λi y v R G h3=>?_⟩,λy c h=>⟨_,x.cell y c h⟩,I.hok.fresh (Oz _),λy c h=>?_,λp O=>absurd (show p∈([]:Xe) from O) (by simp),I.hok.kept Y,?_⟩
 .exact name_of_addr x.apart (Pz R) (Pz G)
 .have hy:g.names.lookup y=ap .cell\/g.names.lookup y=ap .free:=hy
  rcases hy with hy|hy
  .exact sw hy
  .exact absurd rfl (S.nofree _<|Pz hy)
 .exact UB (x.above y c<|Pz h)
 .have T:i<vs.length:=by
   unfold start at G
   by_cases T:i<vs.length
   .exact T
   .rw[Pw (by simpa using T)]at G
    rw[T9]at G
    split at G<;>cases G
  have ha:vs[i]?=ap v:=by
   unfold start at G;rw[PL (by simpa using T),OJ]at G
   cases e:vs[i]? with
   |none=>rw[e]at G;cases G
   |some a=>rw[e]at G;cases G;rfl
  obtain⟨u,W,rv⟩:=r.get ha;have O:ps[i]?=ap y:=by
   rw[<- S.pre,List.getElem?_take_of_lt (by lia)];exact R
  have L:ps.Nodup:=by rw[<- S.pre];exact S.nd.sublist (List.take_sublist _ _)
  refine⟨u,rv,?_⟩;rcases S.par y (Rh O) with k|k
  .exact .inl ⟨k,on L O W k⟩
  .obtain⟨c,e⟩:=sw (n:=s.heap.objs.size+1) k
   refine .inr ⟨.inl k,c,e,?_⟩;have q:=x.cell y c e;rw[oH L O W (by show g.names.lookup y≠_;rw[k];decide)]at q
   exact q
 .exact I.hok.fresh (UB<|x.above y c<|Pz h)
 .unfold start
  show _=N.length;rw[OG,Ot,List.length_replicate];lia
theorem Ha{k:Nat}{name B:Str}{G:Arguments}{g:z4}{dV kV doc pm F ct oc:ay}{an od:Option eg}{osl:Array (Option ay)}(lk:K.lookup f=ap ⟨oc,od,.func (Rj name B G body g dV kV doc pm an F ct),osl⟩)(hcd:S6 K F B=true)(S:FnScope N ps g)(len:∀vs H Q E,sp vs H Q E->vs.length=ps.length)(R:∀(A:ix)(z:List Env)(s:el)(H:Hp)(vs:List V)(Q:VK)(E:XK),Room k (A.deeper<|envOfC B g s.heap.objs.size f F)->sp vs H Q E->
   ∃t,xC (dF CX P w K mg base N B g f F A z s H E) body t/\t { nx:=λ_ H'=>Q .non H',rt:=Q } (start N vs) H):
  FnOk P w K mg base CX (k+1) f (Rj name B G body g dV kV doc pm an F ct) ps sp:=by
 refine⟨len,λA z s H args us vs Q E hr Y hb r U=>?_⟩;have hl:=len _ _ _ _ U;have KX:K.In s.heap:=Y.mod.kin.keeps λb o e=>(Y.bs b o e).1;have lim:s.heap.NoLimit:=Y.mod.nolimit.keeps λb o e=>(Y.bs b o e).1;have O:∀y∈ps.zip us,g.names.lookup y.1=ap .local\/(g.names.lookup y.1=ap .cell/\((s9 (s.heap.objs.size+1) g.names []).lookup y.1).isSome=true):=λ⟨n,v⟩ hy=>by
  rcases S.par n (QU hy).1 with q|q
  .exact .inl q
  .exact .inr ⟨q,Rk _ _ _<|.inl q⟩
 refine codeAny_call_function hr.depth (KX _ _ lk) rfl S.co S.gen rfl (W.codeRec_of KX hcd) (hb _ _ _ _ ?_);refine wpAny_newFunctionEnv_cells S.kind O λenv he s1 x=>?_;subst he;refine⟨lim.keeps x.toInCall.keep,codeAny_func ?_⟩;obtain⟨t,ht,hq⟩:=R A z s H vs Q E (hr.deeper _) U;have I:Inv (dF CX P w K mg base N B g f F A z s H E) [] (start N vs) H s1:=zT S hr.hd Y hl r x;refine mu (ht [] s1 (start N vs) H _ I hq) (λfl s' T=>?_) λe s' T=>T;have fin:∀{L:St}{H':Hp}{v:V}{u:ay},Inv (dF CX P w K mg base N B g f F A z s H E) [] L H' s'->RelV v u->Q v H'->CE z P w H s Q u s':=
  λ{L H' v u} J rv q=>⟨v,H',J.os,J.bare,J.base,J.hok,rv,q⟩
 cases fl with
 |ret u=>
  obtain⟨v,L,H',J,rv,q⟩:=T;exact fin J rv q
 |next=>
  obtain⟨L,H',J,q⟩:=T;exact fin (v:=V.non) (u:=Qq) J rfl q
 |brk=>
  obtain⟨_,_,_,q⟩:=T;exact PN q
 |cont=>
  obtain⟨_,_,_,q⟩:=T;exact PN q
section
variable{t:TA}{id T:String}{r:List V->Hp->VK->Prop}
def tCB(r:List V->Hp->VK->Prop)(t:TA):TE:=λZ H Q=>t Z H λg H1=>r g H1 Q
theorem Av(B:bL X (.builtin id) r)(J:Gl X x)(G:X.mg x=cm)(y:gl x=ap (.builtin id))(z:PA X (e::es) t)(F:x≠"__name__":=by decide)(hdb:(x==("__debug__":Str))=false:=by decide)(he:fe (e::es) X.env=(eC,gp e X.env)::fe es X.env:=by rfl)(hpl:(hG pos<|starEach es X.env).any (·.1)=false:=by rfl):PE X (.Call (.Name x p) (e::es) [] pos) (tCB r t):=by
 intro WZ s Z H Q I h;refine ra (eG I J G y ?_ F hdb);exact PyProof.Rows.callWith_builtin1 (br (z pos WZ s Z H _ I h) λus v ⟨q,H1,I1,n,g⟩=>B WZ v Z H1 q us Q I1 n g) he hpl
theorem zJ(B:bL X (.type T) r)(J:Gl X x)(G:X.mg x=cm)(y:gl x=ap (.type T))(z:PA X (e::es) t)(F:x≠"__name__":=by decide)(hdb:(x==("__debug__":Str))=false:=by decide)(he:fe (e::es) X.env=(eC,gp e X.env)::fe es X.env:=by rfl)(hpl:(hG pos<|starEach es X.env).any (·.1)=false:=by rfl):PE X (.Call (.Name x p) (e::es) [] pos) (tCB r t):=by
 intro WZ s Z H Q I h;refine ra (eG I J G y ?_ F hdb);exact Pk (br (z pos WZ s Z H _ I h) λus v ⟨q,H1,I1,n,g⟩=>B WZ v Z H1 q us Q I1 n g) he hpl
end
end _2
namespace HT
open PySem PyProof.Rows
section
open PySem.SeqAt
open PySem.AutoSeq1 (wpAny_loadPart')
open PySem.MeetsSeq PySem.MeetsSeq2 PySem.MeetsSeq3
end
section
variable {prog:fx}{w:g3}{A:ix}{E:Xd}{s:el}
theorem FL{t b:eg}{vs a:W9}{Q:Xd}(F:Wg s.heap t vs.toArray)(G:Wg s.heap b a.toArray)(z:vs≠[])
  (B:a=[]->Q (.ref t) s) (C:a≠[]->Q (.ref s.heap.objs.size) { s with heap:=s.heap.push { cls:=.type "tuple",data:=.seq (vs++a).toArray } })
  (hsz:vs.length+a.length<=sizeLine):eH (ff prog w) A (hB .Add (.ref t)<|.ref b) Q E s:=by
 obtain⟨⟨cls,y,data,x⟩,j,v,n,p⟩:=id F;obtain⟨⟨q,i,o,h⟩,c,f,u,g⟩:=id G;simp only at v p f g;subst v p f g;have e:vs.toArray++a.toArray=(vs++a).toArray:=by simp
 by_cases m:a=[]
 .exact WL ⟨_,j,rfl⟩ ⟨_,c,rfl⟩ We Wv RW RP (RK _ _)
   (tuple_addW1 t b vs.toArray a.toArray n u y i x h (by simpa using z)<|by simp[m]) ⟨j,c,B m⟩
 .refine WL ⟨_,j,rfl⟩ ⟨_,c,rfl⟩ We Wv RW RP (RK _ _)
   (tuple_addW2 t b vs.toArray a.toArray n u y i x h (by simpa using z) (by simpa using m)<|by rw[OB,OB];exact hsz) ⟨j,c,?_⟩
  rw[e];exact C m
def sIx(n d:Nat):Option Int->Nat
 |none=>d
 |some v=>if v<0 then (v+(n:Int)).toNat else min v.toNat n
theorem Cc(n d:Nat):sIx n d cm=d:=rfl
theorem DF(n d k:Nat):sIx n d (ap (k:Int))=min k n:=by
 show (if (k:Int)<0 then ((k:Int)+(n:Int)).toNat else min (k:Int).toNat n)=min k n
 rw[if_neg (by lia),OF]
theorem KS(n d:Nat)(b:d<=n)(o:Option Int):sIx n d o<=n:=by
 cases o with
 |none=>exact b
 |some v=>
  show (if v<0 then (v+(n:Int)).toNat else min v.toNat n)<=n
  by_cases a:v<0
  .rw[if_pos a];lia
  .rw[if_neg a];exact Nat.min_le_right _ _
theorem wI(v:Int)(n d:Nat):(if v<0 then max (v+(n:Int)) 0 else min v (n:Int))=((sIx n d (ap v):Nat):Int):=by
 show (if v<0 then max (v+(n:Int)) 0 else min v (n:Int))=(((if v<0 then (v+(n:Int)).toNat else min v.toNat n):Nat):Int)
 by_cases a:v<0
 .simp only[if_pos a];lia
 .simp only[if_neg a];lia
theorem vS(b a:Option Int)(n:Nat):Ra b a 1 (n:Int)=(((sIx n 0 b:Nat):Int),((sIx n n a:Nat):Int)):=by
 have c:¬((1:Int)<0):=by lia
 unfold Ra;simp only[c,if_false];refine Prod.ext ?_ ?_
 .cases b with
  |none=>rfl
  |some v=>exact wI v n 0
 .cases a with
  |none=>rfl
  |some v=>exact wI v n n
theorem wg(i j:Nat):Qx (i:Int) (j:Int) 1=j-i:=by
 unfold Qx;have a:(1:Int)>0:=by lia
 simp only[a,if_true,Int.ediv_one]
 split<;>lia
theorem my{v:ay}{o:Option Int}{Q:Option Int->el->Prop}(p:V2 v o)(h:Q o s):eH (ff prog w) A (Builtin.Slice.slicePartIndex v) Q E s:=by
 cases p with
 |none=>exact slicePart_none h
 |int i t=>exact slicePart_int h
theorem eM{i:eg}{g f:ay}{a e:Option Int}{n:Nat}{Q:Int×Int×Nat->el->Prop}(o:s.heap.IsSliceOf i g f .none)(pl:V2 g a)(m:V2 f e)
  (h:Q (((sIx n 0 a:Nat):Int),1,sIx n n e-sIx n 0 a) s):eH (ff prog w) A (Ss (.ref i)<|pure (n:Int)) Q E s:=by
 obtain⟨p,c,j,b⟩:=id o;unfold Ss Builtin.Slice.sliceFields;refine ax (ax<|wpAny_field c b (x:=g) rfl<|wpAny_bind<|wpAny_field c b (x:=f) rfl<|wpAny_bind<|wpAny_field c b (x:=.none) rfl<|wpAny_pure ?_);refine ax (slicePart_none ?_);show eH _ _ (if ((1:Int)==0)=true then _ else _) _ _ s
 rw[if_neg (by decide)]
 refine ax (my pl<|wpAny_bind<|my m<|wpAny_bind<|wpAny_pure ?_);show eH _ _ (match Ra a e 1 (n:Int) with|(a,e)=>pure (a,(1:Int),Qx a e 1)) _ _ s
 rw[vS a e n];show eH _ _ (pure (((sIx n 0 a:Nat):Int),(1:Int),Qx ((sIx n 0 a:Nat):Int) ((sIx n n e:Nat):Int) 1)) _ _ s;rw[wg];exact eX h
theorem BN(xs:Xg)(i k:Nat):((Pe k).filterMap λ(m:Nat)=>xs[((i:Int)+(m:Int)*1).toNat]?).toArray=((xs.toList.drop i).take k).toArray:=by
 have e:(λ(m:Nat)=>xs[((i:Int)+(m:Int)*1).toNat]?)=λm=>xs[i+m]?:=by
  funext m;have:((i:Int)+(m:Int)*1).toNat=i+m:=by lia
  rw[this]
 rw[e];have:=pick_run xs i k;rw[List.filterMap_map]at this;have a:((λx=>xs[x]?) ∘ λx=>i+x)=λm=>xs[i+m]?:=rfl;rw[a]at this;rw[this]
theorem ik{t n:eg}{items:Xg}{p o:ay}{b c:Option Int}{Q:Xd}(e:Wg s.heap t items)(u:s.heap.IsSliceOf n p o .none)(pl:V2 p b)(y:V2 o c)
  (z:¬(sIx items.size 0 b=0/\sIx items.size items.size c=items.size))
  (h:Q (.ref s.heap.objs.size) { s with heap:=s.heap.push { cls:=.type "tuple",data:=.seq ((items.toList.drop<|sIx items.size 0 b).take (sIx items.size items.size c-sIx items.size 0 b)).toArray } })
  (hsz:items.size<=sizeLine):eH (ff prog w) A (VT (.ref t)<|.ref n) Q E s:=by
 have a:sizeOk (.seq ((items.toList.drop<|sIx items.size 0 b).take (sIx items.size items.size c-sIx items.size 0 b)).toArray):=by
  show ((items.toList.drop<|sIx items.size 0 b).take (sIx items.size items.size c-sIx items.size 0 b)).toArray.size<=sizeLine;rw[OB,R0,List.length_drop,Rr];lia
 have B:sIx items.size items.size c<=items.size:=KS _ _ (Oz _) c;obtain⟨x,j,g,v⟩:=id u;have f:s.TypeIs (.ref n) "slice":=⟨x,j,g⟩;unfold VT
 try with_reducible refine n7 ?_
 first|refine ax (eX ?_)|skip
 refine ax (wpAny_sequenceKey e.typeIs (by decide) ?_)
 refine ax (wpAny_callSpecial?_slot (name:=PH "__getitem__") e.typeIs PB
  (kr PB e.typeIs entry_tuple_getitem ?_<|args_tuple_getitem _ _))
 show eH _ _ (Sr (.ref t) >>= _) _ _ s;refine ax (tupleItemsOf_ e ?_);refine ax (PP f ?_);rw[if_pos (by decide)]
 refine ax (eM u pl y ?_);have i:¬((((sIx items.size 0 b:Nat):Int)==0&&(1:Int)==1&&(sIx items.size items.size c-sIx items.size 0 b)==items.size)=true):=by
  intro q;rw[PR,PR]at q;have C:((sIx items.size 0 b:Nat):Int)=0:=eq_of_beq q.1.1;have F:sIx items.size items.size c-sIx items.size 0 b=items.size:=eq_of_beq q.2;exact z ⟨by lia,by lia⟩
 show eH _ _ (if (((sIx items.size 0 b:Nat):Int)==0&&(1:Int)==1&&(sIx items.size items.size c-sIx items.size 0 b)==items.size)=true then _ else _) _ _ s
 rw[if_neg i,BN]
 first
  |exact ax (m:=P9 _) (pa (eX ⟨_,rfl,eX h⟩) a)
  |exact ax (m:=P9 _) (pa (ax<|wpAny_pure<|wpAny_pure ⟨_,rfl,eX h⟩) a)
  |exact ax (ax (m:=P9 _)<|wpAny_newObj_type (eX<|wpAny_pure ⟨_,rfl,eX h⟩) a)
  |exact ax (ax (m:=P9 _)<|wpAny_newObj_type (eX ⟨_,rfl,eX h⟩) a)
end
end HT
namespace _2
open PySem PySem.Spec PyProof.Rows
variable{a b:eg}{A:ix}{X:Cx}{e o:fy}{H H':Hp}{WZ:Xe}{xs:List (List aF×eg×ay)}{W5:W9}{n t':Nat}{pos:Pos}{P:fx}{s:el}{Z:St}{α:Type}{u:ay}{E Q:Xd}{w:g3}
abbrev TO:=St->Hp->(Option Int->Hp->Prop)->Prop
def PO(X:Cx)(e:Option fy)(t:TO):Prop:=
 ∀(WZ:Xe)(s:el)(Z:St)(H:Hp)(Q:Option Int->Hp->Prop),Inv X WZ Z H s->t Z H Q->
  eH (ff X.prog X.w) X.A (evalPart e X.env) (λu c=>∃o H',Inv X WZ Z H' c/\V2 u o/\Q o H') X.xe s
def FJ:TO:=λ_ H Q=>Q cm H
def N8(t:TE):TO:=λZ H Q=>t Z H λx H1=>∃i,x=.int i/\Q (ap i) H1
section
variable{te:TE}{lo hi:Option fy}{tl th:TO}{p2:Pos}
theorem FT:PO X cm FJ:=by
 intro WZ s Z H Q I h;rw[evalPart_none];exact eX ⟨cm,H,I,.none,h⟩
theorem Fd(h:PE X e te):PO X (ap e) (N8 te):=by
 intro WZ s Z H Q I c;rw[evalPart_some];refine br (h WZ s Z H _ I c) λu j ⟨x,H1,I1,f,g⟩=>?_;obtain⟨i,rfl,q⟩:=g;obtain⟨t,rfl⟩:=f;exact⟨ap i,H1,I1,.int i t,q⟩
def LJ(X:Cx)(r:V->Option Int->Option Int->Hp->VK->Prop):Prop:=
 ∀(WZ:Xe)(s:el)(Z:St)(H:Hp)(x:V)(v vl vu:ay)(lo hi:Option Int)(sl:eg)(Q:VK),Inv X WZ Z H s->RelV x v->s.heap.IsSliceOf sl vl vu .none->V2 vl lo->V2 vu hi->r x lo hi H Q->
  ∃T id,On (.type T) "__getitem__"=pure (ap<|.builtin id)/\s.TypeIs v T/\eH (ff X.prog X.w) X.A (VT v<|.ref sl) (EP X WZ Z Q) X.xe s
def tSl(r:V->Option Int->Option Int->Hp->VK->Prop)(te:TE)(tl th:TO):TE:=λZ H Q=>te Z H λx H1=>tl Z H1 λl H2=>th Z H2 λu H3=>r x l u H3 Q
theorem Ce{r:V->Option Int->Option Int->Hp->VK->Prop}(L:LJ X r)(M:PE X e te)(J:PO X lo tl)(K:PO X hi th):PE X (.Subscript e (.Slice lo hi cm p2) pos) (tSl r te tl th):=by
 intro WZ s Z H Q I h;refine Subscript_ (br (M WZ s Z H _ I h) λv m ⟨x,H1,I1,y,z⟩=>?_);refine wpAny_Slice (br (J WZ m Z H1 _ I1 z) λf F ⟨l,H2,I2,pl,C⟩=>br (K WZ F Z H2 _ I2 C) λg c ⟨u,H3,I3,p,i⟩=>?_);rw[evalPart_none];refine eX ?_;have I4:Inv X WZ Z H3 { c with heap:=c.heap.push { cls:=.type "slice",data:=.fields #[f,g,.none] } }:=I3.kept (t':=c.toks) λb N q=>Oq _ q;obtain⟨T,id,B,G,j⟩:=L WZ { c with heap:=c.heap.push { cls:=.type "slice",data:=.fields #[f,g,.none] } } Z H3 x v f g l u c.heap.objs.size Q I4 y (Heap.IsSliceOf.new ..) pl p i;show eH (ff X.prog X.w) X.A (subscriptTail e (.Slice lo hi cm p2) v<|.ref c.heap.objs.size) (EP X WZ Z Q) X.xe { c with heap:=c.heap.push { cls:=.type "slice",data:=.fields #[f,g,.none] } };exact tail_any (ops:=[.ref c.heap.objs.size,v]) G B j (by with_unfolding_all rfl)
def jR(xs:List V)(lo hi:Option Int):List V:=(xs.drop<|HT.sIx xs.length 0 lo).take (HT.sIx xs.length xs.length hi-HT.sIx xs.length 0 lo)
theorem jF(xs:List V)(lo hi:Option Int):(jR xs lo hi).length<=xs.length:=by
 unfold jR;rw[R0,List.length_drop];lia
def rSlT(K:Ow):V->Option Int->Option Int->Hp->VK->Prop:=λx lo hi H Q=>∃a xs,x=.ref a/\i7 K H a xs/\
 ¬(HT.sIx xs.length 0 lo=0/\HT.sIx xs.length xs.length hi=xs.length)/\∀p,H p=cm->Q (.ref p) (upd H p<|.tup<|jR xs lo hi)
theorem Ke:LJ X (rSlT X.K):=by
 intro WZ s Z H x v B C lo hi F Q I y m pl j h;obtain⟨a,xs,rfl,i,p,q⟩:=h;cases y;obtain⟨W5,r,f,g⟩:=I.tuple i;have c:W5.toArray.size=xs.length:=by rw[OB];exact r.length.symm
 refine⟨"tuple",_,PB.lookup,f.typeIs,?_⟩;refine HT.ik f m pl j (by rw[c];exact p) ?_ (by rw[c];exact g)
 rw[c];refine⟨.ref s.heap.objs.size,_,I.laid (t':=s.toks) (o:=.tup (jR xs lo hi)) (λb z q=>Oq _ q) (Oz _) ?_,rfl,q _<|I.hok.fresh<|Oz _⟩;exact⟨OQ (jF xs lo hi) g,_,(r.drop<|HT.sIx xs.length 0 lo).take (HT.sIx xs.length xs.length hi-HT.sIx xs.length 0 lo),⟨_,OD _ rfl,⟨rfl,_,rfl⟩,rfl⟩⟩
def NO(K:Ow):R2:=λx y H Q=>∃a b xs ys,x=.ref a/\y=.ref b/\i7 K H a xs/\i7 K H b ys/\xs≠[]/\xs.length+ys.length<=sizeLine/\
 (ys=[]->Q (.ref a) H)/\(ys≠[]->∀p,H p=cm->Q (.ref p) (upd H p<|.tup (xs++ys)))
theorem Vals.nil_iff{xs:List V}{us:W9}(r:Vals xs us):us=[]↔xs=[]:=by
 cases r with
 |nil=>simp
 |cons _ _=>simp
theorem FD:cC X (hB .Add) (NO X.K):=by
 intro WZ s Z H x y v u Q I C J h;obtain⟨a,b,xs,G,rfl,rfl,i,F,j,g,m,p⟩:=h;cases C;cases J;obtain⟨W5,c,B,_⟩:=I.tuple i;obtain⟨f,r2,p2,_⟩:=I.tuple F;refine HT.FL B p2 (λz=>j (c.nil_iff.mp z)) (λz=>⟨.ref a,H,I,rfl,m<|r2.nil_iff.mp z⟩) (λz=>?_) (by rw[<- c.length,<- r2.length];exact g)
 refine⟨.ref s.heap.objs.size,_,I.laid (t':=s.toks) (o:=.tup (xs++G)) (λb L q=>Oq _ q) (Oz _) ?_,rfl,p (λw=>z (r2.nil_iff.mpr w)) _<|I.hok.fresh<|Oz _⟩;exact⟨by rw[OG];exact g,_,c.append r2,⟨_,OD _ rfl,⟨rfl,_,rfl⟩,rfl⟩⟩
end
def rS(n:Nat)(i:Int):Option Nat:=if 0<=i then (if i<n then ap i.toNat else cm) else if -(n:Int)<=i then ap (i+n).toNat else cm
def atI{α:Type}(xs:List α)(i:Int):Option α:=(rS xs.length i).bind λj=>xs[j]?
theorem qc{i:Int}{j:Nat}(h:rS n i=ap j):WB i n=ap j/\j<n/\-(n:Int)<=i/\i<n:=by
 unfold rS at h
 by_cases f:0<=i
 .rw[if_pos f]at h
  by_cases c:i<n
  .rw[if_pos c]at h
   have e:i.toNat=j:=Px h;exact⟨by rw[WV f c,e],by lia,by lia,c⟩
  .rw[if_neg c]at h;cases h
 .rw[if_neg f]at h
  by_cases c:-(n:Int)<=i
  .rw[if_pos c]at h
   have e:(i+n).toNat=j:=Px h;exact⟨by rw[WJ (by lia) c,e],by lia,c,by lia⟩
  .rw[if_neg c]at h;cases h
theorem rL{xs:List α}{i:Int}{v:α}(h:atI xs i=ap v):∃j,WB i xs.length=ap j/\xs[j]?=ap v/\j<xs.length/\-(xs.length:Int)<=i/\i<xs.length:=by
 unfold atI at h;cases e:rS xs.length i with
 |none=>rw[e]at h;cases h
 |some j=>
  rw[e]at h;obtain⟨f,g,c,m⟩:=qc e;exact⟨j,f,h,g,c,m⟩
def wt(b:fy):Prop:=∀o i,subscripted b eC o i=operate [o,i] (VT o i)
def IxR(X:Cx)(r:R2):Prop:=
 ∀(value slice:fy)(WZ:Xe)(s:el)(Z:St)(H:Hp)(x y:V)(v u:ay)(Q:VK),Inv X WZ Z H s->RelV x v->RelV y u->r x y H Q->
  subscripted slice eC v u=operate [v,u] (VT v u)->eH (ff X.prog X.w) X.A (subscriptTail value slice v u) (EP X WZ Z Q) X.xe s
def ym(X:Cx)(id:String)(r:V->List V->Hp->VK->Prop):Prop:=
 ∀(WZ:Xe)(s:el)(Z:St)(H:Hp)(x:V)(xs:List V)(v:ay)(us:W9)(Q:VK),Inv X WZ Z H s->RelV x v->Vals xs us->r x xs H Q->
  eH (ff X.prog X.w) X.A (call (.builtin id) (v::us)) (EP X WZ Z Q) X.xe s
section
variable{a b:fy}{ta tb:TE}
theorem IxR.or{r m:R2}(h:IxR X r)(h':IxR X m):IxR X (λx y H Q=>r x y H Q\/m x y H Q):=by
 intro c f WZ s Z H x y v u Q I i j q g;rcases q with q|q
 .exact h c f WZ s Z H x y v u Q I i j q g
 .exact h' c f WZ s Z H x y v u Q I i j q g
theorem NR{r:R2}(m:IxR X r)(i:PE X a ta)(p:PE X b tb)(j:wt b):PE X (.Subscript a b pos) (M_ r ta tb):=by
 intro WZ s Z H Q I h;exact Subscript_ (KW i p I h λv u c x y H2 I2 f g q=>m a b WZ c Z H2 x y v u Q I2 f g q (j _ _))
def NA(K:Ow):R2:=λx y H Q=>∃p xs i v,x=.ref p/\y=.int i/\SqL K H p xs/\atI xs i=ap v/\Q v H
def Mn(K:Ow):R2:=λx y H Q=>∃p xs i v,x=.ref p/\y=.int i/\i7 K H p xs/\atI xs i=ap v/\Q v H
def Nc:R2:=λx y H Q=>∃z i c,x=.str z/\y=.int i/\z.length<=sizeLine/\atI z.cps.toList i=ap c/\Q (.str ⟨#[c]⟩) H
theorem ix_list:IxR X (NA X.K):=by
 intro g B WZ s Z H x y v u Q I N T h C;obtain⟨p,xs,i,z,rfl,rfl,R,S,q⟩:=h;cases N;obtain⟨t,rfl⟩:=T;obtain⟨W5,r,pl,hz⟩:=I.list R;obtain⟨j,c,M,W,O,L⟩:=rL S;obtain⟨w,F,f⟩:=r.get M;have U:=r.length;have Y:=fR;have fin:EP X WZ Z Q w s:=⟨z,H,I,f,q⟩
 by_cases G:0<=i
 .have m:i.toNat=j:=by
   rw[WV G L]at c;exact Px c
  exact item_listR pl.isList G (by lia) (by rw[m];simpa using F) fin C
 .have m:(i+(W5.toArray.size:Int)).toNat=j:=by
   rw[WJ (by lia) O]at c
   rw[OB,<- U];exact Px c
  exact WI (x:=w) pl.isList.typeIs slot_list_getitem.lookup
   (wpAny_getItem_list_neg (Q:=λr J=>r=w/\EP X WZ Z Q r J) pl.isList (by lia) (by rw[OB]<;>lia) (by lia) (by rw[m];simpa using F) ⟨rfl,fin⟩) C
theorem ix_tup:IxR X (Mn X.K):=by
 intro f g WZ s Z H x y v u Q I F N h C;obtain⟨p,xs,i,z,rfl,rfl,G,J,q⟩:=h;cases F;obtain⟨t,rfl⟩:=N;obtain⟨W5,r,pl,W⟩:=I.tuple G;obtain⟨j,L,B,T,S,R⟩:=rL J;obtain⟨w,M,c⟩:=r.get B;have O:=r.length;have U:=fR;have fin:EP X WZ Z Q w s:=⟨z,H,I,c,q⟩
 exact WI (x:=w) pl.typeIs slot_tuple_getitem.lookup
  (getItem_tuple (j:=j) (Q:=λr m=>r=w/\EP X WZ Z Q r m) pl (by lia) (by lia) (by rw[OB,<- O];exact L) (by simpa using M) ⟨rfl,fin⟩) C
theorem C6:IxR X Nc:=by
 intro f g WZ s Z H x y v u Q I L N h J;obtain⟨z,i,c,rfl,rfl,S,C,q⟩:=h;obtain⟨t,rfl⟩:=L;obtain⟨t',rfl⟩:=N;obtain⟨j,m,F,O,M,B⟩:=rL C;have K:z.cps.toList.length=z.length:=by simp[Str.length]
 rw[K]at m M B;have R:=fR;exact tail_any (typeIs_str s z t) slot_str_getitem.lookup (getItem_str (c:=c) (by
  have G:decide (i < -(2 ^ 63:Int))=false:=decide_eq_false (by lia)
  have p:decide (i>=2 ^ 63)=false:=decide_eq_false (by lia)
  rw[G,p,QT]) (by rw[m];simpa using F) ⟨.str ⟨#[c]⟩,H,I.tok _,⟨_,rfl⟩,q⟩) J
def rIx(K:Ow):R2:=λx y H Q=>NA K x y H Q\/Mn K x y H Q\/Nc x y H Q
theorem J3:IxR X (rIx X.K):=ix_list.or (ix_tup.or C6)
theorem vo(W5:W9)(n j:Nat)(u:ay):SA (·.setIfInBounds j u) { cls:=.type "list",data:=.seq W5.toArray n }={ cls:=.type "list",data:=.seq (W5.set j u).toArray n }:=by
 simp[SA]
theorem Inv.lst{WZ:Xe}{Z:St}{H:Hp}{s:el}{p:eg}{xs:List V}(I:Inv X WZ Z H s)(h:H p=ap (.lst xs)):
  ∃(W5:W9)(n:Nat),Vals xs W5/\s.heap.get? p=ap { cls:=.type "list",data:=.seq W5.toArray n }/\xs.length<=sizeLine:=by
 obtain⟨z,W5,n,r,e⟩:=I.hok p _ h;exact⟨W5,n,r,e,z⟩
theorem Inv.lstUpd{p:eg}{xs ys:List V}{its':W9}{n':Nat}{f:Obj->Obj}(I:Inv X WZ Z H s)(h:H p=ap (.lst xs))(ho:s.heap.get? p=ap { cls:=.type "list",data:=.seq W5.toArray n })(hf:f { cls:=.type "list",data:=.seq W5.toArray n }={ cls:=.type "list",data:=.seq its'.toArray n' })(r:Vals ys its')(hz:ys.length<=sizeLine)(t:Nat):
  Inv X WZ Z (upd H p<|.lst ys) { s with heap:=s.heap.update p f,toks:=t }:=by
 have e:(s.heap.update p f).get? p=ap { cls:=.type "list",data:=.seq its'.toArray n' }:=by
  rw[Uy f ho (by rw[hf]<;>rfl),hf]
 refine I.write (x:=p) (e:=p) (by rw[h];trivial) (.inl rfl) (λb u hb q=>(Ui _ _<|OW hb).trans q) ⟨_,e⟩ ?_
 exact⟨hz,its',n',r,e⟩
def Ng:V->V->V->Hp->(Hp->Prop)->Prop:=λo i v H Q=>∃p xs k j,o=.ref p/\i=.int k/\H p=ap (.lst xs)/\rS xs.length k=ap j/\Q (upd H p<|.lst<|xs.set j v)
theorem C2:FQ X Ng:=by
 intro WZ s Z H o i v L N u Q I F G J h;obtain⟨p,xs,k,j,rfl,rfl,y,C,q⟩:=h;cases F;obtain⟨t,rfl⟩:=G;obtain⟨W5,n,r,g,K⟩:=I.lst y;obtain⟨c,M,B,x⟩:=qc C;have m:=r.length;have O:=fR;have I':Inv X WZ Z (upd H p<|.lst<|xs.set j v) { s with heap:=s.heap.update p (SA (·.setIfInBounds j u)) }:=
  I.lstUpd y g (vo W5 n j u) (r.set J j) (by rw[Qz];exact K) s.toks
 by_cases z:0<=k
 .have f:k.toNat=j:=by
   rw[WV z x]at c;exact Px c
  exact W.ki_setAt g z (by lia) (by rw[OB,<- m];exact x) (by rw[f];exact⟨_,I',q⟩)
 .have f:(k+(W5.toArray.size:Int)).toNat=j:=by
   rw[WJ (by lia) B]at c
   rw[OB,<- m];exact Px c
  exact W.ki_setBack g (by lia) (by rw[OB,<- m];exact B) (by lia) (by rw[f];exact⟨_,I',q⟩)
theorem pf(f c:Option Int)(n:Nat):(Sc f c cm n).1=((HT.sIx n 0 f:Nat):Int)/\(Sc f c cm n).2.1=((HT.sIx n n c:Nat):Int)/\(Sc f c cm n).2.2=1:=by
 refine⟨?_,?_,rfl⟩
 .cases f with
  |none=>simp[Sc,HT.sIx]
  |some i=>
   simp only[Sc,HT.sIx,UT,show (1:Int)>0 by decide,if_true]
   by_cases h:i<0
   .simp only[h,if_true]<;>lia
   .simp only[h,if_false]<;>lia
 .cases c with
  |none=>simp[Sc,HT.sIx]
  |some i=>
   simp only[Sc,HT.sIx,UT,show (1:Int)>0 by decide,if_true]
   by_cases h:i<0
   .simp only[h,if_true]<;>lia
   .simp only[h,if_false]<;>lia
theorem nv(W5:W9)(c f:Option Int):slicePick W5.toArray c f cm=((W5.drop<|HT.sIx W5.length 0 c).take (HT.sIx W5.length W5.length f-HT.sIx W5.length 0 c)).toArray:=by
 obtain⟨i,g,h⟩:=pf c f W5.toArray.size;unfold slicePick;rw[i,g,h];simp only[sliceRange_one,pick_run,OB]<;>rfl
def rSlL(K:Ow):V->Option Int->Option Int->Hp->VK->Prop:=λx c f H Q=>∃a xs,x=.ref a/\SqL K H a xs/\∀p,H p=cm->Q (.ref p) (upd H p<|.lst<|jR xs c f)
theorem wR:LJ X (rSlL X.K):=by
 intro WZ s Z H x v C F f g G Q I y p pl m h;obtain⟨a,xs,rfl,j,q⟩:=h;cases y;obtain⟨W5,r,i,z⟩:=I.list j;have c:=r.length;refine⟨"list",_,slot_list_getitem.lookup,i.isList.typeIs,?_⟩;refine wpAny_getItem_list_slice i.isList p pl m .none (by simp) ?_ (by rw[OB]<;>lia)
 rw[nv,<- c];refine⟨.ref s.heap.objs.size,_,I.laid (t':=s.toks) (o:=.lst (jR xs f g)) (λb B q=>Oq _ q) (Oz _) ?_,rfl,q _<|I.hok.fresh<|Oz _⟩;exact⟨OQ (jF xs f g) z,_,0,(r.drop<|HT.sIx xs.length 0 f).take (HT.sIx xs.length xs.length g-HT.sIx xs.length 0 f),OD _ rfl⟩
def Ak:V->Bool
 |.non=>true
 |.bl _=>true
 |.int _=>true
 |.str _=>true
 |_=>eC
def rR:V->V->Bool
 |.non,.non=>true
 |.bl a,.bl b=>a==b
 |.bl a,.int b=>(if a then 1 else 0)==b
 |.int a,.bl b=>a==(if b then 1 else 0)
 |.int a,.int b=>a==b
 |.str a,.str b=>a==b
 |_,_=>eC
theorem BK{y x:V}{v:ay}(f:RelV y u)(c:RelV x v)(h:Ak y=true)(g:Ak x=true):R5 A s u v (rR y x):=by
 cases y with
 |non=>
  cases f;cases x with
  |non=>cases c;exact SeqAt.EqAt.same _
  |bl b=>cases c;exact SeqAt.EqAt.none_bool b
  |int b=>obtain⟨t,rfl⟩:=c;exact TK b t
  |str b=>obtain⟨t,rfl⟩:=c;exact TJ b t
  |_=>exact absurd (show eC=true from g) OS
 |bl a=>
  cases f;cases x with
  |non=>cases c;exact SeqAt.EqAt.bool_none a
  |bl b=>cases c;exact SeqAt.EqAt.bool_bool a b
  |int b=>obtain⟨t,rfl⟩:=c;exact SeqAt.EqAt.bool_int a b t
  |str b=>obtain⟨t,rfl⟩:=c;exact SeqAt.EqAt.bool_str a b t
  |_=>exact absurd (show eC=true from g) OS
 |int a=>
  obtain⟨t',rfl⟩:=f;cases x with
  |non=>cases c;exact TL a t'
  |bl b=>cases c;exact SeqAt.EqAt.int_bool a t' b
  |int b=>obtain⟨t,rfl⟩:=c;exact SeqAt.EqAt.int_int a t' b t
  |str b=>obtain⟨t,rfl⟩:=c;exact TX a t' b t
  |_=>exact absurd (show eC=true from g) OS
 |str a=>
  obtain⟨t',rfl⟩:=f;cases x with
  |non=>cases c;exact TH a t'
  |bl b=>cases c;exact SeqAt.EqAt.str_bool a t' b
  |int b=>obtain⟨t,rfl⟩:=c;exact TV a t' b t
  |str b=>obtain⟨t,rfl⟩:=c;exact SeqAt.EqAt.str_str a t' b t
  |_=>exact absurd (show eC=true from g) OS
 |_=>exact absurd (show eC=true from h) OS
theorem rJ:bL X (.builtin "len") (λxs H Q=>∃p ys,xs=[.ref p]/\(SqL X.K H p ys\/i7 X.K H p ys)/\Q (.int ys.length) H):=by
 intro WZ s Z H xs j Q I r h;obtain⟨p,ys,rfl,hq,q⟩:=h;obtain⟨u,rfl,g⟩:=iq r;cases g;have m:=fR;rcases hq with hq|hq
 .obtain⟨W5,f,pl,i⟩:=I.list hq
  have c:=f.length;exact Calls.call_len_list pl.isList (by simp only[OB]<;>lia) ⟨.int ys.length,H,I.tok _,⟨s.toks+1,by rw[OB,c]⟩,q⟩
 .obtain⟨W5,f,pl,i⟩:=I.tuple hq
  have c:=f.length;exact len_tuple pl (by simp only[OB]<;>lia) ⟨.int ys.length,H,I.tok _,⟨s.toks+1,by rw[OB,c]⟩,q⟩
theorem qB:bL X (.builtin "len") (λxs H Q=>∃z,xs=[.str z]/\z.length<=sizeLine/\Q (.int z.length) H):=by
 intro WZ s Z H xs c Q I r h;obtain⟨z,rfl,g,q⟩:=h;obtain⟨u,rfl,t,rfl⟩:=iq r;have f:=fR;exact len_str (by lia) ⟨.int z.length,H,I.tok _,⟨_,rfl⟩,q⟩
theorem qh:bL X (.type "list") (λxs H Q=>∃p ys,xs=[.ref p]/\(SqL X.K H p ys\/i7 X.K H p ys)/\∀l,H l=cm->Q (.ref l) (upd H l<|.lst ys)):=by
 intro WZ s Z H xs z Q I r h;obtain⟨p,ys,rfl,hq,q⟩:=h;obtain⟨u,rfl,y⟩:=iq r;cases y
 have fin:∀(W5:W9),Vals ys W5->ys.length<=sizeLine->∀(c:hI)(f:Nat),(∀b o',s.heap.get? b=ap o'->c.get? b=ap o')->
   c.get? s.heap.objs.size=ap { cls:=.type "list",dict:=cm,data:=.seq W5.toArray f,slots:=#[] }->EP X WZ Z Q (.ref s.heap.objs.size) { s with heap:=c }:=λW5 g j c f kp e=>
  ⟨.ref s.heap.objs.size,_,I.laid (t':=s.toks) kp (Oz _) (show ObjOk X.prog X.w _ c _ (.lst ys) from ⟨j,W5,f,g,e⟩),rfl,q _<|I.hok.fresh<|Oz _⟩
 rcases hq with hq|hq
 .obtain⟨W5,g,pl,j⟩:=I.list hq
  have i:=g.length;obtain⟨o,m,v,n,x⟩:=pl.isList;exact call_list_seq p (.inl rfl) m v x (λc f kp e=>fin W5 g j c f kp e) (by simp only[OB]<;>lia)
 .obtain⟨W5,g,pl,j⟩:=I.tuple hq
  have i:=g.length;obtain⟨o,m,v,n,x⟩:=pl;exact call_list_seq p (.inr rfl) m v x (λc f kp e=>fin W5 g j c f kp e) (by simp only[OB]<;>lia)
theorem gS:bL X (.type "tuple") (λxs H Q=>∃p ys,xs=[.ref p]/\((SqL X.K H p ys/\∀l,H l=cm->Q (.ref l) (upd H l<|.tup ys))\/(i7 X.K H p ys/\Q (.ref p) H))):=by
 intro WZ s Z H xs v Q I r h;obtain⟨p,ys,rfl,h⟩:=h;obtain⟨u,rfl,m⟩:=iq r;cases m;rcases h with⟨g,q⟩|⟨g,q⟩
 .obtain⟨W5,f,pl,j⟩:=I.list g
  have i:=f.length;refine call_tuple_list pl.isList (λc kp=>?_) (by simp only[OB]<;>lia)
  have I1:Inv X WZ Z H { s with heap:=c }:=I.kept (t':=s.toks) kp;have I2:Inv X WZ Z (upd H c.objs.size<|.tup ys) { s with heap:=c.push { cls:=.type "tuple",data:=.seq W5.toArray } }:=
   I1.laid (t':=s.toks) (λb o e=>Oq _ e) (Oz _) (show ObjOk X.prog X.w _ _ _ (.tup ys) from ⟨j,W5,f,⟨_,OD _ rfl,⟨rfl,_,rfl⟩,rfl⟩⟩)
  exact⟨.ref c.objs.size,_,I2,rfl,q _<|I1.hok.fresh<|Oz _⟩
 .obtain⟨W5,f,pl,j⟩:=I.tuple g
  exact call_tuple_same pl ⟨.ref p,H,I,rfl,q⟩
def tyV(K:Ow)(T:String)(x:V)(H:Hp):Prop:=match x with
 |.str _=>T="str"
 |.int _=>T="int"
 |.ref p=>(T="list"/\∃xs,SqL K H p xs)\/(T="tuple"/\∃o,K.lookup p=ap o/\o.cls=.type "tuple"/\o.dict=cm)\/
   (T="dict"/\((∃W1,H p=ap (.dK W1))\/∃W1,H p=ap (.dT W1)))\/(T="set"/\∃S n,H p=ap (.set S n))
 |_=>False
theorem BS{T:String}{x:V}{v:ay}(I:Inv X WZ Z H s)(r:RelV x v)(ty:tyV X.K T x H):
  s.TypeIs v T/\∀a,v=.ref a->∃q,s.heap.get? a=ap q/\q.dict=none:=by
 cases x with
 |str z=>
  obtain⟨t,rfl⟩:=r;cases (show T="str" from ty);exact⟨typeIs_str s z t,λ_ e=>nomatch e⟩
 |int i=>
  obtain⟨t,rfl⟩:=r;cases (show T="int" from ty);exact⟨typeIs_int s i t,λ_ e=>nomatch e⟩
 |ref p=>
  cases r;rcases ty with⟨rfl,xs,y⟩|⟨rfl,o,f,hc,j⟩|⟨rfl,f⟩|⟨rfl,S,n,f⟩
  .obtain⟨W5,_,pl,_⟩:=I.list y
   refine⟨pl.isList.typeIs,λa e=>?_⟩;cases e;obtain⟨o,n,e,c,j,_⟩:=pl;exact⟨o,e,j⟩
  .refine⟨⟨o,I.kIn p o f,hc⟩,λa e=>?_⟩
   cases e;exact⟨o,I.kIn _ o f,j⟩
  .have z:∃o,s.heap.get? p=ap o/\o.ExactDict:=by
    rcases f with⟨m,f⟩|⟨m,f⟩
    .obtain⟨_,_,_,_,o,_,_,e,g,_⟩:=I.hok p _ f
     exact⟨o,e,g⟩
    .obtain⟨_,_,_,_,o,_,_,e,g,_⟩:=I.hok p _ f
     exact⟨o,e,g⟩
   obtain⟨o,e,g⟩:=z;refine⟨⟨o,e,g.1⟩,λa h=>?_⟩;cases h;exact⟨o,e,g.2.1⟩
  .obtain⟨o,_,_,_,e,g,_⟩:=I.hok p _ f
   refine⟨⟨o,e,g.1⟩,λa h=>?_⟩;cases h;exact⟨o,e,g.2.1⟩
 |_=>exact PN ty
def tBM0(K:Ow)(T:String)(r:V->List V->Hp->VK->Prop)(to:TE):TE:=λZ H Q=>to Z H λx H1=>tyV K T x H1/\r x [] H1 Q
def tBM(K:Ow)(T:String)(r:V->List V->Hp->VK->Prop)(to:TE)(t:TA):TE:=λZ H Q=>to Z H λx H1=>tyV K T x H1/\t Z H1 λxs H2=>r x xs H2 Q
variable{es:Xb}{to:TE}{t:TA}{name:Str}{W4 W3:Pos}{T id:String}{r:V->List V->Hp->VK->Prop}
theorem Ii(y:VU T)(f:Wx T name id)(g:V7 (.builtin id)=pure (.type "method_descriptor"))(hm:ym X id r)(z:PE X o to)(c:nr o name X.env (gp o X.env)=gp o X.env:=by rfl)(hline:(W4.endLine==W3.line)=true:=by rfl):PE X (.Call (.Attribute o name W4) [] [] W3) (tBM0 X.K T r to):=by
 intro WZ s Z H Q I h;refine wpAny_Call_method0_late c hline (br (z WZ s Z H _ I h) λv q ⟨x,H1,I1,i,ty,j⟩=>?_);obtain⟨m,p⟩:=BS I1 i ty;exact⟨T,id,y,f,g,m,p,Qs rfl<|PySem.evalArgs_none<|hm WZ q Z H1 x [] v [] Q I1 i .nil j⟩
theorem LZ(L:VU T)(f:Wx T name id)(g:V7 (.builtin id)=pure (.type "method_descriptor"))(N:ym X id r)(M:PE X o to)(J:PA X (e::es) t)(c:nr o name X.env (gp o X.env)=gp o X.env:=by rfl)(hfew:((hG W3<|starEach (e::es) X.env).all (λx=>!x.1)&&(x9 W3<|keywordEach [] X.env).all (λx=>x.1.isSome)
   && decide ((e::es).length+([]:List vr).length+(if ([]:List vr).isEmpty then 0 else 1)<30))=true:=by rfl)(hline:(W4.endLine==W3.line)=true:=by rfl)(hs:fe (e::es) X.env=(eC,gp e X.env)::fe es X.env:=by rfl)(hplain:(hG W3<|starEach es X.env).any (·.1)=false:=by rfl):
  PE X (.Call (.Attribute o name W4) (e::es) [] W3) (tBM X.K T r to t):=by
 intro WZ s Z H Q I h;refine WH c hfew hline rfl (br (M WZ s Z H _ I h) λv q ⟨x,H1,I1,j,ty,z⟩=>?_);obtain⟨m,p⟩:=BS I1 j ty;refine⟨T,id,L,f,g,m,p,?_⟩;have i:=J W3 WZ q Z H1 _ I1 z;rw[hs]at i ⊢;refine Qs (by show (eC||(hG W3<|starEach es X.env).any (·.1))=eC;rw[hplain]<;>rfl) (QH ?_)
 exact br i λy C ⟨F,H2,I2,G,B⟩=>N WZ C Z H2 x F v y Q I2 j G B
end
def MtM(X:Cx)(id:String)(r:V->List V->Hp->VK->Prop):Prop:=
 ∀(WZ:Xe)(s:el)(Z:St)(H:Hp)(x:V)(xs:List V)(v:ay)(us:W9)(Q:VK),Inv X WZ Z H s->RelV x v->Vals xs us->r x xs H Q->
  eH (ff X.prog X.w) X.A (call (.builtin id) (v::us)) (EP X WZ Z Q) X.xe s
theorem Vals.one:∀{x:V}{us:W9},Vals [x] us->∃u,us=[u]/\RelV x u
 |_,_,h=>by cases h with|cons r q=>cases q;exact⟨_,rfl,r⟩
theorem Vals.two:∀{x y:V}{us:W9},Vals [x,y] us->∃u v,us=[u,v]/\RelV x u/\RelV y v
 |_,_,_,h=>by cases h with|cons r q=>cases q with|cons q z=>cases z;exact⟨_,_,rfl,r,q⟩
theorem Vals.zero:∀{us:W9},Vals [] us->us=[]
 |_,.nil=>rfl
theorem Vals.dropLast{xs:List V}{us:W9}(h:Vals xs us):Vals xs.dropLast us.dropLast:=by
 induction h with
 |nil=>exact .nil
 |cons r t ih=>
  cases t with
  |nil=>exact .nil
  |cons q t'=>exact .cons r ih
theorem Vals.eraseIdx:∀{xs:List V}{us:W9}(i:Nat),Vals xs us->Vals (xs.eraseIdx i) (us.eraseIdx i)
 |_,_,_,.nil=>.nil
 |_,_,0,.cons _ t=>t
 |_,_,i+1,.cons r t=>.cons r (Vals.eraseIdx i t)
theorem Vals.rep{xs:List V}{us:W9}(h:Vals xs us):∀k:Nat,Vals (OZ k xs).flatten (OZ k us).flatten
 |0=>.nil
 |k+1=>by
  rw[PD,PD,QD,QD];exact Vals.append h (Vals.rep h k)
theorem uQ(l:List α):l.eraseIdx (l.length-1)=l.dropLast:=by
 induction l with
 |nil=>rfl
 |cons a r ih=>
  cases r with
  |nil=>rfl
  |cons b r=>
   have e:(a::b::r).length-1=((b::r).length-1)+1:=by
    have f:(a::b::r).length=r.length+2:=rfl;have c:(b::r).length=r.length+1:=rfl;lia
   rw[e,List.eraseIdx_cons_succ,ih]
   all_goals rfl
theorem nP{α:Type}:∀(l:List α)(i:Nat),(l.eraseIdx i).length<=l.length
 |[],_=>Oz _
 |_::_,0=>Te _
 |_::r,i+1=>Nat.succ_le_succ (nP r i)
section
variable{l:eg}{xs ys zs:List V}
theorem Inv.lset{its':W9}{f:Array ay->Array ay}{t':Nat}(I:Inv X WZ Z H s)(hH:H l=ap (.lst xs))(e:s.heap.get? l=ap { cls:=.type "list",data:=.seq W5.toArray n })(hf:f W5.toArray=its'.toArray)(hv:Vals ys its')(hz:ys.length<=sizeLine):
  Inv X WZ Z (upd H l<|.lst ys) { s with heap:=s.heap.update l (SA f),toks:=t' }:=by
 have q:=PySem.IsL.update e f;rw[hf]at q;refine I.write (x:=l) (e:=l) (by rw[hH];exact trivial) (.inl rfl) (λb' u hb hu=>(Ui s.heap (SA f)<|OW hb).trans hu) ⟨_,q⟩ ?_
 exact⟨hz,its',_,hv,q⟩
theorem Inv.lnew{t':Nat}(I:Inv X WZ Z H s)(f:Vals ys W5)(c:ys.length<=sizeLine):
  Inv X WZ Z (upd H s.heap.objs.size<|.lst ys) { s with heap:=s.heap.push { cls:=.type "list",data:=.seq W5.toArray },toks:=t' }:=
 I.laid (λ_ _ q=>Oq _ q) (Oz _) ⟨c,W5,0,f,OD _ rfl⟩
theorem Inv.fresh(I:Inv X WZ Z H s):H s.heap.objs.size=none:=I.hok.fresh (Oz _)
theorem Inv.lstM(I:Inv X WZ Z H s)(c:H l=ap (.lst xs)):xs.length<=sizeLine/\∃(W5:W9)(n:Nat),Vals xs W5/\xs.length=W5.length/\s.heap.get? l=ap { cls:=.type "list",data:=.seq W5.toArray n }:=by
 obtain⟨z,W5,n,r,e⟩:=I.hok l _ c;exact⟨z,W5,n,r,r.length,e⟩
end
section
def F8:V->List V->Hp->VK->Prop:=λx c H Q=>∃l xs y,x=.ref l/\c=[y]/\H l=ap (.lst xs)/\xs.length<sizeLine/\Q .non (upd H l<|.lst (xs++[y]))
theorem zX:MtM X "list.append" F8:=by
 intro WZ s Z H x p v j Q I i g h;obtain⟨l,xs,y,rfl,rfl,c,B,q⟩:=h;cases i;obtain⟨u,rfl,f⟩:=g.one;obtain⟨z,W5,n,r,m,e⟩:=I.lstM c;refine vb Sm ⟨_,e,rfl⟩ F.entry_list_append (F.args_list_append_2 _ _) (UR l W5.toArray n u<|by rw[OB];lia) ⟨e,?_⟩
 refine⟨.non,_,I.lset (its':=W5++[u]) c e (by simp) (r.append<|.cons f .nil) ?_,rfl,q⟩
 rw[OG,PY];lia
def rPop:V->List V->Hp->VK->Prop:=λx c H Q=>∃l xs y,x=.ref l/\c=[]/\H l=ap (.lst xs)/\xs[xs.length-1]?=ap y/\Q y (upd H l<|.lst xs.dropLast)
theorem L1:MtM X "list.pop" rPop:=by
 intro WZ s Z H x J v G Q I B m h;obtain⟨l,xs,y,rfl,rfl,g,C,q⟩:=h;cases B;have c:=m.zero;subst c;obtain⟨z,W5,n,r,p,e⟩:=I.lstM g;obtain⟨u,i,j⟩:=r.get C;have f:W5.toArray[W5.toArray.size-1]?=ap u:=by
  show W5.toArray[W5.length-1]?=ap u;rw[<- Uv,<- p];exact i
 refine vb RD ⟨_,e,rfl⟩ F.entry_list_pop (F.args_list_pop_1 _) (MeetsSeq.list_pop_last l W5.toArray n u f<|by rw[OB];lia) ⟨e,?_⟩
 refine⟨y,_,I.lset (its':=W5.dropLast) g e ?_ r.dropLast ?_,j,q⟩
 .show W5.toArray.eraseIdxIfInBounds (W5.toArray.size-1)=W5.dropLast.toArray
  rw[OB,SW,uQ]
 .rw[List.length_dropLast]
  lia
def Kw:V->List V->Hp->VK->Prop:=λx c H Q=>∃l xs i k y,x=.ref l/\c=[.int i]/\H l=ap (.lst xs)/\-(2 ^ 63)<=i/\i<2 ^ 63/\WB i xs.length=ap k/\xs[k]?=ap y/\Q y (upd H l<|.lst<|xs.eraseIdx k)
theorem Al:MtM X "list.pop" Kw:=by
 intro WZ s Z H x M v L Q I J p h;obtain⟨l,xs,i,k,y,rfl,rfl,f,g,j,C,K,q⟩:=h;cases J;obtain⟨u,rfl,m⟩:=p.one;obtain⟨t,rfl⟩:=m;obtain⟨z,W5,n,r,G,e⟩:=I.lstM f;obtain⟨w,B,c⟩:=r.get K
 refine vb RD ⟨_,e,rfl⟩ F.entry_list_pop (F.args_list_pop_2 _ _)
  (MeetsSeq.list_pop_at l W5.toArray n i t k w (fitsIndex_both g j) (by rw[OB,<- G];exact C) (by rw[<- Uv];exact B)<|by rw[OB];lia) ⟨e,?_⟩
 refine⟨y,_,I.lset (its':=W5.eraseIdx k) f e ?_ (r.eraseIdx k) ?_,c,q⟩
 .show W5.toArray.eraseIdxIfInBounds k=(W5.eraseIdx k).toArray
  rw[SW]
 .have:=nP xs k
  lia
theorem EM(xs:List α)(k:Nat):(OZ k xs).flatten.length=k*xs.length:=by
 induction k with
 |zero=>simp
 |succ k ih=>rw[PD,QD,OG,ih,Nat.succ_mul,Nat.add_comm]
end
section
variable{prog:fx}
set_option maxRecDepth 100000 in
end
section
end
section
variable{κ:Type}[DecidableEq κ]
def dQ(W1:List (κ×V))(k:κ):Option V:=(W1.find? λc=>decide (c.1=k)).map (·.2)
def cL(W1:List (κ×V))(k:κ)(v:V):List (κ×V):=
 if (W1.any λc=>decide (c.1=k))=true then W1.map (λc=>if c.1=k then (c.1,v) else c) else W1++[(k,v)]
def g_(W1:List (κ×V))(k:κ):List (κ×V):=W1.filter λc=>decide (c.1≠k)
theorem lS{p:κ×V}{r:List (κ×V)}{k:κ}(e:p.1=k):dQ (p::r) k=ap p.2:=by simp[dQ,PX,e]
theorem lE{p:κ×V}{r:List (κ×V)}{k:κ}(e:¬p.1=k):dQ (p::r) k=dQ r k:=by simp[dQ,PX,e]
theorem tW(k:κ):∀c:List (κ×V),(c.any λkv=>decide (kv.1=k))=(dQ c k).isSome
 |[]=>rfl
 |p::r=>by
  rw[Qi]
  by_cases e:p.1=k
  .simp only[lS e,decide_eq_true e,Sa,UG]
  .rw[lE e,decide_eq_false e,Qj];exact tW k r
theorem fU(c:List (κ×V))(k:κ)(v:V):(cL c k v).length<=c.length+1:=by
 unfold cL
 split
 .rw[Ot];lia
 .rw[OG,Oy,Pf];lia
theorem RelO.isSome_eq{o:Option V}{u:Option ay}(r:RelO o u):o.isSome=u.isSome:=by
 cases o with
 |none=>cases u with
  |none=>rfl
  |some _=>exact(show False from r).elim
 |some _=>cases u with
  |none=>exact(show False from r).elim
  |some _=>rfl
theorem KV.val{c:List (κ×V)}{vs:List (κ×ay)}(r:KV c vs)(k:κ):RelO (dQ c k) (VS vs k):=by
 unfold KV at r
 induction r with
 |nil=>exact Qh
 |@cons p q ps qs h t ih=>
  obtain⟨g,i⟩:=h
  by_cases e:p.1=k
  .have f:q.1=k:=g.symm.trans e
   have b:VS (q::qs) k=ap q.2:=by simp[VS,PX,f]
   rw[lS e,b];exact i
  .have f:¬q.1=k:=λz=>e (g.trans z)
   have b:VS (q::qs) k=VS qs k:=by simp[VS,PX,f]
   rw[lE e,b];exact ih
theorem KV.any{c:List (κ×V)}{vs:List (κ×ay)}(r:KV c vs)(k:κ):(c.any λkv=>decide (kv.1=k))=vs.any λkv=>decide (kv.1=k):=by
 unfold KV at r
 induction r with
 |nil=>rfl
 |cons h t ih=>rw[Qi,Qi,ih,h.1]
theorem KV.repl{c:List (κ×V)}{vs:List (κ×ay)}(r:KV c vs)(k:κ){y:V}(i:RelV y u):
  KV (c.map λkv=>if kv.1=k then (kv.1,y) else kv) (vs.map λkv=>if kv.1=k then (kv.1,u) else kv):=by
 unfold KV at r ⊢
 induction r with
 |nil=>exact .nil
 |@cons p q ps qs h t ih=>
  rw[Ou,Ou];refine .cons ?_ ih;obtain⟨f,g⟩:=h
  by_cases e:p.1=k
  .rw[if_pos e,if_pos (f.symm.trans e)];exact⟨f,i⟩
  .rw[if_neg e,if_neg (λz=>e (f.trans z))];exact⟨f,g⟩
theorem KV.put{c:List (κ×V)}{vs:List (κ×ay)}(r:KV c vs)(k:κ){y:V}(f:RelV y u):KV (cL c k y) (UF vs k u):=by
 unfold cL UF;rw[r.any k]
 by_cases e:(vs.any λg=>decide (g.1=k))=true
 .rw[if_pos e,if_pos e];exact r.repl k f
 .rw[if_neg e,if_neg e];exact Paired.snoc r ⟨rfl,f⟩
theorem KV.drop{c:List (κ×V)}{vs:List (κ×ay)}(r:KV c vs)(k:κ):KV (g_ c k) (without vs k):=by
 unfold KV at r ⊢;unfold g_ without
 induction r with
 |nil=>exact .nil
 |@cons p q ps qs h t ih=>
  obtain⟨f,i⟩:=h;rw[Pb,Pb]
  by_cases e:p.1=k
  .have a:¬decide (p.1≠k)=true:=by simp[e]
   have b:¬decide (q.1≠k)=true:=by simp[f.symm.trans e]
   rw[if_neg a,if_neg b];exact ih
  .have g:¬q.1=k:=λz=>e (f.trans z)
   have a:decide (p.1≠k)=true:=by simp[e]
   have b:decide (q.1≠k)=true:=by simp[g]
   rw[if_pos a,if_pos b];exact .cons ⟨f,i⟩ ih
theorem KV.length{c:List (κ×V)}{vs:List (κ×ay)}(r:KV c vs):c.length=vs.length:=P6 r
theorem AE(c:List (κ×V))(k:κ):(g_ c k).length<=c.length:=Ph _ _
end
theorem iB{k:aF}(r:RelV (kV k) u):(aV P w).is k u=true:=by
 cases k with
 |inl i=>obtain⟨t,e⟩:=(show ∃t,u=Qw i t from r);subst e;exact r_ P w i t
 |inr x=>obtain⟨t,e⟩:=(show ∃t,u=RV x t from r);subst e;exact tS P w x t
theorem oa{P:fx}{w:g3}:∀{ks:List aF}{us:W9},Vals (ks.map kV) us->ItemsAre (aV P w) ks us
 |[],_,r=>by rw[OV]at r;cases r;exact .nil
 |k::ks,_,r=>by
  rw[Ou]at r;cases r with
  |cons h t=>exact .cons (iB h) (oa t)
abbrev KT(H:Hp):List (List aF×V)->List (List aF×eg×ay)->Prop:=VV λp q=>p.1=q.1/\H q.2.1=ap (.tup<|p.1.map kV)/\RelV p.2 q.2.2
theorem KT.val{c:List (List aF×V)}(r:KT H c xs)(k:List aF):RelO (dQ c k) ((Wr xs k).map (·.2)):=by
 induction r with
 |nil=>exact Qh
 |@cons p q ps qs h t ih=>
  obtain⟨g,_,i⟩:=h
  by_cases e:p.1=k
  .have f:q.1=k:=g.symm.trans e
   have b:Wr (q::qs) k=ap q.2:=by simp[Wr,PX,f]
   rw[lS e,b];exact i
  .have f:¬q.1=k:=λz=>e (g.trans z)
   have b:Wr (q::qs) k=Wr qs k:=by simp[Wr,PX,f]
   rw[lE e,b];exact ih
theorem KT.repl{c:List (List aF×V)}(r:KT H c xs)(k:List aF){y:V}(j:RelV y u):
  KT H (c.map λkv=>if kv.1=k then (kv.1,y) else kv) (xs.map<|putAt k u):=by
 induction r with
 |nil=>exact .nil
 |@cons p q ps qs h t ih=>
  rw[Ou,Ou];refine .cons ?_ ih;obtain⟨f,g,i⟩:=h;unfold putAt
  by_cases e:p.1=k
  .rw[if_pos e,if_pos (f.symm.trans e)];exact⟨f,g,j⟩
  .rw[if_neg e,if_neg (λz=>e (f.trans z))];exact⟨f,g,i⟩
theorem KT.put{c:List (List aF×V)}(r:KT H c xs)(k:List aF){y:V}(h:H b=ap (.tup<|k.map kV))(f:RelV y u):
  KT H (cL c k y) (storedH xs k b u):=by
 have e:(c.any λg=>decide (g.1=k))=(Wr xs k).isSome:=by
  rw[tW,(r.val k).isSome_eq,Sz]
 unfold cL storedH;rw[e]
 by_cases q:(Wr xs k).isSome=true
 .rw[if_pos q,if_pos q];exact r.repl k f
 .rw[if_neg q,if_neg q];exact Paired.snoc r ⟨rfl,h,f⟩
theorem KT.keeps{c:List (List aF×V)}(r:KT H c xs)(f:∀b ys,H b=ap (.tup ys)->H' b=ap (.tup ys)):KT H' c xs:=
 eA r λ_ _ z=>⟨z.1,f _ _ z.2.1,z.2.2⟩
section
variable{h:hI}
theorem Go{u:HO}(ok:HOk P w H h)(e:Rd H a u):ObjOk P w H h a u:=e.ok ok
theorem ib{c:List (aF×V)}(ok:HOk P w H h)(e:Rd H a (.dK c)):c.length<=sizeLine/\(a==Op)=eC/\∃vs,KV c vs/\h.DictOf (aV P w) a vs:=
 show ObjOk P w H h a (.dK c) from Go ok e
theorem Aq{c:List (aF×V)}(ok:HOk P w H h)(e:H a=ap (.dK c)):c.length<=sizeLine/\(a==Op)=eC/\∃vs,KV c vs/\h.DictOf (aV P w) a vs:=ib ok (.inl e)
theorem me{ks:List aF}(ok:HOk P w H h)(e:H a=ap (.tup<|ks.map kV)):(Wz<|aV P w).is h ks a:=by
 obtain⟨_,W5,r,o,f,⟨g,n,c⟩,_⟩:=(show ObjOk P w H h a (.tup<|ks.map kV) from ok a _ e);exact⟨o,W5.toArray,n,f,g,c,by simpa using oa r⟩
theorem oe{c:List (List aF×V)}(ok:HOk P w H h)(e:Rd H a (.dT c)):c.length<=sizeLine/\(a==Op)=eC/\
  ∃xs,KT H c xs/\h.DictOfH (Wz<|aV P w) a xs:=by
 obtain⟨z,y,xs,r,o,j,v,g,i,B,C,f⟩:=(show ObjOk P w H h a (.dT c) from Go ok e);refine⟨z,y,xs,r,o,j,v,g,i,B,C,λx hx=>?_,f⟩;have all:∀{l:List (List aF×V)}{m:List (List aF×eg×ay)},KT H l m->∀x∈m,(Wz<|aV P w).is h x.1 x.2.1:=by
  intro l m q
  induction q with
  |nil=>intro x hx;exact nomatch hx
  |@cons p q ps qs hq t ih=>
   intro x hx;rcases OM.mp hx with e|hx
   .subst e
    exact me ok (by rw[<- hq.1];exact hq.2.1)
   .exact ih x hx
 exact all r x hx
theorem Nz{c:List (List aF×V)}(ok:HOk P w H h)(e:H a=ap (.dT c)):c.length<=sizeLine/\(a==Op)=eC/\
  ∃xs,KT H c xs/\h.DictOfH (Wz<|aV P w) a xs:=oe ok (.inl e)
end
def DGet(H:Hp)(a:eg)(y:V)(r:Option V):Prop:=
 (∃W1 k,Rd H a (.dK W1)/\y=kV k/\r=dQ W1 k)\/∃W1 k b,Rd H a (.dT W1)/\y=.ref b/\H b=ap (.tup<|k.map kV)/\r=dQ W1 k
def DPut(H:Hp)(a:eg)(y v:V)(H':Hp):Prop:=
 (∃W1 k,H a=ap (.dK W1)/\y=kV k/\W1.length<sizeLine/\H'=upd H a (.dK<|cL W1 k v))\/
 ∃W1 k b,H a=ap (.dT W1)/\y=.ref b/\H b=ap (.tup<|k.map kV)/\W1.length<sizeLine/\H'=upd H a (.dT<|cL W1 k v)
theorem DGet.k{H:Hp}{a:eg}{c:List (aF×V)}{k:aF}(e:H a=ap (.dK c)):DGet H a (kV k) (dQ c k):=.inl ⟨c,k,.inl e,rfl,rfl⟩
theorem DGet.t{c:List (List aF×V)}{k:List aF}(e:H a=ap (.dT c))(f:H b=ap (.tup<|k.map kV)):DGet H a (.ref b) (dQ c k):=.inr ⟨c,k,b,.inl e,rfl,f,rfl⟩
theorem DPut.k{H:Hp}{a:eg}{c:List (aF×V)}{k:aF}{v:V}(e:H a=ap (.dK c))(f:c.length<sizeLine):DPut H a (kV k) v (upd H a<|.dK<|cL c k v):=.inl ⟨c,k,e,rfl,f,rfl⟩
theorem DPut.t{c:List (List aF×V)}{k:List aF}{v:V}(e:H a=ap (.dT c))(g:H b=ap (.tup<|k.map kV))(f:c.length<sizeLine):
  DPut H a (.ref b) v (upd H a<|.dT<|cL c k v):=.inr ⟨c,k,b,e,rfl,g,f,rfl⟩
section
variable{y v:V}{r:ay}{o:Option V}
theorem Inv.big(I:Inv X WZ Z H s):Op<s.heap.objs.size:=by
 have h:fv<s.heap.objs.size:=(I.mod.glob.keeps I.bk).lt;exact SS (by decide) h
theorem oU(J:A.units+1<p3)(I:Inv X WZ Z H s)(g:DGet H a y (ap v))(B:RelV y u)(h:∀w' s',Inv X WZ Z H s'->RelV v w'->Q w' s'):
  eH (ff X.prog X.w) A (VT (.ref a) u) Q E s:=by
 rcases g with⟨x,k,e,m,l⟩|⟨x,k,b,e,m,eb,l⟩
 .subst m
  obtain⟨z,C,G,c,j⟩:=ib I.hok e;obtain⟨w',q,f⟩:=dk (v:=v) (o:=VS G k) (by rw[l];exact c.val k)
  exact wpAny_getItem_of (iB B) j.mapOf q (h w' _ (I.tok _) f)
 .subst m
  cases (show u=OU b from B);obtain⟨z,C,xs,c,j⟩:=oe I.hok e;obtain⟨w',q,f⟩:=dk (v:=v) (o:=(Wr xs k).map (·.2)) (by rw[l];exact c.val k)
  obtain⟨p,F,i⟩:=RZ.mp q;refine wpAny_getItem_heap (Tk J) (me I.hok eb) j F ?_;rw[i];exact h w' _ (I.tok _) f
theorem Ma(x:A.units+1<p3)(I:Inv X WZ Z H s)(g:DGet H a y o)(p:RelV y u)(h:∀s',Inv X WZ Z H s'->Q (.bool o.isSome) s'):
  eH (ff X.prog X.w) A (kc .In u<|.ref a) Q E s:=by
 rcases g with⟨m,k,e,j,l⟩|⟨m,k,b,e,j,eb,l⟩
 .subst j
  obtain⟨z,f,B,c,i⟩:=ib I.hok e;refine wpAny_in_of (iB p) f i.mapOf ?_;rw[<- (c.val k).isSome_eq,<- l];exact h _ (I.tok _)
 .subst j
  cases (show u=OU b from p);obtain⟨z,f,xs,c,i⟩:=oe I.hok e;refine wpAny_in_heap (Tk x) (me I.hok eb) f i ?_;have q:=(c.val k).isSome_eq;rw[Sz]at q;rw[<- q,<- l];exact h _ (I.tok _)
theorem wv(x:A.units+1<p3)(I:Inv X WZ Z H s)(g:DGet H a y o)(p:RelV y u)(h:∀s',Inv X WZ Z H s'->Q (.bool<|!o.isSome) s'):
  eH (ff X.prog X.w) A (kc .NotIn u<|.ref a) Q E s:=by
 rcases g with⟨m,k,e,j,l⟩|⟨m,k,b,e,j,eb,l⟩
 .subst j
  obtain⟨z,f,B,c,i⟩:=ib I.hok e;refine wpAny_notIn_of (iB p) f i.mapOf ?_;rw[<- (c.val k).isSome_eq,<- l];exact h _ (I.tok _)
 .subst j
  cases (show u=OU b from p);obtain⟨z,f,xs,c,i⟩:=oe I.hok e;refine wpAny_notIn_heap (Tk x) (me I.hok eb) f i ?_;have q:=(c.val k).isSome_eq;rw[Sz]at q;rw[<- q,<- l];exact h _ (I.tok _)
theorem p8{h':hI}{t':Nat}{c:HO}(I:Inv X WZ Z H s)(h:NB (H a))(g:Qt a s.heap h')(i:∃q,h'.get? a=ap q)(new:ObjOk X.prog X.w (upd H a c) h' a c):
  Inv X WZ Z (upd H a c) { s with heap:=h',toks:=t' }:=
 I.write (x:=a) (e:=a) h (.inl rfl) (λb q f z=>(g.2 b f).trans z) i new
theorem mL{h':hI}{c:List (aF×V)}{vs:List (aF×ay)}(z:c.length<=sizeLine)(g:(a==Op)=eC)(f:KV c vs)(dd:h'.DictOf (aV P w) a vs):
  ObjOk P w H' h' a (.dK c):=⟨z,g,vs,f,dd⟩
theorem nY{Q:Unit->el->Prop}(hu:A.units+1<p3)(I:Inv X WZ Z H s)(g:DPut H a y v H')(N:RelV y u)(M:RelV v r)(h:∀s',Inv X WZ Z H' s'->Q () s'):
  eH (ff X.prog X.w) A (Wh (.ref a) u r) Q E s:=by
 rcases g with⟨i,k,e,F,l,x⟩|⟨i,k,b,e,F,eb,l,x⟩
 .subst F x
  obtain⟨z,B,vs,f,J⟩:=Aq I.hok e;have G:vs.length<=sizeLine:=by rw[<- f.length];exact z
  have C:(cL i k v).length<=sizeLine:=by have:=fU i k v;lia
  refine wpAny_setItem_pairs (hsz:=G) (iB N) J λL j p=>h _ ?_;have R:∃q,L.get? a=ap q:=let ⟨q,_,_,m,_⟩:=j;⟨q,m⟩;exact p8 I (by rw[e];exact Qh) p R (mL C B (f.put k M) j)
 .subst F x
  cases (show u=OU b from N);obtain⟨z,B,xs,f,J⟩:=Nz I.hok e;have G:xs.length<=sizeLine:=by rw[<- P6 f];exact z
  have C:(cL i k v).length<=sizeLine:=by have:=fU i k v;lia
  refine wpAny_setItem_heap (hsz:=G) (Tk hu) (me I.hok eb) J λL j p=>h _ ?_;obtain⟨q,T,U,m,S,W,Y,_,O⟩:=j;refine p8 I (by rw[e];exact Qh) p ⟨q,m⟩ ⟨C,B,_,(f.put k eb M).keeps λc ys K=>?_,q,T,U,m,S,W,Y,O⟩
  rw[aM (Mt K e λz=>nomatch z)];exact K
end
section
variable{W1:List (aF×V)}{k:aF}
theorem GN{v:V}{more:W9}(I:Inv X WZ Z H s)(e:H a=ap (.dK W1))(j:RelV (kV k) u)(l:dQ W1 k=ap v)(y:more=[]\/∃x,more=[x])(h:∀w' s',Inv X WZ Z (upd H a<|.dK<|g_ W1 k) s'->RelV v w'->Q w' s'):eH (ff X.prog X.w) A (call (.builtin "dict.pop") (.ref a::u::more)) Q E s:=by
 obtain⟨z,B,m,c,p⟩:=Aq I.hok e;obtain⟨w',C,g⟩:=dk (v:=v) (o:=VS m k) (by rw[<- l];exact c.val k)
 have G:(keyPart u).isSome=true:=by
  cases k with
  |inl i=>obtain⟨t,q⟩:=(show ∃t,u=Qw i t from j);subst q;rfl
  |inr x=>obtain⟨t,q⟩:=(show ∃t,u=RV x t from j);subst q;rfl
 have J:Ws "dict.pop" ⟨.ref a::u::more,[]⟩:=by
  rcases y with q|⟨x,q⟩
  .subst q;exact PySem.F.args_dict_pop_2 _ _
  .subst q;exact Tz _ _ _
 refine call_meetsIn Q5 p.typeIs TM J (meets_dict_pop_there (aV X.prog X.w) a (iB j) more y G)
  ⟨m,w',p,by rw[<- c.length];exact z,C,λL f M=>h w' _ ?_ g⟩
 have K:∃q,L.get? a=ap q:=let ⟨q,_,_,hq,_⟩:=f;⟨q,hq⟩;exact p8 I (by rw[e];exact Qh) M K (mL (OQ (AE W1 k) z) B (c.drop k) f)
theorem Jy{r:ay}(I:Inv X WZ Z H s)(e:H a=ap (.dK W1))(f:RelV (kV k) u)(l:dQ W1 k=cm)(h:∀s',Inv X WZ Z H s'->Q r s'):
  eH (ff X.prog X.w) A (call (.builtin "dict.pop") [.ref a,u,r]) Q E s:=by
 obtain⟨z,m,g,c,j⟩:=Aq I.hok e;have v:VS g k=none:=j6 (by rw[<- l];exact c.val k)
 have p:(keyPart u).isSome=true:=by
  cases k with
  |inl i=>obtain⟨t,q⟩:=(show ∃t,u=Qw i t from f);subst q;rfl
  |inr x=>obtain⟨t,q⟩:=(show ∃t,u=RV x t from f);subst q;rfl
 exact call_meetsIn Q5 j.typeIs TM (Tz _ _ _) (meets_dict_pop_default (aV X.prog X.w) a (iB f) m p r) ⟨g,j,v,h _<|I.tok _⟩
theorem O7(I:Inv X WZ Z H s)(e:Rd H a (.dK W1))(h:∀t s',Inv X WZ Z H s'->Q (.int W1.length t) s'):eH (ff X.prog X.w) A (call (.builtin "len") [.ref a]) Q E s:=by
 obtain⟨z,f,i,c,g⟩:=ib I.hok e;refine call_len_dict f g (by rw[<- c.length];rw[Wf]at z;lia) ?_
 rw[<- c.length];exact h _ _ (I.tok _)
end
theorem uu{y:V}{o:Option V}(I:Inv X WZ Z H s)(g:DGet H a y o):s.TypeIs (.ref a) "dict":=by
 rcases g with⟨c,k,e,_,_⟩|⟨c,k,b,e,_,_,_⟩
 .obtain⟨_,_,h,_,f⟩:=ib I.hok e
  exact f.typeIs
 .obtain⟨_,_,xs,_,f⟩:=oe I.hok e
  exact f.typeIs
section
variable{i value:fy}{pos' tpos:Pos}{td ty tv:TE}
end
section
end
structure M1(X:Cx)(o:fy)(m:Str)(W4:Pos)(e:fy)(W3:Pos):Prop where
 base:nr o m X.env (gp o X.env)=gp o X.env
 few:((hG W3<|starEach [e] X.env).all (λx=>!x.1)&&(x9 W3<|keywordEach [] X.env).all (λx=>x.1.isSome)
  && decide (([e]:Xb).length+([]:List vr).length+(if ([]:List vr).isEmpty then 0 else 1)<30))=true
 line:(W4.endLine==W3.line)=true
 trees:hG W3 (fe [e] X.env)=[(eC,gp e X.env)]
structure M2(X:Cx)(o:fy)(m:Str)(W4:Pos)(e f:fy)(W3:Pos):Prop where
 base:nr o m X.env (gp o X.env)=gp o X.env
 few:((hG W3<|starEach [e,f] X.env).all (λx=>!x.1)&&(x9 W3<|keywordEach [] X.env).all (λx=>x.1.isSome)
  && decide (([e,f]:Xb).length+([]:List vr).length+(if ([]:List vr).isEmpty then 0 else 1)<30))=true
 line:(W4.endLine==W3.line)=true
 trees:hG W3 (fe [e,f] X.env)=[(eC,gp e X.env),(eC,gp f X.env)]
def IsD(H:Hp)(a:eg):Prop:=(∃W1,Rd H a (.dK W1))\/∃W1,Rd H a (.dT W1)
theorem Bn(I:Inv X WZ Z H s)(d:IsD H a):
  s.TypeIs (.ref a) "dict"/\(∀b,OU a=.ref b->∃c,s.heap.get? b=ap c/\c.dict=cm)/\(a==Op)=false:=by
 rcases d with⟨j,e⟩|⟨j,e⟩
 .obtain⟨_,g,m,_,f⟩:=ib I.hok e
  refine⟨f.typeIs,λb q=>?_,g⟩;cases q;obtain⟨c,_,_,h,i,_⟩:=f;exact⟨c,h,i.2.1⟩
 .obtain⟨_,g,xs,_,f⟩:=oe I.hok e
  refine⟨f.typeIs,λb q=>?_,g⟩;cases q;obtain⟨c,_,_,h,i,_⟩:=f;exact⟨c,h,i.2.1⟩
section
variable{y d:V}{r:ay}{o:Option V}
end
def KA(td ty:TE):TE:=λZ H Q=>td Z H λx H1=>∃a,x=.ref a/\IsD H1 a/\ty Z H1 λy H2=>∃W1 k v,H2 a=ap (.dK W1)/\y=kV k/\dQ W1 k=ap v/\Q v (upd H2 a<|.dK<|g_ W1 k)
def Jk(td ty tx:TE):TE:=λZ H Q=>td Z H λx H1=>∃a,x=.ref a/\IsD H1 a/\ty Z H1 λy H2=>tx Z H2 λz H3=>∃W1 k,H3 a=ap (.dK W1)/\y=kV k/\
 (∀v,dQ W1 k=ap v->Q v (upd H3 a<|.dK<|g_ W1 k))/\(dQ W1 k=cm->Q z H3)
section
variable{f:fy}{W4 W3:Pos}{td ty tx:TE}
theorem AG(K:PE X o td)(L:PE X e ty)(m:M1 X o "pop" W4 e W3):PE X (.Call (.Attribute o "pop" W4) [e] [] W3) (KA td ty):=by
 intro WZ s Z H Q I h;refine wpAny_Call_method m.base m.few m.line Tx Q5 TZ (br (K WZ s Z H _ I h) λu g ⟨x,H1,I1,B,a,i,d,p⟩=>?_);subst i;obtain rfl:u=OU a:=B;obtain⟨z,j,_⟩:=Bn I1 d;refine⟨z,j,?_⟩;rw[m.trees];refine Qs rfl (QH<|Qr (br (L WZ g Z H1 _ I1 p) λM R ⟨y,H2,I2,G,J,k,v,F,C,l,q⟩=>Q4 ?_));subst C;exact GN I2 F G l (.inl rfl) λO N I3 c=>⟨v,_,I3,c,q⟩
theorem B4(T:PE X o td)(W:PE X e ty)(U:PE X f tx)(m:M2 X o "pop" W4 e f W3):PE X (.Call (.Attribute o "pop" W4) [e,f] [] W3) (Jk td ty tx):=by
 intro WZ s Z H Q I h;refine wpAny_Call_method m.base m.few m.line Tx Q5 TZ (br (T WZ s Z H _ I h) λu N ⟨x,H1,I1,K,a,q,d,C⟩=>?_);subst q;obtain rfl:u=OU a:=K;obtain⟨R,B,_⟩:=Bn I1 d;refine⟨R,B,?_⟩;rw[m.trees];refine Qs rfl (QH<|Qr (br (W WZ N Z H1 _ I1 C) λiv J ⟨y,H2,I2,j,G⟩=>
  Qr (br (U WZ J Z H2 _ I2 G) λp s3 ⟨z,H3,I3,O,g,k,i,S,L,M⟩=>Q4 ?_)))
 subst S;cases l:dQ g k with
 |some v=>exact GN I3 i j l (.inr ⟨p,rfl⟩) λY F I4 c=>⟨v,_,I4,c,L v l⟩
 |none=>exact Jy I3 i j l λF I4=>⟨z,H3,I4,O,M l⟩
end
section
variable{W1:List (aF×V)}
theorem C8(I:Inv X WZ Z H s)(e:Rd H a (.dK W1))(h:∀p s',H p=cm->Inv X WZ Z (upd H p<|.dK W1) s'->Q (.ref p) s'):eH (ff X.prog X.w) A (call (.type "dict") [.ref a]) Q E s:=by
 obtain⟨z,i,v,c,j⟩:=ib I.hok e;refine kt_call_dict i j (by rw[<- c.length];exact z) λx f m=>?_
 refine h _ _ (I.hok.fresh<|Oz _) (I.laid (a:=s.heap.objs.size) (o:=.dK W1) (t':=s.toks) (λb q g=>?_) (Oz _)<|mL z (beq_eq_false_iff_ne.mpr<|OW<|ON I.big) c f);exact(m.2 b<|ON<|OC g).trans (Oq _ g)
end
section
variable{y:V}
end
end _2
namespace Att
open PySem PySem.W PySem.Calls PyProof.Rows
theorem jX{P:Params}{h:hI}:∀(c:W7)(vs:W9),WellAll P h vs (c.map WData.int)->WO vs c:=by
 intro c
 induction c with
 |nil=>
  intro vs w;rw[OV]at w;cases w;exact .nil
 |cons n c ih=>
  intro vs w;rw[Ou]at w;cases w with
  |cons a b=>
   cases a;exact .cons _ _ (ih _ b)
theorem zu{l:OpenLaw}{n:Nat}(w:l.most=ap n){P:Params}{h:hI}{args:List WData}{e:W9}
  (c:l.row.toRowW.claim.pre args=true) (m:WellAll P h e args):
  ∃a vs b,e=[OU a]/\args=[WData.list (b.map WData.int)]/\h.get? a=ap { cls:=.type "list",data:=.seq vs.toArray }/\WO vs b/\b.length<=n:=by
 have j:WShape.hasAll [] args [.list .int]=true:=(pre_splitW c).1;have o:l.pre.holds [] { args:=args }=true:=(pre_splitW c).2;obtain⟨d,r,rfl,s,u⟩:=hasAllW_cons j;obtain rfl:=hasAllW_nil u;obtain⟨x,rfl,p⟩:=hasW_list s;obtain⟨b,rfl⟩:=items_int p;have f:b.length<=n:=by
  unfold OpenLaw.pre at o;have i:(WTm.not<|.lt (.lit<|.int (n:Int))<|.len<|.arg 0).holds [] { args:=[.list (b.map .int)] }=true:=by
   have i:=(holds_andW o).1;rw[w]at i;exact i
  have g:=condW_of i (w_not<|w_lt w_lit<|w_len_list<|w_arg rfl);rw[Ot]at g;refine Nat.le_of_not_lt λq=>?_;have v:(n:Int)<((b.length:Nat):Int):=by lia
  first
   |(rw[decide_eq_true v]at g;exact absurd g (by decide))
   |(simp at g;lia)
 cases m with
 |cons w1 w2=>
  cases w2;cases w1 with
  |list ho hall=>exact⟨_,_,b,rfl,rfl,ho,jX b _ hall,f⟩
theorem zM(l:OpenLaw)(args:List WData):l.row.toRowW.claim.post args (.bool true) args=true:=
 postW_of (r:=l.row.toRowW) (X:=(true==true))
  (show WShape.has [] (.bool true) .bool=true by first|rfl|decide|simp[WShape.has,WShape.arms,WShape.armsAll])
  (show (WTm.eq .res<|.lit<|.bool true).value [] { args:=args,res:=ap (.bool true),after:=args }=ap (.bool (true==true)) from w_eq_bool (w_res rfl) w_lit) rfl
theorem tu{l:OpenLaw}{n:Nat}{q:fx}{loose:W8}{XP:(Str->Option ay)->hI->Prop}{YP:g3->hI->Prop}{d:DefRec}
  (T:l.most=ap n) (B:d.params.defaults=[])
  (call:∀(w:g3)(c b:el)(p z:Xf)(fa:eg)(o:Obj)(A u g:ay)(a:eg)(vs:W9)(s:W7),
   Ground q loose [] XP w c p z b.heap->YP w b.heap->
   b.heap.get? fa=ap o->o.data=.func (docDef d.name d.params d.body d.scope A u g)->b.heap.CodeRec u d.name->p d.name=ap (.ref fa)->
   b.heap.get? a=ap { cls:=.type "list",data:=.seq vs.toArray }->WO vs s->s.length<=n->b.gens=#[]->
   Rs (ff l.prog w) Wa (.call (.ref fa) ⟨[.ref a],[]⟩) (λr m=>r=.ok (.ret<|.bool true)/\OldK b.heap m.heap/\m.os=b.os/\Uf m.gens) b):
  WalkO q loose XP YP l.row.toRowW d [] (λf vs=>UJ f vs):=by
 intro w c b p z G Y fa o A u g R kV I L y C x P H E U j F K v N;obtain rfl:R=.none:=Dflts.none C B;obtain rfl:kV=.none:=Dflts.noKw C;obtain⟨a,vs,s,rfl,rfl,i,e,h⟩:=zu T j v;refine enter_call (P3 (call w c b p z fa o A u g a vs s G Y I (fd_plain L) y x i e h P) λr m Q=>?_);obtain⟨rfl,J,S,O⟩:=Q;exact⟨.inl ⟨.bool true,.bool true,[],rfl,λ_=>rfl,.bool true,zM l _,λ_=>⟨List.Pairwise.nil,λ_ M=>(nomatch M)⟩⟩,J,S,O⟩
section
variable {prog:fx}{w:g3}{A:ix}{E:Xd}{s:el}{K:Frag}
end
end Att
namespace _2
open PySem PySem.Spec PyProof.Rows
variable{T a i1 i2 it l1 l2 z:eg}{A:ix}{items xs ys:Xg}{b b1 b2 f1:Bool}{X:Cx}{h h':hI}{H:Hp}{WZ:Xe}{i k1 k2:Nat}{oT:Obj}{K:Ow}{pos:Pos}{P prog:fx}{s:el}{Z:St}{x y:ay}{E Q:Xd}{w:g3}
theorem o9:∀{vs:W9}{c:W7},WO vs c->Vals (c.map V.int) vs
 |_,_,.nil=>.nil
 |_,_,.cons n t h=>.cons ⟨t,rfl⟩ (o9 h)
def B_(H:Hp):Prop:=∀b,H b=cm\/∃o xs,H b=ap (.frz o<|.lst xs)
theorem CL{O mb:Xf}{CX:oo}{k:Nat}{fa:eg}{fd:g4}{x:Str}{sp:Sp}{c:el}{vs:W9}{ns:W7}(KX:K.In c.heap)(R:c.heap.Ns fv O)(g:c.heap.Ns Wp mb)(hbb:∀x:Str,x≠"__name__"->mb x=gl x)(S:c.heap.NoLimit)(hg:c.gens=#[])(U:c.heap.get? a=ap { cls:=.type "list",data:=.seq vs.toArray })(hi:WO vs ns)(hl:ns.length<=sizeLine)(hr:Room k Wa)(F:∀base:hI,K.In base->base.Ns fv O->FnOk P w K O base CX k fa fd [x] sp)(hbind:∀(s:el)(u:ay),Wi s fd ⟨[u],[]⟩ [(x,u)])(hsp:∀H:Hp,B_ H->SqL K H a (ns.map V.int)->sp [.ref a] H (λv _=>v=.bl true) λ_ _ _=>False)(hCX:∀H e j,CX [] H c (λ_ _ _=>False) e j->False):
  Rs (ff P w) Wa (.call (.ref fa) ⟨[.ref a],[]⟩) (λr j=>r=.ok (.ret<|.bool true)/\OldK c.heap j.heap/\j.os=c.os/\Uf j.gens) c:=by
 have rv:=o9 hi;have L:=hi.length
 -- from an abstract heap in which nothing but the script may be tracked
 have p:∀H:Hp,B_ H->SqL K H a (ns.map V.int)->HOk P w H c.heap->(∀b,H b≠cm->b=a)->(H a≠cm->K.lookup a=cm)->
   Rs (ff P w) Wa (.call (.ref fa) ⟨[.ref a],[]⟩) (λr j=>r=.ok (.ret<|.bool true)/\OldK c.heap j.heap/\j.os=c.os/\Uf j.gens) c:=by
  intro H hO hS C hA hK;have f:∀{b:eg}{o:Obj},c.heap.get? b=ap o->H b=cm->(rN c.heap H).get? b=ap o:=λe n=>AF e n;have noA:∀{b:eg}{o:Obj}{M:Array WF}{N:Nat},c.heap.get? b=ap o->o.data=.dict M N->H b=none:=λ{b o M N} e d=>by
   cases q:H b with
   |none=>rfl
   |some u=>
    have W:b=a:=hA b (by rw[q];simp)
    subst W;rw[U]at e;cases e;have d':Data.seq vs.toArray _=Data.dict M N:=d;cases d'
  have nsK:∀{b:eg}{m:Xf},c.heap.Ns b m->(rN c.heap H).Ns b m:=λ{b m} ⟨o,M,N,e,d,r⟩=>⟨o,M,N,f e (noA e d),d,r⟩;have I:K.In (rN c.heap H):=λb o e=>f (KX b o e) (by
   cases q:H b with
   |none=>rfl
   |some u=>
    have W:b=a:=hA b (by rw[q];simp)
    subst W;rw[hK (by rw[q];simp)]at e;cases e)
  have hM:Mod K O (rN c.heap H):=⟨I,nsK R,⟨mb,nsK g,hbb⟩,let ⟨mc,h1,h2⟩:=S;⟨mc,nsK h1,h2⟩⟩;have e0:Env0 P w K O (rN c.heap H) Wa [] c H:=⟨rfl,hM,λb o e=>Fz e,SV (zq _ _),trivial,λb g=>absurd (show b∈([]:Xa) from g) (by simp),C,.of_eq hg⟩
  refine P3 ((F _ I<|nsK R).run Wa [] c H ⟨[.ref a],[]⟩ [.ref a] [.ref a] _ _ hr e0 (hbind c<|.ref a) (.cons rfl .nil)<|hsp H hO hS) λr j h=>?_;cases r with
  |error e=>exact(hCX H e j h).elim
  |ok fl=>
   cases fl with
   |next=>exact PN h
   |brk=>exact PN h
   |cont=>exact PN h
   |ret u=>
    obtain⟨v,H',os,G,un,J,r',q⟩:=h;have q':v=.bl true:=q;subst q';obtain rfl:u=QG true:=r';refine⟨rfl,OldK.of_keep λb o e=>?_,os,G⟩;cases q:H b with
    |none=>exact un.keep b o e q (by intro z;exact absurd (show b∈([]:Xa) from z) (by simp)) (by simp)
    |some u=>
     rcases hO b with z|⟨ob,xs,z⟩
     .rw[q]at z;cases z
     .have z2:=un.frzs b ob _ z
      obtain⟨e1,_⟩:=C b _ z;obtain⟨e2,_⟩:=J b _ z2;rw[e]at e1;cases e1;exact e2
 cases Y:K.lookup a with
 |some o=>
  -- the script is one of the module's own objects
  have e:=KX a o Y;rw[U]at e;cases e;refine p (λ_=>cm) (λ_=>.inl rfl) (.inr ⟨_,vs.toArray,_,Y,rfl,rfl,rfl,by rw[OB,L];exact hl,by simpa using rv⟩) (λb u z=>by have B:(none:Option HO)=ap u:=z;cases B) (λb z=>absurd rfl z) λz=>absurd rfl z
 |none=>
  refine p (λb=>if b=a then ap (.frz { cls:=.type "list",data:=.seq vs.toArray }<|.lst<|ns.map V.int) else cm) (λb=>?_) (.inl<|.inr ⟨{ cls:=.type "list",data:=.seq vs.toArray },if_pos rfl⟩) (λb u z=>?_) (λb z=>?_) λ_=>Y
  .by_cases g:b=a
   .exact .inr ⟨_,_,if_pos g⟩
   .exact .inl (if_neg g)
  .by_cases g:b=a
   .have B:=(if_pos g).symm.trans z
    cases B;subst g;exact⟨U,by rw[Ot];exact hl,vs,_,rv,U⟩
   .have B:=(if_neg g).symm.trans z
    cases B
  .by_cases g:b=a
   .exact g
   .exact absurd (if_neg g) z
theorem Dx{l:W.OpenLaw}{n k:Nat}{q:fx}{loose:W8}{XP:(Str->Option ay)->hI->Prop}{YP:g3->hI->Prop}{d:DefRec}{K:Params->Ow}{CX:g3->oo}{sp:g3->Sp}{x:Str}(hn:l.most=ap n)(L:n<=sizeLine)(N:d.params.defaults=[])(hr:Room k Wa)(hY:∀(w:g3)(h:hI),YP w h->(K w.params).In h)(F:∀(w:g3)(p:Xf)(fa:eg)(h:hI),(K w.params).In h->h.Ns fv p->p d.name=ap (.ref fa)->
   ∃fd:g4,(∀(s:el)(u:ay),Wi s fd ⟨[u],[]⟩ [(x,u)])/\
    ∀c:hI,(K w.params).In c->c.Ns fv p->FnOk l.prog w (K w.params) p c (CX w) k fa fd [x] (sp w))(O:∀(w:g3)(H:Hp)(a:eg)(I:W7),I.length<=n->B_ H->SqL (K w.params) H a (I.map V.int)->sp w [.ref a] H (λv _=>v=.bl true) λ_ _ _=>False)(M:∀(w:g3)(H:Hp)(s:el)(e:ay)(s':el),CX w [] H s (λ_ _ _=>False) e s'->False):
  W.WalkO q loose XP YP l.row.toRowW d [] (λf vs=>UJ f vs):=by
 refine Att.tu hn N λw R B p mb fa o pm cd doc a vs I G Y ho hd hcd J C m j hg=>?_;have KX:=hY w _ Y;obtain⟨fd,hb,hF⟩:=F w p fa _ KX G.T.g J;exact CL KX G.T.g G.T.b G.T.builtins G.T.nolimit hg C m (OQ j L) hr hF hb (λH S U=>O w H a I j S U) λH e s'=>M w H B e s'
def dS(s:rc)(j:Nat):Stmt:=match s with
 |.ClassDef _ _ _ body _ _ _ _ _ _ _=>body.getD j (.Pass ⟨0,0,0,0⟩)
 |_=>.Pass ⟨0,0,0,0⟩
def bZ(s:rc):Arguments:=match s with
 |.FunctionDef _ a _ _ _ _ _ _ _ _=>a
 |_=>{ posonlyargs:=[],args:=[],vararg:=cm,kwonlyargs:=[],kw_defaults:=[],kwarg:=cm,defaults:=[] }
def bw(s:rc):List Stmt:=match s with
 |.FunctionDef _ _ b _ _ _ _ _ _ _=>b
 |_=>[]
def aQ(s:rc):Scope:=match s with
 |.FunctionDef _ _ _ _ _ _ sc _ _ _=>sc
 |_=>{ kind:=.function,names:=[],isGenerator:=eC,isCoroutine:=eC }
abbrev CX0:oo:=λ_ _ _ _ _ _=>False
abbrev E0:XK:=λ_ _ _=>False
structure Fun(K:Ow)(x W0:Str)(st:rc)(f:eg)(fd:g4):Prop where
 ex:∃(oc:ay)(od:Option eg)(kV doc pm:ay)(an:Option eg)(cdv ct:ay)(osl:Array (Option ay)),
  fd=Rj x W0 (bZ st) (bw st) (aQ st) .none kV doc pm an cdv ct/\K.lookup f=ap ⟨oc,od,.func fd,osl⟩/\S6 K cdv W0=true
 kp:P4 K (.ref f)=true
section
variable{mg:Xf}{base:hI}
theorem Fun.binds{x c:Str}{j:rc}{f:eg}{fd:g4}{ps:W8}(F:Fun K x c j f fd)(h:∀(kV g n:ay)(m:Option eg)(e o:ay)(us:W9),us.length=ps.length->Wq (Rj x c (bZ j) (bw j) (aQ j) .none kV g n m e o) ⟨us,[]⟩=pure (ps.zip us)):Binds K fd ps []:=by
 obtain⟨u,v,kV,g,n,m,e,o,p,rfl,lk,q⟩:=F.ex;exact .all (h kV g n m e o)
theorem vI{x e:Str}{j:rc}{f:eg}{u:ay}{v o:Option eg}{n:Array (Option ay)}{kV m p g q:ay}(l:K.lookup f=ap ⟨u,v,.func (Rj x e (bZ j) (bw j) (aQ j) .none kV m p o g q),n⟩)(c:S6 K g e=true)(k:P4 K (.ref f)=true):Fun K x e j f (Rj x e (bZ j) (bw j) (aQ j) .none kV m p o g q):=⟨⟨u,v,kV,m,p,o,g,q,n,rfl,l,c⟩,k⟩
end
theorem ou{k:Nat}(c:Room k A):A.units+1<cLine:=RL (Nat.add_le_add_left (by decide:1<=64) _) c.units
section
theorem zy:bL X (.builtin "len") (λxs H Q=>∃a c,xs=[V.ref a]/\H a=ap (.dK c)/\Q (.int c.length) H):=by
 intro WZ s Z H xs j Q I r h;obtain⟨a,c,rfl,e,q⟩:=h;obtain⟨u,rfl,f⟩:=iq r;cases f;exact O7 I (.inl e) λt g I'=>⟨.int c.length,H,I',⟨t,rfl⟩,q⟩
end
section
variable{κ:Type}[DecidableEq κ]
end
section
variable{R:WN->el->Prop}
theorem qd{p e o:fy}{q:Xb}{f:z4}{it W2:ay}{env:Env}(I:Nat->el->Prop)(G:∀n s,I n s->eH (ff prog w) A (Os it) (λr s₁=>match r with
   |none=>R (.ok .next) s₁
   |some v=>eH (ff prog w) A (VX e it v) (λ_ s₂=>eH (ff prog w) A (V0 e env v) (λ_ s₃=>
     eH (ff prog w) A (forIn q true λc r=>if r=true then do let ok <- WK c env (gp c env);pure (RU ok) else pure (RU r)) (λok s₄=>
      if ok=true then eH (ff prog w) A (gp p env) (λx s₅=>
       eH (ff prog w) A (call (.builtin "list.append") [W2,x]) (λ_ s₆=>∃m,m<n/\I m s₆) (λ_ _=>False) s₅) (λ_ _=>False) s₄
      else ∃m,m<n/\I m s₄) (λ_ _=>False) s₃) (λ_ _=>False) s₂) (λ_ _=>False) s₁) (λ_ _=>False) s)(n:Nat)(h:I n s):
  Rs (ff prog w) A (.compLoop (.ListComp p [⟨e,o,q,0⟩] f pos) 0 it W2 env) R s:=by
 refine codeAny_loop rfl I (λn s J=>?_) n h;show eH _ A ((compTurn (.ListComp p [⟨e,o,q,0⟩] f pos) 0 it W2 env).onRaise λx=>do noteFrame x env;theTreesLotGoes x) _ _ s
 refine wpAny_noted ?_;rw[compTurn_list];refine ax (Re<|wpAny_bind (mu (G n s J) (λr s₁ j=>?_) λ_ _ z=>z.elim));cases r with
 |none=>exact eX j
 |some v=>
  refine ax (mu j (λ_ s₂ C=>ax (mu C (λ_ s₃ F=>ax (mu F (λok s₄ g=>?_) λ_ _ z=>z.elim)) λ_ _ z=>z.elim)) λ_ _ z=>z.elim);cases ok with
  |false=>exact eX ⟨rfl,g⟩
  |true=>
   exact ax (ax (mu g (λx s₅ u=>ax (mu u (λ_ s₆ B=>eX (eX ⟨rfl,B⟩)) λ_ _ z=>z.elim)) λ_ _ z=>z.elim))
end
def Kf(X:Cx)(N:W8)(scope:z4)(cl:List (Str×eg))(C:eg)(s₀:el)(H₀:Hp)(fp:Xa)(pl:Xe):Cx where
 prog:=X.prog
 w:=X.w
 K:=X.K
 mg:=X.mg
 base:=X.base
 A:=X.A
 N:=N
 s₀:=s₀
 H₀:=H₀
 env:=compEnvC scope cl C X.env
 outer:=X.stack
 stack:=X.stack
 ex:=fp
 fn:=λ_=>eC
 calm:=X.calm
 pn:=X.pn++pl
 xe:=λ_ _=>False
inductive Frees(X:Cx)(scope:z4):List Str->List Nat->Prop where
 |nil:Frees X scope [] []
 |cons {x:Str} {j:Nat} {xs:W8} {js:List Nat}:X.N[j]?=ap x->(X.env.kindOf x=ap .cell\/X.env.kindOf x=ap .free)->
   ((TW scope X.env).names.lookup x=ap .cell\/(TW scope X.env).names.lookup x=ap .free)->Frees X scope xs js->Frees X scope (x::xs) (j::js)
theorem Frees.length{X:Cx}{c:z4}:∀{xs:W8}{e:List Nat},Frees X c xs e->xs.length=e.length
 |_,_,.nil=>rfl
 |_,_,.cons _ _ _ t=>congrArg (·+1) t.length
theorem Frees.get{X:Cx}{e:z4}:∀{xs:W8}{f:List Nat},Frees X e xs f->∀{i:Nat}{x:Str},xs[i]?=ap x->∃j,f[i]?=ap j/\X.N[j]?=ap x/\(X.env.kindOf x=ap .cell\/X.env.kindOf x=ap .free)/\
   ((TW e X.env).names.lookup x=ap .cell\/(TW e X.env).names.lookup x=ap .free)
 |_,_,.nil,i,x,h=>by simp at h
 |_,_,.cons a b c _,0,x,h=>by simp at h;subst h;exact⟨_,rfl,a,b,c⟩
 |_,_,.cons _ _ _ t,i+1,x,h=>by
  obtain⟨j,m,g⟩:=t.get (i:=i) (x:=x) (by simpa using h)
  exact⟨j,by simpa using m,g⟩
def cU(ls:W8)(js:List Nat)(Z:St):St:=ls.map (λ_=>cm)++js.map λj=>(Z[j]?).join
def ID(X:Cx)(ifs:Xb)(t:TT):Prop:=
 ∀(WZ:Xe)(s:el)(Z:St)(H:Hp)(Q:Bool->Hp->Prop),Inv X WZ Z H s->t Z H Q->
  eH (ff X.prog X.w) X.A (forIn ifs true λc r=>if r=true then do let ok <- WK c X.env (gp c X.env);pure (RU ok) else pure (RU r)) (TP X WZ Z Q) X.xe s
def tAll:TT:=λ_ H Q=>Q true H
theorem FS:ID X [] tAll:=λ_ _ _ H _ I h=>wpAny_tests_nil ⟨H,I,h⟩
theorem FK{c:fy}{t:TT}(h:PT X c t):ID X [c] t:=λWZ s Z H Q I q=>wpAny_tests_one (h WZ s Z H Q I q)
def D7(wi:TI)(ls:W8)(js:List Nat)(g:TG)(tt:TT)(te:TE):TE:=λZ H Q=>wi Z H λJ H1=>∀p,H1 p=cm->∃W:Nat->Nat->St->Hp->Prop,(∃m,W 0 m (cU ls js Z) (upd H1 p<|.lst []))/\∀i m σ' H',W i m σ' H'->
 (J.stop i H'/\Q (.ref p) H')\/(J.go i H'/\∃N:St->Hp->Prop,(∀σ2 H2,N σ2 H2->∃m',m'<m/\W (i+1) m' σ2 H2)/\∀x H2,J.yld i H' x H2->g x σ' H2 λe H3=>tt e H3 λc H4=>
  if c=true then te e H4 λy H5=>∃ys,H5 p=ap (.lst ys)/\ys.length<sizeLine/\N e (upd H5 p<|.lst (ys++[y])) else N e H4)
section
variable{tg iter elt:fy}{ifs:Xb}{scope:z4}{cl:List (Str×eg)}{ls fs:W8}{js:List Nat}{wi:TI}{g:TG}{tt:TT}{te:TE}
def JC(i:Nat)(t:TE):TS:=λD Z H=>t Z H λv H1=>D.nx (Z.set i<|some v) H1
end
def SrcTn(b:Bool)(it a:eg)(i:Nat)(h:hI):Prop:=if b=true then h.IsListIter it a i else h.IsTupleIter it a i
def SrcSq(b:Bool)(h:hI)(a:eg)(items:Xg):Prop:=if b=true then h.IsList a items else h.IsTuple a items
theorem SrcTn.lt(x:SrcTn b it a i h):∃o,h.get? it=ap o/\∀v,o.data≠.cell v:=by
 cases b with
 |true=>obtain⟨o,e,c,d⟩:=(show h.IsListIter it a i from x);exact⟨o,e,λv z=>by rw[d]at z;cases z⟩
 |false=>obtain⟨o,e,c,d⟩:=(show h.IsTupleIter it a i from x);exact⟨o,e,λv z=>by rw[d]at z;cases z⟩
theorem SrcTn.keep(x:SrcTn b it a i h)(k:∀o,h.get? it=ap o->h'.get? it=ap o):SrcTn b it a i h':=by
 cases b with
 |true=>obtain⟨o,e,r⟩:=(show h.IsListIter it a i from x);exact(show h'.IsListIter it a i from ⟨o,k o e,r⟩)
 |false=>obtain⟨o,e,r⟩:=(show h.IsTupleIter it a i from x);exact(show h'.IsTupleIter it a i from ⟨o,k o e,r⟩)
theorem SrcSq.keep(x:SrcSq b h a items)(k:∀o,h.get? a=ap o->h'.get? a=ap o):SrcSq b h' a items:=by
 cases b with
 |true=>obtain⟨o,e,r⟩:=(show h.IsList a items from x);exact(show h'.IsList a items from ⟨o,k o e,r⟩)
 |false=>obtain⟨o,e,r⟩:=(show h.IsTuple a items from x);exact(show h'.IsTuple a items from ⟨o,k o e,r⟩)
section
theorem iT{l:eg}(c:s.heap.IsTupleIter it l i)(n:s.heap.IsTuple l items)(p:items[i]?=ap x)(hQ:∀h',h'.IsTupleIter it l (i+1)->Qt it s.heap h'->Q x { s with heap:=h' }):eH (ff prog w) A (OX<|.ref it) Q E s:=by
 obtain⟨o,f,m,e⟩:=id c;obtain⟨u,j,_,q,g⟩:=n;unfold OX
 refine ax (wpAny_callSpecial?_slot (name:=PH "__next__") c.typeIs QN
  (kr QN c.typeIs T3 ?_<|TN _))
 show eH _ _ (T0 (.ref it) 0 >>= _) _ _ s;refine ax (g5 f e (x:=.ref l) rfl ?_);show eH _ _ (if (OU l==Qq)=true then _ else _) _ _ s
 rw[if_neg (show ¬((OU l==Qq)=true) from OS)];show eH _ _ (T0 (.ref it) 1 >>= _) _ _ s;refine ax (g5 f e (x:=.int i 0) rfl ?_);show eH _ _ (WA (.ref l) >>= _) _ _ s;refine ax (om j g ?_);simp only[OF,p];refine ax (wpAny_setField f e (by simp)<|wpAny_pure ⟨x,rfl,eX<|hQ _ ?_<|To ..⟩)
 exact⟨_,Uy _ f (Obj.isFreed_of_fields<|Obj.data_mapFields e _),(Obj.cls_mapFields ..).trans m,by
  rw[Obj.data_mapFields e];simp[t3]⟩
theorem jl{l:eg}(p:A.handled=cm)(c:s.heap.IsTupleIter it l i)(q:s.heap.IsTuple l items)(v:items[i]?=cm)(u:∀h' e,S9 it s.heap h'->(∃o,h'.get? e=ap o/\o.cls=.type "StopIteration")->E (.ref e) { s with heap:=h' }):eH (ff prog w) A (OX<|.ref it) Q E s:=by
 obtain⟨o,j,B,f⟩:=id c;obtain⟨F,n,_,C,g⟩:=q;unfold OX
 refine ax (wpAny_callSpecial?_slot (name:=PH "__next__") c.typeIs QN
  (kr QN c.typeIs T3 ?_<|TN _))
 show eH _ _ (T0 (.ref it) 0 >>= _) _ _ s;refine ax (g5 j f (x:=.ref l) rfl ?_);show eH _ _ (if (OU l==Qq)=true then _ else _) _ _ s
 rw[if_neg (show ¬((OU l==Qq)=true) from OS)];show eH _ _ (T0 (.ref it) 1 >>= _) _ _ s;refine ax (g5 j f (x:=.int i 0) rfl ?_);show eH _ _ (WA (.ref l) >>= _) _ _ s;refine ax (om n g ?_);simp only[OF,v];refine ax (z5<|wpAny_bind<|wpAny_setField j f (by simp) ?_)
 show eH _ _ (newExc (.type "StopIteration") [] >>= _) _ _ _;refine ax ?_;simp only[newExc,newTuple];refine ax (pa ?_<|by size_fits)
 refine ax (m:=VY _ _) (Pv (a:=Qq) (by first|rfl|(simp only[VY];rfl)) ?_)
 refine pa ?_ (by size_fits)
 simp only[raiseNew];refine ax (wpAny_handled ?_)
 first|rw[show A.in1.handled=cm from p]|rw[p]
 refine ax (eX<|wpAny_throw ?_);exact u _ _ (((To ..).extBut.push _).push _) ⟨_,OD _ rfl,rfl⟩
theorem bP{l:eg}(c:SrcTn b it l i s.heap)(e:SrcSq b s.heap l items)(g:items[i]?=ap x)(f:∀h',SrcTn b it l (i+1) h'->Qt it s.heap h'->Q x { s with heap:=h' }):eH (ff prog w) A (OX<|.ref it) Q E s:=by
 cases b with
 |true=>exact wpAny_nextOf_list_item c e g f
 |false=>exact iT c e g f
theorem dM{l:eg}(m:A.handled=cm)(c:SrcTn b it l i s.heap)(f:SrcSq b s.heap l items)(j:items[i]?=cm)(g:∀h' e,S9 it s.heap h'->(∃o,h'.get? e=ap o/\o.cls=.type "StopIteration")->E (.ref e) { s with heap:=h' }):eH (ff prog w) A (OX<|.ref it) Q E s:=by
 cases b with
 |true=>exact wpAny_nextOf_list_end m c f j g
 |false=>exact jl m c f j g
def aU(b:Bool):String:=if b=true then "list_iterator" else "tuple_iterator"
theorem dw{l:eg}(c:SrcSq b s.heap l items)(e:Q (.ref s.heap.objs.size) { s with heap:=s.heap.push { cls:=.type (aU b),data:=.fields #[.ref l,.int 0 0] } }):eH (ff prog w) A (pyIter<|.ref l) Q E s:=by
 cases b with
 |true=>exact V9 c e
 |false=>exact wpAny_pyIter_tuple c e
theorem qJ{l:eg}(e:h.get? it=ap { cls:=.type (aU b),data:=.fields #[.ref l,.int 0 0] }):SrcTn b it l 0 h:=by
 cases b with
 |true=>exact(show h.IsListIter it l 0 from ⟨_,e,rfl,rfl⟩)
 |false=>exact(show h.IsTupleIter it l 0 from ⟨_,e,rfl,rfl⟩)
structure ZApart(z TI TO i1 i2:eg):Prop where
 TIz:TI≠z
 TOz:TO≠z
 i1z:i1≠z
 i2z:i2≠z
 TITO:TI≠TO
 TIi1:TI≠i1
 TIi2:TI≠i2
 TOi1:TO≠i1
 TOi2:TO≠i2
 i12:i1≠i2
def Ik(z TO i1 i2 l:eg):Prop:=l≠z/\l≠TO/\l≠i1/\l≠i2
theorem Bc{TI TO:eg}{a b:ay}(D:ZApart z TI TO i1 i2)(O1:Ik z TO i1 i2 l1)(O2:Ik z TO i1 i2 l2)(hz:Wc s.heap z TI TO .none)(hTI:re s.heap TI (.ref i1) (.ref i2))(hTO:re s.heap TO a b)(h1:SrcTn b1 i1 l1 k1 s.heap)(h2:SrcTn b2 i2 l2 k2 s.heap)(hl1:SrcSq b1 s.heap l1 xs)(hl2:SrcSq b2 s.heap l2 ys)(hx:xs[k1]?=ap x)(hy:ys[k2]?=ap y)(hQ:∀h',Wc h' z TI TO (t3 s.heap.objs.size)->re h' TO x y->SrcTn b1 i1 l1 (k1+1) h'->SrcTn b2 i2 l2 (k2+1) h'->re h' s.heap.objs.size x y->h'.objs.size=s.heap.objs.size+1->
   (∀c o,c≠z->c≠TO->c≠i1->c≠i2->s.heap.get? c=ap o->h'.get? c=ap o)->Q (.ref s.heap.objs.size) { s with heap:=h' }):
  eH (ff prog w) A (Builtin.«zip.__next__» ⟨[.ref z],[]⟩) (λfin s'=>∃v,fin=.done (.ret v)/\Q v s') E s:=by
 show eH _ _ (T0 (.ref z) 2 >>= _) _ _ _;refine ax (g5 hz rfl (x:=.bool eC) rfl ?_);show eH _ _ (T0 (.ref z) 3 >>= _) _ _ _;refine ax (g5 hz rfl (x:=.ref TI) rfl ?_);refine ax (om hTI rfl ?_);show eH _ _ (Pn (.ref z) >>= _) _ _ _;refine ax ?_;unfold Pn;refine ax (g5 hz rfl (x:=.none) rfl<|wpAny_pure ?_);simp only[if_true];refine ax (z5 ?_);refine ax (g5 hz rfl (x:=.ref TO) rfl ?_);refine ax (pt hz (by simp) λY G hs1=>?_)
 replace G:Wc Y z TI TO .ellipsis:=G
 refine ax ?_;simp only[Qm,List.zipIdx_nil,Tg,Sl];refine ax (ax<|wpAny_onRaise ?_);show eH _ _ (OX (.ref i1) >>= _) _ _ _;refine ax (bP (h1.keep λo e=>hs1.extBut _ o D.i1z e) (hl1.keep λo e=>hs1.extBut _ o O1.1 e) hx λW I hs₂=>eX ?_);have u:re W TO a b:=hs₂.extBut _ _ D.TOi1 (hs1.extBut _ _ D.TOz hTO);refine ax (om u rfl ?_);refine ax (WQ u λS q hs₃=>?_)
 replace q:re S TO x b:=q
 refine ax (wpAny_letGo<|wpAny_pure ?_);refine ax (ax<|wpAny_onRaise ?_);show eH _ _ (OX (.ref i2) >>= _) _ _ _
 refine ax (bP (h2.keep λo e=>hs₃.extBut _ o D.TOi2.symm (hs₂.extBut _ o D.i12.symm<|hs1.extBut _ o D.i2z e))
  (hl2.keep λo e=>hs₃.extBut _ o O2.2.1 (hs₂.extBut _ o O2.2.2.1<|hs1.extBut _ o O2.1 e)) hy λN h24 p=>eX ?_)
 have C:re N TO x b:=p.extBut _ _ D.TOi2 q;refine ax (om C rfl ?_);refine ax (WQ C λf m n=>?_)
 replace m:re f TO x y:=m
 refine ax (wpAny_letGo<|wpAny_pure<|wpAny_pure ?_);refine ax (om m rfl ?_);refine ax (Wj ?_);have hsz:f.objs.size=s.heap.objs.size:=by rw[n.1,p.1,hs₃.1,hs₂.1,hs1.1]
 have R:Wc f z TI TO .ellipsis:=n.extBut _ _ D.TOz.symm (p.extBut _ _ D.i2z.symm<|hs₃.extBut _ _ D.TOz.symm<|hs₂.extBut _ _ D.i1z.symm G);have hk5:∀c o,c≠z->c≠TO->c≠i1->c≠i2->s.heap.get? c=ap o->f.get? c=ap o:=λc o J c2 c3 c4 e=>
  n.extBut _ _ c2 (p.extBut _ _ c4<|hs₃.extBut _ _ c2<|hs₂.extBut _ _ c3<|hs1.extBut _ _ J e)
 have h15:SrcTn b1 i1 l1 (k1+1) f:=I.keep λo e=>n.extBut _ o D.TOi1.symm (p.extBut _ o D.i12<|hs₃.extBut _ o D.TOi1.symm e);have h25:SrcTn b2 i2 l2 (k2+1) f:=h24.keep λo e=>n.extBut _ o D.TOi2.symm e;have B:z<f.objs.size:=OC R;show eH _ _ (RE (.ref z) (.ref f.objs.size) >>= _) _ _ _;refine ax ?_;unfold RE;have hz6:Wc (f.push { cls:=.type "tuple",data:=.seq #[x,y] }) z TI TO .ellipsis:=Oq _ R;refine ax (pt hz6 (by simp) λO M L=>?_)
 replace M:Wc O z TI TO (t3 f.objs.size):=M
 refine pt M (by simp) λj g F=>?_
 replace g:Wc j z TI TO (t3 f.objs.size):=g
 have up:∀c o,c≠z->f.get? c=ap o->j.get? c=ap o:=λc o J e=>F.extBut _ _ J (L.extBut _ _ J<|Oq _ e);have hT8:re j f.objs.size x y:=F.extBut _ _ (Qu B) (L.extBut _ _ (Qu B)<|OD _ rfl);have U:j.objs.size=f.objs.size+1:=by rw[F.1,L.1,Pg]
 rw[hsz]at g hT8 U;refine eX ⟨_,rfl,?_⟩;show Q (.ref f.objs.size) _;rw[hsz];exact hQ j g (up _ _ D.TOz m) (h15.keep λo e=>up _ o D.i1z e) (h25.keep λo e=>up _ o D.i2z e) hT8 U λc o J c2 c3 c4 e=>up c o J (hk5 c o J c2 c3 c4 e)
theorem jZ{TI TO:eg}{a b:ay}{Q:Option ay->el->Prop}(D:ZApart z TI TO i1 i2)(O1:Ik z TO i1 i2 l1)(O2:Ik z TO i1 i2 l2)(n:Wc s.heap z TI TO .none)(j:re s.heap TI (.ref i1) (.ref i2))(e:re s.heap TO a b)(J:SrcTn b1 i1 l1 k1 s.heap)(L:SrcTn b2 i2 l2 k2 s.heap)(f:SrcSq b1 s.heap l1 xs)(g:SrcSq b2 s.heap l2 ys)(I:xs[k1]?=ap x)(M:ys[k2]?=ap y)(G:∀h',Wc h' z TI TO (t3 s.heap.objs.size)->re h' TO x y->SrcTn b1 i1 l1 (k1+1) h'->SrcTn b2 i2 l2 (k2+1) h'->re h' s.heap.objs.size x y->h'.objs.size=s.heap.objs.size+1->
   (∀c o,c≠z->c≠TO->c≠i1->c≠i2->s.heap.get? c=ap o->h'.get? c=ap o)->Q (ap<|.ref s.heap.objs.size) { s with heap:=h' }):
  eH (ff prog w) A (Os<|.ref z) Q E s:=by
 have m:s.TypeIs (.ref z) "zip":=⟨_,n,rfl⟩;unfold Os
 exact ax (Pi (wpAny_callSpecial?_slot (name:=PH "__next__") m QZ
  (kr QZ m Tt (Bc D O1 O2 n j e J L f g I M λh' B p u F C v q=>eX (G h' B p u F C v q))<|Ta _)))
end
abbrev zH1(c1:String)(h:hI)(l1:eg):Heap:=h.push { cls:=.type c1,data:=.fields #[.ref l1,.int 0 0] }
abbrev zH2(c1 c2:String)(h:hI)(l1 l2:eg):Heap:=(zH1 c1 h l1).push { cls:=.type c2,data:=.fields #[.ref l2,.int 0 0] }
abbrev zH3(c1 c2:String)(h:hI)(l1 l2:eg):Heap:=(zH2 c1 c2 h l1 l2).push { cls:=.type "tuple",data:=.seq #[.ref h.objs.size,.ref (zH1 c1 h l1).objs.size] }
abbrev zH4(c1 c2:String)(h:hI)(l1 l2:eg):Heap:=(zH3 c1 c2 h l1 l2).push { cls:=.type "tuple",data:=.seq #[.none,.none] }
abbrev KH(c1 c2:String)(h:hI)(l1 l2:eg):Heap:=(zH4 c1 c2 h l1 l2).push { cls:=.type "zip",data:=.fields #[.none,.bool eC,.bool eC,.ref (zH2 c1 c2 h l1 l2).objs.size,.ref (zH3 c1 c2 h l1 l2).objs.size] }
theorem zW(b1 b2:Bool)(l1 l2:eg)(xs ys:Xg):
  Wt (Builtin.«zip.__new__» ⟨[.type "zip",.ref l1,.ref l2],[]⟩) (λ_ R s=>SrcSq b1 s.heap l1 xs/\SrcSq b2 s.heap l2 ys/\
   R (.ok<|.ret<|.ref (zH4 (aU b1) (aU b2) s.heap l1 l2).objs.size) { s with heap:=KH (aU b1) (aU b2) s.heap l1 l2 }):=
 .of_wp λprog w A R s h=>by
  obtain⟨n,g,d,q,u⟩:=s;obtain⟨j,m,h⟩:=h;have p:=sub_zip;have f:SrcSq b1 (Ug ⟨n,g,d,q,u⟩) l1 xs:=j;have c:SrcSq b2 (Ug ⟨n.push { cls:=.type (aU b1),data:=.fields #[.ref l1,.int 0 0] },g,d,q,u⟩) l2 ys:=SrcSq.keep m λo e=>Oq _ e
  wp_walk using dw f,dw c
  exact⟨_,rfl,h⟩
section
theorem Cg(n:SrcSq b1 s.heap l1 xs)(p:SrcSq b2 s.heap l2 ys)(h:∀h',Wc h' (s.heap.objs.size+4) (s.heap.objs.size+2) (s.heap.objs.size+3) .none->re h' (s.heap.objs.size+2) (.ref s.heap.objs.size) (.ref (s.heap.objs.size+1))->
   re h' (s.heap.objs.size+3) .none .none->SrcTn b1 s.heap.objs.size l1 0 h'->SrcTn b2 (s.heap.objs.size+1) l2 0 h'->h'.objs.size=s.heap.objs.size+5->
   (∀c o,s.heap.get? c=ap o->h'.get? c=ap o)->Q (.ref (s.heap.objs.size+4)) { s with heap:=h' }):
  eH (ff prog w) A (call (.type "zip") [.ref l1,.ref l2]) Q E s:=by
 refine WM F.called_zip (by decide) (F.typeCall_zip_2 _ _) (F.newCall_zip_2 _ _) (λobj=>F.args_object_init_3 obj _ _) F.entry_zip_new (zW b1 b2 l1 l2 xs ys) ⟨n,p,?_⟩
 have m:(zH1 (aU b1) s.heap l1).objs.size=s.heap.objs.size+1:=Pg ..;have e:(zH2 (aU b1) (aU b2) s.heap l1 l2).objs.size=s.heap.objs.size+2:=by rw[Pg,m]
 have j:(zH3 (aU b1) (aU b2) s.heap l1 l2).objs.size=s.heap.objs.size+3:=by rw[Pg,e]
 have g:(zH4 (aU b1) (aU b2) s.heap l1 l2).objs.size=s.heap.objs.size+4:=by rw[Pg,j]
 have C:(KH (aU b1) (aU b2) s.heap l1 l2).objs.size=s.heap.objs.size+5:=by rw[Pg,g]
 have f:(KH (aU b1) (aU b2) s.heap l1 l2).get? (zH4 (aU b1) (aU b2) s.heap l1 l2).objs.size=ap _:=OD _ rfl;have u:(KH (aU b1) (aU b2) s.heap l1 l2).get? (zH3 (aU b1) (aU b2) s.heap l1 l2).objs.size=ap _:=Oq _ (OD _ rfl);have v:(KH (aU b1) (aU b2) s.heap l1 l2).get? (zH2 (aU b1) (aU b2) s.heap l1 l2).objs.size=ap _:=Oq _ (Oq _<|OD _ rfl);have q:(KH (aU b1) (aU b2) s.heap l1 l2).get? (zH1 (aU b1) s.heap l1).objs.size=ap _:=Oq _ (Oq _<|Oq _<|OD _ rfl);have B:(KH (aU b1) (aU b2) s.heap l1 l2).get? s.heap.objs.size=ap _:=Oq _ (Oq _<|Oq _<|Oq _<|OD _ rfl);show _/\_;rw[e,j,g]at f;rw[m,e]at v;rw[j]at u;rw[m]at q;rw[g];exact⟨⟨_,f,rfl⟩,h _ f v u (qJ B) (qJ q) C λc o x=>
  Oq _ (Oq _<|Oq _<|Oq _<|Oq _ x)⟩
end
def A9(K:Ow)(b:Bool)(H:Hp)(a:eg)(xs:List V):Prop:=if b=true then SqL K H a xs else i7 K H a xs
section
variable{xs ys:List V}
theorem Inv.src(I:Inv X WZ Z H s)(h:A9 X.K b H a xs):∃W5:List ay,Vals xs W5/\SrcSq b s.heap a W5.toArray/\xs.length<=sizeLine:=by
 cases b with
 |true=>obtain⟨W5,r,p,z⟩:=I.list (show SqL X.K H a xs from h);exact⟨W5,r,p.isList,z⟩
 |false=>obtain⟨W5,r,p,z⟩:=I.tuple (show i7 X.K H a xs from h);exact⟨W5,r,p,z⟩
theorem Inv.src_inj(I:Inv X WZ Z H s)(h:A9 X.K b H a xs)(h':A9 X.K b H a ys):xs=ys:=by
 cases b with
 |true=>exact I.list_inj (show SqL X.K H a xs from h) h'
 |false=>exact I.tuple_inj (show i7 X.K H a xs from h) h'
theorem Inv.src_ne(I:Inv X WZ Z H s)(h:A9 X.K b H a xs)(f:jd X WZ H it):a≠it:=by
 obtain⟨j,f1,q,n,p,u⟩:=f;intro e;subst e;have g:∀o,X.K.lookup a=ap o->False:=λo c=>by
  have m:=I.ok.mod.kin a o c;rcases n with z|z
  .exact I.ok.noex a o m z
  .exact absurd (OA (OC (I.ok.bs a o m).1) z) (PC _)
 cases b with
 |true=>
  rcases (show SqL X.K H a xs from h) with (z|⟨o,z⟩)|⟨o,_,_,c,_⟩
  .rw[j]at z;cases z
  .rw[j]at z;cases z
  .exact g o c
 |false=>
  rcases (show i7 X.K H a xs from h) with (z|⟨o,z⟩)|⟨o,_,_,c,_⟩
  .rw[j]at z;cases z
  .rw[j]at z;cases z
  .exact g o c
end
theorem Inv.turned4{t':Nat}{j:Xa}(I:Inv X WZ Z H s)(p:∀b∈j,jd X WZ H b)(k:∀b o,b∉j->s.heap.get? b=ap o->h'.get? b=ap o):Inv X WZ Z H { s with heap:=h',toks:=t' }:=by
 have g:∀b u,H b=ap u->b∉j:=λb u e z=>by have:=(p b z).1;rw[e]at this;cases this
 refine I.step (g':=s.gens) (d':=s.drawn) (ch:=j) (λb N=>?_) (λb o _ _ f e _=>k b o f e) (λb o _ _ f e _=>⟨o.slots,k b o f e⟩) (λ_ _ _ _ n=>n)
  (λb o f e=>⟨o,k b o f e⟩) (λ_ _ e=>e) (λ_ _ _ e=>e) (λb O e=>⟨#[],by rw[e];simp⟩) (λm M=>?_) (λb u e=>?_) I.bare
 .obtain⟨S,f1,R,B,G,L⟩:=p b N
  exact⟨B,f1,G,L⟩
 .obtain⟨o,F,J,C,r⟩:=M
  exact⟨o,F,J,k _ o (λz=>(p _ z).2.1 rfl) C,r⟩
 .refine (I.hok b u e).stay (λc v f q=>k c v ?_ q) (λ_ q=>q) λ_ _ q=>q
  rcases f with z|z
  .rw[z];exact g b u e
  .exact g c _ z
theorem Inv.turnedNew{t':Nat}{j:Xa}{zs:List V}{us:W9}{B:Obj}(I:Inv X WZ Z H s)(M:∀b∈j,jd X WZ H b)(k:∀b o,b∉j->s.heap.get? b=ap o->h'.get? b=ap o)(hlt:∀b∈j,∃o,s.heap.get? b=ap o)(hlv:∀b∈j,∃o,h'.get? b=ap o)(hT:h'.get? s.heap.objs.size=ap B)(J:B.cls=.type "tuple")(L:∃n,B.data=.seq us.toArray n)(r:Vals zs us)(G:B.dict=cm)(hz:zs.length<=sizeLine):Inv X WZ Z (upd H s.heap.objs.size<|.tup zs) { s with heap:=h',toks:=t' }:=by
 have f:H s.heap.objs.size=none:=I.hok.fresh (Oz _);have p:∀b u,H b=ap u->b∉j:=λb u e z=>by have:=(M b z).1;rw[e]at this;cases this
 refine I.step (g':=s.gens) (d':=s.drawn) (ch:=j) (λb C=>?_) (λb o _ _ g e _=>k b o g e) (λb o _ _ g e _=>⟨o.slots,k b o g e⟩) (λb o _ e n=>by rw[aM (ON<|OC e)];exact n)
  (λb o g e=>⟨o,k b o g e⟩) (λb F e=>by rw[aM (bg e f)];exact e) (λb o u e=>by rw[aM (bg e f)];exact e) (λb ps e=>⟨#[],by rw[aM (bg e f),e];simp⟩) (λm hm=>?_) (λb u e=>?_) I.bare
 .obtain⟨f0,f1,f2,N,S,Y⟩:=M b C
  exact⟨N,f1,S,Y⟩
 .obtain⟨o,R,U,O,r⟩:=hm
  exact⟨o,R,U,k _ o (λz=>(M _ z).2.1 rfl) O,r⟩
 .by_cases C:b=s.heap.objs.size
  .subst C
   rw[upd_same]at e;cases e;obtain⟨n,W⟩:=L;exact⟨hz,us,r,⟨B,hT,⟨J,n,W⟩,G⟩⟩
  .rw[aM C]at e
   refine (I.hok b u e).stay (λc v g q=>k c v ?_ q) (λc q=>by rw[aM (bg q f)];exact q) λc F q=>by rw[aM (bg q f)];exact q
   rcases g with z|z
   .rw[z];exact p b u e
   .exact p c _ z
section
def Ite(K:Ow)(b:Bool)(l:eg):It:=
 ⟨λi H=>∃xs x,A9 K b H l xs/\xs[i]?=ap x,
  λi H v H'=>∃T x,H T=cm/\v=.ref T/\H'=upd H T (.tup [.int i,x])/\(∀xs,A9 K b H l xs->xs[i]?=ap x),
  λi H=>∃xs,A9 K b H l xs/\xs.length<=i⟩
end
section
theorem Draws.src(u:A.handled=cm)(b:Bool)(it l:eg)(j:l≠it)(items:Xg):
  Draws prog w A it [it,l] items.size (λi v=>items[i]?=ap v) (λi h=>SrcTn b it l i h/\SrcSq b h l items) where
 live:=λ_ _ c=>let ⟨o,ho,_⟩:=c.1.lt;⟨o,ho⟩
 frame:=λ_ _ _ c n=>⟨c.1.keep λo e=>n it (by simp) o e,c.2.keep λo e=>n l (by simp) o e⟩
 item:=λi s Q E m c q=>by
  refine bP c.1 c.2 (x:=items[i]) (by simp[m]) λh' f g=>?_
  exact q _ h' s.toks (by simp[m]) ⟨f,c.2.keep λo e=>g.extBut _ o j e⟩ g
 done:=λs Q E c p=>dM u c.1 c.2 (by simp) p
theorem wd(b:Bool)(l:eg)(items:Xg):
  Wt (Builtin.«enumerate.__new__» ⟨[.type "enumerate",.ref l],[]⟩) (λ_ R s=>SrcSq b s.heap l items/\
   R (.ok<|.ret<|.ref (s.heap.push { cls:=.type (aU b),data:=.fields #[.ref l,.int 0 0] }).objs.size)
    { s with heap:=(s.heap.push { cls:=.type (aU b),data:=.fields #[.ref l,.int 0 0] }).push { cls:=.type "enumerate",data:=.fields #[.none,.bool eC,.ref s.heap.objs.size,t3 0,.none,.none] } }):=
 .of_wp λprog w A R s h=>by
  obtain⟨j,g,d,o,n⟩:=s;obtain⟨m,h⟩:=h;have f:=sub_enumerate;have e:SrcSq b (Ug ⟨j,g,d,o,n⟩) l items:=m
  wp_walk
  refine wpAny_stack_any λp=>eX ?_
  split
  .rename_i c _ _ _ _ _
   cases (c==Tn "enumerate")
   .wp_walk using dw e
    exact⟨_,rfl,h⟩
   .wp_walk using dw e
    exact⟨_,rfl,h⟩
  .wp_walk using dw e
   exact⟨_,rfl,h⟩
theorem A0{l:eg}(f:SrcSq b s.heap l items)(h:∀h',IsEnum h' (s.heap.objs.size+1) s.heap.objs.size 0 .none->SrcTn b s.heap.objs.size l 0 h'->h'.objs.size=s.heap.objs.size+2->
   (∀b o,s.heap.get? b=ap o->h'.get? b=ap o)->Q (.ref (s.heap.objs.size+1)) { s with heap:=h' }):
  eH (ff prog w) A (call (.type "enumerate") [.ref l]) Q E s:=by
 refine WM F.called_enumerate (by decide) (F.typeCall_enumerate_1 _) (F.newCall_enumerate_1 _) (λobj=>F.args_object_init_2 obj _) F.entry_enumerate_new (wd b l items) ⟨f,?_⟩
 have c:(s.heap.push { cls:=.type (aU b),data:=.fields #[.ref l,.int 0 0] }).objs.size=s.heap.objs.size+1:=Pg ..;show _/\_;rw[c]
 have e:IsEnum ((s.heap.push { cls:=.type (aU b),data:=.fields #[.ref l,.int 0 0] }).push
   { cls:=.type "enumerate",data:=.fields #[.none,.bool eC,.ref s.heap.objs.size,t3 0,.none,.none] }) (s.heap.objs.size+1) s.heap.objs.size 0 .none:=by
  have:=OD (s.heap.push { cls:=.type (aU b),data:=.fields #[.ref l,.int 0 0] })
   (o:={ cls:=.type "enumerate",data:=.fields #[.none,.bool eC,.ref s.heap.objs.size,t3 0,.none,.none] }) rfl
  rw[c]at this;exact this
 refine⟨⟨_,e,rfl⟩,h _ e (qJ<|Oq _<|OD _ rfl) (by rw[Pg,c]) λb o x=>Oq _ (Oq _ x)⟩
end
theorem zR{S:Xb}{x1:Nat}{tp:Pos}(b:Bool)(l e it:eg)(N:e≠it):
  Turn P w K (.Tuple S x1 tp) (Ite K b l) [e,it] e (λi h=>(∃m,IsEnum h e it i m)/\SrcTn b it l i h) where
 mem:=by simp
 obj:=λi h C c f=>by
  obtain⟨⟨m,n⟩,J⟩:=C;have g:c=e\/c=it:=by simpa using f
  rcases g with q|q<;>subst q
  .exact⟨_,n,λv z=>nomatch z⟩
  .exact J.lt
 keep:=λi h h' C k=>by
  obtain⟨⟨m,n⟩,J⟩:=C;exact⟨⟨m,k e (by simp) _ n⟩,J.keep λo q=>k it (by simp) o q⟩
 item:=by
  intro X hP hw hK f i WZ s Z H E I M C hg;subst hP hw hK;obtain⟨xs,x,L,U⟩:=hg;obtain⟨⟨m,n⟩,J⟩:=C;obtain⟨j,r,sq,z1⟩:=I.src L;obtain⟨u,hu,ru⟩:=r.get U;have hle:l≠e:=I.src_ne L (M e<|by simp)
  have R:l≠it:=I.src_ne L (M it<|by simp)
  have hil:i<j.toArray.size:=by
   rw[OB,<- r.length];exact(Qc.mp U).1
  have D:Draws X.prog X.w X.A.in1 it [it,l] j.toArray.size (λi v=>j.toArray[i]?=ap v) (λi h=>SrcTn b it l i h/\SrcSq b h l j.toArray):=Draws.src (A:=X.A.in1) (I.ok.hd f) b it l R j.toArray;refine wpAny_pyNext_enum_itemD D n ⟨J,sq⟩ hil N (by simp[N,OW hle]) λv h' Y hv ho hs' W hsz hk=>?_
  have ev:v=u:=by
   have hu':j.toArray[i]?=ap u:=by simpa using hu
   rw[hu']at hv;exact(Px hv).symm
  subst ev;refine⟨_,rfl,wpAny_letOwnedTupleGo_enum ho λp G B=>?_⟩;have hes:e≠s.heap.objs.size:=ON (OC n);have n1:SrcTn b it l (i+1) p:=hs'.1.keep λo q=>B.extBut _ o N.symm q;have kk:∀c o,c∉[e,it]->s.heap.get? c=ap o->p.get? c=ap o:=λc o f q=>
   B.extBut c o (λz=>f (by simp[z])) (hk c o (λz=>f (by simp[z])) (λz=>f (by simp[z])) q)
  have hT':p.get? s.heap.objs.size=ap { cls:=.type "tuple",data:=.seq #[.int i Y,v] }:=B.extBut _ _ hes.symm W;have lv:∀c∈[e,it],∃o,s.heap.get? c=ap o:=λc f=>by
   have g:c=e\/c=it:=by simpa using f
   rcases g with q|q<;>subst q
   .exact⟨_,n⟩
   .obtain⟨o,q,_⟩:=J.lt;exact⟨o,q⟩
  have lv':∀c∈[e,it],∃o,p.get? c=ap o:=λc f=>by
   have g:c=e\/c=it:=by simpa using f
   rcases g with q|q<;>subst q
   .exact⟨_,G⟩
   .obtain⟨o,q,_⟩:=n1.lt;exact⟨o,q⟩
  have hTn:H s.heap.objs.size=none:=I.hok.fresh (Oz _);refine⟨.ref s.heap.objs.size,_,I.turnedNew (s:=s) (h':=p) (t':=Y+1) (zs:=[.int i,x]) (us:=[.int i Y,v]) M kk lv lv' hT' rfl ⟨_,rfl⟩ (.cons ⟨Y,rfl⟩<|.cons ru .nil) rfl (by show 2<=sizeLine;decide),rfl,⟨_,x,hTn,rfl,rfl,λzs O=>?_⟩,⟨⟨v,by simpa using G⟩,n1⟩,λc f=>?_⟩
  .rw[I.src_inj O L];exact U
  .obtain⟨o,q⟩:=lv c f
   rw[aM (ON<|OC q)];exact(M c f).1
 done:=by
  intro X hP hw hK f i WZ s Z H E I M C hg;subst hP hw hK;obtain⟨xs,L,U⟩:=hg;obtain⟨⟨m,n⟩,J⟩:=C;obtain⟨j,r,sq,z1⟩:=I.src L;have R:l≠it:=I.src_ne L (M it<|by simp)
  have W:s.TypeIs (.ref e) "enumerate":=⟨_,n,rfl⟩;have hl:=r.length;unfold Os
  refine ax (Pi (wpAny_callSpecial?_slot (name:=PH "__next__") W US
   (kr US W F.entry_enumerate_next ?_<|F.args_enumerate_next_1 _)))
  show eH _ _ (T0 (.ref e) 2 >>= _) _ _ _;refine ax (g5 n rfl (x:=.ref it) rfl ?_);refine ax (dM (I.ok.hd f) J sq (by simp;lia) λh' x he' hx'=>?_)
  obtain⟨o,ho,hcl⟩:=hx';refine ax (VQ (T:="StopIteration") (b:=true) ⟨o,ho,hcl⟩ Wm ?_);exact eX ⟨rfl,I.turned4 (t':=s.toks) M λc o' g q=>he' c o' (λz=>g (by simp[z])) q⟩
 self:=λ_ _ _ _ _ C h=>let ⟨⟨_,n⟩,_⟩:=C;wpAny_pyIter_enum n h
section
theorem uh:bL X (.builtin "isinstance") (λxs H Q=>∃x T t b,xs=[x,.ty T]/\TyOf X.K H x t/\W.kitOne X.K t (.type T)=ap b/\Q (.bl b) H):=by
 intro WZ s Z H xs m Q I r h;obtain⟨x,T,t,b,rfl,ty,e,q⟩:=h;obtain⟨u,c,rfl,g,f⟩:=r.two;obtain rfl:c=Tn T:=f;exact z6 I g ty e λj=>⟨.bl b,H,I.tok j,rfl,q⟩
end
abbrev Dq(h:hI)(z TI TO:eg)(f0:ay)(f1:Bool):Prop:=
 h.get? z=ap { cls:=.type "zip",dict:=cm,data:=.fields #[f0,.bool f1,.bool eC,.ref TI,.ref TO],slots:=#[] }
theorem fk:VZ WT "zip.__getattribute__"=ap Builtin.«object.__getattribute__»:=
 Wn (id':="object.__getattribute__") (by kernel_rfl) (by decide +kernel) (by decide +kernel) (by kernel_rfl)
theorem ji:On (.type "zip") "__getattr__"=pure none:=by rw[pr,j0];kernel_rfl
theorem uf:On (.type "zip") "keys"=pure none:=by rw[pr,j0];kernel_rfl
theorem bv:VZ WT "dict.update.loop"=ap Builtin.«dict.update.loop»:=entryFor_of_fast (by kernel_rfl)
theorem aR:plainId "dict.update.loop"=true:=by decide +kernel
theorem mq(a TI TO:eg)(p:ay)(f1:Bool)(name:Str)(u:Tok)(f:On (.type "zip") name=pure cm)(c:(["__module__","__name__","__qualname__","__doc__","__annotations__"]:W8).contains name=eC)(hsz:name.length+100<=sizeLine:=by size_fits):
  Wt (Builtin.«object.__getattribute__» ⟨[.ref a,.str name u],[]⟩) (λA R s=>Dq s.heap a TI TO p f1/\raisesAttr (.ref a) name A R s):=
 Meets.of_wp λprog w A R s e=>by
  obtain⟨j,g,d,n,o⟩:=s;obtain⟨m,e⟩:=e;have q:(⟨j,g,d,n,o⟩:el).TypeIs (.ref a) "zip":=⟨_,m,rfl⟩;unfold Builtin.«object.__getattribute__»
  repeat (any_goals (first|assumption|wp_step))
  simp only[c,OI,if_false]
  repeat (any_goals (first|assumption|wp_step))
  exact WR e.1 e.2 (attrMsg_fits (by decide +kernel) hsz)
section
theorem nF{TI TO:eg}{m:ay}{Q:Option ay->el->Prop}(n:Dq s.heap a TI TO m f1)(B:A.handled=cm)(h:∀h' p,(∀b o,s.heap.get? b=ap o->h'.get? b=ap o)->Q cm { s with heap:=h',toks:=p }):eH (ff prog w) A (WX (.ref a) "keys") Q E s:=by
 obtain⟨q,g,d,p,v⟩:=s;have j:∀c,(⟨q,g,d,c,v⟩:el).TypeIs (.ref a) "zip":=λ_=>⟨_,n,rfl⟩;have u:=sub_AttributeError;have I:=Sf.lookup;have C:=Sf.bind (.ref a);have J:=ji;unfold WX getAttrBy? getAttrBy
 repeat (any_goals (first|assumption|exact j _|((with_reducible show eH _ _ (call (TF "zip.__getattribute__") _ _) _ _ _);refine vb Sf (j _) fk (F.args_zip_getattribute_2 _ _) (mq a TI TO m f1 "keys" _ uf (by decide +kernel)<|by decide +kernel) ⟨n,B,λh' c e f=>?_⟩)|wp_step))
 obtain⟨G,M,L⟩:=f.there;show eH _ _ (Tl _ _ _ _ _ _ _) _ _ _;unfold Tl
 repeat (any_goals (first|assumption|wp_step))
 exact h _ _ f.keeps
theorem m5{M:Model}{o:Obj}{Q:Option Obj->el->Prop}(c:s.heap.get? a=ap o)(h:Q (ap o) s):eH M A (WW a) Q E s:=λΓ p _=>by
 show Sem.wp M Γ (.loadIfAlive a .pure) _ _ p s;rw[Sem.wp_loadIfAlive,c];exact h
end
section
theorem yX{TI TO:eg}(D:ZApart z TI TO i1 i2)(O1:l1≠z/\l1≠i1)(O2:l2≠z/\l2≠i1/\l2≠i2)(u:Dq s.heap z TI TO (t3 T) f1)(Y:s.heap.get? T=ap oT)(J:re s.heap TI (.ref i1) (.ref i2))(h1:SrcTn b1 i1 l1 k1 s.heap)(h2:SrcTn b2 i2 l2 k2 s.heap)(G:SrcSq b1 s.heap l1 xs)(I:SrcSq b2 s.heap l2 ys)(hx:xs[k1]?=ap x)(hy:ys[k2]?=ap y)(hQ:∀h',Dq h' z TI TO (t3 T) true->SrcTn b1 i1 l1 (k1+1) h'->SrcTn b2 i2 l2 (k2+1) h'->re h' s.heap.objs.size x y->h'.objs.size=s.heap.objs.size+1->
   (∀c o,c≠z->c≠i1->c≠i2->s.heap.get? c=ap o->h'.get? c=ap o)->Q (.ref s.heap.objs.size) { s with heap:=h' }):
  eH (ff prog w) A (Builtin.«zip.__next__» ⟨[.ref z],[]⟩) (λfin B=>∃v,fin=.done (.ret v)/\Q v B) E s:=by
 show eH _ _ (T0 (.ref z) 2 >>= _) _ _ _;refine ax (g5 u rfl (x:=.bool eC) rfl ?_);show eH _ _ (T0 (.ref z) 3 >>= _) _ _ _;refine ax (g5 u rfl (x:=.ref TI) rfl ?_);refine ax (om J rfl ?_);show eH _ _ (Pn (.ref z) >>= _) _ _ _;refine ax ?_;unfold Pn;refine ax (g5 u rfl (x:=t3 T) rfl ?_);show eH _ _ (WW _ >>= _) _ _ _;refine ax (m5 (o:=oT) (by simpa using Y) ?_)
 simp only[UH,OI,if_false];refine ax (g5 u rfl (x:=.bool f1) rfl ?_)
 have go:eH (ff prog w) A (if (QG f1 != QG true)=true then do WU (OU z) 1 (QG true);pure eC else pure eC)
   (λa B=>a=eC/\∃f,B={ s with heap:=f }/\Dq f z TI TO (t3 T) true/\(∀c o,c≠z->s.heap.get? c=ap o->f.get? c=ap o)/\f.objs.size=s.heap.objs.size) E s:=by
  cases f1 with
  |true=>
   rw[if_neg (by decide)]
   exact eX ⟨rfl,s.heap,rfl,u,λ_ _ _ e=>e,rfl⟩
  |false=>
   rw[if_pos (by decide)]
   refine ax (pt u (by simp) λf g n=>eX ⟨rfl,f,rfl,g,λc o O e=>n.extBut c o O e,n.1⟩)
 refine mu go (λa B R=>?_) λ_ _ e=>e;obtain⟨rfl,f,rfl,g,hk₀,n⟩:=R;simp only[OI,if_false];rw[<- UQ];simp only[Tg,Sl];refine ax (ax<|wpAny_bind<|wpAny_holding ?_);show eH _ _ (OX (.ref i1) >>= _) _ _ _;refine ax (bP (s:={ s with heap:=f }) (h1.keep λo e=>hk₀ _ o D.i1z e) (G.keep λo e=>hk₀ _ o O1.1 e) hx λj p hs₂=>eX ?_);refine eX ?_;refine ax (ax<|wpAny_holding ?_);show eH _ _ (OX (.ref i2) >>= _) _ _ _;refine ax (bP (s:={ s with heap:=j }) (h2.keep λo e=>hs₂.extBut _ o D.i12.symm (hk₀ _ o D.i2z e)) (I.keep λo e=>hs₂.extBut _ o O2.2.1 (hk₀ _ o O2.1 e)) hy λm C hs₃=>eX ?_);refine eX (eX ?_);refine ax (Wj (eX ⟨_,rfl,?_⟩)<|by show 2<=sizeLine;decide)
 have L:j.objs.size=f.objs.size:=hs₂.1;have U:m.objs.size=j.objs.size:=hs₃.1;have q:m.objs.size=s.heap.objs.size:=by rw[U,L,n]
 have M:z≠i1:=D.i1z.symm;have F:z≠i2:=D.i2z.symm;show Q (.ref m.objs.size) _;rw[q];refine hQ _ (Oq _<|hs₃.extBut _ _ F<|hs₂.extBut _ _ M g) (p.keep λo e=>Oq _ (hs₃.extBut _ o D.i12 e)) (C.keep λo e=>Oq _ e) ?_ ?_ λc o S N W e=>Oq _ (hs₃.extBut _ _ W<|hs₂.extBut _ _ N<|hk₀ c o S e)
 .rw[<- q]
  exact OD _ rfl
 .rw[Pg,q]
theorem Cb{b2:Bool}{TI TO l2:eg}{k2:Nat}{ys:Xg}{Q:Fin->el->Prop}(S:A.handled=cm)(D:ZApart z TI TO i1 i2)(O1:l1≠z/\l1≠i1)(n:Dq s.heap z TI TO (t3 T) f1)(M:s.heap.get? T=ap oT)(B:re s.heap TI (.ref i1) (.ref i2))(R:SrcTn b1 i1 l1 k1 s.heap)(v:SrcSq b1 s.heap l1 xs)(O:xs[k1]?=cm)(N:∀h' e,(∀c o,c≠z->c≠i1->s.heap.get? c=ap o->h'.get? c=ap o)->(∃o,h'.get? e=ap o/\o.cls=.type "StopIteration")->E (.ref e) { s with heap:=h' }):
  eH (ff prog w) A (Builtin.«zip.__next__» ⟨[.ref z],[]⟩) Q E s:=by
 show eH _ _ (T0 (.ref z) 2 >>= _) _ _ _;refine ax (g5 n rfl (x:=.bool eC) rfl ?_);show eH _ _ (T0 (.ref z) 3 >>= _) _ _ _;refine ax (g5 n rfl (x:=.ref TI) rfl ?_);refine ax (om B rfl ?_);show eH _ _ (Pn (.ref z) >>= _) _ _ _;refine ax ?_;unfold Pn;refine ax (g5 n rfl (x:=t3 T) rfl ?_);show eH _ _ (WW _ >>= _) _ _ _;refine ax (m5 (o:=oT) (by simpa using M) ?_)
 simp only[UH,OI,if_false];refine ax (g5 n rfl (x:=.bool f1) rfl ?_)
 have go:eH (ff prog w) A (if (QG f1 != QG true)=true then do WU (OU z) 1 (QG true);pure eC else pure eC)
   (λa C=>a=eC/\∃f,C={ s with heap:=f }/\(∀c o,c≠z->s.heap.get? c=ap o->f.get? c=ap o)) E s:=by
  cases f1 with
  |true=>
   rw[if_neg (by decide)]
   exact eX ⟨rfl,s.heap,rfl,λ_ _ _ e=>e⟩
  |false=>
   rw[if_pos (by decide)]
   refine ax (pt n (by simp) λf u p=>eX ⟨rfl,f,rfl,λc o G e=>p.extBut c o G e⟩)
 refine mu go (λa C I=>?_) λ_ _ e=>e;obtain⟨rfl,f,rfl,g⟩:=I;simp only[OI,if_false];rw[<- UQ];simp only[Tg,Sl];refine ax (ax<|wpAny_bind<|wpAny_holding ?_);show eH _ _ (OX (.ref i1) >>= _) _ _ _;exact ax (dM (s:={ s with heap:=f }) S (R.keep λo e=>g _ o D.i1z e) (v.keep λo e=>g _ o O1.1 e) O λm e j J=>N m e (λc o L F q=>j _ _ F (g c o L q)) J)
theorem jb{TI TO:eg}{Q:Option ay->el->Prop}(D:ZApart z TI TO i1 i2)(O1:l1≠z/\l1≠i1)(O2:l2≠z/\l2≠i1/\l2≠i2)(m:Dq s.heap z TI TO (t3 T) f1)(C:s.heap.get? T=ap oT)(j:re s.heap TI (.ref i1) (.ref i2))(I:SrcTn b1 i1 l1 k1 s.heap)(J:SrcTn b2 i2 l2 k2 s.heap)(f:SrcSq b1 s.heap l1 xs)(g:SrcSq b2 s.heap l2 ys)(G:xs[k1]?=ap x)(L:ys[k2]?=ap y)(F:∀h',Dq h' z TI TO (t3 T) true->SrcTn b1 i1 l1 (k1+1) h'->SrcTn b2 i2 l2 (k2+1) h'->re h' s.heap.objs.size x y->h'.objs.size=s.heap.objs.size+1->
   (∀c o,c≠z->c≠i1->c≠i2->s.heap.get? c=ap o->h'.get? c=ap o)->Q (ap<|.ref s.heap.objs.size) { s with heap:=h' }):eH (ff prog w) A (Os<|.ref z) Q E s:=by
 have e:s.TypeIs (.ref z) "zip":=⟨_,m,rfl⟩;unfold Os
 exact ax (Pi (wpAny_callSpecial?_slot (name:=PH "__next__") e QZ
  (kr QZ e Tt (yX D O1 O2 m C j I J f g G L λh' B n p v q u=>eX (F h' B n p v q u))<|Ta _)))
theorem jW{TI TO:eg}{Q:Option ay->el->Prop}(G:A.handled=cm)(D:ZApart z TI TO i1 i2)(O1:l1≠z/\l1≠i1)(m:Dq s.heap z TI TO (t3 T) f1)(v:s.heap.get? T=ap oT)(j:re s.heap TI (.ref i1) (.ref i2))(F:SrcTn b1 i1 l1 k1 s.heap)(g:SrcSq b1 s.heap l1 xs)(C:xs[k1]?=cm)(B:∀h',(∀c o,c≠z->c≠i1->s.heap.get? c=ap o->h'.get? c=ap o)->Q cm { s with heap:=h' }):eH (ff prog w) A (Os<|.ref z) Q E s:=by
 have f:s.TypeIs (.ref z) "zip":=⟨_,m,rfl⟩;unfold Os
 refine ax (Pi (wpAny_callSpecial?_slot (name:=PH "__next__") f QZ
  (kr QZ f Tt (Cb (b2:=true) (l2:=l1) (k2:=0) (ys:=#[]) G D O1 m v j F g C λh' e n u=>?_)<|Ta _)))
 obtain⟨o,p,q⟩:=u;refine ax (VQ (T:="StopIteration") (b:=true) ⟨o,p,q⟩ Wm ?_);exact eX (B _ n)
end
theorem y_{K:Type}[DecidableEq K]{knd:KeyKind prog w K}{R:WN->el->Prop}{TI TO d:eg}{xs ys:W9}{ks:List K}(hh:A.handled=cm)(D:ZApart z TI TO i1 i2)(O1:l1≠z/\l1≠i1/\l1≠i2/\l1≠d)(O2:l2≠z/\l2≠i1/\l2≠i2/\l2≠d)(Od:d≠z/\d≠i1/\d≠i2/\d≠TI/\d≠T)(OT:T≠z/\T≠i1/\T≠i2)(hk:VV (λk v=>knd.is k v=true) ks xs)(hl:xs.length=ys.length)(hz:xs.length<=1000):
  ∀(n i:Nat)(s:el)(f1:Bool)(W1:List (K×ay)),n=xs.length-i->i<=xs.length->W1.length<=i->Dq s.heap z TI TO (t3 T) f1->(∃oT,s.heap.get? T=ap oT)->re s.heap TI (.ref i1) (.ref i2)->
   SrcTn b1 i1 l1 i s.heap->SrcTn b2 i2 l2 i s.heap->SrcSq b1 s.heap l1 xs.toArray->SrcSq b2 s.heap l2 ys.toArray->s.heap.DictOf knd d W1->
   (∀s':el,s'.os=s.os->s'.gens=s.gens->s'.drawn=s.drawn->s'.heap.DictOf knd d (((ks.zip ys).drop i).foldl (λa p=>UF a p.1 p.2) W1)->(∀c o,c≠z->c≠i1->c≠i2->c≠d->s.heap.get? c=ap o->s'.heap.get? c=ap o)->R (.ok<|.ret .none) s')->
   ∀tk:Nat,Rs (ff prog w) A (.builtin "dict.update.loop" ⟨[.ref d,.ref z,t3 tk,.none],[]⟩) R s:=by
 intro n
 induction n with
 |zero=>
  intro i s f1 W1 hn hi U I F C G O s1 s2 hd hR tk;obtain⟨oT,F⟩:=F;have hin:i=xs.length:=by lia
  refine SC bv ?_;rw[QF aR _];show eH _ A.in1 (Os (.ref z) >>= _) _ _ s;refine ax (jW hh D ⟨O1.1,O1.2.1⟩ I F C G s1 (by simp;lia) λh' u=>?_)
  refine ax (m:=SH d []) (eX ?_);refine eX (hR _ rfl rfl rfl ?_ λc o L J c3 S e=>u c o L J e);rw[R8 (by have e:=P6 hk;rw[Sh];lia)]
  obtain⟨o,es,ep,ho,r⟩:=hd;exact⟨o,es,ep,u d o Od.1 Od.2.1 ho,r⟩
 |succ n ih=>
  intro i s f1 W1 hn hi U I F C G O s1 s2 hd hR tk;obtain⟨oT,F⟩:=F;have B:i<xs.length:=by lia
  have hlt2:i<ys.length:=by lia
  refine SC bv ?_;rw[QF aR _];show eH _ A.in1 (Os (.ref z) >>= _) _ _ s;refine ax (jb (x:=xs[i]) (y:=ys[i]) D ⟨O1.1,O1.2.1⟩ ⟨O2.1,O2.2.1,O2.2.2.1⟩ I F C G O s1 s2 (by simp[B]) (by simp[hlt2]) λh' a1 a2 a3 a4 a5 u=>?_)
  have hTy:({ s with heap:=h' }:el).TypeIs (.ref s.heap.objs.size) "tuple":=⟨_,a4,rfl⟩;refine ax (n7<|wpAny_bind<|wpAny_tryCatch ?_);unfold RF;refine ax (PP hTy ?_);rw[if_pos (by decide)]
  refine ax (om (s:={ s with heap:=h' }) a4 rfl<|wpAny_pure ?_);have hd':h'.DictOf knd d W1:=by
   obtain⟨o,es,ep,ho,r⟩:=hd;exact⟨o,es,ep,u d o Od.1 Od.2.1 Od.2.2.1 ho,r⟩
  have hks:i<ks.length:=by rw[P6 hk];exact B
  have Y:knd.is ks[i] xs[i]=true:=by
   have:∀{f:List K}{q:W9},VV (λk v=>knd.is k v=true) f q->∀(j:Nat)(G:j<f.length)(O:j<q.length),knd.is f[j] q[j]=true:=by
    intro f q p
    induction p with
    |nil=>intro j G;exact absurd G (Rx _)
    |cons r _ ihp=>
     intro j G O;cases j with
     |zero=>exact r
     |succ j=>exact ihp j (by simpa using G) (by simpa using O)
   exact this hk i hks B
  have hkz:W1.length<=sizeLine:=OQ (OQ U hi) (OQ hz<|by decide)
  show eH _ _ (tm [xs[i],ys[i]]<|dictSet d xs[i] ys[i]) _ _ _;refine n7 (V3 (s:={ s with heap:=h' }) Y hd' (λM N g=>?_) hkz);have W:∀c o,c≠z->c≠i1->c≠i2->c≠d->s.heap.get? c=ap o->M.get? c=ap o:=λc o L J c3 S e=>g.extBut c o S (u c o L J c3 e);refine eX ⟨UV aR _,?_⟩;have hst:(UF W1 ks[i] ys[i]).length<=i+1:=by
   unfold UF
   split
   .rw[Ot];lia
   .rw[OG,PY];lia
  refine ih (i+1) { s with heap:=M,toks:=s.toks+1 } true (UF W1 ks[i] ys[i]) (by lia) B hst (g.extBut _ _ Od.1.symm a1) ⟨oT,W T oT OT.1 OT.2.1 OT.2.2 Od.2.2.2.2.symm F⟩ (W TI _ D.TIz D.TIi1 D.TIi2 Od.2.2.2.1.symm C)
   (a2.keep λo e=>g.extBut _ o Od.2.1.symm e) (a3.keep λo e=>g.extBut _ o Od.2.2.1.symm e) (s1.keep λo e=>W l1 o O1.1 O1.2.1 O1.2.2.1 O1.2.2.2 e) (s2.keep λo e=>W l2 o O2.1 O2.2.1 O2.2.2.1 O2.2.2.2 e) N ?_ (tk+1)
  intro s' q1 q2 q3 q4 q5;refine hR s' q1 q2 q3 ?_ λc o L J c3 S e=>q5 c o L J c3 S (W c o L J c3 S e);have ez:(ks.zip ys).drop i=(ks[i],ys[i])::(ks.zip ys).drop (i+1):=by
   rw[QO (by rw[Sh];lia)]
   simp
  rw[ez,Pu];exact q4
namespace F
theorem mro_dict:mroOf (.type "dict")=pure [.type "dict",.type "object"]:=by rw[mroOf_type];kernel_rfl
theorem jP:On (.type "dict") "__new__"=pure (ap<|.builtin "dict.__new__"):=by rw[pr,j0];kernel_rfl
theorem called_dict:TypeCalled "dict" "dict.__new__" "dict.__init__":=
 ⟨by decide +kernel,by decide +kernel,⟨_,_,mro_dict⟩,madeBy_type mro_dict jP (by decide +kernel),by decide +kernel,by rw[va];kernel_rfl,PySem.F.slot_dict_init⟩
theorem typeCall_dict_1(a:ay):checkTypeCall "dict" ⟨[a],[]⟩=pure ():=by kernel_rfl
theorem newCall_dict_1(a:ay):checkBuiltinCall "dict.__new__" ⟨[.type "dict",a],[]⟩=pure ():=by kernel_rfl
theorem entry_dict_new:VZ WT "dict.__new__"=ap Builtin.«dict.__new__»:=entryFor_of_tree (by kernel_rfl)
theorem plain_dict_new:plainId "dict.__new__"=true:=by decide +kernel
theorem sub_dict:isSubtype (.type "dict") (.type "dict")=pure true:=by rw[va];kernel_rfl
end F
section
variable{K:Type}[DecidableEq K]{knd:KeyKind prog w K}
theorem gZ(a:ay){Q₁:Xd}(h:Q₁ (.ref s.heap.objs.size) { s with heap:=s.heap.push { cls:=.type "dict",data:=.dict #[] } }):
  Rs (ff prog w) A (.call (.builtin "dict.__new__") ⟨[.type "dict",a],[]⟩) (wants Q₁ E) s:=by
 refine codeAny_call_builtin F.plain_dict_new F.entry_dict_new (Pv (F.newCall_dict_1 a) ?_);have c:=F.sub_dict;have e:=F.mro_dict;obtain⟨j,g,d,m,f⟩:=s;unfold Builtin.«dict.__new__»
 wp_walk
 exact h
theorem nC{TI TO:eg}{xs ys:W9}{ks:List K}(hh:A.handled=cm)(D:ZApart z TI TO i1 i2)(O1:Ik z TO i1 i2 l1)(O2:Ik z TO i1 i2 l2)(Y:Wc s.heap z TI TO .none)(W:re s.heap TI (.ref i1) (.ref i2))(L:∃a b,re s.heap TO a b)(h1:SrcTn b1 i1 l1 0 s.heap)(h2:SrcTn b2 i2 l2 0 s.heap)(M:SrcSq b1 s.heap l1 xs.toArray)(N:SrcSq b2 s.heap l2 ys.toArray)(hk:VV (λk v=>knd.is k v=true) ks xs)(hl:xs.length=ys.length)(J:0<xs.length)(hzz:xs.length<=1000)(h:∀s':el,s'.os=s.os->s'.gens=s.gens->s'.drawn=s.drawn->s'.heap.DictOf knd s.heap.objs.size ((ks.zip ys).foldl (λa p=>UF a p.1 p.2) [])->
   (∀c o,c≠z->c≠TO->c≠i1->c≠i2->s.heap.get? c=ap o->s'.heap.get? c=ap o)->Q (.ref s.heap.objs.size) s'):
  eH (ff prog w) A (call (.type "dict") [.ref z]) Q E s:=by
 refine callType_codes (Q₁:=λobj O=>obj=.ref s.heap.objs.size/\O={ s with heap:=s.heap.push { cls:=.type "dict",data:=.dict #[] } }) F.called_dict (F.typeCall_dict_1 _) UE (gZ _ ⟨rfl,rfl⟩) ?_
 rintro obj O ⟨rfl,rfl⟩
 have G:(s.heap.push { cls:=.type "dict",data:=.dict #[] }).DictOf knd s.heap.objs.size []:=Uj s.heap;refine⟨G.typeIs,Uz _ _,?_⟩;unfold Builtin.«dict.__init__»;refine ax ?_;unfold SG;refine ax (wpAny_notOrdered_dict G.typeIs ?_);show eH _ _ (pure (s.heap.objs.size,[OU z])) _ _ _;refine eX ?_;show eH _ _ (QJ "dict.__init__" s.heap.objs.size (.ref z) [] .none) _ _ _;unfold QJ;have j:∀c o,s.heap.get? c=ap o->c≠s.heap.objs.size:=λc o e=>ON (OC e);have up:∀c o,s.heap.get? c=ap o->(s.heap.push { cls:=.type "dict",data:=.dict #[] }).get? c=ap o:=λc o e=>Oq _ e;refine ax (PP (T:="zip") ⟨_,up _ _ Y,rfl⟩ ?_);rw[if_pos (by decide)]
 refine ax (nF (f1:=eC) (s:={ s with heap:=s.heap.push { cls:=.type "dict",data:=.dict #[] } }) (up _ _ Y) hh λf n u=>?_);rw[if_pos (show (none:Option ay).isNone=true from rfl)];have up1:∀c o,s.heap.get? c=ap o->f.get? c=ap o:=λc o e=>u c o (up c o e);refine ax (z5<|wpAny_bind<|wpAny_pyIter_zip (s:={ s with heap:=f,toks:=n }) (up1 _ _ Y)<|wpAny_pure ⟨UV aR _,SC bv ?_⟩);rw[QF aR _];show eH _ A.in1.in1 (Os (.ref z) >>= _) _ _ _;obtain⟨a,b,L⟩:=L;have hlt2:0<ys.length:=by lia
 have hd1:f.DictOf knd s.heap.objs.size []:=by
  obtain⟨o,es,ep,ho,r⟩:=G;exact⟨o,es,ep,u _ o ho,r⟩
 have U:s.heap.objs.size≠z:=(j _ _ Y).symm;have S:s.heap.objs.size≠TI:=(j _ _ W).symm;have hnTO:s.heap.objs.size≠TO:=(j _ _ L).symm;have I:s.heap.objs.size≠i1:=by obtain⟨o,e,_⟩:=h1.lt;exact(j _ _ e).symm
 have C:s.heap.objs.size≠i2:=by obtain⟨o,e,_⟩:=h2.lt;exact(j _ _ e).symm
 have nl:∀{b:Bool}{l:eg}{us:Xg},SrcSq b s.heap l us->l≠s.heap.objs.size:=λ{b l us} q=>by
  cases b with
  |true=>obtain⟨o,e,_⟩:=(show s.heap.IsList l us from q);exact j _ _ e
  |false=>obtain⟨o,e,_⟩:=(show s.heap.IsTuple l us from q);exact j _ _ e
 refine ax (jZ (s:={ s with heap:=f,toks:=n }) (x:=xs[0]) (y:=ys[0]) D O1 O2 (up1 _ _ Y) (up1 _ _ W) (up1 _ _ L) (h1.keep λo e=>up1 _ o e) (h2.keep λo e=>up1 _ o e) (M.keep λo e=>up1 _ o e) (N.keep λo e=>up1 _ o e) (by simp[J]) (by simp[hlt2]) λm a1 a2 a3 a4 a5 a6 B=>?_)
 have hTy:({ s with heap:=m,toks:=n }:el).TypeIs (.ref f.objs.size) "tuple":=⟨_,a5,rfl⟩;refine ax (n7<|wpAny_bind<|wpAny_tryCatch ?_);unfold RF;refine ax (PP hTy ?_);rw[if_pos (by decide)]
 refine ax (om (s:={ s with heap:=m,toks:=n }) a5 rfl<|wpAny_pure ?_);have hks:0<ks.length:=by rw[P6 hk];exact J
 have hkey:knd.is ks[0] xs[0]=true:=by
  cases hk with
  |nil=>exact absurd J (PC _)
  |cons r _=>exact r
 have hd2:m.DictOf knd s.heap.objs.size []:=by
  obtain⟨o,es,ep,ho,r⟩:=hd1;exact⟨o,es,ep,B _ o U hnTO I C ho,r⟩
 show eH _ _ (tm [xs[0],ys[0]]<|dictSet s.heap.objs.size xs[0] ys[0]) _ _ _;refine n7 (V3 (s:={ s with heap:=m,toks:=n }) hkey hd2 (λR hd3 g=>?_)<|Qf _);refine eX ⟨UV aR _,?_⟩;have T1:∀c o,f.get? c=ap o->f.objs.size≠c:=λc o e=>Qu (OC e);have hdl:s.heap.objs.size<f.objs.size:=by obtain⟨o,es,ep,ho,r⟩:=hd1;exact OC ho
 have kk:∀c o,c≠z->c≠TO->c≠i1->c≠i2->c≠s.heap.objs.size->s.heap.get? c=ap o->R.get? c=ap o:=λc o c1 c2 c3 c4 c5 e=>g.extBut c o c5 (B c o c1 c2 c3 c4<|up1 c o e);have hst:(UF ([]:List (K×ay)) ks[0] ys[0]).length<=1:=by simp[UF]
 refine y_ (A:=A.in1) (T:=f.objs.size) (l1:=l1) (l2:=l2) (xs:=xs) (ys:=ys) (ks:=ks) hh D ⟨O1.1,O1.2.2.1,O1.2.2.2,nl M⟩ ⟨O2.1,O2.2.2.1,O2.2.2.2,nl N⟩ ⟨U,I,C,S,ON hdl⟩
  ⟨T1 _ _ (up1 _ _ Y),(by obtain⟨o,e,_⟩:=h1.lt;exact T1 _ _ (up1 _ _ e)),(by obtain⟨o,e,_⟩:=h2.lt;exact T1 _ _ (up1 _ _ e))⟩ hk hl hzz (xs.length-1) 1 { s with heap:=R,toks:=n+1 } eC (UF [] ks[0] ys[0]) rfl J hst
  (g.extBut _ _ U.symm a1) ⟨_,g.extBut _ _ (Qu hdl) a5⟩ (kk TI _ D.TIz D.TITO D.TIi1 D.TIi2 S.symm W) (a3.keep λo e=>g.extBut _ o I.symm e) (a4.keep λo e=>g.extBut _ o C.symm e)
  (M.keep λo e=>kk l1 o O1.1 O1.2.1 O1.2.2.1 O1.2.2.2 (nl M) e) (N.keep λo e=>kk l2 o O2.1 O2.2.1 O2.2.2.1 O2.2.2.2 (nl N) e) hd3 ?_ 1
 intro s' q1 q2 q3 q4 q5;refine⟨rfl,h s' q1 q2 q3 ?_ λc o c1 c2 c3 c4 e=>q5 c o c1 c3 c4 (j c o e) (kk c o c1 c2 c3 c4 (j c o e) e)⟩;have ez:ks.zip ys=(ks[0],ys[0])::(ks.zip ys).drop 1:=by
  have:=QO (l:=ks.zip ys) (i:=0) (by rw[Sh];lia)
  simpa using this
 rw[ez,Pu];exact q4
end
theorem jf:fillsNumberSlot (.type "tuple") "mul"=pure false:=
 PySem.fillsNumberSlot_seq (id:="tuple.__mul__") (r:=ap (.builtin "tuple.__rmul__")) Qp.lookup (by decide +kernel) Tv.lookup (by decide +kernel)
theorem pG:seqRepeat? (.type "tuple")=pure (ap<|.builtin "tuple.__mul__"):=by
 unfold seqRepeat?;rw[PySem.seqSlot_of (T:="tuple") (name:="__mul__") (id:="tuple.__mul__") Qp.lookup (by decide +kernel),PySem.seqSlot_of (T:="tuple") (name:="__rmul__") (id:="tuple.__rmul__") Tv.lookup (by decide +kernel)]
 rfl
theorem mr(a:Int)(t:Tok)(l:eg)(items:Xg)(n:Nat)(dd:Option eg)(c:Array (Option ay)):
  Wt (Builtin.«int.__rmul__» ⟨[.int a t,.ref l],[]⟩) (λ_ R s=>s.heap.get? l=ap { cls:=.type "tuple",dict:=dd,data:=.seq items n,slots:=c }/\R (.ok<|.ret Value.notImplemented) s):=
 .of_wp λprog w A R s h=>by obtain⟨e,g,d,j,m⟩:=s;obtain⟨f,h⟩:=h;wp_walk;exact⟨_,rfl,h⟩
theorem mQ(l:eg)(items:Xg)(n:Nat)(dd:Option eg)(G:Array (Option ay))(x:Int)(u:Tok)(U:1<x)(C:x<=1000)(F:items.size<=1000)(p:items.isEmpty=eC):
  Wt (Builtin.«tuple.__mul__» ⟨[.ref l,.int x u],[]⟩) (λ_ R s=>s.heap.get? l=ap { cls:=.type "tuple",dict:=dd,data:=.seq items n,slots:=G }/\
   R (.ok<|.ret<|.ref s.heap.objs.size) { s with heap:=s.heap.push { cls:=.type "tuple",data:=.seq ((OZ x.toNat items).foldl (·++·) #[]) } }):=
 .of_wp λprog w A R s h=>by
  obtain⟨N,g,d,O,S⟩:=s;obtain⟨j,h⟩:=h;have f1:=Sw;have M:=RG;have v:(decide (x < -(2 ^ 63))||decide (x>=2 ^ 63))=false:=by simp;lia
  have q:(items.isEmpty||x==1)=false:=by rw[p];simp;lia
  have B:(decide (x<=0)||items.isEmpty)=false:=by rw[p];simp;lia
  have L:(items.size:Int)*x<=1000000:=by
   have J:(items.size:Int)*x<=1000*x:=Int.mul_le_mul_of_nonneg_right (by lia) (by lia)
   lia
  have o:¬((items.size:Int)*x>(2 ^ 63-1) / 8):=by lia
  have m:Sq ((items.size:Int)*x)=false:=by
   unfold Sq;have:(1000000:Int)<=(sizeLine:Int):=by decide
   exact decide_eq_false (by lia)
  wp_walk using ol j
  try simp only[v,OI,if_false]
  wp_walk using ol j
  try simp only[q,OI,if_false]
  wp_walk using ol j
  try simp only[B,OI,if_false]
  wp_walk using ol j
  rw[if_neg o];simp only[m,OI,if_false];unfold P9;have f:((OZ x.toNat items).foldl (·++·) #[]).toList.length<=sizeLine:=by
   have e:∀(k:Nat)(c:Xg),((OZ k items).foldl (·++·) c).size=c.size+k*items.size:=by
    intro k
    induction k with
    |zero=>intro c;simp
    |succ k ih=>intro c;rw[PD,Pu,ih,SF,Nat.succ_mul];lia
   rw[Rr,e];have:x.toNat*items.size<=1000*1000:=Sn (by lia) F
   have I:(1000*1000:Nat)<=sizeLine:=by decide
   simp only[OB,Pf]at *;lia
  refine ax (Wj (eX ⟨_,rfl,?_⟩) f);simpa using h
theorem nE(l:eg)(items:Xg)(n:Nat)(dd:Option eg)(j:Array (Option ay))(u:Tok):
  Wt (Builtin.«tuple.__mul__» ⟨[.ref l,.int 1 u],[]⟩) (λ_ R s=>s.heap.get? l=ap { cls:=.type "tuple",dict:=dd,data:=.seq items n,slots:=j }/\R (.ok<|.ret<|.ref l) s):=
 .of_wp λprog w A R s h=>by
  obtain⟨m,g,d,p,q⟩:=s;obtain⟨c,h⟩:=h;have f1:=Sw;have o:=RG;have f:(decide ((1:Int) < -(2 ^ 63))||decide ((1:Int)>=2 ^ 63))=false:=by decide
  have e:(items.isEmpty||(1:Int)==1)=true:=by simp
  wp_walk using ol c
  try simp only[f,OI,if_false]
  wp_walk using ol c
  try simp only[e,if_true]
  wp_walk using ol c
  all_goals first|exact⟨_,rfl,h⟩|skip
theorem ma(l:eg)(items:Xg)(n:Nat)(dd:Option eg)(p:Array (Option ay))(x:Int)(u:Tok)(q:x<=0)(o:-1000<=x)(m:items.isEmpty=eC):
  Wt (Builtin.«tuple.__mul__» ⟨[.ref l,.int x u],[]⟩) (λ_ R s=>s.heap.get? l=ap { cls:=.type "tuple",dict:=dd,data:=.seq items n,slots:=p }/\
   R (.ok<|.ret<|.ref s.heap.objs.size) { s with heap:=s.heap.push { cls:=.type "tuple",data:=.seq #[] } }):=
 .of_wp λprog w A R s h=>by
  obtain⟨v,g,d,C,F⟩:=s;obtain⟨c,h⟩:=h;have f1:=Sw;have B:=RG;have f:(decide (x < -(2 ^ 63))||decide (x>=2 ^ 63))=false:=by simp;lia
  have e:(items.isEmpty||x==1)=false:=by rw[m];simp;lia
  have j:(decide (x<=0)||items.isEmpty)=true:=by simp[q]
  wp_walk using ol c
  try simp only[f,OI,if_false]
  wp_walk using ol c
  try simp only[e,OI,if_false]
  wp_walk using ol c
  try simp only[j,if_true]
  all_goals exact⟨_,rfl,h⟩
section
theorem zC{l:eg}{W5:W9}{k:Int}{u:Tok}(Y:s.heap.IsTuple l W5.toArray)(h0:W5≠[])(R:0<=k)(O:k<=1000)(hi:W5.length<=1000)(S:k=1->Q (.ref l) s)(W:k≠1->Q (.ref s.heap.objs.size) { s with heap:=s.heap.push { cls:=.type "tuple",data:=.seq (OZ k.toNat W5).flatten.toArray } }):
  eH (ff prog w) A (hB .Mult (.ref l)<|.int k u) Q E s:=by
 obtain⟨⟨cls,o,data,j⟩,e,v,n,q⟩:=Y;simp only at v q;subst v q;have B:W5.toArray.isEmpty=false:=by cases W5 with|nil=>exact absurd rfl h0|cons a r=>rfl
 refine wpAny_binaryOp_repeat_ref (T:="tuple") (U:="int") (by decide) ⟨_,e,rfl⟩ (λI=>typeIs_int I k u) jf PySem.F.fills_int_mul T2 pG PySem.F.slot_int_index.lookup
  (vb T2 (typeIs_int s k u) PySem.F.entry_int_rmul (PySem.F.args_int_rmul_2 _ _) (mr k u l W5.toArray n o j) ⟨e,rfl,⟨_,e,rfl⟩,?_⟩)
 by_cases g:k=1
 .subst g
  exact vb Qp ⟨_,e,rfl⟩ RO (RJ _ _) (nE l W5.toArray n o j u) ⟨e,S rfl⟩
 .have f:=W g
  by_cases p:k<=0
  .refine vb Qp ⟨_,e,rfl⟩ RO (RJ _ _) (ma l W5.toArray n o j k u p (by lia) B) ⟨e,?_⟩
   have J:k.toNat=0:=by lia
   rw[J]at f;exact f
  .refine vb Qp ⟨_,e,rfl⟩ RO (RJ _ _) (mQ l W5.toArray n o j k u (by lia) O (by rw[OB];exact hi) B) ⟨e,?_⟩
   have M:∀(m:Nat)(c:W9),List.foldl (λG N=>G++N) c.toArray (OZ m W5.toArray)=(c++(OZ m W5).flatten).toArray:=by
    intro m
    induction m with
    |zero=>intro c;simp
    |succ m ih=>
     intro c;have L:c.toArray++W5.toArray=(c++W5).toArray:=by simp
     rw[PD,Pu,L,ih,PD,QD,List.append_assoc]
   have C:=M k.toNat [];rw[OP]at C;rw[C];exact f
end
section
theorem Cd:cC X (hB .Add) (λx y H Q=>∃a b ys,x=.ref a/\y=.ref b/\i7 X.K H a []/\i7 X.K H b ys/\Q (.ref b) H):=by
 intro WZ s Z H x y v u Q I O W h;obtain⟨a,b,ys,rfl,rfl,L,R,q⟩:=h;cases O;cases W;obtain⟨o,M,S,_⟩:=I.tuple L;obtain⟨f,r2,U,_⟩:=I.tuple R;obtain rfl:o=[]:=M.zero;obtain⟨⟨Y,dd,F,sl⟩,B,G,n,C⟩:=id S;obtain⟨⟨J,p,j,m⟩,e,c,N,g⟩:=id U;simp only at G C c g;subst G C c g
 exact WL ⟨_,B,rfl⟩ ⟨_,e,rfl⟩ We Wv RW RP (RK _ _)
  (tuple_addW0 a b #[] f.toArray n N dd p sl m rfl) ⟨B,e,⟨.ref b,H,I,rfl,q⟩⟩
theorem AN{n:Nat}(e:n.log2<2000)(f:0<n):cC X (hB .FloorDiv) (rI (λ_ j=>j=(n:Int)) λi j=>.int (i / j)):=Ls λi j _ _ _ _ _ c q=>by
 subst c;refine floordiv_int (by lia) ?_ (.inl<|PyProof.noPylong_of_log2<|by simpa using SS e (by decide))
 rw[TU _ (by lia)]
 exact q
def AV(K:Ow)(b1 b2:Bool)(t:TA):TE:=λZ H Q=>t Z H λc H1=>∃(l1 l2:eg)(ks:List aF)(ys:List V),c=[.ref l1,.ref l2]/\A9 K b1 H1 l1 (ks.map kV)/\A9 K b2 H1 l2 ys/\ks.length=ys.length/\0<ks.length/\ks.length<=1000/\
 ∀d,H1 d=cm->Q (.ref d) (upd H1 d<|.dK<|(ks.zip ys).foldl (λa p=>cL a p.1 p.2) [])
theorem oQ{P:fx}{w:g3}:∀{ks:List aF}{us:W9},Vals (ks.map kV) us->VV (λk v=>(aV P w).is k v=true) ks us
 |[],_,.nil=>.nil
 |_::_,_,.cons r t=>.cons (iB r) (oQ t)
theorem yR:∀{ks:List aF}{ys:List V}{us:W9}{W1:List (aF×V)}{vs:List (aF×ay)},Vals ys us->KV W1 vs->
  KV ((ks.zip ys).foldl (λa p=>cL a p.1 p.2) W1) ((ks.zip us).foldl (λa p=>UF a p.1 p.2) vs)
 |[],_,_,_,_,_,r=>r
 |_::_,_,_,_,_,.nil,r=>r
 |k::ks,_,_,_,_,.cons ru t,r=>yR (ks:=ks) t (KV.put r k ru)
theorem uy:∀(ps:List (aF×V))(W1:List (aF×V)),(ps.foldl (λa p=>cL a p.1 p.2) W1).length<=W1.length+ps.length
 |[],W1=>Oz _
 |p::ps,W1=>by
  have e:=uy ps (cL W1 p.1 p.2);have c:=fU W1 p.1 p.2;rw[Pu,Oy];lia
theorem vj{a b:fy}{ta:TA}{p p2 g:Pos}(b1 b2:Bool)(hc:X.calm=true)(hg:Gl X "zip")(hm:X.mg "zip"=cm)(hg2:Gl X "dict")(hm2:X.mg "dict"=cm)(ha:PA X [a,b] ta)(hs:fe [a,b] X.env=[(eC,gp a X.env),(eC,gp b X.env)]:=by rfl)(hs2:fe [b] X.env=[(eC,gp b X.env)]:=by rfl)(hs3:fe [T8 (.Name "zip" p2) [a,b] [] g] X.env=[(eC,gp (.Call (.Name "zip" p2) [a,b] [] g) X.env)]:=by rfl):
  PE X (.Call (.Name "dict" p) [.Call (.Name "zip" p2) [a,b] [] g] [] pos) (AV X.K b1 b2 ta):=by
 intro WZ s Z H Q I h;refine Call_ (eG I hg2 hm2 (by decide +kernel:gl "dict"=ap (.type "dict"))<|Pk ?_ hs3 rfl)
 rw[hs3];show eH _ _ (spliced ((eC,_)::hG pos [])) _ _ s;refine Qr ?_;refine Call_ (eG I hg hm (by decide +kernel:gl "zip"=ap (.type "zip"))<|Pk (br (ha g WZ s Z H _ I h) λv f ⟨vs,H1,I1,r1,R⟩=>?_) (by rw[hs,hs2])<|by rw[hs2];rfl)
 obtain⟨l1,l2,ks,ys,e,R,q2,hl,h0,hz,q⟩:=R;subst e;obtain⟨u1,u2,rfl,M,Y⟩:=r1.two;cases M;cases Y;obtain⟨J,B,m,z1⟩:=I1.src R;obtain⟨j,C,n,z2⟩:=I1.src q2;refine Cg m n λh' U S N h1 h2 hsz hk=>?_;refine Q4 ?_;have e1:=B.length;have e2:=C.length;rw[Ot]at e1;have D:ZApart (f.heap.objs.size+4) (f.heap.objs.size+2) (f.heap.objs.size+3) f.heap.objs.size (f.heap.objs.size+1):=by constructor<;>exact(show (_:Nat)≠(_:Nat) by lia)
 have lt:∀{c:Bool}{l:eg}{v:Xg},SrcSq c f.heap l v->l<f.heap.objs.size:=λ{c l v} z=>by
  cases c with
  |true=>obtain⟨o,e,_⟩:=(show f.heap.IsList l v from z);exact OC e
  |false=>obtain⟨o,e,_⟩:=(show f.heap.IsTuple l v from z);exact OC e
 have O:∀{l:eg},l<f.heap.objs.size->Ik (f.heap.objs.size+4) (f.heap.objs.size+3) f.heap.objs.size (f.heap.objs.size+1) l:=λ{l} z=>⟨ON (OA z<|P0 _ _),ON (OA z<|P0 _ _),ON z,ON<|OA z<|P0 _ _⟩;refine nC (s:={ f with heap:=h' }) (knd:=aV X.prog X.w) (ks:=ks) (xs:=J) (ys:=j) (I1.ok.hd hc) D (O<|lt m) (O<|lt n) U S ⟨_,_,N⟩ h1 h2 (m.keep λo e=>hk _ o e) (n.keep λo e=>hk _ o e) (oQ B) (by lia) (by lia) (by lia) ?_
 intro L o1 o2 o3 hd u;have W:L.heap.DictOf (aV X.prog X.w) h'.objs.size ((ks.zip j).foldl (λa p=>UF a p.1 p.2) []):=hd;have G:=I1.big;have F:∀c o,f.heap.get? c=ap o->L.heap.get? c=ap o:=λc o e=>by
  have z:=OC e;exact u c o (ON<|OA z<|P0 _ _) (ON<|OA z<|P0 _ _) (ON z) (ON<|OA z<|P0 _ _) (hk c o e)
 have hn:H1 h'.objs.size=none:=I1.hok.fresh (by lia)
 obtain⟨hh',g',d',t',os'⟩:=L;obtain rfl:os'=f.os:=o1;obtain rfl:g'=f.gens:=o2;obtain rfl:d'=f.drawn:=o3;refine⟨.ref h'.objs.size,_,I1.laid (a:=h'.objs.size) (o:=.dK ((ks.zip ys).foldl (λa p=>cL a p.1 p.2) [])) (t':=t') F (by lia) ?_,rfl,q _ hn⟩
 refine mL ?_ ?_ (yR C .nil) W
 .have:=uy (ks.zip ys) []
  rw[Sh]at this;have h3:(1000:Nat)<=sizeLine:=by decide
  simp only[Pf]at this;lia
 .exact beq_eq_false_iff_ne.mpr (Qu<|OA G<|by rw[hsz];exact P0 _ _)
end
end _2
namespace _T
open PySem _2
end _T
namespace _2
open PySem PySem.Spec PyProof.Rows
variable{h:hI}{H:Hp}{P:fx}{s:el}{w:g3}
section
variable{X:Cx}
theorem lV{M:Model}{A:ix}{E:Xd}{j:Type}{n:Nat}(f:Nat->j->Sem (ForInStep j))(I:Nat->j->el->Prop)(Q:j->el->Prop)(g:∀i b s,i<n->I i b s->eH M A (f i b) (λr s'=>match r with|.yield b'=>I (i+1) b' s'|.done b'=>Q b' s') E s)(fin:∀b s,I n b s->Q b s)(b:j)(h:I 0 b s):eH M A (forIn [0:n] b f) Q E s:=by
 rw[Std.Legacy.Range.forIn_eq_forIn_range'];have q:([0:n]:Ue).size=n:=by simp[Std.Legacy.Range.size]
 show eH M A (forIn (Rg 0 ([0:n]:Ue).size 1) b f) Q E s;rw[q];refine wpAny_forIn_list f (λl c s=>∃i,i<=n/\l=Rg i (n-i) 1/\I i c s) Q ?_ ?_ _ b ⟨0,Qf _,rfl,h⟩
 .rintro x u c s ⟨i,v,a,o⟩
  have m:i<n:=by
   rcases Qg i n with h'|h'
   .exact h'
   .rw[show n-i=0 by lia]at a;simp at a
  obtain⟨k,p⟩:∃k,n-i=k+1:=⟨n-i-1,by lia⟩
  rw[p,QK]at a;obtain⟨rfl,rfl⟩:=List.cons.inj a;refine mu (g x c s m o) (λr s' h'=>?_) λ_ _ e=>e;cases r with
  |done c'=>exact h'
  |yield c'=>exact⟨x+1,by lia,by congr 1;lia,h'⟩
 .rintro c s ⟨i,v,a,o⟩
  have:i=n:=by
   rcases Qg i n with h'|h'
   .obtain⟨k,p⟩:∃k,n-i=k+1:=⟨n-i-1,by lia⟩
    rw[p,QK]at a;cases a
   .lia
  subst this;exact fin _ _ o
theorem tZ(l:eg)(items:Xg)(n:Nat)(dd:Option eg)(I:Array (Option ay))(x:ay)(e:ay->Bool)(G:∀y,y∈items->MeetsSeq.EqGives y x (e y))(j:Nat)(M:j<items.size)(u:e items[j]=true)(q:∀m (hm:m<items.size),m<j->e items[m]=eC):
  Wt (Builtin.«tuple.index» ⟨[.ref l,x],[]⟩) (λ_ R s=>s.heap.get? l=ap { cls:=.type "tuple",dict:=dd,data:=.seq items n,slots:=I }/\R (.ok<|.ret<|.int j s.toks) { s with toks:=s.toks+1 }):=
 .of_wp λc w A R s h=>by
  obtain⟨z,g,d,E,F⟩:=s;obtain⟨B,h⟩:=h
  wp_walk using AutoSeq1.wpAny_loadPart' B
  refine lV (n:=min items.size items.size) _ (λi (b:Option _×_) f=>b.1=cm/\i<=j/\f=⟨z,g,d,E,F⟩) _ ?turn ?fin _ ?strt
  case turn=>
   rintro i b f K ⟨C,p,rfl⟩
   have a:i<items.size:=by lia
   have o:items[i]?=ap items[i]:=by simp[a]
   simp only[o];refine ax (G _ (Array.getElem_mem a) c w _ _ _ _ ?_)
   by_cases v:i=j
   .subst v
    rw[u]
    wp_walk
    exact⟨_,rfl,h⟩
   .rw[q i a (by lia)]
    wp_walk
    exact⟨rfl,by lia,rfl⟩
  case fin=>
   rintro⟨J,L⟩ f ⟨C,p,rfl⟩
   lia
  case strt=>
   exact⟨rfl,Qf _,rfl⟩
theorem Inv.tupD{b:Xe}{Z:St}{a:eg}{xs:List V}(I:Inv X b Z H s)(h:H a=ap (.tup xs)):
  ∃(W5:W9)(n:Nat)(sl:Array (Option ay)),Vals xs W5/\s.heap.get? a=ap { cls:=.type "tuple",dict:=cm,data:=.seq W5.toArray n,slots:=sl }:=by
 obtain⟨z,W5,r,⟨cls,g,data,slots⟩,e,⟨c,n,d⟩,f⟩:=I.hok a _ h;simp only at c d f;subst c d f;exact⟨W5,n,slots,r,e⟩
theorem gx:∀{names:W8}{us:W9},Vals (names.map V.str) us->∀(j:Nat)(h:j<us.length),∃(y:Str)(t:Tok),names[j]?=ap y/\us[j]=.str y t
 |[],us,r,j,h=>by cases r;exact absurd h (Rx _)
 |x::names,us,r,j,h=>by
  rw[Ou]at r;cases r with
  |cons r1 r2=>
   cases j with
   |zero=>obtain⟨t,rfl⟩:=r1;exact⟨x,t,rfl,rfl⟩
   |succ j=>obtain⟨y,t,b,a⟩:=gx r2 j (by simpa using h);exact⟨y,t,by simpa using b,by simpa using a⟩
def L_:V->List V->Hp->VK->Prop:=λx b H Q=>∃(a:eg)(names:W8)(z:Str)(j:Nat),x=.ref a/\b=[.str z]/\H a=ap (.tup<|names.map V.str)/\names.length<=1000/\names[j]?=ap z/\(∀m,m<j->names[m]?≠ap z)/\Q (.int (j:Int)) H
theorem zf:ym X "tuple.index" L_:=by
 intro G s Z H x W v U Q I M R h;obtain⟨a,b,z,j,rfl,rfl,L,Y,E,B,q⟩:=h;cases M;obtain⟨u,rfl,O⟩:=R.one;obtain⟨t,rfl⟩:=O;obtain⟨c,n,T,r,e⟩:=I.tupD L;have S:=r.length;rw[Ot]at S;have K:j<b.length:=by
  rcases Qg j b.length with z'|z'
  .exact z'
  .rw[Pr z']at E;cases E
 have C:j<c.toArray.size:=by rw[OB];lia
 refine vb Tq ⟨_,e,rfl⟩ PySem.F.entry_tuple_index (PySem.F.args_tuple_index_2 _ _)
  (tZ a c.toArray n cm T (.str z t) (λv=>match v with|.str y _=>y==z|_=>eC) (λy N=>?_) j C ?_ λm o A=>?_) ⟨e,?_⟩
 .obtain⟨m,o,rfl⟩:=List.getElem_of_mem (by simpa using N:y∈c)
  obtain⟨i,p,g,f⟩:=gx r m o;rw[f];exact eqGives_str i z p t
 .obtain⟨i,p,g,f⟩:=gx r j (by lia)
  rw[E]at g;cases g;simp[f]
 .obtain⟨i,p,g,f⟩:=gx r m (by rw[OB]at o;exact o)
  have J:=B m A;rw[g]at J;have ne:¬i=z:=λe=>J (by rw[e])
  simp[f,ne]
 .exact⟨.int (j:Int),H,I.tok _,⟨_,rfl⟩,q⟩
def tTM(r:V->List V->Hp->VK->Prop)(to:TE)(t:TA):TE:=λZ H Q=>to Z H λx H1=>(∃a b,x=.ref a/\H1 a=ap (.tup b))/\t Z H1 λb H2=>r x b H2 Q
theorem Nk{o e:fy}{es:Xb}{to:TE}{t:TA}{name:Str}{W4 W3:Pos}{id:String}{r:V->List V->Hp->VK->Prop}(g:Wx "tuple" name id)(i:V7 (.builtin id)=pure (.type "method_descriptor"))(N:ym X id r)(M:PE X o to)(L:PA X (e::es) t)(f:nr o name X.env (gp o X.env)=gp o X.env:=by rfl)(hfew:((hG W3<|starEach (e::es) X.env).all (λx=>!x.1)&&(x9 W3<|keywordEach [] X.env).all (λx=>x.1.isSome)
   && decide ((e::es).length+([]:List vr).length+(if ([]:List vr).isEmpty then 0 else 1)<30))=true:=by rfl)(hline:(W4.endLine==W3.line)=true:=by rfl)(hs:fe (e::es) X.env=(eC,gp e X.env)::fe es X.env:=by rfl)(hplain:(hG W3<|starEach es X.env).any (·.1)=false:=by rfl):
  PE X (.Call (.Attribute o name W4) (e::es) [] W3) (tTM r to t):=by
 intro c s Z H Q I h;refine WH f hfew hline rfl (br (M c s Z H _ I h) λv p ⟨x,H1,I1,y,⟨a,O,q,J⟩,z⟩=>?_);subst q;cases y;obtain⟨A,n,S,R,m⟩:=I1.tupD J;refine⟨"tuple",id,PySem.F.plainAttrs_tuple,g,i,⟨_,m,rfl⟩,λb E=>by cases E;exact⟨_,m,rfl⟩,?_⟩
 have j:=L W3 c p Z H1 _ I1 z;rw[hs]at j ⊢;refine Qs (by show (eC||(hG W3<|starEach es X.env).any (·.1))=eC;rw[hplain]<;>rfl) (QH ?_)
 exact br j λu C ⟨G,H2,I2,K,B⟩=>N c C Z H2 (.ref a) G _ u Q I2 rfl K B
end
theorem gh{h a:hI}{S:Xa}:∀{l:List Env},h.FunFrames a l->(∀b∈gK l,b∈S)->h.FunFrames (Tj h S) l
 |[],_,_=>trivial
 |env::r,hl,hs=>by
  obtain⟨g,⟨L,o,c,n,i,e⟩,j⟩:=hl;have f:L∈S:=hs L (by unfold gK;rw[Ql,c];exact OL)
  exact⟨g,⟨L,o,c,W.hideAll_none S f,i,e⟩,gh j λb m=>hs b (by unfold gK;rw[Ql,c];exact OE _ m)⟩
def uG(P:fx)(w:g3)(C:eg):oo:=λa H s E e c=>∃(ea:eg)(H':Hp)(B:hI)(a0:ay),e=.ref ea/\c.os=s.os/\Uf c.gens/\Un (gK a) [] H H' s.heap c.heap/\HOk P w H' c.heap/\
 Heap.FlyingW B a ea (.ref C) a0 c.heap/\(∀b u,H' b=ap u->∃o,B.get? b=ap o)/\(∀b o,s.heap.get? b=ap o->b∉gK a->∃o',B.get? b=ap o')/\E (.ref C) cm H'
theorem pv{h' B:hI}(c:HOk P w H h)(k:B.StaysIn h)(j:B.StaysIn h')(g:∀b u,H b=ap u->∃o,B.get? b=ap o):HOk P w H h':=λa o e=>
 (c a o e).stay (λb u i q=>by
  obtain⟨v,f⟩:∃v,B.get? b=ap v:=by
   rcases i with rfl|z
   .exact g _ _ e
   .exact g _ _ z
  have:=k b v f;rw[q]at this;cases this;exact j b _ f) (λ_ q=>q) λ_ _ q=>q
theorem vt{fs:Xa}{H':Hp}{m p B:hI}(un:Un fs [] H H' h m)(k1:B.StaysIn m)(k2:B.StaysIn p)(u:m.UpToSlots p)(v:∀b o,h.get? b=ap o->b∉fs->∃e,B.get? b=ap e)(x:∀b∈fs,∀o,h.get? b=ap o->∀vs,o.data≠.fields vs)(z:∀b∈fs,H b=cm):Un fs [] H H' h p where
 keep:=λb o q n a g=>by
  have f:=un.keep b o q n a g;obtain⟨e,c⟩:=v b o q a;have:=k1 b e c;rw[f]at this;cases this;exact k2 b _ c
 slot:=λb o q n a g=>by
  obtain⟨y,f⟩:=un.slot b o q n a g;obtain⟨i,j⟩:=u b _ f (x b a o q);exact⟨i,j⟩
 free:=un.free
 there:=λb o q g=>by
  by_cases a:b∈fs
  .obtain⟨y,f⟩:=un.slot b o q (z b a) a g
   obtain⟨i,j⟩:=u b _ f (x b a o q);exact⟨_,j⟩
  .obtain⟨e,c⟩:=v b o q a
   exact⟨e,k2 b e c⟩
 tups:=un.tups
 frzs:=un.frzs
 tbls:=un.tbls
section
variable{K:Ow}{mg:Xf}{base:hI}{N:W8}{W0:Str}{scope:z4}{f C:eg}{cd:ay}{A:ix}{outer:List Env}{s0:el}{H0:Hp}{E:XK}
theorem ut{env:Env}{L:eg}{l:List Env}(h:env.frame=ap L):gK (env::l)=L::gK l:=by unfold gK;rw[Ql,h]
theorem LG:bS (uG P w C) (dF (uG P w C) P w K mg base N W0 scope f cd A outer s0 H0 E) E:=by
 intro T Z H s e s' I a;obtain⟨Q,H',B,a0,rfl,S,g,un,M,m,W,L,hE⟩:=a;have J:(dF (uG P w C) P w K mg base N W0 scope f cd A outer s0 H0 E).stack=envOfC W0 scope s0.heap.objs.size f cd::outer:=rfl;have G:(envOfC W0 scope s0.heap.objs.size f cd).frame=ap s0.heap.objs.size:=rfl;have F:gK (envOfC W0 scope s0.heap.objs.size f cd::outer)=s0.heap.objs.size::gK outer:=ut G;rw[J]at un m L;show eH (ff P w) (A.deeper<|envOfC W0 scope s0.heap.objs.size f cd) (leaving (envOfC W0 scope s0.heap.objs.size f cd)<|.ref Q) (λ_ v=>uG P w C outer H0 s0 E (.ref Q) v) (λe' v=>uG P w C outer H0 s0 E e' v) s';refine wpAny_leaves_onW I.ok.frames G m λh' i R=>?_;have j:Un (gK outer) [] H0 H s0.heap s.heap:=I.base;have nofr:∀{b:eg}{o:Obj},s0.heap.get? b=ap o->b∉gK outer->b∉gK (envOfC W0 scope s0.heap.objs.size f cd::outer):=λ{b o} q g z=>by
  rw[F]at z;rcases OM.mp z with e|z
  .exact PC _ (e▸OC q)
  .exact g z
 have c:Un (gK (envOfC W0 scope s0.heap.objs.size f cd::outer)) [] H H' s.heap h':=by
  refine vt un m.1 i.1 R L (λb g o q vs=>?_) λb g=>?_
  .obtain⟨_,o',y,hd⟩:=I.stack.mem (show b∈_ from g)
   rw[q]at y;cases y;exact hd vs
  .exact I.stkFree b g
 refine⟨Q,H',B,a0,rfl,S.trans I.os,g,?_,pv M m.1 i.1 W,i,W,λb o q g=>?_,hE⟩
 .refine⟨λb o q n g a=>?_,λb o q n g a=>?_,λb o q n a=>?_,λb o q a=>?_,λb U q=>c.tups b U (j.tups b U q),λb o u q=>c.frzs b o u (j.frzs b o u q),λb Y q=>?_⟩
  .exact c.keep b o (j.keep b o q n g a) (j.free b o q n a) (nofr q g) a
  .obtain⟨sl,p⟩:=j.slot b o q n g a
   obtain⟨O,q2⟩:=c.slot b _ p (j.free b o q n a) (by rw[F];exact OE _ g) a
   exact⟨O,q2⟩
  .obtain⟨x,p⟩:=j.there b o q a
   exact c.free b x p (j.free b o q n a) a
  .obtain⟨x,p⟩:=j.there b o q a
   exact c.there b x p a
  .obtain⟨m1,e1⟩:=j.tbls b Y q
   obtain⟨m2,X⟩:=c.tbls b _ e1;exact⟨m1++m2,by rw[X,QX]⟩
 .obtain⟨x,p⟩:=j.there b o q (by simp)
  exact L b x p (nofr q g)
structure ExcAt(K:Ow)(C:eg):Prop where
 at_:∃(nm q:Str)(Nn:eg)(bs bm bmB:W9)(hdct:Bool)(sn:W8)(sub:W9)(ab:Bool)(col:Option Bool)(dd:Option eg)(k0 k1 k2 k3 k5:Option ay)(newId initId Bs:String)(mN:Xf),
  (∀h:hI,K.In h->h.get? C=ap (excClassObj nm q C Nn bs bm hdct sn sub ab col dd k0 k1 k2 k3 k5 newId)/\h.Ns Nn mN/\OwnTail h bmB bm)/\mN "__init__"=cm/\ExcBaseFacts Bs newId initId bmB/\bmB.contains (.type Bs)=true/\bm.contains (.type "BaseException")=true
theorem ObjOk.obj{a:eg}{o:HO}(x:ObjOk P w H h a o):∃v,h.get? a=ap v:=by
 cases o with
 |lst xs=>obtain⟨_,_,_,_,e⟩:=x;exact⟨_,e⟩
 |tup xs=>obtain⟨_,_,_,_,e,_⟩:=x;exact⟨_,e⟩
 |dK W1=>obtain⟨_,_,_,_,o,_,_,e,_⟩:=x;exact⟨_,e⟩
 |dT W1=>obtain⟨_,_,_,_,o,_,_,e,_⟩:=x;exact⟨_,e⟩
 |set S n=>obtain⟨o,_,_,_,e,_⟩:=x;exact⟨_,e⟩
 |ins C dx fs=>obtain⟨_,_,_,e,_⟩:=x;exact⟨_,e⟩
 |own y=>obtain⟨_,e⟩:=x;exact⟨_,e⟩
 |xd fs=>obtain⟨_,⟨_,_,_,e,_⟩,_⟩:=x;exact⟨_,e⟩
 |rng lo hi=>obtain⟨_,_,_,e⟩:=x;exact⟨_,e⟩
 |frz ob u=>obtain⟨e,_⟩:=x;exact⟨_,e⟩
 |tbl ps=>exact⟨_,(show h.get? a=ap _ from x)⟩
 |met f y=>exact⟨_,(show h.get? a=ap _ from x)⟩
 |ext φ=>obtain⟨_,⟨_,e⟩,_⟩:=x;exact⟨_,e⟩
theorem Fi{fs:Xa}{L:eg}{H0 H':Hp}{m h':hI}(g:Un fs [] H0 H m h)(a:Un (L::fs) [] H H' h h')(M:m.objs.size<=L):Un fs [] H0 H' m h':=by
 have nofr:∀{b:eg}{o:Obj},m.get? b=ap o->b∉fs->b∉L::fs:=λ{b o} q i z=>by
  rcases OM.mp z with e|z
  .exact PC _ (OA (e▸OC q) M)
  .exact i z
 refine⟨λb o q n i c=>a.keep b o (g.keep b o q n i c) (g.free b o q n c) (nofr q i) c,λb o q n i c=>?_,λb o q n c=>?_,λb o q c=>?_,λb x q=>a.tups b x (g.tups b x q),λb o u q=>a.frzs b o u (g.frzs b o u q),λb B q=>?_⟩
 .obtain⟨O,j⟩:=g.slot b o q n i c
  obtain⟨v,G⟩:=a.slot b _ j (g.free b o q n c) (OE _ i) c;exact⟨v,G⟩
 .obtain⟨p,j⟩:=g.there b o q c
  exact a.free b p j (g.free b o q n c) c
 .obtain⟨p,j⟩:=g.there b o q c
  exact a.there b p j c
 .obtain⟨I,F⟩:=g.tbls b B q
  obtain⟨J,y⟩:=a.tbls b _ F;exact⟨I++J,by rw[y,QX]⟩
def v_(E:XK)(C:eg):TS:=λ_ _ H=>E (.ref C) cm H
theorem AT{x p:Str}{np W3 pos W4:Pos}{jj}(X:ExcAt K C)(hm:mg x=ap (.ref C))(hg:Gl (dF (uG P w C) P w K mg base N W0 scope f cd A outer s0 H0 E) x)(hd:(x==("__debug__":Str))=false:=by decide)(hs:fe [.Constant (.str p) jj W4] (dF (uG P w C) P w K mg base N W0 scope f cd A outer s0 H0 E).env=[(eC,gp (.Constant (.str p) jj W4) (dF (uG P w C) P w K mg base N W0 scope f cd A outer s0 H0 E).env)]:=by rfl):
  PS (dF (uG P w C) P w K mg base N W0 scope f cd A outer s0 H0 E) (.Raise (ap<|.Call (.Name x np) [.Constant (.str p) jj W4] [] W3) cm pos) (v_ E C):=by
 intro J s Z H D I h;obtain⟨nm,q,Nn,bs,bm,bmB,hdct,sn,sub,ab,col,dd,k0,k1,k2,k3,k5,newId,R,Bs,mN,hX,hni,FB,hBs,i⟩:=X.at_
 refine wpAny_Raise_call_subU (C:=C) (nm:=nm) (q:=q) (N:=Nn) (bs:=bs) (bm:=bm) (hdct:=hdct) (sn:=sn) (sub:=sub) (ab:=ab) (col:=col) (dd:=dd) (k0:=k0) (k1:=k1) (k2:=k2) (k3:=k3) (k5:=k5) FB hBs FB (mN:=mN) i (I.ok.hd rfl) (by rw[hs];rfl) hni
  (iD I hg hm ⟨rfl,?_⟩ hd)
 have hA:=(wV BA Bt hs) W3 J s Z H (λxs H1=>xs.length=1/\E (.ref C) cm H1) I ⟨rfl,h⟩;rw[hs]at hA ⊢;refine QH (mu hA (λvs a Q=>?_) λ_ _ y=>y);obtain⟨vv,H1,I1,r,G,hE⟩:=Q;obtain⟨hC,hN,T⟩:=hX a.heap I1.kIn;refine⟨rfl,?_,hC,hN,T,λh' e hx=>?_⟩
 .show vs.length<=sizeLine
  rw[<- r.length,G]
  decide
 have L:(envOfC W0 scope s0.heap.objs.size f cd).frame=ap s0.heap.objs.size:=rfl;have O:gK (envOfC W0 scope s0.heap.objs.size f cd::outer)=s0.heap.objs.size::gK outer:=ut L;have kB:(Tj a.heap<|gK (envOfC W0 scope s0.heap.objs.size f cd::outer)).StaysIn a.heap:=λb o e=>W.of_hideAll _ e;show eH (ff P w) (A.deeper<|envOfC W0 scope s0.heap.objs.size f cd) (leaving (envOfC W0 scope s0.heap.objs.size f cd)<|.ref e) (λ_ j=>uG P w C outer H0 s0 E (.ref e) j) (λU j=>uG P w C outer H0 s0 E U j) _;refine wpAny_leaves_madeW I1.ok.frames L kB (gh I1.stack λb c=>c) hx λF t m _ _ S=>?_;have up2:a.heap.UpToSlots F:=(Heap.UpToSlots.of_keeps hx.keeps).trans S;have g:∀{b:eg}{o:Obj},a.heap.get? b=ap o->b∉gK (envOfC W0 scope s0.heap.objs.size f cd::outer)->(Tj a.heap<|gK (envOfC W0 scope s0.heap.objs.size f cd::outer)).get? b=ap o:=λe n=>W.hideAll_get _ e n;have sT:∀b u,H1 b=ap u->∃o,(Tj a.heap<|gK (envOfC W0 scope s0.heap.objs.size f cd::outer)).get? b=ap o:=λb u e=>by
  obtain⟨v,hv⟩:=ObjOk.obj (I1.hok b u e);exact⟨v,g hv λz=>by rw[I1.stkFree b z]at e;cases e⟩
 have M:Un (gK (envOfC W0 scope s0.heap.objs.size f cd::outer)) [] H1 H1 a.heap F:=by
  refine vt Un.refl kB m.1 up2 (λb o q c=>⟨o,g q c⟩) (λb c o q vs=>?_) λb c=>I1.stkFree b c;obtain⟨_,o',B,Y⟩:=I1.stack.mem (show b∈_ from c);rw[q]at B;cases B;exact Y vs
 rw[O]at M;refine⟨e,H1,_,.ref t,rfl,I1.os,I1.bare,Fi I1.base M (Oz _),pv I1.hok kB m.1 sT,m,sT,λb o q c=>?_,hE⟩;obtain⟨o1,q1⟩:=I1.base.there b o q (λz=>absurd (show b∈([]:Xa) from z) (by simp))
 refine⟨o1,g q1 λz=>?_⟩;rw[O]at z;rcases OM.mp z with U|z
 .exact PC _ (U▸OC q)
 .exact c z
end
abbrev Cx.marked(X:Cx)(e:ay):Cx:={ X with A:=X.A.mark (ap e),calm:=eC,xe:=λ_ _=>False }
section
variable{X:Cx}{WZ:Xe}{Z:St}{e:ay}
theorem Cx.Ok.mark(ok:X.Ok)(e:ay):(X.marked e).Ok:=
 ⟨ok.mod,ok.kind,ok.glob,ok.blt,ok.above,ok.inj,ok.has,ok.cab,λz=>(Bool.noConfusion z),ok.frames,ok.stk,ok.exf,ok.bs,ok.bsz,ok.noex,ok.exfs,ok.funs,ok.frf⟩
theorem Inv.mark(I:Inv X WZ Z H s)(e:ay):Inv (X.marked e) WZ Z H s:=⟨I.ok.mark e,I.os,I.bare,I.base,I.loc,I.cell,I.free,I.freeC,I.pin,I.hok,I.len⟩
theorem Inv.unmark(ok:X.Ok)(I:Inv (X.marked e) WZ Z H s):Inv X WZ Z H s:=⟨ok,I.os,I.bare,I.base,I.loc,I.cell,I.free,I.freeC,I.pin,I.hok,I.len⟩
theorem SP.unmark{D:Ends}{f:Flow}{s':el}(ok:X.Ok)(h:SP (X.marked e) WZ D f s'):SP X WZ D f s':=by
 cases f with
 |next=>obtain⟨a,H',I,q⟩:=h;exact⟨a,H',I.unmark ok,q⟩
 |brk=>obtain⟨a,H',I,q⟩:=h;exact⟨a,H',I.unmark ok,q⟩
 |cont=>obtain⟨a,H',I,q⟩:=h;exact⟨a,H',I.unmark ok,q⟩
 |ret u=>obtain⟨v,a,H',I,r,q⟩:=h;exact⟨v,a,H',I.unmark ok,r,q⟩
def Au(C:eg)(sp:Sp)(dvs:List V)(ta:TA)(ts:TS):TS:=λD Z H=>ta Z H λa H1=>sp (a++dvs) H1 (λ_ H2=>D.nx Z H2) (λ_ _ H2=>ts D Z H2)
theorem uS{C f:eg}{k:Nat}{fd:g4}{ps:W8}{sp:Sp}{j:List V}{ds:W9}{x cx:Str}{p cp ep np U pos:Pos}{e:fy}{es:Xb}{ta:TA}{m:rc}{g:Xc}{ts:TS}(T:X.stack=X.env::X.outer)(hfL:X.env.frame=ap X.env.locals)(F:FnOk X.prog X.w X.K X.mg X.base (uG X.prog X.w C) k f fd ps sp)(hr:Room k X.A)(hg:Gl X x)(hm:X.mg x=ap (.ref f))(hk:P4 X.K (.ref f)=true)(hb:Binds X.K fd ps ds)(hd:Vals j ds)(ha:PA X.nox (e::es) ta)(EX:ExcAt X.K C)(hgC:Gl X cx)(hmC:X.mg cx=ap (.ref C))(hsu:∀S:eg,xC (X.marked<|.ref S) (m::g) ts)(hdb:(x==("__debug__":Str))=false:=by decide)(hdC:(cx==("__debug__":Str))=false:=by decide)(he:fe (e::es) X.env=(eC,gp e X.env)::fe es X.env:=by rfl)(hpl:(hG cp<|starEach es X.env).any (·.1)=false:=by rfl)(hsw:zt (.Call (.Name x p) (e::es) [] cp) cm ep.line X.env=pure false:=by rfl):
  PS X (.Try [.Expr (.Call (.Name x p) (e::es) [] cp) ep] [.ExceptHandler (ap<|.Name cx np) cm (m::g) U] [] [] pos) (Au C sp j ta ts):=by
 intro WZ s Z H D I h;refine wpAny_Try_except (Wd<|wpAny_Expr_any ?_ I.quiet hsw);refine ra (iD I hg hm ?_ hdb);refine S7 (h₀:=X.base) I.ok.mod.kin hk (mu (ha cp WZ s Z H _ (I.wish _) h) (λO W ⟨G,H1,I1',r,q⟩=>?_) λ_ _ z=>PN z) he hpl;have I1:Inv X WZ Z H1 W:=I1'.unwish;refine⟨I1.kIn,?_⟩;have r2:Vals (G++j) (O++ds):=r.append hd;have hl:(O++ds).length=ps.length:=by rw[<- r2.length];exact F.len _ _ _ _ q
 refine wpAny_call (P3 (F.run X.A X.stack W H1 ⟨O,[]⟩ (O++ds) (G++j) _ _ hr I1.env0 (hb W O I1.kIn hl) r2 q) λrr s' Q=>?_);cases rr with
 |ok fl=>
  cases fl with
  |ret u=>
   obtain⟨x',H2,I2,_,q2⟩:=I1.after Q;exact Ps (Ps ⟨Z,H2,I2,q2⟩)
  |next=>exact PN Q
  |brk=>exact PN Q
  |cont=>exact PN Q
 |error er=>
  obtain⟨S,H',B,a0,rfl,hos,v,un,hok,i,sT,sA,hE⟩:=Q;obtain⟨nm,qn,Nn,bs,bm,bmB,hdct,sn,sub,ab,col,dd,k0,k1,k2,k3,k5,newId,Y,Bs,mN,hX,hni,FB,hBs,y⟩:=EX.at_;have nf:∀b∈gK X.stack,∀o,W.heap.get? b=ap o->∀G,o.data≠.fields G:=λb n o q' G=>by
   obtain⟨_,o',L,hd'⟩:=I1.stack.mem (show b∈_ from n);rw[q']at L;cases L;exact hd' G
  have a:∀N:hI,B.StaysIn N->s'.heap.UpToSlots N->Inv X WZ Z H' { s' with heap:=N }:=λN k up=>
   I1.call' (s':={ s' with heap:=N }) hos (vt un i.1 k up sA nf λb n=>I1.stkFree b n) (pv hok i.1 k sT) v λb z=>absurd (show b∈([]:Xa) from z) (by simp)
  rw[T]at i;have hfr:X.A.frames=ap (X.env::X.outer):=by rw[<- T];exact I1.ok.frames
  refine wpAny_looks_onW hfr hfL i λh4 E up4=>?_;refine wpAny_landsW E λh5 c J=>?_;have I5:=(a h5 c.1<|up4.trans J).mark (.ref S);obtain⟨hC,_,_⟩:=hX h5 I5.kIn;obtain⟨ob,hob,R⟩:=c.there;refine wpAny_handleBy_cons (codeAny_handlers_test<|iD I5 hgC hmC ?_ hdC) (by intro q';cases q')
  refine wpAny_excMatches_sub_self hC hob R y (codeAny_handlers_suite ?_);refine lands_againW c λh6 M up6=>?_;have I6:=(a h6 M.1<|(up4.trans J).trans up6).mark (.ref S);exact mu (hsu S WZ _ Z H' D I6 hE) (λfl s7 q7=>q7.unmark I.ok) λ_ _ z=>PN z
end
end _2
namespace _3
open PySem _2
variable{p:eg}{B:Bd}{X:Cx}{U:Dl}{c e:fy}{H H' H1:Hp}{M:Mem}{K:Ow}{pos:Pos}{Z:St}
inductive D where
 |non|bl (b:Bool)|int (i:Int)|str (x:Str)|ty (n:String)|ref (a:eg)|tup (xs:List D)|lst (xs:List D)|mt (xs:List D)|ml (xs:List D)|fd (ks:List (List aF)) (xs:List D)
def TpD(_:Ow)(H:Hp)(p:eg)(vs:List V):Prop:=H p=ap (.tup vs)
def TpM(K:Ow)(p:eg)(vs:List V):Prop:=∃(o:Obj)(W5:Xg)(n:Nat),K.lookup p=ap o/\o.cls=.type "tuple"/\o.data=.seq W5 n/\W5.size<=sizeLine/\Vals vs W5.toList
def FzD(K:Ow)(H:Hp)(p:eg)(vs:List V):Prop:=
 ∃o,H p=ap (.frz o<|.lst vs)
def FzK(K:Ow)(H:Hp)(p:eg)(vs:List V):Prop:=(∃o,H p=ap (.frz o<|.lst vs))\/∃(o:Obj)(W5:Xg)(n:Nat),K.lookup p=ap o/\o.cls=.type "list"/\o.dict=cm/\o.data=.seq W5 n/\W5.size<=sizeLine/\Vals vs W5.toList
theorem FzK.sq{vs:List V}(h:FzK K H p vs):SqL K H p vs:=h.imp (λ⟨o,e⟩=>.inr ⟨o,e⟩) λx=>x
theorem TpD.sq{vs:List V}(h:TpD K H p vs):i7 K H p vs:=.inl (.inl h)
theorem TpM.sq{vs:List V}(h:TpM K p vs):i7 K H p vs:=.inr h
theorem FzD.sq{vs:List V}(h:FzD K H p vs):SqL K H p vs:=by
 obtain⟨o,h⟩:=h;exact .inl (.inr ⟨o,h⟩)
def FdD(H:Hp)(p:eg)(ks:List (List aF))(vs:List V):Prop:=ks.length=vs.length/\∃o,H p=ap (.frz o<|.dT<|ks.zip vs)
mutual
def Rp(K:Ow)(H:Hp):D->V->Prop
 |.non,v=>v=.non
 |.bl b,v=>v=.bl b
 |.int i,v=>v=.int i
 |.str x,v=>v=.str x
 |.ty n,v=>v=.ty n
 |.ref a,v=>v=.ref a
 |.tup xs,v=>∃p vs,v=.ref p/\TpD K H p vs/\Rps K H xs vs
 |.lst xs,v=>∃p vs,v=.ref p/\FzD K H p vs/\Rps K H xs vs
 |.mt xs,v=>∃p vs,v=.ref p/\TpM K p vs/\Rps K H xs vs
 |.ml xs,v=>∃p vs,v=.ref p/\FzK K H p vs/\Rps K H xs vs
 |.fd ks xs,v=>∃p vs,v=.ref p/\FdD H p ks vs/\Rps K H xs vs
def Rps(K:Ow)(H:Hp):List D->List V->Prop
 |[],vs=>vs=[]
 |x::xs,vs=>∃v r,vs=v::r/\Rp K H x v/\Rps K H xs r
end
structure Imm(H H':Hp):Prop where
 tup:∀p vs,H p=ap (.tup vs)->H' p=ap (.tup vs)
 frz:∀p o u,H p=ap (.frz o u)->H' p=ap (.frz o u)
theorem Imm.refl:Imm H H:=⟨λ_ _ e=>e,λ_ _ _ e=>e⟩
theorem TpD.mono{vs:List V}(i:Imm H H')(h:TpD K H p vs):TpD K H' p vs:=i.tup _ _ h
theorem FzK.mono{vs:List V}(i:Imm H H')(h:FzK K H p vs):FzK K H' p vs:=h.imp (λ⟨o,e⟩=>⟨o,i.frz _ _ _ e⟩) λx=>x
theorem FzD.mono{vs:List V}(i:Imm H H')(h:FzD K H p vs):FzD K H' p vs:=let ⟨o,e⟩:=h;⟨o,i.frz _ _ _ e⟩
mutual
theorem Rp.mono{K:Ow}{H H':Hp}(i:Imm H H'):∀{d:D}{v:V},Rp K H d v->Rp K H' d v
 |.non,_,h=>h
 |.bl _,_,h=>h
 |.int _,_,h=>h
 |.str _,_,h=>h
 |.ty _,_,h=>h
 |.ref _,_,h=>h
 |.tup _,_,h=>by
  obtain⟨p,a,e,t,r⟩:=h;exact⟨p,a,e,t.mono i,Rps.mono i r⟩
 |.lst _,_,h=>by
  obtain⟨p,a,e,t,r⟩:=h;exact⟨p,a,e,t.mono i,Rps.mono i r⟩
 |.mt _,_,h=>by
  obtain⟨p,a,e,t,r⟩:=h;exact⟨p,a,e,t,Rps.mono i r⟩
 |.ml _,_,h=>by
  obtain⟨p,a,e,t,r⟩:=h;exact⟨p,a,e,t.mono i,Rps.mono i r⟩
 |.fd _ _,_,h=>by
  obtain⟨p,a,e,⟨t,o,b⟩,r⟩:=h;exact⟨p,a,e,⟨t,o,i.frz _ _ _ b⟩,Rps.mono i r⟩
theorem Rps.mono{K:Ow}{H H':Hp}(i:Imm H H'):∀{ds:List D}{vs:List V},Rps K H ds vs->Rps K H' ds vs
 |[],_,h=>h
 |_::_,_,h=>by
  obtain⟨v,r,e,a,b⟩:=h;exact⟨v,r,e,Rp.mono i a,Rps.mono i b⟩
end
section
theorem Rps.nil:Rps K H [] []:=rfl
theorem Rps.cons{d:D}{v:V}{ds:List D}{vs:List V}(a:Rp K H d v)(b:Rps K H ds vs):Rps K H (d::ds) (v::vs):=⟨v,vs,rfl,a,b⟩
theorem Rps.length:∀{ds:List D}{vs:List V},Rps K H ds vs->ds.length=vs.length
 |[],_,h=>by cases h;rfl
 |_::_,_,h=>by obtain⟨v,r,rfl,_,b⟩:=h;simp[b.length]
theorem Rps.get:∀{ds:List D}{vs:List V},Rps K H ds vs->∀{i:Nat}{d:D},ds[i]?=ap d->∃v,vs[i]?=ap v/\Rp K H d v
 |[],_,_,i,d,e=>by simp at e
 |x::xs,_,h,i,d,e=>by
  obtain⟨v,r,rfl,a,b⟩:=h;cases i with
  |zero=>simp at e;subst e;exact⟨v,by simp,a⟩
  |succ i=>simpa using b.get (by simpa using e)
theorem Rps.append:∀{ds es:List D}{vs f:List V},Rps K H ds vs->Rps K H es f->Rps K H (ds++es) (vs++f)
 |[],_,_,_,h,g=>by cases h;exact g
 |_::_,_,_,_,h,g=>by
  obtain⟨v,r,rfl,a,b⟩:=h;exact⟨v,_,rfl,a,b.append g⟩
theorem Rps.take:∀{ds:List D}{vs:List V}(n:Nat),Rps K H ds vs->Rps K H (ds.take n) (vs.take n)
 |[],_,n,h=>by cases h;simp[Rps]
 |_::_,_,0,h=>rfl
 |_::_,_,n+1,h=>by
  obtain⟨v,r,rfl,a,b⟩:=h;exact⟨v,_,rfl,a,b.take n⟩
theorem Rps.drop:∀{ds:List D}{vs:List V}(n:Nat),Rps K H ds vs->Rps K H (ds.drop n) (vs.drop n)
 |[],_,n,h=>by cases h;simp[Rps]
 |_::_,_,0,h=>h
 |_::_,_,n+1,h=>by
  obtain⟨v,r,rfl,a,b⟩:=h;exact b.drop n
theorem Rps.set{d:D}{v:V}(a:Rp K H d v):∀{ds:List D}{vs:List V}(i:Nat),Rps K H ds vs->Rps K H (ds.set i d) (vs.set i v)
 |[],_,_,h=>by cases h;rfl
 |_::_,_,0,h=>by obtain⟨w,r,rfl,_,b⟩:=h;exact⟨v,r,rfl,a,b⟩
 |_::_,_,i+1,h=>by obtain⟨w,r,rfl,c,b⟩:=h;exact⟨w,_,rfl,c,b.set a i⟩
theorem Rps.dropLast{ds:List D}{vs:List V}(h:Rps K H ds vs):Rps K H ds.dropLast vs.dropLast:=by
 rw[UD,UD,h.length];exact h.take _
theorem Rps.eraseIdx:∀{ds:List D}{vs:List V}(i:Nat),Rps K H ds vs->Rps K H (ds.eraseIdx i) (vs.eraseIdx i)
 |[],_,_,h=>by cases h;rfl
 |_::_,_,0,h=>by obtain⟨w,r,rfl,_,b⟩:=h;exact b
 |_::_,_,i+1,h=>by obtain⟨w,r,rfl,c,b⟩:=h;exact⟨w,_,rfl,c,b.eraseIdx i⟩
theorem uE:∀{a:W7}{vs:List V},vs=a.map V.int->Rps K H (a.map D.int) vs
 |[],_,e=>e
 |i::a,_,e=>by subst e;exact⟨_,_,rfl,rfl,uE rfl⟩
end
inductive MO where
 |lst (xs:List D)
 |dK (W1:List (aF×D))
 |dT (W1:List (List aF×D))
 |ins (C:eg) (fs:List (Str×D))
abbrev Mem:=eg->Option MO
def Mem.upd(M:Mem)(a:eg)(o:MO):Mem:=λb=>if b=a then ap o else M b
def Mem.del(M:Mem)(a:eg):Mem:=λb=>if b=a then cm else M b
def Rkv{κ:Type}(K:Ow)(H:Hp):List (κ×D)->List (κ×V)->Prop:=VV λp q=>p.1=q.1/\Rp K H p.2 q.2
def RepO(K:Ow)(H:Hp)(a:eg):MO->Prop
 |.lst xs=>∃vs,H a=ap (.lst vs)/\Rps K H xs vs
 |.dK W1=>∃ws,H a=ap (.dK ws)/\Rkv K H W1 ws
 |.dT W1=>∃ws,H a=ap (.dT ws)/\Rkv K H W1 ws
 |.ins C fs=>∃dx ws,H a=ap (.ins C dx ws)/\Rkv K H fs ws
def RepH(K:Ow)(H:Hp)(M:Mem):Prop:=∀a o,M a=ap o->RepO K H a o
section
variable{a b:eg}{o:MO}{u:HO}
@[simp] theorem Mem.upd_same:(M.upd a o) a=ap o:=by simp[Mem.upd]
theorem ae(h:b≠a):(M.upd a o) b=M b:=by simp[Mem.upd,h]
@[simp] theorem Mem.upd_upd {o':MO}:(M.upd a o).upd a o'=M.upd a o':=by funext c;simp[Mem.upd];split<;>rfl
@[simp] theorem Mem.upd_del:(M.upd a o).del a=M.del a:=by funext c;simp[Mem.upd,Mem.del];split<;>rfl
theorem aC(h:M a=cm):M.del a=M:=by
 funext c;simp only[Mem.del];split
 .rename_i e;rw[e,h]
 .rfl
theorem aB{f:MO}(h:a≠b):(M.upd a o).upd b f=(M.upd b f).upd a o:=by
 funext c;simp only[Mem.upd];split
 .rename_i e;rw[e,if_neg (OW h)]
 .rfl
theorem Mem.ne{o:MO}(h:M a=ap o)(h':M b=cm):a≠b:=by intro e;subst e;rw[h]at h';cases h'
theorem Rkv.mono{g:Type}{f:List (g×D)}{j:List (g×V)}(i:Imm H H')(h:Rkv K H f j):Rkv K H' f j:=eA h λ_ _ z=>⟨z.1,z.2.mono i⟩
theorem RepO.obj(r:RepO K H a o):∃u,H a=ap u:=by
 cases o with
 |lst xs=>obtain⟨f,e,_⟩:=r;exact⟨_,e⟩
 |dK xs=>obtain⟨f,e,_⟩:=r;exact⟨_,e⟩
 |dT xs=>obtain⟨f,e,_⟩:=r;exact⟨_,e⟩
 |ins C fs=>obtain⟨g,f,e,_⟩:=r;exact⟨_,e⟩
theorem RepO.keep(r:RepO K H a o)(i:Imm H H')(e:H' a=H a):RepO K H' a o:=by
 cases o with
 |lst xs=>obtain⟨f,q,z⟩:=r;exact⟨f,e.trans q,z.mono i⟩
 |dK xs=>obtain⟨f,q,z⟩:=r;exact⟨f,e.trans q,z.mono i⟩
 |dT xs=>obtain⟨f,q,z⟩:=r;exact⟨f,e.trans q,z.mono i⟩
 |ins C fs=>obtain⟨g,f,q,z⟩:=r;exact⟨g,f,e.trans q,z.mono i⟩
theorem RepH.fresh(r:RepH K H M)(h:H a=cm):M a=none:=by
 cases e:M a with
 |none=>rfl
 |some o=>obtain⟨u,q⟩:=(r a o e).obj;rw[h]at q;cases q
def wG:Option HO->Prop
 |some (.tup _)=>False
 |some (.frz _ _)=>False
 |_=>True
theorem Imm.upd(h:wG (H a)):Imm H (upd H a u):=by
 refine⟨λp f e=>?_,λp o v e=>?_⟩
 .rw[aM];exact e
  rintro rfl;rw[e]at h;exact h
 .rw[aM];exact e
  rintro rfl;rw[e]at h;exact h
theorem Imm.new(h:H a=cm):Imm H (_2.upd H a u):=Imm.upd (by rw[h];trivial)
theorem RepO.loose(r:RepO K H a o):wG (H a):=by
 cases o with
 |lst xs=>obtain⟨f,e,_⟩:=r;rw[e];trivial
 |dK xs=>obtain⟨f,e,_⟩:=r;rw[e];trivial
 |dT xs=>obtain⟨f,e,_⟩:=r;rw[e];trivial
 |ins C fs=>obtain⟨g,f,e,_⟩:=r;rw[e];trivial
theorem RepH.new(r:RepH K H M)(h:H a=cm):RepH K (_2.upd H a u) M:=λb o e=>by
 obtain⟨v,q⟩:=(r b o e).obj;exact(r b o e).keep (Imm.new h) (aM<|bg q h)
theorem RepH.put(r:RepH K H M)(h:wG (H a))(n:RepO K (_2.upd H a u) a o):RepH K (_2.upd H a u) (M.upd a o):=λb p e=>by
 by_cases f:b=a
 .subst f;rw[Mem.upd_same]at e;cases e;exact n
 .rw[ae f]at e
  exact(r b p e).keep (Imm.upd h) (aM f)
theorem RepH.keep(r:RepH K H M)(i:Imm H H')(e:∀b o,M b=ap o->H' b=H b):RepH K H' M:=λb o q=>(r b o q).keep i (e b o q)
structure Frm(M:Mem)(H:Hp)(M':Mem)(H':Hp):Prop where
 keep:∀b u,H b=ap u->M b=cm->H' b=ap u/\M' b=cm
variable{M':Mem}
theorem Frm.refl:Frm M H M H:=⟨λ_ _ e n=>⟨e,n⟩⟩
theorem Frm.trans{M1 M2:Mem}{H2:Hp}(x:Frm M H M1 H1)(y:Frm M1 H1 M2 H2):Frm M H M2 H2:=⟨λb u e n=>let ⟨e1,n1⟩:=x.keep b u e n;y.keep b u e1 n1⟩
theorem Frm.imm(f:Frm M H M' H')(r:RepH K H M):Imm H H':=by
 have g:∀b u,H b=ap u->¬wG (ap u)->H' b=ap u:=λb u e n=>(f.keep b u e (by
  cases q:M b with
  |none=>rfl
  |some o=>exact absurd (by rw[<- e];exact(r b o q).loose) n)).1
 exact⟨λp h e=>g p _ e (λz=>z),λp o u e=>g p _ e (λz=>z)⟩
theorem Frm.new(h:H a=cm):Frm M H M (_2.upd H a u):=⟨λb v e n=>⟨by rw[aM (bg e h)];exact e,n⟩⟩
theorem Frm.put(h:H a=cm\/∃o,M a=ap o):Frm M H (M.upd a o) (_2.upd H a u):=⟨λb v e n=>by
 have f:b≠a:=by
  rintro rfl
  rcases h with h|⟨o,h⟩
  .rw[h]at e;cases e
  .rw[h]at n;cases n
 exact⟨by rw[_2.aM f];exact e,by rw[ae f];exact n⟩⟩
theorem Frm.del(h:∃o,M a=ap o):Frm M H (M.del a) (_2.upd H a u):=⟨λb v e n=>by
 have f:b≠a:=by
  rintro rfl
  obtain⟨o,h⟩:=h;rw[h]at n;cases n
 refine⟨by rw[_2.aM f];exact e,?_⟩
 unfold Mem.del;rw[if_neg f];exact n⟩
theorem Rp.mf{d:D}{v:V}(x:Rp K H d v)(r:RepH K H M)(f:Frm M H M' H'):Rp K H' d v:=x.mono (f.imm r)
theorem Rps.mf{d:List D}{v:List V}(x:Rps K H d v)(r:RepH K H M)(f:Frm M H M' H'):Rps K H' d v:=x.mono (f.imm r)
end
abbrev Dl:=List (Option D)
abbrev DK:=D->Mem->Prop
abbrev bp:=Dl->Mem->DK->Prop
abbrev eW:=Dl->Mem->(Bool->Mem->Prop)->Prop
abbrev fg:=Dl->Mem->(List D->Mem->Prop)->Prop
structure RepS(K:Ow)(H:Hp)(U:Dl)(Z:St):Prop where
 len:U.length=Z.length
 get:∀(i:Nat)(d:D),U[i]?=ap (ap d)->∃v,Z[i]?=ap (ap v)/\Rp K H d v
theorem RepS.mono(r:RepS K H U Z)(i:Imm H H'):RepS K H' U Z:=
 ⟨r.len,λj d e=>by obtain⟨v,b,a⟩:=r.get j d e;exact⟨v,b,a.mono i⟩⟩
theorem RepS.set{i:Nat}{d:D}{v:V}(r:RepS K H U Z)(h:Rp K H d v):RepS K H (U.set i<|some d) (Z.set i<|some v):=by
 refine⟨by simp[r.len],λj e q=>?_⟩
 rw[RQ]at q ⊢
 by_cases a:i=j
 .rw[if_pos a]at q ⊢
  by_cases b:i<U.length
  .rw[if_pos (by rw[<- r.len];exact a▸b)]
   rw[if_pos (a▸b)]at q;cases q;exact⟨v,rfl,h⟩
  .rw[if_neg (a▸b)]at q;cases q
 .rw[if_neg a]at q ⊢
  exact r.get j e q
structure Bd where
 p:Mem->Hp->Prop
 go:∀{M M':Mem}{H H':Hp},p M H->Frm M H M' H'->p M' H'
def Bd.of(M:Mem)(H:Hp):Bd:=⟨λM' H'=>Frm M H M' H',λa b=>a.trans b⟩
structure SR(X:Cx)(B:Bd)(U:Dl)(M:Mem)(Z:St)(H:Hp):Prop where
 i0:B.p M H
 rh:RepH X.K H M
 rs:RepS X.K H U Z
theorem SR.go{M':Mem}(s:SR X B U M Z H)(rh:RepH X.K H' M')(i:Frm M H M' H'):SR X B U M' Z H':=⟨B.go s.i0 i,rh,s.rs.mono<|i.imm s.rh⟩
def Up(K:Ow)(M:Mem)(H:Hp)(QQ:DK)(Q:VK):Prop:=∀d M',QQ d M'->∀v H',RepH K H' M'->Frm M H M' H'->Rp K H' d v->Q v H'
def UpT(K:Ow)(M:Mem)(H:Hp)(QQ:Bool->Mem->Prop)(Q:Bool->Hp->Prop):Prop:=∀b M',QQ b M'->∀H',RepH K H' M'->Frm M H M' H'->Q b H'
def UpA(K:Ow)(M:Mem)(H:Hp)(QQ:List D->Mem->Prop)(Q:List V->Hp->Prop):Prop:=∀ds M',QQ ds M'->∀vs H',RepH K H' M'->Frm M H M' H'->Rps K H' ds vs->Q vs H'
theorem Up.go{M1:Mem}{QQ:DK}{Q:VK}(u:Up K M H QQ Q)(i:Frm M H M1 H1):Up K M1 H1 QQ Q:=λd M' q v H' a b c=>u d M' q v H' a (i.trans b) c
theorem UpT.go{M1:Mem}{QQ:Bool->Mem->Prop}{Q:Bool->Hp->Prop}(u:UpT K M H QQ Q)(i:Frm M H M1 H1):UpT K M1 H1 QQ Q:=λd M' q H' a b=>u d M' q H' a (i.trans b)
inductive liftE(X:Cx)(B:Bd)(T:bp)(Z:St)(H:Hp)(Q:VK):Prop
 |mk (U:Dl) (M:Mem) (QQ:DK) (s:SR X B U M Z H) (h:T U M QQ) (u:Up X.K M H QQ Q):liftE X B T Z H Q
inductive liftT(X:Cx)(B:Bd)(T:eW)(Z:St)(H:Hp)(Q:Bool->Hp->Prop):Prop
 |mk (U:Dl) (M:Mem) (QQ:Bool->Mem->Prop) (s:SR X B U M Z H) (h:T U M QQ) (u:UpT X.K M H QQ Q):liftT X B T Z H Q
inductive liftA(X:Cx)(B:Bd)(T:fg)(Z:St)(H:Hp)(Q:List V->Hp->Prop):Prop
 |mk (U:Dl) (M:Mem) (QQ:List D->Mem->Prop) (s:SR X B U M Z H) (h:T U M QQ) (u:UpA X.K M H QQ Q):liftA X B T Z H Q
def DE(X:Cx)(B:Bd)(e:fy)(T:bp):Prop:=PE X e (liftE X B T)
def DT(X:Cx)(B:Bd)(e:fy)(T:eW):Prop:=PT X e (liftT X B T)
def DA(X:Cx)(B:Bd)(es:Xb)(T:fg):Prop:=PA X es (liftA X B T)
theorem a_{t t':TE}(h:PE X e t)(w:∀Z H Q,t' Z H Q->t Z H Q):PE X e t':=λa s Z H Q I q=>h a s Z H Q I (w Z H Q q)
theorem pH{t t':TT}(h:PT X e t)(w:∀Z H Q,t' Z H Q->t Z H Q):PT X e t':=λa s Z H Q I q=>h a s Z H Q I (w Z H Q q)
theorem xP{e:Xb}{t t':TA}(h:PA X e t)(w:∀Z H Q,t' Z H Q->t Z H Q):PA X e t':=λpos a s Z H Q I q=>h pos a s Z H Q I (w Z H Q q)
theorem bH{e:rc}{t t':TS}(h:PS X e t)(w:∀D Z H,t' D Z H->t D Z H):PS X e t':=λa s Z H D I q=>h a s Z H D I (w D Z H q)
theorem m4{e:Xc}{t t':TS}(h:xC X e t)(w:∀D Z H,t' D Z H->t D Z H):xC X e t':=λa s Z H D I q=>h a s Z H D I (w D Z H q)
def ac(i:Nat):bp:=λU M Q=>match U[i]? with
 |some (ap d)=>Q d M
 |_=>False
def dC(d:D):bp:=λ_ M Q=>Q d M
section
variable{a b:fy}{ta tb tc:bp}
theorem Le{i:Nat}{x:Str}(j:X.N[i]?=ap x)(m:Lw X.env.scope x)(n:(x==("__debug__":Str))=false:=by decide)(hcd:(x==("__classdict__":Str))=false:=by decide):DE X B (.Name x pos) (ac i):=by
 refine a_ (KD j m n hcd) ?_
 rintro Z H Q ⟨U,M,QQ,s,h,u⟩
 unfold ac at h
 split at h
 .rename_i d e
  obtain⟨v,f,g⟩:=s.rs.get i d e;exact⟨v,f,u d M h v H s.rh Frm.refl g⟩
 .exact h.elim
theorem BG{v:V}{d:D}(h:PE X e (tC v))(r:∀H,Rp X.K H d v):DE X B e (dC d):=by
 refine a_ h ?_
 rintro Z H Q ⟨U,M,QQ,s,h,u⟩
 exact u d M h v H s.rh Frm.refl (r H)
theorem Jo{i j pos}:DE X B (.Constant (.int i) j pos) (dC<|.int i):=BG JV λ_=>rfl
theorem NQ{i j pos}:DE X B (.Constant (.bool i) j pos) (dC<|.bl i):=BG O4 λ_=>rfl
theorem KE{j pos}:DE X B (.Constant .none j pos) (dC .non):=BG HW λ_=>rfl
theorem Km{i j pos}:DE X B (.Constant (.str i) j pos) (dC<|.str i):=BG BA λ_=>rfl
abbrev eU:=D->D->Mem->DK->Prop
inductive liftR2(X:Cx)(r:eU)(x y:V)(H:Hp)(Q:VK):Prop
 |mk (d1 d2:D) (M:Mem) (QQ:DK) (rh:RepH X.K H M) (r1:Rp X.K H d1 x) (r2:Rp X.K H d2 y) (h:r d1 d2 M QQ) (u:Up X.K M H QQ Q):liftR2 X r x y H Q
def ah(r:eU)(ta tb:bp):bp:=λU M Q=>ta U M λx M1=>tb U M1 λy M2=>r x y M2 Q
theorem kU{r:eU}{Q:VK}(h:liftE X B (ah r ta tb) Z H Q):M_ (liftR2 X r) (liftE X B ta) (liftE X B tb) Z H Q:=by
 obtain⟨U,M,QQ,s,h,u⟩:=h;refine⟨U,M,_,s,h,λx M1 j v1 H1 f i1 n=>?_⟩;refine⟨U,M1,_,s.go f i1,j,λy M2 m v2 H2 g i o=>?_⟩;exact⟨x,y,M2,QQ,g,n.mf f i,o,m,u.go<|i1.trans i⟩
theorem fL{f:VR}{r:eU}(i:cC X (hB f) (liftR2 X r))(g:DE X B a ta)(j:DE X B b tb):DE X B (.BinOp a f b pos) (ah r ta tb):=a_ (Oa i g j) λ_ _ _ h=>kU h
theorem JG{f:CmpOp}{r:eU}(i:cC X (kc f) (liftR2 X r))(g:DE X B a ta)(m:DE X B b tb)(j:V6 f b=eC):DE X B (.Compare a [f] [b] pos) (ah r ta tb):=a_ (E7 i g m j) λ_ _ _ h=>kU h
theorem O6{r:eU}(i:IxR X (liftR2 X r))(f:DE X B a ta)(j:DE X B b tb)(g:wt b):DE X B (.Subscript a b pos) (ah r ta tb):=a_ (NR i f j g) λ_ _ _ h=>kU h
def ak(t:bp):eW:=λU M Q=>t U M λd M'=>match d with
 |.bl k=>Q k M'
 |_=>False
theorem cW{f:CmpOp}{r:eU}(o:cC X (kc f) (liftR2 X r))(n:DE X B a ta)(y:DE X B b tb)(w:V6 f b=eC):DT X B (.Compare a [f] [b] pos) (ak<|ah r ta tb):=by
 refine pH (EU o n y w) ?_
 rintro Z H Q ⟨U,M,QQ,s,h,u⟩
 have g:liftE X B (ah r ta tb) Z H (λx H'=>∃k,x=.bl k/\Q k H'):=by
  refine⟨U,M,_,s,h,λd M' q v H' j i m=>?_⟩;cases d with
  |bl k=>exact⟨k,m,u k M' q H' j i⟩
  |_=>exact(show False from q).elim
 exact kU g
def Dt(M:Mem):D->Option Bool
 |.non=>ap eC
 |.bl b=>ap b
 |.int i=>ap (i != 0)
 |.str y=>if y.length<=sizeLine then ap ((y.length:Int) != 0) else cm
 |.tup xs=>ap (!xs.isEmpty)
 |.lst xs=>ap (!xs.isEmpty)
 |.ref a=>match M a with
  |some (.lst xs)=>ap (!xs.isEmpty)
  |some (.dK xs)=>ap (!xs.isEmpty)
  |_=>cm
 |_=>cm
def dg(t:bp):eW:=λU M Q=>t U M λd M'=>match Dt M' d with
 |some k=>Q k M'
 |none=>False
theorem fP{ds:List D}{vs:List V}(r:Rps K H ds vs):vs.isEmpty=ds.isEmpty:=by
 have:=r.length;cases ds<;>cases vs<;>simp_all
theorem IN{d:D}{v:V}{k:Bool}(m:RepH K H M)(r:Rp K H d v)(e:Dt M d=ap k):Ia K v H k:=by
 cases d with
 |non=>cases r;cases e;rfl
 |bl b=>cases r;cases e;rfl
 |int i=>cases r;cases e;rfl
 |str y=>
  cases r;simp only[Dt]at e
  split at e
  .cases e;exact⟨by assumption,rfl⟩
  .cases e
 |ty n=>cases e
 |tup g=>
  obtain⟨p,f,rfl,t,r⟩:=r;cases e;exact .inr (.inl ⟨f,t.sq,by rw[fP r]⟩)
 |mt g=>cases e
 |ml g=>cases e
 |fd _ _=>cases e
 |lst g=>
  obtain⟨p,f,rfl,t,r⟩:=r;cases e;exact .inl ⟨f,t.sq,by rw[fP r]⟩
 |ref a=>
  cases r;simp only[Dt]at e
  split at e
  .rename_i g q
   obtain⟨f,h,j⟩:=m _ _ q;cases e;exact .inl ⟨f,SqL.of h,by rw[fP j]⟩
  .rename_i g q
   obtain⟨f,h,j⟩:=m _ _ q;cases e;refine .inr (.inr ⟨f,h,?_⟩);cases j<;>rfl
  .cases e
theorem JJ(h:DE X B e ta)(m:∀f,WK e X.env f=(do let v <- f;TD e.pos;tm [v] (truthy v)):=by intro _;rfl):DT X B e (dg ta):=by
 refine pH (Bl h m) ?_
 rintro Z H Q ⟨U,M,QQ,s,h,u⟩
 refine⟨U,M,_,s,h,λd M' q v H' g i j=>?_⟩
 split at q
 .rename_i k e
  exact⟨k,IN g j e,u k M' q H' g i⟩
 .exact q.elim
def h8(t:eW):eW:=λU M Q=>t U M λc M1=>Q (!c) M1
theorem IW{f:eW}(j:DT X B a f):DT X B (.UnaryOp .Not a pos) (h8 f):=by
 refine pH (KN j) ?_
 rintro Z H Q ⟨U,M,QQ,s,h,u⟩
 exact⟨U,M,_,s,h,λc M' q H' g i=>u _ M' q H' g i⟩
end
section
variable{a b:fy}{ta tb tc:bp}{tA tB':eW}{rest:Xb}
def DW(X:Cx)(B:Bd)(e:fy)(T:eW):Prop:=PW X e (liftT X B T)
theorem Oj{T:eW}(h:DW X B e T):DT X B e T:=Om h
theorem yD{t t':TT}(h:PW X e t)(w:∀Z H Q,t' Z H Q->t Z H Q):PW X e t':=λg f s Z H Q I q=>h g f s Z H Q I (w Z H Q q)
def vY(t u:eW):eW:=λU M Q=>t U M λc M1=>if c=true then u U M1 Q else Q eC M1
def A6(t u:eW):eW:=λU M Q=>t U M λc M1=>if c=true then Q true M1 else u U M1 Q
theorem EY(f:DT X B a tA):DW X B (.BoolOp .And [a] pos) tA:=Eo f
theorem Jq(f:DT X B a tA):DW X B (.BoolOp .Or [a] pos) tA:=IV f
theorem JN(g:DT X B a tA)(j:DW X B (.BoolOp .And (b::rest) pos) tB'):DW X B (.BoolOp .And (a::b::rest) pos) (vY tA tB'):=by
 refine yD (JL g j) ?_
 rintro Z H Q ⟨U,M,QQ,s,h,u⟩
 refine⟨U,M,_,s,h,λc M' q H' f i=>?_⟩;cases c with
 |true=>rw[if_pos rfl]at q ⊢;exact⟨U,M',QQ,s.go f i,q,u.go i⟩
 |false=>rw[if_neg OS]at q ⊢;exact u _ M' q H' f i
theorem MV(g:DT X B a tA)(j:DW X B (.BoolOp .Or (b::rest) pos) tB'):DW X B (.BoolOp .Or (a::b::rest) pos) (A6 tA tB'):=by
 refine yD (Mr g j) ?_
 rintro Z H Q ⟨U,M,QQ,s,h,u⟩
 refine⟨U,M,_,s,h,λc M' q H' f i=>?_⟩;cases c with
 |false=>rw[if_neg OS]at q ⊢;exact⟨U,M',QQ,s.go f i,q,u.go i⟩
 |true=>rw[if_pos rfl]at q ⊢;exact u _ M' q H' f i
def nI(t:eW)(ta tb:bp):bp:=λU M Q=>t U M λc M1=>if c=true then ta U M1 Q else tb U M1 Q
theorem Cq(j:DT X B c tA)(g:DE X B a ta)(m:DE X B b tb):DE X B (.IfExp c a b pos) (nI tA ta tb):=by
 refine a_ (Cs j g m) ?_
 rintro Z H Q ⟨U,M,QQ,s,h,u⟩
 refine⟨U,M,_,s,h,λc M' q H' f i=>?_⟩;cases c with
 |true=>rw[if_pos rfl]at q ⊢;exact⟨U,M',QQ,s.go f i,q,u.go i⟩
 |false=>rw[if_neg OS]at q ⊢;exact⟨U,M',QQ,s.go f i,q,u.go i⟩
variable{es:Xb}{te:bp}{t:fg}
def af:fg:=λ_ M Q=>Q [] M
def aa(ta:bp)(tr:fg):fg:=λU M Q=>ta U M λx M1=>tr U M1 λf M2=>Q (x::f) M2
theorem J1:DA X B [] af:=by
 refine xP Bt ?_
 rintro Z H Q ⟨U,M,QQ,s,h,u⟩
 exact u [] M h [] H s.rh Frm.refl .nil
theorem E5(v:DE X B e te)(y:DA X B es t)(w:fe (e::es) X.env=(eC,gp e X.env)::fe es X.env:=by rfl):DA X B (e::es) (aa te t):=by
 refine xP (wV v y w) ?_
 rintro Z H Q ⟨U,M,QQ,s,h,u⟩
 refine⟨U,M,_,s,h,λx M1 m v1 H1 f j o=>?_⟩;refine⟨U,M1,_,s.go f j,m,λz M2 n v2 H2 g i q=>?_⟩;exact u _ M2 n _ H2 g (j.trans i) (.cons (o.mf f i) q)
def aK(t:fg):bp:=λU M Q=>t U M λf M1=>f.length<=sizeLine/\Q (.tup f) M1
def bO(t:fg):bp:=λU M Q=>t U M λf M1=>f.length<=sizeLine/\∀p,M1 p=cm->Q (.ref p) (M1.upd p<|.lst f)
theorem J5{x1}(h:DA X B es t):DE X B (.Tuple es x1 pos) (aK t):=by
 refine a_ (IA h) ?_
 rintro Z H Q ⟨U,M,QQ,s,h,u⟩
 refine⟨U,M,_,s,h,λn M1 i v1 H1 f m j=>⟨by rw[<- j.length];exact i.1,λp g=>?_⟩⟩
 exact u _ M1 i.2 _ _ (f.new g) (m.trans<|Frm.new g) ⟨p,v1,rfl,upd_same,j.mono<|Imm.new g⟩
theorem K_(h:DA X B es t):DE X B (.List es pos) (bO t):=by
 refine a_ (J9 h) ?_
 rintro Z H Q ⟨U,M,QQ,s,h,u⟩
 refine⟨U,M,_,s,h,λxs M1 h1 v1 H1 rh1 i1 r1=>⟨by rw[<- r1.length];exact h1.1,λp hp=>?_⟩⟩
 exact u _ _ (h1.2 p<|rh1.fresh hp) _ _ (rh1.put (by rw[hp];trivial) ⟨v1,upd_same,r1.mono<|Imm.new hp⟩) (i1.trans<|Frm.put<|.inl hp) rfl
theorem Inv.freeze{g:Xe}{Z:_2.St}{s:el}{vs:List V}(I:Inv X g Z H s)(h:H p=ap (.lst vs)):∃o,Inv X g Z (upd H p<|.frz o<|.lst vs) s:=by
 obtain⟨i,n,r,e,z⟩:=I.lst h;have ne:∀{b:eg}{u:Option HO},H b=u->u≠ap (.lst vs)->b≠p:=λ{b u} q w z=>by subst z;rw[h]at q;exact w q.symm
 refine⟨{ cls:=.type "list",data:=.seq i.toArray n },I.ok,I.os,I.bare,⟨I.base.keep,I.base.slot,λb o q L E=>?_,I.base.there,λb j q=>?_,λb o u q=>?_,λb A q=>?_⟩,I.loc,I.cell,?_,λx c q=>?_,λC G=>?_,λb o q=>?_,I.len⟩
 .have f:=I.base.free b o q L E
  rw[aM (ne f<|by simp)];exact f
 .have f:=I.base.tups b j q
  rw[aM (ne f<|by simp)];exact f
 .have f:=I.base.frzs b o u q
  rw[aM (ne f<|by simp)];exact f
 .obtain⟨more,f⟩:=I.base.tbls b A q
  exact⟨more,by rw[aM (ne f<|by simp)];exact f⟩
 .rw[aM (ne I.free<|by simp)];exact I.free
 .have f:=I.freeC x c q
  rw[aM (ne f<|by simp)];exact f
 .obtain⟨F,m,J⟩:=I.pin C G
  exact⟨F,by rw[aM (ne m<|by simp)];exact m,J⟩
 .by_cases v:b=p
  .subst v
   rw[upd_same]at q;cases q;refine⟨e,?_⟩;exact⟨z,i,n,r,e⟩
  .rw[aM v]at q
   refine (I.hok b o q).stay (λ_ _ _ y=>y) (λc y=>?_) λc j y=>?_
   .rw[aM (ne y<|by simp)];exact y
   .rw[aM (ne y<|by simp)];exact y
def frz(d:D)(M:Mem)(Q:DK):Prop:=match d with
 |.ref a=>match M a with
  |some (.lst xs)=>Q (.lst xs) (M.del a)
  |_=>Q d M
 |_=>Q d M
def ao(t:bp):bp:=λU M Q=>t U M λd M'=>frz d M' Q
theorem RepH.freeze{vs:List V}{o:Obj}(r:RepH K H M)(h:H p=ap (.lst vs)):RepH K (upd H p<|.frz o<|.lst vs) (M.del p):=λb u e=>by
 unfold Mem.del at e
 split at e
 .cases e
 .rename_i hb
  exact(r b u e).keep (Imm.upd<|by rw[h];trivial) (aM hb)
theorem JE(h:DE X B e te):DE X B e (ao te):=by
 intro g s Z H Q I x;obtain⟨U,M,QQ,n,z,u⟩:=x;refine br (h g s Z H (λv H'=>∃d M',RepH X.K H' M'/\Frm M H M' H'/\Rp X.K H' d v/\frz d M' QQ) I ⟨U,M,_,n,z,λd M' q v H' f i r=>⟨d,M',f,i,r,q⟩⟩) ?_
 rintro w C ⟨v,H',I',m,d,M',f,i,r,q⟩
 unfold frz at q
 split at q
 .rename_i a
  split at q
  .rename_i E e
   obtain⟨A,j,y⟩:=f _ _ e;obtain⟨o,I2⟩:=Inv.freeze I' j;refine⟨v,_,I2,m,u _ _ q v _ (f.freeze j) (i.trans<|Frm.del ⟨_,e⟩) ?_⟩;exact⟨a,A,r,⟨o,upd_same⟩,y.mono<|Imm.upd<|by rw[j];trivial⟩
  .exact⟨v,H',I',m,u _ _ q v H' f i r⟩
 .exact⟨v,H',I',m,u _ _ q v H' f i r⟩
end
def gO(M:Mem):D->Option (List D)
 |.lst xs=>ap xs
 |.ref a=>match M a with
  |some (.lst xs)=>ap xs
  |_=>cm
 |_=>cm
def aI(M:Mem):D->Option (List D)
 |.tup xs=>ap xs
 |.lst xs=>ap xs
 |.mt xs=>ap xs
 |.ml xs=>ap xs
 |.ref a=>match M a with
  |some (.lst xs)=>ap xs
  |_=>cm
 |_=>cm
section
variable{d:D}{v:V}{xs:List D}
theorem i_(i:RepH K H M)(r:Rp K H d v)(e:gO M d=ap xs):∃p vs,v=.ref p/\Rd H p (.lst vs)/\Rps K H xs vs:=by
 cases d with
 |lst g=>
  cases e;obtain⟨p,vs,rfl,⟨o,h⟩,r⟩:=r;exact⟨p,vs,rfl,.inr ⟨o,h⟩,r⟩
 |ref a=>
  simp only[gO]at e
  split at e
  .rename_i g q
   cases e;obtain⟨vs,b,f⟩:=i _ _ q;exact⟨a,vs,r,.inl b,f⟩
  .cases e
 |_=>cases e
theorem ir(i:RepH K H M)(r:Rp K H d v)(e:aI M d=ap xs):∃p vs,v=.ref p/\(SqL K H p vs\/i7 K H p vs)/\Rps K H xs vs:=by
 cases d with
 |tup b=>
  cases e;obtain⟨p,vs,rfl,h,r⟩:=r;exact⟨p,vs,rfl,.inr h.sq,r⟩
 |lst b=>
  cases e;obtain⟨p,vs,rfl,h,r⟩:=r;exact⟨p,vs,rfl,.inl h.sq,r⟩
 |mt b=>
  cases e;obtain⟨p,vs,rfl,h,r⟩:=r;exact⟨p,vs,rfl,.inr h.sq,r⟩
 |ml b=>
  cases e;obtain⟨p,vs,rfl,h,r⟩:=r;exact⟨p,vs,rfl,.inl h.sq,r⟩
 |ref a=>
  simp only[aI]at e
  split at e
  .rename_i b q
   cases e;obtain⟨vs,f,g⟩:=i _ _ q;exact⟨a,vs,r,.inl (SqL.of f),g⟩
  .cases e
 |_=>cases e
theorem EZ:cC X (hB .Add) (λx y H Q=>∃l b xs zs,x=.ref l/\y=.ref b/\Rd H l (.lst xs)/\Rd H b (.lst zs)/\xs.length+zs.length<=sizeLine/\∀p,H p=cm->Q (.ref p) (upd H p<|.lst (xs++zs))):=by
 intro i s Z H x y v u Q I A E h;obtain⟨l,b,xs,zs,rfl,rfl,m,o,L,q⟩:=h;cases A;cases E;obtain⟨z,f,n,r,e⟩:=m.ok I.hok;obtain⟨F,a,J,g,j⟩:=o.ok I.hok;have G:=r.length;have w:=g.length;refine PySem.P.add_list e j ?_ (by rw[OB,OB];lia)
 have C:f.toArray++a.toArray=(f++a).toArray:=by simp
 rw[C];exact⟨.ref _,_,I.lnew (t':=s.toks) (r.append g) (by rw[OG];lia),rfl,q _ I.fresh⟩
def aW:eU:=λx y M Q=>match x,y with
 |.int i,.int j=>Q (.int (i+j)) M
 |.str a,.str b=>a.length+b.length<=sizeLine/\Q (.str (a++b)) M
 |.tup xs,.tup ys=>xs.length+ys.length<=sizeLine/\Q (.tup (xs++ys)) M
 |x,y=>match gO M x,gO M y with
  |some xs,ap ys=>xs.length+ys.length<=sizeLine/\∀p,M p=cm->Q (.ref p) (M.upd p<|.lst (xs++ys))
  |_,_=>False
theorem DP:cC X (hB .Add) (liftR2 X aW):=by
 intro WZ s Z H x y v u Q I rx ry h;obtain⟨d1,d2,M,QQ,rh,r1,r2,h,up⟩:=h;unfold aW at h
 split at h
 .cases r1;cases r2
  exact Kb WZ s Z H _ _ v u Q I rx ry ⟨_,_,rfl,rfl,up _ M h _ H rh Frm.refl rfl⟩
 .cases r1;cases r2
  exact vC WZ s Z H _ _ v u Q I rx ry ⟨_,_,rfl,rfl,h.1,up _ M h.2 _ H rh Frm.refl rfl⟩
 .obtain⟨p,vs,rfl,t1,r1⟩:=r1
  obtain⟨p',vs',rfl,t2,r2⟩:=r2;have l1:=r1.length;have l2:=r2.length;have r12:=r1.append r2
  by_cases hx:vs=[]
  .subst hx
   have hu:=up _ M h.2 (.ref p') H rh Frm.refl ⟨p',vs',rfl,t2,r12⟩;exact Cd WZ s Z H _ _ v u Q I rx ry ⟨p,p',vs',rfl,rfl,t1.sq,t2.sq,hu⟩
  .refine FD WZ s Z H _ _ v u Q I rx ry ⟨p,p',vs,vs',rfl,rfl,t1.sq,t2.sq,hx,by lia,λe=>?_,λ_ q hq=>?_⟩
   .subst e
    rw[Pm]at r12;exact up _ M h.2 (.ref p) H rh Frm.refl ⟨p,vs,rfl,t1,r12⟩
   .exact up _ M h.2 _ _ (rh.new hq) (Frm.new hq) ⟨q,_,rfl,upd_same,r12.mono<|Imm.new hq⟩
 .split at h
  .rename_i xs ys e1 e2
   obtain⟨p,vs,rfl,t1,r1⟩:=i_ rh r1 e1;obtain⟨p',vs',rfl,t2,r2⟩:=i_ rh r2 e2;have l1:=r1.length;have l2:=r2.length;refine EZ WZ s Z H _ _ v u Q I rx ry ⟨p,p',vs,vs',rfl,rfl,t1,t2,by lia,λq hq=>?_⟩
   exact up _ _ (h.2 q<|rh.fresh hq) _ _ (rh.put (by rw[hq];trivial) ⟨_,upd_same,(r1.append r2).mono<|Imm.new hq⟩) (Frm.put<|.inl hq) rfl
  .exact h.elim
def oI(C:Int->Int->Prop)(g:Int->Int->D):eU:=λx y M Q=>match x,y with
 |.int i,.int j=>C i j/\Q (g i j) M
 |_,_=>False
theorem AS{f:ay->ay->Sem ay}{C:Int->Int->Prop}{g:Int->Int->V}{g':Int->Int->D}(h:cC X f (rI C g))(e:∀i j K H,Rp K H (g' i j) (g i j)):cC X f (liftR2 X<|oI C g'):=by
 intro b s Z H x y v u Q I w z a;obtain⟨E,A,M,QQ,o,m,n,a,q⟩:=a;unfold oI at a
 split at a
 .cases m;cases n
  exact h b s Z H _ _ v u Q I w z ⟨_,_,rfl,rfl,a.1,q _ M a.2 _ H o Frm.refl<|e _ _ _ _⟩
 .exact a.elim
def j7(g:Int->Int->D):eU:=λx y M Q=>match x,y with
 |.int i,.int j=>Q (g i j) M
 |_,_=>False
theorem jJ{f:ay->ay->Sem ay}{g:Int->Int->V}{g':Int->Int->D}(h:cC X f (A7 g))(e:∀i j K H,Rp K H (g' i j) (g i j)):cC X f (liftR2 X<|j7 g'):=by
 intro b s Z H x y v u Q I w z a;obtain⟨C,A,M,QQ,o,m,n,a,q⟩:=a;unfold j7 at a
 split at a
 .cases m;cases n
  exact h b s Z H _ _ v u Q I w z ⟨_,_,rfl,rfl,q _ M a _ H o Frm.refl<|e _ _ _ _⟩
 .exact a.elim
abbrev fF:eU:=j7 λi j=>.int (i-j)
theorem Ea:cC X (hB .Sub) (liftR2 X fF):=jJ Kg λ_ _ _ _=>rfl
abbrev cZ:eU:=oI (λ_ j=>0<j) λi j=>.int (i % j)
theorem EO:cC X (hB .Mod) (liftR2 X cZ):=AS Lh λ_ _ _ _=>rfl
def xF(_ j:Int):Prop:=0<j/\j<2 ^ 200
theorem AA:cC X (hB .FloorDiv) (rI xF λi j=>.int (i / j)):=by
 intro a s Z H x y v u Q I o w h;obtain⟨i,j,rfl,rfl,g,q⟩:=h;obtain⟨z,m⟩:=g;have f:((j.toNat:Nat):Int)=j:=by lia
 refine AN (n:=j.toNat) ?_ (by lia) a s Z H _ _ v u Q I o w ⟨i,j,rfl,rfl,f.symm,q⟩
 have b:j.toNat<2 ^ 200:=by
  have:((j.toNat:Nat):Int)<((2 ^ 200:Nat):Int):=by rw[f,Int.natCast_pow];exact m
  exact Int.ofNat_lt.mp this
 have:=(UN (n:=j.toNat) (k:=200)<|by lia).mpr b
 lia
abbrev gY:eU:=oI xF λi j=>.int (i / j)
theorem BH:cC X (hB .FloorDiv) (liftR2 X gY):=AS AA λ_ _ _ _=>rfl
abbrev JI:eU:=oI E4 λi j=>.int (i ^ j.toNat)
theorem FI:cC X (hB .Pow) (liftR2 X JI):=AS J_ λ_ _ _ _=>rfl
abbrev Mv:eU:=j7 λi j=>.int (Builtin.bitXor i j)
theorem DB:cC X (hB .BitXor) (liftR2 X Mv):=jJ Jt λ_ _ _ _=>rfl
abbrev J2:eU:=j7 λi j=>.int (Ru i j)
theorem Dv:cC X (hB .BitAnd) (liftR2 X J2):=jJ Iq λ_ _ _ _=>rfl
abbrev oOr:eU:=j7 λi j=>.int (Sj i j)
theorem Ir:cC X (hB .BitOr) (liftR2 X oOr):=jJ Mm λ_ _ _ _=>rfl
abbrev K0:eU:=oI E4 λi j=>.int (i*2 ^ j.toNat)
theorem DM:cC X (hB .LShift) (liftR2 X K0):=AS H_ λ_ _ _ _=>rfl
abbrev KO:eU:=oI (λ_ j=>0<=j) λi j=>.int (i / 2 ^ j.toNat)
theorem FX:cC X (hB .RShift) (liftR2 X KO):=AS Lb λ_ _ _ _=>rfl
abbrev uJ:eU:=j7 λi j=>.bl (decide (i<j))
theorem Ka:cC X (kc .Lt) (liftR2 X uJ):=jJ N4 λ_ _ _ _=>rfl
abbrev oLe:eU:=j7 λi j=>.bl (decide (i<=j))
theorem JQ:cC X (kc .LtE) (liftR2 X oLe):=jJ Of λ_ _ _ _=>rfl
abbrev sy:eU:=j7 λi j=>.bl (decide (j<i))
theorem IS:cC X (kc .Gt) (liftR2 X sy):=jJ Mi λ_ _ _ _=>rfl
abbrev oGe:eU:=j7 λi j=>.bl (decide (j<=i))
theorem Jm:cC X (kc .GtE) (liftR2 X oGe):=jJ NU λ_ _ _ _=>rfl
theorem C0{c:Nat}:∀(k:Nat)(W2:Array Nat),(OZ k #[c]).foldl (·++·) W2=W2++Qv k c
 |0,W2=>by simp
 |k+1,W2=>by
  rw[PD,Pu,C0 k (W2++#[c])];apply Array.ext';simp[PD]
theorem Aw:cC X (hB .Mult) (λx y H Q=>∃c k,x=.str ⟨#[c]⟩/\y=.int k/\1<=k/\k<=1000/\Q (.str ⟨Qv k.toNat c⟩) H):=by
 intro g s Z H x y v u Q I m n h;obtain⟨c,k,rfl,rfl,w,z,q⟩:=h;obtain⟨t,rfl⟩:=m;obtain⟨o,rfl⟩:=n;have a:(⟨#[c]⟩:Str).length=1:=rfl;have j:sizeLine=16777216:=rfl;refine PySem.P.mul_str ?_ ?_ ?_ ?_
 .rw[decide_eq_false (by lia),decide_eq_false (by lia)];rfl
 .intro _ _ i
  rw[a]at i;have:(1:Int)<=(2 ^ 63-1) / k:=Int.le_ediv_of_mul_le (by lia) (by lia)
  lia
 .intro _ _
  rw[a];unfold PySem.Builtin.Str.tooLong;exact decide_eq_false (by lia)
 .rw[if_neg (by lia)]
  by_cases b:k=1
  .rw[if_pos (by rw[b];rfl)]
   subst b;exact⟨.str ⟨#[c]⟩,H,I,⟨_,rfl⟩,q⟩
  .rw[if_neg (by simp[a,b])]
   have f:(OZ k.toNat #[c]).foldl (·++·) #[]=Qv k.toNat c:=by rw[C0];simp
   refine⟨?_,.str ⟨(OZ k.toNat #[c]).foldl (·++·) #[]⟩,H,I.tok _,⟨_,rfl⟩,by rw[f];exact q⟩
   show ((OZ k.toNat #[c]).foldl (·++·) #[]).size<=sizeLine;rw[f];simp;lia
def cG:eU:=λx y M Q=>match x,y with
 |.int i,.int j=>CMul i j/\Q (.int (i*j)) M
 |.str z,.int k=>match z.cps.toList with
  |[c]=>1<=k/\k<=1000/\Q (.str ⟨Qv k.toNat c⟩) M
  |_=>False
 |.tup xs,.int k=>xs≠[]/\0<=k/\k<=1000/\xs.length<=1000/\Q (.tup (OZ k.toNat xs).flatten) M
 |_,_=>False
theorem Rps.rep{ds:List D}{vs:List V}(h:Rps K H ds vs):∀k:Nat,Rps K H (OZ k ds).flatten (OZ k vs).flatten
 |0=>rfl
 |k+1=>by
  rw[PD,PD,QD,QD];exact h.append (Rps.rep h k)
theorem FA:cC X (hB .Mult) (liftR2 X cG):=by
 intro a s Z H x y v u Q I C F h;obtain⟨Y,A,M,QQ,m,f,q,h,n⟩:=h;cases Y with
 |int i=>
  cases A with
  |int j=>
   cases f;cases q;exact Jx a s Z H _ _ v u Q I C F ⟨_,_,rfl,rfl,h.1,n _ M h.2 _ H m Frm.refl rfl⟩
  |_=>exact(show False from h).elim
 |str z=>
  cases A with
  |int k=>
   cases f;cases q;simp only[cG]at h
   split at h
   .rename_i c e
    have O:z=⟨#[c]⟩:=by
     obtain⟨⟨l⟩⟩:=z;have S:l=[c]:=e;rw[S]
    subst O;exact Aw a s Z H _ _ v u Q I C F ⟨_,_,rfl,rfl,h.1,h.2.1,n _ M h.2.2 _ H m Frm.refl rfl⟩
   .exact h.elim
  |_=>exact(show False from h).elim
 |tup xs=>
  cases A with
  |int k=>
   obtain⟨p,g,rfl,L,f⟩:=f;cases q;obtain⟨E,R,W,h4,J⟩:=h;have l1:=f.length;obtain⟨t,rfl⟩:=F;cases C;obtain⟨w,r,T,_⟩:=I.tuple L.sq;have hl:=r.length;refine zC T (λz=>E ?_) R W (by lia) (λe=>?_) λe=>?_
   .have N:w.length=0:=congrArg QI z
    exact Tc (by lia)
   .subst e
    refine⟨.ref p,H,I,rfl,n _ M J _ H m Frm.refl ⟨p,g,rfl,L,?_⟩⟩;simpa using f
   .have G:H s.heap.objs.size=none:=I.hok.fresh (Oz _)
    have N:(OZ k.toNat g).flatten.length<=sizeLine:=by
     rw[EM];have E:k.toNat*g.length<=1000*1000:=Sn (by lia) (by lia)
     exact OQ E (by decide)
    have P:Imm H (upd H s.heap.objs.size<|.tup (OZ k.toNat g).flatten):=Imm.new G;exact⟨.ref s.heap.objs.size,_,I.laid (t':=s.toks) (o:=.tup (OZ k.toNat g).flatten) (λb ob z=>Oq _ z) (Oz _) ⟨N,_,r.rep k.toNat,⟨_,OD _ rfl,⟨rfl,_,rfl⟩,rfl⟩⟩,rfl,
     n _ M J _ _ (m.new G) (Frm.new G) ⟨_,_,rfl,upd_same,(f.rep _).mono P⟩⟩
  |_=>exact(show False from h).elim
 |_=>exact(show False from h).elim
def ie:D->Bool
 |.non=>true
 |_=>eC
def ja:eU:=λx y M Q=>match y with
 |.non=>Q (.bl<|ie x) M
 |_=>False
def gW:eU:=λx y M Q=>match y with
 |.non=>Q (.bl<|!ie x) M
 |_=>False
theorem De(r:Rp K H d v):decide (v=V.non)=ie d:=by
 cases d with
 |non=>cases r;rfl
 |tup xs=>obtain⟨p,a,rfl,_⟩:=r;rfl
 |lst xs=>obtain⟨p,a,rfl,_⟩:=r;rfl
 |mt xs=>obtain⟨p,a,rfl,_⟩:=r;rfl
 |ml xs=>obtain⟨p,a,rfl,_⟩:=r;rfl
 |fd ks xs=>obtain⟨p,a,rfl,_⟩:=r;rfl
 |_=>cases r;rfl
theorem FF:cC X (kc .Is) (liftR2 X ja):=by
 intro a s Z H x y v u Q I j m h;obtain⟨o,n,M,QQ,g,b,f,h,i⟩:=h;unfold ja at h
 split at h
 .cases f
  exact Iy a s Z H _ _ v u Q I j m ⟨rfl,by rw[De b];exact i _ M h _ H g Frm.refl rfl⟩
 .exact h.elim
theorem Dg:cC X (kc .IsNot) (liftR2 X gW):=by
 intro a s Z H x y v u Q I j m h;obtain⟨o,n,M,QQ,g,b,f,h,i⟩:=h;unfold gW at h
 split at h
 .cases f
  refine F2 a s Z H _ _ v u Q I j m ⟨rfl,i _ M h _ H g Frm.refl ?_⟩;show _=V.bl _;rw[De b]
 .exact h.elim
end
section
variable{κ:Type}[DecidableEq κ]
def cM(W1:List (κ×D))(k:κ):Option D:=(W1.find? λa=>decide (a.1=k)).map (·.2)
def eD(W1:List (κ×D))(k:κ)(v:D):List (κ×D):=
 if (W1.any λa=>decide (a.1=k))=true then W1.map (λa=>if a.1=k then (a.1,v) else a) else W1++[(k,v)]
def oK(W1:List (κ×D))(k:κ):List (κ×D):=W1.filter λa=>decide (a.1≠k)
theorem Rkv.val{a:List (κ×D)}{f:List (κ×V)}(h:Rkv K H a f)(k:κ):(cM a k=cm/\dQ f k=cm)\/∃d v,cM a k=ap d/\dQ f k=ap v/\Rp K H d v:=by
 induction h with
 |nil=>exact .inl ⟨rfl,rfl⟩
 |@cons p q ps qs r t ih=>
  obtain⟨g,d⟩:=p;obtain⟨i,v⟩:=q;obtain⟨e,r⟩:=r;dsimp only at e r;subst e
  by_cases b:g=k
  .exact .inr ⟨d,v,by simp[cM,b],by simp[dQ,b],r⟩
  .simpa [cM,dQ,b] using ih
theorem Rkv.any{a:List (κ×D)}{b:List (κ×V)}(h:Rkv K H a b)(k:κ):(a.any λkv=>decide (kv.1=k))=(b.any λkv=>decide (kv.1=k)):=by
 induction h with
 |nil=>rfl
 |cons r t ih=>rw[Qi,Qi,ih,r.1]
theorem Rkv.put{a:List (κ×D)}{g:List (κ×V)}(h:Rkv K H a g)(k:κ){d:D}{v:V}(r:Rp K H d v):Rkv K H (eD a k d) (cL g k v):=by
 unfold eD cL;rw[h.any k]
 split
 .rename_i q;clear q
  induction h with
  |nil=>exact .nil
  |@cons p q ps qs rr t ih=>
   obtain⟨i,j⟩:=p;obtain⟨n,m⟩:=q;obtain⟨e,f⟩:=rr;dsimp only at e f;subst e;rw[Ou,Ou];refine .cons ?_ ih
   by_cases b:i=k
   .rw[if_pos b,if_pos b];exact⟨rfl,r⟩
   .rw[if_neg b,if_neg b];exact⟨rfl,f⟩
 .rename_i q;clear q
  induction h with
  |nil=>exact .cons ⟨rfl,r⟩ .nil
  |cons rr t ih=>exact .cons rr ih
theorem Rkv.drop{a:List (κ×D)}{g:List (κ×V)}(h:Rkv K H a g)(k:κ):Rkv K H (oK a k) (g_ g k):=by
 unfold oK g_
 induction h with
 |nil=>exact .nil
 |@cons p q ps qs rr t ih=>
  obtain⟨i,m⟩:=p;obtain⟨n,j⟩:=q;obtain⟨e,b⟩:=rr;dsimp only at e b;subst e
  by_cases f:i=k
  .simpa [f] using ih
  .simp only[Pb,ne_eq,f,not_false_eq_true,decide_true,if_true]
   exact .cons ⟨rfl,b⟩ ih
theorem Rkv.length{a:List (κ×D)}{b:List (κ×V)}(h:Rkv K H a b):a.length=b.length:=P6 h
end
def cH:D->Option aF
 |.int i=>ap (.inl i)
 |.str x=>ap (.inr x)
 |_=>cm
def h9:List D->Option (List aF)
 |[]=>ap []
 |d::ds=>match cH d,h9 ds with
  |some k,ap ks=>ap (k::ks)
  |_,_=>cm
def Ic:D->Option (List aF)
 |.tup xs=>h9 xs
 |_=>cm
section
theorem gu{d:D}{v:V}{k:aF}(r:Rp K H d v)(e:cH d=ap k):v=kV k:=by
 cases d with
 |int i=>cases e;exact r
 |str x=>cases e;exact r
 |_=>cases e
theorem lP:∀{ds:List D}{vs:List V}{ks:List aF},Rps K H ds vs->h9 ds=ap ks->vs=ks.map kV
 |[],vs,ks,r,e=>by cases e;exact r
 |d::ds,vs,ks,r,e=>by
  obtain⟨v,i,rfl,a,b⟩:=r;simp only[h9]at e
  split at e
  .rename_i k g h f
   cases e;rw[gu a h,lP b f];rfl
  .cases e
def qK(M:Mem)(a:eg)(y:D):Option (Option D):=match M a with
 |some (.dK W1)=>match cH y with
  |some k=>ap (cM W1 k)
  |none=>cm
 |some (.dT W1)=>match Ic y with
  |some k=>ap (cM W1 k)
  |none=>cm
 |_=>cm
theorem tJ{d:D}{v:V}{ks:List aF}(r:Rp K H d v)(e:Ic d=ap ks):∃b,v=.ref b/\H b=ap (.tup<|ks.map kV):=by
 cases d with
 |tup xs=>
  obtain⟨p,a,rfl,t,r⟩:=r;exact⟨p,rfl,by rw[<- lP r e];exact t⟩
 |_=>cases e
theorem kW{a:eg}{y:D}{v:V}{o:Option D}(s:RepH K H M)(r:Rp K H y v)(e:qK M a y=ap o):
  (o=cm/\DGet H a v cm)\/∃d w,o=ap d/\DGet H a v (ap w)/\Rp K H d w:=by
 unfold qK at e
 split at e
 .rename_i n m
  obtain⟨x,h,j⟩:=s _ _ m
  split at e
  .rename_i k i
   cases e;have u:=gu r i;subst u;rcases j.val k with⟨g,f⟩|⟨d,w,g,f,r'⟩
   .exact .inl ⟨g,by rw[<- f];exact DGet.k h⟩
   .exact .inr ⟨d,w,g,by rw[<- f];exact DGet.k h,r'⟩
  .cases e
 .rename_i n m
  obtain⟨x,h,j⟩:=s _ _ m
  split at e
  .rename_i k i
   cases e;obtain⟨b,rfl,q⟩:=tJ r i;rcases j.val k with⟨g,f⟩|⟨d,w,g,f,r'⟩
   .exact .inl ⟨g,by rw[<- f];exact DGet.t h q⟩
   .exact .inr ⟨d,w,g,by rw[<- f];exact DGet.t h q,r'⟩
  .cases e
 .cases e
end
end _3
namespace HT
open PySem PyProof.Rows
section
variable {prog:fx}{w:g3}{A:ix}{E:Xd}{s:el}
theorem gI{t j:eg}{items:Xg}{o n:ay}{a e:Option Int}{Q:Xd}(c:Wg s.heap t items)(p:s.heap.IsSliceOf j o n .none)(pl:V2 o a)(x:V2 n e)
  (q:sIx items.size 0 a=0/\sIx items.size items.size e=items.size) (h:Q (.ref t) s):eH (ff prog w) A (VT (.ref t)<|.ref j) Q E s:=by
 obtain⟨v,i,g,u⟩:=id p;have f:s.TypeIs (.ref j) "slice":=⟨v,i,g⟩;unfold VT
 try with_reducible refine n7 ?_
 first|refine ax (eX ?_)|skip
 refine ax (wpAny_sequenceKey c.typeIs (by decide) ?_)
 refine ax (wpAny_callSpecial?_slot (name:=PH "__getitem__") c.typeIs PB
  (kr PB c.typeIs entry_tuple_getitem ?_<|args_tuple_getitem _ _))
 show eH _ _ (Sr (.ref t) >>= _) _ _ s;refine ax (tupleItemsOf_ c ?_);refine ax (PP f ?_);rw[if_pos (by decide)]
 refine ax (eM p pl x ?_);have b:((((sIx items.size 0 a:Nat):Int)==0&&(1:Int)==1&&(sIx items.size items.size e-sIx items.size 0 a)==items.size)=true):=by
  rw[q.1,q.2];simp
 show eH _ _ (if (((sIx items.size 0 a:Nat):Int)==0&&(1:Int)==1&&(sIx items.size items.size e-sIx items.size 0 a)==items.size)=true then _ else _) _ _ s
 rw[if_pos b];refine ax (m:=Builtin.Tuple.tupleIsExact _) (ax<|wpAny_typeOf c.typeIs<|wpAny_pure ?_);rw[if_pos (by decide)]
 first
  |exact ax (z5<|wpAny_bind<|wpAny_pure<|wpAny_pure ⟨_,rfl,eX h⟩)
  |exact ax (z5<|wpAny_pure ⟨_,rfl,eX h⟩)
  |exact ax (z5<|wpAny_bind<|wpAny_pure ⟨_,rfl,eX h⟩)
  |trace_state
end
end HT
namespace _3
open PySem _2
variable{p p':eg}{A:ix}{a b:Xg}{B:Bd}{X:Cx}{c e tg:fy}{H:Hp}{Z:_2.St}{es:Xb}{W5 its':W9}{M:Mem}{i n:Nat}{K:Ow}{pos pos':Pos}{s:el}{x:Str}{u:ay}{tb:aD}{te:bp}{g:j8}
section
variable{a b:fy}{ta tb tc:bp}
def au:eU:=λx y M Q=>match aI M x,y with
 |some xs,.int i=>match atI xs i with
  |some d=>Q d M
  |none=>False
 |some _,_=>False
 |none,y=>match x,y with
  |.str z,.int i=>z.length<=sizeLine/\match atI z.cps.toList i with
   |some c=>Q (.str ⟨#[c]⟩) M
   |none=>False
  |.ref a,y=>match qK M a y with
   |some (ap d)=>Q d M
   |_=>False
  |_,_=>False
theorem Rps.atI{ds:List D}{vs:List V}{i:Int}{d:D}(r:Rps K H ds vs)(e:atI ds i=ap d):∃v,_2.atI vs i=ap v/\Rp K H d v:=by
 unfold _2.atI at e ⊢;rw[<- r.length];cases q:rS ds.length i with
 |none=>rw[q]at e;cases e
 |some j=>
  rw[q]at e;exact r.get (i:=j) e
theorem Ek(G:X.A.units+1<p3):IxR X (λx y H Q=>∃a v,x=.ref a/\DGet H a y (ap v)/\Q v H):=by
 intro f m o s Z H x y v u Q I C E h z;obtain⟨a,w,rfl,g,q⟩:=h;cases C;exact PyProof.Rows.tail_any (uu I g) PySem.F.slot_dict_getitem.lookup (oU G I g E λL J I3 j=>⟨w,H,I3,j,q⟩) z
theorem IB(W:X.A.units+1<p3):IxR X (liftR2 X au):=by
 intro f j m s Z H x y v u Q I J L h E;obtain⟨d1,Y,M,QQ,C,F,G,h,N⟩:=h;unfold au at h
 split at h
 .rename_i xs i e
  split at h
  .rename_i d O
   cases G;obtain⟨p,P,rfl,hq,r⟩:=ir C F e;obtain⟨w,R,o⟩:=r.atI O;refine J3 f j m s Z H _ _ v u Q I J L ?_ E;have q:=N _ M h _ H C Frm.refl o;rcases hq with hq|hq
   .exact .inl ⟨p,P,i,w,rfl,rfl,hq,R,q⟩
   .exact .inr (.inl ⟨p,P,i,w,rfl,rfl,hq,R,q⟩)
  .exact h.elim
 .exact h.elim
 .split at h
  .obtain⟨U,h⟩:=h
   split at h
   .rename_i T S
    cases F;cases G;exact C6 f j m s Z H _ _ v u Q I J L ⟨_,_,T,rfl,rfl,U,S,N _ M h _ H C Frm.refl rfl⟩ E
   .exact h.elim
  .split at h
   .rename_i d O
    cases F;rcases kW C G O with⟨z,_⟩|⟨d',w,z,g,o⟩
    .cases z
    .cases z
     exact Ek W f j m s Z H _ _ v u Q I J L ⟨_,w,rfl,g,N _ M h _ H C Frm.refl o⟩ E
   .exact h.elim
  .exact h.elim
abbrev GK:=Dl->Mem->(Option Int->Mem->Prop)->Prop
inductive liftO(X:Cx)(B:Bd)(T:GK)(Z:St)(H:Hp)(Q:Option Int->Hp->Prop):Prop
 |mk (U:Dl) (M:Mem) (QQ:Option Int->Mem->Prop) (s:SR X B U M Z H) (h:T U M QQ) (u:∀o M',QQ o M'->∀H',RepH X.K H' M'->Frm M H M' H'->Q o H'):liftO X B T Z H Q
def DO(X:Cx)(B:Bd)(e:Option fy)(T:GK):Prop:=PO X e (liftO X B T)
theorem x6{e:Option fy}{t t':TO}(h:PO X e t)(w:∀Z H Q,t' Z H Q->t Z H Q):PO X e t':=λf s Z H Q I q=>h f s Z H Q I (w Z H Q q)
def bI:GK:=λ_ M Q=>Q cm M
def cI(t:bp):GK:=λU M Q=>t U M λx M1=>match x with
 |.int i=>Q (ap i) M1
 |_=>False
theorem DV:DO X B cm bI:=x6 FT λZ H Q ⟨U,M,QQ,s,h,u⟩=>u cm M h H s.rh Frm.refl
theorem Fn(h:DE X B e te):DO X B (ap e) (cI te):=by
 refine x6 (Fd h) ?_
 rintro Z H Q ⟨U,M,QQ,s,h,u⟩
 refine⟨U,M,_,s,h,λd M' q v H' f i r=>?_⟩;cases d with
 |int j=>exact⟨j,r,u _ M' q H' f i⟩
 |_=>exact(show False from q).elim
def jV(xs:List D)(lo hi:Option Int):List D:=(xs.drop<|HT.sIx xs.length 0 lo).take (HT.sIx xs.length xs.length hi-HT.sIx xs.length 0 lo)
theorem Rps.cut{ds:List D}{vs:List V}(r:Rps K H ds vs)(h f:Option Int):Rps K H (jV ds h f) (jR vs h f):=by
 unfold jV jR;rw[<- r.length];exact(r.drop _).take _
def JO(x:D)(lo hi:Option Int)(M:Mem)(Q:DK):Prop:=match x with
 |.tup xs=>Q (.tup<|jV xs lo hi) M
 |.ml xs=>∀p,M p=cm->Q (.ref p) (M.upd p<|.lst<|jV xs lo hi)
 |x=>match gO M x with
  |some xs=>∀p,M p=cm->Q (.ref p) (M.upd p<|.lst<|jV xs lo hi)
  |none=>False
inductive liftSl(X:Cx)(x:V)(lo hi:Option Int)(H:Hp)(Q:VK):Prop
 |mk (d:D) (M:Mem) (QQ:DK) (rh:RepH X.K H M) (r:Rp X.K H d x) (h:JO d lo hi M QQ) (u:Up X.K M H QQ Q):liftSl X x lo hi H Q
theorem uR{vs:List V}{j f:Option Int}(h:HT.sIx vs.length 0 j=0/\HT.sIx vs.length vs.length f=vs.length):jR vs j f=vs:=by
 unfold jR;rw[h.1,h.2];simp
theorem Ef:LJ X (λx lo hi H Q=>∃a xs,x=.ref a/\i7 X.K H a xs/\(jR xs lo hi=xs->Q (.ref a) H)/\∀p,H p=cm->Q (.ref p) (upd H p<|.tup<|jR xs lo hi)):=by
 intro j s Z H x v E F lo hi J Q I C y pl w h;obtain⟨a,xs,rfl,o,G,q⟩:=h
 by_cases m:HT.sIx xs.length 0 lo=0/\HT.sIx xs.length xs.length hi=xs.length
 .cases C
  obtain⟨W5,r,z,L⟩:=I.tuple o;have f:W5.toArray.size=xs.length:=by rw[OB];exact r.length.symm
  refine⟨"tuple",_,PB.lookup,z.typeIs,?_⟩;exact HT.gI z y pl w (by rw[f];exact m) ⟨.ref a,H,I,rfl,G<|uR m⟩
 .exact Ke j s Z H _ v E F lo hi J Q I C y pl w ⟨a,xs,rfl,o,m,q⟩
end
section
variable{lo hi:Option fy}{tl th:GK}{p2 p:Pos}{t:fg}
theorem Kt:LJ X (liftSl X):=by
 intro WZ s Z H x v vl vu lo hi sl Q I rx hs pl pu h;obtain⟨d,M,QQ,rh,r,h,up⟩:=h;unfold JO at h
 split at h
 .obtain⟨a,vs,rfl,ht,r⟩:=r
  refine Ef WZ s Z H _ v vl vu lo hi sl Q I rx hs pl pu ⟨a,vs,rfl,ht.sq,λe=>?_,λp hp=>?_⟩
  .exact up _ M h _ H rh Frm.refl ⟨a,vs,rfl,ht,by rw[<- e];exact r.cut lo hi⟩
  .exact up _ M h _ _ (rh.new hp) (Frm.new hp) ⟨p,_,rfl,upd_same,(r.cut lo hi).mono<|Imm.new hp⟩
 .obtain⟨a,vs,rfl,hq,r⟩:=r
  refine wR WZ s Z H _ v vl vu lo hi sl Q I rx hs pl pu ⟨a,vs,rfl,hq.sq,λp hp=>?_⟩;exact up _ _ (h p<|rh.fresh hp) _ _ (rh.put (by rw[hp];trivial) ⟨_,upd_same,(r.cut lo hi).mono<|Imm.new hp⟩) (Frm.put<|.inl hp) rfl
 .split at h
  .rename_i xs e
   obtain⟨a,vs,rfl,hq,r⟩:=i_ rh r e;refine wR WZ s Z H _ v vl vu lo hi sl Q I rx hs pl pu ⟨a,vs,rfl,.inl hq,λp hp=>?_⟩;exact up _ _ (h p<|rh.fresh hp) _ _ (rh.put (by rw[hp];trivial) ⟨_,upd_same,(r.cut lo hi).mono<|Imm.new hp⟩) (Frm.put<|.inl hp) rfl
  .exact h.elim
def uA(te:bp)(tl th:GK):bp:=λU M Q=>te U M λx M1=>tl U M1 λl M2=>th U M2 λu M3=>JO x l u M3 Q
theorem Ac(I:DE X B e te)(F:DO X B lo tl)(G:DO X B hi th):DE X B (.Subscript e (.Slice lo hi cm p2) pos) (uA te tl th):=by
 refine a_ (Ce Kt I F G) ?_
 rintro Z H Q ⟨U,M,QQ,s,h,u⟩
 refine⟨U,M,_,s,h,λx M1 y v1 H1 f q C=>?_⟩;refine⟨U,M1,_,s.go f q,y,λl M2 z H2 j m=>?_⟩;refine⟨U,M2,_,s.go j (q.trans m),z,λw M3 E H3 o v=>?_⟩;exact⟨x,M3,QQ,o,C.mf f (m.trans v),E,u.go<|(q.trans m).trans v⟩
abbrev pT:=List D->Mem->DK->Prop
inductive liftC(X:Cx)(r:pT)(xs:List V)(H:Hp)(Q:VK):Prop
 |mk (ds:List D) (M:Mem) (QQ:DK) (rh:RepH X.K H M) (rp:Rps X.K H ds xs) (h:r ds M QQ) (u:Up X.K M H QQ Q):liftC X r xs H Q
def bu(r:pT)(t:fg):bp:=λU M Q=>t U M λf M1=>r f M1 Q
theorem xt{r:pT}{Q:VK}(h:liftE X B (bu r t) Z H Q):tCB (liftC X r) (liftA X B t) Z H Q:=by
 obtain⟨U,M,QQ,s,h,u⟩:=h;refine⟨U,M,_,s,h,λm M1 o v H1 f q j=>?_⟩;exact⟨m,M1,QQ,f,j,o,u.go q⟩
theorem BR{id:String}{r:pT}(m:bL X (.builtin id) (liftC X r))(v:Gl X x)(q:X.mg x=cm)(f:gl x=ap (.builtin id))(j:DA X B (e::es) t)(o:x≠"__name__":=by decide)(hdb:(x==("__debug__":Str))=false:=by decide)(he:fe (e::es) X.env=(eC,gp e X.env)::fe es X.env:=by rfl)(hpl:(hG pos<|starEach es X.env).any (·.1)=false:=by rfl):DE X B (.Call (.Name x p) (e::es) [] pos) (bu r t):=
 a_ (Av m v q f j o hdb he hpl) λ_ _ _ h=>xt h
theorem zh{T:String}{r:pT}(m:bL X (.type T) (liftC X r))(v:Gl X x)(q:X.mg x=cm)(f:gl x=ap (.type T))(j:DA X B (e::es) t)(o:x≠"__name__":=by decide)(hdb:(x==("__debug__":Str))=false:=by decide)(he:fe (e::es) X.env=(eC,gp e X.env)::fe es X.env:=by rfl)(hpl:(hG pos<|starEach es X.env).any (·.1)=false:=by rfl):DE X B (.Call (.Name x p) (e::es) [] pos) (bu r t):=
 a_ (zJ m v q f j o hdb he hpl) λ_ _ _ h=>xt h
theorem gJ{ds:List D}{vs:List V}{d:D}(r:Rps K H [d] vs):∃v,vs=[v]/\Rp K H d v:=by
 obtain⟨v,w,rfl,a,b⟩:=r;cases b;exact⟨v,rfl,a⟩
theorem G2{vs:List V}{d e:D}(r:Rps K H [d,e] vs):∃v w,vs=[v,w]/\Rp K H d v/\Rp K H e w:=by
 obtain⟨v,w,rfl,a,b⟩:=r;obtain⟨f,j,rfl,h,b⟩:=b;cases b;exact⟨v,f,rfl,a,h⟩
def bK:pT:=λf M Q=>match f with
 |[d]=>match aI M d with
  |some xs=>Q (.int xs.length) M
  |none=>match d with
   |.str z=>z.length<=sizeLine/\Q (.int z.length) M
   |.ref a=>match M a with
    |some (.dK W1)=>Q (.int W1.length) M
    |_=>False
   |_=>False
 |_=>False
theorem zZ:bL X (.builtin "len") (liftC X bK):=by
 intro f s Z H N o Q I r h;obtain⟨ds,M,QQ,j,y,h,w⟩:=h;unfold bK at h
 split at h
 .obtain⟨v,rfl,m⟩:=gJ (ds:=[]) y
  split at h
  .rename_i O e
   obtain⟨q,G,rfl,z,C⟩:=ir j m e;exact rJ f s Z H _ o Q I r ⟨q,G,rfl,z,by rw[<- C.length];exact w _ M h _ H j Frm.refl rfl⟩
  .split at h
   .cases m
    exact qB f s Z H _ o Q I r ⟨_,rfl,h.1,w _ M h.2 _ H j Frm.refl rfl⟩
   .split at h
    .rename_i L e
     cases m;obtain⟨J,F,E⟩:=j _ _ e;exact zy f s Z H _ o Q I r ⟨_,J,rfl,F,by rw[<- E.length];exact w _ M h _ H j Frm.refl rfl⟩
    .exact h.elim
   .exact h.elim
 .exact h.elim
def eJ:pT:=λf M Q=>match f with
 |[d]=>match aI M d with
  |some xs=>∀p,M p=cm->Q (.ref p) (M.upd p<|.lst xs)
  |none=>False
 |_=>False
theorem uN:bL X (.type "list") (liftC X eJ):=by
 intro WZ s Z H xs us Q I r h;obtain⟨ds,M,QQ,rh,rp,h,up⟩:=h;unfold eJ at h
 split at h
 .obtain⟨v,rfl,rv⟩:=gJ (ds:=[]) rp
  split at h
  .rename_i ys e
   obtain⟨q,vs,rfl,hq,rr⟩:=ir rh rv e;refine qh WZ s Z H _ us Q I r ⟨q,vs,rfl,hq,λp hp=>?_⟩;exact up _ _ (h p<|rh.fresh hp) _ _ (rh.put (by rw[hp];trivial) ⟨_,upd_same,rr.mono<|Imm.new hp⟩) (Frm.put<|.inl hp) rfl
  .exact h.elim
 .exact h.elim
def cD:pT:=λf M Q=>match f with
 |[.tup xs]=>Q (.tup xs) M
 |[d]=>match gO M d with
  |some xs=>Q (.tup xs) M
  |none=>False
 |_=>False
theorem su:bL X (.type "tuple") (liftC X cD):=by
 intro f s Z H J C Q I r h;obtain⟨ds,M,QQ,y,z,h,E⟩:=h;unfold cD at h
 split at h
 .obtain⟨v,rfl,o⟩:=gJ (ds:=[]) z
  obtain⟨q,j,rfl,F,m⟩:=o;exact gS f s Z H _ C Q I r ⟨q,j,rfl,.inr ⟨F.sq,E _ M h _ H y Frm.refl ⟨q,j,rfl,F,m⟩⟩⟩
 .obtain⟨v,rfl,o⟩:=gJ (ds:=[]) z
  split at h
  .rename_i L e
   obtain⟨q,j,rfl,G,m⟩:=i_ y o e;refine gS f s Z H _ C Q I r ⟨q,j,rfl,.inl ⟨.inl G,λp w=>?_⟩⟩;exact E _ M h _ _ (y.new w) (Frm.new w) ⟨p,_,rfl,upd_same,m.mono<|Imm.new w⟩
  .exact h.elim
 .exact h.elim
def eE(M:Mem):D->Option String
 |.non=>ap "NoneType"
 |.bl _=>ap "bool"
 |.int _=>ap "int"
 |.str _=>ap "str"
 |.tup _=>ap "tuple"
 |.lst _=>ap "list"
 |.ref a=>match M a with
  |some (.lst _)=>ap "list"
  |some (.dK _)=>ap "dict"
  |some (.dT _)=>ap "dict"
  |_=>cm
 |_=>cm
def jn(t T:String):Bool:=t==T||(t=="bool"&&T=="int")
def zi(T:String):Bool:=T=="bool"||T=="int"||T=="str"||T=="tuple"||T=="list"||T=="dict"
theorem G5:(∀K:Ow,∀t∈["NoneType","bool","int","str","tuple","list","dict"],∀T∈["bool","int","str","tuple","list","dict"],W.kitOne K (.type t) (.type T)=ap (jn t T)):=by
 intro K t h T f;simp only[OM,Pl,or_false]at h f;rcases h with rfl|rfl|rfl|rfl|rfl|rfl|rfl<;>rcases f with rfl|rfl|rfl|rfl|rfl|rfl<;>kernel_rfl
theorem Fc{d:D}{v:V}{t:String}(j:RepH K H M)(r:Rp K H d v)(e:eE M d=ap t):TyOf K H v (.type t)/\t∈["NoneType","bool","int","str","tuple","list","dict"]:=by
 cases d with
 |non=>cases r;cases e;exact⟨.non,by simp⟩
 |bl b=>cases r;cases e;exact⟨.bl b,by simp⟩
 |int i=>cases r;cases e;exact⟨.int i,by simp⟩
 |str x=>cases r;cases e;exact⟨.str x,by simp⟩
 |ty n=>cases e
 |mt n=>cases e
 |ml n=>cases e
 |fd _ _=>cases e
 |tup xs=>
  cases e;obtain⟨q,y,rfl,h,z⟩:=r;exact⟨.tup h,by simp⟩
 |lst xs=>
  cases e;obtain⟨q,y,rfl,⟨o,h⟩,z⟩:=r;exact⟨.frz h,by simp⟩
 |ref a=>
  cases r;simp only[eE]at e
  split at e
  .rename_i q;cases e;obtain⟨w,f,m⟩:=j _ _ q;exact⟨.lst f,by simp⟩
  .rename_i q;cases e;obtain⟨w,f,m⟩:=j _ _ q;exact⟨.dK f,by simp⟩
  .rename_i q;cases e;obtain⟨w,f,m⟩:=j _ _ q;exact⟨.dT f,by simp⟩
  .cases e
def wE:pT:=λf M Q=>match f with
 |[d,.ty T]=>zi T=true/\match eE M d with
  |some t=>Q (.bl<|jn t T) M
  |none=>False
 |_=>False
theorem pP:bL X (.builtin "isinstance") (liftC X wE):=by
 intro f s Z H F y Q I r h;obtain⟨G,M,QQ,o,E,h,z⟩:=h;unfold wE at h
 split at h
 .rename_i d T
  obtain⟨m,h⟩:=h;obtain⟨v,w,rfl,q,j⟩:=G2 E;cases j
  split at h
  .rename_i t e
   obtain⟨ty,C⟩:=Fc o q e;refine uh f s Z H _ y Q I r ⟨v,T,.type t,_,rfl,ty,G5 X.K t C T ?_,z _ M h _ H o Frm.refl rfl⟩;simp only[zi,Bool.or_eq_true,beq_iff_eq]at m;simp only[OM,Pl,or_false];rcases m with ((((h|h)|h)|h)|h)|h<;>simp[h]
  .exact h.elim
 .exact h.elim
def Cw:pT:=λf M Q=>match f with
 |[.int i,.int j]=>Q (.int (if j<i then j else i)) M
 |_=>False
theorem zk(C:X.calm=true):bL X (.builtin "min") (liftC X Cw):=by
 intro f s Z H E o Q I r h;obtain⟨F,M,QQ,q,z,h,y⟩:=h;unfold Cw at h
 split at h
 .obtain⟨v,w,rfl,m,j⟩:=G2 z
  cases m;cases j;exact A3 C f s Z H _ o Q I r ⟨_,_,rfl,y _ M h _ H q Frm.refl rfl⟩
 .exact h.elim
def EW:pT:=λf M Q=>match f with
 |[.int i,.int j]=>Q (.int (if j>i then j else i)) M
 |_=>False
theorem zY(C:X.calm=true):bL X (.builtin "max") (liftC X EW):=by
 intro f s Z H E o Q I r h;obtain⟨F,M,QQ,q,z,h,y⟩:=h;unfold EW at h
 split at h
 .obtain⟨v,w,rfl,m,j⟩:=G2 z
  cases m;cases j;exact zD C f s Z H _ o Q I r ⟨_,_,rfl,y _ M h _ H q Frm.refl rfl⟩
 .exact h.elim
end
mutual
def aP:D->D->Bool
 |.non,.non=>true
 |.bl a,.bl b=>a==b
 |.bl a,.int b=>(if a then 1 else 0)==b
 |.int a,.bl b=>a==(if b then 1 else 0)
 |.int a,.int b=>decide (a=b)
 |.str a,.str b=>decide (a=b)
 |.tup xs,.tup ys=>fI xs ys
 |.lst xs,.lst ys=>fI xs ys
 |_,_=>eC
def fI:List D->List D->Bool
 |[],[]=>true
 |x::xs,y::ys=>aP x y&&fI xs ys
 |_,_=>eC
end
mutual
def bj:Nat->D->Bool
 |_,.non=>true
 |_,.bl _=>true
 |_,.int _=>true
 |_,.str _=>true
 |n+1,.tup xs=>bq n xs
 |n+1,.lst xs=>bq n xs
 |_,_=>eC
def bq:Nat->List D->Bool
 |_,[]=>true
 |n,x::xs=>bj n x&&bq n xs
end
mutual
def Hr(h:hI):D->ay->Prop
 |.non,u=>u=.none
 |.bl b,u=>u=.bool b
 |.int i,u=>∃t,u=.int i t
 |.str x,u=>∃t,u=.str x t
 |.tup xs,u=>∃p W5,u=.ref p/\h.IsTuple p (List.toArray W5)/\Hrs h xs W5
 |.lst xs,u=>∃p W5,u=.ref p/\h.IsList p (List.toArray W5)/\Hrs h xs W5
 |_,_=>False
def Hrs(h:hI):List D->List ay->Prop
 |[],us=>us=[]
 |x::xs,us=>∃u r,us=u::r/\Hr h x u/\Hrs h xs r
end
section
variable{h:hI}
theorem Hrs.length:∀{ds:List D}{us:W9},Hrs h ds us->ds.length=us.length
 |[],_,q=>by cases q;rfl
 |_::_,_,q=>by obtain⟨v,r,rfl,_,b⟩:=q;simp[b.length]
theorem Hrs.get:∀{ds:List D}{us:W9},Hrs h ds us->∀(i:Nat)(f:i<ds.length)(j:i<us.length),Hr h ds[i] us[i]
 |[],_,_,i,f,_=>absurd f (Rx _)
 |x::xs,_,q,i,f,j=>by
  obtain⟨v,r,rfl,a,b⟩:=q;cases i with
  |zero=>exact a
  |succ i=>exact b.get i (by simpa using f) (by simpa using j)
theorem wH(x:h.IsTuple p a)(y:h.IsTuple p b):a=b:=by
 obtain⟨o,m,_,n,q⟩:=x;obtain⟨w,j,_,v,f⟩:=y;rw[m]at j;cases j;rw[q]at f
 injection f with e _
theorem yg(x:h.IsList p a)(y:h.IsList p b):a=b:=by
 obtain⟨o,m,_,n,q⟩:=x;obtain⟨w,j,_,v,f⟩:=y;rw[m]at j;cases j;rw[q]at f
 injection f with e _
theorem MZ(x:h.IsList p a)(y:h.IsTuple p b):False:=by
 obtain⟨o,m,c,_⟩:=x;obtain⟨q,f,j,_⟩:=y;rw[m]at f;cases f;rw[c]at j
 injection j with e
 exact absurd e (by decide)
mutual
theorem Ah:∀{d e:D}{u:ay},Hr h d u->Hr h e u->d=e
 |.non,e,u,a,b=>by
  cases a;cases e with
  |non=>rfl
  |bl _=>cases b
  |int _=>obtain⟨t,q⟩:=b;cases q
  |str _=>obtain⟨t,q⟩:=b;cases q
  |tup _=>obtain⟨p,i,q,_⟩:=b;cases q
  |lst _=>obtain⟨p,i,q,_⟩:=b;cases q
  |_=>exact(show False from b).elim
 |.bl c,e,u,a,b=>by
  cases a;cases e with
  |non=>cases b
  |bl _=>cases b;rfl
  |int _=>obtain⟨t,q⟩:=b;cases q
  |str _=>obtain⟨t,q⟩:=b;cases q
  |tup _=>obtain⟨p,i,q,_⟩:=b;cases q
  |lst _=>obtain⟨p,i,q,_⟩:=b;cases q
  |_=>exact(show False from b).elim
 |.int c,e,u,a,b=>by
  obtain⟨t,rfl⟩:=a;cases e with
  |non=>cases b
  |bl _=>cases b
  |int _=>obtain⟨t,q⟩:=b;cases q;rfl
  |str _=>obtain⟨t,q⟩:=b;cases q
  |tup _=>obtain⟨p,i,q,_⟩:=b;cases q
  |lst _=>obtain⟨p,i,q,_⟩:=b;cases q
  |_=>exact(show False from b).elim
 |.str c,e,u,a,b=>by
  obtain⟨t,rfl⟩:=a;cases e with
  |non=>cases b
  |bl _=>cases b
  |int _=>obtain⟨t,q⟩:=b;cases q
  |str _=>obtain⟨t,q⟩:=b;cases q;rfl
  |tup _=>obtain⟨p,i,q,_⟩:=b;cases q
  |lst _=>obtain⟨p,i,q,_⟩:=b;cases q
  |_=>exact(show False from b).elim
 |.tup xs,e,u,a,b=>by
  obtain⟨p,W5,rfl,m,o⟩:=a;cases e with
  |non=>cases b
  |bl _=>cases b
  |int _=>obtain⟨t,q⟩:=b;cases q
  |str _=>obtain⟨t,q⟩:=b;cases q
  |tup ys=>
   obtain⟨p',its',q,f,j⟩:=b;cases q;have e:=wH m f;have v:W5=its':=by simpa using congrArg Rz e
   subst v;rw[iR o j]
  |lst ys=>obtain⟨p',its',q,f,j⟩:=b;cases q;exact(MZ f m).elim
  |_=>exact(show False from b).elim
 |.lst xs,e,u,a,b=>by
  obtain⟨p,W5,rfl,m,o⟩:=a;cases e with
  |non=>cases b
  |bl _=>cases b
  |int _=>obtain⟨t,q⟩:=b;cases q
  |str _=>obtain⟨t,q⟩:=b;cases q
  |lst ys=>
   obtain⟨p',its',q,f,j⟩:=b;cases q;have e:=yg m f;have v:W5=its':=by simpa using congrArg Rz e
   subst v;rw[iR o j]
  |tup ys=>obtain⟨p',its',q,f,j⟩:=b;cases q;exact(MZ m f).elim
  |_=>exact(show False from b).elim
 |.ty _,_,_,a,_=>(show False from a).elim
 |.ref _,_,_,a,_=>(show False from a).elim
 |.mt _,_,_,a,_=>(show False from a).elim
 |.ml _,_,_,a,_=>(show False from a).elim
 |.fd _ _,_,_,a,_=>(show False from a).elim
theorem iR:∀{ds es:List D}{us:W9},Hrs h ds us->Hrs h es us->ds=es
 |[],es,us,a,b=>by
  cases a;cases es with
  |nil=>rfl
  |cons _ _=>obtain⟨v,r,q,_⟩:=b;cases q
 |d::ds,es,us,a,b=>by
  obtain⟨v,r,rfl,o,f⟩:=a;cases es with
  |nil=>cases b
  |cons e es=>
   obtain⟨y,w,q,m,j⟩:=b;cases q;rw[Ah o m,iR f j]
end
mutual
theorem Ch:∀{n:Nat}{d:D},bj n d=true->aP d d=true
 |_,.non,_=>by simp[aP]
 |_,.bl _,_=>by simp[aP]
 |_,.int _,_=>by simp[aP]
 |_,.str _,_=>by simp[aP]
 |0,.tup _,f=>by simp[bj]at f
 |0,.lst _,f=>by simp[bj]at f
 |n+1,.tup xs,f=>by rw[aP];exact eK (n:=n) f
 |n+1,.lst xs,f=>by rw[aP];exact eK (n:=n) f
 |_,.ty _,f=>by simp[bj]at f
 |_,.ref _,f=>by simp[bj]at f
 |_,.mt _,f=>by simp[bj]at f
 |_,.ml _,f=>by simp[bj]at f
 |_,.fd _ _,f=>by simp[bj]at f
theorem eK:∀{n:Nat}{ds:List D},bq n ds=true->fI ds ds=true
 |_,[],_=>by simp[fI]
 |n,x::xs,f=>by
  rw[bq,PR]at f;rw[fI,Ch f.1,eK f.2];rfl
end
theorem dD:∀{xs ys:List D},xs.length≠ys.length->fI xs ys=eC
 |[],[],h=>absurd rfl h
 |[],_::_,_=>by simp[fI]
 |_::_,[],_=>by simp[fI]
 |x::xs,y::ys,h=>by rw[fI,dD (by simpa using h),Q6]
theorem ip:∀(xs ys:List D)(f:Nat->Bool),xs.length=ys.length->(∀j (h1:j<xs.length)(h2:j<ys.length),f j=aP xs[j] ys[j])->(Pe xs.length).all f=fI xs ys
 |[],[],f,_,_=>by simp[fI]
 |[],_::_,_,h,_=>by simp at h
 |_::_,[],_,h,_=>by simp at h
 |x::xs,y::ys,f,h,hf=>by
  have m:=hf 0 (by simp) (by simp)
  have o:=ip xs ys (λj=>f (j+1)) (by simpa using h) (λj h1 h2=>hf (j+1) (by simpa using h1) (by simpa using h2))
  rw[Oy,Uo,List.all_cons,List.all_map,fI,<- o];simp only[Uq]at m;rw[m];rfl
theorem dz:∀{n:Nat}{xs:List D},bq n xs=true->∀(j:Nat)(m:j<xs.length),bj n xs[j]=true
 |_,[],_,j,m=>absurd m (Rx _)
 |n,x::xs,f,j,m=>by
  rw[bq,PR]at f;cases j with
  |zero=>exact f.1
  |succ j=>exact dz f.2 j (by simpa using m)
def l_:D->Option V
 |.non=>ap .non
 |.bl b=>ap (.bl b)
 |.int i=>ap (.int i)
 |.str x=>ap (.str x)
 |_=>cm
theorem kF{d:D}{v:V}(e:l_ d=ap v)(r:Hr h d u):RelV v u/\Ak v=true:=by
 cases d with
 |non=>cases e;exact⟨r,rfl⟩
 |bl b=>cases e;exact⟨r,rfl⟩
 |int b=>cases e;exact⟨r,rfl⟩
 |str b=>cases e;exact⟨r,rfl⟩
 |_=>cases e
theorem sR{d e:D}{v w:V}(j:l_ d=ap v)(f:l_ e=ap w):rR v w=aP d e:=by
 cases d with
 |non=>cases j;cases e with|non=>cases f;simp[rR,aP]|bl b=>cases f;simp[rR,aP]|int b=>cases f;simp[rR,aP]|str b=>cases f;simp[rR,aP]|_=>cases f
 |bl a=>cases j;cases e with|non=>cases f;simp[rR,aP]|bl b=>cases f;simp[rR,aP]|int b=>cases f;simp[rR,aP]|str b=>cases f;simp[rR,aP]|_=>cases f
 |int a=>cases j;cases e with|non=>cases f;simp[rR,aP]|bl b=>cases f;simp[rR,aP]|int b=>cases f;simp[rR,aP];rfl|str b=>cases f;simp[rR,aP]|_=>cases f
 |str a=>cases j;cases e with|non=>cases f;simp[rR,aP]|bl b=>cases f;simp[rR,aP]|int b=>cases f;simp[rR,aP]|str b=>cases f;simp[rR,aP];rfl|_=>cases f
 |_=>cases j
end
theorem Gu:∀(n:Nat){A:ix}{s:el}{d e:D}{u w:ay},Hr s.heap d u->Hr s.heap e w->bj n d=true->bj n e=true->A.units+n<p3->R5 A s u w (aP d e):=by
 intro n
 induction n with
 |zero=>
  intro A s d e u w m h fd Q hu;have W:∃v,l_ d=ap v:=by cases d<;>first|exact⟨_,rfl⟩|(simp[bj]at fd)
  have Y:∃v,l_ e=ap v:=by cases e<;>first|exact⟨_,rfl⟩|(simp[bj]at Q)
  obtain⟨v1,J⟩:=W;obtain⟨v2,R⟩:=Y;obtain⟨a1,b1⟩:=kF J m;obtain⟨a2,b2⟩:=kF R h;rw[<- sR J R];exact BK a1 a2 b1 b2
 |succ n ih=>
  intro A s d e u w m h fd Q hu;have f:A.units<cLine:=by lia
  have S:A.in1.units+n<cLine:=by show A.units+1+n<p3;lia
  by_cases W:∃v,l_ d=ap v
  .obtain⟨v1,J⟩:=W
   obtain⟨a1,b1⟩:=kF J m
   by_cases Y:∃v,l_ e=ap v
   .obtain⟨v2,R⟩:=Y
    obtain⟨a2,b2⟩:=kF R h;rw[<- sR J R];exact BK a1 a2 b1 b2
   .cases e with
    |tup ys=>
     obtain⟨p,W5,rfl,t,_⟩:=h;cases d with
     |non=>cases m;simp only[aP];exact .none_tuple t f
     |bl b=>cases m;simp only[aP];exact .bool_tuple b t f
     |int b=>obtain⟨C,rfl⟩:=m;simp only[aP];exact .int_tuple b C t f
     |str b=>obtain⟨C,rfl⟩:=m;simp only[aP];exact .str_tuple b C t f
     |_=>cases J
    |lst ys=>
     obtain⟨p,W5,rfl,t,_⟩:=h;cases d with
     |non=>cases m;simp only[aP];exact .none_list t f
     |bl b=>cases m;simp only[aP];exact .bool_list b t f
     |int b=>obtain⟨C,rfl⟩:=m;simp only[aP];exact .int_list b C t f
     |str b=>obtain⟨C,rfl⟩:=m;simp only[aP];exact .str_list b C t f
     |_=>cases J
    |ty _=>exact(show False from h).elim
    |ref _=>exact(show False from h).elim
    |mt _=>exact(show False from h).elim
    |ml _=>exact(show False from h).elim
    |fd _ _=>exact(show False from h).elim
    |_=>exact absurd ⟨_,rfl⟩ Y
  .cases d with
   |tup xs=>
    obtain⟨p,W5,rfl,o,N⟩:=m;cases e with
    |non=>cases h;simp only[aP];exact .tuple_none o f
    |bl b=>cases h;simp only[aP];exact .tuple_bool b o f
    |int b=>obtain⟨C,rfl⟩:=h;simp only[aP];exact .tuple_int b C o f
    |str b=>obtain⟨C,rfl⟩:=h;simp only[aP];exact .tuple_str b C o f
    |tup ys=>
     obtain⟨p',its',rfl,G,I⟩:=h;rw[aP]
     by_cases T:p=p'
     .subst T
      have e':W5=its':=by simpa using congrArg Rz (wH o G)
      subst e';rw[iR N I,eK (n:=n) Q];exact .same _
     .refine .of_refs T ?_
      have l1:=N.length;have l2:=I.length;have L:∀j (F:j<W5.toArray.size)(E:j<its'.toArray.size),R5 A.in1 s W5.toArray[j] its'.toArray[j] (match xs[j]?,ys[j]? with|some x,ap y=>aP x y|_,_=>eC):=λj F E=>by
       have z:j<xs.length:=by rw[l1];simpa using F
       have q:j<ys.length:=by rw[l2];simpa using E
       rw[Ov z,Ov q];exact ih (N.get j z<|by simpa using F) (I.get j q<|by simpa using E) (dz fd j z) (dz Q j q) S
      have:=T7 (e:=λj=>match xs[j]?,ys[j]? with|some x,ap y=>aP x y|_,_=>eC) o G f L
      by_cases U:xs.length=ys.length
      .have P:W5.toArray.size=its'.toArray.size:=by simp;lia
       rw[P]at this;simp only[UA,beq_self_eq_true,Su]at this;have O:its'.toArray.size=xs.length:=by simp;lia
       rw[O,ip xs ys _ U (λj F E=>by rw[Ov F,Ov E])]at this
       exact this
      .have P:(W5.toArray.size==its'.toArray.size)=false:=by simp;lia
       rw[P,Q6]at this;rw[dD U];exact this
    |lst ys=>obtain⟨p',its',rfl,G,I⟩:=h;simp only[aP];exact .tuple_list o G f
    |_=>exact(show False from h).elim
   |lst xs=>
    obtain⟨p,W5,rfl,o,N⟩:=m;cases e with
    |non=>cases h;simp only[aP];exact .list_none o f
    |bl b=>cases h;simp only[aP];exact .list_bool b o f
    |int b=>obtain⟨C,rfl⟩:=h;simp only[aP];exact .list_int b C o f
    |str b=>obtain⟨C,rfl⟩:=h;simp only[aP];exact .list_str b C o f
    |lst ys=>
     obtain⟨p',its',rfl,G,I⟩:=h;rw[aP]
     by_cases T:p=p'
     .subst T
      have e':W5=its':=by simpa using congrArg Rz (yg o G)
      subst e';rw[iR N I,eK (n:=n) Q];exact .same _
     .refine .of_refs T ?_
      have l1:=N.length;have l2:=I.length
      by_cases U:xs.length=ys.length
      .have L:∀j (F:j<W5.toArray.size)(E:j<its'.toArray.size),R5 A.in1 s W5.toArray[j] its'.toArray[j] (match xs[j]?,ys[j]? with|some x,ap y=>aP x y|_,_=>eC):=λj F E=>by
        have z:j<xs.length:=by rw[l1];simpa using F
        have q:j<ys.length:=by rw[l2];simpa using E
        rw[Ov z,Ov q];exact ih (N.get j z<|by simpa using F) (I.get j q<|by simpa using E) (dz fd j z) (dz Q j q) S
       have:=Uh (e:=λj=>match xs[j]?,ys[j]? with|some x,ap y=>aP x y|_,_=>eC) o G (by simp;lia) f L
       have O:W5.toArray.size=xs.length:=by simp;lia
       rw[O,ip xs ys _ U (λj F E=>by rw[Ov F,Ov E])]at this
       exact this
      .rw[dD U]
       exact SY o G (by simp;lia) f
    |tup ys=>obtain⟨p',its',rfl,G,I⟩:=h;simp only[aP];exact .list_tuple o G f
    |_=>exact(show False from h).elim
   |ty _=>exact(show False from m).elim
   |ref _=>exact(show False from m).elim
   |mt _=>exact(show False from m).elim
   |ml _=>exact(show False from m).elim
   |fd _ _=>exact(show False from m).elim
   |_=>exact absurd ⟨_,rfl⟩ W
theorem kC{xs ys:List D}(m:Hrs s.heap xs W5)(o:Hrs s.heap ys its')(fd:bq n xs=true)(v:bq n ys=true)(q:A.units+n<p3):
  ∀j (h1:j<W5.toArray.size)(h2:j<its'.toArray.size),R5 A s W5.toArray[j] its'.toArray[j] (match xs[j]?,ys[j]? with|some x,ap y=>aP x y|_,_=>eC):=λj h1 h2=>by
 have h:j<xs.length:=by rw[m.length];simpa using h1
 have f:j<ys.length:=by rw[o.length];simpa using h2
 rw[Ov h,Ov f];exact Gu n (m.get j h<|by simpa using h1) (o.get j f<|by simpa using h2) (dz fd j h) (dz v j f) q
theorem kg{xs ys:List D}(m:xs.length=ys.length):(Pe xs.length).all (λj=>match xs[j]?,ys[j]? with|some x,ap y=>aP x y|_,_=>eC)=fI xs ys:=
 ip xs ys _ m (λj h f=>by rw[Ov h,Ov f])
theorem Kk{xs ys:List D}(v:s.heap.IsTuple p W5.toArray)(w:s.heap.IsTuple p' its'.toArray)(m:Hrs s.heap xs W5)(o:Hrs s.heap ys its')(fd:bj n (.tup xs)=true)(q:bj n (.tup ys)=true)(C:A.units+n<p3):
  UL A s (.ref p) (.ref p') (aP (.tup xs)<|.tup ys):=by
 cases n with
 |zero=>simp[bj]at fd
 |succ n=>
  have y:=m.length;have z:=o.length;have:=T7 (A:=A) v w (by lia) (kC (n:=n) m o fd q<|by show A.units+1+n<p3;lia)
  rw[aP]
  by_cases j:xs.length=ys.length
  .have f:W5.toArray.size=its'.toArray.size:=by simp;lia
   rw[f]at this;simp only[UA,beq_self_eq_true,Su]at this;have h:its'.toArray.size=xs.length:=by simp;lia
   rw[h,kg j]at this;exact this
  .have f:(W5.toArray.size==its'.toArray.size)=false:=by simp;lia
   rw[f,Q6]at this;rw[dD j];exact this
theorem Jz{xs ys:List D}(m:s.heap.IsList p W5.toArray)(q:s.heap.IsList p' its'.toArray)(j:Hrs s.heap xs W5)(o:Hrs s.heap ys its')(fd:bj n (.lst xs)=true)(v:bj n (.lst ys)=true)(z:A.units+n<p3):
  UL A s (.ref p) (.ref p') (aP (.lst xs)<|.lst ys):=by
 cases n with
 |zero=>simp[bj]at fd
 |succ n=>
  have y:=j.length;have w:=o.length;rw[aP]
  by_cases h:xs.length=ys.length
  .have:=Uh (A:=A) m q (by simp;lia) (by lia) (kC (n:=n) j o fd v<|by show A.units+1+n<p3;lia)
   have f:W5.toArray.size=xs.length:=by simp;lia
   rw[f,kg h]at this;exact this
  .rw[dD h]
   exact SY m q (by simp;lia) (by lia)
theorem C7{xs ys:List D}(v:s.heap.IsTuple p W5.toArray)(w:s.heap.IsTuple p' its'.toArray)(m:Hrs s.heap xs W5)(o:Hrs s.heap ys its')(fd:bj n (.tup xs)=true)(q:bj n (.tup ys)=true)(C:A.units+n<p3):
  T6 A s (.ref p) (.ref p') (!aP (.tup xs) (.tup ys)):=by
 cases n with
 |zero=>simp[bj]at fd
 |succ n=>
  have y:=m.length;have z:=o.length;have:=SeqAt.RcNeAt.tuples (A:=A) v w (by lia) (kC (n:=n) m o fd q<|by show A.units+1+n<p3;lia)
  rw[aP]
  by_cases j:xs.length=ys.length
  .have f:W5.toArray.size=its'.toArray.size:=by simp;lia
   rw[f]at this;simp only[UA,beq_self_eq_true,Su]at this;have h:its'.toArray.size=xs.length:=by simp;lia
   rw[h,kg j]at this;exact this
  .have f:(W5.toArray.size==its'.toArray.size)=false:=by simp;lia
   rw[f,Q6]at this;rw[dD j];exact this
theorem CW{xs ys:List D}(m:s.heap.IsList p W5.toArray)(q:s.heap.IsList p' its'.toArray)(j:Hrs s.heap xs W5)(o:Hrs s.heap ys its')(fd:bj n (.lst xs)=true)(v:bj n (.lst ys)=true)(z:A.units+n<p3):
  T6 A s (.ref p) (.ref p') (!aP (.lst xs) (.lst ys)):=by
 cases n with
 |zero=>simp[bj]at fd
 |succ n=>
  have y:=j.length;have w:=o.length;rw[aP]
  by_cases h:xs.length=ys.length
  .have:=SeqAt.RcNeAt.lists (A:=A) m q (by simp;lia) (by lia) (kC (n:=n) j o fd v<|by show A.units+1+n<p3;lia)
   have f:W5.toArray.size=xs.length:=by simp;lia
   rw[f,kg h]at this;exact this
  .rw[dD h]
   exact SeqAt.RcNeAt.lists_lengths m q (by simp;lia) (by lia)
theorem Nt{d e:D}{w:ay}(C:Hr s.heap d u)(h:Hr s.heap e w)(fd:bj n d=true)(I:bj n e=true)(G:A.units+n<p3):UL A s u w (aP d e):=by
 have j:A.units<cLine:=by lia
 cases d with
 |non=>
  cases C;cases e with
  |non=>
   cases h;simpa [aP,Pd] using SeqAt.RcAt.none_none
  |bl y=>
   cases h;simpa [aP] using SeqAt.RcAt.none_bool y
  |int y=>
   obtain⟨f,rfl⟩:=h;simpa [aP] using SeqAt.RcAt.none_int y f
  |str y=>
   obtain⟨f,rfl⟩:=h;simpa [aP] using SeqAt.RcAt.none_str y f
  |tup y=>
   obtain⟨z,m,rfl,ty,v⟩:=h;simpa [aP] using SeqAt.RcAt.none_tuple ty j
  |lst y=>
   obtain⟨z,m,rfl,ty,v⟩:=h;simpa [aP] using SeqAt.RcAt.none_list ty j
  |_=>exact(show False from h).elim
 |bl x=>
  cases C;cases e with
  |non=>
   cases h;simpa [aP] using SeqAt.RcAt.bool_none x
  |bl y=>
   cases h;simpa [aP,Pd] using SeqAt.RcAt.bool_bool x y
  |int y=>
   obtain⟨f,rfl⟩:=h;simpa [aP,Pd] using SeqAt.RcAt.bool_int x y f
  |str y=>
   obtain⟨f,rfl⟩:=h;simpa [aP] using SeqAt.RcAt.bool_str x y f
  |tup y=>
   obtain⟨z,m,rfl,ty,v⟩:=h;simpa [aP] using SeqAt.RcAt.bool_tuple x ty j
  |lst y=>
   obtain⟨z,m,rfl,ty,v⟩:=h;simpa [aP] using SeqAt.RcAt.bool_list x ty j
  |_=>exact(show False from h).elim
 |int x=>
  obtain⟨o,rfl⟩:=C;cases e with
  |non=>
   cases h;simpa [aP] using SeqAt.RcAt.int_none x o
  |bl y=>
   cases h;simpa [aP,Pd] using SeqAt.RcAt.int_bool x o y
  |int y=>
   obtain⟨f,rfl⟩:=h;simpa [aP,Pd] using SeqAt.RcAt.int_int x o y f
  |str y=>
   obtain⟨f,rfl⟩:=h;simpa [aP] using SeqAt.RcAt.int_str x o y f
  |tup y=>
   obtain⟨z,m,rfl,ty,v⟩:=h;simpa [aP] using SeqAt.RcAt.int_tuple x o ty j
  |lst y=>
   obtain⟨z,m,rfl,ty,v⟩:=h;simpa [aP] using SeqAt.RcAt.int_list x o ty j
  |_=>exact(show False from h).elim
 |str x=>
  obtain⟨o,rfl⟩:=C;cases e with
  |non=>
   cases h;simpa [aP] using SeqAt.RcAt.str_none x o
  |bl y=>
   cases h;simpa [aP] using SeqAt.RcAt.str_bool x o y
  |int y=>
   obtain⟨f,rfl⟩:=h;simpa [aP] using SeqAt.RcAt.str_int x o y f
  |str y=>
   obtain⟨f,rfl⟩:=h;simpa [aP,Pd] using SeqAt.RcAt.str_str x o y f
  |tup y=>
   obtain⟨z,m,rfl,ty,v⟩:=h;simpa [aP] using SeqAt.RcAt.str_tuple x o ty j
  |lst y=>
   obtain⟨z,m,rfl,ty,v⟩:=h;simpa [aP] using SeqAt.RcAt.str_list x o ty j
  |_=>exact(show False from h).elim
 |tup x=>
  obtain⟨J,E,rfl,q,F⟩:=C;cases e with
  |non=>
   cases h;simpa [aP] using SeqAt.RcAt.tuple_none q j
  |bl y=>
   cases h;simpa [aP] using SeqAt.RcAt.tuple_bool y q j
  |int y=>
   obtain⟨f,rfl⟩:=h;simpa [aP] using SeqAt.RcAt.tuple_int y f q j
  |str y=>
   obtain⟨f,rfl⟩:=h;simpa [aP] using SeqAt.RcAt.tuple_str y f q j
  |tup y=>
   obtain⟨z,m,rfl,ty,v⟩:=h;exact Kk q ty F v fd I G
  |lst y=>
   obtain⟨z,m,rfl,ty,v⟩:=h;simpa [aP] using SeqAt.RcAt.tuple_list q ty j
  |_=>exact(show False from h).elim
 |lst x=>
  obtain⟨J,E,rfl,q,F⟩:=C;cases e with
  |non=>
   cases h;simpa [aP] using SeqAt.RcAt.list_none q j
  |bl y=>
   cases h;simpa [aP] using SeqAt.RcAt.list_bool y q j
  |int y=>
   obtain⟨f,rfl⟩:=h;simpa [aP] using SeqAt.RcAt.list_int y f q j
  |str y=>
   obtain⟨f,rfl⟩:=h;simpa [aP] using SeqAt.RcAt.list_str y f q j
  |tup y=>
   obtain⟨z,m,rfl,ty,v⟩:=h;simpa [aP] using SeqAt.RcAt.list_tuple q ty j
  |lst y=>
   obtain⟨z,m,rfl,ty,v⟩:=h;exact Jz q ty F v fd I G
  |_=>exact(show False from h).elim
 |_=>exact(show False from C).elim
theorem Ft{d e:D}{w:ay}(C:Hr s.heap d u)(h:Hr s.heap e w)(fd:bj n d=true)(I:bj n e=true)(G:A.units+n<p3):T6 A s u w (!aP d e):=by
 have j:A.units<cLine:=by lia
 cases d with
 |non=>
  cases C;cases e with
  |non=>
   cases h;simpa [aP,Pd] using SeqAt.RcNeAt.none_none
  |bl y=>
   cases h;simpa [aP] using SeqAt.RcNeAt.none_bool y
  |int y=>
   obtain⟨f,rfl⟩:=h;simpa [aP] using SeqAt.RcNeAt.none_int y f
  |str y=>
   obtain⟨f,rfl⟩:=h;simpa [aP] using SeqAt.RcNeAt.none_str y f
  |tup y=>
   obtain⟨z,m,rfl,ty,v⟩:=h;simpa [aP] using SeqAt.RcNeAt.none_tuple ty j
  |lst y=>
   obtain⟨z,m,rfl,ty,v⟩:=h;simpa [aP] using SeqAt.RcNeAt.none_list ty j
  |_=>exact(show False from h).elim
 |bl x=>
  cases C;cases e with
  |non=>
   cases h;simpa [aP] using SeqAt.RcNeAt.bool_none x
  |bl y=>
   cases h;simpa [aP,Pd] using SeqAt.RcNeAt.bool_bool x y
  |int y=>
   obtain⟨f,rfl⟩:=h;simpa [aP,Pd] using SeqAt.RcNeAt.bool_int x y f
  |str y=>
   obtain⟨f,rfl⟩:=h;simpa [aP] using SeqAt.RcNeAt.bool_str x y f
  |tup y=>
   obtain⟨z,m,rfl,ty,v⟩:=h;simpa [aP] using SeqAt.RcNeAt.bool_tuple x ty j
  |lst y=>
   obtain⟨z,m,rfl,ty,v⟩:=h;simpa [aP] using SeqAt.RcNeAt.bool_list x ty j
  |_=>exact(show False from h).elim
 |int x=>
  obtain⟨o,rfl⟩:=C;cases e with
  |non=>
   cases h;simpa [aP] using SeqAt.RcNeAt.int_none x o
  |bl y=>
   cases h;simpa [aP,Pd] using SeqAt.RcNeAt.int_bool x o y
  |int y=>
   obtain⟨f,rfl⟩:=h;simpa [aP,Pd] using SeqAt.RcNeAt.int_int x o y f
  |str y=>
   obtain⟨f,rfl⟩:=h;simpa [aP] using SeqAt.RcNeAt.int_str x o y f
  |tup y=>
   obtain⟨z,m,rfl,ty,v⟩:=h;simpa [aP] using SeqAt.RcNeAt.int_tuple x o ty j
  |lst y=>
   obtain⟨z,m,rfl,ty,v⟩:=h;simpa [aP] using SeqAt.RcNeAt.int_list x o ty j
  |_=>exact(show False from h).elim
 |str x=>
  obtain⟨o,rfl⟩:=C;cases e with
  |non=>
   cases h;simpa [aP] using SeqAt.RcNeAt.str_none x o
  |bl y=>
   cases h;simpa [aP] using SeqAt.RcNeAt.str_bool x o y
  |int y=>
   obtain⟨f,rfl⟩:=h;simpa [aP] using SeqAt.RcNeAt.str_int x o y f
  |str y=>
   obtain⟨f,rfl⟩:=h;simpa [aP,Pd] using SeqAt.RcNeAt.str_str x o y f
  |tup y=>
   obtain⟨z,m,rfl,ty,v⟩:=h;simpa [aP] using SeqAt.RcNeAt.str_tuple x o ty j
  |lst y=>
   obtain⟨z,m,rfl,ty,v⟩:=h;simpa [aP] using SeqAt.RcNeAt.str_list x o ty j
  |_=>exact(show False from h).elim
 |tup x=>
  obtain⟨J,E,rfl,q,F⟩:=C;cases e with
  |non=>
   cases h;simpa [aP] using SeqAt.RcNeAt.tuple_none q j
  |bl y=>
   cases h;simpa [aP] using SeqAt.RcNeAt.tuple_bool y q j
  |int y=>
   obtain⟨f,rfl⟩:=h;simpa [aP] using SeqAt.RcNeAt.tuple_int y f q j
  |str y=>
   obtain⟨f,rfl⟩:=h;simpa [aP] using SeqAt.RcNeAt.tuple_str y f q j
  |tup y=>
   obtain⟨z,m,rfl,ty,v⟩:=h;exact C7 q ty F v fd I G
  |lst y=>
   obtain⟨z,m,rfl,ty,v⟩:=h;simpa [aP] using SeqAt.RcNeAt.tuple_list q ty j
  |_=>exact(show False from h).elim
 |lst x=>
  obtain⟨J,E,rfl,q,F⟩:=C;cases e with
  |non=>
   cases h;simpa [aP] using SeqAt.RcNeAt.list_none q j
  |bl y=>
   cases h;simpa [aP] using SeqAt.RcNeAt.list_bool y q j
  |int y=>
   obtain⟨f,rfl⟩:=h;simpa [aP] using SeqAt.RcNeAt.list_int y f q j
  |str y=>
   obtain⟨f,rfl⟩:=h;simpa [aP] using SeqAt.RcNeAt.list_str y f q j
  |tup y=>
   obtain⟨z,m,rfl,ty,v⟩:=h;simpa [aP] using SeqAt.RcNeAt.list_tuple q ty j
  |lst y=>
   obtain⟨z,m,rfl,ty,v⟩:=h;exact CW q ty F v fd I G
  |_=>exact(show False from h).elim
 |_=>exact(show False from C).elim
section
variable{WZ:Xe}
mutual
theorem BZ(I:Inv X WZ Z H s):∀{n:Nat}{d:D}{v:V}{u:ay},bj n d=true->Rp X.K H d v->RelV v u->Hr s.heap d u
 |_,.non,v,u,_,r,q=>by cases r;exact q
 |_,.bl _,v,u,_,r,q=>by cases r;exact q
 |_,.int _,v,u,_,r,q=>by cases r;exact q
 |_,.str _,v,u,_,r,q=>by cases r;exact q
 |n+1,.tup xs,v,u,f,r,q=>by
  obtain⟨p,m,rfl,t,r⟩:=r;cases q;obtain⟨W5,j,h,_⟩:=I.tuple t.sq;exact⟨p,W5,rfl,h,gb I (n:=n) f r j⟩
 |n+1,.lst xs,v,u,f,r,q=>by
  obtain⟨p,m,rfl,t,r⟩:=r;cases q;obtain⟨W5,j,h,_⟩:=I.list t.sq;exact⟨p,W5,rfl,h.isList,gb I (n:=n) f r j⟩
 |0,.tup _,_,_,f,_,_=>by simp[bj]at f
 |0,.lst _,_,_,f,_,_=>by simp[bj]at f
 |_,.ty _,_,_,f,_,_=>by simp[bj]at f
 |_,.ref _,_,_,f,_,_=>by simp[bj]at f
 |_,.mt _,_,_,f,_,_=>by simp[bj]at f
 |_,.ml _,_,_,f,_,_=>by simp[bj]at f
 |_,.fd _ _,_,_,f,_,_=>by simp[bj]at f
theorem gb(I:Inv X WZ Z H s):∀{n:Nat}{ds:List D}{vs:List V}{us:W9},bq n ds=true->Rps X.K H ds vs->Vals vs us->Hrs s.heap ds us
 |_,[],vs,us,_,r,q=>by cases r;cases q;rfl
 |n,d::ds,vs,us,f,r,q=>by
  obtain⟨v,h,rfl,a,b⟩:=r;rw[bq,PR]at f;cases q with
  |cons q1 q2=>exact⟨_,_,rfl,BZ I f.1 a q1,gb I f.2 b q2⟩
end
def dv(M:Mem):D->D
 |.ref a=>match M a with
  |some (.lst xs)=>.lst xs
  |_=>.ref a
 |d=>d
theorem oC(I:Inv X WZ Z H s){d:D}{v:V}(w:RepH X.K H M)(f:bj n (dv M d)=true)(r:Rp X.K H d v)(q:RelV v u):Hr s.heap (dv M d) u:=by
 cases d with
 |ref a=>
  cases r;simp only[dv]at f ⊢
  split at f
  .rename_i y e
   obtain⟨z,h,j⟩:=w _ _ e;obtain⟨W5,o,m,_⟩:=I.list (SqL.of h);cases q;cases n with
   |zero=>simp[bj]at f
   |succ n=>exact⟨a,W5,rfl,m.isList,gb I (n:=n) f j o⟩
  .simp[bj]at f
 |_=>exact BZ I f r q
def bX:eU:=λx y M Q=>bj 60 (dv M x)=true/\bj 60 (dv M y)=true/\Q (.bl<|aP (dv M x)<|dv M y) M
def jy:eU:=λx y M Q=>bj 60 (dv M x)=true/\bj 60 (dv M y)=true/\Q (.bl<|!aP (dv M x) (dv M y)) M
theorem AI(G:X.A.units+64<p3):cC X (kc .Eq) (liftR2 X bX):=by
 intro WZ s Z H x y v u Q I z C h;obtain⟨F,E,M,QQ,f,o,q,⟨j,m,h⟩,w⟩:=h;exact Nt (oC I f j o z) (oC I f m q C) j m (by lia) _ _ _ _ ⟨.bl _,H,I,rfl,w _ M h _ H f Frm.refl rfl⟩
theorem Ll(G:X.A.units+64<p3):cC X (kc .NotEq) (liftR2 X jy):=by
 intro WZ s Z H x y v u Q I z C h;obtain⟨F,E,M,QQ,f,o,q,⟨j,m,h⟩,w⟩:=h;exact Ft (oC I f j o z) (oC I f m q C) j m (by lia) _ _ _ _ ⟨.bl _,H,I,rfl,w _ M h _ H f Frm.refl rfl⟩
open Classical in
noncomputable def uH(h:hI)(x:D)(u:ay):Bool:=if q:∃d,Hr h d u then aP q.choose x else eC
theorem B9{h:hI}{x d:D}(r:Hr h d u):uH h x u=aP d x:=by
 have q:∃d,Hr h d u:=⟨d,r⟩;unfold uH;rw[dif_pos q,Ah q.choose_spec r]
theorem i8{h:hI}{x:D}:∀{ds:List D}{us:W9},Hrs h ds us->us.any (uH h x)=ds.any λd=>aP d x
 |[],_,r=>by cases r;rfl
 |d::ds,_,r=>by
  obtain⟨v,f,rfl,a,b⟩:=r;rw[Qi,Qi,B9 a,i8 b]
theorem iE{A:ix}{n:Nat}{x:D}{w:ay}(o:Hr s.heap x w)(m:bj n x=true)(j:A.units+n<p3):∀{ds:List D}{us:W9},Hrs s.heap ds us->bq n ds=true->∀u∈us,R5 A s u w (uH s.heap x u)
 |[],_,r,_,u,j=>by cases r;cases j
 |d::ds,_,r,f,u,h=>by
  obtain⟨v,q,rfl,a,b⟩:=r;rw[bq,PR]at f;rcases OM.mp h with rfl|h
  .rw[B9 a];exact Gu n a o f.1 m j
  .exact iE o m j b f.2 u h
def qZ(M:Mem)(x y:D):Option Bool:=match aI M y with
 |some xs=>if bj 60 (dv M x)=true/\bq 60 xs=true then ap (xs.any λd=>aP d (dv M x)) else cm
 |none=>match y with
  |.ref a=>match qK M a x with
   |some o=>ap o.isSome
   |none=>cm
  |_=>cm
def C5:eU:=λx y M Q=>match qZ M x y with
 |some k=>Q (.bl k) M
 |none=>False
def vV:eU:=λx y M Q=>match qZ M x y with
 |some k=>Q (.bl<|!k) M
 |none=>False
theorem BC(W:X.A.units+64<p3):cC X (kc .In) (liftR2 X C5):=by
 intro WZ s Z H x y v u Q I z L h;obtain⟨j,S,M,QQ,q,G,J,h,R⟩:=h;unfold C5 at h
 split at h
 .rename_i k e
  have fin:=R _ M h _ H q Frm.refl rfl;unfold qZ at e
  split at e
  .rename_i U O
   split at e
   .rename_i f
    cases e;obtain⟨p,T,rfl,hq,r⟩:=ir q J O;cases L;have F:=oC I q f.1 G z;rcases hq with hq|hq
    .obtain⟨W5,E,pl,_⟩:=I.list hq
     have m:=gb I f.2 r E;refine SeqAt.in_listAt (uH s.heap<|dv M j) pl.isList (λw C=>iE F f.1 (by show X.A.units+1+60<p3;lia) m f.2 w (by simpa using C)) ⟨.bl _,H,I,rfl,?_⟩
     rw[show W5.toArray.any (uH s.heap<|dv M j)=W5.any (uH s.heap<|dv M j) by simp,i8 m]
     exact fin
    .obtain⟨W5,E,pl,_⟩:=I.tuple hq
     have m:=gb I f.2 r E;refine SeqAt.in_tupleAt (uH s.heap<|dv M j) pl (λw C=>iE F f.1 (by show X.A.units+1+60<p3;lia) m f.2 w (by simpa using C)) ⟨.bl _,H,I,rfl,?_⟩
     rw[show W5.toArray.any (uH s.heap<|dv M j)=W5.any (uH s.heap<|dv M j) by simp,i8 m]
     exact fin
   .cases e
  .split at e
   .split at e
    .rename_i o P
     cases e;cases J;cases L;rcases kW q G P with⟨rfl,g⟩|⟨d,w,rfl,g,_⟩
     .exact Ma (by lia) I g z λN I'=>⟨.bl _,H,I',rfl,fin⟩
     .exact Ma (by lia) I g z λN I'=>⟨.bl _,H,I',rfl,fin⟩
    .cases e
   .cases e
 .exact h.elim
theorem zG(W:X.A.units+64<p3):cC X (kc .NotIn) (liftR2 X vV):=by
 intro WZ s Z H x y v u Q I z L h;obtain⟨j,S,M,QQ,q,G,J,h,R⟩:=h;unfold vV at h
 split at h
 .rename_i k e
  have fin:=R _ M h _ H q Frm.refl rfl;unfold qZ at e
  split at e
  .rename_i U O
   split at e
   .rename_i f
    cases e;obtain⟨p,T,rfl,hq,r⟩:=ir q J O;cases L;have F:=oC I q f.1 G z;rcases hq with hq|hq
    .obtain⟨W5,E,pl,_⟩:=I.list hq
     have m:=gb I f.2 r E;refine SeqAt.notIn_listAt (uH s.heap<|dv M j) pl.isList (λw C=>iE F f.1 (by show X.A.units+1+60<p3;lia) m f.2 w (by simpa using C)) ⟨.bl _,H,I,rfl,?_⟩
     rw[show W5.toArray.any (uH s.heap<|dv M j)=W5.any (uH s.heap<|dv M j) by simp,i8 m]
     exact fin
    .obtain⟨W5,E,pl,_⟩:=I.tuple hq
     have m:=gb I f.2 r E;refine SeqAt.notIn_tupleAt (uH s.heap<|dv M j) pl (λw C=>iE F f.1 (by show X.A.units+1+60<p3;lia) m f.2 w (by simpa using C)) ⟨.bl _,H,I,rfl,?_⟩
     rw[show W5.toArray.any (uH s.heap<|dv M j)=W5.any (uH s.heap<|dv M j) by simp,i8 m]
     exact fin
   .cases e
  .split at e
   .split at e
    .rename_i o P
     cases e;cases J;cases L;rcases kW q G P with⟨rfl,g⟩|⟨d,w,rfl,g,_⟩
     .exact wv (by lia) I g z λN I'=>⟨.bl _,H,I',rfl,fin⟩
     .exact wv (by lia) I g z λN I'=>⟨.bl _,H,I',rfl,fin⟩
    .cases e
   .cases e
 .exact h.elim
end
structure DEnds where
 nx:Dl->Mem->Prop
 rt:DK
 bk:Dl->Mem->Prop:=λ_ _=>False
 ct:Dl->Mem->Prop:=λ_ _=>False
abbrev aD:=DEnds->Dl->Mem->Prop
def UpN(X:Cx)(B:Bd)(M:Mem)(H:Hp)(QQ:Dl->Mem->Prop)(Q:_2.St->Hp->Prop):Prop:=∀U M',QQ U M'->∀Z H',Frm M H M' H'->SR X B U M' Z H'->Q Z H'
theorem UpN.go{M1:Mem}{H1:Hp}{QQ:Dl->Mem->Prop}{Q:_2.St->Hp->Prop}(u:UpN X B M H QQ Q)(i:Frm M H M1 H1):UpN X B M1 H1 QQ Q:=λU M q Z H' a b=>u U M q Z H' (i.trans a) b
structure UpD(X:Cx)(B:Bd)(M:Mem)(H:Hp)(DD:DEnds)(D:Ends):Prop where
 nx:UpN X B M H DD.nx D.nx
 rt:Up X.K M H DD.rt D.rt
 bk:UpN X B M H DD.bk D.bk
 ct:UpN X B M H DD.ct D.ct
theorem UpD.go{M1:Mem}{H1:Hp}{DD:DEnds}{D:Ends}(u:UpD X B M H DD D)(i:Frm M H M1 H1):UpD X B M1 H1 DD D:=⟨u.nx.go i,u.rt.go i,u.bk.go i,u.ct.go i⟩
inductive liftS(X:Cx)(B:Bd)(T:aD)(D:Ends)(Z:St)(H:Hp):Prop
 |mk (U:Dl) (M:Mem) (DD:DEnds) (s:SR X B U M Z H) (h:T DD U M) (u:UpD X B M H DD D):liftS X B T D Z H
def DS(X:Cx)(B:Bd)(st:rc)(T:aD):Prop:=PS X st (liftS X B T)
def xO(X:Cx)(B:Bd)(st:Xc)(T:aD):Prop:=xC X st (liftS X B T)
section
variable{st:rc}{rest:Xc}{t u:aD}
def aE:aD:=λD U M=>D.nx U M
def ai(t u:aD):aD:=λD U M=>t { D with nx:=u D } U M
theorem F1:xO X B [] aE:=m4 EB λD Z H ⟨U,M,DD,s,h,f⟩=>f.nx U M h Z H Frm.refl s
theorem dI(w:DS X B st t)(v:xO X B rest u):xO X B (st::rest) (ai t u):=by
 refine m4 (Ct w v) ?_
 rintro D Z H ⟨U,M,DD,s,h,f⟩
 exact⟨U,M,{ DD with nx:=u DD },s,h,⟨λj M' q o H' i m=>⟨j,M',DD,m,q,f.go i⟩,f.rt,f.bk,f.ct⟩⟩
theorem fj(f:DS X B st t):xO X B [st] t:=Dy f
def bn(te:bp):aD:=λD U M=>te U M λ_ M1=>D.nx U M1
theorem FM(o:DE X B e te)(m:zt e cm pos.line X.env=pure false:=by rfl):DS X B (.Expr e pos) (bn te):=by
 refine bH (Dw o m) ?_
 rintro D Z H ⟨U,M,DD,s,h,j⟩
 exact⟨U,M,_,s,h,λd M' q v H' f i r=>j.nx U M' q Z H' i (s.go f i)⟩
def az(te:bp):aD:=λD U M=>te U M D.rt
theorem KQ(j:DE X B e te):DS X B (.Return (ap e) pos) (az te):=by
 refine bH (Lp j) ?_
 rintro D Z H ⟨U,M,DD,s,h,f⟩
 exact⟨U,M,_,s,h,f.rt⟩
def aH(c:eW)(t u:aD):aD:=λD U M=>c U M λb M1=>if b=true then t D U M1 else u D U M1
theorem O5{a b:Xc}{m:eW}(v:DT X B c m)(o:xO X B a t)(w:xO X B b u):DS X B (.If c a b pos) (aH m t u):=by
 refine bH (NL v o w) ?_
 rintro D Z H ⟨U,M,DD,s,h,j⟩
 refine⟨U,M,_,s,h,λc M' q H' f i=>?_⟩;cases c with
 |true=>rw[if_pos rfl]at q ⊢;exact⟨U,M',DD,s.go f i,q,j.go i⟩
 |false=>rw[if_neg OS]at q ⊢;exact⟨U,M',DD,s.go f i,q,j.go i⟩
abbrev j8:=D->Dl->Mem->(Dl->Mem->Prop)->Prop
abbrev nD:=List D->Dl->Mem->(Dl->Mem->Prop)->Prop
inductive liftG(X:Cx)(B:Bd)(g:j8)(v:V)(Z:St)(H:Hp)(Q:St->Hp->Prop):Prop
 |mk (d:_3.D) (U:Dl) (M:Mem) (QQ:Dl->Mem->Prop) (s:SR X B U M Z H) (r:Rp X.K H d v) (h:g d U M QQ) (u:UpN X B M H QQ Q):liftG X B g v Z H Q
inductive liftGs(X:Cx)(B:Bd)(g:nD)(vs:List V)(Z:St)(H:Hp)(Q:St->Hp->Prop):Prop
 |mk (ds:List _3.D) (U:Dl) (M:Mem) (QQ:Dl->Mem->Prop) (s:SR X B U M Z H) (r:Rps X.K H ds vs) (h:g ds U M QQ) (u:UpN X B M H QQ Q):liftGs X B g vs Z H Q
def DG(X:Cx)(B:Bd)(tg:fy)(g:j8):Prop:=PG X tg (liftG X B g)
def Oc(X:Cx)(B:Bd)(tgs:Xb)(g:nD):Prop:=Ld X tgs (liftGs X B g)
theorem lb{t t':TG}(h:PG X tg t)(w:∀v Z H Q,t' v Z H Q->t v Z H Q):PG X tg t':=λf s Z H v u Q I r q=>h f s Z H v u Q I r (w v Z H Q q)
theorem tM{tg:Xb}{t t':GJ}(h:Ld X tg t)(w:∀v Z H Q,t' v Z H Q->t v Z H Q):Ld X tg t':=λf s Z H v u Q I r q=>h f s Z H v u Q I r (w v Z H Q q)
theorem SR.set{U:Dl}{d:D}{v:V}(s:SR X B U M Z H)(r:Rp X.K H d v):SR X B (U.set i<|some d) M (Z.set i<|some v) H:=⟨s.i0,s.rh,s.rs.set r⟩
def ag(i:Nat):j8:=λd U M Q=>Q (U.set i<|some d) M
theorem EN(f:X.N.Nodup)(o:X.N[i]?=ap x)(m:Ap X.env.scope x)(j:X.fn x=true\/X.env.scope.names.lookup x=ap .local:=by first|exact .inl rfl|exact .inr rfl|assumption):DG X B (.Name x pos) (ag i):=by
 refine lb (Fg f o m j) ?_
 rintro v Z H Q ⟨d,U,M,QQ,s,r,h,u⟩
 exact u _ M h _ H Frm.refl (s.set r)
def eY:nD:=λf U M Q=>match f with
 |[]=>Q U M
 |_=>False
def b6(t:j8)(u:nD):nD:=λh U M Q=>match h with
 |d::r=>t d U M λf M'=>u r f M' Q
 |[]=>False
theorem Eu:Oc X B [] eY:=by
 refine tM F6 ?_
 rintro v Z H Q ⟨f,U,M,QQ,s,r,h,u⟩
 cases f with
 |nil=>exact⟨r,u U M h Z H Frm.refl s⟩
 |cons _ _=>exact(show False from h).elim
theorem AX{t:j8}{u:nD}(G:DG X B e t)(F:Oc X B es u)(E:(py (e::es) X.env).map (·.2)=V0 e X.env::(py es X.env).map (·.2):=by rfl):Oc X B (e::es) (b6 t u):=by
 refine tM (Bf G F E) ?_
 rintro v Z H Q ⟨f,U,M,QQ,s,r,h,y⟩
 cases f with
 |nil=>exact(show False from h).elim
 |cons d f=>
  obtain⟨v1,z,rfl,o,C⟩:=r;refine⟨v1,z,rfl,d,U,M,_,s,o,h,λj M' q w H' i m=>?_⟩;exact⟨f,j,M',QQ,m,C.mf s.rh i,q,y.go i⟩
def fG(n:Nat)(t:nD):j8:=λd U M Q=>match d with
 |.tup xs=>xs.length=n/\t xs U M Q
 |_=>False
theorem IK{k:Nat}{t:nD}(q:X.calm=true)(h:Oc X B es t)(o:(py es X.env).length=n:=by rfl)(hst:(py es X.env).findIdx? (·.1)=none:=by rfl):DG X B (.Tuple es k pos) (fG n t):=by
 refine lb (HY q h o hst) ?_
 rintro v Z H Q ⟨d,U,M,QQ,s,r,h,f⟩
 cases d with
 |tup xs=>
  obtain⟨p,j,rfl,m,r⟩:=r;exact⟨p,j,rfl,m.sq,by rw[<- r.length];exact h.1,xs,U,M,QQ,s,r,h.2,f⟩
 |_=>exact(show False from h).elim
def ar(te:bp)(g:j8):aD:=λD U M=>te U M λx M1=>g x U M1 D.nx
theorem JR(w:DE X B e te)(m:DG X B tg g)(o:V4 [tg] e pos.line X.env=pure false:=by rfl)(hw:V5 [tg] e X.env=pure none:=by rfl)(h1:(py [tg] X.env).map (·.2)=[V0 tg X.env]:=by rfl):DS X B (.Assign [tg] e pos) (ar te g):=by
 refine bH (IF w m o hw h1) ?_
 rintro D Z H ⟨U,M,DD,s,h,j⟩
 refine⟨U,M,_,s,h,λd M' q v H' f i r=>?_⟩;exact⟨d,U,M',DD.nx,s.go f i,r,q,j.nx.go i⟩
theorem IL(m:X.N.Nodup)(y:X.N[i]?=ap x)(o:Ap X.env.scope x)(w:DE X B e te)(z:zt e (ap<|.Name x pos') pos.line X.env=pure false:=by rfl)(hf:X.fn x=true\/X.env.scope.names.lookup x=ap .local:=by first|exact .inl rfl|exact .inr rfl|assumption):
  DS X B (.Assign [.Name x pos'] e pos) (ar te<|ag i):=by
 refine bH (JS m y o w z hf) ?_
 rintro D Z H ⟨U,M,DD,s,h,j⟩
 refine⟨U,M,_,s,h,λd M' q v H' f i r=>?_⟩;exact j.nx _ M' q _ H' i ((s.go f i).set r)
def Ao(i:Nat)(te:bp)(r:eU):aD:=λD U M=>match U[i]? with
 |some (ap x)=>te U M λy M1=>r x y M1 λz M2=>D.nx (U.set i<|some z) M2
 |_=>False
theorem Kr{q:VR}{r:eU}(P:X.N.Nodup)(T:X.N[i]?=ap x)(R:Ap X.env.scope x)(S:DE X B e te)(Q:Bq X q (liftR2 X r))(W:X.fn x=true\/X.env.scope.names.lookup x=ap .local:=by first|exact .inl rfl|exact .inr rfl|assumption):
  DS X B (.AugAssign (.Name x pos') q e pos) (Ao i te r):=by
 refine bH (Kl P T R S Q W) ?_
 rintro D Z H ⟨U,M,DD,s,h,L⟩
 unfold Ao at h
 split at h
 .rename_i m F
  obtain⟨v,J,G⟩:=s.rs.get i m F;refine⟨v,J,U,M,_,s,h,λy M1 C w H1 f i1 I=>?_⟩;refine⟨m,y,M1,_,f,G.mf s.rh i1,I,C,λz M2 E Y H2 j o O=>?_⟩;exact L.nx _ M2 E _ H2 (i1.trans o) ((s.go j<|i1.trans o).set O)
 .exact h.elim
theorem HN{o:VR}{g:Int->Int->Int}(h:Bq X o (ipI g)):Bq X o (liftR2 X (j7 λi j=>.int (g i j))):=by
 intro m s Z H x y v u Q I E F f;obtain⟨J,G,M,QQ,z,q,w,f,C⟩:=f;unfold j7 at f
 split at f
 .cases q;cases w
  exact h m s Z H _ _ v u Q I E F ⟨_,_,rfl,rfl,C _ M f _ H z Frm.refl rfl⟩
 .exact f.elim
abbrev oy:eU:=j7 λi j=>.int (i+j)
theorem xq:Bq X .Add (liftR2 X oy):=HN Jv
theorem EG:Bq X .Sub (liftR2 X fF):=HN Ln
def m9(o i v:D)(M:Mem)(Q:Mem->Prop):Prop:=match o with
 |.ref a=>match M a,i with
  |some (.lst xs),.int k=>match rS xs.length k with
   |some j=>Q (M.upd a<|.lst<|xs.set j v)
   |none=>False
  |some (.dK W1),y=>match cH y with
   |some k=>W1.length<sizeLine/\Q (M.upd a<|.dK<|eD W1 k v)
   |none=>False
  |some (.dT W1),y=>match Ic y with
   |some k=>W1.length<sizeLine/\Q (M.upd a<|.dT<|eD W1 k v)
   |none=>False
  |_,_=>False
 |_=>False
inductive liftSet(X:Cx)(o i v:V)(H:Hp)(Q:Hp->Prop):Prop
 |mk (d1 d2 d3:_3.D) (M:Mem) (QQ:Mem->Prop) (rh:RepH X.K H M) (r1:Rp X.K H d1 o) (r2:Rp X.K H d2 i) (r3:Rp X.K H d3 v) (h:m9 d1 d2 d3 M QQ) (u:∀M',QQ M'->∀H',RepH X.K H' M'->Frm M H M' H'->Q H'):liftSet X o i v H Q
theorem wq(hu:X.A.units+1<p3):FQ X (liftSet X):=by
 intro WZ s Z H o i v ov iv u Q I ro ri rv h;obtain⟨d1,d2,d3,M,QQ,rh,r1,r2,r3,h,up⟩:=h;unfold m9 at h
 split at h
 .rename_i a
  cases r1;cases ro
  split at h
  .rename_i xs k hM
   cases r2;obtain⟨vs,h1,h2⟩:=rh _ _ hM
   split at h
   .rename_i j ej
    refine C2 WZ s Z H (.ref a) _ v _ iv u Q I rfl ri rv ⟨a,vs,k,j,rfl,rfl,h1,by rw[<- h2.length];exact ej,?_⟩
    have i2:Imm H (upd H a<|.lst<|vs.set j v):=Imm.upd (by rw[h1];trivial)
    exact up _ h _ (rh.put (by rw[h1];trivial) ⟨_,upd_same,(h2.set r3 j).mono i2⟩) (Frm.put<|.inr ⟨_,hM⟩)
   .exact h.elim
  .rename_i W1 hM
   obtain⟨ws,h1,h2⟩:=rh _ _ hM
   split at h
   .rename_i k ek
    have ev:=gu r2 ek;subst ev;have i2:Imm H (upd H a<|.dK<|cL ws k v):=Imm.upd (by rw[h1];trivial)
    refine nY hu I (DPut.k h1<|by rw[<- h2.length];exact h.1) ri rv λs' I'=>⟨_,I',?_⟩
    exact up _ h.2 _ (rh.put (by rw[h1];trivial) ⟨_,upd_same,(h2.put k r3).mono i2⟩) (Frm.put<|.inr ⟨_,hM⟩)
   .exact h.elim
  .rename_i W1 hM
   obtain⟨ws,h1,h2⟩:=rh _ _ hM
   split at h
   .rename_i k ek
    obtain⟨b,rfl,hb⟩:=tJ r2 ek;have i2:Imm H (upd H a<|.dT<|cL ws k v):=Imm.upd (by rw[h1];trivial)
    refine nY hu I (DPut.t h1 hb<|by rw[<- h2.length];exact h.1) ri rv λs' I'=>⟨_,I',?_⟩
    exact up _ h.2 _ (rh.put (by rw[h1];trivial) ⟨_,upd_same,(h2.put k r3).mono i2⟩) (Frm.put<|.inr ⟨_,hM⟩)
   .exact h.elim
  .exact h.elim
 .exact h.elim
def cT(to ti:bp):j8:=λv U M Q=>to U M λo M1=>ti U M1 λi M2=>m9 o i v M2 λM3=>Q U M3
theorem Ih{o i:fy}{to ti:bp}(N:X.A.units+1<p3)(O:DE X B o to)(P:DE X B i ti)(L:∀v,V0 (.Subscript o i pos) X.env v=(do
   let ov <- tm [v] (gp o X.env)
   let iv <- tm [v,ov] (gp i X.env)
   TD pos
   tm [v,ov,iv] (Wh ov iv v)
   release [v,ov,iv] []):=by intro _;rfl):DG X B (.Subscript o i pos) (cT to ti):=by
 refine lb (Ks O P (wq N) L) ?_
 rintro v Z H Q ⟨d,U,M,QQ,s,r,h,I⟩
 refine⟨U,M,_,s,h,λx M1 C v1 H1 f m F=>?_⟩;refine⟨U,M1,_,s.go f m,C,λy M2 E v2 H2 q j J=>?_⟩;exact⟨x,y,d,M2,_,q,F.mf f j,J,r.mf s.rh (m.trans j),E,λM3 G H3 w z=>I U M3 G Z H3 ((m.trans j).trans z) (s.go w<|(m.trans j).trans z)⟩
end
section
variable{o value:fy}{f:Str}{tpos:Pos}{ta tv:bp}{C:eg}
def bC(f:Str)(v:D):List (Str×D)->List (Str×D)
 |[]=>[(f,v)]
 |(g,w)::r=>if g=f then (g,v)::r else (g,w)::bC f v r
theorem Rkv.lookup{fs:List (Str×D)}{j:List (Str×V)}(h:Rkv K H fs j)(f:Str):(fs.lookup f=cm/\j.lookup f=cm)\/∃d v,fs.lookup f=ap d/\j.lookup f=ap v/\Rp K H d v:=by
 induction h with
 |nil=>exact .inl ⟨rfl,rfl⟩
 |@cons p q ps qs r t ih=>
  obtain⟨m,d⟩:=p;obtain⟨y,v⟩:=q;obtain⟨e,r⟩:=r;dsimp only at e r;subst e;rw[QL,QL];cases w:f==m with
  |true=>exact .inr ⟨d,v,rfl,rfl,r⟩
  |false=>exact ih
theorem F7(f:Str)(v:V):∀h:List (Str×V),cV f v h=(match h with|[]=>[(f,v)]|(g,w)::r=>if g=f then (g,v)::r else (g,w)::cV f v r)
 |[]=>rfl
 |(g,w)::r=>by rw[cV]
theorem j5{K:Ow}{H:Hp}{f:Str}{d:D}{v:V}(h:Rp K H d v):∀{fs:List (Str×D)}{ws:List (Str×V)},Rkv K H fs ws->Rkv K H (bC f d fs) (_2.cV f v ws)
 |_,_,.nil=>.cons ⟨rfl,h⟩ .nil
 |(k1,d1)::fs,(k2,v1)::ws,.cons r t=>by
  obtain⟨e,r⟩:=r;dsimp only at e r;subst e;rw[F7];show Rkv K H (if k1=f then (k1,d)::fs else (k1,d1)::bC f d fs) (if k1=f then (k1,v)::ws else (k1,v1)::_2.cV f v ws)
  split
  .exact .cons ⟨rfl,h⟩ t
  .exact .cons ⟨rfl,r⟩ (j5 h t)
def aX(C:eg)(ta:bp)(f:Str):bp:=λU M Q=>ta U M λx M1=>match x with
 |.ref a=>match M1 a with
  |some (.ins C' fs)=>C'=C/\match fs.lookup f with
   |some d=>Q d M1
   |none=>False
  |_=>False
 |_=>False
theorem Ky(c:Cls X.K C)(n:NoAttr X.K C f)(N:DE X B e ta)(L:nr e f X.env (gp e X.env)=gp e X.env:=by rfl):DE X B (.Attribute e f pos) (aX C ta f):=by
 refine a_ (KM N L) ?_
 rintro Z H Q ⟨U,M,QQ,s,h,u⟩
 refine⟨U,M,_,s,h,λx M1 j v1 H1 m E F=>?_⟩
 split at j
 .rename_i a
  cases F
  split at j
  .rename_i C' fs I
   obtain⟨rfl,j⟩:=j;obtain⟨G,J,y,w⟩:=m _ _ I
   split at j
   .rename_i d q
    rcases w.lookup f with⟨z,_⟩|⟨d',v,z1,z2,z3⟩
    .rw[q]at z;cases z
    .rw[q]at z1;cases z1
     exact⟨a,_,G,J,v,rfl,y,c,n,z2,u _ M1 j _ H1 m E z3⟩
   .exact j.elim
  .exact j.elim
 .exact j.elim
def ck(C:eg)(ta tv:bp)(f:Str):aD:=λD U M=>tv U M λy M1=>ta U M1 λx M2=>match x with
 |.ref a=>match M2 a with
  |some (.ins C' fs)=>C'=C/\fs.length<1000/\D.nx U (M2.upd a<|.ins C<|bC f y fs)
  |_=>False
 |_=>False
theorem KZ(c:Cls X.K C)(n:NoAttr X.K C f)(ha:DE X B o ta)(hv:DE X B value tv)(hs:zt value (ap<|.Attribute o f pos') pos.line X.env=pure false:=by rfl):DS X B (.Assign [.Attribute o f pos'] value pos) (ck C ta tv f):=by
 refine bH (L5 ha hv hs) ?_
 rintro D Z H ⟨U,M,DD,s,h,up⟩
 refine⟨U,M,_,s,h,λy M1 h1 v1 H1 rh1 i1 r1=>?_⟩;refine⟨U,M1,_,s.go rh1 i1,h1,λx M2 h2 v2 H2 rh2 i2 r2=>?_⟩
 split at h2
 .rename_i a
  cases r2
  split at h2
  .rename_i C' fs hM
   obtain⟨rfl,hl,h2⟩:=h2;obtain⟨dx,ws,e1,e2⟩:=rh2 _ _ hM;have i3:Frm M2 H2 (M2.upd a<|.ins C'<|bC f y fs) (upd H2 a<|.ins C' dx<|_2.cV f v1 ws):=Frm.put (.inr ⟨_,hM⟩);refine⟨a,C',dx,ws,rfl,e1,c,n,by rw[<- e2.length];exact hl,up.nx _ _ h2 Z _ ((i1.trans i2).trans i3)<|s.go (rh2.put (by rw[e1];trivial) ⟨dx,_,upd_same,?_⟩)<|(i1.trans i2).trans i3⟩
   exact(j5 (r1.mf rh1 i2) e2).mono (i3.imm rh2)
  .exact h2.elim
 .exact h2.elim
structure BxW(c:eW)(tb:aD)(D:DEnds):Type
structure BxF(g:j8)(tb:aD)(D:DEnds)(ok:Mem->Prop):Type
def bW(c:eW)(tb:aD)(D:DEnds)(bx:BxW c tb D):Nat->Dl->Mem->Prop
 |0,_,_=>False
 |n+1,U,M=>c U M λb M1=>if b=true then tb { D with nx:=bW c tb D bx n,ct:=bW c tb D bx n,bk:=D.nx } U M1 else D.nx U M1
def dq(c:eW)(tb:aD):aD:=λD U M=>∃n,bW c tb D ⟨⟩ n U M
theorem CV{v:Xc}{I:eW}(T:WE (ff X.prog X.w) X.A X.env X.xe)(W:DT X B c I)(Y:xO X B v tb):DS X B (.While c v [] pos) (dq I tb):=by
 refine bH (D4 T W Y) ?_
 rintro D Z H ⟨U,M,DD,s,⟨n,h⟩,P⟩
 refine⟨λm j H'=>∃δ' M',SR X B δ' M' j H'/\Frm M H M' H'/\bW I tb DD ⟨⟩ m δ' M',⟨n,U,M,s,Frm.refl,h⟩,?_⟩
 rintro m R H1 ⟨G,M1,N,i1,S⟩
 cases m with
 |zero=>exact(show False from S).elim
 |succ m=>
  refine⟨G,M1,_,N,S,λb M2 q H2 F y=>?_⟩;cases b with
  |false=>rw[if_neg OS]at q ⊢;exact P.nx _ _ q R H2 (i1.trans y) (N.go F y)
  |true=>
   rw[if_pos rfl]at q ⊢;refine⟨λj H'=>∃δ' M',SR X B δ' M' j H'/\Frm M H M' H'/\bW I tb DD ⟨⟩ m δ' M',λj H' z=>⟨m,Rb _,z⟩,?_⟩;refine⟨G,M2,_,N.go F y,q,⟨?_,(P.go<|i1.trans y).rt,(P.go<|i1.trans y).nx,?_⟩⟩
   .exact λE M3 L J H3 Q O=>⟨E,M3,O,(i1.trans y).trans Q,L⟩
   .exact λE M3 L J H3 Q O=>⟨E,M3,O,(i1.trans y).trans Q,L⟩
structure DIt where
 items:List D
 src:List (eg×List D)
def DIt.ok(I:DIt)(M:Mem):Prop:=∀p∈I.src,M p.1=ap (.lst p.2)
abbrev A2:=Dl->Mem->(DIt->Mem->Prop)->Prop
def Nv(K:Ow)(H0:Hp)(it:DIt)(J:It):Prop:=∀(i:Nat)(H:Hp)(M:Mem),Imm H0 H->RepH K H M->it.ok M->
 (∀d,it.items[i]?=ap d->J.go i H/\∀x H',J.yld i H x H'->Frm M H M H'/\RepH K H' M/\Rp K H' d x)/\(it.items.length<=i->J.stop i H)
inductive liftI(X:Cx)(B:Bd)(T:A2)(Z:St)(H:Hp)(R:It->Hp->Prop):Prop
 |mk (U:Dl) (M:Mem) (RR:DIt->Mem->Prop) (s:SR X B U M Z H) (h:T U M RR) (u:∀it M',RR it M'->∀J H',RepH X.K H' M'->Frm M H M' H'->Nv X.K H' it J->R J H'):liftI X B T Z H R
def DI(X:Cx)(B:Bd)(tg iter:fy)(T:A2):Prop:=PI X tg iter (liftI X B T)
theorem kE{j:fy}{t t':TI}(h:PI X tg j t)(w:∀Z H Q,t' Z H Q->t Z H Q):PI X tg j t':=λm s Z H Q I q=>h m s Z H Q I (w Z H Q q)
def gL(g:j8)(tb:aD)(DD:DEnds)(ok:Mem->Prop)(b:BxF g tb DD ok):List D->Dl->Mem->Prop
 |[],U,M=>ok M/\DD.nx U M
 |x::xs,U,M=>ok M/\g x U M λh M2=>tb { DD with nx:=gL g tb DD ok b xs,ct:=gL g tb DD ok b xs,bk:=DD.nx } h M2
def cF(wi:A2)(g:j8)(tb:aD):aD:=λD U M=>wi U M λh M1=>gL g tb D h.ok ⟨⟩ h.items U M1
theorem ET{DD:DEnds}{ok:Mem->Prop}{b:BxF g tb DD ok}{xs:List D}{U:Dl}(h:gL g tb DD ok b xs U M):ok M:=by
 cases xs with
 |nil=>exact h.1
 |cons _ _=>exact h.1
theorem JT{j:fy}{E:Xc}{wi:A2}(hp:WE (ff X.prog X.w) X.A X.env X.xe)(hc:X.calm=true)(hi:DI X B tg j wi)(hg:DG X B tg g)(hb:xO X B E tb)(hs:∀x,z0 j X.env x=pure x:=by intro _;rfl):DS X B (.For tg j E [] pos) (cF wi g tb):=by
 refine bH (Iw hp hc hi hg hb hs) ?_
 rintro D Z H ⟨U,M,DD,s,h,up⟩
 refine⟨U,M,_,s,h,λy M1 h1 J H1 N i1 hJ=>?_⟩;refine⟨λi m q H'=>m=y.items.length-i/\i<=y.items.length/\∃δ' M',SR X B δ' M' q H'/\Frm M1 H1 M' H'/\gL g tb DD y.ok ⟨⟩ (y.items.drop i) δ' M',⟨_,rfl,Qf _,U,M1,s.go N i1,Frm.refl,h1⟩,?_⟩
 rintro i m σ2 H2 ⟨rfl,hi',δ2,M2,W,O,L⟩
 have Q:=ET L;obtain⟨hgo,I⟩:=hJ i H2 M2 (O.imm N) W.rh Q
 by_cases G:i<y.items.length
 .rw[QO G]at L
  obtain⟨go,hy⟩:=hgo _ (Ov G);refine .inr ⟨go,λq H'=>∃δ' M',SR X B δ' M' q H'/\Frm M1 H1 M' H'/\gL g tb DD y.ok ⟨⟩ (y.items.drop (i+1)) δ' M',λq H' z=>⟨y.items.length-(i+1),by omega,rfl,G,z⟩,λx H3 hx=>?_⟩
  obtain⟨i3,P,rx⟩:=hy x H3 hx;refine⟨_,δ2,M2,_,W.go P i3,rx,L.2,λT M4 h4 σ4 H4 i4 s4=>?_⟩;have v:=(O.trans i3).trans i4;refine⟨T,M4,_,s4,h4,⟨?_,(up.go<|i1.trans v).rt,(up.go<|i1.trans v).nx,?_⟩⟩
  .exact λF M5 R Y H5 i5 S=>⟨F,M5,S,v.trans i5,R⟩
  .exact λF M5 R Y H5 i5 S=>⟨F,M5,S,v.trans i5,R⟩
 .rw[R8 (by omega)]at L
  exact .inl ⟨I (by omega),up.nx _ _ L.2 σ2 H2 (i1.trans O) W⟩
end
end _3
namespace _2
open PySem PySem.Spec PyProof.Rows
section
variable {X:Cx}{B:Bd}{tg:fy}
def MU(K:Ow)(tl:TE):TI:=λZ H R=>tl Z H λx H1=>∃a b xs,x=.ref a/\A9 K b H1 a xs/\R (if b=true then Itl K a else Itt K a) H1
theorem El{l:fy}{n:TE}(A:PE X l n):PI X tg l (MU X.K n):=by
 intro g s Z H R I h;refine br (A g s Z H _ I h) λv c ⟨x,H1,I1,w,y⟩=>?_;obtain⟨a,b,m,e,j,q⟩:=y;subst e;cases w;cases b with
 |true=>
  obtain⟨f,u,p,z⟩:=I1.list (show SqL X.K H1 a m from j);refine V9 p.isList ?_;refine⟨c.heap.objs.size,[c.heap.objs.size],_,_,H1,rfl,I1.kept (t':=c.toks) λb o e=>Oq _ e,zO a _,⟨_,OD _ rfl,rfl,rfl⟩,λb i=>?_,q⟩;have e:b=c.heap.objs.size:=by simpa using i
  subst e;exact I1.fpOk (Oz _) (I1.hok.fresh<|Oz _)
 |false=>
  obtain⟨f,u,p,z⟩:=I1.tuple (show i7 X.K H1 a m from j);refine wpAny_pyIter_tuple (show c.heap.IsTuple a f.toArray from p) ?_;refine⟨c.heap.objs.size,[c.heap.objs.size],_,_,H1,rfl,I1.kept (t':=c.toks) λb o e=>Oq _ e,vQ a _,⟨_,OD _ rfl,rfl,rfl⟩,λb i=>?_,q⟩;have e:b=c.heap.objs.size:=by simpa using i
  subst e;exact I1.fpOk (Oz _) (I1.hok.fresh<|Oz _)
def JW(K:Ow)(t:TA):TI:=λZ H R=>t Z H λa H1=>∃b l xs,a=[.ref l]/\A9 K b H1 l xs/\R (Ite K b l) H1
theorem CZ{a:fy}{j:Xb}{G:Nat}{tp:Pos}{w:TA}{p pos:Pos}(L:Gl X "enumerate")(M:X.mg "enumerate"=cm)(J:PA X [a] w)(N:fe [a] X.env=[(eC,gp a X.env)]:=by rfl):
  PI X (.Tuple j G tp) (.Call (.Name "enumerate" p) [a] [] pos) (JW X.K w):=by
 intro g s Z H R I h;refine Call_ (eG I L M (by decide +kernel:gl "enumerate"=ap (.type "enumerate"))<|Pk (br (J pos g s Z H _ I h) λQ f ⟨S,H1,I1,A,n⟩=>?_) N rfl)
 obtain⟨b,l,O,e,n,q⟩:=n;subst e;obtain⟨T,rfl,m⟩:=A.one;cases m;obtain⟨C,P,sq,z⟩:=I1.src n;refine A0 sq λv u y F E=>?_;have I2:Inv X g Z H1 { f with heap:=v }:=I1.kept (t':=f.toks) E;refine wpAny_pyIter_enum (s:={ f with heap:=v }) u ?_;refine⟨f.heap.objs.size+1,[f.heap.objs.size+1,f.heap.objs.size],_,_,H1,rfl,I2,zR b l _ _ (show (_:Nat)≠(_:Nat) by lia),⟨⟨_,u⟩,y⟩,λc x=>?_,q⟩
 have i:f.heap.objs.size<=c:=by
  have o:c=f.heap.objs.size+1\/c=f.heap.objs.size:=by simpa using x
  rcases o with e|e<;>rw[e]<;>first|exact P0 _ _|exact Oz _
 exact I1.fpOk (H':=H1) i (I1.hok.fresh i)
end
end _2
namespace _3
open PySem _2
variable{C f:eg}{B:Bd}{X:Cx}{Q:DK}{EE:DX}{U:Dl}{a e:fy}{fd:g4}{base:hI}{H H':Hp}{Z:_2.St}{es:Xb}{N ps:W8}{M M':Mem}{n:Nat}{K:Ow}{W4 p pos:Pos}{P:fx}{scope:z4}{T:Sd}{st:rc}{W0 x:Str}{mg:Xf}{w:g3}{E:XK}{ta:fg}{g:j8}
section
variable{tg:fy}
def bE(d:D)(xs:List D):List (eg×List D):=match d with
 |.ref a=>[(a,xs)]
 |_=>[]
theorem Bb{d:D}{v:V}{xs:List D}(s:RepH K H M)(r:Rp K H d v)(e:aI M d=ap xs):∃p b,v=.ref p/\∀H' M',Imm H H'->RepH K H' M'->(∀q∈bE d xs,M' q.1=ap (.lst q.2))->∃vs,A9 K b H' p vs/\Rps K H' xs vs:=by
 cases d with
 |tup ys=>
  cases e;obtain⟨p,vs,rfl,h,r⟩:=r;exact⟨p,eC,rfl,λH' M' i _ _=>⟨vs,(h.mono i).sq,r.mono i⟩⟩
 |lst ys=>
  cases e;obtain⟨p,vs,rfl,h,r⟩:=r;exact⟨p,true,rfl,λH' M' i _ _=>⟨vs,(h.mono i).sq,r.mono i⟩⟩
 |mt ys=>
  cases e;obtain⟨p,vs,rfl,h,r⟩:=r;exact⟨p,eC,rfl,λH' M' i _ _=>⟨vs,h.sq,r.mono i⟩⟩
 |ml ys=>
  cases e;obtain⟨p,vs,rfl,h,r⟩:=r;exact⟨p,true,rfl,λH' M' i _ _=>⟨vs,(h.mono i).sq,r.mono i⟩⟩
 |ref a=>
  refine⟨a,true,r,λH' M' i c o=>?_⟩;obtain⟨vs,j,m⟩:=c _ _ (o (a,xs)<|by simp[bE])
  exact⟨vs,SqL.of j,m⟩
 |_=>cases e
theorem AB{d:D}{xs:List D}(e:aI M d=ap xs):∀q∈bE d xs,M q.1=ap (.lst q.2):=by
 cases d with
 |ref a=>
  intro q b;have:q=(a,xs):=by simpa [bE] using b
  subst this;simp only[aI]at e
  split at e
  .rename_i c h;cases e;exact h
  .cases e
 |_=>intro q b;simp[bE]at b
def bG(te:bp):A2:=λU M R=>te U M λd M1=>match aI M1 d with
 |some xs=>R ⟨xs,bE d xs⟩ M1
 |none=>False
theorem IT{l:fy}{O:bp}(A:DE X B l O):DI X B tg l (bG O):=by
 refine kE (El A) ?_
 rintro Z H R ⟨U,M,RR,s,h,up⟩
 refine⟨U,M,_,s,h,λd M1 J v H1 q W Y=>?_⟩
 split at J
 .rename_i xs e
  obtain⟨p,b,rfl,m⟩:=Bb q Y e;obtain⟨vs,hq,_⟩:=m H1 M1 Imm.refl q (AB e);refine⟨p,b,vs,rfl,hq,up _ M1 J _ H1 q W λi H2 M2 S y L=>?_⟩;obtain⟨c,j,I⟩:=m H2 M2 S y L;have A:=I.length;cases b with
  |true=>
   refine⟨λd G=>?_,λu=>⟨c,j,by rw[<- A];exact u⟩⟩
   obtain⟨w,z,o⟩:=I.get G;refine⟨⟨c,w,j,z⟩,?_⟩
   rintro x H3 ⟨rfl,F⟩
   have:=F c j;rw[z]at this;cases this;exact⟨Frm.refl,y,o⟩
  |false=>
   refine⟨λd G=>?_,λu=>⟨c,j,by rw[<- A];exact u⟩⟩
   obtain⟨w,z,o⟩:=I.get G;refine⟨⟨c,w,j,z⟩,?_⟩
   rintro x H3 ⟨rfl,F⟩
   have:=F c j;rw[z]at this;cases this;exact⟨Frm.refl,y,o⟩
 .exact J.elim
def dR(lo:Int)(n:Nat):List D:=(Pe n).map λ(i:Nat)=>D.int (lo+i)
def fE(t:fg):A2:=λU M R=>t U M λb M1=>match b with
 |[.int j]=>-(2 ^ 62)<=j/\j<2 ^ 62/\R ⟨dR 0 j.toNat,[]⟩ M1
 |_=>False
theorem J7{m:Int}:Nv K H ⟨dR m n,[]⟩ (Itr m n):=λi H2 M2 u o _=>by
 have b:(dR m n).length=n:=by simp[dR]
 refine⟨λd j=>?_,λc=>by rw[b]at c;exact c⟩
 have q:i<n:=by
  rcases Qg i n with h|h
  .exact h
  .rw[Pr (by rw[b];exact h)]at j;cases j
 have s:d=.int (m+i):=by
  simp only[dR,OJ,Qk q]at j;exact(Px j).symm
 subst s;refine⟨q,?_⟩
 rintro x H3 ⟨rfl,rfl⟩
 exact⟨Frm.refl,o,rfl⟩
theorem zS(u:Gl X "range")(y:X.mg "range"=cm)(q:DA X B [a] ta)(z:fe [a] X.env=[(eC,gp a X.env)]:=by rfl):DI X B tg (.Call (.Name "range" p) [a] [] pos) (fE ta):=by
 refine kE (z8 u y q z) ?_
 rintro Z H R ⟨U,M,RR,s,h,o⟩
 refine⟨U,M,_,s,h,λds M1 b A H1 c i m=>?_⟩
 split at b
 .obtain⟨v,rfl,j⟩:=gJ (ds:=[]) m
  cases j;exact⟨_,rfl,b.1,b.2.1,o _ M1 b.2.2 _ H1 c i J7⟩
 .exact b.elim
def sM(xs:List D):List D:=(xs.zipIdx).map λp=>D.tup [.int (p.2:Nat),p.1]
theorem yY{xs:List D}{i:Nat}:(sM xs)[i]?=(xs[i]?).map λd=>D.tup [.int (i:Nat),d]:=by
 simp[sM,OJ,List.getElem?_zipIdx];cases xs[i]?<;>simp
def jE(t:fg):A2:=λU M R=>t U M λb M1=>match b with
 |[d]=>match aI M1 d with
  |some xs=>R ⟨sM xs,bE d xs⟩ M1
  |none=>False
 |_=>False
theorem DC{y:Xb}{x1:Nat}{tp:Pos}(hg:Gl X "enumerate")(hm:X.mg "enumerate"=cm)(ha:DA X B [a] ta)(hs:fe [a] X.env=[(eC,gp a X.env)]:=by rfl):
  DI X B (.Tuple y x1 tp) (.Call (.Name "enumerate" p) [a] [] pos) (jE ta):=by
 refine kE (CZ hg hm ha hs) ?_
 rintro Z H R ⟨U,M,RR,s,h,up⟩
 refine⟨U,M,_,s,h,λds M1 u O H1 o i1 r1=>?_⟩
 split at u
 .obtain⟨v,rfl,rv⟩:=gJ (ds:=[]) r1
  split at u
  .rename_i xs e
   obtain⟨p,b,rfl,c⟩:=Bb o rv e;obtain⟨O,hq,_⟩:=c H1 M1 Imm.refl o (AB e);refine⟨b,p,O,rfl,hq,up _ M1 u _ H1 o i1 λi H2 M2 W q G=>?_⟩;obtain⟨j,m,L⟩:=c H2 M2 W q G;have hl:=L.length;refine⟨λd J=>?_,λF=>⟨j,m,by rw[<- hl];simpa [sM] using F⟩⟩
   rw[yY]at J;obtain⟨d0,I,rfl⟩:=RZ.mp J;obtain⟨w,S,z⟩:=L.get I;refine⟨⟨j,w,m,S⟩,?_⟩
   rintro x H3 ⟨T,x',A,rfl,rfl,Y⟩
   have:=Y j m;rw[S]at this;cases this;have i3:Imm H2 (upd H2 T<|.tup [.int i,w]):=Imm.new A;exact⟨Frm.new A,q.new A,T,_,rfl,upd_same,.cons rfl<|.cons (z.mono i3) .nil⟩
  .exact u.elim
 .exact u.elim
end
def DJ:Bd:=⟨λ_ _=>True,λ_ _=>trivial⟩
section
inductive liftE0(K:Ow)(T:bp)(Z:_2.St)(H:Hp)(Q:VK):Prop
 |mk (U:Dl) (M:Mem) (QQ:DK) (rh:RepH K H M) (rs:RepS K H U Z) (h:T U M QQ) (u:Up K M H QQ Q):liftE0 K T Z H Q
inductive liftT0(K:Ow)(T:eW)(Z:_2.St)(H:Hp)(Q:Bool->Hp->Prop):Prop
 |mk (U:Dl) (M:Mem) (QQ:Bool->Mem->Prop) (rh:RepH K H M) (rs:RepS K H U Z) (h:T U M QQ) (u:UpT K M H QQ Q):liftT0 K T Z H Q
inductive liftG0(K:Ow)(g:j8)(v:V)(Z:_2.St)(H:Hp)(Q:_2.St->Hp->Prop):Prop
 |mk (d:D) (U:Dl) (M:Mem) (QQ:Dl->Mem->Prop) (rh:RepH K H M) (rs:RepS K H U Z) (r:Rp K H d v) (h:g d U M QQ) (u:∀δ' M',QQ δ' M'->∀σ' H',Frm M H M' H'->RepH K H' M'->RepS K H' δ' σ'->Q σ' H'):liftG0 K g v Z H Q
theorem At{T:bp}(h:DE X DJ e T):PE X e (liftE0 X.K T):=a_ h λZ H Q ⟨U,M,QQ,b,c,h,u⟩=>⟨U,M,QQ,⟨trivial,b,c⟩,h,u⟩
theorem AR(h:DG X DJ e g):PG X e (liftG0 X.K g):=lb h λv Z H Q ⟨d,U,M,QQ,rh,rs,r,h,u⟩=>⟨d,U,M,QQ,⟨trivial,rh,rs⟩,r,h,λc M' q b H' f s=>u c M' q b H' f s.rh s.rs⟩
theorem RepH.add{a:eg}{o:MO}(r:RepH K H M)(n:RepO K H a o):RepH K H (M.upd a o):=λb p e=>by
 by_cases c:b=a
 .subst c;rw[Mem.upd_same]at e;cases e;exact n
 .rw[ae c]at e;exact r b p e
def bt(ls:W8)(js:List Nat)(U:Dl):Dl:=ls.map (λ_=>cm)++js.map λj=>(U[j]?).join
theorem RepS.start(r:RepS K H U Z)(ls:W8)(c:List Nat):RepS K H (bt ls c U) (cU ls c Z):=by
 refine⟨by simp[bt,cU],λi d e=>?_⟩
 unfold bt at e;unfold cU
 by_cases b:i<ls.length
 .rw[PL (by simpa using b),OJ,Ov b]at e
  cases e
 .rw[Pw (by simpa using b),Ot,OJ]at e
  rw[Pw (by simpa using b),Ot,OJ]
  cases h:c[i-ls.length]? with
  |none=>rw[h]at e;cases e
  |some j=>
   rw[h]at e;have q:(U[j]?).join=ap d:=by simpa using e
   have y:U[j]?=ap (ap d):=by
    cases z:U[j]? with
    |none=>rw[z]at q;cases q
    |some o=>rw[z]at q;have u:o=ap d:=q;rw[u]
   obtain⟨v,m,s⟩:=r.get j d y;exact⟨v,by simp[m],s⟩
structure BxC(g:j8)(tt:eW)(te:bp)(ok:Mem->Prop)(Q:List D->Mem->Prop):Type
def cq(g:j8)(tt:eW)(te:bp)(ok:Mem->Prop)(Q:List D->Mem->Prop)(b:BxC g tt te ok Q):List D->List D->Dl->Mem->Prop
 |[],W2,_,M=>ok M/\Q W2 M
 |x::xs,W2,U,M=>ok M/\g x U M λh M2=>tt h M2 λc M3=>if c=true then te h M3 λy M4=>W2.length<sizeLine/\cq g tt te ok Q b xs (W2++[y]) h M4 else cq g tt te ok Q b xs W2 h M3
def aZ(wi:A2)(ls:W8)(js:List Nat)(g:j8)(tt:eW)(te:bp):bp:=λU M Q=>wi U M λc M1=>cq g tt te c.ok (λb M'=>∀p,M' p=cm->Q (.ref p) (M'.upd p<|.lst b)) ⟨⟩ c.items [] (bt ls js U) M1
theorem Bw{tt:eW}{te:bp}{ok:Mem->Prop}{xs W2:List D}{Q:List D->Mem->Prop}{b:BxC g tt te ok Q}(h:cq g tt te ok Q b xs W2 U M):ok M:=by
 cases xs with
 |nil=>exact h.1
 |cons _ _=>exact h.1
variable{tg iter elt:fy}{ifs:Xb}{cl:List (Str×eg)}{ls fs:W8}{js:List Nat}{wi:A2}{tt:eW}{te:bp}
theorem oN{Q:VK}(h:liftE X B (aZ wi ls js g tt te) Z H Q):D7 (liftI X B wi) ls js (liftG0 X.K g) (liftT0 X.K tt) (liftE0 X.K te) Z H Q:=by
 obtain⟨U,M,QQ,s,h,u⟩:=h;refine⟨U,M,_,s,h,λit M1 h1 J H1 rh1 f1 hJ p hp=>?_⟩;have hMp:M1 p=none:=rh1.fresh hp
 refine⟨λi m σ' H'=>m=it.items.length-i/\i<=it.items.length/\∃δ' M' W2 ys,RepH X.K H' M'/\RepS X.K H' δ' σ'/\H' p=ap (.lst ys)/\Rps X.K H' W2 ys/\M' p=cm/\Frm M1 H1 M' H'/\
   cq g tt te it.ok (λW2 M'=>∀p,M' p=cm->QQ (.ref p) (M'.upd p<|.lst W2)) ⟨⟩ (it.items.drop i) W2 δ' M',
  ⟨_,rfl,Qf _,bt ls js U,M1,[],[],rh1.new hp,((s.rs.mono<|f1.imm s.rh).mono<|Imm.new hp).start ls js,upd_same,.nil,hMp,Frm.new hp,h1⟩,?_⟩
 rintro i m σ2 H2 ⟨rfl,hi,δ2,M2,W2,ys,rh2,rs2,hp2,ra2,hm2,f2,h2⟩
 have hok:=Bw h2;obtain⟨hgo,hstop⟩:=hJ i H2 M2 (f2.imm rh1) rh2 hok
 by_cases hlt:i<it.items.length
 .rw[QO hlt]at h2
  obtain⟨go,hy⟩:=hgo _ (Ov hlt)
  refine .inr ⟨go,λσ' H'=>∃δ' M' W2 ys,RepH X.K H' M'/\RepS X.K H' δ' σ'/\H' p=ap (.lst ys)/\Rps X.K H' W2 ys/\M' p=cm/\Frm M1 H1 M' H'/\
   cq g tt te it.ok (λW2 M'=>∀p,M' p=cm->QQ (.ref p) (M'.upd p<|.lst W2)) ⟨⟩ (it.items.drop (i+1)) W2 δ' M',λσ' H' z=>⟨it.items.length-(i+1),by omega,rfl,hlt,z⟩,λx H3 hx=>?_⟩
  obtain⟨f3,rh3,rx⟩:=hy x H3 hx;refine⟨_,δ2,M2,_,rh3,rs2.mono (f3.imm rh2),rx,h2.2,λδ4 M4 h4 σ4 H4 f4 rh4 rs4=>?_⟩;refine⟨δ4,M4,_,rh4,rs4,h4,λc M5 h5 H5 rh5 f5=>?_⟩;have f35:=(f3.trans f4).trans f5;obtain⟨hp5,hm5⟩:=f35.keep p _ hp2 hm2;cases c with
  |false=>
   try dsimp only
   rw[if_neg OS]at h5 ⊢;exact⟨δ4,M5,W2,ys,rh5,rs4.mono (f5.imm rh4),hp5,ra2.mf rh2 f35,hm5,f2.trans f35,h5⟩
  |true=>
   try dsimp only
   rw[if_pos rfl]at h5 ⊢;refine⟨δ4,M5,_,rh5,rs4.mono (f5.imm rh4),h5,λy M6 h6 v6 H6 rh6 f6 r6=>?_⟩;obtain⟨hp6,hm6⟩:=f6.keep p _ hp5 hm5;have f26:=f35.trans f6;have ra6:=ra2.mf rh2 f26;refine⟨ys,hp6,by rw[<- ra6.length];exact h6.1,?_⟩
   have im:Imm H6 (upd H6 p<|.lst (ys++[v6])):=Imm.upd (by rw[hp6];trivial)
   refine⟨δ4,M6,W2++[y],ys++[v6],rh6.keep im λb o hb=>aM (Mem.ne hb hm6),((rs4.mono<|f5.imm rh4).mono<|f6.imm rh5).mono im,upd_same,(ra6.append<|.cons r6 .nil).mono im,hm6,?_,h6.2⟩;refine⟨λb w e n=>?_⟩;obtain⟨e2,n2⟩:=(f2.trans f26).keep b w e n;exact⟨by rw[aM (bg e hp)];exact e2,n2⟩
 .rw[R8 (by omega)]at h2
  refine .inl ⟨hstop (by omega),u _ _ (h2.2 p hm2) _ H2 (rh2.add ⟨ys,hp2,ra2⟩) ?_ rfl⟩
  refine⟨λb w e n=>?_⟩;obtain⟨e1,n1⟩:=f1.keep b w e n;obtain⟨e2,n2⟩:=f2.keep b w e1 n1;exact⟨e2,by rw[ae (bg e1 hp)];exact n2⟩
def Me(X:Cx)(B:Bd)(ifs:Xb)(T:eW):Prop:=ID X ifs (liftT X B T)
def dG:eW:=λ_ M Q=>Q true M
theorem Ex:Me X B [] dG:=λb s Z H Q I i=>by obtain⟨U,M,QQ,c,h,u⟩:=i;exact FS b s Z H Q I (u true M h H c.rh Frm.refl)
theorem DZ{c:fy}{t:eW}(h:DT X B c t):Me X B [c] t:=FK h
theorem xE{T:eW}(h:Me X DJ es T):ID X es (liftT0 X.K T):=λb s Z H Q I m=>by obtain⟨U,M,QQ,i,j,c,u⟩:=m;exact h b s Z H Q I ⟨U,M,QQ,⟨trivial,i,j⟩,c,u⟩
def dP(i:Nat)(t:bp):aD:=λD U M=>t U M λd M1=>D.nx (U.set i<|some d) M1
def fA(i:Nat)(U:Dl)(M:Mem)(Q:Dl->Mem->Prop):Prop:=match U[i]? with
 |some (ap<|.ref a)=>match M a with
  |some (.lst xs)=>Q (U.set i<|some<|.lst xs) (M.del a)
  |_=>Q U M
 |_=>Q U M
def cz(t:aD)(i:Nat):aD:=λD U M=>t { D with nx:=λb M'=>fA i b M' D.nx } U M
theorem tO{α:Type}:∀{l:List α}{i:Nat}{x:α},l[i]?=ap x->l.set i x=l
 |[],_,_,h=>by simp at h
 |_::_,0,_,h=>by simp at h;subst h;rfl
 |_::_,i+1,_,h=>by rw[List.set_cons_succ,tO (by simpa using h)]
theorem Io{t:aD}(i:Nat)(h:DS X B st t):DS X B st (cz t i):=by
 intro WZ s Z H D I ⟨U,M,DD,sr,hT,up⟩;refine br (h WZ s Z H { D with nx:=λσ' H'=>∃δ' M',fA i δ' M' DD.nx/\Frm M H M' H'/\SR X B δ' M' σ' H' } I ⟨U,M,_,sr,hT,⟨λδ' M' q σ' H' f s'=>⟨δ',M',q,f,s'⟩,up.rt,up.bk,up.ct⟩⟩) λf s' q=>?_;cases f with
 |next=>
  obtain⟨σ',H',I',δ',M',q,f,s'⟩:=q;unfold fA at q
  split at q
  .rename_i a ea
   split at q
   .rename_i xs e
    obtain⟨vs,h1,h2⟩:=s'.rh _ _ e;obtain⟨o,I2⟩:=Inv.freeze I' h1;have im:Imm H' (upd H' a<|.frz o<|.lst vs):=Imm.upd (by rw[h1];trivial)
    obtain⟨v,hv,rv⟩:=s'.rs.get i _ ea;cases rv;refine⟨σ',_,I2,up.nx _ _ q σ' _ (f.trans<|Frm.del ⟨_,e⟩) ⟨B.go s'.i0 (Frm.del ⟨_,e⟩),s'.rh.freeze h1,?_⟩⟩;have:=(s'.rs.mono im).set (i:=i) (d:=.lst xs) (v:=.ref a) ⟨a,vs,rfl,⟨o,upd_same⟩,h2.mono im⟩
    rwa [tO hv]at this
   .exact⟨σ',H',I',up.nx _ _ q σ' H' f s'⟩
  .exact⟨σ',H',I',up.nx _ _ q σ' H' f s'⟩
 |brk=>exact q
 |cont=>exact q
 |ret u=>exact q
end
abbrev DX:=eg->Mem->Prop
abbrev Sd:=List D->Mem->DK->DX->Prop
def oJ(P:fx)(w:g3):oo:=λb H s E e c=>∃C,uG P w C b H s E e c
def UpX(K:Ow)(M:Mem)(H:Hp)(EE:DX)(E:XK):Prop:=∀C M',EE C M'->∀H',RepH K H' M'->Frm M H M' H'->E (.ref C) cm H'
def uI(K:Ow)(B:Bd)(EE:DX)(E:XK):Prop:=∀C M',EE C M'->∀H',RepH K H' M'->B.p M' H'->E (.ref C) cm H'
theorem UpX.go{M1:Mem}{H1:Hp}(u:UpX K M H EE E)(i:Frm M H M1 H1):UpX K M1 H1 EE E:=λC M' q H' a b=>u C M' q H' a (i.trans b)
def bJ(K:Ow)(n:Nat)(T:Sd):Sp:=λb H Q E=>b.length=n/\∃ds M QQ EE,RepH K H M/\Rps K H ds b/\T ds M QQ EE/\Up K M H QQ Q/\UpX K M H EE E
def startN(N:W8)(ds:List D):Dl:=ds.map ap++OZ (N.length-ds.length) cm
theorem RepS.startN{ds:List D}{vs:List V}(N:W8)(r:Rps K H ds vs):RepS K H (_3.startN N ds) (_2.start N vs):=by
 have m:=r.length;refine⟨by simp[_3.startN,_2.start,m],λi d e=>?_⟩
 unfold _3.startN at e;unfold _2.start
 by_cases b:i<ds.length
 .rw[PL (by simpa using b),OJ,Ov b]at e
  have c:ds[i]=d:=by simpa using e
  obtain⟨v,h,j⟩:=r.get (i:=i) (d:=d) (by rw[Ov b,c])
  refine⟨v,?_,j⟩;rw[PL (by simp;lia),OJ,h]
  rfl
 .rw[Pw (by simpa using b),T9]at e
  split at e<;>cases e
section
def drp(Q:DK)(d:D)(M':Mem):Prop:=∃M'',(∀b o,M'' b=ap o->M' b=ap o)/\Q d M''
def aG(EE:DX)(C:eg)(M':Mem):Prop:=∃M'',(∀b o,M'' b=ap o->M' b=ap o)/\EE C M''
theorem am{d:D}(h:Q d M'):drp Q d M':=⟨M',λ_ _ e=>e,h⟩
theorem dU(h:EE C M'):aG EE C M':=⟨M',λ_ _ e=>e,h⟩
theorem Frm.less{M'':Mem}(f:Frm M H M' H')(s:∀b o,M'' b=ap o->M' b=ap o):Frm M H M'' H':=⟨λb u e n=>by
 obtain⟨h,c⟩:=f.keep b u e n;refine⟨h,?_⟩;cases q:M'' b with
 |none=>rfl
 |some o=>rw[s b o q]at c;cases c⟩
theorem Up.drp{QV:VK}(u:Up K M H Q QV):Up K M H (_3.drp Q) QV:=λd M' ⟨M'',s,q⟩ v H' c f r=>u d M'' q v H' (λb o e=>c b o (s b o e)) (f.less s) r
theorem UpX.drp(u:UpX K M H EE E):UpX K M H (aG EE) E:=λC M' ⟨M'',s,q⟩ H' c f=>u C M'' q H' (λb o e=>c b o (s b o e)) (f.less s)
def aJ(N:W8)(T:DX->aD):Sd:=λb M Q EE=>T (aG EE) { nx:=λ_ M'=>drp Q .non M',rt:=drp Q } (startN N b) M
theorem fnD{k:Nat}{T:DX->aD}(F:Fun K x W0 st f fd)(S:FnScope N ps (aQ st))(J:∀(c:ay)(A:ix)(b:List Env)(s:el)(H:Hp)(E:XK)(B:Bd)(EE:DX),Room k (A.deeper<|Q8 W0 (aQ st) s.heap.objs.size f c)->uI K B EE E->
   xO (dF (oJ P w) P w K mg base N W0 (aQ st) f c A b s H E) B (bw st) (T EE)):
  FnOk P w K mg base (oJ P w) (k+1) f fd ps (bJ K ps.length<|aJ N T):=by
 obtain⟨Y,R,kV,I,L,O,c,W,G,rfl,lk,j⟩:=F.ex;refine Ha lk j S (λz H Q E h=>h.1) λA b s H z Q E o i=>?_;obtain⟨hl,y,M,QQ,EE,rh,r,v,u,ux⟩:=i;refine⟨_,J c A b s H E (Bd.of M H) (aG EE) o ux.drp,startN N y,M,{ nx:=λ_ M'=>drp QQ .non M',rt:=drp QQ },⟨Frm.refl,rh,.startN N r⟩,v,⟨?_,u.drp,?_,?_⟩⟩
 .exact λU M' q Z H' f m=>u.drp _ M' q _ H' m.rh f rfl
 .exact λU M' q=>(show False from q).elim
 .exact λU M' q=>(show False from q).elim
theorem e_{k:Nat}{CX:oo}:FnOk P w K mg base CX k f fd ps (bJ K n λ_ _ _ _=>False):=
 ⟨λi H Q E h=>(by obtain⟨_,_,_,_,_,_,_,h,_⟩:=h;exact h.elim),λA b s H c j i Q E _ _ _ _ h=>(by obtain⟨_,_,_,_,_,_,_,h,_⟩:=h;exact h.elim)⟩
theorem HI{h:ay}{A:ix}{b:List Env}{i:el}{H0:Hp}:bS (oJ P w) (dF (oJ P w) P w K mg base N W0 scope f h A b i H0 E) E:=by
 intro c Z H s e j I ⟨C,m⟩;have I':Inv (dF (uG P w C) P w K mg base N W0 scope f h A b i H0 E) c Z H s:=I.wish _;have:=LG c Z H s e j I' m;exact mu this (λ_ _ z=>⟨C,z⟩) λ_ _ z=>⟨C,z⟩
theorem BJ:bS (oJ P w) X E0:=λb Z H s e i I ⟨C,h⟩=>by
 obtain⟨_,_,_,_,_,_,_,_,_,_,_,_,c⟩:=h;exact(show False from c).elim
end
def Sub(M1 M:Mem):Prop:=∀b o,M1 b=ap o->M b=ap o
def Dis(M1 M M':Mem):Prop:=∀b o,M b=ap o->M1 b=cm->M' b=cm
def plus(M' M1 M:Mem):Mem:=λb=>match M' b with
 |some o=>ap o
 |none=>match M1 b with
  |some _=>cm
  |none=>M b
theorem nV:plus M' M M=M':=by
 funext b;simp only[plus];cases h:M' b with
 |some o=>rfl
 |none=>cases c:M b<;>rfl
structure BxQ(EE:DX)(Q:DK):Type
structure calls(T:Sd)(EE:DX)(ds:List D)(M:Mem)(Q:DK)(_:BxQ EE Q):Prop where
 go:∃M1,Sub M1 M/\T ds M1 (λd M'=>Dis M1 M M'->Q d (plus M' M1 M)) (λC M'=>Dis M1 M M'->EE C (plus M' M1 M))
section
variable{M1:Mem}
theorem RepH.sub(r:RepH K H M)(s:Sub M1 M):RepH K H M1:=λb o e=>r b o (s b o e)
theorem RepH.dis(r:RepH K H M)(f:Frm M1 H M' H'):Dis M1 M M':=λb o e n=>by
 obtain⟨u,q⟩:=(r b o e).obj;exact(f.keep b u q n).2
theorem RepH.plus(r:RepH K H M)(s:Sub M1 M)(h:RepH K H' M')(f:Frm M1 H M' H'):RepH K H' (plus M' M1 M):=λb o e=>by
 simp only[_3.plus]at e
 split at e
 .rename_i i q;cases e;exact h b _ q
 .split at e
  .cases e
  .rename_i q n
   obtain⟨u,c⟩:=(r b o e).obj;exact(r b o e).keep (f.imm<|r.sub s) ((f.keep b u c n).1.trans c.symm)
theorem Frm.plus(s:Sub M1 M)(f:Frm M1 H M' H'):Frm M H (plus M' M1 M) H':=⟨λb u e n=>by
 have c:M1 b=none:=by
  cases q:M1 b with
  |none=>rfl
  |some o=>rw[s b o q]at n;cases n
 obtain⟨i,h⟩:=f.keep b u e c;exact⟨i,by simp only[_3.plus,h,c,n]⟩⟩
theorem dL{ds:List D}{vs:List V}{QV:VK}{b:BxQ EE Q}(h:calls T EE ds M Q b)(rh:RepH K H M)(r:Rps K H ds vs)(j:vs.length=n)(u:Up K M H Q QV)(ux:UpX K M H EE E):bJ K n T vs H QV E:=by
 obtain⟨M1,s,h⟩:=h.go;refine⟨j,ds,M1,_,_,rh.sub s,r,h,λd M' q v H' c f i=>?_,λC M' q H' c f=>?_⟩
 .exact u d _ (q<|rh.dis f) v H' (rh.plus s c f) (f.plus s) i
 .exact ux C _ (q<|rh.dis f) H' (rh.plus s c f) (f.plus s)
theorem aq{ds:List D}{b:BxQ EE Q}(c:∀Q' E',(∀d M,Q d M->Q' d M)->(∀C M,EE C M->E' C M)->T ds M Q' E'):calls T EE ds M Q b:=
 ⟨M,λ_ _ e=>e,c _ _ (λd M' q _=>by rw[nV];exact q) λC M' q _=>by rw[nV];exact q⟩
variable{CX:oo}{k:Nat}{m:Str}{o:fy}{ta:bp}{t:fg}
def aj(T:Sd)(EE:DX)(n:Nat)(t:fg):bp:=λU M Q=>t U M λb M1=>b.length=n/\calls T EE b M1 Q ⟨⟩
theorem SR.ux{U:Dl}{Z:_2.St}(s:SR X B U M Z H)(ux:uI X.K B EE E):UpX X.K M H EE E:=λC M' q H' a b=>ux C M' q H' a (B.go s.i0 b)
theorem pW(F:FnOk X.prog X.w X.K X.mg X.base CX k f fd ps (bJ X.K n T))(I:Room k X.A)(L:Gl X x)(G:X.mg x=ap (.ref f))(v:P4 X.K (.ref f)=true)(J:Binds X.K fd ps [])(z:bS CX X E)(ux:uI X.K B EE E)(y:DA X B (e::es) t)(c:(x==("__debug__":Str))=false:=by decide)(he:fe (e::es) X.env=(eC,gp e X.env)::fe es X.env:=by rfl)(hpl:(hG pos<|starEach es X.env).any (·.1)=false:=by rfl):
  DE X B (.Call (.Name x p) (e::es) [] pos) (aj T EE n t):=by
 refine a_ (DH F I L G v J .nil z y c he hpl) ?_
 rintro Z H Q ⟨U,M,QQ,s,h,u⟩
 refine⟨U,M,_,s,h,λO M1 j R H1 b q i=>?_⟩
 try dsimp only
 rw[Pm];exact dL j.2 b i (by rw[<- i.length];exact j.1) (u.go q) ((s.ux ux).go q)
def cP(C:eg)(m:Str)(T:Sd)(EE:DX)(n:Nat)(ta:bp)(t:fg):bp:=λU M Q=>ta U M λx M1=>match x with
 |.ref a=>match M1 a with
  |some (.ins C' fs)=>C'=C/\fs.lookup m=cm/\t U M1 λb M2=>b.length+1=n/\calls T EE (.ref a::b) M2 Q ⟨⟩
  |_=>False
 |_=>False
theorem Ej{pl:Sem Bool}(he:DE X B o ta)(c:Cls X.K C)(hm:Meth X.K C m f)(F:FnOk X.prog X.w X.K X.mg X.base CX k f fd ps (bJ X.K n T))(hr:Room k X.A)(hb:Binds X.K fd ps [])(hx:bS CX X E)(ux:uI X.K B EE E)(ha:DA X B (e::es) t)(y:fe (e::es) X.env=(eC,gp e X.env)::fe es X.env:=by rfl)(hpl:(hG pos<|starEach es X.env).any (·.1)=false:=by rfl)(ht:gp (.Call (.Attribute o m W4) (e::es) [] pos) X.env=(do
   let ov <- gp o X.env
   TD W4.atName
   let (f,first) <- tm [ov] (SZ ov m pl)
   Wb pos f first (hG pos<|starEach (e::es) X.env) (x9 pos<|keywordEach [] X.env)):=by rfl):
  DE X B (.Call (.Attribute o m W4) (e::es) [] pos) (cP C m T EE n ta t):=by
 refine a_ (FW he c hm F hr hb .nil hx ha y hpl ht) ?_
 rintro Z H Q ⟨U,M,QQ,s,h,u⟩
 refine⟨U,M,_,s,h,λx M1 b v H1 i i1 O=>?_⟩
 split at b
 .rename_i a
  cases O
  split at b
  .rename_i C' fs S
   obtain⟨rfl,hl,b⟩:=b;obtain⟨R,J,Y,W⟩:=i _ _ S;have j:J.lookup m=none:=by
    rcases W.lookup m with⟨_,z⟩|⟨d,v,z,_⟩
    .exact z
    .rw[hl]at z;cases z
   refine⟨a,R,J,rfl,Y,j,U,M1,_,s.go i i1,b,λds M2 I vs H2 q G L=>?_⟩
   try dsimp only
   rw[Pm];exact dL (ds:=.ref a::ds) I.2 q (.cons rfl L) (by rw[Oy,<- L.length];exact I.1) (u.go<|i1.trans G) ((s.ux ux).go<|i1.trans G)
  .exact b.elim
 .exact b.elim
theorem CC{pl:Sem Bool}(W:DE X B o ta)(c:Cls X.K C)(hm:Meth X.K C m f)(F:FnOk X.prog X.w X.K X.mg X.base CX k f fd ps (bJ X.K n T))(hr:Room k X.A)(hb:Binds X.K fd ps [])(S:bS CX X E)(ux:uI X.K B EE E)(Y:gp (.Call (.Attribute o m W4) [] [] pos) X.env=(do
   let ov <- gp o X.env
   TD W4.atName
   let (f,first) <- tm [ov] (SZ ov m pl)
   Wb pos f first (hG pos<|starEach [] X.env) (x9 pos<|keywordEach [] X.env)):=by rfl):
  DE X B (.Call (.Attribute o m W4) [] [] pos) (cP C m T EE n ta af):=by
 refine a_ (CJ W c hm F hr hb .nil S Y) ?_
 rintro Z H Q ⟨U,M,QQ,s,h,u⟩
 refine⟨U,M,_,s,h,λx M1 b v H1 i q J=>?_⟩
 split at b
 .rename_i a
  cases J
  split at b
  .rename_i C' fs R
   obtain⟨rfl,L,b⟩:=b;obtain⟨O,y,I,G⟩:=i _ _ R;have j:y.lookup m=none:=by
    rcases G.lookup m with⟨_,z⟩|⟨d,v,z,_⟩
    .exact z
    .rw[L]at z;cases z
   refine⟨a,O,y,rfl,I,j,?_⟩;exact dL (ds:=[.ref a]) b.2 i (.cons rfl .nil) b.1 (u.go q) ((s.ux ux).go q)
  .exact b.elim
 .exact b.elim
def fT(C:eg)(T:Sd)(EE:DX)(n:Nat)(t:fg):bp:=λU M Q=>t U M λb M1=>b.length+1=n/\∀a,M1 a=cm->calls T EE (.ref a::b) (M1.upd a<|.ins C []) (λd M2=>match d with
 |.non=>Q (.ref a) M2
 |_=>False) ⟨⟩
theorem Fu(Mk':Mk X.K C f)(F:FnOk X.prog X.w X.K X.mg X.base CX k f fd ps (bJ X.K n T))(hr:Room (k+1) X.A)(hg:Gl X x)(hm:X.mg x=ap (.ref C))(hb:Binds X.K fd ps [])(hx:bS CX X E)(ux:uI X.K B EE E)(ha:DA X B (e::es) t)(hdb:(x==("__debug__":Str))=false:=by decide)(he:fe (e::es) X.env=(eC,gp e X.env)::fe es X.env:=by rfl)(hpl:(hG pos<|starEach es X.env).any (·.1)=false:=by rfl):
  DE X B (.Call (.Name x p) (e::es) [] pos) (fT C T EE n t):=by
 refine a_ (E6 Mk' F hr hg hm hb .nil hx ha hdb he hpl) ?_
 rintro Z H Q ⟨U,M,QQ,s,h,u⟩
 refine⟨U,M,_,s,h,λds M1 h1 vs H1 rh1 i1 r1 a dx na ndx nex=>?_⟩;rw[Pm];have nx1:upd H1 dx (.own a) a=none:=by rw[aM (OW nex)];exact na
 have im1:Imm H1 (upd H1 dx<|.own a):=Imm.new ndx;have im2:Imm (upd H1 dx<|.own a) (upd (upd H1 dx<|.own a) a<|.ins C dx []):=Imm.new nx1;have rh2:RepH X.K (upd (upd H1 dx<|.own a) a<|.ins C dx []) (M1.upd a<|.ins C []):=(rh1.new ndx).put (by rw[nx1];trivial) ⟨dx,[],upd_same,.nil⟩
 have f2:Frm M1 H1 (M1.upd a<|.ins C []) (upd (upd H1 dx<|.own a) a<|.ins C dx []):=(Frm.new ndx).trans (Frm.put<|.inl nx1);refine dL (h1.2 a<|rh1.fresh na) rh2 (.cons rfl<|(r1.mono im1).mono im2) (by rw[Oy,<- r1.length];exact h1.1) (λd M2 h2 v H2 rh f r=>?_) ((s.ux ux).go<|i1.trans f2)
 cases d with
 |non=>exact⟨r,u _ M2 h2 _ H2 rh ((i1.trans f2).trans f) rfl⟩
 |_=>exact(show False from h2).elim
end
section
variable{M1:Mem}{o:fy}{to:bp}{t:fg}{name:Str}{W3:Pos}{Ty id:String}
abbrev zK:=D->List D->Mem->DK->Prop
inductive liftM(X:Cx)(r:zK)(x:V)(xs:List V)(H:Hp)(Q:VK):Prop
 |mk (d:D) (ds:List D) (M:Mem) (QQ:DK) (rh:RepH X.K H M) (rx:Rp X.K H d x) (rs:Rps X.K H ds xs) (h:r d ds M QQ) (u:Up X.K M H QQ Q):liftM X r x xs H Q
def mW(Ty:String)(r:zK)(to:bp)(t:fg):bp:=λU M Q=>to U M λx M1=>eE M1 x=ap Ty/\t U M1 λb M2=>r x b M2 Q
theorem Da{d:D}{v:V}(m:RepH K H M)(r:Rp K H d v)(e:eE M d=ap Ty)(h:Ty="list"\/Ty="str"\/Ty="int"\/Ty="dict"):tyV K Ty v H:=by
 cases d with
 |non=>cases e;rcases h with h|h|h|h<;>exact absurd h (by decide)
 |bl b=>cases e;rcases h with h|h|h|h<;>exact absurd h (by decide)
 |int i=>cases r;cases e;rfl
 |str x=>cases r;cases e;rfl
 |tup xs=>cases e;rcases h with h|h|h|h<;>exact absurd h (by decide)
 |lst xs=>
  cases e;obtain⟨p,u,rfl,y,r⟩:=r;exact .inl ⟨rfl,u,y.sq⟩
 |ref a=>
  cases r;simp only[eE]at e
  split at e
  .rename_i q;cases e;obtain⟨j,c,s⟩:=m _ _ q;exact .inl ⟨rfl,j,SqL.of c⟩
  .rename_i q;cases e;obtain⟨j,c,s⟩:=m _ _ q;exact .inr (.inr<|.inl ⟨rfl,.inl ⟨j,c⟩⟩)
  .rename_i q;cases e;obtain⟨j,c,s⟩:=m _ _ q;exact .inr (.inr<|.inl ⟨rfl,.inr ⟨j,c⟩⟩)
  .cases e
 |_=>cases e
theorem NN{r:zK}(I:Ty="list"\/Ty="str"\/Ty="int"\/Ty="dict")(O:VU Ty)(i:Wx Ty name id)(m:V7 (.builtin id)=pure (.type "method_descriptor"))(R:ym X id (liftM X r))(L:DE X B o to)(J:DA X B (e::es) t)(c:nr o name X.env (gp o X.env)=gp o X.env:=by rfl)(hfew:((hG W3<|starEach (e::es) X.env).all (λx=>!x.1)&&(x9 W3<|keywordEach [] X.env).all (λx=>x.1.isSome)
   && decide ((e::es).length+([]:List vr).length+(if ([]:List vr).isEmpty then 0 else 1)<30))=true:=by rfl)(hline:(W4.endLine==W3.line)=true:=by rfl)(hs:fe (e::es) X.env=(eC,gp e X.env)::fe es X.env:=by rfl)(hplain:(hG W3<|starEach es X.env).any (·.1)=false:=by rfl):
  DE X B (.Call (.Attribute o name W4) (e::es) [] W3) (mW Ty r to t):=by
 refine a_ (LZ O i m R L J c hfew hline hs hplain) ?_
 rintro Z H Q ⟨U,M,QQ,s,h,u⟩
 refine⟨U,M,_,s,h,λx M1 y v H1 b i1 z=>⟨Da b z y.1 I,U,M1,_,s.go b i1,y.2,λF M2 A S H2 j q G=>?_⟩⟩;exact⟨x,F,M2,QQ,j,z.mf b q,G,A,u.go<|i1.trans q⟩
theorem Jf{r:zK}(z:Ty="list"\/Ty="str"\/Ty="int"\/Ty="dict")(F:VU Ty)(i:Wx Ty name id)(j:V7 (.builtin id)=pure (.type "method_descriptor"))(G:ym X id (liftM X r))(A:DE X B o to)(b:nr o name X.env (gp o X.env)=gp o X.env:=by rfl)(hline:(W4.endLine==W3.line)=true:=by rfl):DE X B (.Call (.Attribute o name W4) [] [] W3) (mW Ty r to af):=by
 refine a_ (Ii F i j G A b hline) ?_
 rintro Z H Q ⟨U,M,QQ,s,h,u⟩
 refine⟨U,M,_,s,h,λx M1 q v H1 c y m=>⟨Da c m q.1 z,?_⟩⟩;exact⟨x,[],M1,QQ,c,m,.nil,q.2,u.go y⟩
def bU:zK:=λx b M Q=>match x,b with
 |.ref a,[y]=>match M a with
  |some (.lst xs)=>xs.length<sizeLine/\Q .non (M.upd a<|.lst (xs++[y]))
  |_=>False
 |_,_=>False
theorem uU:ym X "list.append" (liftM X bU):=by
 intro WZ s Z H x vs v us Q I rx rv h;obtain⟨d,ds,M,QQ,rh,r,rs,h,up⟩:=h;unfold bU at h
 split at h
 .rename_i a y
  cases r;obtain⟨w,rfl,rw'⟩:=gJ (ds:=[]) rs
  split at h
  .rename_i xs hM
   obtain⟨ws,h1,h2⟩:=rh _ _ hM;have im:Imm H (upd H a<|.lst (ws++[w])):=Imm.upd (by rw[h1];trivial)
   exact zX WZ s Z H _ _ v us Q I rx rv ⟨a,ws,w,rfl,rfl,h1,by rw[<- h2.length];exact h.1,up _ _ h.2 _ _ (rh.put (by rw[h1];trivial) ⟨_,upd_same,(h2.append<|.cons rw' .nil).mono im⟩) (Frm.put<|.inr ⟨_,hM⟩) rfl⟩
  .exact h.elim
 .exact h.elim
def zH:zK:=λx b M Q=>match x,b with
 |.ref a,[]=>match M a with
  |some (.lst xs)=>match xs[xs.length-1]? with
   |some y=>Q y (M.upd a<|.lst xs.dropLast)
   |none=>False
  |_=>False
 |.ref a,[.int i]=>match M a with
  |some (.lst xs)=>match rS xs.length i with
   |some k=>match xs[k]? with
    |some y=>Q y (M.upd a<|.lst<|xs.eraseIdx k)
    |none=>False
   |none=>False
  |_=>False
 |_,_=>False
theorem yI:ym X "list.pop" (liftM X zH):=by
 intro WZ s Z H x vs v us Q I rx rv h;obtain⟨d,ds,M,QQ,rh,r,rs,h,up⟩:=h;unfold zH at h
 split at h
 .rename_i a
  cases r;cases rs
  split at h
  .rename_i xs hM
   split at h
   .rename_i y ey
    obtain⟨ws,h1,h2⟩:=rh _ _ hM;obtain⟨w,hw,rw'⟩:=h2.get ey;have im:Imm H (upd H a<|.lst ws.dropLast):=Imm.upd (by rw[h1];trivial)
    exact L1 WZ s Z H _ _ v us Q I rx rv ⟨a,ws,w,rfl,rfl,h1,by rw[<- h2.length];exact hw,up _ _ h _ _ (rh.put (by rw[h1];trivial) ⟨_,upd_same,h2.dropLast.mono im⟩) (Frm.put<|.inr ⟨_,hM⟩)<|rw'.mono im⟩
   .exact h.elim
  .exact h.elim
 .rename_i a i
  cases r;obtain⟨w0,rfl,rw0⟩:=gJ (ds:=[]) rs;cases rw0
  split at h
  .rename_i xs hM
   split at h
   .rename_i k ek
    split at h
    .rename_i y ey
     obtain⟨ws,h1,h2⟩:=rh _ _ hM;obtain⟨w,hw,rw'⟩:=h2.get ey;obtain⟨j1,j2,j3,j4⟩:=qc ek;have hz:ws.length<=sizeLine:=(I.lstM h1).1;have hs:sizeLine=16777216:=rfl;have hl:=h2.length;have im:Imm H (upd H a<|.lst<|ws.eraseIdx k):=Imm.upd (by rw[h1];trivial)
     exact Al WZ s Z H _ _ v us Q I rx rv ⟨a,ws,i,k,w,rfl,rfl,h1,by lia,by lia,by rw[<- hl];exact j1,hw,up _ _ h _ _ (rh.put (by rw[h1];trivial) ⟨_,upd_same,(h2.eraseIdx k).mono im⟩) (Frm.put<|.inr ⟨_,hM⟩)<|rw'.mono im⟩
    .exact h.elim
   .exact h.elim
  .exact h.elim
 .exact h.elim
def je:List D->Option (List Str)
 |[]=>ap []
 |.str x::ds=>match je ds with
  |some xs=>ap (x::xs)
  |none=>cm
 |_=>cm
theorem tT:∀{ds:List D}{vs:List V}{xs:W8},Rps K H ds vs->je ds=ap xs->vs=xs.map V.str
 |[],vs,xs,r,e=>by cases e;exact r
 |d::ds,vs,xs,r,e=>by
  obtain⟨v,j,rfl,a,b⟩:=r;cases d with
  |str c=>
   simp only[je]at e
   split at e
   .rename_i i h
    cases e;cases a;rw[tT b h];rfl
   .cases e
  |_=>cases e
def mZ:zK:=λx b M Q=>match x,b with
 |.tup xs,[.str z]=>match je xs with
  |some names=>names.length<=1000/\match names.findIdx? (λy=>decide (y=z)) with
   |some j=>Q (.int (j:Nat)) M
   |none=>False
  |none=>False
 |_,_=>False
theorem vP:ym X "tuple.index" (liftM X mZ):=by
 intro c s Z H x vs v F Q I J O h;obtain⟨d,ds,M,QQ,R,r,rs,h,W⟩:=h;unfold mZ at h
 split at h
 .rename_i xs z
  obtain⟨p,ws,rfl,Y,r⟩:=r;obtain⟨w,rfl,i⟩:=gJ (ds:=[]) rs;cases i
  split at h
  .rename_i b A
   obtain⟨S,h⟩:=h
   split at h
   .rename_i j q
    have:=tT r A;subst this;rw[List.findIdx?_eq_some_iff_getElem]at q;obtain⟨L,y,u⟩:=q;refine zf c s Z H _ _ v F Q I J O ⟨p,b,z,j,rfl,rfl,Y,S,?_,λm G=>?_,W _ M h _ H R Frm.refl rfl⟩
    .rw[Ov L];simpa using y
    .have:=u m G
     rw[Ov (by lia)]
     simpa using this
   .exact h.elim
  .exact h.elim
 .exact h.elim
def Mo(r:zK)(to:bp)(t:fg):bp:=λU M Q=>to U M λx M1=>match x with
 |.tup xs=>t U M1 λb M2=>r (.tup xs) b M2 Q
 |_=>False
theorem MG{r:zK}(i:Wx "tuple" name id)(q:V7 (.builtin id)=pure (.type "method_descriptor"))(S:ym X id (liftM X r))(R:DE X B o to)(O:DA X B (e::es) t)(b:nr o name X.env (gp o X.env)=gp o X.env:=by rfl)(hfew:((hG W3<|starEach (e::es) X.env).all (λx=>!x.1)&&(x9 W3<|keywordEach [] X.env).all (λx=>x.1.isSome)
   && decide ((e::es).length+([]:List vr).length+(if ([]:List vr).isEmpty then 0 else 1)<30))=true:=by rfl)(hline:(W4.endLine==W3.line)=true:=by rfl)(hs:fe (e::es) X.env=(eC,gp e X.env)::fe es X.env:=by rfl)(hplain:(hG W3<|starEach es X.env).any (·.1)=false:=by rfl):
  DE X B (.Call (.Attribute o name W4) (e::es) [] W3) (Mo r to t):=by
 refine a_ (Nk i q S R O b hfew hline hs hplain) ?_
 rintro Z H Q ⟨U,M,QQ,s,h,u⟩
 refine⟨U,M,_,s,h,λx M1 z v H1 c i1 A=>?_⟩;cases x with
 |tup xs=>
  have m:=A;obtain⟨p,F,rfl,J,W⟩:=m;refine⟨⟨p,F,rfl,J⟩,U,M1,_,s.go c i1,z,λI M2 G F H2 j y L=>?_⟩;exact⟨_,I,M2,QQ,j,A.mf c y,L,G,u.go<|i1.trans y⟩
 |_=>exact(show False from z).elim
def Bp(ks:List aF)(ys:List D):List (aF×D):=(ks.zip ys).foldl (λa p=>eD a p.1 p.2) []
theorem uF:∀{ks:List aF}{ds:List D}{vs:List V}{a:List (aF×D)}{b:List (aF×V)},Rps K H ds vs->Rkv K H a b->
  Rkv K H ((ks.zip ds).foldl (λa p=>eD a p.1 p.2) a) ((ks.zip vs).foldl (λa p=>cL a p.1 p.2) b)
 |[],_,_,_,_,_,r=>r
 |_::_,[],_,_,_,h,r=>by cases h;exact r
 |k::ks,d::ds,_,_,_,h,r=>by
  obtain⟨v,vs,rfl,a,b⟩:=h;exact uF (ks:=ks) b (r.put k a)
def fZ(t:fg):bp:=λU M Q=>t U M λb M1=>match b with
 |[.tup xs,.tup ys]=>match h9 xs with
  |some ks=>ks.length=ys.length/\0<ks.length/\ks.length<=1000/\∀p,M1 p=cm->Q (.ref p) (M1.upd p<|.dK<|Bp ks ys)
  |none=>False
 |_=>False
theorem vE{b:fy}{p2 pos2:Pos}(hc:X.calm=true)(hg:Gl X "zip")(hm:X.mg "zip"=cm)(hg2:Gl X "dict")(hm2:X.mg "dict"=cm)(ha:DA X B [a,b] ta)(hs:fe [a,b] X.env=[(eC,gp a X.env),(eC,gp b X.env)]:=by rfl)(hs2:fe [b] X.env=[(eC,gp b X.env)]:=by rfl)(hs3:fe [T8 (.Name "zip" p2) [a,b] [] pos2] X.env=[(eC,gp (.Call (.Name "zip" p2) [a,b] [] pos2) X.env)]:=by rfl):
  DE X B (.Call (.Name "dict" p) [.Call (.Name "zip" p2) [a,b] [] pos2] [] pos) (fZ ta):=by
 refine a_ (vj eC eC hc hg hm hg2 hm2 ha hs hs2 hs3) ?_
 rintro Z H Q ⟨U,M,QQ,s,h,u⟩
 refine⟨U,M,_,s,h,λds M1 h1 vs H1 rh1 i1 r1=>?_⟩
 split at h1
 .obtain⟨v,w,rfl,rv,rw'⟩:=G2 r1
  obtain⟨l1,us,rfl,t1,ru⟩:=rv;obtain⟨l2,ws,rfl,t2,rw2⟩:=rw'
  split at h1
  .rename_i ks ek
   obtain⟨e1,e2,e3,h1⟩:=h1;have hk:=lP ru ek;subst hk;refine⟨l1,l2,ks,ws,rfl,t1.sq,t2.sq,by rw[<- rw2.length];exact e1,e2,e3,λd hd=>?_⟩
   have im:Imm H1 (upd H1 d<|.dK<|(ks.zip ws).foldl (λa p=>cL a p.1 p.2) []):=Imm.new hd;exact u _ _ (h1 d<|rh1.fresh hd) _ _ (rh1.put (by rw[hd];trivial) ⟨_,upd_same,(uF rw2 .nil).mono im⟩) (i1.trans<|Frm.put<|.inl hd) rfl
  .exact h1.elim
 .exact h1.elim
end
section
variable{cd:ay}{A:ix}{outer:List Env}{s0:el}{H0:Hp}
theorem Fy{t:TS}{E':Xd}(h:PS X st t)(k:∀e s,X.xe e s->E' e s):PS (X.wish E') st t:=λc s Z H D I q=>
 mu (h c s Z H D (I.unwish) q) (λf i z=>by
  cases f with
  |next=>obtain⟨b,H',I,q⟩:=z;exact⟨b,H',I.wish _,q⟩
  |brk=>obtain⟨b,H',I,q⟩:=z;exact⟨b,H',I.wish _,q⟩
  |cont=>obtain⟨b,H',I,q⟩:=z;exact⟨b,H',I.wish _,q⟩
  |ret u=>obtain⟨v,b,H',I,r,q⟩:=z;exact⟨v,b,H',I.wish _,r,q⟩) k
def ju(C:eg)(EE:DX):aD:=λ_ _ M=>EE C M
theorem Aj{b:Str}{c W3:Pos}{jj}(X:ExcAt K C)(o:mg x=ap (.ref C))(ux:uI K B EE E)(q:Gl (dF (oJ P w) P w K mg base N W0 scope f cd A outer s0 H0 E) x)(m:(x==("__debug__":Str))=false:=by decide)(hs:fe [.Constant (.str b) jj W4] (dF (oJ P w) P w K mg base N W0 scope f cd A outer s0 H0 E).env=[(eC,gp (.Constant (.str b) jj W4) (dF (oJ P w) P w K mg base N W0 scope f cd A outer s0 H0 E).env)]:=by rfl):
  DS (dF (oJ P w) P w K mg base N W0 scope f cd A outer s0 H0 E) B (.Raise (ap<|.Call (.Name x c) [.Constant (.str b) jj W4] [] W3) cm pos) (ju C EE):=by
 have i:PS (dF (uG P w C) P w K mg base N W0 scope f cd A outer s0 H0 E) (.Raise (ap<|.Call (.Name x c) [.Constant (.str b) jj W4] [] W3) cm pos) (v_ E C):=AT X o q m hs;have j:PS (dF (oJ P w) P w K mg base N W0 scope f cd A outer s0 H0 E) (.Raise (ap<|.Call (.Name x c) [.Constant (.str b) jj W4] [] W3) cm pos) (v_ E C):=
  Fy i λe s h=>mu h (λ_ _ z=>⟨C,z⟩) λ_ _ z=>⟨C,z⟩
 refine bH j ?_
 rintro D Z H ⟨U,M,DD,s,h,u⟩
 exact ux C M h H s.rh s.i0
end
section
def IZ(C:eg)(T:Sd)(n:Nat)(ta:fg)(ts:aD):aD:=λD U M=>ta U M λb M1=>b.length=n/\calls T (λC' M2=>C'=C/\ts D U M2) b M1 (λ_ M2=>D.nx U M2) ⟨⟩
theorem SR.mark{e:ay}(s:SR X B U M Z H):SR (X.marked e) B U M Z H:=⟨s.i0,s.rh,s.rs⟩
theorem SR.unmark{e:ay}(s:SR (X.marked e) B U M Z H):SR X B U M Z H:=⟨s.i0,s.rh,s.rs⟩
theorem UpD.mark{DD:DEnds}{D:Ends}{e:ay}(u:UpD X B M H DD D):UpD (X.marked e) B M H DD D:=
 ⟨λU M q Z H' f s=>u.nx U M q Z H' f s.unmark,u.rt,λU M q Z H' f s=>u.bk U M q Z H' f s.unmark,λU M q Z H' f s=>u.ct U M q Z H' f s.unmark⟩
theorem FR{k:Nat}{sp:Sp}(F:FnOk P w K mg base (oJ P w) k f fd ps sp):
  FnOk P w K mg base (uG P w C) k f fd ps (λvs H Q E=>sp vs H Q λCv a H'=>Cv=.ref C/\E Cv a H'):=
 ⟨λvs H Q E h=>F.len _ _ _ _ h,λA b s H c I vs Q E y q Y L z=>P3 (F.run A b s H c I vs Q _ y q Y L z) λr s' h=>by
  cases r with
  |ok fl=>cases fl<;>exact h
  |error e=>
   obtain⟨C',O,H',B,u,o,j,W,G,J,S,e7,v,R,i⟩:=h;have m:C'=C:=by injection R
   subst m;exact⟨O,H',B,u,o,j,W,G,J,S,e7,v,i⟩⟩
theorem uP{k:Nat}{z:Str}{I ep np y:Pos}{c:rc}{b:Xc}{J:aD}(O:X.stack=X.env::X.outer)(W:X.env.frame=ap X.env.locals)(F:FnOk X.prog X.w X.K X.mg X.base (oJ X.prog X.w) k f fd ps (bJ X.K n T))(hr:Room k X.A)(hg:Gl X x)(hm:X.mg x=ap (.ref f))(hk:P4 X.K (.ref f)=true)(hb:Binds X.K fd ps [])(ha:DA X.nox B (e::es) ta)(EX:ExcAt X.K C)(Y:Gl X z)(L:X.mg z=ap (.ref C))(S:∀q:eg,xO (X.marked<|.ref q) B (c::b) J)(R:(x==("__debug__":Str))=false:=by decide)(hdC:(z==("__debug__":Str))=false:=by decide)(he:fe (e::es) X.env=(eC,gp e X.env)::fe es X.env:=by rfl)(hpl:(hG I<|starEach es X.env).any (·.1)=false:=by rfl)(hsw:zt (.Call (.Name x p) (e::es) [] I) cm ep.line X.env=pure false:=by rfl):
  DS X B (.Try [.Expr (.Call (.Name x p) (e::es) [] I) ep] [.ExceptHandler (ap<|.Name z np) cm (c::b) y] [] [] pos) (IZ C T n ta J):=by
 have o:∀q:eg,xC (X.marked<|.ref q) (c::b) (liftS X B J):=λq=>m4 (S q) λD Z H ⟨U,M,DD,s,h,u⟩=>⟨U,M,DD,s.mark,h,u.mark⟩;refine bH (uS (C:=C) O W (FR F) hr hg hm hk hb .nil ha EX Y L o R hdC he hpl hsw) ?_
 rintro D Z H ⟨U,M,DD,s,h,up⟩
 refine⟨U,M,_,⟨s.i0,s.rh,s.rs⟩,h,λds M1 h1 vs H1 G i1 r1=>?_⟩
 try dsimp only
 rw[Pm];refine dL h1.2 G r1 (by rw[<- r1.length];exact h1.1) (λd M2 m v H2 i j r2=>?_) λC' M2 m H2 i j=>?_
 .exact up.nx _ _ m Z H2 (i1.trans j) (s.go i<|i1.trans j)
 .obtain⟨rfl,m⟩:=m
  exact⟨rfl,U,M2,DD,s.go i (i1.trans j),m,up.go<|i1.trans j⟩
end
end _3
namespace _2
open PySem PySem.Spec PyProof.Rows
theorem g9{scope:z4}{env:Env}{x:Str}{k:V1}(h:(TW scope env).names.lookup x=ap k):∃e,(x,e)∈scope.names/\(k=e\/(e=.free/\k=.cell)):=by
 have i:=Pz h;obtain⟨⟨n,c⟩,f,g⟩:=Pa.mp i
 by_cases b:(c==NameKind.free&&env.scope.kind==.function&&env.kindOf n==ap .cell)=true
 .have a:(n,RC)=(x,k):=by rw[<- g];show _=(if _ then _ else _);rw[if_pos b]
  cases a;have j:c=.free:=by
   simp only[PR]at b;exact beq_iff_eq.mp b.1.1
  exact⟨c,f,.inr ⟨j,rfl⟩⟩
 .have a:(n,c)=(x,k):=by rw[<- g];show _=(if _ then _ else _);rw[if_neg b]
  cases a;exact⟨_,f,.inl rfl⟩
theorem jD{x:Str}:∀{fs:W8}{a:Xa},fs.length=a.length->x∈fs->∃c,(fs.zip a).lookup x=ap c
 |[],_,_,h=>by cases h
 |_::_,[],h,_=>by simp at h
 |y::fs,c::a,hl,h=>by
  rw[UU,QL];cases e:x==y with
  |true=>exact⟨c,rfl⟩
  |false=>
   have ne:¬x=y:=λz=>by rw[z]at e;simp at e
   rcases OM.mp h with z|z
   .exact absurd z ne
   .exact jD (by simpa using hl) z
theorem memZ{α:Type}{C:α->Prop}:∀p∈([]:List α),C p:=λ_ h=>by cases h
theorem memC{α:Type}{C:α->Prop}{a:α}{l:List α}(c:C a)(e:∀p∈l,C p):∀p∈a::l,C p:=λp b=>by
 rcases OM.mp b with rfl|z
 .exact c
 .exact e p z
end _2
namespace _3
open PySem _2
variable{K:Ow}
section
variable{X:Cx}{B:Bd}{pos:Pos}
theorem dnm(i:Nat){x:Str}{pos:Pos}(a:X.N[i]?=ap x:=by rfl)(hv:Lw X.env.scope x:=by first|exact Or.inl rfl|exact Or.inr (Or.inl rfl)|exact Or.inr (Or.inr rfl))(hd:(x==("__debug__":Str))=false:=by decide)(hcd:(x==("__classdict__":Str))=false:=by decide):DE X B (.Name x pos) (ac i):=Le a hv hd hcd
def ii:DX:=λ_ _=>False
theorem uxN{E:XK}:uI K B ii E:=λ_ _ z=>z.elim
theorem sv:gl "list"=ap (.type "list"):=by decide +kernel
theorem zn:gl "tuple"=ap (.type "tuple"):=by decide +kernel
theorem m_:gl "isinstance"=ap (.builtin "isinstance"):=by decide +kernel
theorem Ee:gl "str"=ap (.type "str"):=by decide +kernel
theorem tG:gl "dict"=ap (.type "dict"):=by decide +kernel
theorem Ff:gl "min"=ap (.builtin "min"):=by decide +kernel
theorem FV:gl "max"=ap (.builtin "max"):=by decide +kernel
theorem EJ:gl "len"=ap (.builtin "len"):=by decide +kernel
theorem Ob{x:Str}{T:String}(b:Gl X x)(e:X.mg x=cm)(c:gl x=ap (.type T))(a:x≠"__name__":=by decide)(hd:(x==("__debug__":Str))=false:=by decide):DE X B (.Name x pos) (dC<|.ty T):=
 BG (FU (v:=.ty T) b e c rfl a hd) λ_=>rfl
def vx(t:bp):bp:=λU M Q=>t U M λx M1=>match x with
 |.int i=>Q (.int (-i)) M1
 |_=>False
theorem Kj{a:fy}{b:bp}(e:DE X B a b):DE X B (.UnaryOp .USub a pos) (vx b):=by
 refine a_ (N0 IQ e) ?_
 rintro Z H Q ⟨U,M,QQ,s,h,u⟩
 refine⟨U,M,_,s,h,λd M' q v H' c i r=>?_⟩;cases d with
 |int j=>exact⟨j,r,u _ M' q _ H' c i rfl⟩
 |_=>exact(show False from q).elim
def frzs:List D->Mem->(List D->Mem->Prop)->Prop
 |[],M,Q=>Q [] M
 |d::ds,M,Q=>match d with
  |.ref a=>match M a with
   |some (.lst xs)=>frzs ds (M.del a) λb M'=>Q (.lst xs::b) M'
   |_=>frzs ds M λb M'=>Q (d::b) M'
  |_=>frzs ds M λb M'=>Q (d::b) M'
theorem iJ{WZ:Xe}{Z:_2.St}{s:el}:∀{ds:List D}{vs:List V}{M:Mem}{H:Hp}{Q:List D->Mem->Prop},Inv X WZ Z H s->RepH X.K H M->Rps X.K H ds vs->frzs ds M Q->
  ∃H' es M',Inv X WZ Z H' s/\RepH X.K H' M'/\Frm M H M' H'/\Rps X.K H' es vs/\Q es M'
 |[],vs,M,H,Q,I,rh,r,h=>⟨H,[],M,I,rh,Frm.refl,r,h⟩
 |d::ds,vs,M,H,Q,I,rh,r,h=>by
  obtain⟨v,vs',rfl,a,b⟩:=r;unfold frzs at h
  split at h
  .rename_i a'
   cases a
   split at h
   .rename_i xs e
    obtain⟨ws,h1,h2⟩:=rh _ _ e;obtain⟨o,I2⟩:=Inv.freeze I h1;have im:Imm H (upd H a'<|.frz o<|.lst ws):=Imm.upd (by rw[h1];trivial)
    obtain⟨H',es,M',I',rh',f,r',q⟩:=iJ I2 (rh.freeze h1) (b.mono im) h;refine⟨H',_,M',I',rh',(Frm.del ⟨_,e⟩).trans f,.cons ?_ r',q⟩;have z:Rp X.K (upd H a'<|.frz o<|.lst ws) (.lst xs) (.ref a'):=⟨a',ws,rfl,⟨o,upd_same⟩,h2.mono im⟩;exact z.mf (rh.freeze h1) f
   .obtain⟨H',es,M',I',rh',f,r',q⟩:=iJ I rh b h
    exact⟨H',_,M',I',rh',f,.cons (d:=.ref a') rfl r',q⟩
  .obtain⟨H',es,M',I',rh',f,r',q⟩:=iJ I rh b h
   exact⟨H',_,M',I',rh',f,.cons (a.mf rh f) r',q⟩
def vB(d:D)(M:Mem)(Q:DK):Prop:=match d with
 |.tup ds=>frzs ds M λa M'=>Q (.tup a) M'
 |d=>Q d M
def oR(t:bp):bp:=λU M Q=>t U M λd M'=>vB d M' Q
theorem D_{e:fy}{te:bp}(h:DE X B e te):DE X B e (oR te):=by
 intro b s Z H Q I m;obtain⟨U,M,QQ,j,n,u⟩:=m;refine br (h b s Z H (λv H'=>∃d M',RepH X.K H' M'/\Frm M H M' H'/\Rp X.K H' d v/\vB d M' QQ) I ⟨U,M,_,j,n,λd M' q v H' a i r=>⟨d,M',a,i,r,q⟩⟩) ?_
 rintro w A ⟨v,H',I',g,d,M',a,i,r,q⟩
 unfold vB at q
 split at q
 .obtain⟨p,y,rfl,z,r⟩:=r
  obtain⟨H2,C,M2,I2,c,f,o,x⟩:=iJ I' a r q;exact⟨.ref p,H2,I2,g,u _ _ x _ H2 c (i.trans f) ⟨p,y,rfl,z.mono (f.imm a),o⟩⟩
 .exact⟨v,H',I',g,u _ _ q v H' a i r⟩
theorem Jn{P:fx}{w:g3}{g:Xf}{a:hI}{k n:Nat}{f:eg}{fd:g4}{ps:W8}{T:Sd}(F:FnOk P w K g a (oJ P w) k f fd ps (bJ K n T)):
  FnOk P w K g a CX0 k f fd ps (λvs H Q _=>bJ K n T vs H Q E0):=
 ⟨λvs H Q E h=>F.len _ _ _ _ h,λA b s H c o vs Q E j i u p m=>P3 (F.run A b s H c o vs Q E0 j i u p m) λr x h=>by
  cases r with
  |ok fl=>cases fl<;>exact h
  |error e=>
   obtain⟨C',J,H',B,z,y,v,M,G,I,L,N,C,q⟩:=h;exact(show False from q).elim⟩
theorem Fh{T:Sd}{H:Hp}{a:eg}{c:W7}{Q:VK}(g:B_ H)(i:SqL K H a (c.map V.int))(h:T [.ml (c.map D.int)] (λ_=>cm) (λd _=>d=.bl true) ii)(k:∀H',Q (.bl true) H'):bJ K 1 T [.ref a] H Q E0:=by
 refine⟨rfl,[.ml (c.map D.int)],λ_=>cm,_,_,λb o e=>(by cases e),.cons ⟨a,_,rfl,?_,uE rfl⟩ .nil,h,λd M' q v H' j f r=>?_,λ_ _ z=>z.elim⟩
 .rcases i with (z|z)|z
  .rcases g a with e|⟨o,xs,e⟩
   .rw[e]at z;cases z
   .rw[e]at z;cases z
  .exact .inl z
  .exact .inr z
 .subst q;cases r;exact k H'
end
theorem jY{h h':hI}{N:eg}(X:K.In h)(X':K.In h')(e:W.nsOkIn K N=true):h'.nsMap N=h.nsMap N:=by
 unfold W.nsOkIn at e
 split at e
 .rename_i a
  funext x;unfold Heap.nsMap;rw[X _ _ a,X' _ _ a]
 .cases e
theorem h7{h:hI}{C:eg}(X:K.In h)(q:UK K C [.type "ValueError",.type "Exception",.type "BaseException",.type "object"] "ValueError.__new__"=true):ExcAt K C:=by
 unfold UK at q
 split at q
 .rename_i I z w y
  split at q
  .rename_i C' H o j i v n p s m
   simp only[PR,beq_iff_eq,Bool.not_eq_true']at q;obtain⟨⟨⟨⟨⟨rfl,rfl⟩,b⟩,u⟩,a⟩,c⟩:=q;obtain⟨nm,bs,G,g,B,E,A,sub,x,e,del⟩:=z;dsimp only at s b a c;subst s b;have f:w=#[o,j,i,v,ap (.builtin "ValueError.__new__"),p]:=by
    obtain⟨l⟩:=w;simp only at m;rw[m]
   subst f;refine⟨⟨nm,B,g,bs,H,_,E,A,sub,x,e,I,o,j,i,v,p,"ValueError.__new__","ValueError.__init__","ValueError",h.nsMap g,λJ X'=>⟨X' _ _ y,?_,W.tail_of_in X' u⟩,W.nsMap_none_of_in X a c,PySem.F.excBase_ValueError,by decide,(W.tail_of_in X u).hasType<|by decide⟩⟩
   rw[<- jY X X' a];exact .of_isNs (W.isNs_of_in X' a)
  .cases q
 .cases q
end _3
namespace _2
open PySem
theorem Eh{b:fy}{a:List Comprehension}{scope:z4}{pos f:Pos}{x:Str}{line:Nat}{env:Env}(h:env.blockKind=.function)(i:env.scope.names.lookup x=ap .local)(g:f.line=pos.line)
  (j:(scope.names.any λ(n,k)=>n==x&&(k==.local||k==.cell))=eC):zt (.ListComp b a scope pos) (ap<|.Name x f) line env=pure true:=by
 have e:(Expr.ListComp b a scope pos).pos=pos:=rfl;have c:env.kindOf x=ap .local:=i;unfold zt
 try dsimp only
 rw[h,c,e,g,j];simp
end _2
namespace _3
open PySem _2
variable{B:Bd}{X:Cx}{es:Xb}
def B0:fy->Bool
 |.Starred ..=>eC
 |_=>true
theorem zV{e:fy}{env:Env}(h:B0 e=true):fe (e::es) env=(eC,gp e env)::fe es env:=by
 cases e<;>first|rfl|exact Bool.noConfusion h
section
theorem da_c{e:fy}{te:bp}{t:fg}(a:DE X B e te)(b:DA X B es t)(c:B0 e=true:=by rfl):DA X B (e::es) (aa te t):=E5 a b (zV c)
end
section
end
section
def vH(n:Nat)(t:nD):j8:=λd U M Q=>match d with
 |.lst xs=>xs.length=n/\t xs U M Q
 |.ref a=>match M a with
  |some (.lst xs)=>xs.length=n/\t xs U M Q
  |_=>False
 |_=>False
theorem Kv{k:Nat}{t:nD}{n:Nat}{pos:Pos}(C:X.calm=true)(h:Oc X B es t)(A:(py es X.env).length=n:=by rfl)(hst:(py es X.env).findIdx? (·.1)=none:=by rfl):DG X B (.Tuple es k pos) (vH n t):=by
 intro a s Z H v u Q I r F;obtain⟨d,U,M,QQ,j,y,hd,z⟩:=F;cases d with
 |lst x=>
  obtain⟨p,w,rfl,J,i⟩:=y;obtain⟨G,hd⟩:=hd;cases r;obtain⟨f,c,pl,K⟩:=I.list J.sq;have g:(py es X.env).length=f.toArray.size:=by have:=c.length;have:=i.length;simp[A];lia
  rw[SD];refine ax (Re ?_);unfold unpack;rw[g,hst];refine ax (n7 (W.kun_itemsOf (I.ok.hd C) pl.isList λq m=>?_));have I1:Inv X a Z H { s with heap:=q }:=I.kept (t':=s.toks) λb o e=>m b o (ON<|OC e) e;exact h a _ Z H w _ Q I1 (by simpa using c) ⟨x,U,M,QQ,j,i,hd,z⟩
 |ref p=>
  cases y;simp only[vH]at hd
  split at hd
  .rename_i x e
   obtain⟨w,E,i⟩:=j.rh _ _ e;obtain⟨G,hd⟩:=hd;cases r;obtain⟨f,c,pl,K⟩:=I.list (SqL.of E);have g:(py es X.env).length=f.toArray.size:=by have:=c.length;have:=i.length;simp[A];lia
   rw[SD];refine ax (Re ?_);unfold unpack;rw[g,hst];refine ax (n7 (W.kun_itemsOf (I.ok.hd C) pl.isList λq m=>?_));have I1:Inv X a Z H { s with heap:=q }:=I.kept (t':=s.toks) λb o e=>m b o (ON<|OC e) e;exact h a _ Z H w _ Q I1 (by simpa using c) ⟨x,U,M,QQ,j,i,hd,z⟩
  .exact hd.elim
 |_=>exact(show False from hd).elim
end
mutual
def da:D->PyData
 |.non=>.none
 |.bl b=>.bool b
 |.int i=>.int i
 |.str x=>.str x
 |.tup xs=>.tuple (eV xs)
 |.lst xs=>.list (eV xs)
 |_=>.none
def eV:List D->List PyData
 |[]=>[]
 |x::xs=>da x::eV xs
end
mutual
theorem uX:∀d:D,(da d).hasDict=eC
 |.non=>by simp only[da,PU]
 |.bl _=>by simp only[da,PU]
 |.int _=>by simp only[da,PU]
 |.str _=>by simp only[da,PU]
 |.tup xs=>by simp only[da,PU];exact rA xs
 |.lst xs=>by simp only[da,PU];exact rA xs
 |.ty _=>by simp only[da,PU]
 |.ref _=>by simp only[da,PU]
 |.mt _=>by simp only[da,PU]
 |.ml _=>by simp only[da,PU]
 |.fd _ _=>by simp only[da,PU]
theorem rA:∀xs:List D,Sv (eV xs)=eC
 |[]=>by simp only[eV,Sv]
 |x::xs=>by simp only[eV,Sv,uX x,rA xs,Bool.or_self]
end
mutual
theorem uq:∀(n:Nat)(d:D),bj n d=true->(da d).depth<=n
 |_,.non,_=>by simp[da,Rq]
 |_,.bl _,_=>by simp[da,Rq]
 |_,.int _,_=>by simp[da,Rq]
 |_,.str _,_=>by simp[da,Rq]
 |n+1,.tup xs,f=>by have:=jv n xs f;simp only[da,Rq];lia
 |n+1,.lst xs,f=>by have:=jv n xs f;simp only[da,Rq];lia
 |0,.tup _,f=>by simp[bj]at f
 |0,.lst _,f=>by simp[bj]at f
 |_,.ty _,f=>by simp[bj]at f
 |_,.ref _,f=>by simp[bj]at f
 |_,.mt _,f=>by simp[bj]at f
 |_,.ml _,f=>by simp[bj]at f
 |_,.fd _ _,f=>by simp[bj]at f
theorem jv:∀(n:Nat)(xs:List D),bq n xs=true->S2 (eV xs)<=n
 |_,[],_=>by simp[eV,S2]
 |n,x::xs,f=>by
  rw[bq,PR]at f;have:=uq n x f.1;have:=jv n xs f.2;simp only[eV,S2];lia
end
mutual
theorem sZ{h:hI}:∀(d:D)(u:ay),Hr h d u->∃g,Reads h u (da d) g
 |.non,u,q=>by cases q;exact⟨_,.none⟩
 |.bl _,u,q=>by cases q;exact⟨_,.bool _⟩
 |.int _,u,q=>by obtain⟨t,rfl⟩:=q;exact⟨_,.int _ _⟩
 |.str _,u,q=>by obtain⟨t,rfl⟩:=q;exact⟨_,.str _ _⟩
 |.tup xs,u,q=>by
  obtain⟨p,a,rfl,⟨o,c,e,n,f⟩,r⟩:=q;obtain⟨g,b⟩:=jh xs a r;exact⟨_,.tuple c e f b⟩
 |.lst xs,u,q=>by
  obtain⟨p,a,rfl,⟨o,c,e,n,f⟩,r⟩:=q;obtain⟨g,b⟩:=jh xs a r;exact⟨_,.list c e f b⟩
 |.ty _,_,q=>q.elim
 |.ref _,_,q=>q.elim
 |.mt _,_,q=>q.elim
 |.ml _,_,q=>q.elim
 |.fd _ _,_,q=>q.elim
theorem jh{h:hI}:∀(xs:List D)(us:W9),Hrs h xs us->∃f,ReadsAll h us (eV xs) f
 |[],_,q=>by cases q;exact⟨_,.nil⟩
 |x::xs,_,q=>by
  obtain⟨u,r,rfl,a,b⟩:=q;obtain⟨i,c⟩:=sZ x u a;obtain⟨g,e⟩:=jh xs r b;exact⟨_,.cons c e⟩
end
section
end
theorem Bj:gl "repr"=ap (.builtin "repr"):=by decide +kernel
end _3
namespace _S
open PySem
variable{A:ix}{prog:fx}{s:el}{E:Xd}{w:g3}
section
variable{K:Type}[DecidableEq K]
variable{knd:KeyKind prog w K}
end
section
variable{K:Type}[DecidableEq K]{knd:KeyKind prog w K}
end
section
variable{M:Model}
end
section
variable{I a:eg}{f:ay}{i n ep:Nat}{es:Array (Int×ay)}{t:SetTable}
end
section
variable{I a:eg}{ep:Nat}{es:Array (Int×ay)}{t:SetTable}
end
end _S
namespace _S
open PySem PySem.W PySem.Calls PyProof.Rows PyProof.V PySem.Spec
section
variable {prog:fx}{w:g3}{A:ix}{E:Xd}{s:el}{a:eg}{ep:Nat}{es:Array (Int×ay)}{t:SetTable}
end
end _S
namespace _S
open PySem
section
variable {prog:fx}{w:g3}{A:ix}{E:Xd}{s:el}{a:eg}
end
section
variable {K:Type}[DecidableEq K](o:Ord K)
end
end _S
namespace _3
open PySem _2 _S
section
variable {X:Cx}{B:Bd}
end
end _3
namespace _S
open PySem
section
variable {prog:fx}{w:g3}{A:ix}{E:Xd}{s:el}{a:eg}
end
end _S
namespace _3
open PySem _2 _S
def jm:List D->Option (List Int)
 |[]=>ap []
 |.int i::ds=>match jm ds with
  |some is=>ap (i::is)
  |none=>cm
 |_=>cm
theorem rZ{K:Ow}{H:Hp}:∀{ds:List D}{vs:List V}{xs:W7},Rps K H ds vs->jm ds=ap xs->vs=xs.map V.int
 |[],vs,xs,r,e=>by cases e;exact r
 |d::ds,vs,xs,r,e=>by
  obtain⟨v,h,rfl,a,b⟩:=r;cases d with
  |int c=>
   simp only[jm]at e
   split at e
   .rename_i g f
    cases e;cases a;rw[rZ b f];rfl
   .cases e
  |_=>simp[jm]at e
section
variable {X:Cx}{B:Bd}
end
end _3
namespace _2
open PySem
section
variable {X:Cx}
end
end _2
namespace _3
open PySem _2 _S
section
variable {X:Cx}{B:Bd}
theorem zx:gl "range"=ap (.type "range"):=by decide +kernel
def tV(t:fg):bp:=λU M Q=>t U M λa M1=>match a with
 |[.int j]=>(-(2 ^ 62)<=j/\j<=1000)/\∀p,M1 p=cm->Q (.ref p) (M1.upd p<|.lst<|dR 0 j.toNat)
 |_=>False
def u_(n:Nat):List V:=(Pe n).map λ(i:Nat)=>V.int (0+(i:Int))
theorem DU{K:Ow}{H:Hp}{n:Nat}:Rps K H (dR 0 n) (u_ n):=by
 unfold dR u_;generalize Pe n=l
 induction l with
 |nil=>rfl
 |cons i l ih=>exact⟨_,_,rfl,rfl,ih⟩
theorem Dh{W2:Xg}{n:Nat}(h:ItemsOf (λi v=>∃t,v=.int (0+i*1) t) W2 n):Vals (u_ n) W2.toList:=by
 obtain⟨b,c⟩:=h;have a:∀(l:W9)(k m:Nat),l.length=m->(∀(j:Nat)(v:ay),l[j]?=ap v->∃t,v=.int (0+((k+j:Nat):Int)) t)->Vals ((Rg k m).map λ(i:Nat)=>V.int (0+(i:Int))) l:=by
  intro l
  induction l with
  |nil=>intro k m e _;subst e;exact .nil
  |cons x l ih=>
   intro k m e h;subst e;rw[Oy,QK,Ou];refine .cons ?_ (ih (k+1) _ rfl λj v q=>?_)
   .obtain⟨t,rfl⟩:=h 0 x (by simp)
    exact⟨t,rfl⟩
   .obtain⟨t,e⟩:=h (j+1) v (by simpa using q)
    exact⟨t,by rw[e];congr 2;lia⟩
 have:=a W2.toList 0 n (by simpa using b) λj v q=>by
  obtain⟨t,e⟩:=c j v (by simpa using q)
  exact⟨t,by rw[e,Th,SQ]⟩
 unfold u_;rw[Rf];exact this
def AH(t:TA):TE:=λZ H Q=>t Z H λa H1=>∃j:Int,a=[.int j]/\(-(2 ^ 62)<=j/\j<=1000)/\∀p,H1 p=cm->Q (.ref p) (upd H1 p<|.lst<|u_ j.toNat)
theorem wf{e:fy}{t:TA}{p x pos a:Pos}(T:X.calm=true)(S:Gl X "range")(U:X.mg "range"=cm)(y:Gl X "list")(A:X.mg "list"=cm)(R:PA X [e] t)
  (W:fe [e] X.env=[(eC,gp e X.env)]:=by rfl) (hs3:fe [T8 (.Name "range" x) [e] [] a] X.env=[(eC,gp (.Call (.Name "range" x) [e] [] a) X.env)]:=by rfl):
  PE X (.Call (.Name "list" p) [.Call (.Name "range" x) [e] [] a] [] pos) (AH t):=by
 intro m s Z H Q I h;refine ra (eG I y A sv<|Pk ?_ hs3 rfl);rw[hs3];show eH _ _ (spliced ((eC,_)::hG pos [])) _ _ s;refine Qr ?_;refine ra (eG I S U zx<|Pk (br (R a m s Z H _ I h) λus c ⟨vs,H1,I1,L,K⟩=>?_) W rfl);obtain⟨j,rfl,⟨N,Y⟩,q⟩:=K;obtain⟨u,rfl,G⟩:=iq L;obtain⟨t',rfl⟩:=G;refine call_range_1 ?_;refine Q4 ?_;have J:=I1.ok.hd T;refine call_list_range (n:=j.toNat) J (IsRange.new ..) (small_one (by decide) (by decide) N<|by lia) (by rw[rangeSize_one];split<;>lia) (by lia) λF P f C E M g=>?_
 have i:(c.heap.push { cls:=.type "range",data:=.fields #[.int 0 c.toks,.int j t',.int 1 (c.toks+1)] }).objs.size=c.heap.objs.size+1:=Pg ..;have O:H1 (c.heap.objs.size+1)=none:=I1.hok.fresh (Te _);have v:F.get? (c.heap.objs.size+1)=ap { cls:=.type "list",dict:=cm,data:=.seq f C,slots:=#[] }:=by rw[<- i];exact M
 refine⟨.ref (c.heap.objs.size+1),_,I1.laid (t':=P) (o:=.lst (u_ j.toNat)) (λb o z=>E b o (Oq _ z)) (Te _) (show ObjOk X.prog X.w _ _ _ (.lst _) from ⟨?_,f.toList,C,Dh g,by rw[Array.toArray_toList];exact v⟩),?_,q _ O⟩
 .simp only[u_,Ot,SM]
  exact OQ (by lia:j.toNat<=1000) (by decide)
 .show OU _=OU _
  rw[<- i]
theorem vw{e:fy}{t:fg}{p p2 pos pos2:Pos}(hc:X.calm=true)(hg:Gl X "range")(hm:X.mg "range"=cm)(hg2:Gl X "list")(hm2:X.mg "list"=cm)(ha:DA X B [e] t)
  (hs:fe [e] X.env=[(eC,gp e X.env)]:=by rfl) (hs3:fe [T8 (.Name "range" p2) [e] [] pos2] X.env=[(eC,gp (.Call (.Name "range" p2) [e] [] pos2) X.env)]:=by rfl):
  DE X B (.Call (.Name "list" p) [.Call (.Name "range" p2) [e] [] pos2] [] pos) (tV t):=by
 refine a_ (wf hc hg hm hg2 hm2 ha hs hs3) ?_
 rintro Z H Q ⟨U,M,QQ,s,h,u⟩
 refine⟨U,M,_,s,h,λds M1 h1 vs H1 rh1 i1 r1=>?_⟩
 split at h1
 .obtain⟨v,rfl,rv⟩:=gJ (ds:=[]) r1
  cases rv;refine⟨_,rfl,h1.1,λd hd=>?_⟩;exact u _ _ (h1.2 d<|rh1.fresh hd) _ _ (rh1.put (by rw[hd];trivial) ⟨_,upd_same,DU⟩) (i1.trans<|Frm.put<|.inl hd) rfl
 .exact h1.elim
end
section
variable {X:Cx}{B:Bd}{name:Str}{a:eg}{tab:List (Str×D)}
end
end _3
namespace _S
open PySem
section
variable {prog:fx}{w:g3}{K:Type}[DecidableEq K]{A:ix}{E:Xd}{s:el}{knd:KeyKind prog w K}
end
section
variable {prog:fx}{w:g3}{K:Type}[DecidableEq K]{A:ix}{E:Xd}{s:el}{knd:KeyKind prog w K}
end
end _S
namespace _2
open PySem PySem.Spec
section
variable {X:Cx}{tg:fy}
end
end _2
namespace _3
open PySem _2 _S
section
variable {X:Cx}{B:Bd}{tg:fy}{K:Ow}{H:Hp}{M:Mem}
end
end _3
namespace _3
open PySem _2
section
variable {X:Cx}{B:Bd}{pos:Pos}
end
section
variable {X:Cx}{B:Bd}
end
end _3
namespace _3
open PySem _2 _S
section
variable {X:Cx}{B:Bd}
end
end _3
namespace _S
open PySem PySem.W PySem.Calls PyProof.Rows PyProof.V PySem.Spec
section
variable {prog:fx}{w:g3}{K:Type}[DecidableEq K]{knd:KeyKind prog w K}{A:ix}{E:Xd}{s:el}{v d:eg}{ep:Nat}{W1:List (K×ay)}
end
end _S
namespace _3
open PySem _2 _S
section
variable {X:Cx}{B:Bd}{pos:Pos}
end
end _3
namespace LX
open PySem PySem.W PySem.Spec PySem.Calls PyProof.Rows Builtin Builtin.ObjectAttr Builtin.Getset_descriptor
section
variable {K:Frag}{prog:fx}{w:g3}{A:ix}{E:Xd}{s:el}
end
end LX
namespace LX
open PySem PySem.W PySem.Spec PySem.Calls PyProof.Rows
end LX
namespace _2
open PySem PySem.Spec PyProof.Rows
section
variable {X:Cx}{WZ:Xe}{Z:St}{H:Hp}{s:el}{e:ay}
end
end _2
namespace _2
open PySem
end _2
namespace _3
open PySem _2
variable{K:Ow}
section
variable{X:Cx}{B:Bd}{H H':Hp}{M M1 M':Mem}
end
section
variable{P:fx}{w:g3}{mg:Xf}{base:hI}{f:eg}{fd:g4}
end
section
variable{X:Cx}{B:Bd}{H H':Hp}{M M1 M':Mem}
end
end _3
namespace _3
open PySem _2 _S
section
variable {X:Cx}{B:Bd}
end
end _3
namespace _3
open PySem _2
variable{B:Bd}{X:Cx}{pos:Pos}
section
theorem Ki{bs:W7}{W5:W9}(f:Vals (bs.map V.int) W5){i:Nat}{v:ay}(j:W5.toArray[i]?=ap v):∃c t,bs[i]?=ap c/\v=.int c t:=by
 have a:W5[i]?=ap v:=by simpa using j
 have h:=f.length;rw[Ot]at h;have b:i<bs.length:=by
  have:=(Qc.mp a).1;lia
 obtain⟨m,e,g⟩:=f.get (i:=i) (x:=.int bs[i]) (by rw[OJ,Ov b];rfl)
 rw[a]at e;cases e;obtain⟨t,rfl⟩:=g;exact⟨bs[i],t,Ov b,rfl⟩
theorem fJ(bs:W7):∀n,n<=bs.length->preSum (λi=>bs.getD i 0) n=(bs.take n).sum
 |0,_=>by simp[preSum]
 |n+1,h=>by
  rw[preSum,fJ bs n (by lia),SI (by lia),RH,Ov (by lia),List.sum_append,List.sum_singleton]
  rfl
theorem nO{b:Int}:∀l:List Int,(∀x∈l,-b<=x/\x<=b)->-(l.length*b)<=l.sum/\l.sum<=l.length*b
 |[],_=>by simp
 |x::l,h=>by
  have c:=h x (OL ..);have f:=nO l λy a=>h y (OE _ a);have e:((x::l).length:Int)*b=b+l.length*b:=by
   rw[Oy];push_cast;rw[Int.add_mul];lia
  rw[Pj,e];lia
def yJ:pT:=λa M Q=>match a with
 |[d]=>match gO M d with
  |some xs=>match jm xs with
   |some ss=>(ss.length<=1000/\∀x∈ss,-1000000000000000<=x/\x<=1000000000000000)/\Q (.int ss.sum) M
   |none=>False
  |none=>False
 |_=>False
theorem z7(Y:X.calm=true):bL X (.builtin "sum") (liftC X yJ):=by
 intro C s Z H xs us Q I r h;obtain⟨ds,M,QQ,F,U,h,S⟩:=h;unfold yJ at h
 split at h
 .obtain⟨v,rfl,O⟩:=gJ (ds:=[]) U
  split at h
  .rename_i ys e
   obtain⟨q,vs,rfl,K,T⟩:=i_ F O e
   split at h
   .rename_i a J
    obtain⟨⟨hl,z⟩,h⟩:=h;have:=rZ T J;subst this;obtain⟨u,rfl,N⟩:=iq r;cases N;obtain⟨g,E,p,hz⟩:=I.list (.inl K);have f:=E.length;rw[Ot]at f;have n:q<s.heap.objs.size:=by obtain⟨o,e,_⟩:=p.isList;exact OC e
    have y:q≠s.heap.objs.size:=ON n;have m:g.toArray.size=a.length:=by rw[OB,<- f]
    refine call_sum_walk (V9 p.isList ⟨s.heap.objs.size,_,_,_,_,_,λi=>a.getD i 0,rfl,Walks.list (A:=X.A.in1) (I.ok.hd Y) s.heap.objs.size q y g.toArray,⟨⟨_,OD _ rfl,rfl,rfl⟩,p.isList.push _⟩,?_,λi v P=>?_,λj w=>?_,λh' W t' R=>?_⟩)
    .intro b hb
     simp at hb;rcases hb with hb|hb
     .show _<(s.heap.objs.push _).size;rw[Array.size_push,hb];exact Rb _
     .show _<(s.heap.objs.push _).size;rw[Array.size_push,hb];exact RT n
    .obtain⟨c,t,L,rfl⟩:=Ki E P
     exact⟨t,by show _=Qw (a.getD i 0) t;rw[RH,L];rfl⟩
    .rw[m]at w
     have b1:-1000000000000000<=a.getD j 0/\a.getD j 0<=1000000000000000:=by
      rw[RH,Ov w];exact z _ (Qn w)
     have b2:=nO (b:=1000000000000000) (a.take (j+1)) λx G=>z x (List.mem_of_mem_take G);have b3:((a.take (j+1)).length:Int)<=1000:=by simp;lia
     rw[fJ a (j+1) (by lia)]
     show InLong (a.getD j 0)/\_;unfold InLong;lia
    .rw[m,fJ a _ (Oz _),List.take_length]
     refine⟨.int a.sum,H,?_,⟨_,rfl⟩,S _ M h _ H F Frm.refl rfl⟩;exact I.kept (t':=W) λb o hb=>R b o (by simp;exact ON (OC hb)) (Oq _ hb)
   .exact h.elim
  .exact h.elim
 .exact h.elim
def pJ:pT:=λa M Q=>match a with
 |[d]=>bj 60 d=true/\(da d).showable=true/\(da d).shown.length<=sizeLine/\Q (.str (da d).shown) M
 |_=>False
theorem vq(C:X.A.guards=ap [])(R:X.A.units+64<p3):bL X (.builtin "repr") (liftC X pJ):=by
 intro f s Z H y L Q I r h;obtain⟨ds,M,QQ,G,K,h,J⟩:=h;unfold pJ at h
 split at h
 .rename_i d
  obtain⟨z,j,n,h⟩:=h;obtain⟨v,rfl,F⟩:=gJ (ds:=[]) K;obtain⟨u,rfl,E⟩:=iq r;have q:=BZ I z F E;have O:=uq 60 _ z;obtain⟨N,w⟩:=sZ _ _ q;have fin:∀(t:Tok)(c:Nat)(a:hI),(∀b o,s.heap.get? b=ap o->a.get? b=ap o)->EP X f Z Q (.str (da d).shown t) { s with heap:=a,toks:=c }:=λt c a g=>
   ⟨.str _,H,I.kept (t':=c) λb o e=>g b o e,⟨_,rfl⟩,J _ M h _ H G Frm.refl rfl⟩
  cases d with
  |non=>cases q;exact PySem.P.repr_of_none (fin _ _ _ λ_ _ e=>e)
  |bl b=>cases q;exact PySem.P.repr_of_bool (fin _ _ _ λ_ _ e=>e)
  |int i=>
   obtain⟨t,rfl⟩:=q;exact PySem.P.repr_of_int (by simpa [da,Rc] using j) (fin _ _ _ λ_ _ e=>e)
  |str x=>
   obtain⟨t,rfl⟩:=q;exact PySem.P.repr_of_str (fin _ _ _ λ_ _ e=>e) n
  |tup y=>
   obtain⟨p,m,rfl,_⟩:=q;exact repr_of_reads' w j (UM<|uX _) C (by lia) (λ_ _ e=>e) (λa u c g=>fin u c a g) n
  |lst y=>
   obtain⟨p,m,rfl,_⟩:=q;exact repr_of_reads' w j (UM<|uX _) C (by lia) (λ_ _ e=>e) (λa u c g=>fin u c a g) n
  |_=>exact q.elim
 .exact h.elim
end
theorem E9:gl "sum"=ap (.builtin "sum"):=PyProof.Rows.boot_sum
section
variable{C:eg}{f:Str}{o value:fy}{ta tv:bp}{tpos:Pos}
def qv(C:eg)(ta tv:bp)(f:Str):aD:=λD U M=>ta U M λx M1=>match x with
 |.ref a=>match M1 a with
  |some (.ins C' fs)=>C'=C/\fs.length<1000/\match fs.lookup f with
   |some (.int i)=>tv U M1 λy M2=>match y with
    |.int j=>M2 a=ap (.ins C fs)/\D.nx U (M2.upd a<|.ins C<|bC f (.int (i+j)) fs)
    |_=>False
   |_=>False
  |_=>False
 |_=>False
theorem zE(c:Cls X.K C)(n:NoAttr X.K C f)(ha:DE X B o ta)(hv:DE X B value tv):DS X B (.AugAssign (.Attribute o f tpos) .Add value pos) (qv C ta tv f):=by
 refine bH (nW ha hv Ji) ?_
 rintro D Z H ⟨U,M,DD,s,h,up⟩
 refine⟨U,M,_,s,h,λx M1 h1 v1 H1 rh1 i1 r1=>?_⟩
 split at h1
 .rename_i a
  cases r1
  split at h1
  .rename_i C' fs hM
   obtain⟨rfl,hl,h1⟩:=h1
   split at h1
   .rename_i i hf
    obtain⟨dx,ws,e1,e2⟩:=rh1 _ _ hM;obtain⟨z,_⟩|⟨d,w,hd,hw,rw1⟩:=e2.lookup f
    .rw[hf]at z;cases z
    rw[hf]at hd;cases hd;cases rw1;refine⟨a,C',dx,ws,.int i,rfl,e1,c,n,hw,U,M1,_,s.go rh1 i1,h1,λy M2 h2 v2 H2 rh2 i2 r2=>?_⟩
    split at h2
    .rename_i j
     cases r2;obtain⟨hM2,h2⟩:=h2;obtain⟨dx2,ws2,e3,e4⟩:=rh2 _ _ hM2;have i3:Frm M2 H2 (M2.upd a<|.ins C'<|bC f (.int (i+j)) fs) (upd H2 a<|.ins C' dx2<|_2.cV f (.int (i+j)) ws2):=Frm.put (.inr ⟨_,hM2⟩);refine⟨i,j,rfl,rfl,dx2,ws2,e3,by rw[<- e4.length];exact hl,up.nx _ _ h2 Z _ ((i1.trans i2).trans i3)<|s.go (rh2.put (by rw[e3];trivial) ⟨dx2,_,upd_same,?_⟩)<|(i1.trans i2).trans i3⟩
     exact(j5 (show Rp X.K H2 (.int (i+j)) (.int (i+j)) from rfl) e4).mono (i3.imm rh2)
    .exact h2.elim
   .exact h1.elim
  .exact h1.elim
 .exact h1.elim
end
section
variable{CX:oo}{k n:Nat}{f C:eg}{fd:g4}{ps:W8}{T:Sd}{E:XK}{EE:DX}{x:Str}{p:Pos}
end
section
variable{K:Ow}{H H':Hp}{M M1 M':Mem}
end
section
end
end _3
namespace _S
open PySem PySem.W PySem.Calls PyProof.Rows PyProof.V PySem.Spec
section
variable {prog:fx}{w:g3}{A:ix}{E:Xd}{s:el}{it d:eg}{i n ep:Nat}{ok ov:ay}{od:Obj}{es:Array WF}
end
end _S
namespace _2
open PySem PySem.Spec PyProof.Rows _S
theorem Ol{X:Cx}{b:Xe}{Z:St}{H:Hp}{s:el}{d:eg}{c:Obj}{a:List (List aF×V)}{es:Array WF}{n:Nat}(I:Inv X b Z H s)(e:H d=ap (.frz c<|.dT a))(p:c.data=.dict es n):
  s.heap.get? d=ap c/\∃xs:List (List aF×eg×ay),KT H a xs/\es.toList=xs.map (entryOfKey<|tupleKind<|aV X.prog X.w):=by
 obtain⟨f,_,_,xs,r,o,j,m,g,_,h,i,_⟩:=(show ObjOk X.prog X.w H s.heap d (.frz c<|.dT a) from I.hok d _ e);rw[f]at g;cases g;rw[p]at h;cases h;exact⟨f,xs,r,i⟩
end _2
namespace _3
open PySem _2 _S
section
variable {X:Cx}{B:Bd}
end
end _3
namespace _S
open PySem PySem.W PySem.Calls PyProof.Rows PyProof.V PySem.Spec _2
variable{A:ix}{prog:fx}{w:g3}
theorem eT:VZ WT "list.__getattribute__"=ap Builtin.«object.__getattribute__»:=Wn (id':="object.__getattribute__") (by kernel_rfl) (by decide +kernel) (by decide +kernel) (by kernel_rfl)
theorem iL:On (.type "list") "__getattr__"=pure none:=by rw[pr];rw[j0];kernel_rfl
theorem qm:On (.type "list") "keys"=pure none:=by rw[pr];rw[j0];kernel_rfl
abbrev F9(h:hI)(a:eg)(W5:Xg)(n:Nat):Prop:=h.get? a=ap { cls:=.type "list",dict:=cm,data:=.seq W5 n,slots:=#[] }
theorem jS(a:eg)(W5:Xg)(n:Nat)(name:Str)(u:Tok)(e:On (.type "list") name=pure cm)(b:(["__module__","__name__","__qualname__","__doc__","__annotations__"]:W8).contains name=eC)(hsz:name.length+100<=sizeLine):
  Wt (Builtin.«object.__getattribute__» ⟨[.ref a,.str name u],[]⟩) (λA R s=>F9 s.heap a W5 n/\raisesAttr (.ref a) name A R s):=
 Meets.of_wp λprog w A R s c=>by
  obtain⟨f,g,d,i,j⟩:=s;obtain⟨h,c⟩:=c;have m:(⟨f,g,d,i,j⟩:el).TypeIs (.ref a) "list":=⟨_,h,rfl⟩;unfold Builtin.«object.__getattribute__»
  repeat (any_goals (first|assumption|wp_step))
  simp only[b,OI,if_false]
  repeat (any_goals (first|assumption|wp_step))
  exact WR c.1 c.2 (attrMsg_fits (by decide +kernel) hsz)
section
variable{E:Xd}{s:el}
theorem lG{a:eg}{W5:Xg}{n:Nat}{Q:Option ay->el->Prop}(j:F9 s.heap a W5 n)(v:A.handled=cm)(h:∀h' m,(∀b o,s.heap.get? b=ap o->h'.get? b=ap o)->Q cm { s with heap:=h',toks:=m }):eH (ff prog w) A (WX (.ref a) "keys") Q E s:=by
 obtain⟨p,g,d,m,u⟩:=s;have i:∀c,(⟨p,g,d,c,u⟩:el).TypeIs (.ref a) "list":=λ_=>⟨_,j,rfl⟩;have q:=sub_AttributeError;have z:=Q7.lookup;have x:=Q7.bind (.ref a);have B:=iL;unfold WX getAttrBy? getAttrBy
 repeat (any_goals (first|assumption|exact i _|((with_reducible show eH _ _ (call (TF "list.__getattribute__") _ _) _ _ _);refine vb Q7 (i _) eT (PySem.F.args_list_getattribute_2 _ _) (jS a W5 n "keys" _ qm (by decide +kernel)<|by decide +kernel) ⟨j,v,λh' c e f=>?_⟩)|wp_step))
 obtain⟨y,G,C⟩:=f.there;show eH _ _ (Tl _ _ _ _ _ _ _) _ _ _;unfold Tl
 repeat (any_goals (first|assumption|wp_step))
 exact h _ _ f.keeps
end
def G3(h:hI)(T:eg)(k v:ay):Prop:=∃o n,h.get? T=ap o/\o.cls=.type "tuple"/\o.data=.seq #[k,v] n
theorem yU{R:WN->el->Prop}{l it d:eg}{ps:List (ay×ay)}{Ts:Xa}(hh:A.handled=cm)(P:Nat->hI->Prop)(stay:∀i h h',P i h->(∀b o,b≠it->h.get? b=ap o->h'.get? b=ap o)->P i h')(step:∀(i:Nat)(hi:i<ps.length)(s:el)(Q:Unit->el->Prop)(E:Xd),P i s.heap->(∀h' v,P (i+1) h'->Qt d s.heap h'->Q () { s with heap:=h',toks:=v })->eH (ff prog w) A.in1 (dictSet d ps[i].1 ps[i].2) Q E s)(hl:Ts.length=ps.length)(n1:l≠it)(n2:d≠it)(n3:l≠d)(nT:∀T∈Ts,T≠it/\T≠d):
  ∀(n i:Nat)(s:el),n=ps.length-i->i<=ps.length->s.heap.IsListIter it l i->s.heap.IsList l (Ts.map OU).toArray->(∀(i:Nat)(Y:i<Ts.length)(h2:i<ps.length),G3 s.heap Ts[i] ps[i].1 ps[i].2)->P i s.heap->
   (∀f:el,f.os=s.os->f.gens=s.gens->f.drawn=s.drawn->P ps.length f.heap->(∀c o,c≠it->c≠d->s.heap.get? c=ap o->f.heap.get? c=ap o)->R (.ok<|.ret .none) f)->
   ∀v:Nat,Rs (ff prog w) A (.builtin "dict.update.loop" ⟨[.ref d,.ref it,t3 v,.none],[]⟩) R s:=by
 intro n
 induction n with
 |zero=>
  intro i s hn hi u a _ U hR v;have W:i=ps.length:=by lia
  refine SC bv ?_;rw[QF aR _];show eH _ A.in1 (Os (.ref it) >>= _) _ _ s;refine ax (WP (A:=A.in1) hh u a (by simp;lia) λh' B=>?_)
  refine ax (m:=SH d []) (eX<|wpAny_pure (hR _ rfl rfl rfl ?_ λc o H J e=>B c o H e));rw[<- W];exact stay i _ _ U λb o C e=>B b o C e
 |succ n ih=>
  intro i s hn hi u a G U hR v;have p:i<ps.length:=by lia
  have q:i<Ts.length:=by lia
  refine SC bv ?_;rw[QF aR _];show eH _ A.in1 (Os (.ref it) >>= _) _ _ s;refine ax (WG (x:=.ref Ts[i]) u a (by simp[q]) λh' y sb=>?_)
  obtain⟨nTi,nTd⟩:=nT Ts[i] (Qn q);have K:∀b o,b≠it->s.heap.get? b=ap o->h'.get? b=ap o:=λb o C e=>sb.extBut b o C e;obtain⟨oT,m,e1,e2,e3⟩:=G i q p;have F:=K _ _ nTi e1;have I:({ s with heap:=h' }:el).TypeIs (.ref Ts[i]) "tuple":=⟨_,F,e2⟩;refine ax (n7<|wpAny_bind<|wpAny_tryCatch ?_);unfold RF;refine ax (PP I ?_);rw[if_pos (by decide)]
  refine ax (om (s:={ s with heap:=h' }) F e3<|wpAny_pure ?_);show eH _ _ (tm [ps[i].1,ps[i].2]<|dictSet d ps[i].1 ps[i].2) _ _ _;refine n7 (step i p { s with heap:=h' } _ _ (stay i _ _ U K) λz Z X g=>?_);have L:∀b o,b≠it->b≠d->s.heap.get? b=ap o->z.get? b=ap o:=λb o C hd e=>g.extBut b o hd (K b o C e);refine eX ⟨UV aR _,?_⟩;refine ih (i+1) { s with heap:=z,toks:=Z } (by lia) p (y.at λo e=>g.extBut _ o n2.symm e) ?_ (λj Y h2=>?_) X (λf N S q3 q4 q5=>hR f N S q3 q4 λc o H J e=>q5 c o H J (L c o H J e)) (v+1)
  .obtain⟨o,M,O⟩:=a
   exact⟨o,L _ _ n1 n3 M,O⟩
  .obtain⟨o,m,M,O⟩:=G j Y h2
   obtain⟨N,S⟩:=nT Ts[j] (Qn Y);exact⟨o,m,L _ _ N S M,O⟩
theorem A1{E:Xd}{s:el}{l:eg}{m:Nat}{ps:List (ay×ay)}{Ts:Xa}{Q:Xd}(I:A.handled=cm)(P:Nat->hI->Prop)(Y:∀h',(∀b o,s.heap.get? b=ap o->h'.get? b=ap o)->h'.get? s.heap.objs.size=ap { cls:=.type "dict",data:=.dict #[] }->P 0 h')(stay:∀i h h',P i h->(∀b o,b<=s.heap.objs.size->h.get? b=ap o->h'.get? b=ap o)->P i h')(step:∀(i:Nat)(H:i<ps.length)(f:el)(Q:Unit->el->Prop)(E:Xd),P i f.heap->(∀h' tk,P (i+1) h'->Qt s.heap.objs.size f.heap h'->Q () { f with heap:=h',toks:=tk })->eH (ff prog w) A.in1.in1 (dictSet s.heap.objs.size ps[i].1 ps[i].2) Q E f)(hl:Ts.length=ps.length)(hls:F9 s.heap l (Ts.map OU).toArray m)(hpr:∀(i:Nat)(C:i<Ts.length)(G:i<ps.length),G3 s.heap Ts[i] ps[i].1 ps[i].2)(h:∀f:el,f.os=s.os->f.gens=s.gens->f.drawn=s.drawn->P ps.length f.heap->(∀c o,s.heap.get? c=ap o->f.heap.get? c=ap o)->Q (.ref s.heap.objs.size) f):
  eH (ff prog w) A (call (.type "dict") [.ref l]) Q E s:=by
 refine callType_codes (Q₁:=λobj p=>obj=.ref s.heap.objs.size/\p={ s with heap:=s.heap.push { cls:=.type "dict",data:=.dict #[] } }) _2.F.called_dict (_2.F.typeCall_dict_1 _) UE (gZ _ ⟨rfl,rfl⟩) ?_
 rintro obj p ⟨rfl,rfl⟩
 have B:∀c o,s.heap.get? c=ap o->(s.heap.push { cls:=.type "dict",data:=.dict #[] }).get? c=ap o:=λc o e=>Oq _ e;have lt:∀{c o},s.heap.get? c=ap o->c<s.heap.objs.size:=λe=>OC e;have q:(s.heap.push { cls:=.type "dict",data:=.dict #[] }).get? s.heap.objs.size=ap { cls:=.type "dict",data:=.dict #[] }:=OD _ rfl;have v:({ s with heap:=s.heap.push { cls:=.type "dict",data:=.dict #[] } }:el).TypeIs (.ref s.heap.objs.size) "dict":=⟨_,q,rfl⟩;refine⟨v,Uz _ _,?_⟩;unfold Builtin.«dict.__init__» SG;refine ax (ax<|wpAny_notOrdered_dict v<|wpAny_pure ?_);show eH _ _ (QJ "dict.__init__" s.heap.objs.size (.ref l) [] .none) _ _ _;unfold QJ;refine ax (PP (T:="list") ⟨_,B _ _ hls,rfl⟩ ?_);rw[if_pos (by decide)]
 refine ax (lG (s:={ s with heap:=s.heap.push { cls:=.type "dict",data:=.dict #[] } }) (B _ _ hls) I λa z j=>?_);rw[if_pos (show (none:Option ay).isNone=true from rfl)];have up1:∀c o,s.heap.get? c=ap o->a.get? c=ap o:=λc o e=>j c o (B c o e);have y:a.IsList l (Ts.map OU).toArray:=⟨_,up1 _ _ hls,rfl,m,rfl⟩;refine ax (z5<|wpAny_bind<|wpAny_pyIter_list (s:={ s with heap:=a,toks:=z }) y<|wpAny_pure ⟨UV aR _,?_⟩);have x:=j _ _ q;have u:s.heap.objs.size<a.objs.size:=OC x;have up2:∀c o,a.get? c=ap o->(a.push { cls:=.type "list_iterator",data:=.fields #[.ref l,.int 0 0] }).get? c=ap o:=λc o e=>Oq _ e;have g:∀{c o},s.heap.get? c=ap o->c≠a.objs.size/\c≠s.heap.objs.size:=λ{c o} e=>⟨ON (SS (lt e) u),ON<|lt e⟩;refine yU (A:=A.in1) (l:=l) (it:=a.objs.size) (d:=s.heap.objs.size) (ps:=ps) (Ts:=Ts) I P (λi h h' U N=>stay i h h' U λb o X e=>N b o (ON<|RL X u) e) step hl (g hls).1 (ON u) (g hls).2 (λT S=>?_) ps.length 0 { s with heap:=a.push { cls:=.type "list_iterator",data:=.fields #[.ref l,.int 0 0] },toks:=z } (by simp) (Qf _) ⟨_,OD _ rfl,rfl,rfl⟩ ?_ (λi C G=>?_) (Y _ (λb o e=>up2 b o (up1 b o e))<|up2 _ _ x) (λf R W L M J=>?_) 0
 .obtain⟨i,H,rfl⟩:=List.mem_iff_getElem.mp S
  obtain⟨o,n,e,_⟩:=hpr i H (by lia)
  exact g e
 .obtain⟨o,O,K⟩:=y
  exact⟨o,up2 _ _ O,K⟩
 .obtain⟨o,n,e,r⟩:=hpr i C G
  exact⟨o,n,up2 _ _ (up1 _ _ e),r⟩
 .exact⟨rfl,h f R W L M λc o e=>J c o (g e).1 (g e).2 (up2 _ _<|up1 _ _ e)⟩
end _S
namespace _2
open PySem PySem.Spec PyProof.Rows _S
inductive PrK(H:Hp):List V->List (aF×V)->Prop
 |nil:PrK H [] []
 |cons {T:eg} {k:aF} {x:V} {vs:List V} {W1:List (aF×V)} (hT:H T=ap (.tup [kV k,x])) (r:PrK H vs W1):PrK H (.ref T::vs) ((k,x)::W1)
section
variable {X:Cx}{WZ:Xe}{Z:St}{H:Hp}{s:el}
theorem Inv.pair{T:eg}{y x:V}(I:Inv X WZ Z H s)(h:H T=ap (.tup [y,x])):∃k v,RelV y k/\RelV x v/\G3 s.heap T k v:=by
 obtain⟨_,b,r,o,e,⟨c,n,d⟩,_⟩:=(show ObjOk X.prog X.w H s.heap T (.tup [y,x]) from I.hok T _ h);obtain⟨k,v,rfl,a,f⟩:=r.two;exact⟨k,v,a,f,o,n,e,c,d⟩
theorem Inv.prK(I:Inv X WZ Z H s):∀{vs:List V}{W1:List (aF×V)},PrK H vs W1->∃(Ts:Xa)(rs:List (aF×ay×ay)),vs=Ts.map V.ref/\KV W1 (rs.map λr=>(r.1,r.2.2))/\Ts.length=rs.length/\(∀r∈rs,(aV X.prog X.w).is r.1 r.2.1=true)/\∀(i:Nat)(b:i<Ts.length)(a:i<rs.length),G3 s.heap Ts[i] rs[i].2.1 rs[i].2.2
 |_,_,.nil=>⟨[],[],rfl,.nil,rfl,by simp,λi h=>absurd h (Rx _)⟩
 |_,_,.cons (T:=T) (k:=k) hT r=>by
  obtain⟨Ts,rs,rfl,q,g,f,e⟩:=I.prK r;obtain⟨m,v,c,j,p⟩:=I.pair hT;refine⟨T::Ts,(k,m,v)::rs,rfl,.cons ⟨rfl,j⟩ q,by simp[g],λr hr=>?_,λi b a=>?_⟩
  .rcases OM.mp hr with rfl|hr
   .exact iB c
   .exact f r hr
  .cases i with
   |zero=>exact p
   |succ i=>exact e i (by simpa using b) (by simpa using a)
theorem wa{xs:List (aF×ay)}{k:aF}{u:ay}:(Q3 xs k u).length<=xs.length+1:=by
 unfold Q3
 split
 .rw[Ot];lia
 .simp
theorem jk:∀(rs xs:List (aF×ay)),(rs.foldl (λa r=>Q3 a r.1 r.2) xs).length<=xs.length+rs.length
 |[],xs=>by simp
 |r::rs,xs=>by
  have:=jk rs (Q3 xs r.1 r.2);have:=wa (xs:=xs) (k:=r.1) (u:=r.2);rw[Pu,Oy];lia
theorem yS:∀{W1:List (aF×V)}{rs:List (aF×ay)},KV W1 rs->∀{a:List (aF×V)}{xs:List (aF×ay)},KV a xs->KV (W1.foldl (λa p=>cL a p.1 p.2) a) (rs.foldl (λa r=>Q3 a r.1 r.2) xs)
 |_,_,.nil,a,xs,h=>h
 |_,_,.cons (a:=p) (b:=q) h t,a,xs,h0=>by
  rw[Pu,Pu];refine yS t ?_;rw[<- h.1];exact h0.put p.1 h.2
theorem Inv.ls{l:eg}{vs:List V}(I:Inv X WZ Z H s)(e:Rd H l (.lst vs)):∃W5 n,Vals vs W5/\F9 s.heap l W5.toArray n:=by
 obtain⟨_,W5,n,r,q⟩:=(show ObjOk X.prog X.w H s.heap l (.lst vs) from e.ok I.hok);exact⟨W5,n,r,q⟩
theorem oj:∀{Ts:Xa}{W5:W9},Vals (Ts.map V.ref) W5->W5=Ts.map OU
 |[],_,h=>by cases h;rfl
 |T::Ts,_,h=>by
  cases h with
  |cons r t=>
   have a:_=OU T:=r;rw[a,oj t];rfl
theorem uL(hc:X.calm=true):bL X (.type "dict") (λxs H Q=>∃l vs W1,xs=[.ref l]/\Rd H l (.lst vs)/\PrK H vs W1/\W1.length<=1000000/\∀p,H p=cm->Q (.ref p) (upd H p<|.dK<|W1.foldl (λa p=>cL a p.1 p.2) [])):=by
 intro WZ s Z H xs us Q I r h;obtain⟨l,vs,W1,rfl,hl,Y,hz,q⟩:=h;obtain⟨u,rfl,ru⟩:=r.one;cases ru;obtain⟨Ts,b,rfl,L,g,c,J⟩:=I.prK Y;obtain⟨R,n,rv,E⟩:=I.ls hl;have:=oj rv;subst this;have hrl:b.length<=1000000:=by have:=P6 L;rw[Ot]at this;lia
 refine A1 (ps:=b.map λr=>(r.2.1,r.2.2)) (Ts:=Ts) (I.ok.hd hc) (λi h=>h.DictOf (aV X.prog X.w) s.heap.objs.size (((b.take i).map λr=>(r.1,r.2.2)).foldl (λa r=>Q3 a r.1 r.2) [])) ?_ ?_ ?_ (by simp[g]) E (λi U y=>?_) ?_
 .intro z M hd
  obtain⟨o,A,G,v,r⟩:=Uj (knd:=aV X.prog X.w) s.heap;rw[OD _ rfl]at v;cases v;exact⟨_,A,G,hd,r⟩
 .rintro i h z ⟨o,A,G,v,r⟩ B
  exact⟨o,A,G,B _ o (Oz _) v,r⟩
 .rintro i hi K Q' E' hd O
  have j:i<b.length:=by simpa using hi
  simp only[S5];have e:(((b.take i).map λr=>(r.1,r.2.2)).foldl (λa r=>Q3 a r.1 r.2) ([]:List (aF×ay))).length<=sizeLine:=by
   have:=jk ((b.take i).map λr=>(r.1,r.2.2)) [];have y:(1000000:Nat)<=sizeLine:=by decide
   simp only[Pf,Ot,R0]at this;lia
  refine V3 (knd:=aV X.prog X.w) (k:=b[i].1) (c b[i] (Qn j)) hd (λz F T=>O z _ ?_ T) e;rw[SI j,QW,List.foldl_append];exact F
 .have C:i<b.length:=by simpa using y
  simp only[S5];exact J i U C
 .rintro K P o2 W hd M
  simp only[Ot,List.take_length]at hd;have f:=I.big;have hn:H s.heap.objs.size=none:=I.hok.fresh (Oz _);obtain⟨N,g',S,t',x⟩:=K;obtain rfl:x=s.os:=P;obtain rfl:g'=s.gens:=o2;obtain rfl:S=s.drawn:=W;have m:=yS L (a:=[]) (xs:=[]) .nil;refine⟨.ref s.heap.objs.size,_,I.laid (a:=s.heap.objs.size) (o:=.dK (W1.foldl (λa p=>cL a p.1 p.2) [])) (t':=t') M (Oz _) (mL ?_ (beq_eq_false_iff_ne.mpr<|Qu f) m hd),rfl,q _ hn⟩;rw[P6 m];have:=jk (b.map λr=>(r.1,r.2.2)) [];have y:(1000000:Nat)<=sizeLine:=by decide
  simp only[Pf,Ot]at this;lia
end
end _2
namespace _3
open PySem _2 _S
section
variable {X:Cx}{B:Bd}{K:Ow}{H:Hp}
def t8:List D->Option (List (aF×D))
 |[]=>ap []
 |.tup [k,v]::ds=>match cH k,t8 ds with
  |some ks,ap r=>ap ((ks,v)::r)
  |_,_=>cm
 |_=>cm
theorem Do:∀{ds:List D}{vs:List V}{W1:List (aF×D)},Rps K H ds vs->t8 ds=ap W1->∃f,PrK H vs f/\Rkv K H W1 f
 |[],vs,W1,r,e=>by cases e;cases r;exact⟨[],.nil,.nil⟩
 |d::ds,vs,W1,r,e=>by
  obtain⟨v,C,rfl,a,b⟩:=r;unfold t8 at e
  split at e
  .rename_i h;cases h
  .rename_i k x A h
   cases h
   split at e
   .rename_i z q n m
    cases e;obtain⟨f,p,s⟩:=Do b m;obtain⟨T,E,rfl,y,u⟩:=a;obtain⟨F,o,rfl,g,c⟩:=u;obtain⟨w,j,rfl,c,i⟩:=c;cases i;have:=gu g n;subst this;exact⟨(z,w)::f,.cons y p,.cons ⟨rfl,c⟩ s⟩
   .cases e
  .cases e
theorem sf{c:Type}[DecidableEq c]:∀{a:List (c×D)}{b:List (c×V)},Rkv K H a b->∀{a0:List (c×D)}{b0:List (c×V)},Rkv K H a0 b0->Rkv K H (a.foldl (λx p=>eD x p.1 p.2) a0) (b.foldl (λx p=>cL x p.1 p.2) b0)
 |_,_,.nil,a0,b0,h=>h
 |_,_,.cons (a:=p) (b:=q) h t,a0,b0,h0=>by
  rw[Pu,Pu];refine sf t ?_;rw[<- h.1];exact h0.put p.1 h.2
theorem Ev{M:Mem}{d:D}{v:V}{xs:List D}(f:RepH K H M)(r:Rp K H d v)(e:gO M d=ap xs)(g:∀ys,d≠.ml ys):∃l vs,v=.ref l/\Rd H l (.lst vs)/\Rps K H xs vs:=by
 cases d with
 |lst ys=>
  cases e;obtain⟨p,vs,rfl,⟨o,h⟩,r⟩:=r;exact⟨p,vs,rfl,.inr ⟨o,h⟩,r⟩
 |ml ys=>exact absurd rfl (g ys)
 |ref a=>
  simp only[gO]at e
  split at e
  .rename_i ys q
   cases e;cases r;obtain⟨vs,b,c⟩:=f _ _ q;exact⟨a,vs,rfl,.inl b,c⟩
  .cases e
 |_=>cases e
def CB:D->Bool
 |.ml _=>eC
 |_=>true
theorem Ez{d:D}(h:CB d=true):∀ys,d≠.ml ys:=λys e=>by subst e;cases h
def fQ:pT:=λb M Q=>match b with
 |[d]=>CB d=true/\match gO M d with
  |some xs=>match t8 xs with
   |some W1=>W1.length<=1000000/\∀p,M p=cm->Q (.ref p) (M.upd p<|.dK<|W1.foldl (λa p=>eD a p.1 p.2) [])
   |none=>False
  |none=>False
 |_=>False
theorem tX(hc:X.calm=true):bL X (.type "dict") (liftC X fQ):=by
 intro WZ s Z H xs us Q I r h;obtain⟨ds,M,QQ,rh,rp,h,up⟩:=h;unfold fQ at h
 split at h
 .obtain⟨v,rfl,rv⟩:=gJ (ds:=[]) rp
  obtain⟨hm,h⟩:=h
  split at h
  .rename_i ys e
   split at h
   .rename_i W1 e2
    obtain⟨l,vs,rfl,hq,rr⟩:=Ev rh rv e (Ez hm);obtain⟨ws,h1,h2⟩:=Do rr e2;refine uL hc WZ s Z H _ us Q I r ⟨l,vs,ws,rfl,hq,h1,by rw[<- h2.length];exact h.1,λp hp=>?_⟩
    exact up _ _ (h.2 p<|rh.fresh hp) _ _ (rh.put (by rw[hp];trivial) ⟨_,upd_same,(sf h2 .nil).mono<|Imm.new hp⟩) (Frm.put<|.inl hp) rfl
   .exact h.elim
  .exact h.elim
 .exact h.elim
end
end _3
namespace _S
open PySem PySem.W PySem.Calls PyProof.Rows PyProof.V PySem.Spec _2
end _S
namespace _3
open PySem _2 _S
section
variable {X:Cx}{B:Bd}
end
end _3
namespace _3
open PySem PySem.W PySem.Calls PyProof.Rows PyProof.V PySem.Spec _2
section
variable {X:Cx}{B:Bd}{WZ:Xe}{Z:_2.St}{H:Hp}{s:el}{M:Mem}
end
end _3
namespace _3
open PySem _2 _S
section
variable {X:Cx}{B:Bd}
end
end _3
namespace _2
open PySem PySem.Spec PyProof.Rows
section
variable {X:Cx}{e:fy}{te:TE}{st:fy}{ts:TO}{p2 pos:Pos}
end
end _2
namespace _3
open PySem _2
section
variable {X:Cx}{B:Bd}{K:Ow}{H:Hp}{M:Mem}{e:fy}{te:bp}{st:fy}{ts:GK}{pos p2:Pos}
end
end _3
namespace _2
open PySem PySem.Spec PyProof.Rows
section
variable {prog:fx}{w:g3}{A:ix}{E:Xd}{s:el}
end
section
variable {prog:fx}{w:g3}{A:ix}{E:Xd}{s:el}
end
section
variable {X:Cx}
end
end _2
namespace _3
open PySem _2
section
variable {X:Cx}{B:Bd}{K:Ow}{H:Hp}
end
end _3
namespace _S
open PySem PySem.W PyProof.Rows
variable{s:el}
section
variable{n:Nat}{ky:Nat->Nat}{cmp:Nat->Nat->(Bool->el->Prop)->el->Prop}{p:Array Nat}
end
section
variable{prog:fx}{w:g3}{A:ix}{b:Bool}{Q:Bool->el->Prop}
end
section
variable{prog:fx}{w:g3}{A:ix}{E:Xd}
end
end _S
namespace _3
open PySem _2 _S
section
variable {X:Cx}{B:Bd}
end
end _3
namespace HT
open PySem PyProof.Rows
section
variable {prog:fx}{w:g3}{A:ix}{E:Xd}{s:el}
end
end HT
namespace _2
open PySem PySem.Spec PyProof.Rows
section
variable {X:Cx}{e:fy}{te:TE}{st:fy}{ts:TO}{p2 pos:Pos}
end
end _2
namespace _3
open PySem _2
variable{B:Bd}{X:Cx}{e:fy}{pos:Pos}{x:Str}{te:bp}
section
variable{st:fy}{ts:GK}{p2:Pos}
end
structure GF(K:Ow)(mg:Xf)(x:Str)(st:rc)(f:eg)(fd:g4)(ps:W8):Prop where
 F:Fun K x x st f fd
 b:Binds K fd ps []
 k:P4 K (.ref f)=true
 m:mg x=ap (.ref f)
structure GA(K:Ow)(mg:Xf)(x y:Str)(st:rc)(f:eg)(fd:g4)(ps:W8):Prop where
 F:Fun K y y st f fd
 b:Binds K fd ps []
 k:P4 K (.ref f)=true
 m:mg x=ap (.ref f)
structure FunV(K:Ow)(x W0:Str)(st:rc)(f:eg)(fd:g4):Prop where
 ex:∃(oc:ay)(od:Option eg)(kV doc pm:ay)(an:Option eg)(cdv ct:ay)(osl:Array (Option ay))(T:eg),
  fd=Rj x W0 (bZ st) (bw st) (aQ st) (.ref T) kV doc pm an cdv ct/\K.lookup f=ap ⟨oc,od,.func fd,osl⟩/\S6 K cdv W0=true
 kp:P4 K (.ref f)=true
structure GV(K:Ow)(mg:Xf)(x:Str)(st:rc)(f:eg)(fd:g4)(ps:W8)(dv:Int):Prop where
 F:FunV K x x st f fd
 b:Binds K fd ps []
 d:∃t,Binds K fd ps [.int dv t]
 k:P4 K (.ref f)=true
 m:mg x=ap (.ref f)
inductive GC(K:Ow)(mg:Xf)(x:Str)(st:rc)(f:eg)(fd:g4)(ps:W8):Prop
 |g (h:GF K mg x st f fd ps):GC K mg x st f fd ps
 |a {y:Str} (h:GA K mg x y st f fd ps):GC K mg x st f fd ps
 |v {dv:Int} (h:GV K mg x st f fd ps dv):GC K mg x st f fd ps
structure GM(K:Ow)(C:eg)(x W0:Str)(st:rc)(f:eg)(fd:g4)(ps:W8):Prop where
 F:Fun K x W0 st f fd
 b:Binds K fd ps []
 m:Meth K C x f
structure GI(K:Ow)(C:eg)(x W0:Str)(st:rc)(f:eg)(fd:g4)(ps:W8):Prop where
 F:Fun K x W0 st f fd
 b:Binds K fd ps []
 m:Mk K C f
section
variable{CX:oo}{k n:Nat}{f C:eg}{fd:g4}{N ps:W8}{T:Sd}{EE:DX}{E:XK}{W0:Str}{st:rc}{p W4:Pos}{o:fy}{es:Xb}{ta:bp}{t:fg}
theorem Dj(h:GC X.K X.mg x st f fd ps)(F:FnOk X.prog X.w X.K X.mg X.base CX k f fd ps (bJ X.K n T))(u:Room k X.A)(y:Gl X x)(q:bS CX X E)(ux:uI X.K B EE E)(j:DA X B (e::es) t)(c:(x==("__debug__":Str))=eC)(s:fe (e::es) X.env=(eC,gp e X.env)::fe es X.env)(i:(hG pos<|starEach es X.env).any (·.1)=eC):
  DE X B (.Call (.Name x p) (e::es) [] pos) (aj T EE n t):=by
 cases h with
 |g h=>exact pW F u y h.m h.k h.b q ux j c s i
 |a h=>exact pW F u y h.m h.k h.b q ux j c s i
 |v h=>exact pW F u y h.m h.k h.b q ux j c s i
def KP(X:Cx)(B:Bd)(x:Str)(T:Sd)(EE:DX)(n:Nat):Prop:=∃(st:rc)(f:eg)(fd:g4)(ps:W8)(k:Nat)(CX:oo)(E:XK),GC X.K X.mg x st f fd ps/\FnOk X.prog X.w X.K X.mg X.base CX k f fd ps (bJ X.K n T)/\Room k X.A/\bS CX X E/\uI X.K B EE E
theorem B2(h:KP X B x T EE n)(m:Gl X x)(i:DA X B (e::es) t)(a:(x==("__debug__":Str))=eC)(j:fe (e::es) X.env=(eC,gp e X.env)::fe es X.env)(b:(hG pos<|starEach es X.env).any (·.1)=eC):
  DE X B (.Call (.Name x p) (e::es) [] pos) (aj T EE n t):=by
 obtain⟨_,_,_,_,_,_,_,h,F,c,g,ux⟩:=h;exact Dj h F c m g ux i a j b
theorem CY(h:GI X.K C W0 x st f fd ps)(F:FnOk X.prog X.w X.K X.mg X.base CX k f fd ps (bJ X.K n T))(s:Room (k+1) X.A){y:Str}(u:Gl X y)(q:X.mg y=ap (.ref C))(i:bS CX X E)(ux:uI X.K B EE E)(g:DA X B (e::es) t)(a:(y==("__debug__":Str))=eC)(j:fe (e::es) X.env=(eC,gp e X.env)::fe es X.env)(c:(hG pos<|starEach es X.env).any (·.1)=eC):
  DE X B (.Call (.Name y p) (e::es) [] pos) (fT C T EE n t):=Fu h.m F s u q h.b i ux g a j c
theorem Db{m:Str}{pl:Sem Bool}(q:DE X B o ta)(c:Cls X.K C)(h:GM X.K C m W0 st f fd ps)(F:FnOk X.prog X.w X.K X.mg X.base CX k f fd ps (bJ X.K n T))(u:Room k X.A)(j:bS CX X E)(ux:uI X.K B EE E)(i:DA X B (e::es) t)(g:fe (e::es) X.env=(eC,gp e X.env)::fe es X.env)(a:(hG pos<|starEach es X.env).any (·.1)=eC)(s:gp (.Call (.Attribute o m W4) (e::es) [] pos) X.env=(do
   let ov <- gp o X.env
   TD W4.atName
   let (f,first) <- tm [ov] (SZ ov m pl)
   Wb pos f first (hG pos<|starEach (e::es) X.env) (x9 pos<|keywordEach [] X.env))):
  DE X B (.Call (.Attribute o m W4) (e::es) [] pos) (cP C m T EE n ta t):=Ej q c h.m F u h.b j ux i g a s
theorem zp{m:Str}{pl:Sem Bool}(j:DE X B o ta)(c:Cls X.K C)(h:GM X.K C m W0 st f fd ps)(F:FnOk X.prog X.w X.K X.mg X.base CX k f fd ps (bJ X.K n T))(g:Room k X.A)(i:bS CX X E)(ux:uI X.K B EE E)(a:gp (.Call (.Attribute o m W4) [] [] pos) X.env=(do
   let ov <- gp o X.env
   TD W4.atName
   let (f,first) <- tm [ov] (SZ ov m pl)
   Wb pos f first (hG pos<|starEach [] X.env) (x9 pos<|keywordEach [] X.env))):
  DE X B (.Call (.Attribute o m W4) [] [] pos) (cP C m T EE n ta af):=CC j c h.m F g h.b i ux a
inductive FC(X:Cx)(scope:z4):List Str->List Nat->List (Str×eg)->Prop
 |nil:FC X scope [] [] []
 |cons {x:Str} {j:Nat} {c:eg} {fs:W8} {js:List Nat} {cl:List (Str×eg)}:X.N[j]?=ap x->X.env.cells.lookup x=ap c->(X.env.kindOf x=ap .cell\/X.env.kindOf x=ap .free)->
   ((TW scope X.env).names.lookup x=ap .cell\/(TW scope X.env).names.lookup x=ap .free)->FC X scope fs js cl->FC X scope (x::fs) (j::js) ((x,c)::cl)
theorem FC.ok{g:z4}{fs:W8}{m:List Nat}{j:List (Str×eg)}(h:FC X g fs m j):Frees X g fs m/\∃i:List eg,fs.length=i.length/\j=fs.zip i/\∀p∈j,X.env.cells.lookup p.1=ap p.2:=by
 induction h with
 |nil=>exact⟨.nil,[],rfl,rfl,memZ⟩
 |cons a b c d _ ih=>
  obtain⟨v,i,q,u,s⟩:=ih;exact⟨.cons a c d v,_::i,congrArg (·+1) q,by rw[u];rfl,memC b s⟩
variable{scope:z4}{cl:List (Str×eg)}{ls fs:W8}{js:List Nat}{tg iter elt:fy}{ifs:Xb}{wi:A2}{g:j8}{tt:eW}{i:Nat}{px spos:Pos}
theorem EH{q:Str}{s O R j:Pos}{c:rc}{a:Xc}{M:aD}(h:GF X.K X.mg x st f fd ps)(F:FnOk X.prog X.w X.K X.mg X.base (oJ X.prog X.w) k f fd ps (bJ X.K n T))(z:X.stack=X.env::X.outer)(J:X.env.frame=ap X.env.locals)(Q:Room k X.A)(S:Gl X x)(P:DA X.nox B (e::es) t)(EX:ExcAt X.K C)(L:Gl X q)(v:X.mg q=ap (.ref C))(H:∀U:eg,xO (X.marked<|.ref U) B (c::a) M)(G:(x==("__debug__":Str))=eC)(I:(q==("__debug__":Str))=eC)(W:fe (e::es) X.env=(eC,gp e X.env)::fe es X.env)(u:(hG s<|starEach es X.env).any (·.1)=eC)(y:zt (.Call (.Name x p) (e::es) [] s) cm O.line X.env=pure eC):
  DS X B (.Try [.Expr (.Call (.Name x p) (e::es) [] s) O] [.ExceptHandler (ap<|.Name q R) cm (c::a) j] [] [] pos) (IZ C T n t M):=uP z J F Q S h.m h.k h.b P EX L v H G I W u y
end
section
variable{id T Ty:String}{p W4 W3:Pos}{o:fy}{es:Xb}{to:bp}{t:fg}{name:Str}
theorem cJ{r:pT}(g:bL X (.builtin id) (liftC X r))(c:gl x=ap (.builtin id))(m:Gl X x)(j:X.mg x=cm)(f:DA X B (e::es) t)(i:x≠"__name__")(a:(x==("__debug__":Str))=eC)(h:fe (e::es) X.env=(eC,gp e X.env)::fe es X.env)(b:(hG pos<|starEach es X.env).any (·.1)=eC):DE X B (.Call (.Name x p) (e::es) [] pos) (bu r t):=BR g m j c f i a h b
theorem fB{r:pT}(g:bL X (.type T) (liftC X r))(c:gl x=ap (.type T))(m:Gl X x)(j:X.mg x=cm)(f:DA X B (e::es) t)(i:x≠"__name__")(a:(x==("__debug__":Str))=eC)(h:fe (e::es) X.env=(eC,gp e X.env)::fe es X.env)(b:(hG pos<|starEach es X.env).any (·.1)=eC):DE X B (.Call (.Name x p) (e::es) [] pos) (bu r t):=zh g m j c f i a h b
theorem Lj(a:gl x=ap (.type T))(g:Gl X x)(f:X.mg x=cm)(c:x≠"__name__")(b:(x==("__debug__":Str))=eC):DE X B (.Name x pos) (dC<|.ty T):=Ob g f a c b
theorem AD{r:zK}(m:VU Ty)(f:Wx Ty name id)(h:V7 (.builtin id)=pure (.type "method_descriptor"))(q:ym X id (liftM X r))(i:Ty="list"\/Ty="str"\/Ty="int"\/Ty="dict")(n:DE X B o to)(j:DA X B (e::es) t)(c:nr o name X.env (gp o X.env)=gp o X.env)(g:((hG W3<|starEach (e::es) X.env).all (λx=>!x.1)&&(x9 W3<|keywordEach [] X.env).all (λx=>x.1.isSome)
   && decide ((e::es).length+([]:List vr).length+(if ([]:List vr).isEmpty then 0 else 1)<30))=true)(b:(W4.endLine==W3.line)=true)(s:fe (e::es) X.env=(eC,gp e X.env)::fe es X.env)(a:(hG W3<|starEach es X.env).any (·.1)=eC):
  DE X B (.Call (.Attribute o name W4) (e::es) [] W3) (mW Ty r to t):=NN i m f h q n j c g b s a
theorem wz{r:zK}(i:VU Ty)(c:Wx Ty name id)(f:V7 (.builtin id)=pure (.type "method_descriptor"))(j:ym X id (liftM X r))(g:Ty="list"\/Ty="str"\/Ty="int"\/Ty="dict")(h:DE X B o to)(b:nr o name X.env (gp o X.env)=gp o X.env)(a:(W4.endLine==W3.line)=true):DE X B (.Call (.Attribute o name W4) [] [] W3) (mW Ty r to af):=Jf g i c f j h b a
theorem J8{r:zK}(f:Wx "tuple" name id)(h:V7 (.builtin id)=pure (.type "method_descriptor"))(m:ym X id (liftM X r))(j:DE X B o to)(i:DA X B (e::es) t)(c:nr o name X.env (gp o X.env)=gp o X.env)(g:((hG W3<|starEach (e::es) X.env).all (λx=>!x.1)&&(x9 W3<|keywordEach [] X.env).all (λx=>x.1.isSome)
   && decide ((e::es).length+([]:List vr).length+(if ([]:List vr).isEmpty then 0 else 1)<30))=true)(b:(W4.endLine==W3.line)=true)(n:fe (e::es) X.env=(eC,gp e X.env)::fe es X.env)(a:(hG W3<|starEach es X.env).any (·.1)=eC):
  DE X B (.Call (.Attribute o name W4) (e::es) [] W3) (Mo r to t):=MG f h m j i c g b n a
theorem Ec{i:Nat}{a:VR}{r:eU}{pos':Pos}(c:Bq X a (liftR2 X r))(b:X.N.Nodup)(h:X.N[i]?=ap x)(f:Ap X.env.scope x)(g:DE X B e te)(j:X.fn x=true\/X.env.scope.names.lookup x=ap .local):
  DS X B (.AugAssign (.Name x pos') a e pos) (Ao i te r):=Kr b h f g c j
end
structure Nf(K:Ow)(x:Str)(st:rc)(f:eg)(fd:g4):Prop where
 a:P8 K fv x=ap (ap<|.ref f)
 F:Fun K x x st f fd
structure Af(K:Ow)(x y:Str)(st:rc)(f:eg)(fd:g4):Prop where
 a:P8 K fv x=ap (ap<|.ref f)
 F:Fun K y y st f fd
structure Mf(K:Ow)(C:eg)(x q:Str)(st:rc)(f:eg)(fd:g4):Prop where
 a:Pp K (.ref C) x=ap (ap<|.ref f)
 i:W.isFn K (.ref f)=true
 F:Fun K x q st f fd
theorem us1{α:Type}{P:List α->Prop}(h:∀a,P [a]):∀us:List α,us.length=1->P us
 |[a],_=>h a
theorem us2{α:Type}{P:List α->Prop}(h:∀b a,P [b,a]):∀us:List α,us.length=2->P us
 |[b,a],_=>h b a
theorem us3{α:Type}{P:List α->Prop}(h:∀c b a,P [c,b,a]):∀us:List α,us.length=3->P us
 |[c,b,a],_=>h c b a
theorem us4{α:Type}{P:List α->Prop}(h:∀f b a c,P [f,b,a,c]):∀us:List α,us.length=4->P us
 |[f,b,a,c],_=>h f b a c
theorem us5{α:Type}{P:List α->Prop}(h:∀f c a b g,P [f,c,a,b,g]):∀us:List α,us.length=5->P us
 |[f,c,a,b,g],_=>h f c a b g
theorem us6{α:Type}{P:List α->Prop}(h:∀f c a b i g,P [f,c,a,b,i,g]):∀us:List α,us.length=6->P us
 |[f,c,a,b,i,g],_=>h f c a b i g
abbrev Bnd(ps:W8)(x W0:Str)(st:rc):Prop:=∀(kV doc pm:ay)(an:Option eg)(cdv ct:ay)(us:W9),us.length=ps.length->Wq (Rj x W0 (bZ st) (bw st) (aQ st) .none kV doc pm an cdv ct) ⟨us,[]⟩=pure (ps.zip us)
section
variable{P:fx}{w:g3}{K:Ow}{mg:Xf}{base h:hI}{k n:Nat}{f C:eg}{fd:g4}{N ps:W8}{S:Sd}{T:DX->aD}{W0:Str}{st:rc}
theorem gf(X:K.In h)(G:h.Ns fv mg)(l:Nf K x st f fd)(b:Bnd ps x x st:=by intro _ _ _ _ _ _;first|exact us1 λ_=>rfl|exact us2 λ_ _=>rfl|exact us3 λ_ _ _=>rfl|exact us4 λ_ _ _ _=>rfl|exact us5 λ_ _ _ _ _=>rfl|exact us6 λ_ _ _ _ _ _=>rfl|exact us7 λ_ _ _ _ _ _ _=>rfl|exact us8 λ_ _ _ _ _ _ _ _=>rfl):GF K mg x st f fd ps:=⟨l.F,l.F.binds b,l.F.kp,RI X G l.a⟩
theorem ga{y:Str}(X:K.In h)(G:h.Ns fv mg)(l:Af K x y st f fd)(b:Bnd ps y y st:=by intro _ _ _ _ _ _;first|exact us1 λ_=>rfl|exact us2 λ_ _=>rfl|exact us3 λ_ _ _=>rfl|exact us4 λ_ _ _ _=>rfl|exact us5 λ_ _ _ _ _=>rfl|exact us6 λ_ _ _ _ _ _=>rfl|exact us7 λ_ _ _ _ _ _ _=>rfl|exact us8 λ_ _ _ _ _ _ _ _=>rfl):GA K mg x y st f fd ps:=⟨l.F,l.F.binds b,l.F.kp,RI X G l.a⟩
theorem gm(l:Mf K C x W0 st f fd)(b:Bnd ps x W0 st:=by intro _ _ _ _ _ _;first|exact us1 λ_=>rfl|exact us2 λ_ _=>rfl|exact us3 λ_ _ _=>rfl|exact us4 λ_ _ _ _=>rfl|exact us5 λ_ _ _ _ _=>rfl|exact us6 λ_ _ _ _ _ _=>rfl|exact us7 λ_ _ _ _ _ _ _=>rfl|exact us8 λ_ _ _ _ _ _ _ _=>rfl):GM K C x W0 st f fd ps:=⟨l.F,l.F.binds b,l.a,l.i,l.F.kp⟩
theorem gi(mk:Se K C=true)(b:P4 K (.ref C)=true)(l:Mf K C "__init__" W0 st f fd)(c:Bnd ps "__init__" W0 st:=by intro _ _ _ _ _ _;first|exact us1 λ_=>rfl|exact us2 λ_ _=>rfl|exact us3 λ_ _ _=>rfl|exact us4 λ_ _ _ _=>rfl|exact us5 λ_ _ _ _ _=>rfl|exact us6 λ_ _ _ _ _ _=>rfl|exact us7 λ_ _ _ _ _ _ _=>rfl|exact us8 λ_ _ _ _ _ _ _ _=>rfl):GI K C "__init__" W0 st f fd ps:=⟨l.F,l.F.binds c,mk,l.a,l.i,b⟩
abbrev cj(P:fx)(w:g3)(mg:Xf)(base:hI)(_:Fun K x W0 st f fd)(_:Binds K fd ps [])(k:Nat)(S:Sd):Prop:=FnOk P w K mg base (oJ P w) k f fd ps (bJ K ps.length S)
theorem fnS(i:S=aJ N T)(F:Fun K x W0 st f fd)(b:Binds K fd ps [])(g:FnScope N ps (aQ st))(j:FnScope N ps (aQ st)->∀(c:ay)(A:ix)(a:List Env)(s:el)(H:Hp)(E:XK)(B:Bd)(EE:DX),Room k (A.deeper<|Q8 W0 (aQ st) s.heap.objs.size f c)->uI K B EE E->
   xO (dF (oJ P w) P w K mg base N W0 (aQ st) f c A a s H E) B (bw st) (T EE)):cj P w mg base F b (k+1) S:=by
 subst i;exact fnD F g (j g)
end
end _3
namespace _S
open PySem PySem.W PySem.Calls PyProof.Rows PyProof.V PySem.Spec
section
variable {prog:fx}{w:g3}{A:ix}{E:Xd}{s:el}{x:Str}{t:Tok}
end
end _S
namespace _3
open PySem _2 _S
section
variable {X:Cx}{B:Bd}{pos:Pos}
end
end _3
namespace _3
open PySem _2
section
variable {X:Cx}{B:Bd}{s:el}
end
section
variable {X:Cx}{B:Bd}{x:Str}{pos p:Pos}{e:fy}{es:Xb}{t:fg}{a:eg}{tab:List (Str×D)}
end
section
variable {P:fx}{w:g3}{K:Ow}{mg:Xf}{base:hI}{k:Nat}{f C:eg}{fd:g4}{N ps:W8}{S:eg->Sd}{T:eg->DX->aD}{x W0:Str}{st:rc}
end
end _3
namespace _3
open PySem _2 _S
section
variable {X:Cx}{B:Bd}{K:Ow}{H:Hp}
def Lv(M:Mem):D->Bool
 |.ref a=>match M a with
  |some (.dK _)=>true
  |_=>eC
 |_=>eC
def CS(td ty:bp):bp:=λU M Q=>td U M λx M1=>Lv M1 x=true/\ty U M1 λy M2=>match x with
 |.ref a=>match M2 a,cH y with
  |some (.dK W1),ap k=>match cM W1 k with
   |some v=>Q v (M2.upd a<|.dK<|oK W1 k)
   |none=>False
  |_,_=>False
 |_=>False
def B5(td ty tx:bp):bp:=λU M Q=>td U M λx M1=>Lv M1 x=true/\ty U M1 λy M2=>tx U M2 λz M3=>match x with
 |.ref a=>match M3 a,cH y with
  |some (.dK W1),ap k=>match cM W1 k with
   |some v=>Q v (M3.upd a<|.dK<|oK W1 k)
   |none=>Q z M3
  |_,_=>False
 |_=>False
theorem C1{M:Mem}{x:D}{v:V}(f:RepH K H M)(r:Rp K H x v)(e:Lv M x=true):∃a,x=.ref a/\v=.ref a/\IsD H a:=by
 cases x with
 |ref a=>
  cases r;refine⟨a,rfl,rfl,?_⟩;simp only[Lv]at e
  split at e
  .rename_i q;obtain⟨b,c,_⟩:=f _ _ q;exact .inl ⟨b,.inl c⟩
  .cases e
 |_=>cases e
theorem FN{o e:fy}{to te:bp}{W4 W3:Pos}(ho:DE X B o to)(he:DE X B e te)(m:M1 X o "pop" W4 e W3):DE X B (.Call (.Attribute o "pop" W4) [e] [] W3) (CS to te):=by
 refine a_ (AG ho he m) ?_
 rintro Z H Q ⟨U,M,QQ,s,h,u⟩
 refine⟨U,M,_,s,h,λx M1 h1 v1 H1 rh1 i1 r1=>?_⟩;obtain⟨a,rfl,rfl,hd⟩:=C1 rh1 r1 h1.1;refine⟨a,rfl,hd,U,M1,_,s.go rh1 i1,h1.2,λy M2 h2 v2 H2 rh2 i2 r2=>?_⟩;dsimp only at h2
 split at h2
 .rename_i W1 k hM ek
  obtain⟨ws,g1,g2⟩:=rh2 _ _ hM;have ey:=gu r2 ek;have im:Imm H2 (upd H2 a<|.dK<|g_ ws k):=Imm.upd (by rw[g1];trivial)
  rcases g2.val k with⟨q,_⟩|⟨d,w,q,qw,rw'⟩
  .rw[q]at h2;exact h2.elim
  .rw[q]at h2
   exact⟨ws,k,w,g1,ey,qw,u _ _ h2 _ _ (rh2.put (by rw[g1];trivial) ⟨_,upd_same,(g2.drop k).mono im⟩) ((i1.trans i2).trans<|Frm.put<|.inr ⟨_,hM⟩)<|rw'.mono im⟩
 .exact h2.elim
theorem Ei{o e f:fy}{to te tf:bp}{W4 W3:Pos}(ho:DE X B o to)(he:DE X B e te)(hf:DE X B f tf)(m:M2 X o "pop" W4 e f W3):DE X B (.Call (.Attribute o "pop" W4) [e,f] [] W3) (B5 to te tf):=by
 refine a_ (B4 ho he hf m) ?_
 rintro Z H Q ⟨U,M,QQ,s,h,u⟩
 refine⟨U,M,_,s,h,λx M1 h1 v1 H1 rh1 i1 r1=>?_⟩;obtain⟨a,rfl,rfl,hd⟩:=C1 rh1 r1 h1.1;refine⟨a,rfl,hd,U,M1,_,s.go rh1 i1,h1.2,λy M2 h2 v2 H2 rh2 i2 r2=>?_⟩;refine⟨U,M2,_,(s.go rh1 i1).go rh2 i2,h2,λz M3 h3 v3 H3 rh3 i3 r3=>?_⟩;dsimp only at h3;have r2':=r2.mf rh2 i3
 split at h3
 .rename_i W1 k hM ek
  obtain⟨ws,g1,g2⟩:=rh3 _ _ hM;have ey:=gu r2' ek;have im:Imm H3 (upd H3 a<|.dK<|g_ ws k):=Imm.upd (by rw[g1];trivial)
  rcases g2.val k with⟨q,qn⟩|⟨d,w,q,qw,rw'⟩
  .rw[q]at h3
   exact⟨ws,k,g1,ey,λv ev=>(by rw[qn]at ev;cases ev),λ_=>u _ _ h3 _ _ rh3 ((i1.trans i2).trans i3) r3⟩
  .rw[q]at h3
   refine⟨ws,k,g1,ey,λv ev=>?_,λev=>by rw[qw]at ev;cases ev⟩
   rw[qw]at ev;cases ev;exact u _ _ h3 _ _ (rh3.put (by rw[g1];trivial) ⟨_,upd_same,(g2.drop k).mono im⟩) (((i1.trans i2).trans i3).trans<|Frm.put<|.inr ⟨_,hM⟩) (rw'.mono im)
 .exact h3.elim
def mV:pT:=λb M Q=>match b with
 |[.ref a]=>match M a with
  |some (.dK W1)=>∀p,M p=cm->Q (.ref p) (M.upd p<|.dK W1)
  |_=>False
 |_=>False
theorem sk:bL X (.type "dict") (liftC X mV):=by
 intro WZ s Z H xs us Q I r h;obtain⟨ds,M,QQ,rh,rp,h,up⟩:=h;unfold mV at h
 split at h
 .rename_i a
  obtain⟨v,rfl,rv⟩:=gJ (ds:=[]) rp;cases rv
  split at h
  .rename_i W1 e
   obtain⟨u,rfl,ru⟩:=r.one;cases ru;obtain⟨ws,h1,h2⟩:=rh _ _ e;refine C8 I (.inl h1) λp s' hp I'=>⟨.ref p,_,I',rfl,?_⟩;exact up _ _ (h p<|rh.fresh hp) _ _ (rh.put (by rw[hp];trivial) ⟨_,upd_same,h2.mono<|Imm.new hp⟩) (Frm.put<|.inl hp) rfl
  .exact h.elim
 .exact h.elim
end
end _3
namespace _2
open PySem PySem.W PySem.Calls PyProof.Rows PyProof.V PySem.Spec
def isO:Option aF->ay->Bool
 |some k,v=>lR k v
 |none,.none=>true
 |none,_=>eC
theorem dB{v:ay}(h:isO cm v=true):v=.none:=by cases v<;>first|rfl|cases h
section
variable {prog:fx}{w:g3}{A:ix}{E:Xd}{s:el}
theorem sQ{Q:Int->el->Prop}(h:Q 4238894112 { s with toks:=s.toks+1 }):eH (ff prog w) A (pyHash .none) Q E s:=by
 have a:s.TypeIs .none "NoneType":=rfl;unfold pyHash;refine ax ?_;rw[cRoomFor,if_neg (by decide)];refine eX ?_
 refine ax (SB a QB.lookup ?_);show eH _ _ (if (ap (TF "NoneType.__hash__")==ap Qq)=true then _ else _) Q E s
 rw[if_neg (by rw[beq_builtin_none];exact OS)]
 refine ax (SB a QB.lookup ?_);show eH _ _ (callSpecialIfBoundUnlessNone? .none "__hash__" _ >>= _) Q E s
 refine ax (wpAny_callSpecialIfBoundUnlessNone?_slot a QB
  (kr QB a PySem.F.entry_NoneType_hash
   (show eH _ _ (do ret (<- mkInt 4238894112)) _ _ s from wpAny_ret_mkInt ?_) (PySem.F.args_NoneType_hash_1 _)))
 exact eX h
theorem sh{Q:Bool->el->Prop}(h:Q true s):eH (ff prog w) A (eqBool .none .none) Q E s:=by
 unfold eqBool;refine n7 ?_;rw[if_pos (by rfl)]
 exact ax (z5<|wpAny_pure h)
end
def BX(prog:fx)(w:g3):PySem.KeyKind prog w (Option aF) where
 is:=isO
 hash:=λk=>match k with
  |some k=>MA w k
  |none=>4238894112
 inj:=λv a b g j=>by
  cases a with
  |some a=>
   cases b with
   |some b=>rw[(aV prog w).inj v a b g j]
   |none=>
    cases dB j;rcases aY g with⟨i,t,_,e⟩|⟨x,t,_,e⟩<;>exact nomatch e
  |none=>
   cases dB g;cases b with
   |some b=>rcases aY j with⟨i,t,_,e⟩|⟨x,t,_,e⟩<;>exact nomatch e
   |none=>rfl
 byValue:=λk v h=>by
  cases k with
  |some k=>exact(aV prog w).byValue k v h
  |none=>cases dB h;rfl
 pyHash:=λ{A E s k v Q} c h=>by
  cases k with
  |some k=>exact(aV prog w).pyHash c h
  |none=>cases dB c;exact sQ h
 eqBool:=λ{A E s a b u v Q} f c h=>by
  cases a with
  |some a=>
   cases b with
   |some b=>
    refine (aV prog w).eqBool f c ?_;have:decide (ap a=ap b)=decide (a=b):=decide_eq_decide.mpr ⟨λe=>by injection e,λe=>by rw[e]⟩
    rw[this]at h;exact h
   |none=>
    cases dB c;have e:decide (ap a=cm)=false:=decide_eq_false (λz=>nomatch z);rw[e]at h;rcases aY f with⟨i,t,rfl,rfl⟩|⟨x,t,rfl,rfl⟩
    .exact TL i t _ _ _ _ h
    .exact TH x t _ _ _ _ h
  |none=>
   cases dB f;cases b with
   |some b=>
    have e:decide (cm=ap b)=false:=decide_eq_false (λz=>nomatch z);rw[e]at h;rcases aY c with⟨i,t,rfl,rfl⟩|⟨x,t,rfl,rfl⟩
    .exact TK i t _ _ _ _ h
    .exact TJ x t _ _ _ _ h
   |none=>
    cases dB c;exact sh h
 «strs»:=λk x t v h=>by
  cases k with
  |some k=>exact(aV prog w).strs k x t v h
  |none=>cases h
section
variable {X:Cx}{WZ:Xe}{Z:St}{H:Hp}{s:el}{a:eg}{W1:List (aF×V)}{A:ix}{E:Xd}
theorem As{prog:fx}{w:g3}{h:hI}{f:aF->Option ay}(m:h.MapOf (aV prog w) a f):h.MapOf (BX prog w) a (λk=>match k with|some k=>f k|none=>cm):=by
 obtain⟨o,c,y,u,v,B,j,p⟩:=m;refine⟨o,c,y,u,v,B,λe b=>?_,λk=>?_⟩
 .obtain⟨k,g,z⟩:=j e b
  exact⟨ap k,g,z⟩
 .cases k with
  |some k=>exact p k
  |none=>
   have:∀e∈c,isO cm e.key=false:=λe b=>by
    obtain⟨k,g,_⟩:=j e b;rcases aY g with⟨i,t,_,q⟩|⟨x,t,_,q⟩<;>rw[q]<;>rfl
   have e:c.find? (λe=>(BX prog w).is cm e.key)=none:=by
    rw[Array.find?_eq_none];intro x n;exact Bool.eq_false_iff.mp (this x n)
   unfold findBy;rw[e];rfl
theorem LF{Q:Xd}(I:Inv X WZ Z H s)(e:Rd H a (.dK W1))(h:∀s',Inv X WZ Z H s'->Q (.bool eC) s'):eH (ff X.prog X.w) A (kc .In .none<|.ref a) Q E s:=by
 obtain⟨z,c,g,b,f⟩:=ib I.hok e;refine wpAny_in_of (knd:=BX X.prog X.w) (k:=cm) rfl c (As f.mapOf) ?_;exact h _ (I.tok _)
end
end _2
namespace _3
open PySem _2 _S
section
variable {X:Cx}{B:Bd}
def yx(M:Mem)(x y:D):Option Bool:=match x,y with
 |.non,.ref a=>match M a with
  |some (.dK _)=>ap eC
  |_=>cm
 |_,_=>qZ M x y
def CN:eU:=λx y M Q=>match yx M x y with
 |some k=>Q (.bl k) M
 |none=>False
theorem F0(z:X.A.units+64<p3):cC X (kc .In) (liftR2 X CN):=by
 intro b s Z H x y v u Q I j m h;obtain⟨q,p,M,QQ,c,f,g,h,i⟩:=h;unfold CN at h
 split at h
 .rename_i k e
  unfold yx at e
  split at e
  .rename_i a
   cases f;cases g;cases j;cases m
   split at e
   .rename_i w n
    cases e;obtain⟨F,o,E⟩:=c _ _ n;exact LF I (.inl o) λC I'=>⟨.bl eC,H,I',rfl,i _ M h _ H c Frm.refl rfl⟩
   .cases e
  .refine BC z b s Z H x y v u Q I j m ⟨q,p,M,QQ,c,f,g,?_,i⟩
   unfold C5;rw[e];exact h
 .exact h.elim
end
end _3
namespace _2
open PySem PySem.Spec PyProof.Rows
variable{z:eg}
theorem nG:Wx "reversed" "__init__" "object.__init__":=
 .of (owner:="object") (n:="__init__") (by rw[pr,j0];kernel_rfl) (by decide +kernel) (by decide +kernel) (by decide +kernel)
  (by first|exact .inl (by decide +kernel)|exact .inr (by decide +kernel)) (by rw[va];kernel_rfl)
theorem gX:Wx "reversed" "__iter__" "reversed.__iter__":=
 .of (owner:="reversed") (n:="__iter__") (by rw[pr,j0];kernel_rfl) (by decide +kernel) (by decide +kernel) (by decide +kernel)
  (by first|exact .inl (by decide +kernel)|exact .inr (by decide +kernel)) (by rw[va];kernel_rfl)
theorem slot_rev_next:Wx "reversed" "__next__" "reversed.__next__":=
 .of (owner:="reversed") (n:="__next__") (by rw[pr,j0];kernel_rfl) (by decide +kernel) (by decide +kernel) (by decide +kernel)
  (by first|exact .inl (by decide +kernel)|exact .inr (by decide +kernel)) (by rw[va];kernel_rfl)
theorem o8:Manifest.owners.lookup (String.ofList ['d','e','s','r','e','v','e','r'].reverse)=ap Manifest.sig_reversed:=by kernel_rfl
theorem g7:VZ WT "reversed.__next__"=ap Builtin.«reversed.__next__»:=PySem.entryFor_of_tree (by kernel_rfl)
theorem nB:VZ WT "reversed.__new__"=ap Builtin.«reversed.__new__»:=entryFor_of_tree (by kernel_rfl)
theorem m3:VZ WT "reversed.__iter__"=ap Builtin.«dict_keyiterator.__iter__»:=
 Wn (id':="dict_keyiterator.__iter__") (by kernel_rfl) (by first|rfl|decide +kernel|(unfold String.splitOn;simp +decide [String.splitOnAux])) (by decide +kernel) (by kernel_rfl)
theorem nK(a:ay):Ws "reversed.__iter__" ⟨[a],[]⟩:=by
 unfold Ws;rw[signature?_of (id:="reversed.__iter__") (n:=['_','_','r','e','t','i','_','_']) (o:=['d','e','s','r','e','v','e','r']) (by kernel_rfl) o8];kernel_rfl
theorem gQ(a:ay):Ws "reversed.__next__" ⟨[a],[]⟩:=by
 unfold Ws;rw[signature?_of (id:="reversed.__next__") (n:=['_','_','t','x','e','n','_','_']) (o:=['d','e','s','r','e','v','e','r']) (by kernel_rfl) o8];kernel_rfl
theorem xn:mroOf (.type "reversed")=pure [.type "reversed",.type "object"]:=by rw[mroOf_type];kernel_rfl
theorem mw:On (.type "reversed") "__new__"=pure (ap<|.builtin "reversed.__new__"):=by rw[pr,j0];kernel_rfl
theorem wc:TypeCalled "reversed" "reversed.__new__" "object.__init__":=
 ⟨by decide +kernel,by decide +kernel,⟨_,_,xn⟩,madeBy_type xn mw (by decide +kernel),by decide +kernel,by rw[va];kernel_rfl,nG⟩
theorem qp(a:ay):checkTypeCall "reversed" ⟨[a],[]⟩=pure ():=by kernel_rfl
theorem sE(a:ay):checkBuiltinCall "reversed.__new__" ⟨[.type "reversed",a],[]⟩=pure ():=by kernel_rfl
theorem gH(a b:ay):Ws "object.__init__" ⟨[a,b],[]⟩:=by
 unfold Ws;rw[signature?_of (id:="object.__init__") (n:=['_','_','t','i','n','i','_','_']) (o:=['t','c','e','j','b','o']) (by kernel_rfl) F.owner_object];kernel_rfl
theorem Et:isSubtype (.type "reversed") (.type "reversed")=pure true:=by rw[va];kernel_rfl
theorem Iz:On (.type "tuple") "__reversed__"=pure none:=by rw[pr,j0];kernel_rfl
theorem B6:isSubtype (.type "tuple") (.type "dict")=pure false:=by rw[va];kernel_rfl
abbrev nX(h:hI)(z l:eg)(j:Int):Prop:=h.get? z=ap { cls:=.type "reversed",dict:=cm,data:=.fields #[.ref l,.int j 0],slots:=#[] }
section
variable{prog:fx}{w:g3}{A:ix}{E:Xd}{s:el}
theorem BU{l:eg}{items:Xg}{k:Nat}{x:ay}{Q:Option ay->el->Prop}(a:nX s.heap z l k)(n:Wg s.heap l items)(g:items[k]?=ap x)(o:(k:Int)<2 ^ 63)(hQ:∀h',nX h' z l ((k:Int)-1)->Qt z s.heap h'->Q (ap x) { s with heap:=h',toks:=s.toks+1 }):
  eH (ff prog w) A (Os<|.ref z) Q E s:=by
 have i:s.TypeIs (.ref z) "reversed":=⟨_,a,rfl⟩;unfold Os
 refine ax (Pi (wpAny_callSpecial?_slot (name:=PH "__next__") i slot_rev_next
  (kr slot_rev_next i g7 ?_<|gQ _)))
 show eH _ _ (T0 (.ref z) 0 >>= _) _ _ s;refine ax (g5 a rfl (x:=.ref l) rfl ?_);show eH _ _ (T0 (.ref z) 1 >>= _) _ _ s;refine ax (g5 a rfl (x:=.int k 0) rfl ?_);show eH _ _ (if (k:Int)<0 then _ else _) _ _ _
 rw[if_neg (by lia)]
 refine ax (SB (T:="tuple") n.typeIs slot_tuple_getitem.lookup ?_);show eH _ _ (if eC=true then _ else _) _ _ _
 rw[if_neg (by simp)]
 refine ax (wpAny_mkInt ?_);have b:k<items.size:=by
  rcases Qg k items.size with h|h
  .exact h
  .rw[Array.getElem?_eq_none h]at g;cases g
 refine ax (Pi<|getItem_tuple (s:={ s with toks:=s.toks+1 }) n (k:=k) (j:=k) (x:=x) (by lia) o ?_ g ?_)
 .have e:¬((k:Int)<0):=by lia
  simp[WB,b,if_neg e]
 show eH _ _ (T0 (.ref z) 1 >>= _) _ _ _;refine ax (g5 (s:={ s with toks:=s.toks+1 }) a rfl (x:=.int k 0) rfl ?_);refine ax (pt (s:={ s with toks:=s.toks+1 }) a (by simp) λm c f=>?_)
 exact eX ⟨_,rfl,eX<|hQ _ c f⟩
theorem G8{l:eg}{j:Int}{Q:Option ay->el->Prop}(F:A.handled=cm)(i:nX s.heap z l j)(B:j<0)(C:∀h',S9 z s.heap h'->Q cm { s with heap:=h' }):eH (ff prog w) A (Os<|.ref z) Q E s:=by
 have u:s.TypeIs (.ref z) "reversed":=⟨_,i,rfl⟩;unfold Os
 refine ax (Pi (wpAny_callSpecial?_slot (name:=PH "__next__") u slot_rev_next
  (kr slot_rev_next u g7 ?_<|gQ _)))
 show eH _ _ (T0 (.ref z) 0 >>= _) _ _ s;refine ax (g5 i rfl (x:=.ref l) rfl ?_);show eH _ _ (T0 (.ref z) 1 >>= _) _ _ s;refine ax (g5 i rfl (x:=.int j 0) rfl ?_);show eH _ _ (if j<0 then _ else _) _ _ _
 rw[if_pos B];refine ax (z5 ?_);show eH _ _ ((WU (.ref z) 1 (t3 (-1)) >>= λ_=>WU (.ref z) 0 .none) >>= _) _ _ _;refine ax (ax (pt i (by simp) λg n p=>?_))
 refine pt (s:={ s with heap:=g }) n (by simp) λh y f=>?_
 refine ax ?_;show eH _ _ (newExc (.type "StopIteration") [] >>= _) _ _ _;refine ax ?_;simp only[newExc,newTuple];refine ax (pa ?_<|by size_fits)
 refine ax (m:=VY _ _) (Pv (a:=Qq) (by first|rfl|(simp only[VY];rfl)) ?_)
 refine pa ?_ (by size_fits)
 simp only[raiseNew];refine ax (wpAny_handled ?_);rw[show A.in1.handled=cm from F];refine ax (eX<|wpAny_throw ?_);refine ax (VQ (T:="StopIteration") (b:=true) ⟨_,OD _ rfl,rfl⟩ Wm ?_);refine eX (C _ ?_);have q:S9 z s.heap h:=λc o v e=>f.extBut _ _ v (p.extBut _ _ v e);exact(q.push _).push _
theorem tj{l:eg}{j:Int}{Q:Xd}(b:nX s.heap z l j)(h:Q (.ref z) s):eH (ff prog w) A (pyIter<|.ref z) Q E s:=by
 have a:s.TypeIs (.ref z) "reversed":=⟨_,b,rfl⟩;refine wpAny_pyIter_slot a gX (kr gX a m3 ?_<|nK _);show eH _ _ (ret<|.ref z) _ _ s;exact eX ⟨_,rfl,"reversed",_,a,slot_rev_next.lookup,h⟩
theorem Cj{l:eg}{items:Xg}{Q:Xd}(j:Wg s.heap l items)(i:(items.size:Int)<2 ^ 63)(h:∀b h',h'.objs.size=s.heap.objs.size+1->nX h' s.heap.objs.size l ((items.size:Int)-1)->(∀c o,s.heap.get? c=ap o->h'.get? c=ap o)->Q (.ref s.heap.objs.size) { s with heap:=h',toks:=b }):
  eH (ff prog w) A (call (.type "reversed") [.ref l]) Q E s:=by
 refine WM (S:=λ_ R s=>Wg s.heap l items/\∀b,R (.ok<|.ret<|.ref s.heap.objs.size) { s with heap:=s.heap.push { cls:=.type "reversed",data:=.fields #[.ref l,.int ((items.size:Int)-1) 0] },toks:=b })
  wc (by decide) (qp _) (sE _) (λobj=>gH obj _) nB ?_ ⟨j,λb=>?_⟩
 .refine .of_wp λprog w A R s h=>?_
  obtain⟨j,h⟩:=h;obtain⟨p,g,d,b,q⟩:=s;have f:=Et;have n:=j.typeIs;unfold Builtin.«reversed.__new__»;refine ax ?_;unfold Builtin.SmallTypes.newClass;refine ax (Pv (a:=true) rfl ?_);rw[if_neg (by simp)]
  refine ax (Pv f ?_);rw[if_neg (by simp)]
  refine eX ?_;refine ax (m:=Builtin.SmallTypes.refuseKeywords _ _ _) (Pv (a:=()) rfl ?_);refine ax (m:=checkCount _ _ _ _) (Pv (a:=()) rfl ?_);refine ax (m:=specialOf _ _) (SB n Iz ?_);refine ax ?_;show eH _ _ (isInstance (.ref l) (.type "dict") >>= _) _ _ _;refine ax (VQ n B6 ?_);rw[if_neg (by simp)]
  refine ax (SB (T:="tuple") n slot_tuple_getitem.lookup ?_);show eH _ _ (if (["tuple.__getitem__","str.__getitem__","bytes.__getitem__","bytearray.__getitem__","memoryview.__getitem__","numpy.ndarray.__getitem__","sqlite3.Row.__getitem__"].contains "tuple.__getitem__")=true then _ else _) _ _ _
  rw[if_pos (by decide)]
  refine eX ?_;show eH _ _ (call (.builtin "len") [.ref l] >>= _) _ _ _;refine ax (len_tuple j i ?_);refine ax (Pv (a:=ap (items.size:Int)) rfl ?_);show eH _ _ (newObj (.type "reversed") (.fields #[.ref l,.int ((items.size:Int)-1) 0]) >>= _) _ _ _;refine ax (pa ?_<|by size_fits)
  exact eX ⟨_,rfl,h _⟩
 .exact⟨⟨_,OD _ rfl,rfl⟩,h b _ (Pg ..) (OD _ rfl) λc o e=>Oq _ e⟩
end
def Itv(K:Ow)(a:eg)(n:Nat):It:=
 ⟨λi H=>i<n/\∃xs x,i7 K H a xs/\xs[n-1-i]?=ap x,λi H x H'=>H'=H/\∀xs,i7 K H a xs->xs[n-1-i]?=ap x,λi _=>n<=i⟩
theorem Bu{P:fx}{w:g3}{K:Ow}{tg:fy}(a it:eg)(n:Nat)(hn:n<2 ^ 63):Turn P w K tg (Itv K a n) [it] it (λi h=>nX h it a ((n:Int)-1-i)) where
 mem:=by simp
 obj:=λi h c b g=>by
  have e:b=it:=by simpa using g
  subst e;exact⟨_,c,λv z=>by cases z⟩
 keep:=λi h m c k=>k it (by simp) _ c
 item:=by
  intro X C G y Q i f s Z H E I q c F;subst C G y;obtain⟨hi,xs,x,R,O⟩:=F;obtain⟨B,rv,p,hz⟩:=I.tuple R;obtain⟨u,T,ru⟩:=rv.get O;obtain⟨L,A,f2,N,J,M⟩:=q it (by simp)
  have U:(n:Int)-1-i=((n-1-i:Nat):Int):=by lia
  refine BU (k:=n-1-i) (by rw[<- U];exact c) (show Wg s.heap a B.toArray from p) (x:=u) (by simpa using T) (by lia) λm j Y=>?_
  have I1:Inv X f Z H { s with heap:=m,toks:=s.toks+1 }:=I.turned (λb o g e=>(Y.2 b g).trans e) L A N J M;have S:(((n-1-i:Nat):Int))-1=(n:Int)-1-((i+1:Nat):Int):=by lia
  rw[S]at j;exact⟨u,rfl,xA (s:={ s with heap:=m,toks:=s.toks+1 }) j rfl rfl (by decide) ⟨x,H,I1,ru,⟨rfl,λys hy=>by rw[I.tuple_inj hy R];exact O⟩,j,λb g=>(q b g).1⟩⟩
 done:=by
  intro X C G y Q i f s Z H E I q c F;subst C G y;obtain⟨L,A,f2,N,J,M⟩:=q it (by simp)
  have hg':n<=i:=F;exact G8 (I.ok.hd Q) c (by lia) λm W=>⟨rfl,I.turned (t':=s.toks) (λb o g e=>W b o g e) L A N J M⟩
 self:=λ_ _ _ _ _ c h=>tj c h
section
variable{X:Cx}{tg:fy}
def iRev(K:Ow)(t:TA):TI:=λZ H R=>t Z H λa H1=>∃l xs,a=[.ref l]/\i7 K H1 l xs/\R (Itv K l xs.length) H1
theorem JD:gl "reversed"=ap (.type "reversed"):=by decide +kernel
theorem JH{a:fy}{w:TA}{p pos:Pos}(L:Gl X "reversed")(M:X.mg "reversed"=cm)(J:PA X [a] w)(N:fe [a] X.env=[(eC,gp a X.env)]:=by rfl):
  PI X tg (.Call (.Name "reversed" p) [a] [] pos) (iRev X.K w):=by
 intro c s Z H R I h;refine Call_ (eG I L M JD<|Pk (br (J pos c s Z H _ I h) λO f ⟨P,H1,I1,y,n⟩=>?_) N rfl);obtain⟨l,j,e,n,q⟩:=n;subst e;obtain⟨Q,rfl,i⟩:=y.one;cases i;obtain⟨g,x,B,F⟩:=I1.tuple n;have v:=x.length;have G:j.length<2 ^ 63:=RL F (by decide)
 refine Cj (show Wg f.heap l g.toArray from B) (by simp;lia) λo u C m A=>?_
 have I2:Inv X c Z H1 { f with heap:=u,toks:=o }:=I1.kept (t':=o) A;refine tj (s:={ f with heap:=u,toks:=o }) m ?_;refine⟨f.heap.objs.size,[f.heap.objs.size],_,_,H1,rfl,I2,Bu l _ j.length (by lia),?_,λb E=>?_,q⟩
 .have e:((g.toArray.size:Nat):Int)-1=(j.length:Int)-1-((0:Nat):Int):=by simp;lia
  rw[e]at m;exact m
 .have e:b=f.heap.objs.size:=by simpa using E
  subst e;exact I1.fpOk (Oz _) (I1.hok.fresh<|Oz _)
end
end _2
namespace _3
open PySem _2 _S
section
variable {X:Cx}{B:Bd}{tg:fy}{K:Ow}{H:Hp}{M:Mem}
def I0(t:fg):A2:=λU M R=>t U M λa M1=>match a with
 |[.tup xs]=>R ⟨xs.reverse,[]⟩ M1
 |_=>False
theorem KG{a:fy}{E:fg}{p pos:Pos}(N:Gl X "reversed")(O:X.mg "reversed"=cm)(L:DA X B [a] E)(P:fe [a] X.env=[(eC,gp a X.env)]:=by rfl):
  DI X B tg (.Call (.Name "reversed" p) [a] [] pos) (I0 E):=by
 refine kE (JH N O L P) ?_
 rintro Z H R ⟨U,M,RR,s,h,J⟩
 refine⟨U,M,_,s,h,λds M1 n Q H1 g G I=>?_⟩
 split at n
 .rename_i y
  obtain⟨v,rfl,q,c,rfl,o,C⟩:=gJ (ds:=[]) I;have A:=C.length;refine⟨q,c,rfl,o.sq,J _ M1 n _ H1 g G λi H2 M2 e m _=>⟨λd b=>?_,λj=>?_⟩⟩
  .have z:i<y.length:=by
    rcases Qg i y.length with h|h
    .exact h
    .rw[Pr (by rw[UO];exact h)]at b;cases b
   rw[List.getElem?_reverse z]at b;obtain⟨w,u,f⟩:=(C.mono e).get b;rw[A]at u;refine⟨⟨by rw[<- A];exact z,c,w,(o.mono e).sq,u⟩,?_⟩
   rintro x H3 ⟨rfl,F⟩
   have:=F c (o.mono e).sq;rw[u]at this;cases this;exact⟨Frm.refl,m,f⟩
  .show c.length<=i
   rw[UO]at j;lia
 .exact n.elim
end
end _3
namespace _3
open PySem _2
section
variable {X:Cx}{B:Bd}{C:eg}{f:Str}{o value:fy}{ta tv:bp}{pos tpos:Pos}
def pV(C:eg)(ta tv:bp)(f:Str):aD:=λD U M=>ta U M λx M1=>match x with
 |.ref a=>match M1 a with
  |some (.ins C' fs)=>C'=C/\fs.length<1000/\match fs.lookup f with
   |some (.int i)=>tv U M1 λy M2=>match y with
    |.int j=>M2 a=ap (.ins C fs)/\D.nx U (M2.upd a<|.ins C<|bC f (.int (i-j)) fs)
    |_=>False
   |_=>False
  |_=>False
 |_=>False
theorem zc(c:Cls X.K C)(n:NoAttr X.K C f)(ha:DE X B o ta)(hv:DE X B value tv):DS X B (.AugAssign (.Attribute o f tpos) .Sub value pos) (pV C ta tv f):=by
 refine bH (nW ha hv Jd) ?_
 rintro D Z H ⟨U,M,DD,s,h,up⟩
 refine⟨U,M,_,s,h,λx M1 h1 v1 H1 rh1 i1 r1=>?_⟩
 split at h1
 .rename_i a
  cases r1
  split at h1
  .rename_i C' fs hM
   obtain⟨rfl,hl,h1⟩:=h1
   split at h1
   .rename_i i hf
    obtain⟨dx,ws,e1,e2⟩:=rh1 _ _ hM;obtain⟨z,_⟩|⟨d,w,hd,hw,rw1⟩:=e2.lookup f
    .rw[hf]at z;cases z
    rw[hf]at hd;cases hd;cases rw1;refine⟨a,C',dx,ws,.int i,rfl,e1,c,n,hw,U,M1,_,s.go rh1 i1,h1,λy M2 h2 v2 H2 rh2 i2 r2=>?_⟩
    split at h2
    .rename_i j
     cases r2;obtain⟨hM2,h2⟩:=h2;obtain⟨dx2,ws2,e3,e4⟩:=rh2 _ _ hM2;have i3:Frm M2 H2 (M2.upd a<|.ins C'<|bC f (.int (i-j)) fs) (upd H2 a<|.ins C' dx2<|_2.cV f (.int (i-j)) ws2):=Frm.put (.inr ⟨_,hM2⟩);refine⟨i,j,rfl,rfl,dx2,ws2,e3,by rw[<- e4.length];exact hl,up.nx _ _ h2 Z _ ((i1.trans i2).trans i3)<|s.go (rh2.put (by rw[e3];trivial) ⟨dx2,_,upd_same,?_⟩)<|(i1.trans i2).trans i3⟩
     exact(j5 (show Rp X.K H2 (.int (i-j)) (.int (i-j)) from rfl) e4).mono (i3.imm rh2)
    .exact h2.elim
   .exact h1.elim
  .exact h1.elim
 .exact h1.elim
end
section
variable {X:Cx}{B:Bd}
def lA:zK:=λx a M Q=>match x,a with
 |.int i,[]=>Q (.int ((P1 i:Nat):Int)) M
 |_,_=>False
theorem uY:ym X "int.bit_length" (liftM X lA):=by
 intro a s Z H x n v j Q I f b h;obtain⟨d,m,M,QQ,c,r,g,h,e⟩:=h;unfold lA at h
 split at h
 .rename_i i
  cases r;cases g;obtain⟨t,rfl⟩:=f;cases b;exact PyProof.Rows.call_int_bit_length ⟨.int _,H,I.tok _,⟨_,rfl⟩,e _ M h _ H c Frm.refl rfl⟩
 .exact h.elim
end
end _3
namespace _2
open PySem PySem.Spec PyProof.Rows
variable{cl:List (Str×eg)}{scope:z4}
theorem CU{x:Str}{c:eg}:∀(names:List (Str×V1))(h:hI)(W2:List (Str×eg)),(s9 h.objs.size names W2).lookup x=ap c->
  W2.lookup x=ap c\/(h.objs.size<=c/\(SL h names).IsCell c cm/\(x,RC)∈names)
 |[],_,_,e=>.inl e
 |(n,k)::r,h,W2,e=>by
  unfold s9 at e;unfold SL
  by_cases a:(k==.cell)=true
  .rw[if_pos a]at e ⊢
   have f:(h.push { cls:=.type "cell",data:=.cell cm }).objs.size=h.objs.size+1:=Pg ..;rw[<- f]at e;rcases CU r _ _ e with z|⟨z1,z2,z3⟩
   .rw[QL]at z
    cases b:x==n with
    |true=>
     rw[b]at z;cases z;rw[beq_iff_eq.mp b];exact .inr ⟨Oz _,⟨_,VW _ _ _ _ (OD _ rfl),rfl⟩,by rw[beq_iff_eq.mp a];exact OL⟩
    |false=>rw[b]at z;exact .inl z
   .exact .inr ⟨by lia,z2,OE _ z3⟩
  .rw[if_neg a]at e ⊢
   rcases CU r _ _ e with z|⟨z1,z2,z3⟩
   .exact .inl z
   .exact .inr ⟨z1,z2,OE _ z3⟩
theorem w6:∀(names:List (Str×V1))(n:Nat)(W2:List (Str×eg)),(∀x y c,W2.lookup x=ap c->W2.lookup y=ap c->x=y)->(∀x c,W2.lookup x=ap c->c<n)->
  ∀x y c,(s9 n names W2).lookup x=ap c->(s9 n names W2).lookup y=ap c->x=y
 |[],_,_,h,_=>h
 |(z,k)::r,n,W2,h,hl=>by
  unfold s9
  split
  .refine w6 r _ _ (λx y c b a=>?_) λx c e=>?_
   .rw[QL]at b a
    cases f:x==z<;>cases g:y==z<;>rw[f]at b<;>rw[g]at a
    .exact h x y c b a
    .cases a;exact absurd (hl _ _ b) (PC _)
    .cases b;exact absurd (hl _ _ a) (PC _)
    .rw[beq_iff_eq.mp f,beq_iff_eq.mp g]
   .rw[QL]at e
    cases f:x==z<;>rw[f]at e
    .exact RT (hl _ _ e)
    .cases e;exact Rb _
  .exact w6 r _ _ h hl
theorem sB{M:Model}{A:ix}{E:Xd}{s:el}{g:eg}{a:Str}{env:Env}{Q:Env->el->Prop}(h:Q (newEnv scope s.heap.objs.size g (s9 (s.heap.objs.size+1) scope.names cl) a cm .none (ap env) Wp) { s with heap:=SL (s.heap.push { cls:=.type "dict",data:=.dict #[] }) scope.names }):
  eH M A (Wl scope g cl [] a cm .none<|some env) Q E s:=by
 simp only[Wl,UG,if_true];refine ax (wpAny_alloc ?_);refine ax (wpAny_layCells _ (λf b e=>by cases c:b==RC<;>simp[c]) _ _ _ _ ?_)
 rw[show ({ s with heap:=s.heap.push { cls:=.type "dict",data:=.dict #[] } }:el).heap.objs.size=s.heap.objs.size+1 from Pg ..];exact ax (by rw[Sl];exact eX (eX h))
abbrev ba(X:Cx)(N:W8)(scope:z4)(cl:List (Str×eg))(C:eg)(s₀:el)(H₀:Hp)(fp:Xa)(pl:Xe):Cx:=
 { Kf X N scope (s9 (C+1) scope.names cl) C s₀ H₀ fp pl with fn:=λx=>scope.names.lookup x==ap .cell }
structure CompOkC(X:Cx)(scope:z4)(cl:List (Str×eg))(ls fs:W8)(js:List Nat):Prop where
 kind:scope.kind=.function
 locs:∀x∈scope.names,x.2=.local->scope.names.lookup x.1=ap .local
 clos:Wo scope X.env=pure cl
 cells:∀x c,cl.lookup x=ap c->X.env.cells.lookup x=ap c
 has:∀x,((TW scope X.env).names.lookup x=ap .cell\/(TW scope X.env).names.lookup x=ap .free)->scope.names.lookup x=ap .cell\/∃c,cl.lookup x=ap c
 frees:Frees X scope fs js
 own:∀x∈fs,(x,RC)∉scope.names
 once:∀x∈scope.names,x.2=.cell->∀c,cl.lookup x.1=ap c->False
theorem ze{X:Cx}{a:Xe}{Z:St}{H:Hp}{s:el}{ls fs:W8}{E:List Nat}{T:Xa}{t':Nat}(I:Inv X a Z H s)(co:CompOkC X scope cl ls fs E)(w:∀b∈T,jd X a H b/\b<s.heap.objs.size):
  Inv (ba X (ls++fs) scope cl s.heap.objs.size s H T a) [] (cU ls E Z) H { s with heap:=SL (s.heap.push { cls:=.type "dict",data:=.dict #[] }) scope.names,toks:=t' }:=by
 have B:∀b o,s.heap.get? b=ap o->(SL (s.heap.push { cls:=.type "dict",data:=.dict #[] }) scope.names).get? b=ap o:=λb o e=>VW _ _ _ _ (Oq _ e);have lk:∀b o,s.heap.get? b=ap o->b≠s.heap.objs.size:=λb o e=>ON (OC e);have g:∀{x:Str}{c:eg},(s9 (s.heap.objs.size+1) scope.names cl).lookup x=ap c->cl.lookup x=ap c\/(s.heap.objs.size+1<=c/\(SL (s.heap.push { cls:=.type "dict",data:=.dict #[] }) scope.names).IsCell c cm/\(x,RC)∈scope.names):=λ{x c} e=>by
  have hs:(s.heap.push { cls:=.type "dict",data:=.dict #[] }).objs.size=s.heap.objs.size+1:=Pg ..;rw[<- hs]at e ⊢;exact CU _ _ _ e
 have J:∀{x:Str}{c:eg},cl.lookup x=ap c->c<s.heap.objs.size:=λ{x c} e=>by
  obtain⟨v,z⟩:=I.cell x c (co.cells x c e);exact z.lt
 have hcs:(ba X (ls++fs) scope cl s.heap.objs.size s H T a).env.cells=s9 (s.heap.objs.size+1) scope.names cl:=rfl;refine⟨⟨I.ok.mod,co.kind,I.ok.glob,I.ok.blt,Oz _,λx y c R F=>?_,λx L=>?_,λx c h e=>?_,I.ok.hd,I.ok.frames,.inl rfl,λb m=>⟨ON (w b m).2,λx c e=>?_⟩,
   λb o e=>I.bs b o e,OQ I.ok.bsz I.sz,λb o e m=>?_,λb m hf=>?_,I.stack,λb m=>I.stkFree b m⟩,
  rfl,I.bare,Un.kept B,⟨λ_=>cm,(Heap.Ns.new s.heap<|.type "dict").keeps (VW _ _),λi x v R F h3=>?_⟩,λx c e=>?_,I.hok.fresh (Oz _),λx c e=>?_,λp hp=>?_,I.hok.kept B,?_⟩
 .refine w6 scope.names _ cl (λx y c e1 e2=>I.ok.inj x y c (co.cells x c e1) (co.cells y c e2)) (λx c e=>RT (J e)) x y c R F
 .rcases co.has x L with z|⟨c,z⟩
  .exact Qd.mp (Rk _ _ _<|.inl z)
  .exact Qd.mp (Rk _ _ _<|.inr<|by rw[z];rfl)
 .rcases g e with z|⟨z,_,_⟩
  .exact(co.once _ (Pz<|beq_iff_eq.mp h) rfl c z).elim
  .exact SU z
 .rcases g e with z|⟨z,_,_⟩
  .exact(w b m).1.2.2.2.2.1 x c (co.cells x c z)
  .exact Qu (OA (w b m).2<|SU z)
 .obtain⟨f0,W,Y,f3,_⟩:=(w b m).1
  rcases f3 with z|z
  .exact I.ok.noex b o e z
  .exact absurd (OA (OC (I.ok.bs b o e).1) z) (PC _)
 .obtain⟨f0,W,Y,f3,_⟩:=(w b m).1
  rcases OM.mp (I.stkSub b hf) with z|z
  .exact W z
  .exact Y z
 .have G:¬i<ls.length:=λG=>by
   have f:(cU ls E Z)[i]?=ap (ap v):=F;unfold cU at f;rw[PL (by simpa using G),OJ,Ov G]at f
   cases f
  have hN:fs[i-ls.length]?=ap x:=by
   have M:(ls++fs)[i]?=ap x:=R
   rwa [Pw (by lia)]at M
  obtain⟨j,hj,L,hc,hl⟩:=co.frees.get hN;have O:Z[j]?=ap (ap v):=by
   have f:(cU ls E Z)[i]?=ap (ap v):=F;unfold cU at f;rw[Pw (by simpa using G),Ot,OJ,hj]at f
   have q:(Z[j]?).join=ap v:=by simpa using f
   cases e:Z[j]? with
   |none=>rw[e]at q;cases q
   |some o=>rw[e]at q;have q':o=ap v:=q;rw[q']
  obtain⟨mX,_,S⟩:=I.loc;have N:Lw X.env.scope x:=by
   rcases hc with z|z
   .exact .inr (.inl z)
   .exact .inr (.inr z)
  obtain⟨u,ru,lo⟩:=S j x v L O N;refine⟨u,ru,.inr ⟨hl,?_⟩⟩;have C:x∈fs:=Rh hN;have A:∃c,(s9 (s.heap.objs.size+1) scope.names cl).lookup x=ap c:=by
   rcases co.has x hl with z|⟨c,z⟩
   .exact absurd (Pz z) (co.own x C)
   .exact Qd.mp (Rk _ _ _<|.inr<|by rw[z];rfl)
  obtain⟨c,U⟩:=A;refine⟨c,U,?_⟩;have P:cl.lookup x=ap c:=by
   rcases g U with z|⟨_,_,z⟩
   .exact z
   .exact absurd z (co.own x C)
  rcases lo with⟨kl,_⟩|⟨_,c',e',z⟩
  .rcases hc with q|q<;>(rw[q]at kl;cases kl)
  .rw[co.cells x c P]at e'
   cases e';obtain⟨o,K,hd⟩:=z;exact⟨o,B _ _ K,hd⟩
 .rcases g e with z|⟨_,z,_⟩
  .obtain⟨v,o,K,hd⟩:=I.cell x c (co.cells x c z)
   exact⟨v,o,B _ _ K,hd⟩
  .exact⟨_,z⟩
 .rcases g e with z|⟨z,_,_⟩
  .exact I.freeC x c (co.cells x c z)
  .exact I.hok.fresh (SU z)
 .have Q:p∈X.pn++a:=by
   have q:p∈(X.pn++a)++[]:=hp;simpa using q
  obtain⟨e,n,ne,nf,d⟩:=I.pin p Q;refine⟨B _ _ e,n,lk _ _ e,λm=>?_,d⟩;rcases OM.mp (I.stkSub p.1 m) with z|z
  .exact ne z
  .exact nf z
 .show (cU ls E Z).length=(ls++fs).length
  unfold cU;rw[OG,Ot,Ot,OG,co.frees.length]
section
variable{X:Cx}{tg iter elt:fy}{ifs:Xb}{pos:Pos}{ls fs:W8}{js:List Nat}{wi:TI}{g:TG}{tt:TT}{te:TE}
theorem oM{a:Xe}{Z:St}{f:el}{it:eg}{j:Xa}{tn:Nat->hI->Prop}{J:It}{H1:Hp}{R:ay->eg->WN->el->Prop}{Q:VK}{E:Xd}(hc:X.calm=true)(co:CompOkC X scope cl ls fs js)(hY:∀(C:eg)(s₀:el)(H₀:Hp)(j:Xa)(pl:Xe),PG (ba X (ls++fs) scope cl C s₀ H₀ j pl) tg g/\ID (ba X (ls++fs) scope cl C s₀ H₀ j pl) ifs tt/\PE (ba X (ls++fs) scope cl C s₀ H₀ j pl) elt te)(I:Inv X a Z H1 f)(T:Turn X.prog X.w X.K tg J j it tn)(st:tn 0 f.heap)(O:∀b∈j,jd X a H1 b)(q:∀p,H1 p=cm->∃W:Nat->Nat->St->Hp->Prop,(∃m,W 0 m (cU ls js Z) (upd H1 p<|.lst []))/\∀i m s H',W i m s H'->
   (J.stop i H'/\Q (.ref p) H')\/(J.go i H'/\∃N:St->Hp->Prop,(∀σ2 H2,N σ2 H2->∃m',m'<m/\W (i+1) m' σ2 H2)/\∀x H2,J.yld i H' x H2->g x s H2 λσ3 H3=>tt σ3 H3 λc H4=>
    if c=true then te σ3 H4 λy H5=>∃ys,H5 p=ap (.lst ys)/\ys.length<sizeLine/\N σ3 (upd H5 p<|.lst (ys++[y])) else N σ3 H4))(hR:∀(p C:eg)(H':Hp)(s':el)(m:Xf),s'.heap.Ns C m->Inv X a Z H' s'->H' C=cm->C≠X.env.locals->X.s₀.heap.objs.size<=C->(∀x c,X.env.cells.lookup x=ap c->c≠C)->(∀pp∈X.pn++a,pp.1≠C)->Q (.ref p) H'->R (.ref p) C (.ok .next) s'):
  eH (ff X.prog X.w) X.A (newList []) (λW2 s₃=>eH (ff X.prog X.w) X.A (Wl scope X.env.globals cl [] X.env.qual cm .none<|some X.env) (λcenv s₄=>
   Rs (ff X.prog X.w) X.A (.compStart (.ListComp elt [⟨tg,iter,ifs,0⟩] scope pos) 0 (.ref it) W2 { cenv with scope:=TW scope X.env }) (R W2 cenv.locals) s₄) E s₃) E f:=by
 have hp0:H1 f.heap.objs.size=none:=I.hok.fresh (Oz _);obtain⟨W,⟨m0,w0⟩,turn⟩:=q f.heap.objs.size hp0;refine pa (sB ?_);dsimp only;have I3:Inv X a Z (upd H1 f.heap.objs.size<|.lst []) { f with heap:=f.heap.push { cls:=.type "list",dict:=cm,data:=.seq ([]:W9).toArray } }:=
  I.lnew (W5:=[]) (t':=f.toks) .nil (Qf _)
 generalize hs3:({ f with heap:=f.heap.push { cls:=.type "list",dict:=cm,data:=.seq ([]:W9).toArray } }:el)=s3 at I3;have M:f.heap.push { cls:=.type "list",dict:=cm,data:=.seq ([]:W9).toArray }=s3.heap:=by rw[<- hs3]
 rw[M];have U:s3.heap.objs.size=f.heap.objs.size+1:=by rw[<- M,Pg]
 have hk3:∀b o,f.heap.get? b=ap o->s3.heap.get? b=ap o:=λb o e=>by rw[<- M];exact Oq _ e
 have hlt:∀b∈j,b<f.heap.objs.size:=λb h=>by
  obtain⟨o,e,_⟩:=T.obj _ _ st b h;exact OC e
 have hnp:∀b∈j,upd H1 f.heap.objs.size (.lst []) b=none:=λb h=>by
  rw[aM (ON<|hlt b h)];exact(O b h).1
 have Y:∀b∈j,jd X a (upd H1 f.heap.objs.size<|.lst []) b/\b<s3.heap.objs.size:=λb h=>⟨⟨hnp b h,(O b h).2⟩,by rw[U];exact RT (hlt b h)⟩
 have hk4:∀b o,s3.heap.get? b=ap o->(SL (s3.heap.push { cls:=.type "dict",data:=.dict #[] }) scope.names).get? b=ap o:=λb o e=>VW _ _ _ _ (Oq _ e);have I4:=ze (t':=s3.toks) I3 co Y;generalize SL (s3.heap.push { cls:=.type "dict",data:=.dict #[] }) scope.names=h₁ at hk4 I4;have st4:tn 0 h₁:=T.keep _ _ _ st λb h o e=>hk4 b o (hk3 b o e);obtain⟨hg,ht,he⟩:=hY s3.heap.objs.size s3 (upd H1 f.heap.objs.size<|.lst []) j a;have B:∀{H':Hp},(∀b∈j,H' b=cm)->∀b∈j,jd (ba X (ls++fs) scope cl s3.heap.objs.size s3 (upd H1 f.heap.objs.size<|.lst []) j a) [] H' b:=λ{H'} hn b h=>by
  obtain⟨f0,f1,f2,f3,f4,f5⟩:=O b h;refine⟨hn b h,ON (Y b h).2,λz=>?_,.inl h,λx c e=>(I4.ok.exf b h).2 x c e,λpp P=>f5 pp ?_⟩
  .rcases OM.mp (I3.stkSub b z) with y|y
   .exact f1 y
   .exact f2 y
  .have q:pp∈(X.pn++a)++[]:=P
   simpa using q
 have loop:∀s₄:el,s₄={ s3 with heap:=h₁,toks:=s3.toks }->
   Rs (ff X.prog X.w) X.A (.compLoop (.ListComp elt [⟨tg,iter,ifs,0⟩] scope pos) 0 (.ref it) (.ref f.heap.objs.size)<|compEnvC scope (s9 (s3.heap.objs.size+1) scope.names cl) s3.heap.objs.size X.env) (R (.ref f.heap.objs.size) s3.heap.objs.size) s₄:=by
  rintro s₄ rfl
  refine qd (λn s'=>∃i s H',Inv (ba X (ls++fs) scope cl s3.heap.objs.size s3 (upd H1 f.heap.objs.size<|.lst []) j a) [] s H' s'/\tn i s'.heap/\(∀b∈j,H' b=cm)/\W i n s H') ?_ m0 ⟨0,_,_,I4,st4,hnp,w0⟩
  rintro n s5 ⟨i,H,H5,I5,st5,fr5,w5⟩
  rcases turn i n H H5 w5 with⟨stop,qn⟩|⟨go,N,hN,step⟩
  .refine br (T.done (ba X (ls++fs) scope cl s3.heap.objs.size s3 (upd H1 f.heap.objs.size<|.lst []) j a) rfl rfl rfl hc i [] s5 H H5 _ I5 (B fr5) st5 stop) λr s6 ⟨hr,I6⟩=>?_
   subst hr;obtain⟨m6,hn6,_⟩:=I6.loc;have IX:Inv X a Z H5 s6:=I3.call' I6.os I6.base I6.hok I6.bare λb h=>⟨(O b h).2.2.2.1,(O b h).2.1,(O b h).2.2.2.2.1,(O b h).2.2.2.2.2⟩;refine hR _ _ H5 s6 m6 hn6 IX I6.free (Qu I3.lt) I3.sz (λx c e z=>?_) (λpp P z=>?_) qn
   .obtain⟨v,zz⟩:=I3.cell x c e
    have zl:=zz.lt;rw[z]at zl;exact PC _ zl
   .have zl:=OC (I3.pin pp P).1
    rw[z]at zl;exact PC _ zl
  .refine br (T.item (ba X (ls++fs) scope cl s3.heap.objs.size s3 (upd H1 f.heap.objs.size<|.lst []) j a) rfl rfl rfl hc i [] s5 H H5 _ I5 (B fr5) st5 go) λr s6 ⟨u,hr,h6⟩=>?_
   subst hr;refine br h6 λ_ s7 ⟨x,H7,I7,r7,y7,L,fr7⟩=>?_;have I7':=I7.pinned (B fr7) (T.obj _ _ L);refine br (hg _ s7 H H7 x u _ I7' r7<|step x H7 y7) λ_ s8 ⟨σ8,H8,I8,q8⟩=>?_
   have again:∀{G:St}{H9:Hp}{S:el},Inv (ba X (ls++fs) scope cl s3.heap.objs.size s3 (upd H1 f.heap.objs.size<|.lst []) j a) ([]++ms j s7.heap) G H9 S->N G H9->
     ∃m,m<n/\∃i s H',Inv (ba X (ls++fs) scope cl s3.heap.objs.size s3 (upd H1 f.heap.objs.size<|.lst []) j a) [] s H' S/\tn i S.heap/\(∀b∈j,H' b=cm)/\W i m s H':=λ{G H9 S} I9 n9=>by
    obtain⟨m',hm,w9⟩:=hN G H9 n9;refine⟨m',hm,i+1,G,H9,I9.unpinned,T.keep _ _ _ L λb h o e=>(I9.pin (b,o)<|Pq _<|Pq _<|fD h e).1,λb h=>?_,w9⟩;obtain⟨o,e,d⟩:=T.obj _ _ L b h;exact(I9.pin (b,o)<|Pq _<|Pq _<|fD h e).2.1
   refine br (ht _ s8 σ8 H8 _ I8 q8) λok S ⟨H9,I9,q9⟩=>?_;cases ok with
   |false=>exact again I9 q9
   |true=>
    refine br (he _ S σ8 H9 _ I9 q9) λxv s10 ⟨y,H10,I10,r10,ys,P,hl,n10⟩=>?_;obtain⟨z,W5,n',r,hl',e⟩:=I10.lstM P;refine vb Sm ⟨_,e,rfl⟩ F.entry_list_append (F.args_list_append_2 _ _) (UR f.heap.objs.size W5.toArray n' xv<|by rw[OB];lia) ⟨e,?_⟩
    refine again (I10.lset (its':=W5++[xv]) P e (by simp) (r.append<|.cons r10 .nil) ?_) n10
    rw[OG,PY];lia
 have se:({ f with heap:=h₁ }:el)={ s3 with heap:=h₁,toks:=s3.toks }:=by rw[<- hs3]
 exact codeAny_compStart_list (loop _ se) (T.self _ 0 _ _ _ st4<|loop _ se)
theorem Ae(P:X.calm=true)(co:CompOkC X scope cl ls fs js)(U:PI X tg iter wi)(S:∀(C:eg)(a:el)(H₀:Hp)(j:Xa)(pl:Xe),PG (ba X (ls++fs) scope cl C a H₀ j pl) tg g/\ID (ba X (ls++fs) scope cl C a H₀ j pl) ifs tt/\PE (ba X (ls++fs) scope cl C a H₀ j pl) elt te)(W:∀x,z0 iter X.env x=pure x):PE X (.ListComp elt [⟨tg,iter,ifs,0⟩] scope pos) (D7 wi ls js g tt te):=by
 intro c s Z H Q I h;rw[eval_ListComp];refine Wu (use:=cm) rfl W co.clos co.kind co.locs (br (U c s Z H _ I h) λxv s1 L=>br L λE s2 z=>?_);obtain⟨it,j,tn,J,H2,e,I2,T,u,K,q⟩:=z;subst e;refine oM (R:=λn C=>compPost (ff X.prog X.w) X.A X.xe cm (EP X c Z Q) n C) (Q:=Q) P co S I2 T u K q ?_;intro p C H' y m O IX N B v f i M;exact⟨m,O,λY G=>⟨.ref p,H',IX.turned (t':=y.toks) (λb o F e=>G.extBut b o F e) N B (.inr v) f i,rfl,M⟩⟩
end
end _2
namespace _3
open PySem _2
section
variable {X:Cx}{B:Bd}{scope:z4}{cl:List (Str×eg)}{ls fs:W8}{js:List Nat}{tg iter elt:fy}{ifs:Xb}{wi:A2}{g:j8}{tt:eW}{te:bp}{pos:Pos}
theorem Oh{N:W8}{C:eg}{a:el}{H₀:Hp}{b:Xa}{pl:Xe}(h:N.Nodup):(ba X N scope cl C a H₀ b pl).N.Nodup:=h
theorem xy(h:FC X scope fs js cl)(u:scope.kind=.function)(f:∀y∈scope.names,(y.2=.free->y.1∈fs)/\(y.2=.cell->y.1∉fs/\scope.names.lookup y.1=ap .cell))(s:∀x∈scope.names,x.2=.local->scope.names.lookup x.1=ap .local)
  (m:Wo scope X.env=pure cl):CompOkC X scope cl ls fs js:=by
 obtain⟨b,v,a,n,p⟩:=h.ok;subst n;refine⟨u,s,m,λy d h=>p (y,d) (Pz h),λy h=>?_,b,λx j i=>((f _ i).2 rfl).1 j,λx j i c e=>((f _ j).2 i).1 (QU<|Pz e).1⟩;have q:scope.names.lookup y=ap .cell\/y∈fs:=by
  rcases h with h|h
  .obtain⟨o,b,a|⟨a,_⟩⟩:=g9 h
   .exact .inl ((f _ b).2 a.symm).2
   .exact .inr ((f _ b).1 a)
  .obtain⟨o,b,a|⟨a,_⟩⟩:=g9 h
   .exact .inr ((f _ b).1 a.symm)
   .exact .inr ((f _ b).1 a)
 exact q.imp id (jD a)
theorem Dn(j:X.calm=true)(h:FC X scope fs js cl)(f:scope.kind=.function)(m:∀y∈scope.names,(y.2=.free->y.1∈fs)/\(y.2=.cell->y.1∉fs/\scope.names.lookup y.1=ap .cell))(i:∀x∈scope.names,x.2=.local->scope.names.lookup x.1=ap .local)
  (c:Wo scope X.env=pure cl) (o:DI X B tg iter wi)
  (n:∀(C:eg)(a:el)(H₀:Hp)(b:Xa)(pl:Xe),DG (ba X (ls++fs) scope cl C a H₀ b pl) DJ tg g)
  (e:∀(C:eg)(a:el)(H₀:Hp)(b:Xa)(pl:Xe),Me (ba X (ls++fs) scope cl C a H₀ b pl) DJ ifs tt)
  (hE:∀(C:eg)(a:el)(H₀:Hp)(b:Xa)(pl:Xe),DE (ba X (ls++fs) scope cl C a H₀ b pl) DJ elt te)
  (p:∀x,z0 iter X.env x=pure x):DE X B (.ListComp elt [⟨tg,iter,ifs,0⟩] scope pos) (aZ wi ls js g tt te):=
 a_ (Ae (g:=liftG0 X.K g) (tt:=liftT0 X.K tt) (te:=liftE0 X.K te) j (xy h f m i c) o (λC a H₀ b pl=>⟨AR (n C a H₀ b pl),xE (e C a H₀ b pl),At<|hE C a H₀ b pl⟩) p) λ_ _ _ h=>oN h
end
section
variable {P:fx}{w:g3}{K:Ow}{mg:Xf}{base h:hI}{k n:Nat}{f C:eg}{fd:g4}{N ps:W8}{S:Sd}{T:DX->aD}{x W0:Str}{st:rc}{dv:Int}
theorem fnDV(F:FunV K x W0 st f fd)(S:FnScope N ps (aQ st))
  (y:∀(b:ay)(A:ix)(a:List Env)(s:el)(H:Hp)(E:XK)(B:Bd)(EE:DX),Room k (A.deeper<|Q8 W0 (aQ st) s.heap.objs.size f b)->uI K B EE E->
   xO (dF (oJ P w) P w K mg base N W0 (aQ st) f b A a s H E) B (bw st) (T EE)):
  FnOk P w K mg base (oJ P w) (k+1) f fd ps (bJ K ps.length<|aJ N T):=by
 obtain⟨L,I,kV,v,z,G,b,J,p,_,rfl,lk,e⟩:=F.ex;refine Ha lk e S (λo H Q E h=>h.1) λA a s H o Q E i c=>?_;obtain⟨O,m,M,QQ,EE,rh,r,j,u,ux⟩:=c;refine⟨_,y b A a s H E (Bd.of M H) (aG EE) i ux.drp,startN N m,M,{ nx:=λ_ M'=>drp QQ .non M',rt:=drp QQ },⟨Frm.refl,rh,.startN N r⟩,j,⟨?_,u.drp,?_,?_⟩⟩
 .exact λU M' q Z H' f g=>u.drp _ M' q _ H' g.rh f rfl
 .exact λU M' q=>(show False from q).elim
 .exact λU M' q=>(show False from q).elim
abbrev OkV(P:fx)(w:g3)(mg:Xf)(base:hI)(_:FunV K x W0 st f fd)(_:Binds K fd ps [])(k:Nat)(S:Sd):Prop:=FnOk P w K mg base (oJ P w) k f fd ps (bJ K ps.length S)
theorem NI(g:S=aJ N T)(F:FunV K x W0 st f fd)(b:Binds K fd ps [])(e:FnScope N ps (aQ st))
  (i:FnScope N ps (aQ st)->∀(c:ay)(A:ix)(a:List Env)(s:el)(H:Hp)(E:XK)(B:Bd)(EE:DX),Room k (A.deeper<|Q8 W0 (aQ st) s.heap.objs.size f c)->uI K B EE E->
   xO (dF (oJ P w) P w K mg base N W0 (aQ st) f c A a s H E) B (bw st) (T EE)):OkV P w mg base F b (k+1) S:=by
 subst g;exact fnDV F e (i e)
structure NV(K:Ow)(x:Str)(st:rc)(f:eg)(fd:g4)(dv:Int):Prop where
 a:P8 K fv x=ap (ap<|.ref f)
 F:∃(oc:ay)(od:Option eg)(kV doc pm:ay)(an:Option eg)(cdv ct:ay)(osl:Array (Option ay))(T:eg)(ob:Obj)(m:Nat)(t:Tok),
  fd=Rj x x (bZ st) (bw st) (aQ st) (.ref T) kV doc pm an cdv ct/\K.lookup f=ap ⟨oc,od,.func fd,osl⟩/\S6 K cdv x=true/\K.lookup T=ap ob/\ob.data=.seq #[.int dv t] m
 kp:P4 K (.ref f)=true
theorem Mu{u:ay}{v o j:Option eg}{i g:Array (Option ay)}{kV e q b s p:ay}{T:eg}{m:Nat}{t:Tok}(a:P8 K fv x=ap (ap<|.ref f))
  (l:K.lookup f=ap ⟨u,v,.func (Rj x x (bZ st) (bw st) (aQ st) (.ref T) kV e q o b s),i⟩) (c:S6 K b x=true) (k:P4 K (.ref f)=true)
  (lt:K.lookup T=ap ⟨p,j,.seq #[.int dv t] m,g⟩):NV K x st f (Rj x x (bZ st) (bw st) (aQ st) (.ref T) kV e q o b s) dv:=
 ⟨a,⟨u,v,kV,e,q,o,b,s,i,T,_,m,t,rfl,l,c,lt,rfl⟩,k⟩
abbrev BndV(ps:W8)(x:Str)(st:rc)(dv:Int):Prop:=∀(kV doc pm:ay)(an:Option eg)(cdv ct:ay)(T:eg)(t:Tok),
 (∀u:ay,∃k,Wq (Rj x x (bZ st) (bw st) (aQ st) (.ref T) kV doc pm an cdv ct) ⟨[u],[]⟩=WA (.ref T) >>= k/\k (ap #[.int dv t])=pure (ps.zip [u,.int dv t]))/\
 ∀u v:ay,∃k,Wq (Rj x x (bZ st) (bw st) (aQ st) (.ref T) kV doc pm an cdv ct) ⟨[u,v],[]⟩=WA (.ref T) >>= k/\k (ap #[.int dv t])=pure (ps.zip [u,v])
theorem gv(X:K.In h)(G:h.Ns fv mg)(l:NV K x st f fd dv)(B:ps.length=2)(E:BndV ps x st dv):GV K mg x st f fd ps dv:=by
 obtain⟨a,⟨F,H,kV,e,j,q,b,z,y,T,J,m,t,rfl,I,c,lt,A⟩,kp⟩:=l;refine⟨⟨⟨F,H,kV,e,j,q,b,z,y,T,rfl,I,c⟩,kp⟩,λs i KX g=>?_,⟨t,λs i KX g=>?_⟩,kp,RI X G a⟩
 .rw[Pm]at g ⊢
  match i,g.trans B with
  |[u,v],_=>
   obtain⟨k,o,p⟩:=(E kV e j q b z T t).2 u v;exact W.binds_K KX rfl lt A o p
 .rw[OG,B]at g
  match i,(show i.length=1 by simpa using g) with
  |[u],_=>
   obtain⟨k,o,p⟩:=(E kV e j q b z T t).1 u;exact W.binds_K KX rfl lt A o p
end
section
variable {X:Cx}{B:Bd}{CX:oo}{k n:Nat}{f:eg}{fd:g4}{ps:W8}{T:Sd}{EE:DX}{E:XK}{x:Str}{st:rc}{p pos:Pos}{e:fy}{es:Xb}{t:fg}{dv:Int}
end
end _3
namespace _3
open PySem _2 PyProof.Rows
section
variable {X:Cx}{B:Bd}
def Dd:eU:=λx y M Q=>match x with
 |.ref a=>match M a,y with
  |some (.lst xs),.int i=>0<=i/\match xs[i.toNat]? with
   |some d=>Q d M
   |none=>False
  |_,y=>match qK M a y with
   |some (ap d)=>Q d M
   |_=>False
 |_=>False
theorem Ep(S:X.A.units+1<p3):MD X (liftR2 X Dd):=by
 intro o s Z H x y v u Q I n p h;obtain⟨d1,T,M,QQ,c,K,E,h,C⟩:=h;unfold Dd at h
 split at h
 .rename_i a
  cases K
  split at h
  .rename_i W i G
   obtain⟨P,h⟩:=h
   split at h
   .rename_i d j
    cases E;cases n;obtain⟨t,rfl⟩:=p;obtain⟨m,N,J⟩:=c _ _ G;obtain⟨L,r,pl,hz⟩:=I.list (SqL.of N);obtain⟨z,e,R⟩:=J.get j;obtain⟨w,O,b⟩:=r.get e;have hl:=r.length;have hn:=fR;have F:i.toNat<m.length:=by
     rcases Qg i.toNat m.length with q|q
     .exact q
     .rw[Pr q]at e;cases e
    exact wpAny_getItem_list pl.isList P (by lia) (by simpa using O) ⟨z,H,I,b,C _ M h _ H c Frm.refl R⟩
   .exact h.elim
  .split at h
   .rename_i d j
    cases n;rcases kW c E j with⟨z,_⟩|⟨d',w,z,g,b⟩
    .cases z
    .cases z
     exact oU S I g p λU Y I3 f=>⟨w,H,I3,f,C _ M h _ H c Frm.refl b⟩
   .exact h.elim
 .exact h.elim
def sU(to ti te:bp)(r:eU):aD:=λD U M=>to U M λo M1=>ti U M1 λi M2=>Dd o i M2 λx M3=>te U M3 λy M4=>r x y M4 λz M5=>m9 o i z M5 λM6=>D.nx U M6
theorem xx{o i e:fy}{to ti te:bp}{r:eU}{G:VR}{pos tpos:Pos}(F:X.A.units+1<p3)(ho:DE X B o to)(hi:DE X B i ti)(he:DE X B e te)(hp:Bq X G (liftR2 X r))
  (ha:∀p n new,augStore i p n new=(do tm [new,p,n] (Wh p n new);release [new,p,n] [];pure .next)):DS X B (.AugAssign (.Subscript o i tpos) G e pos) (sU to ti te r):=by
 refine bH (Fq ho hi (Ep F) he hp (wq F) ha) ?_
 rintro D Z H ⟨U,M,DD,s,h,W⟩
 refine⟨U,M,_,s,h,λE M1 R v1 H1 a q y=>?_⟩;refine⟨U,M1,_,s.go a q,R,λC M2 K v2 H2 c g z=>?_⟩;refine⟨E,C,M2,_,c,y.mf a g,z,K,λd3 M3 T v3 H3 b m L=>?_⟩;refine⟨U,M3,_,s.go b ((q.trans g).trans m),T,λI M4 O v4 H4 x j N=>?_⟩;refine⟨d3,I,M4,_,x,L.mf b j,N,O,λS M5 J v5 H5 v w Y=>?_⟩;refine⟨E,C,S,M5,_,v,y.mf a (((g.trans m).trans j).trans w),z.mf c ((m.trans j).trans w),Y,J,λM6 P H6 u Q=>?_⟩;have f:=((((q.trans g).trans m).trans j).trans w).trans Q;exact W.nx U M6 P Z H6 f (s.go u f)
end
end _3
namespace _3
open PySem _2
section
variable {X:Cx}{B:Bd}
end
end _3
namespace _2
open PySem PySem.Spec PyProof.Rows
section
variable {X:Cx}{x y:Str}{p pos yp kp:Pos}{e:fy}{es:Xb}{t:TA}{id:String}{kn:Str}{k:ay}{r:List V->Hp->VK->Prop}
end
end _2
namespace _3
open PySem _2 PyProof.Rows
section
variable {X:Cx}{B:Bd}{x y:Str}{p pos yp kp:Pos}{e:fy}{es:Xb}{t:fg}{id:String}{kn:Str}{k:ay}{r:pT}
end
end _3
namespace _3
open PySem _2
section
variable {X:Cx}
def Fm:pT:=λb M Q=>match b with
 |[.int a]=>Q (.int (if a<0 then -a else a)) M
 |_=>False
theorem yW:bL X (.builtin "abs") (liftC X Fm):=by
 intro a s Z H j m Q I r h;obtain⟨ds,M,QQ,f,i,h,g⟩:=h;unfold Fm at h
 split at h
 .rename_i b
  obtain⟨v,rfl,e⟩:=gJ (ds:=[]) i;cases e;obtain⟨u,rfl,c⟩:=iq r;obtain⟨t,rfl⟩:=c;exact PyProof.Rows.call_abs_int λu n=>⟨.int _,H,I.tok _,⟨_,rfl⟩,g _ M h _ H f Frm.refl rfl⟩
 .exact h.elim
theorem Eg:gl "abs"=ap (.builtin "abs"):=by decide +kernel
end
section
variable {X:Cx}
def G9:eU:=λx y M Q=>match x,y with
 |.str a,.str b=>Q (.bl<|Rn b a) M
 |_,_=>False
theorem Jh:cC X (kc .In) (liftR2 X G9):=by
 intro a s Z H x y v u Q I g i h;obtain⟨n,m,M,QQ,e,b,c,h,f⟩:=h;unfold G9 at h
 split at h
 .cases b;cases c
  obtain⟨t,rfl⟩:=g;obtain⟨j,rfl⟩:=i;exact P.in_str ⟨.bl _,H,I,rfl,f _ M h _ H e Frm.refl rfl⟩
 .exact h.elim
def KY(i j:Nat)(ta:fg):aD:=λD U M=>ta U M λa M1=>match a with
 |[x,y]=>D.nx ((U.set i<|some x).set j<|some y) M1
 |_=>False
theorem Kz{B:Bd}{i j:Nat}{x y:Str}{a b:fy}{n:fg}{g e c pos:Pos}{kt k2 pt2}(F:X.calm=true)(E:X.N.Nodup)(J:X.N[i]?=ap x)(I:X.N[j]?=ap y)(f:i≠j)
  (G:X.env.scope.names.lookup x=ap .local) (L:X.env.scope.names.lookup y=ap .local) (C:DA X B [a,b] n)
  (A:V5 [.Tuple [.Name x g,.Name y e] kt c] (.Tuple [a,b] k2 pt2) X.env=pure (ap [x,y]))
  (K:V4 [.Tuple [.Name x g,.Name y e] kt c] (.Tuple [a,b] k2 pt2) pos.line X.env=pure eC):
  DS X B (.Assign [.Tuple [.Name x g,.Name y e] kt c] (.Tuple [a,b] k2 pt2) pos) (KY i j n):=by
 refine bH (IH F E J I f G L C A K) ?_
 rintro D Z H ⟨U,M,DD,s,h,w⟩
 refine⟨U,M,_,s,h,λm M' q O H' v i r=>?_⟩;rcases m with _|⟨d1,_|⟨d2,_|⟨d3,m⟩⟩⟩
 .exact(show False from q).elim
 .exact(show False from q).elim
 .obtain⟨v1,p,rfl,u,r⟩:=r
  obtain⟨v2,o,rfl,z,r⟩:=r;cases r;exact⟨_,_,rfl,w.nx _ M' q _ H' i<|((s.go v i).set u).set z⟩
 .exact(show False from q).elim
end
end _3
namespace _S
open PySem PySem.W PySem.Calls PyProof.Rows PyProof.V PySem.Spec
section
variable {prog:fx}{w:g3}{A:ix}{E:Xd}{s:el}{it d:eg}{i n ep:Nat}{od:Obj}{es:Array WF}
end
end _S
namespace _2
open PySem PySem.Spec PyProof.Rows _S
end _2
namespace _3
open PySem _2 _S
section
variable {X:Cx}{B:Bd}
end
end _3
namespace _2
open PySem PySem.Spec PyProof.Rows
section
variable {X:Cx}{tg iter elt:fy}{ifs:Xb}{scope:z4}{cl:List (Str×eg)}{pos:Pos}{ls fs:W8}{js:List Nat}{wi:TI}{g:TG}{tt:TT}{te:TE}
theorem Be{i:Nat}{x:Str}{u n:Pos}(hN:X.N.Nodup)(W:X.N[i]?=ap x)(hx:Ap X.env.scope x)(hc:X.calm=true)(co:CompOkC X scope cl ls fs js)(hi:PI X tg iter wi)
  (hY:∀(C:eg)(j:el)(H₀:Hp)(F:Xa)(pl:Xe),PG (ba X (ls++fs) scope cl C j H₀ F pl) tg g/\ID (ba X (ls++fs) scope cl C j H₀ F pl) ifs tt/\PE (ba X (ls++fs) scope cl C j H₀ F pl) elt te)
  (Y:zt (.ListComp elt [⟨tg,iter,ifs,0⟩] scope pos) (ap<|.Name x u) n.line X.env=pure true)
  (hs:∀x,z0 iter X.env x=pure x) (hf:X.fn x=true\/X.env.scope.names.lookup x=ap .local):
  PS X (.Assign [.Name x u] (.ListComp elt [⟨tg,iter,ifs,0⟩] scope pos) n) (JC i<|D7 wi ls js g tt te):=by
 intro f s Z H D I h;rw[exec_Assign_Name_used _ _ _ _ Y];refine ax (Re<|wpAny_bind ?_);show eH _ X.A (do let _ <- comprehension (.ListComp elt [⟨tg,iter,ifs,0⟩] scope pos) scope X.env _ (newList []) eC (gp iter X.env) (ap<|assign (.Name x u) X.env)) _ _ s
 refine ax (mu (Wu (use:=ap (V0 (.Name x u) X.env)) (Q:=λ_ B=>SP X f D .next B) rfl hs co.clos co.kind co.locs
  (br (hi f s Z H _ I h) λxv s1 h1=>br h1 λitv s2 h2=>?_)) (λ_ B P=>eX (eX P)) λ_ _ e=>e)
 obtain⟨it,F,tn,J,H2,e,I2,T,K,f2,q⟩:=h2;subst e;refine oM (R:=λG C=>compPost (ff X.prog X.w) X.A X.xe (ap<|assign (.Name x u) X.env) (λ_ B=>SP X f D .next B) G C) (Q:=λv H1=>D.nx (Z.set i<|some v) H1) hc co hY I2 T K f2 q ?_;intro p C H' B m hn IX hC hL L c E P;show eH _ X.A (V0 (.Name x u) X.env<|.ref p) _ _ _;refine wpAny_assign_Name (o5 IX hN W hx (v:=.ref p) rfl (λS I'' M=>?_) hf);obtain⟨a,sb,ha⟩:=M;have U:C≠a:=by
  rcases ha with z|z
  .rw[z];exact hL
  .exact λy=>c x a z y.symm
 refine⟨m,hn.sameBut sb U,λh3 O=>?_⟩;exact⟨_,H',I''.turned (t':=S.toks) (λb o M e=>O.extBut b o M e) hC hL (.inr L) c E,P⟩
end
end _2
namespace _3
open PySem _2
section
variable {X:Cx}{B:Bd}{scope:z4}{cl:List (Str×eg)}{ls fs:W8}{js:List Nat}{tg iter elt:fy}{ifs:Xb}{wi:A2}{g:j8}{tt:eW}{te:bp}{pos px spos:Pos}{i:Nat}{x:Str}
theorem Cy(A:X.N.Nodup)(c:X.N[i]?=ap x)(o:Ap X.env.scope x)(E:X.calm=true)(h:FC X scope fs js cl)(I:scope.kind=.function)(O:∀y∈scope.names,(y.2=.free->y.1∈fs)/\(y.2=.cell->y.1∉fs/\scope.names.lookup y.1=ap .cell))(J:∀x∈scope.names,x.2=.local->scope.names.lookup x.1=ap .local)
  (e:Wo scope X.env=pure cl) (G:DI X B tg iter wi)
  (P:∀(C:eg)(a:el)(H₀:Hp)(b:Xa)(pl:Xe),DG (ba X (ls++fs) scope cl C a H₀ b pl) DJ tg g)
  (w:∀(C:eg)(a:el)(H₀:Hp)(b:Xa)(pl:Xe),Me (ba X (ls++fs) scope cl C a H₀ b pl) DJ ifs tt)
  (hE:∀(C:eg)(a:el)(H₀:Hp)(b:Xa)(pl:Xe),DE (ba X (ls++fs) scope cl C a H₀ b pl) DJ elt te)
  (F:X.env.blockKind=.function) (p:X.env.scope.names.lookup x=ap .local) (L:px.line=pos.line) (z:(scope.names.any λ(n,k)=>n==x&&(k==.local||k==.cell))=eC) (u:∀x,z0 iter X.env x=pure x) (Q:X.fn x=true\/X.env.scope.names.lookup x=ap .local):
  DS X B (.Assign [.Name x px] (.ListComp elt [⟨tg,iter,ifs,0⟩] scope pos) spos) (dP i<|aZ wi ls js g tt te):=by
 refine bH (Be (g:=liftG0 X.K g) (tt:=liftT0 X.K tt) (te:=liftE0 X.K te) A c o E (xy h I O J e) G (λC a H₀ b pl=>⟨AR (P C a H₀ b pl),xE (w C a H₀ b pl),At<|hE C a H₀ b pl⟩) (Eh F p L z) u Q) ?_
 rintro D Z H ⟨U,M,DD,s,h,m⟩
 refine oN ⟨U,M,_,s,h,λd M' q v H' j f r=>?_⟩;exact m.nx _ M' q _ H' f ((s.go j f).set r)
end
section
variable {X:Cx}{B:Bd}
end
end _3
namespace _T
open PySem _2 _3
def top(i:Nat):Stmt:=PySem.Challenge.pw_twinstride_k53_whole_shares_come_to_one.main.body.getD i (.Pass ⟨0,0,0,0⟩)
abbrev NT:Stmt:=dS (top 6) 0
abbrev LU:Stmt:=dS (top 6) 1
abbrev GD:Stmt:=dS (top 6) 2
abbrev Hm:Stmt:=top 7
abbrev Hc:Stmt:=top 8
abbrev GP:Stmt:=top 9
abbrev Hw:Stmt:=top 10
abbrev HA:Stmt:=top 12
abbrev Gi:Stmt:=top 13
abbrev Hz:Stmt:=top 14
abbrev HU:Stmt:=top 15
abbrev Hn:Stmt:=top 16
abbrev Gq:Stmt:=top 18
abbrev Hg:Stmt:=top 19
abbrev HP:Stmt:=top 20
abbrev Gw:Stmt:=top 22
abbrev He:Stmt:=top 24
abbrev Hj:Stmt:=top 26
abbrev Gb:Stmt:=top 27
abbrev GY:Stmt:=top 28
abbrev NJ:Stmt:=dS (top 30) 0
abbrev MJ:Stmt:=dS (top 30) 1
abbrev Nj:Stmt:=dS (top 31) 0
abbrev MC:Stmt:=dS (top 31) 1
abbrev Hv:Stmt:=top 32
abbrev Gy:Stmt:=top 33
abbrev GO:Stmt:=top 34
abbrev GH:Stmt:=top 35
abbrev Gg:Stmt:=top 36
abbrev HQ:Stmt:=top 38
abbrev Hl:Stmt:=top 39
abbrev HV:Stmt:=top 40
abbrev HS:Stmt:=top 41
abbrev MH:Stmt:=dS (top 43) 0
abbrev GX:Stmt:=top 44
abbrev Hu:Stmt:=top 45
abbrev Hb:Stmt:=top 47
abbrev HD:Stmt:=top 48
abbrev Gf:Stmt:=top 49
abbrev HL:Stmt:=top 50
abbrev Mg:Stmt:=top 51
abbrev HR:Stmt:=top 53
abbrev Gz:Stmt:=top 54
abbrev GW:Stmt:=top 55
abbrev Hk:Stmt:=top 56
abbrev HK:Stmt:=top 57
abbrev Hh:Stmt:=top 58
abbrev GQ:Stmt:=top 59
abbrev HE:Stmt:=top 60
abbrev GG:Stmt:=top 61
abbrev Nq:Stmt:=top 62
abbrev HB:Stmt:=top 63
abbrev GL:Stmt:=top 64
abbrev GU:Stmt:=top 65
abbrev HG:Stmt:=top 66
abbrev Ht:Stmt:=top 67
abbrev Hy:Stmt:=top 68
abbrev Hd:Stmt:=top 69
abbrev GT:Stmt:=top 70
abbrev MY:Stmt:=top 71
abbrev Gj:Stmt:=top 72
abbrev GB:Stmt:=top 74
abbrev jI:Stmt:=top 75
set_option genInjectivity false in
structure Ad where
 C_Ends:eg
 C_Going:eg
 C_Outcome:eg
 C_Walk:eg
 C_Dry:eg
 C_NoCase:eg
 C_TooMany:eg
 (a1 a2 a3 a4 a5 a6 a7 a8 a9 a10 a11 a12 a13 a14 a15 a16 a17 a18 a19 a20 a21 a22 a23 a24 a25 a26 a27 a28 a29 a30 a31 a32 a33 a34 a35 a36 a37 a38 a39 a40 a41 a42 a43 a44 a45 a46 a47 a48 a49 a50 a51 a52 a53 a54 a55 a56 a57 a58 a59 a60 a61 a62 a63:eg)
 (d1 d2 d3 d4 d5 d6 d7 d8 d9 d10 d11 d12 d13 d14 d15 d16 d17 d18 d19 d20 d21 d22 d23 d24 d25 d26 d27 d28 d29 d30 d31 d32 d33 d34 d35 d36 d37 d38 d39 d40 d41 d42 d43 d44 d45 d46 d47 d48 d49 d50 d51 d52 d53 d54 d55 d56 d57 d58 d59 d60 d61 d62 d63:g4)
def Fj(ad:Ad)(EE:DX):aD:=ai (ck ad.C_Walk (ac 0) (ac 1) "plan") (ai (ck ad.C_Walk (ac 0) (fZ<|aa (ah au (ac 1)<|dC<|.int 1)<|aa (ah au (ac 2)<|dC<|.int 0) af) "numbers")<|ai (ck ad.C_Walk (ac 0) (ah au (ac 2)<|dC<|.int 1) "pieces")<|ai (ck ad.C_Walk (ac 0) (ac 3) "most")<|ck ad.C_Walk (ac 0) (bO af) "steps")
def FP(ad:Ad):Sd:=aJ ["self","plan","stand","most"] (Fj ad)
theorem u_q6{ad:Ad}{e b c a:D}{M:Mem}{Q:DK}{E:DX}:FP ad [e,b,c,a] M Q E=Fj ad (aG E) { nx:=λ_ M'=>drp Q .non M',rt:=drp Q } [ap e,ap b,ap c,ap a] M:=rfl
def Fv(ad:Ad)(EE:DX):aD:=ai (aH (ak<|ah oGe (bu bK<|aa (aX ad.C_Walk (ac 0) "steps") af)<|aX ad.C_Walk (ac 0) "most") (ju ad.C_Dry EE) aE) (bn<|mW "list" bU (aX ad.C_Walk (ac 0) "steps")<|aa (aK<|aa (ac 1)<|aa (ac 2) af) af)
def vR(ad:Ad):Sd:=aJ ["self","place","number"] (Fv ad)
theorem u_q2{ad:Ad}{c b a:D}{M:Mem}{Q:DK}{E:DX}:vR ad [c,b,a] M Q E=Fv ad (aG E) { nx:=λ_ M'=>drp Q .non M',rt:=drp Q } [ap c,ap b,ap a] M:=rfl
def xb(ad:Ad)(EE:DX):aD:=ai (ar (nI (ak<|ah bX (ah au (aX ad.C_Walk (ac 0) "numbers")<|ac 2)<|dC<|.int 0) (dC<|.int 0)<|dC<|.int 1)<|ag 3) (ai (bn<|cP ad.C_Walk "note_step" (vR ad) EE 3 (ac 0)<|aa (ac 1)<|aa (ac 3) af)<|az<|ac 3)
def ox(ad:Ad):Sd:=aJ ["self","place","name","seen"] (xb ad)
theorem Nd{ad:Ad}{c b a:D}{M:Mem}{Q:DK}{E:DX}:ox ad [c,b,a] M Q E=xb ad (aG E) { nx:=λ_ M'=>drp Q .non M',rt:=drp Q } [ap c,ap b,ap a,cm] M:=rfl
def wu(ad:Ad)(EE:DX):aD:=ai (aH (ak<|ah bX (ac 0)<|dC<|.str "sum") (az<|ah cZ (ao<|ah aW (ac 1)<|ac 2)<|ac 3) aE) (ai (aH (ak<|ah bX (ac 0)<|dC<|.str "by") (az<|ah cZ (ah cG (ac 1)<|ac 2)<|ac 3) aE)<|ai (aH (ak<|ah bX (ac 0)<|dC<|.str "less") (az<|nI (ak<|ah uJ (ac 1)<|ac 2) (dC<|.int 1)<|dC<|.int 0) aE)<|az<|nI (ak<|ah bX (ac 1)<|ac 2) (dC<|.int 1)<|dC<|.int 0)
def xu(ad:Ad):Sd:=aJ ["word","y","z","wheel"] (wu ad)
theorem My{ad:Ad}{e b c a:D}{M:Mem}{Q:DK}{E:DX}:xu ad [e,b,c,a] M Q E=wu ad (aG E) { nx:=λ_ M'=>drp Q .non M',rt:=drp Q } [ap e,ap b,ap c,ap a] M:=rfl
def iM(ad:Ad)(EE:DX):aD:=ai (aH (ak<|ah bX (ah au (ac 2)<|dC<|.int 0)<|dC<|.str "take") (az<|ah au (ac 2)<|dC<|.int 2) aE) (ai (aH (ak<|ah bX (ah au (ac 2)<|dC<|.int 0)<|dC<|.str "pick") (az<|ah cZ (ah au (ac 1)<|ah au (ac 2)<|dC<|.int 2)<|ah au (ac 0)<|dC<|.int 2) aE)<|az<|dC .non)
def lZ(ad:Ad):Sd:=aJ ["plan","numbers","row"] (iM ad)
theorem nU{ad:Ad}{c b a:D}{M:Mem}{Q:DK}{E:DX}:lZ ad [c,b,a] M Q E=iM ad (aG E) { nx:=λ_ M'=>drp Q .non M',rt:=drp Q } [ap c,ap b,ap a] M:=rfl
def fS(ad:Ad)(EE:DX):aD:=ai (aH (ak<|ah bX (ah au (ac 3)<|dC<|.int 0)<|dC<|.str "put") (az<|ah au (ac 3)<|dC<|.int 2) aE) (ai (ar (ao<|aj (lZ ad) EE 3<|aa (ac 0)<|aa (ac 1)<|aa (ac 3) af)<|ag 4)<|ai (aH (ak<|ah gW (ac 4)<|dC .non) (az<|ah au (ac 2)<|ac 4) aE)<|az<|aj (xu ad) EE 4<|aa (ah au (ac 3)<|dC<|.int 0)<|aa (ah au (ac 1)<|ah au (ac 3)<|dC<|.int 2)<|aa (ah au (ac 1)<|ah au (ac 3)<|dC<|.int 3)<|aa (ah au (ac 0)<|dC<|.int 0) af)
def m7(ad:Ad):Sd:=aJ ["plan","numbers","pieces","row","piece"] (fS ad)
theorem jK{ad:Ad}{e b c a:D}{M:Mem}{Q:DK}{E:DX}:m7 ad [e,b,c,a] M Q E=fS ad (aG E) { nx:=λ_ M'=>drp Q .non M',rt:=drp Q } [ap e,ap b,ap c,ap a,cm] M:=rfl
def xT(ad:Ad)(U2 U4 U5 U6:Sd)(EE:DX):aD:=cF (jE<|aa (ac 1) af) (fG 2<|b6 (ag 3)<|b6 (ag 4) eY) (bn<|aj U4 EE 3<|aa (ac 0)<|aa (ac 4)<|aa (ah aW (ac 2)<|aK<|aa (ac 3) af) af)
def oS(ad:Ad)(U2 U4 U5 U6:Sd)(EE:DX):aD:=aH (ak<|ah bX (ah au (ac 1)<|dC<|.int 0)<|dC<|.str "if") (bn<|aj U5 EE 3<|aa (ac 0)<|aa (ac 1)<|aa (ac 2) af) (aH (ak<|ah bX (ah au (ac 1)<|dC<|.int 0)<|dC<|.str "again") (bn<|aj U6 EE 3<|aa (ac 0)<|aa (ac 1)<|aa (ac 2) af)<|ai (ar (ao<|aj (m7 ad) EE 4<|aa (aX ad.C_Walk (ac 0) "plan")<|aa (aX ad.C_Walk (ac 0) "numbers")<|aa (aX ad.C_Walk (ac 0) "pieces")<|aa (ac 1) af)<|ag 3)<|ai (bn<|cP ad.C_Walk "note_step" (vR ad) EE 3 (ac 0)<|aa (ac 2)<|aa (ac 3) af)<|ar (ac 3)<|cT (aX ad.C_Walk (ac 0) "numbers")<|ah au (ac 1)<|dC<|.int 1)
def yt(ad:Ad)(U2 U4 U5 U6:Sd)(EE:DX):aD:=ai (ar (ao<|cP ad.C_Walk "look" (ox ad) EE 3 (ac 0)<|aa (ac 2)<|aa (ah au (ac 1)<|dC<|.int 1) af)<|ag 3) (bn<|aj U2 EE 3<|aa (ac 0)<|aa (nI (ak<|ah bX (ac 3)<|dC<|.int 1) (ah au (ac 1)<|dC<|.int 2)<|ah au (ac 1)<|dC<|.int 3)<|aa (ah aW (ac 2)<|aK<|aa (ac 3) af) af)
def yf(ad:Ad)(U2 U4 U5 U6:Sd)(EE:DX):aD:=ai (ar (dC<|.int 0)<|ag 3) (dq (ak<|ah bX (ao<|cP ad.C_Walk "look" (ox ad) EE 3 (ac 0)<|aa (ah aW (ac 2)<|aK<|aa (ac 3) af)<|aa (ah au (ac 1)<|dC<|.int 1) af)<|dC<|.int 1)<|ai (bn<|aj U2 EE 3<|aa (ac 0)<|aa (ah au (ac 1)<|dC<|.int 2)<|aa (ah aW (ac 2)<|aK<|aa (ac 3) af) af)<|Ao 3 (dC<|.int 1) oy)
mutual
def U2(ad:Ad):Nat->Sd
 |0=>λ_ _ _ _=>False
 |n+1=>aJ ["walk","rows","place","j","row"] (xT ad (U2 ad n) (U4 ad n) (U5 ad n)<|U6 ad n)
def U4(ad:Ad):Nat->Sd
 |0=>λ_ _ _ _=>False
 |n+1=>aJ ["walk","row","place","number"] (oS ad (U2 ad n) (U4 ad n) (U5 ad n)<|U6 ad n)
def U5(ad:Ad):Nat->Sd
 |0=>λ_ _ _ _=>False
 |n+1=>aJ ["walk","row","place","seen"] (yt ad (U2 ad n) (U4 ad n) (U5 ad n)<|U6 ad n)
def U6(ad:Ad):Nat->Sd
 |0=>λ_ _ _ _=>False
 |n+1=>aJ ["walk","row","place","turn"] (yf ad (U2 ad n) (U4 ad n) (U5 ad n)<|U6 ad n)
end
theorem LA{ad:Ad}{n:Nat}{c b a:D}{M:Mem}{Q:DK}{E:DX}:U2 ad (n+1) [c,b,a] M Q E=xT ad (U2 ad n) (U4 ad n) (U5 ad n) (U6 ad n) (aG E) { nx:=λ_ M'=>drp Q .non M',rt:=drp Q } [ap c,ap b,ap a,cm,cm] M:=rfl
theorem Ag{ad:Ad}{n:Nat}{c b a:D}{M:Mem}{Q:DK}{E:DX}:U4 ad (n+1) [c,b,a] M Q E=oS ad (U2 ad n) (U4 ad n) (U5 ad n) (U6 ad n) (aG E) { nx:=λ_ M'=>drp Q .non M',rt:=drp Q } [ap c,ap b,ap a,cm] M:=rfl
theorem LI{ad:Ad}{n:Nat}{c b a:D}{M:Mem}{Q:DK}{E:DX}:U5 ad (n+1) [c,b,a] M Q E=yt ad (U2 ad n) (U4 ad n) (U5 ad n) (U6 ad n) (aG E) { nx:=λ_ M'=>drp Q .non M',rt:=drp Q } [ap c,ap b,ap a,cm] M:=rfl
theorem Oi{ad:Ad}{n:Nat}{c b a:D}{M:Mem}{Q:DK}{E:DX}:U6 ad (n+1) [c,b,a] M Q E=yf ad (U2 ad n) (U4 ad n) (U5 ad n) (U6 ad n) (aG E) { nx:=λ_ M'=>drp Q .non M',rt:=drp Q } [ap c,ap b,ap a,cm] M:=rfl
def wy(ad:Ad)(EE:DX):aD:=ai (ar (fT ad.C_Walk (FP ad) EE 4<|aa (ac 0)<|aa (ac 1)<|aa (ac 2) af)<|ag 3) (ai (IZ ad.C_Dry (U2 ad 24) 3 (aa (ac 3)<|aa (ah au (ac 0)<|dC<|.int 3)<|aa (aK af) af)<|az<|aK<|aa (aX ad.C_Walk (ac 3) "steps")<|aa (dC .non) af)<|az<|aK<|aa (aX ad.C_Walk (ac 3) "steps")<|aa (bu cD<|aa (ao<|aZ (bG<|ah au (ac 0)<|dC<|.int 1) ["name"] [3] (ag 0) dG<|ah au (aX ad.C_Walk (ac 1) "numbers")<|ac 0) af) af)
def uo(ad:Ad):Sd:=aJ ["plan","stand","most","walk"] (wy ad)
theorem MI{ad:Ad}{c b a:D}{M:Mem}{Q:DK}{E:DX}:uo ad [c,b,a] M Q E=wy ad (aG E) { nx:=λ_ M'=>drp Q .non M',rt:=drp Q } [ap c,ap b,ap a,cm] M:=rfl
def xh(ad:Ad)(EE:DX):aD:=ai (ar (ah au (oR<|aj (uo ad) EE 3<|aa (ac 0)<|aa (ac 1)<|aa (ac 2) af)<|dC<|.int 1)<|ag 3) (ai (aH (ak<|ah ja (ac 3)<|dC .non) (az<|dC .non) aE)<|az<|ah au (ac 3)<|Mo mZ (ah au (ac 0)<|dC<|.int 1)<|aa (ah au (ac 0)<|dC<|.int 4) af)
def n_(ad:Ad):Sd:=aJ ["plan","stand","most","end"] (xh ad)
theorem N7{ad:Ad}{c b a:D}{M:Mem}{Q:DK}{E:DX}:n_ ad [c,b,a] M Q E=xh ad (aG E) { nx:=λ_ M'=>drp Q .non M',rt:=drp Q } [ap c,ap b,ap a,cm] M:=rfl
def y0(ad:Ad)(EE:DX):aD:=az (ah aW (ao<|bu eJ<|aa (ah au (ac 0)<|dC<|.int 1) af)<|ao<|tV<|aa (ah au (ac 0)<|dC<|.int 2) af)
def sJ(ad:Ad):Sd:=aJ ["plan"] (y0 ad)
theorem Ni{ad:Ad}{a:D}{M:Mem}{Q:DK}{E:DX}:sJ ad [a] M Q E=y0 ad (aG E) { nx:=λ_ M'=>drp Q .non M',rt:=drp Q } [ap a] M:=rfl
def ke(ad:Ad)(EE:DX):aD:=az (aZ (bG<|ao<|aj (sJ ad) EE 1<|aa (ac 0) af) ["thing"] [2] (ag 0) (ak<|ah C5 (ac 0)<|ac 1)<|ac 0)
def yi(ad:Ad)(EE:DX):aD:=ai (ar (bu fQ<|aa (ao<|aZ (bG<|ac 1) ["thing"] [] (ag 0) dG<|aK<|aa (ac 0)<|aa (dC<|.bl true) af) af)<|ag 2) (ke ad EE)
def xw(ad:Ad):Sd:=aJ ["plan","things","wanted"] (yi ad)
theorem Lz{ad:Ad}{b a:D}{M:Mem}{Q:DK}{E:DX}:xw ad [b,a] M Q E=yi ad (aG E) { nx:=λ_ M'=>drp Q .non M',rt:=drp Q } [ap b,ap a,cm] M:=rfl
def rT(ad:Ad)(EE:DX):aD:=ai (aH (dg<|bu wE<|aa (ac 2)<|aa (dC<|.ty "str") af) (az<|ah au (ah au (ac 1)<|dC<|.int 0)<|Mo mZ (ah au (ac 0)<|dC<|.int 1)<|aa (ac 2) af) aE) (az<|ah au (ah au (ac 1)<|dC<|.int 1)<|ac 2)
def jA(ad:Ad):Sd:=aJ ["plan","stand","thing"] (rT ad)
theorem Hx{ad:Ad}{c b a:D}{M:Mem}{Q:DK}{E:DX}:jA ad [c,b,a] M Q E=rT ad (aG E) { nx:=λ_ M'=>drp Q .non M',rt:=drp Q } [ap c,ap b,ap a] M:=rfl
def iC(ad:Ad)(EE:DX):aD:=ai (aH (A6 (ak<|ah bX (ah au (ac 0)<|dC<|.int 0)<|dC<|.str "if")<|ak<|ah bX (ah au (ac 0)<|dC<|.int 0)<|dC<|.str "again") (az<|bO<|aa (ah au (ac 0)<|dC<|.int 1) af) aE) (ai (aH (A6 (ak<|ah bX (ah au (ac 0)<|dC<|.int 0)<|dC<|.str "put")<|ak<|ah bX (ah au (ac 0)<|dC<|.int 0)<|dC<|.str "take") (az<|bO af) aE)<|az<|bu eJ<|aa (ao<|uA (ac 0) (cI<|dC<|.int 2) bI) af)
def wC(ad:Ad):Sd:=aJ ["row"] (iC ad)
theorem oF{ad:Ad}{a:D}{M:Mem}{Q:DK}{E:DX}:wC ad [a] M Q E=iC ad (aG E) { nx:=λ_ M'=>drp Q .non M',rt:=drp Q } [ap a] M:=rfl
def ye(ad:Ad)(EE:DX):aD:=az (aZ (bG<|ao<|aj (sJ ad) EE 1<|aa (ac 0) af) ["thing"] [0,2,1] (ag 0) (ak<|ah jy (ao<|aj (jA ad) ii 3<|aa (ac 1)<|aa (ac 3)<|aa (ac 0) af)<|ao<|aj (jA ad) ii 3<|aa (ac 1)<|aa (ac 2)<|aa (ac 0) af)<|ac 0)
def yP(ad:Ad):Sd:=aJ ["plan","one","other"] (ye ad)
theorem NX{ad:Ad}{c b a:D}{M:Mem}{Q:DK}{E:DX}:yP ad [c,b,a] M Q E=ye ad (aG E) { nx:=λ_ M'=>drp Q .non M',rt:=drp Q } [ap c,ap b,ap a] M:=rfl
def qD(ad:Ad)(EE:DX):aD:=ai (aH (ak<|ah bX (ac 1)<|ac 2) (ju ad.C_NoCase EE) aE) (az<|aK<|aa (ac 1)<|aa (ac 2) af)
def lx(ad:Ad)(EE:DX):aD:=ai (aH (A6 (ak<|ah ja (ac 1)<|dC .non)<|ak<|ah ja (ac 2)<|dC .non) (ju ad.C_NoCase EE) aE) (qD ad EE)
def qX(ad:Ad)(EE:DX):aD:=ai (ar (ao<|aj (n_ ad) EE 3<|aa (ah au (ac 0)<|dC<|.int 0)<|aa (ah au (ac 0)<|dC<|.int 2)<|aa (ah au (ac 0)<|dC<|.int 3) af)<|ag 2) (lx ad EE)
def yl(ad:Ad)(EE:DX):aD:=ai (ar (ao<|aj (n_ ad) EE 3<|aa (ah au (ac 0)<|dC<|.int 0)<|aa (ah au (ac 0)<|dC<|.int 1)<|aa (ah au (ac 0)<|dC<|.int 3) af)<|ag 1) (qX ad EE)
def tE(ad:Ad):Sd:=aJ ["case","sound","faulty"] (yl ad)
theorem N9{ad:Ad}{a:D}{M:Mem}{Q:DK}{E:DX}:tE ad [a] M Q E=yl ad (aG E) { nx:=λ_ M'=>drp Q .non M',rt:=drp Q } [ap a,cm,cm] M:=rfl
def xD(ad:Ad)(EE:DX):aD:=az (aj (yP ad) EE 3<|aa (ah au (ac 0)<|dC<|.int 0)<|aa (ah au (ac 0)<|dC<|.int 1)<|aa (ah au (ac 0)<|dC<|.int 2) af)
def jC(ad:Ad):Sd:=aJ ["case"] (xD ad)
theorem LM{ad:Ad}{a:D}{M:Mem}{Q:DK}{E:DX}:jC ad [a] M Q E=xD ad (aG E) { nx:=λ_ M'=>drp Q .non M',rt:=drp Q } [ap a] M:=rfl
def ua(ad:Ad)(EE:DX):aD:=ai (aH (ak<|ah bX (ac 1)<|ah au (ac 0)<|dC<|.int 0) (az<|dC<|.str "sound") aE) (ai (aH (ak<|ah bX (ac 1)<|ah au (ac 0)<|dC<|.int 1) (az<|dC<|.str "faulty") aE)<|az<|dC<|.str "other")
def wU(ad:Ad):Sd:=aJ ["two","one"] (ua ad)
theorem HM{ad:Ad}{b a:D}{M:Mem}{Q:DK}{E:DX}:wU ad [b,a] M Q E=ua ad (aG E) { nx:=λ_ M'=>drp Q .non M',rt:=drp Q } [ap b,ap a] M:=rfl
def EQ(ad:Ad)(EE:DX):aD:=ai (ck ad.C_Going (ac 0) (ac 1) "numbers") (ai (ck ad.C_Going (ac 0) (ac 2) "pieces")<|ai (ck ad.C_Going (ac 0) (ac 3) "unsettled")<|ai (ck ad.C_Going (ac 0) (ac 4) "todo")<|ck ad.C_Going (ac 0) (ac 5) "left")
def Bm(ad:Ad):Sd:=aJ ["self","numbers","pieces","unsettled","todo","left"] (EQ ad)
theorem u_q3{ad:Ad}{c a g b e f:D}{M:Mem}{Q:DK}{E:DX}:Bm ad [c,a,g,b,e,f] M Q E=EQ ad (aG E) { nx:=λ_ M'=>drp Q .non M',rt:=drp Q } [ap c,ap a,ap g,ap b,ap e,ap f] M:=rfl
def uZ(ad:Ad)(EE:DX):aD:=ar (ac 2) (cT (aX ad.C_Going (ac 3) "numbers")<|ac 1)
def vZ(ad:Ad)(EE:DX):aD:=ar (ac 2) (cT (aX ad.C_Going (ac 3) "pieces")<|ac 1)
def vU(ad:Ad)(EE:DX):aD:=ai (aH (dg<|bu wE<|aa (ac 1)<|aa (dC<|.ty "str") af) (uZ ad EE)<|vZ ad EE) (az<|ac 3)
def vX(ad:Ad)(EE:DX):aD:=ai (bn<|CS (aX ad.C_Going (ac 3) "unsettled")<|ac 1) (vU ad EE)
def EA(ad:Ad)(EE:DX):aD:=ai (ar (fT ad.C_Going (Bm ad) EE 6<|aa (bu mV<|aa (aX ad.C_Going (ac 0) "numbers") af)<|aa (bu eJ<|aa (aX ad.C_Going (ac 0) "pieces") af)<|aa (bu mV<|aa (aX ad.C_Going (ac 0) "unsettled") af)<|aa (aX ad.C_Going (ac 0) "todo")<|aa (aX ad.C_Going (ac 0) "left") af)<|ag 3) (vX ad EE)
def zj(ad:Ad):Sd:=aJ ["self","thing","number","other"] (EA ad)
theorem u_q7{ad:Ad}{c b a:D}{M:Mem}{Q:DK}{E:DX}:zj ad [c,b,a] M Q E=EA ad (aG E) { nx:=λ_ M'=>drp Q .non M',rt:=drp Q } [ap c,ap b,ap a,cm] M:=rfl
def Fe(ad:Ad)(EE:DX):aD:=ai (ck ad.C_Ends (ac 0) (ac 1) "limit") (ck ad.C_Ends (ac 0) (dC<|.int 0) "count")
def Li(ad:Ad):Sd:=aJ ["self","limit"] (Fe ad)
theorem u_q8{ad:Ad}{b a:D}{M:Mem}{Q:DK}{E:DX}:Li ad [b,a] M Q E=Fe ad (aG E) { nx:=λ_ M'=>drp Q .non M',rt:=drp Q } [ap b,ap a] M:=rfl
def vW(ad:Ad)(EE:DX):aD:=aH (ak<|ah sy (aX ad.C_Ends (ac 0) "count")<|aX ad.C_Ends (ac 0) "limit") (ju ad.C_TooMany EE) aE
def G0(ad:Ad)(EE:DX):aD:=ai (qv ad.C_Ends (ac 0) (dC<|.int 1) "count") (vW ad EE)
def BL(ad:Ad):Sd:=aJ ["self"] (G0 ad)
theorem u_q4{ad:Ad}{a:D}{M:Mem}{Q:DK}{E:DX}:BL ad [a] M Q E=G0 ad (aG E) { nx:=λ_ M'=>drp Q .non M',rt:=drp Q } [ap a] M:=rfl
def qT(ad:Ad)(EE:DX):aD:=ar (aK<|aa (ac 2)<|aa (ac 1) af) (ag 1)
def yv(ad:Ad)(EE:DX):aD:=ai (cF (I0<|aa (ac 0) af) (ag 2)<|qT ad EE) (az<|ac 1)
def lH(ad:Ad):Sd:=aJ ["rows","todo","row"] (yv ad)
theorem MW{ad:Ad}{b a:D}{M:Mem}{Q:DK}{E:DX}:lH ad [b,a] M Q E=yv ad (aG E) { nx:=λ_ M'=>drp Q .non M',rt:=drp Q } [ap b,ap a,cm] M:=rfl
def qq(ad:Ad)(EE:DX):aD:=az (fT ad.C_Going (Bm ad) EE 6<|aa (fZ<|aa (ah au (ac 1)<|dC<|.int 1)<|aa (ah au (ac 2)<|dC<|.int 0) af)<|aa (bu eJ<|aa (ah au (ac 2)<|dC<|.int 1) af)<|aa (ac 3)<|aa (ao<|aj (lH ad) EE 2<|aa (ah au (ac 1)<|dC<|.int 3)<|aa (dC .non) af)<|aa (ah au (ac 0)<|dC<|.int 3) af)
def qf(ad:Ad)(EE:DX):aD:=ai (ar (bu fQ<|aa (ao<|aZ (bG<|ao<|aj (jC ad) EE 1<|aa (ac 0) af) ["thing"] [] (ag 0) dG<|aK<|aa (ac 0)<|aa (dC<|.bl true) af) af)<|ag 3) (qq ad EE)
def qS(ad:Ad)(EE:DX):aD:=ai (ar (ah au (ac 0)<|dC<|.int 1)<|ag 2) (qf ad EE)
def xr(ad:Ad)(EE:DX):aD:=ai (ar (ah au (ac 0)<|dC<|.int 0)<|ag 1) (qS ad EE)
def y4(ad:Ad):Sd:=aJ ["case","plan","sound","unsettled"] (xr ad)
theorem NW{ad:Ad}{a:D}{M:Mem}{Q:DK}{E:DX}:y4 ad [a] M Q E=xr ad (aG E) { nx:=λ_ M'=>drp Q .non M',rt:=drp Q } [ap a,cm,cm,cm] M:=rfl
def pz(ad:Ad)(EE:DX):aD:=az (ah au (ao<|aj (xw ad) EE 2<|aa (ac 0)<|aa (ac 3) af)<|dC<|.int 0)
def pF(ad:Ad)(EE:DX):aD:=az (nI (ak<|ah CN (ac 4)<|aX ad.C_Going (ac 1) "unsettled") (ac 4)<|dC .non)
def qi(ad:Ad)(EE:DX):aD:=ai (ar (ao<|aj (lZ ad) EE 3<|aa (ac 0)<|aa (aX ad.C_Going (ac 1) "numbers")<|aa (ac 2) af)<|ag 4) (pF ad EE)
def ka(ad:Ad)(EE:DX):aD:=ai (aH (dg<|ac 3) (pz ad EE) aE) (qi ad EE)
def pS(ad:Ad)(EE:DX):aD:=ai (cz (dP 3<|aZ (bG<|ao<|aj (wC ad) EE 1<|aa (ac 2) af) ["name"] [1] (ag 0) (ak<|ah C5 (ac 0)<|aX ad.C_Going (ac 1) "unsettled")<|ac 0) 3) (ka ad EE)
def wF(ad:Ad)(EE:DX):aD:=ai (aH (h8<|dg<|aX ad.C_Going (ac 1) "unsettled") (az<|dC .non) aE) (pS ad EE)
def xi(ad:Ad):Sd:=aJ ["plan","going","row","found","piece"] (wF ad)
theorem LR{ad:Ad}{c b a:D}{M:Mem}{Q:DK}{E:DX}:xi ad [c,b,a] M Q E=wF ad (aG E) { nx:=λ_ M'=>drp Q .non M',rt:=drp Q } [ap c,ap b,ap a,cm,cm] M:=rfl
def qe(ad:Ad)(EE:DX):aD:=ck ad.C_Going (ac 1) (ao<|aj (lH ad) EE 2<|aa (nI (ak<|ah bX (ah au (aX ad.C_Going (ac 1) "numbers")<|ah au (ac 2)<|dC<|.int 1)<|dC<|.int 0) (ah au (ac 2)<|dC<|.int 3)<|ah au (ac 2)<|dC<|.int 2)<|aa (aX ad.C_Going (ac 1) "todo") af) "todo"
def pU(ad:Ad)(EE:DX):aD:=aH (ak<|ah jy (ah au (aX ad.C_Going (ac 1) "numbers")<|ah au (ac 2)<|dC<|.int 1)<|dC<|.int 0) (ck ad.C_Going (ac 1) (ao<|aj (lH ad) EE 2<|aa (ah au (ac 2)<|dC<|.int 2)<|aa (aK<|aa (ac 2)<|aa (aX ad.C_Going (ac 1) "todo") af) af) "todo") aE
def qy(ad:Ad)(EE:DX):aD:=bn (B5 (aX ad.C_Going (ac 1) "unsettled") (ah au (ac 2)<|dC<|.int 1)<|dC .non)
def gG(ad:Ad)(EE:DX):aD:=ai (ar (ao<|aj (m7 ad) EE 4<|aa (ac 0)<|aa (aX ad.C_Going (ac 1) "numbers")<|aa (aX ad.C_Going (ac 1) "pieces")<|aa (ac 2) af)<|cT (aX ad.C_Going (ac 1) "numbers")<|ah au (ac 2)<|dC<|.int 1) (qy ad EE)
def ku(ad:Ad)(EE:DX):aD:=aH (ak<|ah bX (ah au (ac 2)<|dC<|.int 0)<|dC<|.str "again") (pU ad EE) (gG ad EE)
def iA(ad:Ad)(EE:DX):aD:=aH (ak<|ah bX (ah au (ac 2)<|dC<|.int 0)<|dC<|.str "if") (qe ad EE) (ku ad EE)
def qA(ad:Ad)(EE:DX):aD:=ai (ck ad.C_Going (ac 1) (ah au (aX ad.C_Going (ac 1) "todo")<|dC<|.int 1) "todo") (iA ad EE)
def wo(ad:Ad)(EE:DX):aD:=ai (pV ad.C_Going (ac 1) (dC<|.int 1) "left") (qA ad EE)
def yb(ad:Ad):Sd:=aJ ["plan","going","row"] (wo ad)
theorem NH{ad:Ad}{c b a:D}{M:Mem}{Q:DK}{E:DX}:yb ad [c,b,a] M Q E=wo ad (aG E) { nx:=λ_ M'=>drp Q .non M',rt:=drp Q } [ap c,ap b,ap a] M:=rfl
def pI(ad:Ad)(EE:DX):aD:=bn (aj (yb ad) EE 3<|aa (ac 0)<|aa (ac 1)<|aa (ac 2) af)
def rO(ad:Ad)(EE:DX):aD:=ai (aH (ak<|ah gW (ac 3)<|dC .non) (az<|ac 3) aE) (pI ad EE)
def qU(ad:Ad)(EE:DX):aD:=ai (ar (ao<|aj (xi ad) EE 3<|aa (ac 0)<|aa (ac 1)<|aa (ac 2) af)<|ag 3) (rO ad EE)
def qk(ad:Ad)(EE:DX):aD:=ai (ar (ah au (aX ad.C_Going (ac 1) "todo")<|dC<|.int 0)<|ag 2) (qU ad EE)
def gC(ad:Ad)(EE:DX):aD:=ai (aH (ak<|ah oLe (aX ad.C_Going (ac 1) "left")<|dC<|.int 0) (az<|dC .non) aE) (qk ad EE)
def oY(ad:Ad)(EE:DX):aD:=az (nI (ak<|ah C5 (ah au (ac 0)<|dC<|.int 4)<|aX ad.C_Going (ac 1) "unsettled") (ah au (ac 0)<|dC<|.int 4)<|dC .non)
def y8(ad:Ad)(EE:DX):aD:=ai (dq (ak<|ah gW (aX ad.C_Going (ac 1) "todo")<|dC .non)<|gC ad EE) (oY ad EE)
def wB(ad:Ad):Sd:=aJ ["plan","going","row","asked"] (y8 ad)
theorem Mz{ad:Ad}{b a:D}{M:Mem}{Q:DK}{E:DX}:wB ad [b,a] M Q E=y8 ad (aG E) { nx:=λ_ M'=>drp Q .non M',rt:=drp Q } [ap b,ap a,cm,cm] M:=rfl
def xV(ad:Ad)(EE:DX):aD:=az (nI (ak<|ah ja (aX ad.C_Going (ac 1) "todo")<|dC .non) (ah au (aX ad.C_Going (ac 1) "numbers")<|ah au (ac 0)<|dC<|.int 4)<|dC .non)
def xZ(ad:Ad):Sd:=aJ ["plan","going"] (xV ad)
theorem Mh{ad:Ad}{b a:D}{M:Mem}{Q:DK}{E:DX}:xZ ad [b,a] M Q E=xV ad (aG E) { nx:=λ_ M'=>drp Q .non M',rt:=drp Q } [ap b,ap a] M:=rfl
def yN(ad:Ad)(EE:DX):aD:=az (aZ (bG<|ao<|uA (ac 0) (cI<|dC<|.int 1)<|cI<|dC<|.int 3) ["stand"] [2,1,0] (ag 0) dG<|ao<|cP ad.C_Going "settled" (zj ad) ii 3 (ac 2)<|aa (ac 1)<|aa (ao<|aj (jA ad) ii 3<|aa (ah au (ac 3)<|dC<|.int 0)<|aa (ac 0)<|aa (ac 1) af) af)
def yQ(ad:Ad):Sd:=aJ ["case","going","thing"] (yN ad)
theorem LQ{ad:Ad}{c b a:D}{M:Mem}{Q:DK}{E:DX}:yQ ad [c,b,a] M Q E=yN ad (aG E) { nx:=λ_ M'=>drp Q .non M',rt:=drp Q } [ap c,ap b,ap a] M:=rfl
def rP(ad:Ad)(U3:Sd)(EE:DX):aD:=az (aK<|aa (dC<|.str "end")<|aa (aj (xZ ad) EE 2<|aa (ah au (ac 0)<|dC<|.int 0)<|aa (ac 1) af) af)
def qY(ad:Ad)(U3:Sd)(EE:DX):aD:=az (aK<|aa (dC<|.str "ask")<|aa (ac 3)<|aa (aj U3 EE 3<|aa (ac 0)<|aa (ah au (ac 4)<|dC<|.int 0)<|aa (ac 2) af)<|aa (aj U3 EE 3<|aa (ac 0)<|aa (ah au (ac 4)<|dC<|.int 1)<|aa (ac 2) af) af)
def qF(ad:Ad)(U3:Sd)(EE:DX):aD:=ai (ar (ao<|aj (yQ ad) EE 3<|aa (ac 0)<|aa (ac 1)<|aa (ac 3) af)<|ag 4) (qY ad U3 EE)
def pc(ad:Ad)(U3:Sd)(EE:DX):aD:=ai (bn<|cP ad.C_Ends "one_more" (BL ad) EE 1 (ac 2) af) (qF ad U3 EE)
def qb(ad:Ad)(U3:Sd)(EE:DX):aD:=ai (aH (ak<|ah ja (ac 3)<|dC .non) (rP ad U3 EE) aE) (pc ad U3 EE)
def wQ(ad:Ad)(U3:Sd)(EE:DX):aD:=ai (ar (ao<|aj (wB ad) EE 2<|aa (ah au (ac 0)<|dC<|.int 0)<|aa (ac 1) af)<|ag 3) (qb ad U3 EE)
def U3(ad:Ad):Nat->Sd
 |0=>λ_ _ _ _=>False
 |n+1=>aJ ["case","going","ends","asked","ways"] (wQ ad<|U3 ad n)
theorem LH{ad:Ad}{n:Nat}{c b a:D}{M:Mem}{Q:DK}{E:DX}:U3 ad (n+1) [c,b,a] M Q E=wQ ad (U3 ad n) (aG E) { nx:=λ_ M'=>drp Q .non M',rt:=drp Q } [ap c,ap b,ap a,cm,cm] M:=rfl
def oW(ad:Ad)(EE:DX):aD:=az (aj (U3 ad 24) EE 3<|aa (ac 0)<|aa (ao<|aj (y4 ad) EE 1<|aa (ac 0) af)<|aa (ac 2) af)
def p_(ad:Ad)(EE:DX):aD:=ai (bn<|cP ad.C_Ends "one_more" (BL ad) EE 1 (ac 2) af) (oW ad EE)
def r8(ad:Ad)(EE:DX):aD:=ai (ar (fT ad.C_Ends (Li ad) EE 2<|aa (ac 1) af)<|ag 2) (p_ ad EE)
def wW(ad:Ad)(EE:DX):aD:=ai (bn<|aj (tE ad) EE 1<|aa (ac 0) af) (r8 ad EE)
def xg(ad:Ad):Sd:=aJ ["case","limit","ends"] (wW ad)
theorem Ml{ad:Ad}{b a:D}{M:Mem}{Q:DK}{E:DX}:xg ad [b,a] M Q E=wW ad (aG E) { nx:=λ_ M'=>drp Q .non M',rt:=drp Q } [ap b,ap a,cm] M:=rfl
def EV(ad:Ad)(EE:DX):aD:=ai (ck ad.C_Outcome (ac 0) (ac 1) "verdict") (ai (ck ad.C_Outcome (ac 0) (ac 2) "sound")<|ck ad.C_Outcome (ac 0) (ac 3) "faulty")
def E8(ad:Ad):Sd:=aJ ["self","verdict","sound","faulty"] (EV ad)
theorem u_q0{ad:Ad}{e b c a:D}{M:Mem}{Q:DK}{E:DX}:E8 ad [e,b,c,a] M Q E=EV ad (aG E) { nx:=λ_ M'=>drp Q .non M',rt:=drp Q } [ap e,ap b,ap c,ap a] M:=rfl
def pC(ad:Ad)(EE:DX):aD:=bn (mW "list" bU (ac 4)<|aa (fT ad.C_Outcome (E8 ad) EE 4<|aa (ao<|aj (wU ad) EE 2<|aa (ac 2)<|aa (ah au (ah au (ac 6)<|dC<|.int 0)<|dC<|.int 1) af)<|aa (ac 7)<|aa (ac 8) af) af)
def rl(ad:Ad)(EE:DX):aD:=bn (mW "list" bU (ac 5)<|aa (aK<|aa (ah au (ah au (ac 6)<|dC<|.int 0)<|dC<|.int 3)<|aa (ac 7)<|aa (ah oOr (ac 8)<|ac 9) af) af)
def qI(ad:Ad)(EE:DX):aD:=ai (bn<|mW "list" bU (ac 5)<|aa (aK<|aa (ah au (ah au (ac 6)<|dC<|.int 0)<|dC<|.int 2)<|aa (ah oOr (ac 7)<|ac 9)<|aa (ac 8) af) af) (rl ad EE)
def p9(ad:Ad)(EE:DX):aD:=ai (ar (ah au (ac 3)<|ah au (ah au (ac 6)<|dC<|.int 0)<|dC<|.int 1)<|ag 9) (qI ad EE)
def qj(ad:Ad)(EE:DX):aD:=aH (ak<|ah bX (ah au (ah au (ac 6)<|dC<|.int 0)<|dC<|.int 0)<|dC<|.str "end") (pC ad EE) (p9 ad EE)
def rM(ad:Ad)(EE:DX):aD:=ai (ar (ah au (ac 6)<|dC<|.int 2)<|ag 8) (qj ad EE)
def pM(ad:Ad)(EE:DX):aD:=ai (ar (ah au (ac 6)<|dC<|.int 1)<|ag 7) (rM ad EE)
def gn(ad:Ad)(EE:DX):aD:=ai (ar (mW "list" zH (ac 5) af)<|ag 6) (pM ad EE)
def pq(ad:Ad)(EE:DX):aD:=ai (dq (dg<|ac 5)<|gn ad EE) (az<|ac 4)
def mB(ad:Ad)(EE:DX):aD:=ai (ar (bO<|aa (aK<|aa (aj (xg ad) EE 2<|aa (ac 0)<|aa (ac 1) af)<|aa (dC<|.int 0)<|aa (dC<|.int 0) af) af)<|ag 5) (pq ad EE)
def lK(ad:Ad)(EE:DX):aD:=ai (ar (bu fQ<|aa (ao<|aZ (jE<|aa (ao<|aj (jC ad) EE 1<|aa (ac 0) af) af) ["number","thing"] [] (fG 2<|b6 (ag 0)<|b6 (ag 1) eY) dG<|aK<|aa (ac 1)<|aa (ah K0 (dC<|.int 1)<|ac 0) af) af)<|ag 3) (ai (ar (bO af)<|ag 4)<|mB ad EE)
def wN(ad:Ad)(EE:DX):aD:=ai (ar (ao<|aj (tE ad) EE 1<|aa (ac 0) af)<|ag 2) (lK ad EE)
def xN(ad:Ad):Sd:=aJ ["case","limit","two","bit_of","found","waiting","here","sound","faulty","bit"] (wN ad)
theorem N_{ad:Ad}{b a:D}{M:Mem}{Q:DK}{E:DX}:xN ad [b,a] M Q E=wN ad (aG E) { nx:=λ_ M'=>drp Q .non M',rt:=drp Q } [ap b,ap a,cm,cm,cm,cm,cm,cm,cm,cm] M:=rfl
def wJ(ad:Ad)(EE:DX):aD:=az (aZ (fE<|aa (mW "int" lA (ac 0) af) af) ["number"] [0] (ag 0) (ak<|ah bX (ah J2 (ah KO (ac 1)<|ac 0)<|dC<|.int 1)<|dC<|.int 1)<|ac 0)
def uw(ad:Ad):Sd:=aJ ["bits"] (wJ ad)
theorem LO{ad:Ad}{a:D}{M:Mem}{Q:DK}{E:DX}:uw ad [a] M Q E=wJ ad (aG E) { nx:=λ_ M'=>drp Q .non M',rt:=drp Q } [ap a] M:=rfl
def vA(ad:Ad)(EE:DX):aD:=ai (ar (ac 3)<|ag 2) (ar (ac 4)<|ag 3)
def ni(ad:Ad)(EE:DX):aD:=ai (ar (ah cZ (ac 2)<|ac 3)<|ag 4) (vA ad EE)
def vN(ad:Ad)(EE:DX):aD:=az (aK<|aa (ah gY (ac 0)<|ac 2)<|aa (ah gY (ac 1)<|ac 2) af)
def wj(ad:Ad)(EE:DX):aD:=ai (dq (ak<|ah jy (ac 3)<|dC<|.int 0)<|ni ad EE) (vN ad EE)
def vM(ad:Ad)(EE:DX):aD:=ai (ar (ah cZ (ac 0)<|ac 1)<|ag 3) (wj ad EE)
def F4(ad:Ad)(EE:DX):aD:=ai (ar (ac 1)<|ag 2) (vM ad EE)
def F_(ad:Ad):Sd:=aJ ["n","d","divisor","rest","behind"] (F4 ad)
theorem u_q1{ad:Ad}{b a:D}{M:Mem}{Q:DK}{E:DX}:F_ ad [b,a] M Q E=F4 ad (aG E) { nx:=λ_ M'=>drp Q .non M',rt:=drp Q } [ap b,ap a,cm,cm,cm] M:=rfl
def qa(ad:Ad)(EE:DX):aD:=bn (mW "list" bU (ac 1)<|aa (ah cG (ah au (ac 1)<|vx<|dC<|.int 1)<|ah aW (ac 2)<|dC<|.int 1) af)
def qu(ad:Ad)(EE:DX):aD:=ai (cF (fE<|aa (ac 0) af) (ag 2)<|qa ad EE) (az<|ac 1)
def yk(ad:Ad)(EE:DX):aD:=ai (ar (bO<|aa (dC<|.int 1) af)<|ag 1) (qu ad EE)
def sD(ad:Ad):Sd:=aJ ["count","told","number"] (yk ad)
theorem O8{ad:Ad}{a:D}{M:Mem}{Q:DK}{E:DX}:sD ad [a] M Q E=yk ad (aG E) { nx:=λ_ M'=>drp Q .non M',rt:=drp Q } [ap a,cm,cm] M:=rfl
def pR(ad:Ad)(EE:DX):aD:=sU (ac 3) (ac 10) (ah cG (ah cG (ac 9)<|ah au (ac 5)<|ah fF (bu bK<|aa (ac 7) af)<|dC<|.int 1)<|ah au (ac 5)<|bu bK<|aa (ac 8) af) oy
def pQ(ad:Ad)(EE:DX):aD:=sU (ac 3) (ac 10) (ah cG (ah cG (ac 9)<|ah au (ac 5)<|bu bK<|aa (ac 7) af)<|ah au (ac 5)<|ah fF (bu bK<|aa (ac 8) af)<|dC<|.int 1) fF
def lj(ad:Ad)(EE:DX):aD:=ai (cF (bG<|ac 7) (ag 10)<|pR ad EE) (cF (bG<|ac 8) (ag 10)<|pQ ad EE)
def k9(ad:Ad)(EE:DX):aD:=ai (ar (ah gY (ah au (ac 5)<|vx<|dC<|.int 1)<|ah au (ac 5)<|ao<|ah aW (bu bK<|aa (ac 7) af)<|bu bK<|aa (ac 8) af)<|ag 9) (lj ad EE)
def k6(ad:Ad)(EE:DX):aD:=ai (ar (ao<|aj (uw ad) EE 1<|aa (aX ad.C_Outcome (ac 6) "sound") af)<|ag 8) (k9 ad EE)
def gk(ad:Ad)(EE:DX):aD:=ai (ar (ao<|aj (uw ad) EE 1<|aa (aX ad.C_Outcome (ac 6) "faulty") af)<|ag 7) (k6 ad EE)
def kx(ad:Ad)(EE:DX):aD:=ai (cF (bG<|ac 4) (ag 6)<|gk ad EE) (az<|ac 3)
def lh(ad:Ad)(EE:DX):aD:=ai (ar (ao<|aj (sD ad) EE 1<|aa (bu bK<|aa (ac 2) af) af)<|ag 5) (kx ad EE)
def ko(ad:Ad)(EE:DX):aD:=ai (cz (dP 4<|aZ (bG<|ao<|aj (xN ad) EE 2<|aa (ac 0)<|aa (ac 1) af) ["one"] [] (ag 0) (ak<|ah bX (aX ad.C_Outcome (ac 0) "verdict")<|dC<|.str "faulty")<|ac 0) 4) (lh ad EE)
def iV(ad:Ad)(EE:DX):aD:=ai (dP 3<|aZ (bG<|ac 2) ["thing"] [] (ag 0) dG<|dC<|.int 0) (ko ad EE)
def xz(ad:Ad)(EE:DX):aD:=ai (ar (ao<|aj (jC ad) EE 1<|aa (ac 0) af)<|ag 2) (iV ad EE)
def sC(ad:Ad):Sd:=aJ ["case","limit","things","told","ends","many","end","faulty","sound","each","number"] (xz ad)
theorem MK{ad:Ad}{b a:D}{M:Mem}{Q:DK}{E:DX}:sC ad [b,a] M Q E=xz ad (aG E) { nx:=λ_ M'=>drp Q .non M',rt:=drp Q } [ap b,ap a,cm,cm,cm,cm,cm,cm,cm,cm,cm] M:=rfl
def pj(ad:Ad)(EE:DX):aD:=aH (A6 (ak<|ah jy (ah au (ac 2)<|dC<|.int 0)<|ah au (ah au (ac 0)<|dC<|.int 0)<|dC<|.int 0)<|ak<|ah jy (ao<|aj (jC ad) EE 1<|aa (ac 2) af)<|ac 4) (ju ad.C_NoCase EE) aE
def lB(ad:Ad)(EE:DX):aD:=az (aZ (jE<|aa (ac 4) af) ["number","thing"] [5,3] (fG 2<|b6 (ag 0)<|b6 (ag 1) eY) dG<|aK<|aa (ac 1)<|aa (ao<|aj (F_ ad) ii 2<|aa (bu yJ<|aa (ao<|aZ (bG<|ac 3) ["orders"] [0] (ag 0) dG<|ah au (ac 0)<|ac 1) af)<|aa (ac 2) af) af)
def kZ(ad:Ad)(EE:DX):aD:=ai (ar (ah cG (ah au (ao<|aj (sD ad) EE 1<|aa (bu bK<|aa (ac 4) af) af)<|vx<|dC<|.int 1)<|bu bK<|aa (ac 0) af)<|ag 5) (lB ad EE)
def lz(ad:Ad)(EE:DX):aD:=ai (cF (bG<|ac 0) (ag 2)<|pj ad EE) (kZ ad EE)
def kY(ad:Ad)(EE:DX):aD:=ai (ar (ao<|aj (jC ad) EE 1<|aa (ah au (ac 0)<|dC<|.int 0) af)<|ag 4) (lz ad EE)
def xW(ad:Ad)(EE:DX):aD:=ai (ar (ao<|aZ (bG<|ac 0) ["case"] [1] (ag 0) dG<|ao<|aj (sC ad) ii 2<|aa (ac 0)<|aa (ac 1) af)<|ag 3) (kY ad EE)
def xM(ad:Ad):Sd:=aJ ["cases","limit","case","held","things","whole"] (xW ad)
theorem LP{ad:Ad}{b a:D}{M:Mem}{Q:DK}{E:DX}:xM ad [b,a] M Q E=xW ad (aG E) { nx:=λ_ M'=>drp Q .non M',rt:=drp Q } [ap b,ap a,cm,cm,cm,cm] M:=rfl
def yd(ad:Ad)(EE:DX):aD:=az (aj (xM ad) EE 2<|aa (ao<|bO<|aa (ac 0) af)<|aa (ac 1) af)
def jz(ad:Ad):Sd:=aJ ["case","limit"] (yd ad)
theorem LD{ad:Ad}{b a:D}{M:Mem}{Q:DK}{E:DX}:jz ad [b,a] M Q E=yd ad (aG E) { nx:=λ_ M'=>drp Q .non M',rt:=drp Q } [ap b,ap a] M:=rfl
def yo(ad:Ad)(EE:DX):aD:=ai (ar (ah cZ (ah aW (ah aW (ah cG (ac 0)<|dC<|.int 6364136223846793005)<|ah cG (ac 1)<|dC<|.int 1442695040888963407)<|dC<|.int 97)<|dC<|.int 18446744073709551616)<|ag 2) (ai (ar (ah cZ (ah cG (ah Mv (ac 2)<|ah gY (ac 2)<|dC<|.int 2147483648)<|dC<|.int 2685821657736338717)<|dC<|.int 18446744073709551616)<|ag 2)<|az<|ah gY (ac 2)<|dC<|.int 1048576)
def mK(ad:Ad):Sd:=aJ ["cell","turn","one"] (yo ad)
theorem N3{ad:Ad}{b a:D}{M:Mem}{Q:DK}{E:DX}:mK ad [b,a] M Q E=yo ad (aG E) { nx:=λ_ M'=>drp Q .non M',rt:=drp Q } [ap b,ap a,cm] M:=rfl
def xU(ad:Ad)(EE:DX):aD:=ai (ar (dC<|.int 7)<|ag 1) (ai (cF (bG<|ao<|uA (ac 0) bI<|cI<|dC<|.int 63) (ag 2)<|ar (ah cZ (ah aW (ah cG (ac 1)<|dC<|.int 1000003)<|ac 2)<|dC<|.int 18446744073709551616)<|ag 1)<|az<|bO<|aa (bu eJ<|aa (ao<|uA (ac 0) bI<|cI<|dC<|.int 63) af)<|aa (dC<|.int 0)<|aa (dC<|.int 0)<|aa (ac 1) af)
def xL(ad:Ad):Sd:=aJ ["script","seed","cell"] (xU ad)
theorem Nr{ad:Ad}{a:D}{M:Mem}{Q:DK}{E:DX}:xL ad [a] M Q E=xU ad (aG E) { nx:=λ_ M'=>drp Q .non M',rt:=drp Q } [ap a,cm,cm] M:=rfl
def x_(ad:Ad)(EE:DX):aD:=ai (ar (ah aW (ah au (ac 0)<|dC<|.int 1)<|dC<|.int 1)<|cT (ac 0)<|dC<|.int 1) (ai (aH (vY (ak<|ah bX (ah au (ac 0)<|dC<|.int 2)<|dC<|.int 0)<|ak<|ah jy (ah au (ac 0)<|dC<|.int 0)<|ao<|bO af) (ai (ar (mW "list" zH (ah au (ac 0)<|dC<|.int 0)<|aa (dC<|.int 0) af)<|ag 2)<|ai (aH (ak<|ah uJ (ac 2)<|ah JI (dC<|.int 10)<|dC<|.int 18) (az<|ah cZ (ao<|aj (mK ad) EE 2<|aa (ac 2)<|aa (ah au (ac 0)<|dC<|.int 1) af)<|ac 1) aE)<|ar (ac 2)<|cT (ac 0)<|dC<|.int 2) aE)<|ai (aH (ak<|ah bX (ah au (ac 0)<|dC<|.int 2)<|dC<|.int 0) (az<|ah cZ (ao<|aj (mK ad) EE 2<|aa (ah au (ac 0)<|dC<|.int 3)<|aa (ah au (ac 0)<|dC<|.int 1) af)<|ac 1) aE)<|ai (ar (ah cZ (ah au (ac 0)<|dC<|.int 2)<|ac 1)<|ag 3)<|ai (ar (ah gY (ah au (ac 0)<|dC<|.int 2)<|ac 1)<|cT (ac 0)<|dC<|.int 2)<|az<|ac 3)
def bb(ad:Ad):Sd:=aJ ["pot","many","cell","found"] (x_ ad)
theorem ML{ad:Ad}{b a:D}{M:Mem}{Q:DK}{E:DX}:bb ad [b,a] M Q E=x_ ad (aG E) { nx:=λ_ M'=>drp Q .non M',rt:=drp Q } [ap b,ap a,cm,cm] M:=rfl
def xX(ad:Ad)(EE:DX):aD:=ai (ar (ao<|aj (bb ad) EE 2<|aa (ac 0)<|aa (dC<|.int 26) af)<|ag 2) (ai (ar (bO af)<|ag 3)<|ai (cF (fE<|aa (ac 1) af) (ag 4)<|ai (ar (ah au (dC<|.str "abcdefghijklmnopqrstuvwxyz")<|ah cZ (ah aW (ac 2)<|ah cG (dC<|.int 7)<|ac 4)<|dC<|.int 26)<|ag 5)<|bn<|mW "list" bU (ac 3)<|aa (ah cG (ac 5)<|ah aW (dC<|.int 1)<|ao<|aj (bb ad) EE 2<|aa (ac 0)<|aa (dC<|.int 8) af) af)<|az<|bu cD<|aa (ac 3) af)
def y3(ad:Ad):Sd:=aJ ["pot","many","turn","names","k","sign"] (xX ad)
theorem MF{ad:Ad}{b a:D}{M:Mem}{Q:DK}{E:DX}:y3 ad [b,a] M Q E=xX ad (aG E) { nx:=λ_ M'=>drp Q .non M',rt:=drp Q } [ap b,ap a,cm,cm,cm,cm] M:=rfl
def yE(ad:Ad)(EE:DX):aD:=ai (ar (ac 1)<|fG 3<|b6 (ag 2)<|b6 (ag 3)<|b6 (ag 4) eY) (ai (ar (ao<|bO<|aa (dC<|.str "put")<|aa (dC<|.str "sum")<|aa (dC<|.str "by")<|aa (dC<|.str "less")<|aa (dC<|.str "same")<|aa (dC<|.str "sum")<|aa (dC<|.str "put")<|aa (dC<|.str "take")<|aa (dC<|.str "pick") af)<|ag 5)<|ai (ar (ah au (ac 5)<|ao<|aj (bb ad) EE 2<|aa (ac 0)<|aa (nI (ak<|ah sy (ac 4)<|dC<|.int 0) (dC<|.int 9)<|dC<|.int 7) af)<|ag 6)<|ai (ar (ah au (ac 3)<|ao<|aj (bb ad) EE 2<|aa (ac 0)<|aa (bu bK<|aa (ac 3) af) af)<|ag 7)<|ai (aH (ak<|ah bX (ac 6)<|dC<|.str "put") (az<|aK<|aa (ac 6)<|aa (ac 7)<|aa (aj (bb ad) EE 2<|aa (ac 0)<|aa (ac 2) af) af) aE)<|ai (aH (ak<|ah bX (ac 6)<|dC<|.str "take") (az<|aK<|aa (ac 6)<|aa (ac 7)<|aa (aj (bb ad) EE 2<|aa (ac 0)<|aa (ac 4) af) af) aE)<|ai (ar (ah au (ac 3)<|ao<|aj (bb ad) EE 2<|aa (ac 0)<|aa (bu bK<|aa (ac 3) af) af)<|ag 8)<|ai (aH (ak<|ah bX (ac 6)<|dC<|.str "pick") (az<|aK<|aa (ac 6)<|aa (ac 7)<|aa (ac 8) af) aE)<|az<|aK<|aa (ac 6)<|aa (ac 7)<|aa (ac 8)<|aa (ah au (ac 3)<|ao<|aj (bb ad) EE 2<|aa (ac 0)<|aa (bu bK<|aa (ac 3) af) af) af)
def sX(ad:Ad):Sd:=aJ ["pot","told","m","names","many","ways","way","x","y"] (yE ad)
theorem Nm{ad:Ad}{b a:D}{M:Mem}{Q:DK}{E:DX}:sX ad [b,a] M Q E=yE ad (aG E) { nx:=λ_ M'=>drp Q .non M',rt:=drp Q } [ap b,ap a,cm,cm,cm,cm,cm,cm,cm] M:=rfl
def wA(ad:Ad)(U8 U7:Sd)(EE:DX):aD:=ai (ar (ac 1)<|fG 3<|b6 (ag 4)<|b6 (ag 5)<|b6 (ag 6) eY) (ai (ar (ah au (ac 5)<|ao<|aj (bb ad) EE 2<|aa (ac 0)<|aa (bu bK<|aa (ac 5) af) af)<|ag 7)<|ai (ar (ao<|aj U7 EE 5<|aa (ac 0)<|aa (ac 1)<|aa (ac 2)<|aa (ah aW (ac 3)<|dC<|.int 1)<|aa (dC<|.int 5) af)<|ag 8)<|ai (ar (ao<|aj (bb ad) EE 2<|aa (ac 0)<|aa (dC<|.int 5) af)<|ag 9)<|ai (aH (ak<|ah uJ (ac 9)<|dC<|.int 2) (az<|bO<|aa (aK<|aa (dC<|.str "if")<|aa (ac 7)<|aa (ac 8)<|aa (aj U7 EE 5<|aa (ac 0)<|aa (ac 1)<|aa (ac 2)<|aa (ah aW (ac 3)<|dC<|.int 1)<|aa (dC<|.int 5) af) af) af) aE)<|ai (aH (ak<|ah bX (ac 9)<|dC<|.int 2) (az<|bO<|aa (aK<|aa (dC<|.str "again")<|aa (ac 7)<|aa (ac 8) af) af) aE)<|ai (ar (ah au (ac 5)<|ao<|aj (bb ad) EE 2<|aa (ac 0)<|aa (bu bK<|aa (ac 5) af) af)<|ag 10)<|az<|bO<|aa (aK<|aa (dC<|.str "put")<|aa (ac 7)<|aa (aj (bb ad) EE 2<|aa (ac 0)<|aa (bu Cw<|aa (ac 4)<|aa (dC<|.int 9) af) af) af)<|aa (aK<|aa (dC<|.str "put")<|aa (ac 10)<|aa (ah fF (ac 4)<|dC<|.int 1) af)<|aa (aK<|aa (dC<|.str "again")<|aa (ac 7)<|aa (ah aW (ac 8)<|aK<|aa (aK<|aa (dC<|.str "sum")<|aa (ac 7)<|aa (ac 7)<|aa (ac 10) af) af) af) af)
def xm(ad:Ad)(U8 U7:Sd)(EE:DX):aD:=ai (ar (bO af)<|ag 5) (ai (cF (fE<|aa (ao<|aj (bb ad) EE 2<|aa (ac 0)<|aa (ac 4) af) af) (ag 6)<|aH (vY (ak<|ah sy (ah au (ac 2)<|dC<|.int 0)<|dC<|.int 4)<|vY (ak<|ah uJ (ac 3)<|dC<|.int 4)<|ak<|ah bX (ao<|aj (bb ad) EE 2<|aa (ac 0)<|aa (dC<|.int 4) af)<|dC<|.int 0) (ai (ar (ah fF (ah au (ac 2)<|dC<|.int 0)<|dC<|.int 4)<|cT (ac 2)<|dC<|.int 0)<|ar (ah aW (ac 5)<|ao<|aj U8 EE 4<|aa (ac 0)<|aa (ac 1)<|aa (ac 2)<|aa (ac 3) af)<|ag 5)<|aH (ak<|ah sy (ah au (ac 2)<|dC<|.int 0)<|dC<|.int 0) (ai (ar (ah fF (ah au (ac 2)<|dC<|.int 0)<|dC<|.int 1)<|cT (ac 2)<|dC<|.int 0)<|bn<|mW "list" bU (ac 5)<|aa (ao<|aj (sX ad) EE 2<|aa (ac 0)<|aa (ac 1) af) af) aE)<|az<|bu cD<|aa (ac 5) af)
mutual
def U8(ad:Ad):Nat->Sd
 |0=>λ_ _ _ _=>False
 |n+1=>aJ ["pot","told","room","deep","m","names","many","x","first","way","y"] (wA ad (U8 ad n)<|U7 ad n)
def U7(ad:Ad):Nat->Sd
 |0=>λ_ _ _ _=>False
 |n+1=>aJ ["pot","told","room","deep","most","rows","k"] (xm ad (U8 ad n)<|U7 ad n)
end
theorem Nw{ad:Ad}{n:Nat}{e b c a:D}{M:Mem}{Q:DK}{E:DX}:U8 ad (n+1) [e,b,c,a] M Q E=wA ad (U8 ad n) (U7 ad n) (aG E) { nx:=λ_ M'=>drp Q .non M',rt:=drp Q } [ap e,ap b,ap c,ap a,cm,cm,cm,cm,cm,cm,cm] M:=rfl
theorem Nx{ad:Ad}{n:Nat}{c a f b e:D}{M:Mem}{Q:DK}{E:DX}:U7 ad (n+1) [c,a,f,b,e] M Q E=xm ad (U8 ad n) (U7 ad n) (aG E) { nx:=λ_ M'=>drp Q .non M',rt:=drp Q } [ap c,ap a,ap f,ap b,ap e,cm,cm] M:=rfl
def w_(ad:Ad)(EE:DX):aD:=ai (ar (ah au (ao<|bO<|aa (dC<|.int 2)<|aa (dC<|.int 3)<|aa (ah aW (dC<|.int 2)<|ao<|aj (bb ad) EE 2<|aa (ac 0)<|aa (dC<|.int 9) af)<|aa (ah aW (dC<|.int 2)<|ao<|aj (bb ad) EE 2<|aa (ac 0)<|aa (dC<|.int 996) af) af)<|ao<|aj (bb ad) EE 2<|aa (ac 0)<|aa (dC<|.int 4) af)<|ag 2) (ai (ar (ao<|aj (y3 ad) EE 2<|aa (ac 0)<|aa (ah aW (dC<|.int 1)<|ao<|aj (bb ad) EE 2<|aa (ac 0)<|aa (ah au (ao<|bO<|aa (dC<|.int 3)<|aa (dC<|.int 5)<|aa (dC<|.int 12) af)<|ao<|aj (bb ad) EE 2<|aa (ac 0)<|aa (dC<|.int 3) af) af) af)<|ag 3)<|ai (ar (ah au (ao<|bO<|aa (dC<|.int 0)<|aa (ah aW (dC<|.int 1)<|ao<|aj (bb ad) EE 2<|aa (ac 0)<|aa (dC<|.int 4) af)<|aa (ao<|aj (bb ad) EE 2<|aa (ac 0)<|aa (dC<|.int 41) af) af)<|ao<|aj (bb ad) EE 2<|aa (ac 0)<|aa (dC<|.int 3) af)<|ag 4)<|ai (ar (ao<|aj (U7 ad 24) EE 5<|aa (ac 0)<|aa (aK<|aa (ac 2)<|aa (ac 3)<|aa (ac 4) af)<|aa (bO<|aa (ac 1) af)<|aa (dC<|.int 0)<|aa (ah au (ao<|bO<|aa (dC<|.int 6)<|aa (dC<|.int 12)<|aa (dC<|.int 30) af)<|ao<|aj (bb ad) EE 2<|aa (ac 0)<|aa (dC<|.int 3) af) af)<|ag 5)<|az<|aK<|aa (ac 2)<|aa (ac 3)<|aa (ac 4)<|aa (ac 5)<|aa (ah au (ac 3)<|ao<|aj (bb ad) EE 2<|aa (ac 0)<|aa (bu bK<|aa (ac 3) af) af) af)
def yA(ad:Ad):Sd:=aJ ["pot","most","m","names","many","rows"] (w_ ad)
theorem LN{ad:Ad}{b a:D}{M:Mem}{Q:DK}{E:DX}:yA ad [b,a] M Q E=w_ ad (aG E) { nx:=λ_ M'=>drp Q .non M',rt:=drp Q } [ap b,ap a,cm,cm,cm,cm] M:=rfl
def y9(ad:Ad)(EE:DX):aD:=ai (ar (bu cD<|aa (ao<|aZ (bG<|ah au (ac 1)<|dC<|.int 1) ["name"] [0,1] (ag 0) dG<|ao<|aj (bb ad) ii 2<|aa (ac 1)<|aa (ah au (ac 2)<|dC<|.int 0) af) af)<|ag 2) (az<|aK<|aa (ac 2)<|aa (bu cD<|aa (ao<|aZ (fE<|aa (ah au (ac 1)<|dC<|.int 2) af) ["k"] [0,1] (ag 0) dG<|ao<|aj (bb ad) ii 2<|aa (ac 1)<|aa (ah au (ac 2)<|dC<|.int 0) af) af) af)
def xp(ad:Ad):Sd:=aJ ["pot","plan","numbers"] (y9 ad)
theorem MS{ad:Ad}{b a:D}{M:Mem}{Q:DK}{E:DX}:xp ad [b,a] M Q E=y9 ad (aG E) { nx:=λ_ M'=>drp Q .non M',rt:=drp Q } [ap b,ap a,cm] M:=rfl
def vJ(ad:Ad)(EE:DX):aD:=ai (ar (ac 0)<|vH 5<|b6 (ag 2)<|b6 (ag 3)<|b6 (ag 4)<|b6 (ag 5)<|b6 (ag 6) eY) (ai (aH (ak<|ah bX (ah au (ac 1)<|dC<|.int 0)<|dC<|.str "put") (az<|ah au (ac 1)<|dC<|.int 2) aE)<|ai (aH (ak<|ah bX (ah au (ac 1)<|dC<|.int 0)<|dC<|.str "take") (az<|ah au (ac 3)<|ah au (ac 1)<|dC<|.int 2) aE)<|ai (aH (ak<|ah bX (ah au (ac 1)<|dC<|.int 0)<|dC<|.str "pick") (az<|ah au (ac 3)<|ah cZ (ah au (ac 2)<|ah au (ac 1)<|dC<|.int 2)<|bu bK<|aa (ac 3) af) aE)<|ai (ar (ah au (ac 2)<|ah au (ac 1)<|dC<|.int 2)<|ag 7)<|ai (ar (ah au (ac 2)<|ah au (ac 1)<|dC<|.int 3)<|ag 8)<|ai (aH (ak<|ah bX (ah au (ac 1)<|dC<|.int 0)<|dC<|.str "sum") (az<|ah cZ (ao<|ah aW (ac 7)<|ac 8)<|ac 6) aE)<|ai (aH (ak<|ah bX (ah au (ac 1)<|dC<|.int 0)<|dC<|.str "by") (az<|ah cZ (ah cG (ac 7)<|ac 8)<|ac 6) aE)<|ai (aH (ak<|ah bX (ah au (ac 1)<|dC<|.int 0)<|dC<|.str "less") (az<|nI (ak<|ah uJ (ac 7)<|ac 8) (dC<|.int 1)<|dC<|.int 0) aE)<|az<|nI (ak<|ah bX (ac 7)<|ac 8) (dC<|.int 1)<|dC<|.int 0)
def B1(ad:Ad):Sd:=aJ ["gone","row","numbers","pieces","steps","most","m","one","other"] (vJ ad)
theorem Dz{ad:Ad}{b a:D}{M:Mem}{Q:DK}{E:DX}:B1 ad [b,a] M Q E=vJ ad (aG E) { nx:=λ_ M'=>drp Q .non M',rt:=drp Q } [ap b,ap a,cm,cm,cm,cm,cm,cm,cm] M:=rfl
def yG(ad:Ad)(EE:DX):aD:=ai (aH (ak<|ah bX (bu bK<|aa (ah au (ac 0)<|dC<|.int 2) af)<|ah au (ac 0)<|dC<|.int 3) (az<|dC<|.bl eC) aE) (ai (bn<|mW "list" bU (ah au (ac 0)<|dC<|.int 2)<|aa (aK<|aa (ac 1)<|aa (ac 2) af) af)<|az<|dC<|.bl true)
def jN(ad:Ad):Sd:=aJ ["gone","place","number"] (yG ad)
theorem Nu{ad:Ad}{c b a:D}{M:Mem}{Q:DK}{E:DX}:jN ad [c,b,a] M Q E=yG ad (aG E) { nx:=λ_ M'=>drp Q .non M',rt:=drp Q } [ap c,ap b,ap a] M:=rfl
def rE(ad:Ad)(U1 U0:Sd)(EE:DX):aD:=aH (h8<|dg<|ao<|aj U0 EE 3<|aa (ac 0)<|aa (ah au (ac 1)<|dC<|.int 2)<|aa (ah aW (ac 2)<|aK<|aa (ac 3) af) af) (az<|dC<|.bl eC) aE
def rj(ad:Ad)(U1 U0:Sd)(EE:DX):aD:=ai (aH (ak<|ah bX (ac 4)<|dC<|.int 0) (az<|dC<|.bl true) aE) (rE ad U1 U0 EE)
def o_(ad:Ad)(U1 U0:Sd)(EE:DX):aD:=ai (aH (h8<|dg<|ao<|aj (jN ad) EE 3<|aa (ac 0)<|aa (ah aW (ac 2)<|aK<|aa (ac 3) af)<|aa (ac 4) af) (az<|dC<|.bl eC) aE) (rj ad U1 U0 EE)
def iz(ad:Ad)(U1 U0:Sd)(EE:DX):aD:=ai (ar (nI (ak<|ah bX (ah au (ah au (ac 0)<|dC<|.int 0)<|ah au (ac 1)<|dC<|.int 1)<|dC<|.int 0) (dC<|.int 0)<|dC<|.int 1)<|ag 4) (o_ ad U1 U0 EE)
def y1(ad:Ad)(U1 U0:Sd)(EE:DX):aD:=ai (cF (fE<|aa (ah aW (ah au (ac 0)<|dC<|.int 3)<|dC<|.int 1) af) (ag 3)<|iz ad U1 U0 EE) (az<|dC<|.bl eC)
def qM(ad:Ad)(U1 U0:Sd)(EE:DX):aD:=aH (h8<|dg<|ao<|aj U1 EE 3<|aa (ac 0)<|aa (ac 4)<|aa (ac 5) af) (az<|dC<|.bl eC) aE
def qQ(ad:Ad)(U1 U0:Sd)(EE:DX):aD:=aH (A6 (h8<|dg<|ao<|aj (jN ad) EE 3<|aa (ac 0)<|aa (ac 5)<|aa (ac 6) af)<|h8<|dg<|ao<|aj U0 EE 3<|aa (ac 0)<|aa (ac 7)<|aa (ah aW (ac 5)<|aK<|aa (ac 6) af) af) (az<|dC<|.bl eC) aE
def qE(ad:Ad)(U1 U0:Sd)(EE:DX):aD:=ai (ar (ah au (ao<|bO<|aa (ah au (ac 4)<|dC<|.int 3)<|aa (ah au (ac 4)<|dC<|.int 2) af)<|ac 6)<|ag 7) (qQ ad U1 U0 EE)
def kX(ad:Ad)(U1 U0:Sd)(EE:DX):aD:=ai (ar (nI (ak<|ah bX (ah au (ah au (ac 0)<|dC<|.int 0)<|ah au (ac 4)<|dC<|.int 1)<|dC<|.int 0) (dC<|.int 0)<|dC<|.int 1)<|ag 6) (qE ad U1 U0 EE)
def rD(ad:Ad)(U1 U0:Sd)(EE:DX):aD:=ar (ac 8) (cT (ah au (ac 0)<|dC<|.int 0)<|ah au (ac 4)<|dC<|.int 1)
def kQ(ad:Ad)(U1 U0:Sd)(EE:DX):aD:=ai (aH (h8<|dg<|ao<|aj (jN ad) EE 3<|aa (ac 0)<|aa (ac 5)<|aa (ac 8) af) (az<|dC<|.bl eC) aE) (rD ad U1 U0 EE)
def k_(ad:Ad)(U1 U0:Sd)(EE:DX):aD:=ai (ar (ao<|aj (B1 ad) EE 2<|aa (ac 0)<|aa (ac 4) af)<|ag 8) (kQ ad U1 U0 EE)
def kG(ad:Ad)(U1 U0:Sd)(EE:DX):aD:=aH (ak<|ah bX (ah au (ac 4)<|dC<|.int 0)<|dC<|.str "if") (kX ad U1 U0 EE) (k_ ad U1 U0 EE)
def pi(ad:Ad)(U1 U0:Sd)(EE:DX):aD:=aH (ak<|ah bX (ah au (ac 4)<|dC<|.int 0)<|dC<|.str "again") (qM ad U1 U0 EE) (kG ad U1 U0 EE)
def mv(ad:Ad)(U1 U0:Sd)(EE:DX):aD:=ai (ar (ah aW (ac 2)<|aK<|aa (ac 3) af)<|ag 5) (pi ad U1 U0 EE)
def yq(ad:Ad)(U1 U0:Sd)(EE:DX):aD:=ai (cF (jE<|aa (ac 1) af) (fG 2<|b6 (ag 3)<|b6 (ag 4) eY)<|mv ad U1 U0 EE) (az<|dC<|.bl true)
mutual
def U1(ad:Ad):Nat->Sd
 |0=>λ_ _ _ _=>False
 |n+1=>aJ ["gone","row","place","turn","look"] (y1 ad (U1 ad n)<|U0 ad n)
def U0(ad:Ad):Nat->Sd
 |0=>λ_ _ _ _=>False
 |n+1=>aJ ["gone","rows","place","at","row","here","look","inner","number"] (yq ad (U1 ad n)<|U0 ad n)
end
theorem Mj{ad:Ad}{n:Nat}{c b a:D}{M:Mem}{Q:DK}{E:DX}:U1 ad (n+1) [c,b,a] M Q E=y1 ad (U1 ad n) (U0 ad n) (aG E) { nx:=λ_ M'=>drp Q .non M',rt:=drp Q } [ap c,ap b,ap a,cm,cm] M:=rfl
theorem O9{ad:Ad}{n:Nat}{c b a:D}{M:Mem}{Q:DK}{E:DX}:U0 ad (n+1) [c,b,a] M Q E=yq ad (U1 ad n) (U0 ad n) (aG E) { nx:=λ_ M'=>drp Q .non M',rt:=drp Q } [ap c,ap b,ap a,cm,cm,cm,cm,cm,cm] M:=rfl
def xk(ad:Ad)(EE:DX):aD:=ai (ar (bO<|aa (fZ<|aa (ah au (ac 0)<|dC<|.int 1)<|aa (ah au (ac 1)<|dC<|.int 0) af)<|aa (ah au (ac 1)<|dC<|.int 1)<|aa (bO af)<|aa (ac 2)<|aa (ah au (ac 0)<|dC<|.int 0) af)<|ag 3) (ai (aH (h8<|dg<|ao<|aj (U0 ad 24) EE 3<|aa (ac 3)<|aa (ah au (ac 0)<|dC<|.int 3)<|aa (aK af) af) (az<|aK<|aa (ah au (ac 3)<|dC<|.int 2)<|aa (dC .non) af) aE)<|az<|aK<|aa (ah au (ac 3)<|dC<|.int 2)<|aa (bu cD<|aa (ao<|aZ (bG<|ah au (ac 0)<|dC<|.int 1) ["name"] [3] (ag 0) dG<|ah au (ah au (ac 1)<|dC<|.int 0)<|ac 0) af) af)
def mC(ad:Ad):Sd:=aJ ["plan","stand","most","gone"] (xk ad)
theorem LB{ad:Ad}{c b a:D}{M:Mem}{Q:DK}{E:DX}:mC ad [c,b,a] M Q E=xk ad (aG E) { nx:=λ_ M'=>drp Q .non M',rt:=drp Q } [ap c,ap b,ap a,cm] M:=rfl
def yc(ad:Ad)(EE:DX):aD:=az (bu cD<|aa (ao<|aZ (bG<|ac 0) ["row"] [] (ag 0) (ak<|ah vV (ah au (ac 0)<|dC<|.int 0)<|ao<|bO<|aa (dC<|.str "if")<|aa (dC<|.str "again") af)<|ac 0) af)
def uC(ad:Ad):Sd:=aJ ["rows"] (yc ad)
theorem MN{ad:Ad}{a:D}{M:Mem}{Q:DK}{E:DX}:uC ad [a] M Q E=yc ad (aG E) { nx:=λ_ M'=>drp Q .non M',rt:=drp Q } [ap a] M:=rfl
def kR(ad:Ad)(EE:DX):aD:=az (aK<|aa (ah au (ah au (ac 4)<|dC<|.int 0)<|ac 5)<|aa (ah au (ah au (ac 4)<|dC<|.int 1)<|ac 5) af)
def kA(ad:Ad)(EE:DX):aD:=ai (ar (Mo mZ (ah au (ac 0)<|dC<|.int 1)<|aa (ah au (ac 0)<|dC<|.int 4) af)<|ag 5) (kR ad EE)
def kb(ad:Ad)(EE:DX):aD:=ai (aH (ak<|ah C5 (dC .non)<|ac 4) (az<|dC .non) aE) (kA ad EE)
def yn(ad:Ad)(EE:DX):aD:=ai (cz (dP 4<|aZ (bG<|ao<|bO<|aa (ac 1)<|aa (ac 2) af) ["stand"] [0,3] (ag 0) dG<|ah au (oR<|aj (mC ad) ii 3<|aa (ac 1)<|aa (ac 0)<|aa (ac 2) af)<|dC<|.int 1) 4) (kb ad EE)
def nM(ad:Ad):Sd:=aJ ["plan","sound","faulty","most","last","at"] (yn ad)
theorem O0{ad:Ad}{e b c a:D}{M:Mem}{Q:DK}{E:DX}:nM ad [e,b,c,a] M Q E=yn ad (aG E) { nx:=λ_ M'=>drp Q .non M',rt:=drp Q } [ap e,ap b,ap c,ap a,cm,cm] M:=rfl
def wS(ad:Ad)(EE:DX):aD:=az (ah cZ (ao<|ah aW (ah aW (ac 2)<|dC<|.int 1)<|ao<|aj (bb ad) EE 2<|aa (ac 0)<|aa (ah fF (ac 1)<|dC<|.int 1) af)<|ac 1)
def md(ad:Ad):Sd:=aJ ["pot","m","number"] (wS ad)
theorem NP{ad:Ad}{c b a:D}{M:Mem}{Q:DK}{E:DX}:md ad [c,b,a] M Q E=wS ad (aG E) { nx:=λ_ M'=>drp Q .non M',rt:=drp Q } [ap c,ap b,ap a] M:=rfl
def kH(ad:Ad)(EE:DX):aD:=ar (ah aW (ao<|uA (ac 0) bI<|cI<|dC<|.int 3)<|aK<|aa (ah aW (ac 5)<|aK<|aa (ac 7) af)<|aa (ah au (ac 0)<|dC<|.int 4) af) (ag 0)
def kO(ad:Ad)(EE:DX):aD:=ai (ar (aK<|aa (dC<|.str "sum")<|aa (ah au (ac 0)<|dC<|.int 4)<|aa (ah au (ac 0)<|dC<|.int 4)<|aa (ac 4) af)<|ag 7) (kH ad EE)
def kS(ad:Ad)(EE:DX):aD:=ai (aH (ak<|ah bX (ah au (ac 6)<|dC<|.int 0)<|ah au (ac 6)<|dC<|.int 1) (kO ad EE) aE) (az<|ac 0)
def kN(ad:Ad)(EE:DX):aD:=ai (ar (ao<|aj (nM ad) EE 4<|aa (ac 0)<|aa (ac 1)<|aa (ac 2)<|aa (ac 3) af)<|ag 6) (kS ad EE)
def lg(ad:Ad)(EE:DX):aD:=ai (ar (ah aW (ao<|uA (ac 0) bI<|cI<|dC<|.int 3)<|aK<|aa (ac 5)<|aa (ah au (ac 0)<|dC<|.int 4) af)<|ag 0) (kN ad EE)
def ww(ad:Ad)(EE:DX):aD:=ai (ar (bu cD<|aa (ao<|aZ (bG<|ao<|aj (uC ad) EE 1<|aa (ah au (ac 0)<|dC<|.int 3) af) ["row"] [4] (ag 0) (ak<|ah jy (ah au (ac 0)<|dC<|.int 1)<|ac 1)<|ac 0) af)<|ag 5) (lg ad EE)
def xQ(ad:Ad):Sd:=aJ ["plan","sound","faulty","most","name","rows","both","more"] (ww ad)
theorem MQ{ad:Ad}{c a f b e:D}{M:Mem}{Q:DK}{E:DX}:xQ ad [c,a,f,b,e] M Q E=ww ad (aG E) { nx:=λ_ M'=>drp Q .non M',rt:=drp Q } [ap c,ap a,ap f,ap b,ap e,cm,cm,cm] M:=rfl
def qt(ad:Ad)(EE:DX):aD:=ar (aK<|aa (aK<|aa (dC<|.str "take")<|aa (ah au (ac 2)<|dC<|.int 0)<|aa (dC<|.int 0) af)<|aa (aK<|aa (dC<|.str "sum")<|aa (ah au (ac 0)<|dC<|.int 4)<|aa (ah au (ac 0)<|dC<|.int 4)<|aa (ah au (ac 2)<|dC<|.int 0) af) af) (ag 1)
def lU(ad:Ad)(EE:DX):aD:=az (ah aW (ao<|uA (ac 0) bI<|cI<|dC<|.int 3)<|aK<|aa (ao<|ah aW (ah au (ac 0)<|dC<|.int 3)<|ac 1)<|aa (ah au (ac 0)<|dC<|.int 4) af)
def pb(ad:Ad)(EE:DX):aD:=ai (aH (ak<|ah jy (ac 2)<|ao<|bO af) (qt ad EE) aE) (lU ad EE)
def qg(ad:Ad)(EE:DX):aD:=ai (cz (dP 2<|aZ (bG<|ah au (ac 0)<|dC<|.int 1) ["one"] [0] (ag 0) (ak<|ah jy (ac 0)<|ah au (ac 1)<|dC<|.int 4)<|ac 0) 2) (pb ad EE)
def Fa(ad:Ad)(EE:DX):aD:=ai (ar (aK<|aa (aK<|aa (dC<|.str "take")<|aa (ah au (ac 0)<|dC<|.int 4)<|aa (dC<|.int 0) af) af)<|ag 1) (qg ad EE)
def G4(ad:Ad):Sd:=aJ ["plan","more","rest"] (Fa ad)
theorem u_q5{ad:Ad}{a:D}{M:Mem}{Q:DK}{E:DX}:G4 ad [a] M Q E=Fa ad (aG E) { nx:=λ_ M'=>drp Q .non M',rt:=drp Q } [ap a,cm,cm] M:=rfl
def rb(ad:Ad)(EE:DX):aD:=ar (ao<|aj (md ad) EE 3<|aa (ac 0)<|aa (ah au (ac 3)<|dC<|.int 0)<|aa (ah au (ac 5)<|ac 7) af) (cT (ac 5)<|ac 7)
def rF(ad:Ad)(EE:DX):aD:=ar (ao<|ah aW (ac 8)<|bu Cw<|aa (bu bK<|aa (ac 6) af)<|aa (ah cG (dC<|.int 2)<|ac 2) af) (ag 8)
def oV(ad:Ad)(EE:DX):aD:=ai (ar (ao<|aj (md ad) EE 3<|aa (ac 0)<|aa (ah au (ac 3)<|dC<|.int 0)<|aa (ah au (ac 6)<|dC<|.int 0) af)<|cT (ac 6)<|dC<|.int 0) (rF ad EE)
def rK(ad:Ad)(EE:DX):aD:=ar (ao<|aj (md ad) EE 3<|aa (ac 0)<|aa (ah au (ac 3)<|dC<|.int 0)<|aa (ah au (ah au (ac 4)<|dC<|.int 0)<|ac 10) af) (cT (ac 5)<|ac 10)
def pN(ad:Ad)(EE:DX):aD:=ar (ao<|aj (md ad) EE 3<|aa (ac 0)<|aa (ah au (ac 3)<|dC<|.int 0)<|aa (ah au (ah au (ac 4)<|dC<|.int 1)<|ac 10) af) (cT (ac 6)<|ac 10)
def pY(ad:Ad)(EE:DX):aD:=ai (ar (ah fF (ac 10)<|bu bK<|aa (ac 5) af)<|ag 10) (pN ad EE)
def pL(ad:Ad)(EE:DX):aD:=aH (ak<|ah uJ (ac 10)<|bu bK<|aa (ac 5) af) (rK ad EE) (pY ad EE)
def kJ(ad:Ad)(EE:DX):aD:=ai (ar (ao<|aj (bb ad) EE 2<|aa (ac 0)<|aa (ac 8) af)<|ag 10) (pL ad EE)
def r9(ad:Ad)(EE:DX):aD:=ar (ah aW (ao<|uA (ac 3) bI<|cI<|dC<|.int 3)<|aK<|aa (ao<|aj (uC ad) EE 1<|aa (ah au (ac 3)<|dC<|.int 3) af)<|aa (ah au (ac 3)<|dC<|.int 4) af) (ag 3)
def mJ(ad:Ad)(EE:DX):aD:=ar (ao<|aj (xQ ad) EE 5<|aa (ac 3)<|aa (ac 4)<|aa (ac 11)<|aa (ac 12)<|aa (ah au (ah au (ac 3)<|dC<|.int 1)<|ac 7) af) (ag 3)
def mE(ad:Ad)(EE:DX):aD:=ar (ao<|aj (G4 ad) EE 1<|aa (ac 3) af) (ag 3)
def iZ(ad:Ad)(EE:DX):aD:=aH (ak<|ah uJ (ac 7)<|bu bK<|aa (ac 5) af) (mJ ad EE) (mE ad EE)
def iX(ad:Ad)(EE:DX):aD:=az (aK<|aa (ac 3)<|aa (ac 4)<|aa (ac 11)<|aa (ac 12) af)
def mT(ad:Ad)(EE:DX):aD:=ai (aH (ak<|ah bX (ah au (ac 13)<|dC<|.int 0)<|ah au (ac 13)<|dC<|.int 1) (iZ ad EE) aE) (iX ad EE)
def iw(ad:Ad)(EE:DX):aD:=ai (ar (ao<|aj (nM ad) EE 4<|aa (ac 3)<|aa (ac 4)<|aa (ac 11)<|aa (ac 12) af)<|ag 13) (mT ad EE)
def iF(ad:Ad)(EE:DX):aD:=ai (aH (ak<|ah ja (ao<|aj (nM ad) EE 4<|aa (ac 3)<|aa (ac 4)<|aa (ac 11)<|aa (ah fF (ac 12)<|dC<|.int 4) af)<|dC .non) (r9 ad EE) aE) (iw ad EE)
def mi(ad:Ad)(EE:DX):aD:=ai (ar (ah aW (dC<|.int 30)<|ao<|aj (bb ad) EE 2<|aa (ac 0)<|aa (dC<|.int 20) af)<|ag 12) (iF ad EE)
def mz(ad:Ad)(EE:DX):aD:=ai (ar (aK<|aa (bu cD<|aa (ac 5) af)<|aa (bu cD<|aa (ac 6) af) af)<|ag 11) (mi ad EE)
def iQ(ad:Ad)(EE:DX):aD:=ai (cF (fE<|aa (ah fF (ac 2)<|dC<|.int 1) af) (ag 9)<|kJ ad EE) (mz ad EE)
def mh(ad:Ad)(EE:DX):aD:=ai (aH (ak<|ah uJ (ac 7)<|bu bK<|aa (ac 5) af) (rb ad EE)<|oV ad EE) (iQ ad EE)
def ng(ad:Ad)(EE:DX):aD:=ai (ar (bu bK<|aa (ac 5) af)<|ag 8) (mh ad EE)
def mS(ad:Ad)(EE:DX):aD:=ai (ar (ao<|aj (bb ad) EE 2<|aa (ac 0)<|aa (ah cG (dC<|.int 4)<|bu bK<|aa (ac 5) af) af)<|ag 7) (ng ad EE)
def nc(ad:Ad)(EE:DX):aD:=ai (ar (bu eJ<|aa (ah au (ac 4)<|dC<|.int 1) af)<|ag 6) (mS ad EE)
def mF(ad:Ad)(EE:DX):aD:=ai (ar (bu eJ<|aa (ah au (ac 4)<|dC<|.int 0) af)<|ag 5) (nc ad EE)
def nj(ad:Ad)(EE:DX):aD:=ai (ar (ao<|aj (xp ad) EE 2<|aa (ac 0)<|aa (ac 3) af)<|ag 4) (mF ad EE)
def mY(ad:Ad)(EE:DX):aD:=ai (ar (ao<|ah aW (ah aW (ao<|uA (ac 3) bI<|cI<|dC<|.int 2)<|aK<|aa (bu EW<|aa (dC<|.int 1)<|aa (ah au (ac 3)<|dC<|.int 2) af) af)<|ao<|uA (ac 3) (cI<|dC<|.int 3) bI)<|ag 3) (nj ad EE)
def yB(ad:Ad)(EE:DX):aD:=ai (ar (ao<|aj (yA ad) EE 2<|aa (ac 0)<|aa (ac 1) af)<|ag 3) (mY ad EE)
def ya(ad:Ad):Sd:=aJ ["pot","most_rows","few","plan","sound","numbers","pieces","first","some","k","at","faulty","most","both"] (yB ad)
theorem MX{ad:Ad}{c b a:D}{M:Mem}{Q:DK}{E:DX}:ya ad [c,b,a] M Q E=yB ad (aG E) { nx:=λ_ M'=>drp Q .non M',rt:=drp Q } [ap c,ap b,ap a,cm,cm,cm,cm,cm,cm,cm,cm,cm,cm,cm] M:=rfl
def iN(ad:Ad)(EE:DX):aD:=KY 0 1 (aa (ah cZ (ac 1)<|ac 0)<|aa (ac 0) af)
def xa(ad:Ad)(EE:DX):aD:=ai (dq (ak<|ah sy (ac 0)<|dC<|.int 0)<|iN ad EE) (az<|ac 1)
def xl(ad:Ad):Sd:=aJ ["one","other"] (xa ad)
theorem Mx{ad:Ad}{b a:D}{M:Mem}{Q:DK}{E:DX}:xl ad [b,a] M Q E=xa ad (aG E) { nx:=λ_ M'=>drp Q .non M',rt:=drp Q } [ap b,ap a] M:=rfl
def qO(ad:Ad)(EE:DX):aD:=ar (ah cG (ac 9)<|ah au (ac 11)<|dC<|.int 1) (ag 9)
def kP(ad:Ad)(EE:DX):aD:=ai (ar (ah aW (ah cG (ac 8)<|ah au (ac 11)<|dC<|.int 1)<|ah cG (ah au (ac 11)<|dC<|.int 0)<|ac 9)<|ag 8) (qO ad EE)
def gs(ad:Ad)(EE:DX):aD:=ai (aH (A6 (ak<|ah uJ (ah au (ac 11)<|dC<|.int 1)<|dC<|.int 1)<|ak<|ah jy (ao<|aj (xl ad) EE 2<|aa (bu Fm<|aa (ah au (ac 11)<|dC<|.int 0) af)<|aa (ah au (ac 11)<|dC<|.int 1) af)<|dC<|.int 1) (az<|dC<|.bl eC) aE) (kP ad EE)
def kK(ad:Ad)(EE:DX):aD:=az (ah bX (ao<|aj (jz ad) EE 2<|aa (ac 13)<|aa (dC<|.int 2000) af)<|ao<|ah aW (ac 7)<|ao<|bO<|aa (aK<|aa (ah au (ac 3)<|dC<|.int 2)<|aa (aK<|aa (dC<|.int 0)<|aa (dC<|.int 1) af) af)<|aa (aK<|aa (ah aW (ah au (ac 3)<|dC<|.int 2)<|dC<|.int 1)<|aa (aK<|aa (dC<|.int 0)<|aa (dC<|.int 1) af) af) af)
def lq(ad:Ad)(EE:DX):aD:=ai (ar (aK<|aa (ac 12)<|aa (aK<|aa (ah au (ac 4)<|dC<|.int 0)<|aa (ah aW (ah au (ac 4)<|dC<|.int 1)<|aK<|aa (dC<|.int 0)<|aa (dC<|.int 1) af) af)<|aa (aK<|aa (ah au (ac 5)<|dC<|.int 0)<|aa (ah aW (ah au (ac 5)<|dC<|.int 1)<|aK<|aa (dC<|.int 1)<|aa (dC<|.int 0) af) af)<|aa (ac 6) af)<|ag 13) (kK ad EE)
def iu(ad:Ad)(EE:DX):aD:=ai (ar (ah aW (aK<|aa (ah au (ac 3)<|dC<|.int 0)<|aa (ah au (ac 3)<|dC<|.int 1)<|aa (ah aW (ah au (ac 3)<|dC<|.int 2)<|dC<|.int 2) af)<|ao<|uA (ac 3) (cI<|dC<|.int 3) bI)<|ag 12) (lq ad EE)
def kI(ad:Ad)(EE:DX):aD:=ai (aH (A6 (ak<|ah sy (ah au (ac 3)<|dC<|.int 2)<|dC<|.int 38)<|ak<|ah G9 (dC<|.str "'pick'")<|bu pJ<|aa (ah au (ac 3)<|dC<|.int 3) af) (az<|dC<|.bl true) aE) (iu ad EE)
def li(ad:Ad)(EE:DX):aD:=ai (aH (ak<|ah jy (ac 8)<|ac 9) (az<|dC<|.bl eC) aE) (kI ad EE)
def lD(ad:Ad)(EE:DX):aD:=ai (cF (bG<|ac 7) (fG 2<|b6 (ag 10)<|b6 (ag 11) eY)<|gs ad EE) (li ad EE)
def iK(ad:Ad)(EE:DX):aD:=ai (ar (dC<|.int 0)<|ag 8) (ai (ar (dC<|.int 1)<|ag 9)<|lD ad EE)
def iU(ad:Ad)(EE:DX):aD:=ai (ar (ao<|aj (jz ad) EE 2<|aa (ac 2)<|aa (dC<|.int 2000) af)<|ag 7) (iK ad EE)
def iy(ad:Ad)(EE:DX):aD:=ai (ar (ac 2)<|fG 4<|b6 (ag 3)<|b6 (ag 4)<|b6 (ag 5)<|b6 (ag 6) eY) (iU ad EE)
def iP(ad:Ad)(EE:DX):aD:=ai (ar (ao<|aj (ya ad) EE 3<|aa (ac 1)<|aa (dC<|.int 24)<|aa (ah aW (dC<|.int 1)<|ao<|aj (bb ad) EE 2<|aa (ac 1)<|aa (dC<|.int 5) af) af)<|ag 2) (iy ad EE)
def xc(ad:Ad)(EE:DX):aD:=ai (ar (aj (xL ad) EE 1<|aa (ac 0) af)<|ag 1) (iP ad EE)
def Ax(ad:Ad):Sd:=aJ ["script","pot","case","plan","sound","faulty","most","found","top","bottom","thing","share","more","other"] (xc ad)
theorem No{ad:Ad}{a:D}{M:Mem}{Q:DK}{E:DX}:Ax ad [a] M Q E=xc ad (aG E) { nx:=λ_ M'=>drp Q .non M',rt:=drp Q } [ap a,cm,cm,cm,cm,cm,cm,cm,cm,cm,cm,cm,cm,cm] M:=rfl
set_option genInjectivity false in
structure En(P:fx)(w:g3)(K:Ow)(mg:Xf)(base:hI)(ad:Ad):Prop where
 u0:Cls K ad.C_Ends
 u1:mg "Ends"=ap (.ref ad.C_Ends)
 u2:Cls K ad.C_Going
 u3:mg "Going"=ap (.ref ad.C_Going)
 u4:Cls K ad.C_Outcome
 u5:mg "Outcome"=ap (.ref ad.C_Outcome)
 u6:Cls K ad.C_Walk
 u7:mg "Walk"=ap (.ref ad.C_Walk)
 u8:NoAttr K ad.C_Ends "count"
 u9:NoAttr K ad.C_Ends "limit"
 u10:NoAttr K ad.C_Going "left"
 u11:NoAttr K ad.C_Going "numbers"
 u12:NoAttr K ad.C_Going "pieces"
 u13:NoAttr K ad.C_Going "todo"
 u14:NoAttr K ad.C_Going "unsettled"
 u15:NoAttr K ad.C_Outcome "faulty"
 u16:NoAttr K ad.C_Outcome "sound"
 u17:NoAttr K ad.C_Outcome "verdict"
 u18:NoAttr K ad.C_Walk "most"
 u19:NoAttr K ad.C_Walk "numbers"
 u20:NoAttr K ad.C_Walk "pieces"
 u21:NoAttr K ad.C_Walk "plan"
 u22:NoAttr K ad.C_Walk "steps"
 u23:ExcAt K ad.C_Dry
 u24:mg "Dry"=ap (.ref ad.C_Dry)
 u25:ExcAt K ad.C_NoCase
 u26:mg "NoCase"=ap (.ref ad.C_NoCase)
 u27:ExcAt K ad.C_TooMany
 u28:mg "TooMany"=ap (.ref ad.C_TooMany)
 u29:mg "abs"=cm
 u30:mg "dict"=cm
 u31:mg "enumerate"=cm
 u32:mg "isinstance"=cm
 u33:mg "len"=cm
 u34:mg "list"=cm
 u35:mg "max"=cm
 u36:mg "min"=cm
 u37:mg "range"=cm
 u38:mg "repr"=cm
 u39:mg "reversed"=cm
 u40:mg "str"=cm
 u41:mg "sum"=cm
 u42:mg "tuple"=cm
 u43:mg "zip"=cm
 f1:GI K ad.C_Walk "__init__" "Walk.__init__" NT ad.a1 ad.d1 ["self","plan","stand","most"]
 f2:GM K ad.C_Walk "note_step" "Walk.note_step" LU ad.a2 ad.d2 ["self","place","number"]
 f3:GM K ad.C_Walk "look" "Walk.look" GD ad.a3 ad.d3 ["self","place","name"]
 f4:GF K mg "run" Hm ad.a4 ad.d4 ["plan","stand","most"]
 f5:GF K mg "mark" Hc ad.a5 ad.d5 ["plan","stand","most"]
 f6:GF K mg "do_rows" GP ad.a6 ad.d6 ["walk","rows","place"]
 f7:GA K mg "do_row_runs" "do_row" Hw ad.a7 ad.d7 ["walk","row","place"]
 f8:GF K mg "do_if" HA ad.a8 ad.d8 ["walk","row","place"]
 f9:GF K mg "do_again" Gi ad.a9 ad.d9 ["walk","row","place"]
 f10:GF K mg "number_of" Hz ad.a10 ad.d10 ["plan","numbers","pieces","row"]
 f11:GF K mg "piece_read" HU ad.a11 ad.d11 ["plan","numbers","row"]
 f12:GF K mg "joined" Hn ad.a12 ad.d12 ["word","y","z","wheel"]
 f13:GF K mg "all_things" Gq ad.a13 ad.d13 ["plan"]
 f14:GF K mg "in_order" Hg ad.a14 ad.d14 ["plan","things"]
 f15:GF K mg "number_in" HP ad.a15 ad.d15 ["plan","stand","thing"]
 f16:GF K mg "names_read" Gw ad.a16 ad.d16 ["row"]
 f17:GF K mg "unlike" He ad.a17 ad.d17 ["plan","one","other"]
 f18:GF K mg "marks" Hj ad.a18 ad.d18 ["case"]
 f19:GF K mg "unlike_of" Gb ad.a19 ad.d19 ["case"]
 f20:GF K mg "verdict_of" GY ad.a20 ad.d20 ["two","one"]
 f21:GI K ad.C_Going "__init__" "Going.__init__" NJ ad.a21 ad.d21 ["self","numbers","pieces","unsettled","todo","left"]
 f22:GM K ad.C_Going "settled" "Going.settled" MJ ad.a22 ad.d22 ["self","thing","number"]
 f23:GI K ad.C_Ends "__init__" "Ends.__init__" Nj ad.a23 ad.d23 ["self","limit"]
 f24:GM K ad.C_Ends "one_more" "Ends.one_more" MC ad.a24 ad.d24 ["self"]
 f25:GF K mg "start" Hv ad.a25 ad.d25 ["case"]
 f26:GF K mg "put_ahead" Gy ad.a26 ad.d26 ["rows","todo"]
 f27:GF K mg "go_on" GO ad.a27 ad.d27 ["plan","going"]
 f28:GF K mg "asked_by" GH ad.a28 ad.d28 ["plan","going","row"]
 f29:GA K mg "do_row_trees" "do_row" Gg ad.a29 ad.d29 ["plan","going","row"]
 f30:GF K mg "mark_of" HQ ad.a30 ad.d30 ["plan","going"]
 f31:GF K mg "both_ways" Hl ad.a31 ad.d31 ["case","going","thing"]
 f32:GV K mg "tree" HV ad.a32 ad.d32 ["case","limit"] (500)
 f33:GF K mg "grown" HS ad.a33 ad.d33 ["case","going","ends"]
 f34:GI K ad.C_Outcome "__init__" "Outcome.__init__" MH ad.a34 ad.d34 ["self","verdict","sound","faulty"]
 f35:GF K mg "outcomes" GX ad.a35 ad.d35 ["case","limit"]
 f36:GF K mg "numbers_of" Hu ad.a36 ad.d36 ["bits"]
 f37:GV K mg "shares" Hb ad.a37 ad.d37 ["case","limit"] (500)
 f38:GF K mg "mean_of" HD ad.a38 ad.d38 ["cases","limit"]
 f39:GF K mg "orders_of" Gf ad.a39 ad.d39 ["case","limit"]
 f40:GF K mg "orders_up_to" HL ad.a40 ad.d40 ["count"]
 f41:GF K mg "in_lowest_terms" Mg ad.a41 ad.d41 ["n","d"]
 f42:GF K mg "_law_stirred" HR ad.a42 ad.d42 ["cell","turn"]
 f43:GF K mg "_law_pot" Gz ad.a43 ad.d43 ["script"]
 f44:GF K mg "_law_draw" GW ad.a44 ad.d44 ["pot","many"]
 f45:GF K mg "_law_names" Hk ad.a45 ad.d45 ["pot","many"]
 f46:GF K mg "_law_row" HK ad.a46 ad.d46 ["pot","told"]
 f47:GF K mg "_law_block" Hh ad.a47 ad.d47 ["pot","told","room","deep"]
 f48:GF K mg "_law_rows" GQ ad.a48 ad.d48 ["pot","told","room","deep","most"]
 f49:GF K mg "_law_plan" HE ad.a49 ad.d49 ["pot","most"]
 f50:GF K mg "_law_stand" GG ad.a50 ad.d50 ["pot","plan"]
 f51:GF K mg "_law_becomes" Nq ad.a51 ad.d51 ["gone","row"]
 f52:GF K mg "_law_stepped" HB ad.a52 ad.d52 ["gone","place","number"]
 f53:GF K mg "_law_rounds" GL ad.a53 ad.d53 ["gone","row","place"]
 f54:GF K mg "_law_done" GU ad.a54 ad.d54 ["gone","rows","place"]
 f55:GF K mg "_law_run" HG ad.a55 ad.d55 ["plan","stand","most"]
 f56:GF K mg "_law_flat" Ht ad.a56 ad.d56 ["rows"]
 f57:GF K mg "_law_marks" Hy ad.a57 ad.d57 ["plan","sound","faulty","most"]
 f58:GF K mg "_law_other" Hd ad.a58 ad.d58 ["pot","m","number"]
 f59:GF K mg "_law_by_name" GT ad.a59 ad.d59 ["plan","sound","faulty","most","name"]
 f60:GF K mg "_law_by_piece" MY ad.a60 ad.d60 ["plan"]
 f61:GF K mg "_law_case" Gj ad.a61 ad.d61 ["pot","most_rows","few"]
 f62:GF K mg "_law_common" GB ad.a62 ad.d62 ["one","other"]
 f63:GF K mg "law" jI ad.a63 ad.d63 ["script"]
section
section
variable {X:Cx}{B:Bd}{a b c o e:fy}{es:Xb}{ta tb tc to:bp}{t:fg}{i:Nat}{x:Str}{pos p W4 W3:Pos}(hU:X.A.units+64<p3)(hu:X.A.units+1<p3)(hg:X.A.guards=ap [])(hc:X.calm=true)(ha:DE X B a ta)(hb:DE X B b tb)(hd:DE X B c tc)
def v0:=fL (pos:=pos) EO ha hb
def v1:=fL (pos:=pos) DP ha hb
def v2:=fL (pos:=pos) FA ha hb
def v3:=fL (pos:=pos) DM ha hb
def v4:=fL (pos:=pos) Ir ha hb
def v5:=fL (pos:=pos) Dv ha hb
def v6:=fL (pos:=pos) FX ha hb
def v7:=fL (pos:=pos) BH ha hb
def v8:=fL (pos:=pos) Ea ha hb
def v9:=fL (pos:=pos) DB ha hb
def v10:=fL (pos:=pos) FI ha hb
def v11:=JG (pos:=pos) (AI hU) ha hb
def v12:=cJ (X:=X) (B:=B) (p:=p) (pos:=pos) (e:=e) (es:=es) (t:=t) zZ EJ
def v13:=fB (X:=X) (B:=B) (p:=p) (pos:=pos) (e:=e) (es:=es) (t:=t) su zn
def v14:=fB (X:=X) (B:=B) (p:=p) (pos:=pos) (e:=e) (es:=es) (t:=t) uN sv
def v15:=fB (X:=X) (B:=B) (p:=p) (pos:=pos) (e:=e) (es:=es) (t:=t) (tX hc) tG
def v16:=cJ (X:=X) (B:=B) (p:=p) (pos:=pos) (e:=e) (es:=es) (t:=t) pP m_
def v17:=fB (X:=X) (B:=B) (p:=p) (pos:=pos) (e:=e) (es:=es) (t:=t) sk tG
def v18:=cJ (X:=X) (B:=B) (p:=p) (pos:=pos) (e:=e) (es:=es) (t:=t) (z7 hc) E9
def v19:=cJ (X:=X) (B:=B) (p:=p) (pos:=pos) (e:=e) (es:=es) (t:=t) (zk hc) Ff
def v20:=cJ (X:=X) (B:=B) (p:=p) (pos:=pos) (e:=e) (es:=es) (t:=t) (zY hc) FV
def v21:=cJ (X:=X) (B:=B) (p:=p) (pos:=pos) (e:=e) (es:=es) (t:=t) yW Eg
def v22:=cJ (X:=X) (B:=B) (p:=p) (pos:=pos) (e:=e) (es:=es) (t:=t) (vq hg hU) Bj
def v23:=Lj (X:=X) (B:=B) (pos:=pos) Ee
def v24:=AD (X:=X) (B:=B) (W4:=W4) (W3:=W3) (o:=o) (e:=e) (es:=es) (t:=t) (to:=to) RN Sm PySem.F.type_list_append uU
def v25:=wz (X:=X) (B:=B) (W4:=W4) (W3:=W3) (o:=o) (to:=to) RN RD TY yI
def v26:=wz (X:=X) (B:=B) (W4:=W4) (W3:=W3) (o:=o) (to:=to) PySem.F.plainAttrs_int PySem.F.slot_int_bit_length PySem.F.type_int_bit_length uY
def v27:=AD (X:=X) (B:=B) (W4:=W4) (W3:=W3) (o:=o) (e:=e) (es:=es) (t:=t) (to:=to) RN RD TY yI
def v28:=J8 (X:=X) (B:=B) (W4:=W4) (W3:=W3) (o:=o) (e:=e) (es:=es) (to:=to) (t:=t) Tq PySem.F.type_tuple_index vP
def v29:=Ec (X:=X) (B:=B) (x:=x) (pos:=pos) (e:=e) (i:=i) (te:=ta) (pos':=p) xq
def v30:=xx (X:=X) (B:=B) (pos:=pos) (tpos:=p) (o:=a) (i:=b) (e:=c) (to:=ta) (ti:=tb) (te:=tc) hu ha hb hd xq
def v31:=xx (X:=X) (B:=B) (pos:=pos) (tpos:=p) (o:=a) (i:=b) (e:=c) (to:=ta) (ti:=tb) (te:=tc) hu ha hb hd EG
def v32:=cW (pos:=pos) Jm ha hb
def v33:=cW (pos:=pos) (AI hU) ha hb
def v34:=cW (pos:=pos) Ka ha hb
def v35:=cW (pos:=pos) Dg ha hb
def v36:=cW (pos:=pos) FF ha hb
def v37:=cW (pos:=pos) (BC hU) ha hb
def v38:=cW (pos:=pos) (Ll hU) ha hb
def v39:=cW (pos:=pos) IS ha hb
def v40:=cW (pos:=pos) (F0 hU) ha hb
def v41:=cW (pos:=pos) JQ ha hb
def v42:=cW (pos:=pos) (zG hU) ha hb
def v43:=cW (pos:=pos) Jh ha hb
end
local macro_rules|`(tactic|exists $n:num)=>do
 let h<-`(?_);let u<-`(_);let I:=λs:String=>Lean.mkIdent s.toName;let p:=λa k=>Lean.Syntax.mkApp (I a) (Array.replicate k h)
 let t<-((["","dnm:u Jo:0 JE:1 O6:g:IB Km:0 B2:6 DE:ah:3:2 DE:bu:2:3 J5:1 K_:1 Ky:4 Ac:3 NQ:0 KE:0 v23:4 DE:mW:4:5 v28:7 Cq:3 Kj:1 D_:1 vE:9 vw:8 Dn:a FN:3 Ei:4 Db:a zp:a CY:a","v0:2 v1:2 v2:2 v3:2 v4:2 v5:2 v6:2 v7:2 v8:2 v9:2 v10:2 v11:4","v12:7 v13:7 v14:7 v15:8 v16:7 v17:7 v18:8 v19:8 v20:8 v21:7 v22:9","","v24:8 v25:4 v26:4 v27:8","O5:3 IL:6 Kz:10 JR:5 KQ:1 FM:2 KZ:5 zE:4 zc:4 JT:6 CV:3 Aj:6 Io:2 v29:5 v30:5 v31:5 Cy:a EH:a","DT:ak:1:8 IW:1 JJ:2 Oj:1","v32:3 v33:4 v34:3 v35:3 v36:3 v37:4 v38:4 v39:3 v40:4 v41:3 v42:4 v43:3","dI:2 fj:1 F1:0 EY:1 Jq:1 JN:2 MV:2 DV:0 Fn:1 EN:4 Ih:4 IK:4 Kv:4 AX:3 Eu:0 DC:4 zS:4 KG:4 IT:1 FC.nil:a FC.cons:a Ex:0 DZ:1"].getD n.getNat "").splitOn " ").toArray.mapM λs=>match s.splitOn ":" with
  |[a,"a"]=>`(Lean.Parser.Tactic.tacticSeq|apply $(I a))
  |[a,"d"]=>`(Lean.Parser.Tactic.tacticSeq|(apply $(I a);focus decide))
  |[a,"u"]=>`(Lean.Parser.Tactic.tacticSeq|refine $(I a) _ ?_ ?_ ?_ ?_)
  |[a,k]=>`(Lean.Parser.Tactic.tacticSeq|refine $(p a k.toNat!))
  |[a,_,b]=>`(Lean.Parser.Tactic.tacticSeq|refine $(I a) ($(p b 1)) ?_ ?_ ?_)
  |[d,a,k,m]=>`(Lean.Parser.Tactic.tacticSeq|(show $(I d) _ _ _ $(Lean.Syntax.mkApp (I a) (Array.replicate k.toNat! u));exists $(Lean.Syntax.mkNumLit m)))
  |_=>Lean.Macro.throwUnsupported
 `(tactic|first $[|$t]*)
local macro_rules | `(tactic| exists 0) => `(tactic| first
 |exact Or.inl rfl
 |exact⟨_,_,_,_,_,_,_,by first|exact .g (by assumption)|exact .a (by assumption)|exact .v (by assumption),by assumption,Room.mono (by assumption) (by first|decide|lia),HI,by assumption⟩
 |exact⟨_,_,_,_,_,_,_,by first|exact .g (by assumption)|exact .a (by assumption)|exact .v (by assumption),by assumption,Room.mono (by assumption) (by first|decide|lia),BJ,uxN⟩
 |assumption
 |exact Room.mono (by assumption) (by first|decide|lia)
 |with_reducible exact HI
 |with_reducible exact BJ
 |with_reducible exact uxN
 |exact FnScope.nd (by assumption)
 |(apply nomark;decide)
 |(apply Oh;decide)
 |exact PassesOwn.leaving
 |exact λ_ _=>rfl
 |exact Or.inr (Or.inl rfl)
 |exact Or.inr rfl
 |exact Or.inr (Or.inr rfl)
 |rfl
 |exact λ_=>rfl
 |decide
 |exact λ_ _ _=>rfl
 |exact⟨rfl,rfl,rfl,rfl⟩
 |with_reducible intro _)
local macro_rules | `(tactic| trivial) => `(tactic| first
 |eq_refl
 |(with_reducible first
 |(show DE _ _ _ _;exists 1)
 |refine da_c ?_ ?_ ?_
 |exact J1
 |(show DT _ _ _ _;exists 7)
 |(show DS _ _ _ _;exists 6)
 |exists 9)
 |exists 0)
set_option hygiene false in
local macro_rules | `(tactic| exists $t:ident, $g, [$fs,*]) => `(tactic| exists (_), $t:ident, $g, [$fs,*])
set_option hygiene false in
local macro_rules | `(tactic| exists $t:ident, $g, [$fs,*], $[$ps:ident],*) => `(tactic| exists (_), $t:ident, $g, [$fs,*], $[$ps:ident],*)
set_option hygiene false in
local macro_rules | `(tactic| exists ($k), $t:ident, $g, [$fs,*]) => do let hs <- fs.getElems.mapM fun f => `(tactic| have := $f); `(tactic| exact fnS (k := $k) rfl ($g).F ($g).b ⟨rfl, rfl, rfl, by decide +kernel, rfl, by decide +kernel, by decide +kernel⟩ fun hS _ A _ s _ _ _ _ hr ux => (by have hU := hr.units; have hu := ou hr; have hg := hr.gd; ($[$hs];*); unfold $t:ident; (first | refine dI ?_ ?_ | refine fj ?_); repeat' trivial))
set_option hygiene false in
local macro_rules | `(tactic| exists ($k), $t:ident, $g, [$fs,*], $[$ps:ident],*) => do let hs <- fs.getElems.mapM fun f => `(tactic| have := $f); `(tactic| exact fnS (k := $k) rfl ($g).F ($g).b ⟨rfl, rfl, rfl, by decide +kernel, rfl, by decide +kernel, by decide +kernel⟩ fun hS _ A _ s _ _ _ _ hr ux => (by have hU := hr.units; have hu := ou hr; have hg := hr.gd; ($[$hs];*); unfold $t:ident $[$ps:ident]*; (first | refine dI ?_ ?_ | refine fj ?_); repeat' trivial))
variable {P:fx}{w:g3}{K:Ow}{mg:Xf}{base:hI}{ad:Ad}(E:En P w K mg base ad)
include E
theorem Ny:cj P w mg base E.f1.F E.f1.b 1 (FP ad):=by
 exists Fj,E.f1,[E.u6,E.u21,E.u19,E.u43,E.u30,E.u20,E.u18,E.u22]
theorem Hi:cj P w mg base E.f2.F E.f2.b 1 (vR ad):=by
 exists Fv,E.f2,[E.u33,E.u6,E.u22,E.u18,E.u23,E.u24]
theorem Kn:cj P w mg base E.f3.F E.f3.b 2 (ox ad):=by
 have:=Hi E
 exists xb,E.f3,[E.u6,E.u19,E.f2]
theorem Jr:cj P w mg base E.f12.F E.f12.b 1 (xu ad):=by
 exists wu,E.f12,[]
theorem D8:cj P w mg base E.f11.F E.f11.b 1 (lZ ad):=by
 exists iM,E.f11,[]
theorem AJ:cj P w mg base E.f10.F E.f10.b 2 (m7 ad):=by
 have:=Jr E;have:=D8 E
 exists fS,E.f10,[E.f11,E.f12]
theorem tB:∀n:Nat,cj P w mg base E.f6.F E.f6.b (2+n) (U2 ad n)/\cj P w mg base E.f7.F E.f7.b (2+n) (U4 ad n)/\cj P w mg base E.f8.F E.f8.b (2+n) (U5 ad n)/\cj P w mg base E.f9.F E.f9.b (2+n) (U6 ad n):=by
 have:=Kn E;have:=Hi E;have:=AJ E;intro n
 induction n with
 |zero=>exact⟨e_,e_,e_,e_⟩
 |succ n ih=>
  obtain⟨_,_,_,_⟩:=ih;refine⟨?_,?_,?_,?_⟩
  .exists (2+n),xT,E.f6,[E.u31,E.f7]
  .exists (2+n),oS,E.f7,[E.f8,E.f9,E.f10,E.u6,E.u21,E.u19,E.u20,E.f2]
  .exists (2+n),yt,E.f8,[E.u6,E.f3,E.f6]
  .exists (2+n),yf,E.f9,[E.u6,E.f3,E.f6]
theorem KU:cj P w mg base E.f4.F E.f4.b 27 (uo ad):=by
 have:=Ny E;obtain⟨_,_,_,_⟩:=tB E 24
 exists wy,E.f4,[E.f1,E.u7,E.u6,E.f6,E.u23,E.u24,E.u22,E.u42,E.u19]
theorem Jj:cj P w mg base E.f5.F E.f5.b 28 (n_ ad):=by
 have:=KU E
 exists xh,E.f5,[E.f4]
theorem AZ:cj P w mg base E.f13.F E.f13.b 1 (sJ ad):=by
 exists y0,E.f13,[E.u34,E.u37]
theorem Lk:cj P w mg base E.f14.F E.f14.b 2 (xw ad):=by
 have:=AZ E
 exists yi,E.f14,[E.u30,E.f13],ke
theorem Bx:cj P w mg base E.f15.F E.f15.b 1 (jA ad):=by
 exists rT,E.f15,[E.u32,E.u40]
theorem Ku:cj P w mg base E.f16.F E.f16.b 1 (wC ad):=by
 exists iC,E.f16,[E.u34]
theorem Jc:cj P w mg base E.f17.F E.f17.b 2 (yP ad):=by
 have:=AZ E;have:=Bx E
 exists ye,E.f17,[E.f13,E.f15]
theorem AW:cj P w mg base E.f18.F E.f18.b 29 (tE ad):=by
 have:=Jj E
 exists yl,E.f18,[E.f5,E.u25,E.u26],qX,lx,qD
theorem rG:cj P w mg base E.f19.F E.f19.b 3 (jC ad):=by
 have:=Jc E
 exists xD,E.f19,[E.f17]
theorem IY:cj P w mg base E.f20.F E.f20.b 1 (wU ad):=by
 exists ua,E.f20,[]
theorem Gh:cj P w mg base E.f21.F E.f21.b 1 (Bm ad):=by
 exists EQ,E.f21,[E.u2,E.u11,E.u12,E.u14,E.u13,E.u10]
theorem NE:cj P w mg base E.f22.F E.f22.b 3 (zj ad):=by
 have:=Gh E
 exists EA,E.f22,[E.f21,E.u3,E.u2,E.u30,E.u11,E.u34,E.u12,E.u14,E.u13,E.u10,E.u32,E.u40],vX,vU,vZ,uZ
theorem Oe:cj P w mg base E.f23.F E.f23.b 1 (Li ad):=by
 exists Fe,E.f23,[E.u0,E.u9,E.u8]
theorem Ge:cj P w mg base E.f24.F E.f24.b 1 (BL ad):=by
 exists G0,E.f24,[E.u0,E.u8,E.u9,E.u27,E.u28],vW
theorem AY:cj P w mg base E.f26.F E.f26.b 1 (lH ad):=by
 exists yv,E.f26,[E.u39],qT
theorem Kc:cj P w mg base E.f25.F E.f25.b 4 (y4 ad):=by
 have:=Gh E;have:=AY E;have:=rG E
 exists xr,E.f25,[E.u30,E.f19,E.f21,E.u3,E.u2,E.u43,E.u34,E.f26],qS,qf,qq
theorem IG:cj P w mg base E.f28.F E.f28.b 3 (xi ad):=by
 have:=Lk E;have:=Ku E;have:=D8 E
 exists wF,E.f28,[E.u2,E.u14,E.f16,E.f14,E.f11,E.u11],pS,ka,qi,pF,pz
theorem JB:cj P w mg base E.f29.F E.f29.b 3 (yb ad):=by
 have:=AJ E;have:=AY E
 exists wo,E.f29,[E.u2,E.u10,E.u13,E.f26,E.u11,E.f10,E.u12,E.u14],qA,iA,ku,gG,qy,pU,qe
theorem L4:cj P w mg base E.f27.F E.f27.b 4 (wB ad):=by
 have:=IG E;have:=JB E
 exists y8,E.f27,[E.u2,E.u13,E.u10,E.f28,E.f29,E.u14],oY,gC,qk,qU,rO,pI
theorem Ja:cj P w mg base E.f30.F E.f30.b 1 (xZ ad):=by
 exists xV,E.f30,[E.u2,E.u13,E.u11]
theorem La:cj P w mg base E.f31.F E.f31.b 4 (yQ ad):=by
 have:=NE E;have:=Bx E
 exists yN,E.f31,[E.u2,E.f22,E.f15]
theorem zI:∀n:Nat,cj P w mg base E.f33.F E.f33.b (4+n) (U3 ad n):=by
 have:=Ge E;have:=La E;have:=L4 E;have:=Ja E;intro n
 induction n with
 |zero=>exact e_
 |succ n ih=>
  exists (4+n),wQ,E.f33,[E.f33,E.f27,E.f30,E.u0,E.f24,E.f31],qb,pc,qF,qY,rP
theorem Lm:OkV P w mg base E.f32.F E.f32.b 30 (xg ad):=by
 have:=Oe E;have:=Ge E;have:=zI E 24;have:=AW E;have:=Kc E;exact NI rfl E.f32.F E.f32.b ⟨rfl,rfl,rfl,by decide +kernel,rfl,by decide +kernel,by decide +kernel⟩ λhS _ A _ s _ _ _ _ hr ux=>(by have hU:=hr.units;have hu:=ou hr;have hg:=hr.gd;have:=E.f18;have:=E.f23;have:=E.u1;have:=E.u0;have:=E.f24;have:=E.f33;have:=E.f25;unfold wW r8 p_ oW;(first|refine dI ?_ ?_|refine fj ?_);repeat' trivial)
theorem MP:cj P w mg base E.f34.F E.f34.b 1 (E8 ad):=by
 exists EV,E.f34,[E.u4,E.u17,E.u16,E.u15]
theorem Ju:cj P w mg base E.f35.F E.f35.b 31 (xN ad):=by
 have:=MP E;have:=AW E;have:=Lm E;have:=rG E;have:=IY E
 exists wN,E.f35,[E.f18,E.u30,E.u31,E.f19,E.f32,E.f34,E.u5,E.u4,E.f20],lK,mB,pq,gn,pM,rM,qj,p9,qI,rl,pC
theorem Jl:cj P w mg base E.f36.F E.f36.b 1 (uw ad):=by
 exists wJ,E.f36,[E.u37]
theorem Na:cj P w mg base E.f41.F E.f41.b 1 (F_ ad):=by
 exists F4,E.f41,[],vM,wj,vN,ni,vA
theorem Cp:cj P w mg base E.f40.F E.f40.b 1 (sD ad):=by
 exists yk,E.f40,[E.u37],qu,qa
theorem Kh:cj P w mg base E.f39.F E.f39.b 32 (sC ad):=by
 have:=Jl E;have:=Cp E;have:=Ju E;have:=rG E
 exists xz,E.f39,[E.f19,E.f35,E.u4,E.u17,E.f40,E.u33,E.f36,E.u15,E.u16],iV,ko,lh,kx,gk,k6,k9,lj,pQ,pR
theorem I_:cj P w mg base E.f38.F E.f38.b 33 (xM ad):=by
 have:=Na E;have:=Kh E;have:=Cp E;have:=rG E
 exists xW,E.f38,[E.f39,E.f19,E.u25,E.u26,E.f40,E.u33,E.u31,E.f41,E.u41],kY,lz,kZ,lB,pj
theorem Im:OkV P w mg base E.f37.F E.f37.b 34 (jz ad):=by
 have:=I_ E;exact NI rfl E.f37.F E.f37.b ⟨rfl,rfl,rfl,by decide +kernel,rfl,by decide +kernel,by decide +kernel⟩ λhS _ A _ s _ _ _ _ hr ux=>(by have hU:=hr.units;have hu:=ou hr;have hg:=hr.gd;have:=E.f38;unfold yd;(first|refine dI ?_ ?_|refine fj ?_);repeat' trivial)
theorem IU:cj P w mg base E.f42.F E.f42.b 1 (mK ad):=by
 exists yo,E.f42,[]
theorem IE:cj P w mg base E.f43.F E.f43.b 1 (xL ad):=by
 exists xU,E.f43,[E.u34]
theorem gj:cj P w mg base E.f44.F E.f44.b 2 (bb ad):=by
 have:=IU E
 exists x_,E.f44,[E.f42]
theorem JK:cj P w mg base E.f45.F E.f45.b 3 (y3 ad):=by
 have:=gj E
 exists xX,E.f45,[E.f44,E.u37,E.u42]
theorem Jw:cj P w mg base E.f46.F E.f46.b 3 (sX ad):=by
 have:=gj E
 exists yE,E.f46,[E.f44,E.u33]
theorem mj:∀n:Nat,cj P w mg base E.f47.F E.f47.b (3+n) (U8 ad n)/\cj P w mg base E.f48.F E.f48.b (3+n) (U7 ad n):=by
 have:=gj E;have:=Jw E;intro n
 induction n with
 |zero=>exact⟨e_,e_⟩
 |succ n ih=>
  obtain⟨_,_⟩:=ih;refine⟨?_,?_⟩
  .exists (3+n),wA,E.f47,[E.f44,E.u33,E.f48,E.u36]
  .exists (3+n),xm,E.f48,[E.u37,E.f44,E.f47,E.f46,E.u42]
theorem JF:cj P w mg base E.f49.F E.f49.b 28 (yA ad):=by
 have:=gj E;have:=JK E;obtain⟨_,_⟩:=mj E 24
 exists w_,E.f49,[E.f44,E.f45,E.f48,E.u33]
theorem HZ:cj P w mg base E.f50.F E.f50.b 3 (xp ad):=by
 have:=gj E
 exists y9,E.f50,[E.u42,E.f44,E.u37]
theorem Nh:cj P w mg base E.f51.F E.f51.b 1 (B1 ad):=by
 exists vJ,E.f51,[E.u33]
theorem Jg:cj P w mg base E.f52.F E.f52.b 1 (jN ad):=by
 exists yG,E.f52,[E.u33]
theorem jT:∀n:Nat,cj P w mg base E.f53.F E.f53.b (1+n) (U1 ad n)/\cj P w mg base E.f54.F E.f54.b (1+n) (U0 ad n):=by
 have:=Nh E;have:=Jg E;intro n
 induction n with
 |zero=>exact⟨e_,e_⟩
 |succ n ih=>
  obtain⟨_,_⟩:=ih;refine⟨?_,?_⟩
  .exists (1+n),y1,E.f53,[E.u37,E.f52,E.f54],iz,o_,rj,rE
  .exists (1+n),yq,E.f54,[E.f54,E.u31,E.f53,E.f52,E.f51],mv,pi,kG,k_,kQ,rD,kX,qE,qQ,qM
theorem Ij:cj P w mg base E.f55.F E.f55.b 26 (mC ad):=by
 obtain⟨_,_⟩:=jT E 24
 exists xk,E.f55,[E.u43,E.u30,E.f54,E.u42]
theorem AU:cj P w mg base E.f56.F E.f56.b 1 (uC ad):=by
 exists yc,E.f56,[E.u42]
theorem Ci:cj P w mg base E.f57.F E.f57.b 27 (nM ad):=by
 have:=Ij E
 exists yn,E.f57,[E.f55],kb,kA,kR
theorem IP:cj P w mg base E.f58.F E.f58.b 3 (md ad):=by
 have:=gj E
 exists wS,E.f58,[E.f44]
theorem KB:cj P w mg base E.f59.F E.f59.b 28 (xQ ad):=by
 have:=AU E;have:=Ci E
 exists ww,E.f59,[E.u42,E.f56,E.f57],lg,kN,kS,kO,kH
theorem Ly:cj P w mg base E.f60.F E.f60.b 1 (G4 ad):=by
 exists Fa,E.f60,[],qg,pb,lU,qt
theorem Js:cj P w mg base E.f61.F E.f61.b 29 (ya ad):=by
 have:=KB E;have:=Ly E;have:=gj E;have:=AU E;have:=Ci E;have:=IP E;have:=JF E;have:=HZ E
 exists yB,E.f61,[E.f49,E.u35,E.f50,E.u34,E.f44,E.u33,E.f58,E.u36,E.u37,E.u42,E.f57,E.f56,E.f59,E.f60],mY,nj,mF,nc,mS,ng,mh,iQ,mz,mi,iF,iw,mT,iX,iZ,mE,mJ,r9,kJ,pL,pY,pN,rK,oV,rF,rb
theorem KF:cj P w mg base E.f62.F E.f62.b 1 (xl ad):=by
 exists xa,E.f62,[],iN
theorem Ix:cj P w mg base E.f63.F E.f63.b 35 (Ax ad):=by
 have:=Js E;have:=KF E;have:=gj E;have:=IE E;have:=Im E
 exists xc,E.f63,[E.f43,E.f61,E.f44,E.f37,E.f62,E.u29,E.u38],iP,iy,iU,iK,lD,li,kI,iu,lq,kK,gs,kP,qO
end
end _T
namespace _3
open PySem _2
theorem aO{T:Sd}{EE:DX}{ds:List D}{M:Mem}{Q:DK}{b:BxQ EE Q}{d:D}(c:∀Q' E',Q' d M->T ds M Q' E')(h:Q d M):calls T EE ds M Q b:=
 aq λQ' E' a _=>c Q' E' (a d M h)
theorem bo{α:Type}{xs:List α}{i:Int}(h:0<=i):atI xs i=xs[i.toNat]?:=by
 unfold atI rS;rw[if_pos h]
 by_cases a:i<xs.length
 .rw[if_pos a];rfl
 .rw[if_neg a,Pr (by lia)];rfl
@[simp] theorem atI_0 {α:Type} {xs:List α}:atI xs 0=xs[0]?:=bo (by decide)
@[simp] theorem atI_1 {α:Type} {xs:List α}:atI xs 1=xs[1]?:=bo (by decide)
@[simp] theorem atI_2 {α:Type} {xs:List α}:atI xs 2=xs[2]?:=bo (by decide)
@[simp] theorem atI_3 {α:Type} {xs:List α}:atI xs 3=xs[3]?:=bo (by decide)
@[simp] theorem atI_4 {α:Type} {xs:List α}:atI xs 4=xs[4]?:=bo (by decide)
theorem ca{g:j8}{i:aD}{DD:DEnds}{ok:Mem->Prop}{b:BxF g i DD ok}(I:List D->Dl->Mem->Prop)(c:∀xs U M,I xs U M->ok M)(j:∀U M,I [] U M->DD.nx U M)
  (f:∀x xs U M,I (x::xs) U M->∀D':DEnds,(∀a M',I xs a M'->D'.nx a M')->(∀a M',I xs a M'->D'.ct a M')->D'.rt=DD.rt->D'.bk=DD.nx->g x U M λδ2 M2=>i D' δ2 M2):∀xs U M,I xs U M->gL g i DD ok b xs U M
 |[],U,M,h=>⟨c _ _ _ h,j U M h⟩
 |x::xs,U,M,h=>⟨c _ _ _ h,f x xs U M h _ (λa M' e=>ca I c j f xs a M' e) (λa M' e=>ca I c j f xs a M' e) rfl rfl⟩
theorem cN{g:j8}{tt:eW}{te:bp}{ok:Mem->Prop}{Q:List D->Mem->Prop}{b:BxC g tt te ok Q}(I:List D->List D->Dl->Mem->Prop)(e:∀xs W2 U M,I xs W2 U M->ok M)(m:∀W2 U M,I [] W2 U M->Q W2 M)
  (j:∀x xs W2 U M,I (x::xs) W2 U M->∀N:Bool->D->Dl->Mem->Prop,(∀y a M',W2.length<sizeLine->I xs (W2++[y]) a M'->N true y a M')->(∀y a M',I xs W2 a M'->N eC y a M')->g x U M λδ2 M2=>tt δ2 M2 λc M3=>if c=true then te δ2 M3 λy M4=>N true y δ2 M4 else N eC .non δ2 M3)
  (n:∀x xs W2 U M,I (x::xs) W2 U M->W2.length<sizeLine):∀xs W2 U M,I xs W2 U M->cq g tt te ok Q b xs W2 U M
 |[],W2,U,M,h=>⟨e _ _ _ _ h,m W2 U M h⟩
 |x::xs,W2,U,M,h=>⟨e _ _ _ _ h,j x xs W2 U M h (λk y a M'=>if k=true then W2.length<sizeLine/\cq g tt te ok Q b xs (W2++[y]) a M' else cq g tt te ok Q b xs W2 a M')
   (λy a M' f i=>by rw[if_pos rfl];exact⟨f,cN I e m j n xs _ a M' i⟩) (λy a M' i=>by rw[if_neg (by simp)];exact cN I e m j n xs _ a M' i) |> λz=>by simpa using z⟩
theorem bf{n:Nat}(h:n<=1000000):n<=sizeLine:=OQ h (by decide)
theorem jr{n:Nat}(h:n<1000000):n<sizeLine:=OA h (by decide)
end _3
namespace _T
open PySem _2 _3
variable{v:Int}{x:Str}{n:cy}
inductive Rw where
 |put (x:Str) (k:Int)|take (x:Str) (i:Int)|pick (x y:Str)|two (w x y z:Str)|ifr (x:Str) (a b:List Rw)|again (x:Str) (a:List Rw)
mutual
def Rw.d:Rw->D
 |.put x k=>.tup [.str "put",.str x,.int k]
 |.take x i=>.tup [.str "take",.str x,.int i]
 |.pick x y=>.tup [.str "pick",.str x,.str y]
 |.two w x y z=>.tup [.str w,.str x,.str y,.str z]
 |.ifr x a b=>.tup [.str "if",.str x,.tup (aw a),.tup (aw b)]
 |.again x a=>.tup [.str "again",.str x,.tup (aw a)]
def aw:List Rw->List D
 |[]=>[]
 |r::rs=>r.d::aw rs
end
theorem gE:∀a:List Rw,aw a=a.map Rw.d
 |[]=>rfl
 |r::a=>by rw[aw,gE a];rfl
abbrev cy:=List (Str×Int)
def gN(n:cy)(x:Str):Option Int:=(n.find? λp=>decide (p.1=x)).map (·.2)
def nm(n:cy)(x:Str):Int:=(gN n x).getD 0
def sN(n:cy)(x:Str)(v:Int):cy:=n.map λp=>if p.1=x then (p.1,v) else p
def dN(n:cy):List (aF×D):=n.map λp=>(OR p.1,D.int p.2)
theorem Ho:∀{n:cy}{x:Str},x∈n.map (·.1)->gN n x=ap (nm n x)
 |[],_,h=>by simp at h
 |(y,v)::n,x,h=>by
  by_cases e:y=x
  .simp[gN,nm,e]
  .have:=Ho (n:=n) (x:=x) (by simpa [OW e,eq_comm,e] using h)
   simpa [gN,nm,e] using this
theorem b_:∀{n:cy}{x:Str},cM (dN n) (OR x)=(gN n x).map D.int
 |[],x=>rfl
 |(y,v)::n,x=>by
  by_cases e:y=x
  .simp[cM,dN,gN,e]
  .have:=b_ (n:=n) (x:=x)
   simpa [cM,dN,gN,e] using this
theorem C3:∀{n:cy}{x:Str},x∈n.map (·.1)->((dN n).any λkv=>decide (kv.1=OR x))=true
 |[],_,h=>by simp at h
 |(y,v)::n,x,h=>by
  by_cases e:y=x
  .simp[dN,e]
  .have:=C3 (n:=n) (x:=x) (by simpa [OW e,eq_comm,e] using h)
   simp only[dN,Ou,Qi,Bool.or_eq_true]at this ⊢;exact .inr this
theorem kT(h:x∈n.map (·.1)):eD (dN n) (OR x) (.int v)=dN (sN n x v):=by
 unfold eD;rw[C3 h,if_pos rfl];simp only[dN,sN,P7];apply PF;intro p _
 by_cases e:p.1=x
 .simp[e]
 .simp[e]
theorem i9:(sN n x v).map (·.1)=n.map (·.1):=by
 simp only[sN,P7];apply PF;intro p _
 by_cases e:p.1=x<;>simp[e]
theorem Og{y:Str}(h:x∈n.map (·.1)):gN (sN n x v) y=if y=x then ap v else gN n y:=by
 induction n with
 |nil=>simp at h
 |cons p n ih=>
  obtain⟨k,u⟩:=p
  by_cases e:k=x
  .subst e
   by_cases a:y=k
   .subst a;simp[gN,sN]
   .simp only[if_neg a]
    have c:¬k=y:=λz=>a z.symm
    by_cases b:k∈n.map (·.1)
    .have:=ih b
     simpa [gN,sN,c,if_neg a] using this
    .simp only[gN,sN,Ou,if_pos,PX,c,decide_false]
     congr 1;have:n.map (λp=>if p.1=k then (p.1,v) else p)=n:=by
      conv=>rhs;rw[<- Qe n]
      apply PF;intro p g;have:p.1≠k:=λz=>b (by rw[<- z];exact Ry g)
      simp[this]
     rw[this]
  .have b:x∈n.map (·.1):=by simpa [OW e,eq_comm,e] using h
   have:=ih b
   by_cases a:y=x
   .subst a;simpa [gN,sN,e] using this
   .by_cases f:k=y
    .subst f;simp[gN,sN,e]
    .simpa [gN,sN,e,f,a] using this
structure Cf where
 m:Int
 pieces:List Int
 most:Nat
structure Sx where
 nums:cy
 steps:List (List Int×Int)
def yr(w:Str)(y z m:Int):Int:=if w="sum" then (y+z) % m else if w="by" then y*z % m else if w="less" then (if y<z then 1 else 0) else if y=z then 1 else 0
def num(c:Cf)(n:cy):Rw->Int
 |.put _ k=>k
 |.take _ i=>(c.pieces[i.toNat]?).getD 0
 |.pick _ y=>(c.pieces[(nm n y % (c.pieces.length:Int)).toNat]?).getD 0
 |.two w _ y z=>yr w (nm n y) (nm n z) c.m
 |_=>0
def d_:Rw->Str
 |.put x _=>x
 |.take x _=>x
 |.pick x _=>x
 |.two _ x _ _=>x
 |.ifr x _ _=>x
 |.again x _=>x
def nt(c:Cf)(pl:W7)(v:Int)(s:Sx):Bool×Sx:=if s.steps.length<c.most then (true,⟨s.nums,s.steps++[(pl,v)]⟩) else (eC,s)
def lk(n:cy)(x:Str):Int:=if nm n x=0 then 0 else 1
def eP(c:Cf)(x:Str)(pl:W7)(body:Nat->Sx->Bool×Sx):Nat->Nat->Sx->Bool×Sx
 |0,_,s=>(eC,s)
 |f+1,t,s=>if (nt c (pl++[(t:Int)]) (lk s.nums x) s).1=true then
   (if lk s.nums x=1 then
    (if (body t (nt c (pl++[(t:Int)]) (lk s.nums x) s).2).1=true then eP c x pl body f (t+1) (body t (nt c (pl++[(t:Int)]) (lk s.nums x) s).2).2 else body t (nt c (pl++[(t:Int)]) (lk s.nums x) s).2)
   else nt c (pl++[(t:Int)]) (lk s.nums x) s)
  else nt c (pl++[(t:Int)]) (lk s.nums x) s
mutual
def gD(c:Cf):Rw->List Int->Sx->Bool×Sx
 |.ifr x a b,pl,s=>if (nt c pl (lk s.nums x) s).1=true then (if lk s.nums x=1 then bM c a (pl++[lk s.nums x]) 0 (nt c pl (lk s.nums x) s).2 else bM c b (pl++[lk s.nums x]) 0 (nt c pl (lk s.nums x) s).2) else nt c pl (lk s.nums x) s
 |.again x a,pl,s=>eP c x pl (λt s=>bM c a (pl++[(t:Int)]) 0 s) (c.most+1) 0 s
 |.put x k,pl,s=>if (nt c pl (num c s.nums<|.put x k) s).1=true then (true,⟨sN s.nums x (num c s.nums<|.put x k),(nt c pl (num c s.nums<|.put x k) s).2.steps⟩) else nt c pl (num c s.nums<|.put x k) s
 |.take x i,pl,s=>if (nt c pl (num c s.nums<|.take x i) s).1=true then (true,⟨sN s.nums x (num c s.nums<|.take x i),(nt c pl (num c s.nums<|.take x i) s).2.steps⟩) else nt c pl (num c s.nums<|.take x i) s
 |.pick x y,pl,s=>if (nt c pl (num c s.nums<|.pick x y) s).1=true then (true,⟨sN s.nums x (num c s.nums<|.pick x y),(nt c pl (num c s.nums<|.pick x y) s).2.steps⟩) else nt c pl (num c s.nums<|.pick x y) s
 |.two w x y z,pl,s=>if (nt c pl (num c s.nums<|.two w x y z) s).1=true then (true,⟨sN s.nums x (num c s.nums<|.two w x y z),(nt c pl (num c s.nums<|.two w x y z) s).2.steps⟩) else nt c pl (num c s.nums<|.two w x y z) s
def bM(c:Cf):List Rw->List Int->Nat->Sx->Bool×Sx
 |[],_,_,s=>(true,s)
 |r::rs,pl,j,s=>if (gD c r (pl++[(j:Int)]) s).1=true then bM c rs pl (j+1) (gD c r (pl++[(j:Int)]) s).2 else gD c r (pl++[(j:Int)]) s
end
def hV(c:Cf)(r:Rw)(pl:W7)(s:Sx):Bool×Sx:=if s.steps.length<c.most then (true,⟨sN s.nums (d_ r) (num c s.nums r),s.steps++[(pl,num c s.nums r)]⟩) else (eC,s)
def bi:Rw->Bool
 |.ifr _ _ _=>eC
 |.again _ _=>eC
 |_=>true
theorem bT{c:Cf}{r:Rw}{pl:W7}{s:Sx}(h:bi r=true):gD c r pl s=hV c r pl s:=by
 cases r with
 |ifr x a b=>simp[bi]at h
 |again x a=>simp[bi]at h
 |put x k=>simp only[gD,hV,nt,d_];split<;>simp_all
 |take x k=>simp only[gD,hV,nt,d_];split<;>simp_all
 |pick x k=>simp only[gD,hV,nt,d_];split<;>simp_all
 |two w x y z=>simp only[gD,hV,nt,d_];split<;>simp_all
theorem ofs_inj(a b:String):(PH a=PH b)=(a=b):=by
 refine propext ⟨λh=>?_,λh=>by rw[h]⟩
 rw[Str.ofString_eq_byList]at h;have c:=congrArg (λx:Str=>x.cps.toList) h;simp only[Str.ofStringByList]at c;exact String.toList_inj.mp ((List.map_inj_right λx y e=>Char.toNat_inj.mp e).mp c)
end _T
open PySem _2 _3 _T
local macro_rules | `(tactic| simp! [$a,*]) => do let p <- ("ke qD lx qX uZ vZ vU vX vW qT qq qf qS pz pF qi ka pS qe pU qy gG ku iA qA pI rO qU qk gC oY rP qY qF pc qb oW p_ r8 pC rl qI p9 qj rM pM gn pq mB lK vA ni vN wj vM qa qu pR pQ lj k9 k6 gk kx lh ko iV pj lB kZ lz kY rE rj o_ iz qM qQ qE kX rD kQ k_ kG pi mv kR kA kb kH kO kS kN lg qt lU pb qg rb rF oV rK pN pY pL kJ r9 mJ mE iZ iX mT iw iF mi mz iQ mh ng mS nc mF nj mY iN qO kP gs kK lq iu kI li lD iK iU iy iP mV CS B5 Lv CN yx I0 sU Dd lA pV tV yJ Fm pJ G9 KY aJ startN ai aH ak dg Dt ah bX jy dv bj bq aP fI ac dC az nI aE h8 vY A6 oI j7 cG au aI gO ao frz aW ja gW ie vx ar ag fG b6 eY cT m9 aa af aK bO bu bK eJ cD wE eE Cw EW aX ck bn mW bU zH Mo mZ je fZ h9 cH Ic qK ju Ao JO uA cI bI aj cP fT bG fE jE bE dP dG cz fA oR vB frzs IZ qZ C5 vV".splitOn " ").toArray.mapM (fun s => `(Lean.Parser.Tactic.simpLemma| ↓$(Lean.mkIdent s.toName):ident)); let q <- ("List.map_cons List.map_nil List.cons_append List.nil_append List.length_cons List.length_nil List.getElem?_cons_succ List.getElem?_cons_zero List.set_cons_succ List.set_cons_zero Nat.zero_add Nat.reduceAdd Nat.reduceSub List.replicate_succ List.replicate_zero List.append_nil true_and and_true if_true if_false Bool.false_eq_true decide_eq_true_eq decide_eq_false_iff_not Bool.not_true Bool.not_false Bool.and_true Bool.true_and Bool.and_false Bool.false_and Mem.upd_same Option.isSome_some Option.isSome_none ofs_inj String.reduceEq".splitOn " ").toArray.mapM (fun s => `(Lean.Parser.Tactic.simpLemma| $(Lean.mkIdent s.toName):ident)); let r : Lean.TSyntaxArray [`Lean.Parser.Tactic.simpStar, `Lean.Parser.Tactic.simpErase, `Lean.Parser.Tactic.simpLemma] := (p.map (⟨·.raw⟩)) ++ (q.map (⟨·.raw⟩)) ++ a.getElems; `(tactic| simp -dsimp only [$r,*])
namespace _T
open PySem _2 _3
variable{ad:Ad}{c:Cf}{Q:DK}{E:DX}{names:W8}{M:Mem}{n:cy}
theorem jH{w:Str}{y z m:Int}(b:0<m)(i:0<=y)(g:y<1000)(h:Q (.int<|yr w y z m) M):xu ad [.str w,.int y,.int z,.int m] M Q E:=by
 have f:CMul y z:=.inl ⟨by lia,by lia⟩
 unfold yr at h;simp![My,wu]
 split
 .rename_i e;rw[if_pos e]at h;exact⟨b,am h⟩
 .rename_i e;rw[if_neg e]at h
  split
  .rename_i e;rw[if_pos e]at h;exact⟨f,b,am h⟩
  .rename_i e;rw[if_neg e]at h
   split
   .rename_i e;rw[if_pos e]at h
    split<;>rename_i a
    .rw[if_pos a]at h;exact am h
    .rw[if_neg a]at h;exact am h
   .rename_i e;rw[if_neg e]at h
    split<;>rename_i a
    .rw[if_pos a]at h;exact am h
    .rw[if_neg a]at h;exact am h
def cw(names:W8)(m many:Int):Rw->Prop
 |.put x k=>x∈names/\0<=k/\k<m
 |.take x i=>x∈names/\0<=i/\i<many
 |.pick x y=>x∈names/\y∈names/\0<many
 |.two w x y z=>(w="sum"\/w="by"\/w="less"\/w="same")/\x∈names/\y∈names/\z∈names
 |_=>False
structure NOk(names:W8)(m:Int)(n:cy):Prop where
 keys:n.map (·.1)=names
 rng:∀p∈n,0<=p.2/\p.2<m
theorem NOk.at{names:W8}{m:Int}{n:cy}(h:NOk names m n){x:Str}(f:x∈names):gN n x=ap (nm n x)/\0<=nm n x/\nm n x<m:=by
 have e:gN n x=ap (nm n x):=Ho (by rw[h.keys];exact f)
 refine⟨e,?_⟩;unfold gN at e;obtain⟨p,b,a⟩:=RZ.mp e;rw[<- a];exact h.rng p (List.mem_of_find?_eq_some b)
theorem Fw{w:Str}{y z m:Int}(g:2<=m):0<=yr w y z m/\yr w y z m<m:=by
 unfold yr;have f:=Py (y+z) (show m≠0 by lia)
 have a:=PQ (y+z) (show 0<m by lia)
 have b:=Py (y*z) (show m≠0 by lia)
 have e:=PQ (y*z) (show 0<m by lia)
 repeat' split
 all_goals lia
structure COk(c:Cf):Prop where
 m2:2<=c.m
 m1:c.m<=997
 rng:∀v∈c.pieces,0<=v/\v<c.m
 few:c.pieces.length<=1000
 most:c.most<=10000
theorem COk.piece(h:COk c){i:Nat}(a:i<c.pieces.length):c.pieces[i]?=ap ((c.pieces[i]?).getD 0)/\0<=(c.pieces[i]?).getD 0/\(c.pieces[i]?).getD 0<c.m:=by
 rw[Ov a];exact⟨rfl,h.rng _<|Qn a⟩
theorem xY(h:COk c)(g:NOk names c.m n){r:Rw}(a:cw names c.m c.pieces.length r):0<=num c n r/\num c n r<c.m:=by
 cases r with
 |put x k=>exact a.2
 |take x i=>exact(h.piece (i:=i.toNat)<|by have:=a.2;lia).2
 |pick x y=>
  have b:=a.2.2;have f:=Py (nm n y) (show (c.pieces.length:Int)≠0 by lia)
  have e:=PQ (nm n y) b;exact(h.piece (i:=(nm n y % (c.pieces.length:Int)).toNat)<|by lia).2
 |two w x y z=>exact Fw h.m2
 |ifr=>exact a.elim
 |again=>exact a.elim
def aT(c:Cf)(names:W8)(rows:List Rw)(mk:Str):D:=.tup [.int c.m,.tup (names.map D.str),.int (c.pieces.length:Nat),.tup (aw rows),.str mk]
theorem ce{rows:List Rw}{mk:Str}{b:eg}{r:Rw}(f:NOk names c.m n)(a:cw names c.m c.pieces.length r)(g:M b=ap (.dK<|dN n))(h:Q (match r with|.take _ i=>.int i|.pick _ y=>.int (nm n y % (c.pieces.length:Int))|_=>.non) M):lZ ad [aT c names rows mk,.ref b,r.d] M Q E:=by
 cases r with
 |put x k=>(simp![nU,iM,aT,Rw.d,atI_0,atI_2];exact am h)
 |take x i=>(simp![nU,iM,aT,Rw.d,atI_0,atI_2];exact am h)
 |pick x y=>
  simp![nU,iM,aT,Rw.d,atI_0,atI_2,g,b_,(f.at a.2.1).1,PJ];exact⟨a.2.2,am h⟩
 |two w x y z=>
  obtain⟨e,_⟩:=a;rcases e with rfl|rfl|rfl|rfl<;>(simp![nU,iM,aT,Rw.d,atI_0,atI_2];exact am h)
 |ifr=>exact a.elim
 |again=>exact a.elim
theorem mG{rows:List Rw}{mk:Str}{A:eg}{r:Rw}(g:COk c)(e:NOk names c.m n)(b:cw names c.m c.pieces.length r)(f:M A=ap (.dK<|dN n))(h:Q (.int<|num c n r) M):m7 ad [aT c names rows mk,.ref A,.tup (c.pieces.map D.int),r.d] M Q E:=by
 have H:=g.m1;have I:=g.m2;cases r with
 |put x k=>
  simp![jK,fS,aT,Rw.d,atI_0,atI_2];exact am h
 |take x i=>
  have a:=b;obtain⟨u,s,K⟩:=a;have o:=g.piece (i:=i.toNat) (by lia)
  have p:(c.pieces.map D.int)[i.toNat]?=ap (.int<|num c n<|.take x i):=by rw[OJ,o.1];rfl
  simp![jK,fS,aT,Rw.d,atI_0,atI_2];refine aO (d:=.int i) (λ_ _ q=>ce (c:=c) (names:=names) (rows:=rows) (mk:=mk) (r:=.take x i) e b f q) ?_;simp![bo s,p];exact am h
 |pick x y=>
  have a:=b;obtain⟨u,v,s⟩:=a;have g0:=Py (nm n y) (show (c.pieces.length:Int)≠0 by lia)
  have J:=PQ (nm n y) s;have o:=g.piece (i:=(nm n y % (c.pieces.length:Int)).toNat) (by lia)
  have p:(c.pieces.map D.int)[(nm n y % (c.pieces.length:Int)).toNat]?=ap (.int<|num c n<|.pick x y):=by rw[OJ,o.1];rfl
  simp![jK,fS,aT,Rw.d,atI_0,atI_2];refine aO (d:=.int (nm n y % (c.pieces.length:Int))) (λ_ _ q=>ce (c:=c) (names:=names) (rows:=rows) (mk:=mk) (r:=.pick x y) e b f q) ?_;simp![bo g0,p];exact am h
 |two w x y z=>
  have a:=b;obtain⟨C,u,v,F⟩:=a;have G:=e.at v;have B:=e.at F;have j:((w=PH "put")=False):=by rcases C with rfl|rfl|rfl|rfl<;>exact eq_false (by decide +kernel)
  simp![jK,fS,aT,Rw.d,atI_0,atI_2,j];refine aO (d:=.non) (λ_ _ q=>ce (c:=c) (names:=names) (rows:=rows) (mk:=mk) (r:=.two w x y z) e b f q) ?_;simp![atI_0,atI_2,atI_3,f,b_,G.1,B.1,PJ];exact aO (d:=.int (num c n<|.two w x y z)) (λ_ _ q=>jH (by lia) (by lia) (by lia) q) (am h)
 |ifr=>exact b.elim
 |again=>exact b.elim
structure Wk where
 a:eg
 dn:eg
 ls:eg
 h1:a≠dn
 h2:a≠ls
 h3:dn≠ls
def gB(l:W7):D:=.tup (l.map D.int)
def vp(l:List (List Int×Int)):List D:=l.map λp=>.tup [gB p.1,.int p.2]
def wM(ad:Ad)(k:Wk)(c:Cf)(pD:D)(s:Sx)(M:Mem):Mem:=
 ((M.upd k.a<|.ins ad.C_Walk [("plan",pD),("numbers",.ref k.dn),("pieces",.tup (c.pieces.map D.int)),("most",.int (c.most:Nat)),("steps",.ref k.ls)]).upd k.dn<|.dK<|dN s.nums).upd k.ls (.lst<|vp s.steps)
section
variable{k:Wk}{pD:D}{s:Sx}
theorem nz:wM ad k c pD s M k.a=ap (.ins ad.C_Walk [("plan",pD),("numbers",.ref k.dn),("pieces",.tup (c.pieces.map D.int)),("most",.int (c.most:Nat)),("steps",.ref k.ls)]):=by
 unfold wM;rw[ae k.h2,ae k.h1,Mem.upd_same]
theorem yu:wM ad k c pD s M k.dn=ap (.dK<|dN s.nums):=by unfold wM;rw[ae k.h3,Mem.upd_same]
theorem GS:wM ad k c pD s M k.ls=ap (.lst<|vp s.steps):=by unfold wM;rw[Mem.upd_same]
theorem BE{x:List (List Int×Int)}:(wM ad k c pD s M).upd k.ls (.lst<|vp x)=wM ad k c pD ⟨s.nums,x⟩ M:=by unfold wM;rw[Mem.upd_upd]
theorem Fx{x:cy}:(wM ad k c pD s M).upd k.dn (.dK<|dN x)=wM ad k c pD ⟨x,s.steps⟩ M:=by
 unfold wM;rw[aB (OW k.h3),Mem.upd_upd]
theorem lf0:OY ("plan":Str) [(("plan":Str),x0),(("numbers":Str),x1),(("pieces":Str),x2),(("most":Str),x3),(("steps":Str),x4)]=ap (x0:D):=rfl
theorem Ds:OY ("numbers":Str) [(("plan":Str),x0),(("numbers":Str),x1),(("pieces":Str),x2),(("most":Str),x3),(("steps":Str),x4)]=ap (x1:D):=rfl
theorem lf2:OY ("pieces":Str) [(("plan":Str),x0),(("numbers":Str),x1),(("pieces":Str),x2),(("most":Str),x3),(("steps":Str),x4)]=ap (x2:D):=rfl
theorem lf3:OY ("most":Str) [(("plan":Str),x0),(("numbers":Str),x1),(("pieces":Str),x2),(("most":Str),x3),(("steps":Str),x4)]=ap (x3:D):=rfl
theorem lf4:OY ("steps":Str) [(("plan":Str),x0),(("numbers":Str),x1),(("pieces":Str),x2),(("most":Str),x3),(("steps":Str),x4)]=ap (x4:D):=rfl
theorem lfm:OY ("note_step":Str) [(("plan":Str),x0),(("numbers":Str),x1),(("pieces":Str),x2),(("most":Str),x3),(("steps":Str),x4)]=(none:Option D):=rfl
theorem lfl:OY ("look":Str) [(("plan":Str),x0),(("numbers":Str),x1),(("pieces":Str),x2),(("most":Str),x3),(("steps":Str),x4)]=(none:Option D):=rfl
theorem fM{pl:W7}{v:Int}(h:c.most<=10000)(f:(nt c pl v s).1=true->Q .non (wM ad k c pD (nt c pl v s).2 M))(b:(nt c pl v s).1=eC->E ad.C_Dry (wM ad k c pD (nt c pl v s).2 M)):
  vR ad [.ref k.a,gB pl,.int v] (wM ad k c pD s M) Q E:=by
 unfold nt at f b;simp![u_q2,Fv,nz,GS,lf3,lf4,vp,Ot]
 split
 .rename_i e
  have:¬s.steps.length<c.most:=by lia
  rw[if_neg this]at b;exact dU (b rfl)
 .rename_i e
  have g:s.steps.length<c.most:=by lia
  rw[if_pos g]at f;refine⟨bf (by decide),jr (by lia),am ?_⟩
  have:=f rfl;rw[<- BE]at this;simpa [vp] using this
end
end _T
namespace _3
open PySem _2
def dW:Nat->List D->List D
 |_,[]=>[]
 |k,x::xs=>.tup [.int (k:Nat),x]::dW (k+1) xs
theorem tR:∀(xs:List D)(k:Nat),(xs.zipIdx k).map (λp=>D.tup [.int (p.2:Nat),p.1])=dW k xs
 |[],_=>rfl
 |x::xs,k=>by rw[Qm,Ou,tR xs (k+1)];rfl
theorem iG(xs:List D):sM xs=dW 0 xs:=tR xs 0
theorem aS{xs:List D}{M:Mem}:DIt.ok ⟨xs,[]⟩ M:=λ_ h=>by cases h
end _3
namespace _T
open PySem _2 _3
variable{ad:Ad}{ln lp rm:eg}{c:Cf}{C:Cse}{D' D0:DEnds}{K Q:DK}{E EE:DX}{U:Dl}{g:Gs}{a b hh left m many sd v:Int}{ns nums ps xs:W7}{W2 rest rows W6 rs td:List Rw}{names:W8}{u us:List aF}{o:MO}{M M' M0 N:Mem}{L fi i j n:Nat}{T:Nat->Int}{s z:Sta}{mk w x y:Str}{A:aD}{q:aF}{te:bp}{n1 n2:cy}
mutual
def cu(names:W8)(m many:Int):Rw->Prop
 |.ifr x a b=>x∈names/\bc names m many a/\bc names m many b
 |.again x a=>x∈names/\bc names m many a
 |.put x k=>cw names m many (.put x k)
 |.take x k=>cw names m many (.take x k)
 |.pick x k=>cw names m many (.pick x k)
 |.two w x y z=>cw names m many (.two w x y z)
def bc(names:W8)(m many:Int):List Rw->Prop
 |[]=>True
 |r::rs=>cu names m many r/\bc names m many rs
end
mutual
def hR:Rw->Nat
 |.ifr _ a b=>1+max (cQ a) (cQ b)
 |.again _ a=>1+cQ a
 |_=>0
def cQ:List Rw->Nat
 |[]=>0
 |r::rs=>max (hR r) (cQ rs)
end
section
theorem CA{n:cy}(f:NOk names c.m n)(B:0<=v/\v<c.m):NOk names c.m (sN n x v):=by
 refine⟨by rw[i9];exact f.keys,λp e=>?_⟩
 simp only[sN,Pa]at e;obtain⟨q,h,rfl⟩:=e
 split
 .exact B
 .exact f.rng q h
theorem fw{pl:W7}{s:Sx}:(nt c pl v s).2.nums=s.nums:=by unfold nt;split<;>rfl
theorem kh(h:COk c){r:Rw}(f:cw names c.m c.pieces.length r){pl:W7}{s:Sx}(e:NOk names c.m s.nums):NOk names c.m (hV c r pl s).2.nums:=by
 unfold hV
 split
 .exact CA e (xY h e f)
 .exact e
theorem xJ{x:Str}{pl:W7}{e:Nat->Sx->Bool×Sx}(B:∀t s,NOk names c.m s.nums->NOk names c.m (e t s).2.nums):∀(f t:Nat)(s:Sx),NOk names c.m s.nums->NOk names c.m (eP c x pl e f t s).2.nums
 |0,_,s,h=>h
 |f+1,t,s,h=>by
  have p:NOk names c.m (nt c (pl++[(t:Int)]) (lk s.nums x) s).2.nums:=by rw[fw];exact h
  unfold eP
  split
  .split
   .split
    .exact xJ B f (t+1) _ (B t _ p)
    .exact B t _ p
   .exact p
  .exact p
mutual
theorem pK(e:COk c):∀(r:Rw),cu names c.m c.pieces.length r->∀(pl:W7)(s:Sx),NOk names c.m s.nums->NOk names c.m (gD c r pl s).2.nums
 |.ifr x a b,h,pl,s,hn=>by
  have f:NOk names c.m (nt c pl (lk s.nums x) s).2.nums:=by rw[fw];exact hn
  simp only[cu]at h;unfold gD
  split
  .split
   .exact c_ e a h.2.1 _ _ _ f
   .exact c_ e b h.2.2 _ _ _ f
  .exact f
 |.again x a,h,pl,s,hn=>by
  simp only[cu]at h;unfold gD;exact xJ (λt s p=>c_ e a h.2 _ _ _ p) _ _ _ hn
 |.put x k,h,pl,s,hn=>by rw[bT rfl];exact kh e (by simpa only[cu] using h) hn
 |.take x k,h,pl,s,hn=>by rw[bT rfl];exact kh e (by simpa only[cu] using h) hn
 |.pick x k,h,pl,s,hn=>by rw[bT rfl];exact kh e (by simpa only[cu] using h) hn
 |.two w x y z,h,pl,s,hn=>by rw[bT rfl];exact kh e (by simpa only[cu] using h) hn
theorem c_(e:COk c):∀(rs:List Rw),bc names c.m c.pieces.length rs->∀(pl:W7)(j:Nat)(s:Sx),NOk names c.m s.nums->NOk names c.m (bM c rs pl j s).2.nums
 |[],_,_,_,s,hn=>by simpa only[bM] using hn
 |r::rs,h,pl,j,s,hn=>by
  simp only[bc]at h;unfold bM
  split
  .exact c_ e rs h.2 _ _ _ (pK e r h.1 _ _ hn)
  .exact pK e r h.1 _ _ hn
end
end
def Post(ad:Ad)(k:Wk)(c:Cf)(pD:D)(r:Bool×Sx)(M:Mem)(d:D)(Q:DK)(E:DX):Prop:=(r.1=true->Q d (wM ad k c pD r.2 M))/\(r.1=eC->E ad.C_Dry (wM ad k c pD r.2 M))
theorem bz{k:Wk}{f:D}{r:Bool×Sx}{d:D}{T:Sd}{ds:List D}(F:∀Q' E',Post ad k c f r M d Q' E'->T ds M0 Q' E'){b:BxQ E Q}(h:Post ad k c f r M d Q E):calls T E ds M0 Q b:=
 aq λQ' E' p B=>F Q' E' ⟨λe=>p _ _ (h.1 e),λe=>B _ _ (h.2 e)⟩
theorem Post.drp{k:Wk}{f:D}{r:Bool×Sx}{d:D}(h:Post ad k c f r M d Q E):Post ad k c f r M d (_3.drp Q) (aG E):=⟨λe=>am (h.1 e),λe=>dU (h.2 e)⟩
section
variable{k:Wk}{s:Sx}
theorem oE{pl:W7}(F:COk c)(B:NOk names c.m s.nums)(G:x∈names)(h:Post ad k c (aT c names W6 mk) (nt c pl (lk s.nums x) s) M (.int<|lk s.nums x) Q E):
  ox ad [.ref k.a,gB pl,.str x] (wM ad k c (aT c names W6 mk) s M) Q E:=by
 have p:=B.at G;have f:∀v:Int,v=lk s.nums x->calls (vR ad) (aG E) [.ref k.a,gB pl,.int v] (wM ad k c (aT c names W6 mk) s M) (λ_ M1=>_3.drp Q (.int v) M1) ⟨⟩:=by
  rintro v rfl
  exact bz (d:=.non) (λQ' E' z=>fM F.most z.1 z.2) ⟨λe=>am (h.1 e),λe=>dU (h.2 e)⟩
 simp![Nd,xb,nz,yu,Ds,lfm,b_,p.1,PJ]
 split
 .rename_i e
  exact f 0 (by unfold lk;rw[if_pos e])
 .rename_i e
  exact f 1 (by unfold lk;rw[if_neg e])
theorem jc{r:Rw}(h:cw names m many r):∃w rest,r.d=.tup (.str w::.str (d_ r)::rest)/\(w="again")=False/\(w="if")=False:=by
 cases r with
 |put x k=>exact⟨_,_,rfl,(eq_false<|by decide +kernel),(eq_false<|by decide +kernel)⟩
 |take x k=>exact⟨_,_,rfl,(eq_false<|by decide +kernel),(eq_false<|by decide +kernel)⟩
 |pick x k=>exact⟨_,_,rfl,(eq_false<|by decide +kernel),(eq_false<|by decide +kernel)⟩
 |two w x y z=>
  refine⟨_,_,rfl,?_⟩;rcases h.1 with rfl|rfl|rfl|rfl
  .exact⟨(eq_false<|by decide +kernel),(eq_false<|by decide +kernel)⟩
  .exact⟨(eq_false<|by decide +kernel),(eq_false<|by decide +kernel)⟩
  .exact⟨(eq_false<|by decide +kernel),(eq_false<|by decide +kernel)⟩
  .exact⟨(eq_false<|by decide +kernel),(eq_false<|by decide +kernel)⟩
 |ifr=>exact h.elim
 |again=>exact h.elim
theorem dj{pl:W7}{r:Rw}(W:names.length<=1000)(R:COk c)(J:NOk names c.m s.nums)(p:cw names c.m c.pieces.length r)(h:Post ad k c (aT c names W6 mk) (hV c r pl s) M .non Q E):
  U4 ad (n+1) [.ref k.a,r.d,gB pl] (wM ad k c (aT c names W6 mk) s M) Q E:=by
 obtain⟨w,rest,P,H,G⟩:=jc p;have fin:calls (m7 ad) (aG E) [aT c names W6 mk,.ref k.dn,.tup (c.pieces.map D.int),r.d] (wM ad k c (aT c names W6 mk) s M) (λd M'=>frz d M' λx M1=>
   ag 3 x [ap (.ref k.a),ap r.d,ap (gB pl),cm] M1 λU M2=>ai (bn<|cP ad.C_Walk "note_step" (vR ad) (aG E) 3 (ac 0)<|aa (ac 2)<|aa (ac 3) af)
    (ar (ac 3)<|cT (aX ad.C_Walk (ac 0) "numbers")<|ah au (ac 1)<|dC<|.int 1) { nx:=λ_ M'=>_3.drp Q .non M',rt:=_3.drp Q } U M2) ⟨⟩:=by
  refine aO (d:=.int (num c s.nums r)) (λ_ _ q=>mG R J p yu q) ?_;simp![nz,lfm];refine bz (r:=nt c pl (num c s.nums r) s) (d:=.non) (λQ' E' z=>fM R.most z.1 z.2) ?_;unfold hV at h;unfold nt;have B:d_ r∈s.nums.map (·.1):=by
   rw[J.keys];cases r with
   |put x k=>exact p.1
   |take x k=>exact p.1
   |pick x k=>exact p.1
   |two w x y z=>exact p.2.1
   |ifr=>exact p.elim
   |again=>exact p.elim
  split
  .rename_i I
   rw[if_pos I]at h;refine⟨λ_=>?_,λe=>by simp at e⟩
   have O:=h.1 rfl;have S:wM ad k c (aT c names W6 mk) ⟨sN s.nums (d_ r) (num c s.nums r),s.steps++[(pl,num c s.nums r)]⟩ M=(wM ad k c (aT c names W6 mk) ⟨s.nums,s.steps++[(pl,num c s.nums r)]⟩ M).upd k.dn (.dK<|eD (dN s.nums) (OR<|d_ r)<|.int<|num c s.nums r):=by
    rw[kT B,Fx]
   rw[S]at O;have F:(dN s.nums).length<sizeLine:=by rw[dN,Ot,<- Ot (f:=(·.1)),J.keys];exact jr (by lia)
   rw[P];simp![nz,yu,Ds,atI_1];exact⟨F,am O⟩
  .rename_i I
   rw[if_neg I]at h;exact⟨λe=>by simp at e,λ_=>dU (h.2 rfl)⟩
 rw[P]at fin ⊢;simp![Ag,oS,nz,lf0,Ds,lf2,atI_0,H,G];exact fin
end
section
def Gr(c:Cf)(s s':Sx):Prop:=s.steps.length<=s'.steps.length/\(s.steps.length<=c.most->s'.steps.length<=c.most)
theorem Gr.refl{s:Sx}:Gr c s s:=⟨Oz _,id⟩
theorem Gr.trans{s e f:Sx}(a:Gr c s e)(b:Gr c e f):Gr c s f:=⟨OQ a.1 b.1,λh=>b.2 (a.2 h)⟩
theorem nt_gr{pl:W7}{s:Sx}:Gr c s (nt c pl v s).2:=by
 unfold nt
 split
 .refine⟨by simp,λ_=>?_⟩;simp;lia
 .exact Gr.refl
theorem ly{r:Rw}{pl:W7}{s:Sx}:Gr c s (hV c r pl s).2:=by
 unfold hV
 split
 .refine⟨by simp,λ_=>?_⟩;simp;lia
 .exact Gr.refl
theorem yh{x:Str}{pl:W7}{e:Nat->Sx->Bool×Sx}(h:∀t s,Gr c s (e t s).2):∀(f t:Nat)(s:Sx),Gr c s (eP c x pl e f t s).2
 |0,_,s=>Gr.refl
 |f+1,t,s=>by
  unfold eP
  split
  .split
   .split
    .exact nt_gr.trans ((h t _).trans<|yh h f (t+1) _)
    .exact nt_gr.trans (h t _)
   .exact nt_gr
  .exact nt_gr
mutual
theorem rf:∀(r:Rw)(pl:W7)(s:Sx),Gr c s (gD c r pl s).2
 |.ifr x a b,pl,s=>by
  unfold gD
  split
  .split
   .exact nt_gr.trans (fC a _ _ _)
   .exact nt_gr.trans (fC b _ _ _)
  .exact nt_gr
 |.again x a,pl,s=>by
  unfold gD;exact yh (λt s=>fC a _ _ _) _ _ _
 |.put x k,pl,s=>by rw[bT rfl];exact ly
 |.take x k,pl,s=>by rw[bT rfl];exact ly
 |.pick x k,pl,s=>by rw[bT rfl];exact ly
 |.two w x y z,pl,s=>by rw[bT rfl];exact ly
theorem fC:∀(rs:List Rw)(pl:W7)(j:Nat)(s:Sx),Gr c s (bM c rs pl j s).2
 |[],_,_,s=>by unfold bM;exact Gr.refl
 |r::rs,pl,j,s=>by
  unfold bM
  split
  .exact(rf r _ _).trans (fC rs _ _ _)
  .exact rf r _ _
end
end
theorem fV{pl:W7}:D.tup (pl.map D.int++[D.int v])=gB (pl++[v]):=by simp[gB]
section
variable{k:Wk}
def yy(ad:Ad)(k:Wk)(c:Cf)(names:W8)(W6:List Rw)(mk:Str)(n:Nat):Prop:=∀(rs:List Rw)(pl:W7)(s:Sx)(M:Mem)(Q:DK)(E:DX),bc names c.m c.pieces.length rs->3*cQ rs+2<=n->pl.length+2*cQ rs+2<=1000->NOk names c.m s.nums->s.steps.length<=c.most->
 Post ad k c (aT c names W6 mk) (bM c rs pl 0 s) M .non Q E->U2 ad n [.ref k.a,.tup (aw rs),gB pl] (wM ad k c (aT c names W6 mk) s M) Q E
def Iu(ad:Ad)(k:Wk)(c:Cf)(names:W8)(W6:List Rw)(mk:Str)(n:Nat):Prop:=∀(r:Rw)(pl:W7)(s:Sx)(M:Mem)(Q:DK)(E:DX),cu names c.m c.pieces.length r->3*hR r+1<=n->pl.length+2*hR r+1<=1000->NOk names c.m s.nums->s.steps.length<=c.most->
 Post ad k c (aT c names W6 mk) (gD c r pl s) M .non Q E->U4 ad n [.ref k.a,r.d,gB pl] (wM ad k c (aT c names W6 mk) s M) Q E
def PIf(ad:Ad)(k:Wk)(c:Cf)(names:W8)(W6:List Rw)(mk:Str)(n:Nat):Prop:=∀(x:Str)(a b:List Rw)(pl:W7)(s:Sx)(M:Mem)(Q:DK)(E:DX),cu names c.m c.pieces.length (.ifr x a b)->3*hR (.ifr x a b)<=n->pl.length+2*hR (.ifr x a b)+1<=1000->NOk names c.m s.nums->s.steps.length<=c.most->
 Post ad k c (aT c names W6 mk) (gD c (.ifr x a b) pl s) M .non Q E->U5 ad n [.ref k.a,(Rw.ifr x a b).d,gB pl] (wM ad k c (aT c names W6 mk) s M) Q E
def PAg(ad:Ad)(k:Wk)(c:Cf)(names:W8)(W6:List Rw)(mk:Str)(n:Nat):Prop:=∀(x:Str)(a:List Rw)(pl:W7)(s:Sx)(M:Mem)(Q:DK)(E:DX),cu names c.m c.pieces.length (.again x a)->3*hR (.again x a)<=n->pl.length+2*hR (.again x a)+1<=1000->NOk names c.m s.nums->s.steps.length<=c.most->
 Post ad k c (aT c names W6 mk) (gD c (.again x a) pl s) M .non Q E->U6 ad n [.ref k.a,(Rw.again x a).d,gB pl] (wM ad k c (aT c names W6 mk) s M) Q E
theorem zw(X:COk c)(W:Iu ad k c names W6 mk n):yy ad k c names W6 mk (n+1):=by
 intro rs pl s M Q E p R H B F h;simp![LA,xT,cF,iG]
 refine ca (λxs U M'=>∃(f:List Rw)(j:Nat)(G:Sx)(S O:Option D),xs=dW j (aw f)/\U=[ap (.ref k.a),ap (.tup<|aw rs),ap (gB pl),S,O]/\M'=wM ad k c (aT c names W6 mk) G M/\bc names c.m c.pieces.length f/\3*cQ f+2<=n+1/\pl.length+2*cQ f+2<=1000/\NOk names c.m G.nums/\G.steps.length<=c.most/\
  Post ad k c (aT c names W6 mk) (bM c f pl j G) M .non Q E) (λ_ _ _ _=>aS) ?_ ?_ _ _ _ ⟨rs,0,s,cm,cm,rfl,rfl,rfl,p,R,H,B,F,h⟩
 .rintro U M' ⟨f,j,G,S,O,I,rfl,rfl,p,R,H,B,F,h⟩
  cases f with
  |nil=>exact am (by simpa [bM] using h.1 (by simp[bM]))
  |cons r rs=>simp[aw,dW]at I
 .rintro x xs U M' ⟨f,j,G,S,O,I,rfl,rfl,p,R,H,B,F,h⟩ D' P _ _ _
  cases f with
  |nil=>simp[aw,dW]at I
  |cons r f=>
   simp only[aw,dW,Qa]at I;obtain⟨rfl,rfl⟩:=I;simp only[bc]at p;have Y:hR r<=cQ (r::f)/\cQ f<=cQ (r::f):=by simp only[cQ];lia
   simp![gB,OG,Ot];refine⟨bf (by decide),bf (by lia),?_⟩
   rw[fV];refine bz (r:=gD c r (pl++[(j:Int)]) G) (d:=.non) (λQ' E' z=>W r (pl++[(j:Int)]) G M Q' E' p.1 (by lia) (by simp;lia) B F z) ?_
   simp only[bM]at h;cases J:(gD c r (pl++[(j:Int)]) G).1 with
   |true=>
    rw[if_pos J]at h;refine⟨λ_=>P _ _ ⟨f,j+1,_,_,_,rfl,rfl,rfl,p.2,by lia,by lia,pK X r p.1 _ _ B,(rf r _ _).2 F,h⟩,λe=>by rw[J]at e;cases e⟩
   |false=>
    rw[if_neg (by rw[J];simp)]at h
    exact⟨λe=>(by rw[J]at e;cases e),λ_=>dU (h.2 J)⟩
theorem BF(p:names.length<=1000)(H:COk c)(I:PIf ad k c names W6 mk n)(J:PAg ad k c names W6 mk n):Iu ad k c names W6 mk (n+1):=by
 intro r pl s M Q E e O B f F h;cases r with
 |put x kk=>rw[bT rfl]at h;exact dj p H f (by simpa only[cu] using e) h
 |take x kk=>rw[bT rfl]at h;exact dj p H f (by simpa only[cu] using e) h
 |pick x kk=>rw[bT rfl]at h;exact dj p H f (by simpa only[cu] using e) h
 |two w x y z=>rw[bT rfl]at h;exact dj p H f (by simpa only[cu] using e) h
 |ifr x a b=>
  have G:=λQ' E' z=>I x a b pl s M Q' E' e (by lia) B f F z
  simp only[Rw.d]at G;simp![Ag,oS,Rw.d,atI_0];exact bz G h.drp
 |again x a=>
  have G:=λQ' E' z=>J x a pl s M Q' E' e (by lia) B f F z
  simp only[Rw.d]at G;simp![Ag,oS,Rw.d,atI_0];exact bz G h.drp
theorem EC(P:COk c)(J:yy ad k c names W6 mk n):PIf ad k c names W6 mk (n+1):=by
 intro x a b pl s M Q E B O H G I h;simp only[cu]at B;simp only[hR]at O H;simp![LI,yt,Rw.d,nz,lfl,atI_1,atI_2,atI_3];refine bz (r:=nt c pl (lk s.nums x) s) (d:=.int (lk s.nums x)) (λQ' E' z=>oE P G B.1 z) ?_;have hl:lk s.nums x=0\/lk s.nums x=1:=by unfold lk;split<;>simp
 have p:NOk names c.m (nt c pl (lk s.nums x) s).2.nums:=by rw[fw];exact G
 have f:=(nt_gr (c:=c) (pl:=pl) (v:=lk s.nums x) (s:=s)).2 I;unfold gD at h;cases F:(nt c pl (lk s.nums x) s).1 with
 |false=>
  rw[if_neg (by rw[F];simp)]at h
  exact⟨λe=>(by rw[F]at e;cases e),λ_=>dU (h.2 F)⟩
 |true=>
  rw[if_pos F]at h;refine⟨λ_=>?_,λe=>by rw[F]at e;cases e⟩
  rcases hl with hl|hl
  .rw[if_neg (by rw[hl];decide)]at h
   rw[hl]at h p f ⊢;simp![atI_2,atI_3,gB,OG,Ot,show ((0:Int)=1)=False from eq_false (by decide)]
   refine⟨bf (by decide),bf (by lia),?_⟩
   rw[fV];exact bz (λQ' E' z=>J b (pl++[0]) _ M Q' E' B.2.2 (by lia) (by simp;lia) p f z) h.drp
  .rw[if_pos hl]at h
   rw[hl]at h p f ⊢;simp![atI_2,atI_3,gB,OG,Ot];refine⟨bf (by decide),bf (by lia),?_⟩
   rw[fV];exact bz (λQ' E' z=>J a (pl++[1]) _ M Q' E' B.2.1 (by lia) (by simp;lia) p f z) h.drp
end
section
variable{k:Wk}
theorem uT(hc:COk c)(ih:yy ad k c names W6 mk n):PAg ad k c names W6 mk (n+1):=by
 intro x a pl s M Q E I hn W G J h;simp only[cu]at I;simp only[hR]at hn W;simp![Oi,yf,Rw.d,dq];refine⟨c.most+1,?_⟩;unfold gD at h
 have X:∀(f t:Nat)(s:Sx)(P:eW)(S:aD)(DD:DEnds)(b:BxW P S DD),NOk names c.m s.nums->s.steps.length<=c.most->c.most<s.steps.length+f->
   P=ak (ah bX (ao<|cP ad.C_Walk "look" (ox ad) (aG E) 3 (ac 0)<|aa (ah aW (ac 2)<|aK<|aa (ac 3) af)<|aa (ah au (ac 1)<|dC<|.int 1) af)<|dC<|.int 1)->
   S=ai (bn<|aj (U2 ad n) (aG E) 3<|aa (ac 0)<|aa (ah au (ac 1)<|dC<|.int 2)<|aa (ah aW (ac 2)<|aK<|aa (ac 3) af) af) (Ao 3 (dC<|.int 1) oy)->
   DD.nx=(λ_ M'=>_3.drp Q .non M')->
   Post ad k c (aT c names W6 mk) (eP c x pl (λt s=>bM c a (pl++[(t:Int)]) 0 s) f t s) M .non Q E->
   bW P S DD b f [ap (.ref k.a),ap (.tup [.str "again",.str x,.tup (aw a)]),ap (gB pl),ap (.int (t:Int))] (wM ad k c (aT c names W6 mk) s M):=by
  intro f
  induction f with
  |zero=>intro t s P S DD b G J hf;lia
  |succ f ihf=>
   intro t s P S DD b G J hf Z Y R h;unfold bW;subst Z;simp![nz,lfl,atI_1,gB,OG,Ot];refine⟨bf (by decide),bf (by lia),?_⟩
   rw[fV];refine bz (r:=nt c (pl++[(t:Int)]) (lk s.nums x) s) (d:=.int (lk s.nums x)) (λQ' E' z=>oE hc G I.1 z) ?_;have hl:lk s.nums x=0\/lk s.nums x=1:=by unfold lk;split<;>simp
   have B:NOk names c.m (nt c (pl++[(t:Int)]) (lk s.nums x) s).2.nums:=by rw[fw];exact G
   have p:=(nt_gr (c:=c) (pl:=pl++[(t:Int)]) (v:=lk s.nums x) (s:=s)).2 J;unfold eP at h;cases H:(nt c (pl++[(t:Int)]) (lk s.nums x) s).1 with
   |false=>
    rw[if_neg (by rw[H];simp)]at h
    exact⟨λe=>(by rw[H]at e;cases e),λ_=>dU (h.2 H)⟩
   |true=>
    rw[if_pos H]at h;refine⟨λ_=>?_,λe=>by rw[H]at e;cases e⟩
    have O:(nt c (pl++[(t:Int)]) (lk s.nums x) s).2.steps.length=s.steps.length+1:=by
     unfold nt at H ⊢
     split at H
     .rename_i q;rw[if_pos q];simp
     .cases H
    rcases hl with hl|hl
    .rw[if_neg (by rw[hl];decide)]at h
     rw[hl]at h ⊢;simp![show ((0:Int)=1)=False from eq_false (by decide)]
     rw[R];rw[hl]at H;exact am (h.1 H)
    .rw[if_pos hl]at h
     rw[hl]at h B p O ⊢;simp![];subst Y;simp![atI_2,gB,OG,Ot];refine⟨bf (by decide),bf (by lia),?_⟩
     rw[fV];refine bz (r:=bM c a (pl++[(t:Int)]) 0 (nt c (pl++[(t:Int)]) 1 s).2) (λQ' E' z=>ih a (pl++[(t:Int)]) _ M Q' E' I.2 (by lia) (by simp;lia) B p z) ?_
     have hg:=fC (c:=c) a (pl++[(t:Int)]) 0 (nt c (pl++[(t:Int)]) 1 s).2;cases F:(bM c a (pl++[(t:Int)]) 0 (nt c (pl++[(t:Int)]) 1 s).2).1 with
     |true=>
      rw[if_pos F]at h;refine⟨λ_=>?_,λe=>by rw[F]at e;cases e⟩
      simp![];exact ihf (t+1) _ _ _ _ _ (c_ hc a I.2 _ _ _ B) (hg.2 p) (by have:=hg.1;lia) rfl rfl R h
     |false=>
      rw[if_neg (by rw[F];simp)]at h
      exact⟨λe=>(by rw[F]at e;cases e),λ_=>dU (h.2 F)⟩
 exact X (c.most+1) 0 s _ _ _ _ G J (by lia) rfl rfl rfl h
theorem rY(e:names.length<=1000)(f:COk c):∀n:Nat,yy ad k c names W6 mk n/\Iu ad k c names W6 mk n/\PIf ad k c names W6 mk n/\PAg ad k c names W6 mk n
 |0=>⟨λrs pl s M Q E _ h=>by lia,λr pl s M Q E _ h=>by lia,λx a b pl s M Q E _ h=>by simp only[hR]at h;lia,λx a pl s M Q E _ h=>by simp only[hR]at h;lia⟩
 |n+1=>by
  obtain⟨p,B,F,G⟩:=rY e f n;exact⟨zw f B,BF e f F G,EC f p,uT f p⟩
end
theorem tK:∀(names:W8)(nums:W7)(W2:cy),names.length=nums.length->(W2.map (·.1)++names).Nodup->
  ((names.map λx=>(OR x:aF)).zip<|nums.map D.int).foldl (λa p=>eD a p.1 p.2) (dN W2)=dN (W2++names.zip nums)
 |[],nums,W2,_,_=>by simp
 |x::names,[],W2,h,_=>by simp at h
 |x::names,v::nums,W2,h,nd=>by
  have H:x∉W2.map (·.1):=by
   have:=(SK.mp nd).2.2;exact λJ=>this x J x (by simp) rfl
  have f:((dN W2).any λF=>decide (F.1=OR x))=false:=by
   rw[List.any_eq_false];intro p B;simp only[dN,Pa]at B;obtain⟨q,I,rfl⟩:=B;simp only[decide_eq_true_eq];intro e;have:q.1=x:=Sb e;exact H (by rw[<- this];exact Ry I)
  simp only[Ou,UU,Pu];have G:eD (dN W2) (OR x) (.int v)=dN (W2++[(x,v)]):=by
   unfold eD;rw[f];simp[dN]
  rw[G,tK names nums (W2++[(x,v)]) (by simpa using h) (by simpa using nd)]
  simp
theorem dX:∀names:List Str,h9 (names.map D.str)=ap (names.map λx=>(OR x:aF))
 |[]=>rfl
 |x::names=>by simp[h9,cH,dX names]
theorem fK(h:names.length=nums.length)(e:names.Nodup):Bp (names.map λx=>(OR x:aF)) (nums.map D.int)=dN (names.zip nums):=by
 have:=tK names nums [] h (by simpa using e)
 simpa [Bp,dN] using this
theorem dp1{d:D}:bC "plan" d []=[(("plan":Str),d)]:=rfl
theorem dp2{a d:D}:bC "numbers" d [(("plan":Str),a)]=[(("plan":Str),a),(("numbers":Str),d)]:=rfl
theorem dp3{a b d:D}:bC "pieces" d [(("plan":Str),a),(("numbers":Str),b)]=[(("plan":Str),a),(("numbers":Str),b),(("pieces":Str),d)]:=rfl
theorem dp4{a b e d:D}:bC "most" d [(("plan":Str),a),(("numbers":Str),b),(("pieces":Str),e)]=[(("plan":Str),a),(("numbers":Str),b),(("pieces":Str),e),(("most":Str),d)]:=rfl
theorem dp5{a b e g d:D}:bC "steps" d [(("plan":Str),a),(("numbers":Str),b),(("pieces":Str),e),(("most":Str),g)]=[(("plan":Str),a),(("numbers":Str),b),(("pieces":Str),e),(("most":Str),g),(("steps":Str),d)]:=rfl
def bB(nums pieces:W7):D:=.tup [.tup (nums.map D.int),.tup (pieces.map D.int)]
section
theorem yT{a:eg}(P:M a=cm)(H:names.length=nums.length)(O:names.Nodup)(J:0<names.length)(I:names.length<=1000)(h:∀(k:Wk),k.a=a->M k.dn=cm->M k.ls=cm->Q .non (wM ad k c (aT c names rows mk) ⟨names.zip nums,[]⟩ M)):
  FP ad [.ref a,aT c names rows mk,bB nums c.pieces,.int (c.most:Nat)] (M.upd a<|.ins ad.C_Walk []) Q E:=by
 simp![u_q6,Fj,aT,bB,Mem.upd_upd,atI_0,atI_1,dX,Ot,dp1];refine⟨by decide,H,J,I,λdn p=>?_⟩
 have n1:a≠dn:=Mem.ne Mem.upd_same p;have F:M dn=none:=by rw[ae (OW n1)]at p;exact p
 simp![ae n1,Mem.upd_same,dp2,aB (OW n1),Mem.upd_upd,fK H O];refine⟨by simp,?_⟩
 simp![ae n1,Mem.upd_same,dp3,aB (OW n1),Mem.upd_upd];refine⟨by simp,?_⟩
 simp![ae n1,Mem.upd_same,dp4,aB (OW n1),Mem.upd_upd];refine⟨by simp,bf (by simp),λls f=>?_⟩
 have n2:a≠ls:=by
  intro e;subst e;rw[ae n1,Mem.upd_same]at f;cases f
 have G:dn≠ls:=by
  intro e;subst e;rw[Mem.upd_same]at f;cases f
 have B:M ls=none:=by rw[ae (OW G),ae (OW n2)]at f;exact f
 simp![ae n2,ae n1,Mem.upd_same,dp5];refine⟨by simp,am ?_⟩
 have:=h ⟨a,dn,ls,n1,n2,G⟩ rfl F B;have e:wM ad ⟨a,dn,ls,n1,n2,G⟩ c (aT c names rows mk) ⟨names.zip nums,[]⟩ M=(((M.upd a<|.ins ad.C_Walk [("plan",aT c names rows mk),("numbers",.ref dn),("pieces",.tup (c.pieces.map D.int)),("most",.int (c.most:Nat))]).upd dn<|.dK<|dN<|names.zip nums).upd ls<|.lst []).upd a (.ins ad.C_Walk [("plan",aT c names rows mk),("numbers",.ref dn),("pieces",.tup (c.pieces.map D.int)),("most",.int (c.most:Nat)),("steps",.ref ls)]):=by
  unfold wM;rw[aB (OW n2),aB (OW n1),Mem.upd_upd];rfl
 rw[e]at this;exact this
def di(c:Cf)(names:W8)(rows:List Rw)(nums:W7):Bool×Sx:=bM c rows [] 0 ⟨names.zip nums,[]⟩
def eI(names:W8)(r:Bool×Sx):D:=if r.1=true then .tup (names.map λx=>.int (nm r.2.nums x)) else .non
structure PlOk(c:Cf)(names:W8)(rows:List Rw)(nums:W7):Prop where
 co:COk c
 ln:names.length=nums.length
 nd:names.Nodup
 l0:0<names.length
 l1:names.length<=1000
 rng:∀v∈nums,0<=v/\v<c.m
 ok:bc names c.m c.pieces.length rows
 h:cQ rows<=7
theorem fN:∀{names:W8}{nums:W7},names.length=nums.length->(names.zip nums).map (·.1)=names
 |[],[],_=>rfl
 |[],_::_,h=>by simp at h
 |_::_,[],h=>by simp at h
 |x::xs,v::vs,h=>by simp[fN (by simpa using h)]
theorem PlOk.nok(p:PlOk c names rows nums):NOk names c.m (names.zip nums):=⟨fN p.ln,λq e=>p.rng _ (QU e).2⟩
theorem AC(p:PlOk c names rows nums)(h:∀l,M l=cm->Q (.tup [.ref l,eI names (di c names rows nums)]) (M.upd l<|.lst<|vp (di c names rows nums).2.steps)):
  uo ad [aT c names rows mk,bB nums c.pieces,.int (c.most:Nat)] M Q E:=by
 simp![MI,wy];intro a Y;refine aq λQ' E' R _=>yT Y p.ln p.nd p.l0 p.l1 λk hk J G=>R _ _ ?_;subst hk;have f:∀(I:Sx),∀b o,(M.upd k.ls<|.lst<|vp I.steps) b=ap o->wM ad k c (aT c names rows mk) I M b=ap o:=by
  intro I b o e
  by_cases S:b=k.ls
  .subst S;rw[Mem.upd_same]at e;rw[GS];exact e
  .rw[ae S]at e
   have h2:b≠k.dn:=by rintro rfl;rw[J]at e;cases e
   have h3:b≠k.a:=by rintro rfl;rw[Y]at e;cases e
   unfold wM;rw[ae S,ae h2,ae h3];exact e
 have Z:=(rY (ad:=ad) (k:=k) (W6:=rows) (mk:=mk) p.l1 p.co 24).1 rows [] ⟨names.zip nums,[]⟩ M;unfold aT at Z;simp![aT,atI_3];refine⟨bf (by decide),?_⟩
 refine aq λQ2 E2 O W=>Z Q2 E2 p.ok (by have:=p.h;lia) (by have:=p.h;simp;lia) p.nok (Qf _) ⟨λe=>O _ _ ?_,λe=>W _ _ ⟨rfl,?_⟩⟩
 .have hn:NOk names c.m (di c names rows nums).2.nums:=c_ p.co rows p.ok [] 0 ⟨names.zip nums,[]⟩ p.nok
  have P:(di c names rows nums).1=true:=e;simp![nz,lf4,atI_1,aZ]
  refine cN (λxs W2 U M'=>∃n1 n2 H,names=n1++n2/\xs=n2.map D.str/\W2=n1.map (λx=>D.int (nm (di c names rows nums).2.nums x))/\U=[H,ap (.ref k.a)]/\M'=wM ad k c (aT c names rows mk) (di c names rows nums).2 M)
   (λ_ _ _ _ _=>aS) ?_ ?_ ?_ _ _ _ _ ⟨[],names,cm,rfl,rfl,rfl,rfl,rfl⟩
  .rintro W2 U M' ⟨n1,n2,H,B,F,rfl,rfl,rfl⟩
   have:n2=[]:=by cases n2 with|nil=>rfl|cons _ _=>simp at F
   subst this;intro q R;simp![Mem.upd_upd,Mem.upd_del,aC R];refine⟨bf (by decide),⟨_,f _,?_⟩⟩
   have:=h k.ls G;unfold eI at this;rw[if_pos P]at this;have en:n1=names:=by simpa using B.symm
   rw[en];exact this
  .rintro x xs W2 U M' ⟨n1,n2,H,B,F,rfl,rfl,rfl⟩ N hN _
   cases n2 with
   |nil=>simp at F
   |cons y n2=>
    simp only[Ou,Qa]at F;obtain⟨rfl,rfl⟩:=F;have hy:y∈names:=by rw[B];simp
    simp![nz,yu,Ds,b_,(hn.at hy).1,PJ];refine hN _ _ _ ?_ ⟨n1++[y],n2,_,by simp[B],rfl,by simp,rfl,rfl⟩
    have X:=congrArg QI B;have:=p.l1;simp at X ⊢;exact jr (by lia)
  .rintro x xs W2 U M' ⟨n1,n2,H,B,F,rfl,rfl,rfl⟩
   have X:=congrArg QI B;have:=p.l1;simp at X ⊢;exact jr (by lia)
 .have P:(di c names rows nums).1=false:=e
  simp![nz,lf4];refine⟨bf (by decide),⟨_,f _,?_⟩⟩
  have:=h k.ls G;unfold eI at this;rw[if_neg (by rw[P];simp)]at this
  exact this
end
structure Pt where
 p:eg
 q:eg
 ne:p≠q
def Has(k:Pt)(M:Mem):Prop:=∃(cells:W7)(t h sd:Int),cells.length<=63/\M k.p=ap (.lst [.ref k.q,.int t,.int h,.int sd])/\M k.q=ap (.lst<|cells.map D.int)
def Dr(k:Pt)(M M':Mem):Prop:=Has k M'/\∀b,b≠k.p->b≠k.q->M' b=M b
theorem Has.refl{k:Pt}(h:Has k M):Dr k M M:=⟨h,λ_ _ _=>rfl⟩
theorem Dr.trans{k:Pt}{M1 M2:Mem}(a:Dr k M M1)(b:Dr k M1 M2):Dr k M M2:=⟨b.1,λx f e=>(b.2 x f e).trans (a.2 x f e)⟩
theorem Has.nep{k:Pt}(h:Has k M){l:eg}(f:M l=cm):l≠k.p/\l≠k.q:=by
 obtain⟨B,t,hh,sd,_,G,F⟩:=h;exact⟨λe=>(by rw[e,G]at f;cases f),λe=>(by rw[e,F]at f;cases f)⟩
theorem Has.upd{k:Pt}{l:eg}(h:Has k M)(f:l≠k.p/\l≠k.q):Has k (M.upd l o):=by
 obtain⟨e,t,hh,sd,G,F,B⟩:=h;exact⟨e,t,hh,sd,G,by rw[ae (OW f.1)];exact F,by rw[ae (OW f.2)];exact B⟩
theorem Has.del{k:Pt}{l:eg}(h:Has k M)(f:l≠k.p/\l≠k.q):Has k (M.del l):=by
 obtain⟨e,t,hh,sd,G,F,B⟩:=h;refine⟨e,t,hh,sd,G,?_,?_⟩
 .unfold Mem.del;rw[if_neg (OW f.1)];exact F
 .unfold Mem.del;rw[if_neg (OW f.2)];exact B
theorem Dr.none{k:Pt}(f:Has k M)(h:Dr k M M'){l:eg}(e:M l=cm):M' l=none:=by
 have:=f.nep e;rw[h.2 l this.1 this.2];exact e
theorem oA:∀(n:Nat)(e:W7),bq n (e.map D.int)=true
 |_,[]=>by unfold bq;rfl
 |n,c::e=>by
  rw[Ou];unfold bq;rw[oA n e];cases n<;>rfl
theorem iY(h:∀r,Q (.int r) M):mK ad [.int a,.int b] M Q E:=by
 simp![N3,yo];refine⟨.inr (by decide),.inr (by decide),by decide,⟨by decide,by decide⟩,.inr (by decide),by decide,⟨by decide,by decide⟩,am<|h _⟩
theorem C_{α:Type}{x:α}{xs:List α}:atI (x::xs) 0=ap x:=by rw[atI_0];rfl
theorem uj(h:0<m):0<=a % m/\a % m<m:=⟨Py _ (by lia),PQ _ h⟩
theorem fq{i:Int}(h:0<=i)(e:i<n):rS n i=ap i.toNat:=by unfold rS;rw[if_pos h,if_pos e]
theorem ix0:rS (n+1) 0=ap 0:=fq (by decide) (by lia)
theorem GE:rS 4 2=ap 2:=rfl
theorem cc{s u:aD}(h:s { D0 with nx:=u D0 } U M):ai s u D0 U M:=h
theorem E3{k:Pt}{t:Int}(e:U[0]?=ap (ap<|.ref k.p))(f:M k.p=ap (.lst [.ref k.q,.int t,.int hh,.int sd]))(h:D0.nx U (M.upd k.p<|.lst [.ref k.q,.int (t+1),.int hh,.int sd])):
  ar (ah aW (ah au (ac 0)<|dC<|.int 1)<|dC<|.int 1) (cT (ac 0)<|dC<|.int 1) D0 U M:=by
 simp![e,f,atI_1,fq (n:=4) (i:=1) (by decide) (by decide),show (1:Int).toNat=1 from rfl]
 exact h
theorem yz{k:Pt}{t:Int}{G:Option D}(e:0<many)(I:many<2 ^ 62)(h:M k.p=ap (.lst [.ref k.q,.int t,.int hh,.int sd]))(F:∀r,D0.rt (.int<|r % many) M)(H:D0.rt (.int<|hh % many) (M.upd k.p<|.lst [.ref k.q,.int t,.int (hh / many),.int sd])):
  (ai (aH (ak<|ah bX (ah au (ac 0)<|dC<|.int 2)<|dC<|.int 0) (az<|ah cZ (ao<|aj (mK ad) EE 2<|aa (ah au (ac 0)<|dC<|.int 3)<|aa (ah au (ac 0)<|dC<|.int 1) af)<|ac 1) aE)
  (ai (ar (ah cZ (ah au (ac 0)<|dC<|.int 2)<|ac 1)<|ag 3)
  (ai (ar (ah gY (ah au (ac 0)<|dC<|.int 2)<|ac 1)<|cT (ac 0)<|dC<|.int 2)
  (az<|ac 3)))) D0 [ap (.ref k.p),ap (.int many),G,cm] M:=by
 simp![h,atI_1,atI_2,atI_3]
 by_cases f:hh=0
 .rw[if_pos f]
  refine aq λQ' E' B _=>iY λr=>B _ _ ?_;simp![];exact⟨e,F r⟩
 .rw[if_neg f]
  simp![h,GE];exact⟨e,⟨e,by lia⟩,H⟩
theorem Ey{k:Pt}{t:Int}{cells:W7}(S:0<many)(B:M k.p=ap (.lst [.ref k.q,.int t,.int hh,.int sd]))(G:M k.q=ap (.lst<|cells.map D.int))(H:D0.nx [ap (.ref k.p),ap (.int many),cm,cm] M)(P:∀c cs,hh=0->cells=c::cs->∀r,D0.rt (.int<|r % many) (M.upd k.q<|.lst<|cs.map D.int))(R:∀c cs,hh=0->cells=c::cs->¬c<10 ^ Us 18->D0.nx [ap (.ref k.p),ap (.int many),ap (.int c),cm] ((M.upd k.q<|.lst<|cs.map D.int).upd k.p<|.lst [.ref k.q,.int t,.int c,.int sd])):
  aH (vY (ak<|ah bX (ah au (ac 0)<|dC<|.int 2)<|dC<|.int 0)<|ak<|ah jy (ah au (ac 0)<|dC<|.int 0)<|ao<|bO af) (ai (ar (mW "list" zH (ah au (ac 0)<|dC<|.int 0)<|aa (dC<|.int 0) af)<|ag 2)
   (ai (aH (ak<|ah uJ (ac 2)<|ah JI (dC<|.int 10)<|dC<|.int 18) (az<|ah cZ (ao<|aj (mK ad) EE 2<|aa (ac 2)<|aa (ah au (ac 0)<|dC<|.int 1) af)<|ac 1) aE)
   (ar (ac 2)<|cT (ac 0)<|dC<|.int 2))) aE D0 [ap (.ref k.p),ap (.int many),cm,cm] M:=by
 have f:=k.ne;simp![B,atI_2,C_]
 by_cases e:hh=0
 .rw[if_pos e]
  refine⟨bf (by decide),λp O=>?_⟩
  simp only[Mem.upd_del,aC O,G];cases cells with
  |nil=>
   simp![];exact H
  |cons c cs=>
   have I:∀F,(M.upd k.q F) k.p=ap (.lst [.ref k.q,.int t,.int hh,.int sd]):=λF=>by rw[ae f,B]
   simp![C_,B,G,I,oA,ix0,GE,List.eraseIdx_zero,List.tail_cons,atI_1,atI_2,atI_3];refine⟨⟨by decide,by decide,by decide⟩,?_⟩
   by_cases h:c<10 ^ Us 18
   .rw[if_pos h]
    refine aq λQ' E' J _=>iY λr=>J _ _ ?_;simp![];exact⟨S,P c cs e rfl r⟩
   .rw[if_neg h]
    exact R c cs e rfl h
 .rw[if_neg e]
  exact H
theorem jw{k:Pt}(hp:Has k M)(I:0<many)(S:many<2 ^ 62)(h:∀r M',0<=r->r<many->Dr k M M'->Q (.int r) M'):
  bb ad [.ref k.p,.int many] M Q E:=by
 obtain⟨cells,t,hh,sd,H,e1,X⟩:=hp;have f:=k.ne;have fin:∀(r:Int)(M':Mem)(cells':W7)(P B F:Int),cells'.length<=63->(∀b,b≠k.p->b≠k.q->M' b=M b)->M' k.p=ap (.lst [.ref k.q,.int P,.int B,.int F])->M' k.q=ap (.lst<|cells'.map D.int)->drp Q (.int<|r % many) M':=by
  intro r M' cells' P B F a1 W Z a4;exact am (h _ _ (uj I).1 (uj I).2 ⟨⟨cells',P,B,F,a1,Z,a4⟩,W⟩)
 have R:∀o,(M.upd k.p o) k.q=ap (.lst<|cells.map D.int):=λo=>by rw[ae (OW f)];exact X
 rw[ML];unfold x_;refine cc (E3 rfl e1 ?_);dsimp only;refine cc (Ey I Mem.upd_same (R _) ?_ (λc J Y O r=>?_) λc J Y O hb=>?_)
 .dsimp only
  refine yz I S Mem.upd_same (λr=>?_) ?_
  .exact fin _ _ cells _ _ _ H (λb e G=>ae e) Mem.upd_same (R _)
  .exact fin _ _ cells _ _ _ H (λb e G=>by rw[ae e,ae e]) Mem.upd_same (by rw[ae (OW f),R])
 .subst O
  exact fin _ _ J _ _ _ (by simp at H;lia) (λb e G=>by rw[ae G,ae e]) (by rw[ae f,Mem.upd_same]) Mem.upd_same
 .subst O
  dsimp only;refine yz I S Mem.upd_same (λr=>?_) ?_
  .exact fin _ _ J _ _ _ (by simp at H;lia) (λb e G=>by rw[ae e,ae G,ae e]) Mem.upd_same (by rw[ae (OW f),Mem.upd_same])
  .exact fin _ _ J _ _ _ (by simp at H;lia) (λb e G=>by rw[ae e,ae e,ae G,ae e]) Mem.upd_same (by rw[ae (OW f),ae (OW f),Mem.upd_same])
theorem F5{xs:List D}{k:Nat}:jV xs cm (ap (k:Int))=xs.take k:=by
 unfold jV;rw[HT.Cc,HT.DF,List.drop_zero,Nat.sub_zero];rcases Nat.le_total k xs.length with h|h
 .rw[Nat.min_eq_left h]
 .rw[Nat.min_eq_right h,Um (Oz _),Um h]
theorem CG(h:∀(k:Pt) M',Has k M'->(∀b,b≠k.p->b≠k.q->M' b=M b)->Q (.ref k.p) M'):xL ad [.ml (ns.map D.int)] M Q E:=by
 have B:jV (ns.map D.int) cm (ap 63)=(ns.take 63).map D.int:=by rw[List.map_take];exact F5 (k:=63)
 simp![Nr,xU,cF,B];intro a O;refine ca (λxs U M'=>∃(f:W7)(sd:Int)(F:Option D),xs=f.map D.int/\U=[ap (.ml<|ns.map D.int),ap (.int sd),F]/\M'=M) (λ_ _ _ _=>aS) ?_ ?_ _ _ _ ⟨ns.take 63,7,cm,rfl,rfl,by rw[Mem.upd_del,aC O]⟩
 .rintro U M' ⟨f,sd,F,_,rfl,rfl⟩
  simp![B];intro b R;rw[Mem.upd_del,aC R];intro q S;refine⟨bf (by decide),λp I=>?_⟩
  have ne:p≠q:=by intro e;subst e;rw[Mem.upd_same]at I;cases I
  refine am (h ⟨p,q,ne⟩ _ ⟨ns.take 63,0,0,sd,by simp;lia,Mem.upd_same,?_⟩ λb J P=>?_)
  .show ((M'.upd q _).upd p _) q=_
   rw[ae (OW ne),Mem.upd_same]
  .rw[ae J,ae P]
 .rintro x xs U M' ⟨f,sd,F,G,rfl,rfl⟩ D' H _ _ _
  cases f with
  |nil=>simp at G
  |cons c f=>
   simp only[Ou,Qa]at G;obtain⟨rfl,rfl⟩:=G;simp![];exact⟨.inr (by decide),by decide,H _ _ ⟨f,_,_,rfl,rfl,rfl⟩⟩
def alpha:Str:="abcdefghijklmnopqrstuvwxyz"
theorem BV:∀i<26,alpha.cps.toList[i]?=ap (97+i):=by decide +kernel
theorem A5:alpha.length<=sizeLine:=OQ (show alpha.length<=100 by decide +kernel) (by decide)
theorem tH{t:Nat}(I:names.length<=12)(h:∀(j:Nat)(p:j<names.length),names[j].cps[0]?=ap (97+(t+7*j) % 26)):names.Nodup:=by
 refine List.pairwise_iff_getElem.mpr λi j F p G e=>?_;have f:=h i F;have B:=h j p;rw[e,B]at f;have H:=Px f;lia
def t9(x:Str):Prop:=∃(n c:Nat),1<=n/\n<=8/\97<=c/\c<=122/\x=⟨Qv n c⟩
theorem vy{k:Pt}{many:Nat}(hp:Has k M)(h1:many<=12)(h:∀(names:W8)(M':Mem),names.length=many->names.Nodup->(∀x∈names,t9 x)->Dr k M M'->Q (.tup<|names.map D.str) M'):y3 ad [.ref k.p,.int many] M Q E:=by
 simp![MF,xX,cF];refine aq λQ' E' hq _=>jw hp (by decide) (by decide) λturn M1 t0 t1 R=>hq _ _ ?_
 simp![];refine⟨bf (by decide),λl hl=>?_⟩
 have B:=R.1.nep hl;refine⟨by lia,by lia,?_⟩
 obtain⟨t,rfl⟩:=R6 t0
 refine ca (λxs U M'=>∃(j:Nat)(W2:W8)(W c5:Option D),j<=many/\xs=(Rg j (many-j)).map (λ(i:Nat)=>D.int (0+(i:Int)))/\U=[ap (.ref k.p),ap (.int (many:Nat)),ap (.int (t:Nat)),ap (.ref l),W,c5]/\W2.length=j/\(∀(i:Nat)(P:i<W2.length),W2[i].cps[0]?=ap (97+(t+7*i) % 26))/\(∀x∈W2,t9 x)/\
  Has k M'/\M' l=ap (.lst<|W2.map D.str)/\∀b,b≠k.p->b≠k.q->b≠l->M' b=M1 b) (λ_ _ _ _=>aS) ?_ ?_ _ _ _ ⟨0,[],cm,cm,Qf _,?_,rfl,rfl,?_,by simp,R.1.upd B,Mem.upd_same,λb _ _ hb=>ae hb⟩
 .rintro U M' ⟨j,W2,W,c5,hj,e,rfl,J,hf,f,hh,O,S⟩
  have:j=many:=by
   have:=congrArg QI e;simp at this;lia
  subst this;simp![O];refine⟨M'.del l,λb o e=>?_,h W2 _ J (tH (by lia) hf) f ⟨hh.del B,λb G H=>?_⟩⟩
  .unfold Mem.del at e;split at e
   .cases e
   .exact e
  .unfold Mem.del
   split
   .rename_i e;subst e;rw[<- R.2 b G H];exact hl.symm
   .rename_i e;rw[S b G H e,R.2 b G H]
 .rintro x xs U M' ⟨j,W2,W,c5,hj,e,rfl,J,hf,f,hh,O,S⟩ D' Y _ _ _
  have hjl:j<many:=by
   have:=congrArg QI e;simp at this;lia
  obtain⟨n,hn⟩:∃n,many-j=n+1:=⟨many-j-1,by lia⟩
  rw[hn,QK,Ou,Qa]at e;obtain⟨rfl,rfl⟩:=e;have F:atI alpha.cps.toList (((t:Nat)+7*(0+(j:Int))) % 26)=ap (97+(t+7*j) % 26):=by
   have:(((t:Nat):Int)+7*(0+(j:Int))) % 26=(((t+7*j) % 26:Nat):Int):=by lia
   rw[this,bo (by lia),OF,BV _ (by lia)]
  simp only[alpha]at F;simp![F,O];refine⟨.inl (by decide),by decide,A5,?_⟩
  refine aq λQ' E' hq _=>jw hh (by decide) (by decide) λr M2 r0 r1 X=>hq _ _ ?_
  have Z:M2 l=ap (.lst<|W2.map D.str):=by rw[X.2 l B.1 B.2];exact O
  simp![Z];refine⟨by lia,by lia,by simp;exact jr (by lia),Y _ _ ⟨j+1,W2++[⟨Qv (1+r).toNat (97+(t+7*j) % 26)⟩],_,_,by lia,?_,rfl,by simp[J],?_,?_,X.1.upd B,?_,?_⟩⟩
  .rw[show many-(j+1)=n by lia]
  .intro i P
   by_cases I:i<W2.length
   .rw[List.getElem_append_left I];exact hf i I
   .have:i=W2.length:=by simp at P;lia
    subst this;rw[List.getElem_append_right (Oz _)];simp only[Nat.sub_self,Uq];rw[Array.getElem?_replicate,if_pos (by lia),J]
  .intro x hx
   rcases Pc.mp hx with hx|hx
   .exact f x hx
   .simp at hx;subst hx
    exact⟨(1+r).toNat,97+(t+7*j) % 26,by lia,by lia,by lia,by lia,rfl⟩
  .rw[Mem.upd_same];simp
  .intro b G H b3
   rw[ae b3,X.2 b G H,S b G H b3]
 .simp[dR,Rf]
 .intro i P;simp at P
@[simp] theorem atI_5 {α:Type} {xs:List α}:atI xs 5=xs[5]?:=bo (by decide)
@[simp] theorem atI_6 {α:Type} {xs:List α}:atI xs 6=xs[6]?:=bo (by decide)
@[simp] theorem atI_7 {α:Type} {xs:List α}:atI xs 7=xs[7]?:=bo (by decide)
@[simp] theorem atI_8 {α:Type} {xs:List α}:atI xs 8=xs[8]?:=bo (by decide)
theorem ki{r:Int}(f:0<=r)(h:r<names.length):∃y,y∈names/\atI (names.map D.str) r=ap (.str y):=by
 have e:r.toNat<names.length:=by lia
 refine⟨names[r.toNat],Qn e,?_⟩;rw[bo f,OJ,Ov e];rfl
structure ToldOk(names:W8)(m many:Int):Prop where
 m2:2<=m
 m1:m<=997
 n0:0<names.length
 n1:names.length<=12
 k0:0<=many
 k1:many<=40
def gP(names:W8)(m many:Int):D:=.tup [.int m,.tup (names.map D.str),.int many]
theorem aN{b:BxQ EE Q}{k:Pt}(G:Has k M)(F:0<many)(H:many<2 ^ 62)(h:∀r M',0<=r->r<many->Dr k M M'->Q (.int r) M'):calls (bb ad) EE [.ref k.p,.int many] M Q b:=
 aq λQ' E' f _=>jw G F H λr M' B e d=>f _ _ (h r M' B e d)
section
variable{k:Pt}
theorem J0(h:te U M λd M1=>D0.nx (U.set i<|some d) M1):ar te (ag i) D0 U M:=h
theorem Bo{d:D}(h:U[i]?=ap (ap d))(e:K d M):ac i U M K:=by simp only[ac,h];exact e
theorem we{c:Str}{B:aD}(f:U[i]?=ap (ap<|.str w))(p:w=c->A D0 U M)(h:w≠c->B D0 U M):aH (ak<|ah bX (ac i)<|dC<|.str c) A B D0 U M:=by
 have e:aH (ak<|ah bX (ac i)<|dC<|.str c) A B D0 U M=(if w=c then A D0 U M else B D0 U M):=by
  simp[aH,ak,ah,ac,dC,bX,bj,dv,aP,f]
 rw[e]
 by_cases q:w=c
 .rw[if_pos q];exact p q
 .rw[if_neg q];exact h q
theorem JA(e:U[0]?=ap (ap<|.ref k.p))(f:∀K:DK,K (.int v) M->te U M K)(B:Has k M)(v0:0<v)(v1:v<2 ^ 62)(h:∀r M',0<=r->r<v->Dr k M M'->K (.int r) M'):
  aj (bb ad) EE 2 (aa (ac 0)<|aa te af) U M K:=by
 simp only[aj,aa,ac,af,e];refine f _ ?_;exact⟨rfl,aN B v0 v1 h⟩
theorem Em(h:te U M λd M'=>frz d M' K):ao te U M K:=h
theorem Hq(e:U[0]?=ap (ap<|.ref k.p))(f:∀K:DK,K (.int v) M->te U M K)(B:Has k M)(v0:0<v)(v1:v<2 ^ 62)(h:∀r M',0<=r->r<v->Dr k M M'->K (.int r) M'):
  ao (aj (bb ad) EE 2<|aa (ac 0)<|aa te af) U M K:=
 Em (JA e f B v0 v1 λr M' a b d=>by simp only[frz];exact h r M' a b d)
theorem JP(H:U[0]?=ap (ap<|.ref k.p))(e:U[i]?=ap (ap<|.tup<|names.map D.str))(I:Has k M)(J:0<names.length)(n1:names.length<=12)(h:∀x M',x∈names->Dr k M M'->K (.str x) M'):
  ah au (ac i) (ao<|aj (bb ad) EE 2<|aa (ac 0)<|aa (bu bK<|aa (ac i) af) af) U M K:=by
 have f:∀K:DK,K (.int names.length) M->bu bK (aa (ac i) af) U M K:=λK B=>by
  simp![e,Ot];exact B
 simp only[ah];refine Bo e (Hq H f I (by lia) (by lia) λr M' a b d=>?_)
 obtain⟨x,F,G⟩:=ki a b;simp![G];exact h x M' F d
theorem Kd{a b:D}(f:U[i]?=ap (ap a))(e:U[j]?=ap (ap b))(h:te U M λd M'=>3<=sizeLine/\D0.rt (.tup [a,b,d]) M'):az (aK<|aa (ac i)<|aa (ac j)<|aa te af) D0 U M:=by
 simp only[az,aK,aa,af,ac,f,e];exact h
theorem ret4{a b c:D}{l:Nat}(p:U[i]?=ap (ap a))(f:U[j]?=ap (ap b))(e:U[l]?=ap (ap c))(h:te U M λd M'=>4<=sizeLine/\D0.rt (.tup [a,b,c,d]) M'):az (aK<|aa (ac i)<|aa (ac j)<|aa (ac l)<|aa te af) D0 U M:=by
 simp only[az,aK,aa,af,ac,p,f,e];exact h
theorem Er{a:Option D}{s:Dl}(h:D0.nx (a::ap (gP names m many)::ap (.int m)::ap (.tup<|names.map D.str)::ap (.int many)::s) M){b c d:Option D}:
  ar (ac 1) (fG 3<|b6 (ag 2)<|b6 (ag 3)<|b6 (ag 4) eY) D0 (a::ap (gP names m many)::b::c::d::s) M:=by
 unfold gP at h ⊢;simp![];exact h
end
def waysL:List Str:=["put","sum","by","less","same","sum","put","take","pick"]
def HJ(many:Int)(w:Str):Prop:=w="put"\/(w="sum"\/w="by"\/w="less"\/w="same")\/(0<many/\(w="take"\/w="pick"))
section
variable{k:Pt}
theorem E1(h:D0.nx (U.set 5<|some<|.lst<|waysL.map D.str) M):
  ar (ao<|bO<|aa (dC<|.str "put")<|aa (dC<|.str "sum")<|aa (dC<|.str "by")<|aa (dC<|.str "less")<|aa (dC<|.str "same")<|aa (dC<|.str "sum")<|aa (dC<|.str "put")<|aa (dC<|.str "take")<|aa (dC<|.str "pick") af) (ag 5) D0 U M:=by
 simp![];refine⟨bf (by decide),λp e=>?_⟩
 rw[Mem.upd_del,aC e];exact h
theorem L7(r:Nat)(f:r<if 0<many then 9 else 7):∃w,atI (waysL.map D.str) (r:Int)=ap (.str w)/\HJ many w:=by
 rw[bo (by lia),OF]
 by_cases e:0<many
 .rw[if_pos e]at f
  match r,f with
  |0,_=>exact⟨_,rfl,.inl rfl⟩
  |1,_=>exact⟨_,rfl,.inr<|.inl<|.inl rfl⟩
  |2,_=>exact⟨_,rfl,.inr<|.inl<|.inr<|.inl rfl⟩
  |3,_=>exact⟨_,rfl,.inr<|.inl<|.inr<|.inr<|.inl rfl⟩
  |4,_=>exact⟨_,rfl,.inr<|.inl<|.inr<|.inr<|.inr rfl⟩
  |5,_=>exact⟨_,rfl,.inr<|.inl<|.inl rfl⟩
  |6,_=>exact⟨_,rfl,.inl rfl⟩
  |7,_=>exact⟨_,rfl,.inr<|.inr ⟨e,.inl rfl⟩⟩
  |8,_=>exact⟨_,rfl,.inr<|.inr ⟨e,.inr rfl⟩⟩
 .rw[if_neg e]at f
  match r,f with
  |0,_=>exact⟨_,rfl,.inl rfl⟩
  |1,_=>exact⟨_,rfl,.inr<|.inl<|.inl rfl⟩
  |2,_=>exact⟨_,rfl,.inr<|.inl<|.inr<|.inl rfl⟩
  |3,_=>exact⟨_,rfl,.inr<|.inl<|.inr<|.inr<|.inl rfl⟩
  |4,_=>exact⟨_,rfl,.inr<|.inl<|.inr<|.inr<|.inr rfl⟩
  |5,_=>exact⟨_,rfl,.inr<|.inl<|.inl rfl⟩
  |6,_=>exact⟨_,rfl,.inl rfl⟩
theorem wayE(O:U[0]?=ap (ap<|.ref k.p))(H:U[4]?=ap (ap<|.int many))(J:U[5]?=ap (ap<|.lst<|waysL.map D.str))(I:Has k M)(h:∀w M',HJ many w->Dr k M M'->K (.str w) M'):
  ah au (ac 5) (ao<|aj (bb ad) EE 2<|aa (ac 0)<|aa (nI (ak<|ah sy (ac 4)<|dC<|.int 0) (dC<|.int 9)<|dC<|.int 7) af) U M K:=by
 have B:∀K:DK,K (.int (if 0<many then 9 else 7)) M->nI (ak<|ah sy (ac 4)<|dC<|.int 0) (dC<|.int 9) (dC<|.int 7) U M K:=λK e=>by
  simp![H]
  by_cases f:0<many
  .rw[if_pos f]at e ⊢;exact e
  .rw[if_neg f]at e ⊢;exact e
 simp only[ah];refine Bo J (Hq O B I (by split<;>decide) (by split<;>decide) λr M' a b d=>?_)
 obtain⟨r,rfl⟩:=R6 a;obtain⟨w,F,G⟩:=L7 (many:=many) r (by split at b<;>(split<;>lia))
 simp![F];exact h w M' G d
end
theorem CM{k:Pt}(X:Has k M)(W:ToldOk names m many)(h:∀(r:Rw) M',cw names m many r->Dr k M M'->Q r.d M'):sX ad [.ref k.p,gP names m many] M Q E:=by
 obtain⟨m2,m1,G,n1,Z,Y⟩:=W;rw[Nm];unfold yE;refine cc (Er ?_);dsimp only;refine cc (E1 ?_);dsimp only;refine cc (J0 (wayE rfl rfl rfl X λw M1 F d1=>?_));dsimp only;refine cc (J0 (JP rfl rfl d1.1 G n1 λx M2 f d2=>?_));dsimp only;refine cc (we rfl (λe=>?_) λB=>?_)
 .subst e
  refine Kd rfl rfl (JA rfl (λK q=>Bo rfl q) d2.1 (by lia) (by lia) λr M3 a b d3=>?_)
  exact⟨bf (by decide),am<|h (.put x r) M3 ⟨f,a,b⟩<|d1.trans<|d2.trans d3⟩
 dsimp only[aE];refine cc (we rfl (λe=>?_) λJ=>?_)
 .subst e
  have H:0<many:=by
   rcases F with e|(e|e|e|e)|e
   .exact(B e).elim
   .exact absurd e (by decide +kernel)
   .exact absurd e (by decide +kernel)
   .exact absurd e (by decide +kernel)
   .exact absurd e (by decide +kernel)
   .exact e.1
  refine Kd rfl rfl (JA rfl (λK q=>Bo rfl q) d2.1 (by lia) (by lia) λr M3 a b d3=>?_)
  exact⟨bf (by decide),am<|h (.take x r) M3 ⟨f,a,b⟩<|d1.trans<|d2.trans d3⟩
 dsimp only[aE];refine cc (J0 (JP rfl rfl d2.1 G n1 λy M3 I d3=>?_));dsimp only;refine cc (we rfl (λe=>?_) λS=>?_)
 .subst e
  have H:0<many:=by
   rcases F with e|(e|e|e|e)|e
   .exact(B e).elim
   .exact absurd e (by decide +kernel)
   .exact absurd e (by decide +kernel)
   .exact absurd e (by decide +kernel)
   .exact absurd e (by decide +kernel)
   .exact e.1
  exact Kd rfl rfl (Bo rfl ⟨bf (by decide),am<|h (.pick x y) M3 ⟨f,I,H⟩<|d1.trans<|d2.trans d3⟩)
 dsimp only[aE];have R:w="sum"\/w="by"\/w="less"\/w="same":=by
  rcases F with e|e|⟨_,e|e⟩
  .exact(B e).elim
  .exact e
  .exact(J e).elim
  .exact(S e).elim
 refine ret4 rfl rfl rfl (JP rfl rfl d3.1 G n1 λz M4 P O=>?_);exact⟨bf (by decide),am<|h (.two w x y z) M4 ⟨R,f,I,P⟩<|d1.trans<|d2.trans<|d3.trans O⟩
mutual
def Lx:Rw->Prop
 |.ifr _ a b=>(a.length<=200/\fm a)/\b.length<=200/\fm b
 |.again _ a=>a.length<=200/\fm a
 |_=>True
def fm:List Rw->Prop
 |[]=>True
 |r::rs=>Lx r/\fm rs
end
theorem LnRs_append:∀{a b:List Rw},fm (a++b)↔fm a/\fm b
 |[],b=>by simp[fm]
 |r::a,b=>by simp[fm,LnRs_append,and_assoc]
mutual
def cR:Rw->Nat
 |.ifr _ a b=>1+cRs a+cRs b
 |.again _ a=>1+cRs a
 |.put _ _=>1
 |.take _ _=>1
 |.pick _ _=>1
 |.two _ _ _ _=>1
def cRs:List Rw->Nat
 |[]=>0
 |r::rs=>cR r+cRs rs
end
theorem dA:∀{a b:List Rw},cRs (a++b)=cRs a+cRs b
 |[],b=>by simp[cRs]
 |r::a,b=>by simp only[OO,cRs,dA];lia
theorem LC{r:Rw}(h:cw names m many r):cR r=1:=by
 cases r with
 |ifr=>exact h.elim
 |again=>exact h.elim
 |_=>simp only[cR]
def Rv(rm:eg)(M:Mem)(v:Int):Prop:=M rm=ap (.lst [.int v])/\0<=v
def Kp(k:Pt)(rm:eg)(M M':Mem):Prop:=Has k M'/\(∃v:Int,M' rm=ap (.lst [.int v]))/\∀b o,b≠k.p->b≠k.q->b≠rm->M b=ap o->M' b=ap o
theorem Kp.trans{k:Pt}{M1 M2:Mem}(a:Kp k rm M M1)(b:Kp k rm M1 M2):Kp k rm M M2:=⟨b.1,b.2.1,λx o f e p h=>b.2.2 x o f e p (a.2.2 x o f e p h)⟩
structure Rm(k:Pt)(rm:eg)(M:Mem):Prop where
 h:Has k M
 n1:rm≠k.p
 n2:rm≠k.q
 v:∃v:Int,M rm=ap (.lst [.int v])
theorem Rm.kp{k:Pt}(r:Rm k rm M):Kp k rm M M:=⟨r.h,r.v,λ_ _ _ _ _ e=>e⟩
theorem Rm.go{k:Pt}(r:Rm k rm M)(d:Kp k rm M M'):Rm k rm M':=⟨d.1,r.n1,r.n2,d.2.1⟩
theorem Rm.dr{k:Pt}(r:Rm k rm M)(d:Dr k M M'):Kp k rm M M':=⟨d.1,by obtain⟨v,e⟩:=r.v;exact⟨v,by rw[d.2 rm r.n1 r.n2];exact e⟩,λb o h f _ e=>by rw[d.2 b h f];exact e⟩
theorem Rm.new{k:Pt}(r:Rm k rm M){l:eg}(f:M l=cm)(o:MO):Kp k rm M (M.upd l o):=by
 have a:=r.h.nep f;obtain⟨v,e⟩:=r.v;have b:rm≠l:=Mem.ne e f;exact⟨r.h.upd a,⟨v,by rw[ae b];exact e⟩,λc o _ _ _ e=>by rw[ae (Mem.ne e f)];exact e⟩
theorem Rm.set{k:Pt}(r:Rm k rm M)(v:Int):Kp k rm M (M.upd rm<|.lst [.int v]):=
 ⟨r.h.upd ⟨r.n1,r.n2⟩,⟨v,Mem.upd_same⟩,λc o _ _ h e=>by rw[ae h];exact e⟩
section
variable{k:Pt}
def PRo(ad:Ad)(k:Pt)(rm:eg)(names:W8)(m many:Int)(n:Nat):Prop:=∀(deep:Nat)(most:Int)(M:Mem)(Q:DK)(E:DX),deep<=4->2*(4-deep)+1<=n->0<most->most<=30->Rm k rm M->∀v:Int,Rv rm M v->
 (∀(rs:List Rw)(M':Mem),(∃v',Rv rm M' v'/\(cRs rs:Int)+v'<=v)->bc names m many rs/\fm rs->cQ rs+deep<=4->rs.length<=100->Kp k rm M M'->Q (.tup<|aw rs) M')->U7 ad n [.ref k.p,gP names m many,.ref rm,.int deep,.int most] M Q E
def PBl(ad:Ad)(k:Pt)(rm:eg)(names:W8)(m many:Int)(n:Nat):Prop:=∀(deep:Nat)(M:Mem)(Q:DK)(E:DX),deep<4->2*(4-deep)<=n->Rm k rm M->∀v:Int,Rv rm M v->
 (∀(rs:List Rw)(l:eg)(M':Mem),(∃v',Rv rm M' v'/\(cRs rs:Int)+v'<=v+4)->bc names m many rs/\fm rs->cQ rs+deep<=4->rs.length<=3->Kp k rm M M'->M' l=cm->Q (.ref l) (M'.upd l<|.lst<|aw rs))->U8 ad n [.ref k.p,gP names m many,.ref rm,.int deep] M Q E
theorem OkRs_append:∀{a b:List Rw},bc names m many (a++b)↔bc names m many a/\bc names m many b
 |[],b=>by simp[bc]
 |r::a,b=>by simp[bc,OkRs_append,and_assoc]
theorem dO:∀{a b:List Rw},cQ (a++b)=max (cQ a) (cQ b)
 |[],b=>by simp[cQ]
 |r::a,b=>by simp only[OO,cQ,dO,Nat.max_assoc]
theorem bN:∀{a b:List Rw},aw (a++b)=aw a++aw b
 |[],b=>rfl
 |r::a,b=>by simp[aw,bN]
theorem bQ:∀{a:List Rw},(aw a).length=a.length
 |[]=>rfl
 |r::a=>by simp[aw,bQ]
theorem L8{r:Rw}(h:cw names m many r):cu names m many r:=by
 cases r with
 |ifr=>exact h.elim
 |again=>exact h.elim
 |_=>simpa only[cu] using h
theorem MB{r:Rw}(h:cw names m many r):hR r=0:=by
 cases r with
 |ifr=>exact h.elim
 |again=>exact h.elim
 |_=>simp only[hR]
theorem L6{r:Rw}(h:cw names m many r):Lx r:=by
 cases r with
 |ifr=>exact h.elim
 |again=>exact h.elim
 |_=>simp only[Lx]
theorem vD(ht:ToldOk names m many)(ih:PRo ad k rm names m many n):PBl ad k rm names m many (n+1):=by
 intro e M Q E hd hn r v rv h;obtain⟨m2,m1,n0,n1,k0,k1⟩:=ht;have dd:(e:Int)+1=((e+1:Nat):Int):=by lia
 simp![Nw,wA,gP,Ot];refine aN r.h (by lia) (by lia) λr1 M1 a1 b1 O=>?_
 have R1:=r.go (r.dr O);have S:Rv rm M1 v:=⟨by rw[O.2 rm r.n1 r.n2];exact rv.1,rv.2⟩
 obtain⟨x,B,ex⟩:=ki a1 b1;simp![ex,dd];refine aq λQ' E' W _=>ih (e+1) 5 M1 Q' E' (by lia) (by lia) (by decide) (by decide) R1 v S λfirst M2 Y F h2 l2 d2=>W _ _ ?_
 obtain⟨v2,I,Y⟩:=Y;have R2:=R1.go d2;simp![];refine aN R2.h (by decide) (by decide) λw M3 a3 b3 P=>?_
 have R3:=R2.go (R2.dr P);have f:Rv rm M3 v2:=⟨by rw[P.2 rm r.n1 r.n2];exact I.1,I.2⟩
 simp![dd]
 by_cases hw:w<2
 .rw[if_pos hw]
  refine aq λQ' E' W _=>ih (e+1) 5 M3 Q' E' (by lia) (by lia) (by decide) (by decide) R3 v2 f λp M4 Z o4 h4 l4 G=>W _ _ ?_
  obtain⟨v4,R,Z⟩:=Z;simp![];refine⟨bf (by decide),bf (by decide),λl J=>am (h [.ifr x first p] l M4 ⟨v4,R,by simp only[cRs,cR];lia⟩ ?_ ?_ (by simp) ((r.dr O).trans<|d2.trans<|(R2.dr P).trans G) J)⟩
  .simp only[bc,cu,fm,Lx];exact⟨⟨⟨B,F.1,o4.1⟩,trivial⟩,⟨⟨by lia,F.2⟩,by lia,o4.2⟩,trivial⟩
  .simp only[cQ,hR];lia
 .rw[if_neg hw]
  by_cases H:w=2
  .rw[if_pos H]
   refine⟨bf (by decide),bf (by decide),λl J=>am (h [.again x first] l M3 ⟨v2,f,by simp only[cRs,cR];lia⟩ ?_ ?_ (by simp) ((r.dr O).trans<|d2.trans<|R2.dr P) J)⟩
   .simp only[bc,cu,fm,Lx];exact⟨⟨⟨B,F.1⟩,trivial⟩,⟨by lia,F.2⟩,trivial⟩
   .simp only[cQ,hR];lia
  .rw[if_neg H]
   simp only[Ot];refine aN R3.h (by lia) (by lia) λr4 M4 a4 b4 G=>?_
   have R4:=R3.go (R3.dr G);obtain⟨y,hy,ey⟩:=ki a4 b4;simp![ey];refine aN R4.h (by split<;>lia) (by split<;>lia) λr5 M5 a5 b5 d5=>?_
   have X:r5<m:=by split at b5<;>lia
   simp![];refine⟨bf (by decide),bf (by decide),bf (by decide),bf (by decide),bf (by rw[bQ];lia),bf (by decide),bf (by decide),λl J=>am ?_⟩
   have:=h [.put x r5,.put y (m-1),.again x (first++[.two "sum" x x y])] l M5 ⟨v2,⟨by rw[d5.2 rm r.n1 r.n2,G.2 rm r.n1 r.n2];exact f.1,f.2⟩,by simp only[cRs,cR,dA];lia⟩ ?_ ?_ (by simp) ((r.dr O).trans<|d2.trans<|(R2.dr P).trans<|(R3.dr G).trans<|R4.dr d5) J
   .simp only[aw,Rw.d,bN]at this
    exact this
   .simp only[bc,cu,cw,OkRs_append,fm,Lx,LnRs_append]
    exact⟨⟨⟨B,a5,X⟩,⟨hy,by lia,by lia⟩,⟨B,F.1,⟨.inl trivial,B,B,hy⟩,trivial⟩,trivial⟩,trivial,trivial,⟨by simp;lia,F.2,trivial,trivial⟩,trivial⟩
   .simp only[cQ,hR,dO];lia
theorem MM{r:Rw}:frz r.d M Q=Q r.d M:=by cases r<;>rfl
theorem yK{c:Int}(f:U[2]?=ap (ap<|.ref rm))(e:M rm=ap (.lst [.int v]))(h:D0.nx U (M.upd rm<|.lst [.int (v-c)])):
  ar (ah fF (ah au (ac 2)<|dC<|.int 0)<|dC<|.int c) (cT (ac 2)<|dC<|.int 0) D0 U M:=by
 simp![f,e,C_,ix0];exact h
theorem JU{B:aD}{deep:Int}(R:U[0]?=ap (ap<|.ref k.p))(P:U[2]?=ap (ap<|.ref rm))(O:U[3]?=ap (ap<|.int deep))(h:Has k M)(I:M rm=ap (.lst [.int v]))(J:∀M',4<v->deep<4->Dr k M M'->A D0 U M')(F:∀M',Dr k M M'->B D0 U M'):
  aH (vY (ak<|ah sy (ah au (ac 2)<|dC<|.int 0)<|dC<|.int 4)<|vY (ak<|ah uJ (ac 3)<|dC<|.int 4)<|ak<|ah bX (ao<|aj (bb ad) EE 2<|aa (ac 0)<|aa (dC<|.int 4) af)<|dC<|.int 0) A B D0 U M:=by
 simp![R,P,O,I,C_]
 by_cases e:4<v
 .rw[if_pos e]
  by_cases f:deep<4
  .rw[if_pos f]
   refine aN h (by decide) (by decide) λw M2 S W H=>?_
   simp![]
   by_cases G:w=0
   .rw[if_pos G];exact J _ e f H
   .rw[if_neg G];exact F _ H
  .rw[if_neg f];exact F _ h.refl
 .rw[if_neg e];exact F _ h.refl
theorem FG(h:U[2]?=ap (ap<|.ref rm))(p:M rm=ap (.lst [.int v]))(B:0<v->A D0 U M)(f:D0.nx U M):
  aH (ak<|ah sy (ah au (ac 2)<|dC<|.int 0)<|dC<|.int 0) A aE D0 U M:=by
 simp![h,p,C_]
 by_cases e:0<v
 .rw[if_pos e];exact B e
 .rw[if_neg e];exact f
theorem Fl{l:eg}(R:U[0]?=ap (ap<|.ref k.p))(O:U[1]?=ap (ap<|gP names m many))(J:U[5]?=ap (ap<|.ref l))(I:Has k M)(P:ToldOk names m many)(n1:l≠k.p)(n2:l≠k.q)(G:M l=ap (.lst<|aw W2))(S:W2.length<=1000)(h:∀(r:Rw) M',cw names m many r->Dr k M M'->D0.nx U (M'.upd l<|.lst (aw W2++[r.d]))):
  bn (mW "list" bU (ac 5)<|aa (ao<|aj (sX ad) EE 2<|aa (ac 0)<|aa (ac 1) af) af) D0 U M:=by
 simp![R,O,J,G];refine aq λQ' E' H _=>CM I P λe M3 f F=>H _ _ ?_;have B:M3 l=ap (.lst<|aw W2):=by rw[F.2 l n1 n2];exact G
 have fin:=h e M3 f F;have sz:(aw W2).length+1<=sizeLine:=by rw[bQ];exact jr (by lia)
 rw[MM];simp![B];exact⟨sz,fin⟩
theorem ER(ih:PBl ad k rm names m many n){l:eg}{deep:Nat}(h0:U[0]?=ap (ap<|.ref k.p))(Z:U[1]?=ap (ap<|gP names m many))(h2:U[2]?=ap (ap<|.ref rm))(W:U[3]?=ap (ap<|.int deep))(Y:U[5]?=ap (ap<|.ref l))(P:deep<4)(hn:2*(4-deep)<=n)(R:Rm k rm M)(n1:l≠k.p)(n2:l≠k.q)(X:l≠rm)(S:M l=ap (.lst<|aw W2))(ha:W2.length<=1000)(rv:Rv rm M v)(h:∀(rs:List Rw)(f:eg)(M':Mem),(∃v',Rv rm M' v'/\(cRs rs:Int)+v'<=v+4)->bc names m many rs/\fm rs->cQ rs+deep<=4->rs.length<=3->Kp k rm M M'->M' f=cm->D0.nx (U.set 5<|some<|.ref f) (M'.upd f<|.lst (aw W2++aw rs))):
  ar (ah aW (ac 5)<|ao<|aj (U8 ad n) EE 4<|aa (ac 0)<|aa (ac 1)<|aa (ac 2)<|aa (ac 3) af) (ag 5) D0 U M:=by
 simp![h0,Z,h2,W,Y];refine aq λQ' E' J _=>ih deep M Q' E' P hn R v rv λbl l2 M3 O B hh e I G=>J _ _ ?_;have H:M3 l=ap (.lst<|aw W2):=I.2.2 l _ n1 n2 X S;simp![Mem.upd_del,aC G,H];exact⟨by rw[bQ,bQ];exact bf (by lia),λf F=>h bl f M3 O B hh e I F⟩
structure RInv(k:Pt)(rm:eg)(names:W8)(m many:Int)(M:Mem)(v:Int)(deep:Nat)(n j:Nat)(W2:List Rw)(l:eg)(M':Mem):Prop where
 cv:∃v',Rv rm M' v'/\(cRs W2:Int)+v'<=v
 hj:n+j<=30
 ha:W2.length<=3*j
 ok:bc names m many W2
 ln:fm W2
 hh:cQ W2+deep<=4
 kp:Kp k rm M M'
 hm:M' l=ap (.lst<|aw W2)
 n1:l≠k.p
 n2:l≠k.q
 n3:l≠rm
 h0:M l=cm
theorem RInv.len{deep:Nat}{l:eg}(I:RInv k rm names m many M v deep n j W2 l M'):W2.length<=100:=by
 have:=I.hj;have:=I.ha;lia
theorem lF(ht:ToldOk names m many)(ih:PBl ad k rm names m many n):PRo ad k rm names m many (n+1):=by
 intro deep most M Q E hd hn h0 h1 r v0 S h;simp![Nx,xm,cF];refine⟨bf (by decide),λl O=>?_⟩
 have R1:=r.go (r.new O<|.lst []);refine aN R1.h h0 (by lia) λcnt M1 a1 b1 d1=>?_
 have H:=r.h.nep O;simp![];refine⟨by lia,by lia,?_⟩
 refine ca (λxs U M'=>∃(j:Nat)(W2:List Rw)(l:eg)(c6:Option D),RInv k rm names m many M v0 deep xs.length j W2 l M'/\U=[ap (.ref k.p),ap (gP names m many),ap (.ref rm),ap (.int deep),ap (.int most),ap (.ref l),c6]) (λ_ _ _ _=>aS) ?_ ?_ _ _ _ ⟨0,[],l,cm,⟨⟨v0,⟨?_,S.2⟩,by simp[cRs]⟩,?_,by simp,by simp only[bc],by simp only[fm],by simp only[cQ];lia,(r.new O _).trans (R1.dr d1),?_,H.1,H.2,?_,O⟩,rfl⟩
 .rintro U M' ⟨j,W2,l,c6,I,rfl⟩
  simp![I.hm];exact am (h W2 M' I.cv ⟨I.ok,I.ln⟩ I.hh I.len I.kp)
 .rintro x xs U M' ⟨j,W2,l,c6,I,rfl⟩ D' P _ _ _
  have R:=r.go I.kp;have hj:=I.hj;have ha:=I.ha;simp only[Oy]at hj;obtain⟨v,⟨hv,hv0⟩,hcv⟩:=I.cv;refine JU rfl rfl rfl R.h hv (λM2 h4 h5 G=>?_) λM2 G=>?_
  .have X:=I.kp.trans (R.dr G)
   have R2:=r.go X;refine cc (yK rfl (by rw[G.2 rm r.n1 r.n2];exact hv) ?_)
   have Y:=R2.set (v-4);dsimp only;refine ER (deep:=deep) (W2:=W2) ih rfl rfl rfl rfl rfl (by lia) (by lia) (R2.go Y) I.n1 I.n2 I.n3 (by rw[ae I.n3,G.2 l I.n1 I.n2];exact I.hm) (by lia) (v:=v-4) ⟨Mem.upd_same,by lia⟩ λbl l3 M3 c3 f hh3 len3 k3 F=>?_
   have B:=(X.trans Y).trans k3;have R3:=r.go B;have J:=R3.h.nep F;have W:l3≠rm:=by
    obtain⟨u,eu⟩:=R3.v;exact λe=>by rw[e,eu]at F;cases F
   have hM3:M l3=none:=by
    cases e:M l3 with
    |none=>rfl
    |some o=>rw[B.2.2 l3 o J.1 J.2 W e]at F;cases F
   obtain⟨v3,rv3,c3⟩:=c3;exact P _ _ ⟨j+1,W2++bl,l3,_,⟨⟨v3,⟨by rw[ae (OW W)];exact rv3.1,rv3.2⟩,by rw[dA];lia⟩,by lia,by rw[OG];lia,OkRs_append.mpr ⟨I.ok,f.1⟩,LnRs_append.mpr ⟨I.ln,f.2⟩,by rw[dO];exact OQ (SV (Nat.add_max_add_right ..).symm) (Nat.max_le.mpr ⟨I.hh,hh3⟩),B.trans (R3.new F _),by rw[Mem.upd_same,bN],J.1,J.2,W,hM3⟩,rfl⟩
  .have X:=I.kp.trans (R.dr G)
   have R2:=r.go X;have Z:M2 l=ap (.lst<|aw W2):=by rw[G.2 l I.n1 I.n2];exact I.hm
   refine FG rfl (by rw[G.2 rm r.n1 r.n2];exact hv) (λhz=>?_) ?_
   .refine cc (yK rfl (by rw[G.2 rm r.n1 r.n2];exact hv) ?_)
    have Y:=R2.set (v-1);dsimp only;refine Fl (W2:=W2) rfl rfl rfl Y.1 ht I.n1 I.n2 (by rw[ae I.n3];exact Z) (by lia) λrw1 M3 f d3=>?_
    have B:=(X.trans Y).trans ((R2.go Y).dr d3);refine P _ _ ⟨j+1,W2++[rw1],l,_,⟨⟨v-1,⟨by rw[ae (OW I.n3),d3.2 rm r.n1 r.n2,Mem.upd_same],by lia⟩,by rw[dA];simp only[cRs,LC f];lia⟩,by lia,by rw[OG,PY];lia,OkRs_append.mpr ⟨I.ok,by simp only[bc];exact⟨L8 f,trivial⟩⟩,LnRs_append.mpr ⟨I.ln,by simp only[fm];exact⟨L6 f,trivial⟩⟩,by rw[dO];simp only[cQ,MB f,Nat.max_zero,Nat.max_self];exact I.hh,?_,by rw[Mem.upd_same,bN];rfl,I.n1,I.n2,I.n3,I.h0⟩,rfl⟩
    refine⟨B.1.upd ⟨I.n1,I.n2⟩,?_,λb o h1 h2 h3 e=>?_⟩
    .obtain⟨u,eu⟩:=B.2.1
     exact⟨u,by rw[ae (OW I.n3)];exact eu⟩
    .rw[ae (Mem.ne e I.h0)];exact B.2.2 b o h1 h2 h3 e
   .exact P _ _ ⟨j,W2,l,_,⟨⟨v,⟨by rw[G.2 rm r.n1 r.n2];exact hv,hv0⟩,hcv⟩,by lia,ha,I.ok,I.ln,I.hh,X,Z,I.n1,I.n2,I.n3,I.h0⟩,rfl⟩
 .rw[d1.2 rm r.n1 r.n2,ae (λz=>by rw[<- z,S.1]at O;cases O)];exact S.1
 .simp[dR];lia
 .rw[d1.2 l H.1 H.2,Mem.upd_same];rfl
 .obtain⟨v,e⟩:=r.v
  exact λe'=>by rw[e',e]at O;cases O
theorem jt(f:ToldOk names m many):∀n:Nat,PRo ad k rm names m many n/\PBl ad k rm names m many n
 |0=>⟨λe p M Q E _ h=>by lia,λe M Q E _ h=>by lia⟩
 |n+1=>⟨lF f (jt f n).2,vD f (jt f n).1⟩
end
section
variable{k:Pt}
def Kq(k:Pt)(M M':Mem):Prop:=Has k M'/\∀b o,b≠k.p->b≠k.q->M b=ap o->M' b=ap o
theorem Kq.trans{M1 M2:Mem}(a:Kq k M M1)(b:Kq k M1 M2):Kq k M M2:=⟨b.1,λx o f e h=>b.2 x o f e (a.2 x o f e h)⟩
theorem Dr.kq(d:Dr k M M'):Kq k M M':=⟨d.1,λb o h f e=>by rw[d.2 b h f];exact e⟩
structure PlG(m many:Int)(names:W8)(rows:List Rw)(mk:Str):Prop where
 t:ToldOk names m many
 nd:names.Nodup
 ok:bc names m many rows
 h:cQ rows<=4
 cn:cRs rows<=60
 l:rows.length<=100
 ln:fm rows
 mkm:mk∈names
 one:∀x∈names,t9 x
def iW(m many:Int)(names:W8)(rows:List Rw)(mk:Str):D:=.tup [.int m,.tup (names.map D.str),.int many,.tup (aw rows),.str mk]
theorem zo(v0:0<=v)(v60:v<=60)(hp:Has k M)(h:∀(m many:Int)(names:W8)(rows:List Rw)(mk:Str)(M':Mem),PlG m many names rows mk->(cRs rows:Int)<=v->Kq k M M'->Q (iW m many names rows mk) M'):yA ad [.ref k.p,.int v] M Q E:=by
 simp![LN,w_];refine aN hp (by decide) (by decide) λx1 M1 a1 b1 d1=>?_
 simp![];refine aN d1.1 (by decide) (by decide) λx2 M2 a2 b2 d2=>?_
 simp![];refine⟨bf (by decide),λp f=>?_⟩
 rw[Mem.upd_del,aC f];refine aN d2.1 (by decide) (by decide) λS M3 a3 b3 d3=>?_
 obtain⟨m,em,m2,m1⟩:∃m:Int,atI [D.int 2,.int 3,.int (2+x1),.int (2+x2)] S=ap (.int m)/\2<=m/\m<=997:=by
  have:S=0\/S=1\/S=2\/S=3:=by lia
  rcases this with rfl|rfl|rfl|rfl
  .exact⟨2,by simp,by lia,by lia⟩
  .exact⟨3,by simp,by lia,by lia⟩
  .exact⟨2+x1,by simp,by lia,by lia⟩
  .exact⟨2+x2,by simp,by lia,by lia⟩
 simp![em];refine⟨bf (by decide),λp f=>?_⟩
 rw[Mem.upd_del,aC f];refine aN d3.1 (by decide) (by decide) λX M4 a4 b4 d4=>?_
 obtain⟨w,ew,w2,w1⟩:∃m:Int,atI [D.int 3,.int 5,.int 12] X=ap (.int m)/\0<m/\m<=12:=by
  have:X=0\/X=1\/X=2:=by lia
  rcases this with rfl|rfl|rfl
  .exact⟨3,by simp,by lia,by lia⟩
  .exact⟨5,by simp,by lia,by lia⟩
  .exact⟨12,by simp,by lia,by lia⟩
 simp![ew];refine aN d4.1 w2 (by lia) λx5 M5 a5 b5 d5=>?_
 simp![];obtain⟨nn,hnn⟩:∃nn:Nat,(1:Int)+x5=nn:=⟨(1+x5).toNat,by lia⟩
 rw[hnn];refine aq λQ' E' hq _=>vy d5.1 (by lia) λnames M6 n6 nd6 on6 d6=>hq _ _ ?_
 simp![];refine aN d6.1 (by decide) (by decide) λx7 M7 a7 b7 d7=>?_
 simp![];refine aN d7.1 (by decide) (by decide) λx8 M8 a8 b8 d8=>?_
 simp![];refine⟨bf (by decide),λp f=>?_⟩
 rw[Mem.upd_del,aC f];refine aN d8.1 (by decide) (by decide) λW M9 a9 b9 d9=>?_
 obtain⟨many,ek,k0,k1⟩:∃m:Int,atI [D.int 0,.int (1+x7),.int x8] W=ap (.int m)/\0<=m/\m<=40:=by
  have:W=0\/W=1\/W=2:=by lia
  rcases this with rfl|rfl|rfl
  .exact⟨0,by simp,by lia,by lia⟩
  .exact⟨1+x7,by simp,by lia,by lia⟩
  .exact⟨x8,by simp,by lia,by lia⟩
 simp![ek];refine⟨bf (by decide),bf (by decide),λrm J=>⟨bf (by decide),λp f=>?_⟩⟩
 rw[Mem.upd_del,aC f];have D9:=d1.trans (d2.trans<|d3.trans<|d4.trans<|d5.trans<|d6.trans<|d7.trans<|d8.trans d9);have B:=d9.1.nep J;have R9:Rm k rm (M9.upd rm<|.lst [.int v]):=⟨d9.1.upd B,B.1,B.2,v,Mem.upd_same⟩;refine aN R9.h (by decide) (by decide) λF M10 a10 b10 I=>?_
 have R10:=R9.go (R9.dr I);obtain⟨P,eo,o0,o1⟩:∃m:Int,atI [D.int 6,.int 12,.int 30] F=ap (.int m)/\0<m/\m<=30:=by
  have:F=0\/F=1\/F=2:=by lia
  rcases this with rfl|rfl|rfl
  .exact⟨6,by simp,by lia,by lia⟩
  .exact⟨12,by simp,by lia,by lia⟩
  .exact⟨30,by simp,by lia,by lia⟩
 simp![eo];have ht:ToldOk names m many:=⟨m2,m1,by lia,by lia,k0,k1⟩
 refine aq λQ' E' hq _=>(jt ht 24).1 0 P M10 Q' E' (by decide) (by decide) o0 o1 R10 v ⟨by rw[I.2 rm B.1 B.2,Mem.upd_same],v0⟩ λrows M11 R G h11 Y H=>hq _ _ ?_
 obtain⟨v11,O,R⟩:=R;have v110:=O.2;simp![Ot];refine aN H.1 (by lia) (by lia) λx12 M12 a12 b12 d12=>?_
 obtain⟨mk,hmk,Z⟩:=ki a12 b12;simp![Z];refine⟨bf (by decide),am<|h m many names rows mk M12 ⟨ht,nd6,G.1,by lia,by lia,Y,G.2,hmk,on6⟩ (by lia) ?_⟩
 refine D9.kq.trans (Kq.trans ?_ d12.kq);refine⟨H.1,λb o h1 h2 e=>?_⟩;have hb:b≠rm:=Mem.ne e J;have:=(R9.dr I).2.2 b o h1 h2 hb (by rw[ae hb];exact e)
 exact H.2.2 b o h1 h2 hb this
theorem vd(W:Has k M)(pl:PlG m many names rows mk)(h:∀(nums e:W7)(M':Mem),nums.length=names.length->(e.length:Int)=many->(∀v∈nums,0<=v/\v<m)->(∀v∈e,0<=v/\v<m)->Kq k M M'->Q (bB nums e) M'):xp ad [.ref k.p,iW m many names rows mk] M Q E:=by
 have t1:=pl.t.m1;have Y:=pl.t.m2;have X:=pl.t.n1;have Z:=pl.t.k0;have t5:=pl.t.k1;simp![MS,y9,iW,aZ,atI_1];refine cN (λxs W2 U M'=>∃(nums:W7)(G:Option D),xs.length+nums.length=names.length/\W2=nums.map D.int/\U=[G,ap (.ref k.p),ap (iW m many names rows mk)]/\Dr k M M'/\∀v∈nums,0<=v/\v<m) (λ_ _ _ _ _=>aS) ?_ ?_ ?_ _ _ _ _ ⟨[],cm,by simp,rfl,rfl,W.refl,by simp⟩
 .rintro W2 U M' ⟨nums,G,R,rfl,rfl,S,hv⟩
  intro p H;simp![Mem.upd_del,aC H,atI_2];refine⟨by lia,by lia,?_⟩
  refine cN (λxs W2 U M'=>∃(ps:W7)(G:Option D),xs.length+ps.length=many.toNat/\W2=ps.map D.int/\U=[G,ap (.ref k.p),ap (iW m many names rows mk)]/\Dr k M M'/\∀v∈ps,0<=v/\v<m) (λ_ _ _ _ _=>aS) ?_ ?_ ?_ _ _ _ _ ⟨[],cm,by simp[dR],rfl,rfl,S,by simp⟩
  .rintro W2 U M' ⟨ps,G,B,rfl,rfl,F,f⟩
   intro p H;simp![Mem.upd_del,aC H];refine⟨bf (by decide),am<|h nums ps M' (by simpa using R) (by simp at B;lia) hv f F.kq⟩
  .rintro x xs W2 U M' ⟨ps,G,B,rfl,rfl,F,f⟩ N O _
   simp![iW,atI_0];refine aN F.1 (by lia) (by lia) λr M3 I J P=>?_
   simp![];simp only[Oy]at B;refine O _ _ _ (by simp;exact jr (by lia)) ⟨ps++[r],_,by simp;lia,by simp,rfl,F.trans P,λv hv=>?_⟩
   rcases Pc.mp hv with hv|hv
   .exact f v hv
   .simp at hv;subst hv;exact⟨I,J⟩
  .rintro x xs W2 U M' ⟨ps,G,B,rfl,rfl,F,f⟩
   simp at B ⊢;exact jr (by lia)
 .rintro x xs W2 U M' ⟨ps,G,B,rfl,rfl,F,f⟩ N O _
  simp![iW,atI_0];refine aN F.1 (by lia) (by lia) λr M3 I J P=>?_
  simp![];simp only[Oy]at B;refine O _ _ _ (by simp;exact jr (by lia)) ⟨ps++[r],_,by simp;lia,by simp,rfl,F.trans P,λv hv=>?_⟩
  rcases Pc.mp hv with hv|hv
  .exact f v hv
  .simp at hv;subst hv;exact⟨I,J⟩
 .rintro x xs W2 U M' ⟨ps,G,B,rfl,rfl,F,f⟩
  simp at B ⊢;exact jr (by lia)
end
section
theorem de{tt:eW}{ok:Mem->Prop}{Q:List D->Mem->Prop}{b:BxC (ag 0) tt te ok Q}{rest:Dl}{c:Option D}{xs:List D}(p:D->Bool)(f:D->D)(S:ok M)(X:xs.length<=100000)(R:∀x∈xs,∀K:Bool->Mem->Prop,K (p x) M->tt (ap x::rest) M K)(W:∀x∈xs,p x=true->∀K:DK,K (f x) M->te (ap x::rest) M K)(h:Q ((xs.filter p).map f) M):
  cq (ag 0) tt te ok Q b xs [] (c::rest) M:=by
 refine cN (λJ W2 U N=>∃(us:List D)(B:Option D),xs=us++J/\W2=(us.filter p).map f/\U=B::rest/\M=N) (λ_ _ _ _ z=>by obtain⟨_,_,_,_,_,rfl⟩:=z;exact S) ?_ ?_ ?_ _ _ _ _ ⟨[],c,rfl,rfl,rfl,rfl⟩
 .rintro W2 U N ⟨us,B,e,rfl,rfl,rfl⟩
  rw[Pm]at e;subst e;exact h
 .rintro y J W2 U N ⟨us,B,e,rfl,rfl,rfl⟩ N' H G
  have O:y∈xs:=by rw[e];simp
  have F:=congrArg QI e;simp only[OG,Oy]at F;have P:=Ph p us;simp only[ag,OH];refine R y O _ ?_;cases I:p y with
  |true=>
   rw[if_pos rfl];exact W y O I _ (H _ _ _ (by rw[Ot];exact jr (by lia)) ⟨us++[y],_,by simp[e],by simp[I],rfl,rfl⟩)
  |false=>
   rw[if_neg (by simp)]
   exact G .non _ _ ⟨us++[y],_,by simp[e],by simp[I],rfl,rfl⟩
 .rintro y J W2 U N ⟨us,B,e,rfl,rfl,rfl⟩
  have F:=congrArg QI e;simp only[OG,Oy]at F;have P:=Ph p us;rw[Ot];exact jr (by lia)
theorem f_{ok:Mem->Prop}{Q:List D->Mem->Prop}{b:BxC (ag 0) dG te ok Q}{rest:Dl}{c:Option D}{xs:List D}(f:D->D)(B:ok M)(p:xs.length<=100000)(F:∀x∈xs,∀K:DK,K (f x) M->te (ap x::rest) M K)(h:Q (xs.map f) M):cq (ag 0) dG te ok Q b xs [] (c::rest) M:=by
 refine de (λ_=>true) f B p (λx _ K q=>q) (λx e _=>F x e) ?_;rw[QP.mpr λ_ _=>rfl];exact h
end
instance lawKey:LawfulBEq aF where
 eq_of_beq {a b} h:=by
  cases a<;>cases b
  .exact congrArg Qb (eq_of_beq (α:=Int) h)
  .cases h
  .cases h
  .exact congrArg OR (eq_of_beq (α:=Str) h)
 rfl {a}:=by
  cases a
  .exact beq_self_eq_true (α:=Int) _
  .exact beq_self_eq_true (α:=Str) _
def kD:aF->D
 |.inl i=>.int i
 |.inr x=>.str x
theorem Bv(n:Nat)(a:aF):bj n (kD a)=true:=by cases a<;>cases n<;>rfl
theorem xH(n:Nat):∀ks:List aF,bq n (ks.map kD)=true
 |[]=>by cases n<;>rfl
 |k::ks=>by simp only[Ou,bq,Bv,xH n ks,T4]
def mxD(ks:List aF):D:=.lst (ks.map kD)
structure Cse where
 w:Int
 many:Nat
 names:List Str
 rows:List Rw
 mn:Str
 most:Nat
structure Sta where
 nums:List Int
 pieces:List Int
def Sta.d(s:Sta):D:=bB s.nums s.pieces
def Cse.cf(C:Cse)(s:Sta):Cf:=⟨C.w,s.pieces,C.most⟩
def Cse.d(C:Cse):D:=.tup [.int C.w,.tup (C.names.map D.str),.int (C.many:Nat),.tup (aw C.rows),.str C.mn]
structure Cse.Ok(C:Cse):Prop where
 m2:2<=C.w
 m1:C.w<=997
 few:C.many<=100
 most:C.most<=10000
 nd:C.names.Nodup
 l0:0<C.names.length
 l1:C.names.length<=100
 ok:bc C.names C.w C.many C.rows
 h:cQ C.rows<=7
 mn:C.mn∈C.names
structure SOk(C:Cse)(s:Sta):Prop where
 ln:s.nums.length=C.names.length
 lp:s.pieces.length=C.many
 rn:∀v∈s.nums,0<=v/\v<C.w
 rp:∀v∈s.pieces,0<=v/\v<C.w
def Bh(mk:Str)(r:Bool×Sx):D:=if r.1=true then .int (nm r.2.nums mk) else .non
def Cse.run(C:Cse)(s:Sta):Bool×Sx:=di (C.cf s) C.names C.rows s.nums
def Cse.mark(C:Cse)(s:Sta):D:=Bh C.mn (C.run s)
section
theorem Cse.Ok.pl(o:C.Ok)(k:SOk C s):PlOk (C.cf s) C.names C.rows s.nums:=
 ⟨⟨o.m2,o.m1,k.rp,by show s.pieces.length<=1000;rw[k.lp];have:=o.few;lia,o.most⟩,k.ln.symm,o.nd,o.l0,by have:=o.l1;lia,k.rn,by show bc C.names C.w s.pieces.length C.rows;rw[k.lp];exact o.ok,o.h⟩
theorem SOk.pd(k:SOk C s):C.d=aT (C.cf s) C.names C.rows C.mn:=by unfold Cse.d aT Cse.cf;rw[k.lp]
theorem vi(C:Cse)(s:Sta):C.mark s=.non\/∃v,C.mark s=.int v:=by
 unfold Cse.mark Bh
 split
 .exact .inr ⟨_,rfl⟩
 .exact .inl rfl
theorem ug(h:Q (C.mark s) M):frz (C.mark s) M Q:=by rcases vi C s with e|⟨v,e⟩<;>rw[e]at h ⊢<;>exact h
theorem pB{mk:Str}:∀{names:W8},mk∈names->∃j,names.findIdx? (λy=>decide (y=mk))=ap j/\names[j]?=ap mk
 |[],h=>by simp at h
 |x::names,h=>by
  by_cases e:x=mk
  .subst e;exact⟨0,by simp[UZ],rfl⟩
  .have p:mk∈names:=by
    rcases OM.mp h with z|z
    .exact absurd z.symm e
    .exact z
   obtain⟨j,f,B⟩:=pB p;exact⟨j+1,by simp[UZ,e,f],by simpa using B⟩
theorem fh:∀names:List Str,je (names.map D.str)=ap names
 |[]=>rfl
 |x::names=>by rw[Ou,je,fh names]
def zQ(names:W8)(r:Bool×Sx):D:=.tup [.lst (vp r.2.steps),eI names r]
theorem CO{b:BxQ EE λd M'=>vB d M' Q}(p:PlOk c names rows nums)(h:Q (zQ names<|di c names rows nums) M):
  calls (uo ad) EE [aT c names rows mk,bB nums c.pieces,.int (c.most:Nat)] M (λd M'=>vB d M' Q) b:=by
 refine aq λQ' E' B _=>AC p λl f=>B _ _ ?_;unfold zQ eI at h;unfold eI;cases e:(di c names rows nums).1 with
 |true=>
  rw[e,if_pos rfl]at h;rw[if_pos rfl];simp![Mem.upd_del,aC f];exact h
 |false=>
  rw[e,if_neg (by simp)]at h
  rw[if_neg (by simp)]
  simp![Mem.upd_del,aC f];exact h
theorem zF(p:PlOk c names rows nums)(G:mk∈names)(h:Q (Bh mk<|di c names rows nums) M):n_ ad [aT c names rows mk,bB nums c.pieces,.int (c.most:Nat)] M Q E:=by
 have l1:=p.l1;obtain⟨j,F,f⟩:=pB G;simp![N7,xh];refine CO p ?_;simp![zQ,atI_1];unfold Bh at h;unfold eI;cases e:(di c names rows nums).1 with
 |true=>
  rw[e,if_pos rfl]at h;rw[if_pos rfl];simp![aT,atI_1,atI_4,fh,F];refine⟨l1,?_⟩;have B:atI (names.map λx=>D.int (nm (di c names rows nums).2.nums x)) (j:Nat)=ap (.int<|nm (di c names rows nums).2.nums mk):=by
   rw[bo (by lia),OF,OJ,f];rfl
  simp![B];exact am h
 |false=>
  rw[e,if_neg (by simp)]at h
  rw[if_neg (by simp)]
  simp![];exact am h
theorem o7{b:BxQ EE Q}(o:C.Ok)(k:SOk C s)(h:Q (C.mark s) M):calls (n_ ad) EE [C.d,s.d,.int (C.most:Nat)] M Q b:=by
 refine aO (d:=C.mark s) (λQ' E' q=>?_) h;rw[k.pd];exact zF (o.pl k) o.mn q
def bF(C:Cse)(s t:Sta):D:=.tup [C.d,s.d,t.d,.int (C.most:Nat)]
theorem Lu{C:Cse}{s t:Sta}:bF C s t=.tup [C.d,s.d,t.d,.int (C.most:Nat)]:=rfl
theorem Ay{C:Cse}:C.d=.tup [.int C.w,.tup (C.names.map D.str),.int (C.many:Nat),.tup (aw C.rows),.str C.mn]:=rfl
def cS(C:Cse):List aF:=C.names.map OR++(Pe C.many).map λ(i:Nat)=>Qb (i:Int)
def aL(C:Cse)(s:Sta):aF->Int
 |.inl i=>(s.pieces[i.toNat]?).getD 0
 |.inr x=>nm (C.names.zip s.nums) x
theorem vc:∀{names:W8}{nums:W7}{j:Nat}{x:Str},names.Nodup->names.length=nums.length->names[j]?=ap x->nums[j]?=ap (nm (names.zip nums) x)
 |[],_,j,x,_,_,h=>by simp at h
 |y::names,[],j,x,_,h,_=>by simp at h
 |y::names,v::nums,0,x,nd,hl,h=>by
  simp at h;subst h;simp[nm,gN]
 |y::names,v::nums,j+1,x,nd,hl,h=>by
  simp only[Oo]at h ⊢;have f:=Qy.mp nd;have p:¬y=x:=λe=>f.1 (e▸Rh h);rw[vc f.2 (by simpa using hl) h]
  simp[nm,gN,p]
theorem dY{k:aF}(h:k∈cS C):(∃x,x∈C.names/\k=.inr x)\/∃i:Nat,i<C.many/\k=.inl (i:Int):=by
 rcases Pc.mp h with q|q
 .obtain⟨x,f,rfl⟩:=Pa.mp q
  exact .inl ⟨x,f,rfl⟩
 .obtain⟨i,e,rfl⟩:=Pa.mp q
  exact .inr ⟨i,P2.mp e,rfl⟩
theorem ci(o:C.Ok)(k:SOk C s){t:aF}(f:t∈cS C):0<=aL C s t/\aL C s t<C.w:=by
 rcases dY f with⟨x,e,rfl⟩|⟨i,hi,rfl⟩
 .exact((o.pl k).nok.at e).2
 .exact((o.pl k).co.piece (i:=(i:Int).toNat)<|by show _<s.pieces.length;rw[k.lp];lia).2
theorem dJ(o:C.Ok)(k:SOk C s){t:aF}(F:t∈cS C)(h:Q (.int<|aL C s t) M):jA ad [C.d,s.d,kD t] M Q E:=by
 have l1:=o.l1;rcases dY F with⟨x,B,rfl⟩|⟨i,hi,rfl⟩
 .obtain⟨j,p,f⟩:=pB B
  have e:atI (s.nums.map D.int) (j:Nat)=ap (.int<|nm (C.names.zip s.nums) x):=by
   rw[bo (by lia),OF,OJ,vc o.nd k.ln.symm f];rfl
  simp![Hx,rT,kD,Cse.d,Sta.d,bB,jn,zi,atI_0,atI_1,fh,p,RS,SO,QT,Qj,Sa];refine⟨by lia,?_⟩
  simp![e];exact am h
 .have e:atI (s.pieces.map D.int) (i:Nat)=ap (.int<|(s.pieces[(i:Int).toNat]?).getD 0):=by
   rw[bo (by lia),OF,OJ,Ov (by rw[k.lp];exact hi)];rfl
  simp![Hx,rT,kD,Cse.d,Sta.d,bB,jn,zi,atI_0,atI_1,e,RS,SO,QT,Qj,Sa,TC,Q6];exact am h
end
def lM(k:Wk)(c:Cf)(s:Sx)(M:Mem):Mem:=
 ((M.upd k.a<|.lst [.ref k.dn,.tup (c.pieces.map D.int),.ref k.ls,.int (c.most:Nat),.int c.m]).upd k.dn<|.dK<|dN s.nums).upd k.ls (.lst<|vp s.steps)
section
variable{k:Wk}{s:Sx}
theorem mI:lM k c s M k.a=ap (.lst [.ref k.dn,.tup (c.pieces.map D.int),.ref k.ls,.int (c.most:Nat),.int c.m]):=by
 unfold lM;rw[ae k.h2,ae k.h1,Mem.upd_same]
theorem mM:lM k c s M k.dn=ap (.dK<|dN s.nums):=by unfold lM;rw[ae k.h3,Mem.upd_same]
theorem Gx:lM k c s M k.ls=ap (.lst<|vp s.steps):=by unfold lM;rw[Mem.upd_same]
theorem Ab{x:List (List Int×Int)}:(lM k c s M).upd k.ls (.lst<|vp x)=lM k c ⟨s.nums,x⟩ M:=by unfold lM;rw[Mem.upd_upd]
theorem FH{x:cy}:(lM k c s M).upd k.dn (.dK<|dN x)=lM k c ⟨x,s.steps⟩ M:=by
 unfold lM;rw[aB (OW k.h3),Mem.upd_upd]
theorem rQ{pl:W7}(f:c.most<=10000)(e:s.steps.length<=c.most)(h:Q (.bl (nt c pl v s).1) (lM k c (nt c pl v s).2 M)):
  jN ad [.ref k.a,gB pl,.int v] (lM k c s M) Q E:=by
 unfold nt at h;simp![Nu,yG,mI,Gx,atI_2,atI_3,vp,Ot]
 by_cases q:s.steps.length<c.most
 .rw[if_pos q]at h
  rw[if_neg (by lia)]
  refine⟨bf (by decide),jr (by lia),am ?_⟩
  rw[<- Ab]at h;simpa [vp] using h
 .rw[if_neg q]at h
  rw[if_pos (by lia)]
  exact am h
theorem rH{b:BxQ EE Q}{pl:W7}(p:c.most<=10000)(e:s.steps.length<=c.most)(h:Q (.bl (nt c pl v s).1) (lM k c (nt c pl v s).2 M)):
  calls (jN ad) EE [.ref k.a,gB pl,.int v] (lM k c s M) Q b:=
 aq λ_ _ f _=>rQ p e (f _ _ h)
theorem uv(h:COk c){i:Int}(f:0<=i)(p:i<c.pieces.length):atI (c.pieces.map D.int) i=ap (.int<|(c.pieces[i.toNat]?).getD 0):=by
 have e:i.toNat<c.pieces.length:=by lia
 rw[bo f,OJ,Ov e];rfl
theorem oZ{r:Rw}(B:COk c)(p:NOk names c.m s.nums)(f:cw names c.m c.pieces.length r)(h:Q (.int<|num c s.nums r) (lM k c s M)):
  B1 ad [.ref k.a,r.d] (lM k c s M) Q E:=by
 have m2:=B.m2;have m1:=B.m1;cases r with
 |put x kk=>
  simp![Dz,vJ,Rw.d,↓vH,mI,mM,atI_0,atI_2,atI_3,SN];exact am h
 |take x i=>
  simp![Dz,vJ,Rw.d,↓vH,mI,mM,atI_0,atI_2,atI_3,SN,uv B f.2.1 f.2.2];exact am h
 |pick x y=>
  have G:=(p.at f.2.1).1;have J:=f.2.2;have Y:=Py (nm s.nums y) (show (c.pieces.length:Int)≠0 by lia)
  have W:=PQ (nm s.nums y) J;simp![Dz,vJ,Rw.d,↓vH,mI,mM,atI_0,atI_2,atI_3,SN,b_,G,PJ,Ot,uv B Y W];exact⟨J,am h⟩
 |two w x y z=>
  obtain⟨S,hx,O,Z⟩:=f;have G:=(p.at O).1;have R:=(p.at Z).1;have ry:=(p.at O).2;have X:CMul (nm s.nums y) (nm s.nums z):=.inl ⟨by lia,by lia⟩
  have F:(w="put")=False/\(w="take")=False/\(w="pick")=False:=by
   rcases S with rfl|rfl|rfl|rfl
   .exact⟨(eq_false<|by decide +kernel),(eq_false<|by decide +kernel),(eq_false<|by decide +kernel)⟩
   .exact⟨(eq_false<|by decide +kernel),(eq_false<|by decide +kernel),(eq_false<|by decide +kernel)⟩
   .exact⟨(eq_false<|by decide +kernel),(eq_false<|by decide +kernel),(eq_false<|by decide +kernel)⟩
   .exact⟨(eq_false<|by decide +kernel),(eq_false<|by decide +kernel),(eq_false<|by decide +kernel)⟩
  simp![Dz,vJ,Rw.d,↓vH,mI,mM,atI_0,atI_2,atI_3,b_,G,R,PJ,F.1,F.2.1,F.2.2];have e:Q (.int<|yr w (nm s.nums y) (nm s.nums z) c.m) (lM k c s M):=h;unfold yr at e
  by_cases I:w="sum"
  .rw[if_pos I]at e ⊢;exact⟨by lia,am e⟩
  .rw[if_neg I]at e ⊢
   by_cases H:w="by"
   .rw[if_pos H]at e ⊢;exact⟨X,by lia,am e⟩
   .rw[if_neg H]at e ⊢
    by_cases P:w="less"
    .rw[if_pos P]at e ⊢
     split<;>rename_i q
     .rw[if_pos q]at e;exact am e
     .rw[if_neg q]at e;exact am e
    .rw[if_neg P]at e ⊢
     split<;>rename_i q
     .rw[if_pos q]at e;exact am e
     .rw[if_neg q]at e;exact am e
 |ifr=>exact f.elim
 |again=>exact f.elim
theorem qo{b:BxQ EE Q}{r:Rw}{d:D}(e:d=r.d)(F:COk c)(p:NOk names c.m s.nums)(B:cw names c.m c.pieces.length r)(h:Q (.int<|num c s.nums r) (lM k c s M)):
  calls (B1 ad) EE [.ref k.a,d] (lM k c s M) Q b:=
 e▸aq λ_ _ f _=>oZ F p B (f _ _ h)
end
section
variable{k:Wk}
def mD(ad:Ad)(k:Wk)(c:Cf)(names:W8)(n:Nat):Prop:=∀(rs:List Rw)(pl:W7)(s:Sx)(M:Mem)(Q:DK)(E:DX),bc names c.m c.pieces.length rs->2*cQ rs+1<=n->pl.length+2*cQ rs+2<=1000->NOk names c.m s.nums->s.steps.length<=c.most->
 Q (.bl (bM c rs pl 0 s).1) (lM k c (bM c rs pl 0 s).2 M)->U0 ad n [.ref k.a,.tup (aw rs),gB pl] (lM k c s M) Q E
def JY(ad:Ad)(k:Wk)(c:Cf)(names:W8)(n:Nat):Prop:=∀(x:Str)(a:List Rw)(pl:W7)(s:Sx)(M:Mem)(Q:DK)(E:DX),cu names c.m c.pieces.length (.again x a)->2*hR (.again x a)<=n->pl.length+2*hR (.again x a)+1<=1000->NOk names c.m s.nums->s.steps.length<=c.most->
 Q (.bl (gD c (.again x a) pl s).1) (lM k c (gD c (.again x a) pl s).2 M)->U1 ad n [.ref k.a,(Rw.again x a).d,gB pl] (lM k c s M) Q E
theorem ED{r:Rw}{pl:W7}{s:Sx}:hV c r pl s=if (nt c pl (num c s.nums r) s).1=true then (true,⟨sN s.nums (d_ r) (num c s.nums r),(nt c pl (num c s.nums r) s).2.steps⟩) else nt c pl (num c s.nums r) s:=by
 unfold hV nt
 by_cases q:s.steps.length<c.most
 .simp[q]
 .simp[q]
theorem L0{s:Sx}{r:Rw}(f:NOk names c.m s.nums)(e:cw names c.m c.pieces.length r):d_ r∈s.nums.map (·.1):=by
 rw[f.keys];cases r with
 |put x k=>exact e.1
 |take x k=>exact e.1
 |pick x k=>exact e.1
 |two w x y z=>exact e.2.1
 |ifr=>exact e.elim
 |again=>exact e.elim
theorem ve{tp f:bp}{pl:W7}{s:Sx}{K:Bool->Mem->Prop}(B:COk c)(e:s.steps.length<=c.most)(F:U[0]?=ap (ap<|.ref k.a))(p:∀N K,K (gB pl) N->tp U N K)(h:∀N K,K (.int v) N->f U N K)(q:K (!(nt c pl v s).1) (lM k c (nt c pl v s).2 M)):h8 (dg<|ao<|aj (jN ad) EE 3<|aa (ac 0)<|aa tp<|aa f af) U (lM k c s M) K:=by
 simp only[h8,dg,ao,aj,aa,af,ac,F];exact p _ _ (h _ _ ⟨rfl,rH B.most e q⟩)
theorem Bk{rest:List D}{w:D}{s:Sx}(h:gN s.nums x=ap (nm s.nums x))(p:U[0]?=ap (ap<|.ref k.a))(f:U[i]?=ap (ap<|.tup (w::.str x::rest)))(q:K (.int<|lk s.nums x) (lM k c s M)):
  nI (ak<|ah bX (ah au (ah au (ac 0)<|dC<|.int 0)<|ah au (ac i)<|dC<|.int 1)<|dC<|.int 0) (dC<|.int 0) (dC<|.int 1) U (lM k c s M) K:=by
 simp![p,f,mI,mM,atI_0,atI_1,b_,h,PJ];unfold lk at q
 split
 .rename_i e;rw[if_pos e]at q;exact q
 .rename_i e;rw[if_neg e]at q;exact q
theorem pe{pl:W7}(p:pl.length<=1000)(h:U[i]?=ap (ap<|gB pl))(f:U[j]?=ap (ap<|.int v))(q:K (gB (pl++[v])) M):ah aW (ac i) (aK<|aa (ac j) af) U M K:=by
 simp only[ah,ac,aK,aa,af,h,f,gB,aW,Ot,Oy,Pf];refine⟨bf (by decide),bf (by lia),?_⟩
 have e:pl.map D.int++[.int v]=(pl++[v]).map D.int:=by simp
 rw[e];exact q
theorem CI{s:Sx}{K:Bool->Mem->Prop}{pl:W7}{p tp:bp}(J:mD ad k c names n)(G:U[0]?=ap (ap<|.ref k.a))(I:∀N K,K (.tup<|aw rs) N->p U N K)(F:∀N K,K (gB pl) N->tp U N K)(ok:bc names c.m c.pieces.length rs)(H:2*cQ rs+1<=n)(e:pl.length+2*cQ rs+2<=1000)(f:NOk names c.m s.nums)(h:s.steps.length<=c.most)(q:K (!(bM c rs pl 0 s).1) (lM k c (bM c rs pl 0 s).2 M)):
  h8 (dg<|ao<|aj (U0 ad n) EE 3<|aa (ac 0)<|aa p<|aa tp af) U (lM k c s M) K:=by
 simp only[h8,dg,ao,aj,aa,af,ac,G];refine I _ _ (F _ _ ⟨rfl,aq λQ' E' B _=>J rs pl _ M Q' E' ok H e f h (B _ _ q)⟩)
theorem EL{r:Rw}(h:cu names m many r)(e:bi r=true):cw names m many r:=by
 cases r<;>first|(simp only[cu]at h;exact h)|cases e
theorem sx{n:cy}:lk n x=0\/lk n x=1:=by unfold lk;split<;>simp
theorem jG{EE:DX}{S0:Sd}{n:Nat}{x:Str}{a:List Rw}{pl:W7}{M:Mem}{Q:DK}{D':DEnds}{ok:Mem->Prop}{bx:BxF (ag 3) (iz ad S0 (U0 ad n) EE) D' ok}(R:COk c)(Y:mD ad k c names n)(W:x∈names)(G:bc names c.m c.pieces.length a)(X:2*cQ a+1<=n)(P:pl.length+2*cQ a+3<=1000)
  (O:∀M,ok M) (e:D'.rt=_3.drp Q) (H:∀U M',_3.drp Q (.bl eC) M'->D'.nx U M'):∀(f t:Nat)(s:Sx)(S J:Option D),NOk names c.m s.nums->s.steps.length<=c.most->
  Q (.bl (eP c x pl (λt s=>bM c a (pl++[(t:Int)]) 0 s) f t s).1) (lM k c (eP c x pl (λt s=>bM c a (pl++[(t:Int)]) 0 s) f t s).2 M)->
  gL (ag 3) (iz ad S0 (U0 ad n) EE) D' ok bx ((Rg t f).map λ(i:Nat)=>D.int (i:Int)) [ap (.ref k.a),ap (.tup [.str "again",.str x,.tup (aw a)]),ap (gB pl),S,J] (lM k c s M)
 |0,t,s,S,J,hno,hst,h=>⟨O _,H _ _<|am h⟩
 |f+1,t,s,S,J,hno,hst,h=>by
  rw[QK,Ou];refine⟨O _,?_⟩;unfold eP at h;have p:=(nt_gr (c:=c) (pl:=pl++[(t:Int)]) (v:=lk s.nums x) (s:=s)).2 hst;have B:NOk names c.m (nt c (pl++[(t:Int)]) (lk s.nums x) s).2.nums:=by rw[fw];exact hno
  simp only[ag,OH];unfold iz ai ar;refine Bk (hno.at W).1 rfl rfl ?_;simp only[ag,OH];unfold o_ ai aH;refine ve R hst rfl (λN K q=>pe (by lia) rfl rfl q) (λN K q=>q) ?_
  cases I:(nt c (pl++[(t:Int)]) (lk s.nums x) s).1 with
  |false=>
   rw[if_neg (by rw[I];simp),I]at h
   simp only[Qo,if_true,az,dC,e];exact am h
  |true=>
   rw[if_pos I]at h;simp only[PV,OI,if_false,aE];unfold rj ai aH;have Z:∀K:Bool->Mem->Prop,K (decide (lk s.nums x=0)) (lM k c (nt c (pl++[(t:Int)]) (lk s.nums x) s).2 M)->ak (ah bX (ac 4)<|dC<|.int 0) [ap (.ref k.a),ap (.tup [.str "again",.str x,.tup (aw a)]),ap (gB pl),ap (.int (t:Int)),ap (.int<|lk s.nums x)] (lM k c (nt c (pl++[(t:Int)]) (lk s.nums x) s).2 M) K:=λK q=>by
    simp only[ak,ah,ac,dC,dt,Oo,bX,dv,bj,aP];exact⟨trivial,trivial,q⟩
   refine Z _ ?_;rcases sx (n:=s.nums) (x:=x) with hl|hl
   .rw[hl,if_neg (by decide),<- hl,I]at h
    simp only[hl,decide_true,if_true,az,dC,e];rw[<- hl];exact am h
   .rw[hl,if_pos rfl,<- hl]at h
    have n1:decide (lk s.nums x=0)=false:=by rw[hl];rfl
    simp only[n1,OI,if_false,aE];unfold rE aH;refine CI (pl:=pl++[(t:Int)]) Y rfl (λN K q=>?_) (λN K q=>pe (by lia) rfl rfl q) G X (by simp;lia) B p ?_
    .simp only[ah,ac,dC,dt,Oo,au,aI,atI_2]
     exact q
    cases F:(bM c a (pl++[(t:Int)]) 0 (nt c (pl++[(t:Int)]) (lk s.nums x) s).2).1 with
    |false=>
     rw[if_neg (by rw[F];simp),F]at h
     simp only[Qo,if_true,az,dC,e];exact am h
    |true=>
     rw[if_pos F]at h;simp only[PV,OI,if_false,aE];exact jG R Y W G X P O e H f (t+1) _ _ _ (c_ R a G _ _ _ B) ((fC (c:=c) a (pl++[(t:Int)]) 0 _).2 p) h
theorem uk(G:COk c)(J:mD ad k c names n):JY ad k c names (n+1):=by
 intro x a pl s M Q E f H p F B h;simp only[cu]at f;simp only[hR]at H p;have I:=G.most;rw[Mj];unfold y1;simp only[Rw.d,ai,cF,fE,aa,af,ah,ac,dC,dt,Oo,au,aI,mI,atI_3,aW];refine⟨by lia,by lia,?_⟩
 unfold gD at h;have e:dR 0 (((c.most:Nat):Int)+1).toNat=(Rg 0 (c.most+1)).map λ(i:Nat)=>D.int (i:Int):=by
  unfold dR;rw[Rf];exact PF λi _=>by rw[SX]
 rw[e];exact jG G J f.1 f.2 (by lia) (by lia) (λ_=>aS) rfl (λ_ _ z=>z) (c.most+1) 0 s cm cm F B h
theorem mO{e:Str}{rest:List D}{K:Bool->Mem->Prop}(f:U[4]?=ap (ap<|.tup (.str w::rest)))(q:K (decide (w=e)) M):ak (ah bX (ah au (ac 4)<|dC<|.int 0)<|dC<|.str e) U M K:=by
 simp only[ak,ah,ac,dC,f,au,aI,atI_0,dt,bX,dv,bj,aP];exact⟨trivial,trivial,q⟩
def RGo(D':DEnds)(k:Wk)(c:Cf)(M:Mem)(d1 d2:Option D)(r:Bool×Sx):Prop:=(r.1=true->∀c3 c4 c5 c6 c7 c8,D'.nx [ap (.ref k.a),d1,d2,c3,c4,c5,c6,c7,c8] (lM k c r.2 M))/\(r.1=eC->D'.rt (.bl eC) (lM k c r.2 M))
section
variable{S0 S1:Sd}{d1 d2 d3 d6 d7 d8:Option D}{pl:W7}{s:Sx}
theorem D6{r:Rw}(H:COk c)(e:NOk names c.m s.nums)(G:s.steps.length<=c.most)(O:names.length<=1000)(F:cw names c.m c.pieces.length r)(g:RGo D' k c M d1 d2 (hV c r pl s)):k_ ad S0 S1 EE D' [ap (.ref k.a),d1,d2,d3,ap r.d,ap (gB pl),d6,d7,d8] (lM k c s M):=by
 obtain⟨w,rest,J,_,_⟩:=jc F;rw[ED]at g;unfold k_;generalize p:kQ ad S0 S1 EE=K6;simp only[ai,ar,ao,aj,aa,af,ac,dt,Oo];refine⟨rfl,qo rfl H e F ?_⟩;show ag 8 (.int _) _ _ _;simp only[ag,OH];rw[<- p];unfold kQ ai aH;refine ve H G rfl (λ_ _ q=>q) (λ_ _ q=>q) ?_;cases B:(nt c pl (num c s.nums r) s).1 with
 |false=>
  rw[if_neg (by rw[B];simp)]at g
  simp only[Qo,if_true,az,dC];exact g.2 B
 |true=>
  rw[if_pos B]at g;simp only[PV,OI,if_false,aE];have h:(dN s.nums).length<sizeLine:=by rw[dN,Ot,<- Ot (f:=(·.1)),e.keys];exact jr (by lia)
  have I:=FH (k:=k) (c:=c) (s:=(nt c pl (num c s.nums r) s).2) (M:=M) (x:=sN s.nums (d_ r) (num c s.nums r));rw[J];unfold rD;simp![mI,mM,atI_0,atI_1,fw];refine⟨h,?_⟩;rw[kT (v:=num c s.nums r) (L0 e F),I];exact g.1 rfl _ _ _ _ _ _
theorem Eb{a b:List Rw}(P:COk c)(f:NOk names c.m s.nums)(h:s.steps.length<=c.most)(R:mD ad k c names n)(ok:cu names c.m c.pieces.length (.ifr x a b))(B:2*cQ a+1<=n/\2*cQ b+1<=n/\pl.length+2*cQ a+3<=1000/\pl.length+2*cQ b+3<=1000)(g:RGo D' k c M d1 d2 (gD c (.ifr x a b) pl s)):
  kX ad S0 (U0 ad n) EE D' [ap (.ref k.a),d1,d2,d3,ap (.tup [.str "if",.str x,.tup (aw a),.tup (aw b)]),ap (gB pl),d6,d7,d8] (lM k c s M):=by
 simp only[cu]at ok;unfold kX ai ar;refine Bk (f.at ok.1).1 rfl rfl ?_;obtain⟨rs,F,O,J,H,S⟩:∃rs,atI [D.tup (aw b),.tup (aw a)] (lk s.nums x)=ap (.tup<|aw rs)/\(gD c (.ifr x a b) pl s=if (nt c pl (lk s.nums x) s).1=true then bM c rs (pl++[lk s.nums x]) 0 (nt c pl (lk s.nums x) s).2 else nt c pl (lk s.nums x) s)/\bc names c.m c.pieces.length rs/\2*cQ rs+1<=n/\pl.length+2*cQ rs+3<=1000:=by
  unfold gD;rcases sx (n:=s.nums) (x:=x) with hl|hl<;>rw[hl]
  .exact⟨b,rfl,rfl,ok.2.2,B.2.1,B.2.2.2⟩
  .exact⟨a,rfl,rfl,ok.2.1,B.1,B.2.2.1⟩
 rw[O]at g;unfold qE;simp only[ag,OH,ai,ar,ah,ao,bO,aa,af,ac,dC,dt,Oo,au,aI,atI_2,atI_3];refine⟨bf (by simp),λp I=>?_⟩
 simp only[frz,Mem.upd_same,Mem.upd_del,aC I,aI,F];unfold qQ aH A6;refine ve P h rfl (λ_ _ q=>q) (λ_ _ q=>q) ?_;cases G:(nt c pl (lk s.nums x) s).1 with
 |false=>
  rw[if_neg (by rw[G];simp)]at g
  simp only[Qo,if_true,az,dC];exact g.2 G
 |true=>
  rw[if_pos G]at g;simp only[PV,OI,if_false];refine CI (pl:=pl++[lk s.nums x]) R rfl (λN K q=>q) (λN K q=>pe (by lia) rfl rfl q) J H (by simp;lia) (by rw[fw];exact f) ((nt_gr (c:=c)).2 h) ?_
  cases e:(bM c rs (pl++[lk s.nums x]) 0 (nt c pl (lk s.nums x) s).2).1 with
  |false=>
   simp only[Qo,if_true,az,dC];exact g.2 e
  |true=>
   simp only[PV,OI,if_false,aE];exact g.1 e _ _ _ _ _ _
end
theorem zb(hnl:names.length<=1000)(hc:COk c)(ihd:mD ad k c names n)(ihr:JY ad k c names n):mD ad k c names (n+1):=by
 intro rs pl s M Q E f hn H p B h;rw[O9];unfold yq;simp only[ai,cF,jE,aa,af,ac,dt,Oo,aI,bE,iG]
 refine ca (λxs U M'=>∃(e:List Rw)(j:Nat)(G:Sx)(Z S Y J P O:Option D),xs=dW j (aw e)/\U=[ap (.ref k.a),ap (.tup<|aw rs),ap (gB pl),Z,S,Y,J,P,O]/\M'=lM k c G M/\bc names c.m c.pieces.length e/\2*cQ e+1<=n+1/\pl.length+2*cQ e+2<=1000/\NOk names c.m G.nums/\G.steps.length<=c.most/\
  Q (.bl (bM c e pl j G).1) (lM k c (bM c e pl j G).2 M)) (λ_ _ _ _=>aS) ?_ ?_ _ _ _ ⟨rs,0,s,cm,cm,cm,cm,cm,cm,rfl,rfl,rfl,f,hn,H,p,B,h⟩
 .rintro U M' ⟨e,j,G,Z,S,Y,J,P,O,R,rfl,rfl,f,hn,H,p,B,h⟩
  cases e with
  |nil=>
   simp only[bM]at h;simp only[az,dC];exact am h
  |cons r rs=>simp[aw,dW]at R
 .rintro x xs U M' ⟨e,j,G,Z,S,Y,J,P,O,R,rfl,rfl,f,hn,H,p,B,h⟩ D' W _ hrt _
  cases e with
  |nil=>simp[aw,dW]at R
  |cons r e=>
   simp only[aw,dW,Qa]at R;obtain⟨rfl,rfl⟩:=R;simp only[bc]at f;have h1:hR r<=cQ (r::e)/\cQ e<=cQ (r::e):=by simp only[cQ];lia
   simp only[bM]at h;have g:RGo D' k c M (ap<|.tup<|aw rs) (ap<|gB pl) (gD c r (pl++[(j:Int)]) G):=⟨λI Z S Y J P O=>by
    rw[if_pos I]at h;exact W _ _ ⟨e,j+1,_,Z,S,Y,J,P,O,rfl,rfl,rfl,f.2,by lia,by lia,pK hc r f.1 _ _ p,(rf r _ _).2 B,h⟩,λI=>by
    rw[if_neg (by rw[I];simp),I]at h
    rw[show D'.rt=_3.drp Q from hrt];exact am h⟩
   clear W h;simp only[fG,b6,eY,ag,OH];refine⟨rfl,?_⟩;unfold mv ai ar;refine pe (by lia) rfl rfl ?_
   simp only[ag,OH];unfold pi aH
   by_cases F:bi r=true
   .have X:=EL f.1 F
    rw[bT F]at g;have ds:=D6 (ad:=ad) (S0:=U1 ad n) (S1:=U0 ad n) (EE:=aG E) (d3:=ap (.int (j:Int))) (d6:=J) (d7:=P) (d8:=O) hc p B hnl X g;obtain⟨w,rest,er,hw1,hw2⟩:=jc X;rw[er]at ds ⊢;have n1:decide (w=("again":Str))=false:=decide_eq_false λz=>by rw[hw1]at z;exact z
    have n2:decide (w=("if":Str))=false:=decide_eq_false λz=>by rw[hw2]at z;exact z
    refine mO rfl ?_;simp only[n1,OI,if_false];unfold kG aH;refine mO rfl ?_;simp only[n2,OI,if_false];exact ds
   cases r with
   |again x a=>
    simp only[Rw.d];refine mO rfl ?_;simp only[decide_true,if_true];unfold qM aH;simp only[h8,dg,ao,aj,aa,af,ac,dt,Oo];refine⟨rfl,aq λQ' E' hq _=>ihr x a (pl++[(j:Int)]) G M Q' E' f.1 (by lia) (by simp;lia) p B (hq _ _ ?_)⟩
    cases I:(gD c (.again x a) (pl++[(j:Int)]) G).1 with
    |true=>
     simp only[frz,Dt,PV,OI,if_false,aE];exact g.1 I _ _ _ _ _ _
    |false=>
     simp only[frz,Dt,Qo,if_true,az,dC];exact g.2 I
   |ifr x a b=>
    simp only[hR]at h1;simp only[Rw.d];have n1:decide (("if":Str)=("again":Str))=false:=by decide +kernel
    refine mO rfl ?_;simp only[n1,OI,if_false];unfold kG aH;refine mO rfl ?_;simp only[decide_true,if_true];exact Eb hc p B ihd f.1 ⟨by lia,by lia,by simp;lia,by simp;lia⟩ g
   |_=>exact absurd rfl F
theorem tU(e:names.length<=1000)(f:COk c):∀n:Nat,mD ad k c names n/\JY ad k c names n
 |0=>⟨λrs pl s M Q E _ h=>by lia,λx a pl s M Q E _ h=>by simp only[hR]at h;lia⟩
 |n+1=>by
  obtain⟨p,B⟩:=tU e f n;exact⟨zb e f p B,uk f p⟩
end
section
theorem KJ{k:Wk}{s:Sx}(p:M k.a=cm)(h:M k.dn=cm):∀b o,(M.upd k.ls<|.lst<|vp s.steps) b=ap o->lM k c s M b=ap o:=by
 intro b o e
 by_cases f:b=k.ls
 .subst f;rw[Mem.upd_same]at e;rw[Gx];exact e
 .rw[ae f]at e
  unfold lM;rw[ae f,ae (Mem.ne e h),ae (Mem.ne e p)];exact e
theorem ud(p:PlOk c names rows nums)(h:∀l,M l=cm->Q (.tup [.ref l,eI names (di c names rows nums)]) (M.upd l<|.lst<|vp (di c names rows nums).2.steps)):
  mC ad [aT c names rows mk,bB nums c.pieces,.int (c.most:Nat)] M Q E:=by
 have hl1:=p.l1;simp![LB,xk,aT,bB,atI_0,atI_1,atI_3,dX,Ot];refine⟨p.ln,p.l0,p.l1,λdn W=>?_⟩;simp![fK p.ln p.nd];refine⟨bf (by decide),λls e=>⟨bf (by decide),λa G=>⟨bf (by decide),?_⟩⟩⟩
 have Z:dn≠ls:=by rintro rfl;rw[Mem.upd_same]at e;cases e
 have H:M ls=none:=by rw[ae (OW Z)]at e;exact e
 have n2:a≠ls:=by rintro rfl;rw[Mem.upd_same]at G;cases G
 have n1:a≠dn:=by rintro rfl;rw[ae Z,Mem.upd_same]at G;cases G
 have Y:M a=none:=by rw[ae n2,ae n1]at G;exact G
 obtain⟨k,J,R,I⟩:∃k:Wk,k.a=a/\k.dn=dn/\k.ls=ls:=⟨⟨a,dn,ls,n1,n2,Z⟩,rfl,rfl,rfl⟩;have e0:((M.upd dn<|.dK<|dN<|names.zip nums).upd ls<|.lst []).upd a (.lst [.ref dn,.tup (c.pieces.map D.int),.ref ls,.int (c.most:Nat),.int c.m])=lM k c ⟨names.zip nums,[]⟩ M:=by
  unfold lM;rw[J,R,I,aB (OW n2),aB (OW n1)];rfl
 rw[e0];have hD:=(tU (ad:=ad) (k:=k) p.l1 p.co 24).1 rows [] ⟨names.zip nums,[]⟩ M;have hn:NOk names c.m (di c names rows nums).2.nums:=c_ p.co rows p.ok [] 0 ⟨names.zip nums,[]⟩ p.nok;have O:=h ls H;subst J R I;have f:=KJ (c:=c) (k:=k) (s:=(di c names rows nums).2) Y W;refine aq λQ' E' X _=>hD Q' E' p.ok (by have:=p.h;lia) (by have:=p.h;simp;lia) p.nok (Qf _) (X _ _ ?_)
 have er:bM c rows [] 0 ⟨names.zip nums,[]⟩=di c names rows nums:=rfl;rw[er];unfold eI at O;cases hb:(di c names rows nums).1 with
 |false=>
  rw[hb,if_neg (by simp)]at O
  simp![mI,atI_2];exact⟨bf (by decide),⟨_,f,O⟩⟩
 |true=>
  rw[hb,if_pos rfl]at O;simp![mI,atI_1,atI_2,↓aZ]
  refine cN (λxs W2 U M'=>∃n1 n2 S,names=n1++n2/\xs=n2.map D.str/\W2=n1.map (λx=>D.int (nm (di c names rows nums).2.nums x))/\U=[S,ap (.ref k.a)]/\M'=lM k c (di c names rows nums).2 M)
   (λ_ _ _ _ _=>aS) ?_ ?_ ?_ _ _ _ _ ⟨[],names,cm,rfl,rfl,rfl,rfl,rfl⟩
  .rintro W2 U M' ⟨n1,n2,S,B,F,rfl,rfl,rfl⟩ q X
   have:n2=[]:=by cases n2 with|nil=>rfl|cons _ _=>simp at F
   subst this;have en:n1=names:=by simpa using B.symm
   subst en;simp![Mem.upd_del,aC X];exact⟨bf (by decide),⟨_,f,O⟩⟩
  .rintro x xs W2 U M' ⟨n1,n2,S,B,F,rfl,rfl,rfl⟩ N hN _
   cases n2 with
   |nil=>simp at F
   |cons y n2=>
    simp only[Ou,Qa]at F;obtain⟨rfl,rfl⟩:=F;have hy:=(hn.at (x:=y)<|by rw[B];simp).1
    have P:n1.length+n2.length+1=names.length:=by rw[B];simp;lia
    simp![mI,mM,atI_0,b_,hy,PJ];exact hN _ _ _ (by rw[Ot];exact jr (by lia)) ⟨n1++[y],n2,_,by rw[B];simp,rfl,by simp,rfl,rfl⟩
  .rintro x xs W2 U M' ⟨n1,n2,S,B,F,rfl,rfl,rfl⟩
   have P:n1.length+n2.length=names.length:=by rw[B];simp
   rw[Ot];exact jr (by lia)
theorem ub{b:BxQ EE λd M'=>vB d M' Q}(p:PlOk c names rows nums)(h:Q (zQ names<|di c names rows nums) M):
  calls (mC ad) EE [aT c names rows mk,bB nums c.pieces,.int (c.most:Nat)] M (λd M'=>vB d M' Q) b:=by
 refine aq λQ' E' B _=>ud p λl f=>B _ _ ?_;unfold zQ eI at h;unfold eI;cases e:(di c names rows nums).1 with
 |true=>
  rw[e,if_pos rfl]at h;rw[if_pos rfl];simp![Mem.upd_del,aC f];exact h
 |false=>
  rw[e,if_neg (by simp)]at h
  rw[if_neg (by simp)]
  simp![Mem.upd_del,aC f];exact h
end
theorem whT{f:eW}{e:aD}{p:BxW f e D'}(B:∀K:Bool->Mem->Prop,K true M->f U M K)(h:e { D' with nx:=bW f e D' p n,ct:=bW f e D' p n,bk:=D'.nx } U M):bW f e D' p (n+1) U M:=by
 unfold bW;refine B _ ?_;rw[if_pos rfl];exact h
theorem whF{e:eW}{f:aD}{p:BxW e f D'}(B:∀K:Bool->Mem->Prop,K eC M->e U M K)(h:D'.nx U M):bW e f D' p (n+1) U M:=by
 unfold bW;refine B _ ?_;rw[if_neg (by simp)]
 exact h
theorem cA{p:eg}{xs:List D}(e:M p=cm)(h:Q (.lst xs) M):frz (.ref p) (M.upd p<|.lst xs) Q:=by
 simp only[frz,Mem.upd_same,Mem.upd_del,aC e];exact h
section
variable{t:Sta}{ks:List aF}
def aA(C:Cse)(s t:Sta):List aF:=(cS C).filter λk=>decide (aL C s k≠aL C t k)
theorem sF(o:C.Ok)(h:∀p,M p=cm->Q (.ref p) (M.upd p<|.lst<|(cS C).map kD)):sJ ad [C.d] M Q E:=by
 have l1:=o.l1;have few:=o.few;rw[Ni];unfold y0 Cse.d;simp![atI_1,atI_2];intro I f;simp only[Mem.upd_del,aC f];refine⟨⟨by lia,by lia⟩,λH B=>?_⟩
 simp only[Mem.upd_del,aC B];refine⟨bf (by simp[dR];lia),λF G=>am ?_⟩
 have:=h F G;have e:(cS C).map kD=C.names.map D.str++dR 0 (Us (C.many:Nat)):=by simp only[cS,dR,QW,P7,OF];congr 1;exact PF λi _=>by simp[kD]
 rw[e]at this;exact this
theorem Cz(o:C.Ok)(H:SOk C s)(I:SOk C t)(h:∀p,M p=cm->Q (.ref p) (M.upd p<|.lst<|(aA C s t).map kD)):yP ad [C.d,s.d,t.d] M Q E:=by
 have l1:=o.l1;have few:=o.few;have J:(cS C).length=C.names.length+C.many:=by simp[cS]
 rw[NX];unfold ye;simp only[az,aZ,bG,ao,aj,aa,ac,af,Oo,dt];refine⟨rfl,aq λQ' E' G _=>sF o λp f=>G _ _ (cA f ?_)⟩;simp only[aI,bE,bt,Ou,OV,OO,OP,Oo,dt,PK];refine de (λd=>match cH d with|some k=>decide (aL C s k≠aL C t k)|none=>eC) id aS (by simp;lia) (λx F K q=>?_) (λx F _ K q=>q) ?_
 .obtain⟨k,B,rfl⟩:=Pa.mp F
  simp only[ak,ah,ao,aj,aa,ac,af,Oo,dt];refine⟨rfl,aO (λ_ _ q=>dJ o H B q) ?_⟩;refine⟨rfl,aO (λ_ _ q=>dJ o I B q) ?_⟩;show bj 60 (.int _)=true/\bj 60 (.int _)=true/\_;refine⟨rfl,rfl,?_⟩;have e:cH (kD k)=ap k:=by cases k<;>rfl
  simp only[e]at q;simpa [dv,aP] using q
 .intro p f
  have e:(((cS C).map kD).filter λd=>match cH d with|some k=>decide (aL C s k≠aL C t k)|none=>eC).map id=(aA C s t).map kD:=by
   rw[Qe,P5];congr 1;refine QE λk _=>?_;cases k<;>rfl
  rw[e];exact am (h p f)
theorem mH(o:C.Ok)(F:SOk C s)(B:SOk C t)(G:C.mark s=.int a)(p:C.mark t=.int b)(e:a≠b)(h:Q (.tup [.int a,.int b]) M):tE ad [bF C s t] M Q E:=by
 rw[N9];unfold yl qX;generalize f:lx ad (aG E)=K;simp![bF,atI_0,atI_1,atI_2,atI_3];refine o7 o F (ug ?_);rw[G];simp![];refine o7 o B (ug ?_);rw[p];simp![OH];rw[<- f];unfold lx qD;simp![e,decide_false];exact⟨bf (by decide),am h⟩
theorem jU{m:D}(e:m=.non\/∃v,m=.int v)(h:Q (.str (if aP m (.int a)=true then "sound" else if aP m (.int b)=true then "faulty" else "other")) M):wU ad [.tup [.int a,.int b],m] M Q E:=by
 rcases e with rfl|⟨v,rfl⟩
 .simp![HM,ua,atI_0,atI_1]
  exact am h
 .simp![HM,ua,atI_0,atI_1]
  simp only[aP,decide_eq_true_eq]at h
  split
  .rename_i q;rw[if_pos q]at h;exact am h
  .rename_i q;rw[if_neg q]at h
   split
   .rename_i q;rw[if_pos q]at h;exact am h
   .rename_i q;rw[if_neg q]at h;exact am h
end
section
variable{κ:Type}[DecidableEq κ]
theorem Fk{f:List (κ×D)}{k j:κ}{v:D}:(cM (eD f k v) j).isSome=(decide (j=k)||(cM f j).isSome):=by
 unfold eD
 split
 .rename_i h
  induction f with
  |nil=>simp at h
  |cons p r ih=>
   obtain⟨G,O⟩:=p;simp only[Ou,cM,PX] at*
   by_cases e:G=k
   .subst e
    by_cases B:G=j
    .subst B;simp
    .have I:¬j=G:=λz=>B z.symm
     simp only[if_pos,B,decide_false,I,Qj]
     by_cases H:(r.any λF=>decide (F.1=G))=true
     .have:=ih H
      simp only[I,decide_false,Qj]at this;exact this
     .have:r.map (λF=>if F.1=G then (F.1,v) else F)=r:=by
       conv=>rhs;rw[<- Qe r]
       refine PF λq J=>?_;have:¬q.1=G:=λz=>H (List.any_eq_true.mpr ⟨q,J,by simp[z]⟩)
       simp[this]
      rw[this]
   .rw[if_neg e]
    by_cases B:G=j
    .subst B;simp
    .simp only[B,decide_false]
     exact ih (by simpa [e] using h)
 .rename_i h
  unfold cM;rw[List.find?_append];cases q:f.find? λF=>decide (F.1=j) with
  |some x=>simp
  |none=>
   by_cases e:j=k
   .subst e;simp
   .have B:¬k=j:=λz=>e z.symm
    simp[e,B]
theorem nh{f:List (κ×D)}{j:κ}:∀{a0:List (κ×D)},(cM (f.foldl (λa p=>eD a p.1 p.2) a0) j).isSome=(decide (j∈f.map (·.1))||(cM a0 j).isSome):=by
 induction f with
 |nil=>simp
 |cons p r ih=>
  intro a0;rw[Pu,ih,Fk,Ou]
  by_cases e:j=p.1
  .simp[e]
  .simp only[OM,e,false_or,decide_false,Qj]
theorem yO{f:List (κ×D)}:∀{a0:List (κ×D)},(a0.map (·.1)++f.map (·.1)).Nodup->f.foldl (λa p=>eD a p.1 p.2) a0=a0++f:=by
 induction f with
 |nil=>simp
 |cons p r ih=>
  intro a0 h;rw[Pu];have e:eD a0 p.1 p.2=a0++[p]:=by
   unfold eD;rw[if_neg];intro z;obtain⟨q,B,e⟩:=List.any_eq_true.mp z;have e:=of_decide_eq_true e;rw[Ou]at h;exact(SK.mp h).2.2 q.1 (Ry B) p.1 OL e
  rw[e,ih]
  .simp
  .simpa using h
end
def uD(u:List aF):List (aF×D):=u.map λk=>(k,D.bl true)
theorem j_:(uD u).map (·.1)=u:=by
 unfold uD;rw[P7];exact Qe u
theorem km{k:aF}:(cM (uD u) k).isSome=decide (k∈u):=by
 have:=@nh aF _ (uD u) k [];rw[j_]at this
 induction u with
 |nil=>rfl
 |cons a r ih=>
  unfold uD cM;rw[Ou,PX]
  by_cases e:a=k
  .subst e;simp
  .have f:¬k=a:=λz=>e z.symm
   simp only[e,decide_false,OM,f,false_or];exact ih (@nh aF _ (uD r) k [] |>.trans (by rw[j_]))
theorem s_{k:aF}:oK (uD u) k=uD (u.filter λx=>decide (x≠k)):=by
 unfold oK uD;rw[P5];rfl
theorem jo:∀ks:List aF,t8 (ks.map λk=>D.tup [kD k,.bl true])=ap (uD ks)
 |[]=>rfl
 |k::ks=>by
  have e:cH (kD k)=ap k:=by cases k<;>rfl
  simp only[Ou,t8,e,jo ks];rfl
section
variable{t:Sta}
theorem eS{k:aF}:cH (kD k)=ap k:=by cases k<;>rfl
theorem qC{a:eg}{e:List (aF×D)}{k:aF}(h:M a=ap (.dK e)):qZ M (kD k) (.ref a)=ap (cM e k).isSome:=by
 unfold qZ;have:aI M (.ref a)=none:=by simp only[aI,h]
 rw[this];unfold qK;simp only[h,eS]
theorem qx{ks:List aF}(o:C.Ok)(S:ks.length<=1000)(h:∀p,M p=cm->Q (.ref p) (M.upd p<|.lst<|((cS C).filter λk=>decide (k∈ks)).map kD)):xw ad [C.d,mxD ks] M Q E:=by
 have l1:=o.l1;have few:=o.few;have Y:(cS C).length=C.names.length+C.many:=by simp[cS]
 rw[Lz];unfold yi;generalize H:ke ad (aG E)=K;unfold mxD;simp only[ai,ar,bu,aa,ao,aZ,bG,ac,af,Oo,dt,aI,bE,bt,Ou,OV,OO,OP];refine f_ (λd=>.tup [d,.bl true]) aS (by simp;lia) (λx F K q=>?_) ?_
 .simp only[aK,aa,ac,dC,af,Oo,dt]
  exact⟨bf (by simp),q⟩
 .intro p P
  refine cA P ?_;have e:(ks.map kD).map (λd=>D.tup [d,.bl true])=ks.map λk=>D.tup [kD k,.bl true]:=by simp
  rw[e];simp only[fQ,CB,gO,jo];refine⟨trivial,by simp[uD];lia,λR I=>?_⟩
  simp only[ag,OH];rw[<- H];unfold ke;simp only[az,aZ,bG,ao,aj,aa,ac,af,Oo,dt];refine⟨rfl,aq λQ' E' J _=>sF o λW O=>J _ _ (cA O ?_)⟩;simp only[aI,bE,bt,Ou,OV,OO,OP,Oo,dt,PK];refine de (λd=>match cH d with|some k=>decide (k∈ks)|none=>eC) id aS (by simp;lia) (λx F K q=>?_) (λx F _ K q=>q) ?_
  .obtain⟨k,S,rfl⟩:=Pa.mp F
   simp only[eS]at q;simp only[ak,ah,ac,Oo,dt,C5,qC (Mem.upd_same),nh,j_];simpa [cM] using q
  .intro f B
   have e:(((cS C).map kD).filter λd=>match cH d with|some k=>decide (k∈ks)|none=>eC).map id=((cS C).filter λk=>decide (k∈ks)).map kD:=by
    rw[Qe,P5];congr 1;refine QE λk _=>?_;simp only[Function.comp,eS]
   rw[e];have n1:f≠R:=λz=>by rw[z,Mem.upd_same]at B;cases B
   rw[ae n1]at B;refine⟨M.upd f (.lst<|((cS C).filter λk=>decide (k∈ks)).map kD),λb X e=>?_,h f B⟩
   by_cases G:b=f
   .subst G;rw[Mem.upd_same]at e ⊢;exact e
   .rw[ae G]at e ⊢
    rw[ae (λz=>by rw[z,I]at e;cases e)]
    exact e
def cX:Rw->List Str
 |.pick _ y=>[y]
 |.two _ _ y z=>[y,z]
 |.ifr x _ _=>[x]
 |.again x _=>[x]
 |_=>[]
theorem lT{r:Rw}(B:cu names m many r)(h:∀p,M p=cm->Q (.ref p) (M.upd p<|.lst<|(cX r).map D.str)):wC ad [r.d] M Q E:=by
 cases r with
 |put x k=>simp![oF,iC,Rw.d,atI_0];exact⟨bf (by decide),λp e=>am (h p e)⟩
 |take x i=>simp![oF,iC,Rw.d,atI_0];exact⟨bf (by decide),λp e=>am (h p e)⟩
 |pick x y=>simp![oF,iC,Rw.d,atI_0];exact λp e=>am (h p e)
 |two w x y z=>
  obtain⟨f,_⟩:=B;rcases f with rfl|rfl|rfl|rfl<;>(simp![oF,iC,Rw.d,atI_0];exact λp e=>am (h p e))
 |ifr x a b=>simp![oF,iC,Rw.d,atI_0,atI_1];exact⟨bf (by decide),λp e=>am (h p e)⟩
 |again x a=>simp![oF,iC,Rw.d,atI_0,atI_1];exact⟨bf (by decide),λp e=>am (h p e)⟩
end
structure Gk where
 a:eg
 dn:eg
 lp:eg
 du:eg
 h1:a≠dn
 h2:a≠lp
 h3:a≠du
 h4:dn≠lp
 h5:dn≠du
 h6:lp≠du
structure Gs where
 n:cy
 ps:List Int
 u:List aF
 td:List Rw
 left:Int
def nq:List Rw->D
 |[]=>.non
 |r::rs=>.tup [r.d,nq rs]
def gF(k:Gk)(td:D)(left:Int):List (Str×D):=[("numbers",.ref k.dn),("pieces",.ref k.lp),("unsettled",.ref k.du),("todo",td),("left",.int left)]
def gM(ad:Ad)(k:Gk)(g:Gs)(M:Mem):Mem:=(((M.upd k.a<|.ins ad.C_Going<|gF k (nq g.td) g.left).upd k.dn<|.dK<|dN g.n).upd k.lp<|.lst<|g.ps.map D.int).upd k.du (.dK<|uD g.u)
section
variable{k:Gk}
theorem fY:gM ad k g M k.du=ap (.dK<|uD g.u):=by unfold gM;rw[Mem.upd_same]
theorem nN:gM ad k g M k.lp=ap (.lst<|g.ps.map D.int):=by unfold gM;rw[ae k.h6,Mem.upd_same]
theorem fW:gM ad k g M k.dn=ap (.dK<|dN g.n):=by unfold gM;rw[ae k.h5,ae k.h4,Mem.upd_same]
theorem cE:gM ad k g M k.a=ap (.ins ad.C_Going<|gF k (nq g.td) g.left):=by unfold gM;rw[ae k.h3,ae k.h2,ae k.h1,Mem.upd_same]
theorem jQ{b:eg}(p:b≠k.a)(h:b≠k.dn)(f:b≠k.lp)(e:b≠k.du):gM ad k g M b=M b:=by
 unfold gM;rw[ae e,ae f,ae h,ae p]
structure Gk.Fr(k:Gk)(M:Mem):Prop where
 a:M k.a=cm
 dn:M k.dn=cm
 lp:M k.lp=cm
 du:M k.du=cm
theorem bY{b:eg}(h:gM ad k g M b=cm):b≠k.a/\b≠k.dn/\b≠k.lp/\b≠k.du/\M b=none:=by
 have f:b≠k.a:=λz=>by rw[z,cE]at h;cases h
 have p:b≠k.dn:=λz=>by rw[z,fW]at h;cases h
 have e:b≠k.lp:=λz=>by rw[z,nN]at h;cases h
 have B:b≠k.du:=λz=>by rw[z,fY]at h;cases h
 rw[jQ f p e B]at h;exact⟨f,p,e,B,h⟩
theorem dm(f:k.Fr M){b:eg}(e:M b=ap o):gM ad k g M b=ap o:=by
 rw[jQ (λz=>by rw[z,f.a]at e;cases e) (λz=>by rw[z,f.dn]at e;cases e) (λz=>by rw[z,f.lp]at e;cases e) (λz=>by rw[z,f.du]at e;cases e)]
 exact e
theorem qP(f:k.Fr M){b:eg}{h:MO}(e:M b=ap o):(gM ad k g M).upd b h=gM ad k g (M.upd b h):=by
 have n1:k.a≠b:=λz=>by rw[<- z,f.a]at e;cases e
 have n2:k.dn≠b:=λz=>by rw[<- z,f.dn]at e;cases e
 have B:k.lp≠b:=λz=>by rw[<- z,f.lp]at e;cases e
 have p:k.du≠b:=λz=>by rw[<- z,f.du]at e;cases e
 unfold gM;rw[aB p,aB B,aB n2,aB n1]
theorem xI:(gM ad k g M).upd k.a (.ins ad.C_Going<|gF k (nq td) left)=gM ad k { g with td:=td,left:=left } M:=by
 unfold gM;rw[aB (OW k.h3),aB (OW k.h2),aB (OW k.h1),Mem.upd_upd]
theorem G_{n:cy}:(gM ad k g M).upd k.dn (.dK<|dN n)=gM ad k { g with n:=n } M:=by
 unfold gM;rw[aB (OW k.h5),aB (OW k.h4),Mem.upd_upd]
theorem Mc:(gM ad k g M).upd k.lp (.lst<|ps.map D.int)=gM ad k { g with ps:=ps } M:=by
 unfold gM;rw[aB (OW k.h6),Mem.upd_upd]
theorem GR:(gM ad k g M).upd k.du (.dK<|uD u)=gM ad k { g with u:=u } M:=by
 unfold gM;rw[Mem.upd_upd]
end
section
variable{k:Gk}{td:D}
theorem Gv:OY ("numbers":Str) (gF k td left)=ap (.ref k.dn):=rfl
theorem gf1:OY ("pieces":Str) (gF k td left)=ap (.ref k.lp):=rfl
theorem HH:OY ("unsettled":Str) (gF k td left)=ap (.ref k.du):=rfl
theorem KR:OY ("todo":Str) (gF k td left)=ap td:=rfl
theorem gf4:OY ("left":Str) (gF k td left)=ap (.int left):=rfl
theorem gfs:OY ("settled":Str) (gF k td left)=none:=rfl
theorem Je{d:D}:bC "todo" d (gF k td left)=gF k d left:=rfl
theorem gfp4:bC "left" (.int v) (gF k td left)=gF k td v:=rfl
theorem gfl:(gF k td left).length=5:=rfl
end
section
variable{t:Sta}
theorem eB(h:Q (nq (rs++td)) M):lH ad [.tup (aw rs),nq td] M Q E:=by
 rw[MW];unfold yv;simp only[ai,cF,I0,aa,ac,af,Oo,dt];refine ca (λF U N=>∃(c:Option D)(us p:List Rw),rs=us++p/\F=(aw us).reverse/\U=[ap (.tup<|aw rs),ap (nq (p++td)),c]/\N=M) (λ_ _ _ _=>aS) ?_ ?_ _ _ _ ⟨cm,rs,[],by simp,rfl,rfl,rfl⟩
 .rintro U N ⟨c,us,p,B,f,rfl,rfl⟩
  have:us=[]:=by
   cases us with
   |nil=>rfl
   |cons a b=>rw[aw]at f;simp at f
  subst this;rw[OP]at B;subst B;simp only[az,ac,Oo,dt];exact am h
 .rintro y F U N ⟨c,us,p,B,f,rfl,rfl⟩ D' G _ _ _
  obtain⟨e,r,rfl⟩:∃e r,us=e++[r]:=by
   rcases List.eq_nil_or_concat us with z|⟨e,r,z⟩
   .subst z;rw[aw]at f;simp at f
   .exact⟨e,r,by simpa using z⟩
  rw[gE,QW,List.reverse_append]at f;simp only[Ou,OV,List.reverse_cons,List.reverse_nil,OP,OO,Qa]at f;obtain⟨rfl,rfl⟩:=f;simp only[ag,OH];unfold qT;simp only[ar,aK,aa,ac,af,ag,OH,Oo,dt];exact⟨bf (by simp),G _ _ ⟨_,e,r::p,by simp[B],by rw[gE],rfl,rfl⟩⟩
end
structure GOk(C:Cse)(g:Gs):Prop where
 n:NOk C.names C.w g.n
 lp:g.ps.length=C.many
 rp:∀v∈g.ps,0<=v/\v<C.w
 td:bc C.names C.w C.many g.td
def Gs.cf(C:Cse)(g:Gs):Cf:=⟨C.w,g.ps,C.most⟩
section
theorem GOk.pd(k:GOk C g):C.d=aT (g.cf C) C.names C.rows C.mn:=by unfold Cse.d aT Gs.cf;rw[k.lp]
theorem GOk.co(k:GOk C g)(o:C.Ok):COk (g.cf C):=⟨o.m2,o.m1,k.rp,by show g.ps.length<=_;rw[k.lp];have:=o.few;lia,o.most⟩
def xB(C:Cse)(n:cy):Rw->Option Int
 |.take _ i=>ap i
 |.pick _ y=>ap (nm n y % (C.many:Int))
 |_=>cm
def Kx(o:Option Int):D:=match o with
 |some i=>.int i
 |none=>.non
theorem gq{r:Rw}(h:cu names m many r)(e:bi r=true):cw names m many r:=by
 cases r<;>first|exact h|cases e
end
section
variable{t:Sta}{r:Rw}
theorem jO{p:eg}(k:GOk C g)(F:cu C.names C.w C.many r)(B:M p=ap (.dK<|dN g.n))(h:Q (Kx<|xB C g.n r) M):lZ ad [C.d,.ref p,r.d] M Q E:=by
 cases f:bi r with
 |true=>
  rw[k.pd];refine ce (c:=g.cf C) (names:=C.names) k.n (by have:=gq F f;rw[<- k.lp]at this;exact this) B ?_
  have e:((g.cf C).pieces.length:Int)=(C.many:Int):=by show ((g.ps.length:Nat):Int)=_;rw[k.lp]
  cases r with
  |pick x y=>
   show Q (.int<|nm g.n y % ((g.cf C).pieces.length:Int)) M;rw[e];exact h
  |_=>exact h
 |false=>
  cases r with
  |ifr x a b=>simp![nU,iM,Cse.d,Rw.d,atI_0,atI_2];exact am h
  |again x a=>simp![nU,iM,Cse.d,Rw.d,atI_0,atI_2];exact am h
  |_=>cases f
theorem vg{O:eg}(o:C.Ok)(k:GOk C g)(Y:cu C.names C.w C.many r)(P:bi r=true)(W:M O=ap (.dK<|dN g.n))(X:M lp=ap (.lst<|g.ps.map D.int))(h:Q (.int<|num (g.cf C) g.n r) M):
  m7 ad [C.d,.ref O,.ref lp,r.d] M Q E:=by
 have hm1:=o.m1;have hm2:=o.m2;have hc:=k.co o;have f:=gq Y P;have J:=k.lp;have B:∀i:Nat,i<C.many->(g.ps.map D.int)[i]?=ap (.int<|(g.ps[i]?).getD 0):=λi hi=>by
  rw[OJ,Ov (by lia)];rfl
 have p:∀{K:DK},K (Kx<|xB C g.n r) M->∀Q' E',(∀d M,K d M->Q' d M)->lZ ad [C.d,.ref O,r.d] M Q' E':=λ{K} q Q' E' e=>jO k Y W (e _ _ q);have F:=@Ay C;cases r with
 |put x v=>
  simp![jK,fS,F,Rw.d,atI_0,atI_2];exact am h
 |take x i=>
  obtain⟨R,H,h1⟩:=f;have G:=B i.toNat (by lia)
  rw[Rw.d]at p ⊢;simp![jK,fS,atI_0,atI_2];refine aq λQ' E' e _=>p (K:=λd M=>_) ?_ Q' E' e;simp![xB,Kx,X,bo H,G];exact am h
 |pick x y=>
  obtain⟨R,S,H⟩:=f;have g0:=Py (nm g.n y) (show (C.many:Int)≠0 by lia)
  have g1:=PQ (nm g.n y) H;have G:=B (nm g.n y % (C.many:Int)).toNat (by lia)
  have e2:num (g.cf C) g.n (.pick x y)=(g.ps[(nm g.n y % (C.many:Int)).toNat]?).getD 0:=by show (g.ps[(nm g.n y % (g.ps.length:Int)).toNat]?).getD 0=_;rw[J]
  rw[e2]at h;rw[Rw.d]at p ⊢;simp![jK,fS,atI_0,atI_2];refine aq λQ' E' e _=>p (K:=λd M=>_) ?_ Q' E' e;simp![xB,Kx,X,bo g0,G];exact am h
 |two w x y z=>
  obtain⟨hw,R,S,hz⟩:=f;have a1:=k.n.at S;have Z:=k.n.at hz;have I:((w=PH "put")=False):=by rcases hw with rfl|rfl|rfl|rfl<;>exact eq_false (by decide +kernel)
  rw[Rw.d]at p ⊢;simp![jK,fS,atI_0,atI_2,I];refine aq λQ' E' e _=>p (K:=λd M=>_) ?_ Q' E' e;simp![xB,Kx,F,atI_0,atI_2,atI_3,W,b_,a1.1,Z.1,PJ];exact aO (d:=.int (num (g.cf C) g.n<|.two w x y z)) (λ_ _ q=>jH (by lia) (by lia) (by lia) q) (am h)
 |ifr=>cases P
 |again=>cases P
end
def dE(C:Cse)(g:Gs)(r:Rw):Option aF:=
 if g.u=[] then cm else match (cS C).filter λk=>decide (k∈((cX r).filter λx=>decide ((OR x:aF)∈g.u)).map OR) with
  |k::_=>ap k
  |[]=>match xB C g.n r with
   |some i=>if (Qb i:aF)∈g.u then ap (.inl i) else cm
   |none=>cm
def Aa:Option aF->D
 |some k=>kD k
 |none=>.non
section
variable{t:Sta}{r:Rw}{k:Gk}
theorem wL(h:cu names m many r):∀x∈cX r,x∈names:=by
 cases r with
 |put=>simp[cX]
 |take=>simp[cX]
 |pick x y=>intro z e;simp[cX]at e;subst e;exact h.2.1
 |two w x y z=>intro v f;simp[cX]at f;rcases f with rfl|rfl;exact h.2.2.1;exact h.2.2.2
 |ifr x a b=>intro z e;simp[cX]at e;subst e;exact h.1
 |again x a=>intro z e;simp[cX]at e;subst e;exact h.1
theorem BB:(cX r).length<=2:=by cases r<;>simp[cX]
theorem IR:(uD u).isEmpty=u.isEmpty:=by cases u<;>rfl
theorem Dm:qZ (gM ad k g M) (.str x) (.ref k.du)=ap (decide ((OR x:aF)∈g.u)):=by
 have:=qC (k:=.inr x) (fY (ad:=ad) (k:=k) (g:=g) (M:=M));rw[km]at this;exact this
theorem q_(o:C.Ok)(ok:GOk C g)(R:cu C.names C.w C.many r)(h:Q (Aa<|dE C g r) (gM ad k g M)):xi ad [C.d,.ref k.a,r.d] (gM ad k g M) Q E:=by
 have J:=wL R;have O:=BB (r:=r);rw[LR];unfold wF;simp only[ai,aH,h8,dg,aX,ac,Oo,dt,cE,HH,Dt,fY,IR];refine⟨trivial,?_⟩;unfold dE at h;cases S:g.u with
 |nil=>
  rw[if_pos S]at h;simp only[S4,PV,Qo,if_true,az,dC];exact am h
 |cons u0 ur=>
  rw[if_neg (by rw[S];simp)]at h
  rw[if_neg (by simp)]
  simp only[aE];unfold pS;simp only[ai,cz,dP,aZ,bG,ao,aj,aa,ac,af,Oo,dt];refine⟨rfl,aq λQ' E' H _=>lT R λp f=>H _ _ (cA f ?_)⟩;simp only[aI,bE,bt,Ou,OV,OO,OP,Oo,dt,PK];refine de (λd=>match d with|.str x=>decide ((OR x:aF)∈g.u)|_=>eC) id aS (by simp;lia) (λx F K q=>?_) (λx F _ K q=>q) ?_
  .obtain⟨y,hy,rfl⟩:=Pa.mp F
   simp only[ak,ah,ac,aX,Oo,dt,cE,HH,C5,Dm];exact⟨trivial,q⟩
  .intro p f
   generalize P:((cX r).filter λx=>decide ((OR x:aF)∈g.u))=fnd at h;have e:(((cX r).map D.str).filter λd=>match d with|.str x=>decide ((OR x:aF)∈g.u)|_=>eC).map id=(fnd.map OR).map kD:=by
    rw[Qe,P5,<- P,P7];rfl
   have hfn:∀x∈fnd,x∈C.names:=λx F=>by rw[<- P]at F;exact J x (Ox.mp F).1
   have hfl:fnd.length<=2:=by rw[<- P];exact OQ (Ph _ _) O
   rw[e];simp only[fA,OH,Oo,dt];refine cA (Q:=λd M'=>(ka ad<|aG E) _ [ap C.d,ap (.ref k.a),ap r.d,ap d,cm] M') f ?_;unfold ka;simp only[ai,aH,dg,ac,Oo,dt,Dt];cases B:fnd with
   |nil=>
    have Z:((cS C).filter λk=>decide (k∈(fnd.map OR:List aF)))=[]:=by rw[B];simp
    rw[Z]at h;simp only[OV,S4,PV];rw[if_neg (by simp)]
    simp only[aE];unfold qi pF;simp only[ai,ar,ao,aj,aa,ac,af,aX,Oo,dt,cE,Gv];refine⟨trivial,rfl,aO (λ_ _ q=>jO ok R fW q) ?_⟩;cases f:xB C g.n r with
    |none=>
     simp only[f]at h;simp only[Kx,frz,ag,OH,az,nI,ak,ah,ac,dC,aX,Oo,dt,cE,HH,CN,yx,fY];refine⟨trivial,?_⟩;rw[if_neg (by simp)]
     exact am h
    |some i=>
     simp only[f]at h;have I:=qC (k:=.inl i) (fY (ad:=ad) (k:=k) (g:=g) (M:=M));rw[km]at I;simp only[kD]at I;simp only[Kx,frz,ag,OH,az,nI,ak,ah,ac,dC,aX,Oo,dt,cE,HH,CN,yx,I];refine⟨trivial,?_⟩
     by_cases c:(Qb i:aF)∈g.u
     .rw[if_pos c]at h
      rw[if_pos (by simpa using c)]
      exact am h
     .rw[if_neg c]at h
      rw[if_neg (by simpa using c)]
      exact am h
   |cons f0 fr=>
    have G:∃W X,((cS C).filter λk=>decide (k∈(fnd.map OR:List aF)))=W::X:=by
     have:(OR f0:aF)∈(cS C).filter λk=>decide (k∈(fnd.map OR:List aF)):=by
      refine Ox.mpr ⟨Sk _ (Ry<|hfn f0<|by rw[B];simp),?_⟩
      rw[B];simp
     cases q:(cS C).filter λk=>decide (k∈(fnd.map OR:List aF)) with
     |nil=>rw[q]at this;cases this
     |cons a b=>exact⟨a,b,rfl⟩
    obtain⟨W,X,Y⟩:=G;rw[Y]at h;simp only at h;have hne:((f0::fr).map (OR:Str->aF)).map kD≠[]:=by simp
    rw[if_pos (by simp)]
    unfold pz;simp only[az,ah,ao,aj,aa,ac,af,dC,Oo,dt];refine⟨rfl,aq λQ' E' H _=>qx (ks:=(f0::fr).map OR) o (by rw[<- B,Ot];lia) λp f=>H _ _ (cA f ?_)⟩
    rw[<- B,Y];simp only[au,aI,Ou,atI_0,dt];exact am h
end
theorem okRs_app{names:W8}{m many:Int}:∀{a b:List Rw},bc names m many (a++b)↔bc names m many a/\bc names m many b
 |[],b=>by simp[bc]
 |r::a,b=>by simp[bc,okRs_app,and_assoc]
def jB(C:Cse)(g:Gs)(rest:List Rw):Rw->Gs
 |.ifr x a b=>{ g with left:=g.left-1,td:=(if nm g.n x=0 then b else a)++rest }
 |.again x a=>{ g with left:=g.left-1,td:=if nm g.n x=0 then rest else a++(.again x a::rest) }
 |r=>{ g with left:=g.left-1,td:=rest,n:=sN g.n (d_ r) (num (g.cf C) g.n r),u:=g.u.filter λk=>decide (k≠.inr (d_ r)) }
theorem lI{r:Rw}:(jB C g rest r).left=g.left-1:=by cases r<;>rfl
section
variable{t:Sta}{r:Rw}{k:Gk}
theorem Bg(o:C.Ok)(ok:GOk C g)(f:cu C.names C.w C.many r)(e:bi r=true):0<=num (g.cf C) g.n r/\num (g.cf C) g.n r<C.w:=
 xY (ok.co o) (names:=C.names) ok.n (by have:=gq f e;rw[<- ok.lp]at this;exact this)
theorem pZ(o:C.Ok)(ok:GOk C g)(e:g.td=r::rest):GOk C (jB C g rest r):=by
 have h:=ok.td;rw[e]at h;obtain⟨B,f⟩:=h;have p:bi r=true->GOk C { g with left:=g.left-1,td:=rest,n:=sN g.n (d_ r) (num (g.cf C) g.n r),u:=g.u.filter λk=>decide (k≠.inr (d_ r)) }:=λF=>
  ⟨CA (c:=g.cf C) ok.n (Bg o ok B F),ok.lp,ok.rp,f⟩
 cases r with
 |ifr x a b=>
  refine⟨ok.n,ok.lp,ok.rp,okRs_app.mpr ⟨?_,f⟩⟩
  split
  .exact B.2.2
  .exact B.2.1
 |again x a=>
  refine⟨ok.n,ok.lp,ok.rp,?_⟩;show bc _ _ _ (if nm g.n x=0 then rest else a++(.again x a::rest))
  split
  .exact f
  .exact okRs_app.mpr ⟨B.2,B,f⟩
 |put x v=>exact p rfl
 |take x v=>exact p rfl
 |pick x y=>exact p rfl
 |two w x y z=>exact p rfl
theorem uO(h:cw names m many r):d_ r∈names:=by
 cases r with
 |put x v=>exact h.1
 |take x v=>exact h.1
 |pick x v=>exact h.1
 |two w x y z=>exact h.2.1
 |ifr=>exact h.elim
 |again=>exact h.elim
theorem CD:Lv (gM ad k g M) (.ref k.du)=true:=by simp only[Lv,fY]
theorem ES{k:aF}(h:k∉u):u.filter (λx=>decide (x≠k))=u:=QP.mpr λx e=>by
 have:x≠k:=λz=>h (z▸e);simp[this]
theorem Lg(o:C.Ok)(ok:GOk C g)(p:cu C.names C.w C.many r)(f:bi r=true)(h:D'.nx [ap C.d,ap (.ref k.a),ap r.d] (gM ad k { g with n:=sN g.n (d_ r) (num (g.cf C) g.n r),u:=g.u.filter λk=>decide (k≠.inr (d_ r)) } M)):
  gG ad EE D' [ap C.d,ap (.ref k.a),ap r.d] (gM ad k g M):=by
 have F:=uO (gq p f);have e:∀{M:Mem}{K:DK},K (.str<|d_ r) M->au r.d (.int 1) M K:=λq=>by
  cases r with
  |ifr=>cases f
  |again=>cases f
  |_=>simp only[Rw.d,au,aI,atI_1,Oo,dt];exact q
 have keys:d_ r∈g.n.map (·.1):=by rw[ok.n.keys];exact F
 unfold gG qy;simp only[ai,ar,ao,aj,aa,ac,af,aX,Oo,dt,cE,Gv,gf1];refine⟨trivial,trivial,rfl,aO (λ_ _ q=>vg o ok p f fW nN q) ?_⟩;simp only[frz,cT,aX,ah,ac,dC,Oo,dt,cE,Gv];refine⟨trivial,e ?_⟩;have G:(dN g.n).length<sizeLine:=by
  have I:(dN g.n).length=C.names.length:=by rw[<- ok.n.keys];simp[dN]
  have:=o.l1;exact jr (by lia)
 simp only[m9,fW,cH,kT keys,G_];refine⟨G,?_⟩;simp only[bn,B5,aX,ah,ac,dC,Oo,dt,cE,HH,CD];refine⟨trivial,trivial,e ?_⟩;simp only[fY,cH];cases B:cM (uD g.u) (.inr<|d_ r) with
 |some v=>simp only[s_,GR];exact h
 |none=>
  have H:(OR (d_ r):aF)∉g.u:=λz=>by
   have:=km (u:=g.u) (k:=.inr (d_ r));rw[B]at this;simp[z]at this
  rw[ES H]at h;exact h
theorem lN{e:Str}{rest:List D}{K:Bool->Mem->Prop}(f:U[2]?=ap (ap<|.tup (.str w::rest)))(q:K (decide (w=e)) M):ak (ah bX (ah au (ac 2)<|dC<|.int 0)<|dC<|.str e) U M K:=by
 simp only[ak,ah,ac,dC,f,au,aI,atI_0,dt,bX,dv,bj,aP];exact⟨trivial,trivial,q⟩
theorem zA(h:cu C.names C.w C.many r)(e:bi r=true):∃w rest,r.d=.tup (.str w::rest)/\decide (w=("if":Str))=eC/\decide (w=("again":Str))=false:=by
 cases r with
 |ifr=>cases e
 |again=>cases e
 |two w x y z=>
  obtain⟨f,_⟩:=h;refine⟨_,_,rfl,?_⟩;rcases f with rfl|rfl|rfl|rfl<;>exact⟨by decide +kernel,by decide +kernel⟩
 |_=>exact⟨_,_,rfl,by decide +kernel,by decide +kernel⟩
theorem vz(o:C.Ok)(ok:GOk C g)(e:g.td=r::rest)(h:Q .non (gM ad k (jB C g rest r) M)):yb ad [C.d,.ref k.a,r.d] (gM ad k g M) Q E:=by
 have H:=ok.td;rw[e]at H;obtain⟨I,p⟩:=H;have B:GOk C { g with td:=rest,left:=g.left-1 }:=⟨ok.n,ok.lp,ok.rp,p⟩;rw[NH];unfold wo qA;have J:nq g.td=.tup [r.d,nq rest]:=by rw[e];rfl
 have Z:=xI (ad:=ad) (k:=k) (g:=g) (M:=M) (td:=g.td) (left:=g.left-1);simp only[ai,pV,ck,aX,ah,ac,dC,Oo,dt,cE,gf4,gfl,gfp4,Z];refine⟨trivial,by decide,trivial,trivial,?_⟩
 have W:=xI (ad:=ad) (k:=k) (g:={ g with left:=g.left-1 }) (M:=M) (td:=rest) (left:=g.left-1);simp only[KR,J,au,aI,atI_1,Oo,dt,cE,gfl,Je,W];refine⟨trivial,by decide,?_⟩
 have G:bi r=true->∀{D':DEnds}{EE:DX},D'.nx [ap C.d,ap (.ref k.a),ap r.d] (gM ad k (jB C g rest r) M)->gG ad EE D' [ap C.d,ap (.ref k.a),ap r.d] (gM ad k { g with td:=rest,left:=g.left-1 } M):=λf D' EE q=>Lg o B I f (by
  cases r with
  |ifr=>cases f
  |again=>cases f
  |_=>exact q)
 have F:bi r=true->(gG ad<|aG E) { nx:=λ_ M'=>drp Q .non M',rt:=drp Q } [ap C.d,ap (.ref k.a),ap r.d] (gM ad k { g with td:=rest,left:=g.left-1 } M):=λf=>by
  exact G f (am h)
 by_cases f:bi r=true
 .obtain⟨w,wr,Y,n1,n2⟩:=zA I f
  have:=F f;rw[Y]at this ⊢;unfold iA aH;refine lN rfl ?_;simp only[n1,OI,if_false];unfold ku aH;refine lN rfl ?_;simp only[n2,OI,if_false];exact this
 cases r with
 |ifr x a b=>
  have O:x∈C.names:=I.1;have R:=(B.n.at O).1;have P:=λl=>xI (ad:=ad) (k:=k) (g:={ g with td:=rest,left:=g.left-1 }) (M:=M) (td:=l) (left:=g.left-1);have fin:∀l:List Rw,(jB C g rest<|.ifr x a b).td=l++rest->calls (lH ad) (aG E) [.tup (aw l),nq rest] (gM ad k { g with td:=rest,left:=g.left-1 } M) (λd M'=>frz d M' λy M1=>match M1 k.a with
    |some (MO.ins C' fs)=>C'=ad.C_Going/\fs.length<1000/\drp Q D.non (M1.upd k.a<|MO.ins ad.C_Going<|bC (PH "todo") y fs)
    |_=>False) ⟨⟩:=λl X=>by
   refine aO (λ_ _ q=>eB q) ?_;have S:∀{l:List Rw}{M:Mem}{Q:DK},Q (nq l) M->frz (nq l) M Q:=λ{l} {M} {Q} q=>by cases l<;>exact q
   refine S ?_;simp only[cE,gfl,Je,P];rw[<- X];exact⟨trivial,by decide,am h⟩
  simp only[Rw.d];unfold iA aH;refine lN rfl ?_;simp only[decide_true,if_true];unfold qe;simp![atI_1,atI_2,atI_3,cE,Gv,KR,fW,b_,R,PJ]
  by_cases c:nm g.n x=0
  .simp only[c,decide_true,if_true]
   exact fin b (by simp only[jB,c,if_true])
  .simp only[c,decide_false]
   exact fin a (by simp only[jB,c,if_false])
 |again x a=>
  have O:x∈C.names:=I.1;have R:=(B.n.at O).1;have P:=λl=>xI (ad:=ad) (k:=k) (g:={ g with td:=rest,left:=g.left-1 }) (M:=M) (td:=l) (left:=g.left-1);have n1:decide (("again":Str)=("if":Str))=false:=by decide +kernel
  simp only[Rw.d];unfold iA aH;refine lN rfl ?_;simp only[n1,OI,if_false];unfold ku aH;refine lN rfl ?_;simp only[decide_true,if_true];unfold pU;simp![atI_1,atI_2,cE,Gv,KR,fW,b_,R,PJ]
  by_cases c:nm g.n x=0
  .simp only[c,decide_true,PV]
   refine am ?_;have:jB C g rest (.again x a)={ g with td:=rest,left:=g.left-1 }:=by simp only[jB,c,if_true]
   rw[<- this];exact h
  .simp only[c,decide_false,Qo,if_true]
   refine⟨bf (by decide),?_⟩
   refine aO (λ_ _ q=>eB (td:=.again x a::rest) q) ?_;have S:∀{l:List Rw}{M:Mem}{Q:DK},Q (nq l) M->frz (nq l) M Q:=λ{l} {M} {Q} q=>by cases l<;>exact q
   refine S ?_;simp only[ac,Oo,dt,cE,gfl,Je,P];have:jB C g rest (.again x a)={ g with td:=a++(.again x a::rest),left:=g.left-1 }:=by simp only[jB,c,if_false]
   rw[<- this];exact⟨trivial,by decide,am h⟩
 |_=>exact absurd rfl f
end
def bA(C:Cse):Nat->Gs->Option aF×Gs
 |0,g=>(cm,g)
 |f+1,g=>match g.td with
  |[]=>(if (OR C.mn:aF)∈g.u then ap (.inr C.mn) else cm,g)
  |r::rest=>if g.left<=0 then (cm,g) else match dE C g r with
   |some k=>(ap k,g)
   |none=>bA C f (jB C g rest r)
section
variable{t:Sta}{k:Gk}
theorem B3:ie (nq td)=td.isEmpty:=by cases td<;>rfl
theorem kd(o:C.Ok):∀(f:Nat)(g:Gs),GOk C g->GOk C (bA C f g).2
 |0,g,h=>h
 |f+1,g,h=>by
  unfold bA;cases e:g.td with
  |nil=>exact h
  |cons r rest=>
   dsimp only
   split
   .exact h
   .cases a:dE C g r with
    |some k=>exact h
    |none=>exact kd o f _ (pZ o h e)
theorem Fb{r:Rw}{F G:Option D}(o:C.Ok)(ok:GOk C g)(e:g.td=r::rest)(S:g.left<=0->D'.rt .non (gM ad k g M))(R:¬g.left<=0->∀q,dE C g r=ap q->D'.rt (kD q) (gM ad k g M))(h3:¬g.left<=0->dE C g r=cm->∀F G,D'.nx [ap C.d,ap (.ref k.a),F,G] (gM ad k (jB C g rest r) M)):gC ad EE D' [ap C.d,ap (.ref k.a),F,G] (gM ad k g M):=by
 have h:=ok.td;rw[e]at h;obtain⟨P,p⟩:=h;have B:nq g.td=.tup [r.d,nq rest]:=by rw[e];rfl
 unfold gC;simp only[ai,aH,ak,ah,aX,ac,dC,oLe,j7,Oo,dt,cE,gf4];refine⟨trivial,?_⟩
 by_cases f:g.left<=0
 .rw[if_pos (by simpa using f)]
  exact S f
 .rw[if_neg (by simpa using f)]
  simp only[aE];unfold qk qU;simp only[ai,ar,ah,aX,ac,dC,Oo,dt,cE,KR,B,au,aI,atI_0,ag,OH,ao,aj,aa,af];refine⟨trivial,rfl,aO (λ_ _ q=>q_ o ok P q) ?_⟩;have I:∀{q:Option aF}{M:Mem}{Q:DK},Q (Aa q) M->frz (Aa q) M Q:=λ{q} {M} {Q} z=>by
   cases q with
   |none=>exact z
   |some k=>cases k<;>exact z
  refine I ?_;unfold rO pI;have O:ie (Aa<|dE C g r)=(dE C g r).isNone:=by
   cases dE C g r with
   |none=>rfl
   |some k=>cases k<;>rfl
  simp only[ai,aH,ak,ah,ac,dC,gW,Oo,dt,O];cases H:dE C g r with
  |some q=>
   rw[if_pos (by simp)]
   exact R f q H
  |none=>
   rw[if_neg (by simp)]
   simp only[aE,bn,aj,aa,ac,af,Oo,dt];exact⟨rfl,aq λQ' E' J _=>vz o ok e (J _ _<|h3 f H _ _)⟩
theorem nL{EE:DX}{D':DEnds}{J:BxW (ak<|ah gW (aX ad.C_Going (ac 1) "todo")<|dC .non) (gC ad EE) D'}(o:C.Ok):∀(f:Nat)(g:Gs)(h p:Option D),GOk C g->g.left<f->
  (∀h p g',(bA C f g)=(if (OR C.mn:aF)∈g'.u then ap (.inr C.mn) else cm,g')->g'.td=[]->D'.nx [ap C.d,ap (.ref k.a),h,p] (gM ad k g' M))->
  (∀g' q,bA C f g=(q,g')->D'.rt (Aa q) (gM ad k g' M))->0<=g.left->
  bW (ak<|ah gW (aX ad.C_Going (ac 1) "todo")<|dC .non) (gC ad EE) D' J (f+1) [ap C.d,ap (.ref k.a),h,p] (gM ad k g M)
 |0,g,h,p,ok,hf,h1,h2,h0=>by lia
 |f+1,g,h,p,ok,hf,h1,h2,h0=>by
  have G:∀K:Bool->Mem->Prop,K (!g.td.isEmpty) (gM ad k g M)->ak (ah gW (aX ad.C_Going (ac 1) "todo")<|dC .non) [ap C.d,ap (.ref k.a),h,p] (gM ad k g M) K:=λK q=>by
   simp only[ak,ah,aX,ac,dC,Oo,dt,cE,KR,gW,B3];exact⟨trivial,q⟩
  cases e:g.td with
  |nil=>
   refine whF (λK q=>G K (by rw[e];exact q)) (h1 h p g ?_ e)
   unfold bA;rw[e]
  |cons r rest=>
   have B:bA C (f+1) g=if g.left<=0 then (cm,g) else match dE C g r with
    |some k=>(ap k,g)
    |none=>bA C f (jB C g rest r):=by conv=>lhs;unfold bA;rw[e]
   have I:(jB C g rest r).left=g.left-1:=lI;refine whT (λK q=>G K (by rw[e];exact q)) (Fb o ok e (λF=>?_) (λF q H=>?_) λF H h p=>?_)
   .rw[if_pos F]at B
    exact h2 g cm B
   .rw[if_neg F,H]at B
    exact h2 g (ap q) B
   .rw[if_neg F,H]at B
    exact nL o f _ _ _ (pZ o ok e) (by lia) (λh p g' q=>h1 h p g' (B.trans q)) (λg' q z=>h2 g' q (B.trans z)) (by lia)
theorem z9{f:Nat}(o:C.Ok)(ok:GOk C g)(F:0<=g.left)(G:g.left<f)(h:Q (Aa (bA C f g).1) (gM ad k (bA C f g).2 M)):wB ad [C.d,.ref k.a] (gM ad k g M) Q E:=by
 rw[Mz];unfold y8;simp only[ai,dq];refine⟨f+1,nL o f g _ _ ok G (λI H B e _=>?_) (λB q e=>?_) F⟩
 .unfold oY
  rw[e]at h;have p:=@Ay C;simp only[p,az,nI,ak,ah,aX,ac,dC,Oo,dt,au,aI,atI_4,cE,HH,C5,Dm];refine⟨trivial,?_⟩
  by_cases c:(OR C.mn:aF)∈B.u
  .simp only[if_pos c,Aa,kD]at h
   rw[if_pos (by simpa using c)]
   exact am h
  .simp only[if_neg c,Aa]at h
   rw[if_neg (by simpa using c)]
   exact am h
 .rw[e]at h
  exact am h
def J6(C:Cse)(g:Gs):D:=if g.td=[] then .int (nm g.n C.mn) else .non
theorem t_(o:C.Ok)(ok:GOk C g)(h:Q (J6 C g) (gM ad k g M)):xZ ad [C.d,.ref k.a] (gM ad k g M) Q E:=by
 have p:=(ok.n.at o.mn).1;have f:=@Ay C;rw[Mh];unfold xV;simp only[f,az,nI,ak,ah,aX,ac,dC,Oo,dt,cE,KR,ja,B3];refine⟨trivial,?_⟩;unfold J6 at h;cases e:g.td with
 |nil=>
  rw[if_pos e]at h;simp only[S4,if_true,Gv,au,aI,atI_4,Oo,dt,fW,qK,cH,b_,p,PJ];exact⟨trivial,am h⟩
 |cons r rest=>
  rw[if_neg (by rw[e];simp)]at h
  rw[if_neg (by simp)]
  exact am h
end
def cg(g:Gs)(q:aF)(v:Int):Gs:=match q with
 |.inl i=>{ g with u:=g.u.filter λk=>decide (k≠q),ps:=g.ps.set i.toNat v }
 |.inr x=>{ g with u:=g.u.filter λk=>decide (k≠q),n:=sN g.n x v }
section
variable{t:Sta}{k:Gk}
theorem kM(ok:GOk C g)(e:0<=v/\v<C.w):GOk C (cg g q v):=by
 cases q with
 |inl i=>
  refine⟨ok.n,by show (g.ps.set _ _).length=_;rw[Qz];exact ok.lp,λz f=>?_,ok.td⟩
  rcases TR f with h|h
  .exact ok.rp z h
  .rw[h];exact e
 |inr x=>exact⟨CA (c:=g.cf C) ok.n e,ok.lp,ok.rp,ok.td⟩
theorem dH:(cg g q v).u=g.u.filter λk=>decide (k≠q):=by cases q<;>rfl
theorem eR:(cg g q v).left=g.left:=by cases q<;>rfl
theorem lW{x:eg}{d1 d2 d3 td:D}(h:Q .non (M.upd x<|.ins ad.C_Going [("numbers",d1),("pieces",d2),("unsettled",d3),("todo",td),("left",.int left)])):
  Bm ad [.ref x,d1,d2,d3,td,.int left] (M.upd x<|.ins ad.C_Going []) Q E:=by
 have B:bC ("numbers":Str) d1 []=[(("numbers":Str),d1)]:=rfl;have e:bC ("pieces":Str) d2 [(("numbers":Str),d1)]=[(("numbers":Str),d1),(("pieces":Str),d2)]:=rfl;have p:bC ("unsettled":Str) d3 [(("numbers":Str),d1),(("pieces":Str),d2)]=[(("numbers":Str),d1),(("pieces":Str),d2),(("unsettled":Str),d3)]:=rfl;have F:bC ("todo":Str) td [(("numbers":Str),d1),(("pieces":Str),d2),(("unsettled":Str),d3)]=[(("numbers":Str),d1),(("pieces":Str),d2),(("unsettled":Str),d3),(("todo":Str),td)]:=rfl;have f:bC ("left":Str) (.int left) [(("numbers":Str),d1),(("pieces":Str),d2),(("unsettled":Str),d3),(("todo":Str),td)]=[(("numbers":Str),d1),(("pieces":Str),d2),(("unsettled":Str),d3),(("todo":Str),td),(("left":Str),.int left)]:=rfl;rw[u_q3];unfold EQ;simp![Mem.upd_same,Mem.upd_upd,B,e,p,F,f,Pf,Oy];exact⟨by decide,by decide,by decide,by decide,by decide,am h⟩
structure Gat(ad:Ad)(k:Gk)(g:Gs)(N:Mem):Prop where
 a:N k.a=ap (.ins ad.C_Going<|gF k (nq g.td) g.left)
 dn:N k.dn=ap (.dK<|dN g.n)
 lp:N k.lp=ap (.lst<|g.ps.map D.int)
 du:N k.du=ap (.dK<|uD g.u)
theorem Gat.of:Gat ad k g (gM ad k g M):=⟨cE,fW,nN,fY⟩
theorem Gat.more{k1:Gk}{e:Gs}(h:Gat ad k g M)(f:k1.Fr M):Gat ad k g (gM ad k1 e M):=⟨dm f h.a,dm f h.dn,dm f h.lp,dm f h.du⟩
theorem ql(at':Gat ad k g N)(o:C.Ok)(ok:GOk C g)(hk:q∈cS C)(hu:q∈g.u)(h:∀Z:Gk,Z.Fr N->Q (.ref Z.a) (gM ad Z (cg g q v) N)):
  zj ad [.ref k.a,kD q,.int v] N Q E:=by
 obtain⟨R,hdn,X,P⟩:=at';rw[u_q7];unfold EA;simp only[ai,ar,fT,aa,af,bu,aX,ac,Oo,dt,R,Gv,mV,hdn];refine⟨trivial,λp W=>?_⟩;have a1:k.a≠p:=Mem.ne R W;have l1:k.lp≠p:=Mem.ne X W;have u1:k.du≠p:=Mem.ne P W;simp only[ae a1,R,gf1,eJ,aI,ae l1,X];refine⟨trivial,λF Y=>?_⟩;have H:p≠F:=Mem.ne Mem.upd_same Y;rw[ae H.symm]at Y;have a2:k.a≠F:=Mem.ne R Y;have u2:k.du≠F:=Mem.ne P Y;simp only[ae a2,ae a1,R,HH,ae u2,ae u1,P];refine⟨trivial,λJ S=>?_⟩;have I:F≠J:=Mem.ne Mem.upd_same S;rw[ae I.symm]at S;have G:p≠J:=Mem.ne Mem.upd_same S;rw[ae G.symm]at S;have a3:k.a≠J:=Mem.ne R S;simp only[ae a3,ae a2,ae a1,R,KR,gf4];refine⟨trivial,trivial,rfl,λx O=>?_⟩;have e:J≠x:=Mem.ne Mem.upd_same O;rw[ae e.symm]at O;have f:F≠x:=Mem.ne Mem.upd_same O;rw[ae f.symm]at O;have B:p≠x:=Mem.ne Mem.upd_same O;rw[ae B.symm]at O;refine aq λQ' E' hq _=>lW (hq _ _ ?_);have key:((((N.upd p<|.dK<|dN g.n).upd F<|.lst<|g.ps.map D.int).upd J<|.dK<|uD g.u).upd x<|.ins ad.C_Going [("numbers",.ref p),("pieces",.ref F),("unsettled",.ref J),("todo",nq g.td),("left",.int g.left)])=gM ad ⟨x,p,F,J,B.symm,f.symm,e.symm,H,G,I⟩ g N:=by
  unfold gM gF;rw[aB e,aB f,aB B]
 rw[key];have hfr:Gk.Fr ⟨x,p,F,J,B.symm,f.symm,e.symm,H,G,I⟩ N:=⟨O,W,Y,S⟩;have hh:=h _ hfr;generalize hk':(⟨x,p,F,J,B.symm,f.symm,e.symm,H,G,I⟩:Gk)=Z at *;have ex:x=Z.a:=by rw[<- hk']
 rw[ex];simp only[ag,OH];unfold vX;have hv:∃w,cM (uD g.u) q=ap w:=Qd.mp (by rw[km];simpa using hu)
 obtain⟨w,hv⟩:=hv;simp only[ai,bn,CS,aX,ac,Oo,dt,cE,HH,CD,fY,eS,hv,s_,GR];refine⟨trivial,trivial,?_⟩;unfold vU uZ vZ;rcases dY hk with⟨y,hy,rfl⟩|⟨i,hi,rfl⟩
 .have keys:y∈g.n.map (·.1):=by rw[ok.n.keys];exact hy
  have nl:(dN g.n).length<sizeLine:=by
   have W:(dN g.n).length=C.names.length:=by rw[<- ok.n.keys];simp[dN]
   have:=o.l1;exact jr (by lia)
  simp only[kD]at hh ⊢;simp![jn,zi,RS,SO,QT,Qj,Sa,cE,Gv,fW,kT keys,G_];exact⟨nl,am hh⟩
 .have e3:rS (g.ps.map D.int).length (i:Nat)=ap i:=by
   rw[fq (by lia) (by rw[Ot,ok.lp];lia),OF]
  have e4:(g.ps.map D.int).set i (.int v)=(g.ps.set i v).map D.int:=by rw[List.map_set]
  simp only[kD]at hh ⊢;simp![jn,zi,RS,SO,QT,Qj,Sa,TC,Q6,cE,gf1,nN,e3,e4,Mc];exact am hh
end
def eO(ad:Ad)(L c:Nat):MO:=.ins ad.C_Ends [("limit",.int (L:Nat)),("count",.int (c:Nat))]
inductive Tr where
 |e (m:D)|a (q:aF) (x y:Tr)
def Tr.d:Tr->D
 |.e m=>.tup [.str "end",m]
 |.a q x y=>.tup [.str "ask",kD q,x.d,y.d]
def Tr.asks:Tr->Nat
 |.e _=>0
 |.a _ x y=>1+x.asks+y.asks
def bV(C:Cse)(s t:Sta):Nat->Gs->Tr
 |0,_=>.e .non
 |n+1,g=>match (bA C (C.most+1) g).1 with
  |none=>.e (J6 C (bA C (C.most+1) g).2)
  |some q=>.a q (bV C s t n<|cg (bA C (C.most+1) g).2 q<|aL C s q) (bV C s t n<|cg (bA C (C.most+1) g).2 q<|aL C t q)
section
variable{t:Sta}{k:Gk}
theorem iS{e:eg}{c:Nat}(f:M e=ap (eO ad L c))(I:c+1<=L)(h:Q .non (M.upd e<|eO ad L (c+1))):BL ad [.ref e] M Q E:=by
 have F:OY ("count":Str) [(("limit":Str),D.int (L:Nat)),(("count":Str),D.int (c:Nat))]=ap (.int (c:Nat)):=rfl;have G:∀v,bC ("count":Str) (.int v) [(("limit":Str),D.int (L:Nat)),(("count":Str),D.int (c:Nat))]=[(("limit":Str),D.int (L:Nat)),(("count":Str),D.int v)]:=λ_=>rfl;have H:∀v,OY ("count":Str) [(("limit":Str),D.int (L:Nat)),(("count":Str),D.int v)]=ap (.int v):=λ_=>rfl;have p:∀v,OY ("limit":Str) [(("limit":Str),D.int (L:Nat)),(("count":Str),D.int v)]=ap (.int (L:Nat)):=λ_=>rfl;have B:decide (((L:Nat):Int)<((c:Nat):Int)+1)=false:=decide_eq_false (by lia)
 unfold eO at f h;rw[u_q4];unfold G0 vW;simp only[ai,qv,aH,ak,ah,aX,ac,dC,aE,dt,f,F,G,H,p,Mem.upd_same,sy,j7,B];refine⟨trivial,by simp,trivial,trivial,trivial,?_⟩
 rw[if_neg (by simp)]
 refine am ?_;have e:(((c:Nat):Int)+1)=((c+1:Nat):Int):=by lia
 rw[e];exact h
theorem D5{a:eg}{fs:List (Str×D)}{Cl:eg}{m:Str}{T:Sd}{e:bp}{t:fg}(B:∀K:DK,K (.ref a) M->e U M K)(p:M a=ap (.ins Cl fs))(f:fs.lookup m=cm)(h:t U M λds M2=>ds.length+1=n/\calls T EE (.ref a::ds) M2 Q ⟨⟩):cP Cl m T EE n e t U M Q:=by
 unfold cP;refine B _ ?_;simp only[p];exact⟨trivial,f,h⟩
theorem NY(f:Gat ad k g N)(o:C.Ok)(H:SOk C z)(ok:GOk C g)(B:q∈cS C)(I:q∈g.u)(h:∀k1:Gk,k1.Fr N->K (.ref k1.a) (gM ad k1 (cg g q<|aL C z q) N)):
  ao (cP ad.C_Going "settled" (zj ad) ii 3 (ac 2)<|aa (ac 1)<|aa (ao<|aj (jA ad) ii 3<|aa (ah au (ac 3)<|dC<|.int 0)<|aa (ac 0)<|aa (ac 1) af) af) [ap z.d,ap (kD q),ap (.ref k.a),ap (bF C s t)] N K:=by
 have fi:∀{v:Int}{M:Mem}{Q:DK},Q (.int v) M->frz (.int v) M Q:=λz=>z;have G:∀{a:eg}{M:Mem}{Q:DK}{fs:List (Str×D)},M a=ap (.ins ad.C_Going fs)->Q (.ref a) M->frz (.ref a) M Q:=λ{a M Q fs} e z=>by simp only[frz,e];exact z
 unfold ao;refine D5 (λK q=>q) f.a gfs ?_;unfold bF;simp only[aa,ac,aj,af,ah,dC,Oo,dt,au,aI,atI_0];refine⟨rfl,aO (λ_ _ z=>dJ o H B z)<|fi ?_⟩;exact⟨rfl,aq λQ' E' F _=>ql f o ok B I λk1 p=>F _ _ (G cE<|h k1 p)⟩
theorem nH(B:Gat ad k g N)(o:C.Ok)(X:SOk C s)(W:SOk C t)(ok:GOk C g)(S:q∈cS C)(R:q∈g.u)(h:∀(k1 k2:Gk)(p:eg),k1.Fr N->k2.Fr (gM ad k1 (cg g q<|aL C s q) N)->gM ad k2 (cg g q<|aL C t q) (gM ad k1 (cg g q<|aL C s q) N) p=cm->
   Q (.ref p) ((gM ad k2 (cg g q<|aL C t q)<|gM ad k1 (cg g q<|aL C s q) N).upd p<|.lst [.ref k1.a,.ref k2.a])):
  yQ ad [bF C s t,.ref k.a,kD q] N Q E:=by
 have e:=@Lu C s t;rw[LQ];unfold yN;simp only[az,aZ,bG,uA,cI,bI,ac,dC,Oo,dt,bt,Ou,OV,OO,OP,PK];have I:jV [C.d,s.d,t.d,D.int (C.most:Nat)] (ap 1) (ap 3)=[s.d,t.d]:=rfl;generalize G:ao (cP ad.C_Going "settled" (zj ad) ii 3 (ac 2)<|aa (ac 1)<|aa (ao<|aj (jA ad) ii 3<|aa (ah au (ac 3)<|dC<|.int 0)<|aa (ac 0)<|aa (ac 1) af) af)=te;have H:∀{N:Mem}{z:Sta}{K:DK},Gat ad k g N->SOk C z->(∀k1:Gk,k1.Fr N->K (.ref k1.a) (gM ad k1 (cg g q<|aL C z q) N))->te [ap z.d,ap (kD q),ap (.ref k.a),ap (bF C s t)] N K:=λ{N z K} O P hh=>by
  rw[<- G];exact NY O o P ok S R hh
 simp only[e,ao,ac,dC,dt,JO,I,frz,aI,bE];rw[<- e];unfold cq;refine⟨aS,?_⟩;simp only[ag,OH,dG,if_true];refine H B X λk1 f=>⟨jr (by simp),?_⟩
 unfold cq;refine⟨aS,?_⟩;simp only[ag,OH,dG,if_true];refine H (B.more f) W λk2 F=>⟨jr (by simp),?_⟩
 unfold cq;exact⟨aS,λp J=>am (h k1 k2 p f F J)⟩
end
theorem lQ{b:eg}(h:M b=ap o):M.upd b o=M:=by
 funext c;unfold Mem.upd
 split
 .rename_i e;rw[e,h]
 .rfl
theorem Ew{k1 k2:Gk}{F G:Gs}(h:k2.Fr (gM ad k1 F N)):gM ad k2 G (gM ad k1 F N)=gM ad k1 F (gM ad k2 G N):=by
 obtain⟨X,H,J,a4,_⟩:=bY h.a;obtain⟨Y,Z,S,b4,_⟩:=bY h.dn;obtain⟨P,O,c3,R,_⟩:=bY h.lp;obtain⟨d1,W,d3,I,_⟩:=bY h.du;funext b
 by_cases f:b=k2.a
 .subst f;rw[cE,jQ X H J a4,cE]
 by_cases e:b=k2.dn
 .subst e;rw[fW,jQ Y Z S b4,fW]
 by_cases p:b=k2.lp
 .subst p;rw[nN,jQ P O c3 R,nN]
 by_cases B:b=k2.du
 .subst B;rw[fY,jQ d1 W d3 I,fY]
 rw[jQ f e p B];unfold gM;simp only[Mem.upd,f,e,p,B,if_false]
section
variable{t:Sta}{k:Gk}
theorem KC{r:Rw}(h:dE C g r=ap q):q∈g.u:=by
 unfold dE at h
 split at h
 .cases h
 .split at h
  .rename_i B p e
   cases h;have:q∈(cS C).filter λk=>decide (k∈((cX r).filter λx=>decide ((OR x:aF)∈g.u)).map OR):=by rw[e];simp
   have:=(Ox.mp this).2;obtain⟨x,f,rfl⟩:=Pa.mp (of_decide_eq_true this);exact of_decide_eq_true (Ox.mp f).2
  .split at h
   .split at h
    .rename_i c;cases h;exact c
    .cases h
   .cases h
theorem Mw{r:Rw}:(jB C g rest r).u.length<=g.u.length/\∀x∈(jB C g rest r).u,x∈g.u:=by
 have e:∀z:aF,(g.u.filter λk=>decide (k≠z)).length<=g.u.length/\∀x∈g.u.filter (λk=>decide (k≠z)),x∈g.u:=λz=>⟨Ph _ _,λx f=>(Ox.mp f).1⟩;cases r with
 |ifr=>exact⟨Oz _,λ_ h=>h⟩
 |again=>exact⟨Oz _,λ_ h=>h⟩
 |_=>exact e _
theorem i6:∀(f:Nat)(g:Gs),((bA C f g).2.u.length<=g.u.length/\∀x∈(bA C f g).2.u,x∈g.u)/\(0<=g.left->0<=(bA C f g).2.left/\(bA C f g).2.left<=g.left)/\∀q,(bA C f g).1=ap q->q∈(bA C f g).2.u
 |0,g=>⟨⟨Oz _,λ_ h=>h⟩,λh=>⟨h,Q1 _⟩,λq h=>by cases h⟩
 |f+1,g=>by
  unfold bA;cases e:g.td with
  |nil=>
   refine⟨⟨Oz _,λ_ h=>h⟩,λh=>⟨h,Q1 _⟩,λq h=>?_⟩;dsimp only at h ⊢
   split at h
   .rename_i c;cases h;exact c
   .cases h
  |cons r rest=>
   dsimp only
   split
   .exact⟨⟨Oz _,λ_ h=>h⟩,λh=>⟨h,Q1 _⟩,λq h=>by cases h⟩
   .rename_i P
    cases a:dE C g r with
    |some k=>
     refine⟨⟨Oz _,λ_ h=>h⟩,λh=>⟨h,Q1 _⟩,λq h=>?_⟩;cases h;exact KC a
    |none=>
     obtain⟨⟨G,H⟩,p,J⟩:=i6 f (jB C g rest r);obtain⟨I,B⟩:=Mw (C:=C) (g:=g) (r:=r) (rest:=rest);have O:(jB C g rest r).left=g.left-1:=lI;refine⟨⟨OQ G I,λx F=>B x (H x F)⟩,λh=>?_,J⟩;have:=p (by lia)
     exact⟨this.1,by dsimp only;lia⟩
theorem qN(h:q∈u):(u.filter λk=>decide (k≠q)).length<u.length:=by
 rw[List.length_filter_lt_length_iff_exists];exact⟨q,h,by simp⟩
theorem hW{e:eg}{L:Nat}(o:C.Ok)(hs:SOk C s)(ht:SOk C t):∀(n:Nat)(g:Gs)(k:Gk)(M:Mem)(c:Nat)(Q:DK)(E:DX),GOk C g->0<=g.left->g.left<=C.most->(∀x∈g.u,x∈cS C)->g.u.length<n->M e=ap (eO ad L c)->k.Fr M->
  c+(bV C s t n g).asks<=L->Q (bV C s t n g).d (M.upd e<|eO ad L (c+(bV C s t n g).asks))->U3 ad n [bF C s t,.ref k.a,.ref e] (gM ad k g M) Q E
 |0,g,k,M,c,Q,E,ok,h0,hm,hu,hn,he,hf,hc,h=>by lia
 |n+1,g,k,M,c,Q,E,ok,h0,hm,hu,hn,he,hf,hc,h=>by
  have hcs:=@Lu C s t;have J:=kd o (C.most+1) g ok;obtain⟨⟨hlen,F⟩,Y,hask⟩:=i6 (C:=C) (C.most+1) g;rw[LH];unfold wQ;simp only[ai,ar,ao,aj,aa,af,ah,ac,dC,Oo,dt,hcs,au,aI,atI_0];refine⟨rfl,aq λQ' E' O _=>z9 (f:=C.most+1) o ok h0 (by lia) (O _ _ ?_)⟩
  have fo:∀{q:Option aF}{M:Mem}{Q:DK},Q (Aa q) M->frz (Aa q) M Q:=λ{q} {M} {Q} z=>by
   cases q with
   |none=>exact z
   |some k=>cases k<;>exact z
  refine fo ?_;simp only[ag,OH];unfold bV at h hc;generalize hgo:bA C (C.most+1) g=go at *;obtain⟨a,H⟩:=go;dsimp only at *;unfold qb;cases a with
  |none=>
   unfold rP;simp only[ai,aH,ak,ah,ac,dC,Aa,ja,ie,if_true,az,aK,aa,af,aj,Oo,dt,au,aI,atI_0];refine⟨rfl,aO (λ_ _ z=>t_ o J z) ⟨bf (by simp),?_⟩⟩
   simp only[Tr.asks,Tr.d,UC,lQ he]at h;exact⟨M,λb ob eb=>dm hf eb,h⟩
  |some q=>
   have R:=hask q rfl;have S:=hu q (F q R);have fl:=qN R;simp only[Tr.asks,Tr.d]at h hc;have nn:ie (kD q)=false:=by cases q<;>rfl
   simp only[ai,aH,ak,ah,ac,dC,Aa,ja,nn,aE,Oo,dt];rw[if_neg (by simp)]
   unfold pc;simp only[ai,bn];have lo:OY ("one_more":Str) [(("limit":Str),D.int (L:Nat)),(("count":Str),D.int (c:Nat))]=none:=rfl;refine D5 (a:=e) (fs:=[("limit",.int (L:Nat)),("count",.int (c:Nat))]) (λK q=>q) (dm hf he) lo ?_;simp only[af];refine⟨rfl,aq λQ' E' O _=>iS (dm hf he) (by lia) (O _ _ ?_)⟩
   rw[qP hf he];have he1:(M.upd e<|eO ad L (c+1)) e=ap (eO ad L (c+1)):=Mem.upd_same;have G:∀{o':MO},k.Fr (M.upd e o'):=λ{o'}=>⟨by rw[ae (λz=>by rw[<- z,hf.a]at he;cases he)];exact hf.a,by rw[ae (λz=>by rw[<- z,hf.dn]at he;cases he)];exact hf.dn,by rw[ae (λz=>by rw[<- z,hf.lp]at he;cases he)];exact hf.lp,by rw[ae (λz=>by rw[<- z,hf.du]at he;cases he)];exact hf.du⟩
   unfold qF;simp only[ai,ar,ao,aj,aa,af,ac,Oo,dt];refine⟨rfl,aq λQ' E' O _=>nH .of o hs ht J S R λk1 k2 p h1 I hp=>O _ _ (cA hp ?_)⟩;simp only[ag,OH];unfold qY;simp only[az,aK,aa,af,aj,ac,dC,ah,Oo,dt,au,aI,atI_0,atI_1];generalize hg1:cg H q (aL C s q)=g1 at *;generalize hg2:cg H q (aL C t q)=g2 at *;have W:g1.u.length<n/\(∀x∈g1.u,x∈cS C)/\g1.left=H.left/\GOk C g1:=by
    rw[<- hg1];exact⟨by rw[dH];lia,λx Z=>by rw[dH]at Z;exact hu x (F x (Ox.mp Z).1),eR,kM J<|ci o hs S⟩
   have P:g2.u.length<n/\(∀x∈g2.u,x∈cS C)/\g2.left=H.left/\GOk C g2:=by
    rw[<- hg2];exact⟨by rw[dH];lia,λx Z=>by rw[dH]at Z;exact hu x (F x (Ox.mp Z).1),eR,kM J<|ci o ht S⟩
   have hll:=Y h0;rw[Ew I];have B:k2.Fr (gM ad k H<|M.upd e<|eO ad L (c+1)):=⟨(bY I.a).2.2.2.2,(bY I.dn).2.2.2.2,(bY I.lp).2.2.2.2,(bY I.du).2.2.2.2⟩;obtain⟨a1,a2,a3,a4,_⟩:=bY I.a;obtain⟨b1,b2,b3,b4,_⟩:=bY I.dn;obtain⟨c1,c2,c3,c4,_⟩:=bY I.lp;obtain⟨d1,d2,d3,d4,_⟩:=bY I.du;have h1N:k1.Fr (gM ad k2 g2<|gM ad k H<|M.upd e<|eO ad L (c+1)):=⟨by rw[jQ a1.symm b1.symm c1.symm d1.symm];exact h1.a,by rw[jQ a2.symm b2.symm c2.symm d2.symm];exact h1.dn,by rw[jQ a3.symm b3.symm c3.symm d3.symm];exact h1.lp,by rw[jQ a4.symm b4.symm c4.symm d4.symm];exact h1.du⟩
   have heN:gM ad k H (M.upd e<|eO ad L (c+1)) e=ap (eO ad L (c+1)):=dm G he1;refine⟨rfl,aq λQ' E' O _=>hW o hs ht n g1 k1 _ (c+1) _ _ W.2.2.2 (by lia) (by lia) W.2.1 W.1 (dm B heN) h1N (by lia) (O _ _ ?_)⟩
   rw[qP B heN,qP G he1,Mem.upd_upd];have X:k2.Fr (gM ad k H<|M.upd e<|eO ad L (c+1+(bV C s t n g1).asks)):=by
    have z:∀{b:eg},gM ad k H (M.upd e<|eO ad L (c+1)) b=cm->gM ad k H (M.upd e<|eO ad L (c+1+(bV C s t n g1).asks)) b=none:=λ{b} hb=>by
     obtain⟨n1,n2,n3,n4,n5⟩:=bY hb;rw[jQ n1 n2 n3 n4];have:b≠e:=λz=>by rw[z,Mem.upd_same]at n5;cases n5
     rw[ae this]at n5 ⊢;exact n5
    exact⟨z B.a,z B.dn,z B.lp,z B.du⟩
   refine⟨rfl,aq λQ' E' O _=>hW o hs ht n g2 k2 _ (c+1+(bV C s t n g1).asks) _ _ P.2.2.2 (by lia) (by lia) P.2.1 P.1 (dm G Mem.upd_same) X (by lia) (O _ _ ?_)⟩
   rw[qP G Mem.upd_same,Mem.upd_upd];refine⟨bf (by simp),M.upd e (eO ad L (c+(1+(bV C s t n g1).asks+(bV C s t n g2).asks))),λb ob eb=>?_,h⟩
   have ec:c+1+(bV C s t n g1).asks+(bV C s t n g2).asks=c+(1+(bV C s t n g1).asks+(bV C s t n g2).asks):=by lia
   rw[ec];exact dm G eb
end
def g0(C:Cse)(s t:Sta):Gs:=⟨C.names.zip s.nums,s.pieces,aA C s t,C.rows,(C.most:Nat)⟩
section
variable{t:Sta}
theorem xR(o:C.Ok):(aA C s t).Nodup:=by
 refine Td _ ?_;show (cS C).Nodup;unfold cS;rw[SK];refine⟨?_,?_,?_⟩
 .exact TB _ (λa b h z=>h (Sb z)) o.nd
 .exact TB _ (λa b h z=>h (by have:=Q9 z;lia)) S3
 .intro a e b f z
  obtain⟨x,_,rfl⟩:=Pa.mp e;obtain⟨y,_,rfl⟩:=Pa.mp f;cases z
theorem kj:∀x∈aA C s t,x∈cS C:=λx e=>(Ox.mp e).1
theorem sL(o:C.Ok):(aA C s t).length<=200:=by
 have f:(aA C s t).length<=(cS C).length:=Ph _ _;have e:(cS C).length=C.names.length+C.many:=by simp[cS]
 have:=o.l1;have:=o.few;lia
theorem cb(o:C.Ok)(B:SOk C s)(F:SOk C t)(h:∀p,M p=cm->Q (.ref p) (M.upd p<|.lst<|(aA C s t).map kD)):jC ad [bF C s t] M Q E:=by
 rw[LM];unfold xD bF;simp only[az,aj,aa,ah,ac,dC,af,dt,Oo,au,aI,atI_0,atI_1,atI_2];exact⟨rfl,aq λQ' E' f _=>Cz o B F λp e=>f _ _ (am<|h p e)⟩
theorem A_(o:C.Ok)(e:SOk C s):GOk C (g0 C s t):=⟨(o.pl e).nok,e.lp,e.rp,o.ok⟩
theorem vh(o:C.Ok)(hs:SOk C s)(ht:SOk C t)(h:∀k:Gk,k.Fr M->Q (.ref k.a) (gM ad k (g0 C s t) M)):y4 ad [bF C s t] M Q E:=by
 have ul:=sL (s:=s) (t:=t) o;have S:=@Lu C s t;have hcd:=@Ay C;have Z:s.d=.tup [.tup (s.nums.map D.int),.tup (s.pieces.map D.int)]:=rfl;rw[NW];unfold xr qS;simp only[ai,ar,ah,ac,dC,ag,OH,dt,Oo,S,au,aI,atI_0,atI_1];rw[<- S];unfold qf;simp only[ai,ar,bu,aa,af,ao,aZ,bG,aj,ac,bt,Ou,OV,OO,OP,dt,Oo];refine⟨rfl,aq λQ' E' X _=>cb o hs ht λp hp=>X _ _ (cA hp ?_)⟩;simp only[aI,bE];refine f_ (λd=>.tup [d,.bl true]) aS (by simp;lia) (λx J K q=>?_) ?_
 .simp only[aK,aa,ac,dC,af,Oo,dt]
  exact⟨bf (by simp),q⟩
 intro p hp;refine cA hp ?_;have e:((aA C s t).map kD).map (λd=>D.tup [d,.bl true])=(aA C s t).map λk=>D.tup [kD k,.bl true]:=by simp
 rw[e];have hnd:(([]:List (aF×D)).map (·.1)++(uD<|aA C s t).map (·.1)).Nodup:=by rw[j_];exact xR o
 simp only[fQ,CB,gO,jo,yO hnd,OP];refine⟨trivial,by simp[uD];lia,λH h3=>?_⟩
 simp only[ag,OH];unfold qq;simp only[az,fT,aa,fZ,ah,ac,dC,af,bu,aj,ao,dt,Oo,hcd,Z,au,aI,atI_0,atI_1,dX,Ot];refine⟨hs.ln.symm,o.l0,OQ o.l1 (by decide),λP Y=>?_⟩
 have F:H≠P:=Mem.ne Mem.upd_same Y;rw[ae F.symm]at Y;simp only[eJ,aI];intro O W;have R:P≠O:=Mem.ne Mem.upd_same W;rw[ae R.symm]at W;have B:H≠O:=Mem.ne Mem.upd_same W;rw[ae B.symm]at W;simp only[S,atI_3,dt,Oo];refine⟨rfl,aO (λ_ _ q=>eB (td:=[]) q) ?_⟩;have ft:∀{l:List Rw}{M:Mem}{Q:DK},Q (nq l) M->frz (nq l) M Q:=λ{l} {M} {Q} q=>by cases l<;>exact q
 rw[Pm];refine ft ?_;refine⟨rfl,λx J=>?_⟩;have I:O≠x:=Mem.ne Mem.upd_same J;rw[ae I.symm]at J;have G:P≠x:=Mem.ne Mem.upd_same J;rw[ae G.symm]at J;have f:H≠x:=Mem.ne Mem.upd_same J;rw[ae f.symm]at J;refine aq λQ' E' X _=>lW (X _ _ ?_);rw[fK hs.ln.symm o.nd];have key:((((M.upd H<|.dK<|uD<|aA C s t).upd P<|.dK<|dN<|C.names.zip s.nums).upd O<|.lst<|s.pieces.map D.int).upd x<|.ins ad.C_Going [("numbers",.ref P),("pieces",.ref O),("unsettled",.ref H),("todo",nq C.rows),("left",.int (C.most:Nat))])=gM ad ⟨x,P,O,H,G.symm,I.symm,f.symm,R,F.symm,B.symm⟩ (g0 C s t) M:=by
  unfold gM gF g0;rw[aB I,aB G,aB f,aB (a:=H) (b:=P) F,aB (a:=H) (b:=O) B]
 rw[key];exact am (h ⟨x,P,O,H,G.symm,I.symm,f.symm,R,F.symm,B.symm⟩ ⟨J,Y,W,h3⟩)
def Cse.tree(C:Cse)(s t:Sta):Tr:=bV C s t 24 (g0 C s t)
theorem A4(o:C.Ok)(p:SOk C s)(F:SOk C t)(W:C.mark s=.int a)(f:C.mark t=.int b)(B:a≠b)(R:(aA C s t).length<24)(S:1+(C.tree s t).asks<=L)(h:Q (C.tree s t).d M):
  xg ad [bF C s t,.int (L:Nat)] M Q E:=by
 rw[Ml];unfold wW r8;simp only[ai,bn,aj,aa,ac,af,ar,fT,dt,Oo];refine⟨rfl,aO (λ_ _ q=>mH o p F W f B q) ⟨rfl,λe O=>?_⟩⟩;have H:bC ("limit":Str) (.int (L:Nat)) []=[(("limit":Str),D.int (L:Nat))]:=rfl;have G:bC ("count":Str) (.int 0) [(("limit":Str),D.int (L:Nat))]=[(("limit":Str),D.int (L:Nat)),(("count":Str),D.int 0)]:=rfl;refine aq λQ' E' hq _=>?_;rw[u_q8];unfold Fe;simp![Mem.upd_same,Mem.upd_upd,H,G,Pf,Oy];refine⟨by decide,by decide,am<|hq _ _ ?_⟩
 simp only[ag,OH];unfold p_ oW;simp only[ai,bn];have J:OY ("one_more":Str) [(("limit":Str),D.int (L:Nat)),(("count":Str),D.int 0)]=none:=rfl;refine D5 (a:=e) (λK q=>q) Mem.upd_same J ?_;simp only[af];refine⟨rfl,aq λQ' E' hq _=>iS (L:=L) (c:=0) Mem.upd_same (by lia) (hq _ _ ?_)⟩
 rw[Mem.upd_upd];simp only[az,aj,aa,ac,af,ao,dt,Oo];refine⟨rfl,aq λQ' E' hq _=>vh o p F λk P=>hq _ _ ?_⟩;have I:∀{M:Mem}{Q:DK}{fs:List (Str×D)},M k.a=ap (.ins ad.C_Going fs)->Q (.ref k.a) M->frz (.ref k.a) M Q:=λ{M Q fs} e z=>by simp only[frz,e];exact z
 refine I cE ⟨rfl,aq λQ' E' hq _=>hW o p F 24 _ k _ 1 _ _ (A_ o p) (by show (0:Int)<=((C.most:Nat):Int);lia) (Q1 _) kj R Mem.upd_same P S (hq _ _ ?_)⟩
 rw[Mem.upd_upd];refine⟨M,λb X f=>?_,h⟩;rw[ae (Mem.ne f O)];exact f
end
theorem z_(a b:Nat):Sj (a:Int) (b:Int)=((a ||| b:Nat):Int):=by
 have p:decide ((0:Int)<=-(a:Int)-1)=false:=decide_eq_false (by lia)
 have f:decide ((0:Int)<=-(b:Int)-1)=false:=decide_eq_false (by lia)
 have h:(-(-(a:Int)-1)-1).toNat=a:=by lia
 have e:(-(-(b:Int)-1)-1).toNat=b:=by lia
 unfold Sj Ru Builtin.bitNot;rw[p,f];simp only[h,e];lia
theorem D3(a:Nat):Ru (a:Int) 1=((a % 2:Nat):Int):=by
 have e:decide ((0:Int)<=(a:Int))=true:=decide_eq_true (by lia)
 unfold Ru;rw[e];show (((a:Int).toNat &&& (1:Int).toNat:Nat):Int)=_;rw[OF];show ((a &&& 1:Nat):Int)=_;rw[Nat.and_one_is_mod]
def Du(b:Nat):Nat:=P1 (b:Int)
def av(b:Nat):List Nat:=(Pe<|Du b).filter λi=>b.testBit i
theorem Bz{b m:Nat}(h:b<2 ^ m):Du b<=m:=by
 unfold Du P1
 split
 .lia
 .rename_i e
  have f:b≠0:=λz=>e (by rw[z];rfl)
  rw[Int.natAbs_natCast];have:=(UN f).mpr h;lia
theorem gy{b m:Nat}(h:b<2 ^ m):av b=(Pe m).filter λi=>b.testBit i:=by
 obtain⟨d,rfl⟩:∃d,m=Du b+d:=⟨m-Du b,by have:=Bz h;lia⟩
 unfold av;rw[List.range_add,PZ];have:((Pe d).map (Du b+·)).filter (λi=>b.testBit i)=[]:=by
  rw[R7];intro i p;obtain⟨j,_,rfl⟩:=Pa.mp p;have e:b<2 ^ Du b:=by
   unfold Du P1
   split
   .rename_i f
    have:b=0:=by have:=beq_iff_eq.mp f;lia
    subst this;decide
   .rename_i f
    rw[Int.natAbs_natCast];exact Nat.lt_log2_self
  rw[Sg (OA e<|Po (by decide)<|P0 _ _)]
  simp
 rw[this,Pm]
section
theorem fX{b:Nat}(J:b<2 ^ 200)(h:∀p,M p=cm->Q (.ref p) (M.upd p<|.lst ((av b).map λ(i:Nat)=>D.int (i:Int)))):uw ad [.int (b:Nat)] M Q E:=by
 have G:=Bz J;rw[LO];unfold wJ;simp only[az,aZ,fE,aa,mW,ac,af,lA,dt,Oo,bt,Ou,OV,OO,OP,PK];have I:((P1 (b:Int):Nat):Int)<=200:=by have:P1 (b:Int)<=200:=G;lia
 refine⟨rfl,by lia,by lia,?_⟩
 refine de (λd=>match d with|.int i=>b.testBit i.toNat|_=>eC) id aS ?_ (λx f K q=>?_) (λx f _ K q=>q) ?_
 .simp only[dR,Ot,SM,OF];show Du b<=_;lia
 .simp only[dR,Pa,P2]at f
  obtain⟨i,O,rfl⟩:=f;rw[SX]at q ⊢;have H:((b:Nat):Int) / 2 ^ (((i:Nat):Int)).toNat=((b / 2 ^ i:Nat):Int):=by rw[OF];simp
  simp only[ak,ah,ac,dC,dt,Oo,KO,J2,oI,j7,H,D3,bX,dv,bj,aP];refine⟨by lia,trivial,trivial,?_⟩
  simp only[OF,Nat.testBit_eq_decide_div_mod_eq]at q;have B:decide (((b / 2 ^ i % 2:Nat):Int)=1)=decide (b / 2 ^ i % 2=1):=by congr 1;exact propext (by lia)
  rw[B];exact q
 .intro p F
  have e:((dR 0<|Us ((P1 (b:Int):Nat):Int)).filter λd=>match d with|.int i=>b.testBit i.toNat|_=>eC).map id=(av b).map λ(i:Nat)=>D.int (i:Int):=by
   rw[Qe];unfold dR av Du;rw[P5,OF];have:∀l:List Nat,l.map (λ(i:Nat)=>D.int (0+(i:Int)))=l.map λ(i:Nat)=>D.int (i:Int):=λl=>PF λi _=>by simp
   rw[this];congr 1;refine QE λi _=>?_;simp
  rw[e];exact am (h p F)
theorem qW{te:bp}{ok:Mem->Prop}{Q:List D->Mem->Prop}{b:BxC (fG 2<|b6 (ag 0)<|b6 (ag 1) eY) dG te ok Q}{rest:Dl}(f:Nat->D->D)(e:ok M):∀(xs:List D)(j:Nat)(W2:List D)(B F:Option D),W2.length+xs.length<=100000->
  (∀(i:Nat) x,xs[i]?=ap x->∀K:DK,K (f (j+i) x) M->te (ap (.int ((j+i:Nat):Int))::ap x::rest) M K)->Q (W2++(xs.zipIdx j).map λp=>f p.2 p.1) M->
  cq (fG 2<|b6 (ag 0)<|b6 (ag 1) eY) dG te ok Q b (dW j xs) W2 (B::F::rest) M
 |[],j,W2,B,F,hl,he,h=>by
  unfold dW cq;exact⟨e,by simpa using h⟩
 |x::xs,j,W2,B,F,hl,he,h=>by
  simp only[Oy]at hl;unfold dW cq;refine⟨e,?_⟩;simp only[fG,b6,eY,ag,OH,dG,if_true];refine⟨rfl,he 0 x rfl _ ⟨jr (by lia),?_⟩⟩
  refine qW f e xs (j+1) _ _ _ (by simp;lia) (λi y G K q=>?_) ?_
  .have:=he (i+1) y (by simpa using G) K (by rw[show j+(i+1)=j+1+i by lia];exact q)
   rw[show j+(i+1)=j+1+i by lia]at this
   exact this
  .simpa [Qm] using h
end
structure Out where
 v:Str
 s:Nat
 f:Nat
def A8(ad:Ad)(x:Out):MO:=.ins ad.C_Outcome [("verdict",.str x.v),("sound",.int (x.s:Nat)),("faulty",.int (x.f:Nat))]
def Ext(M M':Mem):Prop:=∀b o,M b=ap o->M' b=ap o
theorem Ext.refl:Ext M M:=λ_ _ e=>e
theorem Ext.trans{M1 M2:Mem}(a:Ext M M1)(b:Ext M1 M2):Ext M M2:=λx o e=>b x o (a x o e)
theorem Ext.no(h:Ext M M'){b:eg}(e:M' b=cm):M b=none:=by
 cases q:M b with
 |none=>rfl
 |some o=>rw[h b o q]at e;cases e
theorem Ext.new{b:eg}(h:M b=cm):Ext M (M.upd b o):=λx u e=>by rw[ae (Mem.ne e h)];exact e
theorem Ext.upd{b:eg}(x:Ext M M')(h:M b=cm):Ext M (M'.upd b o):=λc u e=>by rw[ae (Mem.ne e h)];exact x c u e
theorem Ext.del{b:eg}(x:Ext M M')(h:M b=cm):Ext M (M'.del b):=λc u e=>by unfold Mem.del;rw[if_neg (Mem.ne e h)];exact x c u e
inductive Lay(ad:Ad)(M:Mem):List eg->List Out->Prop
 |nil:Lay ad M [] []
 |cons {a:eg} {x:Out} {as:Xa} {xs:List Out} (h:M a=ap (A8 ad x)) (t:Lay ad M as xs):Lay ad M (a::as) (x::xs)
theorem Lay.go{ad:Ad}{M M':Mem}:∀{e:Xa}{xs:List Out},Lay ad M e xs->(∀a x,M a=ap (A8 ad x)->M' a=ap (A8 ad x))->Lay ad M' e xs
 |_,_,.nil,_=>.nil
 |_,_,.cons h t,g=>.cons (g _ _ h) (t.go g)
theorem Lay.snoc{ad:Ad}{M:Mem}{a:eg}{x:Out}(h:M a=ap (A8 ad x)):∀{e:Xa}{xs:List Out},Lay ad M e xs->Lay ad M (e++[a]) (xs++[x])
 |_,_,.nil=>.cons h .nil
 |_,_,.cons h' t=>.cons h' (t.snoc h)
theorem Lay.length{ad:Ad}{M:Mem}:∀{e:Xa}{xs:List Out},Lay ad M e xs->e.length=xs.length
 |_,_,.nil=>rfl
 |_,_,.cons _ t=>congrArg (·+1) t.length
theorem vG{l:eg}{xs ys:List D}(h:M l=ap (.lst xs))(a:eg)(x:Out)(e:M a=ap (A8 ad x)):(M.upd l<|.lst ys) a=ap (A8 ad x):=by
 rw[ae (λz=>by rw[z,h]at e;cases e)];exact e
def jx(a b:Int)(m:D):Str:=if aP m (.int a)=true then "sound" else if aP m (.int b)=true then "faulty" else "other"
def bitK(us:List aF)(q:aF):Nat:=2 ^ us.idxOf q
def cY(a b:Int)(us:List aF):Tr->Nat->Nat->List Out
 |.e m,S,F=>[⟨jx a b m,S,F⟩]
 |.a q x y,S,F=>cY a b us y S (F ||| bitK us q)++cY a b us x (S ||| bitK us q) F
def F3(us:List aF):Tr->Prop
 |.e m=>m=.non\/∃v,m=.int v
 |.a q x y=>q∈us/\F3 us x/\F3 us y
def eh:Tr->Nat
 |.e _=>1
 |.a _ x y=>1+eh x+eh y
def wD(w:Tr×Nat×Nat):D:=.tup [w.1.d,.int (w.2.1:Nat),.int (w.2.2:Nat)]
def uV(a b:Int)(us:List aF)(ws:List (Tr×Nat×Nat)):List Out:=(ws.map λw=>cY a b us w.1 w.2.1 w.2.2).flatten
def cO(ws:List (Tr×Nat×Nat)):Nat:=(ws.map λw=>eh w.1).sum
theorem oG:∀t:Tr,1<=eh t
 |.e _=>Oz _
 |.a _ x y=>by unfold eh;lia
theorem Nl:∀e:List (Tr×Nat×Nat),e.length<=cO e
 |[]=>Oz _
 |w::e=>by
  have:=Nl e;have:=oG w.1;simp only[cO,Ou,Pj,Oy]at *;lia
def bD(us:List aF):List (aF×D):=us.zipIdx.map λp=>(p.1,D.int ((2 ^ p.2:Nat):Int))
theorem FE:(bD us).map (·.1)=us:=by
 unfold bD;rw[P7];exact List.zipIdx_map_fst 0 us
theorem Lo(h:q∈us):cM (bD us) q=ap (.int ((bitK us q:Nat):Int)):=by
 have f:∀(l:List aF)(j:Nat),q∈l->cM ((l.zipIdx j).map λp=>(p.1,D.int ((2 ^ p.2:Nat):Int))) q=ap (.int ((2 ^ (j+l.idxOf q):Nat):Int)):=by
  intro l
  induction l with
  |nil=>intro j h;cases h
  |cons a r ih=>
   intro j h;rw[Qm,Ou];unfold cM;rw[PX]
   by_cases e:a=q
   .subst e
    simp[List.idxOf_cons]
   .have B:(a==q)=false:=by simpa using e
    simp only[e,decide_false];have:=ih (j+1) (by rcases OM.mp h with z|z;exact absurd z.symm e;exact z)
    unfold cM at this;rw[this,List.idxOf_cons,B];congr 4;simp only[cond_false];lia
 have:=f us 0 h;rw[SQ]at this;exact this
section
theorem uK{x:eg}{y:Out}(h:Q .non (M.upd x<|A8 ad y)):E8 ad [.ref x,.str y.v,.int (y.s:Nat),.int (y.f:Nat)] (M.upd x<|.ins ad.C_Outcome []) Q E:=by
 have B:bC ("verdict":Str) (.str y.v) []=[(("verdict":Str),D.str y.v)]:=rfl;have e:bC ("sound":Str) (.int (y.s:Nat)) [(("verdict":Str),D.str y.v)]=[(("verdict":Str),D.str y.v),(("sound":Str),D.int (y.s:Nat))]:=rfl;have p:bC ("faulty":Str) (.int (y.f:Nat)) [(("verdict":Str),D.str y.v),(("sound":Str),D.int (y.s:Nat))]=[(("verdict":Str),D.str y.v),(("sound":Str),D.int (y.s:Nat)),(("faulty":Str),D.int (y.f:Nat))]:=rfl;rw[u_q0];unfold EV;simp![Mem.upd_same,Mem.upd_upd,B,e,p,Pf,Oy];exact⟨by decide,by decide,by decide,am h⟩
structure OK(ad:Ad)(M0:Mem)(us:List aF)(db lf lw:eg)(as:Xa)(ds:List Out)(ws:List (Tr×Nat×Nat))(N:Mem):Prop where
 x:Ext M0 N
 f:M0 lf=cm
 w:M0 lw=cm
 b:M0 db=cm
 bd:N db=ap (.dK<|bD us)
 lf':N lf=ap (.lst<|as.map D.ref)
 lw':N lw=ap (.lst (ws.map wD).reverse)
 ne:lf≠lw
 nb:lf≠db
 ny:Lay ad N as ds
 few:as.length+cO ws<=100000
 tr:∀w∈ws,F3 us w.1
theorem AK{cs ld:D}{O R G:eg}{as:Xa}{ds:List Out}{w:Tr×Nat×Nat}{p:List (Tr×Nat×Nat)}{c6 c7 c8 c9:Option D}(I:OK ad M0 us O R G as ds (w::p) N)(h:∀as' ds' P N' c6 c7 c8 c9,OK ad M0 us O R G as' ds' P N'->cO P<cO (w::p)->ds'++uV a b us P=ds++uV a b us (w::p)->D'.nx [ap cs,ap ld,ap (.tup [.int a,.int b]),ap (.ref O),ap (.ref R),ap (.ref G),c6,c7,c8,c9] N'):
  gn ad EE D' [ap cs,ap ld,ap (.tup [.int a,.int b]),ap (.ref O),ap (.ref R),ap (.ref G),c6,c7,c8,c9] N:=by
 obtain⟨tr,S,F⟩:=w;have ew:((((tr,S,F)::p).map wD).reverse)=(p.map wD).reverse++[wD (tr,S,F)]:=by simp
 have H:=I.lw';rw[ew]at H;have Z:((p.map wD).reverse++[wD (tr,S,F)])[((p.map wD).reverse++[wD (tr,S,F)]).length-1]?=ap (wD (tr,S,F)):=by simp
 have X:=I.tr _ OL;have few:=I.few;have len:=Nl p;simp only[cO,Ou,Pj]at few len;unfold gn;simp only[ai,ar,mW,ac,af,dt,Oo,eE,H,zH,Z,List.dropLast_concat];refine⟨trivial,?_⟩;simp only[ag,OH];have wr:wD (tr,S,F)=.tup [tr.d,.int (S:Nat),.int (F:Nat)]:=rfl;unfold pM rM;simp only[ai,ar,ah,ac,dC,wr,au,aI,atI_1,atI_2,ag,OH,dt,Oo];have I1:∀{u:D},(N.upd G<|.lst (p.map wD).reverse) R=ap (.lst<|as.map D.ref):=λ{u}=>by rw[ae I.ne];exact I.lf'
 have ex1:Ext M0 (N.upd G<|.lst (p.map wD).reverse):=I.x.upd I.w;have ny1:Lay ad (N.upd G<|.lst (p.map wD).reverse) as ds:=I.ny.go λa x=>vG H a x;have Y:O≠G:=λz=>by have:=I.bd;rw[z,H]at this;cases this
 have B:(N.upd G<|.lst (p.map wD).reverse) O=ap (.dK<|bD us):=by rw[ae Y];exact I.bd
 generalize hN1:N.upd G (.lst (p.map wD).reverse)=N1 at *;have J:N1 G=ap (.lst (p.map wD).reverse):=by rw[<- hN1,Mem.upd_same]
 have Ds:N1 R=ap (.lst<|as.map D.ref):=I1 (u:=.non);unfold qj;cases tr with
 |e m=>
  have ed:Tr.d (.e m)=.tup [.str "end",m]:=rfl;unfold pC;simp only[aH,ak,ah,ac,dC,au,aI,atI_0,atI_1,ed,bX,dv,bj,aP,decide_true,if_true,dt,Oo,bn,mW,eE,Ds,aa,fT,ao,aj,af];refine⟨trivial,trivial,trivial,rfl,aO (λ_ _ q=>jU X q) ?_⟩;have fs:∀{x:Str}{M:Mem}{Q:DK},Q (.str x) M->frz (.str x) M Q:=λz=>z;refine fs ⟨rfl,λx W=>aq λQ' E' hq _=>uK (y:=⟨jx a b m,S,F⟩) (hq _ _ ?_)⟩;have nx:R≠x:=Mem.ne Ds W;have nw:G≠x:=Mem.ne J W;have nd:O≠x:=Mem.ne B W;simp only[bU,ae nx,Ds];refine⟨by simp[eh]at *;exact jr (by lia),?_⟩
  refine h (as++[x]) (ds++[⟨jx a b m,S,F⟩]) p _ _ _ _ _ ⟨(ex1.upd<|ex1.no W).upd I.f,I.f,I.w,I.b,?_,?_,?_,I.ne,I.nb,?_,?_,λw hw=>I.tr w (OE _ hw)⟩ ?_ ?_
  .rw[ae (OW I.nb),ae nd];exact B
  .rw[Mem.upd_same];simp
  .rw[ae (OW I.ne),ae nw];exact J
  .refine Lay.snoc ?_ (ny1.go λa y e=>?_)
   .rw[ae (OW nx),Mem.upd_same]
   .rw[ae (λz=>by rw[z,Ds]at e;cases e),ae (Mem.ne e W)];exact e
  .simp only[cO,OG,PY,eh]at few ⊢;lia
  .simp[cO,eh]
  .simp[uV,cY]
 |a q x y=>
  obtain⟨hq,htx,hty⟩:=X;have ed:Tr.d (.a q x y)=.tup [.str "ask",kD q,x.d,y.d]:=rfl;have hne:decide (("ask":Str)=("end":Str))=false:=by decide +kernel
  have gd:qK N1 O (kD q)=ap (ap<|.int ((bitK us q:Nat):Int)):=by simp only[qK,B,eS,Lo hq]
  have sq:aI N1 (.ref O)=none:=by simp only[aI,B]
  unfold p9 qI rl;simp only[aH,ak,ah,ac,dC,au,atI_0,atI_1,atI_2,atI_3,ed,bX,dv,bj,aP,hne,dt,Oo,ai,ar,aI,B,gd,ag,OH,bn,mW,eE,J,aa,aK,af,oOr,j7,z_,bU,Mem.upd_same,Mem.upd_upd];refine⟨trivial,trivial,?_⟩;rw[if_neg (by simp)]
  have hr:(p.map wD).reverse.length=p.length:=by simp
  refine⟨trivial,bf (by simp),by rw[hr];exact jr (by simp[eh]at few;lia),trivial,bf (by simp),by rw[OG,hr];simp[eh]at few;exact jr (by simp;lia),?_⟩
  have er:((p.map wD).reverse++[D.tup [x.d,.int ((S ||| bitK us q:Nat):Int),.int (F:Nat)]])++[D.tup [y.d,.int (S:Nat),.int ((F ||| bitK us q:Nat):Int)]]=(((y,S,F ||| bitK us q)::(x,S ||| bitK us q,F)::p).map wD).reverse:=by simp[wD]
  rw[er];refine h as ds ((y,S,F ||| bitK us q)::(x,S ||| bitK us q,F)::p) _ _ _ _ _ ⟨ex1.upd I.w,I.f,I.w,I.b,by rw[ae Y];exact B,by rw[ae I.ne];exact Ds,Mem.upd_same,I.ne,I.nb,ny1.go λa x=>vG J a x,?_,?_⟩ ?_ ?_
  .simp only[cO,Ou,Pj,eh]at few ⊢;lia
  .intro w hw
   rcases OM.mp hw with z|hw
   .rw[z];exact hty
   .rcases OM.mp hw with z|hw
    .rw[z];exact htx
    .exact I.tr w (OE _ hw)
  .simp only[cO,Ou,Pj,eh];lia
  .simp[uV,cY]
end
section
variable{t:Sta}
theorem tF{us:List aF}{a b:Int}{X W:D}{H J O:eg}{M0:Mem}{D':DEnds}{EE:DX}{bx:BxW (dg<|ac 5) (gn ad EE) D'}:∀(n:Nat)(G:Xa)(ds:List Out)(ws:List (Tr×Nat×Nat))(N:Mem)(e B p F:Option D),cO ws<=n->OK ad M0 us H J O G ds ws N->
  (∀f N' e B p F,OK ad M0 us H J O f (ds++uV a b us ws) [] N'->D'.nx [ap X,ap W,ap (.tup [.int a,.int b]),ap (.ref H),ap (.ref J),ap (.ref O),e,B,p,F] N')->
  bW (dg<|ac 5) (gn ad EE) D' bx (n+1) [ap X,ap W,ap (.tup [.int a,.int b]),ap (.ref H),ap (.ref J),ap (.ref O),e,B,p,F] N
 |n,G,ds,[],N,e,B,p,F,hn,I,h=>by
  refine whF (λK q=>?_) (h G N e B p F<|by simpa [uV] using I)
  simp only[dg,ac,dt,Oo,Dt,I.lw'];exact q
 |0,G,ds,w::ws,N,e,B,p,F,hn,I,h=>by
  have:=oG w.1;simp only[cO,Ou,Pj]at hn;lia
 |n+1,G,ds,w::ws,N,e,B,p,F,hn,I,h=>by
  refine whT (λK q=>?_) (AK I λf S P N' d6 Z d8 d9 I' Y he=>?_)
  .have:((((w::ws).map wD).reverse).isEmpty)=false:=by simp
   simp only[dg,ac,dt,Oo,Dt,I.lw',this];exact q
  .exact tF n f S P N' d6 Z d8 d9 (by lia) I' λR N2 e6 e7 e8 e9 I2=>h R N2 e6 e7 e8 e9 (by rw[<- he];exact I2)
theorem pE{us:List aF}:∀(n:Nat)(g:Gs),(∀x∈g.u,x∈us)->F3 us (bV C s t n g)
 |0,g,h=>.inl rfl
 |n+1,g,h=>by
  obtain⟨⟨F,f⟩,p,hask⟩:=i6 (C:=C) (C.most+1) g;unfold bV;cases e:(bA C (C.most+1) g).1 with
  |none=>
   show J6 C _=.non\/_;unfold J6
   split
   .exact .inr ⟨_,rfl⟩
   .exact .inl rfl
  |some q=>
   have hs:∀v,∀x∈(cg (bA C (C.most+1) g).2 q v).u,x∈us:=λv x B=>by rw[dH]at B;exact h x (f x (Ox.mp B).1)
   exact⟨h q (f q<|hask q e),pE n _ (hs _),pE n _<|hs _⟩
theorem mP:∀t:Tr,eh t=2*t.asks+1
 |.e _=>rfl
 |.a _ x y=>by unfold eh Tr.asks;rw[mP x,mP y];lia
theorem oz:∀(us:List aF)(j:Nat),t8 ((us.zipIdx j).map λp=>D.tup [kD p.1,.int ((2 ^ p.2:Nat):Int)])=ap ((us.zipIdx j).map λp=>(p.1,D.int ((2 ^ p.2:Nat):Int)))
 |[],_=>rfl
 |k::ks,j=>by simp only[Qm,Ou,t8,eS,oz ks (j+1)]
theorem nJ(o:C.Ok)(hs:SOk C s)(Z:SOk C t)(ea:C.mark s=.int a)(eb:C.mark t=.int b)(O:a≠b)(hu:(aA C s t).length<24)(hc:1+(C.tree s t).asks<=L)(hL:L<=10000)(h:∀p as N,Ext M N->N p=ap (.lst<|as.map D.ref)->M p=cm->Lay ad N as (cY a b (aA C s t) (C.tree s t) 0 0)->Q (.ref p) N):xN ad [bF C s t,.int (L:Nat)] M Q E:=by
 have ul:=sL (s:=s) (t:=t) o;have hcs:=@Lu C s t;rw[N_];unfold wN;simp only[ai,ar,ao,aj,aa,ac,af,dt];have ft:∀{xs:List D}{M:Mem}{Q:DK},Q (.tup xs) M->frz (.tup xs) M Q:=λz=>z;refine⟨rfl,aO (λ_ _ q=>mH o hs Z ea eb O q)<|ft ?_⟩;simp only[ag,OH];unfold lK;simp only[ai,ar,bu,ao,aZ,jE,aj,aa,ac,af,bt,Ou,OV,OO,OP,dt,Oo];refine⟨rfl,aq λQ' E' hq _=>cb o hs Z λp X=>hq _ _ (cA X ?_)⟩;simp only[aI,bE,iG];refine qW (λi d=>.tup [d,.int ((2 ^ i:Nat):Int)]) aS _ 0 [] _ _ (by simp;lia) (λi x P K q=>?_) ?_
 .have hi:i<200:=by
   have h1:i<((aA C s t).map kD).length:=by
    rcases Qg i ((aA C s t).map kD).length with z|z
    .exact z
    .rw[Pr z]at P;cases P
   rw[Ot]at h1;lia
  simp only[aK,aa,ah,ac,dC,af,K0,oI,dt,Oo];refine⟨⟨by lia,by lia,by decide⟩,bf (by simp),?_⟩
  have:(1:Int)*2 ^ (((0+i:Nat):Int)).toNat=((2 ^ (0+i):Nat):Int):=by rw[OF];simp
  rw[this];exact q
 intro p X;refine cA X ?_;have e:([]:List D)++(((aA C s t).map kD).zipIdx 0).map (λp=>D.tup [p.1,.int ((2 ^ p.2:Nat):Int)])=((aA C s t).zipIdx 0).map λp=>D.tup [kD p.1,.int ((2 ^ p.2:Nat):Int)]:=by
  rw[OP,List.zipIdx_map,P7];rfl
 rw[e];have W:(([]:List (aF×D)).map (·.1)++(bD<|aA C s t).map (·.1)).Nodup:=by rw[FE];exact xR o
 have F:=yO W;rw[OP]at F;simp only[fQ,CB,gO,oz];refine⟨trivial,by simp;lia,λS H=>?_⟩
 have G:(List.foldl (λa p=>eD a p.fst p.snd) []<|List.map (λp=>(p.1,D.int ((2 ^ p.2:Nat):Int)))<|List.zipIdx<|aA C s t)=bD (aA C s t):=F;rw[G];simp only[bO,af,ag,OH];refine⟨bf (by simp),λJ B=>?_⟩
 have n1:S≠J:=Mem.ne Mem.upd_same B;rw[ae n1.symm]at B;unfold mB pq;simp only[ai,ar,bO,aa,aK,aj,ac,dC,af,dt,Oo];refine⟨rfl,aO (λ_ _ q=>A4 o hs Z ea eb O hu hc q) ⟨bf (by simp),bf (by simp),λR f=>?_⟩⟩
 have n2:J≠R:=Mem.ne Mem.upd_same f;rw[ae n2.symm]at f;have n3:S≠R:=Mem.ne Mem.upd_same f;rw[ae n3.symm]at f;simp only[ag,OH,dq];have I:OK ad M (aA C s t) S J R [] [] [(C.tree s t,0,0)] (((M.upd S<|.dK<|bD<|aA C s t).upd J<|.lst []).upd R<|.lst [D.tup [(C.tree s t).d,.int 0,.int 0]]):=
  ⟨((Ext.new H).upd B).upd f,B,f,H,by rw[ae n3,ae n1,Mem.upd_same],by rw[ae n2,Mem.upd_same];rfl,Mem.upd_same,n2,n1.symm,.nil,by simp only[cO,Ou,OV,Pj,SJ,Pf,mP];lia,λw hw=>by
   rcases OM.mp hw with z|z
   .rw[z];exact pE 24 _ λx P=>P
   .cases z⟩
 refine⟨_,tF _ _ _ _ _ _ _ _ _ (Oz _) I λY N' c6 c7 c8 c9 I'=>?_⟩;simp only[az,ac,dt,Oo];refine am (h J Y N' I'.x I'.lf' B ?_);have:=I'.ny;simpa [uV] using this
end
def fct:Nat->Nat
 |0=>1
 |n+1=>fct n*(n+1)
theorem ei:∀n,0<fct n
 |0=>by decide
 |n+1=>Nat.mul_pos (ei n) (Nat.succ_pos n)
theorem ue:∀{a b:Nat},a<=b->fct a<=fct b:=by
 intro a b h
 induction b with
 |zero=>
  exact SV (congrArg fct<|Nat.le_zero.mp h)
 |succ b ih=>
  by_cases e:a=b+1
  .subst e;exact Oz _
  .exact OQ (ih<|by lia) (Nat.le_mul_of_pos_right _<|Nat.succ_pos b)
theorem g6{a:Nat}(h:a<=20):((fct a:Nat):Int)<2 ^ 64:=by
 have f:=ue h;have e:fct 20<2 ^ 64:=by decide
 have:fct a<2 ^ 64:=by lia
 exact_mod_cast this
def gg(n:Nat):List D:=(Pe (n+1)).map λi=>D.int ((fct i:Nat):Int)
theorem ic(h:i<=n):atI (gg n) (i:Int)=ap (.int ((fct i:Nat):Int)):=by
 rw[bo (by lia),OF,gg,OJ,Qk (by lia)];rfl
theorem jp:atI (gg n) (-1)=ap (.int ((fct n:Nat):Int)):=by
 have e:(gg n).length=n+1:=by simp[gg]
 unfold atI rS;rw[if_neg (by decide),e]
 rw[if_pos (by lia)]
 have:((-1:Int)+((n+1:Nat):Int)).toNat=n:=by lia
 rw[this];show (gg n)[n]?=_;rw[gg,OJ,Qk (by lia)];rfl
section
variable{t:Sta}
theorem gR(J:n<=20)(h:∀p,M p=cm->Q (.ref p) (M.upd p<|.lst<|gg n)):sD ad [.int (n:Nat)] M Q E:=by
 rw[O8];unfold yk qu;simp only[ai,ar,bO,aa,dC,af,ag,OH,cF,fE,ac,dt,Oo];refine⟨bf (by simp),λp H=>⟨by lia,by lia,?_⟩⟩
 refine ca (λB U N=>∃(c:Option D)(j:Nat),j<=n/\B=(Pe (n-j)).map (λ(i:Nat)=>D.int ((j+i:Nat):Int))/\U=[ap (.int (n:Nat)),ap (.ref p),c]/\N=M.upd p (.lst<|gg j)) (λ_ _ _ _=>aS) ?_ ?_ _ _ _ ⟨cm,0,by lia,?_,rfl,rfl⟩
 .rintro U N ⟨c,j,F,e,rfl,rfl⟩
  have:j=n:=by
   have:=congrArg QI e;simp at this;lia
  subst this;simp only[az,ac,dt,Oo];exact am (h p H)
 .rintro y B U N ⟨c,j,F,e,rfl,rfl⟩ D' G _ _ _
  have f:j<n:=by
   rcases Qg j n with z|z
   .exact z
   .rw[show n-j=0 by lia]at e;simp at e
  rw[show n-j=(n-(j+1))+1 by lia,Uo]at e
  simp only[Ou,P7,UC,Qa]at e;obtain⟨rfl,rfl⟩:=e;unfold qa;simp only[ag,OH,bn,mW,ac,aa,ah,dC,af,vx,dt,Oo,eE,Mem.upd_same,au,aI,jp,aW,cG,bU,Mem.upd_upd];have I:=g6 (a:=j) (by lia)
  refine⟨trivial,.inl ⟨by lia,I⟩,by simp[gg];exact jr (by lia),G _ _ ⟨_,j+1,f,?_,rfl,?_⟩⟩
  .refine PF λi _=>?_
   simp only[Function.comp];congr 2;lia
  .congr 2
   unfold gg;rw[Tf (n:=j+1),QW];simp[fct]
 .simp[dR]
theorem tD{n d:Int}{EE:DX}{D':DEnds}{G:BxW (ak<|ah jy (ac 3)<|dC<|.int 0) (ni ad EE) D'}:∀(f:Nat)(v r:Nat)(p:Option D),r<f->r<v->(∀p,D'.nx [ap (.int n),ap (.int d),ap (.int ((QY v r:Nat):Int)),ap (.int 0),p] M)->
  bW (ak<|ah jy (ac 3)<|dC<|.int 0) (ni ad EE) D' G (f+1) [ap (.int n),ap (.int d),ap (.int (v:Nat)),ap (.int (r:Nat)),p] M
 |0,v,r,p,hf,hv,h=>by lia
 |f+1,v,r,p,hf,hv,h=>by
  have B:∀K:Bool->Mem->Prop,K (!decide (((r:Nat):Int)=0)) M->ak (ah jy (ac 3)<|dC<|.int 0) [ap (.int n),ap (.int d),ap (.int (v:Nat)),ap (.int (r:Nat)),p] M K:=λK q=>by
   simp only[ak,ah,ac,dC,jy,dv,bj,aP,dt,Oo];exact⟨trivial,trivial,q⟩
  by_cases F:r=0
  .subst F
   refine whF (λK q=>B K (by simpa using q)) ?_
   have:=h p;rw[Nat.gcd_zero_right]at this;exact this
  .refine whT (λK q=>B K (by
    have:¬((r:Nat):Int)=0:=by lia
    rw[decide_eq_false this];exact q)) ?_
   unfold ni vA;have e:((v:Nat):Int) % ((r:Nat):Int)=((v % r:Nat):Int):=by simp
   simp only[ai,ar,ah,ac,ag,OH,cZ,oI,dt,Oo,e];refine⟨by lia,tD f r (v % r) _ ?_ ?_ λp=>?_⟩
   .have:=Nat.mod_lt v (show r>0 by lia);lia
   .exact Nat.mod_lt v (by lia)
   .have:=h p
    rw[Nat.gcd_comm v r,Nat.gcd_rec,Nat.gcd_comm]at this;exact this
theorem sV{n:Int}{d:Nat}(p:0<d)(e:d<2 ^ 190)(h:Q (.tup [.int (n / ((QY d (n % (d:Int)).toNat:Nat):Int)),.int (((d:Nat):Int) / ((QY d (n % (d:Int)).toNat:Nat):Int))]) M):F_ ad [.int n,.int (d:Nat)] M Q E:=by
 rw[u_q1];unfold F4 vM wj;have J:=Py n (show ((d:Nat):Int)≠0 by lia)
 have I:=PQ n (show (0:Int)<((d:Nat):Int) by lia)
 have B:n % ((d:Nat):Int)=(((n % (d:Int)).toNat:Nat):Int):=by lia
 simp only[ai,ar,ah,ac,ag,OH,cZ,oI,dt,Oo,dq];refine⟨by lia,(n % (d:Int)).toNat+2,?_⟩
 rw[B];have G:0<QY d (n % (d:Int)).toNat:=Ul _ p;have F:QY d (n % (d:Int)).toNat<=d:=Nat.gcd_le_left _ p;refine tD _ d _ _ (by lia) (by lia) λH=>?_
 unfold vN;have f:((QY d (n % (d:Int)).toNat:Nat):Int)<2 ^ 200:=by
  have:QY d (n % (d:Int)).toNat<2 ^ 200:=RL F (SS e<|by decide)
  exact_mod_cast this
 simp only[az,aK,aa,ah,ac,af,gY,oI,xF,dt,Oo];exact⟨⟨by lia,f⟩,⟨by lia,f⟩,bf (by simp),am h⟩
end
mutual
theorem xj:∀(d:D)(n:Nat),bj n d=true->aP d d=true
 |.non,_,_=>rfl
 |.bl b,_,_=>by simp[aP]
 |.int i,_,_=>by simp[aP]
 |.str x,_,_=>by simp[aP]
 |.tup xs,n+1,h=>by simp only[aP];exact wk xs n (by simpa [bj] using h)
 |.lst xs,n+1,h=>by simp only[aP];exact wk xs n (by simpa [bj] using h)
 |.tup xs,0,h=>by simp[bj]at h
 |.lst xs,0,h=>by simp[bj]at h
 |.ty x,n,h=>by cases n<;>simp[bj]at h
 |.ref x,n,h=>by cases n<;>simp[bj]at h
 |.mt x,n,h=>by cases n<;>simp[bj]at h
 |.ml x,n,h=>by cases n<;>simp[bj]at h
theorem wk:∀(ds:List D)(n:Nat),bq n ds=true->fI ds ds=true
 |[],_,_=>by simp[fI]
 |d::ds,n,h=>by
  simp only[bq,PR]at h;simp only[fI,xj d n h.1,wk ds n h.2,T4]
end
def h_(n:Nat)(x:Out)(i:Nat):Int:=
 (if x.f.testBit i=true then ((fct n / fct ((av x.f).length+(av x.s).length)*fct ((av x.f).length-1)*fct (av x.s).length:Nat):Int) else 0)
 - (if x.s.testBit i=true then ((fct n / fct ((av x.f).length+(av x.s).length)*fct (av x.f).length*fct ((av x.s).length-1):Nat):Int) else 0)
def bR(n:Nat)(xs:List Out)(i:Nat):Int:=(xs.map λx=>h_ n x i).sum
def cB(n:Nat)(T:Nat->Int):List D:=(Pe n).map λi=>D.int (T i)
structure OutOk(n:Nat)(x:Out):Prop where
 s:x.s<2 ^ n
 f:x.f<2 ^ n
 l:(av x.f).length+(av x.s).length<=n
theorem uc(h:j<n):(cB n T).set j (.int v)=cB n λi=>if i=j then v else T i:=by
 unfold cB;refine List.ext_getElem? λi=>?_;rw[RQ]
 by_cases e:j=i
 .subst e
  rw[if_pos rfl,OJ,Qk h];simp[h]
 .rw[if_neg e,OJ,OJ]
  by_cases f:i<n
  .rw[Qk f]
   have:¬i=j:=λz=>e z.symm;simp[this]
  .rw[Pr (by simp;lia)];rfl
theorem qV(h:j<n):(cB n T)[j]?=ap (.int<|T j):=by
 unfold cB;rw[OJ,Qk h];rfl
theorem xG{b:Nat}:(av b).Nodup:=Td _ S3
theorem dy{b:Nat}(h:b<2 ^ n):i∈av b↔i<n/\b.testBit i=true:=by
 rw[gy h,Ox,P2]
section
variable{t:Sta}
theorem lO{n:Nat}{D':DEnds}{lt:eg}{H:aD}{ok:Mem->Prop}{R:BxF (ag 10) H D' ok}{v:Int}{δ0:Dl}{P:Prop}(p:∀M,ok M)(G:δ0.length=10)
  (F:P->∀(j:Nat)(T:Nat->Int)(N:Mem)(D2:DEnds),j<n->N lt=ap (.lst<|cB n T)->D2.nx (δ0++[ap (.int (j:Nat))]) (N.upd lt<|.lst (cB n λi=>if i=j then T i+v else T i))->H D2 (δ0++[ap (.int (j:Nat))]) N):
  ∀(f:List Nat)(T:Nat->Int)(N:Mem)(c:Option D),(f≠[]->P)->(∀j∈f,j<n)->f.Nodup->N lt=ap (.lst<|cB n T)->(∀c,D'.nx (δ0++[c]) (N.upd lt<|.lst (cB n λi=>T i+if i∈f then v else 0)))->
  gL (ag 10) H D' ok R (f.map λ(j:Nat)=>D.int (j:Int)) (δ0++[c]) N
 |[],T,N,c,hP,hj,nd,hN,h=>by
  unfold gL;refine⟨p _,?_⟩;have:=h c;simp only[Pl,if_false,Si]at this;rw[lQ hN]at this;exact this
 |j::f,T,N,c,hP,hj,nd,hN,h=>by
  unfold gL;refine⟨p _,?_⟩;have O:(δ0++[c]).set 10 (ap<|.int (j:Int))=δ0++[ap (.int (j:Int))]:=by
   rw[List.set_append_right _ _ (by lia),G];rfl
  simp only[ag,O];have B:=Qy.mp nd;refine F (hP<|by simp) j T N _ (hj j OL) hN ?_
  refine lO p G F f _ _ _ (λ_=>hP (by simp)) (λx J=>hj x (OE _ J)) B.2 Mem.upd_same λc=>?_
  rw[Mem.upd_upd];have e:(λi=>(if i=j then T i+v else T i)+if i∈f then v else 0)=λi=>T i+if i∈j::f then v else 0:=by
   funext i
   by_cases I:i=j
   .subst I
    simp[B.1]
   .simp[I]
  rw[e];exact h c
theorem BO{x:Out}{a:eg}{lt:eg}{W S X B:D}{c7 c8 c9 G:Option D}(hn:n<=20)(H:OutOk n x)(ha:N a=ap (A8 ad x))(hl:N lt=ap (.lst<|cB n T))(h:∀c7 c8 c9 G,D'.nx [ap W,ap S,ap X,ap (.ref lt),ap B,ap (.lst<|gg n),ap (.ref a),c7,c8,c9,G] (N.upd lt<|.lst (cB n λi=>T i+h_ n x i))):
  gk ad EE D' [ap W,ap S,ap X,ap (.ref lt),ap B,ap (.lst<|gg n),ap (.ref a),c7,c8,c9,G] N:=by
 have hx1:=H.l;have p1:x.f<2 ^ 200:=OA H.f (Po (by decide)<|OQ hn<|by decide)
 have p2:x.s<2 ^ 200:=OA H.s (Po (by decide)<|OQ hn<|by decide)
 have f1:OY ("faulty":Str) [(("verdict":Str),D.str x.v),(("sound":Str),D.int (x.s:Nat)),(("faulty":Str),D.int (x.f:Nat))]=ap (.int (x.f:Nat)):=rfl;have f2:OY ("sound":Str) [(("verdict":Str),D.str x.v),(("sound":Str),D.int (x.s:Nat)),(("faulty":Str),D.int (x.f:Nat))]=ap (.int (x.s:Nat)):=rfl;unfold A8 at ha;unfold gk;generalize hK5:k6 ad EE=K5;simp only[ai,ar,ao,aj,aa,aX,ac,af,dt,Oo,ha,f1];refine⟨trivial,rfl,aq λQ' E' hq _=>fX p1 λp hp=>hq _ _ (cA hp ?_)⟩;simp only[ag,OH];rw[<- hK5];unfold k6;generalize hK4:k9 ad EE=K4;simp only[ai,ar,ao,aj,aa,aX,ac,af,dt,Oo,ha,f2];refine⟨trivial,rfl,aq λQ' E' hq _=>fX p2 λp hp=>hq _ _ (cA hp ?_)⟩;simp only[ag,OH];rw[<- hK4];unfold k9;generalize hK3:lj ad EE=K3;generalize O:(av x.f).length=al at *;generalize J:(av x.s).length=zl at *;have la:∀(l:List Nat),(l.map λ(i:Nat)=>D.int (i:Int)).length=l.length:=λl=>by simp
 have eaz:((al:Nat):Int)+((zl:Nat):Int)=((al+zl:Nat):Int):=by lia
 simp only[ai,ar,ah,ac,bu,aa,af,dC,ao,vx,dt,Oo,bK,aI,au,jp,la,O,J,aW,frz,eaz,ic (show al+zl<=n by lia),gY,oI,xF,ag,OH]
 have fb:=g6 (a:=al+zl) (by lia)
 have fp:=ei (al+zl);refine⟨⟨by lia,Int.lt_trans fb<|by decide⟩,?_⟩
 have ee:((fct n:Nat):Int) / ((fct (al+zl):Nat):Int)=((fct n / fct (al+zl):Nat):Int):=by simp
 rw[ee,<- hK3];unfold lj pR pQ;simp only[ai,cF,bG,ac,aI,bE,dt,Oo];have hz:zl<=n:=by lia
 have b1:=g6 (a:=zl) (by lia)
 have b2:=g6 (a:=al) (by lia)
 have b1':(0:Int)<=((fct zl:Nat):Int):=by lia
 refine lO (n:=n) (lt:=lt) (P:=0<al) (δ0:=[ap W,ap S,ap X,ap (.ref lt),ap B,ap (.lst<|gg n),ap (.ref a),ap (.lst ((av x.f).map λ(i:Nat)=>D.int (i:Int))),ap (.lst ((av x.s).map λ(i:Nat)=>D.int (i:Int))),ap (.int ((fct n / fct (al+zl):Nat):Int))]) (v:=((fct n / fct (al+zl)*fct (al-1)*fct zl:Nat):Int)) (λ_=>aS) rfl (λhP j T N D2 F hN q=>?_) (av x.f) T N G (λz=>?_) (λj F=>((dy H.f).mp F).1) xG hl λc=>?_
 .have e1:((al:Nat):Int)-1=((al-1:Nat):Int):=by lia
  have Z:=g6 (a:=al-1) (by lia)
  have hm:((fct n / fct (al+zl):Nat):Int)*((fct (al-1):Nat):Int)*((fct zl:Nat):Int)=((fct n / fct (al+zl)*fct (al-1)*fct zl:Nat):Int):=by simp
  simp only[OO,OP]at q ⊢;simp only[sU,ac,ah,bu,aa,af,dC,dt,Oo,Dd,hN,OF,qV F,bK,aI,au,la,O,J,fF,j7,e1,ic (show al-1<=n by lia),ic hz,cG,oy,hm,m9]
  have Y:rS (cB n T).length ((j:Nat):Int)=ap j:=by rw[fq (by lia) (by simp[cB];exact F),OF]
  simp only[Y,uc F];refine⟨by lia,.inr ⟨by lia,Z⟩,.inr ⟨by lia,b1⟩,?_⟩
  have I:(λi=>if i=j then T j+((fct n / fct (al+zl)*fct (al-1)*fct zl:Nat):Int) else T i)=λi=>if i=j then T i+((fct n / fct (al+zl)*fct (al-1)*fct zl:Nat):Int) else T i:=by
   funext i
   by_cases e:i=j
   .subst e;rfl
   .simp[e]
  rw[I];exact q
 .rw[<- O];exact UP.mpr z
 .simp only[OO,OP,dt,Oo]
  refine lO (n:=n) (lt:=lt) (P:=0<zl) (δ0:=[ap W,ap S,ap X,ap (.ref lt),ap B,ap (.lst<|gg n),ap (.ref a),ap (.lst ((av x.f).map λ(i:Nat)=>D.int (i:Int))),ap (.lst ((av x.s).map λ(i:Nat)=>D.int (i:Int))),ap (.int ((fct n / fct (al+zl):Nat):Int))]) (v:=-((fct n / fct (al+zl)*fct al*fct (zl-1):Nat):Int)) (λ_=>aS) rfl (λhP j T N D2 F hN q=>?_) (av x.s) _ _ c (λz=>?_) (λj F=>((dy H.s).mp F).1) xG Mem.upd_same λc=>?_
  .have e1:((zl:Nat):Int)-1=((zl-1:Nat):Int):=by lia
   have Z:=g6 (a:=zl-1) (by lia)
   have hm:((fct n / fct (al+zl):Nat):Int)*((fct al:Nat):Int)*((fct (zl-1):Nat):Int)=((fct n / fct (al+zl)*fct al*fct (zl-1):Nat):Int):=by simp
   simp only[OO,OP]at q ⊢;simp only[sU,ac,ah,bu,aa,af,dC,dt,Oo,Dd,hN,OF,qV F,bK,aI,au,la,O,J,fF,j7,e1,ic (show zl-1<=n by lia),ic (show al<=n by lia),cG,oy,hm,m9]
   have Y:rS (cB n T).length ((j:Nat):Int)=ap j:=by rw[fq (by lia) (by simp[cB];exact F),OF]
   simp only[Y,uc F];refine⟨by lia,.inr ⟨by lia,b2⟩,.inr ⟨by lia,Z⟩,?_⟩
   have I:(λi=>if i=j then T j-((fct n / fct (al+zl)*fct al*fct (zl-1):Nat):Int) else T i)=λi=>if i=j then T i+-((fct n / fct (al+zl)*fct al*fct (zl-1):Nat):Int) else T i:=by
    funext i
    by_cases e:i=j
    .subst e;simp[Int.sub_eq_add_neg]
    .simp[e]
   rw[I];exact q
  .rw[<- J];exact UP.mpr z
  .rw[Mem.upd_upd]
   have I:cB n (λi=>(T i+if i∈av x.f then ((fct n / fct (al+zl)*fct (al-1)*fct zl:Nat):Int) else 0)+if i∈av x.s then -((fct n / fct (al+zl)*fct al*fct (zl-1):Nat):Int) else 0)=cB n λi=>T i+h_ n x i:=by
    unfold cB;refine PF λi R=>?_;have R:=P2.mp R;congr 1;unfold h_;rw[O,J];have m1:(i∈av x.f)=(x.f.testBit i=true):=propext ⟨λz=>((dy H.f).mp z).2,λz=>(dy H.f).mpr ⟨R,z⟩⟩;have m2:(i∈av x.s)=(x.s.testBit i=true):=propext ⟨λz=>((dy H.s).mp z).2,λz=>(dy H.s).mpr ⟨R,z⟩⟩;simp only[m1,m2]
    split<;>split<;>lia
   rw[I];exact h _ _ _ _
end
def Lq(N:Mem)(a:eg):Bool:=match N a with
 |some (.ins _ fs)=>match fs.lookup ("verdict":Str) with
  |some (.str v)=>decide (v=("faulty":Str))
  |_=>eC
 |_=>eC
theorem BY{a:eg}{x:Out}(h:N a=ap (A8 ad x)):Lq N a=decide (x.v=("faulty":Str)):=by
 unfold Lq;rw[h];rfl
theorem Lay.filt{ad:Ad}{N:Mem}:∀{p:Xa}{xs:List Out},Lay ad N p xs->Lay ad N (p.filter<|Lq N) (xs.filter λx=>decide (x.v=("faulty":Str)))
 |_,_,.nil=>.nil
 |_,_,.cons (a:=a) (x:=x) h t=>by
  have e:=BY h;have f:=t.filt
  by_cases c:x.v=("faulty":Str)
  .rw[Ua (by rw[e];simpa using c),Ua (by simpa using c)]
   exact .cons h f
  .rw[Ub (by rw[e];simpa using c),Ub (by simpa using c)]
   exact f
theorem Lay.mem{ad:Ad}{N:Mem}{c:eg}:∀{e:Xa}{xs:List Out},Lay ad N e xs->c∈e->∃y,N c=ap (A8 ad y)
 |_,_,.nil,h=>by cases h
 |_,_,.cons h t,hc=>by
  rcases OM.mp hc with z|z
  .rw[z];exact⟨_,h⟩
  .exact t.mem z
theorem iH{a b:Int}{us:List aF}:∀(t:Tr){S F:Nat},(cY a b us t S F).length=t.asks+1
 |.e m,S,F=>rfl
 |.a q x y,S,F=>by unfold cY Tr.asks;rw[OG,iH x,iH y];lia
section
variable{t:Sta}
theorem rW{n:Nat}{lt:eg}{P O R p:D}{D':DEnds}{EE:DX}{ok:Mem->Prop}{bx:BxF (ag 6) (gk ad EE) D' ok}(S:n<=20)(B:∀M,ok M):∀(W:Xa)(xs:List Out)(T:Nat->Int)(N:Mem)(F H G I f:Option D),Lay ad N W xs->(∀x∈xs,OutOk n x)->N lt=ap (.lst<|cB n T)->
  (∀F H G I f,D'.nx [ap P,ap O,ap R,ap (.ref lt),ap p,ap (.lst<|gg n),F,H,G,I,f] (N.upd lt<|.lst (cB n λi=>T i+bR n xs i)))->
  gL (ag 6) (gk ad EE) D' ok bx (W.map D.ref) [ap P,ap O,ap R,ap (.ref lt),ap p,ap (.lst<|gg n),F,H,G,I,f] N
 |_,_,T,N,F,H,G,I,f,.nil,hx,hl,h=>by
  have:=h F H G I f;simp only[bR,OV,SJ,Si]at this;rw[lQ hl]at this;exact⟨B _,this⟩
 |_,_,T,N,F,H,G,I,f,.cons (a:=a) (x:=x) (xs:=xs) ha ht,hx,hl,h=>by
  rw[Ou];unfold gL;refine⟨B _,?_⟩;simp only[ag,OH];refine BO S (hx x OL) ha hl λd7 d8 d9 X=>?_;refine rW S B _ xs _ _ _ _ _ _ _ (ht.go λb y e=>vG hl b y e) (λy hy=>hx y (OE _ hy)) Mem.upd_same λZ e7 e8 Y J=>?_;rw[Mem.upd_upd];have:=h Z e7 e8 Y J;simp only[bR,Ou,Pj]at this ⊢;simp only[Int.add_assoc];exact this
theorem nA(o:C.Ok)(hs:SOk C s)(ht:SOk C t)(ea:C.mark s=.int a)(eb:C.mark t=.int b)(hab:a≠b)(hu:(aA C s t).length<=20)(hc:1+(C.tree s t).asks<=L)(hL:L<=10000)(J:∀x∈(cY a b (aA C s t) (C.tree s t) 0 0).filter (λx=>decide (x.v=("faulty":Str))),OutOk (aA C s t).length x)(h:∀p,M p=cm->Q (.ref p) (M.upd p<|.lst<|cB (aA C s t).length<|bR (aA C s t).length ((cY a b (aA C s t) (C.tree s t) 0 0).filter λx=>decide (x.v=("faulty":Str))))):sC ad [bF C s t,.int (L:Nat)] M Q E:=by
 rw[MK];unfold xz;generalize G:iV ad (aG E)=K10;simp only[ai,ar,ao,aj,aa,ac,af,dt];refine⟨rfl,aq λQ' E' I _=>cb o hs ht λp P=>I _ _ (cA P ?_)⟩;simp only[ag,OH];rw[<- G];unfold iV;generalize Y:ko ad (aG E)=K9;simp only[ai,dP,aZ,bG,ac,aI,bE,bt,Ou,OV,OO,OP,dt,Oo];refine f_ (λ_=>.int 0) aS (by simp;lia) (λx J K q=>q) ?_
 intro lt R;have e0:((aA C s t).map kD).map (λ_=>D.int 0)=cB (aA C s t).length λ_=>0:=by
  unfold cB;rw[P7];refine List.ext_getElem (by simp) λi h1 h2=>?_
  simp
 rw[e0];simp only[OH];rw[<- Y];unfold ko;generalize S:lh ad (aG E)=K8;simp only[ai,cz,dP,aZ,bG,ao,aj,aa,ac,af,bt,Ou,OV,OO,OP,dt,Oo];refine⟨rfl,aq λQ' E' I _=>nJ o hs ht ea eb hab (by lia) hc hL λp O N X P F ny=>I _ _ ?_⟩
 have nl:lt≠p:=λz=>by rw[<- z,Mem.upd_same]at F;cases F
 have H:N lt=ap (.lst (cB (aA C s t).length λ_=>0)):=X _ _ Mem.upd_same;simp only[frz,P];simp only[aI,bE];have B:Lay ad (N.del p) O (cY a b (aA C s t) (C.tree s t) 0 0):=ny.go λc y e=>by unfold Mem.del;rw[if_neg (λz=>by rw[z,P]at e;cases e)];exact e
 have hl1:(N.del p) lt=ap (.lst (cB (aA C s t).length λ_=>0)):=by unfold Mem.del;rw[if_neg nl];exact H
 have ex1:Ext (M.upd lt<|.lst (cB (aA C s t).length λ_=>0)) (N.del p):=X.del F;have hno:∀{z:eg},(N.del p) z=cm->M z=cm\/z=p:=λ{z} e=>by
  unfold Mem.del at e
  split at e
  .exact .inr (by assumption)
  .refine .inl ?_
   have:=X.no e
   by_cases c:z=lt
   .rw[c,Mem.upd_same]at this;cases this
   .rw[ae c]at this;exact this
 generalize N.del p=N1 at *;have al:=B.length;have hal:O.length<=100000:=by rw[al,iH];lia
 refine de (λd=>match d with|.ref a=>Lq N1 a|_=>eC) id aS (by simpa using hal) (λx J K q=>?_) (λx J _ K q=>q) ?_
 .obtain⟨c,Z,rfl⟩:=Pa.mp J
  obtain⟨y,hy⟩:=B.mem Z;have l1:OY ("verdict":Str) [(("verdict":Str),D.str y.v),(("sound":Str),D.int (y.s:Nat)),(("faulty":Str),D.int (y.f:Nat))]=ap (.str y.v):=rfl;have q':K (decide (y.v=("faulty":Str))) N1:=by rw[<- BY hy];exact q
  unfold A8 at hy;simp only[ak,ah,aX,ac,dC,dt,hy,l1,bX,dv,bj,aP];exact⟨trivial,trivial,trivial,q'⟩
 intro p4 W;have e4:((O.map D.ref).filter λd=>match d with|.ref a=>Lq N1 a|_=>eC).map id=(O.filter<|Lq N1).map D.ref:=by
  rw[Qe,P5];rfl
 rw[e4];simp only[fA,OH,dt,Oo];refine cA (Q:=λd M'=>K8 _ [ap (bF C s t),ap (.int (L:Nat)),ap (.lst<|(aA C s t).map kD),ap (.ref lt),ap d,cm,cm,cm,cm,cm,cm] M') W ?_;rw[<- S];unfold lh;generalize hK7:kx ad (aG E)=K7;have lu:((aA C s t).map kD).length=(aA C s t).length:=by simp
 simp only[ai,ar,ao,aj,bu,aa,ac,af,bK,aI,lu,dt,Oo];refine⟨rfl,aq λQ' E' I _=>gR hu λp5 hp5=>I _ _ (cA hp5 ?_)⟩;simp only[ag,OH];rw[<- hK7];unfold kx;simp only[ai,cF,bG,ac,aI,bE,dt,Oo];refine rW hu (λ_=>aS) _ _ _ _ _ _ _ _ _ B.filt J hl1 λc6 c7 c8 c9 c10=>?_;simp only[az,ac,dt,Oo,SX];have hlm:M lt=none:=R;refine⟨_,λz ob e=>?_,h lt hlm⟩
 by_cases c:z=lt
 .subst c;rw[Mem.upd_same]at e ⊢;exact e
 .rw[ae c]at e ⊢
  exact ex1 z ob (by rw[ae c];exact e)
end
def yL(n:Nat)(T:Nat->Int)(i:Nat):D:=.tup [.int (T i / ((QY (fct n) (T i % ((fct n:Nat):Int)).toNat:Nat):Int)),.int (((fct n:Nat):Int) / ((QY (fct n) (T i % ((fct n:Nat):Int)).toNat:Nat):Int))]
mutual
theorem Md:∀(r:Rw)(n:Nat),2*hR r+1<=n->bj n r.d=true
 |.put _ _,n+1,_=>by simp[Rw.d,bj,bq]
 |.take _ _,n+1,_=>by simp[Rw.d,bj,bq]
 |.pick _ _,n+1,_=>by simp[Rw.d,bj,bq]
 |.two _ _ _ _,n+1,_=>by simp[Rw.d,bj,bq]
 |.ifr _ a b,n+2,h=>by
  simp only[hR]at h;have e:=j9 a n (by lia)
  have f:=j9 b n (by lia)
  simp[Rw.d,bj,bq,e,f]
 |.again _ a,n+2,h=>by
  simp only[hR]at h;have e:=j9 a n (by lia)
  simp[Rw.d,bj,bq,e]
 |.ifr _ _ _,0,h=>by lia
 |.ifr _ _ _,1,h=>by simp only[hR]at h;lia
 |.again _ _,0,h=>by lia
 |.again _ _,1,h=>by simp only[hR]at h;lia
theorem j9:∀(rs:List Rw)(n:Nat),2*cQ rs+1<=n->bq n (aw rs)=true
 |[],n,_=>by simp[aw,bq]
 |r::rs,n,h=>by
  simp only[cQ]at h;simp[aw,bq,Md r n (by lia),j9 rs n (by lia)]
end
theorem t7:∀(n:Nat)(xs:W8),bq n (xs.map D.str)=true
 |n,[]=>by simp[bq]
 |n,x::xs=>by
  rw[Ou];unfold bq;rw[t7 n xs];cases n<;>rfl
section
variable{t:Sta}
theorem Bi(o:C.Ok):bj 60 C.d=true:=by
 have f:=j9 C.rows 58 (by have:=o.h;lia)
 have e:=t7 58 C.names;unfold Cse.d;simp[bj,bq,f,e]
theorem sI(o:C.Ok)(hs:SOk C s)(ht:SOk C t)(ea:C.mark s=.int a)(eb:C.mark t=.int b)(hab:a≠b)(Z:(aA C s t).length<=20)(hc:1+(C.tree s t).asks<=L)(hL:L<=10000)(f:∀x∈(cY a b (aA C s t) (C.tree s t) 0 0).filter (λx=>decide (x.v=("faulty":Str))),OutOk (aA C s t).length x)(hT:bR (aA C s t).length ((cY a b (aA C s t) (C.tree s t) 0 0).filter λx=>decide (x.v=("faulty":Str)))=T)(hTb:∀i,i<(aA C s t).length->-1000000000000000<=T i/\T i<=1000000000000000)(h:∀p,M p=cm->Q (.ref p) (M.upd p<|.lst (((aA C s t).zipIdx 0).map λp=>D.tup [kD p.1,yL (aA C s t).length T p.2]))):xM ad [.lst [bF C s t],.int (L:Nat)] M Q E:=by
 have G:=@Lu C s t;have fp:=ei (aA C s t).length;have S:=g6 Z;rw[LP];unfold xW;generalize J:kY ad (aG E)=K5;simp only[ai,ar,ao,aZ,bG,ac,aI,bE,bt,Ou,OV,OO,OP,dt,Oo,PK];have te:∀{K:DK}{c:Option D},K (.lst<|cB (aA C s t).length T) M->(λU M Q=>aj (sC ad) ii 2 (aa (ac 0)<|aa (ac 1) af) U M λd M'=>frz d M' Q) [ap (bF C s t),ap (.int (L:Nat))] M K:=λ{K c} q=>by
  simp only[aj,aa,ac,af,dt,Oo];refine⟨rfl,aq λQ' E' F _=>nA o hs ht ea eb hab Z hc hL f λp B=>F _ _ (cA B ?_)⟩;rw[hT];exact q
 refine f_ (λ_=>.lst (cB (aA C s t).length T)) aS (by simp) (λx f K q=>?_) ?_
 .have:x=bF C s t:=by simpa using f
  subst this;exact te (c:=cm) q
 intro p B;refine cA B ?_;simp only[Ou,OV,ag,OH];rw[<- J];unfold kY;generalize R:lz ad (aG E)=K4;simp only[ai,ar,ao,aj,aa,ah,ac,dC,af,au,aI,atI_0,dt,Oo];refine⟨rfl,aq λQ' E' F _=>cb o hs ht λp B=>F _ _ (cA B ?_)⟩;simp only[ag,OH];rw[<- R];unfold lz;generalize Y:kZ ad (aG E)=K3;simp only[ai,cF,bG,ac,aI,bE,dt,Oo];have fu:bj 60 (.lst<|(aA C s t).map kD)=true:=by unfold bj;exact xH 59 _
 have fd:=Bi o;have W:∀{M:Mem},dv M C.d=C.d:=rfl;unfold gL;refine⟨aS,?_⟩;simp only[ag,OH];unfold pj;simp only[aH,A6,ak,ah,ac,dC,au,aI,atI_0,dt,Oo,G,jy,W,fd,xj _ _ fd,PV];refine⟨trivial,trivial,?_⟩;rw[if_neg (by simp)]
 simp only[ao,aj,aa,ac,af,dt,Oo];rw[<- G];refine⟨rfl,aq λQ' E' F _=>cb o hs ht λp B=>F _ _ (cA B ?_)⟩;have I:∀{M:Mem},dv M (.lst<|(aA C s t).map kD)=.lst ((aA C s t).map kD):=rfl;simp only[I,fu,xj _ _ fu,PV];refine⟨trivial,trivial,?_⟩;rw[if_neg (by simp)]
 simp only[aE];unfold gL;refine⟨aS,?_⟩;rw[<- Y];unfold kZ;generalize P:lB ad (aG E)=K2;have lu:((aA C s t).map kD).length=(aA C s t).length:=by simp
 simp only[ai,ar,ah,ao,aj,bu,aa,ac,af,dC,vx,bK,aI,lu,dt,Oo];refine⟨rfl,aq λQ' E' F _=>gR Z λp5 X=>F _ _ (cA X ?_)⟩;simp only[au,aI,jp,cG,Oy,Pf];refine⟨.inr ⟨by decide,by decide⟩,?_⟩
 have ew:((fct (aA C s t).length:Nat):Int)*(((0+1:Nat)):Int)=((fct (aA C s t).length:Nat):Int):=by simp
 simp only[ag,OH,ew];rw[<- P];unfold lB;simp only[az,aZ,jE,aa,ac,af,aI,bE,iG,bt,Ou,OV,OO,OP,dt,Oo,PK];refine qW (λi d=>.tup [d,yL (aA C s t).length T i]) aS _ 0 [] _ _ (by simp;lia) (λi x f K q=>?_) ?_
 .have hi:i<(aA C s t).length:=by
   rcases Qg i (aA C s t).length with z|z
   .exact z
   .rw[Pr (by simpa using z)]at f;cases f
  rw[SQ]at q ⊢;simp only[aK,aa,ao,aj,bu,aZ,bG,ac,af,aI,bE,bt,Ou,OV,OO,OP,dt,Oo,PK];refine f_ (λ_=>.int (T i)) aS (by simp) (λx f K q=>?_) ?_
  .have:x=.lst (cB (aA C s t).length T):=by simpa using f
   subst this;simp only[ah,ac,dt,Oo,au,aI,bo (show (0:Int)<=((i:Nat):Int) by lia),OF,qV hi]
   exact q
  intro p6 H;refine cA H ?_;have hb:=hTb i hi;simp only[Ou,OV,yJ,gO,jm,Pj,SJ,Si];refine⟨⟨by simp,λx f=>by simp at f;subst f;exact hb⟩,rfl,aO (λ_ _ z=>sV fp (OA (show fct (aA C s t).length<2 ^ 64 by exact_mod_cast S)<|by decide) z) ?_⟩
  exact⟨bf (by simp),q⟩
 .intro p7 O
  have e:([]:List D)++(((aA C s t).map kD).zipIdx 0).map (λp=>D.tup [p.1,yL (aA C s t).length T p.2])=((aA C s t).zipIdx 0).map λp=>D.tup [kD p.1,yL (aA C s t).length T p.2]:=by
   rw[OP,List.zipIdx_map,P7];rfl
  rw[e];exact am (h p7 O)
theorem sG(o:C.Ok)(W:SOk C s)(S:SOk C t)(G:C.mark s=.int a)(R:C.mark t=.int b)(f:a≠b)(I:(aA C s t).length<=20)(O:1+(C.tree s t).asks<=L)(J:L<=10000)(P:∀x∈(cY a b (aA C s t) (C.tree s t) 0 0).filter (λx=>decide (x.v=("faulty":Str))),OutOk (aA C s t).length x)(H:bR (aA C s t).length ((cY a b (aA C s t) (C.tree s t) 0 0).filter λx=>decide (x.v=("faulty":Str)))=T)(B:∀i,i<(aA C s t).length->-1000000000000000<=T i/\T i<=1000000000000000)(h:∀p,M p=cm->Q (.ref p) (M.upd p<|.lst (((aA C s t).zipIdx 0).map λp=>D.tup [kD p.1,yL (aA C s t).length T p.2]))):jz ad [bF C s t,.int (L:Nat)] M Q E:=by
 rw[LD];unfold yd;simp only[az,aj,aa,ao,bO,ac,af,dt,Oo];refine⟨bf (by simp),λp e=>cA e ⟨rfl,aq λQ' E' F _=>sI o W S G R f I O J P H B λp e=>F _ _ (am<|h p e)⟩⟩
end
def ig(cf:Cf)(n:cy)(rest:List Rw):Rw->cy×List Rw
 |.ifr x a b=>(n,(if nm n x=0 then b else a)++rest)
 |.again x a=>(n,if nm n x=0 then rest else a++(.again x a::rest))
 |r=>(sN n (d_ r) (num cf n r),rest)
def fin(cf:Cf):Nat->cy->List Rw->Option cy
 |_,n,[]=>ap n
 |0,_,_::_=>cm
 |k+1,n,r::rest=>fin cf k (ig cf n rest r).1 (ig cf n rest r).2
theorem dh{cf:Cf}{k:Nat}{n:cy}:fin cf k n []=ap n:=by cases k<;>rfl
def wl(cf:Cf)(b:Bool×Sx)(rest:List Rw):Option cy:=if b.1=true then fin cf (cf.most-b.2.steps.length) b.2.nums rest else cm
section
variable{cf:Cf}
theorem tN{s:Sx}:wl cf (true,s) rest=fin cf (cf.most-s.steps.length) s.nums rest:=by unfold wl;rw[if_pos rfl]
theorem mm{s:Sx}:wl cf (eC,s) rest=none:=by unfold wl;rw[if_neg (by simp)]
theorem NC{pl:W7}{s:Sx}(h:s.steps.length<cf.most):nt cf pl v s=(true,⟨s.nums,s.steps++[(pl,v)]⟩):=by unfold nt;rw[if_pos h]
theorem N6{pl:W7}{s:Sx}(h:¬s.steps.length<cf.most):nt cf pl v s=(eC,s):=by unfold nt;rw[if_neg h]
theorem rq{s:Sx}{n:cy}{r:Rw}(h:¬s.steps.length<cf.most):fin cf (cf.most-s.steps.length) n (r::rest)=none:=by
 have:cf.most-s.steps.length=0:=by lia
 rw[this];rfl
theorem vK{s:Sx}{n:cy}{r:Rw}{p:List Int×Int}(h:s.steps.length<cf.most):fin cf (cf.most-s.steps.length) n (r::rest)=fin cf (cf.most-(s.steps++[p]).length) (ig cf n rest r).1 (ig cf n rest r).2:=by
 have:cf.most-s.steps.length=(cf.most-(s.steps++[p]).length)+1:=by rw[OG];simp;lia
 rw[this];rfl
theorem sK{x:Str}{a:List Rw}{pl:W7}(H:∀pl s rest,fin cf (cf.most-s.steps.length) s.nums (a++rest)=wl cf (bM cf a pl 0 s) rest):∀(f t:Nat)(s:Sx)(rest:List Rw),cf.most-s.steps.length<f->
  fin cf (cf.most-s.steps.length) s.nums (.again x a::rest)=wl cf (eP cf x pl (λt s=>bM cf a (pl++[(t:Int)]) 0 s) f t s) rest
 |0,t,s,rest,h=>by lia
 |f+1,t,s,rest,h=>by
  unfold eP
  by_cases c:s.steps.length<cf.most
  .rw[NC c,if_pos rfl]
   rw[vK (p:=(pl++[(t:Int)],lk s.nums x)) c]
   by_cases e:nm s.nums x=0
   .have B:lk s.nums x=0:=by unfold lk;rw[if_pos e]
    rw[B,if_neg (by decide),tN]
    simp only[ig,if_pos e]
   .have B:lk s.nums x=1:=by unfold lk;rw[if_neg e]
    rw[B,if_pos rfl];simp only[ig,if_neg e];have I:=H (pl++[(t:Int)]) ⟨s.nums,s.steps++[(pl++[(t:Int)],1)]⟩ (.again x a::rest);have O:=fC (c:=cf) a (pl++[(t:Int)]) 0 ⟨s.nums,s.steps++[(pl++[(t:Int)],1)]⟩;generalize J:bM cf a (pl++[(t:Int)]) 0 ⟨s.nums,s.steps++[(pl++[(t:Int)],1)]⟩=ex at *;obtain⟨b,G⟩:=ex;rw[I];cases b with
    |true=>
     rw[tN,if_pos rfl];have F:s.steps.length+1<=G.steps.length:=by
      have:=O.1;simp only[OG,Oy,Pf]at this;lia
     exact sK H f (t+1) G rest (by lia)
    |false=>rw[mm,if_neg (by simp),mm]
  .rw[N6 c,if_neg (by simp),mm]
   exact rq c
theorem kf{r:Rw}{pl:W7}{s:Sx}(e:bi r=true):fin cf (cf.most-s.steps.length) s.nums (r::rest)=wl cf (gD cf r pl s) rest:=by
 rw[bT e];unfold hV;have f:ig cf s.nums rest r=(sN s.nums (d_ r) (num cf s.nums r),rest):=by
  cases r with
  |ifr=>cases e
  |again=>cases e
  |_=>rfl
 by_cases c:s.steps.length<cf.most
 .rw[if_pos c,tN,vK (p:=(pl,num cf s.nums r)) c,f]
 .rw[if_neg c,mm];exact rq c
mutual
theorem N5:∀(r:Rw)(pl:W7)(s:Sx)(rest:List Rw),fin cf (cf.most-s.steps.length) s.nums (r::rest)=wl cf (gD cf r pl s) rest
 |.ifr x a b,pl,s,rest=>by
  unfold gD
  by_cases c:s.steps.length<cf.most
  .rw[NC c,if_pos rfl,vK (p:=(pl,lk s.nums x)) c]
   by_cases e:nm s.nums x=0
   .have f:lk s.nums x=0:=by unfold lk;rw[if_pos e]
    rw[f,if_neg (by decide)]
    simp only[ig,if_pos e];exact hZ b (pl++[0]) 0 ⟨s.nums,s.steps++[(pl,0)]⟩ rest
   .have f:lk s.nums x=1:=by unfold lk;rw[if_neg e]
    rw[f,if_pos rfl];simp only[ig,if_neg e];exact hZ a (pl++[1]) 0 ⟨s.nums,s.steps++[(pl,1)]⟩ rest
  .rw[N6 c,if_neg (by simp),mm]
   exact rq c
 |.again x a,pl,s,rest=>by
  unfold gD;exact sK (λpl s rest=>hZ a pl 0 s rest) _ _ _ _ (by lia)
 |.put x k,pl,s,rest=>kf rfl
 |.take x k,pl,s,rest=>kf rfl
 |.pick x y,pl,s,rest=>kf rfl
 |.two w x y z,pl,s,rest=>kf rfl
theorem hZ:∀(rs:List Rw)(pl:W7)(j:Nat)(s:Sx)(rest:List Rw),fin cf (cf.most-s.steps.length) s.nums (rs++rest)=wl cf (bM cf rs pl j s) rest
 |[],pl,j,s,rest=>by unfold bM;rw[tN];rfl
 |r::rs,pl,j,s,rest=>by
  unfold bM;rw[OO,N5 r (pl++[(j:Int)]) s (rs++rest)];generalize gD cf r (pl++[(j:Int)]) s=ex;obtain⟨b,e⟩:=ex;cases b with
  |true=>rw[tN,if_pos rfl];exact hZ rs pl (j+1) e rest
  |false=>rw[mm,if_neg (by simp),mm]
end
end
def mkO(mn:Str):Option cy->D
 |some n=>.int (nm n mn)
 |none=>.non
theorem sO:C.mark z=mkO C.mn (fin (C.cf z) C.most (C.names.zip z.nums) C.rows):=by
 have h:=hZ (cf:=C.cf z) C.rows [] 0 ⟨C.names.zip z.nums,[]⟩ [];rw[Pm]at h;have e:fin (C.cf z) C.most (C.names.zip z.nums) C.rows=wl (C.cf z) (C.run z) []:=h;rw[e];unfold Cse.mark Bh wl
 split
 .rw[dh];rfl
 .rfl
def zP(p:aF->Bool):Tr->D
 |.e m=>m
 |.a q x y=>if p q=true then zP p y else zP p x
theorem gU{n:cy}(h:x∈n.map (·.1)):nm (sN n x v) y=if y=x then v else nm n y:=by
 unfold nm;rw[Og h]
 split<;>rfl
structure Rl(C:Cse)(z:Sta)(g:Gs)(n:cy):Prop where
 nk:∀x,(OR x:aF)∉g.u->nm g.n x=nm n x
 nu:∀x,(OR x:aF)∈g.u->nm n x=aL C z (.inr x)
 pk:∀i:Nat,(Qb (i:Int):aF)∉g.u->(g.ps[i]?).getD 0=(z.pieces[i]?).getD 0
 k:n.map (·.1)=C.names
section
variable{t:Sta}{n:cy}{r:Rw}{p:aF->Bool}
theorem B7(G:cu C.names C.w C.many r)(h:dE C g r=cm):(∀x∈cX r,(OR x:aF)∉g.u)/\∀i,xB C g.n r=ap i->(Qb i:aF)∉g.u:=by
 unfold dE at h
 split at h
 .rename_i e
  rw[e];exact⟨λ_ _ z=>(by cases z),λ_ _ z=>(by cases z)⟩
 .split at h
  .cases h
  .rename_i e
   refine⟨λx B f=>?_,λi F f=>?_⟩
   .have:(OR x:aF)∈(cS C).filter λk=>decide (k∈((cX r).filter λx=>decide ((OR x:aF)∈g.u)).map OR):=by
     rw[Ox];refine⟨Pc.mpr (.inl<|Pa.mpr ⟨x,wL G x B,rfl⟩),decide_eq_true ?_⟩;exact Pa.mpr ⟨x,Ox.mpr ⟨B,decide_eq_true f⟩,rfl⟩
    rw[e]at this;cases this
   .rw[F]at h
    simp only[if_pos f]at h;cases h
theorem Rl.num(R:Rl C z g n)(ok:GOk C g)(P:SOk C z)(f:cw C.names C.w C.many r)(h:dE C g r=cm):num (g.cf C) g.n r=num (C.cf z) n r:=by
 have F:cu C.names C.w C.many r:=by
  cases r with
  |ifr=>exact f.elim
  |again=>exact f.elim
  |_=>exact f
 obtain⟨B,H⟩:=B7 F h;have I:g.ps.length=z.pieces.length:=by rw[ok.lp,P.lp]
 cases r with
 |put x k=>rfl
 |take x i=>
  have:=R.pk i.toNat (by rw[RA f.2.1];exact H i rfl)
  exact this
 |pick x y=>
  have e:=R.nk y (B y<|by simp[cX])
  have G:=H _ rfl;have S:(0:Int)<(C.many:Int):=f.2.2;have J:=Py (nm g.n y) (show (C.many:Int)≠0 by lia)
  rw[<- RA J]at G;have O:=R.pk _ G;show (g.ps[(nm g.n y % (g.ps.length:Int)).toNat]?).getD 0=(z.pieces[(nm n y % (z.pieces.length:Int)).toNat]?).getD 0;rw[<- e,<- I,ok.lp];exact O
 |two w x y u=>
  show yr w (nm g.n y) (nm g.n u) C.w=yr w (nm n y) (nm n u) C.w;rw[R.nk y (B y<|by simp[cX]),R.nk u (B u<|by simp[cX])]
 |ifr=>exact f.elim
 |again=>exact f.elim
theorem Rl.step(R:Rl C z g n)(ok:GOk C g)(W:SOk C z)(O:cu C.names C.w C.many r)(h:dE C g r=cm):Rl C z (jB C g rest r) (ig (C.cf z) n rest r).1/\(jB C g rest r).td=(ig (C.cf z) n rest r).2:=by
 have look:∀x,x∈cX r->nm g.n x=nm n x:=λx F=>R.nk x ((B7 O h).1 x F);have set:∀J,r=J->bi r=true->Rl C z { g with left:=g.left-1,td:=rest,n:=sN g.n (d_ r) (_T.num (g.cf C) g.n r),u:=g.u.filter λk=>decide (k≠.inr (d_ r)) } (sN n (d_ r)<|_T.num (C.cf z) n r):=λJ _ P=>by
  have e:=gq O P;have F:d_ r∈C.names:=uO e;have H:d_ r∈g.n.map (·.1):=by rw[ok.n.keys];exact F
  have B:d_ r∈n.map (·.1):=by rw[R.k];exact F
  rw[R.num ok W e h];refine⟨λy I=>?_,λy I=>?_,λi S=>?_,by rw[i9];exact R.k⟩
  .rw[gU H,gU B]
   split
   .rfl
   .rename_i c
    refine R.nk y λG=>I ?_;rw[Ox];exact⟨G,decide_eq_true λz=>c (Sb z)⟩
  .have f:=Ox.mp I
   have c:¬y=d_ r:=λz=>(of_decide_eq_true f.2) (by rw[z])
   rw[gU B,if_neg c];exact R.nu y f.1
  .refine R.pk i λG=>S ?_
   rw[Ox];exact⟨G,decide_eq_true λz=>by cases z⟩
 cases r with
 |ifr x a b=>
  refine⟨⟨R.nk,R.nu,R.pk,R.k⟩,?_⟩;show (if nm g.n x=0 then b else a)++rest=(if nm n x=0 then b else a)++rest
  rw[look x (by simp[cX])]
 |again x a=>
  refine⟨⟨R.nk,R.nu,R.pk,R.k⟩,?_⟩;show (if nm g.n x=0 then rest else a++(.again x a::rest))=(if nm n x=0 then rest else a++(.again x a::rest))
  rw[look x (by simp[cX])]
 |_=>exact⟨set _ rfl rfl,rfl⟩
theorem wX(o:C.Ok)(G:SOk C z):∀(f:Nat)(g:Gs)(n:cy),Rl C z g n->GOk C g->0<=g.left->g.left<f->∃B,Rl C z (bA C f g).2 B/\fin (C.cf z) g.left.toNat n g.td=fin (C.cf z) (bA C f g).2.left.toNat B (bA C f g).2.td/\
  ((bA C f g).1=cm->((bA C f g).2.td=[]/\(OR C.mn:aF)∉(bA C f g).2.u)\/((bA C f g).2.td≠[]/\(bA C f g).2.left<=0))
 |0,g,n,R,ok,h0,hf=>by lia
 |f+1,g,n,R,ok,h0,hf=>by
  unfold bA;cases e:g.td with
  |nil=>
   refine⟨n,R,by dsimp only;rw[e],λh=>.inl ⟨e,?_⟩⟩
   dsimp only at h ⊢
   split at h
   .cases h
   .assumption
  |cons r rest=>
   dsimp only;have P:cu C.names C.w C.many r:=by
    have:=ok.td;rw[e]at this;exact this.1
   split
   .rename_i F
    exact⟨n,R,by rw[e],λ_=>.inr ⟨by rw[e];simp,F⟩⟩
   .rename_i F
    cases a:dE C g r with
    |some k=>exact⟨n,R,by dsimp only;rw[e],λh=>by cases h⟩
    |none=>
     dsimp only;obtain⟨R1,J⟩:=R.step (rest:=rest) ok G P a;have I:(jB C g rest r).left=g.left-1:=lI;obtain⟨B,R2,H,O⟩:=wX o G f (jB C g rest r) _ R1 (pZ o ok e) (by lia) (by lia)
     refine⟨B,R2,?_,O⟩;rw[<- H,I,J];have:g.left.toNat=(g.left-1).toNat+1:=by lia
     rw[this];rfl
theorem Rl.set(R:Rl C z g n)(ok:GOk C g)(H:q∈cS C)(B:q∈g.u):Rl C z (cg g q<|aL C z q) n:=by
 cases q with
 |inr x=>
  have J:x∈C.names:=by
   rcases dY H with⟨y,f,e⟩|⟨i,_,e⟩
   .cases e;exact f
   .cases e
  have F:x∈g.n.map (·.1):=by rw[ok.n.keys];exact J
  refine⟨λy f=>?_,λy f=>R.nu y (Ox.mp f).1,λi G=>R.pk i λB=>G (Ox.mpr ⟨B,decide_eq_true λz=>by cases z⟩),R.k⟩
  show nm (sN g.n x _) y=_;rw[gU F]
  split
  .rename_i c;subst c;exact(R.nu _ B).symm
  .rename_i c
   exact R.nk y λB=>f (Ox.mpr ⟨B,decide_eq_true λz=>c (Sb z)⟩)
 |inl j=>
  obtain⟨i,G,e⟩:∃i:Nat,i<C.many/\j=(i:Int):=by
   rcases dY H with⟨y,f,e⟩|⟨i,h,e⟩
   .cases e
   .exact⟨i,h,Q9 e⟩
  subst e;refine⟨λy f=>R.nk y λB=>f (Ox.mpr ⟨B,decide_eq_true λz=>by cases z⟩),λy f=>R.nu y (Ox.mp f).1,λk I=>?_,R.k⟩
  show ((g.ps.set ((i:Nat):Int).toNat<|(z.pieces[((i:Nat):Int).toNat]?).getD 0)[k]?).getD 0=_;rw[OF,RQ]
  split
  .rename_i c
   subst c;rw[if_pos (by rw[ok.lp];exact G)]
   rfl
  .rename_i c
   exact R.pk k λB=>I (Ox.mpr ⟨B,decide_eq_true λz=>c (by have:=Q9 z;lia)⟩)
theorem xS(o:C.Ok)(hs:SOk C s)(ht:SOk C t)(Y:SOk C z):∀(f:Nat)(g:Gs)(n:cy),(∀q∈g.u,aL C z q=aL C (if p q=true then t else s) q)->Rl C z g n->GOk C g->0<=g.left->g.left<=C.most->(∀x∈g.u,x∈cS C)->g.u.length<f->
  zP p (bV C s t f g)=mkO C.mn (fin (C.cf z) g.left.toNat n g.td)
 |0,g,n,hp,R,ok,h0,hm,hu,hf=>by lia
 |f+1,g,n,hp,R,ok,h0,hm,hu,hf=>by
  obtain⟨Z,R',e,X⟩:=wX o Y (C.most+1) g n R ok h0 (by lia)
  have O:=kd o (C.most+1) g ok;obtain⟨⟨hlen,h⟩,H,S⟩:=i6 (C:=C) (C.most+1) g;have hl:=H h0;unfold bV;rw[e];generalize bA C (C.most+1) g=go at *;obtain⟨a,B⟩:=go;dsimp only at *;cases a with
  |none=>
   show J6 C B=_;unfold J6;rcases X rfl with⟨I,h2⟩|⟨I,h2⟩
   .rw[if_pos I,I,dh]
    show D.int _=D.int _;rw[R'.nk _ h2]
   .rw[if_neg I]
    have:B.left.toNat=0:=by lia
    rw[this];cases e3:B.td with
    |nil=>exact absurd e3 I
    |cons=>rfl
  |some q=>
   have G:=S q rfl;have J:=hu q (h q G);have fl:=qN G;have P:∀y:Sta,aL C z q=aL C y q->SOk C y->zP p (bV C s t f<|cg B q<|aL C y q)=mkO C.mn (fin (C.cf z) B.left.toNat Z B.td):=λy hy ky=>by
    rw[<- hy]
    have:=xS o hs ht Y f (cg B q<|aL C z q) Z (λk hk=>by rw[dH]at hk;exact hp k (h k (Ox.mp hk).1)) (R'.set O J G) (kM O<|ci o Y J) (by rw[eR];lia) (by rw[eR];lia)
     (λx hx=>by rw[dH]at hx;exact hu x (h x (Ox.mp hx).1)) (by rw[dH];lia)
    rw[eR]at this;have W:(cg B q<|aL C z q).td=B.td:=by cases q<;>rfl
    rw[W]at this;exact this
   have F:=hp q (h q G);show (if p q=true then zP p (bV C s t f<|cg B q<|aL C t q) else zP p (bV C s t f<|cg B q<|aL C s q))=_
   split
   .rename_i c;rw[if_pos c]at F;exact P t F ht
   .rename_i c;rw[if_neg c]at F;exact P s F hs
theorem og(f:C.names.length=nums.length)(h:x∉C.names):nm (C.names.zip nums) x=0:=by
 unfold nm gN;rw[List.find?_eq_none.mpr]
 .rfl
 .intro q e
  have:=(QU e).1;simp only[decide_eq_true_eq];exact λz=>h (by rw[<- z];exact this)
theorem cK(o:C.Ok)(F:SOk C s)(P:SOk C t)(B:SOk C z)(O:(aA C s t).length<24)(G:∀q∈cS C,aL C z q=aL C (if p q=true then t else s) q):zP p (C.tree s t)=C.mark z:=by
 rw[sO];have f:∀q∈cS C,q∉aA C s t->aL C z q=aL C s q:=λq h I=>by
  rw[G q h];have:aL C s q=aL C t q:=Decidable.byContradiction λc=>I (Ox.mpr ⟨h,decide_eq_true c⟩)
  split
  .exact this.symm
  .rfl
 have:=xS (p:=p) o F P B 24 (g0 C s t) (C.names.zip z.nums) (λq h=>G q (kj q h)) ⟨λx H=>?_,λx _=>rfl,λi J=>?_,fN B.ln.symm⟩ (A_ o F) (by show (0:Int)<=((C.most:Nat):Int);lia) (Q1 _) kj O
 .have e:(g0 C s t).left.toNat=C.most:=rfl
  rw[e]at this;exact this
 .by_cases c:x∈C.names
  .exact(f (.inr x) (Pc.mpr<|.inl<|Pa.mpr ⟨x,c,rfl⟩) H).symm
  .show nm (C.names.zip s.nums) x=_
   rw[og F.ln.symm c,og B.ln.symm c]
 .show (s.pieces[i]?).getD 0=_
  by_cases c:i<C.many
  .have:=f (.inl (i:Int)) (Pc.mpr<|.inr<|Pa.mpr ⟨i,P2.mpr c,rfl⟩) J
   exact this.symm
  .rw[Pr (by rw[F.lp];lia),Pr (by rw[B.lp];lia)]
theorem jg:∀(f:Nat)(g:Gs),(bV C s t f g).asks+1<=2 ^ g.u.length
 |0,g=>Nat.one_le_two_pow
 |f+1,g=>by
  obtain⟨⟨F,G⟩,_,h⟩:=i6 (C:=C) (C.most+1) g;unfold bV;generalize bA C (C.most+1) g=go at *;obtain⟨a,B⟩:=go;dsimp only at *;cases a with
  |none=>exact Nat.one_le_two_pow
  |some q=>
   have J:=qN (h q rfl);have H:=jg f (cg B q<|aL C s q);have I:=jg f (cg B q<|aL C t q);rw[dH]at H I;have e:2 ^ ((B.u.filter λk=>decide (k≠q)).length+1)<=2 ^ g.u.length:=Po (by decide) (by lia)
   rw[Nat.pow_succ]at e;show 1+_+_+1<=_;lia
theorem oh:1+(C.tree s t).asks<=2 ^ (aA C s t).length:=by
 have:=jg (C:=C) (s:=s) (t:=t) 24 (g0 C s t);have e:(g0 C s t).u=aA C s t:=rfl;rw[e]at this;show 1+(bV C s t 24<|g0 C s t).asks<=_;lia
end
def TrN:Tr->List aF->Prop
 |.e _,_=>True
 |.a q x y,u=>q∈u/\TrN x (u.filter λk=>decide (k≠q))/\TrN y (u.filter λk=>decide (k≠q))
theorem TrN.mono:∀{t:Tr}{u v:List aF},TrN t u->(∀k∈u,k∈v)->TrN t v
 |.e _,_,_,_,_=>trivial
 |.a q x y,u,v,h,s=>⟨s q h.1,h.2.1.mono λk f=>Ox.mpr ⟨s k (Ox.mp f).1,(Ox.mp f).2⟩,h.2.2.mono λk f=>Ox.mpr ⟨s k (Ox.mp f).1,(Ox.mp f).2⟩⟩
theorem tL{C:Cse}{s t:Sta}:∀(f:Nat)(g:Gs),TrN (bV C s t f g) g.u
 |0,_=>trivial
 |f+1,g=>by
  obtain⟨⟨_,e⟩,_,h⟩:=i6 (C:=C) (C.most+1) g;unfold bV;generalize bA C (C.most+1) g=go at *;obtain⟨a,p⟩:=go;dsimp only at *;cases a with
  |none=>trivial
  |some q=>
   have w:∀v,TrN (bV C s t f<|cg p q v) (g.u.filter λk=>decide (k≠q)):=λv=>by
    have:=tL (C:=C) (s:=s) (t:=t) f (cg p q v);rw[dH]at this;exact this.mono λk B=>Ox.mpr ⟨e k (Ox.mp B).1,(Ox.mp B).2⟩
   exact⟨e q (h q rfl),w _,w _⟩
theorem qR:∀{a b:Nat},a<=b->fct a ∣ fct b:=by
 intro a b h
 induction b with
 |zero=>
  rw[Nat.le_zero.mp h];exact Nat.dvd_refl _
 |succ b ih=>
  by_cases e:a=b+1
  .subst e;exact Nat.dvd_refl _
  .exact Nat.dvd_trans (ih<|by lia) (Nat.dvd_mul_right (fct b) (b+1))
theorem sj{k:Nat}(h:0<k):k*fct (k-1)=fct k:=by
 cases k with
 |zero=>lia
 |succ k=>exact RB (k+1) (fct k)
theorem Az{A:Int}{p:Nat->Bool}:∀l:List Nat,(l.map λi=>if p i=true then A else 0).sum=((l.filter p).length:Int)*A
 |[]=>by simp
 |i::l=>by
  rw[Ou,Pj,Az l,Pb]
  split
  .rw[Oy];push_cast;rw[Int.add_mul];lia
  .lia
theorem tq{A:Int}{b:Nat}(h:b<2 ^ n):((Pe n).map λi=>if b.testBit i=true then A else 0).sum=((av b).length:Int)*A:=by
 rw[gy h];exact Az _
theorem xf{f g:Nat->Int}:∀l:List Nat,(l.map λi=>f i-g i).sum=(l.map f).sum-(l.map g).sum
 |[]=>by simp
 |i::l=>by simp only[Ou,Pj,xf l];lia
theorem wx{f g:Nat->Int}:∀l:List Nat,(l.map λi=>f i+g i).sum=(l.map f).sum+(l.map g).sum
 |[]=>by simp
 |i::l=>by simp only[Ou,Pj,wx l];lia
def vO(n f s:Nat):Int:=(if f=0 then 0 else ((fct n / fct (f+s)*fct f*fct s:Nat):Int))-(if s=0 then 0 else ((fct n / fct (f+s)*fct f*fct s:Nat):Int))
theorem FO{x:Out}(h:OutOk n x):((Pe n).map<|h_ n x).sum=vO n (av x.f).length (av x.s).length:=by
 have e:h_ n x=λi=>(if x.f.testBit i=true then ((fct n / fct ((av x.f).length+(av x.s).length)*fct ((av x.f).length-1)*fct (av x.s).length:Nat):Int) else 0)-(if x.s.testBit i=true then ((fct n / fct ((av x.f).length+(av x.s).length)*fct (av x.f).length*fct ((av x.s).length-1):Nat):Int) else 0):=rfl
 rw[e,xf,tq h.f,tq h.s];unfold vO;generalize (av x.f).length=f;generalize (av x.s).length=s;generalize fct n / fct (f+s)=E;congr 1
 .split
  .rename_i c;subst c;simp
  .rename_i c
   rw[<- sj (k:=f) (by lia)]
   rw[<- QA];congr 1;rw[RB E (f*fct (f-1)),RX f,RB (fct (f-1)) E,RX f]
 .split
  .rename_i c;subst c;simp
  .rename_i c
   conv=>rhs;rw[<- sj (k:=s) (by lia)]
   rw[<- QA];congr 1;rw[<- RX (E*fct f) s,RB (E*fct f) s,RX s]
theorem nQ{n:Nat}:∀{xs:List Out},(∀x∈xs,OutOk n x)->((Pe n).map<|bR n xs).sum=(xs.map λx=>vO n (av x.f).length (av x.s).length).sum
 |[],_=>by
  have:∀l:List Nat,(l.map<|bR n []).sum=0:=λl=>by
   induction l with
   |nil=>rfl
   |cons i l ih=>rw[Ou,Pj,ih];rfl
  exact this _
 |x::xs,h=>by
  have e:bR n (x::xs)=λi=>h_ n x i+bR n xs i:=by funext i;simp[bR]
  rw[e,wx,FO (h x OL),nQ λy p=>h y (OE _ p)];simp
structure Wy(us:List aF)(u:List aF)(S F:Nat):Prop where
 s:S<2 ^ us.length
 f:F<2 ^ us.length
 sub:∀q∈u,q∈us
 no:∀q∈u,S.testBit (us.idxOf q)=eC/\F.testBit (us.idxOf q)=eC
 dis:∀i,¬(S.testBit i=true/\F.testBit i=true)
section
variable{S F:Nat}
theorem CP(e:q∈us):bitK us q<2 ^ us.length:=Nat.pow_lt_pow_right (by decide) (QC e)
theorem wm:(bitK us q).testBit i=decide (us.idxOf q=i):=by unfold bitK;exact Nat.testBit_two_pow
theorem DL{k:aF}(p:k∈us)(B:q∈us)(h:us.idxOf q=us.idxOf k):k=q:=by
 have f:=UY (QC p);have e:=UY (QC B);rw[<- f,<- e];congr 1;exact h.symm
theorem Wy.swap(w:Wy us u S F):Wy us u F S:=⟨w.f,w.s,w.sub,λq e=>(w.no q e).symm,λi h=>w.dis i h.symm⟩
theorem Wy.fa(w:Wy us u S F)(G:q∈u):Wy us (u.filter λk=>decide (k≠q)) S (F ||| bitK us q):=by
 have e:=w.sub q G;refine⟨w.s,Nat.or_lt_two_pow w.f (CP e),λk B=>w.sub k (Ox.mp B).1,λk B=>?_,λi h=>?_⟩
 .obtain⟨p,H⟩:=Ox.mp B
  refine⟨(w.no k p).1,?_⟩;rw[TQ,(w.no k p).2,wm,Qj];exact decide_eq_false λz=>(of_decide_eq_true H) (DL (w.sub k p) e z)
 .rw[TQ,wm]at h
  by_cases c:us.idxOf q=i
  .subst c;rw[(w.no q G).1]at h;exact absurd h.1 (by simp)
  .rw[decide_eq_false c,QT]at h;exact w.dis i h
theorem Wy.so(w:Wy us u S F)(e:q∈u):Wy us (u.filter λk=>decide (k≠q)) (S ||| bitK us q) F:=(w.swap.fa e).swap
theorem fO{B:Nat}(f:B<2 ^ us.length)(e:q∈us):(av (B ||| bitK us q)).length≠0:=by
 have:us.idxOf q∈av (B ||| bitK us q):=by
  rw[dy (Nat.or_lt_two_pow f<|CP e)];exact⟨QC e,by rw[TQ,wm];simp⟩
 exact λz=>by rw[Tc z]at this;cases this
theorem sY{p r:Nat->Bool}:∀(l:List Nat),(∀i,¬(p i=true/\r i=true))->(l.filter p).length+(l.filter r).length<=l.length
 |[],_=>by simp
 |i::l,h=>by
  have:=sY l h;have e:=h i;rw[Pb,Pb,Oy]
  split<;>split<;>simp_all<;>lia
theorem Wy.ok(w:Wy us u S F){v:Str}:OutOk us.length ⟨v,S,F⟩:=by
 refine⟨w.s,w.f,?_⟩;show (av F).length+(av S).length<=_;rw[gy w.f,gy w.s];have:=sY (p:=λi=>F.testBit i) (r:=λi=>S.testBit i) (Pe us.length) λi h=>w.dis i h.symm;rw[SM]at this;exact this
theorem pO:∀(t:Tr)(u:List aF)(S F:Nat),TrN t u->Wy us u S F->∀x∈cY a b us t S F,OutOk us.length x
 |.e m,u,S,F,_,w,x,hx=>by
  have:x=⟨jx a b m,S,F⟩:=by simpa [cY] using hx
  subst this;exact w.ok
 |.a q x y,u,S,F,h,w,o,ho=>by
  rcases Pc.mp ho with h1|h1
  .exact pO y _ _ _ h.2.2 (w.fa h.1) o h1
  .exact pO x _ _ _ h.2.1 (w.so h.1) o h1
def wT(a b:Int)(us:List aF)(t:Tr)(S F:Nat):Int:=(((cY a b us t S F).filter λx=>decide (x.v=("faulty":Str))).map λx=>vO us.length (av x.f).length (av x.s).length).sum
theorem KI{m:D}:wT a b us (.e m) S F=if jx a b m=("faulty":Str) then vO us.length (av F).length (av S).length else 0:=by
 unfold wT cY;rw[Pb]
 split
 .rename_i c
  rw[if_pos (of_decide_eq_true c)];simp
 .rename_i c
  rw[if_neg (λz=>c (decide_eq_true z))];rfl
theorem Fp{x y:Tr}:wT a b us (.a q x y) S F=wT a b us y S (F ||| bitK us q)+wT a b us x (S ||| bitK us q) F:=by
 unfold wT
 conv=>lhs;unfold cY
 rw[PZ,QW,List.sum_append]
theorem oX:∀(t:Tr)(u:List aF)(S F:Nat),TrN t u->Wy us u S F->(av F).length≠0->(av S).length≠0->wT a b us t S F=0
 |.e m,u,S,F,_,w,hF,hS=>by
  rw[KI]
  split
  .unfold vO;rw[if_neg hF,if_neg hS];lia
  .rfl
 |.a q x y,u,S,F,h,w,hF,hS=>by
  have p:=w.sub q h.1;rw[Fp,oX y _ _ _ h.2.2 (w.fa h.1) (fO w.f p) hS,oX x _ _ _ h.2.1 (w.so h.1) hF (fO w.s p)];rfl
theorem LK:∀(t:Tr)(u:List aF)(S F:Nat),TrN t u->Wy us u S F->(av F).length≠0->(av S).length=0->wT a b us t S F=if jx a b (zP (λ_=>true) t)=("faulty":Str) then ((fct us.length:Nat):Int) else 0
 |.e m,u,S,F,_,w,hF,hS=>by
  rw[KI];show _=if jx a b m=_ then _ else _
  split
  .have B:=(w.ok (v:="")).l
   have G:(av F).length+(av S).length<=us.length:=B;unfold vO;rw[if_neg hF,if_pos hS,hS,UC];have:fct us.length / fct (av F).length*fct (av F).length=fct us.length:=SE (qR<|by lia)
   rw[this];show ((fct us.length*1:Nat):Int)-0=_;lia
  .rfl
 |.a q x y,u,S,F,h,w,hF,hS=>by
  have p:=w.sub q h.1;rw[Fp,LK y _ _ _ h.2.2 (w.fa h.1) (fO w.f p) hS,oX x _ _ _ h.2.1 (w.so h.1) hF (fO w.s p)];rw[Si];rfl
theorem ME:∀(t:Tr)(u:List aF)(S F:Nat),TrN t u->Wy us u S F->(av F).length=0->(av S).length≠0->wT a b us t S F=if jx a b (zP (λ_=>eC) t)=("faulty":Str) then -((fct us.length:Nat):Int) else 0
 |.e m,u,S,F,_,w,hF,hS=>by
  rw[KI];show _=if jx a b m=_ then _ else _
  split
  .have B:=(w.ok (v:="")).l
   have G:(av F).length+(av S).length<=us.length:=B;unfold vO;rw[if_pos hF,if_neg hS,hF,SQ];have:fct us.length / fct (av S).length*fct 0*fct (av S).length=fct us.length:=by
    show fct us.length / fct (av S).length*1*fct (av S).length=_;rw[Nat.mul_one];exact SE (qR<|by lia)
   rw[this];lia
  .rfl
 |.a q x y,u,S,F,h,w,hF,hS=>by
  have p:=w.sub q h.1;rw[Fp,oX y _ _ _ h.2.2 (w.fa h.1) (fO w.f p) hS,ME x _ _ _ h.2.1 (w.so h.1) hF (fO w.s p)];rw[SX];rfl
theorem C9:(av 0).length=0:=rfl
theorem Wy.zero(h:∀q∈u,q∈us):Wy us u 0 0:=⟨Nat.two_pow_pos _,Nat.two_pow_pos _,h,λq _=>⟨Tb _,Tb _⟩,λi h=>by rw[Tb]at h;exact absurd h.1 (by simp)⟩
theorem MR{t:Tr}(h:TrN t us)(H:zP (λ_=>eC) t=.int a)(I:zP (λ_=>true) t=.int b)(p:a≠b):wT a b us t 0 0=((fct us.length:Nat):Int):=by
 have J:¬jx a b (.int a)=("faulty":Str):=by
  unfold jx;rw[if_pos (by simp[aP])]
  decide +kernel
 have O:jx a b (.int b)=("faulty":Str):=by
  unfold jx;have:¬b=a:=λz=>p z.symm;rw[if_neg (by simp[aP,this]),if_pos (by simp[aP])]
 cases t with
 |e m=>
  have:D.int a=D.int b:=H.symm.trans I;exact absurd (D.int.inj this) p
 |a q x y=>
  have w:=Wy.zero (us:=us) (u:=us) λ_ h=>h;have G:zP (λ_=>eC) x=.int a:=H;have B:zP (λ_=>true) y=.int b:=I;rw[Fp,LK y _ _ _ h.2.2 (w.fa h.1) (fO w.f h.1) C9,ME x _ _ _ h.2.1 (w.so h.1) C9 (fO w.s h.1),G,B,if_pos O,if_neg J];lia
end
section
variable{t:Sta}
def df(C:Cse)(s t:Sta)(a b:Int):List Out:=(cY a b (aA C s t) (C.tree s t) 0 0).filter λx=>decide (x.v=("faulty":Str))
theorem n8:TrN (C.tree s t) (aA C s t):=tL 24 (g0 C s t)
theorem gr:∀x∈df C s t a b,OutOk (aA C s t).length x:=λx e=>pO _ _ _ _ n8 (Wy.zero λ_ h=>h) x (Ox.mp e).1
theorem uW(o:C.Ok)(h:SOk C s)(f:SOk C t)(G:C.mark s=.int a)(F:C.mark t=.int b)(e:a≠b)(B:(aA C s t).length<24):
  ((Pe (aA C s t).length).map<|bR (aA C s t).length<|df C s t a b).sum=((fct (aA C s t).length:Nat):Int):=by
 rw[nQ gr];exact MR n8 ((cK (p:=λ_=>eC) o h f h B λq _=>rfl).trans G) ((cK (p:=λ_=>true) o h f f B λq _=>rfl).trans F) e
end
def gT(d:Nat)(T:Int):Nat:=QY d (T % (d:Int)).toNat
section
variable{d:Nat}{T:Int}
theorem qr(h:0<d):0<gT d T:=Ul _ h
theorem DN:gT d T ∣ d:=Nat.gcd_dvd_left _ _
theorem HX(h:0<d):((gT d T:Nat):Int) ∣ T:=by
 have e:=Py T (show ((d:Nat):Int)≠0 by lia)
 have B:gT d T ∣ (T % (d:Int)).toNat:=Nat.gcd_dvd_right _ _;have f:((gT d T:Nat):Int) ∣ T % (d:Int):=by
  have:=Q0.mpr B
  rwa [RA e]at this
 have p:((gT d T:Nat):Int) ∣ (d:Int):=Q0.mpr DN;have:=Int.dvd_add f (Uu (c:=T / (d:Int)) p)
 rwa [Int.emod_add_mul_ediv]at this
theorem Es(h:0<d):QY (T / ((gT d T:Nat):Int)).natAbs (d / gT d T)=1:=by
 have p:=qr (T:=T) h;generalize f:QY (T / ((gT d T:Nat):Int)).natAbs (d / gT d T)=k;have I:k ∣ d / gT d T:=by rw[<- f];exact Nat.gcd_dvd_right _ _
 have G:k ∣ (T / ((gT d T:Nat):Int)).natAbs:=by rw[<- f];exact Nat.gcd_dvd_left _ _
 have e:k*gT d T ∣ d:=by
  have:=Nat.mul_dvd_mul_right I (gT d T)
  rwa [SE DN]at this
 have H:((k*gT d T:Nat):Int) ∣ T:=by
  have:=Int.mul_dvd_mul (Int.ofNat_dvd_left.mpr G) (Int.dvd_refl ((gT d T:Nat):Int));rw[Int.ediv_mul_cancel (HX h)]at this;rw[QA];exact this
 have B:((k*gT d T:Nat):Int) ∣ T % (d:Int):=by
  rw[Int.emod_def];exact Int.dvd_sub H (Uu<|Q0.mpr e)
 have J:=Py T (show ((d:Nat):Int)≠0 by lia)
 have F:k*gT d T ∣ (T % (d:Int)).toNat:=by
  rw[<- RA J]at B;exact Q0.mp B
 have O:k*gT d T ∣ gT d T:=Nat.dvd_gcd e F;have:=Nat.le_of_dvd p O;have kp:0<k:=by
  rcases Nat.eq_zero_or_pos k with z|z
  .subst z;rw[Nat.zero_mul]at e;have:=Nat.eq_zero_of_zero_dvd e;lia
  .exact z
 have:k*gT d T<=1*gT d T:=by lia
 have:=Nat.le_of_mul_le_mul_right this p;lia
theorem y6(h:0<d):0<d / gT d T:=Nat.div_pos (Nat.le_of_dvd h DN) (qr h)
theorem Dk(h:0<d):(T / ((gT d T:Nat):Int))*(d:Int)=T*((d / gT d T:Nat):Int):=by
 have B:=qr (T:=T) h;obtain⟨x,e⟩:=HX (T:=T) h;obtain⟨y,f⟩:=DN (d:=d) (T:=T);generalize gT d T=g at *;have F:T / (g:Int)=x:=by rw[e];exact Uc _ (by lia)
 have p:d / g=y:=by rw[f];exact Nat.mul_div_cancel_left _ B
 rw[F,p,e,f]
 push_cast
 rw[<- Ud,Int.mul_comm x (g:Int)]
theorem JM{k:Nat}(p:0<k)(h:0<d):gT (k*d) ((k:Int)*T)=k*gT d T:=by
 have e:=Py T (show ((d:Nat):Int)≠0 by lia)
 unfold gT;have:((k:Int)*T % ((k*d:Nat):Int)).toNat=k*(T % (d:Int)).toNat:=by
  rw[QA,Int.mul_emod_mul_of_pos _ _ (by lia)]
  obtain⟨r,f⟩:=R6 e;rw[f,<- QA,OF,OF]
 rw[this,Nat.gcd_mul_left]
theorem za{k:Nat}(e:0<k)(h:0<d):(k:Int)*T / ((gT (k*d) ((k:Int)*T):Nat):Int)=T / ((gT d T:Nat):Int)/\((k*d:Nat):Int) / ((gT (k*d) ((k:Int)*T):Nat):Int)=(d:Int) / ((gT d T:Nat):Int):=by
 rw[JM e h,QA,QA];exact⟨Ut _ _ (by lia),Ut _ _<|by lia⟩
theorem Fo:gT d 0=d:=by unfold gT;simp
end
theorem rC:yL n T i=.tup [.int (T i / ((gT (fct n) (T i):Nat):Int)),.int (((fct n:Nat):Int) / ((gT (fct n) (T i):Nat):Int))]:=rfl
theorem Gp:fct (n+2)=(n+2)*(n+1)*fct n:=by
 show fct n*(n+1)*(n+2)=_;rw[RB,RX,RB (fct n)]
theorem Co{x:Out}(h:OutOk n x):h_ (n+2) x i=(((n+2)*(n+1):Nat):Int)*h_ n x i:=by
 have e:fct (n+2) / fct ((av x.f).length+(av x.s).length)=(n+2)*(n+1)*(fct n / fct ((av x.f).length+(av x.s).length)):=by
  rw[Gp,Nat.mul_div_assoc _ (qR h.l)]
 unfold h_;rw[e];generalize (n+2)*(n+1)=k;generalize fct n / fct ((av x.f).length+(av x.s).length)=E;rw[Int.mul_sub];congr 1
 .split
  .push_cast;simp only[Ud]
  .simp
 .split
  .push_cast;simp only[Ud]
  .simp
theorem ow{n:Nat}{i:Nat}:∀{xs:List Out},(∀x∈xs,OutOk n x)->bR (n+2) xs i=(((n+2)*(n+1):Nat):Int)*bR n xs i
 |[],_=>by simp[bR]
 |x::xs,h=>by
  have e:=ow (i:=i) λy f=>h y (OE _ f);have p:=Co (i:=i) (h x OL);unfold bR at e ⊢;rw[Ou,Pj,e,p,Ou,Pj,Int.mul_add]
theorem CQ{m:Nat}{x:Out}(h:OutOk n x)(e:n<=i):h_ m x i=0:=by
 have B:x.f.testBit i=false:=Sg (OA h.f<|Po (by decide) e)
 have p:x.s.testBit i=false:=Sg (OA h.s<|Po (by decide) e)
 unfold h_;rw[B,p];simp
theorem oq{n m:Nat}{i:Nat}(f:n<=i):∀{xs:List Out},(∀x∈xs,OutOk n x)->bR m xs i=0
 |[],_=>rfl
 |x::xs,h=>by
  have e:=oq (m:=m) f λy p=>h y (OE _ p);unfold bR at e ⊢;rw[Ou,Pj,e,CQ (h x OL) f];rfl
theorem OutOk.more{x:Out}(h:OutOk n x):OutOk (n+2) x:=
 ⟨OA h.s (Po (by decide)<|by lia),OA h.f (Po (by decide)<|by lia),by have:=h.l;lia⟩
theorem lX(h:n<=7):fct n<=5040:=ue (b:=7) h
theorem JX{x:Out}(I:n<=7)(h:OutOk n x):-128024064000<=h_ n x i/\h_ n x i<=128024064000:=by
 have O:=h.l;have p:fct n / fct ((av x.f).length+(av x.s).length)<=5040:=OQ (Nat.div_le_self _ _) (lX I);have e:∀E A B:Nat,E<=5040->A<=5040->B<=5040->E*A*B<=128024064000:=λE A B F G H=>by
  have:=Sn (Sn F G) H;exact this
 have P:=e _ _ _ p (lX (n:=(av x.f).length-1)<|by lia) (lX (n:=(av x.s).length)<|by lia)
 have J:=e _ _ _ p (lX (n:=(av x.f).length)<|by lia) (lX (n:=(av x.s).length-1)<|by lia)
 unfold h_
 split<;>split<;>lia
theorem yj{n:Nat}{i:Nat}(e:n<=7):∀{xs:List Out},(∀x∈xs,OutOk n x)->-128024064000*(xs.length:Int)<=bR n xs i/\bR n xs i<=128024064000*(xs.length:Int)
 |[],_=>by simp[bR]
 |x::xs,h=>by
  have f:=yj (i:=i) e λy p=>h y (OE _ p);have B:=JX (i:=i) e (h x OL);unfold bR at f ⊢;rw[Ou,Pj,Oy]
  push_cast
  lia
mutual
def Lc:Rw->Prop
 |.pick _ _=>False
 |.ifr _ a b=>eF a/\eF b
 |.again _ a=>eF a
 |.put _ _=>True
 |.take _ _=>True
 |.two _ _ _ _=>True
def eF:List Rw->Prop
 |[]=>True
 |r::rs=>Lc r/\eF rs
end
theorem io:∀{a b:List Rw},eF a->eF b->eF (a++b)
 |[],_,_,h=>h
 |r::rs,b,h,h'=>⟨h.1,io h.2 h'⟩
mutual
theorem Ck{names:W8}{m:Int}{many:Nat}:∀(r:Rw),cu names m many r->cu names m ((many+2:Nat):Int) r
 |.put x k,h=>h
 |.take x i,h=>⟨h.1,h.2.1,by have:=h.2.2;lia⟩
 |.pick x y,h=>⟨h.1,h.2.1,by lia⟩
 |.two w x y z,h=>h
 |.ifr x a b,h=>by
  simp only[cu]at h ⊢;exact⟨h.1,eL a h.2.1,eL b h.2.2⟩
 |.again x a,h=>by
  simp only[cu]at h ⊢;exact⟨h.1,eL a h.2⟩
theorem eL{names:W8}{m:Int}{many:Nat}:∀(rs:List Rw),bc names m many rs->bc names m ((many+2:Nat):Int) rs
 |[],_=>trivial
 |r::rs,h=>⟨Ck r h.1,eL rs h.2⟩
end
def Cse.mo(C:Cse):Cse:={ C with many:=C.many+2 }
def Sta.mo(s:Sta)(v w:Int):Sta:=⟨s.nums,s.pieces++[v,w]⟩
def iI(C:Cse):List aF:=[.inl (C.many:Nat),.inl ((C.many:Nat)+1:Int)]
def Gs.mo(g:Gs)(C:Cse)(v w:Int):Gs:={ g with ps:=g.ps++[v,w],u:=g.u++iI C }
section
variable{t:Sta}{r:Rw}{w v' w':Int}
theorem Cse.Ok.mo(o:C.Ok)(h:C.many<=90):C.mo.Ok:=⟨o.m2,o.m1,by show C.many+2<=100;lia,o.most,o.nd,o.l0,o.l1,eL _ o.ok,o.h,o.mn⟩
theorem SOk.mo(k:SOk C s)(p:0<=v/\v<C.w)(f:0<=w/\w<C.w):SOk C.mo (s.mo v w):=by
 refine⟨k.ln,?_,k.rn,λx e=>?_⟩
 .show (s.pieces++[v,w]).length=C.many+2
  rw[OG,k.lp];rfl
 .have e:x∈s.pieces++[v,w]:=e
  rcases Pc.mp e with h|h
  .exact k.rp x h
  .simp only[OM,Pl,or_false]at h
   rcases h with rfl|rfl
   .exact p
   .exact f
theorem Gm:cS C.mo=cS C++iI C:=by
 show C.names.map OR++(Pe (C.many+2)).map (λ(i:Nat)=>(Qb (i:Int):aF))=C.names.map OR++(Pe C.many).map (λ(i:Nat)=>(Qb (i:Int):aF))++iI C;rw[Tf,Tf];simp[iI]
theorem LL(e:q∈cS C):q∉iI C:=by
 intro h;simp only[iI,OM,Pl,or_false]at h;rcases dY e with⟨x,_,rfl⟩|⟨i,hi,rfl⟩
 .rcases h with h|h<;>cases h
 .rcases h with h|h
  .have:=Q9 h;lia
  .have:=Q9 h;lia
theorem rB(k:SOk C s)(e:q∈cS C):aL C.mo (s.mo v w) q=aL C s q:=by
 rcases dY e with⟨x,_,rfl⟩|⟨i,hi,rfl⟩
 .rfl
 .show ((s.pieces++[v,w])[((i:Nat):Int).toNat]?).getD 0=(s.pieces[((i:Nat):Int).toNat]?).getD 0
  rw[OF,PL (by rw[k.lp];exact hi)]
theorem qG(h:SOk C s)(p:SOk C t)(H:v≠v')(G:w≠w'):aA C.mo (s.mo v w) (t.mo v' w')=aA C s t++iI C:=by
 unfold aA;rw[Gm,PZ];congr 1
 .refine QE λq e=>?_
  rw[rB h e,rB p e]
 .refine QP.mpr λq e=>?_
  have F:∀(z:Sta)(x y:Int),z.pieces.length=C.many->aL C.mo (z.mo x y) (.inl (C.many:Nat))=x:=λz x y f=>by
   show ((z.pieces++[x,y])[((C.many:Nat):Int).toNat]?).getD 0=x;rw[OF,Pw (by lia),f];simp
  have B:∀(z:Sta)(x y:Int),z.pieces.length=C.many->aL C.mo (z.mo x y) (.inl ((C.many:Nat)+1:Int))=y:=λz x y f=>by
   show ((z.pieces++[x,y])[(((C.many:Nat):Int)+1).toNat]?).getD 0=y;have:(((C.many:Nat):Int)+1).toNat=C.many+1:=by lia
   rw[this,Pw (by lia),f];simp
  simp only[iI,OM,Pl,or_false]at e;rcases e with rfl|rfl
  .rw[F s v w h.lp,F t v' w' p.lp];exact decide_eq_true H
  .rw[B s v w h.lp,B t v' w' p.lp];exact decide_eq_true G
theorem BP(e:q∈cS C):q∈(g.mo C v w).u↔q∈g.u:=by
 show q∈g.u++iI C↔_;rw[Pc];exact⟨λh=>h.elim id λz=>absurd z (LL e),.inl⟩
theorem AO:(OR x:aF)∈(g.mo C v w).u↔(OR x:aF)∈g.u:=by
 show _∈g.u++iI C↔_;rw[Pc];refine⟨λh=>h.elim id λz=>?_,.inl⟩;simp only[iI,OM,Pl,or_false]at z;rcases z with z|z<;>cases z
theorem JZ(f:cu C.names C.w C.many r)(G:Lc r):dE C.mo (g.mo C v w) r=dE C g r:=by
 have O:((cX r).filter λx=>decide ((OR x:aF)∈(g.mo C v w).u))=(cX r).filter λx=>decide ((OR x:aF)∈g.u):=QE λx _=>by simp only[AO]
 have ne:¬(g.mo C v w).u=[]:=by
  show ¬g.u++iI C=[];simp[iI]
 have J:∀l:List Str,(iI C).filter (λk=>decide (k∈l.map (OR:Str->aF)))=[]:=λl=>by
  rw[R7];intro q H h;obtain⟨x,_,e⟩:=Pa.mp (of_decide_eq_true h);simp only[iI,OM,Pl,or_false]at H;subst e;rcases H with z|z<;>cases z
 have P:xB C.mo (g.mo C v w).n r=xB C g.n r:=by
  cases r with
  |pick=>exact G.elim
  |_=>rfl
 unfold dE;rw[if_neg ne,O,Gm,PZ,J,Pm,P]
 by_cases c:g.u=[]
 .rw[if_pos c,c]
  simp only[Pl,decide_false];have R:∀l:List Str,l.filter (λ_=>eC)=[]:=λl=>by induction l<;>simp_all
  have I:∀l:List aF,l.filter (λ_=>eC)=[]:=λl=>by induction l<;>simp_all
  simp only[R,OV,Pl,decide_false,I];cases p:xB C g.n r with
  |none=>rfl
  |some i=>
   have:(Qb i:aF)∉(g.mo C v w).u:=by
    have F:(Qb i:aF)∈cS C:=by
     cases r with
     |take x j=>
      have e:j=i:=by simpa [xB] using p
      subst e;exact Pc.mpr (.inr<|Pa.mpr ⟨j.toNat,P2.mpr (by have:=f.2.1;have:=f.2.2;lia),by congr 1;have:=f.2.1;lia⟩)
     |pick=>exact G.elim
     |_=>cases p
    rw[BP F,c];exact Pl
   simp only[if_neg this]
 .rw[if_neg c]
  cases S:(cS C).filter λk=>decide (k∈((cX r).filter λx=>decide ((OR x:aF)∈g.u)).map OR) with
  |cons k l=>rfl
  |nil=>
   cases p:xB C g.n r with
   |none=>rfl
   |some i=>
    have F:(Qb i:aF)∈cS C:=by
     cases r with
     |take x j=>
      have e:j=i:=by simpa [xB] using p
      subst e;exact Pc.mpr (.inr<|Pa.mpr ⟨j.toNat,P2.mpr (by have:=f.2.1;have:=f.2.2;lia),by congr 1;have:=f.2.1;lia⟩)
     |pick=>exact G.elim
     |_=>cases p
    by_cases B:(Qb i:aF)∈g.u
    .simp only[if_pos B,if_pos ((BP (v:=v) (w:=w) F).mpr B)]
    .simp only[if_neg B,if_neg λz=>B ((BP (v:=v) (w:=w) F).mp z)]
theorem Nb(ok:GOk C g)(h:cu C.names C.w C.many r)(B:Lc r):jB C.mo (g.mo C v w) rest r=(jB C g rest r).mo C v w:=by
 have p:∀x:Str,(iI C).filter (λk=>decide (k≠(OR x:aF)))=iI C:=λx=>QP.mpr λq f=>by
  simp only[iI,OM,Pl,or_false]at f;rcases f with rfl|rfl<;>exact decide_eq_true λz=>by cases z
 have set:∀(x:Str)(n:Int),Gs.mk (sN g.n x n) (g.ps++[v,w]) ((g.u++iI C).filter λk=>decide (k≠.inr x)) rest (g.left-1)=Gs.mo ⟨sN g.n x n,g.ps,g.u.filter λk=>decide (k≠.inr x),rest,g.left-1⟩ C v w:=λx n=>by
  show _=Gs.mk _ _ _ _ _;rw[PZ,p]
 cases r with
 |pick=>exact B.elim
 |take x i=>
  have G:=h.2.2;have F:=h.2.1;have e:num ((g.mo C v w).cf C.mo) (g.mo C v w).n (.take x i)=num (g.cf C) g.n (.take x i):=by
   show ((g.ps++[v,w])[i.toNat]?).getD 0=(g.ps[i.toNat]?).getD 0;rw[PL (by rw[ok.lp];lia)]
  show Gs.mk (sN g.n x<|num ((g.mo C v w).cf C.mo) (g.mo C v w).n<|.take x i) (g.ps++[v,w]) ((g.u++iI C).filter λk=>decide (k≠.inr x)) rest (g.left-1)=_;rw[e];exact set x _
 |put x k=>exact set x _
 |two w' x y z=>exact set x _
 |ifr x a b=>rfl
 |again x a=>rfl
theorem LY(f:Lc r)(e:eF rest):eF (jB C g rest r).td:=by
 cases r with
 |ifr x a b=>
  show eF ((if nm g.n x=0 then b else a)++rest)
  simp only[Lc]at f
  split
  .exact io f.2 e
  .exact io f.1 e
 |again x a=>
  show eF (if nm g.n x=0 then rest else a++(.again x a::rest))
  split
  .exact e
  .exact io (by simpa only[Lc] using f) ⟨f,e⟩
 |_=>exact e
theorem Gn(o:C.Ok):∀(f:Nat)(g:Gs),GOk C g->eF g.td->bA C.mo f (g.mo C v w)=((bA C f g).1,(bA C f g).2.mo C v w)/\eF (bA C f g).2.td
 |0,g,ok,np=>⟨rfl,np⟩
 |f+1,g,ok,np=>by
  have h:(g.mo C v w).td=g.td:=rfl;have B:(g.mo C v w).left=g.left:=rfl;unfold bA;rw[h,B];cases e:g.td with
  |nil=>
   refine⟨?_,by rw[e];trivial⟩
   show (if (OR C.mn:aF)∈(g.mo C v w).u then ap (OR C.mn) else cm,g.mo C v w)=(if (OR C.mn:aF)∈g.u then ap (OR C.mn) else cm,g.mo C v w)
   simp only[AO]
  |cons r rest=>
   have p:cu C.names C.w C.many r:=by
    have:=ok.td;rw[e]at this;exact this.1
   rw[e]at np;dsimp only
   by_cases c:g.left<=0
   .rw[if_pos c,if_pos c]
    exact⟨rfl,by rw[e];exact np⟩
   .rw[if_neg c,if_neg c,JZ p np.1]
    cases a:dE C g r with
    |some k=>exact⟨rfl,by dsimp only;rw[e];exact np⟩
    |none=>
     dsimp only;rw[Nb ok p np.1];exact Gn o f _ (pZ o ok e) (LY np.1 np.2)
theorem AL{x:Int}(ok:GOk C g)(p:q∈cS C):cg (g.mo C v w) q x=(cg g q x).mo C v w:=by
 have f:(iI C).filter (λk=>decide (k≠q))=iI C:=QP.mpr λk B=>decide_eq_true λz=>LL p (z▸B);cases q with
 |inr y=>
  show Gs.mk (sN g.n y x) (g.ps++[v,w]) ((g.u++iI C).filter λk=>decide (k≠.inr y)) g.td g.left=Gs.mk (sN g.n y x) (g.ps++[v,w]) ((g.u.filter λk=>decide (k≠.inr y))++iI C) g.td g.left;rw[PZ,f]
 |inl j=>
  obtain⟨i,F,e⟩:∃i:Nat,i<C.many/\j=(i:Int):=by
   rcases dY p with⟨y,G,e⟩|⟨i,h,e⟩
   .cases e
   .exact⟨i,h,Q9 e⟩
  subst e;show Gs.mk g.n ((g.ps++[v,w]).set ((i:Nat):Int).toNat x) ((g.u++iI C).filter λk=>decide (k≠.inl (i:Int))) g.td g.left=Gs.mk g.n (g.ps.set ((i:Nat):Int).toNat x++[v,w]) ((g.u.filter λk=>decide (k≠.inl (i:Int)))++iI C) g.td g.left;rw[PZ,f,List.set_append_left _ _ (by rw[OF,ok.lp];exact F)]
theorem xK(o:C.Ok)(I:SOk C s)(J:SOk C t):∀(f:Nat)(g:Gs),GOk C g->eF g.td->(∀x∈g.u,x∈cS C)->bV C.mo (s.mo v w) (t.mo v' w') f (g.mo C v w)=bV C s t f g
 |0,g,ok,np,hu=>rfl
 |f+1,g,ok,np,hu=>by
  have p:=kd o (C.most+1) g ok;obtain⟨⟨_,h⟩,_,hask⟩:=i6 (C:=C) (C.most+1) g;obtain⟨R,G⟩:=Gn (v:=v) (w:=w) o (C.most+1) g ok np;unfold bV;have S:C.mo.most=C.most:=rfl;rw[S,R];generalize bA C (C.most+1) g=go at *;obtain⟨a,F⟩:=go;dsimp only at *;cases a with
  |none=>rfl
  |some q=>
   have e:=hu q (h q<|hask q rfl);dsimp only;rw[rB I e,rB J e,AL p e,AL p e];have B:∀y:Sta,SOk C y->bV C.mo (s.mo v w) (t.mo v' w') f ((cg F q<|aL C y q).mo C v w)=bV C s t f (cg F q<|aL C y q):=λy P=>by
    refine xK o I J f _ (kM p<|ci o P e) ?_ λx O=>?_
    .have H:(cg F q<|aL C y q).td=F.td:=by cases q<;>rfl
     rw[H];exact G
    .rw[dH]at O;exact hu x (h x (Ox.mp O).1)
   rw[B s I,B t J]
theorem wO(o:C.Ok)(f:SOk C s)(h:SOk C t)(F:eF C.rows)(p:v≠v')(B:w≠w'):C.mo.tree (s.mo v w) (t.mo v' w')=C.tree s t:=by
 have e:g0 C.mo (s.mo v w) (t.mo v' w')=(g0 C s t).mo C v w:=by
  show Gs.mk _ _ _ _ _=Gs.mk _ _ _ _ _;rw[qG f h p B];rfl
 show bV C.mo (s.mo v w) (t.mo v' w') 24 (g0 C.mo (s.mo v w)<|t.mo v' w')=bV C s t 24 (g0 C s t);rw[e];exact xK o f h 24 _ (A_ o f) F kj
theorem vf{us X:List aF}{a b:Int}:∀(t:Tr)(u:List aF)(S F:Nat),TrN t u->(∀q∈u,q∈us)->cY a b (us++X) t S F=cY a b us t S F
 |.e m,u,S,F,_,_=>rfl
 |.a q x y,u,S,F,h,hs=>by
  have p:bitK (us++X) q=bitK us q:=by
   unfold bitK;rw[List.idxOf_append,if_pos (hs q h.1)]
  have f:∀k∈u.filter (λk=>decide (k≠q)),k∈us:=λk B=>hs k (Ox.mp B).1;unfold cY;rw[p,vf x _ _ _ h.2.1 f,vf y _ _ _ h.2.2 f]
end
def flt(rs:List Rw):List Rw:=rs.filter bi
def Am(d:D):Bool:=match d with
 |.tup (.str w::_)=>!(decide (w=("if":Str))||decide (w=("again":Str)))
 |_=>true
theorem J4{r:Rw}(h:cu names m many r):Am r.d=bi r:=by
 have e:∀w rest,Am (.tup (.str w::rest))=!(decide (w=("if":Str))||decide (w=("again":Str))):=λ_ _=>rfl
 cases r with
 |two w x y z=>
  simp only[Rw.d,e,bi];rcases h.1 with rfl|rfl|rfl|rfl<;>decide +kernel
 |_=>simp only[Rw.d,e,bi];decide +kernel
theorem xo{names:W8}{m many:Int}:∀{rs:List Rw},bc names m many rs->(aw rs).filter Am=aw (flt rs)
 |[],_=>rfl
 |r::rs,h=>by
  have e:=xo h.2;unfold flt at e ⊢;rw[aw,Pb,Pb,J4 h.1,e]
  split<;>rfl
theorem w8{names:W8}{m many:Int}:∀{rs:List Rw},bc names m many rs->bc names m many (flt rs)
 |[],_=>trivial
 |r::rs,h=>by
  have e:=w8 h.2;unfold flt at e ⊢;rw[Pb]
  split
  .exact⟨h.1,e⟩
  .exact e
theorem ph{r:Rw}(h:cu names m many r):∃(w:Str)(rest:List D),r.d=.tup (.str w::.str (d_ r)::rest):=by
 cases r<;>exact⟨_,_,rfl⟩
theorem tQ{d:D}(h:d∈aw rs):∃r∈rs,d=r.d:=by
 rw[gE]at h;obtain⟨r,e,rfl⟩:=Pa.mp h;exact⟨r,e,rfl⟩
theorem ia{names:W8}{m many:Int}:∀{rs:List Rw}{r:Rw},bc names m many rs->r∈rs->cu names m many r
 |r::rs,q,h,hq=>by
  rcases OM.mp hq with rfl|hq
  .exact h.1
  .exact ia h.2 hq
section
variable{k:Pt}
theorem nS(J:rs.length<=1000)(ok:bc names m many rs)(h:Q (.tup<|aw<|flt rs) M):uC ad [.tup (aw rs)] M Q E:=by
 rw[MN];unfold yc;simp only[az,bu,aa,af,ao,aZ,bG,ac,dt,aI,bE,bt,OV,OO,OP,Ou];refine de Am id aS (by rw[bQ];lia) (λx G K q=>?_) (λx G _ K q=>q) ?_
 .obtain⟨r,I,rfl⟩:=tQ G
  obtain⟨w,rest,e⟩:=ph (ia ok I);have H:Am r.d=!(decide (w=("if":Str))||decide (w=("again":Str))):=by rw[e];rfl
  rw[H]at q;rw[e];simp![atI_0];refine⟨bf (by decide),λp B=>?_⟩
  rw[Mem.upd_del,aC B];rcases Decidable.em (w=("if":Str)) with c1|c1
  .subst c1
   simpa [aP] using q
  .rcases Decidable.em (w=("again":Str)) with c2|c2
   .subst c2
    simpa [aP] using q
   .have f:¬("if":Str)=w:=λz=>c1 z.symm
    have F:¬("again":Str)=w:=λz=>c2 z.symm;simpa [aP,c1,c2,f,F] using q
 intro p B;rw[Qe,xo ok];refine cA B ?_;exact am h
theorem eZ(f:Has k M)(G:2<=m)(B:m<=997)(F:0<=v/\v<m)(h:∀w M',0<=w->w<m->w≠v->Dr k M M'->Q (.int w) M'):md ad [.ref k.p,.int m,.int v] M Q E:=by
 rw[NP];unfold wS;simp![];refine aN f (by lia) (by lia) λr M' a b d=>?_
 simp![];refine⟨by lia,am<|h _ _ (Py _<|by lia) (PQ _<|by lia) ?_ d⟩
 intro z
 by_cases c:v+1+r<m
 .rw[Int.emod_eq_of_lt (by lia) c]at z;lia
 .have e:(v+1+r) % m=v+1+r-m:=by
   rw[<- Int.sub_emod_right,Int.emod_eq_of_lt (by lia) (by lia)]
  rw[e]at z;lia
end
def Hf(C:Cse)(s t:Sta):D:=if (C.run s).1=true/\(C.run t).1=true then .tup [.int (nm (C.run s).2.nums C.mn),.int (nm (C.run t).2.nums C.mn)] else .non
theorem ot:∀(n:Nat)(f:Str->Int)(xs:W8),bq n (xs.map λx=>D.int (f x))=true
 |n,f,[]=>by cases n<;>rfl
 |n,f,x::xs=>by
  have:=ot n f xs;cases n<;>simp[bq,bj,this]
theorem Ga{r:Bool×Sx}:bj 60 (eI names r)=true:=by
 unfold eI
 split
 .have:=ot 59 (λx=>nm r.2.nums x) names
  simp[bj,this]
 .rfl
theorem E_{r:Bool×Sx}:aP (eI names r) .non=!r.1:=by
 unfold eI;cases r.1<;>rfl
theorem Br{r:Bool×Sx}(f:r.1=true)(e:names[j]?=ap mk):∃xs,eI names r=.tup xs/\atI xs (j:Int)=ap (.int<|nm r.2.nums mk):=by
 refine⟨names.map λx=>.int (nm r.2.nums x),by unfold eI;rw[if_pos f],?_⟩
 rw[bo (by lia),OF,OJ,e];rfl
section
variable{t:Sta}
theorem Np(o:C.Ok)(e:SOk C z)(h:K (eI C.names<|C.run z) M):
  ah au (oR<|aj (mC ad) EE 3<|aa (ac 1)<|aa (ac 0)<|aa (ac 2) af) (dC<|.int 1) [ap z.d,ap C.d,ap (.int (C.most:Nat))] M K:=by
 rw[e.pd];simp only[ah,oR,aj,aa,ac,af,dC,Oo,dt];refine⟨rfl,ub (o.pl e) ?_⟩;unfold zQ;simp only[au,aI,atI_1,Oo,dt];exact h
theorem g8(o:C.Ok)(Z:SOk C s)(ht:SOk C t)(h:Q (Hf C s t) M):nM ad [C.d,s.d,t.d,.int (C.most:Nat)] M Q E:=by
 have I:=@Ay C;rw[O0];unfold yn;generalize G:kb ad (aG E)=K3;generalize f:(ah au (oR<|aj (mC ad) ii 3<|aa (ac 1)<|aa (ac 0)<|aa (ac 2) af)<|dC<|.int 1)=te;have J:∀{z:Sta}{K:DK},SOk C z->K (eI C.names<|C.run z) M->te [ap z.d,ap C.d,ap (.int (C.most:Nat))] M K:=λ{z K} Y q=>by
  rw[<- f];exact Np o Y q
 simp only[ai,cz,dP,aZ,bG,ao,bO,aa,ac,af,dt,Oo,bt,Ou,OV,OO,OP];refine⟨bf (by simp),λp H=>cA H ?_⟩
 simp only[aI,bE];unfold cq;refine⟨aS,?_⟩;simp only[ag,OH,dG,if_true,PK];refine J Z ⟨jr (by simp),?_⟩
 unfold cq;refine⟨aS,?_⟩;simp only[ag,OH,dG,if_true];refine J ht ⟨jr (by simp),?_⟩
 unfold cq;refine⟨aS,λp H=>?_⟩;simp only[OP,OO,OH,dt,Oo,fA,Mem.upd_same,Mem.upd_del,aC H];rw[<- G];unfold kb;generalize B:kA ad (aG E)=K2;unfold Hf at h;have O:bq 60 [eI C.names (C.run s),eI C.names (C.run t)]=true:=by simp[bq,Ga]
 simp only[ai,aH,ak,ah,dC,ac,dt,Oo,C5,qZ,aI,dv,O,(show bj 60 D.non=true from rfl),and_self,if_true,Qi,List.any_nil,E_,QT]
 by_cases c:(C.run s).1=true/\(C.run t).1=true
 .rw[if_pos c]at h
  simp only[c.1,c.2,PV,Bool.or_self,OI,if_false,aE];rw[<- B];unfold kA;generalize F:kR ad (aG E)=K1;obtain⟨j,W,e⟩:=pB o.mn;obtain⟨xs,R,S⟩:=Br c.1 e;obtain⟨ys,X,P⟩:=Br c.2 e;rw[I];simp![atI_1,atI_4,fh,W];rw[<- F];unfold kR;simp![atI_0,atI_1,R,X,S,P];exact⟨OQ o.l1 (by decide),bf (by simp),am h⟩
 .rw[if_neg c]at h
  have:(!(C.run s).1||!(C.run t).1)=true:=by
   cases h1:(C.run s).1<;>cases h2:(C.run t).1<;>simp_all
  simp only[this,if_true,az,dC];exact am h
theorem qL(h:Q (Hf C s t) M):frz (Hf C s t) M Q:=by
 unfold Hf at h ⊢
 split at h
 .rename_i c;rw[if_pos c];exact h
 .rename_i c;rw[if_neg c];exact h
end
section
variable{cf:Cf}
theorem Ed{n:cy}{r:Rw}:ig cf n (rs++rest) r=((ig cf n rs r).1,(ig cf n rs r).2++rest):=by
 cases r with
 |ifr x a b=>simp only[ig,List.append_assoc]
 |again x a=>
  simp only[ig]
  split<;>simp
 |_=>rfl
theorem k8:∀(k:Nat)(n:cy)(rs:List Rw)(f:cy),fin cf k n rs=ap f->∀(e:Nat)(rest:List Rw),∃j,e<=j/\fin cf (k+e) n (rs++rest)=fin cf j f rest
 |k,n,[],f,h,e,rest=>by
  rw[dh]at h;cases h;exact⟨k+e,by lia,rfl⟩
 |0,n,r::rs,f,h,e,rest=>by cases h
 |k+1,n,r::rs,f,h,e,rest=>by
  have F:fin cf k (ig cf n rs r).1 (ig cf n rs r).2=ap f:=h;obtain⟨j,p,B⟩:=k8 k _ _ _ F e rest;refine⟨j,p,?_⟩;have:k+1+e=(k+e)+1:=by lia
  rw[this,OO];show fin cf (k+e) (ig cf n (rs++rest) r).1 (ig cf n (rs++rest) r).2=_;rw[Ed];exact B
theorem II{k1 k2:Nat}{n:cy}{r:Rw}:ig ⟨m,ps,k1⟩ n rest r=ig ⟨m,ps,k2⟩ n rest r:=by cases r<;>rfl
theorem Dc{m:Int}{ps:W7}{k1 k2:Nat}:∀(k:Nat)(n:cy)(rs:List Rw),fin ⟨m,ps,k1⟩ k n rs=fin ⟨m,ps,k2⟩ k n rs
 |k,n,[]=>by rw[dh,dh]
 |0,n,r::rs=>rfl
 |k+1,n,r::rs=>by
  show fin _ k (ig ⟨m,ps,k1⟩ n rs r).1 (ig ⟨m,ps,k1⟩ n rs r).2=fin _ k (ig ⟨m,ps,k2⟩ n rs r).1 (ig ⟨m,ps,k2⟩ n rs r).2;rw[II (k1:=k1) (k2:=k2)];exact Dc k _ _
def fz(cf:Cf)(n:cy)(rs:List Rw):cy:=rs.foldl (λn r=>sN n (d_ r) (num cf n r)) n
theorem lC:∀(rs:List Rw)(k:Nat)(n:cy),(∀r∈rs,bi r=true)->rs.length<=k->fin cf k n rs=ap (fz cf n rs)
 |[],k,n,_,_=>dh
 |r::rs,0,n,_,h=>by simp at h
 |r::rs,k+1,n,hs,h=>by
  have e:=hs r OL;have f:ig cf n rs r=(sN n (d_ r) (num cf n r),rs):=by
   cases r with
   |ifr=>cases e
   |again=>cases e
   |_=>rfl
  show fin cf k (ig cf n rs r).1 (ig cf n rs r).2=_;rw[f];exact lC rs k _ (λq p=>hs q (OE _ p)) (by simpa using h)
theorem DR{n:cy}:∀(rs:List Rw),(fz cf n rs).map (·.1)=n.map (·.1):=by
 intro rs
 induction rs generalizing n with
 |nil=>rfl
 |cons r rs ih=>
  show (fz cf (sN n (d_ r)<|num cf n r) rs).map (·.1)=_;rw[ih,i9]
theorem Gc{y:Str}:∀(rs:List Rw)(n:cy),(∀r∈rs,d_ r∈n.map (·.1))->(∀r∈rs,d_ r≠y)->nm (fz cf n rs) y=nm n y
 |[],n,_,_=>rfl
 |r::rs,n,hk,hn=>by
  show nm (fz cf (sN n (d_ r)<|num cf n r) rs) y=_;rw[Gc rs _ (λq e=>by rw[i9];exact hk q (OE _ e)) (λq e=>hn q (OE _ e)),gU (hk r OL),if_neg λz=>hn r OL z.symm]
end
theorem BQ{p q:Int}(G:0<=p/\p<m)(H:0<=q/\q<m)(h:p≠q):(a+p) % m≠(a+q) % m:=by
 intro z;have e:(a+p-(a+q)) % m=0:=Int.emod_eq_emod_iff_emod_sub_eq_zero.mp z;have F:a+p-(a+q)=p-q:=by lia
 rw[F]at e;have f:=Int.dvd_of_emod_eq_zero e;obtain⟨c,B⟩:=f;have:c=0:=by
  rcases Int.lt_trichotomy c 0 with g|g|g
  .have:=Ti (show c<=-1 by lia) (show (0:Int)<=m by lia)
   rw[Int.mul_neg,Th]at this;lia
  .exact g
  .have:=Ti (show 1<=c by lia) (show (0:Int)<=m by lia)
   rw[Th]at this;lia
 subst this;rw[Int.mul_zero]at B;lia
def Cse.rw(C:Cse)(rs:List Rw):Cse:={ C with rows:=rs }
def Cse.two(C:Cse)(s t:Sta):Prop:=∃a b,C.mark s=.int a/\C.mark t=.int b/\a≠b
section
variable{t:Sta}{more:List Rw}{n:cy}
theorem yH(o:C.Ok)(e:SOk C z):NOk C.names C.w (C.run z).2.nums:=c_ (o.pl e).co C.rows (o.pl e).ok [] 0 ⟨C.names.zip z.nums,[]⟩ (o.pl e).nok
theorem wY(h:(C.run z).1=true):fin (C.cf z) C.most (C.names.zip z.nums) C.rows=ap (C.run z).2.nums:=by
 have e:=hZ (cf:=C.cf z) C.rows [] 0 ⟨C.names.zip z.nums,[]⟩ [];rw[Pm]at e;have f:fin (C.cf z) C.most (C.names.zip z.nums) C.rows=wl (C.cf z) (C.run z) []:=e;rw[f];unfold wl;rw[if_pos h,dh]
theorem k7{n:cy}(h:fin (C.cf z) C.most (C.names.zip z.nums) C.rows=ap n):(C.run z).1=true/\(C.run z).2.nums=n:=by
 have e:=hZ (cf:=C.cf z) C.rows [] 0 ⟨C.names.zip z.nums,[]⟩ [];rw[Pm]at e;have f:fin (C.cf z) C.most (C.names.zip z.nums) C.rows=wl (C.cf z) (C.run z) []:=e;rw[f]at h;unfold wl at h
 split at h
 .rename_i c
  rw[dh]at h;cases h;exact⟨c,rfl⟩
 .cases h
theorem eQ{n:cy}(h:fin (C.cf z) C.most (C.names.zip z.nums) C.rows=ap n):C.mark z=.int (nm n C.mn):=by
 rw[sO,h];rfl
theorem nR(h:fin (C.cf z) (C.most-4) (C.names.zip z.nums) C.rows=ap n)(F:4<=C.most)(p:∀r∈more,bi r=true)(G:more.length<=4):(C.rw (C.rows++more)).mark z=.int (nm (fz (C.cf z) n more) C.mn):=by
 obtain⟨j,B,e⟩:=k8 _ _ _ _ h 4 more;have f:C.most-4+4=C.most:=by lia
 rw[f,lC more j n p (by lia)]at e
 exact eQ (C:=C.rw (C.rows++more)) e
end
def k4(y:Str)(rs:List Rw):List Rw:=rs.filter λr=>decide (d_ r≠y)
def DY(y:Str)(d:D):Bool:=match d with
 |.tup (_::.str x::_)=>decide (x≠y)
 |_=>true
theorem tI{names:W8}{m many:Int}{y:Str}:∀{rs:List Rw},bc names m many rs->(aw rs).filter (DY y)=aw (k4 y rs)
 |[],_=>rfl
 |r::rs,h=>by
  have f:=tI (y:=y) h.2;obtain⟨w,rest,e⟩:=ph h.1;have p:DY y r.d=decide (d_ r≠y):=by rw[e];rfl
  unfold k4 at f ⊢;rw[aw,Pb,Pb,p,f]
  split<;>rfl
theorem wK{names:W8}{m many:Int}{p:Rw->Bool}:∀{rs:List Rw},bc names m many rs->bc names m many (rs.filter p)
 |[],_=>trivial
 |r::rs,h=>by
  have e:=wK (p:=p) h.2;rw[Pb]
  split
  .exact⟨h.1,e⟩
  .exact e
theorem zg:∀{rs:List Rw},bc names m many rs->(∀r∈rs,bi r=true)->∀r∈rs,cw names m many r:=λh f r e=>gq (ia h e) (f r e)
theorem fH:∀{rs:List Rw},(∀r∈rs,bi r=true)->cQ rs=0
 |[],_=>rfl
 |r::rs,h=>by
  have e:=h r OL;have f:=fH λq p=>h q (OE _ p);cases r with
  |ifr=>exact absurd e OS
  |again=>exact absurd e OS
  |_=>simp[cQ,hR,f]
theorem rg:∀r∈flt rs,bi r=true:=λr e=>(Ox.mp e).2
theorem gw:∀r∈k4 y (flt rs),bi r=true:=λr e=>rg r (Ox.mp e).1
theorem AQ{a b c d e:D}:jV [a,b,c,d,e] cm (ap 3)=[a,b,c]:=rfl
section
variable{t:Sta}
theorem Cse.Ok.rw(o:C.Ok)(f:bc C.names C.w C.many rs)(e:cQ rs<=7):(C.rw rs).Ok:=⟨o.m2,o.m1,o.few,o.most,o.nd,o.l0,o.l1,f,e,o.mn⟩
theorem SOk.rw(k:SOk C s):SOk (C.rw rs) s:=⟨k.ln,k.lp,k.rn,k.rp⟩
theorem mR(o:C.Ok)(f:∀r∈rs,bi r=true)(e:rs.length<=C.most):fin ((C.rw rs).cf z) (C.rw rs).most (C.names.zip z.nums) (C.rw rs).rows=ap (fz (C.cf z) (C.names.zip z.nums) rs):=lC (cf:=C.cf z) rs C.most _ f e
theorem zL(o:C.Ok)(f:∀r∈rs,bi r=true)(e:rs.length<=C.most):(C.rw rs).mark z=.int (nm (fz (C.cf z) (C.names.zip z.nums) rs) C.mn):=eQ (C:=C.rw rs) (mR o f e)
theorem CH{n e:cy}(G:fin (C.cf s) C.most (C.names.zip s.nums) C.rows=ap n)(F:fin (C.cf t) C.most (C.names.zip t.nums) C.rows=ap e):Hf C s t=.tup [.int (nm n C.mn),.int (nm e C.mn)]:=by
 obtain⟨B,f⟩:=k7 G;obtain⟨h,p⟩:=k7 F;unfold Hf;rw[if_pos ⟨B,h⟩,f,p]
theorem ne_e{w:D}{rest:List D}{K:Bool->Mem->Prop}(q:K (!decide (x=y)) M):ak (ah jy (ah au (ac 0)<|dC<|.int 1)<|ac 1) [ap (.tup (w::.str x::rest)),ap (.str y)] M K:=by
 simp only[ak,ah,ac,dC,au,jy,dv,bj,aP,aI,atI_1,dt,Oo];exact⟨trivial,trivial,q⟩
theorem t6(o:C.Ok)(hs:SOk C s)(ht:SOk C t)(hy:y∈C.names)(hn:aL C s (.inr y)≠aL C t (.inr y))(hrl:C.rows.length<=1000)(hl:(flt C.rows).length+1<=C.most)(h:∀rs,(C.rw rs).Ok->(C.rw rs).two s t->(∀r∈rs,bi r=true)->rs.length<=(flt C.rows).length+1->Q (C.rw rs).d M):xQ ad [C.d,s.d,t.d,.int (C.most:Nat),.str y] M Q E:=by
 have hcd:=@Ay C;have H:∀rs,(C.rw rs).d=.tup [.int C.w,.tup (C.names.map D.str),.int (C.many:Nat),.tup (aw rs),.str C.mn]:=λ_=>rfl;have B:=w8 o.ok;have G:bc C.names C.w C.many (k4 y<|flt C.rows):=wK B;have ln:(k4 y<|flt C.rows).length<=(flt C.rows).length:=Ph _ _;have lf:(flt C.rows).length<=C.rows.length:=Ph _ _;have o1:=o.rw G (by rw[fH gw];decide)
 have f1:=mR (z:=s) o gw (show (k4 y<|flt C.rows).length<=C.most by lia)
 have f2:=mR (z:=t) o gw (show (k4 y<|flt C.rows).length<=C.most by lia)
 have em:=CH (C:=C.rw (k4 y<|flt C.rows)) f1 f2;have rk:∀(z:Sta),SOk C z->∀r∈k4 y (flt C.rows),d_ r∈(C.names.zip z.nums).map (·.1):=λz I r F=>by
  rw[fN I.ln.symm];exact uO (zg G gw r F)
 have ny:∀(z:Sta),SOk C z->nm (fz (C.cf z) (C.names.zip z.nums)<|k4 y<|flt C.rows) y=aL C z (.inr y):=λz I=>Gc _ _ (rk z I) λr F=>of_decide_eq_true (Ox.mp F).2;rw[MQ];unfold ww;generalize X:lg ad (aG E)=K5;rw[hcd];simp only[ai,ar,bu,aa,af,ao,aZ,bG,aj,ah,ac,dC,au,aI,atI_3,dt,Oo,bt,OV,Ou,OO,OP];refine⟨rfl,aO (λ_ _ q=>nS hrl o.ok q) ?_⟩;simp only[frz,bE,aI,PK];refine de (DY y) id aS (by rw[bQ];lia) (λx hx K q=>?_) (λx hx _ K q=>q) ?_
 .obtain⟨r,F,rfl⟩:=tQ hx
  obtain⟨w,rest,e⟩:=ph (ia B F);have e2:DY y r.d=decide (d_ r≠y):=by rw[e];rfl
  rw[e2]at q;rw[e];exact ne_e (by simpa [aP] using q)
 intro p hp;rw[Qe,tI B];simp only[Mem.upd_same,Mem.upd_del,aC hp,cD,aI,ag,OH];rw[<- X];unfold lg;generalize P:kN ad (aG E)=K4;simp![AQ,atI_4];refine⟨bf (by decide),bf (by decide),?_⟩
 rw[<- P];unfold kN;generalize hK3:kS ad (aG E)=K3;simp only[ai,ar,ao,aj,aa,ac,af,dt,Oo];rw[<- H];refine⟨rfl,aO (λ_ _ q=>g8 (C:=C.rw (k4 y<|flt C.rows)) o1 hs.rw ht.rw q)<|qL ?_⟩;rw[em];simp only[ag,OH];rw[<- hK3];unfold kS;generalize O:kO ad (aG E)=K2;simp![atI_0,atI_1];generalize S:fz (C.cf s) (C.names.zip s.nums) (k4 y<|flt C.rows)=ns at *;generalize R:fz (C.cf t) (C.names.zip t.nums) (k4 y<|flt C.rows)=nt' at *;have W:(C.rw<|k4 y<|flt C.rows).mn=C.mn:=rfl;rw[W]
 by_cases c:nm ns C.mn=nm nt' C.mn
 .simp only[if_pos c]
  rw[<- O];unfold kO;generalize Z:kH ad (aG E)=K1;rw[H];simp![atI_4];refine⟨bf (by decide),?_⟩
  rw[<- Z];unfold kH;simp![AQ,atI_4,bQ];refine⟨bf (by decide),bf (by lia),bf (by decide),bf (by decide),am ?_⟩
  have er:aw (k4 y<|flt C.rows)++[D.tup [.str "sum",.str C.mn,.str C.mn,.str y]]=aw (k4 y (flt C.rows)++[.two "sum" C.mn C.mn y]):=by
   rw[bN];rfl
  rw[er,<- H];have f:∀r∈k4 y (flt C.rows)++[.two "sum" C.mn C.mn y],bi r=true:=λr F=>by
   rcases Pc.mp F with h|h
   .exact gw r h
   .simp only[UW]at h;subst h;rfl
  have Y:bc C.names C.w C.many (k4 y (flt C.rows)++[.two "sum" C.mn C.mn y]):=OkRs_append.mpr ⟨G,⟨⟨.inl rfl,o.mn,o.mn,hy⟩,trivial⟩⟩;refine h _ (o.rw Y<|by rw[fH f];decide) ?_ f (by rw[OG,PY];lia)
  have g:∀(z:Sta),SOk C z->(C.rw (k4 y (flt C.rows)++[.two "sum" C.mn C.mn y])).mark z=.int ((nm (fz (C.cf z) (C.names.zip z.nums)<|k4 y<|flt C.rows) C.mn+aL C z (.inr y)) % C.w):=λz I=>by
   refine (zL o f<|by rw[OG,PY];lia).trans ?_
   have e:fz (C.cf z) (C.names.zip z.nums) (k4 y (flt C.rows)++[.two "sum" C.mn C.mn y])=sN (fz (C.cf z) (C.names.zip z.nums)<|k4 y<|flt C.rows) C.mn (num (C.cf z) (fz (C.cf z) (C.names.zip z.nums)<|k4 y<|flt C.rows)<|.two "sum" C.mn C.mn y):=by
    unfold fz;rw[List.foldl_append];rfl
   have ek:C.mn∈(fz (C.cf z) (C.names.zip z.nums)<|k4 y<|flt C.rows).map (·.1):=by rw[DR,fN I.ln.symm];exact o.mn
   rw[e];rw[gU ek,if_pos rfl];show D.int (yr "sum" _ _ _)=_;unfold yr;rw[if_pos rfl,ny z I];rfl
  refine⟨_,_,g s hs,g t ht,?_⟩;rw[S,R,c];have J:(OR y:aF)∈cS C:=Pc.mpr (.inl<|Pa.mpr ⟨y,hy,rfl⟩);exact BQ (ci o hs J) (ci o ht J) hn
 .simp only[if_neg c]
  refine am (h _ o1 ⟨_,_,?_,?_,c⟩ gw<|by lia)
  .exact eQ f1
  .exact eQ f2
end
theorem oB:∀(n:Nat)(xs:W8),bq n (xs.map D.str)=true
 |n,[]=>by cases n<;>rfl
 |n,x::xs=>by
  have:=oB n xs;cases n<;>simp[bq,bj,this]
section
variable{t:Sta}
theorem ne_m{B h f p:D}{e:Str}{K:Bool->Mem->Prop}(q:K (!decide (x=e)) M):ak (ah jy (ac 0)<|ah au (ac 1)<|dC<|.int 4) [ap (.str x),ap (.tup [B,h,f,p,.str e])] M K:=by
 simp only[ak,ah,ac,dC,au,jy,dv,bj,aP,aI,atI_4,dt,Oo];exact⟨trivial,trivial,q⟩
theorem HC{δ0 e:Option D}{xs:W8}{b:Bool}{K:Bool->Mem->Prop}(F:b=!xs.isEmpty)(q:K b M):ak (ah jy (ac 2)<|ao<|bO af) [δ0,e,ap (.lst<|xs.map D.str)] M K:=by
 simp only[ak,ah,ac,ao,bO,af,dt,Oo];refine⟨bf (by simp),λp f=>cA f ?_⟩
 have B:=oB 59 xs;have h:bq 59 ([]:List D)=true:=rfl;simp only[jy,dv,bj,B,h];refine⟨trivial,trivial,?_⟩;rw[F]at q;cases xs with
 |nil=>exact q
 |cons x xs=>exact q
theorem vF{h f:Str}:∀r∈[Rw.take f 0,.two "sum" h h f],bi r=true:=by
 intro r e;simp only[OM,Pl,or_false]at e;rcases e with rfl|rfl<;>rfl
theorem qH(o:C.Ok)(hs:SOk C s)(ht:SOk C t)(h0:0<C.many)(hn:aL C s (.inl 0)≠aL C t (.inl 0))(hrl:C.rows.length<=1000)(h4:4<=C.most)(f1:fin (C.cf s) (C.most-4) (C.names.zip s.nums) C.rows=ap n1)(f2:fin (C.cf t) (C.most-4) (C.names.zip t.nums) C.rows=ap n2)(k1:n1.map (·.1)=C.names)(k2:n2.map (·.1)=C.names)(he:nm n1 C.mn=nm n2 C.mn)(h:∀more,(C.rw (C.rows++more)).Ok->(C.rw (C.rows++more)).two s t->(∀r∈more,bi r=true)->more.length<=2->Q (C.rw (C.rows++more)).d M):G4 ad [C.d] M Q E:=by
 have X:=@Ay C;have I:∀rs,(C.rw rs).d=.tup [.int C.w,.tup (C.names.map D.str),.int (C.many:Nat),.tup (aw rs),.str C.mn]:=λ_=>rfl;have l1:=o.l1;have H:(Qb 0:aF)∈cS C:=Pc.mpr (.inr<|Pa.mpr ⟨0,P2.mpr h0,rfl⟩);have Z:∀more:List Rw,(∀r∈more,bi r=true)->bc C.names C.w C.many more->(C.rw (C.rows++more)).Ok:=λmore e P=>o.rw (OkRs_append.mpr ⟨o.ok,P⟩) (by rw[dO,fH e];have:=o.h;lia)
 rw[u_q5];unfold Fa;generalize O:qg ad (aG E)=K4;rw[X];simp![atI_4];refine⟨bf (by decide),bf (by decide),?_⟩
 rw[<- O];unfold qg;generalize S:pb ad (aG E)=K3;simp only[ai,cz,dP,aZ,bG,ah,ac,dC,au,aI,atI_1,dt,Oo,bt,OV,Ou,OO,OP,bE,PK];refine de (λd=>match d with|.str x=>!decide (x=C.mn)|_=>true) id aS (by rw[Ot];lia) (λx G K q=>?_) (λx G _ K q=>q) ?_
 .obtain⟨y,hy,rfl⟩:=Pa.mp G
  exact ne_m q
 intro p hp;have ef:((C.names.map D.str).filter λd=>match d with|.str x=>!decide (x=C.mn)|_=>true)=(C.names.filter λx=>!decide (x=C.mn)).map D.str:=by
  rw[P5];rfl
 rw[Qe,ef];simp only[fA,OH,dt,Oo,Mem.upd_same,Mem.upd_del,aC hp];rw[<- S];unfold pb;generalize F:lU ad (aG E)=K2;generalize R:qt ad (aG E)=K1;cases hf:C.names.filter λx=>!decide (x=C.mn) with
 |nil=>
  unfold ai aH;refine HC (b:=eC) rfl ?_;rw[if_neg (by simp),<- F]
  unfold lU;simp![AQ,atI_3,atI_4,bQ];refine⟨bf (by lia),bf (by decide),bf (by decide),am ?_⟩
  have W:aw C.rows++[D.tup [.str "take",.str C.mn,.int 0]]=aw (C.rows++[.take C.mn 0]):=by rw[bN];rfl
  rw[W,<- I];have e:∀r∈[Rw.take C.mn 0],bi r=true:=λr Y=>by simp only[UW]at Y;subst Y;rfl
  have g:∀(z:Sta)(n:cy),fin (C.cf z) (C.most-4) (C.names.zip z.nums) C.rows=ap n->n.map (·.1)=C.names->(C.rw (C.rows++[.take C.mn 0])).mark z=.int (aL C z<|.inl 0):=λz n f k=>by
   refine (nR f h4 e<|by simp).trans ?_
   have:nm (fz (C.cf z) n [.take C.mn 0]) C.mn=aL C z (.inl 0):=by
    show nm (sN n C.mn _) C.mn=_;rw[gU (by rw[k];exact o.mn),if_pos rfl];rfl
   rw[this]
  exact h _ (Z _ e ⟨⟨o.mn,Q1 _,by lia⟩,trivial⟩) ⟨_,_,g s n1 f1 k1,g t n2 f2 k2,hn⟩ e (by simp)
 |cons x0 xs=>
  have G:x0∈C.names.filter λx=>!decide (x=C.mn):=by rw[hf];exact OL
  have B:=(Ox.mp G).1;have J:¬x0=C.mn:=by simpa using (Ox.mp G).2
  unfold ai aH;refine HC (b:=true) rfl ?_;rw[if_pos rfl,<- R];unfold qt;simp![atI_0,atI_4,Ou];refine⟨bf (by decide),bf (by decide),bf (by decide),?_⟩
  rw[<- F];unfold lU;simp![AQ,atI_3,atI_4,bQ];refine⟨bf (by lia),bf (by decide),bf (by decide),am ?_⟩
  have W:aw C.rows++[D.tup [.str "take",.str x0,.int 0],D.tup [.str "sum",.str C.mn,.str C.mn,.str x0]]=aw (C.rows++[.take x0 0,.two "sum" C.mn C.mn x0]):=by rw[bN];rfl
  rw[W,<- I];have g:∀(z:Sta)(n:cy),fin (C.cf z) (C.most-4) (C.names.zip z.nums) C.rows=ap n->n.map (·.1)=C.names->(C.rw (C.rows++[.take x0 0,.two "sum" C.mn C.mn x0])).mark z=.int ((nm n C.mn+aL C z (.inl 0)) % C.w):=λz n f k=>by
   refine (nR f h4 vF<|by simp).trans ?_
   have:nm (fz (C.cf z) n [.take x0 0,.two "sum" C.mn C.mn x0]) C.mn=(nm n C.mn+aL C z (.inl 0)) % C.w:=by
    show nm (sN (sN n x0<|aL C z<|.inl 0) C.mn<|yr "sum" (nm (sN n x0<|aL C z<|.inl 0) C.mn) (nm (sN n x0<|aL C z<|.inl 0) x0) C.w) C.mn=_;rw[gU (by rw[i9,k];exact o.mn),if_pos rfl,gU (by rw[k];exact B),gU (by rw[k];exact B),if_neg λz=>J z.symm,if_pos rfl]
    unfold yr;rw[if_pos rfl]
   rw[this]
  refine h _ (Z _ vF ⟨⟨B,Q1 _,by lia⟩,⟨.inl rfl,o.mn,o.mn,B⟩,trivial⟩) ⟨_,_,g s n1 f1 k1,g t n2 f2 k2,?_⟩ vF (by simp)
  rw[he];exact BQ (ci o hs H) (ci o ht H) hn
end
theorem rX{p:Rw->Bool}:∀(rs:List Rw),cRs (rs.filter p)<=cRs rs
 |[]=>Oz _
 |r::rs=>by
  have:=rX (p:=p) rs;rw[Pb]
  split
  .simp only[cRs];lia
  .simp only[cRs];lia
theorem pw:∀(rs:List Rw),rs.length<=cRs rs
 |[]=>Oz _
 |r::rs=>by
  have:=pw rs;have:1<=cR r:=by cases r<;>simp only[cR]<;>lia
  simp only[cRs,Oy];lia
theorem pX:∀{rs:List Rw},(∀r∈rs,bi r=true)->cRs rs=rs.length
 |[],_=>rfl
 |r::rs,h=>by
  have e:=h r OL;have f:=pX λq p=>h q (OE _ p);cases r with
  |ifr=>exact absurd e OS
  |again=>exact absurd e OS
  |_=>simp only[cRs,cR,f,Oy];lia
section
variable{t:Sta}{d0 d1 d2 d5 d6 d8 d9 d10:Option D}
def NF(C:Cse)(s t:Sta)(fi:Nat):Prop:=if fi<C.names.length then ∀y,C.names[fi]?=ap y->aL C s (.inr y)≠aL C t (.inr y) else aL C s (.inl 0)≠aL C t (.inl 0)
theorem Lf(o:C.Ok)(R:SOk C s)(P:SOk C t)(h0:0<C.many)(hc:cRs C.rows<=24)(Y:30<=C.most)(p:NF C s t fi)(O:M ln=ap (.lst<|t.nums.map D.int))(f1:fin (C.cf s) (C.most-4) (C.names.zip s.nums) C.rows=ap n1)(X:fin (C.cf t) (C.most-4) (C.names.zip t.nums) C.rows=ap n2)(k1:n1.map (·.1)=C.names)(k2:n2.map (·.1)=C.names)(Z:nm n1 C.mn=nm n2 C.mn)(h:∀rs,(C.rw rs).Ok->(C.rw rs).two s t->cRs rs<=26->∀e,D'.nx [d0,d1,d2,ap (C.rw rs).d,ap s.d,ap (.ref ln),d6,ap (.int (fi:Nat)),d8,d9,d10,ap t.d,ap (.int (C.most:Nat)),e] M):
  ∀e,iZ ad EE D' [d0,d1,d2,ap C.d,ap s.d,ap (.ref ln),d6,ap (.int (fi:Nat)),d8,d9,d10,ap t.d,ap (.int (C.most:Nat)),e] M:=by
 intro e;have f:=@Ay C;have lr:=pw C.rows;have lf:(flt C.rows).length<=C.rows.length:=Ph _ _;have fd:∀{rs:List Rw}{M:Mem}{Q:DK},Q (C.rw rs).d M->frz (C.rw rs).d M Q:=λq=>q;unfold iZ;have hl:t.nums.length=C.names.length:=P.ln;simp only[aH,ak,ah,ac,bu,aa,af,dt,Oo,bK,aI,O,Ot,uJ,j7];unfold NF at p
 by_cases c:fi<C.names.length
 .rw[if_pos c]at p
  rw[if_pos (by simp;lia)]
  obtain⟨y,J⟩:∃y,C.names[fi]?=ap y:=⟨_,Ov c⟩;have G:y∈C.names:=Rh J;have W:atI (C.names.map D.str) (fi:Int)=ap (.str y):=by rw[bo (by lia),OF,OJ,J];rfl
  unfold mJ;simp only[ar,ao,aj,aa,af,ac,ah,dC,dt,Oo,f,au,aI,atI_1,W];rw[<- f];refine⟨rfl,aq λQ' E' H _=>t6 o R P G (p y J) (by lia) (by lia) λrs B F I S=>H _ _ (fd ?_)⟩
  simp only[ag,OH];exact h rs B F (by rw[pX I];lia) _
 .rw[if_neg c]at p
  rw[if_neg (by simp;lia)]
  unfold mE;simp only[ar,ao,aj,aa,af,ac,dt,Oo];refine⟨rfl,aq λQ' E' H _=>qH o R P h0 p (by lia) (by lia) f1 X k1 k2 Z λmore B F I S=>H _ _ (fd ?_)⟩
  simp only[ag,OH];exact h _ B F (by rw[dA,pX I];lia) _
theorem D1(o:C.Ok)(I:SOk C s)(H:SOk C t)(Z:0<C.many)(Y:cRs C.rows<=24)(F:30<=C.most)(hf:NF C s t fi)(G:M ln=ap (.lst<|t.nums.map D.int))(f1:fin (C.cf s) (C.most-4) (C.names.zip s.nums) C.rows=ap n1)(J:fin (C.cf t) (C.most-4) (C.names.zip t.nums) C.rows=ap n2)(h:∀rs,(C.rw rs).Ok->(C.rw rs).two s t->cRs rs<=26->D'.rt (bF (C.rw rs) s t) M):
  iw ad EE D' [d0,d1,d2,ap C.d,ap s.d,ap (.ref ln),d6,ap (.int (fi:Nat)),d8,d9,d10,ap t.d,ap (.int (C.most:Nat)),cm] M:=by
 obtain⟨j1,_,B⟩:=k8 _ _ _ _ f1 4 [];obtain⟨j2,_,p⟩:=k8 _ _ _ _ J 4 [];have W:C.most-4+4=C.most:=by lia
 rw[W,Pm,dh]at B p;have S:=CH B p;have O:=k7 B;have X:=k7 p;have R:n1.map (·.1)=C.names:=by rw[<- O.2];exact(yH o I).keys
 have P:n2.map (·.1)=C.names:=by rw[<- X.2];exact(yH o H).keys
 have e:∀rs,(C.rw rs).Ok->(C.rw rs).two s t->cRs rs<=26->∀f,iX ad EE D' [d0,d1,d2,ap (C.rw rs).d,ap s.d,ap (.ref ln),d6,ap (.int (fi:Nat)),d8,d9,d10,ap t.d,ap (.int (C.most:Nat)),f] M:=λrs a b c f=>by
  unfold iX;simp only[az,aK,aa,ac,af,dt,Oo];exact⟨bf (by simp),h rs a b c⟩
 unfold iw;simp only[ai,ar,ao,aj,aa,af,ac,dt,Oo];refine⟨rfl,aO (λ_ _ q=>g8 o I H q)<|qL ?_⟩;rw[S];simp only[ag,OH];unfold mT;simp only[ai,aH,ak,ah,ac,dC,dt,Oo,au,aI,atI_0,atI_1,bX,dv,bj,aP];refine⟨trivial,trivial,?_⟩
 by_cases c:nm n1 C.mn=nm n2 C.mn
 .rw[if_pos (by simpa using c)]
  exact Lf o I H Z Y F hf G f1 J R P c e _
 .rw[if_neg (by simpa using c)]
  simp only[aE];exact e C.rows o ⟨_,_,eQ B,eQ p,c⟩ (by lia) _
theorem Ip(o:C.Ok)(p:SOk C s)(f:SOk C t)(S:0<C.many)(R:cRs C.rows<=24)(B:30<=C.most)(W:NF C s t fi)(F:M ln=ap (.lst<|t.nums.map D.int))(h:∀rs,(C.rw rs).Ok->(C.rw rs).two s t->cRs rs<=26->D'.rt (bF (C.rw rs) s t) M):
  iF ad EE D' [d0,d1,d2,ap C.d,ap s.d,ap (.ref ln),d6,ap (.int (fi:Nat)),d8,d9,d10,ap t.d,ap (.int (C.most:Nat)),cm] M:=by
 have H:=@Ay C;have lr:=pw C.rows;have lf:(flt C.rows).length<=C.rows.length:=Ph _ _;generalize e:({ C with most:=C.most-4 }:Cse)=C4;have o4:C4.Ok:=by subst e;exact⟨o.m2,o.m1,o.few,by show C.most-4<=_;have:=o.most;lia,o.nd,o.l0,o.l1,o.ok,o.h,o.mn⟩
 have Z:SOk C4 s:=by subst e;exact⟨p.ln,p.lp,p.rn,p.rp⟩
 have X:SOk C4 t:=by subst e;exact⟨f.ln,f.lp,f.rn,f.rp⟩
 have O:C4.d=C.d:=by subst e;rfl
 have em:((C.most:Nat):Int)-4=(C4.most:Nat):=by subst e;show _=((C.most-4:Nat):Int);lia
 have Y:∀z,fin (C4.cf z) C4.most (C4.names.zip z.nums) C4.rows=fin (C.cf z) (C.most-4) (C.names.zip z.nums) C.rows:=λz=>by
  subst e;exact Dc (k1:=C.most-4) (k2:=C.most) (C.most-4) _ _
 have G:=w8 o.ok;have of:=o.rw G (by rw[fH rg];decide)
 unfold iF;simp only[ai,aH,ak,ah,ao,aj,aa,af,ac,dC,dt,Oo,fF,j7,em];rw[<- O];refine⟨rfl,aO (λ_ _ q=>g8 o4 Z X q)<|qL ?_⟩;rw[O];unfold Hf
 by_cases c:(C4.run s).1=true/\(C4.run t).1=true
 .rw[if_pos c]
  have P:=wY c.1;have I:=wY c.2;rw[Y]at P I;simp only[ja,ie,OI,if_false,aE];exact D1 o p f S R B W F P I h
 .rw[if_neg c]
  simp only[ja,ie,if_true];unfold r9;rw[H];simp only[ar,ah,ao,uA,bI,cI,aK,aa,af,aj,ac,dC,dt,Oo,JO,AQ,frz,au,aI,atI_3,atI_4];refine⟨rfl,aO (λ_ _ q=>nS (by lia) o.ok q) ?_⟩
  simp only[aW,ag,OH];refine⟨bf (by simp),bf (by simp),?_⟩
  have eq:D.tup [.int C.w,.tup (C.names.map D.str),.int (C.many:Nat),.tup (aw<|flt C.rows),.str C.mn]=(C.rw<|flt C.rows).d:=rfl;simp only[OO,OP,eq];have J:∀z,fin ((C.rw<|flt C.rows).cf z) ((C.rw<|flt C.rows).most-4) (C.names.zip z.nums) (flt C.rows)=ap (fz (C.cf z) (C.names.zip z.nums)<|flt C.rows):=λz=>lC (cf:=C.cf z) _ _ _ rg (by show _<=C.most-4;lia)
  exact D1 (C:=C.rw (flt C.rows)) of p.rw f.rw S (OQ (rX C.rows) R) B W F (J s) (J t) h
end
def gA(xs:W7)(i:Nat):Int:=(xs[i]?).getD 0
def Ba(xs ys:W7):Nat:=((Pe xs.length).filter λi=>decide (gA xs i≠gA ys i)).length
theorem um{p q:Nat->Bool}{j:Nat}:∀(l:List Nat),l.Nodup->(∀i∈l,i≠j->p i=true->q i=true)->(l.filter p).length<=(l.filter q).length+if j∈l then 1 else 0
 |[],_,_=>by simp
 |i::l,nd,h=>by
  have f:=Qy.mp nd;have F:=um (p:=p) (q:=q) (j:=j) l f.2 λk G=>h k (OE _ G)
  by_cases e:i=j
  .subst e
   rw[if_neg f.1]at F;rw[if_pos OL,Pb,Pb]
   split<;>split<;>(try simp only[Oy])<;>lia
  .have H:=h i OL e
   have I:(if j∈i::l then 1 else 0)=if j∈l then 1 else 0:=by
    have:j∈i::l↔j∈l:=by simp[OM,OW e,eq_comm,e]
    simp only[this]
   rw[I,Pb,Pb]
   by_cases B:p i=true
   .rw[if_pos B,if_pos (H B),Oy,Oy];lia
   .rw[if_neg B]
    split
    .rw[Oy];lia
    .exact F
theorem mU(f:j<xs.length):gA (xs.set j v) i=if i=j then v else gA xs i:=by
 unfold gA;rw[RQ]
 by_cases e:j=i
 .subst e;rw[if_pos rfl,if_pos f,if_pos rfl];rfl
 .rw[if_neg e,if_neg λz=>e z.symm]
theorem kz{ys:W7}(h:j<ys.length):Ba xs (ys.set j v)<=Ba xs ys+1:=by
 unfold Ba;have:=um (p:=λi=>decide (gA xs i≠gA (ys.set j v) i)) (q:=λi=>decide (gA xs i≠gA ys i)) (j:=j) (Pe xs.length) S3 λi _ e f=>by
  rw[mU h,if_neg e]at f;exact f
 split at this<;>lia
theorem iO:Ba xs xs=0:=by
 unfold Ba;rw[R7.mpr λi _=>by simp];rfl
theorem pA(h:i<xs.length):gA xs i∈xs:=by
 unfold gA;rw[Ov h];exact Qn h
theorem yM(h:i<xs.length):atI (xs.map D.int) (i:Int)=ap (.int<|gA xs i):=by
 rw[bo (by lia),OF,OJ]
 unfold gA;rw[Ov h];rfl
structure Cm(k:Pt)(ln lp:eg)(ns ps:W7)(M0 M:Mem):Prop where
 has:Has k M
 a:ln≠k.p/\ln≠k.q
 b:lp≠k.p/\lp≠k.q
 ab:ln≠lp
 en:M ln=ap (.lst<|ns.map D.int)
 ep:M lp=ap (.lst<|ps.map D.int)
 n0:M0 ln=cm
 p0:M0 lp=cm
 keep:∀b o,b≠k.p->b≠k.q->M0 b=ap o->M b=ap o
structure Df(m:Int)(nums pieces ns ps:W7)(fi cnt:Nat):Prop where
 ln:ns.length=nums.length
 lp:ps.length=pieces.length
 rn:∀v∈ns,0<=v/\v<m
 rp:∀v∈ps,0<=v/\v<m
 few:Ba nums ns+Ba pieces ps<=cnt
 fi:if fi<nums.length then gA nums fi≠gA ns fi else gA pieces 0≠gA ps 0
section
variable{k:Pt}{pieces:W7}{cnt:Nat}
theorem Cm.dr(c:Cm k ln lp ns ps M0 M)(d:Dr k M M'):Cm k ln lp ns ps M0 M':=
 ⟨d.1,c.a,c.b,c.ab,by rw[d.2 ln c.a.1 c.a.2];exact c.en,by rw[d.2 lp c.b.1 c.b.2];exact c.ep,c.n0,c.p0,λb o h f e=>by rw[d.2 b h f];exact c.keep b o h f e⟩
theorem gz:(xs.map D.int).set j (.int v)=(xs.set j v).map D.int:=by rw[List.map_set]
theorem Cm.sN(c:Cm k ln lp ns ps M0 M):Cm k ln lp (ns.set j v) ps M0 (M.upd ln<|.lst<|(ns.set j v).map D.int):=
 ⟨c.has.upd c.a,c.a,c.b,c.ab,Mem.upd_same,by rw[ae c.ab.symm];exact c.ep,c.n0,c.p0,λb o h f e=>by rw[ae (Mem.ne e c.n0)];exact c.keep b o h f e⟩
theorem Cm.sP(c:Cm k ln lp ns ps M0 M):Cm k ln lp ns (ps.set j v) M0 (M.upd lp<|.lst<|(ps.set j v).map D.int):=
 ⟨c.has.upd c.b,c.a,c.b,c.ab,by rw[ae c.ab];exact c.en,Mem.upd_same,c.n0,c.p0,λb o h f e=>by rw[ae (Mem.ne e c.p0)];exact c.keep b o h f e⟩
theorem kL(h:∀v∈xs,0<=v/\v<m)(f:0<=v/\v<m):∀w∈xs.set j v,0<=w/\w<m:=λw e=>by
 rcases TR e with h1|h1
 .exact h w h1
 .subst h1;exact f
theorem Df.sN(d:Df m nums pieces ns ps fi cnt)(h:j<nums.length)(p:0<=v/\v<m)(B:v≠gA nums j):Df m nums pieces (ns.set j v) ps fi (cnt+1):=by
 have f:j<ns.length:=by rw[d.ln];exact h
 refine⟨by rw[Qz];exact d.ln,d.lp,kL d.rn p,d.rp,?_,?_⟩
 .have:=kz (xs:=nums) (v:=v) f
  have:=d.few;lia
 .have:=d.fi
  split at this
  .rename_i c
   rw[if_pos c,mU f]
   split
   .rename_i e;rw[e];exact λz=>B z.symm
   .exact this
  .rename_i c;rw[if_neg c];exact this
theorem Df.sP(d:Df m nums pieces ns ps fi cnt)(h:j<pieces.length)(p:0<=v/\v<m)(B:v≠gA pieces j):Df m nums pieces ns (ps.set j v) fi (cnt+1):=by
 have f:j<ps.length:=by rw[d.lp];exact h
 refine⟨d.ln,by rw[Qz];exact d.lp,d.rn,kL d.rp p,?_,?_⟩
 .have:=kz (xs:=pieces) (v:=v) f
  have:=d.few;lia
 .have:=d.fi
  split at this
  .rename_i c;rw[if_pos c];exact this
  .rename_i c
   rw[if_neg c,mU f]
   split
   .rename_i e;rw[e];exact λz=>B z.symm
   .exact this
end
section
variable{k:Pt}{pieces:W7}{cnt:Nat}{d1 d2 d7 d9 d10 d11 d12 d13:Option D}{pl:List D}{sm:Int}
theorem NZ(c:Cm k ln lp ns ps M0 M)(d:Df m nums pieces ns ps fi cnt)(Y:2<=m)(X:m<=997)(rn:∀v∈nums,0<=v/\v<m)(rp:∀v∈pieces,0<=v/\v<m)(W:atI pl 0=ap (.int m))(s0:0<sm)(s1:sm<=(nums.length:Int)+pieces.length)(hb:nums.length+pieces.length<=1000)(h:∀J I M' H,Cm k ln lp J I M0 M'->Df m nums pieces J I fi (cnt+1)->D'.nx [ap (.ref k.p),d1,d2,ap (.tup pl),ap (bB nums pieces),ap (.ref ln),ap (.ref lp),d7,ap (.int sm),d9,H,d11,d12,d13] M'):
  kJ ad EE D' [ap (.ref k.p),d1,d2,ap (.tup pl),ap (bB nums pieces),ap (.ref ln),ap (.ref lp),d7,ap (.int sm),d9,d10,d11,d12,d13] M:=by
 have e:∀{v:Int}{M:Mem}{Q:DK},Q (.int v) M->frz (.int v) M Q:=λz=>z;unfold kJ;simp only[ai,ar,ao,aj,aa,af,ac,dt,Oo];refine⟨rfl,aN c.has s0 (by lia) λr M1 a1 b1 dr=>e ?_⟩
 have F:=c.dr dr;simp only[ag,OH];unfold pL;simp only[aH,ak,ah,bu,aa,af,ac,dt,Oo,bK,aI,F.en,Ot,uJ,j7,d.ln];obtain⟨j,Z⟩:∃j:Nat,r=(j:Int):=⟨r.toNat,by lia⟩
 subst Z
 by_cases q:j<nums.length
 .rw[if_pos (by simp;lia)]
  unfold rK;simp only[ar,ao,aj,aa,af,ac,ah,dC,bB,dt,Oo,au,aI,W,atI_0,yM q];refine⟨rfl,aq λQ' E' O _=>eZ F.has Y X (rn _<|pA q) λw M2 S P R f=>O _ _ (e ?_)⟩;have G:=F.dr f;simp only[cT,ac,dt,Oo,m9,G.en,Ot,fq (show (0:Int)<=(j:Int) by lia) (show (j:Int)<(ns.length:Nat) by rw[d.ln];lia),OF,gz]
  exact h _ _ _ _ G.sN (d.sN q ⟨S,P⟩ R)
 .rw[if_neg (by simp;lia)]
  unfold pY;simp only[ai,ar,ah,bu,aa,af,ac,dt,Oo,bK,aI,F.en,Ot,fF,j7,d.ln,ag,OH];obtain⟨i,hi,B⟩:∃i:Nat,(j:Int)-(nums.length:Int)=(i:Int)/\i<pieces.length:=⟨j-nums.length,by lia,by lia⟩
  rw[hi];unfold pN;simp only[ar,ao,aj,aa,af,ac,ah,dC,bB,dt,Oo,au,aI,W,atI_0,atI_1,yM B];refine⟨rfl,aq λQ' E' O _=>eZ F.has Y X (rp _<|pA B) λw M2 S P R f=>O _ _ (e ?_)⟩;have G:=F.dr f;simp only[cT,ac,dt,Oo,m9,G.ep,Ot,fq (show (0:Int)<=(i:Int) by lia) (show (i:Int)<(ps.length:Nat) by rw[d.lp];lia),OF,gz]
  exact h _ _ _ _ G.sP (d.sP B ⟨S,P⟩ R)
end
mutual
theorem Jp{names:W8}{m a b:Int}(h:a<=b):∀(r:Rw),cu names m a r->cu names m b r
 |.put x k,h1=>h1
 |.take x i,h1=>⟨h1.1,h1.2.1,Int.lt_of_lt_of_le h1.2.2 h⟩
 |.pick x y,h1=>⟨h1.1,h1.2.1,Int.lt_of_lt_of_le h1.2.2 h⟩
 |.two w x y z,h1=>h1
 |.ifr x c d,h1=>by
  simp only[cu]at h1 ⊢;exact⟨h1.1,ij h c h1.2.1,ij h d h1.2.2⟩
 |.again x c,h1=>by
  simp only[cu]at h1 ⊢;exact⟨h1.1,ij h c h1.2⟩
theorem ij{names:W8}{m a b:Int}(h:a<=b):∀(rs:List Rw),bc names m a rs->bc names m b rs
 |[],_=>trivial
 |r::rs,h1=>⟨Jp h r h1.1,ij h rs h1.2⟩
end
theorem G1(l:W8)(p:aF->Bool):((l.map OR).filter p).length=((Pe l.length).filter λi=>p (.inr<|(l[i]?).getD ("":Str))).length:=by
 have e:l=(Pe l.length).map λi=>(l[i]?).getD ("":Str):=List.ext_getElem (by simp) λi f h=>by rw[S5,List.getElem_range,Ov f];rfl
 conv=>lhs;rw[e]
 rw[P7,P5,Ot];rfl
structure CaOk(C:Cse)(s t:Sta)(few:Nat):Prop where
 o:C.Ok
 hs:SOk C s
 ht:SOk C t
 two:C.two s t
 un:(aA C s t).length<=few
 h0:0<C.many
 h1:C.many<=40
 cn:cRs C.rows<=26
 one:∀x∈C.names,t9 x
section
variable{t:Sta}
theorem qz(o:C.Ok)(e:SOk C s)(h:C.names[i]?=ap y):aL C s (.inr y)=gA s.nums i:=by
 have:=vc o.nd e.ln.symm h;unfold gA;rw[this];rfl
theorem EF(o:C.Ok)(h:SOk C s)(p:SOk C t):(aA C s t).length=Ba s.nums t.nums+Ba s.pieces t.pieces:=by
 unfold aA cS;rw[PZ,OG,G1];congr 1
 .unfold Ba
  rw[h.ln];congr 1;refine QE λi f=>?_;have f:=P2.mp f;have e:C.names[i]?=ap ((C.names[i]?).getD ("":Str)):=by rw[Ov f];rfl
  rw[qz o h e,qz o p e]
 .unfold Ba
  rw[P5,Ot,h.lp];rfl
theorem L9:aA (C.rw rs) s t=aA C s t:=rfl
end
section
variable{k:Pt}
theorem cut2{a b c d e:D}:jV [a,b,c,d,e] cm (ap 2)=[a,b]:=rfl
theorem GZ{a b c d e:D}:jV [a,b,c,d,e] (ap 3) cm=[d,e]:=rfl
theorem zB{few:Nat}(f1:1<=few)(f5:few<=5)(hp:Has k M)(h:∀C s t M',CaOk C s t few->Kq k M M'->Q (bF C s t) M'):ya ad [.ref k.p,.int 24,.int (few:Nat)] M Q E:=by
 have ft:∀{xs:List D}{M:Mem}{Q:DK},Q (.tup xs) M->frz (.tup xs) M Q:=λz=>z;have I:∀{v:Int}{M:Mem}{Q:DK},Q (.int v) M->frz (.int v) M Q:=λz=>z;rw[MX];unfold yB;simp only[ai,ar,ao,aj,aa,af,ac,dt,Oo];refine⟨rfl,aq λQ' E' hq _=>zo (v:=24) (by decide) (by decide) hp λm many names rows mk M1 pl hc q1=>hq _ _ (ft ?_)⟩
 simp only[ag,OH];unfold mY;have t4:=pl.t.k0;have t5:=pl.t.k1;have m2:=pl.t.m2;have m1:=pl.t.m1;have l0:=pl.t.n0;have l1:=pl.t.n1;obtain⟨f,hmn,mn1,mn40,mle⟩:∃f:Nat,(if many>1 then many else 1)=(f:Int)/\1<=f/\f<=40/\many<=(f:Int):=by
  refine⟨(if many>1 then many else 1).toNat,?_,?_,?_,?_⟩<;>split<;>lia
 simp only[ai,ar,ah,ao,uA,bI,cI,aK,aa,af,bu,ac,dC,iW,dt,Oo,JO,cut2,GZ,frz,au,aI,atI_2,EW,hmn,aW,Oy,Pf];refine⟨bf (by simp),bf (by simp),bf (by simp),?_⟩
 simp only[OO,OP,ag,OH];have pl':PlG m (f:Int) names rows mk:=⟨⟨pl.t.m2,pl.t.m1,pl.t.n0,pl.t.n1,by lia,by lia⟩,pl.nd,ij mle _ pl.ok,pl.h,pl.cn,pl.l,pl.ln,pl.mkm,pl.one⟩
 have epl:D.tup [.int m,.tup (names.map D.str),.int (f:Int),.tup (aw rows),.str mk]=iW m (f:Int) names rows mk:=rfl;rw[epl];unfold nj;simp only[ai,ar,ao,aj,aa,af,ac,dt,Oo];refine⟨rfl,aq λQ' E' hq _=>vd q1.1 pl' λnums pieces M2 ln lp rn rp q2=>hq _ _ (ft ?_)⟩;simp only[ag,OH];unfold mF;simp only[ai,ar,bu,ah,aa,af,ac,dC,bB,dt,Oo,au,aI,atI_0,eJ];intro P S;simp only[ag,OH];unfold nc;simp only[ai,ar,bu,ah,aa,af,ac,dC,dt,Oo,au,aI,atI_1,eJ];intro H F;simp only[ag,OH];have W:P≠H:=Mem.ne Mem.upd_same F;rw[ae W.symm]at F;have Z:nums.length=names.length:=ln;have hlP:pieces.length=f:=by lia
 have c0:Cm k P H nums pieces M2 ((M2.upd P<|.lst<|nums.map D.int).upd H<|.lst<|pieces.map D.int):=by
  have a:=q2.1.nep S;have b:=q2.1.nep F;exact⟨(q2.1.upd a).upd b,a,b,W,by rw[ae W,Mem.upd_same],Mem.upd_same,S,F,λb' o _ _ e=>by rw[ae (Mem.ne e F),ae (Mem.ne e S)];exact e⟩
 generalize (M2.upd P<|.lst<|nums.map D.int).upd H (.lst<|pieces.map D.int)=M3 at c0 ⊢;have es:D.tup [.tup (nums.map D.int),.tup (pieces.map D.int)]=bB nums pieces:=rfl;rw[es];unfold mS;simp only[ai,ar,ao,aj,ah,bu,aa,af,ac,dC,dt,Oo,bK,aI,c0.en,Ot,cG];refine⟨.inl ⟨by decide,by decide⟩,rfl,aN c0.has (by lia) (by lia) λr M4 a4 b4 d4=>I ?_⟩
 have O:=c0.dr d4;obtain⟨fi,hfi⟩:∃fi:Nat,r=(fi:Int):=⟨r.toNat,by lia⟩
 subst hfi;simp only[ag,OH];unfold ng;simp only[ai,ar,bu,aa,af,ac,dt,Oo,bK,aI,O.en,Ot,ag,OH];unfold mh
 have rest:∀(ns ps:W7)(M5:Mem)(sm:Int),Cm k P H ns ps M2 M5->Df m nums pieces ns ps fi 1->0<sm->sm<=(nums.length:Int)+pieces.length->
   (iQ ad<|aG E) { nx:=λx M'=>drp Q D.non M',rt:=drp Q } [ap (.ref k.p),ap (.int 24),ap (.int (few:Nat)),ap (iW m (f:Int) names rows mk),ap (bB nums pieces),ap (.ref P),ap (.ref H),ap (.int (fi:Nat)),ap (.int sm),cm,cm,cm,cm,cm] M5:=by
  intro ns ps M5 sm c5 d5 s0 s1;unfold iQ;simp only[ai,cF,fE,aa,af,ah,ac,dC,dt,Oo,fF,j7];refine⟨by lia,by lia,?_⟩
  refine ca (λxs U N=>∃(ns ps:W7)(c9 Y:Option D)(j:Nat),xs.length+j=few-1/\U=[ap (.ref k.p),ap (.int 24),ap (.int (few:Nat)),ap (iW m (f:Int) names rows mk),ap (bB nums pieces),ap (.ref P),ap (.ref H),ap (.int (fi:Nat)),ap (.int sm),c9,Y,cm,cm,cm]/\Cm k P H ns ps M2 N/\Df m nums pieces ns ps fi (1+j))
   (λ_ _ _ _=>aS) ?_ ?_ _ _ _ ⟨ns,ps,cm,cm,0,by simp[dR],rfl,c5,d5⟩
  .rintro U N ⟨ns,ps,c9,Y,j,e1,rfl,G,J⟩
   have ej:1+j=few:=by simp at e1;lia
   rw[ej]at J;unfold mz;simp only[ai,ar,aK,bu,aa,af,ac,dt,Oo,cD,gO,aI,G.en,G.ep];refine⟨bf (by simp),?_⟩
   have et:D.tup [.tup (ns.map D.int),.tup (ps.map D.int)]=(Sta.mk ns ps).d:=rfl;simp only[ag,OH,et];unfold mi;simp only[ai,ar,ao,aj,ah,aa,af,ac,dC,dt,Oo];refine⟨rfl,aN G.has (by decide) (by decide) λr2 M7 a7 b7 d7=>I ?_⟩
   have c7:=G.dr d7;simp only[aW,ag,OH];obtain⟨mo,hmo,mo1,mo2⟩:∃mo:Nat,30+r2=(mo:Int)/\30<=mo/\mo<50:=⟨(30+r2).toNat,by lia,by lia,by lia⟩
   rw[hmo];generalize B:(⟨m,f,names,rows,mk,mo⟩:Cse)=C;have o:C.Ok:=by subst B;exact⟨m2,m1,by show f<=100;lia,by show mo<=10000;lia,pl.nd,by show 0<names.length;lia,by show names.length<=100;lia,pl'.ok,OQ pl.h (by decide),pl.mkm⟩
   have hs:SOk C ⟨nums,pieces⟩:=by subst B;exact⟨Z,hlP,rn,rp⟩
   have ht:SOk C ⟨ns,ps⟩:=by subst B;exact⟨J.ln.trans Z,J.lp.trans hlP,J.rn,J.rp⟩
   have eN:C.names.length=nums.length:=by subst B;exact Z.symm
   have ed:iW m (f:Int) names rows mk=C.d:=by subst B;rfl
   have es2:bB nums pieces=(Sta.mk nums pieces).d:=rfl;have em:(mo:Nat)=C.most:=by subst B;rfl
   rw[ed,es2,em];refine Ip (s:=⟨nums,pieces⟩) (t:=⟨ns,ps⟩) o hs ht (by subst B;show 0<f;lia) (by subst B;show cRs rows<=24;lia) (by rw[<- em];lia) ?_ c7.en λrs o1 tw cr=>am (h _ _ _ _ ⟨o1,hs.rw,ht.rw,tw,?_,by subst B;show 0<f;lia,by subst B;exact mn40,cr,by subst B;exact pl.one⟩ ?_)
   .unfold NF
    rw[eN];have hd:=J.fi
    split
    .rename_i c
     rw[if_pos c]at hd;intro y hy;rw[qz o hs hy,qz o ht hy];exact hd
    .rename_i c
     rw[if_neg c]at hd;exact hd
   .rw[L9,EF o hs ht]
    exact J.few
   .exact q1.trans (q2.trans ⟨c7.has,c7.keep⟩)
  .rintro x xs U N ⟨ns,ps,c9,Y,j,e1,rfl,G,J⟩ D' hD _ _ _
   simp only[Oy]at e1;simp only[ag,OH];refine NZ G J m2 m1 rn rp (by simp) s0 s1 (by lia) λns' ps' M' d10' c' d'=>hD _ _ ⟨ns',ps',_,_,j+1,by lia,rfl,c',?_⟩
   rw[<- Nat.add_assoc];exact d'
 simp only[ai,aH,ak,ah,bu,aa,af,ac,dt,Oo,bK,aI,O.en,Ot,uJ,j7];have d0:∀{j:Nat}{v:Int}(hj:j<nums.length),fi=j->0<=v->v<m->v≠gA nums j->Df m nums pieces (nums.set j v) pieces fi 1:=λ{j v} hj e v0 v1 vn=>by
  subst e;refine⟨Qz,rfl,kL rn ⟨v0,v1⟩,rp,?_,?_⟩
  .have h1:=kz (xs:=nums) (ys:=nums) (v:=v) hj
   have h2:=iO (xs:=nums);have h3:=iO (xs:=pieces);lia
  .rw[if_pos hj,mU hj,if_pos rfl];exact λz=>vn z.symm
 by_cases q:fi<nums.length
 .rw[if_pos (by simp;lia)]
  unfold rb;have X:atI [D.int m,.tup (names.map D.str),.int (f:Int),.tup (aw rows),.str mk] 0=ap (.int m):=by simp
  simp only[ar,ao,aj,aa,af,ac,ah,dC,iW,dt,Oo,au,aI,X,O.en,yM q];refine⟨rfl,aq λQ' E' hq _=>eZ O.has m2 m1 (rn _<|pA q) λw M5 w0 w1 wn R=>hq _ _ (I ?_)⟩;have c5:=O.dr R;simp only[cT,ac,dt,Oo,m9,c5.en,Ot,fq (show (0:Int)<=(fi:Int) by lia) (show (fi:Int)<(nums.length:Nat) by lia),OF,gz]
  rw[epl];exact rest _ _ _ _ c5.sN (d0 q rfl w0 w1 wn) (by lia) (by lia)
 .rw[if_neg (by simp;lia)]
  unfold oV;have hP:0<pieces.length:=by lia
  have X:atI [D.int m,.tup (names.map D.str),.int (f:Int),.tup (aw rows),.str mk] 0=ap (.int m):=by simp
  have ga0:=yM (xs:=pieces) hP;have ga0':atI (pieces.map D.int) 0=ap (.int<|gA pieces 0):=ga0;simp only[ai,ar,ao,aj,aa,af,ac,ah,dC,iW,dt,Oo,au,aI,X,O.ep,ga0'];refine⟨rfl,aq λQ' E' hq _=>eZ O.has m2 m1 (rp _<|pA hP) λw M5 w0 w1 wn R=>hq _ _ (I ?_)⟩;have c5:=O.dr R;have ix0':rS pieces.length 0=ap 0:=fq (by decide) (by lia)
  simp only[cT,ac,dC,dt,Oo,m9,c5.ep,Ot,ix0',gz];have G:=c5.sP (j:=0) (v:=w);generalize M5.upd H (.lst<|(pieces.set 0 w).map D.int)=M6 at G ⊢;unfold rF;simp only[ar,ao,ah,bu,aa,af,ac,dC,dt,Oo,bK,aI,G.ep,Ot,Qz,cG,Cw,aW,frz,ag,OH];refine⟨.inl ⟨by decide,by decide⟩,?_⟩
  rw[epl];refine rest _ _ _ _ G ⟨rfl,Qz,rn,kL rp ⟨w0,w1⟩,?_,?_⟩ (by split<;>lia) (by split<;>lia)
  .have h1:=kz (xs:=pieces) (ys:=pieces) (v:=w) hP
   have h2:=iO (xs:=nums);have h3:=iO (xs:=pieces);lia
  .rw[if_neg q,mU hP,if_pos rfl];exact λz=>wn z.symm
theorem Cn{t:Sta}(h:Q (bF C s t) M):frz (bF C s t) M Q:=h
end
end _T
namespace _3
open PySem _2
mutual
def si:D->Prop
 |.non=>True
 |.int i=>i.natAbs<10 ^ 6
 |.str x=>x.length<=100/\∀c∈x.cps.toList,c<16 ^ 8
 |.tup xs=>rV xs
 |_=>False
def rV:List D->Prop
 |[]=>True
 |x::xs=>si x/\rV xs
end
mutual
def sz:D->Nat
 |.tup xs=>5+yC xs
 |_=>2000
def yC:List D->Nat
 |[]=>0
 |x::xs=>sz x+2+yC xs
end
theorem Di{i:Int}(h:i.natAbs<10 ^ 6):i.natAbs.log2<1920:=by
 by_cases a:i.natAbs=0
 .rw[a];decide
 .exact(UN a).mpr (OA h<|OQ (by decide:10 ^ 6<=2 ^ 20)<|Po (by decide)<|by decide)
mutual
theorem wP:∀d:D,si d->(da d).showable=true
 |.non,_=>by simp only[da,Rc]
 |.int i,h=>by simp only[da,Rc,decide_eq_true_eq];exact Di h
 |.str x,_=>by simp only[da,Rc]
 |.tup xs,h=>by simp only[da,Rc];exact sW xs h
 |.bl _,h=>h.elim
 |.lst _,h=>h.elim
 |.ty _,h=>h.elim
 |.ref _,h=>h.elim
 |.mt _,h=>h.elim
 |.ml _,h=>h.elim
theorem sW:∀xs:List D,rV xs->So (eV xs)=true
 |[],_=>by simp only[eV,So]
 |x::xs,h=>by simp only[eV,So,wP x h.1,sW xs h.2,T4]
end
theorem G6(a:W8):(tupleText a).length<=piled a+5:=by
 unfold tupleText;rw[strLen_append,strLen_append];have c:(("(":String):Str).length=1:=rfl;have b:((if a.length==1 then ",)" else ")":String):Str).length<=2:=by split<;>decide
 by_cases h:a=[]
 .subst h
  have:(Str.join ", " ([]:W8)).length=0:=rfl;lia
 .have:=join_length_add a h
  lia
mutual
theorem oi:∀d:D,si d->(da d).shown.length<=sz d
 |.non,_=>by simp only[da,Ro,sz];decide
 |.int i,h=>by simp only[da,Ro,sz];exact OQ (PyProof.Rows.int_text_len_1921<|Di h) (by decide)
 |.str x,h=>by
  simp only[da,Ro,sz];have:=StrLaws.reprText_len x h.2;have:=h.1;lia
 |.tup xs,h=>by
  simp only[da,Ro,sz];have:=G6 (QS<|eV xs);have:=lL xs h;lia
 |.bl _,h=>h.elim
 |.lst _,h=>h.elim
 |.ty _,h=>h.elim
 |.ref _,h=>h.elim
 |.mt _,h=>h.elim
 |.ml _,h=>h.elim
theorem lL:∀xs:List D,rV xs->piled (QS<|eV xs)<=yC xs
 |[],_=>by simp[eV,QS,piled,yC]
 |x::xs,h=>by
  have b:=oi x h.1;have a:=lL xs h.2;simp only[eV,QS,yC];simp[piled]at a ⊢;lia
end
end _3
namespace _T
open PySem _2 _3
variable{ad:Ad}{C:Cse}{Q:DK}{E:DX}{a b:Int}{M:Mem}{few n:Nat}{T:Nat->Int}{s:Sta}{x y:Str}
section
variable{names:W8}{m many:Int}
mutual
theorem sz_R:∀r:Rw,sz r.d+2<=9000*cR r
 |.put _ _=>by simp[Rw.d,sz,yC,cR]
 |.take _ _=>by simp[Rw.d,sz,yC,cR]
 |.pick _ _=>by simp[Rw.d,sz,yC,cR]
 |.two _ _ _ _=>by simp[Rw.d,sz,yC,cR]
 |.ifr _ a b=>by
  have:=tY a;have:=tY b;simp only[Rw.d,sz,yC,cR];lia
 |.again _ a=>by
  have:=tY a;simp only[Rw.d,sz,yC,cR];lia
theorem tY:∀c:List Rw,yC (aw c)<=9000*cRs c
 |[]=>by simp[aw,yC,cRs]
 |r::c=>by
  have:=sz_R r;have:=tY c;simp only[aw,yC,cRs];lia
end
theorem bh(h:t9 x):si (.str x):=by
 obtain⟨n,c,g,i,f,j,rfl⟩:=h;refine⟨?_,λd e=>?_⟩
 .show (Qv n c).size<=100
  rw[Array.size_replicate];lia
 .simp at e
  obtain⟨_,rfl⟩:=e;have:(122:Nat)<16 ^ 8:=by decide
  lia
theorem fc{w:String}(h:w∈["put","take","pick","sum","by","less","same","if","again"]):si (.str<|PH w):=by
 simp only[OM,Pl,or_false]at h;rcases h with rfl|rfl|rfl|rfl|rfl|rfl|rfl|rfl|rfl<;>exact⟨by decide +kernel,by decide +kernel⟩
theorem AM{i:Int}(c:0<=i)(e:i<1000):si (.int i):=by
 have:(1000:Nat)<10 ^ 6:=by decide
 show i.natAbs<10 ^ 6;lia
mutual
theorem IC(c:∀x∈names,t9 x)(i:m<=997)(k1:many<=40):∀r:Rw,cu names m many r->si r.d
 |.put x k,h=>by
  simp only[cu,cw]at h;exact⟨fc (w:="put") (by simp),bh (c _ h.1),AM h.2.1 (by lia),trivial⟩
 |.take x k,h=>by
  simp only[cu,cw]at h;exact⟨fc (w:="take") (by simp),bh (c _ h.1),AM h.2.1 (by lia),trivial⟩
 |.pick x y,h=>by
  simp only[cu,cw]at h;exact⟨fc (w:="pick") (by simp),bh (c _ h.1),bh (c _ h.2.1),trivial⟩
 |.two w x y z,h=>by
  simp only[cu,cw]at h;obtain⟨j,f,e,g⟩:=h;rcases j with rfl|rfl|rfl|rfl
  .exact⟨fc (w:="sum") (by simp),bh (c _ f),bh (c _ e),bh (c _ g),trivial⟩
  .exact⟨fc (w:="by") (by simp),bh (c _ f),bh (c _ e),bh (c _ g),trivial⟩
  .exact⟨fc (w:="less") (by simp),bh (c _ f),bh (c _ e),bh (c _ g),trivial⟩
  .exact⟨fc (w:="same") (by simp),bh (c _ f),bh (c _ e),bh (c _ g),trivial⟩
 |.ifr x a b,h=>by
  simp only[cu]at h;exact⟨fc (w:="if") (by simp),bh (c _ h.1),il c i k1 a h.2.1,il c i k1 b h.2.2,trivial⟩
 |.again x a,h=>by
  simp only[cu]at h;exact⟨fc (w:="again") (by simp),bh (c _ h.1),il c i k1 a h.2,trivial⟩
theorem il(e:∀x∈names,t9 x)(f:m<=997)(k1:many<=40):∀c:List Rw,bc names m many c->rV (aw c)
 |[],_=>trivial
 |r::c,h=>by
  simp only[bc]at h;exact⟨IC e f k1 r h.1,il e f k1 c h.2⟩
end
end
def Sub(y x:Str):Prop:=∃a b:Array Nat,x.cps=a++y.cps++b
theorem y2:(x++y).cps=x.cps++y.cps:=rfl
theorem Sub.refl:Sub y y:=⟨#[],#[],by simp⟩
theorem Sub.l{z:Str}(h:Sub y x):Sub y (z++x):=by
 obtain⟨a,b,e⟩:=h;exact⟨z.cps++a,b,by rw[y2,e];simp[QX]⟩
theorem Sub.r{z:Str}(h:Sub y x):Sub y (x++z):=by
 obtain⟨a,b,e⟩:=h;exact⟨a,b++z.cps,by rw[y2,e];simp[QX]⟩
theorem Ig(h:Sub y x):Rn x y=true:=by
 obtain⟨a,b,e⟩:=h;have c:x.length=a.size+y.length+b.size:=by
  show x.cps.size=a.size+y.cps.size+b.size;rw[e,SF,SF]
 refine (StrLaws.found_iff x y).mpr ⟨a.size,by lia,?_⟩
 unfold Builtin.Str.subAt;refine beq_iff_eq.mpr ?_;show x.cps.extract a.size (a.size+y.cps.size)=y.cps;rw[e];apply Array.ext';simp[Array.toList_extract,List.extract_eq_take_drop]
theorem uB{y c:Str}:∀{e:W8}{t:Str},t∈e->Sub y t->Sub y (Str.join c e)
 |[x],t,h,s=>by
  have:t=x:=by simpa using h
  subst this;exact s
 |x::z::r,t,h,s=>by
  show Sub y (x++c++Str.join c (z::r));rcases OM.mp h with rfl|h
  .exact s.r.r
  .exact(uB h s).l
theorem o6:∀{xs:List D}{x:D},x∈xs->(da x).shown∈QS (eV xs)
 |z::xs,x,h=>by
  simp only[eV,QS];rcases OM.mp h with rfl|h
  .exact OL
  .exact OE _ (o6 h)
theorem dZ{xs:List D}{x:D}(h:x∈xs)(s:Sub y (da x).shown):Sub y (da<|.tup xs).shown:=by
 simp only[da,Ro];unfold tupleText;exact(uB (o6 h) s).l.r
theorem BM:Sub "'pick'" (da<|.str "pick").shown:=by
 have:(da<|.str "pick").shown=("'pick'":Str):=by
  simp only[da,Ro]
  decide +kernel
 rw[this];exact .refl
mutual
theorem np_R:∀r:Rw,Lc r\/Sub "'pick'" (da r.d).shown
 |.put _ _=>.inl trivial
 |.take _ _=>.inl trivial
 |.two _ _ _ _=>.inl trivial
 |.pick x y=>.inr (dZ OL BM)
 |.ifr x a b=>by
  rcases tP a with h1|⟨d,hd,h1⟩
  .rcases tP b with h2|⟨d,hd,h2⟩
   .exact .inl ⟨h1,h2⟩
   .exact .inr (dZ (xs:=[.str "if",.str x,.tup (aw a),.tup (aw b)]) (x:=.tup (aw b)) (by simp)<|dZ hd h2)
  .exact .inr (dZ (xs:=[.str "if",.str x,.tup (aw a),.tup (aw b)]) (x:=.tup (aw a)) (by simp)<|dZ hd h1)
 |.again x a=>by
  rcases tP a with h1|⟨d,hd,h1⟩
  .exact .inl h1
  .exact .inr (dZ (xs:=[.str "again",.str x,.tup (aw a)]) (x:=.tup (aw a)) (by simp)<|dZ hd h1)
theorem tP:∀c:List Rw,eF c\/∃d∈aw c,Sub "'pick'" (da d).shown
 |[]=>.inl trivial
 |r::c=>by
  rcases np_R r with h1|h1
  .rcases tP c with h2|⟨d,hd,h2⟩
   .exact .inl ⟨h1,h2⟩
   .exact .inr ⟨d,OE _ hd,h2⟩
  .exact .inr ⟨_,OL,h1⟩
end
theorem NM{c:List Rw}(h:Rn (da<|.tup<|aw c).shown "'pick'"=eC):eF c:=by
 rcases tP c with h1|⟨d,hd,h1⟩
 .exact h1
 .rw[Ig (dZ hd h1)]at h;cases h
theorem yV{names:W8}{m many:Int}{c:List Rw}(g:∀x∈names,t9 x)(h:m<=997)(k1:many<=40)(ok:bc names m many c)(j:cQ c<=7)(i:cRs c<=60):
  bj 60 (.tup<|aw c)=true/\(da<|.tup<|aw c).showable=true/\(da<|.tup<|aw c).shown.length<=sizeLine:=by
 have e:si (.tup<|aw c):=il g h k1 c ok;refine⟨?_,wP _ e,OQ (oi _ e) ?_⟩
 .have f:=j9 c 59 (by lia)
  simp[bj,f]
 .have:=tY c
  refine bf ?_;simp only[sz];lia
section
variable{t:Sta}
def An(us:List aF)(n:Nat)(T:Nat->Int):List D:=(us.zipIdx 0).map λp=>D.tup [kD p.1,yL n T p.2]
theorem ui:(df C s t a b).length<=2 ^ (aA C s t).length:=by
 have c:(df C s t a b).length<=(cY a b (aA C s t) (C.tree s t) 0 0).length:=Ph _ _;rw[iH]at c;have:=oh (C:=C) (s:=s) (t:=t);lia
theorem yF{i:Nat}(c:n<=7)(e:(df C s t a b).length<=128)(ok:∀x∈df C s t a b,OutOk n x):-1000000000000000<=bR n (df C s t a b) i/\bR n (df C s t a b) i<=1000000000000000:=by
 have:=yj (i:=i) c ok;lia
theorem oO(o:C.Ok)(q:SOk C s)(m:SOk C t)(u:C.mark s=.int a)(j:C.mark t=.int b)(e:a≠b)(f:(aA C s t).length<=7)(h:Q (.lst<|An (aA C s t) (aA C s t).length<|bR (aA C s t).length<|df C s t a b) M):ao (aj (jz ad) E 2<|aa (ac 0)<|aa (dC<|.int 2000) af) [ap (bF C s t)] M Q:=by
 have c:2 ^ (aA C s t).length<=128:=Po (n:=2) (by decide) f
 have v:=oh (C:=C) (s:=s) (t:=t);simp only[ao,aj,aa,ac,dC,af,dt];refine⟨rfl,aq λQ' E' g _=>sG (L:=2000) o q m u j e (by lia) (by lia) (by decide) gr rfl (λi _=>yF f (OQ ui c) gr) λp c=>g _ _ (cA c h)⟩
theorem wZ{T:Nat->Int}:∀(us:List aF)(j:Nat),((us.zipIdx j).map λp=>T p.2)=(Rg j us.length).map T
 |[],j=>rfl
 |u::us,j=>by simp only[Qm,Ou,Oy,QK,wZ us (j+1)]
theorem EK{us:List aF}:((us.zipIdx 0).map λp=>T p.2).sum=((Pe us.length).map T).sum:=by
 rw[wZ,Rf]
theorem FY(o:C.Ok)(G:C.many<=90)(e:SOk C s)(c:SOk C t)(I:eF C.rows)(J:(aA C s t).length<=20)(H:C.mark s=.int a)(F:C.mark t=.int b):C.mo.mark (s.mo 0 1)=.int a/\C.mo.mark (t.mo 1 0)=.int b:=by
 have m2:=o.m2;have j:=o.mo G;have h:=e.mo (v:=0) (w:=1) ⟨by lia,by lia⟩ ⟨by lia,by lia⟩
 have g:=c.mo (v:=1) (w:=0) ⟨by lia,by lia⟩ ⟨by lia,by lia⟩
 have z:=wO o e c I (v:=0) (v':=1) (w:=1) (w':=0) (by decide) (by decide)
 have B:=qG e c (v:=0) (v':=1) (w:=1) (w':=0) (by decide) (by decide)
 have f:(aA C.mo (s.mo 0 1)<|t.mo 1 0).length<24:=by rw[B,OG];simp[iI];lia
 have i:=cK (p:=λ_=>eC) j h g h f λq _=>rfl;have m:=cK (p:=λ_=>true) j h g g f λq _=>rfl;have A:=cK (p:=λ_=>eC) o e c e (by lia) λq _=>rfl
 have u:=cK (p:=λ_=>true) o e c c (by lia) λq _=>rfl
 rw[z]at i m;exact⟨by rw[<- i,A,H],by rw[<- m,u,F]⟩
theorem Fs(o:C.Ok)(c:SOk C s)(e:SOk C t)(f:eF C.rows):df C.mo (s.mo 0 1) (t.mo 1 0) a b=df C s t a b:=by
 unfold df;rw[wO o c e f (by decide) (by decide),qG c e (by decide) (by decide),vf _ _ _ _ n8 λ_ h=>h]
theorem BD(m:SOk C s)(o:SOk C t):An (aA C s t++iI C) ((aA C s t).length+2) (bR ((aA C s t).length+2)<|df C s t a b)=An (aA C s t) (aA C s t).length (bR (aA C s t).length<|df C s t a b)++[.tup [.int (C.many:Nat),.tup [.int 0,.int 1]],.tup [.int ((C.many:Nat)+1),.tup [.int 0,.int 1]]]:=by
 have j:=ei ((aA C s t).length+2);have e:∀i,(aA C s t).length<=i->yL ((aA C s t).length+2) (bR ((aA C s t).length+2)<|df C s t a b) i=.tup [.int 0,.int 1]:=λi h=>by
  rw[rC,oq h gr,Fo];have g:(0:Int) / ((fct ((aA C s t).length+2):Nat):Int)=0:=Int.zero_ediv _;have f:((fct ((aA C s t).length+2):Nat):Int) / ((fct ((aA C s t).length+2):Nat):Int)=1:=Int.ediv_self (by lia)
  rw[g,f]
 unfold An;rw[List.zipIdx_append,QW];congr 1
 .refine PF λp _=>?_
  congr 3;rw[rC,rC,ow gr];have c:=za (k:=((aA C s t).length+2)*((aA C s t).length+1)) (d:=fct (aA C s t).length) (T:=bR (aA C s t).length (df C s t a b) p.2) (Nat.mul_pos (by lia)<|by lia) (ei _)
  rw[Gp,c.1,c.2]
 .simp only[iI,Qm,List.zipIdx_nil,Ou,OV]
  rw[e _ (by lia),e _ (by lia)]
  rfl
theorem sH{D':DEnds}{EE:DX}{i:BxW (ak<|ah sy (ac 0)<|dC<|.int 0) (iN ad EE) D'}:∀(f a b:Nat),a<f->D'.nx [ap (.int 0),ap (.int ((QY a b:Nat):Int))] M->
  bW (ak<|ah sy (ac 0)<|dC<|.int 0) (iN ad EE) D' i (f+1) [ap (.int (a:Nat)),ap (.int (b:Nat))] M
 |0,a,b,hf,h=>by lia
 |f+1,a,b,hf,h=>by
  have c:∀K:Bool->Mem->Prop,K (decide ((0:Int)<((a:Nat):Int))) M->ak (ah sy (ac 0)<|dC<|.int 0) [ap (.int (a:Nat)),ap (.int (b:Nat))] M K:=λK q=>by
   simp only[ak,ah,ac,dC,sy,j7,dt];exact q
  by_cases g:a=0
  .subst g
   refine whF (λK q=>c K (by simpa using q)) ?_
   rw[Nat.gcd_zero_left]at h;exact h
  .refine whT (λK q=>c K (by rw[decide_eq_true (by lia)];exact q)) ?_
   unfold iN;have e:((b:Nat):Int) % ((a:Nat):Int)=((b % a:Nat):Int):=by simp
   simp only[KY,aa,ah,ac,af,cZ,oI,dt,Oo,e,OH];refine⟨by lia,sH f (b % a) a ?_ ?_⟩
   .have:=Nat.mod_lt b (show a>0 by lia);lia
   .rw[<- Nat.gcd_rec];exact h
theorem sS{a b:Nat}(h:Q (.int ((QY a b:Nat):Int)) M):xl ad [.int (a:Nat),.int (b:Nat)] M Q E:=by
 rw[Mx];unfold xa;simp only[ai,dq];refine⟨a+2,sH _ a b (by lia) ?_⟩
 simp only[az,ac,dt,Oo];exact am h
end
section
variable{t:Sta}
theorem CK{x:Int}:(if x<0 then -x else x)=((x.natAbs:Nat):Int):=by split<;>lia
theorem Ai{D':DEnds}{EE:DX}{q:aF}{i:Nat}{d0 d1 d2 d3 u w d6 d7 d12 e:Option D}{top c:Int}(J:n<=20)(P:-1000000000000000<=T i/\T i<=1000000000000000)(h:D'.nx [d0,d1,d2,d3,u,w,d6,d7,ap (.int (top*((fct n / gT (fct n) (T i):Nat):Int)+T i / ((gT (fct n) (T i):Nat):Int)*c)),ap (.int (c*((fct n / gT (fct n) (T i):Nat):Int))),ap (kD q),ap (yL n T i),d12,e] M):
  gs ad EE D' [d0,d1,d2,d3,u,w,d6,d7,ap (.int top),ap (.int c),ap (kD q),ap (yL n T i),d12,e] M:=by
 have f:=ei n;have F:=g6 J;have K:=y6 (T:=T i) f;have N:=qr (T:=T i) f;have A:=Es (T:=T i) f;have L:fct n / gT (fct n) (T i)<=fct n:=Nat.div_le_self _ _;have I:((fct n:Nat):Int) / ((gT (fct n) (T i):Nat):Int)=((fct n / gT (fct n) (T i):Nat):Int):=(Int.natCast_ediv _ _).symm;have G:-(2 ^ 64)<T i / ((gT (fct n) (T i):Nat):Int)/\T i / ((gT (fct n) (T i):Nat):Int)<2 ^ 64:=by
  obtain⟨x,m⟩:=HX (T:=T i) f;generalize gT (fct n) (T i)=g at *;have B:T i / (g:Int)=x:=by rw[m];exact Uc _ (by lia)
  rw[B];have p:(1:Int)<=(g:Int):=by lia
  have H:x.natAbs<=(T i).natAbs:=by
   rw[m,Int.natAbs_mul];exact Nat.le_mul_of_pos_left _ (by lia)
  lia
 have fi':∀{v:Int}{M:Mem}{Q:DK},Q (.int v) M->frz (.int v) M Q:=λz=>z;generalize p:gT (fct n) (T i)=g at *;rw[rC,p]at h ⊢;rw[I]at h ⊢;generalize O:fct n / g=d at *;generalize m:T i / ((g:Nat):Int)=x at *;unfold gs;generalize j:kP ad EE=K2;simp only[ai,aH,A6,ak,ah,ac,dC,dt,Oo,au,aI,atI_1,uJ,j7];rw[if_neg (by simp;lia)]
 simp only[ao,aj,bu,aa,af,ah,ac,dC,dt,Oo,au,aI,atI_0,atI_1,Fm,CK];refine⟨rfl,aO (λ_ _ q=>sS q)<|fi' ?_⟩;rw[A];simp only[jy,dv,bj,aP];refine⟨trivial,trivial,?_⟩;rw[if_neg (by simp)]
 simp only[aE];rw[<- j];unfold kP qO;simp only[ai,ar,ah,ac,dC,dt,Oo,au,aI,atI_0,atI_1,cG,aW,ag,OH];have o:(-(2 ^ 64)<(d:Int)/\(d:Int)<2 ^ 64):=by lia
 exact⟨.inr o,.inl G,.inr o,h⟩
theorem yw{n:Nat}{T:Nat->Int}{d0 d1 d2 d3 j o d6 d7 d12 g:Option D}{D':DEnds}{EE:DX}{ok:Mem->Prop}{w:BxF (fG 2<|b6 (ag 10)<|b6 (ag 11) eY) (gs ad EE) D' ok}(m:n<=20)(c:∀M,ok M):∀(ps:List (aF×Nat))(top bot:Int)(d10 d11:Option D),(∀p∈ps,-1000000000000000<=T p.2/\T p.2<=1000000000000000)->0<bot->
  top*((fct n:Nat):Int)+bot*(ps.map λp=>T p.2).sum=bot*((fct n:Nat):Int)->(∀v d10 d11,D'.nx [d0,d1,d2,d3,j,o,d6,d7,ap (.int v),ap (.int v),d10,d11,d12,g] M)->
  gL (fG 2<|b6 (ag 10)<|b6 (ag 11) eY) (gs ad EE) D' ok w (ps.map λp=>D.tup [kD p.1,yL n T p.2]) [d0,d1,d2,d3,j,o,d6,d7,ap (.int top),ap (.int bot),d10,d11,d12,g] M
 |[],top,bot,d10,d11,_,hb,he,h=>by
  have i:=ei n;have e:top=bot:=by
   simp only[OV,SJ,Int.mul_zero,Si]at he;exact Int.eq_of_mul_eq_mul_right (by lia) he
  subst e;exact⟨c _,h _ _ _⟩
 |p::ps,top,bot,d10,d11,hT,hb,he,h=>by
  have i:=ei n;have z:=y6 (T:=T p.2) i;have A:=Dk (T:=T p.2) i;rw[Ou];refine⟨c _,?_⟩;simp only[fG,b6,ag,eY,OH];refine⟨rfl,Ai m (hT p OL)<|yw m c ps _ _ _ _ (λq u=>hT q (OE _ u)) (Int.mul_pos hb<|by lia) ?_ h⟩
  rw[Ou,Pj]at he;generalize (ps.map λp=>T p.2).sum=S at *;generalize fct n / gT (fct n) (T p.2)=dd at *;generalize T p.2 / ((gT (fct n) (T p.2):Nat):Int)=x at *;generalize T p.2=Tp at *;generalize ((fct n:Nat):Int)=f at*
  grind
end
section
variable{t:Sta}
theorem BI{us:List aF}:bj 60 (.lst<|An us n T)=true:=by
 have:∀(l:List (aF×Nat)),bq 59 (l.map λp=>D.tup [kD p.1,yL n T p.2])=true:=λl=>by
  induction l with
  |nil=>rfl
  |cons p l ih=>
   rw[Ou];simp only[bq,ih,Su];simp[bj,bq,Bv,yL]
 simp[bj,An,this]
theorem Iv{U:Dl}{w f c e:D}{n:Int}{K:DK}(g:U[3]?=ap (ap<|.tup [w,f,.int n,c,e]))(h:K (.tup [w,f,.int (n+2),c,e]) M):
  ah aW (aK<|aa (ah au (ac 3)<|dC<|.int 0)<|aa (ah au (ac 3)<|dC<|.int 1)<|aa (ah aW (ah au (ac 3)<|dC<|.int 2)<|dC<|.int 2) af) (ao<|uA (ac 3) (cI<|dC<|.int 3) bI) U M K:=by
 simp only[ah,aK,aa,af,ao,uA,bI,cI,ac,dC,g,au,aI,atI_0,atI_1,atI_2,dt,Oo,aW,JO,GZ,frz,Oy,Pf];exact⟨bf (by simp),bf (by simp),h⟩
theorem O3{U:Dl}{d12 p0 q0 d6:D}{sp tp:List D}{K:DK}(c:U[12]?=ap (ap d12))(e:U[4]?=ap (ap<|.tup [p0,.tup sp]))(g:U[5]?=ap (ap<|.tup [q0,.tup tp]))(f:U[6]?=ap (ap d6))(ls:sp.length<=1000)(lt:tp.length<=1000)(h:K (.tup [d12,.tup [p0,.tup (sp++[.int 0,.int 1])],.tup [q0,.tup (tp++[.int 1,.int 0])],d6]) M):
  aK (aa (ac 12)<|aa (aK<|aa (ah au (ac 4)<|dC<|.int 0)<|aa (ah aW (ah au (ac 4)<|dC<|.int 1)<|aK<|aa (dC<|.int 0)<|aa (dC<|.int 1) af) af)<|aa (aK<|aa (ah au (ac 5)<|dC<|.int 0)<|aa (ah aW (ah au (ac 5)<|dC<|.int 1)<|aK<|aa (dC<|.int 1)<|aa (dC<|.int 0) af) af)<|aa (ac 6) af) U M K:=by
 simp only[ah,aK,aa,af,ac,dC,c,e,g,f,au,aI,atI_0,atI_1,dt,Oo,aW,Oy,Pf];exact⟨bf (by simp),bf (by lia),bf (by simp),bf (by simp),bf (by lia),bf (by simp),bf (by simp),h⟩
theorem CF{EE:DX}{D':DEnds}{d0 d1 d2 d8 d9 d10 d11:Option D}(c:CaOk C s t few)(hf:few<=5)(J:eF C.rows)(ea:C.mark s=.int a)(eb:C.mark t=.int b)(F:a≠b)(h:D'.rt (.bl true) M):iu ad EE D' [d0,d1,d2,ap C.d,ap s.d,ap t.d,ap (.int (C.most:Nat)),ap (.lst<|An (aA C s t) (aA C s t).length<|bR (aA C s t).length<|df C s t a b),d8,d9,d10,d11,cm,cm] M:=by
 have i:=@Ay C;have j:∀z:Sta,z.d=.tup [.tup (z.nums.map D.int),.tup (z.pieces.map D.int)]:=λ_=>rfl;have m2:=c.o.m2;have hu:=c.un;have S:=c.h1;have Z:=c.hs.lp;have O:=c.ht.lp;have G:=qG c.hs c.ht (v:=0) (v':=1) (w:=1) (w':=0) (by decide) (by decide)
 have W:(aA C.mo (s.mo 0 1)<|t.mo 1 0).length=(aA C s t).length+2:=by rw[G,OG];rfl
 obtain⟨P,K⟩:=FY c.o (by lia) c.hs c.ht J (by lia) ea eb
 have R:=Fs (a:=a) (b:=b) c.o c.hs c.ht J;have H:=λ(Q:DK)=>oO (ad:=ad) (E:=EE) (M:=M) (Q:=Q) (c.o.mo<|by lia) (c.hs.mo (v:=0) (w:=1) ⟨by lia,by lia⟩ ⟨by lia,by lia⟩) (c.ht.mo (v:=1) (w:=0) ⟨by lia,by lia⟩ ⟨by lia,by lia⟩) P K F (by lia)
 rw[W,R,G,BD c.hs c.ht]at H;have Y:D.tup [.int C.w,.tup (C.names.map D.str),.int (((C.many:Nat):Int)+2),.tup (aw C.rows),.str C.mn]=C.mo.d:=by
  show _=D.tup [.int C.w,.tup (C.names.map D.str),.int ((C.many+2:Nat):Int),.tup (aw C.rows),.str C.mn];rw[Int.natCast_add];rfl
 have N:D.tup [C.mo.d,.tup [.tup (s.nums.map D.int),.tup (s.pieces.map D.int++[.int 0,.int 1])],.tup [.tup (t.nums.map D.int),.tup (t.pieces.map D.int++[.int 1,.int 0])],.int (C.most:Nat)]=bF C.mo (s.mo 0 1) (t.mo 1 0):=by
  show _=D.tup [C.mo.d,(s.mo 0 1).d,(t.mo 1 0).d,.int (C.most:Nat)];rw[j,j];simp[Sta.mo]
 unfold iu;generalize A:lq ad EE=K5;rw[i];unfold ai ar;refine Iv rfl ?_;rw[Y,<- i];unfold ag;dsimp only[OH];rw[<- A];unfold lq;generalize m:kK ad EE=K4;unfold ai ar;dsimp only[OH];refine O3 (d12:=C.mo.d) (p0:=.tup (s.nums.map D.int)) (q0:=.tup (t.nums.map D.int)) (d6:=.int (C.most:Nat)) (sp:=s.pieces.map D.int) (tp:=t.pieces.map D.int) ?_ ?_ ?_ ?_ (by rw[Ot];lia) (by rw[Ot];lia) ?_
 .rfl
 .rfl
 .rfl
 .rfl
 unfold ag;dsimp only[OH];rw[N,<- m];unfold kK;rw[i];generalize g:An (aA C s t) (aA C s t).length (bR (aA C s t).length<|df C s t a b)=L at *;have f:∀(Q:DK)(U:Dl),U[13]?=ap (ap<|bF C.mo (s.mo 0 1)<|t.mo 1 0)->Q (.lst (L++[.tup [.int (C.many:Nat),.tup [.int 0,.int 1]],.tup [.int ((C.many:Nat)+1),.tup [.int 0,.int 1]]])) M->ao (aj (jz ad) EE 2<|aa (ac 13)<|aa (dC<|.int 2000) af) U M Q:=λQ U B q=>by
  have:=H Q q;simp only[ao,aj,aa,ac,dC,af,dt]at this ⊢;rw[B];exact this
 have ll:L.length<=20:=by rw[<- g];simp[An];lia
 have I:bj 60 (.lst L)=true:=by rw[<- g];exact BI
 simp only[az];unfold ah;refine f _ _ rfl ?_;simp only[ao,ah,bO,aK,aa,af,ac,dC,dt,Oo,au,aI,atI_2,aW,Oy,Pf];refine⟨bf (by simp),bf (by simp),bf (by simp),bf (by simp),bf (by simp),λp X=>cA X ?_⟩
 simp only[gO];refine⟨bf (by simp;lia),λp2 u=>cA u ?_⟩
 have e:bj 60 (.lst (L++[.tup [.int (C.many:Nat),.tup [.int 0,.int 1]],.tup [.int ((C.many:Nat)+1),.tup [.int 0,.int 1]]]))=true:=by
  rw[<- g,<- BD c.hs c.ht];exact BI
 simp only[bX,dv,e,xj _ _ e];exact⟨trivial,trivial,h⟩
end
theorem yZ(ad:Ad)(S:W7)(hl:S.length<=63):Ax ad [.ml (S.map D.int)] (λ_=>cm) (λd _=>d=.bl true) ii:=by
 have G:∀{v:Int}{M:Mem}{Q:DK},Q (.int v) M->frz (.int v) M Q:=λz=>z;rw[No];unfold xc;generalize w:iP ad (aG ii)=K13;simp only[ai,ar,aj,aa,af,ac,dt];refine⟨rfl,aq λQ' E' O _=>CG λk M1 hk _=>O _ _ ?_⟩;simp only[ag,OH];rw[<- w];unfold iP;generalize A:iy ad (aG ii)=K12;simp only[ai,ar,ao,aj,aa,af,ah,ac,dC,dt,Oo];refine⟨rfl,aN hk (by decide) (by decide) λr M2 a2 b2 d2=>G ?_⟩
 simp only[aW];obtain⟨few,m,W,R⟩:∃few:Nat,1+r=(few:Int)/\1<=few/\few<=5:=⟨(1+r).toNat,by lia,by lia,by lia⟩
 rw[m];refine⟨rfl,aq λQ' E' O _=>zB W R d2.1 λC s t M3 c q3=>O _ _ (Cn ?_)⟩;obtain⟨a,b,L,J,f⟩:=c.two;have hu:=c.un;have B:=@Lu C s t;have F:=@Ay C;simp only[ag,OH];rw[<- A];unfold iy;generalize g:iU ad (aG ii)=K11;simp only[ai,ar,ac,dt,Oo,B,fG,b6,ag,eY,OH];refine⟨rfl,?_⟩;rw[<- B,<- g];unfold iU;generalize u:iK ad (aG ii)=K10;have sg:=λ(Q:DK)=>oO (ad:=ad) (E:=aG ii) (M:=M3) (Q:=Q) c.o c.hs c.ht L J f (by lia)
 have s1:=uW c.o c.hs c.ht L J f (by lia)
 have Y:∀i,-1000000000000000<=bR (aA C s t).length (df C s t a b) i/\bR (aA C s t).length (df C s t a b) i<=1000000000000000:=λi=>
  yF (by lia) (OQ ui<|Po (n:=2) (j:=7) (by decide)<|by lia) gr
 have lm:=λ(d0 d1 d2 d8 d9 d10 d11:Option D)(D':DEnds)(np:eF C.rows)=>CF (ad:=ad) (M:=M3) (EE:=aG ii) (D':=D') (d0:=d0) (d1:=d1) (d2:=d2) (d8:=d8) (d9:=d9) (d10:=d10) (d11:=d11) c R np L J f;have e:∀(Q:DK)(U:Dl),U[2]?=ap (ap<|bF C s t)->Q (.lst<|An (aA C s t) (aA C s t).length<|bR (aA C s t).length<|df C s t a b) M3->ao (aj (jz ad) (aG ii) 2<|aa (ac 2)<|aa (dC<|.int 2000) af) U M3 Q:=λQ U N q=>by
  have:=sg Q q;simp only[ao,aj,aa,ac,dC,af,dt]at this ⊢;rw[N];exact this
 simp only[ai];unfold ar;refine e _ _ rfl ?_;simp only[ag,OH];rw[<- u];unfold iK;generalize I:lD ad (aG ii)=K9;simp only[ai,ar,dC,ag,OH];rw[<- I];unfold lD;generalize H:li ad (aG ii)=K8;simp only[ai,cF,bG,ac,dt,Oo,aI,bE];have P:An (aA C s t) (aA C s t).length (bR (aA C s t).length<|df C s t a b)=((aA C s t).zipIdx 0).map λp=>D.tup [kD p.1,yL (aA C s t).length (bR (aA C s t).length<|df C s t a b) p.2]:=rfl;generalize hT:bR (aA C s t).length (df C s t a b)=T at *;rw[P];refine yw (n:=(aA C s t).length) (T:=T) (by lia) (λ_=>aS) _ 0 1 cm cm (λp _=>Y p.2) (by decide) ?_ λv d10 d11=>?_
 .rw[EK,s1];simp
 rw[<- P,<- H];unfold li;generalize K:kI ad (aG ii)=K7;simp only[ai,aH,ak,ah,ac,dt,Oo,jy,dv,bj,aP];refine⟨trivial,trivial,?_⟩;rw[if_neg (by simp)]
 simp only[aE];rw[<- K];unfold kI;generalize X:iu ad (aG ii)=K6 at *;obtain⟨Z,r2,r3⟩:=yV c.one c.o.m1 (show ((C.many:Nat):Int)<=40 by have:=c.h1;lia) c.o.ok c.o.h (by have:=c.cn;lia)
 rw[F];simp only[ai,aH,A6,ak,ah,ac,dC,bu,aa,af,dt,Oo,au,aI,atI_2,atI_3,sy,j7,az]
 split
 .simp only[az,dC,if_true]
  exact am rfl
 .simp only[pJ,G9]
  refine⟨Z,r2,r3,?_⟩;cases hc:Rn (da<|.tup<|aw C.rows).shown "'pick'" with
  |true=>
   simp only[if_true];exact am rfl
  |false=>
   simp only[OI,if_false,aE];rw[<- F];refine lm _ _ _ _ _ _ _ _ (NM hc) ?_;dsimp only;exact am rfl
def Ca(K:Ow):Sp:=λc H Q _=>∃(a:eg)(ns:W7),c=[.ref a]/\B_ H/\SqL K H a (ns.map V.int)/\ns.length<=63/\∀H',Q (.bl true) H'
theorem IJ{l:W.OpenLaw}{w:g3}{K:Ow}{h:hI}{mg:Xf}{fa C_Ends C_Going C_Outcome C_Walk C_Dry C_NoCase C_TooMany f1 f2 f3 f4 f5 f6 f7 f8 f9 f10 f11 f12 f13 f14 f15 f16 f17 f18 f19 f20 f21 f22 f23 f24 f25 f26 f27 f28 f29 f30 f31 f32 f33 f34 f35 f36 f37 f38 f39 f40 f41 f42 f43 f44 f45 f46 f47 f48 f49 f50 f51 f52 f53 f54 f55 f56 f57 f58 f59 f60 f61 f62 f63:eg}(X:K.In h)(G:h.Ns fv mg)(hfa:mg "law"=ap (.ref fa)){e1 e2 e3 e4 e5 e6 e7 e8 e9 e10 e11 e12 e13 e14 e15 e16 e17 e18 e19 e20 e21 e22 e23 e24 e25 e26 e27 e28 e29 e30 e31 e32 e33 e34 e35 e36 e37 e38 e39 e40 e41 e42 e43 e44 e45 e46 e47 e48 e49 e50 e51 e52 e53 e54 e55 e56 e57 e58 e59 e60 e61 e62 e63:g4}(z:P8 K fv "Ends"=ap (ap<|.ref C_Ends))(p:P8 K fv "Going"=ap (ap<|.ref C_Going))(j:P8 K fv "Outcome"=ap (ap<|.ref C_Outcome))(u:P8 K fv "Walk"=ap (ap<|.ref C_Walk))(J:P8 K fv "Dry"=ap (ap<|.ref C_Dry))(o:P8 K fv "NoCase"=ap (ap<|.ref C_NoCase))(i:P8 K fv "TooMany"=ap (ap<|.ref C_TooMany))(l1:Mf K C_Walk "__init__" "Walk.__init__" NT f1 e1)(l2:Mf K C_Walk "note_step" "Walk.note_step" LU f2 e2)(l3:Mf K C_Walk "look" "Walk.look" GD f3 e3)(l4:Nf K "run" Hm f4 e4)(l5:Nf K "mark" Hc f5 e5)(l6:Nf K "do_rows" GP f6 e6)(l7:Af K "do_row_runs" "do_row" Hw f7 e7)(l8:Nf K "do_if" HA f8 e8)(l9:Nf K "do_again" Gi f9 e9)(l10:Nf K "number_of" Hz f10 e10)(l11:Nf K "piece_read" HU f11 e11)(l12:Nf K "joined" Hn f12 e12)(l13:Nf K "all_things" Gq f13 e13)(l14:Nf K "in_order" Hg f14 e14)(l15:Nf K "number_in" HP f15 e15)(l16:Nf K "names_read" Gw f16 e16)(l17:Nf K "unlike" He f17 e17)(l18:Nf K "marks" Hj f18 e18)(l19:Nf K "unlike_of" Gb f19 e19)(l20:Nf K "verdict_of" GY f20 e20)(l21:Mf K C_Going "__init__" "Going.__init__" NJ f21 e21)(l22:Mf K C_Going "settled" "Going.settled" MJ f22 e22)(l23:Mf K C_Ends "__init__" "Ends.__init__" Nj f23 e23)(l24:Mf K C_Ends "one_more" "Ends.one_more" MC f24 e24)(l25:Nf K "start" Hv f25 e25)(l26:Nf K "put_ahead" Gy f26 e26)(l27:Nf K "go_on" GO f27 e27)(l28:Nf K "asked_by" GH f28 e28)(l29:Af K "do_row_trees" "do_row" Gg f29 e29)(l30:Nf K "mark_of" HQ f30 e30)(l31:Nf K "both_ways" Hl f31 e31)(l32:NV K "tree" HV f32 e32 (500))(l33:Nf K "grown" HS f33 e33)(l34:Mf K C_Outcome "__init__" "Outcome.__init__" MH f34 e34)(l35:Nf K "outcomes" GX f35 e35)(l36:Nf K "numbers_of" Hu f36 e36)(l37:NV K "shares" Hb f37 e37 (500))(l38:Nf K "mean_of" HD f38 e38)(l39:Nf K "orders_of" Gf f39 e39)(l40:Nf K "orders_up_to" HL f40 e40)(l41:Nf K "in_lowest_terms" Mg f41 e41)(l42:Nf K "_law_stirred" HR f42 e42)(l43:Nf K "_law_pot" Gz f43 e43)(l44:Nf K "_law_draw" GW f44 e44)(l45:Nf K "_law_names" Hk f45 e45)(l46:Nf K "_law_row" HK f46 e46)(l47:Nf K "_law_block" Hh f47 e47)(l48:Nf K "_law_rows" GQ f48 e48)(l49:Nf K "_law_plan" HE f49 e49)(l50:Nf K "_law_stand" GG f50 e50)(l51:Nf K "_law_becomes" Nq f51 e51)(l52:Nf K "_law_stepped" HB f52 e52)(l53:Nf K "_law_rounds" GL f53 e53)(l54:Nf K "_law_done" GU f54 e54)(l55:Nf K "_law_run" HG f55 e55)(l56:Nf K "_law_flat" Ht f56 e56)(l57:Nf K "_law_marks" Hy f57 e57)(l58:Nf K "_law_other" Hd f58 e58)(l59:Nf K "_law_by_name" GT f59 e59)(l60:Nf K "_law_by_piece" MY f60 e60)(l61:Nf K "_law_case" Gj f61 e61)(l62:Nf K "_law_common" GB f62 e62)(N:Nf K "law" jI f63 e63)(VP:UK K C_Dry [.type "ValueError",.type "Exception",.type "BaseException",.type "object"] "ValueError.__new__"=true)(Vv:UK K C_NoCase [.type "ValueError",.type "Exception",.type "BaseException",.type "object"] "ValueError.__new__"=true)(Vu:UK K C_TooMany [.type "ValueError",.type "Exception",.type "BaseException",.type "object"] "ValueError.__new__"=true)(VC:Ri K C_Ends S8=true)(VD:Rt K C_Ends=true)(VE:RY K C_Ends=true)(VF:Pp K (.ref C_Ends) "__setattr__"=ap (ap<|.builtin "object.__setattr__"))(VG:Se K C_Ends=true)(VH:P4 K (.ref C_Ends)=true)(Vw:Ri K C_Going S8=true)(Vx:Rt K C_Going=true)(Vy:RY K C_Going=true)(Vz:Pp K (.ref C_Going) "__setattr__"=ap (ap<|.builtin "object.__setattr__"))(VA:Se K C_Going=true)(VB:P4 K (.ref C_Going)=true)(Vo:Ri K C_Outcome S8=true)(Vp:Rt K C_Outcome=true)(Vq:RY K C_Outcome=true)(Vr:Pp K (.ref C_Outcome) "__setattr__"=ap (ap<|.builtin "object.__setattr__"))(Vs:Se K C_Outcome=true)(Vt:P4 K (.ref C_Outcome)=true)(VI:Ri K C_Walk S8=true)(VJ:Rt K C_Walk=true)(VL:RY K C_Walk=true)(VM:Pp K (.ref C_Walk) "__setattr__"=ap (ap<|.builtin "object.__setattr__"))(VN:Se K C_Walk=true)(VO:P4 K (.ref C_Walk)=true)(Vh:Pp K (.ref C_Ends) "count"=ap cm)(Vi:Pp K (.ref C_Ends) "limit"=ap cm)(Vj:Pp K (.ref C_Going) "left"=ap cm)(Vc:Pp K (.ref C_Going) "numbers"=ap cm)(Ve:Pp K (.ref C_Going) "pieces"=ap cm)(Vk:Pp K (.ref C_Going) "todo"=ap cm)(U9:Pp K (.ref C_Going) "unsettled"=ap cm)(Vb:Pp K (.ref C_Outcome) "faulty"=ap cm)(Vd:Pp K (.ref C_Outcome) "sound"=ap cm)(Va:Pp K (.ref C_Outcome) "verdict"=ap cm)(Vm:Pp K (.ref C_Walk) "most"=ap cm)(Vf:Pp K (.ref C_Walk) "numbers"=ap cm)(Vg:Pp K (.ref C_Walk) "pieces"=ap cm)(Vn:Pp K (.ref C_Walk) "plan"=ap cm)(Vl:Pp K (.ref C_Walk) "steps"=ap cm)(U:P8 K fv "abs"=ap cm)(I:P8 K fv "dict"=ap cm)(f:P8 K fv "enumerate"=ap cm)(c:P8 K fv "isinstance"=ap cm)(R:P8 K fv "len"=ap cm)(L:P8 K fv "list"=ap cm)(S:P8 K fv "max"=ap cm)(P:P8 K fv "min"=ap cm)(A:P8 K fv "range"=ap cm)(B:P8 K fv "repr"=ap cm)(g:P8 K fv "reversed"=ap cm)(Y:P8 K fv "str"=ap cm)(O:P8 K fv "sum"=ap cm)(q:P8 K fv "tuple"=ap cm)(Z:P8 K fv "zip"=ap cm):
  ∃fd:g4,(∀(s:el)(v:ay),Wi s fd ⟨[v],[]⟩ [("script",v)])/\∀m:hI,K.In m->m.Ns fv mg->FnOk l.prog w K mg m CX0 35 fa fd ["script"] (Ca K):=by
 have e:=hfa.symm.trans (RI X G N.a);cases e;obtain⟨_,_,kV,dc,pm,an,cd,ct,_,rfl,_⟩:=N.F.ex;refine⟨Rj "law" "law" (bZ jI) (bw jI) (aQ jI) .none kV dc pm an cd ct,λs v=>.of_eq rfl,λm _ _=>?_⟩
 let ad:Ad:=⟨C_Ends,C_Going,C_Outcome,C_Walk,C_Dry,C_NoCase,C_TooMany,f1,f2,f3,f4,f5,f6,f7,f8,f9,f10,f11,f12,f13,f14,f15,f16,f17,f18,f19,f20,f21,f22,f23,f24,f25,f26,f27,f28,f29,f30,f31,f32,f33,f34,f35,f36,f37,f38,f39,f40,f41,f42,f43,f44,f45,f46,f47,f48,f49,f50,f51,f52,f53,f54,f55,f56,f57,f58,f59,f60,f61,f62,fa,e1,e2,e3,e4,e5,e6,e7,e8,e9,e10,e11,e12,e13,e14,e15,e16,e17,e18,e19,e20,e21,e22,e23,e24,e25,e26,e27,e28,e29,e30,e31,e32,e33,e34,e35,e36,e37,e38,e39,e40,e41,e42,e43,e44,e45,e46,e47,e48,e49,e50,e51,e52,e53,e54,e55,e56,e57,e58,e59,e60,e61,e62,Rj "law" "law" (bZ jI) (bw jI) (aQ jI) .none kV dc pm an cd ct⟩
 have T:En l.prog w K mg m ad:=⟨⟨VC,VD,VE,VF⟩,
  RI X G z,
  ⟨Vw,Vx,Vy,Vz⟩,
  RI X G p,
  ⟨Vo,Vp,Vq,Vr⟩,
  RI X G j,
  ⟨VI,VJ,VL,VM⟩,
  RI X G u,
  Vh,
  Vi,
  Vj,
  Vc,
  Ve,
  Vk,
  U9,
  Vb,
  Vd,
  Va,
  Vm,
  Vf,
  Vg,
  Vn,
  Vl,
  h7 X VP,
  RI X G J,
  h7 X Vv,
  RI X G o,
  h7 X Vu,
  RI X G i,
  PM X G U,
  PM X G I,
  PM X G f,
  PM X G c,
  PM X G R,
  PM X G L,
  PM X G S,
  PM X G P,
  PM X G A,
  PM X G B,
  PM X G g,
  PM X G Y,
  PM X G O,
  PM X G q,
  PM X G Z,
  gi VN VO l1,
  gm l2,
  gm l3,
  gf X G l4,
  gf X G l5,
  gf X G l6,
  ga X G l7,
  gf X G l8,
  gf X G l9,
  gf X G l10,
  gf X G l11,
  gf X G l12,
  gf X G l13,
  gf X G l14,
  gf X G l15,
  gf X G l16,
  gf X G l17,
  gf X G l18,
  gf X G l19,
  gf X G l20,
  gi VA VB l21,
  gm l22,
  gi VG VH l23,
  gm l24,
  gf X G l25,
  gf X G l26,
  gf X G l27,
  gf X G l28,
  ga X G l29,
  gf X G l30,
  gf X G l31,
  gv X G l32 rfl λ_ _ _ _ _ _ _ _=>⟨λ_=>⟨_,rfl,rfl⟩,λ_ _=>⟨_,rfl,rfl⟩⟩,
  gf X G l33,
  gi Vs Vt l34,
  gf X G l35,
  gf X G l36,
  gv X G l37 rfl λ_ _ _ _ _ _ _ _=>⟨λ_=>⟨_,rfl,rfl⟩,λ_ _=>⟨_,rfl,rfl⟩⟩,
  gf X G l38,
  gf X G l39,
  gf X G l40,
  gf X G l41,
  gf X G l42,
  gf X G l43,
  gf X G l44,
  gf X G l45,
  gf X G l46,
  gf X G l47,
  gf X G l48,
  gf X G l49,
  gf X G l50,
  gf X G l51,
  gf X G l52,
  gf X G l53,
  gf X G l54,
  gf X G l55,
  gf X G l56,
  gf X G l57,
  gf X G l58,
  gf X G l59,
  gf X G l60,
  gf X G l61,
  gf X G l62,
  gf X G N⟩
 exact(Jn<|Ix T).imp λvs H Q E ⟨a,ns,e,hO,hS,hl,k⟩=>by subst e;exact Fh hO hS (yZ ad ns hl) k
theorem walk{l:W.OpenLaw}{q:fx}{loose:W8}{XP:(Str->Option ay)->hI->Prop}{YP:g3->hI->Prop}{d:DefRec}{K:Params->Ow}(p:l.most=ap 63)(g:d.params.defaults=[])(v:∀(w:g3)(h:hI),YP w h->(K w.params).In h)(F:∀(w:g3)(e:Xf)(fa:eg)(h:hI),(K w.params).In h->h.Ns fv e->e d.name=ap (.ref fa)->
   ∃fd:g4,(∀(s:el)(u:ay),Wi s fd ⟨[u],[]⟩ [("script",u)])/\∀c:hI,(K w.params).In c->c.Ns fv e->FnOk l.prog w (K w.params) e c CX0 35 fa fd ["script"] (Ca<|K w.params)):
  W.WalkO q loose XP YP l.row.toRowW d [] (λf vs=>UJ f vs):=
 _2.Dx (n:=63) (k:=35) (x:="script") (CX:=λ_=>CX0) (sp:=λw=>Ca (K w.params)) p (by decide) g ⟨rfl,by decide,by decide,rfl⟩ v F (λ_ _ a i m o j=>⟨a,i,rfl,o,j,m,λ_=>rfl⟩) λ_ _ _ _ _ z=>z
end _T
open PySem PySem.W PyProof.Rows
structure PySem.W.Fast:Prop where
 (tw7103689247721251636 tw7124466163671743953 tw5736935699331260406 tw14821059038102020348 tw721181917251441749 tw2043618365275159104 tw16731881048962977580 tw698992375867191055 tw8212322202168942616 tw16241222141461820758 tw14081658490968135100 tw4966269989060349958 tw17712251570810434277 tw12220608172179934983 tw9769643576942894309 tw17275379435724337638 tw16719953117392881777 tw11527530950588750117 tw10180475241208329910 tw10108886131117100457 tw7372351961377397980 tw14398559174541004340 tw10908268143174518801 tw16460744747176659810 tw2604389797969549786 tw405957506349635617 tw1325700988581343664 tw8573374847452154078 tw14671096045006950275 tw16346809765590006223 tw16116127740761961175 tw11016880410322123185 tw12952223458796415474 tw16554849810108028613 tw9554505367664367769 tw17699337693818262798 tw6993355331538598510 tw8832025580725735865 tw13233542442323437168 tw13441000161822493010 tw8460086293149712881 tw7364403405777816313 tw10403543853273497772 tw15682153338925139424 tw13469804615079768243 tw4371326352151275165 tw17290726095499577625 tw6138611339230022776 tw837484624214239568 tw3482389702171312905 tw8702534939455890454 tw10010277639316277302 tw10351386913981931019 tw2979578984353124804 tw10547675816188875408 tw5965478164916532441 tw8340115758188534983 tw17705853207014389648 tw7575193744916915334 tw17838848450930975263 tw7838818395173168140 tw17692178252627316279 tw12691343498263510280 tw8793517167352110492 tw17047781311082301493 tw417351613643927349 tw10319711842741331488 tw3586564731096239861 tw14447506083489107122 tw3156137606540221627 tw687122881171129672 tw7603256784585347709 tw2809204520888867130 tw14674867781081509649 tw10045098460299076420 tw17673176990658590366 tw4138620340872668974 tw712096770411407280 tw7502389583200667794 tw16457392493134369072 tw1274995162270238871 tw550359947752965525 tw5349716780025221891 tw9493532730631927806 tw4356997897346940155 tw3960794812284898445 tw7689645266734500227 tw15453747911652470979 tw5745318244500426497 tw8091468930377195934 tw12294959515589692896 tw5713229921986896964 tw7454835030105226622 tw6780124645031030428 tw3651816364860434081 tw4999167719288092623 tw10609162787350514872 tw1059667690073184679 tw15384634426683734840 tw377916025411647264 tw10734005156959279655 tw8989820601350451564 tw9127630401514621534 tw9947080209445995943 tw17864038402735486439 tw17655436333689500018 tw5404306038834091873 tw18219173778090367787 tw310282354004220131 tw14770461977104246294 tw10864054991523651856 tw18413487114814778343 tw7585356374421457555 tw13157934664474307832 tw13846417351233320437 tw12797184296098143718 tw16462389843103180372 tw6173715677148519157 tw2204498150144242378 tw14467429148656080531 tw2166213928351480319 tw9727343306050043078 tw2100014833427395318 tw18107891333346587630 tw12682808418011331194 tw10615999515377815935 tw8520903162803505100 tw5806626831685634906 tw2787523542814721946 tw17231861497820982473 tw17754769868870428610 tw18064210881569982102 tw10990408709175015621 tw8399255758100239931 tw7738222885033993467 tw8933410211107539885 tw6933705664351054850 tw10375357423418487131 tw9319776165861486395 tw16928165097984363076 tw14535111710989912746 tw10450444057191851157 tw481787065052884062 tw11293867737480018757 tw4495555697035399560 tw3057873208632895112 tw851554462791960827 tw12756674917775011251 tw8433883680035709257 tw2093354806627201050 tw9972189782134204168 tw7870624743346588405 tw132298991321557040 tw3537154804231236925 tw715799621129279553 tw7377024446998620856 tw2432674293123387404 tw15618341473071352523 tw7458662904063875664 tw13332141017130654242 tw1617853135064889764 tw16855322687757010974 tw6510864649443204253 tw47207099423063389 tw6422244121054649118 tw7182468460638637904 tw6196396418870494025 tw12832147932576037086 tw7479445785983206889 tw12731949649012458918 tw7971041958701158734 tw17525348382792419245 tw3598075989533560664 tw10513164283243521576 tw7589112772501278825 tw4352974317866142236 tw1990450024632748012 tw1058325948654216889 tw9701134055147219395 tw6596574674074802569 tw274569815223382346 tw5159103591635300165 tw6396405783008323275 tw10860447300969493175 tw17264098014500698942 tw6920161672804899644 tw4404043528894778920 tw5978502332290941312 tw9239314022079923151 tw7378274027856619310 tw706101863395808175 tw10933879174710942232 tw11956470258765326399 tw740739399263647394 tw14802893224406589787 tw459865855501163339 tw2305546197614072195 tw18387215179697756194 tw17305404994986474197:True)
set_option maxRecDepth 100000 in
set_option maxHeartbeats 0 in
theorem PySem.Challenge.cw_twinstride_k53_whole_shares_come_to_one_holds : PySem.Challenge.rw_twinstride_k53_whole_shares_come_to_one.Holds := by
 w_on;o_law;k_head;(case hw=>w_witness2)
 k_fill
 refine _T.walk (l:=PySem.Challenge.rw_twinstride_k53_whole_shares_come_to_one) rfl rfl (λw h Y=>W.kIn_of Y) ?F
 case F=>
  intro w b fa h KX G a;refine' _T.IJ KX G a ..
  any_goals k_is
  any_goals (first|refine' _3.Nf.mk ?_ (_2.vI ?_ ?_ ?_)|refine' _3.Mf.mk ?_ ?_ (_2.vI ?_ ?_ ?_)|refine' _3.Af.mk ?_ (_2.vI ?_ ?_ ?_)|refine' _3.Mu ?_ ?_ ?_ ?_ ?_)
  any_goals k_is
  any_goals k_exc
