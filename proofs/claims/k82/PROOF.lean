import PyProof.Rows.All
import Wide.All
import OpenK.AllK
import Wide.FinOn
import Lean
import PyProof.EqAt
import PyProof.EqKinds
import PyProof.TupleCall
import PySem.Challenge.RW_twinstride_k82_whole_woven_does_either
set_option Elab.async false
set_option linter.all false
set_option maxRecDepth 100000
set_option maxHeartbeats 4000000
set_option compiler.extract_closed false
set_option Elab.async false
set_option linter.all false
set_option maxRecDepth 100000
open Array renaming length_toList->MP,getElem?_toList->Nz,replicate->Oc,toList->OP,append_assoc->P0,getD_eq_getD_getElem?->Qs,getElem?_eq_some_iff->QA
open Bool renaming false_eq_true->Mr,and_eq_true->MA,false_ne_true->MC,beq_eq_decide_eq->MM,not_true->Nc,and_true->OJ,and_false->OW,not_false->PH,true_and->PY,false_or->PZ,not_eq_true'->P9,decide_and->Qr,false_and->QH,or_false->QS
open Classical renaming byContradiction->Qk,not_not->Q7
open False renaming elim->Nt
open ForInStep renaming yield->O6
open Int renaming toNat_natCast->MI,emod_lt_of_pos->OA,emod_nonneg->OO,eq_ofNat_of_zero_le->Pc,natCast_add->Qz
open List renaming getElem?_cons_zero->dt,getElem?_cons_succ->Mb,length_cons->Mc,length_map->Md,length_append->Mg,replicate->Mh,getElem?_eq_getElem->Mi,size_toArray->Ml,mem_cons->Mm,map_cons->Mo,mem_append->Ms,set->Mu,length_nil->Mv,getElem?_map->Mw,append_nil->Mx,mem_cons_of_mem->Mz,append_assoc->MG,mem_singleton->MH,mem_map_of_mem->MJ,mem_append_right->MK,length->MN,mem_map->MS,getElem?_eq_some_iff->MU,not_mem_nil->MV,lookup->MW,singleton_append->MX,replicate_succ->MZ,getElem?_append_right->Nb,foldl_cons->Nh,cons_append->Nk,length_filter_le->Np,mem_cons_self->Nu,map_append->Nx,getElem?_append_left->Ny,length_singleton->NA,any_cons->ND,nodup_cons->NG,take_of_length_le->NI,getD_eq_getElem?_getD->NM,getElem?_eq_none->NN,findIdx?_eq_some_iff_getElem->NO,pairwise_iff_getElem->NP,drop_eq_getElem_cons->NQ,nil_append->NR,find?_cons->NS,replicate_succ'->NU,nodup_append->NV,mem_of_getElem?->NW,map_map->NX,filterMap_cons->N3,eq_nil_of_length_eq_zero->N7,toArray->N9,pairwise_cons->Oa,flatten_cons->Oh,range->Ol,mem_append_left->Om,getElem_map->Oo,findIdx?_eq_none_iff->Ov,findIdx?_cons->Oz,map_nil->OB,length_replicate->OD,length_take->OF,getElem_mem->OG,getElem?_zipIdx->OK,map_congr_left->ON,mem_range->OV,getElem?_replicate->O8,filter_cons->O9,drop_eq_nil_of_le->Ph,of_mem_zip->Pp,mem_filter->Pq,filter_nil->Pr,nodup_nil->PF,getElem_of_mem->PL,zip_cons_cons->P4,take_succ_eq_append_getElem->P6,ext_getElem?->P7,any_eq_false->P8,eraseIdxIfInBounds_toArray->Qd,range'_succ->Qh,lookup_cons->Qi,all_eq_true->Qj,take_succ->QF,drop_zero->QG,getElem?_eq_none_iff->QJ,getElem?_take_of_lt->QR,getElem_cons_zero->Q1,getElem?_set_self->Q4,drop_of_length_le->Q5,mem_iff_getElem?->Rf,getElem?_toArray->Rg,dropLast_eq_take->Rh,countP_mono_left->Ri,cons_lt_cons_iff->Rj,range'->Rq,map->Rr,getElem?_set_ne->Rt,mem_filterMap->RE
open List.Pairwise renaming nil->Pu
open List.Perm renaming refl->Qe,mem_iff->Q6,append->Rk,cons->Rz
open List.cons renaming injEq->My
open Nat renaming le_refl->Mn,ne_of_lt->MB,le_trans->ME,lt_of_lt_of_le->MF,lt_irrefl->MT,zero_le->MY,lt_or_ge->Nl,zero_add->NF,le_add_right->NL,ne_of_gt->NY,le_of_lt->NZ,le_of_not_lt->Ou,not_lt_zero->Oy,lt_succ_self->OI,lt_succ_of_lt->O5,not_lt->Po,lt_trans->Qb,le_of_eq->Qc,le_succ->Qq,min_self->Rc
open Ne renaming symm->ML
open Option renaming map_eq_some_iff->Nd,map_some->Ox,isSome_map->O0,getD_none->RD
open Option.some renaming inj->MQ,injEq->Pz
open Prod renaming fst->Rn,ext->Ro
open Prod.mk renaming injEq->Qy
open PyProof.Rows renaming callWith_type1->Ng,slot_tuple_getitem->Ni,callWith_builtin1->PD,tail_any->Qm,StrsAre->Qp,envOfC->Qx
open PyProof.Rows.F renaming plain_set_update_loop->Oe,entry_set_update_loop->O4
open PySem renaming mem_of_lookup->NH,Within->QT,call->Ru,list_append->RA
open PySem.Around renaming under_plainId->Oi,under->P2
open PySem.AutoSeq1 renaming sub_tuple_tuple->OU,idx_int->P1
open PySem.Builtin.Dict renaming updateFrom->Qa
open PySem.Builtin.List renaming listExtendWith->N5,listTooLong->OM,listLengthHint->PX,listItems->Qg
open PySem.Builtin.Slice renaming slicePlaces->Od,sliceAdjust->OH,sliceApplied->PV
open PySem.Builtin.SmallTypes renaming nextOf->MR,ownedTupleHandOut->OT,ownedTupleIsFree->OZ,iterAll->Pw
open PySem.Builtin.Tuple renaming tupleExact->NK,tupleTooMany->PR,tupleItemsOf->PU
open PySem.Calls renaming callWith_builtin->Pb,evalArgs_plain->Py,spliced_cons->PQ,spliced_nil->P5,Name_function_global->Qw,call_function_entry->QE
open PySem.Code renaming isFrame->Q0
open PySem.Expr renaming Call->QX
open PySem.F renaming plainAttrs_list->N0,slot_tuple_mul->N4,slot_tuple_iterator_next->Ot,slot_list_getattribute->OC,slot_list_pop->OS,args_tuple_mul_2->OX,args_tuple_add_2->OY,entry_tuple_mul->O2,entry_tuple_add->O3,slot_tuple_add->O7,slot_zip_getattribute->Pn,slot_list_append->PJ,slot_dict_getitem->Qo,slot_tuple_index->Qv,slot_tuple_rmul->QC,slot_list_index->QD,args_tuple_iterator_next_1->QI,type_list_pop->QM,slot_int_rmul->QN,slot_dict_len->QO,entry_tuple_iterator_next->QP,slot_list_extend->Rb,slot_enumerate_next->RC
open PySem.Heap renaming get?_push_of_some->Me,lt_size->Mj,get?_push_size->Mt,size_push->Nq,SameBut->Nr,get?_update_self->Og,get?_update_other->Pg,ExtBut->Rl
open PySem.Heap.SameBut renaming update->Nv
open PySem.Obj renaming mapSeq->Nj
open PySem.Paired renaming length->NT
open PySem.PyData renaming keyHash->NJ
open PySem.SeqAt renaming EqAt->Pa,RcNeAt->QU,RcAt->Ry
open PySem.SeqAt.EqAt renaming str_int->QK,int_str->QL
open PySem.SeqAt.RcAt renaming lists_lengths->Qf,tuples->QW,lists->QZ
open PySem.SetTable renaming grown->Of,below->OL,insertAt->OR,has->PK,laid->Qn,layClean->Ra,Probe->RB
open PySem.SetTable.below renaming go->Pf
open PySem.SetTable.probe renaming go->Pe
open PySem.Str renaming ofString->Mq
open PySem.Value renaming ref->MD,none->Na,type->Nw,isStrOf->OE,bool->OQ,str->PB,int->PC,float->Q9
open PySem.W renaming Frag->Mp,mg_none_of->Nm,nsIn->NB,findIn->NC,keepIn->N6,mg_of->Oj,emptyDict->Oq,kia_one->Ow,instObj->O1,plainGet->Px,hasDictIn->PM,fnOf->PN,callWith_K->Ql,makesIn->Qt,hideAll->Qu,plainOver->QB,plainGet_of->Q8,excIn->Rx
open Std.Legacy renaming Range->QY
open Sum renaming inr->Ob,inl->Pj
open True renaming intro->N8
open Bool renaming false->eH
open Option renaming some->cb,none->ed
open PyProof.Rows renaming IntsAre->SG,AllBare->SH,seqObj->S1,listUpdate_at->Tu,subscriptTail_builtinR->TH,seqEpoch_at->TV
open PySem renaming Value->cx,wpAny_bind->cT,Shared->ee,Addr->eC,wpAny_pure->eP,wpAny->eT,starEach->fe,model->ft,mainGlobals->fx,bootBuiltins->fy,Program->gg,compareOp->g0,Expr->g1,eval->g3,Heap->g4,World->g5,Around->hB,FuncData->ka,wpAny_mono->kL,wpAny_holding->k6,backTo->lb,binaryOp->lq,wpAny_loadPart'->lu,attributeBase->mu,cLine->mv,wpAny_truthy_bool->nT,foldedSetIterable->n7,wpAny_Call_Name_kw->ol,call_meets->oo,sizeLine_eq->oD,sysModules->o4,swapsWith->pb,Stmt->pd,wpAny_field->pt,valueAt->pv,codeAny_mono->py,assignEach->qa,wpAny_passesOwn->qz,SetTable->q0,tupleKind->re,builtinLookup_eq_fast->sx,wpAny_seqItems->tL,codeAny->t0,wpAny_execs_nil->t9,codeAny_builtin->vr,wpAny_setField_rec->wh,wpAny_newTuple->w4,wpAny_newObj_type->x9,holding->No,Scope->NE,Keyword->On,wpAny_call_entry->Op,storedH->Os,sliceBounds->Pi,typeLookup_type->Ps,rawInt->Pv,wpAny_typeOf->PP,scanBound->P3,DictEntry->Re,wpAny_rule->Sc,typeLookup->Sy,tupleKind_room_in1->Sz,pyNext->SA,getattributeRaised->SB,backToKw->SC,wpAny_pyIter_list->SE,relabel->SF,plainId_quiet->SI,checkBuiltinCall->SJ,typeIs_str->SK,PlainAttrs->SL,Paired->SM,letOwnedTupleGo->SN,relayAll->SO,assign->SQ,Operator->SS,IsPart->SV,lastMarks->SW,getItem->SX,behindInMarks->SY,wpAny_pyIter_tuple->SZ,typeOf->S0,closureFor->S2,standAt->S3,getAttr?->S4,callerA->S5,wpAny_pyIter_zip->S6,wpAny_isInstance->S7,wpAny_execs_cons->S8,pyIter->S9,noFill_tuple_add->Ta,getMethod->Tb,Result->Tc,wpAny_of_eq->Td,IsZip->Te,wpAny_ite_split->Tf,BindsTo->Tg,wpAny_call->Th,isSubtype_type->Ti,atKey->Tj,NameKind->Tl,CmpOp->To,wpAny_standAt->Tp,wpAny_comprehension_free->Tq,seq_tuple_add->Tt,checkTypeCall->Tv,bindL->Tx,bindC->Tz,PassesOwn->TB,Meets->TC,wpAny_pyNext_list_item->TD,wpAny_Call_method_late->TF,seqIndex_neg->TJ,isTrue->TL,concat_meets->TM,wpAny_pyNext_list_end->TN,wpAny_loadName_local->TQ,wpAny_letGo->TR,seqIndex_of->TU,field->TW,codeAny_call_builtin->TX
open PySem.W renaming kas_rev->TK
noncomputable abbrev Uf:=List (List Int)
noncomputable abbrev Ug:=List Int
noncomputable abbrev Uh:=List PySem.Str
noncomputable abbrev Ui:=List cx
noncomputable abbrev Uj:=List eC
noncomputable abbrev Uk:=List g1
noncomputable abbrev Ul:=List pd
noncomputable abbrev Um:=cx->ee->Prop
noncomputable abbrev Uo:=List (eC×PySem.Obj)
noncomputable abbrev Uq:=PySem.Str->Option cx
noncomputable abbrev Ur:=Array cx
local macro_rules|`(tactic|lia)=>`(tactic|first|(with_reducible first|assumption|exact Nat.le_add_right _ _|exact Nat.le_trans (by assumption) (by decide +kernel)|exact Nat.lt_of_le_of_lt (by assumption) (by decide +kernel)|exact Int.le_of_lt (by assumption))|decide +kernel|lia -abstractProof)
noncomputable section
namespace _2
open PySem PySem.Spec PyProof.Rows
variable{C a b dx f:eC}{A:hB}{op:To}{X:Cx}{c e tg:g1}{fd:ka}{o:HO}{base h h':g4}{H H':Hp}{T0:Uo}{kw:List (Str×cx)}{ch fp:Uj}{es:Uk}{body:Ul}{N ps:Uh}{us:Ui}{M:Model}{K:Mp}{i t':Nat}{p pos pos':Pos}{P:gg}{r:R2}{pl:Sem Bool}{s:ee}{sp:Sp}{Z:St}{m x:Str}{mA mg:Uq}{ta tb te:TE}{u:cx}{E Q:Um}{w:g5}{CX:pT}
noncomputable abbrev bh:=Sum Int Str
noncomputable def nD:bh->cx->Bool
 |.inl k,v=>Value.isInt k v
 |.inr x,v=>OE x v
noncomputable def keyH(w:g5):bh->Int
 |.inl k=>hashInt k
 |.inr x=>hashStr w x
theorem bB:∀{k:bh}{v:cx},nD k v=true->(∃i t,k=Pj i/\v=PC i t)\/(∃x t,k=Ob x/\v=PB x t)
 |.inl i,v,h=>by
  obtain⟨t,e⟩:=Value.isInt_shape (k:=i) (v:=v) h;exact .inl ⟨i,t,rfl,e⟩
 |.inr x,v,h=>by
  obtain⟨t,e⟩:=Value.isStrOf_shape (x:=x) (v:=v) h;exact .inr ⟨x,t,rfl,e⟩
theorem yq(i:Int)(t:Tok):nD (.inl i) (.int i t)=true:=by simp[nD,Value.isInt]
theorem yv(x:Str)(t:Tok):nD (.inr x) (.str x t)=true:=by simp[nD,OE]
theorem Jk(a b:Int):decide ((Pj a:bh)=Pj b)=(a==b):=by
 by_cases e:a=b
 .subst e;simp
 .have h:¬(Pj a:bh)=Pj b:=λq=>e (Sum.inl.inj q)
  rw[decide_eq_false h];exact(beq_eq_false_iff_ne.mpr e).symm
theorem G7(a b:Str):decide ((Ob a:bh)=Ob b)=decide (a=b):=by
 by_cases e:a=b
 .subst e;simp
 .have h:¬(Ob a:bh)=Ob b:=λq=>e (Sum.inr.inj q)
  rw[decide_eq_false h,decide_eq_false e]
theorem HL(a:Int)(b:Str):decide ((Pj a:bh)=Ob b)=false:=decide_eq_false (λq=>nomatch q)
theorem HY(a:Str)(b:Int):decide ((Ob a:bh)=Pj b)=false:=decide_eq_false (λq=>nomatch q)
noncomputable def aP(prog:gg)(w:g5):PySem.KeyKind prog w bh where
 is:=nD
 hash:=keyH w
 inj:=λv a b q l=>by
  rcases bB q with⟨i,t,rfl,rfl⟩|⟨x,t,rfl,rfl⟩
  .rcases bB l with⟨j,u,rfl,e⟩|⟨y,u,rfl,e⟩
   .injection e with e1 _;rw[e1]
   .exact nomatch e
  .rcases bB l with⟨j,u,rfl,e⟩|⟨y,u,rfl,e⟩
   .exact nomatch e
   .injection e with e1 _;rw[e1]
 byValue:=λk v h=>by
  rcases bB h with⟨i,t,rfl,rfl⟩|⟨x,t,rfl,rfl⟩<;>rfl
 pyHash:=λg h=>by
  rcases bB g with⟨i,t,rfl,rfl⟩|⟨x,t,rfl,rfl⟩
  .exact wpAny_pyHash_int h
  .exact wpAny_pyHash_str h
 eqBool:=λn g h=>by
  rcases bB n with⟨i,t,rfl,rfl⟩|⟨x,t,rfl,rfl⟩
  .rcases bB g with⟨j,u,rfl,rfl⟩|⟨y,u,rfl,rfl⟩
   .rw[Jk]at h;exact wpAny_eqBool_int h
   .rw[HL]at h;exact QL i t y u _ _ _ _ h
  .rcases bB g with⟨j,u,rfl,rfl⟩|⟨y,u,rfl,rfl⟩
   .rw[HY]at h;exact QK x t j u _ _ _ _ h
   .rw[G7]at h;exact wpAny_eqBool_str h
 «strs»:=λk x t v h=>by
  rcases bB h with⟨i,u,rfl,e⟩|⟨y,u,rfl,e⟩
  .exact nomatch e
  .injection e with e1 _
   subst e1;cases v<;>rfl
theorem qR(prog:gg)(w:g5)(i:Int)(t:Tok):(aP prog w).is (.inl i) (.int i t)=true:=yq i t
theorem su(prog:gg)(w:g5)(x:Str)(t:Tok):(aP prog w).is (.inr x) (.str x t)=true:=yv x t
inductive V where
 |non|bl (b:Bool)|int (i:Int)|str (x:Str)|byt (b:Array UInt8)|flt (b:UInt64)|ref (a:eC)|ty (n:String)
 deriving DecidableEq
def RelV:V->cx->Prop
 |.non,u=>u=Na
 |.bl b,u=>u=OQ b
 |.int i,u=>∃t,u=PC i t
 |.str x,u=>∃t,u=PB x t
 |.byt b,u=>∃t,u=Value.bytes b t
 |.flt b,u=>∃t,u=Q9 b t
 |.ref a,u=>u=MD a
 |.ty n,u=>u=Nw n
abbrev Vals:List V->List cx->Prop:=SM RelV
theorem Vals.length{xs:List V}(r:Vals xs us):xs.length=us.length:=NT r
theorem Vals.get:∀{xs:List V}{us:Ui}{i:Nat}{x:V},Vals xs us->xs[i]?=cb x->∃u,us[i]?=cb u/\RelV x u
 |_,_,_,_,.nil,e=>by simp at e
 |_,_,0,_,.cons r _,e=>by simp at e;subst e;exact⟨_,rfl,r⟩
 |_,_,i+1,x,.cons _ t,e=>by
  obtain⟨u,g,j⟩:=Vals.get (i:=i) (x:=x) t (by simpa using e)
  exact⟨u,by simpa using g,j⟩
theorem Vals.set{x:V}{u:cx}(r:RelV x u):∀{xs:List V}{us:Ui}(i:Nat),Vals xs us->Vals (xs.set i x) (us.set i u)
 |_,_,_,.nil=>.nil
 |_,_,0,.cons _ t=>.cons r t
 |_,_,i+1,.cons q t=>.cons q (Vals.set r i t)
theorem Vals.append:∀{xs ys:List V}{us g:Ui},Vals xs us->Vals ys g->Vals (xs++ys) (us++g)
 |_,_,_,_,.nil,s=>s
 |_,_,_,_,.cons r t,s=>.cons r (Vals.append t s)
theorem Vals.take:∀{xs:List V}{us:Ui}(n:Nat),Vals xs us->Vals (xs.take n) (us.take n)
 |_,_,0,_=>.nil
 |_,_,_+1,.nil=>.nil
 |_,_,n+1,.cons r t=>.cons r (Vals.take n t)
theorem Vals.drop:∀{xs:List V}{us:Ui}(n:Nat),Vals xs us->Vals (xs.drop n) (us.drop n)
 |_,_,0,r=>r
 |_,_,_+1,.nil=>.nil
 |_,_,n+1,.cons _ t=>Vals.drop n t
def RelO:Option V->Option cx->Prop
 |some v,cb u=>RelV v u
 |none,ed=>True
 |_,_=>False
def KV{κ:Type}:List (κ×V)->List (κ×cx)->Prop:=SM λ(p:κ×V)(q:κ×cx)=>p.1=q.1/\RelV p.2 q.2
def kV:bh->V
 |.inl i=>.int i
 |.inr x=>.str x
inductive HO where
  |lst (xs:List V)
  |tup (xs:List V)
  |dK (T5:List (bh×V))|dT (T5:List (List bh×V))
  |set (S:Int->Bool) (n:Nat)
  |ins (C dx:eC) (fs:List (Str×V))
  |own (x:eC)
  |xd (fs:List (Str×V))
  |met (f x:eC)
  |rng (lo hi:Int)
  |frz (o:Obj) (u:HO)
  |tbl (ps:Ur)
  |ext (φ:g4->Prop)
noncomputable abbrev Hp:=eC->Option HO
noncomputable def upd(H:Hp)(a:eC)(o:HO):Hp:=λb=>if b=a then cb o else H b
theorem upd_same:upd H a o a=cb o:=by unfold upd;rw[if_pos rfl]
theorem aE(h:b≠a):upd H a o b=H b:=by unfold upd;rw[if_neg h]
theorem Lj{u:HO}(h:H a=cb o)(h':H b=cb u)(d:o≠u):a≠b:=by
 intro e;subst e;rw[h]at h';exact d (MQ h')
theorem aS(h:H a=cb o)(h':H b=ed):a≠b:=by
 intro e;subst e;rw[h]at h';cases h'
section
variable(P:gg)(w:g5)
def ObjOk(H:Hp)(h:g4)(a:eC):HO->Prop
 |.lst xs=>xs.length<=sizeLine/\∃(Ua:Ui)(n:Nat),Vals xs Ua/\h.get? a=cb { cls:=.type "list",data:=.seq Ua.toArray n }
 |.tup xs=>xs.length<=sizeLine/\∃Ua:List cx,Vals xs Ua/\∃o,h.get? a=cb o/\(o.cls=.type "tuple"/\∃n,o.data=.seq Ua.toArray n)/\o.dict=ed
 |.dK T5=>T5.length<=sizeLine/\(a==o4)=eH/\∃vs,KV T5 vs/\h.DictOf (aP P w) a vs
 |.dT T5=>T5.length<=sizeLine/\(a==o4)=eH/\∃xs:List (List bh×eC×cx),
   SM (λ(p:List bh×V)(q:List bh×eC×cx)=>p.1=q.1/\H q.2.1=cb (.tup<|p.1.map kV)/\RelV p.2 q.2.2) T5 xs/\
   ∃o es ep,h.get? a=cb o/\o.ExactDict/\o.data=.dict es ep/\es.toList=xs.map (entryOfKey<|tupleKind<|aP P w)/\(xs.map (·.1)).Nodup
 |.set S n=>h.SetOf (intKind P w) a S n
 |.ins C dx fs=>H dx=cb (.own a)/\fs.length<=1000/\dx≠a/\h.get? a=cb (O1 C dx)/\
   ∃mA,h.Ns1 dx mA/\(∀f,RelO (fs.lookup f) (mA f))/\QT mA (fs.map (·.1))
 |.own _=>∃o,h.get? a=cb o
 |.xd fs=>∃mA,h.Ns1 a mA/\∀f,RelO (fs.lookup f) (mA f)
 |.rng lo hi=>∃t u v,h.get? a=cb { cls:=.type "range",data:=.fields #[.int lo t,.int hi u,.int 1 v] }
 |.frz o u=>h.get? a=cb o/\ObjOk H h a u
 |.tbl ps=>h.get? a=cb { cls:=.none,data:=.fields ps }
 |.met f x=>h.get? a=cb (W.methodObj (.ref f)<|.ref x)
 |.ext φ=>φ h/\(∃o,h.get? a=cb o)/\∀h1 h2:g4,φ h1->(∀o,h1.get? a=cb o->h2.get? a=cb o)->φ h2
def HOk(H:Hp)(h:g4):Prop:=∀a o,H a=cb o->ObjOk P w H h a o
end
section
theorem ObjOk.lt(x:ObjOk P w H h a o):a<h.objs.size:=by
 cases o with
 |lst xs=>obtain⟨_,_,_,_,e⟩:=x;exact Mj e
 |tup xs=>obtain⟨_,_,_,_,e,_⟩:=x;exact Mj e
 |dK T5=>obtain⟨_,_,_,_,o,_,_,e,_⟩:=x;exact Mj e
 |dT T5=>obtain⟨_,_,_,_,o,_,_,e,_⟩:=x;exact Mj e
 |set S n=>obtain⟨o,_,_,_,e,_⟩:=x;exact Mj e
 |ins C dx fs=>obtain⟨_,_,_,e,_⟩:=x;exact Mj e
 |own y=>obtain⟨_,e⟩:=x;exact Mj e
 |xd fs=>obtain⟨_,⟨_,_,_,e,_⟩,_⟩:=x;exact Mj e
 |rng lo hi=>obtain⟨_,_,_,e⟩:=x;exact Mj e
 |frz ob u=>obtain⟨e,_⟩:=x;exact Mj e
 |tbl ps=>exact Mj (show h.get? a=cb _ from x)
 |met f y=>exact Mj (show h.get? a=cb _ from x)
 |ext φ=>obtain⟨_,⟨_,e⟩,_⟩:=x;exact Mj e
theorem dI{n l:Type}{F G:n->l->Prop}:∀{j:List n}{g:List l},SM F j g->(∀a b,F a b->G a b)->SM G j g
 |_,_,.nil,_=>.nil
 |_,_,.cons r t,f=>.cons (f _ _ r) (dI t f)
theorem ObjOk.stay(x:ObjOk P w H h a o)(k:∀b u,(b=a\/H b=cb (.own a))->h.get? b=cb u->h'.get? b=cb u)(L:∀b,H b=cb (.own a)->H' b=cb (.own a))(J:∀b xs,H b=cb (.tup xs)->H' b=cb (.tup xs)):ObjOk P w H' h' a o:=by
 induction o with
 |lst xs=>obtain⟨z,l,n,r,e⟩:=x;exact⟨z,l,n,r,k _ _ (.inl rfl) e⟩
 |tup xs=>obtain⟨z,l,r,g,e,c⟩:=x;exact⟨z,l,r,g,k _ _ (.inl rfl) e,c⟩
 |dK T5=>obtain⟨z,y,G,r,g,es,j,e,c⟩:=x;exact⟨z,y,G,r,g,es,j,k _ _ (.inl rfl) e,c⟩
 |dT T5=>
  obtain⟨z,y,xs,r,g,es,j,e,c⟩:=x;exact⟨z,y,xs,dI r λp q z=>⟨z.1,J _ _ z.2.1,z.2.2⟩,g,es,j,k _ _ (.inl rfl) e,c⟩
 |set S n=>obtain⟨g,es,j,t,e,c⟩:=x;exact⟨g,es,j,t,k _ _ (.inl rfl) e,c⟩
 |ins C dx fs=>
  obtain⟨d,z,ne,e,mA,⟨B,es,j,I,c⟩,r⟩:=x;exact⟨L _ d,z,ne,k _ _ (.inl rfl) e,mA,⟨B,es,j,k _ _ (.inr d) I,c⟩,r⟩
 |own y=>obtain⟨g,e⟩:=x;exact⟨g,k _ _ (.inl rfl) e⟩
 |xd fs=>obtain⟨mA,⟨B,es,j,e,c⟩,r⟩:=x;exact⟨mA,⟨B,es,j,k _ _ (.inl rfl) e,c⟩,r⟩
 |rng lo hi=>obtain⟨t,u,v,e⟩:=x;exact⟨t,u,v,k _ _ (.inl rfl) e⟩
 |frz g u ih=>obtain⟨e,q⟩:=x;exact⟨k _ _ (.inl rfl) e,ih q⟩
 |tbl ps=>
  have e:h.get? a=cb { cls:=.none,data:=.fields ps }:=x;show h'.get? a=cb { cls:=.none,data:=.fields ps };exact k a _ (.inl rfl) e
 |met f y=>
  have e:h.get? a=cb (W.methodObj (.ref f)<|.ref y):=x;show h'.get? a=cb (W.methodObj (.ref f)<|.ref y);exact k a _ (.inl rfl) e
 |ext φ=>obtain⟨p,⟨o,e⟩,F⟩:=x;exact⟨F _ _ p λo q=>k _ _ (.inl rfl) q,⟨o,k _ _ (.inl rfl) e⟩,F⟩
theorem HOk.lt(x:HOk P w H h)(e:H a=cb o):a<h.objs.size:=(x a o e).lt
theorem HOk.fresh(x:HOk P w H h)(e:h.objs.size<=a):H a=none:=by
 cases q:H a with
 |none=>rfl
 |some u=>exact absurd (MF (x.lt q) e) (MT _)
theorem HOk.kept(x:HOk P w H h)(k:∀b u,h.get? b=cb u->h'.get? b=cb u):HOk P w H h':=λa o e=>
 (x a o e).stay (λb u _ q=>k b u q) (λ_ q=>q) λ_ _ q=>q
theorem HOk.laid(x:HOk P w H h)(k:∀b u,h.get? b=cb u->h'.get? b=cb u)(l:h.objs.size<=a)(new:ObjOk P w (upd H a o) h' a o):HOk P w (upd H a o) h':=λb u e=>by
 have j:=x.fresh l
 by_cases g:b=a
 .subst g;rw[upd_same]at e;cases e;exact new
 .rw[aE g]at e
  exact(x b u e).stay (λc v _ q=>k c v q) (λc q=>by rw[aE (aS q j)];exact q) λc n q=>by rw[aE (aS q j)];exact q
end
def Rd(H:Hp)(a:eC)(u:HO):Prop:=H a=cb u\/∃o,H a=cb (.frz o u)
theorem Rd.ok{u:HO}(r:Rd H a u)(x:HOk P w H h):ObjOk P w H h a u:=by
 rcases r with r|⟨o,r⟩
 .exact x a u r
 .obtain⟨_,q⟩:=x a _ r
  exact q
def Kx:Option HO->Prop
 |some (.lst _)=>True
 |some (.dK _)=>True
 |some (.dT _)=>True
 |some (.set _ _)=>True
 |some (.ins _ _ _)=>True
 |some (.ext _)=>True
 |_=>False
section
variable{x e:eC}{o':HO}
theorem HOk.write(ok:HOk P w H h)(F:Kx (H x))(J:e=x\/H e=cb (.own x))(k:∀b u,b≠e->h.get? b=cb u->h'.get? b=cb u)(G:∃u,h'.get? e=cb u)(new:ObjOk P w (upd H x o') h' x o'):HOk P w (upd H x o') h':=λb u q=>by
 have j:∀c y,H c=cb (.own y)->c≠x:=λc y r z=>by subst z;rw[r]at F;exact F
 have l:∀c n,H c=cb (.tup n)->c≠x:=λc n r z=>by subst z;rw[r]at F;exact F
 by_cases B:b=x
 .subst B;rw[upd_same]at q;cases q;exact new
 .rw[aE B]at q
  by_cases g:b=e
  .have I:H b=cb (.own x):=by
    rcases J with z|z
    .exact absurd (g.trans z) B
    .rw[g];exact z
   rw[q]at I;cases I;obtain⟨v,L⟩:=G;exact⟨v,by rw[g];exact L⟩
  .refine (ok b u q).stay (λc v hc r=>k c v ?_ r) (λc r=>by rw[aE (j c b r)];exact r) λc n r=>by rw[aE (l c n r)];exact r
   rcases hc with rfl|hc
   .exact g
   .rintro rfl
    rcases J with z|z
    .exact j c b hc z
    .rw[hc]at z;cases z;exact B rfl
end
structure Un(fs ex:Uj)(H H':Hp)(h h':g4):Prop where
 keep:∀b o,h.get? b=cb o->H b=ed->b∉fs->b∉ex->h'.get? b=cb o
 slot:∀b o,h.get? b=cb o->H b=ed->b∈fs->b∉ex->∃sl,h'.get? b=cb { o with slots:=sl }
 free:∀b o,h.get? b=cb o->H b=ed->b∉ex->H' b=ed
 there:∀b o,h.get? b=cb o->b∉ex->∃o',h'.get? b=cb o'
 tups:∀b xs,H b=cb (.tup xs)->H' b=cb (.tup xs)
 frzs:∀b o u,H b=cb (.frz o u)->H' b=cb (.frz o u)
 tbls:∀b ps,H b=cb (.tbl ps)->∃T7,H' b=cb (.tbl (ps++T7))
section
variable{fs fs' ex ex':Uj}{H1 H2:Hp}{h1 h2:g4}{x e:eC}
theorem Un.any(u:Un fs ex H H1 h h1){g:Obj}(q:h.get? b=cb g)(n:H b=ed)(l:b∉ex):∃v,h1.get? b=cb { g with slots:=v }:=by
 by_cases j:b∈fs
 .exact u.slot b g q n j l
 .exact⟨g.slots,u.keep b g q n j l⟩
theorem Un.kept(k:∀b u,h.get? b=cb u->h'.get? b=cb u):Un fs ex H H h h':=
 ⟨λb g q _ _ _=>k b g q,λb g q _ _ _=>⟨g.slots,k b g q⟩,λ_ _ _ n _=>n,λb g q _=>⟨g,k b g q⟩,λ_ _ q=>q,λ_ _ _ q=>q,λ_ ps q=>⟨#[],by rw[q];simp⟩⟩
theorem Un.refl:Un fs ex H H h h:=Un.kept λ_ _ q=>q
theorem Un.laid(k:∀b u,h.get? b=cb u->h'.get? b=cb u)(l:h.objs.size<=a)(g:H a=ed):Un fs ex H (upd H a o) h h' where
 keep:=λb u q _ _ _=>k b u q
 slot:=λb u q _ _ _=>⟨u.slots,k b u q⟩
 free:=λb u q n _=>by rw[aE (MB<|MF (Mj q) l)];exact n
 there:=λb u q _=>⟨u,k b u q⟩
 tups:=λb j q=>by rw[aE (aS q g)];exact q
 frzs:=λb u j q=>by rw[aE (aS q g)];exact q
 tbls:=λb ps q=>⟨#[],by rw[aE (aS q g),q];simp⟩
theorem Un.write(j:Kx (H x))(G:e=x\/H e=cb (.own x))(k:∀b u,b≠e->h.get? b=cb u->h'.get? b=cb u)(v:∃u,h'.get? e=cb u):Un fs ex H (upd H x o) h h':=by
 have y:∀b,H b=ed->b≠x:=λb n z=>by subst z;rw[n]at j;exact j
 have B:∀b,H b=ed->b≠e:=λb n z=>by
  subst z;rcases G with r|r
  .exact y b n r
  .rw[n]at r;cases r
 have l:∀b u,H b=cb u->¬Kx (cb u)->b≠x:=λb u q nm z=>by subst z;rw[q]at j;exact nm j
 refine⟨λb u q n _ _=>k b u (B b n) q,λb u q n _ _=>⟨u.slots,k b u (B b n) q⟩,λb u q n _=>by rw[aE (y b n)];exact n,λb u q _=>?_,
  λb F q=>by rw[aE (l b _ q λz=>z)];exact q,λb u F q=>by rw[aE (l b _ q λz=>z)];exact q,λb ps q=>⟨#[],by rw[aE (l b _ q λz=>z),q];simp⟩⟩
 by_cases g:b=e
 .subst g;exact v
 .exact⟨u,k b u g q⟩
end
noncomputable def trk(h:g4)(H:Hp):List Addr:=(Ol h.objs.size).filter λa=>(H a).isSome
noncomputable def oW(h:g4)(H:Hp):Heap:=Qu h (trk h H)
theorem yk(h:g4)(H:Hp):(oW h H).objs.size=h.objs.size:=W.hideAll_size _ _
theorem Ak{o:Obj}(e:h.get? b=cb o)(n:H b=ed):(oW h H).get? b=cb o:=
 W.hideAll_get _ e λg=>by
  have q:(H b).isSome=true:=(Pq.mp g).2;rw[n]at q;simp at q
theorem E5{o:Obj}(e:(oW h H).get? b=cb o):h.get? b=cb o/\H b=none:=by
 have g:h.get? b=cb o:=W.of_hideAll (trk h H) e;refine⟨g,?_⟩;cases q:H b with
 |none=>rfl
 |some x=>
  have j:b∈trk h H:=Pq.mpr ⟨OV.mpr (Mj g),by simp[q]⟩
  have z:(oW h H).get? b=none:=W.hideAll_none (trk h H) j;rw[z]at e;cases e
structure Mod(K:Mp)(mg:Uq)(base:g4):Prop where
 kin:K.In base
 glob:base.Ns fx mg
 blt:∃mb,base.Ns builtinsNs mb/\∀x:Str,x≠"__name__"->mb x=fy x
 nolimit:base.NoLimit
structure Cx where
 prog:gg
 w:g5
 K:Mp
 mg:Str->Option cx
 base:g4
 A:hB
 N:List Str
 s₀:ee
 H₀:Hp
 env:Env
 outer:List Env
 stack:List Env
 ex:List eC
 fn:Str->Bool
 calm:Bool
 pn:List (eC×Obj)
 xe:cx->ee->Prop
noncomputable def fW(l:List Env):List Addr:=l.filterMap (·.frame)
noncomputable abbrev Cx.fs(X:Cx):List Addr:=fW X.outer
def Jq(sc:NE)(x:Str):Prop:=sc.names.lookup x=cb .local\/sc.names.lookup x=cb .cell\/sc.names.lookup x=cb .free
def yZ(sc:NE)(x:Str):Prop:=sc.names.lookup x=cb .local\/sc.names.lookup x=cb .cell
def Look(env:Env)(h:g4)(m:Uq)(x:Str)(u:cx):Prop:=
 (env.kindOf x=cb .local/\m x=cb u)\/((env.kindOf x=cb .cell\/env.kindOf x=cb .free)/\∃c,env.cells.lookup x=cb c/\h.IsCell c (cb u))
structure Cx.Ok(X:Cx):Prop where
 mod:Mod X.K X.mg X.base
 kind:X.env.scope.kind=.function
 glob:X.env.globals=fx
 blt:X.env.builtins=builtinsNs
 above:X.s₀.heap.objs.size<=X.env.locals
 inj:∀x y c,X.env.cells.lookup x=cb c->X.env.cells.lookup y=cb c->x=y
 has:∀x,(X.env.kindOf x=cb .cell\/X.env.kindOf x=cb .free)->∃c,X.env.cells.lookup x=cb c
 cab:∀x c,X.fn x=true->X.env.cells.lookup x=cb c->X.s₀.heap.objs.size<=c
 hd:X.calm=true->X.A.handled=ed
 frames:X.A.frames=cb X.stack
 stk:X.stack=X.outer\/(X.stack=X.env::X.outer/\X.env.frame=cb X.env.locals)
 exf:∀b∈X.ex,b≠X.env.locals/\∀x c,X.env.cells.lookup x=cb c->c≠b
 bs:∀b o,X.base.get? b=cb o->X.s₀.heap.get? b=cb o/\X.H₀ b=ed
 bsz:X.base.objs.size<=X.s₀.heap.objs.size
 noex:∀b o,X.base.get? b=cb o->b∉X.ex
 exfs:∀b∈X.ex,b∉X.fs
 funs:X.s₀.heap.FunFrames X.base X.outer
 frf:∀b∈X.fs,X.H₀ b=ed
structure Inv(X:Cx)(T0:Uo)(Z:List (Option V))(H:Hp)(s:ee):Prop where
 ok:X.Ok
 os:s.os=X.s₀.os
 bare:SH s.gens
 base:Un X.fs X.ex X.H₀ H X.s₀.heap s.heap
 loc:∃m,s.heap.Ns X.env.locals m/\∀(i:Nat)(x:Str)(v:V),X.N[i]?=cb x->Z[i]?=cb (cb v)->Jq X.env.scope x->∃u,RelV v u/\Look X.env s.heap m x u
 cell:∀x c,X.env.cells.lookup x=cb c->∃v,s.heap.IsCell c v
 free:H X.env.locals=ed
 freeC:∀x c,X.env.cells.lookup x=cb c->H c=ed
 pin:∀p∈X.pn++T0,s.heap.get? p.1=cb p.2/\H p.1=ed/\p.1≠X.env.locals/\p.1∉X.fs/\∀v,p.2.data≠.cell v
 hok:HOk X.prog X.w H s.heap
 len:Z.length=X.N.length
section
variable{Z:List (Option V)}
theorem Cx.Ok.nofr(ok:X.Ok){o:Obj}(e:X.base.get? b=cb o):b∉X.fs:=λg=>by
 have:=(ok.funs.mem g).1;rw[e]at this;cases this
theorem Inv.bs(I:Inv X T0 Z H s):∀b o,X.base.get? b=cb o->s.heap.get? b=cb o/\H b=none:=λb o e=>
 ⟨I.base.keep b o (I.ok.bs b o e).1 (I.ok.bs b o e).2 (I.ok.nofr e) (I.ok.noex b o e),I.base.free b o (I.ok.bs b o e).1 (I.ok.bs b o e).2<|I.ok.noex b o e⟩
theorem Inv.bk(I:Inv X T0 Z H s):∀b o,X.base.get? b=cb o->s.heap.get? b=cb o:=λb o e=>(I.bs b o e).1
theorem Inv.mod(I:Inv X T0 Z H s):Mod X.K X.mg X.base:=I.ok.mod
theorem Inv.kIn(I:Inv X T0 Z H s):X.K.In s.heap:=I.ok.mod.kin.keeps I.bk
theorem Inv.lt(I:Inv X T0 Z H s):X.env.locals<s.heap.objs.size:=let ⟨_,hn,_⟩:=I.loc;hn.lt
theorem Inv.sz(I:Inv X T0 Z H s):X.s₀.heap.objs.size<=s.heap.objs.size:=ME I.ok.above (NZ I.lt)
theorem Inv.nofs(I:Inv X T0 Z H s)(h:s.heap.objs.size<=a):a∉X.fs:=λg=>by
 obtain⟨_,o,j,_⟩:=I.ok.funs.mem g;exact absurd (MF (Mj j)<|ME I.sz h) (MT _)
theorem Inv.cne(I:Inv X T0 Z H s):∀x c,X.env.cells.lookup x=cb c->c≠X.env.locals:=λx c e z=>by
 obtain⟨v,o,n,l⟩:=I.cell x c e;obtain⟨m,⟨y,es,q,j,g,_⟩,_⟩:=I.loc;rw[z,j]at n;cases n;rw[g]at l;cases l
theorem Inv.funs(I:Inv X T0 Z H s):s.heap.FunFrames X.base X.outer:=by
 have all:∀(l:List Env),(∀b∈fW l,b∈X.fs)->X.s₀.heap.FunFrames X.base l->s.heap.FunFrames X.base l:=by
  intro l
  induction l with
  |nil=>intro _ _;trivial
  |cons env r ih=>
   intro q v;obtain⟨y,⟨L,o,n,B,J,G⟩,F⟩:=v;have g:L∈X.fs:=q L (by unfold fW;rw[N3,n];exact Nu)
   obtain⟨O,e⟩:=I.base.slot L o J (I.ok.frf L g) g λz=>I.ok.exfs L z g;exact⟨y,⟨L,_,n,B,e,G⟩,ih (λb j=>q b (by unfold fW;rw[N3,n];exact Mz _ j)) F⟩
 exact all X.outer (λ_ j=>j) I.ok.funs
theorem Inv.stack(I:Inv X T0 Z H s):s.heap.FunFrames X.base X.stack:=by
 rcases I.ok.stk with e|⟨e,hf⟩
 .rw[e];exact I.funs
 .rw[e]
  obtain⟨m,g,_⟩:=I.loc;refine .cons (by rw[I.ok.kind];decide) hf g ?_ I.funs
  exact Heap.get?_none_of_le (ME I.ok.bsz I.ok.above)
theorem Inv.stkSub(I:Inv X T0 Z H s):∀b∈fW X.stack,b∈X.env.locals::X.fs:=λb g=>by
 rcases I.ok.stk with e|⟨e,hf⟩
 .rw[e]at g;exact Mz _ g
 .rw[e]at g
  unfold fW at g;rw[N3,hf]at g;exact g
theorem Inv.stkFree(I:Inv X T0 Z H s):∀b∈fW X.stack,H b=none:=λb hb=>by
 rcases Mm.mp (I.stkSub b hb) with e|hb
 .rw[e];exact I.free
 .obtain⟨_,o,g,_⟩:=I.ok.funs.mem hb
  exact I.base.free b o g (I.ok.frf b hb) λz=>I.ok.exfs b z hb
theorem Inv.step{g':Array GenState}{t':Nat}{d':Drawn}(I:Inv X T0 Z H s)(B:∀b∈ch,(b∈X.ex\/X.s₀.heap.objs.size<=b)/\b≠X.env.locals/\(∀x c,X.env.cells.lookup x=cb c->c≠b)/\∀p∈X.pn++T0,p.1≠b)(keep:∀b o,b≠X.env.locals->b∉X.fs->b∉ch->s.heap.get? b=cb o->H b=ed->h'.get? b=cb o)(slot:∀b o,b≠X.env.locals->b∈X.fs->b∉ch->s.heap.get? b=cb o->H b=ed->∃Y,h'.get? b=cb { o with slots:=Y })(free:∀b o,b∉ch->s.heap.get? b=cb o->H b=ed->H' b=ed)(there:∀b o,b∉ch->s.heap.get? b=cb o->∃R,h'.get? b=cb R)(tups:∀b J,H b=cb (.tup J)->H' b=cb (.tup J))(frzs:∀b o u,H b=cb (.frz o u)->H' b=cb (.frz o u))(tbls:∀b ps,H b=cb (.tbl ps)->∃T7,H' b=cb (.tbl (ps++T7)))(ns:∀m,s.heap.Ns X.env.locals m->h'.Ns X.env.locals m)(hok:HOk X.prog X.w H' h')(hg:SH g'):
  Inv X T0 Z H' { s with heap:=h',gens:=g',drawn:=d',toks:=t' }:=by
 have S:∀b o,X.s₀.heap.get? b=cb o->b≠X.env.locals:=λb o e=>MB (MF (Mj e) I.ok.above);have F:∀b o,X.s₀.heap.get? b=cb o->b∉X.ex->b∉ch:=λb o e g L=>by
  rcases (B b L).1 with z|z
  .exact g z
  .exact absurd (MF (Mj e) z) (MT _)
 have y:∀x c,X.env.cells.lookup x=cb c->∀v,s.heap.IsCell c v->h'.IsCell c v:=λx c e v ⟨o,O,W⟩=>by
  have j:c∉ch:=λz=>(B c z).2.2.1 x c e rfl
  by_cases hc:c∈X.fs
  .obtain⟨Y,q⟩:=slot c o (I.cne x c e) hc j O (I.freeC x c e)
   exact⟨_,q,W⟩
  .exact⟨o,keep c o (I.cne x c e) hc j O (I.freeC x c e),W⟩
 refine⟨I.ok,I.os,hg,⟨λb o e n L g=>?_,λb o e n L g=>?_,λb o e n g=>?_,λb o e g=>?_,λb J e=>tups b J (I.base.tups b J e),λb o J e=>frzs b o J (I.base.frzs b o J e),λb ps e=>?_⟩,?_,λx c e=>?_,?_,λx c e=>?_,λp hp=>?_,hok,I.len⟩
 .exact keep b o (S b o e) L (F b o e g) (I.base.keep b o e n L g) (I.base.free b o e n g)
 .obtain⟨Y,G⟩:=I.base.slot b o e n L g
  obtain⟨U,T⟩:=slot b _ (S b o e) L (F b o e g) G (I.base.free b o e n g);exact⟨U,T⟩
 .obtain⟨R,G⟩:=I.base.there b o e g
  exact free b R (F b o e g) G (I.base.free b o e n g)
 .obtain⟨R,G⟩:=I.base.there b o e g
  exact there b R (F b o e g) G
 .obtain⟨m1,G⟩:=I.base.tbls b ps e
  obtain⟨m2,T⟩:=tbls b _ G;exact⟨m1++m2,by rw[T,P0]⟩
 .obtain⟨m,hn,hl⟩:=I.loc
  refine⟨m,ns m hn,λi x v G T e3=>?_⟩;obtain⟨u,r,l⟩:=hl i x v G T e3;refine⟨u,r,?_⟩;rcases l with l|⟨k,c,e,z⟩
  .exact .inl l
  .exact .inr ⟨k,c,e,y x c e _ z⟩
 .obtain⟨v,z⟩:=I.cell x c e
  exact⟨v,y x c e v z⟩
 .obtain⟨m,⟨o,_,_,O,_⟩,_⟩:=I.loc
  exact free _ o (λz=>(B _ z).2.1 rfl) O I.free
 .obtain⟨v,o,O,W⟩:=I.cell x c e
  exact free c o (λz=>(B c z).2.2.1 x c e rfl) O (I.freeC x c e)
 .obtain⟨e,n,ne,nf,d⟩:=I.pin p hp
  have j:p.1∉ch:=λz=>(B p.1 z).2.2.2 p hp rfl;exact⟨keep p.1 p.2 ne nf j e n,free p.1 p.2 j e n,ne,nf,d⟩
theorem Inv.un{t':Nat}(I:Inv X T0 Z H s)(u:Un X.fs [] H H' s.heap h')(v:HOk X.prog X.w H' h'):Inv X T0 Z H' { s with heap:=h',toks:=t' }:=by
 obtain⟨m,⟨o,es,L,y,r⟩,_⟩:=id I.loc;obtain⟨J,B⟩:=u.any y I.free (by simp)
 exact I.step (g':=s.gens) (d':=s.drawn) (ch:=[]) (λ_ z=>nomatch z) (λb o _ q _ e n=>u.keep b o e n q (by simp)) (λb o _ q _ e n=>u.slot b o e n q (by simp)) (λb o _ e n=>u.free b o e n (by simp)) (λb o _ e=>u.there b o e (by simp)) u.tups u.frzs u.tbls (λR F=>by
  obtain⟨O,j,l,g,G⟩:=F;rw[y]at g;cases g;exact⟨_,j,l,B,G⟩) v I.bare
theorem Inv.call{g':Array GenState}{t':Nat}{d':Drawn}(I:Inv X T0 Z H s)(u:Un (fW X.stack) ch H H' s.heap h')(B:HOk X.prog X.w H' h')(O:SH g')(l:∀b∈ch,(b∈X.ex\/X.s₀.heap.objs.size<=b)/\b≠X.env.locals/\(∀x c,X.env.cells.lookup x=cb c->c≠b)/\∀p∈X.pn++T0,p.1≠b):
  Inv X T0 Z H' { s with heap:=h',gens:=g',drawn:=d',toks:=t' }:=by
 obtain⟨m,⟨o,es,S,F,r⟩,_⟩:=id I.loc;obtain⟨R,q⟩:=u.any F I.free λz=>(l _ z).2.1 rfl;exact I.step (ch:=ch) l (λb o q G g e n=>u.keep b o e n (λz=>(Mm.mp<|I.stkSub b z).elim q G) g) (λb o _ _ g e n=>u.any e n g) (λb o g e n=>u.free b o e n g) (λb o g e=>u.there b o e g) u.tups u.frzs u.tbls (λU J=>by
  obtain⟨T,v,y,j,L⟩:=J;rw[F]at j;cases j;exact⟨_,v,y,q,L⟩) B O
theorem Inv.turned{t':Nat}{g:eC}(I:Inv X T0 Z H s)(k:∀b o,b≠g->s.heap.get? b=cb o->h'.get? b=cb o)(R:H g=ed)(y:g≠X.env.locals)(L:g∈X.ex\/X.s₀.heap.objs.size<=g)(h2:∀x c,X.env.cells.lookup x=cb c->c≠g)(O:∀p∈X.pn++T0,p.1≠g):Inv X T0 Z H { s with heap:=h',toks:=t' }:=by
 have l:∀b u,H b=cb u->b≠g:=λb u e z=>by rw[z,R]at e;cases e
 refine I.step (g':=s.gens) (d':=s.drawn) (ch:=[g]) (λb F=>?_) (λb o _ _ j e _=>k b o (λz=>j (by simp[z])) e) (λb o _ _ j e _=>⟨o.slots,k b o (λz=>j (by simp[z])) e⟩) (λ_ _ _ _ n=>n)
  (λb o j e=>⟨o,k b o (λz=>j (by simp[z])) e⟩) (λ_ _ e=>e) (λ_ _ _ e=>e) (λb ps e=>⟨#[],by rw[e];simp⟩) (λm G=>?_) (λb u e=>?_) I.bare
 .have e:b=g:=by simpa using F
  subst e;exact⟨L,y,h2,O⟩
 .obtain⟨o,es,B,J,r⟩:=G
  exact⟨o,es,B,k _ o (ML y) J,r⟩
 .refine (I.hok b u e).stay (λc v j q=>k c v ?_ q) (λ_ q=>q) λ_ _ q=>q
  rcases j with z|z
  .rw[z];exact l b u e
  .exact l c _ z
theorem Inv.tok(I:Inv X T0 Z H s)(t:Nat):Inv X T0 Z H { s with toks:=t }:=I.un (h':=s.heap) (t':=t) Un.refl I.hok
theorem Inv.kept{t':Nat}(I:Inv X T0 Z H s)(k:∀b u,s.heap.get? b=cb u->h'.get? b=cb u):Inv X T0 Z H { s with heap:=h',toks:=t' }:=I.un (Un.kept k) (I.hok.kept k)
theorem Inv.laid{t':Nat}(I:Inv X T0 Z H s)(k:∀b u,s.heap.get? b=cb u->h'.get? b=cb u)(g:s.heap.objs.size<=a)(new:ObjOk X.prog X.w (upd H a o) h' a o):
  Inv X T0 Z (upd H a o) { s with heap:=h',toks:=t' }:=I.un (Un.laid k g<|I.hok.fresh g) (I.hok.laid k g new)
theorem Inv.write{x e:eC}{t':Nat}(I:Inv X T0 Z H s)(j:Kx (H x))(l:e=x\/H e=cb (.own x))(k:∀b u,b≠e->s.heap.get? b=cb u->h'.get? b=cb u)(g:∃u,h'.get? e=cb u)(new:ObjOk X.prog X.w (upd H x o) h' x o):Inv X T0 Z (upd H x o) { s with heap:=h',toks:=t' }:=I.un (Un.write j l k g) (I.hok.write j l k g new)
theorem Inv.pins_of{g:Uo}(I:Inv X T0 Z H s)(h:∀p∈g,s.heap.get? p.1=cb p.2/\H p.1=ed/\p.1≠X.env.locals/\p.1∉X.fs/\∀v,p.2.data≠.cell v):Inv X g Z H s:=
 ⟨I.ok,I.os,I.bare,I.base,I.loc,I.cell,I.free,I.freeC,λp j=>(Ms.mp j).elim (λz=>I.pin p (Om _ z)) (h p),I.hok,I.len⟩
theorem rf(n:N.Nodup){j:Nat}(a:N[i]?=cb x)(b:N[j]?=cb x):i=j:=by
 obtain⟨q,g⟩:=MU.mp a;obtain⟨v,l⟩:=MU.mp b;exact(List.getElem_inj n).mp (g.trans l.symm)
theorem on{v:V}{Q:Unit->ee->Prop}(I:Inv X T0 Z H s)(hN:X.N.Nodup)(hi:X.N[i]?=cb x)(F:yZ X.env.scope x)(r:RelV v u)(h:∀s',Inv X T0 (Z.set i<|some v) H s'->(∃a,Nr a s.heap s'.heap/\(a=X.env.locals\/X.env.cells.lookup x=cb a))->Q () s')(hf:X.fn x=true\/X.env.scope.names.lookup x=cb .local:=by first|exact .inl rfl|exact .inr rfl|assumption):eT M A (storeName X.env x u) Q E s:=by
 obtain⟨m,hn,hl⟩:=id I.loc;have W:(X.env.scope.kind==.class||(X.env.scope.kind==.module&&X.env.locals != X.env.globals))=false:=by rw[I.ok.kind];rfl
 have L:i<Z.length:=by rw[I.len];exact(MU.mp hi).1
 have cne:=I.cne;have l:∀{a:eC}{h':g4},(∃o,s.heap.get? a=cb o/\H a=ed)->Nr a s.heap h'->HOk X.prog X.w H h':=λ{a h'} ha g b ob e=>by
  obtain⟨_,_,G⟩:=ha;refine (I.hok b ob e).stay (λc w' hc q=>(g.2 c ?_).trans q) (λ_ q=>q) λ_ _ q=>q
  rintro rfl
  rcases hc with rfl|hc
  .rw[G]at e;cases e
  .rw[G]at hc;cases hc
 rcases F with hk|hk
 .refine wpAny_storeName_local hk hn (λh' hn' g=>?_) W
  obtain⟨oL,_,_,hoL,_⟩:=id hn;refine h _ ⟨I.ok,I.os,I.bare,⟨λb o e n O F=>?_,λb o e n O F=>?_,I.base.free,λb o e F=>?_,I.base.tups,I.base.frzs,I.base.tbls⟩,⟨_,hn',λj y v' B J e3=>?_⟩,λy c e=>?_,I.free,I.freeC,λp hp=>?_,l ⟨oL,hoL,I.free⟩ g,by simpa using I.len⟩ ⟨_,g,.inl rfl⟩
  .exact(g.2 b<|MB<|MF (Mj e) I.ok.above).trans (I.base.keep b o e n O F)
  .obtain⟨sl,B⟩:=I.base.slot b o e n O F
   exact⟨sl,(g.2 b<|MB<|MF (Mj e) I.ok.above).trans B⟩
  .obtain⟨o',B⟩:=I.base.there b o e F
   exact⟨o',(g.2 b<|MB<|MF (Mj e) I.ok.above).trans B⟩
  .by_cases R:j=i
   .subst R
    rw[hi]at B;cases B;rw[Q4 L]at J;cases J;exact⟨u,r,.inl ⟨hk,by simp⟩⟩
   .rw[Rt (ML R)]at J
    obtain⟨u',r',q⟩:=hl j y v' B J e3;refine⟨u',r',?_⟩;rcases q with⟨k,e⟩|⟨k,c,e,z⟩
    .refine .inl ⟨k,?_⟩
     have:y≠x:=λe=>R (rf hN B (e▸hi));simp[this,e]
    .exact .inr ⟨k,c,e,z.sameBut g<|cne y c e⟩
  .obtain⟨w',z⟩:=I.cell y c e
   exact⟨w',z.sameBut g<|cne y c e⟩
  .obtain⟨e,n,ne,nf,d⟩:=I.pin p hp
   exact⟨(g.2 p.1 ne).trans e,n,ne,nf,d⟩
 .have S:X.fn x=true:=by
   rcases hf with z|z
   .exact z
   .rw[z]at hk;cases hk
  obtain⟨c,hc⟩:=I.ok.has x (.inl hk);obtain⟨w',z⟩:=I.cell x c hc;refine wpAny_storeName_cell I.ok.kind hk hc z (λh' T g=>?_);obtain⟨oc,hoc,U⟩:=id z;refine h { s with heap:=h' } ⟨I.ok,I.os,I.bare,⟨λb o e n O F=>?_,λb o e n O F=>?_,I.base.free,λb o e F=>?_,I.base.tups,I.base.frzs,I.base.tbls⟩,⟨m,hn.sameBut g (ML<|cne x c hc),λj y v' B J e3=>?_⟩,λy c' e=>?_,I.free,I.freeC,λp hp=>?_,l ⟨oc,hoc,I.freeC x c hc⟩ g,by simpa using I.len⟩ ⟨c,g,.inr hc⟩
  .exact(g.2 b<|MB<|MF (Mj e)<|I.ok.cab x c S hc).trans (I.base.keep b o e n O F)
  .obtain⟨sl,B⟩:=I.base.slot b o e n O F
   exact⟨sl,(g.2 b<|MB<|MF (Mj e)<|I.ok.cab x c S hc).trans B⟩
  .obtain⟨o',B⟩:=I.base.there b o e F
   exact⟨o',(g.2 b<|MB<|MF (Mj e)<|I.ok.cab x c S hc).trans B⟩
  .by_cases R:j=i
   .subst R
    rw[hi]at B;cases B;rw[Q4 L]at J;cases J;exact⟨u,r,.inr ⟨.inl hk,c,hc,T⟩⟩
   .rw[Rt (ML R)]at J
    obtain⟨u',r',q⟩:=hl j y v' B J e3;refine⟨u',r',?_⟩;rcases q with q|⟨k,c',e,z'⟩
    .exact .inl q
    .refine .inr ⟨k,c',e,z'.sameBut g ?_⟩
     rintro rfl
     exact R (rf hN B (I.ok.inj _ _ _ e hc▸hi))
  .by_cases Y:c'=c
   .subst Y;exact⟨_,T⟩
   .obtain⟨w2,z2⟩:=I.cell y c' e
    exact⟨w2,z2.sameBut g Y⟩
  .obtain⟨e,n,ne,nf,d⟩:=I.pin p hp
   refine⟨(g.2 p.1 ?_).trans e,n,ne,nf,d⟩;intro q;rw[q,hoc]at e;have q':oc=p.2:=MQ e;exact d w' (by rw[<- q'];exact U)
theorem mC{v:V}{Q:Unit->ee->Prop}(I:Inv X T0 Z H s)(g:X.N.Nodup)(l:X.N[i]?=cb x)(j:yZ X.env.scope x)(r:RelV v u)(h:∀s',Inv X T0 (Z.set i<|some v) H s'->Q () s')(n:X.fn x=true\/X.env.scope.names.lookup x=cb .local:=by first|exact .inl rfl|exact .inr rfl|assumption):eT M A (storeName X.env x u) Q E s:=
 on I g l j r (λs' I' _=>h s' I') n
theorem Inv.call'{s':ee}(I:Inv X T0 Z H s)(n:s'.os=s.os)(u:Un (fW X.stack) ch H H' s.heap s'.heap)(j:HOk X.prog X.w H' s'.heap)(q:SH s'.gens)(g:∀b∈ch,(b∈X.ex\/X.s₀.heap.objs.size<=b)/\b≠X.env.locals/\(∀x c,X.env.cells.lookup x=cb c->c≠b)/\∀p∈X.pn++T0,p.1≠b):Inv X T0 Z H' s':=by
 obtain⟨h',g',d',t',l⟩:=s';have e:l=s.os:=n;subst e;exact I.call (g':=g') (t':=t') (d':=d') u j q g
end
noncomputable abbrev XK:=cx->Option eC->Hp->Prop
noncomputable abbrev St:=List (Option V)
noncomputable abbrev VK:=V->Hp->Prop
noncomputable abbrev TE:=St->Hp->VK->Prop
noncomputable abbrev TT:=St->Hp->(Bool->Hp->Prop)->Prop
noncomputable abbrev TA:=St->Hp->(List V->Hp->Prop)->Prop
structure Ends where
 nx:St->Hp->Prop
 rt:VK
 bk:St->Hp->Prop:=λ_ _=>False
 ct:St->Hp->Prop:=λ_ _=>False
noncomputable abbrev TS:=Ends->St->Hp->Prop
inductive EP(X:Cx)(T0:Uo)(Z:St)(Q:VK)(u:cx)(s':ee):Prop
 |mk (v:V) (H':Hp) (h0:Inv X T0 Z H' s') (h1:RelV v u) (h2:Q v H'):EP X T0 Z Q u s'
inductive TP(X:Cx)(T0:Uo)(Z:St)(Q:Bool->Hp->Prop)(b:Bool)(s':ee):Prop
 |mk (H':Hp) (h0:Inv X T0 Z H' s') (h1:Q b H'):TP X T0 Z Q b s'
inductive AP(X:Cx)(T0:Uo)(Z:St)(Q:List V->Hp->Prop)(us:Ui)(s':ee):Prop
 |mk (vs:List V) (H':Hp) (h0:Inv X T0 Z H' s') (h1:Vals vs us) (h2:Q vs H'):AP X T0 Z Q us s'
def SP(X:Cx)(T0:Uo)(D:Ends)(f:Flow)(s':ee):Prop:=
 match f with
 |.next=>∃σ' H',Inv X T0 σ' H' s'/\D.nx σ' H'
 |.brk=>∃σ' H',Inv X T0 σ' H' s'/\D.bk σ' H'
 |.cont=>∃σ' H',Inv X T0 σ' H' s'/\D.ct σ' H'
 |.ret u=>∃v σ' H',Inv X T0 σ' H' s'/\RelV v u/\D.rt v H'
def PE(X:Cx)(e:g1)(t:TE):Prop:=
 ∀(T0:Uo)(s:ee)(Z:St)(H:Hp)(Q:VK),Inv X T0 Z H s->t Z H Q->eT (ft X.prog X.w) X.A (g3 e X.env) (EP X T0 Z Q) X.xe s
def PT(X:Cx)(e:g1)(t:TT):Prop:=
 ∀(T0:Uo)(s:ee)(Z:St)(H:Hp)(Q:Bool->Hp->Prop),Inv X T0 Z H s->t Z H Q->eT (ft X.prog X.w) X.A (TL e X.env<|eval e X.env) (TP X T0 Z Q) X.xe s
def PW(X:Cx)(e:g1)(t:TT):Prop:=
 ∀(whole:Sem cx)(T0:Uo)(s:ee)(Z:St)(H:Hp)(Q:Bool->Hp->Prop),Inv X T0 Z H s->t Z H Q->eT (ft X.prog X.w) X.A (TL e X.env whole) (TP X T0 Z Q) X.xe s
theorem LZ{t:TT}(h:PW X e t):PT X e t:=h _
def PA(X:Cx)(es:Uk)(t:TA):Prop:=
 ∀(pos:Pos)(T0:Uo)(s:ee)(Z:St)(H:Hp)(Q:List V->Hp->Prop),Inv X T0 Z H s->t Z H Q->eT (ft X.prog X.w) X.A (spliced<|backTo pos<|starEach es X.env) (AP X T0 Z Q) X.xe s
def PS(X:Cx)(st:pd)(t:TS):Prop:=
 ∀(T0:Uo)(s:ee)(Z:St)(H:Hp)(D:Ends),Inv X T0 Z H s->t D Z H->eT (ft X.prog X.w) X.A (exec st X.env) (SP X T0 D) X.xe s
def wx(X:Cx)(st:Ul)(t:TS):Prop:=
 ∀(T0:Uo)(s:ee)(Z:St)(H:Hp)(D:Ends),Inv X T0 Z H s->t D Z H->eT (ft X.prog X.w) X.A (execs st X.env) (SP X T0 D) X.xe s
theorem bC{g:Type}{t:Sem g}{Q Q':g->ee->Prop}(h:eT M A t Q E s)(j:∀a s,Q a s->Q' a s):eT M A t Q' E s:=kL h j λ_ _ x=>x
section
noncomputable def tVar(i:Nat):TE:=λZ H Q=>∃v,Z[i]?=cb (cb v)/\Q v H
noncomputable def tC(v:V):TE:=λ_ H Q=>Q v H
theorem Ig(z:X.N[i]?=cb x)(B:Jq X.env.scope x)(j:(x==("__debug__":Str))=false:=by decide)(hcd:(x==("__classdict__":Str))=false:=by decide):PE X (.Name x pos) (tVar i):=by
 intro T0 s Z H Q I h;obtain⟨v,e,h⟩:=h;obtain⟨m,y,q⟩:=I.loc;obtain⟨u,r,l⟩:=q i x v z e B;have g:EP X T0 Z Q u s:=⟨v,H,I,r,h⟩;rcases l with⟨hk,n⟩|⟨hk,c,hc,hcell⟩
 .exact wpAny_Name (TQ I.ok.kind hk y n g) j
 .rcases hk with hk|hk
  .exact wpAny_Name (wpAny_loadName_cell I.ok.kind hk hc hcell g) j
  .exact wpAny_Name (wpAny_loadName_free I.ok.kind hk hc hcell g hcd) j
theorem Ii{i j pos}:PE X (.Constant (.int i) j pos) (tC<|.int i):=λ_ _ _ H _ I h=>wpAny_Constant_int ⟨.int i,H,I.tok _,⟨_,rfl⟩,h⟩
theorem L9{b j pos}:PE X (.Constant (.bool b) j pos) (tC<|.bl b):=λ_ _ _ H _ I h=>Constant_bool ⟨.bl b,H,I,rfl,h⟩
theorem Jb{j pos}:PE X (.Constant .none j pos) (tC .non):=λ_ _ _ H _ I h=>Constant_none ⟨.non,H,I,rfl,h⟩
theorem Ae{x j pos}:PE X (.Constant (.str x) j pos) (tC<|.str x):=λ_ _ _ H _ I h=>Calls.Constant_str ⟨.str x,H,I.tok _,⟨_,rfl⟩,h⟩
def Gl(X:Cx)(x:Str):Prop:=X.env.kindOf x=cb .globalImplicit
theorem fU(I:Inv X T0 Z H s)(g:Gl X x)(j:X.mg x=cb u)(h:Q u s)(l:(x==("__debug__":Str))=false:=by decide):eT (ft X.prog X.w) X.A (g3 (.Name x pos) X.env) Q E s:=
 Qw I.ok.kind g (Calls.loadGlobal_global (by rw[I.ok.glob];exact I.mod.glob.keeps I.bk) j h) l
theorem dN(I:Inv X T0 Z H s)(v:Gl X x)(n:X.mg x=ed)(q:fy x=cb u)(h:Q u s)(l:x≠"__name__":=by decide)(hd:(x==("__debug__":Str))=false:=by decide):eT (ft X.prog X.w) X.A (g3 (.Name x pos) X.env) Q E s:=by
 obtain⟨y,g,j⟩:=I.mod.blt;exact Qw I.ok.kind v (Calls.loadGlobal_builtin (by rw[I.ok.glob];exact I.mod.glob.keeps I.bk) n (by rw[I.ok.blt];exact g.keeps I.bk) ((j x l).trans q) h) hd
theorem C9{v:V}(g:Gl X x)(j:X.mg x=cb u)(r:RelV v u)(l:(x==("__debug__":Str))=false:=by decide):PE X (.Name x pos) (tC v):=
 λ_ _ _ H _ I h=>fU I g j ⟨v,H,I,r,h⟩ l
theorem C7{v:V}(n:Gl X x)(j:X.mg x=ed)(l:fy x=cb u)(r:RelV v u)(g:x≠"__name__":=by decide)(hd:(x==("__debug__":Str))=false:=by decide):PE X (.Name x pos) (tC v):=
 λ_ _ _ H _ I h=>dN I n j l ⟨v,H,I,r,h⟩ g hd
variable{a b:g1}
variable{tA tB':TT}{rest:Uk}
noncomputable def tAnd(t u:TT):TT:=λZ H Q=>t Z H λc H1=>if c=true then u Z H1 Q else Q eH H1
noncomputable def tOr(t u:TT):TT:=λZ H Q=>t Z H λc H1=>if c=true then Q true H1 else u Z H1 Q
noncomputable def tNot(t:TT):TT:=λZ H Q=>t Z H λc H1=>Q (!c) H1
theorem DR(g:PT X a tA):PW X (.BoolOp .And [a] pos) tA:=by
 intro l T0 s Z H Q I h;refine isTrue_and (bC (g T0 s Z H Q I h) λc j e=>?_);cases c with
 |true=>exact isTrue_and_nil e
 |false=>exact e
theorem FV(g:PT X a tA):PW X (.BoolOp .Or [a] pos) tA:=by
 intro l T0 s Z H Q I h;refine isTrue_or (bC (g T0 s Z H Q I h) λc j e=>?_);cases c with
 |false=>exact isTrue_or_nil e
 |true=>exact e
theorem GD(n:PT X a tA)(q:PW X (.BoolOp .And (b::rest) pos) tB'):PW X (.BoolOp .And (a::b::rest) pos) (tAnd tA tB'):=by
 intro l T0 s Z H Q I h;refine isTrue_and (bC (n T0 s Z H _ I h) λc j ⟨H1,I1,g⟩=>?_);cases c with
 |true=>exact q l T0 j Z H1 Q I1 g
 |false=>exact⟨H1,I1,g⟩
theorem Lg(n:PT X a tA)(q:PW X (.BoolOp .Or (b::rest) pos) tB'):PW X (.BoolOp .Or (a::b::rest) pos) (tOr tA tB'):=by
 intro l T0 s Z H Q I h;refine isTrue_or (bC (n T0 s Z H _ I h) λc j ⟨H1,I1,g⟩=>?_);cases c with
 |true=>exact⟨H1,I1,g⟩
 |false=>exact q l T0 j Z H1 Q I1 g
theorem G4(g:PT X a tA):PT X (.UnaryOp .Not a pos) (tNot tA):=by
 intro T0 s Z H Q I h;exact isTrue_not (kL (g T0 s Z H (λc H1=>Q (!c) H1) I h) (λc j z=>by cases z with|mk a b d=>exact⟨a,b,d⟩) λ_ _ e=>e)
noncomputable def JK(ta tb:TE):TE:=λZ H Q=>ta Z H λx H1=>∃c,x=.bl c/\if c=true then tb Z H1 Q else Q (.bl eH) H1
noncomputable def Jy(ta:TE):TE:=λZ H Q=>ta Z H λx H1=>∃c,x=.bl c/\Q (.bl<|!c) H1
theorem Il{op}{t:TE}(h:PE X a t):PE X (.BoolOp op [a] pos) t:=λT0 s Z H Q I g=>BoolOp_one (h T0 s Z H Q I g)
theorem Hy(n:PE X a ta)(q:PE X (.BoolOp .And (b::rest) pos) tb):PE X (.BoolOp .And (a::b::rest) pos) (JK ta tb):=by
 intro T0 s Z H Q I h;refine BoolOp_and (bC (n T0 s Z H _ I h) λv j ⟨x,H1,I1,l,g⟩=>?_);obtain⟨c,rfl,g⟩:=g;cases l;refine nT ?_;cases c with
 |true=>exact q T0 j Z H1 Q I1 g
 |false=>exact⟨.bl eH,H1,I1,rfl,g⟩
theorem He(l:PE X a ta):PE X (.UnaryOp .Not a pos) (Jy ta):=by
 intro T0 s Z H Q I h;refine UnaryOp_ (bC (l T0 s Z H _ I h) λv n ⟨x,H1,I1,j,g⟩=>?_);obtain⟨c,rfl,g⟩:=g;cases j;exact not_of (nT ⟨.bl (!c),H1,I1,rfl,g⟩)
noncomputable def tIf(t:TT)(ta tb:TE):TE:=λZ H Q=>t Z H λc H1=>if c=true then ta Z H1 Q else tb Z H1 Q
theorem zL(l:PT X c tA)(n:PE X a ta)(q:PE X b tb):PE X (.IfExp c a b pos) (tIf tA ta tb):=by
 intro T0 s Z H Q I h;refine wpAny_IfExp (bC (l T0 s Z H _ I h) λd g ⟨H1,I1,j⟩=>?_);cases d with
 |true=>exact n T0 g Z H1 Q I1 j
 |false=>exact q T0 g Z H1 Q I1 j
end
def SqL(K:Mp)(H:Hp)(a:eC)(xs:List V):Prop:=
 Rd H a (.lst xs)\/
  ∃(o:Obj)(Ua:Ur)(n:Nat),K.lookup a=cb o/\o.cls=.type "list"/\o.dict=ed/\o.data=.seq Ua n/\Ua.size<=sizeLine/\Vals xs Ua.toList
def iA(K:Mp)(H:Hp)(a:eC)(xs:List V):Prop:=
 Rd H a (.tup xs)\/
  ∃(o:Obj)(Ua:Ur)(n:Nat),K.lookup a=cb o/\o.cls=.type "tuple"/\o.data=.seq Ua n/\Ua.size<=sizeLine/\Vals xs Ua.toList
noncomputable def absV:cx->Option V
 |.none=>cb .non
 |.bool b=>cb (.bl b)
 |.int i _=>cb (.int i)
 |.str x _=>cb (.str x)
 |.bytes b _=>cb (.byt b)
 |.float b _=>cb (.flt b)
 |.ref a=>cb (.ref a)
 |.type n=>cb (.ty n)
 |_=>ed
theorem RelV.abs{x:V}(r:RelV x u):absV u=cb x:=by
 cases x with
 |non=>cases r;rfl
 |bl _=>cases r;rfl
 |int _=>obtain⟨t,rfl⟩:=r;rfl
 |str _=>obtain⟨t,rfl⟩:=r;rfl
 |byt _=>obtain⟨t,rfl⟩:=r;rfl
 |flt _=>obtain⟨t,rfl⟩:=r;rfl
 |ref _=>cases r;rfl
 |ty _=>cases r;rfl
theorem RelV.inj{x y:V}(r:RelV x u)(q:RelV y u):x=y:=MQ (r.abs.symm.trans q.abs)
theorem Vals.inj:∀{xs ys:List V}{us:Ui},Vals xs us->Vals ys us->xs=ys
 |_,_,_,.nil,.nil=>rfl
 |_,_,_,.cons r t,.cons r' t'=>by rw[r.inj r',Vals.inj t t']
section
variable{xs ys:List V}
theorem SqL.of(h:H a=cb (.lst xs)):SqL K H a xs:=.inl (.inl h)
theorem Inv.list(I:Inv X T0 Z H s)(h:SqL X.K H a xs):∃Ua:List cx,Vals xs Ua/\PlainL s.heap a Ua.toArray/\xs.length<=sizeLine:=by
 rcases h with h|⟨o,Ua,n,hk,hc,hd,hs,hz,r⟩
 .obtain⟨z,Ua,n,r,e⟩:=h.ok I.hok
  exact⟨Ua,r,⟨_,n,e,rfl,rfl,rfl⟩,z⟩
 .refine⟨Ua.toList,r,⟨o,n,I.kIn a o hk,hc,hd,by simpa using hs⟩,?_⟩
  have e:=r.length;simp only[MP]at e;lia
theorem Inv.tuple(I:Inv X T0 Z H s)(h:iA X.K H a xs):∃Ua:List cx,Vals xs Ua/\IsTup s.heap a Ua.toArray/\xs.length<=sizeLine:=by
 rcases h with h|⟨o,Ua,n,hk,hc,hs,hz,r⟩
 .obtain⟨z,Ua,r,g,e,c,_⟩:=h.ok I.hok
  exact⟨Ua,r,⟨g,e,c⟩,z⟩
 .refine⟨Ua.toList,r,⟨o,I.kIn a o hk,hc,n,by simpa using hs⟩,?_⟩
  have e:=r.length;simp only[MP]at e;lia
theorem Inv.list_inj(I:Inv X T0 Z H s)(h:SqL X.K H a xs)(h':SqL X.K H a ys):xs=ys:=by
 obtain⟨j,r,⟨o,n,e,_,_,d⟩,_⟩:=I.list h;obtain⟨g,v,⟨z,y,l,_,_,q⟩,_⟩:=I.list h';rw[e]at l;cases l;rw[d]at q
 injection q with d1 _
 have:j=g:=by simpa using congrArg OP d1
 subst this;exact r.inj v
theorem Inv.tuple_inj(I:Inv X T0 Z H s)(h:iA X.K H a xs)(h':iA X.K H a ys):xs=ys:=by
 obtain⟨j,r,⟨o,e,_,n,d⟩,_⟩:=I.tuple h;obtain⟨g,v,⟨z,l,_,y,q⟩,_⟩:=I.tuple h';rw[e]at l;cases l;rw[d]at q
 injection q with d1 _
 have:j=g:=by simpa using congrArg OP d1
 subst this;exact r.inj v
end
noncomputable abbrev Cx.wish(X:Cx)(E:Um):Cx:={ X with xe:=E }
noncomputable abbrev Cx.nox(X:Cx):Cx:=X.wish λ_ _=>False
theorem Cx.Ok.wish(ok:X.Ok)(E:Um):(X.wish E).Ok:=
 ⟨ok.mod,ok.kind,ok.glob,ok.blt,ok.above,ok.inj,ok.has,ok.cab,ok.hd,ok.frames,ok.stk,ok.exf,ok.bs,ok.bsz,ok.noex,ok.exfs,ok.funs,ok.frf⟩
theorem Cx.Ok.unwish(ok:(X.wish E).Ok):X.Ok:=
 ⟨ok.mod,ok.kind,ok.glob,ok.blt,ok.above,ok.inj,ok.has,ok.cab,ok.hd,ok.frames,ok.stk,ok.exf,ok.bs,ok.bsz,ok.noex,ok.exfs,ok.funs,ok.frf⟩
section
theorem Inv.wish(I:Inv X T0 Z H s)(E:Um):Inv (X.wish E) T0 Z H s:=⟨I.ok.wish E,I.os,I.bare,I.base,I.loc,I.cell,I.free,I.freeC,I.pin,I.hok,I.len⟩
theorem Inv.unwish(I:Inv (X.wish E) T0 Z H s):Inv X T0 Z H s:=⟨I.ok.unwish,I.os,I.bare,I.base,I.loc,I.cell,I.free,I.freeC,I.pin,I.hok,I.len⟩
end
section
variable{st:pd}{rest:Ul}{t u:TS}
noncomputable def JT:TS:=λD Z H=>D.nx Z H
noncomputable def tSeq(t u:TS):TS:=λD Z H=>t { D with nx:=u D } Z H
theorem E8:wx X [] JT:=λ_ _ Z H _ I h=>t9 ⟨Z,H,I,h⟩
theorem zu(l:PS X st t)(h2:wx X rest u):wx X (st::rest) (tSeq t u):=by
 intro T0 s Z H D I h;refine S8 (bC (l T0 s Z H { D with nx:=u D } I h) λf j q=>?_);cases f with
 |next=>
  obtain⟨g,H',I',q⟩:=q;exact h2 T0 j g H' D I' q
 |ret v=>exact q
 |brk=>exact q
 |cont=>exact q
theorem Eh(g:PS X st t):wx X [st] t:=by
 intro T0 s Z H D I h;refine S8 (bC (g T0 s Z H D I h) λf j q=>?_);cases f with
 |next=>exact t9 q
 |ret v=>exact q
 |brk=>exact q
 |cont=>exact q
theorem Inv.quiet(I:Inv X T0 Z H s):interactive X.env=false:=by simp[interactive,I.ok.kind]
noncomputable def Kn(te:TE):TS:=λD Z H=>te Z H λ_ H1=>D.nx Z H1
theorem Du(l:PE X e te)(j:pb e ed pos.line X.env=pure false:=by rfl):PS X (.Expr e pos) (Kn te):=by
 intro T0 s Z H D I h;exact wpAny_Expr_any (bC (l T0 s Z H _ I h) λv n ⟨x,H1,I1,q,g⟩=>⟨Z,H1,I1,g⟩) I.quiet j
noncomputable def tRet(te:TE):TS:=λD Z H=>te Z H D.rt
theorem Ji(l:PE X e te):PS X (.Return (cb e) pos) (tRet te):=by
 intro T0 s Z H D I h;exact wpAny_Return_some (bC (l T0 s Z H _ I h) λv n ⟨x,H1,I1,g,j⟩=>⟨x,Z,H1,I1,g,j⟩)
noncomputable def tIfS(c:TT)(t u:TS):TS:=λD Z H=>c Z H λb H1=>if b=true then t D Z H1 else u D Z H1
theorem Ks{a b:Ul}{l:TT}(q:PT X c l)(n:wx X a t)(v:wx X b u):PS X (.If c a b pos) (tIfS l t u):=by
 intro T0 s Z H D I h;refine wpAny_If (bC (q T0 s Z H _ I h) λd g ⟨H1,I1,j⟩=>?_);cases d with
 |true=>exact n T0 g Z H1 D I1 j
 |false=>exact v T0 g Z H1 D I1 j
end
noncomputable abbrev TG:=V->St->Hp->(St->Hp->Prop)->Prop
noncomputable abbrev FA:=List V->St->Hp->(St->Hp->Prop)->Prop
def PG(X:Cx)(target:g1)(t:TG):Prop:=
 ∀(T0:Uo)(s:ee)(Z:St)(H:Hp)(v:V)(u:cx)(Q:St->Hp->Prop),Inv X T0 Z H s->RelV v u->t v Z H Q->
  eT (ft X.prog X.w) X.A (SQ target X.env u) (λ_ g=>∃σ' H',Inv X T0 σ' H' g/\Q σ' H') X.xe s
def GZ(X:Cx)(ts:Uk)(t:FA):Prop:=
 ∀(T0:Uo)(s:ee)(Z:St)(H:Hp)(vs:List V)(us:Ui)(Q:St->Hp->Prop),Inv X T0 Z H s->Vals vs us->t vs Z H Q->
  eT (ft X.prog X.w) X.A (assignInOrder ((qa ts X.env).map (·.2)) us) (λ_ g=>∃σ' H',Inv X T0 σ' H' g/\Q σ' H') X.xe s
noncomputable abbrev Hb:=V->V->V->Hp->(Hp->Prop)->Prop
def HH(X:Cx)(t:Hb):Prop:=
 ∀(T0:Uo)(s:ee)(Z:St)(H:Hp)(o i v:V)(ov iv u:cx)(Q:Hp->Prop),Inv X T0 Z H s->RelV o ov->RelV i iv->RelV v u->t o i v H Q->
  eT (ft X.prog X.w) X.A (setItem ov iv u) (λ_ g=>∃H',Inv X T0 Z H' g/\Q H') X.xe s
noncomputable abbrev TIp:=V->V->Hp->VK->Prop
def J0(X:Cx)(op:SS)(t:TIp):Prop:=
 ∀(T0:Uo)(s:ee)(Z:St)(H:Hp)(x y:V)(v u:cx)(Q:VK),Inv X T0 Z H s->RelV x v->RelV y u->t x y H Q->
  eT (ft X.prog X.w) X.A (inplaceOp op v u) (EP X T0 Z Q) X.xe s
section
noncomputable def EK(i:Nat):TG:=λv Z H Q=>Q (Z.set i<|some v) H
theorem BQ(g:X.N.Nodup)(l:X.N[i]?=cb x)(j:yZ X.env.scope x)(n:X.fn x=true\/X.env.scope.names.lookup x=cb .local:=by first|exact .inl rfl|exact .inr rfl|assumption):PG X (.Name x pos) (EK i):=by
 intro T0 s Z H v u Q I r h;exact wpAny_assign_Name (mC I g l j r (λq I'=>⟨_,H,I',h⟩) n)
noncomputable def gNil:FA:=λg Z H Q=>g=[]/\Q Z H
noncomputable def Kw(t:TG)(u:FA):FA:=λj Z H Q=>∃v r,j=v::r/\t v Z H λg H'=>u r g H' Q
theorem Cy:GZ X [] gNil:=by
 intro T0 s Z H g us Q I r h;obtain⟨e,h⟩:=h;subst e;cases r;exact assignInOrder_nil ⟨Z,H,I,h⟩
theorem Bl{t:TG}{u:FA}(y:PG X e t)(h2:GZ X es u)(q:(qa (e::es) X.env).map (·.2)=SQ e X.env::(qa es X.env).map (·.2):=by rfl):GZ X (e::es) (Kw t u):=by
 intro T0 s Z H B us Q I r h;obtain⟨v,z,j,h⟩:=h;subst j;cases r with
 |cons r rr=>
  rw[q];refine assignInOrder_cons (bC (y T0 s Z H _ _ _ I r h) λ_ n ⟨g,H1,I1,l⟩=>?_);exact h2 T0 n g H1 _ _ Q I1 rr l
noncomputable def gTup(K:Mp)(n:Nat)(t:FA):TG:=λv Z H Q=>∃a xs,v=.ref a/\iA K H a xs/\xs.length=n/\t xs Z H Q
theorem GU{k:Nat}{t:FA}{n:Nat}(L:X.calm=true)(h:GZ X es t)(J:(qa es X.env).length=n:=by rfl)(hst:(qa es X.env).findIdx? (·.1)=none:=by rfl):PG X (.Tuple es k pos) (gTup X.K n t):=by
 intro T0 s Z H v u Q I r g;obtain⟨a,l,q,F,z,g⟩:=g;subst q;cases r;obtain⟨y,j,B,O⟩:=I.tuple F;refine assign_Tuple_tuple (I.ok.hd L) B (by simp[J,<- z,j.length]) hst λh' G=>?_
 have I1:Inv X T0 Z H { s with heap:=h' }:=I.kept (t':=s.toks) λb o e=>G b o (MB<|Mj e) e;exact h T0 _ Z H l _ Q I1 (by simpa using j) g
noncomputable def gSub(to ti:TE)(t:Hb):TG:=λv Z H Q=>to Z H λo H1=>ti Z H1 λi H2=>t o i v H2 λH3=>Q Z H3
theorem Ja{o i:g1}{to g:TE}{t:Hb}(L:PE X o to)(J:PE X i g)(G:HH X t)(O:∀v,SQ (.Subscript o i pos) X.env v=(do
   let ov <- No [v] (g3 o X.env)
   let iv <- No [v,ov] (g3 i X.env)
   S3 pos
   No [v,ov,iv] (setItem ov iv v)
   release [v,ov,iv] []):=by intro _;rfl):PG X (.Subscript o i pos) (gSub to g t):=by
 intro T0 s Z H v u Q I r h;rw[O];refine cT (k6 (bC (L T0 s Z H _ I h) λov q ⟨x,H1,I1,F,l⟩=>?_));refine cT (k6 (bC (J T0 q Z H1 _ I1 l) λiv z ⟨y,H2,I2,j,B⟩=>?_));refine cT (Tp<|wpAny_bind<|wpAny_holding (bC (G T0 z Z H2 x y v ov iv u _ I2 F j r B) λ_ R ⟨H3,I3,n⟩=>?_));exact wpAny_release ⟨Z,H3,I3,n⟩
noncomputable def JC(te:TE)(g:TG):TS:=λD Z H=>te Z H λx H1=>g x Z H1 D.nx
theorem F_{g:TG}(z:PE X e te)(B:PG X tg g)(y:swapsWithSole [tg] e pos.line X.env=pure false:=by rfl)(hw:swappedStores [tg] e X.env=pure none:=by rfl)(h1:(qa [tg] X.env).map (·.2)=[SQ tg X.env]:=by rfl):PS X (.Assign [tg] e pos) (JC te g):=by
 intro T0 s Z H D I h;refine wpAny_Assign_stores (bC (z T0 s Z H _ I h) λv j ⟨x,H1,I1,l,n⟩=>?_) y hw;rw[h1];exact bC (B T0 j Z H1 x v _ I1 l n) λ_ F q=>q
theorem GL(l:X.N.Nodup)(q:X.N[i]?=cb x)(B:yZ X.env.scope x)(z:PE X e te)(n:pb e (cb<|.Name x pos') pos.line X.env=pure false:=by rfl)(hf:X.fn x=true\/X.env.scope.names.lookup x=cb .local:=by first|exact .inl rfl|exact .inr rfl|assumption):
  PS X (.Assign [.Name x pos'] e pos) (JC te<|EK i):=by
 intro T0 s Z H D I h;refine wpAny_Assign_Name (bC (z T0 s Z H _ I h) λv F ⟨y,H1,I1,g,j⟩=>?_) n;exact mC I1 l q B g (λG I2=>⟨_,H1,I2,j⟩) hf
noncomputable def tAug(i:Nat)(te:TE)(ti:TIp):TS:=λD Z H=>∃x,Z[i]?=cb (cb x)/\te Z H λy H1=>ti x y H1 λz H2=>D.nx (Z.set i<|some z) H2
theorem IL{op:SS}{F:TIp}(Y:X.N.Nodup)(B:X.N[i]?=cb x)(q:yZ X.env.scope x)(he:PE X e te)(ho:J0 X op F)(hf:X.fn x=true\/X.env.scope.names.lookup x=cb .local:=by first|exact .inl rfl|exact .inr rfl|assumption):
  PS X (.AugAssign (.Name x pos') op e pos) (tAug i te F):=by
 intro T0 s Z H D I h;obtain⟨v,S,h⟩:=h;obtain⟨m,G,T⟩:=I.loc;have n:Jq X.env.scope x:=by rcases q with k|k;exact .inl k;exact .inr (.inl k)
 obtain⟨u,r,l⟩:=T i x v B S n;refine wpAny_AugAssign_Name ?_;have go:eT (ft X.prog X.w) X.A (g3 e X.env) (λw j=>eT (ft X.prog X.w) X.A (inplaceOp op u w) (λr g=>eT (ft X.prog X.w) X.A (storeName X.env x r) (λ_=>SP X T0 D .next) X.xe g) X.xe j) X.xe s:=by
  refine bC (he T0 s Z H _ I h) λw R ⟨y,H1,I1,W,O⟩=>?_;refine bC (ho T0 R Z H1 v y u w _ I1 r W O) λz s2 ⟨zv,H2,I2,L,J⟩=>?_;exact mC I2 Y B q L (λs3 I3=>⟨_,H2,I3,J⟩) hf
 rcases l with⟨hk,U⟩|⟨hk,c,hc,hcell⟩
 .exact TQ I.ok.kind hk G U go
 .rcases hk with hk|hk
  .exact wpAny_loadName_cell I.ok.kind hk hc hcell go
  .rcases q with k|k
   .have:X.env.scope.names.lookup x=cb .free:=hk
    rw[k]at this;cases this
   .have:X.env.scope.names.lookup x=cb .free:=hk
    rw[k]at this;cases this
noncomputable def ipI(f:Int->Int->Int):TIp:=λx y H Q=>∃i j,x=.int i/\y=.int j/\Q (.int<|f i j) H
theorem Hn:J0 X .Add (ipI λi j=>i+j):=by
 intro T0 s Z H x y v u Q I l g h;obtain⟨i,j,n,z,q⟩:=h;subst n;subst z;obtain⟨t,rfl⟩:=l;obtain⟨t',rfl⟩:=g;exact iadd_int ⟨.int _,H,I.tok _,⟨_,rfl⟩,q⟩
end
section
noncomputable def Ia(c:TT)(tb:TS):TS:=λD Z H=>∃W:Nat->St->Hp->Prop,(∃m,W m Z H)/\∀m Z H,W m Z H->
 c Z H λb H1=>if b=true then ∃N:St->Hp->Prop,(∀σ' H',N σ' H'->∃m',m'<m/\W m' σ' H')/\tb { D with nx:=N,ct:=N,bk:=D.nx } Z H1 else D.nx Z H1
theorem Bp{J:TT}{tb:TS}(G:TB (ft X.prog X.w) X.A X.env X.xe)(Y:PT X c J)(hb:wx X body tb):PS X (.While c body [] pos) (Ia J tb):=by
 intro T0 s Z H D I h;obtain⟨W,⟨U,R⟩,turn⟩:=h;refine wpAny_While (codeAny_whileLoop (λn L=>∃σ' H',Inv X T0 σ' H' L/\W n σ' H') ?_ U ⟨Z,H,I,R⟩)
 rintro n T ⟨j,H1,I1,O⟩
 refine qz G (bC (Y T0 T j H1 _ I1<|turn n j H1 O) λb S ⟨H2,I2,q⟩=>?_);cases b with
 |true=>
  obtain⟨N,F,q⟩:=q;rw[if_pos rfl];refine qz G (bC (hb T0 S j H2 _ I2 q) λf s3 l=>?_);cases f with
  |next=>
   obtain⟨g,H3,I3,n3⟩:=l;obtain⟨y,z,B⟩:=F g H3 n3;exact⟨y,z,g,H3,I3,B⟩
  |cont=>
   obtain⟨g,H3,I3,n3⟩:=l;obtain⟨y,z,B⟩:=F g H3 n3;exact⟨y,z,g,H3,I3,B⟩
  |brk=>exact l
  |ret v=>exact l
 |false=>
  rw[if_neg MC];exact t9 ⟨j,H2,I2,q⟩
end
structure It where
 go:Nat->Hp->Prop
 yld:Nat->Hp->V->Hp->Prop
 stop:Nat->Hp->Prop
def iC(X:Cx)(T0:Uo)(H:Hp)(b:eC):Prop:=
 H b=ed/\b≠X.env.locals/\b∉X.fs/\(b∈X.ex\/X.s₀.heap.objs.size<=b)/\(∀x c,X.env.cells.lookup x=cb c->c≠b)/\∀p∈X.pn++T0,p.1≠b
theorem Inv.fpOk(I:Inv X T0 Z H s)(g:s.heap.objs.size<=b)(l:H' b=ed):iC X T0 H' b:=by
 refine⟨l,NY (MF I.lt g),I.nofs g,.inr (ME I.sz g),λx c e z=>?_,λp j z=>?_⟩
 .obtain⟨v,q⟩:=I.cell x c e
  exact absurd (MF q.lt<|by rw[z];exact g) (MT _)
 .exact absurd (MF (Mj (I.pin p j).1)<|by rw[z];exact g) (MT _)
structure Turn(P:gg)(w:g5)(K:Mp)(tg:g1)(J:It)(fp:Uj)(it:eC)(tn:Nat->g4->Prop):Prop where
 mem:it∈fp
 obj:∀i h,tn i h->∀b∈fp,∃o,h.get? b=cb o/\∀v,o.data≠.cell v
 keep:∀i h h',tn i h->(∀b∈fp,∀o,h.get? b=cb o->h'.get? b=cb o)->tn i h'
 item:∀(X:Cx),X.prog=P->X.w=w->X.K=K->X.calm=true->∀(i:Nat)(T0:Uo)(s:ee)(Z:St)(H:Hp)(E:Um),Inv X T0 Z H s->(∀b∈fp,iC X T0 H b)->tn i s.heap->J.go i H->
  eT (ft P w) X.A (SA<|.ref it) (λr s1=>∃u,r=cb u/\
   eT (ft P w) X.A (SN tg (.ref it) u) (λ_ s2=>∃x H',Inv X T0 Z H' s2/\RelV x u/\J.yld i H x H'/\tn (i+1) s2.heap/\∀b∈fp,H' b=ed) E s1) E s
 done:∀(X:Cx),X.prog=P->X.w=w->X.K=K->X.calm=true->∀(i:Nat)(T0:Uo)(s:ee)(Z:St)(H:Hp)(E:Um),Inv X T0 Z H s->(∀b∈fp,iC X T0 H b)->tn i s.heap->J.stop i H->
  eT (ft P w) X.A (SA<|.ref it) (λr s1=>r=ed/\Inv X T0 Z H s1) E s
 self:∀(A:hB)(i:Nat)(s:ee)(Q:Um)(E:Um),tn i s.heap->Q (.ref it) s->eT (ft P w) A (S9<|.ref it) Q E s
noncomputable abbrev TI:=St->Hp->(It->Hp->Prop)->Prop
def PIE(X:Cx)(T0:Uo)(Z:St)(tg:g1)(R:It->Hp->Prop)(itv:cx)(s2:ee):Prop:=
 ∃(it:eC)(fp:Uj)(tn:Nat->g4->Prop)(J:It)(H':Hp),itv=.ref it/\Inv X T0 Z H' s2/\Turn X.prog X.w X.K tg J fp it tn/\tn 0 s2.heap/\(∀b∈fp,iC X T0 H' b)/\R J H'
def PI(X:Cx)(tg iter:g1)(wi:TI):Prop:=
 ∀(T0:Uo)(s:ee)(Z:St)(H:Hp)(R:It->Hp->Prop),Inv X T0 Z H s->wi Z H R->
  eT (ft X.prog X.w) X.A (g3 iter X.env) (λv g=>eT (ft X.prog X.w) X.A (S9 v) (PIE X T0 Z tg R) X.xe g) X.xe s
theorem vC{j:eC}{o:Obj}{n:String}{vs:Ur}{Q:Unit->ee->Prop}(v:s.heap.get? j=cb o)(l:o.cls=.type n)(q:o.data=.fields vs)(y:["enumerate","zip","dict_itemiterator","dict_reverseitemiterator","odict_iterator","itertools.zip_longest","itertools.pairwise"].contains n=eH)(g:Q () s):eT M A (SN tg (.ref j) u) Q E s:=by
 unfold SN
 cases tg<;>first
  |exact eP g
  |(cases u<;>first
    |exact eP g
    |(refine cT (wpAny_load v ?_)
      rw[l,q];show eT M A (if (["enumerate","zip","dict_itemiterator","dict_reverseitemiterator","odict_iterator","itertools.zip_longest","itertools.pairwise"].contains n&&vs[0]?==cb (Pv _))=true then _ else _) Q E s
      rw[if_neg (by intro h;rw[y,QH]at h;cases h)]
      exact eP g))
noncomputable def Itl(K:Mp)(a:eC):It:=
 ⟨λi H=>∃xs x,SqL K H a xs/\xs[i]?=cb x,λi H x H'=>H'=H/\∀xs,SqL K H a xs->xs[i]?=cb x,λi H=>∃xs,SqL K H a xs/\xs.length<=i⟩
noncomputable def Itt(K:Mp)(a:eC):It:=
 ⟨λi H=>∃xs x,iA K H a xs/\xs[i]?=cb x,λi H x H'=>H'=H/\∀xs,iA K H a xs->xs[i]?=cb x,λi H=>∃xs,iA K H a xs/\xs.length<=i⟩
noncomputable def Itr(lo:Int)(n:Nat):It:=⟨λi _=>i<n,λi H x H'=>H'=H/\x=.int (lo+i),λi _=>n<=i⟩
theorem yN(a l:eC):Turn P w K tg (Itl K a) [l] l (λi h=>h.IsListIter l a i) where
 mem:=by simp
 obj:=λi h g b j=>by
  have e:b=l:=by simpa using j
  subst e;obtain⟨o,e,c,d⟩:=g;exact⟨o,e,λv z=>by rw[d]at z;cases z⟩
 keep:=λi h h' g k=>g.at λo e=>k l (by simp) o e
 item:=by
  intro X S T L hc i T0 s Z H E I y g F;subst S T L;obtain⟨xs,x,q,W⟩:=F;obtain⟨R,Y,p,hz⟩:=I.list q;obtain⟨u,hu,ru⟩:=Y.get W;obtain⟨U,J,f2,O,G,B⟩:=y l (by simp)
  refine TD g p.isList (x:=u) (by simpa using hu) λh' n sb=>?_
  have I1:Inv X T0 Z H { s with heap:=h' }:=I.turned (t':=s.toks) (λb o j e=>(sb.2 b j).trans e) U J O G B;obtain⟨o,e,c,d⟩:=id n;exact⟨u,rfl,vC (s:={ s with heap:=h' }) e c d (by decide) ⟨x,H,I1,ru,⟨rfl,λys hy=>by rw[I.list_inj hy q];exact W⟩,n,λb j=>(y b j).1⟩⟩
 done:=by
  intro X S T L hc i T0 s Z H E I y g F;subst S T L;obtain⟨xs,q,W⟩:=F;obtain⟨R,Y,p,hz⟩:=I.list q;obtain⟨U,J,f2,O,G,B⟩:=y l (by simp)
  have hl:=Y.length;exact TN (I.ok.hd hc) g p.isList (by simp;lia) λh' eb=>⟨rfl,I.turned (t':=s.toks) (λb o j e=>eb b o j e) U J O G B⟩
 self:=λ_ _ _ _ _ g h=>wpAny_pyIter_listiter g h
theorem uM(a n:eC):Turn P w K tg (Itt K a) [n] n (λi h=>h.IsTupleIter n a i) where
 mem:=by simp
 obj:=λi h g b j=>by
  have e:b=n:=by simpa using j
  subst e;obtain⟨o,e,c,d⟩:=g;exact⟨o,e,λv z=>by rw[d]at z;cases z⟩
 keep:=λi h h' g k=>g.at λo e=>k n (by simp) o e
 item:=by
  intro X S T O hc i T0 s Z H E I B g G;subst S T O;obtain⟨xs,x,y,W⟩:=G;obtain⟨l,Y,p,hz⟩:=I.tuple y;obtain⟨u,hu,ru⟩:=Y.get W;obtain⟨U,L,f2,R,J,F⟩:=B n (by simp)
  refine wpAny_pyNext_tuple_item g (show s.heap.IsTuple a l.toArray from p) (x:=u) (by simpa using hu) λh' q sb=>?_
  have I1:Inv X T0 Z H { s with heap:=h' }:=I.turned (t':=s.toks) (λb o j e=>(sb.2 b j).trans e) U L R J F;obtain⟨o,e,c,d⟩:=id q;exact⟨u,rfl,vC (s:={ s with heap:=h' }) e c d (by decide) ⟨x,H,I1,ru,⟨rfl,λys hy=>by rw[I.tuple_inj hy y];exact W⟩,q,λb j=>(B b j).1⟩⟩
 done:=by
  intro X S T O hc i T0 s Z H E I B g G;subst S T O;obtain⟨xs,y,W⟩:=G;obtain⟨l,Y,p,hz⟩:=I.tuple y;obtain⟨U,L,f2,R,J,F⟩:=B n (by simp)
  have hl:=Y.length;exact wpAny_pyNext_tuple_end (I.ok.hd hc) g (show s.heap.IsTuple a l.toArray from p) (by simp;lia) λh' eb=>⟨rfl,I.turned (t':=s.toks) (λb o j e=>eb b o j e) U L R J F⟩
 self:=λ_ _ _ _ _ g h=>wpAny_pyIter_tupleiter g h
theorem uh(j:eC)(B:Int)(n:Nat):Turn P w K tg (Itr B n) [j] j (λi h=>IsRangeIter h j (B+(i:Nat)*1) ((n:Int)-(i:Nat)) 1) where
 mem:=by simp
 obj:=λi h g b l=>by
  have e:b=j:=by simpa using l
  subst e;exact⟨_,g,λv z=>by
   have z':Data.fields _=Data.cell v:=z;cases z'⟩
 keep:=λi h h' g k=>k j (by simp) _ g
 item:=by
  intro X S U O T i T0 s Z H E I y g G;subst S U O;obtain⟨Y,L,f2,R,J,F⟩:=y j (by simp)
  have W:=Walks.range (prog:=X.prog) (w:=X.w) (I.ok.hd T) j B 1 n;refine W.item i s _ _ G g λv h' tk hv q kk=>?_;obtain⟨t,rfl⟩:=hv;have I1:Inv X T0 Z H { s with heap:=h',toks:=tk }:=I.turned (λb o l e=>kk b o (by simpa using l) e) Y L R J F
  refine⟨_,rfl,vC (s:={ s with heap:=h',toks:=tk }) (n:="range_iterator") q rfl rfl (by decide) ⟨.int (B+i),H,I1,⟨t,?_⟩,⟨rfl,rfl⟩,q,λb l=>(y b l).1⟩⟩
  rw[Int.mul_one]
 done:=by
  intro X S U O T i T0 s Z H E I y g G;subst S U O;obtain⟨Y,L,f2,R,J,F⟩:=y j (by simp)
  exact wpAny_pyNext_range_end (I.ok.hd T) g (by have:n<=i:=G;lia) λh' eb=>⟨rfl,I.turned (t':=s.toks) (λb o l e=>eb b o l e) Y L R J F⟩
 self:=λ_ _ _ _ _ g h=>wpAny_pyIter_rangeiter g h
section
theorem zC{R:It->Hp->Prop}{g j:Int}{t u v:Tok}{l:Nat}(I:Inv X T0 Z H s)(B:-(2 ^ 62)<=g)(h2:g<2 ^ 62)(F:-(2 ^ 62)<=j)(G:j<2 ^ 62)(q:R (Itr g (j-g).toNat) H):eT (ft X.prog X.w) X.A (S9<|.ref s.heap.objs.size) (PIE X T0 Z tg R) E { s with heap:=s.heap.push { cls:=.type "range",data:=.fields #[.int g t,.int j u,.int 1 v] },toks:=l }:=by
 refine wpAny_pyIter_range (IsRange.new ..) (small_one B h2 F G) ?_;have I1:Inv X T0 Z H { s with heap:=s.heap.push { cls:=.type "range",data:=.fields #[.int g t,.int j u,.int 1 v] },toks:=l }:=I.kept λb o e=>Me _ e;refine⟨(s.heap.push { cls:=.type "range",data:=.fields #[.int g t,.int j u,.int 1 v] }).objs.size,[(s.heap.push { cls:=.type "range",data:=.fields #[.int g t,.int j u,.int 1 v] }).objs.size],_,_,H,rfl,
  I1.kept (t':=l) λb o e=>Me _ e,uh _ g (j-g).toNat,?_,λb y=>?_,q⟩
 .have n:g+((0:Nat):Int)*1=g:=by simp
  have z:(((j-g).toNat:Nat):Int)-((0:Nat):Int)=Builtin.Range.rangeSize g j 1:=by rw[rangeSize_one];split<;>lia
  show IsRangeIter _ _ (g+((0:Nat):Int)*1) ((((j-g).toNat:Nat):Int)-((0:Nat):Int)) 1;rw[n,z];exact Mt _ rfl
 .have e:b=(s.heap.push { cls:=.type "range",data:=.fields #[.int g t,.int j u,.int 1 v] }).objs.size:=by simpa using y
  subst e;exact I1.fpOk (Mn _) (I1.hok.fresh<|Mn _)
noncomputable def KZ(ta:TA):TI:=λZ H R=>ta Z H λg H1=>∃j:Int,g=[.int j]/\-(2 ^ 62)<=j/\j<2 ^ 62/\R (Itr 0 j.toNat) H1
theorem yV{a:g1}{ta:TA}(B:Gl X "range")(y:X.mg "range"=ed)(z:PA X [a] ta)(v:fe [a] X.env=[(eH,g3 a X.env)]:=by rfl):PI X tg (.Call (.Name "range" p) [a] [] pos) (KZ ta):=by
 intro T0 s Z H R I h;refine Call_ (dN I B y boot_range<|Ng (bC (z pos T0 s Z H _ I h) λus F ⟨G,H1,I1,n,g⟩=>?_) v rfl);obtain⟨j,e,g,l,q⟩:=g;subst e;cases n with
 |cons r rr=>
  cases rr;obtain⟨t,rfl⟩:=r;exact call_range_1 (zC I1 (by lia) (by lia) g l<|by simpa using q)
noncomputable def tFor(wi:TI)(g:TG)(tb:TS):TS:=λD Z H=>wi Z H λJ H1=>∃W:Nat->Nat->St->Hp->Prop,(∃m,W 0 m Z H1)/\∀i m Z H,W i m Z H->
 (J.stop i H/\D.nx Z H)\/(J.go i H/\∃N:St->Hp->Prop,(∀σ' H',N σ' H'->∃m',m'<m/\W (i+1) m' σ' H')/\∀x H',J.yld i H x H'->g x Z H' λj H2=>tb { D with nx:=N,ct:=N,bk:=D.nx } j H2)
noncomputable def lH(fp:Uj)(h:g4):List (eC×Obj):=fp.filterMap λb=>(h.get? b).map λo=>(b,o)
theorem eG{o:Obj}(g:b∈fp)(e:h.get? b=cb o):(b,o)∈lH fp h:=RE.mpr ⟨b,g,by rw[e];rfl⟩
theorem yT{p:eC×Obj}(l:p∈lH fp h):p.1∈fp/\h.get? p.1=cb p.2:=by
 obtain⟨b,j,e⟩:=RE.mp l;cases q:h.get? b with
 |none=>rw[q]at e;cases e
 |some o=>
  rw[q]at e;have g:(b,o)=p:=MQ e;subst g;exact⟨j,q⟩
theorem Inv.pinned(I:Inv X T0 Z H s)(F:∀b∈fp,iC X T0 H b)(B:∀b∈fp,∃o,s.heap.get? b=cb o/\∀v,o.data≠.cell v):Inv X (T0++lH fp s.heap) Z H s:=
 I.pins_of λp n=>(Ms.mp n).elim (λz=>I.pin p (MK _ z)) λz=>by
  obtain⟨j,e⟩:=yT z;obtain⟨q,l,y,_⟩:=F p.1 j;obtain⟨o,g,d⟩:=B p.1 j;rw[e]at g;cases g;exact⟨e,q,l,y,d⟩
theorem Inv.unpinned{pl:Uo}(I:Inv X (T0++pl) Z H s):Inv X T0 Z H s:=I.pins_of λp g=>I.pin p (MK _<|Om _ g)
theorem Hm{y:g1}{wi:TI}{g:TG}{tb:TS}(U:TB (ft X.prog X.w) X.A X.env X.xe)(hc:X.calm=true)(hi:PI X tg y wi)(hg:PG X tg g)(z:wx X body tb)(hs:∀x,n7 y X.env x=pure x:=by intro _;rfl):PS X (.For tg y body [] pos) (tFor wi g tb):=by
 intro T0 s Z H D I h;refine wpAny_For (bC (hi T0 s Z H _ I h) λv s1 h1=>bC h1 λitv s2 h2=>?_) hs;obtain⟨it,fp,tn,J,H2,e,I2,T,Y,f2,W,⟨m0,w0⟩,G⟩:=h2;subst e
 -- what stays true of the iterator's objects through the loop
 have l:∀{H':Hp},(∀b∈fp,H' b=ed)->∀b∈fp,iC X T0 H' b:=λhn b z=>⟨hn b z,(f2 b z).2⟩;refine codeAny_forLoop_any (λn s'=>∃i σ' H',Inv X T0 σ' H' s'/\tn i s'.heap/\(∀b∈fp,H' b=ed)/\W i n σ' H') ?_ m0 ⟨0,Z,H2,I2,Y,λb z=>(f2 b z).1,w0⟩
 rintro n s3 ⟨i,q,H3,I3,R,L,w3⟩
 rcases G i n q H3 w3 with⟨S,qn⟩|⟨go,N,hN,step⟩
 .refine qz U (bC (T.done X rfl rfl rfl hc i T0 s3 q H3 X.xe I3 (l L) R S) λr s4 ⟨hr,I4⟩=>?_)
  subst hr;exact t9 ⟨q,H3,I4,qn⟩
 .refine qz U (bC (T.item X rfl rfl rfl hc i T0 s3 q H3 X.xe I3 (l L) R go) λr s4 ⟨u,hr,h4⟩=>?_)
  subst hr;refine qz U (bC h4 λ_ s5 ⟨x,H5,I5,r5,y5,F,fr5⟩=>?_);have I5':=I5.pinned (l fr5) (T.obj _ _ F);refine qz U (bC (hg _ s5 q H5 x u _ I5' r5<|step x H5 y5) λ_ s6 ⟨σ6,H6,I6,q6⟩=>?_);refine qz U (bC (z _ s6 σ6 H6 _ I6 q6) λf s7 B=>?_);have again:∀{j:St}{H7:Hp},Inv X (T0++lH fp s5.heap) j H7 s7->N j H7->∃m,m<n/\∃i σ' H',Inv X T0 σ' H' s7/\tn i s7.heap/\(∀b∈fp,H' b=ed)/\W i m σ' H':=λ{j H7} I7 O=>by
   obtain⟨m',hm,w7⟩:=hN j H7 O;refine⟨m',hm,i+1,j,H7,I7.unpinned,T.keep _ _ _ F λb z o e=>(I7.pin (b,o)<|MK _<|MK _<|eG z e).1,λb z=>?_,w7⟩;obtain⟨o,e,d⟩:=T.obj _ _ F b z;exact(I7.pin (b,o)<|MK _<|MK _<|eG z e).2.1
  cases f with
  |next=>obtain⟨j,H7,I7,O⟩:=B;exact again I7 O
  |cont=>obtain⟨j,H7,I7,O⟩:=B;exact again I7 O
  |brk=>obtain⟨j,H7,I7,B⟩:=B;exact⟨j,H7,I7.unpinned,B⟩
  |ret v=>obtain⟨x7,j,H7,I7,r7,B⟩:=B;exact⟨x7,j,H7,I7.unpinned,r7,B⟩
end
noncomputable abbrev R2:=V->V->Hp->VK->Prop
def cq(X:Cx)(f:cx->cx->Sem cx)(r:R2):Prop:=
 ∀(T0:Uo)(s:ee)(Z:St)(H:Hp)(x y:V)(v u:cx)(Q:VK),Inv X T0 Z H s->RelV x v->RelV y u->r x y H Q->
  eT (ft X.prog X.w) X.A (f v u) (EP X T0 Z Q) X.xe s
def UnR(X:Cx)(f:cx->Sem cx)(r:V->Hp->VK->Prop):Prop:=
 ∀(T0:Uo)(s:ee)(Z:St)(H:Hp)(x:V)(v:cx)(Q:VK),Inv X T0 Z H s->RelV x v->r x H Q->
  eT (ft X.prog X.w) X.A (f v) (EP X T0 Z Q) X.xe s
def bL(X:Cx)(f:cx)(r:List V->Hp->VK->Prop):Prop:=
 ∀(T0:Uo)(s:ee)(Z:St)(H:Hp)(xs:List V)(us:Ui)(Q:VK),Inv X T0 Z H s->Vals xs us->r xs H Q->
  eT (ft X.prog X.w) X.A (call f us) (EP X T0 Z Q) X.xe s
def TruR(X:Cx)(r:V->Hp->(Bool->Hp->Prop)->Prop):Prop:=
 ∀(T0:Uo)(s:ee)(Z:St)(H:Hp)(x:V)(v:cx)(Q:Bool->Hp->Prop),Inv X T0 Z H s->RelV x v->r x H Q->
  eT (ft X.prog X.w) X.A (truthy v) (TP X T0 Z Q) X.xe s
noncomputable def JR(r:R2)(ta tb:TE):TE:=λZ H Q=>ta Z H λx H1=>tb Z H1 λy H2=>r x y H2 Q
noncomputable def tUn(r:V->Hp->VK->Prop)(ta:TE):TE:=λZ H Q=>ta Z H λx H1=>r x H1 Q
noncomputable def rI(C:Int->Int->Prop)(g:Int->Int->V):R2:=λx y H Q=>∃i j,x=.int i/\y=.int j/\C i j/\Q (g i j) H
noncomputable def BA(g:Int->Int->V):R2:=λx y H Q=>∃i j,x=.int i/\y=.int j/\Q (g i j) H
def rU(g:Int->V):V->Hp->VK->Prop:=λx H Q=>∃i,x=.int i/\Q (g i) H
section
variable{a b:g1}{tc:TE}
theorem HA(F:PE X a ta)(B:PE X b tb){R:V->V->Hp->Prop}(I:Inv X T0 Z H s)(h:ta Z H λx H1=>tb Z H1 λy H2=>R x y H2){f:cx->cx->Sem cx}(G:∀v u g x y H2,Inv X T0 Z H2 g->RelV x v->RelV y u->R x y H2->eT (ft X.prog X.w) X.A (f v u) Q X.xe g):
  eT (ft X.prog X.w) X.A (g3 a X.env) (λv s₁=>eT (ft X.prog X.w) X.A (g3 b X.env) (λu s₂=>eT (ft X.prog X.w) X.A (f v u) Q X.xe s₂) X.xe s₁) X.xe s:=by
 refine bC (F T0 s Z H _ I h) λv l ⟨x,H1,I1,q,z⟩=>?_;refine bC (B T0 l Z H1 _ I1 z) λu g ⟨y,H2,I2,j,n⟩=>?_;exact G v u g x y H2 I2 q j n
theorem JV{op:SS}(n:cq X (lq op) r)(z:PE X a ta)(B:PE X b tb):PE X (.BinOp a op b pos) (JR r ta tb):=by
 intro T0 s Z H Q I h;exact wpAny_BinOp (HA z B I h λv u g x y H2 I2 l j q=>n T0 g Z H2 x y v u Q I2 l j q)
theorem Jx{op:UnaryOp}{r:V->Hp->VK->Prop}(n:UnR X (unaryOp op) r)(q:PE X a ta):PE X (.UnaryOp op a pos) (tUn r ta):=by
 intro T0 s Z H Q I h;exact UnaryOp_ (bC (q T0 s Z H _ I h) λv g ⟨x,H1,I1,j,l⟩=>n T0 g Z H1 x v Q I1 j l)
theorem opI{f:cx->cx->Sem cx}{C:Int->Int->Prop}{g:Int->Int->Int}(l:∀(i j:Int)(t u:Tok)(s:ee)(Q:Um)(E:Um),C i j->Q (.int (g i j) s.toks) { s with toks:=s.toks+1 }->eT (ft X.prog X.w) X.A (f (.int i t)<|.int j u) Q E s):
  cq X f (rI C λi j=>.int (g i j)):=by
 intro T0 s Z H x y v u Q I B z h;obtain⟨i,j,rfl,rfl,n,q⟩:=h;obtain⟨t,rfl⟩:=B;obtain⟨t',rfl⟩:=z;exact l i j t t' s _ _ n ⟨.int (g i j),H,I.tok _,⟨_,rfl⟩,q⟩
theorem IE{f:cx->cx->Sem cx}{g:Int->Int->Int}(l:∀(i j:Int)(t u:Tok)(s:ee)(Q:Um)(E:Um),Q (.int (g i j) s.toks) { s with toks:=s.toks+1 }->eT (ft X.prog X.w) X.A (f (.int i t)<|.int j u) Q E s):
  cq X f (BA λi j=>.int (g i j)):=by
 intro T0 s Z H x y v u Q I z n h;obtain⟨i,j,rfl,rfl,q⟩:=h;obtain⟨t,rfl⟩:=z;obtain⟨t',rfl⟩:=n;exact l i j t t' s _ _ ⟨.int (g i j),H,I.tok _,⟨_,rfl⟩,q⟩
theorem Co{f:cx->cx->Sem cx}{g:Int->Int->Bool}(l:∀(i j:Int)(t u:Tok)(s:ee)(Q:Um)(E:Um),Q (.bool<|g i j) s->eT (ft X.prog X.w) X.A (f (.int i t)<|.int j u) Q E s):
  cq X f (BA λi j=>.bl (g i j)):=by
 intro T0 s Z H x y v u Q I z n h;obtain⟨i,j,rfl,rfl,q⟩:=h;obtain⟨t,rfl⟩:=z;obtain⟨t',rfl⟩:=n;exact l i j t t' s _ _ ⟨.bl (g i j),H,I,rfl,q⟩
def LJ(i j:Int):Prop:=0<=j/\j<=1000000/\i.natAbs<2 ^ 64
def CMul(i j:Int):Prop:=(-(2 ^ 64)<i/\i<2 ^ 64)\/(-(2 ^ 64)<j/\j<2 ^ 64)
theorem CMul.ok{i j:Int}(h:CMul i j):IntMulOk i j:=by
 rcases h with⟨g,l⟩|⟨g,l⟩
 .exact .of_left (intBits_le_64 g l)
 .exact .of_right (intBits_le_64 g l)
theorem Ij:cq X (lq .Add) (BA λi j=>.int (i+j)):=IE λ_ _ _ _ _ _ _ q=>add_int q
theorem IW:cq X (lq .Sub) (BA λi j=>.int (i-j)):=IE λ_ _ _ _ _ _ _ q=>sub_int q
theorem FY:cq X (lq .Mult) (rI CMul λi j=>.int (i*j)):=opI λ_ _ _ _ _ _ _ g q=>mul_int q g.ok
theorem Hx:cq X (lq .Mod) (rI (λ_ j=>0<j) λi j=>.int (i % j)):=opI λi j _ _ _ _ _ g q=>by
 have l:(0:Int)<j:=g;exact mod_int' (by lia) (by rw[Int.fmod_eq_emod_of_nonneg i (by lia)];exact q)
theorem Gu:cq X (lq .Pow) (rI LJ λi j=>.int (i ^ j.toNat)):=opI λ_ _ _ _ _ _ _ g q=>pow_int_small g.1 g.2.1 g.2.2 q
theorem Hh:cq X (lq .BitXor) (BA λi j=>.int (Builtin.bitXor i j)):=IE λ_ _ _ _ _ _ _ q=>xor_int q
theorem unI{f:cx->Sem cx}{g:Int->Int}(j:∀(i:Int)(t:Tok)(s:ee)(Q:Um)(E:Um),Q (.int (g i) s.toks) { s with toks:=s.toks+1 }->eT (ft X.prog X.w) X.A (f<|.int i t) Q E s):
  UnR X f (rU λi=>.int (g i)):=by
 intro T0 s Z H x v Q I l h;obtain⟨i,rfl,q⟩:=h;obtain⟨t,rfl⟩:=l;exact j i t s _ _ ⟨.int (g i),H,I.tok _,⟨_,rfl⟩,q⟩
theorem Gs:UnR X (unaryOp .USub) (rU λi=>.int (-i)):=unI λ_ _ _ _ _ q=>neg_int q
end
section
variable{a b:g1}{tc:TE}
theorem Bk{Q:VK}{k g:Bool}(I:Inv X T0 Z H s)(q:Q (.bl k) H)(e:k=g):EP X T0 Z Q (.bool g) s:=by
 subst e;exact⟨.bl k,H,I,rfl,q⟩
theorem Kz:cq X (g0 .Lt) (BA λi j=>.bl (decide (i<j))):=Co λ_ _ _ _ _ _ _ q=>lt_int q
theorem JN:cq X (g0 .LtE) (BA λi j=>.bl (decide (i<=j))):=Co λ_ _ _ _ _ _ _ q=>le_int q
theorem Ls:cq X (g0 .Gt) (BA λi j=>.bl (decide (j<i))):=Co λ_ _ _ _ _ _ _ q=>gt_int q
theorem JS:cq X (g0 .GtE) (BA λi j=>.bl (decide (j<=i))):=Co λ_ _ _ _ _ _ _ q=>ge_int q
theorem GR:cq X (g0 .Is) (λx y H Q=>y=.non/\Q (.bl<|decide (x=.non)) H):=by
 intro T0 s Z H x y v u Q I g j h;obtain⟨rfl,q⟩:=h;cases j;refine is_none_gen (Bk I q ?_)
 cases x<;>first
  |(cases g;rfl)
  |(obtain⟨t,rfl⟩:=g;rfl)
theorem D8:cq X (g0 .IsNot) (λx y H Q=>y=.non/\Q (.bl<|!decide (x=.non)) H):=by
 intro T0 s Z H x y v u Q I g j h;obtain⟨rfl,q⟩:=h;cases j;refine isnot_none_gen (Bk I q ?_)
 cases x<;>first
  |(cases g;rfl)
  |(obtain⟨t,rfl⟩:=g;rfl)
theorem D_(z:cq X (g0 op) r)(B:PE X a ta)(F:PE X b tb)(n:SY op b=eH):PE X (.Compare a [op] [b] pos) (JR r ta tb):=by
 intro T0 s Z H Q I h;exact wpAny_Compare1 (HA B F I h λv u g x y H2 I2 l j q=>z T0 g Z H2 x y v u Q I2 l j q) n
noncomputable def Fx(t:TE):TT:=λZ H Q=>t Z H λx H'=>∃k,x=.bl k/\Q k H'
theorem D4(L:cq X (g0 op) r)(O:PE X a ta)(R:PE X b tb)(J:SY op b=eH):PT X (.Compare a [op] [b] pos) (Fx<|JR r ta tb):=by
 intro T0 s Z H Q I h;refine wpAny_isTrue_Compare1 (bC (O T0 s Z H _ I h) λv q ⟨x,H1,I1,G,j⟩=>bC (R T0 q Z H1 _ I1 j) λu B ⟨y,H2,I2,g,F⟩=>
  bC (L T0 B Z H2 x y v u _ I2 G g F) λc S ⟨z,H3,I3,n,k,e,l⟩=>?_) J
 subst e;cases n;exact nT ⟨H3,I3,l⟩
noncomputable def uC(r r':R2)(ta tb tc:TE):TE:=λZ H Q=>ta Z H λx H1=>tb Z H1 λy H2=>r x y H2 λz H3=>∃k,z=.bl k/\
 (if k=true then tc Z H3 λg H4=>r' y g H4 Q else Q (.bl eH) H3)
theorem zA{g:To}{q:R2}(ho:cq X (g0 op) r)(j:cq X (g0 g) q)(ha:PE X a ta)(hb:PE X b tb)(hc:PE X c tc)(hm:SW [op,g] [b,c]=false:=by with_unfolding_all rfl):PE X (.Compare a [op,g] [b,c] pos) (uC r q ta tb tc):=by
 intro T0 s Z H Q I h;refine Compare_chain (bC (ha T0 s Z H _ I h) λv R ⟨x,H1,I1,W,J⟩=>chain_link (bC (hb T0 R Z H1 _ I1 J) λu S ⟨y,H2,I2,l,T⟩=>
  bC (ho T0 S Z H2 x y v u _ I2 W l T) λd F ⟨z,H3,I3,O,k,e,n⟩=>?_)) hm
 subst e;cases O;refine nT ?_;cases k with
 |false=>exact ite_ff ⟨.bl eH,H3,I3,rfl,n⟩
 |true=>exact ite_tt (chain_last (bC (hc T0 F Z H3 _ I3 n) λG L ⟨B,H4,I4,Y,U⟩=>j T0 L Z H4 y B u G Q I4 l Y U))
theorem AX{g:To}{q:R2}(ho:cq X (g0 op) r)(j:cq X (g0 g) q)(ha:PE X a ta)(hb:PE X b tb)(hc:PE X c tc)(hm:SW [op,g] [b,c]=false:=by with_unfolding_all rfl):PT X (.Compare a [op,g] [b,c] pos) (Fx<|uC r q ta tb tc):=by
 intro T0 s Z H Q I h;refine isTrue_chain (bC (ha T0 s Z H _ I h) λv Y ⟨x,H1,I1,r1,T⟩=>test_link (bC (hb T0 Y Z H1 _ I1 T) λu s2 ⟨y,H2,I2,n,F⟩=>
  bC (ho T0 s2 Z H2 x y v u _ I2 r1 n F) λd S ⟨z,H3,I3,W,k,e,l⟩=>?_)) hm
 subst e;cases W;refine nT ?_;cases k with
 |false=>
  obtain⟨k',O,R⟩:=l;cases O;exact ite_ff ⟨H3,I3,R⟩
 |true=>
  refine ite_tt (test_last (bC (hc T0 S Z H3 _ I3 l) λJ U ⟨B,H4,I4,r4,L⟩=>bC (j T0 U Z H4 y B u J _ I4 n r4 L) λd' s5 ⟨z2,H5,I5,G,k2,e2,q5⟩=>?_));subst e2;cases G;exact nT ⟨H5,I5,q5⟩
def GE(K:Mp)(x:V)(H:Hp)(k:Bool):Prop:=
 match x with
 |.non=>k=eH
 |.bl b=>k=b
 |.int i=>k=(i != 0)
 |.str y=>y.length<=sizeLine/\k=((y.length:Int) != 0)
 |.byt y=>y.size<=sizeLine/\k=((y.size:Int) != 0)
 |.ref p=>(∃xs,SqL K H p xs/\k=!xs.isEmpty)\/(∃xs,iA K H p xs/\k=!xs.isEmpty)\/∃T5,H p=cb (.dK T5)/\k=!T5.isEmpty
 |_=>False
theorem vt{g:Type}{T5:List (g×V)}{vs:List (g×cx)}(r:KV T5 vs):(!vs.isEmpty)=!T5.isEmpty:=by
 cases r<;>rfl
theorem mz{xs:List V}{Ua:Ui}(r:Vals xs Ua):(!Ua.toArray.isEmpty)=!xs.isEmpty:=by
 cases r<;>simp
theorem g9:(sizeLine:Nat)<2 ^ 63:=by rw[oD];decide
theorem IZ:TruR X (λx H Q=>∃k,GE X.K x H k/\Q k H):=by
 intro T0 s Z H x v Q I n h;obtain⟨k,e,q⟩:=h;have O:=g9;have R:sizeLine=16777216:=oD;cases x with
 |non=>
  cases n;have g:k=false:=e;subst g;exact truthy_none ⟨H,I,q⟩
 |bl b=>
  cases n;have g:k=b:=e;subst g;exact nT ⟨H,I,q⟩
 |int i=>
  obtain⟨t,rfl⟩:=n;have g:k=(i != 0):=e;subst g;exact PySem.P.truthy_int ⟨H,I,q⟩
 |str y=>
  obtain⟨t,rfl⟩:=n;obtain⟨J,g⟩:y.length<=sizeLine/\k=((y.length:Int) != 0):=e;subst g;exact PySem.P.truthy_str (by lia) ⟨H,I.tok _,q⟩
 |byt y=>
  obtain⟨t,rfl⟩:=n;obtain⟨J,g⟩:y.size<=sizeLine/\k=((y.size:Int) != 0):=e;subst g;exact W.truthy_bytes (by lia) ⟨H,I.tok _,q⟩
 |ref p=>
  cases n;have g:(∃l,SqL X.K H p l/\k=!l.isEmpty)\/(∃l,iA X.K H p l/\k=!l.isEmpty)\/∃T5,H p=cb (.dK T5)/\k=!T5.isEmpty:=e;rcases g with⟨l,z,g⟩|⟨l,z,g⟩|⟨T5,z,g⟩
  .subst g
   obtain⟨F,r,pl,G⟩:=I.list z;have j:=r.length;exact wpAny_truthy_list pl.isList (by simp only[Ml];lia) ⟨H,I.tok _,by rw[mz r];exact q⟩
  .subst g
   obtain⟨F,r,pl,G⟩:=I.tuple z;have j:=r.length;exact truthy_tuple pl (by simp only[Ml];lia) ⟨H,I.tok _,by rw[mz r];exact q⟩
  .subst g
   obtain⟨G,L,B,r,m⟩:T5.length<=sizeLine/\(p==o4)=eH/\∃B,KV T5 B/\s.heap.DictOf (aP X.prog X.w) p B:=I.hok p _ z;have j:T5.length=B.length:=NT r;exact wpAny_truthy_dict L m (by lia) ⟨H,I.tok _,by rw[vt r];exact q⟩
 |_=>exact(show False from e).elim
theorem AH(y:PE X a ta)(q:∀g,TL a X.env g=(do let v <- g;S3 a.pos;No [v] (truthy v))):
  PT X a (λZ H Q=>ta Z H λx H'=>∃k,GE X.K x H' k/\Q k H'):=by
 intro T0 s Z H Q I h;exact isTrue_plain (bC (y T0 s Z H _ I h) λv j ⟨x,H1,I1,l,n⟩=>IZ T0 j Z H1 x v Q I1 l n) (q _)
theorem vi:cq X (lq .Add) (λx y H Q=>∃i j,x=.str i/\y=.str j/\i.length+j.length<=sizeLine/\Q (.str (i++j)) H):=by
 intro T0 s Z H x y v u Q I n l h;obtain⟨i,j,rfl,rfl,g,q⟩:=h;obtain⟨t,rfl⟩:=n;obtain⟨t',rfl⟩:=l;exact add_str (λt' z=>⟨.str (i++j),H,I.tok _,⟨_,rfl⟩,q⟩) g
theorem iV{x:V}(r:Vals [x] us):∃u,us=[u]/\RelV x u:=by
 cases r with
 |cons r1 r2=>cases r2;exact⟨_,rfl,r1⟩
theorem JF{x y:V}(r:Vals [x,y] us):∃u g,us=[u,g]/\RelV x u/\RelV y g:=by
 cases r with
 |cons r1 r2=>
  cases r2 with
  |cons r3 r4=>cases r4;exact⟨_,_,rfl,r1,r3⟩
theorem xX(l:X.calm=true):bL X (.builtin "min") (λxs H Q=>∃i j,xs=[.int i,.int j]/\Q (.int (if j<i then j else i)) H):=by
 intro T0 s Z H xs us Q I r h;obtain⟨i,j,rfl,q⟩:=h;obtain⟨u,v,rfl,⟨t,rfl⟩,⟨t',rfl⟩⟩:=JF r;refine min_two_ints (I.ok.hd l) λh' n k=>⟨_,H,I.kept k,?_,q⟩
 by_cases g:j<i
 .rw[if_pos g,if_pos g];exact⟨_,rfl⟩
 .rw[if_neg g,if_neg g];exact⟨_,rfl⟩
end
structure ObjM(h:g4)(x dx C:eC)(mA:Uq):Prop where
 obj:h.get? x=cb (O1 C dx)
 ns:h.Ns1 dx mA
 ne:dx≠x
theorem yg(n:h.Ns1 dx mA):∃j,h.get? dx=cb j/\∀name,W.lookIn name j=cb (mA name):=by
 obtain⟨o,es,J,G,F,I,_,v⟩:=n;refine⟨o,G,λname=>?_⟩;have e:=v name;unfold nsFind findBy at e;rw[<- Array.find?_toList]at e;unfold W.lookIn;rw[F];dsimp only
 split
 .rename_i y q
  rw[q]at e;exact congrArg cb e
 .rename_i q
  rw[q]at e;have a:es.toList.any (·.refKey)=false:=by
   rw[P8];intro y l;obtain⟨z,t,g⟩:=I y (Array.mem_toList_iff.mp l);simp[DictEntry.refKey,g]
  have B:¬es.toList.any (·.refKey)=true:=by rw[a];exact MC
  rw[if_neg B];exact congrArg cb e
theorem ObjM.look{x:eC}(I:ObjM h x dx C mA):∃g,W.InstAt h x (O1 C dx) C (cb g)/\∀name,W.lookIn name g=cb (mA name):=
 let ⟨g,ho,hl⟩:=yg I.ns
 ⟨g,⟨I.obj,rfl,rfl,ho⟩,hl⟩
section
variable{prog:gg}{x:eC}{name:Str}{v:cx}
theorem Ee{g:Bool}(X:K.In s.heap)(I:ObjM s.heap x dx C mA)(q:Px K C name=true)(n:PM K C=true)(z:NC K (.ref C) name=cb ed)(y:mA name=cb v)(j:W.handedIn v=true)(h:Q v { s with toks:=s.toks+1 }):
  eT (ft prog w) A (getAttr (.ref x) name g) Q E s:=by
 obtain⟨B,J,l⟩:=I.look;exact W.get_value X J (Q8 q).1 (W.findObj_own n z rfl<|by rw[l,y]) j h
theorem zy{Q:cx×List cx->ee->Prop}(X:K.In s.heap)(I:ObjM s.heap x dx C mA)(g:Px K C name=true)(y:NC K (.ref C) name=cb (cb<|.ref f))(q:W.isFn K (.ref f)=true)(n:mA name=ed)(h:Q (.ref f,[.ref x]) s):
  eT (ft prog w) A (Tb (.ref x) name pl) Q E s:=by
 obtain⟨l,J,j⟩:=I.look;exact W.method_fn X J (Q8 g).1 (Q8 g).2 y (beq_iff_eq.mp q) (by show (W.lookIn name l).map (·.isSome)=cb eH;rw[j,n];rfl) h
theorem CF{ns:Uh}{Q:Unit->ee->Prop}(X:K.In s.heap)(I:ObjM s.heap x dx C mA)(O:NC K (.ref C) "__setattr__"=cb (cb<|.builtin "object.__setattr__"))(U:QB K C=true)(T:W.takerIn K C name=cb ed)(R:PM K C=true)(S:QT mA ns)(hsz:ns.length<=sizeLine)(h:∀h',ObjM h' x dx C (λy=>if y=name then cb v else mA y)->Nr dx s.heap h'->Q () { s with heap:=h',toks:=s.toks+2 }):
  eT (ft prog w) A (setAttr (.ref x) name v) Q E s:=by
 obtain⟨od,J,hl⟩:=I.look;refine W.set_plain X J O (W.osa_open (s:={ s with toks:=s.toks+1 }) (r:=ed) X J U T λb=>?_);obtain⟨cd,B,l⟩:=W.any_some R;have F:s.heap.get? x=cb ⟨.ref C,cb dx,.plain,#[]⟩:=I.obj;refine cT (eP<|wpAny_bind<|wpAny_bind<|wpAny_loadPart F<|wpAny_bind<|W.Looks.here (s:={ s with toks:=s.toks+1 }) (W.looks_clsIn X B) ?_);rw[l];refine eP (a:=cb dx) (cT<|wpAny_pure<|wpAny_bind ?_);refine wpAny_nsSet1 (s:={ s with toks:=s.toks+1 }) I.ns λh' g j=>?_;obtain⟨Y,G,L,n,z,q⟩:=g.count (PySem.Within.cons name v S);refine cT (wpAny_lookBehind n (by rw[z];exact pastItsLine_dict (ME q<|by rw[Mc];lia)) ?_)
 exact eP (h _ ⟨(j.2 _<|ML I.ne).trans I.obj,g,I.ne⟩ j)
theorem Aw{R:Tc->ee->Prop}{vs:Ui}(X:K.In s.heap)(j:Qt K C=true)(l:NC K (.ref C) "__init__"=cb (cb<|.ref f))(n:W.typeIn K (.ref f)=cb (.type "function"))(h:t0 (ft prog w) (A.under<|.builtin "type.__call__" ⟨.ref C::vs,kw⟩) (.call (.ref f) ⟨.ref (s.heap.objs.size+1)::vs,kw⟩) (W.InitBack (s.heap.objs.size+1) R)
   { s with heap:=(s.heap.push Oq).push (O1 C s.heap.objs.size) }):
  t0 (ft prog w) A (.call (.ref C) ⟨vs,kw⟩) R s:=by
 obtain⟨q,g,d,t,y⟩:=s;exact W.make_core (W.makes_of X j) (W.looks_findIn X l) (λself=>W.bind_fn X self n) (.inl rfl) h
end
noncomputable def dy(f:Str)(v:V):List (Str×V)->List (Str×V)
 |[]=>[(f,v)]
 |(g,x)::r=>if g=f then (g,v)::r else (g,x)::dy f v r
theorem j9(f g:Str)(v:V):∀fs:List (Str×V),(dy f v fs).lookup g=if g=f then cb v else fs.lookup g
 |[]=>by
  show MW g [(f,v)]=_
  by_cases h:g=f
  .have j:(g==f)=true:=beq_iff_eq.mpr h
   simp only[MW,j,if_pos h]
  .have j:(g==f)=false:=beq_eq_false_iff_ne.mpr h
   simp only[MW,j,if_neg h]
 |(k,x)::r=>by
  have n:=j9 f g v r;rw[show dy f v ((k,x)::r)=(if k=f then (k,v)::r else (k,x)::dy f v r) from rfl]
  by_cases l:k=f
  .rw[if_pos l]
   by_cases h:g=k
   .have j:(g==k)=true:=beq_iff_eq.mpr h
    simp only[MW,j,if_pos (h.trans l)]
   .have j:(g==k)=false:=beq_eq_false_iff_ne.mpr h
    simp only[MW,j,if_neg (λe:g=f=>h (e.trans l.symm))]
  .rw[if_neg l]
   by_cases h:g=k
   .have j:(g==k)=true:=beq_iff_eq.mpr h
    simp only[MW,j,if_neg (λe:g=f=>l (h.symm.trans e))]
   .have j:(g==k)=false:=beq_eq_false_iff_ne.mpr h
    simp only[MW,j];exact n
theorem iL(f:Str)(v:V):∀fs:List (Str×V),f∈(dy f v fs).map (·.1)/\∀g,g∈fs.map (·.1)->g∈(dy f v fs).map (·.1)
 |[]=>⟨by simp[dy],λg h=>by simp at h⟩
 |(k,x)::r=>by
  obtain⟨i1,i2⟩:=iL f v r;rw[show dy f v ((k,x)::r)=(if k=f then (k,v)::r else (k,x)::dy f v r) from rfl]
  by_cases j:k=f
  .rw[if_pos j]
   subst j;exact⟨by simp,λg h=>by simpa using h⟩
  .rw[if_neg j]
   refine⟨?_,λg h=>?_⟩
   .rw[Mo]
    exact Mz _ i1
   .rw[Mo]at h ⊢
    rcases Mm.mp h with e|e
    .exact Mm.mpr (.inl e)
    .exact Mz _ (i2 g e)
theorem j8(f:Str)(v:V):∀fs:List (Str×V),(dy f v fs).length<=fs.length+1
 |[]=>by simp[dy]
 |(k,x)::r=>by
  have j:=j8 f v r;rw[show dy f v ((k,x)::r)=(if k=f then (k,v)::r else (k,x)::dy f v r) from rfl]
  by_cases g:k=f
  .rw[if_pos g,Mc,Mc];lia
  .rw[if_neg g,Mc,Mc];lia
theorem eU{v:V}{o:Option cx}(r:RelO (cb v) o):∃u,o=cb u/\RelV v u:=by
 cases o with
 |none=>exact(show False from r).elim
 |some u=>exact⟨u,rfl,r⟩
theorem qK{o:Option cx}(r:RelO ed o):o=none:=by
 cases o with
 |none=>rfl
 |some u=>exact(show False from r).elim
theorem yy{v:V}(r:RelV v u):W.handedIn u=true:=by
 cases v with
 |non=>cases (show u=Na from r);rfl
 |bl b=>cases (show u=OQ b from r);rfl
 |int i=>obtain⟨t,e⟩:=(show ∃t,u=PC i t from r);cases e;rfl
 |str x=>obtain⟨t,e⟩:=(show ∃t,u=PB x t from r);cases e;rfl
 |byt b=>obtain⟨t,e⟩:=(show ∃t,u=Value.bytes b t from r);cases e;rfl
 |flt b=>obtain⟨t,e⟩:=(show ∃t,u=Q9 b t from r);cases e;rfl
 |ref a=>cases (show u=MD a from r);rfl
 |ty n=>cases (show u=Nw n from r);rfl
section
variable{fs fs':List (Str×V)}
theorem ju(g:HOk P w H h)(e:H a=cb (.ins C dx fs)):∃mA,ObjM h a dx C mA/\(∀f,RelO (fs.lookup f) (mA f))/\QT mA (fs.map (·.1))/\fs.length<=1000/\H dx=cb (.own a):=by
 obtain⟨d,z,ne,j,mA,n,r,q⟩:=(show ObjOk P w H h a (.ins C dx fs) from g a _ e);exact⟨mA,⟨j,n,ne⟩,r,q,z,d⟩
end
structure Cls(K:Mp)(C:eC):Prop where
 pg:Px K C Str.empty=true
 hd:PM K C=true
 po:QB K C=true
 sa:NC K (.ref C) "__setattr__"=cb (cb<|.builtin "object.__setattr__")
theorem Cls.get(c:Cls K C)(f:Str):Px K C f=true:=c.pg
def NoAttr(K:Mp)(C:eC)(f:Str):Prop:=NC K (.ref C) f=cb ed
theorem NoAttr.taker{f:Str}(n:NoAttr K C f):W.takerIn K C f=cb none:=by
 unfold W.takerIn;rw[show NC K (.ref C) f=cb ed from n];rfl
structure Meth(K:Mp)(C:eC)(m:Str)(f:eC):Prop where
 at_:NC K (.ref C) m=cb (cb<|.ref f)
 fn:W.isFn K (.ref f)=true
 kp:N6 K (.ref f)=true
section
variable{fs:List (Str×V)}{f:Str}{v:V}
theorem tG{b:Bool}(I:Inv X T0 Z H s)(e:H a=cb (.ins C dx fs))(c:Cls X.K C)(n:NoAttr X.K C f)(l:fs.lookup f=cb v)(h:∀u s',Inv X T0 Z H s'->RelV v u->Q u s'):eT (ft X.prog X.w) A (getAttr (.ref a) f b) Q E s:=by
 obtain⟨mA,O,r,_,_,_⟩:=ju I.hok e;obtain⟨u,j,g⟩:=eU (v:=v) (o:=mA f) (by rw[<- l];exact r f)
 exact Ee I.kIn O (c.get f) c.hd n j (yy g) (h u _ (I.tok _) g)
theorem ug{g:eC}{Q:cx×List cx->ee->Prop}(I:Inv X T0 Z H s)(e:H a=cb (.ins C dx fs))(c:Cls X.K C)(k:Meth X.K C m g)(l:fs.lookup m=ed)(h:Q (.ref g,[.ref a]) s):eT (ft X.prog X.w) A (Tb (.ref a) m pl) Q E s:=by
 obtain⟨mA,O,r,_,_,_⟩:=ju I.hok e;have j:mA m=none:=qK (by rw[<- l];exact r m)
 exact zy I.kIn O (c.get m) k.at_ k.fn j h
theorem uR{y:V}{Q:Unit->ee->Prop}(I:Inv X T0 Z H s)(e:H a=cb (.ins C dx fs))(c:Cls X.K C)(n:NoAttr X.K C f)(R:fs.length<1000)(L:RelV y u)(h:∀s',Inv X T0 Z (upd H a<|.ins C dx<|dy f y fs) s'->Q () s'):eT (ft X.prog X.w) A (setAttr (.ref a) f u) Q E s:=by
 obtain⟨mA,O,r,j,_,l⟩:=ju I.hok e;have B:(fs.map (·.1)).length<=sizeLine:=by rw[Md,oD];lia
 refine CF I.kIn O c.sa c.po n.taker c.hd j B λh' O' F=>h _ ?_;have hd:∃o,h'.get? dx=cb o:=let ⟨o,_,_,e',_⟩:=O'.ns;⟨o,e'⟩;refine I.write (x:=a) (e:=dx) (by rw[e];exact N8) (.inr l) (λb q J z=>(F.2 b J).trans z) hd ?_
 refine⟨by rw[aE O.ne];exact l,?_,O.ne,O'.obj,_,O'.ns,λg=>?_,λg G=>?_⟩
 .have:=j8 f y fs;lia
 .show RelO ((dy f y fs).lookup g) (if g=f then cb u else mA g)
  rw[j9]
  by_cases q:g=f
  .rw[if_pos q,if_pos q];exact L
  .rw[if_neg q,if_neg q];exact r g
 .by_cases q:g=f
  .rw[q];exact(iL f y fs).1
  .refine (iL f y fs).2 g (j g λz=>G ?_)
   show (if g=f then cb u else mA g)=ed
   rw[if_neg q];exact z
theorem Inv.made(I:Inv X T0 Z H s):Inv X T0 Z (upd (upd H s.heap.objs.size<|.own (s.heap.objs.size+1)) (s.heap.objs.size+1)<|.ins C s.heap.objs.size [])
  { s with heap:=(s.heap.push Oq).push (O1 C s.heap.objs.size) }:=by
 have g:(s.heap.push Oq).get? s.heap.objs.size=cb Oq:=Mt s.heap rfl;have z:((s.heap.push Oq).push<|O1 C s.heap.objs.size).get? (s.heap.objs.size+1)=cb (O1 C s.heap.objs.size):=by
  have:=Mt (s.heap.push Oq) (o:=O1 C s.heap.objs.size) rfl
  rwa [Nq]at this
 have l:(s.heap.push Oq).Ns s.heap.objs.size (λ_=>ed):=⟨Oq,#[],_,g,rfl,(λe n=>absurd n (by simp)),λ_=>rfl⟩
 have I1:=I.laid (a:=s.heap.objs.size) (o:=.own (s.heap.objs.size+1)) (h':=s.heap.push Oq) (t':=s.toks) (λb u q=>Me _ q) (Mn _) ⟨_,g⟩;refine I1.laid (a:=s.heap.objs.size+1) (o:=.ins C s.heap.objs.size []) (t':=s.toks) (λb u q=>Me _ q) (Qc<|Nq _ _) ?_;have ne:s.heap.objs.size≠s.heap.objs.size+1:=MB (OI _);refine⟨by rw[aE ne,upd_same],MY _,ne,z,λ_=>ed,(Heap.Ns1.of_empty l).at λo q=>Me _ q,λ_=>N8,λy j=>absurd rfl j⟩
theorem C1{prog:gg}{env:Env}{f:Str}(g:mu e f env (g3 e env)=g3 e env)(h:eT (ft prog w) A (g3 e env) (λo s₁=>eT (ft prog w) A (getAttr o f true) Q E s₁) E s):eT (ft prog w) A (g3 (.Attribute e f pos) env) Q E s:=
 Attribute_any_ h (by rw[arm_eval_Attribute,g])
end
noncomputable def tFld(K:Mp)(ta:TE)(f:Str):TE:=λZ H Q=>ta Z H λx H1=>∃a C dx fs v,x=.ref a/\H1 a=cb (.ins C dx fs)/\Cls K C/\NoAttr K C f/\fs.lookup f=cb v/\Q v H1
noncomputable def sFld(K:Mp)(ta tv:TE)(f:Str):TS:=λD Z H=>tv Z H λy H1=>ta Z H1 λx H2=>∃a C dx fs,x=.ref a/\H2 a=cb (.ins C dx fs)/\Cls K C/\NoAttr K C f/\fs.length<1000/\
 D.nx Z (upd H2 a<|.ins C dx<|dy f y fs)
section
variable{o value:g1}{f:Str}{tpos:Pos}{tv:TE}
theorem Hl(F:PE X e ta)(G:mu e f X.env (g3 e X.env)=g3 e X.env):PE X (.Attribute e f pos) (tFld X.K ta f):=by
 intro T0 s Z H Q I h;refine C1 G (bC (F T0 s Z H _ I h) λu L g=>?_);obtain⟨x,H1,I1,B,a,C,dx,fs,v,z,y,c,n,l,q⟩:=g;subst z;obtain rfl:u=MD a:=B;exact tG I1 y c n l λJ O I2 j=>⟨v,H1,I2,j,q⟩
theorem Gk(R:PE X o ta)(O:PE X value tv)(L:pb value (cb<|.Attribute o f pos') pos.line X.env=pure eH):PS X (.Assign [.Attribute o f pos'] value pos) (sFld X.K ta tv f):=by
 intro T0 s Z H D I h;refine plainObj_wpAny_Assign_Attribute (bC (O T0 s Z H _ I h) λu v ⟨y,H1,I1,z,q⟩=>bC (R T0 v Z H1 _ I1 q) λj T g=>?_) L;obtain⟨x,H2,I2,J,a,C,dx,fs,G,F,c,n,l,B⟩:=g;subst G;obtain rfl:j=MD a:=J;exact uR I2 F c n l z λS I3=>⟨Z,_,I3,B⟩
end
section
variable{c:cx}{b:Bool}
inductive TyOf(K:Mp)(H:Hp):V->cx->Prop where
 |non:TyOf K H .non (.type "NoneType")
 |bl (x:Bool):TyOf K H (.bl x) (.type "bool")
 |int (i:Int):TyOf K H (.int i) (.type "int")
 |str (x:Str):TyOf K H (.str x) (.type "str")
 |flt (x:UInt64):TyOf K H (.flt x) (.type "float")
 |lst {a:eC} {xs:List V} (e:H a=cb (.lst xs)):TyOf K H (.ref a) (.type "list")
 |frz {a:eC} {o:Obj} {xs:List V} (e:H a=cb (.frz o<|.lst xs)):TyOf K H (.ref a) (.type "list")
 |tup {a:eC} {xs:List V} (e:H a=cb (.tup xs)):TyOf K H (.ref a) (.type "tuple")
 |dK {a:eC} {T5:List (bh×V)} (e:H a=cb (.dK T5)):TyOf K H (.ref a) (.type "dict")
 |dT {a:eC} {T5:List (List bh×V)} (e:H a=cb (.dT T5)):TyOf K H (.ref a) (.type "dict")
 |ins {a C dx:eC} {fs:List (Str×V)} (e:H a=cb (.ins C dx fs)) (cl:Cls K C) (ha:NC K (.ref C) "__class__"=cb (cb<|.builtin "object.__class__"))
   (hn:W.specialIn K (.builtin "object.__class__") "__get__"=cb (cb<|.builtin "getset_descriptor.__get__")) (htk:W.takesIn K (.builtin "object.__class__")=cb true)
   (hm:W.mroIn K C (.type "object")=cb true):TyOf K H (.ref a) (.ref C)
theorem yd{x:V}{t:cx}(I:Inv X T0 Z H s)(g:RelV x u)(ty:TyOf X.K H x t)(e:W.kitOne X.K t c=cb b)(h:∀F,Q (.bool b) { s with toks:=F }):
  eT (ft X.prog X.w) A (call (.builtin "isinstance") [u,c]) Q E s:=by
 cases ty with
 |non=>cases (show u=Na from g);exact Ow W.kitx_none I.kIn N8 e (λz=>nomatch z) h
 |bl y=>cases (show u=OQ y from g);exact Ow W.kitx_bool I.kIn N8 e (λz=>nomatch z) h
 |int i=>obtain⟨t,q⟩:=(show ∃t,u=PC i t from g);cases q;exact Ow W.kitx_int I.kIn N8 e (λz=>nomatch z) h
 |str y=>obtain⟨t,q⟩:=(show ∃t,u=PB y t from g);cases q;exact Ow W.kitx_str I.kIn N8 e (λz=>nomatch z) h
 |flt y=>obtain⟨t,q⟩:=(show ∃t,u=Q9 y t from g);cases q;exact Ow W.kitx_float I.kIn N8 e (λz=>nomatch z) h
 |@lst a l ea=>
  cases (show u=MD a from g);obtain⟨_,_,n,_,j⟩:=(show ObjOk X.prog X.w H s.heap a (.lst l) from I.hok a _ ea);exact Ow W.kitx_list I.kIn ⟨_,j,rfl⟩ e (λz=>nomatch z) h
 |@frz a ob l ea=>
  cases (show u=MD a from g);obtain⟨_,_,_,n,_,j⟩:=(show ObjOk X.prog X.w H s.heap a (.frz ob<|.lst l) from I.hok a _ ea);exact Ow W.kitx_list I.kIn ⟨_,j,rfl⟩ e (λz=>nomatch z) h
 |@tup a l ea=>
  cases (show u=MD a from g);obtain⟨_,_,_,p⟩:=(show ObjOk X.prog X.w H s.heap a (.tup l) from I.hok a _ ea);obtain⟨o,j,⟨v,_⟩,_⟩:=p;exact Ow W.kitx_tuple I.kIn ⟨o,j,v⟩ e (λz=>nomatch z) h
 |@dK a T5 ea=>
  cases (show u=MD a from g);obtain⟨_,_,G,_,p⟩:=(show ObjOk X.prog X.w H s.heap a (.dK T5) from I.hok a _ ea);obtain⟨o,es,B,j,v,_⟩:=p;exact Ow W.kitx_dict I.kIn ⟨o,j,v.1⟩ e (λz=>nomatch z) h
 |@dT a T5 ea=>
  cases (show u=MD a from g);obtain⟨_,_,l,_,o,es,B,j,v,_⟩:=(show ObjOk X.prog X.w H s.heap a (.dT T5) from I.hok a _ ea);exact Ow W.kitx_dict I.kIn ⟨o,j,v.1⟩ e (λz=>nomatch z) h
 |@ins a C dx fs ea cl ha hn htk hm=>
  cases (show u=MD a from g);obtain⟨mA,O,_⟩:=ju I.hok ea;obtain⟨L,J,_⟩:=O.look;exact Ow (W.kitx_own (cl.get _) cl.hd ha hn htk hm) I.kIn J e (λz=>nomatch z) h
end
structure Room(k:Nat)(A:hB):Prop where
 hd:A.handled=ed
 dp:A.depth+3*k+5<recursionLimit
 un:A.units+16*k+200<mv
 gd:A.guards=cb []
theorem Room.mono{j k:Nat}(r:Room k A)(h:j<=k):Room j A:=⟨r.hd,by have:=r.dp;lia,by have:=r.un;lia,r.gd⟩
theorem Room.deeper{k:Nat}(r:Room (k+1) A)(env:Env):Room k (A.deeper env):=
 ⟨r.hd,by have:=r.dp;show A.depth+1+3*k+5<_;lia,by have:=r.un;show A.units+3+16*k+200<_;lia,r.gd⟩
theorem vx:(A.under<|.builtin "type.__call__" ⟨.ref C::us,kw⟩).depth=A.depth+1:=by
 first|rfl|simp[P2,Code.weight,Code.isCreation,Code.isGuard,Code.isCaller,Code.frames,Q0,guardIds]
theorem ul:(A.under<|.builtin "type.__call__" ⟨.ref C::us,kw⟩).units=A.units+1:=by
 first|rfl|simp[P2,Code.cUnits,Code.frames,Q0]
theorem si:(A.under<|.builtin "type.__call__" ⟨.ref C::us,kw⟩).guards=A.guards:=by
 first|rfl|simp[P2,Code.guards,pushGuards,Code.isGuard,guardIds]
theorem Room.make{k:Nat}(r:Room (k+1) A)(C:eC)(us:Ui)(kw:List (Str×cx)):Room k (A.under<|.builtin "type.__call__" ⟨.ref C::us,kw⟩):=
 ⟨r.hd,by have:=r.dp;rw[vx];lia,by have:=r.un;rw[ul];lia,by rw[si];exact r.gd⟩
theorem Room.depth{k:Nat}(r:Room k A):A.depth<recursionLimit:=by have:=r.dp;lia
theorem Room.units{k:Nat}(r:Room k A):A.units+64<cLine:=by have:=r.un;lia
noncomputable def tNil:TA:=λ_ H Q=>Q [] H
noncomputable def JE(ta:TE)(tr:TA):TA:=λZ H Q=>ta Z H λx H1=>tr Z H1 λg H2=>Q (x::g) H2
section
variable{t:TA}
theorem Aj:PA X [] tNil:=λ_ _ _ _ H Q I h=>P5 ⟨[],H,I,.nil,h⟩
theorem wc(B:PE X e te)(y:PA X es t)(z:fe (e::es) X.env=(eH,g3 e X.env)::fe es X.env:=by rfl):PA X (e::es) (JE te t):=by
 intro pos T0 s Z H Q I h;rw[z];show eT _ _ (spliced ((eH,g3 e X.env)::lb pos (fe es X.env))) _ _ s;refine PQ (bC (B T0 s Z H _ I h) λu n ⟨x,H1,I1,v,l⟩=>?_);exact bC (y pos T0 n Z H1 _ I1 l) λus F ⟨g,H2,I2,j,q⟩=>⟨x::g,H2,I2,.cons v j,q⟩
noncomputable def tTup(t:TA):TE:=λZ H Q=>t Z H λg H1=>g.length<=sizeLine/\∀p,H1 p=ed->Q (.ref p) (upd H1 p<|.tup g)
noncomputable def tLst(t:TA):TE:=λZ H Q=>t Z H λg H1=>g.length<=sizeLine/\∀p,H1 p=ed->Q (.ref p) (upd H1 p<|.lst g)
theorem Je{x1}(h:PA X es t):PE X (.Tuple es x1 pos) (tTup t):=by
 intro T0 s Z H Q I l;refine wpAny_Tuple_spliced (bC (h pos T0 s Z H _ I l) λus g ⟨j,H1,I1,r,z,q⟩=>⟨by rw[<- r.length];exact z,?_⟩)
 have n:H1 g.heap.objs.size=none:=I1.hok.fresh (Mn _);refine⟨.ref g.heap.objs.size,upd H1 g.heap.objs.size (.tup j),I1.laid (t':=g.toks) (λb u e=>Me _ e) (Mn _) ?_,rfl,q _ n⟩;exact⟨z,us,r,⟨_,Mt _ rfl,⟨rfl,_,rfl⟩,rfl⟩⟩
theorem GH(h:PA X es t):PE X (.List es pos) (tLst t):=by
 intro T0 s Z H Q I l;refine wpAny_List_spliced (bC (h pos T0 s Z H _ I l) λus g ⟨j,H1,I1,r,z,q⟩=>⟨by rw[<- r.length];exact z,?_⟩)
 have n:H1 g.heap.objs.size=none:=I1.hok.fresh (Mn _);refine⟨.ref g.heap.objs.size,upd H1 g.heap.objs.size (.lst j),I1.laid (t':=g.toks) (λb u e=>Me _ e) (Mn _) ?_,rfl,q _ n⟩;exact⟨z,us,0,r,Mt _ rfl⟩
end
noncomputable abbrev Sp:=List V->Hp->VK->XK->Prop
noncomputable abbrev pT:=List Env->Hp->ee->XK->cx->ee->Prop
structure Env0(P:gg)(w:g5)(K:Mp)(mg:Uq)(base:g4)(A:hB)(outer:List Env)(s:ee)(H:Hp):Prop where
 frames:A.frames=cb outer
 mod:Mod K mg base
 bs:∀b o,base.get? b=cb o->s.heap.get? b=cb o/\H b=ed
 bsz:base.objs.size<=s.heap.objs.size
 funs:s.heap.FunFrames base outer
 frf:∀b∈fW outer,H b=ed
 hok:HOk P w H s.heap
 bare:SH s.gens
def CE(outer:List Env)(P:gg)(w:g5)(H:Hp)(s:ee)(Q:VK)(u:cx)(s':ee):Prop:=
 ∃v H',s'.os=s.os/\SH s'.gens/\Un (fW outer) [] H H' s.heap s'.heap/\HOk P w H' s'.heap/\RelV v u/\Q v H'
def CR(CX:pT)(outer:List Env)(P:gg)(w:g5)(H:Hp)(s:ee)(Q:VK)(E:XK)(r:Tc)(s':ee):Prop:=
 match r with
 |.ok (.ret u)=>CE outer P w H s Q u s'
 |.ok _=>False
 |.error e=>CX outer H s E e s'
structure FnOk(P:gg)(w:g5)(K:Mp)(mg:Uq)(base:g4)(CX:pT)(k:Nat)(f:eC)(fd:ka)(ps:Uh)(sp:Sp):Prop where
 len:∀vs H Q E,sp vs H Q E->vs.length=ps.length
 run:∀(A:hB)(outer:List Env)(s:ee)(H:Hp)(args:Args)(us:Ui)(vs:List V)(Q:VK)(E:XK),Room k A->Env0 P w K mg base A outer s H->Tg s fd args (ps.zip us)->Vals vs us->sp vs H Q E->
  t0 (ft P w) A (.call (.ref f) args) (CR CX outer P w H s Q E) s
theorem FnOk.imp{k:Nat}{l:Sp}(F:FnOk P w K mg base CX k f fd ps sp)(h:∀vs H Q E,l vs H Q E->sp vs H Q E):FnOk P w K mg base CX k f fd ps l:=
 ⟨λvs H Q E q=>F.len vs H Q E (h _ _ _ _ q),λA g s H j us vs Q E B n v y z=>F.run A g s H j us vs Q E B n v y (h _ _ _ _ z)⟩
theorem Env0.make{g:List Env}(e:Env0 P w K mg base A g s H)(C:eC)(us:Ui)(kw:List (Str×cx)):
  Env0 P w K mg base (A.under<|.builtin "type.__call__" ⟨.ref C::us,kw⟩) g s H:=⟨by first|exact e.frames|(simpa [P2,Code.envs,Q0,pushEnvs] using e.frames),e.mod,e.bs,e.bsz,e.funs,e.frf,e.hok,e.bare⟩
section
variable{s':ee}
theorem Inv.env0(I:Inv X T0 Z H s):Env0 X.prog X.w X.K X.mg X.base X.A X.stack s H:=
 ⟨I.ok.frames,I.ok.mod,I.bs,ME I.ok.bsz I.sz,I.stack,I.stkFree,I.hok,I.bare⟩
theorem Inv.after{Q:VK}(I:Inv X T0 Z H s)(h:CE X.stack X.prog X.w H s Q u s'):EP X T0 Z Q u s':=by
 obtain⟨v,H',os,j,un,n,r,q⟩:=h;obtain⟨y,g,d,t,l⟩:=s';obtain rfl:l=s.os:=os;exact⟨v,H',I.call (h':=y) (g':=g) (d':=d) (t':=t) (ch:=[]) un n j (λb z=>absurd z (by simp)),r,q⟩
end
noncomputable def LY(sp:Sp)(dvs:List V)(E:XK)(t:TA):TE:=λZ H Q=>t Z H λg H1=>sp (g++dvs) H1 Q E
noncomputable def Lr(C:eC)(m:Str)(sp:Sp)(dvs:List V)(E:XK)(ta:TE)(t:TA):TE:=λZ H Q=>ta Z H λx H1=>∃a dx fs,x=.ref a/\H1 a=cb (.ins C dx fs)/\fs.lookup m=ed/\
 t Z H1 λg H2=>sp (x::(g++dvs)) H2 Q E
noncomputable def KO(C:eC)(sp:Sp)(dvs:List V)(E:XK)(t:TA):TE:=λZ H Q=>t Z H λg H1=>∀x dx,H1 x=ed->H1 dx=ed->dx≠x->
 sp (.ref x::(g++dvs)) (upd (upd H1 dx<|.own x) x<|.ins C dx []) (λv H2=>v=.non/\Q (.ref x) H2) E
def Binds(K:Mp)(fd:ka)(ps:Uh)(ds:Ui):Prop:=
 ∀(s:ee)(us:Ui),K.In s.heap->(us++ds).length=ps.length->Tg s fd ⟨us,[]⟩ (ps.zip (us++ds))
theorem Binds.all(h:∀us:List cx,us.length=ps.length->bindArgs fd ⟨us,[]⟩=pure (ps.zip us)):Binds K fd ps []:=λs us _ g=>by
 rw[Mx]at g ⊢;exact .of_eq (h us g)
def cy(CX:pT)(X:Cx)(E:XK):Prop:=∀(T0:Uo)(Z:St)(H:Hp)(s:ee)(e:cx)(s':ee),Inv X T0 Z H s->CX X.stack H s E e s'->X.xe e s'
section
variable{k:Nat}{dvs:List V}{ds:Ui}{E:XK}{T9:Pos}{o:g1}{t:TA}
theorem zh{Q:VK}{vs:List V}(F:FnOk X.prog X.w X.K X.mg X.base CX k f fd ps sp)(q:Room k X.A)(y:Binds X.K fd ps ds)(z:Vals dvs ds)(v:cy CX X E)(I:Inv X T0 Z H s)(r:Vals vs us)(h:sp (vs++dvs) H Q E):eT (ft X.prog X.w) X.A (call (.ref f) us) (EP X T0 Z Q) X.xe s:=by
 have j:Vals (vs++dvs) (us++ds):=r.append z;have n:(us++ds).length=ps.length:=by rw[<- j.length];exact F.len _ _ _ _ h
 refine Th (py (F.run X.A X.stack s H ⟨us,[]⟩ (us++ds) (vs++dvs) Q E q I.env0 (y s us I.kIn n) j h) λr l g=>?_);cases r with
 |error e=>exact v T0 Z H s e l I g
 |ok fl=>
  cases fl with
  |ret u=>exact I.after g
  |next=>exact Nt g
  |brk=>exact Nt g
  |cont=>exact Nt g
theorem CB(F:FnOk X.prog X.w X.K X.mg X.base CX k f fd ps sp)(l:Room k X.A)(v:Gl X x)(j:X.mg x=cb (.ref f))(z:N6 X.K (.ref f)=true)(y:Binds X.K fd ps ds)(n:Vals dvs ds)(B:cy CX X E)(G:PA X (e::es) t)(g:(x==("__debug__":Str))=false:=by decide)(he:fe (e::es) X.env=(eH,g3 e X.env)::fe es X.env:=by rfl)(hpl:(lb pos<|starEach es X.env).any (·.1)=false:=by rfl):
  PE X (.Call (.Name x p) (e::es) [] pos) (LY sp dvs E t):=by
 intro T0 s Z H Q I h;refine ol (fU I v j ?_ g);refine Ql (h₀:=X.base) I.ok.mod.kin z (bC (G pos T0 s Z H _ I h) λus J ⟨L,H1,I1,r,q⟩=>⟨I1.kIn,?_⟩) he hpl;exact zh F l y n B I1 r q
theorem Dn(O:PE X o ta)(c:Cls X.K C)(j:Meth X.K C m f)(F:FnOk X.prog X.w X.K X.mg X.base CX k f fd ps sp)(J:Room k X.A)(R:Binds X.K fd ps ds)(L:Vals dvs ds)(S:cy CX X E)(T:PA X (e::es) t)(g:fe (e::es) X.env=(eH,g3 e X.env)::fe es X.env:=by rfl)(hpl:(lb pos<|starEach es X.env).any (·.1)=false:=by rfl)(ht:g3 (.Call (.Attribute o m T9) (e::es) [] pos) X.env=(do
   let ov <- g3 o X.env
   S3 T9.atName
   let (f,first) <- No [ov] (Tb ov m pl)
   callWith pos f first (lb pos<|starEach (e::es) X.env) (SC pos<|keywordEach [] X.env)):=by rfl):
  PE X (.Call (.Attribute o m T9) (e::es) [] pos) (Lr C m sp dvs E ta t):=by
 intro T0 s Z H Q I h;refine W.methodCall_KW (pl:=pl) (bC (O T0 s Z H _ I h) λu v n=>?_) ht;obtain⟨x,H1,I1,G,a,dx,fs,B,z,l,q⟩:=n;subst B;obtain rfl:u=MD a:=G;refine ug I1 z c j l ?_;refine Ql (first:=[.ref a]) (h₀:=X.base) I.ok.mod.kin j.kp (bC (T pos T0 v Z H1 _ I1 q) λus U ⟨vs,H2,I2,r,y⟩=>⟨I2.kIn,?_⟩) g hpl
 exact zh (us:=.ref a::us) (vs:=.ref a::vs) F J R L S I2 (.cons rfl r) y
structure Mk(K:Mp)(C f:eC):Prop where
 makes:Qt K C=true
 init:NC K (.ref C) "__init__"=cb (cb<|.ref f)
 fn:W.isFn K (.ref f)=true
 kp:N6 K (.ref C)=true
theorem zm{Q:VK}{vs:List V}(M:Mk X.K C f)(F:FnOk X.prog X.w X.K X.mg X.base CX k f fd ps sp)(G:Room (k+1) X.A)(L:Binds X.K fd ps ds)(O:Vals dvs ds)(J:cy CX X E)(I:Inv X T0 Z H s)(r:Vals vs us)(h:∀x dx,H x=ed->H dx=ed->dx≠x->sp (.ref x::(vs++dvs)) (upd (upd H dx<|.own x) x<|.ins C dx []) (λv H2=>v=.non/\Q (.ref x) H2) E):
  eT (ft X.prog X.w) X.A (call (.ref C) us) (EP X T0 Z Q) X.xe s:=by
 have l:=h (s.heap.objs.size+1) s.heap.objs.size (I.hok.fresh<|Qq _) (I.hok.fresh<|Mn _) (MB<|OI _);have I2:=Inv.made (C:=C) I;have j:Vals (V.ref (s.heap.objs.size+1)::(vs++dvs)) (MD (s.heap.objs.size+1)::(us++ds)):=.cons rfl (r.append O);have y:(MD (s.heap.objs.size+1)::us++ds).length=ps.length:=by
  have e:=j.length;rw[F.len _ _ _ _ l]at e;exact e.symm
 refine Th (Aw (f:=f) I.kIn M.makes M.init (beq_iff_eq.mp M.fn) (py (F.run _ X.stack _ _ ⟨MD (s.heap.objs.size+1)::us,[]⟩ (MD (s.heap.objs.size+1)::(us++ds)) _ _ E (G.make C us [])
  (I2.env0.make C us []) (L _ (MD (s.heap.objs.size+1)::us) I2.kIn y) j l) λr q g=>?_))
 cases r with
 |error e=>exact J T0 Z _ _ e q I2 g
 |ok fl=>
  cases fl with
  |ret u=>
   obtain⟨v,H',I3,B,z,n⟩:=I2.after g;subst z;exact⟨B,⟨V.ref (s.heap.objs.size+1),H',I3,rfl,n⟩⟩
  |next=>exact Nt g
  |brk=>exact Nt g
  |cont=>exact Nt g
theorem BN(M:Mk X.K C f)(F:FnOk X.prog X.w X.K X.mg X.base CX k f fd ps sp)(l:Room (k+1) X.A)(v:Gl X x)(j:X.mg x=cb (.ref C))(y:Binds X.K fd ps ds)(n:Vals dvs ds)(z:cy CX X E)(B:PA X (e::es) t)(g:(x==("__debug__":Str))=false:=by decide)(he:fe (e::es) X.env=(eH,g3 e X.env)::fe es X.env:=by rfl)(hpl:(lb pos<|starEach es X.env).any (·.1)=false:=by rfl):
  PE X (.Call (.Name x p) (e::es) [] pos) (KO C sp dvs E t):=by
 intro T0 s Z H Q I h;refine ol (fU I v j ?_ g);refine Ql (h₀:=X.base) I.ok.mod.kin M.kp (bC (B pos T0 s Z H _ I h) λus G ⟨J,H1,I1,r,q⟩=>⟨I1.kIn,?_⟩) he hpl;exact zm M F l y n z I1 r q
end
section
variable{k:Nat}{ks:Uh}{E:XK}{T9 kpos:Pos}{o:g1}{kws:List On}{t tk:TA}{nm:Option Str}
variable{g:List cx->List cx->List cx}{gV:List V->List V->List V}
end
structure FnScope(N P:Uh)(sc:NE):Prop where
 kind:sc.kind=.function
 co:sc.isCoroutine=eH
 gen:sc.isGenerator=eH
 nd:N.Nodup
 pre:N.take P.length=P
 par:∀x∈P,sc.names.lookup x=cb .local\/sc.names.lookup x=cb .cell
 nofree:∀y∈sc.names,y.2≠.free
theorem nR{g:Str->Option Tl}{x:Str}:∀{binds:List (Str×cx)}{m:Uq},(∀v,(x,v)∉binds)->Tx g binds m x=m x
 |[],_,_=>rfl
 |(n,v)::r,m,h=>by
  unfold Tx;rw[nR λw j=>h w (Mz _ j)]
  split
  .have:x≠n:=by rintro rfl;exact h v Nu
   simp[this]
  .rfl
theorem nY{g:Str->Option Tl}{x:Str}:∀{binds:List (Str×cx)}{m:Uq},(∀v,(x,v)∉binds)->Tz g binds m x=m x
 |[],_,_=>rfl
 |(n,v)::r,m,h=>by
  unfold Tz;rw[nY λw j=>h w (Mz _ j)]
  split
  .rfl
  .have:x≠n:=by rintro rfl;exact h v Nu
   simp[this]
theorem nB{g:Str->Option Tl}{x:Str}{v:cx}:∀{P:Uh}{vs:Ui}{i:Nat}{m:Uq},P.Nodup->P[i]?=cb x->vs[i]?=cb v->g x=cb .local->
  Tx g (P.zip vs) m x=cb v
 |[],_,_,_,_,h,_,_=>by simp at h
 |_::_,[],_,_,_,_,h,_=>by simp at h
 |p::P,w::vs,0,m,nd,h1,h2,hk=>by
  simp at h1 h2;subst h1;subst h2;show Tx g ((p,w)::P.zip vs) m p=_;unfold Tx;rw[nR λv j=>(NG.mp nd).1 (Pp j).1,if_pos hk];simp
 |p::P,w::vs,i+1,m,nd,h1,h2,hk=>by
  show Tx g ((p,w)::P.zip vs) m x=_;unfold Tx;exact nB (i:=i) (NG.mp nd).2 (by simpa using h1) (by simpa using h2) hk
theorem nH{g:Str->Option Tl}{x:Str}{v:cx}:∀{P:Uh}{vs:Ui}{i:Nat}{m:Uq},P.Nodup->P[i]?=cb x->vs[i]?=cb v->g x≠cb .local->
  Tz g (P.zip vs) m x=cb v
 |[],_,_,_,_,h,_,_=>by simp at h
 |_::_,[],_,_,_,_,h,_=>by simp at h
 |p::P,w::vs,0,m,nd,h1,h2,hk=>by
  simp at h1 h2;subst h1;subst h2;show Tz g ((p,w)::P.zip vs) m p=_;unfold Tz;rw[nY λv j=>(NG.mp nd).1 (Pp j).1,if_neg hk];simp
 |p::P,w::vs,i+1,m,nd,h1,h2,hk=>by
  show Tz g ((p,w)::P.zip vs) m x=_;unfold Tz;exact nH (i:=i) (NG.mp nd).2 (by simpa using h1) (by simpa using h2) hk
noncomputable def start(N:Uh)(vs:List V):St:=vs.map cb++Mh (N.length-vs.length) ed
noncomputable def dO(CX:pT)(P:gg)(w:g5)(K:Mp)(mg:Uq)(base:g4)(N:Uh)(T4:Str)(scope:NE)(f:eC)(cd:cx)(A:hB)(outer:List Env)(s:ee)(H:Hp)(E:XK):Cx where
 prog:=P
 w:=w
 K:=K
 mg:=mg
 base:=base
 A:=A.deeper (envOfC T4 scope s.heap.objs.size f cd)
 N:=N
 s₀:=s
 H₀:=H
 env:=envOfC T4 scope s.heap.objs.size f cd
 outer:=outer
 stack:=envOfC T4 scope s.heap.objs.size f cd::outer
 ex:=[]
 calm:=true
 fn:=λ_=>true
 pn:=[]
 xe:=λe j=>eT (ft P w) (A.deeper<|envOfC T4 scope s.heap.objs.size f cd) (leaving (envOfC T4 scope s.heap.objs.size f cd) e) (λ_ g=>CX outer H s E e g) (λl g=>CX outer H s E l g) j
theorem qU{sc:NE}{n:Nat}(h:sc.names.lookup x=cb .cell):∃c,(cellsFrom n sc.names []).lookup x=cb c:=by
 have q:=W.cellsFrom_some sc.names n [] (.inl h);exact Option.isSome_iff_exists.mp q
theorem yx{l:Str}{g:NE}{R:cx}{j:List Env}{W:ee}{E:XK}{vs:List V}(S:FnScope N ps g)(hd:A.handled=ed)(F:Env0 P w K mg base A j s H)(hl:vs.length=ps.length)(r:Vals vs us)(x:InCallC s s.heap.objs.size (Tx (envOfC l g s.heap.objs.size f R).kindOf (ps.zip us) λ_=>ed) (cellsFrom (s.heap.objs.size+1) g.names []) (Tz (envOfC l g s.heap.objs.size f R).kindOf (ps.zip us) λ_=>ed) W):
  Inv (dO CX P w K mg base N l g f R A j s H E) [] (start N vs) H W:=by
 have hpl:ps.length<=N.length:=by have:=congrArg MN S.pre;rw[OF]at this;lia
 obtain⟨O,tk,rfl,U⟩:=x.done;have G:∀b:eC,b∉(dO CX P w K mg base N l g f R A j s H E).ex:=λb z=>absurd (show b∈([]:Uj) from z) (by simp)
 refine⟨⟨F.mod,S.kind,rfl,rfl,Mn _,λy z c O B=>?_,λy hy=>?_,λy c _ h=>?_,λ_=>hd,Around.frames_deeper F.frames,.inr ⟨rfl,rfl⟩,λb z=>absurd z (G b),F.bs,F.bsz,λb _ _=>G b,λb z=>absurd z (G b),F.funs,F.frf⟩,
  rfl,F.bare,Un.kept U,⟨_,x.toInCall.ns,λi y v O B h3=>?_⟩,λy c h=>⟨_,x.cell y c h⟩,F.hok.fresh (Mn _),λy c h=>?_,λp J=>absurd (show p∈([]:Uo) from J) (by simp),F.hok.kept U,?_⟩
 .exact name_of_addr x.apart (NH O) (NH B)
 .have hy:g.names.lookup y=cb .cell\/g.names.lookup y=cb .free:=hy
  rcases hy with hy|hy
  .exact qU hy
  .exact absurd rfl (S.nofree _<|NH hy)
 .exact NZ (x.above y c<|NH h)
 .have L:i<vs.length:=by
   unfold start at B
   by_cases L:i<vs.length
   .exact L
   .rw[Nb (by simpa using L)]at B
    rw[O8]at B
    split at B<;>cases B
  have Y:vs[i]?=cb v:=by
   unfold start at B;rw[Ny (by simpa using L),Mw]at B
   cases e:vs[i]? with
   |none=>rw[e]at B;cases B
   |some a=>rw[e]at B;cases B;rfl
  obtain⟨u,T,rv⟩:=r.get Y;have J:ps[i]?=cb y:=by
   rw[<- S.pre,QR (by lia)];exact O
  have I:ps.Nodup:=by rw[<- S.pre];exact S.nd.sublist (List.take_sublist _ _)
  refine⟨u,rv,?_⟩;rcases S.par y (NW J) with k|k
  .exact .inl ⟨k,nB I J T k⟩
  .obtain⟨c,e⟩:=qU (n:=s.heap.objs.size+1) k
   refine .inr ⟨.inl k,c,e,?_⟩;have q:=x.cell y c e;rw[nH I J T (by show g.names.lookup y≠_;rw[k];decide)]at q
   exact q
 .exact F.hok.fresh (NZ<|x.above y c<|NH h)
 .unfold start
  show _=N.length;rw[Mg,Md,OD];lia
theorem Le{k:Nat}{name l:Str}{B:Arguments}{g:NE}{dV kV Y pm z ct oc:cx}{an od:Option eC}{osl:Array (Option cx)}(lk:K.lookup f=cb ⟨oc,od,.func (PN name l B body g dV kV Y pm an z ct),osl⟩)(hcd:W.codeIn K z l=true)(S:FnScope N ps g)(len:∀vs H Q E,sp vs H Q E->vs.length=ps.length)(L:∀(A:hB)(j:List Env)(s:ee)(H:Hp)(vs:List V)(Q:VK)(E:XK),Room k (A.deeper<|envOfC l g s.heap.objs.size f z)->sp vs H Q E->
   ∃t,wx (dO CX P w K mg base N l g f z A j s H E) body t/\t { nx:=λ_ H'=>Q .non H',rt:=Q } (start N vs) H):
  FnOk P w K mg base CX (k+1) f (PN name l B body g dV kV Y pm an z ct) ps sp:=by
 refine⟨len,λA j s H args us vs Q E hr U hb r T=>?_⟩;have hl:=len _ _ _ _ T;have KX:K.In s.heap:=U.mod.kin.keeps λb o e=>(U.bs b o e).1;have lim:s.heap.NoLimit:=U.mod.nolimit.keeps λb o e=>(U.bs b o e).1;have G:∀y∈ps.zip us,g.names.lookup y.1=cb .local\/(g.names.lookup y.1=cb .cell/\((cellsFrom (s.heap.objs.size+1) g.names []).lookup y.1).isSome=true):=λ⟨n,v⟩ hy=>by
  rcases S.par n (Pp hy).1 with q|q
  .exact .inl q
  .exact .inr ⟨q,W.cellsFrom_some _ _ _<|.inl q⟩
 refine codeAny_call_function hr.depth (KX _ _ lk) rfl S.co S.gen rfl (W.codeRec_of KX hcd) (hb _ _ _ _ ?_);refine wpAny_newFunctionEnv_cells S.kind G λenv he s1 x=>?_;subst he;refine⟨lim.keeps x.toInCall.keep,codeAny_func ?_⟩;obtain⟨t,ht,hq⟩:=L A j s H vs Q E (hr.deeper _) T;have I:Inv (dO CX P w K mg base N l g f z A j s H E) [] (start N vs) H s1:=yx S hr.hd U hl r x;refine kL (ht [] s1 (start N vs) H _ I hq) (λfl s' O=>?_) λe s' O=>O;have R:∀{F:St}{H':Hp}{v:V}{u:cx},Inv (dO CX P w K mg base N l g f z A j s H E) [] F H' s'->RelV v u->Q v H'->CE j P w H s Q u s':=
  λ{F H' v u} J rv q=>⟨v,H',J.os,J.bare,J.base,J.hok,rv,q⟩
 cases fl with
 |ret u=>
  obtain⟨v,F,H',J,rv,q⟩:=O;exact R J rv q
 |next=>
  obtain⟨F,H',J,q⟩:=O;exact R (v:=V.non) (u:=Na) J rfl q
 |brk=>
  obtain⟨_,_,_,q⟩:=O;exact Nt q
 |cont=>
  obtain⟨_,_,_,q⟩:=O;exact Nt q
section
variable{t:TA}{id T:String}{r:List V->Hp->VK->Prop}
noncomputable def tCB(r:List V->Hp->VK->Prop)(t:TA):TE:=λZ H Q=>t Z H λg H1=>r g H1 Q
theorem zi(v:bL X (.builtin id) r)(y:Gl X x)(q:X.mg x=ed)(B:fy x=cb (.builtin id))(F:PA X (e::es) t)(z:x≠"__name__":=by decide)(hdb:(x==("__debug__":Str))=false:=by decide)(he:fe (e::es) X.env=(eH,g3 e X.env)::fe es X.env:=by rfl)(hpl:(lb pos<|starEach es X.env).any (·.1)=false:=by rfl):PE X (.Call (.Name x p) (e::es) [] pos) (tCB r t):=by
 intro T0 s Z H Q I h;refine ol (dN I y q B ?_ z hdb);exact PD (bC (F pos T0 s Z H _ I h) λus g ⟨j,H1,I1,l,n⟩=>v T0 g Z H1 j us Q I1 l n) he hpl
theorem yB(v:bL X (.type T) r)(y:Gl X x)(q:X.mg x=ed)(B:fy x=cb (.type T))(F:PA X (e::es) t)(z:x≠"__name__":=by decide)(hdb:(x==("__debug__":Str))=false:=by decide)(he:fe (e::es) X.env=(eH,g3 e X.env)::fe es X.env:=by rfl)(hpl:(lb pos<|starEach es X.env).any (·.1)=false:=by rfl):PE X (.Call (.Name x p) (e::es) [] pos) (tCB r t):=by
 intro T0 s Z H Q I h;refine ol (dN I y q B ?_ z hdb);exact Ng (bC (F pos T0 s Z H _ I h) λus g ⟨j,H1,I1,l,n⟩=>v T0 g Z H1 j us Q I1 l n) he hpl
end
end _2
namespace HT
open PySem PyProof.Rows
section
open PySem.SeqAt
open PySem.AutoSeq1 (wpAny_loadPart')
open PySem.MeetsSeq PySem.MeetsSeq2 PySem.MeetsSeq3
end
section
variable {prog:gg}{w:g5}{A:hB}{E:Um}{s:ee}
theorem Dq{t b:eC}{vs a:Ui}{Q:Um}(y:IsTup s.heap t vs.toArray)(z:IsTup s.heap b a.toArray)(v:vs≠[])
  (x:a=[]->Q (.ref t) s) (h2:a≠[]->Q (.ref s.heap.objs.size) { s with heap:=s.heap.push { cls:=.type "tuple",data:=.seq (vs++a).toArray } })
  (hsz:vs.length+a.length<=sizeLine):eT (ft prog w) A (lq .Add (.ref t)<|.ref b) Q E s:=by
 obtain⟨⟨cls,u,data,p⟩,l,o,n,q⟩:=id y;obtain⟨⟨r,f,m,g⟩,c,h,n2,i⟩:=id z;simp only at o q h i;subst o q h i;have e:vs.toArray++a.toArray=(vs++a).toArray:=by simp
 by_cases j:a=[]
 .exact TM ⟨_,l,rfl⟩ ⟨_,c,rfl⟩ Ta Tt O7 O3 (OY _ _)
   (tuple_addW1 t b vs.toArray a.toArray n n2 u f p g (by simpa using v)<|by simp[j]) ⟨l,c,x j⟩
 .refine TM ⟨_,l,rfl⟩ ⟨_,c,rfl⟩ Ta Tt O7 O3 (OY _ _)
   (tuple_addW2 t b vs.toArray a.toArray n n2 u f p g (by simpa using v) (by simpa using j)<|by rw[Ml,Ml];exact hsz) ⟨l,c,?_⟩
  rw[e];exact h2 j
noncomputable def sIx(n d:Nat):Option Int->Nat
 |none=>d
 |some v=>if v<0 then (v+(n:Int)).toNat else min v.toNat n
theorem lm(n d:Nat):sIx n d ed=d:=rfl
theorem xl(n d k:Nat):sIx n d (cb (k:Int))=min k n:=by
 show (if (k:Int)<0 then ((k:Int)+(n:Int)).toNat else min (k:Int).toNat n)=min k n
 rw[if_neg (by lia),MI]
theorem GX(n d:Nat)(b:d<=n)(o:Option Int):sIx n d o<=n:=by
 cases o with
 |none=>exact b
 |some v=>
  show (if v<0 then (v+(n:Int)).toNat else min v.toNat n)<=n
  by_cases a:v<0
  .rw[if_pos a];lia
  .rw[if_neg a];exact Nat.min_le_right _ _
theorem vB(v:Int)(n d:Nat):(if v<0 then max (v+(n:Int)) 0 else min v (n:Int))=((sIx n d (cb v):Nat):Int):=by
 show (if v<0 then max (v+(n:Int)) 0 else min v (n:Int))=(((if v<0 then (v+(n:Int)).toNat else min v.toNat n):Nat):Int)
 by_cases a:v<0
 .simp only[if_pos a];lia
 .simp only[if_neg a];lia
theorem uk(a b:Option Int)(n:Nat):OH a b 1 (n:Int)=(((sIx n 0 a:Nat):Int),((sIx n n b:Nat):Int)):=by
 have c:¬((1:Int)<0):=by lia
 unfold OH;simp only[c,if_false];refine Ro ?_ ?_
 .cases a with
  |none=>rfl
  |some v=>exact vB v n 0
 .cases b with
  |none=>rfl
  |some v=>exact vB v n n
theorem uS(i j:Nat):Od (i:Int) (j:Int) 1=j-i:=by
 unfold Od;have a:(1:Int)>0:=by lia
 simp only[a,if_true,Int.ediv_one]
 split<;>lia
theorem mF{v:cx}{o:Option Int}{Q:Option Int->ee->Prop}(p:SV v o)(h:Q o s):eT (ft prog w) A (Builtin.Slice.slicePartIndex v) Q E s:=by
 cases p with
 |none=>exact slicePart_none h
 |int i t=>exact slicePart_int h
theorem dU{i:eC}{g f:cx}{a e:Option Int}{n:Nat}{Q:Int×Int×Nat->ee->Prop}(l:s.heap.IsSliceOf i g f .none)(pl:SV g a)(m:SV f e)
  (h:Q (((sIx n 0 a:Nat):Int),1,sIx n n e-sIx n 0 a) s):eT (ft prog w) A (PV (.ref i)<|pure (n:Int)) Q E s:=by
 obtain⟨o,b,j,c⟩:=id l;unfold PV Builtin.Slice.sliceFields;refine cT (cT<|wpAny_field b c (x:=g) rfl<|wpAny_bind<|wpAny_field b c (x:=f) rfl<|wpAny_bind<|wpAny_field b c (x:=.none) rfl<|wpAny_pure ?_);refine cT (slicePart_none ?_);show eT _ _ (if ((1:Int)==0)=true then _ else _) _ _ s
 rw[if_neg (by decide)]
 refine cT (mF pl<|wpAny_bind<|mF m<|wpAny_bind<|wpAny_pure ?_);show eT _ _ (match OH a e 1 (n:Int) with|(a,e)=>pure (a,(1:Int),Od a e 1)) _ _ s
 rw[uk a e n];show eT _ _ (pure (((sIx n 0 a:Nat):Int),(1:Int),Od ((sIx n 0 a:Nat):Int) ((sIx n n e:Nat):Int) 1)) _ _ s;rw[uS];exact eP h
theorem B7(xs:Ur)(i k:Nat):((Ol k).filterMap λ(m:Nat)=>xs[((i:Int)+(m:Int)*1).toNat]?).toArray=((xs.toList.drop i).take k).toArray:=by
 have e:(λ(m:Nat)=>xs[((i:Int)+(m:Int)*1).toNat]?)=λm=>xs[i+m]?:=by
  funext m;have:((i:Int)+(m:Int)*1).toNat=i+m:=by lia
  rw[this]
 rw[e];have:=pick_run xs i k;rw[List.filterMap_map]at this;have a:((λx=>xs[x]?) ∘ λx=>i+x)=λm=>xs[i+m]?:=rfl;rw[a]at this;rw[this]
theorem ic{t n:eC}{a:Ur}{r p:cx}{c e:Option Int}{Q:Um}(f:IsTup s.heap t a)(o:s.heap.IsSliceOf n r p .none)(pl:SV r c)(x:SV p e)
  (y:¬(sIx a.size 0 c=0/\sIx a.size a.size e=a.size))
  (h:Q (.ref s.heap.objs.size) { s with heap:=s.heap.push { cls:=.type "tuple",data:=.seq ((a.toList.drop<|sIx a.size 0 c).take (sIx a.size a.size e-sIx a.size 0 c)).toArray } })
  (hsz:a.size<=sizeLine):eT (ft prog w) A (SX (.ref t)<|.ref n) Q E s:=by
 have b:sizeOk (.seq ((a.toList.drop<|sIx a.size 0 c).take (sIx a.size a.size e-sIx a.size 0 c)).toArray):=by
  show ((a.toList.drop<|sIx a.size 0 c).take (sIx a.size a.size e-sIx a.size 0 c)).toArray.size<=sizeLine;rw[Ml,OF,List.length_drop,MP];lia
 have z:sIx a.size a.size e<=a.size:=GX _ _ (Mn _) e;obtain⟨u,l,g,v⟩:=id o;have i:s.TypeIs (.ref n) "slice":=⟨u,l,g⟩;unfold SX
 try with_reducible refine k6 ?_
 first|refine cT (eP ?_)|skip
 refine cT (wpAny_sequenceKey f.typeIs (by decide) ?_)
 refine cT (wpAny_callSpecial?_slot (name:=Mq "__getitem__") f.typeIs Ni
  (Op Ni f.typeIs entry_tuple_getitem ?_<|args_tuple_getitem _ _))
 show eT _ _ (PU (.ref t) >>= _) _ _ s;refine cT (tupleItemsOf_ f ?_);refine cT (PP i ?_);rw[if_pos (by decide)]
 refine cT (dU o pl x ?_);have j:¬((((sIx a.size 0 c:Nat):Int)==0&&(1:Int)==1&&(sIx a.size a.size e-sIx a.size 0 c)==a.size)=true):=by
  intro q;rw[MA,MA]at q;have B:((sIx a.size 0 c:Nat):Int)=0:=eq_of_beq q.1.1;have C:sIx a.size a.size e-sIx a.size 0 c=a.size:=eq_of_beq q.2;exact y ⟨by lia,by lia⟩
 show eT _ _ (if (((sIx a.size 0 c:Nat):Int)==0&&(1:Int)==1&&(sIx a.size a.size e-sIx a.size 0 c)==a.size)=true then _ else _) _ _ s
 rw[if_neg j,B7]
 first
  |exact cT (m:=NK _) (x9 (eP ⟨_,rfl,eP h⟩) b)
  |exact cT (m:=NK _) (x9 (cT<|wpAny_pure<|wpAny_pure ⟨_,rfl,eP h⟩) b)
  |exact cT (cT (m:=NK _)<|wpAny_newObj_type (eP<|wpAny_pure ⟨_,rfl,eP h⟩) b)
  |exact cT (cT (m:=NK _)<|wpAny_newObj_type (eP ⟨_,rfl,eP h⟩) b)
end
end HT
namespace _2
open PySem PySem.Spec PyProof.Rows
variable{a b:eC}{A:hB}{X:Cx}{e o:g1}{H H':Hp}{T0:Uo}{xs:List (List bh×eC×cx)}{Ua:Ui}{n t':Nat}{pos:Pos}{P:gg}{s:ee}{Z:St}{α:Type}{u:cx}{E Q:Um}{w:g5}
noncomputable abbrev TO:=St->Hp->(Option Int->Hp->Prop)->Prop
def PO(X:Cx)(e:Option g1)(t:TO):Prop:=
 ∀(T0:Uo)(s:ee)(Z:St)(H:Hp)(Q:Option Int->Hp->Prop),Inv X T0 Z H s->t Z H Q->
  eT (ft X.prog X.w) X.A (evalPart e X.env) (λu c=>∃o H',Inv X T0 Z H' c/\SV u o/\Q o H') X.xe s
noncomputable def EI:TO:=λ_ H Q=>Q ed H
noncomputable def Kc(t:TE):TO:=λZ H Q=>t Z H λx H1=>∃i,x=.int i/\Q (cb i) H1
section
variable{te:TE}{lo hi:Option g1}{tl th:TO}{p2:Pos}
theorem EF:PO X ed EI:=by
 intro T0 s Z H Q I h;rw[evalPart_none];exact eP ⟨ed,H,I,.none,h⟩
theorem Ek(h:PE X e te):PO X (cb e) (Kc te):=by
 intro T0 s Z H Q I f;rw[evalPart_some];refine bC (h T0 s Z H _ I f) λu j ⟨x,H1,I1,g,c⟩=>?_;obtain⟨i,rfl,q⟩:=c;obtain⟨t,rfl⟩:=g;exact⟨cb i,H1,I1,.int i t,q⟩
def J_(X:Cx)(r:V->Option Int->Option Int->Hp->VK->Prop):Prop:=
 ∀(T0:Uo)(s:ee)(Z:St)(H:Hp)(x:V)(v vl vu:cx)(lo hi:Option Int)(sl:eC)(Q:VK),Inv X T0 Z H s->RelV x v->s.heap.IsSliceOf sl vl vu .none->SV vl lo->SV vu hi->r x lo hi H Q->
  ∃T id,Sy (.type T) "__getitem__"=pure (cb<|.builtin id)/\s.TypeIs v T/\eT (ft X.prog X.w) X.A (SX v<|.ref sl) (EP X T0 Z Q) X.xe s
noncomputable def tSl(r:V->Option Int->Option Int->Hp->VK->Prop)(te:TE)(tl th:TO):TE:=λZ H Q=>te Z H λx H1=>tl Z H1 λl H2=>th Z H2 λu H3=>r x l u H3 Q
theorem AG{r:V->Option Int->Option Int->Hp->VK->Prop}(K:J_ X r)(L:PE X e te)(M:PO X lo tl)(N:PO X hi th):PE X (.Subscript e (.Slice lo hi ed p2) pos) (tSl r te tl th):=by
 intro T0 s Z H Q I h;refine Subscript_ (bC (L T0 s Z H _ I h) λv z ⟨x,H1,I1,G,m⟩=>?_);refine wpAny_Slice (bC (M T0 z Z H1 _ I1 m) λg B ⟨l,H2,I2,J,F⟩=>bC (N T0 B Z H2 _ I2 F) λf c ⟨u,H3,I3,C,p⟩=>?_);rw[evalPart_none];refine eP ?_;have I4:Inv X T0 Z H3 { c with heap:=c.heap.push { cls:=.type "slice",data:=.fields #[g,f,.none] } }:=I3.kept (t':=c.toks) λb O q=>Me _ q;obtain⟨T,id,y,j,i⟩:=K T0 { c with heap:=c.heap.push { cls:=.type "slice",data:=.fields #[g,f,.none] } } Z H3 x v g f l u c.heap.objs.size Q I4 G (Heap.IsSliceOf.new ..) J C p;show eT (ft X.prog X.w) X.A (subscriptTail e (.Slice lo hi ed p2) v<|.ref c.heap.objs.size) (EP X T0 Z Q) X.xe { c with heap:=c.heap.push { cls:=.type "slice",data:=.fields #[g,f,.none] } };exact tail_any (ops:=[.ref c.heap.objs.size,v]) j y i (by with_unfolding_all rfl)
noncomputable def je(xs:List V)(lo hi:Option Int):List V:=(xs.drop<|HT.sIx xs.length 0 lo).take (HT.sIx xs.length xs.length hi-HT.sIx xs.length 0 lo)
theorem i_(xs:List V)(lo hi:Option Int):(je xs lo hi).length<=xs.length:=by
 unfold je;rw[OF,List.length_drop];lia
def rSlT(K:Mp):V->Option Int->Option Int->Hp->VK->Prop:=λx lo hi H Q=>∃a xs,x=.ref a/\iA K H a xs/\
 ¬(HT.sIx xs.length 0 lo=0/\HT.sIx xs.length xs.length hi=xs.length)/\∀p,H p=ed->Q (.ref p) (upd H p<|.tup<|je xs lo hi)
theorem HR:J_ X (rSlT X.K):=by
 intro T0 s Z H x v C F lo hi z Q I y i p j h;obtain⟨a,xs,rfl,m,l,q⟩:=h;cases y;obtain⟨Ua,r,g,f⟩:=I.tuple m;have c:Ua.toArray.size=xs.length:=by rw[Ml];exact r.length.symm
 refine⟨"tuple",_,Ni.lookup,g.typeIs,?_⟩;refine HT.ic g i p j (by rw[c];exact l) ?_ (by rw[c];exact f)
 rw[c];refine⟨.ref s.heap.objs.size,_,I.laid (t':=s.toks) (o:=.tup (je xs lo hi)) (λb B q=>Me _ q) (Mn _) ?_,rfl,q _<|I.hok.fresh<|Mn _⟩;exact⟨ME (i_ xs lo hi) f,_,(r.drop<|HT.sIx xs.length 0 lo).take (HT.sIx xs.length xs.length hi-HT.sIx xs.length 0 lo),⟨_,Mt _ rfl,⟨rfl,_,rfl⟩,rfl⟩⟩
noncomputable def KR(K:Mp):R2:=λx y H Q=>∃a b xs ys,x=.ref a/\y=.ref b/\iA K H a xs/\iA K H b ys/\xs≠[]/\xs.length+ys.length<=sizeLine/\
 (ys=[]->Q (.ref a) H)/\(ys≠[]->∀p,H p=ed->Q (.ref p) (upd H p<|.tup (xs++ys)))
theorem Vals.nil_iff{xs:List V}{us:Ui}(r:Vals xs us):us=[]↔xs=[]:=by
 cases r with
 |nil=>simp
 |cons _ _=>simp
theorem BI:cq X (lq .Add) (KR X.K):=by
 intro T0 s Z H x y v u Q I F p h;obtain⟨a,b,xs,m,rfl,rfl,l,i,C,f,j,r⟩:=h;cases F;cases p;obtain⟨Ua,c,B,_⟩:=I.tuple l;obtain⟨g,r2,p2,_⟩:=I.tuple i;refine HT.Dq B p2 (λz=>C (c.nil_iff.mp z)) (λz=>⟨.ref a,H,I,rfl,j<|r2.nil_iff.mp z⟩) (λz=>?_) (by rw[<- c.length,<- r2.length];exact f)
 refine⟨.ref s.heap.objs.size,_,I.laid (t':=s.toks) (o:=.tup (xs++m)) (λb G q=>Me _ q) (Mn _) ?_,rfl,r (λw=>z (r2.nil_iff.mpr w)) _<|I.hok.fresh<|Mn _⟩;exact⟨by rw[Mg];exact f,_,c.append r2,⟨_,Mt _ rfl,⟨rfl,_,rfl⟩,rfl⟩⟩
end
noncomputable def wf(n:Nat)(i:Int):Option Nat:=if 0<=i then (if i<n then cb i.toNat else ed) else if -(n:Int)<=i then cb (i+n).toNat else ed
noncomputable def atI{α:Type}(xs:List α)(i:Int):Option α:=(wf xs.length i).bind λj=>xs[j]?
theorem pV{i:Int}{j:Nat}(h:wf n i=cb j):seqIndex? i n=cb j/\j<n/\-(n:Int)<=i/\i<n:=by
 unfold wf at h
 by_cases f:0<=i
 .rw[if_pos f]at h
  by_cases c:i<n
  .rw[if_pos c]at h
   have e:i.toNat=j:=MQ h;exact⟨by rw[TU f c,e],by lia,by lia,c⟩
  .rw[if_neg c]at h;cases h
 .rw[if_neg f]at h
  by_cases c:-(n:Int)<=i
  .rw[if_pos c]at h
   have e:(i+n).toNat=j:=MQ h;exact⟨by rw[TJ (by lia) c,e],by lia,c,by lia⟩
  .rw[if_neg c]at h;cases h
theorem oZ{xs:List α}{i:Int}{v:α}(h:atI xs i=cb v):∃j,seqIndex? i xs.length=cb j/\xs[j]?=cb v/\j<xs.length/\-(xs.length:Int)<=i/\i<xs.length:=by
 unfold atI at h;cases e:wf xs.length i with
 |none=>rw[e]at h;cases h
 |some j=>
  rw[e]at h;obtain⟨c,f,g,l⟩:=pV e;exact⟨j,c,h,f,g,l⟩
def oE(b:g1):Prop:=∀o i,subscripted b eH o i=operate [o,i] (SX o i)
def IxR(X:Cx)(r:R2):Prop:=
 ∀(value slice:g1)(T0:Uo)(s:ee)(Z:St)(H:Hp)(x y:V)(v u:cx)(Q:VK),Inv X T0 Z H s->RelV x v->RelV y u->r x y H Q->
  subscripted slice eH v u=operate [v,u] (SX v u)->eT (ft X.prog X.w) X.A (subscriptTail value slice v u) (EP X T0 Z Q) X.xe s
def uO(X:Cx)(id:String)(r:V->List V->Hp->VK->Prop):Prop:=
 ∀(T0:Uo)(s:ee)(Z:St)(H:Hp)(x:V)(xs:List V)(v:cx)(us:Ui)(Q:VK),Inv X T0 Z H s->RelV x v->Vals xs us->r x xs H Q->
  eT (ft X.prog X.w) X.A (call (.builtin id) (v::us)) (EP X T0 Z Q) X.xe s
section
variable{a b:g1}{ta tb:TE}
theorem IxR.or{r l:R2}(h:IxR X r)(h':IxR X l):IxR X (λx y H Q=>r x y H Q\/l x y H Q):=by
 intro c f T0 s Z H x y v u Q I j i q g;rcases q with q|q
 .exact h c f T0 s Z H x y v u Q I j i q g
 .exact h' c f T0 s Z H x y v u Q I j i q g
theorem KI{r:R2}(i:IxR X r)(m:PE X a ta)(l:PE X b tb)(j:oE b):PE X (.Subscript a b pos) (JR r ta tb):=by
 intro T0 s Z H Q I h;exact Subscript_ (HA m l I h λv u c x y H2 I2 g f q=>i a b T0 c Z H2 x y v u Q I2 g f q (j _ _))
noncomputable def JD(K:Mp):R2:=λx y H Q=>∃p xs i v,x=.ref p/\y=.int i/\SqL K H p xs/\atI xs i=cb v/\Q v H
noncomputable def LF(K:Mp):R2:=λx y H Q=>∃p xs i v,x=.ref p/\y=.int i/\iA K H p xs/\atI xs i=cb v/\Q v H
noncomputable def LQ:R2:=λx y H Q=>∃z i c,x=.str z/\y=.int i/\z.length<=sizeLine/\atI z.cps.toList i=cb c/\Q (.str ⟨#[c]⟩) H
theorem ix_list:IxR X (JD X.K):=by
 intro g l T0 s Z H x y v u Q I T W h F;obtain⟨p,xs,i,z,rfl,rfl,U,M,q⟩:=h;cases T;obtain⟨t,rfl⟩:=W;obtain⟨Ua,r,C,Y⟩:=I.list U;obtain⟨j,f,O,h3,S,R⟩:=oZ M;obtain⟨w,G,B⟩:=r.get O;have N:=r.length;have hn:=g9;have c:EP X T0 Z Q w s:=⟨z,H,I,B,q⟩
 by_cases J:0<=i
 .have m:i.toNat=j:=by
   rw[TU J R]at f;exact MQ f
  exact item_listR C.isList J (by lia) (by rw[m];simpa using G) c F
 .have m:(i+(Ua.toArray.size:Int)).toNat=j:=by
   rw[TJ (by lia) S]at f
   rw[Ml,<- N];exact MQ f
  exact TH (x:=w) C.isList.typeIs slot_list_getitem.lookup
   (wpAny_getItem_list_neg (Q:=λr L=>r=w/\EP X T0 Z Q r L) C.isList (by lia) (by rw[Ml]<;>lia) (by lia) (by rw[m];simpa using G) ⟨rfl,c⟩) F
theorem ix_tup:IxR X (LF X.K):=by
 intro f g T0 s Z H x y v u Q I L O h G;obtain⟨p,xs,i,z,rfl,rfl,M,C,q⟩:=h;cases L;obtain⟨t,rfl⟩:=O;obtain⟨Ua,r,m,S⟩:=I.tuple M;obtain⟨j,R,J,T,Y,W⟩:=oZ C;obtain⟨w,N,l⟩:=r.get J;have F:=r.length;have U:=g9;have c:EP X T0 Z Q w s:=⟨z,H,I,l,q⟩
 exact TH (x:=w) m.typeIs slot_tuple_getitem.lookup
  (getItem_tuple (j:=j) (Q:=λr B=>r=w/\EP X T0 Z Q r B) m (by lia) (by lia) (by rw[Ml,<- F];exact R) (by simpa using N) ⟨rfl,c⟩) G
theorem A4:IxR X LQ:=by
 intro f g T0 s Z H x y v u Q I L G h C;obtain⟨z,i,c,rfl,rfl,M,r,q⟩:=h;obtain⟨t,rfl⟩:=L;obtain⟨t',rfl⟩:=G;obtain⟨j,l,J,N,F,K⟩:=oZ r;have B:z.cps.toList.length=z.length:=by simp[Str.length]
 rw[B]at l F K;have O:=g9;exact tail_any (SK s z t) slot_str_getitem.lookup (getItem_str (c:=c) (by
  have p:decide (i < -(2 ^ 63:Int))=false:=decide_eq_false (by lia)
  have m:decide (i>=2 ^ 63)=false:=decide_eq_false (by lia)
  rw[p,m,QS]) (by rw[l];simpa using J) ⟨.str ⟨#[c]⟩,H,I.tok _,⟨_,rfl⟩,q⟩) C
noncomputable def rIx(K:Mp):R2:=λx y H Q=>JD K x y H Q\/LF K x y H Q\/LQ x y H Q
theorem Jj:IxR X (rIx X.K):=ix_list.or (ix_tup.or A4)
theorem ur(Ua:Ui)(n j:Nat)(u:cx):Nj (·.setIfInBounds j u) { cls:=.type "list",data:=.seq Ua.toArray n }={ cls:=.type "list",data:=.seq (Ua.set j u).toArray n }:=by
 simp[Nj]
theorem Inv.lst{T0:Uo}{Z:St}{H:Hp}{s:ee}{p:eC}{xs:List V}(I:Inv X T0 Z H s)(h:H p=cb (.lst xs)):
  ∃(Ua:Ui)(n:Nat),Vals xs Ua/\s.heap.get? p=cb { cls:=.type "list",data:=.seq Ua.toArray n }/\xs.length<=sizeLine:=by
 obtain⟨z,Ua,n,r,e⟩:=I.hok p _ h;exact⟨Ua,n,r,e,z⟩
theorem Inv.lstUpd{p:eC}{xs ys:List V}{its':Ui}{n':Nat}{f:Obj->Obj}(I:Inv X T0 Z H s)(h:H p=cb (.lst xs))(ho:s.heap.get? p=cb { cls:=.type "list",data:=.seq Ua.toArray n })(hf:f { cls:=.type "list",data:=.seq Ua.toArray n }={ cls:=.type "list",data:=.seq its'.toArray n' })(r:Vals ys its')(hz:ys.length<=sizeLine)(t:Nat):
  Inv X T0 Z (upd H p<|.lst ys) { s with heap:=s.heap.update p f,toks:=t }:=by
 have e:(s.heap.update p f).get? p=cb { cls:=.type "list",data:=.seq its'.toArray n' }:=by
  rw[Og f ho (by rw[hf]<;>rfl),hf]
 refine I.write (x:=p) (e:=p) (by rw[h];trivial) (.inl rfl) (λb u hb q=>(Pg _ _<|ML hb).trans q) ⟨_,e⟩ ?_
 exact⟨hz,its',n',r,e⟩
def Kb:V->V->V->Hp->(Hp->Prop)->Prop:=λo i v H Q=>∃p xs k j,o=.ref p/\i=.int k/\H p=cb (.lst xs)/\wf xs.length k=cb j/\Q (upd H p<|.lst<|xs.set j v)
theorem Ar:HH X Kb:=by
 intro T0 s Z H o i v M N u Q I G F J h;obtain⟨p,xs,k,j,rfl,rfl,m,C,q⟩:=h;cases G;obtain⟨t,rfl⟩:=F;obtain⟨Ua,n,r,l,B⟩:=I.lst m;obtain⟨c,L,x,y⟩:=pV C;have g:=r.length;have K:=g9;have I':Inv X T0 Z (upd H p<|.lst<|xs.set j v) { s with heap:=s.heap.update p (Nj (·.setIfInBounds j u)) }:=
  I.lstUpd m l (ur Ua n j u) (r.set J j) (by rw[List.length_set];exact B) s.toks
 by_cases z:0<=k
 .have f:k.toNat=j:=by
   rw[TU z y]at c;exact MQ c
  exact W.ki_setAt l z (by lia) (by rw[Ml,<- g];exact y) (by rw[f];exact⟨_,I',q⟩)
 .have f:(k+(Ua.toArray.size:Int)).toNat=j:=by
   rw[TJ (by lia) x]at c
   rw[Ml,<- g];exact MQ c
  exact W.ki_setBack l (by lia) (by rw[Ml,<- g];exact x) (by lia) (by rw[f];exact⟨_,I',q⟩)
theorem pP(c f:Option Int)(n:Nat):(Pi c f ed n).1=((HT.sIx n 0 c:Nat):Int)/\(Pi c f ed n).2.1=((HT.sIx n n f:Nat):Int)/\(Pi c f ed n).2.2=1:=by
 refine⟨?_,?_,rfl⟩
 .cases c with
  |none=>simp[Pi,HT.sIx]
  |some i=>
   simp only[Pi,HT.sIx,RD,show (1:Int)>0 by decide,if_true]
   by_cases h:i<0
   .simp only[h,if_true]<;>lia
   .simp only[h,if_false]<;>lia
 .cases f with
  |none=>simp[Pi,HT.sIx]
  |some i=>
   simp only[Pi,HT.sIx,RD,show (1:Int)>0 by decide,if_true]
   by_cases h:i<0
   .simp only[h,if_true]<;>lia
   .simp only[h,if_false]<;>lia
theorem nh(Ua:Ui)(c f:Option Int):slicePick Ua.toArray c f ed=((Ua.drop<|HT.sIx Ua.length 0 c).take (HT.sIx Ua.length Ua.length f-HT.sIx Ua.length 0 c)).toArray:=by
 obtain⟨h,i,g⟩:=pP c f Ua.toArray.size;unfold slicePick;rw[h,i,g];simp only[sliceRange_one,pick_run,Ml]<;>rfl
def rSlL(K:Mp):V->Option Int->Option Int->Hp->VK->Prop:=λx c f H Q=>∃a xs,x=.ref a/\SqL K H a xs/\∀p,H p=ed->Q (.ref p) (upd H p<|.lst<|je xs c f)
theorem vG:J_ X (rSlL X.K):=by
 intro T0 s Z H x v F G f g B Q I z l y m h;obtain⟨a,xs,rfl,p,q⟩:=h;cases z;obtain⟨Ua,r,i,j⟩:=I.list p;have c:=r.length;refine⟨"list",_,slot_list_getitem.lookup,i.isList.typeIs,?_⟩;refine wpAny_getItem_list_slice i.isList l y m .none (by simp) ?_ (by rw[Ml]<;>lia)
 rw[nh,<- c];refine⟨.ref s.heap.objs.size,_,I.laid (t':=s.toks) (o:=.lst (je xs f g)) (λb C q=>Me _ q) (Mn _) ?_,rfl,q _<|I.hok.fresh<|Mn _⟩;exact⟨ME (i_ xs f g) j,_,0,(r.drop<|HT.sIx xs.length 0 f).take (HT.sIx xs.length xs.length g-HT.sIx xs.length 0 f),Mt _ rfl⟩
noncomputable def AA:V->Bool
 |.non=>true
 |.bl _=>true
 |.int _=>true
 |.str _=>true
 |_=>eH
noncomputable def qN:V->V->Bool
 |.non,.non=>true
 |.bl a,.bl b=>a==b
 |.bl a,.int b=>(if a then 1 else 0)==b
 |.int a,.bl b=>a==(if b then 1 else 0)
 |.int a,.int b=>a==b
 |.str a,.str b=>a==b
 |_,_=>eH
theorem B5{y x:V}{v:cx}(f:RelV y u)(c:RelV x v)(h:AA y=true)(g:AA x=true):Pa A s u v (qN y x):=by
 cases y with
 |non=>
  cases f;cases x with
  |non=>cases c;exact SeqAt.EqAt.same _
  |bl b=>cases c;exact SeqAt.EqAt.none_bool b
  |int b=>obtain⟨t,rfl⟩:=c;exact SeqAt.EqAt.none_int b t
  |str b=>obtain⟨t,rfl⟩:=c;exact SeqAt.EqAt.none_str b t
  |_=>exact absurd (show eH=true from g) MC
 |bl a=>
  cases f;cases x with
  |non=>cases c;exact SeqAt.EqAt.bool_none a
  |bl b=>cases c;exact SeqAt.EqAt.bool_bool a b
  |int b=>obtain⟨t,rfl⟩:=c;exact SeqAt.EqAt.bool_int a b t
  |str b=>obtain⟨t,rfl⟩:=c;exact SeqAt.EqAt.bool_str a b t
  |_=>exact absurd (show eH=true from g) MC
 |int a=>
  obtain⟨t',rfl⟩:=f;cases x with
  |non=>cases c;exact SeqAt.EqAt.int_none a t'
  |bl b=>cases c;exact SeqAt.EqAt.int_bool a t' b
  |int b=>obtain⟨t,rfl⟩:=c;exact SeqAt.EqAt.int_int a t' b t
  |str b=>obtain⟨t,rfl⟩:=c;exact QL a t' b t
  |_=>exact absurd (show eH=true from g) MC
 |str a=>
  obtain⟨t',rfl⟩:=f;cases x with
  |non=>cases c;exact SeqAt.EqAt.str_none a t'
  |bl b=>cases c;exact SeqAt.EqAt.str_bool a t' b
  |int b=>obtain⟨t,rfl⟩:=c;exact QK a t' b t
  |str b=>obtain⟨t,rfl⟩:=c;exact SeqAt.EqAt.str_str a t' b t
  |_=>exact absurd (show eH=true from g) MC
 |_=>exact absurd (show eH=true from h) MC
theorem oH:bL X (.builtin "len") (λxs H Q=>∃p ys,xs=[.ref p]/\(SqL X.K H p ys\/iA X.K H p ys)/\Q (.int ys.length) H):=by
 intro T0 s Z H xs l Q I r h;obtain⟨p,ys,rfl,hq,q⟩:=h;obtain⟨u,rfl,j⟩:=iV r;cases j;have m:=g9;rcases hq with hq|hq
 .obtain⟨Ua,f,g,i⟩:=I.list hq
  have c:=f.length;exact Calls.call_len_list g.isList (by simp only[Ml]<;>lia) ⟨.int ys.length,H,I.tok _,⟨s.toks+1,by rw[Ml,c]⟩,q⟩
 .obtain⟨Ua,f,g,i⟩:=I.tuple hq
  have c:=f.length;exact len_tuple g (by simp only[Ml]<;>lia) ⟨.int ys.length,H,I.tok _,⟨s.toks+1,by rw[Ml,c]⟩,q⟩
theorem pN:bL X (.builtin "len") (λxs H Q=>∃z,xs=[.str z]/\z.length<=sizeLine/\Q (.int z.length) H):=by
 intro T0 s Z H xs f Q I r h;obtain⟨z,rfl,c,q⟩:=h;obtain⟨u,rfl,t,rfl⟩:=iV r;have g:=g9;exact len_str (by lia) ⟨.int z.length,H,I.tok _,⟨_,rfl⟩,q⟩
theorem pi:bL X (.type "list") (λxs H Q=>∃p ys,xs=[.ref p]/\(SqL X.K H p ys\/iA X.K H p ys)/\∀l,H l=ed->Q (.ref l) (upd H l<|.lst ys)):=by
 intro T0 s Z H xs C Q I r h;obtain⟨p,ys,rfl,hq,q⟩:=h;obtain⟨u,rfl,B⟩:=iV r;cases B
 have j:∀(Ua:Ui),Vals ys Ua->ys.length<=sizeLine->∀(c:g4)(f:Nat),(∀b o',s.heap.get? b=cb o'->c.get? b=cb o')->
   c.get? s.heap.objs.size=cb { cls:=.type "list",dict:=ed,data:=.seq Ua.toArray f,slots:=#[] }->EP X T0 Z Q (.ref s.heap.objs.size) { s with heap:=c }:=λUa g i c f kp e=>
  ⟨.ref s.heap.objs.size,_,I.laid (t':=s.toks) kp (Mn _) (show ObjOk X.prog X.w _ c _ (.lst ys) from ⟨i,Ua,f,g,e⟩),rfl,q _<|I.hok.fresh<|Mn _⟩
 rcases hq with hq|hq
 .obtain⟨Ua,g,z,i⟩:=I.list hq
  have m:=g.length;obtain⟨o,y,x,n,v⟩:=z.isList;exact call_list_seq p (.inl rfl) y x v (λc f kp e=>j Ua g i c f kp e) (by simp only[Ml]<;>lia)
 .obtain⟨Ua,g,z,i⟩:=I.tuple hq
  have m:=g.length;obtain⟨o,y,x,n,v⟩:=z;exact call_list_seq p (.inr rfl) y x v (λc f kp e=>j Ua g i c f kp e) (by simp only[Ml]<;>lia)
theorem fZ:bL X (.type "tuple") (λxs H Q=>∃p ys,xs=[.ref p]/\((SqL X.K H p ys/\∀l,H l=ed->Q (.ref l) (upd H l<|.tup ys))\/(iA X.K H p ys/\Q (.ref p) H))):=by
 intro T0 s Z H xs x Q I r h;obtain⟨p,ys,rfl,h⟩:=h;obtain⟨u,rfl,v⟩:=iV r;cases v;rcases h with⟨f,q⟩|⟨f,q⟩
 .obtain⟨Ua,g,i,j⟩:=I.list f
  have m:=g.length;refine call_tuple_list i.isList (λc kp=>?_) (by simp only[Ml]<;>lia)
  have I1:Inv X T0 Z H { s with heap:=c }:=I.kept (t':=s.toks) kp;have I2:Inv X T0 Z (upd H c.objs.size<|.tup ys) { s with heap:=c.push { cls:=.type "tuple",data:=.seq Ua.toArray } }:=
   I1.laid (t':=s.toks) (λb o e=>Me _ e) (Mn _) (show ObjOk X.prog X.w _ _ _ (.tup ys) from ⟨j,Ua,g,⟨_,Mt _ rfl,⟨rfl,_,rfl⟩,rfl⟩⟩)
  exact⟨.ref c.objs.size,_,I2,rfl,q _<|I1.hok.fresh<|Mn _⟩
 .obtain⟨Ua,g,i,j⟩:=I.tuple f
  exact call_tuple_same i ⟨.ref p,H,I,rfl,q⟩
def tyV(K:Mp)(T:String)(x:V)(H:Hp):Prop:=match x with
 |.str _=>T="str"
 |.int _=>T="int"
 |.ref p=>(T="list"/\∃xs,SqL K H p xs)\/(T="tuple"/\∃o,K.lookup p=cb o/\o.cls=.type "tuple"/\o.dict=ed)\/
   (T="dict"/\((∃T5,H p=cb (.dK T5))\/∃T5,H p=cb (.dT T5)))\/(T="set"/\∃S n,H p=cb (.set S n))
 |_=>False
theorem zp{T:String}{x:V}{v:cx}(I:Inv X T0 Z H s)(r:RelV x v)(ty:tyV X.K T x H):
  s.TypeIs v T/\∀a,v=.ref a->∃q,s.heap.get? a=cb q/\q.dict=none:=by
 cases x with
 |str z=>
  obtain⟨t,rfl⟩:=r;cases (show T="str" from ty);exact⟨SK s z t,λ_ e=>nomatch e⟩
 |int i=>
  obtain⟨t,rfl⟩:=r;cases (show T="int" from ty);exact⟨typeIs_int s i t,λ_ e=>nomatch e⟩
 |ref p=>
  cases r;rcases ty with⟨rfl,xs,y⟩|⟨rfl,o,f,hc,h⟩|⟨rfl,f⟩|⟨rfl,S,n,f⟩
  .obtain⟨Ua,_,m,_⟩:=I.list y
   refine⟨m.isList.typeIs,λa e=>?_⟩;cases e;obtain⟨o,n,e,c,h,_⟩:=m;exact⟨o,e,h⟩
  .refine⟨⟨o,I.kIn p o f,hc⟩,λa e=>?_⟩
   cases e;exact⟨o,I.kIn _ o f,h⟩
  .have z:∃o,s.heap.get? p=cb o/\o.ExactDict:=by
    rcases f with⟨j,f⟩|⟨j,f⟩
    .obtain⟨_,_,_,_,o,_,_,e,g,_⟩:=I.hok p _ f
     exact⟨o,e,g⟩
    .obtain⟨_,_,_,_,o,_,_,e,g,_⟩:=I.hok p _ f
     exact⟨o,e,g⟩
   obtain⟨o,e,g⟩:=z;refine⟨⟨o,e,g.1⟩,λa l=>?_⟩;cases l;exact⟨o,e,g.2.1⟩
  .obtain⟨o,_,_,_,e,g,_⟩:=I.hok p _ f
   refine⟨⟨o,e,g.1⟩,λa l=>?_⟩;cases l;exact⟨o,e,g.2.1⟩
 |_=>exact Nt ty
noncomputable def tBM0(K:Mp)(T:String)(r:V->List V->Hp->VK->Prop)(to:TE):TE:=λZ H Q=>to Z H λx H1=>tyV K T x H1/\r x [] H1 Q
noncomputable def tBM(K:Mp)(T:String)(r:V->List V->Hp->VK->Prop)(to:TE)(t:TA):TE:=λZ H Q=>to Z H λx H1=>tyV K T x H1/\t Z H1 λxs H2=>r x xs H2 Q
variable{es:Uk}{to:TE}{t:TA}{name:Str}{T9 T8:Pos}{T id:String}{r:V->List V->Hp->VK->Prop}
theorem Gb(y:SL T)(f:Slot T name id)(g:S0 (.builtin id)=pure (.type "method_descriptor"))(hm:uO X id r)(q:PE X o to)(c:mu o name X.env (g3 o X.env)=g3 o X.env:=by rfl)(hline:(T9.endLine==T8.line)=true:=by rfl):PE X (.Call (.Attribute o name T9) [] [] T8) (tBM0 X.K T r to):=by
 intro T0 s Z H Q I h;refine wpAny_Call_method0_late c hline (bC (q T0 s Z H _ I h) λv j ⟨x,H1,I1,i,ty,p⟩=>?_);obtain⟨l,m⟩:=zp I1 i ty;exact⟨T,id,y,f,g,l,m,Pb rfl<|PySem.evalArgs_none<|hm T0 j Z H1 x [] v [] Q I1 i .nil p⟩
theorem KH(L:SL T)(f:Slot T name id)(g:S0 (.builtin id)=pure (.type "method_descriptor"))(G:uO X id r)(J:PE X o to)(M:PA X (e::es) t)(c:mu o name X.env (g3 o X.env)=g3 o X.env:=by rfl)(hfew:((lb T8<|starEach (e::es) X.env).all (λx=>!x.1)&&(SC T8<|keywordEach [] X.env).all (λx=>x.1.isSome)
   && decide ((e::es).length+([]:List On).length+(if ([]:List On).isEmpty then 0 else 1)<30))=true:=by rfl)(hline:(T9.endLine==T8.line)=true:=by rfl)(hs:fe (e::es) X.env=(eH,g3 e X.env)::fe es X.env:=by rfl)(hplain:(lb T8<|starEach es X.env).any (·.1)=false:=by rfl):
  PE X (.Call (.Attribute o name T9) (e::es) [] T8) (tBM X.K T r to t):=by
 intro T0 s Z H Q I h;refine TF c hfew hline rfl (bC (J T0 s Z H _ I h) λv q ⟨x,H1,I1,j,ty,p⟩=>?_);obtain⟨z,C⟩:=zp I1 j ty;refine⟨T,id,L,f,g,z,C,?_⟩;have i:=M T8 T0 q Z H1 _ I1 p;rw[hs]at i ⊢;refine Pb (by show (eH||(lb T8<|starEach es X.env).any (·.1))=eH;rw[hplain]<;>rfl) (Py ?_)
 exact bC i λm y ⟨F,H2,I2,l,B⟩=>G T0 y Z H2 x F v m Q I2 j l B
end
def MtM(X:Cx)(id:String)(r:V->List V->Hp->VK->Prop):Prop:=
 ∀(T0:Uo)(s:ee)(Z:St)(H:Hp)(x:V)(xs:List V)(v:cx)(us:Ui)(Q:VK),Inv X T0 Z H s->RelV x v->Vals xs us->r x xs H Q->
  eT (ft X.prog X.w) X.A (call (.builtin id) (v::us)) (EP X T0 Z Q) X.xe s
theorem Vals.one:∀{x:V}{us:Ui},Vals [x] us->∃u,us=[u]/\RelV x u
 |_,_,h=>by cases h with|cons r q=>cases q;exact⟨_,rfl,r⟩
theorem Vals.two:∀{x y:V}{us:Ui},Vals [x,y] us->∃u v,us=[u,v]/\RelV x u/\RelV y v
 |_,_,_,h=>by cases h with|cons r q=>cases q with|cons q z=>cases z;exact⟨_,_,rfl,r,q⟩
theorem Vals.zero:∀{us:Ui},Vals [] us->us=[]
 |_,.nil=>rfl
theorem Vals.dropLast{xs:List V}{us:Ui}(h:Vals xs us):Vals xs.dropLast us.dropLast:=by
 induction h with
 |nil=>exact .nil
 |cons r t ih=>
  cases t with
  |nil=>exact .nil
  |cons q t'=>exact .cons r ih
theorem Vals.eraseIdx:∀{xs:List V}{us:Ui}(i:Nat),Vals xs us->Vals (xs.eraseIdx i) (us.eraseIdx i)
 |_,_,_,.nil=>.nil
 |_,_,0,.cons _ t=>t
 |_,_,i+1,.cons r t=>.cons r (Vals.eraseIdx i t)
theorem Vals.rep{xs:List V}{us:Ui}(h:Vals xs us):∀k:Nat,Vals (Mh k xs).flatten (Mh k us).flatten
 |0=>.nil
 |k+1=>by
  rw[MZ,MZ,Oh,Oh];exact Vals.append h (Vals.rep h k)
theorem tP(l:List α):l.eraseIdx (l.length-1)=l.dropLast:=by
 induction l with
 |nil=>rfl
 |cons a r ih=>
  cases r with
  |nil=>rfl
  |cons b r=>
   have e:(a::b::r).length-1=((b::r).length-1)+1:=by
    have c:(a::b::r).length=r.length+2:=rfl;have f:(b::r).length=r.length+1:=rfl;lia
   rw[e,List.eraseIdx_cons_succ,ih]
   all_goals rfl
theorem ow{α:Type}:∀(l:List α)(i:Nat),(l.eraseIdx i).length<=l.length
 |[],_=>Mn _
 |_::_,0=>Qq _
 |_::r,i+1=>Nat.succ_le_succ (ow r i)
section
variable{l:eC}{xs ys zs:List V}
theorem Inv.lset{its':Ui}{f:Array cx->Array cx}{t':Nat}(I:Inv X T0 Z H s)(hH:H l=cb (.lst xs))(e:s.heap.get? l=cb { cls:=.type "list",data:=.seq Ua.toArray n })(hf:f Ua.toArray=its'.toArray)(hv:Vals ys its')(hz:ys.length<=sizeLine):
  Inv X T0 Z (upd H l<|.lst ys) { s with heap:=s.heap.update l (Nj f),toks:=t' }:=by
 have q:=PySem.IsL.update e f;rw[hf]at q;refine I.write (x:=l) (e:=l) (by rw[hH];exact trivial) (.inl rfl) (λb' u hb hu=>(Pg s.heap (Nj f)<|ML hb).trans hu) ⟨_,q⟩ ?_
 exact⟨hz,its',_,hv,q⟩
theorem Inv.lnew{t':Nat}(I:Inv X T0 Z H s)(c:Vals ys Ua)(f:ys.length<=sizeLine):
  Inv X T0 Z (upd H s.heap.objs.size<|.lst ys) { s with heap:=s.heap.push { cls:=.type "list",data:=.seq Ua.toArray },toks:=t' }:=
 I.laid (λ_ _ q=>Me _ q) (Mn _) ⟨f,Ua,0,c,Mt _ rfl⟩
theorem Inv.fresh(I:Inv X T0 Z H s):H s.heap.objs.size=none:=I.hok.fresh (Mn _)
theorem Inv.lstM(I:Inv X T0 Z H s)(c:H l=cb (.lst xs)):xs.length<=sizeLine/\∃(Ua:Ui)(n:Nat),Vals xs Ua/\xs.length=Ua.length/\s.heap.get? l=cb { cls:=.type "list",data:=.seq Ua.toArray n }:=by
 obtain⟨z,Ua,n,r,e⟩:=I.hok l _ c;exact⟨z,Ua,n,r,r.length,e⟩
theorem By(h:n<=sizeLine):OM n=false:=by
 unfold OM;exact decide_eq_false (by lia)
end
section
def DV:V->List V->Hp->VK->Prop:=λx c H Q=>∃l xs y,x=.ref l/\c=[y]/\H l=cb (.lst xs)/\xs.length<sizeLine/\Q .non (upd H l<|.lst (xs++[y]))
theorem yo:MtM X "list.append" DV:=by
 intro T0 s Z H x B v p Q I g i h;obtain⟨l,xs,y,rfl,rfl,c,j,q⟩:=h;cases g;obtain⟨u,rfl,f⟩:=i.one;obtain⟨z,Ua,n,r,m,e⟩:=I.lstM c;refine oo PJ ⟨_,e,rfl⟩ F.entry_list_append (F.args_list_append_2 _ _) (RA l Ua.toArray n u<|by rw[Ml];lia) ⟨e,?_⟩
 refine⟨.non,_,I.lset (its':=Ua++[u]) c e (by simp) (r.append<|.cons f .nil) ?_,rfl,q⟩
 rw[Mg,NA];lia
def rPop:V->List V->Hp->VK->Prop:=λx c H Q=>∃l xs y,x=.ref l/\c=[]/\H l=cb (.lst xs)/\xs[xs.length-1]?=cb y/\Q y (upd H l<|.lst xs.dropLast)
theorem Hw:MtM X "list.pop" rPop:=by
 intro T0 s Z H x J v G Q I B C h;obtain⟨l,xs,y,rfl,rfl,g,i,q⟩:=h;cases B;have c:=C.zero;subst c;obtain⟨z,Ua,n,r,j,e⟩:=I.lstM g;obtain⟨u,m,p⟩:=r.get i;have f:Ua.toArray[Ua.toArray.size-1]?=cb u:=by
  show Ua.toArray[Ua.length-1]?=cb u;rw[<- Nz,<- j];exact m
 refine oo OS ⟨_,e,rfl⟩ F.entry_list_pop (F.args_list_pop_1 _) (MeetsSeq.list_pop_last l Ua.toArray n u f<|by rw[Ml];lia) ⟨e,?_⟩
 refine⟨y,_,I.lset (its':=Ua.dropLast) g e ?_ r.dropLast ?_,p,q⟩
 .show Ua.toArray.eraseIdxIfInBounds (Ua.toArray.size-1)=Ua.dropLast.toArray
  rw[Ml,Qd,tP]
 .rw[List.length_dropLast]
  lia
def Hk:V->List V->Hp->VK->Prop:=λx c H Q=>∃l xs i k y,x=.ref l/\c=[.int i]/\H l=cb (.lst xs)/\-(2 ^ 63)<=i/\i<2 ^ 63/\seqIndex? i xs.length=cb k/\xs[k]?=cb y/\Q y (upd H l<|.lst<|xs.eraseIdx k)
theorem Bo:MtM X "list.pop" Hk:=by
 intro T0 s Z H x M v L Q I J K h;obtain⟨l,xs,i,k,y,rfl,rfl,f,C,G,m,g,q⟩:=h;cases J;obtain⟨u,rfl,p⟩:=K.one;obtain⟨t,rfl⟩:=p;obtain⟨z,Ua,n,r,j,e⟩:=I.lstM f;obtain⟨w,B,c⟩:=r.get g
 refine oo OS ⟨_,e,rfl⟩ F.entry_list_pop (F.args_list_pop_2 _ _)
  (MeetsSeq.list_pop_at l Ua.toArray n i t k w (fitsIndex_both C G) (by rw[Ml,<- j];exact m) (by rw[<- Nz];exact B)<|by rw[Ml];lia) ⟨e,?_⟩
 refine⟨y,_,I.lset (its':=Ua.eraseIdx k) f e ?_ (r.eraseIdx k) ?_,c,q⟩
 .show Ua.toArray.eraseIdxIfInBounds k=(Ua.eraseIdx k).toArray
  rw[Qd]
 .have:=ow xs k
  lia
theorem EH(xs:List α)(k:Nat):(Mh k xs).flatten.length=k*xs.length:=by
 induction k with
 |zero=>simp
 |succ k ih=>rw[MZ,Oh,Mg,ih,Nat.succ_mul,Nat.add_comm]
end
section
variable{prog:gg}
set_option maxRecDepth 100000 in
end
section
end
section
variable{κ:Type}[DecidableEq κ]
noncomputable def fX(T5:List (κ×V))(k:κ):Option V:=(T5.find? λc=>decide (c.1=k)).map (·.2)
noncomputable def cJ(T5:List (κ×V))(k:κ)(v:V):List (κ×V):=
 if (T5.any λc=>decide (c.1=k))=true then T5.map (λc=>if c.1=k then (c.1,v) else c) else T5++[(k,v)]
theorem m7{p:κ×V}{r:List (κ×V)}{k:κ}(e:p.1=k):fX (p::r) k=cb p.2:=by simp[fX,NS,e]
theorem kX{p:κ×V}{r:List (κ×V)}{k:κ}(e:¬p.1=k):fX (p::r) k=fX r k:=by simp[fX,NS,e]
theorem r_(k:κ):∀T5:List (κ×V),(T5.any λkv=>decide (kv.1=k))=(fX T5 k).isSome
 |[]=>rfl
 |p::r=>by
  rw[ND]
  by_cases e:p.1=k
  .simp only[m7 e,decide_eq_true e,Bool.true_or,Option.isSome_some]
  .rw[kX e,decide_eq_false e,PZ];exact r_ k r
theorem iY(T5:List (κ×V))(k:κ)(v:V):(cJ T5 k v).length<=T5.length+1:=by
 unfold cJ
 split
 .rw[Md];lia
 .rw[Mg,Mc,Mv];lia
theorem RelO.isSome_eq{o:Option V}{u:Option cx}(r:RelO o u):o.isSome=u.isSome:=by
 cases o with
 |none=>cases u with
  |none=>rfl
  |some _=>exact(show False from r).elim
 |some _=>cases u with
  |none=>exact(show False from r).elim
  |some _=>rfl
theorem KV.val{T5:List (κ×V)}{vs:List (κ×cx)}(r:KV T5 vs)(k:κ):RelO (fX T5 k) (pv vs k):=by
 unfold KV at r
 induction r with
 |nil=>exact N8
 |@cons p q ps qs h t ih=>
  obtain⟨f,g⟩:=h
  by_cases e:p.1=k
  .have c:q.1=k:=f.symm.trans e
   have b:pv (q::qs) k=cb q.2:=by simp[pv,NS,c]
   rw[m7 e,b];exact g
  .have c:¬q.1=k:=λz=>e (f.trans z)
   have b:pv (q::qs) k=pv qs k:=by simp[pv,NS,c]
   rw[kX e,b];exact ih
theorem KV.any{T5:List (κ×V)}{vs:List (κ×cx)}(r:KV T5 vs)(k:κ):(T5.any λkv=>decide (kv.1=k))=vs.any λkv=>decide (kv.1=k):=by
 unfold KV at r
 induction r with
 |nil=>rfl
 |cons h t ih=>rw[ND,ND,ih,h.1]
theorem KV.repl{T5:List (κ×V)}{vs:List (κ×cx)}(r:KV T5 vs)(k:κ){y:V}(g:RelV y u):
  KV (T5.map λkv=>if kv.1=k then (kv.1,y) else kv) (vs.map λkv=>if kv.1=k then (kv.1,u) else kv):=by
 unfold KV at r ⊢
 induction r with
 |nil=>exact .nil
 |@cons p q ps qs h t ih=>
  rw[Mo,Mo];refine .cons ?_ ih;obtain⟨c,f⟩:=h
  by_cases e:p.1=k
  .rw[if_pos e,if_pos (c.symm.trans e)];exact⟨c,g⟩
  .rw[if_neg e,if_neg (λz=>e (c.trans z))];exact⟨c,f⟩
theorem KV.put{T5:List (κ×V)}{vs:List (κ×cx)}(r:KV T5 vs)(k:κ){y:V}(c:RelV y u):KV (cJ T5 k y) (stored vs k u):=by
 unfold cJ stored;rw[r.any k]
 by_cases e:(vs.any λf=>decide (f.1=k))=true
 .rw[if_pos e,if_pos e];exact r.repl k c
 .rw[if_neg e,if_neg e];exact Paired.snoc r ⟨rfl,c⟩
theorem KV.length{T5:List (κ×V)}{vs:List (κ×cx)}(r:KV T5 vs):T5.length=vs.length:=NT r
end
theorem nX{k:bh}(r:RelV (kV k) u):(aP P w).is k u=true:=by
 cases k with
 |inl i=>obtain⟨t,e⟩:=(show ∃t,u=PC i t from r);subst e;exact qR P w i t
 |inr x=>obtain⟨t,e⟩:=(show ∃t,u=PB x t from r);subst e;exact su P w x t
theorem ox{P:gg}{w:g5}:∀{ks:List bh}{us:Ui},Vals (ks.map kV) us->ItemsAre (aP P w) ks us
 |[],_,r=>by rw[OB]at r;cases r;exact .nil
 |k::ks,_,r=>by
  rw[Mo]at r;cases r with
  |cons h t=>exact .cons (nX h) (ox t)
abbrev KT(H:Hp):List (List bh×V)->List (List bh×eC×cx)->Prop:=SM λp q=>p.1=q.1/\H q.2.1=cb (.tup<|p.1.map kV)/\RelV p.2 q.2.2
theorem KT.val{T5:List (List bh×V)}(r:KT H T5 xs)(k:List bh):RelO (fX T5 k) ((Tj xs k).map (·.2)):=by
 induction r with
 |nil=>exact N8
 |@cons p q ps qs h t ih=>
  obtain⟨f,_,g⟩:=h
  by_cases e:p.1=k
  .have c:q.1=k:=f.symm.trans e
   have b:Tj (q::qs) k=cb q.2:=by simp[Tj,NS,c]
   rw[m7 e,b];exact g
  .have c:¬q.1=k:=λz=>e (f.trans z)
   have b:Tj (q::qs) k=Tj qs k:=by simp[Tj,NS,c]
   rw[kX e,b];exact ih
theorem KT.repl{T5:List (List bh×V)}(r:KT H T5 xs)(k:List bh){y:V}(i:RelV y u):
  KT H (T5.map λkv=>if kv.1=k then (kv.1,y) else kv) (xs.map<|putAt k u):=by
 induction r with
 |nil=>exact .nil
 |@cons p q ps qs h t ih=>
  rw[Mo,Mo];refine .cons ?_ ih;obtain⟨c,f,g⟩:=h;unfold putAt
  by_cases e:p.1=k
  .rw[if_pos e,if_pos (c.symm.trans e)];exact⟨c,f,i⟩
  .rw[if_neg e,if_neg (λz=>e (c.trans z))];exact⟨c,f,g⟩
theorem KT.put{T5:List (List bh×V)}(r:KT H T5 xs)(k:List bh){y:V}(g:H b=cb (.tup<|k.map kV))(c:RelV y u):
  KT H (cJ T5 k y) (Os xs k b u):=by
 have e:(T5.any λf=>decide (f.1=k))=(Tj xs k).isSome:=by
  rw[r_,(r.val k).isSome_eq,O0]
 unfold cJ Os;rw[e]
 by_cases q:(Tj xs k).isSome=true
 .rw[if_pos q,if_pos q];exact r.repl k c
 .rw[if_neg q,if_neg q];exact Paired.snoc r ⟨rfl,g,c⟩
theorem KT.keeps{T5:List (List bh×V)}(r:KT H T5 xs)(c:∀b ys,H b=cb (.tup ys)->H' b=cb (.tup ys)):KT H' T5 xs:=
 dI r λ_ _ z=>⟨z.1,c _ _ z.2.1,z.2.2⟩
section
variable{h:g4}
theorem F3{u:HO}(ok:HOk P w H h)(e:Rd H a u):ObjOk P w H h a u:=e.ok ok
theorem o8{T5:List (bh×V)}(ok:HOk P w H h)(e:Rd H a (.dK T5)):T5.length<=sizeLine/\(a==o4)=eH/\∃vs,KV T5 vs/\h.DictOf (aP P w) a vs:=
 show ObjOk P w H h a (.dK T5) from F3 ok e
theorem Lx{T5:List (bh×V)}(ok:HOk P w H h)(e:H a=cb (.dK T5)):T5.length<=sizeLine/\(a==o4)=eH/\∃vs,KV T5 vs/\h.DictOf (aP P w) a vs:=o8 ok (.inl e)
theorem iT{ks:List bh}(ok:HOk P w H h)(e:H a=cb (.tup<|ks.map kV)):(re<|aP P w).is h ks a:=by
 obtain⟨_,Ua,r,o,c,⟨f,n,g⟩,_⟩:=(show ObjOk P w H h a (.tup<|ks.map kV) from ok a _ e);exact⟨o,Ua.toArray,n,c,f,g,by simpa using ox r⟩
theorem q_{T5:List (List bh×V)}(ok:HOk P w H h)(e:Rd H a (.dT T5)):T5.length<=sizeLine/\(a==o4)=eH/\
  ∃xs,KT H T5 xs/\h.DictOfH (re<|aP P w) a xs:=by
 obtain⟨z,y,xs,r,o,g,c,i,j,f,B,v⟩:=(show ObjOk P w H h a (.dT T5) from F3 ok e);refine⟨z,y,xs,r,o,g,c,i,j,f,B,λx hx=>?_,v⟩;have all:∀{l:List (List bh×V)}{m:List (List bh×eC×cx)},KT H l m->∀x∈m,(re<|aP P w).is h x.1 x.2.1:=by
  intro l m q
  induction q with
  |nil=>intro x hx;exact nomatch hx
  |@cons p q ps qs hq t ih=>
   intro x hx;rcases Mm.mp hx with e|hx
   .subst e
    exact iT ok (by rw[<- hq.1];exact hq.2.1)
   .exact ih x hx
 exact all r x hx
theorem KD{T5:List (List bh×V)}(ok:HOk P w H h)(e:H a=cb (.dT T5)):T5.length<=sizeLine/\(a==o4)=eH/\
  ∃xs,KT H T5 xs/\h.DictOfH (re<|aP P w) a xs:=q_ ok (.inl e)
end
def DGet(H:Hp)(a:eC)(y:V)(r:Option V):Prop:=
 (∃T5 k,Rd H a (.dK T5)/\y=kV k/\r=fX T5 k)\/∃T5 k b,Rd H a (.dT T5)/\y=.ref b/\H b=cb (.tup<|k.map kV)/\r=fX T5 k
def DPut(H:Hp)(a:eC)(y v:V)(H':Hp):Prop:=
 (∃T5 k,H a=cb (.dK T5)/\y=kV k/\T5.length<sizeLine/\H'=upd H a (.dK<|cJ T5 k v))\/
 ∃T5 k b,H a=cb (.dT T5)/\y=.ref b/\H b=cb (.tup<|k.map kV)/\T5.length<sizeLine/\H'=upd H a (.dT<|cJ T5 k v)
theorem DGet.k{H:Hp}{a:eC}{T5:List (bh×V)}{k:bh}(e:H a=cb (.dK T5)):DGet H a (kV k) (fX T5 k):=.inl ⟨T5,k,.inl e,rfl,rfl⟩
theorem DGet.t{T5:List (List bh×V)}{k:List bh}(e:H a=cb (.dT T5))(c:H b=cb (.tup<|k.map kV)):DGet H a (.ref b) (fX T5 k):=.inr ⟨T5,k,b,.inl e,rfl,c,rfl⟩
theorem DPut.k{H:Hp}{a:eC}{T5:List (bh×V)}{k:bh}{v:V}(e:H a=cb (.dK T5))(c:T5.length<sizeLine):DPut H a (kV k) v (upd H a<|.dK<|cJ T5 k v):=.inl ⟨T5,k,e,rfl,c,rfl⟩
theorem DPut.t{T5:List (List bh×V)}{k:List bh}{v:V}(e:H a=cb (.dT T5))(f:H b=cb (.tup<|k.map kV))(c:T5.length<sizeLine):
  DPut H a (.ref b) v (upd H a<|.dT<|cJ T5 k v):=.inr ⟨T5,k,b,e,rfl,f,c,rfl⟩
section
variable{y v:V}{r:cx}{o:Option V}
theorem Inv.big(I:Inv X T0 Z H s):o4<s.heap.objs.size:=by
 have h:fx<s.heap.objs.size:=(I.mod.glob.keeps I.bk).lt;exact Qb (by decide) h
theorem yE(K:A.units+1<mv)(I:Inv X T0 Z H s)(g:DGet H a y (cb v))(C:RelV y u)(h:∀i s',Inv X T0 Z H s'->RelV v i->Q i s'):
  eT (ft X.prog X.w) A (SX (.ref a) u) Q E s:=by
 rcases g with⟨q,k,e,m,l⟩|⟨q,k,b,e,m,eb,l⟩
 .subst m
  obtain⟨z,F,G,c,B⟩:=o8 I.hok e;obtain⟨i,j,f⟩:=eU (v:=v) (o:=pv G k) (by rw[l];exact c.val k)
  exact wpAny_getItem_of (nX C) B.mapOf j (h i _ (I.tok _) f)
 .subst m
  cases (show u=MD b from C);obtain⟨z,F,xs,c,B⟩:=q_ I.hok e;obtain⟨i,j,f⟩:=eU (v:=v) (o:=(Tj xs k).map (·.2)) (by rw[l];exact c.val k)
  obtain⟨p,J,x⟩:=Nd.mp j;refine wpAny_getItem_heap (Sz K) (iT I.hok eb) B J ?_;rw[x];exact h i _ (I.tok _) f
theorem JM(x:A.units+1<mv)(I:Inv X T0 Z H s)(g:DGet H a y o)(p:RelV y u)(h:∀s',Inv X T0 Z H s'->Q (.bool o.isSome) s'):
  eT (ft X.prog X.w) A (g0 .In u<|.ref a) Q E s:=by
 rcases g with⟨j,k,e,i,l⟩|⟨j,k,b,e,i,eb,l⟩
 .subst i
  obtain⟨z,f,B,c,m⟩:=o8 I.hok e;refine wpAny_in_of (nX p) f m.mapOf ?_;rw[<- (c.val k).isSome_eq,<- l];exact h _ (I.tok _)
 .subst i
  cases (show u=MD b from p);obtain⟨z,f,xs,c,m⟩:=q_ I.hok e;refine wpAny_in_heap (Sz x) (iT I.hok eb) f m ?_;have q:=(c.val k).isSome_eq;rw[O0]at q;rw[<- q,<- l];exact h _ (I.tok _)
theorem vK(x:A.units+1<mv)(I:Inv X T0 Z H s)(g:DGet H a y o)(p:RelV y u)(h:∀s',Inv X T0 Z H s'->Q (.bool<|!o.isSome) s'):
  eT (ft X.prog X.w) A (g0 .NotIn u<|.ref a) Q E s:=by
 rcases g with⟨j,k,e,i,l⟩|⟨j,k,b,e,i,eb,l⟩
 .subst i
  obtain⟨z,f,B,c,m⟩:=o8 I.hok e;refine wpAny_notIn_of (nX p) f m.mapOf ?_;rw[<- (c.val k).isSome_eq,<- l];exact h _ (I.tok _)
 .subst i
  cases (show u=MD b from p);obtain⟨z,f,xs,c,m⟩:=q_ I.hok e;refine wpAny_notIn_heap (Sz x) (iT I.hok eb) f m ?_;have q:=(c.val k).isSome_eq;rw[O0]at q;rw[<- q,<- l];exact h _ (I.tok _)
theorem xk{h':g4}{t':Nat}{c:HO}(I:Inv X T0 Z H s)(i:Kx (H a))(g:Nr a s.heap h')(h:∃q,h'.get? a=cb q)(new:ObjOk X.prog X.w (upd H a c) h' a c):
  Inv X T0 Z (upd H a c) { s with heap:=h',toks:=t' }:=
 I.write (x:=a) (e:=a) i (.inl rfl) (λb q f z=>(g.2 b f).trans z) h new
theorem Aq{h':g4}{T5:List (bh×V)}{vs:List (bh×cx)}(z:T5.length<=sizeLine)(f:(a==o4)=eH)(c:KV T5 vs)(dd:h'.DictOf (aP P w) a vs):
  ObjOk P w H' h' a (.dK T5):=⟨z,f,vs,c,dd⟩
theorem oA{Q:Unit->ee->Prop}(hu:A.units+1<mv)(I:Inv X T0 Z H s)(g:DPut H a y v H')(M:RelV y u)(N:RelV v r)(h:∀s',Inv X T0 Z H' s'->Q () s'):
  eT (ft X.prog X.w) A (setItem (.ref a) u r) Q E s:=by
 rcases g with⟨i,k,e,B,l,F⟩|⟨i,k,b,e,B,eb,l,F⟩
 .subst B F
  obtain⟨z,x,W,f,J⟩:=Lx I.hok e;have p:W.length<=sizeLine:=by rw[<- f.length];exact z
  have C:(cJ i k v).length<=sizeLine:=by have:=iY i k v;lia
  refine wpAny_setItem_pairs (hsz:=p) (nX M) J λK j G=>h _ ?_;have S:∃q,K.get? a=cb q:=let ⟨q,_,_,m,_⟩:=j;⟨q,m⟩;exact xk I (by rw[e];exact N8) G S (Aq C x (f.put k N) j)
 .subst B F
  cases (show u=MD b from M);obtain⟨z,x,xs,f,J⟩:=KD I.hok e;have p:xs.length<=sizeLine:=by rw[<- NT f];exact z
  have C:(cJ i k v).length<=sizeLine:=by have:=iY i k v;lia
  refine wpAny_setItem_heap (hsz:=p) (Sz hu) (iT I.hok eb) J λK j G=>h _ ?_;obtain⟨q,T,O,m,U,R,h4,_,Y⟩:=j;refine xk I (by rw[e];exact N8) G ⟨q,m⟩ ⟨C,x,_,(f.put k eb N).keeps λc ys L=>?_,q,T,O,m,U,R,h4,Y⟩
  rw[aE (Lj L e λz=>nomatch z)];exact L
end
section
variable{T5:List (bh×V)}{k:bh}
theorem KF(I:Inv X T0 Z H s)(e:Rd H a (.dK T5))(h:∀t s',Inv X T0 Z H s'->Q (.int T5.length t) s'):eT (ft X.prog X.w) A (call (.builtin "len") [.ref a]) Q E s:=by
 obtain⟨z,g,i,c,f⟩:=o8 I.hok e;refine call_len_dict g f (by rw[<- c.length];rw[oD]at z;lia) ?_
 rw[<- c.length];exact h _ _ (I.tok _)
end
theorem rO{y:V}{o:Option V}(I:Inv X T0 Z H s)(g:DGet H a y o):s.TypeIs (.ref a) "dict":=by
 rcases g with⟨c,k,e,_,_⟩|⟨c,k,b,e,_,_,_⟩
 .obtain⟨_,_,h,_,f⟩:=o8 I.hok e
  exact f.typeIs
 .obtain⟨_,_,xs,_,f⟩:=q_ I.hok e
  exact f.typeIs
section
variable{i value:g1}{pos' tpos:Pos}{td ty tv:TE}
end
section
end
section
variable{y d:V}{r:cx}{o:Option V}
end
section
variable{f:g1}{T9 T8:Pos}{td ty tx:TE}
end
section
variable{T5:List (bh×V)}
end
section
variable{y:V}
end
end _2
namespace Att
open PySem PySem.W PySem.Calls PyProof.Rows
theorem jh{P:Params}{h:g4}:∀(c:Ug)(vs:Ui),WellAll P h vs (c.map WData.int)->SG vs c:=by
 intro c
 induction c with
 |nil=>
  intro vs w;rw[OB]at w;cases w;exact .nil
 |cons n c ih=>
  intro vs w;rw[Mo]at w;cases w with
  |cons a b=>
   cases a;exact .cons _ _ (ih _ b)
theorem xZ{l:OpenLaw}{n:Nat}(w:l.most=cb n){P:Params}{h:g4}{args:List WData}{c:Ui}
  (e:l.row.toRowW.claim.pre args=true) (m:WellAll P h c args):
  ∃a vs b,c=[MD a]/\args=[WData.list (b.map WData.int)]/\h.get? a=cb { cls:=.type "list",data:=.seq vs.toArray }/\SG vs b/\b.length<=n:=by
 have j:WShape.hasAll [] args [.list .int]=true:=(pre_splitW e).1;have o:l.pre.holds [] { args:=args }=true:=(pre_splitW e).2;obtain⟨d,r,rfl,p,s⟩:=hasAllW_cons j;obtain rfl:=hasAllW_nil s;obtain⟨x,rfl,v⟩:=hasW_list p;obtain⟨b,rfl⟩:=items_int v;have f:b.length<=n:=by
  unfold OpenLaw.pre at o;have g:(WTm.not<|.lt (.lit<|.int (n:Int))<|.len<|.arg 0).holds [] { args:=[.list (b.map .int)] }=true:=by
   have g:=(holds_andW o).1;rw[w]at g;exact g
  have i:=condW_of g (w_not<|w_lt w_lit<|w_len_list<|w_arg rfl);rw[Md]at i;refine Ou λq=>?_;have u:(n:Int)<((b.length:Nat):Int):=by lia
  first
   |(rw[decide_eq_true u]at i;exact absurd i (by decide))
   |(simp at i;lia)
 cases m with
 |cons w1 w2=>
  cases w2;cases w1 with
  |list ho hall=>exact⟨_,_,b,rfl,rfl,ho,jh b _ hall,f⟩
theorem y9(l:OpenLaw)(args:List WData):l.row.toRowW.claim.post args (.bool true) args=true:=
 postW_of (r:=l.row.toRowW) (X:=(true==true))
  (show WShape.has [] (.bool true) .bool=true by first|rfl|decide|simp[WShape.has,WShape.arms,WShape.armsAll])
  (show (WTm.eq .res<|.lit<|.bool true).value [] { args:=args,res:=cb (.bool true),after:=args }=cb (.bool (true==true)) from w_eq_bool (w_res rfl) w_lit) rfl
theorem sZ{l:OpenLaw}{n:Nat}{q:gg}{loose:Uh}{XP:(Str->Option cx)->g4->Prop}{YP:g5->g4->Prop}{d:DefRec}
  (U:l.most=cb n) (B:d.params.defaults=[])
  (call:∀(w:g5)(c b:ee)(u C:Uq)(m:eC)(o:Obj)(A v g:cx)(a:eC)(vs:Ui)(s:Ug),
   Ground q loose [] XP w c u C b.heap->YP w b.heap->
   b.heap.get? m=cb o->o.data=.func (docDef d.name d.params d.body d.scope A v g)->b.heap.CodeRec v d.name->u d.name=cb (.ref m)->
   b.heap.get? a=cb { cls:=.type "list",data:=.seq vs.toArray }->SG vs s->s.length<=n->b.gens=#[]->
   t0 (ft l.prog w) S5 (.call (.ref m) ⟨[.ref a],[]⟩) (λr p=>r=.ok (.ret<|.bool true)/\OldK b.heap p.heap/\p.os=b.os/\SH p.gens) b):
  WalkO q loose XP YP l.row.toRowW d [] (λf vs=>Ru f vs):=by
 intro w c b u C G Y m o A v g Q kV T P z H y K F I W i E J x S;obtain rfl:Q=.none:=Dflts.none H B;obtain rfl:kV=.none:=Dflts.noKw H;obtain⟨a,vs,s,rfl,rfl,h,e,j⟩:=xZ U i x;refine enter_call (py (call w c b u C m o A v g a vs s G Y T (fd_plain P) z y h e j K) λr p R=>?_);obtain⟨rfl,N,L,O⟩:=R;exact⟨.inl ⟨.bool true,.bool true,[],rfl,λ_=>rfl,.bool true,y9 l _,λ_=>⟨Pu,λ_ M=>(nomatch M)⟩⟩,N,L,O⟩
section
variable {prog:gg}{w:g5}{A:hB}{E:Um}{s:ee}{K:Frag}
end
end Att
namespace _2
open PySem PySem.Spec PyProof.Rows
variable{a it l z:eC}{A:hB}{items:Ur}{b f1:Bool}{X:Cx}{h h' h₀:g4}{H:Hp}{T0:Uo}{args:List (Bool×eC)}{fp:Uj}{elts:Uk}{S:List ZS}{K:Mp}{i j n t' x1:Nat}{pos tp:Pos}{P prog:gg}{scope:NE}{s:ee}{Z:St}{x:Str}{f0:cx}{E Q:Um}{w:g5}{F:ZS->Option cx}
theorem nZ:∀{vs:Ui}{c:Ug},SG vs c->Vals (c.map V.int) vs
 |_,_,.nil=>.nil
 |_,_,.cons n t h=>.cons ⟨t,rfl⟩ (nZ h)
def B4(H:Hp):Prop:=∀b,H b=ed\/∃o xs,H b=cb (.frz o<|.lst xs)
theorem zR{R mb:Uq}{CX:pT}{k:Nat}{fa:eC}{fd:ka}{sp:Sp}{c:ee}{vs:Ui}{ns:Ug}(KX:K.In c.heap)(T:c.heap.Ns fx R)(g:c.heap.Ns builtinsNs mb)(hbb:∀x:Str,x≠"__name__"->mb x=fy x)(O:c.heap.NoLimit)(hg:c.gens=#[])(U:c.heap.get? a=cb { cls:=.type "list",data:=.seq vs.toArray })(hi:SG vs ns)(hl:ns.length<=sizeLine)(hr:Room k S5)(F:∀base:g4,K.In base->base.Ns fx R->FnOk P w K R base CX k fa fd [x] sp)(hbind:∀(s:ee)(u:cx),Tg s fd ⟨[u],[]⟩ [(x,u)])(hsp:∀H:Hp,B4 H->SqL K H a (ns.map V.int)->sp [.ref a] H (λv _=>v=.bl true) λ_ _ _=>False)(hCX:∀H e p,CX [] H c (λ_ _ _=>False) e p->False):
  t0 (ft P w) S5 (.call (.ref fa) ⟨[.ref a],[]⟩) (λr p=>r=.ok (.ret<|.bool true)/\OldK c.heap p.heap/\p.os=c.os/\SH p.gens) c:=by
 have rv:=nZ hi;have B:=hi.length
 -- from an abstract heap in which nothing but the script may be tracked
 have y:∀H:Hp,B4 H->SqL K H a (ns.map V.int)->HOk P w H c.heap->(∀b,H b≠ed->b=a)->(H a≠ed->K.lookup a=ed)->
   t0 (ft P w) S5 (.call (.ref fa) ⟨[.ref a],[]⟩) (λr p=>r=.ok (.ret<|.bool true)/\OldK c.heap p.heap/\p.os=c.os/\SH p.gens) c:=by
  intro H hO hS C hA hK;have f:∀{b:eC}{o:Obj},c.heap.get? b=cb o->H b=ed->(oW c.heap H).get? b=cb o:=λe n=>Ak e n;have noA:∀{b:eC}{o:Obj}{N:Array Re}{G:Nat},c.heap.get? b=cb o->o.data=.dict N G->H b=none:=λ{b o N G} e d=>by
   cases q:H b with
   |none=>rfl
   |some u=>
    have Y:b=a:=hA b (by rw[q];simp)
    subst Y;rw[U]at e;cases e;have d':Data.seq vs.toArray _=Data.dict N G:=d;cases d'
  have nsK:∀{b:eC}{m:Uq},c.heap.Ns b m->(oW c.heap H).Ns b m:=λ{b m} ⟨o,N,G,e,d,r⟩=>⟨o,N,G,f e (noA e d),d,r⟩;have J:K.In (oW c.heap H):=λb o e=>f (KX b o e) (by
   cases q:H b with
   |none=>rfl
   |some u=>
    have Y:b=a:=hA b (by rw[q];simp)
    subst Y;rw[hK (by rw[q];simp)]at e;cases e)
  have hM:Mod K R (oW c.heap H):=⟨J,nsK T,⟨mb,nsK g,hbb⟩,let ⟨mc,h1,h2⟩:=O;⟨mc,nsK h1,h2⟩⟩;have e0:Env0 P w K R (oW c.heap H) S5 [] c H:=⟨rfl,hM,λb o e=>E5 e,Qc (yk _ _),trivial,λb g=>absurd (show b∈([]:Uj) from g) (by simp),C,.of_eq hg⟩
  refine py ((F _ J<|nsK T).run S5 [] c H ⟨[.ref a],[]⟩ [.ref a] [.ref a] _ _ hr e0 (hbind c<|.ref a) (.cons rfl .nil)<|hsp H hO hS) λr p h=>?_;cases r with
  |error e=>exact(hCX H e p h).elim
  |ok fl=>
   cases fl with
   |next=>exact Nt h
   |brk=>exact Nt h
   |cont=>exact Nt h
   |ret u=>
    obtain⟨v,H',os,L,un,M,r',q⟩:=h;have q':v=.bl true:=q;subst q';obtain rfl:u=OQ true:=r';refine⟨rfl,OldK.of_keep λb o e=>?_,os,L⟩;cases q:H b with
    |none=>exact un.keep b o e q (by intro z;exact absurd (show b∈([]:Uj) from z) (by simp)) (by simp)
    |some u=>
     rcases hO b with z|⟨ob,xs,z⟩
     .rw[q]at z;cases z
     .have z2:=un.frzs b ob _ z
      obtain⟨e1,_⟩:=C b _ z;obtain⟨e2,_⟩:=M b _ z2;rw[e]at e1;cases e1;exact e2
 cases W:K.lookup a with
 |some o=>
  -- the script is one of the module's own objects
  have e:=KX a o W;rw[U]at e;cases e;refine y (λ_=>ed) (λ_=>.inl rfl) (.inr ⟨_,vs.toArray,_,W,rfl,rfl,rfl,by rw[Ml,B];exact hl,by simpa using rv⟩) (λb u z=>by have I:(none:Option HO)=cb u:=z;cases I) (λb z=>absurd rfl z) λz=>absurd rfl z
 |none=>
  refine y (λb=>if b=a then cb (.frz { cls:=.type "list",data:=.seq vs.toArray }<|.lst<|ns.map V.int) else ed) (λb=>?_) (.inl<|.inr ⟨{ cls:=.type "list",data:=.seq vs.toArray },if_pos rfl⟩) (λb u z=>?_) (λb z=>?_) λ_=>W
  .by_cases g:b=a
   .exact .inr ⟨_,_,if_pos g⟩
   .exact .inl (if_neg g)
  .by_cases g:b=a
   .have I:=(if_pos g).symm.trans z
    cases I;subst g;exact⟨U,by rw[Md];exact hl,vs,_,rv,U⟩
   .have I:=(if_neg g).symm.trans z
    cases I
  .by_cases g:b=a
   .exact g
   .exact absurd (if_neg g) z
theorem DL{l:W.OpenLaw}{k:Nat}{q:gg}{loose:Uh}{XP:(Str->Option cx)->g4->Prop}{YP:g5->g4->Prop}{d:DefRec}{K:Params->Mp}{CX:g5->pT}{sp:g5->Sp}(hn:l.most=cb n)(L:n<=sizeLine)(N:d.params.defaults=[])(hr:Room k S5)(hY:∀(w:g5)(h:g4),YP w h->(K w.params).In h)(F:∀(w:g5)(r:Uq)(I:eC)(h:g4),(K w.params).In h->h.Ns fx r->r d.name=cb (.ref I)->
   ∃fd:ka,(∀(s:ee)(u:cx),Tg s fd ⟨[u],[]⟩ [(x,u)])/\
    ∀c:g4,(K w.params).In c->c.Ns fx r->FnOk l.prog w (K w.params) r c (CX w) k I fd [x] (sp w))(M:∀(w:g5)(H:Hp)(a:eC)(C:Ug),C.length<=n->B4 H->SqL (K w.params) H a (C.map V.int)->sp w [.ref a] H (λv _=>v=.bl true) λ_ _ _=>False)(O:∀(w:g5)(H:Hp)(s:ee)(e:cx)(s':ee),CX w [] H s (λ_ _ _=>False) e s'->False):
  W.WalkO q loose XP YP l.row.toRowW d [] (λf vs=>Ru f vs):=by
 refine Att.sZ hn N λw R y r mb I o pm cd doc a vs C G Y ho hd hcd J B p m hg=>?_;have KX:=hY w _ Y;obtain⟨fd,hb,hF⟩:=F w r I _ KX G.T.g J;exact zR KX G.T.g G.T.b G.T.builtins G.T.nolimit hg B p (ME m L) hr hF hb (λH hO U=>M w H a C m hO U) λH e s'=>O w H y e s'
noncomputable def jB(s:pd)(j:Nat):Stmt:=match s with
 |.ClassDef _ _ _ body _ _ _ _ _ _ _=>body.getD j (.Pass ⟨0,0,0,0⟩)
 |_=>.Pass ⟨0,0,0,0⟩
def dH(s:pd):Arguments:=match s with
 |.FunctionDef _ a _ _ _ _ _ _ _ _=>a
 |_=>{ posonlyargs:=[],args:=[],vararg:=ed,kwonlyargs:=[],kw_defaults:=[],kwarg:=ed,defaults:=[] }
def cH(s:pd):List Stmt:=match s with
 |.FunctionDef _ _ b _ _ _ _ _ _ _=>b
 |_=>[]
def bv(s:pd):Scope:=match s with
 |.FunctionDef _ _ _ _ _ _ sc _ _ _=>sc
 |_=>{ kind:=.function,names:=[],isGenerator:=eH,isCoroutine:=eH }
noncomputable abbrev CX0:pT:=λ_ _ _ _ _ _=>False
noncomputable abbrev E0:XK:=λ_ _ _=>False
structure Fun(K:Mp)(x T4:Str)(st:pd)(f:eC)(fd:ka):Prop where
 ex:∃(oc:cx)(od:Option eC)(kV doc pm:cx)(an:Option eC)(cdv ct:cx)(osl:Array (Option cx)),
  fd=PN x T4 (dH st) (cH st) (bv st) .none kV doc pm an cdv ct/\K.lookup f=cb ⟨oc,od,.func fd,osl⟩/\W.codeIn K cdv T4=true
 kp:N6 K (.ref f)=true
section
variable{mg:Uq}{base:g4}
theorem Fun.binds{c:Str}{m:pd}{f:eC}{fd:ka}{ps:Uh}(F:Fun K x c m f fd)(h:∀(kV e q:cx)(o:Option eC)(g p:cx)(us:Ui),us.length=ps.length->bindArgs (PN x c (dH m) (cH m) (bv m) .none kV e q o g p) ⟨us,[]⟩=pure (ps.zip us)):Binds K fd ps []:=by
 obtain⟨v,y,kV,e,q,o,g,p,r,rfl,lk,u⟩:=F.ex;exact .all (h kV e q o g p)
theorem AI{e:Str}{o:pd}{f:eC}{v:cx}{y q:Option eC}{p:Array (Option cx)}{kV m u g r:cx}(l:K.lookup f=cb ⟨v,y,.func (PN x e (dH o) (cH o) (bv o) .none kV m u q g r),p⟩)(c:W.codeIn K g e=true)(k:N6 K (.ref f)=true):Fun K x e o f (PN x e (dH o) (cH o) (bv o) .none kV m u q g r):=⟨⟨v,y,kV,m,u,q,g,r,p,rfl,l,c⟩,k⟩
end
theorem vY{k:Nat}(c:Room k A):A.units+1<cLine:=Nat.lt_of_le_of_lt (Nat.add_le_add_left (by decide:1<=64) _) c.units
section
theorem yH:bL X (.builtin "len") (λxs H Q=>∃a T5,xs=[V.ref a]/\H a=cb (.dK T5)/\Q (.int T5.length) H):=by
 intro T0 s Z H xs g Q I r h;obtain⟨a,T5,rfl,c,q⟩:=h;obtain⟨u,rfl,e⟩:=iV r;cases e;exact KF I (.inl c) λt f I'=>⟨.int T5.length,H,I',⟨t,rfl⟩,q⟩
end
section
variable{κ:Type}[DecidableEq κ]
end
section
variable{R:Tc->ee->Prop}
theorem oO{q e o:g1}{p:Uk}{it T6:cx}{env:Env}(I:Nat->ee->Prop)(G:∀n s,I n s->eT (ft prog w) A (SA it) (λr s₁=>match r with
   |none=>R (.ok .next) s₁
   |some v=>eT (ft prog w) A (SN e it v) (λ_ s₂=>eT (ft prog w) A (SQ e env v) (λ_ s₃=>
     eT (ft prog w) A (forIn p true λc r=>if r=true then do let ok <- TL c env (g3 c env);pure (O6 ok) else pure (O6 r)) (λok s₄=>
      if ok=true then eT (ft prog w) A (g3 q env) (λx s₅=>
       eT (ft prog w) A (call (.builtin "list.append") [T6,x]) (λ_ s₆=>∃m,m<n/\I m s₆) (λ_ _=>False) s₅) (λ_ _=>False) s₄
      else ∃m,m<n/\I m s₄) (λ_ _=>False) s₃) (λ_ _=>False) s₂) (λ_ _=>False) s₁) (λ_ _=>False) s)(n:Nat)(h:I n s):
  t0 (ft prog w) A (.compLoop (.ListComp q [⟨e,o,p,0⟩] scope pos) 0 it T6 env) R s:=by
 refine codeAny_loop rfl I (λn s J=>?_) n h;show eT _ A ((compTurn (.ListComp q [⟨e,o,p,0⟩] scope pos) 0 it T6 env).onRaise λx=>do noteFrame x env;theTreesLotGoes x) _ _ s
 refine wpAny_noted ?_;rw[compTurn_list];refine cT (Tp<|wpAny_bind (kL (G n s J) (λr s₁ g=>?_) λ_ _ z=>z.elim));cases r with
 |none=>exact eP g
 |some v=>
  refine cT (kL g (λ_ s₂ B=>cT (kL B (λ_ s₃ u=>cT (kL u (λok s₄ f=>?_) λ_ _ z=>z.elim)) λ_ _ z=>z.elim)) λ_ _ z=>z.elim);cases ok with
  |false=>exact eP ⟨rfl,f⟩
  |true=>
   exact cT (cT (kL f (λx s₅ y=>cT (kL y (λ_ s₆ C=>eP (eP ⟨rfl,C⟩)) λ_ _ z=>z.elim)) λ_ _ z=>z.elim))
end
noncomputable def a_(X:Cx)(N:Uh)(scope:NE)(cl:List (Str×eC))(C:eC)(s₀:ee)(H₀:Hp)(fp:Uj)(pl:Uo):Cx where
 prog:=X.prog
 w:=X.w
 K:=X.K
 mg:=X.mg
 base:=X.base
 A:=X.A
 N:=N
 s₀:=s₀
 H₀:=H₀
 env:=compEnvC scope cl C X.env
 outer:=X.stack
 stack:=X.stack
 ex:=fp
 fn:=λ_=>eH
 calm:=X.calm
 pn:=X.pn++pl
 xe:=λ_ _=>False
inductive Frees(X:Cx)(scope:NE):List Str->List Nat->Prop where
 |nil:Frees X scope [] []
 |cons {x:Str} {j:Nat} {xs:Uh} {js:List Nat}:X.N[j]?=cb x->(X.env.kindOf x=cb .cell\/X.env.kindOf x=cb .free)->
   ((SF scope X.env).names.lookup x=cb .cell\/(SF scope X.env).names.lookup x=cb .free)->Frees X scope xs js->Frees X scope (x::xs) (j::js)
theorem Frees.length{X:Cx}{scope:NE}:∀{xs:Uh}{c:List Nat},Frees X scope xs c->xs.length=c.length
 |_,_,.nil=>rfl
 |_,_,.cons _ _ _ t=>congrArg (·+1) t.length
theorem Frees.get{X:Cx}{scope:NE}:∀{xs:Uh}{e:List Nat},Frees X scope xs e->∀{i:Nat}{x:Str},xs[i]?=cb x->∃j,e[i]?=cb j/\X.N[j]?=cb x/\(X.env.kindOf x=cb .cell\/X.env.kindOf x=cb .free)/\
   ((SF scope X.env).names.lookup x=cb .cell\/(SF scope X.env).names.lookup x=cb .free)
 |_,_,.nil,i,x,h=>by simp at h
 |_,_,.cons a b c _,0,x,h=>by simp at h;subst h;exact⟨_,rfl,a,b,c⟩
 |_,_,.cons _ _ _ t,i+1,x,h=>by
  obtain⟨j,f,g⟩:=t.get (i:=i) (x:=x) (by simpa using h)
  exact⟨j,by simpa using f,g⟩
noncomputable def cV(ls:Uh)(js:List Nat)(Z:St):St:=ls.map (λ_=>ed)++js.map λj=>(Z[j]?).join
structure CompOk(X:Cx)(scope:NE)(cl:List (Str×eC))(ls fs:Uh)(js:List Nat):Prop where
 kind:scope.kind=.function
 nocell:∀y∈scope.names,y.2≠.cell
 locs:∀x∈scope.names,x.2=.local->scope.names.lookup x.1=cb .local
 clos:S2 scope X.env=pure cl
 cells:∀x c,cl.lookup x=cb c->X.env.cells.lookup x=cb c
 has:∀x,((SF scope X.env).names.lookup x=cb .cell\/(SF scope X.env).names.lookup x=cb .free)->∃c,cl.lookup x=cb c
 frees:Frees X scope fs js
theorem z5{cl:List (Str×eC)}{ls fs:Uh}{G:List Nat}{g:g4}{m:Uq}{t':Nat}(I:Inv X T0 Z H s)(r:CompOk X scope cl ls fs G)(C:∀b∈fp,iC X T0 H b/\b<s.heap.objs.size)(hns:g.Ns s.heap.objs.size m)(J:∀b o,s.heap.get? b=cb o->g.get? b=cb o):
  Inv (a_ X (ls++fs) scope cl s.heap.objs.size s H fp T0) [] (cV ls G Z) H { s with heap:=g,toks:=t' }:=by
 have lk:∀b o,s.heap.get? b=cb o->b≠s.heap.objs.size:=λb o e=>MB (Mj e);refine⟨⟨I.ok.mod,r.kind,I.ok.glob,I.ok.blt,Mn _,λx y c U M=>?_,λx hx=>r.has x hx,λx c h _=>absurd (show eH=true from h) MC,I.ok.hd,I.ok.frames,.inl rfl,λb B=>⟨MB (C b B).2,λx c e=>?_⟩,
   λb o e=>I.bs b o e,ME I.ok.bsz I.sz,λb o e B=>?_,λb B hf=>?_,I.stack,λb B=>I.stkFree b B⟩,
  rfl,I.bare,Un.kept J,⟨m,hns,λi x v U M h3=>?_⟩,λx c e=>?_,I.hok.fresh (Mn _),λx c e=>I.freeC x c (r.cells x c e),λp hp=>?_,I.hok.kept J,?_⟩
 .exact I.ok.inj x y c (r.cells x c U) (r.cells y c M)
 .exact(C b B).1.2.2.2.2.1 x c (r.cells x c e)
 .obtain⟨f0,f1,f2,f3,_⟩:=(C b B).1
  rcases f3 with z|z
  .exact I.ok.noex b o e z
  .exact absurd (MF (Mj (I.ok.bs b o e).1) z) (MT _)
 .obtain⟨f0,f1,f2,f3,_⟩:=(C b B).1
  rcases Mm.mp (I.stkSub b hf) with z|z
  .exact f1 z
  .exact f2 z
 .have L:¬i<ls.length:=λL=>by
   have f:(cV ls G Z)[i]?=cb (cb v):=M;unfold cV at f;rw[Ny (by simpa using L),Mw,Mi L]at f
   cases f
  have hN:fs[i-ls.length]?=cb x:=by
   have N:(ls++fs)[i]?=cb x:=U
   rwa [Nb (by lia)]at N
  obtain⟨j,hj,hx,hc,hl⟩:=r.frees.get hN;have W:Z[j]?=cb (cb v):=by
   have f:(cV ls G Z)[i]?=cb (cb v):=M;unfold cV at f;rw[Nb (by simpa using L),Md,Mw,hj]at f
   have q:(Z[j]?).join=cb v:=by simpa using f
   cases e:Z[j]? with
   |none=>rw[e]at q;cases q
   |some o=>rw[e]at q;have q':o=cb v:=q;rw[q']
  obtain⟨mX,_,R⟩:=I.loc;have T:Jq X.env.scope x:=by
   rcases hc with z|z
   .exact .inr (.inl z)
   .exact .inr (.inr z)
  obtain⟨u,ru,lo⟩:=R j x v hx W T;refine⟨u,ru,.inr ⟨hl,?_⟩⟩;obtain⟨c,ec⟩:=r.has x hl;refine⟨c,ec,?_⟩;rcases lo with⟨kl,_⟩|⟨_,c',e',z⟩
  .rcases hc with q|q<;>(rw[q]at kl;cases kl)
  .rw[r.cells x c ec]at e'
   cases e';obtain⟨o,Y,hd⟩:=z;exact⟨o,J _ _ Y,hd⟩
 .obtain⟨v,o,Y,hd⟩:=I.cell x c (r.cells x c e)
  exact⟨v,o,J _ _ Y,hd⟩
 .have O:p∈X.pn++T0:=by
   have q:p∈(X.pn++T0)++[]:=hp;simpa using q
  obtain⟨e,n,ne,nf,d⟩:=I.pin p O;refine⟨J _ _ e,n,lk _ _ e,λB=>?_,d⟩;rcases Mm.mp (I.stkSub p.1 B) with z|z
  .exact ne z
  .exact nf z
 .show (cV ls G Z).length=(ls++fs).length
  unfold cV;rw[Mg,Md,Md,Mg,r.frees.length]
def HP(X:Cx)(ifs:Uk)(t:TT):Prop:=
 ∀(T0:Uo)(s:ee)(Z:St)(H:Hp)(Q:Bool->Hp->Prop),Inv X T0 Z H s->t Z H Q->
  eT (ft X.prog X.w) X.A (forIn ifs true λc r=>if r=true then do let ok <- TL c X.env (g3 c X.env);pure (O6 ok) else pure (O6 r)) (TP X T0 Z Q) X.xe s
noncomputable def tAll:TT:=λ_ H Q=>Q true H
theorem BW:HP X [] tAll:=λ_ _ _ H _ I h=>wpAny_tests_nil ⟨H,I,h⟩
theorem Eg{c:g1}{t:TT}(h:PT X c t):HP X [c] t:=λT0 s Z H Q I q=>wpAny_tests_one (h T0 s Z H Q I q)
noncomputable def zP(wi:TI)(ls:Uh)(js:List Nat)(g:TG)(tt:TT)(te:TE):TE:=λZ H Q=>wi Z H λJ H1=>∀p,H1 p=ed->∃W:Nat->Nat->St->Hp->Prop,(∃m,W 0 m (cV ls js Z) (upd H1 p<|.lst []))/\∀i m σ' H',W i m σ' H'->
 (J.stop i H'/\Q (.ref p) H')\/(J.go i H'/\∃N:St->Hp->Prop,(∀σ2 H2,N σ2 H2->∃m',m'<m/\W (i+1) m' σ2 H2)/\∀x H2,J.yld i H' x H2->g x σ' H2 λe H3=>tt e H3 λc H4=>
  if c=true then te e H4 λy H5=>∃ys,H5 p=cb (.lst ys)/\ys.length<sizeLine/\N e (upd H5 p<|.lst (ys++[y])) else N e H4)
section
variable{tg iter elt:g1}{ifs:Uk}{cl:List (Str×eC)}{ls fs:Uh}{js:List Nat}{wi:TI}{g:TG}{tt:TT}{te:TE}
theorem sL{f:ee}{tn:Nat->g4->Prop}{J:It}{H1:Hp}{R:cx->eC->Tc->ee->Prop}{Q:VK}{E:Um}(hc:X.calm=true)(co:CompOk X scope cl ls fs js)(hY:∀(C:eC)(s₀:ee)(H₀:Hp)(fp:Uj)(pl:Uo),PG (a_ X (ls++fs) scope cl C s₀ H₀ fp pl) tg g/\HP (a_ X (ls++fs) scope cl C s₀ H₀ fp pl) ifs tt/\PE (a_ X (ls++fs) scope cl C s₀ H₀ fp pl) elt te)(I:Inv X T0 Z H1 f)(T:Turn X.prog X.w X.K tg J fp it tn)(st:tn 0 f.heap)(hf:∀b∈fp,iC X T0 H1 b)(q:∀p,H1 p=ed->∃W:Nat->Nat->St->Hp->Prop,(∃m,W 0 m (cV ls js Z) (upd H1 p<|.lst []))/\∀i m L H',W i m L H'->
   (J.stop i H'/\Q (.ref p) H')\/(J.go i H'/\∃N:St->Hp->Prop,(∀σ2 H2,N σ2 H2->∃m',m'<m/\W (i+1) m' σ2 H2)/\∀x H2,J.yld i H' x H2->g x L H2 λσ3 H3=>tt σ3 H3 λc H4=>
    if c=true then te σ3 H4 λy H5=>∃ys,H5 p=cb (.lst ys)/\ys.length<sizeLine/\N σ3 (upd H5 p<|.lst (ys++[y])) else N σ3 H4))(hR:∀(p C:eC)(H':Hp)(s':ee)(m:Uq),s'.heap.Ns C m->Inv X T0 Z H' s'->H' C=ed->C≠X.env.locals->X.s₀.heap.objs.size<=C->(∀x c,X.env.cells.lookup x=cb c->c≠C)->(∀pp∈X.pn++T0,pp.1≠C)->Q (.ref p) H'->R (.ref p) C (.ok .next) s'):
  eT (ft X.prog X.w) X.A (newList []) (λT6 s₃=>eT (ft X.prog X.w) X.A (newFunctionEnv scope X.env.globals cl [] X.env.qual ed .none<|some X.env) (λcenv s₄=>
   t0 (ft X.prog X.w) X.A (.compStart (.ListComp elt [⟨tg,iter,ifs,0⟩] scope pos) 0 (.ref it) T6 { cenv with scope:=SF scope X.env }) (R T6 cenv.locals) s₄) E s₃) E f:=by
 have hp0:H1 f.heap.objs.size=none:=I.hok.fresh (Mn _);obtain⟨W,⟨m0,w0⟩,turn⟩:=q f.heap.objs.size hp0;refine x9 (wpAny_newFunctionEnv co.nocell (by intro y hy;simp at hy) (λG O U=>?_) co.kind)
 dsimp only at O U ⊢;have I3:Inv X T0 Z (upd H1 f.heap.objs.size<|.lst []) { f with heap:=f.heap.push { cls:=.type "list",dict:=ed,data:=.seq ([]:Ui).toArray } }:=
  I.lnew (Ua:=[]) (t':=f.toks) .nil (MY _)
 generalize hs3:({ f with heap:=f.heap.push { cls:=.type "list",dict:=ed,data:=.seq ([]:Ui).toArray } }:ee)=s3 at I3;have hh3:f.heap.push { cls:=.type "list",dict:=ed,data:=.seq ([]:Ui).toArray }=s3.heap:=by rw[<- hs3]
 rw[hh3]at O U ⊢;have hsz3:s3.heap.objs.size=f.heap.objs.size+1:=by rw[<- hh3,Nq]
 have hk3:∀b o,f.heap.get? b=cb o->s3.heap.get? b=cb o:=λb o e=>by rw[<- hh3];exact Me _ e
 have hlt:∀b∈fp,b<f.heap.objs.size:=λb B=>by
  obtain⟨o,e,_⟩:=T.obj _ _ st b B;exact Mj e
 have hnp:∀b∈fp,upd H1 f.heap.objs.size (.lst []) b=none:=λb B=>by
  rw[aE (MB<|hlt b B)];exact(hf b B).1
 have hf3:∀b∈fp,iC X T0 (upd H1 f.heap.objs.size<|.lst []) b/\b<s3.heap.objs.size:=λb B=>⟨⟨hnp b B,(hf b B).2⟩,by rw[hsz3];exact O5 (hlt b B)⟩
 have hk4:∀b o,s3.heap.get? b=cb o->G.get? b=cb o:=λb o e=>U.extBut b o (MB<|Mj e) (Me _ e);have st4:tn 0 G:=T.keep _ _ _ st λb B o e=>hk4 b o (hk3 b o e);have I4:=z5 (t':=s3.toks) I3 co hf3 O hk4;obtain⟨hg,ht,he⟩:=hY s3.heap.objs.size s3 (upd H1 f.heap.objs.size<|.lst []) fp T0;have M:∀{H':Hp},(∀b∈fp,H' b=ed)->∀b∈fp,iC (a_ X (ls++fs) scope cl s3.heap.objs.size s3 (upd H1 f.heap.objs.size<|.lst []) fp T0) [] H' b:=λ{H'} hn b B=>by
  obtain⟨f0,f1,f2,f3,f4,f5⟩:=hf b B;refine⟨hn b B,MB (hf3 b B).2,λz=>?_,.inl B,λx c e=>f4 x c (co.cells x c e),λpp hp=>f5 pp ?_⟩
  .rcases Mm.mp (I3.stkSub b z) with y|y
   .exact f1 y
   .exact f2 y
  .have q:pp∈(X.pn++T0)++[]:=hp
   simpa using q
 have loop:∀s₄:ee,s₄={ s3 with heap:=G,toks:=s3.toks }->
   t0 (ft X.prog X.w) X.A (.compLoop (.ListComp elt [⟨tg,iter,ifs,0⟩] scope pos) 0 (.ref it) (.ref f.heap.objs.size)<|compEnvC scope cl s3.heap.objs.size X.env) (R (.ref f.heap.objs.size) s3.heap.objs.size) s₄:=by
  rintro s₄ rfl
  refine oO (λn s'=>∃i L H',Inv (a_ X (ls++fs) scope cl s3.heap.objs.size s3 (upd H1 f.heap.objs.size<|.lst []) fp T0) [] L H' s'/\tn i s'.heap/\(∀b∈fp,H' b=ed)/\W i n L H') ?_ m0 ⟨0,_,_,I4,st4,hnp,w0⟩
  rintro n s5 ⟨i,σ5,H5,I5,st5,fr5,w5⟩
  rcases turn i n σ5 H5 w5 with⟨stop,qn⟩|⟨go,N,hN,step⟩
  .refine bC (T.done (a_ X (ls++fs) scope cl s3.heap.objs.size s3 (upd H1 f.heap.objs.size<|.lst []) fp T0) rfl rfl rfl hc i [] s5 σ5 H5 _ I5 (M fr5) st5 stop) λr s6 ⟨hr,I6⟩=>?_
   subst hr;obtain⟨m6,hn6,_⟩:=I6.loc;have IX:Inv X T0 Z H5 s6:=I3.call' I6.os I6.base I6.hok I6.bare λb B=>⟨(hf b B).2.2.2.1,(hf b B).2.1,(hf b B).2.2.2.2.1,(hf b B).2.2.2.2.2⟩;refine hR _ _ H5 s6 m6 hn6 IX I6.free (NY I3.lt) I3.sz (λx c e z=>?_) (λpp hp z=>?_) qn
   .obtain⟨v,zz⟩:=I3.cell x c e
    have zl:=zz.lt;rw[z]at zl;exact MT _ zl
   .have zl:=Mj (I3.pin pp hp).1
    rw[z]at zl;exact MT _ zl
  .refine bC (T.item (a_ X (ls++fs) scope cl s3.heap.objs.size s3 (upd H1 f.heap.objs.size<|.lst []) fp T0) rfl rfl rfl hc i [] s5 σ5 H5 _ I5 (M fr5) st5 go) λr s6 ⟨u,hr,h6⟩=>?_
   subst hr;refine bC h6 λ_ s7 ⟨x,H7,I7,r7,y7,st7,fr7⟩=>?_;have I7':=I7.pinned (M fr7) (T.obj _ _ st7);refine bC (hg _ s7 σ5 H7 x u _ I7' r7<|step x H7 y7) λ_ s8 ⟨σ8,H8,I8,q8⟩=>?_
   have again:∀{Y:St}{H9:Hp}{s9:ee},Inv (a_ X (ls++fs) scope cl s3.heap.objs.size s3 (upd H1 f.heap.objs.size<|.lst []) fp T0) ([]++lH fp s7.heap) Y H9 s9->N Y H9->
     ∃m,m<n/\∃i L H',Inv (a_ X (ls++fs) scope cl s3.heap.objs.size s3 (upd H1 f.heap.objs.size<|.lst []) fp T0) [] L H' s9/\tn i s9.heap/\(∀b∈fp,H' b=ed)/\W i m L H':=λ{Y H9 s9} I9 n9=>by
    obtain⟨m',hm,w9⟩:=hN Y H9 n9;refine⟨m',hm,i+1,Y,H9,I9.unpinned,T.keep _ _ _ st7 λb B o e=>(I9.pin (b,o)<|MK _<|MK _<|eG B e).1,λb B=>?_,w9⟩;obtain⟨o,e,d⟩:=T.obj _ _ st7 b B;exact(I9.pin (b,o)<|MK _<|MK _<|eG B e).2.1
   refine bC (ht _ s8 σ8 H8 _ I8 q8) λok s9 ⟨H9,I9,q9⟩=>?_;cases ok with
   |false=>exact again I9 q9
   |true=>
    refine bC (he _ s9 σ8 H9 _ I9 q9) λxv s10 ⟨y,H10,I10,r10,ys,hp,hl,n10⟩=>?_;obtain⟨z,Ua,n',r,hl',e⟩:=I10.lstM hp;refine oo PJ ⟨_,e,rfl⟩ F.entry_list_append (F.args_list_append_2 _ _) (RA f.heap.objs.size Ua.toArray n' xv<|by rw[Ml];lia) ⟨e,?_⟩
    refine again (I10.lset (its':=Ua++[xv]) hp e (by simp) (r.append<|.cons r10 .nil) ?_) n10
    rw[Mg,NA];lia
 have se:({ f with heap:=G,toks:=f.toks+([]:List (Str×cx)).length }:ee)={ s3 with heap:=G,toks:=s3.toks }:=by rw[<- hs3];rfl
 exact codeAny_compStart_list (loop _ se) (T.self _ 0 _ _ _ st4<|loop _ se)
theorem Eo(hc:X.calm=true)(u:CompOk X scope cl ls fs js)(hi:PI X tg iter wi)(hY:∀(C:eC)(c:ee)(H₀:Hp)(fp:Uj)(pl:Uo),PG (a_ X (ls++fs) scope cl C c H₀ fp pl) tg g/\HP (a_ X (ls++fs) scope cl C c H₀ fp pl) ifs tt/\PE (a_ X (ls++fs) scope cl C c H₀ fp pl) elt te)(hs:∀x,n7 iter X.env x=pure x:=by intro _;rfl):PE X (.ListComp elt [⟨tg,iter,ifs,0⟩] scope pos) (zP wi ls js g tt te):=by
 intro T0 s Z H Q I h;rw[eval_ListComp];refine Tq (use:=ed) rfl hs u.clos u.kind u.locs (bC (hi T0 s Z H _ I h) λxv s1 h1=>bC h1 λG s2 Y=>?_);obtain⟨it,fp,tn,J,H2,e,I2,T,y,W,q⟩:=Y;subst e;refine sL (R:=λv C=>compPost (ft X.prog X.w) X.A X.xe ed (EP X T0 Z Q) v C) (Q:=Q) hc u hY I2 T y W q ?_;intro p C H' L m U IX N M B f r hq;exact⟨m,U,λh' sb=>⟨.ref p,H',IX.turned (t':=L.toks) (λb o O e=>sb.extBut b o O e) N M (.inr B) f r,rfl,hq⟩⟩
noncomputable def GS(i:Nat)(t:TE):TS:=λD Z H=>t Z H λv H1=>D.nx (Z.set i<|some v) H1
theorem CY{u r:Pos}(hN:X.N.Nodup)(hix:X.N[i]?=cb x)(hx:yZ X.env.scope x)(hc:X.calm=true)(L:CompOk X scope cl ls fs js)(hi:PI X tg iter wi)(hY:∀(C:eC)(f:ee)(H₀:Hp)(fp:Uj)(pl:Uo),PG (a_ X (ls++fs) scope cl C f H₀ fp pl) tg g/\HP (a_ X (ls++fs) scope cl C f H₀ fp pl) ifs tt/\PE (a_ X (ls++fs) scope cl C f H₀ fp pl) elt te)(hsw:pb (.ListComp elt [⟨tg,iter,ifs,0⟩] scope pos) (cb<|.Name x u) r.line X.env=pure true:=by rfl)(hs:∀x,n7 iter X.env x=pure x:=by intro _;rfl)(hf:X.fn x=true\/X.env.scope.names.lookup x=cb .local:=by first|exact .inl rfl|exact .inr rfl|assumption):
  PS X (.Assign [.Name x u] (.ListComp elt [⟨tg,iter,ifs,0⟩] scope pos) r) (GS i<|zP wi ls js g tt te):=by
 intro T0 s Z H D I h;rw[exec_Assign_Name_used _ _ _ _ hsw];refine cT (Tp<|wpAny_bind ?_);show eT _ X.A (do let _ <- comprehension (.ListComp elt [⟨tg,iter,ifs,0⟩] scope pos) scope X.env _ (newList []) eH (g3 iter X.env) (cb<|assign (.Name x u) X.env)) _ _ s
 refine cT (kL (Tq (use:=cb (SQ (.Name x u) X.env)) (Q:=λ_ B=>SP X T0 D .next B) rfl hs L.clos L.kind L.locs
  (bC (hi T0 s Z H _ I h) λxv s1 h1=>bC h1 λitv s2 h2=>?_)) (λ_ B hq=>eP (eP hq)) λ_ _ e=>e)
 obtain⟨it,fp,tn,J,H2,e,I2,T,O,f2,q⟩:=h2;subst e;refine sL (R:=λM C=>compPost (ft X.prog X.w) X.A X.xe (cb<|assign (.Name x u) X.env) (λ_ B=>SP X T0 D .next B) M C) (Q:=λv H1=>D.nx (Z.set i<|some v) H1) hc L hY I2 T O f2 q ?_;intro p C H' B m hn IX hC hL W c G hq;show eT _ X.A (SQ (.Name x u) X.env<|.ref p) _ _ _;refine wpAny_assign_Name (on IX hN hix hx (v:=.ref p) rfl (λY I'' U=>?_) hf);obtain⟨a,sb,ha⟩:=U;have hne:C≠a:=by
  rcases ha with z|z
  .rw[z];exact hL
  .exact λy=>c x a z y.symm
 refine⟨m,hn.sameBut sb hne,λh3 sb3=>?_⟩;exact⟨_,H',I''.turned (t':=Y.toks) (λb o U e=>sb3.extBut b o U e) hC hL (.inr W) c G,hq⟩
end
def SrcTn(b:Bool)(it a:eC)(i:Nat)(h:g4):Prop:=if b=true then h.IsListIter it a i else h.IsTupleIter it a i
def SrcSq(b:Bool)(h:g4)(a:eC)(items:Ur):Prop:=if b=true then h.IsList a items else h.IsTuple a items
theorem SrcTn.lt(x:SrcTn b it a i h):∃o,h.get? it=cb o/\∀v,o.data≠.cell v:=by
 cases b with
 |true=>obtain⟨o,e,c,d⟩:=(show h.IsListIter it a i from x);exact⟨o,e,λv z=>by rw[d]at z;cases z⟩
 |false=>obtain⟨o,e,c,d⟩:=(show h.IsTupleIter it a i from x);exact⟨o,e,λv z=>by rw[d]at z;cases z⟩
theorem SrcTn.keep(x:SrcTn b it a i h)(k:∀o,h.get? it=cb o->h'.get? it=cb o):SrcTn b it a i h':=by
 cases b with
 |true=>obtain⟨o,e,r⟩:=(show h.IsListIter it a i from x);exact(show h'.IsListIter it a i from ⟨o,k o e,r⟩)
 |false=>obtain⟨o,e,r⟩:=(show h.IsTupleIter it a i from x);exact(show h'.IsTupleIter it a i from ⟨o,k o e,r⟩)
theorem SrcSq.keep(x:SrcSq b h a items)(k:∀o,h.get? a=cb o->h'.get? a=cb o):SrcSq b h' a items:=by
 cases b with
 |true=>obtain⟨o,e,r⟩:=(show h.IsList a items from x);exact(show h'.IsList a items from ⟨o,k o e,r⟩)
 |false=>obtain⟨o,e,r⟩:=(show h.IsTuple a items from x);exact(show h'.IsTuple a items from ⟨o,k o e,r⟩)
section
theorem iw{x:cx}(c:s.heap.IsTupleIter it l i)(q:s.heap.IsTuple l items)(r:items[i]?=cb x)(hQ:∀h',h'.IsTupleIter it l (i+1)->Nr it s.heap h'->Q x { s with heap:=h' }):eT (ft prog w) A (MR<|.ref it) Q E s:=by
 obtain⟨o,f,p,e⟩:=id c;obtain⟨v,m,_,u,g⟩:=q;unfold MR
 refine cT (wpAny_callSpecial?_slot (name:=Mq "__next__") c.typeIs Ot
  (Op Ot c.typeIs QP ?_<|QI _))
 show eT _ _ (TW (.ref it) 0 >>= _) _ _ s;refine cT (pt f e (x:=.ref l) rfl ?_);show eT _ _ (if (MD l==Na)=true then _ else _) _ _ s
 rw[if_neg (show ¬((MD l==Na)=true) from MC)];show eT _ _ (TW (.ref it) 1 >>= _) _ _ s;refine cT (pt f e (x:=.int i 0) rfl ?_);show eT _ _ (seqItems? (.ref l) >>= _) _ _ s;refine cT (tL m g ?_);simp only[MI,r];refine cT (wpAny_setField f e (by simp)<|wpAny_pure ⟨x,rfl,eP<|hQ _ ?_<|Nv ..⟩)
 exact⟨_,Og _ f (Obj.isFreed_of_fields<|Obj.data_mapFields e _),(Obj.cls_mapFields ..).trans p,by
  rw[Obj.data_mapFields e];simp[Pv]⟩
theorem iS(r:A.handled=ed)(c:s.heap.IsTupleIter it l i)(y:s.heap.IsTuple l items)(v:items[i]?=ed)(u:∀h' e,Rl it s.heap h'->(∃o,h'.get? e=cb o/\o.cls=.type "StopIteration")->E (.ref e) { s with heap:=h' }):eT (ft prog w) A (MR<|.ref it) Q E s:=by
 obtain⟨o,p,C,g⟩:=id c;obtain⟨G,q,_,B,f⟩:=y;unfold MR
 refine cT (wpAny_callSpecial?_slot (name:=Mq "__next__") c.typeIs Ot
  (Op Ot c.typeIs QP ?_<|QI _))
 show eT _ _ (TW (.ref it) 0 >>= _) _ _ s;refine cT (pt p g (x:=.ref l) rfl ?_);show eT _ _ (if (MD l==Na)=true then _ else _) _ _ s
 rw[if_neg (show ¬((MD l==Na)=true) from MC)];show eT _ _ (TW (.ref it) 1 >>= _) _ _ s;refine cT (pt p g (x:=.int i 0) rfl ?_);show eT _ _ (seqItems? (.ref l) >>= _) _ _ s;refine cT (tL q f ?_);simp only[MI,v];refine cT (Sc<|wpAny_bind<|wpAny_setField p g (by simp) ?_)
 show eT _ _ (newExc (.type "StopIteration") [] >>= _) _ _ _;refine cT ?_;simp only[newExc,newTuple];refine cT (x9 ?_<|by size_fits)
 refine cT (m:=firstArgMember _ _) (Td (a:=Na) (by first|rfl|(simp only[firstArgMember];rfl)) ?_)
 refine x9 ?_ (by size_fits)
 simp only[raiseNew];refine cT (wpAny_handled ?_)
 first|rw[show A.in1.handled=ed from r]|rw[r]
 refine cT (eP<|wpAny_throw ?_);exact u _ _ (((Nv ..).extBut.push _).push _) ⟨_,Mt _ rfl,rfl⟩
theorem eW{x:cx}(c:SrcTn b it l i s.heap)(e:SrcSq b s.heap l items)(f:items[i]?=cb x)(g:∀h',SrcTn b it l (i+1) h'->Nr it s.heap h'->Q x { s with heap:=h' }):eT (ft prog w) A (MR<|.ref it) Q E s:=by
 cases b with
 |true=>exact wpAny_nextOf_list_item c e f g
 |false=>exact iw c e f g
theorem db(g:A.handled=ed)(c:SrcTn b it l i s.heap)(p:SrcSq b s.heap l items)(m:items[i]?=ed)(f:∀h' e,Rl it s.heap h'->(∃o,h'.get? e=cb o/\o.cls=.type "StopIteration")->E (.ref e) { s with heap:=h' }):eT (ft prog w) A (MR<|.ref it) Q E s:=by
 cases b with
 |true=>exact wpAny_nextOf_list_end g c p m f
 |false=>exact iS g c p m f
noncomputable def gy(b:Bool):String:=if b=true then "list_iterator" else "tuple_iterator"
theorem eL(c:SrcSq b s.heap l items)(e:Q (.ref s.heap.objs.size) { s with heap:=s.heap.push { cls:=.type (gy b),data:=.fields #[.ref l,.int 0 0] } }):eT (ft prog w) A (S9<|.ref l) Q E s:=by
 cases b with
 |true=>exact SE c e
 |false=>exact SZ c e
theorem vD(e:h.get? it=cb { cls:=.type (gy b),data:=.fields #[.ref l,.int 0 0] }):SrcTn b it l 0 h:=by
 cases b with
 |true=>exact(show h.IsListIter it l 0 from ⟨_,e,rfl,rfl⟩)
 |false=>exact(show h.IsTupleIter it l 0 from ⟨_,e,rfl,rfl⟩)
theorem uU{M:Model}{o:Obj}{Q:Option Obj->ee->Prop}(c:s.heap.get? a=cb o)(h:Q (cb o) s):eT M A (loadIfAlive a) Q E s:=λΓ p _=>by
 show Sem.wp M Γ (.loadIfAlive a .pure) _ _ p s;rw[Sem.wp_loadIfAlive,c];exact h
end
structure ZS where
 b:Bool
 i:eC
 l:eC
abbrev gx(h:g4)(T:eC)(vs:Ui):Prop:=h.get? T=cb { cls:=.type "tuple",data:=.seq vs.toArray }
noncomputable abbrev jb(z TI TO:eC)(S:List ZS):List Addr:=z::TI::TO::S.map ZS.i
structure ZOk(z TI TO:eC)(S:List ZS):Prop where
 nd:(jb z TI TO S).Nodup
 off:∀t∈S,t.l∉jb z TI TO S
 ne:S≠[]
 few:S.length<=3
abbrev rF(h:g4)(z TI TO:eC)(f0:cx)(f1:Bool):Prop:=
 h.get? z=cb { cls:=.type "zip",dict:=ed,data:=.fields #[f0,.bool f1,.bool eH,.ref TI,.ref TO],slots:=#[] }
def BB(S:List ZS)(k:Nat)(h:g4):Prop:=∀t∈S,SrcTn t.b t.i t.l k h
section
theorem fR{p c:Type}{f:p->c->Sem (ForInStep c)}{xs:List p}{Q:c->ee->Prop}{M:Model}(b:Nat->c)(I:Nat->ee->Prop)
  (m:∀i x s,xs[i]?=cb x->I i s->eT M A (f x<|b i) (λr s'=>r=.yield (b (i+1))/\I (i+1) s') E s) (o:∀s',I xs.length s'->Q (b xs.length) s'):
  ∀(n j:Nat)(s:ee),j+n=xs.length->I j s->eT M A (forIn (xs.drop j) (b j) f) Q E s
 |0,j,s,e,h=>by
  rw[Ph (by lia)]
  have:j=xs.length:=by lia
  subst this;exact eP (o s h)
 |n+1,j,s,e,h=>by
  have g:j<xs.length:=by lia
  rw[NQ g,List.forIn_cons];refine cT (kL (m j _ s (by simp[g]) h) (λr s' q=>?_) λ_ _ q=>q)
  obtain⟨rfl,q⟩:=q;exact fR b I m o n (j+1) s' (by lia) q
theorem lG{TI TO:eC}(D:ZOk z TI TO S):z≠TI/\z≠TO/\TI≠TO/\∀t∈S,t.i≠z/\t.i≠TI/\t.i≠TO:=by
 have:=D.nd;simp only[NG,Mm,not_or]at this;obtain⟨⟨a,b,c⟩,⟨d,e⟩,f,g⟩:=this;exact⟨a,b,d,λt m=>⟨λe=>c (e▸MJ m),λq=>e (q▸MJ m),λe=>f (e▸MJ m)⟩⟩
theorem wH{TI TO:eC}(D:ZOk z TI TO S){t u:ZS}(c:S[i]?=cb t)(f:S[j]?=cb u)(h:i≠j):t.i≠u.i:=by
 have nd:(S.map ZS.i).Nodup:=by have:=D.nd;simp only[NG]at this;exact this.2.2.2
 intro e;exact h ((List.getElem?_inj (by rw[Md];exact(MU.1 c).1) nd).1<|by rw[Mw,Mw,c,f];exact congrArg cb e)
theorem qT{t:ZS}{k:Nat}{xs:Ur}{o:Option cx}(m:A.handled=ed)(c:SrcTn t.b t.i t.l k s.heap)(f:SrcSq t.b s.heap t.l xs)(g:xs[k]?=o)(p:∀x h',o=cb x->SrcTn t.b t.i t.l (k+1) h'->Nr t.i s.heap h'->Q x { s with heap:=h' })(hE:∀h' e,o=ed->Rl t.i s.heap h'->(∃o,h'.get? e=cb o/\o.cls=.type "StopIteration")->E (.ref e) { s with heap:=h' }):
  eT (ft prog w) A (MR<|.ref t.i) Q E s:=by
 cases o with
 |none=>exact db m c f g λh' e q r=>hE h' e rfl q r
 |some x=>exact eW c f g λh' q r=>p x h' rfl q r
structure ZMid(S:List ZS)(F:ZS->Option cx)(k:Nat)(fp:Uj)(h₀:g4)(j:Nat)(h:g4):Prop where
 ahead:∀i t,S[i]?=cb t->SrcTn t.b t.i t.l (if i<j then k+1 else k) h
 got:∀i t,i<j->S[i]?=cb t->(F t).isSome=true
 frame:∀c o,c∉fp->h₀.get? c=cb o->h.get? c=cb o
 size:h.objs.size=h₀.objs.size
theorem ZMid.zero{k:Nat}(a:BB S k h)(f:∀c o,c∉fp->h₀.get? c=cb o->h.get? c=cb o)(z:h.objs.size=h₀.objs.size):ZMid S F k fp h₀ 0 h:=
 ⟨λi t e=>by simpa using a t (NW e),λi t q=>absurd q (Oy _),f,z⟩
theorem ZMid.at{k:Nat}(m:ZMid S F k fp h₀ j h){t:ZS}(e:S[j]?=cb t):SrcTn t.b t.i t.l k h:=by simpa using m.ahead j t e
theorem ZMid.go{k:Nat}(m:ZMid S F k fp h₀ j h)(i1:∀t∈S,∀o,h.get? t.i=cb o->h'.get? t.i=cb o)(f:∀c o,c∉fp->h.get? c=cb o->h'.get? c=cb o)(z:h'.objs.size=h.objs.size):ZMid S F k fp h₀ j h':=
 ⟨λi t e=>(m.ahead i t e).keep (i1 t<|NW e),m.got,λc o n e=>f c o n (m.frame c o n e),z.trans m.size⟩
theorem ZMid.step{TI TO:eC}(D:ZOk z TI TO S){k:Nat}(m:ZMid S F k fp h₀ j h){t:ZS}(e:S[j]?=cb t)(v:t.i∈fp)(r:(F t).isSome=true)(p:SrcTn t.b t.i t.l (k+1) h')(b:Nr t.i h h'):ZMid S F k fp h₀ (j+1) h':=by
 refine⟨λi u f=>?_,λi u q f=>?_,λc o n q=>b.extBut c o (λx=>n (x▸v)) (m.frame c o n q),b.1.trans m.size⟩
 .by_cases g:i=j
  .subst g
   cases e.symm.trans f;rw[if_pos (OI _)];exact p
  .have q:=(m.ahead i u f).keep λo x=>b.extBut _ o (wH D f e g) x
   by_cases lt:i<j
   .rw[if_pos lt]at q
    rw[if_pos (O5 lt)];exact q
   .rw[if_neg lt]at q
    rw[if_neg (by lia)]
    exact q
 .by_cases g:i=j
  .subst g
   cases e.symm.trans f;exact r
  .exact m.got i u (by lia) f
theorem tN{TI TO:eC}{Q:Option cx->ee->Prop}(m:rF s.heap z TI TO f0 f1)(h:eT (ft prog w) A.in1 (Builtin.«zip.__next__» ⟨[.ref z],[]⟩) (λfin s'=>∃v,fin=.done (.ret v)/\Q (cb v) s') (λe s'=>∃a,e=.ref a/\(∃o,s'.heap.get? a=cb o/\o.cls=.type "StopIteration")/\Q ed s') s):
  eT (ft prog w) A (SA<|.ref z) Q E s:=by
 have c:s.TypeIs (.ref z) "zip":=⟨_,m,rfl⟩;unfold SA;refine cT (wpAny_attempt<|wpAny_callSpecial?_slot (name:=Mq "__next__") c F.slot_zip_next<|wpAny_call_entry F.slot_zip_next c F.entry_zip_next (kL h (λfin s' q=>?_) λe s' q=>?_)<|F.args_zip_next_1 _)
 .obtain⟨v,rfl,q⟩:=q
  exact⟨v,rfl,eP q⟩
 .obtain⟨a,rfl,⟨o,g,f⟩,q⟩:=q
  exact cT (S7 (T:="StopIteration") (b:=true) ⟨o,g,f⟩ isSubtype_stop<|wpAny_pure q)
theorem jA{TI TO:eC}{k:Nat}{Q:Option cx->ee->Prop}(hh:A.handled=ed)(D:ZOk z TI TO S)(W:rF s.heap z TI TO f0 f1)(hf:f0=.none/\f1=eH/\(∃vs:List cx,vs.length=S.length/\gx s.heap TO vs)\/∃(T:eC)(oT:Obj),f0=Pv T/\s.heap.get? T=cb oT)(hTI:gx s.heap TI (S.map λt=>.ref t.i))(h1:BB S k s.heap)(hl:∀t∈S,∃xs,SrcSq t.b s.heap t.l xs/\xs[k]?=F t)(hQ:∀h' us,us.map cb=S.map F->(f0=.none/\Te h' z TI TO (Pv s.heap.objs.size)/\gx h' TO us\/f0≠.none/\rF h' z TI TO f0 true)->BB S (k+1) h'->gx h' s.heap.objs.size us->
   (∀c o,c∉z::TO::S.map ZS.i->s.heap.get? c=cb o->h'.get? c=cb o)->Q (cb<|.ref s.heap.objs.size) { s with heap:=h' })(hE:∀h',(∃t∈S,F t=ed)->(∀c o,c∉z::TO::S.map ZS.i->s.heap.get? c=cb o->h'.get? c=cb o)->Q ed { s with heap:=h' }):
  eT (ft prog w) A (SA<|.ref z) Q E s:=by
 obtain⟨zTI,zTO,TITO,ni⟩:=lG D;have few:S.length<=sizeLine:=ME D.few (by decide)
 refine tN W ?_;show eT _ _ (TW (.ref z) 2 >>= _) _ _ _;refine cT (pt W rfl (x:=.bool eH) rfl ?_);show eT _ _ (TW (.ref z) 3 >>= _) _ _ _;refine cT (pt W rfl (x:=.ref TI) rfl ?_);refine cT (tL hTI rfl ?_);have hne:(S.map λt=>MD t.i).toArray.isEmpty=false:=by have:=D.ne;simp[this]
 simp only[hne,Mr,if_false];show eT _ _ (OZ (.ref z) >>= _) _ _ _;refine cT ?_;unfold OZ;refine cT (pt W rfl (x:=f0) rfl ?_);have hnd:∀t∈S,t.l∉z::TO::S.map ZS.i:=λt g q=>D.off t g (by
  simp only[jb,Mm]at q ⊢;exact q.imp id .inr)
 have B:∀{h h':g4}{c:eC}(b:eC),b∈z::TO::S.map ZS.i->(∀c o,c≠b->h.get? c=cb o->h'.get? c=cb o)->c∉z::TO::S.map ZS.i->∀o,h.get? c=cb o->h'.get? c=cb o:=λb hb k n o e=>k _ o (λx=>n (x▸hb)) e;have mi:∀{t:ZS},t∈S->t.i∈z::TO::S.map ZS.i:=λg=>by simp[MJ g]
 have fin:∀{us:Ui},us.length=S.length->(∀i t,i<S.length->S[i]?=cb t->us[i]?=F t)->(∀i t,i<S.length->S[i]?=cb t->(F t).isSome=true)->us.map cb=S.map F:=λ{us} hu G hs=>by
  refine P7 λi=>?_;rw[Mw,Mw];cases y:S[i]? with
  |none=>
   rw[QJ]at y;rw[NN (by lia)]
   rfl
  |some t=>
   have il:i<S.length:=(MU.1 y).1;have hs:=hs i t il y;rw[G i t il y];cases hF:F t with
   |none=>rw[hF]at hs;cases hs
   |some x=>simp[hF]
 have st:∀{h:g4},ZMid S F k (z::TO::S.map ZS.i) s.heap S.length h->BB S (k+1) h:=λm t g=>by
  obtain⟨i,il,rfl⟩:=PL g;have q:=m.ahead i S[i] (by simp[il])
  rwa [if_pos il]at q
 rcases hf with⟨rfl,rfl,vs,hv,hTO⟩|⟨T,oT,rfl,hT⟩
 .refine eP ?_
  simp only[if_true];refine cT (Sc ?_);refine cT (pt W rfl (x:=.ref TO) rfl ?_);refine cT (wh W (by simp) λh₁ hz1 R=>?_)
  replace hz1:Te h₁ z TI TO .ellipsis:=hz1
  refine cT ?_
  refine fR (xs:=(S.map λt=>MD t.i).toArray.toList.zipIdx) (λ_=>_)
   (λj M=>∃h' us,M={ s with heap:=h' }/\ZMid S F k (z::TO::S.map ZS.i) s.heap j h'/\Te h' z TI TO .ellipsis/\gx h' TO us/\us.length=S.length/\∀i t,i<j->S[i]?=cb t->us[i]?=F t)
   (λj x M hx hI=>?_) (λM hI=>?_) _ 0 _ (NF _) ⟨h₁,vs,rfl,.zero (λt g=>(h1 t g).keep λo e=>R.extBut _ o (ni t g).1 e) (λc o n e=>B z (.head _) R.extBut n o e) R.1,hz1,R.extBut _ _ zTO.symm hTO,hv,λi t q=>absurd q (Oy _)⟩
  .obtain⟨h',us,rfl,m,r,C,hu,G⟩:=hI
   simp only[OK,Mw,Nd,NF]at hx;obtain⟨v,⟨t,y,rfl⟩,rfl⟩:=hx;have g:=NW y;obtain⟨xs,hsq,hxs⟩:=hl t g;refine cT (wpAny_onRaise ?_);show eT _ _ (MR (.ref t.i) >>= _) _ _ _;refine cT (qT hh (m.at y) (hsq.keep λo e=>m.frame _ o (hnd t g) e) hxs (λx p O h12 f=>eP ?_) λp e O f he=>?_)
   .have jl:j<S.length:=(MU.1 y).1
    have J:gx p TO us:=f.extBut _ _ (ni t g).2.2.symm C;refine cT (tL J rfl ?_);refine cT (wpAny_updateSeq J rfl ?_ (by show us.toArray.size<=sizeLine;rw[Ml,hu];exact few)<|by rw[Array.size_setIfInBounds,Ml,hu];exact Nat.le_succ_of_le few)
    refine cT (TR<|wpAny_pure ⟨rfl,_,us.set j x,rfl,?_,?_,?_,by rw[List.length_set,hu],λi u q eu=>?_⟩)
    all_goals have sb:Nr TO p (p.update TO<|Nj (·.setIfInBounds j x)):=Nv ..
    .exact(m.step D y (mi g) (by rw[O];rfl) h12 f).go (λu hu' o e=>sb.extBut _ o (ni u hu').2.2 e) (λc o n e=>B TO (by simp) sb.extBut n o e) sb.1
    .exact sb.extBut _ _ zTO (f.extBut _ _ (ni t g).1.symm r)
    .show Heap.get? _ _=_
     rw[Og _ J rfl];simp[Nj]
    .rw[List.getElem?_set]
     by_cases ij:j=i
     .subst ij
      cases y.symm.trans eu;rw[if_pos rfl,if_pos (by lia),O]
     .rw[if_neg ij]
      exact G i u (by lia) eu
   .obtain⟨oe,hoe,hce⟩:=he
    have hz2:Te p z TI TO .ellipsis:=f _ _ (ni t g).1.symm r;have hez:e≠z:=λx=>by subst x;rw[hz2]at hoe;cases hoe;simp at hce
    exact wh hz2 (by simp) λh₃ _ I=>⟨e,rfl,⟨oe,I.extBut _ _ hez hoe,hce⟩,hE h₃ ⟨t,g,O⟩ λc o n q=>B z (.head _) I.extBut n o (B _ (mi g) f n o<|m.frame c o n q)⟩
  .obtain⟨h',us,rfl,m,r,C,hu,G⟩:=hI
   rw[show (S.map λt=>MD t.i).toArray.toList.zipIdx.length=S.length by simp]at m G
   refine cT (tL C rfl ?_);refine cT (w4 ?_<|by simpa [hu] using few)
   have Y:z<h'.objs.size:=Mj r;show eT _ _ (OT (.ref z) (.ref h'.objs.size) >>= _) _ _ _;refine cT ?_;unfold OT;have hz8:Te (h'.push { cls:=.type "tuple",data:=.seq us.toArray }) z TI TO .ellipsis:=Me _ r;refine cT (wh hz8 (by simp) λh₉ hz9 hs9=>?_)
   replace hz9:Te h₉ z TI TO (Pv h'.objs.size):=hz9
   refine wh hz9 (by simp) λhA U hsA=>?_
   replace U:Te hA z TI TO (Pv h'.objs.size):=U
   have up:∀c o,c≠z->h'.get? c=cb o->hA.get? c=cb o:=λc o c1 e=>hsA.extBut _ _ c1 (hs9.extBut _ _ c1<|Me _ e);have hTA:gx hA h'.objs.size us:=hsA.extBut _ _ (NY Y) (hs9.extBut _ _ (NY Y)<|Mt _ rfl);rw[m.size]at U hTA;refine eP ⟨_,rfl,?_⟩;show Q (cb<|.ref h'.objs.size) _;rw[m.size];exact hQ hA us (fin hu G m.got) (.inl ⟨rfl,U,up _ _ zTO.symm C⟩) (λt g=>(st m t g).keep λo e=>up _ o (ni _ g).1 e) hTA λc o n e=>B z (.head _) up n o (m.frame c o n e)
 .show eT _ _ (loadIfAlive _ >>= _) _ _ _
  refine cT (uU (o:=oT) (by simpa using hT) ?_)
  simp only[Option.isNone_some,Mr,if_false];refine cT (pt W rfl (x:=.bool f1) rfl ?_)
  have go:eT (ft prog w) A.in1 (if (OQ f1 != OQ true)=true then do setField (MD z) 1 (OQ true);pure eH else pure eH)
    (λa M=>a=eH/\∃h₀,M={ s with heap:=h₀ }/\rF h₀ z TI TO (Pv T) true/\(∀c o,c≠z->s.heap.get? c=cb o->h₀.get? c=cb o)/\h₀.objs.size=s.heap.objs.size) (λ_ _=>False) s:=by
   cases f1 with
   |true=>
    rw[if_neg (by decide)]
    exact eP ⟨rfl,s.heap,rfl,W,λ_ _ _ e=>e,rfl⟩
   |false=>
    rw[if_pos (by decide)]
    exact cT (wh W (by simp) λh₀ hz0 N=>eP ⟨rfl,h₀,rfl,hz0,N.extBut,N.1⟩)
  refine kL go (λa M hq=>?_) λ_ _ e=>e.elim;obtain⟨rfl,h₀,rfl,hz0,L,N⟩:=hq;simp only[Mr,if_false];rw[<- Array.forIn_toList];refine cT ?_
  refine fR (xs:=(S.map λt=>MD t.i).toArray.toList) (λj=>(ed,((S.map λt=>(F t).getD .none).take j).toArray))
   (λj M=>∃h',M={ s with heap:=h' }/\ZMid S F k (z::TO::S.map ZS.i) s.heap j h'/\rF h' z TI TO (Pv T) true)
   (λj x M hx hI=>?_) (λM hI=>?_) _ 0 _ (NF _) ⟨h₀,rfl,.zero (λt g=>(h1 t g).keep λo e=>L _ o (ni t g).1 e) (λc o n e=>B z (.head _) L n o e) N,hz0⟩
  .obtain⟨h',rfl,m,r⟩:=hI
   simp only[Mw,Nd]at hx;obtain⟨t,y,rfl⟩:=hx;have g:=NW y;obtain⟨xs,hsq,hxs⟩:=hl t g;refine cT (k6 ?_);show eT _ _ (MR (.ref t.i) >>= _) _ _ _;refine cT (qT hh (m.at y) (hsq.keep λo e=>m.frame _ o (hnd t g) e) hxs (λx p O h12 f=>eP (eP ⟨?_,_,rfl,m.step D y (mi g) (by rw[O];rfl) h12 f,f.extBut _ _ (ni t g).1.symm r⟩)) λp e O f he=>⟨e,rfl,he,hE p ⟨t,g,O⟩ λc o n q=>B _ (mi g) f n o (m.frame c o n q)⟩)
   rw[QF,show (S.map λt=>(F t).getD .none)[j]?=cb x by rw[Mw,y];simp[O]]
   simp
  .obtain⟨h',rfl,m,r⟩:=hI
   rw[show (S.map λt=>MD t.i).toArray.toList.length=S.length by simp]at m ⊢
   rw[NI (by simp)]
   refine cT (w4 (eP ⟨_,rfl,?_⟩)<|by simpa using few)
   have up:∀c o,h'.get? c=cb o->(h'.push { cls:=.type "tuple",data:=.seq (S.map λt=>(F t).getD .none).toArray }).get? c=cb o:=λc o e=>Me _ e;have hn:=Mt h' (o:={ cls:=.type "tuple",data:=.seq (S.map λt=>(F t).getD .none).toArray }) rfl;show Q (cb<|.ref h'.objs.size) _;rw[m.size]at hn ⊢;refine hQ _ (S.map λt=>(F t).getD .none) (fin (by simp) (λi t il y=>?_) m.got) (.inr ⟨by simp[Pv],up _ _ r⟩) (λt g=>(st m t g).keep λo e=>up _ o e) (by simpa using hn) λc o n e=>up _ _ (m.frame c o n e)
   have hs:=m.got i t il y;cases hF:F t with
   |none=>rw[hF]at hs;cases hs
   |some x=>simp[y,hF]
end
theorem kY(a b c:cx):Tv "zip" ⟨[a,b,c],[]⟩=pure ():=by kernel_rfl
theorem nz(a b c:cx):SJ "zip.__new__" ⟨[.type "zip",a,b,c],[]⟩=pure ():=by kernel_rfl
theorem gj(a b c d:cx):argsOk "object.__init__" ⟨[a,b,c,d],[]⟩:=by
 unfold argsOk;rw[signature?_of (id:="object.__init__") (n:=['_','_','t','i','n','i','_','_']) (o:=['t','c','e','j','b','o']) (by kernel_rfl) F.owner_object];kernel_rfl
noncomputable def cL(n:Nat)(args:List (Bool×eC)):List ZS:=args.zipIdx.map λp=>⟨p.1.1,n+p.2,p.1.2⟩
theorem fk:(cL n args)[i]?=(args[i]?).map λp=>⟨p.1,n+i,p.2⟩:=by
 simp[cL,Mw,OK,Function.comp_def]
section
theorem rl{Q:List cx->ee->Prop}(B:∀p∈args,∃xs,SrcSq p.1 s.heap p.2 xs)(C:∀h',BB (cL s.heap.objs.size args) 0 h'->(∀c o,s.heap.get? c=cb o->h'.get? c=cb o)->h'.objs.size=s.heap.objs.size+args.length->Q ((cL s.heap.objs.size args).map λt=>.ref t.i) { s with heap:=h' }):
  eT (ft prog w) A (Pw (args.map λp=>.ref p.2)) Q E s:=by
 unfold Pw;refine cT ?_
 refine fR (xs:=args.map λp=>MD p.2) (λj=>(((cL s.heap.objs.size args).take j).map λt=>MD t.i).toArray)
  (λj m=>∃h',m={ s with heap:=h' }/\BB ((cL s.heap.objs.size args).take j) 0 h'/\(∀c o,s.heap.get? c=cb o->h'.get? c=cb o)/\h'.objs.size=s.heap.objs.size+j)
  (λj x m v q=>?_) (λm q=>?_) _ 0 _ (NF _) ⟨s.heap,rfl,λt ht=>by simp at ht,λ_ _ e=>e,rfl⟩
 .obtain⟨h',rfl,g,k,f⟩:=q
  simp only[Mw,Nd]at v;obtain⟨p,r,rfl⟩:=v;obtain⟨xs,y⟩:=B p (NW r);have u:(cL s.heap.objs.size args)[j]?=cb ⟨p.1,s.heap.objs.size+j,p.2⟩:=by rw[fk,r];rfl
  refine cT (k6<|eL (s:={ s with heap:=h' }) (y.keep λo e=>k _ o e)<|wpAny_pure ⟨?_,_,rfl,λt ht=>?_,λc o e=>Me _ (k c o e),by rw[Nq,f];rfl⟩)
  .rw[QF,u]
   simp[f]
  .rw[QF,u]at ht
   rcases Ms.1 ht with ht|ht
   .exact(g t ht).keep λo e=>Me _ e
   .have:=MH.1 ht
    subst this;refine vD ?_;rw[<- f];exact Mt _ rfl
 .obtain⟨h',rfl,g,k,f⟩:=q
  have e:(cL s.heap.objs.size args).take (args.map λp=>MD p.2).length=cL s.heap.objs.size args:=NI (by simp[cL])
  rw[e]at g ⊢;refine eP (C h' g k<|by simpa using f)
end
theorem vk(args:List (Bool×eC))(g:args.length<=3):
  TC (Builtin.«zip.__new__» ⟨.type "zip"::args.map λp=>.ref p.2,[]⟩) (λ_ R s=>(∀p∈args,∃xs,SrcSq p.1 s.heap p.2 xs)/\
   ∀h',Te h' (s.heap.objs.size+args.length+2) (s.heap.objs.size+args.length) (s.heap.objs.size+args.length+1) .none->gx h' (s.heap.objs.size+args.length) ((cL s.heap.objs.size args).map λt=>.ref t.i)->gx h' (s.heap.objs.size+args.length+1) (args.map λ_=>.none)->
    BB (cL s.heap.objs.size args) 0 h'->(∀c o,s.heap.get? c=cb o->h'.get? c=cb o)->R (.ok<|.ret<|.ref (s.heap.objs.size+args.length+2)) { s with heap:=h' }):=
 .of_wp λprog w A R s h=>by
  obtain⟨m,v⟩:=h;have r:=sub_zip;have y:=m;unfold Builtin.«zip.__new__»
  wp_walk using rl m
  intro h' B k f;have len:(cL s.heap.objs.size args).length<=3:=by simpa [cL] using g
  refine cT (w4 ?_<|by rw[Md];exact ME len (by decide))
  refine cT (w4 ?_<|by rw[Md,Md];exact ME len (by decide))
  unfold Builtin.SmallTypes.newRecord Builtin.SmallTypes.ownedTupleFields
  wp_walk
  refine⟨_,rfl,?_⟩;simp only[Nq,f];refine v _ ?_ ?_ ?_ (λt u=>(B t u).keep λo e=>Me _ (Me _<|Me _ e)) λc o e=>Me _ (Me _<|Me _<|k c o e)
  .have q:=Mt ((h'.push { cls:=.type "tuple",data:=.seq ((cL s.heap.objs.size args).map λt=>MD t.i).toArray }).push { cls:=.type "tuple",data:=.seq (((cL s.heap.objs.size args).map λt=>MD t.i).map λ_=>Na).toArray }) (o:={ cls:=.type "zip",data:=.fields #[.none,.bool eH,.bool eH,.ref (s.heap.objs.size+args.length),.ref (s.heap.objs.size+args.length+1)] }) rfl
   simp only[Nq,f]at q;exact q
  .refine Me _ (Me _ ?_)
   rw[<- f];exact Mt _ rfl
  .refine Me _ ?_
   have q:=Mt (h'.push { cls:=.type "tuple",data:=.seq ((cL s.heap.objs.size args).map λt=>MD t.i).toArray }) (o:={ cls:=.type "tuple",data:=.seq (((cL s.heap.objs.size args).map λt=>MD t.i).map λ_=>Na).toArray }) rfl;simp only[Nq,f]at q;rw[show (args.map λ_=>Na)=(((cL s.heap.objs.size args).map λt=>MD t.i).map λ_=>Na) from ?_]
   .exact q
   .rw[NX,cL,NX]
    exact P7 λi=>by simp[Mw,OK];rfl
section
theorem oB(hn:args.length=2\/args.length=3)(hl:∀p∈args,∃xs,SrcSq p.1 s.heap p.2 xs)(h:∀h' z TI TO S,S.map (λt=>(t.b,t.l))=args->ZOk z TI TO S->Te h' z TI TO .none->gx h' TI (S.map λt=>.ref t.i)->gx h' TO (S.map λ_=>.none)->BB S 0 h'->(∀b∈jb z TI TO S,s.heap.objs.size<=b)->
   (∀c o,s.heap.get? c=cb o->h'.get? c=cb o)->Q (.ref z) { s with heap:=h' }):
  eT (ft prog w) A (call (.type "zip") (args.map λp=>.ref p.2)) Q E s:=by
 have few:args.length<=3:=by lia
 have checks:Tv "zip" ⟨args.map λp=>.ref p.2,[]⟩=pure ()/\SJ "zip.__new__" ⟨.type "zip"::args.map λp=>.ref p.2,[]⟩=pure ()/\∀obj,argsOk "object.__init__" ⟨obj::args.map λp=>.ref p.2,[]⟩:=by
  match args,hn with
  |[a,b],_=>exact⟨F.typeCall_zip_2 _ _,F.newCall_zip_2 _ _,λobj=>F.args_object_init_3 obj _ _⟩
  |[a,b,c],_=>exact⟨kY _ _ _,nz _ _ _,λobj=>gj obj _ _ _⟩
 refine callType_new F.called_zip (by decide) checks.1 checks.2.1 checks.2.2 F.entry_zip_new (vk args few) ⟨hl,λh' hz hTI hTO st k=>?_⟩
 have em:(cL s.heap.objs.size args).map (λt=>(t.b,t.l))=args:=P7 λi=>by
  rw[Mw,fk];cases args[i]?<;>rfl
 have hlen:(cL s.heap.objs.size args).length=args.length:=by rw[<- em,Md,em]
 have hi:∀t∈cL s.heap.objs.size args,s.heap.objs.size<=t.i/\t.i<s.heap.objs.size+args.length:=λt ht=>by
  obtain⟨i,il,rfl⟩:=PL ht;have q:=fk (n:=s.heap.objs.size) (args:=args) (i:=i);rw[hlen]at il;simp[il,hlen]at q;rw[q];exact⟨NL _ _,Nat.add_lt_add_left il _⟩
 have hb:∀b∈jb (s.heap.objs.size+args.length+2) (s.heap.objs.size+args.length) (s.heap.objs.size+args.length+1) (cL s.heap.objs.size args),s.heap.objs.size<=b:=λb hb=>by
  simp only[jb,Mm,MS]at hb;rcases hb with e|e|e|⟨t,ht,e⟩
  .rw[e];exact ME (NL _ _) (NL _ _)
  .rw[e];exact NL _ _
  .rw[e];exact ME (NL _ _) (NL _ _)
  .rw[<- e];exact(hi t ht).1
 have D:ZOk (s.heap.objs.size+args.length+2) (s.heap.objs.size+args.length) (s.heap.objs.size+args.length+1) (cL s.heap.objs.size args):=by
  refine⟨?_,λt ht q=>?_,λe=>?_,by lia⟩
  .simp only[NG,Mm,MS,not_or,not_exists,not_and]
   refine⟨⟨(show (_:Nat)≠(_:Nat) by lia),(show (_:Nat)≠(_:Nat) by lia),λt ht e=>?_⟩,⟨(show (_:Nat)≠(_:Nat) by lia),λt ht e=>?_⟩,λt ht e=>?_,?_⟩
   all_goals try exact absurd (show (t.i:Nat)<s.heap.objs.size+args.length from (hi t ht).2) (by rw[e];first|exact MT _|exact Po.2 (NL _ _))
   refine NP.2 λi j il jl ij=>?_;have ei:=fk (n:=s.heap.objs.size) (args:=args) (i:=i);have ej:=fk (n:=s.heap.objs.size) (args:=args) (i:=j);simp only[Md,hlen]at il jl;simp[il,hlen]at ei;simp[jl,hlen]at ej;rw[Oo,Oo,ei,ej];exact(show (_:Nat)≠(_:Nat) by simp;lia)
  .have:(t.b,t.l)∈args:=em▸MJ (f:=λt:ZS=>(t.b,t.l)) ht
   obtain⟨xs,sq⟩:=hl _ this;have ge:=hb _ q;obtain⟨b,i,l⟩:=t;have lt:l<s.heap.objs.size:=by
    cases b with
    |true=>obtain⟨o,e,_⟩:=(show s.heap.IsList l xs from sq);exact Mj e
    |false=>obtain⟨o,e,_⟩:=(show s.heap.IsTuple l xs from sq);exact Mj e
   exact absurd lt (Po.2 ge)
  .rw[e]at hlen
   simp at hlen;lia
 show _/\_;refine⟨⟨_,hz,rfl⟩,h h' _ _ _ _ em D hz hTI ?_ st hb k⟩;rw[show ((cL s.heap.objs.size args).map λ_=>Na)=args.map λ_=>Na by rw[<- em,NX,em];rfl]
 exact hTO
end
def lY(K:Mp)(b:Bool)(H:Hp)(a:eC)(xs:List V):Prop:=if b=true then SqL K H a xs else iA K H a xs
section
variable{xs ys:List V}
theorem Inv.src(I:Inv X T0 Z H s)(h:lY X.K b H a xs):∃Ua:List cx,Vals xs Ua/\SrcSq b s.heap a Ua.toArray/\xs.length<=sizeLine:=by
 cases b with
 |true=>obtain⟨Ua,r,p,z⟩:=I.list (show SqL X.K H a xs from h);exact⟨Ua,r,p.isList,z⟩
 |false=>obtain⟨Ua,r,p,z⟩:=I.tuple (show iA X.K H a xs from h);exact⟨Ua,r,p,z⟩
theorem Inv.src_inj(I:Inv X T0 Z H s)(h:lY X.K b H a xs)(h':lY X.K b H a ys):xs=ys:=by
 cases b with
 |true=>exact I.list_inj (show SqL X.K H a xs from h) h'
 |false=>exact I.tuple_inj (show iA X.K H a xs from h) h'
theorem Inv.src_ne(I:Inv X T0 Z H s)(h:lY X.K b H a xs)(f:iC X T0 H it):a≠it:=by
 obtain⟨f0,f1,q,p,u,r⟩:=f;intro e;subst e;have c:∀o,X.K.lookup a=cb o->False:=λo g=>by
  have m:=I.ok.mod.kin a o g;rcases p with z|z
  .exact I.ok.noex a o m z
  .exact absurd (MF (Mj (I.ok.bs a o m).1) z) (MT _)
 cases b with
 |true=>
  rcases (show SqL X.K H a xs from h) with (z|⟨o,z⟩)|⟨o,_,_,g,_⟩
  .rw[f0]at z;cases z
  .rw[f0]at z;cases z
  .exact c o g
 |false=>
  rcases (show iA X.K H a xs from h) with (z|⟨o,z⟩)|⟨o,_,_,g,_⟩
  .rw[f0]at z;cases z
  .rw[f0]at z;cases z
  .exact c o g
end
theorem Inv.turned4{t':Nat}(I:Inv X T0 Z H s)(p:∀b∈fp,iC X T0 H b)(k:∀b o,b∉fp->s.heap.get? b=cb o->h'.get? b=cb o):Inv X T0 Z H { s with heap:=h',toks:=t' }:=by
 have g:∀b u,H b=cb u->b∉fp:=λb u e z=>by have:=(p b z).1;rw[e]at this;cases this
 refine I.step (g':=s.gens) (d':=s.drawn) (ch:=fp) (λb C=>?_) (λb o _ _ f e _=>k b o f e) (λb o _ _ f e _=>⟨o.slots,k b o f e⟩) (λ_ _ _ _ n=>n)
  (λb o f e=>⟨o,k b o f e⟩) (λ_ _ e=>e) (λ_ _ _ e=>e) (λb R e=>⟨#[],by rw[e];simp⟩) (λm J=>?_) (λb u e=>?_) I.bare
 .obtain⟨f0,f1,O,N,B,y⟩:=p b C
  exact⟨N,f1,B,y⟩
 .obtain⟨o,L,G,M,r⟩:=J
  exact⟨o,L,G,k _ o (λz=>(p _ z).2.1 rfl) M,r⟩
 .refine (I.hok b u e).stay (λc v f q=>k c v ?_ q) (λ_ q=>q) λ_ _ q=>q
  rcases f with z|z
  .rw[z];exact g b u e
  .exact g c _ z
theorem Inv.turnedNew{t':Nat}{zs:List V}{us:Ui}{y:Obj}(I:Inv X T0 Z H s)(L:∀b∈fp,iC X T0 H b)(k:∀b o,b∉fp->s.heap.get? b=cb o->h'.get? b=cb o)(hlt:∀b∈fp,∃o,s.heap.get? b=cb o)(hlv:∀b∈fp,∃o,h'.get? b=cb o)(hT:h'.get? s.heap.objs.size=cb y)(J:y.cls=.type "tuple")(M:∃n,y.data=.seq us.toArray n)(r:Vals zs us)(G:y.dict=ed)(hz:zs.length<=sizeLine):Inv X T0 Z (upd H s.heap.objs.size<|.tup zs) { s with heap:=h',toks:=t' }:=by
 have f:H s.heap.objs.size=none:=I.hok.fresh (Mn _);have p:∀b u,H b=cb u->b∉fp:=λb u e z=>by have:=(L b z).1;rw[e]at this;cases this
 refine I.step (g':=s.gens) (d':=s.drawn) (ch:=fp) (λb B=>?_) (λb o _ _ g e _=>k b o g e) (λb o _ _ g e _=>⟨o.slots,k b o g e⟩) (λb o _ e n=>by rw[aE (MB<|Mj e)];exact n)
  (λb o g e=>⟨o,k b o g e⟩) (λb C e=>by rw[aE (aS e f)];exact e) (λb o u e=>by rw[aE (aS e f)];exact e) (λb ps e=>⟨#[],by rw[aE (aS e f),e];simp⟩) (λm U=>?_) (λb u e=>?_) I.bare
 .obtain⟨f0,f1,f2,f3,R,N⟩:=L b B
  exact⟨f3,f1,R,N⟩
 .obtain⟨o,W,T,Y,r⟩:=U
  exact⟨o,W,T,k _ o (λz=>(L _ z).2.1 rfl) Y,r⟩
 .by_cases B:b=s.heap.objs.size
  .subst B
   rw[upd_same]at e;cases e;obtain⟨n,O⟩:=M;exact⟨hz,us,r,⟨y,hT,⟨J,n,O⟩,G⟩⟩
  .rw[aE B]at e
   refine (I.hok b u e).stay (λc v g q=>k c v ?_ q) (λc q=>by rw[aE (aS q f)];exact q) λc C q=>by rw[aE (aS q f)];exact q
   rcases g with z|z
   .rw[z];exact p b u e
   .exact p c _ z
noncomputable def tW(h:g4)(l:eC)(k:Nat):Option Value:=match h.get? l with
 |some o=>match o.data with
  |.seq xs _=>xs[k]?
  |_=>ed
 |_=>ed
theorem gM{xs:Ur}(q:SrcSq b h l xs)(k:Nat):xs[k]?=tW h l k:=by
 have:∃o n,h.get? l=cb o/\o.data=.seq xs n:=by
  cases b with
  |true=>obtain⟨o,e,c,n,d⟩:=(show h.IsList l xs from q);exact⟨o,n,e,d⟩
  |false=>obtain⟨o,e,c,n,d⟩:=(show h.IsTuple l xs from q);exact⟨o,n,e,d⟩
 obtain⟨o,n,e,d⟩:=this;simp[tW,e,d]
noncomputable def KW(K:Mp)(L:List (Bool×eC)):It:=
 ⟨λi H=>∀p∈L,∃xs x,lY K p.1 H p.2 xs/\xs[i]?=cb x,
  λi H v H'=>∃T zs,H T=ed/\v=.ref T/\H'=upd H T (.tup zs)/\zs.length=L.length/\∀(j:Nat)(p:Bool×eC),L[j]?=cb p->∀xs,lY K p.1 H p.2 xs->xs[i]?=zs[j]?,
  λi H=>(∀p∈L,∃xs,lY K p.1 H p.2 xs)/\∃p∈L,∃xs,lY K p.1 H p.2 xs/\xs.length<=i⟩
structure ZTn(z TI TO:eC)(S:List ZS)(i:Nat)(h:g4):Prop where
 hz:Te h z TI TO .none
 hTI:gx h TI (S.map λt=>.ref t.i)
 hTO:∃vs:List cx,vs.length=S.length/\gx h TO vs
 st:BB S i h
theorem ZTn.obj{TI TO:eC}(q:ZTn z TI TO S i h):∀b∈jb z TI TO S,∃o,h.get? b=cb o/\∀v,o.data≠.cell v:=λb c=>by
 obtain⟨f,_,e⟩:=q.hTO;simp only[jb,Mm,MS]at c;rcases c with rfl|rfl|rfl|⟨t,ht,rfl⟩
 .exact⟨_,q.hz,λv q=>nomatch q⟩
 .exact⟨_,q.hTI,λv q=>nomatch q⟩
 .exact⟨_,e,λv q=>nomatch q⟩
 .exact(q.st t ht).lt
theorem ZTn.keep{TI TO:eC}(q:ZTn z TI TO S i h)(k:∀b∈jb z TI TO S,∀o,h.get? b=cb o->h'.get? b=cb o):ZTn z TI TO S i h':=by
 obtain⟨f,l,e⟩:=q.hTO;exact⟨k z (by simp) _ q.hz,k TI (by simp) _ q.hTI,⟨f,l,k TO (by simp) _ e⟩,λt c=>(q.st t c).keep λo e=>k t.i (by simp[MJ c]) o e⟩
theorem so{X:Cx}{T0:Uo}{Z:St}{H:Hp}{s:ee}{i:Nat}(I:Inv X T0 Z H s):∀(S:List ZS)(us:Ui),us.map cb=S.map (λt=>tW s.heap t.l i)->(∀t∈S,∃xs x,lY X.K t.b H t.l xs/\xs[i]?=cb x)->
  ∃zs,Vals zs us/\zs.length=S.length/\∀(j:Nat)(p:Bool×eC),(S.map λt=>(t.b,t.l))[j]?=cb p->∀xs,lY X.K p.1 H p.2 xs->xs[i]?=zs[j]?
 |[],[],_,_=>⟨[],.nil,rfl,λj p e=>by simp at e⟩
 |[],_::_,e,_=>by simp at e
 |_::_,[],e,_=>by simp at e
 |t::S,u::us,e,h=>by
  simp only[Mo,My]at e;obtain⟨zs,r,l,g⟩:=so I S us e.2 λt' B=>h t' (.tail _ B);obtain⟨xs,x,q,m⟩:=h t (.head _);obtain⟨y,L,sq,z⟩:=I.src q;obtain⟨o,C,J⟩:=L.get m;have v:cb u=cb o:=by rw[e.1,<- gM sq i];simpa using C
  cases v;refine⟨x::zs,.cons J r,by simp[l],λj p c G f=>?_⟩
  cases j with
  |zero=>
   simp only[Mo,dt,Pz]at c;subst c;rw[I.src_inj f q];simpa using m
  |succ j=>exact g j p (by simpa using c) G f
theorem iO{c:Type}{f:c->eC}:∀{L:List c}{us:Ui},Vals (L.map λp=>.ref (f p)) us->us=L.map λp=>.ref (f p)
 |[],_,.nil=>rfl
 |p::L,_,.cons r t=>by
  cases r;rw[Mo,iO t]
theorem ya{TI TO:eC}(D:ZOk z TI TO S):
  Turn P w K (.Tuple elts x1 tp) (KW K (S.map λt=>(t.b,t.l))) (jb z TI TO S) z (ZTn z TI TO S) where
 mem:=.head _
 obj:=λi h st=>st.obj
 keep:=λi h h' st k=>st.keep k
 item:=by
  intro X hP hw hK hc i T0 s Z H E I hf st hg;subst hP hw hK
  replace hg:∀t∈S,∃xs x,lY X.K t.b H t.l xs/\xs[i]?=cb x:=λt ht=>hg _ (MJ (f:=λt:ZS=>(t.b,t.l)) ht)
  have fits:∀t∈S,∃Ua x,SrcSq t.b s.heap t.l Ua/\Ua[i]?=cb x:=λt ht=>by
   obtain⟨xs,x,q,hx⟩:=hg t ht;obtain⟨Ua,rv,sq,_⟩:=I.src q;obtain⟨u,hu,_⟩:=rv.get hx;exact⟨_,u,sq,by simpa using hu⟩
  refine jA (F:=λt=>tW s.heap t.l i) (I.ok.hd hc) D st.hz (.inl ⟨rfl,rfl,st.hTO⟩) st.hTI st.st (λt ht=>?_) (λh' us eus hzz a3 a4 hk=>?_) λh' ⟨t,ht,eo⟩ _=>?_
  .obtain⟨Ua,x,sq,_⟩:=fits t ht
   exact⟨Ua,sq,gM sq i⟩
  .obtain⟨_,a1,a2⟩|⟨n,_⟩:=hzz
   case inr=>exact absurd rfl n
   refine⟨_,rfl,wpAny_letOwnedTupleGo_zip a1 λh'' hz'' hs''=>?_⟩;obtain⟨zs,rz,lz,gz⟩:=so I S us eus hg;have zl:z<s.heap.objs.size:=Mj st.hz;have kk:∀b o,b∉jb z TI TO S->s.heap.get? b=cb o->h''.get? b=cb o:=λb o hb e=>by
    simp only[jb,Mm,not_or]at hb;exact hs''.extBut b o hb.1 (hk b o (by simp only[Mm,not_or];exact⟨hb.1,hb.2.2.1,hb.2.2.2⟩) e)
   obtain⟨zTI,zTO,TITO,ni⟩:=lG D;have hT:h''.get? s.heap.objs.size=cb { cls:=.type "tuple",data:=.seq us.toArray }:=hs''.extBut _ _ (NY zl) a4;have st':ZTn z TI TO S (i+1) h'':=by
    refine⟨hz'',hs''.extBut _ _ zTI.symm (hk _ _ ?_ st.hTI),⟨us,?_,hs''.extBut _ _ zTO.symm a2⟩,λt ht=>(a3 t ht).keep λo e=>hs''.extBut _ o (ni t ht).1 e⟩
    .simp only[Mm,MS,not_or,not_exists,not_and]
     exact⟨zTI.symm,TITO,λt ht=>(ni t ht).2.1⟩
    .have:=congrArg MN eus
     simpa using this
   refine⟨.ref s.heap.objs.size,_,I.turnedNew (s:=s) (h':=h'') (t':=s.toks) (zs:=zs) (us:=us) hf kk (λb hb=>let ⟨o,e,_⟩:=st.obj b hb;⟨o,e⟩) (λb hb=>let ⟨o,e,_⟩:=st'.obj b hb;⟨o,e⟩) hT rfl ⟨_,rfl⟩ rz rfl (by rw[lz];exact ME D.few (by decide)),rfl,⟨_,zs,I.hok.fresh (Mn _),rfl,rfl,by rw[lz,Md],gz⟩,st',λb hb=>?_⟩
   obtain⟨o,e,_⟩:=st.obj b hb;rw[aE (MB<|Mj e)];exact(hf b hb).1
  .obtain⟨Ua,x,sq,hx⟩:=fits t ht
   rw[gM sq i]at hx;rw[hx]at eo;cases eo
 done:=by
  intro X hP hw hK hc i T0 s Z H E I hf st hg;subst hP hw hK;refine jA (F:=λt=>tW s.heap t.l i) (I.ok.hd hc) D st.hz (.inl ⟨rfl,rfl,st.hTO⟩) st.hTI st.st (λt ht=>?_) (λh' us eus _ a3 a4 hk=>?_) λh' _ hk=>⟨rfl,I.turned4 (t':=s.toks) hf λb o hb e=>hk b o (λx=>hb ?_) e⟩
  .obtain⟨xs,q⟩:=hg.1 _ (MJ (f:=λt:ZS=>(t.b,t.l)) ht)
   obtain⟨Ua,rv,sq,_⟩:=I.src q;exact⟨_,sq,gM sq i⟩
  .obtain⟨p,hp,xs,q,hle⟩:=hg.2
   obtain⟨t,ht,rfl⟩:=MS.1 hp;obtain⟨Ua,rv,sq,_⟩:=I.src q;have e:=gM sq i;have hl:=rv.length;have:tW s.heap t.l i∈us.map some:=by rw[eus];exact MJ (f:=λt:ZS=>tW s.heap t.l i) ht
   rw[<- e,Rg,NN (by lia)]at this
   simp at this
  .simp only[jb,Mm]at x ⊢
   rcases x with x|x|x
   .exact .inl x
   .exact .inr (.inr<|.inl x)
   .exact .inr (.inr<|.inr x)
 self:=λ_ _ _ _ _ st h=>S6 st.hz h
section
noncomputable def JU(K:Mp)(t:TA):TI:=λZ H R=>t Z H λc H1=>∃L:List (Bool×eC),(L.length=2\/L.length=3)/\c=L.map (λp=>.ref p.2)/\(∀p∈L,∃xs,lY K p.1 H1 p.2 xs)/\R (KW K L) H1
theorem CL{a:g1}{e:Uk}{r:TA}{p:Pos}(U:Gl X "zip")(T:X.mg "zip"=ed)(W:PA X (a::e) r)(O:fe (a::e) X.env=(eH,g3 a X.env)::fe e X.env:=by rfl)(hs2:(PySem.backTo pos<|starEach e X.env).any (·.1)=false:=by rfl):
  PI X (.Tuple elts x1 tp) (.Call (.Name "zip" p) (a::e) [] pos) (JU X.K r):=by
 intro T0 s Z H R I h;refine Call_ (dN I U T (by decide +kernel:fy "zip"=cb (.type "zip"))<|Ng (bC (W pos T0 s Z H _ I h) λus o ⟨vs,H1,I1,N,J⟩=>?_) O hs2)
 obtain⟨L,y,rfl,M,q⟩:=J;cases iO N;refine oB y (λp u=>?_) λh' z TI TO S B D m f g C hb v=>?_
 .obtain⟨Y,q⟩:=M p u
  obtain⟨G,_,sq,_⟩:=I1.src q;exact⟨_,sq⟩
 .refine S6 (s:={ o with heap:=h' }) m ?_
  subst B;exact⟨z,jb z TI TO S,_,_,H1,rfl,I1.kept (t':=o.toks) v,ya D,⟨m,f,⟨_,by rw[Md],g⟩,C⟩,λb c=>I1.fpOk (H':=H1) (hb b c) (I1.hok.fresh<|hb b c),q⟩
noncomputable def Ite(K:Mp)(b:Bool)(l:eC):It:=
 ⟨λi H=>∃xs x,lY K b H l xs/\xs[i]?=cb x,
  λi H v H'=>∃T x,H T=ed/\v=.ref T/\H'=upd H T (.tup [.int i,x])/\(∀xs,lY K b H l xs->xs[i]?=cb x),
  λi H=>∃xs,lY K b H l xs/\xs.length<=i⟩
end
section
theorem Draws.src(y:A.handled=ed)(b:Bool)(it l:eC)(m:l≠it)(items:Ur):
  Draws prog w A it [it,l] items.size (λi v=>items[i]?=cb v) (λi h=>SrcTn b it l i h/\SrcSq b h l items) where
 live:=λ_ _ c=>let ⟨o,ho,_⟩:=c.1.lt;⟨o,ho⟩
 frame:=λ_ _ _ c q=>⟨c.1.keep λo e=>q it (by simp) o e,c.2.keep λo e=>q l (by simp) o e⟩
 item:=λi s Q E p c u=>by
  refine eW c.1 c.2 (x:=items[i]) (by simp[p]) λh' g f=>?_
  exact u _ h' s.toks (by simp[p]) ⟨g,c.2.keep λo e=>f.extBut _ o m e⟩ f
 done:=λs Q E c r=>db y c.1 c.2 (by simp) r
theorem vf(b:Bool)(l:eC)(items:Ur):
  TC (Builtin.«enumerate.__new__» ⟨[.type "enumerate",.ref l],[]⟩) (λ_ R s=>SrcSq b s.heap l items/\
   R (.ok<|.ret<|.ref (s.heap.push { cls:=.type (gy b),data:=.fields #[.ref l,.int 0 0] }).objs.size)
    { s with heap:=(s.heap.push { cls:=.type (gy b),data:=.fields #[.ref l,.int 0 0] }).push { cls:=.type "enumerate",data:=.fields #[.none,.bool eH,.ref s.heap.objs.size,Pv 0,.none,.none] } }):=
 .of_wp λprog w A R s h=>by
  obtain⟨p,g,d,m,q⟩:=s;obtain⟨o,h⟩:=h;have f:=sub_enumerate;have e:SrcSq b (Shared.heap ⟨p,g,d,m,q⟩) l items:=o
  wp_walk
  refine wpAny_stack_any λr=>eP ?_
  split
  .rename_i c _ _ _ _ _
   cases (c==Nw "enumerate")
   .wp_walk using eL e
    exact⟨_,rfl,h⟩
   .wp_walk using eL e
    exact⟨_,rfl,h⟩
  .wp_walk using eL e
   exact⟨_,rfl,h⟩
theorem x_(f:SrcSq b s.heap l items)(h:∀h',IsEnum h' (s.heap.objs.size+1) s.heap.objs.size 0 .none->SrcTn b s.heap.objs.size l 0 h'->h'.objs.size=s.heap.objs.size+2->
   (∀b o,s.heap.get? b=cb o->h'.get? b=cb o)->Q (.ref (s.heap.objs.size+1)) { s with heap:=h' }):
  eT (ft prog w) A (call (.type "enumerate") [.ref l]) Q E s:=by
 refine callType_new F.called_enumerate (by decide) (F.typeCall_enumerate_1 _) (F.newCall_enumerate_1 _) (λobj=>F.args_object_init_2 obj _) F.entry_enumerate_new (vf b l items) ⟨f,?_⟩
 have c:(s.heap.push { cls:=.type (gy b),data:=.fields #[.ref l,.int 0 0] }).objs.size=s.heap.objs.size+1:=Nq ..;show _/\_;rw[c]
 have e:IsEnum ((s.heap.push { cls:=.type (gy b),data:=.fields #[.ref l,.int 0 0] }).push
   { cls:=.type "enumerate",data:=.fields #[.none,.bool eH,.ref s.heap.objs.size,Pv 0,.none,.none] }) (s.heap.objs.size+1) s.heap.objs.size 0 .none:=by
  have:=Mt (s.heap.push { cls:=.type (gy b),data:=.fields #[.ref l,.int 0 0] })
   (o:={ cls:=.type "enumerate",data:=.fields #[.none,.bool eH,.ref s.heap.objs.size,Pv 0,.none,.none] }) rfl
  rw[c]at this;exact this
 refine⟨⟨_,e,rfl⟩,h _ e (vD<|Me _<|Mt _ rfl) (by rw[Nq,c]) λb o x=>Me _ (Me _ x)⟩
end
theorem yG(b:Bool)(l e it:eC)(O:e≠it):
  Turn P w K (.Tuple elts x1 tp) (Ite K b l) [e,it] e (λi h=>(∃p,IsEnum h e it i p)/\SrcTn b it l i h) where
 mem:=by simp
 obj:=λi h G c f=>by
  obtain⟨⟨p,y⟩,L⟩:=G;have g:c=e\/c=it:=by simpa using f
  rcases g with q|q<;>subst q
  .exact⟨_,y,λv z=>nomatch z⟩
  .exact L.lt
 keep:=λi h h' G k=>by
  obtain⟨⟨p,y⟩,L⟩:=G;exact⟨⟨p,k e (by simp) _ y⟩,L.keep λo q=>k it (by simp) o q⟩
 item:=by
  intro X hP hw hK f i T0 s Z H E I N G hg;subst hP hw hK;obtain⟨xs,x,M,hx⟩:=hg;obtain⟨⟨p,y⟩,L⟩:=G;obtain⟨m,r,sq,z1⟩:=I.src M;obtain⟨u,hu,ru⟩:=r.get hx;have hle:l≠e:=I.src_ne M (N e<|by simp)
  have R:l≠it:=I.src_ne M (N it<|by simp)
  have hil:i<m.toArray.size:=by
   rw[Ml,<- r.length];exact(MU.mp hx).1
  have D:Draws X.prog X.w X.A.in1 it [it,l] m.toArray.size (λi v=>m.toArray[i]?=cb v) (λi h=>SrcTn b it l i h/\SrcSq b h l m.toArray):=Draws.src (A:=X.A.in1) (I.ok.hd f) b it l R m.toArray;refine wpAny_pyNext_enum_itemD D y ⟨L,sq⟩ hil O (by simp[O,ML hle]) λv h' Y hv ho hs' W hsz hk=>?_
  have ev:v=u:=by
   have hu':m.toArray[i]?=cb u:=by simpa using hu
   rw[hu']at hv;exact(MQ hv).symm
  subst ev;refine⟨_,rfl,wpAny_letOwnedTupleGo_enum ho λC J B=>?_⟩;have hes:e≠s.heap.objs.size:=MB (Mj y);have n1:SrcTn b it l (i+1) C:=hs'.1.keep λo q=>B.extBut _ o O.symm q;have kk:∀c o,c∉[e,it]->s.heap.get? c=cb o->C.get? c=cb o:=λc o f q=>
   B.extBut c o (λz=>f (by simp[z])) (hk c o (λz=>f (by simp[z])) (λz=>f (by simp[z])) q)
  have hT':C.get? s.heap.objs.size=cb { cls:=.type "tuple",data:=.seq #[.int i Y,v] }:=B.extBut _ _ hes.symm W;have lv:∀c∈[e,it],∃o,s.heap.get? c=cb o:=λc f=>by
   have g:c=e\/c=it:=by simpa using f
   rcases g with q|q<;>subst q
   .exact⟨_,y⟩
   .obtain⟨o,q,_⟩:=L.lt;exact⟨o,q⟩
  have lv':∀c∈[e,it],∃o,C.get? c=cb o:=λc f=>by
   have g:c=e\/c=it:=by simpa using f
   rcases g with q|q<;>subst q
   .exact⟨_,J⟩
   .obtain⟨o,q,_⟩:=n1.lt;exact⟨o,q⟩
  have hTn:H s.heap.objs.size=none:=I.hok.fresh (Mn _);refine⟨.ref s.heap.objs.size,_,I.turnedNew (s:=s) (h':=C) (t':=Y+1) (zs:=[.int i,x]) (us:=[.int i Y,v]) N kk lv lv' hT' rfl ⟨_,rfl⟩ (.cons ⟨Y,rfl⟩<|.cons ru .nil) rfl (by show 2<=sizeLine;decide),rfl,⟨_,x,hTn,rfl,rfl,λzs U=>?_⟩,⟨⟨v,by simpa using J⟩,n1⟩,λc f=>?_⟩
  .rw[I.src_inj U M];exact hx
  .obtain⟨o,q⟩:=lv c f
   rw[aE (MB<|Mj q)];exact(N c f).1
 done:=by
  intro X hP hw hK f i T0 s Z H E I N G hg;subst hP hw hK;obtain⟨xs,M,hx⟩:=hg;obtain⟨⟨p,y⟩,L⟩:=G;obtain⟨m,r,sq,z1⟩:=I.src M;have R:l≠it:=I.src_ne M (N it<|by simp)
  have W:s.TypeIs (.ref e) "enumerate":=⟨_,y,rfl⟩;have hl:=r.length;unfold SA
  refine cT (wpAny_attempt (wpAny_callSpecial?_slot (name:=Mq "__next__") W RC
   (Op RC W F.entry_enumerate_next ?_<|F.args_enumerate_next_1 _)))
  show eT _ _ (TW (.ref e) 2 >>= _) _ _ _;refine cT (pt y rfl (x:=.ref it) rfl ?_);refine cT (db (I.ok.hd f) L sq (by simp;lia) λh' x he' hx'=>?_)
  obtain⟨o,ho,hcl⟩:=hx';refine cT (S7 (T:="StopIteration") (b:=true) ⟨o,ho,hcl⟩ isSubtype_stop ?_);exact eP ⟨rfl,I.turned4 (t':=s.toks) N λc o' g q=>he' c o' (λz=>g (by simp[z])) q⟩
 self:=λ_ _ _ _ _ G h=>let ⟨⟨_,y⟩,_⟩:=G;wpAny_pyIter_enum y h
section
theorem qW:bL X (.builtin "isinstance") (λxs H Q=>∃x T t b,xs=[x,.ty T]/\TyOf X.K H x t/\W.kitOne X.K t (.type T)=cb b/\Q (.bl b) H):=by
 intro T0 s Z H xs o Q I r h;obtain⟨x,T,t,b,rfl,ty,e,q⟩:=h;obtain⟨u,c,rfl,m,g⟩:=r.two;obtain rfl:c=Nw T:=g;exact yd I m ty e λf=>⟨.bl b,H,I.tok f,rfl,q⟩
theorem zb(hc:X.calm=true):bL X (.builtin "all") (λxs H Q=>∃(l:eC)(bs:List Bool),xs=[.ref l]/\SqL X.K H l (bs.map V.bl)/\Q (.bl<|bs.all id) H):=by
 intro T0 s Z H xs us Q I r h;obtain⟨l,bs,rfl,hq,q⟩:=h;obtain⟨u,rfl,ru⟩:=r.one;cases ru;obtain⟨f,T,p,hz⟩:=I.list hq;have R:=T.length;have J:l<s.heap.objs.size:=by obtain⟨o,e,_⟩:=p.isList;exact Mj e
 have O:l≠s.heap.objs.size:=MB J;have val:∀(i:Nat)(v:cx),f.toArray[i]?=cb v->∃c,bs[i]?=cb c/\v=.bool c:=λi v L=>by
  have B:f[i]?=cb v:=by simpa using L
  have g:i<bs.length:=by
   have:=(MU.mp B).1;rw[Md]at R;lia
  obtain⟨w',G,h2⟩:=T.get (i:=i) (x:=.bl bs[i]) (by rw[Mw,Mi g];rfl)
  rw[B]at G;cases G;exact⟨bs[i],Mi g,h2⟩
 have N:f.toArray.size=bs.length:=by rw[Ml,<- R,Md]
 refine call_all_walk (SE p.isList ⟨s.heap.objs.size,_,_,_,_,_,λi=>bs.getD i eH,rfl,Walks.list (A:=X.A.in1) (I.ok.hd hc) s.heap.objs.size l O f.toArray,⟨⟨_,Mt _ rfl,rfl,rfl⟩,p.isList.push _⟩,λi v U Q' E' L M=>?_,λh' tk W=>?_⟩)
 .obtain⟨c,G,rfl⟩:=val i v L
  refine nT ?_;have Y:bs.getD i eH=c:=by rw[NM,G];rfl
  have m:Q' (bs.getD i eH) U:=M;rw[Y]at m;exact m
 .have e:(Ol f.toArray.size).all (λi=>bs.getD i eH)=bs.all id:=by
   rw[N,Bool.eq_iff_iff,Qj,Qj];constructor
   .intro h b C
    obtain⟨i,g,rfl⟩:=List.mem_iff_getElem.mp C;have:=h i (OV.mpr g)
    rwa [NM,Mi g]at this
   .intro h i g
    have y:=OV.mp g;rw[NM,Mi y];exact h _ (OG y)
  rw[e];refine⟨.bl (bs.all id),H,?_,rfl,q⟩;exact I.kept (t':=tk) λb o C=>W b o (by simp;exact MB (Mj C)) (Me _ C)
end
theorem eB:entryFor table "zip.__getattribute__"=cb Builtin.«object.__getattribute__»:=
 entryFor_alias (id':="object.__getattribute__") (by kernel_rfl) (by decide +kernel) (by decide +kernel) (by kernel_rfl)
theorem iR:Sy (.type "zip") "__getattr__"=pure none:=by rw[Ps,sx];kernel_rfl
theorem sF:Sy (.type "zip") "keys"=pure none:=by rw[Ps,sx];kernel_rfl
theorem dE:entryFor table "dict.update.loop"=cb Builtin.«dict.update.loop»:=entryFor_of_fast (by kernel_rfl)
theorem bS:plainId "dict.update.loop"=true:=by decide +kernel
theorem me(a TI TO:eC)(f0:cx)(f1:Bool)(name:Str)(u:Tok)(f:Sy (.type "zip") name=pure ed)(c:(["__module__","__name__","__qualname__","__doc__","__annotations__"]:Uh).contains name=eH)(hsz:name.length+100<=sizeLine:=by size_fits):
  TC (Builtin.«object.__getattribute__» ⟨[.ref a,.str name u],[]⟩) (λA R s=>rF s.heap a TI TO f0 f1/\raisesAttr (.ref a) name A R s):=
 Meets.of_wp λprog w A R s e=>by
  obtain⟨o,g,d,m,q⟩:=s;obtain⟨p,e⟩:=e;have r:(⟨o,g,d,m,q⟩:ee).TypeIs (.ref a) "zip":=⟨_,p,rfl⟩;unfold Builtin.«object.__getattribute__»
  repeat (any_goals (first|assumption|wp_step))
  simp only[c,Mr,if_false]
  repeat (any_goals (first|assumption|wp_step))
  exact wpAny_raiseAttrError e.1 e.2 (attrMsg_fits (by decide +kernel) hsz)
section
theorem nA{TI TO:eC}{Q:Option cx->ee->Prop}(q:rF s.heap a TI TO f0 f1)(y:A.handled=ed)(h:∀h' p,(∀b o,s.heap.get? b=cb o->h'.get? b=cb o)->Q ed { s with heap:=h',toks:=p }):eT (ft prog w) A (S4 (.ref a) "keys") Q E s:=by
 obtain⟨u,g,d,p,v⟩:=s;have m:∀f,(⟨u,g,d,f,v⟩:ee).TypeIs (.ref a) "zip":=λ_=>⟨_,q,rfl⟩;have r:=sub_AttributeError;have J:=Pn.lookup;have G:=Pn.bind (.ref a);have C:=iR;unfold S4 getAttrBy? getAttrBy
 repeat (any_goals (first|assumption|exact m _|((with_reducible show eT _ _ (call (Value.builtin "zip.__getattribute__") _ _) _ _ _);refine oo Pn (m _) eB (F.args_zip_getattribute_2 _ _) (me a TI TO f0 f1 "keys" _ sF (by decide +kernel)<|by decide +kernel) ⟨q,y,λh' f e c=>?_⟩)|wp_step))
 obtain⟨t',B,I⟩:=c.there;show eT _ _ (SB _ _ _ _ _ _ _) _ _ _;unfold SB
 repeat (any_goals (first|assumption|wp_step))
 exact h _ _ c.keeps
end
def ud(h:g4)(T:eC)(k v:cx):Prop:=∃o n,h.get? T=cb o/\o.cls=.type "tuple"/\o.data=.seq #[k,v] n
structure PSrc(prog:gg)(w:g5)(d it:eC)(ps:List (cx×cx))(fp:Uj)(St:Nat->g4->Prop):Prop where
 off:d∉fp
 stay:∀i h h',St i h->(∀b o,b≠d->h.get? b=cb o->h'.get? b=cb o)->St i h'
 item:∀(A:hB)(i:Nat)(hi:i<ps.length)(s:ee)(Q:Option cx->ee->Prop)(E:Um),A.handled=ed->d<s.heap.objs.size->St i s.heap->
  (∀h' T,St (i+1) h'->ud h' T ps[i].1 ps[i].2->(∀c o,c∉fp->s.heap.get? c=cb o->h'.get? c=cb o)->Q (cb<|.ref T) { s with heap:=h' })->eT (ft prog w) A (SA<|.ref it) Q E s
 done:∀(A:hB)(s:ee)(Q:Option cx->ee->Prop)(E:Um),A.handled=ed->St ps.length s.heap->(∀h',(∀c o,c∉fp->s.heap.get? c=cb o->h'.get? c=cb o)->Q ed { s with heap:=h' })->eT (ft prog w) A (SA<|.ref it) Q E s
theorem uc{R:Tc->ee->Prop}{d:eC}{ps:List (cx×cx)}{St:Nat->g4->Prop}(U:A.handled=ed)(C:PSrc prog w d it ps fp St)(P:Nat->g4->Prop)(Pd:∀i h,P i h->∃o,h.get? d=cb o)(stay:∀i h h',P i h->(∀b o,b∉fp->h.get? b=cb o->h'.get? b=cb o)->P i h')(step:∀(i:Nat)(W:i<ps.length)(s:ee)(Q:Unit->ee->Prop)(E:Um),P i s.heap->(∀h' r,P (i+1) h'->Nr d s.heap h'->Q () { s with heap:=h',toks:=r })->eT (ft prog w) A.in1 (dictSet d ps[i].1 ps[i].2) Q E s):
  ∀(n i:Nat)(s:ee),n=ps.length-i->i<=ps.length->St i s.heap->P i s.heap->
   (∀f:ee,f.os=s.os->f.gens=s.gens->f.drawn=s.drawn->P ps.length f.heap->(∀c o,c∉fp->c≠d->s.heap.get? c=cb o->f.heap.get? c=cb o)->R (.ok<|.ret .none) f)->
   ∀r:Nat,t0 (ft prog w) A (.builtin "dict.update.loop" ⟨[.ref d,.ref it,Pv r,.none],[]⟩) R s:=by
 intro n
 induction n with
 |zero=>
  intro i s hn W p B hR r;have J:i=ps.length:=by lia
  subst J;refine vr dE ?_;rw[Oi bS _];show eT _ A.in1 (SA (.ref it) >>= _) _ _ s;refine cT (C.done A.in1 s _ _ U p λh' v=>?_);exact cT (m:=Builtin.Dict.addKeywords d []) (eP<|wpAny_pure (hR _ rfl rfl rfl (stay _ _ _ B v) λc o y N e=>v c o y e))
 |succ n ih=>
  intro i s hn W p B hR r;have q:i<ps.length:=by lia
  obtain⟨od,hd⟩:=Pd _ _ B;refine vr dE ?_;rw[Oi bS _];show eT _ A.in1 (SA (.ref it) >>= _) _ _ s;refine cT (C.item A.in1 i q s _ _ U (Mj hd) p λh' T u ⟨oT,m,O,e2,e3⟩ k1=>?_);have L:({ s with heap:=h' }:ee).TypeIs (.ref T) "tuple":=⟨_,O,e2⟩;refine cT (k6<|wpAny_bind<|wpAny_tryCatch ?_);unfold Builtin.Dict.pairItems;refine cT (PP L ?_);rw[if_pos (by decide)]
  refine cT (tL (s:={ s with heap:=h' }) O e3<|wpAny_pure ?_);show eT _ _ (No [ps[i].1,ps[i].2]<|dictSet d ps[i].1 ps[i].2) _ _ _;refine k6 (step i q { s with heap:=h' } _ _ (stay i _ _ B k1) λM I G g=>eP ⟨SI bS _,?_⟩);exact ih (i+1) { s with heap:=M,toks:=I } (by lia) q (C.stay _ _ _ u λb o Y e=>g.extBut b o Y e) G (λf q1 q2 q3 q4 q5=>hR f q1 q2 q3 q4 λc o y N e=>q5 c o y N (g.extBut c o N<|k1 c o y e)) (r+1)
namespace F
theorem mro_dict:mroOf (.type "dict")=pure [.type "dict",.type "object"]:=by rw[mroOf_type];kernel_rfl
theorem jk:Sy (.type "dict") "__new__"=pure (cb<|.builtin "dict.__new__"):=by rw[Ps,sx];kernel_rfl
theorem called_dict:TypeCalled "dict" "dict.__new__" "dict.__init__":=
 ⟨by decide +kernel,by decide +kernel,⟨_,_,mro_dict⟩,madeBy_type mro_dict jk (by decide +kernel),by decide +kernel,by rw[Ti];kernel_rfl,PySem.F.slot_dict_init⟩
theorem typeCall_dict_1(a:cx):Tv "dict" ⟨[a],[]⟩=pure ():=by kernel_rfl
theorem newCall_dict_1(a:cx):SJ "dict.__new__" ⟨[.type "dict",a],[]⟩=pure ():=by kernel_rfl
theorem entry_dict_new:entryFor table "dict.__new__"=cb Builtin.«dict.__new__»:=entryFor_of_tree (by kernel_rfl)
theorem plain_dict_new:plainId "dict.__new__"=true:=by decide +kernel
theorem sub_dict:isSubtype (.type "dict") (.type "dict")=pure true:=by rw[Ti];kernel_rfl
end F
section
theorem nr(a:cx){Q₁:Um}(h:Q₁ (.ref s.heap.objs.size) { s with heap:=s.heap.push { cls:=.type "dict",data:=.dict #[] } }):
  t0 (ft prog w) A (.call (.builtin "dict.__new__") ⟨[.type "dict",a],[]⟩) (wants Q₁ E) s:=by
 refine TX F.plain_dict_new F.entry_dict_new (Td (F.newCall_dict_1 a) ?_);have c:=F.sub_dict;have e:=F.mro_dict;obtain⟨m,g,d,f,o⟩:=s;unfold Builtin.«dict.__new__»
 wp_walk
 exact h
theorem mR{T:String}{ps:List (cx×cx)}{fq:Uj}(G:A.handled=ed)(P:Nat->g4->Prop)(hT:∃o,s.heap.get? l=cb o/\o.cls=.type T)(ht:(Nw T != Nw "dict")=true)(keys:∀(A':hB)(s':ee)(Q:Option cx->ee->Prop)(E:Um),A'.handled=ed->(∀b o,s.heap.get? b=cb o->s'.heap.get? b=cb o)->(∀h' y,(∀b o,s'.heap.get? b=cb o->h'.get? b=cb o)->Q ed { s' with heap:=h',toks:=y })->eT (ft prog w) A' (S4 (.ref l) "keys") Q E s')(iter:∀(A':hB)(s':ee)(Q:Um)(E:Um),(∀b o,s.heap.get? b=cb o->s'.heap.get? b=cb o)->s.heap.objs.size<s'.heap.objs.size->
   (∀h' it fp St,(∀b o,s'.heap.get? b=cb o->h'.get? b=cb o)->PSrc prog w s.heap.objs.size it ps fp St->St 0 h'->(∀b∈fp,b∈fq\/s.heap.objs.size<b)->Q (.ref it) { s' with heap:=h' })->eT (ft prog w) A' (S9<|.ref l) Q E s')(Pd:∀i h,P i h->∃o,h.get? s.heap.objs.size=cb o)(h0:∀h',(∀b o,s.heap.get? b=cb o->h'.get? b=cb o)->h'.get? s.heap.objs.size=cb { cls:=.type "dict",data:=.dict #[] }->P 0 h')(stay:∀i h h',P i h->(∀b o,b∉fq->b<=s.heap.objs.size->h.get? b=cb o->h'.get? b=cb o)->P i h')(step:∀(i:Nat)(hi:i<ps.length)(s':ee)(Q:Unit->ee->Prop)(E:Um),P i s'.heap->(∀h' y,P (i+1) h'->Nr s.heap.objs.size s'.heap h'->Q () { s' with heap:=h',toks:=y })->eT (ft prog w) A.in1.in1 (dictSet s.heap.objs.size ps[i].1 ps[i].2) Q E s')(h:∀s':ee,s'.os=s.os->s'.gens=s.gens->s'.drawn=s.drawn->P ps.length s'.heap->(∀c o,c∉fq->s.heap.get? c=cb o->s'.heap.get? c=cb o)->Q (.ref s.heap.objs.size) s'):
  eT (ft prog w) A (call (.type "dict") [.ref l]) Q E s:=by
 refine callType_codes (Q₁:=λobj g=>obj=.ref s.heap.objs.size/\g={ s with heap:=s.heap.push { cls:=.type "dict",data:=.dict #[] } }) F.called_dict (F.typeCall_dict_1 _) PySem.F.entry_dict_init (nr _ ⟨rfl,rfl⟩) ?_
 rintro obj g ⟨rfl,rfl⟩
 have up:∀c o,s.heap.get? c=cb o->(s.heap.push { cls:=.type "dict",data:=.dict #[] }).get? c=cb o:=λc o e=>Me _ e;have f:(s.heap.push { cls:=.type "dict",data:=.dict #[] }).get? s.heap.objs.size=cb { cls:=.type "dict",data:=.dict #[] }:=Mt _ rfl;have u:({ s with heap:=s.heap.push { cls:=.type "dict",data:=.dict #[] } }:ee).TypeIs (.ref s.heap.objs.size) "dict":=⟨_,f,rfl⟩;refine⟨u,PySem.F.args_dict_init_2 _ _,?_⟩;unfold Builtin.«dict.__init__» Builtin.Dict.selfAndRest;refine cT (cT<|wpAny_notOrdered_dict u<|wpAny_pure ?_);show eT _ _ (Qa "dict.__init__" s.heap.objs.size (.ref l) [] .none) _ _ _;unfold Qa;obtain⟨Y,L,R⟩:=hT;refine cT (PP (T:=T) ⟨Y,up _ _ L,R⟩ ?_);rw[if_pos ht];refine cT (keys _ _ _ _ G up λq p hk₁=>?_);rw[if_pos (show (none:Option cx).isNone=true from rfl)];have r:=hk₁ _ _ f;refine cT (Sc<|wpAny_bind (iter _ { s with heap:=q,toks:=p } _ _ (λc o e=>hk₁ c o (up c o e)) (Mj r) λm it fp St k₂ C v B=>eP ⟨SI bS _,?_⟩))
 exact uc (A:=A.in1) G C P Pd (λi h h' M I=>stay i h h' M λb o n le e=>I b o (λz=>(B b z).elim n λlt=>Po.2 le lt) e) step ps.length 0 { s with heap:=m,toks:=p } (by simp) (MY _) v (h0 _ (λb o e=>k₂ b o (hk₁ b o<|up b o e))<|k₂ _ _ r)
  (λs' N J U W O=>⟨rfl,h s' N J U W λc o n e=>O c o (λz=>(B c z).elim n λlt=>Nat.lt_asymm lt (Mj e)) (MB<|Mj e) (k₂ c o<|hk₁ c o<|up c o e)⟩) 0
end
structure ZPr(z TI TO d:eC)(S:List ZS)(F:ZS->List cx)(i:Nat)(h:g4):Prop where
 hz:∃f0 f1,rF h z TI TO f0 f1/\(f0=.none/\f1=eH/\(∃vs:List cx,vs.length=S.length/\gx h TO vs)\/∃(T:eC)(oT:Obj),f0=Pv T/\h.get? T=cb oT/\T≠d/\T∉jb z TI TO S)
 hTI:gx h TI (S.map λt=>.ref t.i)
 st:BB S i h
 sq:∀t∈S,SrcSq t.b h t.l (F t).toArray
theorem CI{TI TO d:eC}{F:ZS->List cx}{xs ys:Ui}(D:ZOk z TI TO S)(eS:S.map F=[xs,ys])(hd:d∉jb z TI TO S)(hl:∀t∈S,t.l≠d)(len:xs.length=ys.length):
  PSrc prog w d z (xs.zip ys) (jb z TI TO S) (ZPr z TI TO d S F) where
 off:=hd
 stay:=λi h h' st k=>by
  have ne:∀b∈jb z TI TO S,b≠d:=λb hb e=>hd (e▸hb);obtain⟨⟨f0,f1,hz,r⟩,hTI,st,sq⟩:=st;refine⟨⟨f0,f1,k _ _ (ne z<|by simp) hz,?_⟩,k _ _ (ne TI<|by simp) hTI,λt ht=>(st t ht).keep λo e=>k _ o (ne t.i<|by simp[MJ ht]) e,λt ht=>(sq t ht).keep λo e=>k _ o (hl t ht) e⟩
  rcases r with⟨a,b,vs,l,e⟩|⟨T,oT,a,b,c,e⟩
  .exact .inl ⟨a,b,vs,l,k _ _ (ne TO<|by simp) e⟩
  .exact .inr ⟨T,oT,a,k _ _ c b,c,e⟩
 item:=by
  intro A i hi s Q E hh dl st hQ;obtain⟨⟨f0,f1,hz,r⟩,hTI,st,sq⟩:=st;have hx:i<xs.length:=by rw[List.length_zip]at hi;lia
  have hy:i<ys.length:=by lia
  obtain⟨zTI,zTO,TITO,ni⟩:=lG D;have pr:∀us:List cx,us.map cb=S.map (λt=>(F t)[i]?)->us=[xs[i],ys[i]]:=λus e=>by
   have:S.map (λt=>(F t)[i]?)=(S.map F).map (·[i]?):=by rw[NX];rfl
   rw[this,eS]at e;rcases us with _|⟨u,_|⟨v,_|⟨_,_⟩⟩⟩<;>simp[hx,hy]at e ⊢
   exact e
  have no:∀t∈S,(F t)[i]?≠none:=λt ht e=>by
   have:F t∈S.map F:=MJ ht;rw[eS]at this;have hl:(F t).length<=i:=QJ.1 e;simp only[Mm,MV,or_false]at this;rcases this with e|e<;>rw[e]at hl<;>lia
  have fpl:∀b∈jb z TI TO S,b<s.heap.objs.size\/b=TO:=λb hb=>by
   simp only[jb,Mm,MS]at hb;rcases hb with rfl|rfl|rfl|⟨t,ht,rfl⟩
   .exact .inl (Mj hz)
   .exact .inl (Mj hTI)
   .exact .inr rfl
   .obtain⟨o,e,_⟩:=(st t ht).lt
    exact .inl (Mj e)
  have up:∀{c:eC},c∉jb z TI TO S->c∉z::TO::S.map ZS.i:=λn x=>n (by
   simp only[jb,Mm]at x ⊢;exact x.imp id .inr)
  refine jA (F:=λt=>(F t)[i]?) hh D hz (r.imp id λ⟨T,oT,a,b,_⟩=>⟨T,oT,a,b⟩) hTI st (λt ht=>⟨_,sq t ht,by simp⟩) (λh' us e a st' hT hk=>?_) λh' ⟨t,ht,eo⟩ _=>absurd eo (no t ht)
  have k':∀c o,c∉jb z TI TO S->s.heap.get? c=cb o->h'.get? c=cb o:=λc o n=>hk c o (up n);refine hQ h' _ ⟨?_,hk _ _ ?_ hTI,st',λt ht=>(sq t ht).keep λo e=>k' _ o (D.off t ht) e⟩ ⟨_,0,hT,rfl,by rw[pr us e];simp⟩ k'
  .rcases r with⟨rfl,rfl,vs,hv,hTO⟩|⟨T,oT,rfl,hT',nd,nf⟩
   .obtain⟨_,a1,_⟩|⟨n,_⟩:=a
    case inr=>exact absurd rfl n
    refine⟨_,_,a1,.inr ⟨_,_,rfl,hT,NY dl,λhb=>?_⟩⟩;rcases fpl _ hb with lt|e
    .exact MT _ lt
    .exact MT _ (e▸Mj hTO)
   .obtain⟨n,_⟩|⟨_,a1⟩:=a
    .cases n
    .exact⟨_,_,a1,.inr ⟨_,_,rfl,k' _ _ nf hT',nd,nf⟩⟩
  .simp only[Mm,MS,not_or,not_exists,not_and]
   exact⟨zTI.symm,TITO,λt ht=>(ni t ht).2.1⟩
 done:=by
  intro A s Q E hh st hQ;obtain⟨⟨f0,f1,hz,r⟩,hTI,st,sq⟩:=st;have no:∀us:List cx,us.map cb≠S.map (λt=>(F t)[(xs.zip ys).length]?):=λus e=>by
   have:S.map (λt=>(F t)[(xs.zip ys).length]?)=(S.map F).map (·[(xs.zip ys).length]?):=by rw[NX];rfl
   rw[this,eS]at e;rcases us with _|⟨u,us⟩<;>simp[len]at e
  refine jA (F:=λt=>(F t)[(xs.zip ys).length]?) hh D hz (r.imp id λ⟨T,oT,a,b,_⟩=>⟨T,oT,a,b⟩) hTI st (λt ht=>⟨_,sq t ht,by simp⟩) (λh' us e=>absurd e (no us)) λh' _ hk=>hQ h' λc o n=>hk c o λx=>n ?_
  simp only[jb,Mm]at x ⊢;exact x.imp id .inr
theorem iI:fillsNumberSlot (.type "tuple") "mul"=pure false:=
 PySem.fillsNumberSlot_seq (id:="tuple.__mul__") (r:=cb (.builtin "tuple.__rmul__")) N4.lookup (by decide +kernel) QC.lookup (by decide +kernel)
theorem pX:seqRepeat? (.type "tuple")=pure (cb<|.builtin "tuple.__mul__"):=by
 unfold seqRepeat?;rw[PySem.seqSlot_of (T:="tuple") (name:="__mul__") (id:="tuple.__mul__") N4.lookup (by decide +kernel),PySem.seqSlot_of (T:="tuple") (name:="__rmul__") (id:="tuple.__rmul__") QC.lookup (by decide +kernel)]
 rfl
theorem mj(a:Int)(t:Tok)(l:eC)(items:Ur)(n:Nat)(dd:Option eC)(c:Array (Option cx)):
  TC (Builtin.«int.__rmul__» ⟨[.int a t,.ref l],[]⟩) (λ_ R s=>s.heap.get? l=cb { cls:=.type "tuple",dict:=dd,data:=.seq items n,slots:=c }/\R (.ok<|.ret Value.notImplemented) s):=
 .of_wp λprog w A R s h=>by obtain⟨m,g,d,e,o⟩:=s;obtain⟨f,h⟩:=h;wp_walk;exact⟨_,rfl,h⟩
theorem mw(l:eC)(items:Ur)(n:Nat)(dd:Option eC)(G:Array (Option cx))(x:Int)(u:Tok)(U:1<x)(B:x<=1000)(C:items.size<=1000)(q:items.isEmpty=eH):
  TC (Builtin.«tuple.__mul__» ⟨[.ref l,.int x u],[]⟩) (λ_ R s=>s.heap.get? l=cb { cls:=.type "tuple",dict:=dd,data:=.seq items n,slots:=G }/\
   R (.ok<|.ret<|.ref s.heap.objs.size) { s with heap:=s.heap.push { cls:=.type "tuple",data:=.seq ((Mh x.toNat items).foldl (·++·) #[]) } }):=
 .of_wp λprog w A R s h=>by
  obtain⟨J,g,d,T,O⟩:=s;obtain⟨m,h⟩:=h;have f1:=P1;have L:=OU;have v:(decide (x < -(2 ^ 63))||decide (x>=2 ^ 63))=false:=by simp;lia
  have r:(items.isEmpty||x==1)=false:=by rw[q];simp;lia
  have y:(decide (x<=0)||items.isEmpty)=false:=by rw[q];simp;lia
  have M:(items.size:Int)*x<=1000000:=by
   have I:(items.size:Int)*x<=1000*x:=Int.mul_le_mul_of_nonneg_right (by lia) (by lia)
   lia
  have o:¬((items.size:Int)*x>(2 ^ 63-1) / 8):=by lia
  have p:PR ((items.size:Int)*x)=false:=by
   unfold PR;have:(1000000:Int)<=(sizeLine:Int):=by decide
   exact decide_eq_false (by lia)
  wp_walk using lu m
  try simp only[v,Mr,if_false]
  wp_walk using lu m
  try simp only[r,Mr,if_false]
  wp_walk using lu m
  try simp only[y,Mr,if_false]
  wp_walk using lu m
  rw[if_neg o];simp only[p,Mr,if_false];unfold NK;have f:((Mh x.toNat items).foldl (·++·) #[]).toList.length<=sizeLine:=by
   have e:∀(k:Nat)(c:Ur),((Mh k items).foldl (·++·) c).size=c.size+k*items.size:=by
    intro k
    induction k with
    |zero=>intro c;simp
    |succ k ih=>intro c;rw[MZ,Nh,ih,Array.size_append,Nat.succ_mul];lia
   rw[MP,e];have:x.toNat*items.size<=1000*1000:=Nat.mul_le_mul (by lia) C
   have N:(1000*1000:Nat)<=sizeLine:=by decide
   simp only[Ml,Mv]at *;lia
  refine cT (w4 (eP ⟨_,rfl,?_⟩) f);simpa using h
theorem m_(l:eC)(items:Ur)(n:Nat)(dd:Option eC)(m:Array (Option cx))(u:Tok):
  TC (Builtin.«tuple.__mul__» ⟨[.ref l,.int 1 u],[]⟩) (λ_ R s=>s.heap.get? l=cb { cls:=.type "tuple",dict:=dd,data:=.seq items n,slots:=m }/\R (.ok<|.ret<|.ref l) s):=
 .of_wp λprog w A R s h=>by
  obtain⟨q,g,d,p,r⟩:=s;obtain⟨c,h⟩:=h;have f1:=P1;have o:=OU;have f:(decide ((1:Int) < -(2 ^ 63))||decide ((1:Int)>=2 ^ 63))=false:=by decide
  have e:(items.isEmpty||(1:Int)==1)=true:=by simp
  wp_walk using lu c
  try simp only[f,Mr,if_false]
  wp_walk using lu c
  try simp only[e,if_true]
  wp_walk using lu c
  all_goals first|exact⟨_,rfl,h⟩|skip
theorem m8(l:eC)(items:Ur)(n:Nat)(dd:Option eC)(q:Array (Option cx))(x:Int)(u:Tok)(p:x<=0)(o:-1000<=x)(r:items.isEmpty=eH):
  TC (Builtin.«tuple.__mul__» ⟨[.ref l,.int x u],[]⟩) (λ_ R s=>s.heap.get? l=cb { cls:=.type "tuple",dict:=dd,data:=.seq items n,slots:=q }/\
   R (.ok<|.ret<|.ref s.heap.objs.size) { s with heap:=s.heap.push { cls:=.type "tuple",data:=.seq #[] } }):=
 .of_wp λprog w A R s h=>by
  obtain⟨B,g,d,y,C⟩:=s;obtain⟨c,h⟩:=h;have f1:=P1;have v:=OU;have m:(decide (x < -(2 ^ 63))||decide (x>=2 ^ 63))=false:=by simp;lia
  have e:(items.isEmpty||x==1)=false:=by rw[r];simp;lia
  have f:(decide (x<=0)||items.isEmpty)=true:=by simp[p]
  wp_walk using lu c
  try simp only[m,Mr,if_false]
  wp_walk using lu c
  try simp only[e,Mr,if_false]
  wp_walk using lu c
  try simp only[f,if_true]
  all_goals exact⟨_,rfl,h⟩
section
theorem yp{Ua:Ui}{k:Int}{u:Tok}(W:s.heap.IsTuple l Ua.toArray)(h0:Ua≠[])(R:0<=k)(Y:k<=1000)(N:Ua.length<=1000)(O:k=1->Q (.ref l) s)(h2:k≠1->Q (.ref s.heap.objs.size) { s with heap:=s.heap.push { cls:=.type "tuple",data:=.seq (Mh k.toNat Ua).flatten.toArray } }):
  eT (ft prog w) A (lq .Mult (.ref l)<|.int k u) Q E s:=by
 obtain⟨⟨cls,p,data,o⟩,e,C,n,B⟩:=W;simp only at C B;subst C B;have v:Ua.toArray.isEmpty=false:=by cases Ua with|nil=>exact absurd rfl h0|cons a r=>rfl
 refine wpAny_binaryOp_repeat_ref (T:="tuple") (U:="int") (by decide) ⟨_,e,rfl⟩ (λG=>typeIs_int G k u) iI PySem.F.fills_int_mul QN pX PySem.F.slot_int_index.lookup
  (oo QN (typeIs_int s k u) PySem.F.entry_int_rmul (PySem.F.args_int_rmul_2 _ _) (mj k u l Ua.toArray n p o) ⟨e,rfl,⟨_,e,rfl⟩,?_⟩)
 by_cases g:k=1
 .subst g
  exact oo N4 ⟨_,e,rfl⟩ O2 (OX _ _) (m_ l Ua.toArray n p o u) ⟨e,O rfl⟩
 .have f:=h2 g
  by_cases q:k<=0
  .refine oo N4 ⟨_,e,rfl⟩ O2 (OX _ _) (m8 l Ua.toArray n p o k u q (by lia) v) ⟨e,?_⟩
   have I:k.toNat=0:=by lia
   rw[I]at f;exact f
  .refine oo N4 ⟨_,e,rfl⟩ O2 (OX _ _) (mw l Ua.toArray n p o k u (by lia) Y (by rw[Ml];exact N) v) ⟨e,?_⟩
   have M:∀(m:Nat)(c:Ui),List.foldl (λx1 J=>x1++J) c.toArray (Mh m Ua.toArray)=(c++(Mh m Ua).flatten).toArray:=by
    intro m
    induction m with
    |zero=>intro c;simp
    |succ m ih=>
     intro c;have L:c.toArray++Ua.toArray=(c++Ua).toArray:=by simp
     rw[MZ,Nh,L,ih,MZ,Oh,MG]
   have y:=M k.toNat [];rw[NR]at y;rw[y];exact f
end
section
theorem Bb:cq X (lq .Add) (λx y H Q=>∃a b ys,x=.ref a/\y=.ref b/\iA X.K H a []/\iA X.K H b ys/\Q (.ref b) H):=by
 intro T0 s Z H x y v u Q I T W h;obtain⟨a,b,ys,rfl,rfl,R,O,q⟩:=h;cases T;cases W;obtain⟨o,r1,p1,_⟩:=I.tuple R;obtain⟨e,r2,M,_⟩:=I.tuple O;obtain rfl:o=[]:=r1.zero;obtain⟨⟨Y,U,J,N⟩,L,C,n,B⟩:=id p1;obtain⟨⟨G,p,r,m⟩,g,f,n2,c⟩:=id M;simp only at C B f c;subst C B f c
 exact TM ⟨_,L,rfl⟩ ⟨_,g,rfl⟩ Ta Tt O7 O3 (OY _ _)
  (tuple_addW0 a b #[] e.toArray n n2 U p N m rfl) ⟨L,g,⟨.ref b,H,I,rfl,q⟩⟩
theorem AU(e:n.log2<2000)(f:0<n):cq X (lq .FloorDiv) (rI (λ_ j=>j=(n:Int)) λi j=>.int (i / j)):=opI λi j _ _ _ _ _ c q=>by
 subst c;refine floordiv_int (by lia) ?_ (.inl<|PyProof.noPylong_of_log2<|by simpa using Qb e (by decide))
 rw[Int.fdiv_eq_ediv_of_nonneg _ (by lia)]
 exact q
noncomputable def zB(K:Mp)(b1 b2:Bool)(t:TA):TE:=λZ H Q=>t Z H λc H1=>∃(l1 l2:eC)(ks:List bh)(ys:List V),c=[.ref l1,.ref l2]/\lY K b1 H1 l1 (ks.map kV)/\lY K b2 H1 l2 ys/\ks.length=ys.length/\0<ks.length/\ks.length<=1000/\
 ∀d,H1 d=ed->Q (.ref d) (upd H1 d<|.dK<|(ks.zip ys).foldl (λa p=>cJ a p.1 p.2) [])
theorem vn{xs:List (bh×cx)}{k:bh}{u:cx}:(stored xs k u).length<=xs.length+1:=by
 unfold stored
 split
 .rw[Md];lia
 .simp
theorem iH:∀(rs xs:List (bh×cx)),(rs.foldl (λa r=>stored a r.1 r.2) xs).length<=xs.length+rs.length
 |[],xs=>by simp
 |r::rs,xs=>by
  have:=iH rs (stored xs r.1 r.2);have:=vn (xs:=xs) (k:=r.1) (u:=r.2);rw[Nh,Mc];lia
theorem xS:∀{T5:List (bh×V)}{rs:List (bh×cx)},KV T5 rs->∀{a:List (bh×V)}{xs:List (bh×cx)},KV a xs->KV (T5.foldl (λa p=>cJ a p.1 p.2) a) (rs.foldl (λa r=>stored a r.1 r.2) xs)
 |_,_,.nil,a,xs,h=>h
 |_,_,.cons (a:=p) (b:=q) h t,a,xs,h0=>by
  rw[Nh,Nh];refine xS t ?_;rw[<- h.1];exact h0.put p.1 h.2
theorem um{f:ee}{T:String}{rs:List (bh×cx×cx)}{T5:List (bh×V)}{fq:Uj}{Q:V->Hp->Prop}(hc:X.calm=true)(I:Inv X T0 Z H f)(o1:s.os=f.os)(o2:s.gens=f.gens)(o3:s.drawn=f.drawn)(k0:∀c o,f.heap.get? c=cb o->s.heap.get? c=cb o)(sz:f.heap.objs.size<=s.heap.objs.size)(B:∀b∈fq,f.heap.objs.size<=b/\b<s.heap.objs.size)(kv:KV T5 (rs.map λr=>(r.1,r.2.2)))(m:∀r∈rs,(aP X.prog X.w).is r.1 r.2.1=true)(hz:rs.length<=1000000)(hT:∃o,s.heap.get? l=cb o/\o.cls=.type T)(ht:(Nw T != Nw "dict")=true)(keys:∀(A':hB)(s':ee)(Q:Option cx->ee->Prop)(E:Um),A'.handled=ed->(∀b o,s.heap.get? b=cb o->s'.heap.get? b=cb o)->(∀h' tk,(∀b o,s'.heap.get? b=cb o->h'.get? b=cb o)->Q ed { s' with heap:=h',toks:=tk })->eT (ft X.prog X.w) A' (S4 (.ref l) "keys") Q E s')(iter:∀(A':hB)(s':ee)(Q:Um)(E:Um),(∀b o,s.heap.get? b=cb o->s'.heap.get? b=cb o)->s.heap.objs.size<s'.heap.objs.size->
   (∀h' it fp St,(∀b o,s'.heap.get? b=cb o->h'.get? b=cb o)->PSrc X.prog X.w s.heap.objs.size it (rs.map λr=>(r.2.1,r.2.2)) fp St->St 0 h'->(∀b∈fp,b∈fq\/s.heap.objs.size<b)->Q (.ref it) { s' with heap:=h' })->eT (ft X.prog X.w) A' (S9<|.ref l) Q E s')(q:∀p,H p=ed->Q (.ref p) (upd H p<|.dK<|T5.foldl (λa p=>cJ a p.1 p.2) [])):
  eT (ft X.prog X.w) X.A (call (.type "dict") [.ref l]) (EP X T0 Z Q) X.xe s:=by
 refine mR (I.ok.hd hc) (λi h=>h.DictOf (aP X.prog X.w) s.heap.objs.size (((rs.take i).map λr=>(r.1,r.2.2)).foldl (λa r=>stored a r.1 r.2) [])) hT ht keys iter (λi h ⟨o,J,C,e,_⟩=>⟨o,e⟩) ?_ ?_ ?_ ?_
 .intro h' O hd
  obtain⟨o,J,C,G,r⟩:=Heap.DictOf.new (knd:=aP X.prog X.w) s.heap;rw[Mt _ rfl]at G;cases G;exact⟨_,J,C,hd,r⟩
 .rintro i h h' ⟨o,J,C,G,r⟩ N
  exact⟨o,J,C,N _ o (λz=>MT _ (B _ z).2) (Mn _) G,r⟩
 .rintro i R s' Q' E' hd hQ
  have u:i<rs.length:=by simpa using R
  simp only[Oo];have g:(((rs.take i).map λr=>(r.1,r.2.2)).foldl (λa r=>stored a r.1 r.2) ([]:List (bh×cx))).length<=sizeLine:=by
   have:=iH ((rs.take i).map λr=>(r.1,r.2.2)) [];have Y:(1000000:Nat)<=sizeLine:=by decide
   simp only[Mv,Md,OF]at this;lia
  refine wpAny_dictSet_pairs (knd:=aP X.prog X.w) (k:=rs[i].1) (m rs[i] (OG u)) hd (λh' L sb=>hQ h' _ ?_ sb) g;rw[P6 u,Nx,List.foldl_append];exact L
 .rintro s' p1 p2 p3 hd O
  simp only[Md,List.take_length]at hd;have y:=I.big;have U:H s.heap.objs.size=none:=I.hok.fresh sz;obtain⟨W,g',d',t',M⟩:=s';obtain rfl:M=f.os:=p1.trans o1;obtain rfl:g'=f.gens:=p2.trans o2;obtain rfl:d'=f.drawn:=p3.trans o3;refine⟨.ref s.heap.objs.size,_,I.laid (a:=s.heap.objs.size) (o:=.dK (T5.foldl (λa p=>cJ a p.1 p.2) [])) (t':=t') (λc o e=>O c o (λz=>Po.2 (B c z).1 (Mj e)) (k0 c o e)) sz ?_,rfl,q _ U⟩;have v:=xS kv (a:=[]) (xs:=[]) .nil;refine Aq ?_ (beq_eq_false_iff_ne.mpr<|NY<|MF y sz) v hd;rw[NT v];have:=iH (rs.map λr=>(r.1,r.2.2)) [];have Y:(1000000:Nat)<=sizeLine:=by decide
  simp only[Mv,Md]at this;lia
theorem B8:∀{ks:List bh}{Ua:Ui}{ys:List V}{us:Ui},Vals (ks.map kV) Ua->Vals ys us->ks.length=ys.length->
  KV (ks.zip ys) ((ks.zip<|Ua.zip us).map λr=>(r.1,r.2.2))/\(∀r∈ks.zip (Ua.zip us),(aP P w).is r.1 r.2.1=true)/\(ks.zip<|Ua.zip us).map (λr=>(r.2.1,r.2.2))=Ua.zip us
 |[],_,_,_,.nil,.nil,_=>⟨.nil,λr h=>by simp at h,rfl⟩
 |[],_,_::_,_,_,_,h=>by simp at h
 |_::_,_,[],_,_,_,h=>by simp at h
 |k::ks,_,y::ys,_,.cons r t,.cons r' t',h=>by
  obtain⟨a,b,c⟩:=B8 (ks:=ks) (ys:=ys) t t' (by simpa using h)
  exact⟨.cons ⟨rfl,r'⟩ a,λq f=>(Mm.1 f).elim (λe=>by subst e;exact nX r) (b q),by simpa using c⟩
theorem tz{a b:g1}{ta:TA}{p p2 c:Pos}(b1 b2:Bool)(hc:X.calm=true)(hg:Gl X "zip")(hm:X.mg "zip"=ed)(hg2:Gl X "dict")(hm2:X.mg "dict"=ed)(ha:PA X [a,b] ta)(hs:fe [a,b] X.env=[(eH,g3 a X.env),(eH,g3 b X.env)]:=by rfl)(hs2:fe [b] X.env=[(eH,g3 b X.env)]:=by rfl)(hs3:fe [QX (.Name "zip" p2) [a,b] [] c] X.env=[(eH,g3 (.Call (.Name "zip" p2) [a,b] [] c) X.env)]:=by rfl):
  PE X (.Call (.Name "dict" p) [.Call (.Name "zip" p2) [a,b] [] c] [] pos) (zB X.K b1 b2 ta):=by
 intro T0 s Z H Q I h;refine Call_ (dN I hg2 hm2 (by decide +kernel:fy "dict"=cb (.type "dict"))<|Ng ?_ hs3 rfl)
 rw[hs3];show eT _ _ (spliced ((eH,_)::lb pos [])) _ _ s;refine PQ ?_;refine Call_ (dN I hg hm (by decide +kernel:fy "zip"=cb (.type "zip"))<|Ng (bC (ha c T0 s Z H _ I h) λus R ⟨vs,H1,I1,r1,q1⟩=>?_) (by rw[hs,hs2])<|by rw[hs2];rfl)
 obtain⟨l1,l2,ks,ys,e,q1,q2,hl,h0,hz,q⟩:=q1;subst e;obtain⟨u1,u2,rfl,ru1,ru2⟩:=r1.two;cases ru1;cases ru2;obtain⟨J,rv1,M,z1⟩:=I1.src q1;obtain⟨G,Y,L,z2⟩:=I1.src q2;refine oB (args:=[(b1,l1),(b2,l2)]) (.inl rfl) (λp hp=>?_) λh' z TI TO S g D r y C st U W=>?_
 .simp only[Mm,MV,or_false]at hp
  rcases hp with rfl|rfl
  .exact⟨_,M⟩
  .exact⟨_,L⟩
 refine P5 ?_;have e1:=rv1.length;have e2:=Y.length;rw[Md]at e1;obtain⟨kv,N,eps⟩:=B8 (P:=X.prog) (w:=X.w) rv1 Y hl;have zt:ZTn z TI TO S 0 h':=⟨r,y,⟨_,by rw[Md],C⟩,st⟩
 have m:∀b∈jb z TI TO S,b<h'.objs.size:=λb U=>let ⟨o,e,_⟩:=zt.obj b U;Mj e;have ll:∀t∈S,∃u,SrcSq t.b R.heap t.l u/\t.l<h'.objs.size:=λt ht=>by
  have:(t.b,t.l)∈[(b1,l1),(b2,l2)]:=g▸MJ (f:=λt:ZS=>(t.b,t.l)) ht;have h:∃u,SrcSq t.b R.heap t.l u:=by
   simp only[Mm,MV,or_false,Qy]at this;rcases this with⟨e,e'⟩|⟨e,e'⟩<;>rw[e,e']
   .exact⟨_,M⟩
   .exact⟨_,L⟩
  obtain⟨u,q⟩:=h;refine⟨u,q,?_⟩;obtain⟨b,i,l⟩:=t;cases b with
  |true=>obtain⟨o,e,_⟩:=(show R.heap.IsList l u from q);exact Mj (W _ _ e)
  |false=>obtain⟨o,e,_⟩:=(show R.heap.IsTuple l u from q);exact Mj (W _ _ e)
 refine um (s:={ R with heap:=h' }) (T:="zip") (rs:=ks.zip (J.zip G)) (T5:=ks.zip ys) (fq:=jb z TI TO S) hc I1 rfl rfl rfl W ?_ (λb h=>⟨U b h,m b h⟩) kv N (by simp only[List.length_zip];lia) ⟨_,r,rfl⟩ (by decide) (λA' s' Q' E' hh B k=>nA (B _ _ r) hh k) (λA' s' Q' E' B lt k=>S6 (B _ _ r) ?_) q
 .rcases Nl h'.objs.size R.heap.objs.size with lt|ge
  .have:=U z (by simp);exact absurd (m z<|by simp) (Po.2<|ME (NZ lt) this)
  .exact ge
 .match S,g,D,y,C,st,U,zt,m,ll,k with
  |[t,u],g,D,y,C,st,U,zt,m,ll,k=>
   simp only[Mo,OB,My,Qy,and_true]at g;obtain⟨⟨eb,el⟩,eb',el'⟩:=g;have ne:u.i≠t.i:=wH D (i:=1) (j:=0) rfl rfl (by decide)
   rw[eps]at k;refine k s'.heap z _ (ZPr z TI TO h'.objs.size [t,u] λv=>if v.i=t.i then J else G) (λ_ _ e=>e) (CI D (by simp[ne]) (λh=>MT _ (m _ h)) (λv O=>let ⟨_,_,h⟩:=ll v O;MB h)<|by lia) ?_ λb h=>.inl h
   refine⟨⟨_,_,B _ _ r,.inl ⟨rfl,rfl,_,by rw[Md],B _ _ C⟩⟩,B _ _ y,λv O=>(st v O).keep λo e=>B _ o e,λv O=>?_⟩
   simp only[Mm,MV,or_false]at O;rcases O with rfl|rfl
   .rw[if_pos rfl,eb,el]
    exact M.keep λo e=>B _ o (W _ o e)
   .rw[if_neg ne,eb',el']
    exact L.keep λo e=>B _ o (W _ o e)
  |[],g,_,_,_,_,_,_,_,_,_=>simp at g
  |[_],g,_,_,_,_,_,_,_,_,_=>simp at g
  |_::_::_::_,g,_,_,_,_,_,_,_,_,_=>simp at g
end
end _2
namespace _T
open PySem _2
end _T
namespace _2
open PySem PySem.Spec PyProof.Rows
variable{h:g4}{H:Hp}{P:gg}{s:ee}{w:g5}
section
variable{X:Cx}
theorem mn{M:Model}{A:hB}{E:Um}{j:Type}{n:Nat}(f:Nat->j->Sem (ForInStep j))(I:Nat->j->ee->Prop)(Q:j->ee->Prop)(g:∀i b s,i<n->I i b s->eT M A (f i b) (λr s'=>match r with|.yield b'=>I (i+1) b' s'|.done b'=>Q b' s') E s)(u:∀b s,I n b s->Q b s)(b:j)(h:I 0 b s):eT M A (forIn [0:n] b f) Q E s:=by
 rw[Std.Legacy.Range.forIn_eq_forIn_range'];have q:([0:n]:QY).size=n:=by simp[Std.Legacy.Range.size]
 show eT M A (forIn (Rq 0 ([0:n]:QY).size 1) b f) Q E s;rw[q];refine wpAny_forIn_list f (λl c s=>∃i,i<=n/\l=Rq i (n-i) 1/\I i c s) Q ?_ ?_ _ b ⟨0,MY _,rfl,h⟩
 .rintro x v c s ⟨i,y,a,m⟩
  have o:i<n:=by
   rcases Nl i n with h'|h'
   .exact h'
   .rw[show n-i=0 by lia]at a;simp at a
  obtain⟨k,p⟩:∃k,n-i=k+1:=⟨n-i-1,by lia⟩
  rw[p,Qh]at a;obtain⟨rfl,rfl⟩:=List.cons.inj a;refine kL (g x c s o m) (λr s' h'=>?_) λ_ _ e=>e;cases r with
  |done c'=>exact h'
  |yield c'=>exact⟨x+1,by lia,by congr 1;lia,h'⟩
 .rintro c s ⟨i,y,a,m⟩
  have:i=n:=by
   rcases Nl i n with h'|h'
   .obtain⟨k,p⟩:∃k,n-i=k+1:=⟨n-i-1,by lia⟩
    rw[p,Qh]at a;cases a
   .lia
  subst this;exact u _ _ m
theorem sR(l:eC)(a:Ur)(n:Nat)(dd:Option eC)(G:Array (Option cx))(x:cx)(e:cx->Bool)(I:∀y,y∈a->MeetsSeq.EqGives y x (e y))(j:Nat)(M:j<a.size)(u:e a[j]=true)(r:∀m (hm:m<a.size),m<j->e a[m]=eH):
  TC (Builtin.«tuple.index» ⟨[.ref l,x],[]⟩) (λ_ R s=>s.heap.get? l=cb { cls:=.type "tuple",dict:=dd,data:=.seq a n,slots:=G }/\R (.ok<|.ret<|.int j s.toks) { s with toks:=s.toks+1 }):=
 .of_wp λf w A R s h=>by
  obtain⟨B,g,d,E,C⟩:=s;obtain⟨v,h⟩:=h
  wp_walk using AutoSeq1.wpAny_loadPart' v
  refine mn (n:=min a.size a.size) _ (λi (b:Option _×_) p=>b.1=ed/\i<=j/\p=⟨B,g,d,E,C⟩) _ ?turn ?fin _ ?strt
  case turn=>
   rintro i b p K ⟨z,o,rfl⟩
   have c:i<a.size:=by lia
   have q:a[i]?=cb a[i]:=by simp[c]
   simp only[q];refine cT (I _ (Array.getElem_mem c) f w _ _ _ _ ?_)
   by_cases F:i=j
   .subst F
    rw[u]
    wp_walk
    exact⟨_,rfl,h⟩
   .rw[r i c (by lia)]
    wp_walk
    exact⟨rfl,by lia,rfl⟩
  case fin=>
   rintro⟨L,J⟩ p ⟨z,o,rfl⟩
   lia
  case strt=>
   exact⟨rfl,MY _,rfl⟩
theorem Inv.tupD{b:Uo}{Z:St}{a:eC}{xs:List V}(I:Inv X b Z H s)(h:H a=cb (.tup xs)):
  ∃(Ua:Ui)(n:Nat)(sl:Array (Option cx)),Vals xs Ua/\s.heap.get? a=cb { cls:=.type "tuple",dict:=ed,data:=.seq Ua.toArray n,slots:=sl }:=by
 obtain⟨z,Ua,r,⟨cls,g,data,slots⟩,e,⟨c,n,d⟩,f⟩:=I.hok a _ h;simp only at c d f;subst c d f;exact⟨Ua,n,slots,r,e⟩
theorem fP:∀{TY:Uh}{us:Ui},Vals (TY.map V.str) us->∀(j:Nat)(h:j<us.length),∃(y:Str)(t:Tok),TY[j]?=cb y/\us[j]=.str y t
 |[],us,r,j,h=>by cases r;exact absurd h (Oy _)
 |x::TY,us,r,j,h=>by
  rw[Mo]at r;cases r with
  |cons r1 r2=>
   cases j with
   |zero=>obtain⟨t,rfl⟩:=r1;exact⟨x,t,rfl,rfl⟩
   |succ j=>obtain⟨y,t,a,b⟩:=fP r2 j (by simpa using h);exact⟨y,t,by simpa using a,by simpa using b⟩
def LM:V->List V->Hp->VK->Prop:=λx b H Q=>∃(a:eC)(TY:Uh)(z:Str)(j:Nat),x=.ref a/\b=[.str z]/\H a=cb (.tup<|TY.map V.str)/\TY.length<=1000/\TY[j]?=cb z/\(∀m,m<j->TY[m]?≠cb z)/\Q (.int (j:Int)) H
theorem ye:uO X "tuple.index" LM:=by
 intro G s Z H x W v U Q I O S h;obtain⟨a,b,z,j,rfl,rfl,M,T,B,p,q⟩:=h;cases O;obtain⟨u,rfl,N⟩:=S.one;obtain⟨t,rfl⟩:=N;obtain⟨c,n,K,r,e⟩:=I.tupD M;have L:=r.length;rw[Md]at L;have J:j<b.length:=by
  rcases Nl j b.length with z'|z'
  .exact z'
  .rw[NN z']at B;cases B
 have A:j<c.toArray.size:=by rw[Ml];lia
 refine oo Qv ⟨_,e,rfl⟩ PySem.F.entry_tuple_index (PySem.F.args_tuple_index_2 _ _)
  (sR a c.toArray n ed K (.str z t) (λv=>match v with|.str y _=>y==z|_=>eH) (λy R=>?_) j A ?_ λm i o=>?_) ⟨e,?_⟩
 .obtain⟨m,i,rfl⟩:=PL (by simpa using R:y∈c)
  obtain⟨l,C,g,f⟩:=fP r m i;rw[f];exact eqGives_str l z C t
 .obtain⟨l,C,g,f⟩:=fP r j (by lia)
  rw[B]at g;cases g;simp[f]
 .obtain⟨l,C,g,f⟩:=fP r m (by rw[Ml]at i;exact i)
  have E:=p m o;rw[g]at E;have ne:¬l=z:=λe=>E (by rw[e])
  simp[f,ne]
 .exact⟨.int (j:Int),H,I.tok _,⟨_,rfl⟩,q⟩
noncomputable def tTM(r:V->List V->Hp->VK->Prop)(to:TE)(t:TA):TE:=λZ H Q=>to Z H λx H1=>(∃a b,x=.ref a/\H1 a=cb (.tup b))/\t Z H1 λb H2=>r x b H2 Q
theorem JG{o e:g1}{es:Uk}{to:TE}{t:TA}{name:Str}{T9 T8:Pos}{id:String}{r:V->List V->Hp->VK->Prop}(g:Slot "tuple" name id)(i:S0 (.builtin id)=pure (.type "method_descriptor"))(K:uO X id r)(L:PE X o to)(M:PA X (e::es) t)(f:mu o name X.env (g3 o X.env)=g3 o X.env:=by rfl)(hfew:((lb T8<|starEach (e::es) X.env).all (λx=>!x.1)&&(SC T8<|keywordEach [] X.env).all (λx=>x.1.isSome)
   && decide ((e::es).length+([]:List On).length+(if ([]:List On).isEmpty then 0 else 1)<30))=true:=by rfl)(hline:(T9.endLine==T8.line)=true:=by rfl)(hs:fe (e::es) X.env=(eH,g3 e X.env)::fe es X.env:=by rfl)(hplain:(lb T8<|starEach es X.env).any (·.1)=false:=by rfl):
  PE X (.Call (.Attribute o name T9) (e::es) [] T8) (tTM r to t):=by
 intro c s Z H Q I h;refine TF f hfew hline rfl (bC (L c s Z H _ I h) λv z ⟨x,H1,I1,E,⟨a,N,J,C⟩,u⟩=>?_);subst J;cases E;obtain⟨p,n,O,R,j⟩:=I1.tupD C;refine⟨"tuple",id,PySem.F.plainAttrs_tuple,g,i,⟨_,j,rfl⟩,λb y=>by cases y;exact⟨_,j,rfl⟩,?_⟩
 have l:=M T8 c z Z H1 _ I1 u;rw[hs]at l ⊢;refine Pb (by show (eH||(lb T8<|starEach es X.env).any (·.1))=eH;rw[hplain]<;>rfl) (Py ?_)
 exact bC l λq A ⟨G,H2,I2,m,B⟩=>K c A Z H2 (.ref a) G _ q Q I2 rfl m B
end
theorem fv{h a:g4}{S:Uj}:∀{l:List Env},h.FunFrames a l->(∀b∈fW l,b∈S)->h.FunFrames (Qu h S) l
 |[],_,_=>trivial
 |env::r,hl,hs=>by
  obtain⟨m,⟨L,o,c,n,i,g⟩,e⟩:=hl;have f:L∈S:=hs L (by unfold fW;rw[N3,c];exact Nu)
  exact⟨m,⟨L,o,c,W.hideAll_none S f,i,g⟩,fv e λb j=>hs b (by unfold fW;rw[N3,c];exact Mz _ j)⟩
noncomputable def tm(P:gg)(w:g5)(C:eC):pT:=λa H s E e c=>∃(ea:eC)(H':Hp)(B:g4)(a0:cx),e=.ref ea/\c.os=s.os/\SH c.gens/\Un (fW a) [] H H' s.heap c.heap/\HOk P w H' c.heap/\
 Heap.FlyingW B a ea (.ref C) a0 c.heap/\(∀b u,H' b=cb u->∃o,B.get? b=cb o)/\(∀b o,s.heap.get? b=cb o->b∉fW a->∃o',B.get? b=cb o')/\E (.ref C) ed H'
theorem oN{h' B:g4}(c:HOk P w H h)(k:B.StaysIn h)(j:B.StaysIn h')(g:∀b u,H b=cb u->∃o,B.get? b=cb o):HOk P w H h':=λa o e=>
 (c a o e).stay (λb u i q=>by
  obtain⟨v,f⟩:∃v,B.get? b=cb v:=by
   rcases i with rfl|z
   .exact g _ _ e
   .exact g _ _ z
  have:=k b v f;rw[q]at this;cases this;exact j b _ f) (λ_ q=>q) λ_ _ q=>q
theorem vh{fs:Uj}{H':Hp}{l h2 B:g4}(un:Un fs [] H H' h l)(k1:B.StaysIn l)(k2:B.StaysIn h2)(r:l.UpToSlots h2)(m:∀b o,h.get? b=cb o->b∉fs->∃e,B.get? b=cb e)(p:∀b∈fs,∀o,h.get? b=cb o->∀vs,o.data≠.fields vs)(v:∀b∈fs,H b=ed):Un fs [] H H' h h2 where
 keep:=λb o q n a i=>by
  have g:=un.keep b o q n a i;obtain⟨e,c⟩:=m b o q a;have:=k1 b e c;rw[g]at this;cases this;exact k2 b _ c
 slot:=λb o q n a i=>by
  obtain⟨u,g⟩:=un.slot b o q n a i;obtain⟨f,j⟩:=r b _ g (p b a o q);exact⟨f,j⟩
 free:=un.free
 there:=λb o q i=>by
  by_cases a:b∈fs
  .obtain⟨u,g⟩:=un.slot b o q (v b a) a i
   obtain⟨f,j⟩:=r b _ g (p b a o q);exact⟨_,j⟩
  .obtain⟨e,c⟩:=m b o q a
   exact⟨e,k2 b e c⟩
 tups:=un.tups
 frzs:=un.frzs
 tbls:=un.tbls
section
variable{K:Mp}{mg:Uq}{base:g4}{N:Uh}{T4:Str}{scope:NE}{f C:eC}{cd:cx}{A:hB}{outer:List Env}{s0:ee}{H0:Hp}{E:XK}
theorem rX{env:Env}{L:eC}{l:List Env}(h:env.frame=cb L):fW (env::l)=L::fW l:=by unfold fW;rw[N3,h]
theorem L5:cy (tm P w C) (dO (tm P w C) P w K mg base N T4 scope f cd A outer s0 H0 E) E:=by
 intro S Z H s e U I a;obtain⟨Q,H',B,a0,rfl,O,c,un,F,l,R,G,hE⟩:=a;have J:(dO (tm P w C) P w K mg base N T4 scope f cd A outer s0 H0 E).stack=envOfC T4 scope s0.heap.objs.size f cd::outer:=rfl;have x:(envOfC T4 scope s0.heap.objs.size f cd).frame=cb s0.heap.objs.size:=rfl;have r:fW (envOfC T4 scope s0.heap.objs.size f cd::outer)=s0.heap.objs.size::fW outer:=rX x;rw[J]at un l G;show eT (ft P w) (A.deeper<|envOfC T4 scope s0.heap.objs.size f cd) (leaving (envOfC T4 scope s0.heap.objs.size f cd)<|.ref Q) (λ_ m=>tm P w C outer H0 s0 E (.ref Q) m) (λe' m=>tm P w C outer H0 s0 E e' m) U;refine wpAny_leaves_onW I.ok.frames x l λh' i M=>?_;have j:Un (fW outer) [] H0 H s0.heap s.heap:=I.base;have nofr:∀{b:eC}{o:Obj},s0.heap.get? b=cb o->b∉fW outer->b∉fW (envOfC T4 scope s0.heap.objs.size f cd::outer):=λ{b o} q c z=>by
  rw[r]at z;rcases Mm.mp z with e|z
  .exact MT _ (e▸Mj q)
  .exact c z
 have g:Un (fW (envOfC T4 scope s0.heap.objs.size f cd::outer)) [] H H' s.heap h':=by
  refine vh un l.1 i.1 M G (λb c o q vs=>?_) λb c=>?_
  .obtain⟨_,o',y,hd⟩:=I.stack.mem (show b∈_ from c)
   rw[q]at y;cases y;exact hd vs
  .exact I.stkFree b c
 refine⟨Q,H',B,a0,rfl,O.trans I.os,c,?_,oN F l.1 i.1 R,i,R,λb o q c=>?_,hE⟩
 .refine⟨λb o q n c a=>?_,λb o q n c a=>?_,λb o q n a=>?_,λb o q a=>?_,λb T q=>g.tups b T (j.tups b T q),λb o u q=>g.frzs b o u (j.frzs b o u q),λb Y q=>?_⟩
  .exact g.keep b o (j.keep b o q n c a) (j.free b o q n a) (nofr q c) a
  .obtain⟨sl,p⟩:=j.slot b o q n c a
   obtain⟨L,X⟩:=g.slot b _ p (j.free b o q n a) (by rw[r];exact Mz _ c) a
   exact⟨L,X⟩
  .obtain⟨v,p⟩:=j.there b o q a
   exact g.free b v p (j.free b o q n a) a
  .obtain⟨v,p⟩:=j.there b o q a
   exact g.there b v p a
  .obtain⟨m1,e1⟩:=j.tbls b Y q
   obtain⟨m2,W⟩:=g.tbls b _ e1;exact⟨m1++m2,by rw[W,P0]⟩
 .obtain⟨v,p⟩:=j.there b o q (by simp)
  exact G b v p (nofr q c)
structure ExcAt(K:Mp)(C:eC):Prop where
 at_:∃(nm q:Str)(Nn:eC)(bs bm bmB:Ui)(hdct:Bool)(sn:Uh)(sub:Ui)(ab:Bool)(col:Option Bool)(dd:Option eC)(k0 k1 k2 k3 k5:Option cx)(newId initId Bs:String)(mN:Uq),
  (∀h:g4,K.In h->h.get? C=cb (excClassObj nm q C Nn bs bm hdct sn sub ab col dd k0 k1 k2 k3 k5 newId)/\h.Ns Nn mN/\OwnTail h bmB bm)/\mN "__init__"=ed/\ExcBaseFacts Bs newId initId bmB/\bmB.contains (.type Bs)=true/\bm.contains (.type "BaseException")=true
theorem ObjOk.obj{a:eC}{o:HO}(x:ObjOk P w H h a o):∃v,h.get? a=cb v:=by
 cases o with
 |lst xs=>obtain⟨_,_,_,_,e⟩:=x;exact⟨_,e⟩
 |tup xs=>obtain⟨_,_,_,_,e,_⟩:=x;exact⟨_,e⟩
 |dK T5=>obtain⟨_,_,_,_,o,_,_,e,_⟩:=x;exact⟨_,e⟩
 |dT T5=>obtain⟨_,_,_,_,o,_,_,e,_⟩:=x;exact⟨_,e⟩
 |set S n=>obtain⟨o,_,_,_,e,_⟩:=x;exact⟨_,e⟩
 |ins C dx fs=>obtain⟨_,_,_,e,_⟩:=x;exact⟨_,e⟩
 |own y=>obtain⟨_,e⟩:=x;exact⟨_,e⟩
 |xd fs=>obtain⟨_,⟨_,_,_,e,_⟩,_⟩:=x;exact⟨_,e⟩
 |rng lo hi=>obtain⟨_,_,_,e⟩:=x;exact⟨_,e⟩
 |frz ob u=>obtain⟨e,_⟩:=x;exact⟨_,e⟩
 |tbl ps=>exact⟨_,(show h.get? a=cb _ from x)⟩
 |met f y=>exact⟨_,(show h.get? a=cb _ from x)⟩
 |ext φ=>obtain⟨_,⟨_,e⟩,_⟩:=x;exact⟨_,e⟩
theorem Cc{fs:Uj}{L:eC}{H0 H':Hp}{l h':g4}(g:Un fs [] H0 H l h)(a:Un (L::fs) [] H H' h h')(I:l.objs.size<=L):Un fs [] H0 H' l h':=by
 have nofr:∀{b:eC}{o:Obj},l.get? b=cb o->b∉fs->b∉L::fs:=λ{b o} q i z=>by
  rcases Mm.mp z with e|z
  .exact MT _ (MF (e▸Mj q) I)
  .exact i z
 refine⟨λb o q n i c=>a.keep b o (g.keep b o q n i c) (g.free b o q n c) (nofr q i) c,λb o q n i c=>?_,λb o q n c=>?_,λb o q c=>?_,λb r q=>a.tups b r (g.tups b r q),λb o u q=>a.frzs b o u (g.frzs b o u q),λb y q=>?_⟩
 .obtain⟨J,j⟩:=g.slot b o q n i c
  obtain⟨m,x⟩:=a.slot b _ j (g.free b o q n c) (Mz _ i) c;exact⟨m,x⟩
 .obtain⟨p,j⟩:=g.there b o q c
  exact a.free b p j (g.free b o q n c) c
 .obtain⟨p,j⟩:=g.there b o q c
  exact a.there b p j c
 .obtain⟨B,F⟩:=g.tbls b y q
  obtain⟨v,G⟩:=a.tbls b _ F;exact⟨B++v,by rw[G,P0]⟩
noncomputable def uJ(E:XK)(C:eC):TS:=λ_ _ H=>E (.ref C) ed H
theorem zF{x m:Str}{np T8 pos T9:Pos}{jj}(X:ExcAt K C)(hm:mg x=cb (.ref C))(hg:Gl (dO (tm P w C) P w K mg base N T4 scope f cd A outer s0 H0 E) x)(hd:(x==("__debug__":Str))=false:=by decide)(hs:fe [.Constant (.str m) jj T9] (dO (tm P w C) P w K mg base N T4 scope f cd A outer s0 H0 E).env=[(eH,g3 (.Constant (.str m) jj T9) (dO (tm P w C) P w K mg base N T4 scope f cd A outer s0 H0 E).env)]:=by rfl):
  PS (dO (tm P w C) P w K mg base N T4 scope f cd A outer s0 H0 E) (.Raise (cb<|.Call (.Name x np) [.Constant (.str m) jj T9] [] T8) ed pos) (uJ E C):=by
 intro L s Z H D I h;obtain⟨nm,q,Nn,bs,bm,bmB,hdct,sn,sub,ab,col,dd,k0,k1,k2,k3,k5,newId,Q,Bs,mN,hX,R,FB,S,g⟩:=X.at_
 refine wpAny_Raise_call_subU (C:=C) (nm:=nm) (q:=q) (N:=Nn) (bs:=bs) (bm:=bm) (hdct:=hdct) (sn:=sn) (sub:=sub) (ab:=ab) (col:=col) (dd:=dd) (k0:=k0) (k1:=k1) (k2:=k2) (k3:=k3) (k5:=k5) FB S FB (mN:=mN) g (I.ok.hd rfl) (by rw[hs];rfl) R
  (fU I hg hm ⟨rfl,?_⟩ hd)
 have hA:=(wc Ae Aj hs) T8 L s Z H (λxs H1=>xs.length=1/\E (.ref C) ed H1) I ⟨rfl,h⟩;rw[hs]at hA ⊢;refine Py (kL hA (λY a F=>?_) λ_ _ y=>y);obtain⟨vv,H1,I1,r,B,hE⟩:=F;obtain⟨hC,hN,T⟩:=hX a.heap I1.kIn;refine⟨rfl,?_,hC,hN,T,λh' e hx=>?_⟩
 .show Y.length<=sizeLine
  rw[<- r.length,B]
  decide
 have O:(envOfC T4 scope s0.heap.objs.size f cd).frame=cb s0.heap.objs.size:=rfl;have p:fW (envOfC T4 scope s0.heap.objs.size f cd::outer)=s0.heap.objs.size::fW outer:=rX O;have kB:(Qu a.heap<|fW (envOfC T4 scope s0.heap.objs.size f cd::outer)).StaysIn a.heap:=λb o e=>W.of_hideAll _ e;show eT (ft P w) (A.deeper<|envOfC T4 scope s0.heap.objs.size f cd) (leaving (envOfC T4 scope s0.heap.objs.size f cd)<|.ref e) (λ_ j=>tm P w C outer H0 s0 E (.ref e) j) (λe' j=>tm P w C outer H0 s0 E e' j) _;refine wpAny_leaves_madeW I1.ok.frames O kB (fv I1.stack λb c=>c) hx λG t i _ _ hup=>?_;have U:a.heap.UpToSlots G:=(Heap.UpToSlots.of_keeps hx.keeps).trans hup;have l:∀{b:eC}{o:Obj},a.heap.get? b=cb o->b∉fW (envOfC T4 scope s0.heap.objs.size f cd::outer)->(Qu a.heap<|fW (envOfC T4 scope s0.heap.objs.size f cd::outer)).get? b=cb o:=λe n=>W.hideAll_get _ e n;have sT:∀b u,H1 b=cb u->∃o,(Qu a.heap<|fW (envOfC T4 scope s0.heap.objs.size f cd::outer)).get? b=cb o:=λb u e=>by
  obtain⟨v,hv⟩:=ObjOk.obj (I1.hok b u e);exact⟨v,l hv λz=>by rw[I1.stkFree b z]at e;cases e⟩
 have M:Un (fW (envOfC T4 scope s0.heap.objs.size f cd::outer)) [] H1 H1 a.heap G:=by
  refine vh Un.refl kB i.1 U (λb o q c=>⟨o,l q c⟩) (λb c o q Y=>?_) λb c=>I1.stkFree b c;obtain⟨_,o',J,hd'⟩:=I1.stack.mem (show b∈_ from c);rw[q]at J;cases J;exact hd' Y
 rw[p]at M;refine⟨e,H1,_,.ref t,rfl,I1.os,I1.bare,Cc I1.base M (Mn _),oN I1.hok kB i.1 sT,i,sT,λb o q c=>?_,hE⟩;obtain⟨o1,q1⟩:=I1.base.there b o q (λz=>absurd (show b∈([]:Uj) from z) (by simp))
 refine⟨o1,l q1 λz=>?_⟩;rw[p]at z;rcases Mm.mp z with e'|z
 .exact MT _ (e'▸Mj q)
 .exact c z
end
noncomputable abbrev Cx.marked(X:Cx)(e:cx):Cx:={ X with A:=X.A.mark (cb e),calm:=eH,xe:=λ_ _=>False }
section
variable{X:Cx}{T0:Uo}{Z:St}{e:cx}
theorem Cx.Ok.mark(ok:X.Ok)(e:cx):(X.marked e).Ok:=
 ⟨ok.mod,ok.kind,ok.glob,ok.blt,ok.above,ok.inj,ok.has,ok.cab,λz=>(Bool.noConfusion z),ok.frames,ok.stk,ok.exf,ok.bs,ok.bsz,ok.noex,ok.exfs,ok.funs,ok.frf⟩
theorem Inv.mark(I:Inv X T0 Z H s)(e:cx):Inv (X.marked e) T0 Z H s:=⟨I.ok.mark e,I.os,I.bare,I.base,I.loc,I.cell,I.free,I.freeC,I.pin,I.hok,I.len⟩
theorem Inv.unmark(ok:X.Ok)(I:Inv (X.marked e) T0 Z H s):Inv X T0 Z H s:=⟨ok,I.os,I.bare,I.base,I.loc,I.cell,I.free,I.freeC,I.pin,I.hok,I.len⟩
theorem SP.unmark{D:Ends}{f:Flow}{s':ee}(ok:X.Ok)(h:SP (X.marked e) T0 D f s'):SP X T0 D f s':=by
 cases f with
 |next=>obtain⟨a,H',I,q⟩:=h;exact⟨a,H',I.unmark ok,q⟩
 |brk=>obtain⟨a,H',I,q⟩:=h;exact⟨a,H',I.unmark ok,q⟩
 |cont=>obtain⟨a,H',I,q⟩:=h;exact⟨a,H',I.unmark ok,q⟩
 |ret u=>obtain⟨v,a,H',I,r,q⟩:=h;exact⟨v,a,H',I.unmark ok,r,q⟩
noncomputable def A6(C:eC)(sp:Sp)(dvs:List V)(ta:TA)(ts:TS):TS:=λD Z H=>ta Z H λa H1=>sp (a++dvs) H1 (λ_ H2=>D.nx Z H2) (λ_ _ H2=>ts D Z H2)
theorem va{C f:eC}{k:Nat}{fd:ka}{ps:Uh}{sp:Sp}{j:List V}{ds:Ui}{x Y:Str}{p cp ep np T pos:Pos}{e:g1}{es:Uk}{ta:TA}{l:pd}{g:Ul}{ts:TS}(R:X.stack=X.env::X.outer)(hfL:X.env.frame=cb X.env.locals)(F:FnOk X.prog X.w X.K X.mg X.base (tm X.prog X.w C) k f fd ps sp)(hr:Room k X.A)(hg:Gl X x)(hm:X.mg x=cb (.ref f))(hk:N6 X.K (.ref f)=true)(hb:Binds X.K fd ps ds)(hd:Vals j ds)(ha:PA X.nox (e::es) ta)(EX:ExcAt X.K C)(hgC:Gl X Y)(hmC:X.mg Y=cb (.ref C))(hsu:∀S:eC,wx (X.marked<|.ref S) (l::g) ts)(hdb:(x==("__debug__":Str))=false:=by decide)(hdC:(Y==("__debug__":Str))=false:=by decide)(he:fe (e::es) X.env=(eH,g3 e X.env)::fe es X.env:=by rfl)(hpl:(lb cp<|starEach es X.env).any (·.1)=false:=by rfl)(hsw:pb (.Call (.Name x p) (e::es) [] cp) ed ep.line X.env=pure false:=by rfl):
  PS X (.Try [.Expr (.Call (.Name x p) (e::es) [] cp) ep] [.ExceptHandler (cb<|.Name Y np) ed (l::g) T] [] [] pos) (A6 C sp j ta ts):=by
 intro T0 s Z H D I h;refine wpAny_Try_except (S8<|wpAny_Expr_any ?_ I.quiet hsw);refine ol (fU I hg hm ?_ hdb);refine Ql (h₀:=X.base) I.ok.mod.kin hk (kL (ha cp T0 s Z H _ (I.wish _) h) (λO U ⟨E,H1,I1',r,q⟩=>?_) λ_ _ z=>Nt z) he hpl;have I1:Inv X T0 Z H1 U:=I1'.unwish;refine⟨I1.kIn,?_⟩;have r2:Vals (E++j) (O++ds):=r.append hd;have hl:(O++ds).length=ps.length:=by rw[<- r2.length];exact F.len _ _ _ _ q
 refine Th (py (F.run X.A X.stack U H1 ⟨O,[]⟩ (O++ds) (E++j) _ _ hr I1.env0 (hb U O I1.kIn hl) r2 q) λrr s' L=>?_);cases rr with
 |ok fl=>
  cases fl with
  |ret u=>
   obtain⟨x',H2,I2,_,q2⟩:=I1.after L;exact t9 (t9 ⟨Z,H2,I2,q2⟩)
  |next=>exact Nt L
  |brk=>exact Nt L
  |cont=>exact Nt L
 |error er=>
  obtain⟨S,H',B,a0,rfl,hos,v,un,hok,i,sT,sA,hE⟩:=L;obtain⟨nm,qn,Nn,bs,bm,bmB,hdct,sn,sub,ab,col,dd,k0,k1,k2,k3,k5,newId,W,Bs,mN,hX,hni,FB,hBs,n⟩:=EX.at_;have nf:∀b∈fW X.stack,∀o,U.heap.get? b=cb o->∀E,o.data≠.fields E:=λb m o q' E=>by
   obtain⟨_,o',M,hd'⟩:=I1.stack.mem (show b∈_ from m);rw[q']at M;cases M;exact hd' E
  have a:∀J:g4,B.StaysIn J->s'.heap.UpToSlots J->Inv X T0 Z H' { s' with heap:=J }:=λJ k up=>
   I1.call' (s':={ s' with heap:=J }) hos (vh un i.1 k up sA nf λb m=>I1.stkFree b m) (oN hok i.1 k sT) v λb z=>absurd (show b∈([]:Uj) from z) (by simp)
  rw[R]at i;have hfr:X.A.frames=cb (X.env::X.outer):=by rw[<- R];exact I1.ok.frames
  refine wpAny_looks_onW hfr hfL i λh4 y up4=>?_;refine wpAny_landsW y λh5 c G=>?_;have I5:=(a h5 c.1<|up4.trans G).mark (.ref S);obtain⟨hC,_,_⟩:=hX h5 I5.kIn;obtain⟨ob,hob,Q⟩:=c.there;refine wpAny_handleBy_cons (codeAny_handlers_test<|fU I5 hgC hmC ?_ hdC) (by intro q';cases q')
  refine wpAny_excMatches_sub_self hC hob Q n (codeAny_handlers_suite ?_);refine lands_againW c λh6 N up6=>?_;have I6:=(a h6 N.1<|(up4.trans G).trans up6).mark (.ref S);exact kL (hsu S T0 _ Z H' D I6 hE) (λfl s7 q7=>q7.unmark I.ok) λ_ _ z=>Nt z
end
end _2
namespace _3
open PySem _2
variable{p:eC}{B:Bd}{X:Cx}{U:Dl}{c e:g1}{H H' H1:Hp}{M M1:Mem}{K:Mp}{pos:Pos}{Z:St}{r:d_}
inductive D where
 |non|bl (b:Bool)|int (i:Int)|str (x:Str)|ty (n:String)|ref (a:eC)|tup (xs:List D)|lst (xs:List D)|mt (xs:List D)|ml (xs:List D)|fd (ks:List (List bh)) (xs:List D)
def TpD(_:Mp)(H:Hp)(p:eC)(vs:List V):Prop:=H p=cb (.tup vs)
def TpM(K:Mp)(p:eC)(vs:List V):Prop:=∃(o:Obj)(Ua:Ur)(n:Nat),K.lookup p=cb o/\o.cls=.type "tuple"/\o.data=.seq Ua n/\Ua.size<=sizeLine/\Vals vs Ua.toList
def FzD(K:Mp)(H:Hp)(p:eC)(vs:List V):Prop:=
 ∃o,H p=cb (.frz o<|.lst vs)
def FzK(K:Mp)(H:Hp)(p:eC)(vs:List V):Prop:=(∃o,H p=cb (.frz o<|.lst vs))\/∃(o:Obj)(Ua:Ur)(n:Nat),K.lookup p=cb o/\o.cls=.type "list"/\o.dict=ed/\o.data=.seq Ua n/\Ua.size<=sizeLine/\Vals vs Ua.toList
theorem FzK.sq{vs:List V}(h:FzK K H p vs):SqL K H p vs:=h.imp (λ⟨o,e⟩=>.inr ⟨o,e⟩) λx=>x
theorem TpD.sq{vs:List V}(h:TpD K H p vs):iA K H p vs:=.inl (.inl h)
theorem TpM.sq{vs:List V}(h:TpM K p vs):iA K H p vs:=.inr h
theorem FzD.sq{vs:List V}(h:FzD K H p vs):SqL K H p vs:=by
 obtain⟨o,h⟩:=h;exact .inl (.inr ⟨o,h⟩)
def FdD(H:Hp)(p:eC)(ks:List (List bh))(vs:List V):Prop:=ks.length=vs.length/\∃o,H p=cb (.frz o<|.dT<|ks.zip vs)
mutual
def Rp(K:Mp)(H:Hp):D->V->Prop
 |.non,v=>v=.non
 |.bl b,v=>v=.bl b
 |.int i,v=>v=.int i
 |.str x,v=>v=.str x
 |.ty n,v=>v=.ty n
 |.ref a,v=>v=.ref a
 |.tup xs,v=>∃p vs,v=.ref p/\TpD K H p vs/\Rps K H xs vs
 |.lst xs,v=>∃p vs,v=.ref p/\FzD K H p vs/\Rps K H xs vs
 |.mt xs,v=>∃p vs,v=.ref p/\TpM K p vs/\Rps K H xs vs
 |.ml xs,v=>∃p vs,v=.ref p/\FzK K H p vs/\Rps K H xs vs
 |.fd ks xs,v=>∃p vs,v=.ref p/\FdD H p ks vs/\Rps K H xs vs
def Rps(K:Mp)(H:Hp):List D->List V->Prop
 |[],vs=>vs=[]
 |x::xs,vs=>∃v r,vs=v::r/\Rp K H x v/\Rps K H xs r
end
structure Imm(H H':Hp):Prop where
 tup:∀p vs,H p=cb (.tup vs)->H' p=cb (.tup vs)
 frz:∀p o u,H p=cb (.frz o u)->H' p=cb (.frz o u)
theorem Imm.refl:Imm H H:=⟨λ_ _ e=>e,λ_ _ _ e=>e⟩
theorem TpD.mono{vs:List V}(i:Imm H H')(h:TpD K H p vs):TpD K H' p vs:=i.tup _ _ h
theorem FzK.mono{vs:List V}(i:Imm H H')(h:FzK K H p vs):FzK K H' p vs:=h.imp (λ⟨o,e⟩=>⟨o,i.frz _ _ _ e⟩) λx=>x
theorem FzD.mono{vs:List V}(i:Imm H H')(h:FzD K H p vs):FzD K H' p vs:=let ⟨o,e⟩:=h;⟨o,i.frz _ _ _ e⟩
mutual
theorem Rp.mono{K:Mp}{H H':Hp}(i:Imm H H'):∀{d:D}{v:V},Rp K H d v->Rp K H' d v
 |.non,_,h=>h
 |.bl _,_,h=>h
 |.int _,_,h=>h
 |.str _,_,h=>h
 |.ty _,_,h=>h
 |.ref _,_,h=>h
 |.tup _,_,h=>by
  obtain⟨p,a,e,t,r⟩:=h;exact⟨p,a,e,t.mono i,Rps.mono i r⟩
 |.lst _,_,h=>by
  obtain⟨p,a,e,t,r⟩:=h;exact⟨p,a,e,t.mono i,Rps.mono i r⟩
 |.mt _,_,h=>by
  obtain⟨p,a,e,t,r⟩:=h;exact⟨p,a,e,t,Rps.mono i r⟩
 |.ml _,_,h=>by
  obtain⟨p,a,e,t,r⟩:=h;exact⟨p,a,e,t.mono i,Rps.mono i r⟩
 |.fd _ _,_,h=>by
  obtain⟨p,a,e,⟨t,o,b⟩,r⟩:=h;exact⟨p,a,e,⟨t,o,i.frz _ _ _ b⟩,Rps.mono i r⟩
theorem Rps.mono{K:Mp}{H H':Hp}(i:Imm H H'):∀{ds:List D}{vs:List V},Rps K H ds vs->Rps K H' ds vs
 |[],_,h=>h
 |_::_,_,h=>by
  obtain⟨v,r,e,a,b⟩:=h;exact⟨v,r,e,Rp.mono i a,Rps.mono i b⟩
end
section
theorem Rps.nil:Rps K H [] []:=rfl
theorem Rps.cons{d:D}{v:V}{ds:List D}{vs:List V}(a:Rp K H d v)(b:Rps K H ds vs):Rps K H (d::ds) (v::vs):=⟨v,vs,rfl,a,b⟩
theorem Rps.length:∀{ds:List D}{vs:List V},Rps K H ds vs->ds.length=vs.length
 |[],_,h=>by cases h;rfl
 |_::_,_,h=>by obtain⟨v,r,rfl,_,b⟩:=h;simp[b.length]
theorem Rps.get:∀{ds:List D}{vs:List V},Rps K H ds vs->∀{i:Nat}{d:D},ds[i]?=cb d->∃v,vs[i]?=cb v/\Rp K H d v
 |[],_,_,i,d,e=>by simp at e
 |x::xs,_,h,i,d,e=>by
  obtain⟨v,r,rfl,a,b⟩:=h;cases i with
  |zero=>simp at e;subst e;exact⟨v,by simp,a⟩
  |succ i=>simpa using b.get (by simpa using e)
theorem Rps.append:∀{ds es:List D}{vs f:List V},Rps K H ds vs->Rps K H es f->Rps K H (ds++es) (vs++f)
 |[],_,_,_,h,g=>by cases h;exact g
 |_::_,_,_,_,h,g=>by
  obtain⟨v,r,rfl,a,b⟩:=h;exact⟨v,_,rfl,a,b.append g⟩
theorem Rps.take:∀{ds:List D}{vs:List V}(n:Nat),Rps K H ds vs->Rps K H (ds.take n) (vs.take n)
 |[],_,n,h=>by cases h;simp[Rps]
 |_::_,_,0,h=>rfl
 |_::_,_,n+1,h=>by
  obtain⟨v,r,rfl,a,b⟩:=h;exact⟨v,_,rfl,a,b.take n⟩
theorem Rps.drop:∀{ds:List D}{vs:List V}(n:Nat),Rps K H ds vs->Rps K H (ds.drop n) (vs.drop n)
 |[],_,n,h=>by cases h;simp[Rps]
 |_::_,_,0,h=>h
 |_::_,_,n+1,h=>by
  obtain⟨v,r,rfl,a,b⟩:=h;exact b.drop n
theorem Rps.set{d:D}{v:V}(a:Rp K H d v):∀{ds:List D}{vs:List V}(i:Nat),Rps K H ds vs->Rps K H (ds.set i d) (vs.set i v)
 |[],_,_,h=>by cases h;rfl
 |_::_,_,0,h=>by obtain⟨w,r,rfl,_,b⟩:=h;exact⟨v,r,rfl,a,b⟩
 |_::_,_,i+1,h=>by obtain⟨w,r,rfl,c,b⟩:=h;exact⟨w,_,rfl,c,b.set a i⟩
theorem Rps.dropLast{ds:List D}{vs:List V}(h:Rps K H ds vs):Rps K H ds.dropLast vs.dropLast:=by
 rw[Rh,Rh,h.length];exact h.take _
theorem Rps.eraseIdx:∀{ds:List D}{vs:List V}(i:Nat),Rps K H ds vs->Rps K H (ds.eraseIdx i) (vs.eraseIdx i)
 |[],_,_,h=>by cases h;rfl
 |_::_,_,0,h=>by obtain⟨w,r,rfl,_,b⟩:=h;exact b
 |_::_,_,i+1,h=>by obtain⟨w,r,rfl,c,b⟩:=h;exact⟨w,_,rfl,c,b.eraseIdx i⟩
theorem tf:∀{a:Ug}{vs:List V},vs=a.map V.int->Rps K H (a.map D.int) vs
 |[],_,e=>e
 |i::a,_,e=>by subst e;exact⟨_,_,rfl,rfl,tf rfl⟩
end
inductive MO where
 |lst (xs:List D)
 |dK (T5:List (bh×D))
 |dT (T5:List (List bh×D))
 |ins (C:eC) (fs:List (Str×D))
noncomputable abbrev Mem:=eC->Option MO
noncomputable def Mem.upd(M:Mem)(a:eC)(o:MO):Mem:=λb=>if b=a then cb o else M b
noncomputable def Mem.del(M:Mem)(a:eC):Mem:=λb=>if b=a then ed else M b
def Rkv{κ:Type}(K:Mp)(H:Hp):List (κ×D)->List (κ×V)->Prop:=SM λp q=>p.1=q.1/\Rp K H p.2 q.2
def RepO(K:Mp)(H:Hp)(a:eC):MO->Prop
 |.lst xs=>∃vs,H a=cb (.lst vs)/\Rps K H xs vs
 |.dK T5=>∃ws,H a=cb (.dK ws)/\Rkv K H T5 ws
 |.dT T5=>∃ws,H a=cb (.dT ws)/\Rkv K H T5 ws
 |.ins C fs=>∃dx ws,H a=cb (.ins C dx ws)/\Rkv K H fs ws
def RepH(K:Mp)(H:Hp)(M:Mem):Prop:=∀a o,M a=cb o->RepO K H a o
section
variable{a b:eC}{o:MO}{u:HO}
@[simp] theorem Mem.upd_same:(M.upd a o) a=cb o:=by simp[Mem.upd]
theorem ai(h:b≠a):(M.upd a o) b=M b:=by simp[Mem.upd,h]
@[simp] theorem Mem.upd_upd {o':MO}:(M.upd a o).upd a o'=M.upd a o':=by funext c;simp[Mem.upd];split<;>rfl
@[simp] theorem Mem.upd_del:(M.upd a o).del a=M.del a:=by funext c;simp[Mem.upd,Mem.del];split<;>rfl
theorem ar(h:M a=ed):M.del a=M:=by
 funext c;simp only[Mem.del];split
 .rename_i e;rw[e,h]
 .rfl
theorem bZ{f:MO}(h:a≠b):(M.upd a o).upd b f=(M.upd b f).upd a o:=by
 funext c;simp only[Mem.upd];split
 .rename_i e;rw[e,if_neg (ML h)]
 .rfl
theorem Mem.ne{o:MO}(h:M a=cb o)(h':M b=ed):a≠b:=by intro e;subst e;rw[h]at h';cases h'
theorem Rkv.mono{f:Type}{T5:List (f×D)}{g:List (f×V)}(i:Imm H H')(h:Rkv K H T5 g):Rkv K H' T5 g:=dI h λ_ _ z=>⟨z.1,z.2.mono i⟩
theorem RepO.obj(r:RepO K H a o):∃u,H a=cb u:=by
 cases o with
 |lst xs=>obtain⟨f,e,_⟩:=r;exact⟨_,e⟩
 |dK xs=>obtain⟨f,e,_⟩:=r;exact⟨_,e⟩
 |dT xs=>obtain⟨f,e,_⟩:=r;exact⟨_,e⟩
 |ins C fs=>obtain⟨g,f,e,_⟩:=r;exact⟨_,e⟩
theorem RepO.keep(r:RepO K H a o)(i:Imm H H')(e:H' a=H a):RepO K H' a o:=by
 cases o with
 |lst xs=>obtain⟨f,q,z⟩:=r;exact⟨f,e.trans q,z.mono i⟩
 |dK xs=>obtain⟨f,q,z⟩:=r;exact⟨f,e.trans q,z.mono i⟩
 |dT xs=>obtain⟨f,q,z⟩:=r;exact⟨f,e.trans q,z.mono i⟩
 |ins C fs=>obtain⟨g,f,q,z⟩:=r;exact⟨g,f,e.trans q,z.mono i⟩
theorem RepH.fresh(r:RepH K H M)(h:H a=ed):M a=none:=by
 cases e:M a with
 |none=>rfl
 |some o=>obtain⟨u,q⟩:=(r a o e).obj;rw[h]at q;cases q
def vH:Option HO->Prop
 |some (.tup _)=>False
 |some (.frz _ _)=>False
 |_=>True
theorem Imm.upd(h:vH (H a)):Imm H (upd H a u):=by
 refine⟨λp f e=>?_,λp o v e=>?_⟩
 .rw[aE];exact e
  rintro rfl;rw[e]at h;exact h
 .rw[aE];exact e
  rintro rfl;rw[e]at h;exact h
theorem Imm.new(h:H a=ed):Imm H (_2.upd H a u):=Imm.upd (by rw[h];trivial)
theorem RepO.loose(r:RepO K H a o):vH (H a):=by
 cases o with
 |lst xs=>obtain⟨f,e,_⟩:=r;rw[e];trivial
 |dK xs=>obtain⟨f,e,_⟩:=r;rw[e];trivial
 |dT xs=>obtain⟨f,e,_⟩:=r;rw[e];trivial
 |ins C fs=>obtain⟨g,f,e,_⟩:=r;rw[e];trivial
theorem RepH.new(r:RepH K H M)(h:H a=ed):RepH K (_2.upd H a u) M:=λb o e=>by
 obtain⟨v,q⟩:=(r b o e).obj;exact(r b o e).keep (Imm.new h) (aE<|aS q h)
theorem RepH.put(r:RepH K H M)(h:vH (H a))(n:RepO K (_2.upd H a u) a o):RepH K (_2.upd H a u) (M.upd a o):=λb p e=>by
 by_cases f:b=a
 .subst f;rw[Mem.upd_same]at e;cases e;exact n
 .rw[ai f]at e
  exact(r b p e).keep (Imm.upd h) (aE f)
theorem RepH.keep(r:RepH K H M)(i:Imm H H')(e:∀b o,M b=cb o->H' b=H b):RepH K H' M:=λb o q=>(r b o q).keep i (e b o q)
structure Frm(M:Mem)(H:Hp)(M':Mem)(H':Hp):Prop where
 keep:∀b u,H b=cb u->M b=ed->H' b=cb u/\M' b=ed
variable{M':Mem}
theorem Frm.refl:Frm M H M H:=⟨λ_ _ e n=>⟨e,n⟩⟩
theorem Frm.trans{M2:Mem}{H2:Hp}(x:Frm M H M1 H1)(y:Frm M1 H1 M2 H2):Frm M H M2 H2:=⟨λb u e n=>let ⟨e1,n1⟩:=x.keep b u e n;y.keep b u e1 n1⟩
theorem Frm.imm(f:Frm M H M' H')(r:RepH K H M):Imm H H':=by
 have g:∀b u,H b=cb u->¬vH (cb u)->H' b=cb u:=λb u e n=>(f.keep b u e (by
  cases q:M b with
  |none=>rfl
  |some o=>exact absurd (by rw[<- e];exact(r b o q).loose) n)).1
 exact⟨λp h e=>g p _ e (λz=>z),λp o u e=>g p _ e (λz=>z)⟩
theorem Frm.new(h:H a=ed):Frm M H M (_2.upd H a u):=⟨λb v e n=>⟨by rw[aE (aS e h)];exact e,n⟩⟩
theorem Frm.put(h:H a=ed\/∃o,M a=cb o):Frm M H (M.upd a o) (_2.upd H a u):=⟨λb v e n=>by
 have f:b≠a:=by
  rintro rfl
  rcases h with h|⟨o,h⟩
  .rw[h]at e;cases e
  .rw[h]at n;cases n
 exact⟨by rw[_2.aE f];exact e,by rw[ai f];exact n⟩⟩
theorem Frm.del(h:∃o,M a=cb o):Frm M H (M.del a) (_2.upd H a u):=⟨λb v e n=>by
 have f:b≠a:=by
  rintro rfl
  obtain⟨o,h⟩:=h;rw[h]at n;cases n
 refine⟨by rw[_2.aE f];exact e,?_⟩
 unfold Mem.del;rw[if_neg f];exact n⟩
theorem Rp.mf{d:D}{v:V}(x:Rp K H d v)(r:RepH K H M)(f:Frm M H M' H'):Rp K H' d v:=x.mono (f.imm r)
theorem Rps.mf{d:List D}{v:List V}(x:Rps K H d v)(r:RepH K H M)(f:Frm M H M' H'):Rps K H' d v:=x.mono (f.imm r)
end
noncomputable abbrev Dl:=List (Option D)
noncomputable abbrev DK:=D->Mem->Prop
noncomputable abbrev bj:=Dl->Mem->DK->Prop
noncomputable abbrev fg:=Dl->Mem->(Bool->Mem->Prop)->Prop
noncomputable abbrev eN:=Dl->Mem->(List D->Mem->Prop)->Prop
structure RepS(K:Mp)(H:Hp)(U:Dl)(Z:St):Prop where
 len:U.length=Z.length
 get:∀(i:Nat)(d:D),U[i]?=cb (cb d)->∃v,Z[i]?=cb (cb v)/\Rp K H d v
theorem RepS.mono(r:RepS K H U Z)(i:Imm H H'):RepS K H' U Z:=
 ⟨r.len,λj d e=>by obtain⟨v,a,b⟩:=r.get j d e;exact⟨v,a,b.mono i⟩⟩
theorem RepS.set{i:Nat}{d:D}{v:V}(r:RepS K H U Z)(h:Rp K H d v):RepS K H (U.set i<|some d) (Z.set i<|some v):=by
 refine⟨by simp[r.len],λj e q=>?_⟩
 rw[List.getElem?_set]at q ⊢
 by_cases a:i=j
 .rw[if_pos a]at q ⊢
  by_cases b:i<U.length
  .rw[if_pos (by rw[<- r.len];exact a▸b)]
   rw[if_pos (a▸b)]at q;cases q;exact⟨v,rfl,h⟩
  .rw[if_neg (a▸b)]at q;cases q
 .rw[if_neg a]at q ⊢
  exact r.get j e q
structure Bd where
 p:Mem->Hp->Prop
 go:∀{M M':Mem}{H H':Hp},p M H->Frm M H M' H'->p M' H'
noncomputable def Bd.of(M:Mem)(H:Hp):Bd:=⟨λM' H'=>Frm M H M' H',λa b=>a.trans b⟩
structure SR(X:Cx)(B:Bd)(U:Dl)(M:Mem)(Z:St)(H:Hp):Prop where
 i0:B.p M H
 rh:RepH X.K H M
 rs:RepS X.K H U Z
theorem SR.go{M':Mem}(s:SR X B U M Z H)(rh:RepH X.K H' M')(i:Frm M H M' H'):SR X B U M' Z H':=⟨B.go s.i0 i,rh,s.rs.mono<|i.imm s.rh⟩
def Up(K:Mp)(M:Mem)(H:Hp)(QQ:DK)(Q:VK):Prop:=∀d M',QQ d M'->∀v H',RepH K H' M'->Frm M H M' H'->Rp K H' d v->Q v H'
def UpT(K:Mp)(M:Mem)(H:Hp)(QQ:Bool->Mem->Prop)(Q:Bool->Hp->Prop):Prop:=∀b M',QQ b M'->∀H',RepH K H' M'->Frm M H M' H'->Q b H'
def UpA(K:Mp)(M:Mem)(H:Hp)(QQ:List D->Mem->Prop)(Q:List V->Hp->Prop):Prop:=∀ds M',QQ ds M'->∀vs H',RepH K H' M'->Frm M H M' H'->Rps K H' ds vs->Q vs H'
theorem Up.go{QQ:DK}{Q:VK}(u:Up K M H QQ Q)(i:Frm M H M1 H1):Up K M1 H1 QQ Q:=λd M' q v H' a b c=>u d M' q v H' a (i.trans b) c
theorem UpT.go{QQ:Bool->Mem->Prop}{Q:Bool->Hp->Prop}(u:UpT K M H QQ Q)(i:Frm M H M1 H1):UpT K M1 H1 QQ Q:=λd M' q H' a b=>u d M' q H' a (i.trans b)
inductive liftE(X:Cx)(B:Bd)(T:bj)(Z:St)(H:Hp)(Q:VK):Prop
 |mk (U:Dl) (M:Mem) (QQ:DK) (s:SR X B U M Z H) (h:T U M QQ) (u:Up X.K M H QQ Q):liftE X B T Z H Q
inductive liftT(X:Cx)(B:Bd)(T:fg)(Z:St)(H:Hp)(Q:Bool->Hp->Prop):Prop
 |mk (U:Dl) (M:Mem) (QQ:Bool->Mem->Prop) (s:SR X B U M Z H) (h:T U M QQ) (u:UpT X.K M H QQ Q):liftT X B T Z H Q
inductive liftA(X:Cx)(B:Bd)(T:eN)(Z:St)(H:Hp)(Q:List V->Hp->Prop):Prop
 |mk (U:Dl) (M:Mem) (QQ:List D->Mem->Prop) (s:SR X B U M Z H) (h:T U M QQ) (u:UpA X.K M H QQ Q):liftA X B T Z H Q
def DE(X:Cx)(B:Bd)(e:g1)(T:bj):Prop:=PE X e (liftE X B T)
def DT(X:Cx)(B:Bd)(e:g1)(T:fg):Prop:=PT X e (liftT X B T)
def DA(X:Cx)(B:Bd)(es:Uk)(T:eN):Prop:=PA X es (liftA X B T)
theorem aR{t t':TE}(h:PE X e t)(w:∀Z H Q,t' Z H Q->t Z H Q):PE X e t':=λa s Z H Q I q=>h a s Z H Q I (w Z H Q q)
theorem kb{t t':TT}(h:PT X e t)(w:∀Z H Q,t' Z H Q->t Z H Q):PT X e t':=λa s Z H Q I q=>h a s Z H Q I (w Z H Q q)
theorem xo{e:Uk}{t t':TA}(h:PA X e t)(w:∀Z H Q,t' Z H Q->t Z H Q):PA X e t':=λpos a s Z H Q I q=>h pos a s Z H Q I (w Z H Q q)
theorem ck{e:pd}{t t':TS}(h:PS X e t)(w:∀D Z H,t' D Z H->t D Z H):PS X e t':=λa s Z H D I q=>h a s Z H D I (w D Z H q)
theorem lI{e:Ul}{t t':TS}(h:wx X e t)(w:∀D Z H,t' D Z H->t D Z H):wx X e t':=λa s Z H D I q=>h a s Z H D I (w D Z H q)
def ac(i:Nat):bj:=λU M Q=>match U[i]? with
 |some (cb d)=>Q d M
 |_=>False
def dC(d:D):bj:=λ_ M Q=>Q d M
section
variable{a b:g1}{ta tb tc:bj}
theorem GK{i:Nat}{x:Str}(j:X.N[i]?=cb x)(l:Jq X.env.scope x)(m:(x==("__debug__":Str))=false:=by decide)(hcd:(x==("__classdict__":Str))=false:=by decide):DE X B (.Name x pos) (ac i):=by
 refine aR (Ig j l m hcd) ?_
 rintro Z H Q ⟨U,M,QQ,s,h,u⟩
 unfold ac at h
 split at h
 .rename_i d e
  obtain⟨v,f,g⟩:=s.rs.get i d e;exact⟨v,f,u d M h v H s.rh Frm.refl g⟩
 .exact h.elim
theorem yJ{v:V}{d:D}(h:PE X e (tC v))(r:∀H,Rp X.K H d v):DE X B e (dC d):=by
 refine aR h ?_
 rintro Z H Q ⟨U,M,QQ,s,h,u⟩
 exact u d M h v H s.rh Frm.refl (r H)
theorem G5{i j pos}:DE X B (.Constant (.int i) j pos) (dC<|.int i):=yJ Ii λ_=>rfl
theorem LW{i j pos}:DE X B (.Constant (.bool i) j pos) (dC<|.bl i):=yJ L9 λ_=>rfl
theorem Gq{j pos}:DE X B (.Constant .none j pos) (dC .non):=yJ Jb λ_=>rfl
theorem Gz{i j pos}:DE X B (.Constant (.str i) j pos) (dC<|.str i):=yJ Ae λ_=>rfl
theorem pC{x:Str}{v:V}{d:D}{u:cx}(h:Gl X x)(f:X.mg x=cb u)(r:RelV v u)(q:∀H,Rp X.K H d v)(g:(x==("__debug__":Str))=false:=by decide):DE X B (.Name x pos) (dC d):=yJ (C9 h f r g) q
noncomputable abbrev d_:=D->D->Mem->DK->Prop
inductive liftR2(X:Cx)(r:d_)(x y:V)(H:Hp)(Q:VK):Prop
 |mk (d1 d2:D) (M:Mem) (QQ:DK) (rh:RepH X.K H M) (r1:Rp X.K H d1 x) (r2:Rp X.K H d2 y) (h:r d1 d2 M QQ) (u:Up X.K M H QQ Q):liftR2 X r x y H Q
def ak(r:d_)(ta tb:bj):bj:=λU M Q=>ta U M λx M1=>tb U M1 λy M2=>r x y M2 Q
theorem jK{Q:VK}(h:liftE X B (ak r ta tb) Z H Q):JR (liftR2 X r) (liftE X B ta) (liftE X B tb) Z H Q:=by
 obtain⟨U,M,QQ,s,h,u⟩:=h;refine⟨U,M,_,s,h,λx M1 j v1 H1 f i1 m=>?_⟩;refine⟨U,M1,_,s.go f i1,j,λy M2 l v2 H2 g i2 i=>?_⟩;exact⟨x,y,M2,QQ,g,m.mf f i2,i,l,u.go<|i1.trans i2⟩
theorem lQ{op:SS}(f:cq X (lq op) (liftR2 X r))(g:DE X B a ta)(i:DE X B b tb):DE X B (.BinOp a op b pos) (ak r ta tb):=aR (JV f g i) λ_ _ _ h=>jK h
theorem oR{op:To}(g:cq X (g0 op) (liftR2 X r))(j:DE X B a ta)(i:DE X B b tb)(f:SY op b=eH):DE X B (.Compare a [op] [b] pos) (ak r ta tb):=aR (D_ g j i f) λ_ _ _ h=>jK h
theorem Fi(f:IxR X (liftR2 X r))(i:DE X B a ta)(j:DE X B b tb)(g:oE b):DE X B (.Subscript a b pos) (ak r ta tb):=aR (KI f i j g) λ_ _ _ h=>jK h
def ao(t:bj):fg:=λU M Q=>t U M λd M'=>match d with
 |.bl k=>Q k M'
 |_=>False
theorem dM{op:To}(m:cq X (g0 op) (liftR2 X r))(o:DE X B a ta)(n:DE X B b tb)(l:SY op b=eH):DT X B (.Compare a [op] [b] pos) (ao<|ak r ta tb):=by
 refine kb (D4 m o n l) ?_
 rintro Z H Q ⟨U,M,QQ,s,h,u⟩
 have g:liftE X B (ak r ta tb) Z H (λx H'=>∃k,x=.bl k/\Q k H'):=by
  refine⟨U,M,_,s,h,λd M' q v H' j i f=>?_⟩;cases d with
  |bl k=>exact⟨k,f,u k M' q H' j i⟩
  |_=>exact(show False from q).elim
 exact jK g
def vN(M:Mem):D->Option Bool
 |.non=>cb eH
 |.bl b=>cb b
 |.int i=>cb (i != 0)
 |.str y=>if y.length<=sizeLine then cb ((y.length:Int) != 0) else ed
 |.tup xs=>cb (!xs.isEmpty)
 |.lst xs=>cb (!xs.isEmpty)
 |.ref a=>match M a with
  |some (.lst xs)=>cb (!xs.isEmpty)
  |some (.dK xs)=>cb (!xs.isEmpty)
  |_=>ed
 |_=>ed
def bO(t:bj):fg:=λU M Q=>t U M λd M'=>match vN M' d with
 |some k=>Q k M'
 |none=>False
theorem fA{ds:List D}{vs:List V}(r:Rps K H ds vs):vs.isEmpty=ds.isEmpty:=by
 have:=r.length;cases ds<;>cases vs<;>simp_all
theorem HK{d:D}{v:V}{k:Bool}(l:RepH K H M)(r:Rp K H d v)(e:vN M d=cb k):GE K v H k:=by
 cases d with
 |non=>cases r;cases e;rfl
 |bl b=>cases r;cases e;rfl
 |int i=>cases r;cases e;rfl
 |str y=>
  cases r;simp only[vN]at e
  split at e
  .cases e;exact⟨by assumption,rfl⟩
  .cases e
 |ty n=>cases e
 |tup g=>
  obtain⟨p,f,rfl,t,r⟩:=r;cases e;exact .inr (.inl ⟨f,t.sq,by rw[fA r]⟩)
 |mt g=>cases e
 |ml g=>cases e
 |fd _ _=>cases e
 |lst g=>
  obtain⟨p,f,rfl,t,r⟩:=r;cases e;exact .inl ⟨f,t.sq,by rw[fA r]⟩
 |ref a=>
  cases r;simp only[vN]at e
  split at e
  .rename_i g q
   obtain⟨f,h,j⟩:=l _ _ q;cases e;exact .inl ⟨f,SqL.of h,by rw[fA j]⟩
  .rename_i g q
   obtain⟨f,h,j⟩:=l _ _ q;cases e;refine .inr (.inr ⟨f,h,?_⟩);cases j<;>rfl
  .cases e
theorem IA(h:DE X B e ta)(l:∀f,TL e X.env f=(do let v <- f;S3 e.pos;No [v] (truthy v)):=by intro _;rfl):DT X B e (bO ta):=by
 refine kb (AH h l) ?_
 rintro Z H Q ⟨U,M,QQ,s,h,u⟩
 refine⟨U,M,_,s,h,λd M' q v H' g i j=>?_⟩
 split at q
 .rename_i k e
  exact⟨k,HK g j e,u k M' q H' g i⟩
 .exact q.elim
def df(t:fg):fg:=λU M Q=>t U M λc M1=>Q (!c) M1
theorem IC{f:fg}(j:DT X B a f):DT X B (.UnaryOp .Not a pos) (df f):=by
 refine kb (G4 j) ?_
 rintro Z H Q ⟨U,M,QQ,s,h,u⟩
 exact⟨U,M,_,s,h,λc M' q H' g i=>u _ M' q H' g i⟩
end
section
variable{a b:g1}{ta tb tc:bj}{tA tB':fg}{rest:Uk}
def DW(X:Cx)(B:Bd)(e:g1)(T:fg):Prop:=PW X e (liftT X B T)
theorem L_{T:fg}(h:DW X B e T):DT X B e T:=LZ h
theorem xC{t t':TT}(h:PW X e t)(w:∀Z H Q,t' Z H Q->t Z H Q):PW X e t':=λg f s Z H Q I q=>h g f s Z H Q I (w Z H Q q)
def gk(t u:fg):fg:=λU M Q=>t U M λc M1=>if c=true then u U M1 Q else Q eH M1
def jw(t u:fg):fg:=λU M Q=>t U M λc M1=>if c=true then Q true M1 else u U M1 Q
theorem Es(f:DT X B a tA):DW X B (.BoolOp .And [a] pos) tA:=DR f
theorem HS(f:DT X B a tA):DW X B (.BoolOp .Or [a] pos) tA:=FV f
theorem IJ(g:DT X B a tA)(j:DW X B (.BoolOp .And (b::rest) pos) tB'):DW X B (.BoolOp .And (a::b::rest) pos) (gk tA tB'):=by
 refine xC (GD g j) ?_
 rintro Z H Q ⟨U,M,QQ,s,h,u⟩
 refine⟨U,M,_,s,h,λc M' q H' f i=>?_⟩;cases c with
 |true=>rw[if_pos rfl]at q ⊢;exact⟨U,M',QQ,s.go f i,q,u.go i⟩
 |false=>rw[if_neg MC]at q ⊢;exact u _ M' q H' f i
theorem Jr(g:DT X B a tA)(j:DW X B (.BoolOp .Or (b::rest) pos) tB'):DW X B (.BoolOp .Or (a::b::rest) pos) (jw tA tB'):=by
 refine xC (Lg g j) ?_
 rintro Z H Q ⟨U,M,QQ,s,h,u⟩
 refine⟨U,M,_,s,h,λc M' q H' f i=>?_⟩;cases c with
 |false=>rw[if_neg MC]at q ⊢;exact⟨U,M',QQ,s.go f i,q,u.go i⟩
 |true=>rw[if_pos rfl]at q ⊢;exact u _ M' q H' f i
def eY(ta tb:bj):bj:=λU M Q=>ta U M λx M1=>match x with
 |.bl true=>tb U M1 Q
 |.bl eH=>Q (.bl eH) M1
 |_=>False
def F6(ta:bj):bj:=λU M Q=>ta U M λx M1=>match x with
 |.bl c=>Q (.bl<|!c) M1
 |_=>False
theorem Hz{op}{t:bj}(h:DE X B a t):DE X B (.BoolOp op [a] pos) t:=Il h
theorem Gd(g:DE X B a ta)(j:DE X B (.BoolOp .And (b::rest) pos) tb):DE X B (.BoolOp .And (a::b::rest) pos) (eY ta tb):=by
 refine aR (Hy g j) ?_
 rintro Z H Q ⟨U,M,QQ,s,h,u⟩
 refine⟨U,M,_,s,h,λd M' q v H' f i r=>?_⟩;cases d with
 |bl c=>
  cases c with
  |true=>exact⟨true,r,by rw[if_pos rfl];exact⟨U,M',QQ,s.go f i,q,u.go i⟩⟩
  |false=>exact⟨eH,r,by rw[if_neg MC];exact u _ M' q _ H' f i rfl⟩
 |_=>exact(show False from q).elim
theorem J8(g:DE X B a ta):DE X B (.UnaryOp .Not a pos) (F6 ta):=by
 refine aR (He g) ?_
 rintro Z H Q ⟨U,M,QQ,s,h,u⟩
 refine⟨U,M,_,s,h,λd M' q v H' f i r=>?_⟩;cases d with
 |bl c=>exact⟨c,r,u _ M' q _ H' f i rfl⟩
 |_=>exact(show False from q).elim
def qh(t:fg)(ta tb:bj):bj:=λU M Q=>t U M λc M1=>if c=true then ta U M1 Q else tb U M1 Q
theorem Ax(g:DT X B c tA)(j:DE X B a ta)(l:DE X B b tb):DE X B (.IfExp c a b pos) (qh tA ta tb):=by
 refine aR (zL g j l) ?_
 rintro Z H Q ⟨U,M,QQ,s,h,u⟩
 refine⟨U,M,_,s,h,λc M' q H' f i=>?_⟩;cases c with
 |true=>rw[if_pos rfl]at q ⊢;exact⟨U,M',QQ,s.go f i,q,u.go i⟩
 |false=>rw[if_neg MC]at q ⊢;exact⟨U,M',QQ,s.go f i,q,u.go i⟩
def dJ(r r':d_)(ta tb tc:bj):bj:=λU M Q=>ta U M λx M1=>tb U M1 λy M2=>r x y M2 λz M3=>match z with
 |.bl true=>tc U M3 λw M4=>r' y w M4 Q
 |.bl eH=>Q (.bl eH) M3
 |_=>False
variable{es:Uk}{te:bj}{t:eN}
def ae:eN:=λ_ M Q=>Q [] M
def aa(ta:bj)(tr:eN):eN:=λU M Q=>ta U M λx M1=>tr U M1 λf M2=>Q (x::f) M2
theorem HE:DA X B [] ae:=by
 refine xo Aj ?_
 rintro Z H Q ⟨U,M,QQ,s,h,u⟩
 exact u [] M h [] H s.rh Frm.refl .nil
theorem Em(q:DE X B e te)(n:DA X B es t)(o:fe (e::es) X.env=(eH,g3 e X.env)::fe es X.env:=by rfl):DA X B (e::es) (aa te t):=by
 refine xo (wc q n o) ?_
 rintro Z H Q ⟨U,M,QQ,s,h,u⟩
 refine⟨U,M,_,s,h,λx M1 j v1 H1 f i1 m=>?_⟩;refine⟨U,M1,_,s.go f i1,j,λv M2 l v2 H2 g i2 i=>?_⟩;exact u _ M2 l _ H2 g (i1.trans i2) (.cons (m.mf f i2) i)
def av(t:eN):bj:=λU M Q=>t U M λf M1=>f.length<=sizeLine/\Q (.tup f) M1
def br(t:eN):bj:=λU M Q=>t U M λf M1=>f.length<=sizeLine/\∀p,M1 p=ed->Q (.ref p) (M1.upd p<|.lst f)
theorem IB{x1}(h:DA X B es t):DE X B (.Tuple es x1 pos) (av t):=by
 refine aR (Je h) ?_
 rintro Z H Q ⟨U,M,QQ,s,h,u⟩
 refine⟨U,M,_,s,h,λl M1 i v1 H1 g i1 j=>⟨by rw[<- j.length];exact i.1,λp f=>?_⟩⟩
 exact u _ M1 i.2 _ _ (g.new f) (i1.trans<|Frm.new f) ⟨p,v1,rfl,upd_same,j.mono<|Imm.new f⟩
theorem Hg(h:DA X B es t):DE X B (.List es pos) (br t):=by
 refine aR (GH h) ?_
 rintro Z H Q ⟨U,M,QQ,s,h,u⟩
 refine⟨U,M,_,s,h,λxs M1 h1 v1 H1 rh1 i1 r1=>⟨by rw[<- r1.length];exact h1.1,λp hp=>?_⟩⟩
 exact u _ _ (h1.2 p<|rh1.fresh hp) _ _ (rh1.put (by rw[hp];trivial) ⟨v1,upd_same,r1.mono<|Imm.new hp⟩) (i1.trans<|Frm.put<|.inl hp) rfl
theorem Inv.freeze{g:Uo}{Z:_2.St}{s:ee}{vs:List V}(I:Inv X g Z H s)(h:H p=cb (.lst vs)):∃o,Inv X g Z (upd H p<|.frz o<|.lst vs) s:=by
 obtain⟨i,n,r,e,z⟩:=I.lst h;have ne:∀{b:eC}{u:Option HO},H b=u->u≠cb (.lst vs)->b≠p:=λ{b u} q A z=>by subst z;rw[h]at q;exact A q.symm
 refine⟨{ cls:=.type "list",data:=.seq i.toArray n },I.ok,I.os,I.bare,⟨I.base.keep,I.base.slot,λb o q F L=>?_,I.base.there,λb l q=>?_,λb o u q=>?_,λb J q=>?_⟩,I.loc,I.cell,?_,λx c q=>?_,λw C=>?_,λb o q=>?_,I.len⟩
 .have f:=I.base.free b o q F L
  rw[aE (ne f<|by simp)];exact f
 .have f:=I.base.tups b l q
  rw[aE (ne f<|by simp)];exact f
 .have f:=I.base.frzs b o u q
  rw[aE (ne f<|by simp)];exact f
 .obtain⟨j,f⟩:=I.base.tbls b J q
  exact⟨j,by rw[aE (ne f<|by simp)];exact f⟩
 .rw[aE (ne I.free<|by simp)];exact I.free
 .have f:=I.freeC x c q
  rw[aE (ne f<|by simp)];exact f
 .obtain⟨G,v,E⟩:=I.pin w C
  exact⟨G,by rw[aE (ne v<|by simp)];exact v,E⟩
 .by_cases m:b=p
  .subst m
   rw[upd_same]at q;cases q;refine⟨e,?_⟩;exact⟨z,i,n,r,e⟩
  .rw[aE m]at q
   refine (I.hok b o q).stay (λ_ _ _ y=>y) (λc y=>?_) λc l y=>?_
   .rw[aE (ne y<|by simp)];exact y
   .rw[aE (ne y<|by simp)];exact y
def frz(d:D)(M:Mem)(Q:DK):Prop:=match d with
 |.ref a=>match M a with
  |some (.lst xs)=>Q (.lst xs) (M.del a)
  |_=>Q d M
 |_=>Q d M
def am(t:bj):bj:=λU M Q=>t U M λd M'=>frz d M' Q
theorem RepH.freeze{vs:List V}{o:Obj}(r:RepH K H M)(h:H p=cb (.lst vs)):RepH K (upd H p<|.frz o<|.lst vs) (M.del p):=λb u e=>by
 unfold Mem.del at e
 split at e
 .cases e
 .rename_i hb
  exact(r b u e).keep (Imm.upd<|by rw[h];trivial) (aE hb)
theorem Hf(h:DE X B e te):DE X B e (am te):=by
 intro g s Z H Q I x;obtain⟨U,M,QQ,n,m,u⟩:=x;refine bC (h g s Z H (λv H'=>∃d M',RepH X.K H' M'/\Frm M H M' H'/\Rp X.K H' d v/\frz d M' QQ) I ⟨U,M,_,n,m,λd M' q v H' f i r=>⟨d,M',f,i,r,q⟩⟩) ?_
 rintro w C ⟨v,H',I',l,d,M',f,i,r,q⟩
 unfold frz at q
 split at q
 .rename_i a
  split at q
  .rename_i A e
   obtain⟨z,j,y⟩:=f _ _ e;obtain⟨o,I2⟩:=Inv.freeze I' j;refine⟨v,_,I2,l,u _ _ q v _ (f.freeze j) (i.trans<|Frm.del ⟨_,e⟩) ?_⟩;exact⟨a,z,r,⟨o,upd_same⟩,y.mono<|Imm.upd<|by rw[j];trivial⟩
  .exact⟨v,H',I',l,u _ _ q v H' f i r⟩
 .exact⟨v,H',I',l,u _ _ q v H' f i r⟩
end
def cX(M:Mem):D->Option (List D)
 |.lst xs=>cb xs
 |.ref a=>match M a with
  |some (.lst xs)=>cb xs
  |_=>ed
 |_=>ed
def aC(M:Mem):D->Option (List D)
 |.tup xs=>cb xs
 |.lst xs=>cb xs
 |.mt xs=>cb xs
 |.ml xs=>cb xs
 |.ref a=>match M a with
  |some (.lst xs)=>cb xs
  |_=>ed
 |_=>ed
section
variable{d:D}{v:V}{xs:List D}
theorem eF(i:RepH K H M)(r:Rp K H d v)(e:cX M d=cb xs):∃p vs,v=.ref p/\Rd H p (.lst vs)/\Rps K H xs vs:=by
 cases d with
 |lst b=>
  cases e;obtain⟨p,vs,rfl,⟨o,h⟩,r⟩:=r;exact⟨p,vs,rfl,.inr ⟨o,h⟩,r⟩
 |ref a=>
  simp only[cX]at e
  split at e
  .rename_i b q
   cases e;obtain⟨vs,f,g⟩:=i _ _ q;exact⟨a,vs,r,.inl f,g⟩
  .cases e
 |_=>cases e
theorem ik(i:RepH K H M)(r:Rp K H d v)(e:aC M d=cb xs):∃p vs,v=.ref p/\(SqL K H p vs\/iA K H p vs)/\Rps K H xs vs:=by
 cases d with
 |tup b=>
  cases e;obtain⟨p,vs,rfl,h,r⟩:=r;exact⟨p,vs,rfl,.inr h.sq,r⟩
 |lst b=>
  cases e;obtain⟨p,vs,rfl,h,r⟩:=r;exact⟨p,vs,rfl,.inl h.sq,r⟩
 |mt b=>
  cases e;obtain⟨p,vs,rfl,h,r⟩:=r;exact⟨p,vs,rfl,.inr h.sq,r⟩
 |ml b=>
  cases e;obtain⟨p,vs,rfl,h,r⟩:=r;exact⟨p,vs,rfl,.inl h.sq,r⟩
 |ref a=>
  simp only[aC]at e
  split at e
  .rename_i b q
   cases e;obtain⟨vs,f,g⟩:=i _ _ q;exact⟨a,vs,r,.inl (SqL.of f),g⟩
  .cases e
 |_=>cases e
theorem CG:cq X (lq .Add) (λx y H Q=>∃l b xs zs,x=.ref l/\y=.ref b/\Rd H l (.lst xs)/\Rd H b (.lst zs)/\xs.length+zs.length<=sizeLine/\∀p,H p=ed->Q (.ref p) (upd H p<|.lst (xs++zs))):=by
 intro i s Z H x y v u Q I E w h;obtain⟨l,b,xs,zs,rfl,rfl,o,j,F,q⟩:=h;cases E;cases w;obtain⟨z,f,n,r,e⟩:=o.ok I.hok;obtain⟨J,a,n2,g,A⟩:=j.ok I.hok;have G:=r.length;have m:=g.length;refine PySem.P.add_list e A ?_ (by rw[Ml,Ml];lia)
 have C:f.toArray++a.toArray=(f++a).toArray:=by simp
 rw[C];exact⟨.ref _,_,I.lnew (t':=s.toks) (r.append g) (by rw[Mg];lia),rfl,q _ I.fresh⟩
def aF:d_:=λx y M Q=>match x,y with
 |.int i,.int j=>Q (.int (i+j)) M
 |.str a,.str b=>a.length+b.length<=sizeLine/\Q (.str (a++b)) M
 |.tup xs,.tup ys=>xs.length+ys.length<=sizeLine/\Q (.tup (xs++ys)) M
 |x,y=>match cX M x,cX M y with
  |some xs,cb ys=>xs.length+ys.length<=sizeLine/\∀p,M p=ed->Q (.ref p) (M.upd p<|.lst (xs++ys))
  |_,_=>False
theorem BO:cq X (lq .Add) (liftR2 X aF):=by
 intro T0 s Z H x y v u Q I rx ry h;obtain⟨d1,d2,M,QQ,rh,r1,r2,h,up⟩:=h;unfold aF at h
 split at h
 .cases r1;cases r2
  exact Ij T0 s Z H _ _ v u Q I rx ry ⟨_,_,rfl,rfl,up _ M h _ H rh Frm.refl rfl⟩
 .cases r1;cases r2
  exact vi T0 s Z H _ _ v u Q I rx ry ⟨_,_,rfl,rfl,h.1,up _ M h.2 _ H rh Frm.refl rfl⟩
 .obtain⟨p,vs,rfl,t1,r1⟩:=r1
  obtain⟨p',vs',rfl,t2,r2⟩:=r2;have l1:=r1.length;have l2:=r2.length;have r12:=r1.append r2
  by_cases hx:vs=[]
  .subst hx
   have hu:=up _ M h.2 (.ref p') H rh Frm.refl ⟨p',vs',rfl,t2,r12⟩;exact Bb T0 s Z H _ _ v u Q I rx ry ⟨p,p',vs',rfl,rfl,t1.sq,t2.sq,hu⟩
  .refine BI T0 s Z H _ _ v u Q I rx ry ⟨p,p',vs,vs',rfl,rfl,t1.sq,t2.sq,hx,by lia,λe=>?_,λ_ q hq=>?_⟩
   .subst e
    rw[Mx]at r12;exact up _ M h.2 (.ref p) H rh Frm.refl ⟨p,vs,rfl,t1,r12⟩
   .exact up _ M h.2 _ _ (rh.new hq) (Frm.new hq) ⟨q,_,rfl,upd_same,r12.mono<|Imm.new hq⟩
 .split at h
  .rename_i xs ys e1 e2
   obtain⟨p,vs,rfl,t1,r1⟩:=eF rh r1 e1;obtain⟨p',vs',rfl,t2,r2⟩:=eF rh r2 e2;have l1:=r1.length;have l2:=r2.length;refine CG T0 s Z H _ _ v u Q I rx ry ⟨p,p',vs,vs',rfl,rfl,t1,t2,by lia,λq hq=>?_⟩
   exact up _ _ (h.2 q<|rh.fresh hq) _ _ (rh.put (by rw[hq];trivial) ⟨_,upd_same,(r1.append r2).mono<|Imm.new hq⟩) (Frm.put<|.inl hq) rfl
  .exact h.elim
def oI(C:Int->Int->Prop)(g:Int->Int->D):d_:=λx y M Q=>match x,y with
 |.int i,.int j=>C i j/\Q (g i j) M
 |_,_=>False
theorem Iv{f:cx->cx->Sem cx}{C:Int->Int->Prop}{g:Int->Int->V}{g':Int->Int->D}(h:cq X f (rI C g))(e:∀i j K H,Rp K H (g' i j) (g i j)):cq X f (liftR2 X<|oI C g'):=by
 intro b s Z H x y v u Q I w n a;obtain⟨A,z,M,QQ,q,o,l,a,m⟩:=a;unfold oI at a
 split at a
 .cases o;cases l
  exact h b s Z H _ _ v u Q I w n ⟨_,_,rfl,rfl,a.1,m _ M a.2 _ H q Frm.refl<|e _ _ _ _⟩
 .exact a.elim
def pY(g:Int->Int->D):d_:=λx y M Q=>match x,y with
 |.int i,.int j=>Q (g i j) M
 |_,_=>False
theorem nV{f:cx->cx->Sem cx}{g:Int->Int->V}{g':Int->Int->D}(h:cq X f (BA g))(e:∀i j K H,Rp K H (g' i j) (g i j)):cq X f (liftR2 X<|pY g'):=by
 intro b s Z H x y v u Q I w n a;obtain⟨A,z,M,QQ,q,o,l,a,m⟩:=a;unfold pY at a
 split at a
 .cases o;cases l
  exact h b s Z H _ _ v u Q I w n ⟨_,_,rfl,rfl,m _ M a _ H q Frm.refl<|e _ _ _ _⟩
 .exact a.elim
noncomputable abbrev gb:d_:=pY λi j=>.int (i-j)
theorem CZ:cq X (lq .Sub) (liftR2 X gb):=nV IW λ_ _ _ _=>rfl
noncomputable abbrev g8:d_:=oI (λ_ j=>0<j) λi j=>.int (i % j)
theorem Ez:cq X (lq .Mod) (liftR2 X g8):=Iv Hx λ_ _ _ _=>rfl
def EZ(_ j:Int):Prop:=0<j/\j<2 ^ 200
theorem AR:cq X (lq .FloorDiv) (rI EZ λi j=>.int (i / j)):=by
 intro a s Z H x y v u Q I o l h;obtain⟨i,j,rfl,rfl,g,q⟩:=h;obtain⟨w,m⟩:=g;have f:((j.toNat:Nat):Int)=j:=by lia
 refine AU (n:=j.toNat) ?_ (by lia) a s Z H _ _ v u Q I o l ⟨i,j,rfl,rfl,f.symm,q⟩
 have b:j.toNat<2 ^ 200:=by
  have:((j.toNat:Nat):Int)<((2 ^ 200:Nat):Int):=by rw[f,Int.natCast_pow];exact m
  exact Int.ofNat_lt.mp this
 have:=(Nat.log2_lt (n:=j.toNat) (k:=200)<|by lia).mpr b
 lia
noncomputable abbrev oC:d_:=oI EZ λi j=>.int (i / j)
theorem z6:cq X (lq .FloorDiv) (liftR2 X oC):=Iv AR λ_ _ _ _=>rfl
noncomputable abbrev Ie:d_:=oI LJ λi j=>.int (i ^ j.toNat)
theorem Ed:cq X (lq .Pow) (liftR2 X Ie):=Iv Gu λ_ _ _ _=>rfl
noncomputable abbrev KJ:d_:=pY λi j=>.int (Builtin.bitXor i j)
theorem El:cq X (lq .BitXor) (liftR2 X KJ):=nV Hh λ_ _ _ _=>rfl
noncomputable abbrev yM:d_:=pY λi j=>.bl (decide (i<j))
theorem Hc:cq X (g0 .Lt) (liftR2 X yM):=nV Kz λ_ _ _ _=>rfl
noncomputable abbrev zH:d_:=pY λi j=>.bl (decide (i<=j))
theorem mh:cq X (g0 .LtE) (liftR2 X zH):=nV JN λ_ _ _ _=>rfl
noncomputable abbrev uf:d_:=pY λi j=>.bl (decide (j<i))
theorem Hj:cq X (g0 .Gt) (liftR2 X uf):=nV Ls λ_ _ _ _=>rfl
noncomputable abbrev oGe:d_:=pY λi j=>.bl (decide (j<=i))
theorem Gx:cq X (g0 .GtE) (liftR2 X oGe):=nV JS λ_ _ _ _=>rfl
theorem A9{c:Nat}:∀(k:Nat)(T6:Array Nat),(Mh k #[c]).foldl (·++·) T6=T6++Oc k c
 |0,T6=>by simp
 |k+1,T6=>by
  rw[MZ,Nh,A9 k (T6++#[c])];apply Array.ext';simp[MZ]
theorem zW:cq X (lq .Mult) (λx y H Q=>∃c k,x=.str ⟨#[c]⟩/\y=.int k/\1<=k/\k<=1000/\Q (.str ⟨Oc k.toNat c⟩) H):=by
 intro g s Z H x y v u Q I m j h;obtain⟨c,k,rfl,rfl,n,o,q⟩:=h;obtain⟨t,rfl⟩:=m;obtain⟨w,rfl⟩:=j;have a:(⟨#[c]⟩:Str).length=1:=rfl;have l:sizeLine=16777216:=rfl;refine PySem.P.mul_str ?_ ?_ ?_ ?_
 .rw[decide_eq_false (by lia),decide_eq_false (by lia)];rfl
 .intro _ _ i
  rw[a]at i;have:(1:Int)<=(2 ^ 63-1) / k:=Int.le_ediv_of_mul_le (by lia) (by lia)
  lia
 .intro _ _
  rw[a];unfold PySem.Builtin.Str.tooLong;exact decide_eq_false (by lia)
 .rw[if_neg (by lia)]
  by_cases b:k=1
  .rw[if_pos (by rw[b];rfl)]
   subst b;exact⟨.str ⟨#[c]⟩,H,I,⟨_,rfl⟩,q⟩
  .rw[if_neg (by simp[a,b])]
   have f:(Mh k.toNat #[c]).foldl (·++·) #[]=Oc k.toNat c:=by rw[A9];simp
   refine⟨?_,.str ⟨(Mh k.toNat #[c]).foldl (·++·) #[]⟩,H,I.tok _,⟨_,rfl⟩,by rw[f];exact q⟩
   show ((Mh k.toNat #[c]).foldl (·++·) #[]).size<=sizeLine;rw[f];simp;lia
def iP:d_:=λx y M Q=>match x,y with
 |.int i,.int j=>CMul i j/\Q (.int (i*j)) M
 |.str z,.int k=>match z.cps.toList with
  |[c]=>1<=k/\k<=1000/\Q (.str ⟨Oc k.toNat c⟩) M
  |_=>False
 |.tup xs,.int k=>xs≠[]/\0<=k/\k<=1000/\xs.length<=1000/\Q (.tup (Mh k.toNat xs).flatten) M
 |_,_=>False
theorem Rps.rep{ds:List D}{vs:List V}(h:Rps K H ds vs):∀k:Nat,Rps K H (Mh k ds).flatten (Mh k vs).flatten
 |0=>rfl
 |k+1=>by
  rw[MZ,MZ,Oh,Oh];exact h.append (Rps.rep h k)
theorem Dm:cq X (lq .Mult) (liftR2 X iP):=by
 intro a s Z H x y v u Q I q F h;obtain⟨T,C,M,QQ,n,f,w,h,m⟩:=h;cases T with
 |int i=>
  cases C with
  |int j=>
   cases f;cases w;exact FY a s Z H _ _ v u Q I q F ⟨_,_,rfl,rfl,h.1,m _ M h.2 _ H n Frm.refl rfl⟩
  |_=>exact(show False from h).elim
 |str z=>
  cases C with
  |int k=>
   cases f;cases w;simp only[iP]at h
   split at h
   .rename_i c e
    have S:z=⟨#[c]⟩:=by
     obtain⟨⟨l⟩⟩:=z;have R:l=[c]:=e;rw[R]
    subst S;exact zW a s Z H _ _ v u Q I q F ⟨_,_,rfl,rfl,h.1,h.2.1,m _ M h.2.2 _ H n Frm.refl rfl⟩
   .exact h.elim
  |_=>exact(show False from h).elim
 |tup xs=>
  cases C with
  |int k=>
   obtain⟨p,g,rfl,t1,f⟩:=f;cases w;obtain⟨G,O,N,h4,L⟩:=h;have W:=f.length;obtain⟨t,rfl⟩:=F;cases q;obtain⟨A,r,P,_⟩:=I.tuple t1.sq;have Y:=r.length;refine yp P (λz=>G ?_) O N (by lia) (λe=>?_) λe=>?_
   .have J:A.length=0:=congrArg MN z
    exact N7 (by lia)
   .subst e
    refine⟨.ref p,H,I,rfl,m _ M L _ H n Frm.refl ⟨p,g,rfl,t1,?_⟩⟩;simpa using f
   .have E:H s.heap.objs.size=none:=I.hok.fresh (Mn _)
    have J:(Mh k.toNat g).flatten.length<=sizeLine:=by
     rw[EH];have G:k.toNat*g.length<=1000*1000:=Nat.mul_le_mul (by lia) (by lia)
     exact ME G (by decide)
    have i2:Imm H (upd H s.heap.objs.size<|.tup (Mh k.toNat g).flatten):=Imm.new E;exact⟨.ref s.heap.objs.size,_,I.laid (t':=s.toks) (o:=.tup (Mh k.toNat g).flatten) (λb ob z=>Me _ z) (Mn _) ⟨J,_,r.rep k.toNat,⟨_,Mt _ rfl,⟨rfl,_,rfl⟩,rfl⟩⟩,rfl,
     m _ M L _ _ (n.new E) (Frm.new E) ⟨_,_,rfl,upd_same,(f.rep _).mono i2⟩⟩
  |_=>exact(show False from h).elim
 |_=>exact(show False from h).elim
def lL:D->Bool
 |.non=>true
 |_=>eH
def uF:d_:=λx y M Q=>match y with
 |.non=>Q (.bl<|lL x) M
 |_=>False
def li:d_:=λx y M Q=>match y with
 |.non=>Q (.bl<|!lL x) M
 |_=>False
theorem Ai(r:Rp K H d v):decide (v=V.non)=lL d:=by
 cases d with
 |non=>cases r;rfl
 |tup xs=>obtain⟨p,a,rfl,_⟩:=r;rfl
 |lst xs=>obtain⟨p,a,rfl,_⟩:=r;rfl
 |mt xs=>obtain⟨p,a,rfl,_⟩:=r;rfl
 |ml xs=>obtain⟨p,a,rfl,_⟩:=r;rfl
 |fd ks xs=>obtain⟨p,a,rfl,_⟩:=r;rfl
 |_=>cases r;rfl
theorem wI:cq X (g0 .Is) (liftR2 X uF):=by
 intro a s Z H x y v u Q I l g h;obtain⟨n,m,M,QQ,j,i,b,h,f⟩:=h;unfold uF at h
 split at h
 .cases b
  exact GR a s Z H _ _ v u Q I l g ⟨rfl,by rw[Ai i];exact f _ M h _ H j Frm.refl rfl⟩
 .exact h.elim
theorem Aa:cq X (g0 .IsNot) (liftR2 X li):=by
 intro a s Z H x y v u Q I l g h;obtain⟨n,m,M,QQ,j,i,b,h,f⟩:=h;unfold li at h
 split at h
 .cases b
  refine D8 a s Z H _ _ v u Q I l g ⟨rfl,f _ M h _ H j Frm.refl ?_⟩;show _=V.bl _;rw[Ai i]
 .exact h.elim
end
section
variable{κ:Type}[DecidableEq κ]
noncomputable def jg(T5:List (κ×D))(k:κ):Option D:=(T5.find? λa=>decide (a.1=k)).map (·.2)
noncomputable def fb(T5:List (κ×D))(k:κ)(v:D):List (κ×D):=
 if (T5.any λa=>decide (a.1=k))=true then T5.map (λa=>if a.1=k then (a.1,v) else a) else T5++[(k,v)]
theorem Rkv.val{T5:List (κ×D)}{b:List (κ×V)}(h:Rkv K H T5 b)(k:κ):(jg T5 k=ed/\fX b k=ed)\/∃d v,jg T5 k=cb d/\fX b k=cb v/\Rp K H d v:=by
 induction h with
 |nil=>exact .inl ⟨rfl,rfl⟩
 |@cons p q ps qs r t ih=>
  obtain⟨f,d⟩:=p;obtain⟨g,v⟩:=q;obtain⟨e,r⟩:=r;dsimp only at e r;subst e
  by_cases a:f=k
  .exact .inr ⟨d,v,by simp[jg,a],by simp[fX,a],r⟩
  .simpa [jg,fX,a] using ih
theorem Rkv.any{T5:List (κ×D)}{a:List (κ×V)}(h:Rkv K H T5 a)(k:κ):(T5.any λkv=>decide (kv.1=k))=(a.any λkv=>decide (kv.1=k)):=by
 induction h with
 |nil=>rfl
 |cons r t ih=>rw[ND,ND,ih,r.1]
theorem Rkv.put{T5:List (κ×D)}{f:List (κ×V)}(h:Rkv K H T5 f)(k:κ){d:D}{v:V}(r:Rp K H d v):Rkv K H (fb T5 k d) (cJ f k v):=by
 unfold fb cJ;rw[h.any k]
 split
 .rename_i q;clear q
  induction h with
  |nil=>exact .nil
  |@cons p q ps qs rr t ih=>
   obtain⟨g,j⟩:=p;obtain⟨l,i⟩:=q;obtain⟨e,b⟩:=rr;dsimp only at e b;subst e;rw[Mo,Mo];refine .cons ?_ ih
   by_cases a:g=k
   .rw[if_pos a,if_pos a];exact⟨rfl,r⟩
   .rw[if_neg a,if_neg a];exact⟨rfl,b⟩
 .rename_i q;clear q
  induction h with
  |nil=>exact .cons ⟨rfl,r⟩ .nil
  |cons rr t ih=>exact .cons rr ih
theorem Rkv.length{T5:List (κ×D)}{a:List (κ×V)}(h:Rkv K H T5 a):T5.length=a.length:=NT h
end
def ou:D->Option bh
 |.int i=>cb (.inl i)
 |.str x=>cb (.inr x)
 |_=>ed
def eO:List D->Option (List bh)
 |[]=>cb []
 |d::ds=>match ou d,eO ds with
  |some k,cb ks=>cb (k::ks)
  |_,_=>ed
def B1:D->Option (List bh)
 |.tup xs=>eO xs
 |_=>ed
section
theorem qI{d:D}{v:V}{k:bh}(r:Rp K H d v)(e:ou d=cb k):v=kV k:=by
 cases d with
 |int i=>cases e;exact r
 |str x=>cases e;exact r
 |_=>cases e
theorem lO:∀{ds:List D}{vs:List V}{ks:List bh},Rps K H ds vs->eO ds=cb ks->vs=ks.map kV
 |[],vs,ks,r,e=>by cases e;exact r
 |d::ds,vs,ks,r,e=>by
  obtain⟨v,i,rfl,a,b⟩:=r;simp only[eO]at e
  split at e
  .rename_i k f g h
   cases e;rw[qI a g,lO b h];rfl
  .cases e
def yn(M:Mem)(a:eC)(y:D):Option (Option D):=match M a with
 |some (.dK T5)=>match ou y with
  |some k=>cb (jg T5 k)
  |none=>ed
 |some (.dT T5)=>match B1 y with
  |some k=>cb (jg T5 k)
  |none=>ed
 |_=>ed
theorem kO{d:D}{v:V}{ks:List bh}(r:Rp K H d v)(e:B1 d=cb ks):∃b,v=.ref b/\H b=cb (.tup<|ks.map kV):=by
 cases d with
 |tup xs=>
  obtain⟨p,a,rfl,t,r⟩:=r;exact⟨p,rfl,by rw[<- lO r e];exact t⟩
 |_=>cases e
theorem oK{a:eC}{y:D}{v:V}{o:Option D}(q:RepH K H M)(r:Rp K H y v)(e:yn M a y=cb o):
  (o=ed/\DGet H a v ed)\/∃d w,o=cb d/\DGet H a v (cb w)/\Rp K H d w:=by
 unfold yn at e
 split at e
 .rename_i m j
  obtain⟨u,h,l⟩:=q _ _ j
  split at e
  .rename_i k i
   cases e;have s:=qI r i;subst s;rcases l.val k with⟨g,f⟩|⟨d,w,g,f,r'⟩
   .exact .inl ⟨g,by rw[<- f];exact DGet.k h⟩
   .exact .inr ⟨d,w,g,by rw[<- f];exact DGet.k h,r'⟩
  .cases e
 .rename_i m j
  obtain⟨u,h,l⟩:=q _ _ j
  split at e
  .rename_i k i
   cases e;obtain⟨b,rfl,n⟩:=kO r i;rcases l.val k with⟨g,f⟩|⟨d,w,g,f,r'⟩
   .exact .inl ⟨g,by rw[<- f];exact DGet.t h n⟩
   .exact .inr ⟨d,w,g,by rw[<- f];exact DGet.t h n,r'⟩
  .cases e
 .cases e
end
end _3
namespace HT
open PySem PyProof.Rows
section
variable {prog:gg}{w:g5}{A:hB}{E:Um}{s:ee}
theorem fV{t l:eC}{a:Ur}{p o:cx}{b f:Option Int}{Q:Um}(e:IsTup s.heap t a)(n:s.heap.IsSliceOf l p o .none)(pl:SV p b)(v:SV o f)
  (q:sIx a.size 0 b=0/\sIx a.size a.size f=a.size) (h:Q (.ref t) s):eT (ft prog w) A (SX (.ref t)<|.ref l) Q E s:=by
 obtain⟨r,j,g,u⟩:=id n;have i:s.TypeIs (.ref l) "slice":=⟨r,j,g⟩;unfold SX
 try with_reducible refine k6 ?_
 first|refine cT (eP ?_)|skip
 refine cT (wpAny_sequenceKey e.typeIs (by decide) ?_)
 refine cT (wpAny_callSpecial?_slot (name:=Mq "__getitem__") e.typeIs Ni
  (Op Ni e.typeIs entry_tuple_getitem ?_<|args_tuple_getitem _ _))
 show eT _ _ (PU (.ref t) >>= _) _ _ s;refine cT (tupleItemsOf_ e ?_);refine cT (PP i ?_);rw[if_pos (by decide)]
 refine cT (dU n pl v ?_);have c:((((sIx a.size 0 b:Nat):Int)==0&&(1:Int)==1&&(sIx a.size a.size f-sIx a.size 0 b)==a.size)=true):=by
  rw[q.1,q.2];simp
 show eT _ _ (if (((sIx a.size 0 b:Nat):Int)==0&&(1:Int)==1&&(sIx a.size a.size f-sIx a.size 0 b)==a.size)=true then _ else _) _ _ s
 rw[if_pos c];refine cT (m:=Builtin.Tuple.tupleIsExact _) (cT<|wpAny_typeOf e.typeIs<|wpAny_pure ?_);rw[if_pos (by decide)]
 first
  |exact cT (Sc<|wpAny_bind<|wpAny_pure<|wpAny_pure ⟨_,rfl,eP h⟩)
  |exact cT (Sc<|wpAny_pure ⟨_,rfl,eP h⟩)
  |exact cT (Sc<|wpAny_bind<|wpAny_pure ⟨_,rfl,eP h⟩)
  |trace_state
end
end HT
namespace _3
open PySem _2
variable{p p':eC}{A:hB}{a b:Ur}{B:Bd}{X:Cx}{c e tg:g1}{H:Hp}{Z:_2.St}{es:Uk}{Ua its':Ui}{M:Mem}{K:Mp}{i n:Nat}{pos pos':Pos}{s:ee}{x:Str}{u:cx}{tb:aB}{te:bj}{g:jC}{r:sG}
section
variable{a b:g1}{ta tb tc:bj}
def aw:d_:=λx y M Q=>match aC M x,y with
 |some xs,.int i=>match atI xs i with
  |some d=>Q d M
  |none=>False
 |some _,_=>False
 |none,y=>match x,y with
  |.str z,.int i=>z.length<=sizeLine/\match atI z.cps.toList i with
   |some c=>Q (.str ⟨#[c]⟩) M
   |none=>False
  |.ref a,y=>match yn M a y with
   |some (cb d)=>Q d M
   |_=>False
  |_,_=>False
theorem Rps.atI{ds:List D}{vs:List V}{i:Int}{d:D}(r:Rps K H ds vs)(e:atI ds i=cb d):∃v,_2.atI vs i=cb v/\Rp K H d v:=by
 unfold _2.atI at e ⊢;rw[<- r.length];cases q:wf ds.length i with
 |none=>rw[q]at e;cases e
 |some j=>
  rw[q]at e;exact r.get (i:=j) e
theorem Db(E:X.A.units+1<mv):IxR X (λx y H Q=>∃a v,x=.ref a/\DGet H a y (cb v)/\Q v H):=by
 intro j l m s Z H x y v u Q I C z h o;obtain⟨a,w,rfl,g,q⟩:=h;cases C;exact Qm (rO I g) Qo.lookup (yE E I g z λG F I3 f=>⟨w,H,I3,f,q⟩) o
theorem IF(U:X.A.units+1<mv):IxR X (liftR2 X aw):=by
 intro f j l s Z H x y v u Q I F J h E;obtain⟨d1,Y,M,QQ,q,L,G,h,C⟩:=h;unfold aw at h
 split at h
 .rename_i W i e
  split at h
  .rename_i d N
   cases G;obtain⟨p,P,rfl,hq,r⟩:=ik q L e;obtain⟨w,O,m⟩:=r.atI N;refine Jj f j l s Z H _ _ v u Q I F J ?_ E;have o:=C _ M h _ H q Frm.refl m;rcases hq with hq|hq
   .exact .inl ⟨p,P,i,w,rfl,rfl,hq,O,o⟩
   .exact .inr (.inl ⟨p,P,i,w,rfl,rfl,hq,O,o⟩)
  .exact h.elim
 .exact h.elim
 .split at h
  .obtain⟨R,h⟩:=h
   split at h
   .rename_i S T
    cases L;cases G;exact A4 f j l s Z H _ _ v u Q I F J ⟨_,_,S,rfl,rfl,R,T,C _ M h _ H q Frm.refl rfl⟩ E
   .exact h.elim
  .split at h
   .rename_i d N
    cases L;rcases oK q G N with⟨z,_⟩|⟨d',w,z,g,m⟩
    .cases z
    .cases z
     exact Db U f j l s Z H _ _ v u Q I F J ⟨_,w,rfl,g,C _ M h _ H q Frm.refl m⟩ E
   .exact h.elim
  .exact h.elim
noncomputable abbrev Fu:=Dl->Mem->(Option Int->Mem->Prop)->Prop
inductive liftO(X:Cx)(B:Bd)(T:Fu)(Z:St)(H:Hp)(Q:Option Int->Hp->Prop):Prop
 |mk (U:Dl) (M:Mem) (QQ:Option Int->Mem->Prop) (s:SR X B U M Z H) (h:T U M QQ) (u:∀o M',QQ o M'->∀H',RepH X.K H' M'->Frm M H M' H'->Q o H'):liftO X B T Z H Q
def DO(X:Cx)(B:Bd)(e:Option g1)(T:Fu):Prop:=PO X e (liftO X B T)
theorem xN{e:Option g1}{t t':TO}(h:PO X e t)(w:∀Z H Q,t' Z H Q->t Z H Q):PO X e t':=λf s Z H Q I q=>h f s Z H Q I (w Z H Q q)
def aD:Fu:=λ_ M Q=>Q ed M
def aY(t:bj):Fu:=λU M Q=>t U M λx M1=>match x with
 |.int i=>Q (cb i) M1
 |_=>False
theorem Ci:DO X B ed aD:=xN EF λZ H Q ⟨U,M,QQ,s,h,u⟩=>u ed M h H s.rh Frm.refl
theorem Dg(h:DE X B e te):DO X B (cb e) (aY te):=by
 refine xN (Ek h) ?_
 rintro Z H Q ⟨U,M,QQ,s,h,u⟩
 refine⟨U,M,_,s,h,λd M' q v H' f i r=>?_⟩;cases d with
 |int j=>exact⟨j,r,u _ M' q H' f i⟩
 |_=>exact(show False from q).elim
noncomputable def dz(xs:List D)(lo hi:Option Int):List D:=(xs.drop<|HT.sIx xs.length 0 lo).take (HT.sIx xs.length xs.length hi-HT.sIx xs.length 0 lo)
theorem Rps.cut{ds:List D}{vs:List V}(r:Rps K H ds vs)(f h:Option Int):Rps K H (dz ds f h) (je vs f h):=by
 unfold dz je;rw[<- r.length];exact(r.drop _).take _
def tu(x:D)(lo hi:Option Int)(M:Mem)(Q:DK):Prop:=match x with
 |.tup xs=>Q (.tup<|dz xs lo hi) M
 |.ml xs=>∀p,M p=ed->Q (.ref p) (M.upd p<|.lst<|dz xs lo hi)
 |x=>match cX M x with
  |some xs=>∀p,M p=ed->Q (.ref p) (M.upd p<|.lst<|dz xs lo hi)
  |none=>False
inductive liftSl(X:Cx)(x:V)(lo hi:Option Int)(H:Hp)(Q:VK):Prop
 |mk (d:D) (M:Mem) (QQ:DK) (rh:RepH X.K H M) (r:Rp X.K H d x) (h:tu d lo hi M QQ) (u:Up X.K M H QQ Q):liftSl X x lo hi H Q
theorem tJ{vs:List V}{f j:Option Int}(h:HT.sIx vs.length 0 f=0/\HT.sIx vs.length vs.length j=vs.length):je vs f j=vs:=by
 unfold je;rw[h.1,h.2];simp
theorem D5:J_ X (λx lo hi H Q=>∃a xs,x=.ref a/\iA X.K H a xs/\(je xs lo hi=xs->Q (.ref a) H)/\∀p,H p=ed->Q (.ref p) (upd H p<|.tup<|je xs lo hi)):=by
 intro f s Z H x v F G lo hi E Q I C o z w h;obtain⟨a,xs,rfl,y,J,q⟩:=h
 by_cases l:HT.sIx xs.length 0 lo=0/\HT.sIx xs.length xs.length hi=xs.length
 .cases C
  obtain⟨Ua,r,m,L⟩:=I.tuple y;have j:Ua.toArray.size=xs.length:=by rw[Ml];exact r.length.symm
  refine⟨"tuple",_,Ni.lookup,m.typeIs,?_⟩;exact HT.fV m o z w (by rw[j];exact l) ⟨.ref a,H,I,rfl,J<|tJ l⟩
 .exact HR f s Z H _ v F G lo hi E Q I C o z w ⟨a,xs,rfl,y,l,q⟩
end
section
variable{lo hi:Option g1}{tl th:Fu}{p2 p:Pos}{t:eN}
theorem HM:J_ X (liftSl X):=by
 intro T0 s Z H x v vl vu lo hi sl Q I rx hs pl pu h;obtain⟨d,M,QQ,rh,r,h,up⟩:=h;unfold tu at h
 split at h
 .obtain⟨a,vs,rfl,ht,r⟩:=r
  refine D5 T0 s Z H _ v vl vu lo hi sl Q I rx hs pl pu ⟨a,vs,rfl,ht.sq,λe=>?_,λp hp=>?_⟩
  .exact up _ M h _ H rh Frm.refl ⟨a,vs,rfl,ht,by rw[<- e];exact r.cut lo hi⟩
  .exact up _ M h _ _ (rh.new hp) (Frm.new hp) ⟨p,_,rfl,upd_same,(r.cut lo hi).mono<|Imm.new hp⟩
 .obtain⟨a,vs,rfl,hq,r⟩:=r
  refine vG T0 s Z H _ v vl vu lo hi sl Q I rx hs pl pu ⟨a,vs,rfl,hq.sq,λp hp=>?_⟩;exact up _ _ (h p<|rh.fresh hp) _ _ (rh.put (by rw[hp];trivial) ⟨_,upd_same,(r.cut lo hi).mono<|Imm.new hp⟩) (Frm.put<|.inl hp) rfl
 .split at h
  .rename_i xs e
   obtain⟨a,vs,rfl,hq,r⟩:=eF rh r e;refine vG T0 s Z H _ v vl vu lo hi sl Q I rx hs pl pu ⟨a,vs,rfl,.inl hq,λp hp=>?_⟩;exact up _ _ (h p<|rh.fresh hp) _ _ (rh.put (by rw[hp];trivial) ⟨_,upd_same,(r.cut lo hi).mono<|Imm.new hp⟩) (Frm.put<|.inl hp) rfl
  .exact h.elim
def eM(te:bj)(tl th:Fu):bj:=λU M Q=>te U M λx M1=>tl U M1 λl M2=>th U M2 λu M3=>tu x l u M3 Q
theorem AZ(z:DE X B e te)(C:DO X B lo tl)(E:DO X B hi th):DE X B (.Subscript e (.Slice lo hi ed p2) pos) (eM te tl th):=by
 refine aR (AG HM z C E) ?_
 rintro Z H Q ⟨U,M,QQ,s,h,u⟩
 refine⟨U,M,_,s,h,λx M1 q v1 H1 f i1 y=>?_⟩;refine⟨U,M1,_,s.go f i1,q,λl M2 v H2 j i2=>?_⟩;refine⟨U,M2,_,s.go j (i1.trans i2),v,λw M3 o H3 m i3=>?_⟩;exact⟨x,M3,QQ,m,y.mf f (i2.trans i3),o,u.go<|(i1.trans i2).trans i3⟩
noncomputable abbrev sG:=List D->Mem->DK->Prop
inductive liftC(X:Cx)(r:sG)(xs:List V)(H:Hp)(Q:VK):Prop
 |mk (ds:List D) (M:Mem) (QQ:DK) (rh:RepH X.K H M) (rp:Rps X.K H ds xs) (h:r ds M QQ) (u:Up X.K M H QQ Q):liftC X r xs H Q
def bn(r:sG)(t:eN):bj:=λU M Q=>t U M λf M1=>r f M1 Q
theorem wb{Q:VK}(h:liftE X B (bn r t) Z H Q):tCB (liftC X r) (liftA X B t) Z H Q:=by
 obtain⟨U,M,QQ,s,h,u⟩:=h;refine⟨U,M,_,s,h,λl M1 j o H1 f i1 m=>?_⟩;exact⟨l,M1,QQ,f,m,j,u.go i1⟩
theorem AK{id:String}(j:bL X (.builtin id) (liftC X r))(l:Gl X x)(f:X.mg x=ed)(o:fy x=cb (.builtin id))(q:DA X B (e::es) t)(m:x≠"__name__":=by decide)(hdb:(x==("__debug__":Str))=false:=by decide)(he:fe (e::es) X.env=(eH,g3 e X.env)::fe es X.env:=by rfl)(hpl:(lb pos<|starEach es X.env).any (·.1)=false:=by rfl):DE X B (.Call (.Name x p) (e::es) [] pos) (bn r t):=
 aR (zi j l f o q m hdb he hpl) λ_ _ _ h=>wb h
theorem xW{T:String}(j:bL X (.type T) (liftC X r))(l:Gl X x)(f:X.mg x=ed)(o:fy x=cb (.type T))(q:DA X B (e::es) t)(m:x≠"__name__":=by decide)(hdb:(x==("__debug__":Str))=false:=by decide)(he:fe (e::es) X.env=(eH,g3 e X.env)::fe es X.env:=by rfl)(hpl:(lb pos<|starEach es X.env).any (·.1)=false:=by rfl):DE X B (.Call (.Name x p) (e::es) [] pos) (bn r t):=
 aR (yB j l f o q m hdb he hpl) λ_ _ _ h=>wb h
theorem fH{ds:List D}{vs:List V}{d:D}(r:Rps K H [d] vs):∃v,vs=[v]/\Rp K H d v:=by
 obtain⟨v,w,rfl,a,b⟩:=r;cases b;exact⟨v,rfl,a⟩
theorem Im{vs:List V}{d e:D}(r:Rps K H [d,e] vs):∃v w,vs=[v,w]/\Rp K H d v/\Rp K H e w:=by
 obtain⟨v,w,rfl,a,b⟩:=r;obtain⟨h,j,rfl,f,b⟩:=b;cases b;exact⟨v,h,rfl,a,f⟩
def bF:sG:=λf M Q=>match f with
 |[d]=>match aC M d with
  |some xs=>Q (.int xs.length) M
  |none=>match d with
   |.str z=>z.length<=sizeLine/\Q (.int z.length) M
   |.ref a=>match M a with
    |some (.dK T5)=>Q (.int T5.length) M
    |_=>False
   |_=>False
 |_=>False
theorem ym:bL X (.builtin "len") (liftC X bF):=by
 intro f s Z H L l Q I r h;obtain⟨ds,M,QQ,j,z,h,m⟩:=h;unfold bF at h
 split at h
 .obtain⟨v,rfl,o⟩:=fH (ds:=[]) z
  split at h
  .rename_i N e
   obtain⟨q,G,rfl,y,w⟩:=ik j o e;exact oH f s Z H _ l Q I r ⟨q,G,rfl,y,by rw[<- w.length];exact m _ M h _ H j Frm.refl rfl⟩
  .split at h
   .cases o
    exact pN f s Z H _ l Q I r ⟨_,rfl,h.1,m _ M h.2 _ H j Frm.refl rfl⟩
   .split at h
    .rename_i F e
     cases o;obtain⟨J,C,E⟩:=j _ _ e;exact yH f s Z H _ l Q I r ⟨_,J,rfl,C,by rw[<- E.length];exact m _ M h _ H j Frm.refl rfl⟩
    .exact h.elim
   .exact h.elim
 .exact h.elim
def AT:sG:=λf M Q=>match f with
 |[d]=>match aC M d with
  |some xs=>∀p,M p=ed->Q (.ref p) (M.upd p<|.lst xs)
  |none=>False
 |_=>False
theorem tK:bL X (.type "list") (liftC X AT):=by
 intro T0 s Z H xs us Q I r h;obtain⟨ds,M,QQ,rh,rp,h,up⟩:=h;unfold AT at h
 split at h
 .obtain⟨v,rfl,rv⟩:=fH (ds:=[]) rp
  split at h
  .rename_i ys e
   obtain⟨q,vs,rfl,hq,rr⟩:=ik rh rv e;refine pi T0 s Z H _ us Q I r ⟨q,vs,rfl,hq,λp hp=>?_⟩;exact up _ _ (h p<|rh.fresh hp) _ _ (rh.put (by rw[hp];trivial) ⟨_,upd_same,rr.mono<|Imm.new hp⟩) (Frm.put<|.inl hp) rfl
  .exact h.elim
 .exact h.elim
def bW:sG:=λf M Q=>match f with
 |[.tup xs]=>Q (.tup xs) M
 |[d]=>match cX M d with
  |some xs=>Q (.tup xs) M
  |none=>False
 |_=>False
theorem s_:bL X (.type "tuple") (liftC X bW):=by
 intro f s Z H G z Q I r h;obtain⟨ds,M,QQ,o,E,h,C⟩:=h;unfold bW at h
 split at h
 .obtain⟨v,rfl,w⟩:=fH (ds:=[]) E
  obtain⟨q,j,rfl,y,l⟩:=w;exact fZ f s Z H _ z Q I r ⟨q,j,rfl,.inr ⟨y.sq,C _ M h _ H o Frm.refl ⟨q,j,rfl,y,l⟩⟩⟩
 .obtain⟨v,rfl,w⟩:=fH (ds:=[]) E
  split at h
  .rename_i J e
   obtain⟨q,j,rfl,F,l⟩:=eF o w e;refine fZ f s Z H _ z Q I r ⟨q,j,rfl,.inl ⟨.inl F,λp m=>?_⟩⟩;exact C _ M h _ _ (o.new m) (Frm.new m) ⟨p,_,rfl,upd_same,l.mono<|Imm.new m⟩
  .exact h.elim
 .exact h.elim
def cu(M:Mem):D->Option String
 |.non=>cb "NoneType"
 |.bl _=>cb "bool"
 |.int _=>cb "int"
 |.str _=>cb "str"
 |.tup _=>cb "tuple"
 |.lst _=>cb "list"
 |.ref a=>match M a with
  |some (.lst _)=>cb "list"
  |some (.dK _)=>cb "dict"
  |some (.dT _)=>cb "dict"
  |_=>ed
 |_=>ed
noncomputable def bP(t T:String):Bool:=t==T||(t=="bool"&&T=="int")
noncomputable def tI(T:String):Bool:=T=="bool"||T=="int"||T=="str"||T=="tuple"||T=="list"||T=="dict"
theorem EG:(∀K:Mp,∀t∈["NoneType","bool","int","str","tuple","list","dict"],∀T∈["bool","int","str","tuple","list","dict"],W.kitOne K (.type t) (.type T)=cb (bP t T)):=by
 intro K t h T f;simp only[Mm,MV,or_false]at h f;rcases h with rfl|rfl|rfl|rfl|rfl|rfl|rfl<;>rcases f with rfl|rfl|rfl|rfl|rfl|rfl<;>kernel_rfl
theorem Eb{d:D}{v:V}{t:String}(j:RepH K H M)(r:Rp K H d v)(e:cu M d=cb t):TyOf K H v (.type t)/\t∈["NoneType","bool","int","str","tuple","list","dict"]:=by
 cases d with
 |non=>cases r;cases e;exact⟨.non,by simp⟩
 |bl b=>cases r;cases e;exact⟨.bl b,by simp⟩
 |int i=>cases r;cases e;exact⟨.int i,by simp⟩
 |str x=>cases r;cases e;exact⟨.str x,by simp⟩
 |ty n=>cases e
 |mt n=>cases e
 |ml n=>cases e
 |fd _ _=>cases e
 |tup xs=>
  cases e;obtain⟨q,y,rfl,h,w⟩:=r;exact⟨.tup h,by simp⟩
 |lst xs=>
  cases e;obtain⟨q,y,rfl,⟨o,h⟩,w⟩:=r;exact⟨.frz h,by simp⟩
 |ref a=>
  cases r;simp only[cu]at e
  split at e
  .rename_i q;cases e;obtain⟨m,f,l⟩:=j _ _ q;exact⟨.lst f,by simp⟩
  .rename_i q;cases e;obtain⟨m,f,l⟩:=j _ _ q;exact⟨.dK f,by simp⟩
  .rename_i q;cases e;obtain⟨m,f,l⟩:=j _ _ q;exact⟨.dT f,by simp⟩
  .cases e
def b_:sG:=λf M Q=>match f with
 |[d,.ty T]=>tI T=true/\match cu M d with
  |some t=>Q (.bl<|bP t T) M
  |none=>False
 |_=>False
theorem qw:bL X (.builtin "isinstance") (liftC X b_):=by
 intro f s Z H E y Q I r h;obtain⟨F,M,QQ,m,C,h,z⟩:=h;unfold b_ at h
 split at h
 .rename_i d T
  obtain⟨l,h⟩:=h;obtain⟨v,w,rfl,o,j⟩:=Im C;cases j
  split at h
  .rename_i t e
   obtain⟨ty,q⟩:=Eb m o e;refine qW f s Z H _ y Q I r ⟨v,T,.type t,_,rfl,ty,EG X.K t q T ?_,z _ M h _ H m Frm.refl rfl⟩;simp only[tI,Bool.or_eq_true,beq_iff_eq]at l;simp only[Mm,MV,or_false];rcases l with ((((h|h)|h)|h)|h)|h<;>simp[h]
  .exact h.elim
 .exact h.elim
def jc:List D->Option (List Bool)
 |[]=>cb []
 |.bl b::ds=>match jc ds with
  |some bs=>cb (b::bs)
  |none=>ed
 |_=>ed
theorem o6:∀{ds:List D}{vs:List V}{bs:List Bool},Rps K H ds vs->jc ds=cb bs->vs=bs.map V.bl
 |[],vs,bs,r,e=>by cases e;exact r
 |d::ds,vs,bs,r,e=>by
  obtain⟨v,j,rfl,a,b⟩:=r;cases d with
  |bl c=>
   simp only[jc]at e
   split at e
   .rename_i f h
    cases e;cases a;rw[o6 b h];rfl
   .cases e
  |_=>cases e
def mZ:sG:=λf M Q=>match f with
 |[d]=>match cX M d with
  |some xs=>match jc xs with
   |some bs=>Q (.bl<|bs.all id) M
   |none=>False
  |none=>False
 |_=>False
theorem yU(F:X.calm=true):bL X (.builtin "all") (liftC X mZ):=by
 intro f s Z H G o Q I r h;obtain⟨ds,M,QQ,j,C,h,w⟩:=h;unfold mZ at h
 split at h
 .obtain⟨v,rfl,E⟩:=fH (ds:=[]) C
  split at h
  .rename_i J e
   split at h
   .rename_i bs y
    obtain⟨q,L,rfl,z,m⟩:=eF j E e;have l:=o6 m y;subst l;exact zb F f s Z H _ o Q I r ⟨q,bs,rfl,.inl z,w _ M h _ H j Frm.refl rfl⟩
   .exact h.elim
  .exact h.elim
 .exact h.elim
def G3:sG:=λf M Q=>match f with
 |[.int i,.int j]=>Q (.int (if j<i then j else i)) M
 |_=>False
theorem xU(z:X.calm=true):bL X (.builtin "min") (liftC X G3):=by
 intro f s Z H C l Q I r h;obtain⟨E,M,QQ,q,o,h,m⟩:=h;unfold G3 at h
 split at h
 .obtain⟨v,w,rfl,y,j⟩:=Im o
  cases y;cases j;exact xX z f s Z H _ l Q I r ⟨_,_,rfl,m _ M h _ H q Frm.refl rfl⟩
 .exact h.elim
end
mutual
def aH:D->D->Bool
 |.non,.non=>true
 |.bl a,.bl b=>a==b
 |.bl a,.int b=>(if a then 1 else 0)==b
 |.int a,.bl b=>a==(if b then 1 else 0)
 |.int a,.int b=>decide (a=b)
 |.str a,.str b=>decide (a=b)
 |.tup xs,.tup ys=>cG xs ys
 |.lst xs,.lst ys=>cG xs ys
 |_,_=>eH
def cG:List D->List D->Bool
 |[],[]=>true
 |x::xs,y::ys=>aH x y&&cG xs ys
 |_,_=>eH
end
mutual
def bN:Nat->D->Bool
 |_,.non=>true
 |_,.bl _=>true
 |_,.int _=>true
 |_,.str _=>true
 |n+1,.tup xs=>fits n xs
 |n+1,.lst xs=>fits n xs
 |_,_=>eH
def fits:Nat->List D->Bool
 |_,[]=>true
 |n,x::xs=>bN n x&&fits n xs
end
mutual
def Hr(h:g4):D->cx->Prop
 |.non,u=>u=.none
 |.bl b,u=>u=.bool b
 |.int i,u=>∃t,u=.int i t
 |.str x,u=>∃t,u=.str x t
 |.tup xs,u=>∃p Ua,u=.ref p/\h.IsTuple p (N9 Ua)/\Hrs h xs Ua
 |.lst xs,u=>∃p Ua,u=.ref p/\h.IsList p (N9 Ua)/\Hrs h xs Ua
 |_,_=>False
def Hrs(h:g4):List D->List cx->Prop
 |[],us=>us=[]
 |x::xs,us=>∃u r,us=u::r/\Hr h x u/\Hrs h xs r
end
section
variable{h:g4}
theorem Hrs.length:∀{ds:List D}{us:Ui},Hrs h ds us->ds.length=us.length
 |[],_,q=>by cases q;rfl
 |_::_,_,q=>by obtain⟨v,r,rfl,_,b⟩:=q;simp[b.length]
theorem Hrs.get:∀{ds:List D}{us:Ui},Hrs h ds us->∀(i:Nat)(f:i<ds.length)(h2:i<us.length),Hr h ds[i] us[i]
 |[],_,_,i,f,_=>absurd f (Oy _)
 |x::xs,_,q,i,f,h2=>by
  obtain⟨v,r,rfl,a,b⟩:=q;cases i with
  |zero=>exact a
  |succ i=>exact b.get i (by simpa using f) (by simpa using h2)
theorem vR(x:h.IsTuple p a)(y:h.IsTuple p b):a=b:=by
 obtain⟨o,l,_,n,m⟩:=x;obtain⟨v,j,_,q,f⟩:=y;rw[l]at j;cases j;rw[m]at f
 injection f with e _
theorem vU(x:h.IsList p a)(y:h.IsList p b):a=b:=by
 obtain⟨o,l,_,n,m⟩:=x;obtain⟨v,j,_,q,f⟩:=y;rw[l]at j;cases j;rw[m]at f
 injection f with e _
theorem L4(x:h.IsList p a)(y:h.IsTuple p b):False:=by
 obtain⟨o,l,c,_⟩:=x;obtain⟨m,f,j,_⟩:=y;rw[l]at f;cases f;rw[c]at j
 injection j with e
 exact absurd e (by decide)
mutual
theorem zD:∀{d e:D}{u:cx},Hr h d u->Hr h e u->d=e
 |.non,e,u,a,b=>by
  cases a;cases e with
  |non=>rfl
  |bl _=>cases b
  |int _=>obtain⟨t,q⟩:=b;cases q
  |str _=>obtain⟨t,q⟩:=b;cases q
  |tup _=>obtain⟨p,i,q,_⟩:=b;cases q
  |lst _=>obtain⟨p,i,q,_⟩:=b;cases q
  |_=>exact(show False from b).elim
 |.bl c,e,u,a,b=>by
  cases a;cases e with
  |non=>cases b
  |bl _=>cases b;rfl
  |int _=>obtain⟨t,q⟩:=b;cases q
  |str _=>obtain⟨t,q⟩:=b;cases q
  |tup _=>obtain⟨p,i,q,_⟩:=b;cases q
  |lst _=>obtain⟨p,i,q,_⟩:=b;cases q
  |_=>exact(show False from b).elim
 |.int c,e,u,a,b=>by
  obtain⟨t,rfl⟩:=a;cases e with
  |non=>cases b
  |bl _=>cases b
  |int _=>obtain⟨t,q⟩:=b;cases q;rfl
  |str _=>obtain⟨t,q⟩:=b;cases q
  |tup _=>obtain⟨p,i,q,_⟩:=b;cases q
  |lst _=>obtain⟨p,i,q,_⟩:=b;cases q
  |_=>exact(show False from b).elim
 |.str c,e,u,a,b=>by
  obtain⟨t,rfl⟩:=a;cases e with
  |non=>cases b
  |bl _=>cases b
  |int _=>obtain⟨t,q⟩:=b;cases q
  |str _=>obtain⟨t,q⟩:=b;cases q;rfl
  |tup _=>obtain⟨p,i,q,_⟩:=b;cases q
  |lst _=>obtain⟨p,i,q,_⟩:=b;cases q
  |_=>exact(show False from b).elim
 |.tup xs,e,u,a,b=>by
  obtain⟨p,Ua,rfl,t1,l⟩:=a;cases e with
  |non=>cases b
  |bl _=>cases b
  |int _=>obtain⟨t,q⟩:=b;cases q
  |str _=>obtain⟨t,q⟩:=b;cases q
  |tup ys=>
   obtain⟨p',its',q,t2,f⟩:=b;cases q;have e:=vR t1 t2;have j:Ua=its':=by simpa using congrArg OP e
   subst j;rw[ir l f]
  |lst ys=>obtain⟨p',its',q,t2,f⟩:=b;cases q;exact(L4 t2 t1).elim
  |_=>exact(show False from b).elim
 |.lst xs,e,u,a,b=>by
  obtain⟨p,Ua,rfl,t1,l⟩:=a;cases e with
  |non=>cases b
  |bl _=>cases b
  |int _=>obtain⟨t,q⟩:=b;cases q
  |str _=>obtain⟨t,q⟩:=b;cases q
  |lst ys=>
   obtain⟨p',its',q,t2,f⟩:=b;cases q;have e:=vU t1 t2;have j:Ua=its':=by simpa using congrArg OP e
   subst j;rw[ir l f]
  |tup ys=>obtain⟨p',its',q,t2,f⟩:=b;cases q;exact(L4 t1 t2).elim
  |_=>exact(show False from b).elim
 |.ty _,_,_,a,_=>(show False from a).elim
 |.ref _,_,_,a,_=>(show False from a).elim
 |.mt _,_,_,a,_=>(show False from a).elim
 |.ml _,_,_,a,_=>(show False from a).elim
 |.fd _ _,_,_,a,_=>(show False from a).elim
theorem ir:∀{ds es:List D}{us:Ui},Hrs h ds us->Hrs h es us->ds=es
 |[],es,us,a,b=>by
  cases a;cases es with
  |nil=>rfl
  |cons _ _=>obtain⟨v,r,q,_⟩:=b;cases q
 |d::ds,es,us,a,b=>by
  obtain⟨v,r,rfl,j,l⟩:=a;cases es with
  |nil=>cases b
  |cons e es=>
   obtain⟨w,o,q,m,f⟩:=b;cases q;rw[zD j m,ir l f]
end
mutual
theorem z0:∀{n:Nat}{d:D},bN n d=true->aH d d=true
 |_,.non,_=>by simp[aH]
 |_,.bl _,_=>by simp[aH]
 |_,.int _,_=>by simp[aH]
 |_,.str _,_=>by simp[aH]
 |0,.tup _,f=>by simp[bN]at f
 |0,.lst _,f=>by simp[bN]at f
 |n+1,.tup xs,f=>by rw[aH];exact dP (n:=n) f
 |n+1,.lst xs,f=>by rw[aH];exact dP (n:=n) f
 |_,.ty _,f=>by simp[bN]at f
 |_,.ref _,f=>by simp[bN]at f
 |_,.mt _,f=>by simp[bN]at f
 |_,.ml _,f=>by simp[bN]at f
 |_,.fd _ _,f=>by simp[bN]at f
theorem dP:∀{n:Nat}{ds:List D},fits n ds=true->cG ds ds=true
 |_,[],_=>by simp[cG]
 |n,x::xs,f=>by
  rw[fits,MA]at f;rw[cG,z0 f.1,dP f.2];rfl
end
theorem dq:∀{xs ys:List D},xs.length≠ys.length->cG xs ys=eH
 |[],[],h=>absurd rfl h
 |[],_::_,_=>by simp[cG]
 |_::_,[],_=>by simp[cG]
 |x::xs,y::ys,h=>by rw[cG,dq (by simpa using h),OW]
theorem ib:∀(xs ys:List D)(f:Nat->Bool),xs.length=ys.length->(∀j (h1:j<xs.length)(h2:j<ys.length),f j=aH xs[j] ys[j])->(Ol xs.length).all f=cG xs ys
 |[],[],f,_,_=>by simp[cG]
 |[],_::_,_,h,_=>by simp at h
 |_::_,[],_,h,_=>by simp at h
 |x::xs,y::ys,f,h,hf=>by
  have l:=hf 0 (by simp) (by simp)
  have m:=ib xs ys (λj=>f (j+1)) (by simpa using h) (λj h1 h2=>hf (j+1) (by simpa using h1) (by simpa using h2))
  rw[Mc,List.range_succ_eq_map,List.all_cons,List.all_map,cG,<- m];simp only[Q1]at l;rw[l];rfl
theorem di:∀{n:Nat}{xs:List D},fits n xs=true->∀(j:Nat)(l:j<xs.length),bN n xs[j]=true
 |_,[],_,j,l=>absurd l (Oy _)
 |n,x::xs,f,j,l=>by
  rw[fits,MA]at f;cases j with
  |zero=>exact f.1
  |succ j=>exact di f.2 j (by simpa using l)
noncomputable def mS:D->Option V
 |.non=>cb .non
 |.bl b=>cb (.bl b)
 |.int i=>cb (.int i)
 |.str x=>cb (.str x)
 |_=>ed
theorem jP{d:D}{v:V}(e:mS d=cb v)(r:Hr h d u):RelV v u/\AA v=true:=by
 cases d with
 |non=>cases e;exact⟨r,rfl⟩
 |bl b=>cases e;exact⟨r,rfl⟩
 |int b=>cases e;exact⟨r,rfl⟩
 |str b=>cases e;exact⟨r,rfl⟩
 |_=>cases e
theorem sO{d e:D}{v w:V}(f:mS d=cb v)(h2:mS e=cb w):qN v w=aH d e:=by
 cases d with
 |non=>cases f;cases e with|non=>cases h2;simp[qN,aH]|bl b=>cases h2;simp[qN,aH]|int b=>cases h2;simp[qN,aH]|str b=>cases h2;simp[qN,aH]|_=>cases h2
 |bl a=>cases f;cases e with|non=>cases h2;simp[qN,aH]|bl b=>cases h2;simp[qN,aH]|int b=>cases h2;simp[qN,aH]|str b=>cases h2;simp[qN,aH]|_=>cases h2
 |int a=>cases f;cases e with|non=>cases h2;simp[qN,aH]|bl b=>cases h2;simp[qN,aH]|int b=>cases h2;simp[qN,aH];rfl|str b=>cases h2;simp[qN,aH]|_=>cases h2
 |str a=>cases f;cases e with|non=>cases h2;simp[qN,aH]|bl b=>cases h2;simp[qN,aH]|int b=>cases h2;simp[qN,aH]|str b=>cases h2;simp[qN,aH];rfl|_=>cases h2
 |_=>cases f
end
theorem EN:∀(n:Nat){A:hB}{s:ee}{d e:D}{u w:cx},Hr s.heap d u->Hr s.heap e w->bN n d=true->bN n e=true->A.units+n<mv->Pa A s u w (aH d e):=by
 intro n
 induction n with
 |zero=>
  intro A s d e u w l h fd N hu;have S:∃v,mS d=cb v:=by cases d<;>first|exact⟨_,rfl⟩|(simp[bN]at fd)
  have T:∃v,mS e=cb v:=by cases e<;>first|exact⟨_,rfl⟩|(simp[bN]at N)
  obtain⟨v1,L⟩:=S;obtain⟨v2,R⟩:=T;obtain⟨W,b1⟩:=jP L l;obtain⟨a2,U⟩:=jP R h;rw[<- sO L R];exact B5 W a2 b1 U
 |succ n ih=>
  intro A s d e u w l h fd N hu;have f:A.units<cLine:=by lia
  have Q:A.in1.units+n<cLine:=by show A.units+1+n<mv;lia
  by_cases S:∃v,mS d=cb v
  .obtain⟨v1,L⟩:=S
   obtain⟨W,b1⟩:=jP L l
   by_cases T:∃v,mS e=cb v
   .obtain⟨v2,R⟩:=T
    obtain⟨a2,U⟩:=jP R h;rw[<- sO L R];exact B5 W a2 b1 U
   .cases e with
    |tup ys=>
     obtain⟨p,Ua,rfl,t,_⟩:=h;cases d with
     |non=>cases l;simp only[aH];exact .none_tuple t f
     |bl b=>cases l;simp only[aH];exact .bool_tuple b t f
     |int b=>obtain⟨q,rfl⟩:=l;simp only[aH];exact .int_tuple b q t f
     |str b=>obtain⟨q,rfl⟩:=l;simp only[aH];exact .str_tuple b q t f
     |_=>cases L
    |lst ys=>
     obtain⟨p,Ua,rfl,t,_⟩:=h;cases d with
     |non=>cases l;simp only[aH];exact .none_list t f
     |bl b=>cases l;simp only[aH];exact .bool_list b t f
     |int b=>obtain⟨q,rfl⟩:=l;simp only[aH];exact .int_list b q t f
     |str b=>obtain⟨q,rfl⟩:=l;simp only[aH];exact .str_list b q t f
     |_=>cases L
    |ty _=>exact(show False from h).elim
    |ref _=>exact(show False from h).elim
    |mt _=>exact(show False from h).elim
    |ml _=>exact(show False from h).elim
    |fd _ _=>exact(show False from h).elim
    |_=>exact absurd ⟨_,rfl⟩ T
  .cases d with
   |tup xs=>
    obtain⟨p,Ua,rfl,t1,J⟩:=l;cases e with
    |non=>cases h;simp only[aH];exact .tuple_none t1 f
    |bl b=>cases h;simp only[aH];exact .tuple_bool b t1 f
    |int b=>obtain⟨q,rfl⟩:=h;simp only[aH];exact .tuple_int b q t1 f
    |str b=>obtain⟨q,rfl⟩:=h;simp only[aH];exact .tuple_str b q t1 f
    |tup ys=>
     obtain⟨p',its',rfl,t2,E⟩:=h;rw[aH]
     by_cases P:p=p'
     .subst P
      have e':Ua=its':=by simpa using congrArg OP (vR t1 t2)
      subst e';rw[ir J E,dP (n:=n) N];exact .same _
     .refine .of_refs P ?_
      have Y:=J.length;have l2:=E.length;have G:∀j (C:j<Ua.toArray.size)(z:j<its'.toArray.size),Pa A.in1 s Ua.toArray[j] its'.toArray[j] (match xs[j]?,ys[j]? with|some x,cb y=>aH x y|_,_=>eH):=λj C z=>by
       have o:j<xs.length:=by rw[Y];simpa using C
       have m:j<ys.length:=by rw[l2];simpa using z
       rw[Mi o,Mi m];exact ih (J.get j o<|by simpa using C) (E.get j m<|by simpa using z) (di fd j o) (di N j m) Q
      have:=QW (e:=λj=>match xs[j]?,ys[j]? with|some x,cb y=>aH x y|_,_=>eH) t1 t2 f G
      by_cases O:xs.length=ys.length
      .have F:Ua.toArray.size=its'.toArray.size:=by simp;lia
       rw[F]at this;simp only[Rc,beq_self_eq_true,OJ]at this;have I:its'.toArray.size=xs.length:=by simp;lia
       rw[I,ib xs ys _ O (λj C z=>by rw[Mi C,Mi z])]at this
       exact this
      .have F:(Ua.toArray.size==its'.toArray.size)=false:=by simp;lia
       rw[F,OW]at this;rw[dq O];exact this
    |lst ys=>obtain⟨p',its',rfl,t2,E⟩:=h;simp only[aH];exact .tuple_list t1 t2 f
    |_=>exact(show False from h).elim
   |lst xs=>
    obtain⟨p,Ua,rfl,t1,J⟩:=l;cases e with
    |non=>cases h;simp only[aH];exact .list_none t1 f
    |bl b=>cases h;simp only[aH];exact .list_bool b t1 f
    |int b=>obtain⟨q,rfl⟩:=h;simp only[aH];exact .list_int b q t1 f
    |str b=>obtain⟨q,rfl⟩:=h;simp only[aH];exact .list_str b q t1 f
    |lst ys=>
     obtain⟨p',its',rfl,t2,E⟩:=h;rw[aH]
     by_cases P:p=p'
     .subst P
      have e':Ua=its':=by simpa using congrArg OP (vU t1 t2)
      subst e';rw[ir J E,dP (n:=n) N];exact .same _
     .refine .of_refs P ?_
      have Y:=J.length;have l2:=E.length
      by_cases O:xs.length=ys.length
      .have G:∀j (C:j<Ua.toArray.size)(z:j<its'.toArray.size),Pa A.in1 s Ua.toArray[j] its'.toArray[j] (match xs[j]?,ys[j]? with|some x,cb y=>aH x y|_,_=>eH):=λj C z=>by
        have o:j<xs.length:=by rw[Y];simpa using C
        have m:j<ys.length:=by rw[l2];simpa using z
        rw[Mi o,Mi m];exact ih (J.get j o<|by simpa using C) (E.get j m<|by simpa using z) (di fd j o) (di N j m) Q
       have:=QZ (e:=λj=>match xs[j]?,ys[j]? with|some x,cb y=>aH x y|_,_=>eH) t1 t2 (by simp;lia) f G
       have I:Ua.toArray.size=xs.length:=by simp;lia
       rw[I,ib xs ys _ O (λj C z=>by rw[Mi C,Mi z])]at this
       exact this
      .rw[dq O]
       exact Qf t1 t2 (by simp;lia) f
    |tup ys=>obtain⟨p',its',rfl,t2,E⟩:=h;simp only[aH];exact .list_tuple t1 t2 f
    |_=>exact(show False from h).elim
   |ty _=>exact(show False from l).elim
   |ref _=>exact(show False from l).elim
   |mt _=>exact(show False from l).elim
   |ml _=>exact(show False from l).elim
   |fd _ _=>exact(show False from l).elim
   |_=>exact absurd ⟨_,rfl⟩ S
theorem jF{xs ys:List D}(m:Hrs s.heap xs Ua)(l:Hrs s.heap ys its')(fd:fits n xs=true)(q:fits n ys=true)(o:A.units+n<mv):
  ∀j (h1:j<Ua.toArray.size)(h2:j<its'.toArray.size),Pa A s Ua.toArray[j] its'.toArray[j] (match xs[j]?,ys[j]? with|some x,cb y=>aH x y|_,_=>eH):=λj h1 h2=>by
 have h:j<xs.length:=by rw[m.length];simpa using h1
 have f:j<ys.length:=by rw[l.length];simpa using h2
 rw[Mi h,Mi f];exact EN n (m.get j h<|by simpa using h1) (l.get j f<|by simpa using h2) (di fd j h) (di q j f) o
theorem kz{xs ys:List D}(l:xs.length=ys.length):(Ol xs.length).all (λj=>match xs[j]?,ys[j]? with|some x,cb y=>aH x y|_,_=>eH)=cG xs ys:=
 ib xs ys _ l (λj f h=>by rw[Mi f,Mi h])
theorem Iw{xs ys:List D}(t1:s.heap.IsTuple p Ua.toArray)(t2:s.heap.IsTuple p' its'.toArray)(m:Hrs s.heap xs Ua)(l:Hrs s.heap ys its')(fd:bN n (.tup xs)=true)(o:bN n (.tup ys)=true)(w:A.units+n<mv):
  Ry A s (.ref p) (.ref p') (aH (.tup xs)<|.tup ys):=by
 cases n with
 |zero=>simp[bN]at fd
 |succ n=>
  have q:=m.length;have v:=l.length;have:=QW (A:=A) t1 t2 (by lia) (jF (n:=n) m l fd o<|by show A.units+1+n<mv;lia)
  rw[aH]
  by_cases j:xs.length=ys.length
  .have f:Ua.toArray.size=its'.toArray.size:=by simp;lia
   rw[f]at this;simp only[Rc,beq_self_eq_true,OJ]at this;have h:its'.toArray.size=xs.length:=by simp;lia
   rw[h,kz j]at this;exact this
  .have f:(Ua.toArray.size==its'.toArray.size)=false:=by simp;lia
   rw[f,OW]at this;rw[dq j];exact this
theorem GO{xs ys:List D}(t1:s.heap.IsList p Ua.toArray)(t2:s.heap.IsList p' its'.toArray)(l:Hrs s.heap xs Ua)(j:Hrs s.heap ys its')(fd:bN n (.lst xs)=true)(m:bN n (.lst ys)=true)(v:A.units+n<mv):
  Ry A s (.ref p) (.ref p') (aH (.lst xs)<|.lst ys):=by
 cases n with
 |zero=>simp[bN]at fd
 |succ n=>
  have q:=l.length;have o:=j.length;rw[aH]
  by_cases h:xs.length=ys.length
  .have:=QZ (A:=A) t1 t2 (by simp;lia) (by lia) (jF (n:=n) l j fd m<|by show A.units+1+n<mv;lia)
   have f:Ua.toArray.size=xs.length:=by simp;lia
   rw[f,kz h]at this;exact this
  .rw[dq h]
   exact Qf t1 t2 (by simp;lia) (by lia)
theorem AL{xs ys:List D}(t1:s.heap.IsTuple p Ua.toArray)(t2:s.heap.IsTuple p' its'.toArray)(m:Hrs s.heap xs Ua)(l:Hrs s.heap ys its')(fd:bN n (.tup xs)=true)(o:bN n (.tup ys)=true)(w:A.units+n<mv):
  QU A s (.ref p) (.ref p') (!aH (.tup xs) (.tup ys)):=by
 cases n with
 |zero=>simp[bN]at fd
 |succ n=>
  have q:=m.length;have v:=l.length;have:=SeqAt.RcNeAt.tuples (A:=A) t1 t2 (by lia) (jF (n:=n) m l fd o<|by show A.units+1+n<mv;lia)
  rw[aH]
  by_cases j:xs.length=ys.length
  .have f:Ua.toArray.size=its'.toArray.size:=by simp;lia
   rw[f]at this;simp only[Rc,beq_self_eq_true,OJ]at this;have h:its'.toArray.size=xs.length:=by simp;lia
   rw[h,kz j]at this;exact this
  .have f:(Ua.toArray.size==its'.toArray.size)=false:=by simp;lia
   rw[f,OW]at this;rw[dq j];exact this
theorem zU{xs ys:List D}(t1:s.heap.IsList p Ua.toArray)(t2:s.heap.IsList p' its'.toArray)(l:Hrs s.heap xs Ua)(j:Hrs s.heap ys its')(fd:bN n (.lst xs)=true)(m:bN n (.lst ys)=true)(v:A.units+n<mv):
  QU A s (.ref p) (.ref p') (!aH (.lst xs) (.lst ys)):=by
 cases n with
 |zero=>simp[bN]at fd
 |succ n=>
  have q:=l.length;have o:=j.length;rw[aH]
  by_cases h:xs.length=ys.length
  .have:=SeqAt.RcNeAt.lists (A:=A) t1 t2 (by simp;lia) (by lia) (jF (n:=n) l j fd m<|by show A.units+1+n<mv;lia)
   have f:Ua.toArray.size=xs.length:=by simp;lia
   rw[f,kz h]at this;exact this
  .rw[dq h]
   exact SeqAt.RcNeAt.lists_lengths t1 t2 (by simp;lia) (by lia)
theorem Ki{d e:D}{w:cx}(z:Hr s.heap d u)(h:Hr s.heap e w)(fd:bN n d=true)(G:bN n e=true)(F:A.units+n<mv):Ry A s u w (aH d e):=by
 have j:A.units<cLine:=by lia
 cases d with
 |non=>
  cases z;cases e with
  |non=>
   cases h;simpa [aH,MM] using SeqAt.RcAt.none_none
  |bl y=>
   cases h;simpa [aH] using SeqAt.RcAt.none_bool y
  |int y=>
   obtain⟨f,rfl⟩:=h;simpa [aH] using SeqAt.RcAt.none_int y f
  |str y=>
   obtain⟨f,rfl⟩:=h;simpa [aH] using SeqAt.RcAt.none_str y f
  |tup y=>
   obtain⟨v,l,rfl,ty,o⟩:=h;simpa [aH] using SeqAt.RcAt.none_tuple ty j
  |lst y=>
   obtain⟨v,l,rfl,ty,o⟩:=h;simpa [aH] using SeqAt.RcAt.none_list ty j
  |_=>exact(show False from h).elim
 |bl x=>
  cases z;cases e with
  |non=>
   cases h;simpa [aH] using SeqAt.RcAt.bool_none x
  |bl y=>
   cases h;simpa [aH,MM] using SeqAt.RcAt.bool_bool x y
  |int y=>
   obtain⟨f,rfl⟩:=h;simpa [aH,MM] using SeqAt.RcAt.bool_int x y f
  |str y=>
   obtain⟨f,rfl⟩:=h;simpa [aH] using SeqAt.RcAt.bool_str x y f
  |tup y=>
   obtain⟨v,l,rfl,ty,o⟩:=h;simpa [aH] using SeqAt.RcAt.bool_tuple x ty j
  |lst y=>
   obtain⟨v,l,rfl,ty,o⟩:=h;simpa [aH] using SeqAt.RcAt.bool_list x ty j
  |_=>exact(show False from h).elim
 |int x=>
  obtain⟨m,rfl⟩:=z;cases e with
  |non=>
   cases h;simpa [aH] using SeqAt.RcAt.int_none x m
  |bl y=>
   cases h;simpa [aH,MM] using SeqAt.RcAt.int_bool x m y
  |int y=>
   obtain⟨f,rfl⟩:=h;simpa [aH,MM] using SeqAt.RcAt.int_int x m y f
  |str y=>
   obtain⟨f,rfl⟩:=h;simpa [aH] using SeqAt.RcAt.int_str x m y f
  |tup y=>
   obtain⟨v,l,rfl,ty,o⟩:=h;simpa [aH] using SeqAt.RcAt.int_tuple x m ty j
  |lst y=>
   obtain⟨v,l,rfl,ty,o⟩:=h;simpa [aH] using SeqAt.RcAt.int_list x m ty j
  |_=>exact(show False from h).elim
 |str x=>
  obtain⟨m,rfl⟩:=z;cases e with
  |non=>
   cases h;simpa [aH] using SeqAt.RcAt.str_none x m
  |bl y=>
   cases h;simpa [aH] using SeqAt.RcAt.str_bool x m y
  |int y=>
   obtain⟨f,rfl⟩:=h;simpa [aH] using SeqAt.RcAt.str_int x m y f
  |str y=>
   obtain⟨f,rfl⟩:=h;simpa [aH,MM] using SeqAt.RcAt.str_str x m y f
  |tup y=>
   obtain⟨v,l,rfl,ty,o⟩:=h;simpa [aH] using SeqAt.RcAt.str_tuple x m ty j
  |lst y=>
   obtain⟨v,l,rfl,ty,o⟩:=h;simpa [aH] using SeqAt.RcAt.str_list x m ty j
  |_=>exact(show False from h).elim
 |tup x=>
  obtain⟨I,C,rfl,q,E⟩:=z;cases e with
  |non=>
   cases h;simpa [aH] using SeqAt.RcAt.tuple_none q j
  |bl y=>
   cases h;simpa [aH] using SeqAt.RcAt.tuple_bool y q j
  |int y=>
   obtain⟨f,rfl⟩:=h;simpa [aH] using SeqAt.RcAt.tuple_int y f q j
  |str y=>
   obtain⟨f,rfl⟩:=h;simpa [aH] using SeqAt.RcAt.tuple_str y f q j
  |tup y=>
   obtain⟨v,l,rfl,ty,o⟩:=h;exact Iw q ty E o fd G F
  |lst y=>
   obtain⟨v,l,rfl,ty,o⟩:=h;simpa [aH] using SeqAt.RcAt.tuple_list q ty j
  |_=>exact(show False from h).elim
 |lst x=>
  obtain⟨I,C,rfl,q,E⟩:=z;cases e with
  |non=>
   cases h;simpa [aH] using SeqAt.RcAt.list_none q j
  |bl y=>
   cases h;simpa [aH] using SeqAt.RcAt.list_bool y q j
  |int y=>
   obtain⟨f,rfl⟩:=h;simpa [aH] using SeqAt.RcAt.list_int y f q j
  |str y=>
   obtain⟨f,rfl⟩:=h;simpa [aH] using SeqAt.RcAt.list_str y f q j
  |tup y=>
   obtain⟨v,l,rfl,ty,o⟩:=h;simpa [aH] using SeqAt.RcAt.list_tuple q ty j
  |lst y=>
   obtain⟨v,l,rfl,ty,o⟩:=h;exact GO q ty E o fd G F
  |_=>exact(show False from h).elim
 |_=>exact(show False from z).elim
theorem DY{d e:D}{w:cx}(z:Hr s.heap d u)(h:Hr s.heap e w)(fd:bN n d=true)(G:bN n e=true)(F:A.units+n<mv):QU A s u w (!aH d e):=by
 have j:A.units<cLine:=by lia
 cases d with
 |non=>
  cases z;cases e with
  |non=>
   cases h;simpa [aH,MM] using SeqAt.RcNeAt.none_none
  |bl y=>
   cases h;simpa [aH] using SeqAt.RcNeAt.none_bool y
  |int y=>
   obtain⟨f,rfl⟩:=h;simpa [aH] using SeqAt.RcNeAt.none_int y f
  |str y=>
   obtain⟨f,rfl⟩:=h;simpa [aH] using SeqAt.RcNeAt.none_str y f
  |tup y=>
   obtain⟨v,l,rfl,ty,o⟩:=h;simpa [aH] using SeqAt.RcNeAt.none_tuple ty j
  |lst y=>
   obtain⟨v,l,rfl,ty,o⟩:=h;simpa [aH] using SeqAt.RcNeAt.none_list ty j
  |_=>exact(show False from h).elim
 |bl x=>
  cases z;cases e with
  |non=>
   cases h;simpa [aH] using SeqAt.RcNeAt.bool_none x
  |bl y=>
   cases h;simpa [aH,MM] using SeqAt.RcNeAt.bool_bool x y
  |int y=>
   obtain⟨f,rfl⟩:=h;simpa [aH,MM] using SeqAt.RcNeAt.bool_int x y f
  |str y=>
   obtain⟨f,rfl⟩:=h;simpa [aH] using SeqAt.RcNeAt.bool_str x y f
  |tup y=>
   obtain⟨v,l,rfl,ty,o⟩:=h;simpa [aH] using SeqAt.RcNeAt.bool_tuple x ty j
  |lst y=>
   obtain⟨v,l,rfl,ty,o⟩:=h;simpa [aH] using SeqAt.RcNeAt.bool_list x ty j
  |_=>exact(show False from h).elim
 |int x=>
  obtain⟨m,rfl⟩:=z;cases e with
  |non=>
   cases h;simpa [aH] using SeqAt.RcNeAt.int_none x m
  |bl y=>
   cases h;simpa [aH,MM] using SeqAt.RcNeAt.int_bool x m y
  |int y=>
   obtain⟨f,rfl⟩:=h;simpa [aH,MM] using SeqAt.RcNeAt.int_int x m y f
  |str y=>
   obtain⟨f,rfl⟩:=h;simpa [aH] using SeqAt.RcNeAt.int_str x m y f
  |tup y=>
   obtain⟨v,l,rfl,ty,o⟩:=h;simpa [aH] using SeqAt.RcNeAt.int_tuple x m ty j
  |lst y=>
   obtain⟨v,l,rfl,ty,o⟩:=h;simpa [aH] using SeqAt.RcNeAt.int_list x m ty j
  |_=>exact(show False from h).elim
 |str x=>
  obtain⟨m,rfl⟩:=z;cases e with
  |non=>
   cases h;simpa [aH] using SeqAt.RcNeAt.str_none x m
  |bl y=>
   cases h;simpa [aH] using SeqAt.RcNeAt.str_bool x m y
  |int y=>
   obtain⟨f,rfl⟩:=h;simpa [aH] using SeqAt.RcNeAt.str_int x m y f
  |str y=>
   obtain⟨f,rfl⟩:=h;simpa [aH,MM] using SeqAt.RcNeAt.str_str x m y f
  |tup y=>
   obtain⟨v,l,rfl,ty,o⟩:=h;simpa [aH] using SeqAt.RcNeAt.str_tuple x m ty j
  |lst y=>
   obtain⟨v,l,rfl,ty,o⟩:=h;simpa [aH] using SeqAt.RcNeAt.str_list x m ty j
  |_=>exact(show False from h).elim
 |tup x=>
  obtain⟨I,C,rfl,q,E⟩:=z;cases e with
  |non=>
   cases h;simpa [aH] using SeqAt.RcNeAt.tuple_none q j
  |bl y=>
   cases h;simpa [aH] using SeqAt.RcNeAt.tuple_bool y q j
  |int y=>
   obtain⟨f,rfl⟩:=h;simpa [aH] using SeqAt.RcNeAt.tuple_int y f q j
  |str y=>
   obtain⟨f,rfl⟩:=h;simpa [aH] using SeqAt.RcNeAt.tuple_str y f q j
  |tup y=>
   obtain⟨v,l,rfl,ty,o⟩:=h;exact AL q ty E o fd G F
  |lst y=>
   obtain⟨v,l,rfl,ty,o⟩:=h;simpa [aH] using SeqAt.RcNeAt.tuple_list q ty j
  |_=>exact(show False from h).elim
 |lst x=>
  obtain⟨I,C,rfl,q,E⟩:=z;cases e with
  |non=>
   cases h;simpa [aH] using SeqAt.RcNeAt.list_none q j
  |bl y=>
   cases h;simpa [aH] using SeqAt.RcNeAt.list_bool y q j
  |int y=>
   obtain⟨f,rfl⟩:=h;simpa [aH] using SeqAt.RcNeAt.list_int y f q j
  |str y=>
   obtain⟨f,rfl⟩:=h;simpa [aH] using SeqAt.RcNeAt.list_str y f q j
  |tup y=>
   obtain⟨v,l,rfl,ty,o⟩:=h;simpa [aH] using SeqAt.RcNeAt.list_tuple q ty j
  |lst y=>
   obtain⟨v,l,rfl,ty,o⟩:=h;exact zU q ty E o fd G F
  |_=>exact(show False from h).elim
 |_=>exact(show False from z).elim
section
variable{T0:Uo}
mutual
theorem Fc(I:Inv X T0 Z H s):∀{n:Nat}{d:D}{v:V}{u:cx},bN n d=true->Rp X.K H d v->RelV v u->Hr s.heap d u
 |_,.non,v,u,_,r,q=>by cases r;exact q
 |_,.bl _,v,u,_,r,q=>by cases r;exact q
 |_,.int _,v,u,_,r,q=>by cases r;exact q
 |_,.str _,v,u,_,r,q=>by cases r;exact q
 |n+1,.tup xs,v,u,f,r,q=>by
  obtain⟨p,l,rfl,t,r⟩:=r;cases q;obtain⟨Ua,j,h,_⟩:=I.tuple t.sq;exact⟨p,Ua,rfl,h,eJ I (n:=n) f r j⟩
 |n+1,.lst xs,v,u,f,r,q=>by
  obtain⟨p,l,rfl,t,r⟩:=r;cases q;obtain⟨Ua,j,h,_⟩:=I.list t.sq;exact⟨p,Ua,rfl,h.isList,eJ I (n:=n) f r j⟩
 |0,.tup _,_,_,f,_,_=>by simp[bN]at f
 |0,.lst _,_,_,f,_,_=>by simp[bN]at f
 |_,.ty _,_,_,f,_,_=>by simp[bN]at f
 |_,.ref _,_,_,f,_,_=>by simp[bN]at f
 |_,.mt _,_,_,f,_,_=>by simp[bN]at f
 |_,.ml _,_,_,f,_,_=>by simp[bN]at f
 |_,.fd _ _,_,_,f,_,_=>by simp[bN]at f
theorem eJ(I:Inv X T0 Z H s):∀{n:Nat}{ds:List D}{vs:List V}{us:Ui},fits n ds=true->Rps X.K H ds vs->Vals vs us->Hrs s.heap ds us
 |_,[],vs,us,_,r,q=>by cases r;cases q;rfl
 |n,d::ds,vs,us,f,r,q=>by
  obtain⟨v,h,rfl,a,b⟩:=r;rw[fits,MA]at f;cases q with
  |cons q1 q2=>exact⟨_,_,rfl,Fc I f.1 a q1,eJ I f.2 b q2⟩
end
def dv(M:Mem):D->D
 |.ref a=>match M a with
  |some (.lst xs)=>.lst xs
  |_=>.ref a
 |d=>d
theorem mO(I:Inv X T0 Z H s){d:D}{v:V}(o:RepH X.K H M)(f:bN n (dv M d)=true)(r:Rp X.K H d v)(q:RelV v u):Hr s.heap (dv M d) u:=by
 cases d with
 |ref a=>
  cases r;simp only[dv]at f ⊢
  split at f
  .rename_i w e
   obtain⟨y,h,j⟩:=o _ _ e;obtain⟨Ua,m,l,_⟩:=I.list (SqL.of h);cases q;cases n with
   |zero=>simp[bN]at f
   |succ n=>exact⟨a,Ua,rfl,l.isList,eJ I (n:=n) f j m⟩
  .simp[bN]at f
 |_=>exact Fc I f r q
def ci:d_:=λx y M Q=>bN 60 (dv M x)=true/\bN 60 (dv M y)=true/\Q (.bl<|aH (dv M x)<|dv M y) M
def ji:d_:=λx y M Q=>bN 60 (dv M x)=true/\bN 60 (dv M y)=true/\Q (.bl<|!aH (dv M x) (dv M y)) M
theorem zO(F:X.A.units+64<mv):cq X (g0 .Eq) (liftR2 X ci):=by
 intro T0 s Z H x y v u Q I z q h;obtain⟨E,C,M,QQ,f,w,m,⟨j,l,h⟩,o⟩:=h;exact Ki (mO I f j w z) (mO I f l m q) j l (by lia) _ _ _ _ ⟨.bl _,H,I,rfl,o _ M h _ H f Frm.refl rfl⟩
theorem Iq(F:X.A.units+64<mv):cq X (g0 .NotEq) (liftR2 X ji):=by
 intro T0 s Z H x y v u Q I z q h;obtain⟨E,C,M,QQ,f,w,m,⟨j,l,h⟩,o⟩:=h;exact DY (mO I f j w z) (mO I f l m q) j l (by lia) _ _ _ _ ⟨.bl _,H,I,rfl,o _ M h _ H f Frm.refl rfl⟩
open Classical in
noncomputable def qP(h:g4)(x:D)(u:cx):Bool:=if q:∃d,Hr h d u then aH q.choose x else eH
theorem tF{h:g4}{x d:D}(r:Hr h d u):qP h x u=aH d x:=by
 have q:∃d,Hr h d u:=⟨d,r⟩;unfold qP;rw[dif_pos q,zD q.choose_spec r]
theorem gO{h:g4}{x:D}:∀{ds:List D}{us:Ui},Hrs h ds us->us.any (qP h x)=ds.any λd=>aH d x
 |[],_,r=>by cases r;rfl
 |d::ds,_,r=>by
  obtain⟨v,f,rfl,a,b⟩:=r;rw[ND,ND,tF a,gO b]
theorem fQ{A:hB}{n:Nat}{x:D}{w:cx}(m:Hr s.heap x w)(l:bN n x=true)(j:A.units+n<mv):∀{ds:List D}{us:Ui},Hrs s.heap ds us->fits n ds=true->∀u∈us,Pa A s u w (qP s.heap x u)
 |[],_,r,_,u,j=>by cases r;cases j
 |d::ds,_,r,f,u,h=>by
  obtain⟨v,o,rfl,a,b⟩:=r;rw[fits,MA]at f;rcases Mm.mp h with rfl|h
  .rw[tF a];exact EN n a m f.1 l j
  .exact fQ m l j b f.2 u h
def iQ(M:Mem)(x y:D):Option Bool:=match aC M y with
 |some xs=>if bN 60 (dv M x)=true/\fits 60 xs=true then cb (xs.any λd=>aH d (dv M x)) else ed
 |none=>match y with
  |.ref a=>match yn M a x with
   |some o=>cb o.isSome
   |none=>ed
  |_=>ed
def qO:d_:=λx y M Q=>match iQ M x y with
 |some k=>Q (.bl k) M
 |none=>False
def gu:d_:=λx y M Q=>match iQ M x y with
 |some k=>Q (.bl<|!k) M
 |none=>False
theorem Au(Y:X.A.units+64<mv):cq X (g0 .In) (liftR2 X qO):=by
 intro T0 s Z H x y v u Q I z J h;obtain⟨l,U,M,QQ,q,N,G,h,P⟩:=h;unfold qO at h
 split at h
 .rename_i k e
  have j:=P _ M h _ H q Frm.refl rfl;unfold iQ at e
  split at e
  .rename_i T S
   split at e
   .rename_i f
    cases e;obtain⟨p,W,rfl,hq,r⟩:=ik q G S;cases J;have L:=mO I q f.1 N z;rcases hq with hq|hq
    .obtain⟨Ua,F,E,_⟩:=I.list hq
     have m:=eJ I f.2 r F;refine SeqAt.in_listAt (qP s.heap<|dv M l) E.isList (λw C=>fQ L f.1 (by show X.A.units+1+60<mv;lia) m f.2 w (by simpa using C)) ⟨.bl _,H,I,rfl,?_⟩
     rw[show Ua.toArray.any (qP s.heap<|dv M l)=Ua.any (qP s.heap<|dv M l) by simp,gO m]
     exact j
    .obtain⟨Ua,F,E,_⟩:=I.tuple hq
     have m:=eJ I f.2 r F;refine SeqAt.in_tupleAt (qP s.heap<|dv M l) E (λw C=>fQ L f.1 (by show X.A.units+1+60<mv;lia) m f.2 w (by simpa using C)) ⟨.bl _,H,I,rfl,?_⟩
     rw[show Ua.toArray.any (qP s.heap<|dv M l)=Ua.any (qP s.heap<|dv M l) by simp,gO m]
     exact j
   .cases e
  .split at e
   .split at e
    .rename_i o R
     cases e;cases G;cases J;rcases oK q N R with⟨rfl,g⟩|⟨d,w,rfl,g,_⟩
     .exact JM (by lia) I g z λO I'=>⟨.bl _,H,I',rfl,j⟩
     .exact JM (by lia) I g z λO I'=>⟨.bl _,H,I',rfl,j⟩
    .cases e
   .cases e
 .exact h.elim
theorem yP(Y:X.A.units+64<mv):cq X (g0 .NotIn) (liftR2 X gu):=by
 intro T0 s Z H x y v u Q I z J h;obtain⟨l,U,M,QQ,q,N,G,h,P⟩:=h;unfold gu at h
 split at h
 .rename_i k e
  have j:=P _ M h _ H q Frm.refl rfl;unfold iQ at e
  split at e
  .rename_i T S
   split at e
   .rename_i f
    cases e;obtain⟨p,W,rfl,hq,r⟩:=ik q G S;cases J;have L:=mO I q f.1 N z;rcases hq with hq|hq
    .obtain⟨Ua,F,E,_⟩:=I.list hq
     have m:=eJ I f.2 r F;refine SeqAt.notIn_listAt (qP s.heap<|dv M l) E.isList (λw C=>fQ L f.1 (by show X.A.units+1+60<mv;lia) m f.2 w (by simpa using C)) ⟨.bl _,H,I,rfl,?_⟩
     rw[show Ua.toArray.any (qP s.heap<|dv M l)=Ua.any (qP s.heap<|dv M l) by simp,gO m]
     exact j
    .obtain⟨Ua,F,E,_⟩:=I.tuple hq
     have m:=eJ I f.2 r F;refine SeqAt.notIn_tupleAt (qP s.heap<|dv M l) E (λw C=>fQ L f.1 (by show X.A.units+1+60<mv;lia) m f.2 w (by simpa using C)) ⟨.bl _,H,I,rfl,?_⟩
     rw[show Ua.toArray.any (qP s.heap<|dv M l)=Ua.any (qP s.heap<|dv M l) by simp,gO m]
     exact j
   .cases e
  .split at e
   .split at e
    .rename_i o R
     cases e;cases G;cases J;rcases oK q N R with⟨rfl,g⟩|⟨d,w,rfl,g,_⟩
     .exact vK (by lia) I g z λO I'=>⟨.bl _,H,I',rfl,j⟩
     .exact vK (by lia) I g z λO I'=>⟨.bl _,H,I',rfl,j⟩
    .cases e
   .cases e
 .exact h.elim
end
structure DEnds where
 nx:Dl->Mem->Prop
 rt:DK
 bk:Dl->Mem->Prop:=λ_ _=>False
 ct:Dl->Mem->Prop:=λ_ _=>False
noncomputable abbrev aB:=DEnds->Dl->Mem->Prop
def UpN(X:Cx)(B:Bd)(M:Mem)(H:Hp)(QQ:Dl->Mem->Prop)(Q:_2.St->Hp->Prop):Prop:=∀U M',QQ U M'->∀Z H',Frm M H M' H'->SR X B U M' Z H'->Q Z H'
theorem UpN.go{M1:Mem}{H1:Hp}{QQ:Dl->Mem->Prop}{Q:_2.St->Hp->Prop}(u:UpN X B M H QQ Q)(i:Frm M H M1 H1):UpN X B M1 H1 QQ Q:=λU M q Z H' a b=>u U M q Z H' (i.trans a) b
structure UpD(X:Cx)(B:Bd)(M:Mem)(H:Hp)(DD:DEnds)(D:Ends):Prop where
 nx:UpN X B M H DD.nx D.nx
 rt:Up X.K M H DD.rt D.rt
 bk:UpN X B M H DD.bk D.bk
 ct:UpN X B M H DD.ct D.ct
theorem UpD.go{M1:Mem}{H1:Hp}{DD:DEnds}{D:Ends}(u:UpD X B M H DD D)(i:Frm M H M1 H1):UpD X B M1 H1 DD D:=⟨u.nx.go i,u.rt.go i,u.bk.go i,u.ct.go i⟩
inductive liftS(X:Cx)(B:Bd)(T:aB)(D:Ends)(Z:St)(H:Hp):Prop
 |mk (U:Dl) (M:Mem) (DD:DEnds) (s:SR X B U M Z H) (h:T DD U M) (u:UpD X B M H DD D):liftS X B T D Z H
def DS(X:Cx)(B:Bd)(st:pd)(T:aB):Prop:=PS X st (liftS X B T)
def y_(X:Cx)(B:Bd)(st:Ul)(T:aB):Prop:=wx X st (liftS X B T)
section
variable{st:pd}{rest:Ul}{t u:aB}
def ay:aB:=λD U M=>D.nx U M
def al(t u:aB):aB:=λD U M=>t { D with nx:=u D } U M
theorem CJ:y_ X B [] ay:=lI E8 λD Z H ⟨U,M,DD,s,h,f⟩=>f.nx U M h Z H Frm.refl s
theorem fD(o:DS X B st t)(h2:y_ X B rest u):y_ X B (st::rest) (al t u):=by
 refine lI (zu o h2) ?_
 rintro D Z H ⟨U,M,DD,s,h,f⟩
 exact⟨U,M,{ DD with nx:=u DD },s,h,⟨λj M' q m H' i l=>⟨j,M',DD,l,q,f.go i⟩,f.rt,f.bk,f.ct⟩⟩
theorem h8(f:DS X B st t):y_ X B [st] t:=Eh f
def bf(te:bj):aB:=λD U M=>te U M λ_ M1=>D.nx U M1
theorem CQ(m:DE X B e te)(l:pb e ed pos.line X.env=pure false:=by rfl):DS X B (.Expr e pos) (bf te):=by
 refine ck (Du m l) ?_
 rintro D Z H ⟨U,M,DD,s,h,j⟩
 exact⟨U,M,_,s,h,λd M' q v H' f i r=>j.nx U M' q Z H' i (s.go f i)⟩
def ax(te:bj):aB:=λD U M=>te U M D.rt
theorem J3(j:DE X B e te):DS X B (.Return (cb e) pos) (ax te):=by
 refine ck (Ji j) ?_
 rintro D Z H ⟨U,M,DD,s,h,f⟩
 exact⟨U,M,_,s,h,f.rt⟩
def aA(c:fg)(t u:aB):aB:=λD U M=>c U M λb M1=>if b=true then t D U M1 else u D U M1
theorem Lc{a b:Ul}{l:fg}(o:DT X B c l)(m:y_ X B a t)(v:y_ X B b u):DS X B (.If c a b pos) (aA l t u):=by
 refine ck (Ks o m v) ?_
 rintro D Z H ⟨U,M,DD,s,h,j⟩
 refine⟨U,M,_,s,h,λc M' q H' f i=>?_⟩;cases c with
 |true=>rw[if_pos rfl]at q ⊢;exact⟨U,M',DD,s.go f i,q,j.go i⟩
 |false=>rw[if_neg MC]at q ⊢;exact⟨U,M',DD,s.go f i,q,j.go i⟩
noncomputable abbrev jC:=D->Dl->Mem->(Dl->Mem->Prop)->Prop
noncomputable abbrev sj:=List D->Dl->Mem->(Dl->Mem->Prop)->Prop
inductive liftG(X:Cx)(B:Bd)(g:jC)(v:V)(Z:St)(H:Hp)(Q:St->Hp->Prop):Prop
 |mk (d:_3.D) (U:Dl) (M:Mem) (QQ:Dl->Mem->Prop) (s:SR X B U M Z H) (r:Rp X.K H d v) (h:g d U M QQ) (u:UpN X B M H QQ Q):liftG X B g v Z H Q
inductive liftGs(X:Cx)(B:Bd)(g:sj)(vs:List V)(Z:St)(H:Hp)(Q:St->Hp->Prop):Prop
 |mk (ds:List _3.D) (U:Dl) (M:Mem) (QQ:Dl->Mem->Prop) (s:SR X B U M Z H) (r:Rps X.K H ds vs) (h:g ds U M QQ) (u:UpN X B M H QQ Q):liftGs X B g vs Z H Q
def DG(X:Cx)(B:Bd)(tg:g1)(g:jC):Prop:=PG X tg (liftG X B g)
def DGs(X:Cx)(B:Bd)(tgs:Uk)(g:sj):Prop:=GZ X tgs (liftGs X B g)
theorem jV{t t':TG}(h:PG X tg t)(w:∀v Z H Q,t' v Z H Q->t v Z H Q):PG X tg t':=λf s Z H v u Q I r q=>h f s Z H v u Q I r (w v Z H Q q)
theorem rA{tg:Uk}{t t':FA}(h:GZ X tg t)(w:∀v Z H Q,t' v Z H Q->t v Z H Q):GZ X tg t':=λf s Z H v u Q I r q=>h f s Z H v u Q I r (w v Z H Q q)
theorem SR.set{U:Dl}{d:D}{v:V}(s:SR X B U M Z H)(r:Rp X.K H d v):SR X B (U.set i<|some d) M (Z.set i<|some v) H:=⟨s.i0,s.rh,s.rs.set r⟩
def af(i:Nat):jC:=λd U M Q=>Q (U.set i<|some d) M
theorem E6(f:X.N.Nodup)(l:X.N[i]?=cb x)(j:yZ X.env.scope x)(m:X.fn x=true\/X.env.scope.names.lookup x=cb .local:=by first|exact .inl rfl|exact .inr rfl|assumption):DG X B (.Name x pos) (af i):=by
 refine jV (BQ f l j m) ?_
 rintro v Z H Q ⟨d,U,M,QQ,s,r,h,u⟩
 exact u _ M h _ H Frm.refl (s.set r)
def bR:sj:=λf U M Q=>match f with
 |[]=>Q U M
 |_=>False
def aG(t:jC)(u:sj):sj:=λh U M Q=>match h with
 |d::r=>t d U M λf M'=>u r f M' Q
 |[]=>False
theorem Ei:DGs X B [] bR:=by
 refine rA Cy ?_
 rintro v Z H Q ⟨f,U,M,QQ,s,r,h,u⟩
 cases f with
 |nil=>exact⟨r,u U M h Z H Frm.refl s⟩
 |cons _ _=>exact(show False from h).elim
theorem AM{t:jC}{u:sj}(E:DG X B e t)(h2:DGs X B es u)(C:(qa (e::es) X.env).map (·.2)=SQ e X.env::(qa es X.env).map (·.2):=by rfl):DGs X B (e::es) (aG t u):=by
 refine rA (Bl E h2 C) ?_
 rintro v Z H Q ⟨f,U,M,QQ,s,r,h,w⟩
 cases f with
 |nil=>exact(show False from h).elim
 |cons d f=>
  obtain⟨v1,o,rfl,z,l⟩:=r;refine⟨v1,o,rfl,d,U,M,_,s,z,h,λj M' q y H' i m=>?_⟩;exact⟨f,j,M',QQ,m,l.mf s.rh i,q,w.go i⟩
def bQ(n:Nat)(t:sj):jC:=λd U M Q=>match d with
 |.tup xs=>xs.length=n/\t xs U M Q
 |_=>False
theorem Ir{k:Nat}{t:sj}(o:X.calm=true)(h:DGs X B es t)(m:(qa es X.env).length=n:=by rfl)(hst:(qa es X.env).findIdx? (·.1)=none:=by rfl):DG X B (.Tuple es k pos) (bQ n t):=by
 refine jV (GU o h m hst) ?_
 rintro v Z H Q ⟨d,U,M,QQ,s,r,h,l⟩
 cases d with
 |tup xs=>
  obtain⟨p,f,rfl,j,r⟩:=r;exact⟨p,f,rfl,j.sq,by rw[<- r.length];exact h.1,xs,U,M,QQ,s,r,h.2,l⟩
 |_=>exact(show False from h).elim
def ap(te:bj)(g:jC):aB:=λD U M=>te U M λx M1=>g x U M1 D.nx
theorem Gv(m:DE X B e te)(o:DG X B tg g)(l:swapsWithSole [tg] e pos.line X.env=pure false:=by rfl)(hw:swappedStores [tg] e X.env=pure none:=by rfl)(h1:(qa [tg] X.env).map (·.2)=[SQ tg X.env]:=by rfl):DS X B (.Assign [tg] e pos) (ap te g):=by
 refine ck (F_ m o l hw h1) ?_
 rintro D Z H ⟨U,M,DD,s,h,j⟩
 refine⟨U,M,_,s,h,λd M' q v H' f i r=>?_⟩;exact⟨d,U,M',DD.nx,s.go f i,r,q,j.nx.go i⟩
theorem HZ(l:X.N.Nodup)(o:X.N[i]?=cb x)(y:yZ X.env.scope x)(w:DE X B e te)(m:pb e (cb<|.Name x pos') pos.line X.env=pure false:=by rfl)(hf:X.fn x=true\/X.env.scope.names.lookup x=cb .local:=by first|exact .inl rfl|exact .inr rfl|assumption):
  DS X B (.Assign [.Name x pos'] e pos) (ap te<|af i):=by
 refine ck (GL l o y w m hf) ?_
 rintro D Z H ⟨U,M,DD,s,h,j⟩
 refine⟨U,M,_,s,h,λd M' q v H' f i r=>?_⟩;exact j.nx _ M' q _ H' i ((s.go f i).set r)
def uX(i:Nat)(te:bj)(r:d_):aB:=λD U M=>match U[i]? with
 |some (cb x)=>te U M λy M1=>r x y M1 λz M2=>D.nx (U.set i<|some z) M2
 |_=>False
theorem Gj{op:SS}{r:d_}(J:X.N.Nodup)(L:X.N[i]?=cb x)(R:yZ X.env.scope x)(P:DE X B e te)(Q:J0 X op (liftR2 X r))(O:X.fn x=true\/X.env.scope.names.lookup x=cb .local:=by first|exact .inl rfl|exact .inr rfl|assumption):
  DS X B (.AugAssign (.Name x pos') op e pos) (uX i te r):=by
 refine ck (IL J L R P Q O) ?_
 rintro D Z H ⟨U,M,DD,s,h,C⟩
 unfold uX at h
 split at h
 .rename_i l I
  obtain⟨v,q,o⟩:=s.rs.get i l I;refine⟨v,q,U,M,_,s,h,λy M1 E w H1 j i1 G=>?_⟩;refine⟨l,y,M1,_,j,o.mf s.rh i1,G,E,λz M2 F S H2 f i2 m=>?_⟩;exact C.nx _ M2 F _ H2 (i1.trans i2) ((s.go f<|i1.trans i2).set m)
 .exact h.elim
theorem Ky{op:SS}{g:Int->Int->Int}(h:J0 X op (ipI g)):J0 X op (liftR2 X (pY λi j=>.int (g i j))):=by
 intro l s Z H x y v u Q I C q f;obtain⟨F,E,M,QQ,z,w,m,f,o⟩:=f;unfold pY at f
 split at f
 .cases w;cases m
  exact h l s Z H _ _ v u Q I C q ⟨_,_,rfl,rfl,o _ M f _ H z Frm.refl rfl⟩
 .exact f.elim
noncomputable abbrev sX:d_:=pY λi j=>.int (i+j)
theorem Cn:J0 X .Add (liftR2 X sX):=Ky Hn
def DB(o i v:D)(M:Mem)(Q:Mem->Prop):Prop:=match o with
 |.ref a=>match M a,i with
  |some (.lst xs),.int k=>match wf xs.length k with
   |some j=>Q (M.upd a<|.lst<|xs.set j v)
   |none=>False
  |some (.dK T5),y=>match ou y with
   |some k=>T5.length<sizeLine/\Q (M.upd a<|.dK<|fb T5 k v)
   |none=>False
  |some (.dT T5),y=>match B1 y with
   |some k=>T5.length<sizeLine/\Q (M.upd a<|.dT<|fb T5 k v)
   |none=>False
  |_,_=>False
 |_=>False
inductive liftSet(X:Cx)(o i v:V)(H:Hp)(Q:Hp->Prop):Prop
 |mk (d1 d2 d3:_3.D) (M:Mem) (QQ:Mem->Prop) (rh:RepH X.K H M) (r1:Rp X.K H d1 o) (r2:Rp X.K H d2 i) (r3:Rp X.K H d3 v) (h:DB d1 d2 d3 M QQ) (u:∀M',QQ M'->∀H',RepH X.K H' M'->Frm M H M' H'->Q H'):liftSet X o i v H Q
theorem Df(hu:X.A.units+1<mv):HH X (liftSet X):=by
 intro T0 s Z H o i v ov iv u Q I ro ri rv h;obtain⟨d1,d2,d3,M,QQ,rh,r1,r2,r3,h,up⟩:=h;unfold DB at h
 split at h
 .rename_i a
  cases r1;cases ro
  split at h
  .rename_i xs k hM
   cases r2;obtain⟨vs,h1,h2⟩:=rh _ _ hM
   split at h
   .rename_i j ej
    refine Ar T0 s Z H (.ref a) _ v _ iv u Q I rfl ri rv ⟨a,vs,k,j,rfl,rfl,h1,by rw[<- h2.length];exact ej,?_⟩
    have i2:Imm H (upd H a<|.lst<|vs.set j v):=Imm.upd (by rw[h1];trivial)
    exact up _ h _ (rh.put (by rw[h1];trivial) ⟨_,upd_same,(h2.set r3 j).mono i2⟩) (Frm.put<|.inr ⟨_,hM⟩)
   .exact h.elim
  .rename_i T5 hM
   obtain⟨ws,h1,h2⟩:=rh _ _ hM
   split at h
   .rename_i k ek
    have ev:=qI r2 ek;subst ev;have i2:Imm H (upd H a<|.dK<|cJ ws k v):=Imm.upd (by rw[h1];trivial)
    refine oA hu I (DPut.k h1<|by rw[<- h2.length];exact h.1) ri rv λs' I'=>⟨_,I',?_⟩
    exact up _ h.2 _ (rh.put (by rw[h1];trivial) ⟨_,upd_same,(h2.put k r3).mono i2⟩) (Frm.put<|.inr ⟨_,hM⟩)
   .exact h.elim
  .rename_i T5 hM
   obtain⟨ws,h1,h2⟩:=rh _ _ hM
   split at h
   .rename_i k ek
    obtain⟨b,rfl,hb⟩:=kO r2 ek;have i2:Imm H (upd H a<|.dT<|cJ ws k v):=Imm.upd (by rw[h1];trivial)
    refine oA hu I (DPut.t h1 hb<|by rw[<- h2.length];exact h.1) ri rv λs' I'=>⟨_,I',?_⟩
    exact up _ h.2 _ (rh.put (by rw[h1];trivial) ⟨_,upd_same,(h2.put k r3).mono i2⟩) (Frm.put<|.inr ⟨_,hM⟩)
   .exact h.elim
  .exact h.elim
 .exact h.elim
def gL(to ti:bj):jC:=λv U M Q=>to U M λo M1=>ti U M1 λi M2=>DB o i v M2 λM3=>Q U M3
theorem Ib{o i:g1}{to m:bj}(J:X.A.units+1<mv)(I:DE X B o to)(G:DE X B i m)(L:∀v,SQ (.Subscript o i pos) X.env v=(do
   let ov <- No [v] (g3 o X.env)
   let iv <- No [v,ov] (g3 i X.env)
   S3 pos
   No [v,ov,iv] (setItem ov iv v)
   release [v,ov,iv] []):=by intro _;rfl):DG X B (.Subscript o i pos) (gL to m):=by
 refine jV (Ja I G (Df J) L) ?_
 rintro v Z H Q ⟨d,U,M,QQ,s,r,h,z⟩
 refine⟨U,M,_,s,h,λx M1 C v1 H1 f i1 F=>?_⟩;refine⟨U,M1,_,s.go f i1,C,λy M2 E v2 H2 j i2 q=>?_⟩;exact⟨x,y,d,M2,_,j,F.mf f i2,q,r.mf s.rh (i1.trans i2),E,λM3 w H3 l i3=>z U M3 w Z H3 ((i1.trans i2).trans i3) (s.go l<|(i1.trans i2).trans i3)⟩
end
section
variable{o value:g1}{f:Str}{tpos:Pos}{ta tv:bj}{C:eC}
noncomputable def fm(f:Str)(v:D):List (Str×D)->List (Str×D)
 |[]=>[(f,v)]
 |(g,w)::r=>if g=f then (g,v)::r else (g,w)::fm f v r
theorem Rkv.lookup{fs:List (Str×D)}{j:List (Str×V)}(h:Rkv K H fs j)(f:Str):(fs.lookup f=ed/\j.lookup f=ed)\/∃d v,fs.lookup f=cb d/\j.lookup f=cb v/\Rp K H d v:=by
 induction h with
 |nil=>exact .inl ⟨rfl,rfl⟩
 |@cons p q ps qs r t ih=>
  obtain⟨l,d⟩:=p;obtain⟨w,v⟩:=q;obtain⟨e,r⟩:=r;dsimp only at e r;subst e;rw[Qi,Qi];cases m:f==l with
  |true=>exact .inr ⟨d,v,rfl,rfl,r⟩
  |false=>exact ih
theorem Cz(f:Str)(v:V):∀h:List (Str×V),dy f v h=(match h with|[]=>[(f,v)]|(g,w)::r=>if g=f then (g,v)::r else (g,w)::dy f v r)
 |[]=>rfl
 |(g,w)::r=>by rw[dy]
theorem t8{K:Mp}{H:Hp}{f:Str}{d:D}{v:V}(h:Rp K H d v):∀{fs:List (Str×D)}{ws:List (Str×V)},Rkv K H fs ws->Rkv K H (fm f d fs) (_2.dy f v ws)
 |_,_,.nil=>.cons ⟨rfl,h⟩ .nil
 |(k1,d1)::fs,(k2,v1)::ws,.cons r t=>by
  obtain⟨e,r⟩:=r;dsimp only at e r;subst e;rw[Cz];show Rkv K H (if k1=f then (k1,d)::fs else (k1,d1)::fm f d fs) (if k1=f then (k1,v)::ws else (k1,v1)::_2.dy f v ws)
  split
  .exact .cons ⟨rfl,h⟩ t
  .exact .cons ⟨rfl,r⟩ (t8 h t)
def du(C:eC)(ta:bj)(f:Str):bj:=λU M Q=>ta U M λx M1=>match x with
 |.ref a=>match M1 a with
  |some (.ins C' fs)=>C'=C/\match fs.lookup f with
   |some d=>Q d M1
   |none=>False
  |_=>False
 |_=>False
theorem G_(c:Cls X.K C)(n:NoAttr X.K C f)(I:DE X B e ta)(J:mu e f X.env (g3 e X.env)=g3 e X.env:=by rfl):DE X B (.Attribute e f pos) (du C ta f):=by
 refine aR (Hl I J) ?_
 rintro Z H Q ⟨U,M,QQ,s,h,u⟩
 refine⟨U,M,_,s,h,λx M1 j v1 H1 l i1 E=>?_⟩
 split at j
 .rename_i a
  cases E
  split at j
  .rename_i C' fs w
   obtain⟨rfl,j⟩:=j;obtain⟨q,y,F,G⟩:=l _ _ w
   split at j
   .rename_i d m
    rcases G.lookup f with⟨z,_⟩|⟨d',v,z1,z2,z3⟩
    .rw[m]at z;cases z
    .rw[m]at z1;cases z1
     exact⟨a,_,q,y,v,rfl,F,c,n,z2,u _ M1 j _ H1 l i1 z3⟩
   .exact j.elim
  .exact j.elim
 .exact j.elim
def f_(C:eC)(ta tv:bj)(f:Str):aB:=λD U M=>tv U M λy M1=>ta U M1 λx M2=>match x with
 |.ref a=>match M2 a with
  |some (.ins C' fs)=>C'=C/\fs.length<1000/\D.nx U (M2.upd a<|.ins C<|fm f y fs)
  |_=>False
 |_=>False
theorem G0(c:Cls X.K C)(n:NoAttr X.K C f)(ha:DE X B o ta)(hv:DE X B value tv)(hs:pb value (cb<|.Attribute o f pos') pos.line X.env=pure false:=by rfl):DS X B (.Assign [.Attribute o f pos'] value pos) (f_ C ta tv f):=by
 refine ck (Gk ha hv hs) ?_
 rintro D Z H ⟨U,M,DD,s,h,up⟩
 refine⟨U,M,_,s,h,λy M1 h1 v1 H1 rh1 i1 r1=>?_⟩;refine⟨U,M1,_,s.go rh1 i1,h1,λx M2 h2 v2 H2 rh2 i2 r2=>?_⟩
 split at h2
 .rename_i a
  cases r2
  split at h2
  .rename_i C' fs hM
   obtain⟨rfl,hl,h2⟩:=h2;obtain⟨dx,ws,e1,e2⟩:=rh2 _ _ hM;have i3:Frm M2 H2 (M2.upd a<|.ins C'<|fm f y fs) (upd H2 a<|.ins C' dx<|_2.dy f v1 ws):=Frm.put (.inr ⟨_,hM⟩);refine⟨a,C',dx,ws,rfl,e1,c,n,by rw[<- e2.length];exact hl,up.nx _ _ h2 Z _ ((i1.trans i2).trans i3)<|s.go (rh2.put (by rw[e1];trivial) ⟨dx,_,upd_same,?_⟩)<|(i1.trans i2).trans i3⟩
   exact(t8 (r1.mf rh1 i2) e2).mono (i3.imm rh2)
  .exact h2.elim
 .exact h2.elim
structure BxW(c:fg)(tb:aB)(D:DEnds):Type
structure BxF(g:jC)(tb:aB)(D:DEnds)(ok:Mem->Prop):Type
def dL(c:fg)(tb:aB)(D:DEnds)(bx:BxW c tb D):Nat->Dl->Mem->Prop
 |0,_,_=>False
 |n+1,U,M=>c U M λb M1=>if b=true then tb { D with nx:=dL c tb D bx n,ct:=dL c tb D bx n,bk:=D.nx } U M1 else D.nx U M1
noncomputable def g7(c:fg)(tb:aB):aB:=λD U M=>∃n,dL c tb D ⟨⟩ n U M
theorem Bt{l:Ul}{F:fg}(R:TB (ft X.prog X.w) X.A X.env X.xe)(Q:DT X B c F)(S:y_ X B l tb):DS X B (.While c l [] pos) (g7 F tb):=by
 refine ck (Bp R Q S) ?_
 rintro D Z H ⟨U,M,DD,s,⟨n,h⟩,L⟩
 refine⟨λm j H'=>∃δ' M',SR X B δ' M' j H'/\Frm M H M' H'/\dL F tb DD ⟨⟩ m δ' M',⟨n,U,M,s,Frm.refl,h⟩,?_⟩
 rintro m I H1 ⟨E,M1,O,i1,P⟩
 cases m with
 |zero=>exact(show False from P).elim
 |succ m=>
  refine⟨E,M1,_,O,P,λb M2 q H2 y i2=>?_⟩;cases b with
  |false=>rw[if_neg MC]at q ⊢;exact L.nx _ _ q I H2 (i1.trans i2) (O.go y i2)
  |true=>
   rw[if_pos rfl]at q ⊢;refine⟨λj H'=>∃δ' M',SR X B δ' M' j H'/\Frm M H M' H'/\dL F tb DD ⟨⟩ m δ' M',λj H' z=>⟨m,OI _,z⟩,?_⟩;refine⟨E,M2,_,O.go y i2,q,⟨?_,(L.go<|i1.trans i2).rt,(L.go<|i1.trans i2).nx,?_⟩⟩
   .exact λv M3 N G H3 i3 J=>⟨v,M3,J,(i1.trans i2).trans i3,N⟩
   .exact λv M3 N G H3 i3 J=>⟨v,M3,J,(i1.trans i2).trans i3,N⟩
structure DIt where
 items:List D
 src:List (eC×List D)
def DIt.ok(I:DIt)(M:Mem):Prop:=∀p∈I.src,M p.1=cb (.lst p.2)
noncomputable abbrev yC:=Dl->Mem->(DIt->Mem->Prop)->Prop
def HV(K:Mp)(H0:Hp)(it:DIt)(J:It):Prop:=∀(i:Nat)(H:Hp)(M:Mem),Imm H0 H->RepH K H M->it.ok M->
 (∀d,it.items[i]?=cb d->J.go i H/\∀x H',J.yld i H x H'->Frm M H M H'/\RepH K H' M/\Rp K H' d x)/\(it.items.length<=i->J.stop i H)
inductive liftI(X:Cx)(B:Bd)(T:yC)(Z:St)(H:Hp)(R:It->Hp->Prop):Prop
 |mk (U:Dl) (M:Mem) (RR:DIt->Mem->Prop) (s:SR X B U M Z H) (h:T U M RR) (u:∀it M',RR it M'->∀J H',RepH X.K H' M'->Frm M H M' H'->HV X.K H' it J->R J H'):liftI X B T Z H R
def DI(X:Cx)(B:Bd)(tg iter:g1)(T:yC):Prop:=PI X tg iter (liftI X B T)
theorem iu{j:g1}{t t':TI}(h:PI X tg j t)(w:∀Z H Q,t' Z H Q->t Z H Q):PI X tg j t':=λl s Z H Q I q=>h l s Z H Q I (w Z H Q q)
def vp(g:jC)(tb:aB)(DD:DEnds)(ok:Mem->Prop)(b:BxF g tb DD ok):List D->Dl->Mem->Prop
 |[],U,M=>ok M/\DD.nx U M
 |x::xs,U,M=>ok M/\g x U M λh M2=>tb { DD with nx:=vp g tb DD ok b xs,ct:=vp g tb DD ok b xs,bk:=DD.nx } h M2
noncomputable def bU(wi:yC)(g:jC)(tb:aB):aB:=λD U M=>wi U M λh M1=>vp g tb D h.ok ⟨⟩ h.items U M1
theorem Ef{DD:DEnds}{ok:Mem->Prop}{b:BxF g tb DD ok}{xs:List D}{U:Dl}(h:vp g tb DD ok b xs U M):ok M:=by
 cases xs with
 |nil=>exact h.1
 |cons _ _=>exact h.1
theorem HX{j:g1}{v:Ul}{wi:yC}(hp:TB (ft X.prog X.w) X.A X.env X.xe)(hc:X.calm=true)(hi:DI X B tg j wi)(hg:DG X B tg g)(hb:y_ X B v tb)(hs:∀x,n7 j X.env x=pure x:=by intro _;rfl):DS X B (.For tg j v [] pos) (bU wi g tb):=by
 refine ck (Hm hp hc hi hg hb hs) ?_
 rintro D Z H ⟨U,M,DD,s,h,O⟩
 refine⟨U,M,_,s,h,λq M1 h1 J H1 I i1 hJ=>?_⟩;refine⟨λi m l H'=>m=q.items.length-i/\i<=q.items.length/\∃δ' M',SR X B δ' M' l H'/\Frm M1 H1 M' H'/\vp g tb DD q.ok ⟨⟩ (q.items.drop i) δ' M',⟨_,rfl,MY _,U,M1,s.go I i1,Frm.refl,h1⟩,?_⟩
 rintro i m R H2 ⟨rfl,hi',Q,M2,Y,i2,G⟩
 have P:=Ef G;obtain⟨L,E⟩:=hJ i H2 M2 (i2.imm I) Y.rh P
 by_cases y:i<q.items.length
 .rw[NQ y]at G
  obtain⟨go,hy⟩:=L _ (Mi y);refine .inr ⟨go,λl H'=>∃δ' M',SR X B δ' M' l H'/\Frm M1 H1 M' H'/\vp g tb DD q.ok ⟨⟩ (q.items.drop (i+1)) δ' M',λl H' z=>⟨q.items.length-(i+1),by omega,rfl,y,z⟩,λx H3 hx=>?_⟩
  obtain⟨i3,W,rx⟩:=hy x H3 hx;refine⟨_,Q,M2,_,Y.go W i3,rx,G.2,λT M4 h4 σ4 H4 i4 s4=>?_⟩;have i14:=(i2.trans i3).trans i4;refine⟨T,M4,_,s4,h4,⟨?_,(O.go<|i1.trans i14).rt,(O.go<|i1.trans i14).nx,?_⟩⟩
  .exact λF M5 q5 S H5 i5 N=>⟨F,M5,N,i14.trans i5,q5⟩
  .exact λF M5 q5 S H5 i5 N=>⟨F,M5,N,i14.trans i5,q5⟩
 .rw[Ph (by omega)]at G
  exact .inl ⟨E (by omega),O.nx _ _ G.2 R H2 (i1.trans i2) Y⟩
end
end _3
namespace _2
open PySem PySem.Spec PyProof.Rows
section
variable {X:Cx}{B:Bd}{tg:g1}
noncomputable def Ll(K:Mp)(tl:TE):TI:=λZ H R=>tl Z H λx H1=>∃a b xs,x=.ref a/\lY K b H1 a xs/\R (if b=true then Itl K a else Itt K a) H1
theorem Ce{l:g1}{n:TE}(z:PE X l n):PI X tg l (Ll X.K n):=by
 intro g s Z H R I h;refine bC (z g s Z H _ I h) λv c ⟨x,H1,I1,y,w⟩=>?_;obtain⟨a,b,j,e,m,q⟩:=w;subst e;cases y;cases b with
 |true=>
  obtain⟨f,u,p,r⟩:=I1.list (show SqL X.K H1 a j from m);refine SE p.isList ?_;refine⟨c.heap.objs.size,[c.heap.objs.size],_,_,H1,rfl,I1.kept (t':=c.toks) λb o e=>Me _ e,yN a _,⟨_,Mt _ rfl,rfl,rfl⟩,λb i=>?_,q⟩;have e:b=c.heap.objs.size:=by simpa using i
  subst e;exact I1.fpOk (Mn _) (I1.hok.fresh<|Mn _)
 |false=>
  obtain⟨f,u,p,r⟩:=I1.tuple (show iA X.K H1 a j from m);refine SZ (show c.heap.IsTuple a f.toArray from p) ?_;refine⟨c.heap.objs.size,[c.heap.objs.size],_,_,H1,rfl,I1.kept (t':=c.toks) λb o e=>Me _ e,uM a _,⟨_,Mt _ rfl,rfl,rfl⟩,λb i=>?_,q⟩;have e:b=c.heap.objs.size:=by simpa using i
  subst e;exact I1.fpOk (Mn _) (I1.hok.fresh<|Mn _)
noncomputable def G1(K:Mp)(t:TA):TI:=λZ H R=>t Z H λa H1=>∃b l xs,a=[.ref l]/\lY K b H1 l xs/\R (Ite K b l) H1
theorem z9{a:g1}{j:Uk}{L:Nat}{F:Pos}{v:TA}{p pos:Pos}(M:Gl X "enumerate")(J:X.mg "enumerate"=ed)(N:PA X [a] v)(G:fe [a] X.env=[(eH,g3 a X.env)]:=by rfl):
  PI X (.Tuple j L F) (.Call (.Name "enumerate" p) [a] [] pos) (G1 X.K v):=by
 intro g s Z H R I h;refine Call_ (dN I M J (by decide +kernel:fy "enumerate"=cb (.type "enumerate"))<|Ng (bC (N pos g s Z H _ I h) λQ f ⟨S,H1,I1,E,m⟩=>?_) G rfl)
 obtain⟨b,l,O,e,m,q⟩:=m;subst e;obtain⟨P,rfl,o⟩:=E.one;cases o;obtain⟨w,T,sq,z⟩:=I1.src m;refine x_ sq λr u C y x=>?_;have I2:Inv X g Z H1 { f with heap:=r }:=I1.kept (t':=f.toks) x;refine wpAny_pyIter_enum (s:={ f with heap:=r }) u ?_;refine⟨f.heap.objs.size+1,[f.heap.objs.size+1,f.heap.objs.size],_,_,H1,rfl,I2,yG b l _ _ (show (_:Nat)≠(_:Nat) by lia),⟨⟨_,u⟩,C⟩,λc A=>?_,q⟩
 have i:f.heap.objs.size<=c:=by
  have n:c=f.heap.objs.size+1\/c=f.heap.objs.size:=by simpa using A
  rcases n with e|e<;>rw[e]<;>first|exact NL _ _|exact Mn _
 exact I1.fpOk (H':=H1) i (I1.hok.fresh i)
end
end _2
namespace _3
open PySem _2
variable{C f:eC}{B:Bd}{X:Cx}{Q:DK}{EE:DX}{U:Dl}{a e:g1}{fd:ka}{base:g4}{H H':Hp}{Z:_2.St}{elts es:Uk}{N ps:Uh}{M M' M1:Mem}{K:Mp}{i n x1:Nat}{T9 p pos tp:Pos}{P:gg}{scope:NE}{T:Sd}{st:pd}{T4 x:Str}{mg:Uq}{w:g5}{E:XK}{ta:eN}{g:jC}{r:wm}
section
variable{tg:g1}
def bu(d:D)(xs:List D):List (eC×List D):=match d with
 |.ref a=>[(a,xs)]
 |_=>[]
theorem uz{d:D}{v:V}{xs:List D}(o:RepH K H M)(r:Rp K H d v)(e:aC M d=cb xs):∃p b,v=.ref p/\∀H' M',Imm H H'->RepH K H' M'->(∀q∈bu d xs,M' q.1=cb (.lst q.2))->∃vs,lY K b H' p vs/\Rps K H' xs vs:=by
 cases d with
 |tup ys=>
  cases e;obtain⟨p,vs,rfl,h,r⟩:=r;exact⟨p,eH,rfl,λH' M' i _ _=>⟨vs,(h.mono i).sq,r.mono i⟩⟩
 |lst ys=>
  cases e;obtain⟨p,vs,rfl,h,r⟩:=r;exact⟨p,true,rfl,λH' M' i _ _=>⟨vs,(h.mono i).sq,r.mono i⟩⟩
 |mt ys=>
  cases e;obtain⟨p,vs,rfl,h,r⟩:=r;exact⟨p,eH,rfl,λH' M' i _ _=>⟨vs,h.sq,r.mono i⟩⟩
 |ml ys=>
  cases e;obtain⟨p,vs,rfl,h,r⟩:=r;exact⟨p,true,rfl,λH' M' i _ _=>⟨vs,(h.mono i).sq,r.mono i⟩⟩
 |ref a=>
  refine⟨a,true,r,λH' M' i c j=>?_⟩;obtain⟨vs,l,m⟩:=c _ _ (j (a,xs)<|by simp[bu])
  exact⟨vs,SqL.of l,m⟩
 |_=>cases e
theorem uP{d:D}{xs:List D}(e:aC M d=cb xs):∀q∈bu d xs,M q.1=cb (.lst q.2):=by
 cases d with
 |ref a=>
  intro q b;have:q=(a,xs):=by simpa [bu] using b
  subst this;simp only[aC]at e
  split at e
  .rename_i c h;cases e;exact h
  .cases e
 |_=>intro q b;simp[bu]at b
def cj(te:bj):yC:=λU M R=>te U M λd M1=>match aC M1 d with
 |some xs=>R ⟨xs,bu d xs⟩ M1
 |none=>False
theorem J5{l:g1}{O:bj}(A:DE X B l O):DI X B tg l (cj O):=by
 refine iu (Ce A) ?_
 rintro Z H R ⟨U,M,RR,s,h,S⟩
 refine⟨U,M,_,s,h,λd M1 J v H1 q i1 r1=>?_⟩
 split at J
 .rename_i xs e
  obtain⟨p,b,rfl,m⟩:=uz q r1 e;obtain⟨Y,W,_⟩:=m H1 M1 Imm.refl q (uP e);refine⟨p,b,Y,rfl,W,S _ M1 J _ H1 q i1 λi H2 M2 i2 o F=>?_⟩;obtain⟨c,j,G⟩:=m H2 M2 i2 o F;have A:=G.length;cases b with
  |true=>
   refine⟨λd I=>?_,λu=>⟨c,j,by rw[<- A];exact u⟩⟩
   obtain⟨w,z,y⟩:=G.get I;refine⟨⟨c,w,j,z⟩,?_⟩
   rintro x H3 ⟨rfl,L⟩
   have:=L c j;rw[z]at this;cases this;exact⟨Frm.refl,o,y⟩
  |false=>
   refine⟨λd I=>?_,λu=>⟨c,j,by rw[<- A];exact u⟩⟩
   obtain⟨w,z,y⟩:=G.get I;refine⟨⟨c,w,j,z⟩,?_⟩
   rintro x H3 ⟨rfl,L⟩
   have:=L c j;rw[z]at this;cases this;exact⟨Frm.refl,o,y⟩
 .exact J.elim
noncomputable def iq(lo:Int)(n:Nat):List D:=(Ol n).map λ(i:Nat)=>D.int (lo+i)
def og(t:eN):yC:=λU M R=>t U M λb M1=>match b with
 |[.int j]=>-(2 ^ 62)<=j/\j<2 ^ 62/\R ⟨iq 0 j.toNat,[]⟩ M1
 |_=>False
theorem Gn{l:Int}:HV K H ⟨iq l n,[]⟩ (Itr l n):=λi H2 M2 i2 m _=>by
 have b:(iq l n).length=n:=by simp[iq]
 refine⟨λd j=>?_,λc=>by rw[b]at c;exact c⟩
 have o:i<n:=by
  rcases Nl i n with h|h
  .exact h
  .rw[NN (by rw[b];exact h)]at j;cases j
 have q:d=.int (l+i):=by
  simp only[iq,Mw,List.getElem?_range o]at j;exact(MQ j).symm
 subst q;refine⟨o,?_⟩
 rintro x H3 ⟨rfl,rfl⟩
 exact⟨Frm.refl,m,rfl⟩
theorem yl(y:Gl X "range")(q:X.mg "range"=ed)(u:DA X B [a] ta)(o:fe [a] X.env=[(eH,g3 a X.env)]:=by rfl):DI X B tg (.Call (.Name "range" p) [a] [] pos) (og ta):=by
 refine iu (yV y q u o) ?_
 rintro Z H R ⟨U,M,RR,s,h,l⟩
 refine⟨U,M,_,s,h,λds M1 b z H1 c i1 m=>?_⟩
 split at b
 .obtain⟨v,rfl,j⟩:=fH (ds:=[]) m
  cases j;exact⟨_,rfl,b.1,b.2.1,l _ M1 b.2.2 _ H1 c i1 Gn⟩
 .exact b.elim
noncomputable def sm(xs:List D):List D:=(xs.zipIdx).map λp=>D.tup [.int (p.2:Nat),p.1]
theorem yh{xs:List D}:(sm xs)[i]?=(xs[i]?).map λd=>D.tup [.int (i:Nat),d]:=by
 simp[sm,Mw,OK];cases xs[i]?<;>simp
def e_(t:eN):yC:=λU M R=>t U M λb M1=>match b with
 |[d]=>match aC M1 d with
  |some xs=>R ⟨sm xs,bu d xs⟩ M1
  |none=>False
 |_=>False
theorem D6(hg:Gl X "enumerate")(hm:X.mg "enumerate"=ed)(ha:DA X B [a] ta)(hs:fe [a] X.env=[(eH,g3 a X.env)]:=by rfl):
  DI X B (.Tuple elts x1 tp) (.Call (.Name "enumerate" p) [a] [] pos) (e_ ta):=by
 refine iu (z9 hg hm ha hs) ?_
 rintro Z H R ⟨U,M,RR,s,h,S⟩
 refine⟨U,M,_,s,h,λds M1 q L H1 m i1 r1=>?_⟩
 split at q
 .obtain⟨v,rfl,W⟩:=fH (ds:=[]) r1
  split at q
  .rename_i xs e
   obtain⟨p,b,rfl,c⟩:=uz m W e;obtain⟨L,Y,_⟩:=c H1 M1 Imm.refl m (uP e);refine⟨b,p,L,rfl,Y,S _ M1 q _ H1 m i1 λi H2 M2 i2 o u=>?_⟩;obtain⟨j,l,G⟩:=c H2 M2 i2 o u;have O:=G.length;refine⟨λd I=>?_,λA=>⟨j,l,by rw[<- O];simpa [sm] using A⟩⟩
   rw[yh]at I;obtain⟨d0,y,rfl⟩:=Nd.mp I;obtain⟨w,J,F⟩:=G.get y;refine⟨⟨j,w,l,J⟩,?_⟩
   rintro x H3 ⟨T,x',z,rfl,rfl,hx⟩
   have:=hx j l;rw[J]at this;cases this;have i3:Imm H2 (upd H2 T<|.tup [.int i,w]):=Imm.new z;exact⟨Frm.new z,o.new z,T,_,rfl,upd_same,.cons rfl<|.cons (F.mono i3) .nil⟩
  .exact q.elim
 .exact q.elim
noncomputable def oU(xs ys:List D):List D:=(xs.zip ys).map λp=>D.tup [p.1,p.2]
theorem A5{xs ys:List D}{d:D}(h:(oU xs ys)[i]?=cb d):∃x y,xs[i]?=cb x/\ys[i]?=cb y/\d=.tup [x,y]:=by
 simp only[oU,Mw,Nd]at h;obtain⟨⟨x,y⟩,b,rfl⟩:=h;rw[List.getElem?_zip_eq_some]at b;exact⟨x,y,b.1,b.2,rfl⟩
noncomputable def uL:List D->List (List D)->List (eC×List D)
 |d::ds,xs::xss=>bu d xs++uL ds xss
 |_,_=>[]
abbrev Ju(M:Mem)(ds:List D)(xss:List (List D)):Prop:=SM (λd xs=>aC M d=cb xs) ds xss
structure Zps(xss:List (List D))(zs:List D):Prop where
 get:∀(i:Nat)(d:D),zs[i]?=cb d->∃ys,d=.tup ys/\xss.map (·[i]?)=ys.map cb
 stop:∀i:Nat,zs.length<=i->∃xs∈xss,xs.length<=i
theorem xt:∀{ds:List D}{xss:List (List D)}{vs:List V},RepH K H M->Rps K H ds vs->Ju M ds xss->(∀q∈uL ds xss,M q.1=cb (.lst q.2))/\
  ∃L:List (Bool×eC),vs=L.map (λp=>.ref p.2)/\L.length=xss.length/\∀H' M',Imm H H'->RepH K H' M'->(∀q∈uL ds xss,M' q.1=cb (.lst q.2))->
   SM (λ(p:Bool×eC) xs=>∃us,lY K p.1 H' p.2 us/\Rps K H' xs us) L xss
 |_,_,_,_,r,.nil=>⟨λq h=>by simp[uL]at h,[],r,rfl,λ_ _ _ _ _=>.nil⟩
 |_::_,_,_,rh,⟨v,vs,e,r,rs⟩,.cons h t=>by
  subst e;obtain⟨a,L,rfl,l,k⟩:=xt rh rs t;obtain⟨p,b,rfl,g⟩:=uz rh r h;exact⟨λq c=>(Ms.1 c).elim (uP h q) (a q),(b,p)::L,rfl,by simp[l],λH' M' i j ok=>.cons (g H' M' i j λq c=>ok q (Om _ c)) (k H' M' i j λq c=>ok q (MK _ c))⟩
theorem wt{i:Nat}{H':Hp}(c:Imm H H'):∀{L:List (Bool×eC)}{xss:List (List D)}{ys:List D}{zs:List V},SM (λ(p:Bool×eC) xs=>∃us,lY K p.1 H p.2 us/\Rps K H xs us) L xss->xss.map (·[i]?)=ys.map cb->zs.length=L.length->
  (∀(j:Nat)(p:Bool×eC),L[j]?=cb p->∀us,lY K p.1 H p.2 us->us[i]?=zs[j]?)->Rps K H' ys zs
 |_,_,[],zs,.nil,_,l,_=>by
  have:=N7 l;subst this;rfl
 |_,_,_::_,_,.nil,e,_,_=>by simp at e
 |_,_,[],_,.cons _ _,e,_,_=>by simp at e
 |_,_,_::_,[],.cons _ _,_,l,_=>by simp at l
 |_,_,y::ys,z::zs,.cons h t,e,l,g=>by
  simp only[Mo,My]at e;obtain⟨us,sq,r⟩:=h;obtain⟨w,o,b⟩:=r.get e.1;have:=g 0 _ rfl us sq;rw[o]at this;cases this;exact .cons (b.mono c) (wt c t e.2 (by simpa using l) λj p m=>g (j+1) p (by simpa using m))
theorem mM{P:(Bool×eC)->List D->Prop}:∀{L:List (Bool×eC)}{xss:List (List D)},SM P L xss->(∀p∈L,∃xs∈xss,P p xs)/\∀xs∈xss,∃p∈L,P p xs
 |_,_,.nil=>⟨λp h=>by simp at h,λp h=>by simp at h⟩
 |_,_,.cons h t=>by
  obtain⟨a,b⟩:=mM t;exact⟨λp c=>(Mm.1 c).elim (λe=>⟨_,.head _,e▸h⟩) λm=>let ⟨x,y,z⟩:=a p m;⟨x,.tail _ y,z⟩,λp c=>(Mm.1 c).elim (λe=>⟨_,.head _,e▸h⟩) λm=>let ⟨x,y,z⟩:=b p m;⟨x,.tail _ y,z⟩⟩
theorem wo{f:List D->Mem->(DIt->Mem->Prop)->Prop}(hf:∀ds M1 R,f ds M1 R->∃b zs,(b.length=2\/b.length=3)/\Ju M1 ds b/\Zps b zs/\R ⟨zs,uL ds b⟩ M1){F:Uk}(hg:Gl X "zip")(hm:X.mg "zip"=ed)(ha:DA X B (a::F) ta)(hs:fe (a::F) X.env=(eH,g3 a X.env)::fe F X.env)(S:(PySem.backTo pos<|starEach F X.env).any (·.1)=eH):
  DI X B (.Tuple elts x1 tp) (.Call (.Name "zip" p) (a::F) [] pos) (λU M R=>ta U M λds M1=>f ds M1 R):=by
 refine iu (CL hg hm ha hs S) ?_
 rintro Z H R ⟨U,M,RR,s,h,up⟩
 refine⟨U,M,_,s,h,λds M1 O Y H1 j i1 r1=>?_⟩;obtain⟨b,zs,n,sq,z,O⟩:=hf _ _ _ O;obtain⟨ok,L,rfl,l,k⟩:=xt j r1 sq;refine⟨L,by lia,rfl,λp c=>?_,up _ M1 O _ H1 j i1 λi H2 M2 i2 u G=>?_⟩
 .obtain⟨m,_,o,h,_⟩:=(mM<|k H1 M1 Imm.refl j ok).1 p c
  exact⟨o,h⟩
 .have q:=k H2 M2 i2 u G
  obtain⟨W,qb⟩:=mM q;refine⟨λd hd=>?_,λJ=>⟨λp c=>?_,?_⟩⟩
  .obtain⟨ys,rfl,e⟩:=z.get i d hd
   refine⟨λp c=>?_,?_⟩
   .obtain⟨m,A,o,h,r⟩:=W p c
    have:m[i]?∈ys.map some:=e▸MJ (f:=λm:List D=>m[i]?) A;obtain⟨y,_,e⟩:=MS.1 this;obtain⟨v,hv,_⟩:=r.get e.symm;exact⟨o,v,h,hv⟩
   .rintro x H3 ⟨T,Y,I,rfl,rfl,hl,A⟩
    exact⟨Frm.new I,u.new I,T,Y,rfl,upd_same,wt (Imm.new I) q e hl A⟩
  .obtain⟨m,_,o,h,_⟩:=W p c
   exact⟨o,h⟩
  .obtain⟨m,A,le⟩:=z.stop i J
   obtain⟨p,c,o,h,r⟩:=qb m A;exact⟨p,c,o,h,by rw[<- r.length];exact le⟩
def Gh(t:eN):yC:=λU M R=>t U M λb M1=>match b with
 |[d,e]=>match aC M1 d,aC M1 e with
  |some xs,cb ys=>R ⟨oU xs ys,bu d xs++bu e ys⟩ M1
  |_,_=>False
 |_=>False
theorem J6{b:g1}(hg:Gl X "zip")(hm:X.mg "zip"=ed)(ha:DA X B [a,b] ta)(hs:fe [a,b] X.env=[(eH,g3 a X.env),(eH,g3 b X.env)]:=by rfl)(hs2:fe [b] X.env=[(eH,g3 b X.env)]:=by rfl):
  DI X B (.Tuple elts x1 tp) (.Call (.Name "zip" p) [a,b] [] pos) (Gh ta):=by
 refine wo (λds M1 R h=>?_) hg hm ha (by rw[hs,hs2]) (by rw[hs2];rfl)
 split at h
 .split at h
  .rename_i d e _ xs ys e1 e2
   refine⟨[xs,ys],oU xs ys,.inl rfl,.cons e1 (.cons e2 .nil),⟨λi z hz=>?_,λi hle=>?_⟩,by simpa [uL] using h⟩
   .obtain⟨x,y,hx,hy,rfl⟩:=A5 hz
    exact⟨_,rfl,by simp[hx,hy]⟩
   .have:(oU xs ys).length=min xs.length ys.length:=by simp[oU]
    simp only[Mm,MV,or_false,exists_eq_or_imp,exists_eq_left];lia
  .exact h.elim
 .exact h.elim
end
noncomputable def tB:Bd:=⟨λ_ _=>True,λ_ _=>trivial⟩
section
inductive liftE0(K:Mp)(T:bj)(Z:_2.St)(H:Hp)(Q:VK):Prop
 |mk (U:Dl) (M:Mem) (QQ:DK) (rh:RepH K H M) (rs:RepS K H U Z) (h:T U M QQ) (u:Up K M H QQ Q):liftE0 K T Z H Q
inductive liftT0(K:Mp)(T:fg)(Z:_2.St)(H:Hp)(Q:Bool->Hp->Prop):Prop
 |mk (U:Dl) (M:Mem) (QQ:Bool->Mem->Prop) (rh:RepH K H M) (rs:RepS K H U Z) (h:T U M QQ) (u:UpT K M H QQ Q):liftT0 K T Z H Q
inductive liftG0(K:Mp)(g:jC)(v:V)(Z:_2.St)(H:Hp)(Q:_2.St->Hp->Prop):Prop
 |mk (d:D) (U:Dl) (M:Mem) (QQ:Dl->Mem->Prop) (rh:RepH K H M) (rs:RepS K H U Z) (r:Rp K H d v) (h:g d U M QQ) (u:∀δ' M',QQ δ' M'->∀σ' H',Frm M H M' H'->RepH K H' M'->RepS K H' δ' σ'->Q σ' H'):liftG0 K g v Z H Q
theorem AN{T:bj}(h:DE X tB e T):PE X e (liftE0 X.K T):=aR h λZ H Q ⟨U,M,QQ,c,b,h,u⟩=>⟨U,M,QQ,⟨trivial,c,b⟩,h,u⟩
theorem zg(h:DG X tB e g):PG X e (liftG0 X.K g):=jV h λv Z H Q ⟨d,U,M,QQ,rh,rs,r,h,u⟩=>⟨d,U,M,QQ,⟨trivial,rh,rs⟩,r,h,λb M' q c H' f s=>u b M' q c H' f s.rh s.rs⟩
theorem RepH.add{a:eC}{o:MO}(r:RepH K H M)(n:RepO K H a o):RepH K H (M.upd a o):=λb p e=>by
 by_cases c:b=a
 .subst c;rw[Mem.upd_same]at e;cases e;exact n
 .rw[ai c]at e;exact r b p e
noncomputable def ly(ls:Uh)(js:List Nat)(U:Dl):Dl:=ls.map (λ_=>ed)++js.map λj=>(U[j]?).join
theorem RepS.start(r:RepS K H U Z)(ls:Uh)(c:List Nat):RepS K H (ly ls c U) (cV ls c Z):=by
 refine⟨by simp[ly,cV],λi d e=>?_⟩
 unfold ly at e;unfold cV
 by_cases b:i<ls.length
 .rw[Ny (by simpa using b),Mw,Mi b]at e
  cases e
 .rw[Nb (by simpa using b),Md,Mw]at e
  rw[Nb (by simpa using b),Md,Mw]
  cases h:c[i-ls.length]? with
  |none=>rw[h]at e;cases e
  |some j=>
   rw[h]at e;have q:(U[j]?).join=cb d:=by simpa using e
   have u:U[j]?=cb (cb d):=by
    cases z:U[j]? with
    |none=>rw[z]at q;cases q
    |some o=>rw[z]at q;have l:o=cb d:=q;rw[l]
   obtain⟨v,m,s⟩:=r.get j d u;exact⟨v,by simp[m],s⟩
structure BxC(g:jC)(tt:fg)(te:bj)(ok:Mem->Prop)(Q:List D->Mem->Prop):Type
def dD(g:jC)(tt:fg)(te:bj)(ok:Mem->Prop)(Q:List D->Mem->Prop)(b:BxC g tt te ok Q):List D->List D->Dl->Mem->Prop
 |[],T6,_,M=>ok M/\Q T6 M
 |x::xs,T6,U,M=>ok M/\g x U M λh M2=>tt h M2 λc M3=>if c=true then te h M3 λy M4=>T6.length<sizeLine/\dD g tt te ok Q b xs (T6++[y]) h M4 else dD g tt te ok Q b xs T6 h M3
noncomputable def b6(wi:yC)(ls:Uh)(js:List Nat)(g:jC)(tt:fg)(te:bj):bj:=λU M Q=>wi U M λc M1=>dD g tt te c.ok (λb M'=>∀p,M' p=ed->Q (.ref p) (M'.upd p<|.lst b)) ⟨⟩ c.items [] (ly ls js U) M1
theorem Av{tt:fg}{te:bj}{ok:Mem->Prop}{xs T6:List D}{Q:List D->Mem->Prop}{b:BxC g tt te ok Q}(h:dD g tt te ok Q b xs T6 U M):ok M:=by
 cases xs with
 |nil=>exact h.1
 |cons _ _=>exact h.1
variable{tg iter elt:g1}{ifs:Uk}{cl:List (Str×eC)}{ls fs:Uh}{js:List Nat}{wi:yC}{tt:fg}{te:bj}
theorem nC{Q:VK}(h:liftE X B (b6 wi ls js g tt te) Z H Q):zP (liftI X B wi) ls js (liftG0 X.K g) (liftT0 X.K tt) (liftE0 X.K te) Z H Q:=by
 obtain⟨U,M,QQ,s,h,u⟩:=h;refine⟨U,M,_,s,h,λit M1 h1 J H1 rh1 f1 hJ p hp=>?_⟩;have hMp:M1 p=none:=rh1.fresh hp
 refine⟨λi m σ' H'=>m=it.items.length-i/\i<=it.items.length/\∃δ' M' T6 ys,RepH X.K H' M'/\RepS X.K H' δ' σ'/\H' p=cb (.lst ys)/\Rps X.K H' T6 ys/\M' p=ed/\Frm M1 H1 M' H'/\
   dD g tt te it.ok (λT6 M'=>∀p,M' p=ed->QQ (.ref p) (M'.upd p<|.lst T6)) ⟨⟩ (it.items.drop i) T6 δ' M',
  ⟨_,rfl,MY _,ly ls js U,M1,[],[],rh1.new hp,((s.rs.mono<|f1.imm s.rh).mono<|Imm.new hp).start ls js,upd_same,.nil,hMp,Frm.new hp,h1⟩,?_⟩
 rintro i m σ2 H2 ⟨rfl,hi,δ2,M2,T6,ys,rh2,rs2,hp2,ra2,hm2,f2,h2⟩
 have hok:=Av h2;obtain⟨hgo,hstop⟩:=hJ i H2 M2 (f2.imm rh1) rh2 hok
 by_cases hlt:i<it.items.length
 .rw[NQ hlt]at h2
  obtain⟨go,hy⟩:=hgo _ (Mi hlt)
  refine .inr ⟨go,λσ' H'=>∃δ' M' T6 ys,RepH X.K H' M'/\RepS X.K H' δ' σ'/\H' p=cb (.lst ys)/\Rps X.K H' T6 ys/\M' p=ed/\Frm M1 H1 M' H'/\
   dD g tt te it.ok (λT6 M'=>∀p,M' p=ed->QQ (.ref p) (M'.upd p<|.lst T6)) ⟨⟩ (it.items.drop (i+1)) T6 δ' M',λσ' H' z=>⟨it.items.length-(i+1),by omega,rfl,hlt,z⟩,λx H3 hx=>?_⟩
  obtain⟨f3,rh3,rx⟩:=hy x H3 hx;refine⟨_,δ2,M2,_,rh3,rs2.mono (f3.imm rh2),rx,h2.2,λδ4 M4 h4 σ4 H4 f4 rh4 rs4=>?_⟩;refine⟨δ4,M4,_,rh4,rs4,h4,λc M5 h5 H5 rh5 f5=>?_⟩;have f35:=(f3.trans f4).trans f5;obtain⟨hp5,hm5⟩:=f35.keep p _ hp2 hm2;cases c with
  |false=>
   try dsimp only
   rw[if_neg MC]at h5 ⊢;exact⟨δ4,M5,T6,ys,rh5,rs4.mono (f5.imm rh4),hp5,ra2.mf rh2 f35,hm5,f2.trans f35,h5⟩
  |true=>
   try dsimp only
   rw[if_pos rfl]at h5 ⊢;refine⟨δ4,M5,_,rh5,rs4.mono (f5.imm rh4),h5,λy M6 h6 v6 H6 rh6 f6 r6=>?_⟩;obtain⟨hp6,hm6⟩:=f6.keep p _ hp5 hm5;have f26:=f35.trans f6;have ra6:=ra2.mf rh2 f26;refine⟨ys,hp6,by rw[<- ra6.length];exact h6.1,?_⟩
   have im:Imm H6 (upd H6 p<|.lst (ys++[v6])):=Imm.upd (by rw[hp6];trivial)
   refine⟨δ4,M6,T6++[y],ys++[v6],rh6.keep im λb o hb=>aE (Mem.ne hb hm6),((rs4.mono<|f5.imm rh4).mono<|f6.imm rh5).mono im,upd_same,(ra6.append<|.cons r6 .nil).mono im,hm6,?_,h6.2⟩;refine⟨λb w e n=>?_⟩;obtain⟨e2,n2⟩:=(f2.trans f26).keep b w e n;exact⟨by rw[aE (aS e hp)];exact e2,n2⟩
 .rw[Ph (by omega)]at h2
  refine .inl ⟨hstop (by omega),u _ _ (h2.2 p hm2) _ H2 (rh2.add ⟨ys,hp2,ra2⟩) ?_ rfl⟩
  refine⟨λb w e n=>?_⟩;obtain⟨e1,n1⟩:=f1.keep b w e n;obtain⟨e2,n2⟩:=f2.keep b w e1 n1;exact⟨e2,by rw[ai (aS e1 hp)];exact n2⟩
def Ip(X:Cx)(B:Bd)(ifs:Uk)(T:fg):Prop:=HP X ifs (liftT X B T)
def cF:fg:=λ_ M Q=>Q true M
theorem Et:Ip X B [] cF:=λb s Z H Q I j=>by obtain⟨U,M,QQ,c,h,u⟩:=j;exact BW b s Z H Q I (u true M h H c.rh Frm.refl)
theorem Dz{c:g1}{t:fg}(h:DT X B c t):Ip X B [c] t:=Eg h
theorem xh{T:fg}(h:Ip X tB es T):HP X es (liftT0 X.K T):=λb s Z H Q I l=>by obtain⟨U,M,QQ,m,j,c,u⟩:=l;exact h b s Z H Q I ⟨U,M,QQ,⟨trivial,m,j⟩,c,u⟩
theorem Eu(m:X.calm=true)(q:CompOk X scope cl ls fs js)(o:DI X B tg iter wi)(j:∀(C:eC)(b:ee)(H₀:Hp)(c:Uj)(pl:Uo),DG (a_ X (ls++fs) scope cl C b H₀ c pl) tB tg g/\Ip (a_ X (ls++fs) scope cl C b H₀ c pl) tB ifs tt/\DE (a_ X (ls++fs) scope cl C b H₀ c pl) tB elt te)(l:∀x,n7 iter X.env x=pure x:=by intro _;rfl):DE X B (.ListComp elt [⟨tg,iter,ifs,0⟩] scope pos) (b6 wi ls js g tt te):=
 aR (Eo (g:=liftG0 X.K g) (tt:=liftT0 X.K tt) (te:=liftE0 X.K te) m q o (λC b H₀ c pl=>⟨zg (j C b H₀ c pl).1,xh (j C b H₀ c pl).2.1,AN (j C b H₀ c pl).2.2⟩) l) λ_ _ _ h=>nC h
def oM(i:Nat)(t:bj):aB:=λD U M=>t U M λd M1=>D.nx (U.set i<|some d) M1
theorem CA{u c:Pos}(A:X.N.Nodup)(o:X.N[i]?=cb x)(J:yZ X.env.scope x)(G:X.calm=true)(I:CompOk X scope cl ls fs js)(F:DI X B tg iter wi)(m:∀(C:eC)(b:ee)(H₀:Hp)(j:Uj)(pl:Uo),DG (a_ X (ls++fs) scope cl C b H₀ j pl) tB tg g/\Ip (a_ X (ls++fs) scope cl C b H₀ j pl) tB ifs tt/\DE (a_ X (ls++fs) scope cl C b H₀ j pl) tB elt te)(l:pb (.ListComp elt [⟨tg,iter,ifs,0⟩] scope pos) (cb<|.Name x u) c.line X.env=pure true:=by rfl)(hs:∀x,n7 iter X.env x=pure x:=by intro _;rfl)(hf:X.fn x=true\/X.env.scope.names.lookup x=cb .local:=by first|exact .inl rfl|exact .inr rfl|assumption):
  DS X B (.Assign [.Name x u] (.ListComp elt [⟨tg,iter,ifs,0⟩] scope pos) c) (oM i<|b6 wi ls js g tt te):=by
 refine ck (CY (g:=liftG0 X.K g) (tt:=liftT0 X.K tt) (te:=liftE0 X.K te) A o J G I F (λC b H₀ j pl=>⟨zg (m C b H₀ j pl).1,xh (m C b H₀ j pl).2.1,AN (m C b H₀ j pl).2.2⟩) l hs hf) ?_
 rintro D Z H ⟨U,M,DD,s,h,y⟩
 refine nC ⟨U,M,_,s,h,λd M' q v H' z f r=>?_⟩;exact y.nx _ M' q _ H' f ((s.go z f).set r)
def ko(i:Nat)(U:Dl)(M:Mem)(Q:Dl->Mem->Prop):Prop:=match U[i]? with
 |some (cb<|.ref a)=>match M a with
  |some (.lst xs)=>Q (U.set i<|some<|.lst xs) (M.del a)
  |_=>Q U M
 |_=>Q U M
def k_(t:aB)(i:Nat):aB:=λD U M=>t { D with nx:=λb M'=>ko i b M' D.nx } U M
theorem rQ{b:Type}:∀{l:List b}{i:Nat}{x:b},l[i]?=cb x->l.set i x=l
 |[],_,_,h=>by simp at h
 |_::_,0,_,h=>by simp at h;subst h;rfl
 |_::_,i+1,_,h=>by rw[List.set_cons_succ,rQ (by simpa using h)]
theorem IG{t:aB}(i:Nat)(h:DS X B st t):DS X B st (k_ t i):=by
 intro T0 s Z H D I ⟨U,M,DD,sr,hT,up⟩;refine bC (h T0 s Z H { D with nx:=λσ' H'=>∃δ' M',ko i δ' M' DD.nx/\Frm M H M' H'/\SR X B δ' M' σ' H' } I ⟨U,M,_,sr,hT,⟨λδ' M' q σ' H' f s'=>⟨δ',M',q,f,s'⟩,up.rt,up.bk,up.ct⟩⟩) λf s' q=>?_;cases f with
 |next=>
  obtain⟨σ',H',I',δ',M',q,f,s'⟩:=q;unfold ko at q
  split at q
  .rename_i a ea
   split at q
   .rename_i xs e
    obtain⟨vs,h1,h2⟩:=s'.rh _ _ e;obtain⟨o,I2⟩:=Inv.freeze I' h1;have im:Imm H' (upd H' a<|.frz o<|.lst vs):=Imm.upd (by rw[h1];trivial)
    obtain⟨v,hv,rv⟩:=s'.rs.get i _ ea;cases rv;refine⟨σ',_,I2,up.nx _ _ q σ' _ (f.trans<|Frm.del ⟨_,e⟩) ⟨B.go s'.i0 (Frm.del ⟨_,e⟩),s'.rh.freeze h1,?_⟩⟩;have:=(s'.rs.mono im).set (i:=i) (d:=.lst xs) (v:=.ref a) ⟨a,vs,rfl,⟨o,upd_same⟩,h2.mono im⟩
    rwa [rQ hv]at this
   .exact⟨σ',H',I',up.nx _ _ q σ' H' f s'⟩
  .exact⟨σ',H',I',up.nx _ _ q σ' H' f s'⟩
 |brk=>exact q
 |cont=>exact q
 |ret u=>exact q
end
noncomputable abbrev DX:=eC->Mem->Prop
noncomputable abbrev Sd:=List D->Mem->DK->DX->Prop
noncomputable def tq(P:gg)(w:g5):pT:=λb H s E e c=>∃C,tm P w C b H s E e c
def UpX(K:Mp)(M:Mem)(H:Hp)(EE:DX)(E:XK):Prop:=∀C M',EE C M'->∀H',RepH K H' M'->Frm M H M' H'->E (.ref C) ed H'
def yY(K:Mp)(B:Bd)(EE:DX)(E:XK):Prop:=∀C M',EE C M'->∀H',RepH K H' M'->B.p M' H'->E (.ref C) ed H'
theorem UpX.go{H1:Hp}(u:UpX K M H EE E)(i:Frm M H M1 H1):UpX K M1 H1 EE E:=λC M' q H' a b=>u C M' q H' a (i.trans b)
noncomputable def ce(K:Mp)(n:Nat)(T:Sd):Sp:=λb H Q E=>b.length=n/\∃ds M QQ EE,RepH K H M/\Rps K H ds b/\T ds M QQ EE/\Up K M H QQ Q/\UpX K M H EE E
def startN(N:Uh)(ds:List D):Dl:=ds.map cb++Mh (N.length-ds.length) ed
theorem RepS.startN{ds:List D}{vs:List V}(N:Uh)(r:Rps K H ds vs):RepS K H (_3.startN N ds) (_2.start N vs):=by
 have h:=r.length;refine⟨by simp[_3.startN,_2.start,h],λi d e=>?_⟩
 unfold _3.startN at e;unfold _2.start
 by_cases b:i<ds.length
 .rw[Ny (by simpa using b),Mw,Mi b]at e
  have c:ds[i]=d:=by simpa using e
  obtain⟨v,j,l⟩:=r.get (i:=i) (d:=d) (by rw[Mi b,c])
  refine⟨v,?_,l⟩;rw[Ny (by simp;lia),Mw,j]
  rfl
 .rw[Nb (by simpa using b),O8]at e
  split at e<;>cases e
section
def drp(Q:DK)(d:D)(M':Mem):Prop:=∃M'',(∀b o,M'' b=cb o->M' b=cb o)/\Q d M''
def az(EE:DX)(C:eC)(M':Mem):Prop:=∃M'',(∀b o,M'' b=cb o->M' b=cb o)/\EE C M''
theorem aq{d:D}(h:Q d M'):drp Q d M':=⟨M',λ_ _ e=>e,h⟩
theorem cD(h:EE C M'):az EE C M':=⟨M',λ_ _ e=>e,h⟩
theorem Frm.less{M'':Mem}(f:Frm M H M' H')(s:∀b o,M'' b=cb o->M' b=cb o):Frm M H M'' H':=⟨λb u e n=>by
 obtain⟨h,c⟩:=f.keep b u e n;refine⟨h,?_⟩;cases q:M'' b with
 |none=>rfl
 |some o=>rw[s b o q]at c;cases c⟩
theorem Up.drp{QV:VK}(u:Up K M H Q QV):Up K M H (_3.drp Q) QV:=λd M' ⟨M'',s,q⟩ v H' c f r=>u d M'' q v H' (λb o e=>c b o (s b o e)) (f.less s) r
theorem UpX.drp(u:UpX K M H EE E):UpX K M H (az EE) E:=λC M' ⟨M'',s,q⟩ H' c f=>u C M'' q H' (λb o e=>c b o (s b o e)) (f.less s)
def aM(N:Uh)(T:DX->aB):Sd:=λb M Q EE=>T (az EE) { nx:=λ_ M'=>drp Q .non M',rt:=drp Q } (startN N b) M
theorem fnD{k:Nat}{T:DX->aB}(F:Fun K x T4 st f fd)(S:FnScope N ps (bv st))(J:∀(c:cx)(A:hB)(b:List Env)(s:ee)(H:Hp)(E:XK)(B:Bd)(EE:DX),Room k (A.deeper<|Qx T4 (bv st) s.heap.objs.size f c)->yY K B EE E->
   y_ (dO (tq P w) P w K mg base N T4 (bv st) f c A b s H E) B (cH st) (T EE)):
  FnOk P w K mg base (tq P w) (k+1) f fd ps (ce K ps.length<|aM N T):=by
 obtain⟨W,od,kV,z,R,O,c,Y,y,rfl,lk,l⟩:=F.ex;refine Le lk l S (λI H Q E h=>h.1) λA b s H I Q E v j=>?_;obtain⟨L,o,M,QQ,EE,rh,r,G,u,ux⟩:=j;refine⟨_,J c A b s H E (Bd.of M H) (az EE) v ux.drp,startN N o,M,{ nx:=λ_ M'=>drp QQ .non M',rt:=drp QQ },⟨Frm.refl,rh,.startN N r⟩,G,⟨?_,u.drp,?_,?_⟩⟩
 .exact λU M' q Z H' f m=>u.drp _ M' q _ H' m.rh f rfl
 .exact λU M' q=>(show False from q).elim
 .exact λU M' q=>(show False from q).elim
theorem cr{k:Nat}{CX:pT}:FnOk P w K mg base CX k f fd ps (ce K n λ_ _ _ _=>False):=
 ⟨λj H Q E h=>(by obtain⟨_,_,_,_,_,_,_,h,_⟩:=h;exact h.elim),λA b s H c l j Q E _ _ _ _ h=>(by obtain⟨_,_,_,_,_,_,_,h,_⟩:=h;exact h.elim)⟩
theorem Fb{h:cx}{A:hB}{b:List Env}{j:ee}{H0:Hp}:cy (tq P w) (dO (tq P w) P w K mg base N T4 scope f h A b j H0 E) E:=by
 intro c Z H s e l I ⟨C,m⟩;have I':Inv (dO (tm P w C) P w K mg base N T4 scope f h A b j H0 E) c Z H s:=I.wish _;have:=L5 c Z H s e l I' m;exact kL this (λ_ _ z=>⟨C,z⟩) λ_ _ z=>⟨C,z⟩
theorem AE:cy (tq P w) X E0:=λb Z H s e j I ⟨C,h⟩=>by
 obtain⟨_,_,_,_,_,_,_,_,_,_,_,_,c⟩:=h;exact(show False from c).elim
end
def Sub(M1 M:Mem):Prop:=∀b o,M1 b=cb o->M b=cb o
def Dis(M1 M M':Mem):Prop:=∀b o,M b=cb o->M1 b=ed->M' b=ed
noncomputable def plus(M' M1 M:Mem):Mem:=λb=>match M' b with
 |some o=>cb o
 |none=>match M1 b with
  |some _=>ed
  |none=>M b
theorem nS:plus M' M M=M':=by
 funext b;simp only[plus];cases h:M' b with
 |some o=>rfl
 |none=>cases c:M b<;>rfl
structure BxQ(EE:DX)(Q:DK):Type
structure calls(T:Sd)(EE:DX)(ds:List D)(M:Mem)(Q:DK)(_:BxQ EE Q):Prop where
 go:∃M1,Sub M1 M/\T ds M1 (λd M'=>Dis M1 M M'->Q d (plus M' M1 M)) (λC M'=>Dis M1 M M'->EE C (plus M' M1 M))
section
theorem RepH.sub(r:RepH K H M)(s:Sub M1 M):RepH K H M1:=λb o e=>r b o (s b o e)
theorem RepH.dis(r:RepH K H M)(f:Frm M1 H M' H'):Dis M1 M M':=λb o e n=>by
 obtain⟨u,q⟩:=(r b o e).obj;exact(f.keep b u q n).2
theorem RepH.plus(r:RepH K H M)(s:Sub M1 M)(h:RepH K H' M')(f:Frm M1 H M' H'):RepH K H' (plus M' M1 M):=λb o e=>by
 simp only[_3.plus]at e
 split at e
 .rename_i j q;cases e;exact h b _ q
 .split at e
  .cases e
  .rename_i q n
   obtain⟨u,c⟩:=(r b o e).obj;exact(r b o e).keep (f.imm<|r.sub s) ((f.keep b u c n).1.trans c.symm)
theorem Frm.plus(s:Sub M1 M)(f:Frm M1 H M' H'):Frm M H (plus M' M1 M) H':=⟨λb u e n=>by
 have n1:M1 b=none:=by
  cases q:M1 b with
  |none=>rfl
  |some o=>rw[s b o q]at n;cases n
 obtain⟨h,c⟩:=f.keep b u e n1;exact⟨h,by simp only[_3.plus,c,n1,n]⟩⟩
theorem eK{ds:List D}{vs:List V}{QV:VK}{b:BxQ EE Q}(h:calls T EE ds M Q b)(rh:RepH K H M)(r:Rps K H ds vs)(l:vs.length=n)(u:Up K M H Q QV)(ux:UpX K M H EE E):ce K n T vs H QV E:=by
 obtain⟨M1,s,h⟩:=h.go;refine⟨l,ds,M1,_,_,rh.sub s,r,h,λd M' q v H' c f j=>?_,λC M' q H' c f=>?_⟩
 .exact u d _ (q<|rh.dis f) v H' (rh.plus s c f) (f.plus s) j
 .exact ux C _ (q<|rh.dis f) H' (rh.plus s c f) (f.plus s)
theorem au{ds:List D}{b:BxQ EE Q}(c:∀Q' E',(∀d M,Q d M->Q' d M)->(∀C M,EE C M->E' C M)->T ds M Q' E'):calls T EE ds M Q b:=
 ⟨M,λ_ _ e=>e,c _ _ (λd M' q _=>by rw[nS];exact q) λC M' q _=>by rw[nS];exact q⟩
variable{CX:pT}{k:Nat}{m:Str}{o:g1}{ta:bj}{t:eN}
def aj(T:Sd)(EE:DX)(n:Nat)(t:eN):bj:=λU M Q=>t U M λb M1=>b.length=n/\calls T EE b M1 Q ⟨⟩
theorem SR.ux{U:Dl}{Z:_2.St}(s:SR X B U M Z H)(ux:yY X.K B EE E):UpX X.K M H EE E:=λC M' q H' a b=>ux C M' q H' a (B.go s.i0 b)
theorem pK(F:FnOk X.prog X.w X.K X.mg X.base CX k f fd ps (ce X.K n T))(v:Room k X.A)(y:Gl X x)(q:X.mg x=cb (.ref f))(G:N6 X.K (.ref f)=true)(z:Binds X.K fd ps [])(I:cy CX X E)(ux:yY X.K B EE E)(J:DA X B (e::es) t)(c:(x==("__debug__":Str))=false:=by decide)(he:fe (e::es) X.env=(eH,g3 e X.env)::fe es X.env:=by rfl)(hpl:(lb pos<|starEach es X.env).any (·.1)=false:=by rfl):
  DE X B (.Call (.Name x p) (e::es) [] pos) (aj T EE n t):=by
 refine aR (CB F v y q G z .nil I J c he hpl) ?_
 rintro Z H Q ⟨U,M,QQ,s,h,u⟩
 refine⟨U,M,_,s,h,λL M1 j O H1 b i1 l=>?_⟩
 try dsimp only
 rw[Mx];exact eK j.2 b l (by rw[<- l.length];exact j.1) (u.go i1) ((s.ux ux).go i1)
def j7(C:eC)(m:Str)(T:Sd)(EE:DX)(n:Nat)(ta:bj)(t:eN):bj:=λU M Q=>ta U M λx M1=>match x with
 |.ref a=>match M1 a with
  |some (.ins C' fs)=>C'=C/\fs.lookup m=ed/\t U M1 λb M2=>b.length+1=n/\calls T EE (.ref a::b) M2 Q ⟨⟩
  |_=>False
 |_=>False
theorem E9{pl:Sem Bool}(he:DE X B o ta)(c:Cls X.K C)(hm:Meth X.K C m f)(F:FnOk X.prog X.w X.K X.mg X.base CX k f fd ps (ce X.K n T))(hr:Room k X.A)(hb:Binds X.K fd ps [])(hx:cy CX X E)(ux:yY X.K B EE E)(ha:DA X B (e::es) t)(y:fe (e::es) X.env=(eH,g3 e X.env)::fe es X.env:=by rfl)(hpl:(lb pos<|starEach es X.env).any (·.1)=false:=by rfl)(ht:g3 (.Call (.Attribute o m T9) (e::es) [] pos) X.env=(do
   let ov <- g3 o X.env
   S3 T9.atName
   let (f,first) <- No [ov] (Tb ov m pl)
   callWith pos f first (lb pos<|starEach (e::es) X.env) (SC pos<|keywordEach [] X.env)):=by rfl):
  DE X B (.Call (.Attribute o m T9) (e::es) [] pos) (j7 C m T EE n ta t):=by
 refine aR (Dn he c hm F hr hb .nil hx ha y hpl ht) ?_
 rintro Z H Q ⟨U,M,QQ,s,h,u⟩
 refine⟨U,M,_,s,h,λx M1 b v H1 j i1 W=>?_⟩
 split at b
 .rename_i a
  cases W
  split at b
  .rename_i C' fs S
   obtain⟨rfl,R,b⟩:=b;obtain⟨O,J,L,Y⟩:=j _ _ S;have l:J.lookup m=none:=by
    rcases Y.lookup m with⟨_,z⟩|⟨d,v,z,_⟩
    .exact z
    .rw[R]at z;cases z
   refine⟨a,O,J,rfl,L,l,U,M1,_,s.go j i1,b,λds M2 G vs H2 q i2 I=>?_⟩
   try dsimp only
   rw[Mx];exact eK (ds:=.ref a::ds) G.2 q (.cons rfl I) (by rw[Mc,<- I.length];exact G.1) (u.go<|i1.trans i2) ((s.ux ux).go<|i1.trans i2)
  .exact b.elim
 .exact b.elim
def rJ(C:eC)(T:Sd)(EE:DX)(n:Nat)(t:eN):bj:=λU M Q=>t U M λb M1=>b.length+1=n/\∀a,M1 a=ed->calls T EE (.ref a::b) (M1.upd a<|.ins C []) (λd M2=>match d with
 |.non=>Q (.ref a) M2
 |_=>False) ⟨⟩
theorem BZ(Mk':Mk X.K C f)(F:FnOk X.prog X.w X.K X.mg X.base CX k f fd ps (ce X.K n T))(hr:Room (k+1) X.A)(hg:Gl X x)(hm:X.mg x=cb (.ref C))(hb:Binds X.K fd ps [])(hx:cy CX X E)(ux:yY X.K B EE E)(ha:DA X B (e::es) t)(hdb:(x==("__debug__":Str))=false:=by decide)(he:fe (e::es) X.env=(eH,g3 e X.env)::fe es X.env:=by rfl)(hpl:(lb pos<|starEach es X.env).any (·.1)=false:=by rfl):
  DE X B (.Call (.Name x p) (e::es) [] pos) (rJ C T EE n t):=by
 refine aR (BN Mk' F hr hg hm hb .nil hx ha hdb he hpl) ?_
 rintro Z H Q ⟨U,M,QQ,s,h,u⟩
 refine⟨U,M,_,s,h,λds M1 h1 vs H1 rh1 i1 r1 a dx na ndx nex=>?_⟩;rw[Mx];have nx1:upd H1 dx (.own a) a=none:=by rw[aE (ML nex)];exact na
 have im1:Imm H1 (upd H1 dx<|.own a):=Imm.new ndx;have im2:Imm (upd H1 dx<|.own a) (upd (upd H1 dx<|.own a) a<|.ins C dx []):=Imm.new nx1;have rh2:RepH X.K (upd (upd H1 dx<|.own a) a<|.ins C dx []) (M1.upd a<|.ins C []):=(rh1.new ndx).put (by rw[nx1];trivial) ⟨dx,[],upd_same,.nil⟩
 have f2:Frm M1 H1 (M1.upd a<|.ins C []) (upd (upd H1 dx<|.own a) a<|.ins C dx []):=(Frm.new ndx).trans (Frm.put<|.inl nx1);refine eK (h1.2 a<|rh1.fresh na) rh2 (.cons rfl<|(r1.mono im1).mono im2) (by rw[Mc,<- r1.length];exact h1.1) (λd M2 h2 v H2 rh f r=>?_) ((s.ux ux).go<|i1.trans f2)
 cases d with
 |non=>exact⟨r,u _ M2 h2 _ H2 rh ((i1.trans f2).trans f) rfl⟩
 |_=>exact(show False from h2).elim
end
section
variable{o:g1}{to:bj}{t:eN}{name:Str}{T8:Pos}{Ty id:String}
noncomputable abbrev wm:=D->List D->Mem->DK->Prop
inductive liftM(X:Cx)(r:wm)(x:V)(xs:List V)(H:Hp)(Q:VK):Prop
 |mk (d:D) (ds:List D) (M:Mem) (QQ:DK) (rh:RepH X.K H M) (rx:Rp X.K H d x) (rs:Rps X.K H ds xs) (h:r d ds M QQ) (u:Up X.K M H QQ Q):liftM X r x xs H Q
def fJ(Ty:String)(r:wm)(to:bj)(t:eN):bj:=λU M Q=>to U M λx M1=>cu M1 x=cb Ty/\t U M1 λb M2=>r x b M2 Q
theorem Ag{d:D}{v:V}(l:RepH K H M)(r:Rp K H d v)(e:cu M d=cb Ty)(h:Ty="list"\/Ty="str"\/Ty="int"\/Ty="dict"):tyV K Ty v H:=by
 cases d with
 |non=>cases e;rcases h with h|h|h|h<;>exact absurd h (by decide)
 |bl b=>cases e;rcases h with h|h|h|h<;>exact absurd h (by decide)
 |int i=>cases r;cases e;rfl
 |str x=>cases r;cases e;rfl
 |tup xs=>cases e;rcases h with h|h|h|h<;>exact absurd h (by decide)
 |lst xs=>
  cases e;obtain⟨p,u,rfl,s,r⟩:=r;exact .inl ⟨rfl,u,s.sq⟩
 |ref a=>
  cases r;simp only[cu]at e
  split at e
  .rename_i q;cases e;obtain⟨j,c,m⟩:=l _ _ q;exact .inl ⟨rfl,j,SqL.of c⟩
  .rename_i q;cases e;obtain⟨j,c,m⟩:=l _ _ q;exact .inr (.inr<|.inl ⟨rfl,.inl ⟨j,c⟩⟩)
  .rename_i q;cases e;obtain⟨j,c,m⟩:=l _ _ q;exact .inr (.inr<|.inl ⟨rfl,.inr ⟨j,c⟩⟩)
  .cases e
 |_=>cases e
theorem Kk(G:Ty="list"\/Ty="str"\/Ty="int"\/Ty="dict")(L:SL Ty)(j:Slot Ty name id)(m:S0 (.builtin id)=pure (.type "method_descriptor"))(I:uO X id (liftM X r))(J:DE X B o to)(O:DA X B (e::es) t)(c:mu o name X.env (g3 o X.env)=g3 o X.env:=by rfl)(hfew:((lb T8<|starEach (e::es) X.env).all (λx=>!x.1)&&(SC T8<|keywordEach [] X.env).all (λx=>x.1.isSome)
   && decide ((e::es).length+([]:List On).length+(if ([]:List On).isEmpty then 0 else 1)<30))=true:=by rfl)(hline:(T9.endLine==T8.line)=true:=by rfl)(hs:fe (e::es) X.env=(eH,g3 e X.env)::fe es X.env:=by rfl)(hplain:(lb T8<|starEach es X.env).any (·.1)=false:=by rfl):
  DE X B (.Call (.Attribute o name T9) (e::es) [] T8) (fJ Ty r to t):=by
 refine aR (KH L j m I J O c hfew hline hs hplain) ?_
 rintro Z H Q ⟨U,M,QQ,s,h,u⟩
 refine⟨U,M,_,s,h,λx M1 q v H1 b i1 y=>⟨Ag b y q.1 G,U,M1,_,s.go b i1,q.2,λA M2 F R H2 l i2 z=>?_⟩⟩;exact⟨x,A,M2,QQ,l,y.mf b i2,z,F,u.go<|i1.trans i2⟩
theorem Hi(y:Ty="list"\/Ty="str"\/Ty="int"\/Ty="dict")(F:SL Ty)(j:Slot Ty name id)(l:S0 (.builtin id)=pure (.type "method_descriptor"))(z:uO X id (liftM X r))(A:DE X B o to)(b:mu o name X.env (g3 o X.env)=g3 o X.env:=by rfl)(hline:(T9.endLine==T8.line)=true:=by rfl):DE X B (.Call (.Attribute o name T9) [] [] T8) (fJ Ty r to ae):=by
 refine aR (Gb F j l z A b hline) ?_
 rintro Z H Q ⟨U,M,QQ,s,h,u⟩
 refine⟨U,M,_,s,h,λx M1 m v H1 c i1 q=>⟨Ag c q m.1 y,?_⟩⟩;exact⟨x,[],M1,QQ,c,q,.nil,m.2,u.go i1⟩
def bp:wm:=λx b M Q=>match x,b with
 |.ref a,[y]=>match M a with
  |some (.lst xs)=>xs.length<sizeLine/\Q .non (M.upd a<|.lst (xs++[y]))
  |_=>False
 |_,_=>False
theorem uT:uO X "list.append" (liftM X bp):=by
 intro T0 s Z H x vs v us Q I rx rv h;obtain⟨d,ds,M,QQ,rh,r,rs,h,up⟩:=h;unfold bp at h
 split at h
 .rename_i a y
  cases r;obtain⟨w,rfl,rw'⟩:=fH (ds:=[]) rs
  split at h
  .rename_i xs hM
   obtain⟨ws,h1,h2⟩:=rh _ _ hM;have im:Imm H (upd H a<|.lst (ws++[w])):=Imm.upd (by rw[h1];trivial)
   exact yo T0 s Z H _ _ v us Q I rx rv ⟨a,ws,w,rfl,rfl,h1,by rw[<- h2.length];exact h.1,up _ _ h.2 _ _ (rh.put (by rw[h1];trivial) ⟨_,upd_same,(h2.append<|.cons rw' .nil).mono im⟩) (Frm.put<|.inr ⟨_,hM⟩) rfl⟩
  .exact h.elim
 .exact h.elim
def Az:V->List V->Hp->VK->Prop:=λx c H Q=>∃l b xs zs,x=.ref l/\c=[.ref b]/\H l=cb (.lst xs)/\Rd H b (.lst zs)/\xs.length+zs.length<=sizeLine/\Q .non (upd H l<|.lst (xs++zs))
theorem vg:MtM X "list.extend" Az:=by
 intro J s Z H x vs v us Q I R Y h;obtain⟨l,b,xs,zs,rfl,rfl,A,L,hz,q⟩:=h;cases R;obtain⟨u,rfl,O⟩:=Y.one;cases O;obtain⟨z,j,n,r,hl,e⟩:=I.lstM A;obtain⟨z2,c,n2,G,W⟩:=L.ok I.hok;have S:=G.length;have y:j.toArray.size+c.toArray.size<=sizeLine:=by rw[Ml,Ml];lia
 have m:¬(!j.toArray.isEmpty&&OM (j.toArray.size+c.toArray.size))=true:=by
  rw[By y,OW];exact MC
 refine oo Rb ⟨_,e,rfl⟩ F.entry_list_extend (F.args_list_extend_2 _ _)
  (AutoSeq1.list_extend_list_list_0 l j.toArray n b c.toArray n2 m (by rw[Ml];lia)<|by lia) ⟨e,W,?_⟩
 refine⟨.non,_,I.lset (its':=j++c) A e (by simp) (r.append G) ?_,rfl,q⟩
 rw[Mg];lia
def cI:wm:=λx b M Q=>match x,b with
 |.ref a,[y]=>match M a,cX M y with
  |some (.lst xs),cb ys=>xs.length+ys.length<=sizeLine/\Q .non (M.upd a<|.lst (xs++ys))
  |_,_=>False
 |_,_=>False
theorem uo:uO X "list.extend" (liftM X cI):=by
 intro T0 s Z H x vs v us Q I rx rv h;obtain⟨d,ds,M,QQ,rh,r,rs,h,up⟩:=h;unfold cI at h
 split at h
 .rename_i a y
  cases r;obtain⟨w,rfl,rw'⟩:=fH (ds:=[]) rs
  split at h
  .rename_i xs ys hM hy
   obtain⟨ws,h1,h2⟩:=rh _ _ hM;obtain⟨p,zs,rfl,hq,r2⟩:=eF rh rw' hy;have l1:=h2.length;have l2:=r2.length;have im:Imm H (upd H a<|.lst (ws++zs)):=Imm.upd (by rw[h1];trivial)
   exact vg T0 s Z H _ _ v us Q I rx rv ⟨a,p,ws,zs,rfl,rfl,h1,hq,by lia,up _ _ h.2 _ _ (rh.put (by rw[h1];trivial) ⟨_,upd_same,(h2.append r2).mono im⟩) (Frm.put<|.inr ⟨_,hM⟩) rfl⟩
  .exact h.elim
 .exact h.elim
def zw:wm:=λx b M Q=>match x,b with
 |.ref a,[]=>match M a with
  |some (.lst xs)=>match xs[xs.length-1]? with
   |some y=>Q y (M.upd a<|.lst xs.dropLast)
   |none=>False
  |_=>False
 |.ref a,[.int i]=>match M a with
  |some (.lst xs)=>match wf xs.length i with
   |some k=>match xs[k]? with
    |some y=>Q y (M.upd a<|.lst<|xs.eraseIdx k)
    |none=>False
   |none=>False
  |_=>False
 |_,_=>False
theorem xf:uO X "list.pop" (liftM X zw):=by
 intro T0 s Z H x vs v us Q I rx rv h;obtain⟨d,ds,M,QQ,rh,r,rs,h,up⟩:=h;unfold zw at h
 split at h
 .rename_i a
  cases r;cases rs
  split at h
  .rename_i xs hM
   split at h
   .rename_i y ey
    obtain⟨ws,h1,h2⟩:=rh _ _ hM;obtain⟨w,hw,rw'⟩:=h2.get ey;have im:Imm H (upd H a<|.lst ws.dropLast):=Imm.upd (by rw[h1];trivial)
    exact Hw T0 s Z H _ _ v us Q I rx rv ⟨a,ws,w,rfl,rfl,h1,by rw[<- h2.length];exact hw,up _ _ h _ _ (rh.put (by rw[h1];trivial) ⟨_,upd_same,h2.dropLast.mono im⟩) (Frm.put<|.inr ⟨_,hM⟩)<|rw'.mono im⟩
   .exact h.elim
  .exact h.elim
 .rename_i a i
  cases r;obtain⟨w0,rfl,rw0⟩:=fH (ds:=[]) rs;cases rw0
  split at h
  .rename_i xs hM
   split at h
   .rename_i k ek
    split at h
    .rename_i y ey
     obtain⟨ws,h1,h2⟩:=rh _ _ hM;obtain⟨w,hw,rw'⟩:=h2.get ey;obtain⟨j1,j2,j3,j4⟩:=pV ek;have hz:ws.length<=sizeLine:=(I.lstM h1).1;have hs:sizeLine=16777216:=rfl;have hl:=h2.length;have im:Imm H (upd H a<|.lst<|ws.eraseIdx k):=Imm.upd (by rw[h1];trivial)
     exact Bo T0 s Z H _ _ v us Q I rx rv ⟨a,ws,i,k,w,rfl,rfl,h1,by lia,by lia,by rw[<- hl];exact j1,hw,up _ _ h _ _ (rh.put (by rw[h1];trivial) ⟨_,upd_same,(h2.eraseIdx k).mono im⟩) (Frm.put<|.inr ⟨_,hM⟩)<|rw'.mono im⟩
    .exact h.elim
   .exact h.elim
  .exact h.elim
 .exact h.elim
def gl:List D->Option (List Str)
 |[]=>cb []
 |.str x::ds=>match gl ds with
  |some xs=>cb (x::xs)
  |none=>ed
 |_=>ed
theorem lN:∀{ds:List D}{vs:List V}{xs:Uh},Rps K H ds vs->gl ds=cb xs->vs=xs.map V.str
 |[],vs,xs,r,e=>by cases e;exact r
 |d::ds,vs,xs,r,e=>by
  obtain⟨v,l,rfl,a,b⟩:=r;cases d with
  |str c=>
   simp only[gl]at e
   split at e
   .rename_i h j
    cases e;cases a;rw[lN b j];rfl
   .cases e
  |_=>cases e
def uI:wm:=λx b M Q=>match x,b with
 |.tup xs,[.str z]=>match gl xs with
  |some TY=>TY.length<=1000/\match TY.findIdx? (λy=>decide (y=z)) with
   |some j=>Q (.int (j:Nat)) M
   |none=>False
  |none=>False
 |_,_=>False
theorem uA:uO X "tuple.index" (liftM X uI):=by
 intro c s Z H x vs v O Q I G rv h;obtain⟨d,ds,M,QQ,W,r,J,h,y⟩:=h;unfold uI at h
 split at h
 .rename_i xs z
  obtain⟨p,ws,rfl,L,r⟩:=r;obtain⟨w,rfl,l⟩:=fH (ds:=[]) J;cases l
  split at h
  .rename_i b S
   obtain⟨u,h⟩:=h
   split at h
   .rename_i j q
    have:=lN r S;subst this;rw[NO]at q;obtain⟨R,Y,F⟩:=q;refine ye c s Z H _ _ v O Q I G rv ⟨p,b,z,j,rfl,rfl,L,u,?_,λm A=>?_,y _ M h _ H W Frm.refl rfl⟩
    .rw[Mi R];simpa using Y
    .have:=F m A
     rw[Mi (by lia)]
     simpa using this
   .exact h.elim
  .exact h.elim
 .exact h.elim
def dTM(r:wm)(to:bj)(t:eN):bj:=λU M Q=>to U M λx M1=>match x with
 |.tup xs=>t U M1 λb M2=>r (.tup xs) b M2 Q
 |_=>False
theorem Ka(j:Slot "tuple" name id)(q:S0 (.builtin id)=pure (.type "method_descriptor"))(L:uO X id (liftM X r))(O:DE X B o to)(R:DA X B (e::es) t)(b:mu o name X.env (g3 o X.env)=g3 o X.env:=by rfl)(hfew:((lb T8<|starEach (e::es) X.env).all (λx=>!x.1)&&(SC T8<|keywordEach [] X.env).all (λx=>x.1.isSome)
   && decide ((e::es).length+([]:List On).length+(if ([]:List On).isEmpty then 0 else 1)<30))=true:=by rfl)(hline:(T9.endLine==T8.line)=true:=by rfl)(hs:fe (e::es) X.env=(eH,g3 e X.env)::fe es X.env:=by rfl)(hplain:(lb T8<|starEach es X.env).any (·.1)=false:=by rfl):
  DE X B (.Call (.Attribute o name T9) (e::es) [] T8) (dTM r to t):=by
 refine aR (JG j q L O R b hfew hline hs hplain) ?_
 rintro Z H Q ⟨U,M,QQ,s,h,u⟩
 refine⟨U,M,_,s,h,λx M1 y v H1 c i1 A=>?_⟩;cases x with
 |tup xs=>
  have l:=A;obtain⟨p,z,rfl,I,S⟩:=l;refine⟨⟨p,z,rfl,I⟩,U,M1,_,s.go c i1,y,λG M2 J z H2 m i2 F=>?_⟩;exact⟨_,G,M2,QQ,m,A.mf c i2,F,J,u.go<|i1.trans i2⟩
 |_=>exact(show False from y).elim
noncomputable def Bu(ks:List bh)(ys:List D):List (bh×D):=(ks.zip ys).foldl (λa p=>fb a p.1 p.2) []
theorem tj:∀{ks:List bh}{ds:List D}{vs:List V}{a:List (bh×D)}{b:List (bh×V)},Rps K H ds vs->Rkv K H a b->
  Rkv K H ((ks.zip ds).foldl (λa p=>fb a p.1 p.2) a) ((ks.zip vs).foldl (λa p=>cJ a p.1 p.2) b)
 |[],_,_,_,_,_,r=>r
 |_::_,[],_,_,_,h,r=>by cases h;exact r
 |k::ks,d::ds,_,_,_,h,r=>by
  obtain⟨v,vs,rfl,a,b⟩:=h;exact tj (ks:=ks) b (r.put k a)
def rW(t:eN):bj:=λU M Q=>t U M λb M1=>match b with
 |[.tup xs,.tup ys]=>match eO xs with
  |some ks=>ks.length=ys.length/\0<ks.length/\ks.length<=1000/\∀p,M1 p=ed->Q (.ref p) (M1.upd p<|.dK<|Bu ks ys)
  |none=>False
 |_=>False
theorem tU{b:g1}{p2 pos2:Pos}(hc:X.calm=true)(hg:Gl X "zip")(hm:X.mg "zip"=ed)(hg2:Gl X "dict")(hm2:X.mg "dict"=ed)(ha:DA X B [a,b] ta)(hs:fe [a,b] X.env=[(eH,g3 a X.env),(eH,g3 b X.env)]:=by rfl)(hs2:fe [b] X.env=[(eH,g3 b X.env)]:=by rfl)(hs3:fe [QX (.Name "zip" p2) [a,b] [] pos2] X.env=[(eH,g3 (.Call (.Name "zip" p2) [a,b] [] pos2) X.env)]:=by rfl):
  DE X B (.Call (.Name "dict" p) [.Call (.Name "zip" p2) [a,b] [] pos2] [] pos) (rW ta):=by
 refine aR (tz eH eH hc hg hm hg2 hm2 ha hs hs2 hs3) ?_
 rintro Z H Q ⟨U,M,QQ,s,h,u⟩
 refine⟨U,M,_,s,h,λds M1 h1 vs H1 rh1 i1 r1=>?_⟩
 split at h1
 .obtain⟨v,w,rfl,rv,rw'⟩:=Im r1
  obtain⟨l1,us,rfl,t1,ru⟩:=rv;obtain⟨l2,ws,rfl,t2,rw2⟩:=rw'
  split at h1
  .rename_i ks ek
   obtain⟨e1,e2,e3,h1⟩:=h1;have hk:=lO ru ek;subst hk;refine⟨l1,l2,ks,ws,rfl,t1.sq,t2.sq,by rw[<- rw2.length];exact e1,e2,e3,λd hd=>?_⟩
   have im:Imm H1 (upd H1 d<|.dK<|(ks.zip ws).foldl (λa p=>cJ a p.1 p.2) []):=Imm.new hd;exact u _ _ (h1 d<|rh1.fresh hd) _ _ (rh1.put (by rw[hd];trivial) ⟨_,upd_same,(tj rw2 .nil).mono im⟩) (i1.trans<|Frm.put<|.inl hd) rfl
  .exact h1.elim
 .exact h1.elim
end
section
variable{cd:cx}{A:hB}{outer:List Env}{s0:ee}{H0:Hp}
theorem Cw{t:TS}{E':Um}(h:PS X st t)(k:∀e s,X.xe e s->E' e s):PS (X.wish E') st t:=λc s Z H D I q=>
 kL (h c s Z H D (I.unwish) q) (λf j z=>by
  cases f with
  |next=>obtain⟨b,H',I,q⟩:=z;exact⟨b,H',I.wish _,q⟩
  |brk=>obtain⟨b,H',I,q⟩:=z;exact⟨b,H',I.wish _,q⟩
  |cont=>obtain⟨b,H',I,q⟩:=z;exact⟨b,H',I.wish _,q⟩
  |ret u=>obtain⟨v,b,H',I,r,q⟩:=z;exact⟨v,b,H',I.wish _,r,q⟩) k
def eQ(C:eC)(EE:DX):aB:=λ_ _ M=>EE C M
theorem Bh{b:Str}{c T8:Pos}{jj}(X:ExcAt K C)(m:mg x=cb (.ref C))(ux:yY K B EE E)(q:Gl (dO (tq P w) P w K mg base N T4 scope f cd A outer s0 H0 E) x)(o:(x==("__debug__":Str))=false:=by decide)(hs:fe [.Constant (.str b) jj T9] (dO (tq P w) P w K mg base N T4 scope f cd A outer s0 H0 E).env=[(eH,g3 (.Constant (.str b) jj T9) (dO (tq P w) P w K mg base N T4 scope f cd A outer s0 H0 E).env)]:=by rfl):
  DS (dO (tq P w) P w K mg base N T4 scope f cd A outer s0 H0 E) B (.Raise (cb<|.Call (.Name x c) [.Constant (.str b) jj T9] [] T8) ed pos) (eQ C EE):=by
 have j:PS (dO (tm P w C) P w K mg base N T4 scope f cd A outer s0 H0 E) (.Raise (cb<|.Call (.Name x c) [.Constant (.str b) jj T9] [] T8) ed pos) (uJ E C):=zF X m q o hs;have l:PS (dO (tq P w) P w K mg base N T4 scope f cd A outer s0 H0 E) (.Raise (cb<|.Call (.Name x c) [.Constant (.str b) jj T9] [] T8) ed pos) (uJ E C):=
  Cw j λe s h=>kL h (λ_ _ z=>⟨C,z⟩) λ_ _ z=>⟨C,z⟩
 refine ck l ?_
 rintro D Z H ⟨U,M,DD,s,h,u⟩
 exact ux C M h H s.rh s.i0
end
section
def Ht(C:eC)(T:Sd)(n:Nat)(ta:eN)(ts:aB):aB:=λD U M=>ta U M λb M1=>b.length=n/\calls T (λC' M2=>C'=C/\ts D U M2) b M1 (λ_ M2=>D.nx U M2) ⟨⟩
theorem SR.mark{e:cx}(s:SR X B U M Z H):SR (X.marked e) B U M Z H:=⟨s.i0,s.rh,s.rs⟩
theorem SR.unmark{e:cx}(s:SR (X.marked e) B U M Z H):SR X B U M Z H:=⟨s.i0,s.rh,s.rs⟩
theorem UpD.mark{DD:DEnds}{D:Ends}{e:cx}(u:UpD X B M H DD D):UpD (X.marked e) B M H DD D:=
 ⟨λU M q Z H' f s=>u.nx U M q Z H' f s.unmark,u.rt,λU M q Z H' f s=>u.bk U M q Z H' f s.unmark,λU M q Z H' f s=>u.ct U M q Z H' f s.unmark⟩
theorem Cm{k:Nat}{sp:Sp}(F:FnOk P w K mg base (tq P w) k f fd ps sp):
  FnOk P w K mg base (tm P w C) k f fd ps (λvs H Q E=>sp vs H Q λCv a H'=>Cv=.ref C/\E Cv a H'):=
 ⟨λvs H Q E h=>F.len _ _ _ _ h,λA b s H c v vs Q E O q u y I=>py (F.run A b s H c v vs Q _ O q u y I) λr s' h=>by
  cases r with
  |ok fl=>cases fl<;>exact h
  |error e=>
   obtain⟨C',S,H',B,z,m,e2,J,G,W,l,R,Y,L,j⟩:=h;have o:C'=C:=by injection L
   subst o;exact⟨S,H',B,z,m,e2,J,G,W,l,R,Y,j⟩⟩
theorem t_{k:Nat}{y:Str}{S ep np q:Pos}{c:pd}{b:Ul}{G:aB}(I:X.stack=X.env::X.outer)(L:X.env.frame=cb X.env.locals)(F:FnOk X.prog X.w X.K X.mg X.base (tq X.prog X.w) k f fd ps (ce X.K n T))(hr:Room k X.A)(hg:Gl X x)(hm:X.mg x=cb (.ref f))(hk:N6 X.K (.ref f)=true)(hb:Binds X.K fd ps [])(ha:DA X.nox B (e::es) ta)(EX:ExcAt X.K C)(W:Gl X y)(J:X.mg y=cb (.ref C))(R:∀o:eC,y_ (X.marked<|.ref o) B (c::b) G)(O:(x==("__debug__":Str))=false:=by decide)(hdC:(y==("__debug__":Str))=false:=by decide)(he:fe (e::es) X.env=(eH,g3 e X.env)::fe es X.env:=by rfl)(hpl:(lb S<|starEach es X.env).any (·.1)=false:=by rfl)(hsw:pb (.Call (.Name x p) (e::es) [] S) ed ep.line X.env=pure false:=by rfl):
  DS X B (.Try [.Expr (.Call (.Name x p) (e::es) [] S) ep] [.ExceptHandler (cb<|.Name y np) ed (c::b) q] [] [] pos) (Ht C T n ta G):=by
 have l:∀o:eC,wx (X.marked<|.ref o) (c::b) (liftS X B G):=λo=>lI (R o) λD Z H ⟨U,M,DD,s,h,u⟩=>⟨U,M,DD,s.mark,h,u.mark⟩;refine ck (va (C:=C) I L (Cm F) hr hg hm hk hb .nil ha EX W J l O hdC he hpl hsw) ?_
 rintro D Z H ⟨U,M,DD,s,h,Y⟩
 refine⟨U,M,_,⟨s.i0,s.rh,s.rs⟩,h,λds M1 h1 vs H1 z i1 r1=>?_⟩
 try dsimp only
 rw[Mx];refine eK h1.2 z r1 (by rw[<- r1.length];exact h1.1) (λd M2 m v H2 j i2 r2=>?_) λC' M2 m H2 j i2=>?_
 .exact Y.nx _ _ m Z H2 (i1.trans i2) (s.go j<|i1.trans i2)
 .obtain⟨rfl,m⟩:=m
  exact⟨rfl,U,M2,DD,s.go j (i1.trans i2),m,Y.go<|i1.trans i2⟩
end
end _3
namespace _2
open PySem PySem.Spec PyProof.Rows
theorem fI{scope:NE}{env:Env}{x:Str}{k:Tl}(h:(SF scope env).names.lookup x=cb k):∃e,(x,e)∈scope.names/\(k=e\/(e=.free/\k=.cell)):=by
 have i:=NH h;obtain⟨⟨n,c⟩,f,g⟩:=MS.mp i
 by_cases b:(c==NameKind.free&&env.scope.kind==.function&&env.kindOf n==cb .cell)=true
 .have a:(n,NameKind.cell)=(x,k):=by rw[<- g];show _=(if _ then _ else _);rw[if_pos b]
  cases a;have j:c=.free:=by
   simp only[MA]at b;exact beq_iff_eq.mp b.1.1
  exact⟨c,f,.inr ⟨j,rfl⟩⟩
 .have a:(n,c)=(x,k):=by rw[<- g];show _=(if _ then _ else _);rw[if_neg b]
  cases a;exact⟨_,f,.inl rfl⟩
theorem j5{x:Str}:∀{fs:Uh}{a:Uj},fs.length=a.length->x∈fs->∃c,(fs.zip a).lookup x=cb c
 |[],_,_,h=>by cases h
 |_::_,[],h,_=>by simp at h
 |y::fs,c::a,hl,h=>by
  rw[P4,Qi];cases e:x==y with
  |true=>exact⟨c,rfl⟩
  |false=>
   have ne:¬x=y:=λz=>by rw[z]at e;simp at e
   rcases Mm.mp h with z|z
   .exact absurd z ne
   .exact j5 (by simpa using hl) z
theorem DJ{X:Cx}{a:NE}{ls fs:Uh}{g:Uj}{l:List Nat}(r:a.kind=.function)(f:∀y∈a.names,y.2≠.cell/\(y.2=.free->y.1∈fs))(q:∀x∈a.names,x.2=.local->a.names.lookup x.1=cb .local)
  (e:fs.length=g.length) (j:S2 a X.env=pure (fs.zip g)) (n:∀p∈fs.zip g,X.env.cells.lookup p.1=cb p.2) (o:Frees X a fs l):CompOk X a (fs.zip g) ls fs l where
 kind:=r
 nocell:=λy i=>(f y i).1
 locs:=q
 clos:=j
 cells:=λy d h=>n (y,d) (NH h)
 has:=λy h=>by
  have i:y∈fs:=by
   rcases h with h|h
   .obtain⟨m,c,b|⟨b,_⟩⟩:=fI h
    .exact absurd b.symm (f _ c).1
    .exact(f _ c).2 b
   .obtain⟨m,c,b|⟨b,_⟩⟩:=fI h
    .exact(f _ c).2 b.symm
    .exact(f _ c).2 b
  exact j5 e i
 frees:=o
theorem memZ{a:Type}{C:a->Prop}:∀p∈([]:List a),C p:=λ_ h=>by cases h
theorem memC{b:Type}{C:b->Prop}{a:b}{l:List b}(f:C a)(e:∀p∈l,C p):∀p∈a::l,C p:=λp c=>by
 rcases Mm.mp c with rfl|z
 .exact f
 .exact e p z
end _2
namespace _3
open PySem _2
variable{K:Mp}
section
variable{X:Cx}{B:Bd}{pos:Pos}
theorem dnm(i:Nat){x:Str}{pos:Pos}(a:X.N[i]?=cb x:=by rfl)(hv:Jq X.env.scope x:=by first|exact Or.inl rfl|exact Or.inr (Or.inl rfl)|exact Or.inr (Or.inr rfl))(hd:(x==("__debug__":Str))=false:=by decide)(hcd:(x==("__classdict__":Str))=false:=by decide):DE X B (.Name x pos) (ac i):=GK a hv hd hcd
noncomputable def jX:DX:=λ_ _=>False
theorem uxN{E:XK}:yY K B jX E:=λ_ _ z=>z.elim
theorem lj:fy "list"=cb (.type "list"):=by decide +kernel
theorem nF:fy "tuple"=cb (.type "tuple"):=by decide +kernel
theorem Dx:fy "all"=cb (.builtin "all"):=by decide +kernel
theorem md:fy "isinstance"=cb (.builtin "isinstance"):=by decide +kernel
theorem zM:fy "bool"=cb (.type "bool"):=by decide +kernel
theorem Cs:fy "int"=cb (.type "int"):=by decide +kernel
theorem Ej:fy "str"=cb (.type "str"):=by decide +kernel
theorem za:fy "dict"=cb (.type "dict"):=by decide +kernel
theorem C5:fy "min"=cb (.builtin "min"):=by decide +kernel
theorem vF:fy "len"=cb (.builtin "len"):=by decide +kernel
theorem LG{x:Str}{T:String}(e:Gl X x)(b:X.mg x=ed)(c:fy x=cb (.type T))(a:x≠"__name__":=by decide)(hd:(x==("__debug__":Str))=false:=by decide):DE X B (.Name x pos) (dC<|.ty T):=
 yJ (C7 (v:=.ty T) e b c rfl a hd) λ_=>rfl
def IY(t:bj):bj:=λU M Q=>t U M λx M1=>match x with
 |.int i=>Q (.int (-i)) M1
 |_=>False
theorem ID{a:g1}{b:bj}(e:DE X B a b):DE X B (.UnaryOp .USub a pos) (IY b):=by
 refine aR (Jx Gs e) ?_
 rintro Z H Q ⟨U,M,QQ,s,h,u⟩
 refine⟨U,M,_,s,h,λd M' q v H' c i r=>?_⟩;cases d with
 |int j=>exact⟨j,r,u _ M' q _ H' c i rfl⟩
 |_=>exact(show False from q).elim
theorem B3{a b c:g1}{q p v:bj}{op e:To}{r o:d_}(N:cq X (g0 op) (liftR2 X r))(m:cq X (g0 e) (liftR2 X o))(P:DE X B a q)(O:DE X B b p)(L:DE X B c v)(J:SW [op,e] [b,c]=false:=by with_unfolding_all rfl):
  DE X B (.Compare a [op,e] [b,c] pos) (dJ r o q p v):=by
 refine aR (zA N m P O L J) ?_
 rintro Z H Q ⟨U,M,QQ,s,h,u⟩
 refine⟨U,M,_,s,h,λx M1 F v1 H1 g i1 I=>?_⟩;refine⟨U,M1,_,s.go g i1,F,λy M2 A v2 H2 f i2 n=>?_⟩;refine⟨x,y,M2,_,f,I.mf g i2,n,A,λz M3 j v3 H3 i i3 E=>?_⟩;cases z with
 |bl k=>
  cases E;cases k with
  |true=>
   refine⟨true,rfl,?_⟩;rw[if_pos rfl];refine⟨U,M3,_,s.go i ((i1.trans i2).trans i3),j,λw M4 C v4 H4 l i4 G=>?_⟩;exact⟨y,w,M4,QQ,l,(n.mf f<|i3.trans i4),G,C,u.go<|((i1.trans i2).trans i3).trans i4⟩
  |false=>
   refine⟨eH,rfl,?_⟩;rw[if_neg MC];exact u _ M3 j _ H3 i ((i1.trans i2).trans i3) rfl
 |_=>exact(show False from j).elim
def frzs:List D->Mem->(List D->Mem->Prop)->Prop
 |[],M,Q=>Q [] M
 |d::ds,M,Q=>match d with
  |.ref a=>match M a with
   |some (.lst xs)=>frzs ds (M.del a) λb M'=>Q (.lst xs::b) M'
   |_=>frzs ds M λb M'=>Q (d::b) M'
  |_=>frzs ds M λb M'=>Q (d::b) M'
theorem iz{T0:Uo}{Z:_2.St}{s:ee}:∀{ds:List D}{vs:List V}{M:Mem}{H:Hp}{Q:List D->Mem->Prop},Inv X T0 Z H s->RepH X.K H M->Rps X.K H ds vs->frzs ds M Q->
  ∃H' es M',Inv X T0 Z H' s/\RepH X.K H' M'/\Frm M H M' H'/\Rps X.K H' es vs/\Q es M'
 |[],vs,M,H,Q,I,rh,r,h=>⟨H,[],M,I,rh,Frm.refl,r,h⟩
 |d::ds,vs,M,H,Q,I,rh,r,h=>by
  obtain⟨v,vs',rfl,a,b⟩:=r;unfold frzs at h
  split at h
  .rename_i a'
   cases a
   split at h
   .rename_i xs e
    obtain⟨ws,h1,h2⟩:=rh _ _ e;obtain⟨o,I2⟩:=Inv.freeze I h1;have im:Imm H (upd H a'<|.frz o<|.lst ws):=Imm.upd (by rw[h1];trivial)
    obtain⟨H',es,M',I',rh',f,r',q⟩:=iz I2 (rh.freeze h1) (b.mono im) h;refine⟨H',_,M',I',rh',(Frm.del ⟨_,e⟩).trans f,.cons ?_ r',q⟩;have z:Rp X.K (upd H a'<|.frz o<|.lst ws) (.lst xs) (.ref a'):=⟨a',ws,rfl,⟨o,upd_same⟩,h2.mono im⟩;exact z.mf (rh.freeze h1) f
   .obtain⟨H',es,M',I',rh',f,r',q⟩:=iz I rh b h
    exact⟨H',_,M',I',rh',f,.cons (d:=.ref a') rfl r',q⟩
  .obtain⟨H',es,M',I',rh',f,r',q⟩:=iz I rh b h
   exact⟨H',_,M',I',rh',f,.cons (a.mf rh f) r',q⟩
def uq(d:D)(M:Mem)(Q:DK):Prop:=match d with
 |.tup ds=>frzs ds M λa M'=>Q (.tup a) M'
 |d=>Q d M
def g6(t:bj):bj:=λU M Q=>t U M λd M'=>uq d M' Q
theorem DQ{e:g1}{te:bj}(h:DE X B e te):DE X B e (g6 te):=by
 intro a s Z H Q I o;obtain⟨U,M,QQ,n,m,u⟩:=o;refine bC (h a s Z H (λv H'=>∃d M',RepH X.K H' M'/\Frm M H M' H'/\Rp X.K H' d v/\uq d M' QQ) I ⟨U,M,_,n,m,λd M' q v H' b i r=>⟨d,M',b,i,r,q⟩⟩) ?_
 rintro w z ⟨v,H',I',g,d,M',b,i,r,q⟩
 unfold uq at q
 split at q
 .obtain⟨p,y,rfl,l,r⟩:=r
  obtain⟨H2,A,M2,I2,c,f,j,x⟩:=iz I' b r q;exact⟨.ref p,H2,I2,g,u _ _ x _ H2 c (i.trans f) ⟨p,y,rfl,l.mono (f.imm b),j⟩⟩
 .exact⟨v,H',I',g,u _ _ q v H' b i r⟩
theorem GT{P:gg}{w:g5}{g:Uq}{a:g4}{k n:Nat}{f:eC}{fd:ka}{ps:Uh}{T:Sd}(F:FnOk P w K g a (tq P w) k f fd ps (ce K n T)):
  FnOk P w K g a CX0 k f fd ps (λvs H Q _=>ce K n T vs H Q E0):=
 ⟨λvs H Q E h=>F.len _ _ _ _ h,λA b s H c l vs Q E q i j m o=>py (F.run A b s H c l vs Q E0 q i j m o) λr v h=>by
  cases r with
  |ok fl=>cases fl<;>exact h
  |error e=>
   obtain⟨C',I,H',B,y,x,M,C,z,J,u,G,L,p⟩:=h;exact(show False from p).elim⟩
theorem Cu{T:Sd}{H:Hp}{a:eC}{c:Ug}{Q:VK}(i:B4 H)(g:SqL K H a (c.map V.int))(h:T [.ml (c.map D.int)] (λ_=>ed) (λd _=>d=.bl true) jX)(k:∀H',Q (.bl true) H'):ce K 1 T [.ref a] H Q E0:=by
 refine⟨rfl,[.ml (c.map D.int)],λ_=>ed,_,_,λb o e=>(by cases e),.cons ⟨a,_,rfl,?_,tf rfl⟩ .nil,h,λd M' q v H' j f r=>?_,λ_ _ z=>z.elim⟩
 .rcases g with (z|z)|z
  .rcases i a with e|⟨o,xs,e⟩
   .rw[e]at z;cases z
   .rw[e]at z;cases z
  .exact .inl z
  .exact .inr z
 .subst q;cases r;exact k H'
end
theorem jf{h h':g4}{N:eC}(X:K.In h)(X':K.In h')(e:W.nsOkIn K N=true):h'.nsMap N=h.nsMap N:=by
 unfold W.nsOkIn at e
 split at e
 .rename_i a
  funext x;unfold Heap.nsMap;rw[X _ _ a,X' _ _ a]
 .cases e
theorem gn{h:g4}{C:eC}(X:K.In h)(q:Rx K C [.type "ValueError",.type "Exception",.type "BaseException",.type "object"] "ValueError.__new__"=true):ExcAt K C:=by
 unfold Rx at q
 split at q
 .rename_i H z i G
  split at q
  .rename_i C' E o m s g n u r p
   simp only[MA,beq_iff_eq,P9]at q;obtain⟨⟨⟨⟨⟨rfl,rfl⟩,b⟩,j⟩,a⟩,c⟩:=q;obtain⟨nm,bs,B,v,w,x,A,sub,y,e,del⟩:=z;dsimp only at r b a c;subst r b;have f:i=#[o,m,s,g,cb (.builtin "ValueError.__new__"),u]:=by
    obtain⟨l⟩:=i;simp only at p;rw[p]
   subst f;refine⟨⟨nm,w,v,bs,E,_,x,A,sub,y,e,H,o,m,s,g,u,"ValueError.__new__","ValueError.__init__","ValueError",h.nsMap v,λI X'=>⟨X' _ _ G,?_,W.tail_of_in X' j⟩,W.nsMap_none_of_in X a c,PySem.F.excBase_ValueError,by decide,(W.tail_of_in X j).hasType<|by decide⟩⟩
   rw[<- jf X X' a];exact .of_isNs (W.isNs_of_in X' a)
  .cases q
 .cases q
end _3
namespace _2
open PySem
theorem Ea{b:g1}{a:List Comprehension}{scope:NE}{pos f:Pos}{x:Str}{line:Nat}{env:Env}(g:env.blockKind=.function)(h2:env.scope.names.lookup x=cb .local)(h:f.line=pos.line)
  (i:(scope.names.any λ(n,k)=>n==x&&(k==.local||k==.cell))=eH):pb (.ListComp b a scope pos) (cb<|.Name x f) line env=pure true:=by
 have e:(Expr.ListComp b a scope pos).pos=pos:=rfl;have c:env.kindOf x=cb .local:=h2;unfold pb
 try dsimp only
 rw[g,c,e,h,i];simp
end _2
namespace _3
open PySem _2
variable{B:Bd}{X:Cx}
noncomputable def Bw:g1->Bool
 |.Starred ..=>eH
 |_=>true
theorem y0{e:g1}{es:Uk}{env:Env}(h:Bw e=true):fe (e::es) env=(eH,g3 e env)::fe es env:=by
 cases e<;>first|rfl|exact Bool.noConfusion h
section
theorem da_c{e:g1}{es:Uk}{te:bj}{t:eN}(c:DE X B e te)(a:DA X B es t)(b:Bw e=true:=by rfl):DA X B (e::es) (aa te t):=Em c a (y0 b)
end
section
end
section
end
section
end
end _3
namespace _S
open PySem
variable{a:eC}{A:hB}{es:Array (Int×cx)}{xs:Array Nat}{led:Bool}{h:g4}{ep:Nat}{prog:gg}{s:ee}{E:Um}{w:g5}
def Rs(xs:Array Nat):Prop:=xs.toList.Pairwise (· < ·)
theorem Rs.lt(r:Rs xs){i j:Nat}(h:i<j)(b:j<xs.size):xs[i]'(by lia)<xs[j]:=by
 have:=NP.mp r i j (by simpa using (by lia:i<xs.size)) (by simpa using b) h
 simpa using this
structure Lb(xs:Array Nat)(j p:Nat):Prop where
 le:p<=xs.size
 lo:∀i (h:i<xs.size),i<p->xs[i]<j
 hi:∀i (h:i<xs.size),p<=i->j<=xs[i]
theorem mG{xs:Array Nat}(r:Rs xs)(j:Nat):∀(f g e:Nat),g<=e->e<=xs.size->e-g<=f->(∀i (h:i<xs.size),i<g->xs[i]<j)->(∀i (h:i<xs.size),e<=i->j<=xs[i])->Lb xs j (Pf xs j f g e)
 |0,g,e,h1,h2,h3,a,b=>by
  have:g=e:=by lia
  subst this;exact⟨by simp only[Pf];exact h2,a,b⟩
 |f+1,g,e,h1,h2,h3,a,b=>by
  simp only[Pf]
  by_cases c:g<e
  .rw[if_pos c]
   have l:(g+e) / 2<xs.size:=by lia
   have m:xs.getD ((g+e) / 2) j=xs[(g+e) / 2]:=by simp[Array.getD,l]
   rw[m]
   by_cases d:xs[(g+e) / 2]<j
   .rw[if_pos d]
    refine mG r j f _ _ (by lia) h2 (by lia) (λi h q=>?_) b
    rcases Nl i ((g+e) / 2) with z|z
    .exact Qb (r.lt z l) d
    .have:i=(g+e) / 2:=by lia
     subst this;exact d
   .rw[if_neg d]
    refine mG r j f _ _ (by lia) (by lia) (by lia) a (λi h q=>?_)
    rcases Nl ((g+e) / 2) i with z|z
    .have:=r.lt z h;lia
    .have:i=(g+e) / 2:=by lia
     subst this;lia
  .rw[if_neg c]
   have:g=e:=by lia
   subst this;exact⟨h2,a,b⟩
theorem Ac(r:Rs xs)(j:Nat):Lb xs j (OL xs j):=
 mG r j xs.size 0 xs.size (MY _) (Mn _) (Mn _) (λi _ h=>by lia) (λi h q=>by lia)
theorem HB(r:Rs xs){j:Nat}(l:xs[OL xs j]?≠cb j):Rs (OR xs (OL xs j) j):=by
 have b:=Ac r j;generalize OL xs j=p at b l;unfold Rs at r ⊢;have e:(OR xs p j).toList=xs.toList.take p++j::xs.toList.drop p:=by
  unfold OR;simp[NI]
 have m:∀y∈xs.toList.drop p,j<y:=λy hy=>by
  obtain⟨k,c⟩:=Rf.mp hy;rw[List.getElem?_drop,Nz]at c;obtain⟨g,n⟩:=QA.mp c;have:=b.hi _ g (by lia)
  rcases Nl j y with z|z
  .exact z
  .have o:xs[p+k]=j:=by lia
   cases k with
   |zero=>exact absurd (by rw[<- o];simpa using g) l
   |succ k=>
    have i:p<xs.size:=by lia
    have:=b.hi p i (Mn _);have:xs[p]<xs[p+(k+1)]:=by
     have:=NP.mp r p (p+(k+1)) (by simpa using i) (by simpa using g) (by lia)
     simpa using this
    lia
 rw[e,List.pairwise_append];refine⟨r.sublist (List.take_sublist ..),Oa.mpr ⟨m,r.sublist<|List.drop_sublist ..⟩,λx q y hy=>?_⟩;obtain⟨k,c⟩:=Rf.mp q;have f:k<p:=by
  rcases Nl k p with z|z
  .exact z
  .rw[List.getElem?_take,if_neg (by lia)]at c;cases c
 rw[QR f,Nz]at c;obtain⟨g,n⟩:=QA.mp c;have:=b.lo _ g f;rcases Mm.mp hy with rfl|hy
 .lia
 .have:=m y hy;lia
theorem BM{c f n:Nat}{pl:Bool}{j:Array Int}{t:q0}{o:Array Nat}(e:Qn c f n led pl j=cb (t,o)):Rs t.place/\t.dummies=#[]:=by
 unfold Qn at e;cases i:Ra c j with
 |none=>rw[i]at e;cases e
 |some q=>
  rw[i]at e;cases e;refine⟨?_,rfl⟩;unfold Rs;rw[List.toList_toArray];rw[List.pairwise_map,List.pairwise_filterMap];refine List.Pairwise.imp ?_ List.pairwise_lt_range;intro a b g x m y l;obtain⟨_,_,rfl⟩:=Nd.mp m;obtain⟨_,_,rfl⟩:=Nd.mp l;exact g
theorem qS{t:q0}{f:Nat->Int}{h:Int}(l:t.dummies=#[]):∀(n:Nat)(p:RB)(j:Nat)(d:Option Nat),p.dummy=ed->Pe t f h n p=cb (.empty j d)->t.place[OL t.place j]?≠cb j/\d=ed
 |0,p,j,d,hp,e=>by simp[Pe]at e
 |n+1,p,j,d,hp,e=>by
  have c:∀q:RB,q.dummy=ed->(t.advance q).dummy=none:=λq g=>by
   unfold SetTable.advance
   split
   .exact g
   .exact g
  simp only[Pe]at e;cases b:t.slot p.j with
  |empty=>
   rw[b]at e;simp only[Pz,SetTable.Met.empty.injEq]at e;obtain⟨rfl,rfl⟩:=e;refine⟨λz=>?_,hp⟩;unfold SetTable.slot at b;simp[z]at b
  |dummy=>
   unfold SetTable.slot at b;rw[l]at b;have:PK #[] p.j=false:=by simp[PK]
   rw[this]at b;dsimp only at b
   split at b<;>simp at b
  |live i=>
   rw[b]at e;dsimp only at e
   split at e
   .cases e
   .exact qS l n _ j d (c p hp) e
theorem De{t:q0}{h:Int}{q:Nat×Bool}(r:Rs t.place)(b:t.dummies=#[])(e:t.freeSlot h=cb q):Rs (t.put q.1).1.place/\(t.put q.1).1.dummies=#[]:=by
 unfold SetTable.freeSlot at e
 split at e
 .rename_i j d c
  cases e;obtain⟨f,g⟩:=qS b _ _ _ _ rfl c;subst g;refine⟨HB r f,?_⟩;show (if PK t.dummies j=true then _ else t.dummies)=#[]
  rw[b,if_neg (by simp[PK])]
 .cases e
section
variable{K:Type}[DecidableEq K]
def Pl(t:q0):Prop:=t.plain=true->Rs t.place/\t.dummies=#[]
theorem sy(t:q0)(n:Nat):(t.orStandIn n).led=t.led/\(Pl t->Pl (t.orStandIn n)):=by
 unfold SetTable.orStandIn
 by_cases q:t.fits n=true
 .rw[if_pos q];exact⟨rfl,id⟩
 .rw[if_neg q];exact⟨rfl,λ_ e=>by cases e⟩
theorem tH(t:q0)(es:Array (Int×cx))(h:Int)(x:cx):(layNew t es h x).2.1.led=t.led/\(Pl t->Pl (layNew t es h x).2.1):=by
 unfold layNew;cases b:t.freeSlot h with
 |some q=>
  have s:=sy (t.put q.1).1 (OR es (t.put q.1).2 (h,x)).size;exact⟨s.1,λp=>s.2 λe=>De (p e).1 (p e).2 b⟩
 |none=>exact⟨rfl,λ_ e=>by cases e⟩
theorem ue{t t':q0}{c:Array Int}{n:Nat}{o:Array Nat}(e:t.relaid c n=cb (t',o)):t'.led=t.led/\Pl t':=by
 refine⟨?_,λ_=>BM e⟩;unfold SetTable.relaid Qn at e;cases b:Ra (SetTable.sizeAbove n-1) c with
 |none=>rw[b]at e;cases e
 |some q=>rw[b]at e;cases e;rfl
theorem p0(t:q0)(es:Array (Int×cx))(n:Nat):(SO t es n).2.1.led=t.led/\Pl (SO t es n).2.1:=by
 unfold SO;cases b:t.relaid (es.map (·.1)) n with
 |none=>exact⟨rfl,λz=>by cases z⟩
 |some q=>
  have c:=ue (t':=q.1) (o:=q.2) b
  try dsimp only
  split
  .exact c
  .exact⟨rfl,λz=>by cases z⟩
structure Holds(knd:KeyKind prog w K)(h:g4)(a:eC)(led:Bool)(l:List K):Prop where
 ex:∃(o:Obj)(es:Array (Int×cx))(ep:Nat)(t:q0),h.get? a=cb o/\o.ExactSet/\o.data=.set es ep t/\ElemsOf knd es.toList/\(∀k,k∈l↔∃e∈es.toList,knd.is k e.2=true)/\es.size=l.length/\t.fits es.size=true/\t.led=led/\Pl t
 nd:l.Nodup
 few:l.length<P3
variable{knd:KeyKind prog w K}
theorem stored{o:Obj}{es1:Array (Int×cx)}{t t1:q0}{l:List K}(j:h.get? a=cb o)(n:o.ExactSet)(c:o.data=.set es ep t)(q:ElemsOf knd es1.toList)(i:∀k,k∈l↔∃e∈es1.toList,knd.is k e.2=true)(g:es1.size=l.length)(r:t1.fits es1.size=true)(m:t1.led=led)(p:Pl t1)(f:l.Nodup)(b:l.length<P3):
  (h.update a<|Obj.putSet es1 t1).get? a=cb { o with data:=.set es1 (ep+1) t1 }/\Holds knd (h.update a<|Obj.putSet es1 t1) a led l:=by
 have e:=Og (Obj.putSet es1 t1) j (by rw[putSet_of es1 t1 c];rfl)
 rw[putSet_of es1 t1 c]at e;exact⟨e,⟨_,es1,ep+1,t1,e,n,rfl,q,i,g,r,m,p⟩,f,b⟩
theorem qv{g:Bool->Sem Unit}(I:∀(b:Bool)(s':ee)(P:Unit->ee->Prop),P () s'->eT (ft prog w) A (g b) P E s'){o:Obj}{es1:Array (Int×cx)}{t t2:q0}{G:Bool}{l:List K}{R:Option Bool->ee->Prop}(B:s.heap.get? a=cb o)(F:o.ExactSet)(y:o.data=.set es ep t)(H:ElemsOf knd es1.toList)(x:∀k,k∈l↔∃e∈es1.toList,knd.is k e.2=true)(m:es1.size=l.length)(M:t2.fits es1.size=true)(C:t2.led=led)(J:Pl t2)(v:l.Nodup)(c:l.length<P3)(hR:∀h',Nr a s.heap h'->Holds knd h' a led l->R (cb true) { s with heap:=h' }):
  eT (ft prog w) A (storeSet a es1 t2 >>= λ_=>if (!G&&t2.tooFull)=true then g (SO t2 es1<|Of es1.size).2.2 >>= λ_=>storeSet a (SO t2 es1<|Of es1.size).1 (SO t2 es1<|Of es1.size).2.1 >>= λ_=>pure (cb true) else pure (cb true)) R E s:=by
 obtain⟨u,H1⟩:=stored (knd:=knd) B F y H x m M C J v c;have q:es1.size<scanBound:=by rw[m];exact c
 refine cT (wpAny_storeSet_of B y ?_<|fits_of_scanBound q)
 by_cases p:(!G&&t2.tooFull)=true
 .rw[if_pos p]
  have f:=relayAll_perm t2 es1 (Of es1.size);have n:=relayAll_fits t2 es1 (Of es1.size);have i:=p0 t2 es1 (Of es1.size);generalize SO t2 es1 (Of es1.size)=L at f n i ⊢;have r:L.1.size=es1.size:=by rw[<- MP,f.length_eq,MP]
  refine cT (I _ _ _<|wpAny_bind<|wpAny_storeSet_of u rfl ?_<|by rw[r];exact fits_of_scanBound q)
  obtain⟨_,H2⟩:=stored (knd:=knd) (l:=l) (led:=led) (es1:=L.1) (t1:=L.2.1) u F rfl (H.perm f) (λk=>(x k).trans ⟨λ⟨e,j,z⟩=>⟨e,f.mem_iff.mpr j,z⟩,λ⟨e,j,z⟩=>⟨e,f.mem_iff.mp j,z⟩⟩) (by rw[r];exact m) n (i.1.trans C) i.2 v c
  exact eP (hR _ ((Nv s.heap a _).trans<|Nv _ a _) H2)
 .rw[if_neg p]
  exact eP (hR _ (Nv s.heap a _) H1)
theorem Do{l:List K}{k:K}{x:cx}{Q:Bool->ee->Prop}(c:knd.is k x=true)(F:x.scannable=true)(H:Holds knd s.heap a led l)(room:l.length+1<P3)(h:∀h' b,Nr a s.heap h'->Holds knd h' a led (if k∈l then l else l++[k])->Q b { s with heap:=h' }):eT (ft prog w) A (setAddHashed a x<|knd.hash k) Q E s:=by
 obtain⟨⟨o,es,ep,t,N,X,M,n,U,B,hf,m,R⟩,nd,W⟩:=H;have hb:es.size<scanBound:=by rw[B];exact W
 unfold setAddHashed setAddHashedIn;refine k6 (cT<|wpAny_setState_of N M hf ?_);simp only[byScan_of F hb n,if_true];unfold setAddByScan;refine cT (cT<|wpAny_rule<|wpAny_bind<|wpAny_setScan_of c N M hf n ?_)
 by_cases O:k∈l
 .obtain⟨e,v,I⟩:=(U k).mp O
  cases hr:es.toList.findIdx? (λe=>knd.is k e.2) with
  |none=>have:=Ov.mp hr e v;rw[I]at this;cases this
  |some j=>
   refine eP (eP ?_);have:=h s.heap eH (Heap.SameBut.refl a s.heap) (by rw[if_pos O];exact⟨⟨o,es,ep,t,N,X,M,n,U,B,hf,m,R⟩,nd,W⟩)
   cases s;exact this
 .have hr:es.toList.findIdx? (λe=>knd.is k e.2)=none:=Ov.mpr λe v=>by
   cases q:knd.is k e.2 with
   |false=>rfl
   |true=>exact absurd ((U k).mpr ⟨e,v,q⟩) O
  rw[hr];have r:=layNew_perm t es (knd.hash k) x;have T:=layNew_fits t es (knd.hash k) x;have J:=tH t es (knd.hash k) x;rw[Array.toList_push]at r
  try dsimp only
  generalize layNew t es (knd.hash k) x=L at r T J ⊢;obtain⟨u,t1,wd,gv⟩:=L;dsimp only at r T J ⊢;have q1:ElemsOf knd u.toList:=(n.push c F).perm r;have Z:∀G,G∈l++[k]↔∃e∈u.toList,knd.is G e.2=true:=λG=>by
   constructor
   .intro hk'
    rcases Ms.mp hk' with z|z
    .obtain⟨e,v,I⟩:=(U G).mp z
     exact⟨e,r.mem_iff.mpr (Om _ v),I⟩
    .rw[MH]at z;subst z
     exact⟨_,r.mem_iff.mpr (MK _<|MH.mpr rfl),c⟩
   .rintro⟨e,v,I⟩
    rcases Ms.mp (r.mem_iff.mp v) with z|z
    .exact Om _ ((U G).mpr ⟨e,z,I⟩)
    .rw[MH]at z;subst z
     exact MK _ (MH.mpr<|knd.inj x G k I c)
  have q3:u.size=(l++[k]).length:=by rw[<- MP,r.length_eq];simp[B]
  have C:(l++[k]).Nodup:=NV.mpr ⟨nd,by simp,λy hy z hz=>by rw[MH]at hz;subst hz;rintro rfl;exact O hy⟩
  have f:(l++[k]).length<scanBound:=by simp;lia
  have q4:Pl t1:=J.2 R;have p:∀(b:Bool)(Y:ee)(P:Unit->ee->Prop),P () Y->eT (ft prog w) A (match b with|true=>rule "set.scan.the-table-gave-way"|false=>pure ()) P E Y:=λb Y P z=>by
   cases b
   .exact eP z
   .exact Sc z
  have i:∀h',Nr a s.heap h'->Holds knd h' a led (l++[k])->eT (ft prog w) A (pure true) Q E { s with heap:=h' }:=λh' z H'=>eP (h h' true z<|by rw[if_neg O];exact H')
  refine cT (p gv s _ ?_)
  by_cases S:t1.plain=true
  .rw[if_pos S]
   refine cT (Td (hashByValue_scannable 8 F) ?_);cases hpk:plainKind x with
   |true=>exact qv (knd:=knd) (g:=λb=>match b with|true=>rule "set.scan.the-table-gave-way"|false=>pure ()) p N X M q1 Z q3 T (J.1.trans m) q4 C f i
   |false=>exact qv (knd:=knd) (g:=λb=>match b with|true=>rule "set.scan.the-table-gave-way"|false=>pure ()) (t2:={ t1 with plain:=eH }) p N X M q1 Z q3 (SetTable.fits_plain_off T) (J.1.trans m) (λz=>by cases z) C f i
  .rw[if_neg S]
   refine cT (eP ?_);exact qv (knd:=knd) (g:=λb=>match b with|true=>rule "set.scan.the-table-gave-way"|false=>pure ()) p N X M q1 Z q3 T (J.1.trans m) q4 C f i
end
section
variable{K:Type}[DecidableEq K]{knd:KeyKind prog w K}
theorem Holds.keep{h':g4}{l:List K}(H:Holds knd h a led l)(k:∀o,h.get? a=cb o->h'.get? a=cb o):Holds knd h' a led l:=by
 obtain⟨⟨o,es,ep,t,e,r⟩,c,b⟩:=H;exact⟨⟨o,es,ep,t,k _ e,r⟩,c,b⟩
noncomputable def cB(w:g5):Bool:=w.params.followText "set-order"
noncomputable def bG(led:Bool):Obj:={ cls:=.type "set",dict:=ed,data:=.set #[] 0 (.fresh 0 0 led) }
theorem C4(a:cx){Z:Um}(h:Z (.ref s.heap.objs.size) { s with heap:=s.heap.push (bG<|!cB w) }):
  t0 (ft prog w) A (.call (.builtin "set.__new__") ⟨[.type "set",a],[]⟩) (wants Z E) s:=by
 apply codeAny_of_tree;show eT _ A.in1 (SJ "set.__new__" ⟨[.type "set",a],[]⟩ >>= λ_=>again (.builtin "set.__new__" ⟨[.type "set",a],[]⟩)) _ _ s;apply cT;refine Td (F.newCall_set_1 a) (eP ⟨SI F.plain_set_new _,vr F.entry_set_new ?_⟩);rw[Oi (F.plain_set_new) _];have sub:=sub_set_self;obtain⟨c,b,g,e,f⟩:=s;unfold Builtin.«set.__new__» Builtin.Frozenset.newClass;dsimp only;wp_walk;refine wpAny_askSetting (eP ?_);simp only[newObj];exact cT (wpAny_alloc<|wpAny_pure<|wpAny_pure h)
noncomputable def l_(l:List K):List K->List K
 |[]=>l
 |k::r=>l_ (if k∈l then l else l++[k]) r
theorem Fz{P:Nat->cx->Prop}{St:Nat->g4->Prop}{I S:eC}{J:Uj}{ks:List K}{led:Bool}{R:Tc->ee->Prop}(W:Walks prog w A.in1 I J [I] ks.length P St)(L:S∉J)(B:S≠I)
  (M:∀i v,P i v->∃k,ks[i]?=cb k/\knd.is k v=true/\v.scannable=true) (C:ks.length+1<P3):
  ∀(r i:Nat)(s:ee)(l:List K),i+r=ks.length->St i s.heap->Holds knd s.heap S led l->l.length<=i->
   (∀h' g,(∀b o,b≠S->b≠I->s.heap.get? b=cb o->h'.get? b=cb o)->Holds knd h' S led (l_ l<|ks.drop i)->R (.ok<|.ret .none) { s with heap:=h',toks:=g })->
   t0 (ft prog w) A (.builtin "set.update.loop" ⟨[.ref S,.ref I],[]⟩) R s
 |0,i,s,l,e,st,H,hl,hR=>by
  refine vr O4 ?_;rw[Oi (Oe) _];show eT _ A.in1 (SA (.ref I) >>= _) _ _ s;obtain rfl:i=ks.length:=by lia
  refine cT (W.done s _ _ st λh' g k=>?_);refine eP (hR h' g (λb o _ p q=>k b o (by simpa using p) q) ?_)
  rw[List.drop_length];exact H.keep λo q=>k S o (by simpa using B) q
 |r+1,i,s,l,e,st,H,hl,hR=>by
  refine vr O4 ?_;rw[Oi (Oe) _];show eT _ A.in1 (SA (.ref I) >>= _) _ _ s;refine cT (W.item i s _ _ (by lia) st λv h' g Y u k=>?_)
  obtain⟨x,X,F,T⟩:=M i v Y;have H':Holds knd h' S led l:=H.keep λo q=>k S o (by simpa using B) q
  show eT _ A.in1 (No [v] (setAdd S v) >>= _) _ _ _;refine cT (k6 ?_);unfold setAdd;refine k6 (cT<|knd.pyHash F ?_);refine Do (s:={ s with heap:=h',toks:=g+1 }) F T H' (by lia) λU Z G H2=>?_
  refine eP ⟨SI Oe _,?_⟩;have O:ks.drop i=x::ks.drop (i+1):=by
   obtain⟨j,y⟩:=MU.mp X;rw[<- y];exact NQ j
  have n:(if x∈l then l else l++[x]).length<=i+1:=by
   by_cases z:x∈l
   .rw[if_pos z];lia
   .rw[if_neg z,Mg,NA];lia
  refine Fz W L B M C r (i+1) _ _ (by lia) (W.frame _ _ _ u λb p o q=>?_) H2 n λQ m N H3=>?_
  .rw[G.2 b λz=>L (z▸p)];exact q
  .refine hR Q m (λb o f c q=>N b o f c ?_) ?_
   .show U.get? b=cb o
    rw[G.2 b f];exact k b o (by simpa using c) q
   .rw[O];exact H3
theorem rG(e:h.get? a=cb (bG led)):Holds knd h a led []:=by
 exact⟨⟨_,#[],0,.fresh 0 0 led,e,⟨rfl,rfl,rfl⟩,rfl,λ_ q=>by simp at q,λk=>by simp,rfl,by rfl,rfl,λ_=>⟨Pu,rfl⟩⟩,PF,by simp[P3]⟩
end
section
variable{M:Model}
end
section
variable{I:eC}{f:cx}{i n:Nat}{t:q0}
end
section
variable{I:eC}{t:q0}
end
end _S
namespace _S
open PySem PySem.W PySem.Calls PyProof.Rows PyProof.V PySem.Spec
section
variable {prog:gg}{w:g5}{A:hB}{E:Um}{s:ee}{a:eC}{ep:Nat}{es:Array (Int×cx)}{t:q0}
end
end _S
namespace _S
open PySem
section
variable {prog:gg}{w:g5}{A:hB}{E:Um}{s:ee}{a:eC}
end
structure Ord(K:Type) where
 lt:K->K->Bool
 anti:∀x y,lt x y=eH->lt y x=eH->x=y
 tr:∀x y z,lt y x=eH->lt z y=eH->lt z x=eH
 asym:∀x y,lt x y=true->lt y x=eH
section
variable {K:Type}[DecidableEq K](o:Ord K)
abbrev FW(l:List K):Prop:=l.Pairwise λa b=>o.lt b a=eH
noncomputable def ins(x:K):List K->List K
 |[]=>[x]
 |y::r=>if o.lt y x=true then y::ins x r else x::y::r
noncomputable def Bz:List K->List K
 |[]=>[]
 |x::r=>ins o x (Bz r)
theorem ma(x:K):∀l:List K,(ins o x l).Perm (x::l)
 |[]=>Qe _
 |y::r=>by
  unfold ins
  by_cases h:o.lt y x=true
  .rw[if_pos h];exact(Rz y<|ma x r).trans (List.Perm.swap ..)
  .rw[if_neg h]
theorem bV:∀l:List K,(Bz o l).Perm l
 |[]=>Qe _
 |x::r=>(ma o x _).trans (Rz x<|bV r)
theorem wz(x:K):∀l:List K,FW o l->FW o (ins o x l)
 |[],_=>by simp[ins,FW]
 |y::r,h=>by
  unfold ins;have b:=Oa.mp h
  by_cases c:o.lt y x=true
  .rw[if_pos c]
   refine Oa.mpr ⟨λz a=>?_,wz x r b.2⟩;rcases Mm.mp ((ma o x r).mem_iff.mp a) with rfl|q
   .exact o.asym _ _ c
   .exact b.1 z q
  .rw[if_neg c]
   have e:o.lt y x=false:=by simpa using c
   refine Oa.mpr ⟨λz a=>?_,h⟩;rcases Mm.mp a with rfl|q
   .exact e
   .exact o.tr _ _ _ e (b.1 z q)
theorem qy:∀l:List K,FW o (Bz o l)
 |[]=>Pu
 |x::r=>wz o x _ (qy r)
theorem A7:∀(a b:List K),FW o a->FW o b->a.Perm b->a=b
 |[],b,_,_,p=>by rw[p.symm.eq_nil]
 |x::a,b,ha,hb,p=>by
  cases b with
  |nil=>have:=p.eq_nil;cases this
  |cons y b=>
   have c:=Oa.mp ha;have f:=Oa.mp hb;have e:x=y:=by
    rcases Mm.mp (p.mem_iff.mp<|Nu ..) with e|hx
    .exact e
    .rcases Mm.mp (p.symm.mem_iff.mp<|Nu ..) with e|hy
     .exact e.symm
     .exact o.anti _ _ (f.1 x hx) (c.1 y hy)
   subst e;rw[A7 a b c.2 f.2 (List.Perm.cons_inv p)]
theorem B9{a l:List K}(b:FW o a)(p:a.Perm l):a=Bz o l:=A7 o _ _ b (qy o l) (p.trans (bV o l).symm)
end
end _S
namespace _3
open PySem _2 _S
theorem sM:∀{ss:Uh}{us:Ui},Vals (ss.map V.str) us->Qp us ss
 |[],_,.nil=>.nil
 |_::_,_,.cons r t=>by obtain⟨u,rfl⟩:=r;exact .cons _ _ (sM t)
theorem t6{K:Mp}{H:Hp}:∀(ss:Uh),Rps K H (ss.map D.str) (ss.map V.str)
 |[]=>rfl
 |_::ss=>⟨_,_,rfl,rfl,t6 ss⟩
section
variable {X:Cx}{B:Bd}
theorem uB:fy "sorted"=cb (.builtin "sorted"):=by decide +kernel
theorem CT:fy "set"=cb (.type "set"):=by decide +kernel
theorem zZ:∀{us:Ui}{ss:Uh},Qp us ss->∀(i:Nat)(v:cx),us[i]?=cb v->∃x t,ss[i]?=cb x/\v=.str x t
 |_,_,.nil,i,v,h=>by simp at h
 |_,_,.cons x t r,0,v,h=>⟨x,t,by simp,by simpa using h.symm⟩
 |_,_,.cons x t r,i+1,v,h=>by simpa using zZ r i v (by simpa using h)
end
end _3
namespace _S
open PySem
section
variable {prog:gg}{w:g5}{A:hB}{E:Um}{s:ee}{a:eC}
end
end _S
namespace _3
open PySem _2 _S
noncomputable def dh:List D->Option (List Int)
 |[]=>cb []
 |.int i::ds=>match dh ds with
  |some is=>cb (i::is)
  |none=>ed
 |_=>ed
theorem mV:∀a:List Int,dh (a.map D.int)=cb a
 |[]=>rfl
 |x::a=>by rw[Mo,dh,mV a]
theorem sE{K:Mp}{H:Hp}:∀{ds:List D}{vs:List V}{xs:Ug},Rps K H ds vs->dh ds=cb xs->vs=xs.map V.int
 |[],vs,xs,r,e=>by cases e;exact r
 |d::ds,vs,xs,r,e=>by
  obtain⟨v,h,rfl,a,b⟩:=r;cases d with
  |int c=>
   simp only[dh]at e
   split at e
   .rename_i f g
    cases e;cases a;rw[sE b g];rfl
   .cases e
  |_=>simp[dh]at e
theorem rg:∀{ss:Ug}{us:Ui},Vals (ss.map V.int) us->PyProof.Rows.IntsAre us ss
 |[],_,.nil=>.nil
 |_::_,_,.cons r t=>by obtain⟨u,rfl⟩:=r;exact .cons _ _ (rg t)
section
variable {X:Cx}{B:Bd}
end
end _3
namespace _2
open PySem
section
variable {X:Cx}
end
end _2
namespace _3
open PySem _2 _S
section
variable {X:Cx}{B:Bd}
end
inductive TabR(w:g5)(K:Mp):List Re->List (Str×D)->Prop
 |nil:TabR w K [] []
 |cons {e:Re} {x:Str} {d:D} {es:List Re} {tab:List (Str×D)}:e.hash=hashStr w x->(∃t,e.key=.str x t)->(∃v,RelV v e.val/\∀H,Rp K H d v)->TabR w K es tab->TabR w K (e::es) ((x,d)::tab)
structure ModTab(w:g5)(K:Mp)(mg:Uq)(name:Str)(a:eC)(tab:List (Str×D)):Prop where
 at_:mg name=cb (.ref a)
 sys:(a==o4)=eH
 nd:(tab.map (·.1)).Nodup
 ex:∃es ep,K.lookup a=cb { cls:=.type "dict",dict:=ed,data:=.dict es ep,slots:=#[] }/\TabR w K es.toList tab
noncomputable def eX:List (Str×D)->Str->Option D
 |[],_=>ed
 |(y,d)::t,x=>if y=x then cb d else eX t x
theorem rj{P:gg}{w:g5}{K:Mp}:∀{es:List Re}{tab:List (Str×D)},TabR w K es tab->∃T5:List (Str×cx),(∀e∈es,∃k,(strKind P w).is k e.key=true/\e.hash=(strKind P w).hash k)/\Pairs (strKind P w) es T5/\T5.map (·.1)=tab.map (·.1)/\∀x,match eX tab x with
  |some d=>∃u v,pv T5 x=cb u/\RelV v u/\∀H,Rp K H d v
  |none=>pv T5 x=ed
 |_,_,.nil=>⟨[],(λe h=>by cases h),Pairs.nil,rfl,λx=>rfl⟩
 |_,_,.cons (e:=e) (x:=x) (d:=d) (tab:=tab) h1 h2 h3 r=>by
  obtain⟨T5,m,i,b,n⟩:=rj (P:=P) r;obtain⟨t,j⟩:=h2;obtain⟨v,l,g⟩:=h3;have a:(strKind P w).is x e.key=true:=by rw[j];simp[strKind,OE]
  refine⟨(x,e.val)::T5,λf he=>?_,.cons a rfl i,by simp[b],λy=>?_⟩
  .rcases Mm.mp he with rfl|he
   .exact⟨x,a,h1⟩
   .exact m f he
  .unfold eX pv
   by_cases c:x=y
   .rw[if_pos c]
    exact⟨e.val,v,by simp[c],l,g⟩
   .rw[if_neg c]
    have:=n y;unfold pv at this;simpa [c] using this
theorem ModTab.map{P:gg}{w:g5}{K:Mp}{p:Uq}{name:Str}{a:eC}{tab:List (Str×D)}(T:ModTab w K p name a tab){h:g4}(b:K.In h):∃T5:List (Str×cx),h.DictOf (strKind P w) a T5/\∀x,match eX tab x with
  |some d=>∃u v,pv T5 x=cb u/\RelV v u/\∀H,Rp K H d v
  |none=>pv T5 x=none:=by
 obtain⟨f,m,g,i⟩:=T.ex;obtain⟨T5,n,j,c,o⟩:=rj (P:=P) i;exact⟨T5,⟨_,f,m,b _ _ g,⟨rfl,rfl,rfl⟩,rfl,λe l=>n e (by simpa using l),j,by rw[c];exact T.nd⟩,o⟩
section
variable {X:Cx}{B:Bd}{name:Str}{a:eC}{tab:List (Str×D)}
def jp(tab:List (Str×D))(a:eC):d_:=λx y M Q=>match x,y with
 |.str x,.ref b=>b=a/\Q (.bl<|!(eX tab x).isSome) M
 |_,_=>False
def yw(tab:List (Str×D))(a:eC):d_:=λx y M Q=>match x,y with
 |.ref b,.str x=>b=a/\match eX tab x with
  |some d=>Q d M
  |none=>False
 |_,_=>False
theorem zx{T5:List (Str×cx)}(q:match eX tab name with
  |some d=>∃u v,pv T5 name=cb u/\RelV v u/\∀H,Rp X.K H d v
  |none=>pv T5 name=ed):(pv T5 name).isSome=(eX tab name).isSome:=by
 cases e:eX tab name with
 |some d=>rw[e]at q;obtain⟨u,v,h,_⟩:=q;rw[h];rfl
 |none=>rw[e]at q;rw[show pv T5 name=ed from q];rfl
theorem xV(T:ModTab X.w X.K X.mg name a tab):cq X (g0 .NotIn) (liftR2 X<|jp tab a):=by
 intro c s Z H x y v u Q I n g h;obtain⟨p,o,M,QQ,m,i,e,h,f⟩:=h;unfold jp at h
 split at h
 .rename_i z b
  cases i;cases e;cases g;obtain⟨rfl,h⟩:=h;obtain⟨t,rfl⟩:=n;obtain⟨j,l,q⟩:=T.map (P:=X.prog) I.kIn;refine wpAny_notIn_of (knd:=strKind X.prog X.w) (k:=z) (by simp[strKind,OE]) T.sys l.mapOf ?_
  rw[zx (X:=X) (q z)];exact⟨.bl _,H,I.tok _,rfl,f _ M h _ H m Frm.refl rfl⟩
 .exact h.elim
theorem ix_T(T:ModTab X.w X.K X.mg name a tab):IxR X (liftR2 X<|yw tab a):=by
 intro c f g s Z H x y v u Q I o r h m;obtain⟨J,G,M,QQ,E,F,p,h,l⟩:=h;unfold yw at h
 split at h
 .rename_i b z
  cases F;cases p;cases o;obtain⟨rfl,h⟩:=h;obtain⟨t,rfl⟩:=r;obtain⟨C,j,q⟩:=T.map (P:=X.prog) I.kIn;have i:=q z
  split at h
  .rename_i d e
   rw[e]at i;obtain⟨u,v,A,n,h3⟩:=i;refine Qm j.typeIs Qo.lookup (wpAny_getItem_of (knd:=strKind X.prog X.w) (k:=z) (by simp[strKind,OE]) j.mapOf A ⟨v,H,I.tok _,n,l _ M h _ H E Frm.refl<|h3 H⟩) m
  .exact h.elim
 .exact h.elim
theorem Gc{x:Str}{n:Int}{pos:Pos}(e:Gl X x)(b:∃t,X.mg x=cb (.int n t))(c:(x==("__debug__":Str))=false:=by decide):DE X B (.Name x pos) (dC<|.int n):=by
 obtain⟨t,b⟩:=b;exact pC (v:=.int n) e b ⟨t,rfl⟩ (λ_=>rfl) c
end
end _3
namespace _S
open PySem
section
variable {prog:gg}{w:g5}{K:Type}[DecidableEq K]{A:hB}{E:Um}{s:ee}{knd:KeyKind prog w K}
theorem yD{l:eC}{a:Ur}{ks:List K}{Q:Um}(U:A.handled=ed)(M:s.heap.IsTuple l a)(Y:a.size=ks.length)
  (X:∀(i:Nat)(v:cx),a[i]?=cb v->∃k,ks[i]?=cb k/\knd.is k v=true/\v.scannable=true) (y:ks.length+1<P3)
  (h:∀(h':g4)(m:Nat),Holds knd h' s.heap.objs.size (!cB w) (l_ [] ks)->(∀b o,s.heap.get? b=cb o->h'.get? b=cb o)->Q (.ref s.heap.objs.size) { s with heap:=h',toks:=m }):
  eT (ft prog w) A (call (.type "set") [.ref l]) Q E s:=by
 have c:=F.called_set;obtain⟨cc,tl,m1⟩:=c.mro;have m2:=c.made;have m3:=c.sub;apply Th;apply codeAny_of_tree;refine eP ⟨Code.quiet_builtin _ (by decide +kernel),vr F.entry_type_call ?_⟩
 rw[Around.under_plain (weight_type_call_type "set" [.ref l] []) (rfl)];have m4:=c.notType;have m5:=c.canCreate;have m6:=F.typeCall_set_1 (.ref l)
 repeat (any_goals (first|(assumption)|wp_step))
 refine py (C4 (.ref l) (E:=E) (Z:=λo I=>o=.ref s.heap.objs.size/\I={ s with heap:=s.heap.push (bG<|!cB w) }) ⟨rfl,rfl⟩) λr I u=>?_;cases r with
 |error e=>exact u
 |ok fl=>
  cases fl with
  |ret obj=>
   obtain⟨rfl,rfl⟩:=u;have f:(s.heap.push<|bG<|!cB w).get? s.heap.objs.size=cb (bG<|!cB w):=Mt _ rfl;have n:Shared.TypeIs { s with heap:=s.heap.push (bG<|!cB w) } (.ref s.heap.objs.size) "set":=⟨_,f,rfl⟩;have i1:=c.init.lookup;have i2:=c.init.bind (.ref s.heap.objs.size)
   repeat (any_goals (first|(assumption)|wp_step))
   refine py (TX (R:=wants (λr J=>r=.none/\∃h' m,J={ s with heap:=h',toks:=m }/\Holds knd h' s.heap.objs.size (!cB w) (l_ [] ks)/\∀b o,s.heap.get? b=cb o->h'.get? b=cb o) E) c.init.plain F.entry_set_init<|check_set_init_1 n ?_) λO J j=>?_
   .have g:(s.heap.push<|bG<|!cB w).IsTuple l a:=M.push _
    obtain⟨T,S,C,nl,L⟩:=id g;have lt:l<s.heap.objs.size:=let ⟨_,q,_⟩:=M;Mj q;obtain⟨oc,od,oz,os⟩:=T;dsimp only at C L;subst C;subst L;have n1:=F.sub_tuple_set;have n2:=F.sub_tuple_frozenset;have n3:(Nw "tuple"==Nw "dict")=false:=rfl;have x:=f;unfold bG at x S ⊢;unfold Builtin.«set.__init__» noKeywords Builtin.Frozenset.updateFrom;generalize P:S9=it
    wp_walk
    subst P;refine SZ g (cT<|wpAny_runValue ?_);have G:s.heap.objs.size∉[(s.heap.push<|bG<|!cB w).objs.size,l]:=by
     rw[Nq];simp only[Mm,MV,or_false,not_or];exact⟨MB (OI _),NY lt⟩
    have N:l≠(s.heap.push<|bG<|!cB w).objs.size:=by rw[Nq];exact MB (O5 lt)
    have p:((s.heap.push<|bG<|!cB w).push { cls:=.type "tuple_iterator",data:=.fields #[.ref l,.int 0 0] }).get? s.heap.objs.size=cb (bG<|!cB w):=Me _ f;have W:=Walks.tuple (prog:=prog) (w:=w) (A:=A.in1.in1.in1) (by simpa using U) (s.heap.push<|bG<|!cB w).objs.size l N a
    rw[Y]at W;refine Fz (knd:=knd) (led:=!cB w) (ks:=ks) W G (λz=>G (by rw[<- z];simp)) X y ks.length 0 _ [] (by lia) ⟨⟨_,Mt _ rfl,rfl,rfl⟩,g.push _⟩ (rG p) (MY _) λh' m k H=>?_
    refine eP (eP ⟨rfl,h',m,rfl,by rw[QG]at H;exact H,λb o q=>?_⟩)
    have B:=Mj q;exact k b o (MB B) (by rw[Nq];exact MB (O5 B)) (Me _<|Me _ q)
   .cases O with
    |error e=>exact j
    |ok f2=>
     cases f2 with
     |ret r=>
      obtain⟨rfl,h',m,rfl,H,k⟩:=j
      repeat (any_goals (first|(assumption)|wp_step))
      exact h _ _ H k
     |_=>exact j.elim
  |_=>exact u.elim
end
section
variable {prog:gg}{w:g5}{K:Type}[DecidableEq K]{A:hB}{E:Um}{s:ee}{knd:KeyKind prog w K}
theorem AW{a:eC}{led:Bool}{l:List K}{Q:Um}(H:Holds knd s.heap a led l)(m:∀t j,Q (.int (l.length:Nat) t) { s with toks:=j }):eT (ft prog w) A (call (.builtin "len") [.ref a]) Q E s:=by
 obtain⟨⟨o,e,n,t,h,i,g,_,_,b,f,_⟩,_,c⟩:=H;refine call_len_set h i g f ?_ ?_
 .have:e.size<scanBound:=by rw[b];exact c
  have:P3<=2 ^ 30:=by decide
  lia
 .rw[b];exact m _ _
end
end _S
namespace _2
open PySem PySem.Spec
noncomputable def Its(x:Str):It:=⟨λi _=>i<x.cps.size,λi H v H'=>H'=H/\∃c,x.cps[i]?=cb c/\v=.str ⟨#[c]⟩,λi _=>x.cps.size<=i⟩
theorem Am{P:gg}{w:g5}{K:Mp}{Q:g1}(j:eC)(x:Str)(t:Tok):Turn P w K Q (Its x) [j] j (λi h=>h.IsStrIter j "str_ascii_iterator" x t i) where
 mem:=by simp
 obj:=λi h a b g=>by
  have e:b=j:=by simpa using g
  subst e;obtain⟨o,e,_,d⟩:=a;exact⟨o,e,λv z=>by rw[d]at z;cases z⟩
 keep:=λi h n a k=>by
  obtain⟨o,e,r⟩:=a;exact⟨o,k j (by simp) o e,r⟩
 item:=by
  intro X F G B L i f s Z H E I p a u;subst F G B;obtain⟨J,A,M,C,y,q⟩:=p j (by simp)
  have m:i<x.cps.size:=u;refine wpAny_pyNext_ascii_item a (c:=x.cps[i]) (by simp[m]) λn l O=>?_
  have I1:Inv X f Z H { s with heap:=n,toks:=s.toks+1 }:=I.turned (λb o g e=>(O.2 b g).trans e) J A C y q;obtain⟨o,e,c,d⟩:=id l;exact⟨_,rfl,vC (s:={ s with heap:=n,toks:=s.toks+1 }) e c d (by decide) ⟨.str ⟨#[x.cps[i]]⟩,H,I1,⟨_,rfl⟩,⟨rfl,_,by simp[m],rfl⟩,l,λb g=>(p b g).1⟩⟩
 done:=by
  intro X F G B L i f s Z H E I p a u;subst F G B;obtain⟨J,A,M,C,y,q⟩:=p j (by simp)
  have m:x.cps.size<=i:=u;exact wpAny_pyNext_ascii_end (I.ok.hd L) a (by simp[m]) λn N=>⟨rfl,I.turned (t':=s.toks) (λb o g e=>N b o g e) J A C y q⟩
 self:=λ_ _ _ _ _ a h=>wpAny_pyIter_striter_ascii a h
section
variable {X:Cx}{tg:g1}
noncomputable def iStr(tl:TE):TI:=λZ H R=>tl Z H λx H1=>∃z:Str,x=.str z/\z.cps.all (· < 128)=true/\R (Its z) H1
theorem Gp{l:g1}{f:TE}(n:PE X l f):PI X tg l (iStr f):=by
 intro a s Z H R I h;refine bC (n a s Z H _ I h) λv c ⟨x,H1,I1,m,i⟩=>?_;obtain⟨z,rfl,j,q⟩:=i;obtain⟨t,rfl⟩:=m;refine wpAny_pyIter_ascii j ?_;refine⟨c.heap.objs.size,[c.heap.objs.size],_,_,H1,rfl,I1.kept (t':=c.toks) λb o e=>Me _ e,Am _ z t,⟨_,Mt _ rfl,rfl,rfl⟩,λb g=>?_,q⟩;have e:b=c.heap.objs.size:=by simpa using g
 subst e;exact I1.fpOk (Mn _) (I1.hok.fresh<|Mn _)
end
end _2
namespace _3
open PySem _2 _S
section
variable {X:Cx}{B:Bd}{tg:g1}{K:Mp}{H:Hp}{M:Mem}
noncomputable def eh(z:Str):List D:=z.cps.toList.map λc=>D.str ⟨#[c]⟩
def IN(te:bj):yC:=λU M R=>te U M λd M1=>match d with
 |.str z=>z.cps.all (· < 128)=true/\R ⟨eh z,[]⟩ M1
 |_=>False
theorem Jd{z:Str}:HV K H ⟨eh z,[]⟩ (Its z):=λi H2 M2 i2 f _=>by
 have a:(eh z).length=z.cps.size:=by simp[eh]
 refine⟨λd e=>?_,λb=>by rw[a]at b;exact b⟩
 have j:i<z.cps.size:=by
  rcases Nl i z.cps.size with h|h
  .exact h
  .rw[NN (by rw[a];exact h)]at e;cases e
 refine⟨j,?_⟩
 rintro x H3 ⟨rfl,c,g,rfl⟩
 have l:d=.str ⟨#[c]⟩:=by
  simp only[eh,Mw,Nz,g]at e;exact(MQ e).symm
 subst l;exact⟨Frm.refl,f,rfl⟩
theorem Gy{l:g1}{c:bj}(g:DE X B l c):DI X B tg l (IN c):=by
 refine iu (Gp g) ?_
 rintro Z H R ⟨U,M,RR,s,h,f⟩
 refine⟨U,M,_,s,h,λd M1 a v H1 b i1 e=>?_⟩
 split at a
 .cases e
  exact⟨_,rfl,a.1,f _ M1 a.2 _ H1 b i1 Jd⟩
 .exact a.elim
def CV:d_:=λx y M Q=>match x,y with
 |.str a,.str b=>Q (.bl<|!decide (b.cps.toList<a.cps.toList)) M
 |_,_=>False
theorem ze:cq X (g0 .LtE) (liftR2 X CV):=by
 intro c s Z H x y v u Q I m i h;obtain⟨o,n,M,QQ,l,j,e,h,f⟩:=h;unfold CV at h
 split at h
 .cases j;cases e
  obtain⟨t,rfl⟩:=m;obtain⟨t2,rfl⟩:=i
  rename_i a b
  have g:=gives_str_le a b t t2;refine compareOp_gives (op:=.LtE) ?_ ?_ F.slot_str_le ?_ ?_ g (λq=>by cases q) ⟨.bl _,H,I,rfl,f _ M h _ H l Frm.refl rfl⟩
  .exact SK ..
  .exact SK ..
  .exact F.entry_str_le
  .exact F.args_str_le_2 ..
 .exact h.elim
def wa(t:eN):bj:=λU M Q=>t U M λa M1=>match a with
 |[.tup xs]=>match gl xs with
  |some ss=>ss.length<64/\Q (.int ((l_ [] ss).length:Nat)) M1
  |none=>False
 |_=>False
noncomputable def DM(K:Mp)(t:TA):TE:=λZ H Q=>t Z H λa H1=>∃(l:eC)(ss:Uh),a=[.ref l]/\iA K H1 l (ss.map V.str)/\ss.length<64/\Q (.int ((l_ [] ss).length:Nat)) H1
theorem D1:fy "len"=cb (.builtin "len"):=by decide +kernel
theorem yr{e:g1}{t:TA}{p m pos a:Pos}(Y:X.calm=true)(hg:Gl X "set")(W:X.mg "set"=ed)(o:Gl X "len")(n:X.mg "len"=ed)(ha:PA X [e] t)
  (U:fe [e] X.env=[(eH,g3 e X.env)]:=by rfl) (hs3:fe [QX (.Name "set" m) [e] [] a] X.env=[(eH,g3 (.Call (.Name "set" m) [e] [] a) X.env)]:=by rfl):
  PE X (.Call (.Name "len" p) [.Call (.Name "set" m) [e] [] a] [] pos) (DM X.K t):=by
 intro b s Z H Q I h;refine ol (dN I o n D1<|PD ?_ hs3 rfl);rw[hs3];show eT _ _ (spliced ((eH,_)::lb pos [])) _ _ s;refine PQ ?_;refine ol (dN I hg W CT<|Ng (bC (ha a b s Z H _ I h) λus y ⟨vs,H1,I1,P,G⟩=>?_) U rfl);obtain⟨l,F,rfl,N,j,q⟩:=G;obtain⟨u,rfl,A⟩:=iV P;cases A;obtain⟨g,z,S,hz⟩:=I1.tuple N;have c:=z.length;rw[Md]at c;have J:=sM z;have O:=I1.ok.hd Y;refine yD (knd:=strKind X.prog X.w) (ks:=F) O (show y.heap.IsTuple l g.toArray from S) (by simp;lia) (λi v r=>?_) (Nat.lt_of_le_of_lt (Nat.succ_le_of_lt j)<|by decide) λC L H2 E=>?_
 .rw[Rg]at r
  obtain⟨x,t',R,T⟩:=zZ J i v r;subst T;exact⟨x,R,by simp[strKind,OE],rfl⟩
 refine P5 ?_;refine AW (s:={ y with heap:=C,toks:=L }) H2 λt2 f=>?_;exact⟨.int _,H1,I1.kept (t':=f) E,⟨_,rfl⟩,q⟩
theorem yQ{e:g1}{t:eN}{p f pos a:Pos}(x:X.calm=true)(y:Gl X "set")(w:X.mg "set"=ed)(i:Gl X "len")(g:X.mg "len"=ed)(z:DA X B [e] t)
  (r:fe [e] X.env=[(eH,g3 e X.env)]:=by rfl) (hs3:fe [QX (.Name "set" f) [e] [] a] X.env=[(eH,g3 (.Call (.Name "set" f) [e] [] a) X.env)]:=by rfl):
  DE X B (.Call (.Name "len" p) [.Call (.Name "set" f) [e] [] a] [] pos) (wa t):=by
 refine aR (yr x y w i g z r hs3) ?_
 rintro Z H Q ⟨U,M,QQ,s,h,u⟩
 refine⟨U,M,_,s,h,λds M1 b o H1 c i1 q=>?_⟩
 split at b
 .obtain⟨v,rfl,p,o,rfl,m,l⟩:=fH (ds:=[]) q
  split at b
  .rename_i j n
   have:=lN l n;subst this;exact⟨p,j,rfl,m.sq,b.1,u _ _ b.2 _ H1 c i1 rfl⟩
  .exact b.elim
 .exact b.elim
theorem cY{a:eC}{ss:Uh}{us:Ur}{n:Nat}(h:K.lookup a=cb { cls:=.type "tuple",dict:=ed,data:=.seq us n,slots:=#[] })(hv:Vals (ss.map V.str) us.toList)(hz:us.size<=sizeLine):∃v,RelV v (.ref a)/\∀H,Rp K H (.mt<|ss.map D.str) v:=
 ⟨.ref a,rfl,λ_=>⟨a,_,rfl,⟨_,us,n,h,rfl,rfl,hz,hv⟩,t6 ss⟩⟩
end
end _3
namespace _3
open PySem _2
section
variable {X:Cx}{B:Bd}{pos:Pos}
theorem tO{i l j:bj}{r m:d_}{Z:List (Option V)}{H:Hp}{Q:VK}(h:liftE X B (dJ r m i l j) Z H Q):uC (liftR2 X r) (liftR2 X m) (liftE X B i) (liftE X B l) (liftE X B j) Z H Q:=by
 obtain⟨U,M,QQ,s,h,u⟩:=h;refine⟨U,M,_,s,h,λx M1 q v1 H1 b i1 A=>?_⟩;refine⟨U,M1,_,s.go b i1,q,λy M2 n v2 H2 a i2 g=>?_⟩;refine⟨x,y,M2,_,a,A.mf b i2,g,n,λz M3 e v3 H3 c i3 p=>?_⟩;cases z with
 |bl k=>
  cases p;cases k with
  |true=>
   refine⟨true,rfl,?_⟩;rw[if_pos rfl];refine⟨U,M3,_,s.go c ((i1.trans i2).trans i3),e,λw M4 o v4 H4 f i4 v=>?_⟩;exact⟨y,w,M4,QQ,f,(g.mf a<|i3.trans i4),v,o,u.go<|((i1.trans i2).trans i3).trans i4⟩
  |false=>
   refine⟨eH,rfl,?_⟩;rw[if_neg MC];exact u _ M3 e _ H3 c ((i1.trans i2).trans i3) rfl
 |_=>exact(show False from e).elim
theorem zr{a b c:g1}{l j m:bj}{op e:To}{r f:d_}(z:cq X (g0 op) (liftR2 X r))(g:cq X (g0 e) (liftR2 X f))(C:DE X B a l)(A:DE X B b j)(y:DE X B c m)(w:SW [op,e] [b,c]=false:=by with_unfolding_all rfl):
  DT X B (.Compare a [op,e] [b,c] pos) (ao<|dJ r f l j m):=by
 refine kb (AX z g C A y w) ?_
 rintro Z H Q ⟨U,M,QQ,s,h,u⟩
 have o:liftE X B (dJ r f l j m) Z H (λx H'=>∃k,x=.bl k/\Q k H'):=by
  refine⟨U,M,_,s,h,λd M' q v H' p i n=>?_⟩;cases d with
  |bl k=>exact⟨k,n,u k M' q H' p i⟩
  |_=>exact(show False from q).elim
 exact tO o
end
section
variable {X:Cx}{B:Bd}
end
end _3
namespace _3
open PySem _2 _S
section
variable {X:Cx}{B:Bd}
end
end _3
namespace _S
open PySem PySem.W PySem.Calls PyProof.Rows PyProof.V PySem.Spec
section
variable {prog:gg}{w:g5}{K:Type}[DecidableEq K]{knd:KeyKind prog w K}{A:hB}{E:Um}{s:ee}{v d:eC}{ep:Nat}{T5:List (K×cx)}
end
end _S
namespace _3
open PySem _2 _S
section
variable {X:Cx}{B:Bd}{pos:Pos}
end
end _3
namespace LX
open PySem PySem.W PySem.Spec PySem.Calls PyProof.Rows Builtin Builtin.ObjectAttr Builtin.Getset_descriptor
section
variable {K:Frag}{prog:gg}{w:g5}{A:hB}{E:Um}{s:ee}
end
end LX
namespace LX
open PySem PySem.W PySem.Spec PySem.Calls PyProof.Rows
end LX
namespace _2
open PySem PySem.Spec PyProof.Rows
section
variable {X:Cx}{T0:Uo}{Z:St}{H:Hp}{s:ee}{e:cx}
end
end _2
namespace _2
open PySem
end _2
namespace _3
open PySem _2
variable{K:Mp}
section
variable{X:Cx}{B:Bd}{H H':Hp}{M M1 M':Mem}
end
section
variable{P:gg}{w:g5}{mg:Uq}{base:g4}{f:eC}{fd:ka}
end
section
variable{X:Cx}{B:Bd}{H H':Hp}{M M1 M':Mem}
end
end _3
namespace _3
open PySem _2 _S
section
variable {X:Cx}{B:Bd}
end
end _3
namespace _3
open PySem _2
variable{B:Bd}{X:Cx}{pos:Pos}
section
end
section
variable{C:eC}{f:Str}{o value:g1}{ta tv:bj}{tpos:Pos}
end
section
variable{CX:pT}{k n:Nat}{f C:eC}{fd:ka}{ps:Uh}{T:Sd}{E:XK}{EE:DX}{x:Str}{p:Pos}
end
section
variable{K:Mp}{H H':Hp}{M M1 M':Mem}
end
section
end
end _3
namespace _S
open PySem PySem.W PySem.Calls PyProof.Rows PyProof.V PySem.Spec
section
variable {prog:gg}{w:g5}{A:hB}{E:Um}{s:ee}{it d:eC}{i n ep:Nat}{ok ov:cx}{od:Obj}{es:Array Re}
end
end _S
namespace _2
open PySem PySem.Spec PyProof.Rows _S
theorem Ma{X:Cx}{a:Uo}{Z:St}{H:Hp}{s:ee}{d:eC}{b:Obj}{T5:List (List bh×V)}{es:Array Re}{l:Nat}(I:Inv X a Z H s)(e:H d=cb (.frz b<|.dT T5))(m:b.data=.dict es l):
  s.heap.get? d=cb b/\∃xs:List (List bh×eC×cx),KT H T5 xs/\es.toList=xs.map (entryOfKey<|tupleKind<|aP X.prog X.w):=by
 obtain⟨c,_,_,xs,r,o,h,i,f,_,g,j,_⟩:=(show ObjOk X.prog X.w H s.heap d (.frz b<|.dT T5) from I.hok d _ e);rw[c]at f;cases f;rw[m]at g;cases g;exact⟨c,xs,r,j⟩
end _2
namespace _3
open PySem _2 _S
section
variable {X:Cx}{B:Bd}
end
end _3
namespace _S
open PySem PySem.W PySem.Calls PyProof.Rows PyProof.V PySem.Spec _2
theorem pW:Sy (.type "list") "keys"=pure none:=by rw[Ps];rw[sx];kernel_rfl
abbrev Jm(h:g4)(a:eC)(Ua:Ur)(n:Nat):Prop:=h.get? a=cb { cls:=.type "list",dict:=ed,data:=.seq Ua n,slots:=#[] }
section
variable {prog:gg}{w:g5}{A:hB}{E:Um}{s:ee}
theorem mI{a:eC}{Ua:Ur}{n:Nat}{Q:Option cx->ee->Prop}(l:Jm s.heap a Ua n)(r:A.handled=ed)
  (h:∀h' j,(∀b o,s.heap.get? b=cb o->h'.get? b=cb o)->Q ed { s with heap:=h',toks:=j }):eT (ft prog w) A (S4 (.ref a) "keys") Q E s:=by
 obtain⟨p,g,d,j,q⟩:=s;have i:∀f,(⟨p,g,d,f,q⟩:ee).TypeIs (.ref a) "list":=λ_=>⟨_,l,rfl⟩;have m:=sub_AttributeError;have B:=OC.lookup;have y:=OC.bind (.ref a);have v:=am_list_getattr_none;unfold S4 getAttrBy? getAttrBy
 repeat (any_goals (first|assumption|exact i _|((with_reducible show eT _ _ (call (Value.builtin "list.__getattribute__") _ _) _ _ _);refine oo OC (i _) am_entry_list_getattribute (PySem.F.args_list_getattribute_2 _ _) (meets_getattribute_miss_list a Ua n #[] "keys" _ pW (by decide +kernel) (by decide +kernel)) ⟨l,r,λh' f e c=>?_⟩)|wp_step))
 obtain⟨x,u,z⟩:=c.there;show eT _ _ (SB _ _ _ _ _ _ _) _ _ _;unfold SB
 repeat (any_goals (first|assumption|wp_step))
 exact h _ _ c.keeps
end
theorem uD{prog:gg}{w:g5}{s:ee}{l:eC}{m:Nat}{ps:List (cx×cx)}{Ts:Uj}(L:Ts.length=ps.length)(v:Jm s.heap l (Ts.map MD).toArray m)(j:∀(i:Nat)(f:i<Ts.length)(h2:i<ps.length),ud s.heap Ts[i] ps[i].1 ps[i].2):
  ∀(A':hB)(s':ee)(Q:Um)(E:Um),(∀b o,s.heap.get? b=cb o->s'.heap.get? b=cb o)->s.heap.objs.size<s'.heap.objs.size->
   (∀h' M K St,(∀b o,s'.heap.get? b=cb o->h'.get? b=cb o)->PSrc prog w s.heap.objs.size M ps K St->St 0 h'->(∀b∈K,b∈[]\/s.heap.objs.size<b)->Q (.ref M) { s' with heap:=h' })->eT (ft prog w) A' (S9<|.ref l) Q E s':=by
 intro A' s' Q E H lt k;have ne:∀{b o},s.heap.get? b=cb o->b≠s.heap.objs.size/\b≠s'.heap.objs.size:=λe=>⟨MB (Mj e),MB<|Qb (Mj e) lt⟩;have P:∀(i:Nat)(f:i<Ts.length),Ts[i]≠s.heap.objs.size/\Ts[i]≠s'.heap.objs.size:=λi f=>let ⟨_,_,e,_⟩:=j i f (by lia);ne e
 have q:s'.heap.IsList l (Ts.map MD).toArray:=⟨_,H _ _ v,rfl,m,rfl⟩;have G:∀{h h':g4}(b:eC),(∀c o,c≠b->h.get? c=cb o->h'.get? c=cb o)->(∀{c o},s.heap.get? c=cb o->c≠b)->h.IsList l (Ts.map MD).toArray/\(∀(i:Nat)(f:i<Ts.length)(h2:i<ps.length),ud h Ts[i] ps[i].1 ps[i].2)->h'.IsList l (Ts.map MD).toArray/\∀(i:Nat)(f:i<Ts.length)(h2:i<ps.length),ud h' Ts[i] ps[i].1 ps[i].2:=λb k n ⟨⟨o,z,y⟩,p⟩=>
  ⟨⟨o,k _ _ (n v) z,y⟩,λi f h2=>let ⟨o,x,e,r⟩:=p i f h2;let ⟨_,_,e',_⟩:=j i f h2;⟨o,x,k _ _ (n e') e,r⟩⟩
 refine SE q (k _ s'.heap.objs.size [s'.heap.objs.size] (λi h=>h.IsListIter s'.heap.objs.size l i/\h.IsList l (Ts.map MD).toArray/\∀(i:Nat)(f:i<Ts.length)(h2:i<ps.length),ud h Ts[i] ps[i].1 ps[i].2) (λb o e=>Me _ e) ⟨by simp;exact MB lt,λi h h' g k=>⟨g.1.at λo e=>k _ o (NY lt) e,G _ k (λe=>(ne e).1) g.2⟩,?_,?_⟩ ⟨⟨_,Mt _ rfl,rfl,rfl⟩,?_,λi f h2=>?_⟩ λb F=>.inr (by simp at F;subst F;exact lt))
 .intro A i C O Q E J _ g B
  refine TD (x:=.ref Ts[i]) g.1 g.2.1 (by simp[L,C]) λh' u I=>?_
  obtain⟨a,b⟩:=G _ (λc o N e=>I.extBut c o N e) (λe=>(ne e).2) g.2;exact B h' Ts[i] ⟨u,a,b⟩ (b i (by lia) C) λc o n e=>I.extBut c o (by simpa using n) e
 .exact λA O Q E J g B=>TN J g.1 g.2.1 (by simp[L]) λh' k=>B h' λc o n e=>k c o (by simpa using n) e
 .obtain⟨o,z,y⟩:=q
  exact⟨o,Me _ z,y⟩
 .obtain⟨o,n,e,r⟩:=j i f h2
  exact⟨o,n,Me _ (H _ _ e),r⟩
end _S
namespace _2
open PySem PySem.Spec PyProof.Rows _S
inductive PrT(H:Hp):List V->List (List bh×V)->Prop
 |nil:PrT H [] []
 |cons {T b:eC} {k:List bh} {x:V} {vs:List V} {T5:List (List bh×V)} (hT:H T=cb (.tup [.ref b,x])) (hb:H b=cb (.tup<|k.map kV)) (r:PrT H vs T5):PrT H (.ref T::vs) ((k,x)::T5)
section
variable {X:Cx}{T0:Uo}{Z:St}{H:Hp}{s:ee}
theorem Inv.pair{T:eC}{y x:V}(I:Inv X T0 Z H s)(h:H T=cb (.tup [y,x])):∃k v,RelV y k/\RelV x v/\ud s.heap T k v:=by
 obtain⟨_,b,r,o,e,⟨c,n,d⟩,_⟩:=(show ObjOk X.prog X.w H s.heap T (.tup [y,x]) from I.hok T _ h);obtain⟨k,v,rfl,f,a⟩:=r.two;exact⟨k,v,f,a,o,n,e,c,d⟩
theorem Inv.prT(I:Inv X T0 Z H s):∀{vs:List V}{T5:List (List bh×V)},PrT H vs T5->∃(Ts:Uj)(rs:List (List bh×eC×cx)),vs=Ts.map V.ref/\KT H T5 rs/\Ts.length=rs.length/\∀(i:Nat)(a:i<Ts.length)(h2:i<rs.length),ud s.heap Ts[i] (.ref rs[i].2.1) rs[i].2.2
 |_,_,.nil=>⟨[],[],rfl,.nil,rfl,λi h=>absurd h (Oy _)⟩
 |_,_,.cons (T:=T) (b:=b) (k:=k) hT hb r=>by
  obtain⟨Ts,rs,rfl,q,e,g⟩:=I.prT r;obtain⟨j,v,f,c,p⟩:=I.pair hT;cases f;refine⟨T::Ts,(k,b,v)::rs,rfl,.cons ⟨rfl,hb,c⟩ q,by simp[e],λi a h2=>?_⟩
  cases i with
  |zero=>exact p
  |succ i=>exact g i (by simpa using a) (by simpa using h2)
theorem sh{xs:List (List bh×eC×cx)}{k:List bh}{b:eC}{u:cx}:(Os xs k b u).length<=xs.length+1:=by
 unfold Os
 split
 .rw[Md];lia
 .simp
theorem iG:∀(rs xs:List (List bh×eC×cx)),(rs.foldl (λa r=>Os a r.1 r.2.1 r.2.2) xs).length<=xs.length+rs.length
 |[],xs=>by simp
 |r::rs,xs=>by
  have:=iG rs (Os xs r.1 r.2.1 r.2.2);have:=sh (xs:=xs) (k:=r.1) (b:=r.2.1) (u:=r.2.2);rw[Nh,Mc];lia
theorem xT:∀{T5:List (List bh×V)}{rs:List (List bh×eC×cx)},KT H T5 rs->∀{a:List (List bh×V)}{xs:List (List bh×eC×cx)},KT H a xs->KT H (T5.foldl (λa p=>cJ a p.1 p.2) a) (rs.foldl (λa r=>Os a r.1 r.2.1 r.2.2) xs)
 |_,_,.nil,a,xs,h=>h
 |_,_,.cons (a:=p) (b:=q) h t,a,xs,h0=>by
  rw[Nh,Nh];refine xT t ?_;rw[<- h.1];exact h0.put p.1 h.2.1 h.2.2
theorem Inv.ls{l:eC}{vs:List V}(I:Inv X T0 Z H s)(e:Rd H l (.lst vs)):∃Ua n,Vals vs Ua/\Jm s.heap l Ua.toArray n:=by
 obtain⟨_,Ua,n,r,q⟩:=(show ObjOk X.prog X.w H s.heap l (.lst vs) from e.ok I.hok);exact⟨Ua,n,r,q⟩
theorem tZ(hc:X.calm=true)(hu:X.A.units+2<mv):bL X (.type "dict") (λxs H Q=>∃l vs T5,xs=[.ref l]/\Rd H l (.lst vs)/\PrT H vs T5/\T5.length<=1000000/\∀p,H p=ed->Q (.ref p) (upd H p<|.dT<|T5.foldl (λa p=>cJ a p.1 p.2) [])):=by
 intro T0 s Z H xs us Q I r h;obtain⟨l,vs,T5,rfl,hl,pr,hz,q⟩:=h;obtain⟨u,rfl,ru⟩:=r.one;cases ru;obtain⟨Ts,j,rfl,kt,O,hpr⟩:=I.prT pr;obtain⟨F,n,rv,E⟩:=I.ls hl;obtain rfl:F=Ts.map MD:=iO (f:=λa=>a) rv;have hrl:j.length<=1000000:=by rw[<- NT kt];exact hz
 have v:∀x∈j,(re<|aP X.prog X.w).is s.heap x.1 x.2.1:=by
  have all:∀{a:List (List bh×V)}{m:List (List bh×eC×cx)},KT H a m->∀x∈m,(re<|aP X.prog X.w).is s.heap x.1 x.2.1:=by
   intro a m q
   induction q with
   |nil=>intro x hx;exact nomatch hx
   |@cons p q ps qs hq t ih=>
    intro x hx;rcases Mm.mp hx with e|hx
    .subst e;exact iT I.hok (by rw[<- hq.1];exact hq.2.1)
    .exact ih x hx
  exact all kt
 have g:∀{h C:g4}{k:List bh}{a:eC},(re<|aP X.prog X.w).is h k a->(∀o,h.get? a=cb o->C.get? a=cb o)->(re<|aP X.prog X.w).is C k a:=λ{h C k a} z B=>by
  obtain⟨o,F,n,e,r⟩:=z;exact⟨o,F,n,B o e,r⟩
 have klt:∀x∈j,x.2.1<s.heap.objs.size:=λx hx=>by
  obtain⟨o,_,_,e,_⟩:=v x hx;exact Mj e
 refine mR (T:="list") (fq:=[]) (ps:=j.map λr=>(MD r.2.1,r.2.2)) (I.ok.hd hc) (λi h=>h.DictOfH (re<|aP X.prog X.w) s.heap.objs.size ((j.take i).foldl (λa r=>Os a r.1 r.2.1 r.2.2) [])/\∀x∈j,(re<|aP X.prog X.w).is h x.1 x.2.1) ⟨_,E,rfl⟩ (by decide) (λA' R Q' E' hh up k=>mI (up _ _ E) hh k) (uD (by simp[O]) E λi h1 h2=>?_) (λi h ⟨⟨o,U,S,e,_⟩,_⟩=>⟨o,e⟩) ?_ ?_ ?_ ?_
 .have Y:i<j.length:=by simpa using h2
  simp only[Oo];exact hpr i h1 Y
 .intro C B hd
  exact⟨⟨_,#[],0,hd,⟨rfl,rfl,rfl⟩,rfl,rfl,λ_ hx=>by simp at hx,PF⟩,λx hx=>g (v x hx) λo e=>B _ o e⟩
 .rintro i h C ⟨⟨o,U,S,e1,e2,e3,e4,e5,e6⟩,B⟩ J
  have hk2:∀x∈j,(re<|aP X.prog X.w).is C x.1 x.2.1:=λx hx=>g (B x hx) λo e=>J _ o (by simp) (NZ<|klt x hx) e
  refine⟨⟨o,U,S,J _ o (by simp) (Mn _) e1,e2,e3,e4,λx hx=>g (e5 x hx) λo e=>J _ o (by simp) ?_ e,e6⟩,hk2⟩
  have sub:∀(K L:List (List bh×eC×cx))(x:List bh×eC×cx),x∈K.foldl (λa r=>Os a r.1 r.2.1 r.2.2) L->(∃y∈K,y.2.1=x.2.1)\/∃y∈L,y.2.1=x.2.1:=by
   intro K
   induction K with
   |nil=>intro L x hx;exact .inr ⟨x,hx,rfl⟩
   |cons y K ih=>
    intro L x hx;rcases ih _ x hx with⟨z,hz,e⟩|⟨z,hz,e⟩
    .exact .inl ⟨z,Mz _ hz,e⟩
    .replace hz:z∈Os L y.1 y.2.1 y.2.2:=hz
     unfold Os at hz
     split at hz
     .obtain⟨z',hz',rfl⟩:=MS.mp hz
      refine .inr ⟨z',hz',?_⟩;rw[<- e];unfold putAt;split<;>rfl
     .rcases Ms.mp hz with hz|hz
      .exact .inr ⟨z,hz,e⟩
      .rw[MH]at hz;subst hz;exact .inl ⟨y,by simp,e⟩
  rcases sub _ _ x hx with⟨y,hy,e⟩|⟨y,hy,_⟩
  .rw[<- e];exact NZ (klt y<|List.mem_of_mem_take hy)
  .cases hy
 .rintro i hi R Q' E' ⟨hd,B⟩ hQ
  have M:i<j.length:=by simpa using hi
  simp only[Oo];have G:((j.take i).foldl (λa r=>Os a r.1 r.2.1 r.2.2) ([]:List (List bh×eC×cx))).length<=sizeLine:=by
   have:=iG (j.take i) [];have h2:(1000000:Nat)<=sizeLine:=by decide
   simp only[Mv,OF]at this;lia
  refine wpAny_dictSet_heap (knd:=re (aP X.prog X.w)) (show X.A.units+1+1<mv from hu) (B j[i] (OG M)) hd (λC W sb=>hQ C _ ⟨?_,λx hx=>?_⟩ sb) G
  .rw[P6 M,List.foldl_append]
   exact W
  .exact g (B x hx) λo e=>sb.extBut _ o (MB<|klt x hx) e
 .rintro R o1 o2 o3 ⟨hd,_⟩ hk0
  have B:∀c o,s.heap.get? c=cb o->R.heap.get? c=cb o:=λc o=>hk0 c o (by simp)
  simp only[Md,List.take_length]at hd;have P:=I.big;have hn:H s.heap.objs.size=none:=I.hok.fresh (Mn _);obtain⟨hh',g',d',t',os'⟩:=R;obtain rfl:os'=s.os:=o1;obtain rfl:g'=s.gens:=o2;obtain rfl:d'=s.drawn:=o3;have N:=xT kt (H:=H) (a:=[]) (xs:=[]) .nil;obtain⟨o,U,S,e1,e2,e3,e4,e5,e6⟩:=hd;refine⟨.ref s.heap.objs.size,_,I.laid (a:=s.heap.objs.size) (o:=.dT (T5.foldl (λa p=>cJ a p.1 p.2) [])) (t':=t') B (Mn _) ⟨?_,beq_eq_false_iff_ne.mpr (NY P),_,N.keeps λb K e=>by rw[aE (aS e hn)];exact e,o,U,S,e1,e2,e3,e4,e6⟩,rfl,q _ hn⟩
  rw[NT N];have:=iG j [];have h2:(1000000:Nat)<=sizeLine:=by decide
  simp only[Mv]at this;lia
end
end _2
namespace _3
open PySem _2 _S
section
variable {X:Cx}{B:Bd}{K:Mp}{H:Hp}
noncomputable def y4:List D->Option (List (List bh×D))
 |[]=>cb []
 |.tup [k,v]::ds=>match B1 k,y4 ds with
  |some ks,cb r=>cb ((ks,v)::r)
  |_,_=>ed
 |_=>ed
theorem zS:∀{ds:List D}{vs:List V}{T5:List (List bh×D)},Rps K H ds vs->y4 ds=cb T5->∃f,PrT H vs f/\Rkv K H T5 f
 |[],vs,T5,r,e=>by cases e;cases r;exact⟨[],.nil,.nil⟩
 |d::ds,vs,T5,r,e=>by
  obtain⟨v,F,rfl,a,b⟩:=r;unfold y4 at e
  split at e
  .rename_i h;cases h
  .rename_i k x y h
   cases h
   split at e
   .rename_i w q A s
    cases e;obtain⟨f,p,z⟩:=zS b s;obtain⟨T,E,rfl,n,o⟩:=a;obtain⟨C,l,rfl,i,c⟩:=o;obtain⟨u,j,rfl,c,g⟩:=c;cases g;obtain⟨G,rfl,m⟩:=kO i A;exact⟨(w,u)::f,.cons n m p,.cons ⟨rfl,c⟩ z⟩
   .cases e
  .cases e
theorem qX{c:Type}[DecidableEq c]:∀{a:List (c×D)}{b:List (c×V)},Rkv K H a b->∀{a0:List (c×D)}{b0:List (c×V)},Rkv K H a0 b0->Rkv K H (a.foldl (λx p=>fb x p.1 p.2) a0) (b.foldl (λx p=>cJ x p.1 p.2) b0)
 |_,_,.nil,a0,b0,h=>h
 |_,_,.cons (a:=p) (b:=q) h t,a0,b0,h0=>by
  rw[Nh,Nh];refine qX t ?_;rw[<- h.1];exact h0.put p.1 h.2
theorem C_{M:Mem}{d:D}{v:V}{xs:List D}(g:RepH K H M)(r:Rp K H d v)(e:cX M d=cb xs)(f:∀ys,d≠.ml ys):∃l vs,v=.ref l/\Rd H l (.lst vs)/\Rps K H xs vs:=by
 cases d with
 |lst ys=>
  cases e;obtain⟨p,vs,rfl,⟨o,h⟩,r⟩:=r;exact⟨p,vs,rfl,.inr ⟨o,h⟩,r⟩
 |ml ys=>exact absurd rfl (f ys)
 |ref a=>
  simp only[cX]at e
  split at e
  .rename_i ys q
   cases e;cases r;obtain⟨vs,b,c⟩:=g _ _ q;exact⟨a,vs,rfl,.inl b,c⟩
  .cases e
 |_=>cases e
def G9:D->Bool
 |.ml _=>eH
 |_=>true
theorem CU{d:D}(h:G9 d=true):∀ys,d≠.ml ys:=λys e=>by subst e;cases h
def pG:sG:=λb M Q=>match b with
 |[d]=>G9 d=true/\match cX M d with
  |some xs=>match y4 xs with
   |some T5=>T5.length<=1000000/\∀p,M p=ed->Q (.ref p) (M.upd p<|.dT<|T5.foldl (λa p=>fb a p.1 p.2) [])
   |none=>False
  |none=>False
 |_=>False
theorem sW(hc:X.calm=true)(hu:X.A.units+64<mv):bL X (.type "dict") (liftC X pG):=by
 intro T0 s Z H xs us Q I r h;obtain⟨ds,M,QQ,rh,rp,h,up⟩:=h;unfold pG at h
 split at h
 .obtain⟨v,rfl,rv⟩:=fH (ds:=[]) rp
  obtain⟨hm,h⟩:=h
  split at h
  .rename_i ys e
   split at h
   .rename_i T5 e2
    obtain⟨l,vs,rfl,hq,rr⟩:=C_ rh rv e (CU hm);obtain⟨ws,h1,h2⟩:=zS rr e2;refine tZ hc (by lia) T0 s Z H _ us Q I r ⟨l,vs,ws,rfl,hq,h1,by rw[<- h2.length];exact h.1,λp hp=>?_⟩
    exact up _ _ (h.2 p<|rh.fresh hp) _ _ (rh.put (by rw[hp];trivial) ⟨_,upd_same,(qX h2 .nil).mono<|Imm.new hp⟩) (Frm.put<|.inl hp) rfl
   .exact h.elim
  .exact h.elim
 .exact h.elim
end
end _3
namespace _S
open PySem PySem.W PySem.Calls PyProof.Rows PyProof.V PySem.Spec _2
theorem Cr{prog:gg}{w:g5}{A:hB}{E:Um}{s:ee}{d:eC}{o:Obj}{es:Array Re}{i:Nat}{Q:Um}(g:(d==o4)=eH)(e:s.heap.get? d=cb o)(f:o.ExactDict)(a:o.data=.dict es i)(c:(es.size:Int)<2 ^ 63)
  (h:Q (.int es.size (s.toks+1)) { s with toks:=s.toks+1+1 }):eT (ft prog w) A (call (.builtin "len") [.ref d]) Q E s:=by
 have b:s.TypeIs (.ref d) "dict":=⟨o,e,f.1⟩;refine QE kind_len plain_len entry_len (args_len1 _) ?_;unfold Builtin.«len»;refine cT (m:=oneArg "len" _) (eP<|wpAny_bind (m:=callSpecial? (.ref d) (Mq "__len__"))<|wpAny_callSpecial?_slot (name:=Mq "__len__") b QO<|wpAny_call_entry QO b PySem.F.entry_dict_len ?_<|PySem.F.args_dict_len_1 _);show eT _ _ (dictSize d >>= _) _ _ s;unfold dictSize;refine cT (cT<|wpAny_dictEntries e a<|wpAny_pure ?_);show eT _ _ (Builtin.Dict.pendingCount d >>= _) _ _ s;refine cT (wpAny_pendingCount_other g<|wpAny_ret_mkInt ?_);rw[Int.natCast_zero,Int.add_zero];show eT _ _ _ _ _ { s with toks:=s.toks+1 };refine cT (k6<|wpAny_pure ?_);refine cT (TR ?_);show eT _ _ (if ((es.size:Nat):Int)<0 then _ else _) _ _ _
 rw[if_neg (by lia)]
 show eT _ _ (if ((es.size:Nat):Int)>=2 ^ 63 then _ else _) _ _ _
 rw[if_neg (by lia)]
 exact cT (wpAny_mkInt<|wpAny_pure ⟨_,rfl,h⟩)
end _S
namespace _3
open PySem _2 _S
section
variable {X:Cx}{B:Bd}
def vV:sG:=λb M Q=>match b with
 |[.ref a]=>match M a with
  |some (.dT T5)=>Q (.int T5.length) M
  |_=>False
 |_=>False
theorem uY:bL X (.builtin "len") (liftC X vV):=by
 intro f s Z H x N Q I r h;obtain⟨ds,M,QQ,i,q,h,n⟩:=h;unfold vV at h
 split at h
 .rename_i a
  obtain⟨v,rfl,J⟩:=fH (ds:=[]) q;cases J
  split at h
  .rename_i b e
   obtain⟨u,rfl,p⟩:=r.one;cases p;obtain⟨G,F,g⟩:=i _ _ e;obtain⟨z,y,x,A,o,E,L,m,l,C,j,K⟩:=(show ObjOk X.prog X.w H s.heap a (.dT G) from I.hok a _ F);have c:E.size=b.length:=by rw[<- MP,j,Md,<- NT A,<- g.length]
   refine Cr y m l C ?_ ?_
   .rw[c,g.length];rw[oD]at z;lia
   .rw[c]
    exact⟨.int b.length,H,I.tok _,⟨_,rfl⟩,n _ M h _ H i Frm.refl rfl⟩
  .exact h.elim
 .exact h.elim
end
end _3
namespace _3
open PySem PySem.W PySem.Calls PyProof.Rows PyProof.V PySem.Spec _2
section
variable {X:Cx}{B:Bd}{T0:Uo}{Z:_2.St}{H:Hp}{s:ee}{M:Mem}
end
end _3
namespace _3
open PySem _2 _S
section
variable {X:Cx}{B:Bd}
end
end _3
namespace _2
open PySem PySem.Spec PyProof.Rows
section
variable {X:Cx}{e:g1}{te:TE}{st:g1}{ts:TO}{p2 pos:Pos}
end
end _2
namespace _3
open PySem _2
section
variable {X:Cx}{B:Bd}{K:Mp}{H:Hp}{M:Mem}{e:g1}{te:bj}{st:g1}{ts:Fu}{pos p2:Pos}
end
section
variable {X:Cx}{B:Bd}{K:Mp}{H:Hp}
noncomputable def cN:List D->List D->List D->List D
 |x::xs,y::ys,u::us=>.tup [x,y,u]::cN xs ys us
 |_,_,_=>[]
theorem nI:∀{xs ys us:List D}{i:Nat}{d:D},(cN xs ys us)[i]?=cb d->∃x y u,xs[i]?=cb x/\ys[i]?=cb y/\us[i]?=cb u/\d=.tup [x,y,u]
 |x::xs,y::ys,u::us,0,d,h=>by simp only[cN,dt,Pz]at h;exact⟨x,y,u,rfl,rfl,rfl,h.symm⟩
 |x::xs,y::ys,u::us,i+1,d,h=>by simp only[cN,Mb]at h ⊢;exact nI h
 |[],_,_,_,_,h=>by simp[cN]at h
 |_::_,[],_,_,_,h=>by simp[cN]at h
 |_::_,_::_,[],_,_,h=>by simp[cN]at h
theorem nG:∀{xs ys us:List D}{i:Nat},(cN xs ys us).length<=i->xs.length<=i\/ys.length<=i\/us.length<=i
 |x::xs,y::ys,u::us,0,h=>by simp[cN]at h
 |x::xs,y::ys,u::us,i+1,h=>by
  have:=nG (xs:=xs) (ys:=ys) (us:=us) (i:=i) (by simpa [cN] using h)
  simpa using this
 |[],_,_,_,_=>.inl (by simp)
 |_::_,[],_,_,_=>.inr (.inl<|by simp)
 |_::_,_::_,[],_,_=>.inr (.inr<|by simp)
def rK(t:eN):yC:=λU M R=>t U M λa M1=>match a with
 |[d,e,f]=>match aC M1 d,aC M1 e,aC M1 f with
  |some xs,cb ys,cb us=>R ⟨cN xs ys us,bu d xs++(bu e ys++bu f us)⟩ M1
  |_,_,_=>False
 |_=>False
theorem DC{a b c:g1}{g:Uk}{I:Nat}{E:Pos}{o:eN}{p pos:Pos}(J:Gl X "zip")(G:X.mg "zip"=ed)(L:DA X B [a,b,c] o)
  (F:fe [a,b,c] X.env=[(eH,g3 a X.env),(eH,g3 b X.env),(eH,g3 c X.env)]:=by rfl) (hs2:fe [b,c] X.env=[(eH,g3 b X.env),(eH,g3 c X.env)]:=by rfl):
  DI X B (.Tuple g I E) (.Call (.Name "zip" p) [a,b,c] [] pos) (rK o):=by
 refine wo (λM M1 R h=>?_) J G L (by rw[F,hs2]) (by rw[hs2];rfl)
 split at h
 .split at h
  .rename_i d e f _ l n m w C v
   refine⟨[l,n,m],cN l n m,.inr rfl,.cons w (.cons C<|.cons v .nil),⟨λi z r=>?_,λi j=>?_⟩,by simpa [uL] using h⟩
   .obtain⟨x,y,u,A,q,s,rfl⟩:=nI r
    exact⟨_,rfl,by simp[A,q,s]⟩
   .have:=nG j
    simpa using this
  .exact h.elim
 .exact h.elim
end
end _3
namespace _S
open PySem PySem.W PyProof.Rows
variable{q:Array Nat}{h:g4}{ks:Uf}{vs:Ui}{i j m:Nat}{Q:Nat×Array Nat->ee->Prop}{s:ee}
noncomputable def Kp(ky:Nat->Nat)(p:Array Nat)(i:Nat):Nat:=ky (p.getD i 0)
def Pm(n:Nat)(p:Array Nat):Prop:=p.toList.Perm (Ol n)
def SU(ky:Nat->Nat)(p:Array Nat)(k:Nat):Prop:=∀i j,i<=j->j<k->Kp ky p i<=Kp ky p j
def SD(ky:Nat->Nat)(p:Array Nat)(k:Nat):Prop:=∀i j,i<=j->j<k->Kp ky p j<=Kp ky p i
def nv(n:Nat)(ky:Nat->Nat)(cmp:Nat->Nat->(Bool->ee->Prop)->ee->Prop)(s:ee):Prop:=∀i j,i<n->j<n->∀C:Bool->ee->Prop,C (decide (ky i<ky j)) s->cmp i j C s
section
variable{n:Nat}{ky:Nat->Nat}{cmp:Nat->Nat->(Bool->ee->Prop)->ee->Prop}{p:Array Nat}
theorem Pm.size(h:Pm n p):p.size=n:=by
 have:=List.Perm.length_eq h;simpa using this
theorem Pm.lt(h:Pm n p)(b:i<n):p.getD i 0<n:=by
 have a:i<p.size:=by rw[Pm.size h];exact b
 have e:p.getD i 0=p[i]:=by simp[a]
 rw[e];have:p[i]∈p.toList:=by simp
 exact OV.mp (Q6 h |>.mp this)
theorem Pm.of(h:Pm n p)(e:q.Perm p):Pm n q:=(Array.perm_iff_toList_perm.mp e).trans h
theorem uH(h:q[i]?=p[j]?):q.getD i 0=p.getD j 0:=by
 rw[Qs,Qs,h]
theorem fK(h:q[i]?=p[j]?):Kp ky q i=Kp ky p j:=congrArg ky (uH h)
theorem lr(a:j<=p.size)(k:Nat):Kp ky (TK p i j) k=if i<=k/\k<j then Kp ky p (i+j-1-k) else Kp ky p k:=by
 have e:=getElem?_mirror_all (i:=i) a k
 by_cases h:i<=k/\k<j
 .rw[if_pos h]at e ⊢
  exact fK e
 .rw[if_neg h]at e ⊢
  exact fK e
theorem Bn{src d:Nat}(b:src<p.size)(c:d<=src)(k:Nat):Kp ky (bubble p src d) k=if k=src-d then Kp ky p src else if src-d<k/\k<=src then Kp ky p (k-1) else Kp ky p k:=by
 have e:=getElem?_bubble b d c k
 by_cases h:k=src-d
 .rw[if_pos h]at e ⊢
  exact fK e
 .rw[if_neg h]at e ⊢
  by_cases a:src-d<k/\k<=src
  .rw[if_pos a]at e ⊢
   exact fK e
  .rw[if_neg a]at e ⊢
   exact fK e
theorem AO{p:Array Nat}:∀k,m+1-(0+1)<=k->k<m+1->Kp ky p k=Kp ky p (m+1-1):=λk a b=>by
 have e:k=m:=by lia
 subst e;rfl
theorem SU1:SU ky p 1:=λi j a b=>by
 have e:i=j:=by lia
 rw[e];exact Mn _
theorem Pm.rev(h:Pm n p):Pm n (TK p i j):=h.of (mirror_perm ..)
theorem mK{a:Type}{k:Bool->KasT a}{Q:a->ee->Prop}(e:nv n ky cmp s)(b:i<n)(g:j<n)(f:ky i<ky j->(k true).kasWp cmp Q s)(h2:¬ky i<ky j->(k eH).kasWp cmp Q s):(KasT.ask i j k).kasWp cmp Q s:=by
 refine e i j b g _ ?_
 by_cases c:ky i<ky j
 .rw[decide_eq_true c];exact f c
 .rw[decide_eq_false c];exact h2 c
theorem u_(l:nv n ky cmp s)(g:Pm n p):∀(f a:Nat)(Q:Nat->ee->Prop),1<=a->a+f<=n->SU ky p a->(∀m,a<=m->m<=a+f->SU ky p m->(m<a+f->Kp ky p m<Kp ky p (m-1))->Q m s)->(kas_asc p f a).kasWp cmp Q s
 |0,a,Q,h1,h2,hs,h=>h a (Mn _) (by lia) hs λq=>by lia
 |f+1,a,Q,h1,h2,hs,h=>by
  unfold kas_asc;refine mK l (g.lt<|by lia) (g.lt<|by lia) (λc=>?_) λc=>?_
  .exact h a (Mn _) (by lia) hs λ_=>c
  .refine u_ l g f (a+1) Q (by lia) (by lia) (λi j b x=>?_) λm y w u o=>h m (by lia) (by lia) u λq=>o (by lia)
   have r:Kp ky p (a-1)<=Kp ky p a:=Ou c
   by_cases e:j=a
   .subst e
    by_cases v:i=j
    .rw[v];exact Mn _
    .exact ME (hs i (j-1) (by lia)<|by lia) r
   .exact hs i j b (by lia)
theorem jr(v:nv n ky cmp s):∀(f:Nat)(p:Array Nat)(m q:Nat)(Q:Array Nat×Nat×Nat->ee->Prop),Pm n p->1<=m->m+f<=n->SD ky p m->q+1<=m->(∀k,m-(q+1)<=k->k<m->Kp ky p k=Kp ky p (m-1))->
  (∀a b g,Pm n a->m<=b->b<=m+f->SD ky a b->g+1<=b->(∀k,b-(g+1)<=k->k<b->Kp ky a k=Kp ky a (b-1))->Q (a,b,g) s)->(kas_desc f p m q).kasWp cmp Q s
 |0,p,m,q,Q,hp,h1,h2,hs,hq,he,h=>h p m q hp (Mn _) (by lia) hs hq he
 |f+1,p,m,q,Q,hp,h1,h2,hs,hq,he,h=>by
  unfold kas_desc;have one:∀a,(∀k,Kp ky a k=Kp ky p k)->Kp ky p m<=Kp ky p (m-1)->SD ky a (m+1):=λa w c i j x H=>by
   rw[w,w]
   by_cases e:j=m
   .subst e
    by_cases F:i=j
    .rw[F];exact Mn _
    .exact ME c (hs i (j-1) (by lia)<|by lia)
   .exact hs i j x (by lia)
  refine mK v (hp.lt<|by lia) (hp.lt<|by lia) (λc=>?_) λc=>?_
  .have y:Kp ky p m<=Kp ky p (m-1):=NZ c
   show (if q>0 then _ else _:KasT _).kasWp cmp Q s
   split
   .have w:∀k,Kp ky (TK p (m-(q+1)) m) k=Kp ky p k:=λk=>by
     rw[lr (by rw[hp.size];lia)]
     split
     .rename_i z
      rw[he _ (by lia) (by lia),he k z.1 z.2]
     .rfl
    exact jr v f _ (m+1) 0 Q hp.rev (by lia) (by lia) (one _ w y) (by lia) AO λa b g l B A u o r=>h a b g l (by lia) (by lia) u o r
   .exact jr v f p (m+1) 0 Q hp (by lia) (by lia) (one _ (λ_=>rfl) y) (by lia) AO λa b g l B A u o r=>h a b g l (by lia) (by lia) u o r
  .show (KasT.ask _ _ _).kasWp cmp Q s
   refine mK v (hp.lt<|by lia) (hp.lt<|by lia) (λC=>?_) λC=>?_
   .exact h p m q hp (Mn _) (by lia) hs hq he
   .have E:Kp ky p m=Kp ky p (m-1):=Nat.le_antisymm (Ou C) (Ou c)
    refine jr v f p (m+1) (q+1) Q hp (by lia) (by lia) (one _ (λ_=>rfl)<|Qc E) (by lia) (λk G I=>?_) λa b g l B A u o r=>h a b g l (by lia) (by lia) u o r
    show Kp ky p k=Kp ky p m
    by_cases e:k=m
    .rw[e]
    .rw[he k (by lia) (by lia),E]
theorem kQ{c b:Type}{t:KasT c}{f:c->KasT b}{Q:b->ee->Prop}(h:t.kasWp cmp (λa s'=>(f a).kasWp cmp Q s') s):(t.bind f).kasWp cmp Q s:=by
 rw[KasT.kasWp_bind];exact h
theorem rR(l:nv n ky cmp s)(b:Pm n p)(o:1<=m)(h2:m<=n)(g:SD ky p m)(h:∀a c,Pm n c->1<=a->a<=n->SU ky c a->Q (a,c) s):(kas_tail3 m n p).kasWp cmp Q s:=by
 unfold kas_tail3;refine kQ (u_ l b.rev (n-m) m _ o (by lia) (λi j e v=>?_) λa r u f _=>h a _ b.rev (by lia) (by lia) f)
 rw[lr (by rw[b.size];lia),lr (by rw[b.size];lia),if_pos (by lia),if_pos (by lia)]
 exact g _ _ (by lia) (by lia)
theorem j6(f:nv n ky cmp s)(w:Pm n p)(B:1<=m)(h2:m+1<=n)(v:SD ky p (m+1))(h:∀a b,Pm n b->1<=a->a<=n->SU ky b a->Q (a,b) s):(kas_descPart m n p).kasWp cmp Q s:=by
 unfold kas_descPart;refine kQ (jr f (n-(m+1)) p (m+1) 0 _ w (by lia) (by lia) v (by lia) AO λb a r e y x l A g=>?_)
 dsimp only
 split
 .refine rR f e.rev (by lia) (by lia) (λi j c u=>?_) h
  have o:∀k,Kp ky (TK b (a-(r+1)) a) k=Kp ky b k:=λk=>by
   rw[lr (by rw[e.size];lia)]
   split
   .rename_i z
    rw[g _ (by lia) (by lia),g k z.1 z.2]
   .rfl
  rw[o,o];exact l i j c u
 .exact rR f e (by lia) (by lia) l h
theorem zT(o:nv n ky cmp s)(a:Pm n p)(I:1<=n)(h:∀r w,Pm n w->1<=r->r<=n->SU ky w r->Q (r,w) s):(kas_count n p).kasWp cmp Q s:=by
 unfold kas_count;refine kQ (u_ o a (n-1) 1 _ (by lia) (by lia) SU1 λm b G l B=>?_)
 by_cases e:m=n
 .subst e
  rw[if_pos (by simp)]
  exact h m p a b (by lia) l
 .rw[if_neg (by simpa using e)]
  have lt:=B (by lia)
  by_cases g:m>1
  .rw[if_pos g]
   refine mK o (a.lt<|by lia) (a.lt<|by lia) (λc=>?_) λc=>?_
   .exact h m p a b (by lia) l
   .have eq:∀k,k<m->Kp ky p k=Kp ky p (m-1):=λk f=>by
     have H:=l k (m-1) (by lia) (by lia)
     have F:=l 0 k (by lia) f
     have E:Kp ky p (m-1)<=Kp ky p 0:=Ou c;lia
    have f:∀k,Kp ky (TK p 0 m) k=Kp ky p k:=λk=>by
     rw[lr (by rw[a.size];lia)]
     split
     .rename_i z
      rw[eq _ (by lia),eq k z.2]
     .rfl
    refine j6 o a.rev b (by lia) (λi j v C=>?_) h
    rw[f,f]
    by_cases x:j=m
    .subst x
     by_cases A:i=j
     .rw[A];exact Mn _
     .rw[eq i (by lia)];lia
    .rw[eq i (by lia),eq j (by lia)];exact Mn _
  .rw[if_neg g]
   have:m=1:=by lia
   subst this;refine j6 o a b (by lia) (λi j v C=>?_) h
   have:Kp ky p 1<Kp ky p 0:=lt;have y:i=0\/i=1:=by lia
   have u:j=0\/j=1:=by lia
   rcases y with rfl|rfl<;>rcases u with rfl|rfl<;>lia
theorem lD(v:nv n ky cmp s)(u:Pm n p){k:Nat}(w:k<n)(e:SU ky p k):∀(f l r:Nat)(Q:Nat->ee->Prop),l<=r->r<=k->r-l<=f->(∀i,i<l->Kp ky p i<=Kp ky p k)->(∀i,r<=i->i<k->Kp ky p k<Kp ky p i)->
  (∀o,o<=k->(∀i,i<o->Kp ky p i<=Kp ky p k)->(∀i,o<=i->i<k->Kp ky p k<Kp ky p i)->Q o s)->(kas_place p k f l r).kasWp cmp Q s
 |0,l,r,Q,h1,h2,h3,a,b,h=>h l (by lia) a λi i1 i2=>b i (by lia) i2
 |f+1,l,r,Q,h1,h2,h3,a,b,h=>by
  unfold kas_place
  by_cases c:l>=r
  .rw[if_pos c]
   exact h l (by lia) a λi i1 i2=>b i (by lia) i2
  .rw[if_neg c]
   refine mK v (u.lt w) (u.lt<|by lia) (λg=>?_) λg=>?_
   .exact lD v u w e f l ((l+r) / 2) Q (by lia) (by lia) (by lia) a (λi i1 i2=>MF g (e _ i i1 i2)) h
   .have x:Kp ky p ((l+r) / 2)<=Kp ky p k:=Ou g
    exact lD v u w e f ((l+r) / 2+1) r Q (by lia) (by lia) (by lia) (λi i1=>ME (e i ((l+r) / 2) (by lia)<|by lia) x) b h
theorem AF(u:nv n ky cmp s):∀(f:Nat)(p:Array Nat)(k:Nat)(Q:Array Nat->ee->Prop),Pm n p->1<=k->k+f=n->SU ky p k->(∀o,Pm n o->SU ky o n->Q o s)->(kas_bin f p k).kasWp cmp Q s
 |0,p,k,Q,hp,h1,h2,hs,h=>h p hp (by rw[<- h2];exact hs)
 |f+1,p,k,Q,hp,h1,h2,hs,h=>by
  unfold kas_bin;refine kQ (lD u hp (by lia) hs k 0 k _ (by lia) (Mn _) (by lia) (λi v=>by lia) (λi i1 i2=>by lia) λl w a b=>?_)
  refine AF u f _ (k+1) Q (hp.of<|bubble_perm ..) (by lia) (by lia) (λi j g x=>?_) h
  have sz:k<p.size:=by rw[hp.size];lia
  have e:k-(k-l)=l:=by lia
  rw[Bn sz (by lia),Bn sz (by lia),e]
  by_cases i1:i=l
  .rw[if_pos i1]
   by_cases c:j=l
   .rw[if_pos c];exact Mn _
   .rw[if_neg c,if_pos (by lia)]
    exact NZ (b (j-1) (by lia)<|by lia)
  .rw[if_neg i1]
   by_cases i2:l<i/\i<=k
   .rw[if_pos i2,if_neg (by lia),if_pos (by lia)]
    exact hs (i-1) (j-1) (by lia) (by lia)
   .rw[if_neg i2]
    by_cases c:j=l
    .rw[if_pos c];exact a i (by lia)
    .rw[if_neg c]
     by_cases r:l<j/\j<=k
     .rw[if_pos r];exact hs i (j-1) (by lia) (by lia)
     .rw[if_neg r];exact hs i j g (by lia)
theorem qV:Pm n (N9<|Ol n):=by unfold Pm;simp
theorem D7(e:nv n ky cmp s)(f:1<=n){Q:Array Nat->ee->Prop}(h:∀p,Pm n p->SU ky p n->Q p s):(kas_sort n).kasWp cmp Q s:=by
 unfold kas_sort;refine kQ (zT e qV f λm p b c g a=>?_);dsimp only
 split
 .rw[Nat.max_eq_left c]
  exact AF e (n-m) p m Q b c (by lia) a h
 .have:m=n:=by lia
  subst this;exact h p b a
end
noncomputable def gA:List Int->List Int->Bool
 |[],[]=>eH
 |[],_::_=>true
 |_::_,[]=>eH
 |x::xs,y::ys=>if x=y then gA xs ys else decide (x<y)
theorem xr:∀x:List Int,gA x x=eH
 |[]=>rfl
 |x::xs=>by simp[gA,xr xs]
theorem sU:∀x y:List Int,gA x y=eH->gA y x=eH->x=y
 |[],[],_,_=>rfl
 |[],_::_,h,_=>by simp[gA]at h
 |_::_,[],_,h=>by simp[gA]at h
 |x::xs,y::ys,h1,h2=>by
  unfold gA at h1 h2
  by_cases c:x=y
  .subst c
   rw[if_pos rfl]at h1 h2;rw[sU xs ys h1 h2]
  .rw[if_neg c]at h1
   rw[if_neg (λe=>c e.symm)]at h2;simp at h1 h2;lia
theorem qJ:∀x y z:List Int,gA y x=eH->gA z y=eH->gA z x=eH
 |[],[],[],_,_=>rfl
 |[],[],_::_,_,h=>rfl
 |[],_::_,[],_,h=>by simp[gA]at h
 |[],_::_,_::_,_,_=>rfl
 |_::_,[],_,h,_=>by simp[gA]at h
 |_::_,_::_,[],_,h=>by simp[gA]at h
 |x::xs,y::ys,z::zs,h1,h2=>by
  unfold gA at h1 h2 ⊢
  by_cases c:y=x
  .rw[if_pos c]at h1
   subst c
   by_cases d:z=y
   .rw[if_pos d]at h2 ⊢;exact qJ xs ys zs h1 h2
   .rw[if_neg d]at h2 ⊢;exact h2
  .rw[if_neg c]at h1
   by_cases d:z=y
   .subst d;rw[if_neg c];exact h1
   .rw[if_neg d]at h2
    simp at h1 h2;rw[if_neg (by lia)]
    simp;lia
theorem my:∀x y:List Int,gA x y=true->gA y x=eH
 |[],[],h=>by simp[gA]at h
 |[],_::_,_=>rfl
 |_::_,[],h=>by simp[gA]at h
 |x::xs,y::ys,h=>by
  unfold gA at h ⊢
  by_cases c:x=y
  .subst c
   rw[if_pos rfl]at h ⊢;exact my xs ys h
  .rw[if_neg c]at h
   rw[if_neg (λe=>c e.symm)];simp at h ⊢;lia
noncomputable def fc:Ord (List Int):=⟨gA,sU,qJ,my⟩
theorem wZ{b:Type}{p q:b->Bool}:∀{l:List b},(∀x∈l,p x=true->q x=true)->(∃y∈l,q y=true/\p y=eH)->l.countP p<l.countP q
 |[],_,⟨_,h,_⟩=>by cases h
 |x::l,h,⟨y,hy,hq,hp⟩=>by
  have mono:l.countP p<=l.countP q:=Ri λz a=>h z (Mz _ a);rw[List.countP_cons,List.countP_cons];rcases Mm.mp hy with e|hy
  .subst e
   rw[if_pos hq,hp];simp;lia
  .have:=wZ (l:=l) (λz a=>h z (Mz _ a)) ⟨y,hy,hq,hp⟩
   have f:=h x (by simp)
   cases c:p x with
   |false=>simp;split<;>lia
   |true=>rw[if_pos rfl,if_pos (f c)];lia
noncomputable def rk(ks:Uf)(i:Nat):Nat:=ks.countP λx=>gA x (ks.getD i [])
theorem FJ(g:i<ks.length):decide (rk ks i<rk ks j)=gA (ks.getD i []) (ks.getD j []):=by
 unfold rk;have e:ks.getD i []∈ks:=by simp[g]
 generalize ks.getD i []=a at e;generalize ks.getD j []=b;cases c:gA a b with
 |true=>
  refine decide_eq_true (wZ (λx f h=>?_) ⟨a,e,c,xr a⟩);cases d:gA x b with
  |true=>rfl
  |false=>
   have:=qJ a b x (my a b c) d;rw[this]at h;cases h
 |false=>
  refine decide_eq_false (Po.mpr (Ri λx f h=>?_));cases d:gA x a with
  |true=>rfl
  |false=>
   have:=qJ b a x c d;rw[this]at h;cases h
section
variable{prog:gg}{w:g5}{A:hB}{b:Bool}{Q:Bool->ee->Prop}
theorem sk:∀(xs ys:Ug)(us vs:Ui)(i:Nat),SG us xs->SG vs ys->Q (gA xs ys) s->KatLex prog w A b (decide (xs.length<ys.length)) Q (us.zip vs) i s
 |[],[],_,_,i,.nil,.nil,h=>h
 |[],_::_,_,_,i,.nil,.cons ..,h=>by
  rw[List.zip_nil_left];show Q (decide (0<_)) s;rw[decide_eq_true (by simp)]
  exact h
 |_::_,[],_,_,i,.cons ..,.nil,h=>by
  rw[List.zip_nil_right];show Q (decide (_<0)) s;rw[decide_eq_false (by lia)]
  exact h
 |x::xs,y::ys,_,_,i,.cons _ _ r1,.cons _ _ r2,h=>by
  have e:decide ((x::xs).length<(y::ys).length)=decide (xs.length<ys.length):=decide_eq_decide.mpr (by simp)
  rw[e,P4];refine kat_cons (wpAny_eqBool_int (kat_go (λc=>kat_yes ?_) λc=>kat_no ?_))
  .have:x=y:=by simpa using c
   subst this;unfold gA at h;rw[if_pos rfl]at h;exact sk xs ys _ _ (i+1) r1 r2 h
  .have:¬x=y:=by simpa using c
   unfold gA at h;rw[if_neg this]at h;cases (b&&i==0) with
   |true=>exact oneLt_int h
   |false=>exact kat_one _ _ (wpAny_lt_int h)
end
inductive TupsAt(h:g4):List cx->List (List Int)->Prop
 |nil:TupsAt h [] []
 |cons {a:eC} {o:Obj} {us:Ui} {n:Nat} {k:Ug} {vs:Ui} {ks:Uf} (ho:h.get? a=cb o) (hc:o.cls=.type "tuple") (hd:o.data=.seq us.toArray n) (hi:SG us k) (r:TupsAt h vs ks):TupsAt h (.ref a::vs) (k::ks)
theorem TupsAt.keep{h':g4}(t:TupsAt h vs ks)(k:∀b o,h.get? b=cb o->o.cls=.type "tuple"->h'.get? b=cb o):TupsAt h' vs ks:=by
 induction t with
 |nil=>exact .nil
 |cons ho hc hd hi r ih=>exact .cons (k _ _ ho hc) hc hd hi ih
theorem TupsAt.len(t:TupsAt h vs ks):ks.length=vs.length:=by
 induction t with
 |nil=>rfl
 |cons ho hc hd hi r ih=>simp[ih]
theorem TupsAt.at{h:g4}{vs:Ui}{ks:Uf}(t:TupsAt h vs ks):∀i,i<vs.length->∃a o us n,vs.getD i Na=.ref a/\h.get? a=cb o/\o.data=.seq (N9 us) n/\SG us (ks.getD i []):=by
 induction t with
 |nil=>intro i c;simp at c
 |@cons a o us n k vs ks ho hc hd c r ih=>
  intro i l;cases i with
  |zero=>exact⟨a,o,us,n,rfl,ho,hd,c⟩
  |succ i=>
   obtain⟨f,p,b,g,e,q⟩:=ih i (by simpa using l)
   exact⟨f,p,b,g,by simpa using e,by simpa using q⟩
theorem TupsAt.firsts(t:TupsAt h vs ks)(b:∀k∈ks,k≠[]):∃fs,KatTups h vs fs/\fs.length=vs.length/\∀v∈fs,∃i t,v=PC i t:=by
 induction t with
 |nil=>exact⟨[],trivial,rfl,λ_ h=>by cases h⟩
 |@cons a o us n k vs ks ho hc hd hi r ih=>
  obtain⟨fs,c,e,f⟩:=ih λk g=>b k (Mz _ g);cases hi with
  |nil=>exact absurd rfl (b []<|by simp)
  |cons x t hi=>
   refine⟨.int x t::fs,.cons ho hc hd (by simp) c,by simp[e],λv hv=>?_⟩
   rcases Mm.mp hv with rfl|hv
   .exact⟨_,_,rfl⟩
   .exact f v hv
theorem kU:∀{us:Ui}{k:Ug},SG us k->us.length=k.length
 |_,_,.nil=>rfl
 |_,_,.cons _ _ r=>by simp[kU r]
section
variable{prog:gg}{w:g5}{A:hB}{E:Um}
theorem yf{b:Bool}(t:TupsAt s.heap vs ks):nv vs.length (rk ks) (kas_ask prog w A (tuples' b) vs) s:=by
 intro i j l x C h;obtain⟨a,o,p,n,B,z,u,r⟩:=t.at i l;obtain⟨H,G,c,I,F,f,e,g⟩:=t.at j x;unfold kas_ask;rw[B,F];refine kat_lt z u f e ?_;have v:p.toArray.size=(ks.getD i []).length:=by
  have:=kU r;simpa using this
 have y:c.toArray.size=(ks.getD j []).length:=by
  have:=kU g;simpa using this
 rw[v,y];refine sk _ _ p c 0 r g ?_;rw[<- FJ (by rw[t.len];exact l)]
 exact h
theorem kW{a:eC}{n:Nat}{P:Fin->ee->Prop}(y:s.heap.get? a=cb (S1 "list" vs.toArray n))(ht:TupsAt s.heap vs ks)(J:∀k∈ks,k≠[])(I:vs.length<64)(h:∀p:Array Nat,Pm vs.length p->SU (rk ks) p vs.length->P (.done<|.ret .none) { s with heap:=sortedHeap s.heap a vs (N9 (p.toList.map λi=>vs.getD i Na)) }):
  eT (ft prog w) A (Builtin.«list.sort» ⟨[.ref a],[]⟩) P E s:=by
 rw[list_sort_plain];have ha:a<s.heap.objs.size:=Mj y;refine cT (listItems_at y rfl ?_);refine cT (Tu y rfl ?_ (by rw[Ml,oD];lia)<|MY _)
 obtain⟨F,r⟩:∃F,(s.heap.update a (Nj λ_=>#[])).get? a=cb (S1 "list" #[] F):=⟨_,get?_update_seq y λ_=>#[]⟩;refine cT (TV r rfl ?_);refine cT (w4 ?_<|by show vs.length<=_;rw[oD];lia)
 refine cT (wpAny_newList ?_<|MY _);refine k6 ?_;have R:∀b o,b≠a->s.heap.get? b=cb o->(((s.heap.update a (Nj λ_=>#[])).push<|seqObj "tuple" vs.toArray 0).push<|seqObj "list" #[] 0).get? b=cb o:=λb o U e=>
  Me _ (Me _<|(Nv ..).extBut b o U e)
 have f:(((s.heap.update a (Nj λ_=>#[])).push<|seqObj "tuple" vs.toArray 0).push<|seqObj "list" #[] 0).get? a=cb (S1 "list" #[] F):=Me _ (Me _ r);have u:TupsAt (((s.heap.update a (Nj λ_=>#[])).push<|seqObj "tuple" vs.toArray 0).push<|seqObj "list" #[] 0) vs ks:=ht.keep λb o e hc=>R b o (λz=>by subst z;rw[y]at e;cases e;exact absurd hc (by simp[S1])) e
 show eT (ft prog w) A _ P E { s with heap:=((s.heap.update a (Nj λ_=>#[])).push<|seqObj "tuple" vs.toArray 0).push (S1 "list" #[] 0) };dsimp only;have W:vs.toArray.size=vs.length:=by simp
 by_cases l:vs.toArray.size<2
 .rw[if_pos l,if_pos l]
  refine cT (eP ?_);rw[StateT.run_pure];refine cT (eP ?_);dsimp only;refine cT (TV f rfl ?_);have K:(arrOf<|SortSt.mk' general' (vs.toArray.zip vs.toArray) #[] 7 ed).map (·.2)=N9 ((N9<|Ol vs.length).toList.map λi=>vs.getD i Na):=by
   show (vs.toArray.zip vs.toArray).map (·.2)=_;apply Array.toList_inj.mp;rw[Array.toList_map,Array.toList_zip,List.map_snd_zip (Mn _)];refine List.ext_getElem (by simp) λi L l=>?_
   simp at L;simp[L]
  refine cT (Tu f rfl ?_ (MY _)<|by rw[K];simp;rw[oD];lia)
  simp only[bne_self_eq_false,Mr,if_false];refine eP ?_;rw[K];refine h _ qV λi j Z hj=>?_;have:i=j:=by lia
  rw[this];exact Mn _
 .rw[if_neg l,if_neg l]
  obtain⟨fs,S,f2,Y⟩:=u.firsts J;refine cT (kat_kind (T:=.type "int") S (by lia) (λv M=>?_) rfl ?_)
  .obtain⟨i,t,rfl⟩:=Y v M
   exact .now
  refine cT (kL (kat_run (Q:=λc g=>∃p:Array Nat,arrOf c=p.map (kas_item<|vs.toArray.zip vs.toArray)/\failedOf c=ed/\g={ s with heap:=((s.heap.update a (Nj λ_=>#[])).push<|seqObj "tuple" vs.toArray 0).push (S1 "list" #[] 0) }/\Pm vs.length p/\SU (rk ks) p vs.length)
   (G:=λp g=>g={ s with heap:=((s.heap.update a (Nj λ_=>#[])).push<|seqObj "tuple" vs.toArray 0).push (S1 "list" #[] 0) }/\Pm vs.length p/\SU (rk ks) p vs.length) rfl (by lia) I
   (λO c g a1 X N H=>⟨O,X,N,H.1,H.2.1,H.2.2⟩) (D7 (yf u) (by lia) λp B C=>⟨rfl,B,C⟩)) ?_ λ_ _ e=>e)
  rintro⟨⟨⟩,c⟩ g ⟨p,har,hf,rfl,B,C⟩
  dsimp only;have x:=kat_snds rfl har;rw[x];refine cT (TV f rfl ?_);refine cT (Tu f rfl ?_ (MY _)<|by have:=B.size;simp;rw[this,oD];lia)
  rw[hf];simp only[bne_self_eq_false,Mr,if_false];exact eP (h p B C)
theorem sQ{l:eC}{Q:Um}(x:s.heap.IsList l vs.toArray)(v:TupsAt s.heap vs ks)(g:∀k∈ks,k≠[])(f:vs.length<64)(h:∀p:Array Nat,Pm vs.length p->SU (rk ks) p vs.length->Q (.ref (s.heap.objs.size+1)) { s with heap:=sortedAll s.heap vs (N9 (p.toList.map λi=>vs.getD i Na)) }):
  eT (ft prog w) A (call (.builtin "sorted") [.ref l]) Q E s:=by
 refine QE kind_sorted plain_sorted entry_sorted (args_sorted1 _) ?_;unfold Builtin.«sorted»;refine cT (m:=checkCount "sorted" 1 1 _) (eP ?_);refine cT (collect_list x ?_<|by rw[oD];lia)
 refine cT (wpAny_newList ?_<|by rw[oD];lia)
 have a:((s.heap.push<|seqObj "list" #[] 0).update s.heap.objs.size<|Nj (·++vs.toArray)).objs.size=s.heap.objs.size+1:=by
  rw[Heap.size_update,size_push']
 have c:(((s.heap.push<|seqObj "list" #[] 0).update s.heap.objs.size<|Nj (·++vs.toArray)).push<|seqObj "list" vs.toArray 0).get? (s.heap.objs.size+1)=cb (S1 "list" vs.toArray 0):=by
  rw[<- a];exact Mt _ rfl
 have u:TupsAt (((s.heap.push<|seqObj "list" #[] 0).update s.heap.objs.size<|Nj (·++vs.toArray)).push<|seqObj "list" vs.toArray 0) vs ks:=v.keep λb o e _=>
  Me _ ((Nv ..).extBut b o (MB<|Mj e)<|Me _ e)
 show eT _ _ _ _ _ { s with heap:=((s.heap.push<|seqObj "list" #[] 0).update s.heap.objs.size<|Nj (·++vs.toArray)).push (S1 "list" vs.toArray 0) };rw[a];refine cT (k6<|wpAny_call_entry slot_list_sort ⟨_,c,rfl⟩ entry_list_sort (kW c u g f λp n r=>⟨_,rfl,?_⟩)<|args_list_sort _);exact eP ⟨_,rfl,h p n r⟩
end
end _S
namespace _3
open PySem _2 _S
noncomputable def tupD(k:Ug):D:=.tup (k.map D.int)
noncomputable def nP:List D->Option (List<|List Int)
 |[]=>cb []
 |.tup xs::ds=>match dh xs,nP ds with
  |some k,cb ks=>cb (k::ks)
  |_,_=>ed
 |_=>ed
theorem iZ:∀{xs:List D}{k:Ug},dh xs=cb k->xs=k.map D.int
 |[],k,h=>by cases h;rfl
 |d::xs,k,h=>by
  cases d with
  |int i=>
   simp only[dh]at h
   split at h
   .rename_i e;cases h;rw[iZ e];rfl
   .cases h
  |_=>cases h
theorem lA:∀{ds:List D}{ks:Uf},nP ds=cb ks->ds=ks.map tupD
 |[],ks,h=>by cases h;rfl
 |d::ds,ks,h=>by
  cases d with
  |tup xs=>
   simp only[nP]at h
   split at h
   .rename_i a b;cases h;rw[iZ a,lA b];rfl
   .cases h
  |_=>cases h
theorem IM{ks:Uf}{p:Array Nat}(c:Pm ks.length p)(o:SU (rk ks) p ks.length):p.toList.map (λi=>ks.getD i [])=Bz fc ks:=by
 refine B9 fc ?_ ?_
 .refine NP.mpr λi j f g a=>?_
  have sz:=c.size;simp only[Md,MP]at f g;simp only[Oo,Array.getElem_toList];have b:=o i j (NZ a) (by lia)
  unfold Kp at b;have n:p.getD i 0=p[i]:=by simp[f]
  have h:p.getD j 0=p[j]:=by simp[g]
  rw[n,h]at b;have l:p[j]<ks.length:=by
   have:=c.lt (i:=j) (by lia)
   rw[h]at this;exact this
  show gA _ _=eH;rw[<- FJ l];exact decide_eq_false (by lia)
 .have:=List.Perm.map (λi=>ks.getD i []) c
  have e:(Ol ks.length).map (λi=>ks.getD i [])=ks:=by
   refine List.ext_getElem (by simp) λi b m=>?_
   simp[m]
  rw[e]at this;exact this
section
variable {X:Cx}{B:Bd}
theorem xP{c:Uo}{Z:_2.St}{H:Hp}{s:ee}(I:Inv X c Z H s):∀{ks:Uf}{vs:List V}{Ua:Ui},Rps X.K H (ks.map tupD) vs->Vals vs Ua->TupsAt s.heap Ua ks
 |[],_,_,r,v=>by
  cases r;cases v;exact .nil
 |k::ks,_,_,r,v=>by
  obtain⟨x,u,rfl,a,b⟩:=r;cases v with
  |cons rx v=>
   obtain⟨p,y,rfl,j,f⟩:=a;cases rx;obtain⟨w,h,g,q⟩:=I.tuple j.sq;obtain⟨o,e,l,n,i⟩:=g;have m:=sE f (mV k);subst m;exact .cons e l i (rg h) (xP I b v)
theorem sg{K:Mp}{H:Hp}{ks:Uf}{vs:List V}(r:Rps K H (ks.map tupD) vs):∀l:List Nat,(∀i∈l,i<ks.length)->Rps K H ((l.map λi=>ks.getD i []).map tupD) (l.map λi=>vs.getD i .non)
 |[],_=>rfl
 |i::l,h=>by
  have a:=h i (by simp)
  have e:(ks.map tupD)[i]?=cb (tupD<|ks.getD i []):=by rw[Mw,Mi a];simp[a]
  obtain⟨v,c,g⟩:=r.get e;have f:vs.getD i .non=v:=by rw[NM,c];rfl
  rw[Mo,Mo,Mo,f];exact .cons g (sg r l λj b=>h j (Mz _ b))
theorem nW{vs:List V}{Ua:Ui}(r:Vals vs Ua):∀l:List Nat,(∀i∈l,i<vs.length)->Vals (l.map λi=>vs.getD i .non) (l.map λi=>Ua.getD i Na)
 |[],_=>.nil
 |i::l,h=>by
  have a:=h i (by simp)
  obtain⟨v,e,g⟩:=r.get (Mi a);have b:vs.getD i .non=vs[i]:=by simp[a]
  have f:Ua.getD i Na=v:=by rw[NM,e];rfl
  rw[Mo,Mo,b,f];exact .cons g (nW r l λj c=>h j (Mz _ c))
def dR:sG:=λa M Q=>match a with
 |[d]=>match cX M d with
  |some xs=>match nP xs with
   |some ks=>ks.length<64/\(∀k∈ks,k≠[])/\∀p,M p=ed->Q (.ref p) (M.upd p<|.lst<|(Bz fc ks).map tupD)
   |none=>False
  |none=>False
 |_=>False
theorem pf:bL X (.builtin "sorted") (liftC X dR):=by
 intro T0 s Z H xs us Q I r h;obtain⟨ds,M,QQ,rh,rp,h,up⟩:=h;unfold dR at h
 split at h
 .obtain⟨v,rfl,rv⟩:=fH (ds:=[]) rp
  split at h
  .rename_i ys e
   obtain⟨q,vs,rfl,hq,rr⟩:=eF rh rv e
   split at h
   .rename_i ks es
    obtain⟨h64,hne,h⟩:=h;have:=lA es;subst this;obtain⟨u,rfl,ru⟩:=iV r;cases ru;obtain⟨Ua,r',pl,hz⟩:=I.list (.inl hq);have hlen:=r'.length;have hl2:=rr.length;rw[Md]at hl2;have ta:=xP I rr r';have tl:=ta.len;refine sQ pl.isList ta hne (by lia) λp hp hs=>?_
    rw[<- tl]at hp hs;have ea:=IM hp hs;obtain⟨k,hk⟩:=PyProof.Rows.sortedAll_at s.heap Ua (N9 (p.toList.map λi=>Ua.getD i Na));have hn:H (s.heap.objs.size+1)=none:=I.hok.fresh (Qq _);have hin:∀i∈p.toList,i<ks.length:=λi hi=>OV.mp ((Q6 hp).mp hi);have rq:=sg rr p.toList hin;rw[ea]at rq;have vq:=nW r' p.toList λi hi=>by have:=hin i hi;lia
    refine⟨.ref (s.heap.objs.size+1),_,I.laid (t':=s.toks) (o:=.lst (p.toList.map λi=>vs.getD i .non)) (λb o z=>PyProof.Rows.sortedAll_old z) (Qq _) (show ObjOk X.prog X.w _ _ _ (.lst _) from ⟨?_,_,k,vq,hk⟩),rfl,?_⟩
    .rw[Md,MP,hp.size];exact ME (NZ h64) (by decide)
    .exact up _ _ (h _<|rh.fresh hn) _ _ (rh.put (by rw[hn];trivial) ⟨_,upd_same,rq.mono<|Imm.new hn⟩) (Frm.put<|.inl hn) rfl
   .exact h.elim
  .exact h.elim
 .exact h.elim
end
end _3
namespace HT
open PySem PyProof.Rows
section
variable {prog:gg}{w:g5}{A:hB}{E:Um}{s:ee}
end
end HT
namespace _2
open PySem PySem.Spec PyProof.Rows
section
variable {X:Cx}{e:g1}{te:TE}{st:g1}{ts:TO}{p2 pos:Pos}
end
end _2
namespace _3
open PySem _2
variable{B:Bd}{X:Cx}{e:g1}{pos:Pos}{x:Str}{ta te:bj}{r:wm}
section
variable{st:g1}{ts:Fu}{p2:Pos}
end
structure GF(K:Mp)(mg:Uq)(x:Str)(st:pd)(f:eC)(fd:ka)(ps:Uh):Prop where
 F:Fun K x x st f fd
 b:Binds K fd ps []
 k:N6 K (.ref f)=true
 m:mg x=cb (.ref f)
structure GA(K:Mp)(mg:Uq)(x y:Str)(st:pd)(f:eC)(fd:ka)(ps:Uh):Prop where
 F:Fun K y y st f fd
 b:Binds K fd ps []
 k:N6 K (.ref f)=true
 m:mg x=cb (.ref f)
structure FunV(K:Mp)(x T4:Str)(st:pd)(f:eC)(fd:ka):Prop where
 ex:∃(oc:cx)(od:Option eC)(kV doc pm:cx)(an:Option eC)(cdv ct:cx)(osl:Array (Option cx))(T:eC),
  fd=PN x T4 (dH st) (cH st) (bv st) (.ref T) kV doc pm an cdv ct/\K.lookup f=cb ⟨oc,od,.func fd,osl⟩/\W.codeIn K cdv T4=true
 kp:N6 K (.ref f)=true
structure GV(K:Mp)(mg:Uq)(x:Str)(st:pd)(f:eC)(fd:ka)(ps:Uh)(dv:Int):Prop where
 F:FunV K x x st f fd
 b:Binds K fd ps []
 d:∃t,Binds K fd ps [.int dv t]
 k:N6 K (.ref f)=true
 m:mg x=cb (.ref f)
inductive GC(K:Mp)(mg:Uq)(x:Str)(st:pd)(f:eC)(fd:ka)(ps:Uh):Prop
 |g (h:GF K mg x st f fd ps):GC K mg x st f fd ps
 |a {y:Str} (h:GA K mg x y st f fd ps):GC K mg x st f fd ps
 |v {dv:Int} (h:GV K mg x st f fd ps dv):GC K mg x st f fd ps
structure GM(K:Mp)(C:eC)(x T4:Str)(st:pd)(f:eC)(fd:ka)(ps:Uh):Prop where
 F:Fun K x T4 st f fd
 b:Binds K fd ps []
 m:Meth K C x f
structure GI(K:Mp)(C:eC)(x T4:Str)(st:pd)(f:eC)(fd:ka)(ps:Uh):Prop where
 F:Fun K x T4 st f fd
 b:Binds K fd ps []
 m:Mk K C f
section
variable{CX:pT}{k n:Nat}{f C:eC}{fd:ka}{N ps:Uh}{T:Sd}{EE:DX}{E:XK}{T4:Str}{st:pd}{p T9:Pos}{o:g1}{es:Uk}{t:eN}
theorem zo(h:GC X.K X.mg x st f fd ps)(F:FnOk X.prog X.w X.K X.mg X.base CX k f fd ps (ce X.K n T))(j:Room k X.A)(l:Gl X x)(s:cy CX X E)(ux:yY X.K B EE E)(u:DA X B (e::es) t)(c:(x==("__debug__":Str))=eH)(q:fe (e::es) X.env=(eH,g3 e X.env)::fe es X.env)(i:(lb pos<|starEach es X.env).any (·.1)=eH):
  DE X B (.Call (.Name x p) (e::es) [] pos) (aj T EE n t):=by
 cases h with
 |g h=>exact pK F j l h.m h.k h.b s ux u c q i
 |a h=>exact pK F j l h.m h.k h.b s ux u c q i
 |v h=>exact pK F j l h.m h.k h.b s ux u c q i
def Hs(X:Cx)(B:Bd)(x:Str)(T:Sd)(EE:DX)(n:Nat):Prop:=∃(st:pd)(f:eC)(fd:ka)(ps:Uh)(k:Nat)(CX:pT)(E:XK),GC X.K X.mg x st f fd ps/\FnOk X.prog X.w X.K X.mg X.base CX k f fd ps (ce X.K n T)/\Room k X.A/\cy CX X E/\yY X.K B EE E
theorem zJ(h:Hs X B x T EE n)(i:Gl X x)(l:DA X B (e::es) t)(a:(x==("__debug__":Str))=eH)(j:fe (e::es) X.env=(eH,g3 e X.env)::fe es X.env)(b:(lb pos<|starEach es X.env).any (·.1)=eH):
  DE X B (.Call (.Name x p) (e::es) [] pos) (aj T EE n t):=by
 obtain⟨_,_,_,_,_,_,_,h,F,c,g,ux⟩:=h;exact zo h F c i g ux l a j b
theorem zn(h:GI X.K C T4 x st f fd ps)(F:FnOk X.prog X.w X.K X.mg X.base CX k f fd ps (ce X.K n T))(i:Room (k+1) X.A){y:Str}(j:Gl X y)(g:X.mg y=cb (.ref C))(q:cy CX X E)(ux:yY X.K B EE E)(s:DA X B (e::es) t)(a:(y==("__debug__":Str))=eH)(l:fe (e::es) X.env=(eH,g3 e X.env)::fe es X.env)(c:(lb pos<|starEach es X.env).any (·.1)=eH):
  DE X B (.Call (.Name y p) (e::es) [] pos) (rJ C T EE n t):=BZ h.m F i j g h.b q ux s a l c
theorem zk{m:Str}{pl:Sem Bool}(j:DE X B o ta)(c:Cls X.K C)(h:GM X.K C m T4 st f fd ps)(F:FnOk X.prog X.w X.K X.mg X.base CX k f fd ps (ce X.K n T))(i:Room k X.A)(q:cy CX X E)(ux:yY X.K B EE E)(s:DA X B (e::es) t)(a:fe (e::es) X.env=(eH,g3 e X.env)::fe es X.env)(g:(lb pos<|starEach es X.env).any (·.1)=eH)(l:g3 (.Call (.Attribute o m T9) (e::es) [] pos) X.env=(do
   let ov <- g3 o X.env
   S3 T9.atName
   let (f,first) <- No [ov] (Tb ov m pl)
   callWith pos f first (lb pos<|starEach (e::es) X.env) (SC pos<|keywordEach [] X.env))):
  DE X B (.Call (.Attribute o m T9) (e::es) [] pos) (j7 C m T EE n ta t):=E9 j c h.m F i h.b q ux s a g l
inductive FC(X:Cx)(scope:NE):List Str->List Nat->List (Str×eC)->Prop
 |nil:FC X scope [] [] []
 |cons {x:Str} {j:Nat} {c:eC} {fs:Uh} {js:List Nat} {cl:List (Str×eC)}:X.N[j]?=cb x->X.env.cells.lookup x=cb c->(X.env.kindOf x=cb .cell\/X.env.kindOf x=cb .free)->
   ((SF scope X.env).names.lookup x=cb .cell\/(SF scope X.env).names.lookup x=cb .free)->FC X scope fs js cl->FC X scope (x::fs) (j::js) ((x,c)::cl)
theorem FC.ok{g:NE}{fs:Uh}{l:List Nat}{j:List (Str×eC)}(h:FC X g fs l j):Frees X g fs l/\∃i:List eC,fs.length=i.length/\j=fs.zip i/\∀p∈j,X.env.cells.lookup p.1=cb p.2:=by
 induction h with
 |nil=>exact⟨.nil,[],rfl,rfl,memZ⟩
 |cons a b c d _ ih=>
  obtain⟨q,i,s,m,u⟩:=ih;exact⟨.cons a c d q,_::i,congrArg (·+1) s,by rw[m];rfl,memC b u⟩
variable{scope:NE}{cl:List (Str×eC)}{ls fs:Uh}{js:List Nat}{tg iter elt:g1}{ifs:Uk}{wi:yC}{g:jC}{tt:fg}{i:Nat}{px spos:Pos}
theorem nodC{a:ee}{H₀:Hp}{b:Uj}{pl:Uo}(h:N.Nodup):(a_ X N scope cl C a H₀ b pl).N.Nodup:=h
theorem xO(h:FC X scope fs js cl)(s:scope.kind=.function)(q:∀y∈scope.names,y.2≠.cell/\(y.2=.free->y.1∈fs))(m:∀x∈scope.names,x.2=.local->scope.names.lookup x.1=cb .local)(a:S2 scope X.env=pure cl):CompOk X scope cl ls fs js:=by
 obtain⟨c,u,j,b,l⟩:=h.ok;subst b;exact DJ s q m j a l c
theorem Al(v:X.calm=true)(h:FC X scope fs js cl)(A:scope.kind=.function)(G:∀y∈scope.names,y.2≠.cell/\(y.2=.free->y.1∈fs))(z:∀x∈scope.names,x.2=.local->scope.names.lookup x.1=cb .local)(m:S2 scope X.env=pure cl)(w:DI X B tg iter wi)(F:∀(C:eC)(j:ee)(H₀:Hp)(l:Uj)(pl:Uo),DG (a_ X (ls++fs) scope cl C j H₀ l pl) tB tg g)(q:∀(C:eC)(j:ee)(H₀:Hp)(l:Uj)(pl:Uo),Ip (a_ X (ls++fs) scope cl C j H₀ l pl) tB ifs tt)(u:∀(C:eC)(j:ee)(H₀:Hp)(l:Uj)(pl:Uo),DE (a_ X (ls++fs) scope cl C j H₀ l pl) tB elt te)(s:∀x,n7 iter X.env x=pure x):DE X B (.ListComp elt [⟨tg,iter,ifs,0⟩] scope pos) (b6 wi ls js g tt te):=
 Eu v (xO h A G z m) w (λa b c d e=>⟨F a b c d e,q a b c d e,u a b c d e⟩) s
theorem Bx(A:X.N.Nodup)(m:X.N[i]?=cb x)(O:yZ X.env.scope x)(K:X.calm=true)(h:FC X scope fs js cl)(w:scope.kind=.function)(z:∀y∈scope.names,y.2≠.cell/\(y.2=.free->y.1∈fs))(u:∀x∈scope.names,x.2=.local->scope.names.lookup x.1=cb .local)(q:S2 scope X.env=pure cl)(s:DI X B tg iter wi)(I:∀(C:eC)(j:ee)(H₀:Hp)(l:Uj)(pl:Uo),DG (a_ X (ls++fs) scope cl C j H₀ l pl) tB tg g)(J:∀(C:eC)(j:ee)(H₀:Hp)(l:Uj)(pl:Uo),Ip (a_ X (ls++fs) scope cl C j H₀ l pl) tB ifs tt)(H:∀(C:eC)(j:ee)(H₀:Hp)(l:Uj)(pl:Uo),DE (a_ X (ls++fs) scope cl C j H₀ l pl) tB elt te)(M:X.env.blockKind=.function)(h2:X.env.scope.names.lookup x=cb .local)(v:px.line=pos.line)(G:(scope.names.any λ(n,k)=>n==x&&(k==.local||k==.cell))=eH)(F:∀x,n7 iter X.env x=pure x)(L:X.fn x=true\/X.env.scope.names.lookup x=cb .local):
  DS X B (.Assign [.Name x px] (.ListComp elt [⟨tg,iter,ifs,0⟩] scope pos) spos) (oM i<|b6 wi ls js g tt te):=
 CA A m O K (xO h w z u q) s (λa b c d e=>⟨I a b c d e,J a b c d e,H a b c d e⟩) (Ea M h2 v G) F L
theorem DN{l:Str}{I M O j:Pos}{c:pd}{a:Ul}{L:aB}(h:GF X.K X.mg x st f fd ps)(F:FnOk X.prog X.w X.K X.mg X.base (tq X.prog X.w) k f fd ps (ce X.K n T))(s:X.stack=X.env::X.outer)(y:X.env.frame=cb X.env.locals)(S:Room k X.A)(P:Gl X x)(R:DA X.nox B (e::es) t)(EX:ExcAt X.K C)(J:Gl X l)(u:X.mg l=cb (.ref C))(G:∀U:eC,y_ (X.marked<|.ref U) B (c::a) L)(z:(x==("__debug__":Str))=eH)(q:(l==("__debug__":Str))=eH)(Q:fe (e::es) X.env=(eH,g3 e X.env)::fe es X.env)(v:(lb I<|starEach es X.env).any (·.1)=eH)(H:pb (.Call (.Name x p) (e::es) [] I) ed M.line X.env=pure eH):
  DS X B (.Try [.Expr (.Call (.Name x p) (e::es) [] I) M] [.ExceptHandler (cb<|.Name l O) ed (c::a) j] [] [] pos) (Ht C T n t L):=t_ s y F S P h.m h.k h.b R EX J u G z q Q v H
end
section
variable{id T Ty:String}{p T9 T8:Pos}{o:g1}{es:Uk}{to:bj}{t:eN}{name:Str}
theorem da{r:sG}(f:bL X (.builtin id) (liftC X r))(j:fy x=cb (.builtin id))(g:Gl X x)(c:X.mg x=ed)(l:DA X B (e::es) t)(i:x≠"__name__")(a:(x==("__debug__":Str))=eH)(h:fe (e::es) X.env=(eH,g3 e X.env)::fe es X.env)(b:(lb pos<|starEach es X.env).any (·.1)=eH):DE X B (.Call (.Name x p) (e::es) [] pos) (bn r t):=AK f g c j l i a h b
theorem eR{r:sG}(f:bL X (.type T) (liftC X r))(j:fy x=cb (.type T))(g:Gl X x)(c:X.mg x=ed)(l:DA X B (e::es) t)(i:x≠"__name__")(a:(x==("__debug__":Str))=eH)(h:fe (e::es) X.env=(eH,g3 e X.env)::fe es X.env)(b:(lb pos<|starEach es X.env).any (·.1)=eH):DE X B (.Call (.Name x p) (e::es) [] pos) (bn r t):=xW f g c j l i a h b
theorem lU(g:fy x=cb (.type T))(b:Gl X x)(a:X.mg x=ed)(f:x≠"__name__")(c:(x==("__debug__":Str))=eH):DE X B (.Name x pos) (dC<|.ty T):=LG b a g f c
theorem oY(n:SL Ty)(g:Slot Ty name id)(h:S0 (.builtin id)=pure (.type "method_descriptor"))(l:uO X id (liftM X r))(i:Ty="list"\/Ty="str"\/Ty="int"\/Ty="dict")(m:DE X B o to)(q:DA X B (e::es) t)(b:mu o name X.env (g3 o X.env)=g3 o X.env)(f:((lb T8<|starEach (e::es) X.env).all (λx=>!x.1)&&(SC T8<|keywordEach [] X.env).all (λx=>x.1.isSome)
   && decide ((e::es).length+([]:List On).length+(if ([]:List On).isEmpty then 0 else 1)<30))=true)(c:(T9.endLine==T8.line)=true)(j:fe (e::es) X.env=(eH,g3 e X.env)::fe es X.env)(a:(lb T8<|starEach es X.env).any (·.1)=eH):
  DE X B (.Call (.Attribute o name T9) (e::es) [] T8) (fJ Ty r to t):=Kk i n g h l m q b f c j a
theorem Er(j:SL Ty)(c:Slot Ty name id)(f:S0 (.builtin id)=pure (.type "method_descriptor"))(h:uO X id (liftM X r))(g:Ty="list"\/Ty="str"\/Ty="int"\/Ty="dict")(i:DE X B o to)(a:mu o name X.env (g3 o X.env)=g3 o X.env)(b:(T9.endLine==T8.line)=true):DE X B (.Call (.Attribute o name T9) [] [] T8) (fJ Ty r to ae):=Hi g j c f h i a b
theorem Ga(g:Slot "tuple" name id)(h:S0 (.builtin id)=pure (.type "method_descriptor"))(j:uO X id (liftM X r))(l:DE X B o to)(m:DA X B (e::es) t)(b:mu o name X.env (g3 o X.env)=g3 o X.env)(f:((lb T8<|starEach (e::es) X.env).all (λx=>!x.1)&&(SC T8<|keywordEach [] X.env).all (λx=>x.1.isSome)
   && decide ((e::es).length+([]:List On).length+(if ([]:List On).isEmpty then 0 else 1)<30))=true)(c:(T9.endLine==T8.line)=true)(i:fe (e::es) X.env=(eH,g3 e X.env)::fe es X.env)(a:(lb T8<|starEach es X.env).any (·.1)=eH):
  DE X B (.Call (.Attribute o name T9) (e::es) [] T8) (dTM r to t):=Ka g h j l m b f c i a
theorem C0{i:Nat}{op:SS}{r:d_}{pos':Pos}(g:J0 X op (liftR2 X r))(a:X.N.Nodup)(b:X.N[i]?=cb x)(h:yZ X.env.scope x)(f:DE X B e te)(c:X.fn x=true\/X.env.scope.names.lookup x=cb .local):
  DS X B (.AugAssign (.Name x pos') op e pos) (uX i te r):=Gj a b h f g c
theorem oi{a b c:g1}{i j:bj}{op f:To}{r h:d_}(n:cq X (g0 op) (liftR2 X r))(g:cq X (g0 f) (liftR2 X h))(s:DE X B a ta)(q:DE X B b i)(m:DE X B c j)(l:SW [op,f] [b,c]=eH):
  DE X B (.Compare a [op,f] [b,c] pos) (dJ r h ta i j):=B3 n g s q m l
theorem yF{a b c:g1}{i j:bj}{op f:To}{r h:d_}(n:cq X (g0 op) (liftR2 X r))(g:cq X (g0 f) (liftR2 X h))(s:DE X B a ta)(q:DE X B b i)(m:DE X B c j)(l:SW [op,f] [b,c]=eH):
  DT X B (.Compare a [op,f] [b,c] pos) (ao<|dJ r h ta i j):=zr n g s q m l
end
structure Nf(K:Mp)(x:Str)(st:pd)(f:eC)(fd:ka):Prop where
 a:NB K fx x=cb (cb<|.ref f)
 F:Fun K x x st f fd
structure Mf(K:Mp)(C:eC)(x q:Str)(st:pd)(f:eC)(fd:ka):Prop where
 a:NC K (.ref C) x=cb (cb<|.ref f)
 i:W.isFn K (.ref f)=true
 F:Fun K x q st f fd
theorem us1{b:Type}{P:List b->Prop}(h:∀a,P [a]):∀us:List b,us.length=1->P us
 |[a],_=>h a
theorem us2{c:Type}{P:List c->Prop}(h:∀a b,P [a,b]):∀us:List c,us.length=2->P us
 |[a,b],_=>h a b
theorem us3{f:Type}{P:List f->Prop}(h:∀b c a,P [b,c,a]):∀us:List f,us.length=3->P us
 |[b,c,a],_=>h b c a
theorem us4{g:Type}{P:List g->Prop}(h:∀f b c a,P [f,b,c,a]):∀us:List g,us.length=4->P us
 |[f,b,c,a],_=>h f b c a
theorem us5{i:Type}{P:List i->Prop}(h:∀g b c a f,P [g,b,c,a,f]):∀us:List i,us.length=5->P us
 |[g,b,c,a,f],_=>h g b c a f
theorem us6{j:Type}{P:List j->Prop}(h:∀i b c a g f,P [i,b,c,a,g,f]):∀us:List j,us.length=6->P us
 |[i,b,c,a,g,f],_=>h i b c a g f
abbrev Bnd(ps:Uh)(x T4:Str)(st:pd):Prop:=∀(kV doc pm:cx)(an:Option eC)(cdv ct:cx)(us:Ui),us.length=ps.length->bindArgs (PN x T4 (dH st) (cH st) (bv st) .none kV doc pm an cdv ct) ⟨us,[]⟩=pure (ps.zip us)
section
variable{P:gg}{w:g5}{K:Mp}{mg:Uq}{base h:g4}{k n:Nat}{f C:eC}{fd:ka}{N ps:Uh}{S:Sd}{T:DX->aB}{T4:Str}{st:pd}
theorem gf(X:K.In h)(G:h.Ns fx mg)(l:Nf K x st f fd)(b:Bnd ps x x st:=by intro _ _ _ _ _ _;first|exact us1 λ_=>rfl|exact us2 λ_ _=>rfl|exact us3 λ_ _ _=>rfl|exact us4 λ_ _ _ _=>rfl|exact us5 λ_ _ _ _ _=>rfl|exact us6 λ_ _ _ _ _ _=>rfl|exact us7 λ_ _ _ _ _ _ _=>rfl|exact us8 λ_ _ _ _ _ _ _ _=>rfl):GF K mg x st f fd ps:=⟨l.F,l.F.binds b,l.F.kp,Oj X G l.a⟩
theorem gm(l:Mf K C x T4 st f fd)(b:Bnd ps x T4 st:=by intro _ _ _ _ _ _;first|exact us1 λ_=>rfl|exact us2 λ_ _=>rfl|exact us3 λ_ _ _=>rfl|exact us4 λ_ _ _ _=>rfl|exact us5 λ_ _ _ _ _=>rfl|exact us6 λ_ _ _ _ _ _=>rfl|exact us7 λ_ _ _ _ _ _ _=>rfl|exact us8 λ_ _ _ _ _ _ _ _=>rfl):GM K C x T4 st f fd ps:=⟨l.F,l.F.binds b,l.a,l.i,l.F.kp⟩
theorem gi(mk:Qt K C=true)(b:N6 K (.ref C)=true)(l:Mf K C "__init__" T4 st f fd)(c:Bnd ps "__init__" T4 st:=by intro _ _ _ _ _ _;first|exact us1 λ_=>rfl|exact us2 λ_ _=>rfl|exact us3 λ_ _ _=>rfl|exact us4 λ_ _ _ _=>rfl|exact us5 λ_ _ _ _ _=>rfl|exact us6 λ_ _ _ _ _ _=>rfl|exact us7 λ_ _ _ _ _ _ _=>rfl|exact us8 λ_ _ _ _ _ _ _ _=>rfl):GI K C "__init__" T4 st f fd ps:=⟨l.F,l.F.binds c,mk,l.a,l.i,b⟩
abbrev cP(P:gg)(w:g5)(mg:Uq)(base:g4)(_:Fun K x T4 st f fd)(_:Binds K fd ps [])(k:Nat)(S:Sd):Prop:=FnOk P w K mg base (tq P w) k f fd ps (ce K ps.length S)
theorem fnS(i:S=aM N T)(F:Fun K x T4 st f fd)(b:Binds K fd ps [])(g:FnScope N ps (bv st))(j:FnScope N ps (bv st)->∀(c:cx)(A:hB)(a:List Env)(s:ee)(H:Hp)(E:XK)(B:Bd)(EE:DX),Room k (A.deeper<|Qx T4 (bv st) s.heap.objs.size f c)->yY K B EE E->
   y_ (dO (tq P w) P w K mg base N T4 (bv st) f c A a s H E) B (cH st) (T EE)):cP P w mg base F b (k+1) S:=by
 subst i;exact fnD F g (j g)
end
end _3
namespace _S
open PySem PySem.W PySem.Calls PyProof.Rows PyProof.V PySem.Spec
theorem zG:Sy (.type "str") "__len__"=pure (cb<|.builtin "str.__len__"):=by rw[Ps];rw[sx];kernel_rfl
theorem A1:isSubtype (.type "str") (.type "str")=pure true:=by rw[Ti];kernel_rfl
section
variable {prog:gg}{w:g5}{A:hB}{E:Um}{s:ee}{x:Str}{t:Tok}
theorem B0{Q:Bool->ee->Prop}(h:Q eH s):eT (ft prog w) A (PX<|.str x t) Q E s:=by
 have ty:=SK s x t;unfold PX;refine cT (wpAny_specialOf ty zG ?_);generalize a:("str.__len__":String)=id1
 wp_delta
 rw[show splitId id1=cb ("str","__len__") by subst a;decide +kernel]
 subst a;refine cT (S7 (T:="str") (b:=true) ty A1 ?_);refine Tf (λz=>absurd z (by decide)) λ_=>Tf (λ_=>?_) λz=>absurd (by decide +kernel) z
 exact cT (PP ty<|wpAny_pure h)
theorem uN{R:Tc->ee->Prop}{S:eC}{g:cx}(P:A.handled=ed)(O:x.cps.size<=sizeLine){B:Nat}
  (C:s.heap.get? S=cb { cls:=.type "list",data:=.seq #[] B })
  (hR:∀h' tk (a:Ur) c,(∀b o,b≠S->s.heap.get? b=cb o->h'.get? b=cb o)->h'.get? S=cb { cls:=.type "list",dict:=ed,data:=.seq a c,slots:=#[] }->ItemsOf (SignAt x) a x.cps.size->
   R (.ok<|.ret g) { s with heap:=h',toks:=tk }):
  eT (ft prog w) A.in1 (N5 (.ref S) (.str x t) g) (λl h=>match l with|.done f=>R (.ok f) h|.again c'=>c'.quiet=true/\t0 (ft prog w) A c' R h) (λe h=>R (.error e) h) s:=by
 have ty:=SK s x t;have L:=Mj C;have p:S≠s.heap.objs.size:=MB L;unfold N5;refine cT (PP ty ?_);have M:Builtin.List.listSameRef (.ref S) (.str x t)=false:=rfl;have J:(Nw "str"==Nw "list")=false:=by decide
 have I:(Nw "str"==Nw "tuple")=false:=by decide
 simp only[M,J,I,QS,Mr,if_false];refine cT (wpAny_pyIter_str λH St W N=>?_);have r:∀b o,s.heap.get? b=cb o->(s.heap.push H).get? b=cb o:=λb o q=>Me _ q;have n:=r S _ C;refine cT (k6<|B0 ?_);have W:=W A.in1 (by simpa using P)
 have j:S∉[s.heap.objs.size]:=λz=>p (MH.mp z);have Q:(eH||(["set","frozenset","dict","dict_keys","dict_values","dict_items"]:List String).any (Nw "str"==Nw ·))=false:=by decide
 refine Tf (λy=>absurd y (by decide +kernel)) λ_=>eP ⟨SI PySem.F.plain_extend_loop _,?_⟩
 refine codeAny_extend_loopS W.toS O S j g x.cps.size 0 _ #[] B rfl (MY _) N n (ItemsOf.nil _) λu a K v m i=>?_;rw[Moved.eq_with v];refine hR u.heap u.toks a K (λb o G q=>v.heap b o (λz=>?_) (r b o q)) m i;rcases Mm.mp z with y|y
 .exact G y
 .rw[MH]at y
  exact absurd (Mj q) (by rw[y];exact MT _)
theorem zj{R:Tc->ee->Prop}{S:eC}(y:A.handled=ed)(v:x.cps.size<=sizeLine)
  (g:s.heap.get? S=cb { cls:=.type "list",data:=.seq #[] })
  (hR:∀h l (a:Ur) c,(∀b o,b≠S->s.heap.get? b=cb o->h.get? b=cb o)->h.get? S=cb { cls:=.type "list",dict:=ed,data:=.seq a c,slots:=#[] }->ItemsOf (SignAt x) a x.cps.size->
   R (.ok<|.ret .none) { s with heap:=h,toks:=l }):
  eT (ft prog w) A.in1 (Builtin.«list.__init__» ⟨[.ref S,.str x t],[]⟩) (λq i=>match q with|.done f=>R (.ok f) i|.again c'=>c'.quiet=true/\t0 (ft prog w) A c' R i) (λe i=>R (.error e) i) s:=by
 show eT _ _ (do let old <- Qg (.ref S);Builtin.List.listUpdate (.ref S) (λ_=>#[]);letGo old.toList.reverse;N5 (.ref S) (.str x t) .none) _ _ s
 refine cT ?_;unfold Qg;refine cT (tL g rfl<|wpAny_pure ?_);show eT _ _ (updateSeq S (λ_=>#[]) >>= λ_=>letGo (#[]:Ur).toList.reverse >>= λ_=>N5 (.ref S) (.str x t) .none) _ _ s;refine cT (wpAny_updateSeq g rfl ?_);have n:=Og (Nj λ_=>(#[]:Ur)) g rfl;have p:∀b o,b≠S->s.heap.get? b=cb o->(s.heap.update S<|Nj λ_=>(#[]:Ur)).get? b=cb o:=λb o j e=>by
  rw[Pg _ _ (ML j)];exact e
 refine cT (m:=letGo _) (TR ?_);exact uN y v n λh l a c k r u=>hR h l a c (λb o j e=>k b o j (p b o j e)) r u
theorem list_str{Q:Um}(l:A.handled=ed)(j:x.cps.size<=sizeLine)
  (m:∀h' tk (T6:Ur) c,(∀b o,s.heap.get? b=cb o->h'.get? b=cb o)->h'.get? s.heap.objs.size=cb { cls:=.type "list",dict:=ed,data:=.seq T6 c,slots:=#[] }->ItemsOf (SignAt x) T6 x.cps.size->Q (.ref s.heap.objs.size) { s with heap:=h',toks:=tk }):
  eT (ft prog w) A (call (.type "list") [.str x t]) Q E s:=by
 refine callType_codes (Q₁:=λobj f=>obj=.ref s.heap.objs.size/\f={ s with heap:=s.heap.push { cls:=.type "list",data:=.seq #[] } }) F.called_list (F.typeCall_list_1 _) F.entry_list_init
  (code_list_new _ ⟨rfl,rfl⟩) λobj f h=>?_
 obtain⟨rfl,rfl⟩:=h;have a:(s.heap.push { cls:=.type "list",data:=.seq #[] }).get? s.heap.objs.size=cb { cls:=.type "list",data:=.seq #[] }:=Mt _ rfl;refine⟨⟨_,a,rfl⟩,F.args_list_init_2 _ _,zj (A:=A.in1) (by simpa using l) j a λh' tk T6 c k g i=>?_⟩
 exact⟨rfl,m h' tk T6 c (λb o e=>k b o (MB<|Mj e) (Me _ e)) g i⟩
end
end _S
namespace _3
open PySem _2 _S
section
variable {X:Cx}{B:Bd}{pos:Pos}
theorem Gf{x z:Str}(b:Gl X x)(a:∃t,X.mg x=cb (.str z t))(c:(x==("__debug__":Str))=false:=by decide):DE X B (.Name x pos) (dC<|.str z):=by
 obtain⟨t,a⟩:=a;exact pC (v:=.str z) b a ⟨t,rfl⟩ (λ_=>rfl) c
def qo:sG:=λa M Q=>match a with
 |[.str z]=>z.cps.size<=1000000/\∀p,M p=ed->Q (.ref p) (M.upd p<|.lst<|eh z)
 |_=>False
theorem oq{K:Mp}{H:Hp}:∀(a:List Nat),Rps K H (a.map λc=>D.str ⟨#[c]⟩) (a.map λc=>V.str ⟨#[c]⟩)
 |[]=>rfl
 |_::a=>⟨_,_,rfl,rfl,oq a⟩
theorem mB:∀(a:List Nat)(vs:Ui),vs.length=a.length->(∀(i:Nat)(v:cx),vs[i]?=cb v->∃c u,a[i]?=cb c/\v=PB ⟨#[c]⟩ u)->Vals (a.map λc=>V.str ⟨#[c]⟩) vs
 |[],[],_,_=>.nil
 |[],_::_,h,_=>by simp at h
 |_::_,[],h,_=>by simp at h
 |c::a,v::vs,h,k=>by
  obtain⟨f,u,e,rfl⟩:=k 0 v rfl;cases e;exact .cons ⟨u,rfl⟩ (mB a vs (by simpa using h) λi w b=>k (i+1) w (by simpa using b))
theorem vo(hc:X.calm=true):bL X (.type "list") (liftC X qo):=by
 intro T0 s Z H xs us Q I r h;obtain⟨ds,M,QQ,rh,rp,h,up⟩:=h;unfold qo at h
 split at h
 .rename_i z
  obtain⟨v,rfl,rv⟩:=fH (ds:=[]) rp;cases rv;obtain⟨u,rfl,ru⟩:=iV r;obtain⟨t,rfl⟩:=ru;obtain⟨hz,h⟩:=h;refine list_str (I.ok.hd hc) (ME hz<|by decide) λh' tk T6 c k1 a1 a2=>?_
  have hn:H s.heap.objs.size=none:=I.hok.fresh (Mn _);have hv:Vals (z.cps.toList.map λc=>V.str ⟨#[c]⟩) T6.toList:=by
   refine mB _ _ (by rw[MP,MP];exact a2.1) λi v hv=>?_
   obtain⟨c,u,h1,h2⟩:=a2.2 i v (by rw[<- Nz];exact hv)
   exact⟨c,u,by rw[Nz];exact h1,h2⟩
  refine⟨.ref s.heap.objs.size,_,I.laid (t':=tk) (o:=.lst (z.cps.toList.map λc=>V.str ⟨#[c]⟩)) k1 (Mn _) (show ObjOk X.prog X.w _ _ _ (.lst _) from ⟨?_,T6.toList,c,hv,by rw[Array.toArray_toList];exact a1⟩),rfl,?_⟩
  .rw[Md];exact ME hz (by decide)
  .exact up _ _ (h _<|rh.fresh hn) _ _ (rh.put (by rw[hn];trivial) ⟨_,upd_same,oq _⟩) (Frm.put<|.inl hn) rfl
 .exact h.elim
end
end _3
namespace _3
open PySem _2
section
variable {X:Cx}{B:Bd}{s:ee}
theorem vb{h:g4}{x:D}:∀{ds:List D}{us:Ui},Hrs h ds us->∀(m:Nat)(c:m<us.length),∃d,ds[m]?=cb d/\qP h x us[m]=aH d x
 |[],_,r=>by cases r;intro m c;simp at c
 |d::ds,_,r=>by
  obtain⟨v,i,rfl,a,b⟩:=r;intro m c;cases m with
  |zero=>exact⟨d,rfl,tF a⟩
  |succ m=>
   obtain⟨g,e,f⟩:=vb (x:=x) b m (by simpa using c)
   exact⟨g,by simpa using e,by simpa using f⟩
def io:wm:=λx a M Q=>match x,a with
 |.lst xs,[z]=>xs.length<=1000/\bN 60 (dv M z)=true/\fits 60 xs=true/\match xs.findIdx? (λy=>aH y (dv M z)) with
   |some j=>Q (.int (j:Nat)) M
   |none=>False
 |_,_=>False
theorem vc(hu:X.A.units+64<mv):uO X "list.index" (liftM X io):=by
 intro G s Z H x vs v us Q I Y rv h;obtain⟨d,ds,M,QQ,P,r,rs,h,T⟩:=h;unfold io at h
 split at h
 .rename_i xs z
  obtain⟨p,ws,rfl,ht,r⟩:=r;obtain⟨w,rfl,q⟩:=fH (ds:=[]) rs;obtain⟨hl,J,K,h⟩:=h
  split at h
  .rename_i j C
   rw[NO]at C;obtain⟨hj,e1,W⟩:=C;cases Y;obtain⟨u,rfl,U⟩:=rv.one;obtain⟨a,L,⟨o,n,N,O,b,c⟩,_⟩:=I.list ht.sq;have g:=eJ I K r L;have R:=mO I P J q U;obtain⟨oc,od,ot,os⟩:=o;simp only at O b c;subst O b c;have hle:a.length=xs.length:=by
    have:=L.length;have:=r.length;lia
   have l:j<a.toArray.size:=by rw[Ml];lia
   refine oo QD ⟨_,N,rfl⟩ PySem.F.entry_list_index (PySem.F.args_list_index_2 _ _)
    (SeqAt.list_indexAt p a.toArray n ed os u (qP s.heap<|dv M z) j l (by lia) ?_ λm E f=>?_) ⟨N,λy hy=>?_,?_⟩
   .obtain⟨d',e,i⟩:=vb (x:=dv M z) g j (by lia)
    rw[Mi hj]at e;cases e;simpa [i] using e1
   .obtain⟨d',e,i⟩:=vb (x:=dv M z) g m (by rw[Ml]at E;exact E)
    have S:=W m f;rw[Mi (by lia)]at e
    cases e;simp only[List.getElem_toArray,i];simpa using S
   .exact fQ R J (by show X.A.units+1+60<mv;lia) g K y (by simpa using hy)
   .exact⟨.int (j:Int),H,I.tok _,⟨_,rfl⟩,T _ M h _ H P Frm.refl rfl⟩
  .exact h.elim
 .exact h.elim
end
section
variable {X:Cx}{B:Bd}{x:Str}{pos p:Pos}{e:g1}{es:Uk}{t:eN}{a:eC}{tab:List (Str×D)}
inductive TabT(X:Cx)(a:eC)(tab:List (Str×D)):Prop
 |mk {x:Str} (T:ModTab X.w X.K X.mg x a tab):TabT X a tab
def GlI(X:Cx)(x:Str)(n:Int):Prop:=∃t,X.mg x=cb (.int n t)
def GlS(X:Cx)(x z:Str):Prop:=∃t,X.mg x=cb (.str z t)
theorem Cb{n:Int}(b:Gl X x)(c:GlI X x n)(f:(x==("__debug__":Str))=eH):DE X B (.Name x pos) (dC<|.int n):=Gc b c f
theorem Cj{z:Str}(b:Gl X x)(c:GlS X x z)(f:(x==("__debug__":Str))=eH):DE X B (.Name x pos) (dC<|.str z):=Gf b c f
theorem BX(b:Gl X x)(c:X.mg x=cb (.ref a))(f:(x==("__debug__":Str))=eH):DE X B (.Name x pos) (dC<|.ref a):=pC (v:=.ref a) b c rfl (λ_=>rfl) f
theorem E4{f b:g1}{c g:bj}(T:TabT X a tab)(j:DE X B f c)(i:DE X B b g)(h:oE b):DE X B (.Subscript f b pos) (ak (yw tab a) c g):=by
 obtain⟨T⟩:=T;exact Fi (ix_T T) j i h
theorem ui(T:TabT X a tab):cq X (g0 .NotIn) (liftR2 X<|jp tab a):=by
 obtain⟨T⟩:=T;exact xV T
end
section
variable {P:gg}{w:g5}{K:Mp}{mg:Uq}{base:g4}{k:Nat}{f C:eC}{fd:ka}{N ps:Uh}{S:eC->Sd}{T:eC->DX->aB}{x T4:Str}{st:pd}
end
end _3
namespace _T
open PySem _2 _3
noncomputable def cW(i:Nat):Stmt:=PySem.Challenge.pw_twinstride_k82_whole_woven_does_either.main.body.getD i (.Pass ⟨0,0,0,0⟩)
noncomputable abbrev JZ:Stmt:=jB (cW 6) 0
noncomputable abbrev L6:Stmt:=jB (cW 6) 1
noncomputable abbrev F0:Stmt:=jB (cW 6) 2
noncomputable abbrev Fe:Stmt:=cW 7
noncomputable abbrev FQ:Stmt:=cW 8
noncomputable abbrev Ff:Stmt:=cW 9
noncomputable abbrev FK:Stmt:=cW 10
noncomputable abbrev Fj:Stmt:=cW 11
noncomputable abbrev FH:Stmt:=cW 12
noncomputable abbrev EL:Stmt:=cW 13
noncomputable abbrev EJ:Stmt:=cW 14
noncomputable abbrev EM:Stmt:=cW 15
noncomputable abbrev Fq:Stmt:=cW 25
noncomputable abbrev FL:Stmt:=cW 26
noncomputable abbrev Fs:Stmt:=cW 27
noncomputable abbrev E_:Stmt:=cW 28
noncomputable abbrev F1:Stmt:=cW 29
noncomputable abbrev FM:Stmt:=cW 30
noncomputable abbrev ER:Stmt:=cW 31
noncomputable abbrev EQ:Stmt:=cW 32
noncomputable abbrev Fm:Stmt:=cW 33
noncomputable abbrev KP:Stmt:=jB (cW 36) 0
noncomputable abbrev Fd:Stmt:=cW 37
noncomputable abbrev FD:Stmt:=cW 38
noncomputable abbrev F8:Stmt:=cW 39
noncomputable abbrev Lm:Stmt:=cW 40
noncomputable abbrev Lu:Stmt:=cW 41
noncomputable abbrev EW:Stmt:=cW 42
noncomputable abbrev FS:Stmt:=cW 43
noncomputable abbrev F5:Stmt:=cW 44
noncomputable abbrev Fp:Stmt:=cW 45
noncomputable abbrev FU:Stmt:=cW 47
noncomputable abbrev F9:Stmt:=cW 48
noncomputable abbrev FE:Stmt:=cW 49
noncomputable abbrev FG:Stmt:=cW 50
noncomputable abbrev F7:Stmt:=cW 51
noncomputable abbrev FT:Stmt:=cW 52
noncomputable abbrev Fa:Stmt:=cW 53
noncomputable abbrev EY:Stmt:=cW 54
noncomputable abbrev FF:Stmt:=cW 55
noncomputable abbrev Lo:Stmt:=cW 56
noncomputable abbrev Jw:Stmt:=cW 57
noncomputable abbrev Fk:Stmt:=cW 58
noncomputable abbrev Ly:Stmt:=cW 59
noncomputable abbrev Fo:Stmt:=cW 60
noncomputable abbrev EU:Stmt:=cW 61
noncomputable abbrev Ko:Stmt:=cW 62
noncomputable abbrev Fn:Stmt:=cW 63
noncomputable abbrev FI:Stmt:=cW 64
noncomputable abbrev Lz:Stmt:=cW 65
abbrev ja:Stmt:=cW 66
set_option genInjectivity false in
structure Ad where
 C_Walk:eC
 C_Weave:eC
 C_Dry:eC
 C_NoBuild:eC
 C_TooBig:eC
 (a1 a2 a3 a4 a5 a6 a7 a8 a9 a10 a11 a12 a13 a14 a15 a16 a17 a18 a19 a20 a21 a22 a23 a24 a25 a26 a27 a28 a29 a30 a31 a32 a33 a34 a35 a36 a37 a38 a39 a40 a41 a42 a43 a44 a45 a46 a47 a48 a49 a50 a51:eC)
 (d1 d2 d3 d4 d5 d6 d7 d8 d9 d10 d11 d12 d13 d14 d15 d16 d17 d18 d19 d20 d21 d22 d23 d24 d25 d26 d27 d28 d29 d30 d31 d32 d33 d34 d35 d36 d37 d38 d39 d40 d41 d42 d43 d44 d45 d46 d47 d48 d49 d50 d51:ka)
 RK:eC
noncomputable def cz:List (Str×D):=[("put",.mt [.str "name",.str "number"]),("take",.mt [.str "name",.str "piece"]),("pick",.mt [.str "name",.str "name"]),("sum",.mt [.str "name",.str "name",.str "name"]),("by",.mt [.str "name",.str "name",.str "name"]),("less",.mt [.str "name",.str "name",.str "name"]),("same",.mt [.str "name",.str "name",.str "name"]),("if",.mt [.str "name",.str "rows",.str "rows"]),("again",.mt [.str "name",.str "rows"])]
noncomputable def CP(ad:Ad)(EE:DX):aB:=al (f_ ad.C_Walk (ac 0) (ac 1) "plan") (al (f_ ad.C_Walk (ac 0) (rW<|aa (ak aw (ac 1)<|dC<|.int 1)<|aa (ak aw (ac 2)<|dC<|.int 0) ae) "numbers")<|al (f_ ad.C_Walk (ac 0) (ak aw (ac 2)<|dC<|.int 1) "pieces")<|al (f_ ad.C_Walk (ac 0) (ac 3) "most")<|f_ ad.C_Walk (ac 0) (br ae) "steps")
noncomputable def DU(ad:Ad):Sd:=aM ["self","plan","stand","most"] (CP ad)
theorem u_q8{ad:Ad}{b c a e:D}{M:Mem}{Q:DK}{E:DX}:DU ad [b,c,a,e] M Q E=CP ad (az E) { nx:=λ_ M'=>drp Q .non M',rt:=drp Q } [cb b,cb c,cb a,cb e] M:=rfl
noncomputable def CK(ad:Ad)(EE:DX):aB:=al (aA (ao<|ak oGe (bn bF<|aa (du ad.C_Walk (ac 0) "steps") ae)<|du ad.C_Walk (ac 0) "most") (eQ ad.C_Dry EE) ay) (bf<|fJ "list" bp (du ad.C_Walk (ac 0) "steps")<|aa (av<|aa (ac 1)<|aa (ac 2) ae) ae)
noncomputable def tM(ad:Ad):Sd:=aM ["self","place","number"] (CK ad)
theorem u_q3{ad:Ad}{b c a:D}{M:Mem}{Q:DK}{E:DX}:tM ad [b,c,a] M Q E=CK ad (az E) { nx:=λ_ M'=>drp Q .non M',rt:=drp Q } [cb b,cb c,cb a] M:=rfl
noncomputable def wN(ad:Ad)(EE:DX):aB:=al (ap (qh (ao<|ak ci (ak aw (du ad.C_Walk (ac 0) "numbers")<|ac 2)<|dC<|.int 0) (dC<|.int 0)<|dC<|.int 1)<|af 3) (al (bf<|j7 ad.C_Walk "note_step" (tM ad) EE 3 (ac 0)<|aa (ac 1)<|aa (ac 3) ae)<|ax<|ac 3)
noncomputable def oh(ad:Ad):Sd:=aM ["self","place","name","seen"] (wN ad)
theorem LI{ad:Ad}{b c a:D}{M:Mem}{Q:DK}{E:DX}:oh ad [b,c,a] M Q E=wN ad (az E) { nx:=λ_ M'=>drp Q .non M',rt:=drp Q } [cb b,cb c,cb a,ed] M:=rfl
noncomputable def xM(ad:Ad)(EE:DX):aB:=al (aA (ao<|ak ci (ac 0)<|dC<|.str "sum") (ax<|ak g8 (am<|ak aF (ac 1)<|ac 2)<|ac 3) ay) (al (aA (ao<|ak ci (ac 0)<|dC<|.str "by") (ax<|ak g8 (ak iP (ac 1)<|ac 2)<|ac 3) ay)<|al (aA (ao<|ak ci (ac 0)<|dC<|.str "less") (ax<|qh (ao<|ak yM (ac 1)<|ac 2) (dC<|.int 1)<|dC<|.int 0) ay)<|ax<|qh (ao<|ak ci (ac 1)<|ac 2) (dC<|.int 1)<|dC<|.int 0)
noncomputable def xb(ad:Ad):Sd:=aM ["word","y","z","wheel"] (xM ad)
theorem JJ{ad:Ad}{b c a e:D}{M:Mem}{Q:DK}{E:DX}:xb ad [b,c,a,e] M Q E=xM ad (az E) { nx:=λ_ M'=>drp Q .non M',rt:=drp Q } [cb b,cb c,cb a,cb e] M:=rfl
noncomputable def lR(ad:Ad)(EE:DX):aB:=al (aA (ao<|ak ci (ak aw (ac 2)<|dC<|.int 0)<|dC<|.str "take") (ax<|ak aw (ac 2)<|dC<|.int 2) ay) (al (aA (ao<|ak ci (ak aw (ac 2)<|dC<|.int 0)<|dC<|.str "pick") (ax<|ak g8 (ak aw (ac 1)<|ak aw (ac 2)<|dC<|.int 2)<|ak aw (ac 0)<|dC<|.int 2) ay)<|ax<|dC .non)
noncomputable def vZ(ad:Ad):Sd:=aM ["plan","numbers","row"] (lR ad)
theorem xp{ad:Ad}{b c a:D}{M:Mem}{Q:DK}{E:DX}:vZ ad [b,c,a] M Q E=lR ad (az E) { nx:=λ_ M'=>drp Q .non M',rt:=drp Q } [cb b,cb c,cb a] M:=rfl
noncomputable def kN(ad:Ad)(EE:DX):aB:=al (aA (ao<|ak ci (ak aw (ac 3)<|dC<|.int 0)<|dC<|.str "put") (ax<|ak aw (ac 3)<|dC<|.int 2) ay) (al (ap (am<|aj (vZ ad) EE 3<|aa (ac 0)<|aa (ac 1)<|aa (ac 3) ae)<|af 4)<|al (aA (ao<|ak li (ac 4)<|dC .non) (ax<|ak aw (ac 2)<|ac 4) ay)<|ax<|aj (xb ad) EE 4<|aa (ak aw (ac 3)<|dC<|.int 0)<|aa (ak aw (ac 1)<|ak aw (ac 3)<|dC<|.int 2)<|aa (ak aw (ac 1)<|ak aw (ac 3)<|dC<|.int 3)<|aa (ak aw (ac 0)<|dC<|.int 0) ae)
noncomputable def sw(ad:Ad):Sd:=aM ["plan","numbers","pieces","row","piece"] (kN ad)
theorem vJ{ad:Ad}{b c a e:D}{M:Mem}{Q:DK}{E:DX}:sw ad [b,c,a,e] M Q E=kN ad (az E) { nx:=λ_ M'=>drp Q .non M',rt:=drp Q } [cb b,cb c,cb a,cb e,ed] M:=rfl
noncomputable def vX(ad:Ad)(RM RO RQ RS:Sd)(EE:DX):aB:=bU (e_<|aa (ac 1) ae) (bQ 2<|aG (af 3)<|aG (af 4) bR) (bf<|aj RO EE 3<|aa (ac 0)<|aa (ac 4)<|aa (ak aF (ac 2)<|av<|aa (ac 3) ae) ae)
noncomputable def nM(ad:Ad)(RM RO RQ RS:Sd)(EE:DX):aB:=aA (ao<|ak ci (ak aw (ac 1)<|dC<|.int 0)<|dC<|.str "if") (bf<|aj RQ EE 3<|aa (ac 0)<|aa (ac 1)<|aa (ac 2) ae) (aA (ao<|ak ci (ak aw (ac 1)<|dC<|.int 0)<|dC<|.str "again") (bf<|aj RS EE 3<|aa (ac 0)<|aa (ac 1)<|aa (ac 2) ae)<|al (ap (am<|aj (sw ad) EE 4<|aa (du ad.C_Walk (ac 0) "plan")<|aa (du ad.C_Walk (ac 0) "numbers")<|aa (du ad.C_Walk (ac 0) "pieces")<|aa (ac 1) ae)<|af 3)<|al (bf<|j7 ad.C_Walk "note_step" (tM ad) EE 3 (ac 0)<|aa (ac 2)<|aa (ac 3) ae)<|ap (ac 3)<|gL (du ad.C_Walk (ac 0) "numbers")<|ak aw (ac 1)<|dC<|.int 1)
noncomputable def wn(ad:Ad)(RM RO RQ RS:Sd)(EE:DX):aB:=al (ap (am<|j7 ad.C_Walk "look" (oh ad) EE 3 (ac 0)<|aa (ac 2)<|aa (ak aw (ac 1)<|dC<|.int 1) ae)<|af 3) (bf<|aj RM EE 3<|aa (ac 0)<|aa (qh (ao<|ak ci (ac 3)<|dC<|.int 1) (ak aw (ac 1)<|dC<|.int 2)<|ak aw (ac 1)<|dC<|.int 3)<|aa (ak aF (ac 2)<|av<|aa (ac 3) ae) ae)
noncomputable def vM(ad:Ad)(RM RO RQ RS:Sd)(EE:DX):aB:=al (ap (dC<|.int 0)<|af 3) (g7 (ao<|ak ci (am<|j7 ad.C_Walk "look" (oh ad) EE 3 (ac 0)<|aa (ak aF (ac 2)<|av<|aa (ac 3) ae)<|aa (ak aw (ac 1)<|dC<|.int 1) ae)<|dC<|.int 1)<|al (bf<|aj RM EE 3<|aa (ac 0)<|aa (ak aw (ac 1)<|dC<|.int 2)<|aa (ak aF (ac 2)<|av<|aa (ac 3) ae) ae)<|uX 3 (dC<|.int 1) sX)
mutual
noncomputable def RM(ad:Ad):Nat->Sd
 |0=>λ_ _ _ _=>False
 |n+1=>aM ["walk","rows","place","j","row"] (vX ad (RM ad n) (RO ad n) (RQ ad n)<|RS ad n)
noncomputable def RO(ad:Ad):Nat->Sd
 |0=>λ_ _ _ _=>False
 |n+1=>aM ["walk","row","place","number"] (nM ad (RM ad n) (RO ad n) (RQ ad n)<|RS ad n)
noncomputable def RQ(ad:Ad):Nat->Sd
 |0=>λ_ _ _ _=>False
 |n+1=>aM ["walk","row","place","seen"] (wn ad (RM ad n) (RO ad n) (RQ ad n)<|RS ad n)
noncomputable def RS(ad:Ad):Nat->Sd
 |0=>λ_ _ _ _=>False
 |n+1=>aM ["walk","row","place","turn"] (vM ad (RM ad n) (RO ad n) (RQ ad n)<|RS ad n)
end
theorem K0{ad:Ad}{n:Nat}{b c a:D}{M:Mem}{Q:DK}{E:DX}:RM ad (n+1) [b,c,a] M Q E=vX ad (RM ad n) (RO ad n) (RQ ad n) (RS ad n) (az E) { nx:=λ_ M'=>drp Q .non M',rt:=drp Q } [cb b,cb c,cb a,ed,ed] M:=rfl
theorem Ba{ad:Ad}{n:Nat}{b c a:D}{M:Mem}{Q:DK}{E:DX}:RO ad (n+1) [b,c,a] M Q E=nM ad (RM ad n) (RO ad n) (RQ ad n) (RS ad n) (az E) { nx:=λ_ M'=>drp Q .non M',rt:=drp Q } [cb b,cb c,cb a,ed] M:=rfl
theorem LC{ad:Ad}{n:Nat}{b c a:D}{M:Mem}{Q:DK}{E:DX}:RQ ad (n+1) [b,c,a] M Q E=wn ad (RM ad n) (RO ad n) (RQ ad n) (RS ad n) (az E) { nx:=λ_ M'=>drp Q .non M',rt:=drp Q } [cb b,cb c,cb a,ed] M:=rfl
theorem LA{ad:Ad}{n:Nat}{b c a:D}{M:Mem}{Q:DK}{E:DX}:RS ad (n+1) [b,c,a] M Q E=vM ad (RM ad n) (RO ad n) (RQ ad n) (RS ad n) (az E) { nx:=λ_ M'=>drp Q .non M',rt:=drp Q } [cb b,cb c,cb a,ed] M:=rfl
noncomputable def wK(ad:Ad)(EE:DX):aB:=al (ap (rJ ad.C_Walk (DU ad) EE 4<|aa (ac 0)<|aa (ac 1)<|aa (ac 2) ae)<|af 3) (al (Ht ad.C_Dry (RM ad 24) 3 (aa (ac 3)<|aa (ak aw (ac 0)<|dC<|.int 3)<|aa (av ae) ae)<|ax<|av<|aa (du ad.C_Walk (ac 3) "steps")<|aa (dC .non) ae)<|ax<|av<|aa (du ad.C_Walk (ac 3) "steps")<|aa (bn bW<|aa (am<|b6 (cj<|ak aw (ac 0)<|dC<|.int 1) ["name"] [3] (af 0) cF<|ak aw (du ad.C_Walk (ac 1) "numbers")<|ac 0) ae) ae)
noncomputable def iW(ad:Ad):Sd:=aM ["plan","stand","most","walk"] (wK ad)
theorem KM{ad:Ad}{b c a:D}{M:Mem}{Q:DK}{E:DX}:iW ad [b,c,a] M Q E=wK ad (az E) { nx:=λ_ M'=>drp Q .non M',rt:=drp Q } [cb b,cb c,cb a,ed] M:=rfl
noncomputable def vS(ad:Ad)(EE:DX):aB:=al (ap (ak aw (g6<|aj (iW ad) EE 3<|aa (ac 0)<|aa (ac 1)<|aa (ac 2) ae)<|dC<|.int 1)<|af 3) (al (aA (ao<|ak uF (ac 3)<|dC .non) (ax<|dC .non) ay)<|ax<|ak aw (ac 3)<|dTM uI (ak aw (ac 0)<|dC<|.int 1)<|aa (ak aw (ac 0)<|dC<|.int 4) ae)
noncomputable def qY(ad:Ad):Sd:=aM ["plan","stand","most","end"] (vS ad)
theorem JL{ad:Ad}{b c a:D}{M:Mem}{Q:DK}{E:DX}:qY ad [b,c,a] M Q E=vS ad (az E) { nx:=λ_ M'=>drp Q .non M',rt:=drp Q } [cb b,cb c,cb a,ed] M:=rfl
noncomputable def xg(ad:Ad)(EE:DX):aB:=al (aA (jw (df<|bO<|bn b_<|aa (ac 0)<|aa (dC<|.ty "str") ae)<|df<|ao<|dJ zH zH (dC<|.int 1) (bn bF<|aa (ac 0) ae)<|dC<|.int 8) (ax<|dC<|.bl eH) ay) (ax<|bn mZ<|aa (am<|b6 (IN<|ac 0) ["sign"] [] (af 0) cF<|dJ CV CV (dC<|.str "a") (ac 0)<|dC<|.str "z") ae)
noncomputable def wL(ad:Ad):Sd:=aM ["thing"] (xg ad)
theorem JQ{ad:Ad}{a:D}{M:Mem}{Q:DK}{E:DX}:wL ad [a] M Q E=xg ad (az E) { nx:=λ_ M'=>drp Q .non M',rt:=drp Q } [cb a] M:=rfl
noncomputable def we(ad:Ad)(EE:DX):aB:=al (aA (jw (df<|bO<|bn b_<|aa (ac 0)<|aa (dC<|.ty "tuple") ae)<|df<|ao<|dJ zH zH (dC<|.int 1) (bn bF<|aa (ac 0) ae)<|dC<|.int 12) (ax<|dC<|.bl eH) ay) (ax<|eY (bn mZ<|aa (am<|b6 (cj<|ac 0) ["part"] [] (af 0) cF<|am<|aj (wL ad) jX 1<|aa (ac 0) ae) ae)<|ak ci (wa<|aa (ac 0) ae)<|bn bF<|aa (ac 0) ae)
noncomputable def vP(ad:Ad):Sd:=aM ["thing"] (we ad)
theorem K_{ad:Ad}{a:D}{M:Mem}{Q:DK}{E:DX}:vP ad [a] M Q E=we ad (az E) { nx:=λ_ M'=>drp Q .non M',rt:=drp Q } [cb a] M:=rfl
noncomputable def xH(ad:Ad)(EE:DX):aB:=ax (eY (bn b_<|aa (ac 1)<|aa (dC<|.ty "str") ae)<|ak qO (ac 1)<|ak aw (ac 0)<|dC<|.int 1)
noncomputable def sK(ad:Ad):Sd:=aM ["plan","thing"] (xH ad)
theorem KS{ad:Ad}{a b:D}{M:Mem}{Q:DK}{E:DX}:sK ad [a,b] M Q E=xH ad (az E) { nx:=λ_ M'=>drp Q .non M',rt:=drp Q } [cb a,cb b] M:=rfl
noncomputable def vL(ad:Ad)(EE:DX):aB:=al (aA (jw (df<|bO<|bn b_<|aa (ac 0)<|aa (dC<|.ty "int") ae)<|bO<|bn b_<|aa (ac 0)<|aa (dC<|.ty "bool") ae) (ax<|dC<|.bl eH) ay) (ax<|dJ zH zH (ac 1) (ac 0)<|ac 2)
noncomputable def lM(ad:Ad):Sd:=aM ["thing","least","most"] (vL ad)
theorem LD{ad:Ad}{b c a:D}{M:Mem}{Q:DK}{E:DX}:lM ad [b,c,a] M Q E=vL ad (az E) { nx:=λ_ M'=>drp Q .non M',rt:=drp Q } [cb b,cb c,cb a] M:=rfl
noncomputable def kZ(ad:Ad)(EE:DX):aB:=al (aA (ao<|ak ci (ac 1)<|dC<|.str "name") (ax<|aj (sK ad) EE 2<|aa (ac 0)<|aa (ac 2) ae) ay) (al (aA (ao<|ak ci (ac 1)<|dC<|.str "number") (ax<|aj (lM ad) EE 3<|aa (ac 2)<|aa (dC<|.int 0)<|aa (ak gb (ak aw (ac 0)<|dC<|.int 0)<|dC<|.int 1) ae) ay)<|al (aA (ao<|ak ci (ac 1)<|dC<|.str "piece") (ax<|aj (lM ad) EE 3<|aa (ac 2)<|aa (dC<|.int 0)<|aa (ak gb (ak aw (ac 0)<|dC<|.int 2)<|dC<|.int 1) ae) ay)<|ax<|dC<|.bl true)
noncomputable def nL(ad:Ad):Sd:=aM ["plan","kind","thing"] (kZ ad)
theorem wY{ad:Ad}{b c a:D}{M:Mem}{Q:DK}{E:DX}:nL ad [b,c,a] M Q E=kZ ad (az E) { nx:=λ_ M'=>drp Q .non M',rt:=drp Q } [cb b,cb c,cb a] M:=rfl
def jT(ad:Ad)(EE:DX):aB:=ax (bn mZ<|aa (am<|b6 (Gh<|aa (ak (yw cz ad.RK) (dC<|.ref ad.RK)<|ac 3)<|aa (am<|eM (ac 1) (aY<|dC<|.int 1) aD) ae) ["kind","part"] [0] (bQ 2<|aG (af 0)<|aG (af 1) bR) cF<|am<|aj (nL ad) jX 3<|aa (ac 2)<|aa (ac 0)<|aa (ac 1) ae) ae)
def jn(ad:Ad)(EE:DX):aB:=al (aA (gk (ao<|ak qO (dC<|.str "rows")<|ak (yw cz ad.RK) (dC<|.ref ad.RK)<|ac 3)<|ao<|ak ci (ac 2)<|dC<|.int 4) (ax<|dC<|.bl eH) ay) (jT ad EE)
def kj(ad:Ad)(EE:DX):aB:=al (aA (gk (ao<|ak ci (ac 3)<|dC<|.str "pick")<|ao<|ak ci (ak aw (ac 0)<|dC<|.int 2)<|dC<|.int 0) (ax<|dC<|.bl eH) ay) (jn ad EE)
def jM(ad:Ad)(EE:DX):aB:=al (aA (jw (ao<|ak (jp cz ad.RK) (ac 3)<|dC<|.ref ad.RK)<|ao<|ak ji (bn bF<|aa (ac 1) ae)<|ak aF (bn bF<|aa (ak (yw cz ad.RK) (dC<|.ref ad.RK)<|ac 3) ae)<|dC<|.int 1) (ax<|dC<|.bl eH) ay) (kj ad EE)
def km(ad:Ad)(EE:DX):aB:=al (ap (ak aw (ac 1)<|dC<|.int 0)<|af 3) (jM ad EE)
noncomputable def xA(ad:Ad)(EE:DX):aB:=al (aA (jw (df<|bO<|bn b_<|aa (ac 1)<|aa (dC<|.ty "tuple") ae)<|jw (ao<|ak ci (bn bF<|aa (ac 1) ae)<|dC<|.int 0)<|df<|bO<|bn b_<|aa (ak aw (ac 1)<|dC<|.int 0)<|aa (dC<|.ty "str") ae) (ax<|dC<|.bl eH) ay) (km ad EE)
noncomputable def nE(ad:Ad):Sd:=aM ["plan","thing","depth","word"] (xA ad)
theorem KB{ad:Ad}{b c a:D}{M:Mem}{Q:DK}{E:DX}:nE ad [b,c,a] M Q E=xA ad (az E) { nx:=λ_ M'=>drp Q .non M',rt:=drp Q } [cb b,cb c,cb a,ed] M:=rfl
def jG(ad:Ad)(EE:DX):aB:=ax (br<|aa (ak aw (ac 0)<|dC<|.int 2)<|aa (ak aw (ac 0)<|dC<|.int 3) ae)
def qu(ad:Ad)(EE:DX):aB:=al (aA (ao<|ak ci (ak aw (ac 0)<|dC<|.int 0)<|dC<|.str "again") (ax<|br<|aa (ak aw (ac 0)<|dC<|.int 2) ae) ay) (ax<|br ae)
noncomputable def xc(ad:Ad)(EE:DX):aB:=al (aA (ao<|ak ci (ak aw (ac 0)<|dC<|.int 0)<|dC<|.str "if") (jG ad EE) ay) (qu ad EE)
noncomputable def eZ(ad:Ad):Sd:=aM ["row"] (xc ad)
theorem KE{ad:Ad}{a:D}{M:Mem}{Q:DK}{E:DX}:eZ ad [a] M Q E=xc ad (az E) { nx:=λ_ M'=>drp Q .non M',rt:=drp Q } [cb a] M:=rfl
def jm(ad:Ad)(EE:DX):aB:=bf (fJ "list" cI (ac 2)<|aa (am<|b6 (cj<|am<|aj (eZ ad) EE 1<|aa (ac 6) ae) ["part"] [5] (af 0) cF<|av<|aa (ac 0)<|aa (ak aF (ac 1)<|dC<|.int 1) ae) ae)
def gQ(ad:Ad)(EE:DX):aB:=al (aA (df<|bO<|bn mZ<|aa (am<|b6 (cj<|ac 4) ["row"] [0,5] (af 0) cF<|am<|aj (nE ad) jX 3<|aa (ac 1)<|aa (ac 0)<|aa (ac 2) ae) ae) (ax<|dC<|.bl eH) ay) (bU (cj<|ac 4) (af 6)<|jm ad EE)
def qt(ad:Ad)(EE:DX):aB:=al (aA (ao<|ak uf (ac 1)<|dC<|.int 60) (ax<|dC<|.bl eH) ay) (gQ ad EE)
def p_(ad:Ad)(EE:DX):aB:=al (uX 1 (bn bF<|aa (ac 4) ae) sX) (qt ad EE)
def qd(ad:Ad)(EE:DX):aB:=al (aA (df<|bO<|bn b_<|aa (ac 4)<|aa (dC<|.ty "tuple") ae) (ax<|dC<|.bl eH) ay) (p_ ad EE)
def pI(ad:Ad)(EE:DX):aB:=al (ap (ak aw (ac 3)<|dC<|.int 1)<|af 5) (qd ad EE)
def pM(ad:Ad)(EE:DX):aB:=al (ap (ak aw (ac 3)<|dC<|.int 0)<|af 4) (pI ad EE)
def kC(ad:Ad)(EE:DX):aB:=al (ap (fJ "list" zw (ac 2) ae)<|af 3) (pM ad EE)
def qp(ad:Ad)(EE:DX):aB:=al (g7 (bO<|ac 2)<|kC ad EE) (ax<|dC<|.bl true)
def lV(ad:Ad)(EE:DX):aB:=al (ap (br<|aa (av<|aa (ak aw (ac 0)<|dC<|.int 3)<|aa (dC<|.int 0) ae) ae)<|af 2) (qp ad EE)
noncomputable def xG(ad:Ad)(EE:DX):aB:=al (ap (dC<|.int 0)<|af 1) (lV ad EE)
noncomputable def vE(ad:Ad):Sd:=aM ["plan","count","waiting","rows_and_depth","rows","depth","row"] (xG ad)
theorem Li{ad:Ad}{a:D}{M:Mem}{Q:DK}{E:DX}:vE ad [a] M Q E=xG ad (az E) { nx:=λ_ M'=>drp Q .non M',rt:=drp Q } [cb a,ed,ed,ed,ed,ed,ed] M:=rfl
noncomputable def wQ(ad:Ad)(EE:DX):aB:=al (aA (jw (df<|bO<|bn b_<|aa (ac 0)<|aa (dC<|.ty "tuple") ae)<|ao<|ak ji (bn bF<|aa (ac 0) ae)<|dC<|.int 5) (ax<|dC<|.bl eH) ay) (al (aA (jw (df<|bO<|am<|aj (lM ad) EE 3<|aa (ak aw (ac 0)<|dC<|.int 0)<|aa (dC<|.int 2)<|aa (dC<|.int 997) ae)<|df<|bO<|am<|aj (lM ad) EE 3<|aa (ak aw (ac 0)<|dC<|.int 2)<|aa (dC<|.int 0)<|aa (dC<|.int 40) ae) (ax<|dC<|.bl eH) ay)<|ax<|eY (am<|aj (vP ad) EE 1<|aa (ak aw (ac 0)<|dC<|.int 1) ae)<|eY (am<|aj (sK ad) EE 2<|aa (ac 0)<|aa (ak aw (ac 0)<|dC<|.int 4) ae)<|am<|aj (vE ad) EE 1<|aa (ac 0) ae)
noncomputable def rL(ad:Ad):Sd:=aM ["thing"] (wQ ad)
theorem JP{ad:Ad}{a:D}{M:Mem}{Q:DK}{E:DX}:rL ad [a] M Q E=wQ ad (az E) { nx:=λ_ M'=>drp Q .non M',rt:=drp Q } [cb a] M:=rfl
def p5(ad:Ad)(EE:DX):aB:=al (bf<|fJ "list" cI (ac 1)<|aa (am<|b6 (IN<|dC<|.str "abcdefghijklmnopqrstuvwxyz") ["letter"] [1,2] (af 0) cF<|am<|ak aF (ak aw (ac 1)<|ac 2)<|ac 0) ae) (uX 2 (dC<|.int 1) sX)
def k7(ad:Ad)(EE:DX):aB:=ax (ak aw (am<|b6 (cj<|ac 1) ["name"] [0] (af 0) (ao<|ak gu (ac 0)<|ac 1)<|ac 0)<|dC<|.int 0)
def k9(ad:Ad)(EE:DX):aB:=al (g7 (bO<|bn mZ<|aa (am<|b6 (cj<|ac 1) ["name"] [0] (af 0) cF<|ak qO (ac 0)<|ac 1) ae)<|p5 ad EE) (k7 ad EE)
noncomputable def wD(ad:Ad)(EE:DX):aB:=al (ap (bn qo<|aa (dC<|.str "abcdefghijklmnopqrstuvwxyz") ae)<|af 1) (al (ap (dC<|.int 0)<|af 2)<|k9 ad EE)
noncomputable def wV(ad:Ad):Sd:=aM ["names","told","at"] (wD ad)
theorem KC{ad:Ad}{a:D}{M:Mem}{Q:DK}{E:DX}:wV ad [a] M Q E=wD ad (az E) { nx:=λ_ M'=>drp Q .non M',rt:=drp Q } [cb a,ed,ed] M:=rfl
noncomputable def w8(ad:Ad)(EE:DX):aB:=ax (qh (ao<|ak ci (ak aw (ac 0)<|dC<|.int 0)<|dC<|.str "if") (br<|aa (dC<|.int 1)<|aa (dC<|.int 0) ae)<|br<|aa (dC<|.int 0) ae)
noncomputable def sY(ad:Ad):Sd:=aM ["row"] (w8 ad)
theorem KQ{ad:Ad}{a:D}{M:Mem}{Q:DK}{E:DX}:sY ad [a] M Q E=w8 ad (az E) { nx:=λ_ M'=>drp Q .non M',rt:=drp Q } [cb a] M:=rfl
def qf(ad:Ad)(EE:DX):aB:=aA (gk (jw (bO<|am<|aj (eZ ad) EE 1<|aa (ac 0) ae)<|bO<|am<|aj (eZ ad) EE 1<|aa (ac 1) ae)<|ao<|ak ji (am<|eM (ac 0) aD<|aY<|dC<|.int 2)<|am<|eM (ac 1) aD<|aY<|dC<|.int 2) (eQ ad.C_NoBuild EE) ay
noncomputable def EA(ad:Ad)(EE:DX):aB:=al (aA (jw (ao<|ak ci (ak aw (ac 0)<|dC<|.int 0)<|dC<|.str "pick")<|ao<|ak ci (ak aw (ac 1)<|dC<|.int 0)<|dC<|.str "pick") (eQ ad.C_NoBuild EE) ay) (qf ad EE)
noncomputable def ED(ad:Ad):Sd:=aM ["row","other"] (EA ad)
theorem u_q0{ad:Ad}{a b:D}{M:Mem}{Q:DK}{E:DX}:ED ad [a,b] M Q E=EA ad (az E) { nx:=λ_ M'=>drp Q .non M',rt:=drp Q } [cb a,cb b] M:=rfl
def jS(ad:Ad)(RH RL:Sd)(EE:DX):aB:=bf (fJ "list" cI (ac 3)<|aa (am<|aj RL EE 3<|aa (ac 5)<|aa (ak aw (ac 1)<|ac 4)<|aa (ak aF (ac 2)<|av<|aa (ac 4) ae) ae) ae)
def jQ(ad:Ad)(RH RL:Sd)(EE:DX):aB:=bf (fJ "list" bp (ac 3)<|aa (av<|aa (ak aF (ac 2)<|av<|aa (ac 4) ae)<|aa (ac 5)<|aa (ak aw (ac 1)<|ac 4) ae) ae)
def j_(ad:Ad)(RH RL:Sd)(EE:DX):aB:=aA (bO<|am<|aj (eZ ad) EE 1<|aa (ac 5) ae) (jS ad RH RL EE) (jQ ad RH RL EE)
def jx(ad:Ad)(RH RL:Sd)(EE:DX):aB:=al (bf<|aj (ED ad) EE 2<|aa (ac 5)<|aa (ak aw (ac 1)<|ac 4) ae) (j_ ad RH RL EE)
def ku(ad:Ad)(RH RL:Sd)(EE:DX):aB:=al (bU (e_<|aa (ac 0) ae) (bQ 2<|aG (af 4)<|aG (af 5) bR)<|jx ad RH RL EE) (ax<|ac 3)
noncomputable def xF(ad:Ad)(RH RL:Sd)(EE:DX):aB:=al (aA (ao<|ak ji (bn bF<|aa (ac 0) ae)<|bn bF<|aa (ac 1) ae) (eQ ad.C_NoBuild EE) ay) (al (ap (br ae)<|af 3)<|ku ad RH RL EE)
def mq(ad:Ad)(RH RL:Sd)(EE:DX):aB:=bf (fJ "list" cI (ac 3)<|aa (am<|aj RH EE 3<|aa (ac 5)<|aa (ac 6)<|aa (ak aF (ac 2)<|av<|aa (ac 4) ae) ae) ae)
def ub(ad:Ad)(RH RL:Sd)(EE:DX):aB:=al (bU (rK<|aa (am<|aj (sY ad) EE 1<|aa (ac 0) ae)<|aa (am<|aj (eZ ad) EE 1<|aa (ac 0) ae)<|aa (am<|aj (eZ ad) EE 1<|aa (ac 1) ae) ae) (bQ 3<|aG (af 4)<|aG (af 5)<|aG (af 6) bR)<|mq ad RH RL EE) (ax<|ac 3)
noncomputable def DF(ad:Ad)(RH RL:Sd)(EE:DX):aB:=al (ap (br ae)<|af 3) (ub ad RH RL EE)
mutual
noncomputable def RH(ad:Ad):Nat->Sd
 |0=>λ_ _ _ _=>False
 |n+1=>aM ["rows","others","place","told","j","row"] (xF ad (RH ad n)<|RL ad n)
noncomputable def RL(ad:Ad):Nat->Sd
 |0=>λ_ _ _ _=>False
 |n+1=>aM ["row","other","place","told","branch","rows","others"] (DF ad (RH ad n)<|RL ad n)
end
theorem Ke{ad:Ad}{n:Nat}{b c a:D}{M:Mem}{Q:DK}{E:DX}:RH ad (n+1) [b,c,a] M Q E=xF ad (RH ad n) (RL ad n) (az E) { nx:=λ_ M'=>drp Q .non M',rt:=drp Q } [cb b,cb c,cb a,ed,ed,ed] M:=rfl
theorem u_q6{ad:Ad}{n:Nat}{b c a:D}{M:Mem}{Q:DK}{E:DX}:RL ad (n+1) [b,c,a] M Q E=DF ad (RH ad n) (RL ad n) (az E) { nx:=λ_ M'=>drp Q .non M',rt:=drp Q } [cb b,cb c,cb a,ed,ed,ed,ed] M:=rfl
def kf(ad:Ad)(EE:DX):aB:=ax (bn dR<|aa (am<|b6 (cj<|ac 2) ["place","row","beside"] [] (bQ 3<|aG (af 0)<|aG (af 1)<|aG (af 2) bR) (ao<|ak ji (ac 1)<|ac 2)<|ac 0) ae)
def o_(ad:Ad)(EE:DX):aB:=al (ap (am<|aj (RH ad 24) EE 3<|aa (ak aw (ac 0)<|dC<|.int 3)<|aa (ak aw (ac 1)<|dC<|.int 3)<|aa (av ae) ae)<|af 2) (kf ad EE)
noncomputable def wG(ad:Ad)(EE:DX):aB:=al (aA (jw (ao<|ak ji (am<|eM (ac 0) aD<|aY<|dC<|.int 3)<|am<|eM (ac 1) aD<|aY<|dC<|.int 3)<|ao<|ak ji (ak aw (ac 0)<|dC<|.int 4)<|ak aw (ac 1)<|dC<|.int 4) (eQ ad.C_NoBuild EE) ay) (o_ ad EE)
noncomputable def sS(ad:Ad):Sd:=aM ["one","other","pairs"] (wG ad)
theorem Lp{ad:Ad}{a b:D}{M:Mem}{Q:DK}{E:DX}:sS ad [a,b] M Q E=wG ad (az E) { nx:=λ_ M'=>drp Q .non M',rt:=drp Q } [cb a,cb b,ed] M:=rfl
def oS(ad:Ad)(EE:DX):aB:=f_ ad.C_Weave (ac 0) (bn pG<|aa (am<|b6 (e_<|aa (am<|aj (sS ad) EE 2<|aa (ac 1)<|aa (ac 2) ae) ae) ["i","place"] [1] (bQ 2<|aG (af 0)<|aG (af 1) bR) cF<|av<|aa (ac 1)<|aa (am<|ak aF (ak aw (ac 2)<|dC<|.int 2)<|ac 0) ae) ae) "pieces"
noncomputable def BH(ad:Ad)(EE:DX):aB:=al (f_ ad.C_Weave (ac 0) (am<|aj (wV ad) EE 1<|aa (ak aw (ac 1)<|dC<|.int 1) ae) "name") (oS ad EE)
noncomputable def BJ(ad:Ad):Sd:=aM ["self","one","other"] (BH ad)
theorem u_q4{ad:Ad}{b c a:D}{M:Mem}{Q:DK}{E:DX}:BJ ad [b,c,a] M Q E=BH ad (az E) { nx:=λ_ M'=>drp Q .non M',rt:=drp Q } [cb b,cb c,cb a] M:=rfl
def jD(ad:Ad)(RI RJ:Sd)(EE:DX):aB:=bf (fJ "list" cI (ac 4)<|aa (am<|aj RJ EE 4<|aa (ac 0)<|aa (ac 6)<|aa (ak aw (ac 2)<|ac 5)<|aa (ak aF (ac 3)<|av<|aa (ac 5) ae) ae) ae)
def oQ(ad:Ad)(RI RJ:Sd)(EE:DX):aB:=al (bU (e_<|aa (ac 1) ae) (bQ 2<|aG (af 5)<|aG (af 6) bR)<|jD ad RI RJ EE) (ax<|bn bW<|aa (ac 4) ae)
noncomputable def wC(ad:Ad)(RI RJ:Sd)(EE:DX):aB:=al (ap (br ae)<|af 4) (oQ ad RI RJ EE)
def k8(ad:Ad)(RI RJ:Sd)(EE:DX):aB:=ax (br<|aa (av<|aa (dC<|.str "take")<|aa (du ad.C_Weave (ac 0) "name")<|aa (ak aw (du ad.C_Weave (ac 0) "pieces")<|ac 3) ae)<|aa (av<|aa (dC<|.str "if")<|aa (du ad.C_Weave (ac 0) "name")<|aa (av<|aa (ac 2) ae)<|aa (av<|aa (ac 1) ae) ae) ae)
def gP(ad:Ad)(RI RJ:Sd)(EE:DX):aB:=bf (fJ "list" bp (ac 4)<|aa (am<|aj RI EE 4<|aa (ac 0)<|aa (ac 6)<|aa (ac 7)<|aa (ak aF (ac 3)<|av<|aa (ac 5) ae) ae) ae)
def gC(ad:Ad)(RI RJ:Sd)(EE:DX):aB:=ax (qh (bO<|ac 4) (br<|aa (ak aF (am<|eM (ac 1) aD<|aY<|dC<|.int 2)<|bn bW<|aa (ac 4) ae) ae)<|br<|aa (ac 1) ae)
def kE(ad:Ad)(RI RJ:Sd)(EE:DX):aB:=al (bU (rK<|aa (am<|aj (sY ad) EE 1<|aa (ac 1) ae)<|aa (am<|aj (eZ ad) EE 1<|aa (ac 1) ae)<|aa (am<|aj (eZ ad) EE 1<|aa (ac 2) ae) ae) (bQ 3<|aG (af 5)<|aG (af 6)<|aG (af 7) bR)<|gP ad RI RJ EE) (gC ad RI RJ EE)
noncomputable def wq(ad:Ad)(RI RJ:Sd)(EE:DX):aB:=al (aA (ao<|ak qO (ac 3)<|du ad.C_Weave (ac 0) "pieces") (k8 ad RI RJ EE) ay) (al (ap (br ae)<|af 4)<|kE ad RI RJ EE)
mutual
noncomputable def RI(ad:Ad):Nat->Sd
 |0=>λ_ _ _ _=>False
 |n+1=>aM ["weave","rows","others","place","told","j","row"] (wC ad (RI ad n)<|RJ ad n)
noncomputable def RJ(ad:Ad):Nat->Sd
 |0=>λ_ _ _ _=>False
 |n+1=>aM ["weave","row","other","place","within","branch","rows","others"] (wq ad (RI ad n)<|RJ ad n)
end
theorem Kh{ad:Ad}{n:Nat}{b c a e:D}{M:Mem}{Q:DK}{E:DX}:RI ad (n+1) [b,c,a,e] M Q E=wC ad (RI ad n) (RJ ad n) (az E) { nx:=λ_ M'=>drp Q .non M',rt:=drp Q } [cb b,cb c,cb a,cb e,ed,ed,ed] M:=rfl
theorem L7{ad:Ad}{n:Nat}{b c a e:D}{M:Mem}{Q:DK}{E:DX}:RJ ad (n+1) [b,c,a,e] M Q E=wq ad (RI ad n) (RJ ad n) (az E) { nx:=λ_ M'=>drp Q .non M',rt:=drp Q } [cb b,cb c,cb a,cb e,ed,ed,ed,ed] M:=rfl
def jv(ad:Ad)(EE:DX):aB:=al (aA (df<|bO<|am<|aj (rL ad) EE 1<|aa (ac 4) ae) (eQ ad.C_TooBig EE) ay) (ax<|ac 4)
def jE(ad:Ad)(EE:DX):aB:=al (ap (av<|aa (ak aw (ac 0)<|dC<|.int 0)<|aa (ak aF (ak aw (ac 0)<|dC<|.int 1)<|av<|aa (du ad.C_Weave (ac 2) "name") ae)<|aa (am<|ak aF (ak aw (ac 0)<|dC<|.int 2)<|bn vV<|aa (du ad.C_Weave (ac 2) "pieces") ae)<|aa (ac 3)<|aa (ak aw (ac 0)<|dC<|.int 4) ae)<|af 4) (jv ad EE)
def jL(ad:Ad)(EE:DX):aB:=al (ap (am<|aj (RI ad 24) EE 4<|aa (ac 2)<|aa (ak aw (ac 0)<|dC<|.int 3)<|aa (ak aw (ac 1)<|dC<|.int 3)<|aa (av ae) ae)<|af 3) (jE ad EE)
noncomputable def w6(ad:Ad)(EE:DX):aB:=al (ap (rJ ad.C_Weave (BJ ad) EE 3<|aa (ac 0)<|aa (ac 1) ae)<|af 2) (jL ad EE)
noncomputable def xn(ad:Ad):Sd:=aM ["one","other","weave","rows","plan"] (w6 ad)
theorem L0{ad:Ad}{a b:D}{M:Mem}{Q:DK}{E:DX}:xn ad [a,b] M Q E=w6 ad (az E) { nx:=λ_ M'=>drp Q .non M',rt:=drp Q } [cb a,cb b,ed,ed,ed] M:=rfl
noncomputable def xz(ad:Ad)(EE:DX):aB:=al (ap (ak g8 (ak aF (ak aF (ak iP (ac 0)<|dC<|.int 6364136223846793005)<|ak iP (ac 1)<|dC<|.int 1442695040888963407)<|dC<|.int 97)<|dC<|.int 18446744073709551616)<|af 2) (al (ap (ak g8 (ak iP (ak KJ (ac 2)<|ak oC (ac 2)<|dC<|.int 2147483648)<|dC<|.int 2685821657736338717)<|dC<|.int 18446744073709551616)<|af 2)<|ax<|ak oC (ac 2)<|dC<|.int 1048576)
noncomputable def kT(ad:Ad):Sd:=aM ["cell","turn","one"] (xz ad)
theorem Km{ad:Ad}{a b:D}{M:Mem}{Q:DK}{E:DX}:kT ad [a,b] M Q E=xz ad (az E) { nx:=λ_ M'=>drp Q .non M',rt:=drp Q } [cb a,cb b,ed] M:=rfl
noncomputable def xw(ad:Ad)(EE:DX):aB:=al (ap (dC<|.int 7)<|af 1) (al (bU (cj<|am<|eM (ac 0) aD<|aY<|dC<|.int 63) (af 2)<|ap (ak g8 (ak aF (ak iP (ac 1)<|dC<|.int 1000003)<|ac 2)<|dC<|.int 18446744073709551616)<|af 1)<|ax<|br<|aa (bn AT<|aa (am<|eM (ac 0) aD<|aY<|dC<|.int 63) ae)<|aa (dC<|.int 0)<|aa (dC<|.int 0)<|aa (ac 1) ae)
noncomputable def vT(ad:Ad):Sd:=aM ["script","seed","cell"] (xw ad)
theorem JA{ad:Ad}{a:D}{M:Mem}{Q:DK}{E:DX}:vT ad [a] M Q E=xw ad (az E) { nx:=λ_ M'=>drp Q .non M',rt:=drp Q } [cb a,ed,ed] M:=rfl
noncomputable def vO(ad:Ad)(EE:DX):aB:=al (ap (ak aF (ak aw (ac 0)<|dC<|.int 1)<|dC<|.int 1)<|gL (ac 0)<|dC<|.int 1) (al (aA (gk (ao<|ak ci (ak aw (ac 0)<|dC<|.int 2)<|dC<|.int 0)<|ao<|ak ji (ak aw (ac 0)<|dC<|.int 0)<|am<|br ae) (al (ap (fJ "list" zw (ak aw (ac 0)<|dC<|.int 0)<|aa (dC<|.int 0) ae)<|af 2)<|al (aA (ao<|ak yM (ac 2)<|ak Ie (dC<|.int 10)<|dC<|.int 18) (ax<|ak g8 (am<|aj (kT ad) EE 2<|aa (ac 2)<|aa (ak aw (ac 0)<|dC<|.int 1) ae)<|ac 1) ay)<|ap (ac 2)<|gL (ac 0)<|dC<|.int 2) ay)<|al (aA (ao<|ak ci (ak aw (ac 0)<|dC<|.int 2)<|dC<|.int 0) (ax<|ak g8 (am<|aj (kT ad) EE 2<|aa (ak aw (ac 0)<|dC<|.int 3)<|aa (ak aw (ac 0)<|dC<|.int 1) ae)<|ac 1) ay)<|al (ap (ak g8 (ak aw (ac 0)<|dC<|.int 2)<|ac 1)<|af 3)<|al (ap (ak oC (ak aw (ac 0)<|dC<|.int 2)<|ac 1)<|gL (ac 0)<|dC<|.int 2)<|ax<|ac 3)
noncomputable def ba(ad:Ad):Sd:=aM ["pot","many","cell","found"] (vO ad)
theorem JH{ad:Ad}{a b:D}{M:Mem}{Q:DK}{E:DX}:ba ad [a,b] M Q E=vO ad (az E) { nx:=λ_ M'=>drp Q .non M',rt:=drp Q } [cb a,cb b,ed,ed] M:=rfl
noncomputable def xq(ad:Ad)(EE:DX):aB:=al (ap (am<|aj (ba ad) EE 2<|aa (ac 0)<|aa (dC<|.int 26) ae)<|af 2) (al (ap (br ae)<|af 3)<|al (bU (og<|aa (ac 1) ae) (af 4)<|al (ap (ak aw (dC<|.str "abcdefghijklmnopqrstuvwxyz")<|ak g8 (ak aF (ac 2)<|ak iP (dC<|.int 7)<|ac 4)<|dC<|.int 26)<|af 5)<|bf<|fJ "list" bp (ac 3)<|aa (ak iP (ac 5)<|ak aF (dC<|.int 1)<|am<|aj (ba ad) EE 2<|aa (ac 0)<|aa (dC<|.int 8) ae) ae)<|ax<|bn bW<|aa (ac 3) ae)
noncomputable def v_(ad:Ad):Sd:=aM ["pot","many","turn","names","k","sign"] (xq ad)
theorem Lw{ad:Ad}{a b:D}{M:Mem}{Q:DK}{E:DX}:v_ ad [a,b] M Q E=xq ad (az E) { nx:=λ_ M'=>drp Q .non M',rt:=drp Q } [cb a,cb b,ed,ed,ed,ed] M:=rfl
noncomputable def wu(ad:Ad)(EE:DX):aB:=al (ap (ac 1)<|bQ 3<|aG (af 2)<|aG (af 3)<|aG (af 4) bR) (al (ap (am<|br<|aa (dC<|.str "put")<|aa (dC<|.str "sum")<|aa (dC<|.str "by")<|aa (dC<|.str "less")<|aa (dC<|.str "same")<|aa (dC<|.str "sum")<|aa (dC<|.str "put")<|aa (dC<|.str "take")<|aa (dC<|.str "pick") ae)<|af 5)<|al (ap (ak aw (ac 5)<|am<|aj (ba ad) EE 2<|aa (ac 0)<|aa (qh (ao<|ak uf (ac 4)<|dC<|.int 0) (dC<|.int 9)<|dC<|.int 7) ae)<|af 6)<|al (ap (ak aw (ac 3)<|am<|aj (ba ad) EE 2<|aa (ac 0)<|aa (bn bF<|aa (ac 3) ae) ae)<|af 7)<|al (aA (ao<|ak ci (ac 6)<|dC<|.str "put") (ax<|av<|aa (ac 6)<|aa (ac 7)<|aa (aj (ba ad) EE 2<|aa (ac 0)<|aa (ac 2) ae) ae) ay)<|al (aA (ao<|ak ci (ac 6)<|dC<|.str "take") (ax<|av<|aa (ac 6)<|aa (ac 7)<|aa (aj (ba ad) EE 2<|aa (ac 0)<|aa (ac 4) ae) ae) ay)<|al (ap (ak aw (ac 3)<|am<|aj (ba ad) EE 2<|aa (ac 0)<|aa (bn bF<|aa (ac 3) ae) ae)<|af 8)<|al (aA (ao<|ak ci (ac 6)<|dC<|.str "pick") (ax<|av<|aa (ac 6)<|aa (ac 7)<|aa (ac 8) ae) ay)<|ax<|av<|aa (ac 6)<|aa (ac 7)<|aa (ac 8)<|aa (ak aw (ac 3)<|am<|aj (ba ad) EE 2<|aa (ac 0)<|aa (bn bF<|aa (ac 3) ae) ae) ae)
noncomputable def n_(ad:Ad):Sd:=aM ["pot","told","m","names","many","ways","way","x","y"] (wu ad)
theorem LB{ad:Ad}{a b:D}{M:Mem}{Q:DK}{E:DX}:n_ ad [a,b] M Q E=wu ad (az E) { nx:=λ_ M'=>drp Q .non M',rt:=drp Q } [cb a,cb b,ed,ed,ed,ed,ed,ed,ed] M:=rfl
noncomputable def wB(ad:Ad)(RU RT:Sd)(EE:DX):aB:=al (ap (ac 1)<|bQ 3<|aG (af 4)<|aG (af 5)<|aG (af 6) bR) (al (ap (ak aw (ac 5)<|am<|aj (ba ad) EE 2<|aa (ac 0)<|aa (bn bF<|aa (ac 5) ae) ae)<|af 7)<|al (ap (am<|aj RT EE 5<|aa (ac 0)<|aa (ac 1)<|aa (ac 2)<|aa (ak aF (ac 3)<|dC<|.int 1)<|aa (dC<|.int 5) ae)<|af 8)<|al (ap (am<|aj (ba ad) EE 2<|aa (ac 0)<|aa (dC<|.int 5) ae)<|af 9)<|al (aA (ao<|ak yM (ac 9)<|dC<|.int 2) (ax<|br<|aa (av<|aa (dC<|.str "if")<|aa (ac 7)<|aa (ac 8)<|aa (aj RT EE 5<|aa (ac 0)<|aa (ac 1)<|aa (ac 2)<|aa (ak aF (ac 3)<|dC<|.int 1)<|aa (dC<|.int 5) ae) ae) ae) ay)<|al (aA (ao<|ak ci (ac 9)<|dC<|.int 2) (ax<|br<|aa (av<|aa (dC<|.str "again")<|aa (ac 7)<|aa (ac 8) ae) ae) ay)<|al (ap (ak aw (ac 5)<|am<|aj (ba ad) EE 2<|aa (ac 0)<|aa (bn bF<|aa (ac 5) ae) ae)<|af 10)<|ax<|br<|aa (av<|aa (dC<|.str "put")<|aa (ac 7)<|aa (aj (ba ad) EE 2<|aa (ac 0)<|aa (bn G3<|aa (ac 4)<|aa (dC<|.int 9) ae) ae) ae)<|aa (av<|aa (dC<|.str "put")<|aa (ac 10)<|aa (ak gb (ac 4)<|dC<|.int 1) ae)<|aa (av<|aa (dC<|.str "again")<|aa (ac 7)<|aa (ak aF (ac 8)<|av<|aa (av<|aa (dC<|.str "sum")<|aa (ac 7)<|aa (ac 7)<|aa (ac 10) ae) ae) ae) ae)
noncomputable def wP(ad:Ad)(RU RT:Sd)(EE:DX):aB:=al (ap (br ae)<|af 5) (al (bU (og<|aa (am<|aj (ba ad) EE 2<|aa (ac 0)<|aa (ac 4) ae) ae) (af 6)<|aA (gk (ao<|ak uf (ak aw (ac 2)<|dC<|.int 0)<|dC<|.int 4)<|gk (ao<|ak yM (ac 3)<|dC<|.int 4)<|ao<|ak ci (am<|aj (ba ad) EE 2<|aa (ac 0)<|aa (dC<|.int 4) ae)<|dC<|.int 0) (al (ap (ak gb (ak aw (ac 2)<|dC<|.int 0)<|dC<|.int 4)<|gL (ac 2)<|dC<|.int 0)<|ap (ak aF (ac 5)<|am<|aj RU EE 4<|aa (ac 0)<|aa (ac 1)<|aa (ac 2)<|aa (ac 3) ae)<|af 5)<|aA (ao<|ak uf (ak aw (ac 2)<|dC<|.int 0)<|dC<|.int 0) (al (ap (ak gb (ak aw (ac 2)<|dC<|.int 0)<|dC<|.int 1)<|gL (ac 2)<|dC<|.int 0)<|bf<|fJ "list" bp (ac 5)<|aa (am<|aj (n_ ad) EE 2<|aa (ac 0)<|aa (ac 1) ae) ae) ay)<|ax<|bn bW<|aa (ac 5) ae)
mutual
noncomputable def RU(ad:Ad):Nat->Sd
 |0=>λ_ _ _ _=>False
 |n+1=>aM ["pot","told","room","deep","m","names","many","x","first","way","y"] (wB ad (RU ad n)<|RT ad n)
noncomputable def RT(ad:Ad):Nat->Sd
 |0=>λ_ _ _ _=>False
 |n+1=>aM ["pot","told","room","deep","most","rows","k"] (wP ad (RU ad n)<|RT ad n)
end
theorem Ku{ad:Ad}{n:Nat}{b c a e:D}{M:Mem}{Q:DK}{E:DX}:RU ad (n+1) [b,c,a,e] M Q E=wB ad (RU ad n) (RT ad n) (az E) { nx:=λ_ M'=>drp Q .non M',rt:=drp Q } [cb b,cb c,cb a,cb e,ed,ed,ed,ed,ed,ed,ed] M:=rfl
theorem Kd{ad:Ad}{n:Nat}{e a b f c:D}{M:Mem}{Q:DK}{E:DX}:RT ad (n+1) [e,a,b,f,c] M Q E=wP ad (RU ad n) (RT ad n) (az E) { nx:=λ_ M'=>drp Q .non M',rt:=drp Q } [cb e,cb a,cb b,cb f,cb c,ed,ed] M:=rfl
noncomputable def wj(ad:Ad)(EE:DX):aB:=al (ap (ak aw (am<|br<|aa (dC<|.int 2)<|aa (dC<|.int 3)<|aa (ak aF (dC<|.int 2)<|am<|aj (ba ad) EE 2<|aa (ac 0)<|aa (dC<|.int 9) ae)<|aa (ak aF (dC<|.int 2)<|am<|aj (ba ad) EE 2<|aa (ac 0)<|aa (dC<|.int 996) ae) ae)<|am<|aj (ba ad) EE 2<|aa (ac 0)<|aa (dC<|.int 4) ae)<|af 2) (al (ap (am<|aj (v_ ad) EE 2<|aa (ac 0)<|aa (ak aF (dC<|.int 1)<|am<|aj (ba ad) EE 2<|aa (ac 0)<|aa (ak aw (am<|br<|aa (dC<|.int 3)<|aa (dC<|.int 5)<|aa (dC<|.int 12) ae)<|am<|aj (ba ad) EE 2<|aa (ac 0)<|aa (dC<|.int 3) ae) ae) ae)<|af 3)<|al (ap (ak aw (am<|br<|aa (dC<|.int 0)<|aa (ak aF (dC<|.int 1)<|am<|aj (ba ad) EE 2<|aa (ac 0)<|aa (dC<|.int 4) ae)<|aa (am<|aj (ba ad) EE 2<|aa (ac 0)<|aa (dC<|.int 41) ae) ae)<|am<|aj (ba ad) EE 2<|aa (ac 0)<|aa (dC<|.int 3) ae)<|af 4)<|al (ap (am<|aj (RT ad 24) EE 5<|aa (ac 0)<|aa (av<|aa (ac 2)<|aa (ac 3)<|aa (ac 4) ae)<|aa (br<|aa (ac 1) ae)<|aa (dC<|.int 0)<|aa (ak aw (am<|br<|aa (dC<|.int 6)<|aa (dC<|.int 12)<|aa (dC<|.int 30) ae)<|am<|aj (ba ad) EE 2<|aa (ac 0)<|aa (dC<|.int 3) ae) ae)<|af 5)<|ax<|av<|aa (ac 2)<|aa (ac 3)<|aa (ac 4)<|aa (ac 5)<|aa (ak aw (ac 3)<|am<|aj (ba ad) EE 2<|aa (ac 0)<|aa (bn bF<|aa (ac 3) ae) ae) ae)
noncomputable def wU(ad:Ad):Sd:=aM ["pot","most","m","names","many","rows"] (wj ad)
theorem JX{ad:Ad}{a b:D}{M:Mem}{Q:DK}{E:DX}:wU ad [a,b] M Q E=wj ad (az E) { nx:=λ_ M'=>drp Q .non M',rt:=drp Q } [cb a,cb b,ed,ed,ed,ed] M:=rfl
noncomputable def wg(ad:Ad)(EE:DX):aB:=al (ap (bn bW<|aa (am<|b6 (cj<|ak aw (ac 1)<|dC<|.int 1) ["name"] [0,1] (af 0) cF<|am<|aj (ba ad) jX 2<|aa (ac 1)<|aa (ak aw (ac 2)<|dC<|.int 0) ae) ae)<|af 2) (ax<|av<|aa (ac 2)<|aa (bn bW<|aa (am<|b6 (og<|aa (ak aw (ac 1)<|dC<|.int 2) ae) ["k"] [0,1] (af 0) cF<|am<|aj (ba ad) jX 2<|aa (ac 1)<|aa (ak aw (ac 2)<|dC<|.int 0) ae) ae) ae)
noncomputable def vI(ad:Ad):Sd:=aM ["pot","plan","numbers"] (wg ad)
theorem Jz{ad:Ad}{a b:D}{M:Mem}{Q:DK}{E:DX}:vI ad [a,b] M Q E=wg ad (az E) { nx:=λ_ M'=>drp Q .non M',rt:=drp Q } [cb a,cb b,ed] M:=rfl
def qj(ad:Ad)(RP:Sd)(EE:DX):aB:=ap (am<|ak aF (am<|eM (ac 2) aD<|aY<|dC<|.int 2)<|bn bW<|aa (am<|b6 (cj<|am<|eM (ac 2) (aY<|dC<|.int 2) aD) ["some"] [] (af 0) cF<|am<|aj RP jX 1<|aa (ac 0) ae) ae) (af 2)
def oJ(ad:Ad)(RP:Sd)(EE:DX):aB:=ap (av<|aa (dC<|.str "take")<|aa (ak aw (ac 2)<|dC<|.int 1)<|aa (dC<|.int 0) ae) (af 2)
def mH(ad:Ad)(RP:Sd)(EE:DX):aB:=al (aA (ao<|ak ci (ak aw (ac 2)<|dC<|.int 0)<|dC<|.str "pick") (oJ ad RP EE) ay) (bf<|fJ "list" bp (ac 1)<|aa (ac 2) ae)
def lE(ad:Ad)(RP:Sd)(EE:DX):aB:=al (aA (ao<|ak qO (ak aw (ac 2)<|dC<|.int 0)<|am<|br<|aa (dC<|.str "if")<|aa (dC<|.str "again") ae) (qj ad RP EE) ay) (mH ad RP EE)
def ve(ad:Ad)(RP:Sd)(EE:DX):aB:=al (bU (cj<|ac 0) (af 2)<|lE ad RP EE) (ax<|bn bW<|aa (ac 1) ae)
noncomputable def E1(ad:Ad)(RP:Sd)(EE:DX):aB:=al (ap (br ae)<|af 1) (ve ad RP EE)
noncomputable def RP(ad:Ad):Nat->Sd
 |0=>λ_ _ _ _=>False
 |n+1=>aM ["rows","made","row"] (E1 ad<|RP ad n)
theorem u_q7{ad:Ad}{n:Nat}{a:D}{M:Mem}{Q:DK}{E:DX}:RP ad (n+1) [a] M Q E=E1 ad (RP ad n) (az E) { nx:=λ_ M'=>drp Q .non M',rt:=drp Q } [cb a,ed,ed] M:=rfl
def pk(ad:Ad)(RG:Sd)(EE:DX):aB:=ap (ak aF (am<|eM (ac 6) aD<|aY<|dC<|.int 2)<|av<|aa (ac 9)<|aa (ac 8) ae) (af 6)
def qk(ad:Ad)(RG:Sd)(EE:DX):aB:=al (ap (am<|aj RG EE 4<|aa (ac 0)<|aa (ac 1)<|aa (ak aw (ac 6)<|dC<|.int 2)<|aa (ak aF (ac 7)<|av<|aa (dC<|.int 1) ae) ae)<|af 9) (pk ad RG EE)
def mQ(ad:Ad)(RG:Sd)(EE:DX):aB:=al (ap (am<|aj RG EE 4<|aa (ac 0)<|aa (ac 1)<|aa (ak aw (ac 6)<|dC<|.int 3)<|aa (ak aF (ac 7)<|av<|aa (dC<|.int 0) ae) ae)<|af 8) (qk ad RG EE)
def qF(ad:Ad)(RG:Sd)(EE:DX):aB:=ap (ak aF (am<|eM (ac 6) aD<|aY<|dC<|.int 2)<|av<|aa (ac 10) ae) (af 6)
def mU(ad:Ad)(RG:Sd)(EE:DX):aB:=al (ap (am<|aj RG EE 4<|aa (ac 0)<|aa (ac 1)<|aa (ak aw (ac 6)<|dC<|.int 2)<|aa (ak aF (ac 7)<|av<|aa (dC<|.int 0) ae) ae)<|af 10) (qF ad RG EE)
def pj(ad:Ad)(RG:Sd)(EE:DX):aB:=al (bf<|fJ "list" bp (ak aw (ac 1)<|dC<|.int 1)<|aa (ac 7) ae) (ap (ac 11)<|af 6)
def qD(ad:Ad)(RG:Sd)(EE:DX):aB:=al (ap (ak gb (ak aw (ac 1)<|dC<|.int 2)<|dC<|.int 1)<|gL (ac 1)<|dC<|.int 2) (pj ad RG EE)
def pJ(ad:Ad)(RG:Sd)(EE:DX):aB:=aA (ao<|ak ji (ac 11)<|ac 6) (qD ad RG EE) ay
def oG(ad:Ad)(RG:Sd)(EE:DX):aB:=al (ap (ak aw (am<|aj (RP ad 24) EE 1<|aa (av<|aa (am<|aj (n_ ad) EE 2<|aa (ac 0)<|aa (ak aw (ac 1)<|dC<|.int 0) ae) ae) ae)<|dC<|.int 0)<|af 11) (pJ ad RG EE)
def hV(ad:Ad)(RG:Sd)(EE:DX):aB:=aA (gk (ao<|ak uf (ak aw (ac 1)<|dC<|.int 2)<|dC<|.int 0)<|ao<|ak ci (am<|aj (ba ad) EE 2<|aa (ac 0)<|aa (dC<|.int 3) ae)<|dC<|.int 0) (oG ad RG EE) ay
def jR(ad:Ad)(RG:Sd)(EE:DX):aB:=aA (ao<|ak ci (ak aw (ac 6)<|dC<|.int 0)<|dC<|.str "again") (mU ad RG EE) (hV ad RG EE)
def kG(ad:Ad)(RG:Sd)(EE:DX):aB:=al (aA (ao<|ak ci (ak aw (ac 6)<|dC<|.int 0)<|dC<|.str "if") (mQ ad RG EE)<|jR ad RG EE) (bf<|fJ "list" bp (ac 4)<|aa (ac 6) ae)
def gW(ad:Ad)(RG:Sd)(EE:DX):aB:=al (ap (ak aF (ac 3)<|av<|aa (ac 5) ae)<|af 7) (kG ad RG EE)
def pQ(ad:Ad)(RG:Sd)(EE:DX):aB:=al (bU (e_<|aa (ac 2) ae) (bQ 2<|aG (af 5)<|aG (af 6) bR)<|gW ad RG EE) (ax<|bn bW<|aa (ac 4) ae)
noncomputable def Di(ad:Ad)(RG:Sd)(EE:DX):aB:=al (ap (br ae)<|af 4) (pQ ad RG EE)
noncomputable def RG(ad:Ad):Nat->Sd
 |0=>λ_ _ _ _=>False
 |n+1=>aM ["pot","work","rows","place","made","at","row","here","second","first","inner","other"] (Di ad<|RG ad n)
theorem u_q5{ad:Ad}{n:Nat}{b c a e:D}{M:Mem}{Q:DK}{E:DX}:RG ad (n+1) [b,c,a,e] M Q E=Di ad (RG ad n) (az E) { nx:=λ_ M'=>drp Q .non M',rt:=drp Q } [cb b,cb c,cb a,cb e,ed,ed,ed,ed,ed,ed,ed,ed] M:=rfl
def jZ(ad:Ad)(EE:DX):aB:=ax (av<|aa (ac 3)<|aa (ak aF (am<|eM (ac 3) aD<|aY<|dC<|.int 3)<|av<|aa (ac 5)<|aa (ak aw (ac 3)<|dC<|.int 4) ae)<|aa (bn dR<|aa (ak aw (ac 4)<|dC<|.int 1) ae) ae)
def kh(ad:Ad)(EE:DX):aB:=al (ap (am<|aj (RG ad 24) EE 4<|aa (ac 0)<|aa (ac 4)<|aa (ak aw (ac 3)<|dC<|.int 3)<|aa (av ae) ae)<|af 5) (jZ ad EE)
def jU(ad:Ad)(EE:DX):aB:=al (ap (br<|aa (eM (ac 3) aD<|aY<|dC<|.int 3)<|aa (br ae)<|aa (ac 2) ae)<|af 4) (kh ad EE)
def kr(ad:Ad)(EE:DX):aB:=al (ap (ak aF (am<|eM (ac 3) aD<|aY<|dC<|.int 3)<|av<|aa (am<|aj (RP ad 24) EE 1<|aa (ak aw (ac 3)<|dC<|.int 3) ae)<|aa (ak aw (ac 3)<|dC<|.int 4) ae)<|af 3) (jU ad EE)
noncomputable def wE(ad:Ad)(EE:DX):aB:=al (ap (am<|aj (wU ad) EE 2<|aa (ac 0)<|aa (ac 1) ae)<|af 3) (kr ad EE)
noncomputable def xm(ad:Ad):Sd:=aM ["pot","most_rows","most_unlike","plan","work","rows"] (wE ad)
theorem LU{ad:Ad}{b c a:D}{M:Mem}{Q:DK}{E:DX}:xm ad [b,c,a] M Q E=wE ad (az E) { nx:=λ_ M'=>drp Q .non M',rt:=drp Q } [cb b,cb c,cb a,ed,ed,ed] M:=rfl
def ua(ad:Ad)(EE:DX):aB:=aA (ao<|ak gu (ac 3)<|ac 0) (ax<|ac 3) ay
def oV(ad:Ad)(EE:DX):aB:=al (ap (qh (ao<|ak yM (ac 2)<|dC<|.int 26) (ak aw (ac 1)<|ac 2)<|am<|ak aF (ak aw (ac 1)<|ak oC (ak gb (ac 2)<|dC<|.int 26)<|dC<|.int 26)<|ak aw (ac 1)<|ak g8 (ak gb (ac 2)<|dC<|.int 26)<|dC<|.int 26)<|af 3) (ua ad EE)
def uG(ad:Ad)(EE:DX):aB:=al (bU (og<|aa (ak aF (dC<|.int 26)<|dC<|.int 676) ae) (af 2)<|oV ad EE) (ax<|dC<|.str "")
noncomputable def Cp(ad:Ad)(EE:DX):aB:=al (ap (dC<|.str "abcdefghijklmnopqrstuvwxyz")<|af 1) (uG ad EE)
noncomputable def BL(ad:Ad):Sd:=aM ["names","letters","k","name"] (Cp ad)
theorem u_q1{ad:Ad}{a:D}{M:Mem}{Q:DK}{E:DX}:BL ad [a] M Q E=Cp ad (az E) { nx:=λ_ M'=>drp Q .non M',rt:=drp Q } [cb a,ed,ed,ed] M:=rfl
def kJ(ad:Ad)(RF:Sd)(EE:DX):aB:=ap (ak aF (ac 6)<|av<|aa (av<|aa (dC<|.str "if")<|aa (ak aw (ac 8)<|dC<|.int 1)<|aa (ac 10)<|aa (ac 11) ae) ae) (af 6)
def kn(ad:Ad)(RF:Sd)(EE:DX):aB:=al (ap (am<|aj RF EE 6<|aa (ak aw (ac 8)<|dC<|.int 3)<|aa (ak aw (ak aw (ac 1)<|ac 7)<|dC<|.int 3)<|aa (ak aF (ac 9)<|av<|aa (dC<|.int 0) ae)<|aa (ac 3)<|aa (ac 4)<|aa (ac 5) ae)<|af 11) (kJ ad RF EE)
def gZ(ad:Ad)(RF:Sd)(EE:DX):aB:=al (ap (am<|aj RF EE 6<|aa (ak aw (ac 8)<|dC<|.int 2)<|aa (ak aw (ak aw (ac 1)<|ac 7)<|dC<|.int 2)<|aa (ak aF (ac 9)<|av<|aa (dC<|.int 1) ae)<|aa (ac 3)<|aa (ac 4)<|aa (ac 5) ae)<|af 10) (kn ad RF EE)
def kK(ad:Ad)(RF:Sd)(EE:DX):aB:=ap (ak aF (ac 6)<|av<|aa (av<|aa (dC<|.str "again")<|aa (ak aw (ac 8)<|dC<|.int 1)<|aa (ac 12) ae) ae) (af 6)
def gU(ad:Ad)(RF:Sd)(EE:DX):aB:=al (ap (am<|aj RF EE 6<|aa (ak aw (ac 8)<|dC<|.int 2)<|aa (ak aw (ak aw (ac 1)<|ac 7)<|dC<|.int 2)<|aa (ak aF (ac 9)<|av<|aa (dC<|.int 0) ae)<|aa (ac 3)<|aa (ac 4)<|aa (ac 5) ae)<|af 12) (kK ad RF EE)
def k4(ad:Ad)(RF:Sd)(EE:DX):aB:=ap (ak aF (ac 6)<|av<|aa (ac 13)<|aa (av<|aa (dC<|.str "if")<|aa (ac 4)<|aa (av<|aa (ak aw (ac 1)<|ac 7) ae)<|aa (av<|aa (ac 8) ae) ae) ae) (af 6)
def jz(ad:Ad)(RF:Sd)(EE:DX):aB:=al (ap (av<|aa (dC<|.str "take")<|aa (ac 4)<|aa (am<|ak aF (ac 5)<|fJ "list" io (ac 3)<|aa (ac 9) ae) ae)<|af 13) (k4 ad RF EE)
def jN(ad:Ad)(RF:Sd)(EE:DX):aB:=ap (ak aF (ac 6)<|av<|aa (ac 8) ae) (af 6)
def gX(ad:Ad)(RF:Sd)(EE:DX):aB:=aA (ao<|ak qO (ac 9)<|ac 3) (jz ad RF EE) (jN ad RF EE)
def h7(ad:Ad)(RF:Sd)(EE:DX):aB:=aA (ao<|ak ci (ak aw (ac 8)<|dC<|.int 0)<|dC<|.str "again") (gU ad RF EE) (gX ad RF EE)
def ie(ad:Ad)(RF:Sd)(EE:DX):aB:=aA (ao<|ak ci (ak aw (ac 8)<|dC<|.int 0)<|dC<|.str "if") (gZ ad RF EE) (h7 ad RF EE)
def fB(ad:Ad)(RF:Sd)(EE:DX):aB:=al (ap (ak aF (ac 2)<|av<|aa (ac 7) ae)<|af 9) (ie ad RF EE)
def mP(ad:Ad)(RF:Sd)(EE:DX):aB:=al (bU (e_<|aa (ac 0) ae) (bQ 2<|aG (af 7)<|aG (af 8) bR)<|fB ad RF EE) (ax<|ac 6)
noncomputable def wy(ad:Ad)(RF:Sd)(EE:DX):aB:=al (ap (av ae)<|af 6) (mP ad RF EE)
noncomputable def RF(ad:Ad):Nat->Sd
 |0=>λ_ _ _ _=>False
 |n+1=>aM ["rows","others","place","places","name","many","made","at","row","here","first","second","inner","take"] (wy ad<|RF ad n)
theorem Jt{ad:Ad}{n:Nat}{e a b g c f:D}{M:Mem}{Q:DK}{E:DX}:RF ad (n+1) [e,a,b,g,c,f] M Q E=wy ad (RF ad n) (az E) { nx:=λ_ M'=>drp Q .non M',rt:=drp Q } [cb e,cb a,cb b,cb g,cb c,cb f,ed,ed,ed,ed,ed,ed,ed,ed] M:=rfl
def jI(ad:Ad)(EE:DX):aB:=ax (av<|aa (ak aw (ac 0)<|dC<|.int 0)<|aa (ak aF (ak aw (ac 0)<|dC<|.int 1)<|av<|aa (ac 3) ae)<|aa (ak aF (ak aw (ac 0)<|dC<|.int 2)<|bn bF<|aa (ac 2) ae)<|aa (ac 4)<|aa (ak aw (ac 0)<|dC<|.int 4) ae)
def kg(ad:Ad)(EE:DX):aB:=al (ap (am<|aj (RF ad 24) EE 6<|aa (ak aw (ac 0)<|dC<|.int 3)<|aa (ak aw (ac 1)<|dC<|.int 3)<|aa (av ae)<|aa (ac 2)<|aa (ac 3)<|aa (ak aw (ac 0)<|dC<|.int 2) ae)<|af 4) (jI ad EE)
noncomputable def wW(ad:Ad)(EE:DX):aB:=al (ap (am<|aj (BL ad) EE 1<|aa (ak aw (ac 0)<|dC<|.int 1) ae)<|af 3) (kg ad EE)
noncomputable def xI(ad:Ad):Sd:=aM ["one","other","places","name","rows"] (wW ad)
theorem LH{ad:Ad}{b c a:D}{M:Mem}{Q:DK}{E:DX}:xI ad [b,c,a] M Q E=wW ad (az E) { nx:=λ_ M'=>drp Q .non M',rt:=drp Q } [cb b,cb c,cb a,ed,ed] M:=rfl
def lZ(ad:Ad)(RN:Sd)(EE:DX):aB:=ap (am<|ak aF (ac 2)<|am<|aj RN EE 2<|aa (ac 4)<|aa (ak aF (ac 1)<|dC<|.int 1) ae) (af 2)
def oX(ad:Ad)(RN:Sd)(EE:DX):aB:=bU (cj<|am<|eM (ac 3) (aY<|dC<|.int 2) aD) (af 4) (lZ ad RN EE)
def lB(ad:Ad)(RN:Sd)(EE:DX):aB:=al (aA (ao<|ak ci (ac 1)<|dC<|.int 4) (ax<|dC<|.int 61) ay) (oX ad RN EE)
def pS(ad:Ad)(RN:Sd)(EE:DX):aB:=aA (ao<|ak qO (ak aw (ac 3)<|dC<|.int 0)<|am<|br<|aa (dC<|.str "if")<|aa (dC<|.str "again") ae) (lB ad RN EE) ay
def lX(ad:Ad)(RN:Sd)(EE:DX):aB:=al (ap (ak aF (ac 2)<|dC<|.int 1)<|af 2) (pS ad RN EE)
def vy(ad:Ad)(RN:Sd)(EE:DX):aB:=al (bU (cj<|ac 0) (af 3)<|lX ad RN EE) (ax<|ac 2)
noncomputable def DP(ad:Ad)(RN:Sd)(EE:DX):aB:=al (ap (dC<|.int 0)<|af 2) (vy ad RN EE)
noncomputable def RN(ad:Ad):Nat->Sd
 |0=>λ_ _ _ _=>False
 |n+1=>aM ["rows","deep","total","row","some"] (DP ad<|RN ad n)
theorem u_q9{ad:Ad}{n:Nat}{a b:D}{M:Mem}{Q:DK}{E:DX}:RN ad (n+1) [a,b] M Q E=DP ad (RN ad n) (az E) { nx:=λ_ M'=>drp Q .non M',rt:=drp Q } [cb a,cb b,ed,ed,ed] M:=rfl
noncomputable def xi(ad:Ad)(EE:DX):aB:=ax (eY (ak zH (bn bF<|aa (ak aw (ac 0)<|dC<|.int 1) ae)<|dC<|.int 12)<|eY (ak zH (ak aw (ac 0)<|dC<|.int 2)<|dC<|.int 40)<|ak zH (am<|aj (RN ad 24) EE 2<|aa (ak aw (ac 0)<|dC<|.int 3)<|aa (dC<|.int 0) ae)<|dC<|.int 60)
noncomputable def rB(ad:Ad):Sd:=aM ["plan"] (xi ad)
theorem JO{ad:Ad}{a:D}{M:Mem}{Q:DK}{E:DX}:rB ad [a] M Q E=xi ad (az E) { nx:=λ_ M'=>drp Q .non M',rt:=drp Q } [cb a] M:=rfl
noncomputable def gI(ad:Ad)(RV:Sd)(EE:DX):aB:=al (aA (ao<|ak uF (ac 1)<|dC .non) (ax<|ak uF (ac 0)<|dC .non) ay) (al (aA (bO<|bn b_<|aa (ac 1)<|aa (dC<|.ty "bool") ae) (ax<|eY (bn b_<|aa (ac 0)<|aa (dC<|.ty "bool") ae)<|ak ci (ac 0)<|ac 1) ay)<|al (aA (bO<|bn b_<|aa (ac 1)<|aa (dC<|.ty "int") ae) (ax<|eY (bn b_<|aa (ac 0)<|aa (dC<|.ty "int") ae)<|eY (F6<|bn b_<|aa (ac 0)<|aa (dC<|.ty "bool") ae)<|ak ci (ac 0)<|ac 1) ay)<|al (aA (bO<|bn b_<|aa (ac 1)<|aa (dC<|.ty "str") ae) (ax<|eY (bn b_<|aa (ac 0)<|aa (dC<|.ty "str") ae)<|ak ci (ac 0)<|ac 1) ay)<|al (aA (jw (ao<|ak ji (bn b_<|aa (ac 1)<|aa (dC<|.ty "tuple") ae)<|bn b_<|aa (ac 0)<|aa (dC<|.ty "tuple") ae)<|ao<|ak ji (bn b_<|aa (ac 1)<|aa (dC<|.ty "list") ae)<|bn b_<|aa (ac 0)<|aa (dC<|.ty "list") ae) (ax<|dC<|.bl eH) ay)<|al (aA (ao<|ak ji (bn bF<|aa (ac 0) ae)<|bn bF<|aa (ac 1) ae) (ax<|dC<|.bl eH) ay)<|ax<|bn mZ<|aa (am<|b6 (Gh<|aa (ac 0)<|aa (ac 1) ae) ["one","other"] [] (bQ 2<|aG (af 0)<|aG (af 1) bR) cF<|am<|aj RV jX 2<|aa (ac 0)<|aa (ac 1) ae) ae)
noncomputable def RV(ad:Ad):Nat->Sd
 |0=>λ_ _ _ _=>False
 |n+1=>aM ["found","due"] (gI ad<|RV ad n)
theorem nJ{ad:Ad}{n:Nat}{a b:D}{M:Mem}{Q:DK}{E:DX}:RV ad (n+1) [a,b] M Q E=gI ad (RV ad n) (az E) { nx:=λ_ M'=>drp Q .non M',rt:=drp Q } [cb a,cb b] M:=rfl
def pZ(ad:Ad)(EE:DX):aB:=al (ap (qh (jw (ao<|ak ci (ak aw (ac 5)<|dC<|.int 0)<|dC<|.str "again")<|ao<|ak ci (ac 6)<|dC<|.int 1) (ak aw (ac 5)<|dC<|.int 2)<|ak aw (ac 5)<|dC<|.int 3)<|af 3) (ap (ak aF (ac 4)<|dC<|.int 1)<|af 4)
def pH(ad:Ad)(EE:DX):aB:=al (ap (am<|ak aF (ac 2)<|qh (ao<|ak ci (ak aw (ac 5)<|dC<|.int 0)<|dC<|.str "again") (av<|aa (dC<|.int 0) ae)<|av<|aa (ac 6) ae)<|af 2) (pZ ad EE)
def mD(ad:Ad)(EE:DX):aB:=al (ap (ak aw (ac 0)<|ac 4)<|af 6) (pH ad EE)
def qr(ad:Ad)(EE:DX):aB:=aA (ao<|ak yM (ac 4)<|bn bF<|aa (ac 0) ae) (mD ad EE) ay
def pO(ad:Ad)(EE:DX):aB:=al (ap (ak aF (ac 4)<|dC<|.int 1)<|af 4) (qr ad EE)
def pF(ad:Ad)(EE:DX):aB:=al (ap (ak aF (ac 2)<|av<|aa (ak aw (ac 0)<|ac 4) ae)<|af 2) (pO ad EE)
def pL(ad:Ad)(EE:DX):aB:=al (ap (ak aw (ac 3)<|ak aw (ac 0)<|ac 4)<|af 5) (pF ad EE)
def uQ(ad:Ad)(EE:DX):aB:=al (g7 (ao<|ak yM (ac 4)<|bn bF<|aa (ac 0) ae)<|pL ad EE) (ax<|ac 2)
def uv(ad:Ad)(EE:DX):aB:=al (ap (dC<|.int 0)<|af 4) (uQ ad EE)
def qE(ad:Ad)(EE:DX):aB:=al (ap (ac 1)<|af 3) (uv ad EE)
noncomputable def Ey(ad:Ad)(EE:DX):aB:=al (ap (av ae)<|af 2) (qE ad EE)
noncomputable def Ep(ad:Ad):Sd:=aM ["place","rows","made","here","k","row","side"] (Ey ad)
theorem u_q2{ad:Ad}{a b:D}{M:Mem}{Q:DK}{E:DX}:Ep ad [a,b] M Q E=Ey ad (az E) { nx:=λ_ M'=>drp Q .non M',rt:=drp Q } [cb a,cb b,ed,ed,ed,ed,ed] M:=rfl
def kD(ad:Ad)(EE:DX):aB:=aA (gk (ao<|ak uf (ac 15)<|dC<|.int 0)<|ao<|ak li (ak aw (g6<|aj (iW ad) EE 3<|aa (ac 5)<|aa (ac 13)<|aa (ak gb (ac 15)<|dC<|.int 1) ae)<|dC<|.int 1)<|dC .non) (ax<|dC<|.bl eH) ay
def gR(ad:Ad)(EE:DX):aB:=al (aA (df<|bO<|am<|aj (RV ad 24) EE 2<|aa (am<|aj (qY ad) EE 3<|aa (ac 5)<|aa (ac 13)<|aa (ac 15) ae)<|aa (am<|aj (qY ad) EE 3<|aa (ac 9)<|aa (ac 6)<|aa (ac 7) ae) ae) (ax<|dC<|.bl eH) ay) (kD ad EE)
def ki(ad:Ad)(EE:DX):aB:=al (aA (jw (ao<|ak uF (ak aw (ac 16)<|dC<|.int 1)<|dC .non)<|jw (df<|bO<|am<|aj (RV ad 24) EE 2<|aa (am<|eM (ak aw (ac 16)<|dC<|.int 1) aD<|aY<|IY<|dC<|.int 1)<|aa (ac 12) ae)<|ao<|ak ji (bn bF<|aa (ak aw (ac 16)<|dC<|.int 0) ae)<|ac 15) (ax<|dC<|.bl eH) ay) (gR ad EE)
def gH(ad:Ad)(EE:DX):aB:=al (ap (g6<|aj (iW ad) EE 3<|aa (ac 5)<|aa (ac 13)<|aa (ac 15) ae)<|af 16) (ki ad EE)
def jJ(ad:Ad)(EE:DX):aB:=al (ap (ak aF (bn bF<|aa (ac 11) ae)<|ak iP (dC<|.int 2)<|bn bF<|aa (ac 14) ae)<|af 15) (gH ad EE)
def ig(ad:Ad)(EE:DX):aB:=al (k_ (oM 14<|b6 (cj<|ac 11) ["place","done"] [9,4] (bQ 2<|aG (af 0)<|aG (af 1) bR) (ao<|ak qO (am<|aj (Ep ad) jX 2<|aa (ac 0)<|aa (ak aw (ac 2)<|dC<|.int 3) ae)<|ac 3)<|ac 0) 14) (jJ ad EE)
def kx(ad:Ad)(EE:DX):aB:=aA (ao<|ak li (ac 12)<|dC .non) (ig ad EE) ay
def jy(ad:Ad)(EE:DX):aB:=al (ap (av<|aa (ak aF (ak aw (ac 6)<|dC<|.int 0)<|av<|aa (dC<|.int 0) ae)<|aa (ak aF (ak aw (ac 6)<|dC<|.int 1)<|ak iP (av<|aa (ac 10) ae)<|bn bF<|aa (ac 4) ae) ae)<|af 13) (kx ad EE)
def iy(ad:Ad)(EE:DX):aB:=al (ap (g6<|aj (iW ad) EE 3<|aa (ac 9)<|aa (ac 6)<|aa (ac 7) ae)<|bQ 2<|aG (af 11)<|aG (af 12) bR) (jy ad EE)
def hW(ad:Ad)(EE:DX):aB:=al (bU (cj<|am<|br<|aa (av<|aa (ac 2)<|aa (dC<|.int 0) ae)<|aa (av<|aa (ac 3)<|aa (dC<|.int 1) ae)<|aa (av<|aa (ac 3)<|aa (ac 8) ae) ae) (bQ 2<|aG (af 9)<|aG (af 10) bR)<|iy ad EE) (ax<|dC<|.bl true)
def gY(ad:Ad)(EE:DX):aB:=al (ap (ak aF (dC<|.int 1)<|am<|aj (ba ad) EE 2<|aa (ac 1)<|aa (ak gb (ak aw (ac 2)<|dC<|.int 0)<|dC<|.int 1) ae)<|af 8) (hW ad EE)
def h9(ad:Ad)(EE:DX):aB:=al (ap (am<|aj (ba ad) EE 2<|aa (ac 1)<|aa (dC<|.int 301) ae)<|af 7) (gY ad EE)
def gF(ad:Ad)(EE:DX):aB:=al (ap (am<|aj (vI ad) EE 2<|aa (ac 1)<|aa (ac 2) ae)<|af 6) (h9 ad EE)
def g_(ad:Ad)(EE:DX):aB:=al (ap (am<|aj (xn ad) EE 2<|aa (ac 2)<|aa (ac 3) ae)<|af 5) (gF ad EE)
def gS(ad:Ad)(EE:DX):aB:=al (aA (df<|bO<|am<|aj (RV ad 24) EE 2<|aa (am<|aj (sS ad) EE 2<|aa (ac 2)<|aa (ac 3) ae)<|aa (ac 4) ae) (ax<|dC<|.bl eH) ay) (g_ ad EE)
def mW(ad:Ad)(EE:DX):aB:=al (aA (jw (ao<|ak uf (bn bF<|aa (ak aw (ac 2)<|dC<|.int 1) ae)<|dC<|.int 11)<|df<|bO<|am<|aj (rB ad) EE 1<|aa (am<|aj (xI ad) EE 3<|aa (ac 2)<|aa (ac 3)<|aa (ac 4) ae) ae) (ax<|dC<|.bl true) ay) (gS ad EE)
def lg(ad:Ad)(EE:DX):aB:=al (ap (g6<|aj (xm ad) EE 3<|aa (ac 1)<|aa (dC<|.int 20)<|aa (dC<|.int 5) ae)<|bQ 3<|aG (af 2)<|aG (af 3)<|aG (af 4) bR) (mW ad EE)
noncomputable def wJ(ad:Ad)(EE:DX):aB:=al (ap (aj (vT ad) EE 1<|aa (ac 0) ae)<|af 1) (lg ad EE)
noncomputable def Be(ad:Ad):Sd:=aM ["script","pot","one","other","places","whole","stand","most","number","plan","more","steps","end","there","twice","room","found"] (wJ ad)
theorem Ld{ad:Ad}{a:D}{M:Mem}{Q:DK}{E:DX}:Be ad [a] M Q E=wJ ad (az E) { nx:=λ_ M'=>drp Q .non M',rt:=drp Q } [cb a,ed,ed,ed,ed,ed,ed,ed,ed,ed,ed,ed,ed,ed,ed,ed,ed] M:=rfl
set_option genInjectivity false in
structure En(P:gg)(w:g5)(K:Mp)(mg:Uq)(base:g4)(ad:Ad):Prop where
 u0:Cls K ad.C_Walk
 u1:mg "Walk"=cb (.ref ad.C_Walk)
 u2:Cls K ad.C_Weave
 u3:mg "Weave"=cb (.ref ad.C_Weave)
 u4:NoAttr K ad.C_Walk "most"
 u5:NoAttr K ad.C_Walk "numbers"
 u6:NoAttr K ad.C_Walk "pieces"
 u7:NoAttr K ad.C_Walk "plan"
 u8:NoAttr K ad.C_Walk "steps"
 u9:NoAttr K ad.C_Weave "name"
 u10:NoAttr K ad.C_Weave "pieces"
 u11:ExcAt K ad.C_Dry
 u12:mg "Dry"=cb (.ref ad.C_Dry)
 u13:ExcAt K ad.C_NoBuild
 u14:mg "NoBuild"=cb (.ref ad.C_NoBuild)
 u15:ExcAt K ad.C_TooBig
 u16:mg "TooBig"=cb (.ref ad.C_TooBig)
 u17:∃t,mg "LEAST_WHEEL"=cb (.int 2 t)
 u18:∃t,mg "LETTERS"=cb (.str "abcdefghijklmnopqrstuvwxyz" t)
 u19:∃t,mg "MOST_LETTERS"=cb (.int 8 t)
 u20:∃t,mg "MOST_NAMES"=cb (.int 12 t)
 u21:∃t,mg "MOST_PIECES"=cb (.int 40 t)
 u22:∃t,mg "MOST_ROWS"=cb (.int 60 t)
 u23:∃t,mg "MOST_WHEEL"=cb (.int 997 t)
 u24:∃t,mg "MOST_WITHIN"=cb (.int 4 t)
 u25:ModTab w K mg "PARTS" ad.RK cz
 u26:mg "all"=ed
 u27:mg "bool"=ed
 u28:mg "dict"=ed
 u29:mg "enumerate"=ed
 u30:mg "int"=ed
 u31:mg "isinstance"=ed
 u32:mg "len"=ed
 u33:mg "list"=ed
 u34:mg "min"=ed
 u35:mg "range"=ed
 u36:mg "set"=ed
 u37:mg "sorted"=ed
 u38:mg "str"=ed
 u39:mg "tuple"=ed
 u40:mg "zip"=ed
 f1:GI K ad.C_Walk "__init__" "Walk.__init__" JZ ad.a1 ad.d1 ["self","plan","stand","most"]
 f2:GM K ad.C_Walk "note_step" "Walk.note_step" L6 ad.a2 ad.d2 ["self","place","number"]
 f3:GM K ad.C_Walk "look" "Walk.look" F0 ad.a3 ad.d3 ["self","place","name"]
 f4:GF K mg "run" Fe ad.a4 ad.d4 ["plan","stand","most"]
 f5:GF K mg "mark" FQ ad.a5 ad.d5 ["plan","stand","most"]
 f6:GF K mg "do_rows" Ff ad.a6 ad.d6 ["walk","rows","place"]
 f7:GF K mg "do_row" FK ad.a7 ad.d7 ["walk","row","place"]
 f8:GF K mg "do_if" Fj ad.a8 ad.d8 ["walk","row","place"]
 f9:GF K mg "do_again" FH ad.a9 ad.d9 ["walk","row","place"]
 f10:GF K mg "number_of" EL ad.a10 ad.d10 ["plan","numbers","pieces","row"]
 f11:GF K mg "piece_read" EJ ad.a11 ad.d11 ["plan","numbers","row"]
 f12:GF K mg "joined" EM ad.a12 ad.d12 ["word","y","z","wheel"]
 f13:GF K mg "is_plan" Fq ad.a13 ad.d13 ["thing"]
 f14:GF K mg "is_whole" FL ad.a14 ad.d14 ["thing","least","most"]
 f15:GF K mg "is_name" Fs ad.a15 ad.d15 ["thing"]
 f16:GF K mg "are_names" E_ ad.a16 ad.d16 ["thing"]
 f17:GF K mg "is_name_of" F1 ad.a17 ad.d17 ["plan","thing"]
 f18:GF K mg "are_rows" FM ad.a18 ad.d18 ["plan"]
 f19:GF K mg "is_row" ER ad.a19 ad.d19 ["plan","thing","depth"]
 f20:GF K mg "is_part" EQ ad.a20 ad.d20 ["plan","kind","thing"]
 f21:GF K mg "rows_within" Fm ad.a21 ad.d21 ["row"]
 f22:GI K ad.C_Weave "__init__" "Weave.__init__" KP ad.a22 ad.d22 ["self","one","other"]
 f23:GF K mg "new_name" Fd ad.a23 ad.d23 ["names"]
 f24:GF K mg "unlike_rows" FD ad.a24 ad.d24 ["one","other"]
 f25:GF K mg "paired" F8 ad.a25 ad.d25 ["rows","others","place"]
 f26:GF K mg "refuse_unlike_sorts" Lm ad.a26 ad.d26 ["row","other"]
 f27:GF K mg "paired_within" Lu ad.a27 ad.d27 ["row","other","place"]
 f28:GF K mg "branches" EW ad.a28 ad.d28 ["row"]
 f29:GF K mg "woven" FS ad.a29 ad.d29 ["one","other"]
 f30:GF K mg "woven_rows" F5 ad.a30 ad.d30 ["weave","rows","others","place"]
 f31:GF K mg "woven_row" Fp ad.a31 ad.d31 ["weave","row","other","place"]
 f32:GF K mg "_law_stirred" FU ad.a32 ad.d32 ["cell","turn"]
 f33:GF K mg "_law_pot" F9 ad.a33 ad.d33 ["script"]
 f34:GF K mg "_law_draw" FE ad.a34 ad.d34 ["pot","many"]
 f35:GF K mg "_law_names" FG ad.a35 ad.d35 ["pot","many"]
 f36:GF K mg "_law_row" F7 ad.a36 ad.d36 ["pot","told"]
 f37:GF K mg "_law_block" FT ad.a37 ad.d37 ["pot","told","room","deep"]
 f38:GF K mg "_law_rows" Fa ad.a38 ad.d38 ["pot","told","room","deep","most"]
 f39:GF K mg "_law_plan" EY ad.a39 ad.d39 ["pot","most"]
 f40:GF K mg "_law_stand" FF ad.a40 ad.d40 ["pot","plan"]
 f41:GF K mg "_law_no_picks" Lo ad.a41 ad.d41 ["rows"]
 f42:GF K mg "_law_twin_rows" Jw ad.a42 ad.d42 ["pot","work","rows","place"]
 f43:GF K mg "_law_twins" Fk ad.a43 ad.d43 ["pot","most_rows","most_unlike"]
 f44:GF K mg "_law_first_name" Ly ad.a44 ad.d44 ["names"]
 f45:GF K mg "_law_weave" Fo ad.a45 ad.d45 ["rows","others","place","places","name","many"]
 f46:GF K mg "_law_woven" EU ad.a46 ad.d46 ["one","other","places"]
 f47:GF K mg "_law_counted" Ko ad.a47 ad.d47 ["rows","deep"]
 f48:GF K mg "_law_fits" Fn ad.a48 ad.d48 ["plan"]
 f49:GF K mg "_law_alike" FI ad.a49 ad.d49 ["found","due"]
 f50:GF K mg "_law_as_written" Lz ad.a50 ad.d50 ["place","rows"]
 f51:GF K mg "law" ja ad.a51 ad.d51 ["script"]
section
section
variable {X:Cx}{B:Bd}{a b c o e:g1}{es:Uk}{ta tb tc to:bj}{t:eN}{i:Nat}{x:Str}{pos p T9 T8:Pos}(hU:X.A.units+64<mv)(hu:X.A.units+1<mv)(hg:X.A.guards=cb [])(hc:X.calm=true)(ha:DE X B a ta)(hb:DE X B b tb)(hd:DE X B c tc){ea tA:eC}{dc:D}{bb:Bool}{tT:List (Str×D)}(hT:TabT X tA tT)
def v0:=lQ (pos:=pos) Ez ha hb
def v1:=lQ (pos:=pos) BO ha hb
def v2:=lQ (pos:=pos) Dm ha hb
def v3:=lQ (pos:=pos) CZ ha hb
def v4:=lQ (pos:=pos) El ha hb
def v5:=lQ (pos:=pos) z6 ha hb
def v6:=lQ (pos:=pos) Ed ha hb
def v7:=oR (pos:=pos) (zO hU) ha hb
def v8:=oR (pos:=pos) (Au hU) ha hb
def v9:=oR (pos:=pos) mh ha hb
def v10:=oR (pos:=pos) wI ha hb
def v11:=da (X:=X) (B:=B) (p:=p) (pos:=pos) (e:=e) (es:=es) (t:=t) ym vF
def v12:=eR (X:=X) (B:=B) (p:=p) (pos:=pos) (e:=e) (es:=es) (t:=t) s_ nF
def v13:=da (X:=X) (B:=B) (p:=p) (pos:=pos) (e:=e) (es:=es) (t:=t) qw md
def v14:=da (X:=X) (B:=B) (p:=p) (pos:=pos) (e:=e) (es:=es) (t:=t) (yU hc) Dx
def v15:=eR (X:=X) (B:=B) (p:=p) (pos:=pos) (e:=e) (es:=es) (t:=t) (vo hc) lj
def v16:=da (X:=X) (B:=B) (p:=p) (pos:=pos) (e:=e) (es:=es) (t:=t) pf uB
def v17:=eR (X:=X) (B:=B) (p:=p) (pos:=pos) (e:=e) (es:=es) (t:=t) (sW hc hU) za
def v18:=da (X:=X) (B:=B) (p:=p) (pos:=pos) (e:=e) (es:=es) (t:=t) uY vF
def v19:=eR (X:=X) (B:=B) (p:=p) (pos:=pos) (e:=e) (es:=es) (t:=t) tK lj
def v20:=da (X:=X) (B:=B) (p:=p) (pos:=pos) (e:=e) (es:=es) (t:=t) (xU hc) C5
def v21:=lU (X:=X) (B:=B) (pos:=pos) Ej
def v22:=lU (X:=X) (B:=B) (pos:=pos) nF
def v23:=lU (X:=X) (B:=B) (pos:=pos) Cs
def v24:=lU (X:=X) (B:=B) (pos:=pos) zM
def v25:=lU (X:=X) (B:=B) (pos:=pos) lj
def v26:=oY (X:=X) (B:=B) (T9:=T9) (T8:=T8) (o:=o) (e:=e) (es:=es) (t:=t) (to:=to) N0 PJ PySem.F.type_list_append uT
def v27:=Er (X:=X) (B:=B) (T9:=T9) (T8:=T8) (o:=o) (to:=to) N0 OS QM xf
def v28:=oY (X:=X) (B:=B) (T9:=T9) (T8:=T8) (o:=o) (e:=e) (es:=es) (t:=t) (to:=to) N0 Rb PySem.F.type_list_extend uo
def v29:=oY (X:=X) (B:=B) (T9:=T9) (T8:=T8) (o:=o) (e:=e) (es:=es) (t:=t) (to:=to) N0 OS QM xf
def v30:=oY (X:=X) (B:=B) (T9:=T9) (T8:=T8) (o:=o) (e:=e) (es:=es) (t:=t) (to:=to) N0 QD PySem.F.type_list_index (vc hU)
def v31:=Ga (X:=X) (B:=B) (T9:=T9) (T8:=T8) (o:=o) (e:=e) (es:=es) (to:=to) (t:=t) Qv PySem.F.type_tuple_index uA
def v32:=oi (pos:=pos) ze ze ha hb hd
def v33:=oi (pos:=pos) mh mh ha hb hd
def v34:=C0 (X:=X) (B:=B) (x:=x) (pos:=pos) (e:=e) (i:=i) (te:=ta) (pos':=p) Cn
def v35:=dM (pos:=pos) Gx ha hb
def v36:=dM (pos:=pos) (zO hU) ha hb
def v37:=dM (pos:=pos) Hc ha hb
def v38:=dM (pos:=pos) Aa ha hb
def v39:=dM (pos:=pos) wI ha hb
def v40:=dM (pos:=pos) (ui hT) ha hb
def v41:=dM (pos:=pos) (Iq hU) ha hb
def v42:=dM (pos:=pos) (Au hU) ha hb
def v43:=dM (pos:=pos) Hj ha hb
def v44:=dM (pos:=pos) (yP hU) ha hb
def v45:=yF (pos:=pos) mh mh ha hb hd
end
local macro_rules|`(tactic|exists $n:num)=>do
 let h<-`(?_);let u<-`(_);let I:=λs:String=>Lean.mkIdent s.toName;let p:=λa k=>Lean.Syntax.mkApp (I a) (Array.replicate k h)
 let t<-((["","dnm:u G5:0 Hf:1 Fi:g:IF Gz:0 zJ:6 DE:ak:3:2 DE:bn:2:3 IB:1 Hg:1 G_:4 AZ:3 LW:0 Gq:0 DE:dC:1:4 DE:fJ:4:5 v31:7 v32:4 v33:4 BX:3 Ax:3 ID:1 Gd:2 J8:1 Hz:1 DQ:1 tU:9 yQ:8 Cb:3 Cj:3 E4:4 Al:a zk:a zn:a","v0:2 v1:2 v2:2 v3:2 v4:2 v5:2 v6:2 v7:4 v8:4 v9:3 v10:3","v11:7 v12:7 v13:7 v14:8 v15:8 v16:7 v17:9 v18:7 v19:7 v20:8","v21:4 v22:4 v23:4 v24:4 v25:4","v26:8 v27:4 v28:8 v29:8 v30:9","Lc:3 HZ:6 Gv:5 J3:1 CQ:2 G0:5 HX:6 Bt:3 Bh:6 IG:2 v34:5 Bx:a DN:a","DT:ao:1:8 v45:4 IC:1 IA:2 L_:1","v35:3 v36:4 v37:3 v38:3 v39:3 v40:4 v41:4 v42:4 v43:3 v44:4","fD:2 h8:1 CJ:0 Es:1 HS:1 IJ:2 Jr:2 Ci:0 Dg:1 E6:4 Ib:4 Ir:4 AM:3 Ei:0 D6:4 yl:4 DC:5 J6:5 Gy:1 J5:1 FC.nil:a FC.cons:a Et:0 Dz:1"].getD n.getNat "").splitOn " ").toArray.mapM λs=>match s.splitOn ":" with
  |[a,"a"]=>`(Lean.Parser.Tactic.tacticSeq|apply $(I a))
  |[a,"d"]=>`(Lean.Parser.Tactic.tacticSeq|(apply $(I a);focus decide))
  |[a,"u"]=>`(Lean.Parser.Tactic.tacticSeq|refine $(I a) _ ?_ ?_ ?_ ?_)
  |[a,k]=>`(Lean.Parser.Tactic.tacticSeq|refine $(p a k.toNat!))
  |[a,_,b]=>`(Lean.Parser.Tactic.tacticSeq|refine $(I a) ($(p b 1)) ?_ ?_ ?_)
  |[d,a,k,m]=>`(Lean.Parser.Tactic.tacticSeq|(show $(I d) _ _ _ $(Lean.Syntax.mkApp (I a) (Array.replicate k.toNat! u));exists $(Lean.Syntax.mkNumLit m)))
  |_=>Lean.Macro.throwUnsupported
 `(tactic|first $[|$t]*)
local macro_rules | `(tactic| exists 0) => `(tactic| first
 |exact Or.inl rfl
 |exact⟨_,_,_,_,_,_,_,.g (by assumption),by assumption,Room.mono (by assumption) (by first|decide|lia),Fb,by assumption⟩
 |exact⟨_,_,_,_,_,_,_,.g (by assumption),by assumption,Room.mono (by assumption) (by first|decide|lia),AE,uxN⟩
 |assumption
 |exact Room.mono (by assumption) (by first|decide|lia)
 |with_reducible exact Fb
 |with_reducible exact AE
 |with_reducible exact uxN
 |exact ModTab.at_ (by assumption)
 |exact⟨by assumption⟩
 |exact FnScope.nd (by assumption)
 |(apply nomark;decide)
 |(apply nodC;decide)
 |exact PassesOwn.leaving
 |exact λ_ _=>rfl
 |exact Or.inr (Or.inl rfl)
 |exact Or.inr rfl
 |exact Or.inr (Or.inr rfl)
 |rfl
 |exact λ_=>rfl
 |decide
 |with_reducible intro _)
local macro_rules | `(tactic| trivial) => `(tactic| first
 |eq_refl
 |(with_reducible first
 |(show DE _ _ _ _;exists 1)
 |refine da_c ?_ ?_ ?_
 |exact HE
 |(show DT _ _ _ _;exists 7)
 |(show DS _ _ _ _;exists 6)
 |exists 9)
 |exists 0)
set_option hygiene false in
local macro_rules | `(tactic| exists $t:ident, $g, [$fs,*]) => `(tactic| exists (_), $t:ident, $g, [$fs,*])
set_option hygiene false in
local macro_rules | `(tactic| exists $t:ident, $g, [$fs,*], $[$ps:ident],*) => `(tactic| exists (_), $t:ident, $g, [$fs,*], $[$ps:ident],*)
set_option hygiene false in
local macro_rules | `(tactic| exists ($k), $t:ident, $g, [$fs,*]) => do let hs <- fs.getElems.mapM fun f => `(tactic| have := $f); `(tactic| exact fnS (k := $k) rfl ($g).F ($g).b ⟨rfl, rfl, rfl, by decide +kernel, rfl, by decide +kernel, by decide +kernel⟩ fun hS _ A _ s _ _ _ _ hr ux => (by have hU := hr.units; have hu := vY hr; have hg := hr.gd; ($[$hs];*); unfold $t:ident; (first | refine fD ?_ ?_ | refine h8 ?_); repeat' trivial))
set_option hygiene false in
local macro_rules | `(tactic| exists ($k), $t:ident, $g, [$fs,*], $[$ps:ident],*) => do let hs <- fs.getElems.mapM fun f => `(tactic| have := $f); `(tactic| exact fnS (k := $k) rfl ($g).F ($g).b ⟨rfl, rfl, rfl, by decide +kernel, rfl, by decide +kernel, by decide +kernel⟩ fun hS _ A _ s _ _ _ _ hr ux => (by have hU := hr.units; have hu := vY hr; have hg := hr.gd; ($[$hs];*); unfold $t:ident $[$ps:ident]*; (first | refine fD ?_ ?_ | refine h8 ?_); repeat' trivial))
variable {P:gg}{w:g5}{K:Mp}{mg:Uq}{base:g4}{ad:Ad}(E:En P w K mg base ad)
include E
theorem LK:cP P w mg base E.f1.F E.f1.b 1 (DU ad):=by
 exists CP,E.f1,[E.u0,E.u7,E.u5,E.u40,E.u28,E.u6,E.u4,E.u8]
theorem Fv:cP P w mg base E.f2.F E.f2.b 1 (tM ad):=by
 exists CK,E.f2,[E.u32,E.u0,E.u8,E.u4,E.u11,E.u12]
theorem Jf:cP P w mg base E.f3.F E.f3.b 2 (oh ad):=by
 have:=Fv E
 exists wN,E.f3,[E.u0,E.u5,E.f2]
theorem Ik:cP P w mg base E.f12.F E.f12.b 1 (xb ad):=by
 exists xM,E.f12,[]
theorem IS:cP P w mg base E.f11.F E.f11.b 1 (vZ ad):=by
 exists lR,E.f11,[]
theorem J2:cP P w mg base E.f10.F E.f10.b 2 (sw ad):=by
 have:=Ik E;have:=IS E
 exists kN,E.f10,[E.f11,E.f12]
theorem rY:∀n:Nat,cP P w mg base E.f6.F E.f6.b (2+n) (RM ad n)/\cP P w mg base E.f7.F E.f7.b (2+n) (RO ad n)/\cP P w mg base E.f8.F E.f8.b (2+n) (RQ ad n)/\cP P w mg base E.f9.F E.f9.b (2+n) (RS ad n):=by
 have:=Jf E;have:=Fv E;have:=J2 E;intro n
 induction n with
 |zero=>exact⟨cr,cr,cr,cr⟩
 |succ n ih=>
  obtain⟨_,_,_,_⟩:=ih;refine⟨?_,?_,?_,?_⟩
  .exists (2+n),vX,E.f6,[E.u29,E.f7]
  .exists (2+n),nM,E.f7,[E.f8,E.f9,E.f10,E.u0,E.u7,E.u5,E.u6,E.f2]
  .exists (2+n),wn,E.f8,[E.u0,E.f3,E.f6]
  .exists (2+n),vM,E.f9,[E.u0,E.f3,E.f6]
theorem AV:cP P w mg base E.f4.F E.f4.b 27 (iW ad):=by
 have:=LK E;obtain⟨_,_,_,_⟩:=rY E 24
 exists wK,E.f4,[E.f1,E.u1,E.u0,E.f6,E.u11,E.u12,E.u8,E.u39,E.u5]
theorem Ha:cP P w mg base E.f5.F E.f5.b 28 (qY ad):=by
 have:=AV E
 exists vS,E.f5,[E.f4]
theorem IH:cP P w mg base E.f15.F E.f15.b 1 (wL ad):=by
 exists xg,E.f15,[E.u31,E.u38,E.u32,E.u19,E.u26]
theorem Jl:cP P w mg base E.f16.F E.f16.b 2 (vP ad):=by
 have:=IH E
 exists we,E.f16,[E.u31,E.u39,E.u32,E.u20,E.u26,E.f15,E.u36]
theorem z4:cP P w mg base E.f17.F E.f17.b 1 (sK ad):=by
 exists xH,E.f17,[E.u31,E.u38]
theorem zK:cP P w mg base E.f14.F E.f14.b 1 (lM ad):=by
 exists vL,E.f14,[E.u31,E.u30,E.u27]
theorem Jg:cP P w mg base E.f20.F E.f20.b 2 (nL ad):=by
 have:=z4 E;have:=zK E
 exists kZ,E.f20,[E.f17,E.f14]
theorem Gw:cP P w mg base E.f19.F E.f19.b 3 (nE ad):=by
 have:=Jg E
 exists xA,E.f19,[E.u31,E.u39,E.u32,E.u38,E.u25,E.u24,E.u26,E.u40,E.f20],km,jM,kj,jn,jT
theorem pE:cP P w mg base E.f21.F E.f21.b 1 (eZ ad):=by
 exists xc,E.f21,[],qu,jG
theorem HJ:cP P w mg base E.f18.F E.f18.b 4 (vE ad):=by
 have:=Gw E;have:=pE E
 exists xG,E.f18,[E.u31,E.u39,E.u32,E.u22,E.u26,E.f19,E.f21],lV,qp,kC,pM,pI,qd,p_,qt,gQ,jm
theorem HC:cP P w mg base E.f13.F E.f13.b 5 (rL ad):=by
 have:=Jl E;have:=HJ E;have:=z4 E;have:=zK E
 exists wQ,E.f13,[E.u31,E.u39,E.u32,E.f14,E.u17,E.u23,E.u21,E.f16,E.f17,E.f18]
theorem HI:cP P w mg base E.f23.F E.f23.b 1 (wV ad):=by
 exists wD,E.f23,[E.u33,E.u18,E.u26],k9,k7,p5
theorem AQ:cP P w mg base E.f28.F E.f28.b 1 (sY ad):=by
 exists w8,E.f28,[]
theorem LO:cP P w mg base E.f26.F E.f26.b 2 (ED ad):=by
 have:=pE E
 exists EA,E.f26,[E.u13,E.u14,E.f21],qf
theorem uw:∀n:Nat,cP P w mg base E.f25.F E.f25.b (2+n) (RH ad n)/\cP P w mg base E.f27.F E.f27.b (2+n) (RL ad n):=by
 have:=AQ E;have:=LO E;have:=pE E;intro n
 induction n with
 |zero=>exact⟨cr,cr⟩
 |succ n ih=>
  obtain⟨_,_⟩:=ih;refine⟨?_,?_⟩
  .exists (2+n),xF,E.f25,[E.u32,E.u13,E.u14,E.u29,E.f26,E.f21,E.f27],ku,jx,j_,jQ,jS
  .exists (2+n),DF,E.f27,[E.u40,E.f28,E.f21,E.f25],ub,mq
theorem A2:cP P w mg base E.f24.F E.f24.b 27 (sS ad):=by
 obtain⟨_,_⟩:=uw E 24
 exists wG,E.f24,[E.u13,E.u14,E.f25,E.u37],o_,kf
theorem Lv:cP P w mg base E.f22.F E.f22.b 28 (BJ ad):=by
 have:=HI E;have:=A2 E
 exists BH,E.f22,[E.u2,E.u9,E.f23,E.u10,E.u28,E.u29,E.f24],oS
theorem lW:∀n:Nat,cP P w mg base E.f30.F E.f30.b (1+n) (RI ad n)/\cP P w mg base E.f31.F E.f31.b (1+n) (RJ ad n):=by
 have:=AQ E;have:=pE E;intro n
 induction n with
 |zero=>exact⟨cr,cr⟩
 |succ n ih=>
  obtain⟨_,_⟩:=ih;refine⟨?_,?_⟩
  .exists (1+n),wC,E.f30,[E.u29,E.f31,E.u39],oQ,jD
  .exists (1+n),wq,E.f31,[E.u2,E.u10,E.u9,E.u40,E.f28,E.f21,E.f30,E.u39],kE,gC,gP,k8
theorem Ho:cP P w mg base E.f29.F E.f29.b 30 (xn ad):=by
 have:=Lv E;have:=HC E;obtain⟨_,_⟩:=lW E 24
 exists w6,E.f29,[E.f22,E.u3,E.u2,E.f30,E.u9,E.u32,E.u10,E.f13,E.u15,E.u16],jL,jE,jv
theorem Iu:cP P w mg base E.f32.F E.f32.b 1 (kT ad):=by
 exists xz,E.f32,[]
theorem Jc:cP P w mg base E.f33.F E.f33.b 1 (vT ad):=by
 exists xw,E.f33,[E.u33]
theorem gs:cP P w mg base E.f34.F E.f34.b 2 (ba ad):=by
 have:=Iu E
 exists vO,E.f34,[E.f32]
theorem Jh:cP P w mg base E.f35.F E.f35.b 3 (v_ ad):=by
 have:=gs E
 exists xq,E.f35,[E.f34,E.u35,E.u39]
theorem zE:cP P w mg base E.f36.F E.f36.b 3 (n_ ad):=by
 have:=gs E
 exists wu,E.f36,[E.f34,E.u32]
theorem mx:∀n:Nat,cP P w mg base E.f37.F E.f37.b (3+n) (RU ad n)/\cP P w mg base E.f38.F E.f38.b (3+n) (RT ad n):=by
 have:=gs E;have:=zE E;intro n
 induction n with
 |zero=>exact⟨cr,cr⟩
 |succ n ih=>
  obtain⟨_,_⟩:=ih;refine⟨?_,?_⟩
  .exists (3+n),wB,E.f37,[E.f34,E.u32,E.f38,E.u34]
  .exists (3+n),wP,E.f38,[E.u35,E.f34,E.f37,E.f36,E.u39]
theorem J1:cP P w mg base E.f39.F E.f39.b 28 (wU ad):=by
 have:=gs E;have:=Jh E;obtain⟨_,_⟩:=mx E 24
 exists wj,E.f39,[E.f34,E.f35,E.f38,E.u32]
theorem Ic:cP P w mg base E.f40.F E.f40.b 3 (vI ad):=by
 have:=gs E
 exists wg,E.f40,[E.u39,E.f34,E.u35]
theorem dA:∀n:Nat,cP P w mg base E.f41.F E.f41.b (0+n) (RP ad n):=by
 intro n
 induction n with
 |zero=>exact cr
 |succ n ih=>
  exists (0+n),E1,E.f41,[E.f41,E.u39],ve,lE,mH,oJ,qj
theorem gr:∀n:Nat,cP P w mg base E.f42.F E.f42.b (24+n) (RG ad n):=by
 have:=gs E;have:=dA E 24;have:=zE E;intro n
 induction n with
 |zero=>exact cr
 |succ n ih=>
  exists (24+n),Di,E.f42,[E.f42,E.u29,E.f34,E.f41,E.f36,E.u39],pQ,gW,kG,jR,hV,oG,pJ,qD,pj,mU,qF,mQ,qk,pk
theorem HD:cP P w mg base E.f43.F E.f43.b 49 (xm ad):=by
 have:=dA E 24;have:=J1 E;have:=gr E 24
 exists wE,E.f43,[E.f39,E.f41,E.f42,E.u37],kr,jU,kh,jZ
theorem JY:cP P w mg base E.f44.F E.f44.b 1 (BL ad):=by
 exists Cp,E.f44,[E.u35],uG,oV,ua
theorem lK:∀n:Nat,cP P w mg base E.f45.F E.f45.b (0+n) (RF ad n):=by
 intro n
 induction n with
 |zero=>exact cr
 |succ n ih=>
  exists (0+n),wy,E.f45,[E.f45,E.u29],mP,fB,ie,h7,gX,jN,jz,k4,gU,kK,gZ,kn,kJ
theorem IV:cP P w mg base E.f46.F E.f46.b 25 (xI ad):=by
 have:=JY E;have:=lK E 24
 exists wW,E.f46,[E.f44,E.f45,E.u32],kg,jI
theorem iB:∀n:Nat,cP P w mg base E.f47.F E.f47.b (0+n) (RN ad n):=by
 intro n
 induction n with
 |zero=>exact cr
 |succ n ih=>
  exists (0+n),DP,E.f47,[E.f47],vy,lX,pS,lB,oX,lZ
theorem IQ:cP P w mg base E.f48.F E.f48.b 25 (rB ad):=by
 have:=iB E 24
 exists xi,E.f48,[E.u32,E.f47]
theorem kR:∀n:Nat,cP P w mg base E.f49.F E.f49.b (0+n) (RV ad n):=by
 intro n
 induction n with
 |zero=>exact cr
 |succ n ih=>
  exists (0+n),gI,E.f49,[E.f49,E.u31,E.u27,E.u30,E.u38,E.u39,E.u33,E.u32,E.u26,E.u40]
theorem L1:cP P w mg base E.f50.F E.f50.b 1 (Ep ad):=by
 exists Ey,E.f50,[E.u32],qE,uv,uQ,pL,pF,pO,qr,mD,pH,pZ
theorem GY:cP P w mg base E.f51.F E.f51.b 50 (Be ad):=by
 have:=kR E 24;have:=L1 E;have:=gs E;have:=IQ E;have:=Jc E;have:=Ic E;have:=HD E;have:=IV E;have:=Ha E;have:=AV E;have:=A2 E;have:=Ho E
 exists wJ,E.f51,[E.f33,E.f43,E.u32,E.f48,E.f46,E.f49,E.f24,E.f29,E.f40,E.f34,E.f4,E.f50,E.f5],lg,mW,gS,g_,gF,h9,gY,hW,iy,jy,kx,ig,jJ,gH,ki,gR,kD
end
end _T
namespace _3
open PySem _2
theorem aL{T:Sd}{EE:DX}{ds:List D}{M:Mem}{Q:DK}{b:BxQ EE Q}{d:D}(c:∀Q' E',Q' d M->T ds M Q' E')(h:Q d M):calls T EE ds M Q b:=
 au λQ' E' a _=>c Q' E' (a d M h)
theorem bE{b:Type}{xs:List b}{i:Int}(h:0<=i):atI xs i=xs[i.toNat]?:=by
 unfold atI wf;rw[if_pos h]
 by_cases a:i<xs.length
 .rw[if_pos a];rfl
 .rw[if_neg a,NN (by lia)];rfl
@[simp] theorem atI_0 {α:Type} {xs:List α}:atI xs 0=xs[0]?:=bE (by decide)
@[simp] theorem atI_1 {α:Type} {xs:List α}:atI xs 1=xs[1]?:=bE (by decide)
@[simp] theorem atI_2 {α:Type} {xs:List α}:atI xs 2=xs[2]?:=bE (by decide)
@[simp] theorem atI_3 {α:Type} {xs:List α}:atI xs 3=xs[3]?:=bE (by decide)
@[simp] theorem atI_4 {α:Type} {xs:List α}:atI xs 4=xs[4]?:=bE (by decide)
theorem bt{g:jC}{i:aB}{DD:DEnds}{ok:Mem->Prop}{b:BxF g i DD ok}(I:List D->Dl->Mem->Prop)(c:∀xs U M,I xs U M->ok M)(j:∀U M,I [] U M->DD.nx U M)
  (f:∀x xs U M,I (x::xs) U M->∀D':DEnds,(∀a M',I xs a M'->D'.nx a M')->(∀a M',I xs a M'->D'.ct a M')->D'.rt=DD.rt->D'.bk=DD.nx->g x U M λδ2 M2=>i D' δ2 M2):∀xs U M,I xs U M->vp g i DD ok b xs U M
 |[],U,M,h=>⟨c _ _ _ h,j U M h⟩
 |x::xs,U,M,h=>⟨c _ _ _ h,f x xs U M h _ (λa M' e=>bt I c j f xs a M' e) (λa M' e=>bt I c j f xs a M' e) rfl rfl⟩
theorem aV{g:jC}{tt:fg}{te:bj}{ok:Mem->Prop}{Q:List D->Mem->Prop}{b:BxC g tt te ok Q}(I:List D->List D->Dl->Mem->Prop)(e:∀xs T6 U M,I xs T6 U M->ok M)(l:∀T6 U M,I [] T6 U M->Q T6 M)
  (j:∀x xs T6 U M,I (x::xs) T6 U M->∀N:Bool->D->Dl->Mem->Prop,(∀y a M',T6.length<sizeLine->I xs (T6++[y]) a M'->N true y a M')->(∀y a M',I xs T6 a M'->N eH y a M')->g x U M λδ2 M2=>tt δ2 M2 λc M3=>if c=true then te δ2 M3 λy M4=>N true y δ2 M4 else N eH .non δ2 M3)
  (m:∀x xs T6 U M,I (x::xs) T6 U M->T6.length<sizeLine):∀xs T6 U M,I xs T6 U M->dD g tt te ok Q b xs T6 U M
 |[],T6,U,M,h=>⟨e _ _ _ _ h,l T6 U M h⟩
 |x::xs,T6,U,M,h=>⟨e _ _ _ _ h,j x xs T6 U M h (λk y a M'=>if k=true then T6.length<sizeLine/\dD g tt te ok Q b xs (T6++[y]) a M' else dD g tt te ok Q b xs T6 a M')
   (λy a M' f i=>by rw[if_pos rfl];exact⟨f,aV I e l j m xs _ a M' i⟩) (λy a M' i=>by rw[if_neg (by simp)];exact aV I e l j m xs _ a M' i) |> λz=>by simpa using z⟩
theorem aQ{n:Nat}(h:n<=1000000):n<=sizeLine:=ME h (by decide)
theorem eI{n:Nat}(h:n<1000000):n<sizeLine:=MF h (by decide)
end _3
namespace _T
open PySem _2 _3
variable{v:Int}{x:Str}{n:dk}
inductive Rw where
 |put (x:Str) (k:Int)|take (x:Str) (i:Int)|pick (x y:Str)|two (w x y z:Str)|ifr (x:Str) (a b:List Rw)|again (x:Str) (a:List Rw)
mutual
noncomputable def Rw.d:Rw->D
 |.put x k=>.tup [.str "put",.str x,.int k]
 |.take x i=>.tup [.str "take",.str x,.int i]
 |.pick x y=>.tup [.str "pick",.str x,.str y]
 |.two w x y z=>.tup [.str w,.str x,.str y,.str z]
 |.ifr x a b=>.tup [.str "if",.str x,.tup (ah a),.tup (ah b)]
 |.again x a=>.tup [.str "again",.str x,.tup (ah a)]
noncomputable def ah:List Rw->List D
 |[]=>[]
 |r::rs=>r.d::ah rs
end
theorem iD:∀rs:List Rw,ah rs=rs.map Rw.d
 |[]=>rfl
 |r::rs=>by rw[ah,iD rs];rfl
noncomputable abbrev dk:=List (Str×Int)
noncomputable def gN(n:dk)(x:Str):Option Int:=(n.find? λp=>decide (p.1=x)).map (·.2)
noncomputable def nm(n:dk)(x:Str):Int:=(gN n x).getD 0
noncomputable def sN(n:dk)(x:Str)(v:Int):dk:=n.map λp=>if p.1=x then (p.1,v) else p
noncomputable def iN(n:dk):List (bh×D):=n.map λp=>(Ob p.1,D.int p.2)
theorem zY:∀{n:dk}{x:Str},x∈n.map (·.1)->gN n x=cb (nm n x)
 |[],_,h=>by simp at h
 |(y,v)::n,x,h=>by
  by_cases e:y=x
  .simp[gN,nm,e]
  .have:=zY (n:=n) (x:=x) (by simpa [ML e,eq_comm,e] using h)
   simpa [gN,nm,e] using this
theorem h_:∀{n:dk}{x:Str},jg (iN n) (Ob x)=(gN n x).map D.int
 |[],x=>rfl
 |(y,v)::n,x=>by
  by_cases e:y=x
  .simp[jg,iN,gN,e]
  .have:=h_ (n:=n) (x:=x)
   simpa [jg,iN,gN,e] using this
theorem AS:∀{n:dk}{x:Str},x∈n.map (·.1)->((iN n).any λkv=>decide (kv.1=Ob x))=true
 |[],_,h=>by simp at h
 |(y,v)::n,x,h=>by
  by_cases e:y=x
  .simp[iN,e]
  .have:=AS (n:=n) (x:=x) (by simpa [ML e,eq_comm,e] using h)
   simp only[iN,Mo,ND,Bool.or_eq_true]at this ⊢;exact .inr this
theorem Da(h:x∈n.map (·.1)):fb (iN n) (Ob x) (.int v)=iN (sN n x v):=by
 unfold fb;rw[AS h,if_pos rfl];simp only[iN,sN,NX];apply ON;intro p _
 by_cases e:p.1=x
 .simp[e]
 .simp[e]
theorem jH:(sN n x v).map (·.1)=n.map (·.1):=by
 simp only[sN,NX];apply ON;intro p _
 by_cases e:p.1=x<;>simp[e]
theorem KG{y:Str}(h:x∈n.map (·.1)):gN (sN n x v) y=if y=x then cb v else gN n y:=by
 induction n with
 |nil=>simp at h
 |cons p n ih=>
  obtain⟨k,u⟩:=p
  by_cases e:k=x
  .subst e
   by_cases a:y=k
   .subst a;simp[gN,sN]
   .simp only[if_neg a]
    have c:¬k=y:=λz=>a z.symm
    by_cases b:k∈n.map (·.1)
    .have:=ih b
     simpa [gN,sN,c,if_neg a] using this
    .simp only[gN,sN,Mo,if_pos,NS,c,decide_false]
     congr 1;have:n.map (λp=>if p.1=k then (p.1,v) else p)=n:=by
      conv=>rhs;rw[<- List.map_id n]
      apply ON;intro p g;have:p.1≠k:=λz=>b (by rw[<- z];exact MJ g)
      simp[this]
     rw[this]
  .have b:x∈n.map (·.1):=by simpa [ML e,eq_comm,e] using h
   have:=ih b
   by_cases a:y=x
   .subst a;simpa [gN,sN,e] using this
   .by_cases f:k=y
    .subst f;simp[gN,sN,e]
    .simpa [gN,sN,e,f,a] using this
structure Cf where
 m:Int
 pieces:List Int
 most:Nat
structure Sx where
 nums:dk
 steps:List (List Int×Int)
noncomputable def Ft(w:Str)(y z m:Int):Int:=if w="sum" then (y+z) % m else if w="by" then y*z % m else if w="less" then (if y<z then 1 else 0) else if y=z then 1 else 0
noncomputable def eg(c:Cf)(n:dk):Rw->Int
 |.put _ k=>k
 |.take _ i=>(c.pieces[i.toNat]?).getD 0
 |.pick _ y=>(c.pieces[(nm n y % (c.pieces.length:Int)).toNat]?).getD 0
 |.two w _ y z=>Ft w (nm n y) (nm n z) c.m
 |_=>0
noncomputable def y8:Rw->Str
 |.put x _=>x
 |.take x _=>x
 |.pick x _=>x
 |.two _ x _ _=>x
 |.ifr x _ _=>x
 |.again x _=>x
noncomputable def nt(c:Cf)(pl:Ug)(v:Int)(s:Sx):Bool×Sx:=if s.steps.length<c.most then (true,⟨s.nums,s.steps++[(pl,v)]⟩) else (eH,s)
noncomputable def lk(n:dk)(x:Str):Int:=if nm n x=0 then 0 else 1
noncomputable def dF(c:Cf)(x:Str)(pl:Ug)(body:Nat->Sx->Bool×Sx):Nat->Nat->Sx->Bool×Sx
 |0,_,s=>(eH,s)
 |f+1,t,s=>if (nt c (pl++[(t:Int)]) (lk s.nums x) s).1=true then
   (if lk s.nums x=1 then
    (if (body t (nt c (pl++[(t:Int)]) (lk s.nums x) s).2).1=true then dF c x pl body f (t+1) (body t (nt c (pl++[(t:Int)]) (lk s.nums x) s).2).2 else body t (nt c (pl++[(t:Int)]) (lk s.nums x) s).2)
   else nt c (pl++[(t:Int)]) (lk s.nums x) s)
  else nt c (pl++[(t:Int)]) (lk s.nums x) s
mutual
noncomputable def gB(c:Cf):Rw->List Int->Sx->Bool×Sx
 |.ifr x a b,pl,s=>if (nt c pl (lk s.nums x) s).1=true then (if lk s.nums x=1 then cO c a (pl++[lk s.nums x]) 0 (nt c pl (lk s.nums x) s).2 else cO c b (pl++[lk s.nums x]) 0 (nt c pl (lk s.nums x) s).2) else nt c pl (lk s.nums x) s
 |.again x a,pl,s=>dF c x pl (λt s=>cO c a (pl++[(t:Int)]) 0 s) (c.most+1) 0 s
 |.put x k,pl,s=>if (nt c pl (eg c s.nums<|.put x k) s).1=true then (true,⟨sN s.nums x (eg c s.nums<|.put x k),(nt c pl (eg c s.nums<|.put x k) s).2.steps⟩) else nt c pl (eg c s.nums<|.put x k) s
 |.take x i,pl,s=>if (nt c pl (eg c s.nums<|.take x i) s).1=true then (true,⟨sN s.nums x (eg c s.nums<|.take x i),(nt c pl (eg c s.nums<|.take x i) s).2.steps⟩) else nt c pl (eg c s.nums<|.take x i) s
 |.pick x y,pl,s=>if (nt c pl (eg c s.nums<|.pick x y) s).1=true then (true,⟨sN s.nums x (eg c s.nums<|.pick x y),(nt c pl (eg c s.nums<|.pick x y) s).2.steps⟩) else nt c pl (eg c s.nums<|.pick x y) s
 |.two w x y z,pl,s=>if (nt c pl (eg c s.nums<|.two w x y z) s).1=true then (true,⟨sN s.nums x (eg c s.nums<|.two w x y z),(nt c pl (eg c s.nums<|.two w x y z) s).2.steps⟩) else nt c pl (eg c s.nums<|.two w x y z) s
noncomputable def cO(c:Cf):List Rw->List Int->Nat->Sx->Bool×Sx
 |[],_,_,s=>(true,s)
 |r::rs,pl,j,s=>if (gB c r (pl++[(j:Int)]) s).1=true then cO c rs pl (j+1) (gB c r (pl++[(j:Int)]) s).2 else gB c r (pl++[(j:Int)]) s
end
noncomputable def gE(c:Cf)(r:Rw)(pl:Ug)(s:Sx):Bool×Sx:=if s.steps.length<c.most then (true,⟨sN s.nums (y8 r) (eg c s.nums r),s.steps++[(pl,eg c s.nums r)]⟩) else (eH,s)
noncomputable def ms:Rw->Bool
 |.ifr _ _ _=>eH
 |.again _ _=>eH
 |_=>true
theorem bI{c:Cf}{r:Rw}{pl:Ug}{s:Sx}(h:ms r=true):gB c r pl s=gE c r pl s:=by
 cases r with
 |ifr x a b=>simp[ms]at h
 |again x a=>simp[ms]at h
 |put x k=>simp only[gB,gE,nt,y8];split<;>simp_all
 |take x k=>simp only[gB,gE,nt,y8];split<;>simp_all
 |pick x k=>simp only[gB,gE,nt,y8];split<;>simp_all
 |two w x y z=>simp only[gB,gE,nt,y8];split<;>simp_all
theorem ofs_inj(a b:String):(Mq a=Mq b)=(a=b):=by
 refine propext ⟨λh=>?_,λh=>by rw[h]⟩
 rw[Str.ofString_eq_byList]at h;have c:=congrArg (λx:Str=>x.cps.toList) h;simp only[Str.ofStringByList]at c;exact String.toList_inj.mp ((List.map_inj_right λx y e=>Char.toNat_inj.mp e).mp c)
end _T
open PySem _2 _3 _T
local macro_rules | `(tactic| simp! [$a,*]) => do let p <- ("jT jn kj jM km jG qu jm gQ qt p_ qd pI pM kC qp lV p5 k7 k9 qf jS jQ j_ jx ku mq ub kf o_ oS jD oQ k8 gP gC kE jv jE jL qj oJ mH lE ve pk qk mQ qF mU pj qD pJ oG hV jR kG gW pQ jZ kh jU kr ua oV uG kJ kn gZ kK gU k4 jz jN gX h7 ie fB mP jI kg lZ oX lB pS lX vy pZ pH mD qr pO pF pL uQ uv qE kD gR ki gH jJ ig kx jy iy hW gY h9 gF g_ gS mW lg dR rK qo IN pG vV G9 jp yw wa CV io aM startN al aA ao bO vN ak ci ji dv bN fits aH cG ac dC ax qh ay df gk jw eY F6 oI pY iP aw aC cX am frz aF uF li lL IY ap af bQ aG bR gL DB aa ae av br bn bF AT bW b_ cu mZ jc G3 du f_ bf fJ bp cI zw dTM uI gl rW eO ou B1 yn eQ uX tu eM aY aD aj j7 rJ cj og e_ Gh bu oM cF k_ ko g6 uq frzs Ht dJ iQ qO gu".splitOn " ").toArray.mapM (fun s => `(Lean.Parser.Tactic.simpLemma| ↓$(Lean.mkIdent s.toName):ident)); let q <- ("List.map_cons List.map_nil List.cons_append List.nil_append List.length_cons List.length_nil List.getElem?_cons_succ List.getElem?_cons_zero List.set_cons_succ List.set_cons_zero Nat.zero_add Nat.reduceAdd Nat.reduceSub List.replicate_succ List.replicate_zero List.append_nil true_and and_true if_true if_false Bool.false_eq_true decide_eq_true_eq decide_eq_false_iff_not Bool.not_true Bool.not_false Bool.and_true Bool.true_and Bool.and_false Bool.false_and Mem.upd_same Option.isSome_some Option.isSome_none ofs_inj String.reduceEq".splitOn " ").toArray.mapM (fun s => `(Lean.Parser.Tactic.simpLemma| $(Lean.mkIdent s.toName):ident)); let r : Lean.TSyntaxArray [`Lean.Parser.Tactic.simpStar, `Lean.Parser.Tactic.simpErase, `Lean.Parser.Tactic.simpLemma] := (p.map (⟨·.raw⟩)) ++ (q.map (⟨·.raw⟩)) ++ a.getElems; `(tactic| simp -dsimp only [$r,*])
namespace _T
open PySem _2 _3
variable{ad:Ad}{c:Cf}{Q:DK}{E:DX}{TY:Uh}{M:Mem}{r:Rw}{n:dk}
theorem rP{w:Str}{y z m:Int}(b:0<m)(i:0<=y)(g:y<1000)(h:Q (.int<|Ft w y z m) M):xb ad [.str w,.int y,.int z,.int m] M Q E:=by
 have f:CMul y z:=.inl ⟨by lia,by lia⟩
 unfold Ft at h;simp![JJ,xM]
 split
 .rename_i e;rw[if_pos e]at h;exact⟨b,aq h⟩
 .rename_i e;rw[if_neg e]at h
  split
  .rename_i e;rw[if_pos e]at h;exact⟨f,b,aq h⟩
  .rename_i e;rw[if_neg e]at h
   split
   .rename_i e;rw[if_pos e]at h
    split<;>rename_i a
    .rw[if_pos a]at h;exact aq h
    .rw[if_neg a]at h;exact aq h
   .rename_i e;rw[if_neg e]at h
    split<;>rename_i a
    .rw[if_pos a]at h;exact aq h
    .rw[if_neg a]at h;exact aq h
def dQ(TY:Uh)(m TZ:Int):Rw->Prop
 |.put x k=>x∈TY/\0<=k/\k<m
 |.take x i=>x∈TY/\0<=i/\i<TZ
 |.pick x y=>x∈TY/\y∈TY/\0<TZ
 |.two w x y z=>(w="sum"\/w="by"\/w="less"\/w="same")/\x∈TY/\y∈TY/\z∈TY
 |_=>False
structure NOk(TY:Uh)(m:Int)(n:dk):Prop where
 keys:n.map (·.1)=TY
 rng:∀p∈n,0<=p.2/\p.2<m
theorem NOk.at{TY:Uh}{m:Int}{n:dk}(h:NOk TY m n){x:Str}(f:x∈TY):gN n x=cb (nm n x)/\0<=nm n x/\nm n x<m:=by
 have e:gN n x=cb (nm n x):=zY (by rw[h.keys];exact f)
 refine⟨e,?_⟩;unfold gN at e;obtain⟨p,b,a⟩:=Nd.mp e;rw[<- a];exact h.rng p (List.mem_of_find?_eq_some b)
theorem DH{w:Str}{y z m:Int}(h2:2<=m):0<=Ft w y z m/\Ft w y z m<m:=by
 unfold Ft;have f:=OO (y+z) (show m≠0 by lia)
 have a:=OA (y+z) (show 0<m by lia)
 have e:=OO (y*z) (show m≠0 by lia)
 have b:=OA (y*z) (show 0<m by lia)
 repeat' split
 all_goals lia
structure COk(c:Cf):Prop where
 m2:2<=c.m
 m1:c.m<=997
 rng:∀v∈c.pieces,0<=v/\v<c.m
 few:c.pieces.length<=1000
 most:c.most<=10000
theorem COk.piece(h:COk c){i:Nat}(a:i<c.pieces.length):c.pieces[i]?=cb ((c.pieces[i]?).getD 0)/\0<=(c.pieces[i]?).getD 0/\(c.pieces[i]?).getD 0<c.m:=by
 rw[Mi a];exact⟨rfl,h.rng _<|OG a⟩
theorem CH(h:COk c)(g:NOk TY c.m n)(a:dQ TY c.m c.pieces.length r):0<=eg c n r/\eg c n r<c.m:=by
 cases r with
 |put x k=>exact a.2
 |take x i=>exact(h.piece (i:=i.toNat)<|by have:=a.2;lia).2
 |pick x y=>
  have b:=a.2.2;have e:=OO (nm n y) (show (c.pieces.length:Int)≠0 by lia)
  have f:=OA (nm n y) b;exact(h.piece (i:=(nm n y % (c.pieces.length:Int)).toNat)<|by lia).2
 |two w x y z=>exact DH h.m2
 |ifr=>exact a.elim
 |again=>exact a.elim
noncomputable def aK(c:Cf)(TY:Uh)(rows:List Rw)(mk:Str):D:=.tup [.int c.m,.tup (TY.map D.str),.int (c.pieces.length:Nat),.tup (ah rows),.str mk]
theorem cU{rows:List Rw}{mk:Str}{b:eC}(f:NOk TY c.m n)(a:dQ TY c.m c.pieces.length r)(g:M b=cb (.dK<|iN n))(h:Q (match r with|.take _ i=>.int i|.pick _ y=>.int (nm n y % (c.pieces.length:Int))|_=>.non) M):vZ ad [aK c TY rows mk,.ref b,r.d] M Q E:=by
 cases r with
 |put x k=>(simp![xp,lR,aK,Rw.d,atI_0,atI_2];exact aq h)
 |take x i=>(simp![xp,lR,aK,Rw.d,atI_0,atI_2];exact aq h)
 |pick x y=>
  simp![xp,lR,aK,Rw.d,atI_0,atI_2,g,h_,(f.at a.2.1).1,Ox];exact⟨a.2.2,aq h⟩
 |two w x y z=>
  obtain⟨e,_⟩:=a;rcases e with rfl|rfl|rfl|rfl<;>(simp![xp,lR,aK,Rw.d,atI_0,atI_2];exact aq h)
 |ifr=>exact a.elim
 |again=>exact a.elim
theorem lh{rows:List Rw}{mk:Str}{v:eC}(f:COk c)(e:NOk TY c.m n)(b:dQ TY c.m c.pieces.length r)(g:M v=cb (.dK<|iN n))(h:Q (.int<|eg c n r) M):sw ad [aK c TY rows mk,.ref v,.tup (c.pieces.map D.int),r.d] M Q E:=by
 have G:=f.m1;have H:=f.m2;cases r with
 |put x k=>
  simp![vJ,kN,aK,Rw.d,atI_0,atI_2];exact aq h
 |take x i=>
  have a:=b;obtain⟨u,p,J⟩:=a;have l:=f.piece (i:=i.toNat) (by lia)
  have o:(c.pieces.map D.int)[i.toNat]?=cb (.int<|eg c n<|.take x i):=by rw[Mw,l.1];rfl
  simp![vJ,kN,aK,Rw.d,atI_0,atI_2];refine aL (d:=.int i) (λ_ _ q=>cU (c:=c) (TY:=TY) (rows:=rows) (mk:=mk) (r:=.take x i) e b g q) ?_;simp![bE p,o];exact aq h
 |pick x y=>
  have a:=b;obtain⟨u,s,p⟩:=a;have C:=OO (nm n y) (show (c.pieces.length:Int)≠0 by lia)
  have K:=OA (nm n y) p;have l:=f.piece (i:=(nm n y % (c.pieces.length:Int)).toNat) (by lia)
  have o:(c.pieces.map D.int)[(nm n y % (c.pieces.length:Int)).toNat]?=cb (.int<|eg c n<|.pick x y):=by rw[Mw,l.1];rfl
  simp![vJ,kN,aK,Rw.d,atI_0,atI_2];refine aL (d:=.int (nm n y % (c.pieces.length:Int))) (λ_ _ q=>cU (c:=c) (TY:=TY) (rows:=rows) (mk:=mk) (r:=.pick x y) e b g q) ?_;simp![bE C,o];exact aq h
 |two w x y z=>
  have a:=b;obtain⟨B,u,s,A⟩:=a;have F:=e.at s;have I:=e.at A;have j:((w=Mq "put")=False):=by rcases B with rfl|rfl|rfl|rfl<;>exact eq_false (by decide +kernel)
  simp![vJ,kN,aK,Rw.d,atI_0,atI_2,j];refine aL (d:=.non) (λ_ _ q=>cU (c:=c) (TY:=TY) (rows:=rows) (mk:=mk) (r:=.two w x y z) e b g q) ?_;simp![atI_0,atI_2,atI_3,g,h_,F.1,I.1,Ox];exact aL (d:=.int (eg c n<|.two w x y z)) (λ_ _ q=>rP (by lia) (by lia) (by lia) q) (aq h)
 |ifr=>exact b.elim
 |again=>exact b.elim
structure Wk where
 a:eC
 dn:eC
 ls:eC
 h1:a≠dn
 h2:a≠ls
 h3:dn≠ls
noncomputable def plD(l:Ug):D:=.tup (l.map D.int)
noncomputable def rN(l:List (List Int×Int)):List D:=l.map λp=>.tup [plD p.1,.int p.2]
noncomputable def wM(ad:Ad)(k:Wk)(c:Cf)(pD:D)(s:Sx)(M:Mem):Mem:=
 ((M.upd k.a<|.ins ad.C_Walk [("plan",pD),("numbers",.ref k.dn),("pieces",.tup (c.pieces.map D.int)),("most",.int (c.most:Nat)),("steps",.ref k.ls)]).upd k.dn<|.dK<|iN s.nums).upd k.ls (.lst<|rN s.steps)
section
variable{k:Wk}{pD:D}{s:Sx}
theorem ng:wM ad k c pD s M k.a=cb (.ins ad.C_Walk [("plan",pD),("numbers",.ref k.dn),("pieces",.tup (c.pieces.map D.int)),("most",.int (c.most:Nat)),("steps",.ref k.ls)]):=by
 unfold wM;rw[ai k.h2,ai k.h1,Mem.upd_same]
theorem xB:wM ad k c pD s M k.dn=cb (.dK<|iN s.nums):=by unfold wM;rw[ai k.h3,Mem.upd_same]
theorem F2:wM ad k c pD s M k.ls=cb (.lst<|rN s.steps):=by unfold wM;rw[Mem.upd_same]
theorem As{x:List (List Int×Int)}:(wM ad k c pD s M).upd k.ls (.lst<|rN x)=wM ad k c pD ⟨s.nums,x⟩ M:=by unfold wM;rw[Mem.upd_upd]
theorem Dk{x:dk}:(wM ad k c pD s M).upd k.dn (.dK<|iN x)=wM ad k c pD ⟨x,s.steps⟩ M:=by
 unfold wM;rw[bZ (ML k.h3),Mem.upd_upd]
theorem lf0:MW ("plan":Str) [(("plan":Str),x0),(("numbers":Str),x1),(("pieces":Str),x2),(("most":Str),x3),(("steps":Str),x4)]=cb (x0:D):=rfl
theorem lf1:MW ("numbers":Str) [(("plan":Str),x0),(("numbers":Str),x1),(("pieces":Str),x2),(("most":Str),x3),(("steps":Str),x4)]=cb (x1:D):=rfl
theorem lf2:MW ("pieces":Str) [(("plan":Str),x0),(("numbers":Str),x1),(("pieces":Str),x2),(("most":Str),x3),(("steps":Str),x4)]=cb (x2:D):=rfl
theorem lf3:MW ("most":Str) [(("plan":Str),x0),(("numbers":Str),x1),(("pieces":Str),x2),(("most":Str),x3),(("steps":Str),x4)]=cb (x3:D):=rfl
theorem lf4:MW ("steps":Str) [(("plan":Str),x0),(("numbers":Str),x1),(("pieces":Str),x2),(("most":Str),x3),(("steps":Str),x4)]=cb (x4:D):=rfl
theorem lfm:MW ("note_step":Str) [(("plan":Str),x0),(("numbers":Str),x1),(("pieces":Str),x2),(("most":Str),x3),(("steps":Str),x4)]=(none:Option D):=rfl
theorem lfl:MW ("look":Str) [(("plan":Str),x0),(("numbers":Str),x1),(("pieces":Str),x2),(("most":Str),x3),(("steps":Str),x4)]=(none:Option D):=rfl
theorem fC{pl:Ug}{v:Int}(g:c.most<=10000)(b:(nt c pl v s).1=true->Q .non (wM ad k c pD (nt c pl v s).2 M))(h2:(nt c pl v s).1=eH->E ad.C_Dry (wM ad k c pD (nt c pl v s).2 M)):
  tM ad [.ref k.a,plD pl,.int v] (wM ad k c pD s M) Q E:=by
 unfold nt at b h2;simp![u_q3,CK,ng,F2,lf3,lf4,rN,Md]
 split
 .rename_i e
  have:¬s.steps.length<c.most:=by lia
  rw[if_neg this]at h2;exact cD (h2 rfl)
 .rename_i e
  have f:s.steps.length<c.most:=by lia
  rw[if_pos f]at b;refine⟨aQ (by decide),eI (by lia),aq ?_⟩
  have:=b rfl;rw[<- As]at this;simpa [rN] using this
end
end _T
namespace _3
open PySem _2
noncomputable def bA:Nat->List D->List D
 |_,[]=>[]
 |k,x::xs=>.tup [.int (k:Nat),x]::bA (k+1) xs
theorem rC:∀(xs:List D)(k:Nat),(xs.zipIdx k).map (λp=>D.tup [.int (p.2:Nat),p.1])=bA k xs
 |[],_=>rfl
 |x::xs,k=>by rw[List.zipIdx_cons,Mo,rC xs (k+1)];rfl
theorem cC(xs:List D):sm xs=bA 0 xs:=rC xs 0
theorem aI{xs:List D}{M:Mem}:DIt.ok ⟨xs,[]⟩ M:=λ_ h=>by cases h
end _3
namespace _T
open PySem _2 _3
variable{ad:Ad}{l rm:eC}{c:Cf}{D0:DEnds}{K Q:DK}{E EE:DX}{U:Dl}{hh m TZ sd v:Int}{nums pl:Ug}{T6 rows Ub:List Rw}{TY:Uh}{M M' M1 M2:Mem}{i j n:Nat}{r:Rw}{mk:Str}{s:Sx}{A:aB}{te:bj}
mutual
def bX(TY:Uh)(m TZ:Int):Rw->Prop
 |.ifr x a b=>x∈TY/\aJ TY m TZ a/\aJ TY m TZ b
 |.again x a=>x∈TY/\aJ TY m TZ a
 |.put x k=>dQ TY m TZ (.put x k)
 |.take x k=>dQ TY m TZ (.take x k)
 |.pick x k=>dQ TY m TZ (.pick x k)
 |.two w x y z=>dQ TY m TZ (.two w x y z)
def aJ(TY:Uh)(m TZ:Int):List Rw->Prop
 |[]=>True
 |r::rs=>bX TY m TZ r/\aJ TY m TZ rs
end
mutual
noncomputable def hR:Rw->Nat
 |.ifr _ a b=>1+max (bd a) (bd b)
 |.again _ a=>1+bd a
 |_=>0
noncomputable def bd:List Rw->Nat
 |[]=>0
 |r::rs=>max (hR r) (bd rs)
end
section
theorem Kj{n:dk}(b:NOk TY c.m n){x:Str}(f:0<=v/\v<c.m):NOk TY c.m (sN n x v):=by
 refine⟨by rw[jH];exact b.keys,λp a=>?_⟩
 simp only[sN,MS]at a;obtain⟨q,e,rfl⟩:=a
 split
 .exact f
 .exact b.rng q e
theorem jW:(nt c pl v s).2.nums=s.nums:=by unfold nt;split<;>rfl
theorem kd(e:COk c)(b:dQ TY c.m c.pieces.length r)(a:NOk TY c.m s.nums):NOk TY c.m (gE c r pl s).2.nums:=by
 unfold gE
 split
 .exact Kj a (CH e a b)
 .exact a
theorem xu{x:Str}{pl:Ug}{a:Nat->Sx->Bool×Sx}(e:∀t s,NOk TY c.m s.nums->NOk TY c.m (a t s).2.nums):∀(f t:Nat)(s:Sx),NOk TY c.m s.nums->NOk TY c.m (dF c x pl a f t s).2.nums
 |0,_,s,h=>h
 |f+1,t,s,h=>by
  have b:NOk TY c.m (nt c (pl++[(t:Int)]) (lk s.nums x) s).2.nums:=by rw[jW];exact h
  unfold dF
  split
  .split
   .split
    .exact xu e f (t+1) _ (e t _ b)
    .exact e t _ b
   .exact b
  .exact b
mutual
theorem ut(e:COk c):∀(r:Rw),bX TY c.m c.pieces.length r->∀(pl:Ug)(s:Sx),NOk TY c.m s.nums->NOk TY c.m (gB c r pl s).2.nums
 |.ifr x a b,h,pl,s,hn=>by
  have f:NOk TY c.m (nt c pl (lk s.nums x) s).2.nums:=by rw[jW];exact hn
  simp only[bX]at h;unfold gB
  split
  .split
   .exact fS e a h.2.1 _ _ _ f
   .exact fS e b h.2.2 _ _ _ f
  .exact f
 |.again x a,h,pl,s,hn=>by
  simp only[bX]at h;unfold gB;exact xu (λt s g=>fS e a h.2 _ _ _ g) _ _ _ hn
 |.put x k,h,pl,s,hn=>by rw[bI rfl];exact kd e (by simpa only[bX] using h) hn
 |.take x k,h,pl,s,hn=>by rw[bI rfl];exact kd e (by simpa only[bX] using h) hn
 |.pick x k,h,pl,s,hn=>by rw[bI rfl];exact kd e (by simpa only[bX] using h) hn
 |.two w x y z,h,pl,s,hn=>by rw[bI rfl];exact kd e (by simpa only[bX] using h) hn
theorem fS(a:COk c):∀(rs:List Rw),aJ TY c.m c.pieces.length rs->∀(pl:Ug)(j:Nat)(s:Sx),NOk TY c.m s.nums->NOk TY c.m (cO c rs pl j s).2.nums
 |[],_,_,_,s,hn=>by simpa only[cO] using hn
 |r::rs,h,pl,j,s,hn=>by
  simp only[aJ]at h;unfold cO
  split
  .exact fS a rs h.2 _ _ _ (ut a r h.1 _ _ hn)
  .exact ut a r h.1 _ _ hn
end
end
def Post(ad:Ad)(k:Wk)(c:Cf)(pD:D)(r:Bool×Sx)(M:Mem)(d:D)(Q:DK)(E:DX):Prop:=(r.1=true->Q d (wM ad k c pD r.2 M))/\(r.1=eH->E ad.C_Dry (wM ad k c pD r.2 M))
theorem bD{k:Wk}{a:D}{r:Bool×Sx}{M0:Mem}{d:D}{T:Sd}{ds:List D}(o:∀Q' E',Post ad k c a r M d Q' E'->T ds M0 Q' E'){b:BxQ E Q}(h:Post ad k c a r M d Q E):calls T E ds M0 Q b:=
 au λQ' E' g f=>o Q' E' ⟨λe=>g _ _ (h.1 e),λe=>f _ _ (h.2 e)⟩
theorem Post.drp{k:Wk}{a:D}{r:Bool×Sx}{d:D}(h:Post ad k c a r M d Q E):Post ad k c a r M d (_3.drp Q) (az E):=⟨λe=>aq (h.1 e),λe=>cD (h.2 e)⟩
section
variable{k:Wk}
theorem oj{x:Str}(p:COk c)(g:NOk TY c.m s.nums)(o:x∈TY)(h:Post ad k c (aK c TY Ub mk) (nt c pl (lk s.nums x) s) M (.int<|lk s.nums x) Q E):
  oh ad [.ref k.a,plD pl,.str x] (wM ad k c (aK c TY Ub mk) s M) Q E:=by
 have f:=g.at o;have b:∀v:Int,v=lk s.nums x->calls (tM ad) (az E) [.ref k.a,plD pl,.int v] (wM ad k c (aK c TY Ub mk) s M) (λ_ M1=>_3.drp Q (.int v) M1) ⟨⟩:=by
  rintro v rfl
  exact bD (d:=.non) (λQ' E' z=>fC p.most z.1 z.2) ⟨λe=>aq (h.1 e),λe=>cD (h.2 e)⟩
 simp![LI,wN,ng,xB,lf1,lfm,h_,f.1,Ox]
 split
 .rename_i e
  exact b 0 (by unfold lk;rw[if_pos e])
 .rename_i e
  exact b 1 (by unfold lk;rw[if_neg e])
theorem xY(h:dQ TY m TZ r):∃w a,r.d=.tup (.str w::.str (y8 r)::a)/\(w="again")=False/\(w="if")=False:=by
 cases r with
 |put x k=>exact⟨_,_,rfl,(eq_false<|by decide +kernel),(eq_false<|by decide +kernel)⟩
 |take x k=>exact⟨_,_,rfl,(eq_false<|by decide +kernel),(eq_false<|by decide +kernel)⟩
 |pick x k=>exact⟨_,_,rfl,(eq_false<|by decide +kernel),(eq_false<|by decide +kernel)⟩
 |two w x y z=>
  refine⟨_,_,rfl,?_⟩;rcases h.1 with rfl|rfl|rfl|rfl
  .exact⟨(eq_false<|by decide +kernel),(eq_false<|by decide +kernel)⟩
  .exact⟨(eq_false<|by decide +kernel),(eq_false<|by decide +kernel)⟩
  .exact⟨(eq_false<|by decide +kernel),(eq_false<|by decide +kernel)⟩
  .exact⟨(eq_false<|by decide +kernel),(eq_false<|by decide +kernel)⟩
 |ifr=>exact h.elim
 |again=>exact h.elim
theorem cZ(N:TY.length<=1000)(J:COk c)(F:NOk TY c.m s.nums)(b:dQ TY c.m c.pieces.length r)(h:Post ad k c (aK c TY Ub mk) (gE c r pl s) M .non Q E):
  RO ad (n+1) [.ref k.a,r.d,plD pl] (wM ad k c (aK c TY Ub mk) s M) Q E:=by
 obtain⟨w,G,H,B,C⟩:=xY b;have o:calls (sw ad) (az E) [aK c TY Ub mk,.ref k.dn,.tup (c.pieces.map D.int),r.d] (wM ad k c (aK c TY Ub mk) s M) (λd M'=>frz d M' λx M1=>
   af 3 x [cb (.ref k.a),cb r.d,cb (plD pl),ed] M1 λU M2=>al (bf<|j7 ad.C_Walk "note_step" (tM ad) (az E) 3 (ac 0)<|aa (ac 2)<|aa (ac 3) ae)
    (ap (ac 3)<|gL (du ad.C_Walk (ac 0) "numbers")<|ak aw (ac 1)<|dC<|.int 1) { nx:=λ_ M'=>_3.drp Q .non M',rt:=_3.drp Q } U M2) ⟨⟩:=by
  refine aL (d:=.int (eg c s.nums r)) (λ_ _ q=>lh J F b xB q) ?_;simp![ng,lfm];refine bD (r:=nt c pl (eg c s.nums r) s) (d:=.non) (λQ' E' z=>fC J.most z.1 z.2) ?_;unfold gE at h;unfold nt;have g:y8 r∈s.nums.map (·.1):=by
   rw[F.keys];cases r with
   |put x k=>exact b.1
   |take x k=>exact b.1
   |pick x k=>exact b.1
   |two w x y z=>exact b.2.1
   |ifr=>exact b.elim
   |again=>exact b.elim
  split
  .rename_i u
   rw[if_pos u]at h;refine⟨λ_=>?_,λe=>by simp at e⟩
   have I:=h.1 rfl;have L:wM ad k c (aK c TY Ub mk) ⟨sN s.nums (y8 r) (eg c s.nums r),s.steps++[(pl,eg c s.nums r)]⟩ M=(wM ad k c (aK c TY Ub mk) ⟨s.nums,s.steps++[(pl,eg c s.nums r)]⟩ M).upd k.dn (.dK<|fb (iN s.nums) (Ob<|y8 r)<|.int<|eg c s.nums r):=by
    rw[Da g,Dk]
   rw[L]at I;have p:(iN s.nums).length<sizeLine:=by rw[iN,Md,<- Md (f:=(·.1)),F.keys];exact eI (by lia)
   rw[H];simp![ng,xB,lf1,atI_1];exact⟨p,aq I⟩
  .rename_i u
   rw[if_neg u]at h;exact⟨λe=>by simp at e,λ_=>cD (h.2 rfl)⟩
 rw[H]at o ⊢;simp![Ba,nM,ng,lf0,lf1,lf2,atI_0,B,C];exact o
end
section
def Gr(c:Cf)(s s':Sx):Prop:=s.steps.length<=s'.steps.length/\(s.steps.length<=c.most->s'.steps.length<=c.most)
theorem Gr.refl:Gr c s s:=⟨Mn _,id⟩
theorem Gr.trans{e f:Sx}(a:Gr c s e)(b:Gr c e f):Gr c s f:=⟨ME a.1 b.1,λh=>b.2 (a.2 h)⟩
theorem nt_gr:Gr c s (nt c pl v s).2:=by
 unfold nt
 split
 .refine⟨by simp,λ_=>?_⟩;simp;lia
 .exact Gr.refl
theorem jt:Gr c s (gE c r pl s).2:=by
 unfold gE
 split
 .refine⟨by simp,λ_=>?_⟩;simp;lia
 .exact Gr.refl
theorem xa{x:Str}{pl:Ug}{a:Nat->Sx->Bool×Sx}(b:∀t s,Gr c s (a t s).2):∀(f t:Nat)(s:Sx),Gr c s (dF c x pl a f t s).2
 |0,_,s=>Gr.refl
 |f+1,t,s=>by
  unfold dF
  split
  .split
   .split
    .exact nt_gr.trans ((b t _).trans<|xa b f (t+1) _)
    .exact nt_gr.trans (b t _)
   .exact nt_gr
  .exact nt_gr
mutual
theorem tD:∀(r:Rw)(pl:Ug)(s:Sx),Gr c s (gB c r pl s).2
 |.ifr x a b,pl,s=>by
  unfold gB
  split
  .split
   .exact nt_gr.trans (fO a _ _ _)
   .exact nt_gr.trans (fO b _ _ _)
  .exact nt_gr
 |.again x a,pl,s=>by
  unfold gB;exact xa (λt s=>fO a _ _ _) _ _ _
 |.put x k,pl,s=>by rw[bI rfl];exact jt
 |.take x k,pl,s=>by rw[bI rfl];exact jt
 |.pick x k,pl,s=>by rw[bI rfl];exact jt
 |.two w x y z,pl,s=>by rw[bI rfl];exact jt
theorem fO:∀(rs:List Rw)(pl:Ug)(j:Nat)(s:Sx),Gr c s (cO c rs pl j s).2
 |[],_,_,s=>by unfold cO;exact Gr.refl
 |r::rs,pl,j,s=>by
  unfold cO
  split
  .exact(tD r _ _).trans (fO rs _ _ _)
  .exact tD r _ _
end
end
theorem fN:D.tup (pl.map D.int++[D.int v])=plD (pl++[v]):=by simp[plD]
section
variable{k:Wk}
def xx(ad:Ad)(k:Wk)(c:Cf)(TY:Uh)(Ub:List Rw)(mk:Str)(n:Nat):Prop:=∀(rs:List Rw)(pl:Ug)(s:Sx)(M:Mem)(Q:DK)(E:DX),aJ TY c.m c.pieces.length rs->3*bd rs+2<=n->pl.length+2*bd rs+2<=1000->NOk TY c.m s.nums->s.steps.length<=c.most->
 Post ad k c (aK c TY Ub mk) (cO c rs pl 0 s) M .non Q E->RM ad n [.ref k.a,.tup (ah rs),plD pl] (wM ad k c (aK c TY Ub mk) s M) Q E
def GW(ad:Ad)(k:Wk)(c:Cf)(TY:Uh)(Ub:List Rw)(mk:Str)(n:Nat):Prop:=∀(r:Rw)(pl:Ug)(s:Sx)(M:Mem)(Q:DK)(E:DX),bX TY c.m c.pieces.length r->3*hR r+1<=n->pl.length+2*hR r+1<=1000->NOk TY c.m s.nums->s.steps.length<=c.most->
 Post ad k c (aK c TY Ub mk) (gB c r pl s) M .non Q E->RO ad n [.ref k.a,r.d,plD pl] (wM ad k c (aK c TY Ub mk) s M) Q E
def PIf(ad:Ad)(k:Wk)(c:Cf)(TY:Uh)(Ub:List Rw)(mk:Str)(n:Nat):Prop:=∀(x:Str)(a b:List Rw)(pl:Ug)(s:Sx)(M:Mem)(Q:DK)(E:DX),bX TY c.m c.pieces.length (.ifr x a b)->3*hR (.ifr x a b)<=n->pl.length+2*hR (.ifr x a b)+1<=1000->NOk TY c.m s.nums->s.steps.length<=c.most->
 Post ad k c (aK c TY Ub mk) (gB c (.ifr x a b) pl s) M .non Q E->RQ ad n [.ref k.a,(Rw.ifr x a b).d,plD pl] (wM ad k c (aK c TY Ub mk) s M) Q E
def PAg(ad:Ad)(k:Wk)(c:Cf)(TY:Uh)(Ub:List Rw)(mk:Str)(n:Nat):Prop:=∀(x:Str)(a:List Rw)(pl:Ug)(s:Sx)(M:Mem)(Q:DK)(E:DX),bX TY c.m c.pieces.length (.again x a)->3*hR (.again x a)<=n->pl.length+2*hR (.again x a)+1<=1000->NOk TY c.m s.nums->s.steps.length<=c.most->
 Post ad k c (aK c TY Ub mk) (gB c (.again x a) pl s) M .non Q E->RS ad n [.ref k.a,(Rw.again x a).d,plD pl] (wM ad k c (aK c TY Ub mk) s M) Q E
theorem yt(I:COk c)(J:GW ad k c TY Ub mk n):xx ad k c TY Ub mk (n+1):=by
 intro G pl s M Q E f B q o g h;simp![K0,vX,bU,cC]
 refine bt (λH U M'=>∃(b:List Rw)(j:Nat)(p:Sx)(F y:Option D),H=bA j (ah b)/\U=[cb (.ref k.a),cb (.tup<|ah G),cb (plD pl),F,y]/\M'=wM ad k c (aK c TY Ub mk) p M/\aJ TY c.m c.pieces.length b/\3*bd b+2<=n+1/\pl.length+2*bd b+2<=1000/\NOk TY c.m p.nums/\p.steps.length<=c.most/\
  Post ad k c (aK c TY Ub mk) (cO c b pl j p) M .non Q E) (λ_ _ _ _=>aI) ?_ ?_ _ _ _ ⟨G,0,s,ed,ed,rfl,rfl,rfl,f,B,q,o,g,h⟩
 .rintro U M' ⟨b,j,p,F,y,w,rfl,rfl,f,B,q,o,g,h⟩
  cases b with
  |nil=>exact aq (by simpa [cO] using h.1 (by simp[cO]))
  |cons r G=>simp[ah,bA]at w
 .rintro x H U M' ⟨b,j,p,F,y,w,rfl,rfl,f,B,q,o,g,h⟩ D' C _ _ _
  cases b with
  |nil=>simp[ah,bA]at w
  |cons r b=>
   simp only[ah,bA,My]at w;obtain⟨rfl,rfl⟩:=w;simp only[aJ]at f;have L:hR r<=bd (r::b)/\bd b<=bd (r::b):=by simp only[bd];lia
   simp![plD,Mg,Md];refine⟨aQ (by decide),aQ (by lia),?_⟩
   rw[fN];refine bD (r:=gB c r (pl++[(j:Int)]) p) (d:=.non) (λQ' E' z=>J r (pl++[(j:Int)]) p M Q' E' f.1 (by lia) (by simp;lia) o g z) ?_
   simp only[cO]at h;cases u:(gB c r (pl++[(j:Int)]) p).1 with
   |true=>
    rw[if_pos u]at h;refine⟨λ_=>C _ _ ⟨b,j+1,_,_,_,rfl,rfl,rfl,f.2,by lia,by lia,ut I r f.1 _ _ o,(tD r _ _).2 g,h⟩,λe=>by rw[u]at e;cases e⟩
   |false=>
    rw[if_neg (by rw[u];simp)]at h
    exact⟨λe=>(by rw[u]at e;cases e),λ_=>cD (h.2 u)⟩
theorem zc(g:TY.length<=1000)(u:COk c)(C:PIf ad k c TY Ub mk n)(B:PAg ad k c TY Ub mk n):GW ad k c TY Ub mk (n+1):=by
 intro r pl s M Q E f F q e p h;cases r with
 |put x kk=>rw[bI rfl]at h;exact cZ g u e (by simpa only[bX] using f) h
 |take x kk=>rw[bI rfl]at h;exact cZ g u e (by simpa only[bX] using f) h
 |pick x kk=>rw[bI rfl]at h;exact cZ g u e (by simpa only[bX] using f) h
 |two w x y z=>rw[bI rfl]at h;exact cZ g u e (by simpa only[bX] using f) h
 |ifr x a b=>
  have o:=λQ' E' z=>C x a b pl s M Q' E' f (by lia) q e p z
  simp only[Rw.d]at o;simp![Ba,nM,Rw.d,atI_0];exact bD o h.drp
 |again x a=>
  have o:=λQ' E' z=>B x a pl s M Q' E' f (by lia) q e p z
  simp only[Rw.d]at o;simp![Ba,nM,Rw.d,atI_0];exact bD o h.drp
theorem BC(C:COk c)(y:xx ad k c TY Ub mk n):PIf ad k c TY Ub mk (n+1):=by
 intro x a b pl s M Q E o B w p u h;simp only[bX]at o;simp only[hR]at B w;simp![LC,wn,Rw.d,ng,lfl,atI_1,atI_2,atI_3];refine bD (r:=nt c pl (lk s.nums x) s) (d:=.int (lk s.nums x)) (λQ' E' z=>oj C p o.1 z) ?_;have hl:lk s.nums x=0\/lk s.nums x=1:=by unfold lk;split<;>simp
 have f:NOk TY c.m (nt c pl (lk s.nums x) s).2.nums:=by rw[jW];exact p
 have g:=(nt_gr (c:=c) (pl:=pl) (v:=lk s.nums x) (s:=s)).2 u;unfold gB at h;cases q:(nt c pl (lk s.nums x) s).1 with
 |false=>
  rw[if_neg (by rw[q];simp)]at h
  exact⟨λe=>(by rw[q]at e;cases e),λ_=>cD (h.2 q)⟩
 |true=>
  rw[if_pos q]at h;refine⟨λ_=>?_,λe=>by rw[q]at e;cases e⟩
  rcases hl with hl|hl
  .rw[if_neg (by rw[hl];decide)]at h
   rw[hl]at h f g ⊢;simp![atI_2,atI_3,plD,Mg,Md,show ((0:Int)=1)=False from eq_false (by decide)]
   refine⟨aQ (by decide),aQ (by lia),?_⟩
   rw[fN];exact bD (λQ' E' z=>y b (pl++[0]) _ M Q' E' o.2.2 (by lia) (by simp;lia) f g z) h.drp
  .rw[if_pos hl]at h
   rw[hl]at h f g ⊢;simp![atI_2,atI_3,plD,Mg,Md];refine⟨aQ (by decide),aQ (by lia),?_⟩
   rw[fN];exact bD (λQ' E' z=>y a (pl++[1]) _ M Q' E' o.2.1 (by lia) (by simp;lia) f g z) h.drp
end
section
variable{k:Wk}
theorem uW(P:COk c)(T:xx ad k c TY Ub mk n):PAg ad k c TY Ub mk (n+1):=by
 intro x a pl s M Q E y R I o B h;simp only[bX]at y;simp only[hR]at R I;simp![LA,vM,Rw.d,g7];refine⟨c.most+1,?_⟩;unfold gB at h
 have N:∀(f t:Nat)(s:Sx)(F:fg)(C:aB)(DD:DEnds)(b:BxW F C DD),NOk TY c.m s.nums->s.steps.length<=c.most->c.most<s.steps.length+f->
   F=ao (ak ci (am<|j7 ad.C_Walk "look" (oh ad) (az E) 3 (ac 0)<|aa (ak aF (ac 2)<|av<|aa (ac 3) ae)<|aa (ak aw (ac 1)<|dC<|.int 1) ae)<|dC<|.int 1)->
   C=al (bf<|aj (RM ad n) (az E) 3<|aa (ac 0)<|aa (ak aw (ac 1)<|dC<|.int 2)<|aa (ak aF (ac 2)<|av<|aa (ac 3) ae) ae) (uX 3 (dC<|.int 1) sX)->
   DD.nx=(λ_ M'=>_3.drp Q .non M')->
   Post ad k c (aK c TY Ub mk) (dF c x pl (λt s=>cO c a (pl++[(t:Int)]) 0 s) f t s) M .non Q E->
   dL F C DD b f [cb (.ref k.a),cb (.tup [.str "again",.str x,.tup (ah a)]),cb (plD pl),cb (.int (t:Int))] (wM ad k c (aK c TY Ub mk) s M):=by
  intro f
  induction f with
  |zero=>intro t s F C DD b o B S;lia
  |succ f ihf=>
   intro t s F C DD b o B S L J G h;unfold dL;subst L;simp![ng,lfl,atI_1,plD,Mg,Md];refine⟨aQ (by decide),aQ (by lia),?_⟩
   rw[fN];refine bD (r:=nt c (pl++[(t:Int)]) (lk s.nums x) s) (d:=.int (lk s.nums x)) (λQ' E' z=>oj P o y.1 z) ?_;have hl:lk s.nums x=0\/lk s.nums x=1:=by unfold lk;split<;>simp
   have u:NOk TY c.m (nt c (pl++[(t:Int)]) (lk s.nums x) s).2.nums:=by rw[jW];exact o
   have p:=(nt_gr (c:=c) (pl:=pl++[(t:Int)]) (v:=lk s.nums x) (s:=s)).2 B;unfold dF at h;cases w:(nt c (pl++[(t:Int)]) (lk s.nums x) s).1 with
   |false=>
    rw[if_neg (by rw[w];simp)]at h
    exact⟨λe=>(by rw[w]at e;cases e),λ_=>cD (h.2 w)⟩
   |true=>
    rw[if_pos w]at h;refine⟨λ_=>?_,λe=>by rw[w]at e;cases e⟩
    have H:(nt c (pl++[(t:Int)]) (lk s.nums x) s).2.steps.length=s.steps.length+1:=by
     unfold nt at w ⊢
     split at w
     .rename_i q;rw[if_pos q];simp
     .cases w
    rcases hl with hl|hl
    .rw[if_neg (by rw[hl];decide)]at h
     rw[hl]at h ⊢;simp![show ((0:Int)=1)=False from eq_false (by decide)]
     rw[G];rw[hl]at w;exact aq (h.1 w)
    .rw[if_pos hl]at h
     rw[hl]at h u p H ⊢;simp![];subst J;simp![atI_2,plD,Mg,Md];refine⟨aQ (by decide),aQ (by lia),?_⟩
     rw[fN];refine bD (r:=cO c a (pl++[(t:Int)]) 0 (nt c (pl++[(t:Int)]) 1 s).2) (λQ' E' z=>T a (pl++[(t:Int)]) _ M Q' E' y.2 (by lia) (by simp;lia) u p z) ?_
     have O:=fO (c:=c) a (pl++[(t:Int)]) 0 (nt c (pl++[(t:Int)]) 1 s).2;cases g:(cO c a (pl++[(t:Int)]) 0 (nt c (pl++[(t:Int)]) 1 s).2).1 with
     |true=>
      rw[if_pos g]at h;refine⟨λ_=>?_,λe=>by rw[g]at e;cases e⟩
      simp![];exact ihf (t+1) _ _ _ _ _ (fS P a y.2 _ _ _ u) (O.2 p) (by have:=O.1;lia) rfl rfl G h
     |false=>
      rw[if_neg (by rw[g];simp)]at h
      exact⟨λe=>(by rw[g]at e;cases e),λ_=>cD (h.2 g)⟩
 exact N (c.most+1) 0 s _ _ _ _ o B (by lia) rfl rfl rfl h
theorem sI(f:TY.length<=1000)(e:COk c):∀n:Nat,xx ad k c TY Ub mk n/\GW ad k c TY Ub mk n/\PIf ad k c TY Ub mk n/\PAg ad k c TY Ub mk n
 |0=>⟨λu pl s M Q E _ h=>by lia,λr pl s M Q E _ h=>by lia,λx a b pl s M Q E _ h=>by simp only[hR]at h;lia,λx a pl s M Q E _ h=>by simp only[hR]at h;lia⟩
 |n+1=>by
  obtain⟨g,p,o,q⟩:=sI f e n;exact⟨yt e p,zc f e o q,BC e g,uW e g⟩
end
theorem sJ:∀(TY:Uh)(nums:Ug)(T6:dk),TY.length=nums.length->(T6.map (·.1)++TY).Nodup->
  ((TY.map λx=>(Ob x:bh)).zip<|nums.map D.int).foldl (λa p=>fb a p.1 p.2) (iN T6)=iN (T6++TY.zip nums)
 |[],nums,T6,_,_=>by simp
 |x::TY,[],T6,h,_=>by simp at h
 |x::TY,v::nums,T6,h,nd=>by
  have y:x∉T6.map (·.1):=by
   have:=(NV.mp nd).2.2;exact λg=>this x g x (by simp) rfl
  have b:((iN T6).any λo=>decide (o.1=Ob x))=false:=by
   rw[P8];intro p f;simp only[iN,MS]at f;obtain⟨q,u,rfl⟩:=f;simp only[decide_eq_true_eq];intro e;have:q.1=x:=Sum.inr.inj e;exact y (by rw[<- this];exact MJ u)
  simp only[Mo,P4,Nh];have w:fb (iN T6) (Ob x) (.int v)=iN (T6++[(x,v)]):=by
   unfold fb;rw[b];simp[iN]
  rw[w,sJ TY nums (T6++[(x,v)]) (by simpa using h) (by simpa using nd)]
  simp
theorem iX:∀TY:List Str,eO (TY.map D.str)=cb (TY.map λx=>(Ob x:bh))
 |[]=>rfl
 |x::TY=>by simp[eO,ou,iX TY]
theorem sv(h:TY.length=nums.length)(a:TY.Nodup):Bu (TY.map λx=>(Ob x:bh)) (nums.map D.int)=iN (TY.zip nums):=by
 have:=sJ TY nums [] h (by simpa using a)
 simpa [Bu,iN] using this
theorem dp1{d:D}:fm "plan" d []=[(("plan":Str),d)]:=rfl
theorem dp2{a d:D}:fm "numbers" d [(("plan":Str),a)]=[(("plan":Str),a),(("numbers":Str),d)]:=rfl
theorem dp3{a b d:D}:fm "pieces" d [(("plan":Str),a),(("numbers":Str),b)]=[(("plan":Str),a),(("numbers":Str),b),(("pieces":Str),d)]:=rfl
theorem dp4{a b e d:D}:fm "most" d [(("plan":Str),a),(("numbers":Str),b),(("pieces":Str),e)]=[(("plan":Str),a),(("numbers":Str),b),(("pieces":Str),e),(("most":Str),d)]:=rfl
theorem dp5{a b e g d:D}:fm "steps" d [(("plan":Str),a),(("numbers":Str),b),(("pieces":Str),e),(("most":Str),g)]=[(("plan":Str),a),(("numbers":Str),b),(("pieces":Str),e),(("most":Str),g),(("steps":Str),d)]:=rfl
noncomputable def bc(nums pieces:Ug):D:=.tup [.tup (nums.map D.int),.tup (pieces.map D.int)]
section
theorem yi{a:eC}(x:M a=ed)(p:TY.length=nums.length)(q:TY.Nodup)(w:0<TY.length)(u:TY.length<=1000)(h:∀(k:Wk),k.a=a->M k.dn=ed->M k.ls=ed->Q .non (wM ad k c (aK c TY rows mk) ⟨TY.zip nums,[]⟩ M)):
  DU ad [.ref a,aK c TY rows mk,bc nums c.pieces,.int (c.most:Nat)] (M.upd a<|.ins ad.C_Walk []) Q E:=by
 simp![u_q8,CP,aK,bc,Mem.upd_upd,atI_0,atI_1,iX,Md,dp1];refine⟨by decide,p,w,u,λdn f=>?_⟩
 have n1:a≠dn:=Mem.ne Mem.upd_same f;have o:M dn=none:=by rw[ai (ML n1)]at f;exact f
 simp![ai n1,Mem.upd_same,dp2,bZ (ML n1),Mem.upd_upd,sv p q];refine⟨by simp,?_⟩
 simp![ai n1,Mem.upd_same,dp3,bZ (ML n1),Mem.upd_upd];refine⟨by simp,?_⟩
 simp![ai n1,Mem.upd_same,dp4,bZ (ML n1),Mem.upd_upd];refine⟨by simp,aQ (by simp),λls b=>?_⟩
 have n2:a≠ls:=by
  intro e;subst e;rw[ai n1,Mem.upd_same]at b;cases b
 have n3:dn≠ls:=by
  intro e;subst e;rw[Mem.upd_same]at b;cases b
 have g:M ls=none:=by rw[ai (ML n3),ai (ML n2)]at b;exact b
 simp![ai n2,ai n1,Mem.upd_same,dp5];refine⟨by simp,aq ?_⟩
 have:=h ⟨a,dn,ls,n1,n2,n3⟩ rfl o g;have e:wM ad ⟨a,dn,ls,n1,n2,n3⟩ c (aK c TY rows mk) ⟨TY.zip nums,[]⟩ M=(((M.upd a<|.ins ad.C_Walk [("plan",aK c TY rows mk),("numbers",.ref dn),("pieces",.tup (c.pieces.map D.int)),("most",.int (c.most:Nat))]).upd dn<|.dK<|iN<|TY.zip nums).upd ls<|.lst []).upd a (.ins ad.C_Walk [("plan",aK c TY rows mk),("numbers",.ref dn),("pieces",.tup (c.pieces.map D.int)),("most",.int (c.most:Nat)),("steps",.ref ls)]):=by
  unfold wM;rw[bZ (ML n2),bZ (ML n1),Mem.upd_upd];rfl
 rw[e]at this;exact this
noncomputable def bo(c:Cf)(TY:Uh)(rows:List Rw)(nums:Ug):Bool×Sx:=cO c rows [] 0 ⟨TY.zip nums,[]⟩
noncomputable def dw(TY:Uh)(r:Bool×Sx):D:=if r.1=true then .tup (TY.map λx=>.int (nm r.2.nums x)) else .non
structure PlOk(c:Cf)(TY:Uh)(rows:List Rw)(nums:Ug):Prop where
 co:COk c
 ln:TY.length=nums.length
 nd:TY.Nodup
 l0:0<TY.length
 l1:TY.length<=1000
 rng:∀v∈nums,0<=v/\v<c.m
 ok:aJ TY c.m c.pieces.length rows
 h:bd rows<=7
theorem fi:∀{TY:Uh}{nums:Ug},TY.length=nums.length->(TY.zip nums).map (·.1)=TY
 |[],[],_=>rfl
 |[],_::_,h=>by simp at h
 |_::_,[],h=>by simp at h
 |x::xs,v::vs,h=>by simp[fi (by simpa using h)]
theorem PlOk.nok(p:PlOk c TY rows nums):NOk TY c.m (TY.zip nums):=⟨fi p.ln,λq a=>p.rng _ (Pp a).2⟩
theorem zI(p:PlOk c TY rows nums)(h:∀l,M l=ed->Q (.tup [.ref l,dw TY (bo c TY rows nums)]) (M.upd l<|.lst<|rN (bo c TY rows nums).2.steps)):
  iW ad [aK c TY rows mk,bc nums c.pieces,.int (c.most:Nat)] M Q E:=by
 simp![KM,wK];intro a P;refine au λQ' E' L _=>yi P p.ln p.nd p.l0 p.l1 λk T C w=>L _ _ ?_;subst T;have f:∀(F:Sx),∀b o,(M.upd k.ls<|.lst<|rN F.steps) b=cb o->wM ad k c (aK c TY rows mk) F M b=cb o:=by
  intro F b o e
  by_cases O:b=k.ls
  .subst O;rw[Mem.upd_same]at e;rw[F2];exact e
  .rw[ai O]at e
   have Y:b≠k.dn:=by rintro rfl;rw[C]at e;cases e
   have S:b≠k.a:=by rintro rfl;rw[P]at e;cases e
   unfold wM;rw[ai O,ai Y,ai S];exact e
 have R:=(sI (ad:=ad) (k:=k) (Ub:=rows) (mk:=mk) p.l1 p.co 24).1 rows [] ⟨TY.zip nums,[]⟩ M;unfold aK at R;simp![aK,atI_3];refine⟨aQ (by decide),?_⟩
 refine au λQ2 E2 B J=>R Q2 E2 p.ok (by have:=p.h;lia) (by have:=p.h;simp;lia) p.nok (MY _) ⟨λe=>B _ _ ?_,λe=>J _ _ ⟨rfl,?_⟩⟩
 .have W:NOk TY c.m (bo c TY rows nums).2.nums:=fS p.co rows p.ok [] 0 ⟨TY.zip nums,[]⟩ p.nok
  have I:(bo c TY rows nums).1=true:=e;simp![ng,lf4,atI_1,b6]
  refine aV (λH T6 U M'=>∃n1 n2 z,TY=n1++n2/\H=n2.map D.str/\T6=n1.map (λx=>D.int (nm (bo c TY rows nums).2.nums x))/\U=[z,cb (.ref k.a)]/\M'=wM ad k c (aK c TY rows mk) (bo c TY rows nums).2 M)
   (λ_ _ _ _ _=>aI) ?_ ?_ ?_ _ _ _ _ ⟨[],TY,ed,rfl,rfl,rfl,rfl,rfl⟩
  .rintro T6 U M' ⟨n1,n2,z,g,u,rfl,rfl,rfl⟩
   have:n2=[]:=by cases n2 with|nil=>rfl|cons _ _=>simp at u
   subst this;intro q L;simp![Mem.upd_upd,Mem.upd_del,ar L];refine⟨aQ (by decide),⟨_,f _,?_⟩⟩
   have:=h k.ls w;unfold dw at this;rw[if_pos I]at this;have en:n1=TY:=by simpa using g.symm
   rw[en];exact this
  .rintro x H T6 U M' ⟨n1,n2,z,g,u,rfl,rfl,rfl⟩ N X _
   cases n2 with
   |nil=>simp at u
   |cons y n2=>
    simp only[Mo,My]at u;obtain⟨rfl,rfl⟩:=u;have Z:y∈TY:=by rw[g];simp
    simp![ng,xB,lf1,h_,(W.at Z).1,Ox];refine X _ _ _ ?_ ⟨n1++[y],n2,_,by simp[g],rfl,by simp,rfl,rfl⟩
    have G:=congrArg MN g;have:=p.l1;simp at G ⊢;exact eI (by lia)
  .rintro x H T6 U M' ⟨n1,n2,z,g,u,rfl,rfl,rfl⟩
   have G:=congrArg MN g;have:=p.l1;simp at G ⊢;exact eI (by lia)
 .have I:(bo c TY rows nums).1=false:=e
  simp![ng,lf4];refine⟨aQ (by decide),⟨_,f _,?_⟩⟩
  have:=h k.ls w;unfold dw at this;rw[if_neg (by rw[I];simp)]at this
  exact this
end
structure Pt where
 p:eC
 q:eC
 ne:p≠q
def Has(k:Pt)(M:Mem):Prop:=∃(cells:Ug)(t h sd:Int),cells.length<=63/\M k.p=cb (.lst [.ref k.q,.int t,.int h,.int sd])/\M k.q=cb (.lst<|cells.map D.int)
def Dr(k:Pt)(M M':Mem):Prop:=Has k M'/\∀b,b≠k.p->b≠k.q->M' b=M b
theorem Has.refl{k:Pt}(h:Has k M):Dr k M M:=⟨h,λ_ _ _=>rfl⟩
theorem Dr.trans{k:Pt}(a:Dr k M M1)(b:Dr k M1 M2):Dr k M M2:=⟨b.1,λx e f=>(b.2 x e f).trans (a.2 x e f)⟩
theorem Has.nep{k:Pt}(h:Has k M)(a:M l=ed):l≠k.p/\l≠k.q:=by
 obtain⟨b,t,hh,sd,_,f,g⟩:=h;exact⟨λe=>(by rw[e,f]at a;cases a),λe=>(by rw[e,g]at a;cases a)⟩
theorem Has.upd{k:Pt}{o:MO}(h:Has k M)(b:l≠k.p/\l≠k.q):Has k (M.upd l o):=by
 obtain⟨a,t,hh,sd,e,f,g⟩:=h;exact⟨a,t,hh,sd,e,by rw[ai (ML b.1)];exact f,by rw[ai (ML b.2)];exact g⟩
theorem Has.del{k:Pt}(h:Has k M)(b:l≠k.p/\l≠k.q):Has k (M.del l):=by
 obtain⟨a,t,hh,sd,e,f,g⟩:=h;refine⟨a,t,hh,sd,e,?_,?_⟩
 .unfold Mem.del;rw[if_neg (ML b.1)];exact f
 .unfold Mem.del;rw[if_neg (ML b.2)];exact g
theorem Dr.none{k:Pt}(b:Has k M)(h:Dr k M M')(a:M l=ed):M' l=none:=by
 have:=b.nep a;rw[h.2 l this.1 this.2];exact a
theorem nN:∀(n:Nat)(a:Ug),fits n (a.map D.int)=true
 |_,[]=>by unfold fits;rfl
 |n,c::a=>by
  rw[Mo];unfold fits;rw[nN n a];cases n<;>rfl
theorem hZ{a b:Int}(h:∀r,Q (.int r) M):kT ad [.int a,.int b] M Q E:=by
 simp![Km,xz];refine⟨.inr (by decide),.inr (by decide),by decide,⟨by decide,by decide⟩,.inr (by decide),by decide,⟨by decide,by decide⟩,aq<|h _⟩
theorem Ab{a:Type}{x:a}{xs:List a}:atI (x::xs) 0=cb x:=by rw[atI_0];rfl
theorem qQ{a:Int}(h:0<m):0<=a % m/\a % m<m:=⟨OO _ (by lia),OA _ h⟩
theorem Af{i:Int}(h:0<=i)(h2:i<n):wf n i=cb i.toNat:=by unfold wf;rw[if_pos h,if_pos h2]
theorem ix0:wf (n+1) 0=cb 0:=Af (by decide) (by lia)
theorem FO:wf 4 2=cb 2:=rfl
theorem bY{s u:aB}(h:s { D0 with nx:=u D0 } U M):al s u D0 U M:=h
theorem Dj{k:Pt}{t:Int}(b:U[0]?=cb (cb<|.ref k.p))(a:M k.p=cb (.lst [.ref k.q,.int t,.int hh,.int sd]))(h:D0.nx U (M.upd k.p<|.lst [.ref k.q,.int (t+1),.int hh,.int sd])):
  ap (ak aF (ak aw (ac 0)<|dC<|.int 1)<|dC<|.int 1) (gL (ac 0)<|dC<|.int 1) D0 U M:=by
 simp![b,a,atI_1,Af (n:=4) (i:=1) (by decide) (by decide),show (1:Int).toNat=1 from rfl]
 exact h
theorem wS{k:Pt}{t:Int}{g:Option D}(a:0<TZ)(u:TZ<2 ^ 62)(e:M k.p=cb (.lst [.ref k.q,.int t,.int hh,.int sd]))(o:∀r,D0.rt (.int<|r % TZ) M)(h:D0.rt (.int<|hh % TZ) (M.upd k.p<|.lst [.ref k.q,.int t,.int (hh / TZ),.int sd])):
  (al (aA (ao<|ak ci (ak aw (ac 0)<|dC<|.int 2)<|dC<|.int 0) (ax<|ak g8 (am<|aj (kT ad) EE 2<|aa (ak aw (ac 0)<|dC<|.int 3)<|aa (ak aw (ac 0)<|dC<|.int 1) ae)<|ac 1) ay)
  (al (ap (ak g8 (ak aw (ac 0)<|dC<|.int 2)<|ac 1)<|af 3)
  (al (ap (ak oC (ak aw (ac 0)<|dC<|.int 2)<|ac 1)<|gL (ac 0)<|dC<|.int 2)
  (ax<|ac 3)))) D0 [cb (.ref k.p),cb (.int TZ),g,ed] M:=by
 simp![e,atI_1,atI_2,atI_3]
 by_cases b:hh=0
 .rw[if_pos b]
  refine au λQ' E' f _=>hZ λr=>f _ _ ?_;simp![];exact⟨a,o r⟩
 .rw[if_neg b]
  simp![e,FO];exact⟨a,⟨a,by lia⟩,h⟩
theorem CM{k:Pt}{t:Int}{cells:Ug}(z:0<TZ)(f:M k.p=cb (.lst [.ref k.q,.int t,.int hh,.int sd]))(o:M k.q=cb (.lst<|cells.map D.int))(h:D0.nx [cb (.ref k.p),cb (.int TZ),ed,ed] M)(B:∀c cs,hh=0->cells=c::cs->∀r,D0.rt (.int<|r % TZ) (M.upd k.q<|.lst<|cs.map D.int))(y:∀c cs,hh=0->cells=c::cs->¬c<10 ^ Int.toNat 18->D0.nx [cb (.ref k.p),cb (.int TZ),cb (.int c),ed] ((M.upd k.q<|.lst<|cs.map D.int).upd k.p<|.lst [.ref k.q,.int t,.int c,.int sd])):
  aA (gk (ao<|ak ci (ak aw (ac 0)<|dC<|.int 2)<|dC<|.int 0)<|ao<|ak ji (ak aw (ac 0)<|dC<|.int 0)<|am<|br ae) (al (ap (fJ "list" zw (ak aw (ac 0)<|dC<|.int 0)<|aa (dC<|.int 0) ae)<|af 2)
   (al (aA (ao<|ak yM (ac 2)<|ak Ie (dC<|.int 10)<|dC<|.int 18) (ax<|ak g8 (am<|aj (kT ad) EE 2<|aa (ac 2)<|aa (ak aw (ac 0)<|dC<|.int 1) ae)<|ac 1) ay)
   (ap (ac 2)<|gL (ac 0)<|dC<|.int 2))) ay D0 [cb (.ref k.p),cb (.int TZ),ed,ed] M:=by
 have b:=k.ne;simp![f,atI_2,Ab]
 by_cases a:hh=0
 .rw[if_pos a]
  refine⟨aQ (by decide),λp w=>?_⟩
  simp only[Mem.upd_del,ar w,o];cases cells with
  |nil=>
   simp![];exact h
  |cons c cs=>
   have u:∀g,(M.upd k.q g) k.p=cb (.lst [.ref k.q,.int t,.int hh,.int sd]):=λg=>by rw[ai b,f]
   simp![Ab,f,o,u,nN,ix0,FO,List.eraseIdx_zero,List.tail_cons,atI_1,atI_2,atI_3];refine⟨⟨by decide,by decide,by decide⟩,?_⟩
   by_cases e:c<10 ^ Int.toNat 18
   .rw[if_pos e]
    refine au λQ' E' x _=>hZ λr=>x _ _ ?_;simp![];exact⟨z,B c cs a rfl r⟩
   .rw[if_neg e]
    exact y c cs a rfl e
 .rw[if_neg a]
  exact h
theorem iM{k:Pt}(R:Has k M)(y:0<TZ)(G:TZ<2 ^ 62)(h:∀r M',0<=r->r<TZ->Dr k M M'->Q (.int r) M'):
  ba ad [.ref k.p,.int TZ] M Q E:=by
 obtain⟨cells,t,hh,sd,x,H,P⟩:=R;have a:=k.ne;have f:∀(r:Int)(M':Mem)(cells':Ug)(F w u:Int),cells'.length<=63->(∀b,b≠k.p->b≠k.q->M' b=M b)->M' k.p=cb (.lst [.ref k.q,.int F,.int w,.int u])->M' k.q=cb (.lst<|cells'.map D.int)->drp Q (.int<|r % TZ) M':=by
  intro r M' cells' F w u I N L O;exact aq (h _ _ (qQ y).1 (qQ y).2 ⟨⟨cells',F,w,u,I,L,O⟩,N⟩)
 have B:∀o,(M.upd k.p o) k.q=cb (.lst<|cells.map D.int):=λo=>by rw[ai (ML a)];exact P
 rw[JH];unfold vO;refine bY (Dj rfl H ?_);dsimp only;refine bY (CM y Mem.upd_same (B _) ?_ (λc z J C r=>?_) λc z J C S=>?_)
 .dsimp only
  refine wS y G Mem.upd_same (λr=>?_) ?_
  .exact f _ _ cells _ _ _ x (λb e g=>ai e) Mem.upd_same (B _)
  .exact f _ _ cells _ _ _ x (λb e g=>by rw[ai e,ai e]) Mem.upd_same (by rw[ai (ML a),B])
 .subst C
  exact f _ _ z _ _ _ (by simp at x;lia) (λb e g=>by rw[ai g,ai e]) (by rw[ai a,Mem.upd_same]) Mem.upd_same
 .subst C
  dsimp only;refine wS y G Mem.upd_same (λr=>?_) ?_
  .exact f _ _ z _ _ _ (by simp at x;lia) (λb e g=>by rw[ai e,ai g,ai e]) Mem.upd_same (by rw[ai (ML a),Mem.upd_same])
  .exact f _ _ z _ _ _ (by simp at x;lia) (λb e g=>by rw[ai e,ai e,ai g,ai e]) Mem.upd_same (by rw[ai (ML a),ai (ML a),Mem.upd_same])
theorem dG{xs:List D}{k:Nat}:dz xs ed (cb (k:Int))=xs.take k:=by
 unfold dz;rw[HT.lm,HT.xl,QG,Nat.sub_zero];rcases Nat.le_total k xs.length with h|h
 .rw[Nat.min_eq_left h]
 .rw[Nat.min_eq_right h,NI (Mn _),NI h]
theorem oP{xs:List D}{k:Nat}:dz xs (cb (k:Int)) ed=xs.drop k:=by
 unfold dz;rw[HT.lm,HT.xl];rcases Nat.le_total k xs.length with h|h
 .rw[Nat.min_eq_left h,NI (by simp)]
 .rw[Nat.min_eq_right h,Q5 (Mn _),Q5 h];simp
theorem Bc{ns:Ug}(h:∀(k:Pt) M',Has k M'->(∀b,b≠k.p->b≠k.q->M' b=M b)->Q (.ref k.p) M'):vT ad [.ml (ns.map D.int)] M Q E:=by
 have g:dz (ns.map D.int) ed (cb 63)=(ns.take 63).map D.int:=by rw[List.map_take];exact dG (k:=63)
 simp![JA,xw,bU,g];intro a F;refine bt (λy U M'=>∃(f:Ug)(sd:Int)(o:Option D),y=f.map D.int/\U=[cb (.ml<|ns.map D.int),cb (.int sd),o]/\M'=M) (λ_ _ _ _=>aI) ?_ ?_ _ _ _ ⟨ns.take 63,7,ed,rfl,rfl,by rw[Mem.upd_del,ar F]⟩
 .rintro U M' ⟨f,sd,o,_,rfl,rfl⟩
  simp![g];intro b C;rw[Mem.upd_del,ar C];intro q H;refine⟨aQ (by decide),λp z=>?_⟩
  have ne:p≠q:=by intro e;subst e;rw[Mem.upd_same]at z;cases z
  refine aq (h ⟨p,q,ne⟩ _ ⟨ns.take 63,0,0,sd,by simp;lia,Mem.upd_same,?_⟩ λb G B=>?_)
  .show ((M'.upd q _).upd p _) q=_
   rw[ai (ML ne),Mem.upd_same]
  .rw[ai G,ai B]
 .rintro x y U M' ⟨f,sd,o,u,rfl,rfl⟩ D' w _ _ _
  cases f with
  |nil=>simp at u
  |cons c f=>
   simp only[Mo,My]at u;obtain⟨rfl,rfl⟩:=u;simp![];exact⟨.inr (by decide),by decide,w _ _ ⟨f,_,_,rfl,rfl,rfl⟩⟩
noncomputable def alpha:Str:="abcdefghijklmnopqrstuvwxyz"
theorem AY:∀i<26,alpha.cps.toList[i]?=cb (97+i):=by decide +kernel
theorem yS:alpha.length<=sizeLine:=ME (show alpha.length<=100 by decide +kernel) (by decide)
theorem sV{t:Nat}(q:TY.length<=12)(h:∀(j:Nat)(b:j<TY.length),TY[j].cps[0]?=cb (97+(t+7*j) % 26)):TY.Nodup:=by
 refine NP.mpr λi j g b f e=>?_;have a:=h i g;have o:=h j b;rw[e,o]at a;have p:=MQ a;lia
def n8(x:Str):Prop:=∃(n c:Nat),1<=n/\n<=8/\97<=c/\c<=122/\x=⟨Oc n c⟩
theorem tX{k:Pt}{TZ:Nat}(hp:Has k M)(h1:TZ<=12)(h:∀(TY:Uh)(M':Mem),TY.length=TZ->TY.Nodup->(∀x∈TY,n8 x)->Dr k M M'->Q (.tup<|TY.map D.str) M'):v_ ad [.ref k.p,.int TZ] M Q E:=by
 simp![Lw,xq,bU];refine au λQ' E' N _=>iM hp (by decide) (by decide) λW M1 Y t1 F=>N _ _ ?_
 simp![];refine⟨aQ (by decide),λl R=>?_⟩
 have a:=F.1.nep R;refine⟨by lia,by lia,?_⟩
 obtain⟨t,rfl⟩:=Pc Y
 refine bt (λT U M'=>∃(j:Nat)(T6:Uh)(H J:Option D),j<=TZ/\T=(Rq j (TZ-j)).map (λ(i:Nat)=>D.int (0+(i:Int)))/\U=[cb (.ref k.p),cb (.int (TZ:Nat)),cb (.int (t:Nat)),cb (.ref l),H,J]/\T6.length=j/\(∀(i:Nat)(z:i<T6.length),T6[i].cps[0]?=cb (97+(t+7*i) % 26))/\(∀x∈T6,n8 x)/\
  Has k M'/\M' l=cb (.lst<|T6.map D.str)/\∀b,b≠k.p->b≠k.q->b≠l->M' b=M1 b) (λ_ _ _ _=>aI) ?_ ?_ _ _ _ ⟨0,[],ed,ed,MY _,?_,rfl,rfl,?_,by simp,F.1.upd a,Mem.upd_same,λb _ _ Z=>ai Z⟩
 .rintro U M' ⟨j,T6,H,J,hj,e,rfl,B,O,f,hh,C,I⟩
  have:j=TZ:=by
   have:=congrArg MN e;simp at this;lia
  subst this;simp![C];refine⟨M'.del l,λb o e=>?_,h T6 _ B (sV (by lia) O) f ⟨hh.del a,λb w u=>?_⟩⟩
  .unfold Mem.del at e;split at e
   .cases e
   .exact e
  .unfold Mem.del
   split
   .rename_i e;subst e;rw[<- F.2 b w u];exact R.symm
   .rename_i e;rw[I b w u e,F.2 b w u]
 .rintro x T U M' ⟨j,T6,H,J,hj,e,rfl,B,O,f,hh,C,I⟩ D' P _ _ _
  have X:j<TZ:=by
   have:=congrArg MN e;simp at this;lia
  obtain⟨n,hn⟩:∃n,TZ-j=n+1:=⟨TZ-j-1,by lia⟩
  rw[hn,Qh,Mo,My]at e;obtain⟨rfl,rfl⟩:=e;have g:atI alpha.cps.toList (((t:Nat)+7*(0+(j:Int))) % 26)=cb (97+(t+7*j) % 26):=by
   have:(((t:Nat):Int)+7*(0+(j:Int))) % 26=(((t+7*j) % 26:Nat):Int):=by lia
   rw[this,bE (by lia),MI,AY _ (by lia)]
  simp only[alpha]at g;simp![g,C];refine⟨.inl (by decide),by decide,yS,?_⟩
  refine au λQ' E' N _=>iM hh (by decide) (by decide) λr M2 r0 r1 L=>N _ _ ?_
  have G:M2 l=cb (.lst<|T6.map D.str):=by rw[L.2 l a.1 a.2];exact C
  simp![G];refine⟨by lia,by lia,by simp;exact eI (by lia),P _ _ ⟨j+1,T6++[⟨Oc (1+r).toNat (97+(t+7*j) % 26)⟩],_,_,by lia,?_,rfl,by simp[B],?_,?_,L.1.upd a,?_,?_⟩⟩
  .rw[show TZ-(j+1)=n by lia]
  .intro i z
   by_cases y:i<T6.length
   .rw[List.getElem_append_left y];exact O i y
   .have:i=T6.length:=by simp at z;lia
    subst this;rw[List.getElem_append_right (Mn _)];simp only[Nat.sub_self,Q1];rw[Array.getElem?_replicate,if_pos (by lia),B]
  .intro x hx
   rcases Ms.mp hx with hx|hx
   .exact f x hx
   .simp at hx;subst hx
    exact⟨(1+r).toNat,97+(t+7*j) % 26,by lia,by lia,by lia,by lia,rfl⟩
  .rw[Mem.upd_same];simp
  .intro b w u S
   rw[ai S,L.2 b w u,I b w u S]
 .simp[iq,List.range_eq_range']
 .intro i z;simp at z
@[simp] theorem atI_5 {α:Type} {xs:List α}:atI xs 5=xs[5]?:=bE (by decide)
@[simp] theorem atI_6 {α:Type} {xs:List α}:atI xs 6=xs[6]?:=bE (by decide)
@[simp] theorem atI_7 {α:Type} {xs:List α}:atI xs 7=xs[7]?:=bE (by decide)
@[simp] theorem atI_8 {α:Type} {xs:List α}:atI xs 8=xs[8]?:=bE (by decide)
theorem jY{r:Int}(b:0<=r)(e:r<TY.length):∃y,y∈TY/\atI (TY.map D.str) r=cb (.str y):=by
 have a:r.toNat<TY.length:=by lia
 refine⟨TY[r.toNat],OG a,?_⟩;rw[bE b,Mw,Mi a];rfl
structure ToldOk(TY:Uh)(m TZ:Int):Prop where
 m2:2<=m
 m1:m<=997
 n0:0<TY.length
 n1:TY.length<=12
 k0:0<=TZ
 k1:TZ<=40
noncomputable def cA(TY:Uh)(m TZ:Int):D:=.tup [.int m,.tup (TY.map D.str),.int TZ]
theorem aN{b:BxQ EE Q}{k:Pt}(o:Has k M)(q:0<TZ)(g:TZ<2 ^ 62)(h:∀r M',0<=r->r<TZ->Dr k M M'->Q (.int r) M'):calls (ba ad) EE [.ref k.p,.int TZ] M Q b:=
 au λQ' E' a _=>iM o q g λr M' e f d=>a _ _ (h r M' e f d)
section
variable{k:Pt}
theorem GN(h:te U M λd M1=>D0.nx (U.set i<|some d) M1):ap te (af i) D0 U M:=h
theorem Ah{d:D}(h:U[i]?=cb (cb d))(a:K d M):ac i U M K:=by simp only[ac,h];exact a
theorem tY{w c:Str}{B:aB}(b:U[i]?=cb (cb<|.str w))(a:w=c->A D0 U M)(h2:w≠c->B D0 U M):aA (ao<|ak ci (ac i)<|dC<|.str c) A B D0 U M:=by
 have e:aA (ao<|ak ci (ac i)<|dC<|.str c) A B D0 U M=(if w=c then A D0 U M else B D0 U M):=by
  simp[aA,ao,ak,ac,dC,ci,bN,dv,aH,b]
 rw[e]
 by_cases q:w=c
 .rw[if_pos q];exact a q
 .rw[if_neg q];exact h2 q
theorem GJ(e:U[0]?=cb (cb<|.ref k.p))(a:∀K:DK,K (.int v) M->te U M K)(b:Has k M)(v0:0<v)(v1:v<2 ^ 62)(h:∀r M',0<=r->r<v->Dr k M M'->K (.int r) M'):
  aj (ba ad) EE 2 (aa (ac 0)<|aa te ae) U M K:=by
 simp only[aj,aa,ac,ae,e];refine a _ ?_;exact⟨rfl,aN b v0 v1 h⟩
theorem BP(h:te U M λd M'=>frz d M' K):am te U M K:=h
theorem FN(g:U[0]?=cb (cb<|.ref k.p))(e:∀K:DK,K (.int v) M->te U M K)(f:Has k M)(v0:0<v)(v1:v<2 ^ 62)(h:∀r M',0<=r->r<v->Dr k M M'->K (.int r) M'):
  am (aj (ba ad) EE 2<|aa (ac 0)<|aa te ae) U M K:=
 BP (GJ g e f v0 v1 λr M' a b d=>by simp only[frz];exact h r M' a b d)
theorem J4(w:U[0]?=cb (cb<|.ref k.p))(e:U[i]?=cb (cb<|.tup<|TY.map D.str))(u:Has k M)(y:0<TY.length)(n1:TY.length<=12)(h:∀x M',x∈TY->Dr k M M'->K (.str x) M'):
  ak aw (ac i) (am<|aj (ba ad) EE 2<|aa (ac 0)<|aa (bn bF<|aa (ac i) ae) ae) U M K:=by
 have o:∀K:DK,K (.int TY.length) M->bn bF (aa (ac i) ae) U M K:=λK f=>by
  simp![e,Md];exact f
 simp only[ak];refine Ah e (FN w o u (by lia) (by lia) λr M' a b d=>?_)
 obtain⟨x,g,q⟩:=jY a b;simp![q];exact h x M' g d
theorem H_{a b:D}(f:U[i]?=cb (cb a))(e:U[j]?=cb (cb b))(h:te U M λd M'=>3<=sizeLine/\D0.rt (.tup [a,b,d]) M'):ax (av<|aa (ac i)<|aa (ac j)<|aa te ae) D0 U M:=by
 simp only[ax,av,aa,ae,ac,f,e];exact h
theorem ret4{a b c:D}{l:Nat}(g:U[i]?=cb (cb a))(e:U[j]?=cb (cb b))(f:U[l]?=cb (cb c))(h:te U M λd M'=>4<=sizeLine/\D0.rt (.tup [a,b,c,d]) M'):ax (av<|aa (ac i)<|aa (ac j)<|aa (ac l)<|aa te ae) D0 U M:=by
 simp only[ax,av,aa,ae,ac,g,e,f];exact h
theorem Ec{a:Option D}{s:Dl}(h:D0.nx (a::cb (cA TY m TZ)::cb (.int m)::cb (.tup<|TY.map D.str)::cb (.int TZ)::s) M){b c d:Option D}:
  ap (ac 1) (bQ 3<|aG (af 2)<|aG (af 3)<|aG (af 4) bR) D0 (a::cb (cA TY m TZ)::b::c::d::s) M:=by
 unfold cA at h ⊢;simp![];exact h
end
noncomputable def waysL:List Str:=["put","sum","by","less","same","sum","put","take","pick"]
def EO(TZ:Int)(w:Str):Prop:=w="put"\/(w="sum"\/w="by"\/w="less"\/w="same")\/(0<TZ/\(w="take"\/w="pick"))
section
variable{k:Pt}
theorem C3(h:D0.nx (U.set 5<|some<|.lst<|waysL.map D.str) M):
  ap (am<|br<|aa (dC<|.str "put")<|aa (dC<|.str "sum")<|aa (dC<|.str "by")<|aa (dC<|.str "less")<|aa (dC<|.str "same")<|aa (dC<|.str "sum")<|aa (dC<|.str "put")<|aa (dC<|.str "take")<|aa (dC<|.str "pick") ae) (af 5) D0 U M:=by
 simp![];refine⟨aQ (by decide),λp a=>?_⟩
 rw[Mem.upd_del,ar a];exact h
theorem HF(r:Nat)(b:r<if 0<TZ then 9 else 7):∃w,atI (waysL.map D.str) (r:Int)=cb (.str w)/\EO TZ w:=by
 rw[bE (by lia),MI]
 by_cases a:0<TZ
 .rw[if_pos a]at b
  match r,b with
  |0,_=>exact⟨_,rfl,.inl rfl⟩
  |1,_=>exact⟨_,rfl,.inr<|.inl<|.inl rfl⟩
  |2,_=>exact⟨_,rfl,.inr<|.inl<|.inr<|.inl rfl⟩
  |3,_=>exact⟨_,rfl,.inr<|.inl<|.inr<|.inr<|.inl rfl⟩
  |4,_=>exact⟨_,rfl,.inr<|.inl<|.inr<|.inr<|.inr rfl⟩
  |5,_=>exact⟨_,rfl,.inr<|.inl<|.inl rfl⟩
  |6,_=>exact⟨_,rfl,.inl rfl⟩
  |7,_=>exact⟨_,rfl,.inr<|.inr ⟨a,.inl rfl⟩⟩
  |8,_=>exact⟨_,rfl,.inr<|.inr ⟨a,.inr rfl⟩⟩
 .rw[if_neg a]at b
  match r,b with
  |0,_=>exact⟨_,rfl,.inl rfl⟩
  |1,_=>exact⟨_,rfl,.inr<|.inl<|.inl rfl⟩
  |2,_=>exact⟨_,rfl,.inr<|.inl<|.inr<|.inl rfl⟩
  |3,_=>exact⟨_,rfl,.inr<|.inl<|.inr<|.inr<|.inl rfl⟩
  |4,_=>exact⟨_,rfl,.inr<|.inl<|.inr<|.inr<|.inr rfl⟩
  |5,_=>exact⟨_,rfl,.inr<|.inl<|.inl rfl⟩
  |6,_=>exact⟨_,rfl,.inl rfl⟩
theorem KL(z:U[0]?=cb (cb<|.ref k.p))(x:U[4]?=cb (cb<|.int TZ))(u:U[5]?=cb (cb<|.lst<|waysL.map D.str))(y:Has k M)(h:∀w M',EO TZ w->Dr k M M'->K (.str w) M'):
  ak aw (ac 5) (am<|aj (ba ad) EE 2<|aa (ac 0)<|aa (qh (ao<|ak uf (ac 4)<|dC<|.int 0) (dC<|.int 9)<|dC<|.int 7) ae) U M K:=by
 have q:∀K:DK,K (.int (if 0<TZ then 9 else 7)) M->qh (ao<|ak uf (ac 4)<|dC<|.int 0) (dC<|.int 9) (dC<|.int 7) U M K:=λK e=>by
  simp![x]
  by_cases f:0<TZ
  .rw[if_pos f]at e ⊢;exact e
  .rw[if_neg f]at e ⊢;exact e
 simp only[ak];refine Ah u (FN z q y (by split<;>decide) (by split<;>decide) λr M' a b d=>?_)
 obtain⟨r,rfl⟩:=Pc a;obtain⟨w,g,o⟩:=HF (TZ:=TZ) r (by split at b<;>(split<;>lia))
 simp![g];exact h w M' o d
end
theorem r8{k:Pt}(N:Has k M)(L:ToldOk TY m TZ)(h:∀(r:Rw) M',dQ TY m TZ r->Dr k M M'->Q r.d M'):n_ ad [.ref k.p,cA TY m TZ] M Q E:=by
 obtain⟨O,S,u,n1,R,P⟩:=L;rw[LB];unfold wu;refine bY (Ec ?_);dsimp only;refine bY (C3 ?_);dsimp only;refine bY (GN (KL rfl rfl rfl N λw M1 o d1=>?_));dsimp only;refine bY (GN (J4 rfl rfl d1.1 u n1 λx M2 f d2=>?_));dsimp only;refine bY (tY rfl (λe=>?_) λg=>?_)
 .subst e
  refine H_ rfl rfl (GJ rfl (λK q=>Ah rfl q) d2.1 (by lia) (by lia) λr M3 a b d3=>?_)
  exact⟨aQ (by decide),aq<|h (.put x r) M3 ⟨f,a,b⟩<|d1.trans<|d2.trans d3⟩
 dsimp only[ay];refine bY (tY rfl (λe=>?_) λJ=>?_)
 .subst e
  have C:0<TZ:=by
   rcases o with e|(e|e|e|e)|e
   .exact(g e).elim
   .exact absurd e (by decide +kernel)
   .exact absurd e (by decide +kernel)
   .exact absurd e (by decide +kernel)
   .exact absurd e (by decide +kernel)
   .exact e.1
  refine H_ rfl rfl (GJ rfl (λK q=>Ah rfl q) d2.1 (by lia) (by lia) λr M3 a b d3=>?_)
  exact⟨aQ (by decide),aq<|h (.take x r) M3 ⟨f,a,b⟩<|d1.trans<|d2.trans d3⟩
 dsimp only[ay];refine bY (GN (J4 rfl rfl d2.1 u n1 λy M3 B d3=>?_));dsimp only;refine bY (tY rfl (λe=>?_) λH=>?_)
 .subst e
  have C:0<TZ:=by
   rcases o with e|(e|e|e|e)|e
   .exact(g e).elim
   .exact absurd e (by decide +kernel)
   .exact absurd e (by decide +kernel)
   .exact absurd e (by decide +kernel)
   .exact absurd e (by decide +kernel)
   .exact e.1
  exact H_ rfl rfl (Ah rfl ⟨aQ (by decide),aq<|h (.pick x y) M3 ⟨f,B,C⟩<|d1.trans<|d2.trans d3⟩)
 dsimp only[ay];have G:w="sum"\/w="by"\/w="less"\/w="same":=by
  rcases o with e|e|⟨_,e|e⟩
  .exact(g e).elim
  .exact e
  .exact(J e).elim
  .exact(H e).elim
 refine ret4 rfl rfl rfl (J4 rfl rfl d3.1 u n1 λz M4 F I=>?_);exact⟨aQ (by decide),aq<|h (.two w x y z) M4 ⟨G,f,B,F⟩<|d1.trans<|d2.trans<|d3.trans I⟩
mutual
def Jp:Rw->Prop
 |.ifr _ a b=>(a.length<=200/\eA a)/\b.length<=200/\eA b
 |.again _ a=>a.length<=200/\eA a
 |_=>True
def eA:List Rw->Prop
 |[]=>True
 |r::rs=>Jp r/\eA rs
end
theorem LnRs_append:∀{a b:List Rw},eA (a++b)↔eA a/\eA b
 |[],b=>by simp[eA]
 |r::a,b=>by simp[eA,LnRs_append,and_assoc]
mutual
noncomputable def cR:Rw->Nat
 |.ifr _ a b=>1+cRs a+cRs b
 |.again _ a=>1+cRs a
 |.put _ _=>1
 |.take _ _=>1
 |.pick _ _=>1
 |.two _ _ _ _=>1
noncomputable def cRs:List Rw->Nat
 |[]=>0
 |r::rs=>cR r+cRs rs
end
theorem aT:∀{a b:List Rw},cRs (a++b)=cRs a+cRs b
 |[],b=>by simp[cRs]
 |r::a,b=>by simp only[Nk,cRs,aT];lia
theorem Fy(h:dQ TY m TZ r):cR r=1:=by
 cases r with
 |ifr=>exact h.elim
 |again=>exact h.elim
 |_=>simp only[cR]
def Rv(rm:eC)(M:Mem)(v:Int):Prop:=M rm=cb (.lst [.int v])/\0<=v
def Kp(k:Pt)(rm:eC)(M M':Mem):Prop:=Has k M'/\(∃v:Int,M' rm=cb (.lst [.int v]))/\∀b o,b≠k.p->b≠k.q->b≠rm->M b=cb o->M' b=cb o
theorem Kp.trans{k:Pt}(a:Kp k rm M M1)(b:Kp k rm M1 M2):Kp k rm M M2:=⟨b.1,b.2.1,λx o f g e h=>b.2.2 x o f g e (a.2.2 x o f g e h)⟩
structure Rm(k:Pt)(rm:eC)(M:Mem):Prop where
 h:Has k M
 n1:rm≠k.p
 n2:rm≠k.q
 v:∃v:Int,M rm=cb (.lst [.int v])
theorem Rm.kp{k:Pt}(r:Rm k rm M):Kp k rm M M:=⟨r.h,r.v,λ_ _ _ _ _ e=>e⟩
theorem Rm.go{k:Pt}(r:Rm k rm M)(d:Kp k rm M M'):Rm k rm M':=⟨d.1,r.n1,r.n2,d.2.1⟩
theorem Rm.dr{k:Pt}(r:Rm k rm M)(d:Dr k M M'):Kp k rm M M':=⟨d.1,by obtain⟨v,e⟩:=r.v;exact⟨v,by rw[d.2 rm r.n1 r.n2];exact e⟩,λb o a f _ e=>by rw[d.2 b a f];exact e⟩
theorem Rm.new{k:Pt}(r:Rm k rm M)(f:M l=ed)(o:MO):Kp k rm M (M.upd l o):=by
 have a:=r.h.nep f;obtain⟨v,e⟩:=r.v;have b:rm≠l:=Mem.ne e f;exact⟨r.h.upd a,⟨v,by rw[ai b];exact e⟩,λc o _ _ _ e=>by rw[ai (Mem.ne e f)];exact e⟩
theorem Rm.set{k:Pt}(r:Rm k rm M)(v:Int):Kp k rm M (M.upd rm<|.lst [.int v]):=
 ⟨r.h.upd ⟨r.n1,r.n2⟩,⟨v,Mem.upd_same⟩,λc o _ _ h e=>by rw[ai h];exact e⟩
section
variable{k:Pt}
def PRo(ad:Ad)(k:Pt)(rm:eC)(TY:Uh)(m TZ:Int)(n:Nat):Prop:=∀(deep:Nat)(most:Int)(M:Mem)(Q:DK)(E:DX),deep<=4->2*(4-deep)+1<=n->0<most->most<=30->Rm k rm M->∀v:Int,Rv rm M v->
 (∀(rs:List Rw)(M':Mem),(∃v',Rv rm M' v'/\(cRs rs:Int)+v'<=v)->aJ TY m TZ rs/\eA rs->bd rs+deep<=4->rs.length<=100->Kp k rm M M'->Q (.tup<|ah rs) M')->RT ad n [.ref k.p,cA TY m TZ,.ref rm,.int deep,.int most] M Q E
def PBl(ad:Ad)(k:Pt)(rm:eC)(TY:Uh)(m TZ:Int)(n:Nat):Prop:=∀(deep:Nat)(M:Mem)(Q:DK)(E:DX),deep<4->2*(4-deep)<=n->Rm k rm M->∀v:Int,Rv rm M v->
 (∀(rs:List Rw)(l:eC)(M':Mem),(∃v',Rv rm M' v'/\(cRs rs:Int)+v'<=v+4)->aJ TY m TZ rs/\eA rs->bd rs+deep<=4->rs.length<=3->Kp k rm M M'->M' l=ed->Q (.ref l) (M'.upd l<|.lst<|ah rs))->RU ad n [.ref k.p,cA TY m TZ,.ref rm,.int deep] M Q E
theorem OkRs_append:∀{a b:List Rw},aJ TY m TZ (a++b)↔aJ TY m TZ a/\aJ TY m TZ b
 |[],b=>by simp[aJ]
 |r::a,b=>by simp[aJ,OkRs_append,and_assoc]
theorem bg:∀{a b:List Rw},bd (a++b)=max (bd a) (bd b)
 |[],b=>by simp[bd]
 |r::a,b=>by simp only[Nk,bd,bg,Nat.max_assoc]
theorem aZ:∀{a b:List Rw},ah (a++b)=ah a++ah b
 |[],b=>rfl
 |r::a,b=>by simp[ah,aZ]
theorem bi:∀{a:List Rw},(ah a).length=a.length
 |[]=>rfl
 |r::a=>by simp[ah,bi]
theorem uu(h:dQ TY m TZ r):bX TY m TZ r:=by
 cases r with
 |ifr=>exact h.elim
 |again=>exact h.elim
 |_=>simpa only[bX] using h
theorem Fh(h:dQ TY m TZ r):hR r=0:=by
 cases r with
 |ifr=>exact h.elim
 |again=>exact h.elim
 |_=>simp only[hR]
theorem FX(h:dQ TY m TZ r):Jp r:=by
 cases r with
 |ifr=>exact h.elim
 |again=>exact h.elim
 |_=>simp only[Jp]
theorem uj(ht:ToldOk TY m TZ)(W:PRo ad k rm TY m TZ n):PBl ad k rm TY m TZ (n+1):=by
 intro a M Q E hd hn r v R h;obtain⟨m2,m1,n0,n1,k0,k1⟩:=ht;have N:(a:Int)+1=((a+1:Nat):Int):=by lia
 simp![Ku,wB,cA,Md];refine aN r.h (by lia) (by lia) λr1 M1 Y b1 B=>?_
 have R1:=r.go (r.dr B);have G:Rv rm M1 v:=⟨by rw[B.2 rm r.n1 r.n2];exact R.1,R.2⟩
 obtain⟨x,g,ex⟩:=jY Y b1;simp![ex,N];refine au λQ' E' H _=>W (a+1) 5 M1 Q' E' (by lia) (by lia) (by decide) (by decide) R1 v G λfirst M2 T f h2 l2 d2=>H _ _ ?_
 obtain⟨v2,u,T⟩:=T;have R2:=R1.go d2;simp![];refine aN R2.h (by decide) (by decide) λw M3 a3 b3 o=>?_
 have R3:=R2.go (R2.dr o);have b:Rv rm M3 v2:=⟨by rw[o.2 rm r.n1 r.n2];exact u.1,u.2⟩
 simp![N]
 by_cases S:w<2
 .rw[if_pos S]
  refine au λQ' E' H _=>W (a+1) 5 M3 Q' E' (by lia) (by lia) (by decide) (by decide) R3 v2 b λe M4 I P h4 l4 q=>H _ _ ?_
  obtain⟨v4,F,I⟩:=I;simp![];refine⟨aQ (by decide),aQ (by decide),λl p=>aq (h [.ifr x first e] l M4 ⟨v4,F,by simp only[cRs,cR];lia⟩ ?_ ?_ (by simp) ((r.dr B).trans<|d2.trans<|(R2.dr o).trans q) p)⟩
  .simp only[aJ,bX,eA,Jp];exact⟨⟨⟨g,f.1,P.1⟩,trivial⟩,⟨⟨by lia,f.2⟩,by lia,P.2⟩,trivial⟩
  .simp only[bd,hR];lia
 .rw[if_neg S]
  by_cases z:w=2
  .rw[if_pos z]
   refine⟨aQ (by decide),aQ (by decide),λl p=>aq (h [.again x first] l M3 ⟨v2,b,by simp only[cRs,cR];lia⟩ ?_ ?_ (by simp) ((r.dr B).trans<|d2.trans<|R2.dr o) p)⟩
   .simp only[aJ,bX,eA,Jp];exact⟨⟨⟨g,f.1⟩,trivial⟩,⟨by lia,f.2⟩,trivial⟩
   .simp only[bd,hR];lia
  .rw[if_neg z]
   simp only[Md];refine aN R3.h (by lia) (by lia) λr4 M4 Z X q=>?_
   have R4:=R3.go (R3.dr q);obtain⟨y,O,ey⟩:=jY Z X;simp![ey];refine aN R4.h (by split<;>lia) (by split<;>lia) λL M5 a5 b5 J=>?_
   have C:L<m:=by split at b5<;>lia
   simp![];refine⟨aQ (by decide),aQ (by decide),aQ (by decide),aQ (by decide),aQ (by rw[bi];lia),aQ (by decide),aQ (by decide),λl p=>aq ?_⟩
   have:=h [.put x L,.put y (m-1),.again x (first++[.two "sum" x x y])] l M5 ⟨v2,⟨by rw[J.2 rm r.n1 r.n2,q.2 rm r.n1 r.n2];exact b.1,b.2⟩,by simp only[cRs,cR,aT];lia⟩ ?_ ?_ (by simp) ((r.dr B).trans<|d2.trans<|(R2.dr o).trans<|(R3.dr q).trans<|R4.dr J) p
   .simp only[ah,Rw.d,aZ]at this
    exact this
   .simp only[aJ,bX,dQ,OkRs_append,eA,Jp,LnRs_append]
    exact⟨⟨⟨g,a5,C⟩,⟨O,by lia,by lia⟩,⟨g,f.1,⟨.inl trivial,g,g,O⟩,trivial⟩,trivial⟩,trivial,trivial,⟨by simp;lia,f.2,trivial,trivial⟩,trivial⟩
   .simp only[bd,hR,bg];lia
theorem ET:frz r.d M Q=Q r.d M:=by cases r<;>rfl
theorem wA{c:Int}(h2:U[2]?=cb (cb<|.ref rm))(a:M rm=cb (.lst [.int v]))(h:D0.nx U (M.upd rm<|.lst [.int (v-c)])):
  ap (ak gb (ak aw (ac 2)<|dC<|.int 0)<|dC<|.int c) (gL (ac 2)<|dC<|.int 0) D0 U M:=by
 simp![h2,a,Ab,ix0];exact h
theorem I_{B:aB}{deep:Int}(x:U[0]?=cb (cb<|.ref k.p))(h2:U[2]?=cb (cb<|.ref rm))(q:U[3]?=cb (cb<|.int deep))(e:Has k M)(u:M rm=cb (.lst [.int v]))(o:∀M',4<v->deep<4->Dr k M M'->A D0 U M')(f:∀M',Dr k M M'->B D0 U M'):
  aA (gk (ao<|ak uf (ak aw (ac 2)<|dC<|.int 0)<|dC<|.int 4)<|gk (ao<|ak yM (ac 3)<|dC<|.int 4)<|ao<|ak ci (am<|aj (ba ad) EE 2<|aa (ac 0)<|aa (dC<|.int 4) ae)<|dC<|.int 0) A B D0 U M:=by
 simp![x,h2,q,u,Ab]
 by_cases b:4<v
 .rw[if_pos b]
  by_cases a:deep<4
  .rw[if_pos a]
   refine aN e (by decide) (by decide) λw M2 z y g=>?_
   simp![]
   by_cases h:w=0
   .rw[if_pos h];exact o _ b a g
   .rw[if_neg h];exact f _ g
  .rw[if_neg a];exact f _ e.refl
 .rw[if_neg b];exact f _ e.refl
theorem EB(h2:U[2]?=cb (cb<|.ref rm))(b:M rm=cb (.lst [.int v]))(e:0<v->A D0 U M)(f:D0.nx U M):
  aA (ao<|ak uf (ak aw (ac 2)<|dC<|.int 0)<|dC<|.int 0) A ay D0 U M:=by
 simp![h2,b,Ab]
 by_cases a:0<v
 .rw[if_pos a];exact e a
 .rw[if_neg a];exact f
theorem Dt(B:U[0]?=cb (cb<|.ref k.p))(w:U[1]?=cb (cb<|cA TY m TZ))(z:U[5]?=cb (cb<|.ref l))(y:Has k M)(x:ToldOk TY m TZ)(n1:l≠k.p)(n2:l≠k.q)(o:M l=cb (.lst<|ah T6))(C:T6.length<=1000)(h:∀(r:Rw) M',dQ TY m TZ r->Dr k M M'->D0.nx U (M'.upd l<|.lst (ah T6++[r.d]))):
  bf (fJ "list" bp (ac 5)<|aa (am<|aj (n_ ad) EE 2<|aa (ac 0)<|aa (ac 1) ae) ae) D0 U M:=by
 simp![B,w,z,o];refine au λQ' E' u _=>r8 y x λf M3 a g=>u _ _ ?_;have e:M3 l=cb (.lst<|ah T6):=by rw[g.2 l n1 n2];exact o
 have b:=h f M3 a g;have sz:(ah T6).length+1<=sizeLine:=by rw[bi];exact eI (by lia)
 rw[ET];simp![e];exact⟨sz,b⟩
theorem C2(H:PBl ad k rm TY m TZ n){deep:Nat}(J:U[0]?=cb (cb<|.ref k.p))(z:U[1]?=cb (cb<|cA TY m TZ))(h2:U[2]?=cb (cb<|.ref rm))(F:U[3]?=cb (cb<|.int deep))(G:U[5]?=cb (cb<|.ref l))(B:deep<4)(I:2*(4-deep)<=n)(R:Rm k rm M)(n1:l≠k.p)(n2:l≠k.q)(n3:l≠rm)(C:M l=cb (.lst<|ah T6))(O:T6.length<=1000)(L:Rv rm M v)(h:∀(rs:List Rw)(b:eC)(M':Mem),(∃w,Rv rm M' w/\(cRs rs:Int)+w<=v+4)->aJ TY m TZ rs/\eA rs->bd rs+deep<=4->rs.length<=3->Kp k rm M M'->M' b=ed->D0.nx (U.set 5<|some<|.ref b) (M'.upd b<|.lst (ah T6++ah rs))):
  ap (ak aF (ac 5)<|am<|aj (RU ad n) EE 4<|aa (ac 0)<|aa (ac 1)<|aa (ac 2)<|aa (ac 3) ae) (af 5) D0 U M:=by
 simp![J,z,h2,F,G];refine au λQ' E' y _=>H deep M Q' E' B I R v L λbl N M3 x g hh a u e=>y _ _ ?_;have f:M3 l=cb (.lst<|ah T6):=u.2.2 l _ n1 n2 n3 C;simp![Mem.upd_del,ar e,f];exact⟨by rw[bi,bi];exact aQ (by lia),λb o=>h bl b M3 x g hh a u o⟩
structure RInv(k:Pt)(rm:eC)(TY:Uh)(m TZ:Int)(M:Mem)(v:Int)(deep:Nat)(n j:Nat)(T6:List Rw)(l:eC)(M':Mem):Prop where
 cv:∃v',Rv rm M' v'/\(cRs T6:Int)+v'<=v
 hj:n+j<=30
 ha:T6.length<=3*j
 ok:aJ TY m TZ T6
 ln:eA T6
 hh:bd T6+deep<=4
 kp:Kp k rm M M'
 hm:M' l=cb (.lst<|ah T6)
 n1:l≠k.p
 n2:l≠k.q
 n3:l≠rm
 h0:M l=ed
theorem RInv.len{deep:Nat}(I:RInv k rm TY m TZ M v deep n j T6 l M'):T6.length<=100:=by
 have:=I.hj;have:=I.ha;lia
theorem lJ(ht:ToldOk TY m TZ)(ih:PBl ad k rm TY m TZ n):PRo ad k rm TY m TZ (n+1):=by
 intro deep P M Q E hd hn h0 h1 r v0 G h;simp![Kd,wP,bU];refine⟨aQ (by decide),λl B=>?_⟩
 have R1:=r.go (r.new B<|.lst []);refine aN R1.h h0 (by lia) λcnt M1 a1 b1 X=>?_
 have w:=r.h.nep B;simp![];refine⟨by lia,by lia,?_⟩
 refine bt (λxs U M'=>∃(j:Nat)(T6:List Rw)(l:eC)(Y:Option D),RInv k rm TY m TZ M v0 deep xs.length j T6 l M'/\U=[cb (.ref k.p),cb (cA TY m TZ),cb (.ref rm),cb (.int deep),cb (.int P),cb (.ref l),Y]) (λ_ _ _ _=>aI) ?_ ?_ _ _ _ ⟨0,[],l,ed,⟨⟨v0,⟨?_,G.2⟩,by simp[cRs]⟩,?_,by simp,by simp only[aJ],by simp only[eA],by simp only[bd];lia,(r.new B _).trans (R1.dr X),?_,w.1,w.2,?_,B⟩,rfl⟩
 .rintro U M' ⟨j,T6,l,Y,I,rfl⟩
  simp![I.hm];exact aq (h T6 M' I.cv ⟨I.ok,I.ln⟩ I.hh I.len I.kp)
 .rintro x xs U M' ⟨j,T6,l,Y,I,rfl⟩ D' F _ _ _
  have R:=r.go I.kp;have hj:=I.hj;have ha:=I.ha;simp only[Mc]at hj;obtain⟨v,⟨L,hv0⟩,hcv⟩:=I.cv;refine I_ rfl rfl rfl R.h L (λM2 h4 h5 y=>?_) λM2 y=>?_
  .have H:=I.kp.trans (R.dr y)
   have R2:=r.go H;refine bY (wA rfl (by rw[y.2 rm r.n1 r.n2];exact L) ?_)
   have J:=R2.set (v-4);dsimp only;refine C2 (deep:=deep) (T6:=T6) ih rfl rfl rfl rfl rfl (by lia) (by lia) (R2.go J) I.n1 I.n2 I.n3 (by rw[ai I.n3,y.2 l I.n1 I.n2];exact I.hm) (by lia) (v:=v-4) ⟨Mem.upd_same,by lia⟩ λbl N M3 c3 f T len3 k3 g=>?_
   have a:=(H.trans J).trans k3;have R3:=r.go a;have q:=R3.h.nep g;have C:N≠rm:=by
    obtain⟨u,eu⟩:=R3.v;exact λe=>by rw[e,eu]at g;cases g
   have W:M N=none:=by
    cases e:M N with
    |none=>rfl
    |some o=>rw[a.2.2 N o q.1 q.2 C e]at g;cases g
   obtain⟨v3,S,c3⟩:=c3;exact F _ _ ⟨j+1,T6++bl,N,_,⟨⟨v3,⟨by rw[ai (ML C)];exact S.1,S.2⟩,by rw[aT];lia⟩,by lia,by rw[Mg];lia,OkRs_append.mpr ⟨I.ok,f.1⟩,LnRs_append.mpr ⟨I.ln,f.2⟩,by rw[bg];exact ME (Qc (Nat.add_max_add_right ..).symm) (Nat.max_le.mpr ⟨I.hh,T⟩),a.trans (R3.new g _),by rw[Mem.upd_same,aZ],q.1,q.2,C,W⟩,rfl⟩
  .have H:=I.kp.trans (R.dr y)
   have R2:=r.go H;have O:M2 l=cb (.lst<|ah T6):=by rw[y.2 l I.n1 I.n2];exact I.hm
   refine EB rfl (by rw[y.2 rm r.n1 r.n2];exact L) (λhz=>?_) ?_
   .refine bY (wA rfl (by rw[y.2 rm r.n1 r.n2];exact L) ?_)
    have J:=R2.set (v-1);dsimp only;refine Dt (T6:=T6) rfl rfl rfl J.1 ht I.n1 I.n2 (by rw[ai I.n3];exact O) (by lia) λZ M3 f d3=>?_
    have a:=(H.trans J).trans ((R2.go J).dr d3);refine F _ _ ⟨j+1,T6++[Z],l,_,⟨⟨v-1,⟨by rw[ai (ML I.n3),d3.2 rm r.n1 r.n2,Mem.upd_same],by lia⟩,by rw[aT];simp only[cRs,Fy f];lia⟩,by lia,by rw[Mg,NA];lia,OkRs_append.mpr ⟨I.ok,by simp only[aJ];exact⟨uu f,trivial⟩⟩,LnRs_append.mpr ⟨I.ln,by simp only[eA];exact⟨FX f,trivial⟩⟩,by rw[bg];simp only[bd,Fh f,Nat.max_zero,Nat.max_self];exact I.hh,?_,by rw[Mem.upd_same,aZ];rfl,I.n1,I.n2,I.n3,I.h0⟩,rfl⟩
    refine⟨a.1.upd ⟨I.n1,I.n2⟩,?_,λb o h1 h2 h3 e=>?_⟩
    .obtain⟨u,eu⟩:=a.2.1
     exact⟨u,by rw[ai (ML I.n3)];exact eu⟩
    .rw[ai (Mem.ne e I.h0)];exact a.2.2 b o h1 h2 h3 e
   .exact F _ _ ⟨j,T6,l,_,⟨⟨v,⟨by rw[y.2 rm r.n1 r.n2];exact L,hv0⟩,hcv⟩,by lia,ha,I.ok,I.ln,I.hh,H,O,I.n1,I.n2,I.n3,I.h0⟩,rfl⟩
 .rw[X.2 rm r.n1 r.n2,ai (λz=>by rw[<- z,G.1]at B;cases B)];exact G.1
 .simp[iq];lia
 .rw[X.2 l w.1 w.2,Mem.upd_same];rfl
 .obtain⟨v,e⟩:=r.v
  exact λe'=>by rw[e',e]at B;cases B
theorem iJ(b:ToldOk TY m TZ):∀n:Nat,PRo ad k rm TY m TZ n/\PBl ad k rm TY m TZ n
 |0=>⟨λa e M Q E _ h=>by lia,λa M Q E _ h=>by lia⟩
 |n+1=>⟨lJ b (iJ b n).2,uj b (iJ b n).1⟩
end
section
variable{k:Pt}
def Kq(k:Pt)(M M':Mem):Prop:=Has k M'/\∀b o,b≠k.p->b≠k.q->M b=cb o->M' b=cb o
theorem Kq.trans(a:Kq k M M1)(b:Kq k M1 M2):Kq k M M2:=⟨b.1,λx o e f h=>b.2 x o e f (a.2 x o e f h)⟩
theorem Dr.kq(d:Dr k M M'):Kq k M M':=⟨d.1,λb o a f e=>by rw[d.2 b a f];exact e⟩
structure PlG(m TZ:Int)(TY:Uh)(rows:List Rw)(mk:Str):Prop where
 t:ToldOk TY m TZ
 nd:TY.Nodup
 ok:aJ TY m TZ rows
 h:bd rows<=4
 cn:cRs rows<=60
 l:rows.length<=100
 ln:eA rows
 mkm:mk∈TY
 one:∀x∈TY,n8 x
noncomputable def aW(m TZ:Int)(TY:Uh)(rows:List Rw)(mk:Str):D:=.tup [.int m,.tup (TY.map D.str),.int TZ,.tup (ah rows),.str mk]
theorem yj(v0:0<=v)(v60:v<=60)(hp:Has k M)(h:∀(m TZ:Int)(TY:Uh)(rows:List Rw)(mk:Str)(M':Mem),PlG m TZ TY rows mk->Kq k M M'->Q (aW m TZ TY rows mk) M'):wU ad [.ref k.p,.int v] M Q E:=by
 simp![JX,wj];refine aN hp (by decide) (by decide) λx1 M1 a1 b1 d1=>?_
 simp![];refine aN d1.1 (by decide) (by decide) λx2 M2 a2 b2 d2=>?_
 simp![];refine⟨aQ (by decide),λp a=>?_⟩
 rw[Mem.upd_del,ar a];refine aN d2.1 (by decide) (by decide) λC M3 a3 b3 d3=>?_
 obtain⟨m,em,m2,m1⟩:∃m:Int,atI [D.int 2,.int 3,.int (2+x1),.int (2+x2)] C=cb (.int m)/\2<=m/\m<=997:=by
  have:C=0\/C=1\/C=2\/C=3:=by lia
  rcases this with rfl|rfl|rfl|rfl
  .exact⟨2,by simp,by lia,by lia⟩
  .exact⟨3,by simp,by lia,by lia⟩
  .exact⟨2+x1,by simp,by lia,by lia⟩
  .exact⟨2+x2,by simp,by lia,by lia⟩
 simp![em];refine⟨aQ (by decide),λp a=>?_⟩
 rw[Mem.upd_del,ar a];refine aN d3.1 (by decide) (by decide) λG M4 a4 b4 d4=>?_
 obtain⟨w,ew,w2,w1⟩:∃m:Int,atI [D.int 3,.int 5,.int 12] G=cb (.int m)/\0<m/\m<=12:=by
  have:G=0\/G=1\/G=2:=by lia
  rcases this with rfl|rfl|rfl
  .exact⟨3,by simp,by lia,by lia⟩
  .exact⟨5,by simp,by lia,by lia⟩
  .exact⟨12,by simp,by lia,by lia⟩
 simp![ew];refine aN d4.1 w2 (by lia) λx5 M5 a5 b5 d5=>?_
 simp![];obtain⟨nn,P⟩:∃nn:Nat,(1:Int)+x5=nn:=⟨(1+x5).toNat,by lia⟩
 rw[P];refine au λQ' E' R _=>tX d5.1 (by lia) λTY M6 n6 S L d6=>R _ _ ?_
 simp![];refine aN d6.1 (by decide) (by decide) λx7 M7 a7 b7 d7=>?_
 simp![];refine aN d7.1 (by decide) (by decide) λx8 M8 a8 b8 d8=>?_
 simp![];refine⟨aQ (by decide),λp a=>?_⟩
 rw[Mem.upd_del,ar a];refine aN d8.1 (by decide) (by decide) λH M9 a9 b9 O=>?_
 obtain⟨TZ,ek,k0,k1⟩:∃m:Int,atI [D.int 0,.int (1+x7),.int x8] H=cb (.int m)/\0<=m/\m<=40:=by
  have:H=0\/H=1\/H=2:=by lia
  rcases this with rfl|rfl|rfl
  .exact⟨0,by simp,by lia,by lia⟩
  .exact⟨1+x7,by simp,by lia,by lia⟩
  .exact⟨x8,by simp,by lia,by lia⟩
 simp![ek];refine⟨aQ (by decide),aQ (by decide),λrm B=>⟨aQ (by decide),λp a=>?_⟩⟩
 rw[Mem.upd_del,ar a];have D9:=d1.trans (d2.trans<|d3.trans<|d4.trans<|d5.trans<|d6.trans<|d7.trans<|d8.trans O);have f:=O.1.nep B;have R9:Rm k rm (M9.upd rm<|.lst [.int v]):=⟨O.1.upd f,f.1,f.2,v,Mem.upd_same⟩;refine aN R9.h (by decide) (by decide) λg M10 a10 b10 u=>?_
 have R10:=R9.go (R9.dr u);obtain⟨F,eo,o0,o1⟩:∃m:Int,atI [D.int 6,.int 12,.int 30] g=cb (.int m)/\0<m/\m<=30:=by
  have:g=0\/g=1\/g=2:=by lia
  rcases this with rfl|rfl|rfl
  .exact⟨6,by simp,by lia,by lia⟩
  .exact⟨12,by simp,by lia,by lia⟩
  .exact⟨30,by simp,by lia,by lia⟩
 simp![eo];have ht:ToldOk TY m TZ:=⟨m2,m1,by lia,by lia,k0,k1⟩
 refine au λQ' E' R _=>(iJ ht 24).1 0 F M10 Q' E' (by decide) (by decide) o0 o1 R10 v ⟨by rw[u.2 rm f.1 f.2,Mem.upd_same],v0⟩ λrows M11 y q h11 Y x=>R _ _ ?_
 obtain⟨v11,z,y⟩:=y;have Z:=z.2;simp![Md];refine aN x.1 (by lia) (by lia) λx12 M12 I T N=>?_
 obtain⟨mk,X,J⟩:=jY I T;simp![J];refine⟨aQ (by decide),aq<|h m TZ TY rows mk M12 ⟨ht,S,q.1,by lia,by lia,Y,q.2,X,L⟩ ?_⟩
 refine D9.kq.trans (Kq.trans ?_ N.kq);refine⟨x.1,λb o h1 h2 e=>?_⟩;have W:b≠rm:=Mem.ne e B;have:=(R9.dr u).2.2 b o h1 h2 W (by rw[ai W];exact e)
 exact x.2.2 b o h1 h2 W this
theorem tQ(G:Has k M)(pl:ToldOk TY m TZ)(h:∀(nums a:Ug)(M':Mem),nums.length=TY.length->(a.length:Int)=TZ->(∀v∈nums,0<=v/\v<m)->(∀v∈a,0<=v/\v<m)->Kq k M M'->Q (bc nums a) M'):vI ad [.ref k.p,aW m TZ TY rows mk] M Q E:=by
 have t1:=pl.m1;have t2:=pl.m2;have t3:=pl.n1;have t4:=pl.k0;have t5:=pl.k1;simp![Jz,wg,aW,b6,atI_1];refine aV (λq T6 U M'=>∃(nums:Ug)(f:Option D),q.length+nums.length=TY.length/\T6=nums.map D.int/\U=[f,cb (.ref k.p),cb (aW m TZ TY rows mk)]/\Dr k M M'/\∀v∈nums,0<=v/\v<m) (λ_ _ _ _ _=>aI) ?_ ?_ ?_ _ _ _ _ ⟨[],ed,by simp,rfl,rfl,G.refl,by simp⟩
 .rintro T6 U M' ⟨nums,f,F,rfl,rfl,C,hv⟩
  intro p u;simp![Mem.upd_del,ar u,atI_2];refine⟨by lia,by lia,?_⟩
  refine aV (λq T6 U M'=>∃(e:Ug)(f:Option D),q.length+e.length=TZ.toNat/\T6=e.map D.int/\U=[f,cb (.ref k.p),cb (aW m TZ TY rows mk)]/\Dr k M M'/\∀v∈e,0<=v/\v<m) (λ_ _ _ _ _=>aI) ?_ ?_ ?_ _ _ _ _ ⟨[],ed,by simp[iq],rfl,rfl,C,by simp⟩
  .rintro T6 U M' ⟨e,f,o,rfl,rfl,g,b⟩
   intro p u;simp![Mem.upd_del,ar u];refine⟨aQ (by decide),aq<|h nums e M' (by simpa using F) (by simp at o;lia) hv b g.kq⟩
  .rintro x q T6 U M' ⟨e,f,o,rfl,rfl,g,b⟩ N y _
   simp![aW,atI_0];refine aN g.1 (by lia) (by lia) λr M3 B z w=>?_
   simp![];simp only[Mc]at o;refine y _ _ _ (by simp;exact eI (by lia)) ⟨e++[r],_,by simp;lia,by simp,rfl,g.trans w,λv hv=>?_⟩
   rcases Ms.mp hv with hv|hv
   .exact b v hv
   .simp at hv;subst hv;exact⟨B,z⟩
  .rintro x q T6 U M' ⟨e,f,o,rfl,rfl,g,b⟩
   simp at o ⊢;exact eI (by lia)
 .rintro x q T6 U M' ⟨e,f,o,rfl,rfl,g,b⟩ N y _
  simp![aW,atI_0];refine aN g.1 (by lia) (by lia) λr M3 B z w=>?_
  simp![];simp only[Mc]at o;refine y _ _ _ (by simp;exact eI (by lia)) ⟨e++[r],_,by simp;lia,by simp,rfl,g.trans w,λv hv=>?_⟩
  rcases Ms.mp hv with hv|hv
  .exact b v hv
  .simp at hv;subst hv;exact⟨B,z⟩
 .rintro x q T6 U M' ⟨e,f,o,rfl,rfl,g,b⟩
  simp at o ⊢;exact eI (by lia)
end
def BE:Nat->D->Prop
 |_,.non=>True
 |_,.bl _=>True
 |_,.int _=>True
 |_,.str _=>True
 |n+1,.tup xs=>xs.length<=100000/\∀x∈xs,BE n x
 |n+1,.lst xs=>xs.length<=100000/\∀x∈xs,BE n x
 |_,_=>False
theorem cw:∀n:Nat,jc (Mh n<|.bl true)=cb (Mh n true)
 |0=>rfl
 |n+1=>by rw[MZ,jc,cw n];rfl
theorem dX:(Mh n true).all id=true:=by simp
theorem i1:bP "tuple" "bool"=false:=by decide +kernel
theorem i2:bP "tuple" "int"=false:=by decide +kernel
theorem i3:bP "tuple" "str"=false:=by decide +kernel
theorem i4:bP "tuple" "tuple"=true:=by decide +kernel
theorem i5:bP "tuple" "list"=false:=by decide +kernel
theorem i6:bP "list" "bool"=false:=by decide +kernel
theorem i7:bP "list" "int"=false:=by decide +kernel
theorem i8:bP "list" "str"=false:=by decide +kernel
theorem i9:bP "list" "tuple"=false:=by decide +kernel
theorem i10:bP "list" "list"=true:=by decide +kernel
theorem i11:bP "bool" "bool"=true:=by decide +kernel
theorem i12:bP "int" "bool"=false:=by decide +kernel
theorem i13:bP "int" "int"=true:=by decide +kernel
theorem i14:bP "str" "bool"=false:=by decide +kernel
theorem i15:bP "str" "int"=false:=by decide +kernel
theorem i16:bP "str" "str"=true:=by decide +kernel
theorem t1:tI "bool"=true:=by decide +kernel
theorem t2:tI "int"=true:=by decide +kernel
theorem t3:tI "str"=true:=by decide +kernel
theorem t4:tI "tuple"=true:=by decide +kernel
theorem t5:tI "list"=true:=by decide +kernel
theorem mT:∀xs:List D,oU xs xs=xs.map (λz=>D.tup [z,z])
 |[]=>rfl
 |x::xs=>by
  have:=mT xs;simp only[oU]at this ⊢;simp[this]
theorem de{ad:Ad}:∀(n:Nat)(x:D)(M:Mem)(Q:DK)(E:DX),BE n x->Q (.bl true) M->RV ad (n+1) [x,x] M Q E
 |n,x,M,Q,E,g,h=>by
  cases x with
  |non=>simp![nJ,gI];exact aq h
  |bl b=>simp![nJ,gI,i11,t1,beq_self_eq_true];exact aq h
  |int i=>simp![nJ,gI,i12,i13,t1,t2];exact aq h
  |str i=>simp![nJ,gI,i14,i15,i16,t1,t2,t3];exact aq h
  |tup xs=>
   cases n with
   |zero=>exact g.elim
   |succ n=>
    obtain⟨I,g⟩:=g;simp![nJ,gI,i1,i2,i3,i4,i5,t1,t2,t3,t4,t5,b6];rw[if_neg (by decide),if_neg (by decide),if_neg (by decide)]
    refine aV (λF T6 U M'=>∃(a:List D)(j:Nat)(f u:Option D),F=a.map (λz=>D.tup [z,z])/\(∀z∈a,BE n z)/\a.length+j<=100000/\T6=Mh j (.bl true)/\U=[f,u]/\M'=M) (λ_ _ _ _ _=>aI) ?_ ?_ ?_ _ _ _ _ ⟨xs,0,ed,ed,mT xs,g,by omega,rfl,rfl,rfl⟩
    .rintro T6 U M' ⟨a,j,f,u,e,o,B,rfl,rfl,rfl⟩ p C
     simp![Mem.upd_del,ar C,cw,dX];exact aq h
    .rintro y F T6 U M' ⟨a,j,f,u,e,o,B,rfl,rfl,rfl⟩ N G _
     cases a with
     |nil=>simp at e
     |cons z a=>
      simp only[Mo,My]at e;obtain⟨rfl,rfl⟩:=e;simp only[Mc]at B;simp![];refine aL (d:=.bl true) (λQ' E' q=>de n z M' Q' E' (o z<|Nu ..) q) ?_;simp![];exact G _ _ _ (by simp;exact eI (by omega)) ⟨a,j+1,_,_,rfl,λw H=>o w (Mz _ H),by omega,by rw[NU],rfl,rfl⟩
    .rintro y F T6 U M' ⟨a,j,f,u,e,o,B,rfl,rfl,rfl⟩
     simp;exact eI (by omega)
  |lst xs=>
   cases n with
   |zero=>exact g.elim
   |succ n=>
    obtain⟨I,g⟩:=g;simp![nJ,gI,i6,i7,i8,i9,i10,t1,t2,t3,t4,t5,b6];rw[if_neg (by decide),if_neg (by decide),if_neg (by decide)]
    refine aV (λF T6 U M'=>∃(a:List D)(j:Nat)(f u:Option D),F=a.map (λz=>D.tup [z,z])/\(∀z∈a,BE n z)/\a.length+j<=100000/\T6=Mh j (.bl true)/\U=[f,u]/\M'=M) (λ_ _ _ _ _=>aI) ?_ ?_ ?_ _ _ _ _ ⟨xs,0,ed,ed,mT xs,g,by omega,rfl,rfl,rfl⟩
    .rintro T6 U M' ⟨a,j,f,u,e,o,B,rfl,rfl,rfl⟩ p C
     simp![Mem.upd_del,ar C,cw,dX];exact aq h
    .rintro y F T6 U M' ⟨a,j,f,u,e,o,B,rfl,rfl,rfl⟩ N G _
     cases a with
     |nil=>simp at e
     |cons z a=>
      simp only[Mo,My]at e;obtain⟨rfl,rfl⟩:=e;simp only[Mc]at B;simp![];refine aL (d:=.bl true) (λQ' E' q=>de n z M' Q' E' (o z<|Nu ..) q) ?_;simp![];exact G _ _ _ (by simp;exact eI (by omega)) ⟨a,j+1,_,_,rfl,λw H=>o w (Mz _ H),by omega,by rw[NU],rfl,rfl⟩
    .rintro y F T6 U M' ⟨a,j,f,u,e,o,B,rfl,rfl,rfl⟩
     simp;exact eI (by omega)
  |_=>cases n<;>exact g.elim
section
noncomputable def yb(TY:Uh)(r:Bool×Sx):D:=.tup [.lst (rN r.2.steps),dw TY r]
theorem gT{b:BxQ EE λd M'=>uq d M' Q}(p:PlOk c TY rows nums)(h:Q (yb TY<|bo c TY rows nums) M):
  calls (iW ad) EE [aK c TY rows mk,bc nums c.pieces,.int (c.most:Nat)] M (λd M'=>uq d M' Q) b:=by
 refine au λQ' E' f _=>zI p λl a=>f _ _ ?_;unfold yb dw at h;unfold dw;cases e:(bo c TY rows nums).1 with
 |true=>
  rw[e,if_pos rfl]at h;rw[if_pos rfl];simp![Mem.upd_del,ar a];exact h
 |false=>
  rw[e,if_neg (by simp)]at h
  rw[if_neg (by simp)]
  simp![Mem.upd_del,ar a];exact h
theorem An(p:PlOk c TY rows nums):(bo c TY rows nums).2.steps.length<=c.most:=(fO (c:=c) rows [] 0 ⟨TY.zip nums,[]⟩).2 (MY _)
theorem BU{r:Bool×Sx}(h:TY.length<=1000):BE (n+1) (dw TY r):=by
 unfold dw
 split
 .refine⟨by simp;lia,λx a=>?_⟩
  simp only[MS]at a;obtain⟨y,_,rfl⟩:=a;cases n<;>trivial
 .trivial
end
end _T
namespace _T
open PySem _2 _3 _S
variable{ad:Ad}{lp p q wk wv:eC}{b:Bool}{c:Cf}{D0 D2:DEnds}{K Q:DK}{E EE:DX}{U:Dl}{i m TZ T7 v:Int}{L:Uf}{P hr nums Uc pl wp:Ug}{f:List Int->Option Int}{W a a' T6 es os rows rs:List Rw}{TY Ud:Uh}{T:List qL}{M N:Mem}{okM:Mem->Prop}{j most n room:Nat}{o r:Rw}{mk x y z:Str}{n':dk}
noncomputable def bT:Rw->Bool
 |.pick _ _=>true
 |_=>eH
noncomputable def aO:Rw->Bool
 |.ifr _ _ _=>true
 |.again _ _=>true
 |_=>eH
noncomputable abbrev Tr:=List Int×Rw×Rw
mutual
noncomputable def eV(pl:Ug):Rw->Rw->Option (List Tr)
 |.ifr x a b,o=>match o with
  |.ifr y a' b'=>if x=y then (match cE (pl++[1]) 0 a a',cE (pl++[0]) 0 b b' with
   |some l1,cb l2=>cb (l1++l2)
   |_,_=>ed) else ed
  |_=>ed
 |.again x a,o=>match o with
  |.again y a'=>if x=y then cE (pl++[0]) 0 a a' else ed
  |_=>ed
 |r,o=>if (bT r||bT o||aO o)=true then ed else cb [(pl,r,o)]
noncomputable def cE(pl:Ug):Nat->List Rw->List Rw->Option (List Tr)
 |_,[],os=>match os with
  |[]=>cb []
  |_=>ed
 |j,r::rs,os=>match os with
  |[]=>ed
  |o::os=>match eV (pl++[(j:Int)]) r o,cE pl (j+1) rs os with
   |some l1,cb l2=>cb (l1++l2)
   |_,_=>ed
end
mutual
noncomputable def ff:Rw->Rw->Bool
 |.ifr x a b,o=>match o with
  |.ifr y a' b'=>decide (x=y)&&(bw a a'&&bw b b')
  |_=>eH
 |.again x a,o=>match o with
  |.again y a'=>decide (x=y)&&bw a a'
  |_=>eH
 |r,o=>!(bT r||bT o||aO o)
noncomputable def bw:List Rw->List Rw->Bool
 |[],os=>os.isEmpty
 |r::rs,os=>match os with
  |[]=>eH
  |o::os=>ff r o&&bw rs os
end
noncomputable def tV(r o:Rw):Bool:=!aH r.d o.d
mutual
noncomputable def bz(pl:Ug):Rw->Rw->List (List Int)
 |.ifr _ a b,o=>match o with
  |.ifr _ a' b'=>aX (pl++[0]) 0 b b'++aX (pl++[1]) 0 a a'
  |_=>[]
 |.again _ a,o=>match o with
  |.again _ a'=>aX (pl++[0]) 0 a a'
  |_=>[]
 |r,o=>if tV r o=true then [pl] else []
noncomputable def aX(pl:Ug):Nat->List Rw->List Rw->List (List Int)
 |_,[],_=>[]
 |j,r::rs,os=>match os with
  |[]=>[]
  |o::os=>bz (pl++[(j:Int)]) r o++aX pl (j+1) rs os
end
noncomputable def p4(l:List Tr):List (List Int):=(l.filter λt=>tV t.2.1 t.2.2).map (·.1)
theorem xE{a b:List Tr}:p4 (a++b)=p4 a++p4 b:=by simp[p4]
mutual
theorem Hv:∀(r o:Rw)(pl:Ug),(eV pl r o).isSome=ff r o
 |.ifr x a b,o,pl=>by
  have e:=eD a;have g:=eD b;cases o with
  |ifr y a' b'=>
   simp only[eV,ff]
   by_cases c:x=y
   .rw[if_pos c,decide_eq_true c,PY,<- e a' (pl++[1]) 0,<- g b' (pl++[0]) 0]
    cases cE (pl++[1]) 0 a a'<;>cases cE (pl++[0]) 0 b b'<;>rfl
   .rw[if_neg c,decide_eq_false c,QH];rfl
  |_=>rfl
 |.again x a,o,pl=>by
  have e:=eD a;cases o with
  |again y a'=>
   simp only[eV,ff]
   by_cases c:x=y
   .rw[if_pos c,decide_eq_true c,PY,e]
   .rw[if_neg c,decide_eq_false c,QH];rfl
  |_=>rfl
 |.put x k,o,pl=>by cases o<;>rfl
 |.take x k,o,pl=>by cases o<;>rfl
 |.pick x k,o,pl=>by cases o<;>rfl
 |.two w x y z,o,pl=>by cases o<;>rfl
theorem eD:∀(rs os:List Rw)(pl:Ug)(j:Nat),(cE pl j rs os).isSome=bw rs os
 |[],os,pl,j=>by cases os<;>rfl
 |r::rs,os,pl,j=>by
  cases os with
  |nil=>rfl
  |cons o os=>
   simp only[cE,bw];rw[<- Hv r o (pl++[(j:Int)]),<- eD rs os pl (j+1)];cases eV (pl++[(j:Int)]) r o<;>cases cE pl (j+1) rs os<;>rfl
end
mutual
theorem CS:∀(r o:Rw)(pl:Ug)(l:List Tr),eV pl r o=cb l->(p4 l).Perm (bz pl r o)
 |.ifr x a b,o,pl,l,h=>by
  have e:=fM a;have h2:=fM b;cases o with
  |ifr y a' b'=>
   simp only[eV]at h
   split at h
   .split at h
    .rename_i g s
     cases h;rw[xE];exact(Rk (e _ _ _ _ g)<|h2 _ _ _ _ s).trans List.perm_append_comm
    .cases h
   .cases h
  |_=>cases h
 |.again x a,o,pl,l,h=>by
  have e:=fM a;cases o with
  |again y a'=>
   simp only[eV]at h
   split at h
   .exact e _ _ _ _ h
   .cases h
  |_=>cases h
 |.put x k,o,pl,l,h=>by
  simp only[eV]at h
  split at h
  .cases h
  .cases h;simp only[bz,p4,O9,Pr];split<;>simp
 |.take x k,o,pl,l,h=>by
  simp only[eV]at h
  split at h
  .cases h
  .cases h;simp only[bz,p4,O9,Pr];split<;>simp
 |.pick x k,o,pl,l,h=>by
  simp only[eV]at h
  split at h
  .cases h
  .cases h;simp only[bz,p4,O9,Pr];split<;>simp
 |.two w x y z,o,pl,l,h=>by
  simp only[eV]at h
  split at h
  .cases h
  .cases h;simp only[bz,p4,O9,Pr];split<;>simp
theorem fM:∀(rs os:List Rw)(pl:Ug)(j:Nat)(l:List Tr),cE pl j rs os=cb l->(p4 l).Perm (aX pl j rs os)
 |[],os,pl,j,l,h=>by
  cases os with
  |nil=>cases h;exact Qe _
  |cons _ _=>cases h
 |r::rs,os,pl,j,l,h=>by
  cases os with
  |nil=>cases h
  |cons o os=>
   simp only[cE]at h
   split at h
   .rename_i e g
    cases h;rw[xE];exact Rk (CS r o _ _ e) (fM rs os _ _ _ g)
   .cases h
end
mutual
theorem oF:∀(r o:Rw)(pl:Ug)(l:List Tr),eV pl r o=cb l->l.length<=cR r
 |.ifr x a b,o,pl,l,h=>by
  have e:=dj a;have g:=dj b;cases o with
  |ifr y a' b'=>
   simp only[eV]at h
   split at h
   .split at h
    .rename_i s u
     cases h;have B:=e _ _ _ _ s;have A:=g _ _ _ _ u;simp only[Mg,cR];lia
    .cases h
   .cases h
  |_=>cases h
 |.again x a,o,pl,l,h=>by
  have e:=dj a;cases o with
  |again y a'=>
   simp only[eV]at h
   split at h
   .have:=e _ _ _ _ h
    simp only[cR];lia
   .cases h
  |_=>cases h
 |.put x k,o,pl,l,h=>by
  simp only[eV]at h
  split at h
  .cases h
  .cases h;simp[cR]
 |.take x k,o,pl,l,h=>by
  simp only[eV]at h
  split at h
  .cases h
  .cases h;simp[cR]
 |.pick x k,o,pl,l,h=>by
  simp only[eV]at h
  split at h
  .cases h
  .cases h;simp[cR]
 |.two w x y z,o,pl,l,h=>by
  simp only[eV]at h
  split at h
  .cases h
  .cases h;simp[cR]
theorem dj:∀(rs os:List Rw)(pl:Ug)(j:Nat)(l:List Tr),cE pl j rs os=cb l->l.length<=cRs rs
 |[],os,pl,j,l,h=>by
  cases os with
  |nil=>cases h;simp[cRs]
  |cons _ _=>cases h
 |r::rs,os,pl,j,l,h=>by
  cases os with
  |nil=>cases h
  |cons o os=>
   simp only[cE]at h
   split at h
   .rename_i e g
    cases h;have s:=oF r o _ _ e;have u:=dj rs os _ _ _ g;simp only[Mg,cRs];lia
   .cases h
end
theorem dW:∀{rs os:List Rw},bw rs os=true->rs.length=os.length
 |[],os,h=>by cases os with|nil=>rfl|cons _ _=>cases h
 |r::rs,os,h=>by
  cases os with
  |nil=>cases h
  |cons o os=>
   simp only[bw,MA]at h;simp[dW h.2]
noncomputable def dB:Rw->Str
 |.put _ _=>"put"
 |.take _ _=>"take"
 |.pick _ _=>"pick"
 |.two w _ _ _=>w
 |.ifr _ _ _=>"if"
 |.again _ _=>"again"
noncomputable def qM:Rw->Str
 |.put x _=>x
 |.take x _=>x
 |.pick x _=>x
 |.two _ x _ _=>x
 |.ifr x _ _=>x
 |.again x _=>x
noncomputable def FP:Rw->List D
 |.put _ k=>[.int k]
 |.take _ k=>[.int k]
 |.pick _ y=>[.str y]
 |.two _ _ y z=>[.str y,.str z]
 |.ifr _ a b=>[.tup (ah a),.tup (ah b)]
 |.again _ a=>[.tup (ah a)]
theorem fE(r:Rw):r.d=.tup (.str (dB r)::.str (qM r)::FP r):=by cases r<;>rfl
noncomputable def yW:Rw->List D
 |.ifr _ a b=>[.tup (ah a),.tup (ah b)]
 |.again _ a=>[.tup (ah a)]
 |_=>[]
noncomputable def fG:Rw->Bool
 |.ifr _ _ _=>true
 |_=>eH
noncomputable def nc:Rw->Bool
 |.again _ _=>true
 |_=>eH
section
theorem rV{w:Str}(h:bX TY m TZ (.two w x y z)):w≠"if"/\w≠"again"/\w≠"pick":=by
 obtain⟨e,_⟩:=(show dQ TY m TZ (.two w x y z) from h);rcases e with rfl|rfl|rfl|rfl<;>decide +kernel
theorem nO(h:bX TY m TZ r):decide (dB r="if")=fG r:=by
 cases r with
 |two w x y z=>exact decide_eq_false (rV h).1
 |_=>simp![dB,fG,not_false_eq_true]
theorem rE(h:bX TY m TZ r):decide (dB r="again")=nc r:=by
 cases r with
 |two w x y z=>exact decide_eq_false (rV h).2.1
 |_=>simp![dB,nc,not_false_eq_true]
theorem xj(h:bX TY m TZ r):decide (dB r="pick")=bT r:=by
 cases r with
 |two w x y z=>exact decide_eq_false (rV h).2.2
 |_=>simp![dB,bT,not_false_eq_true]
theorem rH(ok:bX TY m TZ r)(h:∀p,M p=ed->Q (.ref p) (M.upd p<|.lst<|yW r)):eZ ad [r.d] M Q E:=by
 have B:=nO ok;have A:=rE ok;rw[KE];unfold xc qu;generalize w:jG ad (az E)=K;generalize s:al (aA (ao<|ak ci (ak aw (ac 0)<|dC<|.int 0)<|dC<|.str "again") (ax<|br<|aa (ak aw (ac 0)<|dC<|.int 2) ae) ay) (ax<|br ae)=L;have l:fG r=eH->L { nx:=λ_ M'=>drp Q .non M',rt:=drp Q } [cb r.d] M:=λe=>by
  rw[<- s];generalize u:ax (br<|aa (ak aw (ac 0)<|dC<|.int 2) ae)=G;rw[fE];simp only[al,aA,ao,ak,ac,dC,aw,aC,atI_0,ci,dv,aH,bN,Mb,dt];rw[A];refine⟨trivial,trivial,?_⟩;cases r with
  |ifr x a b=>cases e
  |again x a=>
   show G _ _ M;rw[<- u];exact⟨aQ (by simp),λp g=>aq (h p g)⟩
  |_=>exact⟨aQ (by simp),λp g=>aq (h p g)⟩
 rw[fE]at l ⊢;simp only[al,aA,ao,ak,ac,dC,aw,aC,atI_0,ci,dv,aH,bN,Mb,dt];rw[B];refine⟨trivial,trivial,?_⟩;cases r with
 |ifr x a b=>
  show K _ _ M;rw[<- w];unfold jG;exact⟨aQ (by simp),λp g=>aq (h p g)⟩
 |_=>exact l rfl
theorem bH{l:BxQ EE λd M'=>frz d M' Q}(ok:bX TY m TZ r)(h:Q (.lst<|yW r) M):calls (eZ ad) EE [r.d] M (λd M'=>frz d M' Q) l:=
 au λQ' E' e _=>rH ok λp g=>e _ _ (by simp only[frz,Mem.upd_same,Mem.upd_del,ar g];exact h)
noncomputable def ph(r o:Rw):Bool:=!bT r&&!bT o&&(!(aO r||aO o)||(decide (dB r=dB o)&&decide (qM r=qM o)))
theorem sP(ok:bX TY m TZ r)(A:bX TY m TZ o)(h1:ph r o=true->Q .non M)(h2:ph r o=eH->E ad.C_NoBuild M):ED ad [r.d,o.d] M Q E:=by
 have S:=xj ok;have R:=xj A;have F:ph r o=true->drp Q .non M:=λe=>aq (h1 e);have B:ph r o=eH->az E ad.C_NoBuild M:=λe=>cD (h2 e);rw[u_q0];unfold EA;generalize O:qf ad (az E)=K;generalize X:({ nx:=λ_ M'=>drp Q .non M',rt:=drp Q }:DEnds)=DD;have t1:bT r=eH->bT o=eH->K DD [cb r.d,cb o.d] M:=λY I=>by
  rw[<- O,<- X];unfold qf;have u:ph r o=(!(aO r||aO o)||(decide (dB r=dB o)&&decide (qM r=qM o))):=by unfold ph;rw[Y,I];rfl
  have s:∀K:Bool->Mem->Prop,K (!(decide (dB r=dB o)&&decide (qM r=qM o))) M->ao (ak ji (am<|eM (ac 0) aD<|aY<|dC<|.int 2)<|am<|eM (ac 1) aD<|aY<|dC<|.int 2) [cb r.d,cb o.d] M K:=λK q=>by
   rw[fE r,fE o];have Z:∀(a b:D)(l:List D),dz (a::b::l) ed (cb 2)=[a,b]:=λa b l=>dG (k:=2);simp only[ao,ak,am,eM,ac,aD,aY,dC,tu,Z,frz,Mb,dt];refine⟨rfl,rfl,?_⟩;simp only[dv,aH,cG,OJ];exact q
  generalize hC:ao (ak ji (am<|eM (ac 0) aD<|aY<|dC<|.int 2)<|am<|eM (ac 1) aD<|aY<|dC<|.int 2)=CC at s ⊢;simp only[aA,gk,jw,bO,am,aj,aa,ac,ae,Mb,dt];have g:(aO r||aO o)=true->CC [cb r.d,cb o.d] M (λb M1=>if b=true then eQ ad.C_NoBuild (az E) { nx:=λ_ M'=>drp Q .non M',rt:=drp Q } [cb r.d,cb o.d] M1 else ay { nx:=λ_ M'=>drp Q .non M',rt:=drp Q } [cb r.d,cb o.d] M1):=λe=>by
   refine s _ ?_;rw[e]at u;rw[Nc,PZ]at u;rw[<- u];cases c:ph r o with
   |true=>exact F c
   |false=>exact B c
  refine⟨rfl,bH ok ?_⟩;have C:∀q:Rw,vN M (.lst<|yW q)=cb (aO q):=λq=>by cases q<;>rfl
  simp only[C];cases h:aO r with
  |true=>
   rw[h]at g;exact g rfl
  |false=>
   simp only[Mr,if_false];refine⟨rfl,bH A ?_⟩;simp only[C];cases w:aO o with
   |true=>
    rw[h,w]at g;exact g rfl
   |false=>
    rw[h,w]at u;exact F u
 have J:∀q:Rw,atI (.str (dB q)::.str (qM q)::FP q) 0=cb (.str<|dB q):=λq=>by rw[atI_0];rfl
 have G:(bT r||bT o)=true->ph r o=false:=λe=>by
  unfold ph;cases c:bT r with
  |true=>rfl
  |false=>rw[c,PZ]at e;rw[e];rfl
 have H:∀(q:Rw),q.d=.tup (.str (dB q)::.str (qM q)::FP q):=fE;rw[H r,H o]at t1 ⊢;simp only[al,aA,jw,ao,ak,ac,dC,aw,aC,J,ci,dv,aH,bN,Mb,dt];rw[S,R];refine⟨trivial,trivial,?_⟩;cases h:bT r with
 |true=>exact B (G<|by rw[h];rfl)
 |false=>
  refine⟨trivial,trivial,?_⟩;cases w:bT o with
  |true=>exact B (G<|by rw[w,Bool.or_true])
  |false=>
   rw[h,w]at t1;exact t1 rfl rfl
end
noncomputable def Ew(t:Tr):D:=.tup [tupD t.1,t.2.1.d,t.2.2.d]
theorem gG{xs:List D}(e:M p=ed)(h:Q (.lst xs) M):frz (.ref p) (M.upd p<|.lst xs) Q:=by
 simp only[frz,Mem.upd_same,Mem.upd_del,ar e];exact h
theorem kM{b:List Rw}:atI (ah (a++o::b)) (a.length:Nat)=cb o.d:=by
 rw[bE (by lia),MI,iD,Mw]
 simp
def PPa(ad:Ad)(n:Nat):Prop:=∀(rs os:List Rw)(pl:Ug)(M:Mem)(Q:DK)(E:DX)(TY:Uh)(m TZ:Int),aJ TY m TZ rs->aJ TY m TZ os->2*bd rs+1<=n->cRs rs<=1000->pl.length+2*bd rs+1<=900->
 (∀l,cE pl 0 rs os=cb l->∀p,M p=ed->Q (.ref p) (M.upd p<|.lst<|l.map Ew))->(cE pl 0 rs os=ed->E ad.C_NoBuild M)->RH ad n [.tup (ah rs),.tup (ah os),tupD pl] M Q E
def PWi(ad:Ad)(n:Nat):Prop:=∀(r o:Rw)(pl:Ug)(M:Mem)(Q:DK)(E:DX)(TY:Uh)(m TZ:Int),bX TY m TZ r->bX TY m TZ o->aO r=true->ph r o=true->2*hR r<=n->cR r<=1000->pl.length+2*hR r<=900->
 (∀l,eV pl r o=cb l->∀p,M p=ed->Q (.ref p) (M.upd p<|.lst<|l.map Ew))->(eV pl r o=ed->E ad.C_NoBuild M)->RL ad n [r.d,o.d,tupD pl] M Q E
section
theorem rD(ok:bX TY m TZ r)(e:bX TY m TZ o)(g:aO r=eH):(ph r o=true->eV pl r o=cb [(pl,r,o)])/\(ph r o=eH->eV pl r o=ed):=by
 cases r<;>first|cases g|skip
 all_goals cases o<;>refine⟨λh=>?_,λh=>?_⟩<;>first|rfl|(cases h;done)|(simp[ph,bT,aO,eV,dB]at h ⊢;done)|skip
 .exact absurd (by simp[ph,bT,aO,dB]at h;exact of_decide_eq_true h.1) (rV ok).1
 .exact absurd (by simp[ph,bT,aO,dB]at h;exact of_decide_eq_true h.1) (rV ok).2.1
theorem HU(g:aO r=true)(h:ph r o=eH):eV pl r o=none:=by
 cases r<;>first|cases g|skip
 all_goals cases o<;>first|rfl|skip
 .rename_i x a b y a' l
  have:¬x=y:=λe=>by subst e;simp[ph,bT,aO,dB,qM]at h
  simp only[eV,if_neg this]
 .rename_i x a y a'
  have:¬x=y:=λe=>by subst e;simp[ph,bT,aO,dB,qM]at h
  simp only[eV,if_neg this]
theorem ca(g:pl.length<=100000)(q:K (tupD (pl++[i])) M):aF (tupD pl) (.tup [.int i]) M K:=by
 have e:tupD (pl++[i])=.tup (pl.map D.int++[.int i]):=by simp[tupD]
 rw[e]at q;exact⟨aQ (by simp only[Md,Mc,Mv];lia),q⟩
theorem BD(ih:PWi ad n){A:D}{g u:List Rw}{T6:List Tr}(ok:bX TY m TZ r)(h:bX TY m TZ o)(hn:2*hR r<=n)(hc:cR r<=1000)(hl:pl.length+1+2*hR r<=900)(ha:T6.length<=100000)(B:N p=cb (.lst<|T6.map Ew))(S:∀l,eV (pl++[(g.length:Int)]) r o=cb l->D2.nx [cb A,cb (.tup<|ah (g++o::u)),cb (tupD pl),cb (.ref p),cb (.int (g.length:Nat)),cb r.d] (N.upd p<|.lst<|(T6++l).map Ew))(h2:eV (pl++[(g.length:Int)]) r o=ed->EE ad.C_NoBuild N):
  jx ad (RH ad n) (RL ad n) EE D2 [cb A,cb (.tup<|ah (g++o::u)),cb (tupD pl),cb (.ref p),cb (.int (g.length:Nat)),cb r.d] N:=by
 have I:=kM (a:=g) (b:=u) (o:=o);unfold jx;generalize O:j_ ad (RH ad n) (RL ad n) EE=K3;simp only[al,bf,aj,aa,ac,ak,ae,aw,aC,I,Mb,dt];refine⟨rfl,au λQ' E' J Y=>sP ok h (λs=>J _ _ ?_) λs=>Y _ _ (h2 ?_)⟩
 .rw[<- O]
  unfold j_;generalize G:jS ad (RH ad n) (RL ad n) EE=K1;generalize F:jQ ad (RH ad n) (RL ad n) EE=K2;simp only[aA,bO,am,aj,aa,ac,ae,Mb,dt];refine⟨rfl,bH ok ?_⟩;have X:vN N (.lst<|yW r)=cb (aO r):=by cases r<;>rfl
  simp only[X];cases w:aO r with
  |true=>
   show K1 D2 _ N;rw[<- G];unfold jS;simp only[bf,fJ,am,aj,aa,ac,ak,av,ae,aw,aC,I,cu,B,Mb,dt];refine⟨trivial,aQ (by simp),ca (by lia) ⟨rfl,au λQ2 E2 C H=>ih r o _ N Q2 E2 TY m TZ ok h w s hn hc (by simp;lia) (λl R q J=>C _ _ (gG J ?_)) λe=>H _ _ (h2 e)⟩⟩
   have Z:=oF r o _ _ R;simp only[cI,B,cX];refine⟨aQ (by simp only[Md];lia),?_⟩
   rw[<- Nx];exact S l R
  |false=>
   obtain⟨s1,_⟩:=rD (pl:=pl++[(g.length:Int)]) ok h w;show K2 D2 _ N;rw[<- F];unfold jQ;simp only[bf,fJ,aa,ac,ak,av,ae,aw,aC,I,cu,B,Mb,dt];refine⟨trivial,aQ (by simp),ca (by lia) ⟨aQ (by simp),?_⟩⟩
   simp only[bp,B];refine⟨eI (by simp only[Md];lia),?_⟩
   have:=S _ (s1 s);rw[Nx]at this;exact this
 .cases w:aO r with
  |true=>exact HU w s
  |false=>exact(rD ok h w).2 s
theorem BS(ih:PWi ad n):PPa ad (n+1):=by
 intro rs os pl M Q E TY m TZ ok C hn hc hl h1 h2;rw[Ke (n:=n)];unfold xF;generalize J:ku ad (RH ad n) (RL ad n) (az E)=K5;simp only[al,aA,ao,ak,bn,aa,ac,ae,bF,aC,bi,ji,dv,aH,bN,Mb,dt];refine⟨trivial,trivial,?_⟩
 by_cases c:((rs.length:Nat):Int)=(os.length:Nat)
 .rw[decide_eq_true c,Nc,if_neg (by simp)]
  unfold ay;dsimp only;simp only[al,ap];refine⟨aQ (by simp),λp Y=>?_⟩
  simp only[af,Mu];rw[<- J];unfold ku;simp only[al,bU,e_,aa,ac,ae,aC,bu,cC,Mb,dt]
  refine bt (λxs U N=>∃(g s h:List Rw)(T6:List Tr)(F R:Option D),xs=bA s.length (ah g)/\os=s++h/\g.length=h.length/\aJ TY m TZ g/\aJ TY m TZ h/\2*bd g+1<=n+1/\T6.length+cRs g<=1000/\pl.length+2*bd g+1<=900/\U=[cb (.tup<|ah rs),cb (.tup<|ah os),cb (tupD pl),cb (.ref p),F,R]/\N=M.upd p (.lst<|T6.map Ew)/\
   (∀l,cE pl s.length g h=cb l->cE pl 0 rs os=cb (T6++l))/\(cE pl s.length g h=ed->cE pl 0 rs os=ed)) (λ_ _ _ _=>aI) ?_ ?_ _ _ _ ⟨rs,[],os,[],ed,ed,rfl,rfl,by lia,ok,C,by lia,by simpa using hc,by lia,rfl,rfl,λl e=>by simpa using e,λe=>e⟩
  .rintro U N ⟨g,s,h,T6,F,R,A,e2,B,I,O,b1,X,Z,rfl,rfl,G,g2⟩
   have:g=[]:=by cases g with|nil=>rfl|cons _ _=>simp[ah,bA]at A
   subst this;have:h=[]:=List.length_eq_zero_iff.mp (by simpa using B.symm)
   subst this;have:=G [] rfl;rw[Mx]at this;exact aq (h1 T6 this p Y)
  .rintro x xs U N ⟨g,s,h,T6,F,R,A,e2,B,I,O,b1,X,Z,rfl,rfl,G,g2⟩ D' H _ _ _
   cases g with
   |nil=>simp[ah,bA]at A
   |cons r g=>
    cases h with
    |nil=>simp at B
    |cons o h=>
     simp only[ah,bA,My]at A;obtain⟨rfl,rfl⟩:=A;simp only[bd,cRs]at b1 X Z;have q1:2*max (hR r) (bd g)=max (2*hR r) (2*bd g):=by lia
     simp only[bQ,aG,bR,af,Mu,Mc,Mv];subst e2;refine⟨trivial,BD ih I.1 O.1 (by lia) (by lia) (by lia) (by lia) Mem.upd_same (λl S=>?_) λe=>?_⟩
     .rw[Mem.upd_upd]
      have le:=oF r o _ _ S;refine H _ _ ⟨g,s++[o],h,T6++l,_,_,by simp,by simp,by simpa using B,I.2,O.2,by lia,by simp;lia,by lia,rfl,rfl,λl2 u=>?_,λe=>?_⟩
      .have:cE pl s.length (r::g) (o::h)=cb (l++l2):=by
        simp only[Mg,Mc,Mv]at u;simp only[cE,S,u]
       rw[G _ this,MG]
      .apply g2
       simp only[Mg,Mc,Mv]at e;simp only[cE,S,e]
     .refine⟨M,λb ob z=>by rw[ai (λw=>by rw[w,Y]at z;cases z)];exact z,h2<|g2 ?_⟩
      simp only[cE,e]
 .rw[decide_eq_false c,PH,if_pos rfl]
  unfold eQ;refine cD (h2 ?_);cases e:cE pl 0 rs os with
  |none=>rfl
  |some l=>
   have:=eD rs os pl 0;rw[e]at this;have:=dW this.symm;lia
end
section
noncomputable def EV(r:Rw):List D:=if fG r=true then [.int 1,.int 0] else [.int 0]
theorem fY{s:BxQ EE λd M'=>frz d M' Q}(ok:bX TY m TZ r)(h:Q (.lst<|EV r) M):calls (sY ad) EE [r.d] M (λd M'=>frz d M' Q) s:=
 au λQ' E' g _=>by
  have l:=nO ok;rw[KQ];unfold w8;rw[fE];simp only[ax,qh,ao,ak,ac,dC,aw,aC,atI_0,ci,dv,aH,bN,Mb,dt];rw[l];refine⟨trivial,trivial,?_⟩;unfold EV at h;cases c:fG r with
  |true=>
   rw[c,if_pos rfl]at h;exact⟨aQ (by simp),λp e=>aq (g _ _<|gG e h)⟩
  |false=>
   rw[c,if_neg (by simp)]at h
   exact⟨aQ (by simp),λp e=>aq (g _ _<|gG e h)⟩
theorem qA(I:PPa ad n){B A:D}{T6:List Tr}(ok:aJ TY m TZ a)(s:aJ TY m TZ a')(J:2*bd a+1<=n)(G:cRs a<=1000)(O:pl.length+1+2*bd a+1<=900)(R:T6.length<=100000)(w:N p=cb (.lst<|T6.map Ew))(H:∀l,cE (pl++[i]) 0 a a'=cb l->D2.nx [cb B,cb A,cb (tupD pl),cb (.ref p),cb (.int i),cb (.tup<|ah a),cb (.tup<|ah a')] (N.upd p<|.lst<|(T6++l).map Ew))(h2:cE (pl++[i]) 0 a a'=ed->EE ad.C_NoBuild N):
  mq ad (RH ad n) (RL ad n) EE D2 [cb B,cb A,cb (tupD pl),cb (.ref p),cb (.int i),cb (.tup<|ah a),cb (.tup<|ah a')] N:=by
 unfold mq;simp only[bf,fJ,am,aj,aa,ac,ak,av,ae,cu,w,Mb,dt];refine⟨trivial,aQ (by simp),ca (by lia) ⟨rfl,au λQ2 E2 g h=>I a a' _ N Q2 E2 TY m TZ ok s J G (by simp;lia) (λl u q C=>g _ _ (gG C ?_)) λe=>h _ _ (h2 e)⟩⟩
 have F:=dj a a' _ _ _ u;simp only[cI,w,cX];refine⟨aQ (by simp only[Md];lia),?_⟩
 rw[<- Nx];exact H l u
theorem DZ(F:PPa ad n):PWi ad (n+1):=by
 intro r o pl M Q E TY m TZ ok g I u J O H R Y;rw[u_q6 (n:=n)];unfold DF ub;generalize A:mq ad (RH ad n) (RL ad n) (az E)=K1;simp only[al,ap];refine⟨aQ (by simp),λp B=>?_⟩
 simp only[af,Mu,bU,rK,aa,am,aj,ac,ae,Mb,dt];refine⟨rfl,fY ok ⟨rfl,bH ok ⟨rfl,bH g ?_⟩⟩⟩;simp only[aC,bu,Mx];have s:∀{l:List D},eV pl r o=ed->az E ad.C_NoBuild (M.upd p<|.lst l):=λe=>⟨M,λb ob z=>by rw[ai (λw=>by rw[w,B]at z;cases z)];exact z,Y e⟩
 simp only[ph,MA]at u;have u:=u.2;rw[I,Bool.true_or,Nc,PZ,MA]at u;have G:=of_decide_eq_true u.1;have S:=of_decide_eq_true u.2;cases r with
 |ifr x a b=>
  have i2:=nO g;rw[<- G,decide_eq_true (show dB (.ifr x a b)="if" from rfl)]at i2;cases o with
  |ifr y a' b'=>
   have:x=y:=S;subst this;simp only[hR,cR]at J O H;simp only[yW,EV,fG,if_true,cN];refine⟨aI,?_⟩;simp only[bQ,aG,bR,af,Mu,Mc,Mv];refine⟨trivial,?_⟩;rw[<- A];refine qA F (T6:=[]) ok.2.1 g.2.1 (by lia) (by lia) (by lia) (by simp) Mem.upd_same (λX h=>⟨aI,?_⟩) λe=>s (by simp only[eV,e,if_true])
   simp only[bQ,aG,bR,af,Mu,Mc,Mv];have q1:=dj a a' _ _ _ h;refine⟨trivial,qA F ok.2.2 g.2.2 (by lia) (by lia) (by lia) (by simp;lia) Mem.upd_same (λZ C=>⟨aI,?_⟩) λe=>?_⟩
   .rw[Mem.upd_upd,Mem.upd_upd]
    exact aq (R _ (by simp only[eV,h,C,if_true,NR]) p B)
   .rw[Mem.upd_upd]
    exact s (by simp only[eV,e,h,if_true])
  |_=>simp[fG]at i2
 |again x a=>
  have i2:=rE g;rw[<- G,decide_eq_true (show dB (.again x a)="again" from rfl)]at i2;cases o with
  |again y a'=>
   have:x=y:=S;subst this;simp only[hR,cR]at J O H;simp only[yW,EV,fG,Mr,if_false,cN];refine⟨aI,?_⟩;simp only[bQ,aG,bR,af,Mu,Mc,Mv];refine⟨trivial,?_⟩;rw[<- A];refine qA F (T6:=[]) ok.2 g.2 (by lia) (by lia) (by lia) (by simp) Mem.upd_same (λX h=>⟨aI,?_⟩) λe=>s (by simp only[eV,e,if_true])
   rw[Mem.upd_upd];exact aq (R _ (by simp only[eV,h,if_true,NR]) p B)
  |_=>simp[nc]at i2
 |_=>cases I
theorem uE:∀n:Nat,PPa ad n/\PWi ad n
 |0=>⟨λ_ _ _ _ _ _ _ _ _ _ _ h=>by lia,λr _ _ _ _ _ _ _ _ _ _ e _ h=>by
   cases r with
   |ifr x a b=>simp only[hR]at h;lia
   |again x a=>simp only[hR]at h;lia
   |_=>cases e⟩
 |n+1=>⟨BS (uE n).2,DZ (uE n).1⟩
end
theorem qZ:∀(n:Nat)(l:Uh),fits n (l.map D.str)=true
 |n,[]=>by simp[fits]
 |n,x::l=>by simp[fits,bN,qZ n l]
mutual
theorem Ca:∀(r o:Rw)(pl:Ug),pl≠[]->∀x∈bz pl r o,x≠[]
 |.ifr _ a b,o,pl,h=>by
  have e:=dY a;have g:=dY b;cases o with
  |ifr y a' b'=>
   intro x hx;simp only[bz,Ms]at hx;rcases hx with hx|hx
   .exact g _ _ _ x hx
   .exact e _ _ _ x hx
  |_=>intro x hx;cases hx
 |.again _ a,o,pl,h=>by
  have e:=dY a;cases o with
  |again y a'=>
   intro x hx;exact e _ _ _ x hx
  |_=>intro x hx;cases hx
 |.put _ _,o,pl,h=>by intro x hx;simp only[bz]at hx;split at hx<;>simp at hx;rw[hx];exact h
 |.take _ _,o,pl,h=>by intro x hx;simp only[bz]at hx;split at hx<;>simp at hx;rw[hx];exact h
 |.pick _ _,o,pl,h=>by intro x hx;simp only[bz]at hx;split at hx<;>simp at hx;rw[hx];exact h
 |.two _ _ _ _,o,pl,h=>by intro x hx;simp only[bz]at hx;split at hx<;>simp at hx;rw[hx];exact h
theorem dY:∀(rs os:List Rw)(pl:Ug)(j:Nat),∀x∈aX pl j rs os,x≠[]
 |[],os,pl,j=>by intro x hx;cases hx
 |r::rs,os,pl,j=>by
  cases os with
  |nil=>intro x hx;cases hx
  |cons o os=>
   intro x hx;simp only[aX,Ms]at hx;rcases hx with hx|hx
   .exact Ca r o _ (by simp) x hx
   .exact dY rs os _ _ x hx
end
mutual
theorem Gm:∀(r o:Rw)(pl:Ug)(l:List Tr),eV pl r o=cb l->∀t∈l,aO t.2.1=eH/\aO t.2.2=eH
 |.ifr x a b,o,pl,l,h=>by
  have e:=gK a;have g:=gK b;cases o with
  |ifr y a' b'=>
   simp only[eV]at h
   split at h
   .split at h
    .rename_i u A
     cases h;intro t s;rcases Ms.mp s with z|z
     .exact e _ _ _ _ u t z
     .exact g _ _ _ _ A t z
    .cases h
   .cases h
  |_=>cases h
 |.again x a,o,pl,l,h=>by
  have e:=gK a;cases o with
  |again y a'=>
   simp only[eV]at h
   split at h
   .exact e _ _ _ _ h
   .cases h
  |_=>cases h
 |.put x k,o,pl,l,h=>by cases o<;>cases h<;>simp[aO]
 |.take x k,o,pl,l,h=>by cases o<;>cases h<;>simp[aO]
 |.pick x k,o,pl,l,h=>by cases o<;>cases h
 |.two w x y z,o,pl,l,h=>by cases o<;>cases h<;>simp[aO]
theorem gK:∀(rs os:List Rw)(pl:Ug)(j:Nat)(l:List Tr),cE pl j rs os=cb l->∀t∈l,aO t.2.1=eH/\aO t.2.2=eH
 |[],os,pl,j,l,h=>by
  cases os with
  |nil=>cases h;simp
  |cons _ _=>cases h
 |r::rs,os,pl,j,l,h=>by
  cases os with
  |nil=>cases h
  |cons o os=>
   simp only[cE]at h
   split at h
   .rename_i e s
    cases h;intro t g;rcases Ms.mp g with z|z
    .exact Gm r o _ _ e t z
    .exact gK rs os _ _ _ s t z
   .cases h
end
theorem yI{a b:Uf}(h:a.Perm b):Bz fc a=Bz fc b:=B9 fc (qy fc a) ((bV fc a).trans h)
theorem iK:∀ks:List (List Int),nP (ks.map tupD)=cb ks
 |[]=>rfl
 |k::ks=>by
  have h:∀k:List Int,dh (k.map D.int)=cb k:=λk=>by
   induction k with
   |nil=>rfl
   |cons a k ih=>simp[dh,ih]
  rw[Mo];simp only[tupD,nP,h];rw[iK ks]
theorem pB(h:aO r=eH):bN 60 r.d=true:=by cases r<;>first|rfl|cases h
theorem Lk(r:Rw):dv M r.d=r.d:=by cases r<;>rfl
noncomputable def qH(rs os:List Rw):List D:=(Bz fc<|aX [] 0 rs os).map tupD
section
variable{m' Ue:Int}{mk':Str}
theorem IR{a b a' b':Int}{l g:Uh}:cG [.int a,.tup (l.map D.str),.int b] [.int a',.tup (g.map D.str),.int b']=decide (a=a'/\l=g/\b=b'):=by
 have e:∀l g:List Str,cG (l.map D.str) (g.map D.str)=decide (l=g):=λl=>by
  induction l with
  |nil=>intro g;cases g<;>rfl
  |cons x l ih=>intro g;cases g with
   |nil=>rfl
   |cons y g=>simp only[Mo,cG,aH,ih,My,Qr]
 simp only[cG,aH,e,OJ,Qr]
theorem Dw{A:aB}{e:Option D}(s:¬((m=m'/\TY=Ud/\TZ=Ue)/\mk=mk')->A D0 [cb (aW m TZ TY rs mk),cb (aW m' Ue Ud os mk'),e] M)(h2:(m=m'/\TY=Ud/\TZ=Ue)->mk=mk'->D0.nx [cb (aW m TZ TY rs mk),cb (aW m' Ue Ud os mk'),e] M):
  aA (jw (ao<|ak ji (am<|eM (ac 0) aD<|aY<|dC<|.int 3)<|am<|eM (ac 1) aD<|aY<|dC<|.int 3)<|ao<|ak ji (ak aw (ac 0)<|dC<|.int 4)<|ak aw (ac 1)<|dC<|.int 4) A ay D0 [cb (aW m TZ TY rs mk),cb (aW m' Ue Ud os mk'),e] M:=by
 have w:∀(a b c:D)(l:List D),dz (a::b::c::l) ed (cb 3)=[a,b,c]:=λa b c l=>dG (k:=3);have h:∀(l:Uh)(a b:Int),bN 60 (.tup [.int a,.tup (l.map D.str),.int b])=true:=λl a b=>by simp[bN,fits,qZ]
 simp only[aA,jw,ao,ak,am,eM,ac,aD,aY,dC,tu,aW,w,frz,ji,dv,Mb,dt];refine⟨h _ _ _,h _ _ _,?_⟩;have u:aH (.tup [.int m,.tup (TY.map D.str),.int TZ]) (.tup [.int m',.tup (Ud.map D.str),.int Ue])=decide (m=m'/\TY=Ud/\TZ=Ue):=by rw[<- IR];rfl
 rw[u]
 by_cases c:m=m'/\TY=Ud/\TZ=Ue
 .rw[decide_eq_true c]
  simp only[Nc,Mr,if_false,aw,aC,atI_4,Mb,dt,ji,dv,bN,aH];refine⟨trivial,trivial,?_⟩;show if (!decide (mk=mk'))=true then A D0 [cb (aW m TZ TY rs mk),cb (aW m' Ue Ud os mk'),e] M else D0.nx [cb (aW m TZ TY rs mk),cb (aW m' Ue Ud os mk'),e] M
  by_cases g:mk=mk'
  .rw[if_neg (by rw[decide_eq_true g];simp)]
   exact h2 c g
  .rw[if_pos (by rw[decide_eq_false g];rfl)]
   exact s λz=>g z.2
 .rw[decide_eq_false c]
  exact s λz=>c z.1
theorem iU(ok:aJ TY m TZ rs)(X:aJ TY m TZ os)(hh:bd rs<=10)(hc:cRs rs<=63)(h1:bw rs os=true->∀p,M p=ed->Q (.ref p) (M.upd p<|.lst<|qH rs os))(h2:bw rs os=eH->E ad.C_NoBuild M):sS ad [aW m TZ TY rs mk,aW m TZ TY os mk] M Q E:=by
 rw[Lp];unfold wG;refine Dw (λz=>absurd ⟨⟨rfl,rfl,rfl⟩,rfl⟩ z) λ_ _=>?_;dsimp only;have pa:=(uE (ad:=ad) 24).1 rs os [] M;unfold o_;generalize hK:kf ad (az E)=K;simp only[al,ap,am,aj,aa,ak,ac,dC,av,ae,aw,aW,aC,atI_3,Mb,dt];refine⟨aQ (by simp),rfl,au λQ' E' hq hE=>pa Q' E' TY m TZ ok X (by lia) (by lia) (by simp;lia) (λl F p w=>hq _ _ (gG w ?_)) λe=>hE _ _ ?_⟩
 .have eo:bw rs os=true:=by rw[<- eD rs os [] 0,F];rfl
  have O:=gK _ _ _ _ _ F;have hle:=dj _ _ _ _ _ F;have A:=fM _ _ _ _ _ F;simp only[af,Mu];rw[<- hK];unfold kf;simp only[ax,bn,aa,am,ae,b6,cj,ac,aC,bu,Mb,dt];refine aV (λS T6 U M'=>∃(g h:List Tr)(C H G:Option D),l=g++h/\S=h.map Ew/\T6=(p4 g).map tupD/\U=[C,H,G]/\M=M') (λ_ _ _ _ _=>aI) ?_ ?_ ?_ _ _ _ _ ⟨[],l,ed,ed,ed,rfl,rfl,rfl,rfl,rfl⟩
  .rintro T6 U M' ⟨g,h,C,H,G,s,u,rfl,rfl,rfl⟩ p w
   have ez:h=[]:=by simpa using u.symm
   subst ez;rw[Mx]at s;subst s;refine gG w ?_;simp only[dR,cX,iK];have B:(p4 l).length<=l.length:=by simp only[p4,Md];exact Np ..
   refine⟨by lia,λk Z=>dY _ _ _ _ k (A.mem_iff.mp Z),λp w=>?_⟩
   rw[yI A];exact aq (h1 eo p w)
  .rintro y S T6 U M' ⟨g,h,C,H,G,s,u,rfl,rfl,rfl⟩ N R I
   cases h with
   |nil=>simp at u
   |cons z h=>
    simp only[Mo,My]at u;obtain⟨rfl,rfl⟩:=u;have Y:=O z (by rw[s];simp)
    have J:=congrArg MN s;simp only[Mg,Mc]at J;have B:(p4 g).length<=g.length:=by simp only[p4,Md];exact Np ..
    simp only[Ew,bQ,aG,bR,af,Mu,ao,ak,ac,ji,Lk,Mc,Mv,Mb,dt];refine⟨trivial,pB Y.1,pB Y.2,?_⟩;have en:(!aH z.2.1.d z.2.2.d)=tV z.2.1 z.2.2:=rfl;rw[en];cases c:tV z.2.1 z.2.2 with
    |true=>exact R _ _ _ (by simp;exact eI (by lia)) ⟨g++[z],h,_,_,_,by rw[s];simp,rfl,by simp[p4,c],rfl,rfl⟩
    |false=>exact I _ _ _ ⟨g++[z],h,_,_,_,by rw[s];simp,rfl,by simp[p4,c],rfl,rfl⟩
  .rintro y S T6 U M' ⟨g,h,C,H,G,s,u,rfl,rfl,rfl⟩
   have J:=congrArg MN s;simp only[Mg]at J;have B:(p4 g).length<=g.length:=by simp only[p4,Md];exact Np ..
   simp;exact eI (by lia)
 .refine cD (h2 ?_)
  rw[<- eD rs os [] 0];exact Option.not_isSome_iff_eq_none.mpr e |> Bool.eq_false_iff.mpr
end
theorem jO{d:D}{o:MO}(g:M p=ed)(h:Q d M):drp Q d (M.upd p o):=
 ⟨M,λb u e=>by rw[ai (λz=>by rw[z,g]at e;cases e)];exact e,h⟩
noncomputable def Kt:Rw->Rw
 |.pick x _=>.take x 0
 |r=>r
mutual
noncomputable def rZ:Rw->Rw
 |.ifr x a b=>.ifr x (cK a) (cK b)
 |.again x a=>.again x (cK a)
 |.pick x _=>.take x 0
 |r=>r
noncomputable def cK:List Rw->List Rw
 |[]=>[]
 |r::rs=>rZ r::cK rs
end
theorem rS:∀{a b:List Rw},cK (a++b)=cK a++cK b
 |[],_=>rfl
 |r::a,b=>by simp only[Nk,cK,rS]
theorem A3:∀{a:List Rw},(cK a).length=a.length
 |[]=>rfl
 |r::a=>by simp only[cK,Mc,A3]
theorem ii:∀{rs:List Rw},rs.length<=cRs rs
 |[]=>by simp
 |r::rs=>by
  have:=ii (rs:=rs);have:1<=cR r:=by cases r<;>simp[cR]<;>lia
  simp only[Mc,cRs];lia
noncomputable def ES:Rw->List (List Rw)
 |.ifr _ a b=>[a,b]
 |.again _ a=>[a]
 |_=>[]
theorem LR(h:aO r=true):FP r=(ES r).map λa=>D.tup (ah a):=by cases r<;>first|rfl|cases h
section
theorem z_(ok:bX TY m TZ r)(h:K (.bl<|aO r) M):qO (.str<|dB r) (.lst [.str (Mq "if"),.str (Mq "again")]) M K:=by
 have l:=nO ok;have g:=rE ok;have e:iQ M (.str<|dB r) (.lst [.str (Mq "if"),.str (Mq "again")])=cb (aO r):=by
  have s:decide (Mq "if"=dB r)=fG r:=by rw[<- l];exact decide_eq_decide.mpr eq_comm
  have u:decide (Mq "again"=dB r)=nc r:=by rw[<- g];exact decide_eq_decide.mpr eq_comm
  simp only[iQ,aC,dv,bN,fits,aH,ND,List.any_nil,s,u,OJ,and_self,if_true,QS];cases r<;>rfl
 simp only[qO,e];exact h
def Kv(ad:Ad)(n:Nat):Prop:=∀(rs:List Rw)(M:Mem)(Q:DK)(E:DX)(TY:Uh)(m TZ:Int),aJ TY m TZ rs->bd rs+1<=n->cRs rs<=1000->Q (.tup<|ah<|cK rs) M->RP ad n [.tup (ah rs)] M Q E
theorem np_e(R:Kv ad n){w:Str}{ps:List (List Rw)}(h2:U[2]?=cb (cb<|.tup (.str w::.str x::ps.map λa=>D.tup (ah a))))(G:∀a∈ps,aJ TY m TZ a/\bd a+1<=n/\cRs a<=1000)(S:ps.length<=10)(h:K (.lst (ps.map λa=>D.tup (ah<|cK a))) M):
  am (b6 (cj<|am<|eM (ac 2) (aY<|dC<|.int 2) aD) ["some"] [] (af 0) cF<|am<|aj (RP ad n) jX 1<|aa (ac 0) ae) U M K:=by
 have s:∀(a b:D)(l:List D),dz (a::b::l) (cb 2) ed=l:=λa b l=>oP (k:=2);simp only[am,b6,cj,eM,ac,aY,aD,dC,h2,tu,s,frz,aC,bu];refine aV (λF T6 U M'=>∃(A e:List (List Rw))(B:Option D),ps=A++e/\F=(e.map λa=>D.tup (ah a))/\T6=(A.map λa=>D.tup (ah<|cK a))/\U=[B]/\M=M') (λ_ _ _ _ _=>aI) ?_ ?_ ?_ _ _ _ _ ⟨[],ps,ed,rfl,rfl,rfl,rfl,rfl⟩
 .rintro T6 U M' ⟨A,e,B,g,s,rfl,rfl,rfl⟩ p I
  have O:e=[]:=by simpa using s.symm
  subst O;rw[Mx]at g;subst g;exact gG I h
 .rintro y F T6 U M' ⟨A,e,B,g,s,rfl,rfl,rfl⟩ N hN1 H
  cases e with
  |nil=>simp at s
  |cons z e=>
   simp only[Mo,My]at s;obtain⟨rfl,rfl⟩:=s;have u:=congrArg MN g;simp only[Mg,Mc]at u;have C:=G z (by rw[g];simp)
   simp only[af,Mu,cF,if_true,aj,aa,ac,ae,dt];exact⟨rfl,au λQ' E' J _=>R z M Q' E' TY m TZ C.1 C.2.1 C.2.2 (J _ _<|hN1 _ _ _ (by simp;exact eI (by lia)) ⟨A++[z],e,_,by rw[g];simp,rfl,by simp,rfl,rfl⟩)⟩
 .rintro y F T6 U M' ⟨A,e,B,g,s,rfl,rfl,rfl⟩
  have u:=congrArg MN g;simp only[Mg]at u;simp;exact eI (by lia)
theorem zQ{T:Sd}{g:D}(ok:decide (dB r="pick")=bT r)(C:T6.length<=1000)(A:N p=cb (.lst<|ah T6))(h:∀w,D2.nx [cb g,cb (.ref p),w] (N.upd p<|.lst<|ah (T6++[Kt r]))):
  mH ad T EE D2 [cb g,cb (.ref p),cb r.d] N:=by
 have s:∀q:Rw,q=Kt r->bf (fJ "list" bp (ac 1)<|aa (ac 2) ae) D2 [cb g,cb (.ref p),cb q.d] N:=λq e=>by
  subst e;simp only[bf,fJ,aa,ac,ae,cu,A,bp,Mb,dt];refine⟨trivial,eI (by rw[bi];lia),?_⟩
  have:=h (cb (Kt r).d);rw[aZ]at this;exact this
 unfold mH;generalize B:bf (fJ "list" bp (ac 1)<|aa (ac 2) ae)=G at s ⊢;generalize u:oJ ad T EE=K;have l:bT r=eH->G D2 [cb g,cb (.ref p),cb r.d] N:=λe=>s r (by cases r<;>first|rfl|cases e)
 rw[fE]at l ⊢;simp only[al,aA,ao,ak,ac,dC,aw,aC,atI_0,ci,dv,aH,bN,Mb,dt];rw[ok];refine⟨trivial,trivial,?_⟩;cases r with
 |pick x y=>
  show K _ _ N;rw[<- u];unfold oJ;simp only[dB,qM,ap,av,aa,dC,ak,ac,ae,aw,aC,atI_1,af,Mu,Mb,dt];exact⟨aQ (by simp),s (.take x 0) rfl⟩
 |_=>exact l rfl
theorem E7(ih:Kv ad n){g:D}(ok:bX TY m TZ r)(H:hR r<=n)(F:cR r<=1000)(s:T6.length<=1000)(G:N p=cb (.lst<|ah T6))(h:∀Y,D2.nx [cb g,cb (.ref p),Y] (N.upd p<|.lst<|ah (T6++[rZ r]))):
  lE ad (RP ad n) EE D2 [cb g,cb (.ref p),cb r.d] N:=by
 unfold lE;generalize u:mH ad (RP ad n) EE=K3;generalize A:qj ad (RP ad n) EE=K1;have C:aO r=eH->K3 D2 [cb g,cb (.ref p),cb r.d] N:=λe=>by
  rw[<- u];refine zQ (xj ok) s G ?_;have:Kt r=rZ r:=by cases r<;>first|rfl|cases e
  rw[this];exact h
 have bl:aO r=true->K1 { D2 with nx:=K3 D2 } [cb g,cb (.ref p),cb r.d] N:=λe=>by
  rw[<- A];unfold qj;have B:∀a∈ES r,aJ TY m TZ a/\bd a+1<=n/\cRs a<=1000:=λa s=>by
   cases r with
   |ifr x a b=>
    simp only[hR,cR]at H F;simp only[ES,Mm,MV,or_false]at s;rcases s with rfl|rfl
    .exact⟨ok.2.1,by lia,by lia⟩
    .exact⟨ok.2.2,by lia,by lia⟩
   |again x a=>
    simp only[hR,cR]at H F;simp only[ES,Mm,MV,or_false]at s;subst s;exact⟨ok.2,by lia,by lia⟩
   |_=>cases e
  have R:(ES r).length<=2:=by cases r<;>simp[ES]
  have w:∀K:DK,_->_:=λK I=>np_e (K:=K) (M:=N) (U:=[cb g,cb (.ref p),cb (.tup (.str (dB r)::.str (qM r)::(ES r).map λa=>D.tup (ah a)))]) ih rfl B (by lia) I
  rw[fE,LR e];generalize (am<|b6 (cj<|am<|eM (ac 2) (aY<|dC<|.int 2) aD) ["some"] [] (af 0) cF<|am<|aj (RP ad n) jX 1<|aa (ac 0) ae)=Z at w ⊢;have X:∀(a b:D)(l:List D),dz (a::b::l) ed (cb 2)=[a,b]:=λa b l=>dG (k:=2);simp only[ap,am,ak,eM,ac,aD,aY,dC,tu,X,frz,bn,aa,Mb,dt];refine w _ ?_;simp only[ae,bW,cX,aF];refine⟨aQ (by simp;lia),?_⟩
  simp only[frz,af,Mu];rw[<- u];have J:D.tup ([D.str (dB r),.str (qM r)]++(ES r).map λa=>D.tup (ah<|cK a))=(rZ r).d:=by cases r<;>first|rfl|cases e
  rw[J];refine zQ ?_ s G ?_
  .cases r<;>first|rfl|cases e
  .have:Kt (rZ r)=rZ r:=by cases r<;>first|rfl|cases e
   rw[this];exact h
 have O:=fE r;rw[O]at C bl ⊢;simp only[al,aA,ao,ak,ac,dC,aw,aC,atI_0,am,br,aa,ae,Mb,dt];refine⟨aQ (by simp),λq S=>gG S (z_ ok ?_)⟩
 cases c:aO r with
 |true=>exact bl c
 |false=>exact C c
theorem EC(J:Kv ad n):Kv ad (n+1):=by
 intro rs M Q E TY m TZ ok G I h;rw[u_q7 (n:=n)];unfold E1 ve;generalize u:lE ad (RP ad n) (az E)=K4;simp only[al,ap];refine⟨aQ (by simp),λp F=>?_⟩
 simp only[af,Mu,bU,cj,ac,aC,bu,Mb,dt];refine bt (λB U N=>∃(g e:List Rw)(A:Option D),rs=g++e/\B=ah e/\U=[cb (.tup<|ah rs),cb (.ref p),A]/\N=M.upd p (.lst<|ah<|cK g)) (λ_ _ _ _=>aI) ?_ ?_ _ _ _ ⟨[],rs,ed,rfl,rfl,rfl,rfl⟩
 .rintro U N ⟨g,e,A,s,l,rfl,rfl⟩
  have H:e=[]:=by cases e with|nil=>rfl|cons _ _=>simp[ah]at l
  subst H;rw[Mx]at s;subst s;simp only[ax,bn,aa,ac,ae,bW,cX,Mem.upd_same,Mb,dt];exact jO F h
 .rintro x B U N ⟨g,e,A,s,l,rfl,rfl⟩ D' w _ _ _
  cases e with
  |nil=>simp[ah]at l
  |cons z e=>
   simp only[ah,My]at l;obtain⟨rfl,rfl⟩:=l;have C:=ii (rs:=rs);subst s;rw[OkRs_append]at ok;simp only[bg,bd]at G;simp only[aT,cRs]at I;have O:(cK g).length=g.length:=A3;simp only[aT,cRs,Mg,Mc]at C;simp only[af,Mu];rw[<- u];refine E7 J ok.2.1 (by lia) (by lia) (by lia) Mem.upd_same λc=>?_
   rw[Mem.upd_upd];exact w _ _ ⟨g++[z],e,c,by simp,rfl,rfl,by rw[rS];rfl⟩
theorem tE:∀n:Nat,Kv ad n
 |0=>λ_ _ _ _ _ _ _ _ h=>by lia
 |n+1=>EC (tE n)
end
mutual
def pA:Rw->Prop
 |.ifr _ a b=>dm a/\dm b
 |.again _ a=>dm a
 |.pick _ _=>False
 |_=>True
def dm:List Rw->Prop
 |[]=>True
 |r::rs=>pA r/\dm rs
end
theorem noPks_app:∀{a b:List Rw},dm (a++b)↔dm a/\dm b
 |[],b=>by simp[dm]
 |r::a,b=>by simp only[Nk,dm,noPks_app,and_assoc]
mutual
theorem om{TY:Uh}{m TZ:Int}:∀r:Rw,bX TY m TZ r->bX TY m TZ (rZ r)/\pA (rZ r)/\hR (rZ r)=hR r/\cR (rZ r)=cR r
 |.ifr x a b,ok=>by
  have e:=dg a ok.2.1;have g:=dg b ok.2.2;exact⟨⟨ok.1,e.1,g.1⟩,⟨e.2.1,g.2.1⟩,by simp only[rZ,hR,e.2.2.1,g.2.2.1],by simp only[rZ,cR,e.2.2.2,g.2.2.2]⟩
 |.again x a,ok=>by
  have e:=dg a ok.2;exact⟨⟨ok.1,e.1⟩,e.2.1,by simp only[rZ,hR,e.2.2.1],by simp only[rZ,cR,e.2.2.2]⟩
 |.pick x k,ok=>by
  obtain⟨e,g,h⟩:=(show dQ TY m TZ (.pick x k) from ok);exact⟨⟨e,by lia,h⟩,trivial,rfl,rfl⟩
 |.put x k,ok=>⟨ok,trivial,rfl,rfl⟩
 |.take x k,ok=>⟨ok,trivial,rfl,rfl⟩
 |.two w x y z,ok=>⟨ok,trivial,rfl,rfl⟩
theorem dg{TY:Uh}{m TZ:Int}:∀rs:List Rw,aJ TY m TZ rs->aJ TY m TZ (cK rs)/\dm (cK rs)/\bd (cK rs)=bd rs/\cRs (cK rs)=cRs rs
 |[],_=>⟨trivial,trivial,rfl,rfl⟩
 |r::rs,ok=>by
  have e:=om r ok.1;have g:=dg rs ok.2;exact⟨⟨e.1,g.1⟩,⟨e.2.1,g.2.1⟩,by simp only[cK,bd,e.2.2.1,g.2.2.1],by simp only[cK,cRs,e.2.2.2,g.2.2.2]⟩
end
theorem Cd(e:aO r=eH)(h2:aO o=eH):tV r o=tV o r:=by
 cases r<;>first|cases e|skip
 all_goals cases o<;>first|cases h2|skip
 all_goals simp only[tV,Rw.d,aH,cG,eq_comm]
theorem lF(e:aO r=eH):tV r r=false:=by
 cases r<;>first|cases e|skip
 all_goals simp[tV,Rw.d,aH,cG]
theorem aU(h:aO r=eH):bz pl r o=if tV r o=true then [pl] else []:=by cases r<;>first|rfl|cases h
theorem zq(h:aO r=eH):ff r o=!(bT r||bT o||aO o):=by cases r<;>first|rfl|cases h
mutual
theorem x6:∀(r:Rw)(pl:Ug),pA r->ff r r=true/\bz pl r r=[]
 |.ifr x a b,pl,h=>by
  simp[ff,bz,(fu a (pl++[1]) 0 h.1).1,(fu a (pl++[1]) 0 h.1).2,(fu b (pl++[0]) 0 h.2).1,(fu b (pl++[0]) 0 h.2).2]
 |.again x a,pl,h=>by
  simp[ff,bz,(fu a (pl++[0]) 0 h).1,(fu a (pl++[0]) 0 h).2]
 |.put x k,pl,h=>by rw[aU rfl,lF rfl];exact⟨rfl,rfl⟩
 |.take x k,pl,h=>by rw[aU rfl,lF rfl];exact⟨rfl,rfl⟩
 |.pick x k,pl,h=>h.elim
 |.two w x y z,pl,h=>by rw[aU rfl,lF rfl];exact⟨rfl,rfl⟩
theorem fu:∀(rs:List Rw)(pl:Ug)(j:Nat),dm rs->bw rs rs=true/\aX pl j rs rs=[]
 |[],pl,j,h=>⟨rfl,rfl⟩
 |r::rs,pl,j,h=>by
  simp[bw,aX,(x6 r (pl++[(j:Int)]) h.1).1,(x6 r (pl++[(j:Int)]) h.1).2,(fu rs pl (j+1) h.2).1,(fu rs pl (j+1) h.2).2]
end
theorem o7{pl:Ug}:∀{a a' b b':List Rw}{j:Nat},a.length=a'.length->aX pl j (a++b) (a'++b')=aX pl j a a'++aX pl (j+a.length) b b'
 |[],[],b,b',j,_=>by simp[aX]
 |[],_::_,b,b',j,h=>by simp at h
 |_::_,[],b,b',j,h=>by simp at h
 |r::a,o::a',b,b',j,h=>by
  have:=o7 (pl:=pl) (a:=a) (a':=a') (b:=b) (b':=b') (j:=j+1) (by simpa using h)
  simp only[Nk,aX,this,MG,Mc];rw[show j+1+a.length=j+(a.length+1) by lia]
theorem gD:∀{a a' b b':List Rw},a.length=a'.length->bw (a++b) (a'++b')=(bw a a'&&bw b b')
 |[],[],b,b',_=>by simp[bw]
 |[],_::_,b,b',h=>by simp at h
 |_::_,[],b,b',h=>by simp at h
 |r::a,o::a',b,b',h=>by
  have:=gD (a:=a) (a':=a') (b:=b) (b':=b') (by simpa using h)
  simp only[Nk,bw,this,Bool.and_assoc]
mutual
theorem B2:∀(r o:Rw)(pl:Ug),(bz pl r o).length<=cR r
 |.ifr x a b,o,pl=>by
  have e:=bM a;have h:=bM b;cases o with
  |ifr y a' b'=>
   have g:=e a' (pl++[1]) 0;have l:=h b' (pl++[0]) 0;simp only[bz,Mg,cR];lia
  |_=>simp[bz]
 |.again x a,o,pl=>by
  have e:=bM a;cases o with
  |again y a'=>
   have g:=e a' (pl++[0]) 0;simp only[bz,cR];lia
  |_=>simp[bz]
 |.put x k,o,pl=>by rw[aU rfl];split<;>simp[cR]
 |.take x k,o,pl=>by rw[aU rfl];split<;>simp[cR]
 |.pick x k,o,pl=>by rw[aU rfl];split<;>simp[cR]
 |.two w x y z,o,pl=>by rw[aU rfl];split<;>simp[cR]
theorem bM:∀(rs os:List Rw)(pl:Ug)(j:Nat),(aX pl j rs os).length<=cRs rs
 |[],os,pl,j=>by simp[aX]
 |r::rs,os,pl,j=>by
  cases os with
  |nil=>simp[aX]
  |cons o os=>
   have e:=B2 r o (pl++[(j:Int)]);have g:=bM rs os pl (j+1);simp only[aX,Mg,cRs];lia
end
structure Wrk(k:Pt)(wk lp:eC)(TY:Uh)(m TZ:Int)(T6:Uf)(M:Mem):Prop where
 h:Has k M
 w:∃u:Int,M wk=cb (.lst [cA TY m TZ,.ref lp,.int u])
 l:M lp=cb (.lst<|T6.map tupD)
 n1:wk≠k.p
 n2:wk≠k.q
 n3:lp≠k.p
 n4:lp≠k.q
 n5:wk≠lp
def Fw(k:Pt)(wk lp:eC)(M M':Mem):Prop:=∀b o,b≠k.p->b≠k.q->b≠wk->b≠lp->M b=cb o->M' b=cb o
theorem Fw.trans{k:Pt}{M1 M2:Mem}(a:Fw k wk lp M M1)(b:Fw k wk lp M1 M2):Fw k wk lp M M2:=λx o g l e s h=>b x o g l e s (a x o g l e s h)
structure Tn(TY:Uh)(m TZ:Int)(rs rs':List Rw):Prop where
 ok:aJ TY m TZ rs'
 np:dm rs'
 k:bw rs rs'=true
 h:bd rs'=bd rs
 c:cRs rs'=cRs rs
structure Tn1(TY:Uh)(m TZ:Int)(r r':Rw):Prop where
 ok:bX TY m TZ r'
 np:pA r'
 k:ff r r'=true
 h:hR r'=hR r
 c:cR r'=cR r
section
variable{k:Pt}{T6:Uf}
theorem Wrk.dr{M':Mem}(w:Wrk k wk lp TY m TZ T6 M)(d:Dr k M M'):Wrk k wk lp TY m TZ T6 M':=by
 obtain⟨u,e⟩:=w.w;exact⟨d.1,⟨u,by rw[d.2 _ w.n1 w.n2];exact e⟩,by rw[d.2 _ w.n3 w.n4];exact w.l,w.n1,w.n2,w.n3,w.n4,w.n5⟩
theorem Dr.fw{M':Mem}(d:Dr k M M'):Fw k wk lp M M':=λb o g h _ _ e=>by rw[d.2 b g h];exact e
theorem Wrk.upd{o:MO}(w:Wrk k wk lp TY m TZ T6 M)(g:p≠k.p)(h2:p≠k.q)(s:p≠wk)(A:p≠lp):Wrk k wk lp TY m TZ T6 (M.upd p o):=by
 obtain⟨u,e⟩:=w.w;exact⟨w.h.upd ⟨g,h2⟩,⟨u,by rw[ai (ML s)];exact e⟩,by rw[ai (ML A)];exact w.l,w.n1,w.n2,w.n3,w.n4,w.n5⟩
theorem Wrk.new(w:Wrk k wk lp TY m TZ T6 M)(g:M p=ed):p≠k.p/\p≠k.q/\p≠wk/\p≠lp:=by
 obtain⟨u,e⟩:=w.w;obtain⟨s,A⟩:=w.h.nep g;exact⟨s,A,λz=>(by rw[z,e]at g;cases g),λz=>(by rw[z,w.l]at g;cases g)⟩
def G2(ad:Ad)(k:Pt)(wk lp:eC)(TY:Uh)(m TZ:Int)(n:Nat):Prop:=∀(rs:List Rw)(pl:Ug)(T6:Uf)(M:Mem)(Q:DK)(E:DX),aJ TY m TZ rs->dm rs->bd rs+1<=n->T6.length+cRs rs<=1000->pl.length+2*bd rs+1<=900->Wrk k wk lp TY m TZ T6 M->
 (∀rs' M',Tn TY m TZ rs rs'->Wrk k wk lp TY m TZ (T6++aX pl 0 rs rs') M'->Fw k wk lp M M'->Q (.tup<|ah rs') M')->RG ad n [.ref k.p,.ref wk,.tup (ah rs),tupD pl] M Q E
def xL(D2:DEnds)(k:Pt)(wk lp:eC)(TY:Uh)(m TZ:Int)(T6:Uf)(N:Mem)(r:Rw)(hr:Ug)(rsD plD:D)(p:eC)(c5:Option D):Prop:=∀(r':Rw)(c8 c9 c10 c11:Option D)(N':Mem),Tn1 TY m TZ r r'->Wrk k wk lp TY m TZ (T6++bz hr r r') N'->Fw k wk lp N N'->D2.nx [cb (.ref k.p),cb (.ref wk),cb rsD,cb plD,cb (.ref p),c5,cb r'.d,cb (tupD hr),c8,c9,c10,c11] N'
theorem kA{B:BxQ EE λd M'=>frz d M' Q}(A:G2 ad k wk lp TY m TZ n)(ok:aJ TY m TZ rs)(s:dm rs)(F:bd rs+1<=n)(C:T6.length+cRs rs<=1000)(u:pl.length+2*bd rs+1<=900)(w:Wrk k wk lp TY m TZ T6 M)(h:∀e M',Tn TY m TZ rs e->Wrk k wk lp TY m TZ (T6++aX pl 0 rs e) M'->Fw k wk lp M M'->Q (.tup<|ah e) M'):calls (RG ad n) EE [.ref k.p,.ref wk,.tup (ah rs),tupD pl] M (λd M'=>frz d M' Q) B:=
 au λQ' E' g _=>A rs pl T6 M Q' E' ok s F C u w λe M' t l f=>g _ _ (h e M' t l f)
theorem LN(G:G2 ad k wk lp TY m TZ n){b:List Rw}{e plD:D}{F X O A u:Option D}(ok:bX TY m TZ (.ifr x a b))(np:pA (.ifr x a b))(S:hR (.ifr x a b)<=n)(Y:T6.length+cR (.ifr x a b)<=1000)(R:hr.length+2*hR (.ifr x a b)<=900)(w:Wrk k wk lp TY m TZ T6 N)(h:xL D2 k wk lp TY m TZ T6 N (.ifr x a b) hr e plD p F):mQ ad (RG ad n) EE D2 [cb (.ref k.p),cb (.ref wk),cb e,cb plD,cb (.ref p),F,cb (Rw.ifr x a b).d,cb (tupD hr),X,O,A,u] N:=by
 simp only[hR,cR]at S Y R;have i2:atI [D.str (Mq "if"),.str x,.tup (ah a),.tup (ah b)] 2=cb (.tup<|ah a):=by rw[atI_2];rfl
 have i3:atI [D.str (Mq "if"),.str x,.tup (ah a),.tup (ah b)] 3=cb (.tup<|ah b):=by rw[atI_3];rfl
 unfold mQ;generalize g:qk ad (RG ad n) EE=K2;simp only[Rw.d,al,ap,am,aj,aa,ac,ak,dC,av,ae,aw,aC,i3,Mb,dt];refine⟨aQ (by simp),ca (by lia) ⟨rfl,kA G ok.2.2 np.2 (by lia) (by lia) (by simp;lia) w λB N1 t1 I f1=>?_⟩⟩
 have Z:=bM b B (hr++[0]) 0;simp only[af,Mu];rw[<- g];unfold qk;generalize s:pk ad (RG ad n) EE=K1;simp only[al,ap,am,aj,aa,ac,ak,dC,av,ae,aw,aC,i2,Mb,dt];refine⟨aQ (by simp),ca (by lia) ⟨rfl,kA G ok.2.1 np.1 (by lia) (by simp;lia) (by simp;lia) I λa' N2 t2 C H=>?_⟩⟩
 simp only[af,Mu];rw[<- s];unfold pk;have J:∀(a b:D)(l:List D),dz (a::b::l) ed (cb 2)=[a,b]:=λa b l=>dG (k:=2);simp only[ap,am,ak,eM,ac,aD,aY,dC,tu,J,frz,av,aa,ae,aF,af,Mu,Mb,dt];refine⟨aQ (by simp),aQ (by simp),h (.ifr x a' B) _ _ _ _ N2 ⟨⟨ok.1,t2.ok,t1.ok⟩,⟨t2.np,t1.np⟩,?_,?_,?_⟩ ?_<|f1.trans H⟩
 .simp[ff,t1.k,t2.k]
 .simp only[hR,t1.h,t2.h]
 .simp only[cR,t1.c,t2.c]
 .rw[MG]at C
  exact C
theorem JW(I:G2 ad k wk lp TY m TZ n){e plD:D}{A O G u s:Option D}(ok:bX TY m TZ (.again x a))(np:pA (.again x a))(J:hR (.again x a)<=n)(R:T6.length+cR (.again x a)<=1000)(H:hr.length+2*hR (.again x a)<=900)(w:Wrk k wk lp TY m TZ T6 N)(h:xL D2 k wk lp TY m TZ T6 N (.again x a) hr e plD p A):mU ad (RG ad n) EE D2 [cb (.ref k.p),cb (.ref wk),cb e,cb plD,cb (.ref p),A,cb (Rw.again x a).d,cb (tupD hr),O,G,u,s] N:=by
 simp only[hR,cR]at J R H;have i2:atI [D.str (Mq "again"),.str x,.tup (ah a)] 2=cb (.tup<|ah a):=by rw[atI_2];rfl
 unfold mU;generalize g:qF ad (RG ad n) EE=K1;simp only[Rw.d,al,ap,am,aj,aa,ac,ak,dC,av,ae,aw,aC,i2,Mb,dt];refine⟨aQ (by simp),ca (by lia) ⟨rfl,kA I ok.2 np (by lia) (by lia) (by simp;lia) w λa' N1 t1 C B=>?_⟩⟩
 simp only[af,Mu];rw[<- g];unfold qF;have F:∀(a b:D)(l:List D),dz (a::b::l) ed (cb 2)=[a,b]:=λa b l=>dG (k:=2);simp only[ap,am,ak,eM,ac,aD,aY,dC,tu,F,frz,av,aa,ae,aF,af,Mu,Mb,dt];refine⟨aQ (by simp),aQ (by simp),h (.again x a') _ _ _ _ N1 ⟨⟨ok.1,t1.ok⟩,t1.np,?_,?_,?_⟩ C B⟩
 .simp[ff,t1.k]
 .simp only[hR,t1.h]
 .simp only[cR,t1.c]
theorem Tn1.self(ok:bX TY m TZ r)(e:pA r):Tn1 TY m TZ r r:=⟨ok,e,(x6 r [] e).1,rfl,rfl⟩
theorem yz(h:dQ TY m TZ r):aO r=false:=by cases r<;>first|rfl|exact h.elim
theorem gq(h:aO r=eH):cR r=1/\hR r=0:=by cases r<;>first|exact⟨rfl,rfl⟩|cases h
theorem Ds(ht:ToldOk TY m TZ){B plD:D}{c5 c8 c9 H C:Option D}{T:Sd}(F:aO r=eH)(ok:bX TY m TZ r)(np:pA r)(ha:T6.length<=1000)(w:Wrk k wk lp TY m TZ T6 N)(h:xL D2 k wk lp TY m TZ T6 N r hr B plD p c5):hV ad T EE D2 [cb (.ref k.p),cb (.ref wk),cb B,cb plD,cb (.ref p),c5,cb r.d,cb (tupD hr),c8,c9,H,C] N:=by
 obtain⟨u,eu⟩:=w.w;have s:∀{N':Mem} {C},Dr k N N'->D2.nx [cb (.ref k.p),cb (.ref wk),cb B,cb plD,cb (.ref p),c5,cb r.d,cb (tupD hr),c8,c9,H,C] N':=λd=>h r _ _ _ _ _ (Tn1.self ok np) (by rw[(x6 r hr np).2,Mx];exact w.dr d) d.fw
 have i2:∀u:Int,atI [cA TY m TZ,.ref lp,.int u] 2=cb (.int u):=λu=>by rw[atI_2];rfl
 have i1:∀u:Int,atI [cA TY m TZ,.ref lp,.int u] 1=cb (.ref lp):=λu=>by rw[atI_1];rfl
 have i0:∀u:Int,atI [cA TY m TZ,.ref lp,.int u] 0=cb (cA TY m TZ):=λu=>by rw[atI_0];rfl
 unfold hV;generalize hK9:oG ad T EE=K9;simp only[aA,gk,ao,ak,ac,dC,aw,aC,eu,i2,uf,pY,am,aj,aa,ae,Mb,dt]
 by_cases c:¬0<u
 .simp only[c,decide_false,Mr,if_false]
  exact s w.h.refl
 have c:=Q7.mp c;simp only[c,decide_true,if_true];refine⟨rfl,aN w.h (by decide) (by decide) λd N1 _ _ J=>?_⟩
 simp only[frz,ci,dv,aH,bN];refine⟨trivial,trivial,?_⟩
 by_cases c2:¬d=0
 .rw[decide_eq_false c2]
  exact s J
 rw[decide_eq_true (Q7.mp c2)];show K9 _ _ N1;rw[<- hK9];unfold oG;generalize R:pJ ad T EE=K8;have w1:=w.dr J;have Z:N1 wk=cb (.lst [cA TY m TZ,.ref lp,.int u]):=by rw[J.2 _ w.n1 w.n2];exact eu
 simp only[al,ap,ak,am,aj,aa,av,ac,dC,ae,aw,aC,Z,i0,Mb,dt];refine⟨rfl,au λQ2 E2 Y _=>r8 w1.h ht λq N2 G d2=>Y _ _ ?_⟩;rw[ET];refine⟨aQ (by simp),rfl,au λQ3 E3 S _=>tE 24 [q] N2 Q3 E3 TY m TZ ⟨uu G,trivial⟩ (by simp[bd,Fh G]) (by simp[cRs,Fy G]) (S _ _ ?_)⟩
 have A:=J.trans d2;have w2:=w.dr A;have X:N2 wk=cb (.lst [cA TY m TZ,.ref lp,.int u]):=by rw[A.2 _ w.n1 w.n2];exact eu
 have I:=om q (uu G);have g:aO (rZ q)=false:=by
  have:=yz G;cases q<;>first|rfl|cases this
 have ia:atI (ah<|cK [q]) 0=cb (rZ q).d:=by rw[atI_0];rfl
 simp only[frz,ia,af,Mu];generalize rZ q=o at I g;rw[<- R];unfold pJ;generalize O:qD ad T EE=K7;simp only[aA,ao,ak,ac,ji,Lk,Mb,dt];refine⟨pB g,pB F,?_⟩;have en:(!aH o.d r.d)=tV r o:=by rw[Cd F g];rfl
 rw[en];cases cn:tV r o with
 |false=>exact s A
 |true=>
  show K7 _ _ N2;rw[<- O];unfold qD;generalize hK6:pj ad T EE=K6;have ix:wf 3 2=cb 2:=rfl;simp only[al,ap,ak,ac,dC,aw,aC,X,i2,gb,pY,gL,DB,Mc,Mv,ix,Mu,Mb,dt];rw[<- hK6];unfold pj;have el:(N2.upd wk<|.lst [cA TY m TZ,.ref lp,.int (u-1)]) lp=cb (.lst<|T6.map tupD):=by rw[ai (ML w.n5)];exact w2.l
  simp only[al,bf,fJ,ak,ac,dC,aw,aC,Mem.upd_same,i1,cu,el,aa,ae,bp,ap,af,Mu,Mb,dt];refine⟨trivial,eI (by simp;lia),h o _ _ _ _ _ ⟨I.1,I.2.1,?_,?_,?_⟩ ?_ ?_⟩
  .have p1:bT r=false:=by cases r<;>first|rfl|exact np.elim
   have p2:bT o=false:=by have:=I.2.1;cases o<;>first|rfl|exact this.elim
   rw[zq F,p1,p2,g];rfl
  .rw[(gq F).2,(gq g).2]
  .rw[(gq F).1,(gq g).1]
  .rw[aU F,cn,if_pos rfl]
   refine⟨(w2.h.upd ⟨w.n1,w.n2⟩).upd ⟨w.n3,w.n4⟩,⟨u-1,?_⟩,?_,w.n1,w.n2,w.n3,w.n4,w.n5⟩
   .rw[ai w.n5,Mem.upd_same]
   .rw[Mem.upd_same,Nx];rfl
  .intro b ob h1 h2 h3 h4 e
   rw[ai h4,ai h3,A.2 b h1 h2];exact e
end
section
variable{k:Pt}{T6:Uf}
theorem Dc(ht:ToldOk TY m TZ)(ih:G2 ad k wk lp TY m TZ n){u:D}{G:List Rw}{c7 C B s l:Option D}(ok:bX TY m TZ r)(np:pA r)(hn:hR r<=n)(ha:T6.length+cR r<=1000)(hl:pl.length+1+2*hR r<=900)(w:Wrk k wk lp TY m TZ T6 N)(hp:N p=cb (.lst<|ah G))(hu:G.length<=1000)(g:p≠k.p/\p≠k.q/\p≠wk/\p≠lp)(h:∀(Y:Rw)(c6 c7 C B s l:Option D)(N':Mem),Tn1 TY m TZ r Y->Wrk k wk lp TY m TZ (T6++bz (pl++[(j:Int)]) r Y) N'->N' p=cb (.lst<|ah (G++[Y]))->(∀b o,b≠k.p->b≠k.q->b≠wk->b≠lp->b≠p->N b=cb o->N' b=cb o)->D2.nx [cb (.ref k.p),cb (.ref wk),cb u,cb (tupD pl),cb (.ref p),cb (.int (j:Nat)),c6,c7,C,B,s,l] N'):
  gW ad (RG ad n) EE D2 [cb (.ref k.p),cb (.ref wk),cb u,cb (tupD pl),cb (.ref p),cb (.int (j:Nat)),cb r.d,c7,C,B,s,l] N:=by
 unfold gW;generalize O:kG ad (RG ad n) EE=K12;simp only[al,ap,ak,ac,av,aa,ae,Mb,dt];refine⟨aQ (by simp),ca (by lia) ?_⟩
 simp only[af,Mu];rw[<- O];unfold kG;have w1:=nO ok;have w2:=rE ok;generalize hA:bf (fJ "list" bp (ac 4)<|aa (ac 6) ae)=A;have F:xL { D2 with nx:=A D2 } k wk lp TY m TZ T6 N r (pl++[(j:Int)]) u (tupD pl) p (cb<|.int (j:Nat)):=λY C B s l N' t w' f=>by
  have Z:=f p _ g.1 g.2.1 g.2.2.1 g.2.2.2 hp;rw[<- hA];simp only[bf,fJ,ac,cu,Z,aa,ae,bp,Mb,dt];refine⟨trivial,eI (by rw[bi];lia),h Y _ _ _ _ _ _ _ t (w'.upd g.1 g.2.1 g.2.2.1 g.2.2.2) (by rw[Mem.upd_same,aZ];rfl) λb o h1 h2 h3 h4 h5 e=>?_⟩
  rw[ai h5];exact f b o h1 h2 h3 h4 e
 generalize hK3:mQ ad (RG ad n) EE=K3;generalize I:jR ad (RG ad n) EE=K11;have H:(pl++[(j:Int)]).length+2*hR r<=900:=by simp;lia
 have S:fG r=eH->K11 { D2 with nx:=A D2 } [cb (.ref k.p),cb (.ref wk),cb u,cb (tupD pl),cb (.ref p),cb (.int (j:Nat)),cb r.d,cb (tupD (pl++[(j:Int)])),C,B,s,l] N:=λe=>by
  rw[<- I];unfold jR;generalize hK5:mU ad (RG ad n) EE=K5;generalize X:hV ad (RG ad n) EE=K10;have t5:nc r=true->K5 { D2 with nx:=A D2 } [cb (.ref k.p),cb (.ref wk),cb u,cb (tupD pl),cb (.ref p),cb (.int (j:Nat)),cb r.d,cb (tupD (pl++[(j:Int)])),C,B,s,l] N:=λR=>by
   rw[<- hK5];cases r with
   |again x a=>exact JW ih ok np hn ha H w F
   |_=>cases R
  have J:nc r=eH->K10 { D2 with nx:=A D2 } [cb (.ref k.p),cb (.ref wk),cb u,cb (tupD pl),cb (.ref p),cb (.int (j:Nat)),cb r.d,cb (tupD (pl++[(j:Int)])),C,B,s,l] N:=λR=>by
   rw[<- X];exact Ds ht (by cases r<;>first|rfl|(cases e;done)|(cases R;done)) ok np (by lia) w F
  rw[fE]at t5 J ⊢;simp only[aA,ao,ak,ac,dC,aw,aC,atI_0,ci,dv,aH,bN,Mb,dt];rw[w2];refine⟨trivial,trivial,?_⟩;cases c:nc r with
  |true=>exact t5 c
  |false=>exact J c
 have t3:fG r=true->K3 { D2 with nx:=A D2 } [cb (.ref k.p),cb (.ref wk),cb u,cb (tupD pl),cb (.ref p),cb (.int (j:Nat)),cb r.d,cb (tupD (pl++[(j:Int)])),C,B,s,l] N:=λR=>by
  rw[<- hK3];cases r with
  |ifr x a b=>exact LN ih ok np hn ha H w F
  |_=>cases R
 rw[fE]at t3 S ⊢;simp only[al,aA,ao,ak,ac,dC,aw,aC,atI_0,ci,dv,aH,bN,Mb,dt];rw[w1];refine⟨trivial,trivial,?_⟩;cases c:fG r with
 |true=>exact t3 c
 |false=>exact S c
theorem Tn.snoc{e:Rw}(t:Tn TY m TZ a a')(t1:Tn1 TY m TZ r e):Tn TY m TZ (a++[r]) (a'++[e]):=by
 refine⟨OkRs_append.mpr ⟨t.ok,t1.ok,trivial⟩,noPks_app.mpr ⟨t.np,t1.np,trivial⟩,?_,?_,?_⟩
 .rw[gD (dW t.k),t.k]
  simp[bw,t1.k]
 .simp only[bg,bd,t.h,t1.h]
 .simp only[aT,cRs,t.c,t1.c]
theorem BG(ht:ToldOk TY m TZ)(ih:G2 ad k wk lp TY m TZ n):G2 ad k wk lp TY m TZ (n+1):=by
 intro rs pl T6 M Q E ok np hn ha hl w h;rw[u_q5 (n:=n)];unfold Di pQ;generalize hK:gW ad (RG ad n) (az E)=K;simp only[al,ap];refine⟨aQ (by simp),λp hp=>?_⟩
 have g:=w.new hp;simp only[af,Mu,bU,e_,aa,ac,ae,aC,bu,cC,Mb,dt]
 refine bt (λxs U N=>∃(B l u:List Rw)(c5 X R J S A s:Option D),rs=B++u/\xs=bA B.length (ah u)/\U=[cb (.ref k.p),cb (.ref wk),cb (.tup<|ah rs),cb (tupD pl),cb (.ref p),c5,X,R,J,S,A,s]/\Tn TY m TZ B l/\Wrk k wk lp TY m TZ (T6++aX pl 0 B l) N/\N p=cb (.lst<|ah l)/\(∀b o,b≠k.p->b≠k.q->b≠wk->b≠lp->b≠p->M b=cb o->N b=cb o)) (λ_ _ _ _=>aI) ?_ ?_ _ _ _
  ⟨[],[],rs,_,_,_,_,_,_,_,rfl,cC _,rfl,⟨trivial,trivial,rfl,rfl,rfl⟩,by simpa [aX] using w.upd g.1 g.2.1 g.2.2.1 g.2.2.2,Mem.upd_same,λb o _ _ _ _ I e=>by rw[ai I];exact e⟩
 .rintro U N ⟨B,l,u,c5,X,R,J,S,A,s,Z,F,rfl,t,w',C,f⟩
  have ez:u=[]:=by cases u with|nil=>rfl|cons _ _=>simp[ah,bA]at F
  subst ez;rw[Mx]at Z;subst Z;simp only[ax,bn,aa,ac,ae,bW,cX,C,Mb,dt];exact aq (h l N t w' λb o Y H G O e=>f b o Y H G O (λz=>by rw[z,hp]at e;cases e) e)
 .rintro x xs U N ⟨B,l,u,c5,X,R,J,S,A,s,Z,F,rfl,t,w',C,f⟩ D' hnx _ _ _
  cases u with
  |nil=>simp[ah,bA]at F
  |cons z u=>
   simp only[ah,bA,My]at F;obtain⟨rfl,rfl⟩:=F;have l1:=ii (rs:=rs);have ql:=bM B l pl 0;have qe:=dW t.k;subst Z;rw[OkRs_append]at ok;rw[noPks_app]at np;simp only[bg,bd]at hn hl;simp only[aT,cRs]at ha;simp only[aT,cRs,Mg,Mc]at l1;simp only[bQ,aG,bR,af,Mu,Mc,Mv];refine⟨trivial,?_⟩;rw[<- hK];refine Dc ht ih ok.2.1 np.2.1 (by lia) (by simp;lia) (by lia) w' C (by lia) g λr' X R J S A s N' t1 w2 hp2 f2=>?_
   refine hnx _ _ ⟨B++[z],l++[r'],u,_,_,_,_,_,_,_,by simp,by simp,rfl,t.snoc t1,?_,hp2,λb o Y H G O I e=>f2 b o Y H G O I (f b o Y H G O I e)⟩
   rw[o7 qe];simp only[aX,Mx,NF];rw[<- MG];exact w2
theorem zX(e:ToldOk TY m TZ):∀n:Nat,G2 ad k wk lp TY m TZ n
 |0=>λ_ _ _ _ _ _ _ _ h=>by lia
 |n+1=>BG e (zX e n)
end
structure PlH(m TZ:Int)(TY:Uh)(rows:List Rw)(mk:Str):Prop where
 t:ToldOk TY m TZ
 nd:TY.Nodup
 ok:aJ TY m TZ rows
 np:dm rows
 h:bd rows<=4
 c:cRs rows<=60
 mkm:mk∈TY
 one:∀x∈TY,n8 x
section
variable{k:Pt}
theorem uy(hp:Has k M)(h:∀(m TZ:Int)(TY:Uh)(rs s:List Rw)(mk:Str)(M':Mem)(p:eC),PlH m TZ TY rs mk->Tn TY m TZ rs s->Kq k M M'->M' p=ed->Q (.tup [aW m TZ TY rs mk,aW m TZ TY s mk,.ref p]) (M'.upd p<|.lst<|qH rs s)):
  xm ad [.ref k.p,.int 20,.int 5] M Q E:=by
 rw[LU];unfold wE;generalize Y:kr ad (az E)=K4;simp only[al,ap,am,aj,aa,ac,ae,Mb,dt];refine⟨rfl,au λQ' E' hq _=>yj (by decide) (by decide) hp λm TZ TY rows mk M1 A Z=>hq _ _ ?_⟩
 have fr:∀{r:List Rw}{K:DK}{M:Mem},frz (aW m TZ TY r mk) M K=K (aW m TZ TY r mk) M:=rfl;rw[fr];have S:=dg rows A.ok;have g:PlH m TZ TY (cK rows) mk:=⟨A.t,A.nd,S.1,S.2.1,by rw[S.2.2.1];exact A.h,by rw[S.2.2.2];exact A.cn,A.mkm,A.one⟩
 have a3:∀r:List Rw,atI [D.int m,.tup (TY.map D.str),.int TZ,.tup (ah r),.str mk] 3=cb (.tup<|ah r):=λr=>by rw[atI_3];rfl
 have a4:∀r:List Rw,atI [D.int m,.tup (TY.map D.str),.int TZ,.tup (ah r),.str mk] 4=cb (.str mk):=λr=>by rw[atI_4];rfl
 have O:∀(a b c:D)(l:List D),dz (a::b::c::l) ed (cb 3)=[a,b,c]:=λa b c l=>dG (k:=3);rw[<- Y];unfold kr;generalize hK3:jU ad (az E)=K3;simp only[af,Mu,aW,al,ap,ak,am,eM,ac,aD,aY,dC,tu,O,frz,av,aa,aj,ae,aw,aC,a3,a4,Mb,dt];have hcn:=A.cn;have hh:=A.h;refine⟨rfl,au λQ2 E2 X _=>tE 24 rows M1 Q2 E2 TY m TZ A.ok (by lia) (by lia) (X _ _ ?_)⟩
 simp only[a4,O,aF];refine⟨aQ (by simp),aQ (by simp),?_⟩
 rw[<- hK3];unfold jU;generalize hK2:kh ad (az E)=K2;simp only[Nk,NR,al,ap,br,aa,eM,ac,aD,aY,dC,tu,O,ae,af,Mu,Mb,dt];refine⟨aQ (by simp),λlp J=>⟨aQ (by simp),λwk B=>?_⟩⟩
 have F:=Z.1.nep J;have H:=Z.1.upd (o:=.lst []) F;have C:=H.nep B;have ne:wk≠lp:=λz=>by rw[z,Mem.upd_same]at B;cases B
 have I:M1 wk=none:=by rw[ai ne]at B;exact B
 have w0:Wrk k wk lp TY m TZ [] ((M1.upd lp<|.lst []).upd wk<|.lst [cA TY m TZ,.ref lp,.int 5]):=⟨H.upd C,⟨5,Mem.upd_same⟩,by rw[ai (ML ne),Mem.upd_same];rfl,C.1,C.2,F.1,F.2,ne⟩
 rw[<- hK2];unfold kh;generalize hK1:jZ ad (az E)=K1;simp only[al,ap,am,aj,aa,ac,ak,dC,av,ae,aw,aC,a3,af,Mu,Mb,dt];have gh:=g.h;have gc:=g.c;refine⟨aQ (by simp),rfl,kA (pl:=[]) (zX A.t 24) g.ok g.np (by lia) (by simp;lia) (by simp;lia) w0 λs M3 t R f=>?_⟩
 rw[NR]at R;obtain⟨u,eu⟩:=R.w;have i1:atI [cA TY m TZ,.ref lp,.int u] 1=cb (.ref lp):=by rw[atI_1];rfl
 rw[<- hK1];unfold jZ;simp only[ax,av,aa,ac,ak,am,eM,aD,aY,dC,tu,O,frz,ae,aw,aC,a4,aF,Nk,NR,bn,eu,i1,dR,cX,R.l,iK,Mb,dt];have ql:=bM (cK rows) s [] 0;refine⟨aQ (by simp),aQ (by simp),by lia,λx hx=>dY _ _ _ _ x hx,λp hp3=>⟨aQ (by simp),aq<|h m TZ TY (cK rows) s mk M3 p g t ⟨R.h,λb o h1 H e=>?_⟩ hp3⟩⟩
 have G:=Z.2 b o h1 H e;have b1:b≠wk:=λz=>by rw[z,I]at G;cases G
 have b2:b≠lp:=λz=>by rw[z,J]at G;cases G
 exact f b o h1 H b1 b2 (by rw[ai b1,ai b2];exact G)
end
mutual
theorem Dh:∀(r o:Rw)(pl:Ug),∀x∈bz pl r o,x.length<=pl.length+2*hR r
 |.ifr _ a b,o,pl=>by
  have e:=fh a;have g:=fh b;cases o with
  |ifr y a' b'=>
   intro x hx;simp only[bz,Ms]at hx;rcases hx with hx|hx
   .have:=g _ _ _ x hx
    simp only[Mg,Mc,Mv]at this;simp only[hR];lia
   .have:=e _ _ _ x hx
    simp only[Mg,Mc,Mv]at this;simp only[hR];lia
  |_=>intro x hx;cases hx
 |.again _ a,o,pl=>by
  have e:=fh a;cases o with
  |again y a'=>
   intro x hx;have:=e _ _ _ x hx;simp only[Mg,Mc,Mv]at this;simp only[hR];lia
  |_=>intro x hx;cases hx
 |.put _ _,o,pl=>by intro x hx;rw[aU rfl]at hx;split at hx<;>simp at hx;rw[hx];lia
 |.take _ _,o,pl=>by intro x hx;rw[aU rfl]at hx;split at hx<;>simp at hx;rw[hx];lia
 |.pick _ _,o,pl=>by intro x hx;rw[aU rfl]at hx;split at hx<;>simp at hx;rw[hx];lia
 |.two _ _ _ _,o,pl=>by intro x hx;rw[aU rfl]at hx;split at hx<;>simp at hx;rw[hx];lia
theorem fh:∀(rs os:List Rw)(pl:Ug)(j:Nat),∀x∈aX pl j rs os,x.length<=pl.length+1+2*bd rs
 |[],os,pl,j=>by intro x hx;cases hx
 |r::rs,os,pl,j=>by
  cases os with
  |nil=>intro x hx;cases hx
  |cons o os=>
   intro x hx;simp only[aX,Ms]at hx;rcases hx with hx|hx
   .have:=Dh r o _ x hx
    simp only[Mg,Mc,Mv]at this;simp only[bd];lia
   .have:=fh rs os _ _ x hx
    simp only[bd];lia
end
theorem IK(u:cRs rs<=1000)(s:bd rs<=100):(qH rs os).length<=100000/\∀x∈qH rs os,BE 1 x:=by
 have l:=bM rs os [] 0;refine⟨by simp only[qH,Md,(bV fc _).length_eq];lia,λx e=>?_⟩
 simp only[qH,MS]at e;obtain⟨y,g,rfl⟩:=e;have:=fh _ _ _ _ y ((bV fc _).mem_iff.mp g);simp only[Mv]at this;refine⟨by simp only[Md];lia,λz h=>?_⟩
 obtain⟨i,_,rfl⟩:=MS.mp h;trivial
section
end
section
variable{a b te:bj}
abbrev Ev(te:bj)(U:Dl)(M:Mem)(d:D):Prop:=∀K:DK,K d M->te U M K
abbrev EvA(ta:eN)(U:Dl)(M:Mem)(ds:List D):Prop:=∀K:List D->Mem->Prop,K ds M->ta U M K
theorem Bf{i:Nat}{d:D}(h:U[i]?=cb (cb d)):Ev (ac i) U M d:=λK q=>by simp only[ac,h];exact q
theorem Js{d:D}:Ev (dC d) U M d:=λ_ q=>q
theorem Bv:EvA ae U M []:=λ_ q=>q
theorem kH{t:eN}{d:D}{ds:List D}(e:Ev a U M d)(h2:EvA t U M ds):EvA (aa a t) U M (d::ds):=λ_ q=>e _ (h2 _ q)
theorem cg{s u:aB}(h:s { D0 with nx:=u D0 } U M):al s u D0 U M:=h
end
section
variable{k:Pt}
end
theorem o5:∀bs:List Bool,jc (bs.map D.bl)=cb bs
 |[]=>rfl
 |b::bs=>by rw[Mo,jc,o5 bs]
theorem gp:∀TY:List Str,gl (TY.map D.str)=cb TY
 |[]=>rfl
 |x::TY=>by rw[Mo,gl,gp TY]
theorem iF{n:Nat}:∀ss:List Str,fits n (ss.map D.str)=true
 |[]=>rfl
 |x::ss=>by rw[Mo,fits,iF ss,bN];rfl
theorem mm(x:Str):∀ss:List Str,((ss.map D.str).any λd=>aH d (.str x))=decide (x∈ss)
 |[]=>by simp
 |y::ss=>by
  rw[Mo,ND,mm x ss,aH]
  by_cases e:y=x
  .subst e;simp
  .simp[e,ML e]
section
theorem eE{e g:Int}(l:e<=i)(h2:i<=g)(h:Q (.bl true) M):lM ad [.int i,.int e,.int g] M Q E:=by
 simp![LD,vL,i12,i13,t1,t2];rw[decide_eq_true l,decide_eq_true h2];exact aq h
theorem CW{c:Nat}(h:97<=c):(!decide (([c]:List Nat)<(Mq "a").cps.toList))=true:=by
 have e:(Mq "a").cps.toList=[97]:=by decide +kernel
 rw[e,P9,decide_eq_false_iff_not];intro z;have:=(Rj).mp z;rcases this with y|⟨_,y⟩
 .lia
 .exact absurd y (by simp)
theorem Cg{c:Nat}(h:c<=122):(!decide ((Mq "z").cps.toList<([c]:List Nat)))=true:=by
 have e:(Mq "z").cps.toList=[122]:=by decide +kernel
 rw[e,P9,decide_eq_false_iff_not];intro z;have:=(Rj).mp z;rcases this with y|⟨_,y⟩
 .lia
 .exact absurd y (by simp)
theorem yK(h:n8 x):1<=x.length/\x.length<=8/\∀c∈x.cps.toList,97<=c/\c<=122:=by
 obtain⟨n,c,g,l,u,w,rfl⟩:=h;have e:Str.length ⟨Oc n c⟩=n:=by show Array.size _=n;simp
 rw[e];exact⟨g,l,λd s=>by simp at s;lia⟩
theorem r9(R:n8 x)(h:Q (.bl true) M):wL ad [.str x] M Q E:=by
 obtain⟨S,G,F⟩:=yK R;have H:x.cps.all (· < 128)=true:=by
  rw[<- Array.all_toList,Qj];intro c z;have:=F c z;simp;lia
 have O:x.cps.toList.length<=100:=by rw[MP];exact ME G (by decide)
 simp![JQ,xg,i16,t3,↓b6];refine⟨aQ (ME G<|by decide),?_⟩
 rw[decide_eq_true (by lia)]
 simp only[decide_eq_true (show ((x.length:Nat):Int)<=8 by lia),Nc,Mr,if_false]
 refine⟨H,?_⟩;refine aV (λA T6 U M'=>∃(e:List Nat)(j:Nat)(l:Option D),A=e.map (λc=>D.str ⟨#[c]⟩)/\(∀z∈e,97<=z/\z<=122)/\e.length+j<=100/\T6=Mh j (.bl true)/\U=[l]/\M'=M) (λ_ _ _ _ _=>aI) ?_ ?_ ?_ _ _ _ _ ⟨x.cps.toList,0,ed,rfl,F,by lia,rfl,rfl,rfl⟩
 .rintro T6 U M' ⟨e,j,l,g,s,B,rfl,rfl,rfl⟩ p u
  simp![Mem.upd_del,ar u,cw,dX];exact aq h
 .rintro y A T6 U M' ⟨e,j,l,g,s,B,rfl,rfl,rfl⟩ N I _
  cases e with
  |nil=>simp at g
  |cons z e=>
   simp only[Mo,My]at g;obtain⟨rfl,rfl⟩:=g;simp only[Mc]at B;have C:=s z (Nu ..);simp![CW C.1,Cg C.2];exact I _ _ _ (by simp;exact eI (by lia)) ⟨e,j+1,_,rfl,λw J=>s w (Mz _ J),by lia,by rw[NU],rfl,rfl⟩
 .rintro y A T6 U M' ⟨e,j,l,g,s,B,rfl,rfl,rfl⟩
  simp;exact eI (by lia)
theorem nk(u:∀x∈TY,n8 x)(F:1<=TY.length)(n1:TY.length<=12)(C:(l_ [] TY).length=TY.length)(h:Q (.bl true) M):vP ad [.tup (TY.map D.str)] M Q E:=by
 simp![K_,we,i4,t4,↓b6,Md];rw[decide_eq_true (by lia)]
 simp only[decide_eq_true (show ((TY.length:Nat):Int)<=12 by lia),Nc,Mr,if_false]
 refine aV (λs T6 U M'=>∃(rs:Uh)(j:Nat)(g:Option D),(∀x∈rs,n8 x)/\j+rs.length<=12/\s=rs.map D.str/\T6=Mh j (.bl true)/\U=[g]/\M'=M) (λ_ _ _ _ _=>aI) ?_ ?_ ?_ _ _ _ _ ⟨TY,0,ed,u,by lia,rfl,rfl,rfl,rfl⟩
 .rintro T6 U M' ⟨rs,j,g,_,_,e,rfl,rfl,rfl⟩ p l
  simp![Mem.upd_del,ar l,cw,dX,gp,Md];refine⟨by lia,?_⟩
  rw[C,decide_eq_true rfl];exact aq h
 .rintro y s T6 U M' ⟨rs,j,g,w,B,e,rfl,rfl,rfl⟩ N A _
  cases rs with
  |nil=>simp at e
  |cons r rs=>
   simp only[Mo,My]at e;obtain⟨rfl,rfl⟩:=e;simp only[Mc]at B;simp![];refine aL (d:=.bl true) (λQ' E' q=>r9 (w r<|by simp) q) ?_
   simp![];exact A _ _ _ (by simp;exact eI (by lia)) ⟨rs,j+1,_,λx u=>w x (Mz _ u),by lia,rfl,by rw[NU],rfl,rfl⟩
 .rintro y s T6 U M' ⟨rs,j,g,_,_,e,rfl,rfl,rfl⟩
  simp;exact eI (by lia)
theorem wO{s l e g:D}(u:x∈TY)(h:Q (.bl true) M):sK ad [.tup [s,.tup (TY.map D.str),l,e,g],.str x] M Q E:=by
 simp![KS,xH,i16,t3,atI_1,iF,mm,decide_eq_true u];exact aq h
end
theorem n1:((Mq "number":Str)=Mq "name")=False:=eq_false (by decide +kernel)
theorem n2:((Mq "piece":Str)=Mq "name")=False:=eq_false (by decide +kernel)
theorem n3:((Mq "piece":Str)=Mq "number")=False:=eq_false (by decide +kernel)
theorem n4:((Mq "rows":Str)=Mq "name")=False:=eq_false (by decide +kernel)
theorem n5:((Mq "rows":Str)=Mq "number")=False:=eq_false (by decide +kernel)
theorem n6:((Mq "rows":Str)=Mq "piece")=False:=eq_false (by decide +kernel)
section
variable{d3 d4:D}
noncomputable def oy(m TZ:Int)(TY:Uh)(d3 d4:D):D:=.tup [.int m,.tup (TY.map D.str),.int TZ,d3,d4]
inductive Pk(TY:Uh)(m TZ:Int):Str->D->Prop
 |nm {x:Str} (h:x∈TY):Pk TY m TZ "name" (.str x)
 |nu {i:Int} (h0:0<=i) (h1:i<m):Pk TY m TZ "number" (.int i)
 |pc {i:Int} (h0:0<=i) (h1:i<TZ):Pk TY m TZ "piece" (.int i)
 |rw {d:D}:Pk TY m TZ "rows" d
theorem y6{k:Str}{d:D}(p:Pk TY m TZ k d)(h:Q (.bl true) M):nL ad [oy m TZ TY d3 d4,.str k,d] M Q E:=by
 cases p with
 |nm hx=>
  simp![wY,kZ,oy];exact au λQ' E' e _=>wO hx (e _ _<|aq h)
 |nu h0 h1=>
  simp![wY,kZ,oy,n1,atI_0];exact au λQ' E' e _=>eE h0 (by lia) (e _ _<|aq h)
 |pc h0 h1=>
  simp![wY,kZ,oy,n2,n3,atI_2];exact au λQ' E' e _=>eE h0 (by lia) (e _ _<|aq h)
 |rw=>
  simp![wY,kZ,oy,n4,n5,n6];exact aq h
noncomputable def C8:Rw->List (Str×D)
 |.put x k=>[("name",.str x),("number",.int k)]
 |.take x k=>[("name",.str x),("piece",.int k)]
 |.pick x y=>[("name",.str x),("name",.str y)]
 |.two _ x y z=>[("name",.str x),("name",.str y),("name",.str z)]
 |.ifr x a b=>[("name",.str x),("rows",.tup (ah a)),("rows",.tup (ah b))]
 |.again x a=>[("name",.str x),("rows",.tup (ah a))]
noncomputable def Fl(r:Rw):List D:=(C8 r).map λp=>.str p.1
theorem Gi(ok:bX TY m TZ r):eX cz (dB r)=cb (.mt<|Fl r):=by
 cases r with
 |two w x y z=>rcases ok.1 with rfl|rfl|rfl|rfl<;>simp![dB,Fl,C8,Mo,OB,cz,eX]
 |_=>simp![dB,Fl,C8,Mo,OB,cz,eX]
theorem Iz(r:Rw):oU (Fl r) (.str (qM r)::FP r)=(C8 r).map λp=>D.tup [.str p.1,p.2]:=by cases r<;>rfl
theorem BV(r:Rw):((Fl r).any λd=>aH d (D.str "rows"))=aO r:=by
 have l:decide ((Mq "name")=Mq "rows")=false:=by decide +kernel
 have e:decide ((Mq "number")=Mq "rows")=false:=by decide +kernel
 have h:decide ((Mq "piece")=Mq "rows")=false:=by decide +kernel
 have g:decide ((Mq "rows")=Mq "rows")=true:=by decide +kernel
 cases r<;>simp only[Fl,C8,Mo,OB,ND,List.any_nil,aH,aO,l,e,h,g]<;>rfl
theorem IU(r:Rw):fits 60 (Fl r)=true:=by cases r<;>rfl
theorem I0(r:Rw):(FP r).length+2=(Fl r).length+1:=by cases r<;>rfl
theorem Kf(ok:bX TY m TZ r):∀p∈C8 r,Pk TY m TZ p.1 p.2:=by
 intro p e;cases r<;>simp only[C8,Mm,MV,or_false]at e
 .rcases e with rfl|rfl;exact .nm ok.1;exact .nu ok.2.1 ok.2.2
 .rcases e with rfl|rfl;exact .nm ok.1;exact .pc ok.2.1 ok.2.2
 .rcases e with rfl|rfl;exact .nm ok.1;exact .nm ok.2.1
 .rcases e with rfl|rfl|rfl;exact .nm ok.2.1;exact .nm ok.2.2.1;exact .nm ok.2.2.2
 .rcases e with rfl|rfl|rfl;exact .nm ok.1;exact .rw;exact .rw
 .rcases e with rfl|rfl;exact .nm ok.1;exact .rw
theorem Hq(r:Rw):(C8 r).length<=3:=by cases r<;>simp[C8]
end
section
variable{d3 d4:D}
theorem vj{ks:List (Str×D)}(A:∀p∈ks,Pk TY m TZ p.1 p.2)(G:ks.length<=10)(F:okM M){Q:List D->Mem->Prop}{b:BxC (bQ 2<|aG (af 0)<|aG (af 1) bR) cF (am<|aj (nL ad) jX 3<|aa (ac 2)<|aa (ac 0)<|aa (ac 1) ae) okM Q}{g l:Option D}(h:Q (Mh ks.length<|.bl true) M):dD (bQ 2<|aG (af 0)<|aG (af 1) bR) cF (am<|aj (nL ad) jX 3<|aa (ac 2)<|aa (ac 0)<|aa (ac 1) ae) okM Q b (ks.map λp=>D.tup [.str p.1,p.2]) [] [g,l,cb (oy m TZ TY d3 d4)] M:=by
 refine aV (λw T6 U N=>∃(rs:List (Str×D))(j:Nat)(g l:Option D),(∀p∈rs,Pk TY m TZ p.1 p.2)/\j+rs.length=ks.length/\w=(rs.map λp=>D.tup [.str p.1,p.2])/\T6=Mh j (.bl true)/\U=[g,l,cb (oy m TZ TY d3 d4)]/\N=M) (λ_ _ _ _ z=>by obtain⟨_,_,_,_,_,_,_,_,_,e⟩:=z;subst e;exact F) ?_ ?_ ?_ _ _ _ _ ⟨ks,0,g,l,A,by lia,rfl,rfl,rfl,rfl⟩
 .rintro T6 U N ⟨rs,j,g,l,_,u,s,rfl,rfl,rfl⟩
  have:rs=[]:=by simpa using s.symm
  subst this;rw[<- u]at h;exact h
 .rintro x w T6 U N ⟨rs,j,g,l,hr,u,s,rfl,rfl,rfl⟩ N' C B
  cases rs with
  |nil=>simp at s
  |cons r rs=>
   simp only[Mo,My]at s;obtain⟨rfl,rfl⟩:=s;simp only[Mc]at u;simp![];refine aL (d:=.bl true) (λQ' E' q=>y6 (hr r<|by simp) q) ?_
   simp![];exact C _ _ _ (by simp;exact eI (by lia)) ⟨rs,j+1,_,_,λp A=>hr p (Mz _ A),by lia,rfl,by rw[NU],rfl,rfl⟩
 .rintro x w T6 U N ⟨rs,j,g,l,_,u,s,rfl,rfl,rfl⟩
  simp;exact eI (by lia)
theorem vA{d:Nat}(ok:bX TY m TZ r)(H:aO r=true->d≠4)(h:Q (.bl true) M):nE ad [oy m TZ TY d3 d4,r.d,.int (d:Nat)] M Q E:=by
 have u:bT r=true->¬TZ=0:=λe=>by
  cases r with
  |pick x y=>have:=ok.2.2;lia
  |_=>cases e
 have w:=Gi ok;have wp:=xj ok;have I:=I0 r;have lk:=Hq r;have g:∀(x:D)(l:List D),dz (x::l) (cb 1) ed=l:=λx l=>oP (k:=1);have G:atI [D.int m,.tup (TY.map D.str),.int TZ,d3,d4] 2=cb (.int TZ):=by rw[atI_2];rfl
 rw[KB,fE];unfold xA;generalize F:km ad (az E)=K5;simp![i4,t4,i16,t3,atI_0,Mc];rw[if_neg (by lia)]
 rw[<- F];unfold km;generalize s:jM ad (az E)=K4;simp![atI_0];rw[<- s];unfold jM;generalize B:kj ad (az E)=K3;simp![w,Mc];rw[decide_eq_true (by lia),Nc,if_neg (by simp),<- B]
 unfold kj;generalize A:jn ad (az E)=K2;have t2:K2 { nx:=λ_ M'=>drp Q .non M',rt:=drp Q } [cb (oy m TZ TY d3 d4),cb (.tup (.str (dB r)::.str (qM r)::FP r)),cb (.int (d:Nat)),cb (.str<|dB r)] M:=by
  rw[<- A];unfold jn;generalize C:jT ad (az E)=K1;have t1:K1 { nx:=λ_ M'=>drp Q .non M',rt:=drp Q } [cb (oy m TZ TY d3 d4),cb (.tup (.str (dB r)::.str (qM r)::FP r)),cb (.int (d:Nat)),cb (.str<|dB r)] M:=by
   rw[<- C];unfold jT;simp![w,g,Iz,↓b6];refine vj (Kf ok) (by lia) aI λp u=>?_
   simp![Mem.upd_del,ar u,cw,dX];exact aq h
  simp![w,BV,IU];cases c:aO r with
  |false=>exact t1
  |true=>
   have:=H c;simp![];rw[if_neg (by lia)]
   exact t1
 by_cases c:dB r=Mq "pick"
 .have e:bT r=true:=by rw[<- wp];exact decide_eq_true c
  unfold oy at t2 ⊢;simp![G];rw[if_pos c];rw[if_neg (u e)];exact t2
 .simp![]
  rw[if_neg c];exact t2
end
noncomputable def wR:Rw->List (List Rw)
 |.ifr _ a b=>[a,b]
 |.again _ a=>[a]
 |_=>[]
noncomputable def LP(a:List Rw):D:=.tup (ah a)
theorem ga{c:fg}{g:aB}{DD:DEnds}{b:BxW c g DD}(I:Nat->Dl->Mem->Prop)
  (s:∀m U M,I m U M->∀D':DEnds,(∀l e M',l<m->I l e M'->D'.nx e M')->D'.rt=DD.rt->c U M λk M1=>if k=true then g D' U M1 else DD.nx U M1):∀n m U M,m<n->I m U M->dL c g DD b n U M
 |0,m,U,M,h,_=>by lia
 |n+1,m,U,M,h,i=>s m U M i { DD with nx:=dL c g DD b n,ct:=dL c g DD b n,bk:=DD.nx } (λl e M' q u=>ga I s n l e M' (by lia) u) rfl
noncomputable def sC:List (List Rw×Nat)->Nat
 |[]=>0
 |w::l=>cRs w.1+sC l
theorem c_:∀a b:List (List Rw×Nat),sC (a++b)=sC a+sC b
 |[],b=>by simp[sC]
 |x::a,b=>by simp only[Nk,sC,c_ a b];lia
noncomputable def within(d:Nat)(rows:List Rw):List (List Rw×Nat):=(rows.flatMap wR).map λa=>(a,d)
theorem nw(d:Nat)(a b:List Rw):within d (a++b)=within d a++within d b:=by simp[within]
theorem Kr(d:Nat)(r:Rw):sC ((wR r).map λa=>(a,d))+1=cR r:=by cases r<;>simp only[wR,Mo,OB,sC,cR]<;>lia
theorem AB(r:Rw):(wR r).length<=2:=by cases r<;>simp[wR]
theorem nK(d:Nat):∀rows:List Rw,sC (within d rows)+rows.length=cRs rows
 |[]=>rfl
 |r::rows=>by
  have e:=Kr d r;have g:=nK d rows;have:within d (r::rows)=((wR r).map λa=>(a,d))++within d rows:=by simp[within]
  rw[this,c_];simp only[Mc,cRs];lia
theorem gw(d:Nat):∀rows:List Rw,(within d rows).length<=2*rows.length
 |[]=>by simp[within]
 |r::rows=>by
  have e:=AB r;have g:=gw d rows;have:within d (r::rows)=((wR r).map λa=>(a,d))++within d rows:=by simp[within]
  rw[this];simp only[Mg,Md,Mc];lia
noncomputable def p7(W:List (List Rw×Nat)):Nat:=W.length+2*sC W
noncomputable def yR(w:List Rw×Nat):D:=.tup [LP w.1,.int (w.2:Nat)]
section
variable{d3 d4:D}
theorem p9:∀{rs:List Rw}{r:Rw},aJ TY m TZ rs->r∈rs->bX TY m TZ r/\hR r<=bd rs
 |s::rs,r,o,h=>by
  simp only[bd];rcases Mm.mp h with rfl|h
  .exact⟨o.1,by lia⟩
  .have:=p9 o.2 h
   exact⟨this.1,by lia⟩
theorem Kl(o:bX TY m TZ r)(h:a∈wR r):aJ TY m TZ a/\bd a+1<=hR r:=by
 cases r with
 |ifr x a b=>
  simp only[wR,Mm,MV,or_false]at h;simp only[hR];rcases h with rfl|rfl
  .exact⟨o.2.1,by lia⟩
  .exact⟨o.2.2,by lia⟩
 |again x a=>
  simp only[wR,Mm,MV,or_false]at h;simp only[hR];subst h;exact⟨o.2,by lia⟩
 |_=>simp[wR]at h
theorem Kg(r:Rw):yW r=(wR r).map LP:=by cases r<;>rfl
theorem KU(h:aO r=true):1<=hR r:=by
 cases r with
 |ifr x a b=>simp only[hR];lia
 |again x a=>simp only[hR];lia
 |_=>cases h
theorem yL{l:List Rw}{d:Nat}(o:aJ TY m TZ l)(J:bd l+d<=4)(I:l.length<=500)(H:okM M){Q:List D->Mem->Prop}{b:BxC (af 0) cF (am<|aj (nE ad) jX 3<|aa (ac 1)<|aa (ac 0)<|aa (ac 2) ae) okM Q}{c:Option D}(h:Q (Mh l.length<|.bl true) M):dD (af 0) cF (am<|aj (nE ad) jX 3<|aa (ac 1)<|aa (ac 0)<|aa (ac 2) ae) okM Q b (ah l) [] [c,cb (oy m TZ TY d3 d4),cb (.int (d:Nat))] M:=by
 refine aV (λA T6 U N=>∃(g rs:List Rw)(w:Option D),l=g++rs/\A=ah rs/\T6=Mh g.length (.bl true)/\U=[w,cb (oy m TZ TY d3 d4),cb (.int (d:Nat))]/\N=M) (λ_ _ _ _ z=>by obtain⟨_,_,_,_,_,_,_,e⟩:=z;subst e;exact H) ?_ ?_ ?_ _ _ _ _ ⟨[],l,c,rfl,rfl,rfl,rfl,rfl⟩
 .rintro T6 U N ⟨g,rs,w,s,u,rfl,rfl,rfl⟩
  have:rs=[]:=by cases rs with
   |nil=>rfl
   |cons r rs=>simp[ah]at u
  subst this;rw[Mx]at s;rw[<- s];exact h
 .rintro x A T6 U N ⟨g,rs,w,s,u,rfl,rfl,rfl⟩ N' G B
  cases rs with
  |nil=>simp[ah]at u
  |cons r rs=>
   simp only[ah,My]at u;obtain⟨rfl,rfl⟩:=u;have C:g.length<=500:=by have:=congrArg MN s;simp at this;lia
   obtain⟨or,hr⟩:=p9 o (show r∈l by rw[s];simp)
   simp![];refine aL (d:=.bl true) (λQ' E' q=>vA or (λF=>by have:=KU F;lia) q) ?_
   simp![];exact G _ _ _ (by simp;exact eI (by lia)) ⟨g++[r],rs,_,by rw[s];simp,rfl,by simp[NU],rfl,rfl⟩
 .rintro x A T6 U N ⟨g,rs,w,s,u,rfl,rfl,rfl⟩
  have C:g.length<=500:=by have:=congrArg MN s;simp at this;lia
  simp;exact eI (by lia)
theorem yA{l:List (List Rw)}{d:Nat}(H:l.length<=10)(G:okM M){Q:List D->Mem->Prop}{b:BxC (af 0) cF (av<|aa (ac 0)<|aa (ak aF (ac 1)<|dC<|.int 1) ae) okM Q}{c:Option D}(h:Q ((l.map λa=>(a,d+1)).map yR) M):dD (af 0) cF (av<|aa (ac 0)<|aa (ak aF (ac 1)<|dC<|.int 1) ae) okM Q b (l.map LP) [] [c,cb (.int (d:Nat))] M:=by
 refine aV (λA T6 U N=>∃(g rs:List (List Rw))(w:Option D),l=g++rs/\A=rs.map LP/\T6=(g.map λa=>(a,d+1)).map yR/\U=[w,cb (.int (d:Nat))]/\N=M) (λ_ _ _ _ z=>by obtain⟨_,_,_,_,_,_,_,e⟩:=z;subst e;exact G) ?_ ?_ ?_ _ _ _ _ ⟨[],l,c,rfl,rfl,rfl,rfl,rfl⟩
 .rintro T6 U N ⟨g,rs,w,s,u,rfl,rfl,rfl⟩
  have:rs=[]:=by cases rs with
   |nil=>rfl
   |cons r rs=>simp at u
  subst this;rw[Mx]at s;rw[<- s];exact h
 .rintro x A T6 U N ⟨g,rs,w,s,u,rfl,rfl,rfl⟩ N' F B
  cases rs with
  |nil=>simp at u
  |cons r rs=>
   simp only[Mo,My]at u;obtain⟨rfl,rfl⟩:=u;have C:g.length<=10:=by have:=congrArg MN s;simp at this;lia
   simp![];refine⟨aQ (by decide),F _ _ _ (by simp;exact eI (by lia)) ⟨g++[r],rs,_,by rw[s];simp,rfl,by simp[yR],rfl,rfl⟩⟩
 .rintro x A T6 U N ⟨g,rs,w,s,u,rfl,rfl,rfl⟩
  have C:g.length<=10:=by have:=congrArg MN s;simp at this;lia
  simp;exact eI (by lia)
theorem ar2{W0:List (List Rw×Nat)}{d:Nat}{B C A:D}{g:Option D}(X:B=oy m TZ TY d3 d4)(H:aJ TY m TZ a)(Y:bd a+d<=4)(la:a.length<=60)(lw:W0.length<=1000)(h:∀g,D2.nx [cb B,cb C,cb (.ref p),cb A,cb (.tup<|ah a),cb (.int (d:Nat)),g] (M.upd p<|.lst<|(W0++within (d+1) a).map yR)):
  gQ ad EE D2 [cb B,cb C,cb (.ref p),cb A,cb (.tup<|ah a),cb (.int (d:Nat)),g] (M.upd p<|.lst<|W0.map yR):=by
 subst X;unfold gQ;refine bY ?_;generalize R:bU (cj<|ac 4) (af 6) (jm ad EE)=F;simp![↓b6];refine yL H Y (by lia) aI λq O=>?_
 simp![Mem.upd_del,ar O,cw,dX];rw[<- R];simp only[bU,cj,ac,aC,bu,Mb,dt];refine bt (λG U N=>∃(e rs:List Rw)(g:Option D),a=e++rs/\G=ah rs/\U=[cb (oy m TZ TY d3 d4),cb C,cb (.ref p),cb A,cb (.tup<|ah a),cb (.int (d:Nat)),g]/\N=M.upd p (.lst<|(W0++within (d+1) e).map yR)) (λ_ _ _ _=>aI) ?_ ?_ _ _ _ ⟨[],a,_,rfl,rfl,rfl,by simp[within]⟩
 .rintro U N ⟨e,rs,g,l,u,rfl,rfl⟩
  have:rs=[]:=by cases rs with
   |nil=>rfl
   |cons r rs=>simp[ah]at u
  subst this;rw[Mx]at l;subst l;exact h _
 .rintro x G U N ⟨e,rs,g,l,u,rfl,rfl⟩ D3 s _ _ _
  cases rs with
  |nil=>simp[ah]at u
  |cons r rs=>
   simp only[ah,My]at u;obtain⟨rfl,rfl⟩:=u;obtain⟨or,_⟩:=p9 H (show r∈a by rw[l];simp)
   have S:=AB r;have I:=gw (d+1) e;have J:e.length<=60:=by have:=congrArg MN l;simp at this;lia
   unfold jm;simp![↓b6];refine bH or ?_;rw[Kg];refine yA (by lia) aI λZ w=>?_
   simp![Mem.upd_del,ar w,Mem.upd_same,Mem.upd_upd];refine⟨aQ ?_,s _ _ ⟨e++[r],rs,_,by rw[l];simp,rfl,rfl,?_⟩⟩
   .simp only[Md,Mg];lia
   .rw[nw,<- Nx,MG]
    simp[within]
theorem qc(o:aJ TY m TZ rows)(hh:bd rows<=4)(hc:cRs rows<=60)(h:Q (.bl true) M):vE ad [oy m TZ TY (.tup<|ah rows) d4] M Q E:=by
 rw[Li];unfold xG lV qp;generalize u:kC ad (az E)=K8;simp![oy,atI_3,g7];refine⟨aQ (by decide),aQ (by decide),λp X=>⟨2*cRs rows+2,?_⟩⟩
 refine ga (λk U N=>∃(W:List (List Rw×Nat))(c:Nat)(J H O F:Option D),k=p7 W/\(∀w∈W,aJ TY m TZ w.1/\bd w.1+w.2<=4)/\c+sC W<=60/\p7 W<=1000/\U=[cb (oy m TZ TY (.tup<|ah rows) d4),cb (.int (c:Nat)),cb (.ref p),J,H,O,F]/\N=M.upd p (.lst<|W.map yR)) ?_ _ (p7 [(rows,0)]) _ _ (by simp only[p7,sC,NA];lia) ⟨[(rows,0)],0,_,_,_,_,rfl,λw e=>by rw[MH]at e;subst e;exact⟨o,by simpa using hh⟩,by simp only[sC];lia,by simp only[p7,sC,NA];lia,rfl,rfl⟩
 rintro k U N ⟨W,c,J,H,O,F,Y,e,G,C,rfl,rfl⟩ D' B hrt
 rcases List.eq_nil_or_concat W with rfl|⟨W0,⟨a,d⟩,rfl⟩
 .simp![List.isEmpty_nil]
  exact jO X h
 .rw[List.concat_eq_append] at*
  have hE:(Rr yR (W0++[(a,d)])).isEmpty=false:=by simp
  have hG:(Rr yR (W0++[(a,d)]))[(Rr yR (W0++[(a,d)])).length-1]?=cb (.tup [.tup (ah a),.int (d:Nat)]):=by simp[yR,LP]
  have S:(Rr yR (W0++[(a,d)])).dropLast=W0.map yR:=by simp
  have g:(ah a).length=a.length:=bi;simp only[p7,Mg,NA,c_,sC,Nat.add_zero]at Y G C;have hin:=nK (d+1) a;have I:=gw (d+1) a;obtain⟨A,R⟩:=e (a,d) (by simp)
  dsimp only at A R;simp![hE];rw[<- u];unfold kC pM pI qd p_ qt;generalize l:gQ ad (az E)=K2;simp![hG,S,atI_0,atI_1,i4,t4,Mem.upd_upd,g];rw[if_neg (by lia),<- l]
  refine ar2 rfl A R (by lia) (by lia) λF=>B (p7 (W0++within (d+1) a)) _ _ ?_ ⟨W0++within (d+1) a,c+a.length,_,_,_,_,rfl,?_,?_,?_,by rw[Qz],rfl⟩
  .simp only[p7,Mg,c_];lia
  .intro w s
   rcases Ms.mp s with z|z
   .exact e w (by simp[z])
   .simp only[within,MS,List.mem_flatMap]at z
    obtain⟨b,⟨r,hr,hb⟩,rfl⟩:=z;obtain⟨or,h1⟩:=p9 A hr;obtain⟨Z,h2⟩:=Kl or hb;exact⟨Z,by show bd b+(d+1)<=4;lia⟩
  .rw[c_];lia
  .simp only[p7,Mg,c_];lia
theorem sf(u:2<=m)(w:m<=997)(k0:0<=TZ)(k1:TZ<=40)(B:∀x∈TY,n8 x)(A:1<=TY.length)(n1:TY.length<=12)(e:(l_ [] TY).length=TY.length)(g:mk∈TY)(o:aJ TY m TZ rows)(l:bd rows<=4)(s:cRs rows<=60)(h:Q (.bl true) M):rL ad [oy m TZ TY (.tup<|ah rows) (.str mk)] M Q E:=by
 simp![JP,wQ,oy,i4,t4,atI_0,atI_1,atI_2,atI_4];rw[if_neg (by decide)]
 refine aL (d:=.bl true) (λQ' E' q=>eE u w q) ?_;simp![atI_2];refine aL (d:=.bl true) (λQ' E' q=>eE k0 k1 q) ?_;simp![atI_1];refine aL (d:=.bl true) (λQ' E' q=>nk B A n1 e q) ?_;simp![atI_4];refine aL (d:=.bl true) (λQ' E' q=>wO g q) ?_;simp![];refine aL (d:=.bl true) (λQ' E' q=>qc o l s q) ?_;simp![];exact aq h
end
mutual
noncomputable def kF(nm:Str)(f:List Int->Option Int)(pl:Ug):Rw->Rw->List Rw
 |.ifr x a b,o=>match o with
  |.ifr _ a' b'=>[.ifr x (bK nm f (pl++[1]) 0 a a') (bK nm f (pl++[0]) 0 b b')]
  |_=>[]
 |.again x a,o=>match o with
  |.again _ a'=>[.again x (bK nm f (pl++[0]) 0 a a')]
  |_=>[]
 |r,o=>match f pl with
  |some k=>[.take nm k,.ifr nm [o] [r]]
  |none=>[r]
noncomputable def bK(nm:Str)(f:List Int->Option Int)(pl:Ug):Nat->List Rw->List Rw->List Rw
 |_,[],_=>[]
 |j,r::rs,os=>match os with
  |[]=>[]
  |o::os=>kF nm f (pl++[(j:Int)]) r o++bK nm f pl (j+1) rs os
end
mutual
theorem mL:∀(r o:Rw)(pl:Ug),∀x∈bz pl r o,∃t,x=pl++t
 |.ifr _ a b,o,pl=>by
  have g:=bq a;have h:=bq b;cases o with
  |ifr y a' b'=>
   intro x hx;simp only[bz,Ms]at hx;rcases hx with hx|hx
   .obtain⟨i,t,_,e⟩:=h _ _ _ x hx
    exact⟨[0]++(i:Int)::t,by rw[e];simp⟩
   .obtain⟨i,t,_,e⟩:=g _ _ _ x hx
    exact⟨[1]++(i:Int)::t,by rw[e];simp⟩
  |_=>intro x hx;cases hx
 |.again _ a,o,pl=>by
  have g:=bq a;cases o with
  |again y a'=>
   intro x hx;obtain⟨i,t,_,e⟩:=g _ _ _ x hx;exact⟨[0]++(i:Int)::t,by rw[e];simp⟩
  |_=>intro x hx;cases hx
 |.put _ _,o,pl=>by intro x hx;simp only[bz]at hx;split at hx<;>simp at hx;exact⟨[],by rw[hx];simp⟩
 |.take _ _,o,pl=>by intro x hx;simp only[bz]at hx;split at hx<;>simp at hx;exact⟨[],by rw[hx];simp⟩
 |.pick _ _,o,pl=>by intro x hx;simp only[bz]at hx;split at hx<;>simp at hx;exact⟨[],by rw[hx];simp⟩
 |.two _ _ _ _,o,pl=>by intro x hx;simp only[bz]at hx;split at hx<;>simp at hx;exact⟨[],by rw[hx];simp⟩
theorem bq:∀(rs os:List Rw)(pl:Ug)(j:Nat),∀x∈aX pl j rs os,∃(i:Nat)(t:Ug),j<=i/\x=pl++(i:Int)::t
 |[],os,pl,j=>by intro x hx;cases hx
 |r::rs,os,pl,j=>by
  cases os with
  |nil=>intro x hx;cases hx
  |cons o os=>
   intro x hx;simp only[aX,Ms]at hx;rcases hx with hx|hx
   .obtain⟨t,e⟩:=mL r o _ x hx
    exact⟨j,t,Mn _,by rw[e];simp⟩
   .obtain⟨i,t,h,e⟩:=bq rs os _ _ x hx
    exact⟨i,t,by lia,e⟩
end
theorem fT{j:Int}{s t:Ug}(h:pl++i::s=pl++j::t):i=j/\s=t:=by
 have:=List.append_cancel_left h;simpa using this
mutual
theorem Cq:∀(r o:Rw)(pl:Ug),(bz pl r o).Nodup
 |.ifr _ a b,o,pl=>by
  have g:=fo a;have l:=fo b;cases o with
  |ifr y a' b'=>
   simp only[bz];refine NV.mpr ⟨l _ _ _,g _ _ _,λx w y h e=>?_⟩;obtain⟨i,s,_,u⟩:=bq _ _ _ _ x w;obtain⟨j,t,_,A⟩:=bq _ _ _ _ y h;rw[u,A]at e;simp only[MG,MX]at e;have:=(fT e).1;lia
  |_=>exact PF
 |.again _ a,o,pl=>by
  have g:=fo a;cases o with
  |again y a'=>exact g _ _ _
  |_=>exact PF
 |.put _ _,o,pl=>by simp only[bz];split<;>simp
 |.take _ _,o,pl=>by simp only[bz];split<;>simp
 |.pick _ _,o,pl=>by simp only[bz];split<;>simp
 |.two _ _ _ _,o,pl=>by simp only[bz];split<;>simp
theorem fo:∀(rs os:List Rw)(pl:Ug)(j:Nat),(aX pl j rs os).Nodup
 |[],os,pl,j=>by simp[aX]
 |r::rs,os,pl,j=>by
  cases os with
  |nil=>simp[aX]
  |cons o os=>
   simp only[aX];refine NV.mpr ⟨Cq r o _,fo rs os _ _,λx l y g e=>?_⟩;obtain⟨t,h⟩:=mL r o _ x l;obtain⟨i,u,w,s⟩:=bq _ _ _ _ y g;rw[h,s]at e;simp only[MG,MX]at e;have:=(fT e).1;lia
end
mutual
def nbR(L:Uf)(pl:Ug):Rw->Rw->Prop
 |.ifr _ a b,o=>match o with
  |.ifr _ a' b'=>pl∉L/\m9 L (pl++[1]) 0 a a'/\m9 L (pl++[0]) 0 b b'
  |_=>True
 |.again _ a,o=>match o with
  |.again _ a'=>pl∉L/\m9 L (pl++[0]) 0 a a'
  |_=>True
 |_,_=>True
def m9(L:Uf)(pl:Ug):Nat->List Rw->List Rw->Prop
 |_,[],_=>True
 |j,r::rs,os=>match os with
  |[]=>True
  |o::os=>nbR L (pl++[(j:Int)]) r o/\m9 L pl (j+1) rs os
end
theorem p6{t:Ug}{c:Int}:pl≠pl++[c]++i::t:=λe=>by
 have:=congrArg MN e;simp at this
mutual
theorem BY(L:Uf):∀(r o:Rw)(pl:Ug),(∀x∈L,(∃t,x=pl++t)->x∈bz pl r o)->nbR L pl r o
 |.ifr _ a b,o,pl=>by
  have l:=fL L a;have w:=fL L b;cases o with
  |ifr y a' b'=>
   intro H;simp only[bz,Ms]at H;refine⟨λu=>?_,l _ _ _ λx h ⟨i,t,_,e⟩=>?_,w _ _ _ λx h ⟨i,t,_,e⟩=>?_⟩
   .rcases H _ u ⟨[],by simp⟩ with z|z
    .obtain⟨i,t,_,e⟩:=bq _ _ _ _ _ z
     exact p6 e
    .obtain⟨i,t,_,e⟩:=bq _ _ _ _ _ z
     exact p6 e
   .rcases H x h ⟨[1]++(i:Int)::t,by rw[e];simp⟩ with z|z
    .obtain⟨j,s,_,g⟩:=bq _ _ _ _ _ z
     rw[e]at g;simp only[MG,MX]at g;have:=(fT g).1;lia
    .exact z
   .rcases H x h ⟨[0]++(i:Int)::t,by rw[e];simp⟩ with z|z
    .exact z
    .obtain⟨j,s,_,g⟩:=bq _ _ _ _ _ z
     rw[e]at g;simp only[MG,MX]at g;have:=(fT g).1;lia
  |_=>intro _;trivial
 |.again _ a,o,pl=>by
  have l:=fL L a;cases o with
  |again y a'=>
   intro H;simp only[bz]at H;refine⟨λu=>?_,l _ _ _ λx h ⟨i,t,_,e⟩=>H x h ⟨[0]++(i:Int)::t,by rw[e];simp⟩⟩
   obtain⟨i,t,_,e⟩:=bq _ _ _ _ _ (H _ u ⟨[],by simp⟩)
   exact p6 e
  |_=>intro _;trivial
 |.put _ _,o,pl=>λ_=>trivial
 |.take _ _,o,pl=>λ_=>trivial
 |.pick _ _,o,pl=>λ_=>trivial
 |.two _ _ _ _,o,pl=>λ_=>trivial
theorem fL(L:Uf):∀(rs os:List Rw)(pl:Ug)(j:Nat),(∀x∈L,(∃(i:Nat)(t:Ug),j<=i/\x=pl++(i:Int)::t)->x∈aX pl j rs os)->m9 L pl j rs os
 |[],os,pl,j=>λ_=>trivial
 |r::rs,os,pl,j=>by
  cases os with
  |nil=>intro _;trivial
  |cons o os=>
   intro H;simp only[aX,Ms]at H;refine⟨BY L r o _ λx h ⟨t,e⟩=>?_,fL L rs os _ _ λx h ⟨i,t,l,e⟩=>?_⟩
   .rcases H x h ⟨j,t,Mn _,by rw[e];simp⟩ with z|z
    .exact z
    .obtain⟨i,s,l,g⟩:=bq _ _ _ _ _ z
     rw[e]at g;simp only[MG,MX]at g;have:=(fT g).1;lia
   .rcases H x h ⟨i,t,by lia,e⟩ with z|z
    .obtain⟨s,g⟩:=mL _ _ _ _ z
     rw[e]at g;simp only[MG,MX]at g;have:=(fT g).1;lia
    .exact z
end
noncomputable def cQ(rs os:List Rw):List (List Int):=Bz fc (aX [] 0 rs os)
theorem J9(rs os:List Rw):(cQ rs os).Nodup:=(bV fc _).nodup_iff.mpr (fo rs os [] 0)
theorem A8(rs os:List Rw):m9 (cQ rs os) [] 0 rs os:=fL _ rs os [] 0 λx e _=>(bV fc _).mem_iff.mp e
noncomputable def bJ(L:Uf)(TZ:Int)(pl:Ug):Option Int:=(L.findIdx? (·==pl)).map λi=>TZ+(i:Int)
noncomputable def lettersS:Str:="abcdefghijklmnopqrstuvwxyz"
noncomputable def L26:List Str:=lettersS.cps.toList.map λc=>⟨#[c]⟩
theorem Dd:eh lettersS=L26.map D.str:=by simp only[eh,L26,NX];rfl
theorem IP:L26.Nodup:=by decide +kernel
theorem qi:L26.length=26:=by decide +kernel
theorem zN:∀(a b:Uh),a.Nodup->(∀x∈a,x∈b)->a.length<=b.length
 |[],b,_,_=>MY _
 |x::a,b,nd,h=>by
  rw[NG]at nd;have l:=h x (by simp)
  have:=zN a (b.erase x) nd.2 λy g=>(List.mem_erase_of_ne (λe:y=x=>nd.1 (e▸g))).mpr (h y<|by simp[g])
  rw[List.length_erase_of_mem l]at this;have s:0<b.length:=List.length_pos_of_mem l;rw[Mc];lia
theorem AJ(h:TY.length<=12):∃x∈L26,x∉TY:=by
 refine Qk λg=>?_;have:=zN L26 TY IP λx e=>Qk λz=>g ⟨x,e,z⟩;rw[qi]at this;lia
noncomputable def cM(TY:Uh):Str:=(L26.filter λx=>!decide (x∈TY)).headD ""
theorem kS(s:TY.length<=12):∃t,(L26.filter λx=>!decide (x∈TY))=cM TY::t:=by
 obtain⟨x,l,h⟩:=AJ s;have g:x∈L26.filter λx=>!decide (x∈TY):=Pq.mpr ⟨l,by simp[h]⟩
 unfold cM;cases e:L26.filter λx=>!decide (x∈TY) with
 |nil=>rw[e]at g;cases g
 |cons a t=>exact⟨t,rfl⟩
theorem qg(g:TY.length<=12):cM TY∈L26/\cM TY∉TY:=by
 obtain⟨t,e⟩:=kS g;have:cM TY∈L26.filter λx=>!decide (x∈TY):=by rw[e];simp
 obtain⟨a,b⟩:=Pq.mp this;exact⟨a,by simpa using b⟩
section
variable{te:bj}
theorem wT{tt:fg}{ok:Mem->Prop}{Q:List D->Mem->Prop}{b:BxC (af 0) tt te ok Q}{e:Dl}{c:Option D}{xs:List D}(p:D->Bool)(f:D->D)(J:ok M)(R:xs.length<=100000)(O:∀x∈xs,∀K:Bool->Mem->Prop,K (p x) M->tt (cb x::e) M K)(I:∀x∈xs,p x=true->∀K:DK,K (f x) M->te (cb x::e) M K)(h:Q ((xs.filter p).map f) M):
  dD (af 0) tt te ok Q b xs [] (c::e) M:=by
 refine aV (λB T6 U N=>∃(g:List D)(u:Option D),xs=g++B/\T6=(g.filter p).map f/\U=u::e/\M=N) (λ_ _ _ _ z=>by obtain⟨_,_,_,_,_,rfl⟩:=z;exact J) ?_ ?_ ?_ _ _ _ _ ⟨[],c,rfl,rfl,rfl,rfl⟩
 .rintro T6 U N ⟨g,u,l,rfl,rfl,rfl⟩
  rw[Mx]at l;subst l;exact h
 .rintro y B T6 U N ⟨g,u,l,rfl,rfl,rfl⟩ N' C w
  have G:y∈xs:=by rw[l];simp
  have s:((g.filter p).map f).length<sizeLine:=by
   have H:(g.filter p).length<=g.length:=Np ..;have F:=congrArg MN l;rw[Mg]at F;rw[Md];exact eI (by lia)
  refine O y G (λc M3=>if c=true then te (cb y::e) M3 λz M4=>N' true z (cb y::e) M4 else N' eH .non (cb y::e) M3) ?_
  cases A:p y with
  |true=>
   rw[if_pos rfl];exact I y G A _ (C _ _ _ s ⟨g++[y],_,by rw[l];simp,by simp[A],rfl,rfl⟩)
  |false=>
   rw[if_neg (by simp)]
   exact w _ _ _ ⟨g++[y],_,by rw[l];simp,by simp[A],rfl,rfl⟩
 .rintro y B T6 U N ⟨g,u,l,rfl,rfl,rfl⟩
  have H:(g.filter p).length<=g.length:=Np ..;have F:=congrArg MN l;rw[Mg]at F;rw[Md];exact eI (by lia)
theorem Bg{ok:Mem->Prop}{Q:List D->Mem->Prop}{b:BxC (af 0) cF te ok Q}{e:Dl}{c:Option D}{xs:List D}(f:D->D)(s:ok M)(u:xs.length<=100000)(l:∀x∈xs,∀K:DK,K (f x) M->te (cb x::e) M K)(h:Q (xs.map f) M):dD (af 0) cF te ok Q b xs [] (c::e) M:=by
 refine wT (λ_=>true) f s u (λx _ K q=>q) (λx g _=>l x g) ?_;rw[List.filter_eq_self.mpr λ_ _=>rfl];exact h
theorem pq:iQ M (.str x) (.tup<|TY.map D.str)=cb (decide (x∈TY)):=by
 simp only[iQ,aC,dv,bN,iF,and_self,if_true,mm]
theorem qC(C:TY.length<=12)(h:Q (.str<|cM TY) M):wV ad [.tup (TY.map D.str)] M Q E:=by
 rw[KC];unfold wD;generalize J:k9 ad (az E)=K;simp only[al,ap,bn,aa,dC,ae,qo];refine⟨by decide +kernel,λp G=>?_⟩
 simp only[af,Mu];rw[<- J];unfold k9;generalize p5 ad (az E)=K1;generalize u:k7 ad (az E)=K2;rw[show eh (Mq "abcdefghijklmnopqrstuvwxyz")=L26.map D.str from Dd];obtain⟨t,O⟩:=kS C;have w:(L26.all λx=>decide (x∈TY))=false:=by
  obtain⟨x,l,F⟩:=AJ C;exact List.all_eq_false.mpr ⟨x,l,by simp[F]⟩
 refine⟨1,?_⟩;show bO (bn mZ<|aa (am<|b6 (cj<|ac 1) ["name"] [0] (af 0) cF<|ak qO (ac 0)<|ac 1) ae) _ _ _;simp only[Mu,bO,bn,aa,am,ae,b6,cj,ac,aC,bu,Mem.upd_same,Mb,dt];have B:∀A,DIt.ok ⟨A,[(p,L26.map D.str)]⟩ (M.upd p<|.lst<|L26.map D.str):=λA b H=>by
  have:b=(p,L26.map D.str):=by simpa using H
  subst this;exact Mem.upd_same
 have e:(L26.map D.str).length<=100000:=by rw[Md,qi];lia
 refine Bg (λd=>.bl (match d with|.str x=>decide (x∈TY)|_=>eH)) (B _) e (λx l K g=>?_) ?_
 .obtain⟨y,_,rfl⟩:=MS.mp l
  show qO _ _ _ _;simp only[qO,pq];exact g
 .intro q g
  have I:(L26.map D.str).map (λd=>D.bl (match d with|.str x=>decide (x∈TY)|_=>eH))=(L26.map λx=>decide (x∈TY)).map D.bl:=by rw[NX,NX];rfl
  have R:(L26.map λx=>decide (x∈TY)).all id=false:=by rw[List.all_map];exact w
  simp only[frz,Mem.upd_same,Mem.upd_del,ar g,mZ,cX,aC,I,o5,R,vN,if_false];rw[if_neg MC,<- u];unfold k7;simp only[ax,ak,am,b6,cj,ac,aC,bu,Mem.upd_same,Mb,dt,dC];refine wT (λd=>match d with|.str x=>!decide (x∈TY)|_=>eH) id (B _) e (λx l K g=>?_) (λx l _ K g=>g) ?_
  .obtain⟨y,_,rfl⟩:=MS.mp l
   show ao (ak gu (ac 0)<|ac 1) [cb (.str y),cb (.tup<|TY.map D.str)] _ _;simp only[ao,ak,ac,Mb,dt,gu,pq];exact g
  .intro X s
   have S:(L26.map D.str).filter (λd=>match d with|.str x=>!decide (x∈TY)|_=>eH)=(L26.filter λx=>!decide (x∈TY)).map D.str:=by rw[List.filter_map];rfl
   rw[List.map_id,S,O];simp only[frz,Mem.upd_same,Mem.upd_del,ar s,aw,aC,Mo,bE (show (0:Int)<=0 by lia)]
   exact jO G h
end
theorem G8{k:Nat}(h:k<26):∃c,lettersS.cps.toList[k]?=cb c/\L26[k]?=cb ⟨#[c]⟩:=by
 have e:lettersS.cps.toList.length=26:=by decide +kernel
 refine⟨lettersS.cps.toList[k]'(by lia),Mi _,?_⟩
 rw[L26,Mw,Mi (by lia)]
 rfl
theorem yc(G:TY.length<=12):∃k,k<26/\L26[k]?=cb (cM TY)/\∀j x,j<k->L26[j]?=cb x->x∈TY:=by
 obtain⟨t,e⟩:=kS G;have s:∀(l:Uh)(y:Str)(u:Uh),(l.filter λx=>!decide (x∈TY))=y::u->∃k,k<l.length/\l[k]?=cb y/\∀j x,j<k->l[j]?=cb x->x∈TY:=by
  intro l
  induction l with
  |nil=>intro y u h;cases h
  |cons a l ih=>
   intro y u h
   by_cases C:a∈TY
   .rw[List.filter_cons_of_neg (by simp[C])]at h
    obtain⟨k,g,w,A⟩:=ih y u h;refine⟨k+1,by simpa using g,by simpa using w,λj x F B=>?_⟩
    cases j with
    |zero=>simp at B;rw[<- B];exact C
    |succ j=>exact A j x (by lia) (by simpa using B)
   .rw[List.filter_cons_of_pos (by simp[C])]at h
    cases h;exact⟨0,by simp,rfl,λj x F=>by lia⟩
 obtain⟨k,g,w,A⟩:=s L26 _ _ e;exact⟨k,by rw[qi]at g;exact g,w,A⟩
section
theorem lC(I:TY.length<=12)(h:Q (.str<|cM TY) M):BL ad [.tup (TY.map D.str)] M Q E:=by
 rw[u_q1];unfold Cp uG;generalize C:oV ad (az E)=K2;simp only[al,ap,dC,af,Mu,bU,og,aa,ak,ae,aF];obtain⟨k,Y,H,A⟩:=yc I;refine⟨by decide,by decide,?_⟩
 refine bt (λu U N=>N=M/\∃(j:Nat)(F w:Option D),j<=k/\U=[cb (.tup<|TY.map D.str),cb (.str lettersS),F,w]/\u=(iq 0 702).drop j) (λ_ _ _ _=>aI) ?_ ?_ _ _ _ ⟨rfl,0,ed,ed,MY _,rfl,rfl⟩
 .rintro U N ⟨rfl,j,F,w,O,rfl,e⟩
  have:=congrArg MN e;simp[iq]at this;lia
 .rintro x u U N ⟨rfl,j,F,w,O,rfl,e⟩ D' R _ B _
  have X:x=.int (j:Nat)/\u=(iq 0 702).drop (j+1):=by
   have s:j<(iq 0 702).length:=by simp[iq];lia
   rw[NQ s]at e;simp only[My]at e;refine⟨?_,e.2⟩;rw[e.1];simp[iq]
  obtain⟨rfl,rfl⟩:=X;obtain⟨c,S,g⟩:=G8 (show j<26 by lia)
  have J:atI lettersS.cps.toList ((j:Nat):Int)=cb c:=by rw[bE (by lia)];simpa using S
  rw[<- C];unfold oV ua;simp only[af,Mu,al,ap,qh,ao,ak,ac,dC,Mb,dt,yM,aw,aC,J];show if decide (((j:Nat):Int)<26)=true then _ else _
  rw[if_pos (by simp;lia)]
  refine⟨aQ (by decide +kernel),?_⟩
  simp only[aA,ao,ak,ac,Mb,dt,gu,pq]
  by_cases l:(⟨#[c]⟩:Str)∈TY
  .rw[decide_eq_true l]
   refine R _ _ ⟨rfl,j+1,_,_,?_,rfl,rfl⟩;rcases Nl j k with z|z
   .lia
   .have:j=k:=by lia
    subst this;rw[H]at g;rw[<- MQ g]at l;exact absurd l (qg I).2
  .rw[decide_eq_false l]
   show D'.rt _ _;rw[B];have G:j=k:=by
    rcases Nl j k with z|z
    .exact absurd (A j _ z g) l
    .lia
   subst G;rw[H]at g;rw[<- MQ g];exact aq h
end
def Iy(ad:Ad)(L:Uf)(nm:Str)(TY:Uh)(m TZ:Int)(n:Nat):Prop:=∀(rs os:List Rw)(pl:Ug)(M:Mem)(Q:DK)(E:DX),aJ TY m TZ rs->bw rs os=true->bd rs<n->cRs rs<=1000->pl.length+1+2*bd rs<=900->
 Q (.tup<|ah<|bK nm (bJ L TZ) pl 0 rs os) M->RF ad n [.tup (ah rs),.tup (ah os),tupD pl,.lst (L.map tupD),.str nm,.int TZ] M Q E
theorem rT:∀a b:List Int,cG (a.map D.int) (b.map D.int)=decide (a=b)
 |[],[]=>by simp[cG]
 |[],_::_=>by simp[cG]
 |_::_,[]=>by simp[cG]
 |x::a,y::b=>by
  simp only[Mo,cG,rT a b,aH]
  by_cases e:x=y<;>simp[e]
theorem pz(a b:Ug):aH (tupD a) (tupD b)=decide (a=b):=by
 simp only[tupD,aH];exact rT a b
theorem wX{n:Nat}:∀a:List Int,fits n (a.map D.int)=true
 |[]=>by simp[fits]
 |x::a=>by simp[fits,bN,wX a]
theorem mE(a:Ug):bN (n+1) (tupD a)=true:=by
 simp only[tupD,bN];exact wX a
theorem iE{n:Nat}:∀L:List (List Int),fits (n+1) (L.map tupD)=true
 |[]=>by simp[fits]
 |a::L=>by rw[Mo,fits,mE,iE L];rfl
theorem B6:iQ M (tupD pl) (.lst<|L.map tupD)=cb (decide (pl∈L)):=by
 have e:dv M (tupD pl)=tupD pl:=rfl;have:(L.map tupD).any (λd=>aH d (tupD pl))=decide (pl∈L):=by
  rw[List.any_map]
  by_cases h:pl∈L
  .rw[decide_eq_true h]
   exact List.any_eq_true.mpr ⟨pl,h,by simp[Function.comp,pz]⟩
  .rw[decide_eq_false h]
   refine P8.mpr λx g=>?_;simp only[Function.comp,pz];simp only[decide_eq_true_eq];exact λe=>h (e▸g)
 simp only[iQ,aC,e,mE (n:=59),iE (n:=59),and_self,if_true,this]
theorem xD{pl:Ug}:∀L:List (List Int),(L.map tupD).findIdx? (λy=>aH y (tupD pl))=L.findIdx? (·==pl)
 |[]=>rfl
 |a::L=>by
  rw[Mo,Oz,Oz,xD L,pz];have:(a==pl)=decide (a=pl):=by by_cases e:a=pl<;>simp[e]
  rw[this]
theorem Bm(h:pl∈L):∃j:Nat,L.findIdx? (·==pl)=cb j/\bJ L TZ pl=cb (TZ+(j:Int)):=by
 cases e:L.findIdx? (·==pl) with
 |none=>exact absurd (Ov.mp e pl h) (by simp)
 |some j=>exact⟨j,rfl,by simp[bJ,e]⟩
theorem pU(h:pl∉L):bJ L TZ pl=none:=by
 have:L.findIdx? (·==pl)=none:=Ov.mpr λx g=>by
  have:x≠pl:=λe=>h (e▸g);simp[this]
 simp[bJ,this]
section
variable{nm:Str}{rsD plD:D}{c10 c11 c12 c13:Option D}
def Dp(D2:DEnds)(M:Mem)(rsD plD:D)(L:Uf)(nm:Str)(TZ:Int)(os T6:List Rw)(j:Nat)(r:D)(hr:Ug)(new:List Rw):Prop:=∀c10 c11 c12 c13,D2.nx [cb rsD,cb (.tup<|ah os),cb plD,cb (.lst<|L.map tupD),cb (.str nm),cb (.int TZ),cb (.tup<|ah (T6++new)),cb (.int (j:Nat)),cb r,cb (tupD hr),c10,c11,c12,c13] M
theorem jq(s:Iy ad L nm TY m TZ n){u:BxQ EE λd M'=>frz d M' K}(ok:aJ TY m TZ rs)(k:bw rs os=true)(w:bd rs<n)(g:cRs rs<=1000)(l:pl.length+1+2*bd rs<=900)(h:K (.tup<|ah<|bK nm (bJ L TZ) pl 0 rs os) M):
  calls (RF ad n) EE [.tup (ah rs),.tup (ah os),tupD pl,.lst (L.map tupD),.str nm,.int TZ] M (λd M'=>frz d M' K) u:=
 au λQ' E' e _=>s rs os pl M Q' E' ok k w g l (e _ _ h)
theorem LV(u:Iy ad L nm TY m TZ n)(e:atI (ah os) (j:Nat)=cb (Rw.again y a').d)(ok:bX TY m TZ (.again x a))(k:ff (.again x a) (.again y a')=true)(w:hR (.again x a)<=n)(l:cR (.again x a)<=1000)(s:hr.length+2*hR (.again x a)<=900)(A:T6.length<=100000)(h:Dp D2 M rsD plD L nm TZ os T6 j (Rw.again x a).d hr (kF nm (bJ L TZ) hr (.again x a)<|.again y a')):
  gU ad (RF ad n) EE D2 [cb rsD,cb (.tup<|ah os),cb plD,cb (.lst<|L.map tupD),cb (.str nm),cb (.int TZ),cb (.tup<|ah T6),cb (.int (j:Nat)),cb (Rw.again x a).d,cb (tupD hr),c10,c11,c12,c13] M:=by
 simp only[hR,cR]at w l s;have i2:∀(z:Str)(b:List Rw),atI [D.str (Mq "again"),.str z,.tup (ah b)] 2=cb (.tup<|ah b):=λz b=>by rw[atI_2];rfl
 have i1:∀(z:Str)(b:List Rw),atI [D.str (Mq "again"),.str z,.tup (ah b)] 1=cb (.str z):=λz b=>by rw[atI_1];rfl
 simp only[ff,MA]at k;unfold gU;generalize g:kK ad (RF ad n) EE=K;simp only[Rw.d]at e ⊢;simp only[al,ap,am,aj,aa,ac,ak,dC,av,ae,aw,aC,i2,e,Mb,dt];refine⟨aQ (by simp),ca (by lia) ⟨rfl,jq u ok.2 k.2 (by lia) (by lia) (by simp;lia) ?_⟩⟩
 simp only[af,Mu];rw[<- g];unfold kK;simp only[ap,ak,ac,av,aa,dC,ae,aw,aC,i1,af,Mu,Mb,dt,aF];refine⟨aQ (by simp),aQ (by simp),aQ (by simp only[bi,Mc,Mv];lia),?_⟩
 have:=h c10 c11 (cb<|.tup<|ah<|bK nm (bJ L TZ) (hr++[0]) 0 a a') c13;rw[aZ]at this;exact this
theorem Lh(l:Iy ad L nm TY m TZ n){b b':List Rw}(g:atI (ah os) (j:Nat)=cb (Rw.ifr y a' b').d)(ok:bX TY m TZ (.ifr x a b))(k:ff (.ifr x a b) (.ifr y a' b')=true)(A:hR (.ifr x a b)<=n)(u:cR (.ifr x a b)<=1000)(w:hr.length+2*hR (.ifr x a b)<=900)(B:T6.length<=100000)(h:Dp D2 M rsD plD L nm TZ os T6 j (Rw.ifr x a b).d hr (kF nm (bJ L TZ) hr (.ifr x a b)<|.ifr y a' b')):
  gZ ad (RF ad n) EE D2 [cb rsD,cb (.tup<|ah os),cb plD,cb (.lst<|L.map tupD),cb (.str nm),cb (.int TZ),cb (.tup<|ah T6),cb (.int (j:Nat)),cb (Rw.ifr x a b).d,cb (tupD hr),c10,c11,c12,c13] M:=by
 simp only[hR,cR]at A u w;have i2:∀(z:Str)(b c:List Rw),atI [D.str (Mq "if"),.str z,.tup (ah b),.tup (ah c)] 2=cb (.tup<|ah b):=λz b c=>by rw[atI_2];rfl
 have i3:∀(z:Str)(b c:List Rw),atI [D.str (Mq "if"),.str z,.tup (ah b),.tup (ah c)] 3=cb (.tup<|ah c):=λz b c=>by rw[atI_3];rfl
 have i1:∀(z:Str)(b c:List Rw),atI [D.str (Mq "if"),.str z,.tup (ah b),.tup (ah c)] 1=cb (.str z):=λz b c=>by rw[atI_1];rfl
 simp only[ff,MA]at k;unfold gZ;generalize s:kn ad (RF ad n) EE=K;simp only[Rw.d]at g ⊢;simp only[al,ap,am,aj,aa,ac,ak,dC,av,ae,aw,aC,i2,g,Mb,dt];refine⟨aQ (by simp),ca (by lia) ⟨rfl,jq l ok.2.1 k.2.1 (by lia) (by lia) (by simp;lia) ?_⟩⟩
 simp only[af,Mu];rw[<- s];unfold kn;generalize e:kJ ad (RF ad n) EE=K1;simp only[al,ap,am,aj,aa,ac,ak,dC,av,ae,aw,aC,i3,g,Mb,dt];refine⟨aQ (by simp),ca (by lia) ⟨rfl,jq l ok.2.2 k.2.2 (by lia) (by lia) (by simp;lia) ?_⟩⟩
 simp only[af,Mu];rw[<- e];unfold kJ;simp only[ap,ak,ac,av,aa,dC,ae,aw,aC,i1,af,Mu,Mb,dt,aF];refine⟨aQ (by simp),aQ (by simp),aQ (by simp only[bi,Mc,Mv];lia),?_⟩
 have:=h (cb<|.tup<|ah<|bK nm (bJ L TZ) (hr++[1]) 0 a a') (cb<|.tup<|ah<|bK nm (bJ L TZ) (hr++[0]) 0 b b') c12 c13;rw[aZ]at this;exact this
theorem fF(h:aO r=eH):kF nm f hr r o=(match f hr with|some k=>[.take nm k,.ifr nm [o] [r]]|none=>[r]):=by
 cases r<;>first|rfl|cases h
theorem Dy(B:aO r=eH)(A:L.length<=1000)(C:atI (ah os) (j:Nat)=cb o.d)(F:T6.length<=100000)(h:Dp D2 M rsD plD L nm TZ os T6 j r.d hr (kF nm (bJ L TZ) hr r o)):
  gX ad (RF ad n) EE D2 [cb rsD,cb (.tup<|ah os),cb plD,cb (.lst<|L.map tupD),cb (.str nm),cb (.int TZ),cb (.tup<|ah T6),cb (.int (j:Nat)),cb r.d,cb (tupD hr),c10,c11,c12,c13] M:=by
 rw[fF B]at h;unfold gX;generalize e:jz ad (RF ad n) EE=K7;generalize l:jN ad (RF ad n) EE=K8;simp only[aA,ao,ak,ac,Mb,dt,qO,B6]
 by_cases c:hr∈L
 .rw[decide_eq_true c]
  obtain⟨i,u,w⟩:=Bm (TZ:=TZ) c;rw[w]at h;show K7 _ _ _;rw[<- e];unfold jz;generalize g:k4 ad (RF ad n) EE=K6;simp only[al,ap,av,aa,dC,ac,am,ak,fJ,ae,cu,io,Mb,dt];have s:dv M (tupD hr)=tupD hr:=rfl;refine⟨trivial,by rw[Md];exact A,by rw[s];exact mE (n:=59) hr,iE (n:=59) L,?_⟩
  rw[s,xD,u];simp only[aF,frz];refine⟨aQ (by simp),?_⟩
  simp only[af,Mu];rw[<- g];unfold k4;simp only[ap,ak,ac,av,aa,dC,ae,aw,aC,C,af,Mu,Mb,dt,aF];refine⟨aQ (by simp),aQ (by simp),aQ (by simp),aQ (by simp),aQ (by simp only[bi,Mc,Mv];lia),?_⟩
  have:=h c10 c11 c12 (cb<|.tup [.str (Mq "take"),.str nm,.int (TZ+(i:Int))]);rw[aZ]at this;exact this
 .rw[decide_eq_false c]
  rw[pU c]at h;show K8 _ _ _;rw[<- l];unfold jN;simp only[ap,ak,ac,av,aa,ae,af,Mu,Mb,dt,aF];refine⟨aQ (by simp),aQ (by simp only[bi,Mc,Mv];lia),?_⟩
  have:=h c10 c11 c12 c13;rw[aZ]at this;exact this
end
section
variable{nm:Str}
theorem Ch(hL:L.length<=1000)(Y:Iy ad L nm TY m TZ n){g:D}{c9 w u s l:Option D}(O:atI (ah os) (j:Nat)=cb o.d)(ok:bX TY m TZ r)(k:ff r o=true)(Z:hR r<=n)(X:cR r<=1000)(hl:pl.length+1+2*hR r<=900)(R:T6.length<=100000)(h:Dp D2 M g (tupD pl) L nm TZ os T6 j r.d (pl++[(j:Int)]) (kF nm (bJ L TZ) (pl++[(j:Int)]) r o)):
  fB ad (RF ad n) EE D2 [cb g,cb (.tup<|ah os),cb (tupD pl),cb (.lst<|L.map tupD),cb (.str nm),cb (.int TZ),cb (.tup<|ah T6),cb (.int (j:Nat)),cb r.d,c9,w,u,s,l] M:=by
 have B:(pl++[(j:Int)]).length+2*hR r<=900:=by simp;lia
 unfold fB;generalize F:ie ad (RF ad n) EE=K11;simp only[al,ap,ak,ac,av,aa,ae,Mb,dt];refine⟨aQ (by simp),ca (by lia) ?_⟩
 simp only[af,Mu];rw[<- F];unfold ie;have w1:=nO ok;have w2:=rE ok;generalize I:gZ ad (RF ad n) EE=K3;generalize C:h7 ad (RF ad n) EE=K10;have t3:fG r=true->K3 D2 [cb g,cb (.tup<|ah os),cb (tupD pl),cb (.lst<|L.map tupD),cb (.str nm),cb (.int TZ),cb (.tup<|ah T6),cb (.int (j:Nat)),cb r.d,cb (tupD (pl++[(j:Int)])),w,u,s,l] M:=λA=>by
  rw[<- I];cases r with
  |ifr x a b=>
   cases o with
   |ifr y a' b'=>exact Lh Y O ok k Z X B R h
   |_=>cases k
  |_=>cases A
 have G:fG r=eH->K10 D2 [cb g,cb (.tup<|ah os),cb (tupD pl),cb (.lst<|L.map tupD),cb (.str nm),cb (.int TZ),cb (.tup<|ah T6),cb (.int (j:Nat)),cb r.d,cb (tupD (pl++[(j:Int)])),w,u,s,l] M:=λe=>by
  rw[<- C];unfold h7;generalize J:gU ad (RF ad n) EE=K5;generalize H:gX ad (RF ad n) EE=K9;have t5:nc r=true->K5 D2 [cb g,cb (.tup<|ah os),cb (tupD pl),cb (.lst<|L.map tupD),cb (.str nm),cb (.int TZ),cb (.tup<|ah T6),cb (.int (j:Nat)),cb r.d,cb (tupD (pl++[(j:Int)])),w,u,s,l] M:=λA=>by
   rw[<- J];cases r with
   |again x a=>
    cases o with
    |again y a'=>exact LV Y O ok k Z X B R h
    |_=>cases k
   |_=>cases A
  have S:nc r=eH->K9 D2 [cb g,cb (.tup<|ah os),cb (tupD pl),cb (.lst<|L.map tupD),cb (.str nm),cb (.int TZ),cb (.tup<|ah T6),cb (.int (j:Nat)),cb r.d,cb (tupD (pl++[(j:Int)])),w,u,s,l] M:=λA=>by
   rw[<- H];exact Dy (by cases r<;>first|rfl|(cases e;done)|(cases A;done)) hL O R h
  rw[fE]at t5 S ⊢;simp only[aA,ao,ak,ac,dC,aw,aC,atI_0,ci,dv,aH,bN,Mb,dt];rw[w2];refine⟨trivial,trivial,?_⟩;cases c:nc r with
  |true=>exact t5 c
  |false=>exact S c
 rw[fE]at t3 G ⊢;simp only[aA,ao,ak,ac,dC,aw,aC,atI_0,ci,dv,aH,bN,Mb,dt];rw[w1];refine⟨trivial,trivial,?_⟩;cases c:fG r with
 |true=>exact t3 c
 |false=>exact G c
theorem mr{f:List Int->Option Int}{pl:Ug}:∀{a a' b b':List Rw}{j:Nat},a.length=a'.length->bK nm f pl j (a++b) (a'++b')=bK nm f pl j a a'++bK nm f pl (j+a.length) b b'
 |[],[],b,b',j,_=>by simp[bK]
 |[],_::_,_,_,_,h=>by simp at h
 |_::_,[],_,_,_,h=>by simp at h
 |r::a,o::a',b,b',j,h=>by
  simp only[Nk,bK,MG,Mc];rw[mr (a:=a) (a':=a') (by simpa using h)]
  rw[show j+1+a.length=j+(a.length+1) by lia]
theorem xQ(r o:Rw):(kF nm f pl r o).length<=2:=by
 cases r<;>cases o<;>simp only[kF]<;>first|(split<;>simp)|simp
theorem lx{f:List Int->Option Int}{pl:Ug}:∀(a b:List Rw)(j:Nat),(bK nm f pl j a b).length<=2*a.length
 |[],_,_=>by simp[bK]
 |r::a,[],_=>by simp[bK]
 |r::a,o::b,j=>by
  have e:=xQ (nm:=nm) (f:=f) (pl:=pl++[(j:Int)]) r o;have g:=lx (f:=f) (pl:=pl) a b (j+1);simp only[bK,Mg,Mc];lia
theorem BK(hL:L.length<=1000)(ih:Iy ad L nm TY m TZ n):Iy ad L nm TY m TZ (n+1):=by
 intro rs os pl M Q E ok k hn hc hl h;rw[Jt (n:=n)];unfold wy mP;generalize hK:fB ad (RF ad n) (az E)=K;simp only[al,ap,av,ae];refine⟨aQ (by simp),?_⟩
 simp only[af,Mu,bU,e_,aa,ac,ae,aC,bu,cC,Mb,dt]
 refine bt (λY U N=>N=M/\∃(l e B g:List Rw)(S R X u s A w:Option D),rs=l++B/\os=e++g/\l.length=e.length/\Y=bA l.length (ah B)/\U=[cb (.tup<|ah rs),cb (.tup<|ah os),cb (tupD pl),cb (.lst<|L.map tupD),cb (.str nm),cb (.int TZ),cb (.tup<|ah<|bK nm (bJ L TZ) pl 0 l e),S,R,X,u,s,A,w]) (λ_ _ _ _=>aI) ?_ ?_ _ _ _
  ⟨rfl,[],[],rs,os,_,_,_,_,_,_,_,rfl,rfl,rfl,cC _,rfl⟩
 .rintro U N ⟨rfl,l,e,B,g,S,R,X,u,s,A,w,I,H,C,G,rfl⟩
  have ez:B=[]:=by cases B with|nil=>rfl|cons _ _=>simp[ah,bA]at G
  have F:=dW k;subst ez;rw[Mx]at I;subst I;have O:g=[]:=by
   rw[H,Mg]at F;exact N7 (by lia)
  subst O;rw[Mx]at H;subst H;simp only[ax,ac,Mb,dt];exact aq h
 .rintro x Y U N ⟨rfl,l,e,B,g,S,R,X,u,s,A,w,I,H,C,G,rfl⟩ D' J _ _ _
  cases B with
  |nil=>simp[ah,bA]at G
  |cons z B=>
   simp only[ah,bA,My]at G;obtain⟨rfl,rfl⟩:=G;have Z:=ii (rs:=rs);subst I;subst H;rw[gD C]at k;rw[OkRs_append]at ok;cases g with
   |nil=>simp[bw]at k
   |cons z' g=>
    simp only[bw,MA]at k;simp only[bg,bd]at hn hl;simp only[aT,cRs]at hc;simp only[aT,cRs,Mg,Mc]at Z;simp only[bQ,aG,bR,af,Mu,Mc,Mv];refine⟨trivial,?_⟩;rw[<- hK];have wl:=lx (nm:=nm) (f:=bJ L TZ) (pl:=pl) l e 0;refine Ch hL ih (o:=z') (by rw[C];exact kM) ok.2.1 k.2.1 (by lia) (by lia) (by lia) (by lia) λu s A w=>J _ _ ?_
    have ew:bK nm (bJ L TZ) pl 0 (l++[z]) (e++[z'])=bK nm (bJ L TZ) pl 0 l e++kF nm (bJ L TZ) (pl++[(l.length:Int)]) z z':=by
     rw[mr C];simp only[bK,Mx,NF]
    exact⟨rfl,l++[z],e++[z'],B,g,cb (.int (l.length:Nat)),cb z.d,cb (tupD (pl++[(l.length:Int)])),u,s,A,w,by simp,by simp,by simp[C],by simp,by rw[ew]⟩
theorem AD(e:L.length<=1000):∀n:Nat,Iy ad L nm TY m TZ n
 |0=>λ_ _ _ _ _ _ _ _ h=>by lia
 |n+1=>BK e (AD e n)
end
section
noncomputable def uV(TY:Uh)(TZ:Int)(rs os:List Rw):List Rw:=bK (cM TY) (bJ (cQ rs os) TZ) [] 0 rs os
theorem ke(rs os:List Rw)(e:cRs rs<=1000):(cQ rs os).length<=1000:=by
 unfold cQ;rw[(bV fc _).length_eq];exact ME (bM rs os [] 0) e
theorem nj(F:TY.length<=12)(ok:aJ TY m TZ rs)(k:bw rs os=true)(G:bd rs<=10)(u:cRs rs<=1000)(h:Q (aW m (TZ+((cQ rs os).length:Int)) (TY++[cM TY]) (uV TY TZ rs os) mk) M):
  xI ad [aW m TZ TY rs mk,aW m TZ TY os mk,.lst (qH rs os)] M Q E:=by
 have C:∀r:List Rw,atI [D.int m,.tup (TY.map D.str),.int TZ,.tup (ah r),.str mk] 0=cb (.int m):=λr=>by rw[atI_0];rfl
 have l:∀r:List Rw,atI [D.int m,.tup (TY.map D.str),.int TZ,.tup (ah r),.str mk] 1=cb (.tup<|TY.map D.str):=λr=>by rw[atI_1];rfl
 have s:∀r:List Rw,atI [D.int m,.tup (TY.map D.str),.int TZ,.tup (ah r),.str mk] 2=cb (.int TZ):=λr=>by rw[atI_2];rfl
 have w:∀r:List Rw,atI [D.int m,.tup (TY.map D.str),.int TZ,.tup (ah r),.str mk] 3=cb (.tup<|ah r):=λr=>by rw[atI_3];rfl
 have B:∀r:List Rw,atI [D.int m,.tup (TY.map D.str),.int TZ,.tup (ah r),.str mk] 4=cb (.str mk):=λr=>by rw[atI_4];rfl
 rw[LH];unfold wW;generalize e:kg ad (az E)=K2;simp only[aW,al,ap,am,aj,aa,ac,ak,dC,ae,aw,aC,l,Mb,dt];refine⟨rfl,aL (λ_ _ q=>lC F q) ?_⟩;simp only[frz,af,Mu];rw[<- e];unfold kg;generalize g:jI ad (az E)=K1;simp only[al,ap,am,aj,aa,ac,ak,dC,ae,av,aw,aC,s,w,Mb,dt];refine⟨aQ (by simp),rfl,jq (pl:=[]) (L:=cQ rs os) (AD (ke rs os u) 24) ok k (by lia) u (by simp;lia) ?_⟩
 simp only[af,Mu];rw[<- g];unfold jI;simp only[ax,av,aa,ak,ac,dC,ae,bn,bF,aw,aC,C,l,s,B,aF,Mb,dt];refine⟨aQ (by simp),aQ (by simp only[Md,Mc,Mv];lia),aQ (by simp),?_⟩
 have A:(qH rs os).length=(cQ rs os).length:=by unfold qH cQ;rw[Md]
 rw[A];have:=aq (Q:=Q) h;unfold aW uV at this;rw[Nx]at this;exact this
end
noncomputable def kI(p:Ug):List bh:=p.map Pj
theorem uK:∀{a b:Ug},kI a=kI b->a=b
 |[],[],_=>rfl
 |[],_::_,h=>by cases h
 |_::_,[],h=>by cases h
 |x::a,y::b,h=>by
  simp only[kI,Mo,My]at h;rw[Sum.inl.inj h.1,uK h.2]
noncomputable def tw(TZ:Int):Nat->List (List Int)->List (List bh×D)
 |_,[]=>[]
 |i,p::L=>(kI p,.int (TZ+(i:Int)))::tw TZ (i+1) L
noncomputable def ny(TZ:Int):Nat->List (List Int)->List D
 |_,[]=>[]
 |i,p::L=>.tup [tupD p,.int (TZ+(i:Int))]::ny TZ (i+1) L
theorem mJ(p:Ug):B1 (tupD p)=cb (kI p):=by
 show eO (p.map D.int)=cb (p.map Pj)
 induction p with
 |nil=>rfl
 |cons a p ih=>simp only[Mo,eO,ou,ih]
theorem xK{TZ:Int}:∀(L:Uf)(i:Nat),y4 (ny TZ i L)=cb (tw TZ i L)
 |[],_=>rfl
 |p::L,i=>by simp only[ny,tw,y4,mJ,xK L]
theorem qq{TZ:Int}:∀(L:Uf)(i:Nat),(tw TZ i L).length=L.length
 |[],_=>rfl
 |p::L,i=>by simp only[tw,Mc,qq L]
theorem nQ{TZ:Int}{p:Ug}:∀(L:Uf)(i:Nat),ny TZ i (L++[p])=ny TZ i L++[.tup [tupD p,.int (TZ+((i+L.length:Nat):Int))]]
 |[],i=>by simp[ny]
 |q::L,i=>by
  simp only[Nk,ny,nQ L,Mc];rw[show i+1+L.length=i+(L.length+1) by lia]
theorem kP{TZ:Int}:∀(L:Uf)(i:Nat),(ny TZ i L).length=L.length
 |[],_=>rfl
 |p::L,i=>by simp only[ny,Mc,kP L]
theorem rb{TZ:Int}:∀(L:Uf)(i:Nat)(T6:List (List bh×D)),L.Nodup->(∀p∈L,∀kv∈T6,kv.1≠kI p)->(tw TZ i L).foldl (λa p=>fb a p.1 p.2) T6=T6++tw TZ i L
 |[],_,T6,_,_=>by simp[tw]
 |p::L,i,T6,nd,h=>by
  rw[NG]at nd;have e:fb T6 (kI p) (.int (TZ+(i:Int)))=T6++[(kI p,.int (TZ+(i:Int)))]:=by
   unfold fb;rw[if_neg];intro z;obtain⟨kv,s,u⟩:=List.any_eq_true.mp z;exact h p (by simp) kv s (of_decide_eq_true u)
  simp only[tw,Nh,e];rw[rb L (i+1) _ nd.2 λq l kv g=>?_,MG]
  .rfl
  .rcases Ms.mp g with z|z
   .exact h q (by simp[l]) kv z
   .simp only[MH]at z
    subst z;exact λe=>nd.1 (uK e▸l)
theorem w_{TZ:Int}{pl:Ug}:∀(L:Uf)(i:Nat),jg (tw TZ i L) (kI pl)=(L.findIdx? (·==pl)).map λj=>.int (TZ+((i+j:Nat):Int))
 |[],_=>rfl
 |p::L,i=>by
  have g:=w_ (TZ:=TZ) (pl:=pl) L (i+1);unfold jg at g ⊢;rw[Oz];simp only[tw,NS]
  by_cases e:p=pl
  .subst e
   simp
  .have h:decide (kI p=kI pl)=false:=decide_eq_false λz=>e (uK z)
   have l:(p==pl)=false:=by simpa using e
   rw[h,l,g];cases L.findIdx? (·==pl) with
   |none=>rfl
   |some j=>simp only[Ox,Mr,if_false,show i+1+j=i+(j+1) by lia]
theorem zV:jg (tw TZ 0 L) (kI pl)=(bJ L TZ pl).map D.int:=by
 rw[w_];unfold bJ;cases L.findIdx? (·==pl)<;>simp
noncomputable def wF(nm:Str)(p:eC):List (Str×D):=[("name",.str nm),("pieces",.ref p)]
theorem Jv{f:Str}{v:D}{r:List (Str×D)}:MW f ((f,v)::r)=cb v:=by simp[MW]
theorem lk_n{f g:Str}{v:D}{r:List (Str×D)}(h:f≠g):MW f ((g,v)::r)=MW f r:=by
 have:(f==g)=false:=by simpa using h
 simp[MW,this]
theorem KN{nm:Str}:MW (Mq "name") (wF nm p)=cb (.str nm):=Jv
theorem GG{nm:Str}:MW (Mq "pieces") (wF nm p)=cb (.ref p):=by unfold wF;rw[lk_n (by decide +kernel),Jv]
structure WvM(C:eC)(wv p:eC)(nm:Str)(L:Uf)(TZ:Int)(M:Mem):Prop where
 w:M wv=cb (.ins C<|wF nm p)
 d:M p=cb (.dT<|tw TZ 0 L)
section
variable{a:eC}
theorem t7(hn:TY.length<=12)(ok:aJ TY m TZ rs)(S:aJ TY m TZ os)(k:bw rs os=true)(hh:bd rs<=10)(hc:cRs rs<=63)(hM:M a=cb (.ins ad.C_Weave []))(h:∀p M',WvM ad.C_Weave a p (cM TY) (cQ rs os) TZ M'->(∀b o,b≠a->M b=cb o->M' b=cb o)->Q .non M'):BJ ad [.ref a,aW m TZ TY rs mk,aW m TZ TY os mk] M Q E:=by
 have Z:∀r:List Rw,atI [D.int m,.tup (TY.map D.str),.int TZ,.tup (ah r),.str mk] 1=cb (.tup<|TY.map D.str):=λr=>by rw[atI_1];rfl
 have a2:∀r:List Rw,atI [D.int m,.tup (TY.map D.str),.int TZ,.tup (ah r),.str mk] 2=cb (.int TZ):=λr=>by rw[atI_2];rfl
 rw[u_q4];unfold BH;generalize hK:oS ad (az E)=K;simp only[al,f_,am,aj,aa,ak,ac,dC,ae,aw,aW,aC,Z,Mb,dt];refine⟨rfl,aL (λ_ _ q=>qC hn q) ?_⟩;simp only[frz,hM];refine⟨trivial,by simp,?_⟩
 rw[<- hK];unfold oS;generalize B:M.upd a (.ins ad.C_Weave<|fm "name" (.str<|cM TY) [])=M1;have u:M1 a=cb (.ins ad.C_Weave [("name",.str (cM TY))]):=by rw[<- B,Mem.upd_same];rfl
 simp only[f_,bn,aa,am,ae,b6,e_,aj,ac,Mb,dt];refine⟨rfl,au λQ' E' hq hE=>iU ok S hh hc (λ_ q R=>hq _ _ (gG R ?_)) λz=>(by rw[k]at z;cases z)⟩
 simp only[aC,bu,cC];have hpl:=ke rs os (by lia)
 have J:bA 0 (qH rs os)=bA 0 ((cQ rs os).map tupD):=rfl;rw[J];refine aV (λO T6 U M'=>∃(s l:Uf)(F G:Option D),cQ rs os=s++l/\O=bA s.length (l.map tupD)/\T6=ny TZ 0 s/\U=[F,G,cb (aW m TZ TY rs mk)]/\M1=M') (λ_ _ _ _ _=>aI) ?_ ?_ ?_ _ _ _ _ ⟨[],cQ rs os,ed,ed,rfl,rfl,rfl,rfl,rfl⟩
 .rintro T6 U M' ⟨s,l,F,G,g,A,rfl,rfl,rfl⟩ p hp
  have ez:l=[]:=by cases l with|nil=>rfl|cons _ _=>simp[bA]at A
  subst ez;rw[Mx]at g;refine gG hp ?_;have ef:(tw TZ 0 s).foldl (λa p=>fb a p.1 p.2) []=tw TZ 0 s:=by
   rw[rb s 0 [] (g▸J9 rs os) λ_ _ _ h=>by cases h]
   rfl
  simp only[pG,G9,cX,xK,ef,qq];refine⟨trivial,by rw[<- g];lia,λX w=>?_⟩
  have C:a≠X:=λz=>by rw[<- z,u]at w;cases w
  rw[ai C,u];refine⟨rfl,by simp,aq (h X _ ⟨?_,?_⟩ λb o Y e=>?_)⟩
  .rw[Mem.upd_same]
   rfl
  .rw[ai (ML C),Mem.upd_same,g]
  .have g:M1 b=cb o:=by rw[<- B,ai Y];exact e
   rw[ai Y,ai (λz=>by rw[z,w]at g;cases g)]
   exact g
 .rintro y O T6 U M' ⟨s,l,F,G,g,A,rfl,rfl,rfl⟩ N I hN2
  cases l with
  |nil=>simp[bA]at A
  |cons z l=>
   simp only[Mo,bA,My]at A;obtain⟨rfl,rfl⟩:=A;have H:=congrArg MN g;simp only[Mg,Mc]at H;simp only[bQ,aG,bR,af,Mu,cF,av,aa,am,ak,ac,dC,ae,aw,aW,aC,a2,aF,frz,Mc,Mv,Mb,dt,if_true];refine⟨trivial,aQ (by simp),I _ _ _ (eI<|by rw[kP];lia) ⟨s++[z],l,_,_,by rw[g];simp,by simp,?_,rfl,rfl⟩⟩
   rw[nQ];simp
 .rintro y O T6 U M' ⟨s,l,F,G,g,A,rfl,rfl,rfl⟩
  have H:=congrArg MN g;simp only[Mg]at H;rw[kP];exact eI (by lia)
end
def PVs(ad:Ad)(wv p:eC)(nm:Str)(L:Uf)(TY:Uh)(m TZ:Int)(n:Nat):Prop:=∀(rs os:List Rw)(pl:Ug)(M:Mem)(Q:DK)(E:DX),aJ TY m TZ rs->aJ TY m TZ os->bw rs os=true->m9 L pl 0 rs os->2*bd rs+2<=n->cRs rs<=1000->pl.length+2*bd rs+1<=900->WvM ad.C_Weave wv p nm L TZ M->
 Q (.tup<|ah<|bK nm (bJ L TZ) pl 0 rs os) M->RI ad n [.ref wv,.tup (ah rs),.tup (ah os),tupD pl] M Q E
def PVr(ad:Ad)(wv p:eC)(nm:Str)(L:Uf)(TY:Uh)(m TZ:Int)(n:Nat):Prop:=∀(r o:Rw)(pl:Ug)(M:Mem)(Q:DK)(E:DX),bX TY m TZ r->bX TY m TZ o->ff r o=true->nbR L pl r o->2*hR r+1<=n->cR r<=1000->pl.length+2*hR r<=900->WvM ad.C_Weave wv p nm L TZ M->
 (∀q,M q=ed->Q (.ref q) (M.upd q<|.lst<|ah<|kF nm (bJ L TZ) pl r o))->RJ ad n [.ref wv,r.d,o.d,tupD pl] M Q E
theorem WvM.upd{C:eC}{nm:Str}{x:MO}(w:WvM C wv p nm L TZ M)(e:q≠wv/\q≠p):WvM C wv p nm L TZ (M.upd q x):=
 ⟨by rw[ai (ML e.1)];exact w.w,by rw[ai (ML e.2)];exact w.d⟩
theorem WvM.new{C:eC}{nm:Str}(w:WvM C wv p nm L TZ M)(e:M q=ed):q≠wv/\q≠p:=
 ⟨λz=>(by rw[z,w.w]at e;cases e),λz=>(by rw[z,w.d]at e;cases e)⟩
section
variable{nm:Str}
theorem HW(h:M p=cb (.dT<|tw TZ 0 L)):iQ M (tupD pl) (.ref p)=cb (bJ L TZ pl).isSome:=by
 simp only[iQ,aC,h,yn,mJ,zV,O0]
theorem ww{g:eC}{x y:MO}{d:D}(s:M q=ed)(l:(M.upd q x) g=ed)(h:∀q,M q=ed->Q d (M.upd g y)):drp Q d ((M.upd q x).upd g y):=by
 have ne:g≠q:=λz=>by rw[z,Mem.upd_same]at l;cases l
 refine⟨M.upd g y,λb u e=>?_,h q s⟩
 by_cases c:b=g
 .subst c
  rw[Mem.upd_same]at e ⊢;exact e
 .rw[ai c]at e ⊢
  rw[ai (λz=>by rw[z,s]at e;cases e)]
  exact e
theorem qx(C:PVs ad wv p nm L TY m TZ n){u s:D}{T6:List D}(ok:aJ TY m TZ a)(g:aJ TY m TZ a')(k:bw a a'=true)(B:m9 L (pl++[i]) 0 a a')(F:2*bd a+2<=n)(A:cRs a<=1000)(G:pl.length+1+2*bd a+1<=900)(H:T6.length<=1000)(w:WvM ad.C_Weave wv p nm L TZ N)(l:N q=cb (.lst T6))(h:D2.nx [cb (.ref wv),cb u,cb s,cb (tupD pl),cb (.ref q),cb (.int i),cb (.tup<|ah a),cb (.tup<|ah a')] (N.upd q<|.lst (T6++[.tup (ah<|bK nm (bJ L TZ) (pl++[i]) 0 a a')]))):
  gP ad (RI ad n) (RJ ad n) EE D2 [cb (.ref wv),cb u,cb s,cb (tupD pl),cb (.ref q),cb (.int i),cb (.tup<|ah a),cb (.tup<|ah a')] N:=by
 unfold gP;simp only[bf,fJ,am,aj,aa,ac,ak,av,ae,cu,l,Mb,dt];refine⟨trivial,aQ (by simp),ca (by lia) ⟨rfl,au λQ2 E2 e _=>C a a' _ N Q2 E2 ok g k B F A (by simp;lia) w (e _ _ ?_)⟩⟩
 simp only[frz,bp,l];exact⟨eI (by lia),h⟩
theorem BF(Y:PVs ad wv p nm L TY m TZ n):PVr ad wv p nm L TY m TZ (n+1):=by
 intro r o pl M Q E ok s k G hn hc Z w h;have e2:∀(a b:D)(l:List D),dz (a::b::l) ed (cb 2)=[a,b]:=λa b l=>dG (k:=2);rw[L7 (n:=n)];unfold wq;generalize S:k8 ad (RI ad n) (RJ ad n) (az E)=K1;generalize J:kE ad (RI ad n) (RJ ad n) (az E)=K4;simp only[al,aA,ao,ak,ac,du,w.w,GG,qO,HW w.d,Mb,dt];refine⟨trivial,?_⟩
 by_cases c:pl∈L
 .have I:aO r=false:=by
   cases r with
   |ifr x a b=>
    cases o with
    |ifr y a' b'=>exact absurd c G.1
    |_=>cases k
   |again x a=>
    cases o with
    |again y a'=>exact absurd c G.1
    |_=>cases k
   |_=>rfl
  obtain⟨i,_,O⟩:=Bm (TZ:=TZ) c;rw[fF I,O]at h;rw[O];show K1 _ _ M;rw[<- S];unfold k8;simp only[ax,br,av,aa,dC,du,ac,ak,w.w,KN,GG,ae,aw,aC,w.d,yn,mJ,zV,O,Ox,Mb,dt];exact⟨trivial,trivial,aQ (by simp),trivial,aQ (by simp),aQ (by simp),aQ (by simp),aQ (by simp),λq F=>aq (h q F)⟩
 .rw[pU c,if_neg (by simp)]
  simp only[ay,al,ap];refine⟨aQ (by simp),λq F=>?_⟩
  have nq:=w.new F;have R:∀x,WvM ad.C_Weave wv p nm L TZ (M.upd q x):=λx=>w.upd nq;simp only[af,Mu];rw[<- J];unfold kE;generalize B:gP ad (RI ad n) (RJ ad n) (az E)=K2;generalize H:gC ad (RI ad n) (RJ ad n) (az E)=K3;simp only[al,bU,rK,aa,am,aj,ac,ae,Mb,dt];refine⟨rfl,fY ok ⟨rfl,bH ok ⟨rfl,bH s ?_⟩⟩⟩;simp only[aC,bu,Mx];have A:aO r=true->∀(z:Rw)(u:List D)(c5 c6 c7:Option D),u.length<=2->1<=u.length->z.d=.tup ([.str (dB r),.str (qM r)]++u)->kF nm (bJ L TZ) pl r o=[z]->K3 { nx:=λ_ M'=>drp Q .non M',rt:=drp Q } [cb (.ref wv),cb r.d,cb o.d,cb (tupD pl),cb (.ref q),c5,c6,c7] (M.upd q<|.lst u):=λ_ z u c5 c6 c7 hx X ez ew=>by
   rw[ew]at h;rw[<- H];unfold gC;have ht:u.isEmpty=false:=by cases u with|nil=>simp at X|cons _ _=>rfl
   rw[fE r];simp only[ax,qh,bO,ac,vN,Mem.upd_same,ht,PH,br,aa,ak,am,eM,aD,aY,dC,tu,e2,frz,bn,ae,bW,cX,aF,if_true,Mb,dt];refine⟨aQ (by simp;lia),aQ (by simp),λC e=>ww F e λ_ _=>?_⟩
   have g:M C=none:=by
    rw[ai (λy=>by rw[y,Mem.upd_same]at e;cases e)]at e
    exact e
   have:=h C g;simp only[ah,ez]at this;exact this
  have leaf:aO r=eH->cN (EV r) (yW r) (yW o)=[]/\K3 { nx:=λ_ M'=>drp Q .non M',rt:=drp Q } [cb (.ref wv),cb r.d,cb o.d,cb (tupD pl),cb (.ref q),ed,ed,ed] (M.upd q<|.lst []):=λI=>by
   refine⟨?_,?_⟩
   .have:yW r=[]:=by cases r<;>first|rfl|cases I
    rw[this];unfold EV
    split<;>rfl
   .rw[fF I,pU c]at h
    rw[<- H];unfold gC;simp only[ax,qh,bO,ac,vN,Mem.upd_same,List.isEmpty_nil,Nc,Mr,if_false,br,aa,ae,Mb,dt];refine⟨aQ (by simp),λC e=>ww F e λ_ _=>?_⟩
    have g:M C=none:=by
     rw[ai (λy=>by rw[y,Mem.upd_same]at e;cases e)]at e
     exact e
    exact h C g
  cases r with
  |ifr x a b=>
   cases o with
   |ifr y a' b'=>
    simp only[ff,MA]at k;simp only[hR,cR]at hn hc Z;simp only[yW,EV,fG,if_true,cN];refine⟨aI,?_⟩;simp only[bQ,aG,bR,af,Mu,Mc,Mv];refine⟨trivial,?_⟩;rw[<- B];refine qx Y (T6:=[]) ok.2.1 s.2.1 k.2.1 G.2.1 (by lia) (by lia) (by lia) (by simp) (R _) Mem.upd_same ⟨aI,?_⟩
    simp only[bQ,aG,bR,af,Mu,Mc,Mv];rw[Mem.upd_upd];refine⟨trivial,qx Y ok.2.2 s.2.2 k.2.2 G.2.2 (by lia) (by lia) (by lia) (by simp) (R _) Mem.upd_same ⟨aI,?_⟩⟩
    rw[Mem.upd_upd];exact A rfl (.ifr x _ _) _ _ _ _ (by simp) (by simp) rfl rfl
   |_=>cases k
  |again x a=>
   cases o with
   |again y a'=>
    simp only[ff,MA]at k;simp only[hR,cR]at hn hc Z;simp only[yW,EV,fG,Mr,if_false,cN];refine⟨aI,?_⟩;simp only[bQ,aG,bR,af,Mu,Mc,Mv];refine⟨trivial,?_⟩;rw[<- B];refine qx Y (T6:=[]) ok.2 s.2 k.2 G.2 (by lia) (by lia) (by lia) (by simp) (R _) Mem.upd_same ⟨aI,?_⟩
    rw[Mem.upd_upd];exact A rfl (.again x _) _ _ _ _ (by simp) (by simp) rfl rfl
   |_=>cases k
  |_=>
   obtain⟨z1,z2⟩:=leaf rfl;rw[z1];exact⟨aI,z2⟩
theorem BR(ih:PVr ad wv p nm L TY m TZ n):PVs ad wv p nm L TY m TZ (n+1):=by
 intro rs os pl M Q E ok u k nb hn hc hl w h;rw[Kh (n:=n)];unfold wC oQ;generalize hK:jD ad (RI ad n) (RJ ad n) (az E)=K;simp only[al,ap];refine⟨aQ (by simp),λq Z=>?_⟩
 have nq:=w.new Z;simp only[af,Mu,bU,e_,aa,ac,ae,aC,bu,cC,Mb,dt]
 refine bt (λY U N=>∃(l e s g:List Rw)(S X:Option D),N=M.upd q (.lst<|ah<|bK nm (bJ L TZ) pl 0 l e)/\rs=l++s/\os=e++g/\l.length=e.length/\Y=bA l.length (ah s)/\m9 L pl l.length s g/\U=[cb (.ref wv),cb (.tup<|ah rs),cb (.tup<|ah os),cb (tupD pl),cb (.ref q),S,X]) (λ_ _ _ _=>aI) ?_ ?_ _ _ _
  ⟨[],[],rs,os,_,_,rfl,rfl,rfl,rfl,cC _,nb,rfl⟩
 .rintro U N ⟨l,e,s,g,S,X,rfl,H,G,A,F,_,rfl⟩
  have ez:s=[]:=by cases s with|nil=>rfl|cons _ _=>simp[ah,bA]at F
  have B:=dW k;subst ez;rw[Mx]at H;subst H;have R:g=[]:=by
   rw[G,Mg]at B;exact N7 (by lia)
  subst R;rw[Mx]at G;subst G;simp only[ax,bn,aa,ac,ae,bW,cX,Mem.upd_same,Mb,dt];exact jO Z h
 .rintro x Y U N ⟨l,e,s,g,S,X,rfl,H,G,A,F,C,rfl⟩ D' O _ _ _
  cases s with
  |nil=>simp[ah,bA]at F
  |cons z s=>
   simp only[ah,bA,My]at F;obtain⟨rfl,rfl⟩:=F;have l1:=ii (rs:=rs);subst H;subst G;rw[gD A]at k;rw[OkRs_append]at ok u;cases g with
   |nil=>simp[bw]at k
   |cons z' g=>
    simp only[bw,MA]at k;simp only[bg,bd]at hn hl;simp only[aT,cRs]at hc;simp only[aT,cRs,Mg,Mc]at l1;have wl:=lx (nm:=nm) (f:=bJ L TZ) (pl:=pl) l e 0;have wl2:=xQ (nm:=nm) (f:=bJ L TZ) (pl:=pl++[(l.length:Int)]) z z';have eo:atI (ah (e++z'::g)) (l.length:Nat)=cb z'.d:=by rw[A];exact kM
    simp only[bQ,aG,bR,af,Mu,Mc,Mv];refine⟨trivial,?_⟩;rw[<- hK];unfold jD;simp only[bf,fJ,am,aj,aa,ac,ak,av,ae,aw,aC,eo,cu,Mem.upd_same,Mb,dt];refine⟨trivial,aQ (by simp),ca (by lia) ⟨rfl,au λQ2 E2 I _=>ih z z' _ _ Q2 E2 ok.2.1 u.2.1 k.2.1 C.1 (by lia) (by lia) (by simp;lia) (w.upd nq) λq2 J=>I _ _ (gG J ?_)⟩⟩
    simp only[cI,Mem.upd_same,cX,Mem.upd_upd];refine⟨aQ (by simp only[bi];lia),O _ _ ⟨l++[z],e++[z'],s,g,_,_,?_,by simp,by simp,by simp[A],by simp,by simpa using C.2,rfl⟩⟩
    have ew:bK nm (bJ L TZ) pl 0 (l++[z]) (e++[z'])=bK nm (bJ L TZ) pl 0 l e++kF nm (bJ L TZ) (pl++[(l.length:Int)]) z z':=by
     rw[mr A];simp only[bK,Mx,NF]
    rw[ew,aZ]
theorem uZ:∀n:Nat,PVs ad wv p nm L TY m TZ n/\PVr ad wv p nm L TY m TZ n
 |0=>⟨λ_ _ _ _ _ _ _ _ _ _ h=>by lia,λ_ _ _ _ _ _ _ _ _ _ h=>by lia⟩
 |n+1=>⟨BR (uZ n).2,BF (uZ n).1⟩
end
section
theorem sH:∀(ss l:Uh),(l++ss).Nodup->(l_ l ss).length=l.length+ss.length
 |[],l,_=>by simp[l_]
 |x::ss,l,hn=>by
  unfold l_;have e:x∉l:=λe=>(NV.mp hn).2.2 x e x (by simp) rfl
  rw[if_neg e,sH ss (l++[x]) (by simpa using hn)]
  simp;lia
theorem JB(h:x∈L26):n8 x:=by
 obtain⟨c,e,rfl⟩:=MS.mp h;have:∀c∈lettersS.cps.toList,97<=c/\c<=122:=by decide +kernel
 exact⟨1,c,by lia,by lia,(this c e).1,(this c e).2,rfl⟩
variable{nm:Str}{Ue:Int}
theorem qG(e:aO r=eH)(g:TZ<=Ue)(o:bX TY m TZ r):bX (TY++[nm]) m Ue r:=by
 cases r with
 |ifr x a b=>cases e
 |again x a=>cases e
 |put x k=>exact⟨Ms.mpr (.inl o.1),o.2.1,o.2.2⟩
 |take x k=>exact⟨Ms.mpr (.inl o.1),o.2.1,by have:=o.2.2;lia⟩
 |pick x k=>exact⟨Ms.mpr (.inl o.1),Ms.mpr (.inl o.2.1),by have:=o.2.2;lia⟩
 |two w x y z=>exact⟨o.1,Ms.mpr (.inl o.2.1),Ms.mpr (.inl o.2.2.1),Ms.mpr<|.inl o.2.2.2⟩
theorem Ge(e:aO r=eH)(k:ff r o=true):aO o=false:=by
 cases r<;>first|cases e|skip
 all_goals cases o<;>first|rfl|cases k
theorem vQ(w:∀pl k,f pl=cb k->0<=k/\k<Ue)(l:TZ<=Ue)(h:aO r=eH)(a:bX TY m TZ r)(b:bX TY m TZ o)(k:ff r o=true):
  aJ (TY++[nm]) m Ue (kF nm f pl r o)/\cRs (kF nm f pl r o)<=4*cR r/\bd (kF nm f pl r o)<=hR r+1:=by
 have g:=Ge h k;have B:=gq h;have A:=gq g;rw[fF h];cases e:f pl with
 |none=>exact⟨⟨qG h l a,trivial⟩,by simp only[cRs];lia,by simp only[bd];lia⟩
 |some i=>
  obtain⟨u,i1⟩:=w pl i e;have s:nm∈TY++[nm]:=by simp
  refine⟨⟨⟨s,u,i1⟩,⟨s,⟨qG g l b,trivial⟩,⟨qG h l a,trivial⟩⟩,trivial⟩,?_,?_⟩
  .simp only[cRs,cR];lia
  .simp only[bd,hR];lia
mutual
theorem Ix(g:∀pl k,f pl=cb k->0<=k/\k<Ue)(e:TZ<=Ue):∀(r o:Rw)(pl:Ug),bX TY m TZ r->bX TY m TZ o->ff r o=true->aJ (TY++[nm]) m Ue (kF nm f pl r o)/\cRs (kF nm f pl r o)<=4*cR r/\bd (kF nm f pl r o)<=hR r+1
 |.ifr x a b,o,pl,h1,h2,k=>by
  have i1:=gJ g e a;have i2:=gJ g e b;cases o with
  |ifr y a' b'=>
   simp only[ff,MA]at k;obtain⟨h,l,s⟩:=i1 a' (pl++[1]) 0 h1.2.1 h2.2.1 k.2.1;obtain⟨u,A,w⟩:=i2 b' (pl++[0]) 0 h1.2.2 h2.2.2 k.2.2;exact⟨⟨⟨Ms.mpr (.inl h1.1),h,u⟩,trivial⟩,by simp only[kF,cRs,cR];lia,by simp only[kF,bd,hR];lia⟩
  |_=>cases k
 |.again x a,o,pl,h1,h2,k=>by
  have i1:=gJ g e a;cases o with
  |again y a'=>
   simp only[ff,MA]at k;obtain⟨h,l,s⟩:=i1 a' (pl++[0]) 0 h1.2 h2.2 k.2;exact⟨⟨⟨Ms.mpr (.inl h1.1),h⟩,trivial⟩,by simp only[kF,cRs,cR];lia,by simp only[kF,bd,hR];lia⟩
  |_=>cases k
 |.put _ _,o,pl,h1,h2,k=>vQ g e rfl h1 h2 k
 |.take _ _,o,pl,h1,h2,k=>vQ g e rfl h1 h2 k
 |.pick _ _,o,pl,h1,h2,k=>vQ g e rfl h1 h2 k
 |.two _ _ _ _,o,pl,h1,h2,k=>vQ g e rfl h1 h2 k
theorem gJ(g:∀pl k,f pl=cb k->0<=k/\k<Ue)(e:TZ<=Ue):∀(rs os:List Rw)(pl:Ug)(j:Nat),aJ TY m TZ rs->aJ TY m TZ os->bw rs os=true->aJ (TY++[nm]) m Ue (bK nm f pl j rs os)/\cRs (bK nm f pl j rs os)<=4*cRs rs/\bd (bK nm f pl j rs os)<=bd rs+1
 |[],os,pl,j,_,_,_=>⟨trivial,by simp only[bK,cRs];lia,by simp only[bK,bd];lia⟩
 |r::rs,os,pl,j,h1,h2,k=>by
  cases os with
  |nil=>cases k
  |cons o os=>
   simp only[bw,MA]at k;obtain⟨h,u,w⟩:=Ix g e r o (pl++[(j:Int)]) h1.1 h2.1 k.1;obtain⟨l,A,s⟩:=gJ g e rs os pl (j+1) h1.2 h2.2 k.2;simp only[bK];refine⟨OkRs_append.mpr ⟨h,l⟩,?_,?_⟩
   .rw[aT];simp only[cRs];lia
   .rw[bg];simp only[bd];lia
end
theorem HG(h:0<=TZ):∀pl k,bJ L TZ pl=cb k->0<=k/\k<TZ+(L.length:Int):=λpl k e=>by
 unfold bJ at e;cases c:L.findIdx? (·==pl) with
 |none=>rw[c]at e;cases e
 |some i=>
  rw[c]at e;obtain⟨g,_⟩:=NO.mp c;have:TZ+(i:Int)=k:=by simpa using e
  lia
noncomputable def nU(TZ:Int)(TY:Uh)(rs os:List Rw):Bool:=decide (TY.length+1<=12)&&(decide (TZ+((cQ rs os).length:Int)<=40)&&(decide (bd (uV TY TZ rs os)<=4)&&decide (cRs (uV TY TZ rs os)<=60)))
theorem tR(g:PlH m TZ TY rs mk)(e:aJ TY m TZ os)(k:bw rs os=true):aJ (TY++[cM TY]) m (TZ+((cQ rs os).length:Int)) (uV TY TZ rs os)/\cRs (uV TY TZ rs os)<=4*cRs rs/\bd (uV TY TZ rs os)<=bd rs+1:=
 gJ (HG g.t.k0) (by lia) rs os [] 0 g.ok e k
end
structure Cnt(h c0 d c:Nat):Prop where
 y:h+d<=4->c=c0
 n:4<h+d->61<=c
def Jn(ad:Ad)(n:Nat):Prop:=∀(rs:List Rw)(d:Nat)(M:Mem)(Q:DK)(E:DX)(TY:Uh)(m TZ:Int),aJ TY m TZ rs->d<=4->5<=n+d->(∀c:Nat,Cnt (bd rs) (cRs rs) d c->Q (.int (c:Nat)) M)->RN ad n [.tup (ah rs),.int (d:Nat)] M Q E
section
variable{rsD rd:D}{d t:Nat}{c4:Option D}
theorem tS(u:Jn ad n)(ok:aJ TY m TZ a)(w:d+1<=4)(s:5<=n+(d+1))(h:∀c:Nat,Cnt (bd a) (cRs a) (d+1) c->D2.nx [cb rsD,cb (.int (d:Nat)),cb (.int ((t+c:Nat):Int)),cb rd,cb (.tup<|ah a)] M):
  lZ ad (RN ad n) EE D2 [cb rsD,cb (.int (d:Nat)),cb (.int (t:Nat)),cb rd,cb (.tup<|ah a)] M:=by
 unfold lZ;simp only[ap,am,ak,aj,aa,ac,dC,ae,aF,Mb,dt];refine⟨rfl,au λQ' E' g _=>?_⟩;have e:(d:Int)+1=((d+1:Nat):Int):=by lia
 rw[e];refine u a (d+1) M Q' E' TY m TZ ok w s λc l=>g _ _ ?_;simp only[frz,af,Mu];have:=h c l;rw[Qz]at this;exact this
theorem Lf(s:Jn ad n)(F:aO r=true)(ok:bX TY m TZ r)(H:d<=4)(I:5<=n+1+d)(B:∀(t':Nat)(c4:Option D),Cnt (hR r) (cR r) d t'->D2.nx [cb rsD,cb (.int (d:Nat)),cb (.int ((t+t':Nat):Int)),cb r.d,c4] M)(h2:d=4->D2.rt (.int 61) M):
  lB ad (RN ad n) EE D2 [cb rsD,cb (.int (d:Nat)),cb (.int ((t+1:Nat):Int)),cb r.d,c4] M:=by
 unfold lB;generalize C:oX ad (RN ad n) EE=K;simp only[al,aA,ao,ak,ac,dC,ci,dv,aH,bN,Mb,dt];refine⟨trivial,trivial,?_⟩
 by_cases c:(d:Int)=4
 .rw[decide_eq_true c,if_pos rfl]
  exact h2 (by lia)
 .rw[decide_eq_false c,if_neg (by simp)]
  show K D2 _ M;rw[<- C];unfold oX;have u:∀(a b:D)(l:List D),dz (a::b::l) (cb 2) ed=l:=λa b l=>oP (k:=2);generalize e:lZ ad (RN ad n) EE=K1;have G:=fE r;cases r with
  |ifr x a b=>
   simp only[bU,cj,am,eM,ac,aY,aD,dC,Rw.d,tu,u,frz,aC,bu,Mb,dt];refine⟨aI,?_⟩;simp only[af,Mu];rw[<- e];refine tS s ok.2.1 (by lia) (by lia) λh g=>⟨aI,?_⟩
   simp only[af,Mu];refine tS s ok.2.2 (by lia) (by lia) λA w=>⟨aI,?_⟩
   rw[show t+1+h+A=t+(1+h+A) by lia]
   refine B _ _ ⟨λz=>?_,λz=>?_⟩
   .simp only[hR]at z
    have:=g.y (by lia)
    have:=w.y (by lia)
    simp only[cR];lia
   .simp only[hR]at z
    rcases Nl 4 (bd a+(d+1)) with y|y
    .have:=g.n y;lia
    .have:=w.n (by lia);lia
  |again x a=>
   simp only[bU,cj,am,eM,ac,aY,aD,dC,Rw.d,tu,u,frz,aC,bu,Mb,dt];refine⟨aI,?_⟩;simp only[af,Mu];rw[<- e];refine tS s ok.2 (by lia) (by lia) λh g=>⟨aI,?_⟩
   rw[show t+1+h=t+(1+h) by lia]
   refine B _ _ ⟨λz=>?_,λz=>?_⟩
   .simp only[hR]at z
    have:=g.y (by lia)
    simp only[cR];lia
   .simp only[hR]at z
    have:=g.n (by lia);lia
  |_=>cases F
theorem Dv(B:Jn ad n)(ok:bX TY m TZ r)(C:d<=4)(A:5<=n+1+d)(l:∀(t':Nat)(c4:Option D),Cnt (hR r) (cR r) d t'->D2.nx [cb rsD,cb (.int (d:Nat)),cb (.int ((t+t':Nat):Int)),cb r.d,c4] M)(h2:aO r=true->d=4->D2.rt (.int 61) M):
  lX ad (RN ad n) EE D2 [cb rsD,cb (.int (d:Nat)),cb (.int (t:Nat)),cb r.d,c4] M:=by
 unfold lX;generalize u:pS ad (RN ad n) EE=K;simp only[al,ap,ak,ac,dC,aF,af,Mu,Mb,dt];rw[<- u,show (t:Int)+1=((t+1:Nat):Int) by lia]
 unfold pS;generalize g:lB ad (RN ad n) EE=K3;have h:aO r=eH->D2.nx [cb rsD,cb (.int (d:Nat)),cb (.int ((t+1:Nat):Int)),cb r.d,c4] M:=λe=>by
  obtain⟨w,F⟩:=gq e;exact l 1 c4 ⟨λ_=>w.symm,λz=>by lia⟩
 have bl:aO r=true->K3 D2 [cb rsD,cb (.int (d:Nat)),cb (.int ((t+1:Nat):Int)),cb r.d,c4] M:=λe=>by
  rw[<- g];exact Lf B e ok C A l (h2 e)
 have rd:=fE r;rw[rd]at h bl ⊢;simp only[aA,ao,ak,ac,dC,aw,aC,atI_0,am,br,aa,ae,Mb,dt];refine⟨aQ (by simp),λq s=>gG s (z_ ok ?_)⟩
 cases c:aO r with
 |true=>exact bl c
 |false=>exact h c
theorem CN(R:Jn ad n):Jn ad (n+1):=by
 intro rs d M Q E TY m TZ ok I S h;rw[u_q9 (n:=n)];unfold DP vy;generalize H:lX ad (RN ad n) (az E)=K;simp only[al,ap,dC,af,Mu,bU,cj,ac,aC,bu,Mb,dt];refine bt (λC U N=>N=M/\∃(g e:List Rw)(t:Nat)(B c4:Option D),rs=g++e/\C=ah e/\Cnt (bd g) (cRs g) d t/\U=[cb (.tup<|ah rs),cb (.int (d:Nat)),cb (.int (t:Nat)),B,c4]) (λ_ _ _ _=>aI) ?_ ?_ _ _ _ ⟨rfl,[],rs,0,ed,ed,rfl,rfl,⟨λ_=>rfl,λz=>by simp only[bd]at z;lia⟩,rfl⟩
 .rintro U N ⟨rfl,g,e,t,B,c4,s,l,q,rfl⟩
  have J:e=[]:=by cases e with|nil=>rfl|cons _ _=>simp[ah]at l
  subst J;rw[Mx]at s;subst s;simp only[ax,ac,Mb,dt];exact aq (h t q)
 .rintro x C U N ⟨rfl,g,e,t,B,c4,s,l,q,rfl⟩ D' u _ A _
  cases e with
  |nil=>simp[ah]at l
  |cons z e=>
   simp only[ah,My]at l;obtain⟨rfl,rfl⟩:=l;subst s;rw[OkRs_append]at ok;simp only[af,Mu];rw[<- H];refine Dv R ok.2.1 I (by lia) (λO c4 F=>u _ _ ⟨rfl,g++[z],e,t+O,_,c4,by simp,rfl,⟨λy=>?_,λy=>?_⟩,rfl⟩) λG X=>?_
   .simp only[bg,bd]at y
    have:=q.y (by lia)
    have:=F.y (by lia)
    simp only[aT,cRs];lia
   .simp only[bg,bd]at y
    rcases Nl 4 (bd g+d) with w|w
    .have:=q.n w;lia
    .have:=F.n (by lia);lia
   .rw[A]
    have:=KU G;refine aq (h 61 ⟨λy=>?_,λ_=>Mn _⟩);simp only[bg,bd]at y;lia
theorem z7:∀n:Nat,Jn ad n
 |0=>λ_ _ _ _ _ _ _ _ _ e g=>by lia
 |n+1=>CN (z7 n)
theorem y3(ok:aJ TY m TZ rows)(h:Q (.bl (decide (TY.length<=12)&&(decide (TZ<=40)&&(decide (bd rows<=4)&&decide (cRs rows<=60))))) M):rB ad [aW m TZ TY rows mk] M Q E:=by
 have u:atI [D.int m,.tup (TY.map D.str),.int TZ,.tup (ah rows),.str mk] 1=cb (.tup<|TY.map D.str):=by rw[atI_1];rfl
 have A:atI [D.int m,.tup (TY.map D.str),.int TZ,.tup (ah rows),.str mk] 2=cb (.int TZ):=by rw[atI_2];rfl
 have g:atI [D.int m,.tup (TY.map D.str),.int TZ,.tup (ah rows),.str mk] 3=cb (.tup<|ah rows):=by rw[atI_3];rfl
 rw[JO];unfold xi;simp only[ax,eY,ak,bn,aa,ae,ac,dC,aw,aW,aC,u,A,g,bF,Md,zH,pY,Mb,dt];have B:decide (((TY.length:Nat):Int)<=12)=decide (TY.length<=12):=decide_eq_decide.mpr (by lia)
 rw[B];cases s:decide (TY.length<=12) with
 |false=>rw[s]at h;exact aq h
 |true=>
  rw[s,PY]at h;dsimp only;cases l:decide (TZ<=40) with
  |false=>rw[l]at h;exact aq h
  |true=>
   rw[l,PY]at h;dsimp only;simp only[am,aj,aa,ak,ac,dC,ae,aw,aC,g,Mb,dt];refine⟨rfl,au λQ' E' w _=>z7 24 rows 0 M Q' E' TY m TZ ok (by lia) (by lia) λc q=>w _ _ ?_⟩
   simp only[frz];have e:decide (((c:Nat):Int)<=60)=(decide (bd rows<=4)&&decide (cRs rows<=60)):=by
    rw[<- Qr];refine decide_eq_decide.mpr ⟨λz=>?_,λz=>?_⟩
    .rcases Nl 4 (bd rows+0) with y|y
     .have:=q.n y;lia
     .have:=q.y y;lia
    .have:=q.y (by lia);lia
   rw[e];exact aq h
end
section
noncomputable def vw(m TZ:Int)(TY:Uh)(rs os:List Rw)(mk:Str):D:=aW m (TZ+((cQ rs os).length:Int)) (TY++[cM TY]) (uV TY TZ rs os) mk
theorem A0(g:PlH m TZ TY rs mk)(s:aJ TY m TZ os)(k:bw rs os=true)(f:nU TZ TY rs os=true)(h:Q (.bl true) M):rL ad [vw m TZ TY rs os mk] M Q E:=by
 obtain⟨A,_,_⟩:=tR g s k;have t:=g.t;have n1:=t.n1;have k0:=t.k0;unfold nU at f;simp only[MA,decide_eq_true_eq]at f;obtain⟨B,C⟩:=qg n1;have nd:(TY++[cM TY]).Nodup:=NV.mpr ⟨g.nd,by simp,λx l y u e=>by
  simp only[MH]at u;subst u;exact C (e▸l)⟩
 have w:=sH (TY++[cM TY]) [] (by simpa using nd)
 simp only[Mv,NF]at w;refine sf t.m2 t.m1 (by lia) f.2.1 (λx l=>?_) (by simp) (by simpa using f.1) w (Ms.mpr<|.inl g.mkm) A f.2.2.1 f.2.2.2 h
 rcases Ms.mp l with z|z
 .exact g.one x z
 .simp only[MH]at z
  subst z;exact JB B
theorem vm(g:PlH m TZ TY rs mk)(l:aJ TY m TZ os)(k:bw rs os=true)(f:nU TZ TY rs os=true)(h:Q (vw m TZ TY rs os mk) M):xn ad [aW m TZ TY rs mk,aW m TZ TY os mk] M Q E:=by
 have n1:=g.t.n1;have Y:=g.h;have Z:=g.c;have I:∀r:List Rw,atI [D.int m,.tup (TY.map D.str),.int TZ,.tup (ah r),.str mk] 0=cb (.int m):=λr=>by rw[atI_0];rfl
 have F:∀r:List Rw,atI [D.int m,.tup (TY.map D.str),.int TZ,.tup (ah r),.str mk] 1=cb (.tup<|TY.map D.str):=λr=>by rw[atI_1];rfl
 have S:∀r:List Rw,atI [D.int m,.tup (TY.map D.str),.int TZ,.tup (ah r),.str mk] 2=cb (.int TZ):=λr=>by rw[atI_2];rfl
 have R:∀r:List Rw,atI [D.int m,.tup (TY.map D.str),.int TZ,.tup (ah r),.str mk] 3=cb (.tup<|ah r):=λr=>by rw[atI_3];rfl
 have X:∀r:List Rw,atI [D.int m,.tup (TY.map D.str),.int TZ,.tup (ah r),.str mk] 4=cb (.str mk):=λr=>by rw[atI_4];rfl
 rw[L0];unfold w6;generalize A:jL ad (az E)=K3;simp only[al,ap,rJ,aa,ac,ae,Mb,dt];refine⟨rfl,λa H=>au λQ' E' O _=>t7 n1 g.ok l k (by lia) (by lia) Mem.upd_same λp M1 w J=>O _ _ ?_⟩
 have keep:∀b o,M b=cb o->M1 b=cb o:=λb o e=>by
  have C:b≠a:=λz=>by rw[z,H]at e;cases e
  exact J b o C (by rw[ai C];exact e)
 simp only[af,Mu];rw[<- A];unfold jL;generalize u:jE ad (az E)=K2;simp only[aW,al,ap,am,aj,aa,ac,ak,dC,ae,av,aw,aC,R,Mb,dt];refine⟨aQ (by simp),rfl,au λQ2 E2 s _=>(uZ 24).1 rs os [] M1 Q2 E2 g.ok l k (A8 rs os) (by lia) (by lia) (by simp;lia) w (s _ _ ?_)⟩
 simp only[frz,af,Mu];rw[<- u];unfold jE;generalize B:jv ad (az E)=K1;simp only[al,ap,av,aa,ak,ac,dC,du,am,bn,ae,w.w,KN,GG,vV,w.d,qq,aw,aC,I,F,S,X,aF,frz,af,Mu,Mb,dt];refine⟨trivial,aQ (by simp),aQ (by simp only[Md,Mc,Mv];lia),trivial,aQ (by simp),?_⟩
 have G:D.tup [.int m,.tup (TY.map D.str++[.str (cM TY)]),.int (TZ+((cQ rs os).length:Int)),.tup (ah<|bK (cM TY) (bJ (cQ rs os) TZ) [] 0 rs os),.str mk]=vw m TZ TY rs os mk:=by
  unfold vw aW uV;rw[Nx];rfl
 rw[G,<- B];unfold jv;simp only[al,aA,df,bO,am,aj,aa,ac,ae,Mb,dt];refine⟨rfl,aL (λ_ _ q=>A0 g l k f q) ?_⟩;simp only[frz,vN,Nc,Mr,if_false,ay,ax,ac,Mb,dt];exact⟨M,keep,h⟩
end
inductive Tk where
 |row (r:Rw)|rows (j:Nat) (rs:List Rw)|loop (x:Str) (a:List Rw) (t:Nat)
noncomputable abbrev qL:=(List Int×Int)×List Int
noncomputable def cf(m:Int)(P:Ug):Cf:=⟨m,P,0⟩
inductive Ex(m:Int)(P:Ug):Tk->List Int->List Int->dk->dk->List qL->Prop
 |leaf {r:Rw} {pl wp:Ug} {n:dk} (h:ms r=true):Ex m P (.row r) pl wp n (sN n (y8 r)<|eg (cf m P) n r) [((pl,eg (cf m P) n r),wp)]
 |ifT {x:Str} {a b:List Rw} {pl wp:Ug} {n n':dk} {T:List qL} (h:lk n x=1) (h1:Ex m P (.rows 0 a) (pl++[1]) (wp++[1]) n n' T):Ex m P (.row<|.ifr x a b) pl wp n n' (((pl,1),wp)::T)
 |ifF {x:Str} {a b:List Rw} {pl wp:Ug} {n n':dk} {T:List qL} (h:lk n x=0) (h1:Ex m P (.rows 0 b) (pl++[0]) (wp++[0]) n n' T):Ex m P (.row<|.ifr x a b) pl wp n n' (((pl,0),wp)::T)
 |again {x:Str} {a:List Rw} {pl wp:Ug} {n n':dk} {T:List qL} (h:Ex m P (.loop x a 0) pl wp n n' T):Ex m P (.row<|.again x a) pl wp n n' T
 |loopE {x:Str} {a:List Rw} {t:Nat} {pl wp:Ug} {n:dk} (h:lk n x=0):Ex m P (.loop x a t) pl wp n n [((pl++[(t:Int)],0),wp++[0])]
 |loopC {x:Str} {a:List Rw} {t:Nat} {pl wp:Ug} {n n1 n':dk} {T1 T2:List qL} (h:lk n x=1) (h1:Ex m P (.rows 0 a) (pl++[(t:Int)]) (wp++[0]) n n1 T1) (h2:Ex m P (.loop x a (t+1)) pl wp n1 n' T2):Ex m P (.loop x a t) pl wp n n' (((pl++[(t:Int)],1),wp++[0])::(T1++T2))
 |nil {j:Nat} {pl wp:Ug} {n:dk}:Ex m P (.rows j []) pl wp n n []
 |cons {j:Nat} {r:Rw} {rs:List Rw} {pl wp:Ug} {n n1 n':dk} {T1 T2:List qL} (h1:Ex m P (.row r) (pl++[(j:Int)]) (wp++[(j:Int)]) n n1 T1) (h2:Ex m P (.rows (j+1) rs) pl wp n1 n' T2):Ex m P (.rows j (r::rs)) pl wp n n' (T1++T2)
theorem JI(n:dk)(x:Str):lk n x=0\/lk n x=1:=by unfold lk;split<;>simp
section
theorem Ap{s:Sx}(h:(nt c pl v s).1=true):nt c pl v s=(true,⟨s.nums,s.steps++[(pl,v)]⟩):=by
 unfold nt at h ⊢
 split at h
 .rename_i q;rw[if_pos q]
 .cases h
theorem AC{n:dk}:eg c n r=eg (cf c.m c.pieces) n r:=by cases r<;>rfl
def LL(c:Cf)(K:Tk)(pl wp:Ug)(s s':Sx):Prop:=∃T,Ex c.m c.pieces K pl wp s.nums s'.nums T/\s'.steps=s.steps++T.map (·.1)
theorem xy{x:Str}{a:List Rw}{pl wp:Ug}{e:Nat->Sx->Bool×Sx}(A:∀t s s',e t s=(true,s')->LL c (.rows 0 a) (pl++[(t:Int)]) (wp++[0]) s s'):∀(f t:Nat)(s s':Sx),dF c x pl e f t s=(true,s')->LL c (.loop x a t) pl wp s s'
 |0,_,_,_,h=>by simp[dF]at h
 |f+1,t,s,s',h=>by
  unfold dF at h
  by_cases u:(nt c (pl++[(t:Int)]) (lk s.nums x) s).1=true
  .rw[if_pos u,Ap u]at h
   by_cases g:lk s.nums x=1
   .rw[if_pos g]at h
    dsimp only at h;rw[g]at h
    by_cases l:(e t ⟨s.nums,s.steps++[(pl++[(t:Int)],1)]⟩).1=true
    .rw[if_pos l]at h
     obtain⟨T1,F,B⟩:=A t _ _ (Ro l rfl);obtain⟨T2,G,C⟩:=xy A f (t+1) _ _ h;exact⟨_,.loopC g F G,by rw[C,B];simp⟩
    .rw[if_neg l]at h
     exact absurd (congrArg Rn h) l
   .rw[if_neg g]at h
    have w:lk s.nums x=0:=(JI _ _).resolve_right g;rw[w]at h;cases h;exact⟨_,.loopE w,rfl⟩
  .rw[if_neg u]at h
   exact absurd (congrArg Rn h) u
theorem qm{s s':Sx}(hr:ms r=true)(h:gB c r pl s=(true,s')):LL c (.row r) pl wp s s':=by
 rw[bI hr]at h;unfold gE at h
 split at h
 .cases h
  refine⟨_,.leaf hr,?_⟩;rw[<- AC];rfl
 .cases h
mutual
theorem Ih:∀(r:Rw)(pl wp:Ug)(s s':Sx),gB c r pl s=(true,s')->LL c (.row r) pl wp s s'
 |.ifr x a b,pl,wp,s,s',h=>by
  have u:=ip a;have B:=ip b;unfold gB at h
  by_cases l:(nt c pl (lk s.nums x) s).1=true
  .rw[if_pos l,Ap l]at h
   by_cases g:lk s.nums x=1
   .rw[if_pos g,g]at h
    obtain⟨T,e,q⟩:=u _ (wp++[1]) _ _ _ h;exact⟨_,.ifT g e,by rw[q];simp⟩
   .rw[if_neg g]at h
    have A:lk s.nums x=0:=(JI _ _).resolve_right g;rw[A]at h;obtain⟨T,e,q⟩:=B _ (wp++[0]) _ _ _ h;exact⟨_,.ifF A e,by rw[q];simp⟩
  .rw[if_neg l]at h
   exact absurd (congrArg Rn h) l
 |.again x a,pl,wp,s,s',h=>by
  have u:=ip a;unfold gB at h;obtain⟨T,e,q⟩:=xy (a:=a) (wp:=wp) (λt s s' z=>u _ _ _ _ _ z) _ _ _ _ h;exact⟨T,.again e,q⟩
 |.put x k,pl,wp,s,s',h=>qm rfl h
 |.take x k,pl,wp,s,s',h=>qm rfl h
 |.pick x k,pl,wp,s,s',h=>qm rfl h
 |.two w x y z,pl,wp,s,s',h=>qm rfl h
theorem ip:∀(rs:List Rw)(pl wp:Ug)(j:Nat)(s s':Sx),cO c rs pl j s=(true,s')->LL c (.rows j rs) pl wp s s'
 |[],pl,wp,j,s,s',h=>by
  simp only[cO,Qy,true_and]at h;subst h;exact⟨[],.nil,by simp⟩
 |r::rs,pl,wp,j,s,s',h=>by
  unfold cO at h
  by_cases e:(gB c r (pl++[(j:Int)]) s).1=true
  .rw[if_pos e]at h
   obtain⟨T1,l,u⟩:=Ih r (pl++[(j:Int)]) (wp++[(j:Int)]) s _ (Ro e rfl);obtain⟨T2,g,w⟩:=ip rs pl wp (j+1) _ _ h;exact⟨_,.cons l g,by rw[w,u];simp⟩
  .rw[if_neg e]at h
   exact absurd (congrArg Rn h) e
end
def Go(c:Cf)(n:dk)(n':dk)(T:List qL)(S:List (List Int×Int))(g:Sx->Bool×Sx):Prop:=
 (S.length+T.length<=c.most->g ⟨n,S⟩=(true,⟨n',S++T.map (·.1)⟩))/\(c.most<S.length+T.length->(g ⟨n,S⟩).1=eH)
theorem xJ{n:dk}{S:List (List Int×Int)}:nt c pl v ⟨n,S⟩=if S.length<c.most then (true,⟨n,S++[(pl,v)]⟩) else (eH,⟨n,S⟩):=rfl
theorem Ln{K:Tk}{n:dk}(h:Ex m P K pl wp n n' T)(w:c.m=m)(A:c.pieces=P):∀S:List (List Int×Int),S.length<=c.most->match K with
  |.row r=>Go c n n' T S (gB c r pl)
  |.rows j rs=>Go c n n' T S (cO c rs pl j)
  |.loop x a t=>∀f,c.most-S.length+1<=f->Go c n n' T S (dF c x pl (λt s=>cO c a (pl++[(t:Int)]) 0 s) f t):=by
 subst w;subst A
 induction h with
 |@leaf r pl wp n h=>
  intro S e;refine⟨λq=>?_,λq=>?_⟩
  .rw[bI h]
   unfold gE;rw[if_pos (show S.length<c.most by simp at q;lia),AC]
   rfl
  .rw[bI h]
   unfold gE;rw[if_neg (show ¬S.length<c.most by simp at q;lia)]
 |@ifT x a b pl wp n n' T h h1 ih=>
  intro S e;unfold Go gB;dsimp only;rw[xJ,h]
  by_cases q:S.length<c.most
  .rw[if_pos q]
   have:=ih (S++[(pl,1)]) (by simp;lia)
   dsimp only at this ⊢;rw[if_pos rfl,if_pos rfl];refine⟨λz=>?_,λz=>?_⟩
   .rw[this.1 (by simp at z ⊢;lia)];simp
   .exact this.2 (by simp at z ⊢;lia)
  .rw[if_neg q]
   refine⟨λz=>?_,λz=>?_⟩
   .simp at z;lia
   .rfl
 |@ifF x a b pl wp n n' T h h1 ih=>
  intro S e;unfold Go gB;dsimp only;rw[xJ,h]
  by_cases q:S.length<c.most
  .rw[if_pos q]
   have:=ih (S++[(pl,0)]) (by simp;lia)
   dsimp only at this ⊢;rw[if_pos rfl,if_neg (by lia)]
   refine⟨λz=>?_,λz=>?_⟩
   .rw[this.1 (by simp at z ⊢;lia)];simp
   .exact this.2 (by simp at z ⊢;lia)
  .rw[if_neg q]
   refine⟨λz=>?_,λz=>?_⟩
   .simp at z;lia
   .rfl
 |@again x a pl wp n n' T h ih=>
  intro S e;have:=ih S e (c.most+1) (by lia)
  unfold Go at this ⊢;unfold gB;exact this
 |@loopE x a t pl wp n h=>
  intro S e f u;obtain⟨f,rfl⟩:∃g,f=g+1:=⟨f-1,by lia⟩
  unfold Go dF;dsimp only;rw[xJ,h]
  by_cases q:S.length<c.most
  .rw[if_pos q]
   dsimp only;rw[if_pos rfl,if_neg (by lia)]
   exact⟨λ_=>rfl,λz=>by simp at z;lia⟩
  .rw[if_neg q]
   refine⟨λz=>?_,λz=>rfl⟩;simp at z;lia
 |@loopC x a t pl wp n n1 n' T1 T2 h h1 h2 ih1 ih2=>
  intro S e f u;obtain⟨f,rfl⟩:∃g,f=g+1:=⟨f-1,by lia⟩
  unfold Go dF;dsimp only;rw[xJ,h]
  by_cases q:S.length<c.most
  .rw[if_pos q]
   have i1:=ih1 (S++[(pl++[(t:Int)],1)]) (by simp;lia)
   dsimp only at i1 ⊢;rw[if_pos rfl,if_pos rfl]
   by_cases l:(S++[(pl++[(t:Int)],(1:Int))]).length+T1.length<=c.most
   .rw[i1.1 l]
    dsimp only;rw[if_pos rfl];have i2:=ih2 (S++[(pl++[(t:Int)],1)]++T1.map (·.1)) (by simp at l ⊢;lia) f (by simp at l ⊢;lia)
    refine⟨λz=>?_,λz=>?_⟩
    .rw[i2.1 (by simp at z ⊢;lia)];simp
    .exact i2.2 (by simp at z ⊢;lia)
   .have:=i1.2 (by lia)
    rw[if_neg (by rw[this];simp)]
    refine⟨λz=>?_,λz=>this⟩;simp at z l;lia
  .rw[if_neg q]
   refine⟨λz=>?_,λz=>rfl⟩;simp at z;lia
 |@nil j pl wp n=>
  intro S e;refine⟨λ_=>by simp[cO],λz=>by simp at z;lia⟩
 |@cons j r rs pl wp n n1 n' T1 T2 h1 h2 ih1 ih2=>
  intro S e;have i1:=ih1 S e;unfold Go cO;dsimp only at i1 ⊢
  by_cases l:S.length+T1.length<=c.most
  .rw[i1.1 l]
   dsimp only;rw[if_pos rfl];have i2:=ih2 (S++T1.map (·.1)) (by simp;lia)
   dsimp only at i2;refine⟨λz=>?_,λz=>?_⟩
   .rw[i2.1 (by simp at z ⊢;lia)];simp
   .exact i2.2 (by simp at z ⊢;lia)
  .have:=i1.2 (by lia)
   rw[if_neg (by rw[this];simp)]
   refine⟨λz=>?_,λz=>this⟩;simp at z;lia
theorem Bi{pl wp:Ug}:∀{a b:List Rw}{j:Nat}{n n1 n':dk}{T1 T2:List qL},Ex m P (.rows j a) pl wp n n1 T1->Ex m P (.rows (j+a.length) b) pl wp n1 n' T2->Ex m P (.rows j (a++b)) pl wp n n' (T1++T2)
 |[],b,j,n,n1,n',T1,T2,h1,h2=>by
  cases h1;exact h2
 |r::a,b,j,n,n1,n',T1,T2,h1,h2=>by
  cases h1 with
  |cons p q=>
   rw[MG];refine .cons p (Bi q ?_);rw[show j+1+a.length=j+(r::a).length by simp;lia]
   exact h2
end
mutual
noncomputable def yX:Rw->List Int->List Int
 |.again _ a,q=>match q with
  |[]=>[]
  |_::q=>0::(match q with
   |[]=>[]
   |j::q=>j::sD a j.toNat q)
 |.ifr _ a b,q=>match q with
  |[]=>[]
  |s::q=>s::(match q with
   |[]=>[]
   |j::q=>j::(if s=1 then sD a j.toNat q else sD b j.toNat q))
 |_,_=>[]
noncomputable def sD:List Rw->Nat->List Int->List Int
 |[],_,_=>[]
 |r::_,0,q=>yX r q
 |_::rs,k+1,q=>sD rs k q
end
noncomputable def cS(rs:List Rw):List Int->List Int
 |[]=>[]
 |j::q=>j::sD rs j.toNat q
mutual
def Jo:Rw->List Int->Prop
 |.again _ a,q=>match q with
  |[]=>True
  |t::q=>0<=t/\(match q with
   |[]=>True
   |j::q=>0<=j/\rM a j.toNat q)
 |.ifr _ a b,q=>match q with
  |[]=>True
  |s::q=>match q with
   |[]=>False
   |j::q=>0<=j/\((s=1/\rM a j.toNat q)\/(s=0/\rM b j.toNat q))
 |_,q=>q=[]
def rM:List Rw->Nat->List Int->Prop
 |[],_,_=>False
 |r::_,0,q=>Jo r q
 |_::rs,k+1,q=>rM rs k q
end
def jd(rs:List Rw):List Int->Prop
 |[]=>False
 |j::q=>0<=j/\rM rs j.toNat q
theorem jo(r:Rw):yX r []=[]:=by cases r<;>rfl
theorem qB(r:Rw):Jo r []:=by cases r<;>first|exact trivial|exact(rfl:([]:Ug)=[])
section
theorem KY{K:Tk}{n:dk}(h:Ex m P K pl wp n n' T):(match K with
  |.row r=>∀q,Jo r q->jd rows (pl++q)/\cS rows (pl++q)=wp++yX r q
  |.rows j rs=>∀(i:Nat)(q:Ug),rM rs i q->jd rows (pl++((j+i:Nat):Int)::q)/\cS rows (pl++((j+i:Nat):Int)::q)=wp++((j+i:Nat):Int)::sD rs i q
  |.loop x a _=>∀q,Jo (.again x a) q->jd rows (pl++q)/\cS rows (pl++q)=wp++yX (.again x a) q)->∀s∈T,jd rows s.1.1/\cS rows s.1.1=s.2:=by
 induction h with
 |@leaf r pl wp n h=>
  intro H s hs;have:=H [] (qB r);rw[jo,Mx,Mx]at this;simp only[MH]at hs;subst hs;exact this
 |@ifT x a b pl wp n n' T h h1 ih=>
  intro H s hs;rcases Mm.mp hs with rfl|hs
  .have:=H [] (qB _)
   rw[jo,Mx,Mx]at this;exact this
  .refine ih (λi q e=>?_) s hs
   have:=H (1::(i:Int)::q) ⟨by lia,.inl ⟨rfl,by rw[MI];exact e⟩⟩
   simp only[yX,if_true,MI]at this;simp only[MG,MX,NF];exact this
 |@ifF x a b pl wp n n' T h h1 ih=>
  intro H s hs;rcases Mm.mp hs with rfl|hs
  .have:=H [] (qB _)
   rw[jo,Mx,Mx]at this;exact this
  .refine ih (λi q e=>?_) s hs
   have:=H (0::(i:Int)::q) ⟨by lia,.inr ⟨rfl,by rw[MI];exact e⟩⟩
   simp only[yX,if_neg (show ¬(0:Int)=1 by lia),MI]at this
   simp only[MG,MX,NF];exact this
 |@again x a pl wp n n' T h ih=>exact λH=>ih H
 |@loopE x a t pl wp n h=>
  intro H s hs;have:=H [(t:Int)] ⟨by lia,trivial⟩
  simp only[MH]at hs;subst hs;exact this
 |@loopC x a t pl wp n n1 n' T1 T2 h h1 h2 ih1 ih2=>
  intro H s hs;rcases Mm.mp hs with rfl|hs
  .exact H [(t:Int)] ⟨by lia,trivial⟩
  .rcases Ms.mp hs with hs|hs
   .refine ih1 (λi q e=>?_) s hs
    have:=H ((t:Int)::(i:Int)::q) ⟨by lia,by lia,by rw[MI];exact e⟩
    simp only[yX,MI]at this;simp only[MG,MX,NF];exact this
   .exact ih2 H s hs
 |@nil j pl wp n=>exact λ_ s hs=>by cases hs
 |@cons j r rs pl wp n n1 n' T1 T2 h1 h2 ih1 ih2=>
  intro H s hs;rcases Ms.mp hs with hs|hs
  .refine ih1 (λq e=>?_) s hs
   have:=H 0 q e;simp only[sD,Nat.add_zero]at this;simp only[MG,MX];exact this
  .refine ih2 (λi q e=>?_) s hs
   have:=H (i+1) q e;rw[show j+(i+1)=j+1+i by lia]at this
   exact this
theorem HN{n:dk}(h:Ex m P (.rows 0 rows) [] [] n n' T):∀s∈T,jd rows s.1.1/\cS rows s.1.1=s.2:=
 KY h λi q e=>by
  simp only[NR,NF];exact⟨⟨by lia,by rw[MI];exact e⟩,by simp only[cS,MI]⟩
end
mutual
theorem At:∀(r o:Rw)(pl:Ug),pl.length % 2=1->∀x∈bz pl r o,x.length % 2=1
 |.ifr _ a b,o,pl,h=>by
  have e:=dS a;have g:=dS b;cases o with
  |ifr y a' b'=>
   intro x hx;simp only[bz,Ms]at hx;rcases hx with hx|hx
   .exact g _ _ _ (by simp;lia) x hx
   .exact e _ _ _ (by simp;lia) x hx
  |_=>intro x hx;cases hx
 |.again _ a,o,pl,h=>by
  have e:=dS a;cases o with
  |again y a'=>exact λx hx=>e _ _ _ (by simp;lia) x hx
  |_=>intro x hx;cases hx
 |.put _ _,o,pl,h=>by intro x hx;rw[aU rfl]at hx;split at hx<;>simp at hx;rw[hx];exact h
 |.take _ _,o,pl,h=>by intro x hx;rw[aU rfl]at hx;split at hx<;>simp at hx;rw[hx];exact h
 |.pick _ _,o,pl,h=>by intro x hx;rw[aU rfl]at hx;split at hx<;>simp at hx;rw[hx];exact h
 |.two _ _ _ _,o,pl,h=>by intro x hx;rw[aU rfl]at hx;split at hx<;>simp at hx;rw[hx];exact h
theorem dS:∀(rs os:List Rw)(pl:Ug)(j:Nat),pl.length % 2=0->∀x∈aX pl j rs os,x.length % 2=1
 |[],os,pl,j,_=>by intro x hx;cases hx
 |r::rs,os,pl,j,h=>by
  cases os with
  |nil=>intro x hx;cases hx
  |cons o os=>
   intro x hx;simp only[aX,Ms]at hx;rcases hx with hx|hx
   .exact At r o _ (by simp;lia) x hx
   .exact dS rs os _ _ h x hx
end
theorem CD(hr:aO r=eH)(k:ff r o=true)(h:tV r o=eH):r=o:=by
 have e:¬(Mq "put")=Mq "take":=by decide +kernel
 have g:¬(Mq "take")=Mq "put":=by decide +kernel
 cases r<;>first|(cases hr;done)|(cases o<;>first|(cases k;done)|skip)
 all_goals simp[tV,Rw.d,aH,cG,e,g]at h
 all_goals first|(obtain⟨rfl,rfl,rfl,rfl⟩:=h;rfl)|(obtain⟨rfl,rfl⟩:=h;rfl)|exact absurd h.1 e|exact absurd h.1 g
noncomputable def mY(L:Uf)(T:List qL):Nat:=(T.filter λs=>decide (s.2∈L)).length
section
theorem Bj{T1 T2:List qL}:mY L (T1++T2)=mY L T1+mY L T2:=by simp[mY]
theorem sB{s:List Int×Int}{w:Ug}(h:w∉L):mY L ((s,w)::T)=mY L T:=by simp[mY,h]
theorem Hu{s:List Int×Int}{w:Ug}(h:w∈L):mY L [(s,w)]=1:=by simp[mY,h]
end
structure Rel(TY:Uh)(z:Str)(n N:dk):Prop where
 k1:n.map (·.1)=TY
 k2:N.map (·.1)=TY++[z]
 v:∀x∈TY,nm N x=nm n x
theorem vW{n:dk}(h:x∈n.map (·.1)):nm (sN n x v) y=if y=x then v else nm n y:=by
 unfold nm;rw[KG h]
 split<;>rfl
section
variable{n N:dk}{l:Nat}
theorem Rel.set(r:Rel TY z n N)(e:x∈TY)(v:Int):Rel TY z (sN n x v) (sN N x v):=by
 refine⟨by rw[jH];exact r.k1,by rw[jH];exact r.k2,λy g=>?_⟩
 rw[vW (n:=N) (by rw[r.k2];exact Ms.mpr (.inl e)),vW (n:=n) (by rw[r.k1];exact e),r.v y g]
theorem Rel.own(r:Rel TY z n N)(s:z∉TY)(v:Int):Rel TY z n (sN N z v)/\nm (sN N z v) z=v:=by
 have h:z∈N.map (·.1):=by rw[r.k2];simp
 refine⟨⟨r.k1,by rw[jH];exact r.k2,λy g=>?_⟩,?_⟩
 .rw[vW h,if_neg (λe:y=z=>s (e▸g)),r.v y g]
 .rw[vW h,if_pos rfl]
theorem Rel.lk(r:Rel TY z n N)(e:x∈TY):_T.lk N x=_T.lk n x:=by unfold _T.lk;rw[r.v x e]
theorem xR(r:Rel TY z n N){e:Rw}(g:ms e=true)(h:bT e=eH)(ok:bX TY m TZ e)(A:(P.length:Int)=TZ):eg (cf m (P++Mh l T7)) N e=eg (cf m P) n e/\y8 e∈TY:=by
 cases e with
 |put x k=>exact⟨rfl,ok.1⟩
 |take x i=>
  have s:=ok.2.1;have u:=ok.2.2;refine⟨?_,ok.1⟩;show ((P++Mh l T7)[i.toNat]?).getD 0=(P[i.toNat]?).getD 0;rw[Ny (by lia)]
 |pick x y=>cases h
 |two w x y z=>
  refine⟨?_,ok.2.1⟩;show Ft w (nm N y) (nm N z) m=Ft w (nm n y) (nm n z) m;rw[r.v y ok.2.2.1,r.v z ok.2.2.2]
 |ifr x a b=>cases g
 |again x a=>cases g
end
section
def Sim(TY:Uh)(z:Str)(m TZ:Int)(P:Ug)(T7:Int)(L:Uf)(b:Bool)(K:Tk)(wp:Ug)(n n':dk)(T:List qL):Prop:=match K with
 |.row e=>∀r o,e=(if b=true then o else r)->ff r o=true->nbR L wp r o->(∀x∈bz wp r o,x∈L)->bX TY m TZ r->bX TY m TZ o->wp.length % 2=1->∀pl' wp' j' N,Rel TY z n N->
  ∃N' T',Ex m (P++Mh L.length T7) (.rows j'<|kF z (bJ L TZ) wp r o) pl' wp' N N' T'/\Rel TY z n' N'/\T'.length=T.length+2*mY L T
 |.rows j es=>∀rs os,es=(if b=true then os else rs)->bw rs os=true->m9 L wp j rs os->(∀x∈aX wp j rs os,x∈L)->aJ TY m TZ rs->aJ TY m TZ os->wp.length % 2=0->∀pl' wp' j' N,Rel TY z n N->
  ∃N' T',Ex m (P++Mh L.length T7) (.rows j'<|bK z (bJ L TZ) wp j rs os) pl' wp' N N' T'/\Rel TY z n' N'/\T'.length=T.length+2*mY L T
 |.loop x a t=>∀ra oa,a=(if b=true then oa else ra)->bw ra oa=true->m9 L (wp++[0]) 0 ra oa->(∀x∈aX (wp++[0]) 0 ra oa,x∈L)->aJ TY m TZ ra->aJ TY m TZ oa->wp.length % 2=1->x∈TY->∀pl' wp' N,Rel TY z n N->
  ∃N' T',Ex m (P++Mh L.length T7) (.loop x (bK z (bJ L TZ) (wp++[0]) 0 ra oa) t) pl' wp' N N' T'/\Rel TY z n' N'/\T'.length=T.length+2*mY L T
theorem Ay{c:List Rw}(e:Rw.ifr x a c=(if b=true then o else r))(k:ff r o=true):∃g l s h,r=.ifr x g l/\o=.ifr x s h/\a=(if b=true then s else g)/\c=(if b=true then h else l)/\bw g s=true/\bw l h=true:=by
 cases b with
 |true=>
  simp only[if_true]at e;subst e;cases r with
  |ifr y g l=>
   simp only[ff,MA,decide_eq_true_eq]at k;obtain⟨rfl,u,w⟩:=k;exact⟨_,_,_,_,rfl,rfl,rfl,rfl,u,w⟩
  |_=>simp[ff,aO,bT]at k
 |false=>
  simp only[Mr,if_false]at e;subst e;cases o with
  |ifr y s h=>
   simp only[ff,MA,decide_eq_true_eq]at k;obtain⟨rfl,u,w⟩:=k;exact⟨_,_,_,_,rfl,rfl,rfl,rfl,u,w⟩
  |_=>cases k
theorem Gg(e:Rw.again x a=(if b=true then o else r))(k:ff r o=true):∃g h,r=.again x g/\o=.again x h/\a=(if b=true then h else g)/\bw g h=true:=by
 cases b with
 |true=>
  simp only[if_true]at e;subst e;cases r with
  |again y g=>
   simp only[ff,MA,decide_eq_true_eq]at k;obtain⟨rfl,l⟩:=k;exact⟨_,_,rfl,rfl,rfl,l⟩
  |_=>simp[ff,aO,bT]at k
 |false=>
  simp only[Mr,if_false]at e;subst e;cases o with
  |again y h=>
   simp only[ff,MA,decide_eq_true_eq]at k;obtain⟨rfl,l⟩:=k;exact⟨_,_,rfl,rfl,rfl,l⟩
  |_=>cases k
theorem Hd{e:Rw}(g:e=(if b=true then o else r))(h:ms e=true)(k:ff r o=true):aO r=eH/\aO o=eH/\bT r=eH/\bT o=false:=by
 cases b with
 |true=>
  simp only[if_true]at g;subst g;cases r<;>cases e<;>first|(cases h;done)|(cases k;done)|exact⟨rfl,rfl,rfl,rfl⟩|simp[ff,aO,bT]at k
 |false=>
  simp only[Mr,if_false]at g;subst g;cases e<;>cases o<;>first|(cases h;done)|(cases k;done)|exact⟨rfl,rfl,rfl,rfl⟩|simp[ff,aO,bT]at k
theorem zd(e:∀x∈L,x.length % 2=1)(h:wp.length % 2=1):wp++[0]∉L:=λz=>by
 have:=e _ z;simp at this;lia
theorem sim(hz:z∉TY)(hP:(P.length:Int)=TZ)(hb:b=true↔T7≠0)(hL:∀x∈L,x.length % 2=1){K:Tk}{n:dk}(h:Ex m P K pl wp n n' T):Sim TY z m TZ P T7 L b K wp n n' T:=by
 induction h with
 |@leaf e pl wp n hs=>
  intro r o es k C B g w G u s A N R;obtain⟨b1,b2,p1,p2⟩:=Hd es hs k;have oke:bX TY m TZ e:=by rw[es];split<;>assumption
  have pe:bT e=false:=by rw[es];split<;>assumption
  rw[fF b1]
  by_cases c:wp∈L
  .obtain⟨i,ei,ec⟩:=Bm (TZ:=TZ) c
   obtain⟨hi,_⟩:=NO.mp ei;rw[ec];obtain⟨R1,hv⟩:=R.own hz T7;obtain⟨ev,S⟩:=xR (P:=P) (T7:=T7) (l:=L.length) R1 hs pe oke hP;have et:eg (cf m (P++Mh L.length T7)) N (.take z (TZ+(i:Int)))=T7:=by
    show ((P++Mh L.length T7)[(TZ+(i:Int)).toNat]?).getD 0=T7;rw[show (TZ+(i:Int)).toNat=P.length+i by lia,Nb (by lia),Nat.add_sub_cancel_left,O8,if_pos hi]
    rfl
   have F:=Ex.leaf (m:=m) (P:=P++Mh L.length T7) (r:=.take z (TZ+(i:Int))) (pl:=u++[(A:Int)]) (wp:=s++[(A:Int)]) (n:=N) rfl;rw[et]at F;have Y:∀(pl wp:Ug),Ex m (P++Mh L.length T7) (.rows 0 [e]) pl wp (sN N z T7) (sN (sN N z T7) (y8 e)<|eg (cf m P) n e) ([((pl++[((0:Nat):Int)],eg (cf m P) n e),wp++[((0:Nat):Int)])]++[]):=λpl wp=>by
    have:=Ex.leaf (m:=m) (P:=P++Mh L.length T7) (r:=e) (pl:=pl++[((0:Nat):Int)]) (wp:=wp++[((0:Nat):Int)]) (n:=sN N z T7) hs;rw[ev]at this;exact .cons this .nil
   have x3:∀(pl wp:Ug),∃T3,Ex m (P++Mh L.length T7) (.row<|.ifr z [o] [r]) pl wp (sN N z T7) (sN (sN N z T7) (y8 e)<|eg (cf m P) n e) T3/\T3.length=2:=λpl wp=>by
    by_cases cm:T7=0
    .have eb:b=false:=by
      cases hbb:b with
      |false=>rfl
      |true=>exact absurd cm (hb.mp hbb)
     rw[eb,if_neg (by simp)]at es
     subst es;exact⟨_,.ifF (by unfold lk;rw[hv,if_pos cm]) (Y _ _),rfl⟩
    .rw[hb.mpr cm,if_pos rfl]at es
     subst es;exact⟨_,.ifT (by unfold lk;rw[hv,if_neg cm]) (Y _ _),rfl⟩
   obtain⟨T3,x3,l3⟩:=x3 (u++[((A+1:Nat):Int)]) (s++[((A+1:Nat):Int)]);refine⟨_,_,.cons F (.cons x3 .nil),R1.set S _,?_⟩;rw[Hu c];simp[l3]
  .have er:r=o:=CD b1 k (by
    cases hne:tV r o with
    |false=>rfl
    |true=>exact absurd (B wp<|by rw[aU b1,hne];simp) c)
   subst er;rw[ite_self]at es;subst es;rw[pU c];obtain⟨ev,S⟩:=xR (P:=P) (T7:=T7) (l:=L.length) R hs pe oke hP;have F:=Ex.leaf (m:=m) (P:=P++Mh L.length T7) (r:=e) (pl:=u++[(A:Int)]) (wp:=s++[(A:Int)]) (n:=N) hs;rw[ev]at F;refine⟨_,_,.cons F .nil,R.set S _,?_⟩;rw[sB c];rfl
 |@ifT x a c pl wp n n' T h h1 ih=>
  intro r o es k C B g w G u s A N R;obtain⟨I,rc,J,oc,rfl,rfl,O,ec,H,kc⟩:=Ay es k;simp only[bz,Ms]at B;obtain⟨N',T',F,R',lT⟩:=ih I J O H C.2.1 (λy X=>B y (.inr X)) g.2.1 w.2.1 (by simp;lia) (u++[(A:Int)]++[1]) (s++[(A:Int)]++[1]) 0 N R
  refine⟨N',_,.cons (.ifT (by rw[R.lk g.1];exact h) F) .nil,R',?_⟩
  rw[sB C.1];simp only[Mx,Mc];lia
 |@ifF x a c pl wp n n' T h h1 ih=>
  intro r o es k C B g w G u s A N R;obtain⟨I,rc,J,oc,rfl,rfl,O,ec,H,kc⟩:=Ay es k;simp only[bz,Ms]at B;obtain⟨N',T',F,R',lT⟩:=ih rc oc ec kc C.2.2 (λy X=>B y (.inl X)) g.2.2 w.2.2 (by simp;lia) (u++[(A:Int)]++[0]) (s++[(A:Int)]++[0]) 0 N R
  refine⟨N',_,.cons (.ifF (by rw[R.lk g.1];exact h) F) .nil,R',?_⟩
  rw[sB C.1];simp only[Mx,Mc];lia
 |@again x a pl wp n n' T h ih=>
  intro r o es k C B g w G u s A N R;obtain⟨I,J,rfl,rfl,O,H⟩:=Gg es k;obtain⟨N',T',F,R',lT⟩:=ih I J O H C.2 B g.2 w.2 G g.1 (u++[(A:Int)]) (s++[(A:Int)]) N R;refine⟨N',_,.cons (.again F) .nil,R',?_⟩;rw[Mx];exact lT
 |@loopE x a t pl wp n h=>
  intro I J O H C B g w G S u s N R;refine⟨N,_,.loopE (by rw[R.lk S];exact h),R,?_⟩
  rw[sB (zd hL G)];rfl
 |@loopC x a t pl wp n n1 n' T1 T2 h h1 h2 ih1 ih2=>
  intro I J O H C B g w G S u s N R;obtain⟨N1,T1',F,R1,l1⟩:=ih1 I J O H C B g w (by simp;lia) (u++[(t:Int)]) (s++[0]) 0 N R
  obtain⟨N2,T2',Y,R2,l2⟩:=ih2 I J O H C B g w G S u s N1 R1;refine⟨N2,_,.loopC (by rw[R.lk S];exact h) F Y,R2,?_⟩
  rw[sB (zd hL G),Bj];simp only[Mc,Mg];lia
 |@nil j pl wp n=>
  intro rs os es k C B g w G u s A N R;have er:rs=[]:=by
   cases rs with
   |nil=>rfl
   |cons r rs=>
    cases os with
    |nil=>cases k
    |cons o os=>cases b<;>cases es
  subst er;exact⟨N,[],.nil,R,rfl⟩
 |@cons j e es pl wp n n1 n' T1 T2 h1 h2 ih1 ih2=>
  intro rs os Z k C B g w G u s A N R;cases rs with
  |nil=>
   cases os with
   |nil=>cases b<;>cases Z
   |cons o os=>cases k
  |cons r rs=>
   cases os with
   |nil=>cases k
   |cons o os=>
    simp only[bw,MA]at k;simp only[aX,Ms]at B;have q:e=(if b=true then o else r)/\es=(if b=true then os else rs):=by
     cases b with
     |true=>simp only[if_true,My]at Z ⊢;exact Z
     |false=>simp only[Mr,if_false,My]at Z ⊢;exact Z
    obtain⟨N1,T1',F,R1,l1⟩:=ih1 r o q.1 k.1 C.1 (λy X=>B y (.inl X)) g.1 w.1 (by simp;lia) u s A N R
    obtain⟨N2,T2',Y,R2,l2⟩:=ih2 rs os q.2 k.2 C.2 (λy X=>B y (.inr X)) g.2 w.2 G u s (A+(kF z (bJ L TZ) (wp++[(j:Int)]) r o).length) N1 R1;refine⟨N2,_,Bi F Y,R2,?_⟩;rw[Bj];simp only[Mg];lia
end
theorem FR:∀{rs:List Rw}{i:Nat}{q:Ug},rM rs i q->∃r,rs[i]?=cb r/\Jo r q/\sD rs i q=yX r q
 |[],_,_,h=>by cases h
 |r::_,0,q,h=>⟨r,rfl,h,rfl⟩
 |_::rs,i+1,q,h=>by
  obtain⟨r,g,l,e⟩:=FR (rs:=rs) h;exact⟨r,by simpa using g,l,e⟩
theorem F4{TY:Uh}{m TZ:Int}:∀{rs:List Rw}{i:Nat}{r:Rw},aJ TY m TZ rs->rs[i]?=cb r->bX TY m TZ r
 |[],_,_,_,h=>by simp at h
 |s::_,0,r,o,h=>by
  have:s=r:=by simpa using h
  subst this;exact o.1
 |_::rs,i+1,r,o,h=>F4 (rs:=rs) o.2 (by simpa using h)
section
variable{rowsd:D}{p:Ug}
theorem pR{l:Ug}:frz (tupD l) M K=K (tupD l) M:=rfl
theorem KA{e q:Ug}{j:Int}:atI ((e++j::q).map D.int) (e.length:Nat)=cb (.int j):=by
 rw[bE (by lia),MI,Mw,Nb (by lia),Nat.sub_self]
 rfl
theorem Ck{j:Int}(e:0<=j)(h:rs[j.toNat]?=cb r):atI (ah rs) j=cb r.d:=by
 rw[bE e,iD,Mw,h];rfl
def Lq(D2:DEnds)(M:Mem)(p:Ug)(rowsd:D)(wp:Ug)(h:D)(k:Nat):Prop:=∀c5 c6,D2.nx [cb (tupD p),cb rowsd,cb (tupD wp),cb h,cb (.int (k:Nat)),c5,c6] M
theorem p8{s:Int}{g q:Ug}{F h2:D}{I:Option D}{ag:Bool}(J:p=g++s::q)(O:wp.length<=1000)(w:atI (match r.d with|.tup xs=>xs|_=>[]) 0=cb (.str<|dB r))(hr:∃xs,r.d=.tup xs)(G:decide (dB r="again")=ag)(u:(if (ag=true\/s=1) then atI (match r.d with|.tup xs=>xs|_=>[]) 2 else atI (match r.d with|.tup xs=>xs|_=>[]) 3)=cb h2)(h:Lq D2 M p rowsd (wp++[if ag=true then 0 else s]) h2 (g.length+1)):
  mD ad EE D2 [cb (tupD p),cb rowsd,cb (tupD wp),cb F,cb (.int (g.length:Nat)),cb r.d,I] M:=by
 obtain⟨xs,C⟩:=hr;rw[C]at w u ⊢;dsimp only at w u;have H:atI (p.map D.int) (g.length:Nat)=cb (.int s):=by rw[J];exact KA
 unfold mD;generalize A:pH ad EE=K2;simp only[tupD,al,ap,ak,ac,aw,aC,H,af,Mu,Mb,dt];rw[<- A];unfold pH;generalize B:pZ ad EE=K1;simp only[al,ap,am,ak,qh,ao,ac,dC,aw,aC,w,ci,dv,aH,bN,Mb,dt];rw[G];refine⟨trivial,trivial,?_⟩;have l:K1 D2 [cb (tupD p),cb rowsd,cb (tupD (wp++[if ag=true then 0 else s])),cb F,cb (.int (g.length:Nat)),cb (.tup xs),cb (.int s)] M:=by
  rw[<- B];unfold pZ;simp only[al,ap,ak,qh,jw,ao,ac,dC,aw,aC,w,ci,dv,aH,bN,Mb,dt];rw[G];refine⟨trivial,trivial,?_⟩;have go:∀K:Prop,K=D2.nx [cb (tupD p),cb rowsd,cb (tupD (wp++[if ag=true then 0 else s])),cb h2,cb (.int ((g.length+1:Nat):Int)),cb (.tup xs),cb (.int s)] M->K:=λK e=>by rw[e];exact h _ _
  cases ag with
  |true=>
   rw[if_pos (.inl rfl)]at u;simp only[if_true,u,af,Mu,aF,Mb,dt];have:=h (cb<|.tup xs) (cb<|.int s);rw[show ((g.length+1:Nat):Int)=(g.length:Int)+1 by lia]at this
   exact this
  |false=>
   simp only[Mr,if_false];refine⟨trivial,trivial,?_⟩
   by_cases c:s=1
   .rw[if_pos (.inr c)]at u
    rw[decide_eq_true c];simp only[if_true,u,af,Mu,aF,Mb,dt];have:=h (cb<|.tup xs) (cb<|.int s);rw[show ((g.length+1:Nat):Int)=(g.length:Int)+1 by lia]at this
    exact this
   .rw[if_neg (by simp[c])]at u
    rw[decide_eq_false c];simp only[Mr,if_false,u,af,Mu,aF,Mb,dt];have:=h (cb<|.tup xs) (cb<|.int s);rw[show ((g.length+1:Nat):Int)=(g.length:Int)+1 by lia]at this
    exact this
 cases ag with
 |true=>
  rw[if_pos rfl]at l ⊢;simp only[av,aa,dC,ae];refine⟨aQ (by simp),ca (pl:=wp) (by lia) ?_⟩
  rw[pR];simp only[af,Mu];exact l
 |false=>
  rw[if_neg (by simp)]at l ⊢
  simp only[av,aa,ac,ae,Mb,dt];refine⟨aQ (by simp),ca (pl:=wp) (by lia) ?_⟩
  rw[pR];simp only[af,Mu];exact l
theorem Ao(ok:aJ TY m TZ rows)(hv:jd rows p)(hl:p.length<=100)(h:Q (tupD<|cS rows p) M):Ep ad [tupD p,.tup (ah rows)] M Q E:=by
 rw[u_q2];unfold Ey qE uv uQ;generalize R:pL ad (az E)=K7;simp only[al,ap,av,ae,ac,dC,af,Mu,Mb,dt];refine⟨aQ (by simp),?_⟩
 refine⟨p.length+1,?_⟩
 refine ga (λk U N=>N=M/\∃(g q wp:Ug)(Z:D)(H I:Option D),k=q.length/\p=g++q/\wp.length<=g.length/\(q=[]->cS rows p=wp)/\(q≠[]->∃l,Z=.tup (ah l)/\aJ TY m TZ l/\jd l q/\cS rows p=wp++cS l q)/\U=[cb (tupD p),cb (.tup<|ah rows),cb (tupD wp),cb Z,cb (.int (g.length:Nat)),H,I]) ?_ _ p.length _ _ (by lia)
  ⟨rfl,[],p,[],.tup (ah rows),ed,ed,rfl,rfl,Mn _,λe=>by rw[e];rfl,λ_=>⟨rows,rfl,ok,hv,rfl⟩,rfl⟩
 rintro k U N ⟨rfl,g,q,wp,Z,H,I,rfl,F,hw,hn,hc,rfl⟩ D' G hrt
 have lp:p.length=g.length+q.length:=by rw[F,Mg]
 simp only[ao,ak,ac,bn,aa,ae,bF,tupD,aC,Md,yM,pY,Mb,dt];cases q with
 |nil=>
  rw[decide_eq_false (by simp at lp;lia),if_neg (by simp)]
  simp only[ax,ac,Mb,dt];have e:=hn rfl;rw[e]at h;exact aq h
 |cons j q=>
  simp only[Mc]at lp;rw[decide_eq_true (by lia),if_pos rfl]
  obtain⟨l,rfl,X,⟨j0,vd⟩,J⟩:=hc (by simp)
  obtain⟨r,hr,u,er⟩:=FR vd;have A:=F4 X hr;rw[cS,er]at J;have e1:atI (p.map D.int) (g.length:Nat)=cb (.int j):=by rw[F];exact KA
  have e2:=Ck j0 hr;rw[<- R];unfold pL;generalize S:pF ad (az E)=K6;simp only[al,ap,ak,ac,aw,aC,e1,e2,af,Mu,Mb,dt];rw[<- S];unfold pF;generalize Y:pO ad (az E)=K5;simp only[al,ap,ak,ac,aw,aC,e1,av,aa,ae,Mb,dt];refine⟨aQ (by simp),ca (pl:=wp) (by lia) ?_⟩
  simp only[af,Mu];rw[<- Y];unfold pO;generalize O:qr ad (az E)=K4;simp only[al,ap,ak,ac,dC,aF,af,Mu,Mb,dt];rw[<- O,show (g.length:Int)+1=(((g++[j]).length:Nat):Int) by simp]
  unfold qr;generalize hK3:mD ad (az E)=K3;simp only[aA,ao,ak,ac,bn,aa,ae,bF,aC,Md,yM,pY,Mb,dt];cases q with
  |nil=>
   rw[decide_eq_false (by simp at lp ⊢;lia),if_neg (by simp)]
   refine G 0 _ _ (by simp) ⟨rfl,g++[j],[],wp++[j],.tup (ah l),_,_,rfl,by rw[F];simp,by simp;lia,λ_=>?_,λz=>absurd rfl z,rfl⟩
   rw[J,jo]
  |cons s q=>
   rw[decide_eq_true (by simp at lp ⊢;lia),if_pos rfl,<- hK3]
   have B:p=(g++[j])++s::q:=by rw[F];simp
   have okc:=A;have C:∀(h2:List Rw)(w:Int),aJ TY m TZ h2->(q=[]->yX r [s]=[w])->(q≠[]->jd h2 q/\yX r (s::q)=w::cS h2 q)->Lq D' N p (.tup<|ah rows) (wp++[j]++[w]) (.tup<|ah h2) ((g++[j]).length+1):=λh2 w o2 y1 y2 H I=>by
    refine G q.length _ _ (by simp only[Mc];lia) ⟨rfl,g++[j,s],q,wp++[j]++[w],.tup (ah h2),H,I,rfl,by rw[F];simp,by simp;lia,λz=>?_,λz=>?_,by rw[show (g++[j]).length+1=(g++[j,s]).length by simp]⟩
    .subst z
     rw[J,y1 rfl];simp
    .obtain⟨v2,e2⟩:=y2 z
     refine⟨h2,rfl,o2,v2,?_⟩;rw[J,e2];simp
   cases r with
   |again x a=>
    refine p8 (r:=.again x a) (ag:=true) B (by simp;lia) (by rw[atI_0];rfl) ⟨_,rfl⟩ (decide_eq_true rfl) (h2:=.tup (ah a)) (by rw[if_pos (.inl rfl),atI_2];rfl) ?_
    refine C a 0 A.2 (λz=>by subst z;rfl) λz=>?_
    cases q with
    |nil=>exact absurd rfl z
    |cons i q=>exact⟨u.2,rfl⟩
   |ifr x a b=>
    have na:decide (dB (.ifr x a b)="again")=false:=by
     have:dB (.ifr x a b)="if":=rfl;rw[this]
     decide +kernel
    cases q with
    |nil=>exact u.elim
    |cons i q=>
     rcases u.2 with⟨rfl,v⟩|⟨rfl,v⟩
     .refine p8 (r:=.ifr x a b) (ag:=eH) B (by simp;lia) (by rw[atI_0];rfl) ⟨_,rfl⟩ na (h2:=.tup (ah a)) (by rw[if_pos (.inr rfl),atI_2];rfl) ?_
      exact C a 1 A.2.1 (λz=>by cases z) λz=>⟨⟨u.1,v⟩,by simp[yX,cS]⟩
     .refine p8 (r:=.ifr x a b) (ag:=eH) B (by simp;lia) (by rw[atI_0];rfl) ⟨_,rfl⟩ na (h2:=.tup (ah b)) (by rw[if_neg (by simp),atI_3];rfl) ?_
      exact C b 0 A.2.2 (λz=>by cases z) λz=>⟨⟨u.1,v⟩,by simp[yX,cS]⟩
   |put x k=>cases u
   |take x k=>cases u
   |pick x k=>cases u
   |two w x y z=>cases u
end
mutual
theorem Ct:∀(r:Rw)(q:Ug),Jo r q->q.length<=2*hR r
 |.again x a,q,h=>by
  have e:=fj a;simp only[hR];cases q with
  |nil=>simp
  |cons t q=>
   cases q with
   |nil=>simp;lia
   |cons j q=>
    have:=e _ _ h.2.2;simp only[Mc];lia
 |.ifr x a b,q,h=>by
  have i1:=fj a;have i2:=fj b;simp only[hR];cases q with
  |nil=>simp
  |cons s q=>
   cases q with
   |nil=>exact h.elim
   |cons j q=>
    rcases h.2 with⟨_,v⟩|⟨_,v⟩
    .have:=i1 _ _ v
     simp only[Mc];lia
    .have:=i2 _ _ v
     simp only[Mc];lia
 |.put _ _,q,h=>by have:q=[]:=h;subst this;simp
 |.take _ _,q,h=>by have:q=[]:=h;subst this;simp
 |.pick _ _,q,h=>by have:q=[]:=h;subst this;simp
 |.two _ _ _ _,q,h=>by have:q=[]:=h;subst this;simp
theorem fj:∀(rs:List Rw)(i:Nat)(q:Ug),rM rs i q->q.length<=2*bd rs
 |[],_,_,h=>h.elim
 |r::rs,0,q,h=>by
  have:=Ct r q h;simp only[bd];lia
 |r::rs,i+1,q,h=>by
  have:=fj rs i q h;simp only[bd];lia
end
theorem IT{q:Ug}(h:jd rs q):q.length<=2*bd rs+1:=by
 cases q with
 |nil=>exact h.elim
 |cons j q=>
  have:=fj _ _ _ h.2;simp only[Mc];lia
section
noncomputable def dZ(b:Bool)(rs os:List Rw):List Rw:=if b=true then os else rs
theorem B_(s:z∉TY)(g:TY.length=nums.length):Rel TY z (TY.zip nums) ((TY++[z]).zip (nums++[0])):=by
 refine⟨fi g,fi (by simp[g]),λx h=>?_⟩
 rw[List.zip_append g];have e:gN (TY.zip nums) x=cb (nm (TY.zip nums) x):=zY (by rw[fi g];exact h)
 have l:gN (TY.zip nums++[z].zip [(0:Int)]) x=gN (TY.zip nums) x:=by
  unfold gN at e ⊢;rw[List.find?_append];cases c:(TY.zip nums).find? λp=>decide (p.1=x) with
  |none=>rw[c]at e;cases e
  |some p=>rfl
 unfold nm;rw[l]
theorem J7(g:PlH m TZ TY rs mk)(l:aJ TY m TZ os)(k:bw rs os=true)(F:(P.length:Int)=TZ)(C:TY.length=nums.length)(H:b=true↔T7≠0)(e:(bo ⟨m,P,most⟩ TY (dZ b rs os) nums).1=true):
  ∃(T:List qL)(N':dk),(bo ⟨m,P,most⟩ TY (dZ b rs os) nums).2.steps=T.map (·.1)/\(∀s∈T,jd (dZ b rs os) s.1.1/\cS (dZ b rs os) s.1.1=s.2)/\(∀x∈TY,nm N' x=nm (bo ⟨m,P,most⟩ TY (dZ b rs os) nums).2.nums x)/\
   ∀room:Nat,(T.length+2*mY (cQ rs os) T<=room->∃S',bo ⟨m,P++Mh (cQ rs os).length T7,room⟩ (TY++[cM TY]) (uV TY TZ rs os) (nums++[0])=(true,⟨N',S'⟩)/\S'.length=T.length+2*mY (cQ rs os) T)/\
    (room<T.length+2*mY (cQ rs os) T->(bo ⟨m,P++Mh (cQ rs os).length T7,room⟩ (TY++[cM TY]) (uV TY TZ rs os) (nums++[0])).1=eH):=by
 have u:=(qg g.t.n1).2;obtain⟨T,x,B⟩:=ip (c:=⟨m,P,most⟩) (dZ b rs os) [] [] 0 ⟨TY.zip nums,[]⟩ (bo ⟨m,P,most⟩ TY (dZ b rs os) nums).2 (Ro e rfl);obtain⟨N',T',A,R',w⟩:=sim (T7:=T7) (b:=b) (L:=cQ rs os) u F H (λy h=>dS rs os [] 0 rfl y ((bV fc _).mem_iff.mp h)) x rs os rfl k (A8 rs os) (λy h=>(bV fc _).mem_iff.mpr h) g.ok l rfl [] [] 0 _ (B_ u C);refine⟨T,N',by rw[B,NR],HN x,R'.v,λroom=>?_⟩
 have G:=Ln (c:=⟨m,P++Mh (cQ rs os).length T7,room⟩) A rfl rfl [] (MY _);dsimp only at G;rw[<- w];refine⟨λq=>⟨_,G.1 (by simpa using q),by simp⟩,λq=>G.2 (by simpa using q)⟩
theorem yO(h:∀s∈T,jd es s.1.1/\cS es s.1.1=s.2):((T.map (·.1)).filter λq=>decide (cS es q.1∈L)).length=mY L T:=by
 unfold mY;rw[List.filter_map,Md];congr 1;refine List.filter_congr λs e=>?_;show decide (cS es s.1.1∈L)=decide (s.2∈L);rw[(h s e).2]
theorem GQ(g:PlH m TZ TY rs mk):(TY++[cM TY]).Nodup:=NV.mpr ⟨g.nd,by simp,λx l y h e=>by
  simp only[MH]at h;subst h;exact(qg g.t.n1).2 (e▸l)⟩
theorem Fg(g:PlH m TZ TY rs mk)(e:aJ TY m TZ os):aJ TY m TZ (dZ b rs os):=by unfold dZ;split;exact e;exact g.ok
theorem Br(g:PlH m TZ TY rs mk)(e:aJ TY m TZ os)(h2:bd os<=4)(u:(P.length:Int)=TZ)(w:TY.length=nums.length)(A:∀v∈nums,0<=v/\v<m)(s:∀v∈P,0<=v/\v<m)(l:most<=10000):PlOk ⟨m,P,most⟩ TY (dZ b rs os) nums:=by
 have t:=g.t;have k1:=t.k1;have n1:=t.n1;have B:=g.h;subst u;refine⟨⟨t.m2,t.m1,s,by show P.length<=1000;lia,l⟩,w,g.nd,t.n0,by lia,A,Fg g e,?_⟩
 unfold dZ
 split<;>lia
theorem L8(g:PlH m TZ TY rs mk)(l:aJ TY m TZ os)(k:bw rs os=true)(J:(P.length:Int)=TZ)(C:TY.length=nums.length)(F:∀v∈nums,0<=v/\v<m)(A:∀v∈P,0<=v/\v<m)(w:most<=10000)(B:0<=T7)(m1:T7<m):
  PlOk ⟨m,P++Mh (cQ rs os).length T7,most⟩ (TY++[cM TY]) (uV TY TZ rs os) (nums++[0]):=by
 have t:=g.t;have k1:=t.k1;have n1:=t.n1;have H:=g.h;have s:=g.c;have m2:=t.m2;obtain⟨u,_,I⟩:=tR g l k;have lp:=ke rs os (by lia)
 have G:(cQ rs os).length<=60:=by
  unfold cQ;rw[(bV fc _).length_eq];exact ME (bM rs os [] 0) s
 refine⟨⟨t.m2,t.m1,λv e=>?_,?_,w⟩,by simp[C],GQ g,by simp,by simp;lia,λv e=>?_,?_,by lia⟩
 .rcases Ms.mp e with z|z
  .exact A v z
  .rw[(List.mem_replicate.mp z).2]
   exact⟨B,m1⟩
 .show (P++Mh (cQ rs os).length T7).length<=1000
  simp only[Mg,OD];lia
 .rcases Ms.mp e with z|z
  .exact F v z
  .simp only[MH]at z
   subst z;exact⟨Int.le_refl 0,show (0:Int)<m by lia⟩
 .show aJ (TY++[cM TY]) m ((P++Mh (cQ rs os).length T7).length:Nat) (uV TY TZ rs os)
  have:(((P++Mh (cQ rs os).length T7).length:Nat):Int)=TZ+((cQ rs os).length:Int):=by
   simp only[Mg,OD];lia
  rw[this];exact u
end
section
noncomputable def C6(mk:Str)(r:Bool×Sx):D:=if r.1=true then .int (nm r.2.nums mk) else .non
theorem zf:∀{TY:Uh},mk∈TY->∃j,TY.findIdx? (λy=>decide (y=mk))=cb j/\TY[j]?=cb mk
 |[],h=>by simp at h
 |x::TY,h=>by
  by_cases e:x=mk
  .subst e;exact⟨0,by simp[Oz],rfl⟩
  .have g:mk∈TY:=by
    rcases Mm.mp h with z|z
    .exact absurd z.symm e
    .exact z
   obtain⟨j,l,s⟩:=zf g;exact⟨j+1,by simp[Oz,e,l],by simpa using s⟩
theorem o9(p:PlOk c TY rows nums)(u:mk∈TY)(h:Q (C6 mk<|bo c TY rows nums) M):qY ad [aK c TY rows mk,bc nums c.pieces,.int (c.most:Nat)] M Q E:=by
 have l1:=p.l1;obtain⟨j,l,s⟩:=zf u;simp![JL,vS];refine gT p ?_;simp![yb,atI_1];unfold C6 at h;unfold dw;cases e:(bo c TY rows nums).1 with
 |true=>
  rw[e,if_pos rfl]at h;rw[if_pos rfl];simp![aK,atI_1,atI_4,gp,l];refine⟨l1,?_⟩;have g:atI (TY.map λx=>D.int (nm (bo c TY rows nums).2.nums x)) (j:Nat)=cb (.int<|nm (bo c TY rows nums).2.nums mk):=by
   rw[bE (by lia),MI,Mw,s];rfl
  simp![g];exact aq h
 |false=>
  rw[e,if_neg (by simp)]at h
  rw[if_neg (by simp)]
  simp![];exact aq h
end
theorem HQ{x:D}:BE 1 x->BE (n+1) x:=by
 intro h;cases x with
 |tup xs=>
  refine⟨h.1,λy hy=>?_⟩;have:=h.2 y hy;cases y<;>first|exact this.elim|(cases n<;>trivial)
 |lst xs=>
  refine⟨h.1,λy hy=>?_⟩;have:=h.2 y hy;cases y<;>first|exact this.elim|(cases n<;>trivial)
 |_=>first|trivial|exact h.elim
theorem Bq{xs:List D}{x:D}:dz (xs++[x]) ed (cb (-1))=xs:=by
 unfold dz;rw[HT.lm,QG,Nat.sub_zero];have:HT.sIx (xs++[x]).length (xs++[x]).length (cb (-1))=xs.length:=by
  unfold HT.sIx;simp;lia
 rw[this];simp
section
variable{k:Pt}{x0 x1 x2 x3 x4 x8 c11 c12 c13 c14 c15 c16:Option D}
theorem La{A B:Int}{l:Uh}{r e:List Rw}{un:List D}(g:M p=ed)(h:K (.tup [aW A B l r mk,aW A B l e mk,.lst un]) M):uq (.tup [aW A B l r mk,aW A B l e mk,.ref p]) (M.upd p<|.lst un) K:=by
 simp only[uq,frzs,aW,Mem.upd_same,Mem.upd_del,ar g];exact h
theorem Io(g:PlH m TZ TY rs mk)(e:aJ TY m TZ os)(l:bw rs os=true)(h:Q (.bl<|nU TZ TY rs os) M):rB ad [vw m TZ TY rs os mk] M Q E:=by
 refine y3 (tR g e l).1 ?_;unfold nU at h;rw[Mg];exact h
theorem GB{g:Option D}(s:∀r:Nat,r+1=room->PlOk ⟨c.m,c.pieces,r⟩ Ud W Uc/\(bo ⟨c.m,c.pieces,r⟩ Ud W Uc).1=eH)(h:D0.nx [x0,x1,x2,x3,x4,cb (aK c Ud W mk),cb (bc nums P),g,x8,c11,c12,c13,c14,cb (bc Uc c.pieces),c15,cb (.int (room:Nat)),c16] N):
  kD ad EE D0 [x0,x1,x2,x3,x4,cb (aK c Ud W mk),cb (bc nums P),g,x8,c11,c12,c13,c14,cb (bc Uc c.pieces),c15,cb (.int (room:Nat)),c16] N:=by
 unfold kD;simp only[aA,gk,ao,ak,ac,dC,uf,pY,gb,g6,aj,aa,ae,Mb,dt];cases room with
 |zero=>
  rw[decide_eq_false (by simp),if_neg (by simp),if_neg (by simp)]
  exact h
 |succ r=>
  rw[decide_eq_true (by lia),if_pos rfl]
  obtain⟨p,e⟩:=s r rfl;have l:((r+1:Nat):Int)-1=(r:Nat):=by lia
  rw[l];refine⟨rfl,gT (c:=⟨c.m,c.pieces,r⟩) (TY:=Ud) (rows:=W) (mk:=mk) (nums:=Uc) p ?_⟩;have i1:∀a b:D,atI [a,b] 1=cb b:=λa b=>by rw[atI_1];rfl
  simp only[yb,aC,i1,aw];unfold dw;rw[e];simp only[Mr,if_false,li,lL,Nc];exact h
theorem GP(u:PlOk ⟨c.m,c.pieces,room⟩ Ud W Uc)(s:PlOk ⟨m,P,most⟩ TY es nums)(g:mk∈TY)(e:mk∈Ud)(A:(bo ⟨c.m,c.pieces,room⟩ Ud W Uc).1=true)(B:(bo ⟨m,P,most⟩ TY es nums).1=true)(w:nm (bo ⟨c.m,c.pieces,room⟩ Ud W Uc).2.nums mk=nm (bo ⟨m,P,most⟩ TY es nums).2.nums mk)(l:∀r:Nat,r+1=room->PlOk ⟨c.m,c.pieces,r⟩ Ud W Uc/\(bo ⟨c.m,c.pieces,r⟩ Ud W Uc).1=eH)(h:D0.nx [x0,x1,x2,x3,x4,cb (aK c Ud W mk),cb (bc nums P),cb (.int (most:Nat)),x8,cb (aK ⟨m,P,most⟩ TY es mk),c12,c13,c14,cb (bc Uc c.pieces),c15,cb (.int (room:Nat)),c16] N):
  gR ad EE D0 [x0,x1,x2,x3,x4,cb (aK c Ud W mk),cb (bc nums P),cb (.int (most:Nat)),x8,cb (aK ⟨m,P,most⟩ TY es mk),c12,c13,c14,cb (bc Uc c.pieces),c15,cb (.int (room:Nat)),c16] N:=by
 unfold gR;refine cg ?_;simp only[aA,df,bO,am,aj];simp only[aa,am,aj,ac,ae,Mb,dt];refine⟨rfl,aL (λ_ _ q=>o9 (c:=⟨c.m,c.pieces,room⟩) u e q) ?_⟩;unfold C6;rw[A,if_pos rfl];simp only[frz];refine⟨rfl,aL (λ_ _ q=>o9 (c:=⟨m,P,most⟩) s g q) ?_⟩;unfold C6;rw[B,if_pos rfl];simp only[frz];rw[w];refine⟨rfl,aL (λQ' E' q=>de 23 _ N Q' E' trivial q) ?_⟩;simp only[frz,vN,Nc,Mr,if_false];exact GB l h
theorem z8{e:Option D}(A:PlOk ⟨c.m,c.pieces,room⟩ (TY++[z]) W Uc)(w:PlOk ⟨m,P,most⟩ TY es nums)(s:mk∈TY)(C:(bo ⟨c.m,c.pieces,room⟩ (TY++[z]) W Uc).1=true)(F:(bo ⟨m,P,most⟩ TY es nums).1=true)(R:(bo ⟨c.m,c.pieces,room⟩ (TY++[z]) W Uc).2.steps.length=room)(B:∀x∈TY,nm (bo ⟨c.m,c.pieces,room⟩ (TY++[z]) W Uc).2.nums x=nm (bo ⟨m,P,most⟩ TY es nums).2.nums x)(O:∀r:Nat,r+1=room->PlOk ⟨c.m,c.pieces,r⟩ (TY++[z]) W Uc/\(bo ⟨c.m,c.pieces,r⟩ (TY++[z]) W Uc).1=eH)(h:∀c16,D0.nx [x0,x1,x2,x3,x4,cb (aK c (TY++[z]) W mk),cb (bc nums P),cb (.int (most:Nat)),x8,cb (aK ⟨m,P,most⟩ TY es mk),c12,e,cb (dw TY<|bo ⟨m,P,most⟩ TY es nums),cb (bc Uc c.pieces),c15,cb (.int (room:Nat)),c16] N):
  gH ad EE D0 [x0,x1,x2,x3,x4,cb (aK c (TY++[z]) W mk),cb (bc nums P),cb (.int (most:Nat)),x8,cb (aK ⟨m,P,most⟩ TY es mk),c12,e,cb (dw TY<|bo ⟨m,P,most⟩ TY es nums),cb (bc Uc c.pieces),c15,cb (.int (room:Nat)),c16] N:=by
 unfold gH;refine cg ?_;generalize l:ki ad EE=K3;simp only[ap,g6,aj,aa,ac,ae,Mb,dt];refine⟨rfl,gT (c:=⟨c.m,c.pieces,room⟩) (TY:=TY++[z]) (rows:=W) (mk:=mk) (nums:=Uc) A ?_⟩;simp only[af,Mu];rw[<- l];unfold ki;refine cg ?_;generalize g:gR ad EE=K2;have u:∀a b:D,atI [a,b] 0=cb a:=λa b=>by rw[atI_0];rfl
 have i1:∀a b:D,atI [a,b] 1=cb b:=λa b=>by rw[atI_1];rfl
 have H:dw (TY++[z]) (bo ⟨c.m,c.pieces,room⟩ (TY++[z]) W Uc)=.tup ((TY.map λx=>D.int (nm (bo ⟨c.m,c.pieces,room⟩ (TY++[z]) W Uc).2.nums x))++[.int (nm (bo ⟨c.m,c.pieces,room⟩ (TY++[z]) W Uc).2.nums z)]):=by
  unfold dw;rw[C,if_pos rfl,Nx];rfl
 have I:D.tup (TY.map λx=>D.int (nm (bo ⟨c.m,c.pieces,room⟩ (TY++[z]) W Uc).2.nums x))=dw TY (bo ⟨m,P,most⟩ TY es nums):=by
  unfold dw;rw[F,if_pos rfl];congr 1;exact ON λx J=>by rw[B x J]
 simp only[yb,H];simp only[aA,jw,ao,df,bO,ak,ac,dC,am,aj,aa,eM,aD,aY,IY,bn,ae,aw,aC,u,i1,uF,lL,Mr,if_false,tu,Bq,frz,Mb,dt];rw[I];refine⟨rfl,aL (λQ' E' q=>de 23 _ N Q' E' (BU (n:=22) w.l1) q) ?_⟩;have G:((rN (bo ⟨c.m,c.pieces,room⟩ (TY++[z]) W Uc).2.steps).length:Nat)=room:=by rw[rN,Md];exact R
 simp only[frz,vN,Nc,Mr,if_false,u,bF,aC,ji,dv,bN,aH];rw[G];refine⟨trivial,trivial,?_⟩;rw[decide_eq_true rfl];simp only[Nc,Mr,if_false,ay];rw[<- g];exact GP (es:=es) A w s (Ms.mpr<|.inl s) C F (B mk s) O (h _)
end
section
variable{x0 x1 x2 x3 x8 c11 c12 c13 c14 c15 c16:Option D}
theorem G6:vw m (P.length:Nat) TY rs os mk=aK ⟨m,P++Mh (cQ rs os).length T7,0⟩ (TY++[cM TY]) (uV TY (P.length:Nat) rs os) mk:=by
 unfold vw aW aK;simp only[Mg,OD,Qz]
theorem II(g:PlH m (P.length:Nat) TY rs mk)(A:aJ TY m (P.length:Nat) os)(kk:bw rs os=true)(h2:bd os<=4)(Z:TY.length=nums.length)(rn:∀v∈nums,0<=v/\v<m)(rp:∀v∈P,0<=v/\v<m)(hm:most<=300)(hb:b=true↔T7≠0)(m0:0<=T7)(m1:T7<m)(e:(bo ⟨m,P,most⟩ TY (dZ b rs os) nums).1=true)(h:∀c14 c15 c16,D0.nx [x0,x1,x2,x3,cb (.lst<|qH rs os),cb (vw m (P.length:Nat) TY rs os mk),cb (bc nums P),cb (.int (most:Nat)),x8,cb (aW m (P.length:Nat) TY (dZ b rs os) mk),c11,cb (.lst<|rN (bo ⟨m,P,most⟩ TY (dZ b rs os) nums).2.steps),cb (dw TY<|bo ⟨m,P,most⟩ TY (dZ b rs os) nums),cb (bc (nums++[0]) (P++Mh (cQ rs os).length T7)),c14,c15,c16] N):
  ig ad EE D0 [x0,x1,x2,x3,cb (.lst<|qH rs os),cb (vw m (P.length:Nat) TY rs os mk),cb (bc nums P),cb (.int (most:Nat)),x8,cb (aW m (P.length:Nat) TY (dZ b rs os) mk),c11,cb (.lst<|rN (bo ⟨m,P,most⟩ TY (dZ b rs os) nums).2.steps),cb (dw TY<|bo ⟨m,P,most⟩ TY (dZ b rs os) nums),cb (bc (nums++[0]) (P++Mh (cQ rs os).length T7)),c14,c15,c16] N:=by
 have p2:PlOk ⟨m,P,most⟩ TY (dZ b rs os) nums:=Br g A h2 rfl Z rn rp (by lia)
 have sl:=An p2;obtain⟨T,N',es,wr,ev,rm⟩:=J7 (T7:=T7) g A kk rfl Z hb e;have lT:T.length<=most:=by
  rw[es,Md]at sl;exact sl
 have lc:mY (cQ rs os) T<=T.length:=Np ..;have hh:bd (dZ b rs os)<=4:=by
  have:=g.h;unfold dZ
  split<;>lia
 have X:=Fg (b:=b) g A;have a3:atI [D.int m,.tup (TY.map D.str),.int ((P.length:Nat):Int),.tup (ah<|dZ b rs os),.str mk] 3=cb (.tup<|ah<|dZ b rs os):=by rw[atI_3];rfl
 generalize hst:(bo ⟨m,P,most⟩ TY (dZ b rs os) nums).2.steps=st at es h ⊢;have O:∀q∈st,jd (dZ b rs os) q.1:=λq hq=>by
  rw[es]at hq;obtain⟨s,hs,rfl⟩:=MS.mp hq;exact(wr s hs).1
 have lst:st.length<=300:=by rw[es,Md];lia
 unfold ig;refine cg ?_;generalize R:jJ ad EE=K5;simp only[k_,oM,b6,cj,ac,aC,bu,Mb,dt];refine aV (λY T6 U M'=>∃(u l:List (List Int×Int))(C F:Option D),st=u++l/\Y=rN l/\T6=(u.filter λq=>decide (cS (dZ b rs os) q.1∈cQ rs os)).map (λq=>tupD q.1)/\U=[C,F,cb (aW m (P.length:Nat) TY (dZ b rs os) mk),cb (.lst<|qH rs os)]/\N=M') (λ_ _ _ _ _=>aI) ?_ ?_ ?_ _ _ _ _ ⟨[],st,ed,ed,rfl,rfl,rfl,rfl,rfl⟩
 .rintro T6 U M' ⟨u,l,C,F,w,B,rfl,rfl,rfl⟩ p hp
  have ez:l=[]:=by cases l with|nil=>rfl|cons _ _=>simp[rN]at B
  subst ez;rw[Mx]at w;subst w;simp only[Mu,ko,Mb,dt,Mem.upd_same,Mem.upd_del,ar hp];rw[<- R];unfold jJ;refine cg ?_;generalize G:gH ad EE=K4;have lf:(st.filter λq=>decide (cS (dZ b rs os) q.1∈cQ rs os)).length=mY (cQ rs os) T:=by rw[es];exact yO wr
  have ls:st.length=T.length:=by rw[es,Md]
  simp only[ap,ak,bn,aa,ac,dC,ae,bF,aC,Md,iP,aF,af,Mu,rN,Mb,dt];rw[lf,ls];refine⟨.inl ⟨by decide,by decide⟩,?_⟩
  have er:((T.length:Nat):Int)+2*((mY (cQ rs os) T:Nat):Int)=((T.length+2*mY (cQ rs os) T:Nat):Int):=by lia
  rw[er,<- G];obtain⟨r1,_⟩:=rm (T.length+2*mY (cQ rs os) T);obtain⟨S',S,lS⟩:=r1 (Mn _);have pw:∀r:Nat,r<=10000->PlOk ⟨m,P++Mh (cQ rs os).length T7,r⟩ (TY++[cM TY]) (uV TY (P.length:Nat) rs os) (nums++[0]):=λr hr=>L8 g A kk rfl Z rn rp hr m0 m1;simp only[G6 (T7:=T7)]at h ⊢;refine z8 (c:=⟨m,P++Mh (cQ rs os).length T7,0⟩) (es:=dZ b rs os) (pw _<|by lia) p2 g.mkm ?_ e ?_ ?_ (λr hr=>⟨pw r (by lia),(rm r).2<|by lia⟩) λc16=>h _ _ _
  .rw[S]
  .rw[S]
   exact lS
  .intro x hx
   rw[S];exact ev x hx
 .rintro y Y T6 U M' ⟨u,l,C,F,w,B,rfl,rfl,rfl⟩ N1 J H
  cases l with
  |nil=>simp[rN]at B
  |cons z l=>
   simp only[rN,Mo,My]at B;obtain⟨rfl,rfl⟩:=B;have I:=congrArg MN w;simp only[Mg,Mc]at I;have vz:=O z (by rw[w];simp)
   have lz:=IT vz;have fl:(u.filter λq=>decide (cS (dZ b rs os) q.1∈cQ rs os)).length<=u.length:=Np ..;simp only[bQ,aG,bR,af,Mu,ao,ak,am,aj,aa,ac,dC,ae,aw,aW,aC,a3,Mc,Mv,Mb,dt];refine⟨trivial,trivial,aL (λ_ _ q=>Ao (p:=z.1) X vz (by lia) q) ?_⟩
   rw[pR];have ei:iQ N (tupD<|cS (dZ b rs os) z.1) (.lst<|qH rs os)=cb (decide (cS (dZ b rs os) z.1∈cQ rs os)):=B6;simp only[qO,ei];cases c:decide (cS (dZ b rs os) z.1∈cQ rs os) with
   |true=>
    rw[if_pos rfl];exact J _ _ _ (by rw[Md];exact eI (by lia)) ⟨u++[z],l,_,_,by rw[w];simp,rfl,by simp[c];rfl,rfl,rfl⟩
   |false=>
    rw[if_neg (by simp)]
    exact H _ _ _ ⟨u++[z],l,_,_,by rw[w];simp,rfl,by simp[c],rfl,rfl⟩
 .rintro y Y T6 U M' ⟨u,l,C,F,w,B,rfl,rfl,rfl⟩
  have I:=congrArg MN w;simp only[Mg]at I;have fl:(u.filter λq=>decide (cS (dZ b rs os) q.1∈cQ rs os)).length<=u.length:=Np ..;rw[Md];exact eI (by lia)
theorem CO(g:PlH m (P.length:Nat) TY rs mk)(l:aJ TY m (P.length:Nat) os)(kk:bw rs os=true)(h2:bd os<=4)(F:TY.length=nums.length)(G:∀v∈nums,0<=v/\v<m)(C:∀v∈P,0<=v/\v<m)(Y:most<=300)(hb:b=true↔T7≠0)(m0:0<=T7)(Z:T7<m)(h:∀X B c11 c12 c13 c14 c15 c16,D0.nx [x0,x1,x2,x3,cb (.lst<|qH rs os),cb (vw m (P.length:Nat) TY rs os mk),cb (bc nums P),cb (.int (most:Nat)),x8,X,B,c11,c12,c13,c14,c15,c16] N):
  iy ad EE D0 [x0,x1,x2,x3,cb (.lst<|qH rs os),cb (vw m (P.length:Nat) TY rs os mk),cb (bc nums P),cb (.int (most:Nat)),x8,cb (aW m (P.length:Nat) TY (dZ b rs os) mk),cb (.int T7),c11,c12,c13,c14,c15,c16] N:=by
 have H:PlOk ⟨m,P,most⟩ TY (dZ b rs os) nums:=Br g l h2 rfl F G C (by lia)
 have n1:=g.t.n1;have k1:=g.t.k1;have hc:=g.c;have lp:=ke rs os (by lia)
 have J:(qH rs os).length=(cQ rs os).length:=by unfold qH cQ;rw[Md]
 unfold iy;refine cg ?_;generalize u:jy ad EE=K8;simp only[ap,g6,aj,aa,ac,ae,Mb,dt];refine⟨rfl,gT (c:=⟨m,P,most⟩) (TY:=TY) (rows:=dZ b rs os) (mk:=mk) (nums:=nums) H ?_⟩;simp only[yb,bQ,aG,bR,af,Mu,Mc,Mv];refine⟨trivial,?_⟩;rw[<- u];unfold jy;refine cg ?_;generalize A:kx ad EE=K7;have S:atI [D.tup (nums.map D.int),.tup (P.map D.int)] 0=cb (.tup<|nums.map D.int):=by rw[atI_0];rfl
 have I:atI [D.tup (nums.map D.int),.tup (P.map D.int)] 1=cb (.tup<|P.map D.int):=by rw[atI_1];rfl
 simp only[ap,av,aa,ak,ac,dC,bn,ae,aw,bc,aC,S,I,bF,Mb,dt];simp only[aF,iP];refine⟨aQ (by simp),aQ (by simp;lia),aQ (by simp),by simp,by lia,by lia,by simp,?_⟩
 rw[J,MI];have R:(Mh (cQ rs os).length [D.int T7]).flatten=(Mh (cQ rs os).length T7).map D.int:=by rw[List.flatten_replicate_singleton,List.map_replicate]
 rw[R];refine⟨aQ (by simp;lia),aQ (by simp),?_⟩
 have O:nums.map D.int++[D.int 0]=(nums++[(0:Int)]).map D.int:=by simp
 rw[O,<- Nx];simp only[af,Mu];rw[<- A];unfold kx;generalize s:ig ad EE=K6;simp only[aA,ao,ak,ac,dC,li,Mb,dt];cases e:(bo ⟨m,P,most⟩ TY (dZ b rs os) nums).1 with
 |false=>
  have w:lL (dw TY<|bo ⟨m,P,most⟩ TY (dZ b rs os) nums)=true:=by unfold dw;rw[e];rfl
  rw[w,Nc,if_neg (by simp)]
  exact h _ _ _ _ _ _ _ _
 |true=>
  have w:lL (dw TY<|bo ⟨m,P,most⟩ TY (dZ b rs os) nums)=false:=by unfold dw;rw[e];rfl
  rw[w,PH,if_pos rfl,<- s];exact II g l kk h2 F G C Y hb m0 Z e λc14 c15 c16=>h _ _ _ _ _ _ _ _
end
theorem yu(ad:Ad)(ns:Ug)(hl:ns.length<=63):Be ad [.ml (ns.map D.int)] (λ_=>ed) (λd _=>d=.bl true) jX:=by
 rw[Ld];generalize hG:({ nx:=λ_ M'=>drp (λd _=>d=D.bl true) .non M',rt:=drp λd _=>d=D.bl true }:DEnds)=G;have hr:∀M',G.rt (.bl true) M':=λM'=>by rw[<- hG];exact⟨M',λ_ _ e=>e,rfl⟩
 unfold wJ;refine cg ?_;simp only[ap,aj];refine kH (Bf rfl) Bv _ ⟨rfl,au λQ' E' l _=>Bc λk M1 h1 _=>l _ _ ?_⟩;simp only[af,Mu];unfold lg;refine cg ?_;simp only[ap,g6,aj];refine kH (Bf rfl) (kH Js<|kH Js Bv) _ ⟨rfl,au λQ' E' l _=>uy h1 λm TZ TY rs os mk M2 p g t k2 hp=>l _ _ (La hp ?_)⟩;simp only[bQ,aG,bR,af,Mu,Mc,Mv];refine⟨trivial,?_⟩;have n1:=g.t.n1;have hh:=g.h;have hc:=g.c;have m2:=g.t.m2;have m1:=g.t.m1;have ov:=IK (rs:=rs) (os:=os) (by lia) (by lia)
 have a1:atI [D.int m,.tup (TY.map D.str),.int TZ,.tup (ah rs),.str mk] 1=cb (.tup<|TY.map D.str):=by rw[atI_1];rfl
 have a0:atI [D.int m,.tup (TY.map D.str),.int TZ,.tup (ah rs),.str mk] 0=cb (.int m):=by rw[atI_0];rfl
 unfold mW;refine cg ?_;generalize J:gS ad (az jX)=K15;simp only[aA,jw,df,ao,bO,ak,bn,am,aj,aa,ac,dC,ae,Mb,dt];rw[show aw (aW m TZ TY rs mk) (.int 1)=λM Q=>Q (.tup<|TY.map D.str) M by funext M Q;simp only[aw,aW,aC,a1]]
 simp only[bF,aC,Md,uf,pY]
 by_cases cl:(11:Int)<(TY.length:Nat)
 .rw[decide_eq_true cl,if_pos rfl,if_pos trivial]
  exact hr _
 rw[decide_eq_false cl,if_neg (by simp)]
 refine⟨rfl,aL (d:=vw m TZ TY rs os mk) (λ_ _ q=>nj n1 g.ok t.k (by lia) (by lia) q) ?_⟩
 have fz:∀{K:DK}{M':Mem},K (vw m TZ TY rs os mk) M'->frz (vw m TZ TY rs os mk) M' K:=λq=>q;refine fz ⟨rfl,aL (λ_ _ q=>Io g t.ok t.k q) ?_⟩;simp only[frz,vN];cases f:nU TZ TY rs os with
 |false=>
  rw[PH,if_pos rfl];exact hr _
 |true=>
 rw[Nc,if_neg (by simp)]
 show K15 G _ M2;rw[<- J];unfold gS;refine cg ?_;generalize I:g_ ad (az jX)=K14;simp only[aA,df,bO,am,aj,aa,ac,ae,Mb,dt];refine⟨rfl,au λQ' E' l _=>iU g.ok t.ok (by lia) (by lia) (λ_ p3 Z=>l _ _ (gG Z ?_)) λz=>(by rw[t.k]at z;cases z)⟩
 refine⟨rfl,aL (λQ' E' q=>de 23 _ _ Q' E' ⟨ov.1,λx H=>HQ (ov.2 x H)⟩ q) ?_⟩;simp only[frz,vN,Nc,Mr,if_false];show K14 G _ M2;rw[<- I];unfold g_;refine cg ?_;generalize R:gF ad (az jX)=K13;simp only[ap,am,aj,aa,ac,ae,Mb,dt];refine⟨rfl,au λQ' E' l _=>vm g t.ok t.k f (l _ _<|fz ?_)⟩;simp only[af,Mu];rw[<- R];unfold gF;refine cg ?_;generalize X:h9 ad (az jX)=K12;simp only[ap,am,aj,aa,ac,ae,Mb,dt];refine⟨rfl,au λQ' E' l _=>tQ k2.1 g.t λnums P M3 ln lP rn rp k3=>l _ _ ?_⟩;have fs:∀{K:DK}{M':Mem},K (bc nums P) M'->frz (bc nums P) M' K:=λq=>q;refine fs ?_;simp only[af,Mu];rw[<- X];unfold h9;refine cg ?_;generalize S:gY ad (az jX)=K11;simp only[ap,am,aj,aa,ac,dC,ae,Mb,dt];refine⟨rfl,aN k3.1 (by decide) (by decide) λmo M4 o0 o1 d4=>?_⟩
 obtain⟨most,rfl⟩:=Pc o0;simp only[frz,af,Mu];rw[<- S];unfold gY;refine cg ?_;generalize O:hW ad (az jX)=K10;simp only[ap,ak,am,aj,aa,ac,dC,ae,Mb,dt];rw[show aw (aW m TZ TY rs mk) (.int 0)=λM Q=>Q (.int m) M by funext M Q;simp only[aw,aW,aC,a0]]
 simp only[gb,pY];refine⟨rfl,aN d4.1 (by lia) (by lia) λnu M5 u0 u1 d5=>?_⟩
 simp only[frz,aF,af,Mu];rw[<- O];unfold hW;refine cg ?_;generalize hK9:iy ad (az jX)=K9;simp only[bU,cj,am,br,aa,av,ac,dC,ae,Mb,dt];refine⟨aQ (by simp),aQ (by simp),aQ (by simp),aQ (by simp),λq l=>gG l ?_⟩
 simp only[aC,bu];subst lP;have th:=t.h;refine bt (λxs U N=>(∀x∈xs,∃(b:Bool)(T7:Int),x=D.tup [aW m (P.length:Nat) TY (dZ b rs os) mk,.int T7]/\(b=true↔T7≠0)/\0<=T7/\T7<m)/\∃(Y u s A F B w C:Option D),U=[cb (.ml<|ns.map D.int),cb (.ref k.p),cb (aW m (P.length:Nat) TY rs mk),cb (aW m (P.length:Nat) TY os mk),cb (.lst<|qH rs os),cb (vw m (P.length:Nat) TY rs os mk),cb (bc nums P),cb (.int (most:Nat)),cb (.int (1+nu)),Y,u,s,A,F,B,w,C]) (λ_ _ _ _=>aI) ?_ ?_ _ _ _ ⟨λx H=>?_,_,_,_,_,_,_,_,_,rfl⟩
 .rintro U N ⟨_,Y,u,s,A,F,B,w,C,rfl⟩
  simp only[ax,dC];exact hr _
 .rintro x xs U N ⟨H,Y,u,s,A,F,B,w,C,rfl⟩ D' hD _ _ _
  obtain⟨b,T7,rfl,hb,b0,b1⟩:=H x (by simp)
  simp only[bQ,aG,bR,af,Mu,Mc,Mv];refine⟨trivial,?_⟩;rw[<- hK9];exact CO g t.ok t.k (by lia) ln.symm rn rp (by lia) hb b0 b1 λY u s A F B w C=>hD _ _ ⟨λy hy=>H y (Mz _ hy),_,_,_,_,_,_,_,_,rfl⟩
 .simp only[Mm,MV,or_false]at H
  rcases H with rfl|rfl|rfl
  .exact⟨eH,0,rfl,by simp,by lia,by lia⟩
  .exact⟨true,1,rfl,by simp,by lia,by lia⟩
  .exact⟨true,1+nu,rfl,by simp;lia,by lia,by lia⟩
end _T
namespace _T
open PySem _2 _3
noncomputable def A_(K:Mp):Sp:=λb H Q _=>∃(a:eC)(ns:Ug),b=[.ref a]/\B4 H/\SqL K H a (ns.map V.int)/\ns.length<=63/\∀H',Q (.bl true) H'
theorem FZ{l:W.OpenLaw}{w:g5}{K:Mp}{h:g4}{mg:Uq}{fa C_Walk C_Weave C_Dry C_NoBuild C_TooBig f1 f2 f3 f4 f5 f6 f7 f8 f9 f10 f11 f12 f13 f14 f15 f16 f17 f18 f19 f20 f21 f22 f23 f24 f25 f26 f27 f28 f29 f30 f31 f32 f33 f34 f35 f36 f37 f38 f39 f40 f41 f42 f43 f44 f45 f46 f47 f48 f49 f50 f51:eC}(X:K.In h)(G:h.Ns fx mg)(hfa:mg "law"=cb (.ref fa))
  {r R7 b B z tk_MOST_ROWS C A tk_PARTS_0 tk_PARTS_1 tk_PARTS_2 tk_PARTS_3 tk_PARTS_4 tk_PARTS_5 tk_PARTS_6 tk_PARTS_7 tk_PARTS_8 tu_PARTS_0_0 tu_PARTS_0_1 M Z tu_PARTS_2_0 tu_PARTS_2_1 tu_PARTS_3_0 tu_PARTS_3_1 P R tu_PARTS_4_1 tu_PARTS_4_2 O tu_PARTS_5_1 tu_PARTS_5_2 tu_PARTS_6_0 tu_PARTS_6_1 tu_PARTS_6_2 U tu_PARTS_7_1 Y L N:Tok} {Sb ep_PARTS_0 ep_PARTS_1 ep_PARTS_2 ep_PARTS_3 ep_PARTS_4 ep_PARTS_5 ep_PARTS_6 ep_PARTS_7 ep_PARTS_8:Nat} {RK i g q f p o j m n:eC}
  {e1 e2 e3 e4 e5 e6 e7 e8 e9 e10 e11 e12 e13 e14 e15 e16 e17 e18 e19 e20 e21 e22 e23 e24 e25 e26 e27 e28 e29 e30 e31 e32 e33 e34 e35 e36 e37 e38 e39 e40 e41 e42 e43 e44 e45 e46 e47 e48 e49 e50 e51:ka}
  (aC_Walk:NB K fx "Walk"=cb (cb<|.ref C_Walk))
  (aC_Weave:NB K fx "Weave"=cb (cb<|.ref C_Weave))
  (aC_Dry:NB K fx "Dry"=cb (cb<|.ref C_Dry))
  (aC_NoBuild:NB K fx "NoBuild"=cb (cb<|.ref C_NoBuild))
  (aC_TooBig:NB K fx "TooBig"=cb (cb<|.ref C_TooBig))
  (l1:Mf K C_Walk "__init__" "Walk.__init__" JZ f1 e1)
  (l2:Mf K C_Walk "note_step" "Walk.note_step" L6 f2 e2)
  (l3:Mf K C_Walk "look" "Walk.look" F0 f3 e3)
  (l4:Nf K "run" Fe f4 e4)
  (l5:Nf K "mark" FQ f5 e5)
  (l6:Nf K "do_rows" Ff f6 e6)
  (l7:Nf K "do_row" FK f7 e7)
  (l8:Nf K "do_if" Fj f8 e8)
  (l9:Nf K "do_again" FH f9 e9)
  (l10:Nf K "number_of" EL f10 e10)
  (l11:Nf K "piece_read" EJ f11 e11)
  (l12:Nf K "joined" EM f12 e12)
  (l13:Nf K "is_plan" Fq f13 e13)
  (l14:Nf K "is_whole" FL f14 e14)
  (l15:Nf K "is_name" Fs f15 e15)
  (l16:Nf K "are_names" E_ f16 e16)
  (l17:Nf K "is_name_of" F1 f17 e17)
  (l18:Nf K "are_rows" FM f18 e18)
  (l19:Nf K "is_row" ER f19 e19)
  (l20:Nf K "is_part" EQ f20 e20)
  (l21:Nf K "rows_within" Fm f21 e21)
  (l22:Mf K C_Weave "__init__" "Weave.__init__" KP f22 e22)
  (l23:Nf K "new_name" Fd f23 e23)
  (l24:Nf K "unlike_rows" FD f24 e24)
  (l25:Nf K "paired" F8 f25 e25)
  (l26:Nf K "refuse_unlike_sorts" Lm f26 e26)
  (l27:Nf K "paired_within" Lu f27 e27)
  (l28:Nf K "branches" EW f28 e28)
  (l29:Nf K "woven" FS f29 e29)
  (l30:Nf K "woven_rows" F5 f30 e30)
  (l31:Nf K "woven_row" Fp f31 e31)
  (l32:Nf K "_law_stirred" FU f32 e32)
  (l33:Nf K "_law_pot" F9 f33 e33)
  (l34:Nf K "_law_draw" FE f34 e34)
  (l35:Nf K "_law_names" FG f35 e35)
  (l36:Nf K "_law_row" F7 f36 e36)
  (l37:Nf K "_law_block" FT f37 e37)
  (l38:Nf K "_law_rows" Fa f38 e38)
  (l39:Nf K "_law_plan" EY f39 e39)
  (l40:Nf K "_law_stand" FF f40 e40)
  (l41:Nf K "_law_no_picks" Lo f41 e41)
  (l42:Nf K "_law_twin_rows" Jw f42 e42)
  (l43:Nf K "_law_twins" Fk f43 e43)
  (l44:Nf K "_law_first_name" Ly f44 e44)
  (l45:Nf K "_law_weave" Fo f45 e45)
  (l46:Nf K "_law_woven" EU f46 e46)
  (l47:Nf K "_law_counted" Ko f47 e47)
  (l48:Nf K "_law_fits" Fn f48 e48)
  (l49:Nf K "_law_alike" FI f49 e49)
  (l50:Nf K "_law_as_written" Lz f50 e50)
  (l51:Nf K "law" ja f51 e51)
  (Sw:Rx K C_Dry [.type "ValueError",.type "Exception",.type "BaseException",.type "object"] "ValueError.__new__"=true)
  (Sa:Rx K C_NoBuild [.type "ValueError",.type "Exception",.type "BaseException",.type "object"] "ValueError.__new__"=true)
  (Se:Rx K C_TooBig [.type "ValueError",.type "Exception",.type "BaseException",.type "object"] "ValueError.__new__"=true)
  (So:Px K C_Walk Str.empty=true)
  (Sq:PM K C_Walk=true)
  (Sr:QB K C_Walk=true)
  (Ss:NC K (.ref C_Walk) "__setattr__"=cb (cb<|.builtin "object.__setattr__"))
  (Su:Qt K C_Walk=true)
  (Sv:N6 K (.ref C_Walk)=true)
  (Sf:Px K C_Weave Str.empty=true)
  (Sg:PM K C_Weave=true)
  (Sh:QB K C_Weave=true)
  (Si:NC K (.ref C_Weave) "__setattr__"=cb (cb<|.builtin "object.__setattr__"))
  (Sj:Qt K C_Weave=true)
  (Sk:N6 K (.ref C_Weave)=true)
  (R5:NC K (.ref C_Walk) "most"=cb ed)
  (RW:NC K (.ref C_Walk) "numbers"=cb ed)
  (RY:NC K (.ref C_Walk) "pieces"=cb ed)
  (R6:NC K (.ref C_Walk) "plan"=cb ed)
  (RZ:NC K (.ref C_Walk) "steps"=cb ed)
  (R0:NC K (.ref C_Weave) "name"=cb ed)
  (RX:NC K (.ref C_Weave) "pieces"=cb ed)
  (y:NB K fx "LEAST_WHEEL"=cb (cb<|.int 2 r))
  (R8:NB K fx "LETTERS"=cb (cb<|.str "abcdefghijklmnopqrstuvwxyz" R7))
  (c:NB K fx "MOST_LETTERS"=cb (cb<|.int 8 b))
  (I:NB K fx "MOST_NAMES"=cb (cb<|.int 12 B))
  (x:NB K fx "MOST_PIECES"=cb (cb<|.int 40 z))
  (S:NB K fx "MOST_ROWS"=cb (cb<|.int 60 tk_MOST_ROWS))
  (J:NB K fx "MOST_WHEEL"=cb (cb<|.int 997 C))
  (u:NB K fx "MOST_WITHIN"=cb (cb<|.int 4 A))
  (Sl:NB K fx "PARTS"=cb (cb<|.ref RK))
  (Sm:K.lookup RK=cb { cls:=.type "dict",dict:=ed,data:=.dict #[⟨NJ w.params "put",.str "put" tk_PARTS_0,.ref i⟩,⟨NJ w.params "take",.str "take" tk_PARTS_1,.ref g⟩,⟨NJ w.params "pick",.str "pick" tk_PARTS_2,.ref q⟩,⟨NJ w.params "sum",.str "sum" tk_PARTS_3,.ref f⟩,⟨NJ w.params "by",.str "by" tk_PARTS_4,.ref p⟩,⟨NJ w.params "less",.str "less" tk_PARTS_5,.ref o⟩,⟨NJ w.params "same",.str "same" tk_PARTS_6,.ref j⟩,⟨NJ w.params "if",.str "if" tk_PARTS_7,.ref m⟩,⟨NJ w.params "again",.str "again" tk_PARTS_8,.ref n⟩] Sb,slots:=#[] })
  (gw_PARTS_0:K.lookup i=cb { cls:=.type "tuple",dict:=ed,data:=.seq #[.str "name" tu_PARTS_0_0,.str "number" tu_PARTS_0_1] ep_PARTS_0,slots:=#[] })
  (gw_PARTS_1:K.lookup g=cb { cls:=.type "tuple",dict:=ed,data:=.seq #[.str "name" M,.str "piece" Z] ep_PARTS_1,slots:=#[] })
  (gw_PARTS_2:K.lookup q=cb { cls:=.type "tuple",dict:=ed,data:=.seq #[.str "name" tu_PARTS_2_0,.str "name" tu_PARTS_2_1] ep_PARTS_2,slots:=#[] })
  (gw_PARTS_3:K.lookup f=cb { cls:=.type "tuple",dict:=ed,data:=.seq #[.str "name" tu_PARTS_3_0,.str "name" tu_PARTS_3_1,.str "name" P] ep_PARTS_3,slots:=#[] })
  (gw_PARTS_4:K.lookup p=cb { cls:=.type "tuple",dict:=ed,data:=.seq #[.str "name" R,.str "name" tu_PARTS_4_1,.str "name" tu_PARTS_4_2] ep_PARTS_4,slots:=#[] })
  (gw_PARTS_5:K.lookup o=cb { cls:=.type "tuple",dict:=ed,data:=.seq #[.str "name" O,.str "name" tu_PARTS_5_1,.str "name" tu_PARTS_5_2] ep_PARTS_5,slots:=#[] })
  (gw_PARTS_6:K.lookup j=cb { cls:=.type "tuple",dict:=ed,data:=.seq #[.str "name" tu_PARTS_6_0,.str "name" tu_PARTS_6_1,.str "name" tu_PARTS_6_2] ep_PARTS_6,slots:=#[] })
  (gw_PARTS_7:K.lookup m=cb { cls:=.type "tuple",dict:=ed,data:=.seq #[.str "name" U,.str "rows" tu_PARTS_7_1,.str "rows" Y] ep_PARTS_7,slots:=#[] })
  (gw_PARTS_8:K.lookup n=cb { cls:=.type "tuple",dict:=ed,data:=.seq #[.str "name" L,.str "rows" N] ep_PARTS_8,slots:=#[] })
  (Sn:(RK==o4)=eH)
  (z_all:NB K fx "all"=cb ed)
  (z_bool:NB K fx "bool"=cb ed)
  (z_dict:NB K fx "dict"=cb ed)
  (z_enumerate:NB K fx "enumerate"=cb ed)
  (z_int:NB K fx "int"=cb ed)
  (z_isinstance:NB K fx "isinstance"=cb ed)
  (z_len:NB K fx "len"=cb ed)
  (z_list:NB K fx "list"=cb ed)
  (z_min:NB K fx "min"=cb ed)
  (z_range:NB K fx "range"=cb ed)
  (z_set:NB K fx "set"=cb ed)
  (z_sorted:NB K fx "sorted"=cb ed)
  (z_str:NB K fx "str"=cb ed)
  (z_tuple:NB K fx "tuple"=cb ed)
  (z_zip:NB K fx "zip"=cb ed):
  ∃fd:ka,(∀(s:ee)(v:cx),Tg s fd ⟨[v],[]⟩ [("script",v)])/\∀base:g4,K.In base->base.Ns fx mg->FnOk l.prog w K mg base CX0 50 fa fd ["script"] (A_ K):=by
 have e:=hfa.symm.trans (Oj X G l51.a);cases e;obtain⟨_,_,kV,dc,pm,an,cd,ct,_,rfl,_⟩:=l51.F.ex;refine⟨PN "law" "law" (dH ja) (cH ja) (bv ja) .none kV dc pm an cd ct,λs v=>.of_eq rfl,λbase _ _=>?_⟩
 let ad:Ad:=⟨C_Walk,C_Weave,C_Dry,C_NoBuild,C_TooBig,f1,f2,f3,f4,f5,f6,f7,f8,f9,f10,f11,f12,f13,f14,f15,f16,f17,f18,f19,f20,f21,f22,f23,f24,f25,f26,f27,f28,f29,f30,f31,f32,f33,f34,f35,f36,f37,f38,f39,f40,f41,f42,f43,f44,f45,f46,f47,f48,f49,f50,fa,e1,e2,e3,e4,e5,e6,e7,e8,e9,e10,e11,e12,e13,e14,e15,e16,e17,e18,e19,e20,e21,e22,e23,e24,e25,e26,e27,e28,e29,e30,e31,e32,e33,e34,e35,e36,e37,e38,e39,e40,e41,e42,e43,e44,e45,e46,e47,e48,e49,e50,PN "law" "law" (dH ja) (cH ja) (bv ja) .none kV dc pm an cd ct,RK⟩
 have T:En l.prog w K mg base ad:=⟨⟨So,Sq,Sr,Ss⟩,
  Oj X G aC_Walk,
  ⟨Sf,Sg,Sh,Si⟩,
  Oj X G aC_Weave,
  R5,
  RW,
  RY,
  R6,
  RZ,
  R0,
  RX,
  gn X Sw,
  Oj X G aC_Dry,
  gn X Sa,
  Oj X G aC_NoBuild,
  gn X Se,
  Oj X G aC_TooBig,
  ⟨_,Oj X G y⟩,
  ⟨_,Oj X G R8⟩,
  ⟨_,Oj X G c⟩,
  ⟨_,Oj X G I⟩,
  ⟨_,Oj X G x⟩,
  ⟨_,Oj X G S⟩,
  ⟨_,Oj X G J⟩,
  ⟨_,Oj X G u⟩,
  ⟨Oj X G Sl,Sn,by decide +kernel,_,_,Sm,(TabR.cons rfl ⟨_,rfl⟩ (cY (ss:=["name","number"]) gw_PARTS_0 (.cons ⟨_,rfl⟩<|.cons ⟨_,rfl⟩ .nil) (show 2<=sizeLine by decide))<|TabR.cons rfl ⟨_,rfl⟩ (cY (ss:=["name","piece"]) gw_PARTS_1 (.cons ⟨_,rfl⟩<|.cons ⟨_,rfl⟩ .nil) (show 2<=sizeLine by decide))<|TabR.cons rfl ⟨_,rfl⟩ (cY (ss:=["name","name"]) gw_PARTS_2 (.cons ⟨_,rfl⟩<|.cons ⟨_,rfl⟩ .nil) (show 2<=sizeLine by decide))<|TabR.cons rfl ⟨_,rfl⟩ (cY (ss:=["name","name","name"]) gw_PARTS_3 (.cons ⟨_,rfl⟩<|.cons ⟨_,rfl⟩<|.cons ⟨_,rfl⟩ .nil) (show 3<=sizeLine by decide))<|TabR.cons rfl ⟨_,rfl⟩ (cY (ss:=["name","name","name"]) gw_PARTS_4 (.cons ⟨_,rfl⟩<|.cons ⟨_,rfl⟩<|.cons ⟨_,rfl⟩ .nil) (show 3<=sizeLine by decide))<|TabR.cons rfl ⟨_,rfl⟩ (cY (ss:=["name","name","name"]) gw_PARTS_5 (.cons ⟨_,rfl⟩<|.cons ⟨_,rfl⟩<|.cons ⟨_,rfl⟩ .nil) (show 3<=sizeLine by decide))<|TabR.cons rfl ⟨_,rfl⟩ (cY (ss:=["name","name","name"]) gw_PARTS_6 (.cons ⟨_,rfl⟩<|.cons ⟨_,rfl⟩<|.cons ⟨_,rfl⟩ .nil) (show 3<=sizeLine by decide))<|TabR.cons rfl ⟨_,rfl⟩ (cY (ss:=["name","rows","rows"]) gw_PARTS_7 (.cons ⟨_,rfl⟩<|.cons ⟨_,rfl⟩<|.cons ⟨_,rfl⟩ .nil) (show 3<=sizeLine by decide))<|TabR.cons rfl ⟨_,rfl⟩ (cY (ss:=["name","rows"]) gw_PARTS_8 (.cons ⟨_,rfl⟩<|.cons ⟨_,rfl⟩ .nil) (show 2<=sizeLine by decide)) TabR.nil)⟩,
  Nm X G z_all,
  Nm X G z_bool,
  Nm X G z_dict,
  Nm X G z_enumerate,
  Nm X G z_int,
  Nm X G z_isinstance,
  Nm X G z_len,
  Nm X G z_list,
  Nm X G z_min,
  Nm X G z_range,
  Nm X G z_set,
  Nm X G z_sorted,
  Nm X G z_str,
  Nm X G z_tuple,
  Nm X G z_zip,
  gi Su Sv l1,
  gm l2,
  gm l3,
  gf X G l4,
  gf X G l5,
  gf X G l6,
  gf X G l7,
  gf X G l8,
  gf X G l9,
  gf X G l10,
  gf X G l11,
  gf X G l12,
  gf X G l13,
  gf X G l14,
  gf X G l15,
  gf X G l16,
  gf X G l17,
  gf X G l18,
  gf X G l19,
  gf X G l20,
  gf X G l21,
  gi Sj Sk l22,
  gf X G l23,
  gf X G l24,
  gf X G l25,
  gf X G l26,
  gf X G l27,
  gf X G l28,
  gf X G l29,
  gf X G l30,
  gf X G l31,
  gf X G l32,
  gf X G l33,
  gf X G l34,
  gf X G l35,
  gf X G l36,
  gf X G l37,
  gf X G l38,
  gf X G l39,
  gf X G l40,
  gf X G l41,
  gf X G l42,
  gf X G l43,
  gf X G l44,
  gf X G l45,
  gf X G l46,
  gf X G l47,
  gf X G l48,
  gf X G l49,
  gf X G l50,
  gf X G l51⟩
 exact(GT<|GY T).imp λvs H Q E ⟨a,ns,e,hO,hS,hl,k⟩=>by subst e;exact Cu hO hS (yu ad ns hl) k
theorem walk{l:W.OpenLaw}{q:gg}{loose:Uh}{XP:(Str->Option cx)->g4->Prop}{YP:g5->g4->Prop}{d:DefRec}{K:Params->Mp}(r:l.most=cb 63)(e:d.params.defaults=[])
  (p:∀(w:g5)(h:g4),YP w h->(K w.params).In h)
  (F:∀(w:g5)(c:Uq)(g:eC)(h:g4),(K w.params).In h->h.Ns fx c->c d.name=cb (.ref g)->
   ∃fd:ka,(∀(s:ee)(u:cx),Tg s fd ⟨[u],[]⟩ [("script",u)])/\∀b:g4,(K w.params).In b->b.Ns fx c->FnOk l.prog w (K w.params) c b CX0 50 g fd ["script"] (A_<|K w.params)):
  W.WalkO q loose XP YP l.row.toRowW d [] (λf vs=>Ru f vs):=
 _2.DL (n:=63) (k:=50) (x:="script") (CX:=λ_=>CX0) (sp:=λw=>A_ (K w.params)) r (by decide) e ⟨rfl,by decide,by decide,rfl⟩ p F (λ_ _ a o j m i=>⟨a,o,rfl,m,i,j,λ_=>rfl⟩) λ_ _ _ _ _ z=>z
end _T
open PySem PySem.W PyProof.Rows
structure PySem.W.Fast:Prop where
 (tw2743554645629674204 tw12153533131806466996 tw8182534521865984916 tw17368114967695654908 tw6051652763805525071 tw13237184558117715628 tw4154889303444491655 tw3164727813828321226 tw4620162061500150019 tw14320326882541425828 tw3658785295826060254 tw3916529993154326908 tw8532511149801872381 tw6430706968322889771 tw13882925686732281760 tw12025887262806488609 tw12672395856561080074 tw4761770855832934546 tw16719879312055398898 tw5694870657299086700 tw13514229453517527746 tw18277693234076302408 tw16875044026880810389 tw12153167414533628516 tw17233754183893583963 tw4700546085740178845 tw1706665014350945811 tw6409771707806371050 tw10207086892818537476 tw17551138199182688293 tw15894454946800180046 tw7846508322510024325 tw981101889301133658 tw8053355127301725734 tw5455774966209444530 tw7754822839022071017 tw14853461816302724007 tw3499632187296769313 tw13568162966855932623 tw17329833847165924719 tw4166117980121176205 tw8150733699117775426 tw13984658266163632404 tw14013485015219735895 tw5934331761974326759 tw4193297502099196126 tw2432126136137955259 tw11429842163675706467 tw16190492529758790419 tw11889136574098025379 tw13822933526303898703 tw1935539375900439459 tw3144185032019695177 tw14379884059673559519 tw4882329712119242599 tw14391745310988552987 tw116025600147911726 tw7936400802123912068 tw2876009819044577328 tw9857309690387301910 tw13201110692238274417 tw12965406795515257066 tw11492063724407208257 tw6876517000091482930 tw17791304415329519086 tw6374593501902914762 tw3494729668417873423 tw10448874723052866096 tw4859628370146672004 tw8671768910943080928 tw8881920193683189569 tw14267323144875983365 tw1752125105472885033 tw15172683494656124823 tw9081553975901538892 tw12028582644533623644 tw5188107449713564200 tw13213057167332802928 tw9871026421487062122 tw1863889749277066146 tw4927624480238065652 tw601469889268782153 tw7885907171817360628 tw3259843726366479818 tw13433547937109481976 tw12676822230816050464 tw14972852058473605102 tw15899031100321787907 tw11176360271214699287 tw6208241158811267911 tw197830569291357045 tw13486701937322298300 tw2772912960877689701 tw15919689411307378698 tw17971385996594736320 tw3784542718248014968 tw11619512926248679862 tw2415626633488922858 tw14367137214684793895 tw5706650743467242814 tw3918937386160260164 tw2748450595227610763 tw15904256630973586290 tw14822713237744560364 tw10411302269516278425 tw2074886844387075028 tw4021182155235900670 tw17406622298791323371 tw9185705838548333375 tw9950256609130372102 tw16737746708355853373 tw6537467014255684612 tw15257478743030939167 tw8928071301559419138 tw17895906733164536846 tw6966098438552322760 tw4733754787973009819 tw9730767133132520779 tw11044028042345162728 tw5055088645232444454 tw6509996755938558731 tw8018546689800907483 tw3037976591814405096 tw6880838202967478355 tw732091316740008824 tw7573442277199019133 tw9612686110946547543 tw14445735987577962398 tw7819878114201255297 tw2215182005561920779 tw13298034033679565918 tw2191578747762411789 tw8568978662995750826 tw6507939477884766333 tw18359584929989879359 tw6124867570905253408 tw15193065597737157566 tw10520860962402840061 tw9418717047214037448 tw13410679842687231181 tw18270965979642242307 tw9900648461659059921 tw1965645514608325208 tw373653589612240864 tw2744710396653701334 tw1815615303982619055 tw7802124593748448993 tw5353363510532097873 tw10862660542766943242 tw15853676588465221112 tw10157995765888216579 tw2226597466240132025 tw3883389854284714916 tw447698943098543356 tw10691758286015021955 tw3413483397068145380 tw17914393008694012362 tw17013507828839903815 tw6835407956545916389 tw14938675038548834271 tw7450466690104086834 tw7118593706521166234 tw12907344918327195992 tw2407301960600564068 tw2266861233849283050 tw2254766829497243593 tw12775788680099971995 tw51022606331995647 tw17324682286038354398 tw3562787640129920132 tw14506373264144726750 tw5805216445269127740 tw4815460281532929890 tw5433860215278836462 tw7714945353946873023 tw12628288919452351545 tw13241113896623267384 tw9862126580948666078 tw17881746350909131628 tw4697169990681925238 tw12658765819893538064 tw14872762584860928509 tw5653226013409162564 tw12804342328173910705 tw18054572744705605171 tw3008151673008634511 tw13903897821087398669 tw5539882475193356886 tw10583835472166149960 tw1045593429504680653 tw12955371484177425010 tw2868464915535700740 tw9489579661364699490 tw6125340094505451152 tw7380183737011488510 tw9804250672681028456 tw1092544902907783599 tw15133867221339634858 tw13901744470724198258 tw11322439056345298065 tw15276194526678480906 tw16180710001966156998 tw8585835555643814038 tw430074498136676389 tw8973826657522544350 tw1605289838658610285 tw12149617510219699163 tw6869936555174801860 tw12182302375475026642 tw2077904633708792140 tw10100213866643901271 tw3449132561515304393 tw15699209269504123312 tw15958821505564836529 tw4787732115234946443 tw13868613671891236423 tw2707314398950664341 tw2934070875307658380 tw8409038913725813548 tw8943190046426594992 tw14331065911335972412 tw11393579207067405125 tw732356702713723778 tw8420630615703337282 tw16693833941220068363 tw15403337893276235810 tw4073780760413975983 tw6457699622583139992 tw11557232873447410354 tw17063631320181094579 tw1741752983767186550 tw16765554547528293605 tw13238420030944204894 tw14320357317087345648 tw14836034847329616102 tw17940353353706938393 tw12666957845852759945 tw15591036896833425711 tw8146424408560798995 tw14772810527232632709 tw691877293826725250 tw11491092380167123189 tw1875825435000078763 tw16861069892003581714 tw12935306251226282836 tw14978984537494164202 tw7439158522508927830 tw6960249874251399466 tw10682764785515882968 tw870251721638982397 tw14867195779880956543 tw10246557043527353594 tw7332380796997047711 tw2942782105561178178 tw14450552689990440845 tw7118211463598666234 tw1439861252554667756 tw11153024407521038196 tw9551540129712527773 tw15476927311612842794 tw4202144479748055639 tw13560462959284824588 tw11491549944996366406 tw15125646132973545055 tw7199160757847774561 tw7039841567368371736 tw5203057490196223734 tw13445281797009926813 tw13574735873727422093 tw4475661096691643158 tw15671706996178930826 tw14826768863150456437 tw16759015490878873404:True)
set_option maxRecDepth 100000 in
set_option maxHeartbeats 0 in
theorem PySem.Challenge.cw_twinstride_k82_whole_woven_does_either_holds : PySem.Challenge.rw_twinstride_k82_whole_woven_does_either.Holds := by
 w_on;o_law;k_head;(case hw=>w_witness2)
 k_fill
 refine _T.walk (l:=PySem.Challenge.rw_twinstride_k82_whole_woven_does_either) rfl rfl (λw h Y=>W.kIn_of Y) ?F
 case F=>
  intro w b c h KX G a;refine' _T.FZ KX G a ..
  any_goals k_is
  any_goals (first|refine' _3.Nf.mk ?_ (_2.AI ?_ ?_ ?_)|refine' _3.Mf.mk ?_ ?_ (_2.AI ?_ ?_ ?_))
  any_goals k_is
  any_goals k_exc
  any_goals first|rfl|decide
