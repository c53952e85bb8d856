import PyProof.Rows.All
import Wide.All
import OpenK.AllK
import Wide.FinOn
import Lean
import PyProof.EqAt
import PyProof.EqKinds
import PyProof.TupleCall
import PySem.Challenge.RW_twinstride_k82_whole_woven_does_either
set_option Elab.async false
set_option linter.all false
set_option maxRecDepth 100000
set_option maxHeartbeats 4000000
set_option compiler.extract_closed false
set_option Elab.async false
set_option linter.all false
set_option maxRecDepth 100000
open Array renaming length_toList->MY,replicate->ND,toList->Oj,getElem?_toList->OX,getElem?_eq_some_iff->PZ,append_assoc->QS
open Bool renaming and_eq_true->Mx,false_eq_true->MC,beq_eq_decide_eq->MG,not_true->Np,false_ne_true->Ot,and_false->Ou,not_false->O3,and_true->Pe,not_eq_true'->Pp,false_and->P9,false_or->Ql
open Classical renaming byContradiction->Pz,not_not->Qu
open False renaming elim->NJ
open ForInStep renaming yield->OD
open Int renaming toNat_natCast->MZ,emod_lt_of_pos->Ob,eq_ofNat_of_zero_le->OM,emod_nonneg->OZ
open List renaming getElem?_cons_zero->dt,getElem?_cons_succ->Ma,length_map->Mc,length_cons->Md,length_append->Mg,replicate->Mh,getElem?_eq_getElem->Mj,mem_append->Ml,mem_cons->Mm,length_nil->Mp,append_nil->Mq,size_toArray->Mr,map_cons->Ms,set->Mu,getElem?_map->Mv,mem_cons_of_mem->MA,append_assoc->MB,mem_map_of_mem->ME,mem_append_right->MF,length->MI,getElem?_eq_some_iff->ML,mem_singleton->MM,singleton_append->MN,getElem?_append_right->MP,lookup->MU,length_filter_le->Na,mem_map->Nd,foldl_cons->Ng,mem_cons_self->Nh,nodup_cons->Nr,map_append->Nt,length_singleton->Nz,findIdx?_eq_some_iff_getElem->NA,pairwise_iff_getElem->NB,drop_eq_getElem_cons->NC,replicate_succ'->NG,nodup_append->NH,mem_of_getElem?->NI,replicate_succ->NL,not_mem_nil->NM,pairwise_cons->NP,map_map->NQ,range->NV,mem_append_left->NW,toArray->NX,getElem?_append_left->N3,findIdx?_eq_none_iff->N4,filterMap_cons->N5,findIdx?_cons->N9,take_of_length_le->Oc,mem_range->Oq,any_cons->OC,length_take->OF,getElem_mem->OG,getElem_map->OH,getElem?_replicate->OI,filter_cons->OJ,drop_eq_nil_of_le->OO,of_mem_zip->OR,nil_append->OS,mem_filter->OT,find?_cons->OU,filter_nil->OV,getElem?_eq_none->OY,map_congr_left->O5,getElem_of_mem->O6,take_succ_eq_append_getElem->Pn,ext_getElem?->Po,lookup_cons->Px,all_eq_true->Py,eq_nil_of_length_eq_zero->PF,take_succ->P6,nodup_nil->P7,getD_eq_getElem?_getD->P8,getElem?_eq_none_iff->Qb,getElem?_take_of_lt->Qk,getElem?_set_self->Qs,mem_iff_getElem?->QA,length_replicate->QB,getElem?_toArray->QC,dropLast_eq_take->QD,countP_mono_left->QE,cons_lt_cons_iff->QF,map->QJ,getElem?_zipIdx->QK,getElem?_set_ne->QL,zip_cons_cons->QX,mem_filterMap->QY
open List.Pairwise renaming nil->OW
open List.Perm renaming refl->Pu,mem_iff->Qt,append->QG,cons->QR
open List.cons renaming injEq->MH
open Nat renaming le_refl->Mo,ne_of_lt->Mt,le_trans->My,lt_of_lt_of_le->Mz,lt_irrefl->MK,lt_or_ge->MW,zero_le->Nj,zero_add->Nv,le_add_right->Ny,ne_of_gt->NR,le_of_lt->NS,le_of_not_lt->Og,lt_succ_of_lt->OB,not_lt->OQ,lt_trans->Pr,lt_succ_self->PD,le_succ->PK,not_lt_zero->PY,min_self->Qy,le_of_eq->Qz
open Ne renaming symm->MJ
open Option renaming map_eq_some_iff->MR,map_some->Oh,isSome_map->Pg
open Option.some renaming inj->MQ
open Prod renaming ext->QI
open Prod.mk renaming injEq->PX
open PyProof.Rows renaming callWith_type1->MS,slot_tuple_getitem->MT,callWith_builtin1->O2,tail_any->PC,StrsAre->PJ,envOfC->PV
open PyProof.Rows.F renaming entry_set_update_loop->OA
open PySem renaming mem_of_lookup->Nu,Within->Qm,call->QM,list_append->QT
open PySem.Around renaming under_plainId->Qr
open PySem.Builtin.Dict renaming updateFrom->Pq
open PySem.Builtin.List renaming listExtendWith->Pc,listTooLong->Pj
open PySem.Builtin.Slice renaming slicePlaces->Of,sliceAdjust->Pf
open PySem.Builtin.SmallTypes renaming nextOf->MV,ownedTupleIsFree->NO,ownedTupleHandOut->Oo
open PySem.Builtin.Tuple renaming tupleTooMany->Pa,tupleItemsOf->Pb
open PySem.Calls renaming callWith_builtin->OL,evalArgs_plain->O1,spliced_cons->O9,spliced_nil->Ph,Name_function_global->PU,call_function_entry->P5
open PySem.Expr renaming Call->Qp
open PySem.F renaming plainAttrs_list->NK,slot_tuple_iterator_next->N0,slot_tuple_mul->Oa,slot_list_getattribute->Od,slot_list_pop->Om,args_tuple_mul_2->Ov,args_tuple_add_2->Ow,entry_tuple_mul->Oy,entry_tuple_add->Oz,slot_tuple_add->OE,slot_zip_getattribute->OP,slot_list_append->O4,slot_tuple_index->PR,slot_list_index->P4,args_tuple_iterator_next_1->Qa,type_list_pop->Qg,slot_int_rmul->Qh,slot_dict_len->Qi,entry_tuple_iterator_next->Qj,slot_list_extend->Qx,slot_enumerate_next->QW
open PySem.Heap renaming get?_push_of_some->Mb,lt_size->Me,get?_push_size->Mn,size_push->Nb,SameBut->Nc,get?_update_self->NT,get?_update_other->ON,ExtBut->QH
open PySem.Heap.SameBut renaming update->Ni
open PySem.Obj renaming mapSeq->Nm
open PySem.Paired renaming length->NF
open PySem.PyData renaming keyHash->Nw
open PySem.SeqAt renaming EqAt->OK,RcNeAt->Qn,RcAt->QP
open PySem.SeqAt.EqAt renaming str_int->Qe,int_str->Qf
open PySem.SeqAt.RcAt renaming lists_lengths->Pw,tuples->Qo,lists->Qq
open PySem.SetTable renaming grown->N8,below->Oi,insertAt->Ol,laid->PH,has->P2,layClean->Qw,Probe->QU
open PySem.SetTable.below renaming go->PQ
open PySem.SetTable.probe renaming go->PN
open PySem.Str renaming ofString->Mw
open PySem.Value renaming ref->MD,none->Nl,type->Nx,isStrOf->Oe,str->Qc,int->Qd,bool->QO
open PySem.W renaming Frag->Mi,mg_none_of->MX,nsIn->Nk,findIn->Nq,keepIn->NN,mg_of->NU,emptyDict->NZ,kia_one->N6,instObj->Ox,plainGet->O0,hasDictIn->O7,fnOf->O8,callWith_K->PB,makesIn->PL,hideAll->PM,plainOver->P1,plainGet_of->Qv,excIn->QN
open Sum renaming inr->NY,inl->P0
open True renaming intro->N7
open Bool renaming false->eP
open Option renaming some->cb,none->ed
open PyProof.Rows renaming IntsAre->Pv,AllBare->PP,listUpdate_at->Sv,subscriptTail_builtinR->SC,seqObj->SE,seqEpoch_at->SM
open PySem renaming Value->cp,wpAny_bind->cx,Shared->eC,Addr->eH,starEach->eT,wpAny->ft,wpAny_pure->fx,model->fy,mainGlobals->f',bootBuiltins->g3,Program->g4,compareOp->g5,Expr->hB,eval->h9,Heap->ka,World->kB,Around->kL,FuncData->k6,wpAny_holding->lb,backTo->lq,binaryOp->lu,wpAny_mono->l',attributeBase->mu,cLine->mv,wpAny_truthy_bool->n7,foldedSetIterable->ol,wpAny_loadPart'->oD,wpAny_Call_Name_kw->o4,call_meets->pb,wpAny_field->pd,sysModules->pt,swapsWith->pv,Stmt->py,sizeLine_eq->qa,codeAny_mono->qz,assignEach->q0,wpAny_passesOwn->re,SetTable->sx,valueAt->tL,wpAny_seqItems->t0,codeAny->vr,wpAny_execs_nil->wh,codeAny_builtin->w4,wpAny_setField_rec->x5,tupleKind->x9,wpAny_newTuple->y',Keyword->B',wpAny_call_entry->F',rawInt->G',storedH->J',holding->K',Scope->L',wpAny_typeOf->M_,scanBound->No,DictEntry->NE,typeLookup->N_,tupleKind_room_in1->On,getattributeRaised->Op,backToKw->Os,wpAny_pyIter_list->O_,sliceBounds->Pi,relabel->Ps,plainId_quiet->P3,PlainAttrs->P_,Paired->P',letOwnedTupleGo->Q_,relayAll->Re,Operator->RQ,IsPart->RS,lastMarks->RT,getItem->RU,behindInMarks->RV,wpAny_rule->RW,wpAny_pyIter_tuple->RX,typeOf->RY,pyNext->RZ,closureFor->R0,wpAny_newObj_type->R5,standAt->R6,getAttr?->R7,callerA->R8,wpAny_pyIter_zip->R_,wpAny_isInstance->Sa,wpAny_execs_cons->Sb,pyIter->Sc,noFill_tuple_add->Se,getMethod->Sf,checkBuiltinCall->Sg,assign->Sh,Result->Si,wpAny_of_eq->Sj,IsZip->Sk,BindsTo->Sl,wpAny_call->Sm,typeIs_str->Sn,atKey->So,NameKind->Sq,CmpOp->Sr,wpAny_comprehension_free->Ss,seq_tuple_add->Su,checkTypeCall->Sw,PassesOwn->Sy,Meets->Sz,wpAny_pyNext_list_item->SA,wpAny_Call_method_late->SB,seqIndex_neg->SF,isTrue->SH,concat_meets->SI,wpAny_pyNext_list_end->SJ,wpAny_loadName_local->SK,seqIndex_of->SL,codeAny_call_builtin->SN,bindL->SO,bindC->SQ
open PySem.W renaming kas_rev->SG
noncomputable abbrev S8:=List (List Int)
noncomputable abbrev S9:=List Int
noncomputable abbrev S_:=List PySem.Str
noncomputable abbrev Ta:=List cp
noncomputable abbrev Tb:=List eH
noncomputable abbrev Tc:=List hB
noncomputable abbrev Td:=List py
noncomputable abbrev Te:=cp->eC->Prop
noncomputable abbrev Tf:=List (eH×PySem.Obj)
noncomputable abbrev Tg:=PySem.Str->Option cp
noncomputable abbrev Th:=Array cp
set_option hygiene false in
local macro_rules|`(tactic|ac_rfl)=>`(tactic|(intro _ _ _ _ _ _;first|exact us1 λ_=>rfl|exact us2 λ_ _=>rfl|exact us3 λ_ _ _=>rfl|exact us4 λ_ _ _ _=>rfl|exact us5 λ_ _ _ _ _=>rfl|exact us6 λ_ _ _ _ _ _=>rfl|exact us7 λ_ _ _ _ _ _ _=>rfl|exact us8 λ_ _ _ _ _ _ _ _=>rfl))
set_option hygiene false in
local macro_rules|`(tactic|and_intros)=>`(tactic|(first|exact .inl rfl|exact .inr rfl|assumption))
local macro_rules|`(tactic|lia)=>`(tactic|first|(with_reducible first|assumption|exact Nat.le_add_right _ _|exact Nat.le_trans (by assumption) (by decide +kernel)|exact Nat.lt_of_le_of_lt (by assumption) (by decide +kernel)|exact Int.le_of_lt (by assumption))|decide +kernel|lia -abstractProof)
noncomputable section
namespace _2
open PySem PySem.Spec PyProof.Rows
variable{C a b dx f:eH}{A:kL}{op:Sr}{X:Cx}{c e tg:hB}{fd:k6}{o:HO}{base h h':ka}{H H':Hp}{SW:Tf}{kw:List (Str×cp)}{ch fp:Tb}{es:Tc}{body:Td}{N ps:S_}{us:Ta}{K:Mi}{M:Model}{i t':Nat}{p pos pos':Pos}{P:g4}{r:R2}{pl:Sem Bool}{s:eC}{sp:Sp}{Z:St}{m x:Str}{mA mg:Tg}{ta tb te:TE}{u:cp}{E Q:Te}{w:kB}{CX:pT}
noncomputable abbrev bh:=Sum Int Str
noncomputable def nZ:bh->cp->Bool
 |.inl k,v=>Value.isInt k v
 |.inr x,v=>Oe x v
noncomputable def keyH(w:kB):bh->Int
 |.inl k=>hashInt k
 |.inr x=>hashStr w x
theorem bw:∀{k:bh}{v:cp},nZ k v=true->(∃i t,k=P0 i/\v=Qd i t)\/(∃x t,k=NY x/\v=Qc x t)
 |.inl i,v,h=>by
  obtain⟨t,e⟩:=Value.isInt_shape h;exact .inl ⟨i,t,rfl,e⟩
 |.inr x,v,h=>by
  obtain⟨t,e⟩:=Value.isStrOf_shape h;exact .inr ⟨x,t,rfl,e⟩
theorem y3(i:Int)(t:Tok):nZ (.inl i) (.int i t)=true:=by simp[nZ,Value.isInt]
theorem yo(x:Str)(t:Tok):nZ (.inr x) (.str x t)=true:=by simp[nZ,Oe]
theorem Io(a b:Int):decide ((P0 a:bh)=P0 b)=(a==b):=by
 by_cases e:a=b
 .subst e;simp
 simp_all
theorem J3(a b:Str):decide ((NY a:bh)=NY b)=decide (a=b):=by
 simp_all
theorem Jh(a:Int)(b:Str):decide ((P0 a:bh)=NY b)=false:=decide_eq_false (λq=>nomatch q)
theorem IF(a:Str)(b:Int):decide ((NY a:bh)=P0 b)=false:=decide_eq_false (λq=>nomatch q)
noncomputable def aP(prog:g4)(w:kB):PySem.KeyKind prog w bh where
 is:=nZ
 hash:=keyH w
 inj:=λv a b n l=>by
  rcases bw n with⟨i,t,rfl,rfl⟩|⟨x,t,rfl,rfl⟩
  .rcases bw l with⟨j,u,rfl,e⟩|⟨y,u,rfl,e⟩
   .injection e with e1 _;rw[e1]
   .exact nomatch e
  .rcases bw l with⟨j,u,rfl,e⟩|⟨y,u,rfl,e⟩
   .exact nomatch e
   .injection e with e1 _;rw[e1]
 byValue:=λk v h=>by
  rcases bw h with⟨i,t,rfl,rfl⟩|⟨x,t,rfl,rfl⟩<;>rfl
 pyHash:=λg h=>by
  rcases bw g with⟨i,t,rfl,rfl⟩|⟨x,t,rfl,rfl⟩
  .exact wpAny_pyHash_int h
  .exact wpAny_pyHash_str h
 eqBool:=λq g h=>by
  rcases bw q with⟨i,t,rfl,rfl⟩|⟨x,t,rfl,rfl⟩
  .rcases bw g with⟨j,u,rfl,rfl⟩|⟨y,u,rfl,rfl⟩
   .rw[Io]at h;exact wpAny_eqBool_int h
   .rw[Jh]at h;exact Qf i t y u _ _ _ _ h
  .rcases bw g with⟨j,u,rfl,rfl⟩|⟨y,u,rfl,rfl⟩
   .rw[IF]at h;exact Qe x t j u _ _ _ _ h
   .rw[J3]at h;exact wpAny_eqBool_str h
 «strs»:=λk x t v h=>by
  rcases bw h with⟨i,u,rfl,e⟩|⟨y,u,rfl,e⟩
  .exact nomatch e
  .injection e with e1 _
   subst e1;cases v<;>rfl
theorem rX(prog:g4)(w:kB)(i:Int)(t:Tok):(aP prog w).is (.inl i) (.int i t)=true:=y3 i t
theorem qN(prog:g4)(w:kB)(x:Str)(t:Tok):(aP prog w).is (.inr x) (.str x t)=true:=yo x t
inductive V where
 |non|bl (b:Bool)|int (i:Int)|str (x:Str)|byt (b:Array UInt8)|flt (b:UInt64)|ref (a:eH)|ty (n:String)
 deriving DecidableEq
def RelV:V->cp->Prop
 |.non,u=>u=Nl
 |.bl b,u=>u=QO b
 |.int i,u=>∃t,u=Qd i t
 |.str x,u=>∃t,u=Qc x t
 |.byt b,u=>∃t,u=Value.bytes b t
 |.flt b,u=>∃t,u=Value.float b t
 |.ref a,u=>u=MD a
 |.ty n,u=>u=Nx n
abbrev Vals:List V->List cp->Prop:=P' RelV
theorem Vals.length{xs:List V}(r:Vals xs us):xs.length=us.length:=NF r
theorem Vals.get:∀{xs:List V}{us:Ta}{i:Nat}{x:V},Vals xs us->xs[i]?=cb x->∃u,us[i]?=cb u/\RelV x u:=by
 intro xs us i x h e
 induction h generalizing i with
 |nil=>simp at e
 |cons r _ ih=>
  cases i with
  |zero=>simp at e;subst e;exact⟨_,rfl,r⟩
  |succ i=>
   obtain⟨u,j,g⟩:=ih (i:=i) (by simpa using e)
   exact⟨u,by simpa using j,g⟩
theorem Vals.set{x:V}{u:cp}(r:RelV x u):∀{xs:List V}{us:Ta}(i:Nat),Vals xs us->Vals (xs.set i x) (us.set i u)
 |_,_,_,.nil=>.nil
 |_,_,0,.cons _ t=>.cons r t
 |_,_,i+1,.cons q t=>.cons q (Vals.set r i t)
theorem Vals.append:∀{xs ys:List V}{us g:Ta},Vals xs us->Vals ys g->Vals (xs++ys) (us++g):=by
 intro xs ys us g h s
 induction h with
 |nil=>exact s
 |cons r _ ih=>exact .cons r ih
theorem Vals.take:∀{xs:List V}{us:Ta}(n:Nat),Vals xs us->Vals (xs.take n) (us.take n)
 |_,_,0,_=>.nil
 |_,_,_+1,.nil=>.nil
 |_,_,n+1,.cons r t=>.cons r (Vals.take n t)
theorem Vals.drop:∀{xs:List V}{us:Ta}(n:Nat),Vals xs us->Vals (xs.drop n) (us.drop n)
 |_,_,0,r=>r
 |_,_,_+1,.nil=>.nil
 |_,_,n+1,.cons _ t=>Vals.drop n t
def RelO:Option V->Option cp->Prop
 |some v,cb u=>RelV v u
 |none,ed=>True
 |_,_=>False
def KV{κ:Type}:List (κ×V)->List (κ×cp)->Prop:=P' λ(p:κ×V)(q:κ×cp)=>p.1=q.1/\RelV p.2 q.2
def kV:bh->V
 |.inl i=>.int i
 |.inr x=>.str x
inductive HO where
  |lst (xs:List V)
  |tup (xs:List V)
  |dK (SY:List (bh×V))|dT (SY:List (List bh×V))
  |set (S:Int->Bool) (n:Nat)
  |ins (C dx:eH) (fs:List (Str×V))
  |own (x:eH)
  |xd (fs:List (Str×V))
  |met (f x:eH)
  |rng (lo hi:Int)
  |frz (o:Obj) (u:HO)
  |tbl (ps:Th)
  |ext (φ:ka->Prop)
noncomputable abbrev Hp:=eH->Option HO
noncomputable def upd(H:Hp)(a:eH)(o:HO):Hp:=λb=>if b=a then cb o else H b
theorem upd_same:upd H a o a=cb o:=by unfold upd;simp_all
theorem aC(h:b≠a):upd H a o b=H b:=by unfold upd;rw[if_neg h]
theorem JO{u:HO}(h:H a=cb o)(h':H b=cb u)(d:o≠u):a≠b:=by
 intro e;subst e;rw[h]at h';exact d (MQ h')
theorem bc(h:H a=cb o)(h':H b=ed):a≠b:=by
 intro e;simp_all
section
variable(P:g4)(w:kB)
def ObjOk(H:Hp)(h:ka)(a:eH):HO->Prop
 |.lst xs=>xs.length<=sizeLine/\∃(S3:Ta)(n:Nat),Vals xs S3/\h.get? a=cb { cls:=.type "list",data:=.seq S3.toArray n }
 |.tup xs=>xs.length<=sizeLine/\∃S3:List cp,Vals xs S3/\∃o,h.get? a=cb o/\(o.cls=.type "tuple"/\∃n,o.data=.seq S3.toArray n)/\o.dict=ed
 |.dK SY=>SY.length<=sizeLine/\(a==pt)=eP/\∃vs,KV SY vs/\h.DictOf (aP P w) a vs
 |.dT SY=>SY.length<=sizeLine/\(a==pt)=eP/\∃xs:List (List bh×eH×cp),
   P' (λ(p:List bh×V)(q:List bh×eH×cp)=>p.1=q.1/\H q.2.1=cb (.tup<|p.1.map kV)/\RelV p.2 q.2.2) SY xs/\
   ∃o es ep,h.get? a=cb o/\o.ExactDict/\o.data=.dict es ep/\es.toList=xs.map (entryOfKey<|tupleKind<|aP P w)/\(xs.map (·.1)).Nodup
 |.set S n=>h.SetOf (intKind P w) a S n
 |.ins C dx fs=>H dx=cb (.own a)/\fs.length<=1000/\dx≠a/\h.get? a=cb (Ox C dx)/\
   ∃mA,h.Ns1 dx mA/\(∀f,RelO (fs.lookup f) (mA f))/\Qm mA (fs.map (·.1))
 |.own _=>∃o,h.get? a=cb o
 |.xd fs=>∃mA,h.Ns1 a mA/\∀f,RelO (fs.lookup f) (mA f)
 |.rng lo hi=>∃t u v,h.get? a=cb { cls:=.type "range",data:=.fields #[.int lo t,.int hi u,.int 1 v] }
 |.frz o u=>h.get? a=cb o/\ObjOk H h a u
 |.tbl ps=>h.get? a=cb { cls:=.none,data:=.fields ps }
 |.met f x=>h.get? a=cb (W.methodObj (.ref f)<|.ref x)
 |.ext φ=>φ h/\(∃o,h.get? a=cb o)/\∀h1 h2:ka,φ h1->(∀o,h1.get? a=cb o->h2.get? a=cb o)->φ h2
def HOk(H:Hp)(h:ka):Prop:=∀a o,H a=cb o->ObjOk P w H h a o
end
section
theorem ObjOk.lt(x:ObjOk P w H h a o):a<h.objs.size:=by
 cases o with
 |lst xs=>obtain⟨_,_,_,_,e⟩:=x;exact Me e
 |tup xs=>obtain⟨_,_,_,_,e,_⟩:=x;exact Me e
 |dK SY=>obtain⟨_,_,_,_,o,_,_,e,_⟩:=x;exact Me e
 |dT SY=>obtain⟨_,_,_,_,o,_,_,e,_⟩:=x;exact Me e
 |set S n=>obtain⟨o,_,_,_,e,_⟩:=x;exact Me e
 |ins C dx fs=>obtain⟨_,_,_,e,_⟩:=x;exact Me e
 |own y=>obtain⟨_,e⟩:=x;exact Me e
 |xd fs=>obtain⟨_,⟨_,_,_,e,_⟩,_⟩:=x;exact Me e
 |rng lo hi=>obtain⟨_,_,_,e⟩:=x;exact Me e
 |frz ob u=>obtain⟨e,_⟩:=x;exact Me e
 |tbl ps=>exact Me x
 |met f y=>exact Me x
 |ext φ=>obtain⟨_,⟨_,e⟩,_⟩:=x;exact Me e
theorem fC{l n:Type}{F G:l->n->Prop}:∀{g:List l}{j:List n},P' F g j->(∀a b,F a b->G a b)->P' G g j:=by
 intro g j h f
 induction h with
 |nil=>exact .nil
 |cons r _ ih=>exact .cons (f _ _ r) ih
theorem ObjOk.stay(x:ObjOk P w H h a o)(k:∀b u,(b=a\/H b=cb (.own a))->h.get? b=cb u->h'.get? b=cb u)(J:∀b,H b=cb (.own a)->H' b=cb (.own a))(L:∀b xs,H b=cb (.tup xs)->H' b=cb (.tup xs)):ObjOk P w H' h' a o:=by
 induction o with
 |lst xs=>obtain⟨z,l,n,r,e⟩:=x;exact⟨z,l,n,r,k _ _ (.inl rfl) e⟩
 |tup xs=>obtain⟨z,l,r,g,e,c⟩:=x;exact⟨z,l,r,g,k _ _ (.inl rfl) e,c⟩
 |dK SY=>obtain⟨z,y,G,r,g,es,j,e,c⟩:=x;exact⟨z,y,G,r,g,es,j,k _ _ (.inl rfl) e,c⟩
 |dT SY=>
  obtain⟨z,y,xs,r,g,es,j,e,c⟩:=x;exact⟨z,y,xs,fC r λp q z=>⟨z.1,L _ _ z.2.1,z.2.2⟩,g,es,j,k _ _ (.inl rfl) e,c⟩
 |set S n=>obtain⟨g,es,j,t,e,c⟩:=x;exact⟨g,es,j,t,k _ _ (.inl rfl) e,c⟩
 |ins C dx fs=>
  obtain⟨d,z,ne,e,mA,⟨B,es,j,I,c⟩,r⟩:=x;exact⟨J _ d,z,ne,k _ _ (.inl rfl) e,mA,⟨B,es,j,k _ _ (.inr d) I,c⟩,r⟩
 |own y=>obtain⟨g,e⟩:=x;exact⟨g,k _ _ (.inl rfl) e⟩
 |xd fs=>obtain⟨mA,⟨B,es,j,e,c⟩,r⟩:=x;exact⟨mA,⟨B,es,j,k _ _ (.inl rfl) e,c⟩,r⟩
 |rng lo hi=>obtain⟨t,u,v,e⟩:=x;exact⟨t,u,v,k _ _ (.inl rfl) e⟩
 |frz g u ih=>obtain⟨e,q⟩:=x;exact⟨k _ _ (.inl rfl) e,ih q⟩
 |tbl ps=>
  have e:h.get? a=cb { cls:=.none,data:=.fields ps }:=x;show h'.get? a=cb { cls:=.none,data:=.fields ps };exact k a _ (.inl rfl) e
 |met f y=>
  have e:h.get? a=cb (W.methodObj (.ref f)<|.ref y):=x;show h'.get? a=cb (W.methodObj (.ref f)<|.ref y);exact k a _ (.inl rfl) e
 |ext φ=>obtain⟨p,⟨o,e⟩,F⟩:=x;exact⟨F _ _ p λo q=>k _ _ (.inl rfl) q,⟨o,k _ _ (.inl rfl) e⟩,F⟩
theorem HOk.lt(x:HOk P w H h)(e:H a=cb o):a<h.objs.size:=(x a o e).lt
theorem HOk.fresh(x:HOk P w H h)(e:h.objs.size<=a):H a=none:=by
 cases q:H a with
 |none=>rfl
 |some u=>exact absurd (Mz (x.lt q) e) (MK _)
theorem HOk.kept(x:HOk P w H h)(k:∀b u,h.get? b=cb u->h'.get? b=cb u):HOk P w H h':=λa o e=>
 (x a o e).stay (λb u _ q=>k b u q) (λ_ q=>q) λ_ _ q=>q
theorem HOk.laid(x:HOk P w H h)(k:∀b u,h.get? b=cb u->h'.get? b=cb u)(l:h.objs.size<=a)(new:ObjOk P w (upd H a o) h' a o):HOk P w (upd H a o) h':=λb u e=>by
 have g:=x.fresh l
 by_cases j:b=a
 .subst j;rw[upd_same]at e;cases e;exact new
 .rw[aC j]at e
  exact(x b u e).stay (λc v _ q=>k c v q) (λc q=>by rw[aC (bc q g)];exact q) λc n q=>by rw[aC (bc q g)];exact q
end
def Rd(H:Hp)(a:eH)(u:HO):Prop:=H a=cb u\/∃o,H a=cb (.frz o u)
theorem Rd.ok{u:HO}(r:Rd H a u)(x:HOk P w H h):ObjOk P w H h a u:=by
 rcases r with r|⟨o,r⟩
 .exact x a u r
 obtain⟨_,q⟩:=x a _ r;exact q
def L0:Option HO->Prop
 |some (.lst _)=>True
 |some (.dK _)=>True
 |some (.dT _)=>True
 |some (.set _ _)=>True
 |some (.ins _ _ _)=>True
 |some (.ext _)=>True
 |_=>False
section
variable{x e:eH}{o':HO}
theorem HOk.write(ok:HOk P w H h)(F:L0 (H x))(J:e=x\/H e=cb (.own x))(k:∀b u,b≠e->h.get? b=cb u->h'.get? b=cb u)(G:∃u,h'.get? e=cb u)(new:ObjOk P w (upd H x o') h' x o'):HOk P w (upd H x o') h':=λb u q=>by
 have j:∀c y,H c=cb (.own y)->c≠x:=λc y r z=>by subst z;rw[r]at F;exact F
 have l:∀c B,H c=cb (.tup B)->c≠x:=λc B r z=>by subst z;rw[r]at F;exact F
 by_cases n:b=x
 .subst n;rw[upd_same]at q;cases q;exact new
 .rw[aC n]at q
  by_cases g:b=e
  .have I:H b=cb (.own x):=by
    rcases J with z|z
    .exact absurd (g.trans z) n
    .rw[g];exact z
   rw[q]at I;cases I;obtain⟨v,L⟩:=G;exact⟨v,by rw[g];exact L⟩
  .refine (ok b u q).stay (λc v hc r=>k c v ?_ r) (λc r=>by rw[aC (j c b r)];exact r) λc B r=>by rw[aC (l c B r)];exact r
   rcases hc with rfl|hc
   .exact g
   .rintro rfl
    rcases J with z|z
    .exact j c b hc z
    .rw[hc]at z;cases z;exact n rfl
end
structure Un(fs ex:Tb)(H H':Hp)(h h':ka):Prop where
 keep:∀b o,h.get? b=cb o->H b=ed->b∉fs->b∉ex->h'.get? b=cb o
 slot:∀b o,h.get? b=cb o->H b=ed->b∈fs->b∉ex->∃sl,h'.get? b=cb { o with slots:=sl }
 free:∀b o,h.get? b=cb o->H b=ed->b∉ex->H' b=ed
 there:∀b o,h.get? b=cb o->b∉ex->∃o',h'.get? b=cb o'
 tups:∀b xs,H b=cb (.tup xs)->H' b=cb (.tup xs)
 frzs:∀b o u,H b=cb (.frz o u)->H' b=cb (.frz o u)
 tbls:∀b ps,H b=cb (.tbl ps)->∃S0,H' b=cb (.tbl (ps++S0))
section
variable{fs fs' ex ex':Tb}{H1 H2:Hp}{h1 h2:ka}{x e:eH}
theorem Un.any(u:Un fs ex H H1 h h1){g:Obj}(q:h.get? b=cb g)(n:H b=ed)(l:b∉ex):∃v,h1.get? b=cb { g with slots:=v }:=by
 by_cases j:b∈fs
 .exact u.slot b g q n j l
 exact⟨_,u.keep b g q n j l⟩
theorem Un.kept(k:∀b u,h.get? b=cb u->h'.get? b=cb u):Un fs ex H H h h':=
 ⟨λb g q _ _ _=>k b g q,λb g q _ _ _=>⟨_,k b g q⟩,λ_ _ _ n _=>n,λb g q _=>⟨g,k b g q⟩,λ_ _ q=>q,λ_ _ _ q=>q,λ_ ps q=>⟨#[],by rw[q];simp⟩⟩
theorem Un.refl:Un fs ex H H h h:=Un.kept λ_ _ q=>q
theorem Un.laid(k:∀b u,h.get? b=cb u->h'.get? b=cb u)(l:h.objs.size<=a)(g:H a=ed):Un fs ex H (upd H a o) h h' where
 keep:=λb u q _ _ _=>k b u q
 slot:=λb u q _ _ _=>⟨_,k b u q⟩
 free:=λb u q n _=>by rw[aC (Mt<|Mz (Me q) l)];exact n
 there:=λb u q _=>⟨u,k b u q⟩
 tups:=λb j q=>by rw[aC (bc q g)];exact q
 frzs:=λb u j q=>by rw[aC (bc q g)];exact q
 tbls:=λb ps q=>⟨#[],by rw[aC (bc q g),q];simp⟩
theorem Un.write(v:L0 (H x))(G:e=x\/H e=cb (.own x))(k:∀b u,b≠e->h.get? b=cb u->h'.get? b=cb u)(F:∃u,h'.get? e=cb u):Un fs ex H (upd H x o) h h':=by
 have B:∀b,H b=ed->b≠x:=λb n z=>by subst z;rw[n]at v;exact v
 have l:∀b,H b=ed->b≠e:=λb n z=>by
  simp_all
 have j:∀b u,H b=cb u->¬L0 (cb u)->b≠x:=λb u q nm z=>by simp_all
 refine⟨λb u q n _ _=>k b u (l b n) q,λb u q n _ _=>⟨_,k b u (l b n) q⟩,λb u q n _=>by rw[aC (B b n)];exact n,λb u q _=>?_,
  λb y q=>by rw[aC (j b _ q λz=>z)];exact q,λb u y q=>by rw[aC (j b _ q λz=>z)];exact q,λb ps q=>⟨#[],by rw[aC (j b _ q λz=>z),q];simp⟩⟩
 by_cases g:b=e
 .simp_all
 exact⟨u,k b u g q⟩
end
noncomputable def trk(h:ka)(H:Hp):List Addr:=(NV h.objs.size).filter λa=>(H a).isSome
noncomputable def oS(h:ka)(H:Hp):Heap:=PM h (trk h H)
theorem yC(h:ka)(H:Hp):(oS h H).objs.size=h.objs.size:=W.hideAll_size _ _
theorem zN{o:Obj}(e:h.get? b=cb o)(n:H b=ed):(oS h H).get? b=cb o:=
 W.hideAll_get _ e λg=>by
  have q:=(OT.mp g).2
  simp_all
theorem Bz{o:Obj}(e:(oS h H).get? b=cb o):h.get? b=cb o/\H b=none:=by
 have g:=W.of_hideAll _ e;refine⟨g,?_⟩;cases q:H b with
 |none=>rfl
 |some x=>
  have j:b∈trk h H:=OT.mpr ⟨Oq.mpr (Me g),by simp[q]⟩
  have z:(oS h H).get? b=none:=W.hideAll_none _ j
  simp_all
structure Mod(K:Mi)(mg:Tg)(base:ka):Prop where
 kin:K.In base
 glob:base.Ns f' mg
 blt:∃mb,base.Ns builtinsNs mb/\∀x:Str,x≠"__name__"->mb x=g3 x
 nolimit:base.NoLimit
structure Cx where
 prog:g4
 w:kB
 K:Mi
 mg:Str->Option cp
 base:ka
 A:kL
 N:List Str
 s₀:eC
 H₀:Hp
 env:Env
 outer:List Env
 stack:List Env
 ex:List eH
 fn:Str->Bool
 calm:Bool
 pn:List (eH×Obj)
 xe:cp->eC->Prop
noncomputable def gn(l:List Env):List Addr:=l.filterMap (·.frame)
noncomputable abbrev Cx.fs(X:Cx):List Addr:=gn X.outer
def Jo(sc:L')(x:Str):Prop:=sc.names.lookup x=cb .local\/sc.names.lookup x=cb .cell\/sc.names.lookup x=cb .free
def yG(sc:L')(x:Str):Prop:=sc.names.lookup x=cb .local\/sc.names.lookup x=cb .cell
def Look(env:Env)(h:ka)(m:Tg)(x:Str)(u:cp):Prop:=
 (env.kindOf x=cb .local/\m x=cb u)\/((env.kindOf x=cb .cell\/env.kindOf x=cb .free)/\∃c,env.cells.lookup x=cb c/\h.IsCell c (cb u))
structure Cx.Ok(X:Cx):Prop where
 mod:Mod X.K X.mg X.base
 kind:X.env.scope.kind=.function
 glob:X.env.globals=f'
 blt:X.env.builtins=builtinsNs
 above:X.s₀.heap.objs.size<=X.env.locals
 inj:∀x y c,X.env.cells.lookup x=cb c->X.env.cells.lookup y=cb c->x=y
 has:∀x,(X.env.kindOf x=cb .cell\/X.env.kindOf x=cb .free)->∃c,X.env.cells.lookup x=cb c
 cab:∀x c,X.fn x=true->X.env.cells.lookup x=cb c->X.s₀.heap.objs.size<=c
 hd:X.calm=true->X.A.handled=ed
 frames:X.A.frames=cb X.stack
 stk:X.stack=X.outer\/(X.stack=X.env::X.outer/\X.env.frame=cb X.env.locals)
 exf:∀b∈X.ex,b≠X.env.locals/\∀x c,X.env.cells.lookup x=cb c->c≠b
 bs:∀b o,X.base.get? b=cb o->X.s₀.heap.get? b=cb o/\X.H₀ b=ed
 bsz:X.base.objs.size<=X.s₀.heap.objs.size
 noex:∀b o,X.base.get? b=cb o->b∉X.ex
 exfs:∀b∈X.ex,b∉X.fs
 funs:X.s₀.heap.FunFrames X.base X.outer
 frf:∀b∈X.fs,X.H₀ b=ed
structure Inv(X:Cx)(SW:Tf)(Z:List (Option V))(H:Hp)(s:eC):Prop where
 ok:X.Ok
 os:s.os=X.s₀.os
 bare:PP s.gens
 base:Un X.fs X.ex X.H₀ H X.s₀.heap s.heap
 loc:∃m,s.heap.Ns X.env.locals m/\∀(i:Nat)(x:Str)(v:V),X.N[i]?=cb x->Z[i]?=cb (cb v)->Jo X.env.scope x->∃u,RelV v u/\Look X.env s.heap m x u
 cell:∀x c,X.env.cells.lookup x=cb c->∃v,s.heap.IsCell c v
 free:H X.env.locals=ed
 freeC:∀x c,X.env.cells.lookup x=cb c->H c=ed
 pin:∀p∈X.pn++SW,s.heap.get? p.1=cb p.2/\H p.1=ed/\p.1≠X.env.locals/\p.1∉X.fs/\∀v,p.2.data≠.cell v
 hok:HOk X.prog X.w H s.heap
 len:Z.length=X.N.length
section
variable{Z:List (Option V)}
theorem Cx.Ok.nofr(ok:X.Ok){o:Obj}(e:X.base.get? b=cb o):b∉X.fs:=λg=>by
 have:=(ok.funs.mem g).1
 simp_all
theorem Inv.bs(I:Inv X SW Z H s):∀b o,X.base.get? b=cb o->s.heap.get? b=cb o/\H b=none:=λb o e=>
 ⟨I.base.keep b o (I.ok.bs b o e).1 (I.ok.bs b o e).2 (I.ok.nofr e) (I.ok.noex b o e),I.base.free b o (I.ok.bs b o e).1 (I.ok.bs b o e).2<|I.ok.noex b o e⟩
theorem Inv.bk(I:Inv X SW Z H s):∀b o,X.base.get? b=cb o->s.heap.get? b=cb o:=λb o e=>(I.bs b o e).1
theorem Inv.mod(I:Inv X SW Z H s):Mod X.K X.mg X.base:=I.ok.mod
theorem Inv.kIn(I:Inv X SW Z H s):X.K.In s.heap:=I.ok.mod.kin.keeps I.bk
theorem Inv.lt(I:Inv X SW Z H s):X.env.locals<s.heap.objs.size:=let ⟨_,hn,_⟩:=I.loc;hn.lt
theorem Inv.sz(I:Inv X SW Z H s):X.s₀.heap.objs.size<=s.heap.objs.size:=My I.ok.above (NS I.lt)
theorem Inv.nofs(I:Inv X SW Z H s)(h:s.heap.objs.size<=a):a∉X.fs:=λj=>by
 obtain⟨_,o,g,_⟩:=I.ok.funs.mem j;exact absurd (Mz (Me g)<|My I.sz h) (MK _)
theorem Inv.cne(I:Inv X SW Z H s):∀x c,X.env.cells.lookup x=cb c->c≠X.env.locals:=λx c e z=>by
 obtain⟨v,o,l,n⟩:=I.cell x c e;obtain⟨m,⟨q,es,y,j,g,_⟩,_⟩:=I.loc
 simp_all
theorem Inv.funs(I:Inv X SW Z H s):s.heap.FunFrames X.base X.outer:=by
 have all:∀(l:List _),(∀b∈gn l,b∈X.fs)->X.s₀.heap.FunFrames X.base l->s.heap.FunFrames X.base l:=by
  intro l
  induction l with
  |nil=>intro _ _;trivial
  |cons env r ih=>
   rintro q ⟨y,⟨L,o,n,F,v,B⟩,G⟩
   have j:=q L (by unfold gn;rw[N5,n];exact Nh)
   obtain⟨J,e⟩:=I.base.slot L o v (I.ok.frf L j) j λz=>I.ok.exfs L z j;exact⟨y,⟨L,_,n,F,e,B⟩,ih (λb g=>q b (by unfold gn;rw[N5,n];exact MA _ g)) G⟩
 exact all _ (λ_ g=>g) I.ok.funs
theorem Inv.stack(I:Inv X SW Z H s):s.heap.FunFrames X.base X.stack:=by
 rcases I.ok.stk with e|⟨e,hf⟩
 .rw[e];exact I.funs
 .rw[e]
  obtain⟨m,g,_⟩:=I.loc;refine .cons (by rw[I.ok.kind];decide) hf g ?_ I.funs
  exact Heap.get?_none_of_le (My I.ok.bsz I.ok.above)
theorem Inv.stkSub(I:Inv X SW Z H s):∀b∈gn X.stack,b∈X.env.locals::X.fs:=λb g=>by
 rcases I.ok.stk with e|⟨e,hf⟩
 .rw[e]at g;exact MA _ g
 rw[e]at g;unfold gn at g;rw[N5,hf]at g;exact g
theorem Inv.stkFree(I:Inv X SW Z H s):∀b∈gn X.stack,H b=none:=λb hb=>by
 rcases Mm.mp (I.stkSub b hb) with e|hb
 .rw[e];exact I.free
 obtain⟨_,o,g,_⟩:=I.ok.funs.mem hb;exact I.base.free b o g (I.ok.frf b hb) λz=>I.ok.exfs b z hb
theorem Inv.step{g':Array GenState}{t':Nat}{d':Drawn}(I:Inv X SW Z H s)(B:∀b∈ch,(b∈X.ex\/X.s₀.heap.objs.size<=b)/\b≠X.env.locals/\(∀x c,X.env.cells.lookup x=cb c->c≠b)/\∀p∈X.pn++SW,p.1≠b)(keep:∀b o,b≠X.env.locals->b∉X.fs->b∉ch->s.heap.get? b=cb o->H b=ed->h'.get? b=cb o)(slot:∀b o,b≠X.env.locals->b∈X.fs->b∉ch->s.heap.get? b=cb o->H b=ed->∃Y,h'.get? b=cb { o with slots:=Y })(free:∀b o,b∉ch->s.heap.get? b=cb o->H b=ed->H' b=ed)(there:∀b o,b∉ch->s.heap.get? b=cb o->∃S,h'.get? b=cb S)(tups:∀b J,H b=cb (.tup J)->H' b=cb (.tup J))(frzs:∀b o u,H b=cb (.frz o u)->H' b=cb (.frz o u))(tbls:∀b ps,H b=cb (.tbl ps)->∃S0,H' b=cb (.tbl (ps++S0)))(ns:∀m,s.heap.Ns X.env.locals m->h'.Ns X.env.locals m)(hok:HOk X.prog X.w H' h')(hg:PP g'):
  Inv X SW Z H' { s with heap:=h',gens:=g',drawn:=d',toks:=t' }:=by
 have T:∀b o,X.s₀.heap.get? b=cb o->b≠X.env.locals:=λb o e=>Mt (Mz (Me e) I.ok.above);have G:∀b o,X.s₀.heap.get? b=cb o->b∉X.ex->b∉ch:=λb o e g L=>by
  rcases (B b L).1 with z|z
  .exact g z
  .exact absurd (Mz (Me e) z) (MK _)
 have j:∀x c,X.env.cells.lookup x=cb c->∀v,s.heap.IsCell c v->h'.IsCell c v:=λx c e v ⟨o,O,U⟩=>by
  have y:c∉ch:=λz=>(B c z).2.2.1 x c e rfl
  by_cases hc:c∈X.fs
  .obtain⟨Y,q⟩:=slot c o (I.cne x c e) hc y O (I.freeC x c e)
   exact⟨_,q,U⟩
  .exact⟨o,keep c o (I.cne x c e) hc y O (I.freeC x c e),U⟩
 refine⟨I.ok,I.os,hg,⟨λb o e n L g=>?_,λb o e n L g=>?_,λb o e n g=>?_,λb o e g=>?_,λb J e=>tups b J (I.base.tups b J e),λb o J e=>frzs b o J (I.base.frzs b o J e),λb ps e=>?_⟩,?_,λx c e=>?_,?_,λx c e=>?_,λp hp=>?_,hok,I.len⟩
 .exact keep b o (T b o e) L (G b o e g) (I.base.keep b o e n L g) (I.base.free b o e n g)
 .obtain⟨Y,F⟩:=I.base.slot b o e n L g
  obtain⟨W,R⟩:=slot b _ (T b o e) L (G b o e g) F (I.base.free b o e n g);exact⟨W,R⟩
 .obtain⟨S,F⟩:=I.base.there b o e g
  exact free b S (G b o e g) F (I.base.free b o e n g)
 .obtain⟨S,F⟩:=I.base.there b o e g
  exact there b S (G b o e g) F
 .obtain⟨m1,F⟩:=I.base.tbls b ps e
  obtain⟨m2,R⟩:=tbls b _ F;exact⟨m1++m2,by rw[R,QS]⟩
 .obtain⟨m,hn,hl⟩:=I.loc
  refine⟨m,ns m hn,λi x v F R e3=>?_⟩;obtain⟨u,r,l⟩:=hl i x v F R e3;refine⟨u,r,?_⟩;rcases l with l|⟨k,c,e,z⟩
  .exact .inl l
  .exact .inr ⟨k,c,e,j x c e _ z⟩
 .obtain⟨v,z⟩:=I.cell x c e
  exact⟨v,j x c e v z⟩
 .obtain⟨m,⟨o,_,_,O,_⟩,_⟩:=I.loc
  exact free _ o (λz=>(B _ z).2.1 rfl) O I.free
 .obtain⟨v,o,O,U⟩:=I.cell x c e
  exact free c o (λz=>(B c z).2.2.1 x c e rfl) O (I.freeC x c e)
 .obtain⟨e,n,ne,nf,d⟩:=I.pin p hp
  have y:p.1∉ch:=λz=>(B p.1 z).2.2.2 p hp rfl;exact⟨keep p.1 p.2 ne nf y e n,free p.1 p.2 y e n,ne,nf,d⟩
theorem Inv.un{t':Nat}(I:Inv X SW Z H s)(u:Un X.fs [] H H' s.heap h')(v:HOk X.prog X.w H' h'):Inv X SW Z H' { s with heap:=h',toks:=t' }:=by
 obtain⟨m,⟨o,es,J,y,r⟩,_⟩:=id I.loc;obtain⟨L,B⟩:=u.any y I.free (by simp)
 exact I.step (g':=s.gens) (d':=s.drawn) (ch:=[]) (λ_ z=>nomatch z) (λb o _ l _ e n=>u.keep b o e n l (by simp)) (λb o _ l _ e n=>u.slot b o e n l (by simp)) (λb o _ e n=>u.free b o e n (by simp)) (λb o _ e=>u.there b o e (by simp)) u.tups u.frzs u.tbls (λO G=>by
  obtain⟨R,q,j,g,F⟩:=G;rw[y]at g;cases g;exact⟨_,q,j,B,F⟩) v I.bare
theorem Inv.call{g':Array GenState}{t':Nat}{d':Drawn}(I:Inv X SW Z H s)(u:Un (gn X.stack) ch H H' s.heap h')(B:HOk X.prog X.w H' h')(O:PP g')(l:∀b∈ch,(b∈X.ex\/X.s₀.heap.objs.size<=b)/\b≠X.env.locals/\(∀x c,X.env.cells.lookup x=cb c->c≠b)/\∀p∈X.pn++SW,p.1≠b):
  Inv X SW Z H' { s with heap:=h',gens:=g',drawn:=d',toks:=t' }:=by
 obtain⟨m,⟨o,es,R,F,r⟩,_⟩:=id I.loc;obtain⟨S,q⟩:=u.any F I.free λz=>(l _ z).2.1 rfl;exact I.step (ch:=ch) l (λb o q J g e n=>u.keep b o e n (λz=>(Mm.mp<|I.stkSub b z).elim q J) g) (λb o _ _ g e n=>u.any e n g) (λb o g e n=>u.free b o e n g) (λb o g e=>u.there b o e g) u.tups u.frzs u.tbls (λT L=>by
  obtain⟨U,y,v,j,G⟩:=L;rw[F]at j;cases j;exact⟨_,y,v,q,G⟩) B O
theorem Inv.turned{t':Nat}{g:eH}(I:Inv X SW Z H s)(k:∀b o,b≠g->s.heap.get? b=cb o->h'.get? b=cb o)(O:H g=ed)(y:g≠X.env.locals)(R:g∈X.ex\/X.s₀.heap.objs.size<=g)(h2:∀x c,X.env.cells.lookup x=cb c->c≠g)(L:∀p∈X.pn++SW,p.1≠g):Inv X SW Z H { s with heap:=h',toks:=t' }:=by
 have l:∀b u,H b=cb u->b≠g:=λb u e z=>by rw[z,O]at e;cases e
 refine I.step (g':=s.gens) (d':=s.drawn) (ch:=[g]) (λb G=>?_) (λb o _ _ j e _=>k b o (λz=>j (by simp[z])) e) (λb o _ _ j e _=>⟨o.slots,k b o (λz=>j (by simp[z])) e⟩) (λ_ _ _ _ n=>n)
  (λb o j e=>⟨o,k b o (λz=>j (by simp[z])) e⟩) (λ_ _ e=>e) (λ_ _ _ e=>e) (λb ps e=>⟨#[],by rw[e];simp⟩) (λm J=>?_) (λb u e=>?_) I.bare
 .have e:b=g:=by simpa using G
  subst e;exact⟨R,y,h2,L⟩
 .obtain⟨o,es,F,B,r⟩:=J
  exact⟨o,es,F,k _ o (MJ y) B,r⟩
 .refine (I.hok b u e).stay (λc v j q=>k c v ?_ q) (λ_ q=>q) λ_ _ q=>q
  rcases j with z|z
  .rw[z];exact l b u e
  .exact l c _ z
theorem Inv.tok(I:Inv X SW Z H s)(t:Nat):Inv X SW Z H { s with toks:=t }:=I.un Un.refl I.hok
theorem Inv.kept{t':Nat}(I:Inv X SW Z H s)(k:∀b u,s.heap.get? b=cb u->h'.get? b=cb u):Inv X SW Z H { s with heap:=h',toks:=t' }:=I.un (Un.kept k) (I.hok.kept k)
theorem Inv.laid{t':Nat}(I:Inv X SW Z H s)(k:∀b u,s.heap.get? b=cb u->h'.get? b=cb u)(g:s.heap.objs.size<=a)(new:ObjOk X.prog X.w (upd H a o) h' a o):
  Inv X SW Z (upd H a o) { s with heap:=h',toks:=t' }:=I.un (Un.laid k g<|I.hok.fresh g) (I.hok.laid k g new)
theorem Inv.write{x e:eH}{t':Nat}(I:Inv X SW Z H s)(j:L0 (H x))(l:e=x\/H e=cb (.own x))(k:∀b u,b≠e->s.heap.get? b=cb u->h'.get? b=cb u)(g:∃u,h'.get? e=cb u)(new:ObjOk X.prog X.w (upd H x o) h' x o):Inv X SW Z (upd H x o) { s with heap:=h',toks:=t' }:=I.un (Un.write j l k g) (I.hok.write j l k g new)
theorem Inv.pins_of{g:Tf}(I:Inv X SW Z H s)(h:∀p∈g,s.heap.get? p.1=cb p.2/\H p.1=ed/\p.1≠X.env.locals/\p.1∉X.fs/\∀v,p.2.data≠.cell v):Inv X g Z H s:=
 ⟨I.ok,I.os,I.bare,I.base,I.loc,I.cell,I.free,I.freeC,λp j=>(Ml.mp j).elim (λz=>I.pin p (NW _ z)) (h p),I.hok,I.len⟩
theorem qP(n:N.Nodup){j:Nat}(a:N[i]?=cb x)(b:N[j]?=cb x):i=j:=by
 obtain⟨v,l⟩:=ML.mp a;obtain⟨q,g⟩:=ML.mp b;exact(List.getElem_inj n).mp (l.trans g.symm)
theorem nN{v:V}{Q:Unit->eC->Prop}(I:Inv X SW Z H s)(hN:X.N.Nodup)(hi:X.N[i]?=cb x)(F:yG X.env.scope x)(r:RelV v u)(h:∀s',Inv X SW (Z.set i<|some v) H s'->(∃a,Nc a s.heap s'.heap/\(a=X.env.locals\/X.env.cells.lookup x=cb a))->Q () s')(hf:X.fn x=true\/X.env.scope.names.lookup x=cb .local:=by and_intros):ft M A (storeName X.env x u) Q E s:=by
 obtain⟨m,hn,hl⟩:=id I.loc;have U:(X.env.scope.kind==.class||(X.env.scope.kind==.module&&X.env.locals != X.env.globals))=false:=by rw[I.ok.kind];rfl
 have L:i<Z.length:=by rw[I.len];exact(ML.mp hi).1
 have cne:=I.cne;have l:∀{a:eH}{h':ka},(∃o,s.heap.get? a=cb o/\H a=ed)->Nc a s.heap h'->HOk X.prog X.w H h':=λ{a h'} ha g b ob e=>by
  obtain⟨_,_,G⟩:=ha;refine (I.hok b ob e).stay (λc w' hc q=>(g.2 c ?_).trans q) (λ_ q=>q) λ_ _ q=>q
  rintro rfl
  rcases hc with rfl|hc
  .rw[G]at e;cases e
  .rw[G]at hc;cases hc
 rcases F with hk|hk
 .refine wpAny_storeName_local hk hn (λh' hn' g=>?_) U
  obtain⟨oL,_,_,hoL,_⟩:=id hn;refine h _ ⟨I.ok,I.os,I.bare,⟨λb o e n R F=>?_,λb o e n R F=>?_,I.base.free,λb o e F=>?_,I.base.tups,I.base.frzs,I.base.tbls⟩,⟨_,hn',λj y v' B J e3=>?_⟩,λy c e=>?_,I.free,I.freeC,λp hp=>?_,l ⟨oL,hoL,I.free⟩ g,by simpa using I.len⟩ ⟨_,g,.inl rfl⟩
  .exact(g.2 b<|Mt<|Mz (Me e) I.ok.above).trans (I.base.keep b o e n R F)
  .obtain⟨sl,B⟩:=I.base.slot b o e n R F
   exact⟨sl,(g.2 b<|Mt<|Mz (Me e) I.ok.above).trans B⟩
  .obtain⟨o',B⟩:=I.base.there b o e F
   exact⟨o',(g.2 b<|Mt<|Mz (Me e) I.ok.above).trans B⟩
  .by_cases O:j=i
   .subst O
    rw[hi]at B;cases B;rw[Qs L]at J;cases J;exact⟨u,r,.inl ⟨hk,by simp⟩⟩
   .rw[QL (MJ O)]at J
    obtain⟨u',r',q⟩:=hl j y v' B J e3;refine⟨u',r',?_⟩;rcases q with⟨k,e⟩|⟨k,c,e,z⟩
    .refine .inl ⟨k,?_⟩
     have:y≠x:=λe=>O (qP hN B (e▸hi));simp[this,e]
    .exact .inr ⟨k,c,e,z.sameBut g<|cne y c e⟩
  .obtain⟨w',z⟩:=I.cell y c e
   exact⟨w',z.sameBut g<|cne y c e⟩
  .obtain⟨e,n,ne,nf,d⟩:=I.pin p hp
   exact⟨(g.2 p.1 ne).trans e,n,ne,nf,d⟩
 .have S:X.fn x=true:=by
   rcases hf with z|z
   .exact z
   .rw[z]at hk;cases hk
  obtain⟨c,hc⟩:=I.ok.has x (.inl hk);obtain⟨w',z⟩:=I.cell x c hc;refine wpAny_storeName_cell I.ok.kind hk hc z (λh' T g=>?_);obtain⟨oc,Y,W⟩:=id z;refine h { s with heap:=h' } ⟨I.ok,I.os,I.bare,⟨λb o e n R F=>?_,λb o e n R F=>?_,I.base.free,λb o e F=>?_,I.base.tups,I.base.frzs,I.base.tbls⟩,⟨m,hn.sameBut g (MJ<|cne x c hc),λj y v' B J e3=>?_⟩,λy c' e=>?_,I.free,I.freeC,λp hp=>?_,l ⟨oc,Y,I.freeC x c hc⟩ g,by simpa using I.len⟩ ⟨c,g,.inr hc⟩
  .exact(g.2 b<|Mt<|Mz (Me e)<|I.ok.cab x c S hc).trans (I.base.keep b o e n R F)
  .obtain⟨sl,B⟩:=I.base.slot b o e n R F
   exact⟨sl,(g.2 b<|Mt<|Mz (Me e)<|I.ok.cab x c S hc).trans B⟩
  .obtain⟨o',B⟩:=I.base.there b o e F
   exact⟨o',(g.2 b<|Mt<|Mz (Me e)<|I.ok.cab x c S hc).trans B⟩
  .by_cases O:j=i
   .subst O
    rw[hi]at B;cases B;rw[Qs L]at J;cases J;exact⟨u,r,.inr ⟨.inl hk,c,hc,T⟩⟩
   .rw[QL (MJ O)]at J
    obtain⟨u',r',q⟩:=hl j y v' B J e3;refine⟨u',r',?_⟩;rcases q with q|⟨k,c',e,z'⟩
    .exact .inl q
    .refine .inr ⟨k,c',e,z'.sameBut g ?_⟩
     rintro rfl
     exact O (qP hN B (I.ok.inj _ _ _ e hc▸hi))
  .by_cases hcc:c'=c
   .subst hcc;exact⟨_,T⟩
   .obtain⟨w2,z2⟩:=I.cell y c' e
    exact⟨w2,z2.sameBut g hcc⟩
  .obtain⟨e,n,ne,nf,d⟩:=I.pin p hp
   refine⟨(g.2 p.1 ?_).trans e,n,ne,nf,d⟩;intro q;rw[q,Y]at e;have q':oc=p.2:=MQ e;exact d w' (by rw[<- q'];exact W)
theorem lU{v:V}{Q:Unit->eC->Prop}(I:Inv X SW Z H s)(l:X.N.Nodup)(j:X.N[i]?=cb x)(n:yG X.env.scope x)(r:RelV v u)(h:∀g,Inv X SW (Z.set i<|some v) H g->Q () g)(q:X.fn x=true\/X.env.scope.names.lookup x=cb .local:=by and_intros):ft M A (storeName X.env x u) Q E s:=
 nN I l j n r (λg I' _=>h g I') q
theorem Inv.call'{g:eC}(I:Inv X SW Z H s)(q:g.os=s.os)(u:Un (gn X.stack) ch H H' s.heap g.heap)(l:HOk X.prog X.w H' g.heap)(v:PP g.gens)(j:∀b∈ch,(b∈X.ex\/X.s₀.heap.objs.size<=b)/\b≠X.env.locals/\(∀x c,X.env.cells.lookup x=cb c->c≠b)/\∀p∈X.pn++SW,p.1≠b):Inv X SW Z H' g:=by
 obtain⟨h',g',d',t',n⟩:=g;have e:n=s.os:=q;subst e;exact I.call (g':=g') (t':=t') (d':=d') u l v j
end
noncomputable abbrev XK:=cp->Option eH->Hp->Prop
noncomputable abbrev St:=List (Option V)
noncomputable abbrev VK:=V->Hp->Prop
noncomputable abbrev TE:=St->Hp->VK->Prop
noncomputable abbrev TT:=St->Hp->(Bool->Hp->Prop)->Prop
noncomputable abbrev TA:=St->Hp->(List V->Hp->Prop)->Prop
structure Ends where
 nx:St->Hp->Prop
 rt:VK
 bk:St->Hp->Prop:=λ_ _=>False
 ct:St->Hp->Prop:=λ_ _=>False
noncomputable abbrev TS:=Ends->St->Hp->Prop
inductive EP(X:Cx)(SW:Tf)(Z:St)(Q:VK)(u:cp)(s':eC):Prop
 |mk (v:V) (H':Hp) (h0:Inv X SW Z H' s') (h1:RelV v u) (h2:Q v H'):EP X SW Z Q u s'
inductive TP(X:Cx)(SW:Tf)(Z:St)(Q:Bool->Hp->Prop)(b:Bool)(s':eC):Prop
 |mk (H':Hp) (h0:Inv X SW Z H' s') (h1:Q b H'):TP X SW Z Q b s'
inductive AP(X:Cx)(SW:Tf)(Z:St)(Q:List V->Hp->Prop)(us:Ta)(s':eC):Prop
 |mk (vs:List V) (H':Hp) (h0:Inv X SW Z H' s') (h1:Vals vs us) (h2:Q vs H'):AP X SW Z Q us s'
def SP(X:Cx)(SW:Tf)(D:Ends)(f:Flow)(s':eC):Prop:=
 match f with
 |.next=>∃σ' H',Inv X SW σ' H' s'/\D.nx σ' H'
 |.brk=>∃σ' H',Inv X SW σ' H' s'/\D.bk σ' H'
 |.cont=>∃σ' H',Inv X SW σ' H' s'/\D.ct σ' H'
 |.ret u=>∃v σ' H',Inv X SW σ' H' s'/\RelV v u/\D.rt v H'
def PE(X:Cx)(e:hB)(t:TE):Prop:=
 ∀(SW:Tf)(s:eC)(Z:St)(H:Hp)(Q:VK),Inv X SW Z H s->t Z H Q->ft (fy X.prog X.w) X.A (h9 e X.env) (EP X SW Z Q) X.xe s
def PT(X:Cx)(e:hB)(t:TT):Prop:=
 ∀(SW:Tf)(s:eC)(Z:St)(H:Hp)(Q:Bool->Hp->Prop),Inv X SW Z H s->t Z H Q->ft (fy X.prog X.w) X.A (SH e X.env<|eval e X.env) (TP X SW Z Q) X.xe s
def PW(X:Cx)(e:hB)(t:TT):Prop:=
 ∀(whole:Sem cp)(SW:Tf)(s:eC)(Z:St)(H:Hp)(Q:Bool->Hp->Prop),Inv X SW Z H s->t Z H Q->ft (fy X.prog X.w) X.A (SH e X.env whole) (TP X SW Z Q) X.xe s
theorem LZ{t:TT}(h:PW X e t):PT X e t:=h _
def PA(X:Cx)(es:Tc)(t:TA):Prop:=
 ∀(pos:Pos)(SW:Tf)(s:eC)(Z:St)(H:Hp)(Q:List V->Hp->Prop),Inv X SW Z H s->t Z H Q->ft (fy X.prog X.w) X.A (spliced<|backTo pos<|starEach es X.env) (AP X SW Z Q) X.xe s
def PS(X:Cx)(st:py)(t:TS):Prop:=
 ∀(SW:Tf)(s:eC)(Z:St)(H:Hp)(D:Ends),Inv X SW Z H s->t D Z H->ft (fy X.prog X.w) X.A (exec st X.env) (SP X SW D) X.xe s
def wD(X:Cx)(st:Td)(t:TS):Prop:=
 ∀(SW:Tf)(s:eC)(Z:St)(H:Hp)(D:Ends),Inv X SW Z H s->t D Z H->ft (fy X.prog X.w) X.A (execs st X.env) (SP X SW D) X.xe s
theorem bz{g:Type}{t:Sem g}{Q Q':g->eC->Prop}(h:ft M A t Q E s)(j:∀a s,Q a s->Q' a s):ft M A t Q' E s:=l' h j λ_ _ x=>x
section
noncomputable def tVar(i:Nat):TE:=λZ H Q=>∃v,Z[i]?=cb (cb v)/\Q v H
noncomputable def tC(v:V):TE:=λ_ H Q=>Q v H
theorem Hu(z:X.N[i]?=cb x)(B:Jo X.env.scope x)(j:(x==("__debug__":Str))=false:=by decide)(hcd:(x==("__classdict__":Str))=false:=by decide):PE X (.Name x pos) (tVar i):=by
 rintro SW s Z H Q I ⟨v,e,h⟩
 obtain⟨m,n,q⟩:=I.loc;obtain⟨u,r,l⟩:=q i x v z e B;have g:EP X _ Z Q u s:=⟨v,H,I,r,h⟩;rcases l with⟨hk,y⟩|⟨hk,c,hc,hcell⟩
 .exact wpAny_Name (SK I.ok.kind hk n y g) j
 rcases hk with hk|hk
 .exact wpAny_Name (wpAny_loadName_cell I.ok.kind hk hc hcell g) j
 exact wpAny_Name (wpAny_loadName_free I.ok.kind hk hc hcell g hcd) j
theorem Ht{i j pos}:PE X (.Constant (.int i) j pos) (tC<|.int i):=λ_ _ _ H _ I h=>wpAny_Constant_int ⟨.int i,H,I.tok _,⟨_,rfl⟩,h⟩
theorem Ls{b j pos}:PE X (.Constant (.bool b) j pos) (tC<|.bl b):=λ_ _ _ H _ I h=>Constant_bool ⟨.bl b,H,I,rfl,h⟩
theorem GK{j pos}:PE X (.Constant .none j pos) (tC .non):=λ_ _ _ H _ I h=>Constant_none ⟨.non,H,I,rfl,h⟩
theorem AD{x j pos}:PE X (.Constant (.str x) j pos) (tC<|.str x):=λ_ _ _ H _ I h=>Calls.Constant_str ⟨.str x,H,I.tok _,⟨_,rfl⟩,h⟩
def Gl(X:Cx)(x:Str):Prop:=X.env.kindOf x=cb .globalImplicit
theorem fE(I:Inv X SW Z H s)(l:Gl X x)(g:X.mg x=cb u)(h:Q u s)(j:(x==("__debug__":Str))=false:=by decide):ft (fy X.prog X.w) X.A (h9 (.Name x pos) X.env) Q E s:=
 PU I.ok.kind l (Calls.loadGlobal_global (by rw[I.ok.glob];exact I.mod.glob.keeps I.bk) g h) j
theorem dD(I:Inv X SW Z H s)(v:Gl X x)(l:X.mg x=ed)(n:g3 x=cb u)(h:Q u s)(q:x≠"__name__":=by decide)(hd:(x==("__debug__":Str))=false:=by decide):ft (fy X.prog X.w) X.A (h9 (.Name x pos) X.env) Q E s:=by
 obtain⟨y,j,g⟩:=I.mod.blt;exact PU I.ok.kind v (Calls.loadGlobal_builtin (by rw[I.ok.glob];exact I.mod.glob.keeps I.bk) l (by rw[I.ok.blt];exact j.keeps I.bk) ((g x q).trans n) h) hd
theorem Ec{v:V}(l:Gl X x)(g:X.mg x=cb u)(r:RelV v u)(j:(x==("__debug__":Str))=false:=by decide):PE X (.Name x pos) (tC v):=
 λ_ _ _ H _ I h=>fE I l g ⟨v,H,I,r,h⟩ j
theorem BA{v:V}(n:Gl X x)(g:X.mg x=ed)(j:g3 x=cb u)(r:RelV v u)(l:x≠"__name__":=by decide)(hd:(x==("__debug__":Str))=false:=by decide):PE X (.Name x pos) (tC v):=
 λ_ _ _ H _ I h=>dD I n g j ⟨v,H,I,r,h⟩ l hd
variable{a b:hB}
variable{tA tB':TT}{rest:Tc}
noncomputable def tAnd(t u:TT):TT:=λZ H Q=>t Z H λc H1=>if c=true then u Z H1 Q else Q eP H1
noncomputable def tOr(t u:TT):TT:=λZ H Q=>t Z H λc H1=>if c=true then Q true H1 else u Z H1 Q
noncomputable def tNot(t:TT):TT:=λZ H Q=>t Z H λc H1=>Q (!c) H1
theorem Cz(g:PT X a tA):PW X (.BoolOp .And [a] pos) tA:=by
 intro j SW s Z H Q I h;refine isTrue_and (bz (g _ s Z H Q I h) λc l e=>?_);cases c with
 |true=>exact isTrue_and_nil e
 |false=>exact e
theorem HK(g:PT X a tA):PW X (.BoolOp .Or [a] pos) tA:=by
 intro j SW s Z H Q I h;refine isTrue_or (bz (g _ s Z H Q I h) λc l e=>?_);cases c with
 |false=>exact isTrue_or_nil e
 |true=>exact e
theorem Hf(q:PT X a tA)(v:PW X (.BoolOp .And (b::rest) pos) tB'):PW X (.BoolOp .And (a::b::rest) pos) (tAnd tA tB'):=by
 intro l SW s Z H Q I h;refine isTrue_and (bz (q _ s Z H _ I h) λc n j=>?_);obtain⟨H1,I1,g⟩:=j;cases c with
 |true=>exact v l _ n Z H1 Q I1 g
 |false=>exact⟨H1,I1,g⟩
theorem JF(q:PT X a tA)(v:PW X (.BoolOp .Or (b::rest) pos) tB'):PW X (.BoolOp .Or (a::b::rest) pos) (tOr tA tB'):=by
 intro l SW s Z H Q I h;refine isTrue_or (bz (q _ s Z H _ I h) λc n j=>?_);obtain⟨H1,I1,g⟩:=j;cases c with
 |true=>exact⟨H1,I1,g⟩
 |false=>exact v l _ n Z H1 Q I1 g
theorem IP(g:PT X a tA):PT X (.UnaryOp .Not a pos) (tNot tA):=by
 intro SW s Z H Q I h;exact isTrue_not (l' (g _ s Z H _ I h) (λc j z=>by cases z with|mk a b d=>exact⟨a,b,d⟩) λ_ _ e=>e)
noncomputable def KS(ta tb:TE):TE:=λZ H Q=>ta Z H λx H1=>∃c,x=.bl c/\if c=true then tb Z H1 Q else Q (.bl eP) H1
noncomputable def JX(ta:TE):TE:=λZ H Q=>ta Z H λx H1=>∃c,x=.bl c/\Q (.bl<|!c) H1
theorem GG{op}{t:TE}(h:PE X a t):PE X (.BoolOp op [a] pos) t:=λSW s Z H Q I g=>BoolOp_one (h _ s Z H Q I g)
theorem IQ(q:PE X a ta)(y:PE X (.BoolOp .And (b::rest) pos) tb):PE X (.BoolOp .And (a::b::rest) pos) (KS ta tb):=by
 intro SW s Z H Q I h;refine BoolOp_and (bz (q _ s Z H _ I h) λv n j=>?_);obtain⟨x,H1,I1,l,g⟩:=j;obtain⟨c,rfl,g⟩:=g;cases l;refine n7 ?_;cases c with
 |true=>exact y _ n Z H1 Q I1 g
 |false=>exact⟨.bl _,H1,I1,rfl,g⟩
theorem GX(n:PE X a ta):PE X (.UnaryOp .Not a pos) (JX ta):=by
 intro SW s Z H Q I h;refine UnaryOp_ (bz (n _ s Z H _ I h) λv q j=>?_);obtain⟨x,H1,I1,l,g⟩:=j;obtain⟨c,rfl,g⟩:=g;cases l;exact not_of (n7 ⟨.bl !c,H1,I1,rfl,g⟩)
noncomputable def tIf(t:TT)(ta tb:TE):TE:=λZ H Q=>t Z H λc H1=>if c=true then ta Z H1 Q else tb Z H1 Q
theorem zS(n:PT X c tA)(q:PE X a ta)(v:PE X b tb):PE X (.IfExp c a b pos) (tIf tA ta tb):=by
 intro SW s Z H Q I h;refine wpAny_IfExp (bz (n _ s Z H _ I h) λd j l=>?_);obtain⟨H1,I1,g⟩:=l;cases d with
 |true=>exact q _ j Z H1 Q I1 g
 |false=>exact v _ j Z H1 Q I1 g
end
def SqL(K:Mi)(H:Hp)(a:eH)(xs:List V):Prop:=
 Rd H a (.lst xs)\/
  ∃(o:Obj)(S3:Th)(n:Nat),K.lookup a=cb o/\o.cls=.type "list"/\o.dict=ed/\o.data=.seq S3 n/\S3.size<=sizeLine/\Vals xs S3.toList
def jc(K:Mi)(H:Hp)(a:eH)(xs:List V):Prop:=
 Rd H a (.tup xs)\/
  ∃(o:Obj)(S3:Th)(n:Nat),K.lookup a=cb o/\o.cls=.type "tuple"/\o.data=.seq S3 n/\S3.size<=sizeLine/\Vals xs S3.toList
noncomputable def absV:cp->Option V
 |.none=>cb .non
 |.bool b=>cb (.bl b)
 |.int i _=>cb (.int i)
 |.str x _=>cb (.str x)
 |.bytes b _=>cb (.byt b)
 |.float b _=>cb (.flt b)
 |.ref a=>cb (.ref a)
 |.type n=>cb (.ty n)
 |_=>ed
theorem RelV.abs{x:V}(r:RelV x u):absV u=cb x:=by
 cases x with
 |non=>cases r;rfl
 |bl _=>cases r;rfl
 |int _=>obtain⟨t,rfl⟩:=r;rfl
 |str _=>obtain⟨t,rfl⟩:=r;rfl
 |byt _=>obtain⟨t,rfl⟩:=r;rfl
 |flt _=>obtain⟨t,rfl⟩:=r;rfl
 |ref _=>cases r;rfl
 |ty _=>cases r;rfl
theorem RelV.inj{x y:V}(r:RelV x u)(q:RelV y u):x=y:=MQ (r.abs.symm.trans q.abs)
theorem Vals.inj:∀{xs ys:List V}{us:Ta},Vals xs us->Vals ys us->xs=ys:=by
 intro xs ys us h
 induction h generalizing ys with
 |nil=>intro h';cases h';rfl
 |cons r _ ih=>intro h';cases h' with|cons r' t'=>rw[r.inj r',ih t']
section
variable{xs ys:List V}
theorem SqL.of(h:H a=cb (.lst xs)):SqL K H a xs:=.inl (.inl h)
theorem Inv.list(I:Inv X SW Z H s)(h:SqL X.K H a xs):∃S3:List cp,Vals xs S3/\PlainL s.heap a S3.toArray/\xs.length<=sizeLine:=by
 rcases h with h|⟨o,S3,n,hk,hc,hd,hs,hz,r⟩
 .obtain⟨z,S3,n,r,e⟩:=h.ok I.hok
  exact⟨_,r,⟨_,n,e,rfl,rfl,rfl⟩,z⟩
 refine⟨_,r,⟨o,n,I.kIn a o hk,hc,hd,by simpa using hs⟩,?_⟩
 have e:=r.length;simp only[MY]at e;lia
theorem Inv.tuple(I:Inv X SW Z H s)(h:jc X.K H a xs):∃S3:List cp,Vals xs S3/\IsTup s.heap a S3.toArray/\xs.length<=sizeLine:=by
 rcases h with h|⟨o,S3,n,hk,hc,hs,hz,r⟩
 .obtain⟨z,S3,r,g,e,c,_⟩:=h.ok I.hok
  exact⟨_,r,⟨g,e,c⟩,z⟩
 refine⟨_,r,⟨o,I.kIn a o hk,hc,n,by simpa using hs⟩,?_⟩
 have e:=r.length;simp only[MY]at e;lia
theorem Inv.list_inj(I:Inv X SW Z H s)(h:SqL X.K H a xs)(h':SqL X.K H a ys):xs=ys:=by
 obtain⟨j,r,⟨o,n,e,_,_,d⟩,_⟩:=I.list h;obtain⟨g,v,⟨y,z,l,_,_,q⟩,_⟩:=I.list h';rw[e]at l;cases l;rw[d]at q
 injection q with d1 _
 have:j=g:=by simpa using congrArg Oj d1
 subst this;exact r.inj v
theorem Inv.tuple_inj(I:Inv X SW Z H s)(h:jc X.K H a xs)(h':jc X.K H a ys):xs=ys:=by
 obtain⟨j,r,⟨o,e,_,n,d⟩,_⟩:=I.tuple h;obtain⟨g,v,⟨y,l,_,z,q⟩,_⟩:=I.tuple h';rw[e]at l;cases l;rw[d]at q
 injection q with d1 _
 have:j=g:=by simpa using congrArg Oj d1
 subst this;exact r.inj v
end
noncomputable abbrev Cx.wish(X:Cx)(E:Te):Cx:={ X with xe:=E }
noncomputable abbrev Cx.nox(X:Cx):Cx:=X.wish λ_ _=>False
theorem Cx.Ok.wish(ok:X.Ok)(E:Te):(X.wish E).Ok:=
 ⟨ok.mod,ok.kind,ok.glob,ok.blt,ok.above,ok.inj,ok.has,ok.cab,ok.hd,ok.frames,ok.stk,ok.exf,ok.bs,ok.bsz,ok.noex,ok.exfs,ok.funs,ok.frf⟩
theorem Cx.Ok.unwish(ok:(X.wish E).Ok):X.Ok:=
 ⟨ok.mod,ok.kind,ok.glob,ok.blt,ok.above,ok.inj,ok.has,ok.cab,ok.hd,ok.frames,ok.stk,ok.exf,ok.bs,ok.bsz,ok.noex,ok.exfs,ok.funs,ok.frf⟩
section
theorem Inv.wish(I:Inv X SW Z H s)(E:Te):Inv (X.wish E) SW Z H s:=⟨I.ok.wish E,I.os,I.bare,I.base,I.loc,I.cell,I.free,I.freeC,I.pin,I.hok,I.len⟩
theorem Inv.unwish(I:Inv (X.wish E) SW Z H s):Inv X SW Z H s:=⟨I.ok.unwish,I.os,I.bare,I.base,I.loc,I.cell,I.free,I.freeC,I.pin,I.hok,I.len⟩
end
section
variable{st:py}{rest:Td}{t u:TS}
noncomputable def LW:TS:=λD Z H=>D.nx Z H
noncomputable def tSeq(t u:TS):TS:=λD Z H=>t { D with nx:=u D } Z H
theorem BD:wD X [] LW:=λ_ _ Z H _ I h=>wh ⟨Z,H,I,h⟩
theorem z_(l:PS X st t)(h2:wD X rest u):wD X (st::rest) (tSeq t u):=by
 intro SW s Z H D I h;refine Sb (bz (l _ s Z H _ I h) λf j q=>?_);cases f with
 |next=>
  obtain⟨g,H',I',q⟩:=q;exact h2 _ j _ H' D I' q
 |ret v=>exact q
 |brk=>exact q
 |cont=>exact q
theorem DB(g:PS X st t):wD X [st] t:=by
 intro SW s Z H D I h;refine Sb (bz (g _ s Z H D I h) λf j q=>?_);cases f with
 |next=>exact wh q
 |ret v=>exact q
 |brk=>exact q
 |cont=>exact q
theorem Inv.quiet(I:Inv X SW Z H s):interactive X.env=false:=by simp[interactive,I.ok.kind]
noncomputable def J_(te:TE):TS:=λD Z H=>te Z H λ_ H1=>D.nx Z H1
theorem Dt(l:PE X e te)(j:pv e ed pos.line X.env=pure false:=by rfl):PS X (.Expr e pos) (J_ te):=by
 intro SW s Z H D I h;exact wpAny_Expr_any (bz (l _ s Z H _ I h)<|by rintro v q ⟨x,H1,I1,n,g⟩;exact⟨Z,H1,I1,g⟩) I.quiet j
noncomputable def tRet(te:TE):TS:=λD Z H=>te Z H D.rt
theorem G9(l:PE X e te):PS X (.Return (cb e) pos) (tRet te):=by
 intro SW s Z H D I h;exact wpAny_Return_some (bz (l _ s Z H _ I h)<|by rintro v n ⟨x,H1,I1,j,g⟩;exact⟨x,Z,H1,I1,j,g⟩)
noncomputable def tIfS(c:TT)(t u:TS):TS:=λD Z H=>c Z H λb H1=>if b=true then t D Z H1 else u D Z H1
theorem JZ{a b:Td}{l:TT}(q:PT X c l)(v:wD X a t)(y:wD X b u):PS X (.If c a b pos) (tIfS l t u):=by
 intro SW s Z H D I h;refine wpAny_If (bz (q _ s Z H _ I h) λd j n=>?_);obtain⟨H1,I1,g⟩:=n;cases d with
 |true=>exact v _ j Z H1 D I1 g
 |false=>exact y _ j Z H1 D I1 g
end
noncomputable abbrev TG:=V->St->Hp->(St->Hp->Prop)->Prop
noncomputable abbrev F2:=List V->St->Hp->(St->Hp->Prop)->Prop
def PG(X:Cx)(target:hB)(t:TG):Prop:=
 ∀(SW:Tf)(s:eC)(Z:St)(H:Hp)(v:V)(u:cp)(Q:St->Hp->Prop),Inv X SW Z H s->RelV v u->t v Z H Q->
  ft (fy X.prog X.w) X.A (Sh target X.env u) (λ_ g=>∃σ' H',Inv X SW σ' H' g/\Q σ' H') X.xe s
def Ji(X:Cx)(ts:Tc)(t:F2):Prop:=
 ∀(SW:Tf)(s:eC)(Z:St)(H:Hp)(vs:List V)(us:Ta)(Q:St->Hp->Prop),Inv X SW Z H s->Vals vs us->t vs Z H Q->
  ft (fy X.prog X.w) X.A (assignInOrder ((q0 ts X.env).map (·.2)) us) (λ_ g=>∃σ' H',Inv X SW σ' H' g/\Q σ' H') X.xe s
noncomputable abbrev HI:=V->V->V->Hp->(Hp->Prop)->Prop
def Hw(X:Cx)(t:HI):Prop:=
 ∀(SW:Tf)(s:eC)(Z:St)(H:Hp)(o i v:V)(ov iv u:cp)(Q:Hp->Prop),Inv X SW Z H s->RelV o ov->RelV i iv->RelV v u->t o i v H Q->
  ft (fy X.prog X.w) X.A (setItem ov iv u) (λ_ g=>∃H',Inv X SW Z H' g/\Q H') X.xe s
noncomputable abbrev TIp:=V->V->Hp->VK->Prop
def HY(X:Cx)(op:RQ)(t:TIp):Prop:=
 ∀(SW:Tf)(s:eC)(Z:St)(H:Hp)(x y:V)(v u:cp)(Q:VK),Inv X SW Z H s->RelV x v->RelV y u->t x y H Q->
  ft (fy X.prog X.w) X.A (inplaceOp op v u) (EP X SW Z Q) X.xe s
section
noncomputable def EI(i:Nat):TG:=λv Z H Q=>Q (Z.set i<|some v) H
theorem Cc(g:X.N.Nodup)(n:X.N[i]?=cb x)(j:yG X.env.scope x)(l:X.fn x=true\/X.env.scope.names.lookup x=cb .local:=by and_intros):PG X (.Name x pos) (EI i):=by
 intro SW s Z H v u Q I r h;exact wpAny_assign_Name (lU I g n j r (λq I'=>⟨_,H,I',h⟩) l)
noncomputable def gNil:F2:=λg Z H Q=>g=[]/\Q Z H
noncomputable def LC(t:TG)(u:F2):F2:=λj Z H Q=>∃v r,j=v::r/\t v Z H λg H'=>u r g H' Q
theorem Ce:Ji X [] gNil:=by
 rintro SW s Z H g us Q I r ⟨e,h⟩
 exact assignInOrder_nil ⟨Z,H,I,h⟩
theorem AJ{t:TG}{u:F2}(q:PG X e t)(h2:Ji X es u)(n:(q0 (e::es) X.env).map (·.2)=Sh e X.env::(q0 es X.env).map (·.2):=by rfl):Ji X (e::es) (LC t u):=by
 rintro SW s Z H y us Q I r ⟨v,z,j,h⟩
 subst j;cases r with
 |cons r rr=>
  rw[n];exact assignInOrder_cons (bz (q _ s Z H _ _ _ I r h)<|by rintro _ l ⟨_,H1,I1,g⟩;exact(h2 _ l _ H1 _ _ Q I1 rr g))
noncomputable def gTup(K:Mi)(n:Nat)(t:F2):TG:=λv Z H Q=>∃a xs,v=.ref a/\jc K H a xs/\xs.length=n/\t xs Z H Q
theorem HG{k:Nat}{t:F2}{n:Nat}(hc:X.calm=true)(h:Ji X es t)(hn:(q0 es X.env).length=n:=by rfl)(hst:(q0 es X.env).findIdx? (·.1)=none:=by rfl):PG X (.Tuple es k pos) (gTup X.K n t):=by
 rintro SW s Z H v u Q I r ⟨a,xs,e1,hq,hl,hw⟩
 subst e1;cases r;obtain⟨S3,rv,ht,hz⟩:=I.tuple hq;refine assign_Tuple_tuple (I.ok.hd hc) ht (by simp[hn,<- hl,rv.length]) hst λh' hx=>?_
 have I1:Inv X _ Z H _:=I.kept (t':=s.toks) λb o e=>hx b o (Mt<|Me e) e;exact h _ _ Z H xs _ Q I1 (by trivial) hw
noncomputable def gSub(to ti:TE)(t:HI):TG:=λv Z H Q=>to Z H λo H1=>ti Z H1 λi H2=>t o i v H2 λH3=>Q Z H3
theorem I_{o i:hB}{to g:TE}{t:HI}(J:PE X o to)(L:PE X i g)(O:Hw X t)(R:∀v,Sh (.Subscript o i pos) X.env v=(do
   let ov <- K' [v] (h9 o X.env)
   let iv <- K' [v,ov] (h9 i X.env)
   R6 pos
   K' [v,ov,iv] (setItem ov iv v)
   release [v,ov,iv] []):=by intro _;rfl):PG X (.Subscript o i pos) (gSub to g t):=by
 intro SW s Z H v u Q I r h;rw[R];refine cx (lb (bz (J _ s Z H _ I h) λov z j=>?_));obtain⟨x,H1,I1,q,B⟩:=j;exact cx (lb<|bz (L _ z Z H1 _ I1 B)<|by rintro iv G ⟨y,H2,I2,F,n⟩;exact(cx<|wpAny_standAt<|wpAny_bind<|wpAny_holding<|bz (O SW G Z H2 x y v ov iv u _ I2 q F r n)<|by rintro _ S ⟨H3,I3,l⟩;exact(wpAny_release ⟨Z,H3,I3,l⟩)))
noncomputable def JM(te:TE)(g:TG):TS:=λD Z H=>te Z H λx H1=>g x Z H1 D.nx
theorem IN{g:TG}(B:PE X e te)(F:PG X tg g)(z:swapsWithSole [tg] e pos.line X.env=pure false:=by rfl)(hw:swappedStores [tg] e X.env=pure none:=by rfl)(h1:(q0 [tg] X.env).map (·.2)=[Sh tg X.env]:=by rfl):PS X (.Assign [tg] e pos) (JM te g):=by
 intro SW s Z H D I h;refine wpAny_Assign_stores (bz (B _ s Z H _ I h) λv y j=>?_) z hw;obtain⟨x,H1,I1,n,l⟩:=j;rw[h1];exact bz (F _ y Z H1 x v _ I1 n l) λ_ G q=>q
theorem HX(n:X.N.Nodup)(l:X.N[i]?=cb x)(q:yG X.env.scope x)(B:PE X e te)(z:pv e (cb<|.Name x pos') pos.line X.env=pure false:=by rfl)(hf:X.fn x=true\/X.env.scope.names.lookup x=cb .local:=by and_intros):
  PS X (.Assign [.Name x pos'] e pos) (JM te<|EI i):=by
 intro SW s Z H D I h;refine wpAny_Assign_Name (bz (B SW s Z H _ I h) λv G ⟨y,H1,I1,j,g⟩=>?_) z;exact lU I1 n l q j (λF I2=>⟨_,H1,I2,g⟩) hf
noncomputable def tAug(i:Nat)(te:TE)(ti:TIp):TS:=λD Z H=>∃x,Z[i]?=cb (cb x)/\te Z H λy H1=>ti x y H1 λz H2=>D.nx (Z.set i<|some z) H2
theorem Ie{op:RQ}{B:TIp}(hN:X.N.Nodup)(F:X.N[i]?=cb x)(q:yG X.env.scope x)(he:PE X e te)(Y:HY X op B)(hf:X.fn x=true\/X.env.scope.names.lookup x=cb .local:=by and_intros):
  PS X (.AugAssign (.Name x pos') op e pos) (tAug i te B):=by
 rintro SW s Z H D I ⟨v,T,h⟩
 obtain⟨m,U,W⟩:=I.loc;have n:Jo X.env.scope x:=by rcases q with k|k;exact .inl k;exact .inr (.inl k)
 obtain⟨u,r,l⟩:=W i x v F T n;refine wpAny_AugAssign_Name ?_;have go:ft (fy X.prog X.w) X.A (h9 e X.env) (λw j=>ft (fy X.prog X.w) X.A (inplaceOp op u w) (λr g=>ft (fy X.prog X.w) X.A (storeName X.env x r) (λ_=>SP X SW D .next) X.xe g) X.xe j) X.xe s:=by
  exact bz (he _ s Z H _ I h) (by rintro w O ⟨y,H1,I1,J,S⟩;exact bz (Y SW O Z H1 v y u w _ I1 r J S) (by rintro z s2 ⟨zv,H2,I2,R,L⟩;exact lU I2 hN F q R (λs3 I3=>⟨_,H2,I3,L⟩) hf))
 rcases l with⟨hk,G⟩|⟨hk,c,hc,hcell⟩
 .exact SK I.ok.kind hk U G go
 rcases hk with hk|hk
 .exact wpAny_loadName_cell I.ok.kind hk hc hcell go
 rcases q with k|k
 .have:X.env.scope.names.lookup x=cb .free:=hk
  rw[k]at this;cases this
 .have:X.env.scope.names.lookup x=cb .free:=hk
  rw[k]at this;cases this
noncomputable def ipI(f:Int->Int->Int):TIp:=λx y H Q=>∃i j,x=.int i/\y=.int j/\Q (.int<|f i j) H
theorem IR:HY X .Add (ipI λi j=>i+j):=by
 rintro SW s Z H x y v u Q I g z ⟨i,j,l,n,q⟩
 subst l n;obtain⟨t,rfl⟩:=g;obtain⟨t',rfl⟩:=z;exact iadd_int ⟨.int _,H,I.tok _,⟨_,rfl⟩,q⟩
end
section
noncomputable def J4(c:TT)(tb:TS):TS:=λD Z H=>∃W:Nat->St->Hp->Prop,(∃m,W m Z H)/\∀m Z H,W m Z H->
 c Z H λb H1=>if b=true then ∃N:St->Hp->Prop,(∀σ' H',N σ' H'->∃m',m'<m/\W m' σ' H')/\tb { D with nx:=N,ct:=N,bk:=D.nx } Z H1 else D.nx Z H1
theorem B5{F:TT}{tb:TS}(G:Sy (fy X.prog X.w) X.A X.env X.xe)(hc:PT X c F)(hb:wD X body tb):PS X (.While c body [] pos) (J4 F tb):=by
 rintro SW s Z H D I ⟨W,⟨S,T⟩,turn⟩
 refine wpAny_While (codeAny_whileLoop (λn O=>∃σ' H',Inv X _ σ' H' O/\W n σ' H') ?_ S ⟨Z,H,I,T⟩)
 rintro n R ⟨L,H1,I1,U⟩
 refine re G (bz (hc _ R _ H1 _ I1<|turn n _ H1 U) λb Y J=>?_);obtain⟨H2,I2,j⟩:=J;cases b with
 |true=>
  obtain⟨N,B,j⟩:=j;refine re G (bz (hb _ Y _ H2 _ I2 j) λf s3 g=>?_);cases f with
  |next=>
   obtain⟨l,H3,I3,n3⟩:=g;obtain⟨q,z,y⟩:=B _ H3 n3;exact⟨q,z,_,H3,I3,y⟩
  |cont=>
   obtain⟨l,H3,I3,n3⟩:=g;obtain⟨q,z,y⟩:=B _ H3 n3;exact⟨q,z,_,H3,I3,y⟩
  |brk=>exact g
  |ret v=>exact g
 |false=>
  exact wh ⟨_,H2,I2,j⟩
end
structure It where
 go:Nat->Hp->Prop
 yld:Nat->Hp->V->Hp->Prop
 stop:Nat->Hp->Prop
def iH(X:Cx)(SW:Tf)(H:Hp)(b:eH):Prop:=
 H b=ed/\b≠X.env.locals/\b∉X.fs/\(b∈X.ex\/X.s₀.heap.objs.size<=b)/\(∀x c,X.env.cells.lookup x=cb c->c≠b)/\∀p∈X.pn++SW,p.1≠b
theorem Inv.fpOk(I:Inv X SW Z H s)(g:s.heap.objs.size<=b)(l:H' b=ed):iH X SW H' b:=by
 refine⟨l,NR (Mz I.lt g),I.nofs g,.inr (My I.sz g),λx c e z=>?_,λp j z=>?_⟩
 .obtain⟨v,q⟩:=I.cell x c e
  exact absurd (Mz q.lt<|by simp_all) (MK _)
 exact absurd (Mz (Me (I.pin p j).1)<|by rw[z];exact g) (MK _)
structure Turn(P:g4)(w:kB)(K:Mi)(tg:hB)(J:It)(fp:Tb)(it:eH)(tn:Nat->ka->Prop):Prop where
 mem:it∈fp
 obj:∀i h,tn i h->∀b∈fp,∃o,h.get? b=cb o/\∀v,o.data≠.cell v
 keep:∀i h h',tn i h->(∀b∈fp,∀o,h.get? b=cb o->h'.get? b=cb o)->tn i h'
 item:∀(X:Cx),X.prog=P->X.w=w->X.K=K->X.calm=true->∀(i:Nat)(SW:Tf)(s:eC)(Z:St)(H:Hp)(E:Te),Inv X SW Z H s->(∀b∈fp,iH X SW H b)->tn i s.heap->J.go i H->
  ft (fy P w) X.A (RZ<|.ref it) (λr s1=>∃u,r=cb u/\
   ft (fy P w) X.A (Q_ tg (.ref it) u) (λ_ s2=>∃x H',Inv X SW Z H' s2/\RelV x u/\J.yld i H x H'/\tn (i+1) s2.heap/\∀b∈fp,H' b=ed) E s1) E s
 done:∀(X:Cx),X.prog=P->X.w=w->X.K=K->X.calm=true->∀(i:Nat)(SW:Tf)(s:eC)(Z:St)(H:Hp)(E:Te),Inv X SW Z H s->(∀b∈fp,iH X SW H b)->tn i s.heap->J.stop i H->
  ft (fy P w) X.A (RZ<|.ref it) (λr s1=>r=ed/\Inv X SW Z H s1) E s
 self:∀(A:kL)(i:Nat)(s:eC)(Q:Te)(E:Te),tn i s.heap->Q (.ref it) s->ft (fy P w) A (Sc<|.ref it) Q E s
noncomputable abbrev TI:=St->Hp->(It->Hp->Prop)->Prop
def PIE(X:Cx)(SW:Tf)(Z:St)(tg:hB)(R:It->Hp->Prop)(itv:cp)(s2:eC):Prop:=
 ∃(it:eH)(fp:Tb)(tn:Nat->ka->Prop)(J:It)(H':Hp),itv=.ref it/\Inv X SW Z H' s2/\Turn X.prog X.w X.K tg J fp it tn/\tn 0 s2.heap/\(∀b∈fp,iH X SW H' b)/\R J H'
def PI(X:Cx)(tg iter:hB)(wi:TI):Prop:=
 ∀(SW:Tf)(s:eC)(Z:St)(H:Hp)(R:It->Hp->Prop),Inv X SW Z H s->wi Z H R->
  ft (fy X.prog X.w) X.A (h9 iter X.env) (λv g=>ft (fy X.prog X.w) X.A (Sc v) (PIE X SW Z tg R) X.xe g) X.xe s
theorem vO{j:eH}{o:Obj}{n:String}{vs:Th}{Q:Unit->eC->Prop}(l:s.heap.get? j=cb o)(y:o.cls=.type n)(q:o.data=.fields vs)(v:["enumerate","zip","dict_itemiterator","dict_reverseitemiterator","odict_iterator","itertools.zip_longest","itertools.pairwise"].contains n=eP)(g:Q () s):ft M A (Q_ tg (.ref j) u) Q E s:=by
 unfold Q_
 cases tg<;>first
  |exact fx g
  |(cases u<;>first
    |exact fx g
    |(refine cx (wpAny_load l ?_)
      rw[y,q];show ft M A (if (["enumerate","zip","dict_itemiterator","dict_reverseitemiterator","odict_iterator","itertools.zip_longest","itertools.pairwise"].contains n&&vs[0]?==cb (G' _))=true then _ else _) Q E s
      rw[if_neg (by intro h;rw[v,P9]at h;cases h)]
      exact fx g))
noncomputable def Itl(K:Mi)(a:eH):It:=
 ⟨λi H=>∃xs x,SqL K H a xs/\xs[i]?=cb x,λi H x H'=>H'=H/\∀xs,SqL K H a xs->xs[i]?=cb x,λi H=>∃xs,SqL K H a xs/\xs.length<=i⟩
noncomputable def Itt(K:Mi)(a:eH):It:=
 ⟨λi H=>∃xs x,jc K H a xs/\xs[i]?=cb x,λi H x H'=>H'=H/\∀xs,jc K H a xs->xs[i]?=cb x,λi H=>∃xs,jc K H a xs/\xs.length<=i⟩
noncomputable def Itr(lo:Int)(n:Nat):It:=⟨λi _=>i<n,λi H x H'=>H'=H/\x=.int (lo+i),λi _=>n<=i⟩
theorem yf(a l:eH):Turn P w K tg (Itl K a) [l] l (λi h=>h.IsListIter l a i) where
 mem:=by simp
 obj:=λi h g b j=>by
  obtain⟨o,e,c,d⟩:=g
  simp_all
 keep:=λi h h' g k=>g.at λo e=>k l (by simp) o e
 item:=by
  intro X y T F W i SW s Z H E I v g O;subst y T F;obtain⟨xs,x,q,R⟩:=O;obtain⟨B,L,p,Y⟩:=I.list q;obtain⟨u,hu,ru⟩:=L.get R;obtain⟨G,J,f2,z,U,S⟩:=v l (by simp)
  refine SA g p.isList (x:=u) (by simp_all) λh' n sb=>?_
  have I1:Inv X _ Z H _:=I.turned (t':=s.toks) (λb o j e=>(sb.2 b j).trans e) G J z U S;obtain⟨o,e,c,d⟩:=id n;exact⟨u,rfl,vO e c d (by decide) ⟨x,H,I1,ru,⟨rfl,λys hy=>by rw[I.list_inj hy q];exact R⟩,n,λb j=>(v b j).1⟩⟩
 done:=by
  intro X y T F W i SW s Z H E I v g O;subst y T F;obtain⟨xs,q,R⟩:=O;obtain⟨B,L,p,Y⟩:=I.list q;obtain⟨G,J,f2,z,U,S⟩:=v l (by simp)
  have hl:=L.length;exact SJ (I.ok.hd W) g p.isList (by simp;lia) λh' eb=>⟨rfl,I.turned (λb o j e=>eb b o j e) G J z U S⟩
 self:=λ_ _ _ _ _ g h=>wpAny_pyIter_listiter g h
theorem uc(a l:eH):Turn P w K tg (Itt K a) [l] l (λi h=>h.IsTupleIter l a i) where
 mem:=by simp
 obj:=λi h g b j=>by
  obtain⟨o,e,c,d⟩:=g
  simp_all
 keep:=λi h h' g k=>g.at λo e=>k l (by simp) o e
 item:=by
  intro X y T F W i SW s Z H E I v g O;subst y T F;obtain⟨xs,x,q,R⟩:=O;obtain⟨B,L,p,Y⟩:=I.tuple q;obtain⟨u,hu,ru⟩:=L.get R;obtain⟨G,J,f2,z,U,S⟩:=v l (by simp)
  refine wpAny_pyNext_tuple_item g p (x:=u) (by simp_all) λh' n sb=>?_
  have I1:Inv X _ Z H _:=I.turned (t':=s.toks) (λb o j e=>(sb.2 b j).trans e) G J z U S;obtain⟨o,e,c,d⟩:=id n;exact⟨u,rfl,vO e c d (by decide) ⟨x,H,I1,ru,⟨rfl,λys hy=>by rw[I.tuple_inj hy q];exact R⟩,n,λb j=>(v b j).1⟩⟩
 done:=by
  intro X y T F W i SW s Z H E I v g O;subst y T F;obtain⟨xs,q,R⟩:=O;obtain⟨B,L,p,Y⟩:=I.tuple q;obtain⟨G,J,f2,z,U,S⟩:=v l (by simp)
  have hl:=L.length;exact wpAny_pyNext_tuple_end (I.ok.hd W) g p (by simp;lia) λh' eb=>⟨rfl,I.turned (λb o j e=>eb b o j e) G J z U S⟩
 self:=λ_ _ _ _ _ g h=>wpAny_pyIter_tupleiter g h
theorem tP(j:eH)(R:Int)(n:Nat):Turn P w K tg (Itr R n) [j] j (λi h=>IsRangeIter h j (R+(i:Nat)*1) ((n:Int)-(i:Nat)) 1) where
 mem:=by simp
 obj:=λi h g b l=>by
  simp_all
 keep:=λi h h' g k=>k j (by simp) _ g
 item:=by
  intro X S U T G i SW s Z H E I y g J;subst S U T;obtain⟨B,F,f2,z,O,L⟩:=y j (by simp)
  refine (Walks.range (I.ok.hd G) j R 1 n).item i s _ _ J g λv h' W hv q kk=>?_;obtain⟨t,rfl⟩:=hv;have I1:Inv X _ Z H { s with heap:=h',toks:=W }:=I.turned (λb o l e=>kk b o (by simpa using l) e) B F z O L
  refine⟨_,rfl,vO q rfl rfl (by decide) ⟨.int _,H,I1,⟨t,?_⟩,⟨rfl,rfl⟩,q,λb l=>(y b l).1⟩⟩
  rw[Int.mul_one]
 done:=by
  intro X S U T G i SW s Z H E I y g J;obtain⟨B,F,f2,z,O,L⟩:=y j (by simp)
  exact wpAny_pyNext_range_end (I.ok.hd G) g (by have:n<=i:=J;lia) λh' Y=>⟨rfl,I.turned (λb o l e=>Y b o l e) B F z O L⟩
 self:=λ_ _ _ _ _ g h=>wpAny_pyIter_rangeiter g h
section
theorem zD{R:It->Hp->Prop}{g j:Int}{t u v:Tok}{l:Nat}(I:Inv X SW Z H s)(G:-(2 ^ 62)<=g)(h2:g<2 ^ 62)(B:-(2 ^ 62)<=j)(F:j<2 ^ 62)(q:R (Itr g (j-g).toNat) H):ft (fy X.prog X.w) X.A (Sc<|.ref s.heap.objs.size) (PIE X SW Z tg R) E { s with heap:=s.heap.push { cls:=.type "range",data:=.fields #[.int g t,.int j u,.int 1 v] },toks:=l }:=by
 refine wpAny_pyIter_range (IsRange.new ..) (small_one G h2 B F) ?_;have I1:Inv X SW Z H { s with heap:=s.heap.push { cls:=.type "range",data:=.fields #[.int g t,.int j u,.int 1 v] },toks:=l }:=I.kept λb o e=>Mb _ e;refine⟨(s.heap.push { cls:=.type "range",data:=.fields #[.int g t,.int j u,.int 1 v] }).objs.size,[(s.heap.push { cls:=.type "range",data:=.fields #[.int g t,.int j u,.int 1 v] }).objs.size],_,_,H,rfl,
  I1.kept (t':=l) λb o e=>Mb _ e,tP _ g (j-g).toNat,?_,λb y=>?_,q⟩
 .have n:g+((0:Nat):Int)*1=g:=by simp
  have z:(((j-g).toNat:Nat):Int)-((0:Nat):Int)=Builtin.Range.rangeSize g j 1:=by rw[rangeSize_one];split<;>lia
  show IsRangeIter _ _ (g+((0:Nat):Int)*1) ((((j-g).toNat:Nat):Int)-((0:Nat):Int)) 1;rw[n,z];exact Mn _ rfl
 .have e:b=(s.heap.push { cls:=.type "range",data:=.fields #[.int g t,.int j u,.int 1 v] }).objs.size:=by simpa using y
  subst e;exact I1.fpOk (Mo _) (I1.hok.fresh<|Mo _)
noncomputable def JC(ta:TA):TI:=λZ H R=>ta Z H λg H1=>∃j:Int,g=[.int j]/\-(2 ^ 62)<=j/\j<2 ^ 62/\R (Itr 0 j.toNat) H1
theorem xV{a:hB}{ta:TA}(B:Gl X "range")(y:X.mg "range"=ed)(F:PA X [a] ta)(z:eT [a] X.env=[(eP,h9 a X.env)]:=by rfl):PI X tg (.Call (.Name "range" p) [a] [] pos) (JC ta):=by
 intro SW s Z H R I h;refine Call_ (dD I B y boot_range<|MS (bz (F _ _ s Z H _ I h) λus J l=>?_) z rfl);obtain⟨G,H1,I1,n,g⟩:=l;obtain⟨j,e,g,v,q⟩:=g;subst e;cases n with
 |cons r rr=>
  cases rr;obtain⟨t,rfl⟩:=r;exact call_range_1 (zD I1 (by lia) (by lia) g v<|by simpa using q)
noncomputable def tFor(wi:TI)(g:TG)(tb:TS):TS:=λD Z H=>wi Z H λJ H1=>∃W:Nat->Nat->St->Hp->Prop,(∃m,W 0 m Z H1)/\∀i m Z H,W i m Z H->
 (J.stop i H/\D.nx Z H)\/(J.go i H/\∃N:St->Hp->Prop,(∀σ' H',N σ' H'->∃m',m'<m/\W (i+1) m' σ' H')/\∀x H',J.yld i H x H'->g x Z H' λj H2=>tb { D with nx:=N,ct:=N,bk:=D.nx } j H2)
noncomputable def lr(fp:Tb)(h:ka):List (eH×Obj):=fp.filterMap λb=>(h.get? b).map λo=>(b,o)
theorem dS{o:Obj}(g:b∈fp)(e:h.get? b=cb o):(b,o)∈lr fp h:=QY.mpr ⟨b,g,by rw[e];rfl⟩
theorem yn{p:eH×Obj}(j:p∈lr fp h):p.1∈fp/\h.get? p.1=cb p.2:=by
 obtain⟨b,l,e⟩:=QY.mp j;cases q:h.get? b with
 |none=>simp_all
 |some o=>
  rw[q]at e;have g:=MQ e;subst g;trivial
theorem Inv.pinned(I:Inv X SW Z H s)(n:∀b∈fp,iH X SW H b)(l:∀b∈fp,∃o,s.heap.get? b=cb o/\∀v,o.data≠.cell v):Inv X (SW++lr fp s.heap) Z H s:=
 I.pins_of λp j=>(Ml.mp j).elim (λz=>I.pin p (MF _ z)) λz=>by
  obtain⟨g,e⟩:=yn z;obtain⟨q,y,F,_⟩:=n _ g;obtain⟨o,B,d⟩:=l _ g
  simp_all
theorem Inv.unpinned{pl:Tf}(I:Inv X (SW++pl) Z H s):Inv X SW Z H s:=I.pins_of λp g=>I.pin p (MF _<|NW _ g)
theorem FZ{y:hB}{wi:TI}{g:TG}{tb:TS}(U:Sy (fy X.prog X.w) X.A X.env X.xe)(hc:X.calm=true)(hi:PI X tg y wi)(hg:PG X tg g)(q:wD X body tb)(hs:∀x,ol y X.env x=pure x:=by intro _;rfl):PS X (.For tg y body [] pos) (tFor wi g tb):=by
 intro SW s Z H D I h;refine wpAny_For (bz (hi _ s Z H _ I h) λv s1 h1=>bz h1 λitv s2 h2=>?_) hs;obtain⟨it,fp,tn,J,H2,e,I2,T,st2,f2,W,⟨m0,w0⟩,L⟩:=h2;subst e
 -- what stays true of the iterator's objects through the loop
 have l:∀{H':Hp},(∀b∈fp,H' b=ed)->∀b∈fp,iH X _ H' b:=λhn b q=>⟨hn b q,(f2 b q).2⟩;refine codeAny_forLoop_any (λn s'=>∃i σ' H',Inv X _ σ' H' s'/\tn i s'.heap/\(∀b∈fp,H' b=ed)/\W i n σ' H') ?_ m0 ⟨0,Z,H2,I2,st2,λb q=>(f2 b q).1,w0⟩
 rintro n s3 ⟨i,σ3,H3,I3,R,S,w3⟩
 rcases L i n _ H3 w3 with⟨O,qn⟩|⟨go,N,hN,step⟩
 .refine re U (bz (T.done X rfl rfl rfl hc i _ s3 _ H3 _ I3 (l S) R O) λr s4 B=>?_)
  obtain⟨Y,I4⟩:=B;subst Y;exact wh ⟨_,H3,I4,qn⟩
 refine re U (bz (T.item X rfl rfl rfl hc i _ s3 _ H3 _ I3 (l S) R go) λr s4 B=>?_);obtain⟨u,Y,h4⟩:=B;subst Y;refine re U (bz h4 λ_ s5 B=>?_);obtain⟨x,H5,I5,r5,y5,F,fr5⟩:=B;refine re U (bz (hg _ s5 σ3 H5 x u _ (I5.pinned (l fr5)<|T.obj _ _ F) r5<|step x H5 y5) λ_ s6 B=>?_);obtain⟨σ6,H6,I6,q6⟩:=B;refine re U (bz (q _ s6 σ6 H6 _ I6 q6) λf s7 z=>?_);have again:∀{j:St}{H7:Hp},Inv X (SW++lr fp s5.heap) j H7 s7->N j H7->∃m,m<n/\∃i σ' H',Inv X SW σ' H' s7/\tn i s7.heap/\(∀b∈fp,H' b=ed)/\W i m σ' H':=λ{j H7} I7 G=>by
  obtain⟨m',hm,w7⟩:=hN j H7 G;refine⟨m',hm,i+1,j,H7,I7.unpinned,T.keep _ _ _ F λb q o e=>(I7.pin (b,o)<|MF _<|MF _<|dS q e).1,λb q=>?_,w7⟩;obtain⟨o,e,d⟩:=T.obj _ _ F b q;exact(I7.pin (b,o)<|MF _<|MF _<|dS q e).2.1
 cases f with
 |next=>obtain⟨j,H7,I7,G⟩:=z;exact again I7 G
 |cont=>obtain⟨j,H7,I7,G⟩:=z;exact again I7 G
 |brk=>obtain⟨j,H7,I7,z⟩:=z;exact⟨j,H7,I7.unpinned,z⟩
 |ret v=>obtain⟨x7,j,H7,I7,r7,z⟩:=z;exact⟨x7,j,H7,I7.unpinned,r7,z⟩
end
noncomputable abbrev R2:=V->V->Hp->VK->Prop
def b_(X:Cx)(f:cp->cp->Sem cp)(r:R2):Prop:=
 ∀(SW:Tf)(s:eC)(Z:St)(H:Hp)(x y:V)(v u:cp)(Q:VK),Inv X SW Z H s->RelV x v->RelV y u->r x y H Q->
  ft (fy X.prog X.w) X.A (f v u) (EP X SW Z Q) X.xe s
def UnR(X:Cx)(f:cp->Sem cp)(r:V->Hp->VK->Prop):Prop:=
 ∀(SW:Tf)(s:eC)(Z:St)(H:Hp)(x:V)(v:cp)(Q:VK),Inv X SW Z H s->RelV x v->r x H Q->
  ft (fy X.prog X.w) X.A (f v) (EP X SW Z Q) X.xe s
def bI(X:Cx)(f:cp)(r:List V->Hp->VK->Prop):Prop:=
 ∀(SW:Tf)(s:eC)(Z:St)(H:Hp)(xs:List V)(us:Ta)(Q:VK),Inv X SW Z H s->Vals xs us->r xs H Q->
  ft (fy X.prog X.w) X.A (call f us) (EP X SW Z Q) X.xe s
def TruR(X:Cx)(r:V->Hp->(Bool->Hp->Prop)->Prop):Prop:=
 ∀(SW:Tf)(s:eC)(Z:St)(H:Hp)(x:V)(v:cp)(Q:Bool->Hp->Prop),Inv X SW Z H s->RelV x v->r x H Q->
  ft (fy X.prog X.w) X.A (truthy v) (TP X SW Z Q) X.xe s
noncomputable def Lp(r:R2)(ta tb:TE):TE:=λZ H Q=>ta Z H λx H1=>tb Z H1 λy H2=>r x y H2 Q
noncomputable def tUn(r:V->Hp->VK->Prop)(ta:TE):TE:=λZ H Q=>ta Z H λx H1=>r x H1 Q
noncomputable def rI(C:Int->Int->Prop)(g:Int->Int->V):R2:=λx y H Q=>∃i j,x=.int i/\y=.int j/\C i j/\Q (g i j) H
noncomputable def Bq(g:Int->Int->V):R2:=λx y H Q=>∃i j,x=.int i/\y=.int j/\Q (g i j) H
def rU(g:Int->V):V->Hp->VK->Prop:=λx H Q=>∃i,x=.int i/\Q (g i) H
section
variable{a b:hB}{tc:TE}
theorem IH(F:PE X a ta)(G:PE X b tb){R:V->V->Hp->Prop}(I:Inv X SW Z H s)(h:ta Z H λx H1=>tb Z H1 λy H2=>R x y H2){f:cp->cp->Sem cp}(B:∀v u g x y H2,Inv X SW Z H2 g->RelV x v->RelV y u->R x y H2->ft (fy X.prog X.w) X.A (f v u) Q X.xe g):
  ft (fy X.prog X.w) X.A (h9 a X.env) (λv s₁=>ft (fy X.prog X.w) X.A (h9 b X.env) (λu s₂=>ft (fy X.prog X.w) X.A (f v u) Q X.xe s₂) X.xe s₁) X.xe s:=by
 exact bz (F _ s Z H _ I h) λv j ⟨x,H1,I1,n,z⟩=>bz (G SW j Z H1 _ I1 z) λu g ⟨y,H2,I2,l,q⟩=>B v u g x y H2 I2 n l q
theorem Lf{op:RQ}(n:b_ X (lu op) r)(z:PE X a ta)(B:PE X b tb):PE X (.BinOp a op b pos) (Lp r ta tb):=by
 intro SW s Z H Q I h;exact wpAny_BinOp (IH z B I h λv u j x y H2 I2 g l q=>n _ j Z H2 x y v u Q I2 g l q)
theorem Kn{op:UnaryOp}{r:V->Hp->VK->Prop}(n:UnR X (unaryOp op) r)(q:PE X a ta):PE X (.UnaryOp op a pos) (tUn r ta):=by
 intro SW s Z H Q I h;exact UnaryOp_ (bz (q _ s Z H _ I h)<|by rintro v l ⟨x,H1,I1,j,g⟩;exact n _ l Z H1 x v Q I1 j g)
theorem opI{f:cp->cp->Sem cp}{C:Int->Int->Prop}{g:Int->Int->Int}(l:∀(i j:Int)(t u:Tok)(s:eC)(Q:Te)(E:Te),C i j->Q (.int (g i j) s.toks) { s with toks:=s.toks+1 }->ft (fy X.prog X.w) X.A (f (.int i t)<|.int j u) Q E s):
  b_ X f (rI C λi j=>.int (g i j)):=by
 rintro SW s Z H x y v u Q I B n ⟨i,j,rfl,rfl,z,q⟩
 obtain⟨t,rfl⟩:=B;obtain⟨t',rfl⟩:=n;exact l i j t t' s _ _ z ⟨.int _,H,I.tok _,⟨_,rfl⟩,q⟩
theorem J8{f:cp->cp->Sem cp}{g:Int->Int->Int}(l:∀(i j:Int)(t u:Tok)(s:eC)(Q:Te)(E:Te),Q (.int (g i j) s.toks) { s with toks:=s.toks+1 }->ft (fy X.prog X.w) X.A (f (.int i t)<|.int j u) Q E s):
  b_ X f (Bq λi j=>.int (g i j)):=by
 rintro SW s Z H x y v u Q I z n ⟨i,j,rfl,rfl,q⟩
 obtain⟨t,rfl⟩:=z;obtain⟨t',rfl⟩:=n;exact l i j t t' s _ _ ⟨.int _,H,I.tok _,⟨_,rfl⟩,q⟩
theorem Ef{f:cp->cp->Sem cp}{g:Int->Int->Bool}(l:∀(i j:Int)(t u:Tok)(s:eC)(Q:Te)(E:Te),Q (.bool<|g i j) s->ft (fy X.prog X.w) X.A (f (.int i t)<|.int j u) Q E s):
  b_ X f (Bq λi j=>.bl (g i j)):=by
 rintro SW s Z H x y v u Q I z n ⟨i,j,rfl,rfl,q⟩
 obtain⟨t,rfl⟩:=z;obtain⟨t',rfl⟩:=n;exact l i j t t' s _ _ ⟨.bl _,H,I,rfl,q⟩
def KA(i j:Int):Prop:=0<=j/\j<=1000000/\i.natAbs<2 ^ 64
def CMul(i j:Int):Prop:=(-(2 ^ 64)<i/\i<2 ^ 64)\/(-(2 ^ 64)<j/\j<2 ^ 64)
theorem CMul.ok{i j:Int}(h:CMul i j):IntMulOk i j:=by
 rcases h with⟨l,g⟩|⟨l,g⟩
 .exact .of_left (intBits_le_64 l g)
 exact .of_right (intBits_le_64 l g)
theorem G8:b_ X (lu .Add) (Bq λi j=>.int (i+j)):=J8 λ_ _ _ _ _ _ _ q=>add_int q
theorem IU:b_ X (lu .Sub) (Bq λi j=>.int (i-j)):=J8 λ_ _ _ _ _ _ _ q=>sub_int q
theorem Gj:b_ X (lu .Mult) (rI CMul λi j=>.int (i*j)):=opI λ_ _ _ _ _ _ _ g q=>mul_int q g.ok
theorem Hg:b_ X (lu .Mod) (rI (λ_ j=>0<j) λi j=>.int (i % j)):=opI λi j _ _ _ _ _ g q=>by
 have l:(0:Int)<j:=g;exact mod_int' (by lia) (by rw[Int.fmod_eq_emod_of_nonneg i (by lia)];exact q)
theorem HV:b_ X (lu .Pow) (rI KA λi j=>.int (i ^ j.toNat)):=opI λ_ _ _ _ _ _ _ g q=>pow_int_small g.1 g.2.1 g.2.2 q
theorem Jl:b_ X (lu .BitXor) (Bq λi j=>.int (Builtin.bitXor i j)):=J8 λ_ _ _ _ _ _ _ q=>xor_int q
theorem unI{f:cp->Sem cp}{g:Int->Int}(j:∀(i:Int)(t:Tok)(s:eC)(Q:Te)(E:Te),Q (.int (g i) s.toks) { s with toks:=s.toks+1 }->ft (fy X.prog X.w) X.A (f<|.int i t) Q E s):
  UnR X f (rU λi=>.int (g i)):=by
 rintro SW s Z H x v Q I l ⟨i,rfl,q⟩
 obtain⟨t,rfl⟩:=l;exact j i t s _ _ ⟨.int _,H,I.tok _,⟨_,rfl⟩,q⟩
theorem HS:UnR X (unaryOp .USub) (rU λi=>.int (-i)):=unI λ_ _ _ _ _ q=>neg_int q
end
section
variable{a b:hB}{tc:TE}
theorem zA{Q:VK}{k g:Bool}(I:Inv X SW Z H s)(q:Q (.bl k) H)(e:k=g):EP X SW Z Q (.bool g) s:=by
 subst e;exact⟨.bl k,H,I,rfl,q⟩
theorem KQ:b_ X (g5 .Lt) (Bq λi j=>.bl (decide (i<j))):=Ef λ_ _ _ _ _ _ _ q=>lt_int q
theorem LM:b_ X (g5 .LtE) (Bq λi j=>.bl (decide (i<=j))):=Ef λ_ _ _ _ _ _ _ q=>le_int q
theorem KG:b_ X (g5 .Gt) (Bq λi j=>.bl (decide (j<i))):=Ef λ_ _ _ _ _ _ _ q=>gt_int q
theorem JA:b_ X (g5 .GtE) (Bq λi j=>.bl (decide (j<=i))):=Ef λ_ _ _ _ _ _ _ q=>ge_int q
theorem J0:b_ X (g5 .Is) (λx y H Q=>y=.non/\Q (.bl<|decide (x=.non)) H):=by
 intro SW s Z H x y v u Q I g j h;obtain⟨rfl,q⟩:=h;cases j;refine is_none_gen (zA I q ?_)
 cases x<;>first
  |(cases g;rfl)
  |(obtain⟨t,rfl⟩:=g;rfl)
theorem Cg:b_ X (g5 .IsNot) (λx y H Q=>y=.non/\Q (.bl<|!decide (x=.non)) H):=by
 rintro SW s Z H x y v u Q I g j ⟨rfl,q⟩
 cases j;refine isnot_none_gen (zA I q ?_)
 cases x<;>first
  |(rfl)
  |(obtain⟨t,rfl⟩:=g;rfl)
theorem Dm(n:b_ X (g5 op) r)(F:PE X a ta)(z:PE X b tb)(B:RV op b=eP):PE X (.Compare a [op] [b] pos) (Lp r ta tb):=by
 intro SW s Z H Q I h;exact wpAny_Compare1 (IH F z I h λv u j x y H2 I2 g l q=>n SW j Z H2 x y v u Q I2 g l q) B
noncomputable def Fq(t:TE):TT:=λZ H Q=>t Z H λx H'=>∃k,x=.bl k/\Q k H'
theorem C6(L:b_ X (g5 op) r)(S:PE X a ta)(O:PE X b tb)(R:RV op b=eP):PT X (.Compare a [op] [b] pos) (Fq<|Lp r ta tb):=by
 intro SW s Z H Q I h;refine wpAny_isTrue_Compare1 (bz (S _ s Z H _ I h) λv B ⟨x,H1,I1,l,F⟩=>bz (O _ B Z H1 _ I1 F) λu J ⟨y,H2,I2,G,n⟩=>
  bz (L _ J Z H2 x y v u _ I2 l G n) λc T g=>?_) R
 obtain⟨z,H3,I3,q,k,e,j⟩:=g;subst e;cases q;exact n7 ⟨H3,I3,j⟩
noncomputable def tN(r r':R2)(ta tb tc:TE):TE:=λZ H Q=>ta Z H λx H1=>tb Z H1 λy H2=>r x y H2 λz H3=>∃k,z=.bl k/\
 (if k=true then tc Z H3 λg H4=>r' y g H4 Q else Q (.bl eP) H3)
theorem yP{g:Sr}{q:R2}(ho:b_ X (g5 op) r)(j:b_ X (g5 g) q)(ha:PE X a ta)(hb:PE X b tb)(hc:PE X c tc)(hm:RT [op,g] [b,c]=false:=by with_unfolding_all rfl):PE X (.Compare a [op,g] [b,c] pos) (tN r q ta tb tc):=by
 intro SW s Z H Q I h;refine Compare_chain (bz (ha _ s Z H _ I h) λv O ⟨x,H1,I1,G,S⟩=>chain_link (bz (hb _ O Z H1 _ I1 S) λu s2 ⟨y,H2,I2,n,J⟩=>
  bz (ho _ s2 Z H2 x y v u _ I2 G n J) λd T B=>?_)) hm
 obtain⟨z,H3,I3,L,k,e,l⟩:=B;subst e;cases L;refine n7 ?_;cases k with
 |false=>exact ite_ff ⟨.bl _,H3,I3,rfl,l⟩
 |true=>exact ite_tt (chain_last<|bz (hc _ T Z H3 _ I3 l)<|by rintro W R ⟨U,H4,I4,Y,F⟩;exact j _ R Z H4 y U u W Q I4 n Y F)
theorem Aa{g:Sr}{q:R2}(ho:b_ X (g5 op) r)(j:b_ X (g5 g) q)(ha:PE X a ta)(hb:PE X b tb)(hc:PE X c tc)(hm:RT [op,g] [b,c]=false:=by with_unfolding_all rfl):PT X (.Compare a [op,g] [b,c] pos) (Fq<|tN r q ta tb tc):=by
 intro SW s Z H Q I h;refine isTrue_chain (bz (ha _ s Z H _ I h) λv S ⟨x,H1,I1,J,U⟩=>test_link (bz (hb _ S Z H1 _ I1 U) λu s2 ⟨y,H2,I2,n,L⟩=>
  bz (ho _ s2 Z H2 x y v u _ I2 J n L) λd Y B=>?_)) hm
 obtain⟨z,H3,I3,O,k,e,l⟩:=B;subst e;cases O;refine n7 ?_;cases k with
 |false=>
  obtain⟨k',e',G⟩:=l;cases e';exact ite_ff ⟨H3,I3,G⟩
 |true=>
  refine ite_tt (test_last (bz (hc _ Y Z H3 _ I3 l) λw' T ⟨z',H4,I4,r4,F⟩=>bz (j _ T Z H4 y z' u w' _ I4 n r4 F) λd' s5 ⟨z2,H5,I5,W,k2,R,q5⟩=>?_));subst R;cases W;exact n7 ⟨H5,I5,q5⟩
def Jb(K:Mi)(x:V)(H:Hp)(k:Bool):Prop:=
 match x with
 |.non=>k=eP
 |.bl b=>k=b
 |.int i=>k=(i != 0)
 |.str y=>y.length<=sizeLine/\k=((y.length:Int) != 0)
 |.byt y=>y.size<=sizeLine/\k=((y.size:Int) != 0)
 |.ref p=>(∃xs,SqL K H p xs/\k=!xs.isEmpty)\/(∃xs,jc K H p xs/\k=!xs.isEmpty)\/∃SY,H p=cb (.dK SY)/\k=!SY.isEmpty
 |_=>False
theorem uZ{g:Type}{SY:List (g×V)}{vs:List (g×cp)}(r:KV SY vs):(!vs.isEmpty)=!SY.isEmpty:=by
 cases r<;>rfl
theorem lN{xs:List V}{S3:Ta}(r:Vals xs S3):(!S3.toArray.isEmpty)=!xs.isEmpty:=by
 cases r<;>simp
theorem g9:(sizeLine:Nat)<2 ^ 63:=by trivial
theorem Ik:TruR X (λx H Q=>∃k,Jb X.K x H k/\Q k H):=by
 rintro SW s Z H x v Q I l ⟨k,e,q⟩
 have O:=g9;have R:sizeLine=16777216:=qa;cases x with
 |non=>
  cases l;have g:k=false:=e;subst g;exact truthy_none ⟨H,I,q⟩
 |bl b=>
  cases l;have g:k=b:=e;subst g;exact n7 ⟨H,I,q⟩
 |int i=>
  obtain⟨t,rfl⟩:=l;have g:k=(i != 0):=e;subst g;exact PySem.P.truthy_int ⟨H,I,q⟩
 |str y=>
  obtain⟨t,rfl⟩:=l;obtain⟨L,g⟩:y.length<=sizeLine/\k=((y.length:Int) != 0):=e;subst g;exact PySem.P.truthy_str (by lia) ⟨H,I.tok _,q⟩
 |byt y=>
  obtain⟨t,rfl⟩:=l;obtain⟨L,g⟩:y.size<=sizeLine/\k=((y.size:Int) != 0):=e;subst g;exact W.truthy_bytes (by lia) ⟨H,I.tok _,q⟩
 |ref p=>
  cases l;have g:=e;rcases g with⟨J,n,g⟩|⟨J,n,g⟩|⟨SY,n,g⟩
  .subst g
   obtain⟨B,r,pl,F⟩:=I.list n;have j:=r.length;exact wpAny_truthy_list pl.isList (by simp;lia) ⟨H,I.tok _,by rw[lN r];exact q⟩
  .subst g
   obtain⟨B,r,pl,F⟩:=I.tuple n;have j:=r.length;exact truthy_tuple pl (by simp;lia) ⟨H,I.tok _,by rw[lN r];exact q⟩
  subst g;obtain⟨F,G,z,r,m⟩:SY.length<=sizeLine/\(p==pt)=eP/\∃z,KV SY z/\s.heap.DictOf (aP X.prog X.w) p z:=I.hok p _ n;have j:SY.length=z.length:=NF r;exact wpAny_truthy_dict G m (by lia) ⟨H,I.tok _,by rw[uZ r];exact q⟩
 |_=>trivial
theorem Ag(y:PE X a ta)(q:∀g,SH a X.env g=(do let v <- g;R6 a.pos;K' [v] (truthy v))):
  PT X a (λZ H Q=>ta Z H λx H'=>∃k,Jb X.K x H' k/\Q k H'):=by
 intro SW s Z H Q I h;exact isTrue_plain (bz (y SW s Z H _ I h) λv j ⟨x,H1,I1,l,n⟩=>Ik SW j Z H1 x v Q I1 l n) (q _)
theorem uD:b_ X (lu .Add) (λx y H Q=>∃i j,x=.str i/\y=.str j/\i.length+j.length<=sizeLine/\Q (.str (i++j)) H):=by
 rintro SW s Z H x y v u Q I n l ⟨i,j,rfl,rfl,g,q⟩
 obtain⟨t,rfl⟩:=n;obtain⟨t',rfl⟩:=l;exact add_str (λt' z=>⟨.str _,H,I.tok _,⟨_,rfl⟩,q⟩) g
theorem iP{x:V}(r:Vals [x] us):∃u,us=[u]/\RelV x u:=by
 cases r with
 |cons r1 r2=>cases r2;exact⟨_,rfl,r1⟩
theorem Kj{x y:V}(r:Vals [x,y] us):∃u g,us=[u,g]/\RelV x u/\RelV y g:=by
 cases r with
 |cons r1 r2=>
  cases r2 with
  |cons r3 r4=>cases r4;exact⟨_,_,rfl,r1,r3⟩
theorem xz(l:X.calm=true):bI X (.builtin "min") (λxs H Q=>∃i j,xs=[.int i,.int j]/\Q (.int (if j<i then j else i)) H):=by
 rintro SW s Z H xs us Q I r ⟨i,j,rfl,q⟩
 obtain⟨u,v,rfl,⟨t,rfl⟩,⟨t',rfl⟩⟩:=Kj r;refine min_two_ints (I.ok.hd l) λh' n k=>⟨_,H,I.kept k,?_,q⟩
 by_cases g:j<i
 .rw[if_pos g,if_pos g];exact⟨_,rfl⟩
 rw[if_neg g,if_neg g];exact⟨_,rfl⟩
end
structure ObjM(h:ka)(x dx C:eH)(mA:Tg):Prop where
 obj:h.get? x=cb (Ox C dx)
 ns:h.Ns1 dx mA
 ne:dx≠x
theorem y0(n:h.Ns1 dx mA):∃l,h.get? dx=cb l/\∀g,W.lookIn g l=cb (mA g):=by
 obtain⟨o,es,L,v,F,B,_,J⟩:=n;refine⟨o,v,λg=>?_⟩;have e:=J g;unfold nsFind findBy at e;rw[<- Array.find?_toList]at e;unfold W.lookIn;rw[F];dsimp only
 split
 .rename_i y q
  rw[q]at e;exact congrArg _ e
 rename_i q
 rw[q]at e;have a:es.toList.any (·.refKey)=false:=by
  rw[List.any_eq_false];intro y I;obtain⟨z,t,j⟩:=B y (Array.mem_toList_iff.mp I);simp[DictEntry.refKey,j]
 have G:¬es.toList.any (·.refKey)=true:=by rw[a];exact Ot
 rw[if_neg G];exact congrArg _ e
theorem ObjM.look{x:eH}(I:ObjM h x dx C mA):∃j,W.InstAt h x (Ox C dx) C (cb j)/\∀g,W.lookIn g j=cb (mA g):=
 let ⟨j,ho,hl⟩:=y0 I.ns
 ⟨j,⟨I.obj,rfl,rfl,ho⟩,hl⟩
section
variable{prog:g4}{x:eH}{name:Str}{v:cp}
theorem D7{g:Bool}(X:K.In s.heap)(I:ObjM s.heap x dx C mA)(n:O0 K C name=true)(q:O7 K C=true)(y:Nq K (.ref C) name=cb ed)(z:mA name=cb v)(j:W.handedIn v=true)(h:Q v { s with toks:=s.toks+1 }):
  ft (fy prog w) A (getAttr (.ref x) name g) Q E s:=by
 obtain⟨B,J,l⟩:=I.look;exact W.get_value X J (Qv n).1 (W.findObj_own q y rfl<|by rw[l,z]) j h
theorem AB{Q:cp×List cp->eC->Prop}(X:K.In s.heap)(I:ObjM s.heap x dx C mA)(g:O0 K C name=true)(l:Nq K (.ref C) name=cb (cb<|.ref f))(n:W.isFn K (.ref f)=true)(y:mA name=ed)(h:Q (.ref f,[.ref x]) s):
  ft (fy prog w) A (Sf (.ref x) name pl) Q E s:=by
 obtain⟨j,J,q⟩:=I.look;exact W.method_fn X J (Qv g).1 (Qv g).2 l (beq_iff_eq.mp n) (by show (W.lookIn _ j).map _=cb _;simp_all) h
theorem C8{ns:S_}{Q:Unit->eC->Prop}(X:K.In s.heap)(I:ObjM s.heap x dx C mA)(S:Nq K (.ref C) "__setattr__"=cb (cb<|.builtin "object.__setattr__"))(O:P1 K C=true)(L:W.takerIn K C name=cb ed)(R:O7 K C=true)(T:Qm mA ns)(hsz:ns.length<=sizeLine)(h:∀h',ObjM h' x dx C (λy=>if y=name then cb v else mA y)->Nc dx s.heap h'->Q () { s with heap:=h',toks:=s.toks+2 }):
  ft (fy prog w) A (setAttr (.ref x) name v) Q E s:=by
 obtain⟨Y,J,hl⟩:=I.look;refine W.set_plain X J S (W.osa_open X J O L λb=>?_);obtain⟨cd,G,l⟩:=W.any_some R;refine cx (fx<|wpAny_bind<|wpAny_bind<|wpAny_loadPart I.obj<|wpAny_bind<|W.Looks.here (W.looks_clsIn X G) ?_);rw[l];refine fx (cx<|wpAny_pure<|wpAny_bind ?_);refine wpAny_nsSet1 I.ns λh' g j=>?_;obtain⟨U,B,F,q,n,z⟩:=g.count (PySem.Within.cons _ v T);exact cx (wpAny_lookBehind q (by rw[n];exact pastItsLine_dict (My z<|by rw[Md];lia))<|wpAny_pure<|h _ ⟨(j.2 _<|MJ I.ne).trans I.obj,g,I.ne⟩ j)
theorem zb{R:Si->eC->Prop}{vs:Ta}(X:K.In s.heap)(j:PL K C=true)(n:Nq K (.ref C) "__init__"=cb (cb<|.ref f))(l:W.typeIn K (.ref f)=cb (.type "function"))(h:vr (fy prog w) (A.under<|.builtin "type.__call__" ⟨.ref C::vs,kw⟩) (.call (.ref f) ⟨.ref (s.heap.objs.size+1)::vs,kw⟩) (W.InitBack (s.heap.objs.size+1) R)
   { s with heap:=(s.heap.push NZ).push (Ox C s.heap.objs.size) }):
  vr (fy prog w) A (.call (.ref C) ⟨vs,kw⟩) R s:=by
 obtain⟨q,g,d,t,y⟩:=s;exact W.make_core (W.makes_of X j) (W.looks_findIn X n) (λself=>W.bind_fn X self l) (.inl rfl) h
end
noncomputable def dy(f:Str)(v:V):List (Str×V)->List (Str×V)
 |[]=>[(f,v)]
 |(g,x)::r=>if g=f then (g,v)::r else (g,x)::dy f v r
theorem i_(f g:Str)(v:V):∀fs:List (Str×V),(dy f v fs).lookup g=if g=f then cb v else fs.lookup g
 |[]=>by
  show MU g [(f,v)]=_
  by_cases h:g=f
  .simp_all
  simp_all
 |(k,x)::r=>by
  rw[show dy f v _=(if k=f then (k,v)::r else (k,x)::dy f v r) from rfl]
  by_cases l:k=f
  .rw[if_pos l]
   by_cases h:g=k
   .have j:=beq_iff_eq.mpr h
    simp only[MU,j,if_pos (h.trans l)]
   have j:(g==k)=false:=beq_eq_false_iff_ne.mpr h;simp only[MU,j,if_neg (λe:g=f=>h (e.trans l.symm))]
  rw[if_neg l]
  by_cases h:g=k
  .have j:(g==k)=true:=beq_iff_eq.mpr h
   simp only[MU,j,if_neg (λe:g=f=>l (h.symm.trans e))]
  .have j:(g==k)=false:=beq_eq_false_iff_ne.mpr h
   simp only[MU,j];exact(i_ f g v r)
theorem ip(f:Str)(v:V):∀fs:List (Str×V),f∈(dy f v fs).map (·.1)/\∀g,g∈fs.map (·.1)->g∈(dy f v fs).map (·.1)
 |[]=>⟨by simp[dy],λg h=>by simp at h⟩
 |(k,x)::r=>by
  obtain⟨i1,i2⟩:=ip f v r;rw[show dy f v _=(if k=f then (k,v)::r else (k,x)::dy f v r) from rfl]
  by_cases j:k=f
  .simp_all
  rw[if_neg j];refine⟨?_,λg h=>?_⟩
  .exact MA _ i1
  rw[Ms]at h ⊢;rcases Mm.mp h with e|e
  .exact Mm.mpr (.inl e)
  .exact MA _ (i2 g e)
theorem iV(f:Str)(v:V):∀fs:List (Str×V),(dy f v fs).length<=fs.length+1
 |[]=>by simp[dy]
 |(k,x)::r=>by
  have j:=iV f v r;rw[show dy f v _=(if k=f then (k,v)::r else (k,x)::dy f v r) from rfl]
  by_cases g:k=f
  .simp_all
  simp_all
theorem eG{v:V}{o:Option cp}(r:RelO (cb v) o):∃u,o=cb u/\RelV v u:=by
 cases o with
 |none=>trivial
 |some u=>exact⟨u,rfl,r⟩
theorem qt{o:Option cp}(r:RelO ed o):o=none:=by
 cases o<;>trivial
theorem yc{v:V}(r:RelV v u):W.handedIn u=true:=by
 cases v with
 |non=>cases r;rfl
 |bl b=>cases r;rfl
 |int i=>obtain⟨t,e⟩:=r;cases e;rfl
 |str x=>obtain⟨t,e⟩:=r;cases e;rfl
 |byt b=>obtain⟨t,e⟩:=r;cases e;rfl
 |flt b=>obtain⟨t,e⟩:=r;cases e;rfl
 |ref a=>cases r;rfl
 |ty n=>cases r;rfl
section
variable{fs fs':List (Str×V)}
theorem jv(g:HOk P w H h)(e:H a=cb (.ins C dx fs)):∃mA,ObjM h a dx C mA/\(∀f,RelO (fs.lookup f) (mA f))/\Qm mA (fs.map (·.1))/\fs.length<=1000/\H dx=cb (.own a):=by
 obtain⟨d,z,ne,j,mA,n,r,q⟩:=(g a _ e);exact⟨mA,⟨j,n,ne⟩,r,q,z,d⟩
end
structure Cls(K:Mi)(C:eH):Prop where
 pg:O0 K C Str.empty=true
 hd:O7 K C=true
 po:P1 K C=true
 sa:Nq K (.ref C) "__setattr__"=cb (cb<|.builtin "object.__setattr__")
theorem Cls.get(c:Cls K C)(f:Str):O0 K C f=true:=c.pg
def NoAttr(K:Mi)(C:eH)(f:Str):Prop:=Nq K (.ref C) f=cb ed
theorem NoAttr.taker{f:Str}(n:NoAttr K C f):W.takerIn K C f=cb none:=by
 unfold W.takerIn;rw[n];rfl
structure Meth(K:Mi)(C:eH)(m:Str)(f:eH):Prop where
 at_:Nq K (.ref C) m=cb (cb<|.ref f)
 fn:W.isFn K (.ref f)=true
 kp:NN K (.ref f)=true
section
variable{fs:List (Str×V)}{f:Str}{v:V}
theorem sZ{b:Bool}(I:Inv X SW Z H s)(e:H a=cb (.ins C dx fs))(c:Cls X.K C)(n:NoAttr X.K C f)(l:fs.lookup f=cb v)(h:∀u j,Inv X SW Z H j->RelV v u->Q u j):ft (fy X.prog X.w) A (getAttr (.ref a) f b) Q E s:=by
 obtain⟨mA,O,r,_,_,_⟩:=jv I.hok e;obtain⟨u,q,g⟩:=eG (v:=v) (o:=mA f) (by grind)
 exact D7 I.kIn O (c.get f) c.hd n q (yc g) (h u _ (I.tok _) g)
theorem uv{g:eH}{Q:cp×List cp->eC->Prop}(I:Inv X SW Z H s)(e:H a=cb (.ins C dx fs))(c:Cls X.K C)(k:Meth X.K C m g)(l:fs.lookup m=ed)(h:Q (.ref g,[.ref a]) s):ft (fy X.prog X.w) A (Sf (.ref a) m pl) Q E s:=by
 obtain⟨mA,O,r,_,_,_⟩:=jv I.hok e;exact AB I.kIn O (c.get m) k.at_ k.fn (qt<|by rw[<- l];exact r m) h
theorem uY{y:V}{Q:Unit->eC->Prop}(I:Inv X SW Z H s)(e:H a=cb (.ins C dx fs))(c:Cls X.K C)(n:NoAttr X.K C f)(hl:fs.length<1000)(ry:RelV y u)(h:∀s',Inv X SW Z (upd H a<|.ins C dx<|dy f y fs) s'->Q () s'):ft (fy X.prog X.w) A (setAttr (.ref a) f u) Q E s:=by
 obtain⟨mA,O,r,wi,_,ho⟩:=jv I.hok e;have hz:(fs.map (·.1)).length<=sizeLine:=by rw[Mc,qa];lia
 refine C8 I.kIn O c.sa c.po n.taker c.hd wi hz λh' O' sb=>h _ ?_;have hd:∃o,h'.get? dx=cb o:=let ⟨o,_,_,e',_⟩:=O'.ns;⟨o,e'⟩;refine I.write (by rw[e];trivial) (.inr ho) (λb q hb z=>(sb.2 b hb).trans z) hd ?_
 refine⟨by rw[aC O.ne];exact ho,?_,O.ne,O'.obj,_,O'.ns,λg=>?_,λg hg=>?_⟩
 .have:=iV f y fs;lia
 .rw[i_]
  by_cases q:g=f
  .rw[if_pos q,if_pos q];exact ry
  simp_all
 by_cases q:g=f
 .rw[q];exact(ip f y fs).1
 refine (ip f y fs).2 g (wi g λz=>hg ?_);show (if g=f then cb u else mA g)=ed
 rw[if_neg q];exact z
theorem Inv.made(I:Inv X SW Z H s):Inv X SW Z (upd (upd H s.heap.objs.size<|.own (s.heap.objs.size+1)) (s.heap.objs.size+1)<|.ins C s.heap.objs.size [])
  { s with heap:=(s.heap.push NZ).push (Ox C s.heap.objs.size) }:=by
 have g:(s.heap.push NZ).get? s.heap.objs.size=cb NZ:=Mn s.heap rfl;have j:((s.heap.push NZ).push<|Ox C s.heap.objs.size).get? (s.heap.objs.size+1)=cb (Ox C s.heap.objs.size):=by
  have:=Mn (s.heap.push NZ) (o:=Ox C s.heap.objs.size) rfl
  rwa [Nb]at this
 have l:(s.heap.push NZ).Ns s.heap.objs.size (λ_=>ed):=⟨NZ,#[],_,g,rfl,(λe z=>absurd z (by simp)),λ_=>rfl⟩
 have I1:=I.laid (a:=s.heap.objs.size) (o:=.own (s.heap.objs.size+1)) (h':=s.heap.push NZ) (t':=s.toks) (λb u q=>Mb _ q) (Mo _) ⟨_,g⟩;refine I1.laid (a:=s.heap.objs.size+1) (o:=.ins C s.heap.objs.size []) (t':=s.toks) (λb u q=>Mb _ q) (Qz<|Nb _ _) ?_;have ne:s.heap.objs.size≠s.heap.objs.size+1:=Mt (PD _);refine⟨by rw[aC ne,upd_same],Nj _,ne,j,λ_=>ed,(Heap.Ns1.of_empty l).at λo q=>Mb _ q,λ_=>N7,λy n=>absurd rfl n⟩
theorem BI{prog:g4}{env:Env}{f:Str}(g:mu e f env (h9 e env)=h9 e env)(h:ft (fy prog w) A (h9 e env) (λo s₁=>ft (fy prog w) A (getAttr o f true) Q E s₁) E s):ft (fy prog w) A (h9 (.Attribute e f pos) env) Q E s:=
 Attribute_any_ h (by rw[arm_eval_Attribute,g])
end
noncomputable def tFld(K:Mi)(ta:TE)(f:Str):TE:=λZ H Q=>ta Z H λx H1=>∃a C dx fs v,x=.ref a/\H1 a=cb (.ins C dx fs)/\Cls K C/\NoAttr K C f/\fs.lookup f=cb v/\Q v H1
noncomputable def sFld(K:Mi)(ta tv:TE)(f:Str):TS:=λD Z H=>tv Z H λy H1=>ta Z H1 λx H2=>∃a C dx fs,x=.ref a/\H2 a=cb (.ins C dx fs)/\Cls K C/\NoAttr K C f/\fs.length<1000/\
 D.nx Z (upd H2 a<|.ins C dx<|dy f y fs)
section
variable{o value:hB}{f:Str}{tpos:Pos}{tv:TE}
theorem Hm(F:PE X e ta)(G:mu e f X.env (h9 e X.env)=h9 e X.env):PE X (.Attribute e f pos) (tFld X.K ta f):=by
 intro SW s Z H Q I h;refine BI G (bz (F _ s Z H _ I h) λu J g=>?_);obtain⟨x,H1,I1,y,a,C,dx,fs,v,B,z,c,n,l,q⟩:=g;subst B;obtain rfl:u=MD a:=y;exact sZ I1 z c n l λO L I2 j=>⟨v,H1,I2,j,q⟩
theorem Ib(O:PE X o ta)(R:PE X value tv)(L:pv value (cb<|.Attribute o f pos') pos.line X.env=pure eP):PS X (.Assign [.Attribute o f pos'] value pos) (sFld X.K ta tv f):=by
 intro SW s Z H D I h;refine plainObj_wpAny_Assign_Attribute (bz (R _ s Z H _ I h) λu z ⟨y,H1,I1,j,q⟩=>bz (O _ z Z H1 _ I1 q) λJ T g=>?_) L;obtain⟨x,H2,I2,B,a,C,dx,fs,G,F,c,n,l,v⟩:=g;subst G;obtain rfl:J=MD a:=B;exact uY I2 F c n l j λS I3=>⟨Z,_,I3,v⟩
end
section
variable{c:cp}{b:Bool}
inductive TyOf(K:Mi)(H:Hp):V->cp->Prop where
 |non:TyOf K H .non (.type "NoneType")
 |bl (x:Bool):TyOf K H (.bl x) (.type "bool")
 |int (i:Int):TyOf K H (.int i) (.type "int")
 |str (x:Str):TyOf K H (.str x) (.type "str")
 |flt (x:UInt64):TyOf K H (.flt x) (.type "float")
 |lst {a:eH} {xs:List V} (e:H a=cb (.lst xs)):TyOf K H (.ref a) (.type "list")
 |frz {a:eH} {o:Obj} {xs:List V} (e:H a=cb (.frz o<|.lst xs)):TyOf K H (.ref a) (.type "list")
 |tup {a:eH} {xs:List V} (e:H a=cb (.tup xs)):TyOf K H (.ref a) (.type "tuple")
 |dK {a:eH} {SY:List (bh×V)} (e:H a=cb (.dK SY)):TyOf K H (.ref a) (.type "dict")
 |dT {a:eH} {SY:List (List bh×V)} (e:H a=cb (.dT SY)):TyOf K H (.ref a) (.type "dict")
 |ins {a C dx:eH} {fs:List (Str×V)} (e:H a=cb (.ins C dx fs)) (cl:Cls K C) (ha:Nq K (.ref C) "__class__"=cb (cb<|.builtin "object.__class__"))
   (hn:W.specialIn K (.builtin "object.__class__") "__get__"=cb (cb<|.builtin "getset_descriptor.__get__")) (htk:W.takesIn K (.builtin "object.__class__")=cb true)
   (hm:W.mroIn K C (.type "object")=cb true):TyOf K H (.ref a) (.ref C)
theorem xF{x:V}{t:cp}(I:Inv X SW Z H s)(g:RelV x u)(ty:TyOf X.K H x t)(e:W.kitOne X.K t c=cb b)(h:∀F,Q (.bool b) { s with toks:=F }):
  ft (fy X.prog X.w) A (call (.builtin "isinstance") [u,c]) Q E s:=by
 cases ty with
 |non=>cases (show u=Nl from g);exact N6 W.kitx_none I.kIn N7 e (λz=>nomatch z) h
 |bl y=>cases (show u=QO y from g);exact N6 W.kitx_bool I.kIn N7 e (λz=>nomatch z) h
 |int i=>obtain⟨t,q⟩:=(show ∃t,u=Qd i t from g);cases q;exact N6 W.kitx_int I.kIn N7 e (λz=>nomatch z) h
 |str y=>obtain⟨t,q⟩:=(show ∃t,u=Qc y t from g);cases q;exact N6 W.kitx_str I.kIn N7 e (λz=>nomatch z) h
 |flt y=>obtain⟨t,q⟩:=(show ∃t,u=Value.float y t from g);cases q;exact N6 W.kitx_float I.kIn N7 e (λz=>nomatch z) h
 |@lst a l ea=>
  cases (show u=MD a from g);obtain⟨_,_,n,_,j⟩:=(show ObjOk X.prog X.w H s.heap a (.lst l) from I.hok a _ ea);exact N6 W.kitx_list I.kIn ⟨_,j,rfl⟩ e (λz=>nomatch z) h
 |@frz a ob l ea=>
  cases (show u=MD a from g);obtain⟨_,_,_,n,_,j⟩:=(show ObjOk X.prog X.w H s.heap a (.frz ob<|.lst l) from I.hok a _ ea);exact N6 W.kitx_list I.kIn ⟨_,j,rfl⟩ e (λz=>nomatch z) h
 |@tup a l ea=>
  cases (show u=MD a from g);obtain⟨_,_,_,p⟩:=(show ObjOk X.prog X.w H s.heap a (.tup l) from I.hok a _ ea);obtain⟨o,j,⟨v,_⟩,_⟩:=p;exact N6 W.kitx_tuple I.kIn ⟨o,j,v⟩ e (λz=>nomatch z) h
 |@dK a SY ea=>
  cases (show u=MD a from g);obtain⟨_,_,G,_,p⟩:=(show ObjOk X.prog X.w H s.heap a (.dK SY) from I.hok a _ ea);obtain⟨o,es,B,j,v,_⟩:=p;exact N6 W.kitx_dict I.kIn ⟨o,j,v.1⟩ e (λz=>nomatch z) h
 |@dT a SY ea=>
  cases (show u=MD a from g);obtain⟨_,_,l,_,o,es,B,j,v,_⟩:=(show ObjOk X.prog X.w H s.heap a (.dT SY) from I.hok a _ ea);exact N6 W.kitx_dict I.kIn ⟨o,j,v.1⟩ e (λz=>nomatch z) h
 |@ins a C dx fs ea cl ha hn htk hm=>
  cases (show u=MD a from g);obtain⟨mA,O,_⟩:=jv I.hok ea;obtain⟨L,J,_⟩:=O.look;exact N6 (W.kitx_own (cl.get _) cl.hd ha hn htk hm) I.kIn J e (λz=>nomatch z) h
end
structure Room(k:Nat)(A:kL):Prop where
 hd:A.handled=ed
 dp:A.depth+3*k+5<recursionLimit
 un:A.units+16*k+200<mv
 gd:A.guards=cb []
theorem Room.mono{j k:Nat}(r:Room k A)(h:j<=k):Room j A:=⟨r.hd,by have:=r.dp;lia,by have:=r.un;lia,r.gd⟩
theorem Room.deeper{k:Nat}(r:Room (k+1) A)(env:Env):Room k (A.deeper env):=
 ⟨r.hd,by have:=r.dp;show A.depth+1+3*k+5<_;lia,by have:=r.un;show A.units+3+16*k+200<_;lia,r.gd⟩
theorem ut:(A.under<|.builtin "type.__call__" ⟨.ref C::us,kw⟩).depth=A.depth+1:=by
 rfl
theorem uB:(A.under<|.builtin "type.__call__" ⟨.ref C::us,kw⟩).units=A.units+1:=by
 rfl
theorem F9:(A.under<|.builtin "type.__call__" ⟨.ref C::us,kw⟩).guards=A.guards:=by
 rfl
theorem Room.make{k:Nat}(r:Room (k+1) A)(C:eH)(us:Ta)(kw:List (Str×cp)):Room k (A.under<|.builtin "type.__call__" ⟨.ref C::us,kw⟩):=
 ⟨r.hd,by have:=r.dp;rw[ut];lia,by have:=r.un;rw[uB];lia,by exact r.gd⟩
theorem Room.depth{k:Nat}(r:Room k A):A.depth<recursionLimit:=by have:=r.dp;lia
theorem Room.units{k:Nat}(r:Room k A):A.units+64<cLine:=by have:=r.un;lia
noncomputable def tNil:TA:=λ_ H Q=>Q [] H
noncomputable def Jz(ta:TE)(tr:TA):TA:=λZ H Q=>ta Z H λx H1=>tr Z H1 λg H2=>Q (x::g) H2
section
variable{t:TA}
theorem zP:PA X [] tNil:=λ_ _ _ _ H Q I h=>Ph ⟨[],H,I,.nil,h⟩
theorem wV(y:PE X e te)(z:PA X es t)(v:eT (e::es) X.env=(eP,h9 e X.env)::eT es X.env:=by rfl):PA X (e::es) (Jz te t):=by
 intro pos SW s Z H Q I h;rw[v];show ft _ _ (spliced ((eP,h9 e _)::lq _ _)) _ _ s;exact O9 (bz (y _ s Z H _ I h)<|by rintro u l ⟨x,H1,I1,g,q⟩;exact(bz (z _ _ l Z H1 _ I1 q)<|by rintro us B ⟨F,H2,I2,n,j⟩;exact⟨_,H2,I2,.cons g n,j⟩))
noncomputable def tTup(t:TA):TE:=λZ H Q=>t Z H λg H1=>g.length<=sizeLine/\∀p,H1 p=ed->Q (.ref p) (upd H1 p<|.tup g)
noncomputable def tLst(t:TA):TE:=λZ H Q=>t Z H λg H1=>g.length<=sizeLine/\∀p,H1 p=ed->Q (.ref p) (upd H1 p<|.lst g)
theorem Gy{x1}(h:PA X es t):PE X (.Tuple es x1 pos) (tTup t):=by
 intro SW s Z H Q I g;refine wpAny_Tuple_spliced (bz (h _ _ s Z H _ I g) λus l ⟨j,H1,I1,r,z,q⟩=>⟨by rw[<- r.length];exact z,?_⟩)
 refine⟨.ref _,_,I1.laid (λb u e=>Mb _ e) (Mo _) ?_,rfl,q _<|I1.hok.fresh<|Mo _⟩;exact⟨z,us,r,⟨_,Mn _ rfl,⟨rfl,_,rfl⟩,rfl⟩⟩
theorem Gb(h:PA X es t):PE X (.List es pos) (tLst t):=by
 intro SW s Z H Q I g;refine wpAny_List_spliced (bz (h _ _ s Z H _ I g) λus l ⟨j,H1,I1,r,z,q⟩=>⟨by rw[<- r.length];exact z,?_⟩)
 refine⟨.ref _,_,I1.laid (λb u e=>Mb _ e) (Mo _) ?_,rfl,q _<|I1.hok.fresh<|Mo _⟩;exact⟨z,us,0,r,Mn _ rfl⟩
end
noncomputable abbrev Sp:=List V->Hp->VK->XK->Prop
noncomputable abbrev pT:=List Env->Hp->eC->XK->cp->eC->Prop
structure Env0(P:g4)(w:kB)(K:Mi)(mg:Tg)(base:ka)(A:kL)(outer:List Env)(s:eC)(H:Hp):Prop where
 frames:A.frames=cb outer
 mod:Mod K mg base
 bs:∀b o,base.get? b=cb o->s.heap.get? b=cb o/\H b=ed
 bsz:base.objs.size<=s.heap.objs.size
 funs:s.heap.FunFrames base outer
 frf:∀b∈gn outer,H b=ed
 hok:HOk P w H s.heap
 bare:PP s.gens
def CE(outer:List Env)(P:g4)(w:kB)(H:Hp)(s:eC)(Q:VK)(u:cp)(s':eC):Prop:=
 ∃v H',s'.os=s.os/\PP s'.gens/\Un (gn outer) [] H H' s.heap s'.heap/\HOk P w H' s'.heap/\RelV v u/\Q v H'
def CR(CX:pT)(outer:List Env)(P:g4)(w:kB)(H:Hp)(s:eC)(Q:VK)(E:XK)(r:Si)(s':eC):Prop:=
 match r with
 |.ok (.ret u)=>CE outer P w H s Q u s'
 |.ok _=>False
 |.error e=>CX outer H s E e s'
structure FnOk(P:g4)(w:kB)(K:Mi)(mg:Tg)(base:ka)(CX:pT)(k:Nat)(f:eH)(fd:k6)(ps:S_)(sp:Sp):Prop where
 len:∀vs H Q E,sp vs H Q E->vs.length=ps.length
 run:∀(A:kL)(outer:List Env)(s:eC)(H:Hp)(args:Args)(us:Ta)(vs:List V)(Q:VK)(E:XK),Room k A->Env0 P w K mg base A outer s H->Sl s fd args (ps.zip us)->Vals vs us->sp vs H Q E->
  vr (fy P w) A (.call (.ref f) args) (CR CX outer P w H s Q E) s
theorem FnOk.imp{k:Nat}{l:Sp}(F:FnOk P w K mg base CX k f fd ps sp)(h:∀vs H Q E,l vs H Q E->sp vs H Q E):FnOk P w K mg base CX k f fd ps l:=
 ⟨λvs H Q E q=>F.len vs H Q E (h _ _ _ _ q),λA g s H j us vs Q E n v z y B=>F.run A g s H j us vs Q E n v z y (h _ _ _ _ B)⟩
theorem Env0.make{g:List Env}(e:Env0 P w K mg base A g s H)(C:eH)(us:Ta)(kw:List (Str×cp)):
  Env0 P w K mg base (A.under<|.builtin "type.__call__" ⟨.ref C::us,kw⟩) g s H:=⟨by first|exact e.frames|rfl,e.mod,e.bs,e.bsz,e.funs,e.frf,e.hok,e.bare⟩
section
variable{s':eC}
theorem Inv.env0(I:Inv X SW Z H s):Env0 X.prog X.w X.K X.mg X.base X.A X.stack s H:=
 ⟨I.ok.frames,I.ok.mod,I.bs,My I.ok.bsz I.sz,I.stack,I.stkFree,I.hok,I.bare⟩
theorem Inv.after{Q:VK}(I:Inv X SW Z H s)(h:CE X.stack X.prog X.w H s Q u s'):EP X SW Z Q u s':=by
 obtain⟨v,H',os,j,un,l,r,q⟩:=h;obtain⟨y,g,d,t,n⟩:=s';obtain rfl:n=s.os:=os;exact⟨v,H',I.call (h':=y) (g':=g) (d':=d) (t':=t) (ch:=[]) un l j (λb z=>absurd z (by simp)),r,q⟩
end
noncomputable def LN(sp:Sp)(dvs:List V)(E:XK)(t:TA):TE:=λZ H Q=>t Z H λg H1=>sp (g++dvs) H1 Q E
noncomputable def LF(C:eH)(m:Str)(sp:Sp)(dvs:List V)(E:XK)(ta:TE)(t:TA):TE:=λZ H Q=>ta Z H λx H1=>∃a dx fs,x=.ref a/\H1 a=cb (.ins C dx fs)/\fs.lookup m=ed/\
 t Z H1 λg H2=>sp (x::(g++dvs)) H2 Q E
noncomputable def JS(C:eH)(sp:Sp)(dvs:List V)(E:XK)(t:TA):TE:=λZ H Q=>t Z H λg H1=>∀x dx,H1 x=ed->H1 dx=ed->dx≠x->
 sp (.ref x::(g++dvs)) (upd (upd H1 dx<|.own x) x<|.ins C dx []) (λv H2=>v=.non/\Q (.ref x) H2) E
def Binds(K:Mi)(fd:k6)(ps:S_)(ds:Ta):Prop:=
 ∀(s:eC)(us:Ta),K.In s.heap->(us++ds).length=ps.length->Sl s fd ⟨us,[]⟩ (ps.zip (us++ds))
theorem Binds.all(h:∀us:List cp,us.length=ps.length->bindArgs fd ⟨us,[]⟩=pure (ps.zip us)):Binds K fd ps []:=λs us _ g=>by
 rw[Mq]at g ⊢;exact .of_eq (h us g)
def cj(CX:pT)(X:Cx)(E:XK):Prop:=∀(SW:Tf)(Z:St)(H:Hp)(s:eC)(e:cp)(s':eC),Inv X SW Z H s->CX X.stack H s E e s'->X.xe e s'
section
variable{k:Nat}{dvs:List V}{ds:Ta}{E:XK}{S2:Pos}{o:hB}{t:TA}
theorem zw{Q:VK}{vs:List V}(F:FnOk X.prog X.w X.K X.mg X.base CX k f fd ps sp)(y:Room k X.A)(z:Binds X.K fd ps ds)(v:Vals dvs ds)(q:cj CX X E)(I:Inv X SW Z H s)(r:Vals vs us)(h:sp (vs++dvs) H Q E):ft (fy X.prog X.w) X.A (call (.ref f) us) (EP X SW Z Q) X.xe s:=by
 have j:Vals (vs++dvs) (us++ds):=r.append v;have l:(us++ds).length=ps.length:=by rw[<- j.length];exact F.len _ _ _ _ h
 refine Sm (qz (F.run X.A X.stack s H ⟨us,[]⟩ (us++ds) (vs++dvs) Q E y I.env0 (z s us I.kIn l) j h) λr n g=>?_);cases r with
 |error e=>exact q SW Z H s e n I g
 |ok fl=>
  cases fl with
  |ret u=>exact I.after g
  |next=>exact NJ g
  |brk=>exact NJ g
  |cont=>exact NJ g
theorem E5(F:FnOk X.prog X.w X.K X.mg X.base CX k f fd ps sp)(v:Room k X.A)(y:Gl X x)(z:X.mg x=cb (.ref f))(j:NN X.K (.ref f)=true)(n:Binds X.K fd ps ds)(l:Vals dvs ds)(B:cj CX X E)(G:PA X (e::es) t)(g:(x==("__debug__":Str))=false:=by decide)(he:eT (e::es) X.env=(eP,h9 e X.env)::eT es X.env:=by rfl)(hpl:(lq pos<|starEach es X.env).any (·.1)=false:=by rfl):
  PE X (.Call (.Name x p) (e::es) [] pos) (LN sp dvs E t):=by
 intro SW s Z H Q I h;exact o4 (fE I y z (PB (h₀:=X.base) I.ok.mod.kin j (bz (G pos SW s Z H _ I h)<|by rintro us L ⟨J,H1,I1,r,q⟩;exact⟨I1.kIn,zw F v n l B I1 r q⟩) he hpl) g)
theorem El(T:PE X o ta)(c:Cls X.K C)(j:Meth X.K C m f)(F:FnOk X.prog X.w X.K X.mg X.base CX k f fd ps sp)(O:Room k X.A)(L:Binds X.K fd ps ds)(J:Vals dvs ds)(R:cj CX X E)(S:PA X (e::es) t)(g:eT (e::es) X.env=(eP,h9 e X.env)::eT es X.env:=by rfl)(hpl:(lq pos<|starEach es X.env).any (·.1)=false:=by rfl)(ht:h9 (.Call (.Attribute o m S2) (e::es) [] pos) X.env=(do
   let ov <- h9 o X.env
   R6 S2.atName
   let (f,first) <- K' [ov] (Sf ov m pl)
   callWith pos f first (lq pos<|starEach (e::es) X.env) (Os pos<|keywordEach [] X.env)):=by rfl):
  PE X (.Call (.Attribute o m S2) (e::es) [] pos) (LF C m sp dvs E ta t):=by
 intro SW s Z H Q I h;refine W.methodCall_KW (pl:=pl) (bz (T SW s Z H _ I h) λu y n=>?_) ht;obtain⟨x,H1,I1,z,a,dx,fs,G,B,l,q⟩:=n;subst G;obtain rfl:u=MD a:=z;refine uv I1 B c j l ?_;refine PB (first:=[.ref a]) (h₀:=X.base) I.ok.mod.kin j.kp (bz (S pos SW y Z H1 _ I1 q) λus U ⟨vs,H2,I2,r,v⟩=>⟨I2.kIn,?_⟩) g hpl
 exact zw (us:=.ref a::us) (vs:=.ref a::vs) F O L J R I2 (.cons rfl r) v
structure Mk(K:Mi)(C f:eH):Prop where
 makes:PL K C=true
 init:Nq K (.ref C) "__init__"=cb (cb<|.ref f)
 fn:W.isFn K (.ref f)=true
 kp:NN K (.ref C)=true
theorem zL{Q:VK}{vs:List V}(M:Mk X.K C f)(F:FnOk X.prog X.w X.K X.mg X.base CX k f fd ps sp)(L:Room (k+1) X.A)(O:Binds X.K fd ps ds)(J:Vals dvs ds)(G:cj CX X E)(I:Inv X SW Z H s)(r:Vals vs us)(h:∀x dx,H x=ed->H dx=ed->dx≠x->sp (.ref x::(vs++dvs)) (upd (upd H dx<|.own x) x<|.ins C dx []) (λv H2=>v=.non/\Q (.ref x) H2) E):
  ft (fy X.prog X.w) X.A (call (.ref C) us) (EP X SW Z Q) X.xe s:=by
 have l:=h _ _ (I.hok.fresh<|PK _) (I.hok.fresh<|Mo _) (Mt<|PD _);have I2:=Inv.made (C:=C) I;have j:Vals (V.ref (s.heap.objs.size+1)::(vs++dvs)) _:=.cons rfl (r.append J);have B:(MD (s.heap.objs.size+1)::us++ds).length=ps.length:=by
  have e:=j.length;rw[F.len _ _ _ _ l]at e;exact e.symm
 refine Sm (zb I.kIn M.makes M.init (beq_iff_eq.mp M.fn) (qz (F.run _ _ _ _ _ _ _ _ E (L.make C us [])
  (I2.env0.make C us []) (O _ _ I2.kIn B) j l) λr y g=>?_))
 cases r with
 |error e=>exact G _ Z _ _ e y I2 g
 |ok fl=>
  cases fl with
  |ret u=>
   obtain⟨v,H',I3,q,z,n⟩:=I2.after g;subst z;exact⟨q,⟨V.ref _,H',I3,rfl,n⟩⟩
  |next=>assumption
  |brk=>assumption
  |cont=>assumption
theorem EA(M:Mk X.K C f)(F:FnOk X.prog X.w X.K X.mg X.base CX k f fd ps sp)(n:Room (k+1) X.A)(v:Gl X x)(y:X.mg x=cb (.ref C))(l:Binds X.K fd ps ds)(j:Vals dvs ds)(z:cj CX X E)(B:PA X (e::es) t)(g:(x==("__debug__":Str))=false:=by decide)(he:eT (e::es) X.env=(eP,h9 e X.env)::eT es X.env:=by rfl)(hpl:(lq pos<|starEach es X.env).any (·.1)=false:=by rfl):
  PE X (.Call (.Name x p) (e::es) [] pos) (JS C sp dvs E t):=by
 intro SW s Z H Q I h;exact o4 (fE I v y (PB (h₀:=X.base) I.ok.mod.kin M.kp (bz (B pos SW s Z H _ I h)<|by rintro us J ⟨G,H1,I1,r,q⟩;exact⟨I1.kIn,zL M F n l j z I1 r q⟩) he hpl) g)
end
section
variable{k:Nat}{ks:S_}{E:XK}{S2 kpos:Pos}{o:hB}{kws:List B'}{t tk:TA}{nm:Option Str}
variable{g:List cp->List cp->List cp}{gV:List V->List V->List V}
end
structure FnScope(N P:S_)(sc:L'):Prop where
 kind:sc.kind=.function
 co:sc.isCoroutine=eP
 gen:sc.isGenerator=eP
 nd:N.Nodup
 pre:N.take P.length=P
 par:∀x∈P,sc.names.lookup x=cb .local\/sc.names.lookup x=cb .cell
 nofree:∀y∈sc.names,y.2≠.free
theorem nr{g:Str->Option Sq}{x:Str}:∀{binds:List (Str×cp)}{m:Tg},(∀v,(x,v)∉binds)->SO g binds m x=m x
 |[],_,_=>rfl
 |(n,v)::r,m,h=>by
  unfold SO;rw[nr λw j=>h w (MA _ j)]
  split
  .have:x≠n:=by rintro rfl;exact h v Nh
   simp[this]
  rfl
theorem nP{g:Str->Option Sq}{x:Str}:∀{binds:List (Str×cp)}{m:Tg},(∀v,(x,v)∉binds)->SQ g binds m x=m x
 |[],_,_=>rfl
 |(n,v)::r,m,h=>by
  unfold SQ;rw[nP λw j=>h w (MA _ j)]
  split
  .rfl
  have:x≠n:=by rintro rfl;exact h v Nh
  simp[this]
theorem o6{kindOf:Str->Option Sq}{x:Str}{v:cp}:∀{P:S_}{vs:Ta}{i:Nat}{m:Tg},P.Nodup->P[i]?=cb x->vs[i]?=cb v->kindOf x=cb .local->
  SO kindOf (P.zip vs) m x=cb v
 |[],_,_,_,_,h,_,_=>by simp at h
 |_::_,[],_,_,_,_,h,_=>by simp at h
 |p::P,w::vs,0,m,nd,h1,h2,hk=>by
  simp at h1 h2;subst h1 h2;show SO _ ((p,w)::P.zip vs) m p=_;unfold SO;rw[nr λv hv=>(Nr.mp nd).1 (OR hv).1,if_pos hk];simp
 |p::P,w::vs,i+1,m,nd,h1,h2,hk=>by
  unfold SO;exact o6 (Nr.mp nd).2 (by trivial) (by trivial) hk
theorem nS{kindOf:Str->Option Sq}{x:Str}{v:cp}:∀{P:S_}{vs:Ta}{i:Nat}{m:Tg},P.Nodup->P[i]?=cb x->vs[i]?=cb v->kindOf x≠cb .local->
  SQ kindOf (P.zip vs) m x=cb v
 |[],_,_,_,_,h,_,_=>by simp at h
 |_::_,[],_,_,_,_,h,_=>by simp at h
 |p::P,w::vs,0,m,nd,h1,h2,hk=>by
  simp at h1 h2;subst h1 h2;show SQ _ ((p,w)::P.zip vs) m p=_;unfold SQ;rw[nP λv hv=>(Nr.mp nd).1 (OR hv).1,if_neg hk];simp
 |p::P,w::vs,i+1,m,nd,h1,h2,hk=>by
  unfold SQ;exact nS (Nr.mp nd).2 (by trivial) (by trivial) hk
noncomputable def start(N:S_)(vs:List V):St:=vs.map cb++Mh (N.length-vs.length) ed
noncomputable def dY(CX:pT)(P:g4)(w:kB)(K:Mi)(mg:Tg)(base:ka)(N:S_)(SX:Str)(scope:L')(f:eH)(cd:cp)(A:kL)(outer:List Env)(s:eC)(H:Hp)(E:XK):Cx where
 prog:=P
 w:=w
 K:=K
 mg:=mg
 base:=base
 A:=A.deeper (envOfC SX scope s.heap.objs.size f cd)
 N:=N
 s₀:=s
 H₀:=H
 env:=envOfC SX scope s.heap.objs.size f cd
 outer:=outer
 stack:=envOfC SX scope s.heap.objs.size f cd::outer
 ex:=[]
 calm:=true
 fn:=λ_=>true
 pn:=[]
 xe:=λe j=>ft (fy P w) (A.deeper<|envOfC SX scope s.heap.objs.size f cd) (leaving (envOfC SX scope s.heap.objs.size f cd) e) (λ_ g=>CX outer H s E e g) (λl g=>CX outer H s E l g) j
theorem rJ{sc:L'}{n:Nat}(h:sc.names.lookup x=cb .cell):∃c,(cellsFrom n sc.names []).lookup x=cb c:=by
 exact Option.isSome_iff_exists.mp (W.cellsFrom_some _ n []<|.inl h)
theorem ye{l:Str}{g:L'}{L:cp}{j:List Env}{U:eC}{E:XK}{vs:List V}(S:FnScope N ps g)(hd:A.handled=ed)(n:Env0 P w K mg base A j s H)(hl:vs.length=ps.length)(r:Vals vs us)(x:InCallC s s.heap.objs.size (SO (envOfC l g s.heap.objs.size f L).kindOf (ps.zip us) λ_=>ed) (cellsFrom (s.heap.objs.size+1) g.names []) (SQ (envOfC l g s.heap.objs.size f L).kindOf (ps.zip us) λ_=>ed) U):
  Inv (dY CX P w K mg base N l g f L A j s H E) [] (start N vs) H U:=by
 have hpl:ps.length<=N.length:=by have:=congrArg MI S.pre;rw[OF]at this;lia
 obtain⟨J,tk,rfl,R⟩:=x.done;have F:∀b:eH,b∉(dY CX P w K mg base N l g f L A j s H E).ex:=λb z=>absurd (show b∈[] from z) (by simp)
 refine⟨⟨n.mod,S.kind,rfl,rfl,Mo _,λy z c J B=>?_,λy hy=>?_,λy c _ h=>?_,λ_=>hd,Around.frames_deeper n.frames,.inr ⟨rfl,rfl⟩,λb z=>absurd z (F b),n.bs,n.bsz,λb _ _=>F b,λb z=>absurd z (F b),n.funs,n.frf⟩,
  rfl,n.bare,Un.kept R,⟨_,x.toInCall.ns,λi y v J B h3=>?_⟩,λy c h=>⟨_,x.cell y c h⟩,n.hok.fresh (Mo _),λy c h=>?_,λp G=>absurd (show p∈[] from G) (by simp),n.hok.kept R,?_⟩
 .exact name_of_addr x.apart (Nu J) (Nu B)
 .rcases hy with hy|hy
  .exact rJ hy
  exact absurd rfl (S.nofree _<|Nu hy)
 .exact NS (x.above y c<|Nu h)
 .have O:i<vs.length:=by
   unfold start at B
   by_cases O:i<vs.length
   .exact O
   rw[MP (by simpa using O)]at B
   rw[OI]at B
   split at B<;>cases B
  have Y:vs[i]?=cb v:=by
   unfold start at B;rw[N3 (by simp_all)]at B
   cases e:vs[i]?<;>simp_all
  obtain⟨u,T,W⟩:=r.get Y;have G:ps[i]?=cb y:=by
   rw[<- S.pre,Qk (by lia)];exact J
  have I:ps.Nodup:=by rw[<- S.pre];exact S.nd.sublist (List.take_sublist _ _)
  refine⟨u,W,?_⟩;rcases S.par y (NI G) with k|k
  .exact .inl ⟨k,o6 I G T k⟩
  obtain⟨c,e⟩:=rJ k;refine .inr ⟨.inl k,c,e,?_⟩;have q:=x.cell y c e;rw[nS I G T (by show g.names.lookup y≠_;rw[k];decide)]at q
  exact q
 .exact n.hok.fresh (NS<|x.above y c<|Nu h)
 unfold start;show _=N.length;rw[Mg,Mc,QB];lia
theorem Ln{k:Nat}{G l:Str}{B:Arguments}{g:L'}{dV kV doc pm z ct oc:cp}{an od:Option eH}{osl:Array (Option cp)}(lk:K.lookup f=cb ⟨oc,od,.func (O8 G l B body g dV kV doc pm an z ct),osl⟩)(hcd:W.codeIn K z l=true)(S:FnScope N ps g)(len:∀vs H Q E,sp vs H Q E->vs.length=ps.length)(O:∀(A:kL)(j:List Env)(s:eC)(H:Hp)(vs:List V)(Q:VK)(E:XK),Room k (A.deeper<|envOfC l g s.heap.objs.size f z)->sp vs H Q E->
   ∃t,wD (dY CX P w K mg base N l g f z A j s H E) body t/\t { nx:=λ_ H'=>Q .non H',rt:=Q } (start N vs) H):
  FnOk P w K mg base CX (k+1) f (O8 G l B body g dV kV doc pm an z ct) ps sp:=by
 refine⟨len,λA j s H args us vs Q E hr U hb r T=>?_⟩;have hl:=len _ _ _ _ T;have KX:K.In s.heap:=U.mod.kin.keeps λb o e=>(U.bs b o e).1;have lim:s.heap.NoLimit:=U.mod.nolimit.keeps λb o e=>(U.bs b o e).1;have L:∀y∈ps.zip us,g.names.lookup y.1=cb .local\/(g.names.lookup y.1=cb .cell/\((cellsFrom (s.heap.objs.size+1) g.names []).lookup y.1).isSome=true):=λ⟨n,v⟩ hy=>by
  rcases S.par n (OR hy).1 with q|q
  .exact .inl q
  .exact .inr ⟨q,W.cellsFrom_some _ _ _<|.inl q⟩
 refine codeAny_call_function hr.depth (KX _ _ lk) rfl S.co S.gen rfl (W.codeRec_of KX hcd) (hb _ _ _ _ ?_);refine wpAny_newFunctionEnv_cells S.kind L λenv he s1 x=>?_;subst he;refine⟨lim.keeps x.toInCall.keep,codeAny_func ?_⟩;obtain⟨t,ht,hq⟩:=O A j s H vs Q E (hr.deeper _) T;have I:Inv (dY CX P w K mg base N l g f z A j s H E) [] (start N vs) H s1:=ye S hr.hd U hl r x;refine l' (ht [] s1 (start N vs) H _ I hq) (λfl s' R=>?_) λe s' R=>R;have Y:∀{F:St}{H':Hp}{v:V}{u:cp},Inv (dY CX P w K mg base N l g f z A j s H E) [] F H' s'->RelV v u->Q v H'->CE j P w H s Q u s':=
  λ{F H' v u} J rv q=>⟨v,H',J.os,J.bare,J.base,J.hok,rv,q⟩
 cases fl with
 |ret u=>
  obtain⟨v,F,H',J,rv,q⟩:=R;exact Y J rv q
 |next=>
  obtain⟨F,H',J,q⟩:=R;exact Y (v:=V.non) (u:=Nl) J rfl q
 |brk=>
  obtain⟨_,_,_,q⟩:=R;exact NJ q
 |cont=>
  obtain⟨_,_,_,q⟩:=R;exact NJ q
section
variable{t:TA}{id T:String}{r:List V->Hp->VK->Prop}
noncomputable def tCB(r:List V->Hp->VK->Prop)(t:TA):TE:=λZ H Q=>t Z H λg H1=>r g H1 Q
theorem Ac(B:bI X (.builtin id) r)(v:Gl X x)(y:X.mg x=ed)(F:g3 x=cb (.builtin id))(z:PA X (e::es) t)(q:x≠"__name__":=by decide)(hdb:(x==("__debug__":Str))=false:=by decide)(he:eT (e::es) X.env=(eP,h9 e X.env)::eT es X.env:=by rfl)(hpl:(lq pos<|starEach es X.env).any (·.1)=false:=by rfl):PE X (.Call (.Name x p) (e::es) [] pos) (tCB r t):=by
 intro SW s Z H Q I h;refine o4 (dD I v y F ?_ q hdb);exact O2 (bz (z pos SW s Z H _ I h) λus n ⟨j,H1,I1,l,g⟩=>B SW n Z H1 j us Q I1 l g) he hpl
theorem yx(B:bI X (.type T) r)(v:Gl X x)(y:X.mg x=ed)(F:g3 x=cb (.type T))(z:PA X (e::es) t)(q:x≠"__name__":=by decide)(hdb:(x==("__debug__":Str))=false:=by decide)(he:eT (e::es) X.env=(eP,h9 e X.env)::eT es X.env:=by rfl)(hpl:(lq pos<|starEach es X.env).any (·.1)=false:=by rfl):PE X (.Call (.Name x p) (e::es) [] pos) (tCB r t):=by
 intro SW s Z H Q I h;refine o4 (dD I v y F ?_ q hdb);exact MS (bz (z pos SW s Z H _ I h) λus n ⟨j,H1,I1,l,g⟩=>B SW n Z H1 j us Q I1 l g) he hpl
end
end _2
namespace HT
open PySem PyProof.Rows
section
open PySem.SeqAt
open PySem.AutoSeq1 (wpAny_loadPart')
open PySem.MeetsSeq PySem.MeetsSeq2 PySem.MeetsSeq3
end
section
variable {prog:g4}{w:kB}{A:kL}{E:Te}{s:eC}
theorem DL{t b:eH}{vs a:Ta}{Q:Te}(z:IsTup s.heap t vs.toArray)(x:IsTup s.heap b a.toArray)(v:vs≠[])
  (y:a=[]->Q (.ref t) s) (h2:a≠[]->Q (.ref s.heap.objs.size) { s with heap:=s.heap.push { cls:=.type "tuple",data:=.seq (vs++a).toArray } })
  (hsz:vs.length+a.length<=sizeLine):ft (fy prog w) A (lu .Add (.ref t)<|.ref b) Q E s:=by
 obtain⟨⟨cls,u,data,q⟩,j,r,n,o⟩:=id z;obtain⟨⟨p,h,m,i⟩,c,f,n2,g⟩:=id x;simp only at r o f g;subst r o f g;have e:vs.toArray++a.toArray=(vs++a).toArray:=by simp
 by_cases l:a=[]
 .exact SI ⟨_,j,rfl⟩ ⟨_,c,rfl⟩ Se Su OE Oz (Ow _ _)
   (tuple_addW1 t b vs.toArray a.toArray n n2 u h q i (by simpa using v)<|by simp[l]) ⟨j,c,y l⟩
 .refine SI ⟨_,j,rfl⟩ ⟨_,c,rfl⟩ Se Su OE Oz (Ow _ _)
   (tuple_addW2 t b vs.toArray a.toArray n n2 u h q i (by simpa using v) (by simpa using l)<|by rw[Mr,Mr];exact hsz) ⟨j,c,?_⟩
  rw[e];exact h2 l
noncomputable def sIx(n d:Nat):Option Int->Nat
 |none=>d
 |some v=>if v<0 then (v+(n:Int)).toNat else min v.toNat n
theorem kz(n d:Nat):sIx n d ed=d:=rfl
theorem wK(n d k:Nat):sIx n d (cb (k:Int))=min k n:=by
 rfl
theorem sIx_le(n d:Nat)(a:d<=n)(o:Option Int):sIx n d o<=n:=by
 cases o with
 |none=>exact a
 |some v=>
  show (if v<0 then (v+n).toNat else min _ n)<=n
  lia
theorem xb(v:Int)(n d:Nat):(if v<0 then max (v+(n:Int)) 0 else min v (n:Int))=((sIx n d (cb v):Nat):Int):=by
 show (if v<0 then max _ 0 else min v _)=(if v<0 then (v+(n:Int)).toNat else min v.toNat n)
 lia
theorem uW(a b:Option Int)(n:Nat):Pf a b 1 (n:Int)=(((sIx n 0 a:Nat):Int),((sIx n n b:Nat):Int)):=by
 refine QI ?_ ?_
 .cases a with
  |none=>rfl
  |some v=>exact xb v n 0
 cases b with
 |none=>rfl
 |some v=>exact xb v n n
theorem uw(i j:Nat):Of (i:Int) (j:Int) 1=j-i:=by
 unfold Of
 split<;>lia
theorem my{v:cp}{o:Option Int}{Q:Option Int->eC->Prop}(p:RS v o)(h:Q o s):ft (fy prog w) A (Builtin.Slice.slicePartIndex v) Q E s:=by
 cases p with
 |none=>exact slicePart_none h
 |int i t=>exact slicePart_int h
theorem dP{g:eH}{f i:cp}{a e:Option Int}{n:Nat}{Q:Int×Int×Nat->eC->Prop}(m:s.heap.IsSliceOf g f i .none)(pl:RS f a)(l:RS i e)
  (h:Q (((sIx n 0 a:Nat):Int),1,sIx n n e-sIx n 0 a) s):ft (fy prog w) A (Builtin.Slice.sliceApplied (.ref g)<|pure (n:Int)) Q E s:=by
 obtain⟨o,b,j,c⟩:=id m;refine cx (cx<|wpAny_field b c rfl<|wpAny_bind<|wpAny_field b c rfl<|wpAny_bind<|wpAny_field b c rfl<|wpAny_pure ?_);refine cx (slicePart_none ?_);refine cx (my pl<|wpAny_bind<|my l<|wpAny_bind<|wpAny_pure ?_);show ft _ _ (match Pf a e 1 _ with|(a,e)=>pure (a,(1:Int),Of a e 1)) _ _ s
 rw[uW a e n];show ft _ _ (pure _) _ _ s;rw[uw];exact fx h
theorem zK(xs:Th)(i k:Nat):((NV k).filterMap λ(m:Nat)=>xs[((i:Int)+(m:Int)*1).toNat]?).toArray=((xs.toList.drop i).take k).toArray:=by
 have e:(λ(m:Nat)=>xs[(i+(m:Int)*1).toNat]?)=λm=>xs[i+m]?:=by
  funext m;have:(i+(m:Int)*1).toNat=i+m:=by lia
  rw[this]
 rw[e];have:=pick_run xs i k;have a:((λx=>xs[x]?) ∘ λx=>i+x)=λm=>xs[i+m]?:=rfl
 simp_all
theorem gM{t m:eH}{a:Th}{n p:cp}{b e:Option Int}{Q:Te}(f:IsTup s.heap t a)(o:s.heap.IsSliceOf m n p .none)(pl:RS n b)(v:RS p e)
  (x:¬(sIx a.size 0 b=0/\sIx a.size a.size e=a.size))
  (h:Q (.ref s.heap.objs.size) { s with heap:=s.heap.push { cls:=.type "tuple",data:=.seq ((a.toList.drop<|sIx a.size 0 b).take (sIx a.size a.size e-sIx a.size 0 b)).toArray } })
  (hsz:a.size<=sizeLine):ft (fy prog w) A (RU (.ref t)<|.ref m) Q E s:=by
 have c:sizeOk (.seq ((a.toList.drop<|sIx a.size 0 b).take (sIx a.size a.size e-sIx a.size 0 b)).toArray):=by
  show ((a.toList.drop _).take _).toArray.size<=sizeLine;rw[Mr,OF,List.length_drop,MY];lia
 obtain⟨u,l,g,r⟩:=id o;have j:s.TypeIs (.ref m) _:=⟨u,l,g⟩;unfold RU
 try with_reducible refine lb ?_
 refine cx (wpAny_sequenceKey f.typeIs (by decide) ?_)
 refine cx (wpAny_callSpecial?_slot f.typeIs MT
  (F' MT f.typeIs entry_tuple_getitem ?_<|args_tuple_getitem _ _))
 show ft _ _ (Pb _ >>= _) _ _ s;refine cx (tupleItemsOf_ f ?_);refine cx (M_ j ?_);refine cx (dP o pl v ?_);have i:¬((((sIx a.size 0 b):Int)==0&&(1:Int)==1&&(sIx a.size a.size e-sIx a.size 0 b)==a.size)=true):=by
  intro q;rw[Mx,Mx]at q;have z:=eq_of_beq q.1.1;have y:=eq_of_beq q.2;exact x ⟨by lia,by lia⟩
 show ft _ _ (if (((sIx _ 0 b):Int)==0&&1==1&&(sIx _ _ e-sIx _ 0 b)==a.size)=true then _ else _) _ _ s
 rw[if_neg i,zK]
 first
  |exact cx (R5 (fx ⟨_,rfl,fx h⟩) c)
  |rfl
  |rfl
  |rfl
end
end HT
namespace _2
open PySem PySem.Spec PyProof.Rows
variable{a b:eH}{A:kL}{X:Cx}{e o:hB}{H H':Hp}{SW:Tf}{xs:List (List bh×eH×cp)}{S3:Ta}{n t':Nat}{pos:Pos}{P:g4}{s:eC}{Z:St}{α:Type}{u:cp}{E Q:Te}{w:kB}
noncomputable abbrev TO:=St->Hp->(Option Int->Hp->Prop)->Prop
def PO(X:Cx)(e:Option hB)(t:TO):Prop:=
 ∀(SW:Tf)(s:eC)(Z:St)(H:Hp)(Q:Option Int->Hp->Prop),Inv X SW Z H s->t Z H Q->
  ft (fy X.prog X.w) X.A (evalPart e X.env) (λu c=>∃o H',Inv X SW Z H' c/\RS u o/\Q o H') X.xe s
noncomputable def CQ:TO:=λ_ H Q=>Q ed H
noncomputable def L5(t:TE):TO:=λZ H Q=>t Z H λx H1=>∃i,x=.int i/\Q (cb i) H1
section
variable{te:TE}{lo hi:Option hB}{tl th:TO}{p2:Pos}
theorem BZ:PO X ed CQ:=by
 intro SW s Z H Q I h;exact fx ⟨_,H,I,.none,h⟩
theorem C9(h:PE X e te):PO X (cb e) (L5 te):=by
 intro SW s Z H Q I g;refine bz (h _ s Z H _ I g) λu l c=>?_;obtain⟨x,H1,I1,f,j⟩:=c;obtain⟨i,rfl,q⟩:=j;obtain⟨t,rfl⟩:=f;exact⟨_,H1,I1,.int i t,q⟩
def La(X:Cx)(r:V->Option Int->Option Int->Hp->VK->Prop):Prop:=
 ∀(SW:Tf)(s:eC)(Z:St)(H:Hp)(x:V)(v vl vu:cp)(lo hi:Option Int)(sl:eH)(Q:VK),Inv X SW Z H s->RelV x v->s.heap.IsSliceOf sl vl vu .none->RS vl lo->RS vu hi->r x lo hi H Q->
  ∃T id,N_ (.type T) "__getitem__"=pure (cb<|.builtin id)/\s.TypeIs v T/\ft (fy X.prog X.w) X.A (RU v<|.ref sl) (EP X SW Z Q) X.xe s
noncomputable def tSl(r:V->Option Int->Option Int->Hp->VK->Prop)(te:TE)(tl th:TO):TE:=λZ H Q=>te Z H λx H1=>tl Z H1 λl H2=>th Z H2 λu H3=>r x l u H3 Q
theorem AF{r:V->Option Int->Option Int->Hp->VK->Prop}(L:La X r)(K:PE X e te)(M:PO X lo tl)(N:PO X hi th):PE X (.Subscript e (.Slice lo hi ed p2) pos) (tSl r te tl th):=by
 intro SW s Z H Q I h;refine Subscript_ (bz (K SW s Z H _ I h) λv C ⟨x,H1,I1,m,F⟩=>?_);refine wpAny_Slice (bz (M SW C Z H1 _ I1 F) λg G ⟨l,H2,I2,B,p⟩=>bz (N SW G Z H2 _ I2 p) λf c ⟨u,H3,I3,y,i⟩=>?_);rw[evalPart_none];refine fx ?_;have I4:Inv X SW Z H3 { c with heap:=c.heap.push { cls:=.type "slice",data:=.fields #[g,f,.none] } }:=I3.kept (t':=c.toks) λb O q=>Mb _ q;obtain⟨T,id,j,z,J⟩:=L SW { c with heap:=c.heap.push { cls:=.type "slice",data:=.fields #[g,f,.none] } } Z H3 x v g f l u c.heap.objs.size Q I4 m (Heap.IsSliceOf.new ..) B y i;show ft (fy X.prog X.w) X.A (subscriptTail e (.Slice lo hi ed p2) v<|.ref c.heap.objs.size) (EP X SW Z Q) X.xe { c with heap:=c.heap.push { cls:=.type "slice",data:=.fields #[g,f,.none] } };exact tail_any (ops:=[.ref c.heap.objs.size,v]) z j J (by with_unfolding_all rfl)
noncomputable def mP(xs:List V)(lo hi:Option Int):List V:=(xs.drop<|HT.sIx xs.length 0 lo).take (HT.sIx xs.length xs.length hi-HT.sIx xs.length 0 lo)
theorem iX(xs:List V)(lo hi:Option Int):(mP xs lo hi).length<=xs.length:=by
 unfold mP;rw[OF,List.length_drop];lia
def rSlT(K:Mi):V->Option Int->Option Int->Hp->VK->Prop:=λx lo hi H Q=>∃a xs,x=.ref a/\jc K H a xs/\
 ¬(HT.sIx xs.length 0 lo=0/\HT.sIx xs.length xs.length hi=xs.length)/\∀p,H p=ed->Q (.ref p) (upd H p<|.tup<|mP xs lo hi)
theorem HC:La X (rSlT X.K):=by
 rintro SW s Z H x v C z lo hi y Q I j l i h ⟨a,xs,rfl,m,p,q⟩
 cases j;obtain⟨S3,r,f,g⟩:=I.tuple m;have c:S3.toArray.size=xs.length:=by exact r.length.symm
 refine⟨_,_,MT.lookup,f.typeIs,?_⟩;refine HT.gM f l i h (by rw[c];exact p) ?_ (by simp_all)
 rw[c];refine⟨.ref _,_,I.laid (λb B q=>Mb _ q) (Mo _) ?_,rfl,q _<|I.hok.fresh<|Mo _⟩;exact⟨My (iX xs lo hi) g,_,(r.drop _).take _,⟨_,Mn _ rfl,⟨rfl,_,rfl⟩,rfl⟩⟩
noncomputable def LV(K:Mi):R2:=λx y H Q=>∃a b xs ys,x=.ref a/\y=.ref b/\jc K H a xs/\jc K H b ys/\xs≠[]/\xs.length+ys.length<=sizeLine/\
 (ys=[]->Q (.ref a) H)/\(ys≠[]->∀p,H p=ed->Q (.ref p) (upd H p<|.tup (xs++ys)))
theorem Vals.nil_iff{xs:List V}{us:Ta}(r:Vals xs us):us=[]↔xs=[]:=by
 cases r<;>simp_all
theorem B_:b_ X (lu .Add) (LV X.K):=by
 rintro SW s Z H x y v u Q I m i ⟨a,b,xs,F,rfl,rfl,l,r,B,g,p,h⟩
 cases m;cases i;obtain⟨S3,c,j,_⟩:=I.tuple l;obtain⟨f,r2,p2,_⟩:=I.tuple r;refine HT.DL j p2 (λz=>B (c.nil_iff.mp z)) (λz=>⟨.ref a,H,I,rfl,p<|r2.nil_iff.mp z⟩) (λz=>?_) (by rw[<- c.length,<- r2.length];exact g)
 refine⟨.ref _,_,I.laid (λb C q=>Mb _ q) (Mo _) ?_,rfl,h (λw=>z (r2.nil_iff.mpr w)) _<|I.hok.fresh<|Mo _⟩;exact⟨by simp_all,_,c.append r2,⟨_,Mn _ rfl,⟨rfl,_,rfl⟩,rfl⟩⟩
end
noncomputable def wJ(n:Nat)(i:Int):Option Nat:=if 0<=i then (if i<n then cb i.toNat else ed) else if -(n:Int)<=i then cb (i+n).toNat else ed
noncomputable def atI{α:Type}(xs:List α)(i:Int):Option α:=(wJ xs.length i).bind λj=>xs[j]?
theorem oQ{i:Int}{j:Nat}(h:wJ n i=cb j):seqIndex? i n=cb j/\j<n/\-(n:Int)<=i/\i<n:=by
 unfold wJ at h
 by_cases f:0<=i
 .rw[if_pos f]at h
  by_cases c:i<n
  .rw[if_pos c]at h
   have e:=MQ h;exact⟨by rw[SL f c,e],by lia,by lia,c⟩
  simp_all
 rw[if_neg f]at h
 by_cases c:-n<=i
 .rw[if_pos c]at h
  have e:=MQ h;exact⟨by rw[SF (by lia) c,e],by lia,c,by lia⟩
 rw[if_neg c]at h;cases h
theorem qq{xs:List α}{i:Int}{v:α}(h:atI xs i=cb v):∃j,seqIndex? i xs.length=cb j/\xs[j]?=cb v/\j<xs.length/\-(xs.length:Int)<=i/\i<xs.length:=by
 unfold atI at h;cases e:wJ xs.length i with
 |none=>simp_all
 |some j=>
  rw[e]at h;obtain⟨l,f,c,g⟩:=oQ e;exact⟨j,l,h,f,c,g⟩
def og(b:hB):Prop:=∀o i,subscripted b eP o i=operate [o,i] (RU o i)
def IxR(X:Cx)(r:R2):Prop:=
 ∀(value slice:hB)(SW:Tf)(s:eC)(Z:St)(H:Hp)(x y:V)(v u:cp)(Q:VK),Inv X SW Z H s->RelV x v->RelV y u->r x y H Q->
  subscripted slice eP v u=operate [v,u] (RU v u)->ft (fy X.prog X.w) X.A (subscriptTail value slice v u) (EP X SW Z Q) X.xe s
def um(X:Cx)(id:String)(r:V->List V->Hp->VK->Prop):Prop:=
 ∀(SW:Tf)(s:eC)(Z:St)(H:Hp)(x:V)(xs:List V)(v:cp)(us:Ta)(Q:VK),Inv X SW Z H s->RelV x v->Vals xs us->r x xs H Q->
  ft (fy X.prog X.w) X.A (call (.builtin id) (v::us)) (EP X SW Z Q) X.xe s
section
variable{a b:hB}{ta tb:TE}
theorem IxR.or{r l:R2}(h:IxR X r)(h':IxR X l):IxR X (λx y H Q=>r x y H Q\/l x y H Q):=by
 intro f c SW s Z H x y v u Q I i g q j;rcases q with q|q
 .exact h _ _ _ s Z H x y v u Q I i g q j
 exact h' _ _ _ s Z H x y v u Q I i g q j
theorem KU{r:R2}(l:IxR X r)(i:PE X a ta)(m:PE X b tb)(j:og b):PE X (.Subscript a b pos) (Lp r ta tb):=by
 intro SW s Z H Q I h;exact Subscript_ (IH i m I h λv u f x y H2 I2 c g q=>l a b SW f Z H2 x y v u Q I2 c g q (j _ _))
noncomputable def LD(K:Mi):R2:=λx y H Q=>∃p xs i v,x=.ref p/\y=.int i/\SqL K H p xs/\atI xs i=cb v/\Q v H
noncomputable def LL(K:Mi):R2:=λx y H Q=>∃p xs i v,x=.ref p/\y=.int i/\jc K H p xs/\atI xs i=cb v/\Q v H
noncomputable def K_:R2:=λx y H Q=>∃z i c,x=.str z/\y=.int i/\z.length<=sizeLine/\atI z.cps.toList i=cb c/\Q (.str ⟨#[c]⟩) H
theorem ix_list:IxR X (LD X.K):=by
 intro m g SW s Z H x y v u Q I S N h J;obtain⟨p,xs,i,z,rfl,rfl,L,O,q⟩:=h;cases S;obtain⟨t,rfl⟩:=N;obtain⟨S3,r,B,W⟩:=I.list L;obtain⟨j,f,M,Y,T,R⟩:=qq O;obtain⟨w,F,C⟩:=r.get M;have U:=r.length;have hn:=g9;have c:EP X _ Z Q w s:=⟨z,H,I,C,q⟩
 by_cases G:0<=i
 .have l:i.toNat=j:=by
   rw[SL G R]at f;exact MQ f
  exact item_listR B.isList G (by lia) (by rw[l];simpa using F) c J
 have l:(i+S3.toArray.size).toNat=j:=by
  rw[SF (by lia) T]at f
  rw[Mr,<- U];exact MQ f
 exact SC B.isList.typeIs slot_list_getitem.lookup
  (wpAny_getItem_list_neg B.isList (by lia) (by rw[Mr]<;>lia) (by lia) (by rw[l];simpa using F) ⟨rfl,c⟩) J
theorem ix_tup:IxR X (LL X.K):=by
 intro f c SW s Z H x y v u Q I M J h N;obtain⟨p,xs,i,z,rfl,rfl,C,L,q⟩:=h;cases M;obtain⟨t,rfl⟩:=J;obtain⟨S3,r,m,O⟩:=I.tuple C;obtain⟨j,G,F,R,U,S⟩:=qq L;obtain⟨w,B,l⟩:=r.get F;have T:=g9;have g:EP X _ Z Q w s:=⟨z,H,I,l,q⟩
 exact SC m.typeIs slot_tuple_getitem.lookup
  (getItem_tuple m (by lia) (by lia) (by rw[Mr,<- r.length];exact G) (by simpa using B) ⟨rfl,g⟩) N
theorem Af:IxR X K_:=by
 intro g f SW s Z H x y v u Q I G p h L;obtain⟨z,i,c,rfl,rfl,N,B,q⟩:=h;obtain⟨t,rfl⟩:=G;obtain⟨t',rfl⟩:=p;obtain⟨j,l,m,M,J,C⟩:=qq B;have K:z.cps.toList.length=z.length:=by rfl
 rw[K]at l J C;have O:=g9;exact tail_any (Sn s z t) slot_str_getitem.lookup (getItem_str (by
  have r:decide (i < -(2 ^ 63))=false:=decide_eq_false (by lia)
  have F:decide (i>=2 ^ 63)=false:=decide_eq_false (by lia)
  rw[r,F,Bool.or_false]) (by rw[l];simpa using m) ⟨.str _,H,I.tok _,⟨_,rfl⟩,q⟩) L
noncomputable def rIx(K:Mi):R2:=λx y H Q=>LD K x y H Q\/LL K x y H Q\/K_ x y H Q
theorem Hq:IxR X (rIx X.K):=ix_list.or (ix_tup.or Af)
theorem tI(S3:Ta)(n j:Nat)(u:cp):Nm (·.setIfInBounds j u) { cls:=.type "list",data:=.seq S3.toArray n }={ cls:=.type "list",data:=.seq (S3.set j u).toArray n }:=by
 simp[Nm]
theorem Inv.lst{SW:Tf}{Z:St}{H:Hp}{s:eC}{p:eH}{xs:List V}(I:Inv X SW Z H s)(h:H p=cb (.lst xs)):
  ∃(S3:Ta)(n:Nat),Vals xs S3/\s.heap.get? p=cb { cls:=.type "list",data:=.seq S3.toArray n }/\xs.length<=sizeLine:=by
 obtain⟨z,S3,n,r,e⟩:=I.hok p _ h;exact⟨_,n,r,e,z⟩
theorem Inv.lstUpd{p:eH}{xs ys:List V}{its':Ta}{n':Nat}{f:Obj->Obj}(I:Inv X SW Z H s)(h:H p=cb (.lst xs))(ho:s.heap.get? p=cb { cls:=.type "list",data:=.seq S3.toArray n })(hf:f { cls:=.type "list",data:=.seq S3.toArray n }={ cls:=.type "list",data:=.seq its'.toArray n' })(r:Vals ys its')(hz:ys.length<=sizeLine)(t:Nat):
  Inv X SW Z (upd H p<|.lst ys) { s with heap:=s.heap.update p f,toks:=t }:=by
 have e:(s.heap.update p f).get? p=cb { cls:=.type "list",data:=.seq its'.toArray n' }:=by
  rw[NT f ho (by rw[hf]<;>rfl),hf]
 refine I.write (x:=p) (e:=p) (by rw[h];trivial) (.inl rfl) (λb u hb q=>(ON _ _<|MJ hb).trans q) ⟨_,e⟩ ?_
 exact⟨hz,its',n',r,e⟩
def JK:V->V->V->Hp->(Hp->Prop)->Prop:=λo i v H Q=>∃p xs k j,o=.ref p/\i=.int k/\H p=cb (.lst xs)/\wJ xs.length k=cb j/\Q (upd H p<|.lst<|xs.set j v)
theorem AV:Hw X JK:=by
 rintro SW s Z H o i v J L u Q I y G z ⟨p,xs,k,j,rfl,rfl,m,F,q⟩
 cases y;obtain⟨t,rfl⟩:=G;obtain⟨S3,n,r,f,C⟩:=I.lst m;obtain⟨c,K,l,B⟩:=oQ F;have x:=r.length;have M:=g9;have I':Inv X _ Z _ _:=
  I.lstUpd m f (tI _ n j u) (r.set z j) (by rw[List.length_set];exact C) s.toks
 by_cases h:0<=k
 .have g:k.toNat=j:=by
   rw[SL h B]at c;exact MQ c
  exact W.ki_setAt f h (by lia) (by simp_all) (by rw[g];exact⟨_,I',q⟩)
 have g:(k+S3.toArray.size).toNat=j:=by
  rw[SF (by lia) l]at c
  rw[Mr,<- x];exact MQ c
 exact W.ki_setBack f (by lia) (by rw[Mr,<- x];exact l) (by lia) (by rw[g];exact⟨_,I',q⟩)
theorem ou(c f:Option Int)(n:Nat):(Pi c f ed n).1=((HT.sIx n 0 c:Nat):Int)/\(Pi c f ed n).2.1=((HT.sIx n n f:Nat):Int)/\(Pi c f ed n).2.2=1:=by
 refine⟨?_,?_,rfl⟩
 .cases c with
  |none=>rfl
  |some i=>
   simp[Pi,HT.sIx,if_true];lia
 cases f with
 |none=>simp[Pi,HT.sIx]
 |some i=>
  simp only[Pi,HT.sIx,Option.getD_none,if_true]
  by_cases h:i<0
  .simp only[h,if_true]<;>lia
  simp only[h,if_false]<;>lia
theorem mO(S3:Ta)(c f:Option Int):slicePick S3.toArray c f ed=((S3.drop<|HT.sIx S3.length 0 c).take (HT.sIx S3.length S3.length f-HT.sIx S3.length 0 c)).toArray:=by
 obtain⟨i,h,g⟩:=ou c f _;unfold slicePick;rw[i,h,g];simp only[sliceRange_one,pick_run]<;>rfl
def rSlL(K:Mi):V->Option Int->Option Int->Hp->VK->Prop:=λx c f H Q=>∃a xs,x=.ref a/\SqL K H a xs/\∀p,H p=ed->Q (.ref p) (upd H p<|.lst<|mP xs c f)
theorem wt:La X (rSlL X.K):=by
 rintro SW s Z H x v F B y l z Q I j m i h ⟨a,xs,rfl,p,q⟩
 cases j;obtain⟨S3,r,f,g⟩:=I.list p;have c:=r.length;refine⟨_,_,slot_list_getitem.lookup,f.isList.typeIs,?_⟩;refine wpAny_getItem_list_slice f.isList m i h .none (by simp) ?_ (by simp_all)
 rw[mO,<- c];refine⟨.ref _,_,I.laid (λb C q=>Mb _ q) (Mo _) ?_,rfl,q _<|I.hok.fresh<|Mo _⟩;exact⟨My (iX xs y l) g,_,0,(r.drop _).take _,Mn _ rfl⟩
noncomputable def Bh:V->Bool
 |.non=>true
 |.bl _=>true
 |.int _=>true
 |.str _=>true
 |_=>eP
noncomputable def sM:V->V->Bool
 |.non,.non=>true
 |.bl a,.bl b=>a==b
 |.bl a,.int b=>(if a then 1 else 0)==b
 |.int a,.bl b=>a==(if b then 1 else 0)
 |.int a,.int b=>a==b
 |.str a,.str b=>a==b
 |_,_=>eP
theorem AT{y x:V}{v:cp}(f:RelV y u)(c:RelV x v)(h:Bh y=true)(g:Bh x=true):OK A s u v (sM y x):=by
 cases y with
 |non=>
  cases f;cases x with
  |non=>cases c;exact SeqAt.EqAt.same _
  |bl b=>cases c;exact SeqAt.EqAt.none_bool b
  |int b=>obtain⟨t,rfl⟩:=c;exact SeqAt.EqAt.none_int b t
  |str b=>obtain⟨t,rfl⟩:=c;exact SeqAt.EqAt.none_str b t
  |_=>trivial
 |bl a=>
  cases f;cases x with
  |non=>cases c;exact SeqAt.EqAt.bool_none a
  |bl b=>cases c;exact SeqAt.EqAt.bool_bool a b
  |int b=>obtain⟨t,rfl⟩:=c;exact SeqAt.EqAt.bool_int a b t
  |str b=>obtain⟨t,rfl⟩:=c;exact SeqAt.EqAt.bool_str a b t
  |_=>trivial
 |int a=>
  obtain⟨t',rfl⟩:=f;cases x with
  |non=>cases c;exact SeqAt.EqAt.int_none a t'
  |bl b=>cases c;exact SeqAt.EqAt.int_bool a t' b
  |int b=>obtain⟨t,rfl⟩:=c;exact SeqAt.EqAt.int_int a t' b t
  |str b=>obtain⟨t,rfl⟩:=c;exact Qf a t' b t
  |_=>trivial
 |str a=>
  obtain⟨t',rfl⟩:=f;cases x with
  |non=>cases c;exact SeqAt.EqAt.str_none a t'
  |bl b=>cases c;exact SeqAt.EqAt.str_bool a t' b
  |int b=>obtain⟨t,rfl⟩:=c;exact Qe a t' b t
  |str b=>obtain⟨t,rfl⟩:=c;exact SeqAt.EqAt.str_str a t' b t
  |_=>trivial
 |_=>trivial
theorem oO:bI X (.builtin "len") (λxs H Q=>∃p ys,xs=[.ref p]/\(SqL X.K H p ys\/jc X.K H p ys)/\Q (.int ys.length) H):=by
 rintro SW s Z H xs l Q I r ⟨p,ys,rfl,hq,q⟩
 obtain⟨u,rfl,i⟩:=iP r;cases i;have j:=g9;rcases hq with hq|hq
 .obtain⟨S3,f,g,h⟩:=I.list hq
  have c:=f.length;exact Calls.call_len_list g.isList (by simp<;>lia) ⟨.int _,H,I.tok _,⟨_,by rw[Mr,c]⟩,q⟩
 obtain⟨S3,f,g,h⟩:=I.tuple hq;have c:=f.length;exact len_tuple g (by simp only[Mr]<;>lia) ⟨.int _,H,I.tok _,⟨_,by rw[Mr,c]⟩,q⟩
theorem on:bI X (.builtin "len") (λxs H Q=>∃z,xs=[.str z]/\z.length<=sizeLine/\Q (.int z.length) H):=by
 rintro SW s Z H xs c Q I r ⟨z,rfl,g,q⟩
 obtain⟨u,rfl,t,rfl⟩:=iP r;have f:=g9;exact len_str (by lia) ⟨.int _,H,I.tok _,⟨_,rfl⟩,q⟩
theorem pB:bI X (.type "list") (λxs H Q=>∃p ys,xs=[.ref p]/\(SqL X.K H p ys\/jc X.K H p ys)/\∀l,H l=ed->Q (.ref l) (upd H l<|.lst ys)):=by
 rintro SW s Z H xs B Q I r ⟨p,ys,rfl,hq,q⟩
 obtain⟨u,rfl,z⟩:=iP r;cases z
 have i:∀(S3:List _),Vals ys _->ys.length<=sizeLine->∀(c:ka)(g:Nat),(∀b o',s.heap.get? b=cb o'->c.get? b=cb o')->
   c.get? _=cb _->EP X _ Z Q _ _:=λS3 f h c g kp e=>
  ⟨.ref _,_,I.laid (t':=s.toks) kp (Mo _) (show ObjOk _ _ _ c _ (.lst ys) from ⟨h,S3,g,f,e⟩),rfl,q _<|I.hok.fresh<|Mo _⟩
 rcases hq with hq|hq
 .obtain⟨S3,f,y,h⟩:=I.list hq
  have j:=f.length;obtain⟨o,m,x,n,v⟩:=y.isList;exact call_list_seq p (.inl rfl) m x v (λc g kp e=>i _ f h c g kp e) (by simp_all)
 obtain⟨S3,f,y,h⟩:=I.tuple hq;have j:=f.length;obtain⟨o,m,x,n,v⟩:=y;exact call_list_seq p (.inr rfl) m x v (λc g kp e=>i _ f h c g kp e) (by simp only[Mr]<;>lia)
theorem fU:bI X (.type "tuple") (λxs H Q=>∃p ys,xs=[.ref p]/\((SqL X.K H p ys/\∀l,H l=ed->Q (.ref l) (upd H l<|.tup ys))\/(jc X.K H p ys/\Q (.ref p) H))):=by
 rintro SW s Z H xs x Q I r ⟨p,ys,rfl,h⟩
 obtain⟨u,rfl,v⟩:=iP r;cases v;rcases h with⟨g,q⟩|⟨g,q⟩
 .obtain⟨S3,c,f,i⟩:=I.list g
  have j:=c.length;refine call_tuple_list f.isList (λm kp=>?_) (by simp_all)
  have I1:Inv X _ Z H _:=I.kept (t':=s.toks) kp;have I2:Inv X _ Z (upd H _<|.tup ys) { s with heap:=m.push { cls:=.type _,data:=.seq _ } }:=
   I1.laid (λb o e=>Mb _ e) (Mo _) (⟨i,_,c,⟨_,Mn _ rfl,⟨rfl,_,rfl⟩,rfl⟩⟩)
  exact⟨.ref _,_,I2,rfl,q _<|I1.hok.fresh<|Mo _⟩
 obtain⟨S3,c,f,i⟩:=I.tuple g;exact call_tuple_same f ⟨.ref p,H,I,rfl,q⟩
def tyV(K:Mi)(T:String)(x:V)(H:Hp):Prop:=match x with
 |.str _=>T="str"
 |.int _=>T="int"
 |.ref p=>(T="list"/\∃xs,SqL K H p xs)\/(T="tuple"/\∃o,K.lookup p=cb o/\o.cls=.type "tuple"/\o.dict=ed)\/
   (T="dict"/\((∃SY,H p=cb (.dK SY))\/∃SY,H p=cb (.dT SY)))\/(T="set"/\∃S n,H p=cb (.set S n))
 |_=>False
theorem As{T:String}{x:V}{v:cp}(I:Inv X SW Z H s)(r:RelV x v)(ty:tyV X.K T x H):
  s.TypeIs v T/\∀a,v=.ref a->∃q,s.heap.get? a=cb q/\q.dict=none:=by
 cases x with
 |str z=>
  obtain⟨t,rfl⟩:=r;cases ty;exact⟨Sn s z t,λ_ e=>nomatch e⟩
 |int i=>
  obtain⟨t,rfl⟩:=r;cases ty;exact⟨typeIs_int s i t,λ_ e=>nomatch e⟩
 |ref p=>
  cases r;rcases ty with⟨rfl,xs,y⟩|⟨rfl,o,f,hc,h⟩|⟨rfl,f⟩|⟨rfl,S,n,f⟩
  .obtain⟨S3,_,m,_⟩:=I.list y
   refine⟨m.isList.typeIs,λa e=>?_⟩;cases e;obtain⟨o,n,e,c,h,_⟩:=m;exact⟨o,e,h⟩
  .refine⟨⟨o,I.kIn p o f,hc⟩,λa e=>?_⟩
   cases e;exact⟨o,I.kIn _ o f,h⟩
  .have z:∃o,s.heap.get? p=cb o/\o.ExactDict:=by
    rcases f with⟨l,f⟩|⟨l,f⟩
    .obtain⟨_,_,_,_,o,_,_,e,g,_⟩:=I.hok p _ f
     exact⟨o,e,g⟩
    obtain⟨_,_,_,_,o,_,_,e,g,_⟩:=I.hok p _ f;exact⟨o,e,g⟩
   obtain⟨o,e,g⟩:=z;refine⟨⟨o,e,g.1⟩,λa j=>?_⟩;cases j;exact⟨o,e,g.2.1⟩
  obtain⟨o,_,_,_,e,g,_⟩:=I.hok p _ f;refine⟨⟨o,e,g.1⟩,λa j=>?_⟩;cases j;exact⟨o,e,g.2.1⟩
 |_=>exact NJ ty
noncomputable def tBM0(K:Mi)(T:String)(r:V->List V->Hp->VK->Prop)(to:TE):TE:=λZ H Q=>to Z H λx H1=>tyV K T x H1/\r x [] H1 Q
noncomputable def tBM(K:Mi)(T:String)(r:V->List V->Hp->VK->Prop)(to:TE)(t:TA):TE:=λZ H Q=>to Z H λx H1=>tyV K T x H1/\t Z H1 λxs H2=>r x xs H2 Q
variable{es:Tc}{to:TE}{t:TA}{name:Str}{S2 S1:Pos}{T id:String}{r:V->List V->Hp->VK->Prop}
theorem Ja(z:P_ T)(f:Slot T name id)(g:RY (.builtin id)=pure (.type "method_descriptor"))(hm:um X id r)(y:PE X o to)(c:mu o name X.env (h9 o X.env)=h9 o X.env:=by rfl)(hline:(S2.endLine==S1.line)=true:=by rfl):PE X (.Call (.Attribute o name S2) [] [] S1) (tBM0 X.K T r to):=by
 intro SW s Z H Q I h;refine wpAny_Call_method0_late c hline (bz (y _ s Z H _ I h) λv q j=>?_);obtain⟨x,H1,I1,i,ty,m⟩:=j;obtain⟨p,l⟩:=As I1 i ty;exact⟨T,id,z,f,g,p,l,OL rfl<|PySem.evalArgs_none<|hm _ q Z H1 x [] v [] Q I1 i .nil m⟩
theorem KB(N:P_ T)(f:Slot T name id)(g:RY (.builtin id)=pure (.type "method_descriptor"))(L:um X id r)(J:PE X o to)(M:PA X (e::es) t)(c:mu o name X.env (h9 o X.env)=h9 o X.env:=by rfl)(hfew:((lq S1<|starEach (e::es) X.env).all (λx=>!x.1)&&(Os S1<|keywordEach [] X.env).all (λx=>x.1.isSome)
   && decide ((e::es).length+([]:List B').length+(if ([]:List B').isEmpty then 0 else 1)<30))=true:=by rfl)(hline:(S2.endLine==S1.line)=true:=by rfl)(hs:eT (e::es) X.env=(eP,h9 e X.env)::eT es X.env:=by rfl)(hplain:(lq S1<|starEach es X.env).any (·.1)=false:=by rfl):
  PE X (.Call (.Attribute o name S2) (e::es) [] S1) (tBM X.K T r to t):=by
 intro SW s Z H Q I h;refine SB c hfew hline rfl (bz (J _ s Z H _ I h) λv z l=>?_);obtain⟨x,H1,I1,i,ty,B⟩:=l;obtain⟨q,m⟩:=As I1 i ty;refine⟨T,id,N,f,g,q,m,?_⟩;have j:=M S1 _ z Z H1 _ I1 B;rw[hs]at j ⊢;exact OL (by show (eP||(lq _ _).any _)=eP;rw[hplain]<;>rfl) (O1<|bz j<|by rintro G F ⟨p,H2,I2,C,y⟩;exact L _ F Z H2 x p v G Q I2 i C y)
end
def MtM(X:Cx)(id:String)(r:V->List V->Hp->VK->Prop):Prop:=
 ∀(SW:Tf)(s:eC)(Z:St)(H:Hp)(x:V)(xs:List V)(v:cp)(us:Ta)(Q:VK),Inv X SW Z H s->RelV x v->Vals xs us->r x xs H Q->
  ft (fy X.prog X.w) X.A (call (.builtin id) (v::us)) (EP X SW Z Q) X.xe s
theorem Vals.one:∀{x:V}{us:Ta},Vals [x] us->∃u,us=[u]/\RelV x u
 |_,_,h=>by cases h with|cons r q=>cases q;exact⟨_,rfl,r⟩
theorem Vals.two:∀{x y:V}{us:Ta},Vals [x,y] us->∃u v,us=[u,v]/\RelV x u/\RelV y v
 |_,_,_,h=>by cases h with|cons r q=>cases q with|cons q z=>cases z;exact⟨_,_,rfl,r,q⟩
theorem Vals.zero:∀{us:Ta},Vals [] us->us=[]
 |_,.nil=>rfl
theorem Vals.dropLast{xs:List V}{us:Ta}(h:Vals xs us):Vals xs.dropLast us.dropLast:=by
 induction h with
 |nil=>exact .nil
 |cons r t ih=>
  cases t with
  |nil=>exact .nil
  |cons q t'=>exact .cons r ih
theorem Vals.eraseIdx:∀{xs:List V}{us:Ta}(i:Nat),Vals xs us->Vals (xs.eraseIdx i) (us.eraseIdx i)
 |_,_,_,.nil=>.nil
 |_,_,0,.cons _ t=>t
 |_,_,i+1,.cons r t=>.cons r (Vals.eraseIdx i t)
theorem Vals.rep{xs:List V}{us:Ta}(h:Vals xs us):∀k:Nat,Vals (Mh k xs).flatten (Mh k us).flatten
 |0=>.nil
 |k+1=>by
  exact Vals.append h (Vals.rep h k)
theorem G_(l:List α):l.eraseIdx (l.length-1)=l.dropLast:=by
 simp_all
theorem nI{α:Type}:∀(l:List α)(i:Nat),(l.eraseIdx i).length<=l.length
 |[],_=>Mo _
 |_::_,0=>PK _
 |_::r,i+1=>Nat.succ_le_succ (nI r i)
section
variable{l:eH}{xs ys zs:List V}
theorem Inv.lset{its':Ta}{f:Array cp->Array cp}{t':Nat}(I:Inv X SW Z H s)(hH:H l=cb (.lst xs))(e:s.heap.get? l=cb { cls:=.type "list",data:=.seq S3.toArray n })(hf:f S3.toArray=its'.toArray)(hv:Vals ys its')(hz:ys.length<=sizeLine):
  Inv X SW Z (upd H l<|.lst ys) { s with heap:=s.heap.update l (Nm f),toks:=t' }:=by
 have q:=PySem.IsL.update e f;rw[hf]at q;refine I.write (by rw[hH];exact trivial) (.inl rfl) (λb' u hb hu=>(ON _ _<|MJ hb).trans hu) ⟨_,q⟩ ?_
 exact⟨hz,_,_,hv,q⟩
theorem Inv.lnew{t':Nat}(I:Inv X SW Z H s)(f:Vals ys S3)(c:ys.length<=sizeLine):
  Inv X SW Z (upd H s.heap.objs.size<|.lst ys) { s with heap:=s.heap.push { cls:=.type "list",data:=.seq S3.toArray },toks:=t' }:=
 I.laid (λ_ _ q=>Mb _ q) (Mo _) ⟨c,_,0,f,Mn _ rfl⟩
theorem Inv.fresh(I:Inv X SW Z H s):H s.heap.objs.size=none:=I.hok.fresh (Mo _)
theorem Inv.lstM(I:Inv X SW Z H s)(c:H l=cb (.lst xs)):xs.length<=sizeLine/\∃(S3:Ta)(n:Nat),Vals xs S3/\xs.length=S3.length/\s.heap.get? l=cb { cls:=.type "list",data:=.seq S3.toArray n }:=by
 obtain⟨z,S3,n,r,e⟩:=I.hok l _ c;exact⟨z,_,n,r,r.length,e⟩
theorem z0(h:n<=sizeLine):Pj n=false:=by
 exact decide_eq_false (by lia)
end
section
def Dx:V->List V->Hp->VK->Prop:=λx c H Q=>∃l xs y,x=.ref l/\c=[y]/\H l=cb (.lst xs)/\xs.length<sizeLine/\Q .non (upd H l<|.lst (xs++[y]))
theorem y8:MtM X "list.append" Dx:=by
 rintro SW s Z H x i v p Q I h g ⟨l,xs,y,rfl,rfl,c,j,q⟩
 cases h;obtain⟨u,rfl,f⟩:=g.one;obtain⟨z,S3,n,r,m,e⟩:=I.lstM c;refine pb O4 ⟨_,e,rfl⟩ F.entry_list_append (F.args_list_append_2 _ _) (QT l _ n u<|by simp_all) ⟨e,?_⟩
 refine⟨.non,_,I.lset c e (by simp) (r.append<|.cons f .nil) ?_,rfl,q⟩
 rw[Mg,Nz];lia
def rPop:V->List V->Hp->VK->Prop:=λx c H Q=>∃l xs y,x=.ref l/\c=[]/\H l=cb (.lst xs)/\xs[xs.length-1]?=cb y/\Q y (upd H l<|.lst xs.dropLast)
theorem Gn:MtM X "list.pop" rPop:=by
 rintro SW s Z H x p v G Q I j i ⟨l,xs,y,rfl,rfl,g,m,q⟩
 cases j;have c:=i.zero;subst c;obtain⟨z,S3,n,r,B,e⟩:=I.lstM g;obtain⟨u,C,h⟩:=r.get m;have f:S3.toArray[S3.toArray.size-1]?=cb u:=by
  simp_all
 refine pb Om ⟨_,e,rfl⟩ F.entry_list_pop (F.args_list_pop_1 _) (MeetsSeq.list_pop_last l _ n u f<|by rw[Mr];lia) ⟨e,?_⟩
 refine⟨y,_,I.lset g e ?_ r.dropLast ?_,h,q⟩
 .simp_all
 rw[List.length_dropLast];lia
def Ir:V->List V->Hp->VK->Prop:=λx c H Q=>∃l xs i k y,x=.ref l/\c=[.int i]/\H l=cb (.lst xs)/\-(2 ^ 63)<=i/\i<2 ^ 63/\seqIndex? i xs.length=cb k/\xs[k]?=cb y/\Q y (upd H l<|.lst<|xs.eraseIdx k)
theorem Aq:MtM X "list.pop" Ir:=by
 rintro SW s Z H x J v L Q I p j ⟨l,xs,i,k,y,rfl,rfl,f,m,g,G,B,q⟩
 cases p;obtain⟨u,rfl,h⟩:=j.one;obtain⟨t,rfl⟩:=h;obtain⟨z,S3,n,r,K,e⟩:=I.lstM f;obtain⟨w,C,c⟩:=r.get B
 refine pb Om ⟨_,e,rfl⟩ F.entry_list_pop (F.args_list_pop_2 _ _)
  (MeetsSeq.list_pop_at l _ n i t k w (fitsIndex_both m g) (by simp_all) (by rw[<- OX];exact C)<|by rw[Mr];lia) ⟨e,?_⟩
 refine⟨y,_,I.lset f e ?_ (r.eraseIdx k) ?_,c,q⟩
 .simp_all
 have:=nI xs k;lia
theorem Eo(xs:List α)(k:Nat):(Mh k xs).flatten.length=k*xs.length:=by
 induction k<;>simp_all
end
section
variable{prog:g4}
set_option maxRecDepth 100000 in
end
section
end
section
variable{κ:Type}[DecidableEq κ]
noncomputable def fM(SY:List (κ×V))(k:κ):Option V:=(SY.find? λc=>decide (c.1=k)).map (·.2)
noncomputable def di(SY:List (κ×V))(k:κ)(v:V):List (κ×V):=
 if (SY.any λc=>decide (c.1=k))=true then SY.map (λc=>if c.1=k then (c.1,v) else c) else SY++[(k,v)]
theorem mn{p:κ×V}{r:List (κ×V)}{k:κ}(e:p.1=k):fM (p::r) k=cb p.2:=by simp[fM,e]
theorem mC{p:κ×V}{r:List (κ×V)}{k:κ}(e:¬p.1=k):fM (p::r) k=fM r k:=by simp[fM,e]
theorem qD(k:κ):∀SY:List (κ×V),(SY.any λkv=>decide (kv.1=k))=(fM SY k).isSome
 |[]=>rfl
 |p::r=>by
  rw[OC]
  by_cases e:p.1=k
  .simp[mn e,decide_eq_true e,Bool.true_or]
  rw[mC e,decide_eq_false e];exact qD k r
theorem iY(SY:List (κ×V))(k:κ)(v:V):(di SY k v).length<=SY.length+1:=by
 unfold di
 split
 .rw[Mc];lia
 simp_all
theorem RelO.isSome_eq{o:Option V}{u:Option cp}(r:RelO o u):o.isSome=u.isSome:=by
 cases o with
 |none=>cases u<;>trivial
 |some _=>cases u<;>trivial
theorem KV.val{SY:List (κ×V)}{vs:List (κ×cp)}(r:KV SY vs)(k:κ):RelO (fM SY k) (tL vs k):=by
 unfold KV at r
 induction r with
 |nil=>exact N7
 |@cons p q ps qs h t ih=>
  obtain⟨f,g⟩:=h
  by_cases e:p.1=k
  .have c:q.1=k:=f.symm.trans e
   have b:tL (q::qs) k=cb q.2:=by simp[tL,OU,c]
   rw[mn e,b];exact g
  .have c:¬q.1=k:=λz=>e (f.trans z)
   have b:tL (q::qs) k=tL qs k:=by simp[tL,OU,c]
   rw[mC e,b];exact ih
theorem KV.any{SY:List (κ×V)}{vs:List (κ×cp)}(r:KV SY vs)(k:κ):(SY.any λkv=>decide (kv.1=k))=vs.any λkv=>decide (kv.1=k):=by
 induction r<;>simp_all
theorem KV.repl{SY:List (κ×V)}{vs:List (κ×cp)}(r:KV SY vs)(k:κ){y:V}(g:RelV y u):
  KV (SY.map λkv=>if kv.1=k then (kv.1,y) else kv) (vs.map λkv=>if kv.1=k then (kv.1,u) else kv):=by
 induction r with
 |nil=>exact .nil
 |@cons p q ps qs h t ih=>
  rw[Ms,Ms];refine .cons ?_ ih;obtain⟨c,f⟩:=h
  by_cases e:p.1=k
  .rw[if_pos e,if_pos (c.symm.trans e)];trivial
  rw[if_neg e,if_neg (λz=>e (c.trans z))];exact⟨c,f⟩
theorem KV.put{SY:List (κ×V)}{vs:List (κ×cp)}(r:KV SY vs)(k:κ){y:V}(c:RelV y u):KV (di SY k y) (stored vs k u):=by
 unfold di stored;rw[r.any k]
 by_cases e:(vs.any λf=>decide (f.1=k))=true
 .rw[if_pos e,if_pos e];exact r.repl k c
 rw[if_neg e,if_neg e];exact Paired.snoc r ⟨rfl,c⟩
theorem KV.length{SY:List (κ×V)}{vs:List (κ×cp)}(r:KV SY vs):SY.length=vs.length:=NF r
end
theorem nA{k:bh}(r:RelV (kV k) u):(aP P w).is k u=true:=by
 cases k with
 |inl i=>obtain⟨t,e⟩:=r;subst e;exact rX P w i t
 |inr x=>obtain⟨t,e⟩:=r;subst e;exact qN P w x t
theorem nV{P:g4}{w:kB}:∀{ks:List bh}{us:Ta},Vals (ks.map kV) us->ItemsAre (aP P w) ks us
 |[],_,r=>by cases r;exact .nil
 |k::ks,_,r=>by
  cases r with
  |cons h t=>exact .cons (nA h) (nV t)
abbrev KT(H:Hp):List (List bh×V)->List (List bh×eH×cp)->Prop:=P' λp q=>p.1=q.1/\H q.2.1=cb (.tup<|p.1.map kV)/\RelV p.2 q.2.2
theorem KT.val{SY:List (List bh×V)}(r:KT H SY xs)(k:List bh):RelO (fM SY k) ((So xs k).map (·.2)):=by
 induction r with
 |nil=>trivial
 |@cons p q ps qs h t ih=>
  obtain⟨f,_,g⟩:=h
  by_cases e:p.1=k
  .have c:=f.symm.trans e
   have b:So (q::qs) k=cb q.2:=by simp[So,c]
   rw[mn e,b];exact g
  have c:¬q.1=k:=λz=>e (f.trans z);have b:So (q::qs) k=So qs k:=by simp[So,c]
  rw[mC e,b];exact ih
theorem KT.repl{SY:List (List bh×V)}(r:KT H SY xs)(k:List bh){y:V}(i:RelV y u):
  KT H (SY.map λkv=>if kv.1=k then (kv.1,y) else kv) (xs.map<|putAt k u):=by
 induction r with
 |nil=>exact .nil
 |@cons p q ps qs h t ih=>
  rw[Ms];refine .cons ?_ ih;obtain⟨c,g,f⟩:=h;unfold putAt
  by_cases e:p.1=k
  .rw[if_pos e,if_pos (c.symm.trans e)];trivial
  rw[if_neg e,if_neg (λz=>e (c.trans z))];exact⟨c,g,f⟩
theorem KT.put{SY:List (List bh×V)}(r:KT H SY xs)(k:List bh){y:V}(g:H b=cb (.tup<|k.map kV))(c:RelV y u):
  KT H (di SY k y) (J' xs k b u):=by
 have e:(SY.any λf=>decide (f.1=k))=(So xs k).isSome:=by
  rw[qD,(r.val k).isSome_eq,Pg]
 unfold di J';rw[e]
 by_cases q:(So xs k).isSome=true
 .rw[if_pos q,if_pos q];exact r.repl k c
 rw[if_neg q,if_neg q];exact Paired.snoc r ⟨rfl,g,c⟩
theorem KT.keeps{SY:List (List bh×V)}(r:KT H SY xs)(c:∀b ys,H b=cb (.tup ys)->H' b=cb (.tup ys)):KT H' SY xs:=
 fC r λ_ _ z=>⟨z.1,c _ _ z.2.1,z.2.2⟩
section
variable{h:ka}
theorem FL{u:HO}(ok:HOk P w H h)(e:Rd H a u):ObjOk P w H h a u:=e.ok ok
theorem n8{SY:List (bh×V)}(ok:HOk P w H h)(e:Rd H a (.dK SY)):SY.length<=sizeLine/\(a==pt)=eP/\∃vs,KV SY vs/\h.DictOf (aP P w) a vs:=
 FL ok e
theorem Ku{SY:List (bh×V)}(ok:HOk P w H h)(e:H a=cb (.dK SY)):SY.length<=sizeLine/\(a==pt)=eP/\∃vs,KV SY vs/\h.DictOf (aP P w) a vs:=n8 ok (.inl e)
theorem iC{ks:List bh}(ok:HOk P w H h)(e:H a=cb (.tup<|ks.map kV)):(x9<|aP P w).is h ks a:=by
 obtain⟨_,S3,r,o,g,⟨c,n,f⟩,_⟩:=(show ObjOk P w H h a (.tup<|ks.map kV) from ok a _ e);exact⟨o,S3.toArray,n,g,c,f,by simpa using nV r⟩
theorem qX{SY:List (List bh×V)}(ok:HOk P w H h)(e:Rd H a (.dT SY)):SY.length<=sizeLine/\(a==pt)=eP/\
  ∃xs,KT H SY xs/\h.DictOfH (x9<|aP P w) a xs:=by
 obtain⟨z,y,xs,r,o,g,j,i,c,f,B,v⟩:=(FL ok e);refine⟨z,y,xs,r,o,g,j,i,c,f,B,λx hx=>?_,v⟩;have all:∀{l:List _}{m:List _},KT H l m->∀x∈m,(x9<|aP P w).is h x.1 x.2.1:=by
  intro l m q
  induction q with
  |nil=>intro x hx;exact nomatch hx
  |@cons p q ps qs hq t ih=>
   intro x hx;rcases Mm.mp hx with e|hx
   .exact iC ok (by simp_all)
   exact ih x hx
 exact all r x hx
theorem Ju{SY:List (List bh×V)}(ok:HOk P w H h)(e:H a=cb (.dT SY)):SY.length<=sizeLine/\(a==pt)=eP/\
  ∃xs,KT H SY xs/\h.DictOfH (x9<|aP P w) a xs:=qX ok (.inl e)
end
def DGet(H:Hp)(a:eH)(y:V)(r:Option V):Prop:=
 (∃SY k,Rd H a (.dK SY)/\y=kV k/\r=fM SY k)\/∃SY k b,Rd H a (.dT SY)/\y=.ref b/\H b=cb (.tup<|k.map kV)/\r=fM SY k
def DPut(H:Hp)(a:eH)(y v:V)(H':Hp):Prop:=
 (∃SY k,H a=cb (.dK SY)/\y=kV k/\SY.length<sizeLine/\H'=upd H a (.dK<|di SY k v))\/
 ∃SY k b,H a=cb (.dT SY)/\y=.ref b/\H b=cb (.tup<|k.map kV)/\SY.length<sizeLine/\H'=upd H a (.dT<|di SY k v)
theorem DGet.k{H:Hp}{a:eH}{SY:List (bh×V)}{k:bh}(e:H a=cb (.dK SY)):DGet H a (kV k) (fM SY k):=.inl ⟨_,k,.inl e,rfl,rfl⟩
theorem DGet.t{SY:List (List bh×V)}{k:List bh}(e:H a=cb (.dT SY))(c:H b=cb (.tup<|k.map kV)):DGet H a (.ref b) (fM SY k):=.inr ⟨_,k,b,.inl e,rfl,c,rfl⟩
theorem DPut.k{H:Hp}{a:eH}{SY:List (bh×V)}{k:bh}{v:V}(e:H a=cb (.dK SY))(c:SY.length<sizeLine):DPut H a (kV k) v (upd H a<|.dK<|di SY k v):=.inl ⟨_,k,e,rfl,c,rfl⟩
theorem DPut.t{SY:List (List bh×V)}{k:List bh}{v:V}(e:H a=cb (.dT SY))(f:H b=cb (.tup<|k.map kV))(c:SY.length<sizeLine):
  DPut H a (.ref b) v (upd H a<|.dT<|di SY k v):=.inr ⟨_,k,b,e,rfl,f,c,rfl⟩
section
variable{y v:V}{r:cp}{o:Option V}
theorem Inv.big(I:Inv X SW Z H s):pt<s.heap.objs.size:=by
 exact Pr (by decide) ((I.mod.glob.keeps I.bk).lt)
theorem yB(L:A.units+1<mv)(I:Inv X SW Z H s)(g:DGet H a y (cb v))(F:RelV y u)(h:∀i C,Inv X SW Z H C->RelV v i->Q i C):
  ft (fy X.prog X.w) A (RU (.ref a) u) Q E s:=by
 rcases g with⟨j,k,e,m,l⟩|⟨j,k,b,e,m,eb,l⟩
 .subst m
  obtain⟨z,G,J,f,B⟩:=n8 I.hok e;obtain⟨i,q,c⟩:=eG (v:=v) (o:=tL J k) (by rw[l];exact f.val k)
  exact wpAny_getItem_of (nA F) B.mapOf q (h i _ (I.tok _) c)
 .subst m
  cases (show u=MD b from F);obtain⟨z,G,xs,f,B⟩:=qX I.hok e;obtain⟨i,q,c⟩:=eG (v:=v) (o:=(So xs k).map (·.2)) (by rw[l];exact f.val k)
  obtain⟨p,K,x⟩:=MR.mp q;refine wpAny_getItem_heap (On L) (iC I.hok eb) B K ?_;rw[x];exact h i _ (I.tok _) c
theorem KC(B:A.units+1<mv)(I:Inv X SW Z H s)(g:DGet H a y o)(x:RelV y u)(h:∀p,Inv X SW Z H p->Q (.bool o.isSome) p):
  ft (fy X.prog X.w) A (g5 .In u<|.ref a) Q E s:=by
 rcases g with⟨f,k,e,j,l⟩|⟨f,k,b,e,j,eb,l⟩
 .subst j
  obtain⟨z,i,C,c,m⟩:=n8 I.hok e;refine wpAny_in_of (nA x) i m.mapOf ?_;rw[<- (c.val k).isSome_eq,<- l];exact h _ (I.tok _)
 .subst j
  cases (show u=MD b from x);obtain⟨z,i,xs,c,m⟩:=qX I.hok e;refine wpAny_in_heap (On B) (iC I.hok eb) i m ?_;have q:=(c.val k).isSome_eq;rw[Pg]at q;rw[<- q,<- l];exact h _ (I.tok _)
theorem xj(B:A.units+1<mv)(I:Inv X SW Z H s)(g:DGet H a y o)(x:RelV y u)(h:∀p,Inv X SW Z H p->Q (.bool<|!o.isSome) p):
  ft (fy X.prog X.w) A (g5 .NotIn u<|.ref a) Q E s:=by
 rcases g with⟨f,k,e,j,l⟩|⟨f,k,b,e,j,eb,l⟩
 .subst j
  obtain⟨z,i,C,c,m⟩:=n8 I.hok e;refine wpAny_notIn_of (nA x) i m.mapOf ?_;rw[<- (c.val k).isSome_eq,<- l];exact h _ (I.tok _)
 subst j;cases (x);obtain⟨z,i,xs,c,m⟩:=qX I.hok e;refine wpAny_notIn_heap (On B) (iC I.hok eb) i m ?_;have q:=(c.val k).isSome_eq;rw[Pg]at q;rw[<- q,<- l];exact h _ (I.tok _)
theorem vK{h':ka}{t':Nat}{c:HO}(I:Inv X SW Z H s)(h:L0 (H a))(g:Nc a s.heap h')(i:∃q,h'.get? a=cb q)(new:ObjOk X.prog X.w (upd H a c) h' a c):
  Inv X SW Z (upd H a c) { s with heap:=h',toks:=t' }:=
 I.write (x:=a) (e:=a) h (.inl rfl) (λb q f z=>(g.2 b f).trans z) i new
theorem B9{h':ka}{SY:List (bh×V)}{vs:List (bh×cp)}(z:SY.length<=sizeLine)(f:(a==pt)=eP)(c:KV SY vs)(dd:h'.DictOf (aP P w) a vs):
  ObjOk P w H' h' a (.dK SY):=⟨z,f,vs,c,dd⟩
theorem nR{Q:Unit->eC->Prop}(hu:A.units+1<mv)(I:Inv X SW Z H s)(g:DPut H a y v H')(O:RelV y u)(N:RelV v r)(h:∀M,Inv X SW Z H' M->Q () M):
  ft (fy X.prog X.w) A (setItem (.ref a) u r) Q E s:=by
 rcases g with⟨f,k,e,C,l,B⟩|⟨f,k,b,e,C,eb,l,B⟩
 .subst C B
  obtain⟨z,p,T,i,J⟩:=Ku I.hok e;have x:T.length<=sizeLine:=by rw[<- i.length];exact z
  have G:(di f k v).length<=sizeLine:=by have:=iY f k v;lia
  refine wpAny_setItem_pairs (hsz:=x) (nA O) J λL j F=>h _ ?_;have Y:∃q,L.get? a=cb q:=let ⟨q,_,_,m,_⟩:=j;⟨q,m⟩;exact vK I (by rw[e];exact N7) F Y (B9 G p (i.put k N) j)
 .subst C B
  cases (show u=MD b from O);obtain⟨z,p,xs,i,J⟩:=Ju I.hok e;have x:xs.length<=sizeLine:=by rw[<- NF i];exact z
  have G:(di f k v).length<=sizeLine:=by have:=iY f k v;lia
  refine wpAny_setItem_heap (hsz:=x) (On hu) (iC I.hok eb) J λL j F=>h _ ?_;obtain⟨q,U,W,m,R,S,h4,_,h5⟩:=j;refine vK I (by rw[e];exact N7) F ⟨q,m⟩ ⟨G,p,_,(i.put k eb N).keeps λc ys K=>?_,q,U,W,m,R,S,h4,h5⟩
  rw[aC (JO K e λz=>nomatch z)];exact K
end
section
variable{SY:List (bh×V)}{k:bh}
theorem L8(I:Inv X SW Z H s)(e:Rd H a (.dK SY))(h:∀t f,Inv X SW Z H f->Q (.int SY.length t) f):ft (fy X.prog X.w) A (call (.builtin "len") [.ref a]) Q E s:=by
 obtain⟨z,g,j,c,i⟩:=n8 I.hok e;refine call_len_dict g i (by rw[<- c.length];rw[qa]at z;lia) ?_
 rw[<- c.length];exact h _ _ (I.tok _)
end
theorem q_{y:V}{o:Option V}(I:Inv X SW Z H s)(g:DGet H a y o):s.TypeIs (.ref a) "dict":=by
 rcases g with⟨c,k,e,_,_⟩|⟨c,k,b,e,_,_,_⟩
 .obtain⟨_,_,h,_,f⟩:=n8 I.hok e
  exact f.typeIs
 obtain⟨_,_,xs,_,f⟩:=qX I.hok e;exact f.typeIs
section
variable{i value:hB}{pos' tpos:Pos}{td ty tv:TE}
end
section
end
section
variable{y d:V}{r:cp}{o:Option V}
end
section
variable{f:hB}{S2 S1:Pos}{td ty tx:TE}
end
section
variable{SY:List (bh×V)}
end
section
variable{y:V}
end
end _2
namespace Att
open PySem PySem.W PySem.Calls PyProof.Rows
theorem j6{P:Params}{h:ka}:∀(c:S9)(vs:Ta),WellAll P h vs (c.map WData.int)->Pv vs c:=by
 intro c
 induction c with
 |nil=>
  rintro vs ⟨⟩
  exact .nil
 |cons n c ih=>
  intro vs w;cases w with
  |cons a b=>
   cases a;exact .cons _ _ (ih _ b)
theorem yb{l:OpenLaw}{n:Nat}(s:l.most=cb n){P:Params}{h:ka}{args:List WData}{e:Ta}
  (c:l.row.toRowW.claim.pre args=true) (j:WellAll P h e args):
  ∃a vs b,e=[MD a]/\args=[WData.list (b.map WData.int)]/\h.get? a=cb { cls:=.type "list",data:=.seq vs.toArray }/\Pv vs b/\b.length<=n:=by
 have i:WShape.hasAll [] _ _=true:=(pre_splitW c).1;have q:l.pre.holds [] _=true:=(pre_splitW c).2;obtain⟨d,r,rfl,p,m⟩:=hasAllW_cons i;obtain rfl:=hasAllW_nil m;obtain⟨u,rfl,o⟩:=hasW_list p;obtain⟨b,rfl⟩:=items_int o;have f:b.length<=n:=by
  have g:(WTm.not<|.lt (.lit<|.int n)<|.len<|.arg 0).holds [] { args:=[.list (b.map .int)] }=true:=by
   have g:=(holds_andW q).1;rw[s]at g;exact g
  have v:=condW_of g (w_not<|w_lt w_lit<|w_len_list<|w_arg rfl)
  simp_all
 cases j with
 |cons w1 w2=>
  cases w2;cases w1 with
  |list ho hall=>exact⟨_,_,b,rfl,rfl,ho,j6 b _ hall,f⟩
theorem xP(l:OpenLaw)(args:List WData):l.row.toRowW.claim.post args (.bool true) args=true:=
 postW_of
  (show WShape.has [] _ _=true by rfl)
  (w_eq_bool (w_res rfl) w_lit) rfl
theorem r8{l:OpenLaw}{n:Nat}{q:g4}{loose:S_}{XP:(Str->Option cp)->ka->Prop}{YP:kB->ka->Prop}{d:DefRec}
  (U:l.most=cb n) (B:d.params.defaults=[])
  (call:∀(w:kB)(c b:eC)(s C:Tg)(m:eH)(o:Obj)(A v g:cp)(a:eH)(vs:Ta)(u:S9),
   Ground q loose [] XP w c s C b.heap->YP w b.heap->
   b.heap.get? m=cb o->o.data=.func (docDef d.name d.params d.body d.scope A v g)->b.heap.CodeRec v d.name->s d.name=cb (.ref m)->
   b.heap.get? a=cb { cls:=.type "list",data:=.seq vs.toArray }->Pv vs u->u.length<=n->b.gens=#[]->
   vr (fy l.prog w) R8 (.call (.ref m) ⟨[.ref a],[]⟩) (λr p=>r=.ok (.ret<|.bool true)/\OldK b.heap p.heap/\p.os=b.os/\PP p.gens) b):
  WalkO q loose XP YP l.row.toRowW d [] (λf vs=>QM f vs):=by
 intro w c b s C G Y m o A v g K kV M J y H z Q E F W j I T x N;obtain rfl:K=.none:=Dflts.none H B;obtain rfl:kV=.none:=Dflts.noKw H;obtain⟨a,vs,u,rfl,rfl,i,e,h⟩:=yb U j x;refine enter_call (qz (call w c b s C m o A v g a vs u G Y M (fd_plain J) y z i e h Q) λr p L=>?_);obtain⟨rfl,P,O,R⟩:=L;exact⟨.inl ⟨.bool true,.bool true,[],rfl,λ_=>rfl,.bool true,xP l _,λ_=>⟨OW,λ_ S=>(nomatch S)⟩⟩,P,O,R⟩
section
variable {prog:g4}{w:kB}{A:kL}{E:Te}{s:eC}{K:Frag}
end
end Att
namespace _2
open PySem PySem.Spec PyProof.Rows
variable{a it l z:eH}{A:kL}{items:Th}{b f1:Bool}{X:Cx}{h h' h₀:ka}{H:Hp}{SW:Tf}{args:List (Bool×eH)}{fp:Tb}{elts:Tc}{S:List ZS}{K:Mi}{i j n t' x1:Nat}{pos tp:Pos}{P prog:g4}{scope:L'}{s:eC}{Z:St}{x:Str}{α:Type}{f0:cp}{E Q:Te}{w:kB}{F:ZS->Option cp}
theorem yr:∀{vs:Ta}{c:S9},Pv vs c->Vals (c.map V.int) vs:=by
 intro vs c h
 induction h with
 |nil=>exact .nil
 |cons n t _ ih=>exact .cons ⟨t,rfl⟩ ih
def yU(H:Hp):Prop:=∀b,H b=ed\/∃o xs,H b=cb (.frz o<|.lst xs)
theorem B4{O mb:Tg}{CX:pT}{k:Nat}{fa:eH}{fd:k6}{sp:Sp}{c:eC}{vs:Ta}{ns:S9}(KX:K.In c.heap)(T:c.heap.Ns f' O)(g:c.heap.Ns builtinsNs mb)(hbb:∀x:Str,x≠"__name__"->mb x=g3 x)(R:c.heap.NoLimit)(hg:c.gens=#[])(U:c.heap.get? a=cb { cls:=.type "list",data:=.seq vs.toArray })(hi:Pv vs ns)(hl:ns.length<=sizeLine)(hr:Room k R8)(F:∀base:ka,K.In base->base.Ns f' O->FnOk P w K O base CX k fa fd [x] sp)(hbind:∀(s:eC)(u:cp),Sl s fd ⟨[u],[]⟩ [(x,u)])(hsp:∀H:Hp,yU H->SqL K H a (ns.map V.int)->sp [.ref a] H (λv _=>v=.bl true) λ_ _ _=>False)(hCX:∀H e p,CX [] H c (λ_ _ _=>False) e p->False):
  vr (fy P w) R8 (.call (.ref fa) ⟨[.ref a],[]⟩) (λr p=>r=.ok (.ret<|.bool true)/\OldK c.heap p.heap/\p.os=c.os/\PP p.gens) c:=by
 have rv:=yr hi;have L:=hi.length
 -- from an abstract heap in which nothing but the script may be tracked
 have y:∀H:Hp,yU H->SqL K H a (ns.map V.int)->HOk P w H c.heap->(∀b,H b≠ed->b=a)->(H a≠ed->K.lookup a=ed)->
   vr (fy P w) R8 (.call (.ref fa) ⟨[.ref a],[]⟩) (λr p=>r=.ok (.ret<|.bool true)/\OldK c.heap p.heap/\p.os=c.os/\PP p.gens) c:=by
  intro H hO hS I hA hK;have f:∀{b:eH}{o:Obj},c.heap.get? b=cb o->H b=ed->(oS c.heap H).get? b=cb o:=λe n=>zN e n;have noA:∀{b:eH}{o:Obj}{B:Array NE}{C:Nat},c.heap.get? b=cb o->o.data=.dict B C->H b=none:=λ{b o B C} e d=>by
   cases q:H b with
   |none=>rfl
   |some u=>
    have Y:b=a:=hA b (by rw[q];simp)
    subst Y;rw[U]at e;cases e;have d':Data.seq vs.toArray _=Data.dict B C:=d;cases d'
  have nsK:∀{b:eH}{m:Tg},c.heap.Ns b m->(oS c.heap H).Ns b m:=λ{b m} ⟨o,B,C,e,d,r⟩=>⟨o,B,C,f e (noA e d),d,r⟩;have N:K.In (oS c.heap H):=λb o e=>f (KX b o e) (by
   cases q:H b with
   |none=>rfl
   |some u=>
    have Y:b=a:=hA b (by rw[q];simp)
    subst Y;rw[hK (by rw[q];simp)]at e;cases e)
  have hM:Mod K O (oS c.heap H):=⟨N,nsK T,⟨mb,nsK g,hbb⟩,let ⟨mc,h1,h2⟩:=R;⟨mc,nsK h1,h2⟩⟩;have e0:Env0 P w K O (oS c.heap H) R8 [] c H:=⟨rfl,hM,λb o e=>Bz e,Qz (yC _ _),trivial,λb g=>absurd (show b∈([]:Tb) from g) (by simp),I,.of_eq hg⟩
  refine qz ((F _ N<|nsK T).run R8 [] c H ⟨[.ref a],[]⟩ [.ref a] [.ref a] _ _ hr e0 (hbind c<|.ref a) (.cons rfl .nil)<|hsp H hO hS) λr p h=>?_;cases r with
  |error e=>exact(hCX H e p h).elim
  |ok fl=>
   cases fl with
   |next=>exact NJ h
   |brk=>exact NJ h
   |cont=>exact NJ h
   |ret u=>
    obtain⟨v,H',os,J,un,G,r',q⟩:=h;have q':v=.bl true:=q;subst q';obtain rfl:u=QO true:=r';refine⟨rfl,OldK.of_keep λb o e=>?_,os,J⟩;cases q:H b with
    |none=>exact un.keep b o e q (by intro z;exact absurd (show b∈([]:Tb) from z) (by simp)) (by simp)
    |some u=>
     rcases hO b with z|⟨ob,xs,z⟩
     .rw[q]at z;cases z
     .have z2:=un.frzs b ob _ z
      obtain⟨e1,_⟩:=I b _ z;obtain⟨e2,_⟩:=G b _ z2;rw[e]at e1;cases e1;exact e2
 cases W:K.lookup a with
 |some o=>
  -- the script is one of the module's own objects
  have e:=KX a o W;rw[U]at e;cases e;refine y (λ_=>ed) (λ_=>.inl rfl) (.inr ⟨_,vs.toArray,_,W,rfl,rfl,rfl,by rw[Mr,L];exact hl,by simpa using rv⟩) (λb u z=>by have M:(none:Option HO)=cb u:=z;cases M) (λb z=>absurd rfl z) λz=>absurd rfl z
 |none=>
  refine y (λb=>if b=a then cb (.frz { cls:=.type "list",data:=.seq vs.toArray }<|.lst<|ns.map V.int) else ed) (λb=>?_) (.inl<|.inr ⟨{ cls:=.type "list",data:=.seq vs.toArray },if_pos rfl⟩) (λb u z=>?_) (λb z=>?_) λ_=>W
  .by_cases g:b=a
   .exact .inr ⟨_,_,if_pos g⟩
   .exact .inl (if_neg g)
  .by_cases g:b=a
   .have M:=(if_pos g).symm.trans z
    cases M;subst g;exact⟨U,by rw[Mc];exact hl,vs,_,rv,U⟩
   .have M:=(if_neg g).symm.trans z
    cases M
  .by_cases g:b=a
   .exact g
   .exact absurd (if_neg g) z
theorem CF{l:W.OpenLaw}{k:Nat}{q:g4}{loose:S_}{XP:(Str->Option cp)->ka->Prop}{YP:kB->ka->Prop}{d:DefRec}{K:Params->Mi}{CX:kB->pT}{sp:kB->Sp}(hn:l.most=cb n)(M:n<=sizeLine)(N:d.params.defaults=[])(hr:Room k R8)(hY:∀(w:kB)(h:ka),YP w h->(K w.params).In h)(F:∀(w:kB)(r:Tg)(I:eH)(h:ka),(K w.params).In h->h.Ns f' r->r d.name=cb (.ref I)->
   ∃fd:k6,(∀(s:eC)(u:cp),Sl s fd ⟨[u],[]⟩ [(x,u)])/\
    ∀c:ka,(K w.params).In c->c.Ns f' r->FnOk l.prog w (K w.params) r c (CX w) k I fd [x] (sp w))(R:∀(w:kB)(H:Hp)(a:eH)(C:S9),C.length<=n->yU H->SqL (K w.params) H a (C.map V.int)->sp w [.ref a] H (λv _=>v=.bl true) λ_ _ _=>False)(L:∀(w:kB)(H:Hp)(s:eC)(e:cp)(O:eC),CX w [] H s (λ_ _ _=>False) e O->False):
  W.WalkO q loose XP YP l.row.toRowW d [] (λf vs=>QM f vs):=by
 refine Att.r8 hn N λw U y r mb I o pm cd doc a vs C G Y ho hd hcd J B p m hg=>?_;have KX:=hY w _ Y;obtain⟨fd,hb,hF⟩:=F w r I _ KX G.T.g J;exact B4 KX G.T.g G.T.b G.T.builtins G.T.nolimit hg B p (My m M) hr hF hb (λH hO hS=>R w H a C m hO hS) λH e O=>L w H y e O
noncomputable def jP(s:py)(j:Nat):Stmt:=match s with
 |.ClassDef _ _ _ body _ _ _ _ _ _ _=>body.getD j (.Pass ⟨0,0,0,0⟩)
 |_=>.Pass ⟨0,0,0,0⟩
def dj(s:py):Arguments:=match s with
 |.FunctionDef _ a _ _ _ _ _ _ _ _=>a
 |_=>{ posonlyargs:=[],args:=[],vararg:=ed,kwonlyargs:=[],kw_defaults:=[],kwarg:=ed,defaults:=[] }
def cC(s:py):List Stmt:=match s with
 |.FunctionDef _ _ b _ _ _ _ _ _ _=>b
 |_=>[]
def bq(s:py):Scope:=match s with
 |.FunctionDef _ _ _ _ _ _ sc _ _ _=>sc
 |_=>{ kind:=.function,names:=[],isGenerator:=eP,isCoroutine:=eP }
noncomputable abbrev CX0:pT:=λ_ _ _ _ _ _=>False
noncomputable abbrev E0:XK:=λ_ _ _=>False
structure Fun(K:Mi)(x SX:Str)(st:py)(f:eH)(fd:k6):Prop where
 ex:∃(oc:cp)(od:Option eH)(kV doc pm:cp)(an:Option eH)(cdv ct:cp)(osl:Array (Option cp)),
  fd=O8 x SX (dj st) (cC st) (bq st) .none kV doc pm an cdv ct/\K.lookup f=cb ⟨oc,od,.func fd,osl⟩/\W.codeIn K cdv SX=true
 kp:NN K (.ref f)=true
section
variable{mg:Tg}{base:ka}
theorem Fun.binds{c:Str}{m:py}{f:eH}{fd:k6}{ps:S_}(F:Fun K x c m f fd)(h:∀(kV e p:cp)(o:Option eH)(g q:cp)(us:Ta),us.length=ps.length->bindArgs (O8 x c (dj m) (cC m) (bq m) .none kV e p o g q) ⟨us,[]⟩=pure (ps.zip us)):Binds K fd ps []:=by
 obtain⟨v,y,kV,e,p,o,g,q,r,rfl,lk,u⟩:=F.ex;exact .all (h kV e p o g q)
theorem z9{e:Str}{g:py}{f:eH}{v:cp}{y q:Option eH}{p:Array (Option cp)}{kV o r m u:cp}(l:K.lookup f=cb ⟨v,y,.func (O8 x e (dj g) (cC g) (bq g) .none kV o r q m u),p⟩)(c:W.codeIn K m e=true)(k:NN K (.ref f)=true):Fun K x e g f (O8 x e (dj g) (cC g) (bq g) .none kV o r q m u):=⟨⟨v,y,kV,_,r,q,_,u,_,rfl,l,c⟩,k⟩
end
theorem wT{k:Nat}(c:Room k A):A.units+1<cLine:=Nat.lt_of_le_of_lt (Nat.add_le_add_left (by decide) _) c.units
section
theorem x_:bI X (.builtin "len") (λxs H Q=>∃a SY,xs=[V.ref a]/\H a=cb (.dK SY)/\Q (.int SY.length) H):=by
 intro SW s Z H xs g Q I r h;obtain⟨a,SY,rfl,e,q⟩:=h;obtain⟨u,rfl,c⟩:=iP r;cases c;exact L8 I (.inl e) λt f I'=>⟨.int SY.length,H,I',⟨t,rfl⟩,q⟩
end
section
variable{κ:Type}[DecidableEq κ]
end
section
variable{R:Si->eC->Prop}
theorem pz{elt target iter:hB}{ifs:Tc}{it SZ:cp}{env:Env}(I:Nat->eC->Prop)(turn:∀n s,I n s->ft (fy prog w) A (RZ it) (λr s₁=>match r with
   |none=>R (.ok .next) s₁
   |some v=>ft (fy prog w) A (Q_ target it v) (λ_ s₂=>ft (fy prog w) A (Sh target env v) (λ_ s₃=>
     ft (fy prog w) A (forIn ifs true λc r=>if r=true then do let ok <- SH c env (h9 c env);pure (OD ok) else pure (OD r)) (λok s₄=>
      if ok=true then ft (fy prog w) A (h9 elt env) (λx s₅=>
       ft (fy prog w) A (call (.builtin "list.append") [SZ,x]) (λ_ s₆=>∃m,m<n/\I m s₆) (λ_ _=>False) s₅) (λ_ _=>False) s₄
      else ∃m,m<n/\I m s₄) (λ_ _=>False) s₃) (λ_ _=>False) s₂) (λ_ _=>False) s₁) (λ_ _=>False) s)(n:Nat)(h:I n s):
  vr (fy prog w) A (.compLoop (.ListComp elt [⟨target,iter,ifs,0⟩] scope pos) 0 it SZ env) R s:=by
 refine codeAny_loop rfl I (λn s hI=>?_) n h;show ft _ A _ _ _ s;refine wpAny_noted ?_;rw[compTurn_list];refine cx (wpAny_standAt<|wpAny_bind<|wpAny_mono (turn n s hI) (λr s₁ h₁=>?_)<|by lia)
 cases r with
 |none=>exact fx h₁
 |some v=>
  refine cx (l' h₁ (λ_ s₂ h₂=>cx (l' h₂ (λ_ s₃ h₃=>cx (l' h₃ (λok s₄ h₄=>?_)<|by lia))<|by lia))<|by lia)
  cases ok with
  |false=>exact fx (by trivial)
  |true=>
   exact cx (cx<|wpAny_mono h₄ (λx s₅ h₅=>cx (l' h₅ (λ_ s₆ h₆=>fx (fx<|by trivial))<|by lia))<|by lia)
end
noncomputable def aY(X:Cx)(N:S_)(scope:L')(cl:List (Str×eH))(C:eH)(s₀:eC)(H₀:Hp)(fp:Tb)(pl:Tf):Cx where
 prog:=X.prog
 w:=X.w
 K:=X.K
 mg:=X.mg
 base:=X.base
 A:=X.A
 N:=N
 s₀:=s₀
 H₀:=H₀
 env:=compEnvC scope cl C X.env
 outer:=X.stack
 stack:=X.stack
 ex:=fp
 fn:=λ_=>eP
 calm:=X.calm
 pn:=X.pn++pl
 xe:=λ_ _=>False
inductive Frees(X:Cx)(scope:L'):List Str->List Nat->Prop where
 |nil:Frees X scope [] []
 |cons {x:Str} {j:Nat} {xs:S_} {js:List Nat}:X.N[j]?=cb x->(X.env.kindOf x=cb .cell\/X.env.kindOf x=cb .free)->
   ((Ps scope X.env).names.lookup x=cb .cell\/(Ps scope X.env).names.lookup x=cb .free)->Frees X scope xs js->Frees X scope (x::xs) (j::js)
theorem Frees.length:∀{xs:S_}{c:List Nat},Frees X scope xs c->xs.length=c.length:=by
 intro xs c h
 induction h with
 |nil=>rfl
 |cons _ _ _ _ ih=>exact congrArg (·+1) ih
theorem Frees.get:∀{xs:S_}{e:List Nat},Frees X scope xs e->∀{i:Nat}{x:Str},xs[i]?=cb x->∃j,e[i]?=cb j/\X.N[j]?=cb x/\(X.env.kindOf x=cb .cell\/X.env.kindOf x=cb .free)/\
   ((Ps scope X.env).names.lookup x=cb .cell\/(Ps scope X.env).names.lookup x=cb .free):=by
 intro xs e h
 induction h with
 |nil=>intro i x h;simp at h
 |cons a b c _ ih=>
  intro i x h;cases i with
  |zero=>simp at h;subst h;exact⟨_,rfl,a,b,c⟩
  |succ i=>
   obtain⟨j,f,g⟩:=ih (i:=i) (x:=x) (by simpa using h)
   exact⟨j,by simpa using f,g⟩
noncomputable def dz(ls:S_)(js:List Nat)(Z:St):St:=ls.map (λ_=>ed)++js.map λj=>(Z[j]?).join
structure CompOk(X:Cx)(scope:L')(cl:List (Str×eH))(ls fs:S_)(js:List Nat):Prop where
 kind:scope.kind=.function
 nocell:∀y∈scope.names,y.2≠.cell
 locs:∀x∈scope.names,x.2=.local->scope.names.lookup x.1=cb .local
 clos:R0 scope X.env=pure cl
 cells:∀x c,cl.lookup x=cb c->X.env.cells.lookup x=cb c
 has:∀x,((Ps scope X.env).names.lookup x=cb .cell\/(Ps scope X.env).names.lookup x=cb .free)->∃c,cl.lookup x=cb c
 frees:Frees X scope fs js
theorem zn{cl:List (Str×eH)}{ls fs:S_}{Y:List Nat}{r:ka}{m:Tg}{t':Nat}(I:Inv X SW Z H s)(g:CompOk X scope cl ls fs Y)(C:∀b∈fp,iH X SW H b/\b<s.heap.objs.size)(hns:r.Ns s.heap.objs.size m)(G:∀b o,s.heap.get? b=cb o->r.get? b=cb o):
  Inv (aY X (ls++fs) scope cl s.heap.objs.size s H fp SW) [] (dz ls Y Z) H { s with heap:=r,toks:=t' }:=by
 refine⟨⟨I.ok.mod,g.kind,I.ok.glob,I.ok.blt,Mo _,λx y c U J=>?_,λx W=>g.has x W,λx c h _=>absurd (show eP=true from h) Ot,I.ok.hd,I.ok.frames,.inl rfl,λb B=>⟨Mt (C b B).2,λx c e=>?_⟩,
   λb o e=>I.bs b o e,My I.ok.bsz I.sz,λb o e B=>?_,λb B hf=>?_,I.stack,λb B=>I.stkFree b B⟩,
  rfl,I.bare,Un.kept G,⟨m,hns,λi x v U J h3=>?_⟩,λx c e=>?_,I.hok.fresh (Mo _),λx c e=>I.freeC x c (g.cells x c e),λp hp=>?_,I.hok.kept G,?_⟩
 .exact I.ok.inj x y c (g.cells x c U) (g.cells y c J)
 .exact(C b B).1.2.2.2.2.1 x c (g.cells x c e)
 .obtain⟨f0,f1,f2,f3,_⟩:=(C b B).1
  rcases f3 with z|z
  .exact I.ok.noex b o e z
  .exact absurd (Mz (Me (I.ok.bs b o e).1) z) (MK _)
 .obtain⟨f0,f1,f2,f3,_⟩:=(C b B).1
  rcases Mm.mp (I.stkSub b hf) with z|z
  .exact f1 z
  .exact f2 z
 .have hi:¬i<ls.length:=λhi=>by
   have f:=J;unfold dz at f
   grind
  have hN:fs[i-ls.length]?=cb x:=by
   have N:(ls++fs)[i]?=cb x:=U
   rwa [MP (by lia)]at N
  obtain⟨j,hj,W,hc,hl⟩:=g.frees.get hN;have O:Z[j]?=cb (cb v):=by
   have f:=J;unfold dz at f;rw[MP (by simpa using hi),Mc,Mv,hj]at f
   have q:(Z[j]?).join=cb v:=by simpa using f
   cases e:Z[j]? with
   |none=>rw[e]at q;cases q
   |some o=>simp_all
  obtain⟨mX,_,T⟩:=I.loc;have L:Jo X.env.scope x:=by
   rcases hc with z|z
   .exact .inr (.inl z)
   .exact .inr (.inr z)
  obtain⟨u,ru,lo⟩:=T j x v W O L;refine⟨u,ru,.inr ⟨hl,?_⟩⟩;obtain⟨c,ec⟩:=g.has x hl;refine⟨c,ec,?_⟩;rcases lo with⟨kl,_⟩|⟨_,c',e',z⟩
  .simp_all
  .rw[g.cells x c ec]at e'
   cases e';obtain⟨o,R,hd⟩:=z;exact⟨o,G _ _ R,hd⟩
 .obtain⟨v,o,R,hd⟩:=I.cell x c (g.cells x c e)
  exact⟨v,o,G _ _ R,hd⟩
 .have M:p∈X.pn++SW:=by
   have q:p∈(X.pn++SW)++[]:=hp;simpa using q
  obtain⟨e,n,ne,nf,d⟩:=I.pin p M;refine⟨G _ _ e,n,(λb o e=>Mt (Me e)) _ _ e,λB=>?_,d⟩;rcases Mm.mp (I.stkSub p.1 B) with z|z
  .exact ne z
  .exact nf z
 .show (dz ls Y Z).length=(ls++fs).length
  unfold dz;rw[Mg,Mc,Mc,Mg,g.frees.length]
def HW(X:Cx)(ifs:Tc)(t:TT):Prop:=
 ∀(SW:Tf)(s:eC)(Z:St)(H:Hp)(Q:Bool->Hp->Prop),Inv X SW Z H s->t Z H Q->
  ft (fy X.prog X.w) X.A (forIn ifs true λc r=>if r=true then do let ok <- SH c X.env (h9 c X.env);pure (OD ok) else pure (OD r)) (TP X SW Z Q) X.xe s
noncomputable def tAll:TT:=λ_ H Q=>Q true H
theorem D8:HW X [] tAll:=λ_ _ _ H _ I h=>wpAny_tests_nil ⟨H,I,h⟩
theorem C7{c:hB}{t:TT}(h:PT X c t):HW X [c] t:=λSW s Z H Q I q=>wpAny_tests_one (h _ s Z H Q I q)
noncomputable def AQ(wi:TI)(ls:S_)(js:List Nat)(g:TG)(tt:TT)(te:TE):TE:=λZ H Q=>wi Z H λJ H1=>∀p,H1 p=ed->∃W:Nat->Nat->St->Hp->Prop,(∃m,W 0 m (dz ls js Z) (upd H1 p<|.lst []))/\∀i m σ' H',W i m σ' H'->
 (J.stop i H'/\Q (.ref p) H')\/(J.go i H'/\∃N:St->Hp->Prop,(∀σ2 H2,N σ2 H2->∃m',m'<m/\W (i+1) m' σ2 H2)/\∀x H2,J.yld i H' x H2->g x σ' H2 λe H3=>tt e H3 λc H4=>
  if c=true then te e H4 λy H5=>∃ys,H5 p=cb (.lst ys)/\ys.length<sizeLine/\N e (upd H5 p<|.lst (ys++[y])) else N e H4)
section
variable{tg iter elt:hB}{ifs:Tc}{cl:List (Str×eH)}{ls fs:S_}{js:List Nat}{wi:TI}{g:TG}{tt:TT}{te:TE}
theorem rV{f:eC}{tn:Nat->ka->Prop}{J:It}{H1:Hp}{R:cp->eH->Si->eC->Prop}{Q:VK}{E:Te}(hc:X.calm=true)(co:CompOk X scope cl ls fs js)(hY:∀(C:eH)(s₀:eC)(H₀:Hp)(fp:Tb)(pl:Tf),PG (aY X (ls++fs) scope cl C s₀ H₀ fp pl) tg g/\HW (aY X (ls++fs) scope cl C s₀ H₀ fp pl) ifs tt/\PE (aY X (ls++fs) scope cl C s₀ H₀ fp pl) elt te)(I:Inv X SW Z H1 f)(T:Turn X.prog X.w X.K tg J fp it tn)(st:tn 0 f.heap)(hf:∀b∈fp,iH X SW H1 b)(q:∀p,H1 p=ed->∃W:Nat->Nat->St->Hp->Prop,(∃m,W 0 m (dz ls js Z) (upd H1 p<|.lst []))/\∀i m L H',W i m L H'->
   (J.stop i H'/\Q (.ref p) H')\/(J.go i H'/\∃N:St->Hp->Prop,(∀σ2 H2,N σ2 H2->∃m',m'<m/\W (i+1) m' σ2 H2)/\∀x H2,J.yld i H' x H2->g x L H2 λσ3 H3=>tt σ3 H3 λc H4=>
    if c=true then te σ3 H4 λy H5=>∃ys,H5 p=cb (.lst ys)/\ys.length<sizeLine/\N σ3 (upd H5 p<|.lst (ys++[y])) else N σ3 H4))(hR:∀(p C:eH)(H':Hp)(s':eC)(m:Tg),s'.heap.Ns C m->Inv X SW Z H' s'->H' C=ed->C≠X.env.locals->X.s₀.heap.objs.size<=C->(∀x c,X.env.cells.lookup x=cb c->c≠C)->(∀pp∈X.pn++SW,pp.1≠C)->Q (.ref p) H'->R (.ref p) C (.ok .next) s'):
  ft (fy X.prog X.w) X.A (newList []) (λSZ s₃=>ft (fy X.prog X.w) X.A (newFunctionEnv scope X.env.globals cl [] X.env.qual ed .none<|some X.env) (λcenv s₄=>
   vr (fy X.prog X.w) X.A (.compStart (.ListComp elt [⟨tg,iter,ifs,0⟩] scope pos) 0 (.ref it) SZ { cenv with scope:=Ps scope X.env }) (R SZ cenv.locals) s₄) E s₃) E f:=by
 have hp0:H1 f.heap.objs.size=none:=I.hok.fresh (Mo _);obtain⟨W,⟨m0,w0⟩,turn⟩:=q f.heap.objs.size hp0;refine R5 (wpAny_newFunctionEnv co.nocell (by intro y hy;simp at hy) (λG O U=>?_) co.kind)
 dsimp only at O U ⊢;have I3:Inv X SW Z (upd H1 f.heap.objs.size<|.lst []) { f with heap:=f.heap.push { cls:=.type "list",dict:=ed,data:=.seq ([]:Ta).toArray } }:=
  I.lnew (S3:=[]) (t':=f.toks) .nil (Nj _)
 generalize hs3:({ f with heap:=f.heap.push { cls:=.type "list",dict:=ed,data:=.seq ([]:Ta).toArray } }:eC)=s3 at I3;have hh3:f.heap.push { cls:=.type "list",dict:=ed,data:=.seq ([]:Ta).toArray }=s3.heap:=by rw[<- hs3]
 rw[hh3]at O U ⊢;have hsz3:s3.heap.objs.size=f.heap.objs.size+1:=by rw[<- hh3,Nb]
 have hk3:∀b o,f.heap.get? b=cb o->s3.heap.get? b=cb o:=λb o e=>by rw[<- hh3];exact Mb _ e
 have hlt:∀b∈fp,b<f.heap.objs.size:=λb B=>by
  obtain⟨o,e,_⟩:=T.obj _ _ st b B;exact Me e
 have hnp:∀b∈fp,upd H1 f.heap.objs.size (.lst []) b=none:=λb B=>by
  rw[aC (Mt<|hlt b B)];exact(hf b B).1
 have hf3:∀b∈fp,iH X SW (upd H1 f.heap.objs.size<|.lst []) b/\b<s3.heap.objs.size:=λb B=>⟨⟨hnp b B,(hf b B).2⟩,by rw[hsz3];exact OB (hlt b B)⟩
 have hk4:∀b o,s3.heap.get? b=cb o->G.get? b=cb o:=λb o e=>U.extBut b o (Mt<|Me e) (Mb _ e);have st4:tn 0 G:=T.keep _ _ _ st λb B o e=>hk4 b o (hk3 b o e);have I4:=zn (t':=s3.toks) I3 co hf3 O hk4;obtain⟨hg,ht,he⟩:=hY s3.heap.objs.size s3 (upd H1 f.heap.objs.size<|.lst []) fp SW;have stat:∀{H':Hp},(∀b∈fp,H' b=ed)->∀b∈fp,iH (aY X (ls++fs) scope cl s3.heap.objs.size s3 (upd H1 f.heap.objs.size<|.lst []) fp SW) [] H' b:=λ{H'} hn b B=>by
  obtain⟨f0,f1,f2,f3,f4,f5⟩:=hf b B;refine⟨hn b B,Mt (hf3 b B).2,λz=>?_,.inl B,λx c e=>f4 x c (co.cells x c e),λpp hp=>f5 pp ?_⟩
  .rcases Mm.mp (I3.stkSub b z) with y|y
   .exact f1 y
   .exact f2 y
  .have q:pp∈(X.pn++SW)++[]:=hp
   simpa using q
 have loop:∀s₄:eC,s₄={ s3 with heap:=G,toks:=s3.toks }->
   vr (fy X.prog X.w) X.A (.compLoop (.ListComp elt [⟨tg,iter,ifs,0⟩] scope pos) 0 (.ref it) (.ref f.heap.objs.size)<|compEnvC scope cl s3.heap.objs.size X.env) (R (.ref f.heap.objs.size) s3.heap.objs.size) s₄:=by
  rintro s₄ rfl
  refine pz (λn s'=>∃i L H',Inv (aY X (ls++fs) scope cl s3.heap.objs.size s3 (upd H1 f.heap.objs.size<|.lst []) fp SW) [] L H' s'/\tn i s'.heap/\(∀b∈fp,H' b=ed)/\W i n L H') ?_ m0 ⟨0,_,_,I4,st4,hnp,w0⟩
  rintro n s5 ⟨i,σ5,H5,I5,st5,fr5,w5⟩
  rcases turn i n σ5 H5 w5 with⟨stop,qn⟩|⟨go,N,hN,step⟩
  .refine bz (T.done (aY X (ls++fs) scope cl s3.heap.objs.size s3 (upd H1 f.heap.objs.size<|.lst []) fp SW) rfl rfl rfl hc i [] s5 σ5 H5 _ I5 (stat fr5) st5 stop) λr s6 M=>?_
   obtain⟨hr,I6⟩:=M;subst hr;obtain⟨m6,hn6,_⟩:=I6.loc;have IX:Inv X SW Z H5 s6:=I3.call' I6.os I6.base I6.hok I6.bare λb B=>⟨(hf b B).2.2.2.1,(hf b B).2.1,(hf b B).2.2.2.2.1,(hf b B).2.2.2.2.2⟩;refine hR _ _ H5 s6 m6 hn6 IX I6.free (NR I3.lt) I3.sz (λx c e z=>?_) (λpp hp z=>?_) qn
   .obtain⟨v,M⟩:=I3.cell x c e
    have zl:=M.lt;rw[z]at zl;exact MK _ zl
   .have zl:=Me (I3.pin pp hp).1
    rw[z]at zl;exact MK _ zl
  .refine bz (T.item (aY X (ls++fs) scope cl s3.heap.objs.size s3 (upd H1 f.heap.objs.size<|.lst []) fp SW) rfl rfl rfl hc i [] s5 σ5 H5 _ I5 (stat fr5) st5 go) λr s6 M=>?_
   obtain⟨u,hr,h6⟩:=M;subst hr;refine bz h6 λ_ s7 M=>?_;obtain⟨x,H7,I7,r7,y7,st7,fr7⟩:=M;have I7':=I7.pinned (stat fr7) (T.obj _ _ st7);refine bz (hg _ s7 σ5 H7 x u _ I7' r7<|step x H7 y7) λ_ s8 M=>?_;obtain⟨σ8,H8,I8,q8⟩:=M
   have again:∀{Y:St}{H9:Hp}{s9:eC},Inv (aY X (ls++fs) scope cl s3.heap.objs.size s3 (upd H1 f.heap.objs.size<|.lst []) fp SW) ([]++lr fp s7.heap) Y H9 s9->N Y H9->
     ∃m,m<n/\∃i L H',Inv (aY X (ls++fs) scope cl s3.heap.objs.size s3 (upd H1 f.heap.objs.size<|.lst []) fp SW) [] L H' s9/\tn i s9.heap/\(∀b∈fp,H' b=ed)/\W i m L H':=λ{Y H9 s9} I9 n9=>by
    obtain⟨m',hm,w9⟩:=hN Y H9 n9;refine⟨m',hm,i+1,Y,H9,I9.unpinned,T.keep _ _ _ st7 λb B o e=>(I9.pin (b,o)<|MF _<|MF _<|dS B e).1,λb B=>?_,w9⟩;obtain⟨o,e,d⟩:=T.obj _ _ st7 b B;exact(I9.pin (b,o)<|MF _<|MF _<|dS B e).2.1
   refine bz (ht _ s8 σ8 H8 _ I8 q8) λok s9 M=>?_;obtain⟨H9,I9,q9⟩:=M;cases ok with
   |false=>exact again I9 q9
   |true=>
    refine bz (he _ s9 σ8 H9 _ I9 q9) λxv s10 M=>?_;obtain⟨y,H10,I10,r10,ys,hp,hl,n10⟩:=M;obtain⟨z,S3,n',r,hl',e⟩:=I10.lstM hp;refine pb O4 ⟨_,e,rfl⟩ F.entry_list_append (F.args_list_append_2 _ _) (QT f.heap.objs.size S3.toArray n' xv<|by rw[Mr];lia) ⟨e,?_⟩
    refine again (I10.lset (its':=S3++[xv]) hp e (by simp) (r.append<|.cons r10 .nil) ?_) n10
    rw[Mg,Nz];lia
 have se:({ f with heap:=G,toks:=f.toks+([]:List (Str×cp)).length }:eC)={ s3 with heap:=G,toks:=s3.toks }:=by rw[<- hs3];rfl
 exact codeAny_compStart_list (loop _ se) (T.self _ 0 _ _ _ st4<|loop _ se)
theorem D4(hc:X.calm=true)(u:CompOk X scope cl ls fs js)(hi:PI X tg iter wi)(hY:∀(C:eH)(c:eC)(H₀:Hp)(fp:Tb)(pl:Tf),PG (aY X (ls++fs) scope cl C c H₀ fp pl) tg g/\HW (aY X (ls++fs) scope cl C c H₀ fp pl) ifs tt/\PE (aY X (ls++fs) scope cl C c H₀ fp pl) elt te)(hs:∀x,ol iter X.env x=pure x:=by intro _;rfl):PE X (.ListComp elt [⟨tg,iter,ifs,0⟩] scope pos) (AQ wi ls js g tt te):=by
 intro SW s Z H Q I h;rw[eval_ListComp];refine Ss (use:=ed) rfl hs u.clos u.kind u.locs (bz (hi SW s Z H _ I h) λxv s1 Y=>bz Y λitv s2 U=>?_);obtain⟨it,fp,tn,J,H2,e,I2,T,v,O,q⟩:=U;subst e;refine rV (R:=λB C=>compPost (fy X.prog X.w) X.A X.xe ed (EP X SW Z Q) B C) (Q:=Q) hc u hY I2 T v O q ?_;intro p C H' M m hn IX L G y f r N;exact⟨m,hn,λh' W=>⟨.ref p,H',IX.turned (t':=M.toks) (λb o hb e=>W.extBut b o hb e) L G (.inr y) f r,rfl,N⟩⟩
noncomputable def HF(i:Nat)(t:TE):TS:=λD Z H=>t Z H λv H1=>D.nx (Z.set i<|some v) H1
theorem Ea{W o:Pos}(hN:X.N.Nodup)(U:X.N[i]?=cb x)(hx:yG X.env.scope x)(hc:X.calm=true)(u:CompOk X scope cl ls fs js)(hi:PI X tg iter wi)(hY:∀(C:eH)(f:eC)(H₀:Hp)(fp:Tb)(pl:Tf),PG (aY X (ls++fs) scope cl C f H₀ fp pl) tg g/\HW (aY X (ls++fs) scope cl C f H₀ fp pl) ifs tt/\PE (aY X (ls++fs) scope cl C f H₀ fp pl) elt te)(R:pv (.ListComp elt [⟨tg,iter,ifs,0⟩] scope pos) (cb<|.Name x W) o.line X.env=pure true:=by rfl)(hs:∀x,ol iter X.env x=pure x:=by intro _;rfl)(hf:X.fn x=true\/X.env.scope.names.lookup x=cb .local:=by and_intros):
  PS X (.Assign [.Name x W] (.ListComp elt [⟨tg,iter,ifs,0⟩] scope pos) o) (HF i<|AQ wi ls js g tt te):=by
 intro SW s Z H D I h;rw[exec_Assign_Name_used _ _ _ _ R];refine cx (wpAny_standAt<|wpAny_bind ?_)
 refine cx (l' (Ss rfl hs u.clos u.kind u.locs
  (bz (hi _ s Z H _ I h) λxv s1 h1=>bz h1 λitv s2 h2=>?_)) (λ_ s' L=>fx (fx L)) λ_ _ e=>e)
 obtain⟨it,fp,tn,J,H2,e,I2,T,B,f2,q⟩:=h2;subst e;refine rV (Q:=λv=>D.nx (Z.set i<|some v)) hc u hY I2 T B f2 q ?_;intro p C H' s' m hn IX hC Y M c r L;refine wpAny_assign_Name (nN IX hN U hx (v:=.ref p) rfl (λs'' I'' hb=>?_) hf);obtain⟨a,sb,ha⟩:=hb;have G:C≠a:=by
  rcases ha with z|z
  .simp_all
  exact λy=>c x a z y.symm
 refine⟨m,hn.sameBut sb G,λh3 O=>?_⟩;exact⟨_,H',I''.turned (O.extBut) hC Y (.inr M) c r,L⟩
end
def SrcTn(b:Bool)(it a:eH)(i:Nat)(h:ka):Prop:=if b=true then h.IsListIter it a i else h.IsTupleIter it a i
def SrcSq(b:Bool)(h:ka)(a:eH)(items:Th):Prop:=if b=true then h.IsList a items else h.IsTuple a items
theorem SrcTn.lt(x:SrcTn b it a i h):∃o,h.get? it=cb o/\∀v,o.data≠.cell v:=by
 cases b with
 |true=>obtain⟨o,e,c,d⟩:=x;exact⟨o,e,λv z=>by simp_all⟩
 |false=>obtain⟨o,e,c,d⟩:=x;exact⟨o,e,λv z=>by simp_all⟩
theorem SrcTn.keep(x:SrcTn b it a i h)(k:∀o,h.get? it=cb o->h'.get? it=cb o):SrcTn b it a i h':=by
 cases b with
 |true=>obtain⟨o,e,r⟩:=x;exact(⟨o,k o e,r⟩)
 |false=>obtain⟨o,e,r⟩:=x;exact(⟨o,k o e,r⟩)
theorem SrcSq.keep(x:SrcSq b h a items)(k:∀o,h.get? a=cb o->h'.get? a=cb o):SrcSq b h' a items:=by
 cases b with
 |true=>obtain⟨o,e,r⟩:=x;exact(⟨o,k o e,r⟩)
 |false=>obtain⟨o,e,r⟩:=x;exact(⟨o,k o e,r⟩)
section
theorem gY{x:cp}(c:s.heap.IsTupleIter it l i)(r:s.heap.IsTuple l items)(q:items[i]?=cb x)(hQ:∀h',h'.IsTupleIter it l (i+1)->Nc it s.heap h'->Q x { s with heap:=h' }):ft (fy prog w) A (MV<|.ref it) Q E s:=by
 obtain⟨o,f,p,e⟩:=id c;obtain⟨u,g,_,v,m⟩:=r
 refine cx (wpAny_callSpecial?_slot c.typeIs N0
  (F' N0 c.typeIs Qj ?_<|Qa _))
 show ft _ _ (field _ 0 >>= _) _ _ s;refine cx (pd f e rfl ?_);refine cx (pd f e rfl ?_);refine cx (t0 g m ?_);simp[q];exact cx (wpAny_setField f e (by simp)<|wpAny_pure ⟨x,rfl,fx<|hQ _ ⟨_,NT _ f (Obj.isFreed_of_fields<|Obj.data_mapFields e _),(Obj.cls_mapFields ..).trans p,by
  rw[Obj.data_mapFields e];simp[G']⟩<|Ni ..⟩)
theorem iI(r:A.handled=ed)(c:s.heap.IsTupleIter it l i)(v:s.heap.IsTuple l items)(u:items[i]?=ed)(hE:∀h' e,QH it s.heap h'->(∃o,h'.get? e=cb o/\o.cls=.type "StopIteration")->E (.ref e) { s with heap:=h' }):ft (fy prog w) A (MV<|.ref it) Q E s:=by
 obtain⟨o,f,B,g⟩:=id c;obtain⟨y,p,_,C,q⟩:=v
 refine cx (wpAny_callSpecial?_slot c.typeIs N0
  (F' N0 c.typeIs Qj ?_<|Qa _))
 show ft _ _ (field _ 0 >>= _) _ _ s;refine cx (pd f g rfl ?_);refine cx (pd f g rfl ?_);refine cx (t0 p q ?_);simp[u];refine cx (RW<|wpAny_bind<|wpAny_setField f g (by simp) ?_)
 refine cx ?_;refine cx (m:=firstArgMember _ _) (Sj (by rfl) ?_)
 refine R5 ?_ (by size_fits)
 refine cx (wpAny_handled ?_)
 first|rw[r]|rw[r]
 exact cx (fx<|wpAny_throw<|hE _ _ (((Ni ..).extBut.push _).push _) ⟨_,Mn _ rfl,rfl⟩)
theorem eK{x:cp}(c:SrcTn b it l i s.heap)(g:SrcSq b s.heap l items)(e:items[i]?=cb x)(f:∀h',SrcTn b it l (i+1) h'->Nc it s.heap h'->Q x { s with heap:=h' }):ft (fy prog w) A (MV<|.ref it) Q E s:=by
 cases b with
 |true=>exact wpAny_nextOf_list_item c g e f
 |false=>exact gY c g e f
theorem cW(m:A.handled=ed)(c:SrcTn b it l i s.heap)(g:SrcSq b s.heap l items)(p:items[i]?=ed)(f:∀h' e,QH it s.heap h'->(∃o,h'.get? e=cb o/\o.cls=.type "StopIteration")->E (.ref e) { s with heap:=h' }):ft (fy prog w) A (MV<|.ref it) Q E s:=by
 cases b with
 |true=>exact wpAny_nextOf_list_end m c g p f
 |false=>exact iI m c g p f
noncomputable def gg(b:Bool):String:=if b=true then "list_iterator" else "tuple_iterator"
theorem d_(e:SrcSq b s.heap l items)(c:Q (.ref s.heap.objs.size) { s with heap:=s.heap.push { cls:=.type (gg b),data:=.fields #[.ref l,.int 0 0] } }):ft (fy prog w) A (Sc<|.ref l) Q E s:=by
 cases b with
 |true=>exact O_ e c
 |false=>exact RX e c
theorem ve(e:h.get? it=cb { cls:=.type (gg b),data:=.fields #[.ref l,.int 0 0] }):SrcTn b it l 0 h:=by
 cases b with
 |true=>exact(⟨_,e,rfl,rfl⟩)
 |false=>exact(⟨_,e,rfl,rfl⟩)
theorem uX{M:Model}{o:Obj}{Q:Option Obj->eC->Prop}(c:s.heap.get? a=cb o)(h:Q (cb o) s):ft M A (loadIfAlive a) Q E s:=λΓ p _=>by
 show Sem.wp M Γ (.loadIfAlive a _) _ _ p s;rw[Sem.wp_loadIfAlive,c];exact h
end
structure ZS where
 b:Bool
 i:eH
 l:eH
abbrev gl(h:ka)(T:eH)(vs:Ta):Prop:=h.get? T=cb { cls:=.type "tuple",data:=.seq vs.toArray }
noncomputable abbrev mQ(z TI TO:eH)(S:List ZS):List Addr:=z::TI::TO::S.map ZS.i
structure ZOk(z TI TO:eH)(S:List ZS):Prop where
 nd:(mQ z TI TO S).Nodup
 off:∀t∈S,t.l∉mQ z TI TO S
 ne:S≠[]
 few:S.length<=3
abbrev mW(h:ka)(z TI TO:eH)(f0:cp)(f1:Bool):Prop:=
 h.get? z=cb { cls:=.type "zip",dict:=ed,data:=.fields #[f0,.bool f1,.bool eP,.ref TI,.ref TO],slots:=#[] }
def Bp(S:List ZS)(k:Nat)(h:ka):Prop:=∀t∈S,SrcTn t.b t.i t.l k h
section
theorem fG{α g:Type}{f:α->g->Sem (ForInStep g)}{xs:List α}{Q:g->eC->Prop}{M:Model}(b:Nat->g)(I:Nat->eC->Prop)
  (m:∀i x s,xs[i]?=cb x->I i s->ft M A (f x<|b i) (λr c=>r=.yield (b (i+1))/\I (i+1) c) E s) (o:∀c,I xs.length c->Q (b xs.length) c):
  ∀(n j:Nat)(s:eC),j+n=xs.length->I j s->ft M A (forIn (xs.drop j) (b j) f) Q E s
 |0,j,s,e,h=>by
  rw[OO (by lia)]
  have:j=xs.length:=by lia
  subst this;exact fx (o s h)
 |n+1,j,s,e,h=>by
  have p:j<xs.length:=by lia
  rw[NC p,List.forIn_cons];refine cx (l' (m j _ s (by simp) h) (λr c q=>?_) λ_ _ q=>q)
  obtain⟨rfl,q⟩:=q;exact fG b I m o n _ c (by lia) q
theorem lx{TI TO:eH}(D:ZOk z TI TO S):z≠TI/\z≠TO/\TI≠TO/\∀t∈S,t.i≠z/\t.i≠TI/\t.i≠TO:=by
 have:=D.nd;simp only[Nr,Mm,not_or]at this;obtain⟨⟨a,b,c⟩,⟨d,e⟩,f,g⟩:=this;exact⟨a,b,d,λt m=>⟨λe=>c (e▸ME m),λq=>e (q▸ME m),λe=>f (e▸ME m)⟩⟩
theorem vS{TI TO:eH}(D:ZOk z TI TO S){t u:ZS}(c:S[i]?=cb t)(f:S[j]?=cb u)(h:i≠j):t.i≠u.i:=by
 have nd:(S.map ZS.i).Nodup:=by have:=D.nd;simp only[Nr]at this;exact this.2.2.2
 intro e;exact h ((List.getElem?_inj (by rw[Mc];exact(ML.1 c).1) nd).1<|by simp_all)
theorem sh{t:ZS}{k:Nat}{xs:Th}{o:Option cp}(p:A.handled=ed)(f:SrcTn t.b t.i t.l k s.heap)(c:SrcSq t.b s.heap t.l xs)(g:xs[k]?=o)(m:∀x h',o=cb x->SrcTn t.b t.i t.l (k+1) h'->Nc t.i s.heap h'->Q x { s with heap:=h' })(hE:∀h' e,o=ed->QH t.i s.heap h'->(∃o,h'.get? e=cb o/\o.cls=.type "StopIteration")->E (.ref e) { s with heap:=h' }):
  ft (fy prog w) A (MV<|.ref t.i) Q E s:=by
 cases o with
 |none=>exact cW p f c g λh' e q r=>hE h' e rfl q r
 |some x=>exact eK f c g λh' q r=>m x h' rfl q r
structure ZMid(S:List ZS)(F:ZS->Option cp)(k:Nat)(fp:Tb)(h₀:ka)(j:Nat)(h:ka):Prop where
 ahead:∀i t,S[i]?=cb t->SrcTn t.b t.i t.l (if i<j then k+1 else k) h
 got:∀i t,i<j->S[i]?=cb t->(F t).isSome=true
 frame:∀c o,c∉fp->h₀.get? c=cb o->h.get? c=cb o
 size:h.objs.size=h₀.objs.size
theorem ZMid.zero{k:Nat}(a:Bp S k h)(f:∀c o,c∉fp->h₀.get? c=cb o->h.get? c=cb o)(z:h.objs.size=h₀.objs.size):ZMid S F k fp h₀ 0 h:=
 ⟨λi t e=>by simpa using a t (NI e),λi t q=>absurd q (PY _),f,z⟩
theorem ZMid.at{k:Nat}(m:ZMid S F k fp h₀ j h){t:ZS}(e:S[j]?=cb t):SrcTn t.b t.i t.l k h:=by simpa using m.ahead j t e
theorem ZMid.go{k:Nat}(m:ZMid S F k fp h₀ j h)(i1:∀t∈S,∀o,h.get? t.i=cb o->h'.get? t.i=cb o)(f:∀c o,c∉fp->h.get? c=cb o->h'.get? c=cb o)(z:h'.objs.size=h.objs.size):ZMid S F k fp h₀ j h':=
 ⟨λi t e=>(m.ahead i t e).keep (i1 t<|NI e),m.got,λc o n e=>f c o n (m.frame c o n e),z.trans m.size⟩
theorem ZMid.step{TI TO:eH}(D:ZOk z TI TO S){k:Nat}(m:ZMid S F k fp h₀ j h){t:ZS}(e:S[j]?=cb t)(r:t.i∈fp)(p:(F t).isSome=true)(v:SrcTn t.b t.i t.l (k+1) h')(b:Nc t.i h h'):ZMid S F k fp h₀ (j+1) h':=by
 refine⟨λi u f=>?_,λi u q f=>?_,λc o n q=>b.extBut c o (λx=>n (x▸r)) (m.frame c o n q),b.1.trans m.size⟩
 .by_cases g:i=j
  .simp_all
  have q:=(m.ahead i u f).keep λo x=>b.extBut _ o (vS D f e g) x
  by_cases lt:i<j
  .rw[if_pos lt]at q
   rw[if_pos (OB lt)];exact q
  rw[if_neg lt]at q;rw[if_neg (by lia)]
  exact q
 by_cases g:i=j
 .subst g
  cases e.symm.trans f;exact p
 exact m.got i u (by lia) f
theorem sR{TI TO:eH}{Q:Option cp->eC->Prop}(m:mW s.heap z TI TO f0 f1)(h:ft (fy prog w) A.in1 (Builtin.«zip.__next__» ⟨[.ref z],[]⟩) (λfin s'=>∃v,fin=.done (.ret v)/\Q (cb v) s') (λe s'=>∃a,e=.ref a/\(∃o,s'.heap.get? a=cb o/\o.cls=.type "StopIteration")/\Q ed s') s):
  ft (fy prog w) A (RZ<|.ref z) Q E s:=by
 have c:s.TypeIs (.ref z) _:=⟨_,m,rfl⟩;refine cx (wpAny_attempt<|wpAny_callSpecial?_slot c F.slot_zip_next<|wpAny_call_entry F.slot_zip_next c F.entry_zip_next (l' h (λfin s' q=>?_) λe s' q=>?_)<|F.args_zip_next_1 _)
 .obtain⟨v,rfl,q⟩:=q
  exact⟨v,rfl,fx q⟩
 obtain⟨a,rfl,⟨o,f,g⟩,q⟩:=q;exact cx (Sa ⟨o,f,g⟩ isSubtype_stop<|wpAny_pure q)
theorem xY{TI TO:eH}{Q:Bool->eC->Prop}(c:mW s.heap z TI TO .none f1)(h:Q true s):ft (fy prog w) A (NO<|.ref z) Q E s:=by
 exact cx (pd c rfl rfl<|wpAny_pure h)
theorem xL{TI TO T:eH}{oT:Obj}{Q:Bool->eC->Prop}(hz:mW s.heap z TI TO (G' T) f1)(hT:s.heap.get? T=cb oT)(h:∀h₀,mW h₀ z TI TO (G' T) true->(∀c o,c≠z->s.heap.get? c=cb o->h₀.get? c=cb o)->h₀.objs.size=s.heap.objs.size->Q eP { s with heap:=h₀ }):ft (fy prog w) A (NO<|.ref z) Q E s:=by
 refine cx (pd hz rfl rfl ?_);refine cx (uX (by trivial) ?_)
 refine cx (pd hz rfl rfl ?_);cases f1 with
 |true=>
  exact fx (h _ hz (λ_ _ _ e=>e) rfl)
 |false=>
  exact cx (x5 hz (by simp) λh₀ hz0 hs0=>fx (h _ hz0 hs0.extBut hs0.1))
theorem jo{TI TO:eH}{k:Nat}{Q:Option cp->eC->Prop}(hh:A.handled=ed)(D:ZOk z TI TO S)(hz:mW s.heap z TI TO f0 f1)(hf:f0=.none/\f1=eP/\(∃vs:List cp,vs.length=S.length/\gl s.heap TO vs)\/∃(T:eH)(oT:Obj),f0=G' T/\s.heap.get? T=cb oT)(hTI:gl s.heap TI (S.map λt=>.ref t.i))(h1:Bp S k s.heap)(hl:∀t∈S,∃xs,SrcSq t.b s.heap t.l xs/\xs[k]?=F t)(hQ:∀h' us,us.map cb=S.map F->(f0=.none/\Sk h' z TI TO (G' s.heap.objs.size)/\gl h' TO us\/f0≠.none/\mW h' z TI TO f0 true)->Bp S (k+1) h'->gl h' s.heap.objs.size us->
   (∀c o,c∉z::TO::S.map ZS.i->s.heap.get? c=cb o->h'.get? c=cb o)->Q (cb<|.ref s.heap.objs.size) { s with heap:=h' })(hE:∀h',(∃t∈S,F t=ed)->(∀c o,c∉z::TO::S.map ZS.i->s.heap.get? c=cb o->h'.get? c=cb o)->Q ed { s with heap:=h' }):
  ft (fy prog w) A (RZ<|.ref z) Q E s:=by
 obtain⟨zTI,zTO,TITO,U⟩:=lx D;have few:S.length<=sizeLine:=My D.few (by decide)
 refine sR hz ?_;show ft _ _ (field (.ref z) 2 >>= _) _ _ _;refine cx (pd hz rfl (x:=.bool eP) rfl ?_);show ft _ _ (field (.ref z) 3 >>= _) _ _ _;refine cx (pd hz rfl (x:=.ref TI) rfl ?_);refine cx (t0 hTI rfl ?_);have hne:¬(S.map λt=>MD t.i).toArray.isEmpty=true:=by have:=D.ne;simp[this]
 refine (congrArg (ft (fy prog w) A.in1 · _ _ s)<|if_neg hne).mpr ?_;show ft _ _ (NO (.ref z) >>= _) _ _ _;refine cx ?_;have hnd:∀t∈S,t.l∉z::TO::S.map ZS.i:=λt g q=>D.off t g (by
  simp only[mQ,Mm]at q ⊢;exact q.imp id .inr)
 have B:∀{h h':ka}{c:eH}(b:eH),b∈z::TO::S.map ZS.i->(∀c o,c≠b->h.get? c=cb o->h'.get? c=cb o)->c∉z::TO::S.map ZS.i->∀o,h.get? c=cb o->h'.get? c=cb o:=λb hb k n o e=>k _ o (λx=>n (x▸hb)) e;have mi:∀{t:ZS},t∈S->t.i∈z::TO::S.map ZS.i:=λg=>by simp[ME g]
 have fin:∀{us:Ta},us.length=S.length->(∀i t,i<S.length->S[i]?=cb t->us[i]?=F t)->(∀i t,i<S.length->S[i]?=cb t->(F t).isSome=true)->us.map cb=S.map F:=λ{us} hu G hs=>by
  refine Po λi=>?_;rw[Mv,Mv];cases y:S[i]? with
  |none=>
   rw[Qb]at y;rw[OY (by lia)]
   rfl
  |some t=>
   have il:i<S.length:=(ML.1 y).1;have hs:=hs i t il y;rw[G i t il y];cases hF:F t with
   |none=>rw[hF]at hs;cases hs
   |some x=>simp[hF]
 have st:∀{h:ka},ZMid S F k (z::TO::S.map ZS.i) s.heap S.length h->Bp S (k+1) h:=λm t g=>by
  obtain⟨i,il,rfl⟩:=O6 g;have q:=m.ahead i S[i] (by simp[il])
  rwa [if_pos il]at q
 rcases hf with⟨rfl,rfl,vs,hv,hTO⟩|⟨T,oT,rfl,hT⟩
 .refine xY hz ?_
  refine (congrArg (ft (fy prog w) A.in1 · _ _ s)<|if_pos rfl).mpr ?_;refine cx (RW ?_);refine cx (pd hz rfl (x:=.ref TO) rfl ?_);refine cx (x5 hz (by simp) λR hz1 M=>?_)
  replace hz1:Sk R z TI TO .ellipsis:=hz1
  refine cx ?_
  refine fG (xs:=(S.map λt=>MD t.i).toArray.toList.zipIdx) (λ_=>_)
   (λj s'=>∃h' us,s'={ s with heap:=h' }/\ZMid S F k (z::TO::S.map ZS.i) s.heap j h'/\Sk h' z TI TO .ellipsis/\gl h' TO us/\us.length=S.length/\∀i t,i<j->S[i]?=cb t->us[i]?=F t)
   (λj x s' hx hI=>?_) (λs' hI=>?_) _ 0 _ (Nv _) ⟨R,vs,rfl,.zero (λt g=>(h1 t g).keep λo e=>M.extBut _ o (U t g).1 e) (λc o n e=>B z (.head _) M.extBut n o e) M.1,hz1,M.extBut _ _ zTO.symm hTO,hv,λi t q=>absurd q (PY _)⟩
  .obtain⟨h',us,rfl,m,r,C,hu,G⟩:=hI
   simp only[QK,Mv,MR,Nv]at hx;obtain⟨v,⟨t,y,rfl⟩,rfl⟩:=hx;have g:=NI y;obtain⟨xs,hsq,hxs⟩:=hl t g;refine cx (wpAny_onRaise ?_);show ft _ _ (MV (.ref t.i) >>= _) _ _ _;refine cx (sh hh (m.at y) (hsq.keep λo e=>m.frame _ o (hnd t g) e) hxs (λx p N h12 f=>fx ?_) λp e N f he=>?_)
   .have jl:j<S.length:=(ML.1 y).1
    have L:gl p TO us:=f.extBut _ _ (U t g).2.2.symm C;refine cx (t0 L rfl ?_);refine cx (wpAny_updateSeq L rfl ?_ (by show us.toArray.size<=sizeLine;rw[Mr,hu];exact few)<|by rw[Array.size_setIfInBounds,Mr,hu];exact Nat.le_succ_of_le few)
    refine cx (wpAny_letGo<|wpAny_pure ⟨rfl,_,us.set j x,rfl,?_,?_,?_,by rw[List.length_set,hu],λi u q eu=>?_⟩)
    all_goals have sb:Nc TO p (p.update TO<|Nm (·.setIfInBounds j x)):=Ni ..
    .exact(m.step D y (mi g) (by rw[N];rfl) h12 f).go (λu hu' o e=>sb.extBut _ o (U u hu').2.2 e) (λc o n e=>B TO (by simp) sb.extBut n o e) sb.1
    .exact sb.extBut _ _ zTO (f.extBut _ _ (U t g).1.symm r)
    .show Heap.get? _ _=_
     rw[NT _ L rfl];simp[Nm]
    .rw[List.getElem?_set]
     by_cases ij:j=i
     .subst ij
      cases y.symm.trans eu;rw[if_pos rfl,if_pos (by lia),N]
     .rw[if_neg ij]
      exact G i u (by lia) eu
   .obtain⟨oe,hoe,hce⟩:=he
    have hz2:Sk p z TI TO .ellipsis:=f _ _ (U t g).1.symm r;have hez:e≠z:=λx=>by subst x;rw[hz2]at hoe;cases hoe;simp at hce
    exact x5 hz2 (by simp) λh₃ _ J=>⟨e,rfl,⟨oe,J.extBut _ _ hez hoe,hce⟩,hE h₃ ⟨t,g,N⟩ λc o n q=>B z (.head _) J.extBut n o (B _ (mi g) f n o<|m.frame c o n q)⟩
  .obtain⟨h',us,rfl,m,r,C,hu,G⟩:=hI
   rw[show (S.map λt=>MD t.i).toArray.toList.zipIdx.length=S.length by simp]at m G
   refine cx (t0 C rfl ?_);refine cx (y' ?_<|by simpa [hu] using few)
   have W:z<h'.objs.size:=Me r;show ft _ _ (Oo (.ref z) (.ref h'.objs.size) >>= _) _ _ _;refine cx ?_;unfold Oo;have hz8:Sk (h'.push { cls:=.type "tuple",data:=.seq us.toArray }) z TI TO .ellipsis:=Mb _ r;refine cx (x5 hz8 (by simp) λh₉ hz9 hs9=>?_)
   replace hz9:Sk h₉ z TI TO (G' h'.objs.size):=hz9
   refine x5 hz9 (by simp) λhA O hsA=>?_
   replace O:Sk hA z TI TO (G' h'.objs.size):=O
   have Y:∀c o,c≠z->h'.get? c=cb o->hA.get? c=cb o:=λc o c1 e=>hsA.extBut _ _ c1 (hs9.extBut _ _ c1<|Mb _ e);have hTA:gl hA h'.objs.size us:=hsA.extBut _ _ (NR W) (hs9.extBut _ _ (NR W)<|Mn _ rfl);rw[m.size]at O hTA;refine fx ⟨_,rfl,?_⟩;show Q (cb<|.ref h'.objs.size) _;rw[m.size];exact hQ hA us (fin hu G m.got) (.inl ⟨rfl,O,Y _ _ zTO.symm C⟩) (λt g=>(st m t g).keep λo e=>Y _ o (U _ g).1 e) hTA λc o n e=>B z (.head _) Y n o (m.frame c o n e)
 .refine xL hz hT λh₀ hz0 I hs0=>?_
  refine (congrArg (ft (fy prog w) A.in1 · _ _ _)<|if_neg Ot).mpr ?_;show ft _ _ (forIn (S.map λt=>MD t.i).toArray _ _ >>= _) _ _ _;rw[<- Array.forIn_toList];refine cx ?_
  refine fG (xs:=(S.map λt=>MD t.i).toArray.toList) (λj=>(ed,((S.map λt=>(F t).getD .none).take j).toArray))
   (λj s'=>∃h',s'={ s with heap:=h' }/\ZMid S F k (z::TO::S.map ZS.i) s.heap j h'/\mW h' z TI TO (G' T) true)
   (λj x s' hx hI=>?_) (λs' hI=>?_) _ 0 _ (Nv _) ⟨h₀,rfl,.zero (λt g=>(h1 t g).keep λo e=>I _ o (U t g).1 e) (λc o n e=>B z (.head _) I n o e) hs0,hz0⟩
  .obtain⟨h',rfl,m,r⟩:=hI
   simp only[Mv,MR]at hx;obtain⟨t,y,rfl⟩:=hx;have g:=NI y;obtain⟨xs,hsq,hxs⟩:=hl t g;refine cx (lb ?_);show ft _ _ (MV (.ref t.i) >>= _) _ _ _;refine cx (sh hh (m.at y) (hsq.keep λo e=>m.frame _ o (hnd t g) e) hxs (λx p N h12 f=>fx (fx ⟨?_,_,rfl,m.step D y (mi g) (by rw[N];rfl) h12 f,f.extBut _ _ (U t g).1.symm r⟩)) λp e N f he=>⟨e,rfl,he,hE p ⟨t,g,N⟩ λc o n q=>B _ (mi g) f n o (m.frame c o n q)⟩)
   rw[P6,show (S.map λt=>(F t).getD .none)[j]?=cb x by rw[Mv,y];simp[N]]
   simp
  .obtain⟨h',rfl,m,r⟩:=hI
   rw[show (S.map λt=>MD t.i).toArray.toList.length=S.length by simp]at m ⊢
   rw[Oc (by simp)]
   refine cx (y' (fx ⟨_,rfl,?_⟩)<|by simpa using few)
   have Y:∀c o,h'.get? c=cb o->(h'.push { cls:=.type "tuple",data:=.seq (S.map λt=>(F t).getD .none).toArray }).get? c=cb o:=λc o e=>Mb _ e;have hn:=Mn h' (o:={ cls:=.type "tuple",data:=.seq (S.map λt=>(F t).getD .none).toArray }) rfl;show Q (cb<|.ref h'.objs.size) _;rw[m.size]at hn ⊢;refine hQ _ (S.map λt=>(F t).getD .none) (fin (by simp) (λi t il y=>?_) m.got) (.inr ⟨by simp[G'],Y _ _ r⟩) (λt g=>(st m t g).keep λo e=>Y _ o e) (by simpa using hn) λc o n e=>Y _ _ (m.frame c o n e)
   have hs:=m.got i t il y;cases hF:F t with
   |none=>rw[hF]at hs;cases hs
   |some x=>simp[y,hF]
end
theorem Hd{l:List α}(h:l.length=2):∃a b,l=[a,b]:=by
 cases l with
 |nil=>cases h
 |cons a l=>
  cases l<;>simp_all
theorem len3{l:List α}(h:l.length=3):∃a b c,l=[a,b,c]:=by
 cases l with
 |nil=>cases h
 |cons a l=>
  obtain⟨b,c,rfl⟩:=Hd (by simpa using h)
  exact⟨a,b,c,rfl⟩
theorem lj(a b c:cp):Sw "zip" ⟨[a,b,c],[]⟩=pure ():=by kernel_rfl
theorem mS(a b c:cp):Sg "zip.__new__" ⟨[.type "zip",a,b,c],[]⟩=pure ():=by kernel_rfl
theorem g0(a b c d:cp):argsOk "object.__init__" ⟨[a,b,c,d],[]⟩:=by
 unfold argsOk;rw[signature?_of (id:="object.__init__") (n:=['_','_','t','i','n','i','_','_']) (o:=['t','c','e','j','b','o']) (by kernel_rfl) F.owner_object];kernel_rfl
noncomputable def cD(n:Nat)(args:List (Bool×eH)):List ZS:=args.zipIdx.map λp=>⟨p.1.1,n+p.2,p.1.2⟩
theorem eW:(cD n args)[i]?=(args[i]?).map λp=>⟨p.1,n+i,p.2⟩:=by
 simp[cD,Function.comp_def]
section
theorem qQ{Q:List cp->eC->Prop}(C:∀p∈args,∃xs,SrcSq p.1 s.heap p.2 xs)(B:∀h',Bp (cD s.heap.objs.size args) 0 h'->(∀c o,s.heap.get? c=cb o->h'.get? c=cb o)->h'.objs.size=s.heap.objs.size+args.length->Q ((cD s.heap.objs.size args).map λt=>.ref t.i) { s with heap:=h' }):
  ft (fy prog w) A (Builtin.SmallTypes.iterAll (args.map λp=>.ref p.2)) Q E s:=by
 refine cx ?_
 refine fG (λj=>(((cD s.heap.objs.size args).take j).map λt=>MD t.i).toArray)
  (λj q=>∃h',q={ s with heap:=h' }/\Bp ((cD s.heap.objs.size args).take j) 0 h'/\(∀c o,s.heap.get? c=cb o->h'.get? c=cb o)/\h'.objs.size=s.heap.objs.size+j)
  (λj x q v m=>?_) (λq m=>?_) _ 0 _ (Nv _) ⟨_,rfl,λt ht=>by simp at ht,λ_ _ e=>e,rfl⟩
 .obtain⟨h',rfl,g,k,f⟩:=m
  simp only[Mv,MR]at v;obtain⟨p,u,rfl⟩:=v;obtain⟨xs,y⟩:=C p (NI u);have r:(cD s.heap.objs.size args)[j]?=cb ⟨p.1,s.heap.objs.size+j,p.2⟩:=by rw[eW,u];rfl
  refine cx (lb<|d_ (y.keep λo e=>k _ o e)<|wpAny_pure ⟨?_,_,rfl,λt ht=>?_,λc o e=>Mb _ (k c o e),by rw[Nb,f];rfl⟩)
  .rw[P6,r]
   simp[f]
  rw[P6,r]at ht;rcases Ml.1 ht with ht|ht
  .exact(g t ht).keep λo e=>Mb _ e
  have:=MM.1 ht;subst this;refine ve ?_;rw[<- f];exact Mn _ rfl
 obtain⟨h',rfl,g,k,f⟩:=m;have e:(cD _ _).take (args.map λp=>MD p.2).length=cD s.heap.objs.size args:=Oc (by simp[cD])
 rw[e]at g ⊢;refine fx (B h' g k<|by simpa using f)
end
theorem tZ(args:List (Bool×eH))(g:args.length<=3):
  Sz (Builtin.«zip.__new__» ⟨.type "zip"::args.map λp=>.ref p.2,[]⟩) (λ_ R s=>(∀p∈args,∃xs,SrcSq p.1 s.heap p.2 xs)/\
   ∀h',Sk h' (s.heap.objs.size+args.length+2) (s.heap.objs.size+args.length) (s.heap.objs.size+args.length+1) .none->gl h' (s.heap.objs.size+args.length) ((cD s.heap.objs.size args).map λt=>.ref t.i)->gl h' (s.heap.objs.size+args.length+1) (args.map λ_=>.none)->
    Bp (cD s.heap.objs.size args) 0 h'->(∀c o,s.heap.get? c=cb o->h'.get? c=cb o)->R (.ok<|.ret<|.ref (s.heap.objs.size+args.length+2)) { s with heap:=h' }):=
 .of_wp λprog w A R s h=>by
  obtain⟨r,u⟩:=h;have m:=sub_zip;have B:=r;unfold Builtin.«zip.__new__»
  wp_walk using qQ r
  intro h' y k f;have len:(cD s.heap.objs.size args).length<=3:=by simpa [cD] using g
  refine cx (y' ?_<|by rw[Mc];exact My len (by decide))
  refine cx (y' ?_<|by rw[Mc,Mc];exact My len (by decide))
  unfold Builtin.SmallTypes.newRecord Builtin.SmallTypes.ownedTupleFields
  wp_walk
  refine⟨_,rfl,?_⟩;simp only[Nb,f];refine u _ ?_ ?_ ?_ (λt v=>(y t v).keep λo e=>Mb _ (Mb _<|Mb _ e)) λc o e=>Mb _ (Mb _<|Mb _<|k c o e)
  .have q:=Mn ((h'.push { cls:=.type "tuple",data:=.seq ((cD s.heap.objs.size args).map λt=>MD t.i).toArray }).push { cls:=.type "tuple",data:=.seq (((cD s.heap.objs.size args).map λt=>MD t.i).map λ_=>Nl).toArray }) (o:={ cls:=.type "zip",data:=.fields #[.none,.bool eP,.bool eP,.ref (s.heap.objs.size+args.length),.ref (s.heap.objs.size+args.length+1)] }) rfl
   simp only[Nb,f]at q;exact q
  .refine Mb _ (Mb _ ?_)
   rw[<- f];exact Mn _ rfl
  refine Mb _ ?_;have q:=Mn (h'.push { cls:=.type "tuple",data:=.seq ((cD s.heap.objs.size args).map λt=>MD t.i).toArray }) (o:={ cls:=.type "tuple",data:=.seq (((cD s.heap.objs.size args).map λt=>MD t.i).map λ_=>Nl).toArray }) rfl;simp only[Nb,f]at q;rw[show (args.map λ_=>Nl)=(((cD s.heap.objs.size args).map λt=>MD t.i).map λ_=>Nl) from ?_]
  .exact q
  .rw[NQ,cD,NQ]
   exact Po λi=>by simp[Mv,QK];rfl
section
theorem nh(hn:args.length=2\/args.length=3)(hl:∀p∈args,∃xs,SrcSq p.1 s.heap p.2 xs)(h:∀h' z TI TO S,S.map (λt=>(t.b,t.l))=args->ZOk z TI TO S->Sk h' z TI TO .none->gl h' TI (S.map λt=>.ref t.i)->gl h' TO (S.map λ_=>.none)->Bp S 0 h'->(∀b∈mQ z TI TO S,s.heap.objs.size<=b)->
   (∀c o,s.heap.get? c=cb o->h'.get? c=cb o)->Q (.ref z) { s with heap:=h' }):
  ft (fy prog w) A (call (.type "zip") (args.map λp=>.ref p.2)) Q E s:=by
 have few:args.length<=3:=by lia
 have checks:Sw "zip" ⟨args.map λp=>.ref p.2,[]⟩=pure ()/\Sg "zip.__new__" ⟨.type "zip"::args.map λp=>.ref p.2,[]⟩=pure ()/\∀obj,argsOk "object.__init__" ⟨obj::args.map λp=>.ref p.2,[]⟩:=by
  rcases hn with hn|hn
  .obtain⟨a,b,rfl⟩:=Hd hn
   exact⟨F.typeCall_zip_2 _ _,F.newCall_zip_2 _ _,λobj=>F.args_object_init_3 obj _ _⟩
  .obtain⟨a,b,c,rfl⟩:=len3 hn
   exact⟨lj _ _ _,mS _ _ _,λobj=>g0 obj _ _ _⟩
 refine callType_new F.called_zip (by decide) checks.1 checks.2.1 checks.2.2 F.entry_zip_new (tZ args few) ⟨hl,λh' hz hTI hTO st k=>?_⟩
 have em:(cD s.heap.objs.size args).map (λt=>(t.b,t.l))=args:=Po λi=>by
  rw[Mv,eW];cases args[i]?<;>rfl
 have hlen:(cD s.heap.objs.size args).length=args.length:=by rw[<- em,Mc,em]
 have hi:∀t∈cD s.heap.objs.size args,s.heap.objs.size<=t.i/\t.i<s.heap.objs.size+args.length:=λt ht=>by
  obtain⟨i,il,rfl⟩:=O6 ht;have q:=eW (n:=s.heap.objs.size) (args:=args) (i:=i);rw[hlen]at il;simp[il,hlen]at q;rw[q];exact⟨Ny _ _,Nat.add_lt_add_left il _⟩
 have hb:∀b∈mQ (s.heap.objs.size+args.length+2) (s.heap.objs.size+args.length) (s.heap.objs.size+args.length+1) (cD s.heap.objs.size args),s.heap.objs.size<=b:=λb hb=>by
  simp only[mQ,Mm,Nd]at hb;rcases hb with e|e|e|⟨t,ht,e⟩
  .rw[e];exact My (Ny _ _) (Ny _ _)
  .rw[e];exact Ny _ _
  .rw[e];exact My (Ny _ _) (Ny _ _)
  .rw[<- e];exact(hi t ht).1
 have D:ZOk (s.heap.objs.size+args.length+2) (s.heap.objs.size+args.length) (s.heap.objs.size+args.length+1) (cD s.heap.objs.size args):=by
  refine⟨?_,λt ht q=>?_,λe=>?_,by lia⟩
  .simp only[Nr,Mm,Nd,not_or,not_exists,not_and]
   refine⟨⟨(show (_:Nat)≠(_:Nat) by lia),(show (_:Nat)≠(_:Nat) by lia),λt ht e=>?_⟩,⟨(show (_:Nat)≠(_:Nat) by lia),λt ht e=>?_⟩,λt ht e=>?_,?_⟩
   all_goals try exact absurd (show (t.i:Nat)<s.heap.objs.size+args.length from (hi t ht).2) (by rw[e];first|exact MK _|exact OQ.2 (Ny _ _))
   refine NB.2 λi j il jl ij=>?_;have ei:=eW (n:=s.heap.objs.size) (args:=args) (i:=i);have ej:=eW (n:=s.heap.objs.size) (args:=args) (i:=j);simp only[Mc,hlen]at il jl;simp[il,hlen]at ei;simp[jl,hlen]at ej;rw[OH,OH,ei,ej];exact(show (_:Nat)≠(_:Nat) by simp;lia)
  .have:(t.b,t.l)∈args:=em▸ME (f:=λt:ZS=>(t.b,t.l)) ht
   obtain⟨xs,sq⟩:=hl _ this;obtain⟨b,i,l⟩:=t;have lt:l<s.heap.objs.size:=by
    cases b with
    |true=>obtain⟨o,e,_⟩:=(show s.heap.IsList l xs from sq);exact Me e
    |false=>obtain⟨o,e,_⟩:=(show s.heap.IsTuple l xs from sq);exact Me e
   exact absurd lt (OQ.2<|hb _ q)
  .rw[e]at hlen
   simp at hlen;lia
 show _/\_;refine⟨⟨_,hz,rfl⟩,h h' _ _ _ _ em D hz hTI ?_ st hb k⟩;rw[show ((cD s.heap.objs.size args).map λ_=>Nl)=args.map λ_=>Nl by rw[<- em,NQ,em];rfl]
 exact hTO
end
def mI(K:Mi)(b:Bool)(H:Hp)(a:eH)(xs:List V):Prop:=if b=true then SqL K H a xs else jc K H a xs
section
variable{xs ys:List V}
theorem Inv.src(I:Inv X SW Z H s)(h:mI X.K b H a xs):∃S3:List cp,Vals xs S3/\SrcSq b s.heap a S3.toArray/\xs.length<=sizeLine:=by
 cases b with
 |true=>obtain⟨S3,r,p,z⟩:=I.list h;exact⟨_,r,p.isList,z⟩
 |false=>obtain⟨S3,r,p,z⟩:=I.tuple h;exact⟨_,r,p,z⟩
theorem Inv.src_inj(I:Inv X SW Z H s)(h:mI X.K b H a xs)(h':mI X.K b H a ys):xs=ys:=by
 cases b with
 |true=>exact I.list_inj h h'
 |false=>exact I.tuple_inj h h'
theorem Inv.src_ne(I:Inv X SW Z H s)(h:mI X.K b H a xs)(f:iH X SW H it):a≠it:=by
 obtain⟨f0,f1,u,p,r,q⟩:=f;intro e;subst e;have g:∀o,X.K.lookup a=cb o->False:=λo c=>by
  have m:=I.ok.mod.kin a o c;rcases p with z|z
  .exact I.ok.noex a o m z
  .exact absurd (Mz (Me (I.ok.bs a o m).1) z) (MK _)
 cases b with
 |true=>
  rcases (show SqL X.K H a xs from h) with (z|⟨o,z⟩)|⟨o,_,_,c,_⟩
  .rw[f0]at z;cases z
  .rw[f0]at z;cases z
  .exact g o c
 |false=>
  rcases (show jc X.K H a xs from h) with (z|⟨o,z⟩)|⟨o,_,_,c,_⟩
  .rw[f0]at z;cases z
  .rw[f0]at z;cases z
  .exact g o c
end
theorem Inv.turned4{t':Nat}(I:Inv X SW Z H s)(p:∀b∈fp,iH X SW H b)(k:∀b o,b∉fp->s.heap.get? b=cb o->h'.get? b=cb o):Inv X SW Z H { s with heap:=h',toks:=t' }:=by
 have g:∀b u,H b=cb u->b∉fp:=λb u e z=>by have:=(p b z).1;simp_all
 refine I.step (λb G=>?_) (λb o _ _ f e _=>k b o f e) (λb o _ _ f e _=>⟨_,k b o f e⟩) (λ_ _ _ _ n=>n)
  (λb o f e=>⟨o,k b o f e⟩) (λ_ _ e=>e) (λ_ _ _ e=>e) (λb L e=>⟨#[],by rw[e];simp⟩) (λm J=>?_) (λb u e=>?_) I.bare
 .obtain⟨f0,f1,R,M,O,N⟩:=p b G
  trivial
 .obtain⟨o,B,C,y,r⟩:=J
  exact⟨o,B,C,k _ o (λz=>(p _ z).2.1 rfl) y,r⟩
 refine (I.hok b u e).stay (λc v f q=>k c v ?_ q) (λ_ q=>q) λ_ _ q=>q;rcases f with z|z
 .rw[z];exact g b u e
 exact g c _ z
theorem Inv.turnedNew{t':Nat}{zs:List V}{us:Ta}{y:Obj}(I:Inv X SW Z H s)(G:∀b∈fp,iH X SW H b)(k:∀b o,b∉fp->s.heap.get? b=cb o->h'.get? b=cb o)(hlt:∀b∈fp,∃o,s.heap.get? b=cb o)(hlv:∀b∈fp,∃o,h'.get? b=cb o)(hT:h'.get? s.heap.objs.size=cb y)(M:y.cls=.type "tuple")(J:∃n,y.data=.seq us.toArray n)(r:Vals zs us)(L:y.dict=ed)(hz:zs.length<=sizeLine):Inv X SW Z (upd H s.heap.objs.size<|.tup zs) { s with heap:=h',toks:=t' }:=by
 have f:H s.heap.objs.size=none:=I.hok.fresh (Mo _);have p:∀b u,H b=cb u->b∉fp:=λb u e z=>by have:=(G b z).1;rw[e]at this;cases this
 refine I.step (g':=s.gens) (d':=s.drawn) (ch:=fp) (λb B=>?_) (λb o _ _ g e _=>k b o g e) (λb o _ _ g e _=>⟨o.slots,k b o g e⟩) (λb o _ e n=>by rw[aC (Mt<|Me e)];exact n)
  (λb o g e=>⟨o,k b o g e⟩) (λb C e=>by rw[aC (bc e f)];exact e) (λb o u e=>by rw[aC (bc e f)];exact e) (λb ps e=>⟨#[],by rw[aC (bc e f),e];simp⟩) (λm W=>?_) (λb u e=>?_) I.bare
 .obtain⟨f0,f1,f2,U,f4,Y⟩:=G b B
  exact⟨U,f1,f4,Y⟩
 .obtain⟨o,R,T,N,r⟩:=W
  exact⟨o,R,T,k _ o (λz=>(G _ z).2.1 rfl) N,r⟩
 .by_cases B:b=s.heap.objs.size
  .subst B
   rw[upd_same]at e;cases e;obtain⟨n,O⟩:=J;exact⟨hz,us,r,⟨y,hT,⟨M,n,O⟩,L⟩⟩
  .rw[aC B]at e
   refine (I.hok b u e).stay (λc v g q=>k c v ?_ q) (λc q=>by rw[aC (bc q f)];exact q) λc C q=>by rw[aC (bc q f)];exact q
   rcases g with z|z
   .rw[z];exact p b u e
   .exact p c _ z
noncomputable def uk(h:ka)(l:eH)(k:Nat):Option Value:=match h.get? l with
 |some o=>match o.data with
  |.seq xs _=>xs[k]?
  |_=>ed
 |_=>ed
theorem h7{xs:Th}(q:SrcSq b h l xs)(k:Nat):xs[k]?=uk h l k:=by
 have:∃o n,h.get? l=cb o/\o.data=.seq xs n:=by
  cases b with
  |true=>obtain⟨o,e,c,n,d⟩:=q;exact⟨o,n,e,d⟩
  |false=>obtain⟨o,e,c,n,d⟩:=q;exact⟨o,n,e,d⟩
 obtain⟨o,n,e,d⟩:=this;simp[uk,e,d]
noncomputable def JR(K:Mi)(L:List (Bool×eH)):It:=
 ⟨λi H=>∀p∈L,∃xs x,mI K p.1 H p.2 xs/\xs[i]?=cb x,
  λi H v H'=>∃T zs,H T=ed/\v=.ref T/\H'=upd H T (.tup zs)/\zs.length=L.length/\∀(j:Nat)(p:Bool×eH),L[j]?=cb p->∀xs,mI K p.1 H p.2 xs->xs[i]?=zs[j]?,
  λi H=>(∀p∈L,∃xs,mI K p.1 H p.2 xs)/\∃p∈L,∃xs,mI K p.1 H p.2 xs/\xs.length<=i⟩
structure ZTn(z TI TO:eH)(S:List ZS)(i:Nat)(h:ka):Prop where
 hz:Sk h z TI TO .none
 hTI:gl h TI (S.map λt=>.ref t.i)
 hTO:∃vs:List cp,vs.length=S.length/\gl h TO vs
 st:Bp S i h
theorem ZTn.obj{TI TO:eH}(q:ZTn z TI TO S i h):∀b∈mQ z TI TO S,∃o,h.get? b=cb o/\∀v,o.data≠.cell v:=λb c=>by
 obtain⟨f,_,e⟩:=q.hTO;simp at c;rcases c with rfl|rfl|rfl|⟨t,ht,rfl⟩
 .exact⟨_,q.hz,λv q=>nomatch q⟩
 .exact⟨_,q.hTI,λv q=>nomatch q⟩
 .exact⟨_,e,λv q=>nomatch q⟩
 exact(q.st t ht).lt
theorem ZTn.keep{TI TO:eH}(q:ZTn z TI TO S i h)(k:∀b∈mQ z TI TO S,∀o,h.get? b=cb o->h'.get? b=cb o):ZTn z TI TO S i h':=by
 obtain⟨f,l,e⟩:=q.hTO;exact⟨k z (by simp) _ q.hz,k TI (by simp) _ q.hTI,⟨f,l,k TO (by simp) _ e⟩,λt c=>(q.st t c).keep λo e=>k _ (by simp[ME c]) o e⟩
theorem rN{X:Cx}{SW:Tf}{Z:St}{H:Hp}{s:eC}{i:Nat}(I:Inv X SW Z H s):∀(S:List ZS)(us:Ta),us.map cb=S.map (λt=>uk s.heap t.l i)->(∀t∈S,∃xs x,mI X.K t.b H t.l xs/\xs[i]?=cb x)->
  ∃zs,Vals zs us/\zs.length=S.length/\∀(j:Nat)(p:Bool×eH),(S.map λt=>(t.b,t.l))[j]?=cb p->∀xs,mI X.K p.1 H p.2 xs->xs[i]?=zs[j]?
 |[],[],_,_=>⟨[],.nil,rfl,λj p e=>by simp at e⟩
 |[],_::_,e,_=>by simp at e
 |_::_,[],e,_=>by simp at e
 |t::S,u::us,e,h=>by
  simp at e;obtain⟨zs,r,l,g⟩:=rN I S us e.2 λt' ht=>h t' (.tail _ ht);obtain⟨xs,x,q,hx⟩:=h t (.head _);obtain⟨S3,rv,sq,z⟩:=I.src q;obtain⟨u',hu,ru⟩:=rv.get hx;have e1:cb u=cb u':=by rw[e.1,<- h7 sq i];simp_all
  cases e1;refine⟨_,.cons ru r,by simp[l],λj p ej ys hy=>?_⟩
  cases j with
  |zero=>
   simp at ej;subst ej;rw[I.src_inj hy q];trivial
  |succ j=>exact g j p (by trivial) ys hy
theorem o7{f:α->eH}:∀{L:List α}{us:Ta},Vals (L.map λp=>.ref (f p)) us->us=L.map λp=>.ref (f p):=by
 intro L
 induction L with
 |nil=>intro us h;cases h;rfl
 |cons p L ih=>
  intro us h;cases h with
  |cons r t=>cases r;rw[Ms,ih t]
theorem xZ{TI TO:eH}(D:ZOk z TI TO S):
  Turn P w K (.Tuple elts x1 tp) (JR K (S.map λt=>(t.b,t.l))) (mQ z TI TO S) z (ZTn z TI TO S) where
 mem:=.head _
 obj:=λi h st=>st.obj
 keep:=λi h h' st k=>st.keep k
 item:=by
  intro X U hw W hc i SW s Z H E I T st B;subst U hw W
  replace B:∀t∈S,∃M x,mI X.K t.b H t.l M/\M[i]?=cb x:=λt m=>B _ (ME m)
  have fits:∀t∈S,∃g x,SrcSq t.b _ t.l g/\g[i]?=cb x:=λt m=>by
   obtain⟨M,x,q,R⟩:=B t m;obtain⟨g,O,sq,_⟩:=I.src q;obtain⟨u,hu,_⟩:=O.get R;exact⟨_,u,sq,by simp_all⟩
  refine jo (F:=λt=>uk s.heap t.l i) (I.ok.hd hc) D st.hz (.inl ⟨rfl,rfl,st.hTO⟩) st.hTI st.st (λt m=>?_) (λh' N v hzz a3 a4 L=>?_) λh' ⟨t,m,eo⟩ _=>?_
  .obtain⟨g,x,sq,_⟩:=fits t m
   exact⟨g,sq,h7 sq i⟩
  .obtain⟨_,a1,a2⟩|⟨n,_⟩:=hzz
   case inr=>trivial
   refine⟨_,rfl,wpAny_letOwnedTupleGo_zip a1 λy J c=>?_⟩;obtain⟨zs,rz,lz,gz⟩:=rN I S N v B;have zl:=Me st.hz;have kk:∀b o,b∉mQ z TI TO S->s.heap.get? b=cb o->y.get? b=cb o:=λb o r e=>by
    simp only[Mm,not_or]at r;exact c.extBut b o r.1 (L b o (by simp only[Mm,not_or];exact⟨r.1,r.2.2.1,r.2.2.2⟩) e)
   obtain⟨G,Y,TITO,ni⟩:=lx D;have hT:y.get? _=cb _:=c.extBut _ _ (NR zl) a4;have C:ZTn z TI TO S (i+1) y:=by
    refine⟨J,c.extBut _ _ G.symm (L _ _ ?_ st.hTI),⟨N,?_,c.extBut _ _ Y.symm a2⟩,λt m=>(a3 t m).keep λo e=>c.extBut _ o (ni t m).1 e⟩
    .simp
     exact⟨G.symm,TITO,λt m=>(ni t m).2.1⟩
    have:=congrArg MI v;simpa using this
   refine⟨.ref _,_,I.turnedNew T kk (λb r=>let ⟨o,e,_⟩:=st.obj b r;⟨o,e⟩) (λb r=>let ⟨o,e,_⟩:=C.obj b r;⟨o,e⟩) hT rfl ⟨_,rfl⟩ rz rfl (by rw[lz];exact My D.few (by decide)),rfl,⟨_,zs,I.hok.fresh (Mo _),rfl,rfl,by simp_all,gz⟩,C,λb r=>?_⟩
   obtain⟨o,e,_⟩:=st.obj b r;rw[aC (Mt<|Me e)];exact(T b r).1
  obtain⟨g,x,sq,R⟩:=fits t m;rw[h7 sq i]at R;rw[R]at eo;cases eo
 done:=by
  intro X U hw W hc i SW s Z H E I T st B;subst U hw W;refine jo (F:=λt=>uk s.heap t.l i) (I.ok.hd hc) D st.hz (.inl ⟨rfl,rfl,st.hTO⟩) st.hTI st.st (λt m=>?_) (λh' N v _ a3 a4 L=>?_) λh' _ L=>⟨rfl,I.turned4 T λb o r e=>L b o (λx=>r ?_) e⟩
  .obtain⟨M,q⟩:=B.1 _ (ME m)
   obtain⟨g,O,sq,_⟩:=I.src q;exact⟨_,sq,h7 sq i⟩
  .obtain⟨p,hp,M,q,hle⟩:=B.2
   obtain⟨t,m,rfl⟩:=Nd.1 hp;obtain⟨g,O,sq,_⟩:=I.src q;have hl:=O.length;have:uk s.heap t.l i∈N.map some:=by rw[v];exact ME (f:=λt:ZS=>uk s.heap t.l i) m
   rw[<- (h7 sq i),QC,OY (by lia)]at this
   simp at this
  simp only[mQ,Mm]at x ⊢;rcases x with x|x|x
  .exact .inl x
  .exact .inr (.inr<|.inl x)
  .exact .inr (.inr<|.inr x)
 self:=λ_ _ _ _ _ st h=>R_ st.hz h
section
noncomputable def JE(K:Mi)(t:TA):TI:=λZ H R=>t Z H λc H1=>∃L:List (Bool×eH),(L.length=2\/L.length=3)/\c=L.map (λp=>.ref p.2)/\(∀p∈L,∃xs,mI K p.1 H1 p.2 xs)/\R (JR K L) H1
theorem E4{a:hB}{e:Tc}{o:TA}{p:Pos}(O:Gl X "zip")(T:X.mg "zip"=ed)(W:PA X (a::e) o)(U:eT (a::e) X.env=(eP,h9 a X.env)::eT e X.env:=by rfl)(hs2:(PySem.backTo pos<|starEach e X.env).any (·.1)=false:=by rfl):
  PI X (.Tuple elts x1 tp) (.Call (.Name "zip" p) (a::e) [] pos) (JE X.K o):=by
 intro SW s Z H R I h;refine Call_ (dD I O T (by rfl)<|MS (bz (W _ _ s Z H _ I h) λus s1 r=>?_) U hs2)
 obtain⟨Y,H1,I1,v,C⟩:=r;obtain⟨L,N,rfl,B,q⟩:=C;cases o7 v;refine nh N (λp M=>?_) λh' z TI TO S u D m f g J hb G=>?_
 .obtain⟨xs,q⟩:=B p M
  obtain⟨y,_,sq,_⟩:=I1.src q;exact⟨_,sq⟩
 refine R_ m ?_;subst u;exact⟨z,_,_,_,H1,rfl,I1.kept G,xZ D,⟨m,f,⟨_,by rw[Mc],g⟩,J⟩,λb c=>I1.fpOk (hb b c) (I1.hok.fresh<|hb b c),q⟩
noncomputable def Ite(K:Mi)(b:Bool)(l:eH):It:=
 ⟨λi H=>∃xs x,mI K b H l xs/\xs[i]?=cb x,
  λi H v H'=>∃T x,H T=ed/\v=.ref T/\H'=upd H T (.tup [.int i,x])/\(∀xs,mI K b H l xs->xs[i]?=cb x),
  λi H=>∃xs,mI K b H l xs/\xs.length<=i⟩
end
section
theorem Draws.src(y:A.handled=ed)(b:Bool)(it l:eH)(m:l≠it)(items:Th):
  Draws prog w A it [it,l] items.size (λi v=>items[i]?=cb v) (λi h=>SrcTn b it l i h/\SrcSq b h l items) where
 live:=λ_ _ c=>let ⟨o,ho,_⟩:=c.1.lt;⟨o,ho⟩
 frame:=λ_ _ _ c p=>⟨c.1.keep λo e=>p it (by simp) o e,c.2.keep λo e=>p l (by simp) o e⟩
 item:=λi s Q E q c r=>by
  exact eK c.1 c.2 (x:=items[i]) (by simp[q]) λh' g f=>r _ h' _ (by simp[q]) ⟨g,c.2.keep λo e=>f.extBut _ o m e⟩ f
 done:=λs Q E c u=>cW y c.1 c.2 (by simp) u
theorem tQ(b:Bool)(l:eH)(items:Th):
  Sz (Builtin.«enumerate.__new__» ⟨[.type "enumerate",.ref l],[]⟩) (λ_ R s=>SrcSq b s.heap l items/\
   R (.ok<|.ret<|.ref (s.heap.push { cls:=.type (gg b),data:=.fields #[.ref l,.int 0 0] }).objs.size)
    { s with heap:=(s.heap.push { cls:=.type (gg b),data:=.fields #[.ref l,.int 0 0] }).push { cls:=.type "enumerate",data:=.fields #[.none,.bool eP,.ref s.heap.objs.size,G' 0,.none,.none] } }):=
 .of_wp λprog w A R s h=>by
  obtain⟨p,g,d,o,m⟩:=s;obtain⟨q,h⟩:=h;have f:=sub_enumerate;have e:SrcSq b (Shared.heap ⟨p,g,d,o,m⟩) l items:=q
  wp_walk
  refine wpAny_stack_any λr=>fx ?_
  split
  .rename_i c _ _ _ _ _
   cases (c==Nx "enumerate")
   .wp_walk using d_ e
    exact⟨_,rfl,h⟩
   .wp_walk using d_ e
    exact⟨_,rfl,h⟩
  .wp_walk using d_ e
   exact⟨_,rfl,h⟩
theorem xD(f:SrcSq b s.heap l items)(h:∀h',IsEnum h' (s.heap.objs.size+1) s.heap.objs.size 0 .none->SrcTn b s.heap.objs.size l 0 h'->h'.objs.size=s.heap.objs.size+2->
   (∀b o,s.heap.get? b=cb o->h'.get? b=cb o)->Q (.ref (s.heap.objs.size+1)) { s with heap:=h' }):
  ft (fy prog w) A (call (.type "enumerate") [.ref l]) Q E s:=by
 refine callType_new F.called_enumerate (by decide) (F.typeCall_enumerate_1 _) (F.newCall_enumerate_1 _) (λobj=>F.args_object_init_2 _ _) F.entry_enumerate_new (tQ b l _) ⟨f,?_⟩
 have c:(s.heap.push { cls:=.type (gg b),data:=.fields #[.ref l,.int 0 0] }).objs.size=s.heap.objs.size+1:=Nb ..;rw[c]
 have e:IsEnum ((s.heap.push { cls:=.type (gg b),data:=.fields #[.ref l,.int 0 0] }).push
   { cls:=.type "enumerate",data:=.fields #[.none,.bool eP,.ref s.heap.objs.size,G' 0,.none,.none] }) (s.heap.objs.size+1) s.heap.objs.size 0 .none:=by
  have:=Mn (s.heap.push { cls:=.type (gg b),data:=.fields #[.ref l,.int 0 0] })
   (o:={ cls:=.type "enumerate",data:=.fields #[.none,.bool eP,.ref s.heap.objs.size,G' 0,.none,.none] }) rfl
  rw[c]at this;exact this
 refine⟨⟨_,e,rfl⟩,h _ e (ve<|Mb _<|Mn _ rfl) (by rw[Nb,c]) λb o x=>Mb _ (Mb _ x)⟩
end
theorem yy(b:Bool)(l e it:eH)(L:e≠it):
  Turn P w K (.Tuple elts x1 tp) (Ite K b l) [e,it] e (λi h=>(∃m,IsEnum h e it i m)/\SrcTn b it l i h) where
 mem:=by simp
 obj:=λi h C c g=>by
  obtain⟨⟨m,y⟩,G⟩:=C;have f:c=e\/c=it:=by simp_all
  rcases f with q|q<;>subst q
  .simp_all
  exact G.lt
 keep:=λi h h' C k=>by
  obtain⟨⟨m,y⟩,G⟩:=C;exact⟨⟨m,k e (by simp) _ y⟩,G.keep λo q=>k it (by simp) o q⟩
 item:=by
  intro X hP hw hK g i SW s Z H E I N C hg;subst hP hw hK;obtain⟨xs,x,M,W⟩:=hg;obtain⟨⟨m,y⟩,G⟩:=C;obtain⟨B,r,sq,z1⟩:=I.src M;obtain⟨u,hu,ru⟩:=r.get W;have hle:=I.src_ne M (N e<|by simp)
  have hli:=I.src_ne M (N it<|by simp)
  have hil:i<B.toArray.size:=by
   rw[Mr,<- r.length];exact(ML.mp W).1
  have D:Draws X.prog X.w X.A.in1 it [it,l] _ _ _:=Draws.src (A:=X.A.in1) (I.ok.hd g) b it l hli B.toArray;refine wpAny_pyNext_enum_itemD D y ⟨G,sq⟩ hil L (by simp[L,MJ hle]) λv h' tk hv ho Y U hsz hk=>?_
  have ev:v=u:=by
   have hu':B.toArray[i]?=cb u:=by simpa using hu
   rw[hu']at hv;exact(MQ hv).symm
  subst ev;refine⟨_,rfl,wpAny_letOwnedTupleGo_enum ho λJ O p=>?_⟩;have hes:=Mt (Me y);have n1:=Y.1.keep λo q=>p.extBut _ o L.symm q;have kk:∀c o,c∉[e,it]->s.heap.get? c=cb o->J.get? c=cb o:=λc o g q=>
   p.extBut c o (λz=>g (by simp[z])) (hk c o (λz=>g (by simp[z])) (λz=>g (by simp[z])) q)
  have hT':J.get? _=cb _:=p.extBut _ _ hes.symm U;have lv:∀c∈[e,it],∃o,s.heap.get? c=cb o:=λc g=>by
   have f:c=e\/c=it:=by simp_all
   rcases f with q|q<;>subst q
   .exact⟨_,y⟩
   obtain⟨o,q,_⟩:=G.lt;exact⟨o,q⟩
  have lv':∀c∈[e,it],∃o,J.get? c=cb o:=λc g=>by
   have f:c=e\/c=it:=by simp_all
   rcases f with q|q<;>subst q
   .exact⟨_,O⟩
   obtain⟨o,q,_⟩:=n1.lt;exact⟨o,q⟩
  have hTn:=I.hok.fresh (Mo _);refine⟨.ref _,_,I.turnedNew (s:=s) (zs:=[.int i,x]) N kk lv lv' hT' rfl ⟨_,rfl⟩ (.cons ⟨tk,rfl⟩<|.cons ru .nil) rfl (by show 2<=sizeLine;decide),rfl,⟨_,x,hTn,rfl,rfl,λzs R=>?_⟩,⟨⟨v,by assumption⟩,n1⟩,λc g=>?_⟩
  .rw[I.src_inj R M];exact W
  obtain⟨o,q⟩:=lv c g;rw[aC (Mt<|Me q)];exact(N c g).1
 done:=by
  intro X hP hw hK g i SW s Z H E I N C hg;subst hP hw hK;obtain⟨xs,M,W⟩:=hg;obtain⟨⟨m,y⟩,G⟩:=C;obtain⟨B,r,sq,z1⟩:=I.src M;have U:s.TypeIs (.ref e) _:=⟨_,y,rfl⟩;have hl:=r.length
  refine cx (wpAny_attempt (wpAny_callSpecial?_slot U QW
   (F' QW U F.entry_enumerate_next ?_<|F.args_enumerate_next_1 _)))
  show ft _ _ (field (.ref e) 2 >>= _) _ _ _;refine cx (pd y rfl rfl ?_);refine cx (cW (I.ok.hd g) G sq (by simp;lia) λh' x he' hx'=>?_)
  obtain⟨o,ho,hcl⟩:=hx';exact cx (Sa (T:="StopIteration") (b:=true) ⟨o,ho,hcl⟩ isSubtype_stop<|wpAny_pure ⟨rfl,I.turned4 (t':=s.toks) N λc o' f q=>he' c o' (λz=>f (by simp[z])) q⟩)
 self:=λ_ _ _ _ _ C h=>let ⟨⟨_,y⟩,_⟩:=C;wpAny_pyIter_enum y h
section
theorem rR:bI X (.builtin "isinstance") (λxs H Q=>∃x T t b,xs=[x,.ty T]/\TyOf X.K H x t/\W.kitOne X.K t (.type T)=cb b/\Q (.bl b) H):=by
 rintro SW s Z H xs o Q I r ⟨x,T,t,b,rfl,ty,e,q⟩
 obtain⟨u,c,rfl,m,g⟩:=r.two;obtain rfl:c=Nx T:=g;exact xF I m ty e λf=>⟨.bl b,H,I.tok f,rfl,q⟩
theorem zG(Y:X.calm=true):bI X (.builtin "all") (λxs H Q=>∃(l:eH)(bs:List Bool),xs=[.ref l]/\SqL X.K H l (bs.map V.bl)/\Q (.bl<|bs.all id) H):=by
 rintro SW s Z H xs us Q I r ⟨l,bs,rfl,R,q⟩
 obtain⟨u,rfl,U⟩:=r.one;cases U;obtain⟨f,M,p,hz⟩:=I.list R;have hl:=M.length;have C:l<s.heap.objs.size:=by obtain⟨o,e,_⟩:=p.isList;exact Me e
 have val:∀(i:Nat)(v:cp),f.toArray[i]?=cb v->∃c,bs[i]?=cb c/\v=.bool c:=λi v L=>by
  have m:f[i]?=cb v:=by simp_all
  have g:i<bs.length:=by
   have:=(ML.mp m).1
   simp_all
  obtain⟨w',G,W⟩:=M.get (by rw[Mv,Mj g];rfl)
  rw[m]at G;cases G;exact⟨_,Mj g,W⟩
 have J:f.toArray.size=bs.length:=by simp_all
 refine call_all_walk (O_ p.isList ⟨_,_,_,_,_,_,λi=>bs.getD i eP,rfl,Walks.list (A:=X.A.in1) (I.ok.hd Y) _ l (Mt C) _,⟨⟨_,Mn _ rfl,rfl,rfl⟩,p.isList.push _⟩,λi v s' Q' E' L O=>?_,λh' N T=>?_⟩)
 .obtain⟨c,G,rfl⟩:=val i v L
  refine n7 ?_
  simp_all
 have e:(NV f.toArray.size).all (λi=>bs.getD i eP)=bs.all id:=by
  rw[J,Bool.eq_iff_iff,Py,Py];constructor
  .intro h b B
   obtain⟨i,g,rfl⟩:=List.mem_iff_getElem.mp B;have:=h i (Oq.mpr g)
   rwa [P8,Mj g]at this
  .intro h i g
   have y:=Oq.mp g;rw[P8,Mj y];exact h _ (OG y)
 rw[e];refine⟨.bl (bs.all id),H,?_,rfl,q⟩;exact I.kept (t':=N) λb o B=>T b o (by simp;exact Mt (Me B)) (Mb _ B)
end
theorem dU:entryFor table "zip.__getattribute__"=cb Builtin.«object.__getattribute__»:=
 entryFor_alias (id':="object.__getattribute__") (by kernel_rfl) (by decide +kernel) (by decide +kernel) (by kernel_rfl)
theorem iF:N_ (.type "zip") "__getattr__"=pure none:=by rfl
theorem qC:N_ (.type "zip") "keys"=pure none:=by rfl
theorem dq:entryFor table "dict.update.loop"=cb Builtin.«dict.update.loop»:=entryFor_of_fast (by kernel_rfl)
theorem bO:plainId "dict.update.loop"=true:=by decide +kernel
theorem kT(a TI TO:eH)(f0:cp)(f1:Bool)(c:Str)(u:Tok)(m:N_ (.type "zip") c=pure ed)(e:(["__module__","__name__","__qualname__","__doc__","__annotations__"]:S_).contains c=eP)(hsz:c.length+100<=sizeLine:=by size_fits):
  Sz (Builtin.«object.__getattribute__» ⟨[.ref a,.str c u],[]⟩) (λA R s=>mW s.heap a TI TO f0 f1/\raisesAttr (.ref a) c A R s):=
 Meets.of_wp λprog w A R s f=>by
  obtain⟨q,g,d,p,o⟩:=s;obtain⟨r,f⟩:=f;have v:(⟨q,g,d,p,o⟩:eC).TypeIs (.ref a) "zip":=⟨_,r,rfl⟩
  repeat (any_goals (first|assumption|wp_step))
  simp only[e,MC,if_false]
  repeat (any_goals (first|assumption|wp_step))
  exact wpAny_raiseAttrError f.1 f.2 (attrMsg_fits (by decide +kernel) hsz)
section
theorem m_{TI TO:eH}{Q:Option cp->eC->Prop}(p:mW s.heap a TI TO f0 f1)(y:A.handled=ed)(h:∀h' q,(∀b o,s.heap.get? b=cb o->h'.get? b=cb o)->Q ed { s with heap:=h',toks:=q }):ft (fy prog w) A (R7 (.ref a) "keys") Q E s:=by
 obtain⟨u,g,d,q,r⟩:=s;have m:∀f,(⟨u,g,d,f,r⟩:eC).TypeIs (.ref a) "zip":=λ_=>⟨_,p,rfl⟩;have v:=sub_AttributeError;have B:=OP.lookup;have I:=OP.bind (.ref a);have J:=iF;unfold R7 getAttrBy? getAttrBy
 repeat (any_goals (first|assumption|exact m _|((with_reducible show ft _ _ (call (Value.builtin "zip.__getattribute__") _ _) _ _ _);refine pb OP (m _) dU (F.args_zip_getattribute_2 _ _) (kT a TI TO f0 f1 "keys" _ qC (by decide +kernel)<|by decide +kernel) ⟨p,y,λh' f e c=>?_⟩)|wp_step))
 obtain⟨t',C,G⟩:=c.there;show ft _ _ (Op _ _ _ _ _ _ _) _ _ _;unfold Op
 repeat (any_goals (first|assumption|wp_step))
 exact h _ _ c.keeps
end
def sY(h:ka)(T:eH)(k v:cp):Prop:=∃o n,h.get? T=cb o/\o.cls=.type "tuple"/\o.data=.seq #[k,v] n
structure PSrc(prog:g4)(w:kB)(d it:eH)(ps:List (cp×cp))(fp:Tb)(St:Nat->ka->Prop):Prop where
 off:d∉fp
 stay:∀i h h',St i h->(∀b o,b≠d->h.get? b=cb o->h'.get? b=cb o)->St i h'
 item:∀(A:kL)(i:Nat)(hi:i<ps.length)(s:eC)(Q:Option cp->eC->Prop)(E:Te),A.handled=ed->d<s.heap.objs.size->St i s.heap->
  (∀h' T,St (i+1) h'->sY h' T ps[i].1 ps[i].2->(∀c o,c∉fp->s.heap.get? c=cb o->h'.get? c=cb o)->Q (cb<|.ref T) { s with heap:=h' })->ft (fy prog w) A (RZ<|.ref it) Q E s
 done:∀(A:kL)(s:eC)(Q:Option cp->eC->Prop)(E:Te),A.handled=ed->St ps.length s.heap->(∀h',(∀c o,c∉fp->s.heap.get? c=cb o->h'.get? c=cb o)->Q ed { s with heap:=h' })->ft (fy prog w) A (RZ<|.ref it) Q E s
theorem tM{R:Si->eC->Prop}{d:eH}{ps:List (cp×cp)}{St:Nat->ka->Prop}(U:A.handled=ed)(C:PSrc prog w d it ps fp St)(P:Nat->ka->Prop)(Pd:∀i h,P i h->∃o,h.get? d=cb o)(stay:∀i h h',P i h->(∀b o,b∉fp->h.get? b=cb o->h'.get? b=cb o)->P i h')(step:∀(i:Nat)(W:i<ps.length)(s:eC)(Q:Unit->eC->Prop)(E:Te),P i s.heap->(∀h' r,P (i+1) h'->Nc d s.heap h'->Q () { s with heap:=h',toks:=r })->ft (fy prog w) A.in1 (dictSet d ps[i].1 ps[i].2) Q E s):
  ∀(n i:Nat)(s:eC),n=ps.length-i->i<=ps.length->St i s.heap->P i s.heap->
   (∀f:eC,f.os=s.os->f.gens=s.gens->f.drawn=s.drawn->P ps.length f.heap->(∀c o,c∉fp->c≠d->s.heap.get? c=cb o->f.heap.get? c=cb o)->R (.ok<|.ret .none) f)->
   ∀r:Nat,vr (fy prog w) A (.builtin "dict.update.loop" ⟨[.ref d,.ref it,G' r,.none],[]⟩) R s:=by
 intro n
 induction n with
 |zero=>
  intro i s hn W p y hR r;have M:i=ps.length:=by lia
  subst M;refine w4 dq ?_;rw[Qr bO _];show ft _ A.in1 (RZ (.ref it) >>= _) _ _ s;refine cx (C.done A.in1 s _ _ U p λh' u=>?_);exact cx (m:=Builtin.Dict.addKeywords d []) (fx<|wpAny_pure (hR _ rfl rfl rfl (stay _ _ _ y u) λc o B I e=>u c o B e))
 |succ n ih=>
  intro i s hn W p y hR r;have q:i<ps.length:=by lia
  obtain⟨od,Y⟩:=Pd _ _ y;refine w4 dq ?_;rw[Qr bO _];show ft _ A.in1 (RZ (.ref it) >>= _) _ _ s;refine cx (C.item A.in1 i q s _ _ U (Me Y) p λh' T v ⟨oT,m,O,e2,e3⟩ k1=>?_);have N:({ s with heap:=h' }:eC).TypeIs (.ref T) "tuple":=⟨_,O,e2⟩;refine cx (lb<|wpAny_bind<|wpAny_tryCatch ?_);unfold Builtin.Dict.pairItems;refine cx (M_ N ?_);rw[if_pos (by decide)]
  refine cx (t0 (s:={ s with heap:=h' }) O e3<|wpAny_pure ?_);show ft _ _ (K' [ps[i].1,ps[i].2]<|dictSet d ps[i].1 ps[i].2) _ _ _;refine lb (step i q { s with heap:=h' } _ _ (stay i _ _ y k1) λG L J g=>fx ⟨P3 bO _,?_⟩);exact ih (i+1) { s with heap:=G,toks:=L } (by lia) q (C.stay _ _ _ v λb o hb e=>g.extBut b o hb e) J (λf q1 q2 q3 q4 q5=>hR f q1 q2 q3 q4 λc o B I e=>q5 c o B I (g.extBut c o I<|k1 c o B e)) (r+1)
namespace F
theorem sE:mroOf (.type "dict")=pure [.type "dict",.type "object"]:=by rfl
theorem yL:N_ (.type "dict") "__new__"=pure (cb<|.builtin "dict.__new__"):=by rfl
theorem called_dict:TypeCalled "dict" "dict.__new__" "dict.__init__":=
 ⟨by rfl,by rfl,⟨_,_,sE⟩,madeBy_type sE (by trivial) (by decide +kernel),by decide +kernel,by rfl,PySem.F.slot_dict_init⟩
theorem typeCall_dict_1(a:cp):Sw "dict" ⟨[a],[]⟩=pure ():=by kernel_rfl
theorem newCall_dict_1(a:cp):Sg "dict.__new__" ⟨[.type "dict",a],[]⟩=pure ():=by kernel_rfl
theorem entry_dict_new:entryFor table "dict.__new__"=cb Builtin.«dict.__new__»:=entryFor_of_tree (by kernel_rfl)
theorem plain_dict_new:plainId "dict.__new__"=true:=by decide +kernel
theorem sub_dict:isSubtype (.type "dict") (.type "dict")=pure true:=by rfl
end F
section
theorem mT(a:cp){Q₁:Te}(h:Q₁ (.ref s.heap.objs.size) { s with heap:=s.heap.push { cls:=.type "dict",data:=.dict #[] } }):
  vr (fy prog w) A (.call (.builtin "dict.__new__") ⟨[.type "dict",a],[]⟩) (wants Q₁ E) s:=by
 refine SN F.plain_dict_new F.entry_dict_new (Sj (F.newCall_dict_1 a) ?_);have c:=F.sub_dict
 wp_walk
 exact h
theorem lK{T:String}{ps:List (cp×cp)}{fq:Tb}(I:A.handled=ed)(P:Nat->ka->Prop)(hT:∃o,s.heap.get? l=cb o/\o.cls=.type T)(ht:(Nx T != Nx "dict")=true)(keys:∀(A':kL)(f:eC)(Q:Option cp->eC->Prop)(E:Te),A'.handled=ed->(∀b o,s.heap.get? b=cb o->f.heap.get? b=cb o)->(∀h' B,(∀b o,f.heap.get? b=cb o->h'.get? b=cb o)->Q ed { f with heap:=h',toks:=B })->ft (fy prog w) A' (R7 (.ref l) "keys") Q E f)(iter:∀(A':kL)(f:eC)(Q:Te)(E:Te),(∀b o,s.heap.get? b=cb o->f.heap.get? b=cb o)->s.heap.objs.size<f.heap.objs.size->
   (∀h' it fp St,(∀b o,f.heap.get? b=cb o->h'.get? b=cb o)->PSrc prog w s.heap.objs.size it ps fp St->St 0 h'->(∀b∈fp,b∈fq\/s.heap.objs.size<b)->Q (.ref it) { f with heap:=h' })->ft (fy prog w) A' (Sc<|.ref l) Q E f)(Pd:∀i h,P i h->∃o,h.get? s.heap.objs.size=cb o)(h0:∀h',(∀b o,s.heap.get? b=cb o->h'.get? b=cb o)->h'.get? s.heap.objs.size=cb { cls:=.type "dict",data:=.dict #[] }->P 0 h')(stay:∀i h h',P i h->(∀b o,b∉fq->b<=s.heap.objs.size->h.get? b=cb o->h'.get? b=cb o)->P i h')(step:∀(i:Nat)(hi:i<ps.length)(f:eC)(Q:Unit->eC->Prop)(E:Te),P i f.heap->(∀h' B,P (i+1) h'->Nc s.heap.objs.size f.heap h'->Q () { f with heap:=h',toks:=B })->ft (fy prog w) A.in1.in1 (dictSet s.heap.objs.size ps[i].1 ps[i].2) Q E f)(h:∀f:eC,f.os=s.os->f.gens=s.gens->f.drawn=s.drawn->P ps.length f.heap->(∀c o,c∉fq->s.heap.get? c=cb o->f.heap.get? c=cb o)->Q (.ref s.heap.objs.size) f):
  ft (fy prog w) A (call (.type "dict") [.ref l]) Q E s:=by
 refine callType_codes (Q₁:=λobj m=>obj=.ref s.heap.objs.size/\m={ s with heap:=s.heap.push { cls:=.type "dict",data:=.dict #[] } }) F.called_dict (F.typeCall_dict_1 _) PySem.F.entry_dict_init (mT _ ⟨rfl,rfl⟩) ?_
 rintro obj m ⟨rfl,rfl⟩
 have up:∀c o,s.heap.get? c=cb o->(s.heap.push { cls:=.type "dict",data:=.dict #[] }).get? c=cb o:=λc o e=>Mb _ e;have g:(s.heap.push { cls:=.type "dict",data:=.dict #[] }).get? s.heap.objs.size=cb { cls:=.type "dict",data:=.dict #[] }:=Mn _ rfl;have p:({ s with heap:=s.heap.push { cls:=.type "dict",data:=.dict #[] } }:eC).TypeIs (.ref s.heap.objs.size) "dict":=⟨_,g,rfl⟩;refine⟨p,PySem.F.args_dict_init_2 _ _,?_⟩;unfold Builtin.«dict.__init__» Builtin.Dict.selfAndRest;refine cx (cx<|wpAny_notOrdered_dict p<|wpAny_pure ?_);show ft _ _ (Pq "dict.__init__" s.heap.objs.size (.ref l) [] .none) _ _ _;unfold Pq;obtain⟨M,O,cT⟩:=hT;refine cx (M_ (T:=T) ⟨M,up _ _ O,cT⟩ ?_);rw[if_pos ht];refine cx (keys _ _ _ _ I up λr u hk₁=>?_);rw[if_pos (show (none:Option cp).isNone=true from rfl)];have q:=hk₁ _ _ g;refine cx (RW<|wpAny_bind (iter _ { s with heap:=r,toks:=u } _ _ (λc o e=>hk₁ c o (up c o e)) (Me q) λv it fp St k₂ C y G=>fx ⟨P3 bO _,?_⟩))
 exact tM (A:=A.in1) I C P Pd (λi h h' U N=>stay i h h' U λb o n le e=>N b o (λz=>(G b z).elim n λlt=>OQ.2 le lt) e) step ps.length 0 { s with heap:=v,toks:=u } (by simp) (Nj _) y (h0 _ (λb o e=>k₂ b o (hk₁ b o<|up b o e))<|k₂ _ _ q)
  (λf Y W L J R=>⟨rfl,h f Y W L J λc o n e=>R c o (λz=>(G c z).elim n λlt=>Nat.lt_asymm lt (Me e)) (Mt<|Me e) (k₂ c o<|hk₁ c o<|up c o e)⟩) 0
end
structure ZPr(z TI TO d:eH)(S:List ZS)(F:ZS->List cp)(i:Nat)(h:ka):Prop where
 hz:∃f0 f1,mW h z TI TO f0 f1/\(f0=.none/\f1=eP/\(∃vs:List cp,vs.length=S.length/\gl h TO vs)\/∃(T:eH)(oT:Obj),f0=G' T/\h.get? T=cb oT/\T≠d/\T∉mQ z TI TO S)
 hTI:gl h TI (S.map λt=>.ref t.i)
 st:Bp S i h
 sq:∀t∈S,SrcSq t.b h t.l (F t).toArray
theorem Er{TI TO d:eH}{F:ZS->List cp}{xs ys:Ta}(D:ZOk z TI TO S)(W:S.map F=[xs,ys])(hd:d∉mQ z TI TO S)(Y:∀t∈S,t.l≠d)(len:xs.length=ys.length):
  PSrc prog w d z (xs.zip ys) (mQ z TI TO S) (ZPr z TI TO d S F) where
 off:=hd
 stay:=λi h h' p k=>by
  have ne:∀b∈mQ z TI TO S,b≠d:=λb B e=>hd (e▸B);obtain⟨⟨f0,f1,q,r⟩,g,p,sq⟩:=p;refine⟨⟨f0,f1,k _ _ (ne z<|by simp) q,?_⟩,k _ _ (ne TI<|by simp) g,λt f=>(p t f).keep λo e=>k _ o (ne t.i<|by simp[ME f]) e,λt f=>(sq t f).keep λo e=>k _ o (Y t f) e⟩
  rcases r with⟨a,b,vs,l,e⟩|⟨T,y,a,b,c,e⟩
  .exact .inl ⟨a,b,vs,l,k _ _ (ne TO<|by simp) e⟩
  .exact .inr ⟨T,y,a,k _ _ c b,c,e⟩
 item:=by
  intro A i hi s Q E O dl p M;obtain⟨⟨f0,f1,q,r⟩,g,p,sq⟩:=p;have hx:i<xs.length:=by rw[List.length_zip]at hi;lia
  have hy:i<ys.length:=by lia
  obtain⟨I,zTO,TITO,ni⟩:=lx D;have pr:∀m:List cp,m.map cb=S.map (λt=>(F t)[i]?)->m=[xs[i],ys[i]]:=λm e=>by
   have:S.map (λt=>(F t)[i]?)=(S.map F).map (·[i]?):=by rw[NQ];rfl
   rw[this,W]at e;rcases m with _|⟨u,_|⟨v,_|⟨_,_⟩⟩⟩<;>simp[hx,hy]at e ⊢
   exact e
  have R:∀t∈S,(F t)[i]?≠none:=λt f e=>by
   have:F t∈S.map F:=ME f;rw[W]at this;have Y:(F t).length<=i:=Qb.1 e;simp at this;rcases this with e|e<;>rw[e]at Y<;>lia
  have L:∀b∈mQ z TI TO S,b<s.heap.objs.size\/b=TO:=λb B=>by
   simp at B;rcases B with rfl|rfl|rfl|⟨t,f,rfl⟩
   .exact .inl (Me q)
   .exact .inl (Me g)
   .exact .inr rfl
   .obtain⟨o,e,_⟩:=(p t f).lt
    exact .inl (Me e)
  have up:∀{c:eH},c∉mQ z TI TO S->c∉z::TO::S.map ZS.i:=λn x=>n (by
   simp only[mQ,Mm]at x ⊢;exact x.imp id .inr)
  refine jo (F:=λt=>(F t)[i]?) O D q (r.imp id λ⟨T,y,a,b,_⟩=>⟨T,y,a,b⟩) g p (λt f=>⟨_,sq t f,by simp⟩) (λh' m e a G hT C=>?_) (by rintro h' ⟨t,f,eo⟩ _;exact absurd eo (R t f))
  have N:=λc o n=>C c o (up n);refine M h' _ ⟨?_,C _ _ ?_ g,G,λt f=>(sq t f).keep λo e=>N _ o (D.off t f) e⟩ ⟨_,0,hT,rfl,by rw[pr m e];simp⟩ N
  .rcases r with⟨rfl,rfl,vs,hv,J⟩|⟨T,y,rfl,hT',nd,nf⟩
   .obtain⟨_,U,_⟩|⟨n,_⟩:=a
    case inr=>exact absurd rfl n
    refine⟨_,_,U,.inr ⟨_,_,rfl,hT,NR dl,λB=>?_⟩⟩;rcases L _ B with lt|e
    .exact MK _ lt
    .exact MK _ (e▸Me J)
   .obtain⟨n,_⟩|⟨_,U⟩:=a
    .cases n
    .exact⟨_,_,U,.inr ⟨_,_,rfl,N _ _ nf hT',nd,nf⟩⟩
  .simp
   exact⟨I.symm,TITO,λt f=>(ni t f).2.1⟩
 done:=by
  intro A s Q E O p M;obtain⟨⟨f0,f1,q,r⟩,g,p,sq⟩:=p;have R:∀m:List cp,m.map cb≠S.map (λt=>(F t)[(xs.zip ys).length]?):=λm e=>by
   have:S.map (λt=>(F t)[(xs.zip ys).length]?)=(S.map F).map (·[(xs.zip ys).length]?):=by rw[NQ];rfl
   rw[this,W]at e;rcases m with _|⟨u,m⟩<;>simp[len]at e
  refine jo O D q (r.imp id λ⟨T,y,a,b,_⟩=>⟨T,y,a,b⟩) g p (λt f=>⟨_,sq t f,by simp⟩) (λh' m e=>absurd e (R m)) λh' _ C=>M h' λc o n=>C c o λx=>n ?_
  simp only[mQ,Mm]at x ⊢;exact x.imp id .inr
theorem iJ:fillsNumberSlot (.type "tuple") "mul"=pure false:=
 PySem.fillsNumberSlot_seq Oa.lookup (by decide +kernel) rfl (by decide +kernel)
theorem oy:seqRepeat? (.type "tuple")=pure (cb<|.builtin "tuple.__mul__"):=by
 rfl
theorem lV(a:Int)(t:Tok)(l:eH)(items:Th)(n:Nat)(dd:Option eH)(c:Array (Option cp)):
  Sz (Builtin.«int.__rmul__» ⟨[.int a t,.ref l],[]⟩) (λ_ R s=>s.heap.get? l=cb { cls:=.type "tuple",dict:=dd,data:=.seq items n,slots:=c }/\R (.ok<|.ret Value.notImplemented) s):=
 .of_wp λprog w A R s h=>by obtain⟨e,h⟩:=h;wp_walk;simp_all
theorem l_(l:eH)(items:Th)(n:Nat)(dd:Option eH)(G:Array (Option cp))(x:Int)(u:Tok)(U:1<x)(B:x<=1000)(C:items.size<=1000)(q:items.isEmpty=eP):
  Sz (Builtin.«tuple.__mul__» ⟨[.ref l,.int x u],[]⟩) (λ_ R s=>s.heap.get? l=cb { cls:=.type "tuple",dict:=dd,data:=.seq items n,slots:=G }/\
   R (.ok<|.ret<|.ref s.heap.objs.size) { s with heap:=s.heap.push { cls:=.type "tuple",data:=.seq ((Mh x.toNat items).foldl (·++·) #[]) } }):=
 .of_wp λprog w A R s h=>by
  obtain⟨N,g,d,I,J⟩:=s;obtain⟨m,h⟩:=h;have f1:=AutoSeq1.idx_int;have L:=AutoSeq1.sub_tuple_tuple;have y:(decide (x < -(2 ^ 63))||decide (x>=2 ^ 63))=false:=by simp;lia
  have v:(items.isEmpty||x==1)=false:=by rw[q];simp;lia
  have r:(decide (x<=0)||items.isEmpty)=false:=by rw[q];simp;lia
  have O:(items.size:Int)*x<=1000000:=by
   have T:(items.size:Int)*x<=1000*x:=Int.mul_le_mul_of_nonneg_right (by lia) (by lia)
   lia
  have p:¬((items.size:Int)*x>(2 ^ 63-1) / 8):=by lia
  have o:Pa ((items.size:Int)*x)=false:=by
   unfold Pa;have:(1000000:Int)<=(sizeLine:Int):=by decide
   exact decide_eq_false (by lia)
  wp_walk using oD m
  try simp only[y,MC,if_false]
  wp_walk using oD m
  try simp only[v,MC,if_false]
  wp_walk using oD m
  try simp only[r,MC,if_false]
  wp_walk using oD m
  rw[if_neg p];simp only[o,MC,if_false];unfold Builtin.Tuple.tupleExact;have f:((Mh x.toNat items).foldl (·++·) #[]).toList.length<=sizeLine:=by
   have e:∀(k:Nat)(c:Th),((Mh k items).foldl (·++·) c).size=c.size+k*items.size:=by
    intro k
    induction k with
    |zero=>intro c;simp
    |succ k ih=>intro c;rw[NL,Ng,ih,Array.size_append,Nat.succ_mul];lia
   rw[MY,e];have:x.toNat*items.size<=1000*1000:=Nat.mul_le_mul (by lia) C
   have M:(1000*1000:Nat)<=sizeLine:=by decide
   simp only[Mr,Mp]at *;lia
  refine cx (y' (fx ⟨_,rfl,?_⟩) f);simpa using h
theorem mJ(l:eH)(items:Th)(n:Nat)(dd:Option eH)(e:Array (Option cp))(u:Tok):
  Sz (Builtin.«tuple.__mul__» ⟨[.ref l,.int 1 u],[]⟩) (λ_ R s=>s.heap.get? l=cb { cls:=.type "tuple",dict:=dd,data:=.seq items n,slots:=e }/\R (.ok<|.ret<|.ref l) s):=
 .of_wp λprog w A R s h=>by
  obtain⟨c,h⟩:=h
  wp_walk using oD c
  simp_all
theorem kJ(l:eH)(items:Th)(n:Nat)(dd:Option eH)(g:Array (Option cp))(x:Int)(u:Tok)(p:x<=0)(m:-1000<=x)(f:items.isEmpty=eP):
  Sz (Builtin.«tuple.__mul__» ⟨[.ref l,.int x u],[]⟩) (λ_ R s=>s.heap.get? l=cb { cls:=.type "tuple",dict:=dd,data:=.seq items n,slots:=g }/\
   R (.ok<|.ret<|.ref s.heap.objs.size) { s with heap:=s.heap.push { cls:=.type "tuple",data:=.seq #[] } }):=
 .of_wp λprog w A R s h=>by
  obtain⟨c,h⟩:=h;have o:(decide (x < -(2 ^ 63))||decide (x>=2 ^ 63))=false:=by simp;lia
  have e:(items.isEmpty||x==1)=false:=by rw[f];simp;lia
  wp_walk using oD c
  try simp_all
  wp_walk using oD c
  try simp only[e,if_false]
  wp_walk using oD c
  simp_all
section
theorem xy{S3:Ta}{k:Int}{u:Tok}(L:s.heap.IsTuple l S3.toArray)(R:S3≠[])(J:0<=k)(I:k<=1000)(T:S3.length<=1000)(M:k=1->Q (.ref l) s)(h2:k≠1->Q (.ref s.heap.objs.size) { s with heap:=s.heap.push { cls:=.type "tuple",data:=.seq (Mh k.toNat S3).flatten.toArray } }):
  ft (fy prog w) A (lu .Mult (.ref l)<|.int k u) Q E s:=by
 obtain⟨⟨cls,g,data,o⟩,e,C,n,r⟩:=L;subst C r;have q:S3.toArray.isEmpty=false:=by simp_all
 refine wpAny_binaryOp_repeat_ref (by decide) ⟨_,e,rfl⟩ (λv=>typeIs_int v k u) iJ PySem.F.fills_int_mul Qh oy rfl
  (pb Qh rfl PySem.F.entry_int_rmul (PySem.F.args_int_rmul_2 _ _) (lV k u l _ n g o) ⟨e,rfl,⟨_,e,rfl⟩,?_⟩)
 by_cases f:k=1
 .subst f
  exact pb Oa ⟨_,e,rfl⟩ Oy (Ov _ _) (mJ l _ n g o u) ⟨e,M rfl⟩
 .have y:=h2 f
  by_cases p:k<=0
  .refine pb Oa ⟨_,e,rfl⟩ Oy (Ov _ _) (kJ l _ n g o k u p (by lia) q) ⟨e,?_⟩
   have N:k.toNat=0:=by lia
   simp_all
  .refine pb Oa ⟨_,e,rfl⟩ Oy (Ov _ _) (l_ l _ n g o k u (by lia) I (by assumption) q) ⟨e,?_⟩
   have O:∀(m:Nat)(c:List _),List.foldl (λx1 G=>x1++G) c.toArray (Mh m S3.toArray)=(c++(Mh m S3).flatten).toArray:=by
    intro m
    induction m with
    |zero=>simp
    |succ m ih=>
     intro c;have B:c.toArray++S3.toArray=(c++S3).toArray:=by simp
     rw[NL,Ng,B,ih,NL,List.flatten_cons,MB]
   simp_all
end
section
theorem B6:b_ X (lu .Add) (λx y H Q=>∃a b ys,x=.ref a/\y=.ref b/\jc X.K H a []/\jc X.K H b ys/\Q (.ref b) H):=by
 intro SW s Z H x y v u Q I Y T h;obtain⟨a,b,ys,rfl,rfl,U,hb,q⟩:=h;cases Y;cases T;obtain⟨o,O,M,_⟩:=I.tuple U;obtain⟨e,r2,N,_⟩:=I.tuple hb;obtain rfl:o=[]:=O.zero;obtain⟨⟨cls,R,L,W⟩,G,J,n,B⟩:=id M;obtain⟨⟨C,r,m,p⟩,g,c,n2,f⟩:=id N;simp only at J B c f;subst J B c f
 exact SI ⟨_,G,rfl⟩ ⟨_,g,rfl⟩ Se Su OE Oz (Ow _ _)
  (tuple_addW0 a b #[] e.toArray n n2 R r W p rfl) ⟨G,g,⟨.ref b,H,I,rfl,q⟩⟩
theorem An(f:n.log2<2000)(e:0<n):b_ X (lu .FloorDiv) (rI (λ_ j=>j=(n:Int)) λi j=>.int (i / j)):=opI λi j _ _ _ _ _ c q=>by
 subst c;refine floordiv_int (by lia) ?_ (.inl<|PyProof.noPylong_of_log2<|by simpa using Pr f (by decide))
 rw[Int.fdiv_eq_ediv_of_nonneg _ (by lia)]
 exact q
noncomputable def zp(K:Mi)(b1 b2:Bool)(t:TA):TE:=λZ H Q=>t Z H λc H1=>∃(l1 l2:eH)(ks:List bh)(ys:List V),c=[.ref l1,.ref l2]/\mI K b1 H1 l1 (ks.map kV)/\mI K b2 H1 l2 ys/\ks.length=ys.length/\0<ks.length/\ks.length<=1000/\
 ∀d,H1 d=ed->Q (.ref d) (upd H1 d<|.dK<|(ks.zip ys).foldl (λa p=>di a p.1 p.2) [])
theorem tW{xs:List (bh×cp)}{k:bh}{u:cp}:(stored xs k u).length<=xs.length+1:=by
 unfold stored
 split
 .rw[Mc];lia
 simp
theorem iG:∀(rs xs:List (bh×cp)),(rs.foldl (λa r=>stored a r.1 r.2) xs).length<=xs.length+rs.length
 |[],xs=>by simp
 |r::rs,xs=>by
  have:=iG rs (stored xs r.1 r.2);have:=tW (xs:=xs) (k:=r.1) (u:=r.2);rw[Ng,Md];lia
theorem EC:∀{SY:List (bh×V)}{rs:List (bh×cp)},KV SY rs->∀{a:List (bh×V)}{xs:List (bh×cp)},KV a xs->KV (SY.foldl (λa p=>di a p.1 p.2) a) (rs.foldl (λa r=>stored a r.1 r.2) xs):=by
 intro SY rs h;unfold KV at h
 induction h with
 |nil=>intro a xs h;exact h
 |cons h _ ih=>
  intro a xs c;rw[Ng,Ng];refine ih ?_;rw[<- h.1];exact c.put _ h.2
theorem tH{g:eC}{T:String}{rs:List (bh×cp×cp)}{SY:List (bh×V)}{fq:Tb}{Q:V->Hp->Prop}(hc:X.calm=true)(I:Inv X SW Z H g)(o1:s.os=g.os)(o2:s.gens=g.gens)(o3:s.drawn=g.drawn)(k0:∀c o,g.heap.get? c=cb o->s.heap.get? c=cb o)(sz:g.heap.objs.size<=s.heap.objs.size)(B:∀b∈fq,g.heap.objs.size<=b/\b<s.heap.objs.size)(kv:KV SY (rs.map λr=>(r.1,r.2.2)))(u:∀r∈rs,(aP X.prog X.w).is r.1 r.2.1=true)(hz:rs.length<=1000000)(hT:∃o,s.heap.get? l=cb o/\o.cls=.type T)(ht:(Nx T != Nx "dict")=true)(keys:∀(A':kL)(f:eC)(Q:Option cp->eC->Prop)(E:Te),A'.handled=ed->(∀b o,s.heap.get? b=cb o->f.heap.get? b=cb o)->(∀h' tk,(∀b o,f.heap.get? b=cb o->h'.get? b=cb o)->Q ed { f with heap:=h',toks:=tk })->ft (fy X.prog X.w) A' (R7 (.ref l) "keys") Q E f)(iter:∀(A':kL)(f:eC)(Q:Te)(E:Te),(∀b o,s.heap.get? b=cb o->f.heap.get? b=cb o)->s.heap.objs.size<f.heap.objs.size->
   (∀h' it fp St,(∀b o,f.heap.get? b=cb o->h'.get? b=cb o)->PSrc X.prog X.w s.heap.objs.size it (rs.map λr=>(r.2.1,r.2.2)) fp St->St 0 h'->(∀b∈fp,b∈fq\/s.heap.objs.size<b)->Q (.ref it) { f with heap:=h' })->ft (fy X.prog X.w) A' (Sc<|.ref l) Q E f)(q:∀p,H p=ed->Q (.ref p) (upd H p<|.dK<|SY.foldl (λa p=>di a p.1 p.2) [])):
  ft (fy X.prog X.w) X.A (call (.type "dict") [.ref l]) (EP X SW Z Q) X.xe s:=by
 refine lK (I.ok.hd hc) (λi h=>h.DictOf (aP X.prog X.w) _ (((rs.take i).map λr=>(r.1,r.2.2)).foldl (λa r=>stored a r.1 r.2) [])) hT ht keys iter (by rintro i h ⟨o,C,G,e,_⟩;exact⟨o,e⟩) ?_ ?_ ?_ ?_
 .intro h' O hd
  obtain⟨o,C,G,J,r⟩:=Heap.DictOf.new (knd:=aP X.prog X.w) s.heap;rw[Mn _ rfl]at J;cases J;exact⟨_,C,G,hd,r⟩
 .rintro i h h' ⟨o,C,G,J,r⟩ L
  exact⟨o,C,G,L _ o (λz=>MK _ (B _ z).2) (Mo _) J,r⟩
 .rintro i hi f Q' E' hd hQ
  have y:i<rs.length:=by simpa using hi
  simp;have m:(((rs.take i).map λr=>(r.1,r.2.2)).foldl (λa r=>stored a r.1 r.2) []).length<=sizeLine:=by
   have:=iG ((rs.take i).map λr=>(r.1,r.2.2)) [];have h2:(1000000:Nat)<=sizeLine:=by decide
   simp only[Mp,Mc,OF]at this;lia
  refine wpAny_dictSet_pairs (u rs[i] (OG y)) hd (λh' M sb=>hQ h' _ ?_ sb) m;rw[Pn y,Nt,List.foldl_append];exact M
 .rintro f U W p3 hd O
  simp at hd;have R:=I.big;have hn:=I.hok.fresh sz;obtain⟨hh',g',Y,t',N⟩:=f;obtain rfl:N=g.os:=U.trans o1;obtain rfl:g'=g.gens:=W.trans o2;obtain rfl:Y=g.drawn:=p3.trans o3;refine⟨.ref _,_,I.laid (t':=t') (λc o e=>O c o (λz=>OQ.2 (B c z).1 (Me e)) (k0 c o e)) sz ?_,rfl,q _ hn⟩;have v:=EC kv (a:=[]) (xs:=[]) .nil;refine B9 ?_ (by lia) v hd
  rw[NF v];have:=iG (rs.map λr=>(r.1,r.2.2)) [];have h2:(1000000:Nat)<=sizeLine:=by decide
  simp at this;lia
theorem J6:∀{ks:List bh}{S3:Ta}{ys:List V}{us:Ta},Vals (ks.map kV) S3->Vals ys us->ks.length=ys.length->
  KV (ks.zip ys) ((ks.zip<|S3.zip us).map λr=>(r.1,r.2.2))/\(∀r∈ks.zip (S3.zip us),(aP P w).is r.1 r.2.1=true)/\(ks.zip<|S3.zip us).map (λr=>(r.2.1,r.2.2))=S3.zip us:=by
 intro ks
 induction ks with
 |nil=>
  intro S3 ys us h h' e;cases h;cases ys with
  |nil=>cases h';exact⟨.nil,λr h=>by simp at h,rfl⟩
  |cons _ _=>simp at e
 |cons k ks ih=>
  intro S3 ys us h h' e;cases ys with
  |nil=>simp at e
  |cons y ys=>
   cases h with
   |cons r t=>
    cases h' with
    |cons r' t'=>
     obtain⟨a,b,c⟩:=ih (ys:=ys) t t' (by simpa using e)
     exact⟨.cons ⟨rfl,r'⟩ a,λq f=>(Mm.1 f).elim (λe=>by subst e;exact nA r) (b q),by simpa using c⟩
theorem ue{a b:hB}{ta:TA}{p p2 c:Pos}(b1 b2:Bool)(hc:X.calm=true)(hg:Gl X "zip")(hm:X.mg "zip"=ed)(hg2:Gl X "dict")(hm2:X.mg "dict"=ed)(ha:PA X [a,b] ta)(hs:eT [a,b] X.env=[(eP,h9 a X.env),(eP,h9 b X.env)]:=by rfl)(hs2:eT [b] X.env=[(eP,h9 b X.env)]:=by rfl)(hs3:eT [Qp (.Name "zip" p2) [a,b] [] c] X.env=[(eP,h9 (.Call (.Name "zip" p2) [a,b] [] c) X.env)]:=by rfl):
  PE X (.Call (.Name "dict" p) [.Call (.Name "zip" p2) [a,b] [] c] [] pos) (zp X.K b1 b2 ta):=by
 intro SW s Z H Q I h;refine Call_ (dD I hg2 hm2 (by decide +kernel:g3 "dict"=cb (.type "dict"))<|MS ?_ hs3 rfl)
 rw[hs3];show ft _ _ (spliced ((eP,_)::lq pos [])) _ _ s;refine O9 ?_;refine Call_ (dD I hg hm (by decide +kernel:g3 "zip"=cb (.type "zip"))<|MS (bz (ha c SW s Z H _ I h) λus M zz=>?_) (by rw[hs,hs2])<|by rw[hs2];rfl)
 obtain⟨vs,H1,I1,r1,q1⟩:=zz;obtain⟨l1,l2,ks,ys,e,q1,q2,hl,h0,hz,q⟩:=q1;subst e;obtain⟨u1,u2,rfl,ru1,ru2⟩:=r1.two;cases ru1;cases ru2;obtain⟨r,W,B,z1⟩:=I1.src q1;obtain⟨y,U,C,z2⟩:=I1.src q2;refine nh (args:=[(b1,l1),(b2,l2)]) (.inl rfl) (λp hp=>?_) λh' z TI TO S Y D g N R st hb O=>?_
 .simp only[Mm,NM,or_false]at hp
  rcases hp with rfl|rfl
  .exact⟨_,B⟩
  .exact⟨_,C⟩
 refine Ph ?_;have e1:=W.length;have e2:=U.length;rw[Mc]at e1;obtain⟨kv,G,eps⟩:=J6 (P:=X.prog) (w:=X.w) W U hl;have zt:ZTn z TI TO S 0 h':=⟨g,N,⟨_,by rw[Mc],R⟩,st⟩
 have J:∀b∈mQ z TI TO S,b<h'.objs.size:=λb hb=>let ⟨o,e,_⟩:=zt.obj b hb;Me e;have ll:∀t∈S,∃u,SrcSq t.b M.heap t.l u/\t.l<h'.objs.size:=λt ht=>by
  have:(t.b,t.l)∈[(b1,l1),(b2,l2)]:=Y▸ME (f:=λt:ZS=>(t.b,t.l)) ht;have h:∃u,SrcSq t.b M.heap t.l u:=by
   simp only[Mm,NM,or_false,PX]at this;rcases this with⟨e,e'⟩|⟨e,e'⟩<;>rw[e,e']
   .exact⟨_,B⟩
   .exact⟨_,C⟩
  obtain⟨u,q⟩:=h;refine⟨u,q,?_⟩;obtain⟨b,i,l⟩:=t;cases b with
  |true=>obtain⟨o,e,_⟩:=(show M.heap.IsList l u from q);exact Me (O _ _ e)
  |false=>obtain⟨o,e,_⟩:=(show M.heap.IsTuple l u from q);exact Me (O _ _ e)
 refine tH (s:={ M with heap:=h' }) (T:="zip") (rs:=ks.zip (r.zip y)) (SY:=ks.zip ys) (fq:=mQ z TI TO S) hc I1 rfl rfl rfl O ?_ (λb h=>⟨hb b h,J b h⟩) kv G (by simp only[List.length_zip];lia) ⟨_,g,rfl⟩ (by decide) (λA' s' Q' E' hh m k=>m_ (m _ _ g) hh k) (λA' s' Q' E' m lt k=>R_ (m _ _ g) ?_) q
 .rcases MW h'.objs.size M.heap.objs.size with lt|ge
  .have:=hb z (by simp);exact absurd (J z<|by simp) (OQ.2<|My (NS lt) this)
  .exact ge
 .obtain⟨t,u,rfl⟩:=Hd (by have:=congrArg MI Y;simpa using this)
  simp only[Ms,List.map_nil,MH,PX,and_true]at Y;obtain⟨⟨eb,el⟩,eb',el'⟩:=Y;have ne:u.i≠t.i:=vS D (i:=1) (j:=0) rfl rfl (by decide)
  rw[eps]at k;refine k s'.heap z _ (ZPr z TI TO h'.objs.size [t,u] λv=>if v.i=t.i then r else y) (λ_ _ e=>e) (Er D (by simp[ne]) (λh=>MK _ (J _ h)) (λv L=>let ⟨_,_,h⟩:=ll v L;Mt h)<|by lia) ?_ λb h=>.inl h
  refine⟨⟨_,_,m _ _ g,.inl ⟨rfl,rfl,_,by rw[Mc],m _ _ R⟩⟩,m _ _ N,λv L=>(st v L).keep λo e=>m _ o e,λv L=>?_⟩
  simp only[Mm,NM,or_false]at L;rcases L with rfl|rfl
  .rw[if_pos rfl,eb,el]
   exact B.keep λo e=>m _ o (O _ o e)
  .rw[if_neg ne,eb',el']
   exact C.keep λo e=>m _ o (O _ o e)
end
end _2
namespace _T
open PySem _2
end _T
namespace _2
open PySem PySem.Spec PyProof.Rows
variable{h:ka}{H:Hp}{P:g4}{s:eC}{w:kB}
section
variable{X:Cx}
theorem lD{M:Model}{A:kL}{E:Te}{a:Type}{n:Nat}(f:Nat->a->Sem (ForInStep a))(I:Nat->a->eC->Prop)(Q:a->eC->Prop)(g:∀i b s,i<n->I i b s->ft M A (f i b) (λr s'=>match r with|.yield b'=>I (i+1) b' s'|.done b'=>Q b' s') E s)(y:∀b s,I n b s->Q b s)(b:a)(h:I 0 b s):ft M A (forIn [0:n] b f) Q E s:=by
 rw[Std.Legacy.Range.forIn_eq_forIn_range'];have j:[0:n].size=n:=by simp
 rw[j];refine wpAny_forIn_list f (λl c s=>∃i,i<=n/\l=List.range' i (n-i) 1/\I i c s) Q ?_ ?_ _ b ⟨0,by lia,rfl,h⟩
 .rintro x u c s ⟨i,v,m,p⟩
  have o:i<n:=by
   rcases MW i n with h'|h'
   .exact h'
   simp_all
  obtain⟨k,q⟩:∃k,n-i=k+1:=⟨n-i-1,by lia⟩
  rw[q]at m;obtain⟨rfl,rfl⟩:=List.cons.inj m;refine l' (g x c s o p) (λr s' h'=>?_) λ_ _ e=>e;cases r with
  |done c'=>exact h'
  |yield c'=>exact⟨_,by lia,by congr 1;lia,h'⟩
 rintro c s ⟨i,v,m,p⟩
 have:i=n:=by
  rcases MW i n with h'|h'
  .obtain⟨k,q⟩:∃k,n-i=k+1:=⟨n-i-1,by lia⟩
   simp_all
  lia
 simp_all
theorem su(l:eH)(a:Th)(n:Nat)(dd:Option eH)(G:Array (Option cp))(x:cp)(e:cp->Bool)(I:∀y,y∈a->MeetsSeq.EqGives y x (e y))(j:Nat)(M:j<a.size)(u:e a[j]=true)(r:∀m (hm:m<a.size),m<j->e a[m]=eP):
  Sz (Builtin.«tuple.index» ⟨[.ref l,x],[]⟩) (λ_ R s=>s.heap.get? l=cb { cls:=.type "tuple",dict:=dd,data:=.seq a n,slots:=G }/\R (.ok<|.ret<|.int j s.toks) { s with toks:=s.toks+1 }):=
 .of_wp λf w A R s h=>by
  obtain⟨z,g,d,v,B⟩:=s;obtain⟨E,h⟩:=h
  wp_walk using AutoSeq1.wpAny_loadPart' E
  refine lD (n:=min a.size a.size) _ (λi (b:Option _×_) p=>b.1=ed/\i<=j/\p=⟨z,g,d,v,B⟩) _ ?turn ?fin _ ?strt
  case turn=>
   rintro i b p L ⟨C,o,rfl⟩
   have c:i<a.size:=by lia
   have q:a[i]?=cb a[i]:=by simp[c]
   simp only[q];refine cx (I _ (Array.getElem_mem c) f w _ _ _ _ ?_)
   by_cases F:i=j
   .subst F
    rw[u]
    wp_walk
    exact⟨_,rfl,h⟩
   .rw[r i c (by lia)]
    wp_walk
    exact⟨rfl,by lia,rfl⟩
  case fin=>
   rintro⟨K,J⟩ p ⟨C,o,rfl⟩
   lia
  case strt=>
   exact⟨rfl,Nj _,rfl⟩
theorem Inv.tupD{b:Tf}{Z:St}{a:eH}{xs:List V}(I:Inv X b Z H s)(h:H a=cb (.tup xs)):
  ∃(S3:Ta)(n:Nat)(sl:Array (Option cp)),Vals xs S3/\s.heap.get? a=cb { cls:=.type "tuple",dict:=ed,data:=.seq S3.toArray n,slots:=sl }:=by
 obtain⟨z,S3,r,⟨cls,g,data,slots⟩,e,⟨c,n,d⟩,f⟩:=I.hok a _ h;simp only at c d f;subst c d f;exact⟨S3,n,slots,r,e⟩
theorem fL:∀{SS:S_}{us:Ta},Vals (SS.map V.str) us->∀(j:Nat)(h:j<us.length),∃(y:Str)(t:Tok),SS[j]?=cb y/\us[j]=.str y t
 |[],us,r,j,h=>by cases r;trivial
 |x::SS,us,r,j,h=>by
  cases r with
  |cons r1 r2=>
   cases j with
   |zero=>obtain⟨t,rfl⟩:=r1;simp_all
   |succ j=>obtain⟨y,t,b,a⟩:=fL r2 j (by simpa using h);simp_all
def JJ:V->List V->Hp->VK->Prop:=λx b H Q=>∃(a:eH)(SS:S_)(z:Str)(j:Nat),x=.ref a/\b=[.str z]/\H a=cb (.tup<|SS.map V.str)/\SS.length<=1000/\SS[j]?=cb z/\(∀m,m<j->SS[m]?≠cb z)/\Q (.int (j:Int)) H
theorem xR:um X "tuple.index" JJ:=by
 intro G s Z H x T v W Q I O L h;obtain⟨a,b,z,j,rfl,rfl,M,U,p,o,q⟩:=h;cases O;obtain⟨u,rfl,K⟩:=L.one;obtain⟨t,rfl⟩:=K;obtain⟨c,n,N,r,e⟩:=I.tupD M;have R:=r.length;rw[Mc]at R;have J:j<b.length:=by
  rcases MW j b.length with z'|z'
  .exact z'
  .rw[OY z']at p;cases p
 have B:j<c.toArray.size:=by rw[Mr];lia
 refine pb PR ⟨_,e,rfl⟩ PySem.F.entry_tuple_index (PySem.F.args_tuple_index_2 _ _)
  (su a c.toArray n ed N (.str z t) (λv=>match v with|.str y _=>y==z|_=>eP) (λy S=>?_) j B ?_ λm l A=>?_) ⟨e,?_⟩
 .obtain⟨m,l,rfl⟩:=O6 (by simpa using S:y∈c)
  obtain⟨i,C,g,f⟩:=fL r m l;rw[f];exact eqGives_str i z C t
 .obtain⟨i,C,g,f⟩:=fL r j (by lia)
  rw[p]at g;cases g;simp[f]
 .obtain⟨i,C,g,f⟩:=fL r m (by rw[Mr]at l;exact l)
  have E:=o m A;rw[g]at E;have ne:¬i=z:=λe=>E (by rw[e])
  simp[f,ne]
 .exact⟨.int (j:Int),H,I.tok _,⟨_,rfl⟩,q⟩
noncomputable def tTM(r:V->List V->Hp->VK->Prop)(to:TE)(t:TA):TE:=λZ H Q=>to Z H λx H1=>(∃a b,x=.ref a/\H1 a=cb (.tup b))/\t Z H1 λb H2=>r x b H2 Q
theorem Lv{o e:hB}{es:Tc}{to:TE}{t:TA}{b:Str}{S2 S1:Pos}{id:String}{r:V->List V->Hp->VK->Prop}(f:Slot "tuple" b id)(g:RY (.builtin id)=pure (.type "method_descriptor"))(L:um X id r)(K:PE X o to)(M:PA X (e::es) t)(c:mu o b X.env (h9 o X.env)=h9 o X.env:=by rfl)(hfew:((lq S1<|starEach (e::es) X.env).all (λx=>!x.1)&&(Os S1<|keywordEach [] X.env).all (λx=>x.1.isSome)
   && decide ((e::es).length+([]:List B').length+(if ([]:List B').isEmpty then 0 else 1)<30))=true:=by rfl)(hline:(S2.endLine==S1.line)=true:=by rfl)(hs:eT (e::es) X.env=(eP,h9 e X.env)::eT es X.env:=by rfl)(hplain:(lq S1<|starEach es X.env).any (·.1)=false:=by rfl):
  PE X (.Call (.Attribute o b S2) (e::es) [] S1) (tTM r to t):=by
 intro i s Z H Q I h;refine SB c hfew hline rfl (bz (K _ s Z H _ I h) λv y l=>?_);obtain⟨x,H1,I1,q,⟨a,R,J,A⟩,B⟩:=l;subst J;cases q;obtain⟨z,n,O,N,u⟩:=I1.tupD A;refine⟨_,id,PySem.F.plainAttrs_tuple,f,g,⟨_,u,rfl⟩,by simp_all,?_⟩
 have j:=M S1 _ y Z H1 _ I1 B;rw[hs]at j ⊢;exact OL (by assumption) (O1<|bz j<|by rintro G E ⟨m,H2,I2,C,p⟩;exact L _ E Z H2 (.ref a) m _ G Q I2 rfl C p)
end
theorem fh{h a:ka}{S:Tb}:∀{l:List Env},h.FunFrames a l->(∀b∈gn l,b∈S)->h.FunFrames (PM h S) l
 |[],_,_=>trivial
 |env::r,hl,hs=>by
  obtain⟨f,⟨L,o,c,n,e,g⟩,m⟩:=hl;have j:L∈S:=hs L (by unfold gn;rw[N5,c];exact Nh)
  exact⟨f,⟨L,o,c,W.hideAll_none S j,e,g⟩,fh m λb i=>hs b (by unfold gn;rw[N5,c];exact MA _ i)⟩
noncomputable def yM(P:g4)(w:kB)(C:eH):pT:=λa H s E e c=>∃(ea:eH)(H':Hp)(B:ka)(a0:cp),e=.ref ea/\c.os=s.os/\PP c.gens/\Un (gn a) [] H H' s.heap c.heap/\HOk P w H' c.heap/\
 Heap.FlyingW B a ea (.ref C) a0 c.heap/\(∀b u,H' b=cb u->∃o,B.get? b=cb o)/\(∀b o,s.heap.get? b=cb o->b∉gn a->∃o',B.get? b=cb o')/\E (.ref C) ed H'
theorem pS{h' B:ka}(c:HOk P w H h)(k:B.StaysIn h)(j:B.StaysIn h')(g:∀b u,H b=cb u->∃o,B.get? b=cb o):HOk P w H h':=λa o e=>
 (c a o e).stay (λb u i q=>by
  obtain⟨v,f⟩:∃v,B.get? b=cb v:=by
   rcases i with rfl|z
   .exact g _ _ e
   .exact g _ _ z
  have:=k b v f;rw[q]at this;cases this;exact j b _ f) (λ_ q=>q) λ_ _ q=>q
theorem uz{fs:Tb}{H':Hp}{l h2 B:ka}(un:Un fs [] H H' h l)(k1:B.StaysIn l)(k2:B.StaysIn h2)(m:l.UpToSlots h2)(p:∀b o,h.get? b=cb o->b∉fs->∃e,B.get? b=cb e)(r:∀b∈fs,∀o,h.get? b=cb o->∀vs,o.data≠.fields vs)(v:∀b∈fs,H b=ed):Un fs [] H H' h h2 where
 keep:=λb o q n a f=>by
  have g:=un.keep b o q n a f;obtain⟨e,c⟩:=p b o q a;have:=k1 b e c;rw[g]at this;cases this;exact k2 b _ c
 slot:=λb o q n a f=>by
  obtain⟨u,g⟩:=un.slot b o q n a f;obtain⟨j,i⟩:=m b _ g (r b a o q);exact⟨_,i⟩
 free:=un.free
 there:=λb o q f=>by
  by_cases a:b∈fs
  .obtain⟨u,g⟩:=un.slot b o q (v b a) a f
   obtain⟨j,i⟩:=m b _ g (r b a o q);exact⟨_,i⟩
  obtain⟨e,c⟩:=p b o q a;exact⟨e,k2 b e c⟩
 tups:=un.tups
 frzs:=un.frzs
 tbls:=un.tbls
section
variable{K:Mi}{mg:Tg}{base:ka}{N:S_}{SX:Str}{scope:L'}{f C:eH}{cd:cp}{A:kL}{outer:List Env}{s0:eC}{H0:Hp}{E:XK}
theorem rj{env:Env}{L:eH}{l:List Env}(h:env.frame=cb L):gn (env::l)=L::gn l:=by unfold gn;simp_all
theorem Lk:cj (yM P w C) (dY (yM P w C) P w K mg base N SX scope f cd A outer s0 H0 E) E:=by
 intro S Z H s e s' I a;obtain⟨L,H',B,a0,rfl,Q,g,un,O,l,R,G,W⟩:=a;have M:(dY (yM P w C) P w K mg base N SX scope f cd A outer s0 H0 E).stack=envOfC SX scope s0.heap.objs.size f cd::outer:=rfl;have v:(envOfC SX scope s0.heap.objs.size f cd).frame=cb s0.heap.objs.size:=rfl;have y:gn (envOfC SX scope s0.heap.objs.size f cd::outer)=s0.heap.objs.size::gn outer:=rj v;rw[M]at un l G;show ft (fy P w) (A.deeper<|envOfC SX scope s0.heap.objs.size f cd) (leaving (envOfC SX scope s0.heap.objs.size f cd)<|.ref L) (λ_ m=>yM P w C outer H0 s0 E (.ref L) m) (λe' m=>yM P w C outer H0 s0 E e' m) s';refine wpAny_leaves_onW I.ok.frames v l λh' i F=>?_;have j:Un (gn outer) [] H0 H s0.heap s.heap:=I.base;have nofr:∀{b:eH}{o:Obj},s0.heap.get? b=cb o->b∉gn outer->b∉gn (envOfC SX scope s0.heap.objs.size f cd::outer):=λ{b o} q g z=>by
  rw[y]at z;rcases Mm.mp z with e|z
  .exact MK _ (e▸Me q)
  .exact g z
 have c:Un (gn (envOfC SX scope s0.heap.objs.size f cd::outer)) [] H H' s.heap h':=by
  refine uz un l.1 i.1 F G (λb g o q X=>?_) λb g=>?_
  .obtain⟨_,o',r,U⟩:=I.stack.mem (show b∈_ from g)
   rw[q]at r;cases r;exact U X
  .exact I.stkFree b g
 refine⟨L,H',B,a0,rfl,Q.trans I.os,g,?_,pS O l.1 i.1 R,i,R,λb o q g=>?_,W⟩
 .refine⟨λb o q n g a=>?_,λb o q n g a=>?_,λb o q n a=>?_,λb o q a=>?_,λb T q=>c.tups b T (j.tups b T q),λb o u q=>c.frzs b o u (j.frzs b o u q),λb ps q=>?_⟩
  .exact c.keep b o (j.keep b o q n g a) (j.free b o q n a) (nofr q g) a
  .obtain⟨sl,p⟩:=j.slot b o q n g a
   obtain⟨J,Y⟩:=c.slot b _ p (j.free b o q n a) (by rw[y];exact MA _ g) a
   exact⟨J,Y⟩
  .obtain⟨x,p⟩:=j.there b o q a
   exact c.free b x p (j.free b o q n a) a
  .obtain⟨x,p⟩:=j.there b o q a
   exact c.there b x p a
  .obtain⟨m1,e1⟩:=j.tbls b ps q
   obtain⟨m2,e2⟩:=c.tbls b _ e1;exact⟨m1++m2,by rw[e2,QS]⟩
 .obtain⟨x,p⟩:=j.there b o q (by simp)
  exact G b x p (nofr q g)
structure ExcAt(K:Mi)(C:eH):Prop where
 at_:∃(nm q:Str)(Nn:eH)(bs bm bmB:Ta)(hdct:Bool)(sn:S_)(sub:Ta)(ab:Bool)(col:Option Bool)(dd:Option eH)(k0 k1 k2 k3 k5:Option cp)(newId initId Bs:String)(mN:Tg),
  (∀h:ka,K.In h->h.get? C=cb (excClassObj nm q C Nn bs bm hdct sn sub ab col dd k0 k1 k2 k3 k5 newId)/\h.Ns Nn mN/\OwnTail h bmB bm)/\mN "__init__"=ed/\ExcBaseFacts Bs newId initId bmB/\bmB.contains (.type Bs)=true/\bm.contains (.type "BaseException")=true
theorem ObjOk.obj{a:eH}{o:HO}(x:ObjOk P w H h a o):∃v,h.get? a=cb v:=by
 cases o with
 |lst xs=>obtain⟨_,_,_,_,e⟩:=x;exact⟨_,e⟩
 |tup xs=>obtain⟨_,_,_,_,e,_⟩:=x;exact⟨_,e⟩
 |set S n=>obtain⟨o,_,_,_,e,_⟩:=x;exact⟨_,e⟩
 |ins C dx fs=>obtain⟨_,_,_,e,_⟩:=x;exact⟨_,e⟩
 |own y=>assumption
 |xd fs=>obtain⟨_,⟨_,_,_,e,_⟩,_⟩:=x;exact⟨_,e⟩
 |rng lo hi=>obtain⟨_,_,_,e⟩:=x;exact⟨_,e⟩
 |frz ob u=>obtain⟨e,_⟩:=x;exact⟨_,e⟩
 |tbl ps=>exact⟨_,x⟩
 |met f y=>exact⟨_,x⟩
 |ext φ=>obtain⟨_,⟨_,e⟩,_⟩:=x;exact⟨_,e⟩
 |_=>obtain⟨_,_,_,_,o,_,_,e,_⟩:=x;exact⟨_,e⟩
theorem Ey{fs:Tb}{L:eH}{H0 H':Hp}{l h':ka}(g:Un fs [] H0 H l h)(a:Un (L::fs) [] H H' h h')(G:l.objs.size<=L):Un fs [] H0 H' l h':=by
 have nofr:∀{b:eH}{o:Obj},l.get? b=cb o->b∉fs->b∉L::fs:=λ{b o} q i z=>by
  rcases Mm.mp z with e|z
  .exact MK _ (Mz (e▸Me q) G)
  exact i z
 refine⟨λb o q n i c=>a.keep b o (g.keep b o q n i c) (g.free b o q n c) (nofr q i) c,λb o q n i c=>?_,λb o q n c=>?_,λb o q c=>?_,λb p q=>a.tups b p (g.tups b p q),λb o u q=>a.frzs b o u (g.frzs b o u q),λb x q=>?_⟩
 .obtain⟨I,j⟩:=g.slot b o q n i c
  obtain⟨F,r⟩:=a.slot b _ j (g.free b o q n c) (MA _ i) c;exact⟨_,r⟩
 .obtain⟨m,j⟩:=g.there b o q c
  exact a.free b m j (g.free b o q n c) c
 .obtain⟨m,j⟩:=g.there b o q c
  exact a.there b m j c
 obtain⟨y,v⟩:=g.tbls b x q;obtain⟨B,J⟩:=a.tbls b _ v;exact⟨y++B,by simp_all⟩
noncomputable def GY(E:XK)(C:eH):TS:=λ_ _ H=>E (.ref C) ed H
theorem AS{x l:Str}{np S1 pos S2:Pos}{jj}(X:ExcAt K C)(hm:mg x=cb (.ref C))(hg:Gl (dY (yM P w C) P w K mg base N SX scope f cd A outer s0 H0 E) x)(hd:(x==("__debug__":Str))=false:=by decide)(hs:eT [.Constant (.str l) jj S2] (dY (yM P w C) P w K mg base N SX scope f cd A outer s0 H0 E).env=[(eP,h9 (.Constant (.str l) jj S2) (dY (yM P w C) P w K mg base N SX scope f cd A outer s0 H0 E).env)]:=by rfl):
  PS (dY (yM P w C) P w K mg base N SX scope f cd A outer s0 H0 E) (.Raise (cb<|.Call (.Name x np) [.Constant (.str l) jj S2] [] S1) ed pos) (GY E C):=by
 intro B s Z H D I h;obtain⟨nm,q,Nn,bs,bm,bmB,hdct,sn,sub,ab,col,dd,k0,k1,k2,k3,k5,U,L,Bs,mN,hX,S,FB,M,i⟩:=X.at_
 refine wpAny_Raise_call_subU (C:=C) (nm:=nm) (q:=q) (N:=Nn) (bs:=bs) (bm:=bm) (hdct:=hdct) (sn:=sn) (sub:=sub) (ab:=ab) (col:=col) (dd:=dd) (k0:=k0) (k1:=k1) (k2:=k2) (k3:=k3) (k5:=k5) FB M FB (mN:=mN) i (I.ok.hd rfl) (by rw[hs];rfl) S
  (fE I hg hm ⟨rfl,?_⟩ hd)
 have hA:=(wV AD zP hs) S1 B s Z H (λxs H1=>xs.length=1/\E (.ref C) ed H1) I ⟨rfl,h⟩;rw[hs]at hA ⊢;refine O1 (l' hA (λvs a F=>?_) λ_ _ y=>y);obtain⟨vv,H1,I1,r,J,hE⟩:=F;obtain⟨hC,hN,T⟩:=hX a.heap I1.kIn;refine⟨rfl,?_,hC,hN,T,λh' e hx=>?_⟩
 .rw[<- r.length,J]
  decide
 have m:(envOfC SX scope s0.heap.objs.size f cd).frame=cb s0.heap.objs.size:=rfl;have G:gn _=s0.heap.objs.size::gn outer:=rj m;have Y:(PM a.heap<|gn (envOfC SX scope s0.heap.objs.size f cd::outer)).StaysIn a.heap:=λb o e=>W.of_hideAll _ e;refine wpAny_leaves_madeW I1.ok.frames m Y (fh I1.stack λb c=>c) hx λQ t g _ _ R=>?_;have O:=(Heap.UpToSlots.of_keeps hx.keeps).trans R;have j:∀{b:eH}{o:Obj},a.heap.get? b=cb o->b∉gn (envOfC SX scope s0.heap.objs.size f cd::outer)->(PM a.heap _).get? b=cb o:=λe n=>W.hideAll_get _ e n;have sT:∀b u,H1 b=cb u->∃o,(PM a.heap _).get? b=cb o:=λb u e=>by
  obtain⟨v,hv⟩:=ObjOk.obj (I1.hok b u e);exact⟨v,j hv λz=>by rw[I1.stkFree b z]at e;cases e⟩
 have p:Un (gn (envOfC SX scope s0.heap.objs.size f cd::outer)) [] H1 H1 a.heap Q:=by
  refine uz Un.refl Y g.1 O (λb o q c=>⟨o,j q c⟩) (λb c o q vs=>?_) λb c=>I1.stkFree b c;obtain⟨_,o',ho',hd'⟩:=I1.stack.mem (show b∈_ from c)
  simp_all
 rw[G]at p;refine⟨e,H1,_,.ref t,rfl,I1.os,I1.bare,Ey I1.base p (Mo _),pS I1.hok Y g.1 sT,g,sT,λb o q c=>?_,hE⟩;obtain⟨o1,q1⟩:=I1.base.there b o q (λz=>absurd (show b∈([]:Tb) from z) (by simp))
 refine⟨o1,j q1 λz=>?_⟩;rw[G]at z;rcases Mm.mp z with e'|z
 .exact MK _ (e'▸Me q)
 .exact c z
end
noncomputable abbrev Cx.marked(X:Cx)(e:cp):Cx:={ X with A:=X.A.mark (cb e),calm:=eP,xe:=λ_ _=>False }
section
variable{X:Cx}{SW:Tf}{Z:St}{e:cp}
theorem Cx.Ok.mark(ok:X.Ok)(e:cp):(X.marked e).Ok:=
 ⟨ok.mod,ok.kind,ok.glob,ok.blt,ok.above,ok.inj,ok.has,ok.cab,by lia,ok.frames,ok.stk,ok.exf,ok.bs,ok.bsz,ok.noex,ok.exfs,ok.funs,ok.frf⟩
theorem Inv.mark(I:Inv X SW Z H s)(e:cp):Inv (X.marked e) SW Z H s:=⟨I.ok.mark e,I.os,I.bare,I.base,I.loc,I.cell,I.free,I.freeC,I.pin,I.hok,I.len⟩
theorem Inv.unmark(ok:X.Ok)(I:Inv (X.marked e) SW Z H s):Inv X SW Z H s:=⟨ok,I.os,I.bare,I.base,I.loc,I.cell,I.free,I.freeC,I.pin,I.hok,I.len⟩
theorem SP.unmark{D:Ends}{f:Flow}{b:eC}(ok:X.Ok)(h:SP (X.marked e) SW D f b):SP X SW D f b:=by
 cases f with
 |ret u=>obtain⟨v,a,H',I,r,q⟩:=h;exact⟨v,_,H',I.unmark ok,r,q⟩
 |_=>obtain⟨a,H',I,q⟩:=h;exact⟨_,H',I.unmark ok,q⟩
noncomputable def yS(C:eH)(sp:Sp)(dvs:List V)(ta:TA)(ts:TS):TS:=λD Z H=>ta Z H λa H1=>sp (a++dvs) H1 (λ_ H2=>D.nx Z H2) (λ_ _ H2=>ts D Z H2)
theorem t8{C f:eH}{k:Nat}{fd:k6}{ps:S_}{sp:Sp}{y:List V}{ds:Ta}{x T:Str}{p U ep np M pos:Pos}{e:hB}{es:Tc}{ta:TA}{j:py}{g:Td}{ts:TS}(L:X.stack=X.env::X.outer)(hfL:X.env.frame=cb X.env.locals)(F:FnOk X.prog X.w X.K X.mg X.base (yM X.prog X.w C) k f fd ps sp)(hr:Room k X.A)(hg:Gl X x)(hm:X.mg x=cb (.ref f))(hk:NN X.K (.ref f)=true)(hb:Binds X.K fd ps ds)(hd:Vals y ds)(ha:PA X.nox (e::es) ta)(EX:ExcAt X.K C)(hgC:Gl X T)(hmC:X.mg T=cb (.ref C))(hsu:∀N:eH,wD (X.marked<|.ref N) (j::g) ts)(hdb:(x==("__debug__":Str))=false:=by decide)(hdC:(T==("__debug__":Str))=false:=by decide)(he:eT (e::es) X.env=(eP,h9 e X.env)::eT es X.env:=by rfl)(hpl:(lq U<|starEach es X.env).any (·.1)=false:=by rfl)(hsw:pv (.Call (.Name x p) (e::es) [] U) ed ep.line X.env=pure false:=by rfl):
  PS X (.Try [.Expr (.Call (.Name x p) (e::es) [] U) ep] [.ExceptHandler (cb<|.Name T np) ed (j::g) M] [] [] pos) (yS C sp y ta ts):=by
 intro SW s Z H D I h;refine wpAny_Try_except (Sb<|wpAny_Expr_any ?_ I.quiet hsw);refine o4 (fE I hg hm ?_ hdb);refine PB (h₀:=X.base) I.ok.mod.kin hk (l' (ha U SW s Z H _ (I.wish _) h) (λR s1 zz=>?_) λ_ _ z=>NJ z) he hpl;obtain⟨O,H1,I1',r,q⟩:=zz;have I1:=I1'.unwish;refine⟨I1.kIn,?_⟩;have r2:=r.append hd;have hl:(R++ds).length=ps.length:=by rw[<- r2.length];exact F.len _ _ _ _ q
 refine Sm (qz (F.run X.A X.stack s1 H1 ⟨R,[]⟩ (R++ds) (O++y) _ _ hr I1.env0 (hb s1 R I1.kIn hl) r2 q) λrr s' W=>?_);cases rr with
 |ok fl=>
  cases fl with
  |ret u=>
   obtain⟨x',H2,I2,_,q2⟩:=I1.after W;exact wh (wh ⟨Z,H2,I2,q2⟩)
  |_=>exact NJ W
 |error er=>
  obtain⟨N,H',B,a0,rfl,hos,v,un,hok,i,sT,sA,hE⟩:=W;obtain⟨nm,qn,Nn,bs,bm,bmB,hdct,sn,sub,ab,col,dd,k0,k1,k2,k3,k5,newId,Q,Bs,mN,hX,hni,FB,hBs,m⟩:=EX.at_;have nf:∀b∈gn X.stack,∀o,s1.heap.get? b=cb o->∀O,o.data≠.fields O:=λb l o q' O=>by
   obtain⟨_,o',ho',hd'⟩:=I1.stack.mem (show b∈_ from l)
   simp_all
  have c:∀S:ka,B.StaysIn S->s'.heap.UpToSlots S->Inv X SW Z H' { s' with heap:=S }:=λS k up=>
   I1.call' hos (uz un i.1 k up sA nf λb l=>I1.stkFree b l) (pS hok i.1 k sT) v λb z=>absurd (z) (by simp)
  rw[L]at i;refine wpAny_looks_onW (by rw[<- L];exact I1.ok.frames) hfL i λh4 n up4=>?_
  refine wpAny_landsW n λh5 a J=>?_;have I5:=(c h5 a.1<|up4.trans J).mark (.ref N);obtain⟨hC,_,_⟩:=hX h5 I5.kIn;obtain⟨ob,Y,E⟩:=a.there;refine wpAny_handleBy_cons (codeAny_handlers_test<|fE I5 hgC hmC ?_ hdC) (by intro q';cases q')
  refine wpAny_excMatches_sub_self hC Y E m (codeAny_handlers_suite ?_);refine lands_againW a λh6 G up6=>?_;have I6:=(c h6 G.1<|(up4.trans J).trans up6).mark (.ref N);exact l' (hsu N SW _ Z H' D I6 hE) (λfl s7 q7=>q7.unmark I.ok) λ_ _ z=>NJ z
end
end _2
namespace _3
open PySem _2
variable{p:eH}{B:Bd}{X:Cx}{U:Dl}{c e:hB}{H H' H1:Hp}{M M1:Mem}{K:Mi}{pos:Pos}{Z:St}{r:dQ}
inductive D where
 |non|bl (b:Bool)|int (i:Int)|str (x:Str)|ty (n:String)|ref (a:eH)|tup (xs:List D)|lst (xs:List D)|mt (xs:List D)|ml (xs:List D)|fd (ks:List (List bh)) (xs:List D)
def TpD(_:Mi)(H:Hp)(p:eH)(vs:List V):Prop:=H p=cb (.tup vs)
def TpM(K:Mi)(p:eH)(vs:List V):Prop:=∃(o:Obj)(S3:Th)(n:Nat),K.lookup p=cb o/\o.cls=.type "tuple"/\o.data=.seq S3 n/\S3.size<=sizeLine/\Vals vs S3.toList
def FzD(K:Mi)(H:Hp)(p:eH)(vs:List V):Prop:=
 ∃o,H p=cb (.frz o<|.lst vs)
def FzK(K:Mi)(H:Hp)(p:eH)(vs:List V):Prop:=(∃o,H p=cb (.frz o<|.lst vs))\/∃(o:Obj)(S3:Th)(n:Nat),K.lookup p=cb o/\o.cls=.type "list"/\o.dict=ed/\o.data=.seq S3 n/\S3.size<=sizeLine/\Vals vs S3.toList
theorem FzK.sq{vs:List V}(h:FzK K H p vs):SqL K H p vs:=h.imp (by rintro⟨o,e⟩;exact .inr ⟨o,e⟩) λx=>x
theorem TpD.sq{vs:List V}(h:TpD K H p vs):jc K H p vs:=.inl (.inl h)
theorem TpM.sq{vs:List V}(h:TpM K p vs):jc K H p vs:=.inr h
theorem FzD.sq{vs:List V}(h:FzD K H p vs):SqL K H p vs:=by
 obtain⟨o,h⟩:=h;exact .inl (.inr ⟨o,h⟩)
def FdD(H:Hp)(p:eH)(ks:List (List bh))(vs:List V):Prop:=ks.length=vs.length/\∃o,H p=cb (.frz o<|.dT<|ks.zip vs)
mutual
def Rp(K:Mi)(H:Hp):D->V->Prop
 |.non,v=>v=.non
 |.bl b,v=>v=.bl b
 |.int i,v=>v=.int i
 |.str x,v=>v=.str x
 |.ty n,v=>v=.ty n
 |.ref a,v=>v=.ref a
 |.tup xs,v=>∃p vs,v=.ref p/\TpD K H p vs/\Rps K H xs vs
 |.lst xs,v=>∃p vs,v=.ref p/\FzD K H p vs/\Rps K H xs vs
 |.mt xs,v=>∃p vs,v=.ref p/\TpM K p vs/\Rps K H xs vs
 |.ml xs,v=>∃p vs,v=.ref p/\FzK K H p vs/\Rps K H xs vs
 |.fd ks xs,v=>∃p vs,v=.ref p/\FdD H p ks vs/\Rps K H xs vs
def Rps(K:Mi)(H:Hp):List D->List V->Prop
 |[],vs=>vs=[]
 |x::xs,vs=>∃v r,vs=v::r/\Rp K H x v/\Rps K H xs r
end
structure Imm(H H':Hp):Prop where
 tup:∀p vs,H p=cb (.tup vs)->H' p=cb (.tup vs)
 frz:∀p o u,H p=cb (.frz o u)->H' p=cb (.frz o u)
theorem Imm.refl:Imm H H:=⟨by lia,by lia⟩
theorem TpD.mono{vs:List V}(i:Imm H H')(h:TpD K H p vs):TpD K H' p vs:=i.tup _ _ h
theorem FzK.mono{vs:List V}(i:Imm H H')(h:FzK K H p vs):FzK K H' p vs:=h.imp (λ⟨o,e⟩=>⟨o,i.frz _ _ _ e⟩) λx=>x
theorem FzD.mono{vs:List V}(i:Imm H H')(h:FzD K H p vs):FzD K H' p vs:=let ⟨o,e⟩:=h;⟨o,i.frz _ _ _ e⟩
mutual
theorem Rp.mono{K:Mi}{H H':Hp}(i:Imm H H'):∀{d:D}{v:V},Rp K H d v->Rp K H' d v
 |.non,_,h=>h
 |.bl _,_,h=>h
 |.int _,_,h=>h
 |.str _,_,h=>h
 |.ty _,_,h=>h
 |.ref _,_,h=>h
 |.tup _,_,h=>by
  obtain⟨p,a,e,t,r⟩:=h;exact⟨p,a,e,t.mono i,Rps.mono i r⟩
 |.lst _,_,h=>by
  obtain⟨p,a,e,t,r⟩:=h;exact⟨p,a,e,t.mono i,Rps.mono i r⟩
 |.mt _,_,h=>by
  obtain⟨p,a,e,t,r⟩:=h;exact⟨p,a,e,t,Rps.mono i r⟩
 |.ml _,_,h=>by
  obtain⟨p,a,e,t,r⟩:=h;exact⟨p,a,e,t.mono i,Rps.mono i r⟩
 |.fd _ _,_,h=>by
  obtain⟨p,a,e,⟨t,o,b⟩,r⟩:=h;exact⟨p,a,e,⟨t,o,i.frz _ _ _ b⟩,Rps.mono i r⟩
theorem Rps.mono{K:Mi}{H H':Hp}(i:Imm H H'):∀{ds:List D}{vs:List V},Rps K H ds vs->Rps K H' ds vs
 |[],_,h=>h
 |_::_,_,h=>by
  obtain⟨v,r,e,a,b⟩:=h;exact⟨v,r,e,Rp.mono i a,Rps.mono i b⟩
end
section
theorem Rps.nil:Rps K H [] []:=rfl
theorem Rps.cons{d:D}{v:V}{ds:List D}{vs:List V}(a:Rp K H d v)(b:Rps K H ds vs):Rps K H (d::ds) (v::vs):=⟨v,vs,rfl,a,b⟩
theorem Rps.length:∀{ds:List D}{vs:List V},Rps K H ds vs->ds.length=vs.length
 |[],_,h=>by cases h;rfl
 |_::_,_,h=>by obtain⟨v,r,rfl,_,b⟩:=h;simp[b.length]
theorem Rps.get:∀{ds:List D}{vs:List V},Rps K H ds vs->∀{i:Nat}{d:D},ds[i]?=cb d->∃v,vs[i]?=cb v/\Rp K H d v
 |[],_,_,i,d,e=>by simp at e
 |x::xs,_,h,i,d,e=>by
  obtain⟨v,r,rfl,a,b⟩:=h;cases i with
  |zero=>simp_all
  |succ i=>simpa using b.get (by simpa using e)
theorem Rps.append:∀{ds es:List D}{vs f:List V},Rps K H ds vs->Rps K H es f->Rps K H (ds++es) (vs++f)
 |[],_,_,_,h,g=>by cases h;exact g
 |_::_,_,_,_,h,g=>by
  obtain⟨v,r,rfl,a,b⟩:=h;exact⟨v,_,rfl,a,b.append g⟩
theorem Rps.take:∀{ds:List D}{vs:List V}(n:Nat),Rps K H ds vs->Rps K H (ds.take n) (vs.take n)
 |[],_,n,h=>by cases h;simp[Rps]
 |_::_,_,0,h=>rfl
 |_::_,_,n+1,h=>by
  obtain⟨v,r,rfl,a,b⟩:=h;exact⟨v,_,rfl,a,b.take n⟩
theorem Rps.drop:∀{ds:List D}{vs:List V}(n:Nat),Rps K H ds vs->Rps K H (ds.drop n) (vs.drop n)
 |[],_,n,h=>by cases h;simp[Rps]
 |_::_,_,0,h=>h
 |_::_,_,n+1,h=>by
  obtain⟨v,r,rfl,a,b⟩:=h;exact b.drop n
theorem Rps.set{d:D}{v:V}(a:Rp K H d v):∀{ds:List D}{vs:List V}(i:Nat),Rps K H ds vs->Rps K H (ds.set i d) (vs.set i v)
 |[],_,_,h=>by cases h;rfl
 |_::_,_,0,h=>by obtain⟨w,r,rfl,_,b⟩:=h;exact⟨v,r,rfl,a,b⟩
 |_::_,_,i+1,h=>by obtain⟨w,r,rfl,c,b⟩:=h;exact⟨w,_,rfl,c,b.set a i⟩
theorem Rps.dropLast{ds:List D}{vs:List V}(h:Rps K H ds vs):Rps K H ds.dropLast vs.dropLast:=by
 rw[QD,QD,h.length];exact h.take _
theorem Rps.eraseIdx:∀{ds:List D}{vs:List V}(i:Nat),Rps K H ds vs->Rps K H (ds.eraseIdx i) (vs.eraseIdx i)
 |[],_,_,h=>by cases h;rfl
 |_::_,_,0,h=>by obtain⟨w,r,rfl,_,b⟩:=h;exact b
 |_::_,_,i+1,h=>by obtain⟨w,r,rfl,c,b⟩:=h;exact⟨w,_,rfl,c,b.eraseIdx i⟩
theorem sI:∀{a:S9}{vs:List V},vs=a.map V.int->Rps K H (a.map D.int) vs
 |[],_,e=>e
 |i::a,_,e=>by subst e;exact⟨_,_,rfl,rfl,sI rfl⟩
end
inductive MO where
 |lst (xs:List D)
 |dK (SY:List (bh×D))
 |dT (SY:List (List bh×D))
 |ins (C:eH) (fs:List (Str×D))
noncomputable abbrev Mem:=eH->Option MO
noncomputable def Mem.upd(M:Mem)(a:eH)(o:MO):Mem:=λb=>if b=a then cb o else M b
noncomputable def Mem.del(M:Mem)(a:eH):Mem:=λb=>if b=a then ed else M b
def Rkv{κ:Type}(K:Mi)(H:Hp):List (κ×D)->List (κ×V)->Prop:=P' λp q=>p.1=q.1/\Rp K H p.2 q.2
def RepO(K:Mi)(H:Hp)(a:eH):MO->Prop
 |.lst xs=>∃vs,H a=cb (.lst vs)/\Rps K H xs vs
 |.dK SY=>∃ws,H a=cb (.dK ws)/\Rkv K H SY ws
 |.dT SY=>∃ws,H a=cb (.dT ws)/\Rkv K H SY ws
 |.ins C fs=>∃dx ws,H a=cb (.ins C dx ws)/\Rkv K H fs ws
def RepH(K:Mi)(H:Hp)(M:Mem):Prop:=∀a o,M a=cb o->RepO K H a o
section
variable{a b:eH}{o:MO}{u:HO}
@[simp] theorem Mem.upd_same:(M.upd a o) a=cb o:=by simp[Mem.upd]
theorem ah(h:b≠a):(M.upd a o) b=M b:=by simp[Mem.upd,h]
@[simp] theorem Mem.upd_upd {o':MO}:(M.upd a o).upd a o'=M.upd a o':=by funext c;simp[Mem.upd];split<;>rfl
@[simp] theorem Mem.upd_del:(M.upd a o).del a=M.del a:=by funext c;simp[Mem.upd,Mem.del];split<;>rfl
theorem ar(h:M a=ed):M.del a=M:=by
 funext c;simp[Mem.del];simp_all
theorem cO{f:MO}(h:a≠b):(M.upd a o).upd b f=(M.upd b f).upd a o:=by
 funext c;simp[Mem.upd];split
 .rename_i e;rw[e,if_neg (MJ h)]
 rfl
theorem Mem.ne{o:MO}(h:M a=cb o)(h':M b=ed):a≠b:=by intro e;simp_all
theorem Rkv.mono{g:Type}{SY:List (g×D)}{f:List (g×V)}(i:Imm H H')(h:Rkv K H SY f):Rkv K H' SY f:=fC h λ_ _ z=>⟨z.1,z.2.mono i⟩
theorem RepO.obj(r:RepO K H a o):∃u,H a=cb u:=by
 cases o with
 |ins C fs=>obtain⟨g,f,e,_⟩:=r;exact⟨_,e⟩
 |_=>obtain⟨f,e,_⟩:=r;exact⟨_,e⟩
theorem RepO.keep(r:RepO K H a o)(i:Imm H H')(e:H' a=H a):RepO K H' a o:=by
 cases o with
 |ins C fs=>obtain⟨g,f,q,z⟩:=r;exact⟨g,f,e.trans q,z.mono i⟩
 |_=>obtain⟨f,q,z⟩:=r;exact⟨f,e.trans q,z.mono i⟩
theorem RepH.fresh(r:RepH K H M)(h:H a=ed):M a=none:=by
 cases e:M a with
 |none=>rfl
 |some o=>obtain⟨u,q⟩:=(r a o e).obj;simp_all
def wH:Option HO->Prop
 |some (.tup _)=>False
 |some (.frz _ _)=>False
 |_=>True
theorem Imm.upd(h:wH (H a)):Imm H (upd H a u):=by
 refine⟨λp f e=>?_,λp o v e=>?_⟩
 .rw[aC];exact e
  rintro rfl;rw[e]at h;exact h
 rw[aC];exact e
 rintro rfl;rw[e]at h;exact h
theorem Imm.new(h:H a=ed):Imm H (_2.upd H a u):=Imm.upd (by rw[h];trivial)
theorem RepO.loose(r:RepO K H a o):wH (H a):=by
 cases o with
 |ins C fs=>obtain⟨g,f,e,_⟩:=r;rw[e];trivial
 |_=>obtain⟨f,e,_⟩:=r;rw[e];trivial
theorem RepH.new(r:RepH K H M)(h:H a=ed):RepH K (_2.upd H a u) M:=λb o e=>by
 obtain⟨v,q⟩:=(r b o e).obj;exact(r b o e).keep (Imm.new h) (aC<|bc q h)
theorem RepH.put(r:RepH K H M)(h:wH (H a))(n:RepO K (_2.upd H a u) a o):RepH K (_2.upd H a u) (M.upd a o):=λb p e=>by
 by_cases f:b=a
 .subst f;rw[Mem.upd_same]at e;cases e;exact n
 .rw[ah f]at e
  exact(r b p e).keep (Imm.upd h) (aC f)
theorem RepH.keep(r:RepH K H M)(i:Imm H H')(e:∀b o,M b=cb o->H' b=H b):RepH K H' M:=λb o q=>(r b o q).keep i (e b o q)
structure Frm(M:Mem)(H:Hp)(M':Mem)(H':Hp):Prop where
 keep:∀b u,H b=cb u->M b=ed->H' b=cb u/\M' b=ed
variable{M':Mem}
theorem Frm.refl:Frm M H M H:=⟨by lia⟩
theorem Frm.trans{M2:Mem}{H2:Hp}(x:Frm M H M1 H1)(y:Frm M1 H1 M2 H2):Frm M H M2 H2:=⟨λb u e n=>let ⟨e1,n1⟩:=x.keep b u e n;y.keep b u e1 n1⟩
theorem Frm.imm(f:Frm M H M' H')(r:RepH K H M):Imm H H':=by
 have g:∀b u,H b=cb u->¬wH (cb u)->H' b=cb u:=λb u e n=>(f.keep b u e (by
  cases q:M b with
  |none=>rfl
  |some o=>exact absurd (by rw[<- e];exact(r b o q).loose) n)).1
 exact⟨λp h e=>g p _ e (λz=>z),λp o u e=>g p _ e (λz=>z)⟩
theorem Frm.new(h:H a=ed):Frm M H M (_2.upd H a u):=⟨λb v e n=>⟨by rw[aC (by lia)];exact e,n⟩⟩
theorem Frm.put(h:H a=ed\/∃o,M a=cb o):Frm M H (M.upd a o) (_2.upd H a u):=⟨λb v e n=>by
 have f:b≠a:=by
  rintro rfl
  simp_all
 exact⟨by rw[_2.aC f];exact e,by rw[ah f];exact n⟩⟩
theorem Frm.del(h:∃o,M a=cb o):Frm M H (M.del a) (_2.upd H a u):=⟨λb v e n=>by
 have f:b≠a:=by
  rintro rfl
  simp_all
 refine⟨by rw[_2.aC f];exact e,?_⟩
 unfold Mem.del
 simp_all⟩
theorem Rp.mf{d:D}{v:V}(x:Rp K H d v)(r:RepH K H M)(f:Frm M H M' H'):Rp K H' d v:=x.mono (f.imm r)
theorem Rps.mf{d:List D}{v:List V}(x:Rps K H d v)(r:RepH K H M)(f:Frm M H M' H'):Rps K H' d v:=x.mono (f.imm r)
end
noncomputable abbrev Dl:=List (Option D)
noncomputable abbrev DK:=D->Mem->Prop
noncomputable abbrev bi:=Dl->Mem->DK->Prop
noncomputable abbrev eO:=Dl->Mem->(Bool->Mem->Prop)->Prop
noncomputable abbrev dX:=Dl->Mem->(List D->Mem->Prop)->Prop
structure RepS(K:Mi)(H:Hp)(U:Dl)(Z:St):Prop where
 len:U.length=Z.length
 get:∀(i:Nat)(d:D),U[i]?=cb (cb d)->∃v,Z[i]?=cb (cb v)/\Rp K H d v
theorem RepS.mono(r:RepS K H U Z)(i:Imm H H'):RepS K H' U Z:=
 ⟨r.len,λj d e=>by obtain⟨v,b,a⟩:=r.get j d e;exact⟨v,b,a.mono i⟩⟩
theorem RepS.set{i:Nat}{d:D}{v:V}(r:RepS K H U Z)(h:Rp K H d v):RepS K H (U.set i<|some d) (Z.set i<|some v):=by
 refine⟨by simp[r.len],λj e q=>?_⟩
 rw[List.getElem?_set]at q ⊢
 by_cases a:i=j
 .rw[if_pos a]at q ⊢
  by_cases b:i<U.length
  .rw[if_pos (by rw[<- r.len];assumption)]
   simp_all
  simp_all
 rw[if_neg a]at q ⊢;exact r.get j e q
structure Bd where
 p:Mem->Hp->Prop
 go:∀{M M':Mem}{H H':Hp},p M H->Frm M H M' H'->p M' H'
noncomputable def Bd.of(M:Mem)(H:Hp):Bd:=⟨λM' H'=>Frm M H M' H',λa b=>a.trans b⟩
structure SR(X:Cx)(B:Bd)(U:Dl)(M:Mem)(Z:St)(H:Hp):Prop where
 i0:B.p M H
 rh:RepH X.K H M
 rs:RepS X.K H U Z
theorem SR.go{M':Mem}(s:SR X B U M Z H)(rh:RepH X.K H' M')(i:Frm M H M' H'):SR X B U M' Z H':=⟨B.go s.i0 i,rh,s.rs.mono<|i.imm s.rh⟩
def Up(K:Mi)(M:Mem)(H:Hp)(QQ:DK)(Q:VK):Prop:=∀d M',QQ d M'->∀v H',RepH K H' M'->Frm M H M' H'->Rp K H' d v->Q v H'
def UpT(K:Mi)(M:Mem)(H:Hp)(QQ:Bool->Mem->Prop)(Q:Bool->Hp->Prop):Prop:=∀b M',QQ b M'->∀H',RepH K H' M'->Frm M H M' H'->Q b H'
def UpA(K:Mi)(M:Mem)(H:Hp)(QQ:List D->Mem->Prop)(Q:List V->Hp->Prop):Prop:=∀ds M',QQ ds M'->∀vs H',RepH K H' M'->Frm M H M' H'->Rps K H' ds vs->Q vs H'
theorem Up.go{QQ:DK}{Q:VK}(u:Up K M H QQ Q)(i:Frm M H M1 H1):Up K M1 H1 QQ Q:=λd M' q v H' a b=>u d M' q v H' a (i.trans b)
theorem UpT.go{QQ:Bool->Mem->Prop}{Q:Bool->Hp->Prop}(u:UpT K M H QQ Q)(i:Frm M H M1 H1):UpT K M1 H1 QQ Q:=λd M' q H' a b=>u d M' q H' a (i.trans b)
inductive liftE(X:Cx)(B:Bd)(T:bi)(Z:St)(H:Hp)(Q:VK):Prop
 |mk (U:Dl) (M:Mem) (QQ:DK) (s:SR X B U M Z H) (h:T U M QQ) (u:Up X.K M H QQ Q):liftE X B T Z H Q
inductive liftT(X:Cx)(B:Bd)(T:eO)(Z:St)(H:Hp)(Q:Bool->Hp->Prop):Prop
 |mk (U:Dl) (M:Mem) (QQ:Bool->Mem->Prop) (s:SR X B U M Z H) (h:T U M QQ) (u:UpT X.K M H QQ Q):liftT X B T Z H Q
inductive liftA(X:Cx)(B:Bd)(T:dX)(Z:St)(H:Hp)(Q:List V->Hp->Prop):Prop
 |mk (U:Dl) (M:Mem) (QQ:List D->Mem->Prop) (s:SR X B U M Z H) (h:T U M QQ) (u:UpA X.K M H QQ Q):liftA X B T Z H Q
def DE(X:Cx)(B:Bd)(e:hB)(T:bi):Prop:=PE X e (liftE X B T)
def DT(X:Cx)(B:Bd)(e:hB)(T:eO):Prop:=PT X e (liftT X B T)
def DA(X:Cx)(B:Bd)(es:Tc)(T:dX):Prop:=PA X es (liftA X B T)
theorem aO{t t':TE}(h:PE X e t)(w:∀Z H Q,t' Z H Q->t Z H Q):PE X e t':=λa s Z H Q I q=>h _ s Z H Q I (w Z H Q q)
theorem ji{t t':TT}(h:PT X e t)(w:∀Z H Q,t' Z H Q->t Z H Q):PT X e t':=λa s Z H Q I q=>h _ s Z H Q I (w Z H Q q)
theorem vE{e:Tc}{t t':TA}(h:PA X e t)(w:∀Z H Q,t' Z H Q->t Z H Q):PA X e t':=λpos a s Z H Q I q=>h _ _ s Z H Q I (w Z H Q q)
theorem ce{e:py}{t t':TS}(h:PS X e t)(w:∀D Z H,t' D Z H->t D Z H):PS X e t':=λa s Z H D I q=>h _ s Z H D I (w D Z H q)
theorem ms{e:Td}{t t':TS}(h:wD X e t)(w:∀D Z H,t' D Z H->t D Z H):wD X e t':=λa s Z H D I q=>h _ s Z H D I (w D Z H q)
def ac(i:Nat):bi:=λU M Q=>match U[i]? with
 |some (cb d)=>Q d M
 |_=>False
def dC(d:D):bi:=λ_ M Q=>Q d M
section
variable{a b:hB}{ta tb tc:bi}
theorem HL{i:Nat}{x:Str}(j:X.N[i]?=cb x)(m:Jo X.env.scope x)(l:(x==("__debug__":Str))=false:=by decide)(hcd:(x==("__classdict__":Str))=false:=by decide):DE X B (.Name x pos) (ac i):=by
 refine aO (Hu j m l hcd) ?_
 rintro Z H Q ⟨U,M,QQ,s,h,u⟩
 unfold ac at h
 split at h
 .rename_i d e
  obtain⟨v,g,f⟩:=s.rs.get i d e;exact⟨v,g,u d M h v H s.rh Frm.refl f⟩
 trivial
theorem xK{v:V}{d:D}(h:PE X e (tC v))(r:∀H,Rp X.K H d v):DE X B e (dC d):=by
 refine aO h ?_
 rintro Z H Q ⟨U,M,QQ,s,h,u⟩
 exact u d M h v H s.rh Frm.refl (r H)
theorem Gi{i j pos}:DE X B (.Constant (.int i) j pos) (dC<|.int i):=xK Ht λ_=>rfl
theorem LP{i j pos}:DE X B (.Constant (.bool i) j pos) (dC<|.bl i):=xK Ls λ_=>rfl
theorem GZ{j pos}:DE X B (.Constant .none j pos) (dC .non):=xK GK λ_=>rfl
theorem GU{i j pos}:DE X B (.Constant (.str i) j pos) (dC<|.str i):=xK AD λ_=>rfl
theorem p9{x:Str}{v:V}{d:D}{u:cp}(h:Gl X x)(f:X.mg x=cb u)(r:RelV v u)(q:∀H,Rp X.K H d v)(g:(x==("__debug__":Str))=false:=by decide):DE X B (.Name x pos) (dC d):=xK (Ec h f r g) q
noncomputable abbrev dQ:=D->D->Mem->DK->Prop
inductive liftR2(X:Cx)(r:dQ)(x y:V)(H:Hp)(Q:VK):Prop
 |mk (d1 d2:D) (M:Mem) (QQ:DK) (rh:RepH X.K H M) (r1:Rp X.K H d1 x) (r2:Rp X.K H d2 y) (h:r d1 d2 M QQ) (u:Up X.K M H QQ Q):liftR2 X r x y H Q
def aj(r:dQ)(ta tb:bi):bi:=λU M Q=>ta U M λx M1=>tb U M1 λy M2=>r x y M2 Q
theorem ja{Q:VK}(h:liftE X B (aj r ta tb) Z H Q):Lp (liftR2 X r) (liftE X B ta) (liftE X B tb) Z H Q:=by
 obtain⟨U,M,QQ,s,h,u⟩:=h;exact⟨U,M,_,s,h,λx M1 j v1 H1 f i1 l=>⟨U,M1,_,s.go f i1,j,λy M2 i v2 H2 g i2 m=>⟨x,y,M2,QQ,g,l.mf f i2,m,i,u.go<|i1.trans i2⟩⟩⟩
theorem mH{f:RQ}(g:b_ X (lu f) (liftR2 X r))(i:DE X B a ta)(j:DE X B b tb):DE X B (.BinOp a f b pos) (aj r ta tb):=aO (Lf g i j) λ_ _ _ h=>ja h
theorem oK{f:Sr}(g:b_ X (g5 f) (liftR2 X r))(l:DE X B a ta)(i:DE X B b tb)(j:RV f b=eP):DE X B (.Compare a [f] [b] pos) (aj r ta tb):=aO (Dm g l i j) λ_ _ _ h=>ja h
theorem FI(i:IxR X (liftR2 X r))(f:DE X B a ta)(j:DE X B b tb)(g:og b):DE X B (.Subscript a b pos) (aj r ta tb):=aO (KU i f j g) λ_ _ _ h=>ja h
def ao(t:bi):eO:=λU M Q=>t U M λd M'=>match d with
 |.bl k=>Q k M'
 |_=>False
theorem dA{f:Sr}(m:b_ X (g5 f) (liftR2 X r))(w:DE X B a ta)(n:DE X B b tb)(o:RV f b=eP):DT X B (.Compare a [f] [b] pos) (ao<|aj r ta tb):=by
 refine ji (C6 m w n o) ?_
 rintro Z H Q ⟨U,M,QQ,s,h,u⟩
 have g:liftE X B (aj r ta tb) Z H (λx H'=>∃k,x=.bl k/\Q k H'):=by
  refine⟨U,M,_,s,h,λd M' q v H' l i j=>?_⟩;cases d with
  |bl k=>exact⟨k,j,u k M' q H' l i⟩
  |_=>exact q.elim
 exact ja g
def yJ(M:Mem):D->Option Bool
 |.non=>cb eP
 |.bl b=>cb b
 |.int i=>cb (i != 0)
 |.str y=>if y.length<=sizeLine then cb ((y.length:Int) != 0) else ed
 |.tup xs=>cb (!xs.isEmpty)
 |.lst xs=>cb (!xs.isEmpty)
 |.ref a=>match M a with
  |some (.lst xs)=>cb (!xs.isEmpty)
  |some (.dK xs)=>cb (!xs.isEmpty)
  |_=>ed
 |_=>ed
def bR(t:bi):eO:=λU M Q=>t U M λd M'=>match yJ M' d with
 |some k=>Q k M'
 |none=>False
theorem ff{ds:List D}{vs:List V}(r:Rps K H ds vs):vs.isEmpty=ds.isEmpty:=by
 have:=r.length;cases ds<;>cases vs<;>simp_all
theorem GP{d:D}{v:V}{k:Bool}(l:RepH K H M)(r:Rp K H d v)(e:yJ M d=cb k):Jb K v H k:=by
 cases d with
 |non=>cases r;cases e;rfl
 |bl b=>cases r;cases e;rfl
 |int i=>cases r;cases e;rfl
 |str y=>
  cases r;simp only[yJ]at e
  split at e
  .cases e;trivial
  cases e
 |tup h=>
  obtain⟨p,f,rfl,t,r⟩:=r;cases e;exact .inr (.inl ⟨f,t.sq,by rw[ff r]⟩)
 |lst h=>
  obtain⟨p,f,rfl,t,r⟩:=r;cases e;exact .inl ⟨f,t.sq,by rw[ff r]⟩
 |ref a=>
  cases r;simp[yJ]at e
  split at e
  .rename_i h q
   obtain⟨f,j,g⟩:=l _ _ q;cases e;exact .inl ⟨f,SqL.of j,by rw[ff g]⟩
  .rename_i h q
   obtain⟨f,j,g⟩:=l _ _ q;cases e;refine .inr (.inr ⟨f,j,?_⟩);cases g<;>rfl
  cases e
 |_=>cases e
theorem G0(h:DE X B e ta)(l:∀f,SH e X.env f=(do let v <- f;R6 e.pos;K' [v] (truthy v)):=by intro _;rfl):DT X B e (bR ta):=by
 refine ji (Ag h l) ?_
 rintro Z H Q ⟨U,M,QQ,s,h,u⟩
 refine⟨U,M,_,s,h,λd M' q v H' g i j=>?_⟩
 split at q
 .rename_i k e
  exact⟨k,GP g j e,u k M' q H' g i⟩
 trivial
def dF(t:eO):eO:=λU M Q=>t U M λc M1=>Q (!c) M1
theorem Ii{f:eO}(g:DT X B a f):DT X B (.UnaryOp .Not a pos) (dF f):=by
 refine ji (IP g) ?_
 rintro Z H Q ⟨U,M,QQ,s,h,u⟩
 exact⟨U,M,_,s,h,λc=>u _⟩
end
section
variable{a b:hB}{ta tb tc:bi}{tA tB':eO}{rest:Tc}
def DW(X:Cx)(B:Bd)(e:hB)(T:eO):Prop:=PW X e (liftT X B T)
theorem L_{T:eO}(h:DW X B e T):DT X B e T:=LZ h
theorem xl{t t':TT}(h:PW X e t)(w:∀Z H Q,t' Z H Q->t Z H Q):PW X e t':=λg f s Z H Q I q=>h g _ s Z H Q I (w Z H Q q)
def g7(t u:eO):eO:=λU M Q=>t U M λc M1=>if c=true then u U M1 Q else Q eP M1
def jD(t u:eO):eO:=λU M Q=>t U M λc M1=>if c=true then Q true M1 else u U M1 Q
theorem Dq(f:DT X B a tA):DW X B (.BoolOp .And [a] pos) tA:=Cz f
theorem He(f:DT X B a tA):DW X B (.BoolOp .Or [a] pos) tA:=HK f
theorem GS(g:DT X B a tA)(j:DW X B (.BoolOp .And (b::rest) pos) tB'):DW X B (.BoolOp .And (a::b::rest) pos) (g7 tA tB'):=by
 refine xl (Hf g j) ?_
 rintro Z H Q ⟨U,M,QQ,s,h,u⟩
 refine⟨U,M,_,s,h,λc M' q H' f i=>?_⟩;cases c with
 |true=>exact⟨U,M',QQ,s.go f i,q,u.go i⟩
 |false=>exact u _ M' q H' f i
theorem JU(g:DT X B a tA)(j:DW X B (.BoolOp .Or (b::rest) pos) tB'):DW X B (.BoolOp .Or (a::b::rest) pos) (jD tA tB'):=by
 refine xl (JF g j) ?_
 rintro Z H Q ⟨U,M,QQ,s,h,u⟩
 refine⟨U,M,_,s,h,λc M' q H' f i=>?_⟩;cases c with
 |false=>exact⟨U,M',QQ,s.go f i,q,u.go i⟩
 |true=>exact u _ M' q H' f i
def eI(ta tb:bi):bi:=λU M Q=>ta U M λx M1=>match x with
 |.bl true=>tb U M1 Q
 |.bl eP=>Q (.bl eP) M1
 |_=>False
def EF(ta:bi):bi:=λU M Q=>ta U M λx M1=>match x with
 |.bl c=>Q (.bl<|!c) M1
 |_=>False
theorem Gv{op}{t:bi}(h:DE X B a t):DE X B (.BoolOp op [a] pos) t:=GG h
theorem FX(g:DE X B a ta)(j:DE X B (.BoolOp .And (b::rest) pos) tb):DE X B (.BoolOp .And (a::b::rest) pos) (eI ta tb):=by
 refine aO (IQ g j) ?_
 rintro Z H Q ⟨U,M,QQ,s,h,u⟩
 refine⟨U,M,_,s,h,λd M' q v H' f i r=>?_⟩;cases d with
 |bl c=>
  cases c with
  |true=>exact⟨_,r,by exact⟨U,M',QQ,s.go f i,q,u.go i⟩⟩
  |false=>exact⟨_,r,by exact u _ M' q _ H' f i rfl⟩
 |_=>exact q.elim
theorem HN(g:DE X B a ta):DE X B (.UnaryOp .Not a pos) (EF ta):=by
 refine aO (GX g) ?_
 rintro Z H Q ⟨U,M,QQ,s,h,u⟩
 refine⟨U,M,_,s,h,λd M' q v H' f i r=>?_⟩;cases d with
 |bl c=>exact⟨c,r,u _ M' q _ H' f i rfl⟩
 |_=>exact q.elim
def oX(t:eO)(ta tb:bi):bi:=λU M Q=>t U M λc M1=>if c=true then ta U M1 Q else tb U M1 Q
theorem zZ(g:DT X B c tA)(j:DE X B a ta)(l:DE X B b tb):DE X B (.IfExp c a b pos) (oX tA ta tb):=by
 refine aO (zS g j l) ?_
 rintro Z H Q ⟨U,M,QQ,s,h,u⟩
 refine⟨U,M,_,s,h,λc M' q H' f i=>?_⟩;cases c with
 |_=>exact⟨U,M',QQ,s.go f i,q,u.go i⟩
def dB(r r':dQ)(ta tb tc:bi):bi:=λU M Q=>ta U M λx M1=>tb U M1 λy M2=>r x y M2 λz M3=>match z with
 |.bl true=>tc U M3 λw M4=>r' y w M4 Q
 |.bl eP=>Q (.bl eP) M3
 |_=>False
variable{es:Tc}{te:bi}{t:dX}
def ae:dX:=λ_ M Q=>Q [] M
def aa(ta:bi)(tr:dX):dX:=λU M Q=>ta U M λx M1=>tr U M1 λf M2=>Q (x::f) M2
theorem IB:DA X B [] ae:=by
 refine vE zP ?_
 rintro Z H Q ⟨U,M,QQ,s,h,u⟩
 exact u [] M h [] H s.rh Frm.refl .nil
theorem CB(o:DE X B e te)(q:DA X B es t)(n:eT (e::es) X.env=(eP,h9 e X.env)::eT es X.env:=by rfl):DA X B (e::es) (aa te t):=by
 refine vE (wV o q n) ?_
 rintro Z H Q ⟨U,M,QQ,s,h,u⟩
 exact⟨U,M,_,s,h,λx M1 j v1 H1 f i1 l=>⟨U,M1,_,s.go f i1,j,λv M2 i v2 H2 g i2 m=>u _ M2 i _ H2 g (i1.trans i2) (.cons (l.mf f i2) m)⟩⟩
def ax(t:dX):bi:=λU M Q=>t U M λf M1=>f.length<=sizeLine/\Q (.tup f) M1
def bA(t:dX):bi:=λU M Q=>t U M λf M1=>f.length<=sizeLine/\∀p,M1 p=ed->Q (.ref p) (M1.upd p<|.lst f)
theorem Ij{x1}(h:DA X B es t):DE X B (.Tuple es x1 pos) (ax t):=by
 refine aO (Gy h) ?_
 rintro Z H Q ⟨U,M,QQ,s,h,u⟩
 exact⟨U,M,_,s,h,λl M1 i v1 H1 f i1 j=>⟨by rw[<- j.length];exact i.1,λp g=>u _ M1 i.2 _ _ (f.new g) (i1.trans<|Frm.new g) ⟨p,v1,rfl,upd_same,j.mono<|Imm.new g⟩⟩⟩
theorem I0(h:DA X B es t):DE X B (.List es pos) (bA t):=by
 refine aO (Gb h) ?_
 rintro Z H Q ⟨U,M,QQ,s,h,u⟩
 exact⟨U,M,_,s,h,λxs M1 h1 v1 H1 rh1 i1 r1=>⟨by rw[<- r1.length];exact h1.1,λp hp=>u _ _ (h1.2 p<|rh1.fresh hp) _ _ (rh1.put (by rw[hp];trivial) ⟨v1,upd_same,r1.mono<|Imm.new hp⟩) (i1.trans<|Frm.put<|.inl hp) rfl⟩⟩
theorem Inv.freeze{g:Tf}{Z:_2.St}{s:eC}{vs:List V}(I:Inv X g Z H s)(h:H p=cb (.lst vs)):∃o,Inv X g Z (upd H p<|.frz o<|.lst vs) s:=by
 obtain⟨i,n,r,e,z⟩:=I.lst h;have ne:∀{b:eH}{u:Option HO},H b=u->u≠cb (.lst vs)->b≠p:=λ{b u} q G z=>by subst z;rw[h]at q;exact G q.symm
 refine⟨{ cls:=.type "list",data:=.seq i.toArray n },I.ok,I.os,I.bare,⟨I.base.keep,I.base.slot,λb o q F J=>?_,I.base.there,λb v q=>?_,λb o u q=>?_,λb E q=>?_⟩,I.loc,I.cell,?_,λx c q=>?_,λL A=>?_,λb o q=>?_,I.len⟩
 .have f:=I.base.free b o q F J
  rw[aC (ne f<|by simp)];exact f
 .have f:=I.base.tups b v q
  rw[aC (ne f<|by simp)];exact f
 .have f:=I.base.frzs b o u q
  rw[aC (ne f<|by simp)];exact f
 .obtain⟨j,f⟩:=I.base.tbls b E q
  exact⟨j,by rw[aC (ne f<|by simp)];exact f⟩
 .rw[aC (ne I.free<|by simp)];exact I.free
 .have f:=I.freeC x c q
  rw[aC (ne f<|by simp)];exact f
 .obtain⟨C,l,w⟩:=I.pin L A
  exact⟨C,by rw[aC (ne l<|by simp)];exact l,w⟩
 .by_cases m:b=p
  .subst m
   rw[upd_same]at q;cases q;refine⟨e,?_⟩;exact⟨z,i,n,r,e⟩
  .rw[aC m]at q
   refine (I.hok b o q).stay (λ_ _ _ y=>y) (λc y=>?_) λc v y=>?_
   .rw[aC (ne y<|by simp)];exact y
   .rw[aC (ne y<|by simp)];exact y
def frz(d:D)(M:Mem)(Q:DK):Prop:=match d with
 |.ref a=>match M a with
  |some (.lst xs)=>Q (.lst xs) (M.del a)
  |_=>Q d M
 |_=>Q d M
def am(t:bi):bi:=λU M Q=>t U M λd M'=>frz d M' Q
theorem RepH.freeze{vs:List V}{o:Obj}(r:RepH K H M)(h:H p=cb (.lst vs)):RepH K (upd H p<|.frz o<|.lst vs) (M.del p):=λb u e=>by
 unfold Mem.del at e
 split at e
 .cases e
 rename_i hb
 exact(r b u e).keep (Imm.upd<|by rw[h];trivial) (aC hb)
theorem G2(h:DE X B e te):DE X B e (am te):=by
 rintro l s Z H Q I ⟨U,M,QQ,x,n,u⟩
 refine bz (h _ s Z H (λv H'=>∃d M',RepH _ H' M'/\Frm M H M' H'/\Rp _ H' d v/\frz d M' QQ) I ⟨U,M,_,x,n,λd M' q v H' f i r=>⟨d,M',f,i,r,q⟩⟩) ?_
 rintro w z ⟨v,H',I',g,d,M',f,i,r,q⟩
 unfold frz at q
 split at q
 .rename_i a
  split at q
  .rename_i A e
   obtain⟨y,j,m⟩:=f _ _ e;obtain⟨o,I2⟩:=Inv.freeze I' j;exact⟨v,_,I2,g,u _ _ q v _ (f.freeze j) (i.trans<|Frm.del ⟨_,e⟩) ⟨a,y,r,⟨o,upd_same⟩,m.mono<|Imm.upd<|by rw[j];trivial⟩⟩
  exact⟨v,H',I',g,u _ _ q v H' f i r⟩
 exact⟨v,H',I',g,u _ _ q v H' f i r⟩
end
def dg(M:Mem):D->Option (List D)
 |.lst xs=>cb xs
 |.ref a=>match M a with
  |some (.lst xs)=>cb xs
  |_=>ed
 |_=>ed
def aE(M:Mem):D->Option (List D)
 |.tup xs=>cb xs
 |.lst xs=>cb xs
 |.mt xs=>cb xs
 |.ml xs=>cb xs
 |.ref a=>match M a with
  |some (.lst xs)=>cb xs
  |_=>ed
 |_=>ed
section
variable{d:D}{v:V}{xs:List D}
theorem eh(i:RepH K H M)(r:Rp K H d v)(e:dg M d=cb xs):∃p vs,v=.ref p/\Rd H p (.lst vs)/\Rps K H xs vs:=by
 cases d with
 |lst f=>
  cases e;obtain⟨p,vs,rfl,⟨o,h⟩,r⟩:=r;exact⟨p,vs,rfl,.inr ⟨o,h⟩,r⟩
 |ref a=>
  simp[dg]at e
  split at e
  .rename_i f q
   cases e;obtain⟨vs,g,b⟩:=i _ _ q;exact⟨a,vs,r,.inl g,b⟩
  cases e
 |_=>cases e
theorem hW(i:RepH K H M)(r:Rp K H d v)(e:aE M d=cb xs):∃p vs,v=.ref p/\(SqL K H p vs\/jc K H p vs)/\Rps K H xs vs:=by
 cases d with
 |tup b=>
  cases e;obtain⟨p,vs,rfl,h,r⟩:=r;exact⟨p,vs,rfl,.inr h.sq,r⟩
 |lst b=>
  cases e;obtain⟨p,vs,rfl,h,r⟩:=r;exact⟨p,vs,rfl,.inl h.sq,r⟩
 |mt b=>
  cases e;obtain⟨p,vs,rfl,h,r⟩:=r;exact⟨p,vs,rfl,.inr h.sq,r⟩
 |ml b=>
  cases e;obtain⟨p,vs,rfl,h,r⟩:=r;exact⟨p,vs,rfl,.inl h.sq,r⟩
 |ref a=>
  simp[aE]at e
  split at e
  .rename_i b q
   cases e;obtain⟨vs,g,f⟩:=i _ _ q;exact⟨a,vs,r,.inl (SqL.of g),f⟩
  cases e
 |_=>cases e
theorem Ej:b_ X (lu .Add) (λx y H Q=>∃l b xs zs,x=.ref l/\y=.ref b/\Rd H l (.lst xs)/\Rd H b (.lst zs)/\xs.length+zs.length<=sizeLine/\∀p,H p=ed->Q (.ref p) (upd H p<|.lst (xs++zs))):=by
 rintro g s Z H x y v u Q I o j ⟨l,b,xs,zs,rfl,rfl,A,i,E,q⟩
 cases o;cases j;obtain⟨z,f,n,r,e⟩:=A.ok I.hok;obtain⟨F,a,n2,h,m⟩:=i.ok I.hok;have G:=r.length;have w:=h.length;refine PySem.P.add_list e m ?_ (by simp_all)
 have C:f.toArray++a.toArray=(f++a).toArray:=by simp
 rw[C];exact⟨.ref _,_,I.lnew (r.append h) (by rw[Mg];lia),rfl,q _ I.fresh⟩
def aF:dQ:=λx y M Q=>match x,y with
 |.int i,.int j=>Q (.int (i+j)) M
 |.str a,.str b=>a.length+b.length<=sizeLine/\Q (.str (a++b)) M
 |.tup xs,.tup ys=>xs.length+ys.length<=sizeLine/\Q (.tup (xs++ys)) M
 |x,y=>match dg M x,dg M y with
  |some xs,cb ys=>xs.length+ys.length<=sizeLine/\∀p,M p=ed->Q (.ref p) (M.upd p<|.lst (xs++ys))
  |_,_=>False
theorem DH:b_ X (lu .Add) (liftR2 X aF):=by
 rintro SW s Z H x y v u Q I rx ry ⟨d1,d2,M,QQ,rh,r1,r2,h,up⟩
 unfold aF at h
 split at h
 .cases r1;cases r2
  exact G8 _ s Z H _ _ v u Q I rx ry ⟨_,_,rfl,rfl,up _ M h _ H rh Frm.refl rfl⟩
 .cases r1;cases r2
  exact uD _ s Z H _ _ v u Q I rx ry ⟨_,_,rfl,rfl,h.1,up _ M h.2 _ H rh Frm.refl rfl⟩
 .obtain⟨p,vs,rfl,t1,r1⟩:=r1
  obtain⟨p',vs',rfl,t2,r2⟩:=r2;have l1:=r1.length;have l2:=r2.length;have r12:=r1.append r2
  by_cases hx:vs=[]
  .subst hx
   exact B6 _ s Z H _ _ v u Q I rx ry ⟨p,p',_,rfl,rfl,t1.sq,t2.sq,(up _ M h.2 _ H rh Frm.refl ⟨p',_,rfl,t2,r12⟩)⟩
  refine B_ _ s Z H _ _ v u Q I rx ry ⟨p,p',vs,_,rfl,rfl,t1.sq,t2.sq,hx,by lia,λe=>?_,λ_ q hq=>?_⟩
  .subst e
   rw[Mq]at r12;exact up _ M h.2 _ H rh Frm.refl ⟨p,vs,rfl,t1,r12⟩
  exact up _ M h.2 _ _ (rh.new hq) (Frm.new hq) ⟨q,_,rfl,upd_same,r12.mono<|Imm.new hq⟩
 split at h
 .rename_i xs ys e1 e2
  obtain⟨p,vs,rfl,t1,r1⟩:=eh rh r1 e1;obtain⟨p',vs',rfl,t2,r2⟩:=eh rh r2 e2;have l1:=r1.length;have l2:=r2.length;exact Ej SW s Z H _ _ v u Q I rx ry ⟨p,p',vs,vs',rfl,rfl,t1,t2,by lia,λq hq=>up _ _ (h.2 q<|rh.fresh hq) _ _ (rh.put (by rw[hq];trivial) ⟨_,upd_same,(r1.append r2).mono<|Imm.new hq⟩) (Frm.put<|.inl hq) rfl⟩
 trivial
def oI(C:Int->Int->Prop)(g:Int->Int->D):dQ:=λx y M Q=>match x,y with
 |.int i,.int j=>C i j/\Q (g i j) M
 |_,_=>False
theorem Hv{f:cp->cp->Sem cp}{C:Int->Int->Prop}{g:Int->Int->V}{g':Int->Int->D}(h:b_ X f (rI C g))(e:∀i j K H,Rp K H (g' i j) (g i j)):b_ X f (liftR2 X<|oI C g'):=by
 rintro b s Z H x y v u Q I n m ⟨A,z,M,QQ,w,l,q,a,o⟩
 unfold oI at a
 split at a
 .cases l;cases q
  exact h _ s Z H _ _ v u Q I n m ⟨_,_,rfl,rfl,a.1,o _ M a.2 _ H w Frm.refl<|e _ _ _ _⟩
 trivial
def pU(g:Int->Int->D):dQ:=λx y M Q=>match x,y with
 |.int i,.int j=>Q (g i j) M
 |_,_=>False
theorem nc{f:cp->cp->Sem cp}{g:Int->Int->V}{g':Int->Int->D}(h:b_ X f (Bq g))(e:∀i j K H,Rp K H (g' i j) (g i j)):b_ X f (liftR2 X<|pU g'):=by
 rintro b s Z H x y v u Q I n m ⟨A,z,M,QQ,w,l,q,a,o⟩
 unfold pU at a
 split at a
 .cases l;cases q
  exact h _ s Z H _ _ v u Q I n m ⟨_,_,rfl,rfl,o _ M a _ H w Frm.refl<|e _ _ _ _⟩
 trivial
noncomputable abbrev ga:dQ:=pU λi j=>.int (i-j)
theorem BR:b_ X (lu .Sub) (liftR2 X ga):=nc IU λ_ _ _ _=>rfl
noncomputable abbrev fN:dQ:=oI (λ_ j=>0<j) λi j=>.int (i % j)
theorem Bv:b_ X (lu .Mod) (liftR2 X fN):=Hv Hg λ_ _ _ _=>rfl
def FM(_ j:Int):Prop:=0<j/\j<2 ^ 200
theorem AW:b_ X (lu .FloorDiv) (rI FM λi j=>.int (i / j)):=by
 rintro b s Z H x y v u Q I l f ⟨i,j,rfl,rfl,h,q⟩
 obtain⟨n,m⟩:=h;have g:j.toNat=j:=by lia
 refine An ?_ (by lia) _ s Z H _ _ v u Q I l f ⟨i,j,rfl,rfl,g.symm,q⟩
 have a:j.toNat<2 ^ 200:=by
  simp_all
 have:=(Nat.log2_lt<|by lia).mpr a
 lia
noncomputable abbrev nk:dQ:=oI FM λi j=>.int (i / j)
theorem zB:b_ X (lu .FloorDiv) (liftR2 X nk):=Hv AW λ_ _ _ _=>rfl
noncomputable abbrev GE:dQ:=oI KA λi j=>.int (i ^ j.toNat)
theorem DC:b_ X (lu .Pow) (liftR2 X GE):=Hv HV λ_ _ _ _=>rfl
noncomputable abbrev Le:dQ:=pU λi j=>.int (Builtin.bitXor i j)
theorem Da:b_ X (lu .BitXor) (liftR2 X Le):=nc Jl λ_ _ _ _=>rfl
noncomputable abbrev xM:dQ:=pU λi j=>.bl (decide (i<j))
theorem HU:b_ X (g5 .Lt) (liftR2 X xM):=nc KQ λ_ _ _ _=>rfl
noncomputable abbrev yY:dQ:=pU λi j=>.bl (decide (i<=j))
theorem mB:b_ X (g5 .LtE) (liftR2 X yY):=nc LM λ_ _ _ _=>rfl
noncomputable abbrev sS:dQ:=pU λi j=>.bl (decide (j<i))
theorem FU:b_ X (g5 .Gt) (liftR2 X sS):=nc KG λ_ _ _ _=>rfl
noncomputable abbrev oGe:dQ:=pU λi j=>.bl (decide (j<=i))
theorem G4:b_ X (g5 .GtE) (liftR2 X oGe):=nc JA λ_ _ _ _=>rfl
theorem A1{c:Nat}:∀(k:Nat)(SZ:Array Nat),(Mh k #[c]).foldl (·++·) SZ=SZ++ND k c
 |0,SZ=>by simp
 |k+1,SZ=>by
  rw[NL,Ng,A1 k _];apply Array.ext';simp[NL]
theorem Bb:b_ X (lu .Mult) (λx y H Q=>∃c k,x=.str ⟨#[c]⟩/\y=.int k/\1<=k/\k<=1000/\Q (.str ⟨ND k.toNat c⟩) H):=by
 intro f s Z H x y v u Q I m i h;obtain⟨c,k,rfl,rfl,o,n,q⟩:=h;obtain⟨t,rfl⟩:=m;obtain⟨w,rfl⟩:=i;have a:(⟨#[c]⟩:Str).length=1:=rfl;have j:sizeLine=16777216:=rfl;refine PySem.P.mul_str ?_ ?_ ?_ ?_
 .rw[decide_eq_false (by lia),decide_eq_false (by lia)];rfl
 .intro _ _ l
  rw[a]at l;have:(1:Int)<=(2 ^ 63-1) / k:=Int.le_ediv_of_mul_le (by lia) (by lia)
  lia
 .intro _ _
  rw[a];exact decide_eq_false (by lia)
 .rw[if_neg (by lia)]
  by_cases b:k=1
  .subst b
   exact⟨.str ⟨#[c]⟩,H,I,⟨_,rfl⟩,q⟩
  .rw[if_neg (by simp[a,b])]
   have g:(Mh k.toNat #[c]).foldl (·++·) #[]=ND k.toNat c:=by rw[A1];simp
   refine⟨?_,.str _,H,I.tok _,⟨_,rfl⟩,by rw[g];exact q⟩
   show ((Mh k.toNat #[c]).foldl (·++·) #[]).size<=sizeLine;rw[g];simp;lia
def h_:dQ:=λx y M Q=>match x,y with
 |.int i,.int j=>CMul i j/\Q (.int (i*j)) M
 |.str z,.int k=>match z.cps.toList with
  |[c]=>1<=k/\k<=1000/\Q (.str ⟨ND k.toNat c⟩) M
  |_=>False
 |.tup xs,.int k=>xs≠[]/\0<=k/\k<=1000/\xs.length<=1000/\Q (.tup (Mh k.toNat xs).flatten) M
 |_,_=>False
theorem Rps.rep{ds:List D}{vs:List V}(h:Rps K H ds vs):∀k:Nat,Rps K H (Mh k ds).flatten (Mh k vs).flatten
 |0=>rfl
 |k+1=>by
  exact h.append (Rps.rep h k)
theorem Ch:b_ X (lu .Mult) (liftR2 X h_):=by
 rintro F s Z H x y v u Q I C A ⟨S,q,M,QQ,m,a,n,h,g⟩
 cases S with
 |int i=>
  cases q with
  |int j=>
   cases a;cases n;exact Gj _ s Z H _ _ v u Q I C A ⟨_,_,rfl,rfl,h.1,g _ M h.2 _ H m Frm.refl rfl⟩
  |_=>exact(h).elim
 |str z=>
  cases q with
  |int k=>
   cases a;cases n;simp[h_]at h
   split at h
   .rename_i c e
    have L:z=⟨#[c]⟩:=by
     obtain⟨⟨l⟩⟩:=z
     simp_all
    subst L;exact Bb _ s Z H _ _ v u Q I C A ⟨_,_,rfl,rfl,h.1,h.2.1,g _ M h.2.2 _ H m Frm.refl rfl⟩
   exact h.elim
  |_=>exact(h).elim
 |tup xs=>
  cases q with
  |int k=>
   obtain⟨p,f,rfl,t1,a⟩:=a;cases n;obtain⟨w,R,P,Y,G⟩:=h;have T:=a.length;obtain⟨t,rfl⟩:=A;cases C;obtain⟨O,r,J,_⟩:=I.tuple t1.sq;have hl:=r.length;refine xy J (λz=>w ?_) R P (by lia) (λe=>?_) λe=>?_
   .simp_all
   .subst e
    refine⟨.ref p,H,I,rfl,g _ M G _ H m Frm.refl ⟨p,f,rfl,t1,?_⟩⟩
    simp_all
   .have E:=I.hok.fresh (Mo _)
    have N:(Mh k.toNat f).flatten.length<=sizeLine:=by
     rw[Eo];have w:k.toNat*f.length<=1000*1000:=Nat.mul_le_mul (by lia) (by lia)
     exact My w (by decide)
    exact⟨.ref s.heap.objs.size,_,I.laid (t':=s.toks) (o:=.tup (Mh k.toNat f).flatten) (λb W z=>Mb _ z) (Mo _) ⟨N,_,r.rep k.toNat,⟨_,Mn _ rfl,⟨rfl,_,rfl⟩,rfl⟩⟩,rfl,
     g _ M G _ _ (m.new E) (Frm.new E) ⟨_,_,rfl,upd_same,(a.rep _).mono<|Imm.new E⟩⟩
  |_=>exact(h).elim
 |_=>exact(h).elim
def kF:D->Bool
 |.non=>true
 |_=>eP
def t7:dQ:=λx y M Q=>match y with
 |.non=>Q (.bl<|kF x) M
 |_=>False
def mq:dQ:=λx y M Q=>match y with
 |.non=>Q (.bl<|!kF x) M
 |_=>False
theorem Ai(r:Rp K H d v):decide (v=V.non)=kF d:=by
 cases d with
 |non=>cases r;rfl
 |tup xs=>obtain⟨p,a,rfl,_⟩:=r;rfl
 |lst xs=>obtain⟨p,a,rfl,_⟩:=r;rfl
 |mt xs=>obtain⟨p,a,rfl,_⟩:=r;rfl
 |ml xs=>obtain⟨p,a,rfl,_⟩:=r;rfl
 |fd ks xs=>obtain⟨p,a,rfl,_⟩:=r;rfl
 |_=>cases r;rfl
theorem wm:b_ X (g5 .Is) (liftR2 X t7):=by
 rintro a s Z H x y v u Q I g f ⟨n,m,M,QQ,l,b,j,h,i⟩
 unfold t7 at h
 split at h
 .cases j
  exact J0 _ s Z H _ _ v u Q I g f ⟨rfl,by rw[Ai b];exact i _ M h _ H l Frm.refl rfl⟩
 trivial
theorem Bi:b_ X (g5 .IsNot) (liftR2 X mq):=by
 rintro a s Z H x y v u Q I g f ⟨n,m,M,QQ,l,b,j,h,i⟩
 unfold mq at h
 split at h
 .cases j
  refine Cg _ s Z H _ _ v u Q I g f ⟨rfl,i _ M h _ H l Frm.refl ?_⟩;show _=V.bl _;rw[Ai b]
 trivial
end
section
variable{κ:Type}[DecidableEq κ]
noncomputable def j8(SY:List (κ×D))(k:κ):Option D:=(SY.find? λa=>decide (a.1=k)).map (·.2)
noncomputable def eN(SY:List (κ×D))(k:κ)(v:D):List (κ×D):=
 if (SY.any λa=>decide (a.1=k))=true then SY.map (λa=>if a.1=k then (a.1,v) else a) else SY++[(k,v)]
theorem Rkv.val{SY:List (κ×D)}{b:List (κ×V)}(h:Rkv K H SY b)(k:κ):(j8 SY k=ed/\fM b k=ed)\/∃d v,j8 SY k=cb d/\fM b k=cb v/\Rp K H d v:=by
 induction h with
 |nil=>exact .inl ⟨rfl,rfl⟩
 |@cons p q ps qs r t ih=>
  obtain⟨f,d⟩:=p;obtain⟨g,v⟩:=q;obtain⟨e,r⟩:=r;dsimp only at e r;subst e
  by_cases a:f=k
  .exact .inr ⟨d,v,by simp[j8,a],by simp[fM,a],r⟩
  simpa [j8,fM,a] using ih
theorem Rkv.any{SY:List (κ×D)}{a:List (κ×V)}(h:Rkv K H SY a)(k:κ):(SY.any λkv=>decide (kv.1=k))=(a.any λkv=>decide (kv.1=k)):=by
 induction h<;>simp_all
theorem Rkv.put{SY:List (κ×D)}{b:List (κ×V)}(h:Rkv K H SY b)(k:κ){d:D}{v:V}(r:Rp K H d v):Rkv K H (eN SY k d) (di b k v):=by
 unfold eN di;rw[h.any k]
 split
 .rename_i q;clear q
  induction h with
  |nil=>exact .nil
  |@cons p q ps qs rr t ih=>
   obtain⟨g,i⟩:=p;obtain⟨j,l⟩:=q;obtain⟨e,f⟩:=rr;dsimp only at e f;subst e;rw[Ms,Ms];refine .cons ?_ ih
   by_cases a:g=k
   .rw[if_pos a,if_pos a];trivial
   rw[if_neg a,if_neg a];trivial
 rename_i q;clear q
 induction h with
 |nil=>exact .cons ⟨rfl,r⟩ .nil
 |cons rr t ih=>exact .cons rr ih
theorem Rkv.length{SY:List (κ×D)}{a:List (κ×V)}(h:Rkv K H SY a):SY.length=a.length:=NF h
end
def nX:D->Option bh
 |.int i=>cb (.inl i)
 |.str x=>cb (.inr x)
 |_=>ed
def eA:List D->Option (List bh)
 |[]=>cb []
 |d::ds=>match nX d,eA ds with
  |some k,cb ks=>cb (k::ks)
  |_,_=>ed
def yZ:D->Option (List bh)
 |.tup xs=>eA xs
 |_=>ed
section
theorem oR{d:D}{v:V}{k:bh}(r:Rp K H d v)(e:nX d=cb k):v=kV k:=by
 cases d with
 |int i=>cases e;exact r
 |str x=>cases e;exact r
 |_=>cases e
theorem mz:∀{ds:List D}{vs:List V}{ks:List bh},Rps K H ds vs->eA ds=cb ks->vs=ks.map kV
 |[],vs,ks,r,e=>by cases e;exact r
 |d::ds,vs,ks,r,e=>by
  obtain⟨v,i,rfl,a,b⟩:=r;simp[eA]at e
  split at e
  .rename_i k f g h
   cases e;rw[oR a g,mz b h];rfl
  cases e
def yA(M:Mem)(a:eH)(y:D):Option (Option D):=match M a with
 |some (.dK SY)=>match nX y with
  |some k=>cb (j8 SY k)
  |none=>ed
 |some (.dT SY)=>match yZ y with
  |some k=>cb (j8 SY k)
  |none=>ed
 |_=>ed
theorem m7{d:D}{v:V}{ks:List bh}(r:Rp K H d v)(e:yZ d=cb ks):∃b,v=.ref b/\H b=cb (.tup<|ks.map kV):=by
 cases d with
 |tup xs=>
  obtain⟨p,a,rfl,t,r⟩:=r;exact⟨p,rfl,by rw[<- mz r e];exact t⟩
 |_=>cases e
theorem pG{a:eH}{y:D}{v:V}{o:Option D}(q:RepH K H M)(r:Rp K H y v)(e:yA M a y=cb o):
  (o=ed/\DGet H a v ed)\/∃d w,o=cb d/\DGet H a v (cb w)/\Rp K H d w:=by
 unfold yA at e
 split at e
 .rename_i j m
  obtain⟨s,h,l⟩:=q _ _ m
  split at e
  .rename_i k i
   cases e;have u:=oR r i;subst u;rcases l.val k with⟨f,g⟩|⟨d,w,f,g,r'⟩
   .exact .inl ⟨f,by rw[<- g];exact DGet.k h⟩
   exact .inr ⟨d,w,f,by rw[<- g];exact DGet.k h,r'⟩
  cases e
 .rename_i j m
  obtain⟨s,h,l⟩:=q _ _ m
  split at e
  .rename_i k i
   cases e;obtain⟨b,rfl,n⟩:=m7 r i;rcases l.val k with⟨f,g⟩|⟨d,w,f,g,r'⟩
   .exact .inl ⟨f,by rw[<- g];exact DGet.t h n⟩
   exact .inr ⟨d,w,f,by rw[<- g];exact DGet.t h n,r'⟩
  cases e
 cases e
end
end _3
namespace HT
open PySem PyProof.Rows
section
variable {prog:g4}{w:kB}{A:kL}{E:Te}{s:eC}
theorem fQ{t m:eH}{a:Th}{j n:cp}{b f:Option Int}{Q:Te}(e:IsTup s.heap t a)(l:s.heap.IsSliceOf m j n .none)(pl:RS j b)(q:RS n f)
  (r:sIx a.size 0 b=0/\sIx a.size a.size f=a.size) (h:Q (.ref t) s):ft (fy prog w) A (RU (.ref t)<|.ref m) Q E s:=by
 obtain⟨p,i,g,o⟩:=id l;unfold RU
 try with_reducible refine lb ?_
 refine cx (wpAny_sequenceKey e.typeIs (by decide) ?_)
 refine cx (wpAny_callSpecial?_slot e.typeIs MT
  (F' MT e.typeIs entry_tuple_getitem ?_<|args_tuple_getitem _ _))
 show ft _ _ (Pb _ >>= _) _ _ s;refine cx (tupleItemsOf_ e ?_);refine cx (M_ ⟨p,i,g⟩ ?_);refine cx (dP l pl q ?_);have c:((((sIx a.size 0 b):Int)==0&&(1:Int)==1&&(sIx a.size a.size f-sIx a.size 0 b)==a.size)=true):=by
  simp_all
 show ft _ _ (if (((sIx _ 0 b:Nat):Int)==0&&1==1&&(sIx _ _ f-sIx _ 0 b)==a.size)=true then _ else _) _ _ s
 rw[if_pos c];refine cx (cx<|wpAny_typeOf e.typeIs<|wpAny_pure ?_)
 first
  |exact cx _
  |exact cx (RW<|wpAny_pure ⟨_,rfl,fx h⟩)
  |rfl
  |trace_state
end
end HT
namespace _3
open PySem _2
variable{p p':eH}{A:kL}{a b:Th}{B:Bd}{X:Cx}{c e tg:hB}{H:Hp}{Z:_2.St}{es:Tc}{S3 its':Ta}{M:Mem}{K:Mi}{i n:Nat}{pos pos':Pos}{s:eC}{x:Str}{u:cp}{tb:az}{te:bi}{g:jd}{r:rM}
section
variable{a b:hB}{ta tb tc:bi}
def av:dQ:=λx y M Q=>match aE M x,y with
 |some xs,.int i=>match atI xs i with
  |some d=>Q d M
  |none=>False
 |some _,_=>False
 |none,y=>match x,y with
  |.str z,.int i=>z.length<=sizeLine/\match atI z.cps.toList i with
   |some c=>Q (.str ⟨#[c]⟩) M
   |none=>False
  |.ref a,y=>match yA M a y with
   |some (cb d)=>Q d M
   |_=>False
  |_,_=>False
theorem Rps.atI{ds:List D}{vs:List V}{i:Int}{d:D}(r:Rps K H ds vs)(e:atI ds i=cb d):∃v,_2.atI vs i=cb v/\Rp K H d v:=by
 unfold _2.atI at e ⊢;rw[<- r.length];cases q:wJ _ i with
 |none=>simp_all
 |some j=>
  rw[q]at e;exact r.get e
theorem Db(E:X.A.units+1<mv):IxR X (λx y H Q=>∃a v,x=.ref a/\DGet H a y (cb v)/\Q v H):=by
 intro j f m s Z H x y v u Q I z o h C;obtain⟨a,w,rfl,g,q⟩:=h;cases z;exact PC (q_ I g) rfl (yB E I g o λG F I3 l=>⟨w,H,I3,l,q⟩) C
theorem HJ(U:X.A.units+1<mv):IxR X (liftR2 X av):=by
 intro q m P s Z H x y v u Q I G F h L;obtain⟨d1,W,M,QQ,l,o,C,h,J⟩:=h;unfold av at h
 split at h
 .rename_i Y i e
  split at h
  .rename_i d E
   cases C;obtain⟨p,N,rfl,hq,r⟩:=hW l o e;obtain⟨w,O,f⟩:=r.atI E;refine Hq _ _ _ s Z H _ _ v u Q I G F ?_ L;have j:=J _ M h _ H l Frm.refl f;rcases hq with hq|hq
   .exact .inl ⟨p,N,i,w,rfl,rfl,hq,O,j⟩
   exact .inr (.inl ⟨p,N,i,w,rfl,rfl,hq,O,j⟩)
  trivial
 .exact h.elim
 split at h
 .obtain⟨T,h⟩:=h
  split at h
  .rename_i R S
   cases o;cases C;exact Af _ _ _ s Z H _ _ v u Q I G F ⟨_,_,R,rfl,rfl,T,S,J _ M h _ H l Frm.refl rfl⟩ L
  trivial
 .split at h
  .rename_i d E
   cases o;rcases pG l C E with⟨z,_⟩|⟨d',w,z,g,f⟩
   .cases z
   cases z;exact Db U _ _ _ s Z H _ _ v u Q I G F ⟨_,w,rfl,g,J _ M h _ H l Frm.refl f⟩ L
  trivial
 trivial
noncomputable abbrev F6:=Dl->Mem->(Option Int->Mem->Prop)->Prop
inductive liftO(X:Cx)(B:Bd)(T:F6)(Z:St)(H:Hp)(Q:Option Int->Hp->Prop):Prop
 |mk (U:Dl) (M:Mem) (QQ:Option Int->Mem->Prop) (s:SR X B U M Z H) (h:T U M QQ) (u:∀o M',QQ o M'->∀H',RepH X.K H' M'->Frm M H M' H'->Q o H'):liftO X B T Z H Q
def DO(X:Cx)(B:Bd)(e:Option hB)(T:F6):Prop:=PO X e (liftO X B T)
theorem vH{e:Option hB}{t t':TO}(h:PO X e t)(w:∀Z H Q,t' Z H Q->t Z H Q):PO X e t':=λf s Z H Q I q=>h _ s Z H Q I (w Z H Q q)
def aI:F6:=λ_ M Q=>Q ed M
def bj(t:bi):F6:=λU M Q=>t U M λx M1=>match x with
 |.int i=>Q (cb i) M1
 |_=>False
theorem Dp:DO X B ed aI:=vH BZ (by rintro Z H Q ⟨U,M,QQ,s,h,u⟩;exact u _ M h H s.rh Frm.refl)
theorem Ds(h:DE X B e te):DO X B (cb e) (bj te):=by
 refine vH (C9 h) ?_
 rintro Z H Q ⟨U,M,QQ,s,h,u⟩
 refine⟨U,M,_,s,h,λd M' q v H' f i r=>?_⟩;cases d with
 |int j=>exact⟨j,r,u _ M' q H' f i⟩
 |_=>exact q.elim
noncomputable def dE(xs:List D)(lo hi:Option Int):List D:=(xs.drop<|HT.sIx xs.length 0 lo).take (HT.sIx xs.length xs.length hi-HT.sIx xs.length 0 lo)
theorem Rps.cut{ds:List D}{vs:List V}(r:Rps K H ds vs)(f h:Option Int):Rps K H (dE ds f h) (mP vs f h):=by
 unfold dE mP;rw[<- r.length];exact(r.drop _).take _
def yE(x:D)(lo hi:Option Int)(M:Mem)(Q:DK):Prop:=match x with
 |.tup xs=>Q (.tup<|dE xs lo hi) M
 |.ml xs=>∀p,M p=ed->Q (.ref p) (M.upd p<|.lst<|dE xs lo hi)
 |x=>match dg M x with
  |some xs=>∀p,M p=ed->Q (.ref p) (M.upd p<|.lst<|dE xs lo hi)
  |none=>False
inductive liftSl(X:Cx)(x:V)(lo hi:Option Int)(H:Hp)(Q:VK):Prop
 |mk (d:D) (M:Mem) (QQ:DK) (rh:RepH X.K H M) (r:Rp X.K H d x) (h:yE d lo hi M QQ) (u:Up X.K M H QQ Q):liftSl X x lo hi H Q
theorem sQ{vs:List V}{f j:Option Int}(h:HT.sIx vs.length 0 f=0/\HT.sIx vs.length vs.length j=vs.length):mP vs f j=vs:=by
 unfold mP
 simp_all
theorem Cp:La X (λx lo hi H Q=>∃a xs,x=.ref a/\jc X.K H a xs/\(mP xs lo hi=xs->Q (.ref a) H)/\∀p,H p=ed->Q (.ref p) (upd H p<|.tup<|mP xs lo hi)):=by
 intro j s Z H x v J F lo hi E Q I y z w o h;obtain⟨a,xs,rfl,C,G,q⟩:=h
 by_cases l:HT.sIx xs.length 0 lo=0/\HT.sIx xs.length xs.length hi=xs.length
 .cases y
  obtain⟨S3,r,m,L⟩:=I.tuple C;have f:S3.toArray.size=xs.length:=by rw[Mr];exact r.length.symm
  refine⟨"tuple",_,MT.lookup,m.typeIs,?_⟩;exact HT.fQ m z w o (by rw[f];exact l) ⟨.ref a,H,I,rfl,G<|sQ l⟩
 .exact HC j s Z H _ v J F lo hi E Q I y z w o ⟨a,xs,rfl,C,l,q⟩
end
section
variable{lo hi:Option hB}{tl th:F6}{p2 p:Pos}{t:dX}
theorem G3:La X (liftSl X):=by
 rintro SW s Z H x v vl vu lo hi sl Q I rx hs pl pu ⟨d,M,QQ,rh,r,h,up⟩
 unfold yE at h
 split at h
 .obtain⟨a,vs,rfl,ht,r⟩:=r
  exact Cp _ s Z H _ v vl vu lo hi sl Q I rx hs pl pu ⟨a,vs,rfl,ht.sq,λe=>up _ M h _ H rh Frm.refl ⟨a,vs,rfl,ht,by rw[<- e];exact r.cut lo hi⟩,λp hp=>up _ M h _ _ (rh.new hp) (Frm.new hp) ⟨p,_,rfl,upd_same,(r.cut lo hi).mono<|Imm.new hp⟩⟩
 .obtain⟨a,vs,rfl,hq,r⟩:=r
  exact wt _ s Z H _ v vl vu lo hi sl Q I rx hs pl pu ⟨a,vs,rfl,hq.sq,λp hp=>up _ _ (h p<|rh.fresh hp) _ _ (rh.put (by rw[hp];trivial) ⟨_,upd_same,(r.cut lo hi).mono<|Imm.new hp⟩) (Frm.put<|.inl hp) rfl⟩
 split at h
 .rename_i xs e
  obtain⟨a,vs,rfl,hq,r⟩:=eh rh r e;exact wt _ s Z H _ v vl vu lo hi sl Q I rx hs pl pu ⟨a,vs,rfl,.inl hq,λp hp=>up _ _ (h p<|rh.fresh hp) _ _ (rh.put (by rw[hp];trivial) ⟨_,upd_same,(r.cut lo hi).mono<|Imm.new hp⟩) (Frm.put<|.inl hp) rfl⟩
 trivial
def fO(te:bi)(tl th:F6):bi:=λU M Q=>te U M λx M1=>tl U M1 λl M2=>th U M2 λu M3=>yE x l u M3 Q
theorem zd(z:DE X B e te)(C:DO X B lo tl)(E:DO X B hi th):DE X B (.Subscript e (.Slice lo hi ed p2) pos) (fO te tl th):=by
 refine aO (AF G3 z C E) ?_
 rintro Z H Q ⟨U,M,QQ,s,h,u⟩
 exact⟨U,M,_,s,h,λx M1 v v1 H1 f i1 y=>⟨U,M1,_,s.go f i1,v,λl M2 o H2 j i2=>⟨U,M2,_,s.go j (i1.trans i2),o,λw M3 q H3 m i3=>⟨x,M3,QQ,m,y.mf f (i2.trans i3),q,u.go<|(i1.trans i2).trans i3⟩⟩⟩⟩
noncomputable abbrev rM:=List D->Mem->DK->Prop
inductive liftC(X:Cx)(r:rM)(xs:List V)(H:Hp)(Q:VK):Prop
 |mk (ds:List D) (M:Mem) (QQ:DK) (rh:RepH X.K H M) (rp:Rps X.K H ds xs) (h:r ds M QQ) (u:Up X.K M H QQ Q):liftC X r xs H Q
def bn(r:rM)(t:dX):bi:=λU M Q=>t U M λf M1=>r f M1 Q
theorem xk{Q:VK}(h:liftE X B (bn r t) Z H Q):tCB (liftC X r) (liftA X B t) Z H Q:=by
 obtain⟨U,M,QQ,s,h,u⟩:=h;exact⟨U,M,_,s,h,λm M1 j o H1 f i1 l=>⟨m,M1,QQ,f,l,j,u.go i1⟩⟩
theorem A0{id:String}(o:bI X (.builtin id) (liftC X r))(j:Gl X x)(l:X.mg x=ed)(q:g3 x=cb (.builtin id))(m:DA X B (e::es) t)(f:x≠"__name__":=by decide)(hdb:(x==("__debug__":Str))=false:=by decide)(he:eT (e::es) X.env=(eP,h9 e X.env)::eT es X.env:=by rfl)(hpl:(lq pos<|starEach es X.env).any (·.1)=false:=by rfl):DE X B (.Call (.Name x p) (e::es) [] pos) (bn r t):=
 aO (Ac o j l q m f hdb he hpl) λ_ _ _ h=>xk h
theorem xE{T:String}(o:bI X (.type T) (liftC X r))(j:Gl X x)(l:X.mg x=ed)(q:g3 x=cb (.type T))(m:DA X B (e::es) t)(f:x≠"__name__":=by decide)(hdb:(x==("__debug__":Str))=false:=by decide)(he:eT (e::es) X.env=(eP,h9 e X.env)::eT es X.env:=by rfl)(hpl:(lq pos<|starEach es X.env).any (·.1)=false:=by rfl):DE X B (.Call (.Name x p) (e::es) [] pos) (bn r t):=
 aO (yx o j l q m f hdb he hpl) λ_ _ _ h=>xk h
theorem eU{ds:List D}{vs:List V}{d:D}(r:Rps K H [d] vs):∃v,vs=[v]/\Rp K H d v:=by
 obtain⟨v,w,rfl,a,b⟩:=r;cases b;exact⟨v,rfl,a⟩
theorem Ip{vs:List V}{d e:D}(r:Rps K H [d,e] vs):∃v w,vs=[v,w]/\Rp K H d v/\Rp K H e w:=by
 obtain⟨v,w,rfl,a,b⟩:=r;obtain⟨f,j,rfl,h,b⟩:=b;cases b;exact⟨v,f,rfl,a,h⟩
def bC:rM:=λf M Q=>match f with
 |[d]=>match aE M d with
  |some xs=>Q (.int xs.length) M
  |none=>match d with
   |.str z=>z.length<=sizeLine/\Q (.int z.length) M
   |.ref a=>match M a with
    |some (.dK SY)=>Q (.int SY.length) M
    |_=>False
   |_=>False
 |_=>False
theorem yd:bI X (.builtin "len") (liftC X bC):=by
 rintro o s Z H L m Q I r ⟨ds,M,QQ,f,J,h,l⟩
 unfold bC at h
 split at h
 .obtain⟨v,rfl,j⟩:=eU (ds:=[]) J
  split at h
  .rename_i N e
   obtain⟨q,y,rfl,G,E⟩:=hW f j e;exact oO _ s Z H _ m Q I r ⟨q,y,rfl,G,by rw[<- E.length];exact l _ M h _ H f Frm.refl rfl⟩
  split at h
  .cases j
   exact on _ s Z H _ m Q I r ⟨_,rfl,h.1,l _ M h.2 _ H f Frm.refl rfl⟩
  .split at h
   .rename_i F e
    cases j;obtain⟨C,z,w⟩:=f _ _ e;exact x_ _ s Z H _ m Q I r ⟨_,C,rfl,z,by rw[<- w.length];exact l _ M h _ H f Frm.refl rfl⟩
   trivial
  trivial
 trivial
def zc:rM:=λf M Q=>match f with
 |[d]=>match aE M d with
  |some xs=>∀p,M p=ed->Q (.ref p) (M.upd p<|.lst xs)
  |none=>False
 |_=>False
theorem uP:bI X (.type "list") (liftC X zc):=by
 rintro SW s Z H xs us Q I r ⟨ds,M,QQ,rh,rp,h,up⟩
 unfold zc at h
 split at h
 .obtain⟨v,rfl,rv⟩:=eU (ds:=[]) rp
  split at h
  .rename_i ys e
   obtain⟨q,vs,rfl,hq,rr⟩:=hW rh rv e;exact pB _ s Z H _ us Q I r ⟨q,vs,rfl,hq,λp hp=>up _ _ (h p<|rh.fresh hp) _ _ (rh.put (by rw[hp];trivial) ⟨_,upd_same,rr.mono<|Imm.new hp⟩) (Frm.put<|.inl hp) rfl⟩
  trivial
 trivial
def bP:rM:=λf M Q=>match f with
 |[.tup xs]=>Q (.tup xs) M
 |[d]=>match dg M d with
  |some xs=>Q (.tup xs) M
  |none=>False
 |_=>False
theorem rK:bI X (.type "tuple") (liftC X bP):=by
 rintro w s Z H G E Q I r ⟨ds,M,QQ,o,C,h,z⟩
 unfold bP at h
 split at h
 .obtain⟨v,rfl,l⟩:=eU (ds:=[]) C
  obtain⟨q,f,rfl,y,m⟩:=l;exact fU _ s Z H _ E Q I r ⟨q,f,rfl,.inr ⟨y.sq,z _ M h _ H o Frm.refl ⟨q,f,rfl,y,m⟩⟩⟩
 .obtain⟨v,rfl,l⟩:=eU (ds:=[]) C
  split at h
  .rename_i J e
   obtain⟨q,f,rfl,F,m⟩:=eh o l e;exact fU _ s Z H _ E Q I r ⟨q,f,rfl,.inl ⟨.inl F,λp j=>z _ M h _ _ (o.new j) (Frm.new j) ⟨p,_,rfl,upd_same,m.mono<|Imm.new j⟩⟩⟩
  trivial
 trivial
def bV(M:Mem):D->Option String
 |.non=>cb "NoneType"
 |.bl _=>cb "bool"
 |.int _=>cb "int"
 |.str _=>cb "str"
 |.tup _=>cb "tuple"
 |.lst _=>cb "list"
 |.ref a=>match M a with
  |some (.lst _)=>cb "list"
  |some (.dK _)=>cb "dict"
  |some (.dT _)=>cb "dict"
  |_=>ed
 |_=>ed
noncomputable def bN(t T:String):Bool:=t==T||(t=="bool"&&T=="int")
noncomputable def tO(T:String):Bool:=T=="bool"||T=="int"||T=="str"||T=="tuple"||T=="list"||T=="dict"
theorem CK:(∀K:Mi,∀t∈["NoneType","bool","int","str","tuple","list","dict"],∀T∈["bool","int","str","tuple","list","dict"],W.kitOne K (.type t) (.type T)=cb (bN t T)):=by
 intro K t h T f;simp at h f;rcases h with rfl|rfl|rfl|rfl|rfl|rfl|rfl<;>rcases f with rfl|rfl|rfl|rfl|rfl|rfl<;>kernel_rfl
theorem DR{d:D}{v:V}{t:String}(j:RepH K H M)(r:Rp K H d v)(e:bV M d=cb t):TyOf K H v (.type t)/\t∈["NoneType","bool","int","str","tuple","list","dict"]:=by
 cases d with
 |non=>cases r;cases e;exact⟨.non,by simp⟩
 |bl b=>cases r;cases e;exact⟨.bl b,by simp⟩
 |int i=>cases r;cases e;exact⟨.int i,by simp⟩
 |str x=>cases r;cases e;exact⟨.str x,by simp⟩
 |tup xs=>
  cases e;obtain⟨q,w,rfl,h,y⟩:=r;exact⟨.tup h,by simp⟩
 |lst xs=>
  cases e;obtain⟨q,w,rfl,⟨o,h⟩,y⟩:=r;exact⟨.frz h,by simp⟩
 |ref a=>
  cases r;simp[bV]at e
  split at e
  .rename_i q;cases e;obtain⟨m,f,l⟩:=j _ _ q;exact⟨.lst f,by simp⟩
  .rename_i q;cases e;obtain⟨m,f,l⟩:=j _ _ q;exact⟨.dK f,by simp⟩
  .rename_i q;cases e;obtain⟨m,f,l⟩:=j _ _ q;exact⟨.dT f,by simp⟩
  cases e
 |_=>cases e
def bT:rM:=λf M Q=>match f with
 |[d,.ty T]=>tO T=true/\match bV M d with
  |some t=>Q (.bl<|bN t T) M
  |none=>False
 |_=>False
theorem oV:bI X (.builtin "isinstance") (liftC X bT):=by
 rintro l s Z H E C Q I r ⟨F,M,QQ,m,z,h,y⟩
 unfold bT at h
 split at h
 .rename_i d T
  obtain⟨j,h⟩:=h;obtain⟨v,w,rfl,o,f⟩:=Ip z;cases f
  split at h
  .rename_i t e
   obtain⟨ty,q⟩:=DR m o e;refine rR _ s Z H _ C Q I r ⟨v,T,_,_,rfl,ty,CK _ t q T ?_,y _ M h _ H m Frm.refl rfl⟩;simp[tO]at j;simp;rcases j with ((((h|h)|h)|h)|h)|h<;>simp[h]
  trivial
 trivial
def iU:List D->Option (List Bool)
 |[]=>cb []
 |.bl b::ds=>match iU ds with
  |some bs=>cb (b::bs)
  |none=>ed
 |_=>ed
theorem nL:∀{ds:List D}{vs:List V}{bs:List Bool},Rps K H ds vs->iU ds=cb bs->vs=bs.map V.bl
 |[],vs,bs,r,e=>by cases e;exact r
 |d::ds,vs,bs,r,e=>by
  obtain⟨v,j,rfl,a,b⟩:=r;cases d with
  |bl c=>
   simp[iU]at e
   split at e
   .rename_i f h
    cases e;cases a;rw[nL b h];rfl
   cases e
  |_=>cases e
def pI:rM:=λf M Q=>match f with
 |[d]=>match dg M d with
  |some xs=>match iU xs with
   |some bs=>Q (.bl<|bs.all id) M
   |none=>False
  |none=>False
 |_=>False
theorem yu(F:X.calm=true):bI X (.builtin "all") (liftC X pI):=by
 rintro f s Z H J E Q I r ⟨ds,M,QQ,j,C,h,y⟩
 unfold pI at h
 split at h
 .obtain⟨v,rfl,l⟩:=eU (ds:=[]) C
  split at h
  .rename_i L e
   split at h
   .rename_i bs o
    obtain⟨q,G,rfl,z,w⟩:=eh j l e;have m:=nL w o;subst m;exact zG F _ s Z H _ E Q I r ⟨q,bs,rfl,.inl z,y _ M h _ H j Frm.refl rfl⟩
   trivial
  trivial
 trivial
def FW:rM:=λf M Q=>match f with
 |[.int i,.int j]=>Q (.int (if j<i then j else i)) M
 |_=>False
theorem yk(z:X.calm=true):bI X (.builtin "min") (liftC X FW):=by
 rintro j s Z H C q Q I r ⟨E,M,QQ,y,o,h,m⟩
 unfold FW at h
 split at h
 .obtain⟨v,w,rfl,l,f⟩:=Ip o
  cases l;cases f;exact xz z _ s Z H _ q Q I r ⟨_,_,rfl,m _ M h _ H y Frm.refl rfl⟩
 trivial
end
mutual
def aH:D->D->Bool
 |.non,.non=>true
 |.bl a,.bl b=>a==b
 |.bl a,.int b=>(if a then 1 else 0)==b
 |.int a,.bl b=>a==(if b then 1 else 0)
 |.int a,.int b=>decide (a=b)
 |.str a,.str b=>decide (a=b)
 |.tup xs,.tup ys=>cz xs ys
 |.lst xs,.lst ys=>cz xs ys
 |_,_=>eP
def cz:List D->List D->Bool
 |[],[]=>true
 |x::xs,y::ys=>aH x y&&cz xs ys
 |_,_=>eP
end
mutual
def bX:Nat->D->Bool
 |_,.non=>true
 |_,.bl _=>true
 |_,.int _=>true
 |_,.str _=>true
 |n+1,.tup xs=>fits n xs
 |n+1,.lst xs=>fits n xs
 |_,_=>eP
def fits:Nat->List D->Bool
 |_,[]=>true
 |n,x::xs=>bX n x&&fits n xs
end
mutual
def Hr(h:ka):D->cp->Prop
 |.non,u=>u=.none
 |.bl b,u=>u=.bool b
 |.int i,u=>∃t,u=.int i t
 |.str x,u=>∃t,u=.str x t
 |.tup xs,u=>∃p S3,u=.ref p/\h.IsTuple p (NX S3)/\Hrs h xs S3
 |.lst xs,u=>∃p S3,u=.ref p/\h.IsList p (NX S3)/\Hrs h xs S3
 |_,_=>False
def Hrs(h:ka):List D->List cp->Prop
 |[],us=>us=[]
 |x::xs,us=>∃u r,us=u::r/\Hr h x u/\Hrs h xs r
end
section
variable{h:ka}
theorem Hrs.length:∀{ds:List D}{us:Ta},Hrs h ds us->ds.length=us.length
 |[],_,q=>by cases q;rfl
 |_::_,_,q=>by obtain⟨v,r,rfl,_,b⟩:=q;simp[b.length]
theorem Hrs.get:∀{ds:List D}{us:Ta},Hrs h ds us->∀(i:Nat)(h1:i<ds.length)(h2:i<us.length),Hr h ds[i] us[i]
 |[],_,_,i,h1,_=>absurd h1 (by trivial)
 |x::xs,_,q,i,h1,h2=>by
  obtain⟨v,r,rfl,a,b⟩:=q;cases i with
  |zero=>exact a
  |succ i=>exact b.get i _ _
theorem vp(x:h.IsTuple p a)(y:h.IsTuple p b):a=b:=by
 obtain⟨o,q,_,n,l⟩:=x;obtain⟨m,f,_,v,j⟩:=y
 simp_all
theorem wy(x:h.IsList p a)(y:h.IsList p b):a=b:=by
 obtain⟨o,q,_,n,l⟩:=x;obtain⟨m,f,_,v,j⟩:=y
 simp_all
theorem Lh(x:h.IsList p a)(y:h.IsTuple p b):False:=by
 obtain⟨o,l,c,_⟩:=x;obtain⟨j,f,m,_⟩:=y
 simp_all
mutual
theorem A3:∀{d e:D}{u:cp},Hr h d u->Hr h e u->d=e
 |.non,e,u,a,b=>by
  cases a;cases e with
  |non=>rfl
  |bl _=>cases b
  |int _=>obtain⟨t,q⟩:=b;cases q
  |str _=>obtain⟨t,q⟩:=b;cases q
  |tup _=>obtain⟨p,i,q,_⟩:=b;cases q
  |lst _=>obtain⟨p,i,q,_⟩:=b;cases q
  |_=>exact(show False from b).elim
 |.bl c,e,u,a,b=>by
  cases a;cases e with
  |non=>cases b
  |bl _=>cases b;rfl
  |int _=>obtain⟨t,q⟩:=b;cases q
  |str _=>obtain⟨t,q⟩:=b;cases q
  |tup _=>obtain⟨p,i,q,_⟩:=b;cases q
  |lst _=>obtain⟨p,i,q,_⟩:=b;cases q
  |_=>exact(show False from b).elim
 |.int c,e,u,a,b=>by
  obtain⟨t,rfl⟩:=a;cases e with
  |non=>cases b
  |bl _=>cases b
  |int _=>obtain⟨t,q⟩:=b;cases q;rfl
  |str _=>obtain⟨t,q⟩:=b;cases q
  |tup _=>obtain⟨p,i,q,_⟩:=b;cases q
  |lst _=>obtain⟨p,i,q,_⟩:=b;cases q
  |_=>exact(show False from b).elim
 |.str c,e,u,a,b=>by
  obtain⟨t,rfl⟩:=a;cases e with
  |non=>cases b
  |bl _=>cases b
  |int _=>obtain⟨t,q⟩:=b;cases q
  |str _=>obtain⟨t,q⟩:=b;cases q;rfl
  |tup _=>obtain⟨p,i,q,_⟩:=b;cases q
  |lst _=>obtain⟨p,i,q,_⟩:=b;cases q
  |_=>exact(show False from b).elim
 |.tup xs,e,u,a,b=>by
  obtain⟨p,S3,rfl,t1,l⟩:=a;cases e with
  |non=>cases b
  |bl _=>cases b
  |int _=>obtain⟨t,q⟩:=b;cases q
  |str _=>obtain⟨t,q⟩:=b;cases q
  |tup ys=>
   obtain⟨p',its',q,t2,f⟩:=b;cases q;have e:=vp t1 t2;have j:S3=its':=by simpa using congrArg Oj e
   subst j;rw[ib l f]
  |lst ys=>obtain⟨p',its',q,t2,f⟩:=b;cases q;exact(Lh t2 t1).elim
  |_=>exact(show False from b).elim
 |.lst xs,e,u,a,b=>by
  obtain⟨p,S3,rfl,t1,l⟩:=a;cases e with
  |non=>cases b
  |bl _=>cases b
  |int _=>obtain⟨t,q⟩:=b;cases q
  |str _=>obtain⟨t,q⟩:=b;cases q
  |lst ys=>
   obtain⟨p',its',q,t2,f⟩:=b;cases q;have e:=wy t1 t2;have j:S3=its':=by simpa using congrArg Oj e
   subst j;rw[ib l f]
  |tup ys=>obtain⟨p',its',q,t2,f⟩:=b;cases q;exact(Lh t1 t2).elim
  |_=>exact(show False from b).elim
 |.ty _,_,_,a,_=>(show False from a).elim
 |.ref _,_,_,a,_=>(show False from a).elim
 |.mt _,_,_,a,_=>(show False from a).elim
 |.ml _,_,_,a,_=>(show False from a).elim
 |.fd _ _,_,_,a,_=>(show False from a).elim
theorem ib:∀{ds es:List D}{us:Ta},Hrs h ds us->Hrs h es us->ds=es
 |[],es,us,a,b=>by
  cases a;cases es with
  |nil=>rfl
  |cons _ _=>obtain⟨v,r,q,_⟩:=b;cases q
 |d::ds,es,us,a,b=>by
  obtain⟨v,r,rfl,m,f⟩:=a;cases es with
  |nil=>cases b
  |cons e es=>
   obtain⟨o,w,q,l,j⟩:=b;cases q;rw[A3 m l,ib f j]
end
mutual
theorem AU:∀{n:Nat}{d:D},bX n d=true->aH d d=true
 |_,.non,_=>by simp[aH]
 |_,.bl _,_=>by simp[aH]
 |_,.int _,_=>by simp[aH]
 |_,.str _,_=>by simp[aH]
 |0,.tup _,f=>by simp[bX]at f
 |0,.lst _,f=>by simp[bX]at f
 |n+1,.tup xs,f=>by rw[aH];exact dH (n:=n) f
 |n+1,.lst xs,f=>by rw[aH];exact dH (n:=n) f
 |_,.ty _,f=>by simp[bX]at f
 |_,.ref _,f=>by simp[bX]at f
 |_,.mt _,f=>by simp[bX]at f
 |_,.ml _,f=>by simp[bX]at f
 |_,.fd _ _,f=>by simp[bX]at f
theorem dH:∀{n:Nat}{ds:List D},fits n ds=true->cz ds ds=true
 |_,[],_=>by simp[cz]
 |n,x::xs,f=>by
  rw[fits,Mx]at f;rw[cz,AU f.1,dH f.2];rfl
end
theorem cX:∀{xs ys:List D},xs.length≠ys.length->cz xs ys=eP
 |[],[],h=>absurd rfl h
 |[],_::_,_=>by simp[cz]
 |_::_,[],_=>by simp[cz]
 |x::xs,y::ys,h=>by rw[cz,cX (by simpa using h),Ou]
theorem gR:∀(xs ys:List D)(f:Nat->Bool),xs.length=ys.length->(∀j (h1:j<xs.length)(h2:j<ys.length),f j=aH xs[j] ys[j])->(NV xs.length).all f=cz xs ys
 |[],[],f,_,_=>by simp[cz]
 |[],_::_,_,h,_=>by simp at h
 |_::_,[],_,h,_=>by simp at h
 |x::xs,y::ys,f,h,hf=>by
  rw[Md,List.range_succ_eq_map,List.all_cons,List.all_map,cz,<- (gR xs ys (λj=>f (j+1)) (by simpa using h)<|by simp_all)]
  rw[(hf 0 (by simp)<|by simp)]
  rfl
theorem cS:∀{n:Nat}{xs:List D},fits n xs=true->∀(j:Nat)(h1:j<xs.length),bX n xs[j]=true
 |_,[],_,j,h1=>absurd h1 (by trivial)
 |n,x::xs,f,j,h1=>by
  rw[fits,Mx]at f;cases j with
  |zero=>exact f.1
  |succ j=>exact cS f.2 j _
noncomputable def kQ:D->Option V
 |.non=>cb .non
 |.bl b=>cb (.bl b)
 |.int i=>cb (.int i)
 |.str x=>cb (.str x)
 |_=>ed
theorem jn{d:D}{v:V}(e:kQ d=cb v)(r:Hr h d u):RelV v u/\Bh v=true:=by
 cases d with
 |non=>cases e;trivial
 |bl b=>cases e;trivial
 |int b=>cases e;trivial
 |str b=>cases e;trivial
 |_=>cases e
theorem rO{d e:D}{v w:V}(f:kQ d=cb v)(h2:kQ e=cb w):sM v w=aH d e:=by
 cases d with
 |non=>cases f;cases e with|non=>cases h2;simp[sM,aH]|bl b=>cases h2;simp[sM,aH]|int b=>cases h2;simp[sM,aH]|str b=>cases h2;simp[sM,aH]|_=>cases h2
 |bl a=>cases f;cases e with|non=>cases h2;simp[sM,aH]|bl b=>cases h2;simp[sM,aH]|int b=>cases h2;simp[sM,aH]|str b=>cases h2;simp[sM,aH]|_=>cases h2
 |int a=>cases f;cases e with|non=>cases h2;simp[sM,aH]|bl b=>cases h2;simp[sM,aH]|int b=>cases h2;rfl|str b=>cases h2;simp[sM,aH]|_=>cases h2
 |str a=>cases f;cases e with|non=>cases h2;simp[sM,aH]|bl b=>cases h2;simp[sM,aH]|int b=>cases h2;simp[sM,aH]|str b=>cases h2;rfl|_=>cases h2
 |_=>cases f
end
theorem Fg:∀(n:Nat){A:kL}{s:eC}{d e:D}{u w:cp},Hr s.heap d u->Hr s.heap e w->bX n d=true->bX n e=true->A.units+n<mv->OK A s u w (aH d e):=by
 intro n
 induction n with
 |zero=>
  intro A s d e u w l h fd N hu;have T:∃v,kQ d=cb v:=by cases d<;>first|exact⟨_,rfl⟩|(simp[bX]at fd)
  have S:∃v,kQ e=cb v:=by cases e<;>first|exact⟨_,rfl⟩|(simp[bX]at N)
  obtain⟨v1,G⟩:=T;obtain⟨v2,O⟩:=S;obtain⟨a1,b1⟩:=jn G l;obtain⟨W,U⟩:=jn O h;rw[<- rO G O];exact AT a1 W b1 U
 |succ n ih=>
  intro A s d e u w l h fd N hu;have f:A.units<cLine:=by lia
  have R:A.in1.units+n<cLine:=by show A.units+1+n<mv;lia
  by_cases T:∃v,kQ d=cb v
  .obtain⟨v1,G⟩:=T
   obtain⟨a1,b1⟩:=jn G l
   by_cases S:∃v,kQ e=cb v
   .obtain⟨v2,O⟩:=S
    obtain⟨W,U⟩:=jn O h;rw[<- rO G O];exact AT a1 W b1 U
   .cases e with
    |tup ys=>
     obtain⟨p,S3,rfl,t,_⟩:=h;cases d with
     |non=>cases l;simp only[aH];exact .none_tuple t f
     |bl b=>cases l;simp only[aH];exact .bool_tuple b t f
     |int b=>obtain⟨m,rfl⟩:=l;simp only[aH];exact .int_tuple b m t f
     |str b=>obtain⟨m,rfl⟩:=l;simp only[aH];exact .str_tuple b m t f
     |_=>cases G
    |lst ys=>
     obtain⟨p,S3,rfl,t,_⟩:=h;cases d with
     |non=>cases l;simp only[aH];exact .none_list t f
     |bl b=>cases l;simp only[aH];exact .bool_list b t f
     |int b=>obtain⟨m,rfl⟩:=l;simp only[aH];exact .int_list b m t f
     |str b=>obtain⟨m,rfl⟩:=l;simp only[aH];exact .str_list b m t f
     |_=>cases G
    |ty _=>exact(show False from h).elim
    |ref _=>exact(show False from h).elim
    |mt _=>exact(show False from h).elim
    |ml _=>exact(show False from h).elim
    |fd _ _=>exact(show False from h).elim
    |_=>exact absurd ⟨_,rfl⟩ S
  .cases d with
   |tup xs=>
    obtain⟨p,S3,rfl,t1,F⟩:=l;cases e with
    |non=>cases h;simp only[aH];exact .tuple_none t1 f
    |bl b=>cases h;simp only[aH];exact .tuple_bool b t1 f
    |int b=>obtain⟨m,rfl⟩:=h;simp only[aH];exact .tuple_int b m t1 f
    |str b=>obtain⟨m,rfl⟩:=h;simp only[aH];exact .tuple_str b m t1 f
    |tup ys=>
     obtain⟨p',its',rfl,t2,E⟩:=h;rw[aH]
     by_cases P:p=p'
     .subst P
      have e':S3=its':=by simpa using congrArg Oj (vp t1 t2)
      subst e';rw[ib F E,dH (n:=n) N];exact .same _
     .refine .of_refs P ?_
      have Y:=F.length;have l2:=E.length;have J:∀j (C:j<S3.toArray.size)(z:j<its'.toArray.size),OK A.in1 s S3.toArray[j] its'.toArray[j] (match xs[j]?,ys[j]? with|some x,cb y=>aH x y|_,_=>eP):=λj C z=>by
       have o:j<xs.length:=by rw[Y];simpa using C
       have q:j<ys.length:=by rw[l2];simpa using z
       rw[Mj o,Mj q];exact ih (F.get j o<|by simpa using C) (E.get j q<|by simpa using z) (cS fd j o) (cS N j q) R
      have:=Qo (e:=λj=>match xs[j]?,ys[j]? with|some x,cb y=>aH x y|_,_=>eP) t1 t2 f J
      by_cases Q:xs.length=ys.length
      .have I:S3.toArray.size=its'.toArray.size:=by simp;lia
       rw[I]at this;simp only[Qy,beq_self_eq_true,Pe]at this;have L:its'.toArray.size=xs.length:=by simp;lia
       rw[L,gR xs ys _ Q (λj C z=>by rw[Mj C,Mj z])]at this
       exact this
      .have I:(S3.toArray.size==its'.toArray.size)=false:=by simp;lia
       rw[I,Ou]at this;rw[cX Q];exact this
    |lst ys=>obtain⟨p',its',rfl,t2,E⟩:=h;simp only[aH];exact .tuple_list t1 t2 f
    |_=>exact(show False from h).elim
   |lst xs=>
    obtain⟨p,S3,rfl,t1,F⟩:=l;cases e with
    |non=>cases h;simp only[aH];exact .list_none t1 f
    |bl b=>cases h;simp only[aH];exact .list_bool b t1 f
    |int b=>obtain⟨m,rfl⟩:=h;simp only[aH];exact .list_int b m t1 f
    |str b=>obtain⟨m,rfl⟩:=h;simp only[aH];exact .list_str b m t1 f
    |lst ys=>
     obtain⟨p',its',rfl,t2,E⟩:=h;rw[aH]
     by_cases P:p=p'
     .subst P
      have e':S3=its':=by simpa using congrArg Oj (wy t1 t2)
      subst e';rw[ib F E,dH (n:=n) N];exact .same _
     .refine .of_refs P ?_
      have Y:=F.length;have l2:=E.length
      by_cases Q:xs.length=ys.length
      .have J:∀j (C:j<S3.toArray.size)(z:j<its'.toArray.size),OK A.in1 s S3.toArray[j] its'.toArray[j] (match xs[j]?,ys[j]? with|some x,cb y=>aH x y|_,_=>eP):=λj C z=>by
        have o:j<xs.length:=by rw[Y];simpa using C
        have q:j<ys.length:=by rw[l2];simpa using z
        rw[Mj o,Mj q];exact ih (F.get j o<|by simpa using C) (E.get j q<|by simpa using z) (cS fd j o) (cS N j q) R
       have:=Qq (e:=λj=>match xs[j]?,ys[j]? with|some x,cb y=>aH x y|_,_=>eP) t1 t2 (by simp;lia) f J
       have L:S3.toArray.size=xs.length:=by simp;lia
       rw[L,gR xs ys _ Q (λj C z=>by rw[Mj C,Mj z])]at this
       exact this
      .rw[cX Q]
       exact Pw t1 t2 (by simp;lia) f
    |tup ys=>obtain⟨p',its',rfl,t2,E⟩:=h;simp only[aH];exact .list_tuple t1 t2 f
    |_=>exact(show False from h).elim
   |ty _=>exact(show False from l).elim
   |ref _=>exact(show False from l).elim
   |mt _=>exact(show False from l).elim
   |ml _=>exact(show False from l).elim
   |fd _ _=>exact(show False from l).elim
   |_=>exact absurd ⟨_,rfl⟩ T
theorem kf{xs ys:List D}(r1:Hrs s.heap xs S3)(r2:Hrs s.heap ys its')(fd:fits n xs=true)(fe:fits n ys=true)(hu:A.units+n<mv):
  ∀j (h1:j<S3.toArray.size)(h2:j<its'.toArray.size),OK A s S3.toArray[j] its'.toArray[j] (match xs[j]?,ys[j]? with|some x,cb y=>aH x y|_,_=>eP):=λj h1 h2=>by
 rw[Mj (by rw[r1.length];trivial),Mj (by rw[r2.length];trivial)]
 exact Fg n (r1.get j _ _) (r2.get j _ _) (cS fd j _) (cS fe j _) hu
theorem jm{xs ys:List D}(l:xs.length=ys.length):(NV xs.length).all (λj=>match xs[j]?,ys[j]? with|some x,cb y=>aH x y|_,_=>eP)=cz xs ys:=
 gR xs ys _ l (λj h f=>by rw[Mj h,Mj f])
theorem F_{xs ys:List D}(t1:s.heap.IsTuple p S3.toArray)(t2:s.heap.IsTuple p' its'.toArray)(m:Hrs s.heap xs S3)(l:Hrs s.heap ys its')(fd:bX n (.tup xs)=true)(o:bX n (.tup ys)=true)(w:A.units+n<mv):
  QP A s (.ref p) (.ref p') (aH (.tup xs)<|.tup ys):=by
 cases n with
 |zero=>trivial
 |succ n=>
  have v:=m.length;have q:=l.length;have:=Qo (A:=A) t1 t2 (by lia) (kf m l fd o<|by show A.units+1+n<mv;lia)
  rw[aH]
  by_cases j:xs.length=ys.length
  .have f:S3.toArray.size=its'.toArray.size:=by simp;lia
   rw[f]at this;simp only[Qy,beq_self_eq_true,Pe]at this;have h:its'.toArray.size=xs.length:=by simp;lia
   rw[h,jm j]at this;exact this
  have f:(S3.toArray.size==its'.toArray.size)=false:=by simp;lia
  rw[f,Ou]at this;rw[cX j];exact this
theorem Hn{xs ys:List D}(t1:s.heap.IsList p S3.toArray)(t2:s.heap.IsList p' its'.toArray)(l:Hrs s.heap xs S3)(j:Hrs s.heap ys its')(fd:bX n (.lst xs)=true)(m:bX n (.lst ys)=true)(v:A.units+n<mv):
  QP A s (.ref p) (.ref p') (aH (.lst xs)<|.lst ys):=by
 cases n with
 |zero=>trivial
 |succ n=>
  have q:=l.length;have o:=j.length;rw[aH]
  by_cases h:xs.length=ys.length
  .have:=Qq (A:=A) t1 t2 (by simp;lia) (by lia) (kf l j fd m<|by show A.units+1+n<mv;lia)
   have f:S3.toArray.size=xs.length:=by simp;lia
   rw[f,jm h]at this;exact this
  rw[cX h];exact Pw t1 t2 (by simp;lia) (by lia)
theorem Az{xs ys:List D}(t1:s.heap.IsTuple p S3.toArray)(t2:s.heap.IsTuple p' its'.toArray)(m:Hrs s.heap xs S3)(l:Hrs s.heap ys its')(fd:bX n (.tup xs)=true)(o:bX n (.tup ys)=true)(w:A.units+n<mv):
  Qn A s (.ref p) (.ref p') (!aH (.tup xs) (.tup ys)):=by
 cases n with
 |zero=>trivial
 |succ n=>
  have v:=m.length;have q:=l.length;have:=SeqAt.RcNeAt.tuples (A:=A) t1 t2 (by lia) (kf m l fd o<|by show A.units+1+n<mv;lia)
  rw[aH]
  by_cases j:xs.length=ys.length
  .have f:S3.toArray.size=its'.toArray.size:=by simp;lia
   rw[f]at this;simp only[Qy,beq_self_eq_true,Pe]at this;have h:its'.toArray.size=xs.length:=by simp;lia
   rw[h,jm j]at this;exact this
  have f:(S3.toArray.size==its'.toArray.size)=false:=by simp;lia
  rw[f,Ou]at this;rw[cX j];exact this
theorem A8{xs ys:List D}(t1:s.heap.IsList p S3.toArray)(t2:s.heap.IsList p' its'.toArray)(l:Hrs s.heap xs S3)(j:Hrs s.heap ys its')(fd:bX n (.lst xs)=true)(m:bX n (.lst ys)=true)(v:A.units+n<mv):
  Qn A s (.ref p) (.ref p') (!aH (.lst xs) (.lst ys)):=by
 cases n with
 |zero=>trivial
 |succ n=>
  have q:=l.length;have o:=j.length;rw[aH]
  by_cases h:xs.length=ys.length
  .have:=SeqAt.RcNeAt.lists (A:=A) t1 t2 (by simp;lia) (by lia) (kf l j fd m<|by show A.units+1+n<mv;lia)
   have f:S3.toArray.size=xs.length:=by simp;lia
   rw[f,jm h]at this;exact this
  rw[cX h];exact SeqAt.RcNeAt.lists_lengths t1 t2 (by simp;lia) (by lia)
theorem Kz{d e:D}{w:cp}(z:Hr s.heap d u)(h:Hr s.heap e w)(fd:bX n d=true)(F:bX n e=true)(G:A.units+n<mv):QP A s u w (aH d e):=by
 have j:A.units<cLine:=by lia
 cases d with
 |non=>
  cases z;cases e with
  |non=>
   cases h;simpa [aH,MG] using SeqAt.RcAt.none_none
  |bl y=>
   cases h;simpa [aH] using SeqAt.RcAt.none_bool y
  |int y=>
   obtain⟨f,rfl⟩:=h;simpa [aH] using SeqAt.RcAt.none_int y f
  |str y=>
   obtain⟨f,rfl⟩:=h;simpa [aH] using SeqAt.RcAt.none_str y f
  |tup y=>
   obtain⟨v,l,rfl,ty,q⟩:=h;simpa [aH] using SeqAt.RcAt.none_tuple ty j
  |lst y=>
   obtain⟨v,l,rfl,ty,q⟩:=h;simpa [aH] using SeqAt.RcAt.none_list ty j
  |_=>exact(show False from h).elim
 |bl x=>
  cases z;cases e with
  |non=>
   cases h;simpa [aH] using SeqAt.RcAt.bool_none x
  |bl y=>
   cases h;simpa [aH,MG] using SeqAt.RcAt.bool_bool x y
  |int y=>
   obtain⟨f,rfl⟩:=h;simpa [aH,MG] using SeqAt.RcAt.bool_int x y f
  |str y=>
   obtain⟨f,rfl⟩:=h;simpa [aH] using SeqAt.RcAt.bool_str x y f
  |tup y=>
   obtain⟨v,l,rfl,ty,q⟩:=h;simpa [aH] using SeqAt.RcAt.bool_tuple x ty j
  |lst y=>
   obtain⟨v,l,rfl,ty,q⟩:=h;simpa [aH] using SeqAt.RcAt.bool_list x ty j
  |_=>exact(show False from h).elim
 |int x=>
  obtain⟨m,rfl⟩:=z;cases e with
  |non=>
   cases h;simpa [aH] using SeqAt.RcAt.int_none x m
  |bl y=>
   cases h;simpa [aH,MG] using SeqAt.RcAt.int_bool x m y
  |int y=>
   obtain⟨f,rfl⟩:=h;simpa [aH,MG] using SeqAt.RcAt.int_int x m y f
  |str y=>
   obtain⟨f,rfl⟩:=h;simpa [aH] using SeqAt.RcAt.int_str x m y f
  |tup y=>
   obtain⟨v,l,rfl,ty,q⟩:=h;simpa [aH] using SeqAt.RcAt.int_tuple x m ty j
  |lst y=>
   obtain⟨v,l,rfl,ty,q⟩:=h;simpa [aH] using SeqAt.RcAt.int_list x m ty j
  |_=>exact(show False from h).elim
 |str x=>
  obtain⟨m,rfl⟩:=z;cases e with
  |non=>
   cases h;simpa [aH] using SeqAt.RcAt.str_none x m
  |bl y=>
   cases h;simpa [aH] using SeqAt.RcAt.str_bool x m y
  |int y=>
   obtain⟨f,rfl⟩:=h;simpa [aH] using SeqAt.RcAt.str_int x m y f
  |str y=>
   obtain⟨f,rfl⟩:=h;simpa [aH,MG] using SeqAt.RcAt.str_str x m y f
  |tup y=>
   obtain⟨v,l,rfl,ty,q⟩:=h;simpa [aH] using SeqAt.RcAt.str_tuple x m ty j
  |lst y=>
   obtain⟨v,l,rfl,ty,q⟩:=h;simpa [aH] using SeqAt.RcAt.str_list x m ty j
  |_=>exact(show False from h).elim
 |tup x=>
  obtain⟨I,C,rfl,o,E⟩:=z;cases e with
  |non=>
   cases h;simpa [aH] using SeqAt.RcAt.tuple_none o j
  |bl y=>
   cases h;simpa [aH] using SeqAt.RcAt.tuple_bool y o j
  |int y=>
   obtain⟨f,rfl⟩:=h;simpa [aH] using SeqAt.RcAt.tuple_int y f o j
  |str y=>
   obtain⟨f,rfl⟩:=h;simpa [aH] using SeqAt.RcAt.tuple_str y f o j
  |tup y=>
   obtain⟨v,l,rfl,ty,q⟩:=h;exact F_ o ty E q fd F G
  |lst y=>
   obtain⟨v,l,rfl,ty,q⟩:=h;simpa [aH] using SeqAt.RcAt.tuple_list o ty j
  |_=>exact(show False from h).elim
 |lst x=>
  obtain⟨I,C,rfl,o,E⟩:=z;cases e with
  |non=>
   cases h;simpa [aH] using SeqAt.RcAt.list_none o j
  |bl y=>
   cases h;simpa [aH] using SeqAt.RcAt.list_bool y o j
  |int y=>
   obtain⟨f,rfl⟩:=h;simpa [aH] using SeqAt.RcAt.list_int y f o j
  |str y=>
   obtain⟨f,rfl⟩:=h;simpa [aH] using SeqAt.RcAt.list_str y f o j
  |tup y=>
   obtain⟨v,l,rfl,ty,q⟩:=h;simpa [aH] using SeqAt.RcAt.list_tuple o ty j
  |lst y=>
   obtain⟨v,l,rfl,ty,q⟩:=h;exact Hn o ty E q fd F G
  |_=>exact(show False from h).elim
 |_=>exact(show False from z).elim
theorem DM{d e:D}{w:cp}(z:Hr s.heap d u)(h:Hr s.heap e w)(fd:bX n d=true)(F:bX n e=true)(G:A.units+n<mv):Qn A s u w (!aH d e):=by
 have j:A.units<cLine:=by lia
 cases d with
 |non=>
  cases z;cases e with
  |non=>
   cases h;simpa [aH,MG] using SeqAt.RcNeAt.none_none
  |bl y=>
   cases h;simpa [aH] using SeqAt.RcNeAt.none_bool y
  |int y=>
   obtain⟨f,rfl⟩:=h;simpa [aH] using SeqAt.RcNeAt.none_int y f
  |str y=>
   obtain⟨f,rfl⟩:=h;simpa [aH] using SeqAt.RcNeAt.none_str y f
  |tup y=>
   obtain⟨v,l,rfl,ty,q⟩:=h;simpa [aH] using SeqAt.RcNeAt.none_tuple ty j
  |lst y=>
   obtain⟨v,l,rfl,ty,q⟩:=h;simpa [aH] using SeqAt.RcNeAt.none_list ty j
  |_=>exact(show False from h).elim
 |bl x=>
  cases z;cases e with
  |non=>
   cases h;simpa [aH] using SeqAt.RcNeAt.bool_none x
  |bl y=>
   cases h;simpa [aH,MG] using SeqAt.RcNeAt.bool_bool x y
  |int y=>
   obtain⟨f,rfl⟩:=h;simpa [aH,MG] using SeqAt.RcNeAt.bool_int x y f
  |str y=>
   obtain⟨f,rfl⟩:=h;simpa [aH] using SeqAt.RcNeAt.bool_str x y f
  |tup y=>
   obtain⟨v,l,rfl,ty,q⟩:=h;simpa [aH] using SeqAt.RcNeAt.bool_tuple x ty j
  |lst y=>
   obtain⟨v,l,rfl,ty,q⟩:=h;simpa [aH] using SeqAt.RcNeAt.bool_list x ty j
  |_=>exact(show False from h).elim
 |int x=>
  obtain⟨m,rfl⟩:=z;cases e with
  |non=>
   cases h;simpa [aH] using SeqAt.RcNeAt.int_none x m
  |bl y=>
   cases h;simpa [aH,MG] using SeqAt.RcNeAt.int_bool x m y
  |int y=>
   obtain⟨f,rfl⟩:=h;simpa [aH,MG] using SeqAt.RcNeAt.int_int x m y f
  |str y=>
   obtain⟨f,rfl⟩:=h;simpa [aH] using SeqAt.RcNeAt.int_str x m y f
  |tup y=>
   obtain⟨v,l,rfl,ty,q⟩:=h;simpa [aH] using SeqAt.RcNeAt.int_tuple x m ty j
  |lst y=>
   obtain⟨v,l,rfl,ty,q⟩:=h;simpa [aH] using SeqAt.RcNeAt.int_list x m ty j
  |_=>exact(show False from h).elim
 |str x=>
  obtain⟨m,rfl⟩:=z;cases e with
  |non=>
   cases h;simpa [aH] using SeqAt.RcNeAt.str_none x m
  |bl y=>
   cases h;simpa [aH] using SeqAt.RcNeAt.str_bool x m y
  |int y=>
   obtain⟨f,rfl⟩:=h;simpa [aH] using SeqAt.RcNeAt.str_int x m y f
  |str y=>
   obtain⟨f,rfl⟩:=h;simpa [aH,MG] using SeqAt.RcNeAt.str_str x m y f
  |tup y=>
   obtain⟨v,l,rfl,ty,q⟩:=h;simpa [aH] using SeqAt.RcNeAt.str_tuple x m ty j
  |lst y=>
   obtain⟨v,l,rfl,ty,q⟩:=h;simpa [aH] using SeqAt.RcNeAt.str_list x m ty j
  |_=>exact(show False from h).elim
 |tup x=>
  obtain⟨I,C,rfl,o,E⟩:=z;cases e with
  |non=>
   cases h;simpa [aH] using SeqAt.RcNeAt.tuple_none o j
  |bl y=>
   cases h;simpa [aH] using SeqAt.RcNeAt.tuple_bool y o j
  |int y=>
   obtain⟨f,rfl⟩:=h;simpa [aH] using SeqAt.RcNeAt.tuple_int y f o j
  |str y=>
   obtain⟨f,rfl⟩:=h;simpa [aH] using SeqAt.RcNeAt.tuple_str y f o j
  |tup y=>
   obtain⟨v,l,rfl,ty,q⟩:=h;exact Az o ty E q fd F G
  |lst y=>
   obtain⟨v,l,rfl,ty,q⟩:=h;simpa [aH] using SeqAt.RcNeAt.tuple_list o ty j
  |_=>exact(show False from h).elim
 |lst x=>
  obtain⟨I,C,rfl,o,E⟩:=z;cases e with
  |non=>
   cases h;simpa [aH] using SeqAt.RcNeAt.list_none o j
  |bl y=>
   cases h;simpa [aH] using SeqAt.RcNeAt.list_bool y o j
  |int y=>
   obtain⟨f,rfl⟩:=h;simpa [aH] using SeqAt.RcNeAt.list_int y f o j
  |str y=>
   obtain⟨f,rfl⟩:=h;simpa [aH] using SeqAt.RcNeAt.list_str y f o j
  |tup y=>
   obtain⟨v,l,rfl,ty,q⟩:=h;simpa [aH] using SeqAt.RcNeAt.list_tuple o ty j
  |lst y=>
   obtain⟨v,l,rfl,ty,q⟩:=h;exact A8 o ty E q fd F G
  |_=>exact(show False from h).elim
 |_=>exact(show False from z).elim
section
variable{SW:Tf}
mutual
theorem EZ(I:Inv X SW Z H s):∀{n:Nat}{d:D}{v:V}{u:cp},bX n d=true->Rp X.K H d v->RelV v u->Hr s.heap d u
 |_,.non,v,u,_,r,q=>by cases r;exact q
 |_,.bl _,v,u,_,r,q=>by cases r;exact q
 |_,.int _,v,u,_,r,q=>by cases r;exact q
 |_,.str _,v,u,_,r,q=>by cases r;exact q
 |n+1,.tup xs,v,u,f,r,q=>by
  obtain⟨p,l,rfl,t,r⟩:=r;cases q;obtain⟨S3,h,j,_⟩:=I.tuple t.sq;exact⟨p,S3,rfl,j,eB I (n:=n) f r h⟩
 |n+1,.lst xs,v,u,f,r,q=>by
  obtain⟨p,l,rfl,t,r⟩:=r;cases q;obtain⟨S3,h,j,_⟩:=I.list t.sq;exact⟨p,S3,rfl,j.isList,eB I (n:=n) f r h⟩
 |0,.tup _,_,_,f,_,_=>by simp[bX]at f
 |0,.lst _,_,_,f,_,_=>by simp[bX]at f
 |_,.ty _,_,_,f,_,_=>by simp[bX]at f
 |_,.ref _,_,_,f,_,_=>by simp[bX]at f
 |_,.mt _,_,_,f,_,_=>by simp[bX]at f
 |_,.ml _,_,_,f,_,_=>by simp[bX]at f
 |_,.fd _ _,_,_,f,_,_=>by simp[bX]at f
theorem eB(I:Inv X SW Z H s):∀{n:Nat}{ds:List D}{vs:List V}{us:Ta},fits n ds=true->Rps X.K H ds vs->Vals vs us->Hrs s.heap ds us
 |_,[],vs,us,_,r,q=>by cases r;cases q;rfl
 |n,d::ds,vs,us,f,r,q=>by
  obtain⟨v,h,rfl,a,b⟩:=r;rw[fits,Mx]at f;cases q with
  |cons q1 q2=>exact⟨_,_,rfl,EZ I f.1 a q1,eB I f.2 b q2⟩
end
def dv(M:Mem):D->D
 |.ref a=>match M a with
  |some (.lst xs)=>.lst xs
  |_=>.ref a
 |d=>d
theorem kC(I:Inv X SW Z H s){d:D}{v:V}(o:RepH X.K H M)(f:bX n (dv M d)=true)(r:Rp X.K H d v)(q:RelV v u):Hr s.heap (dv M d) u:=by
 cases d with
 |ref a=>
  cases r;simp[dv]at f ⊢
  split at f
  .rename_i y e
   obtain⟨w,j,h⟩:=o _ _ e;obtain⟨S3,l,m,_⟩:=I.list (SqL.of j);cases q;cases n with
   |zero=>trivial
   |succ n=>exact⟨a,_,rfl,m.isList,eB I f h l⟩
  trivial
 |_=>exact EZ I f r q
def bY:dQ:=λx y M Q=>bX 60 (dv M x)=true/\bX 60 (dv M y)=true/\Q (.bl<|aH (dv M x)<|dv M y) M
def kb:dQ:=λx y M Q=>bX 60 (dv M x)=true/\bX 60 (dv M y)=true/\Q (.bl<|!aH (dv M x) (dv M y)) M
theorem zg(F:X.A.units+64<mv):b_ X (g5 .Eq) (liftR2 X bY):=by
 rintro SW s Z H x y v u Q I q o ⟨E,C,M,QQ,f,m,z,⟨j,l,h⟩,w⟩
 exact Kz (kC I f j m q) (kC I f l z o) j l (by lia) _ _ _ _ ⟨.bl _,H,I,rfl,w _ M h _ H f Frm.refl rfl⟩
theorem Ig(F:X.A.units+64<mv):b_ X (g5 .NotEq) (liftR2 X kb):=by
 rintro SW s Z H x y v u Q I q o ⟨E,C,M,QQ,f,m,z,⟨j,l,h⟩,w⟩
 exact DM (kC I f j m q) (kC I f l z o) j l (by lia) _ _ _ _ ⟨.bl _,H,I,rfl,w _ M h _ H f Frm.refl rfl⟩
open Classical in
noncomputable def Br(h:ka)(x:D)(u:cp):Bool:=if q:∃d,Hr h d u then aH q.choose x else eP
theorem uT{h:ka}{x d:D}(r:Hr h d u):Br h x u=aH d x:=by
 have q:∃d,Hr h d u:=⟨d,r⟩;unfold Br;rw[dif_pos q,A3 q.choose_spec r]
theorem gu{h:ka}{x:D}:∀{ds:List D}{us:Ta},Hrs h ds us->us.any (Br h x)=ds.any λd=>aH d x
 |[],_,r=>by cases r;rfl
 |d::ds,_,r=>by
  obtain⟨v,f,rfl,a,b⟩:=r;rw[OC,OC,uT a,gu b]
theorem fD{A:kL}{n:Nat}{x:D}{w:cp}(m:Hr s.heap x w)(l:bX n x=true)(j:A.units+n<mv):∀{ds:List D}{us:Ta},Hrs s.heap ds us->fits n ds=true->∀u∈us,OK A s u w (Br s.heap x u)
 |[],_,r,_,u,j=>by cases r;cases j
 |d::ds,_,r,f,u,h=>by
  obtain⟨v,o,rfl,a,b⟩:=r;rw[fits,Mx]at f;rcases Mm.mp h with rfl|h
  .rw[uT a];exact Fg n a m f.1 l j
  exact fD m l j b f.2 u h
def ir(M:Mem)(x y:D):Option Bool:=match aE M y with
 |some xs=>if bX 60 (dv M x)=true/\fits 60 xs=true then cb (xs.any λd=>aH d (dv M x)) else ed
 |none=>match y with
  |.ref a=>match yA M a x with
   |some o=>cb o.isSome
   |none=>ed
  |_=>ed
def qZ:dQ:=λx y M Q=>match ir M x y with
 |some k=>Q (.bl k) M
 |none=>False
def g8:dQ:=λx y M Q=>match ir M x y with
 |some k=>Q (.bl<|!k) M
 |none=>False
theorem yO(Y:X.A.units+64<mv):b_ X (g5 .In) (liftR2 X qZ):=by
 rintro SW s Z H x y v u Q I C G ⟨L,U,M,QQ,m,E,F,h,R⟩
 unfold qZ at h
 split at h
 .rename_i k e
  have j:=R _ M h _ H m Frm.refl rfl;unfold ir at e
  split at e
  .rename_i W O
   split at e
   .rename_i f
    cases e;obtain⟨p,T,rfl,hq,r⟩:=hW m F O;cases G;have J:=kC I m f.1 E C;rcases hq with hq|hq
    .obtain⟨S3,q,z,_⟩:=I.list hq
     have l:=eB I f.2 r q;refine SeqAt.in_listAt _ z.isList (λw S=>fD J f.1 (by show X.A.units+1+60<mv;lia) l f.2 w (by simp_all)) ⟨.bl _,H,I,rfl,?_⟩
     rw[show S3.toArray.any _=S3.any (Br s.heap<|dv M L) by simp,gu l]
     exact j
    obtain⟨S3,q,z,_⟩:=I.tuple hq;have l:=eB I f.2 r q;refine SeqAt.in_tupleAt _ z (λw S=>fD J f.1 (by show X.A.units+1+60<mv;lia) l f.2 w (by simp_all)) ⟨.bl _,H,I,rfl,?_⟩
    rw[show S3.toArray.any _=S3.any (Br s.heap<|dv M L) by simp,gu l]
    exact j
   cases e
  split at e
  .split at e
   .rename_i o P
    cases e;cases F;cases G;rcases pG m E P with⟨rfl,g⟩|⟨d,w,rfl,g,_⟩
    .exact KC (by lia) I g C λN I'=>⟨.bl _,H,I',rfl,j⟩
    exact KC (by lia) I g C λN I'=>⟨.bl _,H,I',rfl,j⟩
   cases e
  cases e
 trivial
theorem ya(Y:X.A.units+64<mv):b_ X (g5 .NotIn) (liftR2 X g8):=by
 rintro SW s Z H x y v u Q I C G ⟨L,U,M,QQ,m,E,F,h,R⟩
 unfold g8 at h
 split at h
 .rename_i k e
  have j:=R _ M h _ H m Frm.refl rfl;unfold ir at e
  split at e
  .rename_i W O
   split at e
   .rename_i f
    cases e;obtain⟨p,T,rfl,hq,r⟩:=hW m F O;cases G;have J:=kC I m f.1 E C;rcases hq with hq|hq
    .obtain⟨S3,q,z,_⟩:=I.list hq
     have l:=eB I f.2 r q;refine SeqAt.notIn_listAt _ z.isList (λw S=>fD J f.1 (by show X.A.units+1+60<mv;lia) l f.2 w (by simp_all)) ⟨.bl _,H,I,rfl,?_⟩
     rw[show S3.toArray.any _=S3.any (Br s.heap<|dv M L) by simp,gu l]
     exact j
    obtain⟨S3,q,z,_⟩:=I.tuple hq;have l:=eB I f.2 r q;refine SeqAt.notIn_tupleAt _ z (λw S=>fD J f.1 (by show X.A.units+1+60<mv;lia) l f.2 w (by simp_all)) ⟨.bl _,H,I,rfl,?_⟩
    rw[show S3.toArray.any _=S3.any (Br s.heap<|dv M L) by simp,gu l]
    exact j
   cases e
  split at e
  .split at e
   .rename_i o P
    cases e;cases F;cases G;rcases pG m E P with⟨rfl,g⟩|⟨d,w,rfl,g,_⟩
    .exact xj (by lia) I g C λN I'=>⟨.bl _,H,I',rfl,j⟩
    exact xj (by lia) I g C λN I'=>⟨.bl _,H,I',rfl,j⟩
   cases e
  cases e
 trivial
end
structure DEnds where
 nx:Dl->Mem->Prop
 rt:DK
 bk:Dl->Mem->Prop:=λ_ _=>False
 ct:Dl->Mem->Prop:=λ_ _=>False
noncomputable abbrev az:=DEnds->Dl->Mem->Prop
def UpN(X:Cx)(B:Bd)(M:Mem)(H:Hp)(QQ:Dl->Mem->Prop)(Q:_2.St->Hp->Prop):Prop:=∀U M',QQ U M'->∀Z H',Frm M H M' H'->SR X B U M' Z H'->Q Z H'
theorem UpN.go{M1:Mem}{H1:Hp}{QQ:Dl->Mem->Prop}{Q:_2.St->Hp->Prop}(u:UpN X B M H QQ Q)(i:Frm M H M1 H1):UpN X B M1 H1 QQ Q:=λU M q Z H' a=>u U M q Z H' (i.trans a)
structure UpD(X:Cx)(B:Bd)(M:Mem)(H:Hp)(DD:DEnds)(D:Ends):Prop where
 nx:UpN X B M H DD.nx D.nx
 rt:Up X.K M H DD.rt D.rt
 bk:UpN X B M H DD.bk D.bk
 ct:UpN X B M H DD.ct D.ct
theorem UpD.go{M1:Mem}{H1:Hp}{DD:DEnds}{D:Ends}(u:UpD X B M H DD D)(i:Frm M H M1 H1):UpD X B M1 H1 DD D:=⟨u.nx.go i,u.rt.go i,u.bk.go i,u.ct.go i⟩
inductive liftS(X:Cx)(B:Bd)(T:az)(D:Ends)(Z:St)(H:Hp):Prop
 |mk (U:Dl) (M:Mem) (DD:DEnds) (s:SR X B U M Z H) (h:T DD U M) (u:UpD X B M H DD D):liftS X B T D Z H
def DS(X:Cx)(B:Bd)(st:py)(T:az):Prop:=PS X st (liftS X B T)
def yK(X:Cx)(B:Bd)(st:Td)(T:az):Prop:=wD X st (liftS X B T)
section
variable{st:py}{rest:Td}{t u:az}
def ay:az:=λD U M=>D.nx U M
def al(t u:az):az:=λD U M=>t { D with nx:=u D } U M
theorem BF:yK X B [] ay:=ms BD (by rintro D Z H ⟨U,M,DD,s,h,f⟩;exact f.nx U M h Z H Frm.refl s)
theorem fv(o:DS X B st t)(h2:yK X B rest u):yK X B (st::rest) (al t u):=by
 refine ms (z_ o h2) ?_
 rintro D Z H ⟨U,M,DD,s,h,f⟩
 exact⟨U,M,_,s,h,⟨λj M' q m H' i l=>⟨_,M',DD,l,q,f.go i⟩,f.rt,f.bk,f.ct⟩⟩
theorem gq(f:DS X B st t):yK X B [st] t:=DB f
def a_(te:bi):az:=λD U M=>te U M λ_ M1=>D.nx U M1
theorem CH(m:DE X B e te)(l:pv e ed pos.line X.env=pure false:=by rfl):DS X B (.Expr e pos) (a_ te):=by
 refine ce (Dt m l) ?_
 rintro D Z H ⟨U,M,DD,s,h,f⟩
 exact⟨U,M,_,s,h,λd M' q v H' j i r=>f.nx U M' q Z H' i (s.go j i)⟩
def aw(te:bi):az:=λD U M=>te U M D.rt
theorem GL(j:DE X B e te):DS X B (.Return (cb e) pos) (aw te):=by
 refine ce (G9 j) ?_
 rintro D Z H ⟨U,M,DD,s,h,f⟩
 exact⟨U,M,_,s,h,f.rt⟩
def aA(c:eO)(t u:az):az:=λD U M=>c U M λb M1=>if b=true then t D U M1 else u D U M1
theorem LR{a b:Td}{f:eO}(m:DT X B c f)(o:yK X B a t)(v:yK X B b u):DS X B (.If c a b pos) (aA f t u):=by
 refine ce (JZ m o v) ?_
 rintro D Z H ⟨U,M,DD,s,h,j⟩
 refine⟨U,M,_,s,h,λc M' q H' l i=>?_⟩;cases c with
 |_=>exact⟨U,M',DD,s.go l i,q,j.go i⟩
noncomputable abbrev jd:=D->Dl->Mem->(Dl->Mem->Prop)->Prop
noncomputable abbrev rF:=List D->Dl->Mem->(Dl->Mem->Prop)->Prop
inductive liftG(X:Cx)(B:Bd)(g:jd)(v:V)(Z:St)(H:Hp)(Q:St->Hp->Prop):Prop
 |mk (d:_3.D) (U:Dl) (M:Mem) (QQ:Dl->Mem->Prop) (s:SR X B U M Z H) (r:Rp X.K H d v) (h:g d U M QQ) (u:UpN X B M H QQ Q):liftG X B g v Z H Q
inductive liftGs(X:Cx)(B:Bd)(g:rF)(vs:List V)(Z:St)(H:Hp)(Q:St->Hp->Prop):Prop
 |mk (ds:List _3.D) (U:Dl) (M:Mem) (QQ:Dl->Mem->Prop) (s:SR X B U M Z H) (r:Rps X.K H ds vs) (h:g ds U M QQ) (u:UpN X B M H QQ Q):liftGs X B g vs Z H Q
def DG(X:Cx)(B:Bd)(tg:hB)(g:jd):Prop:=PG X tg (liftG X B g)
def DGs(X:Cx)(B:Bd)(tgs:Tc)(g:rF):Prop:=Ji X tgs (liftGs X B g)
theorem ju{t t':TG}(h:PG X tg t)(w:∀v Z H Q,t' v Z H Q->t v Z H Q):PG X tg t':=λf s Z H v u Q I r q=>h _ s Z H v u Q I r (w v Z H Q q)
theorem qw{tg:Tc}{t t':F2}(h:Ji X tg t)(w:∀v Z H Q,t' v Z H Q->t v Z H Q):Ji X tg t':=λf s Z H v u Q I r q=>h _ s Z H v u Q I r (w v Z H Q q)
theorem SR.set{U:Dl}{d:D}{v:V}(s:SR X B U M Z H)(r:Rp X.K H d v):SR X B (U.set i<|some d) M (Z.set i<|some v) H:=⟨s.i0,s.rh,s.rs.set r⟩
def af(i:Nat):jd:=λd U M Q=>Q (U.set i<|some d) M
theorem CT(f:X.N.Nodup)(m:X.N[i]?=cb x)(j:yG X.env.scope x)(l:X.fn x=true\/X.env.scope.names.lookup x=cb .local:=by and_intros):DG X B (.Name x pos) (af i):=by
 refine ju (Cc f m j l) ?_
 rintro v Z H Q ⟨d,U,M,QQ,s,r,h,u⟩
 exact u _ M h _ H Frm.refl (s.set r)
def bM:rF:=λf U M Q=>match f with
 |[]=>Q U M
 |_=>False
def aD(t:jd)(u:rF):rF:=λh U M Q=>match h with
 |d::r=>t d U M λf M'=>u r f M' Q
 |[]=>False
theorem Cm:DGs X B [] bM:=by
 refine qw Ce ?_
 rintro v Z H Q ⟨f,U,M,QQ,s,r,h,u⟩
 cases f with
 |nil=>exact⟨r,u U M h Z H Frm.refl s⟩
 |cons _ _=>trivial
theorem A7{t:jd}{u:rF}(E:DG X B e t)(h2:DGs X B es u)(C:(q0 (e::es) X.env).map (·.2)=Sh e X.env::(q0 es X.env).map (·.2):=by rfl):DGs X B (e::es) (aD t u):=by
 refine qw (AJ E h2 C) ?_
 rintro v Z H Q ⟨f,U,M,QQ,s,r,h,o⟩
 cases f with
 |nil=>trivial
 |cons d f=>
  obtain⟨v1,y,rfl,l,w⟩:=r;exact⟨v1,y,rfl,d,U,M,_,s,l,h,λj M' q z H' i m=>⟨f,_,M',QQ,m,w.mf s.rh i,q,o.go i⟩⟩
def bL(n:Nat)(t:rF):jd:=λd U M Q=>match d with
 |.tup xs=>xs.length=n/\t xs U M Q
 |_=>False
theorem Jd{k:Nat}{t:rF}(m:X.calm=true)(h:DGs X B es t)(o:(q0 es X.env).length=n:=by rfl)(hst:(q0 es X.env).findIdx? (·.1)=none:=by rfl):DG X B (.Tuple es k pos) (bL n t):=by
 refine ju (HG m h o hst) ?_
 rintro v Z H Q ⟨d,U,M,QQ,s,r,h,f⟩
 cases d with
 |tup xs=>
  obtain⟨p,j,rfl,l,r⟩:=r;exact⟨p,j,rfl,l.sq,by rw[<- r.length];exact h.1,xs,U,M,QQ,s,r,h.2,f⟩
 |_=>exact h.elim
def ap(te:bi)(g:jd):az:=λD U M=>te U M λx M1=>g x U M1 D.nx
theorem Hl(m:DE X B e te)(o:DG X B tg g)(l:swapsWithSole [tg] e pos.line X.env=pure false:=by rfl)(hw:swappedStores [tg] e X.env=pure none:=by rfl)(h1:(q0 [tg] X.env).map (·.2)=[Sh tg X.env]:=by rfl):DS X B (.Assign [tg] e pos) (ap te g):=by
 refine ce (IN m o l hw h1) ?_
 rintro D Z H ⟨U,M,DD,s,h,f⟩
 exact⟨U,M,_,s,h,λd M' q v H' j i r=>⟨d,U,M',_,s.go j i,r,q,f.nx.go i⟩⟩
theorem Je(m:X.N.Nodup)(l:X.N[i]?=cb x)(o:yG X.env.scope x)(y:DE X B e te)(w:pv e (cb<|.Name x pos') pos.line X.env=pure false:=by rfl)(hf:X.fn x=true\/X.env.scope.names.lookup x=cb .local:=by and_intros):
  DS X B (.Assign [.Name x pos'] e pos) (ap te<|af i):=by
 refine ce (HX m l o y w hf) ?_
 rintro D Z H ⟨U,M,DD,s,h,f⟩
 exact⟨U,M,_,s,h,λd M' q v H' j i r=>f.nx _ M' q _ H' i ((s.go j i).set r)⟩
def sW(i:Nat)(te:bi)(r:dQ):az:=λD U M=>match U[i]? with
 |some (cb x)=>te U M λy M1=>r x y M1 λz M2=>D.nx (U.set i<|some z) M2
 |_=>False
theorem Jj{m:RQ}{r:dQ}(P:X.N.Nodup)(O:X.N[i]?=cb x)(Q:yG X.env.scope x)(S:DE X B e te)(L:HY X m (liftR2 X r))(R:X.fn x=true\/X.env.scope.names.lookup x=cb .local:=by and_intros):
  DS X B (.AugAssign (.Name x pos') m e pos) (sW i te r):=by
 refine ce (Ie P O Q S L R) ?_
 rintro D Z H ⟨U,M,DD,s,h,G⟩
 unfold sW at h
 split at h
 .rename_i l J
  obtain⟨v,F,E⟩:=s.rs.get i l J;exact⟨v,F,U,M,_,s,h,λy M1 q w H1 f i1 C=>⟨l,y,M1,_,f,E.mf s.rh i1,C,q,λz M2 o T H2 j i2 I=>G.nx _ M2 o _ H2 (i1.trans i2) ((s.go j<|i1.trans i2).set I)⟩⟩
 trivial
theorem L9{m:RQ}{g:Int->Int->Int}(h:HY X m (ipI g)):HY X m (liftR2 X (pU λi j=>.int (g i j))):=by
 rintro l s Z H x y v u Q I w q ⟨G,F,M,QQ,E,o,C,f,z⟩
 unfold pU at f
 split at f
 .cases o;cases C
  exact h _ s Z H _ _ v u Q I w q ⟨_,_,rfl,rfl,z _ M f _ H E Frm.refl rfl⟩
 trivial
noncomputable abbrev sf:dQ:=pU λi j=>.int (i+j)
theorem D_:HY X .Add (liftR2 X sf):=L9 IR
def CY(o i v:D)(M:Mem)(Q:Mem->Prop):Prop:=match o with
 |.ref a=>match M a,i with
  |some (.lst xs),.int k=>match wJ xs.length k with
   |some j=>Q (M.upd a<|.lst<|xs.set j v)
   |none=>False
  |some (.dK SY),y=>match nX y with
   |some k=>SY.length<sizeLine/\Q (M.upd a<|.dK<|eN SY k v)
   |none=>False
  |some (.dT SY),y=>match yZ y with
   |some k=>SY.length<sizeLine/\Q (M.upd a<|.dT<|eN SY k v)
   |none=>False
  |_,_=>False
 |_=>False
inductive liftSet(X:Cx)(o i v:V)(H:Hp)(Q:Hp->Prop):Prop
 |mk (d1 d2 d3:_3.D) (M:Mem) (QQ:Mem->Prop) (rh:RepH X.K H M) (r1:Rp X.K H d1 o) (r2:Rp X.K H d2 i) (r3:Rp X.K H d3 v) (h:CY d1 d2 d3 M QQ) (u:∀M',QQ M'->∀H',RepH X.K H' M'->Frm M H M' H'->Q H'):liftSet X o i v H Q
theorem Dk(hu:X.A.units+1<mv):Hw X (liftSet X):=by
 rintro SW s Z H o i v ov iv u Q I ro ri rv ⟨d1,d2,d3,M,QQ,rh,r1,r2,r3,h,up⟩
 unfold CY at h
 split at h
 .rename_i a
  cases r1;cases ro
  split at h
  .rename_i xs k hM
   cases r2;obtain⟨vs,h1,h2⟩:=rh _ _ hM
   split at h
   .rename_i j ej
    refine AV _ s Z H (.ref a) _ v _ iv u Q I rfl ri rv ⟨a,vs,k,j,rfl,rfl,h1,by rw[<- h2.length];exact ej,?_⟩
    exact up _ h _ (rh.put (by rw[h1];trivial) ⟨_,upd_same,(h2.set r3 j).mono<|Imm.upd<|by rw[h1];trivial⟩) (Frm.put<|.inr ⟨_,hM⟩)
   trivial
  .rename_i SY hM
   obtain⟨ws,h1,h2⟩:=rh _ _ hM
   split at h
   .rename_i k ek
    have ev:=oR r2 ek;subst ev;refine nR hu I (DPut.k h1<|by rw[<- h2.length];exact h.1) ri rv λs' I'=>⟨_,I',?_⟩
    exact up _ h.2 _ (rh.put (by rw[h1];trivial) ⟨_,upd_same,(h2.put k r3).mono<|Imm.upd<|by rw[h1];trivial⟩) (Frm.put<|.inr ⟨_,hM⟩)
   trivial
  .rename_i SY hM
   obtain⟨ws,h1,h2⟩:=rh _ _ hM
   split at h
   .rename_i k ek
    obtain⟨b,rfl,hb⟩:=m7 r2 ek;refine nR hu I (DPut.t h1 hb<|by rw[<- h2.length];exact h.1) ri rv λs' I'=>⟨_,I',?_⟩
    exact up _ h.2 _ (rh.put (by rw[h1];trivial) ⟨_,upd_same,(h2.put k r3).mono<|Imm.upd<|by rw[h1];trivial⟩) (Frm.put<|.inr ⟨_,hM⟩)
   trivial
  trivial
 trivial
def gK(to ti:bi):jd:=λv U M Q=>to U M λo M1=>ti U M1 λi M2=>CY o i v M2 λM3=>Q U M3
theorem HH{o i:hB}{to m:bi}(J:X.A.units+1<mv)(G:DE X B o to)(I:DE X B i m)(L:∀v,Sh (.Subscript o i pos) X.env v=(do
   let ov <- K' [v] (h9 o X.env)
   let iv <- K' [v,ov] (h9 i X.env)
   R6 pos
   K' [v,ov,iv] (setItem ov iv v)
   release [v,ov,iv] []):=by intro _;rfl):DG X B (.Subscript o i pos) (gK to m):=by
 refine ju (I_ G I (Dk J) L) ?_
 rintro v Z H Q ⟨d,U,M,QQ,s,r,h,E⟩
 exact⟨U,M,_,s,h,λx M1 z v1 H1 f i1 C=>⟨U,M1,_,s.go f i1,z,λy M2 q v2 H2 j i2 F=>⟨x,y,d,M2,_,j,C.mf f i2,F,r.mf s.rh (i1.trans i2),q,λM3 w H3 l i3=>E U M3 w Z H3 ((i1.trans i2).trans i3) (s.go l<|(i1.trans i2).trans i3)⟩⟩⟩
end
section
variable{o value:hB}{f:Str}{tpos:Pos}{ta tv:bi}{C:eH}
noncomputable def fT(f:Str)(v:D):List (Str×D)->List (Str×D)
 |[]=>[(f,v)]
 |(g,w)::r=>if g=f then (g,v)::r else (g,w)::fT f v r
theorem Rkv.lookup{fs:List (Str×D)}{j:List (Str×V)}(h:Rkv K H fs j)(f:Str):(fs.lookup f=ed/\j.lookup f=ed)\/∃d v,fs.lookup f=cb d/\j.lookup f=cb v/\Rp K H d v:=by
 induction h with
 |nil=>exact .inl ⟨rfl,rfl⟩
 |@cons p q ps qs r t ih=>
  obtain⟨l,d⟩:=p;obtain⟨w,v⟩:=q;obtain⟨e,r⟩:=r;subst e;rw[Px,Px];cases m:f==l with
  |true=>exact .inr (by lia)
  |false=>exact ih
theorem Co(f:Str)(v:V):∀h:List (Str×V),dy f v h=(match h with|[]=>[(f,v)]|(g,w)::r=>if g=f then (g,v)::r else (g,w)::dy f v r)
 |[]=>rfl
 |(g,w)::r=>by rw[dy]
theorem Bn{f:Str}{d:D}{v:V}(l:Rp K H d v):∀{fs:List (Str×D)}{ws:List (Str×V)},Rkv K H fs ws->Rkv K H (fT f d fs) (_2.dy f v ws):=by
 intro fs ws h;unfold Rkv at h
 induction h with
 |nil=>exact .cons ⟨rfl,l⟩ .nil
 |cons r t ih=>
  rename_i p q fs ws
  obtain⟨j,m⟩:=p;obtain⟨w,v1⟩:=q;obtain⟨e,r⟩:=r;dsimp only at e r;subst e;rw[Co];show Rkv K H (if j=f then (j,d)::fs else (j,m)::fT f d fs) (if j=f then (j,v)::ws else (j,v1)::_2.dy f v ws)
  split
  .exact .cons ⟨rfl,l⟩ t
  .exact .cons ⟨rfl,r⟩ ih
def df(C:eH)(ta:bi)(f:Str):bi:=λU M Q=>ta U M λx M1=>match x with
 |.ref a=>match M1 a with
  |some (.ins C' fs)=>C'=C/\match fs.lookup f with
   |some d=>Q d M1
   |none=>False
  |_=>False
 |_=>False
theorem GJ(c:Cls X.K C)(n:NoAttr X.K C f)(I:DE X B e ta)(J:mu e f X.env (h9 e X.env)=h9 e X.env:=by rfl):DE X B (.Attribute e f pos) (df C ta f):=by
 refine aO (Hm I J) ?_
 rintro Z H Q ⟨U,M,QQ,s,h,u⟩
 refine⟨U,M,_,s,h,λx M1 j v1 H1 l i1 m=>?_⟩
 split at j
 .rename_i a
  cases m
  split at j
  .rename_i C' fs F
   obtain⟨rfl,j⟩:=j;obtain⟨E,q,w,y⟩:=l _ _ F
   split at j
   .rename_i d G
    rcases y.lookup f with⟨z,_⟩|⟨d',v,z1,z2,z3⟩
    .simp_all
    rw[G]at z1;cases z1;exact⟨a,_,E,q,v,rfl,w,c,n,z2,u _ M1 j _ H1 l i1 z3⟩
   trivial
  trivial
 trivial
def fW(C:eH)(ta tv:bi)(f:Str):az:=λD U M=>tv U M λy M1=>ta U M1 λx M2=>match x with
 |.ref a=>match M2 a with
  |some (.ins C' fs)=>C'=C/\fs.length<1000/\D.nx U (M2.upd a<|.ins C<|fT f y fs)
  |_=>False
 |_=>False
theorem II(c:Cls X.K C)(n:NoAttr X.K C f)(ha:DE X B o ta)(hv:DE X B value tv)(hs:pv value (cb<|.Attribute o f pos') pos.line X.env=pure false:=by rfl):DS X B (.Assign [.Attribute o f pos'] value pos) (fW C ta tv f):=by
 refine ce (Ib ha hv hs) ?_
 rintro D Z H ⟨U,M,DD,s,h,up⟩
 refine⟨U,M,_,s,h,λy M1 h1 v1 H1 rh1 i1 r1=>?_⟩;refine⟨U,M1,_,s.go rh1 i1,h1,λx M2 h2 v2 H2 rh2 i2 r2=>?_⟩
 split at h2
 .rename_i a
  cases r2
  split at h2
  .rename_i C' fs hM
   obtain⟨rfl,hl,h2⟩:=h2;obtain⟨dx,ws,e1,e2⟩:=rh2 _ _ hM;have i3:Frm M2 H2 (M2.upd a<|.ins C'<|fT f y fs) (upd H2 a<|.ins C' dx<|_2.dy f v1 ws):=Frm.put (.inr ⟨_,hM⟩);exact⟨a,C',dx,ws,rfl,e1,c,n,by rw[<- e2.length];exact hl,up.nx _ _ h2 Z _ ((i1.trans i2).trans i3)<|s.go (rh2.put (by rw[e1];trivial) ⟨dx,_,upd_same,(Bn (r1.mf rh1 i2) e2).mono<|i3.imm rh2⟩)<|(i1.trans i2).trans i3⟩
  trivial
 trivial
structure BxW(c:eO)(tb:az)(D:DEnds):Type
structure BxF(g:jd)(tb:az)(D:DEnds)(ok:Mem->Prop):Type
def fX(c:eO)(tb:az)(D:DEnds)(bx:BxW c tb D):Nat->Dl->Mem->Prop
 |0,_,_=>False
 |n+1,U,M=>c U M λb M1=>if b=true then tb { D with nx:=fX c tb D bx n,ct:=fX c tb D bx n,bk:=D.nx } U M1 else D.nx U M1
noncomputable def iz(c:eO)(tb:az):az:=λD U M=>∃n,fX c tb D ⟨⟩ n U M
theorem A5{j:Td}{L:eO}(R:Sy (fy X.prog X.w) X.A X.env X.xe)(S:DT X B c L)(Q:yK X B j tb):DS X B (.While c j [] pos) (iz L tb):=by
 refine ce (B5 R S Q) ?_
 rintro D Z H ⟨U,M,DD,s,⟨n,h⟩,I⟩
 refine⟨λm v H'=>∃δ' M',SR X B δ' M' v H'/\Frm M H M' H'/\fX L tb DD _ m δ' M',⟨n,U,M,s,Frm.refl,h⟩,?_⟩
 rintro m N H1 ⟨P,M1,G,i1,O⟩
 cases m with
 |zero=>trivial
 |succ m=>
  refine⟨_,M1,_,G,O,λb M2 q H2 l i2=>?_⟩;cases b with
  |false=>exact I.nx _ _ q _ H2 (i1.trans i2) (G.go l i2)
  |true=>
   exact⟨_,λv H' z=>⟨m,by lia,z⟩,⟨_,M2,_,G.go l i2,q,⟨λJ M3 E y H3 i3 F=>⟨_,M3,F,(i1.trans i2).trans i3,E⟩,(I.go<|i1.trans i2).rt,(I.go<|i1.trans i2).nx,λJ M3 E y H3 i3 F=>⟨_,M3,F,(i1.trans i2).trans i3,E⟩⟩⟩⟩
structure DIt where
 items:List D
 src:List (eH×List D)
def DIt.ok(I:DIt)(M:Mem):Prop:=∀p∈I.src,M p.1=cb (.lst p.2)
noncomputable abbrev yt:=Dl->Mem->(DIt->Mem->Prop)->Prop
def IA(K:Mi)(H0:Hp)(it:DIt)(J:It):Prop:=∀(i:Nat)(H:Hp)(M:Mem),Imm H0 H->RepH K H M->it.ok M->
 (∀d,it.items[i]?=cb d->J.go i H/\∀x H',J.yld i H x H'->Frm M H M H'/\RepH K H' M/\Rp K H' d x)/\(it.items.length<=i->J.stop i H)
inductive liftI(X:Cx)(B:Bd)(T:yt)(Z:St)(H:Hp)(R:It->Hp->Prop):Prop
 |mk (U:Dl) (M:Mem) (RR:DIt->Mem->Prop) (s:SR X B U M Z H) (h:T U M RR) (u:∀it M',RR it M'->∀J H',RepH X.K H' M'->Frm M H M' H'->IA X.K H' it J->R J H'):liftI X B T Z H R
def DI(X:Cx)(B:Bd)(tg iter:hB)(T:yt):Prop:=PI X tg iter (liftI X B T)
theorem gy{j:hB}{t t':TI}(h:PI X tg j t)(w:∀Z H Q,t' Z H Q->t Z H Q):PI X tg j t':=λl s Z H Q I q=>h _ s Z H Q I (w Z H Q q)
def yg(g:jd)(tb:az)(DD:DEnds)(ok:Mem->Prop)(b:BxF g tb DD ok):List D->Dl->Mem->Prop
 |[],U,M=>ok M/\DD.nx U M
 |x::xs,U,M=>ok M/\g x U M λh M2=>tb { DD with nx:=yg g tb DD ok b xs,ct:=yg g tb DD ok b xs,bk:=DD.nx } h M2
noncomputable def cK(wi:yt)(g:jd)(tb:az):az:=λD U M=>wi U M λh M1=>yg g tb D h.ok ⟨⟩ h.items U M1
theorem Ci{DD:DEnds}{ok:Mem->Prop}{b:BxF g tb DD ok}{xs:List D}{U:Dl}(h:yg g tb DD ok b xs U M):ok M:=by
 cases xs with
 |_=>exact h.1
theorem IL{j:hB}{l:Td}{T:yt}(hp:Sy (fy X.prog X.w) X.A X.env X.xe)(hc:X.calm=true)(hi:DI X B tg j T)(hg:DG X B tg g)(hb:yK X B l tb)(hs:∀x,ol j X.env x=pure x:=by intro _;rfl):DS X B (.For tg j l [] pos) (cK T g tb):=by
 refine ce (FZ hp hc hi hg hb hs) ?_
 rintro D Z H ⟨U,M,DD,s,h,R⟩
 refine⟨U,M,_,s,h,λF M1 h1 J H1 v i1 hJ=>?_⟩;refine⟨λi m E H'=>m=F.items.length-i/\i<=F.items.length/\∃δ' M',SR X B δ' M' E H'/\Frm M1 H1 M' H'/\yg g tb DD _ _ (F.items.drop i) δ' M',⟨_,rfl,by lia,U,M1,s.go v i1,Frm.refl,h1⟩,?_⟩
 rintro i m W H2 ⟨rfl,hi',δ2,M2,S,i2,q⟩
 obtain⟨Q,N⟩:=hJ i H2 M2 (i2.imm v) S.rh (Ci q)
 by_cases y:i<F.items.length
 .rw[NC y]at q
  obtain⟨go,hy⟩:=Q _ (Mj _);refine .inr ⟨go,_,λE H' z=>⟨_,by omega,rfl,y,z⟩,λx H3 hx=>?_⟩
  obtain⟨i3,L,rx⟩:=hy x H3 hx;refine⟨_,_,M2,_,S.go L i3,rx,q.2,λδ4 M4 h4 σ4 H4 i4 Y=>?_⟩;have i14:=(i2.trans i3).trans i4;exact⟨_,M4,_,Y,h4,⟨λO M5 P I H5 i5 G=>⟨_,M5,G,i14.trans i5,P⟩,(R.go<|i1.trans i14).rt,(R.go<|i1.trans i14).nx,λO M5 P I H5 i5 G=>⟨_,M5,G,i14.trans i5,P⟩⟩⟩
 rw[OO (by omega)]at q
 exact .inl ⟨by lia,R.nx _ _ q.2 _ H2 (i1.trans i2) S⟩
end
end _3
namespace _2
open PySem PySem.Spec PyProof.Rows
section
variable {X:Cx}{B:Bd}{tg:hB}
noncomputable def Lm(K:Mi)(tl:TE):TI:=λZ H R=>tl Z H λx H1=>∃a b xs,x=.ref a/\mI K b H1 a xs/\R (if b=true then Itl K a else Itt K a) H1
theorem BX{l:hB}{j:TE}(z:PE X l j):PI X tg l (Lm X.K j):=by
 intro f s Z H R I h;refine bz (z _ s Z H _ I h) λv g m=>?_;obtain⟨x,H1,I1,u,y⟩:=m;obtain⟨a,b,A,e,i,q⟩:=y;subst e;cases u;cases b with
 |true=>
  obtain⟨c,r,p,n⟩:=I1.list i;refine O_ p.isList ?_;refine⟨_,_,_,_,H1,rfl,I1.kept λb o=>Mb _,yf a _,⟨_,Mn _ rfl,rfl,rfl⟩,λb w=>?_,q⟩;have e:b=g.heap.objs.size:=by simp_all
  subst e;exact I1.fpOk (by lia) (I1.hok.fresh<|by lia)
 |false=>
  obtain⟨c,r,p,n⟩:=I1.tuple i;refine RX p ?_;refine⟨_,_,_,_,H1,rfl,I1.kept λb o=>Mb _,uc a _,⟨_,Mn _ rfl,rfl,rfl⟩,λb w=>?_,q⟩;have e:b=g.heap.objs.size:=by simp_all
  subst e;exact I1.fpOk (by lia) (I1.hok.fresh<|by lia)
noncomputable def G7(K:Mi)(t:TA):TI:=λZ H R=>t Z H λa H1=>∃b l xs,a=[.ref l]/\mI K b H1 l xs/\R (Ite K b l) H1
theorem A2{a:hB}{g:Tc}{L:Nat}{M:Pos}{r:TA}{p pos:Pos}(E:Gl X "enumerate")(F:X.mg "enumerate"=ed)(J:PA X [a] r)(G:eT [a] X.env=[(eP,h9 a X.env)]:=by rfl):
  PI X (.Tuple g L M) (.Call (.Name "enumerate" p) [a] [] pos) (G7 X.K r):=by
 intro m s Z H R I h;refine Call_ (dD I E F (by rfl:g3 _=cb (.type "enumerate"))<|MS (bz (J _ _ s Z H _ I h) λT o u=>?_) G rfl)
 obtain⟨N,H1,I1,x,j⟩:=u;obtain⟨b,l,S,e,j,q⟩:=j;subst e;obtain⟨O,rfl,i⟩:=x.one;cases i;obtain⟨C,P,sq,z⟩:=I1.src j;refine xD sq λQ n w A v=>?_;have I2:Inv X _ Z H1 _:=I1.kept (t':=o.toks) v;refine wpAny_pyIter_enum n ?_;refine⟨_,_,_,_,H1,rfl,I2,yy b l _ _ (by lia),⟨⟨_,n⟩,w⟩,λc y=>?_,q⟩
 have f:o.heap.objs.size<=c:=by
  rcases (by simpa using y) with e|e<;>rw[e]<;>first|exact Ny _ _|exact Mo _
 exact I1.fpOk f (I1.hok.fresh f)
end
end _2
namespace _3
open PySem _2
variable{C f:eH}{B:Bd}{X:Cx}{Q:DK}{EE:DX}{U:Dl}{a e:hB}{fd:k6}{base:ka}{H H':Hp}{Z:_2.St}{elts es:Tc}{N ps:S_}{M M' M1:Mem}{K:Mi}{i n x1:Nat}{S2 p pos tp:Pos}{P:g4}{scope:L'}{T:Sd}{st:py}{SX x:Str}{mg:Tg}{w:kB}{E:XK}{ta:dX}{g:jd}{r:vx}
section
variable{tg:hB}
def bZ(d:D)(xs:List D):List (eH×List D):=match d with
 |.ref a=>[(a,xs)]
 |_=>[]
theorem t_{d:D}{v:V}{xs:List D}(o:RepH K H M)(r:Rp K H d v)(e:aE M d=cb xs):∃p b,v=.ref p/\∀H' M',Imm H H'->RepH K H' M'->(∀q∈bZ d xs,M' q.1=cb (.lst q.2))->∃vs,mI K b H' p vs/\Rps K H' xs vs:=by
 cases d with
 |tup ys=>
  cases e;obtain⟨p,vs,rfl,h,r⟩:=r;exact⟨p,eP,rfl,λH' M' i _ _=>⟨vs,(h.mono i).sq,r.mono i⟩⟩
 |lst ys=>
  cases e;obtain⟨p,vs,rfl,h,r⟩:=r;exact⟨p,true,rfl,λH' M' i _ _=>⟨vs,(h.mono i).sq,r.mono i⟩⟩
 |mt ys=>
  cases e;obtain⟨p,vs,rfl,h,r⟩:=r;exact⟨p,eP,rfl,λH' M' i _ _=>⟨vs,h.sq,r.mono i⟩⟩
 |ml ys=>
  cases e;obtain⟨p,vs,rfl,h,r⟩:=r;exact⟨p,true,rfl,λH' M' i _ _=>⟨vs,(h.mono i).sq,r.mono i⟩⟩
 |ref a=>
  refine⟨a,true,r,λH' M' i c m=>?_⟩;obtain⟨vs,l,j⟩:=c _ _ (m (a,xs)<|by simp[bZ])
  exact⟨vs,SqL.of l,j⟩
 |_=>cases e
theorem ud{d:D}{xs:List D}(e:aE M d=cb xs):∀q∈bZ d xs,M q.1=cb (.lst q.2):=by
 cases d with
 |ref a=>
  intro q b;have:q=(a,xs):=by simpa [bZ] using b
  simp[aE]at e
  split at e
  .simp_all
  cases e
 |_=>intro q b;simp[bZ]at b
def cN(te:bi):yt:=λU M R=>te U M λd M1=>match aE M1 d with
 |some xs=>R ⟨xs,bZ d xs⟩ M1
 |none=>False
theorem GH{l:hB}{G:bi}(hl:DE X B l G):DI X B tg l (cN G):=by
 refine gy (BX hl) ?_
 rintro Z H R ⟨U,M,RR,s,h,S⟩
 refine⟨U,M,_,s,h,λd M1 A v H1 m i1 L=>?_⟩
 split at A
 .rename_i xs e
  obtain⟨p,b,rfl,c⟩:=t_ m L e;obtain⟨J,O,_⟩:=c H1 M1 Imm.refl m (ud e);refine⟨p,b,J,rfl,O,S _ M1 A _ H1 m i1 λi H2 M2 i2 o q=>?_⟩;obtain⟨Y,j,z⟩:=c H2 M2 i2 o q;cases b with
  |_=>
   refine⟨λd I=>?_,λu=>⟨_,j,by rw[<- z.length];exact u⟩⟩
   obtain⟨w,F,y⟩:=z.get I;refine⟨⟨_,w,j,F⟩,?_⟩
   rintro x H3 ⟨rfl,W⟩
   have:=W _ j;rw[F]at this;cases this;exact⟨Frm.refl,o,y⟩
 trivial
noncomputable def gT(lo:Int)(n:Nat):List D:=(NV n).map λ(i:Nat)=>D.int (lo+i)
def nv(t:dX):yt:=λU M R=>t U M λb M1=>match b with
 |[.int j]=>-(2 ^ 62)<=j/\j<2 ^ 62/\R ⟨gT 0 j.toNat,[]⟩ M1
 |_=>False
theorem IW{j:Int}:IA K H ⟨gT j n,[]⟩ (Itr j n):=λi H2 M2 i2 l _=>by
 have c:(gT j n).length=n:=by simp[gT]
 refine⟨λd o=>?_,λb=>by rw[c]at b;exact b⟩
 have m:i<n:=by
  rcases MW i n with h|h
  .exact h
  simp_all
 have q:d=.int (j+i):=by
  simp[gT,List.getElem?_range m]at o
  simp_all
 subst q;refine⟨m,?_⟩
 rintro x H3 ⟨rfl,rfl⟩
 exact⟨Frm.refl,l,rfl⟩
theorem yl(u:Gl X "range")(o:X.mg "range"=ed)(y:DA X B [a] ta)(q:eT [a] X.env=[(eP,h9 a X.env)]:=by rfl):DI X B tg (.Call (.Name "range" p) [a] [] pos) (nv ta):=by
 refine gy (xV u o y q) ?_
 rintro Z H R ⟨U,M,RR,s,h,m⟩
 refine⟨U,M,_,s,h,λds M1 b z H1 c i1 j=>?_⟩
 split at b
 .obtain⟨v,rfl,l⟩:=eU (ds:=[]) j
  cases l;exact⟨_,rfl,b.1,b.2.1,m _ M1 b.2.2 _ H1 c i1 IW⟩
 trivial
noncomputable def rf(xs:List D):List D:=(xs.zipIdx).map λp=>D.tup [.int (p.2:Nat),p.1]
theorem xW{xs:List D}:(rf xs)[i]?=(xs[i]?).map λd=>D.tup [.int (i:Nat),d]:=by
 simp[rf];rfl
def gU(t:dX):yt:=λU M R=>t U M λb M1=>match b with
 |[d]=>match aE M1 d with
  |some xs=>R ⟨rf xs,bZ d xs⟩ M1
  |none=>False
 |_=>False
theorem CW(hg:Gl X "enumerate")(hm:X.mg "enumerate"=ed)(ha:DA X B [a] ta)(hs:eT [a] X.env=[(eP,h9 a X.env)]:=by rfl):
  DI X B (.Tuple elts x1 tp) (.Call (.Name "enumerate" p) [a] [] pos) (gU ta):=by
 refine gy (A2 hg hm ha hs) ?_
 rintro Z H R ⟨U,M,RR,s,h,W⟩
 refine⟨U,M,_,s,h,λds M1 u G H1 l i1 L=>?_⟩
 split at u
 .obtain⟨v,rfl,S⟩:=eU (ds:=[]) L
  split at u
  .rename_i xs e
   obtain⟨p,b,rfl,c⟩:=t_ l S e;obtain⟨G,O,_⟩:=c H1 M1 Imm.refl l (ud e);refine⟨b,p,G,rfl,O,W _ M1 u _ H1 l i1 λi H2 M2 i2 m o=>?_⟩;obtain⟨vs2,j,I⟩:=c H2 M2 i2 m o;refine⟨λd F=>?_,λy=>⟨_,j,by rw[<- I.length];simpa [rf] using y⟩⟩
   rw[xW]at F;obtain⟨d0,z,rfl⟩:=MR.mp F;obtain⟨w,J,A⟩:=I.get z;refine⟨⟨_,w,j,J⟩,?_⟩
   rintro x H3 ⟨T,x',q,rfl,rfl,Y⟩
   have:=Y _ j;rw[J]at this;cases this;exact⟨Frm.new q,m.new q,T,_,rfl,upd_same,.cons rfl<|.cons (A.mono<|Imm.new q) .nil⟩
  trivial
 trivial
noncomputable def qK(xs ys:List D):List D:=(xs.zip ys).map λp=>D.tup [p.1,p.2]
theorem Bj{xs ys:List D}{d:D}(h:(qK xs ys)[i]?=cb d):∃x y,xs[i]?=cb x/\ys[i]?=cb y/\d=.tup [x,y]:=by
 simp only[qK,Mv,MR]at h;obtain⟨⟨x,y⟩,b,rfl⟩:=h;rw[List.getElem?_zip_eq_some]at b;exact⟨x,y,b.1,b.2,rfl⟩
noncomputable def tq:List D->List (List D)->List (eH×List D)
 |d::ds,xs::xss=>bZ d xs++tq ds xss
 |_,_=>[]
abbrev K0(M:Mem)(ds:List D)(xss:List (List D)):Prop:=P' (λd xs=>aE M d=cb xs) ds xss
structure Zps(xss:List (List D))(zs:List D):Prop where
 get:∀(i:Nat)(d:D),zs[i]?=cb d->∃ys,d=.tup ys/\xss.map (·[i]?)=ys.map cb
 stop:∀i:Nat,zs.length<=i->∃xs∈xss,xs.length<=i
theorem DN{ds:List D}{c:List (List D)}(u:RepH K H M)(h:K0 M ds c):∀{vs:List V},Rps K H ds vs->(∀q∈tq ds c,M q.1=cb (.lst q.2))/\
  ∃L:List (Bool×eH),vs=L.map (λp=>.ref p.2)/\L.length=c.length/\∀H' M',Imm H H'->RepH K H' M'->(∀q∈tq ds c,M' q.1=cb (.lst q.2))->
   P' (λ(p:Bool×eH) xs=>∃us,mI K p.1 H' p.2 us/\Rps K H' xs us) L c:=by
 induction h with
 |nil=>exact λr=>⟨λq h=>by simp[tq]at h,[],r,rfl,λ_ _ _ _ _=>.nil⟩
 |cons h t ih=>
  rintro vs ⟨v,s,rfl,r,o⟩
  obtain⟨a,L,rfl,l,k⟩:=ih o;obtain⟨p,b,rfl,g⟩:=t_ u r h;exact⟨λq m=>(Ml.1 m).elim (ud h q) (a q),(b,p)::L,rfl,by simp[l],λH' M' i j ok=>.cons (g H' M' i j λq m=>ok q (NW _ m)) (k H' M' i j λq m=>ok q (MF _ m))⟩
theorem CG(im:Imm H H'){L:List (Bool×eH)}{xss:List (List D)}(h:P' (λ(p:Bool×eH) xs=>∃us,mI K p.1 H p.2 us/\Rps K H xs us) L xss):∀{ys:List D}{zs:List V},xss.map (·[i]?)=ys.map cb->zs.length=L.length->
  (∀(j:Nat)(p:Bool×eH),L[j]?=cb p->∀us,mI K p.1 H p.2 us->us[i]?=zs[j]?)->Rps K H' ys zs:=by
 induction h with
 |nil=>
  intro ys zs e l _;obtain rfl:=PF l;cases ys<;>trivial
 |cons h t ih=>
  intro ys zs e l g;cases ys with
  |nil=>simp at e
  |cons y ys=>
   cases zs with
   |nil=>simp at l
   |cons z zs=>
    simp at e;obtain⟨us,sq,r⟩:=h;obtain⟨w,hw,rw'⟩:=r.get e.1;have:=g 0 _ rfl us sq;rw[hw]at this;cases this;exact .cons (rw'.mono im) (ih e.2 (by simpa using l) λj p ej=>g (j+1) p (by trivial))
theorem qS{P:(Bool×eH)->List D->Prop}:∀{L:List (Bool×eH)}{xss:List (List D)},P' P L xss->(∀p∈L,∃xs∈xss,P p xs)/\∀xs∈xss,∃p∈L,P p xs:=by
 intro L xss h
 induction h with
 |nil=>exact⟨λp h=>by simp at h,λp h=>by simp at h⟩
 |cons h _ ih=>
  obtain⟨a,b⟩:=ih;refine⟨λp c=>?_,λp c=>?_⟩
  .rcases Mm.1 c with rfl|m
   .exact⟨_,.head _,h⟩
   .obtain⟨x,y,z⟩:=a p m;exact⟨x,.tail _ y,z⟩
  .rcases Mm.1 c with rfl|m
   .exact⟨_,.head _,h⟩
   .obtain⟨x,y,z⟩:=b p m;exact⟨x,.tail _ y,z⟩
theorem vB{f:List D->Mem->(DIt->Mem->Prop)->Prop}(hf:∀ds M1 R,f ds M1 R->∃b zs,(b.length=2\/b.length=3)/\K0 M1 ds b/\Zps b zs/\R ⟨zs,tq ds b⟩ M1){A:Tc}(hg:Gl X "zip")(hm:X.mg "zip"=ed)(ha:DA X B (a::A) ta)(hs:eT (a::A) X.env=(eP,h9 a X.env)::eT A X.env)(S:(PySem.backTo pos<|starEach A X.env).any (·.1)=eP):
  DI X B (.Tuple elts x1 tp) (.Call (.Name "zip" p) (a::A) [] pos) (λU M R=>ta U M λds M1=>f ds M1 R):=by
 refine gy (E4 hg hm ha hs S) ?_
 rintro Z H R ⟨U,M,RR,s,h,up⟩
 refine⟨U,M,_,s,h,λds M1 J W H1 j i1 r1=>?_⟩;obtain⟨b,zs,n,sq,z,J⟩:=hf _ _ _ J;obtain⟨ok,L,rfl,l,k⟩:=DN j sq r1;refine⟨L,by lia,rfl,λp m=>?_,up _ M1 J _ H1 j i1 λi H2 M2 i2 o G=>?_⟩
 .obtain⟨F,_,c,h,_⟩:=(qS<|k H1 M1 Imm.refl j ok).1 p m
  exact⟨c,h⟩
 have q:=k H2 M2 i2 o G;obtain⟨Y,qb⟩:=qS q;refine⟨λd hd=>?_,λO=>⟨λp m=>?_,?_⟩⟩
 .obtain⟨ys,rfl,e⟩:=z.get i d hd
  refine⟨λp m=>?_,?_⟩
  .obtain⟨F,u,c,h,r⟩:=Y p m
   obtain⟨y,_,e⟩:=Nd.1 (e▸ME u);obtain⟨v,hv,_⟩:=r.get e.symm;exact⟨c,v,h,hv⟩
  rintro x H3 ⟨T,W,I,rfl,rfl,hl,u⟩
  exact⟨Frm.new I,o.new I,T,W,rfl,upd_same,CG (Imm.new I) q e hl u⟩
 .obtain⟨F,_,c,h,_⟩:=Y p m
  exact⟨c,h⟩
 obtain⟨F,u,le⟩:=z.stop i O;obtain⟨p,m,c,h,r⟩:=qb F u;exact⟨p,m,c,h,by rw[<- r.length];exact le⟩
def GW(t:dX):yt:=λU M R=>t U M λb M1=>match b with
 |[d,e]=>match aE M1 d,aE M1 e with
  |some xs,cb ys=>R ⟨qK xs ys,bZ d xs++bZ e ys⟩ M1
  |_,_=>False
 |_=>False
theorem G1{b:hB}(F:Gl X "zip")(v:X.mg "zip"=ed)(G:DA X B [a,b] ta)(A:eT [a,b] X.env=[(eP,h9 a X.env),(eP,h9 b X.env)]:=by rfl)(hs2:eT [b] X.env=[(eP,h9 b X.env)]:=by rfl):
  DI X B (.Tuple elts x1 tp) (.Call (.Name "zip" p) [a,b] [] pos) (GW ta):=by
 refine vB (λI M1 R h=>?_) F v G (by rw[A,hs2]) (by rw[hs2];rfl)
 split at h
 .split at h
  .rename_i d e _ c j m q
   refine⟨_,_,.inl rfl,.cons m (.cons q .nil),⟨λi z l=>?_,λi o=>?_⟩,by simpa [tq] using h⟩
   .obtain⟨x,y,s,u,rfl⟩:=Bj l
    exact⟨_,rfl,by simp[s,u]⟩
   have:(qK c j).length=min c.length j.length:=by simp[qK]
   simp;lia
  trivial
 trivial
end
noncomputable def ua:Bd:=⟨λ_ _=>True,λ_ _=>trivial⟩
section
inductive liftE0(K:Mi)(T:bi)(Z:_2.St)(H:Hp)(Q:VK):Prop
 |mk (U:Dl) (M:Mem) (QQ:DK) (rh:RepH K H M) (rs:RepS K H U Z) (h:T U M QQ) (u:Up K M H QQ Q):liftE0 K T Z H Q
inductive liftT0(K:Mi)(T:eO)(Z:_2.St)(H:Hp)(Q:Bool->Hp->Prop):Prop
 |mk (U:Dl) (M:Mem) (QQ:Bool->Mem->Prop) (rh:RepH K H M) (rs:RepS K H U Z) (h:T U M QQ) (u:UpT K M H QQ Q):liftT0 K T Z H Q
inductive liftG0(K:Mi)(g:jd)(v:V)(Z:_2.St)(H:Hp)(Q:_2.St->Hp->Prop):Prop
 |mk (d:D) (U:Dl) (M:Mem) (QQ:Dl->Mem->Prop) (rh:RepH K H M) (rs:RepS K H U Z) (r:Rp K H d v) (h:g d U M QQ) (u:∀δ' M',QQ δ' M'->∀σ' H',Frm M H M' H'->RepH K H' M'->RepS K H' δ' σ'->Q σ' H'):liftG0 K g v Z H Q
theorem Av{T:bi}(h:DE X ua e T):PE X e (liftE0 X.K T):=aO h (by rintro Z H Q ⟨U,M,QQ,c,b,h,u⟩;exact⟨U,M,QQ,⟨trivial,c,b⟩,h,u⟩)
theorem Bm(h:DG X ua e g):PG X e (liftG0 X.K g):=ju h (by rintro v Z H Q ⟨d,U,M,QQ,rh,rs,r,h,u⟩;exact⟨d,U,M,QQ,⟨trivial,rh,rs⟩,r,h,λb M' q c H' f s=>u _ M' q _ H' f s.rh s.rs⟩)
theorem RepH.add{a:eH}{o:MO}(r:RepH K H M)(n:RepO K H a o):RepH K H (M.upd a o):=λb p e=>by
 by_cases c:b=a
 .simp_all
 rw[ah c]at e;exact r b p e
noncomputable def oC(ls:S_)(js:List Nat)(U:Dl):Dl:=ls.map (λ_=>ed)++js.map λj=>(U[j]?).join
theorem RepS.start(r:RepS K H U Z)(ls:S_)(b:List Nat):RepS K H (oC ls b U) (dz ls b Z):=by
 refine⟨by simp[oC,dz],λi d e=>?_⟩
 unfold oC at e;unfold dz
 by_cases o:i<ls.length
 .grind
 rw[MP (by simp_all),Mv]at e
 rw[MP (by simp_all)]
 cases l:b[i-ls.length]? with
 |none=>simp_all
 |some j=>
  have c:U[j]?=cb (cb d):=by
   cases z:U[j]?<;>simp_all
  obtain⟨v,m,h⟩:=r.get j d c
  simp_all
structure BxC(g:jd)(tt:eO)(te:bi)(ok:Mem->Prop)(Q:List D->Mem->Prop):Type
def dM(g:jd)(tt:eO)(te:bi)(ok:Mem->Prop)(Q:List D->Mem->Prop)(b:BxC g tt te ok Q):List D->List D->Dl->Mem->Prop
 |[],SZ,_,M=>ok M/\Q SZ M
 |x::xs,SZ,U,M=>ok M/\g x U M λh M2=>tt h M2 λc M3=>if c=true then te h M3 λy M4=>SZ.length<sizeLine/\dM g tt te ok Q b xs (SZ++[y]) h M4 else dM g tt te ok Q b xs SZ h M3
noncomputable def bf(wi:yt)(ls:S_)(js:List Nat)(g:jd)(tt:eO)(te:bi):bi:=λU M Q=>wi U M λc M1=>dM g tt te c.ok (λb M'=>∀p,M' p=ed->Q (.ref p) (M'.upd p<|.lst b)) ⟨⟩ c.items [] (oC ls js U) M1
theorem AZ{tt:eO}{te:bi}{ok:Mem->Prop}{xs SZ:List D}{Q:List D->Mem->Prop}{b:BxC g tt te ok Q}(h:dM g tt te ok Q b xs SZ U M):ok M:=by
 cases xs with
 |_=>exact h.1
variable{tg iter elt:hB}{ifs:Tc}{cl:List (Str×eH)}{ls fs:S_}{js:List Nat}{wi:yt}{tt:eO}{te:bi}
theorem nT{Q:VK}(h:liftE X B (bf wi ls js g tt te) Z H Q):AQ (liftI X B wi) ls js (liftG0 X.K g) (liftT0 X.K tt) (liftE0 X.K te) Z H Q:=by
 obtain⟨U,M,QQ,s,h,u⟩:=h;refine⟨U,M,_,s,h,λit M1 h1 J H1 rh1 f1 hJ p hp=>?_⟩;have hMp:=rh1.fresh hp
 refine⟨λi m σ' H'=>m=it.items.length-i/\i<=it.items.length/\∃δ' M' SZ ys,RepH _ H' M'/\RepS _ H' δ' σ'/\H' p=cb (.lst ys)/\Rps X.K H' SZ ys/\M' p=ed/\Frm M1 H1 M' H'/\
   dM g tt te _ _ _ (it.items.drop i) SZ δ' M',
  ⟨_,rfl,by lia,_,M1,[],[],rh1.new hp,((s.rs.mono<|f1.imm s.rh).mono<|Imm.new hp).start ls js,upd_same,.nil,hMp,Frm.new hp,h1⟩,?_⟩
 rintro i m σ2 H2 ⟨rfl,hi,δ2,M2,SZ,ys,rh2,rs2,hp2,ra2,hm2,f2,h2⟩
 have hok:=AZ h2;obtain⟨hgo,hstop⟩:=hJ i H2 M2 (f2.imm rh1) rh2 hok
 by_cases hlt:i<it.items.length
 .rw[NC hlt]at h2
  obtain⟨go,hy⟩:=hgo _ (Mj hlt);refine .inr ⟨go,_,λσ' H' z=>⟨_,by omega,rfl,hlt,z⟩,λx H3 hx=>?_⟩
  obtain⟨f3,rh3,rx⟩:=hy x H3 hx;refine⟨_,_,M2,_,rh3,rs2.mono (f3.imm rh2),rx,h2.2,λδ4 M4 h4 σ4 H4 f4 rh4 rs4=>?_⟩;refine⟨_,M4,_,rh4,rs4,h4,λc M5 h5 H5 rh5 f5=>?_⟩;have f35:=(f3.trans f4).trans f5;obtain⟨hp5,hm5⟩:=f35.keep p _ hp2 hm2;cases c with
  |false=>
   exact⟨_,M5,_,ys,rh5,rs4.mono (f5.imm rh4),hp5,ra2.mf rh2 f35,hm5,f2.trans f35,h5⟩
  |true=>
   refine⟨_,M5,_,rh5,rs4.mono (f5.imm rh4),h5,λy M6 h6 v6 H6 rh6 f6 r6=>?_⟩;obtain⟨hp6,hm6⟩:=f6.keep p _ hp5 hm5;have f26:=f35.trans f6;have ra6:=ra2.mf rh2 f26;refine⟨ys,hp6,by rw[<- ra6.length];exact h6.1,?_⟩
   have im:Imm H6 (upd H6 p<|.lst (ys++[v6])):=Imm.upd (by rw[hp6];trivial)
   refine⟨_,M6,_,_,rh6.keep im λb o hb=>aC (by lia),((rs4.mono<|f5.imm rh4).mono<|f6.imm rh5).mono im,upd_same,(ra6.append<|.cons r6 .nil).mono im,hm6,?_,h6.2⟩
   refine⟨λb w e n=>?_⟩;obtain⟨e2,n2⟩:=(f2.trans f26).keep b w e n;exact⟨by rw[aC (by lia)];exact e2,n2⟩
 rw[OO (by omega)]at h2
 refine .inl ⟨hstop (by omega),u _ _ (h2.2 p hm2) _ H2 (rh2.add ⟨ys,hp2,ra2⟩) ?_ rfl⟩
 refine⟨λb w e n=>?_⟩;obtain⟨e1,n1⟩:=f1.keep b w e n;obtain⟨e2,n2⟩:=f2.keep b w e1 n1;exact⟨e2,by rw[ah (bc e1 hp)];exact n2⟩
def Jf(X:Cx)(B:Bd)(ifs:Tc)(T:eO):Prop:=HW X ifs (liftT X B T)
def cM:eO:=λ_ M Q=>Q true M
theorem CO:Jf X B [] cM:=(by rintro b s Z H Q I ⟨U,M,QQ,c,h,u⟩;exact D8 _ s Z H Q I (u _ M h H c.rh Frm.refl))
theorem Cu{c:hB}{t:eO}(h:DT X B c t):Jf X B [c] t:=C7 h
theorem wu{T:eO}(h:Jf X ua es T):HW X es (liftT0 X.K T):=λb s Z H Q I c=>by obtain⟨U,M,QQ,m,l,j,u⟩:=c;exact h _ s Z H Q I ⟨U,M,QQ,⟨trivial,m,l⟩,j,u⟩
theorem Eh(q:X.calm=true)(o:CompOk X scope cl ls fs js)(l:DI X B tg iter wi)(j:∀(C:eH)(b:eC)(H₀:Hp)(c:Tb)(pl:Tf),DG (aY X (ls++fs) scope cl C b H₀ c pl) ua tg g/\Jf (aY X (ls++fs) scope cl C b H₀ c pl) ua ifs tt/\DE (aY X (ls++fs) scope cl C b H₀ c pl) ua elt te)(m:∀x,ol iter X.env x=pure x:=by intro _;rfl):DE X B (.ListComp elt [⟨tg,iter,ifs,0⟩] scope pos) (bf wi ls js g tt te):=
 aO (D4 q o l (λC b H₀ c pl=>⟨Bm (j C _ _ c pl).1,wu (j C _ _ c pl).2.1,Av (j C _ _ c pl).2.2⟩) m) λ_ _ _ h=>nT h
def pH(i:Nat)(t:bi):az:=λD U M=>t U M λd M1=>D.nx (U.set i<|some d) M1
theorem Ct{u c:Pos}(F:X.N.Nodup)(o:X.N[i]?=cb x)(G:yG X.env.scope x)(J:X.calm=true)(I:CompOk X scope cl ls fs js)(A:DI X B tg iter wi)(m:∀(C:eH)(b:eC)(H₀:Hp)(j:Tb)(pl:Tf),DG (aY X (ls++fs) scope cl C b H₀ j pl) ua tg g/\Jf (aY X (ls++fs) scope cl C b H₀ j pl) ua ifs tt/\DE (aY X (ls++fs) scope cl C b H₀ j pl) ua elt te)(l:pv (.ListComp elt [⟨tg,iter,ifs,0⟩] scope pos) (cb<|.Name x u) c.line X.env=pure true:=by rfl)(hs:∀x,ol iter X.env x=pure x:=by intro _;rfl)(hf:X.fn x=true\/X.env.scope.names.lookup x=cb .local:=by and_intros):
  DS X B (.Assign [.Name x u] (.ListComp elt [⟨tg,iter,ifs,0⟩] scope pos) c) (pH i<|bf wi ls js g tt te):=by
 refine ce (Ea (g:=liftG0 _ g) (tt:=liftT0 _ tt) (te:=liftE0 _ te) F o G J I A (λC b H₀ j pl=>⟨Bm (m C _ _ j pl).1,wu (m C _ _ j pl).2.1,Av (m C _ _ j pl).2.2⟩) l hs hf) ?_
 rintro D Z H ⟨U,M,DD,s,h,y⟩
 exact nT ⟨U,M,_,s,h,λd M' q v H' z f r=>y.nx _ M' q _ H' f ((s.go z f).set r)⟩
def ke(i:Nat)(U:Dl)(M:Mem)(Q:Dl->Mem->Prop):Prop:=match U[i]? with
 |some (cb<|.ref a)=>match M a with
  |some (.lst xs)=>Q (U.set i<|some<|.lst xs) (M.del a)
  |_=>Q U M
 |_=>Q U M
def lB(t:az)(i:Nat):az:=λD U M=>t { D with nx:=λb M'=>ke i b M' D.nx } U M
theorem sG{b:Type}:∀{l:List b}{i:Nat}{x:b},l[i]?=cb x->l.set i x=l
 |[],_,_,h=>by simp at h
 |_::_,0,_,h=>by simp_all
 |_::_,i+1,_,h=>by rw[List.set_cons_succ,sG (by simpa using h)]
theorem Hy{t:az}(i:Nat)(h:DS X B st t):DS X B st (lB t i):=by
 intro SW s Z H D I ⟨U,M,DD,sr,hT,up⟩;refine bz (h _ s Z H { D with nx:=λσ' H'=>∃δ' M',ke i δ' M' _/\Frm M H M' H'/\SR X B _ M' _ H' } I ⟨U,M,_,sr,hT,⟨λδ' M' q σ' H' f s'=>⟨_,M',q,f,s'⟩,up.rt,up.bk,up.ct⟩⟩) λf s' q=>?_;cases f with
 |next=>
  obtain⟨σ',H',I',δ',M',q,f,s'⟩:=q;unfold ke at q
  split at q
  .rename_i a ea
   split at q
   .rename_i xs e
    obtain⟨vs,h1,h2⟩:=s'.rh _ _ e;obtain⟨o,I2⟩:=Inv.freeze I' h1;have im:Imm H' (upd H' a<|.frz o<|.lst vs):=Imm.upd (by rw[h1];trivial)
    obtain⟨v,hv,rv⟩:=s'.rs.get i _ ea;cases rv;refine⟨_,_,I2,up.nx _ _ q _ _ (f.trans<|Frm.del ⟨_,e⟩) ⟨B.go s'.i0 (Frm.del ⟨_,e⟩),s'.rh.freeze h1,?_⟩⟩;have:=(s'.rs.mono im).set (i:=i) (d:=.lst xs) ⟨a,vs,rfl,⟨o,upd_same⟩,h2.mono im⟩
    rwa [sG hv]at this
   exact⟨_,H',I',up.nx _ _ q _ H' f s'⟩
  exact⟨_,H',I',up.nx _ _ q _ H' f s'⟩
 |_=>exact q
end
noncomputable abbrev DX:=eH->Mem->Prop
noncomputable abbrev Sd:=List D->Mem->DK->DX->Prop
noncomputable def sK(P:g4)(w:kB):pT:=λb H s E e c=>∃C,yM P w C b H s E e c
def UpX(K:Mi)(M:Mem)(H:Hp)(EE:DX)(E:XK):Prop:=∀C M',EE C M'->∀H',RepH K H' M'->Frm M H M' H'->E (.ref C) ed H'
def yI(K:Mi)(B:Bd)(EE:DX)(E:XK):Prop:=∀C M',EE C M'->∀H',RepH K H' M'->B.p M' H'->E (.ref C) ed H'
theorem UpX.go{H1:Hp}(u:UpX K M H EE E)(i:Frm M H M1 H1):UpX K M1 H1 EE E:=λC M' q H' a b=>u C M' q H' a (i.trans b)
noncomputable def bW(K:Mi)(n:Nat)(T:Sd):Sp:=λb H Q E=>b.length=n/\∃ds M QQ EE,RepH K H M/\Rps K H ds b/\T ds M QQ EE/\Up K M H QQ Q/\UpX K M H EE E
def startN(N:S_)(ds:List D):Dl:=ds.map cb++Mh (N.length-ds.length) ed
theorem RepS.startN{ds:List D}{vs:List V}(N:S_)(r:Rps K H ds vs):RepS K H (_3.startN N ds) (_2.start N vs):=by
 have l:=r.length;refine⟨by simp[_3.startN,_2.start,l],λi d e=>?_⟩
 unfold _3.startN at e;unfold _2.start
 by_cases b:i<ds.length
 .rw[N3 (by simp_all),Mv,Mj b]at e
  have h:ds[i]=d:=by simpa using e
  obtain⟨v,j,c⟩:=r.get (by rw[Mj b,h])
  refine⟨v,?_,c⟩;rw[N3 (by simp;lia),Mv,j]
  rfl
 rw[MP (by simp_all),OI]at e
 simp_all
section
def drp(Q:DK)(d:D)(M':Mem):Prop:=∃M'',(∀b o,M'' b=cb o->M' b=cb o)/\Q d M''
def aB(EE:DX)(C:eH)(M':Mem):Prop:=∃M'',(∀b o,M'' b=cb o->M' b=cb o)/\EE C M''
theorem aq{d:D}(h:Q d M'):drp Q d M':=⟨M',by lia,h⟩
theorem cq(h:EE C M'):aB EE C M':=⟨M',by lia,h⟩
theorem Frm.less{M'':Mem}(f:Frm M H M' H')(s:∀b o,M'' b=cb o->M' b=cb o):Frm M H M'' H':=⟨λb u e n=>by
 obtain⟨c,h⟩:=f.keep b u e n;refine⟨c,?_⟩;cases q:M'' b<;>simp_all⟩
theorem Up.drp{QV:VK}(u:Up K M H Q QV):Up K M H (_3.drp Q) QV:=(by rintro d M' ⟨_,s,q⟩ v H' c f r;exact u d _ q v H' (λb o e=>c b o (s b o e)) (f.less s) r)
theorem UpX.drp(u:UpX K M H EE E):UpX K M H (aB EE) E:=(by rintro C M' ⟨_,s,q⟩ H' c f;exact u C _ q H' (λb o e=>c b o (s b o e)) (f.less s))
def aL(N:S_)(T:DX->az):Sd:=λb M Q EE=>T (aB EE) { nx:=λ_ M'=>drp Q .non M',rt:=drp Q } (startN N b) M
theorem fnD{k:Nat}{T:DX->az}(F:Fun K x SX st f fd)(S:FnScope N ps (bq st))(I:∀(c:cp)(A:kL)(b:List Env)(s:eC)(H:Hp)(E:XK)(B:Bd)(EE:DX),Room k (A.deeper<|PV SX (bq st) s.heap.objs.size f c)->yI K B EE E->
   yK (dY (sK P w) P w K mg base N SX (bq st) f c A b s H E) B (cC st) (T EE)):
  FnOk P w K mg base (sK P w) (k+1) f fd ps (bW K ps.length<|aL N T):=by
 obtain⟨O,R,kV,G,W,L,c,ct,z,rfl,lk,l⟩:=F.ex;refine Ln lk l S (λm H Q E h=>h.1) λA b s H m Q E o j=>?_;obtain⟨Y,J,M,QQ,EE,rh,r,y,u,ux⟩:=j;exact⟨_,I _ A _ s H E (Bd.of M H) _ o ux.drp,_,M,_,⟨Frm.refl,rh,.startN N r⟩,y,⟨λU M' q Z H' f v=>u.drp _ M' q _ H' v.rh f rfl,u.drp,λU M' q=>q.elim,λU M' q=>q.elim⟩⟩
theorem cg{k:Nat}{CX:pT}:FnOk P w K mg base CX k f fd ps (bW K n λ_ _ _ _=>False):=
 ⟨λj H Q E h=>(by obtain⟨_,_,_,_,_,_,_,h,_⟩:=h;exact h.elim),λA b s H c l j Q E _ _ _ _ h=>(by obtain⟨_,_,_,_,_,_,_,h,_⟩:=h;exact h.elim)⟩
theorem EM{l:cp}{A:kL}{b:List Env}{m:eC}{H0:Hp}:cj (sK P w) (dY (sK P w) P w K mg base N SX scope f l A b m H0 E) E:=by
 intro c Z H s e h I ⟨C,j⟩;exact l' (Lk _ Z H s e h (I.wish _) j) (λ_ _ z=>⟨C,z⟩) λ_ _ z=>⟨C,z⟩
theorem Ao:cj (sK P w) X E0:=(by rintro SW Z H s e s' I ⟨C,hx⟩;exact(by
 obtain⟨_,_,_,_,_,_,_,_,_,_,_,_,hE⟩:=hx;trivial))
end
def Sub(M1 M:Mem):Prop:=∀b o,M1 b=cb o->M b=cb o
def Dis(M1 M M':Mem):Prop:=∀b o,M b=cb o->M1 b=ed->M' b=ed
noncomputable def plus(M' M1 M:Mem):Mem:=λb=>match M' b with
 |some o=>cb o
 |none=>match M1 b with
  |some _=>ed
  |none=>M b
theorem nF:plus M' M M=M':=by
 funext b;simp[plus];lia
structure BxQ(EE:DX)(Q:DK):Type
structure calls(T:Sd)(EE:DX)(ds:List D)(M:Mem)(Q:DK)(_:BxQ EE Q):Prop where
 go:∃M1,Sub M1 M/\T ds M1 (λd M'=>Dis M1 M M'->Q d (plus M' M1 M)) (λC M'=>Dis M1 M M'->EE C (plus M' M1 M))
section
theorem RepH.sub(r:RepH K H M)(s:Sub M1 M):RepH K H M1:=λb o e=>r b o (s b o e)
theorem RepH.dis(r:RepH K H M)(f:Frm M1 H M' H'):Dis M1 M M':=λb o e n=>by
 obtain⟨u,q⟩:=(r b o e).obj;exact(f.keep b u q n).2
theorem RepH.plus(r:RepH K H M)(s:Sub M1 M)(h:RepH K H' M')(f:Frm M1 H M' H'):RepH K H' (plus M' M1 M):=λb o e=>by
 simp[_3.plus]at e
 split at e
 .rename_i j q;cases e;exact h b _ q
 split at e
 .cases e
 rename_i q n
 obtain⟨u,c⟩:=(r b o e).obj;exact(r b o e).keep (f.imm<|r.sub s) ((f.keep b u c n).1.trans c.symm)
theorem Frm.plus(s:Sub M1 M)(f:Frm M1 H M' H'):Frm M H (plus M' M1 M) H':=⟨λb u e n=>by
 have n1:M1 b=none:=by
  cases q:M1 b with
  |none=>rfl
  |some o=>rw[s b o q]at n;cases n
 obtain⟨h,c⟩:=f.keep b u e n1;exact⟨h,by simp[_3.plus,c,n1,n]⟩⟩
theorem dZ{ds:List D}{vs:List V}{QV:VK}{b:BxQ EE Q}(h:calls T EE ds M Q b)(rh:RepH K H M)(r:Rps K H ds vs)(j:vs.length=n)(u:Up K M H Q QV)(ux:UpX K M H EE E):bW K n T vs H QV E:=by
 obtain⟨M1,s,h⟩:=h.go;exact⟨j,ds,M1,_,_,rh.sub s,r,h,λd M' q v H' c f=>u d _ (q<|rh.dis f) v H' (rh.plus s c f) (f.plus s),λC M' q H' c f=>ux C _ (q<|rh.dis f) H' (rh.plus s c f) (f.plus s)⟩
theorem au{ds:List D}{b:BxQ EE Q}(c:∀Q' E',(∀d M,Q d M->Q' d M)->(∀C M,EE C M->E' C M)->T ds M Q' E'):calls T EE ds M Q b:=
 ⟨M,λ_ _ e=>e,c _ _ (λd M' q _=>by rw[nF];exact q) λC M' q _=>by rw[nF];exact q⟩
variable{CX:pT}{k:Nat}{m:Str}{o:hB}{ta:bi}{t:dX}
def ak(T:Sd)(EE:DX)(n:Nat)(t:dX):bi:=λU M Q=>t U M λb M1=>b.length=n/\calls T EE b M1 Q ⟨⟩
theorem SR.ux{U:Dl}{Z:_2.St}(s:SR X B U M Z H)(ux:yI X.K B EE E):UpX X.K M H EE E:=λC M' q H' a b=>ux C M' q H' a (B.go s.i0 b)
theorem qm(F:FnOk X.prog X.w X.K X.mg X.base CX k f fd ps (bW X.K n T))(y:Room k X.A)(z:Gl X x)(G:X.mg x=cb (.ref f))(q:NN X.K (.ref f)=true)(v:Binds X.K fd ps [])(I:cj CX X E)(ux:yI X.K B EE E)(J:DA X B (e::es) t)(c:(x==("__debug__":Str))=false:=by decide)(he:eT (e::es) X.env=(eP,h9 e X.env)::eT es X.env:=by rfl)(hpl:(lq pos<|starEach es X.env).any (·.1)=false:=by rfl):
  DE X B (.Call (.Name x p) (e::es) [] pos) (ak T EE n t):=by
 refine aO (E5 F y z G q v .nil I J c he hpl) ?_
 rintro Z H Q ⟨U,M,QQ,s,h,u⟩
 refine⟨U,M,_,s,h,λO M1 j L H1 b i1 l=>?_⟩;rw[Mq];exact dZ j.2 b l (by rw[<- l.length];exact j.1) (u.go i1) ((s.ux ux).go i1)
def iZ(C:eH)(m:Str)(T:Sd)(EE:DX)(n:Nat)(ta:bi)(t:dX):bi:=λU M Q=>ta U M λx M1=>match x with
 |.ref a=>match M1 a with
  |some (.ins C' fs)=>C'=C/\fs.lookup m=ed/\t U M1 λb M2=>b.length+1=n/\calls T EE (.ref a::b) M2 Q ⟨⟩
  |_=>False
 |_=>False
theorem Bw{pl:Sem Bool}(he:DE X B o ta)(c:Cls X.K C)(hm:Meth X.K C m f)(F:FnOk X.prog X.w X.K X.mg X.base CX k f fd ps (bW X.K n T))(hr:Room k X.A)(Y:Binds X.K fd ps [])(hx:cj CX X E)(ux:yI X.K B EE E)(ha:DA X B (e::es) t)(y:eT (e::es) X.env=(eP,h9 e X.env)::eT es X.env:=by rfl)(hpl:(lq pos<|starEach es X.env).any (·.1)=false:=by rfl)(ht:h9 (.Call (.Attribute o m S2) (e::es) [] pos) X.env=(do
   let ov <- h9 o X.env
   R6 S2.atName
   let (f,first) <- K' [ov] (Sf ov m pl)
   callWith pos f first (lq pos<|starEach (e::es) X.env) (Os pos<|keywordEach [] X.env)):=by rfl):
  DE X B (.Call (.Attribute o m S2) (e::es) [] pos) (iZ C m T EE n ta t):=by
 refine aO (El he c hm F hr Y .nil hx ha y hpl ht) ?_
 rintro Z H Q ⟨U,M,QQ,s,h,u⟩
 refine⟨U,M,_,s,h,λx M1 b v H1 j i1 O=>?_⟩
 split at b
 .rename_i a
  cases O
  split at b
  .rename_i C' fs S
   obtain⟨rfl,hl,b⟩:=b;obtain⟨R,G,W,L⟩:=j _ _ S;have q:G.lookup m=none:=by
    rcases L.lookup m with⟨_,z⟩|⟨d,v,z,_⟩
    .exact z
    simp_all
   refine⟨a,R,G,rfl,W,q,U,M1,_,s.go j i1,b,λds M2 J vs H2 l i2 I=>?_⟩;rw[Mq];exact dZ J.2 l (.cons rfl I) (by rw[Md,<- I.length];exact J.1) (u.go<|i1.trans i2) ((s.ux ux).go<|i1.trans i2)
  trivial
 trivial
def wB(C:eH)(T:Sd)(EE:DX)(n:Nat)(t:dX):bi:=λU M Q=>t U M λb M1=>b.length+1=n/\∀a,M1 a=ed->calls T EE (.ref a::b) (M1.upd a<|.ins C []) (λd M2=>match d with
 |.non=>Q (.ref a) M2
 |_=>False) ⟨⟩
theorem BH(Mk':Mk X.K C f)(F:FnOk X.prog X.w X.K X.mg X.base CX k f fd ps (bW X.K n T))(hr:Room (k+1) X.A)(hg:Gl X x)(hm:X.mg x=cb (.ref C))(hb:Binds X.K fd ps [])(hx:cj CX X E)(ux:yI X.K B EE E)(ha:DA X B (e::es) t)(hdb:(x==("__debug__":Str))=false:=by decide)(he:eT (e::es) X.env=(eP,h9 e X.env)::eT es X.env:=by rfl)(hpl:(lq pos<|starEach es X.env).any (·.1)=false:=by rfl):
  DE X B (.Call (.Name x p) (e::es) [] pos) (wB C T EE n t):=by
 refine aO (EA Mk' F hr hg hm hb .nil hx ha hdb he hpl) ?_
 rintro Z H Q ⟨U,M,QQ,s,h,u⟩
 refine⟨U,M,_,s,h,λds M1 h1 vs H1 rh1 i1 r1 a dx na ndx nex=>?_⟩;rw[Mq];have nx1:upd H1 dx (.own a) a=none:=by rw[aC (MJ nex)];exact na
 have f2:Frm M1 H1 (M1.upd a<|.ins C []) (upd (upd H1 dx<|.own a) a<|.ins C dx []):=(Frm.new ndx).trans (Frm.put<|.inl nx1);refine dZ (h1.2 a<|rh1.fresh na) ((rh1.new ndx).put (by rw[nx1];trivial) ⟨dx,[],upd_same,.nil⟩) (.cons rfl<|(r1.mono<|Imm.new ndx).mono<|Imm.new nx1) (by rw[Md,<- r1.length];exact h1.1) (λd M2 h2 v H2 rh f r=>?_) ((s.ux ux).go<|i1.trans f2)
 cases d with
 |non=>exact⟨r,u _ M2 h2 _ H2 rh ((i1.trans f2).trans f) rfl⟩
 |_=>exact(show False from h2).elim
end
section
variable{o:hB}{to:bi}{t:dX}{name:Str}{S1:Pos}{Ty id:String}
noncomputable abbrev vx:=D->List D->Mem->DK->Prop
inductive liftM(X:Cx)(r:vx)(x:V)(xs:List V)(H:Hp)(Q:VK):Prop
 |mk (d:D) (ds:List D) (M:Mem) (QQ:DK) (rh:RepH X.K H M) (rx:Rp X.K H d x) (rs:Rps X.K H ds xs) (h:r d ds M QQ) (u:Up X.K M H QQ Q):liftM X r x xs H Q
def fH(Ty:String)(r:vx)(to:bi)(t:dX):bi:=λU M Q=>to U M λx M1=>bV M1 x=cb Ty/\t U M1 λb M2=>r x b M2 Q
theorem Bg{d:D}{v:V}(l:RepH K H M)(r:Rp K H d v)(e:bV M d=cb Ty)(h:Ty="list"\/Ty="str"\/Ty="int"\/Ty="dict"):tyV K Ty v H:=by
 cases d with
 |non=>cases e;trivial
 |bl b=>cases e;trivial
 |int i=>cases r;cases e;rfl
 |str x=>cases r;cases e;rfl
 |tup xs=>cases e;trivial
 |lst xs=>
  cases e;obtain⟨p,s,rfl,u,r⟩:=r;exact .inl ⟨rfl,s,u.sq⟩
 |ref a=>
  cases r;simp[bV]at e
  split at e
  .rename_i q;cases e;obtain⟨j,c,m⟩:=l _ _ q;exact .inl ⟨rfl,j,SqL.of c⟩
  .rename_i q;cases e;obtain⟨j,c,m⟩:=l _ _ q;exact .inr (.inr<|.inl<|by simp_all)
  .rename_i q;cases e;obtain⟨j,c,m⟩:=l _ _ q;exact .inr (.inr<|.inl<|by simp_all)
  cases e
 |_=>cases e
theorem JB(I:Ty="list"\/Ty="str"\/Ty="int"\/Ty="dict")(O:P_ Ty)(j:Slot Ty name id)(m:RY (.builtin id)=pure (.type "method_descriptor"))(J:um X id (liftM X r))(G:DE X B o to)(L:DA X B (e::es) t)(c:mu o name X.env (h9 o X.env)=h9 o X.env:=by rfl)(hfew:((lq S1<|starEach (e::es) X.env).all (λx=>!x.1)&&(Os S1<|keywordEach [] X.env).all (λx=>x.1.isSome)
   && decide ((e::es).length+([]:List B').length+(if ([]:List B').isEmpty then 0 else 1)<30))=true:=by rfl)(hline:(S2.endLine==S1.line)=true:=by rfl)(hs:eT (e::es) X.env=(eP,h9 e X.env)::eT es X.env:=by rfl)(hplain:(lq S1<|starEach es X.env).any (·.1)=false:=by rfl):
  DE X B (.Call (.Attribute o name S2) (e::es) [] S1) (fH Ty r to t):=by
 refine aO (KB O j m J G L c hfew hline hs hplain) ?_
 rintro Z H Q ⟨U,M,QQ,s,h,u⟩
 exact⟨U,M,_,s,h,λx M1 q v H1 b i1 y=>⟨Bg b y q.1 I,U,M1,_,s.go b i1,q.2,λF M2 z R H2 l i2 A=>⟨x,F,M2,QQ,l,y.mf b i2,A,z,u.go<|i1.trans i2⟩⟩⟩
theorem IS(z:Ty="list"\/Ty="str"\/Ty="int"\/Ty="dict")(F:P_ Ty)(j:Slot Ty name id)(l:RY (.builtin id)=pure (.type "method_descriptor"))(A:um X id (liftM X r))(y:DE X B o to)(b:mu o name X.env (h9 o X.env)=h9 o X.env:=by rfl)(hline:(S2.endLine==S1.line)=true:=by rfl):DE X B (.Call (.Attribute o name S2) [] [] S1) (fH Ty r to ae):=by
 refine aO (Ja F j l A y b hline) ?_
 rintro Z H Q ⟨U,M,QQ,s,h,u⟩
 exact⟨U,M,_,s,h,λx M1 m v H1 c i1 q=>⟨Bg c q m.1 z,⟨x,[],M1,QQ,c,q,.nil,m.2,u.go i1⟩⟩⟩
def bt:vx:=λx b M Q=>match x,b with
 |.ref a,[y]=>match M a with
  |some (.lst xs)=>xs.length<sizeLine/\Q .non (M.upd a<|.lst (xs++[y]))
  |_=>False
 |_,_=>False
theorem uF:um X "list.append" (liftM X bt):=by
 rintro SW s Z H x vs v us Q I rx rv ⟨d,ds,M,QQ,rh,r,rs,h,up⟩
 unfold bt at h
 split at h
 .rename_i a y
  cases r;obtain⟨w,rfl,rw'⟩:=eU (ds:=[]) rs
  split at h
  .rename_i xs hM
   obtain⟨ws,h1,h2⟩:=rh _ _ hM;exact y8 _ s Z H _ _ v us Q I rx rv ⟨a,ws,w,rfl,rfl,h1,by rw[<- h2.length];exact h.1,up _ _ h.2 _ _ (rh.put (by rw[h1];trivial) ⟨_,upd_same,(h2.append<|by trivial).mono<|Imm.upd<|by rw[h1];trivial⟩) (Frm.put<|.inr ⟨_,hM⟩) rfl⟩
  trivial
 trivial
def zJ:V->List V->Hp->VK->Prop:=λx c H Q=>∃l b xs zs,x=.ref l/\c=[.ref b]/\H l=cb (.lst xs)/\Rd H b (.lst zs)/\xs.length+zs.length<=sizeLine/\Q .non (upd H l<|.lst (xs++zs))
theorem tY:MtM X "list.extend" zJ:=by
 rintro y s Z H x Y v us Q I S O ⟨l,b,xs,zs,rfl,rfl,A,L,hz,q⟩
 cases S;obtain⟨u,rfl,J⟩:=O.one;cases J;obtain⟨z,h,n,r,hl,e⟩:=I.lstM A;obtain⟨z2,c,n2,G,R⟩:=L.ok I.hok;have W:=G.length;have m:h.toArray.size+c.toArray.size<=sizeLine:=by simp_all
 have j:¬(!h.toArray.isEmpty&&Pj (h.toArray.size+c.toArray.size))=true:=by
  rw[z0 m,Ou];trivial
 refine pb Qx ⟨_,e,rfl⟩ F.entry_list_extend (F.args_list_extend_2 _ _)
  (AutoSeq1.list_extend_list_list_0 l _ n b _ n2 j (by lia)<|by lia) ⟨e,R,?_⟩
 refine⟨.non,_,I.lset A e (by simp) (r.append G) ?_,rfl,q⟩
 rw[Mg];lia
def cB:vx:=λx b M Q=>match x,b with
 |.ref a,[y]=>match M a,dg M y with
  |some (.lst xs),cb ys=>xs.length+ys.length<=sizeLine/\Q .non (M.upd a<|.lst (xs++ys))
  |_,_=>False
 |_,_=>False
theorem ub:um X "list.extend" (liftM X cB):=by
 rintro SW s Z H x vs v us Q I rx rv ⟨d,ds,M,QQ,rh,r,rs,h,up⟩
 unfold cB at h
 split at h
 .rename_i a y
  cases r;obtain⟨w,rfl,rw'⟩:=eU (ds:=[]) rs
  split at h
  .rename_i xs ys hM hy
   obtain⟨ws,h1,h2⟩:=rh _ _ hM;obtain⟨p,zs,rfl,hq,r2⟩:=eh rh rw' hy;have l1:=h2.length;have l2:=r2.length;exact tY _ s Z H _ _ v us Q I rx rv ⟨a,p,ws,zs,rfl,rfl,h1,hq,by lia,up _ _ h.2 _ _ (rh.put (by rw[h1];trivial) ⟨_,upd_same,(h2.append r2).mono<|Imm.upd<|by rw[h1];trivial⟩) (Frm.put<|.inr ⟨_,hM⟩) rfl⟩
  trivial
 trivial
def Be:vx:=λx b M Q=>match x,b with
 |.ref a,[]=>match M a with
  |some (.lst xs)=>match xs[xs.length-1]? with
   |some y=>Q y (M.upd a<|.lst xs.dropLast)
   |none=>False
  |_=>False
 |.ref a,[.int i]=>match M a with
  |some (.lst xs)=>match wJ xs.length i with
   |some k=>match xs[k]? with
    |some y=>Q y (M.upd a<|.lst<|xs.eraseIdx k)
    |none=>False
   |none=>False
  |_=>False
 |_,_=>False
theorem vi:um X "list.pop" (liftM X Be):=by
 rintro SW s Z H x vs v us Q I rx rv ⟨d,ds,M,QQ,rh,r,rs,h,up⟩
 unfold Be at h
 split at h
 .rename_i a
  cases r;cases rs
  split at h
  .rename_i xs hM
   split at h
   .rename_i y ey
    obtain⟨ws,h1,h2⟩:=rh _ _ hM;obtain⟨w,hw,rw'⟩:=h2.get ey;have im:Imm H (upd H a<|.lst ws.dropLast):=Imm.upd (by rw[h1];trivial)
    exact Gn _ s Z H _ _ v us Q I rx rv ⟨a,ws,w,rfl,rfl,h1,by rw[<- h2.length];exact hw,up _ _ h _ _ (rh.put (by rw[h1];trivial) ⟨_,upd_same,h2.dropLast.mono im⟩) (Frm.put<|.inr ⟨_,hM⟩)<|rw'.mono im⟩
   trivial
  trivial
 .rename_i a i
  cases r;obtain⟨w0,rfl,rw0⟩:=eU (ds:=[]) rs;cases rw0
  split at h
  .rename_i xs hM
   split at h
   .rename_i k ek
    split at h
    .rename_i y ey
     obtain⟨ws,h1,h2⟩:=rh _ _ hM;obtain⟨w,hw,rw'⟩:=h2.get ey;obtain⟨j1,j2,j3,j4⟩:=oQ ek;have hz:=(I.lstM h1).1;have hs:sizeLine=16777216:=rfl;have hl:=h2.length;have im:Imm H (upd H a<|.lst<|ws.eraseIdx k):=Imm.upd (by rw[h1];trivial)
     exact Aq _ s Z H _ _ v us Q I rx rv ⟨a,ws,i,k,w,rfl,rfl,h1,by lia,by lia,by rw[<- hl];exact j1,hw,up _ _ h _ _ (rh.put (by rw[h1];trivial) ⟨_,upd_same,(h2.eraseIdx k).mono im⟩) (Frm.put<|.inr ⟨_,hM⟩)<|rw'.mono im⟩
    trivial
   trivial
  trivial
 trivial
def fZ:List D->Option (List Str)
 |[]=>cb []
 |.str x::ds=>match fZ ds with
  |some xs=>cb (x::xs)
  |none=>ed
 |_=>ed
theorem kK:∀{ds:List D}{vs:List V}{xs:S_},Rps K H ds vs->fZ ds=cb xs->vs=xs.map V.str
 |[],vs,xs,r,e=>by cases e;exact r
 |d::ds,vs,xs,r,e=>by
  obtain⟨v,l,rfl,a,b⟩:=r;cases d with
  |str c=>
   simp[fZ]at e
   split at e
   .rename_i h j
    cases e;cases a;rw[kK b j];rfl
   cases e
  |_=>cases e
def ug:vx:=λx b M Q=>match x,b with
 |.tup xs,[.str z]=>match fZ xs with
  |some SS=>SS.length<=1000/\match SS.findIdx? (λy=>decide (y=z)) with
   |some j=>Q (.int (j:Nat)) M
   |none=>False
  |none=>False
 |_,_=>False
theorem tR:um X "tuple.index" (liftM X ug):=by
 rintro l s Z H x Y v G Q I L J ⟨d,ds,M,QQ,W,r,y,h,O⟩
 unfold ug at h
 split at h
 .rename_i xs z
  obtain⟨p,ws,rfl,u,r⟩:=r;obtain⟨w,rfl,c⟩:=eU (ds:=[]) y;cases c
  split at h
  .rename_i b F
   obtain⟨R,h⟩:=h
   split at h
   .rename_i j q
    have:=kK r F;subst this;rw[NA]at q;obtain⟨hj,e1,A⟩:=q;refine xR _ s Z H _ _ v G Q I L J ⟨p,_,z,j,rfl,rfl,u,R,?_,λm S=>?_,O _ M h _ H W Frm.refl rfl⟩
    .simp_all
    rw[Mj _];simpa using (A m S)
   trivial
  trivial
 trivial
def dTM(r:vx)(to:bi)(t:dX):bi:=λU M Q=>to U M λx M1=>match x with
 |.tup xs=>t U M1 λb M2=>r (.tup xs) b M2 Q
 |_=>False
theorem LG(j:Slot "tuple" name id)(q:RY (.builtin id)=pure (.type "method_descriptor"))(O:um X id (liftM X r))(L:DE X B o to)(R:DA X B (e::es) t)(b:mu o name X.env (h9 o X.env)=h9 o X.env:=by rfl)(hfew:((lq S1<|starEach (e::es) X.env).all (λx=>!x.1)&&(Os S1<|keywordEach [] X.env).all (λx=>x.1.isSome)
   && decide ((e::es).length+([]:List B').length+(if ([]:List B').isEmpty then 0 else 1)<30))=true:=by rfl)(hline:(S2.endLine==S1.line)=true:=by rfl)(hs:eT (e::es) X.env=(eP,h9 e X.env)::eT es X.env:=by rfl)(hplain:(lq S1<|starEach es X.env).any (·.1)=false:=by rfl):
  DE X B (.Call (.Attribute o name S2) (e::es) [] S1) (dTM r to t):=by
 refine aO (Lv j q O L R b hfew hline hs hplain) ?_
 rintro Z H Q ⟨U,M,QQ,s,h,u⟩
 refine⟨U,M,_,s,h,λx M1 z v H1 c i1 A=>?_⟩;cases x with
 |tup xs=>
  have l:=A;obtain⟨p,y,rfl,G,S⟩:=l;exact⟨⟨p,y,rfl,G⟩,U,M1,_,s.go c i1,z,λJ M2 F y H2 m i2 I=>⟨_,J,M2,QQ,m,A.mf c i2,I,F,u.go<|i1.trans i2⟩⟩
 |_=>exact z.elim
noncomputable def EY(ks:List bh)(ys:List D):List (bh×D):=(ks.zip ys).foldl (λa p=>eN a p.1 p.2) []
theorem sJ:∀{ks:List bh}{ds:List D}{vs:List V}{a:List (bh×D)}{b:List (bh×V)},Rps K H ds vs->Rkv K H a b->
  Rkv K H ((ks.zip ds).foldl (λa p=>eN a p.1 p.2) a) ((ks.zip vs).foldl (λa p=>di a p.1 p.2) b)
 |[],_,_,_,_,_,r=>r
 |_::_,[],_,_,_,h,r=>by cases h;exact r
 |k::ks,d::ds,_,_,_,h,r=>by
  obtain⟨v,vs,rfl,a,b⟩:=h;exact sJ (ks:=ks) b (r.put k a)
def sD(t:dX):bi:=λU M Q=>t U M λb M1=>match b with
 |[.tup xs,.tup ys]=>match eA xs with
  |some ks=>ks.length=ys.length/\0<ks.length/\ks.length<=1000/\∀p,M1 p=ed->Q (.ref p) (M1.upd p<|.dK<|EY ks ys)
  |none=>False
 |_=>False
theorem tj{b:hB}{p2 pos2:Pos}(hc:X.calm=true)(hg:Gl X "zip")(hm:X.mg "zip"=ed)(hg2:Gl X "dict")(hm2:X.mg "dict"=ed)(ha:DA X B [a,b] ta)(hs:eT [a,b] X.env=[(eP,h9 a X.env),(eP,h9 b X.env)]:=by rfl)(hs2:eT [b] X.env=[(eP,h9 b X.env)]:=by rfl)(hs3:eT [Qp (.Name "zip" p2) [a,b] [] pos2] X.env=[(eP,h9 (.Call (.Name "zip" p2) [a,b] [] pos2) X.env)]:=by rfl):
  DE X B (.Call (.Name "dict" p) [.Call (.Name "zip" p2) [a,b] [] pos2] [] pos) (sD ta):=by
 refine aO (ue eP eP hc hg hm hg2 hm2 ha hs hs2 hs3) ?_
 rintro Z H Q ⟨U,M,QQ,s,h,u⟩
 refine⟨U,M,_,s,h,λds M1 h1 vs H1 rh1 i1 r1=>?_⟩
 split at h1
 .obtain⟨v,w,rfl,rv,rw'⟩:=Ip r1
  obtain⟨l1,us,rfl,t1,ru⟩:=rv;obtain⟨l2,ws,rfl,t2,rw2⟩:=rw'
  split at h1
  .rename_i ks ek
   obtain⟨e1,e2,e3,h1⟩:=h1;have hk:=mz ru ek;subst hk;exact⟨l1,l2,ks,ws,rfl,t1.sq,t2.sq,by rw[<- rw2.length];exact e1,e2,e3,λd hd=>u _ _ (h1 d<|rh1.fresh hd) _ _ (rh1.put (by rw[hd];trivial) ⟨_,upd_same,(sJ rw2 .nil).mono<|Imm.new hd⟩) (i1.trans<|Frm.put<|.inl hd) rfl⟩
  trivial
 trivial
end
section
variable{cd:cp}{A:kL}{outer:List Env}{s0:eC}{H0:Hp}
theorem CU{t:TS}{E':Te}(h:PS X st t)(k:∀e s,X.xe e s->E' e s):PS (X.wish E') st t:=λc s Z H D I q=>
 l' (h _ s Z H D I.unwish q) (λf j z=>by
  cases f with
  |ret u=>obtain⟨v,b,H',I,r,q⟩:=z;exact⟨v,_,H',I.wish _,r,q⟩
  |_=>obtain⟨b,H',I,q⟩:=z;exact⟨_,H',I.wish _,q⟩) k
def eF(C:eH)(EE:DX):az:=λ_ _ M=>EE C M
theorem zk{b:Str}{c S1:Pos}{jj}(X:ExcAt K C)(o:mg x=cb (.ref C))(ux:yI K B EE E)(m:Gl (dY (sK P w) P w K mg base N SX scope f cd A outer s0 H0 E) x)(l:(x==("__debug__":Str))=false:=by decide)(hs:eT [.Constant (.str b) jj S2] (dY (sK P w) P w K mg base N SX scope f cd A outer s0 H0 E).env=[(eP,h9 (.Constant (.str b) jj S2) (dY (sK P w) P w K mg base N SX scope f cd A outer s0 H0 E).env)]:=by rfl):
  DS (dY (sK P w) P w K mg base N SX scope f cd A outer s0 H0 E) B (.Raise (cb<|.Call (.Name x c) [.Constant (.str b) jj S2] [] S1) ed pos) (eF C EE):=by
 have j:PS (dY (sK P w) P w K mg base N _ _ f cd A outer s0 H0 E) (.Raise (cb<|.Call (.Name x c) _ [] S1) _ pos) _:=
  CU (AS X o m l hs) λe s h=>l' h (λ_ _ z=>⟨C,z⟩) λ_ _ z=>⟨C,z⟩
 refine ce j ?_
 rintro D Z H ⟨U,M,DD,s,h,q⟩
 exact ux C M h H s.rh s.i0
end
section
def Jm(C:eH)(T:Sd)(n:Nat)(ta:dX)(ts:az):az:=λD U M=>ta U M λb M1=>b.length=n/\calls T (λC' M2=>C'=C/\ts D U M2) b M1 (λ_ M2=>D.nx U M2) ⟨⟩
theorem SR.mark{e:cp}(s:SR X B U M Z H):SR (X.marked e) B U M Z H:=⟨s.i0,s.rh,s.rs⟩
theorem SR.unmark{e:cp}(s:SR (X.marked e) B U M Z H):SR X B U M Z H:=⟨s.i0,s.rh,s.rs⟩
theorem UpD.mark{DD:DEnds}{D:Ends}{e:cp}(u:UpD X B M H DD D):UpD (X.marked e) B M H DD D:=
 ⟨λU M q Z H' f s=>u.nx U M q Z H' f s.unmark,u.rt,λU M q Z H' f s=>u.bk U M q Z H' f s.unmark,λU M q Z H' f s=>u.ct U M q Z H' f s.unmark⟩
theorem CN{k:Nat}{sp:Sp}(F:FnOk P w K mg base (sK P w) k f fd ps sp):
  FnOk P w K mg base (yM P w C) k f fd ps (λvs H Q E=>sp vs H Q λCv a H'=>Cv=.ref C/\E Cv a H'):=
 ⟨λvs H Q E=>F.len _ _ _ _,λA b s H j l vs Q E q I W L Y=>qz (F.run A _ s H _ l vs Q _ q I W L Y) λr s' h=>by
  cases r with
  |ok fl=>cases fl<;>exact h
  |error e=>
   obtain⟨C',S,H',B,y,z,J,m,O,v,e6,u,R,o,c⟩:=h;have G:C'=C:=by injection o
   subst G;exact⟨S,H',B,y,z,J,m,O,v,e6,u,R,c⟩⟩
theorem uR{k:Nat}{q:Str}{O ep np o:Pos}{c:py}{b:Td}{I:az}(G:X.stack=X.env::X.outer)(J:X.env.frame=cb X.env.locals)(F:FnOk X.prog X.w X.K X.mg X.base (sK X.prog X.w) k f fd ps (bW X.K n T))(hr:Room k X.A)(hg:Gl X x)(hm:X.mg x=cb (.ref f))(hk:NN X.K (.ref f)=true)(hb:Binds X.K fd ps [])(ha:DA X.nox B (e::es) ta)(EX:ExcAt X.K C)(L:Gl X q)(R:X.mg q=cb (.ref C))(S:∀y:eH,yK (X.marked<|.ref y) B (c::b) I)(W:(x==("__debug__":Str))=false:=by decide)(hdC:(q==("__debug__":Str))=false:=by decide)(he:eT (e::es) X.env=(eP,h9 e X.env)::eT es X.env:=by rfl)(hpl:(lq O<|starEach es X.env).any (·.1)=false:=by rfl)(hsw:pv (.Call (.Name x p) (e::es) [] O) ed ep.line X.env=pure false:=by rfl):
  DS X B (.Try [.Expr (.Call (.Name x p) (e::es) [] O) ep] [.ExceptHandler (cb<|.Name q np) ed (c::b) o] [] [] pos) (Jm C T n ta I):=by
 have l:∀y:eH,wD _ _ (liftS X B I):=λy=>ms (S y) (by rintro D Z H ⟨U,M,DD,s,h,u⟩;exact⟨U,M,DD,s.mark,h,u.mark⟩)
 refine ce (t8 G J (CN F) hr hg hm hk hb .nil ha EX L R l W hdC he hpl hsw) ?_
 rintro D Z H ⟨U,M,DD,s,h,up⟩
 refine⟨U,M,_,⟨s.i0,s.rh,s.rs⟩,h,λds M1 Y vs H1 z i1 r1=>?_⟩
 try dsimp only
 rw[Mq];refine dZ Y.2 z r1 (by rw[<- r1.length];exact Y.1) (λd M2 m v H2 j i2 r2=>?_) λC' M2 m H2 j i2=>?_
 .exact up.nx _ _ m Z H2 (i1.trans i2) (s.go j<|i1.trans i2)
 obtain⟨rfl,m⟩:=m;exact⟨rfl,U,M2,DD,s.go j (i1.trans i2),m,up.go<|i1.trans i2⟩
end
end _3
namespace _2
open PySem PySem.Spec PyProof.Rows
theorem fc{scope:L'}{env:Env}{x:Str}{k:Sq}(h:(Ps scope env).names.lookup x=cb k):∃c,(x,c)∈scope.names/\(k=c\/(c=.free/\k=.cell)):=by
 obtain⟨⟨n,b⟩,f,e⟩:=Nd.mp (Nu h)
 by_cases g:(b==NameKind.free&&env.scope.kind==.function&&env.kindOf n==cb .cell)=true
 .have a:(n,NameKind.cell)=(x,k):=by rw[<- e];show _=(if _ then _ else _);rw[if_pos g]
  cases a;exact⟨b,f,by lia⟩
 have a:(n,b)=(x,k):=by rw[<- e];show _=(if _ then _ else _);rw[if_neg g]
 cases a;exact⟨_,f,.inl rfl⟩
theorem iW{x:Str}:∀{fs:S_}{a:Tb},fs.length=a.length->x∈fs->∃c,(fs.zip a).lookup x=cb c
 |[],_,_,h=>by cases h
 |_::_,[],h,_=>by simp at h
 |y::fs,c::a,hl,h=>by
  rw[QX,Px];cases e:x==y with
  |true=>simp_all
  |false=>
   rcases Mm.mp h with z|z
   .simp_all
   exact iW (by simp_all) z
theorem Dw{X:Cx}{a:L'}{ls fs:S_}{g:Tb}{l:List Nat}(n:a.kind=.function)(e:∀y∈a.names,y.2≠.cell/\(y.2=.free->y.1∈fs))(o:∀x∈a.names,x.2=.local->a.names.lookup x.1=cb .local)
  (f:fs.length=g.length) (j:R0 a X.env=pure (fs.zip g)) (q:∀p∈fs.zip g,X.env.cells.lookup p.1=cb p.2) (r:Frees X a fs l):CompOk X a (fs.zip g) ls fs l where
 kind:=n
 nocell:=λy i=>(e y i).1
 locs:=o
 clos:=j
 cells:=λy d h=>q (y,d) (Nu h)
 has:=λy h=>by
  have i:y∈fs:=by
   rcases h with h|h
   .obtain⟨m,c,b|⟨b,_⟩⟩:=fc h
    .exact absurd b.symm (e _ c).1
    .exact(e _ c).2 b
   .obtain⟨m,c,b|⟨b,_⟩⟩:=fc h
    .exact(e _ c).2 b.symm
    .exact(e _ c).2 b
  exact iW f i
 frees:=r
theorem memZ{a:Type}{C:a->Prop}:∀p∈([]:List a),C p:=λ_ h=>by cases h
theorem memC{b:Type}{C:b->Prop}{a:b}{l:List b}(e:C a)(f:∀p∈l,C p):∀p∈a::l,C p:=λp c=>by
 rcases Mm.mp c with rfl|z
 .exact e
 simp_all
end _2
namespace _3
open PySem _2
variable{K:Mi}
section
variable{X:Cx}{B:Bd}{pos:Pos}
theorem dnm(i:Nat){x:Str}{pos:Pos}(a:X.N[i]?=cb x:=by rfl)(hv:Jo X.env.scope x:=by first|exact Or.inl rfl|exact Or.inr (Or.inl rfl)|exact Or.inr (Or.inr rfl))(hd:(x==("__debug__":Str))=false:=by decide)(hcd:(x==("__classdict__":Str))=false:=by decide):DE X B (.Name x pos) (ac i):=HL a hv hd hcd
noncomputable def md:DX:=λ_ _=>False
theorem uxN{E:XK}:yI K B md E:=λ_ _ z=>z.elim
theorem lR:g3 "list"=cb (.type "list"):=by rfl
theorem nU:g3 "tuple"=cb (.type "tuple"):=by rfl
theorem D5:g3 "all"=cb (.builtin "all"):=by rfl
theorem kZ:g3 "isinstance"=cb (.builtin "isinstance"):=by rfl
theorem z6:g3 "bool"=cb (.type "bool"):=by rfl
theorem Cs:g3 "int"=cb (.type "int"):=by rfl
theorem C0:g3 "str"=cb (.type "str"):=by rfl
theorem AE:g3 "dict"=cb (.type "dict"):=by rfl
theorem Ed:g3 "min"=cb (.builtin "min"):=by rfl
theorem vQ:g3 "len"=cb (.builtin "len"):=by rfl
theorem Lj{x:Str}{T:String}(e:Gl X x)(a:X.mg x=ed)(b:g3 x=cb (.type T))(c:x≠"__name__":=by decide)(hd:(x==("__debug__":Str))=false:=by decide):DE X B (.Name x pos) (dC<|.ty T):=
 xK (BA (v:=.ty T) e a b rfl c hd) λ_=>rfl
def Hx(t:bi):bi:=λU M Q=>t U M λx M1=>match x with
 |.int i=>Q (.int (-i)) M1
 |_=>False
theorem H_{a:hB}{b:bi}(e:DE X B a b):DE X B (.UnaryOp .USub a pos) (Hx b):=by
 refine aO (Kn HS e) ?_
 rintro Z H Q ⟨U,M,QQ,s,h,u⟩
 refine⟨U,M,_,s,h,λd M' q v H' c i r=>?_⟩;cases d with
 |int j=>exact⟨j,r,u _ M' q _ H' c i rfl⟩
 |_=>exact q.elim
theorem B0{a b c:hB}{A q p:bi}{n e:Sr}{r v:dQ}(L:b_ X (g5 n) (liftR2 X r))(m:b_ X (g5 e) (liftR2 X v))(P:DE X B a A)(N:DE X B b q)(R:DE X B c p)(O:RT [n,e] [b,c]=false:=by with_unfolding_all rfl):
  DE X B (.Compare a [n,e] [b,c] pos) (dB r v A q p):=by
 refine aO (yP L m P N R O) ?_
 rintro Z H Q ⟨U,M,QQ,s,h,u⟩
 refine⟨U,M,_,s,h,λx M1 G v1 H1 g i1 C=>?_⟩;refine⟨U,M1,_,s.go g i1,G,λy M2 F v2 H2 i i2 o=>?_⟩;refine⟨x,y,M2,_,i,C.mf g i2,o,F,λz M3 j v3 H3 f i3 E=>?_⟩;cases z with
 |bl k=>
  cases E;cases k with
  |true=>
   exact⟨_,rfl,⟨U,M3,_,s.go f ((i1.trans i2).trans i3),j,λw M4 J v4 H4 l i4 I=>⟨y,w,M4,QQ,l,(o.mf i<|i3.trans i4),I,J,u.go<|((i1.trans i2).trans i3).trans i4⟩⟩⟩
  |false=>
   exact⟨_,rfl,u _ M3 j _ H3 f ((i1.trans i2).trans i3) rfl⟩
 |_=>exact j.elim
def frzs:List D->Mem->(List D->Mem->Prop)->Prop
 |[],M,Q=>Q [] M
 |d::ds,M,Q=>match d with
  |.ref a=>match M a with
   |some (.lst xs)=>frzs ds (M.del a) λb M'=>Q (.lst xs::b) M'
   |_=>frzs ds M λb M'=>Q (d::b) M'
  |_=>frzs ds M λb M'=>Q (d::b) M'
theorem hZ{SW:Tf}{Z:_2.St}{s:eC}:∀{ds:List D}{vs:List V}{M:Mem}{H:Hp}{Q:List D->Mem->Prop},Inv X SW Z H s->RepH X.K H M->Rps X.K H ds vs->frzs ds M Q->
  ∃H' es M',Inv X SW Z H' s/\RepH X.K H' M'/\Frm M H M' H'/\Rps X.K H' es vs/\Q es M'
 |[],vs,M,H,Q,I,rh,r,h=>⟨H,[],M,I,rh,Frm.refl,r,h⟩
 |d::ds,vs,M,H,Q,I,rh,r,h=>by
  obtain⟨v,vs',rfl,a,b⟩:=r;unfold frzs at h
  split at h
  .rename_i a'
   cases a
   split at h
   .rename_i xs e
    obtain⟨ws,h1,h2⟩:=rh _ _ e;obtain⟨o,I2⟩:=Inv.freeze I h1;have im:Imm H (upd H a'<|.frz o<|.lst ws):=Imm.upd (by rw[h1];trivial)
    obtain⟨H',es,M',I',rh',f,r',q⟩:=hZ I2 (rh.freeze h1) (b.mono im) h;refine⟨H',_,M',I',rh',(Frm.del ⟨_,e⟩).trans f,.cons ?_ r',q⟩;have z:Rp _ _ (.lst xs) _:=⟨a',ws,rfl,⟨o,upd_same⟩,h2.mono im⟩;exact z.mf (rh.freeze h1) f
   obtain⟨H',es,M',I',rh',f,r',q⟩:=hZ I rh b h;exact⟨H',_,M',I',rh',f,.cons (d:=.ref a') rfl r',q⟩
  obtain⟨H',es,M',I',rh',f,r',q⟩:=hZ I rh b h;exact⟨H',_,M',I',rh',f,.cons (a.mf rh f) r',q⟩
def uV(d:D)(M:Mem)(Q:DK):Prop:=match d with
 |.tup ds=>frzs ds M λa M'=>Q (.tup a) M'
 |d=>Q d M
def iM(t:bi):bi:=λU M Q=>t U M λd M'=>uV d M' Q
theorem CZ{e:hB}{te:bi}(h:DE X B e te):DE X B e (iM te):=by
 rintro f s Z H Q I ⟨U,M,QQ,m,l,u⟩
 refine bz (h _ s Z H (λv H'=>∃d M',RepH _ H' M'/\Frm M H M' H'/\Rp _ H' d v/\uV d M' QQ) I ⟨U,M,_,m,l,λd M' q v H' a i r=>⟨d,M',a,i,r,q⟩⟩) ?_
 rintro w z ⟨v,H',I',c,d,M',a,i,r,q⟩
 unfold uV at q
 split at q
 .obtain⟨p,o,rfl,n,r⟩:=r
  obtain⟨H2,y,M2,I2,b,g,x,j⟩:=hZ I' a r q;exact⟨_,H2,I2,c,u _ _ j _ H2 b (i.trans g) ⟨p,o,rfl,n.mono (g.imm a),x⟩⟩
 exact⟨v,H',I',c,u _ _ q v H' a i r⟩
theorem HR{P:g4}{w:kB}{g:Tg}{a:ka}{k n:Nat}{f:eH}{fd:k6}{ps:S_}{T:Sd}(F:FnOk P w K g a (sK P w) k f fd ps (bW K n T)):
  FnOk P w K g a CX0 k f fd ps (λvs H Q _=>bW K n T vs H Q E0):=
 ⟨λvs H Q E h=>F.len _ _ _ _ h,λA b s H c i vs Q E l m p o q=>qz (F.run A b s H c i vs Q E0 l m p o q) λr x h=>by
  cases r with
  |ok fl=>cases fl<;>exact h
  |error e=>
   obtain⟨C',L,H',B,z,C,G,u,I,y,M,v,J,j⟩:=h;exact(show False from j).elim⟩
theorem CM{T:Sd}{H:Hp}{a:eH}{c:S9}{Q:VK}(g:yU H)(i:SqL K H a (c.map V.int))(h:T [.ml (c.map D.int)] (λ_=>ed) (λd _=>d=.bl true) md)(k:∀H',Q (.bl true) H'):bW K 1 T [.ref a] H Q E0:=by
 refine⟨rfl,[.ml _],_,_,_,λb o e=>(by cases e),.cons ⟨a,_,rfl,?_,sI rfl⟩ .nil,h,λd M' q v H' j f r=>?_,λ_ _ z=>z.elim⟩
 .rcases i with (z|z)|z
  .rcases g a with e|⟨o,xs,e⟩
   .simp_all
   simp_all
  .exact .inl z
  exact .inr z
 subst q;cases r;exact k H'
end
theorem j5{h h':ka}{N:eH}(X:K.In h)(X':K.In h')(e:W.nsOkIn K N=true):h'.nsMap N=h.nsMap N:=by
 unfold W.nsOkIn at e
 split at e
 .rename_i a
  unfold Heap.nsMap;rw[X _ _ a,X' _ _ a]
 cases e
theorem gk{h:ka}{C:eH}(X:K.In h)(q:QN K C [.type "ValueError",.type "Exception",.type "BaseException",.type "object"] "ValueError.__new__"=true):ExcAt K C:=by
 unfold QN at q
 split at q
 .rename_i H E p w
  split at q
  .rename_i C' B i v j s n o r u
   simp only[Mx,beq_iff_eq,Pp]at q;obtain⟨⟨⟨⟨⟨rfl,rfl⟩,b⟩,m⟩,a⟩,c⟩:=q;obtain⟨nm,bs,z,g,A,x,G,sub,y,f,del⟩:=E;dsimp only at r b a c;subst r b;have e:p=#[i,v,j,s,cb (.builtin "ValueError.__new__"),o]:=by
    obtain⟨l⟩:=p;simp only at u;rw[u]
   subst e;refine⟨⟨nm,A,g,bs,B,_,x,G,sub,y,f,H,i,v,j,s,o,"ValueError.__new__","ValueError.__init__","ValueError",h.nsMap g,λI X'=>⟨X' _ _ w,?_,W.tail_of_in X' m⟩,W.nsMap_none_of_in X a c,PySem.F.excBase_ValueError,by decide,(W.tail_of_in X m).hasType<|by decide⟩⟩
   rw[<- j5 X X' a];exact .of_isNs (W.isNs_of_in X' a)
  .cases q
 .cases q
end _3
namespace _2
open PySem
theorem C3{b:hB}{a:List Comprehension}{scope:L'}{pos f:Pos}{x:Str}{line:Nat}{env:Env}(i:env.blockKind=.function)(h2:env.scope.names.lookup x=cb .local)(g:f.line=pos.line)
  (h:(scope.names.any λ(n,k)=>n==x&&(k==.local||k==.cell))=eP):pv (.ListComp b a scope pos) (cb<|.Name x f) line env=pure true:=by
 have e:(Expr.ListComp b a scope pos).pos=pos:=rfl;have c:env.kindOf x=cb .local:=h2;unfold pv
 try dsimp only
 rw[i,c,e,g,h];simp
end _2
namespace _3
open PySem _2
variable{B:Bd}{X:Cx}
noncomputable def B7:hB->Bool
 |.Starred ..=>eP
 |_=>true
theorem yj{e:hB}{es:Tc}{env:Env}(h:B7 e=true):eT (e::es) env=(eP,h9 e env)::eT es env:=by
 cases e<;>first|rfl|trivial
section
theorem da_c{e:hB}{es:Tc}{te:bi}{t:dX}(c:DE X B e te)(a:DA X B es t)(b:B7 e=true:=by rfl):DA X B (e::es) (aa te t):=CB c a (yj b)
end
section
end
section
end
section
end
end _3
namespace _S
open PySem
variable{a:eH}{A:kL}{es:Array (Int×cp)}{xs:Array Nat}{led:Bool}{h:ka}{ep:Nat}{prog:g4}{s:eC}{E:Te}{w:kB}
def Rs(xs:Array Nat):Prop:=xs.toList.Pairwise (· < ·)
theorem Rs.lt(r:Rs xs){i j:Nat}(h:i<j)(hj:j<xs.size):xs[i]'(by lia)<xs[j]:=by
 have:=NB.mp r i j (by simpa using (by lia)) (by trivial) h
 assumption
structure Lb(xs:Array Nat)(j p:Nat):Prop where
 le:p<=xs.size
 lo:∀i (h:i<xs.size),i<p->xs[i]<j
 hi:∀i (h:i<xs.size),p<=i->j<=xs[i]
theorem lX{xs:Array Nat}(r:Rs xs)(j:Nat):∀(f g e:Nat),g<=e->e<=xs.size->e-g<=f->(∀i (h:i<xs.size),i<g->xs[i]<j)->(∀i (h:i<xs.size),e<=i->j<=xs[i])->Lb xs j (PQ xs j f g e)
 |0,g,e,h1,h2,h3,a,b=>by
  have:g=e:=by lia
  subst this;exact⟨by exact h2,a,b⟩
 |f+1,g,e,h1,h2,h3,a,b=>by
  simp only[PQ]
  by_cases c:g<e
  .rw[if_pos c]
   have l:(g+e) / 2<xs.size:=by lia
   have m:xs.getD ((g+e) / 2) j=xs[(g+e) / 2]:=by simp_all
   rw[m]
   by_cases d:xs[(g+e) / 2]<j
   .rw[if_pos d]
    refine lX r j f _ _ (by lia) h2 (by lia) (λi h q=>?_) b
    rcases MW i _ with z|z
    .exact Pr (r.lt z l) d
    have:i=(g+e) / 2:=by lia
    simp_all
   rw[if_neg d];refine lX r j f _ _ (by lia) (by lia) (by lia) a (λi h q=>?_)
   rcases MW ((g+e) / 2) i with z|z
   .have:=r.lt z h;lia
   .have:i=(g+e) / 2:=by lia
    simp_all
  rw[if_neg c];have:g=e:=by lia
  subst this;exact⟨h2,a,b⟩
theorem Ap(r:Rs xs)(j:Nat):Lb xs j (Oi xs j):=
 lX r j _ 0 _ (by lia) (by lia) (by lia) (by lia) (by lia)
theorem FR(r:Rs xs){j:Nat}(hj:xs[Oi xs j]?≠cb j):Rs (Ol xs (Oi xs j) j):=by
 have b:=Ap r j;generalize Oi xs j=p at b hj;unfold Rs at r ⊢;have e:(Ol xs p j).toList=xs.toList.take p++j::xs.toList.drop p:=by
  unfold Ol;simp[Oc]
 have m:∀y∈xs.toList.drop p,j<y:=λy hy=>by
  obtain⟨k,hk⟩:=QA.mp hy;rw[List.getElem?_drop,OX]at hk;obtain⟨h1,h2⟩:=PZ.mp hk;have:=b.hi _ h1 (by lia)
  rcases MW j y with z|z
  .exact z
  have ey:xs[p+k]=j:=by lia
  cases k with
  |zero=>exact absurd (by simp_all) hj
  |succ k=>
   have hp:p<xs.size:=by lia
   have:=b.hi p hp (by lia)
   have:xs[p]<xs[p+(k+1)]:=by
    have:=NB.mp r p _ (by trivial) (by simpa using h1) (by lia)
    assumption
   lia
 rw[e,List.pairwise_append];refine⟨r.sublist (List.take_sublist ..),NP.mpr ⟨m,r.sublist<|List.drop_sublist ..⟩,λx hx y hy=>?_⟩;obtain⟨k,hk⟩:=QA.mp hx;have hkp:k<p:=by
  rcases MW k p with z|z
  .exact z
  rw[List.getElem?_take,if_neg (by lia)]at hk;cases hk
 rw[Qk hkp,OX]at hk;obtain⟨h1,h2⟩:=PZ.mp hk;have:=b.lo _ h1 hkp;rcases Mm.mp hy with rfl|hy
 .lia
 have:=m y hy;lia
theorem DY{c f n:Nat}{pl:Bool}{j:Array Int}{t:sx}{o:Array Nat}(e:PH c f n led pl j=cb (t,o)):Rs t.place/\t.dummies=#[]:=by
 unfold PH at e;cases i:Qw _ j with
 |none=>rw[i]at e;cases e
 |some q=>
  rw[i]at e;cases e;refine⟨?_,rfl⟩;unfold Rs;rw[List.pairwise_map,List.pairwise_filterMap];refine List.Pairwise.imp ?_ List.pairwise_lt_range;intro a b g x l y m;obtain⟨_,_,rfl⟩:=MR.mp l;obtain⟨_,_,rfl⟩:=MR.mp m;exact g
theorem si{t:sx}{f:Nat->Int}{h:Int}(l:t.dummies=#[]):∀(n:Nat)(p:QU)(j:Nat)(d:Option Nat),p.dummy=ed->PN t f h n p=cb (.empty j d)->t.place[Oi t.place j]?≠cb j/\d=ed
 |0,p,j,d,hp,e=>by trivial
 |n+1,p,j,d,hp,e=>by
  have c:∀q:QU,q.dummy=ed->(t.advance q).dummy=none:=λq g=>by
   unfold SetTable.advance
   split
   .exact g
   exact g
  simp[PN]at e;cases b:t.slot _ with
  |empty=>
   rw[b]at e;obtain⟨rfl,rfl⟩:=e;refine⟨λz=>?_,hp⟩;unfold SetTable.slot at b
   simp_all
  |dummy=>
   unfold SetTable.slot at b;rw[l]at b;have:P2 #[] p.j=false:=by rfl
   rw[this]at b;dsimp only at b
   split at b<;>simp at b
  |live i=>
   rw[b]at e;dsimp only at e
   split at e
   .cases e
   exact si l n _ j d (c p hp) e
theorem C_{t:sx}{h:Int}{q:Nat×Bool}(r:Rs t.place)(b:t.dummies=#[])(e:t.freeSlot h=cb q):Rs (t.put q.1).1.place/\(t.put q.1).1.dummies=#[]:=by
 unfold SetTable.freeSlot at e
 split at e
 .rename_i j d c
  cases e;obtain⟨g,f⟩:=si b _ _ _ _ rfl c;subst f;refine⟨FR r g,?_⟩;show (if P2 _ j=true then _ else t.dummies)=#[]
  rw[b,if_neg (by simp[P2])]
 cases e
section
variable{K:Type}[DecidableEq K]
def Pl(t:sx):Prop:=t.plain=true->Rs t.place/\t.dummies=#[]
theorem rA(t:sx)(n:Nat):(t.orStandIn n).led=t.led/\(Pl t->Pl (t.orStandIn n)):=by
 unfold SetTable.orStandIn
 by_cases q:t.fits n=true
 .rw[if_pos q];exact⟨rfl,id⟩
 rw[if_neg q];exact⟨rfl,λ_ e=>by cases e⟩
theorem tU(t:sx)(es:Array (Int×cp))(h:Int)(x:cp):(layNew t es h x).2.1.led=t.led/\(Pl t->Pl (layNew t es h x).2.1):=by
 unfold layNew;cases b:t.freeSlot h with
 |some q=>
  have s:=rA (t.put q.1).1 (Ol es (t.put q.1).2 (h,x)).size;exact⟨s.1,λp=>s.2 λe=>C_ (p e).1 (p e).2 b⟩
 |none=>exact⟨rfl,λ_ e=>by cases e⟩
theorem uE{t t':sx}{c:Array Int}{n:Nat}{o:Array Nat}(e:t.relaid c n=cb (t',o)):t'.led=t.led/\Pl t':=by
 refine⟨?_,λ_=>DY e⟩;unfold SetTable.relaid PH at e;cases b:Qw _ c with
 |none=>rw[b]at e;cases e
 |some q=>rw[b]at e;cases e;rfl
theorem oo(t:sx)(es:Array (Int×cp))(n:Nat):(Re t es n).2.1.led=t.led/\Pl (Re t es n).2.1:=by
 unfold Re;cases b:t.relaid _ n with
 |none=>exact⟨rfl,λz=>by cases z⟩
 |some q=>
  try dsimp only
  split
  .exact(uE b)
  exact⟨rfl,λz=>by cases z⟩
structure Holds(knd:KeyKind prog w K)(h:ka)(a:eH)(led:Bool)(l:List K):Prop where
 ex:∃(o:Obj)(es:Array (Int×cp))(ep:Nat)(t:sx),h.get? a=cb o/\o.ExactSet/\o.data=.set es ep t/\ElemsOf knd es.toList/\(∀k,k∈l↔∃e∈es.toList,knd.is k e.2=true)/\es.size=l.length/\t.fits es.size=true/\t.led=led/\Pl t
 nd:l.Nodup
 few:l.length<No
variable{knd:KeyKind prog w K}
theorem stored{o:Obj}{b:Array (Int×cp)}{t t1:sx}{l:List K}(g:h.get? a=cb o)(r:o.ExactSet)(f:o.data=.set es ep t)(u:ElemsOf knd b.toList)(q:∀k,k∈l↔∃e∈b.toList,knd.is k e.2=true)(j:b.size=l.length)(i:t1.fits b.size=true)(m:t1.led=led)(n:Pl t1)(p:l.Nodup)(c:l.length<No):
  (h.update a<|Obj.putSet b t1).get? a=cb { o with data:=.set b (ep+1) t1 }/\Holds knd (h.update a<|Obj.putSet b t1) a led l:=by
 have e:=NT (Obj.putSet b t1) g (by rw[putSet_of b t1 f];rfl)
 rw[putSet_of b t1 f]at e;exact⟨e,⟨_,b,ep+1,t1,e,r,rfl,u,q,j,i,m,n⟩,p,c⟩
theorem oN{g:Bool->Sem Unit}(O:∀(b:Bool)(G:eC)(P:Unit->eC->Prop),P () G->ft (fy prog w) A (g b) P E G){o:Obj}{c:Array (Int×cp)}{t t2:sx}{y:Bool}{l:List K}{R:Option Bool->eC->Prop}(u:s.heap.get? a=cb o)(H:o.ExactSet)(v:o.data=.set es ep t)(x:ElemsOf knd c.toList)(F:∀k,k∈l↔∃e∈c.toList,knd.is k e.2=true)(M:c.size=l.length)(J:t2.fits c.size=true)(B:t2.led=led)(N:Pl t2)(C:l.Nodup)(i:l.length<No)(hR:∀h',Nc a s.heap h'->Holds knd h' a led l->R (cb true) { s with heap:=h' }):
  ft (fy prog w) A (storeSet a c t2 >>= λ_=>if (!y&&t2.tooFull)=true then g (Re t2 c<|N8 c.size).2.2 >>= λ_=>storeSet a (Re t2 c<|N8 c.size).1 (Re t2 c<|N8 c.size).2.1 >>= λ_=>pure (cb true) else pure (cb true)) R E s:=by
 obtain⟨r,H1⟩:=stored u H v x F M J B N C i;have n:c.size<scanBound:=by simp_all
 refine cx (wpAny_storeSet_of u v ?_<|fits_of_scanBound n)
 by_cases p:(!y&&t2.tooFull)=true
 .rw[if_pos p]
  have f:=relayAll_perm t2 c (N8 c.size);have q:=relayAll_fits t2 c (N8 c.size);have j:=oo t2 c (N8 c.size);generalize Re t2 _ _=L at f q j ⊢;have I:L.1.size=c.size:=by rw[<- MY,f.length_eq,MY]
  refine cx (O _ _ _<|wpAny_bind<|wpAny_storeSet_of r rfl ?_<|by rw[I];exact fits_of_scanBound n)
  obtain⟨_,H2⟩:=stored r H rfl (x.perm f) (λk=>(F k).trans ⟨(by rintro⟨e,m,z⟩;exact⟨e,f.mem_iff.mpr m,z⟩),(by rintro⟨e,m,z⟩;exact⟨e,f.mem_iff.mp m,z⟩)⟩) (by simp_all) q (j.1.trans B) j.2 C i
  exact fx (hR _ ((Ni _ a _).trans<|Ni _ a _) H2)
 rw[if_neg p];exact fx (hR _ (Ni _ a _) H1)
theorem BY{l:List K}{k:K}{x:cp}{Q:Bool->eC->Prop}(c:knd.is k x=true)(F:x.scannable=true)(H:Holds knd s.heap a led l)(room:l.length+1<No)(h:∀h' b,Nc a s.heap h'->Holds knd h' a led (if k∈l then l else l++[k])->Q b { s with heap:=h' }):ft (fy prog w) A (setAddHashed a x<|knd.hash k) Q E s:=by
 obtain⟨⟨o,es,ep,t,G,X,J,m,W,B,hf,n,U⟩,nd,R⟩:=H;have hb:es.size<scanBound:=by rw[B];exact R
 unfold setAddHashed setAddHashedIn;refine lb (cx<|wpAny_setState_of G J hf ?_);simp only[byScan_of F hb m,if_true];unfold setAddByScan;refine cx (cx<|wpAny_rule<|wpAny_bind<|wpAny_setScan_of c G J hf m ?_)
 by_cases S:k∈l
 .obtain⟨e,u,N⟩:=(W k).mp S
  cases Z:es.toList.findIdx? (λe=>knd.is k e.2) with
  |none=>have:=N4.mp Z e u;rw[N]at this;cases this
  |some j=>
   refine fx (fx ?_);have:=h s.heap eP (Heap.SameBut.refl a s.heap) (by rw[if_pos S];exact⟨⟨o,es,ep,t,G,X,J,m,W,B,hf,n,U⟩,nd,R⟩)
   cases s;exact this
 .have Z:es.toList.findIdx? (λe=>knd.is k e.2)=none:=N4.mpr λe u=>by
   cases q:knd.is k e.2 with
   |false=>rfl
   |true=>exact absurd ((W k).mpr ⟨e,u,q⟩) S
  rw[Z];have r:=layNew_perm t es (knd.hash k) x;have O:=layNew_fits t es (knd.hash k) x;have M:=tU t es (knd.hash k) x;rw[Array.toList_push]at r
  try dsimp only
  generalize layNew t es (knd.hash k) x=L at r O M ⊢;obtain⟨v,t1,wd,gv⟩:=L;dsimp only at r O M ⊢;have q1:ElemsOf knd v.toList:=(m.push c F).perm r;have q2:∀I,I∈l++[k]↔∃e∈v.toList,knd.is I e.2=true:=λI=>by
   constructor
   .intro hk'
    rcases Ml.mp hk' with z|z
    .obtain⟨e,u,N⟩:=(W I).mp z
     exact⟨e,r.mem_iff.mpr (NW _ u),N⟩
    .rw[MM]at z;subst z
     exact⟨_,r.mem_iff.mpr (MF _<|MM.mpr rfl),c⟩
   .rintro⟨e,u,N⟩
    rcases Ml.mp (r.mem_iff.mp u) with z|z
    .exact NW _ ((W I).mpr ⟨e,z,N⟩)
    .rw[MM]at z;subst z
     exact MF _ (MM.mpr<|knd.inj x I k N c)
  have Y:v.size=(l++[k]).length:=by rw[<- MY,r.length_eq];simp[B]
  have C:(l++[k]).Nodup:=NH.mpr ⟨nd,by simp,λy hy z hz=>by rw[MM]at hz;subst hz;rintro rfl;exact S hy⟩
  have f:(l++[k]).length<scanBound:=by simp;lia
  have q4:Pl t1:=M.2 U;have p:∀(b:Bool)(s':eC)(P:Unit->eC->Prop),P () s'->ft (fy prog w) A (match b with|true=>rule "set.scan.the-table-gave-way"|false=>pure ()) P E s':=λb s' P z=>by
   cases b
   .exact fx z
   .exact RW z
  have i:∀h',Nc a s.heap h'->Holds knd h' a led (l++[k])->ft (fy prog w) A (pure true) Q E { s with heap:=h' }:=λh' z H'=>fx (h h' true z<|by rw[if_neg S];exact H')
  refine cx (p gv s _ ?_)
  by_cases T:t1.plain=true
  .rw[if_pos T]
   refine cx (Sj (hashByValue_scannable 8 F) ?_);cases hpk:plainKind x with
   |true=>exact oN (knd:=knd) (g:=λb=>match b with|true=>rule "set.scan.the-table-gave-way"|false=>pure ()) p G X J q1 q2 Y O (M.1.trans n) q4 C f i
   |false=>exact oN (knd:=knd) (g:=λb=>match b with|true=>rule "set.scan.the-table-gave-way"|false=>pure ()) (t2:={ t1 with plain:=eP }) p G X J q1 q2 Y (SetTable.fits_plain_off O) (M.1.trans n) (λz=>by cases z) C f i
  .rw[if_neg T]
   refine cx (fx ?_);exact oN (knd:=knd) (g:=λb=>match b with|true=>rule "set.scan.the-table-gave-way"|false=>pure ()) p G X J q1 q2 Y O (M.1.trans n) q4 C f i
end
section
variable{K:Type}[DecidableEq K]{knd:KeyKind prog w K}
theorem Holds.keep{h':ka}{l:List K}(H:Holds knd h a led l)(k:∀o,h.get? a=cb o->h'.get? a=cb o):Holds knd h' a led l:=by
 obtain⟨⟨o,es,ep,t,c,r⟩,e,b⟩:=H;exact⟨⟨o,es,ep,t,k _ c,r⟩,e,b⟩
noncomputable def cr(w:kB):Bool:=w.params.followText "set-order"
noncomputable def bD(led:Bool):Obj:={ cls:=.type "set",dict:=ed,data:=.set #[] 0 (.fresh 0 0 led) }
theorem Em(a:cp){Z:Te}(h:Z (.ref s.heap.objs.size) { s with heap:=s.heap.push (bD<|!cr w) }):
  vr (fy prog w) A (.call (.builtin "set.__new__") ⟨[.type "set",a],[]⟩) (wants Z E) s:=by
 apply codeAny_of_tree;apply cx;refine Sj (F.newCall_set_1 a) (fx ⟨P3 F.plain_set_new _,w4 F.entry_set_new ?_⟩);have sub:=sub_set_self;unfold Builtin.«set.__new__» Builtin.Frozenset.newClass;wp_walk;refine wpAny_askSetting (fx ?_);exact cx (wpAny_alloc<|wpAny_pure<|wpAny_pure h)
noncomputable def kO(l:List K):List K->List K
 |[]=>l
 |k::r=>kO (if k∈l then l else l++[k]) r
theorem F3{P:Nat->cp->Prop}{St:Nat->ka->Prop}{I S:eH}{N:Tb}{ks:List K}{led:Bool}{R:Si->eC->Prop}(W:Walks prog w A.in1 I N [I] ks.length P St)(L:S∉N)(B:S≠I)
  (M:∀i v,P i v->∃k,ks[i]?=cb k/\knd.is k v=true/\v.scannable=true) (C:ks.length+1<No):
  ∀(r i:Nat)(s:eC)(l:List K),i+r=ks.length->St i s.heap->Holds knd s.heap S led l->l.length<=i->
   (∀h' g,(∀b o,b≠S->b≠I->s.heap.get? b=cb o->h'.get? b=cb o)->Holds knd h' S led (kO l<|ks.drop i)->R (.ok<|.ret .none) { s with heap:=h',toks:=g })->
   vr (fy prog w) A (.builtin "set.update.loop" ⟨[.ref S,.ref I],[]⟩) R s
 |0,i,s,l,e,st,H,hl,hR=>by
  refine w4 OA ?_;obtain rfl:i=ks.length:=by lia
  refine cx (W.done s _ _ st λh' g k=>?_);refine fx (hR h' g (λb o _ p q=>k b o (by simpa using p) q) ?_)
  rw[List.drop_length];exact H.keep λo q=>k S o (by simpa using B) q
 |r+1,i,s,l,e,st,H,hl,hR=>by
  refine w4 OA ?_;refine cx (W.item i s _ _ (by lia) st λv h' g Z j k=>?_)
  obtain⟨x,Y,J,U⟩:=M i v Z;have H':Holds knd h' S led l:=H.keep λo q=>k S o (by simpa using B) q
  refine cx (lb ?_);unfold setAdd;refine lb (cx<|knd.pyHash J ?_);refine BY (s:={ s with heap:=h',toks:=g+1 }) J U H' (by lia) λO b2 G H2=>?_
  refine fx ⟨P3 PyProof.Rows.F.plain_set_update_loop _,?_⟩;have T:ks.drop i=x::ks.drop (i+1):=by
   obtain⟨y,m⟩:=ML.mp Y;rw[<- m];exact NC y
  have n:(if x∈l then l else l++[x]).length<=i+1:=by
   by_cases z:x∈l
   .rw[if_pos z];lia
   simp_all
  refine F3 W L B M C r (i+1) _ _ (by lia) (W.frame _ _ _ j λb p o q=>?_) H2 n λQ u X H3=>?_
  .rw[G.2 b λz=>L (z▸p)];exact q
  .refine hR Q u (λb o f c q=>X b o f c ?_) ?_
   .show O.get? b=cb o
    rw[G.2 b f];exact k b o (by simpa using c) q
   .rw[T];exact H3
theorem rT(e:h.get? a=cb (bD led)):Holds knd h a led []:=by
 exact⟨⟨_,_,0,_,e,by trivial,rfl,λ_ q=>by simp at q,by simp_all,rfl,by rfl,rfl,λ_=>⟨OW,rfl⟩⟩,by simp_all,by simp[No]⟩
end
section
variable{M:Model}
end
section
variable{I:eH}{f:cp}{i n:Nat}{t:sx}
end
section
variable{I:eH}{t:sx}
end
end _S
namespace _S
open PySem PySem.W PySem.Calls PyProof.Rows PyProof.V PySem.Spec
section
variable {prog:g4}{w:kB}{A:kL}{E:Te}{s:eC}{a:eH}{ep:Nat}{es:Array (Int×cp)}{t:sx}
end
end _S
namespace _S
open PySem
section
variable {prog:g4}{w:kB}{A:kL}{E:Te}{s:eC}{a:eH}
end
structure Ord(K:Type) where
 lt:K->K->Bool
 anti:∀x y,lt x y=eP->lt y x=eP->x=y
 tr:∀x y z,lt y x=eP->lt z y=eP->lt z x=eP
 asym:∀x y,lt x y=true->lt y x=eP
section
variable {K:Type}[DecidableEq K](o:Ord K)
abbrev Jp(l:List K):Prop:=l.Pairwise λa b=>o.lt b a=eP
noncomputable def ins(x:K):List K->List K
 |[]=>[x]
 |y::r=>if o.lt y x=true then y::ins x r else x::y::r
noncomputable def Bo:List K->List K
 |[]=>[]
 |x::r=>ins o x (Bo r)
theorem kE(x:K):∀l:List K,(ins o x l).Perm (x::l)
 |[]=>Pu _
 |y::r=>by
  unfold ins
  by_cases h:o.lt y x=true
  .rw[if_pos h];exact(QR y<|kE x r).trans (List.Perm.swap ..)
  simp_all
theorem bQ:∀l:List K,(Bo o l).Perm l
 |[]=>Pu _
 |x::r=>(kE o x _).trans (QR x<|bQ r)
theorem wX(x:K):∀l:List K,Jp o l->Jp o (ins o x l)
 |[],_=>by simp[ins]
 |y::r,h=>by
  unfold ins;have e:=NP.mp h
  by_cases c:o.lt y x=true
  .rw[if_pos c]
   refine NP.mpr ⟨λz a=>?_,wX x r e.2⟩;rcases Mm.mp ((kE o x r).mem_iff.mp a) with rfl|q
   .exact o.asym _ _ c
   simp_all
  rw[if_neg c];have b:o.lt y x=false:=by simpa using c
  refine NP.mpr ⟨λz a=>?_,h⟩;rcases Mm.mp a with rfl|q
  .exact b
  exact o.tr _ _ _ b (e.1 z q)
theorem oW:∀l:List K,Jp o (Bo o l)
 |[]=>OW
 |x::r=>wX o x _ (oW r)
theorem Ar:∀(a b:List K),Jp o a->Jp o b->a.Perm b->a=b
 |[],b,_,_,p=>by simp_all
 |x::a,b,ha,hb,p=>by
  cases b with
  |nil=>simp_all
  |cons y b=>
   have f:=NP.mp ha;have c:=NP.mp hb;have e:x=y:=by
    rcases Mm.mp (p.mem_iff.mp<|Nh ..) with e|hx
    .exact e
    rcases Mm.mp (p.symm.mem_iff.mp<|Nh ..) with e|hy
    .exact e.symm
    exact o.anti _ _ (c.1 x hx) (f.1 y hy)
   subst e;rw[Ar a b f.2 c.2 (by simp_all)]
theorem zQ{a l:List K}(b:Jp o a)(p:a.Perm l):a=Bo o l:=Ar o _ _ b (oW o l) (p.trans (bQ o l).symm)
end
end _S
namespace _3
open PySem _2 _S
theorem rl:∀{ss:S_}{us:Ta},Vals (ss.map V.str) us->PJ us ss
 |[],_,.nil=>.nil
 |_::_,_,.cons r t=>by obtain⟨u,rfl⟩:=r;exact .cons _ _ (rl t)
theorem qU{K:Mi}{H:Hp}:∀(ss:S_),Rps K H (ss.map D.str) (ss.map V.str)
 |[]=>rfl
 |_::ss=>⟨_,_,rfl,rfl,qU ss⟩
section
variable {X:Cx}{B:Bd}
theorem sU:g3 "sorted"=cb (.builtin "sorted"):=by rfl
theorem BW:g3 "set"=cb (.type "set"):=by rfl
theorem zf:∀{us:Ta}{ss:S_},PJ us ss->∀(i:Nat)(v:cp),us[i]?=cb v->∃x t,ss[i]?=cb x/\v=.str x t
 |_,_,.nil,i,v,h=>by simp at h
 |_,_,.cons x t r,0,v,h=>⟨x,t,by simp,by simp_all⟩
 |_,_,.cons x t r,i+1,v,h=>by simpa using zf r i v (by simpa using h)
end
end _3
namespace _S
open PySem
section
variable {prog:g4}{w:kB}{A:kL}{E:Te}{s:eC}{a:eH}
end
end _S
namespace _3
open PySem _2 _S
noncomputable def dw:List D->Option (List Int)
 |[]=>cb []
 |.int i::ds=>match dw ds with
  |some is=>cb (i::is)
  |none=>ed
 |_=>ed
theorem k_:∀a:List Int,dw (a.map D.int)=cb a
 |[]=>rfl
 |x::a=>by rw[Ms,dw,k_ a]
theorem sv{K:Mi}{H:Hp}:∀{ds:List D}{vs:List V}{xs:S9},Rps K H ds vs->dw ds=cb xs->vs=xs.map V.int
 |[],vs,xs,r,e=>by cases e;exact r
 |d::ds,vs,xs,r,e=>by
  obtain⟨v,h,rfl,a,b⟩:=r;cases d with
  |int c=>
   simp[dw]at e
   split at e
   .rename_i f g
    cases e;cases a;rw[sv b g];rfl
   cases e
  |_=>trivial
theorem zr:∀{ss:S9}{us:Ta},Vals (ss.map V.int) us->PyProof.Rows.IntsAre us ss:=by
 intro ss
 induction ss with
 |nil=>intro us h;cases h;exact .nil
 |cons x ss ih=>intro us h;cases h with|cons r t=>obtain⟨u,rfl⟩:=r;exact .cons _ _ (ih t)
section
variable {X:Cx}{B:Bd}
end
end _3
namespace _2
open PySem
section
variable {X:Cx}
end
end _2
namespace _3
open PySem _2 _S
section
variable {X:Cx}{B:Bd}
end
inductive TabR(w:kB)(K:Mi):List NE->List (Str×D)->Prop
 |nil:TabR w K [] []
 |cons {e:NE} {x:Str} {d:D} {es:List NE} {tab:List (Str×D)}:e.hash=hashStr w x->(∃t,e.key=.str x t)->(∃v,RelV v e.val/\∀H,Rp K H d v)->TabR w K es tab->TabR w K (e::es) ((x,d)::tab)
structure ModTab(w:kB)(K:Mi)(mg:Tg)(name:Str)(a:eH)(tab:List (Str×D)):Prop where
 at_:mg name=cb (.ref a)
 sys:(a==pt)=eP
 nd:(tab.map (·.1)).Nodup
 ex:∃es ep,K.lookup a=cb { cls:=.type "dict",dict:=ed,data:=.dict es ep,slots:=#[] }/\TabR w K es.toList tab
noncomputable def eR:List (Str×D)->Str->Option D
 |[],_=>ed
 |(y,d)::t,x=>if y=x then cb d else eR t x
theorem sk{P:g4}{w:kB}{K:Mi}:∀{es:List NE}{tab:List (Str×D)},TabR w K es tab->∃SY:List (Str×cp),(∀e∈es,∃k,(strKind P w).is k e.key=true/\e.hash=(strKind P w).hash k)/\Pairs (strKind P w) es SY/\SY.map (·.1)=tab.map (·.1)/\∀x,match eR tab x with
  |some d=>∃u v,tL SY x=cb u/\RelV v u/\∀H,Rp K H d v
  |none=>tL SY x=ed
 |_,_,.nil=>⟨[],(λe h=>by cases h),Pairs.nil,rfl,λx=>rfl⟩
 |_,_,.cons (e:=e) (x:=x) (d:=d) (tab:=tab) h1 h2 h3 r=>by
  obtain⟨SY,f,m,g,b⟩:=sk (P:=P) r;obtain⟨t,l⟩:=h2;obtain⟨v,n,j⟩:=h3;have a:(strKind P w).is x e.key=true:=by rw[l];simp[strKind,Oe]
  refine⟨(x,e.val)::SY,λi he=>?_,.cons a rfl m,by simp[g],λy=>?_⟩
  .rcases Mm.mp he with rfl|he
   .exact⟨x,a,h1⟩
   .exact f i he
  .unfold eR tL
   by_cases c:x=y
   .rw[if_pos c]
    exact⟨e.val,v,by simp[c],n,j⟩
   .rw[if_neg c]
    have:=b y;unfold tL at this;simpa [c] using this
theorem ModTab.map{P:g4}{w:kB}{K:Mi}{p:Tg}{b:Str}{a:eH}{tab:List (Str×D)}(T:ModTab w K p b a tab){h:ka}(c:K.In h):∃SY:List (Str×cp),h.DictOf (strKind P w) a SY/\∀x,match eR tab x with
  |some d=>∃u v,tL SY x=cb u/\RelV v u/\∀H,Rp K H d v
  |none=>tL SY x=none:=by
 obtain⟨j,n,l,f⟩:=T.ex;obtain⟨SY,o,m,i,g⟩:=sk f;exact⟨_,⟨_,j,n,c _ _ l,by trivial,rfl,λe q=>o e (by simp_all),m,by rw[i];exact T.nd⟩,g⟩
section
variable {X:Cx}{B:Bd}{name:Str}{a:eH}{tab:List (Str×D)}
def jz(tab:List (Str×D))(a:eH):dQ:=λx y M Q=>match x,y with
 |.str x,.ref b=>b=a/\Q (.bl<|!(eR tab x).isSome) M
 |_,_=>False
def yz(tab:List (Str×D))(a:eH):dQ:=λx y M Q=>match x,y with
 |.ref b,.str x=>b=a/\match eR tab x with
  |some d=>Q d M
  |none=>False
 |_,_=>False
theorem zy{SY:List (Str×cp)}(q:match eR tab name with
  |some d=>∃u v,tL SY name=cb u/\RelV v u/\∀H,Rp X.K H d v
  |none=>tL SY name=ed):(tL SY name).isSome=(eR tab name).isSome:=by
 cases e:eR _ _ with
 |some d=>rw[e]at q;obtain⟨u,v,h,_⟩:=q;rw[h];rfl
 |none=>simp_all
theorem y4(T:ModTab X.w X.K X.mg name a tab):b_ X (g5 .NotIn) (liftR2 X<|jz tab a):=by
 rintro c s Z H x y v u Q I g f ⟨p,o,M,QQ,m,e,l,h,i⟩
 unfold jz at h
 split at h
 .rename_i z b
  cases e;cases l;cases f;obtain⟨rfl,h⟩:=h;obtain⟨t,rfl⟩:=g;obtain⟨j,n,q⟩:=T.map I.kIn;refine wpAny_notIn_of (k:=z) (by simp[strKind,Oe]) T.sys n.mapOf ?_
  rw[zy (q z)];exact⟨.bl _,H,I.tok _,rfl,i _ M h _ H m Frm.refl rfl⟩
 trivial
theorem ix_T(T:ModTab X.w X.K X.mg name a tab):IxR X (liftR2 X<|yz tab a):=by
 intro f c i s Z H x y v u Q I r p h E;obtain⟨J,G,M,QQ,F,l,m,h,A⟩:=h;unfold yz at h
 split at h
 .rename_i b z
  cases l;cases m;cases r;obtain⟨rfl,h⟩:=h;obtain⟨t,rfl⟩:=p;obtain⟨C,g,q⟩:=T.map I.kIn;have j:=q z
  split at h
  .rename_i d e
   rw[e]at j;obtain⟨u,v,o,n,h3⟩:=j;refine PC g.typeIs rfl (wpAny_getItem_of (by simp[strKind,Oe]) g.mapOf o ⟨v,H,I.tok _,n,A _ M h _ H F Frm.refl<|h3 H⟩) E
  exact h.elim
 exact h.elim
theorem IV{x:Str}{n:Int}{pos:Pos}(e:Gl X x)(b:∃t,X.mg x=cb (.int n t))(c:(x==("__debug__":Str))=false:=by decide):DE X B (.Name x pos) (dC<|.int n):=by
 obtain⟨t,b⟩:=b;exact p9 (v:=.int n) e b ⟨t,rfl⟩ (λ_=>rfl) c
end
end _3
namespace _S
open PySem
section
variable {prog:g4}{w:kB}{K:Type}[DecidableEq K]{A:kL}{E:Te}{s:eC}{knd:KeyKind prog w K}
theorem xI{l:eH}{a:Th}{ks:List K}{Q:Te}(Y:A.handled=ed)(M:s.heap.IsTuple l a)(X:a.size=ks.length)
  (U:∀(i:Nat)(v:cp),a[i]?=cb v->∃k,ks[i]?=cb k/\knd.is k v=true/\v.scannable=true) (y:ks.length+1<No)
  (h:∀(h':ka)(m:Nat),Holds knd h' s.heap.objs.size (!cr w) (kO [] ks)->(∀b o,s.heap.get? b=cb o->h'.get? b=cb o)->Q (.ref s.heap.objs.size) { s with heap:=h',toks:=m }):
  ft (fy prog w) A (call (.type "set") [.ref l]) Q E s:=by
 have c:=F.called_set;obtain⟨cc,tl,m1⟩:=c.mro;have m2:=c.made;have m3:=c.sub;apply Sm;apply codeAny_of_tree;refine fx ⟨Code.quiet_builtin _ (by decide +kernel),w4 F.entry_type_call ?_⟩
 rw[Around.under_plain (weight_type_call_type "set" [.ref l] []) (rfl)];have m4:=c.notType;have m5:=c.canCreate;have m6:=F.typeCall_set_1 (.ref l)
 repeat (any_goals (first|(assumption)|wp_step))
 refine qz (Em (.ref l) (E:=E) (Z:=λo G=>o=.ref s.heap.objs.size/\G={ s with heap:=s.heap.push (bD<|!cr w) }) ⟨rfl,rfl⟩) λr G n=>?_;cases r with
 |error e=>exact n
 |ok fl=>
  cases fl with
  |ret obj=>
   obtain⟨rfl,rfl⟩:=n;have g:(s.heap.push<|bD<|!cr w).get? s.heap.objs.size=cb (bD<|!cr w):=Mn _ rfl;have x:Shared.TypeIs { s with heap:=s.heap.push (bD<|!cr w) } (.ref s.heap.objs.size) "set":=⟨_,g,rfl⟩;have i1:=c.init.lookup;have i2:=c.init.bind (.ref s.heap.objs.size)
   repeat (any_goals (first|(assumption)|wp_step))
   refine qz (SN (R:=wants (λr L=>r=.none/\∃h' m,L={ s with heap:=h',toks:=m }/\Holds knd h' s.heap.objs.size (!cr w) (kO [] ks)/\∀b o,s.heap.get? b=cb o->h'.get? b=cb o) E) c.init.plain F.entry_set_init<|check_set_init_1 x ?_) λP L j=>?_
   .have f:(s.heap.push<|bD<|!cr w).IsTuple l a:=M.push _
    obtain⟨N,S,C,nl,B⟩:=id f;have lt:l<s.heap.objs.size:=let ⟨_,q,_⟩:=M;Me q;obtain⟨oc,od,oz,os⟩:=N;dsimp only at C B;subst C;subst B;have n1:=F.sub_tuple_set;have n2:=F.sub_tuple_frozenset;have n3:(Nx "tuple"==Nx "dict")=false:=rfl;have p:=g;unfold bD at p S ⊢;unfold Builtin.«set.__init__» noKeywords Builtin.Frozenset.updateFrom;generalize T:Sc=it
    wp_walk
    subst T;refine RX f (cx<|wpAny_runValue ?_);have J:s.heap.objs.size∉[(s.heap.push<|bD<|!cr w).objs.size,l]:=by
     rw[Nb];simp only[Mm,NM,or_false,not_or];exact⟨Mt (PD _),NR lt⟩
    have O:l≠(s.heap.push<|bD<|!cr w).objs.size:=by rw[Nb];exact Mt (OB lt)
    have u:((s.heap.push<|bD<|!cr w).push { cls:=.type "tuple_iterator",data:=.fields #[.ref l,.int 0 0] }).get? s.heap.objs.size=cb (bD<|!cr w):=Mb _ g;have W:=Walks.tuple (prog:=prog) (w:=w) (A:=A.in1.in1.in1) (by simpa using Y) (s.heap.push<|bD<|!cr w).objs.size l O a
    rw[X]at W;refine F3 (knd:=knd) (led:=!cr w) (ks:=ks) W J (λz=>J (by rw[<- z];simp)) U y ks.length 0 _ [] (by lia) ⟨⟨_,Mn _ rfl,rfl,rfl⟩,f.push _⟩ (rT u) (Nj _) λh' m k H=>?_
    refine fx (fx ⟨rfl,h',m,rfl,by rw[List.drop_zero]at H;exact H,λb o q=>?_⟩)
    have I:=Me q;exact k b o (Mt I) (by rw[Nb];exact Mt (OB I)) (Mb _<|Mb _ q)
   .cases P with
    |error e=>exact j
    |ok f2=>
     cases f2 with
     |ret r=>
      obtain⟨rfl,h',m,rfl,H,k⟩:=j
      repeat (any_goals (first|(assumption)|wp_step))
      exact h _ _ H k
     |_=>exact j.elim
  |_=>exact n.elim
end
section
variable {prog:g4}{w:kB}{K:Type}[DecidableEq K]{A:kL}{E:Te}{s:eC}{knd:KeyKind prog w K}
theorem zI{a:eH}{led:Bool}{l:List K}{Q:Te}(H:Holds knd s.heap a led l)(n:∀t i,Q (.int (l.length:Nat) t) { s with toks:=i }):ft (fy prog w) A (call (.builtin "len") [.ref a]) Q E s:=by
 obtain⟨⟨o,j,m,t,b,f,e,_,_,h,c,_⟩,_,g⟩:=H;refine call_len_set b f e c ?_ ?_
 .have:No<=2 ^ 30:=by decide
  lia
 simp_all
end
end _S
namespace _2
open PySem PySem.Spec
noncomputable def Its(x:Str):It:=⟨λi _=>i<x.cps.size,λi H v H'=>H'=H/\∃c,x.cps[i]?=cb c/\v=.str ⟨#[c]⟩,λi _=>x.cps.size<=i⟩
theorem AN{P:g4}{w:kB}{K:Mi}{N:hB}(j:eH)(x:Str)(t:Tok):Turn P w K N (Its x) [j] j (λi h=>h.IsStrIter j "str_ascii_iterator" x t i) where
 mem:=by simp
 obj:=λi h a b A=>by
  obtain⟨o,e,_,d⟩:=a
  simp_all
 keep:=λi h l a k=>by
  obtain⟨o,e,r⟩:=a;exact⟨o,by simp_all,r⟩
 item:=by
  intro X C M G z i g s Z H E I y a q;obtain⟨n,p,J,m,v,u⟩:=y j (by simp)
  have B:i<x.cps.size:=q;refine wpAny_pyNext_ascii_item a (c:=x.cps[i]) (by simp) λl f L=>?_
  have I1:Inv X _ Z H { s with heap:=l,toks:=s.toks+1 }:=I.turned (λb o A=>(L.2 b A).trans) n p m v u;obtain⟨o,e,c,d⟩:=id f;exact⟨_,rfl,vO e c d (by decide) ⟨.str _,H,I1,⟨_,rfl⟩,⟨rfl,_,by simp,rfl⟩,f,by simp_all⟩⟩
 done:=by
  intro X C M G z i g s Z H E I y a q;obtain⟨n,p,J,m,v,u⟩:=y j (by simp)
  have B:x.cps.size<=i:=q;exact wpAny_pyNext_ascii_end (I.ok.hd z) a (by simp[B]) λl F=>⟨rfl,I.turned F n p m v u⟩
 self:=λ_ _ _ _ _ a h=>wpAny_pyIter_striter_ascii a h
section
variable {X:Cx}{tg:hB}
noncomputable def iStr(tl:TE):TI:=λZ H R=>tl Z H λx H1=>∃z:Str,x=.str z/\z.cps.all (· < 128)=true/\R (Its z) H1
theorem HQ{l:hB}{c:TE}(p:PE X l c):PI X tg l (iStr c):=by
 intro a s Z H R I h;refine bz (p _ s Z H _ I h) λv j f=>?_;obtain⟨x,H1,I1,g,n⟩:=f;obtain⟨z,rfl,i,q⟩:=n;obtain⟨t,rfl⟩:=g;refine wpAny_pyIter_ascii i ?_;refine⟨_,_,_,_,H1,rfl,I1.kept λb o=>Mb _,AN _ z t,⟨_,Mn _ rfl,rfl,rfl⟩,λb m=>?_,q⟩;have e:b=j.heap.objs.size:=by simpa using m
 subst e;exact I1.fpOk (by lia) (I1.hok.fresh<|by lia)
end
end _2
namespace _3
open PySem _2 _S
section
variable {X:Cx}{B:Bd}{tg:hB}{K:Mi}{H:Hp}{M:Mem}
noncomputable def eX(z:Str):List D:=z.cps.toList.map λc=>D.str ⟨#[c]⟩
def Hb(te:bi):yt:=λU M R=>te U M λd M1=>match d with
 |.str z=>z.cps.all (· < 128)=true/\R ⟨eX z,[]⟩ M1
 |_=>False
theorem GN{z:Str}:IA K H ⟨eX z,[]⟩ (Its z):=λi H2 M2 i2 e _=>by
 have b:(eX z).length=z.cps.size:=by simp[eX]
 refine⟨λd f=>?_,λa=>by rw[b]at a;exact a⟩
 have g:i<z.cps.size:=by
  rcases MW i _ with h|h
  .exact h
  simp_all
 refine⟨g,?_⟩
 rintro x H3 ⟨rfl,c,j,rfl⟩
 have l:d=.str ⟨#[c]⟩:=by
  simp[eX,j]at f
  simp_all
 subst l;exact⟨Frm.refl,e,rfl⟩
theorem IG{l:hB}{c:bi}(g:DE X B l c):DI X B tg l (Hb c):=by
 refine gy (HQ g) ?_
 rintro Z H R ⟨U,M,RR,s,h,e⟩
 refine⟨U,M,_,s,h,λd M1 b v H1 a i1 f=>?_⟩
 split at b
 .cases f
  exact⟨_,rfl,b.1,e _ M1 b.2 _ H1 a i1 GN⟩
 trivial
def Dy:dQ:=λx y M Q=>match x,y with
 |.str a,.str b=>Q (.bl<|!decide (b.cps.toList<a.cps.toList)) M
 |_,_=>False
theorem AM:b_ X (g5 .LtE) (liftR2 X Dy):=by
 rintro c s Z H x y v u Q I g f ⟨n,m,M,QQ,l,e,j,h,i⟩
 unfold Dy at h
 split at h
 .cases e;cases j
  obtain⟨t,rfl⟩:=g;obtain⟨t2,rfl⟩:=f
  rename_i a b
  exact compareOp_gives rfl rfl F.slot_str_le F.entry_str_le (F.args_str_le_2 ..) (gives_str_le a b t t2) (λq=>by cases q) ⟨.bl _,H,I,rfl,i _ M h _ H l Frm.refl rfl⟩
 trivial
def vc(t:dX):bi:=λU M Q=>t U M λa M1=>match a with
 |[.tup xs]=>match fZ xs with
  |some ss=>ss.length<64/\Q (.int ((kO [] ss).length:Nat)) M1
  |none=>False
 |_=>False
noncomputable def E9(K:Mi)(t:TA):TE:=λZ H Q=>t Z H λa H1=>∃(l:eH)(ss:S_),a=[.ref l]/\jc K H1 l (ss.map V.str)/\ss.length<64/\Q (.int ((kO [] ss).length:Nat)) H1
theorem Et:g3 "len"=cb (.builtin "len"):=by rfl
theorem xT{e:hB}{t:TA}{p p2 pos pos2:Pos}(hc:X.calm=true)(hg:Gl X "set")(hm:X.mg "set"=ed)(hg2:Gl X "len")(hm2:X.mg "len"=ed)(ha:PA X [e] t)
  (hs:eT [e] X.env=[(eP,h9 e X.env)]:=by rfl) (hs3:eT [Qp (.Name "set" p2) [e] [] pos2] X.env=[(eP,h9 (.Call (.Name "set" p2) [e] [] pos2) X.env)]:=by rfl):
  PE X (.Call (.Name "len" p) [.Call (.Name "set" p2) [e] [] pos2] [] pos) (E9 X.K t):=by
 intro SW s Z H Q I h;refine o4 (dD I hg2 hm2 Et<|O2 ?_ hs3 rfl);show ft _ _ (spliced ((eP,_)::lq _ [])) _ _ s;refine O9 ?_;refine o4 (dD I hg hm BW<|MS (bz (ha _ _ s Z H _ I h) λus s1 zz=>?_) hs rfl);obtain⟨vs,H1,I1,r1,q1⟩:=zz;obtain⟨l,ss,rfl,hq,h64,q⟩:=q1;obtain⟨u,rfl,ru⟩:=iP r1;cases ru;obtain⟨S3,rv,pl,hz⟩:=I1.tuple hq;have hlen:=rv.length;rw[Mc]at hlen;have hh:=I1.ok.hd hc;refine xI (knd:=strKind _ _) (ks:=ss) hh (pl) (by simp;lia) (λi v hv=>?_) (Nat.lt_of_le_of_lt (by trivial)<|by decide) λh2 tk H2 k2=>?_
 .rw[QC]at hv
  obtain⟨x,t',e1,e2⟩:=zf (rl rv) i v hv;subst e2;exact⟨x,e1,by simp[strKind,Oe],rfl⟩
 refine Ph ?_;refine zI H2 λt2 tk2=>?_;exact⟨.int _,H1,I1.kept k2,⟨_,rfl⟩,q⟩
theorem yq{e:hB}{t:dX}{p f pos a:Pos}(z:X.calm=true)(r:Gl X "set")(w:X.mg "set"=ed)(i:Gl X "len")(g:X.mg "len"=ed)(y:DA X B [e] t)
  (x:eT [e] X.env=[(eP,h9 e X.env)]:=by rfl) (hs3:eT [Qp (.Name "set" f) [e] [] a] X.env=[(eP,h9 (.Call (.Name "set" f) [e] [] a) X.env)]:=by rfl):
  DE X B (.Call (.Name "len" p) [.Call (.Name "set" f) [e] [] a] [] pos) (vc t):=by
 refine aO (xT z r w i g y x hs3) ?_
 rintro Z H Q ⟨U,M,QQ,s,h,u⟩
 refine⟨U,M,_,s,h,λds M1 b j H1 c i1 l=>?_⟩
 split at b
 .obtain⟨v,rfl,p,j,rfl,q,n⟩:=eU (ds:=[]) l
  split at b
  .rename_i o m
   have:=kK n m;subst this;exact⟨p,o,rfl,q.sq,b.1,u _ _ b.2 _ H1 c i1 rfl⟩
  trivial
 trivial
theorem cL{a:eH}{ss:S_}{us:Th}{n:Nat}(h:K.lookup a=cb { cls:=.type "tuple",dict:=ed,data:=.seq us n,slots:=#[] })(hv:Vals (ss.map V.str) us.toList)(hz:us.size<=sizeLine):∃v,RelV v (.ref a)/\∀H,Rp K H (.mt<|ss.map D.str) v:=
 ⟨.ref a,rfl,λ_=>⟨a,_,rfl,⟨_,us,n,h,rfl,rfl,hz,hv⟩,qU ss⟩⟩
end
end _3
namespace _3
open PySem _2
section
variable {X:Cx}{B:Bd}{pos:Pos}
theorem uN{l m i:bi}{r j:dQ}{Z:List (Option V)}{H:Hp}{Q:VK}(h:liftE X B (dB r j l m i) Z H Q):tN (liftR2 X r) (liftR2 X j) (liftE X B l) (liftE X B m) (liftE X B i) Z H Q:=by
 obtain⟨U,M,QQ,s,h,u⟩:=h;refine⟨U,M,_,s,h,λx M1 q v1 H1 b i1 n=>?_⟩;refine⟨U,M1,_,s.go b i1,q,λy M2 p v2 H2 c i2 g=>?_⟩;refine⟨x,y,M2,_,c,n.mf b i2,g,p,λz M3 e v3 H3 a i3 o=>?_⟩;cases z with
 |bl k=>
  cases o;cases k with
  |true=>
   exact⟨_,rfl,⟨U,M3,_,s.go a ((i1.trans i2).trans i3),e,λw M4 A v4 H4 f i4 v=>⟨y,w,M4,QQ,f,(g.mf c<|i3.trans i4),v,A,u.go<|((i1.trans i2).trans i3).trans i4⟩⟩⟩
  |false=>
   exact⟨_,rfl,u _ M3 e _ H3 a ((i1.trans i2).trans i3) rfl⟩
 |_=>exact e.elim
theorem zq{a b c:hB}{n j f:bi}{l e:Sr}{r m:dQ}(y:b_ X (g5 l) (liftR2 X r))(g:b_ X (g5 e) (liftR2 X m))(C:DE X B a n)(z:DE X B b j)(E:DE X B c f)(A:RT [l,e] [b,c]=false:=by with_unfolding_all rfl):
  DT X B (.Compare a [l,e] [b,c] pos) (ao<|dB r m n j f):=by
 refine ji (Aa y g C z E A) ?_
 rintro Z H Q ⟨U,M,QQ,s,h,u⟩
 have o:liftE X B (dB r m n j f) Z H (λx H'=>∃k,x=.bl k/\Q k H'):=by
  refine⟨U,M,_,s,h,λd M' q v H' w i p=>?_⟩;cases d with
  |bl k=>exact⟨k,p,u k M' q H' w i⟩
  |_=>exact q.elim
 exact uN o
end
section
variable {X:Cx}{B:Bd}
end
end _3
namespace _3
open PySem _2 _S
section
variable {X:Cx}{B:Bd}
end
end _3
namespace _S
open PySem PySem.W PySem.Calls PyProof.Rows PyProof.V PySem.Spec
section
variable {prog:g4}{w:kB}{K:Type}[DecidableEq K]{knd:KeyKind prog w K}{A:kL}{E:Te}{s:eC}{v d:eH}{ep:Nat}{SY:List (K×cp)}
end
end _S
namespace _3
open PySem _2 _S
section
variable {X:Cx}{B:Bd}{pos:Pos}
end
end _3
namespace LX
open PySem PySem.W PySem.Spec PySem.Calls PyProof.Rows Builtin Builtin.ObjectAttr Builtin.Getset_descriptor
section
variable {K:Frag}{prog:g4}{w:kB}{A:kL}{E:Te}{s:eC}
end
end LX
namespace LX
open PySem PySem.W PySem.Spec PySem.Calls PyProof.Rows
end LX
namespace _2
open PySem PySem.Spec PyProof.Rows
section
variable {X:Cx}{SW:Tf}{Z:St}{H:Hp}{s:eC}{e:cp}
end
end _2
namespace _2
open PySem
end _2
namespace _3
open PySem _2
variable{K:Mi}
section
variable{X:Cx}{B:Bd}{H H':Hp}{M M1 M':Mem}
end
section
variable{P:g4}{w:kB}{mg:Tg}{base:ka}{f:eH}{fd:k6}
end
section
variable{X:Cx}{B:Bd}{H H':Hp}{M M1 M':Mem}
end
end _3
namespace _3
open PySem _2 _S
section
variable {X:Cx}{B:Bd}
end
end _3
namespace _3
open PySem _2
variable{B:Bd}{X:Cx}{pos:Pos}
section
end
section
variable{C:eH}{f:Str}{o value:hB}{ta tv:bi}{tpos:Pos}
end
section
variable{CX:pT}{k n:Nat}{f C:eH}{fd:k6}{ps:S_}{T:Sd}{E:XK}{EE:DX}{x:Str}{p:Pos}
end
section
variable{K:Mi}{H H':Hp}{M M1 M':Mem}
end
section
end
end _3
namespace _S
open PySem PySem.W PySem.Calls PyProof.Rows PyProof.V PySem.Spec
section
variable {prog:g4}{w:kB}{A:kL}{E:Te}{s:eC}{it d:eH}{i n ep:Nat}{ok ov:cp}{od:Obj}{es:Array NE}
end
end _S
namespace _2
open PySem PySem.Spec PyProof.Rows _S
theorem LY{X:Cx}{a:Tf}{Z:St}{H:Hp}{s:eC}{d:eH}{b:Obj}{SY:List (List bh×V)}{es:Array NE}{l:Nat}(I:Inv X a Z H s)(e:H d=cb (.frz b<|.dT SY))(m:b.data=.dict es l):
  s.heap.get? d=cb b/\∃xs:List (List bh×eH×cp),KT H SY xs/\es.toList=xs.map (entryOfKey<|tupleKind<|aP X.prog X.w):=by
 obtain⟨g,_,_,xs,r,o,h,i,c,_,f,j,_⟩:=(I.hok d _ e);rw[g]at c;cases c;rw[m]at f;cases f;exact⟨g,xs,r,j⟩
end _2
namespace _3
open PySem _2 _S
section
variable {X:Cx}{B:Bd}
end
end _3
namespace _S
open PySem PySem.W PySem.Calls PyProof.Rows PyProof.V PySem.Spec _2
theorem oM:N_ (.type "list") "keys"=pure none:=by rfl
abbrev Gc(h:ka)(a:eH)(S3:Th)(n:Nat):Prop:=h.get? a=cb { cls:=.type "list",dict:=ed,data:=.seq S3 n,slots:=#[] }
section
variable {prog:g4}{w:kB}{A:kL}{E:Te}{s:eC}
theorem kU{a:eH}{S3:Th}{n:Nat}{Q:Option cp->eC->Prop}(j:Gc s.heap a S3 n)(r:A.handled=ed)
  (h:∀h' l,(∀b o,s.heap.get? b=cb o->h'.get? b=cb o)->Q ed { s with heap:=h',toks:=l }):ft (fy prog w) A (R7 (.ref a) "keys") Q E s:=by
 obtain⟨p,g,d,l,m⟩:=s;have i:∀f,(⟨p,g,d,f,m⟩:eC).TypeIs (.ref a) "list":=λ_=>⟨_,j,rfl⟩;have q:=sub_AttributeError;have u:=Od.lookup;have z:=Od.bind (.ref a);have B:=am_list_getattr_none;unfold R7 getAttrBy? getAttrBy
 repeat (any_goals (first|assumption|exact i _|((with_reducible show ft _ _ (call (Value.builtin "list.__getattribute__") _ _) _ _ _);refine pb Od (i _) am_entry_list_getattribute (PySem.F.args_list_getattribute_2 _ _) (meets_getattribute_miss_list a S3 n #[] "keys" _ oM (by decide +kernel) (by decide +kernel)) ⟨j,r,λh' f e c=>?_⟩)|wp_step))
 obtain⟨v,x,y⟩:=c.there;show ft _ _ (Op _ _ _ _ _ _ _) _ _ _;unfold Op
 repeat (any_goals (first|assumption|wp_step))
 exact h _ _ c.keeps
end
theorem uu{prog:g4}{w:kB}{s:eC}{l:eH}{m:Nat}{ps:List (cp×cp)}{Ts:Tb}(M:Ts.length=ps.length)(y:Gc s.heap l (Ts.map MD).toArray m)(z:∀(i:Nat)(j:i<Ts.length)(h2:i<ps.length),sY s.heap Ts[i] ps[i].1 ps[i].2):
  ∀(A':kL)(f:eC)(Q:Te)(E:Te),(∀b o,s.heap.get? b=cb o->f.heap.get? b=cb o)->s.heap.objs.size<f.heap.objs.size->
   (∀h' N O St,(∀b o,f.heap.get? b=cb o->h'.get? b=cb o)->PSrc prog w s.heap.objs.size N ps O St->St 0 h'->(∀b∈O,b∈[]\/s.heap.objs.size<b)->Q (.ref N) { f with heap:=h' })->ft (fy prog w) A' (Sc<|.ref l) Q E f:=by
 intro A' f Q E I lt k;have ne:∀{b o},s.heap.get? b=cb o->b≠s.heap.objs.size/\b≠f.heap.objs.size:=λe=>⟨Mt (Me e),Mt<|Pr (Me e) lt⟩;have u:f.heap.IsList l (Ts.map MD).toArray:=⟨_,I _ _ y,rfl,m,rfl⟩;have G:∀{h h':ka}(b:eH),(∀c o,c≠b->h.get? c=cb o->h'.get? c=cb o)->(∀{c o},s.heap.get? c=cb o->c≠b)->h.IsList l (Ts.map MD).toArray/\(∀(i:Nat)(j:i<Ts.length)(h2:i<ps.length),sY h Ts[i] ps[i].1 ps[i].2)->h'.IsList l (Ts.map MD).toArray/\∀(i:Nat)(j:i<Ts.length)(h2:i<ps.length),sY h' Ts[i] ps[i].1 ps[i].2:=by
  intro h h' b k n q;obtain⟨⟨o,B,F⟩,p⟩:=q;refine⟨⟨o,k _ _ (n y) B,F⟩,λi j h2=>?_⟩;obtain⟨o,x,e,r⟩:=p i j h2;obtain⟨_,_,R,_⟩:=z i j h2;exact⟨o,x,k _ _ (n R) e,r⟩
 refine O_ u (k _ f.heap.objs.size [f.heap.objs.size] (λi h=>h.IsListIter f.heap.objs.size l i/\h.IsList l (Ts.map MD).toArray/\∀(i:Nat)(j:i<Ts.length)(h2:i<ps.length),sY h Ts[i] ps[i].1 ps[i].2) (λb o e=>Mb _ e) ⟨by simp;exact Mt lt,λi h h' g k=>⟨g.1.at λo e=>k _ o (NR lt) e,G _ k (λe=>(ne e).1) g.2⟩,?_,?_⟩ ⟨⟨_,Mn _ rfl,rfl,rfl⟩,?_,λi j h2=>?_⟩ λb J=>.inr (by simp at J;subst J;exact lt))
 .intro A i K P Q E L _ g C
  refine SA (x:=.ref Ts[i]) g.1 g.2.1 (by simp[M,K]) λh' v H=>?_
  obtain⟨a,b⟩:=G _ (λc o S e=>H.extBut c o S e) (λe=>(ne e).2) g.2;exact C h' Ts[i] ⟨v,a,b⟩ (b i (by lia) K) λc o n e=>H.extBut c o (by simpa using n) e
 .exact λA P Q E L g C=>SJ L g.1 g.2.1 (by simp[M]) λh' k=>C h' λc o n e=>k c o (by simpa using n) e
 .obtain⟨o,B,F⟩:=u
  exact⟨o,Mb _ B,F⟩
 .obtain⟨o,n,e,r⟩:=z i j h2
  exact⟨o,n,Mb _ (I _ _ e),r⟩
end _S
namespace _2
open PySem PySem.Spec PyProof.Rows _S
inductive PrT(H:Hp):List V->List (List bh×V)->Prop
 |nil:PrT H [] []
 |cons {T b:eH} {k:List bh} {x:V} {vs:List V} {SY:List (List bh×V)} (hT:H T=cb (.tup [.ref b,x])) (hb:H b=cb (.tup<|k.map kV)) (r:PrT H vs SY):PrT H (.ref T::vs) ((k,x)::SY)
section
variable {X:Cx}{SW:Tf}{Z:St}{H:Hp}{s:eC}
theorem Inv.pair{T:eH}{y x:V}(I:Inv X SW Z H s)(h:H T=cb (.tup [y,x])):∃k v,RelV y k/\RelV x v/\sY s.heap T k v:=by
 obtain⟨_,f,r,o,e,⟨c,n,d⟩,_⟩:=(I.hok T _ h);obtain⟨k,v,rfl,b,a⟩:=r.two;exact⟨k,v,b,a,o,n,e,c,d⟩
theorem Inv.prT(I:Inv X SW Z H s):∀{vs:List V}{SY:List (List bh×V)},PrT H vs SY->∃(Ts:Tb)(rs:List (List bh×eH×cp)),vs=Ts.map V.ref/\KT H SY rs/\Ts.length=rs.length/\∀(i:Nat)(a:i<Ts.length)(h2:i<rs.length),sY s.heap Ts[i] (.ref rs[i].2.1) rs[i].2.2
 |_,_,.nil=>⟨[],[],rfl,.nil,rfl,λi h=>absurd h (PY _)⟩
 |_,_,.cons (T:=T) (b:=b) (k:=k) hT hb r=>by
  obtain⟨Ts,rs,rfl,q,e,f⟩:=I.prT r;obtain⟨j,v,g,c,p⟩:=I.pair hT;cases g;refine⟨T::Ts,(k,b,v)::rs,rfl,.cons ⟨rfl,hb,c⟩ q,by simp[e],λi a h2=>?_⟩
  cases i with
  |zero=>exact p
  |succ i=>exact f i (by simpa using a) (by simpa using h2)
theorem rB{xs:List (List bh×eH×cp)}{k:List bh}{b:eH}{u:cp}:(J' xs k b u).length<=xs.length+1:=by
 unfold J'
 grind
theorem iE:∀(rs xs:List (List bh×eH×cp)),(rs.foldl (λa r=>J' a r.1 r.2.1 r.2.2) xs).length<=xs.length+rs.length
 |[],xs=>by simp
 |r::rs,xs=>by
  have:=iE rs (J' xs r.1 r.2.1 r.2.2);have:=rB (xs:=xs) (k:=r.1) (b:=r.2.1) (u:=r.2.2);rw[Ng,Md];lia
theorem ED{SY:List (List bh×V)}{rs:List (List bh×eH×cp)}(h:KT H SY rs):∀{a:List (List bh×V)}{xs:List (List bh×eH×cp)},KT H a xs->KT H (SY.foldl (λa p=>di a p.1 p.2) a) (rs.foldl (λa r=>J' a r.1 r.2.1 r.2.2) xs):=by
 induction h with
 |nil=>exact λh=>h
 |@cons p q _ _ h t ih=>
  intro a xs b;rw[Ng,Ng];refine ih ?_;rw[<- h.1];exact b.put _ h.2.1 h.2.2
theorem Inv.ls{l:eH}{vs:List V}(I:Inv X SW Z H s)(e:Rd H l (.lst vs)):∃S3 n,Vals vs S3/\Gc s.heap l S3.toArray n:=by
 obtain⟨_,S3,n,r,q⟩:=(e.ok I.hok);exact⟨_,n,r,q⟩
theorem uJ(hc:X.calm=true)(hu:X.A.units+2<mv):bI X (.type "dict") (λxs H Q=>∃l vs SY,xs=[.ref l]/\Rd H l (.lst vs)/\PrT H vs SY/\SY.length<=1000000/\∀p,H p=ed->Q (.ref p) (upd H p<|.dT<|SY.foldl (λa p=>di a p.1 p.2) [])):=by
 intro SW s Z H xs us Q I r h;obtain⟨l,vs,SY,rfl,hl,pr,hz,q⟩:=h;obtain⟨u,rfl,ru⟩:=r.one;cases ru;obtain⟨Ts,j,rfl,kt,N,hpr⟩:=I.prT pr;obtain⟨C,n,rv,G⟩:=I.ls hl;obtain rfl:C=Ts.map MD:=o7 (f:=λa=>a) rv;have hrl:j.length<=1000000:=by rw[<- NF kt];exact hz
 have v:∀x∈j,(x9<|aP X.prog X.w).is s.heap x.1 x.2.1:=by
  have all:∀{a:List (List bh×V)}{m:List (List bh×eH×cp)},KT H a m->∀x∈m,(x9<|aP X.prog X.w).is s.heap x.1 x.2.1:=by
   intro a m q
   induction q with
   |nil=>intro x hx;exact nomatch hx
   |@cons p q ps qs hq t ih=>
    intro x hx;rcases Mm.mp hx with e|hx
    .subst e;exact iC I.hok (by rw[<- hq.1];exact hq.2.1)
    .exact ih x hx
  exact all kt
 have g:∀{h J:ka}{k:List bh}{a:eH},(x9<|aP X.prog X.w).is h k a->(∀o,h.get? a=cb o->J.get? a=cb o)->(x9<|aP X.prog X.w).is J k a:=λ{h J k a} z B=>by
  obtain⟨o,C,n,e,r⟩:=z;exact⟨o,C,n,B o e,r⟩
 have klt:∀x∈j,x.2.1<s.heap.objs.size:=λx hx=>by
  obtain⟨o,_,_,e,_⟩:=v x hx;exact Me e
 refine lK (T:="list") (fq:=[]) (ps:=j.map λr=>(MD r.2.1,r.2.2)) (I.ok.hd hc) (λi h=>h.DictOfH (x9<|aP X.prog X.w) s.heap.objs.size ((j.take i).foldl (λa r=>J' a r.1 r.2.1 r.2.2) [])/\∀x∈j,(x9<|aP X.prog X.w).is h x.1 x.2.1) ⟨_,G,rfl⟩ (by decide) (λA' s' Q' E' hh up k=>kU (up _ _ G) hh k) (uu (by simp[N]) G λi h1 h2=>?_) (by rintro i h ⟨⟨o,R,S,e,_⟩,_⟩;exact⟨o,e⟩) ?_ ?_ ?_ ?_
 .have h2':i<j.length:=by simpa using h2
  simp_all
 .intro J B hd
  exact⟨⟨_,#[],0,hd,⟨rfl,rfl,rfl⟩,rfl,rfl,λ_ hx=>by simp at hx,P7⟩,λx hx=>g (v x hx) λo e=>B _ o e⟩
 .rintro i h J ⟨⟨o,R,S,e1,U,e3,W,e5,e6⟩,B⟩ F
  refine⟨⟨o,R,S,F _ o (by simp) (Mo _) e1,U,e3,W,λx hx=>g (e5 x hx) λo e=>F _ o (by simp) ?_ e,e6⟩,(λx hx=>g (B x hx) λo e=>F _ o (by simp) (NS<|klt x hx) e)⟩
  have sub:∀(K L:List (List bh×eH×cp))(x:List bh×eH×cp),x∈K.foldl (λa r=>J' a r.1 r.2.1 r.2.2) L->(∃y∈K,y.2.1=x.2.1)\/∃y∈L,y.2.1=x.2.1:=by
   intro K
   induction K with
   |nil=>intro L x hx;exact .inr ⟨x,hx,rfl⟩
   |cons y K ih=>
    intro L x hx;rcases ih _ x hx with⟨z,hz,e⟩|⟨z,hz,e⟩
    .exact .inl ⟨z,MA _ hz,e⟩
    .replace hz:z∈J' L y.1 y.2.1 y.2.2:=hz
     unfold J' at hz
     split at hz
     .obtain⟨z',hz',rfl⟩:=Nd.mp hz
      refine .inr ⟨z',hz',?_⟩;rw[<- e];unfold putAt;split<;>rfl
     .rcases Ml.mp hz with hz|hz
      .exact .inr ⟨z,hz,e⟩
      .rw[MM]at hz;subst hz;exact .inl ⟨y,by simp,e⟩
  rcases sub _ _ x hx with⟨y,hy,e⟩|⟨y,hy,_⟩
  .rw[<- e];exact NS (klt y<|List.mem_of_mem_take hy)
  .cases hy
 .rintro i hi s' Q' E' ⟨hd,B⟩ hQ
  have P:i<j.length:=by simpa using hi
  simp only[OH];have E:((j.take i).foldl (λa r=>J' a r.1 r.2.1 r.2.2) []).length<=sizeLine:=by
   have:=iE (j.take i) [];have h2:(1000000:Nat)<=sizeLine:=by decide
   simp at this;lia
  refine wpAny_dictSet_heap (hu) (B j[i] (OG P)) hd (λJ Y sb=>hQ J _ ⟨?_,λx hx=>?_⟩ sb) E
  .rw[Pn P,List.foldl_append]
   exact Y
  .exact g (B x hx) λo e=>sb.extBut _ o (Mt<|klt x hx) e
 .rintro s' o1 o2 o3 ⟨hd,_⟩ hk0
  simp only[Mc,List.take_length]at hd;have M:=I.big;have hn:H s.heap.objs.size=none:=I.hok.fresh (Mo _);obtain⟨hh',g',d',t',os'⟩:=s';obtain rfl:os'=s.os:=o1;obtain rfl:g'=s.gens:=o2;obtain rfl:d'=s.drawn:=o3;have O:=ED kt (H:=H) (a:=[]) (xs:=[]) .nil;obtain⟨o,R,S,e1,U,e3,W,e5,e6⟩:=hd;refine⟨.ref s.heap.objs.size,_,I.laid (a:=s.heap.objs.size) (o:=.dT (SY.foldl (λa p=>di a p.1 p.2) [])) (t':=t') (λc o=>hk0 c o (by simp)) (Mo _) ⟨?_,beq_eq_false_iff_ne.mpr (NR M),_,O.keeps λb K e=>by rw[aC (bc e hn)];exact e,o,R,S,e1,U,e3,W,e6⟩,rfl,q _ hn⟩
  rw[NF O];have:=iE j [];have h2:(1000000:Nat)<=sizeLine:=by decide
  simp only[Mp]at this;lia
end
end _2
namespace _3
open PySem _2 _S
section
variable {X:Cx}{B:Bd}{K:Mi}{H:Hp}
noncomputable def ym:List D->Option (List (List bh×D))
 |[]=>cb []
 |.tup [k,v]::ds=>match yZ k,ym ds with
  |some ks,cb r=>cb ((ks,v)::r)
  |_,_=>ed
 |_=>ed
theorem AX:∀{ds:List D}{vs:List V}{SY:List (List bh×D)},Rps K H ds vs->ym ds=cb SY->∃i,PrT H vs i/\Rkv K H SY i
 |[],vs,SY,r,e=>by cases e;cases r;exact⟨[],.nil,.nil⟩
 |d::ds,vs,SY,r,e=>by
  obtain⟨v,C,rfl,a,b⟩:=r;unfold ym at e
  split at e
  .trivial
  .rename_i k x n h
   cases h
   split at e
   .rename_i F q u w
    cases e;obtain⟨i,s,m⟩:=AX b w;obtain⟨T,G,rfl,o,l⟩:=a;obtain⟨z,p,rfl,f,c⟩:=l;obtain⟨E,j,rfl,c,g⟩:=c;cases g;obtain⟨A,rfl,y⟩:=m7 f u;exact⟨_,.cons o y s,.cons ⟨rfl,c⟩ m⟩
   cases e
  cases e
theorem Ak{c:Type}[DecidableEq c]{a:List (c×D)}{b:List (c×V)}(h:Rkv K H a b):∀{a0:List (c×D)}{b0:List (c×V)},Rkv K H a0 b0->Rkv K H (a.foldl (λx p=>eN x p.1 p.2) a0) (b.foldl (λx p=>di x p.1 p.2) b0):=by
 induction h with
 |nil=>exact λh=>h
 |@cons p q _ _ h t ih=>
  intro a0 b0 e;rw[Ng,Ng];refine ih ?_;rw[<- h.1];exact e.put _ h.2
theorem E7{M:Mem}{d:D}{v:V}{xs:List D}(g:RepH K H M)(r:Rp K H d v)(e:dg M d=cb xs)(f:∀ys,d≠.ml ys):∃l vs,v=.ref l/\Rd H l (.lst vs)/\Rps K H xs vs:=by
 cases d with
 |lst ys=>
  cases e;obtain⟨p,vs,rfl,⟨o,h⟩,r⟩:=r;exact⟨p,vs,rfl,.inr ⟨o,h⟩,r⟩
 |ml ys=>exact absurd rfl (f ys)
 |ref a=>
  simp only[dg]at e
  split at e
  .rename_i ys q
   cases e;cases r;obtain⟨vs,c,b⟩:=g _ _ q;exact⟨a,vs,rfl,.inl c,b⟩
  .cases e
 |_=>cases e
def Hi:D->Bool
 |.ml _=>eP
 |_=>true
theorem Ck{d:D}(h:Hi d=true):∀ys,d≠.ml ys:=λys e=>by subst e;cases h
def pk:rM:=λb M Q=>match b with
 |[d]=>Hi d=true/\match dg M d with
  |some xs=>match ym xs with
   |some SY=>SY.length<=1000000/\∀p,M p=ed->Q (.ref p) (M.upd p<|.dT<|SY.foldl (λa p=>eN a p.1 p.2) [])
   |none=>False
  |none=>False
 |_=>False
theorem rW(hc:X.calm=true)(hu:X.A.units+64<mv):bI X (.type "dict") (liftC X pk):=by
 rintro SW s Z H xs us Q I r ⟨ds,M,QQ,rh,rp,h,up⟩
 unfold pk at h
 split at h
 .obtain⟨v,rfl,rv⟩:=eU (ds:=[]) rp
  obtain⟨hm,h⟩:=h
  split at h
  .rename_i ys e
   split at h
   .rename_i SY e2
    obtain⟨l,vs,rfl,hq,rr⟩:=E7 rh rv e (Ck hm);obtain⟨ws,h1,h2⟩:=AX rr e2;exact uJ hc (by lia) _ s Z H _ us Q I r ⟨l,vs,ws,rfl,hq,h1,by rw[<- h2.length];exact h.1,λp hp=>up _ _ (h.2 p<|rh.fresh hp) _ _ (rh.put (by rw[hp];trivial) ⟨_,upd_same,(Ak h2 .nil).mono<|Imm.new hp⟩) (Frm.put<|.inl hp) rfl⟩
   trivial
  trivial
 trivial
end
end _3
namespace _S
open PySem PySem.W PySem.Calls PyProof.Rows PyProof.V PySem.Spec _2
theorem DU{prog:g4}{w:kB}{A:kL}{E:Te}{s:eC}{d:eH}{o:Obj}{es:Array NE}{g:Nat}{Q:Te}(f:(d==pt)=eP)(c:s.heap.get? d=cb o)(i:o.ExactDict)(a:o.data=.dict es g)(e:(es.size:Int)<2 ^ 63)
  (h:Q (.int es.size (s.toks+1)) { s with toks:=s.toks+1+1 }):ft (fy prog w) A (call (.builtin "len") [.ref d]) Q E s:=by
 have b:s.TypeIs (.ref d) _:=⟨o,c,i.1⟩;refine P5 kind_len plain_len entry_len (args_len1 _) ?_;refine cx (fx<|wpAny_bind<|wpAny_callSpecial?_slot b Qi<|wpAny_call_entry Qi b PySem.F.entry_dict_len ?_<|PySem.F.args_dict_len_1 _);show ft _ _ (dictSize d >>= _) _ _ s;refine cx (cx<|wpAny_dictEntries c a<|wpAny_pure ?_);refine cx (wpAny_pendingCount_other f<|wpAny_ret_mkInt ?_);refine cx (lb<|wpAny_pure ?_);refine cx (wpAny_letGo ?_);rw[if_neg (by lia),if_neg (by lia)]
 exact cx (wpAny_mkInt<|wpAny_pure ⟨_,rfl,h⟩)
end _S
namespace _3
open PySem _2 _S
section
variable {X:Cx}{B:Bd}
def vV:rM:=λb M Q=>match b with
 |[.ref a]=>match M a with
  |some (.dT SY)=>Q (.int SY.length) M
  |_=>False
 |_=>False
theorem uf:bI X (.builtin "len") (liftC X vV):=by
 rintro f s Z H F L Q I r ⟨ds,M,QQ,i,p,h,E⟩
 unfold vV at h
 split at h
 .rename_i a
  obtain⟨v,rfl,w⟩:=eU (ds:=[]) p;cases w
  split at h
  .rename_i b e
   obtain⟨u,rfl,q⟩:=r.one;cases q;obtain⟨J,x,c⟩:=i _ _ e;obtain⟨z,y,F,C,o,l,G,A,m,j,n,K⟩:=(I.hok a _ x);have g:l.size=b.length:=by rw[<- MY,n,Mc,<- NF C,<- c.length]
   refine DU y A m j ?_ ?_
   .rw[g,c.length];rw[qa]at z;lia
   rw[g];exact⟨.int _,H,I.tok _,⟨_,rfl⟩,E _ M h _ H i Frm.refl rfl⟩
  trivial
 trivial
end
end _3
namespace _3
open PySem PySem.W PySem.Calls PyProof.Rows PyProof.V PySem.Spec _2
section
variable {X:Cx}{B:Bd}{SW:Tf}{Z:_2.St}{H:Hp}{s:eC}{M:Mem}
end
end _3
namespace _3
open PySem _2 _S
section
variable {X:Cx}{B:Bd}
end
end _3
namespace _2
open PySem PySem.Spec PyProof.Rows
section
variable {X:Cx}{e:hB}{te:TE}{st:hB}{ts:TO}{p2 pos:Pos}
end
end _2
namespace _3
open PySem _2
section
variable {X:Cx}{B:Bd}{K:Mi}{H:Hp}{M:Mem}{e:hB}{te:bi}{st:hB}{ts:F6}{pos p2:Pos}
end
section
variable {X:Cx}{B:Bd}{K:Mi}{H:Hp}
noncomputable def fk:List D->List D->List D->List D
 |x::xs,y::ys,u::us=>.tup [x,y,u]::fk xs ys us
 |_,_,_=>[]
theorem nC:∀{xs ys us:List D}{i:Nat}{d:D},(fk xs ys us)[i]?=cb d->∃x y u,xs[i]?=cb x/\ys[i]?=cb y/\us[i]?=cb u/\d=.tup [x,y,u]
 |x::xs,y::ys,u::us,0,d,h=>by simp[fk]at h;simp_all
 |x::xs,y::ys,u::us,i+1,d,h=>by simp only[Ma]at h ⊢;exact nC h
 |[],_,_,_,_,h=>by trivial
 |_::_,[],_,_,_,h=>by trivial
 |_::_,_::_,[],_,_,h=>by trivial
theorem nY:∀{xs ys us:List D}{i:Nat},(fk xs ys us).length<=i->xs.length<=i\/ys.length<=i\/us.length<=i
 |x::xs,y::ys,u::us,0,h=>by trivial
 |x::xs,y::ys,u::us,i+1,h=>by
  have:=nY (by simpa [fk] using h)
  simp_all
 |[],_,_,_,_=>.inl (by simp)
 |_::_,[],_,_,_=>.inr (by simp_all)
 |_::_,_::_,[],_,_=>.inr (by simp_all)
def rS(t:dX):yt:=λU M R=>t U M λa M1=>match a with
 |[d,e,f]=>match aE M1 d,aE M1 e,aE M1 f with
  |some xs,cb ys,cb us=>R ⟨fk xs ys us,bZ d xs++(bZ e ys++bZ f us)⟩ M1
  |_,_,_=>False
 |_=>False
theorem Bx{a b c:hB}{g:Tc}{A:Nat}{C:Pos}{l:dX}{p pos:Pos}(r:Gl X "zip")(s:X.mg "zip"=ed)(w:DA X B [a,b,c] l)
  (v:eT [a,b,c] X.env=[(eP,h9 a X.env),(eP,h9 b X.env),(eP,h9 c X.env)]:=by rfl) (hs2:eT [b,c] X.env=[(eP,h9 b X.env),(eP,h9 c X.env)]:=by rfl):
  DI X B (.Tuple g A C) (.Call (.Name "zip" p) [a,b,c] [] pos) (rS l):=by
 refine vB (λJ M1 R h=>?_) r s w (by rw[v,hs2]) (by rw[hs2];rfl)
 split at h
 .split at h
  .rename_i d e f _ E F M o q m
   refine⟨_,_,.inr rfl,.cons o (.cons q<|.cons m .nil),⟨λi z n=>?_,λi j=>?_⟩,by simpa [tq] using h⟩
   .obtain⟨x,y,u,I,L,G,rfl⟩:=nC n
    exact⟨_,rfl,by simp_all⟩
   simpa using (nY j)
  trivial
 trivial
end
end _3
namespace _S
open PySem PySem.W PyProof.Rows
variable{q:Array Nat}{h:ka}{ks:S8}{vs:Ta}{i j m:Nat}{Q:Nat×Array Nat->eC->Prop}{s:eC}
noncomputable def Kp(ky:Nat->Nat)(p:Array Nat)(i:Nat):Nat:=ky (p.getD i 0)
def Pm(n:Nat)(p:Array Nat):Prop:=p.toList.Perm (NV n)
def SU(ky:Nat->Nat)(p:Array Nat)(k:Nat):Prop:=∀i j,i<=j->j<k->Kp ky p i<=Kp ky p j
def SD(ky:Nat->Nat)(p:Array Nat)(k:Nat):Prop:=∀i j,i<=j->j<k->Kp ky p j<=Kp ky p i
def mR(n:Nat)(ky:Nat->Nat)(cmp:Nat->Nat->(Bool->eC->Prop)->eC->Prop)(s:eC):Prop:=∀i j,i<n->j<n->∀C:Bool->eC->Prop,C (decide (ky i<ky j)) s->cmp i j C s
section
variable{n:Nat}{ky:Nat->Nat}{cmp:Nat->Nat->(Bool->eC->Prop)->eC->Prop}{p:Array Nat}
theorem Pm.size(h:Pm n p):p.size=n:=by
 simpa using (List.Perm.length_eq h)
theorem Pm.lt(h:Pm n p)(b:i<n):p.getD i 0<n:=by
 have a:i<p.size:=by rw[Pm.size h];exact b
 have e:p.getD i 0=p[i]:=by simp[a]
 rw[e];exact Oq.mp (Qt h |>.mp (by simp))
theorem Pm.of(h:Pm n p)(e:q.Perm p):Pm n q:=(Array.perm_iff_toList_perm.mp e).trans h
theorem sP(h:q[i]?=p[j]?):q.getD i 0=p.getD j 0:=by
 simp_all
theorem fB(h:q[i]?=p[j]?):Kp ky q i=Kp ky p j:=congrArg ky (sP h)
theorem lm(a:j<=p.size)(k:Nat):Kp ky (SG p i j) k=if i<=k/\k<j then Kp ky p (i+j-1-k) else Kp ky p k:=by
 have e:=getElem?_mirror_all (i:=i) a k
 by_cases h:i<=k/\k<j
 .rw[if_pos h]at e ⊢
  exact fB e
 rw[if_neg h]at e ⊢;exact fB e
theorem Bc{src d:Nat}(b:src<p.size)(c:d<=src)(k:Nat):Kp ky (bubble p src d) k=if k=src-d then Kp ky p src else if src-d<k/\k<=src then Kp ky p (k-1) else Kp ky p k:=by
 have e:=getElem?_bubble b d c k
 by_cases h:k=src-d
 .rw[if_pos h]at e ⊢
  exact fB e
 rw[if_neg h]at e ⊢
 by_cases a:src-d<k/\k<=src
 .rw[if_pos a]at e ⊢
  exact fB e
 rw[if_neg a]at e ⊢;exact fB e
theorem zE{p:Array Nat}:∀k,m+1-(0+1)<=k->k<m+1->Kp ky p k=Kp ky p (m+1-1):=λk b a=>by
 have e:k=m:=by lia
 subst e;rfl
theorem SU1:SU ky p 1:=λi j a b=>by
 have e:i=j:=by lia
 rw[e];exact Mo _
theorem Pm.rev(h:Pm n p):Pm n (SG p i j):=h.of (mirror_perm ..)
theorem lH{a:Type}{k:Bool->KasT a}{Q:a->eC->Prop}(g:mR n ky cmp s)(f:i<n)(e:j<n)(b:ky i<ky j->(k true).kasWp cmp Q s)(h2:¬ky i<ky j->(k eP).kasWp cmp Q s):(KasT.ask i j k).kasWp cmp Q s:=by
 refine g i j f e _ ?_
 by_cases c:ky i<ky j
 .rw[decide_eq_true c];exact b c
 rw[decide_eq_false c];exact h2 c
theorem uH(l:mR n ky cmp s)(g:Pm n p):∀(f a:Nat)(Q:Nat->eC->Prop),1<=a->a+f<=n->SU ky p a->(∀m,a<=m->m<=a+f->SU ky p m->(m<a+f->Kp ky p m<Kp ky p (m-1))->Q m s)->(kas_asc p f a).kasWp cmp Q s
 |0,a,Q,h1,h2,hs,h=>h a (by lia) (by lia) hs (by lia)
 |f+1,a,Q,h1,h2,hs,h=>by
  refine lH l (g.lt<|by lia) (g.lt<|by lia) (λc=>?_) λc=>?_
  .exact h a (by lia) (by lia) hs λ_=>c
  refine uH l g f _ Q (by lia) (by lia) (λi j b r=>?_) λm v u o w=>h m (by lia) (by lia) o (by lia)
  by_cases e:j=a
  .subst e
   by_cases x:i=j
   .simp_all
   .exact My (hs i _ (by lia)<|by lia) (Og c)
  exact hs i j b (by lia)
theorem jM(v:mR n ky cmp s):∀(f:Nat)(p:Array Nat)(m q:Nat)(Q:Array Nat×Nat×Nat->eC->Prop),Pm n p->1<=m->m+f<=n->SD ky p m->q+1<=m->(∀k,m-(q+1)<=k->k<m->Kp ky p k=Kp ky p (m-1))->
  (∀a b g,Pm n a->m<=b->b<=m+f->SD ky a b->g+1<=b->(∀k,b-(g+1)<=k->k<b->Kp ky a k=Kp ky a (b-1))->Q (a,b,g) s)->(kas_desc f p m q).kasWp cmp Q s
 |0,p,m,q,Q,hp,h1,h2,hs,hq,he,h=>h p m q hp (Mo _) (by lia) hs hq he
 |f+1,p,m,q,Q,hp,h1,h2,hs,hq,he,h=>by
  have one:∀a,(∀k,Kp ky a k=Kp ky p k)->Kp ky p m<=Kp ky p (m-1)->SD ky a (m+1):=λa w c i j x G=>by
   rw[w,w]
   by_cases e:j=m
   .subst e
    by_cases H:i=j
    .simp_all
    .exact My c (hs i (j-1) (by lia)<|by lia)
   .exact hs i j x (by lia)
  refine lH v (hp.lt<|by lia) (hp.lt<|by lia) (λc=>?_) λc=>?_
  .have C:=NS c
   show (if q>0 then _ else _:KasT _).kasWp cmp Q s
   split
   .have w:∀k,Kp ky (SG p (m-(q+1)) m) k=Kp ky p k:=λk=>by
     rw[lm (by rw[hp.size];lia)]
     split
     .rename_i z
      rw[he _ (by lia) (by lia),he k z.1 z.2]
     .rfl
    exact jM v f _ (m+1) 0 Q hp.rev (by lia) (by lia) (one _ w C) (by lia) zE λa b g u B A l r o=>h a b g u (by lia) (by lia) l r o
   .exact jM v f p (m+1) 0 Q hp (by lia) (by lia) (one _ (λ_=>rfl) C) (by lia) zE λa b g u B A l r o=>h a b g u (by lia) (by lia) l r o
  .refine lH v (hp.lt<|by lia) (hp.lt<|by lia) (λy=>?_) λy=>?_
   .exact h p m q hp (Mo _) (by lia) hs hq he
   .have E:Kp ky p m=Kp ky p (m-1):=Nat.le_antisymm (Og y) (Og c)
    refine jM v f p (m+1) (q+1) Q hp (by lia) (by lia) (by simp_all) (by lia) (λk I F=>?_) λa b g u B A l r o=>h a b g u (by lia) (by lia) l r o
    show Kp ky p k=Kp ky p m
    by_cases e:k=m
    .rw[e]
    .rw[he k (by lia) (by lia),E]
theorem mG{b c:Type}{t:KasT b}{f:b->KasT c}{Q:c->eC->Prop}(h:t.kasWp cmp (λa s'=>(f a).kasWp cmp Q s') s):(t.bind f).kasWp cmp Q s:=by
 rw[KasT.kasWp_bind];exact h
theorem so(o:mR n ky cmp s)(b:Pm n p)(g:1<=m)(h2:m<=n)(l:SD ky p m)(h:∀a c,Pm n c->1<=a->a<=n->SU ky c a->Q (a,c) s):(kas_tail3 m n p).kasWp cmp Q s:=by
 refine mG (uH o b.rev _ m _ g (by lia) (λi j e u=>?_) λa v r f _=>h a _ b.rev (by lia) (by lia) f)
 rw[lm (by rw[b.size];lia),lm (by rw[b.size];lia),if_pos (by lia),if_pos (by lia)]
 exact l _ _ (by lia) (by lia)
theorem iR(f:mR n ky cmp s)(v:Pm n p)(B:1<=m)(h2:m+1<=n)(w:SD ky p (m+1))(h:∀a b,Pm n b->1<=a->a<=n->SU ky b a->Q (a,b) s):(kas_descPart m n p).kasWp cmp Q s:=by
 refine mG (jM f _ p _ 0 _ v (by lia) (by lia) w (by lia) zE λb a r e y A g x o=>?_)
 dsimp only
 split
 .refine so f e.rev (by lia) (by lia) (λi j c u=>?_) h
  have l:∀k,Kp ky (SG b (a-(r+1)) a) k=Kp ky b k:=λk=>by
   rw[lm (by rw[e.size];lia)]
   split
   .rename_i z
    rw[o _ (by lia) (by lia),o k z.1 z.2]
   rfl
  rw[l,l];exact g i j c u
 exact so f e (by lia) (by lia) g h
theorem B2(r:mR n ky cmp s)(a:Pm n p)(I:1<=n)(h:∀o w,Pm n w->1<=o->o<=n->SU ky w o->Q (o,w) s):(kas_count n p).kasWp cmp Q s:=by
 refine mG (uH r a _ 1 _ (by lia) (by lia) SU1 λm l G b x=>?_)
 by_cases e:m=n
 .subst e
  rw[if_pos (by simp)]
  exact h m p a l (by lia) b
 rw[if_neg (by simpa using e)]
 have lt:=x (by lia)
 by_cases g:m>1
 .rw[if_pos g]
  refine lH r (a.lt<|by lia) (a.lt<|by lia) (λc=>?_) λc=>?_
  .exact h m p a l (by lia) b
  have eq:∀k,k<m->Kp ky p k=Kp ky p (m-1):=λk f=>by
   have H:=b k (m-1) (by lia) (by lia)
   have F:=b 0 k (by lia) f
   have E:Kp ky p (m-1)<=Kp ky p 0:=Og c;lia
  have f:∀k,Kp ky (SG p 0 m) k=Kp ky p k:=λk=>by
   rw[lm (by rw[a.size];lia)]
   split
   .rename_i z
    rw[eq _ (by lia),eq k z.2]
   .rfl
  refine iR r a.rev l (by lia) (λi j v y=>?_) h
  rw[f,f]
  by_cases B:j=m
  .subst B
   by_cases A:i=j
   .rw[A];exact Mo _
   .rw[eq i (by lia)];lia
  .rw[eq i (by lia),eq j (by lia)];exact Mo _
 .have:m=1:=by lia
  subst this;refine iR r a l (by lia) (λi j v y=>?_) h
  have:Kp ky p 1<Kp ky p 0:=lt;have C:i=0\/i=1:=by lia
  have u:j=0\/j=1:=by lia
  rcases C with rfl|rfl<;>rcases u with rfl|rfl<;>lia
theorem lC(w:mR n ky cmp s)(e:Pm n p){k:Nat}(v:k<n)(o:SU ky p k):∀(f l r:Nat)(Q:Nat->eC->Prop),l<=r->r<=k->r-l<=f->(∀i,i<l->Kp ky p i<=Kp ky p k)->(∀i,r<=i->i<k->Kp ky p k<Kp ky p i)->
  (∀u,u<=k->(∀i,i<u->Kp ky p i<=Kp ky p k)->(∀i,u<=i->i<k->Kp ky p k<Kp ky p i)->Q u s)->(kas_place p k f l r).kasWp cmp Q s
 |0,l,r,Q,h1,h2,h3,a,b,h=>h l (by lia) a λi i1=>b i (by lia)
 |f+1,l,r,Q,h1,h2,h3,a,b,h=>by
  unfold kas_place
  by_cases c:l>=r
  .rw[if_pos c]
   exact h l (by lia) a λi i1=>b i (by lia)
  .rw[if_neg c]
   exact lH w (e.lt v) (e.lt<|by lia) (λg=>(lC w e v o f l _ Q (by lia) (by lia) (by lia) a (λi i1 i2=>Mz g (o _ i i1 i2)) h)) λg=>(lC w e v o f _ r Q (by lia) (by lia) (by lia) (λi i1=>My (o i _ (by lia)<|by lia) (Og g)) b h)
theorem A9(u:mR n ky cmp s):∀(f:Nat)(p:Array Nat)(k:Nat)(Q:Array Nat->eC->Prop),Pm n p->1<=k->k+f=n->SU ky p k->(∀o,Pm n o->SU ky o n->Q o s)->(kas_bin f p k).kasWp cmp Q s
 |0,p,k,Q,hp,h1,h2,hs,h=>h p hp (by simp_all)
 |f+1,p,k,Q,hp,h1,h2,hs,h=>by
  refine mG (lC u hp (by lia) hs k 0 k _ (by lia) (by lia) (by lia) (by lia) (by lia) λl v a b=>?_)
  refine A9 u f _ _ Q (hp.of<|bubble_perm ..) (by lia) (by lia) (λi j g w=>?_) h
  have sz:k<p.size:=by rw[hp.size];lia
  have e:k-(k-l)=l:=by lia
  rw[Bc sz (by lia),Bc sz (by lia),e]
  by_cases i1:i=l
  .rw[if_pos i1]
   by_cases c:j=l
   .simp_all
   .rw[if_neg c,if_pos (by lia)]
    exact NS (b _ (by lia)<|by lia)
  rw[if_neg i1]
  by_cases i2:l<i/\i<=k
  .rw[if_pos i2,if_neg (by lia),if_pos (by lia)]
   exact hs (i-1) (j-1) (by lia) (by lia)
  .rw[if_neg i2]
   by_cases c:j=l
   .rw[if_pos c];exact a i (by lia)
   .rw[if_neg c]
    by_cases r:l<j/\j<=k
    .rw[if_pos r];exact hs i (j-1) (by lia) (by lia)
    .rw[if_neg r];exact hs i j g (by lia)
theorem qB:Pm n (NX<|NV n):=by unfold Pm;simp
theorem Df(e:mR n ky cmp s)(f:1<=n){Q:Array Nat->eC->Prop}(h:∀p,Pm n p->SU ky p n->Q p s):(kas_sort n).kasWp cmp Q s:=by
 refine mG (B2 e qB f λm p b c g a=>?_)
 split
 .rw[Nat.max_eq_left c]
  exact A9 e _ p m Q b c (by lia) a h
 have:m=n:=by lia
 subst this;exact h p b a
end
noncomputable def lh:List Int->List Int->Bool
 |[],[]=>eP
 |[],_::_=>true
 |_::_,[]=>eP
 |x::xs,y::ys=>if x=y then lh xs ys else decide (x<y)
theorem vU:∀x:List Int,lh x x=eP
 |[]=>rfl
 |x::xs=>by simp[lh,vU xs]
theorem qI:∀x y:List Int,lh x y=eP->lh y x=eP->x=y
 |[],[],_,_=>rfl
 |[],_::_,h,_=>by trivial
 |_::_,[],_,h=>by trivial
 |x::xs,y::ys,h1,h2=>by
  unfold lh at h1 h2
  by_cases c:x=y
  .subst c
   rw[if_pos rfl]at h1 h2;rw[qI xs ys h1 h2]
  rw[if_neg c]at h1;rw[if_neg (by lia)]at h2
  simp at h1 h2;lia
theorem qr:∀x y z:List Int,lh y x=eP->lh z y=eP->lh z x=eP
 |[],[],[],_,_=>rfl
 |[],[],_::_,_,h=>rfl
 |[],_::_,[],_,h=>by rfl
 |[],_::_,_::_,_,_=>rfl
 |_::_,[],_,h,_=>by trivial
 |_::_,_::_,[],_,h=>by assumption
 |x::xs,y::ys,z::zs,h1,h2=>by
  unfold lh at h1 h2 ⊢
  by_cases c:y=x
  .rw[if_pos c]at h1
   subst c
   by_cases d:z=y
   .rw[if_pos d]at h2 ⊢;exact qr xs ys zs h1 h2
   simp_all
  rw[if_neg c]at h1
  by_cases d:z=y
  .simp_all
  rw[if_neg d]at h2;simp at h1 h2;rw[if_neg (by lia)]
  simp;lia
theorem ma:∀x y:List Int,lh x y=true->lh y x=eP
 |[],[],h=>by rfl
 |[],_::_,_=>rfl
 |_::_,[],h=>by trivial
 |x::xs,y::ys,h=>by
  unfold lh at h ⊢
  by_cases c:x=y
  .subst c
   rw[if_pos rfl]at h ⊢;exact ma xs ys h
  rw[if_neg c]at h;rw[if_neg (by lia)]
  simp at h ⊢;lia
noncomputable def xG:Ord (List Int):=⟨lh,qI,qr,ma⟩
theorem xp{a:Type}{p q:a->Bool}:∀{l:List a},(∀x∈l,p x=true->q x=true)->(∃y∈l,q y=true/\p y=eP)->l.countP p<l.countP q
 |[],_,⟨_,h,_⟩=>by cases h
 |x::l,h,⟨y,hy,hq,hp⟩=>by
  have mono:l.countP p<=l.countP q:=QE (by simp_all)
  rw[List.countP_cons,List.countP_cons];rcases Mm.mp hy with e|hy
  .subst e
   rw[if_pos hq,hp];simp;lia
  have:=xp (by simp_all) ⟨y,hy,hq,hp⟩
  cases c:p x with
  |false=>simp;split<;>lia
  |true=>simp_all
noncomputable def rk(ks:S8)(i:Nat):Nat:=ks.countP λx=>lh x (ks.getD i [])
theorem Fk(g:i<ks.length):decide (rk ks i<rk ks j)=lh (ks.getD i []) (ks.getD j []):=by
 unfold rk;have e:ks.getD i []∈ks:=by simp[g]
 generalize ks.getD i []=a at e;generalize ks.getD j []=b;cases c:lh a b with
 |true=>
  refine decide_eq_true (xp (λx f h=>?_) ⟨a,e,c,vU a⟩);cases d:lh x b with
  |true=>rfl
  |false=>
   have:=qr a b x (ma a b c) d
   simp_all
 |false=>
  refine decide_eq_false (OQ.mpr (QE λx f h=>?_));cases d:lh x a with
  |true=>rfl
  |false=>
   have:=qr b a x c d
   simp_all
section
variable{prog:g4}{w:kB}{A:kL}{b:Bool}{Q:Bool->eC->Prop}
theorem zH:∀(xs ys:S9)(us vs:Ta)(i:Nat),Pv us xs->Pv vs ys->Q (lh xs ys) s->KatLex prog w A b (decide (xs.length<ys.length)) Q (us.zip vs) i s:=by
 intro xs
 induction xs with
 |nil=>
  intro ys us vs i e a h;cases e;cases a<;>assumption
 |cons x xs ih=>
  intro ys us vs i e a h;cases e with
  |cons _ _ e=>
   cases a with
   |nil=>
    assumption
   |@cons y _ _ ys' a=>
    rw[QX];refine kat_cons (wpAny_eqBool_int (kat_go (λc=>kat_yes ?_) λc=>kat_no ?_))
    .unfold lh at h
     simp_all
    .unfold lh at h
     rw[if_neg (by simpa using c)]at h
     cases (b&&i==0) with
     |true=>exact oneLt_int h
     |false=>exact kat_one _ _ (wpAny_lt_int h)
end
inductive TupsAt(h:ka):List cp->List (List Int)->Prop
 |nil:TupsAt h [] []
 |cons {a:eH} {o:Obj} {us:Ta} {n:Nat} {k:S9} {vs:Ta} {ks:S8} (ho:h.get? a=cb o) (hc:o.cls=.type "tuple") (hd:o.data=.seq us.toArray n) (hi:Pv us k) (r:TupsAt h vs ks):TupsAt h (.ref a::vs) (k::ks)
theorem TupsAt.keep{h':ka}(t:TupsAt h vs ks)(k:∀b o,h.get? b=cb o->o.cls=.type "tuple"->h'.get? b=cb o):TupsAt h' vs ks:=by
 induction t with
 |nil=>exact .nil
 |cons ho hc hd hi r ih=>exact .cons (k _ _ ho hc) hc hd hi ih
theorem TupsAt.len(t:TupsAt h vs ks):ks.length=vs.length:=by
 induction t<;>simp_all
theorem TupsAt.at{h:ka}{vs:Ta}{ks:S8}(t:TupsAt h vs ks):∀i,i<vs.length->∃a o us n,vs.getD i Nl=.ref a/\h.get? a=cb o/\o.data=.seq (NX us) n/\Pv us (ks.getD i []):=by
 induction t with
 |nil=>intro i b;simp at b
 |@cons a o us n k vs ks ho hc hd b r ih=>
  intro i p;cases i with
  |zero=>exact⟨a,o,us,n,rfl,ho,hd,b⟩
  |succ i=>
   obtain⟨c,f,g,l,e,q⟩:=ih i (by simp_all)
   exact⟨c,f,_,l,by simpa using e,by simpa using q⟩
theorem TupsAt.firsts(t:TupsAt h vs ks)(b:∀k∈ks,k≠[]):∃fs,KatTups h vs fs/\fs.length=vs.length/\∀v∈fs,∃i t,v=Qd i t:=by
 induction t with
 |nil=>exact⟨[],trivial,rfl,by simp_all⟩
 |@cons a o us n k vs ks ho hc hd hi r ih=>
  obtain⟨fs,e,c,g⟩:=ih λk f=>b k (by simp_all)
  cases hi with
  |nil=>simp_all
  |cons x t hi=>
   refine⟨.int x t::fs,.cons ho hc hd (by simp) e,by simp[c],λv hv=>?_⟩
   rcases Mm.mp hv with rfl|hv
   .exact⟨_,_,rfl⟩
   simp_all
theorem kD:∀{us:Ta}{k:S9},Pv us k->us.length=k.length
 |_,_,.nil=>rfl
 |_,_,.cons _ _ r=>by simp[kD r]
section
variable{prog:g4}{w:kB}{A:kL}{E:Te}
theorem yi{b:Bool}(t:TupsAt s.heap vs ks):mR vs.length (rk ks) (kas_ask prog w A (tuples' b) vs) s:=by
 intro i j p x C h;obtain⟨a,o,r,n,z,u,v,g⟩:=t.at i p;obtain⟨G,I,f,H,B,e,c,l⟩:=t.at j x;unfold kas_ask;rw[z,B];refine kat_lt u v e c ?_;have F:r.toArray.size=(ks.getD i []).length:=by
  simpa using (kD g)
 have y:f.toArray.size=(ks.getD j []).length:=by
  simpa using (kD l)
 rw[F,y];refine zH _ _ r _ 0 g l ?_;rw[<- Fk (by rw[t.len];exact p)]
 exact h
theorem mw{a:eH}{n:Nat}{P:Fin->eC->Prop}(F:s.heap.get? a=cb (SE "list" vs.toArray n))(Z:TupsAt s.heap vs ks)(I:∀k∈ks,k≠[])(H:vs.length<64)(h:∀p:Array Nat,Pm vs.length p->SU (rk ks) p vs.length->P (.done<|.ret .none) { s with heap:=sortedHeap s.heap a vs (NX (p.toList.map λi=>vs.getD i Nl)) }):
  ft (fy prog w) A (Builtin.«list.sort» ⟨[.ref a],[]⟩) P E s:=by
 rw[list_sort_plain];refine cx (listItems_at F rfl ?_);refine cx (Sv F rfl ?_ (by rw[Mr,qa];lia)<|Nj _)
 obtain⟨C,g⟩:∃C,(s.heap.update a (Nm λ_=>#[])).get? a=cb (SE "list" #[] C):=⟨_,get?_update_seq F λ_=>#[]⟩;refine cx (SM g rfl ?_);refine cx (y' ?_<|by show vs.length<=_;rw[qa];lia)
 refine cx (wpAny_newList ?_<|Nj _);refine lb ?_;have S:∀b o,b≠a->s.heap.get? b=cb o->(((s.heap.update a (Nm λ_=>#[])).push<|seqObj "tuple" vs.toArray 0).push<|seqObj "list" #[] 0).get? b=cb o:=λb o Y e=>
  Mb _ (Mb _<|(Ni ..).extBut b o Y e)
 have f:(((s.heap.update a (Nm λ_=>#[])).push<|seqObj "tuple" vs.toArray 0).push<|seqObj "list" #[] 0).get? a=cb (SE "list" #[] C):=Mb _ (Mb _ g);have l:=Z.keep λb o e hc=>S b o (by lia) e
 dsimp only;have X:vs.toArray.size=vs.length:=by simp
 by_cases x:vs.toArray.size<2
 .rw[if_pos x,if_pos x]
  refine cx (fx ?_);rw[StateT.run_pure];refine cx (fx ?_);dsimp only;refine cx (SM f rfl ?_);have K:(arrOf<|SortSt.mk' general' (vs.toArray.zip vs.toArray) #[] 7 ed).map (·.2)=NX ((NX<|NV vs.length).toList.map λi=>vs.getD i Nl):=by
   apply Array.toList_inj.mp;rw[Array.toList_map,Array.toList_zip];refine List.ext_getElem (by simp) λi J x=>?_
   simp at J;simp[J]
  refine cx (Sv f rfl ?_ (Nj _)<|by rw[K];simp;rw[qa];lia)
  simp only[bne_self_eq_false,MC,if_false];refine fx ?_;rw[K];refine h _ qB λi j M hj=>?_;have:i=j:=by lia
  rw[this];exact Mo _
 .rw[if_neg x,if_neg x]
  obtain⟨fs,W,f2,O⟩:=l.firsts I;refine cx (kat_kind (T:=.type "int") W (by lia) (λv L=>?_) rfl ?_)
  .obtain⟨i,t,rfl⟩:=O v L
   exact .now
  refine cx (l' (kat_run (Q:=λc u=>∃p:Array Nat,arrOf c=p.map _/\failedOf c=ed/\u={ s with heap:=((s.heap.update a (Nm λ_=>#[])).push _).push (SE "list" #[] 0) }/\Pm vs.length p/\SU (rk ks) p vs.length)
   (G:=λp u=>u={ s with heap:=((s.heap.update a (Nm λ_=>#[])).push _).push (SE "list" #[] 0) }/\Pm vs.length p/\SU (rk ks) p vs.length) rfl (by lia) H
   (λN c u a1 U R z=>⟨N,U,R,z.1,z.2.1,z.2.2⟩) (Df (yi l) (by lia) λp y B=>⟨rfl,y,B⟩)) ?_ λ_ _ e=>e)
  rintro⟨⟨⟩,c⟩ u ⟨p,har,hf,rfl,y,B⟩
  dsimp only;have r:=kat_snds rfl har;rw[r];refine cx (SM f rfl ?_);refine cx (Sv f rfl ?_ (Nj _)<|by have:=y.size;simp;rw[this,qa];lia)
  rw[hf];simp;exact fx (h p y B)
theorem qW{l:eH}{Q:Te}(v:s.heap.IsList l vs.toArray)(x:TupsAt s.heap vs ks)(g:∀k∈ks,k≠[])(f:vs.length<64)(h:∀p:Array Nat,Pm vs.length p->SU (rk ks) p vs.length->Q (.ref (s.heap.objs.size+1)) { s with heap:=sortedAll s.heap vs (NX (p.toList.map λi=>vs.getD i Nl)) }):
  ft (fy prog w) A (call (.builtin "sorted") [.ref l]) Q E s:=by
 refine P5 kind_sorted plain_sorted entry_sorted (args_sorted1 _) ?_;refine cx (fx ?_);refine cx (collect_list v ?_<|by rw[qa];lia)
 refine cx (wpAny_newList ?_<|by rw[qa];lia)
 have a:((s.heap.push<|seqObj "list" #[] 0).update s.heap.objs.size<|Nm (·++vs.toArray)).objs.size=s.heap.objs.size+1:=by
  simp_all
 have c:(((s.heap.push<|seqObj "list" #[] 0).update s.heap.objs.size<|Nm (·++vs.toArray)).push<|seqObj "list" vs.toArray 0).get? (s.heap.objs.size+1)=cb (SE "list" vs.toArray 0):=by
  rw[<- a];exact Mn _ rfl
 have n:TupsAt (((s.heap.push<|seqObj "list" #[] 0).update _<|Nm (·++vs.toArray)).push<|seqObj "list" vs.toArray 0) vs ks:=x.keep λb o e _=>
  Mb _ ((Ni ..).extBut b o (Mt<|Me e)<|Mb _ e)
 rw[a];exact cx (lb<|wpAny_call_entry slot_list_sort ⟨_,c,rfl⟩ entry_list_sort (mw c n g f λp u r=>⟨_,rfl,fx ⟨_,rfl,h p u r⟩⟩)<|args_list_sort _)
end
end _S
namespace _3
open PySem _2 _S
noncomputable def tupD(k:S9):D:=.tup (k.map D.int)
noncomputable def nG:List D->Option (List<|List Int)
 |[]=>cb []
 |.tup xs::ds=>match dw xs,nG ds with
  |some k,cb ks=>cb (k::ks)
  |_,_=>ed
 |_=>ed
theorem iQ:∀{xs:List D}{k:S9},dw xs=cb k->xs=k.map D.int
 |[],k,h=>by cases h;rfl
 |d::xs,k,h=>by
  cases d with
  |int i=>
   simp[dw]at h
   split at h
   .rename_i e;cases h;rw[iQ e];rfl
   cases h
  |_=>cases h
theorem lW:∀{ds:List D}{ks:S8},nG ds=cb ks->ds=ks.map tupD
 |[],ks,h=>by cases h;rfl
 |d::ds,ks,h=>by
  cases d with
  |tup xs=>
   simp[nG]at h
   split at h
   .rename_i b a;cases h;rw[iQ b,lW a];rfl
   cases h
  |_=>cases h
theorem Im{ks:S8}{p:Array Nat}(a:Pm ks.length p)(n:SU (rk ks) p ks.length):p.toList.map (λi=>ks.getD i [])=Bo xG ks:=by
 refine zQ _ ?_ ?_
 .refine NB.mpr λi j m c g=>?_
  have sz:=a.size;simp at m c;simp only[OH,Array.getElem_toList];have b:=n i j (by lia) (by lia)
  unfold Kp at b;have h:p.getD j 0=p[j]:=by simp[c]
  have l:p[j]<ks.length:=by
   have:=a.lt (i:=j) (by lia)
   rw[h]at this;exact this
  show lh _ _=eP;rw[<- Fk l]
  simp_all
 have:=List.Perm.map (λi=>ks.getD i []) a;have e:(NV ks.length).map (λi=>ks.getD i [])=ks:=by
  refine List.ext_getElem (by simp) λi b f=>?_
  simp[f]
 rw[e]at this;exact this
section
variable {X:Cx}{B:Bd}
theorem vD{c:Tf}{Z:_2.St}{H:Hp}{s:eC}(I:Inv X c Z H s):∀{ks:S8}{vs:List V}{S3:Ta},Rps X.K H (ks.map tupD) vs->Vals vs S3->TupsAt s.heap S3 ks
 |[],_,_,r,v=>by
  cases r;cases v;exact .nil
 |k::ks,_,_,r,v=>by
  obtain⟨x,y,rfl,a,b⟩:=r;cases v with
  |cons rx v=>
   obtain⟨p,u,rfl,h,f⟩:=a;cases rx;obtain⟨w,j,m,q⟩:=I.tuple h.sq;obtain⟨o,e,l,n,g⟩:=m;have i:=sv f (k_ k);subst i;exact .cons e l g (zr j) (vD I b v)
theorem rZ{K:Mi}{H:Hp}{ks:S8}{vs:List V}(r:Rps K H (ks.map tupD) vs):∀l:List Nat,(∀i∈l,i<ks.length)->Rps K H ((l.map λi=>ks.getD i []).map tupD) (l.map λi=>vs.getD i .non)
 |[],_=>rfl
 |i::l,h=>by
  have e:(ks.map tupD)[i]?=cb (tupD<|ks.getD i []):=by simp_all
  obtain⟨v,c,a⟩:=r.get e;have b:vs.getD i .non=v:=by simp_all
  rw[Ms,Ms,Ms,b];exact .cons a (rZ r l<|by simp_all)
theorem nD{vs:List V}{S3:Ta}(r:Vals vs S3):∀l:List Nat,(∀i∈l,i<vs.length)->Vals (l.map λi=>vs.getD i .non) (l.map λi=>S3.getD i Nl)
 |[],_=>.nil
 |i::l,h=>by
  have a:=h i (by simp)
  obtain⟨v,f,b⟩:=r.get (Mj a);have c:vs.getD i .non=vs[i]:=by simp[a]
  have e:S3.getD i Nl=v:=by simp_all
  rw[Ms,Ms,c,e];exact .cons b (nD r l<|by simp_all)
def dG:rM:=λa M Q=>match a with
 |[d]=>match dg M d with
  |some xs=>match nG xs with
   |some ks=>ks.length<64/\(∀k∈ks,k≠[])/\∀p,M p=ed->Q (.ref p) (M.upd p<|.lst<|(Bo xG ks).map tupD)
   |none=>False
  |none=>False
 |_=>False
theorem o9:bI X (.builtin "sorted") (liftC X dG):=by
 rintro SW s Z H xs us Q I r ⟨ds,M,QQ,rh,rp,h,up⟩
 unfold dG at h
 split at h
 .obtain⟨v,rfl,rv⟩:=eU (ds:=[]) rp
  split at h
  .rename_i ys e
   obtain⟨q,vs,rfl,hq,rr⟩:=eh rh rv e
   split at h
   .rename_i ks es
    obtain⟨h64,hne,h⟩:=h;have:=lW es;subst this;obtain⟨u,rfl,ru⟩:=iP r;cases ru;obtain⟨S3,r',pl,hz⟩:=I.list (.inl hq);have hlen:=r'.length;have ta:=vD I rr r';have tl:=ta.len;refine qW pl.isList ta hne (by lia) λp hp hs=>?_
    rw[<- tl]at hp hs;obtain⟨k,hk⟩:=PyProof.Rows.sortedAll_at _ _ _;have hn:=I.hok.fresh (PK _);have hin:∀i∈p.toList,i<ks.length:=λi hi=>Oq.mp ((Qt hp).mp hi);have rq:=rZ rr _ hin;rw[(Im hp hs)]at rq;have vq:=nD r' _ λi hi=>by have:=hin i hi;lia
    refine⟨.ref _,_,I.laid (λb o=>PyProof.Rows.sortedAll_old) (PK _) (show ObjOk _ _ _ _ _ (.lst _) from ⟨?_,_,k,vq,hk⟩),rfl,?_⟩
    .rw[Mc,MY,hp.size];exact My (NS h64) (by decide)
    exact up _ _ (h _<|rh.fresh hn) _ _ (rh.put (by rw[hn];trivial) ⟨_,upd_same,rq.mono<|Imm.new hn⟩) (Frm.put<|.inl hn) rfl
   trivial
  trivial
 trivial
end
end _3
namespace HT
open PySem PyProof.Rows
section
variable {prog:g4}{w:kB}{A:kL}{E:Te}{s:eC}
end
end HT
namespace _2
open PySem PySem.Spec PyProof.Rows
section
variable {X:Cx}{e:hB}{te:TE}{st:hB}{ts:TO}{p2 pos:Pos}
end
end _2
namespace _3
open PySem _2
variable{B:Bd}{X:Cx}{e:hB}{pos:Pos}{x:Str}{ta te:bi}{r:vx}
section
variable{st:hB}{ts:F6}{p2:Pos}
end
structure GF(K:Mi)(mg:Tg)(x:Str)(st:py)(f:eH)(fd:k6)(ps:S_):Prop where
 F:Fun K x x st f fd
 b:Binds K fd ps []
 k:NN K (.ref f)=true
 m:mg x=cb (.ref f)
structure GA(K:Mi)(mg:Tg)(x y:Str)(st:py)(f:eH)(fd:k6)(ps:S_):Prop where
 F:Fun K y y st f fd
 b:Binds K fd ps []
 k:NN K (.ref f)=true
 m:mg x=cb (.ref f)
structure FunV(K:Mi)(x SX:Str)(st:py)(f:eH)(fd:k6):Prop where
 ex:∃(oc:cp)(od:Option eH)(kV doc pm:cp)(an:Option eH)(cdv ct:cp)(osl:Array (Option cp))(T:eH),
  fd=O8 x SX (dj st) (cC st) (bq st) (.ref T) kV doc pm an cdv ct/\K.lookup f=cb ⟨oc,od,.func fd,osl⟩/\W.codeIn K cdv SX=true
 kp:NN K (.ref f)=true
structure GV(K:Mi)(mg:Tg)(x:Str)(st:py)(f:eH)(fd:k6)(ps:S_)(dv:Int):Prop where
 F:FunV K x x st f fd
 b:Binds K fd ps []
 d:∃t,Binds K fd ps [.int dv t]
 k:NN K (.ref f)=true
 m:mg x=cb (.ref f)
inductive GC(K:Mi)(mg:Tg)(x:Str)(st:py)(f:eH)(fd:k6)(ps:S_):Prop
 |g (h:GF K mg x st f fd ps):GC K mg x st f fd ps
 |a {y:Str} (h:GA K mg x y st f fd ps):GC K mg x st f fd ps
 |v {dv:Int} (h:GV K mg x st f fd ps dv):GC K mg x st f fd ps
structure GM(K:Mi)(C:eH)(x SX:Str)(st:py)(f:eH)(fd:k6)(ps:S_):Prop where
 F:Fun K x SX st f fd
 b:Binds K fd ps []
 m:Meth K C x f
structure GI(K:Mi)(C:eH)(x SX:Str)(st:py)(f:eH)(fd:k6)(ps:S_):Prop where
 F:Fun K x SX st f fd
 b:Binds K fd ps []
 m:Mk K C f
section
variable{CX:pT}{k n:Nat}{f C:eH}{fd:k6}{N ps:S_}{T:Sd}{EE:DX}{E:XK}{SX:Str}{st:py}{p S2:Pos}{o:hB}{es:Tc}{t:dX}
theorem A4(h:GC X.K X.mg x st f fd ps)(F:FnOk X.prog X.w X.K X.mg X.base CX k f fd ps (bW X.K n T))(j:Room k X.A)(l:Gl X x)(q:cj CX X E)(ux:yI X.K B EE E)(u:DA X B (e::es) t)(c:(x==("__debug__":Str))=eP)(s:eT (e::es) X.env=(eP,h9 e X.env)::eT es X.env)(i:(lq pos<|starEach es X.env).any (·.1)=eP):
  DE X B (.Call (.Name x p) (e::es) [] pos) (ak T EE n t):=by
 cases h with
 |g h=>exact qm F j l h.m h.k h.b q ux u c s i
 |a h=>exact qm F j l h.m h.k h.b q ux u c s i
 |v h=>exact qm F j l h.m h.k h.b q ux u c s i
def Gk(X:Cx)(B:Bd)(x:Str)(T:Sd)(EE:DX)(n:Nat):Prop:=∃(st:py)(f:eH)(fd:k6)(ps:S_)(k:Nat)(CX:pT)(E:XK),GC X.K X.mg x st f fd ps/\FnOk X.prog X.w X.K X.mg X.base CX k f fd ps (bW X.K n T)/\Room k X.A/\cj CX X E/\yI X.K B EE E
theorem B8(h:Gk X B x T EE n)(i:Gl X x)(j:DA X B (e::es) t)(a:(x==("__debug__":Str))=eP)(l:eT (e::es) X.env=(eP,h9 e X.env)::eT es X.env)(b:(lq pos<|starEach es X.env).any (·.1)=eP):
  DE X B (.Call (.Name x p) (e::es) [] pos) (ak T EE n t):=by
 obtain⟨_,_,_,_,_,_,_,h,F,g,c,ux⟩:=h;exact A4 h F g i c ux j a l b
theorem Am(h:GI X.K C SX x st f fd ps)(F:FnOk X.prog X.w X.K X.mg X.base CX k f fd ps (bW X.K n T))(g:Room (k+1) X.A){y:Str}(i:Gl X y)(j:X.mg y=cb (.ref C))(l:cj CX X E)(ux:yI X.K B EE E)(s:DA X B (e::es) t)(a:(y==("__debug__":Str))=eP)(q:eT (e::es) X.env=(eP,h9 e X.env)::eT es X.env)(c:(lq pos<|starEach es X.env).any (·.1)=eP):
  DE X B (.Call (.Name y p) (e::es) [] pos) (wB C T EE n t):=BH h.m F g i j h.b l ux s a q c
theorem AY{m:Str}{pl:Sem Bool}(q:DE X B o ta)(c:Cls X.K C)(h:GM X.K C m SX st f fd ps)(F:FnOk X.prog X.w X.K X.mg X.base CX k f fd ps (bW X.K n T))(i:Room k X.A)(l:cj CX X E)(ux:yI X.K B EE E)(s:DA X B (e::es) t)(a:eT (e::es) X.env=(eP,h9 e X.env)::eT es X.env)(g:(lq pos<|starEach es X.env).any (·.1)=eP)(j:h9 (.Call (.Attribute o m S2) (e::es) [] pos) X.env=(do
   let ov <- h9 o X.env
   R6 S2.atName
   let (f,first) <- K' [ov] (Sf ov m pl)
   callWith pos f first (lq pos<|starEach (e::es) X.env) (Os pos<|keywordEach [] X.env))):
  DE X B (.Call (.Attribute o m S2) (e::es) [] pos) (iZ C m T EE n ta t):=Bw q c h.m F i h.b l ux s a g j
inductive FC(X:Cx)(scope:L'):List Str->List Nat->List (Str×eH)->Prop
 |nil:FC X scope [] [] []
 |cons {x:Str} {j:Nat} {c:eH} {fs:S_} {js:List Nat} {cl:List (Str×eH)}:X.N[j]?=cb x->X.env.cells.lookup x=cb c->(X.env.kindOf x=cb .cell\/X.env.kindOf x=cb .free)->
   ((Ps scope X.env).names.lookup x=cb .cell\/(Ps scope X.env).names.lookup x=cb .free)->FC X scope fs js cl->FC X scope (x::fs) (j::js) ((x,c)::cl)
theorem FC.ok{g:L'}{fs:S_}{l:List Nat}{j:List (Str×eH)}(h:FC X g fs l j):Frees X g fs l/\∃i:List eH,fs.length=i.length/\j=fs.zip i/\∀p∈j,X.env.cells.lookup p.1=cb p.2:=by
 induction h with
 |nil=>exact⟨.nil,[],rfl,rfl,memZ⟩
 |cons a b c d _ ih=>
  obtain⟨u,i,q,m,s⟩:=ih;exact⟨.cons a c d u,_::i,congrArg _ q,by rw[m];rfl,memC b s⟩
variable{scope:L'}{cl:List (Str×eH)}{ls fs:S_}{js:List Nat}{tg iter elt:hB}{ifs:Tc}{wi:yt}{g:jd}{tt:eO}{i:Nat}{px spos:Pos}
theorem nodC{a:eC}{H₀:Hp}{b:Tb}{pl:Tf}(h:N.Nodup):(aY X N scope cl C a H₀ b pl).N.Nodup:=h
theorem xw(h:FC X scope fs js cl)(m:scope.kind=.function)(q:∀y∈scope.names,y.2≠.cell/\(y.2=.free->y.1∈fs))(s:∀x∈scope.names,x.2=.local->scope.names.lookup x.1=cb .local)(a:R0 scope X.env=pure cl):CompOk X scope cl ls fs js:=by
 obtain⟨l,u,c,b,j⟩:=h.ok;subst b;exact Dw m q s c a j l
theorem AA(F:X.calm=true)(h:FC X scope fs js cl)(q:scope.kind=.function)(s:∀y∈scope.names,y.2≠.cell/\(y.2=.free->y.1∈fs))(w:∀x∈scope.names,x.2=.local->scope.names.lookup x.1=cb .local)(m:R0 scope X.env=pure cl)(z:DI X B tg iter wi)(G:∀(C:eH)(j:eC)(H₀:Hp)(l:Tb)(pl:Tf),DG (aY X (ls++fs) scope cl C j H₀ l pl) ua tg g)(v:∀(C:eH)(j:eC)(H₀:Hp)(l:Tb)(pl:Tf),Jf (aY X (ls++fs) scope cl C j H₀ l pl) ua ifs tt)(u:∀(C:eH)(j:eC)(H₀:Hp)(l:Tb)(pl:Tf),DE (aY X (ls++fs) scope cl C j H₀ l pl) ua elt te)(A:∀x,ol iter X.env x=pure x):DE X B (.ListComp elt [⟨tg,iter,ifs,0⟩] scope pos) (bf wi ls js g tt te):=
 Eh F (xw h q s w m) z (λa b c d e=>⟨G a b c d e,v a b c d e,u a b c d e⟩) A
theorem yW(A:X.N.Nodup)(m:X.N[i]?=cb x)(L:yG X.env.scope x)(F:X.calm=true)(h:FC X scope fs js cl)(u:scope.kind=.function)(H:∀y∈scope.names,y.2≠.cell/\(y.2=.free->y.1∈fs))(J:∀x∈scope.names,x.2=.local->scope.names.lookup x.1=cb .local)(q:R0 scope X.env=pure cl)(K:DI X B tg iter wi)(G:∀(C:eH)(j:eC)(H₀:Hp)(l:Tb)(pl:Tf),DG (aY X (ls++fs) scope cl C j H₀ l pl) ua tg g)(w:∀(C:eH)(j:eC)(H₀:Hp)(l:Tb)(pl:Tf),Jf (aY X (ls++fs) scope cl C j H₀ l pl) ua ifs tt)(s:∀(C:eH)(j:eC)(H₀:Hp)(l:Tb)(pl:Tf),DE (aY X (ls++fs) scope cl C j H₀ l pl) ua elt te)(z:X.env.blockKind=.function)(h2:X.env.scope.names.lookup x=cb .local)(v:px.line=pos.line)(I:(scope.names.any λ(n,k)=>n==x&&(k==.local||k==.cell))=eP)(M:∀x,ol iter X.env x=pure x)(O:X.fn x=true\/X.env.scope.names.lookup x=cb .local):
  DS X B (.Assign [.Name x px] (.ListComp elt [⟨tg,iter,ifs,0⟩] scope pos) spos) (pH i<|bf wi ls js g tt te):=
 Ct A m L F (xw h u H J q) K (λa b c d e=>⟨G a b c d e,w a b c d e,s a b c d e⟩) (C3 z h2 v I) M O
theorem Dd{l:Str}{y L P j:Pos}{c:py}{a:Td}{M:az}(h:GF X.K X.mg x st f fd ps)(F:FnOk X.prog X.w X.K X.mg X.base (sK X.prog X.w) k f fd ps (bW X.K n T))(q:X.stack=X.env::X.outer)(u:X.env.frame=cb X.env.locals)(O:Room k X.A)(U:Gl X x)(Q:DA X.nox B (e::es) t)(EX:ExcAt X.K C)(v:Gl X l)(z:X.mg l=cb (.ref C))(G:∀S:eH,yK (X.marked<|.ref S) B (c::a) M)(J:(x==("__debug__":Str))=eP)(I:(l==("__debug__":Str))=eP)(R:eT (e::es) X.env=(eP,h9 e X.env)::eT es X.env)(H:(lq y<|starEach es X.env).any (·.1)=eP)(s:pv (.Call (.Name x p) (e::es) [] y) ed L.line X.env=pure eP):
  DS X B (.Try [.Expr (.Call (.Name x p) (e::es) [] y) L] [.ExceptHandler (cb<|.Name l P) ed (c::a) j] [] [] pos) (Jm C T n t M):=uR q u F O U h.m h.k h.b Q EX v z G J I R H s
end
section
variable{id T Ty:String}{p S2 S1:Pos}{o:hB}{es:Tc}{to:bi}{t:dX}{name:Str}
theorem cP{r:rM}(j:bI X (.builtin id) (liftC X r))(l:g3 x=cb (.builtin id))(f:Gl X x)(g:X.mg x=ed)(i:DA X B (e::es) t)(c:x≠"__name__")(a:(x==("__debug__":Str))=eP)(h:eT (e::es) X.env=(eP,h9 e X.env)::eT es X.env)(b:(lq pos<|starEach es X.env).any (·.1)=eP):DE X B (.Call (.Name x p) (e::es) [] pos) (bn r t):=A0 j f g l i c a h b
theorem eg{r:rM}(j:bI X (.type T) (liftC X r))(l:g3 x=cb (.type T))(f:Gl X x)(g:X.mg x=ed)(i:DA X B (e::es) t)(c:x≠"__name__")(a:(x==("__debug__":Str))=eP)(h:eT (e::es) X.env=(eP,h9 e X.env)::eT es X.env)(b:(lq pos<|starEach es X.env).any (·.1)=eP):DE X B (.Call (.Name x p) (e::es) [] pos) (bn r t):=xE j f g l i c a h b
theorem kG(g:g3 x=cb (.type T))(c:Gl X x)(f:X.mg x=ed)(b:x≠"__name__")(a:(x==("__debug__":Str))=eP):DE X B (.Name x pos) (dC<|.ty T):=Lj c f g b a
theorem oP(q:P_ Ty)(g:Slot Ty name id)(h:RY (.builtin id)=pure (.type "method_descriptor"))(l:um X id (liftM X r))(j:Ty="list"\/Ty="str"\/Ty="int"\/Ty="dict")(i:DE X B o to)(n:DA X B (e::es) t)(b:mu o name X.env (h9 o X.env)=h9 o X.env)(f:((lq S1<|starEach (e::es) X.env).all (λx=>!x.1)&&(Os S1<|keywordEach [] X.env).all (λx=>x.1.isSome)
   && decide ((e::es).length+([]:List B').length+(if ([]:List B').isEmpty then 0 else 1)<30))=true)(c:(S2.endLine==S1.line)=true)(m:eT (e::es) X.env=(eP,h9 e X.env)::eT es X.env)(a:(lq S1<|starEach es X.env).any (·.1)=eP):
  DE X B (.Call (.Attribute o name S2) (e::es) [] S1) (fH Ty r to t):=JB j q g h l i n b f c m a
theorem BO(j:P_ Ty)(c:Slot Ty name id)(f:RY (.builtin id)=pure (.type "method_descriptor"))(i:um X id (liftM X r))(h:Ty="list"\/Ty="str"\/Ty="int"\/Ty="dict")(g:DE X B o to)(a:mu o name X.env (h9 o X.env)=h9 o X.env)(b:(S2.endLine==S1.line)=true):DE X B (.Call (.Attribute o name S2) [] [] S1) (fH Ty r to ae):=IS h j c f i g a b
theorem Hc(g:Slot "tuple" name id)(h:RY (.builtin id)=pure (.type "method_descriptor"))(j:um X id (liftM X r))(i:DE X B o to)(m:DA X B (e::es) t)(b:mu o name X.env (h9 o X.env)=h9 o X.env)(f:((lq S1<|starEach (e::es) X.env).all (λx=>!x.1)&&(Os S1<|keywordEach [] X.env).all (λx=>x.1.isSome)
   && decide ((e::es).length+([]:List B').length+(if ([]:List B').isEmpty then 0 else 1)<30))=true)(c:(S2.endLine==S1.line)=true)(l:eT (e::es) X.env=(eP,h9 e X.env)::eT es X.env)(a:(lq S1<|starEach es X.env).any (·.1)=eP):
  DE X B (.Call (.Attribute o name S2) (e::es) [] S1) (dTM r to t):=LG g h j i m b f c l a
theorem Cb{i:Nat}{a:RQ}{r:dQ}{pos':Pos}(b:HY X a (liftR2 X r))(f:X.N.Nodup)(c:X.N[i]?=cb x)(g:yG X.env.scope x)(j:DE X B e te)(h:X.fn x=true\/X.env.scope.names.lookup x=cb .local):
  DS X B (.AugAssign (.Name x pos') a e pos) (sW i te r):=Jj f c g j b h
theorem ng{a b c:hB}{j i:bi}{h f:Sr}{r l:dQ}(m:b_ X (g5 h) (liftR2 X r))(g:b_ X (g5 f) (liftR2 X l))(s:DE X B a ta)(n:DE X B b j)(u:DE X B c i)(q:RT [h,f] [b,c]=eP):
  DE X B (.Compare a [h,f] [b,c] pos) (dB r l ta j i):=B0 m g s n u q
theorem xH{a b c:hB}{j i:bi}{h f:Sr}{r l:dQ}(m:b_ X (g5 h) (liftR2 X r))(g:b_ X (g5 f) (liftR2 X l))(s:DE X B a ta)(n:DE X B b j)(u:DE X B c i)(q:RT [h,f] [b,c]=eP):
  DT X B (.Compare a [h,f] [b,c] pos) (ao<|dB r l ta j i):=zq m g s n u q
end
structure Nf(K:Mi)(x:Str)(st:py)(f:eH)(fd:k6):Prop where
 a:Nk K f' x=cb (cb<|.ref f)
 F:Fun K x x st f fd
structure Mf(K:Mi)(C:eH)(x q:Str)(st:py)(f:eH)(fd:k6):Prop where
 a:Nq K (.ref C) x=cb (cb<|.ref f)
 i:W.isFn K (.ref f)=true
 F:Fun K x q st f fd
theorem us1{b:Type}{P:List b->Prop}(h:∀a,P [a]):∀us:List b,us.length=1->P us
 |[a],_=>h a
theorem us2{c:Type}{P:List c->Prop}(h:∀a b,P [a,b]):∀us:List c,us.length=2->P us
 |[a,b],_=>h a b
theorem us3{f:Type}{P:List f->Prop}(h:∀b c a,P [b,c,a]):∀us:List f,us.length=3->P us
 |[b,c,a],_=>h b c a
theorem us4{g:Type}{P:List g->Prop}(h:∀b f a c,P [b,f,a,c]):∀us:List g,us.length=4->P us
 |[b,f,a,c],_=>h b f a c
theorem us5{i:Type}{P:List i->Prop}(h:∀c g b f a,P [c,g,b,f,a]):∀us:List i,us.length=5->P us
 |[c,g,b,f,a],_=>h c g b f a
theorem us6{j:Type}{P:List j->Prop}(h:∀f i c g a b,P [f,i,c,g,a,b]):∀us:List j,us.length=6->P us
 |[f,i,c,g,a,b],_=>h f i c g a b
abbrev Bnd(ps:S_)(x SX:Str)(st:py):Prop:=∀(kV doc pm:cp)(an:Option eH)(cdv ct:cp)(us:Ta),us.length=ps.length->bindArgs (O8 x SX (dj st) (cC st) (bq st) .none kV doc pm an cdv ct) ⟨us,[]⟩=pure (ps.zip us)
section
variable{P:g4}{w:kB}{K:Mi}{mg:Tg}{base h:ka}{k n:Nat}{f C:eH}{fd:k6}{N ps:S_}{S:Sd}{T:DX->az}{SX:Str}{st:py}
theorem gf(X:K.In h)(G:h.Ns f' mg)(l:Nf K x st f fd)(b:Bnd ps x x st:=by ac_rfl):GF K mg x st f fd ps:=⟨l.F,l.F.binds b,l.F.kp,NU X G l.a⟩
theorem gm(l:Mf K C x SX st f fd)(b:Bnd ps x SX st:=by ac_rfl):GM K C x SX st f fd ps:=⟨l.F,l.F.binds b,l.a,l.i,l.F.kp⟩
theorem gi(mk:PL K C=true)(b:NN K (.ref C)=true)(l:Mf K C "__init__" SX st f fd)(c:Bnd ps "__init__" SX st:=by ac_rfl):GI K C "__init__" SX st f fd ps:=⟨l.F,l.F.binds c,mk,l.a,l.i,b⟩
abbrev cG(P:g4)(w:kB)(mg:Tg)(base:ka)(_:Fun K x SX st f fd)(_:Binds K fd ps [])(k:Nat)(S:Sd):Prop:=FnOk P w K mg base (sK P w) k f fd ps (bW K ps.length S)
theorem fnS(i:S=aL N T)(F:Fun K x SX st f fd)(b:Binds K fd ps [])(g:FnScope N ps (bq st))(j:FnScope N ps (bq st)->∀(c:cp)(A:kL)(a:List Env)(s:eC)(H:Hp)(E:XK)(B:Bd)(EE:DX),Room k (A.deeper<|PV SX (bq st) s.heap.objs.size f c)->yI K B EE E->
   yK (dY (sK P w) P w K mg base N SX (bq st) f c A a s H E) B (cC st) (T EE)):cG P w mg base F b (k+1) S:=by
 subst i;exact fnD F g (j g)
end
end _3
namespace _S
open PySem PySem.W PySem.Calls PyProof.Rows PyProof.V PySem.Spec
theorem zu:N_ (.type "str") "__len__"=pure (cb<|.builtin "str.__len__"):=by rfl
theorem zo:isSubtype (.type "str") (.type "str")=pure true:=by rfl
section
variable {prog:g4}{w:kB}{A:kL}{E:Te}{s:eC}{x:Str}{t:Tok}
theorem zO{Q:Bool->eC->Prop}(h:Q eP s):ft (fy prog w) A (Builtin.List.listLengthHint<|.str x t) Q E s:=by
 have ty:=Sn s x t;refine cx (wpAny_specialOf ty zu ?_);generalize a:("str.__len__":String)=id1
 wp_delta
 subst a;refine cx (Sa (T:="str") (b:=true) ty zo ?_);exact cx (M_ ty<|wpAny_pure h)
theorem sV{R:Si->eC->Prop}{S:eH}{g:cp}(M:A.handled=ed)(L:x.cps.size<=sizeLine){C:Nat}
  (B:s.heap.get? S=cb { cls:=.type "list",data:=.seq #[] C })
  (hR:∀h' tk (a:Th) c,(∀b o,b≠S->s.heap.get? b=cb o->h'.get? b=cb o)->h'.get? S=cb { cls:=.type "list",dict:=ed,data:=.seq a c,slots:=#[] }->ItemsOf (SignAt x) a x.cps.size->
   R (.ok<|.ret g) { s with heap:=h',toks:=tk }):
  ft (fy prog w) A.in1 (Pc (.ref S) (.str x t) g) (λj h=>match j with|.done f=>R (.ok f) h|.again c'=>c'.quiet=true/\vr (fy prog w) A c' R h) (λe h=>R (.error e) h) s:=by
 have ty:=Sn s x t;have I:=Me B;have n:S≠s.heap.objs.size:=Mt I;unfold Pc;refine cx (M_ ty ?_);have O:Builtin.List.listSameRef (.ref S) (.str x t)=false:=rfl;have P:(Nx "str"==Nx "list")=false:=by decide
 have N:(Nx "str"==Nx "tuple")=false:=by decide
 refine cx (wpAny_pyIter_str λK St W G=>?_);have v:∀b o,s.heap.get? b=cb o->(s.heap.push K).get? b=cb o:=λb o q=>Mb _ q;have p:=v S _ B;refine cx (lb<|zO ?_);have W:=W A.in1 (by simpa using M)
 have i:S∉[s.heap.objs.size]:=λz=>n (MM.mp z);refine wpAny_ite_split (λy=>absurd y (by decide +kernel)) λ_=>fx ⟨P3 PySem.F.plain_extend_loop _,?_⟩
 refine codeAny_extend_loopS W.toS L S i g x.cps.size 0 _ #[] C rfl (Nj _) G p (ItemsOf.nil _) λr a H u m l=>?_;rw[Moved.eq_with u];refine hR r.heap r.toks a H (λb o J q=>u.heap b o (λz=>?_) (v b o q)) m l;rcases Mm.mp z with y|y
 .exact J y
 .rw[MM]at y
  exact absurd (Me q) (by rw[y];exact MK _)
theorem Ay{R:Si->eC->Prop}{S:eH}(u:A.handled=ed)(v:x.cps.size<=sizeLine)
  (g:s.heap.get? S=cb { cls:=.type "list",data:=.seq #[] })
  (hR:∀h l (a:Th) c,(∀b o,b≠S->s.heap.get? b=cb o->h.get? b=cb o)->h.get? S=cb { cls:=.type "list",dict:=ed,data:=.seq a c,slots:=#[] }->ItemsOf (SignAt x) a x.cps.size->
   R (.ok<|.ret .none) { s with heap:=h,toks:=l }):
  ft (fy prog w) A.in1 (Builtin.«list.__init__» ⟨[.ref S,.str x t],[]⟩) (λn j=>match n with|.done f=>R (.ok f) j|.again c'=>c'.quiet=true/\vr (fy prog w) A c' R j) (λe j=>R (.error e) j) s:=by
 refine cx ?_;refine cx (t0 g rfl<|wpAny_pure ?_);refine cx (wpAny_updateSeq g rfl ?_);have m:=NT (Nm λ_=>#[]) g rfl;have p:∀b o,b≠S->s.heap.get? b=cb o->(s.heap.update S<|Nm λ_=>#[]).get? b=cb o:=λb o i e=>by
  rw[ON _ _ (MJ i)];exact e
 exact sV u v m λh l a c k r q=>hR h l a c (λb o i e=>k b o i (p b o i e)) r q
theorem list_str{Q:Te}(hh:A.handled=ed)(hz:x.cps.size<=sizeLine)
  (hQ:∀h' tk (SZ:Th) c,(∀b o,s.heap.get? b=cb o->h'.get? b=cb o)->h'.get? s.heap.objs.size=cb { cls:=.type "list",dict:=ed,data:=.seq SZ c,slots:=#[] }->ItemsOf (SignAt x) SZ x.cps.size->Q (.ref s.heap.objs.size) { s with heap:=h',toks:=tk }):
  ft (fy prog w) A (call (.type "list") [.str x t]) Q E s:=by
 refine callType_codes (Q₁:=λobj s1=>obj=.ref _/\s1={ s with heap:=s.heap.push _ }) F.called_list (F.typeCall_list_1 _) F.entry_list_init
  (code_list_new _ ⟨rfl,rfl⟩) λobj s1 h1=>?_
 obtain⟨rfl,rfl⟩:=h1;have hS:(s.heap.push { cls:=.type "list",data:=.seq #[] }).get? _=cb _:=Mn _ rfl;exact⟨⟨_,hS,rfl⟩,F.args_list_init_2 _ _,Ay (by trivial) hz hS λh' tk SZ c k a1 a2=>⟨rfl,hQ h' tk _ c (λb o e=>k b o (Mt<|Me e) (Mb _ e)) a1 a2⟩⟩
end
end _S
namespace _3
open PySem _2 _S
section
variable {X:Cx}{B:Bd}{pos:Pos}
theorem G6{x z:Str}(c:Gl X x)(a:∃t,X.mg x=cb (.str z t))(b:(x==("__debug__":Str))=false:=by decide):DE X B (.Name x pos) (dC<|.str z):=by
 obtain⟨t,a⟩:=a;exact p9 (v:=.str z) c a ⟨t,rfl⟩ (λ_=>rfl) b
def tf:rM:=λa M Q=>match a with
 |[.str z]=>z.cps.size<=1000000/\∀p,M p=ed->Q (.ref p) (M.upd p<|.lst<|eX z)
 |_=>False
theorem nj{K:Mi}{H:Hp}:∀(a:List Nat),Rps K H (a.map λc=>D.str ⟨#[c]⟩) (a.map λc=>V.str ⟨#[c]⟩)
 |[]=>rfl
 |_::a=>⟨_,_,rfl,rfl,nj a⟩
theorem li:∀(cs:List Nat)(vs:Ta),vs.length=cs.length->(∀(i:Nat)(v:cp),vs[i]?=cb v->∃c u,cs[i]?=cb c/\v=Qc ⟨#[c]⟩ u)->Vals (cs.map λc=>V.str ⟨#[c]⟩) vs
 |[],[],_,_=>.nil
 |[],_::_,h,_=>by simp at h
 |_::_,[],h,_=>by simp at h
 |c::cs,v::vs,h,k=>by
  obtain⟨c',u,e,rfl⟩:=k 0 v rfl;cases e;exact .cons ⟨u,rfl⟩ (li cs vs (by simpa using h) λi w hw=>k (i+1) w (by trivial))
theorem ur(hc:X.calm=true):bI X (.type "list") (liftC X tf):=by
 rintro SW s Z H xs us Q I r ⟨ds,M,QQ,rh,rp,h,up⟩
 unfold tf at h
 split at h
 .rename_i z
  obtain⟨v,rfl,rv⟩:=eU (ds:=[]) rp;cases rv;obtain⟨u,rfl,ru⟩:=iP r;obtain⟨t,rfl⟩:=ru;obtain⟨hz,h⟩:=h;refine list_str (I.ok.hd hc) (My hz<|by decide) λh' tk SZ c k1 a1 a2=>?_
  have hn:=I.hok.fresh (Mo _);have hv:Vals (z.cps.toList.map λc=>V.str ⟨#[c]⟩) SZ.toList:=by
   refine li _ _ (by exact a2.1) λi v hv=>?_
   obtain⟨c,u,h1,h2⟩:=a2.2 i v (by simp_all)
   exact⟨c,u,by simp_all,h2⟩
  refine⟨.ref _,_,I.laid k1 (Mo _) (show ObjOk _ _ _ _ _ (.lst _) from ⟨?_,_,c,hv,by assumption⟩),rfl,?_⟩
  .rw[Mc];exact My hz (by decide)
  exact up _ _ (h _<|rh.fresh hn) _ _ (rh.put (by rw[hn];trivial) ⟨_,upd_same,nj _⟩) (Frm.put<|.inl hn) rfl
 trivial
end
end _3
namespace _3
open PySem _2
section
variable {X:Cx}{B:Bd}{s:eC}
theorem uj{h:ka}{x:D}:∀{ds:List D}{us:Ta},Hrs h ds us->∀(m:Nat)(c:m<us.length),∃d,ds[m]?=cb d/\Br h x us[m]=aH d x
 |[],_,r=>by cases r;simp_all
 |d::ds,_,r=>by
  obtain⟨v,i,rfl,a,b⟩:=r;intro m c;cases m with
  |zero=>exact⟨d,rfl,uT a⟩
  |succ m=>
   obtain⟨g,f,e⟩:=uj (x:=x) b m (by simp_all)
   simp_all
def gH:vx:=λx a M Q=>match x,a with
 |.lst xs,[z]=>xs.length<=1000/\bX 60 (dv M z)=true/\fits 60 xs=true/\match xs.findIdx? (λy=>aH y (dv M z)) with
   |some j=>Q (.int (j:Nat)) M
   |none=>False
 |_,_=>False
theorem uK(hu:X.A.units+64<mv):um X "list.index" (liftM X gH):=by
 rintro q s Z H x vs v us Q I rx U ⟨d,ds,M,QQ,K,r,N,h,up⟩
 unfold gH at h
 split at h
 .rename_i xs z
  obtain⟨p,ws,rfl,L,r⟩:=r;obtain⟨w,rfl,e⟩:=eU (ds:=[]) N;obtain⟨hl,l,i,h⟩:=h
  split at h
  .rename_i j J
   rw[NA]at J;obtain⟨hj,e1,P⟩:=J;cases rx;obtain⟨u,rfl,S⟩:=U.one;obtain⟨b,G,⟨o,n,E,Y,f,c⟩,_⟩:=I.list L.sq;have g:=eB I i r G;obtain⟨oc,od,ot,R⟩:=o;subst Y f c;have W:b.length=xs.length:=by
    have:=G.length;have:=r.length;lia
   refine pb P4 ⟨_,E,rfl⟩ PySem.F.entry_list_index (PySem.F.args_list_index_2 _ _)
    (SeqAt.list_indexAt p _ n _ R u (Br s.heap<|dv M z) j (by simp_all) (by lia) ?_ λm hm a=>?_) ⟨E,λy hy=>?_,?_⟩
   .obtain⟨O,C,T⟩:=uj (x:=dv M z) g j (by lia)
    simp_all
   .obtain⟨O,C,T⟩:=uj (x:=dv M z) g m (by assumption)
    have h3:=P m a;rw[Mj (by lia)]at C
    simp_all
   .exact fD (kC I K l e S) l (by show X.A.units+1+60<mv;lia) g i y (by simp_all)
   .exact⟨.int _,H,I.tok _,⟨_,rfl⟩,up _ M h _ H K Frm.refl rfl⟩
  trivial
 trivial
end
section
variable {X:Cx}{B:Bd}{x:Str}{pos p:Pos}{e:hB}{es:Tc}{t:dX}{a:eH}{tab:List (Str×D)}
inductive TabT(X:Cx)(a:eH)(tab:List (Str×D)):Prop
 |mk {x:Str} (T:ModTab X.w X.K X.mg x a tab):TabT X a tab
def GlI(X:Cx)(x:Str)(n:Int):Prop:=∃t,X.mg x=cb (.int n t)
def GlS(X:Cx)(x z:Str):Prop:=∃t,X.mg x=cb (.str z t)
theorem BC{n:Int}(f:Gl X x)(b:GlI X x n)(c:(x==("__debug__":Str))=eP):DE X B (.Name x pos) (dC<|.int n):=IV f b c
theorem EB{z:Str}(f:Gl X x)(b:GlS X x z)(c:(x==("__debug__":Str))=eP):DE X B (.Name x pos) (dC<|.str z):=G6 f b c
theorem BQ(f:Gl X x)(b:X.mg x=cb (.ref a))(c:(x==("__debug__":Str))=eP):DE X B (.Name x pos) (dC<|.ref a):=p9 (v:=.ref a) f b rfl (λ_=>rfl) c
theorem Eb{c b:hB}{g f:bi}(T:TabT X a tab)(j:DE X B c g)(h:DE X B b f)(i:og b):DE X B (.Subscript c b pos) (aj (yz tab a) g f):=by
 obtain⟨T⟩:=T;exact FI (ix_T T) j h i
theorem tX(T:TabT X a tab):b_ X (g5 .NotIn) (liftR2 X<|jz tab a):=by
 obtain⟨T⟩:=T;exact y4 T
end
section
variable {P:g4}{w:kB}{K:Mi}{mg:Tg}{base:ka}{k:Nat}{f C:eH}{fd:k6}{N ps:S_}{S:eH->Sd}{T:eH->DX->az}{x SX:Str}{st:py}
end
end _3
namespace _T
open PySem _2 _3
noncomputable def cJ(i:Nat):Stmt:=PySem.Challenge.pw_twinstride_k82_whole_woven_does_either.main.body.getD i (.Pass ⟨0,0,0,0⟩)
noncomputable abbrev Kl:Stmt:=jP (cJ 6) 0
noncomputable abbrev JQ:Stmt:=jP (cJ 6) 1
noncomputable abbrev Fm:Stmt:=jP (cJ 6) 2
noncomputable abbrev ES:Stmt:=cJ 7
noncomputable abbrev EH:Stmt:=cJ 8
noncomputable abbrev EV:Stmt:=cJ 9
noncomputable abbrev Fs:Stmt:=cJ 10
noncomputable abbrev Fb:Stmt:=cJ 11
noncomputable abbrev Fj:Stmt:=cJ 12
noncomputable abbrev EO:Stmt:=cJ 13
noncomputable abbrev EN:Stmt:=cJ 14
noncomputable abbrev ET:Stmt:=cJ 15
noncomputable abbrev Fc:Stmt:=cJ 25
noncomputable abbrev F0:Stmt:=cJ 26
noncomputable abbrev Fn:Stmt:=cJ 27
noncomputable abbrev F8:Stmt:=cJ 28
noncomputable abbrev FA:Stmt:=cJ 29
noncomputable abbrev FH:Stmt:=cJ 30
noncomputable abbrev Fl:Stmt:=cJ 31
noncomputable abbrev FD:Stmt:=cJ 32
noncomputable abbrev EQ:Stmt:=cJ 33
noncomputable abbrev Ly:Stmt:=jP (cJ 36) 0
noncomputable abbrev Fu:Stmt:=cJ 37
noncomputable abbrev Fp:Stmt:=cJ 38
noncomputable abbrev F4:Stmt:=cJ 39
noncomputable abbrev JH:Stmt:=cJ 40
noncomputable abbrev Jy:Stmt:=cJ 41
noncomputable abbrev EJ:Stmt:=cJ 42
noncomputable abbrev E_:Stmt:=cJ 43
noncomputable abbrev Fh:Stmt:=cJ 44
noncomputable abbrev FF:Stmt:=cJ 45
noncomputable abbrev LK:Stmt:=cJ 47
noncomputable abbrev FP:Stmt:=cJ 48
noncomputable abbrev Fa:Stmt:=cJ 49
noncomputable abbrev Fi:Stmt:=cJ 50
noncomputable abbrev F5:Stmt:=cJ 51
noncomputable abbrev EK:Stmt:=cJ 52
noncomputable abbrev Fy:Stmt:=cJ 53
noncomputable abbrev Fv:Stmt:=cJ 54
noncomputable abbrev EL:Stmt:=cJ 55
noncomputable abbrev JP:Stmt:=cJ 56
noncomputable abbrev L6:Stmt:=cJ 57
noncomputable abbrev FN:Stmt:=cJ 58
noncomputable abbrev Jv:Stmt:=cJ 59
noncomputable abbrev FK:Stmt:=cJ 60
noncomputable abbrev Fd:Stmt:=cJ 61
noncomputable abbrev FJ:Stmt:=cJ 62
noncomputable abbrev FG:Stmt:=cJ 63
noncomputable abbrev Fo:Stmt:=cJ 64
noncomputable abbrev KN:Stmt:=cJ 65
abbrev iO:Stmt:=cJ 66
set_option genInjectivity false in
structure Ad where
 C_Walk:eH
 C_Weave:eH
 C_Dry:eH
 C_NoBuild:eH
 C_TooBig:eH
 (a1 a2 a3 a4 a5 a6 a7 a8 a9 a10 a11 a12 a13 a14 a15 a16 a17 a18 a19 a20 a21 a22 a23 a24 a25 a26 a27 a28 a29 a30 a31 a32 a33 a34 a35 a36 a37 a38 a39 a40 a41 a42 a43 a44 a45 a46 a47 a48 a49 a50 a51:eH)
 (d1 d2 d3 d4 d5 d6 d7 d8 d9 d10 d11 d12 d13 d14 d15 d16 d17 d18 d19 d20 d21 d22 d23 d24 d25 d26 d27 d28 d29 d30 d31 d32 d33 d34 d35 d36 d37 d38 d39 d40 d41 d42 d43 d44 d45 d46 d47 d48 d49 d50 d51:k6)
 Q6:eH
noncomputable def cA:List (Str×D):=[("put",.mt [.str "name",.str "number"]),("take",.mt [.str "name",.str "piece"]),("pick",.mt [.str "name",.str "name"]),("sum",.mt [.str "name",.str "name",.str "name"]),("by",.mt [.str "name",.str "name",.str "name"]),("less",.mt [.str "name",.str "name",.str "name"]),("same",.mt [.str "name",.str "name",.str "name"]),("if",.mt [.str "name",.str "rows",.str "rows"]),("again",.mt [.str "name",.str "rows"])]
noncomputable def Cj(ad:Ad)(EE:DX):az:=al (fW ad.C_Walk (ac 0) (ac 1) "plan") (al (fW ad.C_Walk (ac 0) (sD<|aa (aj av (ac 1)<|dC<|.int 1)<|aa (aj av (ac 2)<|dC<|.int 0) ae) "numbers")<|al (fW ad.C_Walk (ac 0) (aj av (ac 2)<|dC<|.int 1) "pieces")<|al (fW ad.C_Walk (ac 0) (ac 3) "most")<|fW ad.C_Walk (ac 0) (bA ae) "steps")
noncomputable def Cw(ad:Ad):Sd:=aL ["self","plan","stand","most"] (Cj ad)
theorem u_q8{ad:Ad}{b e c a:D}{M:Mem}{Q:DK}{E:DX}:Cw ad [b,e,c,a] M Q E=Cj ad (aB E) { nx:=λ_ M'=>drp Q .non M',rt:=drp Q } [cb b,cb e,cb c,cb a] M:=rfl
noncomputable def Cy(ad:Ad)(EE:DX):az:=al (aA (ao<|aj oGe (bn bC<|aa (df ad.C_Walk (ac 0) "steps") ae)<|df ad.C_Walk (ac 0) "most") (eF ad.C_Dry EE) ay) (a_<|fH "list" bt (df ad.C_Walk (ac 0) "steps")<|aa (ax<|aa (ac 1)<|aa (ac 2) ae) ae)
noncomputable def uC(ad:Ad):Sd:=aL ["self","place","number"] (Cy ad)
theorem u_q4{ad:Ad}{b c a:D}{M:Mem}{Q:DK}{E:DX}:uC ad [b,c,a] M Q E=Cy ad (aB E) { nx:=λ_ M'=>drp Q .non M',rt:=drp Q } [cb b,cb c,cb a] M:=rfl
noncomputable def ww(ad:Ad)(EE:DX):az:=al (ap (oX (ao<|aj bY (aj av (df ad.C_Walk (ac 0) "numbers")<|ac 2)<|dC<|.int 0) (dC<|.int 0)<|dC<|.int 1)<|af 3) (al (a_<|iZ ad.C_Walk "note_step" (uC ad) EE 3 (ac 0)<|aa (ac 1)<|aa (ac 3) ae)<|aw<|ac 3)
noncomputable def nJ(ad:Ad):Sd:=aL ["self","place","name","seen"] (ww ad)
theorem Lr{ad:Ad}{b c a:D}{M:Mem}{Q:DK}{E:DX}:nJ ad [b,c,a] M Q E=ww ad (aB E) { nx:=λ_ M'=>drp Q .non M',rt:=drp Q } [cb b,cb c,cb a,ed] M:=rfl
noncomputable def xg(ad:Ad)(EE:DX):az:=al (aA (ao<|aj bY (ac 0)<|dC<|.str "sum") (aw<|aj fN (am<|aj aF (ac 1)<|ac 2)<|ac 3) ay) (al (aA (ao<|aj bY (ac 0)<|dC<|.str "by") (aw<|aj fN (aj h_ (ac 1)<|ac 2)<|ac 3) ay)<|al (aA (ao<|aj bY (ac 0)<|dC<|.str "less") (aw<|oX (ao<|aj xM (ac 1)<|ac 2) (dC<|.int 1)<|dC<|.int 0) ay)<|aw<|oX (ao<|aj bY (ac 1)<|ac 2) (dC<|.int 1)<|dC<|.int 0)
noncomputable def vF(ad:Ad):Sd:=aL ["word","y","z","wheel"] (xg ad)
theorem Ko{ad:Ad}{b e c a:D}{M:Mem}{Q:DK}{E:DX}:vF ad [b,e,c,a] M Q E=xg ad (aB E) { nx:=λ_ M'=>drp Q .non M',rt:=drp Q } [cb b,cb e,cb c,cb a] M:=rfl
noncomputable def lM(ad:Ad)(EE:DX):az:=al (aA (ao<|aj bY (aj av (ac 2)<|dC<|.int 0)<|dC<|.str "take") (aw<|aj av (ac 2)<|dC<|.int 2) ay) (al (aA (ao<|aj bY (aj av (ac 2)<|dC<|.int 0)<|dC<|.str "pick") (aw<|aj fN (aj av (ac 1)<|aj av (ac 2)<|dC<|.int 2)<|aj av (ac 0)<|dC<|.int 2) ay)<|aw<|dC .non)
noncomputable def wP(ad:Ad):Sd:=aL ["plan","numbers","row"] (lM ad)
theorem va{ad:Ad}{b c a:D}{M:Mem}{Q:DK}{E:DX}:wP ad [b,c,a] M Q E=lM ad (aB E) { nx:=λ_ M'=>drp Q .non M',rt:=drp Q } [cb b,cb c,cb a] M:=rfl
noncomputable def lJ(ad:Ad)(EE:DX):az:=al (aA (ao<|aj bY (aj av (ac 3)<|dC<|.int 0)<|dC<|.str "put") (aw<|aj av (ac 3)<|dC<|.int 2) ay) (al (ap (am<|ak (wP ad) EE 3<|aa (ac 0)<|aa (ac 1)<|aa (ac 3) ae)<|af 4)<|al (aA (ao<|aj mq (ac 4)<|dC .non) (aw<|aj av (ac 2)<|ac 4) ay)<|aw<|ak (vF ad) EE 4<|aa (aj av (ac 3)<|dC<|.int 0)<|aa (aj av (ac 1)<|aj av (ac 3)<|dC<|.int 2)<|aa (aj av (ac 1)<|aj av (ac 3)<|dC<|.int 3)<|aa (aj av (ac 0)<|dC<|.int 0) ae)
noncomputable def rP(ad:Ad):Sd:=aL ["plan","numbers","pieces","row","piece"] (lJ ad)
theorem wI{ad:Ad}{b e c a:D}{M:Mem}{Q:DK}{E:DX}:rP ad [b,e,c,a] M Q E=lJ ad (aB E) { nx:=λ_ M'=>drp Q .non M',rt:=drp Q } [cb b,cb e,cb c,cb a,ed] M:=rfl
noncomputable def wg(ad:Ad)(Q8 Ra Rb Rc:Sd)(EE:DX):az:=cK (gU<|aa (ac 1) ae) (bL 2<|aD (af 3)<|aD (af 4) bM) (a_<|ak Ra EE 3<|aa (ac 0)<|aa (ac 4)<|aa (aj aF (ac 2)<|ax<|aa (ac 3) ae) ae)
noncomputable def nH(ad:Ad)(Q8 Ra Rb Rc:Sd)(EE:DX):az:=aA (ao<|aj bY (aj av (ac 1)<|dC<|.int 0)<|dC<|.str "if") (a_<|ak Rb EE 3<|aa (ac 0)<|aa (ac 1)<|aa (ac 2) ae) (aA (ao<|aj bY (aj av (ac 1)<|dC<|.int 0)<|dC<|.str "again") (a_<|ak Rc EE 3<|aa (ac 0)<|aa (ac 1)<|aa (ac 2) ae)<|al (ap (am<|ak (rP ad) EE 4<|aa (df ad.C_Walk (ac 0) "plan")<|aa (df ad.C_Walk (ac 0) "numbers")<|aa (df ad.C_Walk (ac 0) "pieces")<|aa (ac 1) ae)<|af 3)<|al (a_<|iZ ad.C_Walk "note_step" (uC ad) EE 3 (ac 0)<|aa (ac 2)<|aa (ac 3) ae)<|ap (ac 3)<|gK (df ad.C_Walk (ac 0) "numbers")<|aj av (ac 1)<|dC<|.int 1)
noncomputable def xi(ad:Ad)(Q8 Ra Rb Rc:Sd)(EE:DX):az:=al (ap (am<|iZ ad.C_Walk "look" (nJ ad) EE 3 (ac 0)<|aa (ac 2)<|aa (aj av (ac 1)<|dC<|.int 1) ae)<|af 3) (a_<|ak Q8 EE 3<|aa (ac 0)<|aa (oX (ao<|aj bY (ac 3)<|dC<|.int 1) (aj av (ac 1)<|dC<|.int 2)<|aj av (ac 1)<|dC<|.int 3)<|aa (aj aF (ac 2)<|ax<|aa (ac 3) ae) ae)
noncomputable def z7(ad:Ad)(Q8 Ra Rb Rc:Sd)(EE:DX):az:=al (ap (dC<|.int 0)<|af 3) (iz (ao<|aj bY (am<|iZ ad.C_Walk "look" (nJ ad) EE 3 (ac 0)<|aa (aj aF (ac 2)<|ax<|aa (ac 3) ae)<|aa (aj av (ac 1)<|dC<|.int 1) ae)<|dC<|.int 1)<|al (a_<|ak Q8 EE 3<|aa (ac 0)<|aa (aj av (ac 1)<|dC<|.int 2)<|aa (aj aF (ac 2)<|ax<|aa (ac 3) ae) ae)<|sW 3 (dC<|.int 1) sf)
mutual
noncomputable def Q8(ad:Ad):Nat->Sd
 |0=>λ_ _ _ _=>False
 |n+1=>aL ["walk","rows","place","j","row"] (wg ad (Q8 ad n) (Ra ad n) (Rb ad n)<|Rc ad n)
noncomputable def Ra(ad:Ad):Nat->Sd
 |0=>λ_ _ _ _=>False
 |n+1=>aL ["walk","row","place","number"] (nH ad (Q8 ad n) (Ra ad n) (Rb ad n)<|Rc ad n)
noncomputable def Rb(ad:Ad):Nat->Sd
 |0=>λ_ _ _ _=>False
 |n+1=>aL ["walk","row","place","seen"] (xi ad (Q8 ad n) (Ra ad n) (Rb ad n)<|Rc ad n)
noncomputable def Rc(ad:Ad):Nat->Sd
 |0=>λ_ _ _ _=>False
 |n+1=>aL ["walk","row","place","turn"] (z7 ad (Q8 ad n) (Ra ad n) (Rb ad n)<|Rc ad n)
end
theorem Kf{ad:Ad}{n:Nat}{b c a:D}{M:Mem}{Q:DK}{E:DX}:Q8 ad (n+1) [b,c,a] M Q E=wg ad (Q8 ad n) (Ra ad n) (Rb ad n) (Rc ad n) (aB E) { nx:=λ_ M'=>drp Q .non M',rt:=drp Q } [cb b,cb c,cb a,ed,ed] M:=rfl
theorem Ax{ad:Ad}{n:Nat}{b c a:D}{M:Mem}{Q:DK}{E:DX}:Ra ad (n+1) [b,c,a] M Q E=nH ad (Q8 ad n) (Ra ad n) (Rb ad n) (Rc ad n) (aB E) { nx:=λ_ M'=>drp Q .non M',rt:=drp Q } [cb b,cb c,cb a,ed] M:=rfl
theorem KW{ad:Ad}{n:Nat}{b c a:D}{M:Mem}{Q:DK}{E:DX}:Rb ad (n+1) [b,c,a] M Q E=xi ad (Q8 ad n) (Ra ad n) (Rb ad n) (Rc ad n) (aB E) { nx:=λ_ M'=>drp Q .non M',rt:=drp Q } [cb b,cb c,cb a,ed] M:=rfl
theorem u_q37{ad:Ad}{n:Nat}{b c a:D}{M:Mem}{Q:DK}{E:DX}:Rc ad (n+1) [b,c,a] M Q E=z7 ad (Q8 ad n) (Ra ad n) (Rb ad n) (Rc ad n) (aB E) { nx:=λ_ M'=>drp Q .non M',rt:=drp Q } [cb b,cb c,cb a,ed] M:=rfl
noncomputable def wa(ad:Ad)(EE:DX):az:=al (ap (wB ad.C_Walk (Cw ad) EE 4<|aa (ac 0)<|aa (ac 1)<|aa (ac 2) ae)<|af 3) (al (Jm ad.C_Dry (Q8 ad 24) 3 (aa (ac 3)<|aa (aj av (ac 0)<|dC<|.int 3)<|aa (ax ae) ae)<|aw<|ax<|aa (df ad.C_Walk (ac 3) "steps")<|aa (dC .non) ae)<|aw<|ax<|aa (df ad.C_Walk (ac 3) "steps")<|aa (bn bP<|aa (am<|bf (cN<|aj av (ac 0)<|dC<|.int 1) ["name"] [3] (af 0) cM<|aj av (df ad.C_Walk (ac 1) "numbers")<|ac 0) ae) ae)
noncomputable def iN(ad:Ad):Sd:=aL ["plan","stand","most","walk"] (wa ad)
theorem KJ{ad:Ad}{b c a:D}{M:Mem}{Q:DK}{E:DX}:iN ad [b,c,a] M Q E=wa ad (aB E) { nx:=λ_ M'=>drp Q .non M',rt:=drp Q } [cb b,cb c,cb a,ed] M:=rfl
noncomputable def vN(ad:Ad)(EE:DX):az:=al (ap (aj av (iM<|ak (iN ad) EE 3<|aa (ac 0)<|aa (ac 1)<|aa (ac 2) ae)<|dC<|.int 1)<|af 3) (al (aA (ao<|aj t7 (ac 3)<|dC .non) (aw<|dC .non) ay)<|aw<|aj av (ac 3)<|dTM ug (aj av (ac 0)<|dC<|.int 1)<|aa (aj av (ac 0)<|dC<|.int 4) ae)
noncomputable def rQ(ad:Ad):Sd:=aL ["plan","stand","most","end"] (vN ad)
theorem Lu{ad:Ad}{b c a:D}{M:Mem}{Q:DK}{E:DX}:rQ ad [b,c,a] M Q E=vN ad (aB E) { nx:=λ_ M'=>drp Q .non M',rt:=drp Q } [cb b,cb c,cb a,ed] M:=rfl
noncomputable def w_(ad:Ad)(EE:DX):az:=al (aA (jD (dF<|bR<|bn bT<|aa (ac 0)<|aa (dC<|.ty "str") ae)<|dF<|ao<|dB yY yY (dC<|.int 1) (bn bC<|aa (ac 0) ae)<|dC<|.int 8) (aw<|dC<|.bl eP) ay) (aw<|bn pI<|aa (am<|bf (Hb<|ac 0) ["sign"] [] (af 0) cM<|dB Dy Dy (dC<|.str "a") (ac 0)<|dC<|.str "z") ae)
noncomputable def vC(ad:Ad):Sd:=aL ["thing"] (w_ ad)
theorem JN{ad:Ad}{a:D}{M:Mem}{Q:DK}{E:DX}:vC ad [a] M Q E=w_ ad (aB E) { nx:=λ_ M'=>drp Q .non M',rt:=drp Q } [cb a] M:=rfl
noncomputable def wQ(ad:Ad)(EE:DX):az:=al (aA (jD (dF<|bR<|bn bT<|aa (ac 0)<|aa (dC<|.ty "tuple") ae)<|dF<|ao<|dB yY yY (dC<|.int 1) (bn bC<|aa (ac 0) ae)<|dC<|.int 12) (aw<|dC<|.bl eP) ay) (aw<|eI (bn pI<|aa (am<|bf (cN<|ac 0) ["part"] [] (af 0) cM<|am<|ak (vC ad) md 1<|aa (ac 0) ae) ae)<|aj bY (vc<|aa (ac 0) ae)<|bn bC<|aa (ac 0) ae)
noncomputable def vL(ad:Ad):Sd:=aL ["thing"] (wQ ad)
theorem Ka{ad:Ad}{a:D}{M:Mem}{Q:DK}{E:DX}:vL ad [a] M Q E=wQ ad (aB E) { nx:=λ_ M'=>drp Q .non M',rt:=drp Q } [cb a] M:=rfl
noncomputable def vw(ad:Ad)(EE:DX):az:=aw (eI (bn bT<|aa (ac 1)<|aa (dC<|.ty "str") ae)<|aj qZ (ac 1)<|aj av (ac 0)<|dC<|.int 1)
noncomputable def qG(ad:Ad):Sd:=aL ["plan","thing"] (vw ad)
theorem Ld{ad:Ad}{a b:D}{M:Mem}{Q:DK}{E:DX}:qG ad [a,b] M Q E=vw ad (aB E) { nx:=λ_ M'=>drp Q .non M',rt:=drp Q } [cb a,cb b] M:=rfl
noncomputable def wx(ad:Ad)(EE:DX):az:=al (aA (jD (dF<|bR<|bn bT<|aa (ac 0)<|aa (dC<|.ty "int") ae)<|bR<|bn bT<|aa (ac 0)<|aa (dC<|.ty "bool") ae) (aw<|dC<|.bl eP) ay) (aw<|dB yY yY (ac 1) (ac 0)<|ac 2)
noncomputable def mx(ad:Ad):Sd:=aL ["thing","least","most"] (wx ad)
theorem Kx{ad:Ad}{b c a:D}{M:Mem}{Q:DK}{E:DX}:mx ad [b,c,a] M Q E=wx ad (aB E) { nx:=λ_ M'=>drp Q .non M',rt:=drp Q } [cb b,cb c,cb a] M:=rfl
noncomputable def mj(ad:Ad)(EE:DX):az:=al (aA (ao<|aj bY (ac 1)<|dC<|.str "name") (aw<|ak (qG ad) EE 2<|aa (ac 0)<|aa (ac 2) ae) ay) (al (aA (ao<|aj bY (ac 1)<|dC<|.str "number") (aw<|ak (mx ad) EE 3<|aa (ac 2)<|aa (dC<|.int 0)<|aa (aj ga (aj av (ac 0)<|dC<|.int 0)<|dC<|.int 1) ae) ay)<|al (aA (ao<|aj bY (ac 1)<|dC<|.str "piece") (aw<|ak (mx ad) EE 3<|aa (ac 2)<|aa (dC<|.int 0)<|aa (aj ga (aj av (ac 0)<|dC<|.int 2)<|dC<|.int 1) ae) ay)<|aw<|dC<|.bl true)
noncomputable def nQ(ad:Ad):Sd:=aL ["plan","kind","thing"] (mj ad)
theorem wc{ad:Ad}{b c a:D}{M:Mem}{Q:DK}{E:DX}:nQ ad [b,c,a] M Q E=mj ad (aB E) { nx:=λ_ M'=>drp Q .non M',rt:=drp Q } [cb b,cb c,cb a] M:=rfl
def pE(ad:Ad)(EE:DX):az:=aw (bn pI<|aa (am<|bf (GW<|aa (aj (yz cA ad.Q6) (dC<|.ref ad.Q6)<|ac 3)<|aa (am<|fO (ac 1) (bj<|dC<|.int 1) aI) ae) ["kind","part"] [0] (bL 2<|aD (af 0)<|aD (af 1) bM) cM<|am<|ak (nQ ad) md 3<|aa (ac 2)<|aa (ac 0)<|aa (ac 1) ae) ae)
def jB(ad:Ad)(EE:DX):az:=al (aA (g7 (ao<|aj qZ (dC<|.str "rows")<|aj (yz cA ad.Q6) (dC<|.ref ad.Q6)<|ac 3)<|ao<|aj bY (ac 2)<|dC<|.int 4) (aw<|dC<|.bl eP) ay) (pE ad EE)
def ki(ad:Ad)(EE:DX):az:=al (aA (g7 (ao<|aj bY (ac 3)<|dC<|.str "pick")<|ao<|aj bY (aj av (ac 0)<|dC<|.int 2)<|dC<|.int 0) (aw<|dC<|.bl eP) ay) (jB ad EE)
def jN(ad:Ad)(EE:DX):az:=al (aA (jD (ao<|aj (jz cA ad.Q6) (ac 3)<|dC<|.ref ad.Q6)<|ao<|aj kb (bn bC<|aa (ac 1) ae)<|aj aF (bn bC<|aa (aj (yz cA ad.Q6) (dC<|.ref ad.Q6)<|ac 3) ae)<|dC<|.int 1) (aw<|dC<|.bl eP) ay) (ki ad EE)
def jg(ad:Ad)(EE:DX):az:=al (ap (aj av (ac 1)<|dC<|.int 0)<|af 3) (jN ad EE)
noncomputable def x6(ad:Ad)(EE:DX):az:=al (aA (jD (dF<|bR<|bn bT<|aa (ac 1)<|aa (dC<|.ty "tuple") ae)<|jD (ao<|aj bY (bn bC<|aa (ac 1) ae)<|dC<|.int 0)<|dF<|bR<|bn bT<|aa (aj av (ac 1)<|dC<|.int 0)<|aa (dC<|.ty "str") ae) (aw<|dC<|.bl eP) ay) (jg ad EE)
noncomputable def nM(ad:Ad):Sd:=aL ["plan","thing","depth","word"] (x6 ad)
theorem Lo{ad:Ad}{b c a:D}{M:Mem}{Q:DK}{E:DX}:nM ad [b,c,a] M Q E=x6 ad (aB E) { nx:=λ_ M'=>drp Q .non M',rt:=drp Q } [cb b,cb c,cb a,ed] M:=rfl
def qo(ad:Ad)(EE:DX):az:=aw (bA<|aa (aj av (ac 0)<|dC<|.int 2)<|aa (aj av (ac 0)<|dC<|.int 3) ae)
def pK(ad:Ad)(EE:DX):az:=al (aA (ao<|aj bY (aj av (ac 0)<|dC<|.int 0)<|dC<|.str "again") (aw<|bA<|aa (aj av (ac 0)<|dC<|.int 2) ae) ay) (aw<|bA ae)
noncomputable def vk(ad:Ad)(EE:DX):az:=al (aA (ao<|aj bY (aj av (ac 0)<|dC<|.int 0)<|dC<|.str "if") (qo ad EE) ay) (pK ad EE)
noncomputable def eJ(ad:Ad):Sd:=aL ["row"] (vk ad)
theorem Lz{ad:Ad}{a:D}{M:Mem}{Q:DK}{E:DX}:eJ ad [a] M Q E=vk ad (aB E) { nx:=λ_ M'=>drp Q .non M',rt:=drp Q } [cb a] M:=rfl
def vg(ad:Ad)(EE:DX):az:=a_ (fH "list" cB (ac 2)<|aa (am<|bf (cN<|am<|ak (eJ ad) EE 1<|aa (ac 6) ae) ["part"] [5] (af 0) cM<|ax<|aa (ac 0)<|aa (aj aF (ac 1)<|dC<|.int 1) ae) ae)
def jO(ad:Ad)(EE:DX):az:=al (aA (dF<|bR<|bn pI<|aa (am<|bf (cN<|ac 4) ["row"] [0,5] (af 0) cM<|am<|ak (nM ad) md 3<|aa (ac 1)<|aa (ac 0)<|aa (ac 2) ae) ae) (aw<|dC<|.bl eP) ay) (cK (cN<|ac 4) (af 6)<|vg ad EE)
def pP(ad:Ad)(EE:DX):az:=al (aA (ao<|aj sS (ac 1)<|dC<|.int 60) (aw<|dC<|.bl eP) ay) (jO ad EE)
def pq(ad:Ad)(EE:DX):az:=al (sW 1 (bn bC<|aa (ac 4) ae) sf) (pP ad EE)
def pj(ad:Ad)(EE:DX):az:=al (aA (dF<|bR<|bn bT<|aa (ac 4)<|aa (dC<|.ty "tuple") ae) (aw<|dC<|.bl eP) ay) (pq ad EE)
def p_(ad:Ad)(EE:DX):az:=al (ap (aj av (ac 3)<|dC<|.int 1)<|af 5) (pj ad EE)
def oY(ad:Ad)(EE:DX):az:=al (ap (aj av (ac 3)<|dC<|.int 0)<|af 4) (p_ ad EE)
def jZ(ad:Ad)(EE:DX):az:=al (ap (fH "list" Be (ac 2) ae)<|af 3) (oY ad EE)
def pJ(ad:Ad)(EE:DX):az:=al (iz (bR<|ac 2)<|jZ ad EE) (aw<|dC<|.bl true)
def lO(ad:Ad)(EE:DX):az:=al (ap (bA<|aa (ax<|aa (aj av (ac 0)<|dC<|.int 3)<|aa (dC<|.int 0) ae) ae)<|af 2) (pJ ad EE)
noncomputable def vG(ad:Ad)(EE:DX):az:=al (ap (dC<|.int 0)<|af 1) (lO ad EE)
noncomputable def wS(ad:Ad):Sd:=aL ["plan","count","waiting","rows_and_depth","rows","depth","row"] (vG ad)
theorem Kw{ad:Ad}{a:D}{M:Mem}{Q:DK}{E:DX}:wS ad [a] M Q E=vG ad (aB E) { nx:=λ_ M'=>drp Q .non M',rt:=drp Q } [cb a,ed,ed,ed,ed,ed,ed] M:=rfl
noncomputable def vI(ad:Ad)(EE:DX):az:=al (aA (jD (dF<|bR<|bn bT<|aa (ac 0)<|aa (dC<|.ty "tuple") ae)<|ao<|aj kb (bn bC<|aa (ac 0) ae)<|dC<|.int 5) (aw<|dC<|.bl eP) ay) (al (aA (jD (dF<|bR<|am<|ak (mx ad) EE 3<|aa (aj av (ac 0)<|dC<|.int 0)<|aa (dC<|.int 2)<|aa (dC<|.int 997) ae)<|dF<|bR<|am<|ak (mx ad) EE 3<|aa (aj av (ac 0)<|dC<|.int 2)<|aa (dC<|.int 0)<|aa (dC<|.int 40) ae) (aw<|dC<|.bl eP) ay)<|aw<|eI (am<|ak (vL ad) EE 1<|aa (aj av (ac 0)<|dC<|.int 1) ae)<|eI (am<|ak (qG ad) EE 2<|aa (ac 0)<|aa (aj av (ac 0)<|dC<|.int 4) ae)<|am<|ak (wS ad) EE 1<|aa (ac 0) ae)
noncomputable def qL(ad:Ad):Sd:=aL ["thing"] (vI ad)
theorem Km{ad:Ad}{a:D}{M:Mem}{Q:DK}{E:DX}:qL ad [a] M Q E=vI ad (aB E) { nx:=λ_ M'=>drp Q .non M',rt:=drp Q } [cb a] M:=rfl
def vh(ad:Ad)(EE:DX):az:=al (a_<|fH "list" cB (ac 1)<|aa (am<|bf (Hb<|dC<|.str "abcdefghijklmnopqrstuvwxyz") ["letter"] [1,2] (af 0) cM<|am<|aj aF (aj av (ac 1)<|ac 2)<|ac 0) ae) (sW 2 (dC<|.int 1) sf)
def jq(ad:Ad)(EE:DX):az:=aw (aj av (am<|bf (cN<|ac 1) ["name"] [0] (af 0) (ao<|aj g8 (ac 0)<|ac 1)<|ac 0)<|dC<|.int 0)
def jC(ad:Ad)(EE:DX):az:=al (iz (bR<|bn pI<|aa (am<|bf (cN<|ac 1) ["name"] [0] (af 0) cM<|aj qZ (ac 0)<|ac 1) ae)<|vh ad EE) (jq ad EE)
noncomputable def xo(ad:Ad)(EE:DX):az:=al (ap (bn tf<|aa (dC<|.str "abcdefghijklmnopqrstuvwxyz") ae)<|af 1) (al (ap (dC<|.int 0)<|af 2)<|jC ad EE)
noncomputable def wz(ad:Ad):Sd:=aL ["names","told","at"] (xo ad)
theorem Kc{ad:Ad}{a:D}{M:Mem}{Q:DK}{E:DX}:wz ad [a] M Q E=xo ad (aB E) { nx:=λ_ M'=>drp Q .non M',rt:=drp Q } [cb a,ed,ed] M:=rfl
noncomputable def wo(ad:Ad)(EE:DX):az:=aw (oX (ao<|aj bY (aj av (ac 0)<|dC<|.int 0)<|dC<|.str "if") (bA<|aa (dC<|.int 1)<|aa (dC<|.int 0) ae)<|bA<|aa (dC<|.int 0) ae)
noncomputable def qy(ad:Ad):Sd:=aL ["row"] (wo ad)
theorem Js{ad:Ad}{a:D}{M:Mem}{Q:DK}{E:DX}:qy ad [a] M Q E=wo ad (aB E) { nx:=λ_ M'=>drp Q .non M',rt:=drp Q } [cb a] M:=rfl
def pF(ad:Ad)(EE:DX):az:=aA (g7 (jD (bR<|am<|ak (eJ ad) EE 1<|aa (ac 0) ae)<|bR<|am<|ak (eJ ad) EE 1<|aa (ac 1) ae)<|ao<|aj kb (am<|fO (ac 0) aI<|bj<|dC<|.int 2)<|am<|fO (ac 1) aI<|bj<|dC<|.int 2) (eF ad.C_NoBuild EE) ay
noncomputable def Eg(ad:Ad)(EE:DX):az:=al (aA (jD (ao<|aj bY (aj av (ac 0)<|dC<|.int 0)<|dC<|.str "pick")<|ao<|aj bY (aj av (ac 1)<|dC<|.int 0)<|dC<|.str "pick") (eF ad.C_NoBuild EE) ay) (pF ad EE)
noncomputable def C2(ad:Ad):Sd:=aL ["row","other"] (Eg ad)
theorem u_q0{ad:Ad}{a b:D}{M:Mem}{Q:DK}{E:DX}:C2 ad [a,b] M Q E=Eg ad (aB E) { nx:=λ_ M'=>drp Q .non M',rt:=drp Q } [cb a,cb b] M:=rfl
def jA(ad:Ad)(Q1 Q9:Sd)(EE:DX):az:=a_ (fH "list" cB (ac 3)<|aa (am<|ak Q9 EE 3<|aa (ac 5)<|aa (aj av (ac 1)<|ac 4)<|aa (aj aF (ac 2)<|ax<|aa (ac 4) ae) ae) ae)
def kn(ad:Ad)(Q1 Q9:Sd)(EE:DX):az:=a_ (fH "list" bt (ac 3)<|aa (ax<|aa (aj aF (ac 2)<|ax<|aa (ac 4) ae)<|aa (ac 5)<|aa (aj av (ac 1)<|ac 4) ae) ae)
def jW(ad:Ad)(Q1 Q9:Sd)(EE:DX):az:=aA (bR<|am<|ak (eJ ad) EE 1<|aa (ac 5) ae) (jA ad Q1 Q9 EE) (kn ad Q1 Q9 EE)
def kr(ad:Ad)(Q1 Q9:Sd)(EE:DX):az:=al (a_<|ak (C2 ad) EE 2<|aa (ac 5)<|aa (aj av (ac 1)<|ac 4) ae) (jW ad Q1 Q9 EE)
def jT(ad:Ad)(Q1 Q9:Sd)(EE:DX):az:=al (cK (gU<|aa (ac 0) ae) (bL 2<|aD (af 4)<|aD (af 5) bM)<|kr ad Q1 Q9 EE) (aw<|ac 3)
noncomputable def wN(ad:Ad)(Q1 Q9:Sd)(EE:DX):az:=al (aA (ao<|aj kb (bn bC<|aa (ac 0) ae)<|bn bC<|aa (ac 1) ae) (eF ad.C_NoBuild EE) ay) (al (ap (bA ae)<|af 3)<|jT ad Q1 Q9 EE)
def kW(ad:Ad)(Q1 Q9:Sd)(EE:DX):az:=a_ (fH "list" cB (ac 3)<|aa (am<|ak Q1 EE 3<|aa (ac 5)<|aa (ac 6)<|aa (aj aF (ac 2)<|ax<|aa (ac 4) ae) ae) ae)
def uA(ad:Ad)(Q1 Q9:Sd)(EE:DX):az:=al (cK (rS<|aa (am<|ak (qy ad) EE 1<|aa (ac 0) ae)<|aa (am<|ak (eJ ad) EE 1<|aa (ac 0) ae)<|aa (am<|ak (eJ ad) EE 1<|aa (ac 1) ae) ae) (bL 3<|aD (af 4)<|aD (af 5)<|aD (af 6) bM)<|kW ad Q1 Q9 EE) (aw<|ac 3)
noncomputable def Dv(ad:Ad)(Q1 Q9:Sd)(EE:DX):az:=al (ap (bA ae)<|af 3) (uA ad Q1 Q9 EE)
mutual
noncomputable def Q1(ad:Ad):Nat->Sd
 |0=>λ_ _ _ _=>False
 |n+1=>aL ["rows","others","place","told","j","row"] (wN ad (Q1 ad n)<|Q9 ad n)
noncomputable def Q9(ad:Ad):Nat->Sd
 |0=>λ_ _ _ _=>False
 |n+1=>aL ["row","other","place","told","branch","rows","others"] (Dv ad (Q1 ad n)<|Q9 ad n)
end
theorem Lw{ad:Ad}{n:Nat}{b c a:D}{M:Mem}{Q:DK}{E:DX}:Q1 ad (n+1) [b,c,a] M Q E=wN ad (Q1 ad n) (Q9 ad n) (aB E) { nx:=λ_ M'=>drp Q .non M',rt:=drp Q } [cb b,cb c,cb a,ed,ed,ed] M:=rfl
theorem u_q7{ad:Ad}{n:Nat}{b c a:D}{M:Mem}{Q:DK}{E:DX}:Q9 ad (n+1) [b,c,a] M Q E=Dv ad (Q1 ad n) (Q9 ad n) (aB E) { nx:=λ_ M'=>drp Q .non M',rt:=drp Q } [cb b,cb c,cb a,ed,ed,ed,ed] M:=rfl
def jJ(ad:Ad)(EE:DX):az:=aw (bn dG<|aa (am<|bf (cN<|ac 2) ["place","row","beside"] [] (bL 3<|aD (af 0)<|aD (af 1)<|aD (af 2) bM) (ao<|aj kb (ac 1)<|ac 2)<|ac 0) ae)
def qc(ad:Ad)(EE:DX):az:=al (ap (am<|ak (Q1 ad 24) EE 3<|aa (aj av (ac 0)<|dC<|.int 3)<|aa (aj av (ac 1)<|dC<|.int 3)<|aa (ax ae) ae)<|af 2) (jJ ad EE)
noncomputable def vm(ad:Ad)(EE:DX):az:=al (aA (jD (ao<|aj kb (am<|fO (ac 0) aI<|bj<|dC<|.int 3)<|am<|fO (ac 1) aI<|bj<|dC<|.int 3)<|ao<|aj kb (aj av (ac 0)<|dC<|.int 4)<|aj av (ac 1)<|dC<|.int 4) (eF ad.C_NoBuild EE) ay) (qc ad EE)
noncomputable def sg(ad:Ad):Sd:=aL ["one","other","pairs"] (vm ad)
theorem KR{ad:Ad}{a b:D}{M:Mem}{Q:DK}{E:DX}:sg ad [a,b] M Q E=vm ad (aB E) { nx:=λ_ M'=>drp Q .non M',rt:=drp Q } [cb a,cb b,ed] M:=rfl
def qh(ad:Ad)(EE:DX):az:=fW ad.C_Weave (ac 0) (bn pk<|aa (am<|bf (gU<|aa (am<|ak (sg ad) EE 2<|aa (ac 1)<|aa (ac 2) ae) ae) ["i","place"] [1] (bL 2<|aD (af 0)<|aD (af 1) bM) cM<|ax<|aa (ac 1)<|aa (am<|aj aF (aj av (ac 2)<|dC<|.int 2)<|ac 0) ae) ae) "pieces"
noncomputable def Dn(ad:Ad)(EE:DX):az:=al (fW ad.C_Weave (ac 0) (am<|ak (wz ad) EE 1<|aa (aj av (ac 1)<|dC<|.int 1) ae) "name") (qh ad EE)
noncomputable def Ep(ad:Ad):Sd:=aL ["self","one","other"] (Dn ad)
theorem u_q3{ad:Ad}{b c a:D}{M:Mem}{Q:DK}{E:DX}:Ep ad [b,c,a] M Q E=Dn ad (aB E) { nx:=λ_ M'=>drp Q .non M',rt:=drp Q } [cb b,cb c,cb a] M:=rfl
def km(ad:Ad)(Q4 Q5:Sd)(EE:DX):az:=a_ (fH "list" cB (ac 4)<|aa (am<|ak Q5 EE 4<|aa (ac 0)<|aa (ac 6)<|aa (aj av (ac 2)<|ac 5)<|aa (aj aF (ac 3)<|ax<|aa (ac 5) ae) ae) ae)
def oG(ad:Ad)(Q4 Q5:Sd)(EE:DX):az:=al (cK (gU<|aa (ac 1) ae) (bL 2<|aD (af 5)<|aD (af 6) bM)<|km ad Q4 Q5 EE) (aw<|bn bP<|aa (ac 4) ae)
noncomputable def xa(ad:Ad)(Q4 Q5:Sd)(EE:DX):az:=al (ap (bA ae)<|af 4) (oG ad Q4 Q5 EE)
def jx(ad:Ad)(Q4 Q5:Sd)(EE:DX):az:=aw (bA<|aa (ax<|aa (dC<|.str "take")<|aa (df ad.C_Weave (ac 0) "name")<|aa (aj av (df ad.C_Weave (ac 0) "pieces")<|ac 3) ae)<|aa (ax<|aa (dC<|.str "if")<|aa (df ad.C_Weave (ac 0) "name")<|aa (ax<|aa (ac 2) ae)<|aa (ax<|aa (ac 1) ae) ae) ae)
def ig(ad:Ad)(Q4 Q5:Sd)(EE:DX):az:=a_ (fH "list" bt (ac 4)<|aa (am<|ak Q4 EE 4<|aa (ac 0)<|aa (ac 6)<|aa (ac 7)<|aa (aj aF (ac 3)<|ax<|aa (ac 5) ae) ae) ae)
def gB(ad:Ad)(Q4 Q5:Sd)(EE:DX):az:=aw (oX (bR<|ac 4) (bA<|aa (aj aF (am<|fO (ac 1) aI<|bj<|dC<|.int 2)<|bn bP<|aa (ac 4) ae) ae)<|bA<|aa (ac 1) ae)
def jr(ad:Ad)(Q4 Q5:Sd)(EE:DX):az:=al (cK (rS<|aa (am<|ak (qy ad) EE 1<|aa (ac 1) ae)<|aa (am<|ak (eJ ad) EE 1<|aa (ac 1) ae)<|aa (am<|ak (eJ ad) EE 1<|aa (ac 2) ae) ae) (bL 3<|aD (af 5)<|aD (af 6)<|aD (af 7) bM)<|ig ad Q4 Q5 EE) (gB ad Q4 Q5 EE)
noncomputable def wj(ad:Ad)(Q4 Q5:Sd)(EE:DX):az:=al (aA (ao<|aj qZ (ac 3)<|df ad.C_Weave (ac 0) "pieces") (jx ad Q4 Q5 EE) ay) (al (ap (bA ae)<|af 4)<|jr ad Q4 Q5 EE)
mutual
noncomputable def Q4(ad:Ad):Nat->Sd
 |0=>λ_ _ _ _=>False
 |n+1=>aL ["weave","rows","others","place","told","j","row"] (xa ad (Q4 ad n)<|Q5 ad n)
noncomputable def Q5(ad:Ad):Nat->Sd
 |0=>λ_ _ _ _=>False
 |n+1=>aL ["weave","row","other","place","within","branch","rows","others"] (wj ad (Q4 ad n)<|Q5 ad n)
end
theorem LA{ad:Ad}{n:Nat}{b e c a:D}{M:Mem}{Q:DK}{E:DX}:Q4 ad (n+1) [b,e,c,a] M Q E=xa ad (Q4 ad n) (Q5 ad n) (aB E) { nx:=λ_ M'=>drp Q .non M',rt:=drp Q } [cb b,cb e,cb c,cb a,ed,ed,ed] M:=rfl
theorem Jt{ad:Ad}{n:Nat}{b e c a:D}{M:Mem}{Q:DK}{E:DX}:Q5 ad (n+1) [b,e,c,a] M Q E=wj ad (Q4 ad n) (Q5 ad n) (aB E) { nx:=λ_ M'=>drp Q .non M',rt:=drp Q } [cb b,cb e,cb c,cb a,ed,ed,ed,ed] M:=rfl
def jG(ad:Ad)(EE:DX):az:=al (aA (dF<|bR<|am<|ak (qL ad) EE 1<|aa (ac 4) ae) (eF ad.C_TooBig EE) ay) (aw<|ac 4)
def jw(ad:Ad)(EE:DX):az:=al (ap (ax<|aa (aj av (ac 0)<|dC<|.int 0)<|aa (aj aF (aj av (ac 0)<|dC<|.int 1)<|ax<|aa (df ad.C_Weave (ac 2) "name") ae)<|aa (am<|aj aF (aj av (ac 0)<|dC<|.int 2)<|bn vV<|aa (df ad.C_Weave (ac 2) "pieces") ae)<|aa (ac 3)<|aa (aj av (ac 0)<|dC<|.int 4) ae)<|af 4) (jG ad EE)
def j_(ad:Ad)(EE:DX):az:=al (ap (am<|ak (Q4 ad 24) EE 4<|aa (ac 2)<|aa (aj av (ac 0)<|dC<|.int 3)<|aa (aj av (ac 1)<|dC<|.int 3)<|aa (ax ae) ae)<|af 3) (jw ad EE)
noncomputable def wL(ad:Ad)(EE:DX):az:=al (ap (wB ad.C_Weave (Ep ad) EE 3<|aa (ac 0)<|aa (ac 1) ae)<|af 2) (j_ ad EE)
noncomputable def wW(ad:Ad):Sd:=aL ["one","other","weave","rows","plan"] (wL ad)
theorem LU{ad:Ad}{a b:D}{M:Mem}{Q:DK}{E:DX}:wW ad [a,b] M Q E=wL ad (aB E) { nx:=λ_ M'=>drp Q .non M',rt:=drp Q } [cb a,cb b,ed,ed,ed] M:=rfl
noncomputable def D6(ad:Ad)(EE:DX):az:=al (ap (aj fN (aj aF (aj aF (aj h_ (ac 0)<|dC<|.int 6364136223846793005)<|aj h_ (ac 1)<|dC<|.int 1442695040888963407)<|dC<|.int 97)<|dC<|.int 18446744073709551616)<|af 2) (al (ap (aj fN (aj h_ (aj Le (ac 2)<|aj nk (ac 2)<|dC<|.int 2147483648)<|dC<|.int 2685821657736338717)<|dC<|.int 18446744073709551616)<|af 2)<|aw<|aj nk (ac 2)<|dC<|.int 1048576)
noncomputable def uL(ad:Ad):Sd:=aL ["cell","turn","one"] (D6 ad)
theorem u_q9{ad:Ad}{a b:D}{M:Mem}{Q:DK}{E:DX}:uL ad [a,b] M Q E=D6 ad (aB E) { nx:=λ_ M'=>drp Q .non M',rt:=drp Q } [cb a,cb b,ed] M:=rfl
noncomputable def xt(ad:Ad)(EE:DX):az:=al (ap (dC<|.int 7)<|af 1) (al (cK (cN<|am<|fO (ac 0) aI<|bj<|dC<|.int 63) (af 2)<|ap (aj fN (aj aF (aj h_ (ac 1)<|dC<|.int 1000003)<|ac 2)<|dC<|.int 18446744073709551616)<|af 1)<|aw<|bA<|aa (bn zc<|aa (am<|fO (ac 0) aI<|bj<|dC<|.int 63) ae)<|aa (dC<|.int 0)<|aa (dC<|.int 0)<|aa (ac 1) ae)
noncomputable def u_(ad:Ad):Sd:=aL ["script","seed","cell"] (xt ad)
theorem KP{ad:Ad}{a:D}{M:Mem}{Q:DK}{E:DX}:u_ ad [a] M Q E=xt ad (aB E) { nx:=λ_ M'=>drp Q .non M',rt:=drp Q } [cb a,ed,ed] M:=rfl
noncomputable def zU(ad:Ad)(EE:DX):az:=al (ap (aj aF (aj av (ac 0)<|dC<|.int 1)<|dC<|.int 1)<|gK (ac 0)<|dC<|.int 1) (al (aA (g7 (ao<|aj bY (aj av (ac 0)<|dC<|.int 2)<|dC<|.int 0)<|ao<|aj kb (aj av (ac 0)<|dC<|.int 0)<|am<|bA ae) (al (ap (fH "list" Be (aj av (ac 0)<|dC<|.int 0)<|aa (dC<|.int 0) ae)<|af 2)<|al (aA (ao<|aj xM (ac 2)<|aj GE (dC<|.int 10)<|dC<|.int 18) (aw<|aj fN (am<|ak (uL ad) EE 2<|aa (ac 2)<|aa (aj av (ac 0)<|dC<|.int 1) ae)<|ac 1) ay)<|ap (ac 2)<|gK (ac 0)<|dC<|.int 2) ay)<|al (aA (ao<|aj bY (aj av (ac 0)<|dC<|.int 2)<|dC<|.int 0) (aw<|aj fN (am<|ak (uL ad) EE 2<|aa (aj av (ac 0)<|dC<|.int 3)<|aa (aj av (ac 0)<|dC<|.int 1) ae)<|ac 1) ay)<|al (ap (aj fN (aj av (ac 0)<|dC<|.int 2)<|ac 1)<|af 3)<|al (ap (aj nk (aj av (ac 0)<|dC<|.int 2)<|ac 1)<|gK (ac 0)<|dC<|.int 2)<|aw<|ac 3)
noncomputable def aZ(ad:Ad):Sd:=aL ["pot","many","cell","found"] (zU ad)
theorem u_q25{ad:Ad}{a b:D}{M:Mem}{Q:DK}{E:DX}:aZ ad [a,b] M Q E=zU ad (aB E) { nx:=λ_ M'=>drp Q .non M',rt:=drp Q } [cb a,cb b,ed,ed] M:=rfl
def k9(ad:Ad)(EE:DX):az:=a_ (fH "list" bt (ac 3)<|aa (aj h_ (ac 5)<|aj aF (dC<|.int 1)<|am<|ak (aZ ad) EE 2<|aa (ac 0)<|aa (dC<|.int 8) ae) ae)
def ko(ad:Ad)(EE:DX):az:=al (ap (aj av (dC<|.str "abcdefghijklmnopqrstuvwxyz")<|aj fN (aj aF (ac 2)<|aj h_ (dC<|.int 7)<|ac 4)<|dC<|.int 26)<|af 5) (k9 ad EE)
def kh(ad:Ad)(EE:DX):az:=al (cK (nv<|aa (ac 1) ae) (af 4)<|ko ad EE) (aw<|bn bP<|aa (ac 3) ae)
noncomputable def vJ(ad:Ad)(EE:DX):az:=al (ap (am<|ak (aZ ad) EE 2<|aa (ac 0)<|aa (dC<|.int 26) ae)<|af 2) (al (ap (bA ae)<|af 3)<|kh ad EE)
noncomputable def wU(ad:Ad):Sd:=aL ["pot","many","turn","names","k","sign"] (vJ ad)
theorem JD{ad:Ad}{a b:D}{M:Mem}{Q:DK}{E:DX}:wU ad [a,b] M Q E=vJ ad (aB E) { nx:=λ_ M'=>drp Q .non M',rt:=drp Q } [cb a,cb b,ed,ed,ed,ed] M:=rfl
noncomputable def Bf(ad:Ad)(EE:DX):az:=al (ap (ac 1)<|bL 3<|aD (af 2)<|aD (af 3)<|aD (af 4) bM) (al (ap (am<|bA<|aa (dC<|.str "put")<|aa (dC<|.str "sum")<|aa (dC<|.str "by")<|aa (dC<|.str "less")<|aa (dC<|.str "same")<|aa (dC<|.str "sum")<|aa (dC<|.str "put")<|aa (dC<|.str "take")<|aa (dC<|.str "pick") ae)<|af 5)<|al (ap (aj av (ac 5)<|am<|ak (aZ ad) EE 2<|aa (ac 0)<|aa (oX (ao<|aj sS (ac 4)<|dC<|.int 0) (dC<|.int 9)<|dC<|.int 7) ae)<|af 6)<|al (ap (aj av (ac 3)<|am<|ak (aZ ad) EE 2<|aa (ac 0)<|aa (bn bC<|aa (ac 3) ae) ae)<|af 7)<|al (aA (ao<|aj bY (ac 6)<|dC<|.str "put") (aw<|ax<|aa (ac 6)<|aa (ac 7)<|aa (ak (aZ ad) EE 2<|aa (ac 0)<|aa (ac 2) ae) ae) ay)<|al (aA (ao<|aj bY (ac 6)<|dC<|.str "take") (aw<|ax<|aa (ac 6)<|aa (ac 7)<|aa (ak (aZ ad) EE 2<|aa (ac 0)<|aa (ac 4) ae) ae) ay)<|al (ap (aj av (ac 3)<|am<|ak (aZ ad) EE 2<|aa (ac 0)<|aa (bn bC<|aa (ac 3) ae) ae)<|af 8)<|al (aA (ao<|aj bY (ac 6)<|dC<|.str "pick") (aw<|ax<|aa (ac 6)<|aa (ac 7)<|aa (ac 8) ae) ay)<|aw<|ax<|aa (ac 6)<|aa (ac 7)<|aa (ac 8)<|aa (aj av (ac 3)<|am<|ak (aZ ad) EE 2<|aa (ac 0)<|aa (bn bC<|aa (ac 3) ae) ae) ae)
noncomputable def o8(ad:Ad):Sd:=aL ["pot","told","m","names","many","ways","way","x","y"] (Bf ad)
theorem KO{ad:Ad}{a b:D}{M:Mem}{Q:DK}{E:DX}:o8 ad [a,b] M Q E=Bf ad (aB E) { nx:=λ_ M'=>drp Q .non M',rt:=drp Q } [cb a,cb b,ed,ed,ed,ed,ed,ed,ed] M:=rfl
noncomputable def xn(ad:Ad)(Rh Rg:Sd)(EE:DX):az:=al (ap (ac 1)<|bL 3<|aD (af 4)<|aD (af 5)<|aD (af 6) bM) (al (ap (aj av (ac 5)<|am<|ak (aZ ad) EE 2<|aa (ac 0)<|aa (bn bC<|aa (ac 5) ae) ae)<|af 7)<|al (ap (am<|ak Rg EE 5<|aa (ac 0)<|aa (ac 1)<|aa (ac 2)<|aa (aj aF (ac 3)<|dC<|.int 1)<|aa (dC<|.int 5) ae)<|af 8)<|al (ap (am<|ak (aZ ad) EE 2<|aa (ac 0)<|aa (dC<|.int 5) ae)<|af 9)<|al (aA (ao<|aj xM (ac 9)<|dC<|.int 2) (aw<|bA<|aa (ax<|aa (dC<|.str "if")<|aa (ac 7)<|aa (ac 8)<|aa (ak Rg EE 5<|aa (ac 0)<|aa (ac 1)<|aa (ac 2)<|aa (aj aF (ac 3)<|dC<|.int 1)<|aa (dC<|.int 5) ae) ae) ae) ay)<|al (aA (ao<|aj bY (ac 9)<|dC<|.int 2) (aw<|bA<|aa (ax<|aa (dC<|.str "again")<|aa (ac 7)<|aa (ac 8) ae) ae) ay)<|al (ap (aj av (ac 5)<|am<|ak (aZ ad) EE 2<|aa (ac 0)<|aa (bn bC<|aa (ac 5) ae) ae)<|af 10)<|aw<|bA<|aa (ax<|aa (dC<|.str "put")<|aa (ac 7)<|aa (ak (aZ ad) EE 2<|aa (ac 0)<|aa (bn FW<|aa (ac 4)<|aa (dC<|.int 9) ae) ae) ae)<|aa (ax<|aa (dC<|.str "put")<|aa (ac 10)<|aa (aj ga (ac 4)<|dC<|.int 1) ae)<|aa (ax<|aa (dC<|.str "again")<|aa (ac 7)<|aa (aj aF (ac 8)<|ax<|aa (ax<|aa (dC<|.str "sum")<|aa (ac 7)<|aa (ac 7)<|aa (ac 10) ae) ae) ae) ae)
noncomputable def vY(ad:Ad)(Rh Rg:Sd)(EE:DX):az:=al (ap (bA ae)<|af 5) (al (cK (nv<|aa (am<|ak (aZ ad) EE 2<|aa (ac 0)<|aa (ac 4) ae) ae) (af 6)<|aA (g7 (ao<|aj sS (aj av (ac 2)<|dC<|.int 0)<|dC<|.int 4)<|g7 (ao<|aj xM (ac 3)<|dC<|.int 4)<|ao<|aj bY (am<|ak (aZ ad) EE 2<|aa (ac 0)<|aa (dC<|.int 4) ae)<|dC<|.int 0) (al (ap (aj ga (aj av (ac 2)<|dC<|.int 0)<|dC<|.int 4)<|gK (ac 2)<|dC<|.int 0)<|ap (aj aF (ac 5)<|am<|ak Rh EE 4<|aa (ac 0)<|aa (ac 1)<|aa (ac 2)<|aa (ac 3) ae)<|af 5)<|aA (ao<|aj sS (aj av (ac 2)<|dC<|.int 0)<|dC<|.int 0) (al (ap (aj ga (aj av (ac 2)<|dC<|.int 0)<|dC<|.int 1)<|gK (ac 2)<|dC<|.int 0)<|a_<|fH "list" bt (ac 5)<|aa (am<|ak (o8 ad) EE 2<|aa (ac 0)<|aa (ac 1) ae) ae) ay)<|aw<|bn bP<|aa (ac 5) ae)
mutual
noncomputable def Rh(ad:Ad):Nat->Sd
 |0=>λ_ _ _ _=>False
 |n+1=>aL ["pot","told","room","deep","m","names","many","x","first","way","y"] (xn ad (Rh ad n)<|Rg ad n)
noncomputable def Rg(ad:Ad):Nat->Sd
 |0=>λ_ _ _ _=>False
 |n+1=>aL ["pot","told","room","deep","most","rows","k"] (vY ad (Rh ad n)<|Rg ad n)
end
theorem Ks{ad:Ad}{n:Nat}{b e c a:D}{M:Mem}{Q:DK}{E:DX}:Rh ad (n+1) [b,e,c,a] M Q E=xn ad (Rh ad n) (Rg ad n) (aB E) { nx:=λ_ M'=>drp Q .non M',rt:=drp Q } [cb b,cb e,cb c,cb a,ed,ed,ed,ed,ed,ed,ed] M:=rfl
theorem JG{ad:Ad}{n:Nat}{c b f e a:D}{M:Mem}{Q:DK}{E:DX}:Rg ad (n+1) [c,b,f,e,a] M Q E=vY ad (Rh ad n) (Rg ad n) (aB E) { nx:=λ_ M'=>drp Q .non M',rt:=drp Q } [cb c,cb b,cb f,cb e,cb a,ed,ed] M:=rfl
noncomputable def vT(ad:Ad)(EE:DX):az:=al (ap (aj av (am<|bA<|aa (dC<|.int 2)<|aa (dC<|.int 3)<|aa (aj aF (dC<|.int 2)<|am<|ak (aZ ad) EE 2<|aa (ac 0)<|aa (dC<|.int 9) ae)<|aa (aj aF (dC<|.int 2)<|am<|ak (aZ ad) EE 2<|aa (ac 0)<|aa (dC<|.int 996) ae) ae)<|am<|ak (aZ ad) EE 2<|aa (ac 0)<|aa (dC<|.int 4) ae)<|af 2) (al (ap (am<|ak (wU ad) EE 2<|aa (ac 0)<|aa (aj aF (dC<|.int 1)<|am<|ak (aZ ad) EE 2<|aa (ac 0)<|aa (aj av (am<|bA<|aa (dC<|.int 3)<|aa (dC<|.int 5)<|aa (dC<|.int 12) ae)<|am<|ak (aZ ad) EE 2<|aa (ac 0)<|aa (dC<|.int 3) ae) ae) ae)<|af 3)<|al (ap (aj av (am<|bA<|aa (dC<|.int 0)<|aa (aj aF (dC<|.int 1)<|am<|ak (aZ ad) EE 2<|aa (ac 0)<|aa (dC<|.int 4) ae)<|aa (am<|ak (aZ ad) EE 2<|aa (ac 0)<|aa (dC<|.int 41) ae) ae)<|am<|ak (aZ ad) EE 2<|aa (ac 0)<|aa (dC<|.int 3) ae)<|af 4)<|al (ap (am<|ak (Rg ad 24) EE 5<|aa (ac 0)<|aa (ax<|aa (ac 2)<|aa (ac 3)<|aa (ac 4) ae)<|aa (bA<|aa (ac 1) ae)<|aa (dC<|.int 0)<|aa (aj av (am<|bA<|aa (dC<|.int 6)<|aa (dC<|.int 12)<|aa (dC<|.int 30) ae)<|am<|ak (aZ ad) EE 2<|aa (ac 0)<|aa (dC<|.int 3) ae) ae)<|af 5)<|aw<|ax<|aa (ac 2)<|aa (ac 3)<|aa (ac 4)<|aa (ac 5)<|aa (aj av (ac 3)<|am<|ak (aZ ad) EE 2<|aa (ac 0)<|aa (bn bC<|aa (ac 3) ae) ae) ae)
noncomputable def vt(ad:Ad):Sd:=aL ["pot","most","m","names","many","rows"] (vT ad)
theorem JL{ad:Ad}{a b:D}{M:Mem}{Q:DK}{E:DX}:vt ad [a,b] M Q E=vT ad (aB E) { nx:=λ_ M'=>drp Q .non M',rt:=drp Q } [cb a,cb b,ed,ed,ed,ed] M:=rfl
noncomputable def AK(ad:Ad)(EE:DX):az:=al (ap (bn bP<|aa (am<|bf (cN<|aj av (ac 1)<|dC<|.int 1) ["name"] [0,1] (af 0) cM<|am<|ak (aZ ad) md 2<|aa (ac 1)<|aa (aj av (ac 2)<|dC<|.int 0) ae) ae)<|af 2) (aw<|ax<|aa (ac 2)<|aa (bn bP<|aa (am<|bf (nv<|aa (aj av (ac 1)<|dC<|.int 2) ae) ["k"] [0,1] (af 0) cM<|am<|ak (aZ ad) md 2<|aa (ac 1)<|aa (aj av (ac 2)<|dC<|.int 0) ae) ae) ae)
noncomputable def vM(ad:Ad):Sd:=aL ["pot","plan","numbers"] (AK ad)
theorem u_q15{ad:Ad}{a b:D}{M:Mem}{Q:DK}{E:DX}:vM ad [a,b] M Q E=AK ad (aB E) { nx:=λ_ M'=>drp Q .non M',rt:=drp Q } [cb a,cb b,ed] M:=rfl
def p6(ad:Ad)(Rf:Sd)(EE:DX):az:=ap (am<|aj aF (am<|fO (ac 2) aI<|bj<|dC<|.int 2)<|bn bP<|aa (am<|bf (cN<|am<|fO (ac 2) (bj<|dC<|.int 2) aI) ["some"] [] (af 0) cM<|am<|ak Rf md 1<|aa (ac 0) ae) ae) (af 2)
def tE(ad:Ad)(Rf:Sd)(EE:DX):az:=ap (ax<|aa (dC<|.str "take")<|aa (aj av (ac 2)<|dC<|.int 1)<|aa (dC<|.int 0) ae) (af 2)
def lQ(ad:Ad)(Rf:Sd)(EE:DX):az:=al (aA (ao<|aj bY (aj av (ac 2)<|dC<|.int 0)<|dC<|.str "pick") (tE ad Rf EE) ay) (a_<|fH "list" bt (ac 1)<|aa (ac 2) ae)
def mh(ad:Ad)(Rf:Sd)(EE:DX):az:=al (aA (ao<|aj qZ (aj av (ac 2)<|dC<|.int 0)<|am<|bA<|aa (dC<|.str "if")<|aa (dC<|.str "again") ae) (p6 ad Rf EE) ay) (lQ ad Rf EE)
def ui(ad:Ad)(Rf:Sd)(EE:DX):az:=al (cK (cN<|ac 0) (af 2)<|mh ad Rf EE) (aw<|bn bP<|aa (ac 1) ae)
noncomputable def Bu(ad:Ad)(Rf:Sd)(EE:DX):az:=al (ap (bA ae)<|af 1) (ui ad Rf EE)
noncomputable def Rf(ad:Ad):Nat->Sd
 |0=>λ_ _ _ _=>False
 |n+1=>aL ["rows","made","row"] (Bu ad<|Rf ad n)
theorem u_q6{ad:Ad}{n:Nat}{a:D}{M:Mem}{Q:DK}{E:DX}:Rf ad (n+1) [a] M Q E=Bu ad (Rf ad n) (aB E) { nx:=λ_ M'=>drp Q .non M',rt:=drp Q } [cb a,ed,ed] M:=rfl
def pY(ad:Ad)(Q0:Sd)(EE:DX):az:=ap (aj aF (am<|fO (ac 6) aI<|bj<|dC<|.int 2)<|ax<|aa (ac 9)<|aa (ac 8) ae) (af 6)
def pX(ad:Ad)(Q0:Sd)(EE:DX):az:=al (ap (am<|ak Q0 EE 4<|aa (ac 0)<|aa (ac 1)<|aa (aj av (ac 6)<|dC<|.int 2)<|aa (aj aF (ac 7)<|ax<|aa (dC<|.int 1) ae) ae)<|af 9) (pY ad Q0 EE)
def m8(ad:Ad)(Q0:Sd)(EE:DX):az:=al (ap (am<|ak Q0 EE 4<|aa (ac 0)<|aa (ac 1)<|aa (aj av (ac 6)<|dC<|.int 3)<|aa (aj aF (ac 7)<|ax<|aa (dC<|.int 0) ae) ae)<|af 8) (pX ad Q0 EE)
def p0(ad:Ad)(Q0:Sd)(EE:DX):az:=ap (aj aF (am<|fO (ac 6) aI<|bj<|dC<|.int 2)<|ax<|aa (ac 10) ae) (af 6)
def ly(ad:Ad)(Q0:Sd)(EE:DX):az:=al (ap (am<|ak Q0 EE 4<|aa (ac 0)<|aa (ac 1)<|aa (aj av (ac 6)<|dC<|.int 2)<|aa (aj aF (ac 7)<|ax<|aa (dC<|.int 0) ae) ae)<|af 10) (p0 ad Q0 EE)
def p8(ad:Ad)(Q0:Sd)(EE:DX):az:=al (a_<|fH "list" bt (aj av (ac 1)<|dC<|.int 1)<|aa (ac 7) ae) (ap (ac 11)<|af 6)
def pf(ad:Ad)(Q0:Sd)(EE:DX):az:=al (ap (aj ga (aj av (ac 1)<|dC<|.int 2)<|dC<|.int 1)<|gK (ac 1)<|dC<|.int 2) (p8 ad Q0 EE)
def oj(ad:Ad)(Q0:Sd)(EE:DX):az:=aA (ao<|aj kb (ac 11)<|ac 6) (pf ad Q0 EE) ay
def oF(ad:Ad)(Q0:Sd)(EE:DX):az:=al (ap (aj av (am<|ak (Rf ad 24) EE 1<|aa (ax<|aa (am<|ak (o8 ad) EE 2<|aa (ac 0)<|aa (aj av (ac 1)<|dC<|.int 0) ae) ae) ae)<|dC<|.int 0)<|af 11) (oj ad Q0 EE)
def gJ(ad:Ad)(Q0:Sd)(EE:DX):az:=aA (g7 (ao<|aj sS (aj av (ac 1)<|dC<|.int 2)<|dC<|.int 0)<|ao<|aj bY (am<|ak (aZ ad) EE 2<|aa (ac 0)<|aa (dC<|.int 3) ae)<|dC<|.int 0) (oF ad Q0 EE) ay
def jV(ad:Ad)(Q0:Sd)(EE:DX):az:=aA (ao<|aj bY (aj av (ac 6)<|dC<|.int 0)<|dC<|.str "again") (ly ad Q0 EE) (gJ ad Q0 EE)
def jp(ad:Ad)(Q0:Sd)(EE:DX):az:=al (aA (ao<|aj bY (aj av (ac 6)<|dC<|.int 0)<|dC<|.str "if") (m8 ad Q0 EE)<|jV ad Q0 EE) (a_<|fH "list" bt (ac 4)<|aa (ac 6) ae)
def g_(ad:Ad)(Q0:Sd)(EE:DX):az:=al (ap (aj aF (ac 3)<|ax<|aa (ac 5) ae)<|af 7) (jp ad Q0 EE)
def p4(ad:Ad)(Q0:Sd)(EE:DX):az:=al (cK (gU<|aa (ac 2) ae) (bL 2<|aD (af 5)<|aD (af 6) bM)<|g_ ad Q0 EE) (aw<|bn bP<|aa (ac 4) ae)
noncomputable def CA(ad:Ad)(Q0:Sd)(EE:DX):az:=al (ap (bA ae)<|af 4) (p4 ad Q0 EE)
noncomputable def Q0(ad:Ad):Nat->Sd
 |0=>λ_ _ _ _=>False
 |n+1=>aL ["pot","work","rows","place","made","at","row","here","second","first","inner","other"] (CA ad<|Q0 ad n)
theorem u_q5{ad:Ad}{n:Nat}{b e c a:D}{M:Mem}{Q:DK}{E:DX}:Q0 ad (n+1) [b,e,c,a] M Q E=CA ad (Q0 ad n) (aB E) { nx:=λ_ M'=>drp Q .non M',rt:=drp Q } [cb b,cb e,cb c,cb a,ed,ed,ed,ed,ed,ed,ed,ed] M:=rfl
def jb(ad:Ad)(EE:DX):az:=aw (ax<|aa (ac 3)<|aa (aj aF (am<|fO (ac 3) aI<|bj<|dC<|.int 3)<|ax<|aa (ac 5)<|aa (aj av (ac 3)<|dC<|.int 4) ae)<|aa (bn dG<|aa (aj av (ac 4)<|dC<|.int 1) ae) ae)
def jf(ad:Ad)(EE:DX):az:=al (ap (am<|ak (Q0 ad 24) EE 4<|aa (ac 0)<|aa (ac 4)<|aa (aj av (ac 3)<|dC<|.int 3)<|aa (ax ae) ae)<|af 5) (jb ad EE)
def jR(ad:Ad)(EE:DX):az:=al (ap (bA<|aa (fO (ac 3) aI<|bj<|dC<|.int 3)<|aa (bA ae)<|aa (ac 2) ae)<|af 4) (jf ad EE)
def k7(ad:Ad)(EE:DX):az:=al (ap (aj aF (am<|fO (ac 3) aI<|bj<|dC<|.int 3)<|ax<|aa (am<|ak (Rf ad 24) EE 1<|aa (aj av (ac 3)<|dC<|.int 3) ae)<|aa (aj av (ac 3)<|dC<|.int 4) ae)<|af 3) (jR ad EE)
noncomputable def xu(ad:Ad)(EE:DX):az:=al (ap (am<|ak (vt ad) EE 2<|aa (ac 0)<|aa (ac 1) ae)<|af 3) (k7 ad EE)
noncomputable def vZ(ad:Ad):Sd:=aL ["pot","most_rows","most_unlike","plan","work","rows"] (xu ad)
theorem Kv{ad:Ad}{b c a:D}{M:Mem}{Q:DK}{E:DX}:vZ ad [b,c,a] M Q E=xu ad (aB E) { nx:=λ_ M'=>drp Q .non M',rt:=drp Q } [cb b,cb c,cb a,ed,ed,ed] M:=rfl
def uQ(ad:Ad)(EE:DX):az:=aA (ao<|aj g8 (ac 3)<|ac 0) (aw<|ac 3) ay
def qf(ad:Ad)(EE:DX):az:=al (ap (oX (ao<|aj xM (ac 2)<|dC<|.int 26) (aj av (ac 1)<|ac 2)<|am<|aj aF (aj av (ac 1)<|aj nk (aj ga (ac 2)<|dC<|.int 26)<|dC<|.int 26)<|aj av (ac 1)<|aj fN (aj ga (ac 2)<|dC<|.int 26)<|dC<|.int 26)<|af 3) (uQ ad EE)
def tw(ad:Ad)(EE:DX):az:=al (cK (nv<|aa (aj aF (dC<|.int 26)<|dC<|.int 676) ae) (af 2)<|qf ad EE) (aw<|dC<|.str "")
noncomputable def Cr(ad:Ad)(EE:DX):az:=al (ap (dC<|.str "abcdefghijklmnopqrstuvwxyz")<|af 1) (tw ad EE)
noncomputable def Du(ad:Ad):Sd:=aL ["names","letters","k","name"] (Cr ad)
theorem u_q1{ad:Ad}{a:D}{M:Mem}{Q:DK}{E:DX}:Du ad [a] M Q E=Cr ad (aB E) { nx:=λ_ M'=>drp Q .non M',rt:=drp Q } [cb a,ed,ed,ed] M:=rfl
def pV(ad:Ad)(QZ:Sd)(EE:DX):az:=ap (aj aF (ac 6)<|ax<|aa (ax<|aa (dC<|.str "if")<|aa (aj av (ac 8)<|dC<|.int 1)<|aa (ac 10)<|aa (ac 11) ae) ae) (af 6)
def kx(ad:Ad)(QZ:Sd)(EE:DX):az:=al (ap (am<|ak QZ EE 6<|aa (aj av (ac 8)<|dC<|.int 3)<|aa (aj av (aj av (ac 1)<|ac 7)<|dC<|.int 3)<|aa (aj aF (ac 9)<|ax<|aa (dC<|.int 0) ae)<|aa (ac 3)<|aa (ac 4)<|aa (ac 5) ae)<|af 11) (pV ad QZ EE)
def gO(ad:Ad)(QZ:Sd)(EE:DX):az:=al (ap (am<|ak QZ EE 6<|aa (aj av (ac 8)<|dC<|.int 2)<|aa (aj av (aj av (ac 1)<|ac 7)<|dC<|.int 2)<|aa (aj aF (ac 9)<|ax<|aa (dC<|.int 1) ae)<|aa (ac 3)<|aa (ac 4)<|aa (ac 5) ae)<|af 10) (kx ad QZ EE)
def o_(ad:Ad)(QZ:Sd)(EE:DX):az:=ap (aj aF (ac 6)<|ax<|aa (ax<|aa (dC<|.str "again")<|aa (aj av (ac 8)<|dC<|.int 1)<|aa (ac 12) ae) ae) (af 6)
def gS(ad:Ad)(QZ:Sd)(EE:DX):az:=al (ap (am<|ak QZ EE 6<|aa (aj av (ac 8)<|dC<|.int 2)<|aa (aj av (aj av (ac 1)<|ac 7)<|dC<|.int 2)<|aa (aj aF (ac 9)<|ax<|aa (dC<|.int 0) ae)<|aa (ac 3)<|aa (ac 4)<|aa (ac 5) ae)<|af 12) (o_ ad QZ EE)
def jy(ad:Ad)(QZ:Sd)(EE:DX):az:=ap (aj aF (ac 6)<|ax<|aa (ac 13)<|aa (ax<|aa (dC<|.str "if")<|aa (ac 4)<|aa (ax<|aa (aj av (ac 1)<|ac 7) ae)<|aa (ax<|aa (ac 8) ae) ae) ae) (af 6)
def je(ad:Ad)(QZ:Sd)(EE:DX):az:=al (ap (ax<|aa (dC<|.str "take")<|aa (ac 4)<|aa (am<|aj aF (ac 5)<|fH "list" gH (ac 3)<|aa (ac 9) ae) ae)<|af 13) (jy ad QZ EE)
def pL(ad:Ad)(QZ:Sd)(EE:DX):az:=ap (aj aF (ac 6)<|ax<|aa (ac 8) ae) (af 6)
def gE(ad:Ad)(QZ:Sd)(EE:DX):az:=aA (ao<|aj qZ (ac 9)<|ac 3) (je ad QZ EE) (pL ad QZ EE)
def ik(ad:Ad)(QZ:Sd)(EE:DX):az:=aA (ao<|aj bY (aj av (ac 8)<|dC<|.int 0)<|dC<|.str "again") (gS ad QZ EE) (gE ad QZ EE)
def gF(ad:Ad)(QZ:Sd)(EE:DX):az:=aA (ao<|aj bY (aj av (ac 8)<|dC<|.int 0)<|dC<|.str "if") (gO ad QZ EE) (ik ad QZ EE)
def fg(ad:Ad)(QZ:Sd)(EE:DX):az:=al (ap (aj aF (ac 2)<|ax<|aa (ac 7) ae)<|af 9) (gF ad QZ EE)
def kH(ad:Ad)(QZ:Sd)(EE:DX):az:=al (cK (gU<|aa (ac 0) ae) (bL 2<|aD (af 7)<|aD (af 8) bM)<|fg ad QZ EE) (aw<|ac 6)
noncomputable def xx(ad:Ad)(QZ:Sd)(EE:DX):az:=al (ap (ax ae)<|af 6) (kH ad QZ EE)
noncomputable def QZ(ad:Ad):Nat->Sd
 |0=>λ_ _ _ _=>False
 |n+1=>aL ["rows","others","place","places","name","many","made","at","row","here","first","second","inner","take"] (xx ad<|QZ ad n)
theorem LB{ad:Ad}{n:Nat}{b g e f a c:D}{M:Mem}{Q:DK}{E:DX}:QZ ad (n+1) [b,g,e,f,a,c] M Q E=xx ad (QZ ad n) (aB E) { nx:=λ_ M'=>drp Q .non M',rt:=drp Q } [cb b,cb g,cb e,cb f,cb a,cb c,ed,ed,ed,ed,ed,ed,ed,ed] M:=rfl
def j9(ad:Ad)(EE:DX):az:=aw (ax<|aa (aj av (ac 0)<|dC<|.int 0)<|aa (aj aF (aj av (ac 0)<|dC<|.int 1)<|ax<|aa (ac 3) ae)<|aa (aj aF (aj av (ac 0)<|dC<|.int 2)<|bn bC<|aa (ac 2) ae)<|aa (ac 4)<|aa (aj av (ac 0)<|dC<|.int 4) ae)
def jK(ad:Ad)(EE:DX):az:=al (ap (am<|ak (QZ ad 24) EE 6<|aa (aj av (ac 0)<|dC<|.int 3)<|aa (aj av (ac 1)<|dC<|.int 3)<|aa (ax ae)<|aa (ac 2)<|aa (ac 3)<|aa (aj av (ac 0)<|dC<|.int 2) ae)<|af 4) (j9 ad EE)
noncomputable def xc(ad:Ad)(EE:DX):az:=al (ap (am<|ak (Du ad) EE 1<|aa (aj av (ac 0)<|dC<|.int 1) ae)<|af 3) (jK ad EE)
noncomputable def wb(ad:Ad):Sd:=aL ["one","other","places","name","rows"] (xc ad)
theorem L1{ad:Ad}{b c a:D}{M:Mem}{Q:DK}{E:DX}:wb ad [b,c,a] M Q E=xc ad (aB E) { nx:=λ_ M'=>drp Q .non M',rt:=drp Q } [cb b,cb c,cb a,ed,ed] M:=rfl
def ku(ad:Ad)(Q7:Sd)(EE:DX):az:=ap (am<|aj aF (ac 2)<|am<|ak Q7 EE 2<|aa (ac 4)<|aa (aj aF (ac 1)<|dC<|.int 1) ae) (af 2)
def jH(ad:Ad)(Q7:Sd)(EE:DX):az:=cK (cN<|am<|fO (ac 3) (bj<|dC<|.int 2) aI) (af 4) (ku ad Q7 EE)
def gG(ad:Ad)(Q7:Sd)(EE:DX):az:=al (aA (ao<|aj bY (ac 1)<|dC<|.int 4) (aw<|dC<|.int 61) ay) (jH ad Q7 EE)
def k8(ad:Ad)(Q7:Sd)(EE:DX):az:=aA (ao<|aj qZ (aj av (ac 3)<|dC<|.int 0)<|am<|bA<|aa (dC<|.str "if")<|aa (dC<|.str "again") ae) (gG ad Q7 EE) ay
def gA(ad:Ad)(Q7:Sd)(EE:DX):az:=al (ap (aj aF (ac 2)<|dC<|.int 1)<|af 2) (k8 ad Q7 EE)
def pQ(ad:Ad)(Q7:Sd)(EE:DX):az:=al (cK (cN<|ac 0) (af 3)<|gA ad Q7 EE) (aw<|ac 2)
noncomputable def vP(ad:Ad)(Q7:Sd)(EE:DX):az:=al (ap (dC<|.int 0)<|af 2) (pQ ad Q7 EE)
noncomputable def Q7(ad:Ad):Nat->Sd
 |0=>λ_ _ _ _=>False
 |n+1=>aL ["rows","deep","total","row","some"] (vP ad<|Q7 ad n)
theorem Lg{ad:Ad}{n:Nat}{a b:D}{M:Mem}{Q:DK}{E:DX}:Q7 ad (n+1) [a,b] M Q E=vP ad (Q7 ad n) (aB E) { nx:=λ_ M'=>drp Q .non M',rt:=drp Q } [cb a,cb b,ed,ed,ed] M:=rfl
noncomputable def vA(ad:Ad)(EE:DX):az:=aw (eI (aj yY (bn bC<|aa (aj av (ac 0)<|dC<|.int 1) ae)<|dC<|.int 12)<|eI (aj yY (aj av (ac 0)<|dC<|.int 2)<|dC<|.int 40)<|aj yY (am<|ak (Q7 ad 24) EE 2<|aa (aj av (ac 0)<|dC<|.int 3)<|aa (dC<|.int 0) ae)<|dC<|.int 60)
noncomputable def qV(ad:Ad):Sd:=aL ["plan"] (vA ad)
theorem LI{ad:Ad}{a:D}{M:Mem}{Q:DK}{E:DX}:qV ad [a] M Q E=vA ad (aB E) { nx:=λ_ M'=>drp Q .non M',rt:=drp Q } [cb a] M:=rfl
noncomputable def gs(ad:Ad)(Ri:Sd)(EE:DX):az:=al (aA (ao<|aj t7 (ac 1)<|dC .non) (aw<|aj t7 (ac 0)<|dC .non) ay) (al (aA (bR<|bn bT<|aa (ac 1)<|aa (dC<|.ty "bool") ae) (aw<|eI (bn bT<|aa (ac 0)<|aa (dC<|.ty "bool") ae)<|aj bY (ac 0)<|ac 1) ay)<|al (aA (bR<|bn bT<|aa (ac 1)<|aa (dC<|.ty "int") ae) (aw<|eI (bn bT<|aa (ac 0)<|aa (dC<|.ty "int") ae)<|eI (EF<|bn bT<|aa (ac 0)<|aa (dC<|.ty "bool") ae)<|aj bY (ac 0)<|ac 1) ay)<|al (aA (bR<|bn bT<|aa (ac 1)<|aa (dC<|.ty "str") ae) (aw<|eI (bn bT<|aa (ac 0)<|aa (dC<|.ty "str") ae)<|aj bY (ac 0)<|ac 1) ay)<|al (aA (jD (ao<|aj kb (bn bT<|aa (ac 1)<|aa (dC<|.ty "tuple") ae)<|bn bT<|aa (ac 0)<|aa (dC<|.ty "tuple") ae)<|ao<|aj kb (bn bT<|aa (ac 1)<|aa (dC<|.ty "list") ae)<|bn bT<|aa (ac 0)<|aa (dC<|.ty "list") ae) (aw<|dC<|.bl eP) ay)<|al (aA (ao<|aj kb (bn bC<|aa (ac 0) ae)<|bn bC<|aa (ac 1) ae) (aw<|dC<|.bl eP) ay)<|aw<|bn pI<|aa (am<|bf (GW<|aa (ac 0)<|aa (ac 1) ae) ["one","other"] [] (bL 2<|aD (af 0)<|aD (af 1) bM) cM<|am<|ak Ri md 2<|aa (ac 0)<|aa (ac 1) ae) ae)
noncomputable def Ri(ad:Ad):Nat->Sd
 |0=>λ_ _ _ _=>False
 |n+1=>aL ["found","due"] (gs ad<|Ri ad n)
theorem nO{ad:Ad}{n:Nat}{a b:D}{M:Mem}{Q:DK}{E:DX}:Ri ad (n+1) [a,b] M Q E=gs ad (Ri ad n) (aB E) { nx:=λ_ M'=>drp Q .non M',rt:=drp Q } [cb a,cb b] M:=rfl
def oA(ad:Ad)(EE:DX):az:=al (ap (oX (jD (ao<|aj bY (aj av (ac 5)<|dC<|.int 0)<|dC<|.str "again")<|ao<|aj bY (ac 6)<|dC<|.int 1) (aj av (ac 5)<|dC<|.int 2)<|aj av (ac 5)<|dC<|.int 3)<|af 3) (ap (aj aF (ac 4)<|dC<|.int 1)<|af 4)
def ox(ad:Ad)(EE:DX):az:=al (ap (am<|aj aF (ac 2)<|oX (ao<|aj bY (aj av (ac 5)<|dC<|.int 0)<|dC<|.str "again") (ax<|aa (dC<|.int 0) ae)<|ax<|aa (ac 6) ae)<|af 2) (oA ad EE)
def lL(ad:Ad)(EE:DX):az:=al (ap (aj av (ac 0)<|ac 4)<|af 6) (ox ad EE)
def oJ(ad:Ad)(EE:DX):az:=aA (ao<|aj xM (ac 4)<|bn bC<|aa (ac 0) ae) (lL ad EE) ay
def oq(ad:Ad)(EE:DX):az:=al (ap (aj aF (ac 4)<|dC<|.int 1)<|af 4) (oJ ad EE)
def pO(ad:Ad)(EE:DX):az:=al (ap (aj aF (ac 2)<|ax<|aa (aj av (ac 0)<|ac 4) ae)<|af 2) (oq ad EE)
def oH(ad:Ad)(EE:DX):az:=al (ap (aj av (ac 3)<|aj av (ac 0)<|ac 4)<|af 5) (pO ad EE)
def tF(ad:Ad)(EE:DX):az:=al (iz (ao<|aj xM (ac 4)<|bn bC<|aa (ac 0) ae)<|oH ad EE) (aw<|ac 2)
def uM(ad:Ad)(EE:DX):az:=al (ap (dC<|.int 0)<|af 4) (tF ad EE)
def ph(ad:Ad)(EE:DX):az:=al (ap (ac 1)<|af 3) (uM ad EE)
noncomputable def E8(ad:Ad)(EE:DX):az:=al (ap (ax ae)<|af 2) (ph ad EE)
noncomputable def DQ(ad:Ad):Sd:=aL ["place","rows","made","here","k","row","side"] (E8 ad)
theorem u_q2{ad:Ad}{a b:D}{M:Mem}{Q:DK}{E:DX}:DQ ad [a,b] M Q E=E8 ad (aB E) { nx:=λ_ M'=>drp Q .non M',rt:=drp Q } [cb a,cb b,ed,ed,ed,ed,ed] M:=rfl
def jS(ad:Ad)(EE:DX):az:=aA (g7 (ao<|aj sS (ac 15)<|dC<|.int 0)<|ao<|aj mq (aj av (iM<|ak (iN ad) EE 3<|aa (ac 5)<|aa (ac 13)<|aa (aj ga (ac 15)<|dC<|.int 1) ae)<|dC<|.int 1)<|dC .non) (aw<|dC<|.bl eP) ay
def jt(ad:Ad)(EE:DX):az:=al (aA (dF<|bR<|am<|ak (Ri ad 24) EE 2<|aa (am<|ak (rQ ad) EE 3<|aa (ac 5)<|aa (ac 13)<|aa (ac 15) ae)<|aa (am<|ak (rQ ad) EE 3<|aa (ac 9)<|aa (ac 6)<|aa (ac 7) ae) ae) (aw<|dC<|.bl eP) ay) (jS ad EE)
def jL(ad:Ad)(EE:DX):az:=al (aA (jD (ao<|aj t7 (aj av (ac 16)<|dC<|.int 1)<|dC .non)<|jD (dF<|bR<|am<|ak (Ri ad 24) EE 2<|aa (am<|fO (aj av (ac 16)<|dC<|.int 1) aI<|bj<|Hx<|dC<|.int 1)<|aa (ac 12) ae)<|ao<|aj kb (bn bC<|aa (aj av (ac 16)<|dC<|.int 0) ae)<|ac 15) (aw<|dC<|.bl eP) ay) (jt ad EE)
def gI(ad:Ad)(EE:DX):az:=al (ap (iM<|ak (iN ad) EE 3<|aa (ac 5)<|aa (ac 13)<|aa (ac 15) ae)<|af 16) (jL ad EE)
def jk(ad:Ad)(EE:DX):az:=al (ap (aj aF (bn bC<|aa (ac 11) ae)<|aj h_ (dC<|.int 2)<|bn bC<|aa (ac 14) ae)<|af 15) (gI ad EE)
def gw(ad:Ad)(EE:DX):az:=al (lB (pH 14<|bf (cN<|ac 11) ["place","done"] [9,4] (bL 2<|aD (af 0)<|aD (af 1) bM) (ao<|aj qZ (am<|ak (DQ ad) md 2<|aa (ac 0)<|aa (aj av (ac 2)<|dC<|.int 3) ae)<|ac 3)<|ac 0) 14) (jk ad EE)
def k4(ad:Ad)(EE:DX):az:=aA (ao<|aj mq (ac 12)<|dC .non) (gw ad EE) ay
def jh(ad:Ad)(EE:DX):az:=al (ap (ax<|aa (aj aF (aj av (ac 6)<|dC<|.int 0)<|ax<|aa (dC<|.int 0) ae)<|aa (aj aF (aj av (ac 6)<|dC<|.int 1)<|aj h_ (ax<|aa (ac 10) ae)<|bn bC<|aa (ac 4) ae) ae)<|af 13) (k4 ad EE)
def hV(ad:Ad)(EE:DX):az:=al (ap (iM<|ak (iN ad) EE 3<|aa (ac 9)<|aa (ac 6)<|aa (ac 7) ae)<|bL 2<|aD (af 11)<|aD (af 12) bM) (jh ad EE)
def gD(ad:Ad)(EE:DX):az:=al (cK (cN<|am<|bA<|aa (ax<|aa (ac 2)<|aa (dC<|.int 0) ae)<|aa (ax<|aa (ac 3)<|aa (dC<|.int 1) ae)<|aa (ax<|aa (ac 3)<|aa (ac 8) ae) ae) (bL 2<|aD (af 9)<|aD (af 10) bM)<|hV ad EE) (aw<|dC<|.bl true)
def gP(ad:Ad)(EE:DX):az:=al (ap (aj aF (dC<|.int 1)<|am<|ak (aZ ad) EE 2<|aa (ac 1)<|aa (aj ga (aj av (ac 2)<|dC<|.int 0)<|dC<|.int 1) ae)<|af 8) (gD ad EE)
def gx(ad:Ad)(EE:DX):az:=al (ap (am<|ak (aZ ad) EE 2<|aa (ac 1)<|aa (dC<|.int 301) ae)<|af 7) (gP ad EE)
def gW(ad:Ad)(EE:DX):az:=al (ap (am<|ak (vM ad) EE 2<|aa (ac 1)<|aa (ac 2) ae)<|af 6) (gx ad EE)
def ii(ad:Ad)(EE:DX):az:=al (ap (am<|ak (wW ad) EE 2<|aa (ac 2)<|aa (ac 3) ae)<|af 5) (gW ad EE)
def gC(ad:Ad)(EE:DX):az:=al (aA (dF<|bR<|am<|ak (Ri ad 24) EE 2<|aa (am<|ak (sg ad) EE 2<|aa (ac 2)<|aa (ac 3) ae)<|aa (ac 4) ae) (aw<|dC<|.bl eP) ay) (ii ad EE)
def kA(ad:Ad)(EE:DX):az:=al (aA (jD (ao<|aj sS (bn bC<|aa (aj av (ac 2)<|dC<|.int 1) ae)<|dC<|.int 11)<|dF<|bR<|am<|ak (qV ad) EE 1<|aa (am<|ak (wb ad) EE 3<|aa (ac 2)<|aa (ac 3)<|aa (ac 4) ae) ae) (aw<|dC<|.bl true) ay) (gC ad EE)
def lZ(ad:Ad)(EE:DX):az:=al (ap (iM<|ak (vZ ad) EE 3<|aa (ac 1)<|aa (dC<|.int 20)<|aa (dC<|.int 5) ae)<|bL 3<|aD (af 2)<|aD (af 3)<|aD (af 4) bM) (kA ad EE)
noncomputable def vf(ad:Ad)(EE:DX):az:=al (ap (ak (u_ ad) EE 1<|aa (ac 0) ae)<|af 1) (lZ ad EE)
noncomputable def ze(ad:Ad):Sd:=aL ["script","pot","one","other","places","whole","stand","most","number","plan","more","steps","end","there","twice","room","found"] (vf ad)
theorem KH{ad:Ad}{a:D}{M:Mem}{Q:DK}{E:DX}:ze ad [a] M Q E=vf ad (aB E) { nx:=λ_ M'=>drp Q .non M',rt:=drp Q } [cb a,ed,ed,ed,ed,ed,ed,ed,ed,ed,ed,ed,ed,ed,ed,ed,ed] M:=rfl
set_option genInjectivity false in
structure En(P:g4)(w:kB)(K:Mi)(mg:Tg)(base:ka)(ad:Ad):Prop where
 u0:Cls K ad.C_Walk
 u1:mg "Walk"=cb (.ref ad.C_Walk)
 u2:Cls K ad.C_Weave
 u3:mg "Weave"=cb (.ref ad.C_Weave)
 u4:NoAttr K ad.C_Walk "most"
 u5:NoAttr K ad.C_Walk "numbers"
 u6:NoAttr K ad.C_Walk "pieces"
 u7:NoAttr K ad.C_Walk "plan"
 u8:NoAttr K ad.C_Walk "steps"
 u9:NoAttr K ad.C_Weave "name"
 u10:NoAttr K ad.C_Weave "pieces"
 u11:ExcAt K ad.C_Dry
 u12:mg "Dry"=cb (.ref ad.C_Dry)
 u13:ExcAt K ad.C_NoBuild
 u14:mg "NoBuild"=cb (.ref ad.C_NoBuild)
 u15:ExcAt K ad.C_TooBig
 u16:mg "TooBig"=cb (.ref ad.C_TooBig)
 u17:∃t,mg "LEAST_WHEEL"=cb (.int 2 t)
 u18:∃t,mg "LETTERS"=cb (.str "abcdefghijklmnopqrstuvwxyz" t)
 u19:∃t,mg "MOST_LETTERS"=cb (.int 8 t)
 u20:∃t,mg "MOST_NAMES"=cb (.int 12 t)
 u21:∃t,mg "MOST_PIECES"=cb (.int 40 t)
 u22:∃t,mg "MOST_ROWS"=cb (.int 60 t)
 u23:∃t,mg "MOST_WHEEL"=cb (.int 997 t)
 u24:∃t,mg "MOST_WITHIN"=cb (.int 4 t)
 u25:ModTab w K mg "PARTS" ad.Q6 cA
 u26:mg "all"=ed
 u27:mg "bool"=ed
 u28:mg "dict"=ed
 u29:mg "enumerate"=ed
 u30:mg "int"=ed
 u31:mg "isinstance"=ed
 u32:mg "len"=ed
 u33:mg "list"=ed
 u34:mg "min"=ed
 u35:mg "range"=ed
 u36:mg "set"=ed
 u37:mg "sorted"=ed
 u38:mg "str"=ed
 u39:mg "tuple"=ed
 u40:mg "zip"=ed
 f1:GI K ad.C_Walk "__init__" "Walk.__init__" Kl ad.a1 ad.d1 ["self","plan","stand","most"]
 f2:GM K ad.C_Walk "note_step" "Walk.note_step" JQ ad.a2 ad.d2 ["self","place","number"]
 f3:GM K ad.C_Walk "look" "Walk.look" Fm ad.a3 ad.d3 ["self","place","name"]
 f4:GF K mg "run" ES ad.a4 ad.d4 ["plan","stand","most"]
 f5:GF K mg "mark" EH ad.a5 ad.d5 ["plan","stand","most"]
 f6:GF K mg "do_rows" EV ad.a6 ad.d6 ["walk","rows","place"]
 f7:GF K mg "do_row" Fs ad.a7 ad.d7 ["walk","row","place"]
 f8:GF K mg "do_if" Fb ad.a8 ad.d8 ["walk","row","place"]
 f9:GF K mg "do_again" Fj ad.a9 ad.d9 ["walk","row","place"]
 f10:GF K mg "number_of" EO ad.a10 ad.d10 ["plan","numbers","pieces","row"]
 f11:GF K mg "piece_read" EN ad.a11 ad.d11 ["plan","numbers","row"]
 f12:GF K mg "joined" ET ad.a12 ad.d12 ["word","y","z","wheel"]
 f13:GF K mg "is_plan" Fc ad.a13 ad.d13 ["thing"]
 f14:GF K mg "is_whole" F0 ad.a14 ad.d14 ["thing","least","most"]
 f15:GF K mg "is_name" Fn ad.a15 ad.d15 ["thing"]
 f16:GF K mg "are_names" F8 ad.a16 ad.d16 ["thing"]
 f17:GF K mg "is_name_of" FA ad.a17 ad.d17 ["plan","thing"]
 f18:GF K mg "are_rows" FH ad.a18 ad.d18 ["plan"]
 f19:GF K mg "is_row" Fl ad.a19 ad.d19 ["plan","thing","depth"]
 f20:GF K mg "is_part" FD ad.a20 ad.d20 ["plan","kind","thing"]
 f21:GF K mg "rows_within" EQ ad.a21 ad.d21 ["row"]
 f22:GI K ad.C_Weave "__init__" "Weave.__init__" Ly ad.a22 ad.d22 ["self","one","other"]
 f23:GF K mg "new_name" Fu ad.a23 ad.d23 ["names"]
 f24:GF K mg "unlike_rows" Fp ad.a24 ad.d24 ["one","other"]
 f25:GF K mg "paired" F4 ad.a25 ad.d25 ["rows","others","place"]
 f26:GF K mg "refuse_unlike_sorts" JH ad.a26 ad.d26 ["row","other"]
 f27:GF K mg "paired_within" Jy ad.a27 ad.d27 ["row","other","place"]
 f28:GF K mg "branches" EJ ad.a28 ad.d28 ["row"]
 f29:GF K mg "woven" E_ ad.a29 ad.d29 ["one","other"]
 f30:GF K mg "woven_rows" Fh ad.a30 ad.d30 ["weave","rows","others","place"]
 f31:GF K mg "woven_row" FF ad.a31 ad.d31 ["weave","row","other","place"]
 f32:GF K mg "_law_stirred" LK ad.a32 ad.d32 ["cell","turn"]
 f33:GF K mg "_law_pot" FP ad.a33 ad.d33 ["script"]
 f34:GF K mg "_law_draw" Fa ad.a34 ad.d34 ["pot","many"]
 f35:GF K mg "_law_names" Fi ad.a35 ad.d35 ["pot","many"]
 f36:GF K mg "_law_row" F5 ad.a36 ad.d36 ["pot","told"]
 f37:GF K mg "_law_block" EK ad.a37 ad.d37 ["pot","told","room","deep"]
 f38:GF K mg "_law_rows" Fy ad.a38 ad.d38 ["pot","told","room","deep","most"]
 f39:GF K mg "_law_plan" Fv ad.a39 ad.d39 ["pot","most"]
 f40:GF K mg "_law_stand" EL ad.a40 ad.d40 ["pot","plan"]
 f41:GF K mg "_law_no_picks" JP ad.a41 ad.d41 ["rows"]
 f42:GF K mg "_law_twin_rows" L6 ad.a42 ad.d42 ["pot","work","rows","place"]
 f43:GF K mg "_law_twins" FN ad.a43 ad.d43 ["pot","most_rows","most_unlike"]
 f44:GF K mg "_law_first_name" Jv ad.a44 ad.d44 ["names"]
 f45:GF K mg "_law_weave" FK ad.a45 ad.d45 ["rows","others","place","places","name","many"]
 f46:GF K mg "_law_woven" Fd ad.a46 ad.d46 ["one","other","places"]
 f47:GF K mg "_law_counted" FJ ad.a47 ad.d47 ["rows","deep"]
 f48:GF K mg "_law_fits" FG ad.a48 ad.d48 ["plan"]
 f49:GF K mg "_law_alike" Fo ad.a49 ad.d49 ["found","due"]
 f50:GF K mg "_law_as_written" KN ad.a50 ad.d50 ["place","rows"]
 f51:GF K mg "law" iO ad.a51 ad.d51 ["script"]
section
section
variable {X:Cx}{B:Bd}{a b c o e:hB}{es:Tc}{ta tb tc to:bi}{t:dX}{i:Nat}{x:Str}{pos p S2 S1:Pos}(hU:X.A.units+64<mv)(hu:X.A.units+1<mv)(hg:X.A.guards=cb [])(hc:X.calm=true)(ha:DE X B a ta)(hb:DE X B b tb)(hd:DE X B c tc){ea tA:eH}{dc:D}{bb:Bool}{tT:List (Str×D)}(hT:TabT X tA tT)
def v0:=mH (pos:=pos) Bv ha hb
def v1:=mH (pos:=pos) DH ha hb
def v2:=mH (pos:=pos) Ch ha hb
def v3:=mH (pos:=pos) BR ha hb
def v4:=mH (pos:=pos) Da ha hb
def v5:=mH (pos:=pos) zB ha hb
def v6:=mH (pos:=pos) DC ha hb
def v7:=oK (pos:=pos) (zg hU) ha hb
def v8:=oK (pos:=pos) (yO hU) ha hb
def v9:=oK (pos:=pos) mB ha hb
def v10:=oK (pos:=pos) wm ha hb
def v11:=cP (X:=X) (B:=B) (p:=p) (pos:=pos) (e:=e) (es:=es) (t:=t) yd vQ
def v12:=eg (X:=X) (B:=B) (p:=p) (pos:=pos) (e:=e) (es:=es) (t:=t) rK nU
def v13:=cP (X:=X) (B:=B) (p:=p) (pos:=pos) (e:=e) (es:=es) (t:=t) oV kZ
def v14:=cP (X:=X) (B:=B) (p:=p) (pos:=pos) (e:=e) (es:=es) (t:=t) (yu hc) D5
def v15:=eg (X:=X) (B:=B) (p:=p) (pos:=pos) (e:=e) (es:=es) (t:=t) (ur hc) lR
def v16:=cP (X:=X) (B:=B) (p:=p) (pos:=pos) (e:=e) (es:=es) (t:=t) o9 sU
def v17:=eg (X:=X) (B:=B) (p:=p) (pos:=pos) (e:=e) (es:=es) (t:=t) (rW hc hU) AE
def v18:=cP (X:=X) (B:=B) (p:=p) (pos:=pos) (e:=e) (es:=es) (t:=t) uf vQ
def v19:=eg (X:=X) (B:=B) (p:=p) (pos:=pos) (e:=e) (es:=es) (t:=t) uP lR
def v20:=cP (X:=X) (B:=B) (p:=p) (pos:=pos) (e:=e) (es:=es) (t:=t) (yk hc) Ed
def v21:=kG (X:=X) (B:=B) (pos:=pos) C0
def v22:=kG (X:=X) (B:=B) (pos:=pos) nU
def v23:=kG (X:=X) (B:=B) (pos:=pos) Cs
def v24:=kG (X:=X) (B:=B) (pos:=pos) z6
def v25:=kG (X:=X) (B:=B) (pos:=pos) lR
def v26:=oP (X:=X) (B:=B) (S2:=S2) (S1:=S1) (o:=o) (e:=e) (es:=es) (t:=t) (to:=to) NK O4 PySem.F.type_list_append uF
def v27:=BO (X:=X) (B:=B) (S2:=S2) (S1:=S1) (o:=o) (to:=to) NK Om Qg vi
def v28:=oP (X:=X) (B:=B) (S2:=S2) (S1:=S1) (o:=o) (e:=e) (es:=es) (t:=t) (to:=to) NK Qx PySem.F.type_list_extend ub
def v29:=oP (X:=X) (B:=B) (S2:=S2) (S1:=S1) (o:=o) (e:=e) (es:=es) (t:=t) (to:=to) NK Om Qg vi
def v30:=oP (X:=X) (B:=B) (S2:=S2) (S1:=S1) (o:=o) (e:=e) (es:=es) (t:=t) (to:=to) NK P4 PySem.F.type_list_index (uK hU)
def v31:=Hc (X:=X) (B:=B) (S2:=S2) (S1:=S1) (o:=o) (e:=e) (es:=es) (to:=to) (t:=t) PR PySem.F.type_tuple_index tR
def v32:=ng (pos:=pos) AM AM ha hb hd
def v33:=ng (pos:=pos) mB mB ha hb hd
def v34:=Cb (X:=X) (B:=B) (x:=x) (pos:=pos) (e:=e) (i:=i) (te:=ta) (pos':=p) D_
def v35:=dA (pos:=pos) G4 ha hb
def v36:=dA (pos:=pos) (zg hU) ha hb
def v37:=dA (pos:=pos) HU ha hb
def v38:=dA (pos:=pos) Bi ha hb
def v39:=dA (pos:=pos) wm ha hb
def v40:=dA (pos:=pos) (tX hT) ha hb
def v41:=dA (pos:=pos) (Ig hU) ha hb
def v42:=dA (pos:=pos) (yO hU) ha hb
def v43:=dA (pos:=pos) FU ha hb
def v44:=dA (pos:=pos) (ya hU) ha hb
def v45:=xH (pos:=pos) mB mB ha hb hd
end
local macro_rules|`(tactic|exists $n:num)=>do
 let h<-`(?_);let u<-`(_);let I:=λs:String=>Lean.mkIdent s.toName;let p:=λa k=>Lean.Syntax.mkApp (I a) (Array.replicate k h)
 let t<-((["","dnm:u Gi:0 G2:1 FI:g:HJ GU:0 B8:6 DE:aj:3:2 DE:bn:2:3 Ij:1 I0:1 GJ:4 zd:3 LP:0 GZ:0 DE:dC:1:4 DE:fH:4:5 v31:7 v32:4 v33:4 BQ:3 zZ:3 H_:1 FX:2 HN:1 Gv:1 CZ:1 tj:9 yq:8 BC:3 EB:3 Eb:4 AA:a AY:a Am:a","v0:2 v1:2 v2:2 v3:2 v4:2 v5:2 v6:2 v7:4 v8:4 v9:3 v10:3","v11:7 v12:7 v13:7 v14:8 v15:8 v16:7 v17:9 v18:7 v19:7 v20:8","v21:4 v22:4 v23:4 v24:4 v25:4","v26:8 v27:4 v28:8 v29:8 v30:9","LR:3 Je:6 Hl:5 GL:1 CH:2 II:5 IL:6 A5:3 zk:6 Hy:2 v34:5 yW:a Dd:a","DT:ao:1:8 v45:4 Ii:1 G0:2 L_:1","v35:3 v36:4 v37:3 v38:3 v39:3 v40:4 v41:4 v42:4 v43:3 v44:4","fv:2 gq:1 BF:0 Dq:1 He:1 GS:2 JU:2 Dp:0 Ds:1 CT:4 HH:4 Jd:4 A7:3 Cm:0 CW:4 yl:4 Bx:5 G1:5 IG:1 GH:1 FC.nil:a FC.cons:a CO:0 Cu:1"].getD n.getNat "").splitOn " ").toArray.mapM λs=>match s.splitOn ":" with
  |[a,"a"]=>`(Lean.Parser.Tactic.tacticSeq|apply $(I a))
  |[a,"d"]=>`(Lean.Parser.Tactic.tacticSeq|(apply $(I a);focus decide))
  |[a,"u"]=>`(Lean.Parser.Tactic.tacticSeq|refine $(I a) _ ?_ ?_ ?_ ?_)
  |[a,k]=>`(Lean.Parser.Tactic.tacticSeq|refine $(p a k.toNat!))
  |[a,_,b]=>`(Lean.Parser.Tactic.tacticSeq|refine $(I a) ($(p b 1)) ?_ ?_ ?_)
  |[d,a,k,m]=>`(Lean.Parser.Tactic.tacticSeq|(show $(I d) _ _ _ $(Lean.Syntax.mkApp (I a) (Array.replicate k.toNat! u));exists $(Lean.Syntax.mkNumLit m)))
  |_=>Lean.Macro.throwUnsupported
 `(tactic|first $[|$t]*)
local macro_rules | `(tactic| exists 0) => `(tactic| first
 |exact Or.inl rfl
 |exact⟨_,_,_,_,_,_,_,.g (by assumption),by assumption,Room.mono (by assumption) (by first|decide|lia),EM,by assumption⟩
 |exact⟨_,_,_,_,_,_,_,.g (by assumption),by assumption,Room.mono (by assumption) (by first|decide|lia),Ao,uxN⟩
 |assumption
 |exact Room.mono (by assumption) (by first|decide|lia)
 |with_reducible exact EM
 |with_reducible exact Ao
 |with_reducible exact uxN
 |exact ModTab.at_ (by assumption)
 |exact⟨by assumption⟩
 |exact FnScope.nd (by assumption)
 |(apply nomark;decide)
 |(apply nodC;decide)
 |exact PassesOwn.leaving
 |exact λ_ _=>rfl
 |exact Or.inr (Or.inl rfl)
 |exact Or.inr rfl
 |exact Or.inr (Or.inr rfl)
 |rfl
 |exact λ_=>rfl
 |decide
 |with_reducible intro _)
local macro_rules | `(tactic| trivial) => `(tactic| first
 |eq_refl
 |(with_reducible first
 |(show DE _ _ _ _;exists 1)
 |refine da_c ?_ ?_ ?_
 |exact IB
 |(show DT _ _ _ _;exists 7)
 |(show DS _ _ _ _;exists 6)
 |exists 9)
 |exists 0)
set_option hygiene false in
local macro_rules | `(tactic| exists $t:ident, $g, [$fs,*]) => `(tactic| exists (_), $t:ident, $g, [$fs,*])
set_option hygiene false in
local macro_rules | `(tactic| exists $t:ident, $g, [$fs,*], $[$ps:ident],*) => `(tactic| exists (_), $t:ident, $g, [$fs,*], $[$ps:ident],*)
set_option hygiene false in
local macro_rules | `(tactic| exists ($k), $t:ident, $g, [$fs,*]) => do let hs <- fs.getElems.mapM fun f => `(tactic| have := $f); `(tactic| exact fnS (k := $k) rfl ($g).F ($g).b ⟨rfl, rfl, rfl, by decide +kernel, rfl, by decide +kernel, by decide +kernel⟩ fun hS _ A _ s _ _ _ _ hr ux => (by have hU := hr.units; have hu := wT hr; have hg := hr.gd; ($[$hs];*); unfold $t:ident; (first | refine fv ?_ ?_ | refine gq ?_); repeat' trivial))
set_option hygiene false in
local macro_rules | `(tactic| exists ($k), $t:ident, $g, [$fs,*], $[$ps:ident],*) => do let hs <- fs.getElems.mapM fun f => `(tactic| have := $f); `(tactic| exact fnS (k := $k) rfl ($g).F ($g).b ⟨rfl, rfl, rfl, by decide +kernel, rfl, by decide +kernel, by decide +kernel⟩ fun hS _ A _ s _ _ _ _ hr ux => (by have hU := hr.units; have hu := wT hr; have hg := hr.gd; ($[$hs];*); unfold $t:ident $[$ps:ident]*; (first | refine fv ?_ ?_ | refine gq ?_); repeat' trivial))
variable {P:g4}{w:kB}{K:Mi}{mg:Tg}{base:ka}{ad:Ad}(E:En P w K mg base ad)
include E
theorem Jx:cG P w mg base E.f1.F E.f1.b 1 (Cw ad):=by
 exists Cj,E.f1,[E.u0,E.u7,E.u5,E.u40,E.u28,E.u6,E.u4,E.u8]
theorem EW:cG P w mg base E.f2.F E.f2.b 1 (uC ad):=by
 exists Cy,E.f2,[E.u32,E.u0,E.u8,E.u4,E.u11,E.u12]
theorem HE:cG P w mg base E.f3.F E.f3.b 2 (nJ ad):=by
 have:=EW E
 exists ww,E.f3,[E.u0,E.u5,E.f2]
theorem IZ:cG P w mg base E.f12.F E.f12.b 1 (vF ad):=by
 exists xg,E.f12,[]
theorem J7:cG P w mg base E.f11.F E.f11.b 1 (wP ad):=by
 exists lM,E.f11,[]
theorem Gh:cG P w mg base E.f10.F E.f10.b 2 (rP ad):=by
 have:=IZ E;have:=J7 E
 exists lJ,E.f10,[E.f11,E.f12]
theorem qJ:∀n:Nat,cG P w mg base E.f6.F E.f6.b (2+n) (Q8 ad n)/\cG P w mg base E.f7.F E.f7.b (2+n) (Ra ad n)/\cG P w mg base E.f8.F E.f8.b (2+n) (Rb ad n)/\cG P w mg base E.f9.F E.f9.b (2+n) (Rc ad n):=by
 have:=HE E;have:=EW E;have:=Gh E;intro n
 induction n with
 |zero=>exact⟨cg,cg,cg,cg⟩
 |succ n ih=>
  obtain⟨_,_,_,_⟩:=ih;refine⟨?_,?_,?_,?_⟩
  .exists (2+n),wg,E.f6,[E.u29,E.f7]
  .exists (2+n),nH,E.f7,[E.f8,E.f9,E.f10,E.u0,E.u7,E.u5,E.u6,E.f2]
  .exists (2+n),xi,E.f8,[E.u0,E.f3,E.f6]
  .exists (2+n),z7,E.f9,[E.u0,E.f3,E.f6]
theorem yN:cG P w mg base E.f4.F E.f4.b 27 (iN ad):=by
 have:=Jx E;obtain⟨_,_,_,_⟩:=qJ E 24
 exists wa,E.f4,[E.f1,E.u1,E.u0,E.f6,E.u11,E.u12,E.u8,E.u39,E.u5]
theorem GO:cG P w mg base E.f5.F E.f5.b 28 (rQ ad):=by
 have:=yN E
 exists vN,E.f5,[E.f4]
theorem Hs:cG P w mg base E.f15.F E.f15.b 1 (vC ad):=by
 exists w_,E.f15,[E.u31,E.u38,E.u32,E.u19,E.u26]
theorem Iu:cG P w mg base E.f16.F E.f16.b 2 (vL ad):=by
 have:=Hs E
 exists wQ,E.f16,[E.u31,E.u39,E.u32,E.u20,E.u26,E.f15,E.u36]
theorem Aj:cG P w mg base E.f17.F E.f17.b 1 (qG ad):=by
 exists vw,E.f17,[E.u31,E.u38]
theorem Ah:cG P w mg base E.f14.F E.f14.b 1 (mx ad):=by
 exists wx,E.f14,[E.u31,E.u30,E.u27]
theorem GT:cG P w mg base E.f20.F E.f20.b 2 (nQ ad):=by
 have:=Aj E;have:=Ah E
 exists mj,E.f20,[E.f17,E.f14]
theorem GB:cG P w mg base E.f19.F E.f19.b 3 (nM ad):=by
 have:=GT E
 exists x6,E.f19,[E.u31,E.u39,E.u32,E.u38,E.u25,E.u24,E.u26,E.u40,E.f20],jg,jN,ki,jB,pE
theorem oZ:cG P w mg base E.f21.F E.f21.b 1 (eJ ad):=by
 exists vk,E.f21,[],pK,qo
theorem IC:cG P w mg base E.f18.F E.f18.b 4 (wS ad):=by
 have:=GB E;have:=oZ E
 exists vG,E.f18,[E.u31,E.u39,E.u32,E.u22,E.u26,E.f19,E.f21],lO,pJ,jZ,oY,p_,pj,pq,pP,jO,vg
theorem J1:cG P w mg base E.f13.F E.f13.b 5 (qL ad):=by
 have:=Iu E;have:=IC E;have:=Aj E;have:=Ah E
 exists vI,E.f13,[E.u31,E.u39,E.u32,E.f14,E.u17,E.u23,E.u21,E.f16,E.f17,E.f18]
theorem Ha:cG P w mg base E.f23.F E.f23.b 1 (wz ad):=by
 exists xo,E.f23,[E.u33,E.u18,E.u26],jC,jq,vh
theorem zW:cG P w mg base E.f28.F E.f28.b 1 (qy ad):=by
 exists wo,E.f28,[]
theorem Kb:cG P w mg base E.f26.F E.f26.b 2 (C2 ad):=by
 have:=oZ E
 exists Eg,E.f26,[E.u13,E.u14,E.f21],pF
theorem uq:∀n:Nat,cG P w mg base E.f25.F E.f25.b (2+n) (Q1 ad n)/\cG P w mg base E.f27.F E.f27.b (2+n) (Q9 ad n):=by
 have:=zW E;have:=Kb E;have:=oZ E;intro n
 induction n with
 |zero=>exact⟨cg,cg⟩
 |succ n ih=>
  obtain⟨_,_⟩:=ih;refine⟨?_,?_⟩
  .exists (2+n),wN,E.f25,[E.u32,E.u13,E.u14,E.u29,E.f26,E.f21,E.f27],jT,kr,jW,kn,jA
  .exists (2+n),Dv,E.f27,[E.u40,E.f28,E.f21,E.f25],uA,kW
theorem zX:cG P w mg base E.f24.F E.f24.b 27 (sg ad):=by
 obtain⟨_,_⟩:=uq E 24
 exists vm,E.f24,[E.u13,E.u14,E.f25,E.u37],qc,jJ
theorem Ki:cG P w mg base E.f22.F E.f22.b 28 (Ep ad):=by
 have:=Ha E;have:=zX E
 exists Dn,E.f22,[E.u2,E.u9,E.f23,E.u10,E.u28,E.u29,E.f24],qh
theorem m9:∀n:Nat,cG P w mg base E.f30.F E.f30.b (1+n) (Q4 ad n)/\cG P w mg base E.f31.F E.f31.b (1+n) (Q5 ad n):=by
 have:=zW E;have:=oZ E;intro n
 induction n with
 |zero=>exact⟨cg,cg⟩
 |succ n ih=>
  obtain⟨_,_⟩:=ih;refine⟨?_,?_⟩
  .exists (1+n),xa,E.f30,[E.u29,E.f31,E.u39],oG,km
  .exists (1+n),wj,E.f31,[E.u2,E.u10,E.u9,E.u40,E.f28,E.f21,E.f30,E.u39],jr,gB,ig,jx
theorem HP:cG P w mg base E.f29.F E.f29.b 30 (wW ad):=by
 have:=Ki E;have:=J1 E;obtain⟨_,_⟩:=m9 E 24
 exists wL,E.f29,[E.f22,E.u3,E.u2,E.f30,E.u9,E.u32,E.u10,E.f13,E.u15,E.u16],j_,jw,jG
theorem Lq:cG P w mg base E.f32.F E.f32.b 1 (uL ad):=by
 exists D6,E.f32,[]
theorem Ga:cG P w mg base E.f33.F E.f33.b 1 (u_ ad):=by
 exists xt,E.f33,[E.u33]
theorem gb:cG P w mg base E.f34.F E.f34.b 2 (aZ ad):=by
 have:=Lq E
 exists zU,E.f34,[E.f32]
theorem FT:cG P w mg base E.f35.F E.f35.b 3 (wU ad):=by
 have:=gb E
 exists vJ,E.f35,[E.f34,E.u35,E.u39],kh,ko,k9
theorem AG:cG P w mg base E.f36.F E.f36.b 3 (o8 ad):=by
 have:=gb E
 exists Bf,E.f36,[E.f34,E.u32]
theorem lG:∀n:Nat,cG P w mg base E.f37.F E.f37.b (3+n) (Rh ad n)/\cG P w mg base E.f38.F E.f38.b (3+n) (Rg ad n):=by
 have:=gb E;have:=AG E;intro n
 induction n with
 |zero=>exact⟨cg,cg⟩
 |succ n ih=>
  obtain⟨_,_⟩:=ih;refine⟨?_,?_⟩
  .exists (3+n),xn,E.f37,[E.f34,E.u32,E.f38,E.u34]
  .exists (3+n),vY,E.f38,[E.u35,E.f34,E.f37,E.f36,E.u39]
theorem J9:cG P w mg base E.f39.F E.f39.b 28 (vt ad):=by
 have:=gb E;have:=FT E;obtain⟨_,_⟩:=lG E 24
 exists vT,E.f39,[E.f34,E.f35,E.f38,E.u32]
theorem Gz:cG P w mg base E.f40.F E.f40.b 3 (vM ad):=by
 have:=gb E
 exists AK,E.f40,[E.u39,E.f34,E.u35]
theorem dm:∀n:Nat,cG P w mg base E.f41.F E.f41.b (0+n) (Rf ad n):=by
 intro n
 induction n with
 |zero=>exact cg
 |succ n ih=>
  exists (0+n),Bu,E.f41,[E.f41,E.u39],ui,mh,lQ,tE,p6
theorem gp:∀n:Nat,cG P w mg base E.f42.F E.f42.b (24+n) (Q0 ad n):=by
 have:=gb E;have:=dm E 24;have:=AG E;intro n
 induction n with
 |zero=>exact cg
 |succ n ih=>
  exists (24+n),CA,E.f42,[E.f42,E.u29,E.f34,E.f41,E.f36,E.u39],p4,g_,jp,jV,gJ,oF,oj,pf,p8,ly,p0,m8,pX,pY
theorem IJ:cG P w mg base E.f43.F E.f43.b 49 (vZ ad):=by
 have:=dm E 24;have:=J9 E;have:=gp E 24
 exists xu,E.f43,[E.f39,E.f41,E.f42,E.u37],k7,jR,jf,jb
theorem LQ:cG P w mg base E.f44.F E.f44.b 1 (Du ad):=by
 exists Cr,E.f44,[E.u35],tw,qf,uQ
theorem mF:∀n:Nat,cG P w mg base E.f45.F E.f45.b (0+n) (QZ ad n):=by
 intro n
 induction n with
 |zero=>exact cg
 |succ n ih=>
  exists (0+n),xx,E.f45,[E.f45,E.u29],kH,fg,gF,ik,gE,pL,je,jy,gS,o_,gO,kx,pV
theorem Gp:cG P w mg base E.f46.F E.f46.b 25 (wb ad):=by
 have:=LQ E;have:=mF E 24
 exists xc,E.f46,[E.f44,E.f45,E.u32],jK,j9
theorem io:∀n:Nat,cG P w mg base E.f47.F E.f47.b (0+n) (Q7 ad n):=by
 intro n
 induction n with
 |zero=>exact cg
 |succ n ih=>
  exists (0+n),vP,E.f47,[E.f47],pQ,gA,k8,gG,jH,ku
theorem Ih:cG P w mg base E.f48.F E.f48.b 25 (qV ad):=by
 have:=io E 24
 exists vA,E.f48,[E.u32,E.f47]
theorem lF:∀n:Nat,cG P w mg base E.f49.F E.f49.b (0+n) (Ri ad n):=by
 intro n
 induction n with
 |zero=>exact cg
 |succ n ih=>
  exists (0+n),gs,E.f49,[E.f49,E.u31,E.u27,E.u30,E.u38,E.u39,E.u33,E.u32,E.u26,E.u40]
theorem JY:cG P w mg base E.f50.F E.f50.b 1 (DQ ad):=by
 exists E8,E.f50,[E.u32],ph,uM,tF,oH,pO,oq,oJ,lL,ox,oA
theorem Ge:cG P w mg base E.f51.F E.f51.b 50 (ze ad):=by
 have:=lF E 24;have:=JY E;have:=gb E;have:=Ih E;have:=Ga E;have:=Gz E;have:=IJ E;have:=Gp E;have:=GO E;have:=yN E;have:=zX E;have:=HP E
 exists vf,E.f51,[E.f33,E.f43,E.u32,E.f48,E.f46,E.f49,E.f24,E.f29,E.f40,E.f34,E.f4,E.f50,E.f5],lZ,kA,gC,ii,gW,gx,gP,gD,hV,jh,k4,gw,jk,gI,jL,jt,jS
end
end _T
namespace _3
open PySem _2
theorem aK{T:Sd}{EE:DX}{ds:List D}{M:Mem}{Q:DK}{b:BxQ EE Q}{d:D}(c:∀Q' E',Q' d M->T ds M Q' E')(h:Q d M):calls T EE ds M Q b:=
 au λQ' E' a _=>c Q' E' (a d M h)
theorem bG{a:Type}{xs:List a}{i:Int}(h:0<=i):atI xs i=xs[i.toNat]?:=by
 unfold atI wJ
 grind
@[simp] theorem atI_0 {α:Type} {xs:List α}:atI xs 0=xs[0]?:=bG (by decide)
@[simp] theorem atI_1 {α:Type} {xs:List α}:atI xs 1=xs[1]?:=bG (by decide)
@[simp] theorem atI_2 {α:Type} {xs:List α}:atI xs 2=xs[2]?:=bG (by decide)
@[simp] theorem atI_3 {α:Type} {xs:List α}:atI xs 3=xs[3]?:=bG (by decide)
@[simp] theorem atI_4 {α:Type} {xs:List α}:atI xs 4=xs[4]?:=bG (by decide)
theorem br{g:jd}{i:az}{DD:DEnds}{ok:Mem->Prop}{b:BxF g i DD ok}(I:List D->Dl->Mem->Prop)(c:∀xs U M,I xs U M->ok M)(f:∀U M,I [] U M->DD.nx U M)
  (j:∀x xs U M,I (x::xs) U M->∀D':DEnds,(∀a M',I xs a M'->D'.nx a M')->(∀a M',I xs a M'->D'.ct a M')->D'.rt=DD.rt->D'.bk=DD.nx->g x U M λδ2 M2=>i D' δ2 M2):∀xs U M,I xs U M->yg g i DD ok b xs U M
 |[],U,M,h=>⟨c _ _ _ h,f U M h⟩
 |x::xs,U,M,h=>⟨c _ _ _ h,j x xs U M h _ (λa M' e=>br I c f j xs a M' e) (λa M' e=>br I c f j xs a M' e) rfl rfl⟩
theorem aT{g:jd}{tt:eO}{te:bi}{ok:Mem->Prop}{Q:List D->Mem->Prop}{b:BxC g tt te ok Q}(I:List D->List D->Dl->Mem->Prop)(e:∀xs SZ U M,I xs SZ U M->ok M)(j:∀SZ U M,I [] SZ U M->Q SZ M)
  (l:∀x xs SZ U M,I (x::xs) SZ U M->∀N:Bool->D->Dl->Mem->Prop,(∀y a M',SZ.length<sizeLine->I xs (SZ++[y]) a M'->N true y a M')->(∀y a M',I xs SZ a M'->N eP y a M')->g x U M λδ2 M2=>tt δ2 M2 λc M3=>if c=true then te δ2 M3 λy M4=>N true y δ2 M4 else N eP .non δ2 M3)
  (m:∀x xs SZ U M,I (x::xs) SZ U M->SZ.length<sizeLine):∀xs SZ U M,I xs SZ U M->dM g tt te ok Q b xs SZ U M
 |[],SZ,U,M,h=>⟨e _ _ _ _ h,j SZ U M h⟩
 |x::xs,SZ,U,M,h=>⟨e _ _ _ _ h,l x xs SZ U M h (λk y a M'=>if k=true then SZ.length<sizeLine/\dM g tt te ok Q b xs (SZ++[y]) a M' else dM g tt te ok Q b xs SZ a M')
   (λy a M' f i=>by rw[if_pos rfl];exact⟨f,aT I e j l m xs _ a M' i⟩) (λy a M' i=>by rw[if_neg (by simp)];exact aT I e j l m xs _ a M' i) |> λz=>by simpa using z⟩
theorem aR{n:Nat}(h:n<=1000000):n<=sizeLine:=My h (by decide)
theorem eE{n:Nat}(h:n<1000000):n<sizeLine:=Mz h (by decide)
end _3
namespace _T
open PySem _2 _3
variable{v:Int}{x:Str}{n:c_}
inductive Rw where
 |put (x:Str) (k:Int)|take (x:Str) (i:Int)|pick (x y:Str)|two (w x y z:Str)|ifr (x:Str) (a b:List Rw)|again (x:Str) (a:List Rw)
mutual
noncomputable def Rw.d:Rw->D
 |.put x k=>.tup [.str "put",.str x,.int k]
 |.take x i=>.tup [.str "take",.str x,.int i]
 |.pick x y=>.tup [.str "pick",.str x,.str y]
 |.two w x y z=>.tup [.str w,.str x,.str y,.str z]
 |.ifr x a b=>.tup [.str "if",.str x,.tup (ai a),.tup (ai b)]
 |.again x a=>.tup [.str "again",.str x,.tup (ai a)]
noncomputable def ai:List Rw->List D
 |[]=>[]
 |r::rs=>r.d::ai rs
end
theorem iu:∀rs:List Rw,ai rs=rs.map Rw.d
 |[]=>rfl
 |r::rs=>by rw[ai,iu rs];rfl
noncomputable abbrev c_:=List (Str×Int)
noncomputable def gN(n:c_)(x:Str):Option Int:=(n.find? λp=>decide (p.1=x)).map (·.2)
noncomputable def nm(n:c_)(x:Str):Int:=(gN n x).getD 0
noncomputable def sN(n:c_)(x:Str)(v:Int):c_:=n.map λp=>if p.1=x then (p.1,v) else p
noncomputable def iT(n:c_):List (bh×D):=n.map λp=>(NY p.1,D.int p.2)
theorem A_:∀{n:c_}{x:Str},x∈n.map (·.1)->gN n x=cb (nm n x)
 |[],_,h=>by simp at h
 |(y,v)::n,x,h=>by
  by_cases e:y=x
  .simp[gN,nm,e]
  simpa [gN,nm,e] using (A_<|by simpa [eq_comm,e] using h)
theorem h8:∀{n:c_}{x:Str},j8 (iT n) (NY x)=(gN n x).map D.int
 |[],x=>rfl
 |(y,v)::n,x=>by
  by_cases e:y=x
  .simp[j8,iT,gN,e]
  simpa [j8,iT,gN,e] using (h8)
theorem yQ:∀{n:c_}{x:Str},x∈n.map (·.1)->((iT n).any λkv=>decide (kv.1=NY x))=true
 |[],_,h=>by simp at h
 |(y,v)::n,x,h=>by
  by_cases e:y=x
  .simp[iT,e]
  .have:=yQ (by simpa [eq_comm,e] using h)
   simp[iT]at this ⊢
   simp_all
theorem BN(h:x∈n.map (·.1)):eN (iT n) (NY x) (.int v)=iT (sN n x v):=by
 unfold eN;rw[yQ h];simp only[iT,sN,NQ];apply O5;intro p _
 by_cases e:p.1=x
 .simp[e]
 simp[e]
theorem jE:(sN n x v).map (·.1)=n.map (·.1):=by
 simp only[sN,NQ];apply O5;intro p _
 by_cases e:p.1=x<;>simp[e]
theorem Lx{y:Str}(h:x∈n.map (·.1)):gN (sN n x v) y=if y=x then cb v else gN n y:=by
 induction n with
 |nil=>simp at h
 |cons p n ih=>
  obtain⟨k,u⟩:=p
  by_cases e:k=x
  .subst e
   by_cases a:y=k
   .subst a;simp[gN,sN]
   simp[if_neg a];have b:¬k=y:=λz=>a z.symm
   by_cases f:k∈n.map (·.1)
   .simpa [gN,sN,b,if_neg a] using (ih f)
   simp only[gN,sN,Ms,if_pos,OU,b,decide_false];have:n.map (λp=>if p.1=k then (p.1,v) else p)=n:=by
    conv=>rhs;rw[<- List.map_id n]
    apply O5;intro p g;have:p.1≠k:=λz=>f (by rw[<- z];exact ME g)
    simp[this]
   rw[this]
  have:=ih (by simpa [MJ e,e] using h)
  by_cases a:y=x
  .subst a;simpa [gN,sN,e] using this
  by_cases c:k=y
  .subst c;simp[gN,sN,e]
  .simpa [gN,sN,e,c,a] using this
structure Cf where
 m:Int
 pieces:List Int
 most:Nat
structure Sx where
 nums:c_
 steps:List (List Int×Int)
noncomputable def Ff(w:Str)(y z m:Int):Int:=if w="sum" then (y+z) % m else if w="by" then y*z % m else if w="less" then (if y<z then 1 else 0) else if y=z then 1 else 0
noncomputable def eQ(c:Cf)(n:c_):Rw->Int
 |.put _ k=>k
 |.take _ i=>(c.pieces[i.toNat]?).getD 0
 |.pick _ y=>(c.pieces[(nm n y % (c.pieces.length:Int)).toNat]?).getD 0
 |.two w _ y z=>Ff w (nm n y) (nm n z) c.m
 |_=>0
noncomputable def Cq:Rw->Str
 |.put x _=>x
 |.take x _=>x
 |.pick x _=>x
 |.two _ x _ _=>x
 |.ifr x _ _=>x
 |.again x _=>x
noncomputable def nt(c:Cf)(pl:S9)(v:Int)(s:Sx):Bool×Sx:=if s.steps.length<c.most then (true,⟨s.nums,s.steps++[(pl,v)]⟩) else (eP,s)
noncomputable def lk(n:c_)(x:Str):Int:=if nm n x=0 then 0 else 1
noncomputable def dk(c:Cf)(x:Str)(pl:S9)(body:Nat->Sx->Bool×Sx):Nat->Nat->Sx->Bool×Sx
 |0,_,s=>(eP,s)
 |f+1,t,s=>if (nt c (pl++[(t:Int)]) (lk s.nums x) s).1=true then
   (if lk s.nums x=1 then
    (if (body t (nt c (pl++[(t:Int)]) (lk s.nums x) s).2).1=true then dk c x pl body f (t+1) (body t (nt c (pl++[(t:Int)]) (lk s.nums x) s).2).2 else body t (nt c (pl++[(t:Int)]) (lk s.nums x) s).2)
   else nt c (pl++[(t:Int)]) (lk s.nums x) s)
  else nt c (pl++[(t:Int)]) (lk s.nums x) s
mutual
noncomputable def iA(c:Cf):Rw->List Int->Sx->Bool×Sx
 |.ifr x a b,pl,s=>if (nt c pl (lk s.nums x) s).1=true then (if lk s.nums x=1 then cI c a (pl++[lk s.nums x]) 0 (nt c pl (lk s.nums x) s).2 else cI c b (pl++[lk s.nums x]) 0 (nt c pl (lk s.nums x) s).2) else nt c pl (lk s.nums x) s
 |.again x a,pl,s=>dk c x pl (λt s=>cI c a (pl++[(t:Int)]) 0 s) (c.most+1) 0 s
 |.put x k,pl,s=>if (nt c pl (eQ c s.nums<|.put x k) s).1=true then (true,⟨sN s.nums x (eQ c s.nums<|.put x k),(nt c pl (eQ c s.nums<|.put x k) s).2.steps⟩) else nt c pl (eQ c s.nums<|.put x k) s
 |.take x i,pl,s=>if (nt c pl (eQ c s.nums<|.take x i) s).1=true then (true,⟨sN s.nums x (eQ c s.nums<|.take x i),(nt c pl (eQ c s.nums<|.take x i) s).2.steps⟩) else nt c pl (eQ c s.nums<|.take x i) s
 |.pick x y,pl,s=>if (nt c pl (eQ c s.nums<|.pick x y) s).1=true then (true,⟨sN s.nums x (eQ c s.nums<|.pick x y),(nt c pl (eQ c s.nums<|.pick x y) s).2.steps⟩) else nt c pl (eQ c s.nums<|.pick x y) s
 |.two w x y z,pl,s=>if (nt c pl (eQ c s.nums<|.two w x y z) s).1=true then (true,⟨sN s.nums x (eQ c s.nums<|.two w x y z),(nt c pl (eQ c s.nums<|.two w x y z) s).2.steps⟩) else nt c pl (eQ c s.nums<|.two w x y z) s
noncomputable def cI(c:Cf):List Rw->List Int->Nat->Sx->Bool×Sx
 |[],_,_,s=>(true,s)
 |r::rs,pl,j,s=>if (iA c r (pl++[(j:Int)]) s).1=true then cI c rs pl (j+1) (iA c r (pl++[(j:Int)]) s).2 else iA c r (pl++[(j:Int)]) s
end
noncomputable def lA(c:Cf)(r:Rw)(pl:S9)(s:Sx):Bool×Sx:=if s.steps.length<c.most then (true,⟨sN s.nums (Cq r) (eQ c s.nums r),s.steps++[(pl,eQ c s.nums r)]⟩) else (eP,s)
noncomputable def rG:Rw->Bool
 |.ifr _ _ _=>eP
 |.again _ _=>eP
 |_=>true
theorem ca{c:Cf}{r:Rw}{pl:S9}{s:Sx}(h:rG r=true):iA c r pl s=lA c r pl s:=by
 cases r with
 |ifr x a b=>trivial
 |again x a=>trivial
 |_=>simp[iA,lA,nt,Cq];lia
theorem ofs_inj(a b:String):(Mw a=Mw b)=(a=b):=by
 refine propext ⟨λh=>?_,by lia⟩
 rw[Str.ofString_eq_byList]at h;exact String.toList_inj.mp ((List.map_inj_right λx y=>Char.toNat_inj.mp).mp<|congrArg (λx:Str=>x.cps.toList) h)
end _T
open PySem _2 _3 _T
local macro_rules | `(tactic| simp! [$a,*]) => do let p <- ("pE jB ki jN jg qo pK vg jO pP pq pj p_ oY jZ pJ lO vh jq jC pF jA kn jW kr jT kW uA jJ qc qh km oG jx ig gB jr jG jw j_ k9 ko kh p6 tE lQ mh ui pY pX m8 p0 ly p8 pf oj oF gJ jV jp g_ p4 jb jf jR k7 uQ qf tw pV kx gO o_ gS jy je pL gE ik gF fg kH j9 jK ku jH gG k8 gA pQ oA ox lL oJ oq pO oH tF uM ph jS jt jL gI jk gw k4 jh hV gD gP gx gW ii gC kA lZ dG rS tf Hb pk vV Hi jz yz vc Dy gH aL startN al aA ao bR yJ aj bY kb dv bX fits aH cz ac dC aw oX ay dF g7 jD eI EF oI pU h_ av aE dg am frz aF t7 mq kF Hx ap af bL aD bM gK CY aa ae ax bA bn bC zc bP bT bV pI iU FW df fW a_ fH bt cB Be dTM ug fZ sD eA nX yZ yA eF sW yE fO bj aI ak iZ wB cN nv gU GW bZ pH cM lB ke iM uV frzs Jm dB ir qZ g8".splitOn " ").toArray.mapM (fun s => `(Lean.Parser.Tactic.simpLemma| ↓$(Lean.mkIdent s.toName):ident)); let q <- ("List.map_cons List.map_nil List.cons_append List.nil_append List.length_cons List.length_nil List.getElem?_cons_succ List.getElem?_cons_zero List.set_cons_succ List.set_cons_zero Nat.zero_add Nat.reduceAdd Nat.reduceSub List.replicate_succ List.replicate_zero List.append_nil true_and and_true if_true if_false Bool.false_eq_true decide_eq_true_eq decide_eq_false_iff_not Bool.not_true Bool.not_false Bool.and_true Bool.true_and Bool.and_false Bool.false_and Mem.upd_same Option.isSome_some Option.isSome_none ofs_inj String.reduceEq".splitOn " ").toArray.mapM (fun s => `(Lean.Parser.Tactic.simpLemma| $(Lean.mkIdent s.toName):ident)); let r : Lean.TSyntaxArray [`Lean.Parser.Tactic.simpStar, `Lean.Parser.Tactic.simpErase, `Lean.Parser.Tactic.simpLemma] := (p.map (⟨·.raw⟩)) ++ (q.map (⟨·.raw⟩)) ++ a.getElems; `(tactic| simp -dsimp only [$r,*])
namespace _T
open PySem _2 _3
variable{ad:Ad}{c:Cf}{Q:DK}{E:DX}{m:Int}{SS:S_}{M:Mem}{r:Rw}{n:c_}
theorem r9{w:Str}{y z:Int}(b:0<m)(i:0<=y)(g:y<1000)(h:Q (.int<|Ff w y z m) M):vF ad [.str w,.int y,.int z,.int m] M Q E:=by
 have f:CMul y z:=.inl ⟨by lia,by lia⟩
 unfold Ff at h;simp![Ko,xg]
 split
 .rename_i e;rw[if_pos e]at h;exact⟨b,aq h⟩
 rename_i e;rw[if_neg e]at h
 split
 .rename_i e;rw[if_pos e]at h;exact⟨f,b,aq h⟩
 rename_i e;rw[if_neg e]at h
 split
 .rename_i e;rw[if_pos e]at h
  split<;>rename_i a
  .rw[if_pos a]at h;exact aq h
  .rw[if_neg a]at h;exact aq h
 .rename_i e;rw[if_neg e]at h
  split<;>rename_i a
  .rw[if_pos a]at h;exact aq h
  .rw[if_neg a]at h;exact aq h
def eD(SS:S_)(m SV:Int):Rw->Prop
 |.put x k=>x∈SS/\0<=k/\k<m
 |.take x i=>x∈SS/\0<=i/\i<SV
 |.pick x y=>x∈SS/\y∈SS/\0<SV
 |.two w x y z=>(w="sum"\/w="by"\/w="less"\/w="same")/\x∈SS/\y∈SS/\z∈SS
 |_=>False
structure NOk(SS:S_)(m:Int)(n:c_):Prop where
 keys:n.map (·.1)=SS
 rng:∀p∈n,0<=p.2/\p.2<m
theorem NOk.at(h:NOk SS m n){x:Str}(f:x∈SS):gN n x=cb (nm n x)/\0<=nm n x/\nm n x<m:=by
 have e:=A_ (by rw[h.keys];exact f)
 refine⟨e,?_⟩;obtain⟨p,b,a⟩:=MR.mp e;rw[<- a];exact h.rng p (List.mem_of_find?_eq_some b)
theorem CD{w:Str}{y z:Int}(h2:2<=m):0<=Ff w y z m/\Ff w y z m<m:=by
 unfold Ff;have f:=OZ (y+z) (show m≠0 by lia)
 have a:=Ob (y+z) (show 0<m by lia)
 have e:=OZ (y*z) (show m≠0 by lia)
 have b:=Ob (y*z) (show 0<m by lia)
 lia
structure COk(c:Cf):Prop where
 m2:2<=c.m
 m1:c.m<=997
 rng:∀v∈c.pieces,0<=v/\v<c.m
 few:c.pieces.length<=1000
 most:c.most<=10000
theorem COk.piece(h:COk c){i:Nat}(a:i<c.pieces.length):c.pieces[i]?=cb ((c.pieces[i]?).getD 0)/\0<=(c.pieces[i]?).getD 0/\(c.pieces[i]?).getD 0<c.m:=by
 rw[Mj a];exact⟨rfl,h.rng _<|by simp_all⟩
theorem BS(h:COk c)(f:NOk SS c.m n)(a:eD SS c.m c.pieces.length r):0<=eQ c n r/\eQ c n r<c.m:=by
 cases r with
 |put x k=>exact a.2
 |take x i=>exact(h.piece<|by have:=a.2;lia).2
 |pick x y=>
  have b:=a.2.2;have e:=Ob (nm n y) b;exact(h.piece<|by lia).2
 |two w x y z=>exact CD h.m2
 |ifr=>exact a.elim
 |again=>exact a.elim
noncomputable def aN(c:Cf)(SS:S_)(rows:List Rw)(mk:Str):D:=.tup [.int c.m,.tup (SS.map D.str),.int (c.pieces.length:Nat),.tup (ai rows),.str mk]
theorem cH{rows:List Rw}{mk:Str}{b:eH}(g:NOk SS c.m n)(a:eD SS c.m c.pieces.length r)(f:M b=cb (.dK<|iT n))(h:Q (match r with|.take _ i=>.int i|.pick _ y=>.int (nm n y % (c.pieces.length:Int))|_=>.non) M):wP ad [aN c SS rows mk,.ref b,r.d] M Q E:=by
 cases r with
 |put x k=>(simp![va,lM,Rw.d,atI_0];exact aq h)
 |take x i=>(simp![va,lM,Rw.d,atI_0];exact aq h)
 |pick x y=>
  simp![va,lM,Rw.d,atI_0,atI_2,f,h8,(g.at a.2.1).1];exact⟨a.2.2,aq h⟩
 |two w x y z=>
  obtain⟨e,_⟩:=a;rcases e with rfl|rfl|rfl|rfl<;>(simp![va,lM,aN,Rw.d,atI_0];exact aq h)
 |ifr=>exact a.elim
 |again=>exact a.elim
theorem mm{rows:List Rw}{mk:Str}{u:eH}(o:COk c)(e:NOk SS c.m n)(b:eD SS c.m c.pieces.length r)(f:M u=cb (.dK<|iT n))(h:Q (.int<|eQ c n r) M):rP ad [aN c SS rows mk,.ref u,.tup (c.pieces.map D.int),r.d] M Q E:=by
 have A:=o.m1;cases r with
 |put x k=>
  simp![wI,lJ,Rw.d,atI_0];exact aq h
 |take x i=>
  have a:=b;obtain⟨p,j,F⟩:=a;have l:(c.pieces.map D.int)[i.toNat]?=cb (.int<|eQ c n<|.take x i):=by rw[Mv,(o.piece (i:=i.toNat)<|by lia).1];rfl
  simp![wI,lJ,aN,Rw.d,atI_0,atI_2];refine aK (d:=.int i) (λ_ _ q=>cH (c:=c) (SS:=SS) (rows:=rows) (mk:=mk) (r:=.take x i) e b f q) ?_;simp![bG j,l];exact aq h
 |pick x y=>
  have a:=b;obtain⟨p,s,j⟩:=a;have G:=Ob (nm n y) j;have l:(c.pieces.map D.int)[(nm n y % (c.pieces.length:Int)).toNat]?=cb (.int<|eQ c n<|.pick x y):=by rw[Mv,(o.piece (i:=(nm n y % (c.pieces.length:Int)).toNat)<|by lia).1];rfl
  simp![wI,lJ,aN,Rw.d,atI_0,atI_2];refine aK (d:=.int (nm n y % (c.pieces.length:Int))) (λ_ _ q=>cH (c:=c) (SS:=SS) (rows:=rows) (mk:=mk) (r:=.pick x y) e b f q) ?_;simp![bG (OZ (nm n y) (show (c.pieces.length:Int)≠0 by lia)),l]
  exact aq h
 |two w x y z=>
  have a:=b;obtain⟨C,p,s,v⟩:=a;have B:=e.at s;have g:((w=Mw "put")=False):=by rcases C with rfl|rfl|rfl|rfl<;>exact eq_false (by decide +kernel)
  simp![wI,lJ,aN,Rw.d,atI_0,atI_2,g];refine aK (d:=.non) (λ_ _ q=>cH (c:=c) (SS:=SS) (rows:=rows) (mk:=mk) e b f q) ?_;simp![atI_0,atI_2,atI_3,f,h8,B.1,(e.at v).1,Oh];exact aK (λ_ _ q=>r9 (by lia) (by lia) (by lia) q) (aq h)
 |ifr=>exact b.elim
 |again=>exact b.elim
structure Wk where
 a:eH
 dn:eH
 ls:eH
 h1:a≠dn
 h2:a≠ls
 h3:dn≠ls
noncomputable def plD(l:S9):D:=.tup (l.map D.int)
noncomputable def rC(l:List (List Int×Int)):List D:=l.map λp=>.tup [plD p.1,.int p.2]
noncomputable def wM(ad:Ad)(k:Wk)(c:Cf)(pD:D)(s:Sx)(M:Mem):Mem:=
 ((M.upd k.a<|.ins ad.C_Walk [("plan",pD),("numbers",.ref k.dn),("pieces",.tup (c.pieces.map D.int)),("most",.int (c.most:Nat)),("steps",.ref k.ls)]).upd k.dn<|.dK<|iT s.nums).upd k.ls (.lst<|rC s.steps)
section
variable{k:Wk}{pD:D}{s:Sx}
theorem mY:wM ad k c pD s M k.a=cb (.ins ad.C_Walk [("plan",pD),("numbers",.ref k.dn),("pieces",.tup (c.pieces.map D.int)),("most",.int (c.most:Nat)),("steps",.ref k.ls)]):=by
 unfold wM;rw[ah k.h2,ah k.h1,Mem.upd_same]
theorem wG:wM ad k c pD s M k.dn=cb (.dK<|iT s.nums):=by unfold wM;rw[ah k.h3,Mem.upd_same]
theorem ER:wM ad k c pD s M k.ls=cb (.lst<|rC s.steps):=by unfold wM;simp_all
theorem AR{x:List (List Int×Int)}:(wM ad k c pD s M).upd k.ls (.lst<|rC x)=wM ad k c pD ⟨s.nums,x⟩ M:=by unfold wM;simp_all
theorem Dg{x:c_}:(wM ad k c pD s M).upd k.dn (.dK<|iT x)=wM ad k c pD ⟨x,s.steps⟩ M:=by
 unfold wM;rw[cO (MJ k.h3),Mem.upd_upd]
theorem lf0:MU ("plan":Str) [(("plan":Str),x0),(("numbers":Str),x1),(("pieces":Str),x2),(("most":Str),x3),(("steps":Str),x4)]=cb (x0:D):=rfl
theorem lf1:MU ("numbers":Str) [(("plan":Str),x0),(("numbers":Str),x1),(("pieces":Str),x2),(("most":Str),x3),(("steps":Str),x4)]=cb (x1:D):=rfl
theorem lf2:MU ("pieces":Str) [(("plan":Str),x0),(("numbers":Str),x1),(("pieces":Str),x2),(("most":Str),x3),(("steps":Str),x4)]=cb (x2:D):=rfl
theorem lf3:MU ("most":Str) [(("plan":Str),x0),(("numbers":Str),x1),(("pieces":Str),x2),(("most":Str),x3),(("steps":Str),x4)]=cb (x3:D):=rfl
theorem lf4:MU ("steps":Str) [(("plan":Str),x0),(("numbers":Str),x1),(("pieces":Str),x2),(("most":Str),x3),(("steps":Str),x4)]=cb (x4:D):=rfl
theorem lfm:MU ("note_step":Str) [(("plan":Str),x0),(("numbers":Str),x1),(("pieces":Str),x2),(("most":Str),x3),(("steps":Str),x4)]=(none:Option D):=rfl
theorem lfl:MU ("look":Str) [(("plan":Str),x0),(("numbers":Str),x1),(("pieces":Str),x2),(("most":Str),x3),(("steps":Str),x4)]=(none:Option D):=rfl
theorem eV{pl:S9}{v:Int}(f:c.most<=10000)(b:(nt c pl v s).1=true->Q .non (wM ad k c pD (nt c pl v s).2 M))(h2:(nt c pl v s).1=eP->E ad.C_Dry (wM ad k c pD (nt c pl v s).2 M)):
  uC ad [.ref k.a,plD pl,.int v] (wM ad k c pD s M) Q E:=by
 unfold nt at b h2;simp![u_q4,Cy,mY,ER,lf3,lf4,rC,Mc]
 split
 .have:¬s.steps.length<c.most:=by lia
  rw[if_neg this]at h2;exact cq (h2 rfl)
 have e:s.steps.length<c.most:=by lia
 rw[if_pos e]at b;refine⟨aR (by decide),eE (by lia),aq ?_⟩
 have:=b rfl;rw[<- AR]at this;simpa [rC] using this
end
end _T
namespace _3
open PySem _2
noncomputable def bF:Nat->List D->List D
 |_,[]=>[]
 |k,x::xs=>.tup [.int (k:Nat),x]::bF (k+1) xs
theorem qY:∀(xs:List D)(k:Nat),(xs.zipIdx k).map (λp=>D.tup [.int (p.2:Nat),p.1])=bF k xs
 |[],_=>rfl
 |x::xs,k=>by rw[List.zipIdx_cons,Ms,qY xs _];rfl
theorem dO(xs:List D):rf xs=bF 0 xs:=qY xs 0
theorem aG{xs:List D}{M:Mem}:DIt.ok ⟨xs,[]⟩ M:=λ_ h=>by cases h
end _3
namespace _T
open PySem _2 _3
variable{ad:Ad}{l rm:eH}{c:Cf}{D0:DEnds}{K Q:DK}{E EE:DX}{U:Dl}{hh m SV sd v:Int}{nums pl:S9}{SZ rows S4:List Rw}{SS:S_}{M M' M1 M2:Mem}{i j n:Nat}{r:Rw}{mk:Str}{s:Sx}{A:az}{te:bi}
mutual
def ck(SS:S_)(m SV:Int):Rw->Prop
 |.ifr x a b=>x∈SS/\aJ SS m SV a/\aJ SS m SV b
 |.again x a=>x∈SS/\aJ SS m SV a
 |.put x k=>eD SS m SV (.put x k)
 |.take x k=>eD SS m SV (.take x k)
 |.pick x k=>eD SS m SV (.pick x k)
 |.two w x y z=>eD SS m SV (.two w x y z)
def aJ(SS:S_)(m SV:Int):List Rw->Prop
 |[]=>True
 |r::rs=>ck SS m SV r/\aJ SS m SV rs
end
mutual
noncomputable def hR:Rw->Nat
 |.ifr _ a b=>1+max (bd a) (bd b)
 |.again _ a=>1+bd a
 |_=>0
noncomputable def bd:List Rw->Nat
 |[]=>0
 |r::rs=>max (hR r) (bd rs)
end
section
theorem KL{n:c_}(b:NOk SS c.m n){x:Str}(f:0<=v/\v<c.m):NOk SS c.m (sN n x v):=by
 refine⟨by rw[jE];exact b.keys,λp a=>?_⟩
 simp only[sN,Nd]at a;obtain⟨q,e,rfl⟩:=a
 split
 .exact f
 exact b.rng q e
theorem kg:(nt c pl v s).2.nums=s.nums:=by unfold nt;split<;>rfl
theorem jU(b:COk c)(e:eD SS c.m c.pieces.length r)(a:NOk SS c.m s.nums):NOk SS c.m (lA c r pl s).2.nums:=by
 unfold lA
 split
 .exact KL a (BS b a e)
 exact a
theorem xr{x:Str}{pl:S9}{a:Nat->Sx->Bool×Sx}(e:∀t s,NOk SS c.m s.nums->NOk SS c.m (a t s).2.nums):∀(f t:Nat)(s:Sx),NOk SS c.m s.nums->NOk SS c.m (dk c x pl a f t s).2.nums
 |0,_,s,h=>h
 |f+1,t,s,h=>by
  have b:NOk SS c.m (nt c (pl++[(t:Int)]) (lk s.nums x) s).2.nums:=by rw[kg];exact h
  unfold dk
  split
  .split
   .split
    .exact xr e f _ _ (e t _ b)
    simp_all
   exact b
  exact b
mutual
theorem t6(e:COk c):∀(r:Rw),ck SS c.m c.pieces.length r->∀(pl:S9)(s:Sx),NOk SS c.m s.nums->NOk SS c.m (iA c r pl s).2.nums
 |.ifr x a b,h,pl,s,hn=>by
  have f:NOk SS c.m (nt c pl (lk s.nums x) s).2.nums:=by rw[kg];exact hn
  simp only[ck]at h;unfold iA
  split
  .split
   .exact fJ e a h.2.1 _ _ _ f
   .exact fJ e b h.2.2 _ _ _ f
  .exact f
 |.again x a,h,pl,s,hn=>by
  simp only[ck]at h;unfold iA;exact xr (λt s g=>fJ e a h.2 _ _ _ g) _ _ _ hn
 |.put x k,h,pl,s,hn=>by rw[ca rfl];exact jU e (by simpa only[ck] using h) hn
 |.take x k,h,pl,s,hn=>by rw[ca rfl];exact jU e (by simpa only[ck] using h) hn
 |.pick x k,h,pl,s,hn=>by rw[ca rfl];exact jU e (by simpa only[ck] using h) hn
 |.two w x y z,h,pl,s,hn=>by rw[ca rfl];exact jU e (by simpa only[ck] using h) hn
theorem fJ(a:COk c):∀(rs:List Rw),aJ SS c.m c.pieces.length rs->∀(pl:S9)(j:Nat)(s:Sx),NOk SS c.m s.nums->NOk SS c.m (cI c rs pl j s).2.nums
 |[],_,_,_,s,hn=>by simpa only[cI] using hn
 |r::rs,h,pl,j,s,hn=>by
  simp only[aJ]at h;unfold cI
  split
  .exact fJ a rs h.2 _ _ _ (t6 a r h.1 _ _ hn)
  .exact t6 a r h.1 _ _ hn
end
end
def Post(ad:Ad)(k:Wk)(c:Cf)(pD:D)(r:Bool×Sx)(M:Mem)(d:D)(Q:DK)(E:DX):Prop:=(r.1=true->Q d (wM ad k c pD r.2 M))/\(r.1=eP->E ad.C_Dry (wM ad k c pD r.2 M))
theorem bB{k:Wk}{a:D}{r:Bool×Sx}{M0:Mem}{d:D}{T:Sd}{ds:List D}(o:∀Q' E',Post ad k c a r M d Q' E'->T ds M0 Q' E'){b:BxQ E Q}(h:Post ad k c a r M d Q E):calls T E ds M0 Q b:=
 au λQ' E' f g=>o Q' E' ⟨λe=>f _ _ (h.1 e),λe=>g _ _ (h.2 e)⟩
theorem Post.drp{k:Wk}{a:D}{r:Bool×Sx}{d:D}(h:Post ad k c a r M d Q E):Post ad k c a r M d (_3.drp Q) (aB E):=⟨λe=>aq (h.1 e),λe=>cq (h.2 e)⟩
section
variable{k:Wk}
theorem nW{x:Str}(f:COk c)(o:NOk SS c.m s.nums)(g:x∈SS)(h:Post ad k c (aN c SS S4 mk) (nt c pl (lk s.nums x) s) M (.int<|lk s.nums x) Q E):
  nJ ad [.ref k.a,plD pl,.str x] (wM ad k c (aN c SS S4 mk) s M) Q E:=by
 have b:∀v:Int,v=lk s.nums x->calls (uC ad) (aB E) [.ref k.a,plD pl,.int v] (wM ad k c (aN c SS S4 mk) s M) (λ_ M1=>_3.drp Q (.int v) M1) ⟨⟩:=by
  rintro v rfl
  exact bB (λQ' E' z=>eV f.most z.1 z.2) ⟨λe=>aq (h.1 e),λe=>cq (h.2 e)⟩
 simp![Lr,ww,mY,wG,lf1,lfm,h8,(o.at g).1,Oh]
 split
 .rename_i e
  exact b 0 (by unfold lk;rw[if_pos e])
 rename_i e
 exact b 1 (by unfold lk;rw[if_neg e])
theorem yw(h:eD SS m SV r):∃w a,r.d=.tup (.str w::.str (Cq r)::a)/\(w="again")=False/\(w="if")=False:=by
 cases r with
 |two w x y z=>
  refine⟨_,_,rfl,?_⟩;rcases h.1 with rfl|rfl|rfl|rfl
  .exact⟨by trivial,(eq_false<|by decide +kernel)⟩
  .exact⟨(eq_false<|by decide +kernel),(eq_false<|by decide +kernel)⟩
  .exact⟨(eq_false<|by decide +kernel),(eq_false<|by decide +kernel)⟩
  exact⟨(eq_false<|by decide +kernel),(eq_false<|by decide +kernel)⟩
 |ifr=>exact h.elim
 |again=>exact h.elim
 |_=>exact⟨_,_,rfl,(eq_false<|by decide +kernel),(eq_false<|by decide +kernel)⟩
theorem oh(J:SS.length<=1000)(H:COk c)(B:NOk SS c.m s.nums)(e:eD SS c.m c.pieces.length r)(h:Post ad k c (aN c SS S4 mk) (lA c r pl s) M .non Q E):
  Ra ad (n+1) [.ref k.a,r.d,plD pl] (wM ad k c (aN c SS S4 mk) s M) Q E:=by
 obtain⟨w,F,G,p,o⟩:=yw e;have f:calls (rP ad) (aB E) [aN c SS S4 mk,.ref k.dn,.tup (c.pieces.map D.int),r.d] (wM ad k c (aN c SS S4 mk) s M) (λd M'=>frz d M' λx M1=>
   af 3 x [cb (.ref k.a),cb r.d,cb (plD pl),ed] M1 λU M2=>al (a_<|iZ ad.C_Walk "note_step" (uC ad) (aB E) 3 (ac 0)<|aa (ac 2)<|aa (ac 3) ae)
    (ap (ac 3)<|gK (df ad.C_Walk (ac 0) "numbers")<|aj av (ac 1)<|dC<|.int 1) { nx:=λ_ M'=>_3.drp Q .non M',rt:=_3.drp Q } U M2) ⟨⟩:=by
  refine aK (λ_ _ q=>mm H B e wG q) ?_;simp![mY,lfm];refine bB (λQ' E' z=>eV H.most z.1 z.2) ?_;unfold lA at h;unfold nt;have b:Cq r∈s.nums.map (·.1):=by
   rw[B.keys];cases r with
   |two w x y z=>exact e.2.1
   |ifr=>exact e.elim
   |again=>exact e.elim
   |_=>exact e.1
  split
  .rename_i u
   rw[if_pos u]at h;refine⟨λ_=>?_,by lia⟩
   have C:=h.1 rfl;have I:wM ad k c (aN c SS S4 mk) ⟨sN s.nums (Cq r) (eQ c s.nums r),s.steps++[(pl,eQ c s.nums r)]⟩ M=(wM ad k c (aN c SS S4 mk) ⟨s.nums,s.steps++[(pl,eQ c s.nums r)]⟩ M).upd k.dn (.dK<|eN (iT s.nums) (NY<|Cq r)<|.int<|eQ c s.nums r):=by
    rw[BN b,Dg]
   rw[I]at C;have g:(iT s.nums).length<sizeLine:=by rw[iT,Mc,<- Mc,B.keys];exact eE (by lia)
   rw[G];simp![mY,wG,lf1,atI_1];exact⟨g,aq C⟩
  .rename_i u
   rw[if_neg u]at h;exact⟨by lia,λ_=>cq (h.2 rfl)⟩
 rw[G]at f ⊢;simp![Ax,nH,mY,lf0,lf1,lf2,atI_0,p,o];exact f
end
section
def Gr(c:Cf)(s s':Sx):Prop:=s.steps.length<=s'.steps.length/\(s.steps.length<=c.most->s'.steps.length<=c.most)
theorem Gr.refl:Gr c s s:=⟨by lia,id⟩
theorem Gr.trans{f e:Sx}(a:Gr c s f)(b:Gr c f e):Gr c s e:=⟨My a.1 b.1,λh=>b.2 (a.2 h)⟩
theorem nt_gr:Gr c s (nt c pl v s).2:=by
 unfold nt
 split
 .refine⟨by simp,λ_=>?_⟩;simp;lia
 exact Gr.refl
theorem jQ:Gr c s (lA c r pl s).2:=by
 unfold lA
 split
 .refine⟨by simp,λ_=>?_⟩;simp;lia
 exact Gr.refl
theorem v_{x:Str}{pl:S9}{a:Nat->Sx->Bool×Sx}(b:∀t s,Gr c s (a t s).2):∀(f t:Nat)(s:Sx),Gr c s (dk c x pl a f t s).2
 |0,_,s=>Gr.refl
 |f+1,t,s=>by
  unfold dk
  split
  .split
   .split
    .exact nt_gr.trans ((b t _).trans<|v_ b f _ _)
    exact nt_gr.trans (b t _)
   exact nt_gr
  exact nt_gr
mutual
theorem tV:∀(r:Rw)(pl:S9)(s:Sx),Gr c s (iA c r pl s).2
 |.ifr x a b,pl,s=>by
  unfold iA
  split
  .split
   .exact nt_gr.trans (fF a _ _ _)
   .exact nt_gr.trans (fF b _ _ _)
  .exact nt_gr
 |.again x a,pl,s=>by
  unfold iA;exact v_ (λt s=>fF a _ _ _) _ _ _
 |.put x k,pl,s=>by rw[ca rfl];exact jQ
 |.take x k,pl,s=>by rw[ca rfl];exact jQ
 |.pick x k,pl,s=>by rw[ca rfl];exact jQ
 |.two w x y z,pl,s=>by rw[ca rfl];exact jQ
theorem fF:∀(rs:List Rw)(pl:S9)(j:Nat)(s:Sx),Gr c s (cI c rs pl j s).2
 |[],_,_,s=>by unfold cI;exact Gr.refl
 |r::rs,pl,j,s=>by
  unfold cI
  split
  .exact(tV r _ _).trans (fF rs _ _ _)
  .exact tV r _ _
end
end
theorem fu:D.tup (pl.map D.int++[D.int v])=plD (pl++[v]):=by simp[plD]
section
variable{k:Wk}
def xf(ad:Ad)(k:Wk)(c:Cf)(SS:S_)(S4:List Rw)(mk:Str)(n:Nat):Prop:=∀(rs:List Rw)(pl:S9)(s:Sx)(M:Mem)(Q:DK)(E:DX),aJ SS c.m c.pieces.length rs->3*bd rs+2<=n->pl.length+2*bd rs+2<=1000->NOk SS c.m s.nums->s.steps.length<=c.most->
 Post ad k c (aN c SS S4 mk) (cI c rs pl 0 s) M .non Q E->Q8 ad n [.ref k.a,.tup (ai rs),plD pl] (wM ad k c (aN c SS S4 mk) s M) Q E
def Gf(ad:Ad)(k:Wk)(c:Cf)(SS:S_)(S4:List Rw)(mk:Str)(n:Nat):Prop:=∀(r:Rw)(pl:S9)(s:Sx)(M:Mem)(Q:DK)(E:DX),ck SS c.m c.pieces.length r->3*hR r+1<=n->pl.length+2*hR r+1<=1000->NOk SS c.m s.nums->s.steps.length<=c.most->
 Post ad k c (aN c SS S4 mk) (iA c r pl s) M .non Q E->Ra ad n [.ref k.a,r.d,plD pl] (wM ad k c (aN c SS S4 mk) s M) Q E
def PIf(ad:Ad)(k:Wk)(c:Cf)(SS:S_)(S4:List Rw)(mk:Str)(n:Nat):Prop:=∀(x:Str)(a b:List Rw)(pl:S9)(s:Sx)(M:Mem)(Q:DK)(E:DX),ck SS c.m c.pieces.length (.ifr x a b)->3*hR (.ifr x a b)<=n->pl.length+2*hR (.ifr x a b)+1<=1000->NOk SS c.m s.nums->s.steps.length<=c.most->
 Post ad k c (aN c SS S4 mk) (iA c (.ifr x a b) pl s) M .non Q E->Rb ad n [.ref k.a,(Rw.ifr x a b).d,plD pl] (wM ad k c (aN c SS S4 mk) s M) Q E
def PAg(ad:Ad)(k:Wk)(c:Cf)(SS:S_)(S4:List Rw)(mk:Str)(n:Nat):Prop:=∀(x:Str)(a:List Rw)(pl:S9)(s:Sx)(M:Mem)(Q:DK)(E:DX),ck SS c.m c.pieces.length (.again x a)->3*hR (.again x a)<=n->pl.length+2*hR (.again x a)+1<=1000->NOk SS c.m s.nums->s.steps.length<=c.most->
 Post ad k c (aN c SS S4 mk) (iA c (.again x a) pl s) M .non Q E->Rc ad n [.ref k.a,(Rw.again x a).d,plD pl] (wM ad k c (aN c SS S4 mk) s M) Q E
theorem yv(H:COk c)(I:Gf ad k c SS S4 mk n):xf ad k c SS S4 mk (n+1):=by
 intro F pl s M Q E b C p g f h;simp![Kf,wg,cK,dO]
 refine br (λG U M'=>∃(a:List Rw)(j:Nat)(o:Sx)(w B:Option D),G=bF j (ai a)/\U=[cb _,cb _,cb _,w,B]/\M'=wM ad k c _ o M/\aJ _ c.m _ a/\3*bd a+2<=n+1/\pl.length+2*bd a+2<=1000/\NOk _ _ o.nums/\o.steps.length<=c.most/\
  Post ad k c _ (cI c a pl j o) M _ Q E) (λ_ _ _ _=>aG) ?_ ?_ _ _ _ ⟨F,0,s,_,_,rfl,rfl,rfl,b,C,p,g,f,h⟩
 .rintro U M' ⟨a,j,o,w,B,u,rfl,rfl,b,C,p,g,f,h⟩
  cases a with
  |nil=>exact aq (by simpa [cI] using h.1 (by simp[cI]))
  |cons r F=>trivial
 rintro x G U M' ⟨a,j,o,w,B,u,rfl,rfl,b,C,p,g,f,h⟩ D' y _ _ _
 cases a with
 |nil=>simp[ai,bF]at u
 |cons r a=>
  simp only[ai,bF,MH]at u;obtain⟨rfl,rfl⟩:=u;simp only[aJ]at b;have J:hR r<=bd (r::a)/\bd a<=bd (r::a):=by simp only[bd];lia
  simp![plD,Mg,Mc];refine⟨aR (by decide),aR (by lia),?_⟩
  rw[fu];refine bB (r:=iA c r (pl++[(j:Int)]) o) (d:=.non) (λQ' E' z=>I r (pl++[(j:Int)]) o M Q' E' b.1 (by lia) (by simp;lia) g f z) ?_
  simp only[cI]at h;cases q:(iA c r (pl++[(j:Int)]) o).1 with
  |true=>
   rw[if_pos q]at h;refine⟨λ_=>y _ _ ⟨a,j+1,_,_,_,rfl,rfl,rfl,b.2,by lia,by lia,t6 H r b.1 _ _ g,(tV r _ _).2 f,h⟩,λe=>by rw[q]at e;cases e⟩
  |false=>
   rw[if_neg (by rw[q];simp)]at h
   exact⟨λe=>(by rw[q]at e;cases e),λ_=>cq (h.2 q)⟩
theorem Bl(p:SS.length<=1000)(w:COk c)(q:PIf ad k c SS S4 mk n)(u:PAg ad k c SS S4 mk n):Gf ad k c SS S4 mk (n+1):=by
 intro r pl s M Q E g y o e f h;cases r with
 |ifr x a b=>
  simp![Ax,nH,Rw.d,atI_0];exact bB (λQ' E'=>q x a b pl s M Q' E' g (by lia) o e f) h.drp
 |again x a=>
  simp![Ax,nH,Rw.d,atI_0];exact bB (λQ' E'=>u x a pl s M Q' E' g (by lia) o e f) h.drp
 |_=>rw[ca rfl]at h;exact oh p w e (by assumption) h
theorem By(B:COk c)(w:xf ad k c SS S4 mk n):PIf ad k c SS S4 mk (n+1):=by
 intro x a b pl s M Q E g y q o p h;simp only[hR]at y q;simp![KW,xi,Rw.d,mY,lfl,atI_1,atI_2,atI_3];refine bB (λQ' E' z=>nW B o g.1 z) ?_;have hl:lk s.nums x=0\/lk s.nums x=1:=by unfold lk;split<;>simp
 have e:NOk SS c.m (nt c pl (lk s.nums x) s).2.nums:=by rw[kg];exact o
 have f:=(nt_gr (pl:=pl) (v:=lk s.nums x)).2 p;unfold iA at h;cases u:(nt c pl _ s).1 with
 |false=>
  rw[if_neg (by rw[u];simp)]at h
  exact⟨by lia,λ_=>cq (h.2 u)⟩
 |true=>
  rw[if_pos u]at h;refine⟨λ_=>?_,by lia⟩
  rcases hl with hl|hl
  .rw[hl]at h e f ⊢
   simp![atI_2,atI_3,plD,Mc];refine⟨aR (by decide),aR (by lia),?_⟩
   rw[fu];exact bB (λQ' E' z=>w b _ _ M Q' E' g.2.2 (by lia) (by simp;lia) e f z) h.drp
  .rw[hl]at h e f ⊢
   simp![atI_2,atI_3,plD,Mc];refine⟨aR (by decide),aR (by lia),?_⟩
   rw[fu];exact bB (λQ' E' z=>w a _ _ M Q' E' g.2.1 (by lia) (by simp;lia) e f z) h.drp
end
section
variable{k:Wk}
theorem uy(P:COk c)(T:xf ad k c SS S4 mk n):PAg ad k c SS S4 mk (n+1):=by
 intro x a pl s M Q E B R L g y h;simp only[ck]at B;simp only[hR]at R L;refine⟨c.most+1,?_⟩;unfold iA at h
 have N:∀(f t:Nat)(s:Sx)(G:eO)(F:az)(DD:DEnds)(b:BxW G F DD),NOk SS c.m s.nums->s.steps.length<=c.most->c.most<s.steps.length+f->
   G=ao (aj bY (am<|iZ ad.C_Walk "look" (nJ ad) (aB E) 3 (ac 0)<|aa (aj aF (ac 2)<|ax<|aa (ac 3) ae)<|aa (aj av (ac 1)<|dC<|.int 1) ae)<|dC<|.int 1)->
   F=al (a_<|ak (Q8 ad n) (aB E) 3<|aa (ac 0)<|aa (aj av (ac 1)<|dC<|.int 2)<|aa (aj aF (ac 2)<|ax<|aa (ac 3) ae) ae) (sW 3 (dC<|.int 1) sf)->
   DD.nx=(λ_ M'=>_3.drp Q .non M')->
   Post ad k c (aN c SS S4 mk) (dk c x pl (λt s=>cI c a (pl++[(t:Int)]) 0 s) f t s) M .non Q E->
   fX G F DD b f [cb (.ref k.a),cb (.tup [.str "again",.str x,.tup (ai a)]),cb (plD pl),cb (.int (t:Int))] (wM ad k c (aN c SS S4 mk) s M):=by
  intro f
  induction f with
  |zero=>intro t s G F DD b g y S;lia
  |succ f ihf=>
   intro t s G F DD b g y S J I C h;unfold fX;subst J;simp![mY,lfl,atI_1,plD,Mg,Mc];refine⟨aR (by decide),aR (by lia),?_⟩
   rw[fu];refine bB (d:=.int (lk s.nums x)) (λQ' E' z=>nW P g B.1 z) ?_;have hl:lk s.nums x=0\/lk s.nums x=1:=by unfold lk;split<;>simp
   have u:NOk SS c.m (nt c (pl++[(t:Int)]) (lk s.nums x) s).2.nums:=by rw[kg];exact g
   have p:=(nt_gr (c:=c) (pl:=pl++[(t:Int)]) (v:=lk s.nums x) (s:=s)).2 y;unfold dk at h;cases w:(nt c (pl++[(t:Int)]) (lk s.nums x) s).1 with
   |false=>
    rw[if_neg (by rw[w];simp)]at h
    exact⟨λe=>(by rw[w]at e;cases e),λ_=>cq (h.2 w)⟩
   |true=>
    rw[if_pos w]at h;refine⟨λ_=>?_,λe=>by rw[w]at e;cases e⟩
    have H:(nt c (pl++[(t:Int)]) (lk s.nums x) s).2.steps.length=s.steps.length+1:=by
     unfold nt at w ⊢
     split at w
     .rename_i q;rw[if_pos q];simp
     .cases w
    rcases hl with hl|hl
    .rw[hl]at h ⊢
     simp![show ((0:Int)=1)=False from eq_false (by decide)]
     rw[C];rw[hl]at w;exact aq (h.1 w)
    .rw[if_pos hl]at h
     rw[hl]at h u p H ⊢;simp![];subst I;simp![atI_2,plD,Mg,Mc];refine⟨aR (by decide),aR (by lia),?_⟩
     rw[fu];refine bB (λQ' E' z=>T a (pl++[(t:Int)]) _ M Q' E' B.2 (by lia) (by simp;lia) u p z) ?_
     have O:=fF (c:=c) a (pl++[(t:Int)]) 0 (nt c (pl++[(t:Int)]) 1 s).2;cases o:(cI c a (pl++[(t:Int)]) 0 (nt c (pl++[(t:Int)]) 1 s).2).1 with
     |true=>
      rw[if_pos o]at h;refine⟨λ_=>?_,λe=>by rw[o]at e;cases e⟩
      simp![];exact ihf (t+1) _ _ _ _ _ (fJ P a B.2 _ _ _ u) (O.2 p) (by have:=O.1;lia) rfl rfl C h
     |false=>
      rw[if_neg (by rw[o];simp)]at h
      exact⟨λe=>(by rw[o]at e;cases e),λ_=>cq (h.2 o)⟩
 exact N (c.most+1) 0 s _ _ _ _ g y (by lia) rfl rfl rfl h
theorem qT(f:SS.length<=1000)(e:COk c):∀n:Nat,xf ad k c SS S4 mk n/\Gf ad k c SS S4 mk n/\PIf ad k c SS S4 mk n/\PAg ad k c SS S4 mk n
 |0=>⟨λu pl s M Q E _ h=>by lia,λr pl s M Q E _ h=>by lia,λx a b pl s M Q E _ h=>by simp[hR]at h;lia,λx a pl s M Q E _ h=>by simp[hR]at h;lia⟩
 |n+1=>by
  obtain⟨g,p,o,q⟩:=qT f e n;exact⟨yv e p,Bl f e o q,By e g,uy e g⟩
end
theorem qE:∀(SS:S_)(nums:S9)(SZ:c_),SS.length=nums.length->(SZ.map (·.1)++SS).Nodup->
  ((SS.map λx=>(NY x:bh)).zip<|nums.map D.int).foldl (λa p=>eN a p.1 p.2) (iT SZ)=iT (SZ++SS.zip nums)
 |[],nums,SZ,_,_=>by simp
 |x::SS,[],SZ,h,_=>by simp at h
 |x::SS,v::nums,SZ,h,nd=>by
  have y:x∉SZ.map (·.1):=by
   exact λw=>((NH.mp nd).2.2) x w x (by simp) rfl
  have b:((iT SZ).any λg=>decide (g.1=NY x))=false:=by
   rw[List.any_eq_false];intro p f;simp only[iT,Nd]at f;obtain⟨q,u,rfl⟩:=f;simp only[decide_eq_true_eq];intro e;exact y (by rw[<- (Sum.inr.inj e)];exact ME u)
  simp;have o:eN (iT SZ) (NY x) (.int v)=iT (SZ++[(x,v)]):=by
   unfold eN;rw[b];simp[iT]
  rw[o,qE _ _ _ (by simpa using h) (by simp_all)]
  simp
theorem iL:∀SS:List Str,eA (SS.map D.str)=cb (SS.map λx=>(NY x:bh))
 |[]=>rfl
 |x::SS=>by simp[eA,nX,iL _]
theorem rb(h:SS.length=nums.length)(nd:SS.Nodup):EY (SS.map λx=>(NY x:bh)) (nums.map D.int)=iT (SS.zip nums):=by
 have:=qE _ _ [] h (by trivial)
 assumption
theorem dp1{d:D}:fT "plan" d []=[(("plan":Str),d)]:=rfl
theorem dp2{a d:D}:fT "numbers" d [(("plan":Str),a)]=[(("plan":Str),a),(("numbers":Str),d)]:=rfl
theorem dp3{a b d:D}:fT "pieces" d [(("plan":Str),a),(("numbers":Str),b)]=[(("plan":Str),a),(("numbers":Str),b),(("pieces":Str),d)]:=rfl
theorem dp4{a b e d:D}:fT "most" d [(("plan":Str),a),(("numbers":Str),b),(("pieces":Str),e)]=[(("plan":Str),a),(("numbers":Str),b),(("pieces":Str),e),(("most":Str),d)]:=rfl
theorem dp5{a b e g d:D}:fT "steps" d [(("plan":Str),a),(("numbers":Str),b),(("pieces":Str),e),(("most":Str),g)]=[(("plan":Str),a),(("numbers":Str),b),(("pieces":Str),e),(("most":Str),g),(("steps":Str),d)]:=rfl
noncomputable def b6(nums pieces:S9):D:=.tup [.tup (nums.map D.int),.tup (pieces.map D.int)]
section
theorem xJ{a:eH}(w:M a=ed)(o:SS.length=nums.length)(q:SS.Nodup)(p:0<SS.length)(u:SS.length<=1000)(h:∀(k:Wk),k.a=a->M k.dn=ed->M k.ls=ed->Q .non (wM ad k c (aN c SS rows mk) ⟨SS.zip nums,[]⟩ M)):
  Cw ad [.ref a,aN c SS rows mk,b6 nums c.pieces,.int (c.most:Nat)] (M.upd a<|.ins ad.C_Walk []) Q E:=by
 simp![u_q8,Cj,aN,b6,Mem.upd_upd,atI_0,atI_1,iL,Mc,dp1];refine⟨by decide,o,p,u,λdn f=>?_⟩
 have n1:=Mem.ne Mem.upd_same f;have g:M dn=none:=by rw[ah (MJ n1)]at f;exact f
 simp![ah n1,dp2,cO (MJ n1),Mem.upd_upd,rb o q];refine⟨by simp,?_⟩
 simp![dp3,Mem.upd_upd];refine⟨by simp,?_⟩
 simp![dp4,Mem.upd_upd];refine⟨by simp,by trivial,λls b=>?_⟩
 have n2:a≠ls:=by
  rintro rfl
  rw[ah n1,Mem.upd_same]at b;cases b
 have n3:dn≠ls:=by
  intro e;simp_all
 simp![ah n2,ah n1,Mem.upd_same,dp5];refine⟨by simp,aq ?_⟩
 have:=h ⟨a,dn,ls,n1,n2,n3⟩ rfl g (by rw[ah (MJ n3),ah (MJ n2)]at b;exact b)
 have e:wM ad ⟨a,dn,ls,n1,n2,n3⟩ c (aN c SS rows mk) ⟨SS.zip nums,[]⟩ M=(((M.upd a<|.ins ad.C_Walk [("plan",aN c SS rows mk),("numbers",.ref dn),("pieces",.tup (c.pieces.map D.int)),("most",.int (c.most:Nat))]).upd dn<|.dK<|iT<|SS.zip nums).upd ls<|.lst []).upd a (.ins ad.C_Walk [("plan",aN c SS rows mk),("numbers",.ref dn),("pieces",.tup (c.pieces.map D.int)),("most",.int (c.most:Nat)),("steps",.ref ls)]):=by
  unfold wM;rw[cO (MJ n2),cO (MJ n1),Mem.upd_upd];rfl
 rw[e]at this;exact this
noncomputable def bp(c:Cf)(SS:S_)(rows:List Rw)(nums:S9):Bool×Sx:=cI c rows [] 0 ⟨SS.zip nums,[]⟩
noncomputable def dh(SS:S_)(r:Bool×Sx):D:=if r.1=true then .tup (SS.map λx=>.int (nm r.2.nums x)) else .non
structure PlOk(c:Cf)(SS:S_)(rows:List Rw)(nums:S9):Prop where
 co:COk c
 ln:SS.length=nums.length
 nd:SS.Nodup
 l0:0<SS.length
 l1:SS.length<=1000
 rng:∀v∈nums,0<=v/\v<c.m
 ok:aJ SS c.m c.pieces.length rows
 h:bd rows<=7
theorem fb:∀{SS:S_}{nums:S9},SS.length=nums.length->(SS.zip nums).map (·.1)=SS
 |[],[],_=>rfl
 |[],_::_,h=>by simp at h
 |_::_,[],h=>by simp at h
 |x::xs,v::vs,h=>by simp[fb (by simpa using h)]
theorem PlOk.nok(p:PlOk c SS rows nums):NOk SS c.m (SS.zip nums):=⟨fb p.ln,λq a=>p.rng _ (OR a).2⟩
theorem AO(p:PlOk c SS rows nums)(h:∀l,M l=ed->Q (.tup [.ref l,dh SS (bp c SS rows nums)]) (M.upd l<|.lst<|rC (bp c SS rows nums).2.steps)):
  iN ad [aN c SS rows mk,b6 nums c.pieces,.int (c.most:Nat)] M Q E:=by
 simp![KJ,wa];intro a R;refine au λQ' E' F _=>xJ R p.ln p.nd p.l0 p.l1 λk T O w=>F _ _ ?_;subst T;have f:∀(C:Sx),∀b o,(M.upd k.ls<|.lst<|rC C.steps) b=cb o->wM ad k c (aN c SS rows mk) C M b=cb o:=by
  intro C b o e
  by_cases I:b=k.ls
  .subst I;rw[Mem.upd_same]at e;rw[ER];exact e
  .rw[ah I]at e
   have W:b≠k.dn:=by rintro rfl;rw[O]at e;cases e
   have X:b≠k.a:=by rintro rfl;rw[R]at e;cases e
   unfold wM;rw[ah I,ah W,ah X];exact e
 have P:=(qT (ad:=ad) (k:=k) (S4:=rows) (mk:=mk) p.l1 p.co 24).1 rows [] ⟨SS.zip nums,[]⟩ M;unfold aN at P;simp![aN,atI_3];refine⟨aR (by decide),?_⟩
 refine au λQ2 E2 G B=>P Q2 E2 p.ok (by have:=p.h;lia) (by have:=p.h;simp;lia) p.nok (Nj _) ⟨λe=>G _ _ ?_,λe=>B _ _ ⟨rfl,?_⟩⟩
 .have Z:NOk SS c.m (bp c SS rows nums).2.nums:=fJ p.co rows p.ok [] 0 ⟨SS.zip nums,[]⟩ p.nok
  have H:(bp c SS rows nums).1=true:=e;simp![mY,lf4,atI_1,bf]
  refine aT (λL SZ U M'=>∃n1 n2 z,SS=n1++n2/\L=n2.map D.str/\SZ=n1.map (λx=>D.int (nm (bp c SS rows nums).2.nums x))/\U=[z,cb (.ref k.a)]/\M'=wM ad k c (aN c SS rows mk) (bp c SS rows nums).2 M)
   (λ_ _ _ _ _=>aG) ?_ ?_ ?_ _ _ _ _ ⟨[],SS,ed,rfl,rfl,rfl,rfl,rfl⟩
  .rintro SZ U M' ⟨n1,n2,z,g,u,rfl,rfl,rfl⟩
   have:n2=[]:=by cases n2 with|nil=>rfl|cons _ _=>simp at u
   subst this;intro q F;simp![Mem.upd_upd,Mem.upd_del,ar F];refine⟨aR (by decide),⟨_,f _,?_⟩⟩
   have:=h k.ls w;unfold dh at this;rw[if_pos H]at this;have S:n1=SS:=by simpa using g.symm
   rw[S];exact this
  .rintro x L SZ U M' ⟨n1,n2,z,g,u,rfl,rfl,rfl⟩ N Y _
   cases n2 with
   |nil=>simp at u
   |cons y n2=>
    simp only[Ms,MH]at u;obtain⟨rfl,rfl⟩:=u;have hy:y∈SS:=by rw[g];simp
    simp![mY,wG,lf1,h8,(Z.at hy).1,Oh];refine Y _ _ _ ?_ ⟨n1++[y],n2,_,by simp[g],rfl,by simp,rfl,rfl⟩
    have J:=congrArg MI g;have:=p.l1;simp at J ⊢;exact eE (by lia)
  .rintro x L SZ U M' ⟨n1,n2,z,g,u,rfl,rfl,rfl⟩
   have J:=congrArg MI g;have:=p.l1;simp at J ⊢;exact eE (by lia)
 .have H:(bp c SS rows nums).1=false:=e
  simp![mY,lf4];refine⟨aR (by decide),⟨_,f _,?_⟩⟩
  have:=h k.ls w;unfold dh at this;rw[if_neg (by rw[H];simp)]at this
  exact this
end
structure Pt where
 p:eH
 q:eH
 ne:p≠q
def Has(k:Pt)(M:Mem):Prop:=∃(cells:S9)(t h sd:Int),cells.length<=63/\M k.p=cb (.lst [.ref k.q,.int t,.int h,.int sd])/\M k.q=cb (.lst<|cells.map D.int)
def Dr(k:Pt)(M M':Mem):Prop:=Has k M'/\∀b,b≠k.p->b≠k.q->M' b=M b
theorem Has.refl{k:Pt}(h:Has k M):Dr k M M:=⟨h,by lia⟩
theorem Dr.trans{k:Pt}(a:Dr k M M1)(b:Dr k M1 M2):Dr k M M2:=⟨b.1,λx e f=>(b.2 x e f).trans (a.2 x e f)⟩
theorem Has.nep{k:Pt}(h:Has k M)(f:M l=ed):l≠k.p/\l≠k.q:=by
 obtain⟨a,t,hh,sd,_,b,e⟩:=h;exact⟨by lia,by lia⟩
theorem Has.upd{k:Pt}{o:MO}(h:Has k M)(b:l≠k.p/\l≠k.q):Has k (M.upd l o):=by
 obtain⟨a,t,hh,sd,f,e,g⟩:=h;exact⟨_,t,hh,sd,f,by rw[ah (MJ b.1)];exact e,by rw[ah (MJ b.2)];exact g⟩
theorem Has.del{k:Pt}(h:Has k M)(b:l≠k.p/\l≠k.q):Has k (M.del l):=by
 obtain⟨a,t,hh,sd,f,e,g⟩:=h;exact⟨_,t,hh,sd,f,by unfold Mem.del;rw[if_neg (MJ b.1)];exact e,by unfold Mem.del;rw[if_neg (MJ b.2)];exact g⟩
theorem Dr.none{k:Pt}(b:Has k M)(h:Dr k M M')(a:M l=ed):M' l=none:=by
 have:=b.nep a;rw[h.2 l this.1 this.2];exact a
theorem nB:∀(n:Nat)(a:S9),fits n (a.map D.int)=true
 |_,[]=>by rfl
 |n,c::a=>by
  rw[Ms];unfold fits;rw[nB n a];rfl
theorem gL{a b:Int}(h:∀r,Q (.int r) M):uL ad [.int a,.int b] M Q E:=by
 simp![u_q9,D6];refine⟨.inr (by decide),.inr (by decide),by decide,by trivial,.inr (by decide),by decide,by trivial,aq<|h _⟩
theorem Al{a:Type}{x:a}{xs:List a}:atI (x::xs) 0=cb x:=by rw[atI_0];rfl
theorem sm{a:Int}(h:0<m):0<=a % m/\a % m<m:=⟨OZ _ (by lia),Ob _ h⟩
theorem FS{i:Int}(h:0<=i)(h2:i<n):wJ n i=cb i.toNat:=by unfold wJ;simp_all
theorem ix0:wJ (n+1) 0=cb 0:=FS (by decide) (by lia)
theorem KZ:wJ 4 2=cb 2:=rfl
theorem bS{s u:az}(h:s { D0 with nx:=u D0 } U M):al s u D0 U M:=h
theorem BV{k:Pt}{t:Int}(a:U[0]?=cb (cb<|.ref k.p))(b:M k.p=cb (.lst [.ref k.q,.int t,.int hh,.int sd]))(h:D0.nx U (M.upd k.p<|.lst [.ref k.q,.int (t+1),.int hh,.int sd])):
  ap (aj aF (aj av (ac 0)<|dC<|.int 1)<|dC<|.int 1) (gK (ac 0)<|dC<|.int 1) D0 U M:=by
 simp![a,b,atI_1];exact h
theorem vy{k:Pt}{t:Int}{h:Option D}(a:0<SV)(u:SV<2 ^ 62)(o:M k.p=cb (.lst [.ref k.q,.int t,.int hh,.int sd]))(g:∀r,D0.rt (.int<|r % SV) M)(f:D0.rt (.int<|hh % SV) (M.upd k.p<|.lst [.ref k.q,.int t,.int (hh / SV),.int sd])):
  (al (aA (ao<|aj bY (aj av (ac 0)<|dC<|.int 2)<|dC<|.int 0) (aw<|aj fN (am<|ak (uL ad) EE 2<|aa (aj av (ac 0)<|dC<|.int 3)<|aa (aj av (ac 0)<|dC<|.int 1) ae)<|ac 1) ay)
  (al (ap (aj fN (aj av (ac 0)<|dC<|.int 2)<|ac 1)<|af 3)
  (al (ap (aj nk (aj av (ac 0)<|dC<|.int 2)<|ac 1)<|gK (ac 0)<|dC<|.int 2)
  (aw<|ac 3)))) D0 [cb (.ref k.p),cb (.int SV),h,ed] M:=by
 simp![o,atI_2]
 by_cases b:hh=0
 .rw[if_pos b]
  exact au λQ' E' e _=>gL λr=>e _ _ ⟨a,g r⟩
 rw[if_neg b];exact⟨a,⟨a,by lia⟩,f⟩
theorem CI{k:Pt}{t:Int}{cells:S9}(y:0<SV)(f:M k.p=cb (.lst [.ref k.q,.int t,.int hh,.int sd]))(o:M k.q=cb (.lst<|cells.map D.int))(h:D0.nx [cb (.ref k.p),cb (.int SV),ed,ed] M)(z:∀c cs,hh=0->cells=c::cs->∀r,D0.rt (.int<|r % SV) (M.upd k.q<|.lst<|cs.map D.int))(B:∀c cs,hh=0->cells=c::cs->¬c<10 ^ Int.toNat 18->D0.nx [cb (.ref k.p),cb (.int SV),cb (.int c),ed] ((M.upd k.q<|.lst<|cs.map D.int).upd k.p<|.lst [.ref k.q,.int t,.int c,.int sd])):
  aA (g7 (ao<|aj bY (aj av (ac 0)<|dC<|.int 2)<|dC<|.int 0)<|ao<|aj kb (aj av (ac 0)<|dC<|.int 0)<|am<|bA ae) (al (ap (fH "list" Be (aj av (ac 0)<|dC<|.int 0)<|aa (dC<|.int 0) ae)<|af 2)
   (al (aA (ao<|aj xM (ac 2)<|aj GE (dC<|.int 10)<|dC<|.int 18) (aw<|aj fN (am<|ak (uL ad) EE 2<|aa (ac 2)<|aa (aj av (ac 0)<|dC<|.int 1) ae)<|ac 1) ay)
   (ap (ac 2)<|gK (ac 0)<|dC<|.int 2))) ay D0 [cb (.ref k.p),cb (.int SV),ed,ed] M:=by
 have b:=k.ne;simp![f,atI_2,Al]
 by_cases a:hh=0
 .rw[if_pos a]
  refine⟨aR (by decide),λp u=>?_⟩
  simp only[Mem.upd_del,ar u,o];cases cells with
  |nil=>
   simp![];exact h
  |cons c cs=>
   have w:∀g,(M.upd k.q g) k.p=cb _:=λg=>by rw[ah b,f]
   simp![Al,f,o,w,nB,ix0,KZ,List.eraseIdx_zero,List.tail_cons,atI_1,atI_2,atI_3];refine⟨⟨by decide,by decide,by decide⟩,?_⟩
   by_cases e:c<10 ^ Int.toNat 18
   .rw[if_pos e]
    refine au λQ' E' x _=>gL λr=>x _ _ ?_;simp![];exact⟨y,z c cs a rfl r⟩
   .rw[if_neg e]
    exact B c cs a rfl e
 .rw[if_neg a]
  exact h
theorem iw{k:Pt}(R:Has k M)(z:0<SV)(G:SV<2 ^ 62)(h:∀r M',0<=r->r<SV->Dr k M M'->Q (.int r) M'):
  aZ ad [.ref k.p,.int SV] M Q E:=by
 obtain⟨g,t,hh,sd,w,J,L⟩:=R;have a:=k.ne;have f:∀(r:Int)(M':Mem)(cells':List _)(F y x:Int),cells'.length<=63->(∀b,b≠k.p->b≠k.q->M' b=M b)->M' k.p=cb (.lst [.ref k.q,.int F,.int y,.int x])->M' k.q=cb (.lst<|cells'.map D.int)->drp Q (.int<|r % SV) M':=by
  intro r M' cells' F y x P O N H;exact aq (h _ _ (sm z).1 (sm z).2 ⟨⟨_,F,_,_,P,N,H⟩,O⟩)
 have g1:∀o,(M.upd _ o) _=cb _:=λo=>by rw[ah (MJ a)];exact L
 refine bS (BV rfl J ?_);refine bS (CI z Mem.upd_same (g1 _) ?_ (λc B I C r=>?_) λc B I C S=>?_)
 .exact vy z G Mem.upd_same (λr=>(f _ _ g _ _ _ w (λb e u=>ah e) Mem.upd_same<|g1 _)) (f _ _ g _ _ _ w (λb e u=>by rw[ah e,ah e]) Mem.upd_same<|by rw[ah (MJ a),g1])
 .subst C
  exact f _ _ B _ _ _ (by simp at w;lia) (λb e u=>by rw[ah u,ah e]) (by rw[ah a,Mem.upd_same]) Mem.upd_same
 .subst C
  exact vy z G Mem.upd_same (λr=>(f _ _ B _ _ _ (by simp at w;lia) (λb e u=>by rw[ah e,ah u,ah e]) Mem.upd_same<|by rw[ah (MJ a),Mem.upd_same])) (f _ _ B _ _ _ (by simp at w;lia) (λb e u=>by rw[ah e,ah e,ah u,ah e]) Mem.upd_same<|by rw[ah (MJ a),ah (MJ a),Mem.upd_same])
theorem du{xs:List D}{k:Nat}:dE xs ed (cb (k:Int))=xs.take k:=by
 unfold dE;rw[HT.kz,HT.wK]
 simp_all
theorem xh{xs:List D}{k:Nat}:dE xs (cb (k:Int)) ed=xs.drop k:=by
 unfold dE;rw[HT.kz,HT.wK];rcases Nat.le_total k _ with h|h
 .rw[Nat.min_eq_left h,Oc (by simp)]
 simp_all
theorem zj{o:S9}(h:∀(k:Pt) M',Has k M'->(∀b,b≠k.p->b≠k.q->M' b=M b)->Q (.ref k.p) M'):u_ ad [.ml (o.map D.int)] M Q E:=by
 have g:dE (o.map D.int) ed (cb 63)=(o.take 63).map D.int:=by rw[List.map_take];exact du
 simp![KP,xt,cK,g];intro a B;refine br (λz U M'=>∃(f:List _)(sd:Int)(u:Option D),z=f.map _/\U=[cb _,cb (.int sd),u]/\M'=M) (λ_ _ _ _=>aG) ?_ ?_ _ _ _ ⟨_,7,_,rfl,rfl,by rw[Mem.upd_del,ar B]⟩
 .rintro U M' ⟨f,sd,u,_,rfl,rfl⟩
  simp![g];intro b G;rw[Mem.upd_del,ar G];intro q I;refine⟨by trivial,λp H=>?_⟩
  have ne:p≠q:=by intro e;simp_all
  refine aq (h ⟨p,q,ne⟩ _ ⟨o.take 63,0,0,sd,by simp;lia,Mem.upd_same,?_⟩ λb F C=>?_)
  .rw[ah (MJ ne),Mem.upd_same]
  rw[ah F,ah C]
 rintro x z U M' ⟨f,sd,u,y,rfl,rfl⟩ D' w _ _ _
 cases f with
 |nil=>simp at y
 |cons c f=>
  simp at y;obtain⟨rfl,rfl⟩:=y;simp![];exact⟨.inr (by decide),by decide,w _ _<|by lia⟩
noncomputable def alpha:Str:="abcdefghijklmnopqrstuvwxyz"
theorem zR:∀i<26,alpha.cps.toList[i]?=cb (97+i):=by decide +kernel
theorem xC:alpha.length<=sizeLine:=My (show alpha.length<=100 by trivial) (by decide)
theorem sH{t:Nat}(g:SS.length<=12)(h:∀(j:Nat)(b:j<SS.length),SS[j].cps[0]?=cb (97+(t+7*j) % 26)):SS.Nodup:=by
 refine NB.mpr λi j f b a e=>?_
 grind
def mU(x:Str):Prop:=∃(n c:Nat),1<=n/\n<=8/\97<=c/\c<=122/\x=⟨ND n c⟩
theorem LO(h:Q (.int v) M):frz (.int v) M Q:=h
theorem tG{D':DEnds}{k:Pt}{t:Nat}{SZ:S_}{g z:Option D}(B:Has k M)(f:M l=cb (.lst<|SZ.map D.str))(o:l≠k.p/\l≠k.q)(C:SZ.length<=12)(h:∀(r:Int)(M2:Mem),0<=r->r<8->Dr k M M2->D'.nx [cb (.ref k.p),g,cb (.int (t:Nat)),cb (.ref l),cb (.int (j:Nat)),cb (.str ⟨#[97+(t+7*j) % 26]⟩)] (M2.upd l<|.lst (SZ.map D.str++[.str ⟨ND (1+r).toNat (97+(t+7*j) % 26)⟩]))):
  ko ad EE D' [cb (.ref k.p),g,cb (.int (t:Nat)),cb (.ref l),cb (.int (j:Nat)),z] M:=by
 have a:atI alpha.cps.toList (((t:Int)+7*(j:Nat)) % 26)=cb (97+(t+7*j) % 26):=by
  have:((t:Int)+7*(j:Nat)) % 26=((t+7*j) % 26:Nat):=by lia
  rw[this,bG (by lia),MZ,zR _ (by lia)]
 simp[alpha]at a;unfold ko;generalize u:k9 ad EE=K;simp only[al,ap,aj,dC,ac,af,Mu,dt,Ma,h_,aF,fN,oI,av,aE,a];refine⟨.inl (by decide),by decide,xC,?_⟩
 rw[<- u];unfold k9;simp only[a_,fH,ac,aa,ae,aj,dC,am,dt,Ma,bV,f];refine⟨trivial,rfl,au λQ' E' w _=>iw B (by decide) (by decide) λr M2 x y e=>w _ _ (LO ?_)⟩
 have b:M2 l=cb (.lst<|SZ.map D.str):=by rw[e.2 l o.1 o.2];exact f
 simp only[aF,h_,bt,b];exact⟨by lia,by lia,by simp;exact eE (by lia),h r M2 x y e⟩
theorem uG{k:Pt}{SV:Nat}(hp:Has k M)(h1:SV<=12)(h:∀(SS:S_)(M':Mem),SS.length=SV->SS.Nodup->(∀x∈SS,mU x)->Dr k M M'->Q (.tup<|SS.map D.str) M'):wU ad [.ref k.p,.int SV] M Q E:=by
 rw[JD];unfold vJ;generalize H:kh ad (aB E)=K3;refine⟨rfl,au λQ' E' W _=>iw hp (by decide) (by decide) λO M1 Y t1 B=>W _ _ (LO ?_)⟩
 simp only[af,Mu,bA,ae];refine⟨aR (by decide),λl R=>?_⟩
 have f:=B.1.nep R;obtain⟨t,rfl⟩:=OM Y;rw[<- H];unfold kh;refine⟨by lia,by lia,?_⟩
 refine br (λS U M'=>∃(j:Nat)(SZ:S_)(G F:Option D),j<=SV/\S=(List.range' j (SV-j)).map (λ(i:Nat)=>D.int (0+(i:Int)))/\U=[cb (.ref k.p),cb (.int (SV:Nat)),cb (.int (t:Nat)),cb (.ref l),G,F]/\SZ.length=j/\(∀(i:Nat)(z:i<SZ.length),SZ[i].cps[0]?=cb (97+(t+7*i) % 26))/\(∀x∈SZ,mU x)/\
  Has k M'/\M' l=cb (.lst<|SZ.map D.str)/\∀b,b≠k.p->b≠k.q->b≠l->M' b=M1 b) (λ_ _ _ _=>aG) ?_ ?_ _ _ _ ⟨0,[],ed,ed,Nj _,?_,rfl,rfl,?_,by simp,B.1.upd f,Mem.upd_same,λb _ _ hb=>ah hb⟩
 .rintro U M' ⟨j,SZ,G,F,T,e,rfl,y,L,a,hh,I,J⟩
  have:j=SV:=by
   have:=congrArg MI e;simp at this;lia
  subst this;simp only[aw,bn,aa,ac,ae,dt,Ma,bP,dg,I];refine⟨M'.del l,λb o e=>?_,h SZ _ y (sH (by lia) L) a ⟨hh.del f,λb u g=>?_⟩⟩
  .unfold Mem.del at e;split at e
   .cases e
   .exact e
  .unfold Mem.del
   split
   .rename_i e;subst e;rw[<- B.2 b u g];exact R.symm
   .rename_i e;rw[J b u g e,B.2 b u g]
 .rintro x S U M' ⟨j,SZ,G,F,T,e,rfl,y,L,a,hh,I,J⟩ D' C _ _ _
  have X:j<SV:=by
   have:=congrArg MI e;simp at this;lia
  obtain⟨n,Z⟩:∃n,SV-j=n+1:=⟨SV-j-1,by lia⟩
  rw[Z,List.range'_succ,Ms,MH]at e;obtain⟨rfl,rfl⟩:=e;rw[Int.zero_add];unfold af;dsimp only[Mu];refine tG hh I f (by lia) λr M2 r0 r1 N=>C _ _ ⟨j+1,SZ++[⟨ND (1+r).toNat (97+(t+7*j) % 26)⟩],_,_,by lia,?_,rfl,by simp[y],?_,?_,N.1.upd f,?_,?_⟩
  .rw[show SV-(j+1)=n by lia]
  .intro i z
   by_cases w:i<SZ.length
   .rw[List.getElem_append_left w];exact L i w
   .have:i=SZ.length:=by simp at z;lia
    subst this;rw[List.getElem_append_right (Mo _)];simp only[Nat.sub_self,List.getElem_cons_zero];rw[Array.getElem?_replicate,if_pos (by lia),y]
  .intro x hx
   rcases Ml.mp hx with hx|hx
   .exact a x hx
   .simp at hx;subst hx
    exact⟨(1+r).toNat,97+(t+7*j) % 26,by lia,by lia,by lia,by lia,rfl⟩
  .rw[Mem.upd_same];simp
  .intro b u g P
   rw[ah P,N.2 b u g,J b u g P]
 .simp[gT,List.range_eq_range']
 .intro i z;simp at z
@[simp] theorem atI_5 {α:Type} {xs:List α}:atI xs 5=xs[5]?:=bG (by decide)
@[simp] theorem atI_6 {α:Type} {xs:List α}:atI xs 6=xs[6]?:=bG (by decide)
@[simp] theorem atI_7 {α:Type} {xs:List α}:atI xs 7=xs[7]?:=bG (by decide)
@[simp] theorem atI_8 {α:Type} {xs:List α}:atI xs 8=xs[8]?:=bG (by decide)
theorem jF{r:Int}(b:0<=r)(e:r<SS.length):∃y,y∈SS/\atI (SS.map D.str) r=cb (.str y):=by
 have a:r.toNat<SS.length:=by lia
 refine⟨_,OG a,?_⟩;rw[bG b,Mv,Mj a];rfl
structure ToldOk(SS:S_)(m SV:Int):Prop where
 m2:2<=m
 m1:m<=997
 n0:0<SS.length
 n1:SS.length<=12
 k0:0<=SV
 k1:SV<=40
noncomputable def cF(SS:S_)(m SV:Int):D:=.tup [.int m,.tup (SS.map D.str),.int SV]
theorem aM{b:BxQ EE Q}{k:Pt}(f:Has k M)(e:0<SV)(g:SV<2 ^ 62)(h:∀r M',0<=r->r<SV->Dr k M M'->Q (.int r) M'):calls (aZ ad) EE [.ref k.p,.int SV] M Q b:=
 au λQ' E' a _=>iw f e g λr M' o q d=>a _ _ (by simp_all)
section
variable{k:Pt}
theorem Ia(h:te U M λd M1=>D0.nx (U.set i<|some d) M1):ap te (af i) D0 U M:=h
theorem zV{d:D}(h:U[i]?=cb (cb d))(a:K d M):ac i U M K:=by simp[ac,h];exact a
theorem uS{w c:Str}{B:az}(a:U[i]?=cb (cb<|.str w))(b:w=c->A D0 U M)(h2:w≠c->B D0 U M):aA (ao<|aj bY (ac i)<|dC<|.str c) A B D0 U M:=by
 have e:aA (ao<|aj bY (ac i)<|dC<|.str c) A B D0 U M=(if w=c then A D0 U M else B D0 U M):=by
  simp[aA,ao,aj,ac,dC,bY,bX,dv,aH,a]
 rw[e]
 by_cases q:w=c
 .rw[if_pos q];exact b q
 rw[if_neg q];exact h2 q
theorem Hk(a:U[0]?=cb (cb<|.ref k.p))(b:∀K:DK,K (.int v) M->te U M K)(e:Has k M)(v0:0<v)(v1:v<2 ^ 62)(h:∀r M',0<=r->r<v->Dr k M M'->K (.int r) M'):
  ak (aZ ad) EE 2 (aa (ac 0)<|aa te ae) U M K:=by
 simp only[ak,aa,ac,ae,a];refine b _ ?_;exact⟨rfl,aM e v0 v1 h⟩
theorem Ei(h:te U M λd M'=>frz d M' K):am te U M K:=h
theorem F1(h0:U[0]?=cb (cb<|.ref k.p))(ht:∀K:DK,K (.int v) M->te U M K)(hp:Has k M)(v0:0<v)(v1:v<2 ^ 62)(h:∀r M',0<=r->r<v->Dr k M M'->K (.int r) M'):
  am (ak (aZ ad) EE 2<|aa (ac 0)<|aa te ae) U M K:=
 Ei (Hk h0 ht hp v0 v1<|by trivial)
theorem IK(u:U[0]?=cb (cb<|.ref k.p))(e:U[i]?=cb (cb<|.tup<|SS.map D.str))(w:Has k M)(y:0<SS.length)(n1:SS.length<=12)(h:∀x M',x∈SS->Dr k M M'->K (.str x) M'):
  aj av (ac i) (am<|ak (aZ ad) EE 2<|aa (ac 0)<|aa (bn bC<|aa (ac i) ae) ae) U M K:=by
 have o:∀K:DK,K (.int SS.length) M->bn bC (aa (ac i) ae) U M K:=λK f=>by
  simp![e,Mc];exact f
 simp only[aj];refine zV e (F1 u o w (by lia) (by lia) λr M' a b d=>?_)
 obtain⟨x,g,q⟩:=jF a b;simp![q];exact h x M' g d
theorem HA{a b:D}(f:U[i]?=cb (cb a))(e:U[j]?=cb (cb b))(h:te U M λd M'=>3<=sizeLine/\D0.rt (.tup [a,b,d]) M'):aw (ax<|aa (ac i)<|aa (ac j)<|aa te ae) D0 U M:=by
 simp[aw,ax,aa,ac,f,e];exact h
theorem ret4{a b c:D}{l:Nat}(g:U[i]?=cb (cb a))(f:U[j]?=cb (cb b))(e:U[l]?=cb (cb c))(h:te U M λd M'=>4<=sizeLine/\D0.rt (.tup [a,b,c,d]) M'):aw (ax<|aa (ac i)<|aa (ac j)<|aa (ac l)<|aa te ae) D0 U M:=by
 simp[aw,ax,aa,ac,g,f,e];exact h
theorem Di{a:Option D}{s:Dl}(h:D0.nx (a::cb (cF SS m SV)::cb (.int m)::cb (.tup<|SS.map D.str)::cb (.int SV)::s) M){b c d:Option D}:
  ap (ac 1) (bL 3<|aD (af 2)<|aD (af 3)<|aD (af 4) bM) D0 (a::cb (cF SS m SV)::b::c::d::s) M:=by
 trivial
end
noncomputable def waysL:List Str:=["put","sum","by","less","same","sum","put","take","pick"]
def FE(SV:Int)(w:Str):Prop:=w="put"\/(w="sum"\/w="by"\/w="less"\/w="same")\/(0<SV/\(w="take"\/w="pick"))
section
variable{k:Pt}
theorem Ee(h:D0.nx (U.set 5<|some<|.lst<|waysL.map D.str) M):
  ap (am<|bA<|aa (dC<|.str "put")<|aa (dC<|.str "sum")<|aa (dC<|.str "by")<|aa (dC<|.str "less")<|aa (dC<|.str "same")<|aa (dC<|.str "sum")<|aa (dC<|.str "put")<|aa (dC<|.str "take")<|aa (dC<|.str "pick") ae) (af 5) D0 U M:=by
 simp![];refine⟨by trivial,λp a=>?_⟩
 rw[Mem.upd_del,ar a];exact h
theorem Gx(r:Nat)(b:r<if 0<SV then 9 else 7):∃w,atI (waysL.map D.str) (r:Int)=cb (.str w)/\FE SV w:=by
 have a:r<9:=by lia
 have e:r=0\/r=1\/r=2\/r=3\/r=4\/r=5\/r=6\/r=7\/r=8:=by lia
 rcases e with rfl|rfl|rfl|rfl|rfl|rfl|rfl|rfl|rfl
 .exact⟨_,rfl,.inl rfl⟩
 .exact⟨_,rfl,.inr<|by lia⟩
 .exact⟨_,rfl,.inr<|by lia⟩
 .exact⟨_,rfl,.inr<|by lia⟩
 .exact⟨_,rfl,.inr<|by lia⟩
 .exact⟨_,rfl,.inr<|by lia⟩
 .exact⟨_,rfl,.inl rfl⟩
 .exact⟨_,rfl,.inr<|by lia⟩
 exact⟨_,rfl,.inr<|by lia⟩
theorem Kd(g:U[0]?=cb (cb<|.ref k.p))(q:U[4]?=cb (cb<|.int SV))(o:U[5]?=cb (cb<|.lst<|waysL.map D.str))(u:Has k M)(h:∀w M',FE SV w->Dr k M M'->K (.str w) M'):
  aj av (ac 5) (am<|ak (aZ ad) EE 2<|aa (ac 0)<|aa (oX (ao<|aj sS (ac 4)<|dC<|.int 0) (dC<|.int 9)<|dC<|.int 7) ae) U M K:=by
 have e:∀K:DK,K (.int (if 0<SV then 9 else 7)) M->oX (ao<|aj sS (ac 4)<|dC<|.int 0) (dC<|.int 9) (dC<|.int 7) U M K:=λK x=>by
  simp![q];lia
 refine zV o (F1 g e u (by lia) (by split<;>decide) λr M' a b d=>?_)
 obtain⟨r,rfl⟩:=OM a;obtain⟨w,f,y⟩:=Gx (SV:=SV) r (by split at b<;>(split<;>lia))
 simp![f]
 simp_all
end
theorem qH{k:Pt}(L:Has k M)(N:ToldOk SS m SV)(h:∀(r:Rw) M',eD SS m SV r->Dr k M M'->Q r.d M'):o8 ad [.ref k.p,cF SS m SV] M Q E:=by
 obtain⟨R,P,o,n1,O,S⟩:=N;rw[KO];refine bS (Di ?_);dsimp only;refine bS (Ee ?_);dsimp only;refine bS (Ia (Kd rfl rfl rfl L λw M1 u d1=>?_));dsimp only;refine bS (Ia (IK rfl rfl d1.1 o n1 λx M2 f d2=>?_));dsimp only;refine bS (uS rfl (λe=>?_) λg=>?_)
 .subst e
  exact HA rfl rfl (Hk rfl (λK q=>zV rfl q) d2.1 (by lia) (by lia) λr M3 a b d3=>⟨aR (by decide),aq<|h (.put x r) M3 ⟨f,a,b⟩<|d1.trans<|d2.trans d3⟩)
 dsimp only[ay];refine bS (uS rfl (λe=>?_) λH=>?_)
 .subst e
  have C:0<SV:=by
   rcases u with e|(e|e|e|e)|e
   .exact(g e).elim
   .exact absurd e (by decide +kernel)
   .trivial
   .exact absurd e (by decide +kernel)
   .trivial
   .exact e.1
  refine HA rfl rfl (Hk rfl (λK q=>zV rfl q) d2.1 (by lia) (by lia) λr M3 a b d3=>?_)
  exact⟨aR (by decide),aq<|h (.take x r) M3 ⟨f,a,b⟩<|d1.trans<|d2.trans d3⟩
 dsimp only[ay];refine bS (Ia (IK rfl rfl d2.1 o n1 λy M3 B d3=>?_));dsimp only;refine bS (uS rfl (λe=>?_) λF=>?_)
 .subst e
  have C:0<SV:=by
   rcases u with e|(e|e|e|e)|e
   .exact(g e).elim
   .exact absurd e (by decide +kernel)
   .trivial
   .exact absurd e (by decide +kernel)
   .trivial
   .exact e.1
  exact HA rfl rfl (zV rfl ⟨aR (by decide),aq<|h (.pick x y) M3 ⟨f,B,C⟩<|d1.trans<|d2.trans d3⟩)
 dsimp only[ay];have J:w="sum"\/w="by"\/w="less"\/w="same":=by
  rcases u with e|e|⟨_,e|e⟩
  .exact(g e).elim
  .exact e
  .exact(H e).elim
  .exact(F e).elim
 refine ret4 rfl rfl rfl (IK rfl rfl d3.1 o n1 λz M4 G I=>?_);exact⟨aR (by decide),aq<|h (.two w x y z) M4 ⟨J,f,B,G⟩<|d1.trans<|d2.trans<|d3.trans I⟩
mutual
def LnR:Rw->Prop
 |.ifr _ a b=>(a.length<=200/\fj a)/\b.length<=200/\fj b
 |.again _ a=>a.length<=200/\fj a
 |_=>True
def fj:List Rw->Prop
 |[]=>True
 |r::rs=>LnR r/\fj rs
end
theorem LnRs_append:∀{a b:List Rw},fj (a++b)↔fj a/\fj b
 |[],b=>by simp[fj]
 |r::a,b=>by simp[fj,LnRs_append,and_assoc]
mutual
noncomputable def cR:Rw->Nat
 |.ifr _ a b=>1+cRs a+cRs b
 |.again _ a=>1+cRs a
 |.put _ _=>1
 |.take _ _=>1
 |.pick _ _=>1
 |.two _ _ _ _=>1
noncomputable def cRs:List Rw->Nat
 |[]=>0
 |r::rs=>cR r+cRs rs
end
theorem aS:∀{a b:List Rw},cRs (a++b)=cRs a+cRs b
 |[],b=>by simp[cRs]
 |r::a,b=>by simp[cRs,aS];lia
theorem Fx(h:eD SS m SV r):cR r=1:=by
 cases r<;>trivial
def Rv(rm:eH)(M:Mem)(v:Int):Prop:=M rm=cb (.lst [.int v])/\0<=v
def Kp(k:Pt)(rm:eH)(M M':Mem):Prop:=Has k M'/\(∃v:Int,M' rm=cb (.lst [.int v]))/\∀b o,b≠k.p->b≠k.q->b≠rm->M b=cb o->M' b=cb o
theorem Kp.trans{k:Pt}(a:Kp k rm M M1)(b:Kp k rm M1 M2):Kp k rm M M2:=⟨b.1,b.2.1,λx o g f e h=>b.2.2 x o g f e (a.2.2 x o g f e h)⟩
structure Rm(k:Pt)(rm:eH)(M:Mem):Prop where
 h:Has k M
 n1:rm≠k.p
 n2:rm≠k.q
 v:∃v:Int,M rm=cb (.lst [.int v])
theorem Rm.kp{k:Pt}(r:Rm k rm M):Kp k rm M M:=⟨r.h,r.v,by lia⟩
theorem Rm.go{k:Pt}(r:Rm k rm M)(d:Kp k rm M M'):Rm k rm M':=⟨d.1,r.n1,r.n2,d.2.1⟩
theorem Rm.dr{k:Pt}(r:Rm k rm M)(d:Dr k M M'):Kp k rm M M':=⟨d.1,by obtain⟨v,e⟩:=r.v;exact⟨v,by rw[d.2 rm r.n1 r.n2];exact e⟩,λb o f a _ e=>by rw[d.2 b f a];exact e⟩
theorem Rm.new{k:Pt}(r:Rm k rm M)(a:M l=ed)(o:MO):Kp k rm M (M.upd l o):=by
 obtain⟨v,e⟩:=r.v;have b:=Mem.ne e a;exact⟨r.h.upd (r.h.nep a),⟨v,by rw[ah b];exact e⟩,λc o _ _ _ e=>by rw[ah (Mem.ne e a)];exact e⟩
theorem Rm.set{k:Pt}(r:Rm k rm M)(v:Int):Kp k rm M (M.upd rm<|.lst [.int v]):=
 ⟨r.h.upd ⟨r.n1,r.n2⟩,⟨v,Mem.upd_same⟩,λc o _ _ h e=>by rw[ah h];exact e⟩
section
variable{k:Pt}
def PRo(ad:Ad)(k:Pt)(rm:eH)(SS:S_)(m SV:Int)(n:Nat):Prop:=∀(deep:Nat)(most:Int)(M:Mem)(Q:DK)(E:DX),deep<=4->2*(4-deep)+1<=n->0<most->most<=30->Rm k rm M->∀v:Int,Rv rm M v->
 (∀(rs:List Rw)(M':Mem),(∃v',Rv rm M' v'/\(cRs rs:Int)+v'<=v)->aJ SS m SV rs/\fj rs->bd rs+deep<=4->rs.length<=100->Kp k rm M M'->Q (.tup<|ai rs) M')->Rg ad n [.ref k.p,cF SS m SV,.ref rm,.int deep,.int most] M Q E
def PBl(ad:Ad)(k:Pt)(rm:eH)(SS:S_)(m SV:Int)(n:Nat):Prop:=∀(deep:Nat)(M:Mem)(Q:DK)(E:DX),deep<4->2*(4-deep)<=n->Rm k rm M->∀v:Int,Rv rm M v->
 (∀(rs:List Rw)(l:eH)(M':Mem),(∃v',Rv rm M' v'/\(cRs rs:Int)+v'<=v+4)->aJ SS m SV rs/\fj rs->bd rs+deep<=4->rs.length<=3->Kp k rm M M'->M' l=ed->Q (.ref l) (M'.upd l<|.lst<|ai rs))->Rh ad n [.ref k.p,cF SS m SV,.ref rm,.int deep] M Q E
theorem OkRs_append:∀{a b:List Rw},aJ SS m SV (a++b)↔aJ SS m SV a/\aJ SS m SV b
 |[],b=>by simp[aJ]
 |r::a,b=>by simp[aJ,OkRs_append,and_assoc]
theorem ba:∀{a b:List Rw},bd (a++b)=max (bd a) (bd b)
 |[],b=>by simp[bd]
 |r::a,b=>by simp[bd,ba]
theorem aX:∀{a b:List Rw},ai (a++b)=ai a++ai b
 |[],b=>rfl
 |r::a,b=>by simp[ai,aX]
theorem bg:∀{a:List Rw},(ai a).length=a.length
 |[]=>rfl
 |r::a=>by simp[ai,bg]
theorem ul(h:eD SS m SV r):ck SS m SV r:=by
 cases r<;>trivial
theorem Fe(h:eD SS m SV r):hR r=0:=by
 cases r<;>trivial
theorem FY(h:eD SS m SV r):LnR r:=by
 cases r with
 |ifr=>exact h.elim
 |again=>exact h.elim
 |_=>trivial
theorem uI(ht:ToldOk SS m SV)(T:PRo ad k rm SS m SV n):PBl ad k rm SS m SV (n+1):=by
 intro a M Q E hd hn r v L h;obtain⟨m2,m1,n0,n1,k0,k1⟩:=ht;have dd:a+1=(a+1:Nat):=by lia
 simp![Ks,xn,cF,Mc];refine aM r.h (by lia) (by lia) λr1 M1 a1 b1 z=>?_
 have R1:=r.go (r.dr z);have F:Rv rm M1 v:=⟨by rw[z.2 rm r.n1 r.n2];exact L.1,L.2⟩
 obtain⟨x,e,Z⟩:=jF a1 b1;simp![Z];refine au λQ' E' G _=>T (a+1) 5 M1 Q' E' (by lia) (by lia) (by decide) (by decide) R1 v F λfirst M2 I f h2 l2 d2=>G _ _ ?_
 obtain⟨v2,g,I⟩:=I;have R2:=R1.go d2;simp![];refine aM R2.h (by decide) (by decide) λw M3 a3 b3 o=>?_
 have R3:=R2.go (R2.dr o);have b:Rv rm M3 v2:=⟨by rw[o.2 rm r.n1 r.n2];exact g.1,g.2⟩
 simp![dd]
 by_cases S:w<2
 .rw[if_pos S]
  refine au λQ' E' G _=>T (a+1) 5 M3 Q' E' (by lia) (by lia) (by decide) (by decide) R3 v2 b λB M4 N O h4 l4 p=>G _ _ ?_
  obtain⟨v4,H,N⟩:=N;simp![];refine⟨aR (by decide),aR (by decide),λl u=>aq (h [.ifr x _ _] l M4 ⟨v4,H,by simp[cRs,cR];lia⟩ ?_ ?_ (by simp) ((r.dr z).trans<|d2.trans<|(R2.dr o).trans p) u)⟩
  .exact⟨⟨⟨e,f.1,O.1⟩,trivial⟩,⟨⟨by lia,f.2⟩,by lia,O.2⟩,trivial⟩
  simp only[bd,hR];lia
 rw[if_neg S]
 by_cases q:w=2
 .rw[if_pos q]
  refine⟨aR (by decide),aR (by decide),λl u=>aq (h [.again x first] l M3 ⟨v2,b,by simp only[cRs,cR];lia⟩ ?_ ?_ (by simp) ((r.dr z).trans<|d2.trans<|R2.dr o) u)⟩
  .simp only[aJ,ck,fj,LnR];exact⟨⟨⟨e,f.1⟩,trivial⟩,⟨by lia,f.2⟩,trivial⟩
  .simp only[bd,hR];lia
 .rw[if_neg q]
  simp only[Mc];refine aM R3.h (by lia) (by lia) λr4 M4 W b4 p=>?_
  have R4:=R3.go (R3.dr p);obtain⟨y,R,Y⟩:=jF W b4;simp![Y];refine aM R4.h (by split<;>lia) (by split<;>lia) λJ M5 X b5 P=>?_
  have C:J<m:=by split at b5<;>lia
  simp![];refine⟨aR (by decide),aR (by decide),aR (by decide),aR (by decide),aR (by rw[bg];lia),aR (by decide),aR (by decide),λl u=>aq ?_⟩
  have:=h [.put x J,.put y (m-1),.again x (first++[.two "sum" x x y])] l M5 ⟨v2,⟨by rw[P.2 rm r.n1 r.n2,p.2 rm r.n1 r.n2];exact b.1,b.2⟩,by simp only[cRs,cR,aS];lia⟩ ?_ ?_ (by simp) ((r.dr z).trans<|d2.trans<|(R2.dr o).trans<|(R3.dr p).trans<|R4.dr P) u
  .simp only[ai,Rw.d,aX]at this
   exact this
  .simp only[aJ,ck,eD,OkRs_append,fj,LnR,LnRs_append]
   exact⟨⟨⟨e,X,C⟩,⟨R,by lia,by lia⟩,⟨e,f.1,⟨.inl trivial,e,e,R⟩,trivial⟩,trivial⟩,trivial,trivial,⟨by simp;lia,f.2,trivial,trivial⟩,trivial⟩
  .simp only[bd,hR,ba];lia
theorem EG:frz r.d M Q=Q r.d M:=by cases r<;>rfl
theorem xq{c:Int}(h2:U[2]?=cb (cb<|.ref rm))(a:M rm=cb (.lst [.int v]))(h:D0.nx U (M.upd rm<|.lst [.int (v-c)])):
  ap (aj ga (aj av (ac 2)<|dC<|.int 0)<|dC<|.int c) (gK (ac 2)<|dC<|.int 0) D0 U M:=by
 simp![h2,a,Al];exact h
theorem G5{B:az}{deep:Int}(q:U[0]?=cb (cb<|.ref k.p))(h2:U[2]?=cb (cb<|.ref rm))(o:U[3]?=cb (cb<|.int deep))(e:Has k M)(x:M rm=cb (.lst [.int v]))(u:∀M',4<v->deep<4->Dr k M M'->A D0 U M')(f:∀M',Dr k M M'->B D0 U M'):
  aA (g7 (ao<|aj sS (aj av (ac 2)<|dC<|.int 0)<|dC<|.int 4)<|g7 (ao<|aj xM (ac 3)<|dC<|.int 4)<|ao<|aj bY (am<|ak (aZ ad) EE 2<|aa (ac 0)<|aa (dC<|.int 4) ae)<|dC<|.int 0) A B D0 U M:=by
 simp![q,h2,o,x,Al]
 by_cases b:4<v
 .rw[if_pos b]
  by_cases a:deep<4
  .rw[if_pos a]
   refine aM e (by decide) (by decide) λw M2 z y g=>?_
   simp![]
   by_cases h:w=0
   .rw[if_pos h];exact u _ b a g
   rw[if_neg h];exact f _ g
  rw[if_neg a];exact f _ e.refl
 rw[if_neg b];exact f _ e.refl
theorem Dz(h2:U[2]?=cb (cb<|.ref rm))(a:M rm=cb (.lst [.int v]))(b:0<v->A D0 U M)(e:D0.nx U M):
  aA (ao<|aj sS (aj av (ac 2)<|dC<|.int 0)<|dC<|.int 0) A ay D0 U M:=by
 simp![h2,a,Al]
 simp_all
theorem Do(u:U[0]?=cb (cb<|.ref k.p))(w:U[1]?=cb (cb<|cF SS m SV))(z:U[5]?=cb (cb<|.ref l))(x:Has k M)(y:ToldOk SS m SV)(n1:l≠k.p)(n2:l≠k.q)(f:M l=cb (.lst<|ai SZ))(B:SZ.length<=1000)(h:∀(r:Rw) M',eD SS m SV r->Dr k M M'->D0.nx U (M'.upd l<|.lst (ai SZ++[r.d]))):
  a_ (fH "list" bt (ac 5)<|aa (am<|ak (o8 ad) EE 2<|aa (ac 0)<|aa (ac 1) ae) ae) D0 U M:=by
 simp![u,w,z,f];refine au λQ' E' g _=>qH x y λo M3 a e=>g _ _ ?_;have b:M3 l=cb (.lst<|ai SZ):=by rw[e.2 l n1 n2];exact f
 have sz:(ai SZ).length+1<=sizeLine:=by rw[bg];exact eE (by lia)
 rw[EG];simp![b];exact⟨sz,(h _ M3 a e)⟩
theorem Ez(x:PBl ad k rm SS m SV n){deep:Nat}(C:U[0]?=cb (cb<|.ref k.p))(F:U[1]?=cb (cb<|cF SS m SV))(h2:U[2]?=cb (cb<|.ref rm))(z:U[3]?=cb (cb<|.int deep))(I:U[5]?=cb (cb<|.ref l))(y:deep<4)(B:2*(4-deep)<=n)(R:Rm k rm M)(n1:l≠k.p)(n2:l≠k.q)(n3:l≠rm)(H:M l=cb (.lst<|ai SZ))(L:SZ.length<=1000)(G:Rv rm M v)(h:∀(rs:List Rw)(a:eH)(M':Mem),(∃o,Rv rm M' o/\(cRs rs:Int)+o<=v+4)->aJ SS m SV rs/\fj rs->bd rs+deep<=4->rs.length<=3->Kp k rm M M'->M' a=ed->D0.nx (U.set 5<|some<|.ref a) (M'.upd a<|.lst (ai SZ++ai rs))):
  ap (aj aF (ac 5)<|am<|ak (Rh ad n) EE 4<|aa (ac 0)<|aa (ac 1)<|aa (ac 2)<|aa (ac 3) ae) (af 5) D0 U M:=by
 simp![C,F,h2,z,I];refine au λQ' E' w _=>x _ M Q' E' y B R v G λbl J M3 u e hh len3 g b=>w _ _ ?_;simp![Mem.upd_del,ar b,(g.2.2 l _ n1 n2 n3 H)];exact⟨by rw[bg,bg];exact aR (by lia),λa f=>h bl a M3 u e hh len3 g f⟩
structure RInv(k:Pt)(rm:eH)(SS:S_)(m SV:Int)(M:Mem)(v:Int)(deep:Nat)(n j:Nat)(SZ:List Rw)(l:eH)(M':Mem):Prop where
 cv:∃v',Rv rm M' v'/\(cRs SZ:Int)+v'<=v
 hj:n+j<=30
 ha:SZ.length<=3*j
 ok:aJ SS m SV SZ
 ln:fj SZ
 hh:bd SZ+deep<=4
 kp:Kp k rm M M'
 hm:M' l=cb (.lst<|ai SZ)
 n1:l≠k.p
 n2:l≠k.q
 n3:l≠rm
 h0:M l=ed
theorem RInv.len{deep:Nat}(I:RInv k rm SS m SV M v deep n j SZ l M'):SZ.length<=100:=by
 have:=I.hj;have:=I.ha;lia
theorem lE(ht:ToldOk SS m SV)(ih:PBl ad k rm SS m SV n):PRo ad k rm SS m SV (n+1):=by
 intro deep S M Q E hd hn h0 h1 r v0 F h;simp![JG,vY,cK];refine⟨aR (by decide),λl B=>?_⟩
 have R1:=r.go (r.new B<|.lst []);refine aM R1.h h0 (by lia) λcnt M1 a1 b1 d1=>?_
 have y:=r.h.nep B;refine⟨by lia,by lia,?_⟩
 refine br (λxs U M'=>∃(j:Nat)(SZ:List Rw)(l:eH)(Y:Option D),RInv k rm SS m SV M v0 deep xs.length j SZ l M'/\U=[cb (.ref k.p),cb _,cb (.ref rm),cb (.int deep),cb (.int S),cb (.ref l),Y]) (λ_ _ _ _=>aG) ?_ ?_ _ _ _ ⟨0,[],l,ed,⟨⟨v0,⟨?_,F.2⟩,by simp[cRs]⟩,?_,by simp,by trivial,by trivial,by simp only[bd];lia,(r.new B _).trans (R1.dr d1),?_,y.1,y.2,?_,B⟩,rfl⟩
 .rintro U M' ⟨j,SZ,l,Y,I,rfl⟩
  simp![I.hm];exact aq (h SZ M' I.cv ⟨I.ok,I.ln⟩ I.hh I.len I.kp)
 .rintro x xs U M' ⟨j,SZ,l,Y,I,rfl⟩ D' G _ _ _
  have R:=r.go I.kp;have hj:=I.hj;have ha:=I.ha;simp at hj;obtain⟨v,⟨O,W⟩,hcv⟩:=I.cv;refine G5 rfl rfl rfl R.h O (λM2 h4 h5 w=>?_) λM2 w=>?_
  .have H:=I.kp.trans (R.dr w)
   have R2:=r.go H;refine bS (xq rfl (by rw[w.2 rm r.n1 r.n2];exact O) ?_)
   have J:=R2.set (v-4);dsimp only;refine Ez (deep:=deep) (SZ:=SZ) ih rfl rfl rfl rfl rfl (by lia) (by lia) (R2.go J) I.n1 I.n2 I.n3 (by rw[ah I.n3,w.2 l I.n1 I.n2];exact I.hm) (by lia) (v:=v-4) ⟨Mem.upd_same,by lia⟩ λbl L M3 c3 f X len3 k3 q=>?_
   have a:=(H.trans J).trans k3;have R3:=r.go a;have g:=R3.h.nep q;have C:L≠rm:=by
    obtain⟨u,eu⟩:=R3.v;exact λe=>by simp_all
   have T:M L=none:=by
    cases e:M L with
    |none=>rfl
    |some o=>rw[a.2.2 L o g.1 g.2 C e]at q;cases q
   obtain⟨v3,P,c3⟩:=c3;exact G _ _ ⟨j+1,SZ++bl,L,_,⟨⟨v3,⟨by rw[ah (MJ C)];exact P.1,P.2⟩,by rw[aS];lia⟩,by lia,by rw[Mg];lia,OkRs_append.mpr ⟨I.ok,f.1⟩,LnRs_append.mpr ⟨I.ln,f.2⟩,by rw[ba];exact My (Qz (Nat.add_max_add_right ..).symm) (Nat.max_le.mpr ⟨I.hh,X⟩),a.trans (R3.new q _),by rw[Mem.upd_same,aX],g.1,g.2,C,T⟩,rfl⟩
  have H:=I.kp.trans (R.dr w);have R2:=r.go H;have N:M2 l=cb (.lst<|ai SZ):=by rw[w.2 l I.n1 I.n2];exact I.hm
  refine Dz rfl (by rw[w.2 rm r.n1 r.n2];exact O) (λhz=>?_) ?_
  .refine bS (xq rfl (by rw[w.2 rm r.n1 r.n2];exact O) ?_)
   have J:=R2.set (v-1);dsimp only;refine Do (SZ:=SZ) rfl rfl rfl J.1 ht I.n1 I.n2 (by rw[ah I.n3];exact N) (by lia) λZ M3 f d3=>?_
   have a:=(H.trans J).trans ((R2.go J).dr d3);refine G _ _ ⟨j+1,SZ++[Z],l,_,⟨⟨v-1,⟨by rw[ah (MJ I.n3),d3.2 rm r.n1 r.n2,Mem.upd_same],by lia⟩,by rw[aS];simp only[cRs,Fx f];lia⟩,by lia,by rw[Mg,Nz];lia,OkRs_append.mpr ⟨I.ok,by simp only[aJ];exact⟨ul f,trivial⟩⟩,LnRs_append.mpr ⟨I.ln,by simp only[fj];exact⟨FY f,trivial⟩⟩,by rw[ba];simp only[bd,Fe f,Nat.max_zero,Nat.max_self];exact I.hh,?_,by rw[Mem.upd_same,aX];rfl,I.n1,I.n2,I.n3,I.h0⟩,rfl⟩
   refine⟨a.1.upd ⟨I.n1,I.n2⟩,?_,λb o h1 h2 h3 e=>?_⟩
   .obtain⟨u,eu⟩:=a.2.1
    exact⟨u,by rw[ah (MJ I.n3)];exact eu⟩
   .rw[ah (Mem.ne e I.h0)];exact a.2.2 b o h1 h2 h3 e
  .exact G _ _ ⟨j,SZ,l,_,⟨⟨v,⟨by rw[w.2 rm r.n1 r.n2];exact O,W⟩,hcv⟩,by lia,ha,I.ok,I.ln,I.hh,H,N,I.n1,I.n2,I.n3,I.h0⟩,rfl⟩
 .rw[d1.2 rm r.n1 r.n2,ah (λz=>by rw[<- z,F.1]at B;cases B)];exact F.1
 .simp[gT];lia
 .rw[d1.2 l y.1 y.2,Mem.upd_same];rfl
 obtain⟨v,e⟩:=r.v;exact λe'=>by rw[e',e]at B;cases B
theorem iD(b:ToldOk SS m SV):∀n:Nat,PRo ad k rm SS m SV n/\PBl ad k rm SS m SV n
 |0=>⟨λa e M Q E _ h=>by lia,λa M Q E _ h=>by lia⟩
 |n+1=>⟨lE b (iD b n).2,uI b (iD b n).1⟩
end
section
variable{k:Pt}
def Kq(k:Pt)(M M':Mem):Prop:=Has k M'/\∀b o,b≠k.p->b≠k.q->M b=cb o->M' b=cb o
theorem Kq.trans(a:Kq k M M1)(b:Kq k M1 M2):Kq k M M2:=⟨b.1,λx o f e h=>b.2 x o f e (a.2 x o f e h)⟩
theorem Dr.kq(d:Dr k M M'):Kq k M M':=⟨d.1,λb o f a e=>by rw[d.2 b f a];exact e⟩
structure PlG(m SV:Int)(SS:S_)(rows:List Rw)(mk:Str):Prop where
 t:ToldOk SS m SV
 nd:SS.Nodup
 ok:aJ SS m SV rows
 h:bd rows<=4
 cn:cRs rows<=60
 l:rows.length<=100
 ln:fj rows
 mkm:mk∈SS
 one:∀x∈SS,mU x
noncomputable def aW(m SV:Int)(SS:S_)(rows:List Rw)(mk:Str):D:=.tup [.int m,.tup (SS.map D.str),.int SV,.tup (ai rows),.str mk]
theorem y6(v0:0<=v)(v60:v<=60)(hp:Has k M)(h:∀(m SV:Int)(SS:S_)(rows:List Rw)(mk:Str)(M':Mem),PlG m SV SS rows mk->Kq k M M'->Q (aW m SV SS rows mk) M'):vt ad [.ref k.p,.int v] M Q E:=by
 simp![JL,vT];refine aM hp (by decide) (by decide) λx1 M1 a1 b1 d1=>?_
 simp![];refine aM d1.1 (by decide) (by decide) λx2 M2 a2 b2 d2=>?_
 simp![];refine⟨aR (by decide),λp a=>?_⟩
 rw[Mem.upd_del,ar a];refine aM d2.1 (by decide) (by decide) λy M3 a3 b3 d3=>?_
 obtain⟨m,em,m2,m1⟩:∃m:Int,atI [D.int 2,.int 3,.int (2+x1),.int (2+x2)] y=cb (.int m)/\2<=m/\m<=997:=by
  have:y=0\/y=1\/y=2\/y=3:=by lia
  rcases this with rfl|rfl|rfl|rfl
  .exact⟨2,by simp,by lia,by lia⟩
  .exact⟨3,by simp,by lia,by lia⟩
  .exact⟨2+x1,by simp,by lia,by lia⟩
  .exact⟨2+x2,by simp,by lia,by lia⟩
 simp![em];refine⟨aR (by decide),λp a=>?_⟩
 rw[Mem.upd_del,ar a];refine aM d3.1 (by decide) (by decide) λH M4 a4 b4 d4=>?_
 obtain⟨w,ew,w2,w1⟩:∃m:Int,atI [D.int 3,.int 5,.int 12] H=cb (.int m)/\0<m/\m<=12:=by
  have:H=0\/H=1\/H=2:=by lia
  rcases this with rfl|rfl|rfl
  .exact⟨3,by simp,by lia,by lia⟩
  .exact⟨5,by simp,by lia,by lia⟩
  .exact⟨12,by simp,by lia,by lia⟩
 simp![ew];refine aM d4.1 w2 (by lia) λZ M5 a5 b5 d5=>?_
 simp![];obtain⟨nn,O⟩:∃nn:Nat,(1:Int)+Z=nn:=⟨(1+Z).toNat,by lia⟩
 rw[O];refine au λQ' E' N _=>uG d5.1 (by lia) λSS M6 n6 L S d6=>N _ _ ?_
 simp![];refine aM d6.1 (by decide) (by decide) λx7 M7 a7 b7 d7=>?_
 simp![];refine aM d7.1 (by decide) (by decide) λx8 M8 a8 b8 d8=>?_
 simp![];refine⟨aR (by decide),λp a=>?_⟩
 rw[Mem.upd_del,ar a];refine aM d8.1 (by decide) (by decide) λG M9 a9 b9 Y=>?_
 obtain⟨SV,ek,k0,k1⟩:∃m:Int,atI [D.int 0,.int (1+x7),.int x8] G=cb (.int m)/\0<=m/\m<=40:=by
  have:G=0\/G=1\/G=2:=by lia
  rcases this with rfl|rfl|rfl
  .exact⟨0,by simp,by lia,by lia⟩
  .exact⟨1+x7,by simp,by lia,by lia⟩
  .exact⟨x8,by simp,by lia,by lia⟩
 simp![ek];refine⟨aR (by decide),aR (by decide),λrm B=>⟨aR (by decide),λp a=>?_⟩⟩
 rw[Mem.upd_del,ar a];have D9:=d1.trans (d2.trans<|d3.trans<|d4.trans<|d5.trans<|d6.trans<|d7.trans<|d8.trans Y);have f:=Y.1.nep B;have R9:Rm k rm (M9.upd rm<|.lst [.int v]):=⟨Y.1.upd f,f.1,f.2,v,Mem.upd_same⟩;refine aM R9.h (by decide) (by decide) λg M10 a10 b10 u=>?_
 have R10:=R9.go (R9.dr u);obtain⟨C,eo,o0,o1⟩:∃m:Int,atI [D.int 6,.int 12,.int 30] g=cb (.int m)/\0<m/\m<=30:=by
  have:g=0\/g=1\/g=2:=by lia
  rcases this with rfl|rfl|rfl
  .exact⟨6,by simp,by lia,by lia⟩
  .exact⟨12,by simp,by lia,by lia⟩
  .exact⟨30,by simp,by lia,by lia⟩
 simp![eo];have ht:ToldOk SS m SV:=⟨m2,m1,by lia,by lia,k0,k1⟩
 refine au λQ' E' N _=>(iD ht 24).1 0 C M10 Q' E' (by decide) (by decide) o0 o1 R10 v ⟨by rw[u.2 rm f.1 f.2,Mem.upd_same],v0⟩ λrows M11 F q h11 T x=>N _ _ ?_
 obtain⟨v11,z,F⟩:=F;have v110:=z.2;simp![Mc];refine aM x.1 (by lia) (by lia) λx12 M12 P W J=>?_
 obtain⟨mk,I,R⟩:=jF P W;simp![R];refine⟨aR (by decide),aq<|h m SV SS rows mk M12 ⟨ht,L,q.1,by lia,by lia,T,q.2,I,S⟩ ?_⟩
 refine D9.kq.trans (Kq.trans ?_ J.kq);refine⟨x.1,λb o h1 h2 e=>?_⟩;have X:b≠rm:=Mem.ne e B;have:=(R9.dr u).2.2 b o h1 h2 X (by rw[ah X];exact e)
 exact x.2.2 b o h1 h2 X this
theorem uh(G:Has k M)(pl:ToldOk SS m SV)(h:∀(nums a:S9)(M':Mem),nums.length=SS.length->(a.length:Int)=SV->(∀v∈nums,0<=v/\v<m)->(∀v∈a,0<=v/\v<m)->Kq k M M'->Q (b6 nums a) M'):vM ad [.ref k.p,aW m SV SS rows mk] M Q E:=by
 have t1:=pl.m1;have t2:=pl.m2;have t3:=pl.n1;have t4:=pl.k0;have t5:=pl.k1;refine aT (λu SZ U M'=>∃(nums:S9)(f:Option D),u.length+nums.length=SS.length/\SZ=nums.map D.int/\U=[f,cb (.ref k.p),cb (aW m SV SS rows mk)]/\Dr k M M'/\∀v∈nums,0<=v/\v<m) (λ_ _ _ _ _=>aG) ?_ ?_ ?_ _ _ _ _ ⟨[],ed,by simp,rfl,rfl,G.refl,by simp⟩
 .rintro SZ U M' ⟨nums,f,C,rfl,rfl,F,hv⟩
  intro p q;simp![Mem.upd_del,ar q,atI_2];refine⟨by lia,by lia,?_⟩
  refine aT (λu SZ U M'=>∃(e:S9)(f:Option D),u.length+e.length=SV.toNat/\SZ=e.map D.int/\U=[f,cb (.ref k.p),cb (aW m SV SS rows mk)]/\Dr k M M'/\∀v∈e,0<=v/\v<m) (λ_ _ _ _ _=>aG) ?_ ?_ ?_ _ _ _ _ ⟨[],ed,by simp[gT],rfl,rfl,F,by simp⟩
  .rintro SZ U M' ⟨e,f,g,rfl,rfl,o,b⟩
   intro p q;simp![Mem.upd_del,ar q];refine⟨aR (by decide),aq<|h nums e M' (by simpa using C) (by simp at g;lia) hv b o.kq⟩
  .rintro x u SZ U M' ⟨e,f,g,rfl,rfl,o,b⟩ N z _
   simp![aW,atI_0];refine aM o.1 (by lia) (by lia) λr M3 y B w=>?_
   simp![];simp only[Md]at g;refine z _ _ _ (by simp;exact eE (by lia)) ⟨e++[r],_,by simp;lia,by simp,rfl,o.trans w,λv hv=>?_⟩
   rcases Ml.mp hv with hv|hv
   .exact b v hv
   .simp at hv;subst hv;exact⟨y,B⟩
  .rintro x u SZ U M' ⟨e,f,g,rfl,rfl,o,b⟩
   simp at g ⊢;exact eE (by lia)
 .rintro x u SZ U M' ⟨e,f,g,rfl,rfl,o,b⟩ N z _
  simp![aW,atI_0];refine aM o.1 (by lia) (by lia) λr M3 y B w=>?_
  simp![];simp only[Md]at g;refine z _ _ _ (by simp;exact eE (by lia)) ⟨e++[r],_,by simp;lia,by simp,rfl,o.trans w,λv hv=>?_⟩
  rcases Ml.mp hv with hv|hv
  .exact b v hv
  .simp at hv;subst hv;exact⟨y,B⟩
 .rintro x u SZ U M' ⟨e,f,g,rfl,rfl,o,b⟩
  simp at g ⊢;exact eE (by lia)
end
def CJ:Nat->D->Prop
 |_,.non=>True
 |_,.bl _=>True
 |_,.int _=>True
 |_,.str _=>True
 |n+1,.tup xs=>xs.length<=100000/\∀x∈xs,CJ n x
 |n+1,.lst xs=>xs.length<=100000/\∀x∈xs,CJ n x
 |_,_=>False
theorem ci:∀n:Nat,iU (Mh n<|.bl true)=cb (Mh n true)
 |0=>rfl
 |n+1=>by rw[NL,iU,ci n];rfl
theorem dN:(Mh n true).all id=true:=by simp
theorem i1:bN "tuple" "bool"=false:=by rfl
theorem i2:bN "tuple" "int"=false:=by rfl
theorem i3:bN "tuple" "str"=false:=by rfl
theorem i4:bN "tuple" "tuple"=true:=by rfl
theorem i5:bN "tuple" "list"=false:=by rfl
theorem i6:bN "list" "bool"=false:=by rfl
theorem i7:bN "list" "int"=false:=by rfl
theorem i8:bN "list" "str"=false:=by rfl
theorem i9:bN "list" "tuple"=false:=by rfl
theorem i10:bN "list" "list"=true:=by rfl
theorem i11:bN "bool" "bool"=true:=by rfl
theorem i12:bN "int" "bool"=false:=by rfl
theorem i13:bN "int" "int"=true:=by rfl
theorem i14:bN "str" "bool"=false:=by rfl
theorem i15:bN "str" "int"=false:=by rfl
theorem i16:bN "str" "str"=true:=by rfl
theorem t1:tO "bool"=true:=by rfl
theorem t2:tO "int"=true:=by rfl
theorem t3:tO "str"=true:=by rfl
theorem t4:tO "tuple"=true:=by rfl
theorem t5:tO "list"=true:=by rfl
theorem kM:∀xs:List D,qK xs xs=xs.map (λz=>D.tup [z,z])
 |[]=>rfl
 |x::xs=>by
  have:=kM xs;simp[qK]at this ⊢;simp[this]
theorem cY{ad:Ad}:∀(n:Nat)(x:D)(M:Mem)(Q:DK)(E:DX),CJ n x->Q (.bl true) M->Ri ad (n+1) [x,x] M Q E
 |n,x,M,Q,E,u,h=>by
  cases x with
  |non=>simp![nO,gs];exact aq h
  |bl b=>simp![nO,gs,i11,t1,beq_self_eq_true];exact aq h
  |int i=>simp![nO,gs,i12,i13,t1,t2];exact aq h
  |str i=>simp![nO,gs,i14,i15,i16,t1,t2,t3];exact aq h
  |tup xs=>
   cases n with
   |zero=>exact u.elim
   |succ n=>
    obtain⟨I,u⟩:=u;simp![nO,gs,i1,i2,i3,i4,i5,t1,t2,t3,t4,t5,bf];rw[if_neg (by decide),if_neg (by decide),if_neg (by decide)]
    refine aT (λB SZ U M'=>∃(a:List D)(j:Nat)(f g:Option D),B=a.map (λz=>D.tup [z,z])/\(∀z∈a,CJ n z)/\a.length+j<=100000/\SZ=Mh j (.bl true)/\U=[f,g]/\M'=M) (λ_ _ _ _ _=>aG) ?_ ?_ ?_ _ _ _ _ ⟨xs,0,ed,ed,kM xs,u,by omega,rfl,rfl,rfl⟩
    .rintro SZ U M' ⟨a,j,f,g,e,o,F,rfl,rfl,rfl⟩ p C
     simp![Mem.upd_del,ar C,ci,dN];exact aq h
    .rintro y B SZ U M' ⟨a,j,f,g,e,o,F,rfl,rfl,rfl⟩ N G _
     cases a with
     |nil=>simp at e
     |cons z a=>
      simp only[Ms,MH]at e;obtain⟨rfl,rfl⟩:=e;simp only[Md]at F;simp![];refine aK (d:=.bl true) (λQ' E' q=>cY n z M' Q' E' (o z<|Nh ..) q) ?_;simp![];exact G _ _ _ (by simp;exact eE (by omega)) ⟨a,j+1,_,_,rfl,λw H=>o w (MA _ H),by omega,by rw[NG],rfl,rfl⟩
    .rintro y B SZ U M' ⟨a,j,f,g,e,o,F,rfl,rfl,rfl⟩
     simp;exact eE (by omega)
  |lst xs=>
   cases n with
   |zero=>exact u.elim
   |succ n=>
    obtain⟨I,u⟩:=u;simp![nO,gs,i6,i7,i8,i9,i10,t1,t2,t3,t4,t5,bf];rw[if_neg (by decide),if_neg (by decide),if_neg (by decide)]
    refine aT (λB SZ U M'=>∃(a:List D)(j:Nat)(f g:Option D),B=a.map (λz=>D.tup [z,z])/\(∀z∈a,CJ n z)/\a.length+j<=100000/\SZ=Mh j (.bl true)/\U=[f,g]/\M'=M) (λ_ _ _ _ _=>aG) ?_ ?_ ?_ _ _ _ _ ⟨xs,0,ed,ed,kM xs,u,by omega,rfl,rfl,rfl⟩
    .rintro SZ U M' ⟨a,j,f,g,e,o,F,rfl,rfl,rfl⟩ p C
     simp![Mem.upd_del,ar C,ci,dN];exact aq h
    .rintro y B SZ U M' ⟨a,j,f,g,e,o,F,rfl,rfl,rfl⟩ N G _
     cases a with
     |nil=>simp at e
     |cons z a=>
      simp only[Ms,MH]at e;obtain⟨rfl,rfl⟩:=e;simp only[Md]at F;simp![];refine aK (d:=.bl true) (λQ' E' q=>cY n z M' Q' E' (o z<|Nh ..) q) ?_;simp![];exact G _ _ _ (by simp;exact eE (by omega)) ⟨a,j+1,_,_,rfl,λw H=>o w (MA _ H),by omega,by rw[NG],rfl,rfl⟩
    .rintro y B SZ U M' ⟨a,j,f,g,e,o,F,rfl,rfl,rfl⟩
     simp;exact eE (by omega)
  |_=>cases n<;>exact u.elim
section
noncomputable def yp(SS:S_)(r:Bool×Sx):D:=.tup [.lst (rC r.2.steps),dh SS r]
theorem gX{b:BxQ EE λd M'=>uV d M' Q}(p:PlOk c SS rows nums)(h:Q (yp SS<|bp c SS rows nums) M):
  calls (iN ad) EE [aN c SS rows mk,b6 nums c.pieces,.int (c.most:Nat)] M (λd M'=>uV d M' Q) b:=by
 refine au λQ' E' f _=>AO p λl a=>f _ _ ?_;unfold yp dh at h;unfold dh;cases e:(bp c _ _ _).1 with
 |true=>
  rw[e]at h;rw[if_pos rfl];simp![Mem.upd_del,ar a];exact h
 |false=>
  rw[e]at h;rw[if_neg (by simp)]
  simp![Mem.upd_del,ar a];exact h
theorem zM(p:PlOk c SS rows nums):(bp c SS rows nums).2.steps.length<=c.most:=(fF _ [] 0 _).2 (by simp_all)
theorem Cd{r:Bool×Sx}(h:SS.length<=1000):CJ (n+1) (dh SS r):=by
 unfold dh
 split
 .refine⟨by simp;lia,λx a=>?_⟩
  simp at a;obtain⟨y,_,rfl⟩:=a;cases n<;>trivial
 trivial
end
end _T
namespace _T
open PySem _2 _3 _S
variable{ad:Ad}{lp p q wk wv:eH}{b:Bool}{c:Cf}{D0 D2:DEnds}{K Q:DK}{E EE:DX}{U:Dl}{i m SV S0 v:Int}{L:S8}{P hr nums S5 pl wp:S9}{f:List Int->Option Int}{W a a' SZ es os rows rs:List Rw}{SS S6:S_}{T:List qu}{M N:Mem}{okM:Mem->Prop}{j most n room:Nat}{o r:Rw}{mk x y z:Str}{n':c_}
noncomputable def cy:Rw->Bool
 |.pick _ _=>true
 |_=>eP
noncomputable def aQ:Rw->Bool
 |.ifr _ _ _=>true
 |.again _ _=>true
 |_=>eP
noncomputable abbrev Tr:=List Int×Rw×Rw
mutual
noncomputable def eM(pl:S9):Rw->Rw->Option (List Tr)
 |.ifr x a b,o=>match o with
  |.ifr y a' b'=>if x=y then (match cu (pl++[1]) 0 a a',cu (pl++[0]) 0 b b' with
   |some l1,cb l2=>cb (l1++l2)
   |_,_=>ed) else ed
  |_=>ed
 |.again x a,o=>match o with
  |.again y a'=>if x=y then cu (pl++[0]) 0 a a' else ed
  |_=>ed
 |r,o=>if (cy r||cy o||aQ o)=true then ed else cb [(pl,r,o)]
noncomputable def cu(pl:S9):Nat->List Rw->List Rw->Option (List Tr)
 |_,[],os=>match os with
  |[]=>cb []
  |_=>ed
 |j,r::rs,os=>match os with
  |[]=>ed
  |o::os=>match eM (pl++[(j:Int)]) r o,cu pl (j+1) rs os with
   |some l1,cb l2=>cb (l1++l2)
   |_,_=>ed
end
mutual
noncomputable def fP:Rw->Rw->Bool
 |.ifr x a b,o=>match o with
  |.ifr y a' b'=>decide (x=y)&&(bu a a'&&bu b b')
  |_=>eP
 |.again x a,o=>match o with
  |.again y a'=>decide (x=y)&&bu a a'
  |_=>eP
 |r,o=>!(cy r||cy o||aQ o)
noncomputable def bu:List Rw->List Rw->Bool
 |[],os=>os.isEmpty
 |r::rs,os=>match os with
  |[]=>eP
  |o::os=>fP r o&&bu rs os
end
noncomputable def tz(r o:Rw):Bool:=!aH r.d o.d
mutual
noncomputable def bv(pl:S9):Rw->Rw->List (List Int)
 |.ifr _ a b,o=>match o with
  |.ifr _ a' b'=>aV (pl++[0]) 0 b b'++aV (pl++[1]) 0 a a'
  |_=>[]
 |.again _ a,o=>match o with
  |.again _ a'=>aV (pl++[0]) 0 a a'
  |_=>[]
 |r,o=>if tz r o=true then [pl] else []
noncomputable def aV(pl:S9):Nat->List Rw->List Rw->List (List Int)
 |_,[],_=>[]
 |j,r::rs,os=>match os with
  |[]=>[]
  |o::os=>bv (pl++[(j:Int)]) r o++aV pl (j+1) rs os
end
noncomputable def oB(l:List Tr):List (List Int):=(l.filter λt=>tz t.2.1 t.2.2).map (·.1)
theorem wZ{a b:List Tr}:oB (a++b)=oB a++oB b:=by simp[oB]
mutual
theorem Gg:∀(r o:Rw)(pl:S9),(eM pl r o).isSome=fP r o
 |.ifr x a b,o,pl=>by
  have e:=dW a;have g:=dW b;cases o with
  |ifr y a' b'=>
   simp only[eM,fP]
   by_cases c:x=y
   .rw[if_pos c,decide_eq_true c,Bool.true_and,<- e a' (pl++[1]) 0,<- g b' (pl++[0]) 0]
    cases cu (pl++[1]) 0 a a'<;>cases cu (pl++[0]) 0 b b'<;>rfl
   .rw[if_neg c,decide_eq_false c,P9];rfl
  |_=>rfl
 |.again x a,o,pl=>by
  have e:=dW a;cases o with
  |again y a'=>
   simp only[eM,fP]
   by_cases c:x=y
   .rw[if_pos c,decide_eq_true c,Bool.true_and,e]
   .rw[if_neg c,decide_eq_false c,P9];rfl
  |_=>rfl
 |.put x k,o,pl=>by cases o<;>rfl
 |.take x k,o,pl=>by cases o<;>rfl
 |.pick x k,o,pl=>by cases o<;>rfl
 |.two w x y z,o,pl=>by cases o<;>rfl
theorem dW:∀(rs os:List Rw)(pl:S9)(j:Nat),(cu pl j rs os).isSome=bu rs os
 |[],os,pl,j=>by cases os<;>rfl
 |r::rs,os,pl,j=>by
  cases os with
  |nil=>rfl
  |cons o os=>
   simp only[cu,bu];rw[<- Gg r o (pl++[(j:Int)]),<- dW rs os pl (j+1)];cases eM (pl++[(j:Int)]) r o<;>cases cu pl (j+1) rs os<;>rfl
end
mutual
theorem Ek:∀(r o:Rw)(pl:S9)(l:List Tr),eM pl r o=cb l->(oB l).Perm (bv pl r o)
 |.ifr x a b,o,pl,l,h=>by
  have e:=fm a;have h2:=fm b;cases o with
  |ifr y a' b'=>
   simp only[eM]at h
   split at h
   .split at h
    .rename_i s g
     cases h;rw[wZ];exact(QG (e _ _ _ _ s)<|h2 _ _ _ _ g).trans List.perm_append_comm
    .cases h
   .cases h
  |_=>cases h
 |.again x a,o,pl,l,h=>by
  have e:=fm a;cases o with
  |again y a'=>
   simp only[eM]at h
   split at h
   .exact e _ _ _ _ h
   .cases h
  |_=>cases h
 |.put x k,o,pl,l,h=>by
  simp only[eM]at h
  split at h
  .cases h
  .cases h;simp only[bv,oB,OJ,OV];split<;>simp
 |.take x k,o,pl,l,h=>by
  simp only[eM]at h
  split at h
  .cases h
  .cases h;simp only[bv,oB,OJ,OV];split<;>simp
 |.pick x k,o,pl,l,h=>by
  simp only[eM]at h
  split at h
  .cases h
  .cases h;simp only[bv,oB,OJ,OV];split<;>simp
 |.two w x y z,o,pl,l,h=>by
  simp only[eM]at h
  split at h
  .cases h
  .cases h;simp only[bv,oB,OJ,OV];split<;>simp
theorem fm:∀(rs os:List Rw)(pl:S9)(j:Nat)(l:List Tr),cu pl j rs os=cb l->(oB l).Perm (aV pl j rs os)
 |[],os,pl,j,l,h=>by
  cases os with
  |nil=>cases h;exact Pu _
  |cons _ _=>cases h
 |r::rs,os,pl,j,l,h=>by
  cases os with
  |nil=>cases h
  |cons o os=>
   simp only[cu]at h
   split at h
   .rename_i g e
    cases h;rw[wZ];exact QG (Ek r o _ _ g) (fm rs os _ _ _ e)
   .cases h
end
mutual
theorem qp:∀(r o:Rw)(pl:S9)(l:List Tr),eM pl r o=cb l->l.length<=cR r
 |.ifr x a b,o,pl,l,h=>by
  have e:=cU a;have g:=cU b;cases o with
  |ifr y a' b'=>
   simp only[eM]at h
   split at h
   .split at h
    .rename_i s u
     cases h;have B:=e _ _ _ _ s;have A:=g _ _ _ _ u;simp only[Mg,cR];lia
    .cases h
   .cases h
  |_=>cases h
 |.again x a,o,pl,l,h=>by
  have e:=cU a;cases o with
  |again y a'=>
   simp only[eM]at h
   split at h
   .have:=e _ _ _ _ h
    simp only[cR];lia
   .cases h
  |_=>cases h
 |.put x k,o,pl,l,h=>by
  simp only[eM]at h
  split at h
  .cases h
  .cases h;simp[cR]
 |.take x k,o,pl,l,h=>by
  simp only[eM]at h
  split at h
  .cases h
  .cases h;simp[cR]
 |.pick x k,o,pl,l,h=>by
  simp only[eM]at h
  split at h
  .cases h
  .cases h;simp[cR]
 |.two w x y z,o,pl,l,h=>by
  simp only[eM]at h
  split at h
  .cases h
  .cases h;simp[cR]
theorem cU:∀(rs os:List Rw)(pl:S9)(j:Nat)(l:List Tr),cu pl j rs os=cb l->l.length<=cRs rs
 |[],os,pl,j,l,h=>by
  cases os with
  |nil=>cases h;simp[cRs]
  |cons _ _=>cases h
 |r::rs,os,pl,j,l,h=>by
  cases os with
  |nil=>cases h
  |cons o os=>
   simp only[cu]at h
   split at h
   .rename_i g e
    cases h;have s:=qp r o _ _ g;have u:=cU rs os _ _ _ e;simp only[Mg,cRs];lia
   .cases h
end
theorem dJ:∀{rs os:List Rw},bu rs os=true->rs.length=os.length
 |[],os,h=>by cases os with|nil=>rfl|cons _ _=>cases h
 |r::rs,os,h=>by
  cases os with
  |nil=>cases h
  |cons o os=>
   simp[bu]at h;simp[dJ h.2]
noncomputable def fK:Rw->Str
 |.put _ _=>"put"
 |.take _ _=>"take"
 |.pick _ _=>"pick"
 |.two w _ _ _=>w
 |.ifr _ _ _=>"if"
 |.again _ _=>"again"
noncomputable def vR:Rw->Str
 |.put x _=>x
 |.take x _=>x
 |.pick x _=>x
 |.two _ x _ _=>x
 |.ifr x _ _=>x
 |.again x _=>x
noncomputable def GR:Rw->List D
 |.put _ k=>[.int k]
 |.take _ k=>[.int k]
 |.pick _ y=>[.str y]
 |.two _ _ y z=>[.str y,.str z]
 |.ifr _ a b=>[.tup (ai a),.tup (ai b)]
 |.again _ a=>[.tup (ai a)]
theorem fR(r:Rw):r.d=.tup (.str (fK r)::.str (vR r)::GR r):=by cases r<;>rfl
noncomputable def yF:Rw->List D
 |.ifr _ a b=>[.tup (ai a),.tup (ai b)]
 |.again _ a=>[.tup (ai a)]
 |_=>[]
noncomputable def fS:Rw->Bool
 |.ifr _ _ _=>true
 |_=>eP
noncomputable def uo:Rw->Bool
 |.again _ _=>true
 |_=>eP
section
theorem r_{w:Str}(h:ck SS m SV (.two w x y z)):w≠"if"/\w≠"again"/\w≠"pick":=by
 obtain⟨e,_⟩:=h;rcases e with rfl|rfl|rfl|rfl<;>decide +kernel
theorem ny(h:ck SS m SV r):decide (fK r="if")=fS r:=by
 cases r with
 |two w x y z=>exact decide_eq_false (r_ h).1
 |_=>rfl
theorem qM(h:ck SS m SV r):decide (fK r="again")=uo r:=by
 cases r with
 |two w x y z=>exact decide_eq_false (r_ h).2.1
 |_=>rfl
theorem wO(h:ck SS m SV r):decide (fK r="pick")=cy r:=by
 cases r with
 |two w x y z=>exact decide_eq_false (r_ h).2.2
 |_=>rfl
theorem sF(ok:ck SS m SV r)(h:∀p,M p=ed->Q (.ref p) (M.upd p<|.lst<|yF r)):eJ ad [r.d] M Q E:=by
 rw[Lz];unfold vk pK;generalize w:qo ad _=K;generalize s:al _ (aw _)=L;have l:fS r=eP->L { nx:=λ_ M'=>drp Q .non M',rt:=drp Q } [cb r.d] M:=λe=>by
  rw[<- s];generalize u:aw _=G;rw[fR];simp only[al,aA,ao,aj,ac,dC,av,aE,atI_0,bY,dv,aH,bX,dt];rw[(qM ok)];refine⟨trivial,trivial,?_⟩;cases r with
  |ifr x a b=>cases e
  |again x a=>
   rw[<- u];exact⟨aR (by simp),λp g=>aq (h p g)⟩
  |_=>exact⟨by trivial,λp g=>aq (h p g)⟩
 rw[fR]at l ⊢;simp only[al,aA,ao,aj,ac,dC,av,aE,atI_0,bY,dv,aH,bX,dt];rw[(ny ok)];refine⟨trivial,trivial,?_⟩;cases r with
 |ifr x a b=>
  rw[<- w];exact⟨aR (by simp),λp g=>aq (h p g)⟩
 |_=>exact l rfl
theorem bE{l:BxQ EE λd M'=>frz d M' Q}(ok:ck SS m SV r)(h:Q (.lst<|yF r) M):calls (eJ ad) EE [r.d] M (λd M'=>frz d M' Q) l:=
 au λQ' E' e _=>sF ok λp g=>e _ _ (by simp[frz,ar g];exact h)
noncomputable def sO(r o:Rw):Bool:=!cy r&&!cy o&&(!(aQ r||aQ o)||(decide (fK r=fK o)&&decide (vR r=vR o)))
theorem rD(ok:ck SS m SV r)(ok2:ck SS m SV o)(h1:sO r o=true->Q .non M)(h2:sO r o=eP->E ad.C_NoBuild M):C2 ad [r.d,o.d] M Q E:=by
 have w1:=wO ok;have w2:=wO ok2;have hn:=λe=>aq (h1 e);have hx:=λe=>cq (h2 e);rw[u_q0];unfold Eg;generalize hK:pF ad (aB E)=K;generalize hD:({ nx:=λ_ M'=>drp Q .non M',rt:=drp Q }:DEnds)=DD;have t1:cy r=eP->cy o=eP->K DD [cb r.d,cb o.d] M:=λp1 p2=>by
  rw[<- hK,<- hD];unfold pF;have eS:sO r o=(!(aQ r||aQ o)||(decide (fK r=fK o)&&decide (vR r=vR o))):=by unfold sO;simp_all
  have cmp:∀K:Bool->Mem->Prop,K _ M->ao (aj kb (am<|fO (ac 0) aI<|bj<|dC<|.int 2)<|am<|fO (ac 1) aI<|bj<|dC<|.int 2) [cb r.d,cb o.d] M K:=λK q=>by
   rw[fR r,fR o];have e2:∀(a b:D)(l:List D),dE (a::b::l) ed (cb 2)=[a,b]:=λa b l=>du;simp only[ao,aj,am,fO,ac,aI,bj,dC,yE,e2,frz,Ma,dt];refine⟨rfl,rfl,?_⟩;simp only[dv,aH,cz,Pe];exact q
  generalize hC:ao _=CC at cmp ⊢;simp only[aA,g7,jD,bR,am,ak,aa,ac,ae,Ma,dt];have fin:(aQ r||aQ o)=true->CC _ M (λb M1=>if b=true then eF _ (aB E) (by trivial) [cb r.d,cb o.d] M1 else ay { nx:=λ_ M'=>drp Q .non M',rt:=drp Q } [cb r.d,cb o.d] M1):=λe=>by
   refine cmp _ ?_;rw[e]at eS;rw[Np,Ql]at eS;rw[<- eS];cases c:sO r o with
   |true=>exact hn c
   |false=>exact hx c
  refine⟨rfl,bE ok ?_⟩;have tr:∀q:Rw,yJ M (.lst<|yF q)=cb (aQ q):=λq=>by cases q<;>rfl
  simp only[tr];cases c1:aQ r with
  |true=>
   rw[c1]at fin;exact fin rfl
  |false=>
   refine⟨rfl,bE ok2 ?_⟩;simp only[tr];cases c2:aQ o with
   |true=>
    simp_all
   |false=>
    rw[c1,c2]at eS;exact hn eS
 have a1:∀q:Rw,atI (.str (fK q)::.str (vR q)::GR q) 0=cb _:=λq=>by rw[atI_0];rfl
 have no:(cy r||cy o)=true->sO r o=false:=λe=>by
  unfold sO;cases c:cy r with
  |true=>rfl
  |false=>rw[c,Ql]at e;rw[e];rfl
 have rd:=fR;rw[rd r,rd o]at t1 ⊢;simp only[al,aA,jD,ao,aj,ac,dC,av,aE,a1,bY,dv,aH,bX,Ma,dt];rw[w1,w2];refine⟨trivial,trivial,?_⟩;cases c1:cy r with
 |true=>exact hx (by lia)
 |false=>
  refine⟨trivial,trivial,?_⟩;cases c2:cy o with
  |true=>exact hx (by lia)
  |false=>
   rw[c1,c2]at t1;exact t1 rfl rfl
end
noncomputable def CL(t:Tr):D:=.tup [tupD t.1,t.2.1.d,t.2.2.d]
theorem iK{xs:List D}(e:M p=ed)(h:Q (.lst xs) M):frz (.ref p) (M.upd p<|.lst xs) Q:=by
 simp[frz,ar e];exact h
theorem mD{b:List Rw}:atI (ai (a++o::b)) (a.length:Nat)=cb o.d:=by
 rw[bG (by lia),iu,Mv]
 simp
def PPa(ad:Ad)(n:Nat):Prop:=∀(rs os:List Rw)(pl:S9)(M:Mem)(Q:DK)(E:DX)(SS:S_)(m SV:Int),aJ SS m SV rs->aJ SS m SV os->2*bd rs+1<=n->cRs rs<=1000->pl.length+2*bd rs+1<=900->
 (∀l,cu pl 0 rs os=cb l->∀p,M p=ed->Q (.ref p) (M.upd p<|.lst<|l.map CL))->(cu pl 0 rs os=ed->E ad.C_NoBuild M)->Q1 ad n [.tup (ai rs),.tup (ai os),tupD pl] M Q E
def PWi(ad:Ad)(n:Nat):Prop:=∀(r o:Rw)(pl:S9)(M:Mem)(Q:DK)(E:DX)(SS:S_)(m SV:Int),ck SS m SV r->ck SS m SV o->aQ r=true->sO r o=true->2*hR r<=n->cR r<=1000->pl.length+2*hR r<=900->
 (∀l,eM pl r o=cb l->∀p,M p=ed->Q (.ref p) (M.upd p<|.lst<|l.map CL))->(eM pl r o=ed->E ad.C_NoBuild M)->Q9 ad n [r.d,o.d,tupD pl] M Q E
section
theorem sy(ok:ck SS m SV r)(e:ck SS m SV o)(g:aQ r=eP):(sO r o=true->eM pl r o=cb [(pl,r,o)])/\(sO r o=eP->eM pl r o=ed):=by
 cases r<;>first|cases g|skip
 all_goals cases o<;>refine⟨λh=>?_,λh=>?_⟩<;>first|rfl|trivial|(done)|skip
 .exact absurd (by simp[sO,aQ,fK]at h;lia) (r_ ok).1
 exact absurd (by simp[sO,aQ,fK]at h;lia) (r_ ok).2.1
theorem FQ(g:aQ r=true)(h:sO r o=eP):eM pl r o=none:=by
 cases r<;>first|cases g|skip
 all_goals cases o<;>first|rfl|skip
 .rename_i x a b y a' l
  have:¬x=y:=λe=>by subst e;simp[sO,cy,fK,vR]at h
  simp[eM,if_neg this]
 rename_i x a y a'
 have:¬x=y:=λe=>by subst e;simp[sO,cy,fK,vR]at h
 simp[eM,if_neg this]
theorem bU(g:pl.length<=100000)(q:K (tupD (pl++[i])) M):aF (tupD pl) (.tup [.int i]) M K:=by
 have e:tupD (pl++[i])=.tup (pl.map D.int++[.int i]):=by simp[tupD]
 rw[e]at q;exact⟨aR (by simp only[Mc,Md,Mp];lia),q⟩
theorem Dc(ih:PWi ad n){A:D}{g u:List Rw}{SZ:List Tr}(ok:ck SS m SV r)(h:ck SS m SV o)(hn:2*hR r<=n)(hc:cR r<=1000)(hl:pl.length+1+2*hR r<=900)(ha:SZ.length<=100000)(B:N p=cb (.lst<|SZ.map CL))(S:∀l,eM (pl++[(g.length:Int)]) r o=cb l->D2.nx [cb A,cb (.tup<|ai (g++o::u)),cb (tupD pl),cb (.ref p),cb (.int (g.length:Nat)),cb r.d] (N.upd p<|.lst<|(SZ++l).map CL))(h2:eM (pl++[(g.length:Int)]) r o=ed->EE ad.C_NoBuild N):
  kr ad (Q1 ad n) (Q9 ad n) EE D2 [cb A,cb (.tup<|ai (g++o::u)),cb (tupD pl),cb (.ref p),cb (.int (g.length:Nat)),cb r.d] N:=by
 have J:=mD (a:=g) (b:=u) (o:=o);unfold kr;generalize O:jW ad _ _ EE=K3;simp only[al,a_,ak,aa,ac,aj,ae,av,aE,J,Ma,dt];refine⟨rfl,au λQ' E' F X=>rD ok h (λs=>F _ _ ?_) λs=>X _ _ (h2 ?_)⟩
 .rw[<- O]
  unfold jW;generalize I:jA ad _ _ EE=K1;generalize G:kn ad _ _ EE=K2;refine⟨rfl,bE ok ?_⟩;have Y:yJ N (.lst<|yF r)=cb (aQ r):=by cases r<;>rfl
  simp[Y];cases w:aQ r with
  |true=>
   rw[<- I];unfold jA;simp only[a_,fH,am,ak,aa,ac,aj,ax,ae,av,aE,J,bV,B,Ma,dt];refine⟨trivial,aR (by simp),bU (by lia) ⟨rfl,au λQ2 E2 H C=>ih r o _ N Q2 E2 _ m _ ok h w s hn hc (by simp;lia) (λl R q F=>H _ _ (iK F ?_)) λe=>C _ _ (h2 e)⟩⟩
   have hle:=qp r o _ _ R;simp[cB,B];refine⟨aR (by simp;lia),?_⟩
   rw[<- Nt];exact S l R
  |false=>
   obtain⟨Z,_⟩:=sy ok h w;rw[<- G];unfold kn;simp only[a_,fH,aa,ac,aj,ax,ae,av,aE,J,bV,B,Ma,dt];refine⟨trivial,aR (by simp),bU (by lia) ⟨aR (by simp),?_⟩⟩
   simp only[bt,B];refine⟨eE (by simp;lia),?_⟩
   have:=S _ (Z s);rw[Nt]at this;exact this
 cases w:aQ r with
 |true=>exact FQ w s
 |false=>exact(sy ok h w).2 s
theorem De(ih:PWi ad n):PPa ad (n+1):=by
 intro rs os pl M Q E SS m SV ok F hn hc hl h1 Z;rw[Lw (n:=n)];unfold wN;generalize O:jT ad (Q1 ad n) (Q9 ad n) (aB E)=K5;simp only[al,aA,ao,aj,bn,aa,ac,ae,bC,aE,bg,kb,dv,aH,bX,Ma,dt];refine⟨trivial,trivial,?_⟩
 by_cases c:((rs.length:Nat):Int)=(os.length:Nat)
 .rw[decide_eq_true c,Np,if_neg (by simp)]
  unfold ay;dsimp only;simp only[al,ap];refine⟨aR (by simp),λp hp=>?_⟩
  simp only[af,Mu];rw[<- O];unfold jT;simp only[al,cK,gU,aa,ac,ae,aE,bZ,dO,Ma,dt]
  refine br (λxs U N=>∃(g s h:List Rw)(SZ:List Tr)(H G:Option D),xs=bF s.length (ai g)/\os=s++h/\g.length=h.length/\aJ SS m SV g/\aJ SS m SV h/\2*bd g+1<=n+1/\SZ.length+cRs g<=1000/\pl.length+2*bd g+1<=900/\U=[cb (.tup<|ai rs),cb (.tup<|ai os),cb (tupD pl),cb (.ref p),H,G]/\N=M.upd p (.lst<|SZ.map CL)/\
   (∀l,cu pl s.length g h=cb l->cu pl 0 rs os=cb (SZ++l))/\(cu pl s.length g h=ed->cu pl 0 rs os=ed)) (λ_ _ _ _=>aG) ?_ ?_ _ _ _ ⟨rs,[],os,[],ed,ed,rfl,rfl,by lia,ok,F,by lia,by simpa using hc,by lia,rfl,rfl,λl e=>by simpa using e,λe=>e⟩
  .rintro U N ⟨g,s,h,SZ,H,G,A,Y,B,J,R,b1,X,b3,rfl,rfl,I,g2⟩
   have:g=[]:=by cases g with|nil=>rfl|cons _ _=>simp[ai,bF]at A
   subst this;have:h=[]:=List.length_eq_zero_iff.mp (by simpa using B.symm)
   subst this;have:=I [] rfl;rw[Mq]at this;exact aq (h1 SZ this p hp)
  .rintro x xs U N ⟨g,s,h,SZ,H,G,A,Y,B,J,R,b1,X,b3,rfl,rfl,I,g2⟩ D' C _ _ _
   cases g with
   |nil=>simp[ai,bF]at A
   |cons r g=>
    cases h with
    |nil=>simp at B
    |cons o h=>
     simp only[ai,bF,MH]at A;obtain⟨rfl,rfl⟩:=A;simp only[bd,cRs]at b1 X b3;simp only[bL,aD,bM,af,Mu,Md,Mp];subst Y;refine⟨trivial,Dc ih J.1 R.1 (by lia) (by lia) (by lia) (by lia) Mem.upd_same (λl S=>?_) λe=>?_⟩
     .rw[Mem.upd_upd]
      have le:=qp r o _ _ S;refine C _ _ ⟨g,s++[o],h,SZ++l,_,_,by simp,by simp,by simpa using B,J.2,R.2,by lia,by simp;lia,by lia,rfl,rfl,λl2 u=>?_,λe=>?_⟩
      .have:cu pl s.length (r::g) (o::h)=cb (l++l2):=by
        simp only[Mg,Md,Mp]at u;simp only[cu,S,u]
       rw[I _ this,MB]
      .apply g2
       simp only[Mg,Md,Mp]at e;simp only[cu,S,e]
     .refine⟨M,λb ob z=>by rw[ah (λw=>by rw[w,hp]at z;cases z)];exact z,Z<|g2 ?_⟩
      simp only[cu,e]
 .rw[decide_eq_false c,O3,if_pos rfl]
  unfold eF;refine cq (Z ?_);cases e:cu pl 0 rs os with
  |none=>rfl
  |some l=>
   have:=dW rs os pl 0;rw[e]at this;have:=dJ this.symm;lia
end
section
noncomputable def EU(r:Rw):List D:=if fS r=true then [.int 1,.int 0] else [.int 0]
theorem fV{l:BxQ EE λd M'=>frz d M' Q}(ok:ck SS m SV r)(h:Q (.lst<|EU r) M):calls (qy ad) EE [r.d] M (λd M'=>frz d M' Q) l:=
 au λQ' E' e _=>by
  rw[Js];unfold wo;rw[fR];simp only[aw,oX,ao,aj,ac,dC,av,aE,atI_0,bY,dv,aH,bX,dt];rw[(ny ok)];refine⟨trivial,trivial,?_⟩;unfold EU at h;cases c:fS r with
  |_=>
   rw[c]at h;exact⟨by trivial,λp g=>aq (e _ _<|iK g h)⟩
theorem qk(G:PPa ad n){B w:D}{SZ:List Tr}(ok:aJ SS m SV a)(s:aJ SS m SV a')(H:2*bd a+1<=n)(J:cRs a<=1000)(O:pl.length+1+2*bd a+1<=900)(R:SZ.length<=100000)(A:N p=cb (.lst<|SZ.map CL))(I:∀l,cu (pl++[i]) 0 a a'=cb l->D2.nx [cb B,cb w,cb (tupD pl),cb (.ref p),cb (.int i),cb (.tup<|ai a),cb (.tup<|ai a')] (N.upd p<|.lst<|(SZ++l).map CL))(h2:cu (pl++[i]) 0 a a'=ed->EE ad.C_NoBuild N):
  kW ad (Q1 ad n) (Q9 ad n) EE D2 [cb B,cb w,cb (tupD pl),cb (.ref p),cb (.int i),cb (.tup<|ai a),cb (.tup<|ai a')] N:=by
 unfold kW;simp only[a_,fH,am,ak,aa,ac,aj,ax,ae,bV,A,Ma,dt];refine⟨trivial,aR (by simp),bU (by lia) ⟨rfl,au λQ2 E2 h g=>G a a' _ N Q2 E2 _ m _ ok s H J (by simp;lia) (λl u q C=>h _ _ (iK C ?_)) λe=>g _ _ (h2 e)⟩⟩
 have F:=cU a a' _ _ _ u;simp[cB,A];refine⟨aR (by simp;lia),?_⟩
 rw[<- Nt];exact I l u
theorem DF(F:PPa ad n):PWi ad (n+1):=by
 intro r o pl M Q E SS m SV ok g R u O I S G X;rw[u_q7 (n:=n)];unfold Dv uA;generalize A:kW ad (Q1 ad n) (Q9 ad n) (aB E)=K1;simp only[al,ap];refine⟨aR (by simp),λp B=>?_⟩
 simp only[af,Mu,cK,rS,aa,am,ak,ac,ae,Ma,dt];refine⟨rfl,fV ok ⟨rfl,bE ok ⟨rfl,bE g ?_⟩⟩⟩;simp only[aE,bZ,Mq];have s:∀{l:List D},eM pl r o=ed->aB E ad.C_NoBuild (M.upd p<|.lst l):=λe=>⟨M,λb ob z=>by rw[ah (λw=>by rw[w,B]at z;cases z)];exact z,X e⟩
 simp only[sO,Mx]at u;have u:=u.2;rw[R,Bool.true_or,Np,Ql,Mx]at u;have H:=of_decide_eq_true u.1;have J:=of_decide_eq_true u.2;cases r with
 |ifr x a b=>
  have i2:=ny g;rw[<- H,decide_eq_true (show fK (.ifr x a b)="if" from rfl)]at i2;cases o with
  |ifr y a' b'=>
   have:x=y:=J;subst this;simp only[hR,cR]at O I S;simp only[yF,EU,fS,if_true,fk];refine⟨aG,?_⟩;simp only[bL,aD,bM,af,Mu,Md,Mp];refine⟨trivial,?_⟩;rw[<- A];refine qk F (SZ:=[]) ok.2.1 g.2.1 (by lia) (by lia) (by lia) (by simp) Mem.upd_same (λY h=>⟨aG,?_⟩) λe=>s (by simp only[eM,e,if_true])
   simp only[bL,aD,bM,af,Mu,Md,Mp];have q1:=cU a a' _ _ _ h;refine⟨trivial,qk F ok.2.2 g.2.2 (by lia) (by lia) (by lia) (by simp;lia) Mem.upd_same (λZ C=>⟨aG,?_⟩) λe=>?_⟩
   .rw[Mem.upd_upd,Mem.upd_upd]
    exact aq (G _ (by simp only[eM,h,C,if_true,OS]) p B)
   .rw[Mem.upd_upd]
    exact s (by simp only[eM,e,h,if_true])
  |_=>simp[fS]at i2
 |again x a=>
  have i2:=qM g;rw[<- H,decide_eq_true (show fK (.again x a)="again" from rfl)]at i2;cases o with
  |again y a'=>
   have:x=y:=J;subst this;simp only[hR,cR]at O I S;simp only[yF,EU,fS,MC,if_false,fk];refine⟨aG,?_⟩;simp only[bL,aD,bM,af,Mu,Md,Mp];refine⟨trivial,?_⟩;rw[<- A];refine qk F (SZ:=[]) ok.2 g.2 (by lia) (by lia) (by lia) (by simp) Mem.upd_same (λY h=>⟨aG,?_⟩) λe=>s (by simp only[eM,e,if_true])
   rw[Mem.upd_upd];exact aq (G _ (by simp only[eM,h,if_true,OS]) p B)
  |_=>simp[uo]at i2
 |_=>cases R
theorem tJ:∀n:Nat,PPa ad n/\PWi ad n
 |0=>⟨λ_ _ _ _ _ _ _ _ _ _ _ h=>by lia,λr _ _ _ _ _ _ _ _ _ _ e _ h=>by
   cases r with
   |ifr x a b=>simp[hR]at h;lia
   |again x a=>simp[hR]at h;lia
   |_=>cases e⟩
 |n+1=>⟨De (tJ n).2,DF (tJ n).1⟩
end
theorem sw:∀(n:Nat)(l:S_),fits n (l.map D.str)=true
 |n,[]=>by simp[fits]
 |n,x::l=>by simp[fits,bX,sw n l]
mutual
theorem DJ:∀(r o:Rw)(pl:S9),pl≠[]->∀x∈bv pl r o,x≠[]
 |.ifr _ a b,o,pl,h=>by
  have e:=dL a;have g:=dL b;cases o with
  |ifr y a' b'=>
   intro x hx;simp only[bv,Ml]at hx;rcases hx with hx|hx
   .exact g _ _ _ x hx
   .exact e _ _ _ x hx
  |_=>intro x hx;cases hx
 |.again _ a,o,pl,h=>by
  have e:=dL a;cases o with
  |again y a'=>
   intro x hx;exact e _ _ _ x hx
  |_=>intro x hx;cases hx
 |.put _ _,o,pl,h=>by intro x hx;simp only[bv]at hx;split at hx<;>simp at hx;rw[hx];exact h
 |.take _ _,o,pl,h=>by intro x hx;simp only[bv]at hx;split at hx<;>simp at hx;rw[hx];exact h
 |.pick _ _,o,pl,h=>by intro x hx;simp only[bv]at hx;split at hx<;>simp at hx;rw[hx];exact h
 |.two _ _ _ _,o,pl,h=>by intro x hx;simp only[bv]at hx;split at hx<;>simp at hx;rw[hx];exact h
theorem dL:∀(rs os:List Rw)(pl:S9)(j:Nat),∀x∈aV pl j rs os,x≠[]
 |[],os,pl,j=>by intro x hx;cases hx
 |r::rs,os,pl,j=>by
  cases os with
  |nil=>intro x hx;cases hx
  |cons o os=>
   intro x hx;simp only[aV,Ml]at hx;rcases hx with hx|hx
   .exact DJ r o _ (by simp) x hx
   .exact dL rs os _ _ x hx
end
mutual
theorem HM:∀(r o:Rw)(pl:S9)(l:List Tr),eM pl r o=cb l->∀t∈l,aQ t.2.1=eP/\aQ t.2.2=eP
 |.ifr x a b,o,pl,l,h=>by
  have e:=gQ a;have g:=gQ b;cases o with
  |ifr y a' b'=>
   simp only[eM]at h
   split at h
   .split at h
    .rename_i u A
     cases h;intro t s;rcases Ml.mp s with z|z
     .exact e _ _ _ _ u t z
     .exact g _ _ _ _ A t z
    .cases h
   .cases h
  |_=>cases h
 |.again x a,o,pl,l,h=>by
  have e:=gQ a;cases o with
  |again y a'=>
   simp only[eM]at h
   split at h
   .exact e _ _ _ _ h
   .cases h
  |_=>cases h
 |.put x k,o,pl,l,h=>by cases o<;>cases h<;>simp[aQ]
 |.take x k,o,pl,l,h=>by cases o<;>cases h<;>simp[aQ]
 |.pick x k,o,pl,l,h=>by cases o<;>cases h
 |.two w x y z,o,pl,l,h=>by cases o<;>cases h<;>simp[aQ]
theorem gQ:∀(rs os:List Rw)(pl:S9)(j:Nat)(l:List Tr),cu pl j rs os=cb l->∀t∈l,aQ t.2.1=eP/\aQ t.2.2=eP
 |[],os,pl,j,l,h=>by
  cases os with
  |nil=>cases h;simp
  |cons _ _=>cases h
 |r::rs,os,pl,j,l,h=>by
  cases os with
  |nil=>cases h
  |cons o os=>
   simp only[cu]at h
   split at h
   .rename_i g e
    cases h;intro t s;rcases Ml.mp s with z|z
    .exact HM r o _ _ g t z
    .exact gQ rs os _ _ _ e t z
   .cases h
end
theorem yD{a b:S8}(h:a.Perm b):Bo xG a=Bo xG b:=zQ _ (oW _ a) ((bQ _ a).trans h)
theorem iq:∀ks:List (List Int),nG (ks.map tupD)=cb ks
 |[]=>rfl
 |k::ks=>by
  have h:∀k:List _,dw (k.map D.int)=cb k:=λk=>by
   induction k with
   |nil=>rfl
   |cons a k ih=>simp[dw,ih]
  simp[tupD,nG,h];rw[iq ks]
theorem qj(h:aQ r=eP):bX 60 r.d=true:=by cases r<;>first|rfl|cases h
theorem Ll(r:Rw):dv M r.d=r.d:=by cases r<;>rfl
noncomputable def qd(rs os:List Rw):List D:=(Bo xG<|aV [] 0 rs os).map tupD
section
variable{m' S7:Int}{mk':Str}
theorem Ic{a b a' b':Int}{l g:S_}:cz [.int a,.tup (l.map D.str),.int b] [.int a',.tup (g.map D.str),.int b']=decide (a=a'/\l=g/\b=b'):=by
 have e:∀l g:List _,cz (l.map D.str) (g.map D.str)=decide (l=g):=λl=>by
  induction l with
  |nil=>intro g;cases g<;>rfl
  |cons x l ih=>intro g;cases g with
   |nil=>rfl
   |cons y g=>simp[cz,aH,ih]
 simp[cz,aH,e]
theorem Eu{A:az}{e:Option D}(s:¬((m=m'/\SS=S6/\SV=S7)/\mk=mk')->A D0 [cb (aW m SV SS rs mk),cb (aW m' S7 S6 os mk'),e] M)(h2:(m=m'/\SS=S6/\SV=S7)->mk=mk'->D0.nx [cb (aW m SV SS rs mk),cb (aW m' S7 S6 os mk'),e] M):
  aA (jD (ao<|aj kb (am<|fO (ac 0) aI<|bj<|dC<|.int 3)<|am<|fO (ac 1) aI<|bj<|dC<|.int 3)<|ao<|aj kb (aj av (ac 0)<|dC<|.int 4)<|aj av (ac 1)<|dC<|.int 4) A ay D0 [cb (aW m SV SS rs mk),cb (aW m' S7 S6 os mk'),e] M:=by
 have w:∀(a b c:D)(l:List D),dE (a::b::c::l) ed (cb 3)=[a,b,c]:=λa b c l=>du (k:=3);have h:∀(l:S_)(a b:Int),bX 60 (.tup [.int a,.tup (l.map D.str),.int b])=true:=λl a b=>by simp[bX,fits,sw]
 simp only[aA,jD,ao,aj,am,fO,ac,aI,bj,dC,yE,aW,w,frz,kb,dv,Ma,dt];refine⟨h _ _ _,h _ _ _,?_⟩;have u:aH (.tup [.int m,.tup (SS.map D.str),.int SV]) (.tup [.int m',.tup (S6.map D.str),.int S7])=decide (m=m'/\SS=S6/\SV=S7):=by rw[<- Ic];rfl
 rw[u]
 by_cases c:m=m'/\SS=S6/\SV=S7
 .rw[decide_eq_true c]
  simp only[Np,MC,if_false,av,aE,atI_4,Ma,dt,kb,dv,bX,aH];refine⟨trivial,trivial,?_⟩;show if (!decide (mk=mk'))=true then A D0 [cb (aW m SV SS rs mk),cb (aW m' S7 S6 os mk'),e] M else D0.nx [cb (aW m SV SS rs mk),cb (aW m' S7 S6 os mk'),e] M
  by_cases g:mk=mk'
  .rw[if_neg (by rw[decide_eq_true g];simp)]
   exact h2 c g
  .rw[if_pos (by rw[decide_eq_false g];rfl)]
   exact s λz=>g z.2
 .rw[decide_eq_false c]
  exact s λz=>c z.1
theorem iS(ok:aJ SS m SV rs)(X:aJ SS m SV os)(hh:bd rs<=10)(hc:cRs rs<=63)(h1:bu rs os=true->∀p,M p=ed->Q (.ref p) (M.upd p<|.lst<|qd rs os))(h2:bu rs os=eP->E ad.C_NoBuild M):sg ad [aW m SV SS rs mk,aW m SV SS os mk] M Q E:=by
 rw[KR];unfold vm;refine Eu (by lia) λ_ _=>?_
 dsimp only;have pa:=(tJ (ad:=ad) 24).1 rs os [] M;unfold qc;generalize hK:jJ ad (aB E)=K;refine⟨aR (by simp),rfl,au λQ' E' hq hE=>pa Q' E' SS m SV ok X (by lia) (by lia) (by simp;lia) (λl H p A=>hq _ _ (iK A ?_)) λe=>hE _ _ ?_⟩
 .have eo:bu rs os=true:=by rw[<- dW rs os [] 0,H];rfl
  have J:=gQ _ _ _ _ _ H;have hle:=cU _ _ _ _ _ H;have B:=fm _ _ _ _ _ H;simp only[af,Mu];rw[<- hK];unfold jJ;simp only[aw,bn,aa,am,ae,bf,cN,ac,aE,bZ,Ma,dt];refine aT (λI SZ U M'=>∃(g h:List Tr)(C F G:Option D),l=g++h/\I=h.map CL/\SZ=(oB g).map tupD/\U=[C,F,G]/\M=M') (λ_ _ _ _ _=>aG) ?_ ?_ ?_ _ _ _ _ ⟨[],l,ed,ed,ed,rfl,rfl,rfl,rfl,rfl⟩
  .rintro SZ U M' ⟨g,h,C,F,G,s,u,rfl,rfl,rfl⟩ p A
   have Z:h=[]:=by simpa using u.symm
   subst Z;rw[Mq]at s;subst s;refine iK A ?_;simp only[dG,dg,iq];have w:(oB l).length<=l.length:=by simp only[oB,Mc];exact Na ..
   refine⟨by lia,λk hk=>dL _ _ _ _ k (B.mem_iff.mp hk),λp A=>?_⟩
   rw[yD B];exact aq (h1 eo p A)
  .rintro y I SZ U M' ⟨g,h,C,F,G,s,u,rfl,rfl,rfl⟩ N O S
   cases h with
   |nil=>simp at u
   |cons z h=>
    obtain⟨rfl,rfl⟩:=u;have Y:=J z (by rw[s];simp)
    have R:=congrArg MI s;simp at R;have w:(oB g).length<=g.length:=by simp only[oB,Mc];exact Na ..
    simp only[CL,bL,aD,bM,af,Mu,ao,aj,ac,kb,Ll,Md,Mp,Ma,dt];refine⟨trivial,qj Y.1,qj Y.2,?_⟩;have en:(!aH z.2.1.d z.2.2.d)=tz z.2.1 z.2.2:=rfl;rw[en];cases c:tz z.2.1 z.2.2 with
    |true=>exact O _ _ _ (by simp;exact eE (by lia)) ⟨g++[z],h,_,_,_,by rw[s];simp,rfl,by simp[oB,c],rfl,rfl⟩
    |false=>exact S _ _ _ ⟨g++[z],h,_,_,_,by rw[s];simp,rfl,by simp[oB,c],rfl,rfl⟩
  .rintro y I SZ U M' ⟨g,h,C,F,G,s,u,rfl,rfl,rfl⟩
   have R:=congrArg MI s;simp only[Mg]at R;have w:(oB g).length<=g.length:=by simp only[oB,Mc];exact Na ..
   simp;exact eE (by lia)
 .refine cq (h2 ?_)
  rw[<- dW rs os [] 0]
  simp_all
end
theorem jY{d:D}{o:MO}(g:M p=ed)(h:Q d M):drp Q d (M.upd p o):=
 ⟨M,λb u e=>by rw[ah (by lia)];exact e,h⟩
noncomputable def Kg:Rw->Rw
 |.pick x _=>.take x 0
 |r=>r
mutual
noncomputable def sB:Rw->Rw
 |.ifr x a b=>.ifr x (cE a) (cE b)
 |.again x a=>.again x (cE a)
 |.pick x _=>.take x 0
 |r=>r
noncomputable def cE:List Rw->List Rw
 |[]=>[]
 |r::rs=>sB r::cE rs
end
theorem qA:∀{a b:List Rw},cE (a++b)=cE a++cE b
 |[],_=>rfl
 |r::a,b=>by simp[cE,qA]
theorem A6:∀{a:List Rw},(cE a).length=a.length
 |[]=>rfl
 |r::a=>by simp[cE,A6]
theorem ic:∀{rs:List Rw},rs.length<=cRs rs
 |[]=>by simp
 |r::rs=>by
  have:=ic (rs:=rs);have:1<=cR r:=by cases r<;>simp[cR]<;>lia
  simp[cRs];lia
noncomputable def F7:Rw->List (List Rw)
 |.ifr _ a b=>[a,b]
 |.again _ a=>[a]
 |_=>[]
theorem JW(h:aQ r=true):GR r=(F7 r).map λa=>D.tup (ai a):=by cases r<;>first|rfl|cases h
section
theorem zx(ok:ck SS m SV r)(h:K (.bl<|aQ r) M):qZ (.str<|fK r) (.lst [.str (Mw "if"),.str (Mw "again")]) M K:=by
 have s:=ny ok;have u:=qM ok;have e:ir M (.str<|fK r) (.lst [.str (Mw "if"),.str (Mw "again")])=cb (aQ r):=by
  have g:decide (Mw "if"=fK r)=fS r:=by lia
  have l:decide (Mw "again"=fK r)=uo r:=by lia
  simp only[ir,aE,dv,aH,OC,g,l];cases r<;>rfl
 simp[qZ,e];exact h
def Kk(ad:Ad)(n:Nat):Prop:=∀(rs:List Rw)(M:Mem)(Q:DK)(E:DX)(SS:S_)(m SV:Int),aJ SS m SV rs->bd rs+1<=n->cRs rs<=1000->Q (.tup<|ai<|cE rs) M->Rf ad n [.tup (ai rs)] M Q E
theorem np_e(R:Kk ad n){w:Str}{ps:List (List Rw)}(h2:U[2]?=cb (cb<|.tup (.str w::.str x::ps.map λa=>D.tup (ai a))))(G:∀a∈ps,aJ SS m SV a/\bd a+1<=n/\cRs a<=1000)(S:ps.length<=10)(h:K (.lst (ps.map λa=>D.tup (ai<|cE a))) M):
  am (bf (cN<|am<|fO (ac 2) (bj<|dC<|.int 2) aI) ["some"] [] (af 0) cM<|am<|ak (Rf ad n) md 1<|aa (ac 0) ae) U M K:=by
 have s:∀(a b:D)(l:List D),dE (a::b::l) (cb 2) _=l:=λa b l=>xh;simp[am,bf,cN,fO,ac,bj,aI,dC,h2,yE,s,aE];refine aT (λF SZ U M'=>∃(A e:List _)(B:Option D),ps=A++e/\F=(e.map _)/\SZ=(A.map λa=>D.tup (ai<|cE a))/\U=[B]/\M=M') (λ_ _ _ _ _=>aG) ?_ ?_ ?_ _ _ _ _ ⟨[],ps,_,rfl,rfl,rfl,rfl,rfl⟩
 .rintro SZ U M' ⟨A,e,B,g,s,rfl,rfl,rfl⟩ p I
  have H:e=[]:=by simp_all
  subst H;rw[Mq]at g;subst g;exact iK I h
 .rintro y F SZ U M' ⟨A,e,B,g,s,rfl,rfl,rfl⟩ N hN1 O
  cases e with
  |nil=>simp at s
  |cons z e=>
   simp at s;obtain⟨rfl,rfl⟩:=s;have u:=congrArg MI g;simp at u;have C:=G z (by rw[g];simp)
   exact⟨rfl,au λQ' E' J _=>R z M Q' E' _ m _ C.1 C.2.1 C.2.2 (J _ _<|hN1 _ _ _ (by simp;exact eE (by lia)) ⟨A++[z],e,_,by rw[g];simp,rfl,by simp,rfl,rfl⟩)⟩
 .rintro y F SZ U M' ⟨A,e,B,g,s,rfl,rfl,rfl⟩
  have u:=congrArg MI g;simp at u;simp;exact eE (by lia)
theorem zm{T:Sd}{s:D}(ok:decide (fK r="pick")=cy r)(C:SZ.length<=1000)(A:N p=cb (.lst<|ai SZ))(h:∀w,D2.nx [cb s,cb (.ref p),w] (N.upd p<|.lst<|ai (SZ++[Kg r]))):
  lQ ad T EE D2 [cb s,cb (.ref p),cb r.d] N:=by
 have l:∀q:Rw,q=Kg r->a_ (fH "list" bt (ac 1)<|aa (ac 2) ae) D2 [cb _,cb (.ref p),cb _] N:=λq e=>by
  simp only[a_,fH,aa,ac,ae,bV,A,bt,Ma,dt];refine⟨trivial,eE (by rw[bg];lia),?_⟩
  have:=h (cb (Kg r).d);rw[aX]at this;exact this
 unfold lQ;generalize B:a_ _=G at l ⊢;generalize u:tE ad T EE=K;have g:cy r=eP->G D2 _ N:=λe=>l r (by cases r<;>first|rfl|cases e)
 rw[fR]at g ⊢;simp only[al,aA,ao,aj,ac,dC,av,aE,atI_0,bY,dv,aH,bX,Ma,dt];rw[ok];refine⟨trivial,trivial,?_⟩;cases r with
 |pick x y=>
  rw[<- u];exact⟨aR (by simp),l _ rfl⟩
 |_=>exact g rfl
theorem Ca(X:Kk ad n){g:D}(ok:ck SS m SV r)(F:hR r<=n)(H:cR r<=1000)(s:SZ.length<=1000)(G:N p=cb (.lst<|ai SZ))(h:∀Y,D2.nx [cb g,cb (.ref p),Y] (N.upd p<|.lst<|ai (SZ++[sB r]))):
  mh ad (Rf ad n) EE D2 [cb g,cb (.ref p),cb r.d] N:=by
 unfold mh;generalize u:lQ ad _ EE=K3;generalize B:p6 ad _ EE=K1;have C:aQ r=eP->K3 D2 [cb g,cb (.ref p),cb r.d] N:=λe=>by
  rw[<- u];refine zm (wO ok) s G ?_;have:Kg r=sB r:=by cases r<;>first|rfl|cases e
  rw[this];exact h
 have bl:aQ r=true->K1 { D2 with nx:=K3 D2 } [cb g,cb (.ref p),cb r.d] N:=λe=>by
  rw[<- B];unfold p6;have A:∀a∈F7 r,aJ SS m SV a/\bd a+1<=n/\cRs a<=1000:=λa s=>by
   cases r with
   |ifr x a b=>
    simp only[hR,cR]at F H;simp only[F7,Mm,NM,or_false]at s;rcases s with rfl|rfl
    .exact⟨ok.2.1,by lia,by lia⟩
    .exact⟨ok.2.2,by lia,by lia⟩
   |again x a=>
    simp only[hR,cR]at F H;simp only[F7,Mm,NM,or_false]at s;subst s;exact⟨ok.2,by lia,by lia⟩
   |_=>cases e
  have S:(F7 r).length<=2:=by cases r<;>simp[F7]
  have w:∀K:DK,_->_:=λK J=>np_e (K:=K) (M:=N) (U:=[cb g,cb (.ref p),cb (.tup (.str (fK r)::.str (vR r)::(F7 r).map _))]) X rfl A (by lia) J
  rw[fR,JW e];generalize (am _)=Z at w ⊢;have I:∀(a b:D)(l:List D),dE (a::b::l) ed (cb 2)=[a,b]:=λa b l=>du (k:=2);simp only[ap,am,aj,fO,ac,aI,bj,dC,yE,I,frz,bn,aa,Ma,dt];refine w _ ?_;refine⟨aR (by simp;lia),?_⟩
  simp only[frz,af,Mu];rw[<- u];have R:D.tup ([D.str (fK r),.str (vR r)]++(F7 r).map λa=>D.tup (ai<|cE a))=(sB r).d:=by cases r<;>first|rfl|cases e
  rw[R];refine zm ?_ s G ?_
  .cases r<;>first|rfl|cases e
  .have:Kg (sB r)=sB r:=by cases r<;>first|rfl|cases e
   simp_all
 rw[(fR r)]at C bl ⊢;simp only[al,aA,ao,aj,ac,dC,av,aE,atI_0,am,bA,aa,ae,Ma,dt];refine⟨aR (by simp),λq O=>iK O (zx ok ?_)⟩
 cases c:aQ r with
 |true=>exact bl c
 |false=>exact C c
theorem DZ(J:Kk ad n):Kk ad (n+1):=by
 intro rs M Q E SS m SV ok I H h;rw[u_q6];unfold Bu ui;generalize u:mh ad _ _=K4;refine⟨by trivial,λp F=>?_⟩
 refine br (λB U N=>∃(g e:List Rw)(w:Option D),rs=g++e/\B=ai e/\U=[cb _,cb _,w]/\N=M.upd p (.lst<|ai<|cE g)) (λ_ _ _ _=>aG) ?_ ?_ _ _ _ ⟨[],rs,_,rfl,rfl,rfl,rfl⟩
 .rintro U N ⟨g,e,w,l,A,rfl,rfl⟩
  have C:e=[]:=by cases e with|nil=>rfl|cons _ _=>trivial
  subst C;rw[Mq]at l;subst l;simp only[aw,bn,aa,ac,ae,bP,dg,Mem.upd_same,Ma,dt];exact jY F h
 rintro x B U N ⟨g,e,w,l,A,rfl,rfl⟩ D' s _ _ _
 cases e with
 |nil=>trivial
 |cons z e=>
  simp[ai]at A;obtain⟨rfl,rfl⟩:=A;have G:=ic (rs:=rs);subst l;rw[OkRs_append]at ok;simp[ba,bd]at I;simp[aS,cRs]at H;have O:(cE g).length=g.length:=A6;simp[aS,cRs]at G;rw[<- u];refine Ca J ok.2.1 (by lia) (by lia) (by lia) Mem.upd_same λc=>?_
  rw[Mem.upd_upd];exact s _ _ ⟨g++[z],e,c,by simp,rfl,rfl,by rw[qA];rfl⟩
theorem uO:∀n:Nat,Kk ad n
 |0=>λ_ _ _ _ _ _ _ _ h=>by lia
 |n+1=>DZ (uO n)
end
mutual
def pM:Rw->Prop
 |.ifr _ a b=>db a/\db b
 |.again _ a=>db a
 |.pick _ _=>False
 |_=>True
def db:List Rw->Prop
 |[]=>True
 |r::rs=>pM r/\db rs
end
theorem noPks_app:∀{a b:List Rw},db (a++b)↔db a/\db b
 |[],b=>by simp[db]
 |r::a,b=>by simp[db,noPks_app,and_assoc]
mutual
theorem nw{SS:S_}{m SV:Int}:∀r:Rw,ck SS m SV r->ck SS m SV (sB r)/\pM (sB r)/\hR (sB r)=hR r/\cR (sB r)=cR r
 |.ifr x a b,ok=>by
  have e:=de a ok.2.1;have g:=de b ok.2.2;exact⟨⟨ok.1,e.1,g.1⟩,⟨e.2.1,g.2.1⟩,by simp only[sB,hR,e.2.2.1,g.2.2.1],by simp only[sB,cR,e.2.2.2,g.2.2.2]⟩
 |.again x a,ok=>by
  have e:=de a ok.2;exact⟨⟨ok.1,e.1⟩,e.2.1,by simp only[sB,hR,e.2.2.1],by simp only[sB,cR,e.2.2.2]⟩
 |.pick x k,ok=>by
  obtain⟨e,g,h⟩:=(show eD SS m SV (.pick x k) from ok);exact⟨⟨e,by lia,h⟩,trivial,rfl,rfl⟩
 |.put x k,ok=>⟨ok,trivial,rfl,rfl⟩
 |.take x k,ok=>⟨ok,trivial,rfl,rfl⟩
 |.two w x y z,ok=>⟨ok,trivial,rfl,rfl⟩
theorem de{SS:S_}{m SV:Int}:∀rs:List Rw,aJ SS m SV rs->aJ SS m SV (cE rs)/\db (cE rs)/\bd (cE rs)=bd rs/\cRs (cE rs)=cRs rs
 |[],_=>⟨trivial,trivial,rfl,rfl⟩
 |r::rs,ok=>by
  have g:=nw r ok.1;have e:=de rs ok.2;exact⟨⟨g.1,e.1⟩,⟨g.2.1,e.2.1⟩,by simp only[cE,bd,g.2.2.1,e.2.2.1],by simp only[cE,cRs,g.2.2.2,e.2.2.2]⟩
end
theorem BU(e:aQ r=eP)(h2:aQ o=eP):tz r o=tz o r:=by
 cases r<;>first|cases e|skip
 all_goals cases o<;>first|cases h2|skip
 all_goals simp only[tz,Rw.d,aH,cz,eq_comm]
theorem lI(e:aQ r=eP):tz r r=false:=by
 cases r<;>first|cases e|skip
 all_goals simp[tz,Rw.d,aH,cz]
theorem aU(h:aQ r=eP):bv pl r o=if tz r o=true then [pl] else []:=by cases r<;>first|rfl|cases h
theorem y_(h:aQ r=eP):fP r o=!(cy r||cy o||aQ o):=by cases r<;>first|rfl|cases h
mutual
theorem wn:∀(r:Rw)(pl:S9),pM r->fP r r=true/\bv pl r r=[]
 |.ifr x a b,pl,h=>by
  simp[fP,bv,(eZ a (pl++[1]) 0 h.1).1,(eZ a (pl++[1]) 0 h.1).2,(eZ b (pl++[0]) 0 h.2).1,(eZ b (pl++[0]) 0 h.2).2]
 |.again x a,pl,h=>by
  simp[fP,bv,(eZ a (pl++[0]) 0 h).1,(eZ a (pl++[0]) 0 h).2]
 |.put x k,pl,h=>by rw[aU rfl,lI rfl];exact⟨rfl,rfl⟩
 |.take x k,pl,h=>by rw[aU rfl,lI rfl];exact⟨rfl,rfl⟩
 |.pick x k,pl,h=>h.elim
 |.two w x y z,pl,h=>by rw[aU rfl,lI rfl];exact⟨rfl,rfl⟩
theorem eZ:∀(rs:List Rw)(pl:S9)(j:Nat),db rs->bu rs rs=true/\aV pl j rs rs=[]
 |[],pl,j,h=>⟨rfl,rfl⟩
 |r::rs,pl,j,h=>by
  simp[bu,aV,(wn r (pl++[(j:Int)]) h.1).1,(wn r (pl++[(j:Int)]) h.1).2,(eZ rs pl (j+1) h.2).1,(eZ rs pl (j+1) h.2).2]
end
theorem nE{pl:S9}:∀{a a' b b':List Rw}{j:Nat},a.length=a'.length->aV pl j (a++b) (a'++b')=aV pl j a a'++aV pl (j+a.length) b b'
 |[],[],b,b',j,_=>by simp[aV]
 |[],_::_,b,b',j,h=>by simp at h
 |_::_,[],b,b',j,h=>by simp at h
 |r::a,o::a',b,b',j,h=>by
  have:=nE (pl:=pl) (b:=b) (b':=b') (j:=j+1) (by simpa using h)
  simp[aV,this];rw[show j+1+a.length=j+(a.length+1) by lia]
theorem gr:∀{a a' b b':List Rw},a.length=a'.length->bu (a++b) (a'++b')=(bu a a'&&bu b b')
 |[],[],b,b',_=>by simp[bu]
 |[],_::_,b,b',h=>by simp at h
 |_::_,[],b,b',h=>by simp at h
 |r::a,o::a',b,b',h=>by
  simp[bu,(gr<|by simpa using h),Bool.and_assoc]
mutual
theorem Aw:∀(r o:Rw)(pl:S9),(bv pl r o).length<=cR r
 |.ifr x a b,o,pl=>by
  have e:=bK a;have g:=bK b;cases o with
  |ifr y a' b'=>
   have h:=e a' (pl++[1]) 0;have l:=g b' (pl++[0]) 0;simp only[bv,Mg,cR];lia
  |_=>simp[bv]
 |.again x a,o,pl=>by
  have e:=bK a;cases o with
  |again y a'=>
   have h:=e a' (pl++[0]) 0;simp only[bv,cR];lia
  |_=>simp[bv]
 |.put x k,o,pl=>by rw[aU rfl];split<;>simp[cR]
 |.take x k,o,pl=>by rw[aU rfl];split<;>simp[cR]
 |.pick x k,o,pl=>by rw[aU rfl];split<;>simp[cR]
 |.two w x y z,o,pl=>by rw[aU rfl];split<;>simp[cR]
theorem bK:∀(rs os:List Rw)(pl:S9)(j:Nat),(aV pl j rs os).length<=cRs rs
 |[],os,pl,j=>by simp[aV]
 |r::rs,os,pl,j=>by
  cases os with
  |nil=>simp[aV]
  |cons o os=>
   have e:=Aw r o (pl++[(j:Int)]);have g:=bK rs os pl (j+1);simp only[aV,Mg,cRs];lia
end
structure Wrk(k:Pt)(wk lp:eH)(SS:S_)(m SV:Int)(SZ:S8)(M:Mem):Prop where
 h:Has k M
 w:∃u:Int,M wk=cb (.lst [cF SS m SV,.ref lp,.int u])
 l:M lp=cb (.lst<|SZ.map tupD)
 n1:wk≠k.p
 n2:wk≠k.q
 n3:lp≠k.p
 n4:lp≠k.q
 n5:wk≠lp
def Fw(k:Pt)(wk lp:eH)(M M':Mem):Prop:=∀b o,b≠k.p->b≠k.q->b≠wk->b≠lp->M b=cb o->M' b=cb o
theorem Fw.trans{k:Pt}{M1 M2:Mem}(a:Fw k wk lp M M1)(b:Fw k wk lp M1 M2):Fw k wk lp M M2:=λx o s g e l h=>b x o s g e l (a x o s g e l h)
structure Tn(SS:S_)(m SV:Int)(rs rs':List Rw):Prop where
 ok:aJ SS m SV rs'
 np:db rs'
 k:bu rs rs'=true
 h:bd rs'=bd rs
 c:cRs rs'=cRs rs
structure Tn1(SS:S_)(m SV:Int)(r r':Rw):Prop where
 ok:ck SS m SV r'
 np:pM r'
 k:fP r r'=true
 h:hR r'=hR r
 c:cR r'=cR r
section
variable{k:Pt}{SZ:S8}
theorem Wrk.dr{M':Mem}(w:Wrk k wk lp SS m SV SZ M)(d:Dr k M M'):Wrk k wk lp SS m SV SZ M':=by
 obtain⟨u,e⟩:=w.w;exact⟨d.1,⟨u,by rw[d.2 _ w.n1 w.n2];exact e⟩,by rw[d.2 _ w.n3 w.n4];exact w.l,w.n1,w.n2,w.n3,w.n4,w.n5⟩
theorem Dr.fw{M':Mem}(d:Dr k M M'):Fw k wk lp M M':=λb o h g _ _ e=>by rw[d.2 b h g];exact e
theorem Wrk.upd{o:MO}(w:Wrk k wk lp SS m SV SZ M)(A:p≠k.p)(h2:p≠k.q)(g:p≠wk)(s:p≠lp):Wrk k wk lp SS m SV SZ (M.upd p o):=by
 obtain⟨u,e⟩:=w.w;exact⟨w.h.upd ⟨A,h2⟩,⟨u,by rw[ah (MJ g)];exact e⟩,by rw[ah (MJ s)];exact w.l,w.n1,w.n2,w.n3,w.n4,w.n5⟩
theorem Wrk.new(w:Wrk k wk lp SS m SV SZ M)(g:M p=ed):p≠k.p/\p≠k.q/\p≠wk/\p≠lp:=by
 obtain⟨u,e⟩:=w.w;obtain⟨A,s⟩:=w.h.nep g;exact⟨A,s,by lia,λz=>(by rw[z,w.l]at g;cases g)⟩
def IE(ad:Ad)(k:Pt)(wk lp:eH)(SS:S_)(m SV:Int)(n:Nat):Prop:=∀(rs:List Rw)(pl:S9)(SZ:S8)(M:Mem)(Q:DK)(E:DX),aJ SS m SV rs->db rs->bd rs+1<=n->SZ.length+cRs rs<=1000->pl.length+2*bd rs+1<=900->Wrk k wk lp SS m SV SZ M->
 (∀rs' M',Tn SS m SV rs rs'->Wrk k wk lp SS m SV (SZ++aV pl 0 rs rs') M'->Fw k wk lp M M'->Q (.tup<|ai rs') M')->Q0 ad n [.ref k.p,.ref wk,.tup (ai rs),tupD pl] M Q E
def wq(D2:DEnds)(k:Pt)(wk lp:eH)(SS:S_)(m SV:Int)(SZ:S8)(N:Mem)(r:Rw)(hr:S9)(rsD plD:D)(p:eH)(c5:Option D):Prop:=∀(r':Rw)(c8 c9 c10 c11:Option D)(N':Mem),Tn1 SS m SV r r'->Wrk k wk lp SS m SV (SZ++bv hr r r') N'->Fw k wk lp N N'->D2.nx [cb (.ref k.p),cb (.ref wk),cb rsD,cb plD,cb (.ref p),c5,cb r'.d,cb (tupD hr),c8,c9,c10,c11] N'
theorem kd{A:BxQ EE λd M'=>frz d M' Q}(s:IE ad k wk lp SS m SV n)(ok:aJ SS m SV rs)(B:db rs)(u:bd rs+1<=n)(F:SZ.length+cRs rs<=1000)(C:pl.length+2*bd rs+1<=900)(w:Wrk k wk lp SS m SV SZ M)(h:∀e M',Tn SS m SV rs e->Wrk k wk lp SS m SV (SZ++aV pl 0 rs e) M'->Fw k wk lp M M'->Q (.tup<|ai e) M'):calls (Q0 ad n) EE [.ref k.p,.ref wk,.tup (ai rs),tupD pl] M (λd M'=>frz d M' Q) A:=
 au λQ' E' g _=>s rs pl _ M Q' E' ok B u F C w λe M' t l f=>g _ _ (h _ M' t l f)
theorem Ky(F:IE ad k wk lp SS m SV n){b:List Rw}{e plD:D}{G Y S A u:Option D}(ok:ck SS m SV (.ifr x a b))(np:pM (.ifr x a b))(O:hR (.ifr x a b)<=n)(X:SZ.length+cR (.ifr x a b)<=1000)(R:hr.length+2*hR (.ifr x a b)<=900)(w:Wrk k wk lp SS m SV SZ N)(h:wq D2 k wk lp SS m SV SZ N (.ifr x a b) hr e plD p G):m8 ad (Q0 ad n) EE D2 [cb (.ref k.p),cb (.ref wk),cb e,cb plD,cb (.ref p),G,cb (Rw.ifr x a b).d,cb (tupD hr),Y,S,A,u] N:=by
 simp only[hR,cR]at O X R;unfold m8;generalize g:pX ad _ EE=K2;simp only[Rw.d,al,ap,am,ac,aj,dC,ax,ae,av,aE,i3,dt];refine⟨aR (by simp),bU (by lia) ⟨rfl,kd F ok.2.2 np.2 (by lia) (by lia) (by simp;lia) w λB N1 t1 J f1=>?_⟩⟩
 have Z:=bK b B (hr++[0]) 0;simp only[af,Mu];rw[<- g];unfold pX;generalize s:pY ad _ EE=K1;simp only[al,ap,am,aj,dC,ax,ae,av,aE,i2,dt];refine⟨aR (by simp),bU (by lia) ⟨rfl,kd F ok.2.1 np.1 (by lia) (by simp;lia) (by simp;lia) J λa' N2 t2 C I=>?_⟩⟩
 rw[<- s];unfold pY;have H:∀(a b:D)(l:List D),dE (a::b::l) ed (cb 2)=[a,b]:=λa b l=>du;simp only[ap,am,aj,fO,ac,aI,bj,dC,yE,H,frz,ax,aF,af,Mu,Ma,dt];refine⟨aR (by simp),aR (by simp),h (.ifr x a' B) _ _ _ _ N2 ⟨⟨ok.1,t2.ok,t1.ok⟩,⟨t2.np,t1.np⟩,?_,?_,?_⟩ ?_<|f1.trans I⟩
 .simp[fP,t1.k,t2.k]
 .simp only[hR,t1.h,t2.h]
 .simp only[cR,t1.c,t2.c]
 .rw[MB]at C
  exact C
theorem Kr(G:IE ad k wk lp SS m SV n){e plD:D}{A R J u s:Option D}(ok:ck SS m SV (.again x a))(np:pM (.again x a))(H:hR (.again x a)<=n)(O:SZ.length+cR (.again x a)<=1000)(I:hr.length+2*hR (.again x a)<=900)(w:Wrk k wk lp SS m SV SZ N)(h:wq D2 k wk lp SS m SV SZ N (.again x a) hr e plD p A):ly ad (Q0 ad n) EE D2 [cb (.ref k.p),cb (.ref wk),cb e,cb plD,cb (.ref p),A,cb (Rw.again x a).d,cb (tupD hr),R,J,u,s] N:=by
 simp[hR,cR]at H O I;unfold ly;generalize g:p0 ad _ EE=K1;simp[Rw.d];refine⟨by trivial,bU (by lia) ⟨rfl,kd G ok.2 np (by lia) (by lia) (by simp;lia) w λa' N1 t1 F B=>?_⟩⟩
 rw[<- g];unfold p0;have C:∀(a b:D)(l:List D),dE (a::b::l) _ (cb 2)=[a,b]:=λa b l=>du;simp only[ap,am,aj,fO,ac,aI,bj,dC,yE,C,frz,af,Mu,Ma,dt];exact⟨aR (by simp),aR (by simp),h (.again x a') _ _ _ _ N1 ⟨⟨ok.1,t1.ok⟩,t1.np,by simp[fP,t1.k],by simp[hR,t1.h],by simp only[cR,t1.c]⟩ F B⟩
theorem Tn1.self(ok:ck SS m SV r)(e:pM r):Tn1 SS m SV r r:=⟨ok,e,(wn r [] e).1,rfl,rfl⟩
theorem xX(h:eD SS m SV r):aQ r=false:=by cases r<;>first|rfl|exact h.elim
theorem f_(h:aQ r=eP):cR r=1/\hR r=0:=by cases r<;>first|trivial|cases h
theorem Cn(ht:ToldOk SS m SV){B plD:D}{c5 c8 c9 H C:Option D}{T:Sd}(F:aQ r=eP)(ok:ck SS m SV r)(np:pM r)(ha:SZ.length<=1000)(w:Wrk k wk lp SS m SV SZ N)(h:wq D2 k wk lp SS m SV SZ N r hr B plD p c5):gJ ad T EE D2 [cb (.ref k.p),cb (.ref wk),cb B,cb plD,cb (.ref p),c5,cb r.d,cb (tupD hr),c8,c9,H,C] N:=by
 obtain⟨u,Y⟩:=w.w;have s:∀{N':Mem} {C},Dr k N N'->D2.nx [cb (.ref k.p),cb (.ref wk),cb B,cb plD,cb (.ref p),c5,cb r.d,cb (tupD hr),c8,c9,H,C] N':=λd=>h r _ _ _ _ _ (Tn1.self ok np) (by rw[(wn r hr np).2,Mq];exact w.dr d) d.fw
 have i2:∀u:Int,atI [cF SS m SV,.ref lp,.int u] 2=cb (.int u):=λu=>by rw[atI_2];rfl
 have i1:∀u:Int,atI [cF SS m SV,.ref lp,.int u] 1=cb (.ref lp):=λu=>by rw[atI_1];rfl
 have i0:∀u:Int,atI [cF SS m SV,.ref lp,.int u] 0=cb (cF SS m SV):=λu=>by rw[atI_0];rfl
 unfold gJ;generalize R:oF ad T EE=K9;simp only[aA,g7,ao,aj,ac,dC,av,aE,Y,i2,sS,pU,am,ak,aa,ae,Ma,dt]
 by_cases c:¬0<u
 .simp only[c,decide_false,MC,if_false]
  exact s w.h.refl
 have c:=Qu.mp c;simp only[c,decide_true,if_true];refine⟨rfl,aM w.h (by decide) (by decide) λd N1 _ _ I=>?_⟩
 simp only[frz,bY,dv,aH,bX];refine⟨trivial,trivial,?_⟩
 by_cases c2:¬d=0
 .rw[decide_eq_false c2]
  exact s I
 rw[decide_eq_true (Qu.mp c2)];show K9 _ _ N1;rw[<- R];unfold oF;generalize hK8:oj ad T EE=K8;have w1:=w.dr I;have eu1:N1 wk=cb (.lst [cF SS m SV,.ref lp,.int u]):=by rw[I.2 _ w.n1 w.n2];exact Y
 simp only[al,ap,aj,am,ak,aa,ax,ac,dC,ae,av,aE,eu1,i0,Ma,dt];refine⟨rfl,au λQ2 E2 Z _=>qH w1.h ht λq N2 G d2=>Z _ _ ?_⟩;rw[EG];refine⟨aR (by simp),rfl,au λQ3 E3 hq3 _=>uO 24 [q] N2 Q3 E3 SS m SV ⟨ul G,trivial⟩ (by simp[bd,Fe G]) (by simp[cRs,Fx G]) (hq3 _ _ ?_)⟩
 have A:=I.trans d2;have w2:=w.dr A;have X:N2 wk=cb (.lst [cF SS m SV,.ref lp,.int u]):=by rw[A.2 _ w.n1 w.n2];exact Y
 have J:=nw q (ul G);have g:aQ (sB q)=false:=by
  have:=xX G;cases q<;>first|rfl|cases this
 have ia:atI (ai<|cE [q]) 0=cb (sB q).d:=by rw[atI_0];rfl
 simp only[frz,ia,af,Mu];generalize sB q=o at J g;rw[<- hK8];unfold oj;generalize O:pf ad T EE=K7;simp only[aA,ao,aj,ac,kb,Ll,Ma,dt];refine⟨qj g,qj F,?_⟩;have en:(!aH o.d r.d)=tz r o:=by rw[BU F g];rfl
 rw[en];cases cn:tz r o with
 |false=>exact s A
 |true=>
  show K7 _ _ N2;rw[<- O];unfold pf;generalize S:p8 ad T EE=K6;have ix:wJ 3 2=cb 2:=rfl;simp only[al,ap,aj,ac,dC,av,aE,X,i2,ga,pU,gK,CY,Md,Mp,ix,Mu,Ma,dt];rw[<- S];unfold p8;have el:(N2.upd wk<|.lst [cF SS m SV,.ref lp,.int (u-1)]) lp=cb (.lst<|SZ.map tupD):=by rw[ah (MJ w.n5)];exact w2.l
  simp only[al,a_,fH,aj,ac,dC,av,aE,Mem.upd_same,i1,bV,el,aa,ae,bt,ap,af,Mu,Ma,dt];refine⟨trivial,eE (by simp;lia),h o _ _ _ _ _ ⟨J.1,J.2.1,?_,?_,?_⟩ ?_ ?_⟩
  .have p1:cy r=false:=by cases r<;>first|rfl|exact np.elim
   have p2:cy o=false:=by have:=J.2.1;cases o<;>first|rfl|exact this.elim
   rw[y_ F,p1,p2,g];rfl
  .rw[(f_ F).2,(f_ g).2]
  .rw[(f_ F).1,(f_ g).1]
  .rw[aU F,cn,if_pos rfl]
   refine⟨(w2.h.upd ⟨w.n1,w.n2⟩).upd ⟨w.n3,w.n4⟩,⟨u-1,?_⟩,?_,w.n1,w.n2,w.n3,w.n4,w.n5⟩
   .rw[ah w.n5,Mem.upd_same]
   .rw[Mem.upd_same,Nt];rfl
  .intro b ob h1 h2 h3 h4 e
   rw[ah h4,ah h3,A.2 b h1 h2];exact e
end
section
variable{k:Pt}{SZ:S8}
theorem DV(ht:ToldOk SS m SV)(ih:IE ad k wk lp SS m SV n){u:D}{G:List Rw}{c7 C B s l:Option D}(ok:ck SS m SV r)(np:pM r)(hn:hR r<=n)(ha:SZ.length+cR r<=1000)(hl:pl.length+1+2*hR r<=900)(w:Wrk k wk lp SS m SV SZ N)(hp:N p=cb (.lst<|ai G))(hu:G.length<=1000)(g:p≠k.p/\p≠k.q/\p≠wk/\p≠lp)(h:∀(X:Rw)(c6 c7 C B s l:Option D)(N':Mem),Tn1 SS m SV r X->Wrk k wk lp SS m SV (SZ++bv (pl++[(j:Int)]) r X) N'->N' p=cb (.lst<|ai (G++[X]))->(∀b o,b≠k.p->b≠k.q->b≠wk->b≠lp->b≠p->N b=cb o->N' b=cb o)->D2.nx [cb (.ref k.p),cb (.ref wk),cb u,cb (tupD pl),cb (.ref p),cb (.int (j:Nat)),c6,c7,C,B,s,l] N'):
  g_ ad (Q0 ad n) EE D2 [cb (.ref k.p),cb (.ref wk),cb u,cb (tupD pl),cb (.ref p),cb (.int (j:Nat)),cb r.d,c7,C,B,s,l] N:=by
 unfold g_;generalize I:jp ad (Q0 ad n) EE=K12;simp only[al,ap,aj,ac,ax,aa,ae,Ma,dt];refine⟨aR (by simp),bU (by lia) ?_⟩
 simp only[af,Mu];rw[<- I];unfold jp;have w1:=ny ok;have w2:=qM ok;generalize hA:a_ _=A;have F:wq { D2 with nx:=A D2 } k wk lp SS m SV SZ N r (pl++[(j:Int)]) u (tupD pl) p (cb<|.int (j:Nat)):=λX C B s l N' t w' f=>by
  have Y:=f p _ g.1 g.2.1 g.2.2.1 g.2.2.2 hp;rw[<- hA];simp only[a_,fH,ac,bV,Y,aa,ae,bt,Ma,dt];refine⟨trivial,eE (by rw[bg];lia),h X _ _ _ _ _ _ _ t (w'.upd g.1 g.2.1 g.2.2.1 g.2.2.2) (by rw[Mem.upd_same,aX];rfl) λb o h1 h2 h3 h4 h5 e=>?_⟩
  rw[ah h5];exact f b o h1 h2 h3 h4 e
 generalize Z:m8 ad (Q0 ad n) EE=K3;generalize S:jV ad (Q0 ad n) EE=K11;have R:(pl++[(j:Int)]).length+2*hR r<=900:=by simp;lia
 have H:fS r=eP->K11 { D2 with nx:=A D2 } [cb (.ref k.p),cb (.ref wk),cb u,cb (tupD pl),cb (.ref p),cb (.int (j:Nat)),cb r.d,cb (tupD (pl++[(j:Int)])),C,B,s,l] N:=λe=>by
  rw[<- S];unfold jV;generalize hK5:ly ad (Q0 ad n) EE=K5;generalize J:gJ ad (Q0 ad n) EE=K10;have t5:uo r=true->K5 { D2 with nx:=A D2 } [cb (.ref k.p),cb (.ref wk),cb u,cb (tupD pl),cb (.ref p),cb (.int (j:Nat)),cb r.d,cb (tupD (pl++[(j:Int)])),C,B,s,l] N:=λO=>by
   rw[<- hK5];cases r with
   |again x a=>exact Kr ih ok np hn ha R w F
   |_=>cases O
  have t10:uo r=eP->K10 { D2 with nx:=A D2 } [cb (.ref k.p),cb (.ref wk),cb u,cb (tupD pl),cb (.ref p),cb (.int (j:Nat)),cb r.d,cb (tupD (pl++[(j:Int)])),C,B,s,l] N:=λO=>by
   rw[<- J];exact Cn ht (by cases r<;>first|rfl|(cases e;done)|(cases O;done)) ok np (by lia) w F
  rw[fR]at t5 t10 ⊢;simp only[aA,ao,aj,ac,dC,av,aE,atI_0,bY,dv,aH,bX,Ma,dt]
  simp_all
 have t3:fS r=true->K3 { D2 with nx:=A D2 } [cb (.ref k.p),cb (.ref wk),cb u,cb (tupD pl),cb (.ref p),cb (.int (j:Nat)),cb r.d,cb (tupD (pl++[(j:Int)])),C,B,s,l] N:=λO=>by
  rw[<- Z];cases r with
  |ifr x a b=>exact Ky ih ok np hn ha R w F
  |_=>cases O
 rw[fR]at t3 H ⊢;simp only[al,aA,ao,aj,ac,dC,av,aE,atI_0,bY,dv,aH,bX,Ma,dt];rw[w1];refine⟨trivial,trivial,?_⟩;cases c:fS r with
 |true=>exact t3 c
 |false=>exact H c
theorem Tn.snoc{e:Rw}(t:Tn SS m SV a a')(t1:Tn1 SS m SV r e):Tn SS m SV (a++[r]) (a'++[e]):=by
 refine⟨OkRs_append.mpr ⟨t.ok,t1.ok,trivial⟩,noPks_app.mpr ⟨t.np,t1.np,trivial⟩,?_,?_,?_⟩
 .rw[gr (dJ t.k),t.k]
  simp[bu,t1.k]
 .simp only[ba,bd,t.h,t1.h]
 simp[aS,cRs,t.c,t1.c]
theorem BE(ht:ToldOk SS m SV)(ih:IE ad k wk lp SS m SV n):IE ad k wk lp SS m SV (n+1):=by
 intro rs pl SZ M Q E ok np hn ha hl w h;rw[u_q5 (n:=n)];unfold CA p4;generalize hK:g_ ad _ (aB E)=K;refine⟨aR (by simp),λp hp=>?_⟩
 have g:=w.new hp
 refine br (λxs U N=>∃(B l A:List Rw)(c5 Z H S G u s:Option D),rs=B++A/\xs=bF B.length (ai A)/\U=[cb (.ref k.p),cb (.ref wk),cb (.tup<|ai rs),cb (tupD pl),cb (.ref p),c5,Z,H,S,G,u,s]/\Tn SS m SV B l/\Wrk k wk lp SS m SV (SZ++aV pl 0 B l) N/\N p=cb (.lst<|ai l)/\(∀b o,b≠k.p->b≠k.q->b≠wk->b≠lp->b≠p->M b=cb o->N b=cb o)) (λ_ _ _ _=>aG) ?_ ?_ _ _ _
  ⟨[],[],rs,_,_,_,_,_,_,_,rfl,dO _,rfl,⟨trivial,trivial,rfl,rfl,rfl⟩,by simpa [aV] using w.upd g.1 g.2.1 g.2.2.1 g.2.2.2,Mem.upd_same,λb o _ _ _ _ X e=>by rw[ah X];exact e⟩
 .rintro U N ⟨B,l,A,c5,Z,H,S,G,u,s,R,F,rfl,t,w',C,f⟩
  have ez:A=[]:=by cases A with|nil=>rfl|cons _ _=>simp[ai,bF]at F
  subst ez;rw[Mq]at R;subst R;simp only[aw,bn,aa,ac,ae,bP,dg,C,Ma,dt];exact aq (h l N t w' λb o O J I Y e=>f b o O J I Y (by lia) e)
 rintro x xs U N ⟨B,l,A,c5,Z,H,S,G,u,s,R,F,rfl,t,w',C,f⟩ D' hnx _ _ _
 cases A with
 |nil=>simp[ai,bF]at F
 |cons z A=>
  simp only[ai,bF,MH]at F;obtain⟨rfl,rfl⟩:=F;have l1:=ic (rs:=rs);have ql:=bK B l pl 0;have qe:=dJ t.k;subst R;rw[OkRs_append]at ok;rw[noPks_app]at np;simp only[ba,bd]at hn hl;simp only[aS,cRs]at ha;simp only[aS,cRs,Mg,Md]at l1;simp only[bL,aD,bM,af,Mu,Md,Mp];refine⟨trivial,?_⟩;rw[<- hK];refine DV ht ih ok.2.1 np.2.1 (by lia) (by simp;lia) (by lia) w' C (by lia) g λr' Z H S G u s N' t1 w2 hp2 f2=>?_
  refine hnx _ _ ⟨B++[z],l++[r'],A,_,_,_,_,_,_,_,by simp,by simp,rfl,t.snoc t1,?_,hp2,λb o O J I Y X e=>f2 b o O J I Y X (f b o O J I Y X e)⟩
  rw[nE qe];simp only[aV,Mq,Nv];rw[<- MB];exact w2
theorem AC(e:ToldOk SS m SV):∀n:Nat,IE ad k wk lp SS m SV n
 |0=>λ_ _ _ _ _ _ _ _ h=>by lia
 |n+1=>BE e (AC e n)
end
structure PlH(m SV:Int)(SS:S_)(rows:List Rw)(mk:Str):Prop where
 t:ToldOk SS m SV
 nd:SS.Nodup
 ok:aJ SS m SV rows
 np:db rows
 h:bd rows<=4
 c:cRs rows<=60
 mkm:mk∈SS
 one:∀x∈SS,mU x
section
variable{k:Pt}
theorem tB(hp:Has k M)(h:∀(m SV:Int)(SS:S_)(rs s:List Rw)(mk:Str)(M':Mem)(p:eH),PlH m SV SS rs mk->Tn SS m SV rs s->Kq k M M'->M' p=ed->Q (.tup [aW m SV SS rs mk,aW m SV SS s mk,.ref p]) (M'.upd p<|.lst<|qd rs s)):
  vZ ad [.ref k.p,.int 20,.int 5] M Q E:=by
 rw[Kv];unfold xu;generalize hK4:k7 ad (aB E)=K4;refine⟨rfl,au λQ' E' hq _=>y6 (by decide) (by decide) hp λm SV SS rows mk M1 B k1=>hq _ _ ?_⟩
 have fr:∀{r:List Rw}{K:DK}{M:Mem},frz (aW m SV SS r mk) M K=K (aW m SV SS r mk) M:=rfl;rw[fr];have R:=de rows B.ok;have g:PlH m SV SS (cE rows) mk:=⟨B.t,B.nd,R.1,R.2.1,by rw[R.2.2.1];exact B.h,by rw[R.2.2.2];exact B.cn,B.mkm,B.one⟩
 have a3:∀r:List Rw,atI [D.int m,.tup (SS.map D.str),.int SV,.tup (ai r),.str mk] 3=cb (.tup<|ai r):=λr=>by rw[atI_3];rfl
 have S:∀r:List Rw,atI [D.int m,.tup (SS.map D.str),.int SV,.tup (ai r),.str mk] 4=cb (.str mk):=λr=>by rw[atI_4];rfl
 have e3:∀(a b c:D)(l:List D),dE (a::b::c::l) ed (cb 3)=[a,b,c]:=λa b c l=>du (k:=3);rw[<- hK4];unfold k7;generalize hK3:jR ad (aB E)=K3;simp only[af,Mu,aW,al,ap,aj,am,fO,ac,aI,bj,dC,yE,e3,frz,ax,aa,ak,ae,av,aE,a3,S,Ma,dt];have hcn:=B.cn;have hh:=B.h;refine⟨rfl,au λQ2 E2 Z _=>uO 24 rows M1 Q2 E2 SS m SV B.ok (by lia) (by lia) (Z _ _ ?_)⟩
 simp only[S,e3,aF];refine⟨aR (by simp),aR (by simp),?_⟩
 rw[<- hK3];unfold jR;generalize Y:jf ad (aB E)=K2;refine⟨aR (by simp),λlp J=>⟨aR (by simp),λwk A=>?_⟩⟩
 have F:=k1.1.nep J;have H:=k1.1.upd (o:=.lst []) F;have C:=H.nep A;have ne:wk≠lp:=λz=>by rw[z,Mem.upd_same]at A;cases A
 have I:M1 wk=none:=by rw[ah ne]at A;exact A
 have w0:Wrk k wk lp SS m SV [] _:=⟨H.upd C,⟨5,Mem.upd_same⟩,by rw[ah (MJ ne),Mem.upd_same];rfl,C.1,C.2,F.1,F.2,ne⟩
 rw[<- Y];unfold jf;generalize hK1:jb ad (aB E)=K1;simp only[al,ap,am,ak,aa,ac,aj,dC,ax,ae,av,aE,a3,af,Mu,Ma,dt];have gh:=g.h;have gc:=g.c;refine⟨aR (by simp),rfl,kd (pl:=[]) (AC B.t 24) g.ok g.np (by lia) (by simp;lia) (by simp;lia) w0 λs M3 t O f=>?_⟩
 rw[OS]at O;obtain⟨u,eu⟩:=O.w;have i1:atI [cF SS m SV,.ref lp,.int u] 1=cb (.ref lp):=by rw[atI_1];rfl
 rw[<- hK1];unfold jb;simp only[aw,ax,aa,ac,aj,am,fO,aI,bj,dC,yE,e3,frz,ae,av,aE,S,aF,List.cons_append,OS,bn,eu,i1,dG,dg,O.l,iq,Ma,dt];have ql:=bK (cE rows) s [] 0;refine⟨aR (by simp),aR (by simp),by lia,λx hx=>dL _ _ _ _ x hx,λp X=>⟨aR (by simp),aq<|h m SV SS (cE rows) s mk M3 p g t ⟨O.h,λb o h1 H e=>?_⟩ X⟩⟩
 have G:=k1.2 b o h1 H e;have b1:b≠wk:=λz=>by rw[z,I]at G;cases G
 have b2:b≠lp:=λz=>by rw[z,J]at G;cases G
 exact f b o h1 H b1 b2 (by rw[ah b1,ah b2];exact G)
end
mutual
theorem BL:∀(r o:Rw)(pl:S9),∀x∈bv pl r o,x.length<=pl.length+2*hR r
 |.ifr _ a b,o,pl=>by
  have e:=fo a;have g:=fo b;cases o with
  |ifr y a' b'=>
   intro x hx;simp only[bv,Ml]at hx;rcases hx with hx|hx
   .have:=g _ _ _ x hx
    simp only[Mg,Md,Mp]at this;simp only[hR];lia
   .have:=e _ _ _ x hx
    simp only[Mg,Md,Mp]at this;simp only[hR];lia
  |_=>intro x hx;cases hx
 |.again _ a,o,pl=>by
  have e:=fo a;cases o with
  |again y a'=>
   intro x hx;have:=e _ _ _ x hx;simp only[Mg,Md,Mp]at this;simp only[hR];lia
  |_=>intro x hx;cases hx
 |.put _ _,o,pl=>by intro x hx;rw[aU rfl]at hx;split at hx<;>simp at hx;rw[hx];lia
 |.take _ _,o,pl=>by intro x hx;rw[aU rfl]at hx;split at hx<;>simp at hx;rw[hx];lia
 |.pick _ _,o,pl=>by intro x hx;rw[aU rfl]at hx;split at hx<;>simp at hx;rw[hx];lia
 |.two _ _ _ _,o,pl=>by intro x hx;rw[aU rfl]at hx;split at hx<;>simp at hx;rw[hx];lia
theorem fo:∀(rs os:List Rw)(pl:S9)(j:Nat),∀x∈aV pl j rs os,x.length<=pl.length+1+2*bd rs
 |[],os,pl,j=>by intro x hx;cases hx
 |r::rs,os,pl,j=>by
  cases os with
  |nil=>intro x hx;cases hx
  |cons o os=>
   intro x hx;simp only[aV,Ml]at hx;rcases hx with hx|hx
   .have:=BL r o _ x hx
    simp only[Mg,Md,Mp]at this;simp only[bd];lia
   .have:=fo rs os _ _ x hx
    simp only[bd];lia
end
theorem Gd(u:cRs rs<=1000)(s:bd rs<=100):(qd rs os).length<=100000/\∀x∈qd rs os,CJ 1 x:=by
 have l:=bK rs os [] 0;refine⟨by simp[qd,(bQ _ _).length_eq];lia,λx e=>?_⟩
 simp[qd]at e;obtain⟨y,h,rfl⟩:=e;have:=fo _ _ _ _ y ((bQ _ _).mem_iff.mp h);simp only[Mp]at this;refine⟨by simp;lia,λz g=>?_⟩
 obtain⟨i,_,rfl⟩:=Nd.mp g;trivial
section
end
section
variable{a b te:bi}
abbrev Ev(te:bi)(U:Dl)(M:Mem)(d:D):Prop:=∀K:DK,K d M->te U M K
abbrev EvA(ta:dX)(U:Dl)(M:Mem)(ds:List D):Prop:=∀K:List D->Mem->Prop,K ds M->ta U M K
theorem AH{i:Nat}{d:D}(h:U[i]?=cb (cb d)):Ev (ac i) U M d:=λK q=>by simp[ac,h];exact q
theorem Li{d:D}:Ev (dC d) U M d:=λ_ q=>q
theorem yV:EvA ae U M []:=λ_ q=>q
theorem jX{t:dX}{d:D}{ds:List D}(e:Ev a U M d)(h2:EvA t U M ds):EvA (aa a t) U M (d::ds):=λ_ q=>e _ (h2 _ q)
theorem cw{s u:az}(h:s { D0 with nx:=u D0 } U M):al s u D0 U M:=h
end
section
variable{k:Pt}
end
theorem o5:∀bs:List Bool,iU (bs.map D.bl)=cb bs
 |[]=>rfl
 |b::bs=>by rw[Ms,iU,o5 bs]
theorem gj:∀SS:List Str,fZ (SS.map D.str)=cb SS
 |[]=>rfl
 |x::SS=>by rw[Ms,fZ,gj _]
theorem iB{n:Nat}:∀ss:List Str,fits n (ss.map D.str)=true
 |[]=>rfl
 |x::ss=>by rw[Ms,fits,iB ss];rfl
theorem me(x:Str):∀ss:List Str,((ss.map D.str).any λd=>aH d (.str x))=decide (x∈ss)
 |[]=>by simp
 |y::ss=>by
  rw[Ms,OC,me x ss,aH]
  by_cases e:y=x
  .subst e;simp
  simp[e,MJ e]
section
theorem dR{e g:Int}(l:e<=i)(h2:i<=g)(h:Q (.bl true) M):mx ad [.int i,.int e,.int g] M Q E:=by
 simp![Kx,wx,t1,t2];rw[decide_eq_true l,decide_eq_true h2];exact aq h
theorem BJ{c:Nat}(h:97<=c):(!decide (([c]:List Nat)<(Mw "a").cps.toList))=true:=by
 have e:(Mw "a").cps.toList=[97]:=by rfl
 rw[e,Pp,decide_eq_false_iff_not];intro z;rcases (QF.mp z) with y|⟨_,y⟩
 .lia
 trivial
theorem BG{c:Nat}(h:c<=122):(!decide ((Mw "z").cps.toList<([c]:List Nat)))=true:=by
 have e:(Mw "z").cps.toList=[122]:=by rfl
 rw[e,Pp,decide_eq_false_iff_not];intro z;rcases (QF.mp z) with y|⟨_,y⟩
 .lia
 trivial
theorem xU(h:mU x):1<=x.length/\x.length<=8/\∀c∈x.cps.toList,97<=c/\c<=122:=by
 obtain⟨n,c,s,l,u,w,rfl⟩:=h;have e:Str.length ⟨ND n c⟩=n:=by show Array.size _=n;simp
 rw[e];exact⟨s,l,λd g=>by simp at g;lia⟩
theorem qx(R:mU x)(h:Q (.bl true) M):vC ad [.str x] M Q E:=by
 obtain⟨S,I,F⟩:=xU R;have H:x.cps.all (· < 128)=true:=by
  rw[<- Array.all_toList,Py];intro c z;have:=F c z;simp;lia
 have J:x.cps.toList.length<=100:=by exact My I (by decide)
 simp![JN,w_,t3,↓bf];refine⟨aR (by lia),?_⟩
 rw[decide_eq_true (by lia)]
 simp only[decide_eq_true (show (x.length:Int)<=8 by lia),if_false]
 refine⟨H,?_⟩;refine aT (λB SZ U M'=>∃(e:List _)(j:Nat)(l:Option D),B=e.map _/\(∀z∈e,97<=z/\z<=122)/\e.length+j<=100/\SZ=Mh j (.bl true)/\U=[l]/\M'=M) (λ_ _ _ _ _=>aG) ?_ ?_ ?_ _ _ _ _ ⟨_,0,_,rfl,F,by lia,rfl,rfl,rfl⟩
 .rintro SZ U M' ⟨e,j,l,g,s,A,rfl,rfl,rfl⟩ p u
  simp![Mem.upd_del,ar u,ci,dN];exact aq h
 .rintro y B SZ U M' ⟨e,j,l,g,s,A,rfl,rfl,rfl⟩ N G _
  cases e with
  |nil=>simp at g
  |cons z e=>
   simp at g;obtain⟨rfl,rfl⟩:=g;simp at A;have C:=s z (Nh ..);simp![BJ C.1,BG C.2];exact G _ _ _ (by simp;exact eE (by lia)) ⟨e,j+1,_,rfl,λw O=>s w (MA _ O),by lia,by rw[NG],rfl,rfl⟩
 rintro y B SZ U M' ⟨e,j,l,g,s,A,rfl,rfl,rfl⟩
 simp;exact eE (by lia)
theorem mZ(w:∀x∈SS,mU x)(F:1<=SS.length)(n1:SS.length<=12)(C:(kO [] SS).length=SS.length)(h:Q (.bl true) M):vL ad [.tup (SS.map D.str)] M Q E:=by
 simp![Ka,wQ,t4,↓bf,Mc];rw[decide_eq_true (by lia)]
 simp[decide_eq_true (show (SS.length:Int)<=12 by lia),if_false]
 refine aT (λs SZ U M'=>∃(rs:List _)(j:Nat)(g:Option D),(∀x∈rs,mU x)/\j+rs.length<=12/\s=rs.map _/\SZ=Mh j (.bl true)/\U=[g]/\M'=M) (λ_ _ _ _ _=>aG) ?_ ?_ ?_ _ _ _ _ ⟨_,0,_,w,by lia,rfl,rfl,rfl,rfl⟩
 .rintro SZ U M' ⟨rs,j,g,_,_,e,rfl,rfl,rfl⟩ p l
  simp![Mem.upd_del,ar l,ci,dN,gj,Mc];refine⟨by lia,?_⟩
  rw[C,decide_eq_true rfl];exact aq h
 .rintro y s SZ U M' ⟨rs,j,g,u,B,e,rfl,rfl,rfl⟩ N A _
  cases rs with
  |nil=>simp at e
  |cons r rs=>
   simp at e;obtain⟨rfl,rfl⟩:=e;simp at B;simp![];refine aK (λQ' E'=>qx (u r<|by simp)) ?_
   exact A _ _ _ (by simp;exact eE (by lia)) ⟨rs,j+1,_,λx w=>u x (by simp_all),by lia,rfl,by rw[NG],rfl,rfl⟩
 rintro y s SZ U M' ⟨rs,j,g,_,_,e,rfl,rfl,rfl⟩
 simp;exact eE (by lia)
theorem wA{s e g u:D}(l:x∈SS)(h:Q (.bl true) M):qG ad [.tup [s,.tup (SS.map D.str),e,g,u],.str x] M Q E:=by
 simp![Ld,vw,t3,atI_1,iB,me,decide_eq_true l];exact aq h
end
theorem n1:((Mw "number":Str)=Mw "name")=False:=eq_false (by trivial)
theorem n2:((Mw "piece":Str)=Mw "name")=False:=eq_false (by trivial)
theorem n3:((Mw "piece":Str)=Mw "number")=False:=eq_false (by trivial)
theorem n4:((Mw "rows":Str)=Mw "name")=False:=eq_false (by trivial)
theorem n5:((Mw "rows":Str)=Mw "number")=False:=eq_false (by trivial)
theorem n6:((Mw "rows":Str)=Mw "piece")=False:=eq_false (by trivial)
section
variable{d3 d4:D}
noncomputable def qR(m SV:Int)(SS:S_)(d3 d4:D):D:=.tup [.int m,.tup (SS.map D.str),.int SV,d3,d4]
inductive Pk(SS:S_)(m SV:Int):Str->D->Prop
 |nm {x:Str} (h:x∈SS):Pk SS m SV "name" (.str x)
 |nu {i:Int} (h0:0<=i) (h1:i<m):Pk SS m SV "number" (.int i)
 |pc {i:Int} (h0:0<=i) (h1:i<SV):Pk SS m SV "piece" (.int i)
 |rw {d:D}:Pk SS m SV "rows" d
theorem xQ{k:Str}{d:D}(p:Pk SS m SV k d)(h:Q (.bl true) M):nQ ad [qR m SV SS d3 d4,.str k,d] M Q E:=by
 cases p with
 |nm hx=>
  simp![wc,mj,qR];exact au λQ' E' e _=>wA hx (e _ _<|aq h)
 |nu h0 h1=>
  simp![wc,mj,qR];exact au λQ' E' e _=>dR h0 (by lia) (e _ _<|aq h)
 |pc h0 h1=>
  simp![wc,mj,qR];exact au λQ' E' e _=>dR h0 (by lia) (e _ _<|aq h)
 |rw=>
  simp![wc,mj,qR];exact aq h
noncomputable def GD:Rw->List (Str×D)
 |.put x k=>[("name",.str x),("number",.int k)]
 |.take x k=>[("name",.str x),("piece",.int k)]
 |.pick x y=>[("name",.str x),("name",.str y)]
 |.two _ x y z=>[("name",.str x),("name",.str y),("name",.str z)]
 |.ifr x a b=>[("name",.str x),("rows",.tup (ai a)),("rows",.tup (ai b))]
 |.again x a=>[("name",.str x),("rows",.tup (ai a))]
noncomputable def Jn(r:Rw):List D:=(GD r).map λp=>.str p.1
theorem Iv(ok:ck SS m SV r):eR cA (fK r)=cb (.mt<|Jn r):=by
 cases r with
 |two w x y z=>rcases ok.1 with rfl|rfl|rfl|rfl<;>simp![fK,Jn,GD,cA,eR]
 |_=>rfl
theorem Ix(r:Rw):qK (Jn r) (.str (vR r)::GR r)=(GD r).map λp=>D.tup [.str p.1,p.2]:=by cases r<;>rfl
theorem Es(r:Rw):((Jn r).any λd=>aH d (D.str "rows"))=aQ r:=by
 cases r<;>simp[Jn]<;>rfl
theorem Iw(r:Rw):fits 60 (Jn r)=true:=by cases r<;>rfl
theorem Hz(r:Rw):(GR r).length+2=(Jn r).length+1:=by cases r<;>rfl
theorem KF(ok:ck SS m SV r):∀p∈GD r,Pk SS m SV p.1 p.2:=by
 intro p e;cases r<;>simp[GD]at e
 .rcases e with rfl|rfl;exact .nm ok.1;exact .nu ok.2.1 ok.2.2
 .rcases e with rfl|rfl;exact .nm ok.1;exact .pc ok.2.1 ok.2.2
 .rcases e with rfl|rfl;exact .nm ok.1;exact .nm ok.2.1
 .rcases e with rfl|rfl|rfl;exact .nm ok.2.1;exact .nm ok.2.2.1;exact .nm ok.2.2.2
 .rcases e with rfl|rfl|rfl;exact .nm ok.1;exact .rw;exact .rw
 rcases e with rfl|rfl;exact .nm ok.1;exact .rw
theorem FV(r:Rw):(GD r).length<=3:=by cases r<;>simp[GD]
end
section
variable{d3 d4:D}
theorem s_{ks:List (Str×D)}(w:∀p∈ks,Pk SS m SV p.1 p.2)(F:ks.length<=10)(C:okM M){Q:List D->Mem->Prop}{b:BxC (bL 2<|aD (af 0)<|aD (af 1) bM) cM (am<|ak (nQ ad) md 3<|aa (ac 2)<|aa (ac 0)<|aa (ac 1) ae) okM Q}{g e:Option D}(h:Q (Mh ks.length<|.bl true) M):dM (bL 2<|aD (af 0)<|aD (af 1) bM) cM (am<|ak (nQ ad) md 3<|aa (ac 2)<|aa (ac 0)<|aa (ac 1) ae) okM Q b (ks.map λp=>D.tup [.str p.1,p.2]) [] [g,e,cb (qR m SV SS d3 d4)] M:=by
 refine aT (λu SZ U N=>∃(rs:List _)(j:Nat)(g e:Option D),(∀p∈rs,Pk _ m _ p.1 p.2)/\j+rs.length=ks.length/\u=(rs.map _)/\SZ=Mh j (.bl true)/\U=[g,e,cb _]/\N=M) (by lia) ?_ ?_ ?_ _ _ _ _ ⟨ks,0,g,e,w,by lia,rfl,rfl,rfl,rfl⟩
 .rintro SZ U N ⟨rs,j,g,e,_,s,l,rfl,rfl,rfl⟩
  simp_all
 .rintro x u SZ U N ⟨rs,j,g,e,hr,s,l,rfl,rfl,rfl⟩ N' A B
  cases rs with
  |nil=>simp at l
  |cons r rs=>
   obtain⟨rfl,rfl⟩:=l;simp at s;simp![];exact aK (λQ' E'=>xQ (hr r<|by simp)) (A _ _ _ (by simp;exact eE (by lia)) ⟨rs,j+1,_,_,λp w=>hr p (MA _ w),by lia,rfl,by rw[NG],rfl,rfl⟩)
 rintro x u SZ U N ⟨rs,j,g,e,_,s,l,rfl,rfl,rfl⟩
 simp;exact eE (by lia)
theorem tS{d:Nat}(ok:ck SS m SV r)(H:aQ r=true->d≠4)(h:Q (.bl true) M):nM ad [qR m SV SS d3 d4,r.d,.int (d:Nat)] M Q E:=by
 have l:cy r=true->¬SV=0:=λe=>by
  cases r with
  |pick x y=>have:=ok.2.2;lia
  |_=>cases e
 have B:=Iv ok;have wp:=wO ok;have I:=Hz r;have lk:=FV r;have g:∀(x:D)(C:List D),dE (x::C) (cb 1) ed=C:=λx C=>xh (k:=1);have G:atI [D.int m,.tup (SS.map D.str),.int SV,d3,d4] 2=cb (.int SV):=by rw[atI_2];rfl
 rw[Lo,fR];unfold x6;generalize A:jg ad (aB E)=K5;simp![i4,t4,i16,t3,atI_0,Md];rw[if_neg (by lia)]
 rw[<- A];unfold jg;generalize s:jN ad (aB E)=K4;simp![atI_0];rw[<- s];unfold jN;generalize w:ki ad (aB E)=K3;simp![B,Md];rw[decide_eq_true (by lia),Np,if_neg (by simp),<- w]
 unfold ki;generalize F:jB ad (aB E)=K2;have t2:K2 { nx:=λ_ M'=>drp Q .non M',rt:=drp Q } [cb (qR m SV SS d3 d4),cb (.tup (.str (fK r)::.str (vR r)::GR r)),cb (.int (d:Nat)),cb (.str<|fK r)] M:=by
  rw[<- F];unfold jB;generalize u:pE ad (aB E)=K1;have t1:K1 { nx:=λ_ M'=>drp Q .non M',rt:=drp Q } [cb (qR m SV SS d3 d4),cb (.tup (.str (fK r)::.str (vR r)::GR r)),cb (.int (d:Nat)),cb (.str<|fK r)] M:=by
   rw[<- u];simp![B,g,Ix,↓bf];refine s_ (KF ok) (by lia) aG λp l=>?_
   simp![Mem.upd_del,ar l,ci,dN];exact aq h
  simp![B,Es,Iw];cases c:aQ r with
  |false=>exact t1
  |true=>
   have:=H c;simp![];rw[if_neg (by lia)]
   exact t1
 by_cases c:fK r=Mw "pick"
 .unfold qR at t2 ⊢
  simp![G];rw[if_pos c];rw[if_neg (l<|by rw[<- wp];exact decide_eq_true c)]
  exact t2
 .simp![]
  rw[if_neg c];exact t2
end
noncomputable def wR:Rw->List (List Rw)
 |.ifr _ a b=>[a,b]
 |.again _ a=>[a]
 |_=>[]
noncomputable def prt(a:List Rw):D:=.tup (ai a)
theorem fY{c:eO}{l:az}{DD:DEnds}{b:BxW c l DD}(I:Nat->Dl->Mem->Prop)
  (s:∀m U M,I m U M->∀D':DEnds,(∀g e M',g<m->I g e M'->D'.nx e M')->D'.rt=DD.rt->c U M λk M1=>if k=true then l D' U M1 else DD.nx U M1):∀n m U M,m<n->I m U M->fX c l DD b n U M
 |0,m,U,M,h,_=>by lia
 |n+1,m,U,M,h,i=>s m U M i _ (λg e M' q u=>fY I s n g _ M' (by lia) u) rfl
noncomputable def sC:List (List Rw×Nat)->Nat
 |[]=>0
 |w::l=>cRs w.1+sC l
theorem cQ:∀a b:List (List Rw×Nat),sC (a++b)=sC a+sC b
 |[],b=>by simp[sC]
 |x::a,b=>by simp[sC,cQ a b];lia
noncomputable def within(d:Nat)(rows:List Rw):List (List Rw×Nat):=(rows.flatMap wR).map λa=>(a,d)
theorem mK(d:Nat)(a b:List Rw):within d (a++b)=within d a++within d b:=by simp[within]
theorem Ke(d:Nat)(r:Rw):sC ((wR r).map λa=>(a,d))+1=cR r:=by cases r<;>simp[wR,sC,cR]<;>lia
theorem At(r:Rw):(wR r).length<=2:=by cases r<;>simp[wR]
theorem n_(d:Nat):∀rows:List Rw,sC (within d rows)+rows.length=cRs rows
 |[]=>rfl
 |r::rows=>by
  have g:=Ke d r;have e:=n_ d rows;have:within d (r::rows)=((wR r).map λa=>(a,d))++within d rows:=by simp[within]
  rw[this,cQ];simp[cRs];lia
theorem g6(d:Nat):∀rows:List Rw,(within d rows).length<=2*rows.length
 |[]=>by simp[within]
 |r::rows=>by
  have g:=At r;have e:=g6 d rows;have:within d (r::rows)=((wR r).map λa=>(a,d))++within d rows:=by simp[within]
  rw[this];simp;lia
noncomputable def oi(W:List (List Rw×Nat)):Nat:=W.length+2*sC W
noncomputable def y9(w:List Rw×Nat):D:=.tup [prt w.1,.int (w.2:Nat)]
section
variable{d3 d4:D}
theorem oU:∀{rs:List Rw}{r:Rw},aJ SS m SV rs->r∈rs->ck SS m SV r/\hR r<=bd rs
 |s::rs,r,o,h=>by
  simp[bd];rcases Mm.mp h with rfl|h
  .exact⟨o.1,by lia⟩
  have:=oU o.2 h;exact⟨this.1,by lia⟩
theorem JV(o:ck SS m SV r)(h:a∈wR r):aJ SS m SV a/\bd a+1<=hR r:=by
 cases r with
 |ifr x a b=>
  simp[wR,or_false]at h;simp[hR];rcases h with rfl|rfl
  .exact⟨o.2.1,by lia⟩
  exact⟨o.2.2,by lia⟩
 |again x a=>
  simp[wR,or_false]at h;simp[hR];subst h;exact⟨o.2,by lia⟩
 |_=>simp[wR]at h
theorem JT(r:Rw):yF r=(wR r).map prt:=by cases r<;>rfl
theorem Jw(h:aQ r=true):1<=hR r:=by
 cases r with
 |ifr x a b=>simp only[hR];lia
 |again x a=>simp only[hR];lia
 |_=>cases h
theorem xB{l:List Rw}{d:Nat}(o:aJ SS m SV l)(I:bd l+d<=4)(J:l.length<=500)(H:okM M){Q:List D->Mem->Prop}{b:BxC (af 0) cM (am<|ak (nM ad) md 3<|aa (ac 1)<|aa (ac 0)<|aa (ac 2) ae) okM Q}{c:Option D}(h:Q (Mh l.length<|.bl true) M):dM (af 0) cM (am<|ak (nM ad) md 3<|aa (ac 1)<|aa (ac 0)<|aa (ac 2) ae) okM Q b (ai l) [] [c,cb (qR m SV SS d3 d4),cb (.int (d:Nat))] M:=by
 refine aT (λA SZ U N=>∃(g rs:List Rw)(u:Option D),l=g++rs/\A=ai rs/\SZ=Mh g.length (.bl true)/\U=[u,cb _,cb _]/\N=M) (λ_ _ _ _ z=>by obtain⟨_,_,_,_,_,_,_,e⟩:=z;simp_all) ?_ ?_ ?_ _ _ _ _ ⟨[],l,c,rfl,rfl,rfl,rfl,rfl⟩
 .rintro SZ U N ⟨g,rs,u,s,w,rfl,rfl,rfl⟩
  have:rs=[]:=by cases rs<;>trivial
  simp_all
 .rintro x A SZ U N ⟨g,rs,u,s,w,rfl,rfl,rfl⟩ N' C F
  cases rs with
  |nil=>trivial
  |cons r rs=>
   simp[ai]at w;obtain⟨rfl,rfl⟩:=w;have B:g.length<=500:=by have:=congrArg MI s;simp at this;lia
   obtain⟨or,hr⟩:=oU o (show r∈l by rw[s];simp)
   simp![];exact aK (λQ' E' q=>tS or (λG=>by have:=Jw G;lia) q) (C _ _ _ (by simp;exact eE (by lia)) ⟨g++[r],rs,_,by rw[s];simp,rfl,by simp[NG],rfl,rfl⟩)
 rintro x A SZ U N ⟨g,rs,u,s,w,rfl,rfl,rfl⟩
 have B:g.length<=500:=by have:=congrArg MI s;simp at this;lia
 simp;exact eE (by lia)
theorem xO{l:List (List Rw)}{d:Nat}(H:l.length<=10)(G:okM M){Q:List D->Mem->Prop}{b:BxC (af 0) cM (ax<|aa (ac 0)<|aa (aj aF (ac 1)<|dC<|.int 1) ae) okM Q}{c:Option D}(h:Q ((l.map λa=>(a,d+1)).map y9) M):dM (af 0) cM (ax<|aa (ac 0)<|aa (aj aF (ac 1)<|dC<|.int 1) ae) okM Q b (l.map prt) [] [c,cb (.int (d:Nat))] M:=by
 refine aT (λA SZ U N=>∃(g rs:List _)(w:Option D),l=g++rs/\A=rs.map _/\SZ=(g.map λa=>(a,d+1)).map y9/\U=[w,cb _]/\N=M) (λ_ _ _ _ z=>by obtain⟨_,_,_,_,_,_,_,e⟩:=z;simp_all) ?_ ?_ ?_ _ _ _ _ ⟨[],l,c,rfl,rfl,rfl,rfl,rfl⟩
 .rintro SZ U N ⟨g,rs,w,s,u,rfl,rfl,rfl⟩
  simp_all
 .rintro x A SZ U N ⟨g,rs,w,s,u,rfl,rfl,rfl⟩ N' C F
  cases rs with
  |nil=>simp at u
  |cons r rs=>
   simp at u;obtain⟨rfl,rfl⟩:=u;have B:g.length<=10:=by have:=congrArg MI s;simp at this;lia
   simp![];refine⟨aR (by decide),C _ _ _ (by simp;exact eE (by lia)) ⟨g++[r],rs,_,by rw[s];simp,rfl,by simp[y9],rfl,rfl⟩⟩
 rintro x A SZ U N ⟨g,rs,w,s,u,rfl,rfl,rfl⟩
 have B:g.length<=10:=by have:=congrArg MI s;simp at this;lia
 simp;exact eE (by lia)
theorem ar2{W0:List (List Rw×Nat)}{d:Nat}{A B C:D}{g:Option D}(X:A=qR m SV SS d3 d4)(H:aJ SS m SV a)(Y:bd a+d<=4)(la:a.length<=60)(lw:W0.length<=1000)(h:∀g,D2.nx [cb A,cb B,cb (.ref p),cb C,cb (.tup<|ai a),cb (.int (d:Nat)),g] (M.upd p<|.lst<|(W0++within (d+1) a).map y9)):
  jO ad EE D2 [cb A,cb B,cb (.ref p),cb C,cb (.tup<|ai a),cb (.int (d:Nat)),g] (M.upd p<|.lst<|W0.map y9):=by
 subst X;refine bS ?_;generalize I:cK _ _ _=F;refine xB H Y (by lia) aG λq R=>?_
 simp![Mem.upd_del,ar R,ci,dN];rw[<- I];refine br (λG U N=>∃(e rs:List Rw)(g:Option D),a=e++rs/\G=ai rs/\U=[cb _,cb B,cb _,cb C,cb _,cb _,g]/\N=M.upd p (.lst<|(W0++within (d+1) e).map y9)) (λ_ _ _ _=>aG) ?_ ?_ _ _ _ ⟨[],a,_,rfl,rfl,rfl,by simp[within]⟩
 .rintro U N ⟨e,rs,g,l,u,rfl,rfl⟩
  have:rs=[]:=by cases rs<;>trivial
  subst this;rw[Mq]at l;subst l;exact h _
 rintro x G U N ⟨e,rs,g,l,u,rfl,rfl⟩ D3 s _ _ _
 cases rs with
 |nil=>simp[ai]at u
 |cons r rs=>
  simp only[ai,MH]at u;obtain⟨rfl,rfl⟩:=u;obtain⟨or,_⟩:=oU H (show r∈a by rw[l];simp)
  have J:=At r;have O:=g6 (d+1) e;have S:e.length<=60:=by have:=congrArg MI l;simp at this;lia
  simp![↓bf];refine bE or ?_;rw[JT];refine xO (by lia) aG λZ w=>?_
  simp![Mem.upd_del,ar w,Mem.upd_upd];refine⟨aR ?_,s _ _ ⟨e++[r],rs,_,by rw[l];simp,rfl,rfl,?_⟩⟩
  .simp only[Mc,Mg];lia
  rw[mK,<- Nt,MB];simp[within]
theorem om(o:aJ SS m SV rows)(hh:bd rows<=4)(hc:cRs rows<=60)(h:Q (.bl true) M):wS ad [qR m SV SS (.tup<|ai rows) d4] M Q E:=by
 rw[Kw];unfold vG lO pJ;generalize C:jZ ad (aB E)=K8;simp![qR,atI_3,iz];refine⟨aR (by decide),aR (by decide),λp hp=>⟨2*cRs rows+2,?_⟩⟩
 refine fY (λk U N=>∃(W:List (List Rw×Nat))(c:Nat)(O I H G:Option D),k=oi W/\(∀w∈W,aJ SS m SV w.1/\bd w.1+w.2<=4)/\c+sC W<=60/\oi W<=1000/\U=[cb (qR m SV SS (.tup<|ai rows) d4),cb (.int (c:Nat)),cb (.ref p),O,I,H,G]/\N=M.upd p (.lst<|W.map y9)) ?_ _ (oi [(rows,0)]) _ _ (by simp only[oi,sC,Nz];lia) ⟨[(rows,0)],0,_,_,_,_,rfl,λw e=>by rw[MM]at e;subst e;exact⟨o,by simpa using hh⟩,by simp only[sC];lia,by simp only[oi,sC,Nz];lia,rfl,rfl⟩
 rintro k U N ⟨W,c,O,I,H,G,X,e,u,l,rfl,rfl⟩ D' A hrt
 rcases List.eq_nil_or_concat W with rfl|⟨W0,⟨a,d⟩,rfl⟩
 .simp![List.isEmpty_nil]
  exact jY hp h
 .rw[List.concat_eq_append] at*
  have Z:(QJ y9 (W0++[(a,d)])).isEmpty=false:=by simp
  have Y:(QJ y9 (W0++[(a,d)]))[(QJ y9 (W0++[(a,d)])).length-1]?=cb (.tup [.tup (ai a),.int (d:Nat)]):=by simp[y9,prt]
  have S:(QJ y9 (W0++[(a,d)])).dropLast=W0.map y9:=by simp
  have g:(ai a).length=a.length:=bg;simp only[oi,Mg,Nz,cQ,sC,Nat.add_zero]at X u l;have hin:=n_ (d+1) a;have R:=g6 (d+1) a;obtain⟨F,J⟩:=e (a,d) (by simp)
  dsimp only at F J;simp![Z];rw[<- C];unfold jZ oY p_ pj pq pP;generalize s:jO ad (aB E)=K2;simp![Y,S,atI_0,atI_1,i4,t4,Mem.upd_upd,g];rw[if_neg (by lia),<- s]
  refine ar2 rfl F J (by lia) (by lia) λG=>A (oi (W0++within (d+1) a)) _ _ ?_ ⟨W0++within (d+1) a,c+a.length,_,_,_,_,rfl,?_,?_,?_,by rw[Int.natCast_add],rfl⟩
  .simp only[oi,Mg,cQ];lia
  .intro w B
   rcases Ml.mp B with z|z
   .exact e w (by simp[z])
   .simp only[within,Nd,List.mem_flatMap]at z
    obtain⟨b,⟨r,hr,hb⟩,rfl⟩:=z;obtain⟨or,h1⟩:=oU F hr;obtain⟨ob,h2⟩:=JV or hb;exact⟨ob,by show bd b+(d+1)<=4;lia⟩
  .rw[cQ];lia
  .simp only[oi,Mg,cQ];lia
theorem rH(l:2<=m)(g:m<=997)(k0:0<=SV)(k1:SV<=40)(u:∀x∈SS,mU x)(A:1<=SS.length)(n1:SS.length<=12)(e:(kO [] SS).length=SS.length)(s:mk∈SS)(o:aJ SS m SV rows)(w:bd rows<=4)(B:cRs rows<=60)(h:Q (.bl true) M):qL ad [qR m SV SS (.tup<|ai rows) (.str mk)] M Q E:=by
 simp![Km,vI,qR,t4];refine aK (λQ' E' q=>dR l g q) ?_;simp![atI_2];refine aK (λQ' E' q=>dR k0 k1 q) ?_;simp![atI_1];refine aK (λQ' E' q=>mZ u A n1 e q) ?_;simp![atI_4];refine aK (λQ' E' q=>wA s q) ?_;simp![];exact aK (λQ' E' q=>om o w B q) (aq h)
end
mutual
noncomputable def kP(nm:Str)(f:List Int->Option Int)(pl:S9):Rw->Rw->List Rw
 |.ifr x a b,o=>match o with
  |.ifr _ a' b'=>[.ifr x (bH nm f (pl++[1]) 0 a a') (bH nm f (pl++[0]) 0 b b')]
  |_=>[]
 |.again x a,o=>match o with
  |.again _ a'=>[.again x (bH nm f (pl++[0]) 0 a a')]
  |_=>[]
 |r,o=>match f pl with
  |some k=>[.take nm k,.ifr nm [o] [r]]
  |none=>[r]
noncomputable def bH(nm:Str)(f:List Int->Option Int)(pl:S9):Nat->List Rw->List Rw->List Rw
 |_,[],_=>[]
 |j,r::rs,os=>match os with
  |[]=>[]
  |o::os=>kP nm f (pl++[(j:Int)]) r o++bH nm f pl (j+1) rs os
end
mutual
theorem mE:∀(r o:Rw)(pl:S9),∀x∈bv pl r o,∃t,x=pl++t
 |.ifr _ a b,o,pl=>by
  have g:=bo a;have h:=bo b;cases o with
  |ifr y a' b'=>
   intro x hx;simp only[bv,Ml]at hx;rcases hx with hx|hx
   .obtain⟨i,t,_,e⟩:=h _ _ _ x hx
    exact⟨[0]++(i:Int)::t,by rw[e];simp⟩
   .obtain⟨i,t,_,e⟩:=g _ _ _ x hx
    exact⟨[1]++(i:Int)::t,by rw[e];simp⟩
  |_=>intro x hx;cases hx
 |.again _ a,o,pl=>by
  have g:=bo a;cases o with
  |again y a'=>
   intro x hx;obtain⟨i,t,_,e⟩:=g _ _ _ x hx;exact⟨[0]++(i:Int)::t,by rw[e];simp⟩
  |_=>intro x hx;cases hx
 |.put _ _,o,pl=>by intro x hx;simp only[bv]at hx;split at hx<;>simp at hx;exact⟨[],by rw[hx];simp⟩
 |.take _ _,o,pl=>by intro x hx;simp only[bv]at hx;split at hx<;>simp at hx;exact⟨[],by rw[hx];simp⟩
 |.pick _ _,o,pl=>by intro x hx;simp only[bv]at hx;split at hx<;>simp at hx;exact⟨[],by rw[hx];simp⟩
 |.two _ _ _ _,o,pl=>by intro x hx;simp only[bv]at hx;split at hx<;>simp at hx;exact⟨[],by rw[hx];simp⟩
theorem bo:∀(rs os:List Rw)(pl:S9)(j:Nat),∀x∈aV pl j rs os,∃(i:Nat)(t:S9),j<=i/\x=pl++(i:Int)::t
 |[],os,pl,j=>by intro x hx;cases hx
 |r::rs,os,pl,j=>by
  cases os with
  |nil=>intro x hx;cases hx
  |cons o os=>
   intro x hx;simp only[aV,Ml]at hx;rcases hx with hx|hx
   .obtain⟨t,e⟩:=mE r o _ x hx
    exact⟨j,t,Mo _,by rw[e];simp⟩
   .obtain⟨i,t,h,e⟩:=bo rs os _ _ x hx
    exact⟨i,t,by lia,e⟩
end
theorem fI{j:Int}{s t:S9}(h:pl++i::s=pl++j::t):i=j/\s=t:=by
 simpa using (List.append_cancel_left h)
mutual
theorem Dh:∀(r o:Rw)(pl:S9),(bv pl r o).Nodup
 |.ifr _ a b,o,pl=>by
  have g:=fi a;have h:=fi b;cases o with
  |ifr y a' b'=>
   simp only[bv];refine NH.mpr ⟨h _ _ _,g _ _ _,λx l y u e=>?_⟩;obtain⟨i,s,_,w⟩:=bo _ _ _ _ x l;obtain⟨j,t,_,A⟩:=bo _ _ _ _ y u;rw[w,A]at e;simp only[MB,MN]at e;have:=(fI e).1;lia
  |_=>exact P7
 |.again _ a,o,pl=>by
  have g:=fi a;cases o with
  |again y a'=>exact g _ _ _
  |_=>exact P7
 |.put _ _,o,pl=>by simp only[bv];split<;>simp
 |.take _ _,o,pl=>by simp only[bv];split<;>simp
 |.pick _ _,o,pl=>by simp only[bv];split<;>simp
 |.two _ _ _ _,o,pl=>by simp only[bv];split<;>simp
theorem fi:∀(rs os:List Rw)(pl:S9)(j:Nat),(aV pl j rs os).Nodup
 |[],os,pl,j=>by simp[aV]
 |r::rs,os,pl,j=>by
  cases os with
  |nil=>simp[aV]
  |cons o os=>
   simp only[aV];refine NH.mpr ⟨Dh r o _,fi rs os _ _,λx g y h e=>?_⟩;obtain⟨t,l⟩:=mE r o _ x g;obtain⟨i,u,w,s⟩:=bo _ _ _ _ y h;rw[l,s]at e;simp only[MB,MN]at e;have:=(fI e).1;lia
end
mutual
def nbR(L:S8)(pl:S9):Rw->Rw->Prop
 |.ifr _ a b,o=>match o with
  |.ifr _ a' b'=>pl∉L/\lg L (pl++[1]) 0 a a'/\lg L (pl++[0]) 0 b b'
  |_=>True
 |.again _ a,o=>match o with
  |.again _ a'=>pl∉L/\lg L (pl++[0]) 0 a a'
  |_=>True
 |_,_=>True
def lg(L:S8)(pl:S9):Nat->List Rw->List Rw->Prop
 |_,[],_=>True
 |j,r::rs,os=>match os with
  |[]=>True
  |o::os=>nbR L (pl++[(j:Int)]) r o/\lg L pl (j+1) rs os
end
theorem qi{t:S9}{c:Int}:pl≠pl++[c]++i::t:=λe=>by
 simp_all
mutual
theorem DP(L:S8):∀(r o:Rw)(pl:S9),(∀x∈L,(∃t,x=pl++t)->x∈bv pl r o)->nbR L pl r o
 |.ifr _ a b,o,pl=>by
  have u:=eY L a;have w:=eY L b;cases o with
  |ifr y a' b'=>
   intro H;simp only[bv,Ml]at H;refine⟨λl=>?_,u _ _ _ λx h ⟨i,t,_,e⟩=>?_,w _ _ _ λx h ⟨i,t,_,e⟩=>?_⟩
   .rcases H _ l ⟨[],by simp⟩ with z|z
    .obtain⟨i,t,_,e⟩:=bo _ _ _ _ _ z
     exact qi e
    .obtain⟨i,t,_,e⟩:=bo _ _ _ _ _ z
     exact qi e
   .rcases H x h ⟨[1]++(i:Int)::t,by rw[e];simp⟩ with z|z
    .obtain⟨j,s,_,g⟩:=bo _ _ _ _ _ z
     rw[e]at g;simp only[MB,MN]at g;have:=(fI g).1;lia
    .exact z
   .rcases H x h ⟨[0]++(i:Int)::t,by rw[e];simp⟩ with z|z
    .exact z
    .obtain⟨j,s,_,g⟩:=bo _ _ _ _ _ z
     rw[e]at g;simp only[MB,MN]at g;have:=(fI g).1;lia
  |_=>intro _;trivial
 |.again _ a,o,pl=>by
  have u:=eY L a;cases o with
  |again y a'=>
   intro H;simp only[bv]at H;refine⟨λl=>?_,u _ _ _ λx h ⟨i,t,_,e⟩=>H x h ⟨[0]++(i:Int)::t,by rw[e];simp⟩⟩
   obtain⟨i,t,_,e⟩:=bo _ _ _ _ _ (H _ l ⟨[],by simp⟩)
   exact qi e
  |_=>intro _;trivial
 |.put _ _,o,pl=>λ_=>trivial
 |.take _ _,o,pl=>λ_=>trivial
 |.pick _ _,o,pl=>λ_=>trivial
 |.two _ _ _ _,o,pl=>λ_=>trivial
theorem eY(L:S8):∀(rs os:List Rw)(pl:S9)(j:Nat),(∀x∈L,(∃(i:Nat)(t:S9),j<=i/\x=pl++(i:Int)::t)->x∈aV pl j rs os)->lg L pl j rs os
 |[],os,pl,j=>λ_=>trivial
 |r::rs,os,pl,j=>by
  cases os with
  |nil=>intro _;trivial
  |cons o os=>
   intro H;simp only[aV,Ml]at H;refine⟨DP L r o _ λx h ⟨t,e⟩=>?_,eY L rs os _ _ λx h ⟨i,t,l,e⟩=>?_⟩
   .rcases H x h ⟨j,t,Mo _,by rw[e];simp⟩ with z|z
    .exact z
    .obtain⟨i,s,l,g⟩:=bo _ _ _ _ _ z
     rw[e]at g;simp only[MB,MN]at g;have:=(fI g).1;lia
   .rcases H x h ⟨i,t,by lia,e⟩ with z|z
    .obtain⟨s,g⟩:=mE _ _ _ _ z
     rw[e]at g;simp only[MB,MN]at g;have:=(fI g).1;lia
    .exact z
end
noncomputable def cZ(rs os:List Rw):List (List Int):=Bo xG (aV [] 0 rs os)
theorem Gs(rs os:List Rw):(cZ rs os).Nodup:=(bQ _ _).nodup_iff.mpr (fi rs os [] 0)
theorem AL(rs os:List Rw):lg (cZ rs os) [] 0 rs os:=eY _ rs os [] 0 λx e _=>(bQ _ _).mem_iff.mp e
noncomputable def bJ(L:S8)(SV:Int)(pl:S9):Option Int:=(L.findIdx? (·==pl)).map λi=>SV+(i:Int)
noncomputable def lettersS:Str:="abcdefghijklmnopqrstuvwxyz"
noncomputable def L26:List Str:=lettersS.cps.toList.map λc=>⟨#[c]⟩
theorem E6:eX lettersS=L26.map D.str:=by rfl
theorem ID:L26.Nodup:=by trivial
theorem w8:L26.length=26:=by rfl
theorem yR:∀(a b:S_),a.Nodup->(∀x∈a,x∈b)->a.length<=b.length
 |[],b,_,_=>Nj _
 |x::a,b,nd,h=>by
  rw[Nr]at nd;have e:=h x (by simp)
  have:=yR a (b.erase x) nd.2 λy g=>(List.mem_erase_of_ne<|by lia).mpr (by simp_all)
  rw[List.length_erase_of_mem e]at this;have l:=List.length_pos_of_mem e;rw[Md];lia
theorem zY(h:SS.length<=12):∃x∈L26,x∉SS:=by
 refine Pz λe=>?_;have:=yR _ _ ID λx g=>Pz λz=>e ⟨x,g,z⟩;rw[w8]at this;lia
noncomputable def cV(SS:S_):Str:=(L26.filter λx=>!decide (x∈SS)).headD ""
theorem kY(g:SS.length<=12):∃t,(L26.filter λx=>!decide (x∈SS))=cV SS::t:=by
 obtain⟨x,l,s⟩:=zY g;have h:x∈L26.filter λx=>!decide (x∈SS):=OT.mpr (by lia)
 unfold cV;cases e:L26.filter _<;>simp_all
theorem oE(g:SS.length<=12):cV SS∈L26/\cV SS∉SS:=by
 obtain⟨t,e⟩:=kY g;have:cV SS∈L26.filter λx=>!decide (x∈SS):=by rw[e];simp
 obtain⟨a,b⟩:=OT.mp this;exact⟨a,by simpa using b⟩
section
variable{te:bi}
theorem w6{tt:eO}{ok:Mem->Prop}{Q:List D->Mem->Prop}{b:BxC (af 0) tt te ok Q}{e:Dl}{c:Option D}{xs:List D}(p:D->Bool)(f:D->D)(O:ok M)(R:xs.length<=100000)(I:∀x∈xs,∀K:Bool->Mem->Prop,K (p x) M->tt (cb x::e) M K)(J:∀x∈xs,p x=true->∀K:DK,K (f x) M->te (cb x::e) M K)(h:Q ((xs.filter p).map f) M):
  dM (af 0) tt te ok Q b xs [] (c::e) M:=by
 refine aT (λC SZ U N=>∃(g:List D)(u:Option D),xs=g++C/\SZ=(g.filter p).map f/\U=u::e/\M=N) (by lia) ?_ ?_ ?_ _ _ _ _ ⟨[],c,rfl,rfl,rfl,rfl⟩
 .rintro SZ U N ⟨g,u,l,rfl,rfl,rfl⟩
  simp_all
 .rintro y C SZ U N ⟨g,u,l,rfl,rfl,rfl⟩ N' B F
  have G:y∈xs:=by rw[l];simp
  have s:((g.filter p).map f).length<sizeLine:=by
   have H:(g.filter p).length<=g.length:=Na ..;have w:=congrArg MI l;rw[Mg]at w;rw[Mc];exact eE (by lia)
  refine I y G _ ?_;cases A:p y with
  |true=>
   exact J y G A _ (B _ _ _ s ⟨g++[y],_,by rw[l];simp,by simp[A],rfl,rfl⟩)
  |false=>
   exact F _ _ _ ⟨g++[y],_,by rw[l];simp,by simp[A],rfl,rfl⟩
 rintro y C SZ U N ⟨g,u,l,rfl,rfl,rfl⟩
 have H:(g.filter p).length<=g.length:=Na ..;have w:=congrArg MI l;rw[Mg]at w;rw[Mc];exact eE (by lia)
theorem Bk{ok:Mem->Prop}{Q:List D->Mem->Prop}{b:BxC (af 0) cM te ok Q}{e:Dl}{c:Option D}{xs:List D}(f:D->D)(l:ok M)(s:xs.length<=100000)(u:∀x∈xs,∀K:DK,K (f x) M->te (cb x::e) M K)(h:Q (xs.map f) M):dM (af 0) cM te ok Q b xs [] (c::e) M:=by
 refine w6 _ f l s (λx _ K q=>q) (λx g _=>u x g) ?_;rw[List.filter_eq_self.mpr λ_ _=>rfl];exact h
theorem pW:ir M (.str x) (.tup<|SS.map D.str)=cb (decide (x∈SS)):=by
 simp only[ir,aE,dv,bX,iB,and_self,if_true,me]
theorem pN(C:SS.length<=12)(h:Q (.str<|cV SS) M):wz ad [.tup (SS.map D.str)] M Q E:=by
 rw[Kc];unfold xo;generalize J:jC ad _=K;refine⟨by trivial,λp F=>?_⟩
 simp[af,Mu];rw[<- J];unfold jC;generalize u:jq ad _=K2;rw[show eX (Mw _)=L26.map _ from E6];obtain⟨t,G⟩:=kY C;have s:(L26.all λx=>decide (x∈SS))=false:=by
  obtain⟨x,l,R⟩:=zY C;exact List.all_eq_false.mpr ⟨x,l,by simp[R]⟩
 refine⟨1,?_⟩;show bR _ _ _ _;simp only[Mu,bR,bn,aa,am,ae,bf,cN,ac,aE,Mem.upd_same,Ma,dt];have A:∀B,DIt.ok ⟨B,[(p,L26.map D.str)]⟩ (M.upd p<|.lst<|L26.map D.str):=λB b X=>by
  simp_all
 have e:(L26.map D.str).length<=100000:=by trivial
 refine Bk (λd=>.bl (match d with|.str x=>decide (x∈SS)|_=>eP)) (A _) e (λx l K g=>?_) ?_
 .obtain⟨y,_,rfl⟩:=Nd.mp l
  show qZ _ _ _ _;simp[qZ,pW];exact g
 intro q g;have H:(L26.map D.str).map (λd=>D.bl (match d with|.str x=>decide (x∈SS)|_=>eP))=(L26.map λx=>decide (x∈SS)).map D.bl:=by rw[NQ,NQ];rfl
 have I:(L26.map λx=>decide (x∈SS)).all id=false:=by rw[List.all_map];exact s
 simp only[frz,Mem.upd_same,Mem.upd_del,ar g,pI,dg,aE,H,o5,I,yJ,if_false];rw[if_neg Ot,<- u];unfold jq;simp only[aw,aj,am,bf,cN,ac,aE,bZ,Mem.upd_same,Ma,dt,dC];refine w6 (λd=>match d with|.str x=>!decide (x∈SS)|_=>eP) id (A _) e (λx l K g=>?_) (λx l _ K g=>g) ?_
 .obtain⟨y,_,rfl⟩:=Nd.mp l
  show ao (aj g8 (ac 0)<|ac 1) [cb (.str y),cb (.tup<|SS.map D.str)] _ _;simp only[ao,aj,ac,Ma,dt,g8,pW];exact g
 .intro S w
  have O:(L26.map D.str).filter (λd=>match d with|.str x=>!decide (x∈SS)|_=>eP)=(L26.filter λx=>!decide (x∈SS)).map D.str:=by rw[List.filter_map];rfl
  rw[List.map_id,O,G];simp only[frz,Mem.upd_same,Mem.upd_del,ar w,av,aE,Ms,bG (show (0:Int)<=0 by lia)]
  exact jY F h
end
theorem Jk{k:Nat}(h:k<26):∃c,lettersS.cps.toList[k]?=cb c/\L26[k]?=cb ⟨#[c]⟩:=by
 have e:lettersS.cps.toList.length=26:=by rfl
 refine⟨lettersS.cps.toList[k]'(by lia),Mj _,?_⟩
 rw[L26,Mv,Mj _];rfl
theorem xS(G:SS.length<=12):∃k,k<26/\L26[k]?=cb (cV SS)/\∀j x,j<k->L26[j]?=cb x->x∈SS:=by
 obtain⟨t,e⟩:=kY G;have s:∀(l:S_)(y:Str)(u:S_),(l.filter λx=>!decide (x∈SS))=y::u->∃k,k<l.length/\l[k]?=cb y/\∀j x,j<k->l[j]?=cb x->x∈SS:=by
  intro l
  induction l with
  |nil=>intro y u h;cases h
  |cons a l ih=>
   intro y u h
   by_cases C:a∈SS
   .rw[List.filter_cons_of_neg (by simp[C])]at h
    obtain⟨k,g,A,w⟩:=ih y u h;refine⟨k+1,by simpa using g,by simpa using A,λj x F B=>?_⟩
    cases j with
    |zero=>simp at B;rw[<- B];exact C
    |succ j=>exact w j x (by lia) (by simpa using B)
   .rw[List.filter_cons_of_pos (by simp[C])]at h
    cases h;exact⟨0,by simp,rfl,λj x F=>by lia⟩
 obtain⟨k,g,A,w⟩:=s L26 _ _ e;exact⟨k,by rw[w8]at g;exact g,A,w⟩
section
theorem mr(I:SS.length<=12)(h:Q (.str<|cV SS) M):Du ad [.tup (SS.map D.str)] M Q E:=by
 rw[u_q1];unfold Cr tw;generalize F:qf ad _=K2;simp[al,ap,dC,af,nv,aa,aj,ae];obtain⟨k,Y,H,G⟩:=xS I;refine⟨by decide,by decide,?_⟩
 refine br (λC U N=>N=M/\∃(j:Nat)(A u:Option D),j<=k/\U=[cb _,cb (.str lettersS),A,u]/\C=(gT 0 702).drop j) (λ_ _ _ _=>aG) ?_ ?_ _ _ _ ⟨rfl,0,ed,ed,Nj _,rfl,rfl⟩
 .rintro U N ⟨rfl,j,A,u,O,rfl,e⟩
  have:=congrArg MI e;simp[gT]at this;lia
 rintro x C U N ⟨rfl,j,A,u,O,rfl,e⟩ D' R _ w _
 have X:x=.int (j:Nat)/\C=(gT 0 702).drop (j+1):=by
  have l:j<(gT 0 702).length:=by simp[gT];lia
  rw[NC l]at e;simp only[MH]at e;refine⟨?_,e.2⟩;rw[e.1];simp[gT]
 obtain⟨rfl,rfl⟩:=X;obtain⟨c,J,s⟩:=Jk (show j<26 by lia)
 have S:atI lettersS.cps.toList ((j:Nat):Int)=cb c:=by rw[bG (by lia)];simpa using J
 rw[<- F];unfold qf uQ;simp only[af,Mu,al,ap,oX,ao,aj,ac,dC,Ma,dt,xM,av,aE,S];show if decide (((j:Nat):Int)<26)=true then _ else _
 rw[if_pos (by simp;lia)]
 refine⟨aR (by decide +kernel),?_⟩
 simp only[aA,ao,aj,ac,Ma,dt,g8,pW]
 by_cases g:(⟨#[c]⟩:Str)∈SS
 .rw[decide_eq_true g]
  refine R _ _ ⟨rfl,j+1,_,_,?_,rfl,rfl⟩;rcases MW j k with z|z
  .lia
  .have:j=k:=by lia
   subst this;rw[H]at s;rw[<- MQ s]at g;exact absurd g (oE I).2
 .rw[decide_eq_false g]
  show D'.rt _ _;rw[w];have B:j=k:=by
   rcases MW j k with z|z
   .exact absurd (G j _ z s) g
   .lia
  subst B;rw[H]at s;rw[<- MQ s];exact aq h
end
def Gm(ad:Ad)(L:S8)(nm:Str)(SS:S_)(m SV:Int)(n:Nat):Prop:=∀(rs os:List Rw)(pl:S9)(M:Mem)(Q:DK)(E:DX),aJ SS m SV rs->bu rs os=true->bd rs<n->cRs rs<=1000->pl.length+1+2*bd rs<=900->
 Q (.tup<|ai<|bH nm (bJ L SV) pl 0 rs os) M->QZ ad n [.tup (ai rs),.tup (ai os),tupD pl,.lst (L.map tupD),.str nm,.int SV] M Q E
theorem rY:∀a b:List Int,cz (a.map D.int) (b.map D.int)=decide (a=b)
 |[],[]=>by simp[cz]
 |[],_::_=>by simp[cz]
 |_::_,[]=>by simp[cz]
 |x::a,y::b=>by
  simp only[Ms,cz,rY a b,aH]
  simp_all
theorem pi(a b:S9):aH (tupD a) (tupD b)=decide (a=b):=by
 exact rY a b
theorem xm{n:Nat}:∀a:List Int,fits n (a.map D.int)=true
 |[]=>by simp[fits]
 |x::a=>by simp[fits,bX,xm a]
theorem lY(a:S9):bX (n+1) (tupD a)=true:=by
 exact xm a
theorem iy{n:Nat}:∀L:List (List Int),fits (n+1) (L.map tupD)=true
 |[]=>by simp[fits]
 |a::L=>by rw[Ms,fits,lY,iy L];rfl
theorem AI:ir M (tupD pl) (.lst<|L.map tupD)=cb (decide (pl∈L)):=by
 have e:dv M (tupD pl)=tupD pl:=rfl;have:(L.map tupD).any (λd=>aH d (tupD pl))=decide (pl∈L):=by
  rw[List.any_map]
  by_cases h:pl∈L
  .rw[decide_eq_true h]
   exact List.any_eq_true.mpr ⟨pl,h,by simp[pi]⟩
  .rw[decide_eq_false h]
   simp[pi];lia
 simp[ir,aE,e,lY,iy,this]
theorem wY{pl:S9}:∀L:List (List Int),(L.map tupD).findIdx? (λy=>aH y (tupD pl))=L.findIdx? (·==pl)
 |[]=>rfl
 |a::L=>by
  rw[Ms,N9,N9,wY L,pi]
  simp_all
theorem yT(h:pl∈L):∃j:Nat,L.findIdx? (·==pl)=cb j/\bJ L SV pl=cb (SV+(j:Int)):=by
 cases e:L.findIdx? _ with
 |none=>exact absurd (N4.mp e pl h) (by simp)
 |some j=>exact⟨j,rfl,by simp[bJ,e]⟩
theorem pR(h:pl∉L):bJ L SV pl=none:=by
 have:L.findIdx? (·==pl)=none:=N4.mpr (by lia)
 simp[bJ,this]
section
variable{nm:Str}{rsD plD:D}{c10 c11 c12 c13:Option D}
def Ew(D2:DEnds)(M:Mem)(rsD plD:D)(L:S8)(nm:Str)(SV:Int)(os SZ:List Rw)(j:Nat)(r:D)(hr:S9)(new:List Rw):Prop:=∀c10 c11 c12 c13,D2.nx [cb rsD,cb (.tup<|ai os),cb plD,cb (.lst<|L.map tupD),cb (.str nm),cb (.int SV),cb (.tup<|ai (SZ++new)),cb (.int (j:Nat)),cb r,cb (tupD hr),c10,c11,c12,c13] M
theorem jI(g:Gm ad L nm SS m SV n){s:BxQ EE λd M'=>frz d M' K}(ok:aJ SS m SV rs)(k:bu rs os=true)(l:bd rs<n)(w:cRs rs<=1000)(u:pl.length+1+2*bd rs<=900)(h:K (.tup<|ai<|bH nm (bJ L SV) pl 0 rs os) M):
  calls (QZ ad n) EE [.tup (ai rs),.tup (ai os),tupD pl,.lst (L.map tupD),.str nm,.int SV] M (λd M'=>frz d M' K) s:=
 au λQ' E' e _=>g rs os pl M Q' E' ok k l w u (e _ _ h)
theorem KY(l:Gm ad L nm SS m SV n)(e:atI (ai os) (j:Nat)=cb (Rw.again y a').d)(ok:ck SS m SV (.again x a))(k:fP (.again x a) (.again y a')=true)(s:hR (.again x a)<=n)(w:cR (.again x a)<=1000)(u:hr.length+2*hR (.again x a)<=900)(A:SZ.length<=100000)(h:Ew D2 M rsD plD L nm SV os SZ j (Rw.again x a).d hr (kP nm (bJ L SV) hr (.again x a)<|.again y a')):
  gS ad (QZ ad n) EE D2 [cb rsD,cb (.tup<|ai os),cb plD,cb (.lst<|L.map tupD),cb (.str nm),cb (.int SV),cb (.tup<|ai SZ),cb (.int (j:Nat)),cb (Rw.again x a).d,cb (tupD hr),c10,c11,c12,c13] M:=by
 simp[hR,cR]at s w u;simp[fP]at k;unfold gS;generalize g:o_ ad _ EE=K;simp[Rw.d]at e ⊢;simp only[al,ap,am,ak,aa,ac,aj,av,aE,e,Ma,dt];refine⟨by trivial,bU (by lia) ⟨rfl,jI l ok.2 k.2 (by lia) (by lia) (by simp;lia) ?_⟩⟩
 rw[<- g];refine⟨aR (by simp),aR (by simp),aR (by simp[bg];lia),?_⟩
 have:=h c10 c11 (cb<|.tup<|ai<|bH nm (bJ L SV) (hr++[0]) 0 a a') c13;rw[aX]at this;exact this
theorem Lc(l:Gm ad L nm SS m SV n){b b':List Rw}(g:atI (ai os) (j:Nat)=cb (Rw.ifr y a' b').d)(ok:ck SS m SV (.ifr x a b))(k:fP (.ifr x a b) (.ifr y a' b')=true)(u:hR (.ifr x a b)<=n)(A:cR (.ifr x a b)<=1000)(w:hr.length+2*hR (.ifr x a b)<=900)(B:SZ.length<=100000)(h:Ew D2 M rsD plD L nm SV os SZ j (Rw.ifr x a b).d hr (kP nm (bJ L SV) hr (.ifr x a b)<|.ifr y a' b')):
  gO ad (QZ ad n) EE D2 [cb rsD,cb (.tup<|ai os),cb plD,cb (.lst<|L.map tupD),cb (.str nm),cb (.int SV),cb (.tup<|ai SZ),cb (.int (j:Nat)),cb (Rw.ifr x a b).d,cb (tupD hr),c10,c11,c12,c13] M:=by
 simp[hR,cR]at u A w;simp[fP,Mx]at k;unfold gO;generalize s:kx ad _ EE=K;simp[Rw.d]at g ⊢;simp only[al,ap,am,ak,aa,ac,aj,dC,av,aE,g,Ma,dt];refine⟨by trivial,bU (by lia) ⟨rfl,jI l ok.2.1 k.2.1 (by lia) (by lia) (by simp;lia) ?_⟩⟩
 simp[af,Mu];rw[<- s];unfold kx;generalize e:pV ad _ EE=K1;simp only[al,ap,am,ak,aa,ac,aj,dC,av,aE,g,Ma,dt];refine⟨by trivial,bU (by lia) ⟨rfl,jI l ok.2.2 k.2.2 (by lia) (by lia) (by simp;lia) ?_⟩⟩
 rw[<- e];refine⟨aR (by simp),aR (by simp),aR (by simp[bg,Md,Mp];lia),?_⟩
 have:=h (cb<|.tup<|ai<|bH nm (bJ L SV) (hr++[1]) 0 a a') (cb<|.tup<|ai<|bH nm (bJ L SV) (hr++[0]) 0 b b') c12 c13;rw[aX]at this;exact this
theorem fA(h:aQ r=eP):kP nm f hr r o=(match f hr with|some k=>[.take nm k,.ifr nm [o] [r]]|none=>[r]):=by
 cases r<;>first|rfl|cases h
theorem BM(B:aQ r=eP)(C:L.length<=1000)(A:atI (ai os) (j:Nat)=cb o.d)(F:SZ.length<=100000)(h:Ew D2 M rsD plD L nm SV os SZ j r.d hr (kP nm (bJ L SV) hr r o)):
  gE ad (QZ ad n) EE D2 [cb rsD,cb (.tup<|ai os),cb plD,cb (.lst<|L.map tupD),cb (.str nm),cb (.int SV),cb (.tup<|ai SZ),cb (.int (j:Nat)),cb r.d,cb (tupD hr),c10,c11,c12,c13] M:=by
 rw[fA B]at h;unfold gE;generalize g:je ad _ EE=K7;generalize e:pL ad _ EE=K8;simp only[aA,ao,aj,ac,Ma,dt,qZ,AI]
 by_cases c:hr∈L
 .rw[decide_eq_true c]
  obtain⟨i,s,w⟩:=yT c;rw[w]at h;show K7 _ _ _;rw[<- g];unfold je;generalize l:jy ad _ EE=K6;simp only[al,ap,ax,aa,dC,ac,am,aj,fH,ae,bV,gH,Ma,dt];have u:dv M (tupD hr)=tupD hr:=rfl;refine⟨trivial,by simp_all,by exact lY hr,iy L,?_⟩
  rw[u,wY,s];refine⟨aR (by simp),?_⟩
  simp[af];rw[<- l];unfold jy;simp only[ap,aj,ac,ax,aa,dC,ae,av,aE,A,Ma,dt];refine⟨aR (by simp),aR (by simp),aR (by simp),aR (by simp),aR (by simp only[bg,Md,Mp];lia),?_⟩
  have:=h c10 c11 c12 (cb<|.tup [.str (Mw "take"),.str nm,.int (SV+i)]);rw[aX]at this;exact this
 rw[decide_eq_false c];rw[pR c]at h;rw[<- e];refine⟨aR (by simp),aR (by simp only[bg,Md,Mp];lia),?_⟩
 have:=h c10 c11 c12 c13;rw[aX]at this;exact this
end
section
variable{nm:Str}
theorem Bt(hL:L.length<=1000)(S:Gm ad L nm SS m SV n){g:D}{c9 w s u l:Option D}(R:atI (ai os) (j:Nat)=cb o.d)(ok:ck SS m SV r)(k:fP r o=true)(X:hR r<=n)(Y:cR r<=1000)(hl:pl.length+1+2*hR r<=900)(O:SZ.length<=100000)(h:Ew D2 M g (tupD pl) L nm SV os SZ j r.d (pl++[(j:Int)]) (kP nm (bJ L SV) (pl++[(j:Int)]) r o)):
  fg ad (QZ ad n) EE D2 [cb g,cb (.tup<|ai os),cb (tupD pl),cb (.lst<|L.map tupD),cb (.str nm),cb (.int SV),cb (.tup<|ai SZ),cb (.int (j:Nat)),cb r.d,c9,w,s,u,l] M:=by
 have A:(pl++[(j:Int)]).length+2*hR r<=900:=by simp;lia
 unfold fg;generalize C:gF ad _ EE=K11;simp only[al,aj,dt];refine⟨aR (by simp),bU (by lia) ?_⟩
 simp only[af,Mu];rw[<- C];unfold gF;have Z:=ny ok;have w2:=qM ok;generalize J:gO ad _ EE=K3;generalize F:ik ad _ EE=K10;have t3:fS r=true->K3 D2 [cb g,cb (.tup<|ai os),cb (tupD pl),cb (.lst<|L.map tupD),cb (.str nm),cb (.int SV),cb (.tup<|ai SZ),cb (.int j),cb r.d,cb (tupD (pl++[(j:Int)])),w,s,u,l] M:=λG=>by
  rw[<- J];cases r with
  |ifr x a b=>
   cases o with
   |ifr y a' b'=>exact Lc S R ok k X Y A O h
   |_=>cases k
  |_=>cases G
 have B:fS r=eP->K10 D2 [cb g,cb (.tup<|ai os),cb (tupD pl),cb (.lst<|L.map tupD),cb (.str nm),cb (.int SV),cb (.tup<|ai SZ),cb (.int j),cb r.d,cb (tupD (pl++[(j:Int)])),w,s,u,l] M:=λe=>by
  rw[<- F];unfold ik;generalize H:gS ad _ EE=K5;generalize I:gE ad _ EE=K9;have t5:uo r=true->K5 D2 [cb g,cb (.tup<|ai os),cb (tupD pl),cb (.lst<|L.map tupD),cb (.str nm),cb (.int SV),cb (.tup<|ai SZ),cb (.int j),cb r.d,cb (tupD (pl++[(j:Int)])),w,s,u,l] M:=λG=>by
   rw[<- H];cases r with
   |again x a=>
    cases o with
    |again y a'=>exact KY S R ok k X Y A O h
    |_=>cases k
   |_=>cases G
  have t9:uo r=eP->K9 D2 [cb g,cb _,cb _,cb _,cb _,cb _,cb _,cb _,cb r.d,cb _,w,s,u,l] M:=λG=>by
   rw[<- I];exact BM (by cases r<;>first|rfl|rfl|assumption) hL R O h
  rw[fR]at t5 t9 ⊢;simp only[aA,ao,aj,ac,dC,av,aE,atI_0,bY,dv,aH,bX,Ma,dt]
  simp_all
 rw[fR]at t3 B ⊢;simp only[aA,ao,aj,ac,dC,av,aE,atI_0,bY,dv,aH,bX,Ma,dt];rw[Z];refine⟨trivial,trivial,?_⟩;cases c:fS r with
 |true=>exact t3 c
 |false=>exact B c
theorem kR{f:List Int->Option Int}{pl:S9}:∀{a a' b b':List Rw}{j:Nat},a.length=a'.length->bH nm f pl j (a++b) (a'++b')=bH nm f pl j a a'++bH nm f pl (j+a.length) b b'
 |[],[],b,b',j,_=>by simp[bH]
 |[],_::_,_,_,_,h=>by simp at h
 |_::_,[],_,_,_,h=>by simp at h
 |r::a,o::a',b,b',j,h=>by
  simp[bH];rw[kR (by simpa using h),show j+1+a.length=j+(a.length+1) by lia]
theorem vj(r o:Rw):(kP nm f pl r o).length<=2:=by
 cases r<;>cases o<;>simp[kP]<;>first|grind|simp
theorem kX{f:List Int->Option Int}{pl:S9}:∀(a b:List Rw)(j:Nat),(bH nm f pl j a b).length<=2*a.length
 |[],_,_=>by simp[bH]
 |r::a,[],_=>by simp[bH]
 |r::a,o::b,j=>by
  have g:=vj (nm:=nm) (f:=f) (pl:=pl++[(j:Int)]) r o;have e:=kX (f:=f) (pl:=pl) a b (j+1);simp[bH];lia
theorem BB(hL:L.length<=1000)(ih:Gm ad L nm SS m SV n):Gm ad L nm SS m SV (n+1):=by
 intro rs os pl M Q E ok k hn hc hl h;rw[LB];unfold xx kH;generalize hK:fg ad _ _=K;simp[al,ae];refine⟨aR (by simp),?_⟩
 refine br (λY U N=>N=M/\∃(l e B g:List Rw)(R S J A u w s:Option D),rs=l++B/\os=e++g/\l.length=e.length/\Y=bF l.length (ai B)/\U=[cb _,cb _,cb _,cb _,cb _,cb _,cb (.tup<|ai<|bH nm (bJ L SV) pl 0 l e),R,S,J,A,u,w,s]) (λ_ _ _ _=>aG) ?_ ?_ _ _ _
  ⟨rfl,[],[],rs,os,_,_,_,_,_,_,_,rfl,rfl,rfl,dO _,rfl⟩
 .rintro U N ⟨rfl,l,e,B,g,R,S,J,A,u,w,s,I,C,G,H,rfl⟩
  have Z:B=[]:=by cases B with|nil=>rfl|cons _ _=>trivial
  have F:=dJ k;subst Z;rw[Mq]at I;subst I;have X:g=[]:=by
   rw[C,Mg]at F;exact PF (by lia)
  subst X;rw[Mq]at C;subst C;exact aq h
 rintro x Y U N ⟨rfl,l,e,B,g,R,S,J,A,u,w,s,I,C,G,H,rfl⟩ D' O _ _ _
 cases B with
 |nil=>simp[ai,bF]at H
 |cons z B=>
  simp only[ai,bF,MH]at H;obtain⟨rfl,rfl⟩:=H;have l1:=ic (rs:=rs);subst I;subst C;rw[gr G]at k;rw[OkRs_append]at ok;cases g with
  |nil=>simp[bu]at k
  |cons z' g=>
   simp only[bu,Mx]at k;simp only[ba,bd]at hn hl;simp only[aS,cRs]at hc;simp only[aS,cRs,Mg,Md]at l1;simp only[bL,aD,bM,af,Mu,Md,Mp];refine⟨trivial,?_⟩;rw[<- hK];have wl:=kX (nm:=nm) (f:=bJ L SV) (pl:=pl) l e 0;refine Bt hL ih (o:=z') (by rw[G];exact mD) ok.2.1 k.2.1 (by lia) (by lia) (by lia) (by lia) λA u w s=>O _ _ ?_
   have ew:bH nm (bJ L SV) pl 0 (l++[z]) (e++[z'])=bH nm (bJ L SV) pl 0 l e++kP nm (bJ L SV) (pl++[(l.length:Int)]) z z':=by
    rw[kR G];simp only[bH,Mq,Nv]
   exact⟨rfl,l++[z],e++[z'],B,g,cb (.int (l.length:Nat)),cb z.d,cb (tupD (pl++[(l.length:Int)])),A,u,w,s,by simp,by simp,by simp[G],by simp,by rw[ew]⟩
theorem zi(e:L.length<=1000):∀n:Nat,Gm ad L nm SS m SV n
 |0=>λ_ _ _ _ _ _ _ _ h=>by lia
 |n+1=>BB e (zi e n)
end
section
noncomputable def vn(SS:S_)(SV:Int)(rs os:List Rw):List Rw:=bH (cV SS) (bJ (cZ rs os) SV) [] 0 rs os
theorem pC(rs os:List Rw)(e:cRs rs<=1000):(cZ rs os).length<=1000:=by
 unfold cZ;rw[(bQ _ _).length_eq];exact My (bK rs os [] 0) e
theorem mL(F:SS.length<=12)(ok:aJ SS m SV rs)(k:bu rs os=true)(G:bd rs<=10)(u:cRs rs<=1000)(h:Q (aW m (SV+((cZ rs os).length:Int)) (SS++[cV SS]) (vn SS SV rs os) mk) M):
  wb ad [aW m SV SS rs mk,aW m SV SS os mk,.lst (qd rs os)] M Q E:=by
 have A:∀r:List Rw,atI [D.int m,.tup (SS.map D.str),.int SV,.tup (ai r),.str mk] 0=cb (.int m):=λr=>by rw[atI_0];rfl
 have s:∀r:List Rw,atI [D.int m,.tup (SS.map D.str),.int SV,.tup (ai r),.str mk] 1=cb (.tup<|SS.map D.str):=λr=>by rw[atI_1];rfl
 have l:∀r:List Rw,atI [D.int m,.tup (SS.map D.str),.int SV,.tup (ai r),.str mk] 2=cb (.int SV):=λr=>by rw[atI_2];rfl
 have C:∀r:List Rw,atI [D.int m,.tup (SS.map D.str),.int SV,.tup (ai r),.str mk] 3=cb (.tup<|ai r):=λr=>by rw[atI_3];rfl
 have w:∀r:List Rw,atI [D.int m,.tup (SS.map D.str),.int SV,.tup (ai r),.str mk] 4=cb (.str mk):=λr=>by rw[atI_4];rfl
 rw[L1];unfold xc;generalize e:jK ad (aB E)=K2;simp only[aW,al,ap,am,ak,aa,ac,aj,dC,ae,av,aE,s,Ma,dt];refine⟨rfl,aK (λ_ _ q=>mr F q) ?_⟩;simp only[frz,af,Mu];rw[<- e];unfold jK;generalize g:j9 ad (aB E)=K1;simp only[al,ap,am,ak,aa,ac,aj,dC,ae,ax,av,aE,l,C,Ma,dt];refine⟨aR (by simp),rfl,jI (pl:=[]) (L:=cZ rs os) (zi (pC rs os u) 24) ok k (by lia) u (by simp;lia) ?_⟩
 simp only[af,Mu];rw[<- g];unfold j9;simp only[aw,ax,aa,aj,ac,dC,ae,bn,bC,av,aE,A,s,l,w,aF,Ma,dt];refine⟨aR (by simp),aR (by simp only[Mc,Md,Mp];lia),aR (by simp),?_⟩
 have B:(qd rs os).length=(cZ rs os).length:=by unfold qd cZ;rw[Mc]
 rw[B];have:=aq (Q:=Q) h;unfold aW vn at this;rw[Nt]at this;exact this
end
noncomputable def kI(p:S9):List bh:=p.map P0
theorem uU:∀{a b:S9},kI a=kI b->a=b
 |[],[],_=>rfl
 |[],_::_,h=>by cases h
 |_::_,[],h=>by cases h
 |x::a,y::b,h=>by
  simp only[kI,Ms,MH]at h;rw[Sum.inl.inj h.1,uU h.2]
noncomputable def sL(SV:Int):Nat->List (List Int)->List (List bh×D)
 |_,[]=>[]
 |i,p::L=>(kI p,.int (SV+(i:Int)))::sL SV (i+1) L
noncomputable def mV(SV:Int):Nat->List (List Int)->List D
 |_,[]=>[]
 |i,p::L=>.tup [tupD p,.int (SV+(i:Int))]::mV SV (i+1) L
theorem kS(p:S9):yZ (tupD p)=cb (kI p):=by
 show eA _=cb (p.map _)
 induction p with
 |nil=>rfl
 |cons a p ih=>simp[eA,nX,ih]
theorem wC{SV:Int}:∀(L:S8)(i:Nat),ym (mV SV i L)=cb (sL SV i L)
 |[],_=>rfl
 |p::L,i=>by simp[mV,sL,ym,kS,wC L]
theorem pZ{SV:Int}:∀(L:S8)(i:Nat),(sL SV i L).length=L.length
 |[],_=>rfl
 |p::L,i=>by simp[sL,pZ L]
theorem nz{SV:Int}{p:S9}:∀(L:S8)(i:Nat),mV SV i (L++[p])=mV SV i L++[.tup [tupD p,.int (SV+((i+L.length:Nat):Int))]]
 |[],i=>by simp[mV]
 |q::L,i=>by
  simp only[List.cons_append,mV,nz L,Md];rw[show i+1+L.length=i+(L.length+1) by lia]
theorem kN{SV:Int}:∀(L:S8)(i:Nat),(mV SV i L).length=L.length
 |[],_=>rfl
 |p::L,i=>by simp[mV,kN L]
theorem qv{SV:Int}:∀(L:S8)(i:Nat)(SZ:List (List bh×D)),L.Nodup->(∀p∈L,∀kv∈SZ,kv.1≠kI p)->(sL SV i L).foldl (λa p=>eN a p.1 p.2) SZ=SZ++sL SV i L
 |[],_,SZ,_,_=>by simp[sL]
 |p::L,i,SZ,nd,h=>by
  rw[Nr]at nd;have e:eN SZ (kI p) (.int (SV+i))=SZ++[(kI p,.int (SV+i))]:=by
   unfold eN;rw[if_neg];intro z;obtain⟨kv,s,u⟩:=List.any_eq_true.mp z;exact h p (by simp) kv s (by lia)
  simp[sL,e];rw[qv L _ _ nd.2 λq l kv g=>?_,MB]
  .rfl
  rcases Ml.mp g with z|z
  .exact h q (by simp[l]) kv z
  simp at z;subst z;exact λe=>nd.1 (uU e▸l)
theorem vW{SV:Int}{pl:S9}:∀(L:S8)(i:Nat),j8 (sL SV i L) (kI pl)=(L.findIdx? (·==pl)).map λj=>.int (SV+((i+j:Nat):Int))
 |[],_=>rfl
 |p::L,i=>by
  have g:=vW (SV:=SV) (pl:=pl) L (i+1);unfold j8 at g ⊢;rw[N9];simp only[sL,OU]
  by_cases e:p=pl
  .simp_all
  have h:(p==pl)=false:=by simpa using e
  rw[(decide_eq_false λz=>e (uU z)),h,g];cases L.findIdx? _ with
  |none=>rfl
  |some j=>simp only[Oh,MC,if_false,show i+1+j=i+(j+1) by lia]
theorem z5:j8 (sL SV 0 L) (kI pl)=(bJ L SV pl).map D.int:=by
 rw[vW];unfold bJ;cases L.findIdx? _<;>simp
noncomputable def wF(nm:Str)(p:eH):List (Str×D):=[("name",.str nm),("pieces",.ref p)]
theorem lk_y{f:Str}{v:D}{r:List (Str×D)}:MU f ((f,v)::r)=cb v:=by simp
theorem lk_n{f g:Str}{v:D}{r:List (Str×D)}(h:f≠g):MU f ((g,v)::r)=MU f r:=by
 have:(f==g)=false:=by simpa using h
 simp[MU,this]
theorem Kt{nm:Str}:MU (Mw "name") (wF nm p)=cb (.str nm):=lk_y
theorem IY{nm:Str}:MU (Mw "pieces") (wF nm p)=cb (.ref p):=by rfl
structure WvM(C:eH)(wv p:eH)(nm:Str)(L:S8)(SV:Int)(M:Mem):Prop where
 w:M wv=cb (.ins C<|wF nm p)
 d:M p=cb (.dT<|sL SV 0 L)
section
variable{a:eH}
theorem qF(hn:SS.length<=12)(ok:aJ SS m SV rs)(S:aJ SS m SV os)(k:bu rs os=true)(hh:bd rs<=10)(hc:cRs rs<=63)(hM:M a=cb (.ins ad.C_Weave []))(h:∀p M',WvM ad.C_Weave a p (cV SS) (cZ rs os) SV M'->(∀b o,b≠a->M b=cb o->M' b=cb o)->Q .non M'):Ep ad [.ref a,aW m SV SS rs mk,aW m SV SS os mk] M Q E:=by
 have a1:∀r:List Rw,atI [D.int m,.tup (SS.map D.str),.int SV,.tup (ai r),.str mk] 1=cb (.tup<|SS.map D.str):=λr=>by rw[atI_1];rfl
 have a2:∀r:List Rw,atI [D.int m,.tup (SS.map D.str),.int SV,.tup (ai r),.str mk] 2=cb (.int SV):=λr=>by rw[atI_2];rfl
 rw[u_q3];unfold Dn;generalize hK:qh ad (aB E)=K;simp only[al,fW,am,ak,aa,aj,ac,dC,ae,av,aW,aE,a1,dt];refine⟨rfl,aK (λ_ _ q=>pN hn q) ?_⟩;simp only[frz,hM];refine⟨trivial,by simp,?_⟩
 rw[<- hK];unfold qh;generalize B:M.upd a _=M1;have u:M1 a=cb (.ins ad.C_Weave [("name",.str (cV SS))]):=by rw[<- B,Mem.upd_same];rfl
 simp only[fW,bn,aa,am,ae,bf,gU,ak,ac,dt];refine⟨rfl,au λQ' E' hq hE=>iS ok S hh hc (λ_ q H=>hq _ _ (iK H ?_)) (by lia)⟩
 simp only[aE,bZ,dO];have hpl:=pC rs os (by lia)
 have R:bF 0 (qd rs os)=bF 0 ((cZ rs os).map tupD):=rfl;rw[R];refine aT (λI SZ U M'=>∃(l s:S8)(F G:Option D),cZ rs os=l++s/\I=bF l.length (s.map tupD)/\SZ=mV SV 0 l/\U=[F,G,cb (aW m SV SS rs mk)]/\M1=M') (λ_ _ _ _ _=>aG) ?_ ?_ ?_ _ _ _ _ ⟨[],cZ rs os,ed,ed,rfl,rfl,rfl,rfl,rfl⟩
 .rintro SZ U M' ⟨l,s,F,G,g,w,rfl,rfl,rfl⟩ p hp
  have Z:s=[]:=by cases s with|nil=>rfl|cons _ _=>simp[bF]at w
  subst Z;rw[Mq]at g;refine iK hp ?_;have ef:(sL SV 0 l).foldl (λa p=>eN a p.1 p.2) []=sL SV 0 l:=by
   rw[qv l 0 [] (g▸Gs rs os) λ_ _ _ h=>by cases h]
   rfl
  simp only[pk,Hi,dg,wC,ef,pZ];refine⟨trivial,by rw[<- g];lia,λX C=>?_⟩
  have A:a≠X:=λz=>by rw[<- z,u]at C;cases C
  rw[ah A,u];refine⟨rfl,by simp,aq (h X _ ⟨?_,?_⟩ λb o Y e=>?_)⟩
  .rw[Mem.upd_same]
   rfl
  .rw[ah (MJ A),Mem.upd_same,g]
  .have g:M1 b=cb o:=by rw[<- B,ah Y];exact e
   rw[ah Y,ah (by lia)]
   exact g
 .rintro y I SZ U M' ⟨l,s,F,G,g,w,rfl,rfl,rfl⟩ N J hN2
  cases s with
  |nil=>simp[bF]at w
  |cons z s=>
   simp only[Ms,bF,MH]at w;obtain⟨rfl,rfl⟩:=w;have O:=congrArg MI g;simp at O;simp only[bL,aD,bM,af,Mu,cM,ax,aa,am,aj,ac,dC,ae,av,aW,aE,a2,aF,frz,Md,Mp,Ma,dt,if_true];refine⟨trivial,aR (by simp),J _ _ _ (eE<|by rw[kN];lia) ⟨l++[z],s,_,_,by rw[g];simp,by simp,?_,rfl,rfl⟩⟩
   rw[nz];simp
 .rintro y I SZ U M' ⟨l,s,F,G,g,w,rfl,rfl,rfl⟩
  have O:=congrArg MI g;simp at O;rw[kN];exact eE (by lia)
end
def PVs(ad:Ad)(wv p:eH)(nm:Str)(L:S8)(SS:S_)(m SV:Int)(n:Nat):Prop:=∀(rs os:List Rw)(pl:S9)(M:Mem)(Q:DK)(E:DX),aJ SS m SV rs->aJ SS m SV os->bu rs os=true->lg L pl 0 rs os->2*bd rs+2<=n->cRs rs<=1000->pl.length+2*bd rs+1<=900->WvM ad.C_Weave wv p nm L SV M->
 Q (.tup<|ai<|bH nm (bJ L SV) pl 0 rs os) M->Q4 ad n [.ref wv,.tup (ai rs),.tup (ai os),tupD pl] M Q E
def PVr(ad:Ad)(wv p:eH)(nm:Str)(L:S8)(SS:S_)(m SV:Int)(n:Nat):Prop:=∀(r o:Rw)(pl:S9)(M:Mem)(Q:DK)(E:DX),ck SS m SV r->ck SS m SV o->fP r o=true->nbR L pl r o->2*hR r+1<=n->cR r<=1000->pl.length+2*hR r<=900->WvM ad.C_Weave wv p nm L SV M->
 (∀q,M q=ed->Q (.ref q) (M.upd q<|.lst<|ai<|kP nm (bJ L SV) pl r o))->Q5 ad n [.ref wv,r.d,o.d,tupD pl] M Q E
theorem WvM.upd{C:eH}{nm:Str}{x:MO}(w:WvM C wv p nm L SV M)(e:q≠wv/\q≠p):WvM C wv p nm L SV (M.upd q x):=
 ⟨by rw[ah (MJ e.1)];exact w.w,by rw[ah (MJ e.2)];exact w.d⟩
theorem WvM.new{C:eH}{nm:Str}(w:WvM C wv p nm L SV M)(e:M q=ed):q≠wv/\q≠p:=
 ⟨λz=>(by rw[z,w.w]at e;cases e),λz=>(by rw[z,w.d]at e;cases e)⟩
section
variable{nm:Str}
theorem Hj(h:M p=cb (.dT<|sL SV 0 L)):ir M (tupD pl) (.ref p)=cb (bJ L SV pl).isSome:=by
 simp[ir,aE,h,yA,kS,z5]
theorem vX{g:eH}{x y:MO}{d:D}(l:M q=ed)(s:(M.upd q x) g=ed)(h:∀q,M q=ed->Q d (M.upd g y)):drp Q d ((M.upd q x).upd g y):=by
 refine⟨_,λb u e=>?_,h q l⟩
 by_cases c:b=g
 .simp_all
 rw[ah c]at e ⊢;rw[ah (by lia)]
 exact e
theorem p5(A:PVs ad wv p nm L SS m SV n){u l:D}{SZ:List D}(ok:aJ SS m SV a)(g:aJ SS m SV a')(k:bu a a'=true)(C:lg L (pl++[i]) 0 a a')(B:2*bd a+2<=n)(F:cRs a<=1000)(G:pl.length+1+2*bd a+1<=900)(H:SZ.length<=1000)(w:WvM ad.C_Weave wv p nm L SV N)(s:N q=cb (.lst SZ))(h:D2.nx [cb (.ref wv),cb u,cb l,cb (tupD pl),cb (.ref q),cb (.int i),cb (.tup<|ai a),cb (.tup<|ai a')] (N.upd q<|.lst (SZ++[.tup (ai<|bH nm (bJ L SV) (pl++[i]) 0 a a')]))):
  ig ad (Q4 ad n) (Q5 ad n) EE D2 [cb (.ref wv),cb u,cb l,cb (tupD pl),cb (.ref q),cb (.int i),cb (.tup<|ai a),cb (.tup<|ai a')] N:=by
 unfold ig;simp only[a_,fH,am,ak,aa,ac,aj,ax,ae,bV,s,Ma,dt];refine⟨trivial,aR (by simp),bU (by lia) ⟨rfl,au λQ2 E2 e _=>A a a' _ N Q2 E2 ok g k C B F (by simp;lia) w (e _ _ ?_)⟩⟩
 simp[frz,bt,s];exact⟨eE (by lia),h⟩
theorem D1(Y:PVs ad wv p nm L SS m SV n):PVr ad wv p nm L SS m SV (n+1):=by
 intro r o pl M Q E ok s k B hn hc hl w h;have e2:∀(a b:D)(l:List D),dE (a::b::l) ed (cb 2)=[a,b]:=λa b l=>du (k:=2);rw[Jt (n:=n)];unfold wj;generalize O:jx ad _ _ (aB E)=K1;generalize R:jr ad _ _ (aB E)=K4;simp only[al,aA,ao,aj,ac,df,w.w,IY,qZ,Hj w.d,Ma,dt];refine⟨trivial,?_⟩
 by_cases c:pl∈L
 .have I:aQ r=false:=by
   cases r with
   |ifr x a b=>
    cases o with
    |ifr y a' b'=>exact absurd c B.1
    |_=>cases k
   |again x a=>
    cases o with
    |again y a'=>exact absurd c B.1
    |_=>cases k
   |_=>rfl
  obtain⟨i,_,S⟩:=yT c;rw[fA I,S]at h;rw[S];show K1 _ _ M;rw[<- O];unfold jx;simp only[aw,bA,ax,aa,dC,df,ac,aj,w.w,Kt,IY,ae,av,aE,w.d,yA,kS,z5,S,Oh,Ma,dt];exact⟨trivial,trivial,aR (by simp),trivial,aR (by simp),aR (by simp),aR (by simp),aR (by simp),λq C=>aq (h q C)⟩
 rw[pR c,if_neg (by simp)]
 simp only[ay,al,ap];refine⟨aR (by simp),λq C=>?_⟩
 have nq:=w.new C;have X:∀x,WvM ad.C_Weave wv p nm L SV (M.upd q x):=λx=>w.upd nq;simp only[af,Mu];rw[<- R];unfold jr;generalize F:ig ad (Q4 ad n) (Q5 ad n) (aB E)=K2;generalize H:gB ad (Q4 ad n) (Q5 ad n) (aB E)=K3;simp only[al,cK,rS,aa,am,ak,ac,ae,Ma,dt];refine⟨rfl,fV ok ⟨rfl,bE ok ⟨rfl,bE s ?_⟩⟩⟩;simp only[aE,bZ,Mq];have G:aQ r=true->∀(z:Rw)(u:List D)(c5 c6 Z:Option D),u.length<=2->1<=u.length->z.d=.tup ([.str (fK r),.str (vR r)]++u)->kP nm (bJ L SV) pl r o=[z]->K3 { nx:=λ_ M'=>drp Q .non M',rt:=drp Q } [cb (.ref wv),cb r.d,cb o.d,cb (tupD pl),cb (.ref q),c5,c6,Z] (M.upd q<|.lst u):=λ_ z u c5 c6 Z hx J ez ew=>by
  rw[ew]at h;rw[<- H];unfold gB;have ht:u.isEmpty=false:=by cases u with|nil=>simp at J|cons _ _=>rfl
  rw[fR r];simp only[aw,oX,bR,ac,yJ,Mem.upd_same,ht,O3,bA,aa,aj,am,fO,aI,bj,dC,yE,e2,frz,bn,ae,bP,dg,aF,if_true,Ma,dt];refine⟨aR (by simp;lia),aR (by simp),λA e=>vX C e λ_ _=>?_⟩
  have g:M A=none:=by
   rw[ah (λy=>by rw[y,Mem.upd_same]at e;cases e)]at e
   exact e
  have:=h A g;simp only[ai,ez]at this;exact this
 have leaf:aQ r=eP->fk (EU r) (yF r) (yF o)=[]/\K3 { nx:=λ_ M'=>drp Q .non M',rt:=drp Q } [cb (.ref wv),cb r.d,cb o.d,cb (tupD pl),cb (.ref q),ed,ed,ed] (M.upd q<|.lst []):=λI=>by
  refine⟨?_,?_⟩
  .have:yF r=[]:=by cases r<;>first|rfl|cases I
   rw[this];unfold EU
   split<;>rfl
  .rw[fA I,pR c]at h
   rw[<- H];unfold gB;simp only[aw,oX,bR,ac,yJ,Mem.upd_same,List.isEmpty_nil,Np,MC,if_false,bA,aa,ae,Ma,dt];refine⟨aR (by simp),λA e=>vX C e λ_ _=>?_⟩
   have g:M A=none:=by
    rw[ah (λy=>by rw[y,Mem.upd_same]at e;cases e)]at e
    exact e
   exact h A g
 cases r with
 |ifr x a b=>
  cases o with
  |ifr y a' b'=>
   simp only[fP,Mx]at k;simp only[hR,cR]at hn hc hl;simp only[yF,EU,fS,if_true,fk];refine⟨aG,?_⟩;simp only[bL,aD,bM,af,Mu,Md,Mp];refine⟨trivial,?_⟩;rw[<- F];refine p5 Y (SZ:=[]) ok.2.1 s.2.1 k.2.1 B.2.1 (by lia) (by lia) (by lia) (by simp) (X _) Mem.upd_same ⟨aG,?_⟩
   simp only[bL,aD,bM,af,Mu,Md,Mp];rw[Mem.upd_upd];refine⟨trivial,p5 Y ok.2.2 s.2.2 k.2.2 B.2.2 (by lia) (by lia) (by lia) (by simp) (X _) Mem.upd_same ⟨aG,?_⟩⟩
   rw[Mem.upd_upd];exact G rfl (.ifr x _ _) _ _ _ _ (by simp) (by simp) rfl rfl
  |_=>cases k
 |again x a=>
  cases o with
  |again y a'=>
   simp only[fP,Mx]at k;simp only[hR,cR]at hn hc hl;simp only[yF,EU,fS,MC,if_false,fk];refine⟨aG,?_⟩;simp only[bL,aD,bM,af,Mu,Md,Mp];refine⟨trivial,?_⟩;rw[<- F];refine p5 Y (SZ:=[]) ok.2 s.2 k.2 B.2 (by lia) (by lia) (by lia) (by simp) (X _) Mem.upd_same ⟨aG,?_⟩
   rw[Mem.upd_upd];exact G rfl (.again x _) _ _ _ _ (by simp) (by simp) rfl rfl
  |_=>cases k
 |_=>
  obtain⟨z1,z2⟩:=leaf rfl;rw[z1];exact⟨aG,z2⟩
theorem BP(ih:PVr ad wv p nm L SS m SV n):PVs ad wv p nm L SS m SV (n+1):=by
 intro rs os pl M Q E ok u k nb hn hc hl w h;rw[LA];unfold xa oG;generalize hK:km ad _ _ _=K;refine⟨by trivial,λq X=>?_⟩
 have nq:=w.new X
 refine br (λY U N=>∃(l e s g:List Rw)(J S:Option D),N=M.upd q (.lst<|ai<|bH nm (bJ L SV) pl 0 l e)/\rs=l++s/\os=e++g/\l.length=e.length/\Y=bF l.length (ai s)/\lg L pl l.length s g/\U=[cb _,cb _,cb _,cb _,cb _,J,S]) (λ_ _ _ _=>aG) ?_ ?_ _ _ _
  ⟨[],[],rs,os,_,_,rfl,rfl,rfl,rfl,dO _,nb,rfl⟩
 .rintro U N ⟨l,e,s,g,J,S,rfl,G,C,B,F,_,rfl⟩
  have ez:s=[]:=by cases s with|nil=>rfl|cons _ _=>trivial
  have Z:=dJ k;subst ez;rw[Mq]at G;subst G;have O:g=[]:=by
   simp_all
  subst O;rw[Mq]at C;subst C;simp only[aw,bn,aa,ac,ae,bP,dg,Mem.upd_same,Ma,dt];exact jY X h
 rintro x Y U N ⟨l,e,s,g,J,S,rfl,G,C,B,F,A,rfl⟩ D' H _ _ _
 cases s with
 |nil=>simp[ai,bF]at F
 |cons z s=>
  simp only[ai,bF,MH]at F;obtain⟨rfl,rfl⟩:=F;have l1:=ic (rs:=rs);subst G;subst C;rw[gr B]at k;rw[OkRs_append]at ok u;cases g with
  |nil=>simp[bu]at k
  |cons z' g=>
   simp only[bu,Mx]at k;simp only[ba,bd]at hn hl;simp only[aS,cRs]at hc;simp only[aS,cRs,Mg,Md]at l1;have wl:=kX (nm:=nm) (f:=bJ L SV) (pl:=pl) l e 0;have wl2:=vj (nm:=nm) (f:=bJ L SV) (pl:=pl++[(l.length:Int)]) z z';have eo:atI (ai (e++z'::g)) (l.length:Nat)=cb z'.d:=by rw[B];exact mD
   simp only[bL,aD,bM,af,Mu,Md,Mp];refine⟨trivial,?_⟩;rw[<- hK];unfold km;simp only[a_,fH,am,ak,aa,ac,aj,ax,ae,av,aE,eo,bV,Mem.upd_same,Ma,dt];refine⟨trivial,aR (by simp),bU (by lia) ⟨rfl,au λQ2 E2 I _=>ih z z' _ _ Q2 E2 ok.2.1 u.2.1 k.2.1 A.1 (by lia) (by lia) (by simp;lia) (w.upd nq) λq2 R=>I _ _ (iK R ?_)⟩⟩
   simp only[cB,Mem.upd_same,dg,Mem.upd_upd];refine⟨aR (by simp only[bg];lia),H _ _ ⟨l++[z],e++[z'],s,g,_,_,?_,by simp,by simp,by simp[B],by simp,by simpa using A.2,rfl⟩⟩
   have ew:bH nm (bJ L SV) pl 0 (l++[z]) (e++[z'])=bH nm (bJ L SV) pl 0 l e++kP nm (bJ L SV) (pl++[(l.length:Int)]) z z':=by
    rw[kR B];simp only[bH,Mq,Nv]
   rw[ew,aX]
theorem tm:∀n:Nat,PVs ad wv p nm L SS m SV n/\PVr ad wv p nm L SS m SV n
 |0=>⟨λ_ _ _ _ _ _ _ _ _ _ h=>by lia,λ_ _ _ _ _ _ _ _ _ _ h=>by lia⟩
 |n+1=>⟨BP (tm n).2,D1 (tm n).1⟩
end
section
theorem qO:∀(ss l:S_),(l++ss).Nodup->(kO l ss).length=l.length+ss.length
 |[],l,_=>by simp[kO]
 |x::ss,l,hn=>by
  unfold kO;rw[if_neg (λe=>(NH.mp hn).2.2 x e x (by simp) rfl),qO ss _ (by simp_all)]
  simp;lia
theorem KM(h:x∈L26):mU x:=by
 obtain⟨c,e,rfl⟩:=Nd.mp h;have:∀c∈lettersS.cps.toList,97<=c/\c<=122:=by decide +kernel
 exact⟨1,c,by lia,by lia,(this c e).1,(this c e).2,rfl⟩
variable{nm:Str}{S7:Int}
theorem p7(e:aQ r=eP)(g:SV<=S7)(o:ck SS m SV r):ck (SS++[nm]) m S7 r:=by
 cases r with
 |put x k=>exact⟨Ml.mpr (.inl o.1),o.2.1,o.2.2⟩
 |take x k=>exact⟨Ml.mpr (.inl o.1),o.2.1,by have:=o.2.2;lia⟩
 |pick x k=>exact⟨Ml.mpr (.inl o.1),Ml.mpr (.inl o.2.1),by have:=o.2.2;lia⟩
 |two w x y z=>exact⟨o.1,Ml.mpr (.inl o.2.1),Ml.mpr (.inl o.2.2.1),Ml.mpr<|.inl o.2.2.2⟩
 |_=>cases e
theorem HB(e:aQ r=eP)(k:fP r o=true):aQ o=false:=by
 cases r<;>first|cases e|skip
 all_goals cases o<;>first|rfl|cases k
theorem vo(w:∀pl k,f pl=cb k->0<=k/\k<S7)(l:SV<=S7)(h:aQ r=eP)(a:ck SS m SV r)(b:ck SS m SV o)(k:fP r o=true):
  aJ (SS++[nm]) m S7 (kP nm f pl r o)/\cRs (kP nm f pl r o)<=4*cR r/\bd (kP nm f pl r o)<=hR r+1:=by
 have g:=HB h k;have A:=f_ h;have B:=f_ g;rw[fA h];cases e:f pl with
 |none=>exact⟨⟨p7 h l a,trivial⟩,by simp only[cRs];lia,by simp only[bd];lia⟩
 |some i=>
  obtain⟨u,i1⟩:=w pl i e;have s:nm∈SS++[nm]:=by simp
  refine⟨⟨⟨s,u,i1⟩,⟨s,⟨p7 g l b,trivial⟩,⟨p7 h l a,trivial⟩⟩,trivial⟩,?_,?_⟩
  .simp only[cRs,cR];lia
  .simp only[bd,hR];lia
mutual
theorem Jg(g:∀pl k,f pl=cb k->0<=k/\k<S7)(e:SV<=S7):∀(r o:Rw)(pl:S9),ck SS m SV r->ck SS m SV o->fP r o=true->aJ (SS++[nm]) m S7 (kP nm f pl r o)/\cRs (kP nm f pl r o)<=4*cR r/\bd (kP nm f pl r o)<=hR r+1
 |.ifr x a b,o,pl,h1,h2,k=>by
  have i1:=ie g e a;have i2:=ie g e b;cases o with
  |ifr y a' b'=>
   simp only[fP,Mx]at k;obtain⟨h,s,l⟩:=i1 a' (pl++[1]) 0 h1.2.1 h2.2.1 k.2.1;obtain⟨u,A,w⟩:=i2 b' (pl++[0]) 0 h1.2.2 h2.2.2 k.2.2;exact⟨⟨⟨Ml.mpr (.inl h1.1),h,u⟩,trivial⟩,by simp only[kP,cRs,cR];lia,by simp only[kP,bd,hR];lia⟩
  |_=>cases k
 |.again x a,o,pl,h1,h2,k=>by
  have i1:=ie g e a;cases o with
  |again y a'=>
   simp only[fP,Mx]at k;obtain⟨h,s,l⟩:=i1 a' (pl++[0]) 0 h1.2 h2.2 k.2;exact⟨⟨⟨Ml.mpr (.inl h1.1),h⟩,trivial⟩,by simp only[kP,cRs,cR];lia,by simp only[kP,bd,hR];lia⟩
  |_=>cases k
 |.put _ _,o,pl,h1,h2,k=>vo g e rfl h1 h2 k
 |.take _ _,o,pl,h1,h2,k=>vo g e rfl h1 h2 k
 |.pick _ _,o,pl,h1,h2,k=>vo g e rfl h1 h2 k
 |.two _ _ _ _,o,pl,h1,h2,k=>vo g e rfl h1 h2 k
theorem ie(g:∀pl k,f pl=cb k->0<=k/\k<S7)(e:SV<=S7):∀(rs os:List Rw)(pl:S9)(j:Nat),aJ SS m SV rs->aJ SS m SV os->bu rs os=true->aJ (SS++[nm]) m S7 (bH nm f pl j rs os)/\cRs (bH nm f pl j rs os)<=4*cRs rs/\bd (bH nm f pl j rs os)<=bd rs+1
 |[],os,pl,j,_,_,_=>⟨trivial,by simp only[bH,cRs];lia,by simp only[bH,bd];lia⟩
 |r::rs,os,pl,j,h1,h2,k=>by
  cases os with
  |nil=>cases k
  |cons o os=>
   simp only[bu,Mx]at k;obtain⟨h,w,s⟩:=Jg g e r o (pl++[(j:Int)]) h1.1 h2.1 k.1;obtain⟨l,A,u⟩:=ie g e rs os pl (j+1) h1.2 h2.2 k.2;simp only[bH];refine⟨OkRs_append.mpr ⟨h,l⟩,?_,?_⟩
   .rw[aS];simp only[cRs];lia
   .rw[ba];simp only[bd];lia
end
theorem J2(h:0<=SV):∀pl k,bJ L SV pl=cb k->0<=k/\k<SV+(L.length:Int):=λpl k e=>by
 unfold bJ at e;cases c:L.findIdx? (·==pl) with
 |none=>simp_all
 |some i=>
  rw[c]at e;obtain⟨g,_⟩:=NA.mp c;have:SV+i=k:=by simpa using e
  lia
noncomputable def rE(SV:Int)(SS:S_)(rs os:List Rw):Bool:=decide (SS.length+1<=12)&&(decide (SV+((cZ rs os).length:Int)<=40)&&(decide (bd (vn SS SV rs os)<=4)&&decide (cRs (vn SS SV rs os)<=60)))
theorem tK(g:PlH m SV SS rs mk)(e:aJ SS m SV os)(k:bu rs os=true):aJ (SS++[cV SS]) m (SV+((cZ rs os).length:Int)) (vn SS SV rs os)/\cRs (vn SS SV rs os)<=4*cRs rs/\bd (vn SS SV rs os)<=bd rs+1:=
 ie (J2 g.t.k0) (by lia) rs os [] 0 g.ok e k
end
structure Cnt(h c0 d c:Nat):Prop where
 y:h+d<=4->c=c0
 n:4<h+d->61<=c
def Jq(ad:Ad)(n:Nat):Prop:=∀(rs:List Rw)(d:Nat)(M:Mem)(Q:DK)(E:DX)(SS:S_)(m SV:Int),aJ SS m SV rs->d<=4->5<=n+d->(∀c:Nat,Cnt (bd rs) (cRs rs) d c->Q (.int (c:Nat)) M)->Q7 ad n [.tup (ai rs),.int (d:Nat)] M Q E
section
variable{rsD rd:D}{d t:Nat}{c4:Option D}
theorem tu(l:Jq ad n)(ok:aJ SS m SV a)(s:d+1<=4)(u:5<=n+(d+1))(h:∀c:Nat,Cnt (bd a) (cRs a) (d+1) c->D2.nx [cb rsD,cb (.int (d:Nat)),cb (.int ((t+c:Nat):Int)),cb rd,cb (.tup<|ai a)] M):
  ku ad (Q7 ad n) EE D2 [cb rsD,cb (.int (d:Nat)),cb (.int (t:Nat)),cb rd,cb (.tup<|ai a)] M:=by
 refine⟨rfl,au λQ' E' g _=>?_⟩;refine l a _ M Q' E' _ m _ ok s u λc e=>g _ _ ?_;have:=h c e
 assumption
theorem Kh(l:Jq ad n)(B:aQ r=true)(ok:ck SS m SV r)(C:d<=4)(F:5<=n+1+d)(w:∀(t':Nat)(c4:Option D),Cnt (hR r) (cR r) d t'->D2.nx [cb rsD,cb (.int (d:Nat)),cb (.int ((t+t':Nat):Int)),cb r.d,c4] M)(h2:d=4->D2.rt (.int 61) M):
  gG ad (Q7 ad n) EE D2 [cb rsD,cb (.int (d:Nat)),cb (.int ((t+1:Nat):Int)),cb r.d,c4] M:=by
 unfold gG;generalize A:jH ad _ EE=K;simp only[al,aA,ao,aj,ac,dC,bY,dv,aH,bX,Ma,dt];refine⟨trivial,trivial,?_⟩
 by_cases c:(d:Int)=4
 .rw[decide_eq_true c]
  exact h2 (by lia)
 .rw[decide_eq_false c]
  rw[<- A];unfold jH;generalize g:ku ad _ EE=K1;cases r with
  |ifr x a b=>
   refine⟨aG,?_⟩;rw[<- g];refine tu l ok.2.1 (by lia) (by lia) λe h=>⟨aG,?_⟩
   refine tu l ok.2.2 (by lia) (by lia) λs u=>⟨aG,?_⟩
   rw[show t+1+e+s=t+(1+e+s) by lia]
   refine w _ _ ⟨λz=>?_,λz=>?_⟩
   .simp[hR]at z
    have:=h.y (by lia)
    have:=u.y (by lia)
    simp[cR];lia
   .simp[hR]at z
    rcases MW 4 _ with y|y
    .have:=h.n y;lia
    have:=u.n (by lia);lia
  |again x a=>
   refine⟨aG,?_⟩;rw[<- g];refine tu l ok.2 (by lia) (by lia) λe h=>⟨aG,?_⟩
   rw[show t+1+e=t+(1+e) by lia]
   refine w _ _ ⟨λz=>?_,λz=>?_⟩
   .simp[hR]at z
    have:=h.y (by lia)
    simp[cR];lia
   simp only[hR]at z;have:=h.n (by lia);lia
  |_=>cases B
theorem C4(w:Jq ad n)(ok:ck SS m SV r)(A:d<=4)(B:5<=n+1+d)(l:∀(t':Nat)(c4:Option D),Cnt (hR r) (cR r) d t'->D2.nx [cb rsD,cb (.int (d:Nat)),cb (.int ((t+t':Nat):Int)),cb r.d,c4] M)(h2:aQ r=true->d=4->D2.rt (.int 61) M):
  gA ad (Q7 ad n) EE D2 [cb rsD,cb (.int (d:Nat)),cb (.int (t:Nat)),cb r.d,c4] M:=by
 unfold gA;generalize s:k8 ad _ EE=K;simp only[al,ap,aj,ac,dC,aF,af,Mu,Ma,dt];rw[<- s];unfold k8;generalize g:gG ad _ EE=K3;have h:aQ r=eP->D2.nx _ M:=λe=>by
  obtain⟨F,C⟩:=f_ e;exact l 1 c4 ⟨by lia,by lia⟩
 have bl:aQ r=true->K3 D2 [cb _,cb _,cb _,cb _,c4] M:=λe=>by
  rw[<- g];exact Kh w e ok A B l (h2 e)
 rw[(fR r)]at h bl ⊢;simp only[aA,ao,aj,ac,dC,av,aE,atI_0,Ma,dt];refine⟨by trivial,λq u=>iK u (zx ok ?_)⟩
 cases c:aQ r with
 |true=>exact bl c
 |false=>exact h c
theorem BK(R:Jq ad n):Jq ad (n+1):=by
 intro rs d M Q E SS m SV ok G X h;rw[Lg];unfold vP pQ;generalize I:gA ad _ _=K;simp[al,ap,af];refine br (λF U N=>N=M/\∃(g e:List Rw)(t:Nat)(u c4:Option D),rs=g++e/\F=ai e/\Cnt (bd g) (cRs g) d t/\U=[cb _,cb _,cb (.int t),u,c4]) (λ_ _ _ _=>aG) ?_ ?_ _ _ _ ⟨rfl,[],rs,0,_,_,rfl,rfl,⟨λ_=>rfl,λz=>by simp only[bd]at z;lia⟩,rfl⟩
 .rintro U N ⟨rfl,g,e,t,u,c4,s,l,q,rfl⟩
  have H:e=[]:=by cases e with|nil=>rfl|cons _ _=>trivial
  subst H;rw[Mq]at s;subst s;exact aq (h t q)
 rintro x F U N ⟨rfl,g,e,t,u,c4,s,l,q,rfl⟩ D' A _ B _
 cases e with
 |nil=>simp[ai]at l
 |cons z e=>
  simp only[ai,MH]at l;obtain⟨rfl,rfl⟩:=l;subst s;rw[OkRs_append]at ok;rw[<- I];refine C4 R ok.2.1 G (by lia) (λJ c4 C=>A _ _ ⟨rfl,g++[z],e,t+J,_,c4,by simp,rfl,⟨λy=>?_,λy=>?_⟩,rfl⟩) λO S=>?_
  .simp only[ba,bd]at y
   have:=q.y (by lia)
   have:=C.y (by lia)
   simp only[aS,cRs];lia
  .simp only[ba,bd]at y
   rcases MW 4 (bd g+d) with w|w
   .have:=q.n w;lia
   .have:=C.n (by lia);lia
  .rw[B]
   have:=Jw O;refine aq (h 61 ⟨λy=>?_,λ_=>Mo _⟩);simp only[ba,bd]at y;lia
theorem B1:∀n:Nat,Jq ad n
 |0=>λ_ _ _ _ _ _ _ _ _ g e=>by lia
 |n+1=>BK (B1 n)
theorem xA(ok:aJ SS m SV rows)(h:Q (.bl (decide (SS.length<=12)&&(decide (SV<=40)&&(decide (bd rows<=4)&&decide (cRs rows<=60))))) M):qV ad [aW m SV SS rows mk] M Q E:=by
 have A:atI [D.int m,.tup (SS.map D.str),.int SV,.tup (ai rows),.str mk] 1=cb (.tup<|SS.map D.str):=by rfl
 have u:atI [D.int m,.tup (SS.map D.str),.int SV,.tup (ai rows),.str mk] 2=cb (.int SV):=by rfl
 rw[LI];unfold vA;simp only[aw,eI,aj,bn,aa,ae,ac,dC,av,aW,aE,A,u,bC,Mc,yY,pU,dt];have s:decide ((SS.length:Int)<=12)=decide (SS.length<=12):=decide_eq_decide.mpr (by lia)
 rw[s];cases g:decide (SS.length<=12) with
 |false=>rw[g]at h;exact aq h
 |true=>
  rw[g]at h;cases l:decide (SV<=40) with
  |false=>rw[l]at h;exact aq h
  |true=>
   rw[l]at h;refine⟨rfl,au λQ' E' w _=>B1 24 _ 0 M Q' E' _ m _ ok (by lia) (by lia) λc q=>w _ _ ?_⟩
   simp[frz];have e:decide ((c:Int)<=60)=(decide (bd rows<=4)&&decide (cRs rows<=60)):=by
    rw[<- Bool.decide_and];refine decide_eq_decide.mpr ⟨λz=>?_,λz=>?_⟩
    .rcases MW 4 _ with y|y
     .have:=q.n y;lia
     have:=q.y y;lia
    have:=q.y (by lia);lia
   rw[e];exact aq h
end
section
noncomputable def sX(m SV:Int)(SS:S_)(rs os:List Rw)(mk:Str):D:=aW m (SV+((cZ rs os).length:Int)) (SS++[cV SS]) (vn SS SV rs os) mk
theorem Ab(g:PlH m SV SS rs mk)(ok2:aJ SS m SV os)(k:bu rs os=true)(f:rE SV SS rs os=true)(h:Q (.bl true) M):qL ad [sX m SV SS rs os mk] M Q E:=by
 obtain⟨w1,_,_⟩:=tK g ok2 k;have t:=g.t;have k0:=t.k0;unfold rE at f;simp only[Mx,decide_eq_true_eq]at f;obtain⟨f1,f2⟩:=oE t.n1;have nd:(SS++[cV SS]).Nodup:=NH.mpr ⟨g.nd,by simp,λx hx y hy e=>by
  simp_all⟩
 have e2:=qO _ [] (by trivial)
 simp only[Mp,Nv]at e2;refine rH t.m2 t.m1 (by lia) f.2.1 (λx hx=>?_) (by simp) (by simpa using f.1) e2 (Ml.mpr<|.inl g.mkm) w1 f.2.2.1 f.2.2.2 h
 rcases Ml.mp hx with z|z
 .exact g.one x z
 simp at z;subst z;exact KM f1
theorem tD(g:PlH m SV SS rs mk)(l:aJ SS m SV os)(k:bu rs os=true)(f:rE SV SS rs os=true)(h:Q (sX m SV SS rs os mk) M):wW ad [aW m SV SS rs mk,aW m SV SS os mk] M Q E:=by
 have n1:=g.t.n1;have Z:=g.h;have Y:=g.c;have J:∀r:List Rw,atI [D.int m,.tup (SS.map D.str),.int SV,.tup (ai r),.str mk] 0=cb (.int m):=λr=>by rw[atI_0];rfl
 have X:∀r:List Rw,atI [D.int m,.tup (SS.map D.str),.int SV,.tup (ai r),.str mk] 1=cb (.tup<|SS.map D.str):=λr=>by rw[atI_1];rfl
 have S:∀r:List Rw,atI [D.int m,.tup (SS.map D.str),.int SV,.tup (ai r),.str mk] 2=cb (.int SV):=λr=>by rw[atI_2];rfl
 have O:∀r:List Rw,atI [D.int m,.tup (SS.map D.str),.int SV,.tup (ai r),.str mk] 3=cb (.tup<|ai r):=λr=>by rw[atI_3];rfl
 have F:∀r:List Rw,atI [D.int m,.tup (SS.map D.str),.int SV,.tup (ai r),.str mk] 4=cb (.str mk):=λr=>by rw[atI_4];rfl
 rw[LU];unfold wL;generalize u:j_ ad (aB E)=K3;refine⟨rfl,λa I=>au λQ' E' R _=>qF n1 g.ok l k (by lia) (by lia) Mem.upd_same λp M1 w G=>R _ _ ?_⟩
 have keep:∀b o,M b=cb o->M1 b=cb o:=λb o e=>by
  have C:b≠a:=λz=>by rw[z,I]at e;cases e
  exact G b o C (by rw[ah C];exact e)
 simp only[af,Mu];rw[<- u];unfold j_;generalize A:jw ad (aB E)=K2;simp only[aW,al,ap,am,ak,aa,ac,aj,dC,ae,ax,av,aE,O,Ma,dt];refine⟨aR (by simp),rfl,au λQ2 E2 B _=>(tm 24).1 rs os [] M1 Q2 E2 g.ok l k (AL rs os) (by lia) (by lia) (by simp;lia) w (B _ _ ?_)⟩
 rw[<- A];unfold jw;generalize s:jG ad (aB E)=K1;simp only[al,ap,ax,aa,aj,ac,dC,df,am,bn,ae,w.w,Kt,IY,vV,w.d,pZ,av,aE,J,X,S,F,aF,frz,af,Mu,Ma,dt];refine⟨trivial,aR (by simp),aR (by simp;lia),trivial,aR (by simp),?_⟩
 have H:D.tup [.int m,.tup (SS.map D.str++[.str (cV SS)]),.int (SV+((cZ rs os).length:Int)),.tup (ai<|bH (cV SS) (bJ (cZ rs os) SV) [] 0 rs os),.str mk]=sX m SV SS rs os mk:=by
  unfold sX aW vn;rw[Nt];rfl
 rw[H,<- s];unfold jG;refine⟨rfl,aK (λ_ _ q=>Ab g l k f q) ?_⟩;exact⟨M,keep,h⟩
end
inductive Tk where
 |row (r:Rw)|rows (j:Nat) (rs:List Rw)|loop (x:Str) (a:List Rw) (t:Nat)
noncomputable abbrev qu:=(List Int×Int)×List Int
noncomputable def cf(m:Int)(P:S9):Cf:=⟨m,P,0⟩
inductive Ex(m:Int)(P:S9):Tk->List Int->List Int->c_->c_->List qu->Prop
 |leaf {r:Rw} {pl wp:S9} {n:c_} (h:rG r=true):Ex m P (.row r) pl wp n (sN n (Cq r)<|eQ (cf m P) n r) [((pl,eQ (cf m P) n r),wp)]
 |ifT {x:Str} {a b:List Rw} {pl wp:S9} {n n':c_} {T:List qu} (h:lk n x=1) (h1:Ex m P (.rows 0 a) (pl++[1]) (wp++[1]) n n' T):Ex m P (.row<|.ifr x a b) pl wp n n' (((pl,1),wp)::T)
 |ifF {x:Str} {a b:List Rw} {pl wp:S9} {n n':c_} {T:List qu} (h:lk n x=0) (h1:Ex m P (.rows 0 b) (pl++[0]) (wp++[0]) n n' T):Ex m P (.row<|.ifr x a b) pl wp n n' (((pl,0),wp)::T)
 |again {x:Str} {a:List Rw} {pl wp:S9} {n n':c_} {T:List qu} (h:Ex m P (.loop x a 0) pl wp n n' T):Ex m P (.row<|.again x a) pl wp n n' T
 |loopE {x:Str} {a:List Rw} {t:Nat} {pl wp:S9} {n:c_} (h:lk n x=0):Ex m P (.loop x a t) pl wp n n [((pl++[(t:Int)],0),wp++[0])]
 |loopC {x:Str} {a:List Rw} {t:Nat} {pl wp:S9} {n n1 n':c_} {T1 T2:List qu} (h:lk n x=1) (h1:Ex m P (.rows 0 a) (pl++[(t:Int)]) (wp++[0]) n n1 T1) (h2:Ex m P (.loop x a (t+1)) pl wp n1 n' T2):Ex m P (.loop x a t) pl wp n n' (((pl++[(t:Int)],1),wp++[0])::(T1++T2))
 |nil {j:Nat} {pl wp:S9} {n:c_}:Ex m P (.rows j []) pl wp n n []
 |cons {j:Nat} {r:Rw} {rs:List Rw} {pl wp:S9} {n n1 n':c_} {T1 T2:List qu} (h1:Ex m P (.row r) (pl++[(j:Int)]) (wp++[(j:Int)]) n n1 T1) (h2:Ex m P (.rows (j+1) rs) pl wp n1 n' T2):Ex m P (.rows j (r::rs)) pl wp n n' (T1++T2)
theorem JI(n:c_)(x:Str):lk n x=0\/lk n x=1:=by unfold lk;split<;>simp
section
theorem zT{s:Sx}(h:(nt c pl v s).1=true):nt c pl v s=(true,⟨s.nums,s.steps++[(pl,v)]⟩):=by
 unfold nt at h ⊢
 split at h
 .simp_all
 cases h
theorem Iy{n:c_}:eQ c n r=eQ (cf c.m c.pieces) n r:=by rfl
def KD(c:Cf)(K:Tk)(pl wp:S9)(s s':Sx):Prop:=∃T,Ex c.m c.pieces K pl wp s.nums s'.nums T/\s'.steps=s.steps++T.map (·.1)
theorem wf{x:Str}{a:List Rw}{pl wp:S9}{e:Nat->Sx->Bool×Sx}(A:∀t s g,e t s=(true,g)->KD c (.rows 0 a) (pl++[(t:Int)]) (wp++[0]) s g):∀(f t:Nat)(s g:Sx),dk c x pl e f t s=(true,g)->KD c (.loop x a t) pl wp s g
 |0,_,_,_,h=>by simp[dk]at h
 |f+1,t,s,g,h=>by
  unfold dk at h
  by_cases B:(nt c (pl++[(t:Int)]) (lk s.nums x) s).1=true
  .rw[zT B]at h
   by_cases l:lk s.nums x=1
   .rw[l]at h
    by_cases u:(e t ⟨s.nums,s.steps++[(pl++[(t:Int)],1)]⟩).1=true
    .rw[if_pos u]at h
     obtain⟨T1,C,H⟩:=A t _ _ (QI u rfl);obtain⟨T2,F,G⟩:=wf A f _ _ _ h;exact⟨_,.loopC l C F,by simp_all⟩
    simp_all
   have w:=(JI _ _).resolve_right l;rw[w]at h;cases h;exact⟨_,.loopE w,rfl⟩
  simp_all
theorem qg{s e:Sx}(hr:rG r=true)(h:iA c r pl s=(true,e)):KD c (.row r) pl wp s e:=by
 rw[ca hr]at h;unfold lA at h
 split at h
 .cases h
  refine⟨_,.leaf hr,?_⟩;rfl
 cases h
mutual
theorem Gq:∀(r:Rw)(pl wp:S9)(s g:Sx),iA c r pl s=(true,g)->KD c (.row r) pl wp s g
 |.ifr x a b,pl,wp,s,g,h=>by
  have A:=gZ a;have C:=gZ b;unfold iA at h
  by_cases u:(nt c pl (lk s.nums x) s).1=true
  .rw[if_pos u,zT u]at h
   by_cases l:lk s.nums x=1
   .rw[if_pos l,l]at h
    obtain⟨T,e,q⟩:=A _ (wp++[1]) _ _ _ h;exact⟨_,.ifT l e,by rw[q];simp⟩
   .rw[if_neg l]at h
    have B:lk s.nums x=0:=(JI _ _).resolve_right l;rw[B]at h;obtain⟨T,e,q⟩:=C _ (wp++[0]) _ _ _ h;exact⟨_,.ifF B e,by rw[q];simp⟩
  .rw[if_neg u]at h
   exact absurd (congrArg Prod.fst h) u
 |.again x a,pl,wp,s,g,h=>by
  have A:=gZ a;unfold iA at h;obtain⟨T,e,q⟩:=wf (a:=a) (wp:=wp) (λt s g z=>A _ _ _ _ _ z) _ _ _ _ h;exact⟨T,.again e,q⟩
 |.put x k,pl,wp,s,g,h=>qg rfl h
 |.take x k,pl,wp,s,g,h=>qg rfl h
 |.pick x k,pl,wp,s,g,h=>qg rfl h
 |.two w x y z,pl,wp,s,g,h=>qg rfl h
theorem gZ:∀(rs:List Rw)(pl wp:S9)(j:Nat)(s g:Sx),cI c rs pl j s=(true,g)->KD c (.rows j rs) pl wp s g
 |[],pl,wp,j,s,g,h=>by
  simp only[cI,PX,true_and]at h;subst h;exact⟨[],.nil,by simp⟩
 |r::rs,pl,wp,j,s,g,h=>by
  unfold cI at h
  by_cases e:(iA c r (pl++[(j:Int)]) s).1=true
  .rw[if_pos e]at h
   obtain⟨T1,l,w⟩:=Gq r (pl++[(j:Int)]) (wp++[(j:Int)]) s _ (QI e rfl);obtain⟨T2,u,A⟩:=gZ rs pl wp (j+1) _ _ h;exact⟨_,.cons l u,by rw[A,w];simp⟩
  .rw[if_neg e]at h
   exact absurd (congrArg Prod.fst h) e
end
def Go(c:Cf)(n:c_)(n':c_)(T:List qu)(S:List (List Int×Int))(g:Sx->Bool×Sx):Prop:=
 (S.length+T.length<=c.most->g ⟨n,S⟩=(true,⟨n',S++T.map (·.1)⟩))/\(c.most<S.length+T.length->(g ⟨n,S⟩).1=eP)
theorem we{n:c_}{S:List (List Int×Int)}:nt c pl v ⟨n,S⟩=if S.length<c.most then (true,⟨n,S++[(pl,v)]⟩) else (eP,⟨n,S⟩):=rfl
theorem LJ{K:Tk}{n:c_}(h:Ex m P K pl wp n n' T)(w:c.m=m)(A:c.pieces=P):∀S:List (List Int×Int),S.length<=c.most->match K with
  |.row r=>Go c n n' T S (iA c r pl)
  |.rows j rs=>Go c n n' T S (cI c rs pl j)
  |.loop x a t=>∀f,c.most-S.length+1<=f->Go c n n' T S (dk c x pl (λt s=>cI c a (pl++[(t:Int)]) 0 s) f t):=by
 subst w;subst A
 induction h with
 |@leaf r pl wp n h=>
  intro S e;refine⟨λq=>?_,λq=>?_⟩
  .rw[ca h]
   unfold lA;rw[if_pos (show S.length<c.most by simp at q;lia),Iy]
   rfl
  .rw[ca h]
   unfold lA;rw[if_neg (show ¬S.length<c.most by simp at q;lia)]
 |@ifT x a b pl wp n n' T h h1 ih=>
  intro S e;unfold Go iA;dsimp only;rw[we,h]
  by_cases q:S.length<c.most
  .rw[if_pos q]
   have:=ih (S++[(pl,1)]) (by simp;lia)
   dsimp only at this ⊢;rw[if_pos rfl,if_pos rfl];refine⟨λz=>?_,λz=>?_⟩
   .rw[this.1 (by simp at z ⊢;lia)];simp
   .exact this.2 (by simp at z ⊢;lia)
  .rw[if_neg q]
   refine⟨λz=>?_,λz=>?_⟩
   .simp at z;lia
   .rfl
 |@ifF x a b pl wp n n' T h h1 ih=>
  intro S e;unfold Go iA;dsimp only;rw[we,h]
  by_cases q:S.length<c.most
  .rw[if_pos q]
   have:=ih (S++[(pl,0)]) (by simp;lia)
   dsimp only at this ⊢;rw[if_pos rfl,if_neg (by lia)]
   refine⟨λz=>?_,λz=>?_⟩
   .rw[this.1 (by simp at z ⊢;lia)];simp
   .exact this.2 (by simp at z ⊢;lia)
  .rw[if_neg q]
   refine⟨λz=>?_,λz=>?_⟩
   .simp at z;lia
   .rfl
 |@again x a pl wp n n' T h ih=>
  intro S e;have:=ih S e (c.most+1) (by lia)
  unfold Go at this ⊢;unfold iA;exact this
 |@loopE x a t pl wp n h=>
  intro S e f u;obtain⟨f,rfl⟩:∃g,f=g+1:=⟨f-1,by lia⟩
  unfold Go dk;dsimp only;rw[we,h]
  by_cases q:S.length<c.most
  .rw[if_pos q]
   dsimp only;rw[if_pos rfl,if_neg (by lia)]
   exact⟨λ_=>rfl,λz=>by simp at z;lia⟩
  .rw[if_neg q]
   refine⟨λz=>?_,λz=>rfl⟩;simp at z;lia
 |@loopC x a t pl wp n n1 n' T1 T2 h h1 h2 ih1 ih2=>
  intro S e f u;obtain⟨f,rfl⟩:∃g,f=g+1:=⟨f-1,by lia⟩
  unfold Go dk;dsimp only;rw[we,h]
  by_cases q:S.length<c.most
  .rw[if_pos q]
   have i1:=ih1 (S++[(pl++[(t:Int)],1)]) (by simp;lia)
   dsimp only at i1 ⊢;rw[if_pos rfl,if_pos rfl]
   by_cases l:(S++[(pl++[(t:Int)],(1:Int))]).length+T1.length<=c.most
   .rw[i1.1 l]
    dsimp only;rw[if_pos rfl];have i2:=ih2 (S++[(pl++[(t:Int)],1)]++T1.map (·.1)) (by simp at l ⊢;lia) f (by simp at l ⊢;lia)
    refine⟨λz=>?_,λz=>?_⟩
    .rw[i2.1 (by simp at z ⊢;lia)];simp
    .exact i2.2 (by simp at z ⊢;lia)
   .have:=i1.2 (by lia)
    rw[if_neg (by rw[this];simp)]
    refine⟨λz=>?_,λz=>this⟩;simp at z l;lia
  .rw[if_neg q]
   refine⟨λz=>?_,λz=>rfl⟩;simp at z;lia
 |@nil j pl wp n=>
  intro S e;refine⟨λ_=>by simp[cI],λz=>by simp at z;lia⟩
 |@cons j r rs pl wp n n1 n' T1 T2 h1 h2 ih1 ih2=>
  intro S e;have i1:=ih1 S e;unfold Go cI;dsimp only at i1 ⊢
  by_cases l:S.length+T1.length<=c.most
  .rw[i1.1 l]
   dsimp only;rw[if_pos rfl];have i2:=ih2 (S++T1.map (·.1)) (by simp;lia)
   dsimp only at i2;refine⟨λz=>?_,λz=>?_⟩
   .rw[i2.1 (by simp at z ⊢;lia)];simp
   .exact i2.2 (by simp at z ⊢;lia)
  .have:=i1.2 (by lia)
   rw[if_neg (by rw[this];simp)]
   refine⟨λz=>?_,λz=>this⟩;simp at z;lia
theorem Ba{pl wp:S9}:∀{a b:List Rw}{j:Nat}{n n1 n':c_}{T1 T2:List qu},Ex m P (.rows j a) pl wp n n1 T1->Ex m P (.rows (j+a.length) b) pl wp n1 n' T2->Ex m P (.rows j (a++b)) pl wp n n' (T1++T2)
 |[],b,j,n,n1,n',T1,T2,h1,h2=>by
  cases h1;exact h2
 |r::a,b,j,n,n1,n',T1,T2,h1,h2=>by
  cases h1 with
  |cons p q=>
   rw[MB];refine .cons p (Ba q ?_);rw[show j+1+a.length=j+(r::a).length by simp;lia]
   exact h2
end
mutual
noncomputable def yH:Rw->List Int->List Int
 |.again _ a,q=>match q with
  |[]=>[]
  |_::q=>0::(match q with
   |[]=>[]
   |j::q=>j::sj a j.toNat q)
 |.ifr _ a b,q=>match q with
  |[]=>[]
  |s::q=>s::(match q with
   |[]=>[]
   |j::q=>j::(if s=1 then sj a j.toNat q else sj b j.toNat q))
 |_,_=>[]
noncomputable def sj:List Rw->Nat->List Int->List Int
 |[],_,_=>[]
 |r::_,0,q=>yH r q
 |_::rs,k+1,q=>sj rs k q
end
noncomputable def da(rs:List Rw):List Int->List Int
 |[]=>[]
 |j::q=>j::sj rs j.toNat q
mutual
def Jr:Rw->List Int->Prop
 |.again _ a,q=>match q with
  |[]=>True
  |t::q=>0<=t/\(match q with
   |[]=>True
   |j::q=>0<=j/\rL a j.toNat q)
 |.ifr _ a b,q=>match q with
  |[]=>True
  |s::q=>match q with
   |[]=>False
   |j::q=>0<=j/\((s=1/\rL a j.toNat q)\/(s=0/\rL b j.toNat q))
 |_,q=>q=[]
def rL:List Rw->Nat->List Int->Prop
 |[],_,_=>False
 |r::_,0,q=>Jr r q
 |_::rs,k+1,q=>rL rs k q
end
def j7(rs:List Rw):List Int->Prop
 |[]=>False
 |j::q=>0<=j/\rL rs j.toNat q
theorem kj(r:Rw):yH r []=[]:=by cases r<;>rfl
theorem pA(r:Rw):Jr r []:=by cases r<;>first|exact trivial|rfl
section
theorem KE{K:Tk}{n:c_}(h:Ex m P K pl wp n n' T):(match K with
  |.row r=>∀q,Jr r q->j7 rows (pl++q)/\da rows (pl++q)=wp++yH r q
  |.rows j rs=>∀(i:Nat)(q:S9),rL rs i q->j7 rows (pl++((j+i:Nat):Int)::q)/\da rows (pl++((j+i:Nat):Int)::q)=wp++((j+i:Nat):Int)::sj rs i q
  |.loop x a _=>∀q,Jr (.again x a) q->j7 rows (pl++q)/\da rows (pl++q)=wp++yH (.again x a) q)->∀s∈T,j7 rows s.1.1/\da rows s.1.1=s.2:=by
 induction h with
 |@leaf r pl wp n h=>
  intro H s hs;have:=H [] (pA r);rw[kj,Mq,Mq]at this;simp only[MM]at hs;subst hs;exact this
 |@ifT x a b pl wp n n' T h h1 ih=>
  intro H s hs;rcases Mm.mp hs with rfl|hs
  .have:=H [] (pA _)
   rw[kj,Mq,Mq]at this;exact this
  .refine ih (λi q e=>?_) s hs
   have:=H (1::(i:Int)::q) ⟨by lia,.inl ⟨rfl,by rw[MZ];exact e⟩⟩
   simp only[yH,if_true,MZ]at this;simp only[MB,MN,Nv];exact this
 |@ifF x a b pl wp n n' T h h1 ih=>
  intro H s hs;rcases Mm.mp hs with rfl|hs
  .have:=H [] (pA _)
   rw[kj,Mq,Mq]at this;exact this
  .refine ih (λi q e=>?_) s hs
   have:=H (0::(i:Int)::q) ⟨by lia,.inr ⟨rfl,by rw[MZ];exact e⟩⟩
   simp only[yH,if_neg (show ¬(0:Int)=1 by lia),MZ]at this
   simp only[MB,MN,Nv];exact this
 |@again x a pl wp n n' T h ih=>exact λH=>ih H
 |@loopE x a t pl wp n h=>
  intro H s hs;have:=H [(t:Int)] ⟨by lia,trivial⟩
  simp only[MM]at hs;subst hs;exact this
 |@loopC x a t pl wp n n1 n' T1 T2 h h1 h2 ih1 ih2=>
  intro H s hs;rcases Mm.mp hs with rfl|hs
  .exact H [(t:Int)] ⟨by lia,trivial⟩
  .rcases Ml.mp hs with hs|hs
   .refine ih1 (λi q e=>?_) s hs
    have:=H ((t:Int)::(i:Int)::q) ⟨by lia,by lia,by rw[MZ];exact e⟩
    simp only[yH,MZ]at this;simp only[MB,MN,Nv];exact this
   .exact ih2 H s hs
 |@nil j pl wp n=>exact λ_ s hs=>by cases hs
 |@cons j r rs pl wp n n1 n' T1 T2 h1 h2 ih1 ih2=>
  intro H s hs;rcases Ml.mp hs with hs|hs
  .refine ih1 (λq e=>?_) s hs
   have:=H 0 q e;simp only[sj,Nat.add_zero]at this;simp only[MB,MN];exact this
  .refine ih2 (λi q e=>?_) s hs
   have:=H (i+1) q e;rw[show j+(i+1)=j+1+i by lia]at this
   exact this
theorem Ho{n:c_}(h:Ex m P (.rows 0 rows) [] [] n n' T):∀s∈T,j7 rows s.1.1/\da rows s.1.1=s.2:=
 KE h λi q e=>by
  simp;exact⟨⟨by lia,by assumption⟩,by rfl⟩
end
mutual
theorem zh:∀(r o:Rw)(pl:S9),pl.length % 2=1->∀x∈bv pl r o,x.length % 2=1
 |.ifr _ a b,o,pl,h=>by
  have e:=dI a;have g:=dI b;cases o with
  |ifr y a' b'=>
   intro x hx;simp only[bv,Ml]at hx;rcases hx with hx|hx
   .exact g _ _ _ (by simp;lia) x hx
   .exact e _ _ _ (by simp;lia) x hx
  |_=>intro x hx;cases hx
 |.again _ a,o,pl,h=>by
  have e:=dI a;cases o with
  |again y a'=>exact λx hx=>e _ _ _ (by simp;lia) x hx
  |_=>intro x hx;cases hx
 |.put _ _,o,pl,h=>by intro x hx;rw[aU rfl]at hx;split at hx<;>simp at hx;rw[hx];exact h
 |.take _ _,o,pl,h=>by intro x hx;rw[aU rfl]at hx;split at hx<;>simp at hx;rw[hx];exact h
 |.pick _ _,o,pl,h=>by intro x hx;rw[aU rfl]at hx;split at hx<;>simp at hx;rw[hx];exact h
 |.two _ _ _ _,o,pl,h=>by intro x hx;rw[aU rfl]at hx;split at hx<;>simp at hx;rw[hx];exact h
theorem dI:∀(rs os:List Rw)(pl:S9)(j:Nat),pl.length % 2=0->∀x∈aV pl j rs os,x.length % 2=1
 |[],os,pl,j,_=>by intro x hx;cases hx
 |r::rs,os,pl,j,h=>by
  cases os with
  |nil=>intro x hx;cases hx
  |cons o os=>
   intro x hx;simp only[aV,Ml]at hx;rcases hx with hx|hx
   .exact zh r o _ (by simp;lia) x hx
   .exact dI rs os _ _ h x hx
end
theorem Dj(hr:aQ r=eP)(k:fP r o=true)(h:tz r o=eP):r=o:=by
 have e:¬(Mw "put")=Mw "take":=by trivial
 cases r<;>first|trivial|(cases o<;>first|rfl|skip)
 all_goals simp[tz,Rw.d,aH,cz]at h
 all_goals simp_all
noncomputable def mM(L:S8)(T:List qu):Nat:=(T.filter λs=>decide (s.2∈L)).length
section
theorem zC{T1 T2:List qu}:mM L (T1++T2)=mM L T1+mM L T2:=by simp[mM]
theorem rg{s:List Int×Int}{w:S9}(h:w∉L):mM L ((s,w)::T)=mM L T:=by simp[mM,h]
theorem Hh{s:List Int×Int}{w:S9}(h:w∈L):mM L [(s,w)]=1:=by simp[mM,h]
end
structure Rel(SS:S_)(z:Str)(n N:c_):Prop where
 k1:n.map (·.1)=SS
 k2:N.map (·.1)=SS++[z]
 v:∀x∈SS,nm N x=nm n x
theorem wE{n:c_}(h:x∈n.map (·.1)):nm (sN n x v) y=if y=x then v else nm n y:=by
 unfold nm;rw[Lx h]
 split<;>rfl
section
variable{n N:c_}{l:Nat}
theorem Rel.set(r:Rel SS z n N)(e:x∈SS)(v:Int):Rel SS z (sN n x v) (sN N x v):=by
 refine⟨by rw[jE];exact r.k1,by rw[jE];exact r.k2,λy g=>?_⟩
 rw[wE (by rw[r.k2];exact Ml.mpr (.inl e)),wE (by rw[r.k1];exact e),r.v y g]
theorem Rel.own(r:Rel SS z n N)(s:z∉SS)(v:Int):Rel SS z n (sN N z v)/\nm (sN N z v) z=v:=by
 have h:z∈N.map (·.1):=by rw[r.k2];simp
 refine⟨⟨r.k1,by rw[jE];exact r.k2,λy g=>?_⟩,?_⟩
 .rw[wE h,if_neg (λe:y=z=>s (e▸g)),r.v y g]
 rw[wE h,if_pos rfl]
theorem Rel.lk(r:Rel SS z n N)(e:x∈SS):_T.lk N x=_T.lk n x:=by unfold _T.lk;rw[r.v x e]
theorem vb(r:Rel SS z n N){e:Rw}(g:rG e=true)(h:cy e=eP)(ok:ck SS m SV e)(A:(P.length:Int)=SV):eQ (cf m (P++Mh l S0)) N e=eQ (cf m P) n e/\Cq e∈SS:=by
 cases e with
 |put x k=>exact⟨rfl,ok.1⟩
 |take x i=>
  have u:=ok.2.1;have s:=ok.2.2;refine⟨?_,ok.1⟩;show ((P++Mh l _)[i.toNat]?).getD 0=P[i.toNat]?.getD 0;rw[N3 (by lia)]
 |pick x y=>cases h
 |two w x y z=>
  refine⟨?_,ok.2.1⟩;show Ff w _ _ m=Ff w _ _ m;rw[r.v y ok.2.2.1,r.v z ok.2.2.2]
 |ifr x a b=>cases g
 |again x a=>cases g
end
section
def Sim(SS:S_)(z:Str)(m SV:Int)(P:S9)(S0:Int)(L:S8)(b:Bool)(K:Tk)(wp:S9)(n n':c_)(T:List qu):Prop:=match K with
 |.row e=>∀r o,e=(if b=true then o else r)->fP r o=true->nbR L wp r o->(∀x∈bv wp r o,x∈L)->ck SS m SV r->ck SS m SV o->wp.length % 2=1->∀pl' wp' j' N,Rel SS z n N->
  ∃N' T',Ex m (P++Mh L.length S0) (.rows j'<|kP z (bJ L SV) wp r o) pl' wp' N N' T'/\Rel SS z n' N'/\T'.length=T.length+2*mM L T
 |.rows j es=>∀rs os,es=(if b=true then os else rs)->bu rs os=true->lg L wp j rs os->(∀x∈aV wp j rs os,x∈L)->aJ SS m SV rs->aJ SS m SV os->wp.length % 2=0->∀pl' wp' j' N,Rel SS z n N->
  ∃N' T',Ex m (P++Mh L.length S0) (.rows j'<|bH z (bJ L SV) wp j rs os) pl' wp' N N' T'/\Rel SS z n' N'/\T'.length=T.length+2*mM L T
 |.loop x a t=>∀ra oa,a=(if b=true then oa else ra)->bu ra oa=true->lg L (wp++[0]) 0 ra oa->(∀x∈aV (wp++[0]) 0 ra oa,x∈L)->aJ SS m SV ra->aJ SS m SV oa->wp.length % 2=1->x∈SS->∀pl' wp' N,Rel SS z n N->
  ∃N' T',Ex m (P++Mh L.length S0) (.loop x (bH z (bJ L SV) (wp++[0]) 0 ra oa) t) pl' wp' N N' T'/\Rel SS z n' N'/\T'.length=T.length+2*mM L T
theorem za{c:List Rw}(e:Rw.ifr x a c=(if b=true then o else r))(k:fP r o=true):∃h g l s,r=.ifr x h g/\o=.ifr x l s/\a=(if b=true then l else h)/\c=(if b=true then s else g)/\bu h l=true/\bu g s=true:=by
 cases b with
 |true=>
  subst e;cases r with
  |ifr y h g=>
   simp[fP,Mx]at k;obtain⟨rfl,w,u⟩:=k;exact⟨_,_,_,_,rfl,rfl,rfl,rfl,w,u⟩
  |_=>trivial
 |false=>
  subst e;cases o with
  |ifr y l s=>
   simp[fP,Mx]at k;obtain⟨rfl,w,u⟩:=k;exact⟨_,_,_,_,rfl,rfl,rfl,rfl,w,u⟩
  |_=>cases k
theorem IM(e:Rw.again x a=(if b=true then o else r))(k:fP r o=true):∃g h,r=.again x g/\o=.again x h/\a=(if b=true then h else g)/\bu g h=true:=by
 cases b with
 |true=>
  subst e;cases r with
  |again y g=>
   simp[fP,Mx]at k;obtain⟨rfl,l⟩:=k;exact⟨_,_,rfl,rfl,rfl,l⟩
  |_=>trivial
 |false=>
  subst e;cases o with
  |again y h=>
   simp[fP,Mx]at k;obtain⟨rfl,l⟩:=k;exact⟨_,_,rfl,rfl,rfl,l⟩
  |_=>cases k
theorem HD{e:Rw}(g:e=(if b=true then o else r))(h:rG e=true)(k:fP r o=true):aQ r=eP/\aQ o=eP/\cy r=eP/\cy o=false:=by
 cases b with
 |true=>
  subst g;cases r<;>cases e<;>first|trivial|rfl|trivial|simp at k
 |false=>
  subst g;cases e<;>cases o<;>first|rfl|rfl|trivial|rfl
theorem yX(e:∀x∈L,x.length % 2=1)(h:wp.length % 2=1):wp++[0]∉L:=λz=>by
 grind
theorem sim(hz:z∉SS)(hP:(P.length:Int)=SV)(hb:b=true↔S0≠0)(hL:∀x∈L,x.length % 2=1){K:Tk}{n:c_}(h:Ex m P K pl wp n n' T):Sim SS z m SV P S0 L b K wp n n' T:=by
 induction h with
 |@leaf e pl wp n hs=>
  intro r o es k C A u w G g s B N R;obtain⟨b1,b2,p1,p2⟩:=HD es hs k;have Z:ck SS m SV e:=by rw[es];split<;>assumption
  have pe:cy e=false:=by rw[es];split<;>assumption
  rw[fA b1]
  by_cases c:wp∈L
  .obtain⟨i,ei,ec⟩:=yT (SV:=SV) c
   obtain⟨hi,_⟩:=NA.mp ei;rw[ec];obtain⟨R1,hv⟩:=R.own hz S0;obtain⟨ev,S⟩:=vb (P:=P) (S0:=S0) (l:=L.length) R1 hs pe Z hP;have et:eQ (cf m (P++Mh L.length S0)) N (.take z (SV+(i:Int)))=S0:=by
    show ((P++Mh L.length S0)[(SV+(i:Int)).toNat]?).getD 0=S0;rw[show (SV+(i:Int)).toNat=P.length+i by lia,MP (by lia),Nat.add_sub_cancel_left,OI,if_pos hi]
    rfl
   have F:=Ex.leaf (m:=m) (P:=P++Mh L.length S0) (r:=.take z (SV+(i:Int))) (pl:=g++[(B:Int)]) (wp:=s++[(B:Int)]) (n:=N) rfl;rw[et]at F;have Y:∀(pl wp:S9),Ex m _ (.rows 0 [e]) pl wp (sN N z S0) _ _:=λpl wp=>by
    have:=Ex.leaf (m:=m) (P:=P++Mh L.length S0) (r:=e) (pl:=pl++[((0:Nat):Int)]) (wp:=wp++[((0:Nat):Int)]) (n:=sN N z S0) hs;rw[ev]at this;exact .cons this .nil
   have x3:∀(pl wp:S9),∃T3,Ex m (P++Mh L.length S0) (.row<|.ifr z [o] [r]) pl wp (sN N z S0) (sN (sN N z S0) (Cq e)<|eQ (cf m P) n e) T3/\T3.length=2:=λpl wp=>by
    by_cases cm:S0=0
    .have eb:b=false:=by
      simp_all
     rw[eb,if_neg (by simp)]at es
     subst es;exact⟨_,.ifF (by unfold lk;rw[hv,if_pos cm]) (Y _ _),rfl⟩
    rw[hb.mpr cm,if_pos rfl]at es;subst es;exact⟨_,.ifT (by unfold lk;rw[hv,if_neg cm]) (Y _ _),rfl⟩
   obtain⟨T3,x3,l3⟩:=x3 (g++[((B+1:Nat):Int)]) (s++[((B+1:Nat):Int)]);refine⟨_,_,.cons F (.cons x3 .nil),R1.set S _,?_⟩;rw[Hh c];simp[l3]
  have er:r=o:=Dj b1 k (by
   cases hne:tz r o with
   |false=>rfl
   |true=>exact absurd (A wp<|by rw[aU b1,hne];simp) c)
  subst er;rw[ite_self]at es;subst es;rw[pR c];obtain⟨ev,S⟩:=vb (P:=P) (S0:=S0) (l:=L.length) R hs pe Z hP;have F:=Ex.leaf (m:=m) (P:=P++Mh L.length S0) (r:=e) (pl:=g++[(B:Int)]) (wp:=s++[(B:Int)]) (n:=N) hs;rw[ev]at F;refine⟨_,_,.cons F .nil,R.set S _,?_⟩;rw[rg c];rfl
 |@ifT x a c pl wp n n' T h h1 ih=>
  intro r o es k C A u w G g s B N R;obtain⟨O,rc,J,oc,rfl,rfl,I,ec,H,kc⟩:=za es k;simp only[bv,Ml]at A;obtain⟨N',T',F,R',lT⟩:=ih O J I H C.2.1 (λy X=>A y (.inr X)) u.2.1 w.2.1 (by simp;lia) (g++[(B:Int)]++[1]) (s++[(B:Int)]++[1]) 0 N R
  refine⟨N',_,.cons (.ifT (by rw[R.lk u.1];exact h) F) .nil,R',?_⟩
  rw[rg C.1];simp;lia
 |@ifF x a c pl wp n n' T h h1 ih=>
  intro r o es k C A u w G g s B N R;obtain⟨O,rc,J,oc,rfl,rfl,I,ec,H,kc⟩:=za es k;simp only[bv,Ml]at A;obtain⟨N',T',F,R',lT⟩:=ih rc oc ec kc C.2.2 (λy X=>A y (.inl X)) u.2.2 w.2.2 (by simp;lia) (g++[(B:Int)]++[0]) (s++[(B:Int)]++[0]) 0 N R
  refine⟨N',_,.cons (.ifF (by rw[R.lk u.1];exact h) F) .nil,R',?_⟩
  rw[rg C.1];simp;lia
 |@again x a pl wp n n' T h ih=>
  intro r o es k C A u w G g s B N R;obtain⟨O,J,rfl,rfl,I,H⟩:=IM es k;obtain⟨N',T',F,R',lT⟩:=ih O J I H C.2 A u.2 w.2 G u.1 (g++[(B:Int)]) (s++[(B:Int)]) N R;refine⟨N',_,.cons (.again F) .nil,R',?_⟩;rw[Mq];exact lT
 |@loopE x a t pl wp n h=>
  intro O J I H C A u w G S g s N R;refine⟨N,_,.loopE (by rw[R.lk S];exact h),R,?_⟩
  rw[rg (yX hL G)];rfl
 |@loopC x a t pl wp n n1 n' T1 T2 h h1 h2 ih1 ih2=>
  intro O J I H C A u w G S g s N R;obtain⟨N1,T1',F,R1,l1⟩:=ih1 O J I H C A u w (by simp;lia) (g++[(t:Int)]) (s++[0]) 0 N R
  obtain⟨N2,T2',Y,R2,l2⟩:=ih2 O J I H C A u w G S g s N1 R1;refine⟨N2,_,.loopC (by rw[R.lk S];exact h) F Y,R2,?_⟩
  rw[rg (yX hL G),zC];simp;lia
 |@nil j pl wp n=>
  intro rs os es k C A u w G g s B N R;have er:rs=[]:=by
   cases rs with
   |nil=>rfl
   |cons r rs=>
    cases os with
    |nil=>cases k
    |cons o os=>cases b<;>cases es
  subst er;exact⟨N,[],.nil,R,rfl⟩
 |@cons j e es pl wp n n1 n' T1 T2 h1 h2 ih1 ih2=>
  intro rs os ee k C A u w G g s B N R;cases rs with
  |nil=>
   cases os with
   |nil=>cases b<;>cases ee
   |cons o os=>cases k
  |cons r rs=>
   cases os with
   |nil=>cases k
   |cons o os=>
    simp only[bu,Mx]at k;simp only[aV,Ml]at A;have q:e=(if b=true then o else r)/\es=(if b=true then os else rs):=by
     cases b<;>simp_all
    obtain⟨N1,T1',F,R1,l1⟩:=ih1 r o q.1 k.1 C.1 (λy X=>A y (.inl X)) u.1 w.1 (by simp;lia) g s B N R
    obtain⟨N2,T2',Y,R2,l2⟩:=ih2 rs os q.2 k.2 C.2 (λy X=>A y (.inr X)) u.2 w.2 G g s _ N1 R1;refine⟨N2,_,Ba F Y,R2,?_⟩;rw[zC];simp only[Mg];lia
end
theorem FO:∀{rs:List Rw}{i:Nat}{q:S9},rL rs i q->∃r,rs[i]?=cb r/\Jr r q/\sj rs i q=yH r q
 |[],_,_,h=>by cases h
 |r::_,0,q,h=>⟨r,rfl,h,rfl⟩
 |_::rs,i+1,q,h=>by
  obtain⟨r,l,g,e⟩:=FO (rs:=rs) h;exact⟨r,by trivial,g,e⟩
theorem Ft{SS:S_}{m SV:Int}:∀{rs:List Rw}{i:Nat}{r:Rw},aJ SS m SV rs->rs[i]?=cb r->ck SS m SV r
 |[],_,_,_,h=>by simp at h
 |s::_,0,r,o,h=>by
  have:s=r:=by simpa using h
  subst this;exact o.1
 |_::rs,i+1,r,o,h=>Ft o.2 (by simpa using h)
section
variable{rowsd:D}{p:S9}
theorem CV{l:S9}:frz (tupD l) M K=K (tupD l) M:=rfl
theorem LH{e q:S9}{j:Int}:atI ((e++j::q).map D.int) (e.length:Nat)=cb (.int j):=by
 rw[bG (by lia),MZ,Mv,MP (by lia),Nat.sub_self]
 rfl
theorem CP{j:Int}(e:0<=j)(h:rs[j.toNat]?=cb r):atI (ai rs) j=cb r.d:=by
 rw[bG e,iu,Mv,h];rfl
def KI(D2:DEnds)(M:Mem)(p:S9)(rowsd:D)(wp:S9)(h:D)(k:Nat):Prop:=∀c5 c6,D2.nx [cb (tupD p),cb rowsd,cb (tupD wp),cb h,cb (.int (k:Nat)),c5,c6] M
theorem ow{s:Int}{e q:S9}{C h2:D}{I:Option D}{ag:Bool}(H:p=e++s::q)(J:wp.length<=1000)(A:atI (match r.d with|.tup xs=>xs|_=>[]) 0=cb (.str<|fK r))(hr:∃xs,r.d=.tup xs)(B:decide (fK r="again")=ag)(g:(if (ag=true\/s=1) then atI (match r.d with|.tup xs=>xs|_=>[]) 2 else atI (match r.d with|.tup xs=>xs|_=>[]) 3)=cb h2)(h:KI D2 M p rowsd (wp++[if ag=true then 0 else s]) h2 (e.length+1)):
  lL ad EE D2 [cb (tupD p),cb rowsd,cb (tupD wp),cb C,cb (.int (e.length:Nat)),cb r.d,I] M:=by
 obtain⟨xs,l⟩:=hr;rw[l]at A g ⊢;have G:atI (p.map D.int) e.length=cb (.int s):=by rw[H];exact LH
 unfold lL;generalize u:ox ad EE=K2;simp only[tupD,al,ap,aj,ac,av,aE,G,af,Mu,Ma,dt];rw[<- u];unfold ox;generalize w:oA ad EE=K1;simp only[al,ap,am,aj,oX,ao,ac,dC,av,aE,A,bY,dv,aH,bX,Ma,dt];rw[B];refine⟨trivial,trivial,?_⟩;have F:K1 D2 [cb (tupD p),cb rowsd,cb (tupD (wp++[if ag=true then 0 else s])),cb C,cb (.int e.length),cb (.tup xs),cb (.int s)] M:=by
  rw[<- w];unfold oA;simp only[al,ap,aj,oX,jD,ao,ac,dC,av,aE,A,bY,dv,aH,bX,Ma,dt];rw[B];refine⟨trivial,trivial,?_⟩;cases ag with
  |true=>
   rw[if_pos (.inl rfl)]at g;simp only[g,aF,dt];have:=h (cb<|.tup xs) (cb<|.int s)
   assumption
  |false=>
   refine⟨trivial,trivial,?_⟩
   by_cases c:s=1
   .rw[if_pos (.inr c)]at g
    rw[decide_eq_true c];simp only[g,aF,dt];have:=h (cb<|.tup xs) (cb<|.int s)
    assumption
   .rw[if_neg (by simp[c])]at g
    rw[decide_eq_false c];simp only[g,dt];have:=h (cb<|.tup xs) (cb<|.int s)
    assumption
 cases ag with
 |true=>
  refine⟨aR (by simp),bU (by lia) ?_⟩
  assumption
 |false=>
  refine⟨aR (by simp),bU (by lia) ?_⟩
  assumption
theorem Ae(ok:aJ SS m SV rows)(hv:j7 rows p)(hl:p.length<=100)(h:Q (tupD<|da rows p) M):DQ ad [tupD p,.tup (ai rows)] M Q E:=by
 rw[u_q2];unfold E8 ph uM tF;generalize X:oH ad (aB E)=K7;simp only[al,ap,ax,ae,ac,dC,af,Mu,Ma,dt];refine⟨aR (by simp),?_⟩
 refine⟨p.length+1,?_⟩
 refine fY (λk U N=>N=M/\∃(g q wp:S9)(O:D)(H J:Option D),k=q.length/\p=g++q/\wp.length<=g.length/\(q=[]->da rows p=wp)/\(q≠[]->∃l,O=.tup (ai l)/\aJ SS m SV l/\j7 l q/\da rows p=wp++da l q)/\U=[cb (tupD p),cb (.tup<|ai rows),cb (tupD wp),cb O,cb (.int (g.length:Nat)),H,J]) ?_ _ p.length _ _ (by lia)
  ⟨rfl,[],p,[],.tup (ai rows),ed,ed,rfl,rfl,Mo _,λe=>by rw[e];rfl,λ_=>⟨rows,rfl,ok,hv,rfl⟩,rfl⟩
 rintro k U N ⟨rfl,g,q,wp,O,H,J,rfl,F,hw,hn,hc,rfl⟩ D' G hrt
 have lp:p.length=g.length+q.length:=by rw[F,Mg]
 simp only[ao,aj,ac,bn,aa,ae,bC,tupD,aE,Mc,xM,pU,Ma,dt];cases q with
 |nil=>
  rw[decide_eq_false (by simp at lp;lia),if_neg (by simp)]
  simp only[aw,ac,Ma,dt];have e:=hn rfl;rw[e]at h;exact aq h
 |cons j q=>
  simp only[Md]at lp;rw[decide_eq_true (by lia),if_pos rfl]
  obtain⟨l,rfl,S,⟨j0,vd⟩,I⟩:=hc (by simp)
  obtain⟨r,hr,A,er⟩:=FO vd;have u:=Ft S hr;rw[da,er]at I;have e1:atI (p.map D.int) (g.length:Nat)=cb (.int j):=by rw[F];exact LH
  have R:=CP j0 hr;rw[<- X];unfold oH;generalize Z:pO ad (aB E)=K6;simp only[al,ap,aj,ac,av,aE,e1,R,af,Mu,Ma,dt];rw[<- Z];unfold pO;generalize hK5:oq ad (aB E)=K5;simp only[al,ap,aj,ac,av,aE,e1,ax,aa,ae,Ma,dt];refine⟨aR (by simp),bU (pl:=wp) (by lia) ?_⟩
  simp only[af,Mu];rw[<- hK5];unfold oq;generalize Y:oJ ad (aB E)=K4;simp only[al,ap,aj,ac,dC,aF,af,Mu,Ma,dt];rw[<- Y,show (g.length:Int)+1=(((g++[j]).length:Nat):Int) by simp]
  unfold oJ;generalize hK3:lL ad (aB E)=K3;simp only[aA,ao,aj,ac,bn,aa,ae,bC,aE,Mc,xM,pU,Ma,dt];cases q with
  |nil=>
   rw[decide_eq_false (by simp at lp ⊢;lia),if_neg (by simp)]
   refine G 0 _ _ (by simp) ⟨rfl,g++[j],[],wp++[j],.tup (ai l),_,_,rfl,by rw[F];simp,by simp;lia,λ_=>?_,λz=>absurd rfl z,rfl⟩
   rw[I,kj]
  |cons s q=>
   rw[decide_eq_true (by simp at lp ⊢;lia),if_pos rfl,<- hK3]
   have B:p=(g++[j])++s::q:=by rw[F];simp
   have okc:=u;have C:∀(h2:List Rw)(w:Int),aJ SS m SV h2->(q=[]->yH r [s]=[w])->(q≠[]->j7 h2 q/\yH r (s::q)=w::da h2 q)->KI D' N p (.tup<|ai rows) (wp++[j]++[w]) (.tup<|ai h2) ((g++[j]).length+1):=λh2 w o2 y1 y2 H J=>by
    refine G q.length _ _ (by simp only[Md];lia) ⟨rfl,g++[j,s],q,wp++[j]++[w],.tup (ai h2),H,J,rfl,by rw[F];simp,by simp;lia,λz=>?_,λz=>?_,by rw[show (g++[j]).length+1=(g++[j,s]).length by simp]⟩
    .subst z
     rw[I,y1 rfl];simp
    .obtain⟨v2,R⟩:=y2 z
     refine⟨h2,rfl,o2,v2,?_⟩;rw[I,R];simp
   cases r with
   |again x a=>
    refine ow (r:=.again x a) (ag:=true) B (by simp;lia) (by rw[atI_0];rfl) ⟨_,rfl⟩ (decide_eq_true rfl) (h2:=.tup (ai a)) (by rw[if_pos (.inl rfl),atI_2];rfl) ?_
    refine C a 0 u.2 (λz=>by subst z;rfl) λz=>?_
    cases q with
    |nil=>exact absurd rfl z
    |cons i q=>exact⟨A.2,rfl⟩
   |ifr x a b=>
    have na:decide (fK (.ifr x a b)="again")=false:=by
     have:fK (.ifr x a b)="if":=rfl;rw[this]
     decide +kernel
    cases q with
    |nil=>exact A.elim
    |cons i q=>
     rcases A.2 with⟨rfl,v⟩|⟨rfl,v⟩
     .refine ow (r:=.ifr x a b) (ag:=eP) B (by simp;lia) (by rw[atI_0];rfl) ⟨_,rfl⟩ na (h2:=.tup (ai a)) (by rw[if_pos (.inr rfl),atI_2];rfl) ?_
      exact C a 1 u.2.1 (λz=>by cases z) λz=>⟨⟨A.1,v⟩,by simp[yH,da]⟩
     .refine ow (r:=.ifr x a b) (ag:=eP) B (by simp;lia) (by rw[atI_0];rfl) ⟨_,rfl⟩ na (h2:=.tup (ai b)) (by rw[if_neg (by simp),atI_3];rfl) ?_
      exact C b 0 u.2.2 (λz=>by cases z) λz=>⟨⟨A.1,v⟩,by simp[yH,da]⟩
   |put x k=>cases A
   |take x k=>cases A
   |pick x k=>cases A
   |two w x y z=>cases A
end
mutual
theorem C1:∀(r:Rw)(q:S9),Jr r q->q.length<=2*hR r
 |.again x a,q,h=>by
  have e:=e_ a;simp only[hR];cases q with
  |nil=>simp
  |cons t q=>
   cases q with
   |nil=>simp;lia
   |cons j q=>
    have:=e _ _ h.2.2;simp only[Md];lia
 |.ifr x a b,q,h=>by
  have i1:=e_ a;have i2:=e_ b;simp only[hR];cases q with
  |nil=>simp
  |cons s q=>
   cases q with
   |nil=>exact h.elim
   |cons j q=>
    rcases h.2 with⟨_,v⟩|⟨_,v⟩
    .have:=i1 _ _ v
     simp only[Md];lia
    .have:=i2 _ _ v
     simp only[Md];lia
 |.put _ _,q,h=>by have:q=[]:=h;subst this;simp
 |.take _ _,q,h=>by have:q=[]:=h;subst this;simp
 |.pick _ _,q,h=>by have:q=[]:=h;subst this;simp
 |.two _ _ _ _,q,h=>by have:q=[]:=h;subst this;simp
theorem e_:∀(rs:List Rw)(i:Nat)(q:S9),rL rs i q->q.length<=2*bd rs
 |[],_,_,h=>h.elim
 |r::rs,0,q,h=>by
  have:=C1 r q h;simp only[bd];lia
 |r::rs,i+1,q,h=>by
  have:=e_ rs i q h;simp only[bd];lia
end
theorem GQ{q:S9}(h:j7 rs q):q.length<=2*bd rs+1:=by
 cases q with
 |nil=>exact h.elim
 |cons j q=>
  have:=e_ _ _ _ h.2
  simp_all
section
noncomputable def eL(b:Bool)(rs os:List Rw):List Rw:=if b=true then os else rs
theorem E1(s:z∉SS)(g:SS.length=nums.length):Rel SS z (SS.zip nums) ((SS++[z]).zip (nums++[0])):=by
 refine⟨fb g,fb (by simp[g]),λx h=>?_⟩
 rw[List.zip_append g];have e:=A_ (by rw[fb g];exact h)
 have l:gN (SS.zip nums++[z].zip [0]) x=gN (SS.zip nums) x:=by
  unfold gN at e ⊢;cases c:(SS.zip _).find? _<;>grind
 unfold nm;rw[l]
theorem Iz(g:PlH m SV SS rs mk)(h:aJ SS m SV os)(k:bu rs os=true)(B:(P.length:Int)=SV)(C:SS.length=nums.length)(F:b=true↔S0≠0)(e:(bp ⟨m,P,most⟩ SS (eL b rs os) nums).1=true):
  ∃(T:List qu)(N':c_),(bp ⟨m,P,most⟩ SS (eL b rs os) nums).2.steps=T.map (·.1)/\(∀s∈T,j7 (eL b rs os) s.1.1/\da (eL b rs os) s.1.1=s.2)/\(∀x∈SS,nm N' x=nm (bp ⟨m,P,most⟩ SS (eL b rs os) nums).2.nums x)/\
   ∀room:Nat,(T.length+2*mM (cZ rs os) T<=room->∃S',bp ⟨m,P++Mh (cZ rs os).length S0,room⟩ (SS++[cV SS]) (vn SS SV rs os) (nums++[0])=(true,⟨N',S'⟩)/\S'.length=T.length+2*mM (cZ rs os) T)/\
    (room<T.length+2*mM (cZ rs os) T->(bp ⟨m,P++Mh (cZ rs os).length S0,room⟩ (SS++[cV SS]) (vn SS SV rs os) (nums++[0])).1=eP):=by
 have l:=(oE g.t.n1).2;obtain⟨T,x,H⟩:=gZ _ [] [] 0 _ _ (QI e rfl);obtain⟨N',T',w,R',A⟩:=sim (L:=cZ rs os) l B F (λy u=>dI rs os [] 0 rfl y ((bQ _ _).mem_iff.mp u)) x rs os rfl k (AL rs os) (λy=>(bQ _ _).mem_iff.mpr) g.ok h rfl [] [] 0 _ (E1 l C);refine⟨T,N',by assumption,Ho x,R'.v,λroom=>?_⟩
 have G:=LJ (c:=⟨m,_,room⟩) w rfl rfl [] (by simp_all)
 rw[<- A];refine⟨λq=>⟨_,G.1 (by simpa using q),by simp⟩,λq=>G.2 (by simpa using q)⟩
theorem yh(h:∀s∈T,j7 es s.1.1/\da es s.1.1=s.2):((T.map (·.1)).filter λq=>decide (da es q.1∈L)).length=mM L T:=by
 rw[List.filter_map,Mc];congr 1;refine List.filter_congr λs e=>?_;show decide _=decide _;rw[(h s e).2]
theorem HZ(g:PlH m SV SS rs mk):(SS++[cV SS]).Nodup:=NH.mpr ⟨g.nd,by simp,λx l y h e=>by
  simp at h;subst h;exact(oE g.t.n1).2 (e▸l)⟩
theorem Fz(g:PlH m SV SS rs mk)(e:aJ SS m SV os):aJ SS m SV (eL b rs os):=by unfold eL;split;exact e;exact g.ok
theorem z4(g:PlH m SV SS rs mk)(e:aJ SS m SV os)(h2:bd os<=4)(s:(P.length:Int)=SV)(l:SS.length=nums.length)(A:∀v∈nums,0<=v/\v<m)(w:∀v∈P,0<=v/\v<m)(u:most<=10000):PlOk ⟨m,P,most⟩ SS (eL b rs os) nums:=by
 have t:=g.t;have k1:=t.k1;have n1:=t.n1;have B:=g.h;subst s;refine⟨⟨t.m2,t.m1,w,by show P.length<=1000;lia,u⟩,l,g.nd,t.n0,by lia,A,Fz g e,?_⟩
 unfold eL
 split<;>lia
theorem L7(g:PlH m SV SS rs mk)(l:aJ SS m SV os)(k:bu rs os=true)(I:(P.length:Int)=SV)(s:SS.length=nums.length)(A:∀v∈nums,0<=v/\v<m)(w:∀v∈P,0<=v/\v<m)(u:most<=10000)(H:0<=S0)(m1:S0<m):
  PlOk ⟨m,P++Mh (cZ rs os).length S0,most⟩ (SS++[cV SS]) (vn SS SV rs os) (nums++[0]):=by
 have t:=g.t;have k1:=t.k1;have n1:=t.n1;have B:=g.h;obtain⟨G,_,C⟩:=tK g l k;have F:(cZ rs os).length<=60:=by
  unfold cZ;rw[(bQ _ _).length_eq];exact My (bK rs os [] 0) g.c
 refine⟨⟨t.m2,t.m1,λv e=>?_,?_,u⟩,by simp[s],HZ g,by simp,by simp;lia,λv e=>?_,?_,by lia⟩
 .rcases Ml.mp e with z|z
  .exact w v z
  simp_all
 .simp
  lia
 .rcases Ml.mp e with z|z
  .exact A v z
  simp at z;subst z;exact⟨by trivial,by lia⟩
 simp_all
end
section
noncomputable def C5(mk:Str)(r:Bool×Sx):D:=if r.1=true then .int (nm r.2.nums mk) else .non
theorem z8:∀{SS:S_},mk∈SS->∃j,SS.findIdx? (λy=>decide (y=mk))=cb j/\SS[j]?=cb mk
 |[],h=>by simp at h
 |x::SS,h=>by
  by_cases e:x=mk
  .subst e;exact⟨0,by simp[N9],rfl⟩
  have l:mk∈SS:=by
   rcases Mm.mp h with z|z
   .simp_all
   exact z
  obtain⟨j,g,s⟩:=z8 l;exact⟨j+1,by simp[N9,e,g],by trivial⟩
theorem nK(p:PlOk c SS rows nums)(u:mk∈SS)(h:Q (C5 mk<|bp c SS rows nums) M):rQ ad [aN c SS rows mk,b6 nums c.pieces,.int (c.most:Nat)] M Q E:=by
 have l1:=p.l1;obtain⟨j,l,s⟩:=z8 u;simp![Lu,vN];refine gX p ?_;simp![yp];unfold C5 at h;unfold dh;cases e:(bp c _ _ _).1 with
 |true=>
  rw[e]at h;simp![aN,atI_1,atI_4,gj,l];refine⟨l1,?_⟩;have g:atI (SS.map λx=>D.int (nm (bp c SS rows nums).2.nums x)) j=cb (.int<|nm (bp c SS rows nums).2.nums mk):=by
   rw[bG (by lia),MZ,Mv,s];rfl
  simp![g];exact aq h
 |false=>
  rw[e]at h;rw[if_neg (by simp)]
  exact aq h
end
theorem IT{x:D}:CJ 1 x->CJ (n+1) x:=by
 intro h;cases x with
 |tup xs=>
  refine⟨h.1,λy hy=>?_⟩;have:=h.2 y hy;cases y<;>first|exact this.elim|(cases n<;>trivial)
 |lst xs=>
  refine⟨h.1,λy hy=>?_⟩;have:=h.2 y hy;cases y<;>first|exact this.elim|(cases n<;>trivial)
 |_=>assumption
theorem B3{xs:List D}{x:D}:dE (xs++[x]) ed (cb (-1))=xs:=by
 unfold dE;rw[HT.kz];have:HT.sIx (xs++[x]).length (xs++[x]).length (cb (-1))=xs.length:=by
  unfold HT.sIx;simp;lia
 simp_all
section
variable{k:Pt}{x0 x1 x2 x3 x4 x8 c11 c12 c13 c14 c15 c16:Option D}
theorem L4{A B:Int}{l:S_}{r e:List Rw}{un:List D}(g:M p=ed)(h:K (.tup [aW A B l r mk,aW A B l e mk,.lst un]) M):uV (.tup [aW A B l r mk,aW A B l e mk,.ref p]) (M.upd p<|.lst un) K:=by
 simp[uV,frzs,aW,ar g];exact h
theorem J5(g:PlH m SV SS rs mk)(e:aJ SS m SV os)(l:bu rs os=true)(h:Q (.bl<|rE SV SS rs os) M):qV ad [sX m SV SS rs os mk] M Q E:=by
 refine xA (tK g e l).1 ?_;rw[Mg];exact h
theorem Gu{g:Option D}(s:∀r:Nat,r+1=room->PlOk ⟨c.m,c.pieces,r⟩ S6 W S5/\(bp ⟨c.m,c.pieces,r⟩ S6 W S5).1=eP)(h:D0.nx [x0,x1,x2,x3,x4,cb (aN c S6 W mk),cb (b6 nums P),g,x8,c11,c12,c13,c14,cb (b6 S5 c.pieces),c15,cb (.int (room:Nat)),c16] N):
  jS ad EE D0 [x0,x1,x2,x3,x4,cb (aN c S6 W mk),cb (b6 nums P),g,x8,c11,c12,c13,c14,cb (b6 S5 c.pieces),c15,cb (.int (room:Nat)),c16] N:=by
 unfold jS;simp only[aA,g7,ao,aj,ac,dC,sS,pU,ga,iM,ak,aa,ae,Ma,dt];cases room with
 |zero=>
  rw[decide_eq_false (by simp),if_neg (by simp),if_neg (by simp)]
  exact h
 |succ r=>
  rw[decide_eq_true (by lia),if_pos rfl]
  obtain⟨p,e⟩:=s r rfl;have l:((r+1:Nat):Int)-1=(r:Nat):=by lia
  rw[l];refine⟨rfl,gX (c:=⟨c.m,c.pieces,r⟩) (SS:=S6) (rows:=W) (mk:=mk) (nums:=S5) p ?_⟩;have i1:∀a b:D,atI [a,b] 1=cb b:=λa b=>by rw[atI_1];rfl
  simp only[yp,aE,i1,av];unfold dh;rw[e];simp only[MC,if_false,mq,kF,Np];exact h
theorem Il(p1:PlOk ⟨c.m,c.pieces,room⟩ S6 W S5)(p2:PlOk ⟨m,P,most⟩ SS es nums)(hm:mk∈SS)(hm2:mk∈S6)(e1:(bp ⟨c.m,c.pieces,room⟩ S6 W S5).1=true)(e2:(bp ⟨m,P,most⟩ SS es nums).1=true)(ev:nm (bp ⟨c.m,c.pieces,room⟩ S6 W S5).2.nums mk=nm (bp ⟨m,P,most⟩ SS es nums).2.nums mk)(hc:∀r:Nat,r+1=room->PlOk ⟨c.m,c.pieces,r⟩ S6 W S5/\(bp ⟨c.m,c.pieces,r⟩ S6 W S5).1=eP)(h:D0.nx [x0,x1,x2,x3,x4,cb (aN c S6 W mk),cb (b6 nums P),cb (.int (most:Nat)),x8,cb (aN ⟨m,P,most⟩ SS es mk),c12,c13,c14,cb (b6 S5 c.pieces),c15,cb (.int (room:Nat)),c16] N):
  jt ad EE D0 [x0,x1,x2,x3,x4,cb (aN c S6 W mk),cb (b6 nums P),cb (.int (most:Nat)),x8,cb (aN ⟨m,P,most⟩ SS es mk),c12,c13,c14,cb (b6 S5 c.pieces),c15,cb (.int (room:Nat)),c16] N:=by
 refine⟨rfl,aK (λ_ _ q=>nK p1 hm2 q) ?_⟩;unfold C5;rw[e1];refine⟨rfl,aK (λ_ _ q=>nK p2 hm q) ?_⟩;unfold C5;rw[e2,ev];refine⟨rfl,aK (λQ' E'=>cY 23 _ N Q' E' trivial) ?_⟩;exact Gu hc h
theorem Au{e:Option D}(w:PlOk ⟨c.m,c.pieces,room⟩ (SS++[z]) W S5)(A:PlOk ⟨m,P,most⟩ SS es nums)(s:mk∈SS)(I:(bp ⟨c.m,c.pieces,room⟩ (SS++[z]) W S5).1=true)(B:(bp ⟨m,P,most⟩ SS es nums).1=true)(O:(bp ⟨c.m,c.pieces,room⟩ (SS++[z]) W S5).2.steps.length=room)(H:∀x∈SS,nm (bp ⟨c.m,c.pieces,room⟩ (SS++[z]) W S5).2.nums x=nm (bp ⟨m,P,most⟩ SS es nums).2.nums x)(J:∀r:Nat,r+1=room->PlOk ⟨c.m,c.pieces,r⟩ (SS++[z]) W S5/\(bp ⟨c.m,c.pieces,r⟩ (SS++[z]) W S5).1=eP)(h:∀c16,D0.nx [x0,x1,x2,x3,x4,cb (aN c (SS++[z]) W mk),cb (b6 nums P),cb (.int (most:Nat)),x8,cb (aN ⟨m,P,most⟩ SS es mk),c12,e,cb (dh SS<|bp ⟨m,P,most⟩ SS es nums),cb (b6 S5 c.pieces),c15,cb (.int (room:Nat)),c16] N):
  gI ad EE D0 [x0,x1,x2,x3,x4,cb (aN c (SS++[z]) W mk),cb (b6 nums P),cb (.int (most:Nat)),x8,cb (aN ⟨m,P,most⟩ SS es mk),c12,e,cb (dh SS<|bp ⟨m,P,most⟩ SS es nums),cb (b6 S5 c.pieces),c15,cb (.int (room:Nat)),c16] N:=by
 unfold gI;refine cw ?_;generalize g:jL ad EE=K3;refine⟨rfl,gX (SS:=SS++[z]) (rows:=W) (mk:=mk) (nums:=S5) w ?_⟩;simp only[af,Mu];rw[<- g];unfold jL;refine cw ?_;generalize l:jt ad EE=K2;have u:∀a b:D,atI [a,b] 0=cb a:=λa b=>by rw[atI_0];rfl
 have i1:∀a b:D,atI [a,b] 1=cb b:=λa b=>by rw[atI_1];rfl
 have C:dh (SS++[z]) (bp ⟨c.m,c.pieces,room⟩ (SS++[z]) W S5)=.tup ((SS.map λx=>D.int (nm (bp ⟨c.m,c.pieces,room⟩ (SS++[z]) W S5).2.nums x))++[.int (nm (bp ⟨c.m,c.pieces,room⟩ (SS++[z]) W S5).2.nums z)]):=by
  unfold dh
  simp_all
 have G:D.tup (SS.map λx=>D.int (nm (bp ⟨c.m,c.pieces,room⟩ (SS++[z]) W S5).2.nums x))=dh SS (bp ⟨m,P,most⟩ SS es nums):=by
  unfold dh;rw[B,if_pos rfl]
  simp_all
 simp only[yp,C];simp only[aA,jD,ao,dF,bR,aj,ac,dC,am,ak,aa,fO,aI,bj,Hx,bn,ae,av,aE,u,i1,t7,kF,MC,if_false,yE,B3,frz,Ma,dt];rw[G];refine⟨rfl,aK (λQ' E' q=>cY 23 _ N Q' E' (Cd (n:=22) A.l1) q) ?_⟩;have F:((rC (bp ⟨c.m,c.pieces,room⟩ (SS++[z]) W S5).2.steps).length:Nat)=room:=by rw[rC,Mc];exact O
 simp only[frz,yJ,Np,MC,if_false,u,bC,aE,kb,dv,bX,aH];rw[F];refine⟨trivial,trivial,?_⟩;rw[decide_eq_true rfl];rw[<- l];exact Il (es:=es) w A s (Ml.mpr<|.inl s) I B (H mk s) J (h _)
end
section
variable{x0 x1 x2 x3 x8 c11 c12 c13 c14 c15 c16:Option D}
theorem Gw:sX m (P.length:Nat) SS rs os mk=aN ⟨m,P++Mh (cZ rs os).length S0,0⟩ (SS++[cV SS]) (vn SS (P.length:Nat) rs os) mk:=by
 unfold sX aW aN;simp only[Mg,QB,Int.natCast_add]
theorem Iq(g:PlH m (P.length:Nat) SS rs mk)(A:aJ SS m (P.length:Nat) os)(kk:bu rs os=true)(h2:bd os<=4)(Z:SS.length=nums.length)(rn:∀v∈nums,0<=v/\v<m)(rp:∀v∈P,0<=v/\v<m)(hm:most<=300)(hb:b=true↔S0≠0)(m0:0<=S0)(m1:S0<m)(e:(bp ⟨m,P,most⟩ SS (eL b rs os) nums).1=true)(h:∀c14 c15 c16,D0.nx [x0,x1,x2,x3,cb (.lst<|qd rs os),cb (sX m (P.length:Nat) SS rs os mk),cb (b6 nums P),cb (.int (most:Nat)),x8,cb (aW m (P.length:Nat) SS (eL b rs os) mk),c11,cb (.lst<|rC (bp ⟨m,P,most⟩ SS (eL b rs os) nums).2.steps),cb (dh SS<|bp ⟨m,P,most⟩ SS (eL b rs os) nums),cb (b6 (nums++[0]) (P++Mh (cZ rs os).length S0)),c14,c15,c16] N):
  gw ad EE D0 [x0,x1,x2,x3,cb (.lst<|qd rs os),cb (sX m (P.length:Nat) SS rs os mk),cb (b6 nums P),cb (.int (most:Nat)),x8,cb (aW m (P.length:Nat) SS (eL b rs os) mk),c11,cb (.lst<|rC (bp ⟨m,P,most⟩ SS (eL b rs os) nums).2.steps),cb (dh SS<|bp ⟨m,P,most⟩ SS (eL b rs os) nums),cb (b6 (nums++[0]) (P++Mh (cZ rs os).length S0)),c14,c15,c16] N:=by
 have p2:PlOk ⟨m,P,most⟩ SS (eL b rs os) nums:=z4 g A h2 rfl Z rn rp (by lia)
 have sl:=zM p2;obtain⟨T,N',es,wr,ev,rm⟩:=Iz (S0:=S0) g A kk rfl Z hb e;have lT:T.length<=most:=by
  rw[es,Mc]at sl;exact sl
 have lc:mM (cZ rs os) T<=T.length:=Na ..;have hh:bd (eL b rs os)<=4:=by
  have:=g.h;unfold eL
  split<;>lia
 have G:=Fz (b:=b) g A;have a3:atI [D.int m,.tup (SS.map D.str),.int ((P.length:Nat):Int),.tup (ai<|eL b rs os),.str mk] 3=cb (.tup<|ai<|eL b rs os):=by rw[atI_3];rfl
 generalize hst:(bp ⟨m,P,most⟩ SS (eL b rs os) nums).2.steps=st at es h ⊢;have J:∀q∈st,j7 (eL b rs os) q.1:=λq hq=>by
  rw[es]at hq;obtain⟨s,hs,rfl⟩:=Nd.mp hq;exact(wr s hs).1
 have lst:st.length<=300:=by rw[es,Mc];lia
 unfold gw;refine cw ?_;generalize S:jk ad EE=K5;simp only[lB,pH,bf,cN,ac,aE,bZ,Ma,dt];refine aT (λI SZ U M'=>∃(l u:List (List Int×Int))(C F:Option D),st=l++u/\I=rC u/\SZ=(l.filter λq=>decide (da (eL b rs os) q.1∈cZ rs os)).map (λq=>tupD q.1)/\U=[C,F,cb (aW m (P.length:Nat) SS (eL b rs os) mk),cb (.lst<|qd rs os)]/\N=M') (λ_ _ _ _ _=>aG) ?_ ?_ ?_ _ _ _ _ ⟨[],st,ed,ed,rfl,rfl,rfl,rfl,rfl⟩
 .rintro SZ U M' ⟨l,u,C,F,w,B,rfl,rfl,rfl⟩ p hp
  have ez:u=[]:=by cases u with|nil=>rfl|cons _ _=>simp[rC]at B
  subst ez;rw[Mq]at w;subst w;simp only[Mu,ke,Ma,dt,Mem.upd_same,Mem.upd_del,ar hp];rw[<- S];unfold jk;refine cw ?_;generalize O:gI ad EE=K4;have lf:(st.filter λq=>decide (da (eL b rs os) q.1∈cZ rs os)).length=mM (cZ rs os) T:=by rw[es];exact yh wr
  have ls:st.length=T.length:=by rw[es,Mc]
  simp only[ap,aj,bn,aa,ac,dC,ae,bC,aE,Mc,h_,aF,af,Mu,rC,Ma,dt];rw[lf,ls];refine⟨.inl ⟨by decide,by decide⟩,?_⟩
  have er:((T.length:Nat):Int)+2*((mM (cZ rs os) T:Nat):Int)=((T.length+2*mM (cZ rs os) T:Nat):Int):=by lia
  rw[er,<- O];obtain⟨r1,_⟩:=rm (T.length+2*mM (cZ rs os) T);obtain⟨S',H,lS⟩:=r1 (Mo _);have pw:∀r:Nat,r<=10000->PlOk ⟨m,P++Mh (cZ rs os).length S0,r⟩ (SS++[cV SS]) (vn SS (P.length:Nat) rs os) (nums++[0]):=λr hr=>L7 g A kk rfl Z rn rp hr m0 m1;simp only[Gw (S0:=S0)]at h ⊢;refine Au (c:=⟨m,P++Mh (cZ rs os).length S0,0⟩) (es:=eL b rs os) (pw _<|by lia) p2 g.mkm ?_ e ?_ ?_ (λr hr=>⟨pw r (by lia),(rm r).2<|by lia⟩) λc16=>h _ _ _
  .rw[H]
  .rw[H]
   exact lS
  .intro x hx
   rw[H];exact ev x hx
 .rintro y I SZ U M' ⟨l,u,C,F,w,B,rfl,rfl,rfl⟩ N1 R Y
  cases u with
  |nil=>simp[rC]at B
  |cons z u=>
   simp only[rC,Ms,MH]at B;obtain⟨rfl,rfl⟩:=B;have X:=congrArg MI w;simp only[Mg,Md]at X;have vz:=J z (by rw[w];simp)
   have lz:=GQ vz;have fl:(l.filter λq=>decide (da (eL b rs os) q.1∈cZ rs os)).length<=l.length:=Na ..;simp only[bL,aD,bM,af,Mu,ao,aj,am,ak,aa,ac,dC,ae,av,aW,aE,a3,Md,Mp,Ma,dt];refine⟨trivial,trivial,aK (λ_ _ q=>Ae (p:=z.1) G vz (by lia) q) ?_⟩
   rw[CV];have ei:ir N (tupD<|da (eL b rs os) z.1) (.lst<|qd rs os)=cb (decide (da (eL b rs os) z.1∈cZ rs os)):=AI;simp only[qZ,ei];cases c:decide (da (eL b rs os) z.1∈cZ rs os) with
   |true=>
    rw[if_pos rfl];exact R _ _ _ (by rw[Mc];exact eE (by lia)) ⟨l++[z],u,_,_,by rw[w];simp,rfl,by simp[c];rfl,rfl,rfl⟩
   |false=>
    rw[if_neg (by simp)]
    exact Y _ _ _ ⟨l++[z],u,_,_,by rw[w];simp,rfl,by simp[c],rfl,rfl⟩
 .rintro y I SZ U M' ⟨l,u,C,F,w,B,rfl,rfl,rfl⟩
  have X:=congrArg MI w;simp only[Mg]at X;have fl:(l.filter λq=>decide (da (eL b rs os) q.1∈cZ rs os)).length<=l.length:=Na ..;rw[Mc];exact eE (by lia)
theorem CS(g:PlH m (P.length:Nat) SS rs mk)(l:aJ SS m (P.length:Nat) os)(Z:bu rs os=true)(h2:bd os<=4)(C:SS.length=nums.length)(G:∀v∈nums,0<=v/\v<m)(F:∀v∈P,0<=v/\v<m)(hm:most<=300)(Y:b=true↔S0≠0)(X:0<=S0)(m1:S0<m)(h:∀c9 B c11 c12 c13 c14 c15 c16,D0.nx [x0,x1,x2,x3,cb (.lst<|qd rs os),cb (sX m (P.length:Nat) SS rs os mk),cb (b6 nums P),cb (.int (most:Nat)),x8,c9,B,c11,c12,c13,c14,c15,c16] N):
  hV ad EE D0 [x0,x1,x2,x3,cb (.lst<|qd rs os),cb (sX m (P.length:Nat) SS rs os mk),cb (b6 nums P),cb (.int (most:Nat)),x8,cb (aW m (P.length:Nat) SS (eL b rs os) mk),cb (.int S0),c11,c12,c13,c14,c15,c16] N:=by
 have J:PlOk ⟨m,P,most⟩ SS (eL b rs os) nums:=z4 g l h2 rfl C G F (by lia)
 have n1:=g.t.n1;have k1:=g.t.k1;have hc:=g.c;have lp:=pC rs os (by lia)
 have S:(qd rs os).length=(cZ rs os).length:=by unfold qd cZ;simp_all
 unfold hV;generalize s:jh ad EE=K8;refine⟨rfl,gX J ?_⟩;simp only[yp,bL,aD,bM,af,Md,Mp];refine⟨trivial,?_⟩;rw[<- s];unfold jh;generalize w:k4 ad EE=K7;have H:atI [D.tup (nums.map D.int),.tup (P.map D.int)] 0=cb (.tup<|nums.map D.int):=by rfl
 have R:atI [D.tup (nums.map D.int),.tup (P.map D.int)] 1=cb (.tup<|P.map D.int):=by rfl
 simp only[ap,ax,aa,aj,ac,dC,bn,ae,av,b6,aE,H,R,bC,dt];refine⟨aR (by simp),aR (by simp;lia),aR (by simp),by simp,by lia,by lia,by simp,?_⟩
 rw[S,MZ];have I:(Mh (cZ rs os).length [D.int S0]).flatten=(Mh (cZ rs os).length S0).map D.int:=by simp_all
 rw[I];refine⟨aR (by simp;lia),aR (by simp),?_⟩
 have O:nums.map D.int++[D.int 0]=(nums++[0]).map D.int:=by simp
 rw[O,<- Nt];simp only[af,Mu];rw[<- w];unfold k4;generalize A:gw ad EE=K6;simp only[aA,ao,aj,ac,dC,mq,Ma,dt];cases e:(bp _ SS _ nums).1 with
 |false=>
  have u:kF (dh SS<|bp ⟨m,P,most⟩ SS (eL b rs os) nums)=true:=by unfold dh;rw[e];rfl
  rw[u,Np];exact h _ _ _ _ _ _ _ _
 |true=>
  have u:kF (dh SS<|bp ⟨m,P,most⟩ SS (eL b rs os) nums)=false:=by unfold dh;rw[e];rfl
  rw[u,O3,<- A];exact Iq g l Z h2 C G F hm Y X m1 e λc14 c15 c16=>h _ _ _ _ _ _ _ _
end
theorem xN(ad:Ad)(ns:S9)(hl:ns.length<=63):ze ad [.ml (ns.map D.int)] (λ_=>ed) (λd _=>d=.bl true) md:=by
 rw[KH];generalize hG:({ nx:=λ_ M'=>drp (λd _=>d=D.bl true) .non M',rt:=drp λd _=>d=D.bl true }:DEnds)=G;have hr:∀M',G.rt (.bl true) M':=λM'=>by rw[<- hG];exact⟨M',λ_ _ e=>e,rfl⟩
 unfold vf;refine cw ?_;simp only[ap,ak];refine jX (AH rfl) yV _ ⟨rfl,au λQ' E' l _=>zj λk M1 h1 _=>l _ _ ?_⟩;simp only[af,Mu];unfold lZ;refine cw ?_;simp only[ap,iM,ak];refine jX (AH rfl) (jX Li<|jX Li yV) _ ⟨rfl,au λQ' E' l _=>tB h1 λm SV SS rs os mk M2 p g t k2 hp=>l _ _ (L4 hp ?_)⟩;simp only[bL,aD,bM,af,Mu,Md,Mp];refine⟨trivial,?_⟩;have n1:=g.t.n1;have hh:=g.h;have hc:=g.c;have m2:=g.t.m2;have m1:=g.t.m1;have ov:=Gd (rs:=rs) (os:=os) (by lia) (by lia)
 have a1:atI [D.int m,.tup (SS.map D.str),.int SV,.tup (ai rs),.str mk] 1=cb (.tup<|SS.map D.str):=by rw[atI_1];rfl
 have a0:atI [D.int m,.tup (SS.map D.str),.int SV,.tup (ai rs),.str mk] 0=cb (.int m):=by rw[atI_0];rfl
 unfold kA;refine cw ?_;generalize O:gC ad (aB md)=K15;simp only[aA,jD,dF,ao,bR,aj,bn,am,ak,aa,ac,dC,ae,Ma,dt];rw[show av (aW m SV SS rs mk) (.int 1)=λM Q=>Q (.tup<|SS.map D.str) M by funext M Q;simp only[av,aW,aE,a1]]
 simp only[bC,aE,Mc,sS,pU]
 by_cases cl:(11:Int)<(SS.length:Nat)
 .rw[decide_eq_true cl,if_pos rfl,if_pos trivial]
  exact hr _
 rw[decide_eq_false cl,if_neg (by simp)]
 refine⟨rfl,aK (d:=sX m SV SS rs os mk) (λ_ _ q=>mL n1 g.ok t.k (by lia) (by lia) q) ?_⟩
 have fz:∀{K:DK}{M':Mem},K (sX m SV SS rs os mk) M'->frz (sX m SV SS rs os mk) M' K:=λq=>q;refine fz ⟨rfl,aK (λ_ _ q=>J5 g t.ok t.k q) ?_⟩;simp only[frz,yJ];cases f:rE SV SS rs os with
 |false=>
  rw[O3,if_pos rfl];exact hr _
 |true=>
 rw[Np,if_neg (by simp)]
 show K15 G _ M2;rw[<- O];unfold gC;refine cw ?_;generalize S:ii ad (aB md)=K14;simp only[aA,dF,bR,am,ak,aa,ac,ae,Ma,dt];refine⟨rfl,au λQ' E' l _=>iS g.ok t.ok (by lia) (by lia) (λ_ p3 hp3=>l _ _ (iK hp3 ?_)) λz=>(by rw[t.k]at z;cases z)⟩
 refine⟨rfl,aK (λQ' E' q=>cY 23 _ _ Q' E' ⟨ov.1,λx H=>IT (ov.2 x H)⟩ q) ?_⟩;simp only[frz,yJ,Np,MC,if_false];show K14 G _ M2;rw[<- S];unfold ii;refine cw ?_;generalize R:gW ad (aB md)=K13;simp only[ap,am,ak,aa,ac,ae,Ma,dt];refine⟨rfl,au λQ' E' l _=>tD g t.ok t.k f (l _ _<|fz ?_)⟩;simp only[af,Mu];rw[<- R];unfold gW;refine cw ?_;generalize I:gx ad (aB md)=K12;simp only[ap,am,ak,aa,ac,ae,Ma,dt];refine⟨rfl,au λQ' E' l _=>uh k2.1 g.t λnums P M3 ln lP rn rp k3=>l _ _ ?_⟩;have fs:∀{K:DK}{M':Mem},K (b6 nums P) M'->frz (b6 nums P) M' K:=λq=>q;refine fs ?_;simp only[af,Mu];rw[<- I];unfold gx;refine cw ?_;generalize J:gP ad (aB md)=K11;simp only[ap,am,ak,aa,ac,dC,ae,Ma,dt];refine⟨rfl,aM k3.1 (by decide) (by decide) λmo M4 o0 o1 d4=>?_⟩
 obtain⟨most,rfl⟩:=OM o0;simp only[frz,af,Mu];rw[<- J];unfold gP;refine cw ?_;generalize X:gD ad (aB md)=K10;simp only[ap,aj,am,ak,aa,ac,dC,ae,Ma,dt];rw[show av (aW m SV SS rs mk) (.int 0)=λM Q=>Q (.int m) M by funext M Q;simp only[av,aW,aE,a0]]
 simp only[ga,pU];refine⟨rfl,aM d4.1 (by lia) (by lia) λnu M5 u0 u1 d5=>?_⟩
 simp only[frz,aF,af,Mu];rw[<- X];unfold gD;refine cw ?_;generalize Z:hV ad (aB md)=K9;simp only[cK,cN,am,bA,aa,ax,ac,dC,ae,Ma,dt];refine⟨aR (by simp),aR (by simp),aR (by simp),aR (by simp),λq l=>iK l ?_⟩
 simp only[aE,bZ];subst lP;have th:=t.h;refine br (λxs U N=>(∀x∈xs,∃(b:Bool)(S0:Int),x=D.tup [aW m (P.length:Nat) SS (eL b rs os) mk,.int S0]/\(b=true↔S0≠0)/\0<=S0/\S0<m)/\∃(Y C A B s F w u:Option D),U=[cb (.ml<|ns.map D.int),cb (.ref k.p),cb (aW m (P.length:Nat) SS rs mk),cb (aW m (P.length:Nat) SS os mk),cb (.lst<|qd rs os),cb (sX m (P.length:Nat) SS rs os mk),cb (b6 nums P),cb (.int (most:Nat)),cb (.int (1+nu)),Y,C,A,B,s,F,w,u]) (λ_ _ _ _=>aG) ?_ ?_ _ _ _ ⟨λx H=>?_,_,_,_,_,_,_,_,_,rfl⟩
 .rintro U N ⟨_,Y,C,A,B,s,F,w,u,rfl⟩
  simp only[aw,dC];exact hr _
 .rintro x xs U N ⟨H,Y,C,A,B,s,F,w,u,rfl⟩ D' hD _ _ _
  obtain⟨b,S0,rfl,hb,b0,b1⟩:=H x (by simp)
  simp only[bL,aD,bM,af,Mu,Md,Mp];refine⟨trivial,?_⟩;rw[<- Z];exact CS g t.ok t.k (by lia) ln.symm rn rp (by lia) hb b0 b1 λY C A B s F w u=>hD _ _ ⟨λy hy=>H y (MA _ hy),_,_,_,_,_,_,_,_,rfl⟩
 .simp only[Mm,NM,or_false]at H
  rcases H with rfl|rfl|rfl
  .exact⟨eP,0,rfl,by simp,by lia,by lia⟩
  .exact⟨true,1,rfl,by simp,by lia,by lia⟩
  .exact⟨true,1+nu,rfl,by simp;lia,by lia,by lia⟩
end _T
namespace _T
open PySem _2 _3
noncomputable def zF(K:Mi):Sp:=λb H Q _=>∃(a:eH)(ns:S9),b=[.ref a]/\yU H/\SqL K H a (ns.map V.int)/\ns.length<=63/\∀H',Q (.bl true) H'
theorem Jc{l:W.OpenLaw}{w:kB}{K:Mi}{h:ka}{mg:Tg}{fa C_Walk C_Weave C_Dry C_NoBuild C_TooBig f1 f2 f3 f4 f5 f6 f7 f8 f9 f10 f11 f12 f13 f14 f15 f16 f17 f18 f19 f20 f21 f22 f23 f24 f25 f26 f27 f28 f29 f30 f31 f32 f33 f34 f35 f36 f37 f38 f39 f40 f41 f42 f43 f44 f45 f46 f47 f48 f49 f50 f51:eH}(X:K.In h)(G:h.Ns f' mg)(hfa:mg "law"=cb (.ref fa))
  {z Rt c C y tk_MOST_ROWS J A tk_PARTS_0 tk_PARTS_1 tk_PARTS_2 tk_PARTS_3 tk_PARTS_4 tk_PARTS_5 tk_PARTS_6 tk_PARTS_7 tk_PARTS_8 M tu_PARTS_0_1 Y tu_PARTS_1_1 tu_PARTS_2_0 tu_PARTS_2_1 tu_PARTS_3_0 tu_PARTS_3_1 R tu_PARTS_4_0 tu_PARTS_4_1 U N tu_PARTS_5_1 tu_PARTS_5_2 tu_PARTS_6_0 L O tu_PARTS_7_0 tu_PARTS_7_1 tu_PARTS_7_2 P Z:Tok} {Ry ep_PARTS_0 ep_PARTS_1 ep_PARTS_2 ep_PARTS_3 ep_PARTS_4 ep_PARTS_5 ep_PARTS_6 ep_PARTS_7 ep_PARTS_8:Nat} {Q6 p m f g q j n i o:eH}
  {e1 e2 e3 e4 e5 e6 e7 e8 e9 e10 e11 e12 e13 e14 e15 e16 e17 e18 e19 e20 e21 e22 e23 e24 e25 e26 e27 e28 e29 e30 e31 e32 e33 e34 e35 e36 e37 e38 e39 e40 e41 e42 e43 e44 e45 e46 e47 e48 e49 e50 e51:k6}
  (aC_Walk:Nk K f' "Walk"=cb (cb<|.ref C_Walk))
  (aC_Weave:Nk K f' "Weave"=cb (cb<|.ref C_Weave))
  (aC_Dry:Nk K f' "Dry"=cb (cb<|.ref C_Dry))
  (aC_NoBuild:Nk K f' "NoBuild"=cb (cb<|.ref C_NoBuild))
  (aC_TooBig:Nk K f' "TooBig"=cb (cb<|.ref C_TooBig))
  (l1:Mf K C_Walk "__init__" "Walk.__init__" Kl f1 e1)
  (l2:Mf K C_Walk "note_step" "Walk.note_step" JQ f2 e2)
  (l3:Mf K C_Walk "look" "Walk.look" Fm f3 e3)
  (l4:Nf K "run" ES f4 e4)
  (l5:Nf K "mark" EH f5 e5)
  (l6:Nf K "do_rows" EV f6 e6)
  (l7:Nf K "do_row" Fs f7 e7)
  (l8:Nf K "do_if" Fb f8 e8)
  (l9:Nf K "do_again" Fj f9 e9)
  (l10:Nf K "number_of" EO f10 e10)
  (l11:Nf K "piece_read" EN f11 e11)
  (l12:Nf K "joined" ET f12 e12)
  (l13:Nf K "is_plan" Fc f13 e13)
  (l14:Nf K "is_whole" F0 f14 e14)
  (l15:Nf K "is_name" Fn f15 e15)
  (l16:Nf K "are_names" F8 f16 e16)
  (l17:Nf K "is_name_of" FA f17 e17)
  (l18:Nf K "are_rows" FH f18 e18)
  (l19:Nf K "is_row" Fl f19 e19)
  (l20:Nf K "is_part" FD f20 e20)
  (l21:Nf K "rows_within" EQ f21 e21)
  (l22:Mf K C_Weave "__init__" "Weave.__init__" Ly f22 e22)
  (l23:Nf K "new_name" Fu f23 e23)
  (l24:Nf K "unlike_rows" Fp f24 e24)
  (l25:Nf K "paired" F4 f25 e25)
  (l26:Nf K "refuse_unlike_sorts" JH f26 e26)
  (l27:Nf K "paired_within" Jy f27 e27)
  (l28:Nf K "branches" EJ f28 e28)
  (l29:Nf K "woven" E_ f29 e29)
  (l30:Nf K "woven_rows" Fh f30 e30)
  (l31:Nf K "woven_row" FF f31 e31)
  (l32:Nf K "_law_stirred" LK f32 e32)
  (l33:Nf K "_law_pot" FP f33 e33)
  (l34:Nf K "_law_draw" Fa f34 e34)
  (l35:Nf K "_law_names" Fi f35 e35)
  (l36:Nf K "_law_row" F5 f36 e36)
  (l37:Nf K "_law_block" EK f37 e37)
  (l38:Nf K "_law_rows" Fy f38 e38)
  (l39:Nf K "_law_plan" Fv f39 e39)
  (l40:Nf K "_law_stand" EL f40 e40)
  (l41:Nf K "_law_no_picks" JP f41 e41)
  (l42:Nf K "_law_twin_rows" L6 f42 e42)
  (l43:Nf K "_law_twins" FN f43 e43)
  (l44:Nf K "_law_first_name" Jv f44 e44)
  (l45:Nf K "_law_weave" FK f45 e45)
  (l46:Nf K "_law_woven" Fd f46 e46)
  (l47:Nf K "_law_counted" FJ f47 e47)
  (l48:Nf K "_law_fits" FG f48 e48)
  (l49:Nf K "_law_alike" Fo f49 e49)
  (l50:Nf K "_law_as_written" KN f50 e50)
  (l51:Nf K "law" iO f51 e51)
  (RP:QN K C_Dry [.type "ValueError",.type "Exception",.type "BaseException",.type "object"] "ValueError.__new__"=true)
  (Rx:QN K C_NoBuild [.type "ValueError",.type "Exception",.type "BaseException",.type "object"] "ValueError.__new__"=true)
  (Rz:QN K C_TooBig [.type "ValueError",.type "Exception",.type "BaseException",.type "object"] "ValueError.__new__"=true)
  (RJ:O0 K C_Walk Str.empty=true)
  (RK:O7 K C_Walk=true)
  (RL:P1 K C_Walk=true)
  (RM:Nq K (.ref C_Walk) "__setattr__"=cb (cb<|.builtin "object.__setattr__"))
  (RN:PL K C_Walk=true)
  (RO:NN K (.ref C_Walk)=true)
  (RA:O0 K C_Weave Str.empty=true)
  (RB:O7 K C_Weave=true)
  (RC:P1 K C_Weave=true)
  (RD:Nq K (.ref C_Weave) "__setattr__"=cb (cb<|.builtin "object.__setattr__"))
  (RE:PL K C_Weave=true)
  (RF:NN K (.ref C_Weave)=true)
  (Rq:Nq K (.ref C_Walk) "most"=cb ed)
  (Rj:Nq K (.ref C_Walk) "numbers"=cb ed)
  (Rl:Nq K (.ref C_Walk) "pieces"=cb ed)
  (Rr:Nq K (.ref C_Walk) "plan"=cb ed)
  (Rn:Nq K (.ref C_Walk) "steps"=cb ed)
  (Ro:Nq K (.ref C_Weave) "name"=cb ed)
  (Rk:Nq K (.ref C_Weave) "pieces"=cb ed)
  (r:Nk K f' "LEAST_WHEEL"=cb (cb<|.int 2 z))
  (Ru:Nk K f' "LETTERS"=cb (cb<|.str "abcdefghijklmnopqrstuvwxyz" Rt))
  (b:Nk K f' "MOST_LETTERS"=cb (cb<|.int 8 c))
  (I:Nk K f' "MOST_NAMES"=cb (cb<|.int 12 C))
  (x:Nk K f' "MOST_PIECES"=cb (cb<|.int 40 y))
  (S:Nk K f' "MOST_ROWS"=cb (cb<|.int 60 tk_MOST_ROWS))
  (B:Nk K f' "MOST_WHEEL"=cb (cb<|.int 997 J))
  (u:Nk K f' "MOST_WITHIN"=cb (cb<|.int 4 A))
  (RG:Nk K f' "PARTS"=cb (cb<|.ref Q6))
  (RH:K.lookup Q6=cb { cls:=.type "dict",dict:=ed,data:=.dict #[⟨Nw w.params "put",.str "put" tk_PARTS_0,.ref p⟩,⟨Nw w.params "take",.str "take" tk_PARTS_1,.ref m⟩,⟨Nw w.params "pick",.str "pick" tk_PARTS_2,.ref f⟩,⟨Nw w.params "sum",.str "sum" tk_PARTS_3,.ref g⟩,⟨Nw w.params "by",.str "by" tk_PARTS_4,.ref q⟩,⟨Nw w.params "less",.str "less" tk_PARTS_5,.ref j⟩,⟨Nw w.params "same",.str "same" tk_PARTS_6,.ref n⟩,⟨Nw w.params "if",.str "if" tk_PARTS_7,.ref i⟩,⟨Nw w.params "again",.str "again" tk_PARTS_8,.ref o⟩] Ry,slots:=#[] })
  (gw_PARTS_0:K.lookup p=cb { cls:=.type "tuple",dict:=ed,data:=.seq #[.str "name" M,.str "number" tu_PARTS_0_1] ep_PARTS_0,slots:=#[] })
  (gw_PARTS_1:K.lookup m=cb { cls:=.type "tuple",dict:=ed,data:=.seq #[.str "name" Y,.str "piece" tu_PARTS_1_1] ep_PARTS_1,slots:=#[] })
  (gw_PARTS_2:K.lookup f=cb { cls:=.type "tuple",dict:=ed,data:=.seq #[.str "name" tu_PARTS_2_0,.str "name" tu_PARTS_2_1] ep_PARTS_2,slots:=#[] })
  (gw_PARTS_3:K.lookup g=cb { cls:=.type "tuple",dict:=ed,data:=.seq #[.str "name" tu_PARTS_3_0,.str "name" tu_PARTS_3_1,.str "name" R] ep_PARTS_3,slots:=#[] })
  (gw_PARTS_4:K.lookup q=cb { cls:=.type "tuple",dict:=ed,data:=.seq #[.str "name" tu_PARTS_4_0,.str "name" tu_PARTS_4_1,.str "name" U] ep_PARTS_4,slots:=#[] })
  (gw_PARTS_5:K.lookup j=cb { cls:=.type "tuple",dict:=ed,data:=.seq #[.str "name" N,.str "name" tu_PARTS_5_1,.str "name" tu_PARTS_5_2] ep_PARTS_5,slots:=#[] })
  (gw_PARTS_6:K.lookup n=cb { cls:=.type "tuple",dict:=ed,data:=.seq #[.str "name" tu_PARTS_6_0,.str "name" L,.str "name" O] ep_PARTS_6,slots:=#[] })
  (gw_PARTS_7:K.lookup i=cb { cls:=.type "tuple",dict:=ed,data:=.seq #[.str "name" tu_PARTS_7_0,.str "rows" tu_PARTS_7_1,.str "rows" tu_PARTS_7_2] ep_PARTS_7,slots:=#[] })
  (gw_PARTS_8:K.lookup o=cb { cls:=.type "tuple",dict:=ed,data:=.seq #[.str "name" P,.str "rows" Z] ep_PARTS_8,slots:=#[] })
  (RI:(Q6==pt)=eP)
  (z_all:Nk K f' "all"=cb ed)
  (z_bool:Nk K f' "bool"=cb ed)
  (z_dict:Nk K f' "dict"=cb ed)
  (z_enumerate:Nk K f' "enumerate"=cb ed)
  (z_int:Nk K f' "int"=cb ed)
  (z_isinstance:Nk K f' "isinstance"=cb ed)
  (z_len:Nk K f' "len"=cb ed)
  (z_list:Nk K f' "list"=cb ed)
  (z_min:Nk K f' "min"=cb ed)
  (z_range:Nk K f' "range"=cb ed)
  (z_set:Nk K f' "set"=cb ed)
  (z_sorted:Nk K f' "sorted"=cb ed)
  (z_str:Nk K f' "str"=cb ed)
  (z_tuple:Nk K f' "tuple"=cb ed)
  (z_zip:Nk K f' "zip"=cb ed):
  ∃fd:k6,(∀(s:eC)(v:cp),Sl s fd ⟨[v],[]⟩ [("script",v)])/\∀base:ka,K.In base->base.Ns f' mg->FnOk l.prog w K mg base CX0 50 fa fd ["script"] (zF K):=by
 have e:=hfa.symm.trans (NU X G l51.a);cases e;obtain⟨_,_,kV,dc,pm,an,cd,ct,_,rfl,_⟩:=l51.F.ex;refine⟨O8 "law" "law" (dj iO) (cC iO) (bq iO) .none kV dc pm an cd ct,λs v=>.of_eq rfl,λbase _ _=>?_⟩
 let ad:Ad:=⟨C_Walk,C_Weave,C_Dry,C_NoBuild,C_TooBig,f1,f2,f3,f4,f5,f6,f7,f8,f9,f10,f11,f12,f13,f14,f15,f16,f17,f18,f19,f20,f21,f22,f23,f24,f25,f26,f27,f28,f29,f30,f31,f32,f33,f34,f35,f36,f37,f38,f39,f40,f41,f42,f43,f44,f45,f46,f47,f48,f49,f50,fa,e1,e2,e3,e4,e5,e6,e7,e8,e9,e10,e11,e12,e13,e14,e15,e16,e17,e18,e19,e20,e21,e22,e23,e24,e25,e26,e27,e28,e29,e30,e31,e32,e33,e34,e35,e36,e37,e38,e39,e40,e41,e42,e43,e44,e45,e46,e47,e48,e49,e50,O8 "law" "law" (dj iO) (cC iO) (bq iO) .none kV dc pm an cd ct,Q6⟩
 have T:En l.prog w K mg base ad:=⟨⟨RJ,RK,RL,RM⟩,
  NU X G aC_Walk,
  ⟨RA,RB,RC,RD⟩,
  NU X G aC_Weave,
  Rq,
  Rj,
  Rl,
  Rr,
  Rn,
  Ro,
  Rk,
  gk X RP,
  NU X G aC_Dry,
  gk X Rx,
  NU X G aC_NoBuild,
  gk X Rz,
  NU X G aC_TooBig,
  ⟨_,NU X G r⟩,
  ⟨_,NU X G Ru⟩,
  ⟨_,NU X G b⟩,
  ⟨_,NU X G I⟩,
  ⟨_,NU X G x⟩,
  ⟨_,NU X G S⟩,
  ⟨_,NU X G B⟩,
  ⟨_,NU X G u⟩,
  ⟨NU X G RG,RI,by decide +kernel,_,_,RH,(TabR.cons rfl ⟨_,rfl⟩ (cL (ss:=["name","number"]) gw_PARTS_0 (.cons ⟨_,rfl⟩<|.cons ⟨_,rfl⟩ .nil) (show 2<=sizeLine by decide))<|TabR.cons rfl ⟨_,rfl⟩ (cL (ss:=["name","piece"]) gw_PARTS_1 (.cons ⟨_,rfl⟩<|.cons ⟨_,rfl⟩ .nil) (show 2<=sizeLine by decide))<|TabR.cons rfl ⟨_,rfl⟩ (cL (ss:=["name","name"]) gw_PARTS_2 (.cons ⟨_,rfl⟩<|.cons ⟨_,rfl⟩ .nil) (show 2<=sizeLine by decide))<|TabR.cons rfl ⟨_,rfl⟩ (cL (ss:=["name","name","name"]) gw_PARTS_3 (.cons ⟨_,rfl⟩<|.cons ⟨_,rfl⟩<|.cons ⟨_,rfl⟩ .nil) (show 3<=sizeLine by decide))<|TabR.cons rfl ⟨_,rfl⟩ (cL (ss:=["name","name","name"]) gw_PARTS_4 (.cons ⟨_,rfl⟩<|.cons ⟨_,rfl⟩<|.cons ⟨_,rfl⟩ .nil) (show 3<=sizeLine by decide))<|TabR.cons rfl ⟨_,rfl⟩ (cL (ss:=["name","name","name"]) gw_PARTS_5 (.cons ⟨_,rfl⟩<|.cons ⟨_,rfl⟩<|.cons ⟨_,rfl⟩ .nil) (show 3<=sizeLine by decide))<|TabR.cons rfl ⟨_,rfl⟩ (cL (ss:=["name","name","name"]) gw_PARTS_6 (.cons ⟨_,rfl⟩<|.cons ⟨_,rfl⟩<|.cons ⟨_,rfl⟩ .nil) (show 3<=sizeLine by decide))<|TabR.cons rfl ⟨_,rfl⟩ (cL (ss:=["name","rows","rows"]) gw_PARTS_7 (.cons ⟨_,rfl⟩<|.cons ⟨_,rfl⟩<|.cons ⟨_,rfl⟩ .nil) (show 3<=sizeLine by decide))<|TabR.cons rfl ⟨_,rfl⟩ (cL (ss:=["name","rows"]) gw_PARTS_8 (.cons ⟨_,rfl⟩<|.cons ⟨_,rfl⟩ .nil) (show 2<=sizeLine by decide)) TabR.nil)⟩,
  MX X G z_all,
  MX X G z_bool,
  MX X G z_dict,
  MX X G z_enumerate,
  MX X G z_int,
  MX X G z_isinstance,
  MX X G z_len,
  MX X G z_list,
  MX X G z_min,
  MX X G z_range,
  MX X G z_set,
  MX X G z_sorted,
  MX X G z_str,
  MX X G z_tuple,
  MX X G z_zip,
  gi RN RO l1,
  gm l2,
  gm l3,
  gf X G l4,
  gf X G l5,
  gf X G l6,
  gf X G l7,
  gf X G l8,
  gf X G l9,
  gf X G l10,
  gf X G l11,
  gf X G l12,
  gf X G l13,
  gf X G l14,
  gf X G l15,
  gf X G l16,
  gf X G l17,
  gf X G l18,
  gf X G l19,
  gf X G l20,
  gf X G l21,
  gi RE RF l22,
  gf X G l23,
  gf X G l24,
  gf X G l25,
  gf X G l26,
  gf X G l27,
  gf X G l28,
  gf X G l29,
  gf X G l30,
  gf X G l31,
  gf X G l32,
  gf X G l33,
  gf X G l34,
  gf X G l35,
  gf X G l36,
  gf X G l37,
  gf X G l38,
  gf X G l39,
  gf X G l40,
  gf X G l41,
  gf X G l42,
  gf X G l43,
  gf X G l44,
  gf X G l45,
  gf X G l46,
  gf X G l47,
  gf X G l48,
  gf X G l49,
  gf X G l50,
  gf X G l51⟩
 exact(HR<|Ge T).imp λvs H Q E ⟨a,ns,e,hO,hS,hl,k⟩=>by subst e;exact CM hO hS (xN ad ns hl) k
theorem walk{l:W.OpenLaw}{q:g4}{loose:S_}{XP:(Str->Option cp)->ka->Prop}{YP:kB->ka->Prop}{d:DefRec}{K:Params->Mi}(p:l.most=cb 63)(e:d.params.defaults=[])
  (r:∀(w:kB)(h:ka),YP w h->(K w.params).In h)
  (F:∀(w:kB)(c:Tg)(g:eH)(h:ka),(K w.params).In h->h.Ns f' c->c d.name=cb (.ref g)->
   ∃fd:k6,(∀(s:eC)(u:cp),Sl s fd ⟨[u],[]⟩ [("script",u)])/\∀b:ka,(K w.params).In b->b.Ns f' c->FnOk l.prog w (K w.params) c b CX0 50 g fd ["script"] (zF<|K w.params)):
  W.WalkO q loose XP YP l.row.toRowW d [] (λf vs=>QM f vs):=
 _2.CF (n:=63) (k:=50) (x:="script") (CX:=λ_=>CX0) (sp:=λw=>zF (K w.params)) p (by decide) e ⟨rfl,by decide,by decide,rfl⟩ r F (λ_ _ a i o m j=>⟨a,i,rfl,m,j,o,λ_=>rfl⟩) λ_ _ _ _ _ z=>z
end _T
open PySem PySem.W PyProof.Rows
structure PySem.W.Fast:Prop where
 (tw15045036390419555229 tw12018161655758585783 tw2743554645629674204 tw12153533131806466996 tw8182534521865984916 tw13580749469226543180 tw17368114967695654908 tw7673732027028958717 tw6051652763805525071 tw2381058626254523147 tw17176882703494429232 tw21406026731761234 tw13237184558117715628 tw4154889303444491655 tw3164727813828321226 tw7511044107755763771 tw4620162061500150019 tw14320326882541425828 tw3658785295826060254 tw13694128584660678263 tw11326359123521419191 tw3916529993154326908 tw8532511149801872381 tw6430706968322889771 tw13882925686732281760 tw12025887262806488609 tw10874709795650788053 tw12672395856561080074 tw4761770855832934546 tw16719879312055398898 tw5694870657299086700 tw2424205093861130799 tw13514229453517527746 tw16987075662639978064 tw18277693234076302408 tw16875044026880810389 tw12153167414533628516 tw14830617695339408202 tw17233754183893583963 tw11214658228081279985 tw4700546085740178845 tw1706665014350945811 tw6409771707806371050 tw6979371812444529962 tw10207086892818537476 tw17551138199182688293 tw15894454946800180046 tw7846508322510024325 tw981101889301133658 tw8053355127301725734 tw5455774966209444530 tw7754822839022071017 tw12645432429328006313 tw14853461816302724007 tw7399222651674149241 tw3499632187296769313 tw4159981119403748858 tw13568162966855932623 tw17329833847165924719 tw14829454791981718005 tw4166117980121176205 tw8150733699117775426 tw13984658266163632404 tw14013485015219735895 tw5934331761974326759 tw4193297502099196126 tw2432126136137955259 tw11429842163675706467 tw8992618389535764205 tw16190492529758790419 tw11889136574098025379 tw1941295074428987367 tw13822933526303898703 tw1935539375900439459 tw12675158407708102712 tw3144185032019695177 tw14379884059673559519 tw4882329712119242599 tw395544714824960476 tw14391745310988552987 tw5324402442975737059 tw116025600147911726 tw7936400802123912068 tw2876009819044577328 tw10168471809697744414 tw9857309690387301910 tw7197849515328727580 tw12290279496732725369 tw6057631324093734773 tw6570829199568578187 tw13201110692238274417 tw12965406795515257066 tw1721122063685300575 tw11492063724407208257 tw9843084265152491839 tw5546972774746293423 tw6876517000091482930 tw17791304415329519086 tw4963381981268737506 tw5227519515732483327 tw9460163879015287482 tw16067526670756917126 tw6374593501902914762 tw13010405495205574852 tw3494729668417873423 tw10448874723052866096 tw4859628370146672004 tw10908784029228135409 tw8282402214150661058 tw7549858771429305838 tw8671768910943080928 tw8881920193683189569 tw14267323144875983365 tw1752125105472885033 tw15172683494656124823 tw9081553975901538892 tw12028582644533623644 tw5188107449713564200 tw12894012050966222861 tw5759100568111199172 tw13213057167332802928 tw9871026421487062122 tw6517478452957761530 tw11553635368953477886 tw8021247580590404351 tw7985543244234280874 tw1863889749277066146 tw4927624480238065652 tw14281145276103692649 tw10867111346398959743 tw17278521002715504196 tw7196026951325174836 tw601469889268782153 tw15853039692787305129 tw7885907171817360628 tw3259843726366479818 tw13433547937109481976 tw12676822230816050464 tw14972852058473605102 tw15899031100321787907 tw11176360271214699287 tw6034671413436801114 tw2604860446248219917 tw6208241158811267911 tw197830569291357045 tw13486701937322298300 tw2772912960877689701 tw8139619653338415873 tw12775694987068693607 tw15919689411307378698 tw17971385996594736320 tw3784542718248014968 tw11619512926248679862 tw2415626633488922858 tw13824880310009776697 tw14367137214684793895 tw4082707500738360268 tw5706650743467242814 tw10284248615767329631 tw3918937386160260164 tw5630632380814963332 tw2748450595227610763 tw15904256630973586290 tw14822713237744560364 tw10411302269516278425 tw127937772008745076 tw9809094284824167859 tw3843796540140944635 tw2074886844387075028 tw4021182155235900670 tw17406622298791323371 tw6679708437180073886 tw15246338244581893497 tw9185705838548333375 tw9950256609130372102 tw16737746708355853373 tw6537467014255684612 tw1372882298775805020 tw10555653613129557059 tw13165178342396578238 tw15257478743030939167 tw4463808885467070420 tw1752123289914850360 tw8928071301559419138 tw17895906733164536846 tw6966098438552322760 tw3380437536376000099 tw4733754787973009819 tw9730767133132520779 tw11044028042345162728 tw5055088645232444454 tw6509996755938558731 tw8018546689800907483 tw3037976591814405096 tw6880838202967478355 tw732091316740008824 tw9517364385061366289 tw7573442277199019133 tw9612686110946547543 tw14445735987577962398 tw7009661292762740477 tw7819878114201255297 tw2215182005561920779 tw5752514454544814848 tw13298034033679565918 tw2191578747762411789 tw13179512194447769043 tw8568978662995750826 tw6507939477884766333 tw9343137529140415615 tw18359584929989879359 tw6124867570905253408 tw15193065597737157566 tw10520860962402840061 tw6029718725382529551 tw16784902724026723348 tw9418717047214037448 tw13410679842687231181 tw14443495910084023783 tw18270965979642242307 tw9900648461659059921 tw1965645514608325208 tw373653589612240864 tw2744710396653701334 tw3839843288747103025 tw1815615303982619055 tw7802124593748448993 tw5353363510532097873 tw2177273974469861069 tw9746471365045127657 tw11904090338737579139 tw10862660542766943242 tw5660818487707416069 tw15853676588465221112 tw15876396455511739707 tw10157995765888216579 tw2226597466240132025 tw3883389854284714916 tw15571887987923677339 tw447698943098543356 tw946199379002107332 tw18293603969555626393 tw12219228136113909688 tw10691758286015021955 tw16420596798790895946 tw3413483397068145380 tw17914393008694012362 tw17013507828839903815 tw6835407956545916389 tw14938675038548834271 tw7450466690104086834 tw7118593706521166234 tw7275900071733488457 tw12907344918327195992 tw2407301960600564068 tw2266861233849283050 tw1994825723087575376 tw2254766829497243593 tw12775788680099971995 tw51022606331995647 tw17324682286038354398 tw8321274319472000386 tw3562787640129920132 tw14506373264144726750 tw6496523471148188823 tw5805216445269127740 tw7108363119932685803 tw4815460281532929890 tw5433860215278836462 tw7714945353946873023 tw3104972448644635689 tw12628288919452351545 tw13241113896623267384 tw6381791950848794381 tw9862126580948666078 tw3374990610462732995 tw17881746350909131628 tw8139205107295791448 tw4697169990681925238 tw14091332524042857836 tw455443135856622939 tw12658765819893538064 tw8493253687300858291 tw14872762584860928509 tw5653226013409162564 tw12804342328173910705 tw18054572744705605171 tw3008151673008634511 tw9343535201744885075 tw13903897821087398669 tw5539882475193356886 tw10583835472166149960 tw1045593429504680653 tw12955371484177425010 tw2868464915535700740 tw9489579661364699490 tw6125340094505451152 tw7380183737011488510 tw9804250672681028456 tw1092544902907783599 tw15133867221339634858 tw14597142834231045480 tw1334318429103730860 tw13901744470724198258 tw1086135194263387927 tw11322439056345298065 tw15276194526678480906 tw11125263012526618795 tw1374256892196045122 tw16180710001966156998 tw11305927470049860819 tw8585835555643814038 tw430074498136676389 tw8973826657522544350 tw1605289838658610285 tw12149617510219699163 tw1545446937944368528 tw6869936555174801860 tw14868120646590223550 tw10938652455570842195 tw15402125955628844634 tw12182302375475026642 tw10327509635139131810 tw2077904633708792140 tw10100213866643901271 tw3449132561515304393 tw7815403906135892679 tw12011780147960851855 tw15699209269504123312 tw15958821505564836529 tw4787732115234946443 tw13868613671891236423 tw2707314398950664341 tw2934070875307658380 tw8409038913725813548 tw8943190046426594992 tw14331065911335972412 tw11393579207067405125 tw732356702713723778 tw8420630615703337282 tw4974355024927846597 tw7382567115025195023 tw16693833941220068363 tw4877084769014402577 tw15403337893276235810 tw4073780760413975983 tw6457699622583139992 tw11557232873447410354 tw17063631320181094579 tw1741752983767186550 tw16765554547528293605 tw13238420030944204894 tw14320357317087345648 tw14836034847329616102 tw17940353353706938393 tw12666957845852759945 tw15591036896833425711 tw8146424408560798995 tw16753933584609732873 tw14772810527232632709 tw691877293826725250 tw10038179671191191739 tw11166564794778982039 tw11491092380167123189 tw1875825435000078763 tw13678887928300539999 tw16861069892003581714 tw12935306251226282836 tw14978984537494164202 tw7439158522508927830 tw6960249874251399466 tw10682764785515882968 tw870251721638982397 tw14867195779880956543 tw10246557043527353594 tw11826748342516263134 tw7332380796997047711 tw10414581224229209882 tw4436510515991139578 tw2942782105561178178 tw12929427930059154771 tw14450552689990440845 tw15937253211603000805 tw7118211463598666234 tw1439861252554667756 tw11153024407521038196 tw14346696955300372767 tw12657927094704660901 tw9551540129712527773 tw15476927311612842794 tw4202144479748055639 tw17200405650856550701 tw13832951682555483744 tw13560462959284824588 tw15319385752864134793 tw11491549944996366406 tw15125646132973545055 tw7199160757847774561 tw2750271653395971784 tw7039841567368371736 tw8901901938070692569 tw5203057490196223734 tw13445281797009926813 tw13574735873727422093 tw1876748356525518993 tw4475661096691643158 tw15671706996178930826 tw14826768863150456437 tw16759015490878873404 tw703684348633193067:True)
set_option maxRecDepth 100000 in
set_option maxHeartbeats 0 in
theorem PySem.Challenge.cw_twinstride_k82_whole_woven_does_either_holds : PySem.Challenge.rw_twinstride_k82_whole_woven_does_either.Holds := by
 w_on;o_law;k_head;(case hw=>w_witness2)
 k_fill
 refine _T.walk (l:=PySem.Challenge.rw_twinstride_k82_whole_woven_does_either) rfl rfl (λw h Y=>W.kIn_of Y) ?F
 case F=>
  intro w b c h KX G a;refine' _T.Jc KX G a ..
  any_goals k_is
  any_goals (first|refine' _3.Nf.mk ?_ (_2.z9 ?_ ?_ ?_)|refine' _3.Mf.mk ?_ ?_ (_2.z9 ?_ ?_ ?_))
  any_goals k_is
  any_goals k_exc
  any_goals first|rfl|decide
