import PyProof.Rows.All
import Wide.All
import OpenK.AllK
import Wide.FinOn
import Lean
import PyProof.EqAt
import PyProof.EqKinds
import PyProof.TupleCall
import PySem.Challenge.RW_twinstride_k37_whole_lines_of_pieces
set_option Elab.async false
set_option linter.all false
set_option maxRecDepth 100000
set_option maxHeartbeats 4000000
set_option compiler.extract_closed false
set_option Elab.async false
set_option linter.all false
set_option maxRecDepth 100000
open Array renaming length_toList->Lu,toList->Lx,replicate->Md,append_assoc->MC,getElem?_toList->NU,forIn_toList->Ov
open Bool renaming false_ne_true->Js,false_eq_true->JA,beq_eq_decide_eq->JD,and_eq_true->J3,not_true->KA,false_or->KC,and_false->KN,or_false->LU,true_or->Mc,or_true->MN,false_and->Nt,and_true->NG,and_self->NH
open False renaming elim->JF
open ForInStep renaming yield->LR
open Int renaming toNat_natCast->JL,emod_lt_of_pos->Kw,emod_nonneg->K0,le_refl->Mt
open List renaming getElem?_cons_zero->dt,getElem?_cons_succ->Ja,size_toArray->Jc,getElem?_eq_getElem->Je,map_cons->Jf,length_map->Ji,mem_cons_of_mem->Jj,length_cons->Jl,replicate->Jm,mem_cons_self->Jp,mem_cons->Jq,length_append->Jr,set->Jt,getElem?_map->Jw,lookup->Jz,nil_append->JE,mem_append_right->JG,replicate_succ->JJ,foldl_cons->JK,mem_map->JM,mem_filter->JQ,append_nil->JR,cons_append->JU,map_nil->JZ,getElem?_append_right->J0,length_nil->J1,getElem?_eq_some_iff->J2,flatten_cons->J9,length_filter_le->Kg,getElem?_append_left->Ki,find?_cons->Kj,sum_cons->Kl,range->Km,any_cons->Kn,filterMap_cons->Ko,nodup_cons->Kz,getElem?_eq_none->KD,not_mem_nil->KP,drop_eq_getElem_cons->KU,map_congr_left->KW,length_zip->KY,forIn_cons->KZ,getElem?_replicate->Lb,getElem?_set_self->Lg,length_take->Lm,getElem_mem->Ln,mem_append_left->Lp,map_map->Ly,zip_cons_cons->LD,mem_singleton->LF,getD_eq_getElem?_getD->LG,forIn_nil->LH,length->LP,take_of_length_le->Ma,drop_eq_nil_of_le->Mb,of_mem_zip->Mi,mem_append->Mj,map_append->Ml,filter_map->Mm,length_singleton->Mn,mem_range->Mp,map_id->Mq,getElem?_set_ne->Mr,mem_map_of_mem->Mv,filter_eq_self->Mw,findIdx?_eq_some_iff_getElem->MI,take_succ_eq_append_getElem->ML,nodup_append->MM,eraseIdxIfInBounds_toArray->MQ,zipIdx_cons->MT,range'_succ->MU,lookup_cons->MV,length_drop->MW,isEmpty_nil->MX,filter_cons->MY,length_set->M9,foldl->Nq,range_succ_eq_map->NT,dropLast_eq_take->Oa,range'->Of,mem_of_getElem?->Og,length_reverse->Ou,mem_filterMap->OD,findIdx?_cons->OE
open List.Pairwise renaming map->Nr
open List.cons renaming injEq->J7
open Nat renaming le_refl->Jg,lt_of_lt_of_le->Jn,ne_of_lt->Jo,le_trans->JC,lt_irrefl->JW,le_add_right->J5,zero_le->Kv,ne_of_gt->KS,lt_or_ge->Lj,not_lt_zero->Lw,lt_of_le_of_lt->LK,lt_succ_self->L9,pow_succ->Mh,le_succ->M8,min_self->N3,lt_trans->N5,le_of_lt->N8,pow_le_pow_right->Ot
open Ne renaming symm->JI
open Option renaming map_some->Kh,map_eq_some_iff->Lc,join_some->Lk,isSome_iff_exists->Np,isNone_some->Oe,isSome_map->Oq,getD_some->OB,getD_none->OC
open Option.some renaming inj->JT
open PyProof.Rows renaming callWith_type1->JB,slot_tuple_getitem->JS,envOfC->Li
open PySem renaming mem_of_lookup->Kc,stored->Ld,Within->NJ,call->Oh,list_append->Ow
open PySem.Around renaming under_plainId->KJ,under->MG
open PySem.AutoSeq1 renaming sub_tuple_tuple->LC,idx_int->MF
open PySem.Builtin.Dict renaming updateFrom->KO,pairItems->LB,selfAndRest->MJ,addKeywords->MK
open PySem.Builtin.List renaming listTooLong->KI,listFitsIndex->Ll
open PySem.Builtin.Slice renaming slicePlaces->Ky,sliceAdjust->Lo,sliceApplied->MB
open PySem.Builtin.SmallTypes renaming nextOf->Ju,ownedTupleIsFree->Jy,ownedTupleHandOut->LA
open PySem.Builtin.Tuple renaming tupleExact->Kf,tupleTooMany->Mz,tupleItemsOf->MA
open PySem.Calls renaming spliced_cons->Ks,callWith_builtin->Kt,evalArgs_plain->KL,spliced_nil->Le,Name_function_global->Nh
open PySem.Code renaming isFrame->NS
open PySem.Expr renaming Call->NM
open PySem.F renaming plainAttrs_list->J8,slot_zip_next->Kk,slot_tuple_mul->Kp,slot_NoneType_hash->KG,slot_tuple_iterator_next->KR,slot_dict_pop->Lf,slot_list_getattribute->Lh,slot_int_rmul->Lz,args_tuple_mul_2->LI,args_tuple_add_2->LJ,entry_tuple_mul->LN,entry_tuple_add->LO,slot_tuple_add->LW,args_zip_next_1->LZ,slot_zip_getattribute->Me,entry_zip_next->Mg,slot_list_append->Ms,slot_list_pop->MP,slot_tuple_index->Nd,slot_list_insert->Ng,slot_tuple_rmul->Ni,slot_list_index->Nj,slot_list_count->Nk,plainAttrs_dict->Nl,args_dict_pop_3->Nm,entry_dict_pop->Nz,args_tuple_iterator_next_1->NA,type_dict_pop->ND,entry_tuple_iterator_next->NF,slot_list_extend->NZ,args_dict_init_2->N0,entry_dict_init->Ob,args_int_rmul_2->Oc,slot_int_index->Om,entry_int_rmul->Oo,slot_enumerate_next->Oz,fills_int_mul->OA
open PySem.Heap renaming get?_push_of_some->Jb,lt_size->Jh,get?_push_size->Jk,size_push->JP,SameBut->Ku,ExtBut->M7,get?_update_other->NR,get?_update_self->NY
open PySem.Heap.DictOf renaming new->My
open PySem.Heap.SameBut renaming update->Nc
open PySem.Manifest renaming find?->Oy
open PySem.Obj renaming mapSeq->MH
open PySem.Paired renaming length->Ke
open PySem.PyData renaming hasDict->J6,depth->Lr,shownAll->L7,showable->L8,showableAll->Mu,hasDictAll->ME,depthAll->MS,noDict_hsm->Ol
open PySem.SeqAt renaming EqAt->L6,RcNeAt->NK,RcAt->Oj
open PySem.SeqAt.EqAt renaming bool_bool->LY,str_none->Nv,none_str->Nw,none_int->Nx,int_none->Ny,str_int->NB,int_str->NC
open PySem.SeqAt.RcAt renaming lists_lengths->MR,tuples->NL,lists->NQ
open PySem.Shared renaming heap->NP
open PySem.Str renaming ofString->JH,empty->NO
open PySem.Value renaming ref->Jv,bool->JV,none->Kr,int->Kx,str->LV,type->Nb,builtin->Nu,float->NX
open PySem.Value.ref renaming inj->Ox
open PySem.W renaming Frag->Jd,findIn->JN,hasDictIn->JO,mg_none_of->JX,nsIn->JY,keepIn->J4,mroIn->Kd,mg_of->Kq,kia_one->KH,emptyDict->KQ,typeIn->La,fnOf->Lq,kitOne->Lv,instObj->LL,plainGet->LM,callWith_K->Mo,plainOver->Mx,makesIn->MD,codeIn->MZ,hideAll->Na,plainGet_of->NW,excIn->Oi
open Std.Legacy renaming Range->NN
open String renaming reduceBEq->LQ
open Sum renaming inr->Jx,inl->Kb
open Sum.inr renaming inj->NI
open True renaming intro->Ka
open Bool renaming false->eo
open Option renaming some->al,none->ee
open PyProof.Rows renaming AllBare->Qi,IsTup->QR,subscriptTail_builtinR->Rk,IntsAre->Rr,Call_->RD
open PySem renaming wpAny_bind->cv,Value->c0,Shared->c8,Addr->eg,wpAny_pure->eC,wpAny->eH,starEach->fe,model->fm,mainGlobals->fv,Expr->fx,Program->fy,bootBuiltins->g4,eval->g5,wpAny_field->hD,FuncData->hI,World->h7,backTo->ik,Heap->i5,Around->j0,builtinLookup_eq_fast->kc,wpAny_call_entry->kl,wpAny_setField_rec->kr,wpAny_mono->kB,compareOp->md,wpAny_seqItems->mu,attributeBase->n7,binaryOp->ot,wpAny_loadPart'->ox,call_meets->pa,IsPair->pt,wpAny_holding->pw,typeLookup_type->py,wpAny_Call_Name_kw->p5,Stmt->q0,wpAny_newObj_type->ra,swapsWith->rc,foldedSetIterable->rg,cLine->rz,wpAny_execs_nil->r0,holding->vr,wpAny_attempt->wh,rawInt->x5,isSubtype_type->z4,sysModules->z5,pyNext->KB,assignEach->KE,Keyword->KM,wpAny_passesOwn->No,backToKw->NE,wpAny_rule->On,typeLookup->Op,codeAny_mono->Os,Scope->Pi,codeAny_builtin->Ps,wpAny_of_eq->Pv,wpAny_typeOf->PP,codeAny->P3,wpAny_isInstance->P8,sliceBounds->P9,wpAny_specialOf->Qa,field->Qb,getMethod->Qc,stored->Qd,getattributeRaised->Qe,IsZip->Qf,standAt->Qg,relabel->Qh,typeOf->Qj,plainId_quiet->Qk,Paired->Ql,wpAny_execs_cons->Qm,checkBuiltinCall->Qn,Operator->Qo,valueAt->Qp,getItem->Qq,PlainAttrs->Qr,letOwnedTupleGo->Qs,wpAny_updateSeq_pair->Qt,sizeLine_eq->Qu,isSubtype_stop->Qv,firstArgMember->Qw,entryFor->Qx,codeAny_call_builtin->Qy,assign->Qz,IsPart->QA,wpAny_dictSet_pairs->QB,behindInMarks->QC,wpAny_call->QD,typeIs_int->QE,tupleKind_room_in1->QF,closureFor->QG,argsOk->QH,wpAny_truthy_bool->QI,wpAny_pyIter_list->QJ,getAttr?->QK,callerA->QL,callWith->QM,noFill_tuple_add->QN,Model->QP,setItem->QS,BindsTo->QT,wpAny_newTuple->QU,isInstance->QW,entryFor_alias->QY,bindArgs->QZ,atKey->Q0,Slot->Q1,Result->Q3,NameKind->Q4,Meets->Q5,wpAny_binaryOp_repeat_ref->Q7,wpAny_standAt->Q8,wpAny_comprehension_free->Q9,seq_tuple_add->Ra,tupleKind->Rb,seqItems?->Rc,seqIndex?->Re,bindL->Rf,bindC->Rg,PassesOwn->Rh,wpAny_pyNext_list_item->Ri,wpAny_Call_method_late->Rj,seqIndex_neg->Rl,isTrue->Rn,concat_meets->Ro,callType_new->Rq,wpAny_pyNext_list_end->Rs,codeAny_handlers_test->Rt,wpAny_raiseAttrError->Ru,wpAny_loadName_local->Rv,wpAny_letGo->Rx,table->Ry,setField->Rz,seqIndex_of->RA,loadIfAlive->RC
open PySem.W renaming looks_mroIn->QO,findIn->QX,Looks->Q6,looks_findIn->Rm,mroIn->RB
abbrev RM:=List Int
abbrev RN:=List PySem.Str
abbrev RO:=List c0
abbrev RP:=List eg
abbrev RQ:=List fx
abbrev RS:=List q0
abbrev RT:=c0->c8->Prop
abbrev RU:=List (eg×PySem.Obj)
abbrev RV:=PySem.Str->Option c0
abbrev RW:=Array c0
namespace L2
open PySem PySem.Spec PyProof.Rows
variable{C a b dx f:eg}{A:j0}{X:Cx}{c e tg:fx}{fd:hI}{o:HO}{base h h':i5}{H H':Hp}{K:Jd}{RE:RU}{kw:List (Str×c0)}{ch fp:RP}{es:RQ}{body:RS}{N ps:RN}{us:RO}{M:QP}{i t':Nat}{op:Qo}{p pos pos':Pos}{P:fy}{r:R2}{s:c8}{sp:Sp}{Y:St}{m x:Str}{mA mg:RV}{t:TA}{ta tb te:TE}{u:c0}{E Q:RT}{w:h7}{CX:k_}
abbrev ax:=Sum Int Str
def kA:ax->c0->Bool
 |.inl k,v=>Value.isInt k v
 |.inr x,v=>Value.isStrOf x v
def Gu(w:h7):ax->Int
 |.inl k=>hashInt k
 |.inr x=>hashStr w x
theorem aM:∀{k:ax}{v:c0},kA k v=true->(∃i t,k=Kb i/\v=Kx i t)\/(∃x t,k=Jx x/\v=LV x t)
 |.inl i,v,h=>by
  obtain⟨t,e⟩:=Value.isInt_shape (k:=i) (v:=v) h;exact .inl ⟨i,t,rfl,e⟩
 |.inr x,v,h=>by
  obtain⟨t,e⟩:=Value.isStrOf_shape (x:=x) (v:=v) h;exact .inr ⟨x,t,rfl,e⟩
theorem vS(i:Int)(t:Tok):kA (.inl i) (.int i t)=true:=by simp[kA,Value.isInt]
theorem vx(x:Str)(t:Tok):kA (.inr x) (.str x t)=true:=by simp[kA,Value.isStrOf]
theorem G3(a b:Int):decide ((Kb a:ax)=Kb b)=(a==b):=by
 by_cases e:a=b
 .subst e;simp
 .have h:¬(Kb a:ax)=Kb b:=λq=>e (Sum.inl.inj q)
  rw[decide_eq_false h];exact(beq_eq_false_iff_ne.mpr e).symm
theorem FL(a b:Str):decide ((Jx a:ax)=Jx b)=decide (a=b):=by
 by_cases e:a=b
 .subst e;simp
 .have h:¬(Jx a:ax)=Jx b:=λq=>e (NI q)
  rw[decide_eq_false h,decide_eq_false e]
theorem Ft(a:Int)(b:Str):decide ((Kb a:ax)=Jx b)=false:=decide_eq_false (λq=>nomatch q)
theorem Eu(a:Str)(b:Int):decide ((Jx a:ax)=Kb b)=false:=decide_eq_false (λq=>nomatch q)
def aE(prog:fy)(w:h7):PySem.KeyKind prog w ax where
 is:=kA
 hash:=Gu w
 inj:=λv a b q l=>by
  rcases aM q with⟨i,t,rfl,rfl⟩|⟨x,t,rfl,rfl⟩
  .rcases aM l with⟨j,u,rfl,e⟩|⟨y,u,rfl,e⟩
   .injection e with e1 _;rw[e1]
   .exact nomatch e
  .rcases aM l with⟨j,u,rfl,e⟩|⟨y,u,rfl,e⟩
   .exact nomatch e
   .injection e with e1 _;rw[e1]
 byValue:=λk v h=>by
  rcases aM h with⟨i,t,rfl,rfl⟩|⟨x,t,rfl,rfl⟩<;>rfl
 pyHash:=λg h=>by
  rcases aM g with⟨i,t,rfl,rfl⟩|⟨x,t,rfl,rfl⟩
  .exact wpAny_pyHash_int h
  .exact wpAny_pyHash_str h
 eqBool:=λn g h=>by
  rcases aM n with⟨i,t,rfl,rfl⟩|⟨x,t,rfl,rfl⟩
  .rcases aM g with⟨j,u,rfl,rfl⟩|⟨y,u,rfl,rfl⟩
   .rw[G3]at h;exact wpAny_eqBool_int h
   .rw[Ft]at h;exact NC i t y u _ _ _ _ h
  .rcases aM g with⟨j,u,rfl,rfl⟩|⟨y,u,rfl,rfl⟩
   .rw[Eu]at h;exact NB x t j u _ _ _ _ h
   .rw[FL]at h;exact wpAny_eqBool_str h
 «strs»:=λk x t v h=>by
  rcases aM h with⟨i,u,rfl,e⟩|⟨y,u,rfl,e⟩
  .exact nomatch e
  .injection e with e1 _
   subst e1;cases v<;>rfl
theorem pG(prog:fy)(w:h7)(i:Int)(t:Tok):(aE prog w).is (.inl i) (.int i t)=true:=vS i t
theorem pJ(prog:fy)(w:h7)(x:Str)(t:Tok):(aE prog w).is (.inr x) (.str x t)=true:=vx x t
inductive V where
 |non|bl (b:Bool)|int (i:Int)|str (x:Str)|byt (b:Array UInt8)|flt (b:UInt64)|ref (a:eg)|ty (n:String)
 deriving DecidableEq
def RelV:V->c0->Prop
 |.non,u=>u=Kr
 |.bl b,u=>u=JV b
 |.int i,u=>∃t,u=Kx i t
 |.str x,u=>∃t,u=LV x t
 |.byt b,u=>∃t,u=Value.bytes b t
 |.flt b,u=>∃t,u=NX b t
 |.ref a,u=>u=Jv a
 |.ty n,u=>u=Nb n
abbrev Vals:List V->List c0->Prop:=Ql RelV
theorem Vals.length{xs:List V}(r:Vals xs us):xs.length=us.length:=Ke r
theorem Vals.get:∀{xs:List V}{us:RO}{i:Nat}{x:V},Vals xs us->xs[i]?=al x->∃u,us[i]?=al u/\RelV x u
 |_,_,_,_,.nil,e=>by simp at e
 |_,_,0,_,.cons r _,e=>by simp at e;subst e;exact⟨_,rfl,r⟩
 |_,_,i+1,x,.cons _ t,e=>by
  obtain⟨u,g,j⟩:=Vals.get (i:=i) (x:=x) t (by simpa using e)
  exact⟨u,by simpa using g,j⟩
theorem Vals.set{x:V}{u:c0}(r:RelV x u):∀{xs:List V}{us:RO}(i:Nat),Vals xs us->Vals (xs.set i x) (us.set i u)
 |_,_,_,.nil=>.nil
 |_,_,0,.cons _ t=>.cons r t
 |_,_,i+1,.cons q t=>.cons q (Vals.set r i t)
theorem Vals.append:∀{xs ys:List V}{us g:RO},Vals xs us->Vals ys g->Vals (xs++ys) (us++g)
 |_,_,_,_,.nil,s=>s
 |_,_,_,_,.cons r t,s=>.cons r (Vals.append t s)
theorem Vals.take:∀{xs:List V}{us:RO}(n:Nat),Vals xs us->Vals (xs.take n) (us.take n)
 |_,_,0,_=>.nil
 |_,_,_+1,.nil=>.nil
 |_,_,n+1,.cons r t=>.cons r (Vals.take n t)
theorem Vals.drop:∀{xs:List V}{us:RO}(n:Nat),Vals xs us->Vals (xs.drop n) (us.drop n)
 |_,_,0,r=>r
 |_,_,_+1,.nil=>.nil
 |_,_,n+1,.cons _ t=>Vals.drop n t
def RelO:Option V->Option c0->Prop
 |some v,al u=>RelV v u
 |none,ee=>True
 |_,_=>False
def KV{κ:Type}:List (κ×V)->List (κ×c0)->Prop:=Ql λ(p:κ×V)(q:κ×c0)=>p.1=q.1/\RelV p.2 q.2
def kV:ax->V
 |.inl i=>.int i
 |.inr x=>.str x
inductive HO where
  |lst (xs:List V)
  |tup (xs:List V)
  |dK (RG:List (ax×V))|dT (RG:List (List ax×V))
  |set (S:Int->Bool) (n:Nat)
  |ins (C dx:eg) (fs:List (Str×V))
  |own (x:eg)
  |xd (fs:List (Str×V))
  |met (f x:eg)
  |rng (lo hi:Int)
  |frz (o:Obj) (u:HO)
  |tbl (ps:RW)
  |ext (φ:i5->Prop)
abbrev Hp:=eg->Option HO
def upd(H:Hp)(a:eg)(o:HO):Hp:=λb=>if b=a then al o else H b
theorem upd_same:upd H a o a=al o:=by unfold upd;rw[if_pos rfl]
theorem az(h:b≠a):upd H a o b=H b:=by unfold upd;rw[if_neg h]
theorem HY{u:HO}(h:H a=al o)(h':H b=al u)(d:o≠u):a≠b:=by
 intro e;subst e;rw[h]at h';exact d (JT h')
theorem aQ(h:H a=al o)(h':H b=ee):a≠b:=by
 intro e;subst e;rw[h]at h';cases h'
section
variable(P:fy)(w:h7)
def ObjOk(H:Hp)(h:i5)(a:eg):HO->Prop
 |.lst xs=>xs.length<=sizeLine/\∃(RK:RO)(n:Nat),Vals xs RK/\h.get? a=al { cls:=.type "list",data:=.seq RK.toArray n }
 |.tup xs=>xs.length<=sizeLine/\∃RK:List c0,Vals xs RK/\∃o,h.get? a=al o/\(o.cls=.type "tuple"/\∃n,o.data=.seq RK.toArray n)/\o.dict=ee
 |.dK RG=>RG.length<=sizeLine/\(a==z5)=eo/\∃vs,KV RG vs/\h.DictOf (aE P w) a vs
 |.dT RG=>RG.length<=sizeLine/\(a==z5)=eo/\∃xs:List (List ax×eg×c0),
   Ql (λ(p:List ax×V)(q:List ax×eg×c0)=>p.1=q.1/\H q.2.1=al (.tup<|p.1.map kV)/\RelV p.2 q.2.2) RG xs/\
   ∃o es ep,h.get? a=al o/\o.ExactDict/\o.data=.dict es ep/\es.toList=xs.map (entryOfKey<|tupleKind<|aE P w)/\(xs.map (·.1)).Nodup
 |.set S n=>h.SetOf (intKind P w) a S n
 |.ins C dx fs=>H dx=al (.own a)/\fs.length<=1000/\dx≠a/\h.get? a=al (LL C dx)/\
   ∃mA,h.Ns1 dx mA/\(∀f,RelO (fs.lookup f) (mA f))/\NJ mA (fs.map (·.1))
 |.own _=>∃o,h.get? a=al o
 |.xd fs=>∃mA,h.Ns1 a mA/\∀f,RelO (fs.lookup f) (mA f)
 |.rng lo hi=>∃t u v,h.get? a=al { cls:=.type "range",data:=.fields #[.int lo t,.int hi u,.int 1 v] }
 |.frz o u=>h.get? a=al o/\ObjOk H h a u
 |.tbl ps=>h.get? a=al { cls:=.none,data:=.fields ps }
 |.met f x=>h.get? a=al (W.methodObj (.ref f)<|.ref x)
 |.ext φ=>φ h/\(∃o,h.get? a=al o)/\∀h1 h2:i5,φ h1->(∀o,h1.get? a=al o->h2.get? a=al o)->φ h2
def HOk(H:Hp)(h:i5):Prop:=∀a o,H a=al o->ObjOk P w H h a o
end
section
theorem ObjOk.lt(x:ObjOk P w H h a o):a<h.objs.size:=by
 cases o with
 |lst xs=>obtain⟨_,_,_,_,e⟩:=x;exact Jh e
 |tup xs=>obtain⟨_,_,_,_,e,_⟩:=x;exact Jh e
 |dK RG=>obtain⟨_,_,_,_,o,_,_,e,_⟩:=x;exact Jh e
 |dT RG=>obtain⟨_,_,_,_,o,_,_,e,_⟩:=x;exact Jh e
 |set S n=>obtain⟨o,_,_,_,e,_⟩:=x;exact Jh e
 |ins C dx fs=>obtain⟨_,_,_,e,_⟩:=x;exact Jh e
 |own y=>obtain⟨_,e⟩:=x;exact Jh e
 |xd fs=>obtain⟨_,⟨_,_,_,e,_⟩,_⟩:=x;exact Jh e
 |rng lo hi=>obtain⟨_,_,_,e⟩:=x;exact Jh e
 |frz ob u=>obtain⟨e,_⟩:=x;exact Jh e
 |tbl ps=>exact Jh (show h.get? a=al _ from x)
 |met f y=>exact Jh (show h.get? a=al _ from x)
 |ext φ=>obtain⟨_,⟨_,e⟩,_⟩:=x;exact Jh e
theorem cK{α g:Type}{F G:α->g->Prop}:∀{l₁:List α}{l₂:List g},Ql F l₁ l₂->(∀a b,F a b->G a b)->Ql G l₁ l₂
 |_,_,.nil,_=>.nil
 |_,_,.cons r t,f=>.cons (f _ _ r) (cK t f)
theorem ObjOk.stay(x:ObjOk P w H h a o)(k:∀b u,(b=a\/H b=al (.own a))->h.get? b=al u->h'.get? b=al u)(J:∀b,H b=al (.own a)->H' b=al (.own a))(L:∀b xs,H b=al (.tup xs)->H' b=al (.tup xs)):ObjOk P w H' h' a o:=by
 induction o with
 |lst xs=>obtain⟨z,l,n,r,e⟩:=x;exact⟨z,l,n,r,k _ _ (.inl rfl) e⟩
 |tup xs=>obtain⟨z,l,r,g,e,c⟩:=x;exact⟨z,l,r,g,k _ _ (.inl rfl) e,c⟩
 |dK RG=>obtain⟨z,y,G,r,g,es,j,e,c⟩:=x;exact⟨z,y,G,r,g,es,j,k _ _ (.inl rfl) e,c⟩
 |dT RG=>
  obtain⟨z,y,xs,r,g,es,j,e,c⟩:=x;exact⟨z,y,xs,cK r λp q z=>⟨z.1,L _ _ z.2.1,z.2.2⟩,g,es,j,k _ _ (.inl rfl) e,c⟩
 |set S n=>obtain⟨g,es,j,t,e,c⟩:=x;exact⟨g,es,j,t,k _ _ (.inl rfl) e,c⟩
 |ins C dx fs=>
  obtain⟨d,z,ne,e,mA,⟨B,es,j,I,c⟩,r⟩:=x;exact⟨J _ d,z,ne,k _ _ (.inl rfl) e,mA,⟨B,es,j,k _ _ (.inr d) I,c⟩,r⟩
 |own y=>obtain⟨g,e⟩:=x;exact⟨g,k _ _ (.inl rfl) e⟩
 |xd fs=>obtain⟨mA,⟨B,es,j,e,c⟩,r⟩:=x;exact⟨mA,⟨B,es,j,k _ _ (.inl rfl) e,c⟩,r⟩
 |rng lo hi=>obtain⟨t,u,v,e⟩:=x;exact⟨t,u,v,k _ _ (.inl rfl) e⟩
 |frz g u ih=>obtain⟨e,q⟩:=x;exact⟨k _ _ (.inl rfl) e,ih q⟩
 |tbl ps=>
  have e:h.get? a=al { cls:=.none,data:=.fields ps }:=x;show h'.get? a=al { cls:=.none,data:=.fields ps };exact k a _ (.inl rfl) e
 |met f y=>
  have e:h.get? a=al (W.methodObj (.ref f)<|.ref y):=x;show h'.get? a=al (W.methodObj (.ref f)<|.ref y);exact k a _ (.inl rfl) e
 |ext φ=>obtain⟨p,⟨o,e⟩,F⟩:=x;exact⟨F _ _ p λo q=>k _ _ (.inl rfl) q,⟨o,k _ _ (.inl rfl) e⟩,F⟩
theorem HOk.lt(x:HOk P w H h)(e:H a=al o):a<h.objs.size:=(x a o e).lt
theorem HOk.fresh(x:HOk P w H h)(e:h.objs.size<=a):H a=none:=by
 cases q:H a with
 |none=>rfl
 |some u=>exact absurd (Jn (x.lt q) e) (JW _)
theorem HOk.kept(x:HOk P w H h)(k:∀b u,h.get? b=al u->h'.get? b=al u):HOk P w H h':=λa o e=>
 (x a o e).stay (λb u _ q=>k b u q) (λ_ q=>q) λ_ _ q=>q
theorem HOk.laid(x:HOk P w H h)(k:∀b u,h.get? b=al u->h'.get? b=al u)(l:h.objs.size<=a)(new:ObjOk P w (upd H a o) h' a o):HOk P w (upd H a o) h':=λb u e=>by
 have g:=x.fresh l
 by_cases j:b=a
 .subst j;rw[upd_same]at e;cases e;exact new
 .rw[az j]at e
  exact(x b u e).stay (λc v _ q=>k c v q) (λc q=>by rw[az (aQ q g)];exact q) λc n q=>by rw[az (aQ q g)];exact q
end
def Rd(H:Hp)(a:eg)(u:HO):Prop:=H a=al u\/∃o,H a=al (.frz o u)
theorem Rd.ok{u:HO}(r:Rd H a u)(x:HOk P w H h):ObjOk P w H h a u:=by
 rcases r with r|⟨o,r⟩
 .exact x a u r
 .obtain⟨_,q⟩:=x a _ r
  exact q
def GO:Option HO->Prop
 |some (.lst _)=>True
 |some (.dK _)=>True
 |some (.dT _)=>True
 |some (.set _ _)=>True
 |some (.ins _ _ _)=>True
 |some (.ext _)=>True
 |_=>False
section
variable{x e:eg}{o':HO}
theorem HOk.write(ok:HOk P w H h)(F:GO (H x))(J:e=x\/H e=al (.own x))(k:∀b u,b≠e->h.get? b=al u->h'.get? b=al u)(G:∃u,h'.get? e=al u)(new:ObjOk P w (upd H x o') h' x o'):HOk P w (upd H x o') h':=λb u q=>by
 have j:∀c y,H c=al (.own y)->c≠x:=λc y r z=>by subst z;rw[r]at F;exact F
 have l:∀c n,H c=al (.tup n)->c≠x:=λc n r z=>by subst z;rw[r]at F;exact F
 by_cases B:b=x
 .subst B;rw[upd_same]at q;cases q;exact new
 .rw[az B]at q
  by_cases g:b=e
  .have I:H b=al (.own x):=by
    rcases J with z|z
    .exact absurd (g.trans z) B
    .rw[g];exact z
   rw[q]at I;cases I;obtain⟨v,L⟩:=G;exact⟨v,by rw[g];exact L⟩
  .refine (ok b u q).stay (λc v hc r=>k c v ?_ r) (λc r=>by rw[az (j c b r)];exact r) λc n r=>by rw[az (l c n r)];exact r
   rcases hc with rfl|hc
   .exact g
   .rintro rfl
    rcases J with z|z
    .exact j c b hc z
    .rw[hc]at z;cases z;exact B rfl
end
structure Un(fs ex:RP)(H H':Hp)(h h':i5):Prop where
 keep:∀b o,h.get? b=al o->H b=ee->b∉fs->b∉ex->h'.get? b=al o
 slot:∀b o,h.get? b=al o->H b=ee->b∈fs->b∉ex->∃sl,h'.get? b=al { o with slots:=sl }
 free:∀b o,h.get? b=al o->H b=ee->b∉ex->H' b=ee
 there:∀b o,h.get? b=al o->b∉ex->∃o',h'.get? b=al o'
 tups:∀b xs,H b=al (.tup xs)->H' b=al (.tup xs)
 frzs:∀b o u,H b=al (.frz o u)->H' b=al (.frz o u)
 tbls:∀b ps,H b=al (.tbl ps)->∃more,H' b=al (.tbl (ps++more))
section
variable{fs fs' ex ex':RP}{H1 H2:Hp}{h1 h2:i5}{x e:eg}
theorem Un.any(u:Un fs ex H H1 h h1){g:Obj}(q:h.get? b=al g)(n:H b=ee)(l:b∉ex):∃v,h1.get? b=al { g with slots:=v }:=by
 by_cases j:b∈fs
 .exact u.slot b g q n j l
 .exact⟨g.slots,u.keep b g q n j l⟩
theorem Un.kept(k:∀b u,h.get? b=al u->h'.get? b=al u):Un fs ex H H h h':=
 ⟨λb g q _ _ _=>k b g q,λb g q _ _ _=>⟨g.slots,k b g q⟩,λ_ _ _ n _=>n,λb g q _=>⟨g,k b g q⟩,λ_ _ q=>q,λ_ _ _ q=>q,λ_ ps q=>⟨#[],by rw[q];simp⟩⟩
theorem uY:Un fs ex H H h h:=Un.kept λ_ _ q=>q
theorem Un.laid(k:∀b u,h.get? b=al u->h'.get? b=al u)(l:h.objs.size<=a)(g:H a=ee):Un fs ex H (upd H a o) h h' where
 keep:=λb u q _ _ _=>k b u q
 slot:=λb u q _ _ _=>⟨u.slots,k b u q⟩
 free:=λb u q n _=>by rw[az (Jo<|Jn (Jh q) l)];exact n
 there:=λb u q _=>⟨u,k b u q⟩
 tups:=λb j q=>by rw[az (aQ q g)];exact q
 frzs:=λb u j q=>by rw[az (aQ q g)];exact q
 tbls:=λb ps q=>⟨#[],by rw[az (aQ q g),q];simp⟩
theorem Un.write(j:GO (H x))(G:e=x\/H e=al (.own x))(k:∀b u,b≠e->h.get? b=al u->h'.get? b=al u)(v:∃u,h'.get? e=al u):Un fs ex H (upd H x o) h h':=by
 have y:∀b,H b=ee->b≠x:=λb n z=>by subst z;rw[n]at j;exact j
 have B:∀b,H b=ee->b≠e:=λb n z=>by
  subst z;rcases G with r|r
  .exact y b n r
  .rw[n]at r;cases r
 have l:∀b u,H b=al u->¬GO (al u)->b≠x:=λb u q nm z=>by subst z;rw[q]at j;exact nm j
 refine⟨λb u q n _ _=>k b u (B b n) q,λb u q n _ _=>⟨u.slots,k b u (B b n) q⟩,λb u q n _=>by rw[az (y b n)];exact n,λb u q _=>?_,
  λb F q=>by rw[az (l b _ q λz=>z)];exact q,λb u F q=>by rw[az (l b _ q λz=>z)];exact q,λb ps q=>⟨#[],by rw[az (l b _ q λz=>z),q];simp⟩⟩
 by_cases g:b=e
 .subst g;exact v
 .exact⟨u,k b u g q⟩
end
def trk(h:i5)(H:Hp):List Addr:=(Km h.objs.size).filter λa=>(H a).isSome
def nO(h:i5)(H:Hp):Heap:=Na h (trk h H)
theorem wj(h:i5)(H:Hp):(nO h H).objs.size=h.objs.size:=W.hideAll_size _ _
theorem z6{o:Obj}(e:h.get? b=al o)(n:H b=ee):(nO h H).get? b=al o:=
 W.hideAll_get _ e λg=>by
  have q:(H b).isSome=true:=(JQ.mp g).2;rw[n]at q;simp at q
theorem C3{o:Obj}(e:(nO h H).get? b=al o):h.get? b=al o/\H b=none:=by
 have g:h.get? b=al o:=W.of_hideAll (trk h H) e;refine⟨g,?_⟩;cases q:H b with
 |none=>rfl
 |some x=>
  have j:b∈trk h H:=JQ.mpr ⟨Mp.mpr (Jh g),by simp[q]⟩
  have z:(nO h H).get? b=none:=W.hideAll_none (trk h H) j;rw[z]at e;cases e
structure Mod(K:Jd)(mg:RV)(base:i5):Prop where
 kin:K.In base
 glob:base.Ns fv mg
 blt:∃mb,base.Ns builtinsNs mb/\∀x:Str,x≠"__name__"->mb x=g4 x
 nolimit:base.NoLimit
structure Cx where
 prog:fy
 w:h7
 K:Jd
 mg:Str->Option c0
 base:i5
 A:j0
 N:List Str
 s₀:c8
 H₀:Hp
 env:Env
 outer:List Env
 stack:List Env
 ex:List eg
 fn:Str->Bool
 calm:Bool
 pn:List (eg×Obj)
 xe:c0->c8->Prop
def dL(l:List Env):List Addr:=l.filterMap (·.frame)
abbrev Cx.fs(X:Cx):List Addr:=dL X.outer
def Gj(sc:Pi)(x:Str):Prop:=sc.names.lookup x=al .local\/sc.names.lookup x=al .cell\/sc.names.lookup x=al .free
def qD(sc:Pi)(x:Str):Prop:=sc.names.lookup x=al .local\/sc.names.lookup x=al .cell
def Look(env:Env)(h:i5)(m:RV)(x:Str)(u:c0):Prop:=
 (env.kindOf x=al .local/\m x=al u)\/((env.kindOf x=al .cell\/env.kindOf x=al .free)/\∃c,env.cells.lookup x=al c/\h.IsCell c (al u))
structure Cx.Ok(X:Cx):Prop where
 mod:Mod X.K X.mg X.base
 kind:X.env.scope.kind=.function
 glob:X.env.globals=fv
 blt:X.env.builtins=builtinsNs
 above:X.s₀.heap.objs.size<=X.env.locals
 inj:∀x y c,X.env.cells.lookup x=al c->X.env.cells.lookup y=al c->x=y
 has:∀x,(X.env.kindOf x=al .cell\/X.env.kindOf x=al .free)->∃c,X.env.cells.lookup x=al c
 cab:∀x c,X.fn x=true->X.env.cells.lookup x=al c->X.s₀.heap.objs.size<=c
 hd:X.calm=true->X.A.handled=ee
 frames:X.A.frames=al X.stack
 stk:X.stack=X.outer\/(X.stack=X.env::X.outer/\X.env.frame=al X.env.locals)
 exf:∀b∈X.ex,b≠X.env.locals/\∀x c,X.env.cells.lookup x=al c->c≠b
 bs:∀b o,X.base.get? b=al o->X.s₀.heap.get? b=al o/\X.H₀ b=ee
 bsz:X.base.objs.size<=X.s₀.heap.objs.size
 noex:∀b o,X.base.get? b=al o->b∉X.ex
 exfs:∀b∈X.ex,b∉X.fs
 funs:X.s₀.heap.FunFrames X.base X.outer
 frf:∀b∈X.fs,X.H₀ b=ee
structure Inv(X:Cx)(RE:RU)(Y:List (Option V))(H:Hp)(s:c8):Prop where
 ok:X.Ok
 os:s.os=X.s₀.os
 bare:Qi s.gens
 base:Un X.fs X.ex X.H₀ H X.s₀.heap s.heap
 loc:∃m,s.heap.Ns X.env.locals m/\∀(i:Nat)(x:Str)(v:V),X.N[i]?=al x->Y[i]?=al (al v)->Gj X.env.scope x->∃u,RelV v u/\Look X.env s.heap m x u
 cell:∀x c,X.env.cells.lookup x=al c->∃v,s.heap.IsCell c v
 free:H X.env.locals=ee
 freeC:∀x c,X.env.cells.lookup x=al c->H c=ee
 pin:∀p∈X.pn++RE,s.heap.get? p.1=al p.2/\H p.1=ee/\p.1≠X.env.locals/\p.1∉X.fs/\∀v,p.2.data≠.cell v
 hok:HOk X.prog X.w H s.heap
 len:Y.length=X.N.length
section
variable{Y:List (Option V)}
theorem Cx.Ok.nofr(ok:X.Ok){o:Obj}(e:X.base.get? b=al o):b∉X.fs:=λg=>by
 have:=(ok.funs.mem g).1;rw[e]at this;cases this
theorem Inv.bs(I:Inv X RE Y H s):∀b o,X.base.get? b=al o->s.heap.get? b=al o/\H b=none:=λb o e=>
 ⟨I.base.keep b o (I.ok.bs b o e).1 (I.ok.bs b o e).2 (I.ok.nofr e) (I.ok.noex b o e),I.base.free b o (I.ok.bs b o e).1 (I.ok.bs b o e).2<|I.ok.noex b o e⟩
theorem Inv.bk(I:Inv X RE Y H s):∀b o,X.base.get? b=al o->s.heap.get? b=al o:=λb o e=>(I.bs b o e).1
theorem Inv.mod(I:Inv X RE Y H s):Mod X.K X.mg X.base:=I.ok.mod
theorem Inv.kIn(I:Inv X RE Y H s):X.K.In s.heap:=I.ok.mod.kin.keeps I.bk
theorem Inv.lt(I:Inv X RE Y H s):X.env.locals<s.heap.objs.size:=let ⟨_,hn,_⟩:=I.loc;hn.lt
theorem Inv.sz(I:Inv X RE Y H s):X.s₀.heap.objs.size<=s.heap.objs.size:=JC I.ok.above (N8 I.lt)
theorem Inv.nofs(I:Inv X RE Y H s)(h:s.heap.objs.size<=a):a∉X.fs:=λj=>by
 obtain⟨_,o,g,_⟩:=I.ok.funs.mem j;exact absurd (Jn (Jh g)<|JC I.sz h) (JW _)
theorem Inv.cne(I:Inv X RE Y H s):∀x c,X.env.cells.lookup x=al c->c≠X.env.locals:=λx c e z=>by
 obtain⟨v,o,n,l⟩:=I.cell x c e;obtain⟨m,⟨y,es,q,g,j,_⟩,_⟩:=I.loc;rw[z,g]at n;cases n;rw[j]at l;cases l
theorem Inv.funs(I:Inv X RE Y H s):s.heap.FunFrames X.base X.outer:=by
 have all:∀(l:List Env),(∀b∈dL l,b∈X.fs)->X.s₀.heap.FunFrames X.base l->s.heap.FunFrames X.base l:=by
  intro l
  induction l with
  |nil=>intro _ _;trivial
  |cons env r ih=>
   intro q y;obtain⟨G,⟨L,o,g,B,J,v⟩,F⟩:=y;have n:L∈X.fs:=q L (by unfold dL;rw[Ko,g];exact Jp)
   obtain⟨O,e⟩:=I.base.slot L o J (I.ok.frf L n) n λz=>I.ok.exfs L z n;exact⟨G,⟨L,_,g,B,e,v⟩,ih (λb j=>q b (by unfold dL;rw[Ko,g];exact Jj _ j)) F⟩
 exact all X.outer (λ_ j=>j) I.ok.funs
theorem Inv.stack(I:Inv X RE Y H s):s.heap.FunFrames X.base X.stack:=by
 rcases I.ok.stk with e|⟨e,hf⟩
 .rw[e];exact I.funs
 .rw[e]
  obtain⟨m,g,_⟩:=I.loc;refine .cons (by rw[I.ok.kind];decide) hf g ?_ I.funs
  exact Heap.get?_none_of_le (JC I.ok.bsz I.ok.above)
theorem Inv.stkSub(I:Inv X RE Y H s):∀b∈dL X.stack,b∈X.env.locals::X.fs:=λb g=>by
 rcases I.ok.stk with e|⟨e,hf⟩
 .rw[e]at g;exact Jj _ g
 .rw[e]at g
  unfold dL at g;rw[Ko,hf]at g;exact g
theorem Inv.stkFree(I:Inv X RE Y H s):∀b∈dL X.stack,H b=none:=λb hb=>by
 rcases Jq.mp (I.stkSub b hb) with e|hb
 .rw[e];exact I.free
 .obtain⟨_,o,g,_⟩:=I.ok.funs.mem hb
  exact I.base.free b o g (I.ok.frf b hb) λz=>I.ok.exfs b z hb
theorem Inv.step{g':Array GenState}{t':Nat}{d':Drawn}(I:Inv X RE Y H s)(B:∀b∈ch,(b∈X.ex\/X.s₀.heap.objs.size<=b)/\b≠X.env.locals/\(∀x c,X.env.cells.lookup x=al c->c≠b)/\∀p∈X.pn++RE,p.1≠b)(keep:∀b o,b≠X.env.locals->b∉X.fs->b∉ch->s.heap.get? b=al o->H b=ee->h'.get? b=al o)(slot:∀b o,b≠X.env.locals->b∈X.fs->b∉ch->s.heap.get? b=al o->H b=ee->∃Z,h'.get? b=al { o with slots:=Z })(free:∀b o,b∉ch->s.heap.get? b=al o->H b=ee->H' b=ee)(there:∀b o,b∉ch->s.heap.get? b=al o->∃R,h'.get? b=al R)(tups:∀b J,H b=al (.tup J)->H' b=al (.tup J))(frzs:∀b o u,H b=al (.frz o u)->H' b=al (.frz o u))(tbls:∀b ps,H b=al (.tbl ps)->∃more,H' b=al (.tbl (ps++more)))(ns:∀m,s.heap.Ns X.env.locals m->h'.Ns X.env.locals m)(hok:HOk X.prog X.w H' h')(hg:Qi g'):
  Inv X RE Y H' { s with heap:=h',gens:=g',drawn:=d',toks:=t' }:=by
 have S:∀b o,X.s₀.heap.get? b=al o->b≠X.env.locals:=λb o e=>Jo (Jn (Jh e) I.ok.above);have F:∀b o,X.s₀.heap.get? b=al o->b∉X.ex->b∉ch:=λb o e g L=>by
  rcases (B b L).1 with z|z
  .exact g z
  .exact absurd (Jn (Jh e) z) (JW _)
 have y:∀x c,X.env.cells.lookup x=al c->∀v,s.heap.IsCell c v->h'.IsCell c v:=λx c e v ⟨o,O,U⟩=>by
  have j:c∉ch:=λz=>(B c z).2.2.1 x c e rfl
  by_cases hc:c∈X.fs
  .obtain⟨Z,q⟩:=slot c o (I.cne x c e) hc j O (I.freeC x c e)
   exact⟨_,q,U⟩
  .exact⟨o,keep c o (I.cne x c e) hc j O (I.freeC x c e),U⟩
 refine⟨I.ok,I.os,hg,⟨λb o e n L g=>?_,λb o e n L g=>?_,λb o e n g=>?_,λb o e g=>?_,λb J e=>tups b J (I.base.tups b J e),λb o J e=>frzs b o J (I.base.frzs b o J e),λb ps e=>?_⟩,?_,λx c e=>?_,?_,λx c e=>?_,λp hp=>?_,hok,I.len⟩
 .exact keep b o (S b o e) L (F b o e g) (I.base.keep b o e n L g) (I.base.free b o e n g)
 .obtain⟨Z,G⟩:=I.base.slot b o e n L g
  obtain⟨W,T⟩:=slot b _ (S b o e) L (F b o e g) G (I.base.free b o e n g);exact⟨W,T⟩
 .obtain⟨R,G⟩:=I.base.there b o e g
  exact free b R (F b o e g) G (I.base.free b o e n g)
 .obtain⟨R,G⟩:=I.base.there b o e g
  exact there b R (F b o e g) G
 .obtain⟨m1,G⟩:=I.base.tbls b ps e
  obtain⟨m2,T⟩:=tbls b _ G;exact⟨m1++m2,by rw[T,MC]⟩
 .obtain⟨m,hn,hl⟩:=I.loc
  refine⟨m,ns m hn,λi x v G T e3=>?_⟩;obtain⟨u,r,l⟩:=hl i x v G T e3;refine⟨u,r,?_⟩;rcases l with l|⟨k,c,e,z⟩
  .exact .inl l
  .exact .inr ⟨k,c,e,y x c e _ z⟩
 .obtain⟨v,z⟩:=I.cell x c e
  exact⟨v,y x c e v z⟩
 .obtain⟨m,⟨o,_,_,O,_⟩,_⟩:=I.loc
  exact free _ o (λz=>(B _ z).2.1 rfl) O I.free
 .obtain⟨v,o,O,U⟩:=I.cell x c e
  exact free c o (λz=>(B c z).2.2.1 x c e rfl) O (I.freeC x c e)
 .obtain⟨e,n,ne,nf,d⟩:=I.pin p hp
  have j:p.1∉ch:=λz=>(B p.1 z).2.2.2 p hp rfl;exact⟨keep p.1 p.2 ne nf j e n,free p.1 p.2 j e n,ne,nf,d⟩
theorem Inv.un{t':Nat}(I:Inv X RE Y H s)(u:Un X.fs [] H H' s.heap h')(v:HOk X.prog X.w H' h'):Inv X RE Y H' { s with heap:=h',toks:=t' }:=by
 obtain⟨m,⟨o,es,O,y,r⟩,_⟩:=id I.loc;obtain⟨J,F⟩:=u.any y I.free (by simp)
 exact I.step (g':=s.gens) (d':=s.drawn) (ch:=[]) (λ_ z=>nomatch z) (λb o _ j _ e n=>u.keep b o e n j (by simp)) (λb o _ j _ e n=>u.slot b o e n j (by simp)) (λb o _ e n=>u.free b o e n (by simp)) (λb o _ e=>u.there b o e (by simp)) u.tups u.frzs u.tbls (λL G=>by
  obtain⟨R,q,l,g,B⟩:=G;rw[y]at g;cases g;exact⟨_,q,l,F,B⟩) v I.bare
theorem Inv.call{g':Array GenState}{t':Nat}{d':Drawn}(I:Inv X RE Y H s)(u:Un (dL X.stack) ch H H' s.heap h')(B:HOk X.prog X.w H' h')(O:Qi g')(l:∀b∈ch,(b∈X.ex\/X.s₀.heap.objs.size<=b)/\b≠X.env.locals/\(∀x c,X.env.cells.lookup x=al c->c≠b)/\∀p∈X.pn++RE,p.1≠b):
  Inv X RE Y H' { s with heap:=h',gens:=g',drawn:=d',toks:=t' }:=by
 obtain⟨m,⟨o,es,T,F,r⟩,_⟩:=id I.loc;obtain⟨R,q⟩:=u.any F I.free λz=>(l _ z).2.1 rfl;exact I.step (ch:=ch) l (λb o q G g e n=>u.keep b o e n (λz=>(Jq.mp<|I.stkSub b z).elim q G) g) (λb o _ _ g e n=>u.any e n g) (λb o g e n=>u.free b o e n g) (λb o g e=>u.there b o e g) u.tups u.frzs u.tbls (λS L=>by
  obtain⟨U,y,v,j,J⟩:=L;rw[F]at j;cases j;exact⟨_,y,v,q,J⟩) B O
theorem Inv.turned{t':Nat}{it:eg}(I:Inv X RE Y H s)(k:∀b o,b≠it->s.heap.get? b=al o->h'.get? b=al o)(J:H it=ee)(l:it≠X.env.locals)(L:it∈X.ex\/X.s₀.heap.objs.size<=it)(R:∀x c,X.env.cells.lookup x=al c->c≠it)(O:∀p∈X.pn++RE,p.1≠it):Inv X RE Y H { s with heap:=h',toks:=t' }:=by
 have j:∀b u,H b=al u->b≠it:=λb u e z=>by rw[z,J]at e;cases e
 refine I.step (g':=s.gens) (d':=s.drawn) (ch:=[it]) (λb y=>?_) (λb o _ _ g e _=>k b o (λz=>g (by simp[z])) e) (λb o _ _ g e _=>⟨o.slots,k b o (λz=>g (by simp[z])) e⟩) (λ_ _ _ _ n=>n)
  (λb o g e=>⟨o,k b o (λz=>g (by simp[z])) e⟩) (λ_ _ e=>e) (λ_ _ _ e=>e) (λb ps e=>⟨#[],by rw[e];simp⟩) (λm B=>?_) (λb u e=>?_) I.bare
 .have e:b=it:=by simpa using y
  subst e;exact⟨L,l,R,O⟩
 .obtain⟨o,es,F,G,r⟩:=B
  exact⟨o,es,F,k _ o (JI l) G,r⟩
 .refine (I.hok b u e).stay (λc v g q=>k c v ?_ q) (λ_ q=>q) λ_ _ q=>q
  rcases g with z|z
  .rw[z];exact j b u e
  .exact j c _ z
theorem Inv.tok(I:Inv X RE Y H s)(t:Nat):Inv X RE Y H { s with toks:=t }:=I.un (h':=s.heap) (t':=t) uY I.hok
theorem Inv.kept{t':Nat}(I:Inv X RE Y H s)(k:∀b u,s.heap.get? b=al u->h'.get? b=al u):Inv X RE Y H { s with heap:=h',toks:=t' }:=I.un (Un.kept k) (I.hok.kept k)
theorem Inv.laid{t':Nat}(I:Inv X RE Y H s)(k:∀b u,s.heap.get? b=al u->h'.get? b=al u)(g:s.heap.objs.size<=a)(new:ObjOk X.prog X.w (upd H a o) h' a o):
  Inv X RE Y (upd H a o) { s with heap:=h',toks:=t' }:=I.un (Un.laid k g<|I.hok.fresh g) (I.hok.laid k g new)
theorem Inv.write{x e:eg}{t':Nat}(I:Inv X RE Y H s)(l:GO (H x))(j:e=x\/H e=al (.own x))(k:∀b u,b≠e->s.heap.get? b=al u->h'.get? b=al u)(g:∃u,h'.get? e=al u)(new:ObjOk X.prog X.w (upd H x o) h' x o):Inv X RE Y (upd H x o) { s with heap:=h',toks:=t' }:=I.un (Un.write l j k g) (I.hok.write l j k g new)
theorem Inv.pins_of{g:RU}(I:Inv X RE Y H s)(h:∀p∈g,s.heap.get? p.1=al p.2/\H p.1=ee/\p.1≠X.env.locals/\p.1∉X.fs/\∀v,p.2.data≠.cell v):Inv X g Y H s:=
 ⟨I.ok,I.os,I.bare,I.base,I.loc,I.cell,I.free,I.freeC,λp j=>(Mj.mp j).elim (λz=>I.pin p (Lp _ z)) (h p),I.hok,I.len⟩
theorem k8(n:N.Nodup){j:Nat}(a:N[i]?=al x)(b:N[j]?=al x):i=j:=by
 obtain⟨q,g⟩:=J2.mp a;obtain⟨v,l⟩:=J2.mp b;exact(List.getElem_inj n).mp (g.trans l.symm)
theorem kW{v:V}{Q:Unit->c8->Prop}(I:Inv X RE Y H s)(hN:X.N.Nodup)(hi:X.N[i]?=al x)(F:qD X.env.scope x)(r:RelV v u)(h:∀s',Inv X RE (Y.set i<|some v) H s'->(∃a,Ku a s.heap s'.heap/\(a=X.env.locals\/X.env.cells.lookup x=al a))->Q () s')(hf:X.fn x=true\/X.env.scope.names.lookup x=al .local:=by first|exact .inl rfl|exact .inr rfl|assumption):eH M A (storeName X.env x u) Q E s:=by
 obtain⟨m,hn,hl⟩:=id I.loc;have T:(X.env.scope.kind==.class||(X.env.scope.kind==.module&&X.env.locals != X.env.globals))=false:=by rw[I.ok.kind];rfl
 have L:i<Y.length:=by rw[I.len];exact(J2.mp hi).1
 have cne:=I.cne;have l:∀{a:eg}{h':i5},(∃o,s.heap.get? a=al o/\H a=ee)->Ku a s.heap h'->HOk X.prog X.w H h':=λ{a h'} ha g b ob e=>by
  obtain⟨_,_,G⟩:=ha;refine (I.hok b ob e).stay (λc w' hc q=>(g.2 c ?_).trans q) (λ_ q=>q) λ_ _ q=>q
  rintro rfl
  rcases hc with rfl|hc
  .rw[G]at e;cases e
  .rw[G]at hc;cases hc
 rcases F with hk|hk
 .refine wpAny_storeName_local hk hn (λh' hn' g=>?_) T
  obtain⟨oL,_,_,hoL,_⟩:=id hn;refine h _ ⟨I.ok,I.os,I.bare,⟨λb o e n O F=>?_,λb o e n O F=>?_,I.base.free,λb o e F=>?_,I.base.tups,I.base.frzs,I.base.tbls⟩,⟨_,hn',λj y v' B J e3=>?_⟩,λy c e=>?_,I.free,I.freeC,λp hp=>?_,l ⟨oL,hoL,I.free⟩ g,by simpa using I.len⟩ ⟨_,g,.inl rfl⟩
  .exact(g.2 b<|Jo<|Jn (Jh e) I.ok.above).trans (I.base.keep b o e n O F)
  .obtain⟨sl,B⟩:=I.base.slot b o e n O F
   exact⟨sl,(g.2 b<|Jo<|Jn (Jh e) I.ok.above).trans B⟩
  .obtain⟨o',B⟩:=I.base.there b o e F
   exact⟨o',(g.2 b<|Jo<|Jn (Jh e) I.ok.above).trans B⟩
  .by_cases R:j=i
   .subst R
    rw[hi]at B;cases B;rw[Lg L]at J;cases J;exact⟨u,r,.inl ⟨hk,by simp⟩⟩
   .rw[Mr (JI R)]at J
    obtain⟨u',r',q⟩:=hl j y v' B J e3;refine⟨u',r',?_⟩;rcases q with⟨k,e⟩|⟨k,c,e,z⟩
    .refine .inl ⟨k,?_⟩
     have:y≠x:=λe=>R (k8 hN B (e▸hi));simp[this,e]
    .exact .inr ⟨k,c,e,z.sameBut g<|cne y c e⟩
  .obtain⟨w',z⟩:=I.cell y c e
   exact⟨w',z.sameBut g<|cne y c e⟩
  .obtain⟨e,n,ne,nf,d⟩:=I.pin p hp
   exact⟨(g.2 p.1 ne).trans e,n,ne,nf,d⟩
 .have S:X.fn x=true:=by
   rcases hf with z|z
   .exact z
   .rw[z]at hk;cases hk
  obtain⟨c,hc⟩:=I.ok.has x (.inl hk);obtain⟨w',z⟩:=I.cell x c hc;refine wpAny_storeName_cell I.ok.kind hk hc z (λh' hc' g=>?_);obtain⟨oc,U,Z⟩:=id z;refine h { s with heap:=h' } ⟨I.ok,I.os,I.bare,⟨λb o e n O F=>?_,λb o e n O F=>?_,I.base.free,λb o e F=>?_,I.base.tups,I.base.frzs,I.base.tbls⟩,⟨m,hn.sameBut g (JI<|cne x c hc),λj y v' B J e3=>?_⟩,λy c' e=>?_,I.free,I.freeC,λp hp=>?_,l ⟨oc,U,I.freeC x c hc⟩ g,by simpa using I.len⟩ ⟨c,g,.inr hc⟩
  .exact(g.2 b<|Jo<|Jn (Jh e)<|I.ok.cab x c S hc).trans (I.base.keep b o e n O F)
  .obtain⟨sl,B⟩:=I.base.slot b o e n O F
   exact⟨sl,(g.2 b<|Jo<|Jn (Jh e)<|I.ok.cab x c S hc).trans B⟩
  .obtain⟨o',B⟩:=I.base.there b o e F
   exact⟨o',(g.2 b<|Jo<|Jn (Jh e)<|I.ok.cab x c S hc).trans B⟩
  .by_cases R:j=i
   .subst R
    rw[hi]at B;cases B;rw[Lg L]at J;cases J;exact⟨u,r,.inr ⟨.inl hk,c,hc,hc'⟩⟩
   .rw[Mr (JI R)]at J
    obtain⟨u',r',q⟩:=hl j y v' B J e3;refine⟨u',r',?_⟩;rcases q with q|⟨k,c',e,z'⟩
    .exact .inl q
    .refine .inr ⟨k,c',e,z'.sameBut g ?_⟩
     rintro rfl
     exact R (k8 hN B (I.ok.inj _ _ _ e hc▸hi))
  .by_cases W:c'=c
   .subst W;exact⟨_,hc'⟩
   .obtain⟨w2,z2⟩:=I.cell y c' e
    exact⟨w2,z2.sameBut g W⟩
  .obtain⟨e,n,ne,nf,d⟩:=I.pin p hp
   refine⟨(g.2 p.1 ?_).trans e,n,ne,nf,d⟩;intro q;rw[q,U]at e;have q':oc=p.2:=JT e;exact d w' (by rw[<- q'];exact Z)
theorem eh{v:V}{Q:Unit->c8->Prop}(I:Inv X RE Y H s)(n:X.N.Nodup)(g:X.N[i]?=al x)(j:qD X.env.scope x)(r:RelV v u)(h:∀s',Inv X RE (Y.set i<|some v) H s'->Q () s')(l:X.fn x=true\/X.env.scope.names.lookup x=al .local:=by first|exact .inl rfl|exact .inr rfl|assumption):eH M A (storeName X.env x u) Q E s:=
 kW I n g j r (λs' I' _=>h s' I') l
theorem Inv.call'{s':c8}(I:Inv X RE Y H s)(n:s'.os=s.os)(u:Un (dL X.stack) ch H H' s.heap s'.heap)(g:HOk X.prog X.w H' s'.heap)(q:Qi s'.gens)(j:∀b∈ch,(b∈X.ex\/X.s₀.heap.objs.size<=b)/\b≠X.env.locals/\(∀x c,X.env.cells.lookup x=al c->c≠b)/\∀p∈X.pn++RE,p.1≠b):Inv X RE Y H' s':=by
 obtain⟨h',g',d',t',l⟩:=s';have e:l=s.os:=n;subst e;exact I.call (g':=g') (t':=t') (d':=d') u g q j
end
abbrev XK:=c0->Option eg->Hp->Prop
abbrev St:=List (Option V)
abbrev VK:=V->Hp->Prop
abbrev TE:=St->Hp->VK->Prop
abbrev TT:=St->Hp->(Bool->Hp->Prop)->Prop
abbrev TA:=St->Hp->(List V->Hp->Prop)->Prop
structure Ends where
 nx:St->Hp->Prop
 rt:VK
 bk:St->Hp->Prop:=λ_ _=>False
 ct:St->Hp->Prop:=λ_ _=>False
abbrev TS:=Ends->St->Hp->Prop
inductive EP(X:Cx)(RE:RU)(Y:St)(Q:VK)(u:c0)(s':c8):Prop
 |mk (v:V) (H':Hp) (h0:Inv X RE Y H' s') (h1:RelV v u) (h2:Q v H'):EP X RE Y Q u s'
inductive TP(X:Cx)(RE:RU)(Y:St)(Q:Bool->Hp->Prop)(b:Bool)(s':c8):Prop
 |mk (H':Hp) (h0:Inv X RE Y H' s') (h1:Q b H'):TP X RE Y Q b s'
inductive AP(X:Cx)(RE:RU)(Y:St)(Q:List V->Hp->Prop)(us:RO)(s':c8):Prop
 |mk (vs:List V) (H':Hp) (h0:Inv X RE Y H' s') (h1:Vals vs us) (h2:Q vs H'):AP X RE Y Q us s'
def SP(X:Cx)(RE:RU)(D:Ends)(f:Flow)(s':c8):Prop:=
 match f with
 |.next=>∃σ' H',Inv X RE σ' H' s'/\D.nx σ' H'
 |.brk=>∃σ' H',Inv X RE σ' H' s'/\D.bk σ' H'
 |.cont=>∃σ' H',Inv X RE σ' H' s'/\D.ct σ' H'
 |.ret u=>∃v σ' H',Inv X RE σ' H' s'/\RelV v u/\D.rt v H'
def PE(X:Cx)(e:fx)(t:TE):Prop:=
 ∀(RE:RU)(s:c8)(Y:St)(H:Hp)(Q:VK),Inv X RE Y H s->t Y H Q->eH (fm X.prog X.w) X.A (g5 e X.env) (EP X RE Y Q) X.xe s
def PT(X:Cx)(e:fx)(t:TT):Prop:=
 ∀(RE:RU)(s:c8)(Y:St)(H:Hp)(Q:Bool->Hp->Prop),Inv X RE Y H s->t Y H Q->eH (fm X.prog X.w) X.A (Rn e X.env<|eval e X.env) (TP X RE Y Q) X.xe s
def PW(X:Cx)(e:fx)(t:TT):Prop:=
 ∀(whole:Sem c0)(RE:RU)(s:c8)(Y:St)(H:Hp)(Q:Bool->Hp->Prop),Inv X RE Y H s->t Y H Q->eH (fm X.prog X.w) X.A (Rn e X.env whole) (TP X RE Y Q) X.xe s
theorem IU{t:TT}(h:PW X e t):PT X e t:=h _
def PA(X:Cx)(es:RQ)(t:TA):Prop:=
 ∀(pos:Pos)(RE:RU)(s:c8)(Y:St)(H:Hp)(Q:List V->Hp->Prop),Inv X RE Y H s->t Y H Q->eH (fm X.prog X.w) X.A (spliced<|backTo pos<|starEach es X.env) (AP X RE Y Q) X.xe s
def PS(X:Cx)(st:q0)(t:TS):Prop:=
 ∀(RE:RU)(s:c8)(Y:St)(H:Hp)(D:Ends),Inv X RE Y H s->t D Y H->eH (fm X.prog X.w) X.A (exec st X.env) (SP X RE D) X.xe s
def qc(X:Cx)(st:RS)(t:TS):Prop:=
 ∀(RE:RU)(s:c8)(Y:St)(H:Hp)(D:Ends),Inv X RE Y H s->t D Y H->eH (fm X.prog X.w) X.A (execs st X.env) (SP X RE D) X.xe s
theorem aW{α:Type}{t:Sem α}{Q Q':α->c8->Prop}(h:eH M A t Q E s)(g:∀a s,Q a s->Q' a s):eH M A t Q' E s:=kB h g λ_ _ x=>x
section
def tVar(i:Nat):TE:=λY H Q=>∃v,Y[i]?=al (al v)/\Q v H
def tC(v:V):TE:=λ_ H Q=>Q v H
theorem EU(z:X.N[i]?=al x)(B:Gj X.env.scope x)(j:(x==("__debug__":Str))=false:=by decide)(hcd:(x==("__classdict__":Str))=false:=by decide):PE X (.Name x pos) (tVar i):=by
 intro RE s Y H Q I h;obtain⟨v,e,h⟩:=h;obtain⟨m,n,q⟩:=I.loc;obtain⟨u,r,l⟩:=q i x v z e B;have g:EP X RE Y Q u s:=⟨v,H,I,r,h⟩;rcases l with⟨hk,y⟩|⟨hk,c,hc,hcell⟩
 .exact wpAny_Name (Rv I.ok.kind hk n y g) j
 .rcases hk with hk|hk
  .exact wpAny_Name (wpAny_loadName_cell I.ok.kind hk hc hcell g) j
  .exact wpAny_Name (wpAny_loadName_free I.ok.kind hk hc hcell g hcd) j
theorem G8{i j pos}:PE X (.Constant (.int i) j pos) (tC<|.int i):=λ_ _ _ H _ I h=>wpAny_Constant_int ⟨.int i,H,I.tok _,⟨_,rfl⟩,h⟩
theorem Ix{b j pos}:PE X (.Constant (.bool b) j pos) (tC<|.bl b):=λ_ _ _ H _ I h=>Constant_bool ⟨.bl b,H,I,rfl,h⟩
theorem FV{j pos}:PE X (.Constant .none j pos) (tC .non):=λ_ _ _ H _ I h=>Constant_none ⟨.non,H,I,rfl,h⟩
theorem qN{x j pos}:PE X (.Constant (.str x) j pos) (tC<|.str x):=λ_ _ _ H _ I h=>Calls.Constant_str ⟨.str x,H,I.tok _,⟨_,rfl⟩,h⟩
def Gl(X:Cx)(x:Str):Prop:=X.env.kindOf x=al .globalImplicit
theorem cG(I:Inv X RE Y H s)(j:Gl X x)(l:X.mg x=al u)(h:Q u s)(g:(x==("__debug__":Str))=false:=by decide):eH (fm X.prog X.w) X.A (g5 (.Name x pos) X.env) Q E s:=
 Nh I.ok.kind j (Calls.loadGlobal_global (by rw[I.ok.glob];exact I.mod.glob.keeps I.bk) l h) g
theorem bW(I:Inv X RE Y H s)(l:Gl X x)(v:X.mg x=ee)(q:g4 x=al u)(h:Q u s)(n:x≠"__name__":=by decide)(hd:(x==("__debug__":Str))=false:=by decide):eH (fm X.prog X.w) X.A (g5 (.Name x pos) X.env) Q E s:=by
 obtain⟨y,g,j⟩:=I.mod.blt;exact Nh I.ok.kind l (Calls.loadGlobal_builtin (by rw[I.ok.glob];exact I.mod.glob.keeps I.bk) v (by rw[I.ok.blt];exact g.keeps I.bk) ((j x n).trans q) h) hd
theorem Bx{v:V}(j:Gl X x)(l:X.mg x=al u)(r:RelV v u)(g:(x==("__debug__":Str))=false:=by decide):PE X (.Name x pos) (tC v):=
 λ_ _ _ H _ I h=>cG I j l ⟨v,H,I,r,h⟩ g
theorem B9{v:V}(g:Gl X x)(n:X.mg x=ee)(l:g4 x=al u)(r:RelV v u)(j:x≠"__name__":=by decide)(hd:(x==("__debug__":Str))=false:=by decide):PE X (.Name x pos) (tC v):=
 λ_ _ _ H _ I h=>bW I g n l ⟨v,H,I,r,h⟩ j hd
variable{a b:fx}
variable{tA tB':TT}{rest:RQ}
def tAnd(t u:TT):TT:=λY H Q=>t Y H λc H1=>if c=true then u Y H1 Q else Q eo H1
def tOr(t u:TT):TT:=λY H Q=>t Y H λc H1=>if c=true then Q true H1 else u Y H1 Q
def tNot(t:TT):TT:=λY H Q=>t Y H λc H1=>Q (!c) H1
theorem AD(g:PT X a tA):PW X (.BoolOp .And [a] pos) tA:=by
 intro j RE s Y H Q I h;refine isTrue_and (aW (g RE s Y H Q I h) λc l e=>?_);cases c with
 |true=>exact isTrue_and_nil e
 |false=>exact e
theorem F0(g:PT X a tA):PW X (.BoolOp .Or [a] pos) tA:=by
 intro j RE s Y H Q I h;refine isTrue_or (aW (g RE s Y H Q I h) λc l e=>?_);cases c with
 |false=>exact isTrue_or_nil e
 |true=>exact e
theorem EQ(q:PT X a tA)(n:PW X (.BoolOp .And (b::rest) pos) tB'):PW X (.BoolOp .And (a::b::rest) pos) (tAnd tA tB'):=by
 intro j RE s Y H Q I h;refine isTrue_and (aW (q RE s Y H _ I h) λc l ⟨H1,I1,g⟩=>?_);cases c with
 |true=>exact n j RE l Y H1 Q I1 g
 |false=>exact⟨H1,I1,g⟩
theorem HB(q:PT X a tA)(n:PW X (.BoolOp .Or (b::rest) pos) tB'):PW X (.BoolOp .Or (a::b::rest) pos) (tOr tA tB'):=by
 intro j RE s Y H Q I h;refine isTrue_or (aW (q RE s Y H _ I h) λc l ⟨H1,I1,g⟩=>?_);cases c with
 |true=>exact⟨H1,I1,g⟩
 |false=>exact n j RE l Y H1 Q I1 g
theorem Ge(g:PT X a tA):PT X (.UnaryOp .Not a pos) (tNot tA):=by
 intro RE s Y H Q I h;exact isTrue_not (kB (g RE s Y H (λc H1=>Q (!c) H1) I h) (λc j z=>by cases z with|mk a b d=>exact⟨a,b,d⟩) λ_ _ e=>e)
def Hg(ta:TE):TE:=λY H Q=>ta Y H λx H1=>∃c,x=.bl c/\Q (.bl<|!c) H1
theorem Fv(l:PE X a ta):PE X (.UnaryOp .Not a pos) (Hg ta):=by
 intro RE s Y H Q I h;refine UnaryOp_ (aW (l RE s Y H _ I h) λv n ⟨x,H1,I1,j,g⟩=>?_);obtain⟨c,rfl,g⟩:=g;cases j;exact not_of (QI ⟨.bl (!c),H1,I1,rfl,g⟩)
def tIf(t:TT)(ta tb:TE):TE:=λY H Q=>t Y H λc H1=>if c=true then ta Y H1 Q else tb Y H1 Q
theorem zi(q:PT X c tA)(n:PE X a ta)(l:PE X b tb):PE X (.IfExp c a b pos) (tIf tA ta tb):=by
 intro RE s Y H Q I h;refine wpAny_IfExp (aW (q RE s Y H _ I h) λd g ⟨H1,I1,j⟩=>?_);cases d with
 |true=>exact n RE g Y H1 Q I1 j
 |false=>exact l RE g Y H1 Q I1 j
end
def SqL(K:Jd)(H:Hp)(a:eg)(xs:List V):Prop:=
 Rd H a (.lst xs)\/
  ∃(o:Obj)(RK:RW)(n:Nat),K.lookup a=al o/\o.cls=.type "list"/\o.dict=ee/\o.data=.seq RK n/\RK.size<=sizeLine/\Vals xs RK.toList
def fg(K:Jd)(H:Hp)(a:eg)(xs:List V):Prop:=
 Rd H a (.tup xs)\/
  ∃(o:Obj)(RK:RW)(n:Nat),K.lookup a=al o/\o.cls=.type "tuple"/\o.data=.seq RK n/\RK.size<=sizeLine/\Vals xs RK.toList
def absV:c0->Option V
 |.none=>al .non
 |.bool b=>al (.bl b)
 |.int i _=>al (.int i)
 |.str x _=>al (.str x)
 |.bytes b _=>al (.byt b)
 |.float b _=>al (.flt b)
 |.ref a=>al (.ref a)
 |.type n=>al (.ty n)
 |_=>ee
theorem RelV.abs{x:V}(r:RelV x u):absV u=al x:=by
 cases x with
 |non=>cases r;rfl
 |bl _=>cases r;rfl
 |int _=>obtain⟨t,rfl⟩:=r;rfl
 |str _=>obtain⟨t,rfl⟩:=r;rfl
 |byt _=>obtain⟨t,rfl⟩:=r;rfl
 |flt _=>obtain⟨t,rfl⟩:=r;rfl
 |ref _=>cases r;rfl
 |ty _=>cases r;rfl
theorem RelV.inj{x y:V}(r:RelV x u)(q:RelV y u):x=y:=JT (r.abs.symm.trans q.abs)
theorem Vals.inj:∀{xs ys:List V}{us:RO},Vals xs us->Vals ys us->xs=ys
 |_,_,_,.nil,.nil=>rfl
 |_,_,_,.cons r t,.cons r' t'=>by rw[r.inj r',Vals.inj t t']
section
variable{xs ys:List V}
theorem SqL.of(h:H a=al (.lst xs)):SqL K H a xs:=.inl (.inl h)
theorem Inv.list(I:Inv X RE Y H s)(h:SqL X.K H a xs):∃RK:List c0,Vals xs RK/\PlainL s.heap a RK.toArray/\xs.length<=sizeLine:=by
 rcases h with h|⟨o,RK,n,hk,hc,hd,hs,hz,r⟩
 .obtain⟨z,RK,n,r,e⟩:=h.ok I.hok
  exact⟨RK,r,⟨_,n,e,rfl,rfl,rfl⟩,z⟩
 .refine⟨RK.toList,r,⟨o,n,I.kIn a o hk,hc,hd,by simpa using hs⟩,?_⟩
  have e:=r.length;simp only[Lu]at e;lia
theorem Inv.tuple(I:Inv X RE Y H s)(h:fg X.K H a xs):∃RK:List c0,Vals xs RK/\QR s.heap a RK.toArray/\xs.length<=sizeLine:=by
 rcases h with h|⟨o,RK,n,hk,hc,hs,hz,r⟩
 .obtain⟨z,RK,r,g,e,c,_⟩:=h.ok I.hok
  exact⟨RK,r,⟨g,e,c⟩,z⟩
 .refine⟨RK.toList,r,⟨o,I.kIn a o hk,hc,n,by simpa using hs⟩,?_⟩
  have e:=r.length;simp only[Lu]at e;lia
theorem Inv.list_inj(I:Inv X RE Y H s)(h:SqL X.K H a xs)(h':SqL X.K H a ys):xs=ys:=by
 obtain⟨j,r,⟨o,n,e,_,_,d⟩,_⟩:=I.list h;obtain⟨g,v,⟨z,y,l,_,_,q⟩,_⟩:=I.list h';rw[e]at l;cases l;rw[d]at q
 injection q with d1 _
 have:j=g:=by simpa using congrArg Lx d1
 subst this;exact r.inj v
theorem Inv.tuple_inj(I:Inv X RE Y H s)(h:fg X.K H a xs)(h':fg X.K H a ys):xs=ys:=by
 obtain⟨j,r,⟨o,e,_,n,d⟩,_⟩:=I.tuple h;obtain⟨g,v,⟨z,l,_,y,q⟩,_⟩:=I.tuple h';rw[e]at l;cases l;rw[d]at q
 injection q with d1 _
 have:j=g:=by simpa using congrArg Lx d1
 subst this;exact r.inj v
end
abbrev Cx.wish(X:Cx)(E:RT):Cx:={ X with xe:=E }
abbrev Cx.nox(X:Cx):Cx:=X.wish λ_ _=>False
theorem Cx.Ok.wish(ok:X.Ok)(E:RT):(X.wish E).Ok:=
 ⟨ok.mod,ok.kind,ok.glob,ok.blt,ok.above,ok.inj,ok.has,ok.cab,ok.hd,ok.frames,ok.stk,ok.exf,ok.bs,ok.bsz,ok.noex,ok.exfs,ok.funs,ok.frf⟩
theorem Cx.Ok.unwish(ok:(X.wish E).Ok):X.Ok:=
 ⟨ok.mod,ok.kind,ok.glob,ok.blt,ok.above,ok.inj,ok.has,ok.cab,ok.hd,ok.frames,ok.stk,ok.exf,ok.bs,ok.bsz,ok.noex,ok.exfs,ok.funs,ok.frf⟩
section
theorem Inv.wish(I:Inv X RE Y H s)(E:RT):Inv (X.wish E) RE Y H s:=⟨I.ok.wish E,I.os,I.bare,I.base,I.loc,I.cell,I.free,I.freeC,I.pin,I.hok,I.len⟩
theorem Inv.unwish(I:Inv (X.wish E) RE Y H s):Inv X RE Y H s:=⟨I.ok.unwish,I.os,I.bare,I.base,I.loc,I.cell,I.free,I.freeC,I.pin,I.hok,I.len⟩
end
section
variable{st:q0}{rest:RS}{t u:TS}
def Ib:TS:=λD Y H=>D.nx Y H
def tSeq(t u:TS):TS:=λD Y H=>t { D with nx:=u D } Y H
theorem C7:qc X [] Ib:=λ_ _ Y H _ I h=>r0 ⟨Y,H,I,h⟩
theorem yX(l:PS X st t)(n:qc X rest u):qc X (st::rest) (tSeq t u):=by
 intro RE s Y H D I h;refine Qm (aW (l RE s Y H { D with nx:=u D } I h) λf j q=>?_);cases f with
 |next=>
  obtain⟨g,H',I',q⟩:=q;exact n RE j g H' D I' q
 |ret v=>exact q
 |brk=>exact q
 |cont=>exact q
theorem Am(g:PS X st t):qc X [st] t:=by
 intro RE s Y H D I h;refine Qm (aW (g RE s Y H D I h) λf j q=>?_);cases f with
 |next=>exact r0 q
 |ret v=>exact q
 |brk=>exact q
 |cont=>exact q
theorem Inv.quiet(I:Inv X RE Y H s):interactive X.env=false:=by simp[interactive,I.ok.kind]
def IJ(te:TE):TS:=λD Y H=>te Y H λ_ H1=>D.nx Y H1
theorem Be(l:PE X e te)(j:rc e ee pos.line X.env=pure false:=by rfl):PS X (.Expr e pos) (IJ te):=by
 intro RE s Y H D I h;exact wpAny_Expr_any (aW (l RE s Y H _ I h) λv n ⟨x,H1,I1,q,g⟩=>⟨Y,H1,I1,g⟩) I.quiet j
def tRet(te:TE):TS:=λD Y H=>te Y H D.rt
theorem E7(l:PE X e te):PS X (.Return (al e) pos) (tRet te):=by
 intro RE s Y H D I h;exact wpAny_Return_some (aW (l RE s Y H _ I h) λv n ⟨x,H1,I1,g,j⟩=>⟨x,Y,H1,I1,g,j⟩)
def tIfS(c:TT)(t u:TS):TS:=λD Y H=>c Y H λb H1=>if b=true then t D Y H1 else u D Y H1
theorem Iy{a b:RS}{l:TT}(v:PT X c l)(q:qc X a t)(n:qc X b u):PS X (.If c a b pos) (tIfS l t u):=by
 intro RE s Y H D I h;refine wpAny_If (aW (v RE s Y H _ I h) λd g ⟨H1,I1,j⟩=>?_);cases d with
 |true=>exact q RE g Y H1 D I1 j
 |false=>exact n RE g Y H1 D I1 j
end
abbrev TG:=V->St->Hp->(St->Hp->Prop)->Prop
abbrev Dh:=List V->St->Hp->(St->Hp->Prop)->Prop
def PG(X:Cx)(target:fx)(t:TG):Prop:=
 ∀(RE:RU)(s:c8)(Y:St)(H:Hp)(v:V)(u:c0)(Q:St->Hp->Prop),Inv X RE Y H s->RelV v u->t v Y H Q->
  eH (fm X.prog X.w) X.A (Qz target X.env u) (λ_ g=>∃σ' H',Inv X RE σ' H' g/\Q σ' H') X.xe s
def ER(X:Cx)(ts:RQ)(t:Dh):Prop:=
 ∀(RE:RU)(s:c8)(Y:St)(H:Hp)(vs:List V)(us:RO)(Q:St->Hp->Prop),Inv X RE Y H s->Vals vs us->t vs Y H Q->
  eH (fm X.prog X.w) X.A (assignInOrder ((KE ts X.env).map (·.2)) us) (λ_ g=>∃σ' H',Inv X RE σ' H' g/\Q σ' H') X.xe s
abbrev yV:=V->V->V->Hp->(Hp->Prop)->Prop
def Bl(X:Cx)(t:yV):Prop:=
 ∀(RE:RU)(s:c8)(Y:St)(H:Hp)(o i v:V)(ov iv u:c0)(Q:Hp->Prop),Inv X RE Y H s->RelV o ov->RelV i iv->RelV v u->t o i v H Q->
  eH (fm X.prog X.w) X.A (QS ov iv u) (λ_ g=>∃H',Inv X RE Y H' g/\Q H') X.xe s
abbrev Gi:=V->V->Hp->VK->Prop
def Bv(X:Cx)(op:Qo)(t:Gi):Prop:=
 ∀(RE:RU)(s:c8)(Y:St)(H:Hp)(x y:V)(v u:c0)(Q:VK),Inv X RE Y H s->RelV x v->RelV y u->t x y H Q->
  eH (fm X.prog X.w) X.A (inplaceOp op v u) (EP X RE Y Q) X.xe s
section
def CC(i:Nat):TG:=λv Y H Q=>Q (Y.set i<|some v) H
theorem Bu(n:X.N.Nodup)(j:X.N[i]?=al x)(g:qD X.env.scope x)(l:X.fn x=true\/X.env.scope.names.lookup x=al .local:=by first|exact .inl rfl|exact .inr rfl|assumption):PG X (.Name x pos) (CC i):=by
 intro RE s Y H v u Q I r h;exact wpAny_assign_Name (eh I n j g r (λq I'=>⟨_,H,I',h⟩) l)
def gNil:Dh:=λg Y H Q=>g=[]/\Q Y H
def Hs(t:TG)(u:Dh):Dh:=λj Y H Q=>∃v r,j=v::r/\t v Y H λg H'=>u r g H' Q
theorem AA:ER X [] gNil:=by
 intro RE s Y H g us Q I r h;obtain⟨e,h⟩:=h;subst e;cases r;exact assignInOrder_nil ⟨Y,H,I,h⟩
theorem zG{t:TG}{u:Dh}(q:PG X e t)(z:ER X es u)(y:(KE (e::es) X.env).map (·.2)=Qz e X.env::(KE es X.env).map (·.2):=by rfl):ER X (e::es) (Hs t u):=by
 intro RE s Y H F us Q I r h;obtain⟨v,B,n,h⟩:=h;subst n;cases r with
 |cons r rr=>
  rw[y];refine assignInOrder_cons (aW (q RE s Y H _ _ _ I r h) λ_ j ⟨g,H1,I1,l⟩=>?_);exact z RE j g H1 _ _ Q I1 rr l
def gTup(K:Jd)(n:Nat)(t:Dh):TG:=λv Y H Q=>∃a xs,v=.ref a/\fg K H a xs/\xs.length=n/\t xs Y H Q
theorem F4{k:Nat}{t:Dh}{n:Nat}(L:X.calm=true)(h:ER X es t)(J:(KE es X.env).length=n:=by rfl)(hst:(KE es X.env).findIdx? (·.1)=none:=by rfl):PG X (.Tuple es k pos) (gTup X.K n t):=by
 intro RE s Y H v u Q I r g;obtain⟨a,B,G,z,y,g⟩:=g;subst G;cases r;obtain⟨l,j,F,O⟩:=I.tuple z;refine assign_Tuple_tuple (I.ok.hd L) F (by simp[J,<- y,j.length]) hst λh' q=>?_
 have I1:Inv X RE Y H { s with heap:=h' }:=I.kept (t':=s.toks) λb o e=>q b o (Jo<|Jh e) e;exact h RE _ Y H B _ Q I1 (by simpa using j) g
def gSub(to ti:TE)(t:yV):TG:=λv Y H Q=>to Y H λo H1=>ti Y H1 λi H2=>t o i v H2 λH3=>Q Y H3
theorem EB{o i:fx}{to ti:TE}{t:yV}(G:PE X o to)(J:PE X i ti)(F:Bl X t)(L:∀v,Qz (.Subscript o i pos) X.env v=(do
   let ov <- vr [v] (g5 o X.env)
   let iv <- vr [v,ov] (g5 i X.env)
   Qg pos
   vr [v,ov,iv] (QS ov iv v)
   release [v,ov,iv] []):=by intro _;rfl):PG X (.Subscript o i pos) (gSub to ti t):=by
 intro RE s Y H v u Q I r h;rw[L];refine cv (pw (aW (G RE s Y H _ I h) λov j ⟨x,H1,I1,l,q⟩=>?_));refine cv (pw (aW (J RE j Y H1 _ I1 q) λiv B ⟨y,H2,I2,z,g⟩=>?_));refine cv (Q8<|wpAny_bind<|wpAny_holding (aW (F RE B Y H2 x y v ov iv u _ I2 l z r g) λ_ O ⟨H3,I3,n⟩=>?_));exact wpAny_release ⟨Y,H3,I3,n⟩
def IR(te:TE)(g:TG):TS:=λD Y H=>te Y H λx H1=>g x Y H1 D.nx
theorem G1{g:TG}(z:PE X e te)(B:PG X tg g)(y:swapsWithSole [tg] e pos.line X.env=pure false:=by rfl)(hw:swappedStores [tg] e X.env=pure none:=by rfl)(h1:(KE [tg] X.env).map (·.2)=[Qz tg X.env]:=by rfl):PS X (.Assign [tg] e pos) (IR te g):=by
 intro RE s Y H D I h;refine wpAny_Assign_stores (aW (z RE s Y H _ I h) λv j ⟨x,H1,I1,l,n⟩=>?_) y hw;rw[h1];exact aW (B RE j Y H1 x v _ I1 l n) λ_ F q=>q
theorem E5(B:X.N.Nodup)(q:X.N[i]?=al x)(n:qD X.env.scope x)(l:PE X e te)(z:rc e (al<|.Name x pos') pos.line X.env=pure false:=by rfl)(hf:X.fn x=true\/X.env.scope.names.lookup x=al .local:=by first|exact .inl rfl|exact .inr rfl|assumption):
  PS X (.Assign [.Name x pos'] e pos) (IR te<|CC i):=by
 intro RE s Y H D I h;refine wpAny_Assign_Name (aW (l RE s Y H _ I h) λv F ⟨y,H1,I1,g,j⟩=>?_) z;exact eh I1 B q n g (λG I2=>⟨_,H1,I2,j⟩) hf
def tAug(i:Nat)(te:TE)(ti:Gi):TS:=λD Y H=>∃x,Y[i]?=al (al x)/\te Y H λy H1=>ti x y H1 λz H2=>D.nx (Y.set i<|some z) H2
theorem DN{ti:Gi}(hN:X.N.Nodup)(B:X.N[i]?=al x)(q:qD X.env.scope x)(W:PE X e te)(ho:Bv X op ti)(Z:X.fn x=true\/X.env.scope.names.lookup x=al .local:=by first|exact .inl rfl|exact .inr rfl|assumption):
  PS X (.AugAssign (.Name x pos') op e pos) (tAug i te ti):=by
 intro RE s Y H D I h;obtain⟨v,J,h⟩:=h;obtain⟨m,T,R⟩:=I.loc;have n:Gj X.env.scope x:=by rcases q with k|k;exact .inl k;exact .inr (.inl k)
 obtain⟨u,r,l⟩:=R i x v B J n;refine wpAny_AugAssign_Name ?_;have go:eH (fm X.prog X.w) X.A (g5 e X.env) (λw j=>eH (fm X.prog X.w) X.A (inplaceOp op u w) (λr g=>eH (fm X.prog X.w) X.A (storeName X.env x r) (λ_=>SP X RE D .next) X.xe g) X.xe j) X.xe s:=by
  refine aW (W RE s Y H _ I h) λw F ⟨y,H1,I1,S,U⟩=>?_;refine aW (ho RE F Y H1 v y u w _ I1 r S U) λz s2 ⟨zv,H2,I2,G,O⟩=>?_;exact eh I2 hN B q G (λs3 I3=>⟨_,H2,I3,O⟩) Z
 rcases l with⟨hk,L⟩|⟨hk,c,hc,hcell⟩
 .exact Rv I.ok.kind hk T L go
 .rcases hk with hk|hk
  .exact wpAny_loadName_cell I.ok.kind hk hc hcell go
  .rcases q with k|k
   .have:X.env.scope.names.lookup x=al .free:=hk
    rw[k]at this;cases this
   .have:X.env.scope.names.lookup x=al .free:=hk
    rw[k]at this;cases this
def ID(to ti te:TE)(tget:V->V->Hp->VK->Prop)(tip:Gi)(tset:yV):TS:=λD Y H=>to Y H λo H1=>ti Y H1 λi H2=>tget o i H2 λx H3=>te Y H3 λy H4=>tip x y H4 λz H5=>tset o i z H5 λH6=>D.nx Y H6
def II(X:Cx)(t:V->V->Hp->VK->Prop):Prop:=
 ∀(RE:RU)(s:c8)(Y:St)(H:Hp)(o i:V)(ov iv:c0)(Q:VK),Inv X RE Y H s->RelV o ov->RelV i iv->t o i H Q->
  eH (fm X.prog X.w) X.A (Qq ov iv) (EP X RE Y Q) X.xe s
theorem Bg{o i:fx}{to ti:TE}{j:V->V->Hp->VK->Prop}{q:Gi}{g:yV}{tpos:Pos}(ho:PE X o to)(hi:PE X i ti)(hg:II X j)(he:PE X e te)(hp:Bv X op q)(hs:Bl X g)(ha:∀l n new,augStore i l n new=(do vr [new,l,n] (QS l n new);release [new,l,n] [];pure .next):=by intros;rfl):PS X (.AugAssign (.Subscript o i tpos) op e pos) (ID to ti te j q g):=by
 intro RE s Y H D I h;refine wpAny_AugAssign_SubscriptAny (aW (ho RE s Y H _ I h) λl R ⟨B,H1,I1,z,q1⟩=>?_) ha;refine aW (hi RE R Y H1 _ I1 q1) λn s2 ⟨F,H2,I2,G,J⟩=>?_;refine aW (hg RE s2 Y H2 B F l n _ I2 z G J) λy s3 ⟨O,H3,I3,S,q3⟩=>?_;refine aW (he RE s3 Y H3 _ I3 q3) λv Z ⟨L,H4,I4,r4,W⟩=>?_;refine aW (hp RE Z Y H4 O L y v _ I4 S r4 W) λnew s5 ⟨U,H5,I5,r5,T⟩=>?_;exact aW (hs RE s5 Y H5 B F U l n new _ I5 z G r5 T) λ_ s6 ⟨H6,I6,q6⟩=>⟨Y,H6,I6,q6⟩
def ipI(f:Int->Int->Int):Gi:=λx y H Q=>∃i j,x=.int i/\y=.int j/\Q (.int<|f i j) H
theorem Ec:Bv X .Add (ipI λi j=>i+j):=by
 intro RE s Y H x y v u Q I g n h;obtain⟨i,j,z,l,q⟩:=h;subst z;subst l;obtain⟨t,rfl⟩:=g;obtain⟨t',rfl⟩:=n;exact iadd_int ⟨.int _,H,I.tok _,⟨_,rfl⟩,q⟩
end
section
def E8(c:TT)(tb:TS):TS:=λD Y H=>∃W:Nat->St->Hp->Prop,(∃m,W m Y H)/\∀m Y H,W m Y H->
 c Y H λb H1=>if b=true then ∃N:St->Hp->Prop,(∀σ' H',N σ' H'->∃m',m'<m/\W m' σ' H')/\tb { D with nx:=N,ct:=N,bk:=D.nx } Y H1 else D.nx Y H1
theorem yH{J:TT}{tb:TS}(L:Rh (fm X.prog X.w) X.A X.env X.xe)(hc:PT X c J)(hb:qc X body tb):PS X (.While c body [] pos) (E8 J tb):=by
 intro RE s Y H D I h;obtain⟨W,⟨Z,R⟩,turn⟩:=h;refine wpAny_While (codeAny_whileLoop (λn U=>∃σ' H',Inv X RE σ' H' U/\W n σ' H') ?_ Z ⟨Y,H,I,R⟩)
 rintro n O ⟨j,H1,I1,T⟩
 refine No L (aW (hc RE O j H1 _ I1<|turn n j H1 T) λb S ⟨H2,I2,l⟩=>?_);cases b with
 |true=>
  obtain⟨N,G,l⟩:=l;rw[if_pos rfl];refine No L (aW (hb RE S j H2 _ I2 l) λf s3 q=>?_);cases f with
  |next=>
   obtain⟨g,H3,I3,z⟩:=q;obtain⟨B,F,y⟩:=G g H3 z;exact⟨B,F,g,H3,I3,y⟩
  |cont=>
   obtain⟨g,H3,I3,z⟩:=q;obtain⟨B,F,y⟩:=G g H3 z;exact⟨B,F,g,H3,I3,y⟩
  |brk=>exact q
  |ret v=>exact q
 |false=>
  rw[if_neg Js];exact r0 ⟨j,H2,I2,l⟩
end
structure It where
 go:Nat->Hp->Prop
 yld:Nat->Hp->V->Hp->Prop
 stop:Nat->Hp->Prop
def gC(X:Cx)(RE:RU)(H:Hp)(b:eg):Prop:=
 H b=ee/\b≠X.env.locals/\b∉X.fs/\(b∈X.ex\/X.s₀.heap.objs.size<=b)/\(∀x c,X.env.cells.lookup x=al c->c≠b)/\∀p∈X.pn++RE,p.1≠b
theorem Inv.fpOk(I:Inv X RE Y H s)(g:s.heap.objs.size<=b)(l:H' b=ee):gC X RE H' b:=by
 refine⟨l,KS (Jn I.lt g),I.nofs g,.inr (JC I.sz g),λx c e z=>?_,λp j z=>?_⟩
 .obtain⟨v,q⟩:=I.cell x c e
  exact absurd (Jn q.lt<|by rw[z];exact g) (JW _)
 .exact absurd (Jn (Jh (I.pin p j).1)<|by rw[z];exact g) (JW _)
structure Turn(P:fy)(w:h7)(K:Jd)(tg:fx)(J:It)(fp:RP)(it:eg)(tn:Nat->i5->Prop):Prop where
 mem:it∈fp
 obj:∀i h,tn i h->∀b∈fp,∃o,h.get? b=al o/\∀v,o.data≠.cell v
 keep:∀i h h',tn i h->(∀b∈fp,∀o,h.get? b=al o->h'.get? b=al o)->tn i h'
 item:∀(X:Cx),X.prog=P->X.w=w->X.K=K->X.calm=true->∀(i:Nat)(RE:RU)(s:c8)(Y:St)(H:Hp)(E:RT),Inv X RE Y H s->(∀b∈fp,gC X RE H b)->tn i s.heap->J.go i H->
  eH (fm P w) X.A (KB<|.ref it) (λr s1=>∃u,r=al u/\
   eH (fm P w) X.A (Qs tg (.ref it) u) (λ_ s2=>∃x H',Inv X RE Y H' s2/\RelV x u/\J.yld i H x H'/\tn (i+1) s2.heap/\∀b∈fp,H' b=ee) E s1) E s
 done:∀(X:Cx),X.prog=P->X.w=w->X.K=K->X.calm=true->∀(i:Nat)(RE:RU)(s:c8)(Y:St)(H:Hp)(E:RT),Inv X RE Y H s->(∀b∈fp,gC X RE H b)->tn i s.heap->J.stop i H->
  eH (fm P w) X.A (KB<|.ref it) (λr s1=>r=ee/\Inv X RE Y H s1) E s
 self:∀(A:j0)(i:Nat)(s:c8)(Q:RT)(E:RT),tn i s.heap->Q (.ref it) s->eH (fm P w) A (pyIter<|.ref it) Q E s
abbrev TI:=St->Hp->(It->Hp->Prop)->Prop
def PIE(X:Cx)(RE:RU)(Y:St)(tg:fx)(R:It->Hp->Prop)(itv:c0)(s2:c8):Prop:=
 ∃(it:eg)(fp:RP)(tn:Nat->i5->Prop)(J:It)(H':Hp),itv=.ref it/\Inv X RE Y H' s2/\Turn X.prog X.w X.K tg J fp it tn/\tn 0 s2.heap/\(∀b∈fp,gC X RE H' b)/\R J H'
def PI(X:Cx)(tg iter:fx)(wi:TI):Prop:=
 ∀(RE:RU)(s:c8)(Y:St)(H:Hp)(R:It->Hp->Prop),Inv X RE Y H s->wi Y H R->
  eH (fm X.prog X.w) X.A (g5 iter X.env) (λv g=>eH (fm X.prog X.w) X.A (pyIter v) (PIE X RE Y tg R) X.xe g) X.xe s
theorem uu{it:eg}{o:Obj}{n:String}{vs:RW}{Q:Unit->c8->Prop}(q:s.heap.get? it=al o)(v:o.cls=.type n)(j:o.data=.fields vs)(l:["enumerate","zip","dict_itemiterator","dict_reverseitemiterator","odict_iterator","itertools.zip_longest","itertools.pairwise"].contains n=eo)(g:Q () s):eH M A (Qs tg (.ref it) u) Q E s:=by
 unfold Qs
 cases tg<;>first
  |exact eC g
  |(cases u<;>first
    |exact eC g
    |(refine cv (wpAny_load q ?_)
      rw[v,j];show eH M A (if (["enumerate","zip","dict_itemiterator","dict_reverseitemiterator","odict_iterator","itertools.zip_longest","itertools.pairwise"].contains n&&vs[0]?==al (x5 _))=true then _ else _) Q E s
      rw[if_neg (by intro h;rw[l,Nt]at h;cases h)]
      exact eC g))
def Itl(K:Jd)(a:eg):It:=
 ⟨λi H=>∃xs x,SqL K H a xs/\xs[i]?=al x,λi H x H'=>H'=H/\∀xs,SqL K H a xs->xs[i]?=al x,λi H=>∃xs,SqL K H a xs/\xs.length<=i⟩
def Itt(K:Jd)(a:eg):It:=
 ⟨λi H=>∃xs x,fg K H a xs/\xs[i]?=al x,λi H x H'=>H'=H/\∀xs,fg K H a xs->xs[i]?=al x,λi H=>∃xs,fg K H a xs/\xs.length<=i⟩
def Hx(lo:Int)(n:Nat):It:=⟨λi _=>i<n,λi H x H'=>H'=H/\x=.int (lo+i),λi _=>n<=i⟩
theorem wq(a it:eg):Turn P w K tg (Itl K a) [it] it (λi h=>h.IsListIter it a i) where
 mem:=by simp
 obj:=λi h g b j=>by
  have e:b=it:=by simpa using j
  subst e;obtain⟨o,e,c,d⟩:=g;exact⟨o,e,λv z=>by rw[d]at z;cases z⟩
 keep:=λi h h' g k=>g.at λo e=>k it (by simp) o e
 item:=by
  intro X R T L W i RE s Y H E I n g S;subst R T L;obtain⟨xs,x,q,J⟩:=S;obtain⟨y,B,p,hz⟩:=I.list q;obtain⟨u,hu,Z⟩:=B.get J;obtain⟨G,f1,f2,F,O,U⟩:=n it (by simp)
  refine Ri g p.isList (x:=u) (by simpa using hu) λh' l sb=>?_
  have I1:Inv X RE Y H { s with heap:=h' }:=I.turned (t':=s.toks) (λb o j e=>(sb.2 b j).trans e) G f1 F O U;obtain⟨o,e,c,d⟩:=id l;exact⟨u,rfl,uu (s:={ s with heap:=h' }) e c d (by decide) ⟨x,H,I1,Z,⟨rfl,λys hy=>by rw[I.list_inj hy q];exact J⟩,l,λb j=>(n b j).1⟩⟩
 done:=by
  intro X R T L W i RE s Y H E I n g S;subst R T L;obtain⟨xs,q,J⟩:=S;obtain⟨y,B,p,hz⟩:=I.list q;obtain⟨G,f1,f2,F,O,U⟩:=n it (by simp)
  have hl:=B.length;exact Rs (I.ok.hd W) g p.isList (by simp;lia) λh' eb=>⟨rfl,I.turned (t':=s.toks) (λb o j e=>eb b o j e) G f1 F O U⟩
 self:=λ_ _ _ _ _ g h=>wpAny_pyIter_listiter g h
theorem qj(a it:eg):Turn P w K tg (Itt K a) [it] it (λi h=>h.IsTupleIter it a i) where
 mem:=by simp
 obj:=λi h g b l=>by
  have e:b=it:=by simpa using l
  subst e;obtain⟨o,e,c,d⟩:=g;exact⟨o,e,λv z=>by rw[d]at z;cases z⟩
 keep:=λi h h' g k=>g.at λo e=>k it (by simp) o e
 item:=by
  intro X R T L W i RE s Y H E I q g S;subst R T L;obtain⟨xs,x,y,J⟩:=S;obtain⟨j,B,p,hz⟩:=I.tuple y;obtain⟨u,hu,Z⟩:=B.get J;obtain⟨G,f1,f2,F,O,U⟩:=q it (by simp)
  refine wpAny_pyNext_tuple_item g (show s.heap.IsTuple a j.toArray from p) (x:=u) (by simpa using hu) λh' n sb=>?_
  have I1:Inv X RE Y H { s with heap:=h' }:=I.turned (t':=s.toks) (λb o l e=>(sb.2 b l).trans e) G f1 F O U;obtain⟨o,e,c,d⟩:=id n;exact⟨u,rfl,uu (s:={ s with heap:=h' }) e c d (by decide) ⟨x,H,I1,Z,⟨rfl,λys hy=>by rw[I.tuple_inj hy y];exact J⟩,n,λb l=>(q b l).1⟩⟩
 done:=by
  intro X R T L W i RE s Y H E I q g S;subst R T L;obtain⟨xs,y,J⟩:=S;obtain⟨j,B,p,hz⟩:=I.tuple y;obtain⟨G,f1,f2,F,O,U⟩:=q it (by simp)
  have hl:=B.length;exact wpAny_pyNext_tuple_end (I.ok.hd W) g (show s.heap.IsTuple a j.toArray from p) (by simp;lia) λh' eb=>⟨rfl,I.turned (t':=s.toks) (λb o l e=>eb b o l e) G f1 F O U⟩
 self:=λ_ _ _ _ _ g h=>wpAny_pyIter_tupleiter g h
theorem rE(it:eg)(y:Int)(n:Nat):Turn P w K tg (Hx y n) [it] it (λi h=>IsRangeIter h it (y+(i:Nat)*1) ((n:Int)-(i:Nat)) 1) where
 mem:=by simp
 obj:=λi h g b j=>by
  have e:b=it:=by simpa using j
  subst e;exact⟨_,g,λv z=>by
   have z':Data.fields _=Data.cell v:=z;cases z'⟩
 keep:=λi h h' g k=>k it (by simp) _ g
 item:=by
  intro X L R G T i RE s Y H E I q g O;subst L R G;obtain⟨F,f1,f2,B,J,S⟩:=q it (by simp)
  have W:=Walks.range (prog:=X.prog) (w:=X.w) (I.ok.hd T) it y 1 n;refine W.item i s _ _ O g λv h' U hv l kk=>?_;obtain⟨t,rfl⟩:=hv;have I1:Inv X RE Y H { s with heap:=h',toks:=U }:=I.turned (λb o j e=>kk b o (by simpa using j) e) F f1 B J S
  refine⟨_,rfl,uu (s:={ s with heap:=h',toks:=U }) (n:="range_iterator") l rfl rfl (by decide) ⟨.int (y+i),H,I1,⟨t,?_⟩,⟨rfl,rfl⟩,l,λb j=>(q b j).1⟩⟩
  rw[Int.mul_one]
 done:=by
  intro X L R G T i RE s Y H E I q g O;subst L R G;obtain⟨F,f1,f2,B,J,S⟩:=q it (by simp)
  exact wpAny_pyNext_range_end (I.ok.hd T) g (by have:n<=i:=O;lia) λh' Z=>⟨rfl,I.turned (t':=s.toks) (λb o j e=>Z b o j e) F f1 B J S⟩
 self:=λ_ _ _ _ _ g h=>wpAny_pyIter_rangeiter g h
section
theorem pF{R:It->Hp->Prop}{g j:Int}{t u v:Tok}{l:Nat}(I:Inv X RE Y H s)(B:-(2 ^ 62)<=g)(G:g<2 ^ 62)(F:-(2 ^ 62)<=j)(J:j<2 ^ 62)(q:R (Hx g (j-g).toNat) H):eH (fm X.prog X.w) X.A (pyIter<|.ref s.heap.objs.size) (PIE X RE Y tg R) E { s with heap:=s.heap.push { cls:=.type "range",data:=.fields #[.int g t,.int j u,.int 1 v] },toks:=l }:=by
 refine wpAny_pyIter_range (IsRange.new ..) (small_one B G F J) ?_;have I1:Inv X RE Y H { s with heap:=s.heap.push { cls:=.type "range",data:=.fields #[.int g t,.int j u,.int 1 v] },toks:=l }:=I.kept λb o e=>Jb _ e;refine⟨(s.heap.push { cls:=.type "range",data:=.fields #[.int g t,.int j u,.int 1 v] }).objs.size,[(s.heap.push { cls:=.type "range",data:=.fields #[.int g t,.int j u,.int 1 v] }).objs.size],_,_,H,rfl,
  I1.kept (t':=l) λb o e=>Jb _ e,rE _ g (j-g).toNat,?_,λb y=>?_,q⟩
 .have n:g+((0:Nat):Int)*1=g:=by simp
  have z:(((j-g).toNat:Nat):Int)-((0:Nat):Int)=Builtin.Range.rangeSize g j 1:=by rw[rangeSize_one];split<;>lia
  show IsRangeIter _ _ (g+((0:Nat):Int)*1) ((((j-g).toNat:Nat):Int)-((0:Nat):Int)) 1;rw[n,z];exact Jk _ rfl
 .have e:b=(s.heap.push { cls:=.type "range",data:=.fields #[.int g t,.int j u,.int 1 v] }).objs.size:=by simpa using y
  subst e;exact I1.fpOk (Jg _) (I1.hok.fresh<|Jg _)
def HA(ta:TA):TI:=λY H R=>ta Y H λg H1=>∃j:Int,g=[.int j]/\-(2 ^ 62)<=j/\j<2 ^ 62/\R (Hx 0 j.toNat) H1
def GQ(ta:TA):TI:=λY H R=>ta Y H λg H1=>∃i j:Int,g=[.int i,.int j]/\(-(2 ^ 62)<=i/\i<2 ^ 62/\-(2 ^ 62)<=j/\j<2 ^ 62)/\R (Hx i (j-i).toNat) H1
theorem vY{a:fx}{ta:TA}(y:Gl X "range")(B:X.mg "range"=ee)(z:PA X [a] ta)(v:fe [a] X.env=[(eo,g5 a X.env)]:=by rfl):PI X tg (.Call (.Name "range" p) [a] [] pos) (HA ta):=by
 intro RE s Y H R I h;refine RD (bW I y B boot_range<|JB (aW (z pos RE s Y H _ I h) λus F ⟨G,H1,I1,n,g⟩=>?_) v rfl);obtain⟨j,e,g,l,q⟩:=g;subst e;cases n with
 |cons r rr=>
  cases rr;obtain⟨t,rfl⟩:=r;exact call_range_1 (pF I1 (by lia) (by lia) g l<|by simpa using q)
theorem u_{a b:fx}{ta:TA}(B:Gl X "range")(G:X.mg "range"=ee)(F:PA X [a,b] ta)(z:fe [a,b] X.env=[(eo,g5 a X.env),(eo,g5 b X.env)]:=by rfl)(hs2:fe [b] X.env=[(eo,g5 b X.env)]:=by rfl):
  PI X tg (.Call (.Name "range" p) [a,b] [] pos) (GQ ta):=by
 intro RE s Y H R I h;refine RD (bW I B G boot_range<|JB (aW (F pos RE s Y H _ I h) λus J ⟨L,H1,I1,n,g⟩=>?_) (by rw[z,hs2])<|by rw[hs2];rfl)
 obtain⟨i,j,e,⟨g,l,v,y⟩,q⟩:=g;subst e;cases n with
 |cons r rr=>
  cases rr with
  |cons r' rr=>
   cases rr;obtain⟨t,rfl⟩:=r;obtain⟨t',rfl⟩:=r';exact call_range_2 (pF I1 g l v y q)
def tFor(wi:TI)(g:TG)(tb:TS):TS:=λD Y H=>wi Y H λJ H1=>∃W:Nat->Nat->St->Hp->Prop,(∃m,W 0 m Y H1)/\∀i m Y H,W i m Y H->
 (J.stop i H/\D.nx Y H)\/(J.go i H/\∃N:St->Hp->Prop,(∀σ' H',N σ' H'->∃m',m'<m/\W (i+1) m' σ' H')/\∀x H',J.yld i H x H'->g x Y H' λj H2=>tb { D with nx:=N,ct:=N,bk:=D.nx } j H2)
def km(fp:RP)(h:i5):List (eg×Obj):=fp.filterMap λb=>(h.get? b).map λo=>(b,o)
theorem df{o:Obj}(g:b∈fp)(e:h.get? b=al o):(b,o)∈km fp h:=OD.mpr ⟨b,g,by rw[e];rfl⟩
theorem w6{p:eg×Obj}(l:p∈km fp h):p.1∈fp/\h.get? p.1=al p.2:=by
 obtain⟨b,g,e⟩:=OD.mp l;cases q:h.get? b with
 |none=>rw[q]at e;cases e
 |some o=>
  rw[q]at e;have j:(b,o)=p:=JT e;subst j;exact⟨g,q⟩
theorem Inv.pinned(I:Inv X RE Y H s)(B:∀b∈fp,gC X RE H b)(y:∀b∈fp,∃o,s.heap.get? b=al o/\∀v,o.data≠.cell v):Inv X (RE++km fp s.heap) Y H s:=
 I.pins_of λp l=>(Mj.mp l).elim (λz=>I.pin p (JG _ z)) λz=>by
  obtain⟨j,e⟩:=w6 z;obtain⟨n,f1,q,_⟩:=B p.1 j;obtain⟨o,g,d⟩:=y p.1 j;rw[e]at g;cases g;exact⟨e,n,f1,q,d⟩
theorem Inv.unpinned{pl:RU}(I:Inv X (RE++pl) Y H s):Inv X RE Y H s:=I.pins_of λp g=>I.pin p (JG _<|Lp _ g)
theorem El{y:fx}{wi:TI}{g:TG}{tb:TS}(U:Rh (fm X.prog X.w) X.A X.env X.xe)(hc:X.calm=true)(hi:PI X tg y wi)(hg:PG X tg g)(z:qc X body tb)(hs:∀x,rg y X.env x=pure x:=by intro _;rfl):PS X (.For tg y body [] pos) (tFor wi g tb):=by
 intro RE s Y H D I h;refine wpAny_For (aW (hi RE s Y H _ I h) λv s1 h1=>aW h1 λitv s2 h2=>?_) hs;obtain⟨it,fp,tn,J,H2,e,I2,T,st2,f2,W,⟨m0,w0⟩,S⟩:=h2;subst e
 -- what stays true of the iterator's objects through the loop
 have q:∀{H':Hp},(∀b∈fp,H' b=ee)->∀b∈fp,gC X RE H' b:=λhn b z=>⟨hn b z,(f2 b z).2⟩;refine codeAny_forLoop_any (λn s'=>∃i σ' H',Inv X RE σ' H' s'/\tn i s'.heap/\(∀b∈fp,H' b=ee)/\W i n σ' H') ?_ m0 ⟨0,Y,H2,I2,st2,λb z=>(f2 b z).1,w0⟩
 rintro n s3 ⟨i,l,H3,I3,L,G,w3⟩
 rcases S i n l H3 w3 with⟨O,qn⟩|⟨go,N,hN,step⟩
 .refine No U (aW (T.done X rfl rfl rfl hc i RE s3 l H3 X.xe I3 (q G) L O) λr s4 ⟨Z,I4⟩=>?_)
  subst Z;exact r0 ⟨l,H3,I4,qn⟩
 .refine No U (aW (T.item X rfl rfl rfl hc i RE s3 l H3 X.xe I3 (q G) L go) λr s4 ⟨u,Z,h4⟩=>?_)
  subst Z;refine No U (aW h4 λ_ s5 ⟨x,H5,I5,r5,y5,F,fr5⟩=>?_);have I5':=I5.pinned (q fr5) (T.obj _ _ F);refine No U (aW (hg _ s5 l H5 x u _ I5' r5<|step x H5 y5) λ_ s6 ⟨σ6,H6,I6,q6⟩=>?_);refine No U (aW (z _ s6 σ6 H6 _ I6 q6) λf s7 B=>?_);have again:∀{j:St}{H7:Hp},Inv X (RE++km fp s5.heap) j H7 s7->N j H7->∃m,m<n/\∃i σ' H',Inv X RE σ' H' s7/\tn i s7.heap/\(∀b∈fp,H' b=ee)/\W i m σ' H':=λ{j H7} I7 R=>by
   obtain⟨m',hm,w7⟩:=hN j H7 R;refine⟨m',hm,i+1,j,H7,I7.unpinned,T.keep _ _ _ F λb z o e=>(I7.pin (b,o)<|JG _<|JG _<|df z e).1,λb z=>?_,w7⟩;obtain⟨o,e,d⟩:=T.obj _ _ F b z;exact(I7.pin (b,o)<|JG _<|JG _<|df z e).2.1
  cases f with
  |next=>obtain⟨j,H7,I7,R⟩:=B;exact again I7 R
  |cont=>obtain⟨j,H7,I7,R⟩:=B;exact again I7 R
  |brk=>obtain⟨j,H7,I7,B⟩:=B;exact⟨j,H7,I7.unpinned,B⟩
  |ret v=>obtain⟨x7,j,H7,I7,r7,B⟩:=B;exact⟨x7,j,H7,I7.unpinned,r7,B⟩
end
abbrev R2:=V->V->Hp->VK->Prop
def bZ(X:Cx)(f:c0->c0->Sem c0)(r:R2):Prop:=
 ∀(RE:RU)(s:c8)(Y:St)(H:Hp)(x y:V)(v u:c0)(Q:VK),Inv X RE Y H s->RelV x v->RelV y u->r x y H Q->
  eH (fm X.prog X.w) X.A (f v u) (EP X RE Y Q) X.xe s
def UnR(X:Cx)(f:c0->Sem c0)(r:V->Hp->VK->Prop):Prop:=
 ∀(RE:RU)(s:c8)(Y:St)(H:Hp)(x:V)(v:c0)(Q:VK),Inv X RE Y H s->RelV x v->r x H Q->
  eH (fm X.prog X.w) X.A (f v) (EP X RE Y Q) X.xe s
def bp(X:Cx)(f:c0)(r:List V->Hp->VK->Prop):Prop:=
 ∀(RE:RU)(s:c8)(Y:St)(H:Hp)(xs:List V)(us:RO)(Q:VK),Inv X RE Y H s->Vals xs us->r xs H Q->
  eH (fm X.prog X.w) X.A (call f us) (EP X RE Y Q) X.xe s
def TruR(X:Cx)(r:V->Hp->(Bool->Hp->Prop)->Prop):Prop:=
 ∀(RE:RU)(s:c8)(Y:St)(H:Hp)(x:V)(v:c0)(Q:Bool->Hp->Prop),Inv X RE Y H s->RelV x v->r x H Q->
  eH (fm X.prog X.w) X.A (truthy v) (TP X RE Y Q) X.xe s
def Ht(r:R2)(ta tb:TE):TE:=λY H Q=>ta Y H λx H1=>tb Y H1 λy H2=>r x y H2 Q
def tUn(r:V->Hp->VK->Prop)(ta:TE):TE:=λY H Q=>ta Y H λx H1=>r x H1 Q
def rI(C:Int->Int->Prop)(g:Int->Int->V):R2:=λx y H Q=>∃i j,x=.int i/\y=.int j/\C i j/\Q (g i j) H
def C6(g:Int->Int->V):R2:=λx y H Q=>∃i j,x=.int i/\y=.int j/\Q (g i j) H
def rU(g:Int->V):V->Hp->VK->Prop:=λx H Q=>∃i,x=.int i/\Q (g i) H
section
variable{a b:fx}{tc:TE}
theorem Eo(G:PE X a ta)(B:PE X b tb){R:V->V->Hp->Prop}(I:Inv X RE Y H s)(h:ta Y H λx H1=>tb Y H1 λy H2=>R x y H2){f:c0->c0->Sem c0}(F:∀v u g x y H2,Inv X RE Y H2 g->RelV x v->RelV y u->R x y H2->eH (fm X.prog X.w) X.A (f v u) Q X.xe g):
  eH (fm X.prog X.w) X.A (g5 a X.env) (λv s₁=>eH (fm X.prog X.w) X.A (g5 b X.env) (λu s₂=>eH (fm X.prog X.w) X.A (f v u) Q X.xe s₂) X.xe s₁) X.xe s:=by
 refine aW (G RE s Y H _ I h) λv n ⟨x,H1,I1,q,z⟩=>?_;refine aW (B RE n Y H1 _ I1 z) λu g ⟨y,H2,I2,j,l⟩=>?_;exact F v u g x y H2 I2 q j l
theorem Hv(n:bZ X (ot op) r)(B:PE X a ta)(z:PE X b tb):PE X (.BinOp a op b pos) (Ht r ta tb):=by
 intro RE s Y H Q I h;exact wpAny_BinOp (Eo B z I h λv u l x y H2 I2 g j q=>n RE l Y H2 x y v u Q I2 g j q)
theorem IA{op:UnaryOp}{r:V->Hp->VK->Prop}(n:UnR X (unaryOp op) r)(q:PE X a ta):PE X (.UnaryOp op a pos) (tUn r ta):=by
 intro RE s Y H Q I h;exact UnaryOp_ (aW (q RE s Y H _ I h) λv g ⟨x,H1,I1,j,l⟩=>n RE g Y H1 x v Q I1 j l)
theorem opI{f:c0->c0->Sem c0}{C:Int->Int->Prop}{g:Int->Int->Int}(l:∀(i j:Int)(t u:Tok)(s:c8)(Q:RT)(E:RT),C i j->Q (.int (g i j) s.toks) { s with toks:=s.toks+1 }->eH (fm X.prog X.w) X.A (f (.int i t)<|.int j u) Q E s):
  bZ X f (rI C λi j=>.int (g i j)):=by
 intro RE s Y H x y v u Q I B z h;obtain⟨i,j,rfl,rfl,n,q⟩:=h;obtain⟨t,rfl⟩:=B;obtain⟨t',rfl⟩:=z;exact l i j t t' s _ _ n ⟨.int (g i j),H,I.tok _,⟨_,rfl⟩,q⟩
theorem GB{f:c0->c0->Sem c0}{g:Int->Int->Int}(l:∀(i j:Int)(t u:Tok)(s:c8)(Q:RT)(E:RT),Q (.int (g i j) s.toks) { s with toks:=s.toks+1 }->eH (fm X.prog X.w) X.A (f (.int i t)<|.int j u) Q E s):
  bZ X f (C6 λi j=>.int (g i j)):=by
 intro RE s Y H x y v u Q I z n h;obtain⟨i,j,rfl,rfl,q⟩:=h;obtain⟨t,rfl⟩:=z;obtain⟨t',rfl⟩:=n;exact l i j t t' s _ _ ⟨.int (g i j),H,I.tok _,⟨_,rfl⟩,q⟩
theorem Ax{f:c0->c0->Sem c0}{g:Int->Int->Bool}(l:∀(i j:Int)(t u:Tok)(s:c8)(Q:RT)(E:RT),Q (.bool<|g i j) s->eH (fm X.prog X.w) X.A (f (.int i t)<|.int j u) Q E s):
  bZ X f (C6 λi j=>.bl (g i j)):=by
 intro RE s Y H x y v u Q I z n h;obtain⟨i,j,rfl,rfl,q⟩:=h;obtain⟨t,rfl⟩:=z;obtain⟨t',rfl⟩:=n;exact l i j t t' s _ _ ⟨.bl (g i j),H,I,rfl,q⟩
def Hq(i j:Int):Prop:=0<=j/\j<=1000000/\i.natAbs<2 ^ 64
def CMul(i j:Int):Prop:=(-(2 ^ 64)<i/\i<2 ^ 64)\/(-(2 ^ 64)<j/\j<2 ^ 64)
theorem CMul.ok{i j:Int}(h:CMul i j):IntMulOk i j:=by
 rcases h with⟨g,l⟩|⟨g,l⟩
 .exact .of_left (intBits_le_64 g l)
 .exact .of_right (intBits_le_64 g l)
theorem G4:bZ X (ot .Add) (C6 λi j=>.int (i+j)):=GB λ_ _ _ _ _ _ _ q=>add_int q
theorem Eh:bZ X (ot .Sub) (C6 λi j=>.int (i-j)):=GB λ_ _ _ _ _ _ _ q=>sub_int q
theorem Ff:bZ X (ot .Mult) (rI CMul λi j=>.int (i*j)):=opI λ_ _ _ _ _ _ _ g q=>mul_int q g.ok
theorem Fk:bZ X (ot .Mod) (rI (λ_ j=>0<j) λi j=>.int (i % j)):=opI λi j _ _ _ _ _ g q=>by
 have l:(0:Int)<j:=g;exact mod_int' (by lia) (by rw[Int.fmod_eq_emod_of_nonneg i (by lia)];exact q)
theorem Fn:bZ X (ot .Pow) (rI Hq λi j=>.int (i ^ j.toNat)):=opI λ_ _ _ _ _ _ _ g q=>pow_int_small g.1 g.2.1 g.2.2 q
theorem unI{f:c0->Sem c0}{g:Int->Int}(j:∀(i:Int)(t:Tok)(s:c8)(Q:RT)(E:RT),Q (.int (g i) s.toks) { s with toks:=s.toks+1 }->eH (fm X.prog X.w) X.A (f<|.int i t) Q E s):
  UnR X f (rU λi=>.int (g i)):=by
 intro RE s Y H x v Q I l h;obtain⟨i,rfl,q⟩:=h;obtain⟨t,rfl⟩:=l;exact j i t s _ _ ⟨.int (g i),H,I.tok _,⟨_,rfl⟩,q⟩
theorem FG:UnR X (unaryOp .USub) (rU λi=>.int (-i)):=unI λ_ _ _ _ _ q=>neg_int q
end
section
variable{a b:fx}{tc:TE}
theorem xW{Q:VK}{k g:Bool}(I:Inv X RE Y H s)(q:Q (.bl k) H)(e:k=g):EP X RE Y Q (.bool g) s:=by
 subst e;exact⟨.bl k,H,I,rfl,q⟩
theorem HD:bZ X (md .Lt) (C6 λi j=>.bl (decide (i<j))):=Ax λ_ _ _ _ _ _ _ q=>lt_int q
theorem Gw:bZ X (md .LtE) (C6 λi j=>.bl (decide (i<=j))):=Ax λ_ _ _ _ _ _ _ q=>le_int q
theorem GJ:bZ X (md .Gt) (C6 λi j=>.bl (decide (j<i))):=Ax λ_ _ _ _ _ _ _ q=>gt_int q
theorem He:bZ X (md .GtE) (C6 λi j=>.bl (decide (j<=i))):=Ax λ_ _ _ _ _ _ _ q=>ge_int q
theorem DL:bZ X (md .Is) (λx y H Q=>y=.non/\Q (.bl<|decide (x=.non)) H):=by
 intro RE s Y H x y v u Q I g j h;obtain⟨rfl,q⟩:=h;cases j;refine is_none_gen (xW I q ?_)
 cases x<;>first
  |(cases g;rfl)
  |(obtain⟨t,rfl⟩:=g;rfl)
theorem C5:bZ X (md .IsNot) (λx y H Q=>y=.non/\Q (.bl<|!decide (x=.non)) H):=by
 intro RE s Y H x y v u Q I g j h;obtain⟨rfl,q⟩:=h;cases j;refine isnot_none_gen (xW I q ?_)
 cases x<;>first
  |(cases g;rfl)
  |(obtain⟨t,rfl⟩:=g;rfl)
theorem BQ{op:CmpOp}(n:bZ X (md op) r)(B:PE X a ta)(z:PE X b tb)(F:QC op b=eo):PE X (.Compare a [op] [b] pos) (Ht r ta tb):=by
 intro RE s Y H Q I h;exact wpAny_Compare1 (Eo B z I h λv u l x y H2 I2 g j q=>n RE l Y H2 x y v u Q I2 g j q) F
def Hf(t:TE):TT:=λY H Q=>t Y H λx H'=>∃k,x=.bl k/\Q k H'
theorem C2{op:CmpOp}(J:bZ X (md op) r)(O:PE X a ta)(L:PE X b tb)(R:QC op b=eo):PT X (.Compare a [op] [b] pos) (Hf<|Ht r ta tb):=by
 intro RE s Y H Q I h;refine wpAny_isTrue_Compare1 (aW (O RE s Y H _ I h) λv j ⟨x,H1,I1,l,B⟩=>aW (L RE j Y H1 _ I1 B) λu G ⟨y,H2,I2,F,g⟩=>
  aW (J RE G Y H2 x y v u _ I2 l F g) λc S ⟨z,H3,I3,n,k,e,q⟩=>?_) R
 subst e;cases n;exact QI ⟨H3,I3,q⟩
def G5(K:Jd)(x:V)(H:Hp)(k:Bool):Prop:=
 match x with
 |.non=>k=eo
 |.bl b=>k=b
 |.int i=>k=(i != 0)
 |.str y=>y.length<=sizeLine/\k=((y.length:Int) != 0)
 |.byt y=>y.size<=sizeLine/\k=((y.size:Int) != 0)
 |.ref p=>(∃xs,SqL K H p xs/\k=!xs.isEmpty)\/(∃xs,fg K H p xs/\k=!xs.isEmpty)\/∃RG,H p=al (.dK RG)/\k=!RG.isEmpty
 |_=>False
theorem rK{j:Type}{g:List (j×V)}{vs:List (j×c0)}(r:KV g vs):(!vs.isEmpty)=!g.isEmpty:=by
 cases r<;>rfl
theorem ku{xs:List V}{RK:RO}(r:Vals xs RK):(!RK.toArray.isEmpty)=!xs.isEmpty:=by
 cases r<;>simp
theorem dh:(sizeLine:Nat)<2 ^ 63:=by rw[Qu];decide
theorem Gc:TruR X (λx H Q=>∃k,G5 X.K x H k/\Q k H):=by
 intro RE s Y H x v Q I n h;obtain⟨k,e,q⟩:=h;have O:=dh;have R:sizeLine=16777216:=Qu;cases x with
 |non=>
  cases n;have g:k=false:=e;subst g;exact truthy_none ⟨H,I,q⟩
 |bl b=>
  cases n;have g:k=b:=e;subst g;exact QI ⟨H,I,q⟩
 |int i=>
  obtain⟨t,rfl⟩:=n;have g:k=(i != 0):=e;subst g;exact PySem.P.truthy_int ⟨H,I,q⟩
 |str y=>
  obtain⟨t,rfl⟩:=n;obtain⟨L,g⟩:y.length<=sizeLine/\k=((y.length:Int) != 0):=e;subst g;exact PySem.P.truthy_str (by lia) ⟨H,I.tok _,q⟩
 |byt y=>
  obtain⟨t,rfl⟩:=n;obtain⟨L,g⟩:y.size<=sizeLine/\k=((y.size:Int) != 0):=e;subst g;exact W.truthy_bytes (by lia) ⟨H,I.tok _,q⟩
 |ref p=>
  cases n;have g:(∃l,SqL X.K H p l/\k=!l.isEmpty)\/(∃l,fg X.K H p l/\k=!l.isEmpty)\/∃RG,H p=al (.dK RG)/\k=!RG.isEmpty:=e;rcases g with⟨l,z,g⟩|⟨l,z,g⟩|⟨RG,z,g⟩
  .subst g
   obtain⟨F,r,pl,G⟩:=I.list z;have j:=r.length;exact wpAny_truthy_list pl.isList (by simp only[Jc];lia) ⟨H,I.tok _,by rw[ku r];exact q⟩
  .subst g
   obtain⟨F,r,pl,G⟩:=I.tuple z;have j:=r.length;exact truthy_tuple pl (by simp only[Jc];lia) ⟨H,I.tok _,by rw[ku r];exact q⟩
  .subst g
   obtain⟨G,J,B,r,m⟩:RG.length<=sizeLine/\(p==z5)=eo/\∃B,KV RG B/\s.heap.DictOf (aE X.prog X.w) p B:=I.hok p _ z;have j:RG.length=B.length:=Ke r;exact wpAny_truthy_dict J m (by lia) ⟨H,I.tok _,by rw[rK r];exact q⟩
 |_=>exact(show False from e).elim
theorem wI(y:PE X a ta)(q:∀g,Rn a X.env g=(do let v <- g;Qg a.pos;vr [v] (truthy v))):
  PT X a (λY H Q=>ta Y H λx H'=>∃k,G5 X.K x H' k/\Q k H'):=by
 intro RE s Y H Q I h;exact isTrue_plain (aW (y RE s Y H _ I h) λv j ⟨x,H1,I1,l,n⟩=>Gc RE j Y H1 x v Q I1 l n) (q _)
theorem qp:bZ X (ot .Add) (λx y H Q=>∃i j,x=.str i/\y=.str j/\i.length+j.length<=sizeLine/\Q (.str (i++j)) H):=by
 intro RE s Y H x y v u Q I n l h;obtain⟨i,j,rfl,rfl,g,q⟩:=h;obtain⟨t,rfl⟩:=n;obtain⟨t',rfl⟩:=l;exact add_str (λt' z=>⟨.str (i++j),H,I.tok _,⟨_,rfl⟩,q⟩) g
theorem dI{x:V}(r:Vals [x] us):∃u,us=[u]/\RelV x u:=by
 cases r with
 |cons r1 r2=>cases r2;exact⟨_,rfl,r1⟩
end
structure ObjM(h:i5)(x dx C:eg)(mA:RV):Prop where
 obj:h.get? x=al (LL C dx)
 ns:h.Ns1 dx mA
 ne:dx≠x
theorem vV(n:h.Ns1 dx mA):∃j,h.get? dx=al j/\∀name,W.lookIn name j=al (mA name):=by
 obtain⟨o,es,J,F,l,v,_,G⟩:=n;refine⟨o,F,λname=>?_⟩;have e:=G name;unfold nsFind findBy at e;rw[<- Array.find?_toList]at e;unfold W.lookIn;rw[l];dsimp only
 split
 .rename_i y q
  rw[q]at e;exact congrArg al e
 .rename_i q
  rw[q]at e;have a:es.toList.any (·.refKey)=false:=by
   rw[List.any_eq_false];intro y I;obtain⟨z,t,g⟩:=v y (Array.mem_toList_iff.mp I);simp[DictEntry.refKey,g]
  have B:¬es.toList.any (·.refKey)=true:=by rw[a];exact Js
  rw[if_neg B];exact congrArg al e
theorem ObjM.look{x:eg}(I:ObjM h x dx C mA):∃g,W.InstAt h x (LL C dx) C (al g)/\∀name,W.lookIn name g=al (mA name):=
 let ⟨g,ho,hl⟩:=vV I.ns
 ⟨g,⟨I.obj,rfl,rfl,ho⟩,hl⟩
section
variable{prog:fy}{x:eg}{name:Str}{v:c0}
theorem AM{g:Bool}(X:K.In s.heap)(I:ObjM s.heap x dx C mA)(n:LM K C name=true)(q:JO K C=true)(z:JN K (.ref C) name=al ee)(y:mA name=al v)(j:W.handedIn v=true)(h:Q v { s with toks:=s.toks+1 }):
  eH (fm prog w) A (getAttr (.ref x) name g) Q E s:=by
 obtain⟨B,J,l⟩:=I.look;exact W.get_value X J (NW n).1 (W.findObj_own q z rfl<|by rw[l,y]) j h
theorem zM{pl:Sem Bool}{Q:c0×List c0->c8->Prop}(X:K.In s.heap)(I:ObjM s.heap x dx C mA)(g:LM K C name=true)(q:JN K (.ref C) name=al (al<|.ref f))(y:W.isFn K (.ref f)=true)(n:mA name=ee)(h:Q (.ref f,[.ref x]) s):
  eH (fm prog w) A (Qc (.ref x) name pl) Q E s:=by
 obtain⟨j,J,l⟩:=I.look;exact W.method_fn X J (NW g).1 (NW g).2 q (beq_iff_eq.mp y) (by show (W.lookIn name j).map (·.isSome)=al eo;rw[l,n];rfl) h
theorem Bo{ns:RN}{Q:Unit->c8->Prop}(X:K.In s.heap)(I:ObjM s.heap x dx C mA)(U:JN K (.ref C) "__setattr__"=al (al<|.builtin "object.__setattr__"))(R:Mx K C=true)(O:W.takerIn K C name=al ee)(T:JO K C=true)(S:NJ mA ns)(hsz:ns.length<=sizeLine)(h:∀h',ObjM h' x dx C (λy=>if y=name then al v else mA y)->Ku dx s.heap h'->Q () { s with heap:=h',toks:=s.toks+2 }):
  eH (fm prog w) A (setAttr (.ref x) name v) Q E s:=by
 obtain⟨od,J,Z⟩:=I.look;refine W.set_plain X J U (W.osa_open (s:={ s with toks:=s.toks+1 }) (r:=ee) X J R O λb=>?_);obtain⟨cd,L,q⟩:=W.any_some T;have F:s.heap.get? x=al ⟨.ref C,al dx,.plain,#[]⟩:=I.obj;refine cv (eC<|wpAny_bind<|wpAny_bind<|wpAny_loadPart F<|wpAny_bind<|W.Looks.here (s:={ s with toks:=s.toks+1 }) (W.looks_clsIn X L) ?_);rw[q];refine eC (a:=al dx) (cv<|wpAny_pure<|wpAny_bind ?_);refine wpAny_nsSet1 (s:={ s with toks:=s.toks+1 }) I.ns λh' g j=>?_;obtain⟨oD,B,G,l,n,z⟩:=g.count (PySem.Within.cons name v S);refine cv (wpAny_lookBehind l (by rw[n];exact pastItsLine_dict (JC z<|by rw[Jl];lia)) ?_)
 exact eC (h _ ⟨(j.2 _<|JI I.ne).trans I.obj,g,I.ne⟩ j)
theorem yS{R:Q3->c8->Prop}{vs:RO}(X:K.In s.heap)(q:MD K C=true)(l:JN K (.ref C) "__init__"=al (al<|.ref f))(n:La K (.ref f)=al (.type "function"))(h:P3 (fm prog w) (A.under<|.builtin "type.__call__" ⟨.ref C::vs,kw⟩) (.call (.ref f) ⟨.ref (s.heap.objs.size+1)::vs,kw⟩) (W.InitBack (s.heap.objs.size+1) R)
   { s with heap:=(s.heap.push KQ).push (LL C s.heap.objs.size) }):
  P3 (fm prog w) A (.call (.ref C) ⟨vs,kw⟩) R s:=by
 obtain⟨y,g,d,t,z⟩:=s;exact W.make_core (W.makes_of X q) (W.looks_findIn X l) (λj=>W.bind_fn X j n) (.inl rfl) h
end
def bR(f:Str)(v:V):List (Str×V)->List (Str×V)
 |[]=>[(f,v)]
 |(g,x)::r=>if g=f then (g,v)::r else (g,x)::bR f v r
theorem gU(f g:Str)(v:V):∀fs:List (Str×V),(bR f v fs).lookup g=if g=f then al v else fs.lookup g
 |[]=>by
  show Jz g [(f,v)]=_
  by_cases h:g=f
  .have j:(g==f)=true:=beq_iff_eq.mpr h
   simp only[Jz,j,if_pos h]
  .have j:(g==f)=false:=beq_eq_false_iff_ne.mpr h
   simp only[Jz,j,if_neg h]
 |(k,x)::r=>by
  have n:=gU f g v r;rw[show bR f v ((k,x)::r)=(if k=f then (k,v)::r else (k,x)::bR f v r) from rfl]
  by_cases l:k=f
  .rw[if_pos l]
   by_cases h:g=k
   .have j:(g==k)=true:=beq_iff_eq.mpr h
    simp only[Jz,j,if_pos (h.trans l)]
   .have j:(g==k)=false:=beq_eq_false_iff_ne.mpr h
    simp only[Jz,j,if_neg (λe:g=f=>h (e.trans l.symm))]
  .rw[if_neg l]
   by_cases h:g=k
   .have j:(g==k)=true:=beq_iff_eq.mpr h
    simp only[Jz,j,if_neg (λe:g=f=>l (h.symm.trans e))]
   .have j:(g==k)=false:=beq_eq_false_iff_ne.mpr h
    simp only[Jz,j];exact n
theorem gy(f:Str)(v:V):∀fs:List (Str×V),f∈(bR f v fs).map (·.1)/\∀g,g∈fs.map (·.1)->g∈(bR f v fs).map (·.1)
 |[]=>⟨by simp[bR],λg h=>by simp at h⟩
 |(k,x)::r=>by
  obtain⟨l,n⟩:=gy f v r;rw[show bR f v ((k,x)::r)=(if k=f then (k,v)::r else (k,x)::bR f v r) from rfl]
  by_cases j:k=f
  .rw[if_pos j]
   subst j;exact⟨by simp,λg h=>by simpa using h⟩
  .rw[if_neg j]
   refine⟨?_,λg h=>?_⟩
   .rw[Jf]
    exact Jj _ l
   .rw[Jf]at h ⊢
    rcases Jq.mp h with e|e
    .exact Jq.mpr (.inl e)
    .exact Jj _ (n g e)
theorem hV(f:Str)(v:V):∀fs:List (Str×V),(bR f v fs).length<=fs.length+1
 |[]=>by simp[bR]
 |(k,x)::r=>by
  have j:=hV f v r;rw[show bR f v ((k,x)::r)=(if k=f then (k,v)::r else (k,x)::bR f v r) from rfl]
  by_cases g:k=f
  .rw[if_pos g,Jl,Jl];lia
  .rw[if_neg g,Jl,Jl];lia
theorem cg{v:V}{o:Option c0}(r:RelO (al v) o):∃u,o=al u/\RelV v u:=by
 cases o with
 |none=>exact(show False from r).elim
 |some u=>exact⟨u,rfl,r⟩
theorem gj{o:Option c0}(r:RelO ee o):o=none:=by
 cases o with
 |none=>rfl
 |some u=>exact(show False from r).elim
theorem vH{v:V}(r:RelV v u):W.handedIn u=true:=by
 cases v with
 |non=>cases (show u=Kr from r);rfl
 |bl b=>cases (show u=JV b from r);rfl
 |int i=>obtain⟨t,e⟩:=(show ∃t,u=Kx i t from r);cases e;rfl
 |str x=>obtain⟨t,e⟩:=(show ∃t,u=LV x t from r);cases e;rfl
 |byt b=>obtain⟨t,e⟩:=(show ∃t,u=Value.bytes b t from r);cases e;rfl
 |flt b=>obtain⟨t,e⟩:=(show ∃t,u=NX b t from r);cases e;rfl
 |ref a=>cases (show u=Jv a from r);rfl
 |ty n=>cases (show u=Nb n from r);rfl
section
variable{fs fs':List (Str×V)}
theorem j8(g:HOk P w H h)(e:H a=al (.ins C dx fs)):∃mA,ObjM h a dx C mA/\(∀f,RelO (fs.lookup f) (mA f))/\NJ mA (fs.map (·.1))/\fs.length<=1000/\H dx=al (.own a):=by
 obtain⟨d,z,ne,j,mA,n,r,q⟩:=(show ObjOk P w H h a (.ins C dx fs) from g a _ e);exact⟨mA,⟨j,n,ne⟩,r,q,z,d⟩
end
structure Cls(K:Jd)(C:eg):Prop where
 pg:LM K C NO=true
 hd:JO K C=true
 po:Mx K C=true
 sa:JN K (.ref C) "__setattr__"=al (al<|.builtin "object.__setattr__")
theorem Cls.get(c:Cls K C)(f:Str):LM K C f=true:=c.pg
def NoAttr(K:Jd)(C:eg)(f:Str):Prop:=JN K (.ref C) f=al ee
theorem NoAttr.taker{f:Str}(n:NoAttr K C f):W.takerIn K C f=al none:=by
 unfold W.takerIn;rw[show JN K (.ref C) f=al ee from n];rfl
structure Meth(K:Jd)(C:eg)(m:Str)(f:eg):Prop where
 at_:JN K (.ref C) m=al (al<|.ref f)
 fn:W.isFn K (.ref f)=true
 kp:J4 K (.ref f)=true
section
variable{fs:List (Str×V)}{f:Str}{v:V}
theorem ka{b:Bool}(I:Inv X RE Y H s)(e:H a=al (.ins C dx fs))(c:Cls X.K C)(n:NoAttr X.K C f)(l:fs.lookup f=al v)(h:∀u s',Inv X RE Y H s'->RelV v u->Q u s'):eH (fm X.prog X.w) A (getAttr (.ref a) f b) Q E s:=by
 obtain⟨mA,O,r,_,_,_⟩:=j8 I.hok e;obtain⟨u,j,g⟩:=cg (v:=v) (o:=mA f) (by rw[<- l];exact r f)
 exact AM I.kIn O (c.get f) c.hd n j (vH g) (h u _ (I.tok _) g)
theorem jF{g:eg}{pl:Sem Bool}{Q:c0×List c0->c8->Prop}(I:Inv X RE Y H s)(e:H a=al (.ins C dx fs))(c:Cls X.K C)(k:Meth X.K C m g)(l:fs.lookup m=ee)(h:Q (.ref g,[.ref a]) s):eH (fm X.prog X.w) A (Qc (.ref a) m pl) Q E s:=by
 obtain⟨mA,O,r,_,_,_⟩:=j8 I.hok e;have j:mA m=none:=gj (by rw[<- l];exact r m)
 exact zM I.kIn O (c.get m) k.at_ k.fn j h
theorem jW{y:V}{Q:Unit->c8->Prop}(I:Inv X RE Y H s)(e:H a=al (.ins C dx fs))(c:Cls X.K C)(n:NoAttr X.K C f)(R:fs.length<1000)(L:RelV y u)(h:∀s',Inv X RE Y (upd H a<|.ins C dx<|bR f y fs) s'->Q () s'):eH (fm X.prog X.w) A (setAttr (.ref a) f u) Q E s:=by
 obtain⟨mA,O,r,j,_,l⟩:=j8 I.hok e;have G:(fs.map (·.1)).length<=sizeLine:=by rw[Ji,Qu];lia
 refine Bo I.kIn O c.sa c.po n.taker c.hd j G λh' O' F=>h _ ?_;have hd:∃o,h'.get? dx=al o:=let ⟨o,_,_,e',_⟩:=O'.ns;⟨o,e'⟩;refine I.write (x:=a) (e:=dx) (by rw[e];exact Ka) (.inr l) (λb q J z=>(F.2 b J).trans z) hd ?_
 refine⟨by rw[az O.ne];exact l,?_,O.ne,O'.obj,_,O'.ns,λg=>?_,λg B=>?_⟩
 .have:=hV f y fs;lia
 .show RelO ((bR f y fs).lookup g) (if g=f then al u else mA g)
  rw[gU]
  by_cases q:g=f
  .rw[if_pos q,if_pos q];exact L
  .rw[if_neg q,if_neg q];exact r g
 .by_cases q:g=f
  .rw[q];exact(gy f y fs).1
  .refine (gy f y fs).2 g (j g λz=>B ?_)
   show (if g=f then al u else mA g)=ee
   rw[if_neg q];exact z
theorem zW(I:Inv X RE Y H s):Inv X RE Y (upd (upd H s.heap.objs.size<|.own (s.heap.objs.size+1)) (s.heap.objs.size+1)<|.ins C s.heap.objs.size [])
  { s with heap:=(s.heap.push KQ).push (LL C s.heap.objs.size) }:=by
 have g:(s.heap.push KQ).get? s.heap.objs.size=al KQ:=Jk s.heap rfl;have z:((s.heap.push KQ).push<|LL C s.heap.objs.size).get? (s.heap.objs.size+1)=al (LL C s.heap.objs.size):=by
  have:=Jk (s.heap.push KQ) (o:=LL C s.heap.objs.size) rfl
  rwa [JP]at this
 have l:(s.heap.push KQ).Ns s.heap.objs.size (λ_=>ee):=⟨KQ,#[],_,g,rfl,(λe j=>absurd j (by simp)),λ_=>rfl⟩
 have I1:=I.laid (a:=s.heap.objs.size) (o:=.own (s.heap.objs.size+1)) (h':=s.heap.push KQ) (t':=s.toks) (λb u q=>Jb _ q) (Jg _) ⟨_,g⟩;refine I1.laid (a:=s.heap.objs.size+1) (o:=.ins C s.heap.objs.size []) (t':=s.toks) (λb u q=>Jb _ q) (Nat.le_of_eq<|JP _ _) ?_;have ne:s.heap.objs.size≠s.heap.objs.size+1:=Jo (L9 _);refine⟨by rw[az ne,upd_same],Kv _,ne,z,λ_=>ee,(Heap.Ns1.of_empty l).at λo q=>Jb _ q,λ_=>Ka,λy n=>absurd rfl n⟩
theorem AK{prog:fy}{env:Env}{f:Str}(g:n7 e f env (g5 e env)=g5 e env)(h:eH (fm prog w) A (g5 e env) (λo s₁=>eH (fm prog w) A (getAttr o f true) Q E s₁) E s):eH (fm prog w) A (g5 (.Attribute e f pos) env) Q E s:=
 Attribute_any_ h (by rw[arm_eval_Attribute,g])
end
def tFld(K:Jd)(ta:TE)(f:Str):TE:=λY H Q=>ta Y H λx H1=>∃a C dx fs v,x=.ref a/\H1 a=al (.ins C dx fs)/\Cls K C/\NoAttr K C f/\fs.lookup f=al v/\Q v H1
def sFld(K:Jd)(ta tv:TE)(f:Str):TS:=λD Y H=>tv Y H λy H1=>ta Y H1 λx H2=>∃a C dx fs,x=.ref a/\H2 a=al (.ins C dx fs)/\Cls K C/\NoAttr K C f/\fs.length<1000/\
 D.nx Y (upd H2 a<|.ins C dx<|bR f y fs)
def G7(X:Cx)(op:Qo)(rd:V->V->Hp->VK->Prop):Prop:=
 ∀(RE:RU)(s:c8)(Y:St)(H:Hp)(x y:V)(u v:c0)(Q:VK),Inv X RE Y H s->RelV x u->RelV y v->rd x y H Q->eH (fm X.prog X.w) X.A (inplaceOp op u v) (EP X RE Y Q) X.xe s
def Ap(K:Jd)(ta tv:TE)(rd:V->V->Hp->VK->Prop)(f:Str):TS:=λD Y H=>ta Y H λx H1=>∃a C dx fs v,x=.ref a/\H1 a=al (.ins C dx fs)/\Cls K C/\NoAttr K C f/\fs.lookup f=al v/\
 tv Y H1 λy H2=>rd v y H2 λz H3=>∃dx' fs',H3 a=al (.ins C dx' fs')/\fs'.length<1000/\D.nx Y (upd H3 a<|.ins C dx'<|bR f z fs')
section
variable{o value:fx}{f:Str}{tpos:Pos}{tv:TE}
theorem E_(F:PE X e ta)(G:n7 e f X.env (g5 e X.env)=g5 e X.env):PE X (.Attribute e f pos) (tFld X.K ta f):=by
 intro RE s Y H Q I h;refine AK G (aW (F RE s Y H _ I h) λu J B=>?_);obtain⟨x,H1,I1,j,a,C,dx,fs,v,y,g,c,n,l,q⟩:=B;subst y;obtain rfl:u=Jv a:=j;exact ka I1 g c n l λO L I2 z=>⟨v,H1,I2,z,q⟩
theorem Er(R:PE X o ta)(O:PE X value tv)(L:rc value (al<|.Attribute o f pos') pos.line X.env=pure eo):PS X (.Assign [.Attribute o f pos'] value pos) (sFld X.K ta tv f):=by
 intro RE s Y H D I h;refine plainObj_wpAny_Assign_Attribute (aW (O RE s Y H _ I h) λu v ⟨y,H1,I1,z,q⟩=>aW (R RE v Y H1 _ I1 q) λg T J=>?_) L;obtain⟨x,H2,I2,F,a,C,dx,fs,G,B,c,n,l,j⟩:=J;subst G;obtain rfl:g=Jv a:=F;exact jW I2 B c n l z λS I3=>⟨Y,_,I3,j⟩
theorem lA{B:V->V->Hp->VK->Prop}(ha:PE X o ta)(hv:PE X value tv)(j:G7 X op B):PS X (.AugAssign (.Attribute o f tpos) op value pos) (Ap X.K ta tv B f):=by
 intro RE s Y H D I h;refine wpAny_AugAssign_AttributeAny (aW (ha RE s Y H _ I h) λF s1 zz=>?_);obtain⟨x,H1,I1,S,a,C,dx,fs,v,ex,O,c,n,l,q⟩:=zz;subst ex;obtain rfl:F=Jv a:=S;refine ka I1 O c n l λu Z I2 U=>aW (hv RE Z Y H1 _ I2 q) λL s3 ⟨y,H2,I3,ry,q3⟩=>aW (j RE s3 Y H2 v y u L _ I3 U ry q3) λw4 s4 ⟨z,H3,I4,J,R,W,g,G,T⟩=>?_;exact jW I4 g c n G J λs5 I5=>⟨Y,_,I5,T⟩
def rAdd:V->V->Hp->VK->Prop:=λx y H Q=>∃i j,x=.int i/\y=.int j/\Q (.int (i+j)) H
def rSub:V->V->Hp->VK->Prop:=λx y H Q=>∃i j,x=.int i/\y=.int j/\Q (.int (i-j)) H
theorem Ek:G7 X .Add rAdd:=by
 rintro RE s Y H x y u v Q I l g ⟨i,j,rfl,rfl,q⟩
 obtain⟨t,rfl⟩:=(show ∃t,u=Kx i t from l);obtain⟨t',rfl⟩:=(show ∃t',v=Kx j t' from g);exact PyProof.Rows.iadd_int ⟨.int (i+j),H,I.tok _,⟨_,rfl⟩,q⟩
theorem DH:G7 X .Sub rSub:=by
 rintro RE s Y H x y u v Q I l g ⟨i,j,rfl,rfl,q⟩
 obtain⟨t,rfl⟩:=(show ∃t,u=Kx i t from l);obtain⟨t',rfl⟩:=(show ∃t',v=Kx j t' from g);exact PyProof.Rows.isub_int ⟨.int (i-j),H,I.tok _,⟨_,rfl⟩,q⟩
end
section
variable{c:c0}{b:Bool}
inductive TyOf(K:Jd)(H:Hp):V->c0->Prop where
 |non:TyOf K H .non (.type "NoneType")
 |bl (x:Bool):TyOf K H (.bl x) (.type "bool")
 |int (i:Int):TyOf K H (.int i) (.type "int")
 |str (x:Str):TyOf K H (.str x) (.type "str")
 |flt (x:UInt64):TyOf K H (.flt x) (.type "float")
 |lst {a:eg} {xs:List V} (e:H a=al (.lst xs)):TyOf K H (.ref a) (.type "list")
 |frz {a:eg} {o:Obj} {xs:List V} (e:H a=al (.frz o<|.lst xs)):TyOf K H (.ref a) (.type "list")
 |tup {a:eg} {xs:List V} (e:H a=al (.tup xs)):TyOf K H (.ref a) (.type "tuple")
 |dK {a:eg} {RG:List (ax×V)} (e:H a=al (.dK RG)):TyOf K H (.ref a) (.type "dict")
 |dT {a:eg} {RG:List (List ax×V)} (e:H a=al (.dT RG)):TyOf K H (.ref a) (.type "dict")
 |ins {a C dx:eg} {fs:List (Str×V)} (e:H a=al (.ins C dx fs)) (cl:Cls K C) (ha:JN K (.ref C) "__class__"=al (al<|.builtin "object.__class__"))
   (hn:W.specialIn K (.builtin "object.__class__") "__get__"=al (al<|.builtin "getset_descriptor.__get__")) (htk:W.takesIn K (.builtin "object.__class__")=al true)
   (hm:Kd K C (.type "object")=al true):TyOf K H (.ref a) (.ref C)
theorem vh{x:V}{t:c0}(I:Inv X RE Y H s)(g:RelV x u)(ty:TyOf X.K H x t)(e:Lv X.K t c=al b)(h:∀F,Q (.bool b) { s with toks:=F }):
  eH (fm X.prog X.w) A (call (.builtin "isinstance") [u,c]) Q E s:=by
 cases ty with
 |non=>cases (show u=Kr from g);exact KH W.kitx_none I.kIn Ka e (λz=>nomatch z) h
 |bl y=>cases (show u=JV y from g);exact KH W.kitx_bool I.kIn Ka e (λz=>nomatch z) h
 |int i=>obtain⟨t,q⟩:=(show ∃t,u=Kx i t from g);cases q;exact KH W.kitx_int I.kIn Ka e (λz=>nomatch z) h
 |str y=>obtain⟨t,q⟩:=(show ∃t,u=LV y t from g);cases q;exact KH W.kitx_str I.kIn Ka e (λz=>nomatch z) h
 |flt y=>obtain⟨t,q⟩:=(show ∃t,u=NX y t from g);cases q;exact KH W.kitx_float I.kIn Ka e (λz=>nomatch z) h
 |@lst a l ea=>
  cases (show u=Jv a from g);obtain⟨_,_,n,_,j⟩:=(show ObjOk X.prog X.w H s.heap a (.lst l) from I.hok a _ ea);exact KH W.kitx_list I.kIn ⟨_,j,rfl⟩ e (λz=>nomatch z) h
 |@frz a ob l ea=>
  cases (show u=Jv a from g);obtain⟨_,_,_,n,_,j⟩:=(show ObjOk X.prog X.w H s.heap a (.frz ob<|.lst l) from I.hok a _ ea);exact KH W.kitx_list I.kIn ⟨_,j,rfl⟩ e (λz=>nomatch z) h
 |@tup a l ea=>
  cases (show u=Jv a from g);obtain⟨_,_,_,p⟩:=(show ObjOk X.prog X.w H s.heap a (.tup l) from I.hok a _ ea);obtain⟨o,j,⟨v,_⟩,_⟩:=p;exact KH W.kitx_tuple I.kIn ⟨o,j,v⟩ e (λz=>nomatch z) h
 |@dK a RG ea=>
  cases (show u=Jv a from g);obtain⟨_,_,L,_,p⟩:=(show ObjOk X.prog X.w H s.heap a (.dK RG) from I.hok a _ ea);obtain⟨o,es,B,j,v,_⟩:=p;exact KH W.kitx_dict I.kIn ⟨o,j,v.1⟩ e (λz=>nomatch z) h
 |@dT a RG ea=>
  cases (show u=Jv a from g);obtain⟨_,_,l,_,o,es,B,j,v,_⟩:=(show ObjOk X.prog X.w H s.heap a (.dT RG) from I.hok a _ ea);exact KH W.kitx_dict I.kIn ⟨o,j,v.1⟩ e (λz=>nomatch z) h
 |@ins a C dx fs ea cl ha hn htk hm=>
  cases (show u=Jv a from g);obtain⟨mA,O,_⟩:=j8 I.hok ea;obtain⟨G,J,_⟩:=O.look;exact KH (W.kitx_own (cl.get _) cl.hd ha hn htk hm) I.kIn J e (λz=>nomatch z) h
end
structure Room(k:Nat)(A:j0):Prop where
 hd:A.handled=ee
 dp:A.depth+3*k+5<recursionLimit
 un:A.units+16*k+200<rz
 gd:A.guards=al []
theorem Room.mono{j k:Nat}(r:Room k A)(h:j<=k):Room j A:=⟨r.hd,by have:=r.dp;lia,by have:=r.un;lia,r.gd⟩
theorem Room.deeper{k:Nat}(r:Room (k+1) A)(env:Env):Room k (A.deeper env):=
 ⟨r.hd,by have:=r.dp;show A.depth+1+3*k+5<_;lia,by have:=r.un;show A.units+3+16*k+200<_;lia,r.gd⟩
theorem qu:(A.under<|.builtin "type.__call__" ⟨.ref C::us,kw⟩).depth=A.depth+1:=by
 first|rfl|simp[MG,Code.weight,Code.isCreation,Code.isGuard,Code.isCaller,Code.frames,NS,guardIds]
theorem rO:(A.under<|.builtin "type.__call__" ⟨.ref C::us,kw⟩).units=A.units+1:=by
 first|rfl|simp[MG,Code.cUnits,Code.frames,NS]
theorem pS:(A.under<|.builtin "type.__call__" ⟨.ref C::us,kw⟩).guards=A.guards:=by
 first|rfl|simp[MG,Code.guards,pushGuards,Code.isGuard,guardIds]
theorem Room.make{k:Nat}(r:Room (k+1) A)(C:eg)(us:RO)(kw:List (Str×c0)):Room k (A.under<|.builtin "type.__call__" ⟨.ref C::us,kw⟩):=
 ⟨r.hd,by have:=r.dp;rw[qu];lia,by have:=r.un;rw[rO];lia,by rw[pS];exact r.gd⟩
theorem Room.depth{k:Nat}(r:Room k A):A.depth<recursionLimit:=by have:=r.dp;lia
theorem Room.units{k:Nat}(r:Room k A):A.units+64<cLine:=by have:=r.un;lia
def Hm:TA:=λ_ H Q=>Q [] H
def Iq(ta:TE)(tr:TA):TA:=λY H Q=>ta Y H λx H1=>tr Y H1 λg H2=>Q (x::g) H2
section
theorem zd:PA X [] Hm:=λ_ _ _ _ H Q I h=>Le ⟨[],H,I,.nil,h⟩
theorem uJ(B:PE X e te)(z:PA X es t)(y:fe (e::es) X.env=(eo,g5 e X.env)::fe es X.env:=by rfl):PA X (e::es) (Iq te t):=by
 intro pos RE s Y H Q I h;rw[y];show eH _ _ (spliced ((eo,g5 e X.env)::ik pos (fe es X.env))) _ _ s;refine Ks (aW (B RE s Y H _ I h) λu j ⟨x,H1,I1,l,n⟩=>?_);exact aW (z pos RE j Y H1 _ I1 n) λus F ⟨q,H2,I2,v,g⟩=>⟨x::q,H2,I2,.cons l v,g⟩
def tTup(t:TA):TE:=λY H Q=>t Y H λg H1=>g.length<=sizeLine/\∀p,H1 p=ee->Q (.ref p) (upd H1 p<|.tup g)
def tLst(t:TA):TE:=λY H Q=>t Y H λg H1=>g.length<=sizeLine/\∀p,H1 p=ee->Q (.ref p) (upd H1 p<|.lst g)
theorem FQ{x1}(h:PA X es t):PE X (.Tuple es x1 pos) (tTup t):=by
 intro RE s Y H Q I l;refine wpAny_Tuple_spliced (aW (h pos RE s Y H _ I l) λus g ⟨n,H1,I1,r,z,q⟩=>⟨by rw[<- r.length];exact z,?_⟩)
 have j:H1 g.heap.objs.size=none:=I1.hok.fresh (Jg _);refine⟨.ref g.heap.objs.size,upd H1 g.heap.objs.size (.tup n),I1.laid (t':=g.toks) (λb u e=>Jb _ e) (Jg _) ?_,rfl,q _ j⟩;exact⟨z,us,r,⟨_,Jk _ rfl,⟨rfl,_,rfl⟩,rfl⟩⟩
theorem G9(h:PA X es t):PE X (.List es pos) (tLst t):=by
 intro RE s Y H Q I l;refine wpAny_List_spliced (aW (h pos RE s Y H _ I l) λus g ⟨n,H1,I1,r,z,q⟩=>⟨by rw[<- r.length];exact z,?_⟩)
 have j:H1 g.heap.objs.size=none:=I1.hok.fresh (Jg _);refine⟨.ref g.heap.objs.size,upd H1 g.heap.objs.size (.lst n),I1.laid (t':=g.toks) (λb u e=>Jb _ e) (Jg _) ?_,rfl,q _ j⟩;exact⟨z,us,0,r,Jk _ rfl⟩
end
abbrev Sp:=List V->Hp->VK->XK->Prop
abbrev k_:=List Env->Hp->c8->XK->c0->c8->Prop
structure Env0(P:fy)(w:h7)(K:Jd)(mg:RV)(base:i5)(A:j0)(outer:List Env)(s:c8)(H:Hp):Prop where
 frames:A.frames=al outer
 mod:Mod K mg base
 bs:∀b o,base.get? b=al o->s.heap.get? b=al o/\H b=ee
 bsz:base.objs.size<=s.heap.objs.size
 funs:s.heap.FunFrames base outer
 frf:∀b∈dL outer,H b=ee
 hok:HOk P w H s.heap
 bare:Qi s.gens
def CE(outer:List Env)(P:fy)(w:h7)(H:Hp)(s:c8)(Q:VK)(u:c0)(s':c8):Prop:=
 ∃v H',s'.os=s.os/\Qi s'.gens/\Un (dL outer) [] H H' s.heap s'.heap/\HOk P w H' s'.heap/\RelV v u/\Q v H'
def CR(CX:k_)(outer:List Env)(P:fy)(w:h7)(H:Hp)(s:c8)(Q:VK)(E:XK)(r:Q3)(s':c8):Prop:=
 match r with
 |.ok (.ret u)=>CE outer P w H s Q u s'
 |.ok _=>False
 |.error e=>CX outer H s E e s'
structure FnOk(P:fy)(w:h7)(K:Jd)(mg:RV)(base:i5)(CX:k_)(k:Nat)(f:eg)(fd:hI)(ps:RN)(sp:Sp):Prop where
 len:∀vs H Q E,sp vs H Q E->vs.length=ps.length
 run:∀(A:j0)(outer:List Env)(s:c8)(H:Hp)(args:Args)(us:RO)(vs:List V)(Q:VK)(E:XK),Room k A->Env0 P w K mg base A outer s H->QT s fd args (ps.zip us)->Vals vs us->sp vs H Q E->
  P3 (fm P w) A (.call (.ref f) args) (CR CX outer P w H s Q E) s
theorem FnOk.imp{k:Nat}{l:Sp}(F:FnOk P w K mg base CX k f fd ps sp)(h:∀vs H Q E,l vs H Q E->sp vs H Q E):FnOk P w K mg base CX k f fd ps l:=
 ⟨λvs H Q E q=>F.len vs H Q E (h _ _ _ _ q),λA g s H j us vs Q E n y v B z=>F.run A g s H j us vs Q E n y v B (h _ _ _ _ z)⟩
theorem Env0.make{g:List Env}(e:Env0 P w K mg base A g s H)(C:eg)(us:RO)(kw:List (Str×c0)):
  Env0 P w K mg base (A.under<|.builtin "type.__call__" ⟨.ref C::us,kw⟩) g s H:=⟨by first|exact e.frames|(simpa [MG,Code.envs,NS,pushEnvs] using e.frames),e.mod,e.bs,e.bsz,e.funs,e.frf,e.hok,e.bare⟩
section
variable{s':c8}
theorem Inv.env0(I:Inv X RE Y H s):Env0 X.prog X.w X.K X.mg X.base X.A X.stack s H:=
 ⟨I.ok.frames,I.ok.mod,I.bs,JC I.ok.bsz I.sz,I.stack,I.stkFree,I.hok,I.bare⟩
theorem Inv.after{Q:VK}(I:Inv X RE Y H s)(h:CE X.stack X.prog X.w H s Q u s'):EP X RE Y Q u s':=by
 obtain⟨v,H',os,j,un,l,r,q⟩:=h;obtain⟨y,g,d,t,n⟩:=s';obtain rfl:n=s.os:=os;exact⟨v,H',I.call (h':=y) (g':=g) (d':=d) (t':=t) (ch:=[]) un l j (λb z=>absurd z (by simp)),r,q⟩
end
def Im(sp:Sp)(dvs:List V)(E:XK)(t:TA):TE:=λY H Q=>t Y H λg H1=>sp (g++dvs) H1 Q E
def Dm(C:eg)(m:Str)(sp:Sp)(dvs:List V)(E:XK)(ta:TE)(t:TA):TE:=λY H Q=>ta Y H λx H1=>∃a dx fs,x=.ref a/\H1 a=al (.ins C dx fs)/\fs.lookup m=ee/\
 t Y H1 λg H2=>sp (x::(g++dvs)) H2 Q E
def Hw(C:eg)(sp:Sp)(dvs:List V)(E:XK)(t:TA):TE:=λY H Q=>t Y H λg H1=>∀x dx,H1 x=ee->H1 dx=ee->dx≠x->
 sp (.ref x::(g++dvs)) (upd (upd H1 dx<|.own x) x<|.ins C dx []) (λv H2=>v=.non/\Q (.ref x) H2) E
def Binds(K:Jd)(fd:hI)(ps:RN)(ds:RO):Prop:=
 ∀(s:c8)(us:RO),K.In s.heap->(us++ds).length=ps.length->QT s fd ⟨us,[]⟩ (ps.zip (us++ds))
theorem Binds.all(h:∀us:List c0,us.length=ps.length->QZ fd ⟨us,[]⟩=pure (ps.zip us)):Binds K fd ps []:=λs us _ g=>by
 rw[JR]at g ⊢;exact .of_eq (h us g)
def bi(CX:k_)(X:Cx)(E:XK):Prop:=∀(RE:RU)(Y:St)(H:Hp)(s:c8)(e:c0)(s':c8),Inv X RE Y H s->CX X.stack H s E e s'->X.xe e s'
section
variable{k:Nat}{dvs:List V}{ds:RO}{E:XK}{RJ:Pos}{o:fx}
theorem rR{Q:VK}{vs:List V}(F:FnOk X.prog X.w X.K X.mg X.base CX k f fd ps sp)(z:Room k X.A)(q:Binds X.K fd ps ds)(v:Vals dvs ds)(y:bi CX X E)(I:Inv X RE Y H s)(r:Vals vs us)(h:sp (vs++dvs) H Q E):eH (fm X.prog X.w) X.A (call (.ref f) us) (EP X RE Y Q) X.xe s:=by
 have j:Vals (vs++dvs) (us++ds):=r.append v;have l:(us++ds).length=ps.length:=by rw[<- j.length];exact F.len _ _ _ _ h
 refine QD (Os (F.run X.A X.stack s H ⟨us,[]⟩ (us++ds) (vs++dvs) Q E z I.env0 (q s us I.kIn l) j h) λr n g=>?_);cases r with
 |error e=>exact y RE Y H s e n I g
 |ok fl=>
  cases fl with
  |ret u=>exact I.after g
  |next=>exact JF g
  |brk=>exact JF g
  |cont=>exact JF g
theorem Ae(F:FnOk X.prog X.w X.K X.mg X.base CX k f fd ps sp)(z:Room k X.A)(l:Gl X x)(G:X.mg x=al (.ref f))(v:J4 X.K (.ref f)=true)(y:Binds X.K fd ps ds)(j:Vals dvs ds)(n:bi CX X E)(B:PA X (e::es) t)(g:(x==("__debug__":Str))=false:=by decide)(he:fe (e::es) X.env=(eo,g5 e X.env)::fe es X.env:=by rfl)(hpl:(ik pos<|starEach es X.env).any (·.1)=false:=by rfl):
  PE X (.Call (.Name x p) (e::es) [] pos) (Im sp dvs E t):=by
 intro RE s Y H Q I h;refine p5 (cG I l G ?_ g);refine Mo (h₀:=X.base) I.ok.mod.kin v (aW (B pos RE s Y H _ I h) λus J ⟨L,H1,I1,r,q⟩=>⟨I1.kIn,?_⟩) he hpl;exact rR F z y j n I1 r q
theorem Ay{pl:Sem Bool}(J:PE X o ta)(c:Cls X.K C)(j:Meth X.K C m f)(F:FnOk X.prog X.w X.K X.mg X.base CX k f fd ps sp)(S:Room k X.A)(R:Binds X.K fd ps ds)(L:Vals dvs ds)(O:bi CX X E)(T:PA X (e::es) t)(g:fe (e::es) X.env=(eo,g5 e X.env)::fe es X.env:=by rfl)(hpl:(ik pos<|starEach es X.env).any (·.1)=false:=by rfl)(ht:g5 (.Call (.Attribute o m RJ) (e::es) [] pos) X.env=(do
   let ov <- g5 o X.env
   Qg RJ.atName
   let (f,first) <- vr [ov] (Qc ov m pl)
   QM pos f first (ik pos<|starEach (e::es) X.env) (NE pos<|keywordEach [] X.env)):=by rfl):
  PE X (.Call (.Attribute o m RJ) (e::es) [] pos) (Dm C m sp dvs E ta t):=by
 intro RE s Y H Q I h;refine W.methodCall_KW (pl:=pl) (aW (J RE s Y H _ I h) λu v G=>?_) ht;obtain⟨x,H1,I1,z,a,dx,fs,B,y,l,q⟩:=G;subst B;obtain rfl:u=Jv a:=z;refine jF I1 y c j l ?_;refine Mo (first:=[.ref a]) (h₀:=X.base) I.ok.mod.kin j.kp (aW (T pos RE v Y H1 _ I1 q) λus U ⟨vs,H2,I2,r,n⟩=>⟨I2.kIn,?_⟩) g hpl
 exact rR (us:=.ref a::us) (vs:=.ref a::vs) F S R L O I2 (.cons rfl r) n
theorem ww{pl:Sem Bool}(z:PE X o ta)(c:Cls X.K C)(g:Meth X.K C m f)(F:FnOk X.prog X.w X.K X.mg X.base CX k f fd ps sp)(O:Room k X.A)(L:Binds X.K fd ps ds)(B:Vals dvs ds)(G:bi CX X E)(J:g5 (.Call (.Attribute o m RJ) [] [] pos) X.env=(do
   let ov <- g5 o X.env
   Qg RJ.atName
   let (f,first) <- vr [ov] (Qc ov m pl)
   QM pos f first (ik pos<|starEach [] X.env) (NE pos<|keywordEach [] X.env)):=by rfl):
  PE X (.Call (.Attribute o m RJ) [] [] pos) (Dm C m sp dvs E ta Hm):=by
 intro RE s Y H Q I h;refine W.methodCall_KW (pl:=pl) (aW (z RE s Y H _ I h) λu R y=>?_) J;obtain⟨x,H1,I1,n,a,dx,fs,v,j,l,q⟩:=y;subst v;obtain rfl:u=Jv a:=n;refine jF I1 j c g l ?_;exact W.callWith_K0 (first:=[.ref a]) I1.kIn g.kp (rR (us:=[.ref a]) (vs:=[.ref a]) F O L B G I1 (.cons rfl .nil) q)
structure Mk(K:Jd)(C f:eg):Prop where
 makes:MD K C=true
 init:JN K (.ref C) "__init__"=al (al<|.ref f)
 fn:W.isFn K (.ref f)=true
 kp:J4 K (.ref C)=true
theorem xw{Q:VK}{vs:List V}(M:Mk X.K C f)(F:FnOk X.prog X.w X.K X.mg X.base CX k f fd ps sp)(O:Room (k+1) X.A)(G:Binds X.K fd ps ds)(J:Vals dvs ds)(L:bi CX X E)(I:Inv X RE Y H s)(r:Vals vs us)(h:∀x dx,H x=ee->H dx=ee->dx≠x->sp (.ref x::(vs++dvs)) (upd (upd H dx<|.own x) x<|.ins C dx []) (λv H2=>v=.non/\Q (.ref x) H2) E):
  eH (fm X.prog X.w) X.A (call (.ref C) us) (EP X RE Y Q) X.xe s:=by
 have j:=h (s.heap.objs.size+1) s.heap.objs.size (I.hok.fresh<|M8 _) (I.hok.fresh<|Jg _) (Jo<|L9 _);have I2:=zW (C:=C) I;have l:Vals (V.ref (s.heap.objs.size+1)::(vs++dvs)) (Jv (s.heap.objs.size+1)::(us++ds)):=.cons rfl (r.append J);have n:(Jv (s.heap.objs.size+1)::us++ds).length=ps.length:=by
  have e:=l.length;rw[F.len _ _ _ _ j]at e;exact e.symm
 refine QD (yS (f:=f) I.kIn M.makes M.init (beq_iff_eq.mp M.fn) (Os (F.run _ X.stack _ _ ⟨Jv (s.heap.objs.size+1)::us,[]⟩ (Jv (s.heap.objs.size+1)::(us++ds)) _ _ E (O.make C us [])
  (I2.env0.make C us []) (G _ (Jv (s.heap.objs.size+1)::us) I2.kIn n) l j) λr y g=>?_))
 cases r with
 |error e=>exact L RE Y _ _ e y I2 g
 |ok fl=>
  cases fl with
  |ret u=>
   obtain⟨v,H',I3,q,B,z⟩:=I2.after g;subst B;exact⟨q,⟨V.ref (s.heap.objs.size+1),H',I3,rfl,z⟩⟩
  |next=>exact JF g
  |brk=>exact JF g
  |cont=>exact JF g
theorem BL(M:Mk X.K C f)(F:FnOk X.prog X.w X.K X.mg X.base CX k f fd ps sp)(y:Room (k+1) X.A)(l:Gl X x)(B:X.mg x=al (.ref C))(v:Binds X.K fd ps ds)(j:Vals dvs ds)(n:bi CX X E)(z:PA X (e::es) t)(g:(x==("__debug__":Str))=false:=by decide)(he:fe (e::es) X.env=(eo,g5 e X.env)::fe es X.env:=by rfl)(hpl:(ik pos<|starEach es X.env).any (·.1)=false:=by rfl):
  PE X (.Call (.Name x p) (e::es) [] pos) (Hw C sp dvs E t):=by
 intro RE s Y H Q I h;refine p5 (cG I l B ?_ g);refine Mo (h₀:=X.base) I.ok.mod.kin M.kp (aW (z pos RE s Y H _ I h) λus G ⟨J,H1,I1,r,q⟩=>⟨I1.kIn,?_⟩) he hpl;exact xw M F y v j n I1 r q
end
section
variable{k:Nat}{ks:RN}{E:XK}{RJ kpos:Pos}{o:fx}{kws:List KM}{tk:TA}{nm:Option Str}
variable{g:List c0->List c0->List c0}{gV:List V->List V->List V}
end
structure FnScope(N P:RN)(sc:Pi):Prop where
 kind:sc.kind=.function
 co:sc.isCoroutine=eo
 gen:sc.isGenerator=eo
 nd:N.Nodup
 pre:N.take P.length=P
 par:∀x∈P,sc.names.lookup x=al .local\/sc.names.lookup x=al .cell
 nofree:∀y∈sc.names,y.2≠.free
theorem lN{g:Str->Option Q4}{x:Str}:∀{binds:List (Str×c0)}{m:RV},(∀v,(x,v)∉binds)->Rf g binds m x=m x
 |[],_,_=>rfl
 |(n,v)::r,m,h=>by
  unfold Rf;rw[lN λw j=>h w (Jj _ j)]
  split
  .have:x≠n:=by rintro rfl;exact h v Jp
   simp[this]
  .rfl
theorem lU{g:Str->Option Q4}{x:Str}:∀{binds:List (Str×c0)}{m:RV},(∀v,(x,v)∉binds)->Rg g binds m x=m x
 |[],_,_=>rfl
 |(n,v)::r,m,h=>by
  unfold Rg;rw[lU λw j=>h w (Jj _ j)]
  split
  .rfl
  .have:x≠n:=by rintro rfl;exact h v Jp
   simp[this]
theorem lg{g:Str->Option Q4}{x:Str}{v:c0}:∀{P:RN}{vs:RO}{i:Nat}{m:RV},P.Nodup->P[i]?=al x->vs[i]?=al v->g x=al .local->
  Rf g (P.zip vs) m x=al v
 |[],_,_,_,_,h,_,_=>by simp at h
 |_::_,[],_,_,_,_,h,_=>by simp at h
 |p::P,w::vs,0,m,nd,h1,h2,hk=>by
  simp at h1 h2;subst h1;subst h2;show Rf g ((p,w)::P.zip vs) m p=_;unfold Rf;rw[lN λv j=>(Kz.mp nd).1 (Mi j).1,if_pos hk];simp
 |p::P,w::vs,i+1,m,nd,h1,h2,hk=>by
  show Rf g ((p,w)::P.zip vs) m x=_;unfold Rf;exact lg (i:=i) (Kz.mp nd).2 (by simpa using h1) (by simpa using h2) hk
theorem kZ{g:Str->Option Q4}{x:Str}{v:c0}:∀{P:RN}{vs:RO}{i:Nat}{m:RV},P.Nodup->P[i]?=al x->vs[i]?=al v->g x≠al .local->
  Rg g (P.zip vs) m x=al v
 |[],_,_,_,_,h,_,_=>by simp at h
 |_::_,[],_,_,_,_,h,_=>by simp at h
 |p::P,w::vs,0,m,nd,h1,h2,hk=>by
  simp at h1 h2;subst h1;subst h2;show Rg g ((p,w)::P.zip vs) m p=_;unfold Rg;rw[lU λv j=>(Kz.mp nd).1 (Mi j).1,if_neg hk];simp
 |p::P,w::vs,i+1,m,nd,h1,h2,hk=>by
  show Rg g ((p,w)::P.zip vs) m x=_;unfold Rg;exact kZ (i:=i) (Kz.mp nd).2 (by simpa using h1) (by simpa using h2) hk
def start(N:RN)(vs:List V):St:=vs.map al++Jm (N.length-vs.length) ee
def cu(CX:k_)(P:fy)(w:h7)(K:Jd)(mg:RV)(base:i5)(N:RN)(RF:Str)(scope:Pi)(f:eg)(cd:c0)(A:j0)(outer:List Env)(s:c8)(H:Hp)(E:XK):Cx where
 prog:=P
 w:=w
 K:=K
 mg:=mg
 base:=base
 A:=A.deeper (envOfC RF scope s.heap.objs.size f cd)
 N:=N
 s₀:=s
 H₀:=H
 env:=envOfC RF scope s.heap.objs.size f cd
 outer:=outer
 stack:=envOfC RF scope s.heap.objs.size f cd::outer
 ex:=[]
 calm:=true
 fn:=λ_=>true
 pn:=[]
 xe:=λe l=>eH (fm P w) (A.deeper<|envOfC RF scope s.heap.objs.size f cd) (leaving (envOfC RF scope s.heap.objs.size f cd) e) (λ_ g=>CX outer H s E e g) (λj g=>CX outer H s E j g) l
theorem o6{g:Pi}{n:Nat}(h:g.names.lookup x=al .cell):∃c,(cellsFrom n g.names []).lookup x=al c:=by
 have q:=W.cellsFrom_some g.names n [] (.inl h);exact Np.mp q
theorem wd{l:Str}{g:Pi}{R:c0}{j:List Env}{W:c8}{E:XK}{vs:List V}(S:FnScope N ps g)(hd:A.handled=ee)(F:Env0 P w K mg base A j s H)(hl:vs.length=ps.length)(r:Vals vs us)(x:InCallC s s.heap.objs.size (Rf (envOfC l g s.heap.objs.size f R).kindOf (ps.zip us) λ_=>ee) (cellsFrom (s.heap.objs.size+1) g.names []) (Rg (envOfC l g s.heap.objs.size f R).kindOf (ps.zip us) λ_=>ee) W):
  Inv (cu CX P w K mg base N l g f R A j s H E) [] (start N vs) H W:=by
 have hpl:ps.length<=N.length:=by have:=congrArg LP S.pre;rw[Lm]at this;lia
 obtain⟨O,tk,rfl,T⟩:=x.done;have G:∀b:eg,b∉(cu CX P w K mg base N l g f R A j s H E).ex:=λb z=>absurd (show b∈([]:RP) from z) (by simp)
 refine⟨⟨F.mod,S.kind,rfl,rfl,Jg _,λy z c O B=>?_,λy hy=>?_,λy c _ h=>?_,λ_=>hd,Around.frames_deeper F.frames,.inr ⟨rfl,rfl⟩,λb z=>absurd z (G b),F.bs,F.bsz,λb _ _=>G b,λb z=>absurd z (G b),F.funs,F.frf⟩,
  rfl,F.bare,Un.kept T,⟨_,x.toInCall.ns,λi y v O B h3=>?_⟩,λy c h=>⟨_,x.cell y c h⟩,F.hok.fresh (Jg _),λy c h=>?_,λp J=>absurd (show p∈([]:RU) from J) (by simp),F.hok.kept T,?_⟩
 .exact name_of_addr x.apart (Kc O) (Kc B)
 .have hy:g.names.lookup y=al .cell\/g.names.lookup y=al .free:=hy
  rcases hy with hy|hy
  .exact o6 hy
  .exact absurd rfl (S.nofree _<|Kc hy)
 .exact N8 (x.above y c<|Kc h)
 .have L:i<vs.length:=by
   unfold start at B
   by_cases L:i<vs.length
   .exact L
   .rw[J0 (by simpa using L)]at B
    rw[Lb]at B
    split at B<;>cases B
  have ha:vs[i]?=al v:=by
   unfold start at B;rw[Ki (by simpa using L),Jw]at B
   cases e:vs[i]? with
   |none=>rw[e]at B;cases B
   |some a=>rw[e]at B;cases B;rfl
  obtain⟨u,U,Z⟩:=r.get ha;have J:ps[i]?=al y:=by
   rw[<- S.pre,List.getElem?_take_of_lt (by lia)];exact O
  have I:ps.Nodup:=by rw[<- S.pre];exact S.nd.sublist (List.take_sublist _ _)
  refine⟨u,Z,?_⟩;rcases S.par y (Og J) with k|k
  .exact .inl ⟨k,lg I J U k⟩
  .obtain⟨c,e⟩:=o6 (n:=s.heap.objs.size+1) k
   refine .inr ⟨.inl k,c,e,?_⟩;have q:=x.cell y c e;rw[kZ I J U (by show g.names.lookup y≠_;rw[k];decide)]at q
   exact q
 .exact F.hok.fresh (N8<|x.above y c<|Kc h)
 .unfold start
  show _=N.length;rw[Jr,Ji,List.length_replicate];lia
theorem Cy{k:Nat}{name l:Str}{B:Arguments}{g:Pi}{dV kV Z pm z ct oc:c0}{an od:Option eg}{osl:Array (Option c0)}(lk:K.lookup f=al ⟨oc,od,.func (Lq name l B body g dV kV Z pm an z ct),osl⟩)(hcd:MZ K z l=true)(S:FnScope N ps g)(len:∀vs H Q E,sp vs H Q E->vs.length=ps.length)(L:∀(A:j0)(j:List Env)(s:c8)(H:Hp)(vs:List V)(Q:VK)(E:XK),Room k (A.deeper<|envOfC l g s.heap.objs.size f z)->sp vs H Q E->
   ∃t,qc (cu CX P w K mg base N l g f z A j s H E) body t/\t { nx:=λ_ H'=>Q .non H',rt:=Q } (start N vs) H):
  FnOk P w K mg base CX (k+1) f (Lq name l B body g dV kV Z pm an z ct) ps sp:=by
 refine⟨len,λA j s H args us vs Q E hr R hb r U=>?_⟩;have hl:=len _ _ _ _ U;have KX:K.In s.heap:=R.mod.kin.keeps λb o e=>(R.bs b o e).1;have lim:s.heap.NoLimit:=R.mod.nolimit.keeps λb o e=>(R.bs b o e).1;have G:∀y∈ps.zip us,g.names.lookup y.1=al .local\/(g.names.lookup y.1=al .cell/\((cellsFrom (s.heap.objs.size+1) g.names []).lookup y.1).isSome=true):=λ⟨n,v⟩ hy=>by
  rcases S.par n (Mi hy).1 with q|q
  .exact .inl q
  .exact .inr ⟨q,W.cellsFrom_some _ _ _<|.inl q⟩
 refine codeAny_call_function hr.depth (KX _ _ lk) rfl S.co S.gen rfl (W.codeRec_of KX hcd) (hb _ _ _ _ ?_);refine wpAny_newFunctionEnv_cells S.kind G λenv he s1 x=>?_;subst he;refine⟨lim.keeps x.toInCall.keep,codeAny_func ?_⟩;obtain⟨t,ht,hq⟩:=L A j s H vs Q E (hr.deeper _) U;have I:Inv (cu CX P w K mg base N l g f z A j s H E) [] (start N vs) H s1:=wd S hr.hd R hl r x;refine kB (ht [] s1 (start N vs) H _ I hq) (λfl s' O=>?_) λe s' O=>O;have T:∀{F:St}{H':Hp}{v:V}{u:c0},Inv (cu CX P w K mg base N l g f z A j s H E) [] F H' s'->RelV v u->Q v H'->CE j P w H s Q u s':=
  λ{F H' v u} J rv q=>⟨v,H',J.os,J.bare,J.base,J.hok,rv,q⟩
 cases fl with
 |ret u=>
  obtain⟨v,F,H',J,rv,q⟩:=O;exact T J rv q
 |next=>
  obtain⟨F,H',J,q⟩:=O;exact T (v:=V.non) (u:=Kr) J rfl q
 |brk=>
  obtain⟨_,_,_,q⟩:=O;exact JF q
 |cont=>
  obtain⟨_,_,_,q⟩:=O;exact JF q
section
variable{id T:String}{r:List V->Hp->VK->Prop}
def tCB(r:List V->Hp->VK->Prop)(t:TA):TE:=λY H Q=>t Y H λg H1=>r g H1 Q
theorem pL(F:bp X (.builtin id) r)(q:Gl X x)(y:X.mg x=ee)(z:g4 x=al (.builtin id))(B:PA X (e::es) t)(v:x≠"__name__":=by decide)(hdb:(x==("__debug__":Str))=false:=by decide)(he:fe (e::es) X.env=(eo,g5 e X.env)::fe es X.env:=by rfl)(hpl:(ik pos<|starEach es X.env).any (·.1)=false:=by rfl):PE X (.Call (.Name x p) (e::es) [] pos) (tCB r t):=by
 intro RE s Y H Q I h;refine p5 (bW I q y z ?_ v hdb);exact PyProof.Rows.callWith_builtin1 (aW (B pos RE s Y H _ I h) λus g ⟨l,H1,I1,j,n⟩=>F RE g Y H1 l us Q I1 j n) he hpl
theorem vo(F:bp X (.type T) r)(q:Gl X x)(y:X.mg x=ee)(z:g4 x=al (.type T))(B:PA X (e::es) t)(v:x≠"__name__":=by decide)(hdb:(x==("__debug__":Str))=false:=by decide)(he:fe (e::es) X.env=(eo,g5 e X.env)::fe es X.env:=by rfl)(hpl:(ik pos<|starEach es X.env).any (·.1)=false:=by rfl):PE X (.Call (.Name x p) (e::es) [] pos) (tCB r t):=by
 intro RE s Y H Q I h;refine p5 (bW I q y z ?_ v hdb);exact JB (aW (B pos RE s Y H _ I h) λus g ⟨l,H1,I1,j,n⟩=>F RE g Y H1 l us Q I1 j n) he hpl
end
end L2
namespace HT
open PySem PyProof.Rows
section
open PySem.SeqAt
open PySem.AutoSeq1 (wpAny_loadPart')
open PySem.MeetsSeq PySem.MeetsSeq2 PySem.MeetsSeq3
end
section
variable {prog:fy}{w:h7}{A:j0}{E:RT}{s:c8}
theorem Ar{t b:eg}{vs a:RO}{Q:RT}(B:QR s.heap t vs.toArray)(C:QR s.heap b a.toArray)(x:vs≠[])
  (y:a=[]->Q (.ref t) s) (z:a≠[]->Q (.ref s.heap.objs.size) { s with heap:=s.heap.push { cls:=.type "tuple",data:=.seq (vs++a).toArray } })
  (hsz:vs.length+a.length<=sizeLine):eH (fm prog w) A (ot .Add (.ref t)<|.ref b) Q E s:=by
 obtain⟨⟨cls,u,data,p⟩,l,v,n,o⟩:=id B;obtain⟨⟨q,f,m,g⟩,c,i,r,h⟩:=id C;simp only at v o i h;subst v o i h;have e:vs.toArray++a.toArray=(vs++a).toArray:=by simp
 by_cases j:a=[]
 .exact Ro ⟨_,l,rfl⟩ ⟨_,c,rfl⟩ QN Ra LW LO (LJ _ _)
   (tuple_addW1 t b vs.toArray a.toArray n r u f p g (by simpa using x)<|by simp[j]) ⟨l,c,y j⟩
 .refine Ro ⟨_,l,rfl⟩ ⟨_,c,rfl⟩ QN Ra LW LO (LJ _ _)
   (tuple_addW2 t b vs.toArray a.toArray n r u f p g (by simpa using x) (by simpa using j)<|by rw[Jc,Jc];exact hsz) ⟨l,c,?_⟩
  rw[e];exact z j
def sIx(n d:Nat):Option Int->Nat
 |none=>d
 |some v=>if v<0 then (v+(n:Int)).toNat else min v.toNat n
theorem wy(n d:Nat):sIx n d ee=d:=rfl
theorem Ca(n d k:Nat):sIx n d (al (k:Int))=min k n:=by
 show (if (k:Int)<0 then ((k:Int)+(n:Int)).toNat else min (k:Int).toNat n)=min k n
 rw[if_neg (by lia),JL]
theorem EM(n d:Nat)(b:d<=n)(o:Option Int):sIx n d o<=n:=by
 cases o with
 |none=>exact b
 |some v=>
  show (if v<0 then (v+(n:Int)).toNat else min v.toNat n)<=n
  by_cases a:v<0
  .rw[if_pos a];lia
  .rw[if_neg a];exact Nat.min_le_right _ _
theorem sR(v:Int)(n d:Nat):(if v<0 then max (v+(n:Int)) 0 else min v (n:Int))=((sIx n d (al v):Nat):Int):=by
 show (if v<0 then max (v+(n:Int)) 0 else min v (n:Int))=(((if v<0 then (v+(n:Int)).toNat else min v.toNat n):Nat):Int)
 by_cases a:v<0
 .simp only[if_pos a];lia
 .simp only[if_neg a];lia
theorem qL(a b:Option Int)(n:Nat):Lo a b 1 (n:Int)=(((sIx n 0 a:Nat):Int),((sIx n n b:Nat):Int)):=by
 have c:¬((1:Int)<0):=by lia
 unfold Lo;simp only[c,if_false];refine Prod.ext ?_ ?_
 .cases a with
  |none=>rfl
  |some v=>exact sR v n 0
 .cases b with
  |none=>rfl
  |some v=>exact sR v n n
theorem qP(i j:Nat):Ky (i:Int) (j:Int) 1=j-i:=by
 unfold Ky;have a:(1:Int)>0:=by lia
 simp only[a,if_true,Int.ediv_one]
 split<;>lia
theorem jL{v:c0}{o:Option Int}{Q:Option Int->c8->Prop}(p:QA v o)(h:Q o s):eH (fm prog w) A (Builtin.Slice.slicePartIndex v) Q E s:=by
 cases p with
 |none=>exact slicePart_none h
 |int i t=>exact slicePart_int h
theorem cV{i:eg}{f g:c0}{a e:Option Int}{n:Nat}{Q:Int×Int×Nat->c8->Prop}(l:s.heap.IsSliceOf i f g .none)(pl:QA f a)(m:QA g e)
  (h:Q (((sIx n 0 a:Nat):Int),1,sIx n n e-sIx n 0 a) s):eH (fm prog w) A (MB (.ref i)<|pure (n:Int)) Q E s:=by
 obtain⟨o,c,j,b⟩:=id l;unfold MB Builtin.Slice.sliceFields;refine cv (cv<|wpAny_field c b (x:=f) rfl<|wpAny_bind<|wpAny_field c b (x:=g) rfl<|wpAny_bind<|wpAny_field c b (x:=.none) rfl<|wpAny_pure ?_);refine cv (slicePart_none ?_);show eH _ _ (if ((1:Int)==0)=true then _ else _) _ _ s
 rw[if_neg (by decide)]
 refine cv (jL pl<|wpAny_bind<|jL m<|wpAny_bind<|wpAny_pure ?_);show eH _ _ (match Lo a e 1 (n:Int) with|(a,e)=>pure (a,(1:Int),Ky a e 1)) _ _ s
 rw[qL a e n];show eH _ _ (pure (((sIx n 0 a:Nat):Int),(1:Int),Ky ((sIx n 0 a:Nat):Int) ((sIx n n e:Nat):Int) 1)) _ _ s;rw[qP];exact eC h
theorem zA(xs:RW)(i k:Nat):((Km k).filterMap λ(m:Nat)=>xs[((i:Int)+(m:Int)*1).toNat]?).toArray=((xs.toList.drop i).take k).toArray:=by
 have e:(λ(m:Nat)=>xs[((i:Int)+(m:Int)*1).toNat]?)=λm=>xs[i+m]?:=by
  funext m;have:((i:Int)+(m:Int)*1).toNat=i+m:=by lia
  rw[this]
 rw[e];have:=pick_run xs i k;rw[List.filterMap_map]at this;have a:((λx=>xs[x]?) ∘ λx=>i+x)=λm=>xs[i+m]?:=rfl;rw[a]at this;rw[this]
theorem fI{t n:eg}{a:RW}{o p:c0}{c e:Option Int}{Q:RT}(f:QR s.heap t a)(r:s.heap.IsSliceOf n o p .none)(pl:QA o c)(y:QA p e)
  (x:¬(sIx a.size 0 c=0/\sIx a.size a.size e=a.size))
  (h:Q (.ref s.heap.objs.size) { s with heap:=s.heap.push { cls:=.type "tuple",data:=.seq ((a.toList.drop<|sIx a.size 0 c).take (sIx a.size a.size e-sIx a.size 0 c)).toArray } })
  (hsz:a.size<=sizeLine):eH (fm prog w) A (Qq (.ref t)<|.ref n) Q E s:=by
 have b:sizeOk (.seq ((a.toList.drop<|sIx a.size 0 c).take (sIx a.size a.size e-sIx a.size 0 c)).toArray):=by
  show ((a.toList.drop<|sIx a.size 0 c).take (sIx a.size a.size e-sIx a.size 0 c)).toArray.size<=sizeLine;rw[Jc,Lm,MW,Lu];lia
 have z:sIx a.size a.size e<=a.size:=EM _ _ (Jg _) e;obtain⟨u,g,i,v⟩:=id r;have l:s.TypeIs (.ref n) "slice":=⟨u,g,i⟩;unfold Qq
 try with_reducible refine pw ?_
 first|refine cv (eC ?_)|skip
 refine cv (wpAny_sequenceKey f.typeIs (by decide) ?_)
 refine cv (wpAny_callSpecial?_slot (name:=JH "__getitem__") f.typeIs JS
  (kl JS f.typeIs entry_tuple_getitem ?_<|args_tuple_getitem _ _))
 show eH _ _ (MA (.ref t) >>= _) _ _ s;refine cv (tupleItemsOf_ f ?_);refine cv (PP l ?_);rw[if_pos (by decide)]
 refine cv (cV r pl y ?_);have j:¬((((sIx a.size 0 c:Nat):Int)==0&&(1:Int)==1&&(sIx a.size a.size e-sIx a.size 0 c)==a.size)=true):=by
  intro q;rw[J3,J3]at q;have C:((sIx a.size 0 c:Nat):Int)=0:=eq_of_beq q.1.1;have B:sIx a.size a.size e-sIx a.size 0 c=a.size:=eq_of_beq q.2;exact x ⟨by lia,by lia⟩
 show eH _ _ (if (((sIx a.size 0 c:Nat):Int)==0&&(1:Int)==1&&(sIx a.size a.size e-sIx a.size 0 c)==a.size)=true then _ else _) _ _ s
 rw[if_neg j,zA]
 first
  |exact cv (m:=Kf _) (ra (eC ⟨_,rfl,eC h⟩) b)
  |exact cv (m:=Kf _) (ra (cv<|wpAny_pure<|wpAny_pure ⟨_,rfl,eC h⟩) b)
  |exact cv (cv (m:=Kf _)<|wpAny_newObj_type (eC<|wpAny_pure ⟨_,rfl,eC h⟩) b)
  |exact cv (cv (m:=Kf _)<|wpAny_newObj_type (eC ⟨_,rfl,eC h⟩) b)
end
end HT
namespace L2
open PySem PySem.Spec PyProof.Rows
variable{a b:eg}{A:j0}{X:Cx}{e o:fx}{H H':Hp}{RE:RU}{xs:List (List ax×eg×c0)}{RK:RO}{n t':Nat}{pos:Pos}{P:fy}{s:c8}{Y:St}{α:Type}{r u:c0}{E Q:RT}{w:h7}
abbrev TO:=St->Hp->(Option Int->Hp->Prop)->Prop
def PO(X:Cx)(e:Option fx)(t:TO):Prop:=
 ∀(RE:RU)(s:c8)(Y:St)(H:Hp)(Q:Option Int->Hp->Prop),Inv X RE Y H s->t Y H Q->
  eH (fm X.prog X.w) X.A (evalPart e X.env) (λu c=>∃o H',Inv X RE Y H' c/\QA u o/\Q o H') X.xe s
def Bb:TO:=λ_ H Q=>Q ee H
def HV(t:TE):TO:=λY H Q=>t Y H λx H1=>∃i,x=.int i/\Q (al i) H1
section
variable{te:TE}{lo hi:Option fx}{tl th:TO}{p2:Pos}
theorem BX:PO X ee Bb:=by
 intro RE s Y H Q I h;rw[evalPart_none];exact eC ⟨ee,H,I,.none,h⟩
theorem AR(h:PE X e te):PO X (al e) (HV te):=by
 intro RE s Y H Q I c;rw[evalPart_some];refine aW (h RE s Y H _ I c) λu j ⟨x,H1,I1,f,g⟩=>?_;obtain⟨i,rfl,q⟩:=g;obtain⟨t,rfl⟩:=f;exact⟨al i,H1,I1,.int i t,q⟩
def Hl(X:Cx)(r:V->Option Int->Option Int->Hp->VK->Prop):Prop:=
 ∀(RE:RU)(s:c8)(Y:St)(H:Hp)(x:V)(v vl vu:c0)(lo hi:Option Int)(sl:eg)(Q:VK),Inv X RE Y H s->RelV x v->s.heap.IsSliceOf sl vl vu .none->QA vl lo->QA vu hi->r x lo hi H Q->
  ∃T id,Op (.type T) "__getitem__"=pure (al<|.builtin id)/\s.TypeIs v T/\eH (fm X.prog X.w) X.A (Qq v<|.ref sl) (EP X RE Y Q) X.xe s
def tSl(r:V->Option Int->Option Int->Hp->VK->Prop)(te:TE)(tl th:TO):TE:=λY H Q=>te Y H λx H1=>tl Y H1 λl H2=>th Y H2 λu H3=>r x l u H3 Q
theorem xB{r:V->Option Int->Option Int->Hp->VK->Prop}(J:Hl X r)(G:PE X e te)(L:PO X lo tl)(K:PO X hi th):PE X (.Subscript e (.Slice lo hi ee p2) pos) (tSl r te tl th):=by
 intro RE s Y H Q I h;refine Subscript_ (aW (G RE s Y H _ I h) λv m ⟨x,H1,I1,p,z⟩=>?_);refine wpAny_Slice (aW (L RE m Y H1 _ I1 z) λf F ⟨l,H2,I2,pl,i⟩=>aW (K RE F Y H2 _ I2 i) λg c ⟨u,H3,I3,y,t⟩=>?_);rw[evalPart_none];refine eC ?_;have I4:Inv X RE Y H3 { c with heap:=c.heap.push { cls:=.type "slice",data:=.fields #[f,g,.none] } }:=I3.kept (t':=c.toks) λb M q=>Jb _ q;obtain⟨T,id,j,C,B⟩:=J RE { c with heap:=c.heap.push { cls:=.type "slice",data:=.fields #[f,g,.none] } } Y H3 x v f g l u c.heap.objs.size Q I4 p (Heap.IsSliceOf.new ..) pl y t;show eH (fm X.prog X.w) X.A (subscriptTail e (.Slice lo hi ee p2) v<|.ref c.heap.objs.size) (EP X RE Y Q) X.xe { c with heap:=c.heap.push { cls:=.type "slice",data:=.fields #[f,g,.none] } };exact tail_any (ops:=[.ref c.heap.objs.size,v]) C j B (by with_unfolding_all rfl)
def ii(xs:List V)(lo hi:Option Int):List V:=(xs.drop<|HT.sIx xs.length 0 lo).take (HT.sIx xs.length xs.length hi-HT.sIx xs.length 0 lo)
theorem gY(xs:List V)(lo hi:Option Int):(ii xs lo hi).length<=xs.length:=by
 unfold ii;rw[Lm,MW];lia
def rSlT(K:Jd):V->Option Int->Option Int->Hp->VK->Prop:=λx lo hi H Q=>∃a xs,x=.ref a/\fg K H a xs/\
 ¬(HT.sIx xs.length 0 lo=0/\HT.sIx xs.length xs.length hi=xs.length)/\∀p,H p=ee->Q (.ref p) (upd H p<|.tup<|ii xs lo hi)
theorem Fz:Hl X (rSlT X.K):=by
 intro RE s Y H x v t B lo hi y Q I m p pl l h;obtain⟨a,xs,rfl,i,j,q⟩:=h;cases m;obtain⟨RK,r,g,f⟩:=I.tuple i;have c:RK.toArray.size=xs.length:=by rw[Jc];exact r.length.symm
 refine⟨"tuple",_,JS.lookup,g.typeIs,?_⟩;refine HT.fI g p pl l (by rw[c];exact j) ?_ (by rw[c];exact f)
 rw[c];refine⟨.ref s.heap.objs.size,_,I.laid (t':=s.toks) (o:=.tup (ii xs lo hi)) (λb z q=>Jb _ q) (Jg _) ?_,rfl,q _<|I.hok.fresh<|Jg _⟩;exact⟨JC (gY xs lo hi) f,_,(r.drop<|HT.sIx xs.length 0 lo).take (HT.sIx xs.length xs.length hi-HT.sIx xs.length 0 lo),⟨_,Jk _ rfl,⟨rfl,_,rfl⟩,rfl⟩⟩
def Gv(K:Jd):R2:=λx y H Q=>∃a b xs ys,x=.ref a/\y=.ref b/\fg K H a xs/\fg K H b ys/\xs≠[]/\xs.length+ys.length<=sizeLine/\
 (ys=[]->Q (.ref a) H)/\(ys≠[]->∀p,H p=ee->Q (.ref p) (upd H p<|.tup (xs++ys)))
theorem Vals.nil_iff{xs:List V}{us:RO}(r:Vals xs us):us=[]↔xs=[]:=by
 cases r with
 |nil=>simp
 |cons _ _=>simp
theorem AW:bZ X (ot .Add) (Gv X.K):=by
 intro RE s Y H x y v u Q I C p h;obtain⟨a,b,xs,B,rfl,rfl,F,l,i,f,t,j⟩:=h;cases C;cases p;obtain⟨RK,c,m,_⟩:=I.tuple F;obtain⟨g,r2,p2,_⟩:=I.tuple l;refine HT.Ar m p2 (λz=>i (c.nil_iff.mp z)) (λz=>⟨.ref a,H,I,rfl,t<|r2.nil_iff.mp z⟩) (λz=>?_) (by rw[<- c.length,<- r2.length];exact f)
 refine⟨.ref s.heap.objs.size,_,I.laid (t':=s.toks) (o:=.tup (xs++B)) (λb G q=>Jb _ q) (Jg _) ?_,rfl,j (λw=>z (r2.nil_iff.mpr w)) _<|I.hok.fresh<|Jg _⟩;exact⟨by rw[Jr];exact f,_,c.append r2,⟨_,Jk _ rfl,⟨rfl,_,rfl⟩,rfl⟩⟩
end
def qQ(n:Nat)(i:Int):Option Nat:=if 0<=i then (if i<n then al i.toNat else ee) else if -(n:Int)<=i then al (i+n).toNat else ee
def atI{α:Type}(xs:List α)(i:Int):Option α:=(qQ xs.length i).bind λj=>xs[j]?
theorem nV{i:Int}{j:Nat}(h:qQ n i=al j):Re i n=al j/\j<n/\-(n:Int)<=i/\i<n:=by
 unfold qQ at h
 by_cases f:0<=i
 .rw[if_pos f]at h
  by_cases c:i<n
  .rw[if_pos c]at h
   have e:i.toNat=j:=JT h;exact⟨by rw[RA f c,e],by lia,by lia,c⟩
  .rw[if_neg c]at h;cases h
 .rw[if_neg f]at h
  by_cases c:-(n:Int)<=i
  .rw[if_pos c]at h
   have e:(i+n).toNat=j:=JT h;exact⟨by rw[Rl (by lia) c,e],by lia,c,by lia⟩
  .rw[if_neg c]at h;cases h
theorem m_{xs:List α}{i:Int}{v:α}(h:atI xs i=al v):∃j,Re i xs.length=al j/\xs[j]?=al v/\j<xs.length/\-(xs.length:Int)<=i/\i<xs.length:=by
 unfold atI at h;cases e:qQ xs.length i with
 |none=>rw[e]at h;cases h
 |some j=>
  rw[e]at h;obtain⟨c,g,f,l⟩:=nV e;exact⟨j,c,h,g,f,l⟩
def tI(b:fx):Prop:=∀o i,subscripted b eo o i=operate [o,i] (Qq o i)
def IxR(X:Cx)(r:R2):Prop:=
 ∀(value slice:fx)(RE:RU)(s:c8)(Y:St)(H:Hp)(x y:V)(v u:c0)(Q:VK),Inv X RE Y H s->RelV x v->RelV y u->r x y H Q->
  subscripted slice eo v u=operate [v,u] (Qq v u)->eH (fm X.prog X.w) X.A (subscriptTail value slice v u) (EP X RE Y Q) X.xe s
def pj(X:Cx)(id:String)(r:V->List V->Hp->VK->Prop):Prop:=
 ∀(RE:RU)(s:c8)(Y:St)(H:Hp)(x:V)(xs:List V)(v:c0)(us:RO)(Q:VK),Inv X RE Y H s->RelV x v->Vals xs us->r x xs H Q->
  eH (fm X.prog X.w) X.A (call (.builtin id) (v::us)) (EP X RE Y Q) X.xe s
section
variable{a b:fx}{ta tb:TE}
theorem IxR.or{r l:R2}(h:IxR X r)(h':IxR X l):IxR X (λx y H Q=>r x y H Q\/l x y H Q):=by
 intro f c RE s Y H x y v u Q I i g q j;rcases q with q|q
 .exact h f c RE s Y H x y v u Q I i g q j
 .exact h' f c RE s Y H x y v u Q I i g q j
theorem HR{r:R2}(l:IxR X r)(m:PE X a ta)(j:PE X b tb)(i:tI b):PE X (.Subscript a b pos) (Ht r ta tb):=by
 intro RE s Y H Q I h;exact Subscript_ (Eo m j I h λv u g x y H2 I2 c f q=>l a b RE g Y H2 x y v u Q I2 c f q (i _ _))
def HU(K:Jd):R2:=λx y H Q=>∃p xs i v,x=.ref p/\y=.int i/\SqL K H p xs/\atI xs i=al v/\Q v H
def IL(K:Jd):R2:=λx y H Q=>∃p xs i v,x=.ref p/\y=.int i/\fg K H p xs/\atI xs i=al v/\Q v H
def HK:R2:=λx y H Q=>∃z i c,x=.str z/\y=.int i/\z.length<=sizeLine/\atI z.cps.toList i=al c/\Q (.str ⟨#[c]⟩) H
theorem ix_list:IxR X (HU X.K):=by
 intro B g RE s Y H x y v u Q I N R h G;obtain⟨p,xs,i,z,rfl,rfl,T,S,q⟩:=h;cases N;obtain⟨t,rfl⟩:=R;obtain⟨RK,r,pl,Z⟩:=I.list T;obtain⟨j,f,O,h3,M,J⟩:=m_ S;obtain⟨w,F,l⟩:=r.get O;have L:=r.length;have W:=dh;have c:EP X RE Y Q w s:=⟨z,H,I,l,q⟩
 by_cases C:0<=i
 .have m:i.toNat=j:=by
   rw[RA C J]at f;exact JT f
  exact item_listR pl.isList C (by lia) (by rw[m];simpa using F) c G
 .have m:(i+(RK.toArray.size:Int)).toNat=j:=by
   rw[Rl (by lia) M]at f
   rw[Jc,<- L];exact JT f
  exact Rk (x:=w) pl.isList.typeIs slot_list_getitem.lookup
   (wpAny_getItem_list_neg (Q:=λr U=>r=w/\EP X RE Y Q r U) pl.isList (by lia) (by rw[Jc]<;>lia) (by lia) (by rw[m];simpa using F) ⟨rfl,c⟩) G
theorem ix_tup:IxR X (IL X.K):=by
 intro l c RE s Y H x y v u Q I B G h O;obtain⟨p,xs,i,z,rfl,rfl,L,J,q⟩:=h;cases B;obtain⟨t,rfl⟩:=G;obtain⟨RK,r,pl,U⟩:=I.tuple L;obtain⟨j,M,C,W,S,R⟩:=m_ J;obtain⟨w,F,f⟩:=r.get C;have m:=r.length;have T:=dh;have g:EP X RE Y Q w s:=⟨z,H,I,f,q⟩
 exact Rk (x:=w) pl.typeIs slot_tuple_getitem.lookup
  (getItem_tuple (j:=j) (Q:=λr N=>r=w/\EP X RE Y Q r N) pl (by lia) (by lia) (by rw[Jc,<- m];exact M) (by simpa using F) ⟨rfl,g⟩) O
theorem yy:IxR X HK:=by
 intro g f RE s Y H x y v u Q I J C h M;obtain⟨z,i,c,rfl,rfl,O,G,q⟩:=h;obtain⟨t,rfl⟩:=J;obtain⟨t',rfl⟩:=C;obtain⟨j,l,K,R,B,m⟩:=m_ G;have p:z.cps.toList.length=z.length:=by simp[Str.length]
 rw[p]at l B m;have N:=dh;exact tail_any (typeIs_str s z t) slot_str_getitem.lookup (getItem_str (c:=c) (by
  have L:decide (i < -(2 ^ 63:Int))=false:=decide_eq_false (by lia)
  have F:decide (i>=2 ^ 63)=false:=decide_eq_false (by lia)
  rw[L,F,LU]) (by rw[l];simpa using K) ⟨.str ⟨#[c]⟩,H,I.tok _,⟨_,rfl⟩,q⟩) M
def rIx(K:Jd):R2:=λx y H Q=>HU K x y H Q\/IL K x y H Q\/HK x y H Q
theorem Fq:IxR X (rIx X.K):=ix_list.or (ix_tup.or yy)
theorem qY(RK:RO)(n j:Nat)(u:c0):MH (·.setIfInBounds j u) { cls:=.type "list",data:=.seq RK.toArray n }={ cls:=.type "list",data:=.seq (RK.set j u).toArray n }:=by
 simp[MH]
theorem Inv.lst{RE:RU}{Y:St}{H:Hp}{s:c8}{p:eg}{xs:List V}(I:Inv X RE Y H s)(h:H p=al (.lst xs)):
  ∃(RK:RO)(n:Nat),Vals xs RK/\s.heap.get? p=al { cls:=.type "list",data:=.seq RK.toArray n }/\xs.length<=sizeLine:=by
 obtain⟨z,RK,n,r,e⟩:=I.hok p _ h;exact⟨RK,n,r,e,z⟩
theorem Inv.lstUpd{p:eg}{xs ys:List V}{its':RO}{n':Nat}{f:Obj->Obj}(I:Inv X RE Y H s)(h:H p=al (.lst xs))(ho:s.heap.get? p=al { cls:=.type "list",data:=.seq RK.toArray n })(hf:f { cls:=.type "list",data:=.seq RK.toArray n }={ cls:=.type "list",data:=.seq its'.toArray n' })(r:Vals ys its')(hz:ys.length<=sizeLine)(t:Nat):
  Inv X RE Y (upd H p<|.lst ys) { s with heap:=s.heap.update p f,toks:=t }:=by
 have e:(s.heap.update p f).get? p=al { cls:=.type "list",data:=.seq its'.toArray n' }:=by
  rw[NY f ho (by rw[hf]<;>rfl),hf]
 refine I.write (x:=p) (e:=p) (by rw[h];trivial) (.inl rfl) (λb u hb q=>(NR _ _<|JI hb).trans q) ⟨_,e⟩ ?_
 exact⟨hz,its',n',r,e⟩
def IK:V->V->V->Hp->(Hp->Prop)->Prop:=λo i v H Q=>∃p xs k j,o=.ref p/\i=.int k/\H p=al (.lst xs)/\qQ xs.length k=al j/\Q (upd H p<|.lst<|xs.set j v)
theorem yz:Bl X IK:=by
 intro RE s Y H o i v L K u Q I B G J h;obtain⟨p,xs,k,j,rfl,rfl,y,C,q⟩:=h;cases B;obtain⟨t,rfl⟩:=G;obtain⟨RK,n,r,l,F⟩:=I.lst y;obtain⟨c,M,z,x⟩:=nV C;have f:=r.length;have N:=dh;have I':Inv X RE Y (upd H p<|.lst<|xs.set j v) { s with heap:=s.heap.update p (MH (·.setIfInBounds j u)) }:=
  I.lstUpd y l (qY RK n j u) (r.set J j) (by rw[M9];exact F) s.toks
 by_cases m:0<=k
 .have g:k.toNat=j:=by
   rw[RA m x]at c;exact JT c
  exact W.ki_setAt l m (by lia) (by rw[Jc,<- f];exact x) (by rw[g];exact⟨_,I',q⟩)
 .have g:(k+(RK.toArray.size:Int)).toNat=j:=by
   rw[Rl (by lia) z]at c
   rw[Jc,<- f];exact JT c
  exact W.ki_setBack l (by lia) (by rw[Jc,<- f];exact z) (by lia) (by rw[g];exact⟨_,I',q⟩)
theorem lX(c f:Option Int)(n:Nat):(P9 c f ee n).1=((HT.sIx n 0 c:Nat):Int)/\(P9 c f ee n).2.1=((HT.sIx n n f:Nat):Int)/\(P9 c f ee n).2.2=1:=by
 refine⟨?_,?_,rfl⟩
 .cases c with
  |none=>simp[P9,HT.sIx]
  |some i=>
   simp only[P9,HT.sIx,OC,show (1:Int)>0 by decide,if_true]
   by_cases h:i<0
   .simp only[h,if_true]<;>lia
   .simp only[h,if_false]<;>lia
 .cases f with
  |none=>simp[P9,HT.sIx]
  |some i=>
   simp only[P9,HT.sIx,OC,show (1:Int)>0 by decide,if_true]
   by_cases h:i<0
   .simp only[h,if_true]<;>lia
   .simp only[h,if_false]<;>lia
theorem kU(RK:RO)(c f:Option Int):slicePick RK.toArray c f ee=((RK.drop<|HT.sIx RK.length 0 c).take (HT.sIx RK.length RK.length f-HT.sIx RK.length 0 c)).toArray:=by
 obtain⟨g,i,h⟩:=lX c f RK.toArray.size;unfold slicePick;rw[g,i,h];simp only[sliceRange_one,pick_run,Jc]<;>rfl
def rSlL(K:Jd):V->Option Int->Option Int->Hp->VK->Prop:=λx f c H Q=>∃a xs,x=.ref a/\SqL K H a xs/\∀p,H p=ee->Q (.ref p) (upd H p<|.lst<|ii xs f c)
theorem uM:Hl X (rSlL X.K):=by
 intro RE s Y H x v y C f g z Q I p t pl m h;obtain⟨a,xs,rfl,j,q⟩:=h;cases p;obtain⟨RK,r,i,l⟩:=I.list j;have c:=r.length;refine⟨"list",_,slot_list_getitem.lookup,i.isList.typeIs,?_⟩;refine wpAny_getItem_list_slice i.isList t pl m .none (by simp) ?_ (by rw[Jc]<;>lia)
 rw[kU,<- c];refine⟨.ref s.heap.objs.size,_,I.laid (t':=s.toks) (o:=.lst (ii xs f g)) (λb B q=>Jb _ q) (Jg _) ?_,rfl,q _<|I.hok.fresh<|Jg _⟩;exact⟨JC (gY xs f g) l,_,0,(r.drop<|HT.sIx xs.length 0 f).take (HT.sIx xs.length xs.length g-HT.sIx xs.length 0 f),Jk _ rfl⟩
def xG:V->Bool
 |.non=>true
 |.bl _=>true
 |.int _=>true
 |.str _=>true
 |_=>eo
def nZ:V->V->Bool
 |.non,.non=>true
 |.bl a,.bl b=>a==b
 |.bl a,.int b=>(if a then 1 else 0)==b
 |.int a,.bl b=>a==(if b then 1 else 0)
 |.int a,.int b=>a==b
 |.str a,.str b=>a==b
 |_,_=>eo
theorem wK{y x:V}{v:c0}(f:RelV y u)(c:RelV x v)(h:xG y=true)(g:xG x=true):L6 A s u v (nZ y x):=by
 cases y with
 |non=>
  cases f;cases x with
  |non=>cases c;exact SeqAt.EqAt.same _
  |bl b=>cases c;exact SeqAt.EqAt.none_bool b
  |int b=>obtain⟨t,rfl⟩:=c;exact Nx b t
  |str b=>obtain⟨t,rfl⟩:=c;exact Nw b t
  |_=>exact absurd (show eo=true from g) Js
 |bl a=>
  cases f;cases x with
  |non=>cases c;exact SeqAt.EqAt.bool_none a
  |bl b=>cases c;exact LY a b
  |int b=>obtain⟨t,rfl⟩:=c;exact SeqAt.EqAt.bool_int a b t
  |str b=>obtain⟨t,rfl⟩:=c;exact SeqAt.EqAt.bool_str a b t
  |_=>exact absurd (show eo=true from g) Js
 |int a=>
  obtain⟨t',rfl⟩:=f;cases x with
  |non=>cases c;exact Ny a t'
  |bl b=>cases c;exact SeqAt.EqAt.int_bool a t' b
  |int b=>obtain⟨t,rfl⟩:=c;exact SeqAt.EqAt.int_int a t' b t
  |str b=>obtain⟨t,rfl⟩:=c;exact NC a t' b t
  |_=>exact absurd (show eo=true from g) Js
 |str a=>
  obtain⟨t',rfl⟩:=f;cases x with
  |non=>cases c;exact Nv a t'
  |bl b=>cases c;exact SeqAt.EqAt.str_bool a t' b
  |int b=>obtain⟨t,rfl⟩:=c;exact NB a t' b t
  |str b=>obtain⟨t,rfl⟩:=c;exact SeqAt.EqAt.str_str a t' b t
  |_=>exact absurd (show eo=true from g) Js
 |_=>exact absurd (show eo=true from h) Js
theorem mH:bp X (.builtin "len") (λxs H Q=>∃p ys,xs=[.ref p]/\(SqL X.K H p ys\/fg X.K H p ys)/\Q (.int ys.length) H):=by
 intro RE s Y H xs l Q I r h;obtain⟨p,ys,rfl,hq,q⟩:=h;obtain⟨u,rfl,i⟩:=dI r;cases i;have j:=dh;rcases hq with hq|hq
 .obtain⟨RK,f,pl,g⟩:=I.list hq
  have c:=f.length;exact Calls.call_len_list pl.isList (by simp only[Jc]<;>lia) ⟨.int ys.length,H,I.tok _,⟨s.toks+1,by rw[Jc,c]⟩,q⟩
 .obtain⟨RK,f,pl,g⟩:=I.tuple hq
  have c:=f.length;exact len_tuple pl (by simp only[Jc]<;>lia) ⟨.int ys.length,H,I.tok _,⟨s.toks+1,by rw[Jc,c]⟩,q⟩
theorem nQ:bp X (.builtin "len") (λxs H Q=>∃z,xs=[.str z]/\z.length<=sizeLine/\Q (.int z.length) H):=by
 intro RE s Y H xs f Q I r h;obtain⟨z,rfl,g,q⟩:=h;obtain⟨u,rfl,t,rfl⟩:=dI r;have c:=dh;exact len_str (by lia) ⟨.int z.length,H,I.tok _,⟨_,rfl⟩,q⟩
theorem mK:bp X (.type "list") (λxs H Q=>∃p ys,xs=[.ref p]/\(SqL X.K H p ys\/fg X.K H p ys)/\∀l,H l=ee->Q (.ref l) (upd H l<|.lst ys)):=by
 intro RE s Y H xs B Q I r h;obtain⟨p,ys,rfl,hq,q⟩:=h;obtain⟨u,rfl,z⟩:=dI r;cases z
 have j:∀(RK:RO),Vals ys RK->ys.length<=sizeLine->∀(c:i5)(f:Nat),(∀b o',s.heap.get? b=al o'->c.get? b=al o')->
   c.get? s.heap.objs.size=al { cls:=.type "list",dict:=ee,data:=.seq RK.toArray f,slots:=#[] }->EP X RE Y Q (.ref s.heap.objs.size) { s with heap:=c }:=λRK g i c f t e=>
  ⟨.ref s.heap.objs.size,_,I.laid (t':=s.toks) t (Jg _) (show ObjOk X.prog X.w _ c _ (.lst ys) from ⟨i,RK,f,g,e⟩),rfl,q _<|I.hok.fresh<|Jg _⟩
 rcases hq with hq|hq
 .obtain⟨RK,g,pl,i⟩:=I.list hq
  have m:=g.length;obtain⟨o,y,x,n,v⟩:=pl.isList;exact call_list_seq p (.inl rfl) y x v (λc f t e=>j RK g i c f t e) (by simp only[Jc]<;>lia)
 .obtain⟨RK,g,pl,i⟩:=I.tuple hq
  have m:=g.length;obtain⟨o,y,x,n,v⟩:=pl;exact call_list_seq p (.inr rfl) y x v (λc f t e=>j RK g i c f t e) (by simp only[Jc]<;>lia)
theorem eP:bp X (.type "tuple") (λxs H Q=>∃p ys,xs=[.ref p]/\((SqL X.K H p ys/\∀l,H l=ee->Q (.ref l) (upd H l<|.tup ys))\/(fg X.K H p ys/\Q (.ref p) H))):=by
 intro RE s Y H xs v Q I r h;obtain⟨p,ys,rfl,h⟩:=h;obtain⟨u,rfl,m⟩:=dI r;cases m;rcases h with⟨g,q⟩|⟨g,q⟩
 .obtain⟨RK,f,pl,i⟩:=I.list g
  have j:=f.length;refine call_tuple_list pl.isList (λc t=>?_) (by simp only[Jc]<;>lia)
  have I1:Inv X RE Y H { s with heap:=c }:=I.kept (t':=s.toks) t;have I2:Inv X RE Y (upd H c.objs.size<|.tup ys) { s with heap:=c.push { cls:=.type "tuple",data:=.seq RK.toArray } }:=
   I1.laid (t':=s.toks) (λb o e=>Jb _ e) (Jg _) (show ObjOk X.prog X.w _ _ _ (.tup ys) from ⟨i,RK,f,⟨_,Jk _ rfl,⟨rfl,_,rfl⟩,rfl⟩⟩)
  exact⟨.ref c.objs.size,_,I2,rfl,q _<|I1.hok.fresh<|Jg _⟩
 .obtain⟨RK,f,pl,i⟩:=I.tuple g
  exact call_tuple_same pl ⟨.ref p,H,I,rfl,q⟩
def tyV(K:Jd)(T:String)(x:V)(H:Hp):Prop:=match x with
 |.str _=>T="str"
 |.int _=>T="int"
 |.ref p=>(T="list"/\∃xs,SqL K H p xs)\/(T="tuple"/\∃o,K.lookup p=al o/\o.cls=.type "tuple"/\o.dict=ee)\/
   (T="dict"/\((∃RG,H p=al (.dK RG))\/∃RG,H p=al (.dT RG)))\/(T="set"/\∃S n,H p=al (.set S n))
 |_=>False
theorem zy{T:String}{x:V}{v:c0}(I:Inv X RE Y H s)(r:RelV x v)(ty:tyV X.K T x H):
  s.TypeIs v T/\∀a,v=.ref a->∃m,s.heap.get? a=al m/\m.dict=none:=by
 cases x with
 |str z=>
  obtain⟨t,rfl⟩:=r;cases (show T="str" from ty);exact⟨typeIs_str s z t,λ_ e=>nomatch e⟩
 |int i=>
  obtain⟨t,rfl⟩:=r;cases (show T="int" from ty);exact⟨QE s i t,λ_ e=>nomatch e⟩
 |ref p=>
  cases r;rcases ty with⟨rfl,xs,q⟩|⟨rfl,o,f,hc,h⟩|⟨rfl,f⟩|⟨rfl,S,n,f⟩
  .obtain⟨RK,_,pl,_⟩:=I.list q
   refine⟨pl.isList.typeIs,λa e=>?_⟩;cases e;obtain⟨o,n,e,c,h,_⟩:=pl;exact⟨o,e,h⟩
  .refine⟨⟨o,I.kIn p o f,hc⟩,λa e=>?_⟩
   cases e;exact⟨o,I.kIn _ o f,h⟩
  .have z:∃o,s.heap.get? p=al o/\o.ExactDict:=by
    rcases f with⟨l,f⟩|⟨l,f⟩
    .obtain⟨_,_,_,_,o,_,_,e,g,_⟩:=I.hok p _ f
     exact⟨o,e,g⟩
    .obtain⟨_,_,_,_,o,_,_,e,g,_⟩:=I.hok p _ f
     exact⟨o,e,g⟩
   obtain⟨o,e,g⟩:=z;refine⟨⟨o,e,g.1⟩,λa j=>?_⟩;cases j;exact⟨o,e,g.2.1⟩
  .obtain⟨o,_,_,_,e,g,_⟩:=I.hok p _ f
   refine⟨⟨o,e,g.1⟩,λa j=>?_⟩;cases j;exact⟨o,e,g.2.1⟩
 |_=>exact JF ty
def tBM0(K:Jd)(T:String)(r:V->List V->Hp->VK->Prop)(to:TE):TE:=λY H Q=>to Y H λx H1=>tyV K T x H1/\r x [] H1 Q
def tBM(K:Jd)(T:String)(r:V->List V->Hp->VK->Prop)(to:TE)(t:TA):TE:=λY H Q=>to Y H λx H1=>tyV K T x H1/\t Y H1 λxs H2=>r x xs H2 Q
variable{es:RQ}{to:TE}{t:TA}{name:Str}{RJ RI:Pos}{T id:String}{r:V->List V->Hp->VK->Prop}
theorem EN(q:Qr T)(f:Q1 T name id)(g:Qj (.builtin id)=pure (.type "method_descriptor"))(hm:pj X id r)(y:PE X o to)(c:n7 o name X.env (g5 o X.env)=g5 o X.env:=by rfl)(hline:(RJ.endLine==RI.line)=true:=by rfl):PE X (.Call (.Attribute o name RJ) [] [] RI) (tBM0 X.K T r to):=by
 intro RE s Y H Q I h;refine wpAny_Call_method0_late c hline (aW (y RE s Y H _ I h) λv m ⟨x,H1,I1,i,ty,p⟩=>?_);obtain⟨j,l⟩:=zy I1 i ty;exact⟨T,id,q,f,g,j,l,Kt rfl<|PySem.evalArgs_none<|hm RE m Y H1 x [] v [] Q I1 i .nil p⟩
theorem Hd(G:Qr T)(f:Q1 T name id)(g:Qj (.builtin id)=pure (.type "method_descriptor"))(M:pj X id r)(J:PE X o to)(L:PA X (e::es) t)(c:n7 o name X.env (g5 o X.env)=g5 o X.env:=by rfl)(hfew:((ik RI<|starEach (e::es) X.env).all (λx=>!x.1)&&(NE RI<|keywordEach [] X.env).all (λx=>x.1.isSome)
   && decide ((e::es).length+([]:List KM).length+(if ([]:List KM).isEmpty then 0 else 1)<30))=true:=by rfl)(hline:(RJ.endLine==RI.line)=true:=by rfl)(hs:fe (e::es) X.env=(eo,g5 e X.env)::fe es X.env:=by rfl)(hplain:(ik RI<|starEach es X.env).any (·.1)=false:=by rfl):
  PE X (.Call (.Attribute o name RJ) (e::es) [] RI) (tBM X.K T r to t):=by
 intro RE s Y H Q I h;refine Rj c hfew hline rfl (aW (J RE s Y H _ I h) λv p ⟨x,H1,I1,j,ty,y⟩=>?_);obtain⟨B,C⟩:=zy I1 j ty;refine⟨T,id,G,f,g,B,C,?_⟩;have i:=L RI RE p Y H1 _ I1 y;rw[hs]at i ⊢;refine Kt (by show (eo||(ik RI<|starEach es X.env).any (·.1))=eo;rw[hplain]<;>rfl) (KL ?_)
 exact aW i λm F ⟨q,H2,I2,z,l⟩=>M RE F Y H2 x q v m Q I2 j z l
end
def MtM(X:Cx)(id:String)(r:V->List V->Hp->VK->Prop):Prop:=
 ∀(RE:RU)(s:c8)(Y:St)(H:Hp)(x:V)(xs:List V)(v:c0)(us:RO)(Q:VK),Inv X RE Y H s->RelV x v->Vals xs us->r x xs H Q->
  eH (fm X.prog X.w) X.A (call (.builtin id) (v::us)) (EP X RE Y Q) X.xe s
theorem Vals.one:∀{x:V}{us:RO},Vals [x] us->∃u,us=[u]/\RelV x u
 |_,_,h=>by cases h with|cons r q=>cases q;exact⟨_,rfl,r⟩
theorem Vals.two:∀{x y:V}{us:RO},Vals [x,y] us->∃u v,us=[u,v]/\RelV x u/\RelV y v
 |_,_,_,h=>by cases h with|cons r q=>cases q with|cons q z=>cases z;exact⟨_,_,rfl,r,q⟩
theorem Vals.zero:∀{us:RO},Vals [] us->us=[]
 |_,.nil=>rfl
theorem Vals.dropLast{xs:List V}{us:RO}(h:Vals xs us):Vals xs.dropLast us.dropLast:=by
 induction h with
 |nil=>exact .nil
 |cons r t ih=>
  cases t with
  |nil=>exact .nil
  |cons q t'=>exact .cons r ih
theorem Vals.eraseIdx:∀{xs:List V}{us:RO}(i:Nat),Vals xs us->Vals (xs.eraseIdx i) (us.eraseIdx i)
 |_,_,_,.nil=>.nil
 |_,_,0,.cons _ t=>t
 |_,_,i+1,.cons r t=>.cons r (Vals.eraseIdx i t)
theorem Vals.rep{xs:List V}{us:RO}(h:Vals xs us):∀k:Nat,Vals (Jm k xs).flatten (Jm k us).flatten
 |0=>.nil
 |k+1=>by
  rw[JJ,JJ,J9,J9];exact Vals.append h (Vals.rep h k)
theorem qM(l:List α):l.eraseIdx (l.length-1)=l.dropLast:=by
 induction l with
 |nil=>rfl
 |cons a r ih=>
  cases r with
  |nil=>rfl
  |cons b r=>
   have e:(a::b::r).length-1=((b::r).length-1)+1:=by
    have c:(a::b::r).length=r.length+2:=rfl;have f:(b::r).length=r.length+1:=rfl;lia
   rw[e,List.eraseIdx_cons_succ,ih]
   all_goals rfl
theorem lB{α:Type}:∀(l:List α)(i:Nat),(l.eraseIdx i).length<=l.length
 |[],_=>Jg _
 |_::_,0=>M8 _
 |_::r,i+1=>Nat.succ_le_succ (lB r i)
theorem lT(RK:RO):∀(k:Nat)(c:RO),
  Nq (λx1 x2=>x1++x2) c.toArray (Jm k RK.toArray)=(c++(Jm k RK).flatten).toArray
 |0,c=>by simp
 |k+1,c=>by
  have e:c.toArray++RK.toArray=(c++RK).toArray:=by simp
  have f:(c++RK)++(Jm k RK).flatten=c++(Jm (k+1) RK).flatten:=by
   rw[JJ,J9,List.append_assoc]
  rw[<- f,<- lT RK k (c++RK),<- e,JJ,JK]
section
variable{l:eg}{xs ys zs:List V}
theorem Inv.lset{its':RO}{f:Array c0->Array c0}{t':Nat}(I:Inv X RE Y H s)(hH:H l=al (.lst xs))(e:s.heap.get? l=al { cls:=.type "list",data:=.seq RK.toArray n })(hf:f RK.toArray=its'.toArray)(hv:Vals ys its')(hz:ys.length<=sizeLine):
  Inv X RE Y (upd H l<|.lst ys) { s with heap:=s.heap.update l (MH f),toks:=t' }:=by
 have q:=PySem.IsL.update e f;rw[hf]at q;refine I.write (x:=l) (e:=l) (by rw[hH];exact trivial) (.inl rfl) (λb' u hb hu=>(NR s.heap (MH f)<|JI hb).trans hu) ⟨_,q⟩ ?_
 exact⟨hz,its',_,hv,q⟩
theorem Inv.lnew{t':Nat}(I:Inv X RE Y H s)(f:Vals ys RK)(c:ys.length<=sizeLine):
  Inv X RE Y (upd H s.heap.objs.size<|.lst ys) { s with heap:=s.heap.push { cls:=.type "list",data:=.seq RK.toArray },toks:=t' }:=
 I.laid (λ_ _ q=>Jb _ q) (Jg _) ⟨c,RK,0,f,Jk _ rfl⟩
theorem Inv.fresh(I:Inv X RE Y H s):H s.heap.objs.size=none:=I.hok.fresh (Jg _)
theorem Inv.lstM(I:Inv X RE Y H s)(c:H l=al (.lst xs)):xs.length<=sizeLine/\∃(RK:RO)(n:Nat),Vals xs RK/\xs.length=RK.length/\s.heap.get? l=al { cls:=.type "list",data:=.seq RK.toArray n }:=by
 obtain⟨z,RK,n,r,e⟩:=I.hok l _ c;exact⟨z,RK,n,r,r.length,e⟩
theorem oO(h:n<=sizeLine):KI n=false:=by
 unfold KI;exact decide_eq_false (by lia)
end
section
def Aa:V->List V->Hp->VK->Prop:=λx c H Q=>∃l xs y,x=.ref l/\c=[y]/\H l=al (.lst xs)/\xs.length<sizeLine/\Q .non (upd H l<|.lst (xs++[y]))
theorem wb:MtM X "list.append" Aa:=by
 intro RE s Y H x t v j Q I g f h;obtain⟨l,xs,y,rfl,rfl,c,p,q⟩:=h;cases g;obtain⟨u,rfl,i⟩:=f.one;obtain⟨z,RK,n,r,m,e⟩:=I.lstM c;refine pa Ms ⟨_,e,rfl⟩ F.entry_list_append (F.args_list_append_2 _ _) (Ow l RK.toArray n u<|by rw[Jc];lia) ⟨e,?_⟩
 refine⟨.non,_,I.lset (its':=RK++[u]) c e (by simp) (r.append<|.cons i .nil) ?_,rfl,q⟩
 rw[Jr,Mn];lia
def rPop:V->List V->Hp->VK->Prop:=λx c H Q=>∃l xs y,x=.ref l/\c=[]/\H l=al (.lst xs)/\xs[xs.length-1]?=al y/\Q y (upd H l<|.lst xs.dropLast)
theorem Es:MtM X "list.pop" rPop:=by
 intro RE s Y H x G v C Q I p m h;obtain⟨l,xs,y,rfl,rfl,g,i,q⟩:=h;cases p;have f:=m.zero;subst f;obtain⟨z,RK,n,r,j,e⟩:=I.lstM g;obtain⟨u,B,t⟩:=r.get i;have c:RK.toArray[RK.toArray.size-1]?=al u:=by
  show RK.toArray[RK.length-1]?=al u;rw[<- NU,<- j];exact B
 refine pa MP ⟨_,e,rfl⟩ F.entry_list_pop (F.args_list_pop_1 _) (MeetsSeq.list_pop_last l RK.toArray n u c<|by rw[Jc];lia) ⟨e,?_⟩
 refine⟨y,_,I.lset (its':=RK.dropLast) g e ?_ r.dropLast ?_,t,q⟩
 .show RK.toArray.eraseIdxIfInBounds (RK.toArray.size-1)=RK.dropLast.toArray
  rw[Jc,MQ,qM]
 .rw[List.length_dropLast]
  lia
def EG:V->List V->Hp->VK->Prop:=λx c H Q=>∃l xs i k y,x=.ref l/\c=[.int i]/\H l=al (.lst xs)/\-(2 ^ 63)<=i/\i<2 ^ 63/\Re i xs.length=al k/\xs[k]?=al y/\Q y (upd H l<|.lst<|xs.eraseIdx k)
theorem z9:MtM X "list.pop" EG:=by
 intro RE s Y H x M v L Q I B p h;obtain⟨l,xs,i,k,y,rfl,rfl,f,G,K,C,g,q⟩:=h;cases B;obtain⟨u,rfl,J⟩:=p.one;obtain⟨t,rfl⟩:=J;obtain⟨z,RK,n,r,j,e⟩:=I.lstM f;obtain⟨w,m,c⟩:=r.get g
 refine pa MP ⟨_,e,rfl⟩ F.entry_list_pop (F.args_list_pop_2 _ _)
  (MeetsSeq.list_pop_at l RK.toArray n i t k w (fitsIndex_both G K) (by rw[Jc,<- j];exact C) (by rw[<- NU];exact m)<|by rw[Jc];lia) ⟨e,?_⟩
 refine⟨y,_,I.lset (its':=RK.eraseIdx k) f e ?_ (r.eraseIdx k) ?_,c,q⟩
 .show RK.toArray.eraseIdxIfInBounds k=(RK.eraseIdx k).toArray
  rw[MQ]
 .have:=lB xs k
  lia
def rRep:R2:=λx y H Q=>∃l k xs,x=.ref l/\y=.int k/\H l=al (.lst xs)/\-(2 ^ 63)<=k/\k<2 ^ 63/\xs.length*k.toNat<=sizeLine/\
 ∀p,H p=ee->Q (.ref p) (upd H p<|.lst (Jm k.toNat xs).flatten)
theorem tY(xs:List α)(k:Nat):(Jm k xs).flatten.length=k*xs.length:=by
 induction k with
 |zero=>simp
 |succ k ih=>rw[JJ,J9,Jr,ih,Nat.succ_mul,Nat.add_comm]
theorem Fj:bZ X (ot .Mult) rRep:=by
 intro RE s Y H x y v u Q I L G h;obtain⟨l,k,xs,rfl,rfl,J,O,M,C,q⟩:=h;cases L;obtain⟨t,rfl⟩:=G;obtain⟨z,RK,n,r,K,e⟩:=I.lstM J;have j:RK.toArray.size*k.toNat<=sizeLine:=by rw[Jc,<- K];exact C
 have i:¬RK.toArray.size*k.toNat>(2 ^ 63-1) / 8:=by
  have:(sizeLine:Nat)<=(2 ^ 63-1) / 8:=by decide
  lia
 have g:¬(!Ll k)=true:=by
  rw[fitsIndex_both O M];exact Js
 have c:¬KI (RK.toArray.size*k.toNat)=true:=by
  rw[oO j];exact Js
 have f:Nq (λp B=>p++B) #[] (Jm (if RK.toArray.isEmpty=true then 0 else k.toNat) RK.toArray)=(Jm k.toNat RK).flatten.toArray:=by
  have N:∀m:Nat,Nq (λp B=>p++B) #[] (Jm m RK.toArray)=(Jm m RK).flatten.toArray:=λm=>by
   have:=lT RK m [];rw[JE]at this;exact this
  rw[N];cases RK with
  |nil=>simp
  |cons a r'=>rw[if_neg (by simp)]
 refine Q7 (T:="list") (U:="int") (by decide) ⟨_,e,rfl⟩ (λR=>QE R k t) noFill_list_mul OA Lz repeat_list Om.lookup
  (pa Lz (QE s k t) Oo (Oc _ _) (int___rmul___int_list k t l RK.toArray n)
   ⟨e,rfl,⟨_,e,rfl⟩,pa F.slot_list_mul ⟨_,e,rfl⟩ F.entry_list_mul (F.args_list_mul_2 _ _) (AutoListH.list___mul___list_int_3 l RK.toArray n k t g i c) ⟨e,?_⟩⟩)
 rw[f];exact⟨.ref _,_,I.lnew (t':=s.toks) (r.rep k.toNat) (by rw[tY,Nat.mul_comm];exact C),rfl,q _ I.fresh⟩
end
section
variable{prog:fy}
set_option maxRecDepth 100000 in
end
section
end
section
variable{κ:Type}[DecidableEq κ]
def cD(RG:List (κ×V))(k:κ):Option V:=(RG.find? λc=>decide (c.1=k)).map (·.2)
def bE(RG:List (κ×V))(k:κ)(v:V):List (κ×V):=
 if (RG.any λc=>decide (c.1=k))=true then RG.map (λc=>if c.1=k then (c.1,v) else c) else RG++[(k,v)]
def eS(RG:List (κ×V))(k:κ):List (κ×V):=RG.filter λc=>decide (c.1≠k)
theorem kb{p:κ×V}{r:List (κ×V)}{k:κ}(e:p.1=k):cD (p::r) k=al p.2:=by simp[cD,Kj,e]
theorem kg{p:κ×V}{r:List (κ×V)}{k:κ}(e:¬p.1=k):cD (p::r) k=cD r k:=by simp[cD,Kj,e]
theorem oU(k:κ):∀c:List (κ×V),(c.any λkv=>decide (kv.1=k))=(cD c k).isSome
 |[]=>rfl
 |p::r=>by
  rw[Kn]
  by_cases e:p.1=k
  .simp only[kb e,decide_eq_true e,Mc,Option.isSome_some]
  .rw[kg e,decide_eq_false e,KC];exact oU k r
theorem cF(c:List (κ×V))(k:κ)(v:V):(bE c k v).length<=c.length+1:=by
 unfold bE
 split
 .rw[Ji];lia
 .rw[Jr,Jl,J1];lia
theorem RelO.isSome_eq{o:Option V}{u:Option c0}(r:RelO o u):o.isSome=u.isSome:=by
 cases o with
 |none=>cases u with
  |none=>rfl
  |some _=>exact(show False from r).elim
 |some _=>cases u with
  |none=>exact(show False from r).elim
  |some _=>rfl
theorem KV.val{c:List (κ×V)}{vs:List (κ×c0)}(r:KV c vs)(k:κ):RelO (cD c k) (Qp vs k):=by
 unfold KV at r
 induction r with
 |nil=>exact Ka
 |@cons p q ps qs h t ih=>
  obtain⟨g,i⟩:=h
  by_cases e:p.1=k
  .have f:q.1=k:=g.symm.trans e
   have b:Qp (q::qs) k=al q.2:=by simp[Qp,Kj,f]
   rw[kb e,b];exact i
  .have f:¬q.1=k:=λz=>e (g.trans z)
   have b:Qp (q::qs) k=Qp qs k:=by simp[Qp,Kj,f]
   rw[kg e,b];exact ih
theorem KV.any{c:List (κ×V)}{vs:List (κ×c0)}(r:KV c vs)(k:κ):(c.any λkv=>decide (kv.1=k))=vs.any λkv=>decide (kv.1=k):=by
 unfold KV at r
 induction r with
 |nil=>rfl
 |cons h t ih=>rw[Kn,Kn,ih,h.1]
theorem KV.repl{c:List (κ×V)}{vs:List (κ×c0)}(r:KV c vs)(k:κ){y:V}(i:RelV y u):
  KV (c.map λkv=>if kv.1=k then (kv.1,y) else kv) (vs.map λkv=>if kv.1=k then (kv.1,u) else kv):=by
 unfold KV at r ⊢
 induction r with
 |nil=>exact .nil
 |@cons p q ps qs h t ih=>
  rw[Jf,Jf];refine .cons ?_ ih;obtain⟨f,g⟩:=h
  by_cases e:p.1=k
  .rw[if_pos e,if_pos (f.symm.trans e)];exact⟨f,i⟩
  .rw[if_neg e,if_neg (λz=>e (f.trans z))];exact⟨f,g⟩
theorem KV.put{c:List (κ×V)}{vs:List (κ×c0)}(r:KV c vs)(k:κ){y:V}(f:RelV y u):KV (bE c k y) (Qd vs k u):=by
 unfold bE Qd;rw[r.any k]
 by_cases e:(vs.any λg=>decide (g.1=k))=true
 .rw[if_pos e,if_pos e];exact r.repl k f
 .rw[if_neg e,if_neg e];exact Paired.snoc r ⟨rfl,f⟩
theorem KV.drop{c:List (κ×V)}{vs:List (κ×c0)}(r:KV c vs)(k:κ):KV (eS c k) (without vs k):=by
 unfold KV at r ⊢;unfold eS without
 induction r with
 |nil=>exact .nil
 |@cons p q ps qs h t ih=>
  obtain⟨f,i⟩:=h;rw[MY,MY]
  by_cases e:p.1=k
  .have a:¬decide (p.1≠k)=true:=by simp[e]
   have b:¬decide (q.1≠k)=true:=by simp[f.symm.trans e]
   rw[if_neg a,if_neg b];exact ih
  .have g:¬q.1=k:=λz=>e (f.trans z)
   have a:decide (p.1≠k)=true:=by simp[e]
   have b:decide (q.1≠k)=true:=by simp[g]
   rw[if_pos a,if_pos b];exact .cons ⟨f,i⟩ ih
theorem KV.length{c:List (κ×V)}{vs:List (κ×c0)}(r:KV c vs):c.length=vs.length:=Ke r
theorem y8(c:List (κ×V))(k:κ):(eS c k).length<=c.length:=Kg _ _
end
theorem g6{k:ax}(r:RelV (kV k) u):(aE P w).is k u=true:=by
 cases k with
 |inl i=>obtain⟨t,e⟩:=(show ∃t,u=Kx i t from r);subst e;exact pG P w i t
 |inr x=>obtain⟨t,e⟩:=(show ∃t,u=LV x t from r);subst e;exact pJ P w x t
theorem kY{P:fy}{w:h7}:∀{ks:List ax}{us:RO},Vals (ks.map kV) us->ItemsAre (aE P w) ks us
 |[],_,r=>by rw[JZ]at r;cases r;exact .nil
 |k::ks,_,r=>by
  rw[Jf]at r;cases r with
  |cons h t=>exact .cons (g6 h) (kY t)
abbrev KT(H:Hp):List (List ax×V)->List (List ax×eg×c0)->Prop:=Ql λp q=>p.1=q.1/\H q.2.1=al (.tup<|p.1.map kV)/\RelV p.2 q.2.2
theorem KT.val{c:List (List ax×V)}(r:KT H c xs)(k:List ax):RelO (cD c k) ((Q0 xs k).map (·.2)):=by
 induction r with
 |nil=>exact Ka
 |@cons p q ps qs h t ih=>
  obtain⟨g,_,i⟩:=h
  by_cases e:p.1=k
  .have f:q.1=k:=g.symm.trans e
   have b:Q0 (q::qs) k=al q.2:=by simp[Q0,Kj,f]
   rw[kb e,b];exact i
  .have f:¬q.1=k:=λz=>e (g.trans z)
   have b:Q0 (q::qs) k=Q0 qs k:=by simp[Q0,Kj,f]
   rw[kg e,b];exact ih
theorem KT.repl{c:List (List ax×V)}(r:KT H c xs)(k:List ax){y:V}(j:RelV y u):
  KT H (c.map λkv=>if kv.1=k then (kv.1,y) else kv) (xs.map<|putAt k u):=by
 induction r with
 |nil=>exact .nil
 |@cons p q ps qs h t ih=>
  rw[Jf,Jf];refine .cons ?_ ih;obtain⟨f,g,i⟩:=h;unfold putAt
  by_cases e:p.1=k
  .rw[if_pos e,if_pos (f.symm.trans e)];exact⟨f,g,j⟩
  .rw[if_neg e,if_neg (λz=>e (f.trans z))];exact⟨f,g,i⟩
theorem KT.put{c:List (List ax×V)}(r:KT H c xs)(k:List ax){y:V}(h:H b=al (.tup<|k.map kV))(f:RelV y u):
  KT H (bE c k y) (storedH xs k b u):=by
 have e:(c.any λg=>decide (g.1=k))=(Q0 xs k).isSome:=by
  rw[oU,(r.val k).isSome_eq,Oq]
 unfold bE storedH;rw[e]
 by_cases q:(Q0 xs k).isSome=true
 .rw[if_pos q,if_pos q];exact r.repl k f
 .rw[if_neg q,if_neg q];exact Paired.snoc r ⟨rfl,h,f⟩
theorem KT.keeps{c:List (List ax×V)}(r:KT H c xs)(f:∀b ys,H b=al (.tup ys)->H' b=al (.tup ys)):KT H' c xs:=
 cK r λ_ _ z=>⟨z.1,f _ _ z.2.1,z.2.2⟩
section
variable{h:i5}
theorem Cz{u:HO}(ok:HOk P w H h)(e:Rd H a u):ObjOk P w H h a u:=e.ok ok
theorem g_{c:List (ax×V)}(ok:HOk P w H h)(e:Rd H a (.dK c)):c.length<=sizeLine/\(a==z5)=eo/\∃vs,KV c vs/\h.DictOf (aE P w) a vs:=
 show ObjOk P w H h a (.dK c) from Cz ok e
theorem uh{c:List (ax×V)}(ok:HOk P w H h)(e:H a=al (.dK c)):c.length<=sizeLine/\(a==z5)=eo/\∃vs,KV c vs/\h.DictOf (aE P w) a vs:=g_ ok (.inl e)
theorem nS{ks:List ax}(ok:HOk P w H h)(e:H a=al (.tup<|ks.map kV)):(Rb<|aE P w).is h ks a:=by
 obtain⟨_,RK,r,o,c,⟨f,n,g⟩,_⟩:=(show ObjOk P w H h a (.tup<|ks.map kV) from ok a _ e);exact⟨o,RK.toArray,n,c,f,g,by simpa using kY r⟩
theorem oV{c:List (List ax×V)}(ok:HOk P w H h)(e:Rd H a (.dT c)):c.length<=sizeLine/\(a==z5)=eo/\
  ∃xs,KT H c xs/\h.DictOfH (Rb<|aE P w) a xs:=by
 obtain⟨z,y,xs,r,o,f,v,j,B,C,i,g⟩:=(show ObjOk P w H h a (.dT c) from Cz ok e);refine⟨z,y,xs,r,o,f,v,j,B,C,i,λx hx=>?_,g⟩;have all:∀{l:List (List ax×V)}{m:List (List ax×eg×c0)},KT H l m->∀x∈m,(Rb<|aE P w).is h x.1 x.2.1:=by
  intro l m q
  induction q with
  |nil=>intro x hx;exact nomatch hx
  |@cons p q ps qs hq t ih=>
   intro x hx;rcases Jq.mp hx with e|hx
   .subst e
    exact nS ok (by rw[<- hq.1];exact hq.2.1)
   .exact ih x hx
 exact all r x hx
theorem Gp{c:List (List ax×V)}(ok:HOk P w H h)(e:H a=al (.dT c)):c.length<=sizeLine/\(a==z5)=eo/\
  ∃xs,KT H c xs/\h.DictOfH (Rb<|aE P w) a xs:=oV ok (.inl e)
end
def DGet(H:Hp)(a:eg)(y:V)(r:Option V):Prop:=
 (∃RG k,Rd H a (.dK RG)/\y=kV k/\r=cD RG k)\/∃RG k b,Rd H a (.dT RG)/\y=.ref b/\H b=al (.tup<|k.map kV)/\r=cD RG k
def DPut(H:Hp)(a:eg)(y v:V)(H':Hp):Prop:=
 (∃RG k,H a=al (.dK RG)/\y=kV k/\RG.length<sizeLine/\H'=upd H a (.dK<|bE RG k v))\/
 ∃RG k b,H a=al (.dT RG)/\y=.ref b/\H b=al (.tup<|k.map kV)/\RG.length<sizeLine/\H'=upd H a (.dT<|bE RG k v)
theorem DGet.k{H:Hp}{a:eg}{c:List (ax×V)}{k:ax}(e:H a=al (.dK c)):DGet H a (kV k) (cD c k):=.inl ⟨c,k,.inl e,rfl,rfl⟩
theorem zX{c:List (List ax×V)}{k:List ax}(e:H a=al (.dT c))(f:H b=al (.tup<|k.map kV)):DGet H a (.ref b) (cD c k):=.inr ⟨c,k,b,.inl e,rfl,f,rfl⟩
theorem DPut.k{H:Hp}{a:eg}{c:List (ax×V)}{k:ax}{v:V}(e:H a=al (.dK c))(f:c.length<sizeLine):DPut H a (kV k) v (upd H a<|.dK<|bE c k v):=.inl ⟨c,k,e,rfl,f,rfl⟩
theorem Gf{c:List (List ax×V)}{k:List ax}{v:V}(e:H a=al (.dT c))(g:H b=al (.tup<|k.map kV))(f:c.length<sizeLine):
  DPut H a (.ref b) v (upd H a<|.dT<|bE c k v):=.inr ⟨c,k,b,e,rfl,g,f,rfl⟩
section
variable{y v:V}{o:Option V}
theorem Inv.big(I:Inv X RE Y H s):z5<s.heap.objs.size:=by
 have h:fv<s.heap.objs.size:=(I.mod.glob.keeps I.bk).lt;exact N5 (by decide) h
theorem lJ(J:A.units+1<rz)(I:Inv X RE Y H s)(g:DGet H a y (al v))(B:RelV y u)(h:∀i s',Inv X RE Y H s'->RelV v i->Q i s'):
  eH (fm X.prog X.w) A (Qq (.ref a) u) Q E s:=by
 rcases g with⟨t,k,e,j,l⟩|⟨t,k,b,e,j,eb,l⟩
 .subst j
  obtain⟨z,C,G,c,m⟩:=g_ I.hok e;obtain⟨i,q,f⟩:=cg (v:=v) (o:=Qp G k) (by rw[l];exact c.val k)
  exact wpAny_getItem_of (g6 B) m.mapOf q (h i _ (I.tok _) f)
 .subst j
  cases (show u=Jv b from B);obtain⟨z,C,xs,c,m⟩:=oV I.hok e;obtain⟨i,q,f⟩:=cg (v:=v) (o:=(Q0 xs k).map (·.2)) (by rw[l];exact c.val k)
  obtain⟨p,F,x⟩:=Lc.mp q;refine wpAny_getItem_heap (QF J) (nS I.hok eb) m F ?_;rw[x];exact h i _ (I.tok _) f
theorem GY(t:A.units+1<rz)(I:Inv X RE Y H s)(g:DGet H a y o)(p:RelV y u)(h:∀s',Inv X RE Y H s'->Q (.bool o.isSome) s'):
  eH (fm X.prog X.w) A (md .In u<|.ref a) Q E s:=by
 rcases g with⟨m,k,e,f,l⟩|⟨m,k,b,e,f,eb,l⟩
 .subst f
  obtain⟨z,i,x,c,j⟩:=g_ I.hok e;refine wpAny_in_of (g6 p) i j.mapOf ?_;rw[<- (c.val k).isSome_eq,<- l];exact h _ (I.tok _)
 .subst f
  cases (show u=Jv b from p);obtain⟨z,i,xs,c,j⟩:=oV I.hok e;refine wpAny_in_heap (QF t) (nS I.hok eb) i j ?_;have q:=(c.val k).isSome_eq;rw[Oq]at q;rw[<- q,<- l];exact h _ (I.tok _)
theorem iZ{h':i5}{t':Nat}{c:HO}(I:Inv X RE Y H s)(i:GO (H a))(g:Ku a s.heap h')(h:∃q,h'.get? a=al q)(new:ObjOk X.prog X.w (upd H a c) h' a c):
  Inv X RE Y (upd H a c) { s with heap:=h',toks:=t' }:=
 I.write (x:=a) (e:=a) i (.inl rfl) (λb q f z=>(g.2 b f).trans z) h new
theorem gz{h':i5}{c:List (ax×V)}{vs:List (ax×c0)}(z:c.length<=sizeLine)(g:(a==z5)=eo)(f:KV c vs)(dd:h'.DictOf (aE P w) a vs):
  ObjOk P w H' h' a (.dK c):=⟨z,g,vs,f,dd⟩
theorem lF{Q:Unit->c8->Prop}(hu:A.units+1<rz)(I:Inv X RE Y H s)(g:DPut H a y v H')(L:RelV y u)(M:RelV v r)(h:∀s',Inv X RE Y H' s'->Q () s'):
  eH (fm X.prog X.w) A (QS (.ref a) u r) Q E s:=by
 rcases g with⟨i,k,e,B,l,C⟩|⟨i,k,b,e,B,eb,l,C⟩
 .subst B C
  obtain⟨z,p,S,f,F⟩:=uh I.hok e;have x:S.length<=sizeLine:=by rw[<- f.length];exact z
  have t:(bE i k v).length<=sizeLine:=by have:=cF i k v;lia
  refine wpAny_setItem_pairs (hsz:=x) (g6 L) F λK j G=>h _ ?_;have T:∃q,K.get? a=al q:=let ⟨q,_,_,m,_⟩:=j;⟨q,m⟩;exact iZ I (by rw[e];exact Ka) G T (gz t p (f.put k M) j)
 .subst B C
  cases (show u=Jv b from L);obtain⟨z,p,xs,f,F⟩:=Gp I.hok e;have x:xs.length<=sizeLine:=by rw[<- Ke f];exact z
  have t:(bE i k v).length<=sizeLine:=by have:=cF i k v;lia
  refine wpAny_setItem_heap (hsz:=x) (QF hu) (nS I.hok eb) F λK j G=>h _ ?_;obtain⟨q,N,U,m,W,Z,R,_,O⟩:=j;refine iZ I (by rw[e];exact Ka) G ⟨q,m⟩ ⟨t,p,_,(f.put k eb M).keeps λc ys J=>?_,q,N,U,m,W,Z,R,O⟩
  rw[az (HY J e λz=>nomatch z)];exact J
end
section
variable{RG:List (ax×V)}{k:ax}
theorem Dn{v:V}{more:RO}(I:Inv X RE Y H s)(e:H a=al (.dK RG))(m:RelV (kV k) u)(l:cD RG k=al v)(B:more=[]\/∃x,more=[x])(h:∀g s',Inv X RE Y (upd H a<|.dK<|eS RG k) s'->RelV v g->Q g s'):eH (fm X.prog X.w) A (call (.builtin "dict.pop") (.ref a::u::more)) Q E s:=by
 obtain⟨z,C,y,c,p⟩:=uh I.hok e;obtain⟨g,M,j⟩:=cg (v:=v) (o:=Qp y k) (by rw[<- l];exact c.val k)
 have L:(keyPart u).isSome=true:=by
  cases k with
  |inl i=>obtain⟨t,q⟩:=(show ∃t,u=Kx i t from m);subst q;rfl
  |inr x=>obtain⟨t,q⟩:=(show ∃t,u=LV x t from m);subst q;rfl
 have N:QH "dict.pop" ⟨.ref a::u::more,[]⟩:=by
  rcases B with q|⟨x,q⟩
  .subst q;exact PySem.F.args_dict_pop_2 _ _
  .subst q;exact Nm _ _ _
 refine call_meetsIn Lf p.typeIs Nz N (meets_dict_pop_there (aE X.prog X.w) a (g6 m) more B L)
  ⟨y,g,p,by rw[<- c.length];exact z,M,λG f K=>h g _ ?_ j⟩
 have J:∃q,G.get? a=al q:=let ⟨q,_,_,hq,_⟩:=f;⟨q,hq⟩;exact iZ I (by rw[e];exact Ka) K J (gz (JC (y8 RG k) z) C (c.drop k) f)
theorem E4(I:Inv X RE Y H s)(e:H a=al (.dK RG))(f:RelV (kV k) u)(l:cD RG k=ee)(h:∀s',Inv X RE Y H s'->Q r s'):
  eH (fm X.prog X.w) A (call (.builtin "dict.pop") [.ref a,u,r]) Q E s:=by
 obtain⟨z,m,j,c,g⟩:=uh I.hok e;have p:Qp j k=none:=gj (by rw[<- l];exact c.val k)
 have v:(keyPart u).isSome=true:=by
  cases k with
  |inl i=>obtain⟨t,q⟩:=(show ∃t,u=Kx i t from f);subst q;rfl
  |inr x=>obtain⟨t,q⟩:=(show ∃t,u=LV x t from f);subst q;rfl
 exact call_meetsIn Lf g.typeIs Nz (Nm _ _ _) (meets_dict_pop_default (aE X.prog X.w) a (g6 f) m v r) ⟨j,g,p,h _<|I.tok _⟩
theorem Iw(I:Inv X RE Y H s)(e:Rd H a (.dK RG))(h:∀t s',Inv X RE Y H s'->Q (.int RG.length t) s'):eH (fm X.prog X.w) A (call (.builtin "len") [.ref a]) Q E s:=by
 obtain⟨z,f,i,c,g⟩:=g_ I.hok e;refine call_len_dict f g (by rw[<- c.length];rw[Qu]at z;lia) ?_
 rw[<- c.length];exact h _ _ (I.tok _)
end
theorem pI{y:V}{o:Option V}(I:Inv X RE Y H s)(g:DGet H a y o):s.TypeIs (.ref a) "dict":=by
 rcases g with⟨f,k,e,_,_⟩|⟨f,k,b,e,_,_,_⟩
 .obtain⟨_,_,h,_,c⟩:=g_ I.hok e
  exact c.typeIs
 .obtain⟨_,_,xs,_,c⟩:=oV I.hok e
  exact c.typeIs
section
variable{i value:fx}{pos' tpos:Pos}{td ty tv:TE}
end
theorem yt(h:i5)(c:z5<h.objs.size):ObjOk P w H (h.push { cls:=.type "dict",data:=.dict #[] }) h.objs.size (.dK []):=
 ⟨Kv _,beq_eq_false_iff_ne.mpr (JI<|Jo c),[],.nil,My h⟩
section
end
def nb:List (TE×TE)->St->Hp->(List (V×V)->Hp->Prop)->Prop
 |[],_,H,Q=>Q [] H
 |(tk,tv)::r,Y,H,Q=>tk Y H λx H1=>tv Y H1 λy H2=>nb r Y H2 λc H3=>Q ((x,y)::c) H3
abbrev VV:List (V×V)->List (c0×c0)->Prop:=Ql λp q=>RelV p.1 q.1/\RelV p.2 q.2
def Bz(X:Cx)(pos:Pos)(keys:List (Option fx))(values:RQ)(trs:List (TE×TE)):Prop:=
 ∀(RE:RU)(s:c8)(Y:St)(H:Hp)(Q:List (V×V)->Hp->Prop),Inv X RE Y H s->nb trs Y H Q->
  eH (fm X.prog X.w) X.A (evalPairs<|pairTrees keys values X.env pos) (λf c=>∃ps H',Inv X RE Y H' c/\VV ps f/\Q ps H') X.xe s
theorem A8:Bz X pos [] [] []:=λRE s Y H Q I h=>pairTrees_nil_walk ⟨[],H,I,.nil,h⟩
theorem yD{k v:fx}{ks:List (Option fx)}{vs:RQ}{i g:TE}{c:List (TE×TE)}(F:PE X k i)(C:PE X v g)(G:Bz X pos ks vs c):
  Bz X pos (al k::ks) (v::vs) ((i,g)::c):=λRE s Y H Q I h=>
 pairTrees_cons_walk (aW (F RE s Y H _ I h) λu m ⟨x,H1,I1,B,q⟩=>aW (C RE m Y H1 _ I1 q) λJ t ⟨y,H2,I2,p,j⟩=>
  aW (G RE t Y H2 _ I2 j) λL K ⟨l,H3,I3,f,z⟩=>⟨(x,y)::l,H3,I3,.cons ⟨B,p⟩ f,z⟩)
def fb(RG more:List (ax×V)):List (ax×V):=more.foldl (λc f=>bE c f.1 f.2) RG
theorem KV.merge:∀{more:List (ax×V)}{rs:List (ax×c0)}{RG:List (ax×V)}{vs:List (ax×c0)},KV more rs->KV RG vs->KV (fb RG more) (merged vs rs):=by
 intro more rs RG vs r;unfold KV at r
 induction r generalizing RG vs with
 |nil=>intro q;exact q
 |@cons p q ps qs h t ih=>
  intro c;have e:KV (bE RG p.1 p.2) (Qd vs q.1 q.2):=by
   have:=c.put p.1 h.2;rw[<- h.1];exact this
  exact ih e
theorem eV:∀(more RG:List (ax×V)),(fb RG more).length<=RG.length+more.length
 |[],RG=>by show RG.length<=RG.length+0;lia
 |p::r,RG=>by
  have c:=eV r (bE RG p.1 p.2);have f:=cF RG p.1 p.2;show (fb (bE RG p.1 p.2) r).length<=_;rw[Jl];lia
theorem jE{P:fy}{w:h7}:∀{RG:List (ax×V)}{ws:List (c0×c0)},VV (RG.map λkv=>(kV kv.1,kv.2)) ws->∃f,Carries (aE P w) ws f/\KV RG f
 |[],_,r=>by rw[JZ]at r;cases r;exact⟨[],Ka,.nil⟩
 |p::RG,_,r=>by
  rw[Jf]at r;cases r with
  |@cons a b as bs h t=>
   obtain⟨f,c,q⟩:=jE (P:=P) (w:=w) t;obtain⟨i,g⟩:=b;exact⟨(p.1,g)::f,⟨g6 h.1,rfl,c⟩,.cons ⟨rfl,h.2⟩ q⟩
def Gn(trs:List (TE×TE)):TE:=λY H Q=>∀p,H p=ee->nb trs Y (upd H p<|.dK []) λf H2=>H2 p=al (.dK [])/\∃RG:List (ax×V),f=RG.map (λc=>(kV c.1,c.2))/\RG.length<=15/\Q (.ref p) (upd H2 p<|.dK<|fb [] RG)
theorem Cc{f:List (Option fx)}{g:RQ}{m:List (TE×TE)}(h:Bz X pos f g m)(l:f.all (·.isSome)=true)(T:f.length=g.length)(S:f≠[])(t:f.length<=15):PE X (.Dict f g pos) (Gn m):=by
 intro RE s Y H Q I q;have B:=I.hok.fresh (Jg s.heap.objs.size);have I1:=I.laid (a:=s.heap.objs.size) (o:=.dK []) (h':=s.heap.push { cls:=.type "dict",data:=.dict #[] }) (t':=s.toks) (λ_ _ q=>Jb _ q) (Jg _) (yt s.heap I.big);refine wpAny_Dict_walk (knd:=aE X.prog X.w) l T S t (aW (h RE _ Y _ _ I1<|q _ B) λZ W R=>?_);obtain⟨U,H2,I2,p,e,j,L,lk,y⟩:=R;subst L;obtain⟨M,c,G⟩:=jE (P:=X.prog) (w:=X.w) p;obtain⟨z,v,C,x,N⟩:=uh I2.hok e;cases x;refine⟨M,c,N,λh' i O=>⟨.ref s.heap.objs.size,_,?_,rfl,y⟩⟩;have F:(fb [] j).length<=sizeLine:=by
  have K:=eV j [];rw[J1]at K;rw[Qu];lia
 have J:∃q,h'.get? s.heap.objs.size=al q:=let ⟨q,_,_,hq,_⟩:=i;⟨q,hq⟩;exact iZ I2 (by rw[e];exact Ka) O J (gz F v (G.merge .nil) i)
structure M1(X:Cx)(o:fx)(m:Str)(RJ:Pos)(e:fx)(RI:Pos):Prop where
 base:n7 o m X.env (g5 o X.env)=g5 o X.env
 few:((ik RI<|starEach [e] X.env).all (λx=>!x.1)&&(NE RI<|keywordEach [] X.env).all (λx=>x.1.isSome)
  && decide (([e]:RQ).length+([]:List KM).length+(if ([]:List KM).isEmpty then 0 else 1)<30))=true
 line:(RJ.endLine==RI.line)=true
 trees:ik RI (fe [e] X.env)=[(eo,g5 e X.env)]
structure M2(X:Cx)(o:fx)(m:Str)(RJ:Pos)(e f:fx)(RI:Pos):Prop where
 base:n7 o m X.env (g5 o X.env)=g5 o X.env
 few:((ik RI<|starEach [e,f] X.env).all (λx=>!x.1)&&(NE RI<|keywordEach [] X.env).all (λx=>x.1.isSome)
  && decide (([e,f]:RQ).length+([]:List KM).length+(if ([]:List KM).isEmpty then 0 else 1)<30))=true
 line:(RJ.endLine==RI.line)=true
 trees:ik RI (fe [e,f] X.env)=[(eo,g5 e X.env),(eo,g5 f X.env)]
def IsD(H:Hp)(a:eg):Prop:=(∃RG,Rd H a (.dK RG))\/∃RG,Rd H a (.dT RG)
theorem xl(I:Inv X RE Y H s)(d:IsD H a):
  s.TypeIs (.ref a) "dict"/\(∀b,Jv a=.ref b->∃c,s.heap.get? b=al c/\c.dict=ee)/\(a==z5)=false:=by
 rcases d with⟨j,e⟩|⟨j,e⟩
 .obtain⟨_,g,l,_,f⟩:=g_ I.hok e
  refine⟨f.typeIs,λb q=>?_,g⟩;cases q;obtain⟨c,_,_,h,i,_⟩:=f;exact⟨c,h,i.2.1⟩
 .obtain⟨_,g,xs,_,f⟩:=oV I.hok e
  refine⟨f.typeIs,λb q=>?_,g⟩;cases q;obtain⟨c,_,_,h,i,_⟩:=f;exact⟨c,h,i.2.1⟩
section
variable{y d:V}{o:Option V}
end
def DU(td ty:TE):TE:=λY H Q=>td Y H λx H1=>∃a,x=.ref a/\IsD H1 a/\ty Y H1 λy H2=>∃RG k v,H2 a=al (.dK RG)/\y=kV k/\cD RG k=al v/\Q v (upd H2 a<|.dK<|eS RG k)
def DM(td ty tx:TE):TE:=λY H Q=>td Y H λx H1=>∃a,x=.ref a/\IsD H1 a/\ty Y H1 λy H2=>tx Y H2 λz H3=>∃RG k,H3 a=al (.dK RG)/\y=kV k/\
 (∀v,cD RG k=al v->Q v (upd H3 a<|.dK<|eS RG k))/\(cD RG k=ee->Q z H3)
section
variable{f:fx}{RJ RI:Pos}{td ty tx:TE}
theorem zu(J:PE X o td)(K:PE X e ty)(m:M1 X o "pop" RJ e RI):PE X (.Call (.Attribute o "pop" RJ) [e] [] RI) (DU td ty):=by
 intro RE s Y H Q I h;refine wpAny_Call_method m.base m.few m.line Nl Lf ND (aW (J RE s Y H _ I h) λu j ⟨x,H1,I1,C,a,F,d,t⟩=>?_);subst F;obtain rfl:u=Jv a:=C;obtain⟨p,i,_⟩:=xl I1 d;refine⟨p,i,?_⟩;rw[m.trees];refine Kt rfl (KL<|Ks (aW (K RE j Y H1 _ I1 t) λN O ⟨y,H2,I2,q,G,k,v,B,z,l,g⟩=>Le ?_));subst z;exact Dn I2 B q l (.inl rfl) λM L I3 c=>⟨v,_,I3,c,g⟩
theorem xr(S:PE X o td)(U:PE X e ty)(T:PE X f tx)(m:M2 X o "pop" RJ e f RI):PE X (.Call (.Attribute o "pop" RJ) [e,f] [] RI) (DM td ty tx):=by
 intro RE s Y H Q I h;refine wpAny_Call_method m.base m.few m.line Nl Lf ND (aW (S RE s Y H _ I h) λu B ⟨x,H1,I1,F,a,O,d,M⟩=>?_);subst O;obtain rfl:u=Jv a:=F;obtain⟨C,q,_⟩:=xl I1 d;refine⟨C,q,?_⟩;rw[m.trees];refine Kt rfl (KL<|Ks (aW (U RE B Y H1 _ I1 M) λW K ⟨y,H2,I2,j,p⟩=>
  Ks (aW (T RE K Y H2 _ I2 p) λR Z ⟨z,H3,I3,t,g,k,i,N,L,G⟩=>Le ?_)))
 subst N;cases l:cD g k with
 |some v=>exact Dn I3 i j l (.inr ⟨R,rfl⟩) λw' J I4 c=>⟨v,_,I4,c,L v l⟩
 |none=>exact E4 I3 i j l λJ I4=>⟨z,H3,I4,t,G l⟩
end
section
variable{RG:List (ax×V)}
theorem yu(I:Inv X RE Y H s)(e:Rd H a (.dK RG))(h:∀p s',H p=ee->Inv X RE Y (upd H p<|.dK RG) s'->Q (.ref p) s'):eH (fm X.prog X.w) A (call (.type "dict") [.ref a]) Q E s:=by
 obtain⟨z,i,t,c,l⟩:=g_ I.hok e;refine kt_call_dict i l (by rw[<- c.length];exact z) λm f j=>?_
 refine h _ _ (I.hok.fresh<|Jg _) (I.laid (a:=s.heap.objs.size) (o:=.dK RG) (t':=s.toks) (λb q g=>?_) (Jg _)<|gz z (beq_eq_false_iff_ne.mpr<|JI<|Jo I.big) c f);exact(j.2 b<|Jo<|Jh g).trans (Jb _ g)
end
section
variable{y:V}
end
end L2
namespace Att
open PySem PySem.W PySem.Calls PyProof.Rows
theorem ib{P:Params}{h:i5}:∀(c:RM)(vs:RO),WellAll P h vs (c.map WData.int)->Rr vs c:=by
 intro c
 induction c with
 |nil=>
  intro vs w;rw[JZ]at w;cases w;exact .nil
 |cons n c ih=>
  intro vs w;rw[Jf]at w;cases w with
  |cons a b=>
   cases a;exact .cons _ _ (ih _ b)
theorem vz{l:OpenLaw}{n:Nat}(v:l.most=al n){P:Params}{h:i5}{args:List WData}{e:RO}
  (c:l.row.toRowW.claim.pre args=true) (m:WellAll P h e args):
  ∃a vs b,e=[Jv a]/\args=[WData.list (b.map WData.int)]/\h.get? a=al { cls:=.type "list",data:=.seq vs.toArray }/\Rr vs b/\b.length<=n:=by
 have j:WShape.hasAll [] args [.list .int]=true:=(pre_splitW c).1;have o:l.pre.holds [] { args:=args }=true:=(pre_splitW c).2;obtain⟨d,r,rfl,p,s⟩:=hasAllW_cons j;obtain rfl:=hasAllW_nil s;obtain⟨w,rfl,t⟩:=hasW_list p;obtain⟨b,rfl⟩:=items_int t;have f:b.length<=n:=by
  unfold OpenLaw.pre at o;have i:(WTm.not<|.lt (.lit<|.int (n:Int))<|.len<|.arg 0).holds [] { args:=[.list (b.map .int)] }=true:=by
   have i:=(holds_andW o).1;rw[v]at i;exact i
  have g:=condW_of i (w_not<|w_lt w_lit<|w_len_list<|w_arg rfl);rw[Ji]at g;refine Nat.le_of_not_lt λq=>?_;have u:(n:Int)<((b.length:Nat):Int):=by lia
  first
   |(rw[decide_eq_true u]at g;exact absurd g (by decide))
   |(simp at g;lia)
 cases m with
 |cons w1 w2=>
  cases w2;cases w1 with
  |list ho hall=>exact⟨_,_,b,rfl,rfl,ho,ib b _ hall,f⟩
theorem vf(l:OpenLaw)(args:List WData):l.row.toRowW.claim.post args (.bool true) args=true:=
 postW_of (r:=l.row.toRowW) (X:=(true==true))
  (show WShape.has [] (.bool true) .bool=true by first|rfl|decide|simp[WShape.has,WShape.arms,WShape.armsAll])
  (show (WTm.eq .res<|.lit<|.bool true).value [] { args:=args,res:=al (.bool true),after:=args }=al (.bool (true==true)) from w_eq_bool (w_res rfl) w_lit) rfl
theorem oK{l:OpenLaw}{n:Nat}{q:fy}{loose:RN}{XP:(Str->Option c0)->i5->Prop}{YP:h7->i5->Prop}{d:DefRec}
  (T:l.most=al n) (z:d.params.defaults=[])
  (call:∀(w:h7)(c b:c8)(u A:RV)(m:eg)(o:Obj)(B t g:c0)(a:eg)(vs:RO)(s:RM),
   Ground q loose [] XP w c u A b.heap->YP w b.heap->
   b.heap.get? m=al o->o.data=.func (docDef d.name d.params d.body d.scope B t g)->b.heap.CodeRec t d.name->u d.name=al (.ref m)->
   b.heap.get? a=al { cls:=.type "list",data:=.seq vs.toArray }->Rr vs s->s.length<=n->b.gens=#[]->
   P3 (fm l.prog w) QL (.call (.ref m) ⟨[.ref a],[]⟩) (λr p=>r=.ok (.ret<|.bool true)/\OldK b.heap p.heap/\p.os=b.os/\Qi p.gens) b):
  WalkO q loose XP YP l.row.toRowW d [] (λf vs=>Oh f vs):=by
 intro w c b u A G Y m o B t g Q kV R I y C x O F H U h E J v K;obtain rfl:Q=.none:=Dflts.none C z;obtain rfl:kV=.none:=Dflts.noKw C;obtain⟨a,vs,s,rfl,rfl,j,e,i⟩:=vz T h v;refine enter_call (Os (call w c b u A m o B t g a vs s G Y R (fd_plain I) y x j e i O) λr p N=>?_);obtain⟨rfl,M,P,L⟩:=N;exact⟨.inl ⟨.bool true,.bool true,[],rfl,λ_=>rfl,.bool true,vf l _,λ_=>⟨List.Pairwise.nil,λ_ S=>(nomatch S)⟩⟩,M,P,L⟩
section
variable {prog:fy}{w:h7}{A:j0}{E:RT}{s:c8}{K:Frag}
end
end Att
namespace L2
open PySem PySem.Spec PyProof.Rows
variable{T a i1 i2 it l l1 l2 z:eg}{A:j0}{items xs ys:RW}{b b1 b2:Bool}{X:Cx}{h h':i5}{H:Hp}{K:Jd}{RE:RU}{fp:RP}{i k1 k2 t':Nat}{oT:Obj}{pos:Pos}{P prog:fy}{scope:Pi}{s:c8}{Y:St}{x y:c0}{E Q:RT}{w:h7}
theorem lj:∀{vs:RO}{c:RM},Rr vs c->Vals (c.map V.int) vs
 |_,_,.nil=>.nil
 |_,_,.cons n t h=>.cons ⟨t,rfl⟩ (lj h)
def y4(H:Hp):Prop:=∀b,H b=ee\/∃o xs,H b=al (.frz o<|.lst xs)
theorem zt{R mb:RV}{CX:k_}{k:Nat}{fa:eg}{fd:hI}{x:Str}{sp:Sp}{c:c8}{vs:RO}{ns:RM}(KX:K.In c.heap)(N:c.heap.Ns fv R)(g:c.heap.Ns builtinsNs mb)(hbb:∀x:Str,x≠"__name__"->mb x=g4 x)(O:c.heap.NoLimit)(hg:c.gens=#[])(S:c.heap.get? a=al { cls:=.type "list",data:=.seq vs.toArray })(hi:Rr vs ns)(hl:ns.length<=sizeLine)(hr:Room k QL)(F:∀base:i5,K.In base->base.Ns fv R->FnOk P w K R base CX k fa fd [x] sp)(hbind:∀(s:c8)(u:c0),QT s fd ⟨[u],[]⟩ [(x,u)])(hsp:∀H:Hp,y4 H->SqL K H a (ns.map V.int)->sp [.ref a] H (λv _=>v=.bl true) λ_ _ _=>False)(hCX:∀H e j,CX [] H c (λ_ _ _=>False) e j->False):
  P3 (fm P w) QL (.call (.ref fa) ⟨[.ref a],[]⟩) (λr j=>r=.ok (.ret<|.bool true)/\OldK c.heap j.heap/\j.os=c.os/\Qi j.gens) c:=by
 have rv:=lj hi;have L:=hi.length
 -- from an abstract heap in which nothing but the script may be tracked
 have p:∀H:Hp,y4 H->SqL K H a (ns.map V.int)->HOk P w H c.heap->(∀b,H b≠ee->b=a)->(H a≠ee->K.lookup a=ee)->
   P3 (fm P w) QL (.call (.ref fa) ⟨[.ref a],[]⟩) (λr j=>r=.ok (.ret<|.bool true)/\OldK c.heap j.heap/\j.os=c.os/\Qi j.gens) c:=by
  intro H hO hS I hA hK;have f:∀{b:eg}{o:Obj},c.heap.get? b=al o->H b=ee->(nO c.heap H).get? b=al o:=λe n=>z6 e n;have U:∀{b:eg}{o:Obj}{G:Array DictEntry}{t:Nat},c.heap.get? b=al o->o.data=.dict G t->H b=none:=λ{b o G t} e d=>by
   cases q:H b with
   |none=>rfl
   |some u=>
    have W:b=a:=hA b (by rw[q];simp)
    subst W;rw[S]at e;cases e;have d':Data.seq vs.toArray _=Data.dict G t:=d;cases d'
  have nsK:∀{b:eg}{m:RV},c.heap.Ns b m->(nO c.heap H).Ns b m:=λ{b m} ⟨o,G,t,e,d,r⟩=>⟨o,G,t,f e (U e d),d,r⟩;have B:K.In (nO c.heap H):=λb o e=>f (KX b o e) (by
   cases q:H b with
   |none=>rfl
   |some u=>
    have W:b=a:=hA b (by rw[q];simp)
    subst W;rw[hK (by rw[q];simp)]at e;cases e)
  have hM:Mod K R (nO c.heap H):=⟨B,nsK N,⟨mb,nsK g,hbb⟩,let ⟨mc,h1,h2⟩:=O;⟨mc,nsK h1,h2⟩⟩;have e0:Env0 P w K R (nO c.heap H) QL [] c H:=⟨rfl,hM,λb o e=>C3 e,Nat.le_of_eq (wj _ _),trivial,λb g=>absurd (show b∈([]:RP) from g) (by simp),I,.of_eq hg⟩
  refine Os ((F _ B<|nsK N).run QL [] c H ⟨[.ref a],[]⟩ [.ref a] [.ref a] _ _ hr e0 (hbind c<|.ref a) (.cons rfl .nil)<|hsp H hO hS) λr j h=>?_;cases r with
  |error e=>exact(hCX H e j h).elim
  |ok fl=>
   cases fl with
   |next=>exact JF h
   |brk=>exact JF h
   |cont=>exact JF h
   |ret u=>
    obtain⟨v,H',os,J,un,C,r',q⟩:=h;have q':v=.bl true:=q;subst q';obtain rfl:u=JV true:=r';refine⟨rfl,OldK.of_keep λb o e=>?_,os,J⟩;cases q:H b with
    |none=>exact un.keep b o e q (by intro z;exact absurd (show b∈([]:RP) from z) (by simp)) (by simp)
    |some u=>
     rcases hO b with z|⟨ob,xs,z⟩
     .rw[q]at z;cases z
     .have z2:=un.frzs b ob _ z
      obtain⟨e1,_⟩:=I b _ z;obtain⟨e2,_⟩:=C b _ z2;rw[e]at e1;cases e1;exact e2
 cases Z:K.lookup a with
 |some o=>
  -- the script is one of the module's own objects
  have e:=KX a o Z;rw[S]at e;cases e;refine p (λ_=>ee) (λ_=>.inl rfl) (.inr ⟨_,vs.toArray,_,Z,rfl,rfl,rfl,by rw[Jc,L];exact hl,by simpa using rv⟩) (λb u z=>by have M:(none:Option HO)=al u:=z;cases M) (λb z=>absurd rfl z) λz=>absurd rfl z
 |none=>
  refine p (λb=>if b=a then al (.frz { cls:=.type "list",data:=.seq vs.toArray }<|.lst<|ns.map V.int) else ee) (λb=>?_) (.inl<|.inr ⟨{ cls:=.type "list",data:=.seq vs.toArray },if_pos rfl⟩) (λb u z=>?_) (λb z=>?_) λ_=>Z
  .by_cases g:b=a
   .exact .inr ⟨_,_,if_pos g⟩
   .exact .inl (if_neg g)
  .by_cases g:b=a
   .have M:=(if_pos g).symm.trans z
    cases M;subst g;exact⟨S,by rw[Ji];exact hl,vs,_,rv,S⟩
   .have M:=(if_neg g).symm.trans z
    cases M
  .by_cases g:b=a
   .exact g
   .exact absurd (if_neg g) z
theorem Ac{l:W.OpenLaw}{n k:Nat}{q:fy}{loose:RN}{XP:(Str->Option c0)->i5->Prop}{YP:h7->i5->Prop}{d:DefRec}{K:Params->Jd}{CX:h7->k_}{sp:h7->Sp}{x:Str}(hn:l.most=al n)(J:n<=sizeLine)(L:d.params.defaults=[])(hr:Room k QL)(hY:∀(w:h7)(h:i5),YP w h->(K w.params).In h)(F:∀(w:h7)(p:RV)(C:eg)(h:i5),(K w.params).In h->h.Ns fv p->p d.name=al (.ref C)->
   ∃N:hI,(∀(s:c8)(u:c0),QT s N ⟨[u],[]⟩ [(x,u)])/\
    ∀c:i5,(K w.params).In c->c.Ns fv p->FnOk l.prog w (K w.params) p c (CX w) k C N [x] (sp w))(M:∀(w:h7)(H:Hp)(a:eg)(B:RM),B.length<=n->y4 H->SqL (K w.params) H a (B.map V.int)->sp w [.ref a] H (λv _=>v=.bl true) λ_ _ _=>False)(O:∀(w:h7)(H:Hp)(s:c8)(e:c0)(s':c8),CX w [] H s (λ_ _ _=>False) e s'->False):
  W.WalkO q loose XP YP l.row.toRowW d [] (λf vs=>Oh f vs):=by
 refine Att.oK hn L λw R r p mb C o pm cd U a vs B G Y ho hd hcd I t m j hg=>?_;have KX:=hY w _ Y;obtain⟨N,Z,hF⟩:=F w p C _ KX G.T.g I;exact zt KX G.T.g G.T.b G.T.builtins G.T.nolimit hg t m (JC j J) hr hF Z (λH hO S=>M w H a B j hO S) λH e s'=>O w H r e s'
def di(s:q0)(j:Nat):Stmt:=match s with
 |.ClassDef _ _ _ body _ _ _ _ _ _ _=>body.getD j (.Pass ⟨0,0,0,0⟩)
 |_=>.Pass ⟨0,0,0,0⟩
def bt(s:q0):Arguments:=match s with
 |.FunctionDef _ a _ _ _ _ _ _ _ _=>a
 |_=>{ posonlyargs:=[],args:=[],vararg:=ee,kwonlyargs:=[],kw_defaults:=[],kwarg:=ee,defaults:=[] }
def b5(s:q0):List Stmt:=match s with
 |.FunctionDef _ _ b _ _ _ _ _ _ _=>b
 |_=>[]
def aD(s:q0):Scope:=match s with
 |.FunctionDef _ _ _ _ _ _ sc _ _ _=>sc
 |_=>{ kind:=.function,names:=[],isGenerator:=eo,isCoroutine:=eo }
abbrev CX0:k_:=λ_ _ _ _ _ _=>False
abbrev E0:XK:=λ_ _ _=>False
structure Fun(K:Jd)(x RF:Str)(st:q0)(f:eg)(fd:hI):Prop where
 ex:∃(oc:c0)(od:Option eg)(kV doc pm:c0)(an:Option eg)(cdv ct:c0)(osl:Array (Option c0)),
  fd=Lq x RF (bt st) (b5 st) (aD st) .none kV doc pm an cdv ct/\K.lookup f=al ⟨oc,od,.func fd,osl⟩/\MZ K cdv RF=true
 kp:J4 K (.ref f)=true
section
variable{mg:RV}{base:i5}
theorem Fun.binds{x c:Str}{st:q0}{f:eg}{o:hI}{ps:RN}(F:Fun K x c st f o)(h:∀(kV g m:c0)(j:Option eg)(e n:c0)(us:RO),us.length=ps.length->QZ (Lq x c (bt st) (b5 st) (aD st) .none kV g m j e n) ⟨us,[]⟩=pure (ps.zip us)):Binds K o ps []:=by
 obtain⟨r,t,kV,g,m,j,e,n,p,rfl,lk,q⟩:=F.ex;exact .all (h kV g m j e n)
theorem qE{x e:Str}{st:q0}{f:eg}{q:c0}{r n:Option eg}{m:Array (Option c0)}{kV j o g p:c0}(l:K.lookup f=al ⟨q,r,.func (Lq x e (bt st) (b5 st) (aD st) .none kV j o n g p),m⟩)(c:MZ K g e=true)(k:J4 K (.ref f)=true):Fun K x e st f (Lq x e (bt st) (b5 st) (aD st) .none kV j o n g p):=⟨⟨q,r,kV,j,o,n,g,p,m,rfl,l,c⟩,k⟩
end
theorem pi{k:Nat}(c:Room k A):A.units+1<cLine:=LK (Nat.add_le_add_left (by decide:1<=64) _) c.units
section
theorem v_:bp X (.builtin "len") (λxs H Q=>∃a c,xs=[V.ref a]/\H a=al (.dK c)/\Q (.int c.length) H):=by
 intro RE s Y H xs g Q I r h;obtain⟨a,c,rfl,f,q⟩:=h;obtain⟨u,rfl,e⟩:=dI r;cases e;exact Iw I (.inl f) λt j I'=>⟨.int c.length,H,I',⟨t,rfl⟩,q⟩
end
section
variable{κ:Type}[DecidableEq κ]
end
section
variable{R:Q3->c8->Prop}
theorem mQ{p e j:fx}{q:RQ}{it o:c0}{env:Env}(I:Nat->c8->Prop)(F:∀n s,I n s->eH (fm prog w) A (KB it) (λr s₁=>match r with
   |none=>R (.ok .next) s₁
   |some v=>eH (fm prog w) A (Qs e it v) (λ_ s₂=>eH (fm prog w) A (Qz e env v) (λ_ s₃=>
     eH (fm prog w) A (forIn q true λc r=>if r=true then do let ok <- Rn c env (g5 c env);pure (LR ok) else pure (LR r)) (λok s₄=>
      if ok=true then eH (fm prog w) A (g5 p env) (λx s₅=>
       eH (fm prog w) A (call (.builtin "list.append") [o,x]) (λ_ s₆=>∃m,m<n/\I m s₆) (λ_ _=>False) s₅) (λ_ _=>False) s₄
      else ∃m,m<n/\I m s₄) (λ_ _=>False) s₃) (λ_ _=>False) s₂) (λ_ _=>False) s₁) (λ_ _=>False) s)(n:Nat)(h:I n s):
  P3 (fm prog w) A (.compLoop (.ListComp p [⟨e,j,q,0⟩] scope pos) 0 it o env) R s:=by
 refine codeAny_loop rfl I (λn s G=>?_) n h;show eH _ A ((compTurn (.ListComp p [⟨e,j,q,0⟩] scope pos) 0 it o env).onRaise λx=>do noteFrame x env;theTreesLotGoes x) _ _ s
 refine wpAny_noted ?_;rw[compTurn_list];refine cv (Q8<|wpAny_bind (kB (F n s G) (λr s₁ f=>?_) λ_ _ z=>z.elim));cases r with
 |none=>exact eC f
 |some v=>
  refine cv (kB f (λ_ s₂ B=>cv (kB B (λ_ s₃ C=>cv (kB C (λok s₄ g=>?_) λ_ _ z=>z.elim)) λ_ _ z=>z.elim)) λ_ _ z=>z.elim);cases ok with
  |false=>exact eC ⟨rfl,g⟩
  |true=>
   exact cv (cv (kB g (λx s₅ t=>cv (kB t (λ_ s₆ u=>eC (eC ⟨rfl,u⟩)) λ_ _ z=>z.elim)) λ_ _ z=>z.elim))
end
def aR(X:Cx)(N:RN)(scope:Pi)(cl:List (Str×eg))(C:eg)(s₀:c8)(H₀:Hp)(fp:RP)(pl:RU):Cx where
 prog:=X.prog
 w:=X.w
 K:=X.K
 mg:=X.mg
 base:=X.base
 A:=X.A
 N:=N
 s₀:=s₀
 H₀:=H₀
 env:=compEnvC scope cl C X.env
 outer:=X.stack
 stack:=X.stack
 ex:=fp
 fn:=λ_=>eo
 calm:=X.calm
 pn:=X.pn++pl
 xe:=λ_ _=>False
inductive Frees(X:Cx)(scope:Pi):List Str->List Nat->Prop where
 |nil:Frees X scope [] []
 |cons {x:Str} {j:Nat} {xs:RN} {js:List Nat}:X.N[j]?=al x->(X.env.kindOf x=al .cell\/X.env.kindOf x=al .free)->
   ((Qh scope X.env).names.lookup x=al .cell\/(Qh scope X.env).names.lookup x=al .free)->Frees X scope xs js->Frees X scope (x::xs) (j::js)
theorem Frees.length{X:Cx}{scope:Pi}:∀{xs:RN}{c:List Nat},Frees X scope xs c->xs.length=c.length
 |_,_,.nil=>rfl
 |_,_,.cons _ _ _ t=>congrArg (·+1) t.length
theorem Frees.get{X:Cx}{scope:Pi}:∀{xs:RN}{e:List Nat},Frees X scope xs e->∀{i:Nat}{x:Str},xs[i]?=al x->∃j,e[i]?=al j/\X.N[j]?=al x/\(X.env.kindOf x=al .cell\/X.env.kindOf x=al .free)/\
   ((Qh scope X.env).names.lookup x=al .cell\/(Qh scope X.env).names.lookup x=al .free)
 |_,_,.nil,i,x,h=>by simp at h
 |_,_,.cons a b c _,0,x,h=>by simp at h;subst h;exact⟨_,rfl,a,b,c⟩
 |_,_,.cons _ _ _ t,i+1,x,h=>by
  obtain⟨j,f,g⟩:=t.get (i:=i) (x:=x) (by simpa using h)
  exact⟨j,by simpa using f,g⟩
def bT(ls:RN)(js:List Nat)(Y:St):St:=ls.map (λ_=>ee)++js.map λj=>(Y[j]?).join
structure CompOk(X:Cx)(scope:Pi)(cl:List (Str×eg))(ls fs:RN)(js:List Nat):Prop where
 kind:scope.kind=.function
 nocell:∀y∈scope.names,y.2≠.cell
 locs:∀x∈scope.names,x.2=.local->scope.names.lookup x.1=al .local
 clos:QG scope X.env=pure cl
 cells:∀x c,cl.lookup x=al c->X.env.cells.lookup x=al c
 has:∀x,((Qh scope X.env).names.lookup x=al .cell\/(Qh scope X.env).names.lookup x=al .free)->∃c,cl.lookup x=al c
 frees:Frees X scope fs js
theorem zm{cl:List (Str×eg)}{ls fs:RN}{C:List Nat}{g:i5}{m:RV}{t':Nat}(I:Inv X RE Y H s)(co:CompOk X scope cl ls fs C)(t:∀b∈fp,gC X RE H b/\b<s.heap.objs.size)(W:g.Ns s.heap.objs.size m)(B:∀b o,s.heap.get? b=al o->g.get? b=al o):
  Inv (aR X (ls++fs) scope cl s.heap.objs.size s H fp RE) [] (bT ls C Y) H { s with heap:=g,toks:=t' }:=by
 have lk:∀b o,s.heap.get? b=al o->b≠s.heap.objs.size:=λb o e=>Jo (Jh e);refine⟨⟨I.ok.mod,co.kind,I.ok.glob,I.ok.blt,Jg _,λx y c O G=>?_,λx N=>co.has x N,λx c h _=>absurd (show eo=true from h) Js,I.ok.hd,I.ok.frames,.inl rfl,λb r=>⟨Jo (t b r).2,λx c e=>?_⟩,
   λb o e=>I.bs b o e,JC I.ok.bsz I.sz,λb o e r=>?_,λb r hf=>?_,I.stack,λb r=>I.stkFree b r⟩,
  rfl,I.bare,Un.kept B,⟨m,W,λi x v O G h3=>?_⟩,λx c e=>?_,I.hok.fresh (Jg _),λx c e=>I.freeC x c (co.cells x c e),λp hp=>?_,I.hok.kept B,?_⟩
 .exact I.ok.inj x y c (co.cells x c O) (co.cells y c G)
 .exact(t b r).1.2.2.2.2.1 x c (co.cells x c e)
 .obtain⟨f0,f1,f2,f3,_⟩:=(t b r).1
  rcases f3 with z|z
  .exact I.ok.noex b o e z
  .exact absurd (Jn (Jh (I.ok.bs b o e).1) z) (JW _)
 .obtain⟨f0,f1,f2,f3,_⟩:=(t b r).1
  rcases Jq.mp (I.stkSub b hf) with z|z
  .exact f1 z
  .exact f2 z
 .have F:¬i<ls.length:=λF=>by
   have f:(bT ls C Y)[i]?=al (al v):=G;unfold bT at f;rw[Ki (by simpa using F),Jw,Je F]at f
   cases f
  have hN:fs[i-ls.length]?=al x:=by
   have J:(ls++fs)[i]?=al x:=O
   rwa [J0 (by lia)]at J
  obtain⟨j,hj,N,hc,hl⟩:=co.frees.get hN;have R:Y[j]?=al (al v):=by
   have f:(bT ls C Y)[i]?=al (al v):=G;unfold bT at f;rw[J0 (by simpa using F),Ji,Jw,hj]at f
   have q:(Y[j]?).join=al v:=by simpa using f
   cases e:Y[j]? with
   |none=>rw[e]at q;cases q
   |some o=>rw[e]at q;have q':o=al v:=q;rw[q']
  obtain⟨mX,_,U⟩:=I.loc;have M:Gj X.env.scope x:=by
   rcases hc with z|z
   .exact .inr (.inl z)
   .exact .inr (.inr z)
  obtain⟨u,ru,lo⟩:=U j x v N R M;refine⟨u,ru,.inr ⟨hl,?_⟩⟩;obtain⟨c,ec⟩:=co.has x hl;refine⟨c,ec,?_⟩;rcases lo with⟨Z,_⟩|⟨_,c',e',z⟩
  .rcases hc with q|q<;>(rw[q]at Z;cases Z)
  .rw[co.cells x c ec]at e'
   cases e';obtain⟨o,S,hd⟩:=z;exact⟨o,B _ _ S,hd⟩
 .obtain⟨v,o,S,hd⟩:=I.cell x c (co.cells x c e)
  exact⟨v,o,B _ _ S,hd⟩
 .have L:p∈X.pn++RE:=by
   have q:p∈(X.pn++RE)++[]:=hp;simpa using q
  obtain⟨e,n,ne,nf,d⟩:=I.pin p L;refine⟨B _ _ e,n,lk _ _ e,λr=>?_,d⟩;rcases Jq.mp (I.stkSub p.1 r) with z|z
  .exact ne z
  .exact nf z
 .show (bT ls C Y).length=(ls++fs).length
  unfold bT;rw[Jr,Ji,Ji,Jr,co.frees.length]
def EC(X:Cx)(ifs:RQ)(t:TT):Prop:=
 ∀(RE:RU)(s:c8)(Y:St)(H:Hp)(Q:Bool->Hp->Prop),Inv X RE Y H s->t Y H Q->
  eH (fm X.prog X.w) X.A (forIn ifs true λc r=>if r=true then do let ok <- Rn c X.env (g5 c X.env);pure (LR ok) else pure (LR r)) (TP X RE Y Q) X.xe s
def tAll:TT:=λ_ H Q=>Q true H
theorem B2:EC X [] tAll:=λ_ _ _ H _ I h=>wpAny_tests_nil ⟨H,I,h⟩
theorem Ce{c:fx}{t:TT}(h:PT X c t):EC X [c] t:=λRE s Y H Q I q=>wpAny_tests_one (h RE s Y H Q I q)
def yJ(wi:TI)(ls:RN)(js:List Nat)(g:TG)(tt:TT)(te:TE):TE:=λY H Q=>wi Y H λJ H1=>∀p,H1 p=ee->∃W:Nat->Nat->St->Hp->Prop,(∃m,W 0 m (bT ls js Y) (upd H1 p<|.lst []))/\∀i m σ' H',W i m σ' H'->
 (J.stop i H'/\Q (.ref p) H')\/(J.go i H'/\∃N:St->Hp->Prop,(∀σ2 H2,N σ2 H2->∃m',m'<m/\W (i+1) m' σ2 H2)/\∀x H2,J.yld i H' x H2->g x σ' H2 λe H3=>tt e H3 λc H4=>
  if c=true then te e H4 λy H5=>∃ys,H5 p=al (.lst ys)/\ys.length<sizeLine/\N e (upd H5 p<|.lst (ys++[y])) else N e H4)
section
variable{tg iter elt:fx}{ifs:RQ}{cl:List (Str×eg)}{ls fs:RN}{js:List Nat}{wi:TI}{g:TG}{tt:TT}{te:TE}
theorem oG{f:c8}{tn:Nat->i5->Prop}{J:It}{H1:Hp}{R:c0->eg->Q3->c8->Prop}{Q:VK}{E:RT}(hc:X.calm=true)(co:CompOk X scope cl ls fs js)(hY:∀(C:eg)(s₀:c8)(H₀:Hp)(fp:RP)(pl:RU),PG (aR X (ls++fs) scope cl C s₀ H₀ fp pl) tg g/\EC (aR X (ls++fs) scope cl C s₀ H₀ fp pl) ifs tt/\PE (aR X (ls++fs) scope cl C s₀ H₀ fp pl) elt te)(I:Inv X RE Y H1 f)(T:Turn X.prog X.w X.K tg J fp it tn)(st:tn 0 f.heap)(hf:∀b∈fp,gC X RE H1 b)(q:∀p,H1 p=ee->∃W:Nat->Nat->St->Hp->Prop,(∃m,W 0 m (bT ls js Y) (upd H1 p<|.lst []))/\∀i m B H',W i m B H'->
   (J.stop i H'/\Q (.ref p) H')\/(J.go i H'/\∃N:St->Hp->Prop,(∀σ2 H2,N σ2 H2->∃m',m'<m/\W (i+1) m' σ2 H2)/\∀x H2,J.yld i H' x H2->g x B H2 λσ3 H3=>tt σ3 H3 λc H4=>
    if c=true then te σ3 H4 λy H5=>∃ys,H5 p=al (.lst ys)/\ys.length<sizeLine/\N σ3 (upd H5 p<|.lst (ys++[y])) else N σ3 H4))(hR:∀(p C:eg)(H':Hp)(s':c8)(m:RV),s'.heap.Ns C m->Inv X RE Y H' s'->H' C=ee->C≠X.env.locals->X.s₀.heap.objs.size<=C->(∀x c,X.env.cells.lookup x=al c->c≠C)->(∀pp∈X.pn++RE,pp.1≠C)->Q (.ref p) H'->R (.ref p) C (.ok .next) s'):
  eH (fm X.prog X.w) X.A (newList []) (λRH s₃=>eH (fm X.prog X.w) X.A (newFunctionEnv scope X.env.globals cl [] X.env.qual ee .none<|some X.env) (λcenv s₄=>
   P3 (fm X.prog X.w) X.A (.compStart (.ListComp elt [⟨tg,iter,ifs,0⟩] scope pos) 0 (.ref it) RH { cenv with scope:=Qh scope X.env }) (R RH cenv.locals) s₄) E s₃) E f:=by
 have hp0:H1 f.heap.objs.size=none:=I.hok.fresh (Jg _);obtain⟨W,⟨m0,w0⟩,turn⟩:=q f.heap.objs.size hp0;refine ra (wpAny_newFunctionEnv co.nocell (by intro y hy;simp at hy) (λt L G=>?_) co.kind)
 dsimp only at L G ⊢;have I3:Inv X RE Y (upd H1 f.heap.objs.size<|.lst []) { f with heap:=f.heap.push { cls:=.type "list",dict:=ee,data:=.seq ([]:RO).toArray } }:=
  I.lnew (RK:=[]) (t':=f.toks) .nil (Kv _)
 generalize hs3:({ f with heap:=f.heap.push { cls:=.type "list",dict:=ee,data:=.seq ([]:RO).toArray } }:c8)=s3 at I3;have U:f.heap.push { cls:=.type "list",dict:=ee,data:=.seq ([]:RO).toArray }=s3.heap:=by rw[<- hs3]
 rw[U]at L G ⊢;have hsz3:s3.heap.objs.size=f.heap.objs.size+1:=by rw[<- U,JP]
 have hk3:∀b o,f.heap.get? b=al o->s3.heap.get? b=al o:=λb o e=>by rw[<- U];exact Jb _ e
 have hlt:∀b∈fp,b<f.heap.objs.size:=λb j=>by
  obtain⟨o,e,_⟩:=T.obj _ _ st b j;exact Jh e
 have hnp:∀b∈fp,upd H1 f.heap.objs.size (.lst []) b=none:=λb j=>by
  rw[az (Jo<|hlt b j)];exact(hf b j).1
 have hf3:∀b∈fp,gC X RE (upd H1 f.heap.objs.size<|.lst []) b/\b<s3.heap.objs.size:=λb j=>⟨⟨hnp b j,(hf b j).2⟩,by rw[hsz3];exact Nat.lt_succ_of_lt (hlt b j)⟩
 have hk4:∀b o,s3.heap.get? b=al o->t.get? b=al o:=λb o e=>G.extBut b o (Jo<|Jh e) (Jb _ e);have st4:tn 0 t:=T.keep _ _ _ st λb j o e=>hk4 b o (hk3 b o e);have I4:=zm (t':=s3.toks) I3 co hf3 L hk4;obtain⟨hg,ht,he⟩:=hY s3.heap.objs.size s3 (upd H1 f.heap.objs.size<|.lst []) fp RE;have M:∀{H':Hp},(∀b∈fp,H' b=ee)->∀b∈fp,gC (aR X (ls++fs) scope cl s3.heap.objs.size s3 (upd H1 f.heap.objs.size<|.lst []) fp RE) [] H' b:=λ{H'} hn b j=>by
  obtain⟨f0,f1,f2,f3,f4,f5⟩:=hf b j;refine⟨hn b j,Jo (hf3 b j).2,λz=>?_,.inl j,λx c e=>f4 x c (co.cells x c e),λpp hp=>f5 pp ?_⟩
  .rcases Jq.mp (I3.stkSub b z) with y|y
   .exact f1 y
   .exact f2 y
  .have q:pp∈(X.pn++RE)++[]:=hp
   simpa using q
 have loop:∀s₄:c8,s₄={ s3 with heap:=t,toks:=s3.toks }->
   P3 (fm X.prog X.w) X.A (.compLoop (.ListComp elt [⟨tg,iter,ifs,0⟩] scope pos) 0 (.ref it) (.ref f.heap.objs.size)<|compEnvC scope cl s3.heap.objs.size X.env) (R (.ref f.heap.objs.size) s3.heap.objs.size) s₄:=by
  rintro s₄ rfl
  refine mQ (λn s'=>∃i B H',Inv (aR X (ls++fs) scope cl s3.heap.objs.size s3 (upd H1 f.heap.objs.size<|.lst []) fp RE) [] B H' s'/\tn i s'.heap/\(∀b∈fp,H' b=ee)/\W i n B H') ?_ m0 ⟨0,_,_,I4,st4,hnp,w0⟩
  rintro n s5 ⟨i,S,H5,I5,st5,fr5,w5⟩
  rcases turn i n S H5 w5 with⟨stop,qn⟩|⟨go,N,hN,step⟩
  .refine aW (T.done (aR X (ls++fs) scope cl s3.heap.objs.size s3 (upd H1 f.heap.objs.size<|.lst []) fp RE) rfl rfl rfl hc i [] s5 S H5 _ I5 (M fr5) st5 stop) λr s6 ⟨hr,I6⟩=>?_
   subst hr;obtain⟨m6,hn6,_⟩:=I6.loc;have IX:Inv X RE Y H5 s6:=I3.call' I6.os I6.base I6.hok I6.bare λb j=>⟨(hf b j).2.2.2.1,(hf b j).2.1,(hf b j).2.2.2.2.1,(hf b j).2.2.2.2.2⟩;refine hR _ _ H5 s6 m6 hn6 IX I6.free (KS I3.lt) I3.sz (λx c e z=>?_) (λpp hp z=>?_) qn
   .obtain⟨v,zz⟩:=I3.cell x c e
    have zl:=zz.lt;rw[z]at zl;exact JW _ zl
   .have zl:=Jh (I3.pin pp hp).1
    rw[z]at zl;exact JW _ zl
  .refine aW (T.item (aR X (ls++fs) scope cl s3.heap.objs.size s3 (upd H1 f.heap.objs.size<|.lst []) fp RE) rfl rfl rfl hc i [] s5 S H5 _ I5 (M fr5) st5 go) λr s6 ⟨u,hr,h6⟩=>?_
   subst hr;refine aW h6 λ_ s7 ⟨x,H7,I7,r7,y7,Z,fr7⟩=>?_;have I7':=I7.pinned (M fr7) (T.obj _ _ Z);refine aW (hg _ s7 S H7 x u _ I7' r7<|step x H7 y7) λ_ s8 ⟨σ8,H8,I8,q8⟩=>?_
   have again:∀{O:St}{H9:Hp}{s9:c8},Inv (aR X (ls++fs) scope cl s3.heap.objs.size s3 (upd H1 f.heap.objs.size<|.lst []) fp RE) ([]++km fp s7.heap) O H9 s9->N O H9->
     ∃m,m<n/\∃i B H',Inv (aR X (ls++fs) scope cl s3.heap.objs.size s3 (upd H1 f.heap.objs.size<|.lst []) fp RE) [] B H' s9/\tn i s9.heap/\(∀b∈fp,H' b=ee)/\W i m B H':=λ{O H9 s9} I9 n9=>by
    obtain⟨m',hm,w9⟩:=hN O H9 n9;refine⟨m',hm,i+1,O,H9,I9.unpinned,T.keep _ _ _ Z λb j o e=>(I9.pin (b,o)<|JG _<|JG _<|df j e).1,λb j=>?_,w9⟩;obtain⟨o,e,d⟩:=T.obj _ _ Z b j;exact(I9.pin (b,o)<|JG _<|JG _<|df j e).2.1
   refine aW (ht _ s8 σ8 H8 _ I8 q8) λok s9 ⟨H9,I9,q9⟩=>?_;cases ok with
   |false=>exact again I9 q9
   |true=>
    refine aW (he _ s9 σ8 H9 _ I9 q9) λxv s10 ⟨y,H10,I10,r10,ys,hp,hl,n10⟩=>?_;obtain⟨z,RK,n',r,hl',e⟩:=I10.lstM hp;refine pa Ms ⟨_,e,rfl⟩ F.entry_list_append (F.args_list_append_2 _ _) (Ow f.heap.objs.size RK.toArray n' xv<|by rw[Jc];lia) ⟨e,?_⟩
    refine again (I10.lset (its':=RK++[xv]) hp e (by simp) (r.append<|.cons r10 .nil) ?_) n10
    rw[Jr,Mn];lia
 have se:({ f with heap:=t,toks:=f.toks+([]:List (Str×c0)).length }:c8)={ s3 with heap:=t,toks:=s3.toks }:=by rw[<- hs3];rfl
 exact codeAny_compStart_list (loop _ se) (T.self _ 0 _ _ _ st4<|loop _ se)
theorem AS(hc:X.calm=true)(co:CompOk X scope cl ls fs js)(Z:PI X tg iter wi)(W:∀(C:eg)(c:c8)(H₀:Hp)(fp:RP)(pl:RU),PG (aR X (ls++fs) scope cl C c H₀ fp pl) tg g/\EC (aR X (ls++fs) scope cl C c H₀ fp pl) ifs tt/\PE (aR X (ls++fs) scope cl C c H₀ fp pl) elt te)(hs:∀x,rg iter X.env x=pure x:=by intro _;rfl):PE X (.ListComp elt [⟨tg,iter,ifs,0⟩] scope pos) (yJ wi ls js g tt te):=by
 intro RE s Y H Q I h;rw[eval_ListComp];refine Q9 (use:=ee) rfl hs co.clos co.kind co.locs (aW (Z RE s Y H _ I h) λxv s1 S=>aW S λB s2 F=>?_);obtain⟨it,fp,tn,J,H2,e,I2,T,n,G,q⟩:=F;subst e;refine oG (R:=λr C=>compPost (fm X.prog X.w) X.A X.xe ee (EP X RE Y Q) r C) (Q:=Q) hc co W I2 T n G q ?_;intro p C H' U m M IX L v t f j N;exact⟨m,M,λh' O=>⟨.ref p,H',IX.turned (t':=U.toks) (λb o u e=>O.extBut b o u e) L v (.inr t) f j,rfl,N⟩⟩
def Fs(i:Nat)(t:TE):TS:=λD Y H=>t Y H λv H1=>D.nx (Y.set i<|some v) H1
theorem B8{x:Str}{n j:Pos}(hN:X.N.Nodup)(W:X.N[i]?=al x)(hx:qD X.env.scope x)(hc:X.calm=true)(co:CompOk X scope cl ls fs js)(hi:PI X tg iter wi)(hY:∀(C:eg)(f:c8)(H₀:Hp)(fp:RP)(pl:RU),PG (aR X (ls++fs) scope cl C f H₀ fp pl) tg g/\EC (aR X (ls++fs) scope cl C f H₀ fp pl) ifs tt/\PE (aR X (ls++fs) scope cl C f H₀ fp pl) elt te)(U:rc (.ListComp elt [⟨tg,iter,ifs,0⟩] scope pos) (al<|.Name x n) j.line X.env=pure true:=by rfl)(hs:∀x,rg iter X.env x=pure x:=by intro _;rfl)(hf:X.fn x=true\/X.env.scope.names.lookup x=al .local:=by first|exact .inl rfl|exact .inr rfl|assumption):
  PS X (.Assign [.Name x n] (.ListComp elt [⟨tg,iter,ifs,0⟩] scope pos) j) (Fs i<|yJ wi ls js g tt te):=by
 intro RE s Y H D I h;rw[exec_Assign_Name_used _ _ _ _ U];refine cv (Q8<|wpAny_bind ?_);show eH _ X.A (do let _ <- comprehension (.ListComp elt [⟨tg,iter,ifs,0⟩] scope pos) scope X.env _ (newList []) eo (g5 iter X.env) (al<|assign (.Name x n) X.env)) _ _ s
 refine cv (kB (Q9 (use:=al (Qz (.Name x n) X.env)) (Q:=λ_ t=>SP X RE D .next t) rfl hs co.clos co.kind co.locs
  (aW (hi RE s Y H _ I h) λxv s1 h1=>aW h1 λitv s2 h2=>?_)) (λ_ t O=>eC (eC O)) λ_ _ e=>e)
 obtain⟨it,fp,tn,J,H2,e,I2,T,B,f2,q⟩:=h2;subst e;refine oG (R:=λF C=>compPost (fm X.prog X.w) X.A X.xe (al<|assign (.Name x n) X.env) (λ_ t=>SP X RE D .next t) F C) (Q:=λv H1=>D.nx (Y.set i<|some v) H1) hc co hY I2 T B f2 q ?_;intro p C H' t m hn IX hC Z S c r O;show eH _ X.A (Qz (.Name x n) X.env<|.ref p) _ _ _;refine wpAny_assign_Name (kW IX hN W hx (v:=.ref p) rfl (λL I'' u=>?_) hf);obtain⟨a,sb,ha⟩:=u;have G:C≠a:=by
  rcases ha with z|z
  .rw[z];exact Z
  .exact λy=>c x a z y.symm
 refine⟨m,hn.sameBut sb G,λh3 M=>?_⟩;exact⟨_,H',I''.turned (t':=L.toks) (λb o u e=>M.extBut b o u e) hC Z (.inr S) c r,O⟩
end
def SrcTn(b:Bool)(it a:eg)(i:Nat)(h:i5):Prop:=if b=true then h.IsListIter it a i else h.IsTupleIter it a i
def SrcSq(b:Bool)(h:i5)(a:eg)(items:RW):Prop:=if b=true then h.IsList a items else h.IsTuple a items
theorem SrcTn.lt(x:SrcTn b it a i h):∃o,h.get? it=al o/\∀v,o.data≠.cell v:=by
 cases b with
 |true=>obtain⟨o,e,c,d⟩:=(show h.IsListIter it a i from x);exact⟨o,e,λv z=>by rw[d]at z;cases z⟩
 |false=>obtain⟨o,e,c,d⟩:=(show h.IsTupleIter it a i from x);exact⟨o,e,λv z=>by rw[d]at z;cases z⟩
theorem SrcTn.keep(x:SrcTn b it a i h)(k:∀o,h.get? it=al o->h'.get? it=al o):SrcTn b it a i h':=by
 cases b with
 |true=>obtain⟨o,e,r⟩:=(show h.IsListIter it a i from x);exact(show h'.IsListIter it a i from ⟨o,k o e,r⟩)
 |false=>obtain⟨o,e,r⟩:=(show h.IsTupleIter it a i from x);exact(show h'.IsTupleIter it a i from ⟨o,k o e,r⟩)
theorem SrcSq.keep(x:SrcSq b h a items)(k:∀o,h.get? a=al o->h'.get? a=al o):SrcSq b h' a items:=by
 cases b with
 |true=>obtain⟨o,e,r⟩:=(show h.IsList a items from x);exact(show h'.IsList a items from ⟨o,k o e,r⟩)
 |false=>obtain⟨o,e,r⟩:=(show h.IsTuple a items from x);exact(show h'.IsTuple a items from ⟨o,k o e,r⟩)
section
theorem fD(c:s.heap.IsTupleIter it l i)(p:s.heap.IsTuple l items)(n:items[i]?=al x)(hQ:∀h',h'.IsTupleIter it l (i+1)->Ku it s.heap h'->Q x { s with heap:=h' }):eH (fm prog w) A (Ju<|.ref it) Q E s:=by
 obtain⟨o,f,m,e⟩:=id c;obtain⟨q,g,_,r,j⟩:=p;unfold Ju
 refine cv (wpAny_callSpecial?_slot (name:=JH "__next__") c.typeIs KR
  (kl KR c.typeIs NF ?_<|NA _))
 show eH _ _ (Qb (.ref it) 0 >>= _) _ _ s;refine cv (hD f e (x:=.ref l) rfl ?_);show eH _ _ (if (Jv l==Kr)=true then _ else _) _ _ s
 rw[if_neg (show ¬((Jv l==Kr)=true) from Js)];show eH _ _ (Qb (.ref it) 1 >>= _) _ _ s;refine cv (hD f e (x:=.int i 0) rfl ?_);show eH _ _ (Rc (.ref l) >>= _) _ _ s;refine cv (mu g j ?_);simp only[JL,n];refine cv (wpAny_setField f e (by simp)<|wpAny_pure ⟨x,rfl,eC<|hQ _ ?_<|Nc ..⟩)
 exact⟨_,NY _ f (Obj.isFreed_of_fields<|Obj.data_mapFields e _),(Obj.cls_mapFields ..).trans m,by
  rw[Obj.data_mapFields e];simp[x5]⟩
theorem gD(p:A.handled=ee)(c:s.heap.IsTupleIter it l i)(r:s.heap.IsTuple l items)(q:items[i]?=ee)(t:∀h' e,M7 it s.heap h'->(∃o,h'.get? e=al o/\o.cls=.type "StopIteration")->E (.ref e) { s with heap:=h' }):eH (fm prog w) A (Ju<|.ref it) Q E s:=by
 obtain⟨o,j,B,f⟩:=id c;obtain⟨u,g,_,v,n⟩:=r;unfold Ju
 refine cv (wpAny_callSpecial?_slot (name:=JH "__next__") c.typeIs KR
  (kl KR c.typeIs NF ?_<|NA _))
 show eH _ _ (Qb (.ref it) 0 >>= _) _ _ s;refine cv (hD j f (x:=.ref l) rfl ?_);show eH _ _ (if (Jv l==Kr)=true then _ else _) _ _ s
 rw[if_neg (show ¬((Jv l==Kr)=true) from Js)];show eH _ _ (Qb (.ref it) 1 >>= _) _ _ s;refine cv (hD j f (x:=.int i 0) rfl ?_);show eH _ _ (Rc (.ref l) >>= _) _ _ s;refine cv (mu g n ?_);simp only[JL,q];refine cv (On<|wpAny_bind<|wpAny_setField j f (by simp) ?_)
 show eH _ _ (newExc (.type "StopIteration") [] >>= _) _ _ _;refine cv ?_;simp only[newExc,newTuple];refine cv (ra ?_<|by size_fits)
 refine cv (m:=Qw _ _) (Pv (a:=Kr) (by first|rfl|(simp only[Qw];rfl)) ?_)
 refine ra ?_ (by size_fits)
 simp only[raiseNew];refine cv (wpAny_handled ?_)
 first|rw[show A.in1.handled=ee from p]|rw[p]
 refine cv (eC<|wpAny_throw ?_);exact t _ _ (((Nc ..).extBut.push _).push _) ⟨_,Jk _ rfl,rfl⟩
theorem aZ(c:SrcTn b it l i s.heap)(g:SrcSq b s.heap l items)(f:items[i]?=al x)(e:∀h',SrcTn b it l (i+1) h'->Ku it s.heap h'->Q x { s with heap:=h' }):eH (fm prog w) A (Ju<|.ref it) Q E s:=by
 cases b with
 |true=>exact wpAny_nextOf_list_item c g f e
 |false=>exact fD c g f e
theorem bq(j:A.handled=ee)(c:SrcTn b it l i s.heap)(g:SrcSq b s.heap l items)(f:items[i]?=ee)(m:∀h' e,M7 it s.heap h'->(∃o,h'.get? e=al o/\o.cls=.type "StopIteration")->E (.ref e) { s with heap:=h' }):eH (fm prog w) A (Ju<|.ref it) Q E s:=by
 cases b with
 |true=>exact wpAny_nextOf_list_end j c g f m
 |false=>exact gD j c g f m
def aH(b:Bool):String:=if b=true then "list_iterator" else "tuple_iterator"
theorem cw(e:SrcSq b s.heap l items)(c:Q (.ref s.heap.objs.size) { s with heap:=s.heap.push { cls:=.type (aH b),data:=.fields #[.ref l,.int 0 0] } }):eH (fm prog w) A (pyIter<|.ref l) Q E s:=by
 cases b with
 |true=>exact QJ e c
 |false=>exact wpAny_pyIter_tuple e c
theorem mF(e:h.get? it=al { cls:=.type (aH b),data:=.fields #[.ref l,.int 0 0] }):SrcTn b it l 0 h:=by
 cases b with
 |true=>exact(show h.IsListIter it l 0 from ⟨_,e,rfl,rfl⟩)
 |false=>exact(show h.IsTupleIter it l 0 from ⟨_,e,rfl,rfl⟩)
structure ZApart(z TI TO i1 i2:eg):Prop where
 TIz:TI≠z
 TOz:TO≠z
 i1z:i1≠z
 i2z:i2≠z
 TITO:TI≠TO
 TIi1:TI≠i1
 TIi2:TI≠i2
 TOi1:TO≠i1
 TOi2:TO≠i2
 i12:i1≠i2
def qh(z TO i1 i2 l:eg):Prop:=l≠z/\l≠TO/\l≠i1/\l≠i2
theorem xP{TI TO:eg}{a b:c0}(D:ZApart z TI TO i1 i2)(O1:qh z TO i1 i2 l1)(O2:qh z TO i1 i2 l2)(hz:Qf s.heap z TI TO .none)(hTI:pt s.heap TI (.ref i1) (.ref i2))(hTO:pt s.heap TO a b)(h1:SrcTn b1 i1 l1 k1 s.heap)(h2:SrcTn b2 i2 l2 k2 s.heap)(hl1:SrcSq b1 s.heap l1 xs)(hl2:SrcSq b2 s.heap l2 ys)(hx:xs[k1]?=al x)(hy:ys[k2]?=al y)(hQ:∀h',Qf h' z TI TO (x5 s.heap.objs.size)->pt h' TO x y->SrcTn b1 i1 l1 (k1+1) h'->SrcTn b2 i2 l2 (k2+1) h'->pt h' s.heap.objs.size x y->h'.objs.size=s.heap.objs.size+1->
   (∀c o,c≠z->c≠TO->c≠i1->c≠i2->s.heap.get? c=al o->h'.get? c=al o)->Q (.ref s.heap.objs.size) { s with heap:=h' }):
  eH (fm prog w) A (Builtin.«zip.__next__» ⟨[.ref z],[]⟩) (λfin s'=>∃v,fin=.done (.ret v)/\Q v s') E s:=by
 show eH _ _ (Qb (.ref z) 2 >>= _) _ _ _;refine cv (hD hz rfl (x:=.bool eo) rfl ?_);show eH _ _ (Qb (.ref z) 3 >>= _) _ _ _;refine cv (hD hz rfl (x:=.ref TI) rfl ?_);refine cv (mu hTI rfl ?_);show eH _ _ (Jy (.ref z) >>= _) _ _ _;refine cv ?_;unfold Jy;refine cv (hD hz rfl (x:=.none) rfl<|wpAny_pure ?_);simp only[if_true];refine cv (On ?_);refine cv (hD hz rfl (x:=.ref TO) rfl ?_);refine cv (kr hz (by simp) λO J hs1=>?_)
 replace J:Qf O z TI TO .ellipsis:=J
 refine cv ?_;simp only[MT,List.zipIdx_nil,KZ,LH];refine cv (cv<|wpAny_onRaise ?_);show eH _ _ (Ju (.ref i1) >>= _) _ _ _;refine cv (aZ (h1.keep λo e=>hs1.extBut _ o D.i1z e) (hl1.keep λo e=>hs1.extBut _ o O1.1 e) hx λM h12 hs₂=>eC ?_);have t:pt M TO a b:=hs₂.extBut _ _ D.TOi1 (hs1.extBut _ _ D.TOz hTO);refine cv (mu t rfl ?_);refine cv (Qt t λL q hs₃=>?_)
 replace q:pt L TO x b:=q
 refine cv (Rx<|wpAny_pure ?_);refine cv (cv<|wpAny_onRaise ?_);show eH _ _ (Ju (.ref i2) >>= _) _ _ _
 refine cv (aZ (h2.keep λo e=>hs₃.extBut _ o D.TOi2.symm (hs₂.extBut _ o D.i12.symm<|hs1.extBut _ o D.i2z e))
  (hl2.keep λo e=>hs₃.extBut _ o O2.2.1 (hs₂.extBut _ o O2.2.2.1<|hs1.extBut _ o O2.1 e)) hy λS h24 p=>eC ?_)
 have r:pt S TO x b:=p.extBut _ _ D.TOi2 q;refine cv (mu r rfl ?_);refine cv (Qt r λf m n=>?_)
 replace m:pt f TO x y:=m
 refine cv (Rx<|wpAny_pure<|wpAny_pure ?_);refine cv (mu m rfl ?_);refine cv (QU ?_);have W:f.objs.size=s.heap.objs.size:=by rw[n.1,p.1,hs₃.1,hs₂.1,hs1.1]
 have R:Qf f z TI TO .ellipsis:=n.extBut _ _ D.TOz.symm (p.extBut _ _ D.i2z.symm<|hs₃.extBut _ _ D.TOz.symm<|hs₂.extBut _ _ D.i1z.symm J);have hk5:∀c o,c≠z->c≠TO->c≠i1->c≠i2->s.heap.get? c=al o->f.get? c=al o:=λc o G c2 c3 c4 e=>
  n.extBut _ _ c2 (p.extBut _ _ c4<|hs₃.extBut _ _ c2<|hs₂.extBut _ _ c3<|hs1.extBut _ _ G e)
 have C:SrcTn b1 i1 l1 (k1+1) f:=h12.keep λo e=>n.extBut _ o D.TOi1.symm (p.extBut _ o D.i12<|hs₃.extBut _ o D.TOi1.symm e);have h25:SrcTn b2 i2 l2 (k2+1) f:=h24.keep λo e=>n.extBut _ o D.TOi2.symm e;have u:z<f.objs.size:=Jh R;show eH _ _ (LA (.ref z) (.ref f.objs.size) >>= _) _ _ _;refine cv ?_;unfold LA;have hz6:Qf (f.push { cls:=.type "tuple",data:=.seq #[x,y] }) z TI TO .ellipsis:=Jb _ R;refine cv (kr hz6 (by simp) λU B F=>?_)
 replace B:Qf U z TI TO (x5 f.objs.size):=B
 refine kr B (by simp) λj g I=>?_
 replace g:Qf j z TI TO (x5 f.objs.size):=g
 have up:∀c o,c≠z->f.get? c=al o->j.get? c=al o:=λc o G e=>I.extBut _ _ G (F.extBut _ _ G<|Jb _ e);have Z:pt j f.objs.size x y:=I.extBut _ _ (KS u) (F.extBut _ _ (KS u)<|Jk _ rfl);have N:j.objs.size=f.objs.size+1:=by rw[I.1,F.1,JP]
 rw[W]at g Z N;refine eC ⟨_,rfl,?_⟩;show Q (.ref f.objs.size) _;rw[W];exact hQ j g (up _ _ D.TOz m) (C.keep λo e=>up _ o D.i1z e) (h25.keep λo e=>up _ o D.i2z e) Z N λc o G c2 c3 c4 e=>up c o G (hk5 c o G c2 c3 c4 e)
theorem AZ{TI TO:eg}{a b:c0}{Q:Fin->c8->Prop}(hh:A.handled=ee)(D:ZApart z TI TO i1 i2)(O1:qh z TO i1 i2 l1)(O2:qh z TO i1 i2 l2)(L:Qf s.heap z TI TO .none)(S:pt s.heap TI (.ref i1) (.ref i2))(U:pt s.heap TO a b)(h1:SrcTn b1 i1 l1 k1 s.heap)(h2:SrcTn b2 i2 l2 k2 s.heap)(J:SrcSq b1 s.heap l1 xs)(W:SrcSq b2 s.heap l2 ys)(I:xs[k1]?=ee\/ys[k2]?=ee)(hE:∀h' e,(∀c o,c≠z->c≠TO->c≠i1->c≠i2->s.heap.get? c=al o->h'.get? c=al o)->(∃o,h'.get? e=al o/\o.cls=.type "StopIteration")->E (.ref e) { s with heap:=h' }):
  eH (fm prog w) A (Builtin.«zip.__next__» ⟨[.ref z],[]⟩) Q E s:=by
 show eH _ _ (Qb (.ref z) 2 >>= _) _ _ _;refine cv (hD L rfl (x:=.bool eo) rfl ?_);show eH _ _ (Qb (.ref z) 3 >>= _) _ _ _;refine cv (hD L rfl (x:=.ref TI) rfl ?_);refine cv (mu S rfl ?_);show eH _ _ (Jy (.ref z) >>= _) _ _ _;refine cv ?_;unfold Jy;refine cv (hD L rfl (x:=.none) rfl<|wpAny_pure ?_);simp only[if_true];refine cv (On ?_);refine cv (hD L rfl (x:=.ref TO) rfl ?_);refine cv (kr L (by simp) λC m hs1=>?_)
 replace m:Qf C z TI TO .ellipsis:=m
 refine cv ?_;simp only[MT,List.zipIdx_nil,KZ,LH];refine cv (cv<|wpAny_onRaise ?_);show eH _ _ (Ju (.ref i1) >>= _) _ _ _;cases M:xs[k1]? with
 |none=>
  refine cv (bq hh (h1.keep λo e=>hs1.extBut _ o D.i1z e) (J.keep λo e=>hs1.extBut _ o O1.1 e) M λg e hs₂ O=>?_);obtain⟨R,f,j⟩:=O;have r:Qf g z TI TO .ellipsis:=hs₂ _ _ D.i1z.symm m;have q:e≠z:=λx=>by subst x;rw[r]at f;cases f;simp at j
  refine kr r (by simp) λp _ hs₃=>hE p e (λc o F _ N _ x=>hs₃.extBut _ _ F (hs₂ _ _ N<|hs1.extBut _ _ F x)) ⟨R,hs₃.extBut _ _ q f,j⟩
 |some x=>
  have hy:ys[k2]?=none:=by rcases I with h|h;rw[M]at h;cases h;exact h
  refine cv (aZ (h1.keep λo e=>hs1.extBut _ o D.i1z e) (J.keep λo e=>hs1.extBut _ o O1.1 e) M λg h12 hs₂=>eC ?_);have n:pt g TO a b:=hs₂.extBut _ _ D.TOi1 (hs1.extBut _ _ D.TOz U);refine cv (mu n rfl ?_);refine cv (Qt n λp Z hs₃=>?_);refine cv (Rx<|wpAny_pure ?_);refine cv (cv<|wpAny_onRaise ?_);show eH _ _ (Ju (.ref i2) >>= _) _ _ _
  refine cv (bq hh (h2.keep λo e=>hs₃.extBut _ o D.TOi2.symm (hs₂.extBut _ o D.i12.symm<|hs1.extBut _ o D.i2z e))
   (W.keep λo e=>hs₃.extBut _ o O2.2.1 (hs₂.extBut _ o O2.2.2.1<|hs1.extBut _ o O2.1 e)) hy λG e B O=>?_)
  obtain⟨R,f,j⟩:=O;have u:Qf G z TI TO .ellipsis:=B _ _ D.i2z.symm (hs₃.extBut _ _ D.TOz.symm<|hs₂.extBut _ _ D.i1z.symm m);have q:e≠z:=λx=>by subst x;rw[u]at f;cases f;simp at j
  refine kr u (by simp) λt _ v=>hE t e (λc o F c2 N c4 x=>v.extBut _ _ F (B _ _ c4<|hs₃.extBut _ _ c2<|hs₂.extBut _ _ N<|hs1.extBut _ _ F x)) ⟨R,v.extBut _ _ q f,j⟩
theorem dm{TI TO:eg}{a b:c0}{Q:Option c0->c8->Prop}(D:ZApart z TI TO i1 i2)(O1:qh z TO i1 i2 l1)(O2:qh z TO i1 i2 l2)(n:Qf s.heap z TI TO .none)(e:pt s.heap TI (.ref i1) (.ref i2))(f:pt s.heap TO a b)(F:SrcTn b1 i1 l1 k1 s.heap)(G:SrcTn b2 i2 l2 k2 s.heap)(g:SrcSq b1 s.heap l1 xs)(j:SrcSq b2 s.heap l2 ys)(C:xs[k1]?=al x)(J:ys[k2]?=al y)(I:∀h',Qf h' z TI TO (x5 s.heap.objs.size)->pt h' TO x y->SrcTn b1 i1 l1 (k1+1) h'->SrcTn b2 i2 l2 (k2+1) h'->pt h' s.heap.objs.size x y->h'.objs.size=s.heap.objs.size+1->
   (∀c o,c≠z->c≠TO->c≠i1->c≠i2->s.heap.get? c=al o->h'.get? c=al o)->Q (al<|.ref s.heap.objs.size) { s with heap:=h' }):
  eH (fm prog w) A (KB<|.ref z) Q E s:=by
 have m:s.TypeIs (.ref z) "zip":=⟨_,n,rfl⟩;unfold KB
 exact cv (wh (wpAny_callSpecial?_slot (name:=JH "__next__") m Kk
  (kl Kk m Mg (xP D O1 O2 n e f F G g j C J λh' v B r p t q u=>eC (I h' v B r p t q u))<|LZ _)))
theorem jO{TI TO:eg}{a b:c0}{Q:Option c0->c8->Prop}(F:A.handled=ee)(D:ZApart z TI TO i1 i2)(O1:qh z TO i1 i2 l1)(O2:qh z TO i1 i2 l2)(q:Qf s.heap z TI TO .none)(g:pt s.heap TI (.ref i1) (.ref i2))(j:pt s.heap TO a b)(B:SrcTn b1 i1 l1 k1 s.heap)(C:SrcTn b2 i2 l2 k2 s.heap)(m:SrcSq b1 s.heap l1 xs)(n:SrcSq b2 s.heap l2 ys)(f:xs[k1]?=ee\/ys[k2]?=ee)(G:∀h',(∀c o,c≠z->c≠TO->c≠i1->c≠i2->s.heap.get? c=al o->h'.get? c=al o)->Q ee { s with heap:=h' }):eH (fm prog w) A (KB<|.ref z) Q E s:=by
 have p:s.TypeIs (.ref z) "zip":=⟨_,q,rfl⟩;unfold KB
 refine cv (wh (wpAny_callSpecial?_slot (name:=JH "__next__") p Kk
  (kl Kk p Mg (AZ F D O1 O2 q g j B C m n f λh' e t r=>?_)<|LZ _)))
 obtain⟨o,u,v⟩:=r;refine cv (P8 (T:="StopIteration") (b:=true) ⟨o,u,v⟩ Qv ?_);exact eC (G _ t)
end
abbrev zH1(c1:String)(h:i5)(l1:eg):Heap:=h.push { cls:=.type c1,data:=.fields #[.ref l1,.int 0 0] }
abbrev zH2(c1 c2:String)(h:i5)(l1 l2:eg):Heap:=(zH1 c1 h l1).push { cls:=.type c2,data:=.fields #[.ref l2,.int 0 0] }
abbrev zH3(c1 c2:String)(h:i5)(l1 l2:eg):Heap:=(zH2 c1 c2 h l1 l2).push { cls:=.type "tuple",data:=.seq #[.ref h.objs.size,.ref (zH1 c1 h l1).objs.size] }
abbrev zH4(c1 c2:String)(h:i5)(l1 l2:eg):Heap:=(zH3 c1 c2 h l1 l2).push { cls:=.type "tuple",data:=.seq #[.none,.none] }
abbrev FE(c1 c2:String)(h:i5)(l1 l2:eg):Heap:=(zH4 c1 c2 h l1 l2).push { cls:=.type "zip",data:=.fields #[.none,.bool eo,.bool eo,.ref (zH2 c1 c2 h l1 l2).objs.size,.ref (zH3 c1 c2 h l1 l2).objs.size] }
theorem vk(b1 b2:Bool)(l1 l2:eg)(xs ys:RW):
  Q5 (Builtin.«zip.__new__» ⟨[.type "zip",.ref l1,.ref l2],[]⟩) (λ_ R s=>SrcSq b1 s.heap l1 xs/\SrcSq b2 s.heap l2 ys/\
   R (.ok<|.ret<|.ref (zH4 (aH b1) (aH b2) s.heap l1 l2).objs.size) { s with heap:=FE (aH b1) (aH b2) s.heap l1 l2 }):=
 .of_wp λprog w A R s h=>by
  obtain⟨q,g,d,r,p⟩:=s;obtain⟨f,m,h⟩:=h;have n:=sub_zip;have j:SrcSq b1 (NP ⟨q,g,d,r,p⟩) l1 xs:=f;have c:SrcSq b2 (NP ⟨q.push { cls:=.type (aH b1),data:=.fields #[.ref l1,.int 0 0] },g,d,r,p⟩) l2 ys:=SrcSq.keep m λo e=>Jb _ e
  wp_walk using cw j,cw c
  exact⟨_,rfl,h⟩
section
theorem oi(p:SrcSq b1 s.heap l1 xs)(n:SrcSq b2 s.heap l2 ys)(h:∀h',Qf h' (s.heap.objs.size+4) (s.heap.objs.size+2) (s.heap.objs.size+3) .none->pt h' (s.heap.objs.size+2) (.ref s.heap.objs.size) (.ref (s.heap.objs.size+1))->
   pt h' (s.heap.objs.size+3) .none .none->SrcTn b1 s.heap.objs.size l1 0 h'->SrcTn b2 (s.heap.objs.size+1) l2 0 h'->h'.objs.size=s.heap.objs.size+5->
   (∀c o,s.heap.get? c=al o->h'.get? c=al o)->Q (.ref (s.heap.objs.size+4)) { s with heap:=h' }):
  eH (fm prog w) A (call (.type "zip") [.ref l1,.ref l2]) Q E s:=by
 refine Rq F.called_zip (by decide) (F.typeCall_zip_2 _ _) (F.newCall_zip_2 _ _) (λobj=>F.args_object_init_3 obj _ _) F.entry_zip_new (vk b1 b2 l1 l2 xs ys) ⟨p,n,?_⟩
 have e:(zH1 (aH b1) s.heap l1).objs.size=s.heap.objs.size+1:=JP ..;have g:(zH2 (aH b1) (aH b2) s.heap l1 l2).objs.size=s.heap.objs.size+2:=by rw[JP,e]
 have m:(zH3 (aH b1) (aH b2) s.heap l1 l2).objs.size=s.heap.objs.size+3:=by rw[JP,g]
 have f:(zH4 (aH b1) (aH b2) s.heap l1 l2).objs.size=s.heap.objs.size+4:=by rw[JP,m]
 have v:(FE (aH b1) (aH b2) s.heap l1 l2).objs.size=s.heap.objs.size+5:=by rw[JP,f]
 have j:(FE (aH b1) (aH b2) s.heap l1 l2).get? (zH4 (aH b1) (aH b2) s.heap l1 l2).objs.size=al _:=Jk _ rfl;have t:(FE (aH b1) (aH b2) s.heap l1 l2).get? (zH3 (aH b1) (aH b2) s.heap l1 l2).objs.size=al _:=Jb _ (Jk _ rfl);have r:(FE (aH b1) (aH b2) s.heap l1 l2).get? (zH2 (aH b1) (aH b2) s.heap l1 l2).objs.size=al _:=Jb _ (Jb _<|Jk _ rfl);have q:(FE (aH b1) (aH b2) s.heap l1 l2).get? (zH1 (aH b1) s.heap l1).objs.size=al _:=Jb _ (Jb _<|Jb _<|Jk _ rfl);have u:(FE (aH b1) (aH b2) s.heap l1 l2).get? s.heap.objs.size=al _:=Jb _ (Jb _<|Jb _<|Jb _<|Jk _ rfl);show _/\_;rw[g,m,f]at j;rw[e,g]at r;rw[m]at t;rw[e]at q;rw[f];exact⟨⟨_,j,rfl⟩,h _ j r t (mF u) (mF q) v λc o x=>
  Jb _ (Jb _<|Jb _<|Jb _<|Jb _ x)⟩
end
def lc(K:Jd)(b:Bool)(H:Hp)(a:eg)(xs:List V):Prop:=if b=true then SqL K H a xs else fg K H a xs
section
variable{xs ys:List V}
theorem Inv.src(I:Inv X RE Y H s)(h:lc X.K b H a xs):∃RK:List c0,Vals xs RK/\SrcSq b s.heap a RK.toArray/\xs.length<=sizeLine:=by
 cases b with
 |true=>obtain⟨RK,r,p,z⟩:=I.list (show SqL X.K H a xs from h);exact⟨RK,r,p.isList,z⟩
 |false=>obtain⟨RK,r,p,z⟩:=I.tuple (show fg X.K H a xs from h);exact⟨RK,r,p,z⟩
theorem Inv.src_inj(I:Inv X RE Y H s)(h:lc X.K b H a xs)(h':lc X.K b H a ys):xs=ys:=by
 cases b with
 |true=>exact I.list_inj (show SqL X.K H a xs from h) h'
 |false=>exact I.tuple_inj (show fg X.K H a xs from h) h'
theorem Inv.src_ne(I:Inv X RE Y H s)(h:lc X.K b H a xs)(f:gC X RE H it):a≠it:=by
 obtain⟨j,f1,r,n,p,q⟩:=f;intro e;subst e;have g:∀o,X.K.lookup a=al o->False:=λo c=>by
  have m:=I.ok.mod.kin a o c;rcases n with z|z
  .exact I.ok.noex a o m z
  .exact absurd (Jn (Jh (I.ok.bs a o m).1) z) (JW _)
 cases b with
 |true=>
  rcases (show SqL X.K H a xs from h) with (z|⟨o,z⟩)|⟨o,_,_,c,_⟩
  .rw[j]at z;cases z
  .rw[j]at z;cases z
  .exact g o c
 |false=>
  rcases (show fg X.K H a xs from h) with (z|⟨o,z⟩)|⟨o,_,_,c,_⟩
  .rw[j]at z;cases z
  .rw[j]at z;cases z
  .exact g o c
end
def Itz(K:Jd)(b1 b2:Bool)(l1 l2:eg):It:=
 ⟨λi H=>∃xs ys x y,lc K b1 H l1 xs/\lc K b2 H l2 ys/\xs[i]?=al x/\ys[i]?=al y,
  λi H v H'=>∃T x y,H T=ee/\v=.ref T/\H'=upd H T (.tup [x,y])/\(∀xs,lc K b1 H l1 xs->xs[i]?=al x)/\(∀ys,lc K b2 H l2 ys->ys[i]?=al y),
  λi H=>∃xs ys,lc K b1 H l1 xs/\lc K b2 H l2 ys/\(xs.length<=i\/ys.length<=i)⟩
theorem Inv.turned4{t':Nat}(I:Inv X RE Y H s)(j:∀b∈fp,gC X RE H b)(k:∀b o,b∉fp->s.heap.get? b=al o->h'.get? b=al o):Inv X RE Y H { s with heap:=h',toks:=t' }:=by
 have g:∀b u,H b=al u->b∉fp:=λb u e z=>by have:=(j b z).1;rw[e]at this;cases this
 refine I.step (g':=s.gens) (d':=s.drawn) (ch:=fp) (λb t=>?_) (λb o _ _ f e _=>k b o f e) (λb o _ _ f e _=>⟨o.slots,k b o f e⟩) (λ_ _ _ _ n=>n)
  (λb o f e=>⟨o,k b o f e⟩) (λ_ _ e=>e) (λ_ _ _ e=>e) (λb M e=>⟨#[],by rw[e];simp⟩) (λm C=>?_) (λb u e=>?_) I.bare
 .obtain⟨N,f1,O,G,B,L⟩:=j b t
  exact⟨G,f1,B,L⟩
 .obtain⟨o,p,F,J,r⟩:=C
  exact⟨o,p,F,k _ o (λz=>(j _ z).2.1 rfl) J,r⟩
 .refine (I.hok b u e).stay (λc v f q=>k c v ?_ q) (λ_ q=>q) λ_ _ q=>q
  rcases f with z|z
  .rw[z];exact g b u e
  .exact g c _ z
theorem Inv.turnedNew{t':Nat}{zs:List V}{us:RO}{p:Obj}(I:Inv X RE Y H s)(F:∀b∈fp,gC X RE H b)(k:∀b o,b∉fp->s.heap.get? b=al o->h'.get? b=al o)(Z:∀b∈fp,∃o,s.heap.get? b=al o)(hlv:∀b∈fp,∃o,h'.get? b=al o)(hT:h'.get? s.heap.objs.size=al p)(G:p.cls=.type "tuple")(C:∃n,p.data=.seq us.toArray n)(r:Vals zs us)(J:p.dict=ee)(hz:zs.length<=sizeLine):Inv X RE Y (upd H s.heap.objs.size<|.tup zs) { s with heap:=h',toks:=t' }:=by
 have f:H s.heap.objs.size=none:=I.hok.fresh (Jg _);have j:∀b u,H b=al u->b∉fp:=λb u e z=>by have:=(F b z).1;rw[e]at this;cases this
 refine I.step (g':=s.gens) (d':=s.drawn) (ch:=fp) (λb t=>?_) (λb o _ _ g e _=>k b o g e) (λb o _ _ g e _=>⟨o.slots,k b o g e⟩) (λb o _ e n=>by rw[az (Jo<|Jh e)];exact n)
  (λb o g e=>⟨o,k b o g e⟩) (λb B e=>by rw[az (aQ e f)];exact e) (λb o u e=>by rw[az (aQ e f)];exact e) (λb ps e=>⟨#[],by rw[az (aQ e f),e];simp⟩) (λm O=>?_) (λb u e=>?_) I.bare
 .obtain⟨f0,f1,f2,S,N,W⟩:=F b t
  exact⟨S,f1,N,W⟩
 .obtain⟨o,M,R,U,r⟩:=O
  exact⟨o,M,R,k _ o (λz=>(F _ z).2.1 rfl) U,r⟩
 .by_cases t:b=s.heap.objs.size
  .subst t
   rw[upd_same]at e;cases e;obtain⟨n,L⟩:=C;exact⟨hz,us,r,⟨p,hT,⟨G,n,L⟩,J⟩⟩
  .rw[az t]at e
   refine (I.hok b u e).stay (λc v g q=>k c v ?_ q) (λc q=>by rw[az (aQ q f)];exact q) λc B q=>by rw[az (aQ q f)];exact q
   rcases g with z|z
   .rw[z];exact j b u e
   .exact j c _ z
theorem x9{S:RQ}{x1:Nat}{tp:Pos}(b1 b2:Bool)(l1 l2 z TI TO i1 i2:eg)(D:ZApart z TI TO i1 i2):
  Turn P w K (.Tuple S x1 tp) (Itz K b1 b2 l1 l2) [z,TI,TO,i1,i2] z (λi h=>Qf h z TI TO .none/\pt h TI (.ref i1) (.ref i2)/\(∃a b,pt h TO a b)/\SrcTn b1 i1 l1 i h/\SrcTn b2 i2 l2 i h) where
 mem:=by simp
 obj:=λi h F b g=>by
  obtain⟨C,j,⟨a,c,m⟩,L,J⟩:=F;have B:b=z\/b=TI\/b=TO\/b=i1\/b=i2:=by simpa using g
  rcases B with e|e|e|e|e<;>subst e
  .exact⟨_,C,λv q=>nomatch q⟩
  .exact⟨_,j,λv q=>nomatch q⟩
  .exact⟨_,m,λv q=>nomatch q⟩
  .exact L.lt
  .exact J.lt
 keep:=λi h h' F k=>by
  obtain⟨C,j,⟨a,c,m⟩,L,J⟩:=F;exact⟨k z (by simp) _ C,k TI (by simp) _ j,⟨a,c,k TO (by simp) _ m⟩,L.keep λo e=>k i1 (by simp) o e,J.keep λo e=>k i2 (by simp) o e⟩
 item:=by
  intro X hP hw hK hc i RE s Y H E I hf F hg;subst hP hw hK;obtain⟨xs,ys,x,y,r,p,hx,hy⟩:=hg;obtain⟨C,j,⟨a,c,m⟩,L,J⟩:=F;obtain⟨O,r1,W,z1⟩:=I.src r;obtain⟨N,r2,Z,z2⟩:=I.src p;obtain⟨u,hu,ru⟩:=r1.get hx;obtain⟨v,hv,rv⟩:=r2.get hy;have O1:qh z TO i1 i2 l1:=⟨I.src_ne r (hf z<|by simp),I.src_ne r (hf TO<|by simp),I.src_ne r (hf i1<|by simp),I.src_ne r<|hf i2<|by simp⟩
  have O2:qh z TO i1 i2 l2:=⟨I.src_ne p (hf z<|by simp),I.src_ne p (hf TO<|by simp),I.src_ne p (hf i1<|by simp),I.src_ne p<|hf i2<|by simp⟩
  refine dm D O1 O2 C j m L J W Z (x:=u) (y:=v) (by simpa using hu) (by simpa using hv) λh' a1 a2 a3 a4 a5 a6 U=>?_
  refine⟨_,rfl,wpAny_letOwnedTupleGo_zip a1 λn G f=>?_⟩;have hzs:z≠s.heap.objs.size:=Jo (Jh C);have kk:∀b o,b∉[z,TI,TO,i1,i2]->s.heap.get? b=al o->n.get? b=al o:=λb o g e=>
   f.extBut b o (λq=>g (by simp[q])) (U b o (λq=>g (by simp[q])) (λq=>g (by simp[q])) (λq=>g (by simp[q])) (λq=>g (by simp[q])) e)
  have hT:n.get? s.heap.objs.size=al { cls:=.type "tuple",data:=.seq #[u,v] }:=f.extBut _ _ hzs.symm a5;have lv:∀b∈[z,TI,TO,i1,i2],∃o,s.heap.get? b=al o:=λb g=>by
   have B:b=z\/b=TI\/b=TO\/b=i1\/b=i2:=by simpa using g
   rcases B with e|e|e|e|e<;>subst e
   .exact⟨_,C⟩
   .exact⟨_,j⟩
   .exact⟨_,m⟩
   .obtain⟨o,e,_⟩:=L.lt;exact⟨o,e⟩
   .obtain⟨o,e,_⟩:=J.lt;exact⟨o,e⟩
  have n1:SrcTn b1 i1 l1 (i+1) n:=a3.keep λo e=>f.extBut _ o D.i1z e;have n2:SrcTn b2 i2 l2 (i+1) n:=a4.keep λo e=>f.extBut _ o D.i2z e;have R:pt n TI (.ref i1) (.ref i2):=f.extBut _ _ D.TIz (U _ _ D.TIz D.TITO D.TIi1 D.TIi2 j);have M:pt n TO u v:=f.extBut _ _ D.TOz a2;have lv':∀b∈[z,TI,TO,i1,i2],∃o,n.get? b=al o:=λb g=>by
   have B:b=z\/b=TI\/b=TO\/b=i1\/b=i2:=by simpa using g
   rcases B with e|e|e|e|e<;>subst e
   .exact⟨_,G⟩
   .exact⟨_,R⟩
   .exact⟨_,M⟩
   .obtain⟨o,e,_⟩:=n1.lt;exact⟨o,e⟩
   .obtain⟨o,e,_⟩:=n2.lt;exact⟨o,e⟩
  have hTn:H s.heap.objs.size=none:=I.hok.fresh (Jg _);refine⟨.ref s.heap.objs.size,_,I.turnedNew (s:=s) (h':=n) (t':=s.toks) (zs:=[x,y]) (us:=[u,v]) hf kk lv lv' hT rfl ⟨_,rfl⟩ (.cons ru<|.cons rv .nil) rfl (by show 2<=sizeLine;decide),rfl,⟨_,x,y,hTn,rfl,rfl,λzs t=>?_,λzs t=>?_⟩,⟨G,R,⟨_,_,M⟩,n1,n2⟩,λb g=>?_⟩
  .rw[I.src_inj t r];exact hx
  .rw[I.src_inj t p];exact hy
  .obtain⟨o,e⟩:=lv b g
   rw[az (Jo<|Jh e)];exact(hf b g).1
 done:=by
  intro X hP hw hK hc i RE s Y H E I hf F hg;subst hP hw hK;obtain⟨xs,ys,r,p,hx⟩:=hg;obtain⟨C,j,⟨a,c,m⟩,L,J⟩:=F;obtain⟨O,r1,W,z1⟩:=I.src r;obtain⟨N,r2,Z,z2⟩:=I.src p;have l1':=r1.length;have l2':=r2.length;have O1:qh z TO i1 i2 l1:=⟨I.src_ne r (hf z<|by simp),I.src_ne r (hf TO<|by simp),I.src_ne r (hf i1<|by simp),I.src_ne r<|hf i2<|by simp⟩
  have O2:qh z TO i1 i2 l2:=⟨I.src_ne p (hf z<|by simp),I.src_ne p (hf TO<|by simp),I.src_ne p (hf i1<|by simp),I.src_ne p<|hf i2<|by simp⟩
  refine jO (I.ok.hd hc) D O1 O2 C j m L J W Z ?_ λh' U=>⟨rfl,I.turned4 (t':=s.toks) hf λb o g e=>U b o (λq=>g (by simp[q])) (λq=>g (by simp[q])) (λq=>g (by simp[q])) (λq=>g (by simp[q])) e⟩
  rcases hx with hx|hx
  .exact .inl (by simp;lia)
  .exact .inr (by simp;lia)
 self:=λ_ _ _ _ _ F h=>wpAny_pyIter_zip F.1 h
section
def Ite(K:Jd)(b:Bool)(l:eg):It:=
 ⟨λi H=>∃xs x,lc K b H l xs/\xs[i]?=al x,
  λi H v H'=>∃T x,H T=ee/\v=.ref T/\H'=upd H T (.tup [.int i,x])/\(∀xs,lc K b H l xs->xs[i]?=al x),
  λi H=>∃xs,lc K b H l xs/\xs.length<=i⟩
end
section
theorem Draws.src(r:A.handled=ee)(b:Bool)(it l:eg)(j:l≠it)(items:RW):
  Draws prog w A it [it,l] items.size (λi v=>items[i]?=al v) (λi h=>SrcTn b it l i h/\SrcSq b h l items) where
 live:=λ_ _ c=>let ⟨o,ho,_⟩:=c.1.lt;⟨o,ho⟩
 frame:=λ_ _ _ c n=>⟨c.1.keep λo e=>n it (by simp) o e,c.2.keep λo e=>n l (by simp) o e⟩
 item:=λi s Q E m c p=>by
  refine aZ c.1 c.2 (x:=items[i]) (by simp[m]) λh' f g=>?_
  exact p _ h' s.toks (by simp[m]) ⟨f,c.2.keep λo e=>g.extBut _ o j e⟩ g
 done:=λs Q E c q=>bq r c.1 c.2 (by simp) q
theorem qO(b:Bool)(l:eg)(items:RW):
  Q5 (Builtin.«enumerate.__new__» ⟨[.type "enumerate",.ref l],[]⟩) (λ_ R s=>SrcSq b s.heap l items/\
   R (.ok<|.ret<|.ref (s.heap.push { cls:=.type (aH b),data:=.fields #[.ref l,.int 0 0] }).objs.size)
    { s with heap:=(s.heap.push { cls:=.type (aH b),data:=.fields #[.ref l,.int 0 0] }).push { cls:=.type "enumerate",data:=.fields #[.none,.bool eo,.ref s.heap.objs.size,x5 0,.none,.none] } }):=
 .of_wp λprog w A R s h=>by
  obtain⟨m,g,d,o,j⟩:=s;obtain⟨n,h⟩:=h;have f:=sub_enumerate;have e:SrcSq b (NP ⟨m,g,d,o,j⟩) l items:=n
  wp_walk
  refine wpAny_stack_any λp=>eC ?_
  split
  .rename_i c _ _ _ _ _
   cases (c==Nb "enumerate")
   .wp_walk using cw e
    exact⟨_,rfl,h⟩
   .wp_walk using cw e
    exact⟨_,rfl,h⟩
  .wp_walk using cw e
   exact⟨_,rfl,h⟩
theorem wc(f:SrcSq b s.heap l items)(h:∀h',IsEnum h' (s.heap.objs.size+1) s.heap.objs.size 0 .none->SrcTn b s.heap.objs.size l 0 h'->h'.objs.size=s.heap.objs.size+2->
   (∀b o,s.heap.get? b=al o->h'.get? b=al o)->Q (.ref (s.heap.objs.size+1)) { s with heap:=h' }):
  eH (fm prog w) A (call (.type "enumerate") [.ref l]) Q E s:=by
 refine Rq F.called_enumerate (by decide) (F.typeCall_enumerate_1 _) (F.newCall_enumerate_1 _) (λobj=>F.args_object_init_2 obj _) F.entry_enumerate_new (qO b l items) ⟨f,?_⟩
 have c:(s.heap.push { cls:=.type (aH b),data:=.fields #[.ref l,.int 0 0] }).objs.size=s.heap.objs.size+1:=JP ..;show _/\_;rw[c]
 have e:IsEnum ((s.heap.push { cls:=.type (aH b),data:=.fields #[.ref l,.int 0 0] }).push
   { cls:=.type "enumerate",data:=.fields #[.none,.bool eo,.ref s.heap.objs.size,x5 0,.none,.none] }) (s.heap.objs.size+1) s.heap.objs.size 0 .none:=by
  have:=Jk (s.heap.push { cls:=.type (aH b),data:=.fields #[.ref l,.int 0 0] })
   (o:={ cls:=.type "enumerate",data:=.fields #[.none,.bool eo,.ref s.heap.objs.size,x5 0,.none,.none] }) rfl
  rw[c]at this;exact this
 refine⟨⟨_,e,rfl⟩,h _ e (mF<|Jb _<|Jk _ rfl) (by rw[JP,c]) λb o x=>Jb _ (Jb _ x)⟩
end
theorem wu{R:RQ}{x1:Nat}{tp:Pos}(b:Bool)(l e it:eg)(M:e≠it):
  Turn P w K (.Tuple R x1 tp) (Ite K b l) [e,it] e (λi h=>(∃m,IsEnum h e it i m)/\SrcTn b it l i h) where
 mem:=by simp
 obj:=λi h B c f=>by
  obtain⟨⟨m,n⟩,G⟩:=B;have j:c=e\/c=it:=by simpa using f
  rcases j with q|q<;>subst q
  .exact⟨_,n,λv z=>nomatch z⟩
  .exact G.lt
 keep:=λi h h' B k=>by
  obtain⟨⟨m,n⟩,G⟩:=B;exact⟨⟨m,k e (by simp) _ n⟩,G.keep λo q=>k it (by simp) o q⟩
 item:=by
  intro X hP hw hK f i RE s Y H E I J B hg;subst hP hw hK;obtain⟨xs,x,L,U⟩:=hg;obtain⟨⟨m,n⟩,G⟩:=B;obtain⟨g,r,sq,z1⟩:=I.src L;obtain⟨u,hu,ru⟩:=r.get U;have hle:l≠e:=I.src_ne L (J e<|by simp)
  have O:l≠it:=I.src_ne L (J it<|by simp)
  have hil:i<g.toArray.size:=by
   rw[Jc,<- r.length];exact(J2.mp U).1
  have D:Draws X.prog X.w X.A.in1 it [it,l] g.toArray.size (λi v=>g.toArray[i]?=al v) (λi h=>SrcTn b it l i h/\SrcSq b h l g.toArray):=Draws.src (A:=X.A.in1) (I.ok.hd f) b it l O g.toArray;refine wpAny_pyNext_enum_itemD D n ⟨G,sq⟩ hil M (by simp[M,JI hle]) λv h' W hv ho hs' S hsz hk=>?_
  have ev:v=u:=by
   have hu':g.toArray[i]?=al u:=by simpa using hu
   rw[hu']at hv;exact(JT hv).symm
  subst ev;refine⟨_,rfl,wpAny_letOwnedTupleGo_enum ho λt C p=>?_⟩;have hes:e≠s.heap.objs.size:=Jo (Jh n);have n1:SrcTn b it l (i+1) t:=hs'.1.keep λo q=>p.extBut _ o M.symm q;have kk:∀c o,c∉[e,it]->s.heap.get? c=al o->t.get? c=al o:=λc o f q=>
   p.extBut c o (λz=>f (by simp[z])) (hk c o (λz=>f (by simp[z])) (λz=>f (by simp[z])) q)
  have Z:t.get? s.heap.objs.size=al { cls:=.type "tuple",data:=.seq #[.int i W,v] }:=p.extBut _ _ hes.symm S;have lv:∀c∈[e,it],∃o,s.heap.get? c=al o:=λc f=>by
   have j:c=e\/c=it:=by simpa using f
   rcases j with q|q<;>subst q
   .exact⟨_,n⟩
   .obtain⟨o,q,_⟩:=G.lt;exact⟨o,q⟩
  have lv':∀c∈[e,it],∃o,t.get? c=al o:=λc f=>by
   have j:c=e\/c=it:=by simpa using f
   rcases j with q|q<;>subst q
   .exact⟨_,C⟩
   .obtain⟨o,q,_⟩:=n1.lt;exact⟨o,q⟩
  have hTn:H s.heap.objs.size=none:=I.hok.fresh (Jg _);refine⟨.ref s.heap.objs.size,_,I.turnedNew (s:=s) (h':=t) (t':=W+1) (zs:=[.int i,x]) (us:=[.int i W,v]) J kk lv lv' Z rfl ⟨_,rfl⟩ (.cons ⟨W,rfl⟩<|.cons ru .nil) rfl (by show 2<=sizeLine;decide),rfl,⟨_,x,hTn,rfl,rfl,λzs N=>?_⟩,⟨⟨v,by simpa using C⟩,n1⟩,λc f=>?_⟩
  .rw[I.src_inj N L];exact U
  .obtain⟨o,q⟩:=lv c f
   rw[az (Jo<|Jh q)];exact(J c f).1
 done:=by
  intro X hP hw hK f i RE s Y H E I J B hg;subst hP hw hK;obtain⟨xs,L,U⟩:=hg;obtain⟨⟨m,n⟩,G⟩:=B;obtain⟨g,r,sq,z1⟩:=I.src L;have O:l≠it:=I.src_ne L (J it<|by simp)
  have S:s.TypeIs (.ref e) "enumerate":=⟨_,n,rfl⟩;have hl:=r.length;unfold KB
  refine cv (wh (wpAny_callSpecial?_slot (name:=JH "__next__") S Oz
   (kl Oz S F.entry_enumerate_next ?_<|F.args_enumerate_next_1 _)))
  show eH _ _ (Qb (.ref e) 2 >>= _) _ _ _;refine cv (hD n rfl (x:=.ref it) rfl ?_);refine cv (bq (I.ok.hd f) G sq (by simp;lia) λh' x he' hx'=>?_)
  obtain⟨o,ho,hcl⟩:=hx';refine cv (P8 (T:="StopIteration") (b:=true) ⟨o,ho,hcl⟩ Qv ?_);exact eC ⟨rfl,I.turned4 (t':=s.toks) J λc o' j q=>he' c o' (λz=>j (by simp[z])) q⟩
 self:=λ_ _ _ _ _ B h=>let ⟨⟨_,n⟩,_⟩:=B;wpAny_pyIter_enum n h
section
theorem o_:bp X (.builtin "isinstance") (λxs H Q=>∃x T t b,xs=[x,.ty T]/\TyOf X.K H x t/\Lv X.K t (.type T)=al b/\Q (.bl b) H):=by
 intro RE s Y H xs m Q I r h;obtain⟨x,T,t,b,rfl,ty,e,q⟩:=h;obtain⟨u,c,rfl,f,g⟩:=r.two;obtain rfl:c=Nb T:=g;exact vh I f ty e λj=>⟨.bl b,H,I.tok j,rfl,q⟩
end
abbrev z_(h:i5)(z TI TO:eg)(f0:c0)(f1:Bool):Prop:=
 h.get? z=al { cls:=.type "zip",dict:=ee,data:=.fields #[f0,.bool f1,.bool eo,.ref TI,.ref TO],slots:=#[] }
theorem db:Qx Ry "zip.__getattribute__"=al Builtin.«object.__getattribute__»:=
 QY (id':="object.__getattribute__") (by kernel_rfl) (by decide +kernel) (by decide +kernel) (by kernel_rfl)
theorem gI:Op (.type "zip") "__getattr__"=pure none:=by rw[py,kc];kernel_rfl
theorem oZ:Op (.type "zip") "keys"=pure none:=by rw[py,kc];kernel_rfl
theorem a_:Qx Ry "dict.update.loop"=al Builtin.«dict.update.loop»:=entryFor_of_fast (by kernel_rfl)
theorem aF:plainId "dict.update.loop"=true:=by decide +kernel
theorem j_(a TI TO:eg)(p:c0)(f1:Bool)(name:Str)(u:Tok)(f:Op (.type "zip") name=pure ee)(c:(["__module__","__name__","__qualname__","__doc__","__annotations__"]:RN).contains name=eo)(hsz:name.length+100<=sizeLine:=by size_fits):
  Q5 (Builtin.«object.__getattribute__» ⟨[.ref a,.str name u],[]⟩) (λA R s=>z_ s.heap a TI TO p f1/\raisesAttr (.ref a) name A R s):=
 Meets.of_wp λprog w A R s e=>by
  obtain⟨n,g,d,o,m⟩:=s;obtain⟨j,e⟩:=e;have q:(⟨n,g,d,o,m⟩:c8).TypeIs (.ref a) "zip":=⟨_,j,rfl⟩;unfold Builtin.«object.__getattribute__»
  repeat (any_goals (first|assumption|wp_step))
  simp only[c,JA,if_false]
  repeat (any_goals (first|assumption|wp_step))
  exact Ru e.1 e.2 (attrMsg_fits (by decide +kernel) hsz)
section
theorem kQ{TI TO:eg}{p:c0}{f1:Bool}{Q:Option c0->c8->Prop}(n:z_ s.heap a TI TO p f1)(u:A.handled=ee)(h:∀h' m,(∀b o,s.heap.get? b=al o->h'.get? b=al o)->Q ee { s with heap:=h',toks:=m }):eH (fm prog w) A (QK (.ref a) "keys") Q E s:=by
 obtain⟨t,g,d,m,r⟩:=s;have j:∀f,(⟨t,g,d,f,r⟩:c8).TypeIs (.ref a) "zip":=λ_=>⟨_,n,rfl⟩;have q:=sub_AttributeError;have C:=Me.lookup;have G:=Me.bind (.ref a);have I:=gI;unfold QK getAttrBy? getAttrBy
 repeat (any_goals (first|assumption|exact j _|((with_reducible show eH _ _ (call (Nu "zip.__getattribute__") _ _) _ _ _);refine pa Me (j _) db (F.args_zip_getattribute_2 _ _) (j_ a TI TO p f1 "keys" _ oZ (by decide +kernel)<|by decide +kernel) ⟨n,u,λh' f e c=>?_⟩)|wp_step))
 obtain⟨t',B,v⟩:=c.there;show eH _ _ (Qe _ _ _ _ _ _ _) _ _ _;unfold Qe
 repeat (any_goals (first|assumption|wp_step))
 exact h _ _ c.keeps
theorem ke{M:QP}{o:Obj}{Q:Option Obj->c8->Prop}(c:s.heap.get? a=al o)(h:Q (al o) s):eH M A (RC a) Q E s:=λΓ p _=>by
 show Sem.wp M Γ (.loadIfAlive a .pure) _ _ p s;rw[Sem.wp_loadIfAlive,c];exact h
end
section
theorem vZ{f1:Bool}{TI TO:eg}(D:ZApart z TI TO i1 i2)(O1:l1≠z/\l1≠i1)(O2:l2≠z/\l2≠i1/\l2≠i2)(q:z_ s.heap z TI TO (x5 T) f1)(hT:s.heap.get? T=al oT)(F:pt s.heap TI (.ref i1) (.ref i2))(Z:SrcTn b1 i1 l1 k1 s.heap)(h2:SrcTn b2 i2 l2 k2 s.heap)(G:SrcSq b1 s.heap l1 xs)(I:SrcSq b2 s.heap l2 ys)(W:xs[k1]?=al x)(hy:ys[k2]?=al y)(hQ:∀h',z_ h' z TI TO (x5 T) true->SrcTn b1 i1 l1 (k1+1) h'->SrcTn b2 i2 l2 (k2+1) h'->pt h' s.heap.objs.size x y->h'.objs.size=s.heap.objs.size+1->
   (∀c o,c≠z->c≠i1->c≠i2->s.heap.get? c=al o->h'.get? c=al o)->Q (.ref s.heap.objs.size) { s with heap:=h' }):
  eH (fm prog w) A (Builtin.«zip.__next__» ⟨[.ref z],[]⟩) (λu r=>∃v,u=.done (.ret v)/\Q v r) E s:=by
 show eH _ _ (Qb (.ref z) 2 >>= _) _ _ _;refine cv (hD q rfl (x:=.bool eo) rfl ?_);show eH _ _ (Qb (.ref z) 3 >>= _) _ _ _;refine cv (hD q rfl (x:=.ref TI) rfl ?_);refine cv (mu F rfl ?_);show eH _ _ (Jy (.ref z) >>= _) _ _ _;refine cv ?_;unfold Jy;refine cv (hD q rfl (x:=x5 T) rfl ?_);show eH _ _ (RC _ >>= _) _ _ _;refine cv (ke (o:=oT) (by simpa using hT) ?_)
 simp only[Oe,JA,if_false];refine cv (hD q rfl (x:=.bool f1) rfl ?_)
 have go:eH (fm prog w) A (if (JV f1 != JV true)=true then do Rz (Jv z) 1 (JV true);pure eo else pure eo)
   (λa r=>a=eo/\∃f,r={ s with heap:=f }/\z_ f z TI TO (x5 T) true/\(∀c o,c≠z->s.heap.get? c=al o->f.get? c=al o)/\f.objs.size=s.heap.objs.size) E s:=by
  cases f1 with
  |true=>
   rw[if_neg (by decide)]
   exact eC ⟨rfl,s.heap,rfl,q,λ_ _ _ e=>e,rfl⟩
  |false=>
   rw[if_pos (by decide)]
   refine cv (kr q (by simp) λf g n=>eC ⟨rfl,f,rfl,g,λc o U e=>n.extBut c o U e,n.1⟩)
 refine kB go (λa r M=>?_) λ_ _ e=>e;obtain⟨rfl,f,rfl,g,hk₀,n⟩:=M;simp only[JA,if_false];rw[<- Ov];simp only[KZ,LH];refine cv (cv<|wpAny_bind<|wpAny_holding ?_);show eH _ _ (Ju (.ref i1) >>= _) _ _ _;refine cv (aZ (s:={ s with heap:=f }) (Z.keep λo e=>hk₀ _ o D.i1z e) (G.keep λo e=>hk₀ _ o O1.1 e) W λj C hs₂=>eC ?_);refine eC ?_;refine cv (cv<|wpAny_holding ?_);show eH _ _ (Ju (.ref i2) >>= _) _ _ _;refine cv (aZ (s:={ s with heap:=j }) (h2.keep λo e=>hs₂.extBut _ o D.i12.symm (hk₀ _ o D.i2z e)) (I.keep λo e=>hs₂.extBut _ o O2.2.1 (hk₀ _ o O2.1 e)) hy λm B hs₃=>eC ?_);refine eC (eC ?_);refine cv (QU (eC ⟨_,rfl,?_⟩)<|by show 2<=sizeLine;decide)
 have L:j.objs.size=f.objs.size:=hs₂.1;have S:m.objs.size=j.objs.size:=hs₃.1;have p:m.objs.size=s.heap.objs.size:=by rw[S,L,n]
 have R:z≠i1:=D.i1z.symm;have t:z≠i2:=D.i2z.symm;show Q (.ref m.objs.size) _;rw[p];refine hQ _ (Jb _<|hs₃.extBut _ _ t<|hs₂.extBut _ _ R g) (C.keep λo e=>Jb _ (hs₃.extBut _ o D.i12 e)) (B.keep λo e=>Jb _ e) ?_ ?_ λc o O N J e=>Jb _ (hs₃.extBut _ _ J<|hs₂.extBut _ _ N<|hk₀ c o O e)
 .rw[<- p]
  exact Jk _ rfl
 .rw[JP,p]
theorem yc{b2 f1:Bool}{TI TO l2:eg}{k2:Nat}{ys:RW}{Q:Fin->c8->Prop}(N:A.handled=ee)(D:ZApart z TI TO i1 i2)(O1:l1≠z/\l1≠i1)(n:z_ s.heap z TI TO (x5 T) f1)(M:s.heap.get? T=al oT)(t:pt s.heap TI (.ref i1) (.ref i2))(L:SrcTn b1 i1 l1 k1 s.heap)(u:SrcSq b1 s.heap l1 xs)(J:xs[k1]?=ee)(O:∀h' e,(∀c o,c≠z->c≠i1->s.heap.get? c=al o->h'.get? c=al o)->(∃o,h'.get? e=al o/\o.cls=.type "StopIteration")->E (.ref e) { s with heap:=h' }):
  eH (fm prog w) A (Builtin.«zip.__next__» ⟨[.ref z],[]⟩) Q E s:=by
 show eH _ _ (Qb (.ref z) 2 >>= _) _ _ _;refine cv (hD n rfl (x:=.bool eo) rfl ?_);show eH _ _ (Qb (.ref z) 3 >>= _) _ _ _;refine cv (hD n rfl (x:=.ref TI) rfl ?_);refine cv (mu t rfl ?_);show eH _ _ (Jy (.ref z) >>= _) _ _ _;refine cv ?_;unfold Jy;refine cv (hD n rfl (x:=x5 T) rfl ?_);show eH _ _ (RC _ >>= _) _ _ _;refine cv (ke (o:=oT) (by simpa using M) ?_)
 simp only[Oe,JA,if_false];refine cv (hD n rfl (x:=.bool f1) rfl ?_)
 have go:eH (fm prog w) A (if (JV f1 != JV true)=true then do Rz (Jv z) 1 (JV true);pure eo else pure eo)
   (λa v=>a=eo/\∃f,v={ s with heap:=f }/\(∀c o,c≠z->s.heap.get? c=al o->f.get? c=al o)) E s:=by
  cases f1 with
  |true=>
   rw[if_neg (by decide)]
   exact eC ⟨rfl,s.heap,rfl,λ_ _ _ e=>e⟩
  |false=>
   rw[if_pos (by decide)]
   refine cv (kr n (by simp) λf p r=>eC ⟨rfl,f,rfl,λc o I e=>r.extBut c o I e⟩)
 refine kB go (λa v C=>?_) λ_ _ e=>e;obtain⟨rfl,f,rfl,g⟩:=C;simp only[JA,if_false];rw[<- Ov];simp only[KZ,LH];refine cv (cv<|wpAny_bind<|wpAny_holding ?_);show eH _ _ (Ju (.ref i1) >>= _) _ _ _;exact cv (bq (s:={ s with heap:=f }) N (L.keep λo e=>g _ o D.i1z e) (u.keep λo e=>g _ o O1.1 e) J λm e j B=>O m e (λc o G F q=>j _ _ F (g c o G q)) B)
theorem gu{f1:Bool}{TI TO:eg}{Q:Option c0->c8->Prop}(D:ZApart z TI TO i1 i2)(O1:l1≠z/\l1≠i1)(O2:l2≠z/\l2≠i1/\l2≠i2)(m:z_ s.heap z TI TO (x5 T) f1)(C:s.heap.get? T=al oT)(f:pt s.heap TI (.ref i1) (.ref i2))(B:SrcTn b1 i1 l1 k1 s.heap)(F:SrcTn b2 i2 l2 k2 s.heap)(g:SrcSq b1 s.heap l1 xs)(j:SrcSq b2 s.heap l2 ys)(v:xs[k1]?=al x)(I:ys[k2]?=al y)(G:∀h',z_ h' z TI TO (x5 T) true->SrcTn b1 i1 l1 (k1+1) h'->SrcTn b2 i2 l2 (k2+1) h'->pt h' s.heap.objs.size x y->h'.objs.size=s.heap.objs.size+1->
   (∀c o,c≠z->c≠i1->c≠i2->s.heap.get? c=al o->h'.get? c=al o)->Q (al<|.ref s.heap.objs.size) { s with heap:=h' }):eH (fm prog w) A (KB<|.ref z) Q E s:=by
 have e:s.TypeIs (.ref z) "zip":=⟨_,m,rfl⟩;unfold KB
 exact cv (wh (wpAny_callSpecial?_slot (name:=JH "__next__") e Kk
  (kl Kk e Mg (vZ D O1 O2 m C f B F g j v I λh' q u r n t p=>eC (G h' q u r n t p))<|LZ _)))
theorem ia{f1:Bool}{TI TO:eg}{Q:Option c0->c8->Prop}(B:A.handled=ee)(D:ZApart z TI TO i1 i2)(O1:l1≠z/\l1≠i1)(m:z_ s.heap z TI TO (x5 T) f1)(v:s.heap.get? T=al oT)(g:pt s.heap TI (.ref i1) (.ref i2))(u:SrcTn b1 i1 l1 k1 s.heap)(j:SrcSq b1 s.heap l1 xs)(t:xs[k1]?=ee)(C:∀h',(∀c o,c≠z->c≠i1->s.heap.get? c=al o->h'.get? c=al o)->Q ee { s with heap:=h' }):eH (fm prog w) A (KB<|.ref z) Q E s:=by
 have f:s.TypeIs (.ref z) "zip":=⟨_,m,rfl⟩;unfold KB
 refine cv (wh (wpAny_callSpecial?_slot (name:=JH "__next__") f Kk
  (kl Kk f Mg (yc (b2:=true) (l2:=l1) (k2:=0) (ys:=#[]) B D O1 m v g u j t λh' e p n=>?_)<|LZ _)))
 obtain⟨o,q,r⟩:=n;refine cv (P8 (T:="StopIteration") (b:=true) ⟨o,q,r⟩ Qv ?_);exact eC (C _ p)
end
theorem vd{K:Type}[DecidableEq K]{knd:KeyKind prog w K}{R:Q3->c8->Prop}{TI TO d:eg}{xs ys:RO}{ks:List K}(hh:A.handled=ee)(D:ZApart z TI TO i1 i2)(O1:l1≠z/\l1≠i1/\l1≠i2/\l1≠d)(O2:l2≠z/\l2≠i1/\l2≠i2/\l2≠d)(Od:d≠z/\d≠i1/\d≠i2/\d≠TI/\d≠T)(OT:T≠z/\T≠i1/\T≠i2)(hk:Ql (λk v=>knd.is k v=true) ks xs)(hl:xs.length=ys.length)(hz:xs.length<=1000):
  ∀(n i:Nat)(s:c8)(f1:Bool)(RG:List (K×c0)),n=xs.length-i->i<=xs.length->RG.length<=i->z_ s.heap z TI TO (x5 T) f1->(∃oT,s.heap.get? T=al oT)->pt s.heap TI (.ref i1) (.ref i2)->
   SrcTn b1 i1 l1 i s.heap->SrcTn b2 i2 l2 i s.heap->SrcSq b1 s.heap l1 xs.toArray->SrcSq b2 s.heap l2 ys.toArray->s.heap.DictOf knd d RG->
   (∀s':c8,s'.os=s.os->s'.gens=s.gens->s'.drawn=s.drawn->s'.heap.DictOf knd d (((ks.zip ys).drop i).foldl (λa p=>Qd a p.1 p.2) RG)->(∀c o,c≠z->c≠i1->c≠i2->c≠d->s.heap.get? c=al o->s'.heap.get? c=al o)->R (.ok<|.ret .none) s')->
   ∀tk:Nat,P3 (fm prog w) A (.builtin "dict.update.loop" ⟨[.ref d,.ref z,x5 tk,.none],[]⟩) R s:=by
 intro n
 induction n with
 |zero=>
  intro i s f1 RG hn hi W G C B F O s1 s2 hd hR tk;obtain⟨oT,C⟩:=C;have hin:i=xs.length:=by lia
  refine Ps a_ ?_;rw[KJ aF _];show eH _ A.in1 (KB (.ref z) >>= _) _ _ s;refine cv (ia hh D ⟨O1.1,O1.2.1⟩ G C B F s1 (by simp;lia) λh' t=>?_)
  refine cv (m:=MK d []) (eC ?_);refine eC (hR _ rfl rfl rfl ?_ λc o J I L M e=>t c o J I e);rw[Mb (by have e:=Ke hk;rw[KY];lia)]
  obtain⟨o,es,ep,ho,r⟩:=hd;exact⟨o,es,ep,t d o Od.1 Od.2.1 ho,r⟩
 |succ n ih=>
  intro i s f1 RG hn hi W G C B F O s1 s2 hd hR tk;obtain⟨oT,C⟩:=C;have u:i<xs.length:=by lia
  have S:i<ys.length:=by lia
  refine Ps a_ ?_;rw[KJ aF _];show eH _ A.in1 (KB (.ref z) >>= _) _ _ s;refine cv (gu (x:=xs[i]) (y:=ys[i]) D ⟨O1.1,O1.2.1⟩ ⟨O2.1,O2.2.1,O2.2.2.1⟩ G C B F O s1 s2 (by simp[u]) (by simp[S]) λh' a1 a2 a3 a4 a5 t=>?_)
  have hTy:({ s with heap:=h' }:c8).TypeIs (.ref s.heap.objs.size) "tuple":=⟨_,a4,rfl⟩;refine cv (pw<|wpAny_bind<|wpAny_tryCatch ?_);unfold LB;refine cv (PP hTy ?_);rw[if_pos (by decide)]
  refine cv (mu (s:={ s with heap:=h' }) a4 rfl<|wpAny_pure ?_);have hd':h'.DictOf knd d RG:=by
   obtain⟨o,es,ep,ho,r⟩:=hd;exact⟨o,es,ep,t d o Od.1 Od.2.1 Od.2.2.1 ho,r⟩
  have hks:i<ks.length:=by rw[Ke hk];exact u
  have U:knd.is ks[i] xs[i]=true:=by
   have:∀{f:List K}{q:RO},Ql (λk v=>knd.is k v=true) f q->∀(j:Nat)(F:j<f.length)(O:j<q.length),knd.is f[j] q[j]=true:=by
    intro f q p
    induction p with
    |nil=>intro j F;exact absurd F (Lw _)
    |cons r _ ihp=>
     intro j F O;cases j with
     |zero=>exact r
     |succ j=>exact ihp j (by simpa using F) (by simpa using O)
   exact this hk i hks u
  have hkz:RG.length<=sizeLine:=JC (JC W hi) (JC hz<|by decide)
  show eH _ _ (vr [xs[i],ys[i]]<|dictSet d xs[i] ys[i]) _ _ _;refine pw (QB (s:={ s with heap:=h' }) U hd' (λZ N g=>?_) hkz);have kk:∀c o,c≠z->c≠i1->c≠i2->c≠d->s.heap.get? c=al o->Z.get? c=al o:=λc o J I L M e=>g.extBut c o M (t c o J I L e);refine eC ⟨Qk aF _,?_⟩;have hst:(Qd RG ks[i] ys[i]).length<=i+1:=by
   unfold Qd
   split
   .rw[Ji];lia
   .rw[Jr,Mn];lia
  refine ih (i+1) { s with heap:=Z,toks:=s.toks+1 } true (Qd RG ks[i] ys[i]) (by lia) u hst (g.extBut _ _ Od.1.symm a1) ⟨oT,kk T oT OT.1 OT.2.1 OT.2.2 Od.2.2.2.2.symm C⟩ (kk TI _ D.TIz D.TIi1 D.TIi2 Od.2.2.2.1.symm B)
   (a2.keep λo e=>g.extBut _ o Od.2.1.symm e) (a3.keep λo e=>g.extBut _ o Od.2.2.1.symm e) (s1.keep λo e=>kk l1 o O1.1 O1.2.1 O1.2.2.1 O1.2.2.2 e) (s2.keep λo e=>kk l2 o O2.1 O2.2.1 O2.2.2.1 O2.2.2.2 e) N ?_ (tk+1)
  intro s' q1 q2 q3 q4 q5;refine hR s' q1 q2 q3 ?_ λc o J I L M e=>q5 c o J I L M (kk c o J I L M e);have ez:(ks.zip ys).drop i=(ks[i],ys[i])::(ks.zip ys).drop (i+1):=by
   rw[KU (by rw[KY];lia)]
   simp
  rw[ez,JK];exact q4
namespace F
theorem mro_dict:mroOf (.type "dict")=pure [.type "dict",.type "object"]:=by rw[mroOf_type];kernel_rfl
theorem i7:Op (.type "dict") "__new__"=pure (al<|.builtin "dict.__new__"):=by rw[py,kc];kernel_rfl
theorem called_dict:TypeCalled "dict" "dict.__new__" "dict.__init__":=
 ⟨by decide +kernel,by decide +kernel,⟨_,_,mro_dict⟩,madeBy_type mro_dict i7 (by decide +kernel),by decide +kernel,by rw[z4];kernel_rfl,PySem.F.slot_dict_init⟩
theorem typeCall_dict_1(a:c0):checkTypeCall "dict" ⟨[a],[]⟩=pure ():=by kernel_rfl
theorem newCall_dict_1(a:c0):Qn "dict.__new__" ⟨[.type "dict",a],[]⟩=pure ():=by kernel_rfl
theorem entry_dict_new:Qx Ry "dict.__new__"=al Builtin.«dict.__new__»:=entryFor_of_tree (by kernel_rfl)
theorem plain_dict_new:plainId "dict.__new__"=true:=by decide +kernel
theorem sub_dict:isSubtype (.type "dict") (.type "dict")=pure true:=by rw[z4];kernel_rfl
end F
section
variable{K:Type}[DecidableEq K]{knd:KeyKind prog w K}
theorem eR(a:c0){Q₁:RT}(h:Q₁ (.ref s.heap.objs.size) { s with heap:=s.heap.push { cls:=.type "dict",data:=.dict #[] } }):
  P3 (fm prog w) A (.call (.builtin "dict.__new__") ⟨[.type "dict",a],[]⟩) (wants Q₁ E) s:=by
 refine Qy F.plain_dict_new F.entry_dict_new (Pv (F.newCall_dict_1 a) ?_);have e:=F.sub_dict;have c:=F.mro_dict;obtain⟨m,g,d,f,j⟩:=s;unfold Builtin.«dict.__new__»
 wp_walk
 exact h
theorem kK{TI TO:eg}{xs ys:RO}{ks:List K}(hh:A.handled=ee)(D:ZApart z TI TO i1 i2)(O1:qh z TO i1 i2 l1)(O2:qh z TO i1 i2 l2)(W:Qf s.heap z TI TO .none)(U:pt s.heap TI (.ref i1) (.ref i2))(I:∃a b,pt s.heap TO a b)(h1:SrcTn b1 i1 l1 0 s.heap)(h2:SrcTn b2 i2 l2 0 s.heap)(J:SrcSq b1 s.heap l1 xs.toArray)(L:SrcSq b2 s.heap l2 ys.toArray)(hk:Ql (λk v=>knd.is k v=true) ks xs)(hl:xs.length=ys.length)(M:0<xs.length)(hzz:xs.length<=1000)(h:∀s':c8,s'.os=s.os->s'.gens=s.gens->s'.drawn=s.drawn->s'.heap.DictOf knd s.heap.objs.size ((ks.zip ys).foldl (λa p=>Qd a p.1 p.2) [])->
   (∀c o,c≠z->c≠TO->c≠i1->c≠i2->s.heap.get? c=al o->s'.heap.get? c=al o)->Q (.ref s.heap.objs.size) s'):
  eH (fm prog w) A (call (.type "dict") [.ref z]) Q E s:=by
 refine callType_codes (Q₁:=λobj N=>obj=.ref s.heap.objs.size/\N={ s with heap:=s.heap.push { cls:=.type "dict",data:=.dict #[] } }) F.called_dict (F.typeCall_dict_1 _) Ob (eR _ ⟨rfl,rfl⟩) ?_
 rintro obj N ⟨rfl,rfl⟩
 have t:(s.heap.push { cls:=.type "dict",data:=.dict #[] }).DictOf knd s.heap.objs.size []:=My s.heap;refine⟨t.typeIs,N0 _ _,?_⟩;unfold Builtin.«dict.__init__»;refine cv ?_;unfold MJ;refine cv (wpAny_notOrdered_dict t.typeIs ?_);show eH _ _ (pure (s.heap.objs.size,[Jv z])) _ _ _;refine eC ?_;show eH _ _ (KO "dict.__init__" s.heap.objs.size (.ref z) [] .none) _ _ _;unfold KO;have j:∀c o,s.heap.get? c=al o->c≠s.heap.objs.size:=λc o e=>Jo (Jh e);have up:∀c o,s.heap.get? c=al o->(s.heap.push { cls:=.type "dict",data:=.dict #[] }).get? c=al o:=λc o e=>Jb _ e;refine cv (PP (T:="zip") ⟨_,up _ _ W,rfl⟩ ?_);rw[if_pos (by decide)]
 refine cv (kQ (f1:=eo) (s:={ s with heap:=s.heap.push { cls:=.type "dict",data:=.dict #[] } }) (up _ _ W) hh λf n B=>?_);rw[if_pos (show (none:Option c0).isNone=true from rfl)];have up1:∀c o,s.heap.get? c=al o->f.get? c=al o:=λc o e=>B c o (up c o e);refine cv (On<|wpAny_bind<|wpAny_pyIter_zip (s:={ s with heap:=f,toks:=n }) (up1 _ _ W)<|wpAny_pure ⟨Qk aF _,Ps a_ ?_⟩);rw[KJ aF _];show eH _ A.in1.in1 (KB (.ref z) >>= _) _ _ _;obtain⟨a,b,I⟩:=I;have hlt2:0<ys.length:=by lia
 have hd1:f.DictOf knd s.heap.objs.size []:=by
  obtain⟨o,es,ep,ho,r⟩:=t;exact⟨o,es,ep,B _ o ho,r⟩
 have S:s.heap.objs.size≠z:=(j _ _ W).symm;have R:s.heap.objs.size≠TI:=(j _ _ U).symm;have hnTO:s.heap.objs.size≠TO:=(j _ _ I).symm;have G:s.heap.objs.size≠i1:=by obtain⟨o,e,_⟩:=h1.lt;exact(j _ _ e).symm
 have C:s.heap.objs.size≠i2:=by obtain⟨o,e,_⟩:=h2.lt;exact(j _ _ e).symm
 have nl:∀{b:Bool}{l:eg}{us:RW},SrcSq b s.heap l us->l≠s.heap.objs.size:=λ{b l us} q=>by
  cases b with
  |true=>obtain⟨o,e,_⟩:=(show s.heap.IsList l us from q);exact j _ _ e
  |false=>obtain⟨o,e,_⟩:=(show s.heap.IsTuple l us from q);exact j _ _ e
 refine cv (dm (s:={ s with heap:=f,toks:=n }) (x:=xs[0]) (y:=ys[0]) D O1 O2 (up1 _ _ W) (up1 _ _ U) (up1 _ _ I) (h1.keep λo e=>up1 _ o e) (h2.keep λo e=>up1 _ o e) (J.keep λo e=>up1 _ o e) (L.keep λo e=>up1 _ o e) (by simp[M]) (by simp[hlt2]) λm a1 a2 a3 a4 a5 a6 u=>?_)
 have hTy:({ s with heap:=m,toks:=n }:c8).TypeIs (.ref f.objs.size) "tuple":=⟨_,a5,rfl⟩;refine cv (pw<|wpAny_bind<|wpAny_tryCatch ?_);unfold LB;refine cv (PP hTy ?_);rw[if_pos (by decide)]
 refine cv (mu (s:={ s with heap:=m,toks:=n }) a5 rfl<|wpAny_pure ?_);have hks:0<ks.length:=by rw[Ke hk];exact M
 have hkey:knd.is ks[0] xs[0]=true:=by
  cases hk with
  |nil=>exact absurd M (JW _)
  |cons r _=>exact r
 have hd2:m.DictOf knd s.heap.objs.size []:=by
  obtain⟨o,es,ep,ho,r⟩:=hd1;exact⟨o,es,ep,u _ o S hnTO G C ho,r⟩
 show eH _ _ (vr [xs[0],ys[0]]<|dictSet s.heap.objs.size xs[0] ys[0]) _ _ _;refine pw (QB (s:={ s with heap:=m,toks:=n }) hkey hd2 (λO hd3 g=>?_)<|Kv _);refine eC ⟨Qk aF _,?_⟩;have T1:∀c o,f.get? c=al o->f.objs.size≠c:=λc o e=>KS (Jh e);have Z:s.heap.objs.size<f.objs.size:=by obtain⟨o,es,ep,ho,r⟩:=hd1;exact Jh ho
 have kk:∀c o,c≠z->c≠TO->c≠i1->c≠i2->c≠s.heap.objs.size->s.heap.get? c=al o->O.get? c=al o:=λc o c1 c2 c3 c4 c5 e=>g.extBut c o c5 (u c o c1 c2 c3 c4<|up1 c o e);have hst:(Qd ([]:List (K×c0)) ks[0] ys[0]).length<=1:=by simp[Qd]
 refine vd (A:=A.in1) (T:=f.objs.size) (l1:=l1) (l2:=l2) (xs:=xs) (ys:=ys) (ks:=ks) hh D ⟨O1.1,O1.2.2.1,O1.2.2.2,nl J⟩ ⟨O2.1,O2.2.2.1,O2.2.2.2,nl L⟩ ⟨S,G,C,R,Jo Z⟩
  ⟨T1 _ _ (up1 _ _ W),(by obtain⟨o,e,_⟩:=h1.lt;exact T1 _ _ (up1 _ _ e)),(by obtain⟨o,e,_⟩:=h2.lt;exact T1 _ _ (up1 _ _ e))⟩ hk hl hzz (xs.length-1) 1 { s with heap:=O,toks:=n+1 } eo (Qd [] ks[0] ys[0]) rfl M hst
  (g.extBut _ _ S.symm a1) ⟨_,g.extBut _ _ (KS Z) a5⟩ (kk TI _ D.TIz D.TITO D.TIi1 D.TIi2 R.symm U) (a3.keep λo e=>g.extBut _ o G.symm e) (a4.keep λo e=>g.extBut _ o C.symm e)
  (J.keep λo e=>kk l1 o O1.1 O1.2.1 O1.2.2.1 O1.2.2.2 (nl J) e) (L.keep λo e=>kk l2 o O2.1 O2.2.1 O2.2.2.1 O2.2.2.2 (nl L) e) hd3 ?_ 1
 intro s' q1 q2 q3 q4 q5;refine⟨rfl,h s' q1 q2 q3 ?_ λc o c1 c2 c3 c4 e=>q5 c o c1 c3 c4 (j c o e) (kk c o c1 c2 c3 c4 (j c o e) e)⟩;have ez:ks.zip ys=(ks[0],ys[0])::(ks.zip ys).drop 1:=by
  have:=KU (l:=ks.zip ys) (i:=0) (by rw[KY];lia)
  simpa using this
 rw[ez,JK];exact q4
end
theorem gs:fillsNumberSlot (.type "tuple") "mul"=pure false:=
 PySem.fillsNumberSlot_seq (id:="tuple.__mul__") (r:=al (.builtin "tuple.__rmul__")) Kp.lookup (by decide +kernel) Ni.lookup (by decide +kernel)
theorem nH:seqRepeat? (.type "tuple")=pure (al<|.builtin "tuple.__mul__"):=by
 unfold seqRepeat?;rw[PySem.seqSlot_of (T:="tuple") (name:="__mul__") (id:="tuple.__mul__") Kp.lookup (by decide +kernel),PySem.seqSlot_of (T:="tuple") (name:="__rmul__") (id:="tuple.__rmul__") Ni.lookup (by decide +kernel)]
 rfl
theorem jV(a:Int)(t:Tok)(l:eg)(items:RW)(n:Nat)(dd:Option eg)(c:Array (Option c0)):
  Q5 (Builtin.«int.__rmul__» ⟨[.int a t,.ref l],[]⟩) (λ_ R s=>s.heap.get? l=al { cls:=.type "tuple",dict:=dd,data:=.seq items n,slots:=c }/\R (.ok<|.ret Value.notImplemented) s):=
 .of_wp λprog w A R s h=>by obtain⟨f,g,d,m,e⟩:=s;obtain⟨j,h⟩:=h;wp_walk;exact⟨_,rfl,h⟩
theorem jR(l:eg)(items:RW)(n:Nat)(dd:Option eg)(v:Array (Option c0))(x:Int)(u:Tok)(O:1<x)(C:x<=1000)(B:items.size<=1000)(p:items.isEmpty=eo):
  Q5 (Builtin.«tuple.__mul__» ⟨[.ref l,.int x u],[]⟩) (λ_ R s=>s.heap.get? l=al { cls:=.type "tuple",dict:=dd,data:=.seq items n,slots:=v }/\
   R (.ok<|.ret<|.ref s.heap.objs.size) { s with heap:=s.heap.push { cls:=.type "tuple",data:=.seq ((Jm x.toNat items).foldl (·++·) #[]) } }):=
 .of_wp λprog w A R s h=>by
  obtain⟨J,g,d,N,I⟩:=s;obtain⟨j,h⟩:=h;have f1:=MF;have M:=LC;have t:(decide (x < -(2 ^ 63))||decide (x>=2 ^ 63))=false:=by simp;lia
  have q:(items.isEmpty||x==1)=false:=by rw[p];simp;lia
  have r:(decide (x<=0)||items.isEmpty)=false:=by rw[p];simp;lia
  have F:(items.size:Int)*x<=1000000:=by
   have L:(items.size:Int)*x<=1000*x:=Int.mul_le_mul_of_nonneg_right (by lia) (by lia)
   lia
  have o:¬((items.size:Int)*x>(2 ^ 63-1) / 8):=by lia
  have m:Mz ((items.size:Int)*x)=false:=by
   unfold Mz;have:(1000000:Int)<=(sizeLine:Int):=by decide
   exact decide_eq_false (by lia)
  wp_walk using ox j
  try simp only[t,JA,if_false]
  wp_walk using ox j
  try simp only[q,JA,if_false]
  wp_walk using ox j
  try simp only[r,JA,if_false]
  wp_walk using ox j
  rw[if_neg o];simp only[m,JA,if_false];unfold Kf;have f:((Jm x.toNat items).foldl (·++·) #[]).toList.length<=sizeLine:=by
   have e:∀(k:Nat)(c:RW),((Jm k items).foldl (·++·) c).size=c.size+k*items.size:=by
    intro k
    induction k with
    |zero=>intro c;simp
    |succ k ih=>intro c;rw[JJ,JK,ih,Array.size_append,Nat.succ_mul];lia
   rw[Lu,e];have:x.toNat*items.size<=1000*1000:=Nat.mul_le_mul (by lia) B
   have G:(1000*1000:Nat)<=sizeLine:=by decide
   simp only[Jc,J1]at *;lia
  refine cv (QU (eC ⟨_,rfl,?_⟩) f);simpa using h
theorem kO(l:eg)(items:RW)(n:Nat)(dd:Option eg)(j:Array (Option c0))(u:Tok):
  Q5 (Builtin.«tuple.__mul__» ⟨[.ref l,.int 1 u],[]⟩) (λ_ R s=>s.heap.get? l=al { cls:=.type "tuple",dict:=dd,data:=.seq items n,slots:=j }/\R (.ok<|.ret<|.ref l) s):=
 .of_wp λprog w A R s h=>by
  obtain⟨o,g,d,q,m⟩:=s;obtain⟨c,h⟩:=h;have f1:=MF;have p:=LC;have f:(decide ((1:Int) < -(2 ^ 63))||decide ((1:Int)>=2 ^ 63))=false:=by decide
  have e:(items.isEmpty||(1:Int)==1)=true:=by simp
  wp_walk using ox c
  try simp only[f,JA,if_false]
  wp_walk using ox c
  try simp only[e,if_true]
  wp_walk using ox c
  all_goals first|exact⟨_,rfl,h⟩|skip
theorem jX(l:eg)(items:RW)(n:Nat)(dd:Option eg)(o:Array (Option c0))(x:Int)(u:Tok)(p:x<=0)(m:-1000<=x)(q:items.isEmpty=eo):
  Q5 (Builtin.«tuple.__mul__» ⟨[.ref l,.int x u],[]⟩) (λ_ R s=>s.heap.get? l=al { cls:=.type "tuple",dict:=dd,data:=.seq items n,slots:=o }/\
   R (.ok<|.ret<|.ref s.heap.objs.size) { s with heap:=s.heap.push { cls:=.type "tuple",data:=.seq #[] } }):=
 .of_wp λprog w A R s h=>by
  obtain⟨t,g,d,B,r⟩:=s;obtain⟨c,h⟩:=h;have f1:=MF;have v:=LC;have f:(decide (x < -(2 ^ 63))||decide (x>=2 ^ 63))=false:=by simp;lia
  have e:(items.isEmpty||x==1)=false:=by rw[q];simp;lia
  have j:(decide (x<=0)||items.isEmpty)=true:=by simp[p]
  wp_walk using ox c
  try simp only[f,JA,if_false]
  wp_walk using ox c
  try simp only[e,JA,if_false]
  wp_walk using ox c
  try simp only[j,if_true]
  all_goals exact⟨_,rfl,h⟩
section
theorem vA{RK:RO}{k:Int}{u:Tok}(W:s.heap.IsTuple l RK.toArray)(R:RK≠[])(O:0<=k)(M:k<=1000)(Z:RK.length<=1000)(N:k=1->Q (.ref l) s)(S:k≠1->Q (.ref s.heap.objs.size) { s with heap:=s.heap.push { cls:=.type "tuple",data:=.seq (Jm k.toNat RK).flatten.toArray } }):
  eH (fm prog w) A (ot .Mult (.ref l)<|.int k u) Q E s:=by
 obtain⟨⟨cls,o,data,j⟩,e,B,n,q⟩:=W;simp only at B q;subst B q;have v:RK.toArray.isEmpty=false:=by cases RK with|nil=>exact absurd rfl R|cons a r=>rfl
 refine Q7 (T:="tuple") (U:="int") (by decide) ⟨_,e,rfl⟩ (λL=>QE L k u) gs OA Lz nH Om.lookup
  (pa Lz (QE s k u) Oo (Oc _ _) (jV k u l RK.toArray n o j) ⟨e,rfl,⟨_,e,rfl⟩,?_⟩)
 by_cases g:k=1
 .subst g
  exact pa Kp ⟨_,e,rfl⟩ LN (LI _ _) (kO l RK.toArray n o j u) ⟨e,N rfl⟩
 .have f:=S g
  by_cases p:k<=0
  .refine pa Kp ⟨_,e,rfl⟩ LN (LI _ _) (jX l RK.toArray n o j k u p (by lia) v) ⟨e,?_⟩
   have I:k.toNat=0:=by lia
   rw[I]at f;exact f
  .refine pa Kp ⟨_,e,rfl⟩ LN (LI _ _) (jR l RK.toArray n o j k u (by lia) M (by rw[Jc];exact Z) v) ⟨e,?_⟩
   have F:∀(m:Nat)(c:RO),Nq (λC G=>C++G) c.toArray (Jm m RK.toArray)=(c++(Jm m RK).flatten).toArray:=by
    intro m
    induction m with
    |zero=>intro c;simp
    |succ m ih=>
     intro c;have J:c.toArray++RK.toArray=(c++RK).toArray:=by simp
     rw[JJ,JK,J,ih,JJ,J9,List.append_assoc]
   have t:=F k.toNat [];rw[JE]at t;rw[t];exact f
end
section
theorem w_:bZ X (ot .Add) (λx y H Q=>∃a b ys,x=.ref a/\y=.ref b/\fg X.K H a []/\fg X.K H b ys/\Q (.ref b) H):=by
 intro RE s Y H x y v u Q I N U h;obtain⟨a,b,ys,rfl,rfl,R,J,q⟩:=h;cases N;cases U;obtain⟨j,M,L,_⟩:=I.tuple R;obtain⟨c,r2,W,_⟩:=I.tuple J;obtain rfl:j=[]:=M.zero;obtain⟨⟨S,Z,B,G⟩,F,C,n,r⟩:=id L;obtain⟨⟨t,m,p,o⟩,f,e,O,g⟩:=id W;simp only at C r e g;subst C r e g
 exact Ro ⟨_,F,rfl⟩ ⟨_,f,rfl⟩ QN Ra LW LO (LJ _ _)
  (tuple_addW0 a b #[] c.toArray n O Z m G o rfl) ⟨F,f,⟨.ref b,H,I,rfl,q⟩⟩
theorem yO{n:Nat}(e:n.log2<2000)(f:0<n):bZ X (ot .FloorDiv) (rI (λ_ j=>j=(n:Int)) λi j=>.int (i / j)):=opI λi j _ _ _ _ _ c q=>by
 subst c;refine floordiv_int (by lia) ?_ (.inl<|PyProof.noPylong_of_log2<|by simpa using N5 e (by decide))
 rw[Int.fdiv_eq_ediv_of_nonneg _ (by lia)]
 exact q
def xo(K:Jd)(b1 b2:Bool)(t:TA):TE:=λY H Q=>t Y H λc H1=>∃(l1 l2:eg)(ks:List ax)(ys:List V),c=[.ref l1,.ref l2]/\lc K b1 H1 l1 (ks.map kV)/\lc K b2 H1 l2 ys/\ks.length=ys.length/\0<ks.length/\ks.length<=1000/\
 ∀d,H1 d=ee->Q (.ref d) (upd H1 d<|.dK<|(ks.zip ys).foldl (λa p=>bE a p.1 p.2) [])
theorem lK{P:fy}{w:h7}:∀{ks:List ax}{us:RO},Vals (ks.map kV) us->Ql (λk v=>(aE P w).is k v=true) ks us
 |[],_,.nil=>.nil
 |_::_,_,.cons r t=>.cons (g6 r) (lK t)
theorem uZ:∀{ks:List ax}{ys:List V}{us:RO}{RG:List (ax×V)}{vs:List (ax×c0)},Vals ys us->KV RG vs->
  KV ((ks.zip ys).foldl (λa p=>bE a p.1 p.2) RG) ((ks.zip us).foldl (λa p=>Qd a p.1 p.2) vs)
 |[],_,_,_,_,_,r=>r
 |_::_,_,_,_,_,.nil,r=>r
 |k::ks,_,_,_,_,.cons ru t,r=>uZ (ks:=ks) t (KV.put r k ru)
theorem pK:∀(ps:List (ax×V))(RG:List (ax×V)),(ps.foldl (λa p=>bE a p.1 p.2) RG).length<=RG.length+ps.length
 |[],RG=>Jg _
 |p::ps,RG=>by
  have c:=pK ps (bE RG p.1 p.2);have e:=cF RG p.1 p.2;rw[JK,Jl];lia
theorem qU{a b:fx}{ta:TA}{p p2 g:Pos}(b1 b2:Bool)(hc:X.calm=true)(hg:Gl X "zip")(hm:X.mg "zip"=ee)(hg2:Gl X "dict")(hm2:X.mg "dict"=ee)(ha:PA X [a,b] ta)(hs:fe [a,b] X.env=[(eo,g5 a X.env),(eo,g5 b X.env)]:=by rfl)(hs2:fe [b] X.env=[(eo,g5 b X.env)]:=by rfl)(hs3:fe [NM (.Name "zip" p2) [a,b] [] g] X.env=[(eo,g5 (.Call (.Name "zip" p2) [a,b] [] g) X.env)]:=by rfl):
  PE X (.Call (.Name "dict" p) [.Call (.Name "zip" p2) [a,b] [] g] [] pos) (xo X.K b1 b2 ta):=by
 intro RE s Y H Q I h;refine RD (bW I hg2 hm2 (by decide +kernel:g4 "dict"=al (.type "dict"))<|JB ?_ hs3 rfl)
 rw[hs3];show eH _ _ (spliced ((eo,_)::ik pos [])) _ _ s;refine Ks ?_;refine RD (bW I hg hm (by decide +kernel:g4 "zip"=al (.type "zip"))<|JB (aW (ha g RE s Y H _ I h) λC f ⟨vs,H1,I1,r1,R⟩=>?_) (by rw[hs,hs2])<|by rw[hs2];rfl)
 obtain⟨l1,l2,ks,ys,e,R,q2,hl,h0,hz,q⟩:=R;subst e;obtain⟨u1,u2,rfl,J,L⟩:=r1.two;cases J;cases L;obtain⟨v,B,m,z1⟩:=I1.src R;obtain⟨j,t,r,z2⟩:=I1.src q2;refine oi m r λh' N S Z h1 h2 U W=>?_;refine Le ?_;have e1:=B.length;have e2:=t.length;rw[Ji]at e1;have D:ZApart (f.heap.objs.size+4) (f.heap.objs.size+2) (f.heap.objs.size+3) f.heap.objs.size (f.heap.objs.size+1):=by constructor<;>exact(show (_:Nat)≠(_:Nat) by lia)
 have lt:∀{c:Bool}{l:eg}{C:RW},SrcSq c f.heap l C->l<f.heap.objs.size:=λ{c l C} z=>by
  cases c with
  |true=>obtain⟨o,e,_⟩:=(show f.heap.IsList l C from z);exact Jh e
  |false=>obtain⟨o,e,_⟩:=(show f.heap.IsTuple l C from z);exact Jh e
 have O:∀{l:eg},l<f.heap.objs.size->qh (f.heap.objs.size+4) (f.heap.objs.size+3) f.heap.objs.size (f.heap.objs.size+1) l:=λ{l} z=>⟨Jo (Jn z<|J5 _ _),Jo (Jn z<|J5 _ _),Jo z,Jo<|Jn z<|J5 _ _⟩;refine kK (s:={ f with heap:=h' }) (knd:=aE X.prog X.w) (ks:=ks) (xs:=v) (ys:=j) (I1.ok.hd hc) D (O<|lt m) (O<|lt r) N S ⟨_,_,Z⟩ h1 h2 (m.keep λo e=>W _ o e) (r.keep λo e=>W _ o e) (lK B) (by lia) (by lia) (by lia) ?_
 intro s' o1 o2 o3 hd n;have G:s'.heap.DictOf (aE X.prog X.w) h'.objs.size ((ks.zip j).foldl (λa p=>Qd a p.1 p.2) []):=hd;have F:=I1.big;have u:∀c o,f.heap.get? c=al o->s'.heap.get? c=al o:=λc o e=>by
  have z:=Jh e;exact n c o (Jo<|Jn z<|J5 _ _) (Jo<|Jn z<|J5 _ _) (Jo z) (Jo<|Jn z<|J5 _ _) (W c o e)
 have hn:H1 h'.objs.size=none:=I1.hok.fresh (by lia)
 obtain⟨hh',g',d',t',M⟩:=s';obtain rfl:M=f.os:=o1;obtain rfl:g'=f.gens:=o2;obtain rfl:d'=f.drawn:=o3;refine⟨.ref h'.objs.size,_,I1.laid (a:=h'.objs.size) (o:=.dK ((ks.zip ys).foldl (λa p=>bE a p.1 p.2) [])) (t':=t') u (by lia) ?_,rfl,q _ hn⟩
 refine gz ?_ ?_ (uZ t .nil) G
 .have:=pK (ks.zip ys) []
  rw[KY]at this;have h3:(1000:Nat)<=sizeLine:=by decide
  simp only[J1]at this;lia
 .exact beq_eq_false_iff_ne.mpr (KS<|Jn F<|by rw[U];exact J5 _ _)
end
end L2
namespace Tw
open PySem L2
end Tw
namespace L2
open PySem PySem.Spec PyProof.Rows
variable{h:i5}{H:Hp}{P:fy}{s:c8}{w:h7}
section
variable{X:Cx}
theorem jT{M:QP}{A:j0}{E:RT}{g:Type}{n:Nat}(f:Nat->g->Sem (ForInStep g))(I:Nat->g->c8->Prop)(Q:g->c8->Prop)(j:∀i b s,i<n->I i b s->eH M A (f i b) (λr s'=>match r with|.yield b'=>I (i+1) b' s'|.done b'=>Q b' s') E s)(t:∀b s,I n b s->Q b s)(b:g)(h:I 0 b s):eH M A (forIn [0:n] b f) Q E s:=by
 rw[Std.Legacy.Range.forIn_eq_forIn_range'];have p:([0:n]:NN).size=n:=by simp[Std.Legacy.Range.size]
 show eH M A (forIn (Of 0 ([0:n]:NN).size 1) b f) Q E s;rw[p];refine wpAny_forIn_list f (λl c s=>∃i,i<=n/\l=Of i (n-i) 1/\I i c s) Q ?_ ?_ _ b ⟨0,Kv _,rfl,h⟩
 .rintro x u c s ⟨i,v,a,q⟩
  have m:i<n:=by
   rcases Lj i n with h'|h'
   .exact h'
   .rw[show n-i=0 by lia]at a;simp at a
  obtain⟨k,o⟩:∃k,n-i=k+1:=⟨n-i-1,by lia⟩
  rw[o,MU]at a;obtain⟨rfl,rfl⟩:=List.cons.inj a;refine kB (j x c s m q) (λr s' h'=>?_) λ_ _ e=>e;cases r with
  |done c'=>exact h'
  |yield c'=>exact⟨x+1,by lia,by congr 1;lia,h'⟩
 .rintro c s ⟨i,v,a,q⟩
  have:i=n:=by
   rcases Lj i n with h'|h'
   .obtain⟨k,o⟩:∃k,n-i=k+1:=⟨n-i-1,by lia⟩
    rw[o,MU]at a;cases a
   .lia
  subst this;exact t _ _ q
theorem oJ(l:eg)(a:RW)(n:Nat)(dd:Option eg)(G:Array (Option c0))(x:c0)(e:c0->Bool)(F:∀y,y∈a->MeetsSeq.EqGives y x (e y))(j:Nat)(L:j<a.size)(t:e a[j]=true)(r:∀m (hm:m<a.size),m<j->e a[m]=eo):
  Q5 (Builtin.«tuple.index» ⟨[.ref l,x],[]⟩) (λ_ R s=>s.heap.get? l=al { cls:=.type "tuple",dict:=dd,data:=.seq a n,slots:=G }/\R (.ok<|.ret<|.int j s.toks) { s with toks:=s.toks+1 }):=
 .of_wp λf w A R s h=>by
  obtain⟨z,g,d,E,v⟩:=s;obtain⟨B,h⟩:=h
  wp_walk using AutoSeq1.wpAny_loadPart' B
  refine jT (n:=min a.size a.size) _ (λi (b:Option _×_) q=>b.1=ee/\i<=j/\q=⟨z,g,d,E,v⟩) _ ?turn ?fin _ ?strt
  case turn=>
   rintro i b q I ⟨C,p,rfl⟩
   have c:i<a.size:=by lia
   have o:a[i]?=al a[i]:=by simp[c]
   simp only[o];refine cv (F _ (Array.getElem_mem c) f w _ _ _ _ ?_)
   by_cases u:i=j
   .subst u
    rw[t]
    wp_walk
    exact⟨_,rfl,h⟩
   .rw[r i c (by lia)]
    wp_walk
    exact⟨rfl,by lia,rfl⟩
  case fin=>
   rintro⟨J,K⟩ q ⟨C,p,rfl⟩
   lia
  case strt=>
   exact⟨rfl,Kv _,rfl⟩
theorem Inv.tupD{b:RU}{Y:St}{a:eg}{xs:List V}(I:Inv X b Y H s)(h:H a=al (.tup xs)):
  ∃(RK:RO)(n:Nat)(sl:Array (Option c0)),Vals xs RK/\s.heap.get? a=al { cls:=.type "tuple",dict:=ee,data:=.seq RK.toArray n,slots:=sl }:=by
 obtain⟨z,RK,r,⟨cls,g,data,slots⟩,e,⟨c,n,d⟩,f⟩:=I.hok a _ h;simp only at c d f;subst c d f;exact⟨RK,n,slots,r,e⟩
theorem eD:∀{names:RN}{us:RO},Vals (names.map V.str) us->∀(j:Nat)(h:j<us.length),∃(y:Str)(t:Tok),names[j]?=al y/\us[j]=.str y t
 |[],us,r,j,h=>by cases r;exact absurd h (Lw _)
 |x::names,us,r,j,h=>by
  rw[Jf]at r;cases r with
  |cons r1 r2=>
   cases j with
   |zero=>obtain⟨t,rfl⟩:=r1;exact⟨x,t,rfl,rfl⟩
   |succ j=>obtain⟨y,t,a,b⟩:=eD r2 j (by simpa using h);exact⟨y,t,by simpa using a,by simpa using b⟩
def GG:V->List V->Hp->VK->Prop:=λx b H Q=>∃(a:eg)(names:RN)(z:Str)(j:Nat),x=.ref a/\b=[.str z]/\H a=al (.tup<|names.map V.str)/\names.length<=1000/\names[j]?=al z/\(∀m,m<j->names[m]?≠al z)/\Q (.int (j:Int)) H
theorem vy:pj X "tuple.index" GG:=by
 intro E s Y H x W v T Q I M L h;obtain⟨a,b,z,j,rfl,rfl,O,U,B,o,q⟩:=h;cases M;obtain⟨u,rfl,N⟩:=L.one;obtain⟨t,rfl⟩:=N;obtain⟨c,n,J,r,e⟩:=I.tupD O;have K:=r.length;rw[Ji]at K;have S:j<b.length:=by
  rcases Lj j b.length with z'|z'
  .exact z'
  .rw[KD z']at B;cases B
 have p:j<c.toArray.size:=by rw[Jc];lia
 refine pa Nd ⟨_,e,rfl⟩ PySem.F.entry_tuple_index (PySem.F.args_tuple_index_2 _ _)
  (oJ a c.toArray n ee J (.str z t) (λv=>match v with|.str y _=>y==z|_=>eo) (λy R=>?_) j p ?_ λm l A=>?_) ⟨e,?_⟩
 .obtain⟨m,l,rfl⟩:=List.getElem_of_mem (by simpa using R:y∈c)
  obtain⟨i,C,g,f⟩:=eD r m l;rw[f];exact eqGives_str i z C t
 .obtain⟨i,C,g,f⟩:=eD r j (by lia)
  rw[B]at g;cases g;simp[f]
 .obtain⟨i,C,g,f⟩:=eD r m (by rw[Jc]at l;exact l)
  have G:=o m A;rw[g]at G;have ne:¬i=z:=λe=>G (by rw[e])
  simp[f,ne]
 .exact⟨.int (j:Int),H,I.tok _,⟨_,rfl⟩,q⟩
def tTM(r:V->List V->Hp->VK->Prop)(to:TE)(t:TA):TE:=λY H Q=>to Y H λx H1=>(∃a b,x=.ref a/\H1 a=al (.tup b))/\t Y H1 λb H2=>r x b H2 Q
theorem Gy{o e:fx}{es:RQ}{to:TE}{t:TA}{name:Str}{RJ RI:Pos}{id:String}{r:V->List V->Hp->VK->Prop}(g:Q1 "tuple" name id)(i:Qj (.builtin id)=pure (.type "method_descriptor"))(M:pj X id r)(K:PE X o to)(L:PA X (e::es) t)(f:n7 o name X.env (g5 o X.env)=g5 o X.env:=by rfl)(hfew:((ik RI<|starEach (e::es) X.env).all (λx=>!x.1)&&(NE RI<|keywordEach [] X.env).all (λx=>x.1.isSome)
   && decide ((e::es).length+([]:List KM).length+(if ([]:List KM).isEmpty then 0 else 1)<30))=true:=by rfl)(hline:(RJ.endLine==RI.line)=true:=by rfl)(hs:fe (e::es) X.env=(eo,g5 e X.env)::fe es X.env:=by rfl)(hplain:(ik RI<|starEach es X.env).any (·.1)=false:=by rfl):
  PE X (.Call (.Attribute o name RJ) (e::es) [] RI) (tTM r to t):=by
 intro c s Y H Q I h;refine Rj f hfew hline rfl (aW (K c s Y H _ I h) λv u ⟨x,H1,I1,y,⟨a,R,E,B⟩,A⟩=>?_);subst E;cases y;obtain⟨m,n,N,O,l⟩:=I1.tupD B;refine⟨"tuple",id,PySem.F.plainAttrs_tuple,g,i,⟨_,l,rfl⟩,λb J=>by cases J;exact⟨_,l,rfl⟩,?_⟩
 have j:=L RI c u Y H1 _ I1 A;rw[hs]at j ⊢;refine Kt (by show (eo||(ik RI<|starEach es X.env).any (·.1))=eo;rw[hplain]<;>rfl) (KL ?_)
 exact aW j λq G ⟨z,H2,I2,C,p⟩=>M c G Y H2 (.ref a) z _ q Q I2 rfl C p
end
theorem dD{h a:i5}{S:RP}:∀{l:List Env},h.FunFrames a l->(∀b∈dL l,b∈S)->h.FunFrames (Na h S) l
 |[],_,_=>trivial
 |env::r,hl,hs=>by
  obtain⟨g,⟨L,o,c,n,m,f⟩,i⟩:=hl;have e:L∈S:=hs L (by unfold dL;rw[Ko,c];exact Jp)
  exact⟨g,⟨L,o,c,W.hideAll_none S e,m,f⟩,dD i λb j=>hs b (by unfold dL;rw[Ko,c];exact Jj _ j)⟩
def og(P:fy)(w:h7)(C:eg):k_:=λa H s E e c=>∃(ea:eg)(H':Hp)(B:i5)(a0:c0),e=.ref ea/\c.os=s.os/\Qi c.gens/\Un (dL a) [] H H' s.heap c.heap/\HOk P w H' c.heap/\
 Heap.FlyingW B a ea (.ref C) a0 c.heap/\(∀b u,H' b=al u->∃o,B.get? b=al o)/\(∀b o,s.heap.get? b=al o->b∉dL a->∃o',B.get? b=al o')/\E (.ref C) ee H'
theorem iK{h' B:i5}(c:HOk P w H h)(k:B.StaysIn h)(j:B.StaysIn h')(g:∀b u,H b=al u->∃o,B.get? b=al o):HOk P w H h':=λa o e=>
 (c a o e).stay (λb u i q=>by
  obtain⟨v,f⟩:∃v,B.get? b=al v:=by
   rcases i with rfl|z
   .exact g _ _ e
   .exact g _ _ z
  have:=k b v f;rw[q]at this;cases this;exact j b _ f) (λ_ q=>q) λ_ _ q=>q
theorem mq{fs:RP}{H':Hp}{l m B:i5}(un:Un fs [] H H' h l)(k1:B.StaysIn l)(k2:B.StaysIn m)(r:l.UpToSlots m)(p:∀b o,h.get? b=al o->b∉fs->∃e,B.get? b=al e)(t:∀b∈fs,∀o,h.get? b=al o->∀vs,o.data≠.fields vs)(v:∀b∈fs,H b=ee):Un fs [] H H' h m where
 keep:=λb o q n a f=>by
  have g:=un.keep b o q n a f;obtain⟨e,c⟩:=p b o q a;have:=k1 b e c;rw[g]at this;cases this;exact k2 b _ c
 slot:=λb o q n a f=>by
  obtain⟨u,g⟩:=un.slot b o q n a f;obtain⟨i,j⟩:=r b _ g (t b a o q);exact⟨i,j⟩
 free:=un.free
 there:=λb o q f=>by
  by_cases a:b∈fs
  .obtain⟨u,g⟩:=un.slot b o q (v b a) a f
   obtain⟨i,j⟩:=r b _ g (t b a o q);exact⟨_,j⟩
  .obtain⟨e,c⟩:=p b o q a
   exact⟨e,k2 b e c⟩
 tups:=un.tups
 frzs:=un.frzs
 tbls:=un.tbls
section
variable{K:Jd}{mg:RV}{base:i5}{N:RN}{RF:Str}{scope:Pi}{f C:eg}{cd:c0}{A:j0}{outer:List Env}{s0:c8}{H0:Hp}{E:XK}
theorem pc{env:Env}{L:eg}{l:List Env}(h:env.frame=al L):dL (env::l)=L::dL l:=by unfold dL;rw[Ko,h]
theorem GP:bi (og P w C) (cu (og P w C) P w K mg base N RF scope f cd A outer s0 H0 E) E:=by
 intro R Y H s e s' I a;obtain⟨G,H',B,a0,rfl,y,c,un,O,l,Q,M,hE⟩:=a;have J:(cu (og P w C) P w K mg base N RF scope f cd A outer s0 H0 E).stack=envOfC RF scope s0.heap.objs.size f cd::outer:=rfl;have x:(envOfC RF scope s0.heap.objs.size f cd).frame=al s0.heap.objs.size:=rfl;have t:dL (envOfC RF scope s0.heap.objs.size f cd::outer)=s0.heap.objs.size::dL outer:=pc x;rw[J]at un l M;show eH (fm P w) (A.deeper<|envOfC RF scope s0.heap.objs.size f cd) (leaving (envOfC RF scope s0.heap.objs.size f cd)<|.ref G) (λ_ m=>og P w C outer H0 s0 E (.ref G) m) (λX m=>og P w C outer H0 s0 E X m) s';refine wpAny_leaves_onW I.ok.frames x l λh' i F=>?_;have j:Un (dL outer) [] H0 H s0.heap s.heap:=I.base;have nofr:∀{b:eg}{o:Obj},s0.heap.get? b=al o->b∉dL outer->b∉dL (envOfC RF scope s0.heap.objs.size f cd::outer):=λ{b o} q c z=>by
  rw[t]at z;rcases Jq.mp z with e|z
  .exact JW _ (e▸Jh q)
  .exact c z
 have g:Un (dL (envOfC RF scope s0.heap.objs.size f cd::outer)) [] H H' s.heap h':=by
  refine mq un l.1 i.1 F M (λb c o q vs=>?_) λb c=>?_
  .obtain⟨_,o',r,T⟩:=I.stack.mem (show b∈_ from c)
   rw[q]at r;cases r;exact T vs
  .exact I.stkFree b c
 refine⟨G,H',B,a0,rfl,y.trans I.os,c,?_,iK O l.1 i.1 Q,i,Q,λb o q c=>?_,hE⟩
 .refine⟨λb o q n c a=>?_,λb o q n c a=>?_,λb o q n a=>?_,λb o q a=>?_,λb S q=>g.tups b S (j.tups b S q),λb o u q=>g.frzs b o u (j.frzs b o u q),λb Z q=>?_⟩
  .exact g.keep b o (j.keep b o q n c a) (j.free b o q n a) (nofr q c) a
  .obtain⟨sl,p⟩:=j.slot b o q n c a
   obtain⟨L,U⟩:=g.slot b _ p (j.free b o q n a) (by rw[t];exact Jj _ c) a
   exact⟨L,U⟩
  .obtain⟨v,p⟩:=j.there b o q a
   exact g.free b v p (j.free b o q n a) a
  .obtain⟨v,p⟩:=j.there b o q a
   exact g.there b v p a
  .obtain⟨m1,e1⟩:=j.tbls b Z q
   obtain⟨W,e2⟩:=g.tbls b _ e1;exact⟨m1++W,by rw[e2,MC]⟩
 .obtain⟨v,p⟩:=j.there b o q (by simp)
  exact M b v p (nofr q c)
structure ExcAt(K:Jd)(C:eg):Prop where
 at_:∃(nm q:Str)(Nn:eg)(bs bm bmB:RO)(hdct:Bool)(sn:RN)(sub:RO)(ab:Bool)(col:Option Bool)(dd:Option eg)(k0 k1 k2 k3 k5:Option c0)(newId initId Bs:String)(mN:RV),
  (∀h:i5,K.In h->h.get? C=al (excClassObj nm q C Nn bs bm hdct sn sub ab col dd k0 k1 k2 k3 k5 newId)/\h.Ns Nn mN/\OwnTail h bmB bm)/\mN "__init__"=ee/\ExcBaseFacts Bs newId initId bmB/\bmB.contains (.type Bs)=true/\bm.contains (.type "BaseException")=true
theorem ObjOk.obj{a:eg}{o:HO}(x:ObjOk P w H h a o):∃v,h.get? a=al v:=by
 cases o with
 |lst xs=>obtain⟨_,_,_,_,e⟩:=x;exact⟨_,e⟩
 |tup xs=>obtain⟨_,_,_,_,e,_⟩:=x;exact⟨_,e⟩
 |dK RG=>obtain⟨_,_,_,_,o,_,_,e,_⟩:=x;exact⟨_,e⟩
 |dT RG=>obtain⟨_,_,_,_,o,_,_,e,_⟩:=x;exact⟨_,e⟩
 |set S n=>obtain⟨o,_,_,_,e,_⟩:=x;exact⟨_,e⟩
 |ins C dx fs=>obtain⟨_,_,_,e,_⟩:=x;exact⟨_,e⟩
 |own y=>obtain⟨_,e⟩:=x;exact⟨_,e⟩
 |xd fs=>obtain⟨_,⟨_,_,_,e,_⟩,_⟩:=x;exact⟨_,e⟩
 |rng lo hi=>obtain⟨_,_,_,e⟩:=x;exact⟨_,e⟩
 |frz ob u=>obtain⟨e,_⟩:=x;exact⟨_,e⟩
 |tbl ps=>exact⟨_,(show h.get? a=al _ from x)⟩
 |met f y=>exact⟨_,(show h.get? a=al _ from x)⟩
 |ext φ=>obtain⟨_,⟨_,e⟩,_⟩:=x;exact⟨_,e⟩
theorem A5{fs:RP}{L:eg}{H0 H':Hp}{l h':i5}(g:Un fs [] H0 H l h)(a:Un (L::fs) [] H H' h h')(G:l.objs.size<=L):Un fs [] H0 H' l h':=by
 have nofr:∀{b:eg}{o:Obj},l.get? b=al o->b∉fs->b∉L::fs:=λ{b o} q i z=>by
  rcases Jq.mp z with e|z
  .exact JW _ (Jn (e▸Jh q) G)
  .exact i z
 refine⟨λb o q n i c=>a.keep b o (g.keep b o q n i c) (g.free b o q n c) (nofr q i) c,λb o q n i c=>?_,λb o q n c=>?_,λb o q c=>?_,λb r q=>a.tups b r (g.tups b r q),λb o u q=>a.frzs b o u (g.frzs b o u q),λb v q=>?_⟩
 .obtain⟨I,j⟩:=g.slot b o q n i c
  obtain⟨m,t⟩:=a.slot b _ j (g.free b o q n c) (Jj _ i) c;exact⟨m,t⟩
 .obtain⟨p,j⟩:=g.there b o q c
  exact a.free b p j (g.free b o q n c) c
 .obtain⟨p,j⟩:=g.there b o q c
  exact a.there b p j c
 .obtain⟨B,F⟩:=g.tbls b v q
  obtain⟨x,y⟩:=a.tbls b _ F;exact⟨B++x,by rw[y,MC]⟩
def q_(E:XK)(C:eg):TS:=λ_ _ H=>E (.ref C) ee H
theorem zF{x m:Str}{np RI pos RJ:Pos}{jj}(X:ExcAt K C)(hm:mg x=al (.ref C))(hg:Gl (cu (og P w C) P w K mg base N RF scope f cd A outer s0 H0 E) x)(hd:(x==("__debug__":Str))=false:=by decide)(hs:fe [.Constant (.str m) jj RJ] (cu (og P w C) P w K mg base N RF scope f cd A outer s0 H0 E).env=[(eo,g5 (.Constant (.str m) jj RJ) (cu (og P w C) P w K mg base N RF scope f cd A outer s0 H0 E).env)]:=by rfl):
  PS (cu (og P w C) P w K mg base N RF scope f cd A outer s0 H0 E) (.Raise (al<|.Call (.Name x np) [.Constant (.str m) jj RJ] [] RI) ee pos) (q_ E C):=by
 intro M s Y H D I h;obtain⟨nm,q,Nn,bs,bm,bmB,hdct,sn,sub,ab,col,dd,k0,k1,k2,k3,k5,newId,Q,Bs,mN,hX,R,FB,hBs,i⟩:=X.at_
 refine wpAny_Raise_call_subU (C:=C) (nm:=nm) (q:=q) (N:=Nn) (bs:=bs) (bm:=bm) (hdct:=hdct) (sn:=sn) (sub:=sub) (ab:=ab) (col:=col) (dd:=dd) (k0:=k0) (k1:=k1) (k2:=k2) (k3:=k3) (k5:=k5) FB hBs FB (mN:=mN) i (I.ok.hd rfl) (by rw[hs];rfl) R
  (cG I hg hm ⟨rfl,?_⟩ hd)
 have hA:=(uJ qN zd hs) RI M s Y H (λxs H1=>xs.length=1/\E (.ref C) ee H1) I ⟨rfl,h⟩;rw[hs]at hA ⊢;refine KL (kB hA (λS a J=>?_) λ_ _ y=>y);obtain⟨vv,H1,I1,r,F,hE⟩:=J;obtain⟨hC,hN,T⟩:=hX a.heap I1.kIn;refine⟨rfl,?_,hC,hN,T,λh' e hx=>?_⟩
 .show S.length<=sizeLine
  rw[<- r.length,F]
  decide
 have L:(envOfC RF scope s0.heap.objs.size f cd).frame=al s0.heap.objs.size:=rfl;have B:dL (envOfC RF scope s0.heap.objs.size f cd::outer)=s0.heap.objs.size::dL outer:=pc L;have U:(Na a.heap<|dL (envOfC RF scope s0.heap.objs.size f cd::outer)).StaysIn a.heap:=λb o e=>W.of_hideAll _ e;show eH (fm P w) (A.deeper<|envOfC RF scope s0.heap.objs.size f cd) (leaving (envOfC RF scope s0.heap.objs.size f cd)<|.ref e) (λ_ j=>og P w C outer H0 s0 E (.ref e) j) (λe' j=>og P w C outer H0 s0 E e' j) _;refine wpAny_leaves_madeW I1.ok.frames L U (dD I1.stack λb c=>c) hx λO t l _ _ Z=>?_;have up2:a.heap.UpToSlots O:=(Heap.UpToSlots.of_keeps hx.keeps).trans Z;have g:∀{b:eg}{o:Obj},a.heap.get? b=al o->b∉dL (envOfC RF scope s0.heap.objs.size f cd::outer)->(Na a.heap<|dL (envOfC RF scope s0.heap.objs.size f cd::outer)).get? b=al o:=λe n=>W.hideAll_get _ e n;have sT:∀b u,H1 b=al u->∃o,(Na a.heap<|dL (envOfC RF scope s0.heap.objs.size f cd::outer)).get? b=al o:=λb u e=>by
  obtain⟨v,hv⟩:=ObjOk.obj (I1.hok b u e);exact⟨v,g hv λz=>by rw[I1.stkFree b z]at e;cases e⟩
 have G:Un (dL (envOfC RF scope s0.heap.objs.size f cd::outer)) [] H1 H1 a.heap O:=by
  refine mq uY U l.1 up2 (λb o q c=>⟨o,g q c⟩) (λb c o q S=>?_) λb c=>I1.stkFree b c;obtain⟨_,o',p,hd'⟩:=I1.stack.mem (show b∈_ from c);rw[q]at p;cases p;exact hd' S
 rw[B]at G;refine⟨e,H1,_,.ref t,rfl,I1.os,I1.bare,A5 I1.base G (Jg _),iK I1.hok U l.1 sT,l,sT,λb o q c=>?_,hE⟩;obtain⟨o1,q1⟩:=I1.base.there b o q (λz=>absurd (show b∈([]:RP) from z) (by simp))
 refine⟨o1,g q1 λz=>?_⟩;rw[B]at z;rcases Jq.mp z with e'|z
 .exact JW _ (e'▸Jh q)
 .exact c z
end
abbrev Cx.marked(X:Cx)(e:c0):Cx:={ X with A:=X.A.mark (al e),calm:=eo,xe:=λ_ _=>False }
section
variable{X:Cx}{RE:RU}{Y:St}{e:c0}
theorem Cx.Ok.mark(ok:X.Ok)(e:c0):(X.marked e).Ok:=
 ⟨ok.mod,ok.kind,ok.glob,ok.blt,ok.above,ok.inj,ok.has,ok.cab,λz=>(Bool.noConfusion z),ok.frames,ok.stk,ok.exf,ok.bs,ok.bsz,ok.noex,ok.exfs,ok.funs,ok.frf⟩
theorem Inv.mark(I:Inv X RE Y H s)(e:c0):Inv (X.marked e) RE Y H s:=⟨I.ok.mark e,I.os,I.bare,I.base,I.loc,I.cell,I.free,I.freeC,I.pin,I.hok,I.len⟩
theorem Inv.unmark(ok:X.Ok)(I:Inv (X.marked e) RE Y H s):Inv X RE Y H s:=⟨ok,I.os,I.bare,I.base,I.loc,I.cell,I.free,I.freeC,I.pin,I.hok,I.len⟩
theorem SP.unmark{D:Ends}{f:Flow}{s':c8}(ok:X.Ok)(h:SP (X.marked e) RE D f s'):SP X RE D f s':=by
 cases f with
 |next=>obtain⟨a,H',I,q⟩:=h;exact⟨a,H',I.unmark ok,q⟩
 |brk=>obtain⟨a,H',I,q⟩:=h;exact⟨a,H',I.unmark ok,q⟩
 |cont=>obtain⟨a,H',I,q⟩:=h;exact⟨a,H',I.unmark ok,q⟩
 |ret u=>obtain⟨v,a,H',I,r,q⟩:=h;exact⟨v,a,H',I.unmark ok,r,q⟩
def xZ(C:eg)(sp:Sp)(dvs:List V)(ta:TA)(ts:TS):TS:=λD Y H=>ta Y H λa H1=>sp (a++dvs) H1 (λ_ H2=>D.nx Y H2) (λ_ _ H2=>ts D Y H2)
theorem qS{C f:eg}{k:Nat}{fd:hI}{ps:RN}{sp:Sp}{j:List V}{ds:RO}{x W:Str}{p U ep np Q pos:Pos}{e:fx}{es:RQ}{ta:TA}{l:q0}{g:RS}{ts:TS}(R:X.stack=X.env::X.outer)(hfL:X.env.frame=al X.env.locals)(F:FnOk X.prog X.w X.K X.mg X.base (og X.prog X.w C) k f fd ps sp)(hr:Room k X.A)(hg:Gl X x)(hm:X.mg x=al (.ref f))(hk:J4 X.K (.ref f)=true)(hb:Binds X.K fd ps ds)(hd:Vals j ds)(ha:PA X.nox (e::es) ta)(EX:ExcAt X.K C)(hgC:Gl X W)(hmC:X.mg W=al (.ref C))(hsu:∀ea:eg,qc (X.marked<|.ref ea) (l::g) ts)(hdb:(x==("__debug__":Str))=false:=by decide)(hdC:(W==("__debug__":Str))=false:=by decide)(he:fe (e::es) X.env=(eo,g5 e X.env)::fe es X.env:=by rfl)(hpl:(ik U<|starEach es X.env).any (·.1)=false:=by rfl)(hsw:rc (.Call (.Name x p) (e::es) [] U) ee ep.line X.env=pure false:=by rfl):
  PS X (.Try [.Expr (.Call (.Name x p) (e::es) [] U) ep] [.ExceptHandler (al<|.Name W np) ee (l::g) Q] [] [] pos) (xZ C sp j ta ts):=by
 intro RE s Y H D I h;refine wpAny_Try_except (Qm<|wpAny_Expr_any ?_ I.quiet hsw);refine p5 (cG I hg hm ?_ hdb);refine Mo (h₀:=X.base) I.ok.mod.kin hk (kB (ha U RE s Y H _ (I.wish _) h) (λE S ⟨y,H1,I1',r,q⟩=>?_) λ_ _ z=>JF z) he hpl;have I1:Inv X RE Y H1 S:=I1'.unwish;refine⟨I1.kIn,?_⟩;have r2:Vals (y++j) (E++ds):=r.append hd;have hl:(E++ds).length=ps.length:=by rw[<- r2.length];exact F.len _ _ _ _ q
 refine QD (Os (F.run X.A X.stack S H1 ⟨E,[]⟩ (E++ds) (y++j) _ _ hr I1.env0 (hb S E I1.kIn hl) r2 q) λrr s' G=>?_);cases rr with
 |ok fl=>
  cases fl with
  |ret u=>
   obtain⟨x',H2,I2,_,q2⟩:=I1.after G;exact r0 (r0 ⟨Y,H2,I2,q2⟩)
  |next=>exact JF G
  |brk=>exact JF G
  |cont=>exact JF G
 |error er=>
  obtain⟨ea,H',B,a0,rfl,hos,m,un,hok,i,sT,sA,hE⟩:=G;obtain⟨nm,qn,Nn,bs,bm,bmB,hdct,sn,sub,ab,col,dd,k0,k1,k2,k3,k5,newId,T,Bs,mN,hX,hni,FB,hBs,t⟩:=EX.at_;have nf:∀b∈dL X.stack,∀o,S.heap.get? b=al o->∀y,o.data≠.fields y:=λb v o Z y=>by
   obtain⟨_,o',L,hd'⟩:=I1.stack.mem (show b∈_ from v);rw[Z]at L;cases L;exact hd' y
  have c:∀O:i5,B.StaysIn O->s'.heap.UpToSlots O->Inv X RE Y H' { s' with heap:=O }:=λO k up=>
   I1.call' (s':={ s' with heap:=O }) hos (mq un i.1 k up sA nf λb v=>I1.stkFree b v) (iK hok i.1 k sT) m λb z=>absurd (show b∈([]:RP) from z) (by simp)
  rw[R]at i;have hfr:X.A.frames=al (X.env::X.outer):=by rw[<- R];exact I1.ok.frames
  refine wpAny_looks_onW hfr hfL i λh4 n up4=>?_;refine wpAny_landsW n λh5 a J=>?_;have I5:=(c h5 a.1<|up4.trans J).mark (.ref ea);obtain⟨hC,_,_⟩:=hX h5 I5.kIn;obtain⟨ob,hob,N⟩:=a.there;refine wpAny_handleBy_cons (Rt<|cG I5 hgC hmC ?_ hdC) (by intro Z;cases Z)
  refine wpAny_excMatches_sub_self hC hob N t (codeAny_handlers_suite ?_);refine lands_againW a λh6 M up6=>?_;have I6:=(c h6 M.1<|(up4.trans J).trans up6).mark (.ref ea);exact kB (hsu ea RE _ Y H' D I6 hE) (λfl s7 q7=>q7.unmark I.ok) λ_ _ z=>JF z
end
end L2
namespace L3
open PySem L2
variable{p:eg}{B:Bd}{X:Cx}{U:Dl}{c e:fx}{H H' H1:Hp}{K:Jd}{M:Mem}{pos:Pos}{Y:St}{r:eI}
inductive D where
 |non|bl (b:Bool)|int (i:Int)|str (x:Str)|ty (n:String)|ref (a:eg)|tup (xs:List D)|lst (xs:List D)|mt (xs:List D)|ml (xs:List D)
def TpD(_:Jd)(H:Hp)(p:eg)(vs:List V):Prop:=H p=al (.tup vs)
def TpM(K:Jd)(p:eg)(vs:List V):Prop:=∃(o:Obj)(RK:RW)(n:Nat),K.lookup p=al o/\o.cls=.type "tuple"/\o.data=.seq RK n/\RK.size<=sizeLine/\Vals vs RK.toList
def FzD(K:Jd)(H:Hp)(p:eg)(vs:List V):Prop:=
 ∃o,H p=al (.frz o<|.lst vs)
def FzK(K:Jd)(H:Hp)(p:eg)(vs:List V):Prop:=(∃o,H p=al (.frz o<|.lst vs))\/∃(o:Obj)(RK:RW)(n:Nat),K.lookup p=al o/\o.cls=.type "list"/\o.dict=ee/\o.data=.seq RK n/\RK.size<=sizeLine/\Vals vs RK.toList
theorem FzK.sq{vs:List V}(h:FzK K H p vs):SqL K H p vs:=h.imp (λ⟨o,e⟩=>.inr ⟨o,e⟩) λx=>x
theorem TpD.sq{vs:List V}(h:TpD K H p vs):fg K H p vs:=.inl (.inl h)
theorem TpM.sq{vs:List V}(h:TpM K p vs):fg K H p vs:=.inr h
theorem FzD.sq{vs:List V}(h:FzD K H p vs):SqL K H p vs:=by
 obtain⟨o,h⟩:=h;exact .inl (.inr ⟨o,h⟩)
mutual
def Rp(K:Jd)(H:Hp):D->V->Prop
 |.non,v=>v=.non
 |.bl b,v=>v=.bl b
 |.int i,v=>v=.int i
 |.str x,v=>v=.str x
 |.ty n,v=>v=.ty n
 |.ref a,v=>v=.ref a
 |.tup xs,v=>∃p vs,v=.ref p/\TpD K H p vs/\Rps K H xs vs
 |.lst xs,v=>∃p vs,v=.ref p/\FzD K H p vs/\Rps K H xs vs
 |.mt xs,v=>∃p vs,v=.ref p/\TpM K p vs/\Rps K H xs vs
 |.ml xs,v=>∃p vs,v=.ref p/\FzK K H p vs/\Rps K H xs vs
def Rps(K:Jd)(H:Hp):List D->List V->Prop
 |[],vs=>vs=[]
 |x::xs,vs=>∃v r,vs=v::r/\Rp K H x v/\Rps K H xs r
end
structure Imm(H H':Hp):Prop where
 tup:∀p vs,H p=al (.tup vs)->H' p=al (.tup vs)
 frz:∀p o u,H p=al (.frz o u)->H' p=al (.frz o u)
theorem gk:Imm H H:=⟨λ_ _ e=>e,λ_ _ _ e=>e⟩
theorem TpD.mono{vs:List V}(i:Imm H H')(h:TpD K H p vs):TpD K H' p vs:=i.tup _ _ h
theorem FzK.mono{vs:List V}(i:Imm H H')(h:FzK K H p vs):FzK K H' p vs:=h.imp (λ⟨o,e⟩=>⟨o,i.frz _ _ _ e⟩) λx=>x
theorem FzD.mono{vs:List V}(i:Imm H H')(h:FzD K H p vs):FzD K H' p vs:=let ⟨o,e⟩:=h;⟨o,i.frz _ _ _ e⟩
mutual
theorem Rp.mono{K:Jd}{H H':Hp}(i:Imm H H'):∀{d:D}{v:V},Rp K H d v->Rp K H' d v
 |.non,_,h=>h
 |.bl _,_,h=>h
 |.int _,_,h=>h
 |.str _,_,h=>h
 |.ty _,_,h=>h
 |.ref _,_,h=>h
 |.tup _,_,h=>by
  obtain⟨p,a,e,t,r⟩:=h;exact⟨p,a,e,t.mono i,Rps.mono i r⟩
 |.lst _,_,h=>by
  obtain⟨p,a,e,t,r⟩:=h;exact⟨p,a,e,t.mono i,Rps.mono i r⟩
 |.mt _,_,h=>by
  obtain⟨p,a,e,t,r⟩:=h;exact⟨p,a,e,t,Rps.mono i r⟩
 |.ml _,_,h=>by
  obtain⟨p,a,e,t,r⟩:=h;exact⟨p,a,e,t.mono i,Rps.mono i r⟩
theorem Rps.mono{K:Jd}{H H':Hp}(i:Imm H H'):∀{ds:List D}{vs:List V},Rps K H ds vs->Rps K H' ds vs
 |[],_,h=>h
 |_::_,_,h=>by
  obtain⟨v,r,e,a,b⟩:=h;exact⟨v,r,e,Rp.mono i a,Rps.mono i b⟩
end
section
theorem Rps.nil:Rps K H [] []:=rfl
theorem Rps.cons{d:D}{v:V}{ds:List D}{vs:List V}(a:Rp K H d v)(b:Rps K H ds vs):Rps K H (d::ds) (v::vs):=⟨v,vs,rfl,a,b⟩
theorem Rps.length:∀{ds:List D}{vs:List V},Rps K H ds vs->ds.length=vs.length
 |[],_,h=>by cases h;rfl
 |_::_,_,h=>by obtain⟨v,r,rfl,_,b⟩:=h;simp[b.length]
theorem Rps.get:∀{ds:List D}{vs:List V},Rps K H ds vs->∀{i:Nat}{d:D},ds[i]?=al d->∃v,vs[i]?=al v/\Rp K H d v
 |[],_,_,i,d,e=>by simp at e
 |x::xs,_,h,i,d,e=>by
  obtain⟨v,r,rfl,a,b⟩:=h;cases i with
  |zero=>simp at e;subst e;exact⟨v,by simp,a⟩
  |succ i=>simpa using b.get (by simpa using e)
theorem Rps.append:∀{ds es:List D}{vs f:List V},Rps K H ds vs->Rps K H es f->Rps K H (ds++es) (vs++f)
 |[],_,_,_,h,g=>by cases h;exact g
 |_::_,_,_,_,h,g=>by
  obtain⟨v,r,rfl,a,b⟩:=h;exact⟨v,_,rfl,a,b.append g⟩
theorem Rps.take:∀{ds:List D}{vs:List V}(n:Nat),Rps K H ds vs->Rps K H (ds.take n) (vs.take n)
 |[],_,n,h=>by cases h;simp[Rps]
 |_::_,_,0,h=>rfl
 |_::_,_,n+1,h=>by
  obtain⟨v,r,rfl,a,b⟩:=h;exact⟨v,_,rfl,a,b.take n⟩
theorem Rps.drop:∀{ds:List D}{vs:List V}(n:Nat),Rps K H ds vs->Rps K H (ds.drop n) (vs.drop n)
 |[],_,n,h=>by cases h;simp[Rps]
 |_::_,_,0,h=>h
 |_::_,_,n+1,h=>by
  obtain⟨v,r,rfl,a,b⟩:=h;exact b.drop n
theorem Rps.set{d:D}{v:V}(a:Rp K H d v):∀{ds:List D}{vs:List V}(i:Nat),Rps K H ds vs->Rps K H (ds.set i d) (vs.set i v)
 |[],_,_,h=>by cases h;rfl
 |_::_,_,0,h=>by obtain⟨w,r,rfl,_,b⟩:=h;exact⟨v,r,rfl,a,b⟩
 |_::_,_,i+1,h=>by obtain⟨w,r,rfl,c,b⟩:=h;exact⟨w,_,rfl,c,b.set a i⟩
theorem Rps.dropLast{ds:List D}{vs:List V}(h:Rps K H ds vs):Rps K H ds.dropLast vs.dropLast:=by
 rw[Oa,Oa,h.length];exact h.take _
theorem Rps.eraseIdx:∀{ds:List D}{vs:List V}(i:Nat),Rps K H ds vs->Rps K H (ds.eraseIdx i) (vs.eraseIdx i)
 |[],_,_,h=>by cases h;rfl
 |_::_,_,0,h=>by obtain⟨w,r,rfl,_,b⟩:=h;exact b
 |_::_,_,i+1,h=>by obtain⟨w,r,rfl,c,b⟩:=h;exact⟨w,_,rfl,c,b.eraseIdx i⟩
theorem p_:∀{a:RM}{vs:List V},vs=a.map V.int->Rps K H (a.map D.int) vs
 |[],_,e=>e
 |i::a,_,e=>by subst e;exact⟨_,_,rfl,rfl,p_ rfl⟩
end
inductive MO where
 |lst (xs:List D)
 |dK (RG:List (ax×D))
 |dT (RG:List (List ax×D))
 |ins (C:eg) (fs:List (Str×D))
abbrev Mem:=eg->Option MO
def Mem.upd(M:Mem)(a:eg)(o:MO):Mem:=λb=>if b=a then al o else M b
def Mem.del(M:Mem)(a:eg):Mem:=λb=>if b=a then ee else M b
def Rkv{κ:Type}(K:Jd)(H:Hp):List (κ×D)->List (κ×V)->Prop:=Ql λp q=>p.1=q.1/\Rp K H p.2 q.2
def RepO(K:Jd)(H:Hp)(a:eg):MO->Prop
 |.lst xs=>∃vs,H a=al (.lst vs)/\Rps K H xs vs
 |.dK RG=>∃ws,H a=al (.dK ws)/\Rkv K H RG ws
 |.dT RG=>∃ws,H a=al (.dT ws)/\Rkv K H RG ws
 |.ins C fs=>∃dx ws,H a=al (.ins C dx ws)/\Rkv K H fs ws
def RepH(K:Jd)(H:Hp)(M:Mem):Prop:=∀a o,M a=al o->RepO K H a o
section
variable{a b:eg}{o:MO}{u:HO}
@[simp] theorem Mem.upd_same:(M.upd a o) a=al o:=by simp[Mem.upd]
theorem ae(h:b≠a):(M.upd a o) b=M b:=by simp[Mem.upd,h]
@[simp] theorem Mem.upd_upd {o':MO}:(M.upd a o).upd a o'=M.upd a o':=by funext c;simp[Mem.upd];split<;>rfl
@[simp] theorem Mem.upd_del:(M.upd a o).del a=M.del a:=by funext c;simp[Mem.upd,Mem.del];split<;>rfl
theorem ay(h:M a=ee):M.del a=M:=by
 funext c;simp only[Mem.del];split
 .rename_i e;rw[e,h]
 .rfl
theorem aq{f:MO}(h:a≠b):(M.upd a o).upd b f=(M.upd b f).upd a o:=by
 funext c;simp only[Mem.upd];split
 .rename_i e;rw[e,if_neg (JI h)]
 .rfl
theorem Mem.ne{o:MO}(h:M a=al o)(h':M b=ee):a≠b:=by intro e;subst e;rw[h]at h';cases h'
theorem Rkv.mono{g:Type}{f:List (g×D)}{j:List (g×V)}(i:Imm H H')(h:Rkv K H f j):Rkv K H' f j:=cK h λ_ _ z=>⟨z.1,z.2.mono i⟩
theorem RepO.obj(r:RepO K H a o):∃u,H a=al u:=by
 cases o with
 |lst xs=>obtain⟨f,e,_⟩:=r;exact⟨_,e⟩
 |dK xs=>obtain⟨f,e,_⟩:=r;exact⟨_,e⟩
 |dT xs=>obtain⟨f,e,_⟩:=r;exact⟨_,e⟩
 |ins C fs=>obtain⟨g,f,e,_⟩:=r;exact⟨_,e⟩
theorem RepO.keep(r:RepO K H a o)(i:Imm H H')(e:H' a=H a):RepO K H' a o:=by
 cases o with
 |lst xs=>obtain⟨f,q,z⟩:=r;exact⟨f,e.trans q,z.mono i⟩
 |dK xs=>obtain⟨f,q,z⟩:=r;exact⟨f,e.trans q,z.mono i⟩
 |dT xs=>obtain⟨f,q,z⟩:=r;exact⟨f,e.trans q,z.mono i⟩
 |ins C fs=>obtain⟨g,f,q,z⟩:=r;exact⟨g,f,e.trans q,z.mono i⟩
theorem RepH.fresh(r:RepH K H M)(h:H a=ee):M a=none:=by
 cases e:M a with
 |none=>rfl
 |some o=>obtain⟨u,q⟩:=(r a o e).obj;rw[h]at q;cases q
def rV:Option HO->Prop
 |some (.tup _)=>False
 |some (.frz _ _)=>False
 |_=>True
theorem Imm.upd(h:rV (H a)):Imm H (upd H a u):=by
 refine⟨λp f e=>?_,λp o v e=>?_⟩
 .rw[az];exact e
  rintro rfl;rw[e]at h;exact h
 .rw[az];exact e
  rintro rfl;rw[e]at h;exact h
theorem Imm.new(h:H a=ee):Imm H (L2.upd H a u):=Imm.upd (by rw[h];trivial)
theorem RepO.loose(r:RepO K H a o):rV (H a):=by
 cases o with
 |lst xs=>obtain⟨f,e,_⟩:=r;rw[e];trivial
 |dK xs=>obtain⟨f,e,_⟩:=r;rw[e];trivial
 |dT xs=>obtain⟨f,e,_⟩:=r;rw[e];trivial
 |ins C fs=>obtain⟨g,f,e,_⟩:=r;rw[e];trivial
theorem RepH.new(r:RepH K H M)(h:H a=ee):RepH K (L2.upd H a u) M:=λb o e=>by
 obtain⟨v,q⟩:=(r b o e).obj;exact(r b o e).keep (Imm.new h) (az<|aQ q h)
theorem RepH.put(r:RepH K H M)(h:rV (H a))(n:RepO K (L2.upd H a u) a o):RepH K (L2.upd H a u) (M.upd a o):=λb p e=>by
 by_cases f:b=a
 .subst f;rw[Mem.upd_same]at e;cases e;exact n
 .rw[ae f]at e
  exact(r b p e).keep (Imm.upd h) (az f)
theorem RepH.keep(r:RepH K H M)(i:Imm H H')(e:∀b o,M b=al o->H' b=H b):RepH K H' M:=λb o q=>(r b o q).keep i (e b o q)
structure Frm(M:Mem)(H:Hp)(M':Mem)(H':Hp):Prop where
 keep:∀b u,H b=al u->M b=ee->H' b=al u/\M' b=ee
variable{M':Mem}
theorem am:Frm M H M H:=⟨λ_ _ e n=>⟨e,n⟩⟩
theorem Frm.trans{M1 M2:Mem}{H2:Hp}(x:Frm M H M1 H1)(y:Frm M1 H1 M2 H2):Frm M H M2 H2:=⟨λb u e n=>let ⟨e1,n1⟩:=x.keep b u e n;y.keep b u e1 n1⟩
theorem Frm.imm(f:Frm M H M' H')(r:RepH K H M):Imm H H':=by
 have g:∀b u,H b=al u->¬rV (al u)->H' b=al u:=λb u e n=>(f.keep b u e (by
  cases q:M b with
  |none=>rfl
  |some o=>exact absurd (by rw[<- e];exact(r b o q).loose) n)).1
 exact⟨λp h e=>g p _ e (λz=>z),λp o u e=>g p _ e (λz=>z)⟩
theorem Frm.new(h:H a=ee):Frm M H M (L2.upd H a u):=⟨λb v e n=>⟨by rw[az (aQ e h)];exact e,n⟩⟩
theorem Frm.put(h:H a=ee\/∃o,M a=al o):Frm M H (M.upd a o) (L2.upd H a u):=⟨λb v e n=>by
 have f:b≠a:=by
  rintro rfl
  rcases h with h|⟨o,h⟩
  .rw[h]at e;cases e
  .rw[h]at n;cases n
 exact⟨by rw[L2.az f];exact e,by rw[ae f];exact n⟩⟩
theorem Frm.del(h:∃o,M a=al o):Frm M H (M.del a) (L2.upd H a u):=⟨λb v e n=>by
 have f:b≠a:=by
  rintro rfl
  obtain⟨o,h⟩:=h;rw[h]at n;cases n
 refine⟨by rw[L2.az f];exact e,?_⟩
 unfold Mem.del;rw[if_neg f];exact n⟩
theorem Rp.mf{d:D}{v:V}(x:Rp K H d v)(r:RepH K H M)(f:Frm M H M' H'):Rp K H' d v:=x.mono (f.imm r)
theorem Rps.mf{d:List D}{v:List V}(x:Rps K H d v)(r:RepH K H M)(f:Frm M H M' H'):Rps K H' d v:=x.mono (f.imm r)
end
abbrev Dl:=List (Option D)
abbrev DK:=D->Mem->Prop
abbrev aV:=Dl->Mem->DK->Prop
abbrev dq:=Dl->Mem->(Bool->Mem->Prop)->Prop
abbrev cB:=Dl->Mem->(List D->Mem->Prop)->Prop
structure RepS(K:Jd)(H:Hp)(U:Dl)(Y:St):Prop where
 len:U.length=Y.length
 get:∀(i:Nat)(d:D),U[i]?=al (al d)->∃v,Y[i]?=al (al v)/\Rp K H d v
theorem RepS.mono(r:RepS K H U Y)(i:Imm H H'):RepS K H' U Y:=
 ⟨r.len,λj d e=>by obtain⟨v,b,a⟩:=r.get j d e;exact⟨v,b,a.mono i⟩⟩
theorem RepS.set{i:Nat}{d:D}{v:V}(r:RepS K H U Y)(h:Rp K H d v):RepS K H (U.set i<|some d) (Y.set i<|some v):=by
 refine⟨by simp[r.len],λj e q=>?_⟩
 rw[List.getElem?_set]at q ⊢
 by_cases a:i=j
 .rw[if_pos a]at q ⊢
  by_cases b:i<U.length
  .rw[if_pos (by rw[<- r.len];exact a▸b)]
   rw[if_pos (a▸b)]at q;cases q;exact⟨v,rfl,h⟩
  .rw[if_neg (a▸b)]at q;cases q
 .rw[if_neg a]at q ⊢
  exact r.get j e q
structure Bd where
 p:Mem->Hp->Prop
 go:∀{M M':Mem}{H H':Hp},p M H->Frm M H M' H'->p M' H'
def Bd.of(M:Mem)(H:Hp):Bd:=⟨λM' H'=>Frm M H M' H',λa b=>a.trans b⟩
structure SR(X:Cx)(B:Bd)(U:Dl)(M:Mem)(Y:St)(H:Hp):Prop where
 i0:B.p M H
 rh:RepH X.K H M
 rs:RepS X.K H U Y
theorem SR.go{M':Mem}(s:SR X B U M Y H)(rh:RepH X.K H' M')(i:Frm M H M' H'):SR X B U M' Y H':=⟨B.go s.i0 i,rh,s.rs.mono<|i.imm s.rh⟩
def Up(K:Jd)(M:Mem)(H:Hp)(QQ:DK)(Q:VK):Prop:=∀d M',QQ d M'->∀v H',RepH K H' M'->Frm M H M' H'->Rp K H' d v->Q v H'
def UpT(K:Jd)(M:Mem)(H:Hp)(QQ:Bool->Mem->Prop)(Q:Bool->Hp->Prop):Prop:=∀b M',QQ b M'->∀H',RepH K H' M'->Frm M H M' H'->Q b H'
def UpA(K:Jd)(M:Mem)(H:Hp)(QQ:List D->Mem->Prop)(Q:List V->Hp->Prop):Prop:=∀ds M',QQ ds M'->∀vs H',RepH K H' M'->Frm M H M' H'->Rps K H' ds vs->Q vs H'
theorem Up.go{M1:Mem}{QQ:DK}{Q:VK}(u:Up K M H QQ Q)(i:Frm M H M1 H1):Up K M1 H1 QQ Q:=λd M' q v H' a b c=>u d M' q v H' a (i.trans b) c
theorem UpT.go{M1:Mem}{QQ:Bool->Mem->Prop}{Q:Bool->Hp->Prop}(u:UpT K M H QQ Q)(i:Frm M H M1 H1):UpT K M1 H1 QQ Q:=λd M' q H' a b=>u d M' q H' a (i.trans b)
inductive liftE(X:Cx)(B:Bd)(T:aV)(Y:St)(H:Hp)(Q:VK):Prop
 |mk (U:Dl) (M:Mem) (QQ:DK) (s:SR X B U M Y H) (h:T U M QQ) (u:Up X.K M H QQ Q):liftE X B T Y H Q
inductive liftT(X:Cx)(B:Bd)(T:dq)(Y:St)(H:Hp)(Q:Bool->Hp->Prop):Prop
 |mk (U:Dl) (M:Mem) (QQ:Bool->Mem->Prop) (s:SR X B U M Y H) (h:T U M QQ) (u:UpT X.K M H QQ Q):liftT X B T Y H Q
inductive liftA(X:Cx)(B:Bd)(T:cB)(Y:St)(H:Hp)(Q:List V->Hp->Prop):Prop
 |mk (U:Dl) (M:Mem) (QQ:List D->Mem->Prop) (s:SR X B U M Y H) (h:T U M QQ) (u:UpA X.K M H QQ Q):liftA X B T Y H Q
def DE(X:Cx)(B:Bd)(e:fx)(T:aV):Prop:=PE X e (liftE X B T)
def DT(X:Cx)(B:Bd)(e:fx)(T:dq):Prop:=PT X e (liftT X B T)
def DA(X:Cx)(B:Bd)(es:RQ)(T:cB):Prop:=PA X es (liftA X B T)
theorem aJ{t t':TE}(h:PE X e t)(w:∀Y H Q,t' Y H Q->t Y H Q):PE X e t':=λa s Y H Q I q=>h a s Y H Q I (w Y H Q q)
theorem nc{t t':TT}(h:PT X e t)(w:∀Y H Q,t' Y H Q->t Y H Q):PT X e t':=λa s Y H Q I q=>h a s Y H Q I (w Y H Q q)
theorem uy{e:RQ}{t t':TA}(h:PA X e t)(w:∀Y H Q,t' Y H Q->t Y H Q):PA X e t':=λpos a s Y H Q I q=>h pos a s Y H Q I (w Y H Q q)
theorem ba{e:q0}{t t':TS}(h:PS X e t)(w:∀D Y H,t' D Y H->t D Y H):PS X e t':=λa s Y H D I q=>h a s Y H D I (w D Y H q)
theorem kf{e:RS}{t t':TS}(h:qc X e t)(w:∀D Y H,t' D Y H->t D Y H):qc X e t':=λa s Y H D I q=>h a s Y H D I (w D Y H q)
def ac(i:Nat):aV:=λU M Q=>match U[i]? with
 |some (al d)=>Q d M
 |_=>False
def dC(d:D):aV:=λ_ M Q=>Q d M
section
variable{a b:fx}{ta tb tc:aV}
theorem D_{i:Nat}{x:Str}(l:X.N[i]?=al x)(m:Gj X.env.scope x)(j:(x==("__debug__":Str))=false:=by decide)(hcd:(x==("__classdict__":Str))=false:=by decide):DE X B (.Name x pos) (ac i):=by
 refine aJ (EU l m j hcd) ?_
 rintro Y H Q ⟨U,M,QQ,s,h,u⟩
 unfold ac at h
 split at h
 .rename_i d e
  obtain⟨v,f,g⟩:=s.rs.get i d e;exact⟨v,f,u d M h v H s.rh am g⟩
 .exact h.elim
theorem ve{v:V}{d:D}(h:PE X e (tC v))(r:∀H,Rp X.K H d v):DE X B e (dC d):=by
 refine aJ h ?_
 rintro Y H Q ⟨U,M,QQ,s,h,u⟩
 exact u d M h v H s.rh am (r H)
theorem EZ{i j pos}:DE X B (.Constant (.int i) j pos) (dC<|.int i):=ve G8 λ_=>rfl
theorem Hj{i j pos}:DE X B (.Constant (.bool i) j pos) (dC<|.bl i):=ve Ix λ_=>rfl
theorem Fm{j pos}:DE X B (.Constant .none j pos) (dC .non):=ve FV λ_=>rfl
theorem DB{i j pos}:DE X B (.Constant (.str i) j pos) (dC<|.str i):=ve qN λ_=>rfl
theorem A0{x:Str}{v:V}{d:D}{u:c0}(g:Gl X x)(h:X.mg x=al u)(r:RelV v u)(q:∀H,Rp X.K H d v)(f:(x==("__debug__":Str))=false:=by decide):DE X B (.Name x pos) (dC d):=ve (Bx g h r f) q
abbrev eI:=D->D->Mem->DK->Prop
inductive liftR2(X:Cx)(r:eI)(x y:V)(H:Hp)(Q:VK):Prop
 |mk (d1 d2:D) (M:Mem) (QQ:DK) (rh:RepH X.K H M) (r1:Rp X.K H d1 x) (r2:Rp X.K H d2 y) (h:r d1 d2 M QQ) (u:Up X.K M H QQ Q):liftR2 X r x y H Q
def ai(r:eI)(ta tb:aV):aV:=λU M Q=>ta U M λx M1=>tb U M1 λy M2=>r x y M2 Q
theorem iz{Q:VK}(h:liftE X B (ai r ta tb) Y H Q):Ht (liftR2 X r) (liftE X B ta) (liftE X B tb) Y H Q:=by
 obtain⟨U,M,QQ,s,h,u⟩:=h;refine⟨U,M,_,s,h,λx M1 m v1 H1 f i1 j=>?_⟩;refine⟨U,M1,_,s.go f i1,m,λy M2 n v2 H2 g i l=>?_⟩;exact⟨x,y,M2,QQ,g,j.mf f i,l,n,u.go<|i1.trans i⟩
theorem kC{f:Qo}(g:bZ X (ot f) (liftR2 X r))(j:DE X B a ta)(i:DE X B b tb):DE X B (.BinOp a f b pos) (ai r ta tb):=aJ (Hv g j i) λ_ _ _ h=>iz h
theorem qT{f:CmpOp}(i:bZ X (md f) (liftR2 X r))(j:DE X B a ta)(g:DE X B b tb)(l:QC f b=eo):DE X B (.Compare a [f] [b] pos) (ai r ta tb):=aJ (BQ i j g l) λ_ _ _ h=>iz h
theorem HG(i:IxR X (liftR2 X r))(j:DE X B a ta)(g:DE X B b tb)(f:tI b):DE X B (.Subscript a b pos) (ai r ta tb):=aJ (HR i j g f) λ_ _ _ h=>iz h
def ao(t:aV):dq:=λU M Q=>t U M λd M'=>match d with
 |.bl k=>Q k M'
 |_=>False
theorem cU{f:CmpOp}(n:bZ X (md f) (liftR2 X r))(o:DE X B a ta)(m:DE X B b tb)(t:QC f b=eo):DT X B (.Compare a [f] [b] pos) (ao<|ai r ta tb):=by
 refine nc (C2 n o m t) ?_
 rintro Y H Q ⟨U,M,QQ,s,h,u⟩
 have j:liftE X B (ai r ta tb) Y H (λx H'=>∃k,x=.bl k/\Q k H'):=by
  refine⟨U,M,_,s,h,λd M' q v H' l i g=>?_⟩;cases d with
  |bl k=>exact⟨k,g,u k M' q H' l i⟩
  |_=>exact(show False from q).elim
 exact iz j
def CU(M:Mem):D->Option Bool
 |.non=>al eo
 |.bl b=>al b
 |.int i=>al (i != 0)
 |.str y=>if y.length<=sizeLine then al ((y.length:Int) != 0) else ee
 |.tup xs=>al (!xs.isEmpty)
 |.lst xs=>al (!xs.isEmpty)
 |.ref a=>match M a with
  |some (.lst xs)=>al (!xs.isEmpty)
  |some (.dK xs)=>al (!xs.isEmpty)
  |_=>ee
 |_=>ee
def i6(t:aV):dq:=λU M Q=>t U M λd M'=>match CU M' d with
 |some k=>Q k M'
 |none=>False
theorem dG{ds:List D}{vs:List V}(r:Rps K H ds vs):vs.isEmpty=ds.isEmpty:=by
 have:=r.length;cases ds<;>cases vs<;>simp_all
theorem FX{d:D}{v:V}{k:Bool}(l:RepH K H M)(r:Rp K H d v)(e:CU M d=al k):G5 K v H k:=by
 cases d with
 |non=>cases r;cases e;rfl
 |bl b=>cases r;cases e;rfl
 |int i=>cases r;cases e;rfl
 |str y=>
  cases r;simp only[CU]at e
  split at e
  .cases e;exact⟨by assumption,rfl⟩
  .cases e
 |ty n=>cases e
 |tup g=>
  obtain⟨p,f,rfl,t,r⟩:=r;cases e;exact .inr (.inl ⟨f,t.sq,by rw[dG r]⟩)
 |mt g=>cases e
 |ml g=>cases e
 |lst g=>
  obtain⟨p,f,rfl,t,r⟩:=r;cases e;exact .inl ⟨f,t.sq,by rw[dG r]⟩
 |ref a=>
  cases r;simp only[CU]at e
  split at e
  .rename_i g q
   obtain⟨f,h,j⟩:=l _ _ q;cases e;exact .inl ⟨f,SqL.of h,by rw[dG j]⟩
  .rename_i g q
   obtain⟨f,h,j⟩:=l _ _ q;cases e;refine .inr (.inr ⟨f,h,?_⟩);cases j<;>rfl
  .cases e
theorem E6(h:DE X B e ta)(l:∀f,Rn e X.env f=(do let v <- f;Qg e.pos;vr [v] (truthy v)):=by intro _;rfl):DT X B e (i6 ta):=by
 refine nc (wI h l) ?_
 rintro Y H Q ⟨U,M,QQ,s,h,u⟩
 refine⟨U,M,_,s,h,λd M' q v H' g i j=>?_⟩
 split at q
 .rename_i k e
  exact⟨k,FX g j e,u k M' q H' g i⟩
 .exact q.elim
def FP(t:dq):dq:=λU M Q=>t U M λc M1=>Q (!c) M1
theorem F_{f:dq}(j:DT X B a f):DT X B (.UnaryOp .Not a pos) (FP f):=by
 refine nc (Ge j) ?_
 rintro Y H Q ⟨U,M,QQ,s,h,u⟩
 exact⟨U,M,_,s,h,λc M' q H' g i=>u _ M' q H' g i⟩
end
section
variable{a b:fx}{ta tb tc:aV}{tA tB':dq}{rest:RQ}
def DW(X:Cx)(B:Bd)(e:fx)(T:dq):Prop:=PW X e (liftT X B T)
theorem IZ{T:dq}(h:DW X B e T):DT X B e T:=IU h
theorem um{t t':TT}(h:PW X e t)(w:∀Y H Q,t' Y H Q->t Y H Q):PW X e t':=λg f s Y H Q I q=>h g f s Y H Q I (w Y H Q q)
def Ie(t u:dq):dq:=λU M Q=>t U M λc M1=>if c=true then u U M1 Q else Q eo M1
def dOr(t u:dq):dq:=λU M Q=>t U M λc M1=>if c=true then Q true M1 else u U M1 Q
theorem AE(f:DT X B a tA):DW X B (.BoolOp .And [a] pos) tA:=AD f
theorem G0(f:DT X B a tA):DW X B (.BoolOp .Or [a] pos) tA:=F0 f
theorem FW(j:DT X B a tA)(g:DW X B (.BoolOp .And (b::rest) pos) tB'):DW X B (.BoolOp .And (a::b::rest) pos) (Ie tA tB'):=by
 refine um (EQ j g) ?_
 rintro Y H Q ⟨U,M,QQ,s,h,u⟩
 refine⟨U,M,_,s,h,λc M' q H' f i=>?_⟩;cases c with
 |true=>rw[if_pos rfl]at q ⊢;exact⟨U,M',QQ,s.go f i,q,u.go i⟩
 |false=>rw[if_neg Js]at q ⊢;exact u _ M' q H' f i
theorem Gq(j:DT X B a tA)(g:DW X B (.BoolOp .Or (b::rest) pos) tB'):DW X B (.BoolOp .Or (a::b::rest) pos) (dOr tA tB'):=by
 refine um (HB j g) ?_
 rintro Y H Q ⟨U,M,QQ,s,h,u⟩
 refine⟨U,M,_,s,h,λc M' q H' f i=>?_⟩;cases c with
 |false=>rw[if_neg Js]at q ⊢;exact⟨U,M',QQ,s.go f i,q,u.go i⟩
 |true=>rw[if_pos rfl]at q ⊢;exact u _ M' q H' f i
def Ds(ta:aV):aV:=λU M Q=>ta U M λx M1=>match x with
 |.bl c=>Q (.bl<|!c) M1
 |_=>False
theorem Ez(g:DE X B a ta):DE X B (.UnaryOp .Not a pos) (Ds ta):=by
 refine aJ (Fv g) ?_
 rintro Y H Q ⟨U,M,QQ,s,h,u⟩
 refine⟨U,M,_,s,h,λd M' q v H' f i r=>?_⟩;cases d with
 |bl c=>exact⟨c,r,u _ M' q _ H' f i rfl⟩
 |_=>exact(show False from q).elim
def kH(t:dq)(ta tb:aV):aV:=λU M Q=>t U M λc M1=>if c=true then ta U M1 Q else tb U M1 Q
theorem yF(l:DT X B c tA)(j:DE X B a ta)(g:DE X B b tb):DE X B (.IfExp c a b pos) (kH tA ta tb):=by
 refine aJ (zi l j g) ?_
 rintro Y H Q ⟨U,M,QQ,s,h,u⟩
 refine⟨U,M,_,s,h,λc M' q H' f i=>?_⟩;cases c with
 |true=>rw[if_pos rfl]at q ⊢;exact⟨U,M',QQ,s.go f i,q,u.go i⟩
 |false=>rw[if_neg Js]at q ⊢;exact⟨U,M',QQ,s.go f i,q,u.go i⟩
variable{es:RQ}{te:aV}{t:cB}
def af:cB:=λ_ M Q=>Q [] M
def aa(ta:aV)(tr:cB):cB:=λU M Q=>ta U M λx M1=>tr U M1 λf M2=>Q (x::f) M2
theorem FZ:DA X B [] af:=by
 refine uy zd ?_
 rintro Y H Q ⟨U,M,QQ,s,h,u⟩
 exact u [] M h [] H s.rh am .nil
theorem Cn(w:DE X B e te)(v:DA X B es t)(q:fe (e::es) X.env=(eo,g5 e X.env)::fe es X.env:=by rfl):DA X B (e::es) (aa te t):=by
 refine uy (uJ w v q) ?_
 rintro Y H Q ⟨U,M,QQ,s,h,u⟩
 refine⟨U,M,_,s,h,λx M1 n v1 H1 f i l=>?_⟩;refine⟨U,M1,_,s.go f i,n,λy M2 o v2 H2 g j m=>?_⟩;exact u _ M2 o _ H2 g (i.trans j) (.cons (l.mf f j) m)
def aN(t:cB):aV:=λU M Q=>t U M λf M1=>f.length<=sizeLine/\Q (.tup f) M1
def br(t:cB):aV:=λU M Q=>t U M λf M1=>f.length<=sizeLine/\∀p,M1 p=ee->Q (.ref p) (M1.upd p<|.lst f)
theorem Fu{x1}(h:DA X B es t):DE X B (.Tuple es x1 pos) (aN t):=by
 refine aJ (FQ h) ?_
 rintro Y H Q ⟨U,M,QQ,s,h,u⟩
 refine⟨U,M,_,s,h,λm M1 j v1 H1 g l i=>⟨by rw[<- i.length];exact j.1,λp f=>?_⟩⟩
 exact u _ M1 j.2 _ _ (g.new f) (l.trans<|Frm.new f) ⟨p,v1,rfl,upd_same,i.mono<|Imm.new f⟩
theorem Ef(h:DA X B es t):DE X B (.List es pos) (br t):=by
 refine aJ (G9 h) ?_
 rintro Y H Q ⟨U,M,QQ,s,h,u⟩
 refine⟨U,M,_,s,h,λxs M1 h1 v1 H1 rh1 i1 r1=>⟨by rw[<- r1.length];exact h1.1,λp hp=>?_⟩⟩
 exact u _ _ (h1.2 p<|rh1.fresh hp) _ _ (rh1.put (by rw[hp];trivial) ⟨v1,upd_same,r1.mono<|Imm.new hp⟩) (i1.trans<|Frm.put<|.inl hp) rfl
theorem Inv.freeze{g:RU}{Y:L2.St}{s:c8}{vs:List V}(I:Inv X g Y H s)(h:H p=al (.lst vs)):∃o,Inv X g Y (upd H p<|.frz o<|.lst vs) s:=by
 obtain⟨i,n,r,e,z⟩:=I.lst h;have ne:∀{b:eg}{u:Option HO},H b=u->u≠al (.lst vs)->b≠p:=λ{b u} q G z=>by subst z;rw[h]at q;exact G q.symm
 refine⟨{ cls:=.type "list",data:=.seq i.toArray n },I.ok,I.os,I.bare,⟨I.base.keep,I.base.slot,λb o q w v=>?_,I.base.there,λb l q=>?_,λb o u q=>?_,λb C q=>?_⟩,I.loc,I.cell,?_,λx c q=>?_,λE A=>?_,λb o q=>?_,I.len⟩
 .have f:=I.base.free b o q w v
  rw[az (ne f<|by simp)];exact f
 .have f:=I.base.tups b l q
  rw[az (ne f<|by simp)];exact f
 .have f:=I.base.frzs b o u q
  rw[az (ne f<|by simp)];exact f
 .obtain⟨more,f⟩:=I.base.tbls b C q
  exact⟨more,by rw[az (ne f<|by simp)];exact f⟩
 .rw[az (ne I.free<|by simp)];exact I.free
 .have f:=I.freeC x c q
  rw[az (ne f<|by simp)];exact f
 .obtain⟨F,m,J⟩:=I.pin E A
  exact⟨F,by rw[az (ne m<|by simp)];exact m,J⟩
 .by_cases j:b=p
  .subst j
   rw[upd_same]at q;cases q;refine⟨e,?_⟩;exact⟨z,i,n,r,e⟩
  .rw[az j]at q
   refine (I.hok b o q).stay (λ_ _ _ y=>y) (λc y=>?_) λc l y=>?_
   .rw[az (ne y<|by simp)];exact y
   .rw[az (ne y<|by simp)];exact y
def frz(d:D)(M:Mem)(Q:DK):Prop:=match d with
 |.ref a=>match M a with
  |some (.lst xs)=>Q (.lst xs) (M.del a)
  |_=>Q d M
 |_=>Q d M
def aw(t:aV):aV:=λU M Q=>t U M λd M'=>frz d M' Q
theorem RepH.freeze{vs:List V}{o:Obj}(r:RepH K H M)(h:H p=al (.lst vs)):RepH K (upd H p<|.frz o<|.lst vs) (M.del p):=λb u e=>by
 unfold Mem.del at e
 split at e
 .cases e
 .rename_i hb
  exact(r b u e).keep (Imm.upd<|by rw[h];trivial) (az hb)
theorem Fw(h:DE X B e te):DE X B e (aw te):=by
 intro g s Y H Q I y;obtain⟨U,M,QQ,n,m,u⟩:=y;refine aW (h g s Y H (λv H'=>∃d M',RepH X.K H' M'/\Frm M H M' H'/\Rp X.K H' d v/\frz d M' QQ) I ⟨U,M,_,n,m,λd M' q v H' f i r=>⟨d,M',f,i,r,q⟩⟩) ?_
 rintro w C ⟨v,H',I',j,d,M',f,i,r,q⟩
 unfold frz at q
 split at q
 .rename_i a
  split at q
  .rename_i A e
   obtain⟨x,l,z⟩:=f _ _ e;obtain⟨o,I2⟩:=Inv.freeze I' l;refine⟨v,_,I2,j,u _ _ q v _ (f.freeze l) (i.trans<|Frm.del ⟨_,e⟩) ?_⟩;exact⟨a,x,r,⟨o,upd_same⟩,z.mono<|Imm.upd<|by rw[l];trivial⟩
  .exact⟨v,H',I',j,u _ _ q v H' f i r⟩
 .exact⟨v,H',I',j,u _ _ q v H' f i r⟩
end
def cQ(M:Mem):D->Option (List D)
 |.lst xs=>al xs
 |.ref a=>match M a with
  |some (.lst xs)=>al xs
  |_=>ee
 |_=>ee
def aT(M:Mem):D->Option (List D)
 |.tup xs=>al xs
 |.lst xs=>al xs
 |.mt xs=>al xs
 |.ml xs=>al xs
 |.ref a=>match M a with
  |some (.lst xs)=>al xs
  |_=>ee
 |_=>ee
section
variable{d:D}{v:V}{xs:List D}
theorem cI(i:RepH K H M)(r:Rp K H d v)(e:cQ M d=al xs):∃p vs,v=.ref p/\Rd H p (.lst vs)/\Rps K H xs vs:=by
 cases d with
 |lst b=>
  cases e;obtain⟨p,vs,rfl,⟨o,h⟩,r⟩:=r;exact⟨p,vs,rfl,.inr ⟨o,h⟩,r⟩
 |ref a=>
  simp only[cQ]at e
  split at e
  .rename_i b q
   cases e;obtain⟨vs,f,g⟩:=i _ _ q;exact⟨a,vs,r,.inl f,g⟩
  .cases e
 |_=>cases e
theorem jz(i:RepH K H M)(r:Rp K H d v)(e:aT M d=al xs):∃p vs,v=.ref p/\(SqL K H p vs\/fg K H p vs)/\Rps K H xs vs:=by
 cases d with
 |tup b=>
  cases e;obtain⟨p,vs,rfl,h,r⟩:=r;exact⟨p,vs,rfl,.inr h.sq,r⟩
 |lst b=>
  cases e;obtain⟨p,vs,rfl,h,r⟩:=r;exact⟨p,vs,rfl,.inl h.sq,r⟩
 |mt b=>
  cases e;obtain⟨p,vs,rfl,h,r⟩:=r;exact⟨p,vs,rfl,.inr h.sq,r⟩
 |ml b=>
  cases e;obtain⟨p,vs,rfl,h,r⟩:=r;exact⟨p,vs,rfl,.inl h.sq,r⟩
 |ref a=>
  simp only[aT]at e
  split at e
  .rename_i b q
   cases e;obtain⟨vs,f,g⟩:=i _ _ q;exact⟨a,vs,r,.inl (SqL.of f),g⟩
  .cases e
 |_=>cases e
theorem Az:bZ X (ot .Add) (λx y H Q=>∃l b xs zs,x=.ref l/\y=.ref b/\Rd H l (.lst xs)/\Rd H b (.lst zs)/\xs.length+zs.length<=sizeLine/\∀p,H p=ee->Q (.ref p) (upd H p<|.lst (xs++zs))):=by
 intro g s Y H x y v u Q I t j h;obtain⟨l,b,xs,zs,rfl,rfl,A,C,G,q⟩:=h;cases t;cases j;obtain⟨z,f,n,r,e⟩:=A.ok I.hok;obtain⟨E,a,J,i,m⟩:=C.ok I.hok;have F:=r.length;have o:=i.length;refine PySem.P.add_list e m ?_ (by rw[Jc,Jc];lia)
 have w:f.toArray++a.toArray=(f++a).toArray:=by simp
 rw[w];exact⟨.ref _,_,I.lnew (t':=s.toks) (r.append i) (by rw[Jr];lia),rfl,q _ I.fresh⟩
def bz:eI:=λx y M Q=>match x,y with
 |.int i,.int j=>Q (.int (i+j)) M
 |.str a,.str b=>a.length+b.length<=sizeLine/\Q (.str (a++b)) M
 |.tup xs,.tup ys=>xs.length+ys.length<=sizeLine/\Q (.tup (xs++ys)) M
 |x,y=>match cQ M x,cQ M y with
  |some xs,al ys=>xs.length+ys.length<=sizeLine/\∀p,M p=ee->Q (.ref p) (M.upd p<|.lst (xs++ys))
  |_,_=>False
theorem Co:bZ X (ot .Add) (liftR2 X bz):=by
 intro RE s Y H x y v u Q I rx ry h;obtain⟨d1,d2,M,QQ,rh,r1,r2,h,up⟩:=h;unfold bz at h
 split at h
 .cases r1;cases r2
  exact G4 RE s Y H _ _ v u Q I rx ry ⟨_,_,rfl,rfl,up _ M h _ H rh am rfl⟩
 .cases r1;cases r2
  exact qp RE s Y H _ _ v u Q I rx ry ⟨_,_,rfl,rfl,h.1,up _ M h.2 _ H rh am rfl⟩
 .obtain⟨p,vs,rfl,t1,r1⟩:=r1
  obtain⟨p',vs',rfl,t2,r2⟩:=r2;have l1:=r1.length;have l2:=r2.length;have r12:=r1.append r2
  by_cases hx:vs=[]
  .subst hx
   have hu:=up _ M h.2 (.ref p') H rh am ⟨p',vs',rfl,t2,r12⟩;exact w_ RE s Y H _ _ v u Q I rx ry ⟨p,p',vs',rfl,rfl,t1.sq,t2.sq,hu⟩
  .refine AW RE s Y H _ _ v u Q I rx ry ⟨p,p',vs,vs',rfl,rfl,t1.sq,t2.sq,hx,by lia,λe=>?_,λ_ q hq=>?_⟩
   .subst e
    rw[JR]at r12;exact up _ M h.2 (.ref p) H rh am ⟨p,vs,rfl,t1,r12⟩
   .exact up _ M h.2 _ _ (rh.new hq) (Frm.new hq) ⟨q,_,rfl,upd_same,r12.mono<|Imm.new hq⟩
 .split at h
  .rename_i xs ys e1 e2
   obtain⟨p,vs,rfl,t1,r1⟩:=cI rh r1 e1;obtain⟨p',vs',rfl,t2,r2⟩:=cI rh r2 e2;have l1:=r1.length;have l2:=r2.length;refine Az RE s Y H _ _ v u Q I rx ry ⟨p,p',vs,vs',rfl,rfl,t1,t2,by lia,λq hq=>?_⟩
   exact up _ _ (h.2 q<|rh.fresh hq) _ _ (rh.put (by rw[hq];trivial) ⟨_,upd_same,(r1.append r2).mono<|Imm.new hq⟩) (Frm.put<|.inl hq) rfl
  .exact h.elim
def oI(C:Int->Int->Prop)(g:Int->Int->D):eI:=λx y M Q=>match x,y with
 |.int i,.int j=>C i j/\Q (g i j) M
 |_,_=>False
theorem DF{f:c0->c0->Sem c0}{C:Int->Int->Prop}{g:Int->Int->V}{g':Int->Int->D}(h:bZ X f (rI C g))(e:∀i j K H,Rp K H (g' i j) (g i j)):bZ X f (liftR2 X<|oI C g'):=by
 intro b s Y H x y v u Q I q m a;obtain⟨w,z,M,QQ,t,l,o,a,n⟩:=a;unfold oI at a
 split at a
 .cases l;cases o
  exact h b s Y H _ _ v u Q I q m ⟨_,_,rfl,rfl,a.1,n _ M a.2 _ H t am<|e _ _ _ _⟩
 .exact a.elim
def oP(g:Int->Int->D):eI:=λx y M Q=>match x,y with
 |.int i,.int j=>Q (g i j) M
 |_,_=>False
theorem oS{f:c0->c0->Sem c0}{g:Int->Int->V}{g':Int->Int->D}(h:bZ X f (C6 g))(e:∀i j K H,Rp K H (g' i j) (g i j)):bZ X f (liftR2 X<|oP g'):=by
 intro b s Y H x y v u Q I q m a;obtain⟨w,z,M,QQ,t,l,o,a,n⟩:=a;unfold oP at a
 split at a
 .cases l;cases o
  exact h b s Y H _ _ v u Q I q m ⟨_,_,rfl,rfl,n _ M a _ H t am<|e _ _ _ _⟩
 .exact a.elim
abbrev nE:eI:=oP λi j=>.int (i-j)
theorem AL:bZ X (ot .Sub) (liftR2 X nE):=oS Eh λ_ _ _ _=>rfl
abbrev i8:eI:=oI (λ_ j=>0<j) λi j=>.int (i % j)
theorem C8:bZ X (ot .Mod) (liftR2 X i8):=DF Fk λ_ _ _ _=>rfl
def y9(_ j:Int):Prop:=0<j/\j<2 ^ 200
theorem wE:bZ X (ot .FloorDiv) (rI y9 λi j=>.int (i / j)):=by
 intro a s Y H x y v u Q I m l h;obtain⟨i,j,rfl,rfl,g,q⟩:=h;obtain⟨t,o⟩:=g;have f:((j.toNat:Nat):Int)=j:=by lia
 refine yO (n:=j.toNat) ?_ (by lia) a s Y H _ _ v u Q I m l ⟨i,j,rfl,rfl,f.symm,q⟩
 have b:j.toNat<2 ^ 200:=by
  have:((j.toNat:Nat):Int)<((2 ^ 200:Nat):Int):=by rw[f,Int.natCast_pow];exact o
  exact Int.ofNat_lt.mp this
 have:=(Nat.log2_lt (n:=j.toNat) (k:=200)<|by lia).mpr b
 lia
abbrev jI:eI:=oI y9 λi j=>.int (i / j)
theorem wA:bZ X (ot .FloorDiv) (liftR2 X jI):=DF wE λ_ _ _ _=>rfl
abbrev IS:eI:=oI Hq λi j=>.int (i ^ j.toNat)
theorem As:bZ X (ot .Pow) (liftR2 X IS):=DF Fn λ_ _ _ _=>rfl
abbrev HJ:eI:=oP λi j=>.bl (decide (i<j))
theorem yQ:bZ X (md .Lt) (liftR2 X HJ):=oS HD λ_ _ _ _=>rfl
abbrev Gh:eI:=oP λi j=>.bl (decide (i<=j))
theorem F5:bZ X (md .LtE) (liftR2 X Gh):=oS Gw λ_ _ _ _=>rfl
abbrev Cw:eI:=oP λi j=>.bl (decide (j<i))
theorem F7:bZ X (md .Gt) (liftR2 X Cw):=oS GJ λ_ _ _ _=>rfl
abbrev oGe:eI:=oP λi j=>.bl (decide (j<=i))
theorem Ga:bZ X (md .GtE) (liftR2 X oGe):=oS He λ_ _ _ _=>rfl
theorem zo{c:Nat}:∀(k:Nat)(a:Array Nat),(Jm k #[c]).foldl (·++·) a=a++Md k c
 |0,a=>by simp
 |k+1,a=>by
  rw[JJ,JK,zo k (a++#[c])];apply Array.ext';simp[JJ]
theorem wR:bZ X (ot .Mult) (λx y H Q=>∃c k,x=.str ⟨#[c]⟩/\y=.int k/\1<=k/\k<=1000/\Q (.str ⟨Md k.toNat c⟩) H):=by
 intro f s Y H x y v u Q I m l h;obtain⟨c,k,rfl,rfl,o,w,q⟩:=h;obtain⟨t,rfl⟩:=m;obtain⟨n,rfl⟩:=l;have a:(⟨#[c]⟩:Str).length=1:=rfl;have j:sizeLine=16777216:=rfl;refine PySem.P.mul_str ?_ ?_ ?_ ?_
 .rw[decide_eq_false (by lia),decide_eq_false (by lia)];rfl
 .intro _ _ i
  rw[a]at i;have:(1:Int)<=(2 ^ 63-1) / k:=Int.le_ediv_of_mul_le (by lia) (by lia)
  lia
 .intro _ _
  rw[a];unfold PySem.Builtin.Str.tooLong;exact decide_eq_false (by lia)
 .rw[if_neg (by lia)]
  by_cases b:k=1
  .rw[if_pos (by rw[b];rfl)]
   subst b;exact⟨.str ⟨#[c]⟩,H,I,⟨_,rfl⟩,q⟩
  .rw[if_neg (by simp[a,b])]
   have g:(Jm k.toNat #[c]).foldl (·++·) #[]=Md k.toNat c:=by rw[zo];simp
   refine⟨?_,.str ⟨(Jm k.toNat #[c]).foldl (·++·) #[]⟩,H,I.tok _,⟨_,rfl⟩,by rw[g];exact q⟩
   show ((Jm k.toNat #[c]).foldl (·++·) #[]).size<=sizeLine;rw[g];simp;lia
def cL:eI:=λx y M Q=>match x,y with
 |.int i,.int j=>CMul i j/\Q (.int (i*j)) M
 |.str z,.int k=>match z.cps.toList with
  |[c]=>1<=k/\k<=1000/\Q (.str ⟨Md k.toNat c⟩) M
  |_=>False
 |.tup xs,.int k=>xs≠[]/\0<=k/\k<=1000/\xs.length<=1000/\Q (.tup (Jm k.toNat xs).flatten) M
 |_,_=>False
theorem Rps.rep{ds:List D}{vs:List V}(h:Rps K H ds vs):∀k:Nat,Rps K H (Jm k ds).flatten (Jm k vs).flatten
 |0=>rfl
 |k+1=>by
  rw[JJ,JJ,J9,J9];exact h.append (Rps.rep h k)
theorem B_:bZ X (ot .Mult) (liftR2 X cL):=by
 intro a s Y H x y v u Q I A E h;obtain⟨T,C,M,QQ,n,f,F,h,m⟩:=h;cases T with
 |int i=>
  cases C with
  |int j=>
   cases f;cases F;exact Ff a s Y H _ _ v u Q I A E ⟨_,_,rfl,rfl,h.1,m _ M h.2 _ H n am rfl⟩
  |_=>exact(show False from h).elim
 |str z=>
  cases C with
  |int k=>
   cases f;cases F;simp only[cL]at h
   split at h
   .rename_i c e
    have R:z=⟨#[c]⟩:=by
     obtain⟨⟨l⟩⟩:=z;have O:l=[c]:=e;rw[O]
    subst R;exact wR a s Y H _ _ v u Q I A E ⟨_,_,rfl,rfl,h.1,h.2.1,m _ M h.2.2 _ H n am rfl⟩
   .exact h.elim
  |_=>exact(show False from h).elim
 |tup xs=>
  cases C with
  |int k=>
   obtain⟨p,g,rfl,L,f⟩:=f;cases F;obtain⟨G,P,W,h4,J⟩:=h;have l1:=f.length;obtain⟨t,rfl⟩:=E;cases A;obtain⟨q,r,S,_⟩:=I.tuple L.sq;have hl:=r.length;refine vA S (λz=>G ?_) P W (by lia) (λe=>?_) λe=>?_
   .have N:q.length=0:=congrArg LP z
    exact List.eq_nil_of_length_eq_zero (by lia)
   .subst e
    refine⟨.ref p,H,I,rfl,m _ M J _ H n am ⟨p,g,rfl,L,?_⟩⟩;simpa using f
   .have w:H s.heap.objs.size=none:=I.hok.fresh (Jg _)
    have N:(Jm k.toNat g).flatten.length<=sizeLine:=by
     rw[tY];have G:k.toNat*g.length<=1000*1000:=Nat.mul_le_mul (by lia) (by lia)
     exact JC G (by decide)
    have Z:Imm H (upd H s.heap.objs.size<|.tup (Jm k.toNat g).flatten):=Imm.new w;exact⟨.ref s.heap.objs.size,_,I.laid (t':=s.toks) (o:=.tup (Jm k.toNat g).flatten) (λb ob z=>Jb _ z) (Jg _) ⟨N,_,r.rep k.toNat,⟨_,Jk _ rfl,⟨rfl,_,rfl⟩,rfl⟩⟩,rfl,
     m _ M J _ _ (n.new w) (Frm.new w) ⟨_,_,rfl,upd_same,(f.rep _).mono Z⟩⟩
  |_=>exact(show False from h).elim
 |_=>exact(show False from h).elim
def jY:D->Bool
 |.non=>true
 |_=>eo
def kJ:eI:=λx y M Q=>match y with
 |.non=>Q (.bl<|jY x) M
 |_=>False
def eQ:eI:=λx y M Q=>match y with
 |.non=>Q (.bl<|!jY x) M
 |_=>False
theorem xV(r:Rp K H d v):decide (v=V.non)=jY d:=by
 cases d with
 |non=>cases r;rfl
 |tup xs=>obtain⟨p,a,rfl,_⟩:=r;rfl
 |lst xs=>obtain⟨p,a,rfl,_⟩:=r;rfl
 |mt xs=>obtain⟨p,a,rfl,_⟩:=r;rfl
 |ml xs=>obtain⟨p,a,rfl,_⟩:=r;rfl
 |_=>cases r;rfl
theorem At:bZ X (md .Is) (liftR2 X kJ):=by
 intro a s Y H x y v u Q I j f h;obtain⟨m,n,M,QQ,l,b,i,h,g⟩:=h;unfold kJ at h
 split at h
 .cases i
  exact DL a s Y H _ _ v u Q I j f ⟨rfl,by rw[xV b];exact g _ M h _ H l am rfl⟩
 .exact h.elim
theorem yi:bZ X (md .IsNot) (liftR2 X eQ):=by
 intro a s Y H x y v u Q I j f h;obtain⟨m,n,M,QQ,l,b,i,h,g⟩:=h;unfold eQ at h
 split at h
 .cases i
  refine C5 a s Y H _ _ v u Q I j f ⟨rfl,g _ M h _ H l am ?_⟩;show _=V.bl _;rw[xV b]
 .exact h.elim
end
section
variable{κ:Type}[DecidableEq κ]
def bH(RG:List (κ×D))(k:κ):Option D:=(RG.find? λa=>decide (a.1=k)).map (·.2)
def bX(RG:List (κ×D))(k:κ)(v:D):List (κ×D):=
 if (RG.any λa=>decide (a.1=k))=true then RG.map (λa=>if a.1=k then (a.1,v) else a) else RG++[(k,v)]
def li(RG:List (κ×D))(k:κ):List (κ×D):=RG.filter λa=>decide (a.1≠k)
theorem Rkv.val{a:List (κ×D)}{f:List (κ×V)}(h:Rkv K H a f)(k:κ):(bH a k=ee/\cD f k=ee)\/∃d v,bH a k=al d/\cD f k=al v/\Rp K H d v:=by
 induction h with
 |nil=>exact .inl ⟨rfl,rfl⟩
 |@cons p q ps qs r t ih=>
  obtain⟨g,d⟩:=p;obtain⟨i,v⟩:=q;obtain⟨e,r⟩:=r;dsimp only at e r;subst e
  by_cases b:g=k
  .exact .inr ⟨d,v,by simp[bH,b],by simp[cD,b],r⟩
  .simpa [bH,cD,b] using ih
theorem Rkv.any{a:List (κ×D)}{b:List (κ×V)}(h:Rkv K H a b)(k:κ):(a.any λkv=>decide (kv.1=k))=(b.any λkv=>decide (kv.1=k)):=by
 induction h with
 |nil=>rfl
 |cons r t ih=>rw[Kn,Kn,ih,r.1]
theorem Rkv.put{a:List (κ×D)}{g:List (κ×V)}(h:Rkv K H a g)(k:κ){d:D}{v:V}(r:Rp K H d v):Rkv K H (bX a k d) (bE g k v):=by
 unfold bX bE;rw[h.any k]
 split
 .rename_i q;clear q
  induction h with
  |nil=>exact .nil
  |@cons p q ps qs rr t ih=>
   obtain⟨i,m⟩:=p;obtain⟨j,l⟩:=q;obtain⟨e,f⟩:=rr;dsimp only at e f;subst e;rw[Jf,Jf];refine .cons ?_ ih
   by_cases b:i=k
   .rw[if_pos b,if_pos b];exact⟨rfl,r⟩
   .rw[if_neg b,if_neg b];exact⟨rfl,f⟩
 .rename_i q;clear q
  induction h with
  |nil=>exact .cons ⟨rfl,r⟩ .nil
  |cons rr t ih=>exact .cons rr ih
theorem Rkv.drop{a:List (κ×D)}{g:List (κ×V)}(h:Rkv K H a g)(k:κ):Rkv K H (li a k) (eS g k):=by
 unfold li eS
 induction h with
 |nil=>exact .nil
 |@cons p q ps qs rr t ih=>
  obtain⟨i,m⟩:=p;obtain⟨j,l⟩:=q;obtain⟨e,b⟩:=rr;dsimp only at e b;subst e
  by_cases f:i=k
  .simpa [f] using ih
  .simp only[MY,ne_eq,f,not_false_eq_true,decide_true,if_true]
   exact .cons ⟨rfl,b⟩ ih
theorem Rkv.length{a:List (κ×D)}{b:List (κ×V)}(h:Rkv K H a b):a.length=b.length:=Ke h
end
def bA:D->Option ax
 |.int i=>al (.inl i)
 |.str x=>al (.inr x)
 |_=>ee
def eZ:List D->Option (List ax)
 |[]=>al []
 |d::ds=>match bA d,eZ ds with
  |some k,al ks=>al (k::ks)
  |_,_=>ee
def Ew:D->Option (List ax)
 |.tup xs=>eZ xs
 |_=>ee
section
theorem eF{d:D}{v:V}{k:ax}(r:Rp K H d v)(e:bA d=al k):v=kV k:=by
 cases d with
 |int i=>cases e;exact r
 |str x=>cases e;exact r
 |_=>cases e
theorem kd:∀{ds:List D}{vs:List V}{ks:List ax},Rps K H ds vs->eZ ds=al ks->vs=ks.map kV
 |[],vs,ks,r,e=>by cases e;exact r
 |d::ds,vs,ks,r,e=>by
  obtain⟨v,i,rfl,a,b⟩:=r;simp only[eZ]at e
  split at e
  .rename_i k g f h
   cases e;rw[eF a f,kd b h];rfl
  .cases e
def mh(M:Mem)(a:eg)(y:D):Option (Option D):=match M a with
 |some (.dK RG)=>match bA y with
  |some k=>al (bH RG k)
  |none=>ee
 |some (.dT RG)=>match Ew y with
  |some k=>al (bH RG k)
  |none=>ee
 |_=>ee
theorem oY{d:D}{v:V}{ks:List ax}(r:Rp K H d v)(e:Ew d=al ks):∃b,v=.ref b/\H b=al (.tup<|ks.map kV):=by
 cases d with
 |tup xs=>
  obtain⟨p,a,rfl,t,r⟩:=r;exact⟨p,rfl,by rw[<- kd r e];exact t⟩
 |_=>cases e
theorem m9{a:eg}{y:D}{v:V}{o:Option D}(q:RepH K H M)(r:Rp K H y v)(e:mh M a y=al o):
  (o=ee/\DGet H a v ee)\/∃d w,o=al d/\DGet H a v (al w)/\Rp K H d w:=by
 unfold mh at e
 split at e
 .rename_i m i
  obtain⟨s,h,l⟩:=q _ _ i
  split at e
  .rename_i k j
   cases e;have t:=eF r j;subst t;rcases l.val k with⟨f,g⟩|⟨d,w,f,g,r'⟩
   .exact .inl ⟨f,by rw[<- g];exact DGet.k h⟩
   .exact .inr ⟨d,w,f,by rw[<- g];exact DGet.k h,r'⟩
  .cases e
 .rename_i m i
  obtain⟨s,h,l⟩:=q _ _ i
  split at e
  .rename_i k j
   cases e;obtain⟨b,rfl,n⟩:=oY r j;rcases l.val k with⟨f,g⟩|⟨d,w,f,g,r'⟩
   .exact .inl ⟨f,by rw[<- g];exact zX h n⟩
   .exact .inr ⟨d,w,f,by rw[<- g];exact zX h n,r'⟩
  .cases e
 .cases e
end
end L3
namespace HT
open PySem PyProof.Rows
section
variable {prog:fy}{w:h7}{A:j0}{E:RT}{s:c8}
theorem eK{t l:eg}{a:RW}{n p:c0}{b f:Option Int}{Q:RT}(e:QR s.heap t a)(q:s.heap.IsSliceOf l n p .none)(pl:QA n b)(v:QA p f)
  (o:sIx a.size 0 b=0/\sIx a.size a.size f=a.size) (h:Q (.ref t) s):eH (fm prog w) A (Qq (.ref t)<|.ref l) Q E s:=by
 obtain⟨r,i,g,u⟩:=id q;have j:s.TypeIs (.ref l) "slice":=⟨r,i,g⟩;unfold Qq
 try with_reducible refine pw ?_
 first|refine cv (eC ?_)|skip
 refine cv (wpAny_sequenceKey e.typeIs (by decide) ?_)
 refine cv (wpAny_callSpecial?_slot (name:=JH "__getitem__") e.typeIs JS
  (kl JS e.typeIs entry_tuple_getitem ?_<|args_tuple_getitem _ _))
 show eH _ _ (MA (.ref t) >>= _) _ _ s;refine cv (tupleItemsOf_ e ?_);refine cv (PP j ?_);rw[if_pos (by decide)]
 refine cv (cV q pl v ?_);have c:((((sIx a.size 0 b:Nat):Int)==0&&(1:Int)==1&&(sIx a.size a.size f-sIx a.size 0 b)==a.size)=true):=by
  rw[o.1,o.2];simp
 show eH _ _ (if (((sIx a.size 0 b:Nat):Int)==0&&(1:Int)==1&&(sIx a.size a.size f-sIx a.size 0 b)==a.size)=true then _ else _) _ _ s
 rw[if_pos c];refine cv (m:=Builtin.Tuple.tupleIsExact _) (cv<|wpAny_typeOf e.typeIs<|wpAny_pure ?_);rw[if_pos (by decide)]
 first
  |exact cv (On<|wpAny_bind<|wpAny_pure<|wpAny_pure ⟨_,rfl,eC h⟩)
  |exact cv (On<|wpAny_pure ⟨_,rfl,eC h⟩)
  |exact cv (On<|wpAny_bind<|wpAny_pure ⟨_,rfl,eC h⟩)
  |trace_state
end
end HT
namespace L3
open PySem L2
variable{p p':eg}{A:j0}{a b:RW}{B:Bd}{X:Cx}{c e tg:fx}{H:Hp}{K:Jd}{Y:L2.St}{es:RQ}{RK its':RO}{M:Mem}{i n:Nat}{pos pos':Pos}{s:c8}{x:Str}{u:c0}{te:aV}{tb:ar}{g:ic}{r:qa}
section
variable{a b:fx}{ta tb tc:aV}
def aB:eI:=λx y M Q=>match aT M x,y with
 |some xs,.int i=>match atI xs i with
  |some d=>Q d M
  |none=>False
 |some _,_=>False
 |none,y=>match x,y with
  |.str z,.int i=>z.length<=sizeLine/\match atI z.cps.toList i with
   |some c=>Q (.str ⟨#[c]⟩) M
   |none=>False
  |.ref a,y=>match mh M a y with
   |some (al d)=>Q d M
   |_=>False
  |_,_=>False
theorem Rps.atI{ds:List D}{vs:List V}{i:Int}{d:D}(r:Rps K H ds vs)(e:atI ds i=al d):∃v,L2.atI vs i=al v/\Rp K H d v:=by
 unfold L2.atI at e ⊢;rw[<- r.length];cases q:qQ ds.length i with
 |none=>rw[q]at e;cases e
 |some j=>
  rw[q]at e;exact r.get (i:=j) e
theorem Bf(C:X.A.units+1<rz):IxR X (λx y H Q=>∃a v,x=.ref a/\DGet H a y (al v)/\Q v H):=by
 intro l f m s Y H x y v u Q I t o h z;obtain⟨a,w,rfl,g,q⟩:=h;cases t;exact PyProof.Rows.tail_any (pI I g) PySem.F.slot_dict_getitem.lookup (lJ C I g o λG E I3 j=>⟨w,H,I3,j,q⟩) z
theorem E1(T:X.A.units+1<rz):IxR X (liftR2 X aB):=by
 intro j f l s Y H x y v u Q I E G h L;obtain⟨U,W,M,QQ,q,t,J,h,C⟩:=h;unfold aB at h
 split at h
 .rename_i Z i e
  split at h
  .rename_i d F
   cases J;obtain⟨p,O,rfl,hq,r⟩:=jz q t e;obtain⟨w,N,m⟩:=r.atI F;refine Fq j f l s Y H _ _ v u Q I E G ?_ L;have o:=C _ M h _ H q am m;rcases hq with hq|hq
   .exact .inl ⟨p,O,i,w,rfl,rfl,hq,N,o⟩
   .exact .inr (.inl ⟨p,O,i,w,rfl,rfl,hq,N,o⟩)
  .exact h.elim
 .exact h.elim
 .split at h
  .obtain⟨S,h⟩:=h
   split at h
   .rename_i R P
    cases t;cases J;exact yy j f l s Y H _ _ v u Q I E G ⟨_,_,R,rfl,rfl,S,P,C _ M h _ H q am rfl⟩ L
   .exact h.elim
  .split at h
   .rename_i d F
    cases t;rcases m9 q J F with⟨z,_⟩|⟨d',w,z,g,m⟩
    .cases z
    .cases z
     exact Bf T j f l s Y H _ _ v u Q I E G ⟨_,w,rfl,g,C _ M h _ H q am m⟩ L
   .exact h.elim
  .exact h.elim
abbrev Dt:=Dl->Mem->(Option Int->Mem->Prop)->Prop
inductive liftO(X:Cx)(B:Bd)(T:Dt)(Y:St)(H:Hp)(Q:Option Int->Hp->Prop):Prop
 |mk (U:Dl) (M:Mem) (QQ:Option Int->Mem->Prop) (s:SR X B U M Y H) (h:T U M QQ) (u:∀o M',QQ o M'->∀H',RepH X.K H' M'->Frm M H M' H'->Q o H'):liftO X B T Y H Q
def DO(X:Cx)(B:Bd)(e:Option fx)(T:Dt):Prop:=PO X e (liftO X B T)
theorem sH{e:Option fx}{t t':TO}(h:PO X e t)(w:∀Y H Q,t' Y H Q->t Y H Q):PO X e t':=λf s Y H Q I q=>h f s Y H Q I (w Y H Q q)
def jl:Dt:=λ_ M Q=>Q ee M
def lC(t:aV):Dt:=λU M Q=>t U M λx M1=>match x with
 |.int i=>Q (al i) M1
 |_=>False
theorem B5:DO X B ee jl:=sH BX λY H Q ⟨U,M,QQ,s,h,u⟩=>u ee M h H s.rh am
theorem Bm(h:DE X B e te):DO X B (al e) (lC te):=by
 refine sH (AR h) ?_
 rintro Y H Q ⟨U,M,QQ,s,h,u⟩
 refine⟨U,M,_,s,h,λd M' q v H' f i r=>?_⟩;cases d with
 |int j=>exact⟨j,r,u _ M' q H' f i⟩
 |_=>exact(show False from q).elim
def mC(xs:List D)(lo hi:Option Int):List D:=(xs.drop<|HT.sIx xs.length 0 lo).take (HT.sIx xs.length xs.length hi-HT.sIx xs.length 0 lo)
theorem Rps.cut{ds:List D}{vs:List V}(r:Rps K H ds vs)(f h:Option Int):Rps K H (mC ds f h) (ii vs f h):=by
 unfold mC ii;rw[<- r.length];exact(r.drop _).take _
def oSl(x:D)(lo hi:Option Int)(M:Mem)(Q:DK):Prop:=match x with
 |.tup xs=>Q (.tup<|mC xs lo hi) M
 |.ml xs=>∀p,M p=ee->Q (.ref p) (M.upd p<|.lst<|mC xs lo hi)
 |x=>match cQ M x with
  |some xs=>∀p,M p=ee->Q (.ref p) (M.upd p<|.lst<|mC xs lo hi)
  |none=>False
inductive liftSl(X:Cx)(x:V)(lo hi:Option Int)(H:Hp)(Q:VK):Prop
 |mk (d:D) (M:Mem) (QQ:DK) (rh:RepH X.K H M) (r:Rp X.K H d x) (h:oSl d lo hi M QQ) (u:Up X.K M H QQ Q):liftSl X x lo hi H Q
theorem rb{vs:List V}{f j:Option Int}(h:HT.sIx vs.length 0 f=0/\HT.sIx vs.length vs.length j=vs.length):ii vs f j=vs:=by
 unfold ii;rw[h.1,h.2];simp
theorem AQ:Hl X (λx lo hi H Q=>∃a xs,x=.ref a/\fg X.K H a xs/\(ii xs lo hi=xs->Q (.ref a) H)/\∀p,H p=ee->Q (.ref p) (upd H p<|.tup<|ii xs lo hi)):=by
 intro f s Y H x v C F lo hi E Q I t y pl o h;obtain⟨a,xs,rfl,m,z,q⟩:=h
 by_cases l:HT.sIx xs.length 0 lo=0/\HT.sIx xs.length xs.length hi=xs.length
 .cases t
  obtain⟨RK,r,w,G⟩:=I.tuple m;have j:RK.toArray.size=xs.length:=by rw[Jc];exact r.length.symm
  refine⟨"tuple",_,JS.lookup,w.typeIs,?_⟩;exact HT.eK w y pl o (by rw[j];exact l) ⟨.ref a,H,I,rfl,z<|rb l⟩
 .exact Fz f s Y H _ v C F lo hi E Q I t y pl o ⟨a,xs,rfl,m,l,q⟩
end
section
variable{lo hi:Option fx}{tl th:Dt}{p2 p:Pos}{t:cB}
theorem F3:Hl X (liftSl X):=by
 intro RE s Y H x v vl vu lo hi sl Q I rx hs pl pu h;obtain⟨d,M,QQ,rh,r,h,up⟩:=h;unfold oSl at h
 split at h
 .obtain⟨a,vs,rfl,ht,r⟩:=r
  refine AQ RE s Y H _ v vl vu lo hi sl Q I rx hs pl pu ⟨a,vs,rfl,ht.sq,λe=>?_,λp hp=>?_⟩
  .exact up _ M h _ H rh am ⟨a,vs,rfl,ht,by rw[<- e];exact r.cut lo hi⟩
  .exact up _ M h _ _ (rh.new hp) (Frm.new hp) ⟨p,_,rfl,upd_same,(r.cut lo hi).mono<|Imm.new hp⟩
 .obtain⟨a,vs,rfl,hq,r⟩:=r
  refine uM RE s Y H _ v vl vu lo hi sl Q I rx hs pl pu ⟨a,vs,rfl,hq.sq,λp hp=>?_⟩;exact up _ _ (h p<|rh.fresh hp) _ _ (rh.put (by rw[hp];trivial) ⟨_,upd_same,(r.cut lo hi).mono<|Imm.new hp⟩) (Frm.put<|.inl hp) rfl
 .split at h
  .rename_i xs e
   obtain⟨a,vs,rfl,hq,r⟩:=cI rh r e;refine uM RE s Y H _ v vl vu lo hi sl Q I rx hs pl pu ⟨a,vs,rfl,.inl hq,λp hp=>?_⟩;exact up _ _ (h p<|rh.fresh hp) _ _ (rh.put (by rw[hp];trivial) ⟨_,upd_same,(r.cut lo hi).mono<|Imm.new hp⟩) (Frm.put<|.inl hp) rfl
  .exact h.elim
def HS(te:aV)(tl th:Dt):aV:=λU M Q=>te U M λx M1=>tl U M1 λl M2=>th U M2 λu M3=>oSl x l u M3 Q
theorem wX(F:DE X B e te)(I:DO X B lo tl)(G:DO X B hi th):DE X B (.Subscript e (.Slice lo hi ee p2) pos) (HS te tl th):=by
 refine aJ (xB F3 F I G) ?_
 rintro Y H Q ⟨U,M,QQ,s,h,u⟩
 refine⟨U,M,_,s,h,λx M1 z v1 H1 f m y=>?_⟩;refine⟨U,M1,_,s.go f m,z,λl M2 C H2 q o=>?_⟩;refine⟨U,M2,_,s.go q (m.trans o),C,λw M3 E H3 j v=>?_⟩;exact⟨x,M3,QQ,j,y.mf f (o.trans v),E,u.go<|(m.trans o).trans v⟩
abbrev qa:=List D->Mem->DK->Prop
inductive liftC(X:Cx)(r:qa)(xs:List V)(H:Hp)(Q:VK):Prop
 |mk (ds:List D) (M:Mem) (QQ:DK) (rh:RepH X.K H M) (rp:Rps X.K H ds xs) (h:r ds M QQ) (u:Up X.K M H QQ Q):liftC X r xs H Q
def ce(r:qa)(t:cB):aV:=λU M Q=>t U M λf M1=>r f M1 Q
theorem uz{Q:VK}(h:liftE X B (ce r t) Y H Q):tCB (liftC X r) (liftA X B t) Y H Q:=by
 obtain⟨U,M,QQ,s,h,u⟩:=h;refine⟨U,M,_,s,h,λo M1 l q H1 f j m=>?_⟩;exact⟨o,M1,QQ,f,m,l,u.go j⟩
theorem xT{id:String}(q:bp X (.builtin id) (liftC X r))(f:Gl X x)(l:X.mg x=ee)(m:g4 x=al (.builtin id))(o:DA X B (e::es) t)(j:x≠"__name__":=by decide)(hdb:(x==("__debug__":Str))=false:=by decide)(he:fe (e::es) X.env=(eo,g5 e X.env)::fe es X.env:=by rfl)(hpl:(ik pos<|starEach es X.env).any (·.1)=false:=by rfl):DE X B (.Call (.Name x p) (e::es) [] pos) (ce r t):=
 aJ (pL q f l m o j hdb he hpl) λ_ _ _ h=>uz h
theorem wt{T:String}(q:bp X (.type T) (liftC X r))(f:Gl X x)(l:X.mg x=ee)(m:g4 x=al (.type T))(o:DA X B (e::es) t)(j:x≠"__name__":=by decide)(hdb:(x==("__debug__":Str))=false:=by decide)(he:fe (e::es) X.env=(eo,g5 e X.env)::fe es X.env:=by rfl)(hpl:(ik pos<|starEach es X.env).any (·.1)=false:=by rfl):DE X B (.Call (.Name x p) (e::es) [] pos) (ce r t):=
 aJ (vo q f l m o j hdb he hpl) λ_ _ _ h=>uz h
theorem dg{ds:List D}{vs:List V}{d:D}(r:Rps K H [d] vs):∃v,vs=[v]/\Rp K H d v:=by
 obtain⟨v,w,rfl,a,b⟩:=r;cases b;exact⟨v,rfl,a⟩
theorem wo{vs:List V}{d e:D}(r:Rps K H [d,e] vs):∃v w,vs=[v,w]/\Rp K H d v/\Rp K H e w:=by
 obtain⟨v,w,rfl,a,b⟩:=r;obtain⟨f,j,rfl,h,b⟩:=b;cases b;exact⟨v,f,rfl,a,h⟩
def oB:qa:=λf M Q=>match f with
 |[d]=>match aT M d with
  |some xs=>Q (.int xs.length) M
  |none=>match d with
   |.str z=>z.length<=sizeLine/\Q (.int z.length) M
   |.ref a=>match M a with
    |some (.dK RG)=>Q (.int RG.length) M
    |_=>False
   |_=>False
 |_=>False
theorem vF:bp X (.builtin "len") (liftC X oB):=by
 intro f s Y H N l Q I r h;obtain⟨ds,M,QQ,j,w,h,o⟩:=h;unfold oB at h
 split at h
 .obtain⟨v,rfl,m⟩:=dg (ds:=[]) w
  split at h
  .rename_i L e
   obtain⟨q,y,rfl,z,E⟩:=jz j m e;exact mH f s Y H _ l Q I r ⟨q,y,rfl,z,by rw[<- E.length];exact o _ M h _ H j am rfl⟩
  .split at h
   .cases m
    exact nQ f s Y H _ l Q I r ⟨_,rfl,h.1,o _ M h.2 _ H j am rfl⟩
   .split at h
    .rename_i J e
     cases m;obtain⟨C,F,G⟩:=j _ _ e;exact v_ f s Y H _ l Q I r ⟨_,C,rfl,F,by rw[<- G.length];exact o _ M h _ H j am rfl⟩
    .exact h.elim
   .exact h.elim
 .exact h.elim
def dP:qa:=λf M Q=>match f with
 |[d]=>match aT M d with
  |some xs=>∀p,M p=ee->Q (.ref p) (M.upd p<|.lst xs)
  |none=>False
 |_=>False
theorem qI:bp X (.type "list") (liftC X dP):=by
 intro RE s Y H xs us Q I r h;obtain⟨ds,M,QQ,rh,rp,h,up⟩:=h;unfold dP at h
 split at h
 .obtain⟨v,rfl,rv⟩:=dg (ds:=[]) rp
  split at h
  .rename_i ys e
   obtain⟨q,vs,rfl,hq,rr⟩:=jz rh rv e;refine mK RE s Y H _ us Q I r ⟨q,vs,rfl,hq,λp hp=>?_⟩;exact up _ _ (h p<|rh.fresh hp) _ _ (rh.put (by rw[hp];trivial) ⟨_,upd_same,rr.mono<|Imm.new hp⟩) (Frm.put<|.inl hp) rfl
  .exact h.elim
 .exact h.elim
def e_:qa:=λf M Q=>match f with
 |[.tup xs]=>Q (.tup xs) M
 |[d]=>match cQ M d with
  |some xs=>Q (.tup xs) M
  |none=>False
 |_=>False
theorem oW:bp X (.type "tuple") (liftC X e_):=by
 intro f s Y H J z Q I r h;obtain⟨ds,M,QQ,w,y,h,C⟩:=h;unfold e_ at h
 split at h
 .obtain⟨v,rfl,m⟩:=dg (ds:=[]) y
  obtain⟨q,j,rfl,E,o⟩:=m;exact eP f s Y H _ z Q I r ⟨q,j,rfl,.inr ⟨E.sq,C _ M h _ H w am ⟨q,j,rfl,E,o⟩⟩⟩
 .obtain⟨v,rfl,m⟩:=dg (ds:=[]) y
  split at h
  .rename_i G e
   obtain⟨q,j,rfl,F,o⟩:=cI w m e;refine eP f s Y H _ z Q I r ⟨q,j,rfl,.inl ⟨.inl F,λp l=>?_⟩⟩;exact C _ M h _ _ (w.new l) (Frm.new l) ⟨p,_,rfl,upd_same,o.mono<|Imm.new l⟩
  .exact h.elim
 .exact h.elim
def cj(M:Mem):D->Option String
 |.non=>al "NoneType"
 |.bl _=>al "bool"
 |.int _=>al "int"
 |.str _=>al "str"
 |.tup _=>al "tuple"
 |.lst _=>al "list"
 |.ref a=>match M a with
  |some (.lst _)=>al "list"
  |some (.dK _)=>al "dict"
  |some (.dT _)=>al "dict"
  |_=>ee
 |_=>ee
def gR(t T:String):Bool:=t==T||(t=="bool"&&T=="int")
def vL(T:String):Bool:=T=="bool"||T=="int"||T=="str"||T=="tuple"||T=="list"||T=="dict"
theorem B0:(∀K:Jd,∀t∈["NoneType","bool","int","str","tuple","list","dict"],∀T∈["bool","int","str","tuple","list","dict"],Lv K (.type t) (.type T)=al (gR t T)):=by
 intro K t h T f;simp only[Jq,KP,or_false]at h f;rcases h with rfl|rfl|rfl|rfl|rfl|rfl|rfl<;>rcases f with rfl|rfl|rfl|rfl|rfl|rfl<;>kernel_rfl
theorem By{d:D}{v:V}{t:String}(j:RepH K H M)(r:Rp K H d v)(e:cj M d=al t):TyOf K H v (.type t)/\t∈["NoneType","bool","int","str","tuple","list","dict"]:=by
 cases d with
 |non=>cases r;cases e;exact⟨.non,by simp⟩
 |bl b=>cases r;cases e;exact⟨.bl b,by simp⟩
 |int i=>cases r;cases e;exact⟨.int i,by simp⟩
 |str x=>cases r;cases e;exact⟨.str x,by simp⟩
 |ty n=>cases e
 |mt n=>cases e
 |ml n=>cases e
 |tup xs=>
  cases e;obtain⟨q,y,rfl,h,w⟩:=r;exact⟨.tup h,by simp⟩
 |lst xs=>
  cases e;obtain⟨q,y,rfl,⟨o,h⟩,w⟩:=r;exact⟨.frz h,by simp⟩
 |ref a=>
  cases r;simp only[cj]at e
  split at e
  .rename_i q;cases e;obtain⟨l,f,m⟩:=j _ _ q;exact⟨.lst f,by simp⟩
  .rename_i q;cases e;obtain⟨l,f,m⟩:=j _ _ q;exact⟨.dK f,by simp⟩
  .rename_i q;cases e;obtain⟨l,f,m⟩:=j _ _ q;exact⟨.dT f,by simp⟩
  .cases e
def tK:qa:=λf M Q=>match f with
 |[d,.ty T]=>vL T=true/\match cj M d with
  |some t=>Q (.bl<|gR t T) M
  |none=>False
 |_=>False
theorem mz:bp X (.builtin "isinstance") (liftC X tK):=by
 intro f s Y H E q Q I r h;obtain⟨F,M,QQ,m,o,h,z⟩:=h;unfold tK at h
 split at h
 .rename_i d T
  obtain⟨l,h⟩:=h;obtain⟨v,w,rfl,y,j⟩:=wo o;cases j
  split at h
  .rename_i t e
   obtain⟨ty,C⟩:=By m y e;refine o_ f s Y H _ q Q I r ⟨v,T,.type t,_,rfl,ty,B0 X.K t C T ?_,z _ M h _ H m am rfl⟩;simp only[vL,Bool.or_eq_true,beq_iff_eq]at l;simp only[Jq,KP,or_false];rcases l with ((((h|h)|h)|h)|h)|h<;>simp[h]
  .exact h.elim
 .exact h.elim
def pA:List D->Option (List Bool)
 |[]=>al []
 |.bl b::ds=>match pA ds with
  |some bs=>al (b::bs)
  |none=>ee
 |_=>ee
theorem gP:∀{ds:List D}{vs:List V}{bs:List Bool},Rps K H ds vs->pA ds=al bs->vs=bs.map V.bl
 |[],vs,bs,r,e=>by cases e;exact r
 |d::ds,vs,bs,r,e=>by
  obtain⟨v,j,rfl,a,b⟩:=r;cases d with
  |bl c=>
   simp only[pA]at e
   split at e
   .rename_i h f
    cases e;cases a;rw[gP b f];rfl
   .cases e
  |_=>cases e
end
mutual
def aG:D->D->Bool
 |.non,.non=>true
 |.bl a,.bl b=>a==b
 |.bl a,.int b=>(if a then 1 else 0)==b
 |.int a,.bl b=>a==(if b then 1 else 0)
 |.int a,.int b=>decide (a=b)
 |.str a,.str b=>decide (a=b)
 |.tup xs,.tup ys=>fC xs ys
 |.lst xs,.lst ys=>fC xs ys
 |_,_=>eo
def fC:List D->List D->Bool
 |[],[]=>true
 |x::xs,y::ys=>aG x y&&fC xs ys
 |_,_=>eo
end
mutual
def bn:Nat->D->Bool
 |_,.non=>true
 |_,.bl _=>true
 |_,.int _=>true
 |_,.str _=>true
 |n+1,.tup xs=>cR n xs
 |n+1,.lst xs=>cR n xs
 |_,_=>eo
def cR:Nat->List D->Bool
 |_,[]=>true
 |n,x::xs=>bn n x&&cR n xs
end
mutual
def Hr(h:i5):D->c0->Prop
 |.non,u=>u=.none
 |.bl b,u=>u=.bool b
 |.int i,u=>∃t,u=.int i t
 |.str x,u=>∃t,u=.str x t
 |.tup xs,u=>∃p RK,u=.ref p/\h.IsTuple p (List.toArray RK)/\Hrs h xs RK
 |.lst xs,u=>∃p RK,u=.ref p/\h.IsList p (List.toArray RK)/\Hrs h xs RK
 |_,_=>False
def Hrs(h:i5):List D->List c0->Prop
 |[],us=>us=[]
 |x::xs,us=>∃u r,us=u::r/\Hr h x u/\Hrs h xs r
end
section
variable{h:i5}
theorem Hrs.length:∀{ds:List D}{us:RO},Hrs h ds us->ds.length=us.length
 |[],_,q=>by cases q;rfl
 |_::_,_,q=>by obtain⟨v,r,rfl,_,b⟩:=q;simp[b.length]
theorem Hrs.get:∀{ds:List D}{us:RO},Hrs h ds us->∀(i:Nat)(f:i<ds.length)(j:i<us.length),Hr h ds[i] us[i]
 |[],_,_,i,f,_=>absurd f (Lw _)
 |x::xs,_,q,i,f,j=>by
  obtain⟨v,r,rfl,a,b⟩:=q;cases i with
  |zero=>exact a
  |succ i=>exact b.get i (by simpa using f) (by simpa using j)
theorem uU(x:h.IsTuple p a)(y:h.IsTuple p b):a=b:=by
 obtain⟨o,l,_,n,m⟩:=x;obtain⟨t,f,_,q,j⟩:=y;rw[l]at f;cases f;rw[m]at j
 injection j with e _
theorem ud(x:h.IsList p a)(y:h.IsList p b):a=b:=by
 obtain⟨o,l,_,n,m⟩:=x;obtain⟨t,f,_,q,j⟩:=y;rw[l]at f;cases f;rw[m]at j
 injection j with e _
theorem G_(x:h.IsList p a)(y:h.IsTuple p b):False:=by
 obtain⟨o,l,c,_⟩:=x;obtain⟨m,f,j,_⟩:=y;rw[l]at f;cases f;rw[c]at j
 injection j with e
 exact absurd e (by decide)
mutual
theorem zS:∀{d e:D}{u:c0},Hr h d u->Hr h e u->d=e
 |.non,e,u,a,b=>by
  cases a;cases e with
  |non=>rfl
  |bl _=>cases b
  |int _=>obtain⟨t,q⟩:=b;cases q
  |str _=>obtain⟨t,q⟩:=b;cases q
  |tup _=>obtain⟨p,i,q,_⟩:=b;cases q
  |lst _=>obtain⟨p,i,q,_⟩:=b;cases q
  |_=>exact(show False from b).elim
 |.bl c,e,u,a,b=>by
  cases a;cases e with
  |non=>cases b
  |bl _=>cases b;rfl
  |int _=>obtain⟨t,q⟩:=b;cases q
  |str _=>obtain⟨t,q⟩:=b;cases q
  |tup _=>obtain⟨p,i,q,_⟩:=b;cases q
  |lst _=>obtain⟨p,i,q,_⟩:=b;cases q
  |_=>exact(show False from b).elim
 |.int c,e,u,a,b=>by
  obtain⟨t,rfl⟩:=a;cases e with
  |non=>cases b
  |bl _=>cases b
  |int _=>obtain⟨t,q⟩:=b;cases q;rfl
  |str _=>obtain⟨t,q⟩:=b;cases q
  |tup _=>obtain⟨p,i,q,_⟩:=b;cases q
  |lst _=>obtain⟨p,i,q,_⟩:=b;cases q
  |_=>exact(show False from b).elim
 |.str c,e,u,a,b=>by
  obtain⟨t,rfl⟩:=a;cases e with
  |non=>cases b
  |bl _=>cases b
  |int _=>obtain⟨t,q⟩:=b;cases q
  |str _=>obtain⟨t,q⟩:=b;cases q;rfl
  |tup _=>obtain⟨p,i,q,_⟩:=b;cases q
  |lst _=>obtain⟨p,i,q,_⟩:=b;cases q
  |_=>exact(show False from b).elim
 |.tup xs,e,u,a,b=>by
  obtain⟨p,RK,rfl,l,o⟩:=a;cases e with
  |non=>cases b
  |bl _=>cases b
  |int _=>obtain⟨t,q⟩:=b;cases q
  |str _=>obtain⟨t,q⟩:=b;cases q
  |tup ys=>
   obtain⟨p',its',q,f,j⟩:=b;cases q;have e:=uU l f;have m:RK=its':=by simpa using congrArg Lx e
   subst m;rw[fP o j]
  |lst ys=>obtain⟨p',its',q,f,j⟩:=b;cases q;exact(G_ f l).elim
  |_=>exact(show False from b).elim
 |.lst xs,e,u,a,b=>by
  obtain⟨p,RK,rfl,l,o⟩:=a;cases e with
  |non=>cases b
  |bl _=>cases b
  |int _=>obtain⟨t,q⟩:=b;cases q
  |str _=>obtain⟨t,q⟩:=b;cases q
  |lst ys=>
   obtain⟨p',its',q,f,j⟩:=b;cases q;have e:=ud l f;have m:RK=its':=by simpa using congrArg Lx e
   subst m;rw[fP o j]
  |tup ys=>obtain⟨p',its',q,f,j⟩:=b;cases q;exact(G_ l f).elim
  |_=>exact(show False from b).elim
 |.ty _,_,_,a,_=>(show False from a).elim
 |.ref _,_,_,a,_=>(show False from a).elim
 |.mt _,_,_,a,_=>(show False from a).elim
 |.ml _,_,_,a,_=>(show False from a).elim
theorem fP:∀{ds es:List D}{us:RO},Hrs h ds us->Hrs h es us->ds=es
 |[],es,us,a,b=>by
  cases a;cases es with
  |nil=>rfl
  |cons _ _=>obtain⟨v,r,q,_⟩:=b;cases q
 |d::ds,es,us,a,b=>by
  obtain⟨v,r,rfl,m,l⟩:=a;cases es with
  |nil=>cases b
  |cons e es=>
   obtain⟨o,t,q,f,j⟩:=b;cases q;rw[zS m f,fP l j]
end
mutual
theorem yU:∀{n:Nat}{d:D},bn n d=true->aG d d=true
 |_,.non,_=>by simp[aG]
 |_,.bl _,_=>by simp[aG]
 |_,.int _,_=>by simp[aG]
 |_,.str _,_=>by simp[aG]
 |0,.tup _,f=>by simp[bn]at f
 |0,.lst _,f=>by simp[bn]at f
 |n+1,.tup xs,f=>by rw[aG];exact cY (n:=n) f
 |n+1,.lst xs,f=>by rw[aG];exact cY (n:=n) f
 |_,.ty _,f=>by simp[bn]at f
 |_,.ref _,f=>by simp[bn]at f
 |_,.mt _,f=>by simp[bn]at f
 |_,.ml _,f=>by simp[bn]at f
theorem cY:∀{n:Nat}{ds:List D},cR n ds=true->fC ds ds=true
 |_,[],_=>by simp[fC]
 |n,x::xs,f=>by
  rw[cR,J3]at f;rw[fC,yU f.1,cY f.2];rfl
end
theorem ci:∀{xs ys:List D},xs.length≠ys.length->fC xs ys=eo
 |[],[],h=>absurd rfl h
 |[],_::_,_=>by simp[fC]
 |_::_,[],_=>by simp[fC]
 |x::xs,y::ys,h=>by rw[fC,ci (by simpa using h),KN]
theorem gg:∀(xs ys:List D)(f:Nat->Bool),xs.length=ys.length->(∀j (h1:j<xs.length)(h2:j<ys.length),f j=aG xs[j] ys[j])->(Km xs.length).all f=fC xs ys
 |[],[],f,_,_=>by simp[fC]
 |[],_::_,_,h,_=>by simp at h
 |_::_,[],_,h,_=>by simp at h
 |x::xs,y::ys,f,h,hf=>by
  have l:=hf 0 (by simp) (by simp)
  have m:=gg xs ys (λj=>f (j+1)) (by simpa using h) (λj h1 h2=>hf (j+1) (by simpa using h1) (by simpa using h2))
  rw[Jl,NT,List.all_cons,List.all_map,fC,<- m];simp only[List.getElem_cons_zero]at l;rw[l];rfl
theorem cy:∀{n:Nat}{xs:List D},cR n xs=true->∀(j:Nat)(l:j<xs.length),bn n xs[j]=true
 |_,[],_,j,l=>absurd l (Lw _)
 |n,x::xs,f,j,l=>by
  rw[cR,J3]at f;cases j with
  |zero=>exact f.1
  |succ j=>exact cy f.2 j (by simpa using l)
def jH:D->Option V
 |.non=>al .non
 |.bl b=>al (.bl b)
 |.int i=>al (.int i)
 |.str x=>al (.str x)
 |_=>ee
theorem iX{d:D}{v:V}(e:jH d=al v)(r:Hr h d u):RelV v u/\xG v=true:=by
 cases d with
 |non=>cases e;exact⟨r,rfl⟩
 |bl b=>cases e;exact⟨r,rfl⟩
 |int b=>cases e;exact⟨r,rfl⟩
 |str b=>cases e;exact⟨r,rfl⟩
 |_=>cases e
theorem pV{d e:D}{v w:V}(j:jH d=al v)(f:jH e=al w):nZ v w=aG d e:=by
 cases d with
 |non=>cases j;cases e with|non=>cases f;simp[nZ,aG]|bl b=>cases f;simp[nZ,aG]|int b=>cases f;simp[nZ,aG]|str b=>cases f;simp[nZ,aG]|_=>cases f
 |bl a=>cases j;cases e with|non=>cases f;simp[nZ,aG]|bl b=>cases f;simp[nZ,aG]|int b=>cases f;simp[nZ,aG]|str b=>cases f;simp[nZ,aG]|_=>cases f
 |int a=>cases j;cases e with|non=>cases f;simp[nZ,aG]|bl b=>cases f;simp[nZ,aG]|int b=>cases f;simp[nZ,aG];rfl|str b=>cases f;simp[nZ,aG]|_=>cases f
 |str a=>cases j;cases e with|non=>cases f;simp[nZ,aG]|bl b=>cases f;simp[nZ,aG]|int b=>cases f;simp[nZ,aG]|str b=>cases f;simp[nZ,aG];rfl|_=>cases f
 |_=>cases j
end
theorem CY:∀(n:Nat){A:j0}{s:c8}{d e:D}{u w:c0},Hr s.heap d u->Hr s.heap e w->bn n d=true->bn n e=true->A.units+n<rz->L6 A s u w (aG d e):=by
 intro n
 induction n with
 |zero=>
  intro A s d e u w l h W P hu;have f1:∃v,jH d=al v:=by cases d<;>first|exact⟨_,rfl⟩|(simp[bn]at W)
  have U:∃v,jH e=al v:=by cases e<;>first|exact⟨_,rfl⟩|(simp[bn]at P)
  obtain⟨v1,O⟩:=f1;obtain⟨v2,T⟩:=U;obtain⟨a1,b1⟩:=iX O l;obtain⟨a2,b2⟩:=iX T h;rw[<- pV O T];exact wK a1 a2 b1 b2
 |succ n ih=>
  intro A s d e u w l h W P hu;have f:A.units<cLine:=by lia
  have R:A.in1.units+n<cLine:=by show A.units+1+n<rz;lia
  by_cases f1:∃v,jH d=al v
  .obtain⟨v1,O⟩:=f1
   obtain⟨a1,b1⟩:=iX O l
   by_cases U:∃v,jH e=al v
   .obtain⟨v2,T⟩:=U
    obtain⟨a2,b2⟩:=iX T h;rw[<- pV O T];exact wK a1 a2 b1 b2
   .cases e with
    |tup ys=>
     obtain⟨p,RK,rfl,t,_⟩:=h;cases d with
     |non=>cases l;simp only[aG];exact .none_tuple t f
     |bl b=>cases l;simp only[aG];exact .bool_tuple b t f
     |int b=>obtain⟨z,rfl⟩:=l;simp only[aG];exact .int_tuple b z t f
     |str b=>obtain⟨z,rfl⟩:=l;simp only[aG];exact .str_tuple b z t f
     |_=>cases O
    |lst ys=>
     obtain⟨p,RK,rfl,t,_⟩:=h;cases d with
     |non=>cases l;simp only[aG];exact .none_list t f
     |bl b=>cases l;simp only[aG];exact .bool_list b t f
     |int b=>obtain⟨z,rfl⟩:=l;simp only[aG];exact .int_list b z t f
     |str b=>obtain⟨z,rfl⟩:=l;simp only[aG];exact .str_list b z t f
     |_=>cases O
    |ty _=>exact(show False from h).elim
    |ref _=>exact(show False from h).elim
    |mt _=>exact(show False from h).elim
    |ml _=>exact(show False from h).elim
    |_=>exact absurd ⟨_,rfl⟩ U
  .cases d with
   |tup xs=>
    obtain⟨p,RK,rfl,m,I⟩:=l;cases e with
    |non=>cases h;simp only[aG];exact .tuple_none m f
    |bl b=>cases h;simp only[aG];exact .tuple_bool b m f
    |int b=>obtain⟨z,rfl⟩:=h;simp only[aG];exact .tuple_int b z m f
    |str b=>obtain⟨z,rfl⟩:=h;simp only[aG];exact .tuple_str b z m f
    |tup ys=>
     obtain⟨p',its',rfl,F,G⟩:=h;rw[aG]
     by_cases S:p=p'
     .subst S
      have e':RK=its':=by simpa using congrArg Lx (uU m F)
      subst e';rw[fP I G,cY (n:=n) P];exact .same _
     .refine .of_refs S ?_
      have Z:=I.length;have l2:=G.length;have L:∀j (E:j<RK.toArray.size)(C:j<its'.toArray.size),L6 A.in1 s RK.toArray[j] its'.toArray[j] (match xs[j]?,ys[j]? with|some x,al y=>aG x y|_,_=>eo):=λj E C=>by
       have o:j<xs.length:=by rw[Z];simpa using E
       have q:j<ys.length:=by rw[l2];simpa using C
       rw[Je o,Je q];exact ih (I.get j o<|by simpa using E) (G.get j q<|by simpa using C) (cy W j o) (cy P j q) R
      have:=NL (e:=λj=>match xs[j]?,ys[j]? with|some x,al y=>aG x y|_,_=>eo) m F f L
      by_cases Q:xs.length=ys.length
      .have N:RK.toArray.size=its'.toArray.size:=by simp;lia
       rw[N]at this;simp only[N3,beq_self_eq_true,NG]at this;have J:its'.toArray.size=xs.length:=by simp;lia
       rw[J,gg xs ys _ Q (λj E C=>by rw[Je E,Je C])]at this
       exact this
      .have N:(RK.toArray.size==its'.toArray.size)=false:=by simp;lia
       rw[N,KN]at this;rw[ci Q];exact this
    |lst ys=>obtain⟨p',its',rfl,F,G⟩:=h;simp only[aG];exact .tuple_list m F f
    |_=>exact(show False from h).elim
   |lst xs=>
    obtain⟨p,RK,rfl,m,I⟩:=l;cases e with
    |non=>cases h;simp only[aG];exact .list_none m f
    |bl b=>cases h;simp only[aG];exact .list_bool b m f
    |int b=>obtain⟨z,rfl⟩:=h;simp only[aG];exact .list_int b z m f
    |str b=>obtain⟨z,rfl⟩:=h;simp only[aG];exact .list_str b z m f
    |lst ys=>
     obtain⟨p',its',rfl,F,G⟩:=h;rw[aG]
     by_cases S:p=p'
     .subst S
      have e':RK=its':=by simpa using congrArg Lx (ud m F)
      subst e';rw[fP I G,cY (n:=n) P];exact .same _
     .refine .of_refs S ?_
      have Z:=I.length;have l2:=G.length
      by_cases Q:xs.length=ys.length
      .have L:∀j (E:j<RK.toArray.size)(C:j<its'.toArray.size),L6 A.in1 s RK.toArray[j] its'.toArray[j] (match xs[j]?,ys[j]? with|some x,al y=>aG x y|_,_=>eo):=λj E C=>by
        have o:j<xs.length:=by rw[Z];simpa using E
        have q:j<ys.length:=by rw[l2];simpa using C
        rw[Je o,Je q];exact ih (I.get j o<|by simpa using E) (G.get j q<|by simpa using C) (cy W j o) (cy P j q) R
       have:=NQ (e:=λj=>match xs[j]?,ys[j]? with|some x,al y=>aG x y|_,_=>eo) m F (by simp;lia) f L
       have J:RK.toArray.size=xs.length:=by simp;lia
       rw[J,gg xs ys _ Q (λj E C=>by rw[Je E,Je C])]at this
       exact this
      .rw[ci Q]
       exact MR m F (by simp;lia) f
    |tup ys=>obtain⟨p',its',rfl,F,G⟩:=h;simp only[aG];exact .list_tuple m F f
    |_=>exact(show False from h).elim
   |ty _=>exact(show False from l).elim
   |ref _=>exact(show False from l).elim
   |mt _=>exact(show False from l).elim
   |ml _=>exact(show False from l).elim
   |_=>exact absurd ⟨_,rfl⟩ f1
theorem iM{xs ys:List D}(m:Hrs s.heap xs RK)(l:Hrs s.heap ys its')(t:cR n xs=true)(o:cR n ys=true)(q:A.units+n<rz):
  ∀j (h1:j<RK.toArray.size)(h2:j<its'.toArray.size),L6 A s RK.toArray[j] its'.toArray[j] (match xs[j]?,ys[j]? with|some x,al y=>aG x y|_,_=>eo):=λj h1 h2=>by
 have f:j<xs.length:=by rw[m.length];simpa using h1
 have h:j<ys.length:=by rw[l.length];simpa using h2
 rw[Je f,Je h];exact CY n (m.get j f<|by simpa using h1) (l.get j h<|by simpa using h2) (cy t j f) (cy o j h) q
theorem jf{xs ys:List D}(l:xs.length=ys.length):(Km xs.length).all (λj=>match xs[j]?,ys[j]? with|some x,al y=>aG x y|_,_=>eo)=fC xs ys:=
 gg xs ys _ l (λj f h=>by rw[Je f,Je h])
theorem DY{xs ys:List D}(v:s.heap.IsTuple p RK.toArray)(t:s.heap.IsTuple p' its'.toArray)(m:Hrs s.heap xs RK)(l:Hrs s.heap ys its')(o:bn n (.tup xs)=true)(q:bn n (.tup ys)=true)(z:A.units+n<rz):
  Oj A s (.ref p) (.ref p') (aG (.tup xs)<|.tup ys):=by
 cases n with
 |zero=>simp[bn]at o
 |succ n=>
  have w:=m.length;have y:=l.length;have:=NL (A:=A) v t (by lia) (iM (n:=n) m l o q<|by show A.units+1+n<rz;lia)
  rw[aG]
  by_cases j:xs.length=ys.length
  .have f:RK.toArray.size=its'.toArray.size:=by simp;lia
   rw[f]at this;simp only[N3,beq_self_eq_true,NG]at this;have h:its'.toArray.size=xs.length:=by simp;lia
   rw[h,jf j]at this;exact this
  .have f:(RK.toArray.size==its'.toArray.size)=false:=by simp;lia
   rw[f,KN]at this;rw[ci j];exact this
theorem Fe{xs ys:List D}(o:s.heap.IsList p RK.toArray)(l:s.heap.IsList p' its'.toArray)(m:Hrs s.heap xs RK)(j:Hrs s.heap ys its')(q:bn n (.lst xs)=true)(t:bn n (.lst ys)=true)(y:A.units+n<rz):
  Oj A s (.ref p) (.ref p') (aG (.lst xs)<|.lst ys):=by
 cases n with
 |zero=>simp[bn]at q
 |succ n=>
  have v:=m.length;have w:=j.length;rw[aG]
  by_cases h:xs.length=ys.length
  .have:=NQ (A:=A) o l (by simp;lia) (by lia) (iM (n:=n) m j q t<|by show A.units+1+n<rz;lia)
   have f:RK.toArray.size=xs.length:=by simp;lia
   rw[f,jf h]at this;exact this
  .rw[ci h]
   exact MR o l (by simp;lia) (by lia)
theorem yW{xs ys:List D}(v:s.heap.IsTuple p RK.toArray)(t:s.heap.IsTuple p' its'.toArray)(m:Hrs s.heap xs RK)(l:Hrs s.heap ys its')(o:bn n (.tup xs)=true)(q:bn n (.tup ys)=true)(z:A.units+n<rz):
  NK A s (.ref p) (.ref p') (!aG (.tup xs) (.tup ys)):=by
 cases n with
 |zero=>simp[bn]at o
 |succ n=>
  have w:=m.length;have y:=l.length;have:=SeqAt.RcNeAt.tuples (A:=A) v t (by lia) (iM (n:=n) m l o q<|by show A.units+1+n<rz;lia)
  rw[aG]
  by_cases j:xs.length=ys.length
  .have f:RK.toArray.size=its'.toArray.size:=by simp;lia
   rw[f]at this;simp only[N3,beq_self_eq_true,NG]at this;have h:its'.toArray.size=xs.length:=by simp;lia
   rw[h,jf j]at this;exact this
  .have f:(RK.toArray.size==its'.toArray.size)=false:=by simp;lia
   rw[f,KN]at this;rw[ci j];exact this
theorem zr{xs ys:List D}(o:s.heap.IsList p RK.toArray)(l:s.heap.IsList p' its'.toArray)(m:Hrs s.heap xs RK)(j:Hrs s.heap ys its')(q:bn n (.lst xs)=true)(t:bn n (.lst ys)=true)(y:A.units+n<rz):
  NK A s (.ref p) (.ref p') (!aG (.lst xs) (.lst ys)):=by
 cases n with
 |zero=>simp[bn]at q
 |succ n=>
  have v:=m.length;have w:=j.length;rw[aG]
  by_cases h:xs.length=ys.length
  .have:=SeqAt.RcNeAt.lists (A:=A) o l (by simp;lia) (by lia) (iM (n:=n) m j q t<|by show A.units+1+n<rz;lia)
   have f:RK.toArray.size=xs.length:=by simp;lia
   rw[f,jf h]at this;exact this
  .rw[ci h]
   exact SeqAt.RcNeAt.lists_lengths o l (by simp;lia) (by lia)
theorem HX{d e:D}{w:c0}(v:Hr s.heap d u)(h:Hr s.heap e w)(G:bn n d=true)(E:bn n e=true)(F:A.units+n<rz):Oj A s u w (aG d e):=by
 have j:A.units<cLine:=by lia
 cases d with
 |non=>
  cases v;cases e with
  |non=>
   cases h;simpa [aG,JD] using SeqAt.RcAt.none_none
  |bl y=>
   cases h;simpa [aG] using SeqAt.RcAt.none_bool y
  |int y=>
   obtain⟨f,rfl⟩:=h;simpa [aG] using SeqAt.RcAt.none_int y f
  |str y=>
   obtain⟨f,rfl⟩:=h;simpa [aG] using SeqAt.RcAt.none_str y f
  |tup y=>
   obtain⟨t,l,rfl,ty,o⟩:=h;simpa [aG] using SeqAt.RcAt.none_tuple ty j
  |lst y=>
   obtain⟨t,l,rfl,ty,o⟩:=h;simpa [aG] using SeqAt.RcAt.none_list ty j
  |_=>exact(show False from h).elim
 |bl x=>
  cases v;cases e with
  |non=>
   cases h;simpa [aG] using SeqAt.RcAt.bool_none x
  |bl y=>
   cases h;simpa [aG,JD] using SeqAt.RcAt.bool_bool x y
  |int y=>
   obtain⟨f,rfl⟩:=h;simpa [aG,JD] using SeqAt.RcAt.bool_int x y f
  |str y=>
   obtain⟨f,rfl⟩:=h;simpa [aG] using SeqAt.RcAt.bool_str x y f
  |tup y=>
   obtain⟨t,l,rfl,ty,o⟩:=h;simpa [aG] using SeqAt.RcAt.bool_tuple x ty j
  |lst y=>
   obtain⟨t,l,rfl,ty,o⟩:=h;simpa [aG] using SeqAt.RcAt.bool_list x ty j
  |_=>exact(show False from h).elim
 |int x=>
  obtain⟨m,rfl⟩:=v;cases e with
  |non=>
   cases h;simpa [aG] using SeqAt.RcAt.int_none x m
  |bl y=>
   cases h;simpa [aG,JD] using SeqAt.RcAt.int_bool x m y
  |int y=>
   obtain⟨f,rfl⟩:=h;simpa [aG,JD] using SeqAt.RcAt.int_int x m y f
  |str y=>
   obtain⟨f,rfl⟩:=h;simpa [aG] using SeqAt.RcAt.int_str x m y f
  |tup y=>
   obtain⟨t,l,rfl,ty,o⟩:=h;simpa [aG] using SeqAt.RcAt.int_tuple x m ty j
  |lst y=>
   obtain⟨t,l,rfl,ty,o⟩:=h;simpa [aG] using SeqAt.RcAt.int_list x m ty j
  |_=>exact(show False from h).elim
 |str x=>
  obtain⟨m,rfl⟩:=v;cases e with
  |non=>
   cases h;simpa [aG] using SeqAt.RcAt.str_none x m
  |bl y=>
   cases h;simpa [aG] using SeqAt.RcAt.str_bool x m y
  |int y=>
   obtain⟨f,rfl⟩:=h;simpa [aG] using SeqAt.RcAt.str_int x m y f
  |str y=>
   obtain⟨f,rfl⟩:=h;simpa [aG,JD] using SeqAt.RcAt.str_str x m y f
  |tup y=>
   obtain⟨t,l,rfl,ty,o⟩:=h;simpa [aG] using SeqAt.RcAt.str_tuple x m ty j
  |lst y=>
   obtain⟨t,l,rfl,ty,o⟩:=h;simpa [aG] using SeqAt.RcAt.str_list x m ty j
  |_=>exact(show False from h).elim
 |tup x=>
  obtain⟨I,z,rfl,q,C⟩:=v;cases e with
  |non=>
   cases h;simpa [aG] using SeqAt.RcAt.tuple_none q j
  |bl y=>
   cases h;simpa [aG] using SeqAt.RcAt.tuple_bool y q j
  |int y=>
   obtain⟨f,rfl⟩:=h;simpa [aG] using SeqAt.RcAt.tuple_int y f q j
  |str y=>
   obtain⟨f,rfl⟩:=h;simpa [aG] using SeqAt.RcAt.tuple_str y f q j
  |tup y=>
   obtain⟨t,l,rfl,ty,o⟩:=h;exact DY q ty C o G E F
  |lst y=>
   obtain⟨t,l,rfl,ty,o⟩:=h;simpa [aG] using SeqAt.RcAt.tuple_list q ty j
  |_=>exact(show False from h).elim
 |lst x=>
  obtain⟨I,z,rfl,q,C⟩:=v;cases e with
  |non=>
   cases h;simpa [aG] using SeqAt.RcAt.list_none q j
  |bl y=>
   cases h;simpa [aG] using SeqAt.RcAt.list_bool y q j
  |int y=>
   obtain⟨f,rfl⟩:=h;simpa [aG] using SeqAt.RcAt.list_int y f q j
  |str y=>
   obtain⟨f,rfl⟩:=h;simpa [aG] using SeqAt.RcAt.list_str y f q j
  |tup y=>
   obtain⟨t,l,rfl,ty,o⟩:=h;simpa [aG] using SeqAt.RcAt.list_tuple q ty j
  |lst y=>
   obtain⟨t,l,rfl,ty,o⟩:=h;exact Fe q ty C o G E F
  |_=>exact(show False from h).elim
 |_=>exact(show False from v).elim
theorem Cj{d e:D}{w:c0}(v:Hr s.heap d u)(h:Hr s.heap e w)(G:bn n d=true)(E:bn n e=true)(F:A.units+n<rz):NK A s u w (!aG d e):=by
 have j:A.units<cLine:=by lia
 cases d with
 |non=>
  cases v;cases e with
  |non=>
   cases h;simpa [aG,JD] using SeqAt.RcNeAt.none_none
  |bl y=>
   cases h;simpa [aG] using SeqAt.RcNeAt.none_bool y
  |int y=>
   obtain⟨f,rfl⟩:=h;simpa [aG] using SeqAt.RcNeAt.none_int y f
  |str y=>
   obtain⟨f,rfl⟩:=h;simpa [aG] using SeqAt.RcNeAt.none_str y f
  |tup y=>
   obtain⟨t,l,rfl,ty,o⟩:=h;simpa [aG] using SeqAt.RcNeAt.none_tuple ty j
  |lst y=>
   obtain⟨t,l,rfl,ty,o⟩:=h;simpa [aG] using SeqAt.RcNeAt.none_list ty j
  |_=>exact(show False from h).elim
 |bl x=>
  cases v;cases e with
  |non=>
   cases h;simpa [aG] using SeqAt.RcNeAt.bool_none x
  |bl y=>
   cases h;simpa [aG,JD] using SeqAt.RcNeAt.bool_bool x y
  |int y=>
   obtain⟨f,rfl⟩:=h;simpa [aG,JD] using SeqAt.RcNeAt.bool_int x y f
  |str y=>
   obtain⟨f,rfl⟩:=h;simpa [aG] using SeqAt.RcNeAt.bool_str x y f
  |tup y=>
   obtain⟨t,l,rfl,ty,o⟩:=h;simpa [aG] using SeqAt.RcNeAt.bool_tuple x ty j
  |lst y=>
   obtain⟨t,l,rfl,ty,o⟩:=h;simpa [aG] using SeqAt.RcNeAt.bool_list x ty j
  |_=>exact(show False from h).elim
 |int x=>
  obtain⟨m,rfl⟩:=v;cases e with
  |non=>
   cases h;simpa [aG] using SeqAt.RcNeAt.int_none x m
  |bl y=>
   cases h;simpa [aG,JD] using SeqAt.RcNeAt.int_bool x m y
  |int y=>
   obtain⟨f,rfl⟩:=h;simpa [aG,JD] using SeqAt.RcNeAt.int_int x m y f
  |str y=>
   obtain⟨f,rfl⟩:=h;simpa [aG] using SeqAt.RcNeAt.int_str x m y f
  |tup y=>
   obtain⟨t,l,rfl,ty,o⟩:=h;simpa [aG] using SeqAt.RcNeAt.int_tuple x m ty j
  |lst y=>
   obtain⟨t,l,rfl,ty,o⟩:=h;simpa [aG] using SeqAt.RcNeAt.int_list x m ty j
  |_=>exact(show False from h).elim
 |str x=>
  obtain⟨m,rfl⟩:=v;cases e with
  |non=>
   cases h;simpa [aG] using SeqAt.RcNeAt.str_none x m
  |bl y=>
   cases h;simpa [aG] using SeqAt.RcNeAt.str_bool x m y
  |int y=>
   obtain⟨f,rfl⟩:=h;simpa [aG] using SeqAt.RcNeAt.str_int x m y f
  |str y=>
   obtain⟨f,rfl⟩:=h;simpa [aG,JD] using SeqAt.RcNeAt.str_str x m y f
  |tup y=>
   obtain⟨t,l,rfl,ty,o⟩:=h;simpa [aG] using SeqAt.RcNeAt.str_tuple x m ty j
  |lst y=>
   obtain⟨t,l,rfl,ty,o⟩:=h;simpa [aG] using SeqAt.RcNeAt.str_list x m ty j
  |_=>exact(show False from h).elim
 |tup x=>
  obtain⟨I,z,rfl,q,C⟩:=v;cases e with
  |non=>
   cases h;simpa [aG] using SeqAt.RcNeAt.tuple_none q j
  |bl y=>
   cases h;simpa [aG] using SeqAt.RcNeAt.tuple_bool y q j
  |int y=>
   obtain⟨f,rfl⟩:=h;simpa [aG] using SeqAt.RcNeAt.tuple_int y f q j
  |str y=>
   obtain⟨f,rfl⟩:=h;simpa [aG] using SeqAt.RcNeAt.tuple_str y f q j
  |tup y=>
   obtain⟨t,l,rfl,ty,o⟩:=h;exact yW q ty C o G E F
  |lst y=>
   obtain⟨t,l,rfl,ty,o⟩:=h;simpa [aG] using SeqAt.RcNeAt.tuple_list q ty j
  |_=>exact(show False from h).elim
 |lst x=>
  obtain⟨I,z,rfl,q,C⟩:=v;cases e with
  |non=>
   cases h;simpa [aG] using SeqAt.RcNeAt.list_none q j
  |bl y=>
   cases h;simpa [aG] using SeqAt.RcNeAt.list_bool y q j
  |int y=>
   obtain⟨f,rfl⟩:=h;simpa [aG] using SeqAt.RcNeAt.list_int y f q j
  |str y=>
   obtain⟨f,rfl⟩:=h;simpa [aG] using SeqAt.RcNeAt.list_str y f q j
  |tup y=>
   obtain⟨t,l,rfl,ty,o⟩:=h;simpa [aG] using SeqAt.RcNeAt.list_tuple q ty j
  |lst y=>
   obtain⟨t,l,rfl,ty,o⟩:=h;exact zr q ty C o G E F
  |_=>exact(show False from h).elim
 |_=>exact(show False from v).elim
section
variable{RE:RU}
mutual
theorem yg(I:Inv X RE Y H s):∀{n:Nat}{d:D}{v:V}{u:c0},bn n d=true->Rp X.K H d v->RelV v u->Hr s.heap d u
 |_,.non,v,u,_,r,q=>by cases r;exact q
 |_,.bl _,v,u,_,r,q=>by cases r;exact q
 |_,.int _,v,u,_,r,q=>by cases r;exact q
 |_,.str _,v,u,_,r,q=>by cases r;exact q
 |n+1,.tup xs,v,u,f,r,q=>by
  obtain⟨p,l,rfl,t,r⟩:=r;cases q;obtain⟨RK,j,h,_⟩:=I.tuple t.sq;exact⟨p,RK,rfl,h,gG I (n:=n) f r j⟩
 |n+1,.lst xs,v,u,f,r,q=>by
  obtain⟨p,l,rfl,t,r⟩:=r;cases q;obtain⟨RK,j,h,_⟩:=I.list t.sq;exact⟨p,RK,rfl,h.isList,gG I (n:=n) f r j⟩
 |0,.tup _,_,_,f,_,_=>by simp[bn]at f
 |0,.lst _,_,_,f,_,_=>by simp[bn]at f
 |_,.ty _,_,_,f,_,_=>by simp[bn]at f
 |_,.ref _,_,_,f,_,_=>by simp[bn]at f
 |_,.mt _,_,_,f,_,_=>by simp[bn]at f
 |_,.ml _,_,_,f,_,_=>by simp[bn]at f
theorem gG(I:Inv X RE Y H s):∀{n:Nat}{ds:List D}{vs:List V}{us:RO},cR n ds=true->Rps X.K H ds vs->Vals vs us->Hrs s.heap ds us
 |_,[],vs,us,_,r,q=>by cases r;cases q;rfl
 |n,d::ds,vs,us,f,r,q=>by
  obtain⟨v,h,rfl,a,b⟩:=r;rw[cR,J3]at f;cases q with
  |cons q1 q2=>exact⟨_,_,rfl,yg I f.1 a q1,gG I f.2 b q2⟩
end
def dv(M:Mem):D->D
 |.ref a=>match M a with
  |some (.lst xs)=>.lst xs
  |_=>.ref a
 |d=>d
theorem oy(I:Inv X RE Y H s){d:D}{v:V}(o:RepH X.K H M)(f:bn n (dv M d)=true)(r:Rp X.K H d v)(q:RelV v u):Hr s.heap (dv M d) u:=by
 cases d with
 |ref a=>
  cases r;simp only[dv]at f ⊢
  split at f
  .rename_i t e
   obtain⟨w,h,j⟩:=o _ _ e;obtain⟨RK,m,l,_⟩:=I.list (SqL.of h);cases q;cases n with
   |zero=>simp[bn]at f
   |succ n=>exact⟨a,RK,rfl,l.isList,gG I (n:=n) f j m⟩
  .simp[bn]at f
 |_=>exact yg I f r q
def cP:eI:=λx y M Q=>bn 60 (dv M x)=true/\bn 60 (dv M y)=true/\Q (.bl<|aG (dv M x)<|dv M y) M
def x6:eI:=λx y M Q=>bn 60 (dv M x)=true/\bn 60 (dv M y)=true/\Q (.bl<|!aG (dv M x) (dv M y)) M
theorem yC(C:X.A.units+64<rz):bZ X (md .Eq) (liftR2 X cP):=by
 intro RE s Y H x y v u Q I t m h;obtain⟨w,z,M,QQ,f,l,q,⟨f1,j,h⟩,o⟩:=h;exact HX (oy I f f1 l t) (oy I f j q m) f1 j (by lia) _ _ _ _ ⟨.bl _,H,I,rfl,o _ M h _ H f am rfl⟩
theorem E3(C:X.A.units+64<rz):bZ X (md .NotEq) (liftR2 X x6):=by
 intro RE s Y H x y v u Q I t m h;obtain⟨w,z,M,QQ,f,l,q,⟨f1,j,h⟩,o⟩:=h;exact Cj (oy I f f1 l t) (oy I f j q m) f1 j (by lia) _ _ _ _ ⟨.bl _,H,I,rfl,o _ M h _ H f am rfl⟩
open Classical in
noncomputable def zZ(h:i5)(x:D)(u:c0):Bool:=if q:∃d,Hr h d u then aG q.choose x else eo
theorem zh{h:i5}{x d:D}(r:Hr h d u):zZ h x u=aG d x:=by
 have q:∃d,Hr h d u:=⟨d,r⟩;unfold zZ;rw[dif_pos q,zS q.choose_spec r]
theorem ny{h:i5}{x:D}:∀{ds:List D}{us:RO},Hrs h ds us->us.any (zZ h x)=ds.any λd=>aG d x
 |[],_,r=>by cases r;rfl
 |d::ds,_,r=>by
  obtain⟨v,f,rfl,a,b⟩:=r;rw[Kn,Kn,zh a,ny b]
theorem lZ{A:j0}{n:Nat}{x:D}{w:c0}(m:Hr s.heap x w)(l:bn n x=true)(j:A.units+n<rz):∀{ds:List D}{us:RO},Hrs s.heap ds us->cR n ds=true->∀u∈us,L6 A s u w (zZ s.heap x u)
 |[],_,r,_,u,j=>by cases r;cases j
 |d::ds,_,r,f,u,h=>by
  obtain⟨v,o,rfl,a,b⟩:=r;rw[cR,J3]at f;rcases Jq.mp h with rfl|h
  .rw[zh a];exact CY n a m f.1 l j
  .exact lZ m l j b f.2 u h
def pe(M:Mem)(x y:D):Option Bool:=match aT M y with
 |some xs=>if bn 60 (dv M x)=true/\cR 60 xs=true then al (xs.any λd=>aG d (dv M x)) else ee
 |none=>match y with
  |.ref a=>match mh M a x with
   |some o=>al o.isSome
   |none=>ee
  |_=>ee
def vt:eI:=λx y M Q=>match pe M x y with
 |some k=>Q (.bl k) M
 |none=>False
theorem qG(U:X.A.units+64<rz):bZ X (md .In) (liftR2 X vt):=by
 intro RE s Y H x y v u Q I z G h;obtain⟨l,R,M,QQ,q,E,J,h,L⟩:=h;unfold vt at h
 split at h
 .rename_i k e
  have j:=L _ M h _ H q am rfl;unfold pe at e
  split at e
  .rename_i T N
   split at e
   .rename_i f
    cases e;obtain⟨p,S,rfl,hq,r⟩:=jz q J N;cases G;have F:=oy I q f.1 E z;rcases hq with hq|hq
    .obtain⟨RK,t,pl,_⟩:=I.list hq
     have m:=gG I f.2 r t;refine SeqAt.in_listAt (zZ s.heap<|dv M l) pl.isList (λw C=>lZ F f.1 (by show X.A.units+1+60<rz;lia) m f.2 w (by simpa using C)) ⟨.bl _,H,I,rfl,?_⟩
     rw[show RK.toArray.any (zZ s.heap<|dv M l)=RK.any (zZ s.heap<|dv M l) by simp,ny m]
     exact j
    .obtain⟨RK,t,pl,_⟩:=I.tuple hq
     have m:=gG I f.2 r t;refine SeqAt.in_tupleAt (zZ s.heap<|dv M l) pl (λw C=>lZ F f.1 (by show X.A.units+1+60<rz;lia) m f.2 w (by simpa using C)) ⟨.bl _,H,I,rfl,?_⟩
     rw[show RK.toArray.any (zZ s.heap<|dv M l)=RK.any (zZ s.heap<|dv M l) by simp,ny m]
     exact j
   .cases e
  .split at e
   .split at e
    .rename_i o O
     cases e;cases J;cases G;rcases m9 q E O with⟨rfl,g⟩|⟨d,w,rfl,g,_⟩
     .exact GY (by lia) I g z λP I'=>⟨.bl _,H,I',rfl,j⟩
     .exact GY (by lia) I g z λP I'=>⟨.bl _,H,I',rfl,j⟩
    .cases e
   .cases e
 .exact h.elim
end
structure DEnds where
 nx:Dl->Mem->Prop
 rt:DK
 bk:Dl->Mem->Prop:=λ_ _=>False
 ct:Dl->Mem->Prop:=λ_ _=>False
abbrev ar:=DEnds->Dl->Mem->Prop
def UpN(X:Cx)(B:Bd)(M:Mem)(H:Hp)(QQ:Dl->Mem->Prop)(Q:L2.St->Hp->Prop):Prop:=∀U M',QQ U M'->∀Y H',Frm M H M' H'->SR X B U M' Y H'->Q Y H'
theorem UpN.go{M1:Mem}{H1:Hp}{QQ:Dl->Mem->Prop}{Q:L2.St->Hp->Prop}(u:UpN X B M H QQ Q)(i:Frm M H M1 H1):UpN X B M1 H1 QQ Q:=λU M q Y H' a b=>u U M q Y H' (i.trans a) b
structure UpD(X:Cx)(B:Bd)(M:Mem)(H:Hp)(DD:DEnds)(D:Ends):Prop where
 nx:UpN X B M H DD.nx D.nx
 rt:Up X.K M H DD.rt D.rt
 bk:UpN X B M H DD.bk D.bk
 ct:UpN X B M H DD.ct D.ct
theorem UpD.go{M1:Mem}{H1:Hp}{DD:DEnds}{D:Ends}(u:UpD X B M H DD D)(i:Frm M H M1 H1):UpD X B M1 H1 DD D:=⟨u.nx.go i,u.rt.go i,u.bk.go i,u.ct.go i⟩
inductive liftS(X:Cx)(B:Bd)(T:ar)(D:Ends)(Y:St)(H:Hp):Prop
 |mk (U:Dl) (M:Mem) (DD:DEnds) (s:SR X B U M Y H) (h:T DD U M) (u:UpD X B M H DD D):liftS X B T D Y H
def DS(X:Cx)(B:Bd)(st:q0)(T:ar):Prop:=PS X st (liftS X B T)
def qb(X:Cx)(B:Bd)(st:RS)(T:ar):Prop:=qc X st (liftS X B T)
section
variable{st:q0}{rest:RS}{t u:ar}
def aP:ar:=λD U M=>D.nx U M
def ah(t u:ar):ar:=λD U M=>t { D with nx:=u D } U M
theorem BS:qb X B [] aP:=kf C7 λD Y H ⟨U,M,DD,s,h,f⟩=>f.nx U M h Y H am s
theorem cW(o:DS X B st t)(v:qb X B rest u):qb X B (st::rest) (ah t u):=by
 refine kf (yX o v) ?_
 rintro D Y H ⟨U,M,DD,s,h,f⟩
 exact⟨U,M,{ DD with nx:=u DD },s,h,⟨λj M' q l H' i m=>⟨j,M',DD,m,q,f.go i⟩,f.rt,f.bk,f.ct⟩⟩
theorem el(f:DS X B st t):qb X B [st] t:=Am f
def aX(te:aV):ar:=λD U M=>te U M λ_ M1=>D.nx U M1
theorem A_(m:DE X B e te)(l:rc e ee pos.line X.env=pure false:=by rfl):DS X B (.Expr e pos) (aX te):=by
 refine ba (Be m l) ?_
 rintro D Y H ⟨U,M,DD,s,h,j⟩
 exact⟨U,M,_,s,h,λd M' q v H' f i r=>j.nx U M' q Y H' i (s.go f i)⟩
def aC(te:aV):ar:=λD U M=>te U M D.rt
theorem FK(j:DE X B e te):DS X B (.Return (al e) pos) (aC te):=by
 refine ba (E7 j) ?_
 rintro D Y H ⟨U,M,DD,s,h,f⟩
 exact⟨U,M,_,s,h,f.rt⟩
def aU(c:dq)(t u:ar):ar:=λD U M=>c U M λb M1=>if b=true then t D U M1 else u D U M1
theorem GK{a b:RS}{l:dq}(v:DT X B c l)(o:qb X B a t)(m:qb X B b u):DS X B (.If c a b pos) (aU l t u):=by
 refine ba (Iy v o m) ?_
 rintro D Y H ⟨U,M,DD,s,h,j⟩
 refine⟨U,M,_,s,h,λc M' q H' f i=>?_⟩;cases c with
 |true=>rw[if_pos rfl]at q ⊢;exact⟨U,M',DD,s.go f i,q,j.go i⟩
 |false=>rw[if_neg Js]at q ⊢;exact⟨U,M',DD,s.go f i,q,j.go i⟩
abbrev ic:=D->Dl->Mem->(Dl->Mem->Prop)->Prop
abbrev oh:=List D->Dl->Mem->(Dl->Mem->Prop)->Prop
inductive liftG(X:Cx)(B:Bd)(g:ic)(v:V)(Y:St)(H:Hp)(Q:St->Hp->Prop):Prop
 |mk (d:L3.D) (U:Dl) (M:Mem) (QQ:Dl->Mem->Prop) (s:SR X B U M Y H) (r:Rp X.K H d v) (h:g d U M QQ) (u:UpN X B M H QQ Q):liftG X B g v Y H Q
inductive liftGs(X:Cx)(B:Bd)(g:oh)(vs:List V)(Y:St)(H:Hp)(Q:St->Hp->Prop):Prop
 |mk (ds:List L3.D) (U:Dl) (M:Mem) (QQ:Dl->Mem->Prop) (s:SR X B U M Y H) (r:Rps X.K H ds vs) (h:g ds U M QQ) (u:UpN X B M H QQ Q):liftGs X B g vs Y H Q
def DG(X:Cx)(B:Bd)(tg:fx)(g:ic):Prop:=PG X tg (liftG X B g)
def DGs(X:Cx)(B:Bd)(tgs:RQ)(g:oh):Prop:=ER X tgs (liftGs X B g)
theorem iF{t t':TG}(h:PG X tg t)(w:∀v Y H Q,t' v Y H Q->t v Y H Q):PG X tg t':=λf s Y H v u Q I r q=>h f s Y H v u Q I r (w v Y H Q q)
theorem pP{tg:RQ}{t t':Dh}(h:ER X tg t)(w:∀v Y H Q,t' v Y H Q->t v Y H Q):ER X tg t':=λf s Y H v u Q I r q=>h f s Y H v u Q I r (w v Y H Q q)
theorem SR.set{U:Dl}{d:D}{v:V}(s:SR X B U M Y H)(r:Rp X.K H d v):SR X B (U.set i<|some d) M (Y.set i<|some v) H:=⟨s.i0,s.rh,s.rs.set r⟩
def ag(i:Nat):ic:=λd U M Q=>Q (U.set i<|some d) M
theorem BV(m:X.N.Nodup)(j:X.N[i]?=al x)(f:qD X.env.scope x)(l:X.fn x=true\/X.env.scope.names.lookup x=al .local:=by first|exact .inl rfl|exact .inr rfl|assumption):DG X B (.Name x pos) (ag i):=by
 refine iF (Bu m j f l) ?_
 rintro v Y H Q ⟨d,U,M,QQ,s,r,h,u⟩
 exact u _ M h _ H am (s.set r)
def kT:oh:=λf U M Q=>match f with
 |[]=>Q U M
 |_=>False
def bN(t:ic)(u:oh):oh:=λh U M Q=>match h with
 |d::r=>t d U M λf M'=>u r f M' Q
 |[]=>False
theorem BO:DGs X B [] kT:=by
 refine pP AA ?_
 rintro v Y H Q ⟨f,U,M,QQ,s,r,h,u⟩
 cases f with
 |nil=>exact⟨r,u U M h Y H am s⟩
 |cons _ _=>exact(show False from h).elim
theorem yL{t:ic}{u:oh}(C:DG X B e t)(F:DGs X B es u)(E:(KE (e::es) X.env).map (·.2)=Qz e X.env::(KE es X.env).map (·.2):=by rfl):DGs X B (e::es) (bN t u):=by
 refine pP (zG C F E) ?_
 rintro v Y H Q ⟨j,U,M,QQ,s,r,h,o⟩
 cases j with
 |nil=>exact(show False from h).elim
 |cons d j=>
  obtain⟨v1,l,rfl,m,w⟩:=r;refine⟨v1,l,rfl,d,U,M,_,s,m,h,λf M' q y H' i z=>?_⟩;exact⟨j,f,M',QQ,z,w.mf s.rh i,q,o.go i⟩
def kM(n:Nat)(t:oh):ic:=λd U M Q=>match d with
 |.tup xs=>xs.length=n/\t xs U M Q
 |_=>False
theorem EJ{k:Nat}{t:oh}(o:X.calm=true)(h:DGs X B es t)(m:(KE es X.env).length=n:=by rfl)(hst:(KE es X.env).findIdx? (·.1)=none:=by rfl):DG X B (.Tuple es k pos) (kM n t):=by
 refine iF (F4 o h m hst) ?_
 rintro v Y H Q ⟨d,U,M,QQ,s,r,h,j⟩
 cases d with
 |tup xs=>
  obtain⟨p,l,rfl,f,r⟩:=r;exact⟨p,l,rfl,f.sq,by rw[<- r.length];exact h.1,xs,U,M,QQ,s,r,h.2,j⟩
 |_=>exact(show False from h).elim
def au(te:aV)(g:ic):ar:=λD U M=>te U M λx M1=>g x U M1 D.nx
theorem FY(m:DE X B e te)(o:DG X B tg g)(l:swapsWithSole [tg] e pos.line X.env=pure false:=by rfl)(hw:swappedStores [tg] e X.env=pure none:=by rfl)(h1:(KE [tg] X.env).map (·.2)=[Qz tg X.env]:=by rfl):DS X B (.Assign [tg] e pos) (au te g):=by
 refine ba (G1 m o l hw h1) ?_
 rintro D Y H ⟨U,M,DD,s,h,j⟩
 refine⟨U,M,_,s,h,λd M' q v H' f i r=>?_⟩;exact⟨d,U,M',DD.nx,s.go f i,r,q,j.nx.go i⟩
theorem EL(y:X.N.Nodup)(o:X.N[i]?=al x)(m:qD X.env.scope x)(l:DE X B e te)(w:rc e (al<|.Name x pos') pos.line X.env=pure false:=by rfl)(hf:X.fn x=true\/X.env.scope.names.lookup x=al .local:=by first|exact .inl rfl|exact .inr rfl|assumption):
  DS X B (.Assign [.Name x pos'] e pos) (au te<|ag i):=by
 refine ba (E5 y o m l w hf) ?_
 rintro D Y H ⟨U,M,DD,s,h,j⟩
 refine⟨U,M,_,s,h,λd M' q v H' f i r=>?_⟩;exact j.nx _ M' q _ H' i ((s.go f i).set r)
def xa(i:Nat)(te:aV)(r:eI):ar:=λD U M=>match U[i]? with
 |some (al x)=>te U M λy M1=>r x y M1 λz M2=>D.nx (U.set i<|some z) M2
 |_=>False
theorem FO{o:Qo}{r:eI}(T:X.N.Nodup)(R:X.N[i]?=al x)(P:qD X.env.scope x)(O:DE X B e te)(S:Bv X o (liftR2 X r))(Q:X.fn x=true\/X.env.scope.names.lookup x=al .local:=by first|exact .inl rfl|exact .inr rfl|assumption):
  DS X B (.AugAssign (.Name x pos') o e pos) (xa i te r):=by
 refine ba (DN T R P O S Q) ?_
 rintro D Y H ⟨U,M,DD,s,h,E⟩
 unfold xa at h
 split at h
 .rename_i l G
  obtain⟨v,L,C⟩:=s.rs.get i l G;refine⟨v,L,U,M,_,s,h,λy M1 I w H1 f i1 q=>?_⟩;refine⟨l,y,M1,_,f,C.mf s.rh i1,q,I,λz M2 J W H2 j m F=>?_⟩;exact E.nx _ M2 J _ H2 (i1.trans m) ((s.go j<|i1.trans m).set F)
 .exact h.elim
theorem GN{m:Qo}{g:Int->Int->Int}(h:Bv X m (ipI g)):Bv X m (liftR2 X (oP λi j=>.int (g i j))):=by
 intro l s Y H x y v u Q I C q f;obtain⟨F,G,M,QQ,E,o,z,f,w⟩:=f;unfold oP at f
 split at f
 .cases o;cases z
  exact h l s Y H _ _ v u Q I C q ⟨_,_,rfl,rfl,w _ M f _ H E am rfl⟩
 .exact f.elim
abbrev t6:eI:=oP λi j=>.int (i+j)
theorem tq:Bv X .Add (liftR2 X t6):=GN Ec
def rf(o i v:D)(M:Mem)(Q:Mem->Prop):Prop:=match o with
 |.ref a=>match M a,i with
  |some (.lst xs),.int k=>match qQ xs.length k with
   |some j=>Q (M.upd a<|.lst<|xs.set j v)
   |none=>False
  |some (.dK RG),y=>match bA y with
   |some k=>RG.length<sizeLine/\Q (M.upd a<|.dK<|bX RG k v)
   |none=>False
  |some (.dT RG),y=>match Ew y with
   |some k=>RG.length<sizeLine/\Q (M.upd a<|.dT<|bX RG k v)
   |none=>False
  |_,_=>False
 |_=>False
inductive liftSet(X:Cx)(o i v:V)(H:Hp)(Q:Hp->Prop):Prop
 |mk (d1 d2 d3:L3.D) (M:Mem) (QQ:Mem->Prop) (rh:RepH X.K H M) (r1:Rp X.K H d1 o) (r2:Rp X.K H d2 i) (r3:Rp X.K H d3 v) (h:rf d1 d2 d3 M QQ) (u:∀M',QQ M'->∀H',RepH X.K H' M'->Frm M H M' H'->Q H'):liftSet X o i v H Q
theorem uE(hu:X.A.units+1<rz):Bl X (liftSet X):=by
 intro RE s Y H o i v ov iv u Q I ro ri rv h;obtain⟨d1,d2,d3,M,QQ,rh,r1,r2,r3,h,up⟩:=h;unfold rf at h
 split at h
 .rename_i a
  cases r1;cases ro
  split at h
  .rename_i xs k hM
   cases r2;obtain⟨vs,h1,h2⟩:=rh _ _ hM
   split at h
   .rename_i j ej
    refine yz RE s Y H (.ref a) _ v _ iv u Q I rfl ri rv ⟨a,vs,k,j,rfl,rfl,h1,by rw[<- h2.length];exact ej,?_⟩
    have i2:Imm H (upd H a<|.lst<|vs.set j v):=Imm.upd (by rw[h1];trivial)
    exact up _ h _ (rh.put (by rw[h1];trivial) ⟨_,upd_same,(h2.set r3 j).mono i2⟩) (Frm.put<|.inr ⟨_,hM⟩)
   .exact h.elim
  .rename_i RG hM
   obtain⟨ws,h1,h2⟩:=rh _ _ hM
   split at h
   .rename_i k ek
    have ev:=eF r2 ek;subst ev;have i2:Imm H (upd H a<|.dK<|bE ws k v):=Imm.upd (by rw[h1];trivial)
    refine lF hu I (DPut.k h1<|by rw[<- h2.length];exact h.1) ri rv λs' I'=>⟨_,I',?_⟩
    exact up _ h.2 _ (rh.put (by rw[h1];trivial) ⟨_,upd_same,(h2.put k r3).mono i2⟩) (Frm.put<|.inr ⟨_,hM⟩)
   .exact h.elim
  .rename_i RG hM
   obtain⟨ws,h1,h2⟩:=rh _ _ hM
   split at h
   .rename_i k ek
    obtain⟨b,rfl,hb⟩:=oY r2 ek;have i2:Imm H (upd H a<|.dT<|bE ws k v):=Imm.upd (by rw[h1];trivial)
    refine lF hu I (Gf h1 hb<|by rw[<- h2.length];exact h.1) ri rv λs' I'=>⟨_,I',?_⟩
    exact up _ h.2 _ (rh.put (by rw[h1];trivial) ⟨_,upd_same,(h2.put k r3).mono i2⟩) (Frm.put<|.inr ⟨_,hM⟩)
   .exact h.elim
  .exact h.elim
 .exact h.elim
def kR(to ti:aV):ic:=λv U M Q=>to U M λo M1=>ti U M1 λi M2=>rf o i v M2 λM3=>Q U M3
theorem ET{o i:fx}{to ti:aV}(N:X.A.units+1<rz)(J:DE X B o to)(L:DE X B i ti)(O:∀v,Qz (.Subscript o i pos) X.env v=(do
   let ov <- vr [v] (g5 o X.env)
   let iv <- vr [v,ov] (g5 i X.env)
   Qg pos
   vr [v,ov,iv] (QS ov iv v)
   release [v,ov,iv] []):=by intro _;rfl):DG X B (.Subscript o i pos) (kR to ti):=by
 refine iF (EB J L (uE N) O) ?_
 rintro v Y H Q ⟨d,U,M,QQ,s,r,h,C⟩
 refine⟨U,M,_,s,h,λx M1 F v1 H1 f j z=>?_⟩;refine⟨U,M1,_,s.go f j,F,λy M2 G v2 H2 q l E=>?_⟩;exact⟨x,y,d,M2,_,q,z.mf f l,E,r.mf s.rh (j.trans l),G,λM3 I H3 m w=>C U M3 I Y H3 ((j.trans l).trans w) (s.go m<|(j.trans l).trans w)⟩
end
section
variable{o value:fx}{f:Str}{tpos:Pos}{ta tv:aV}{C:eg}
def bd(f:Str)(v:D):List (Str×D)->List (Str×D)
 |[]=>[(f,v)]
 |(g,w)::r=>if g=f then (g,v)::r else (g,w)::bd f v r
theorem Rkv.lookup{fs:List (Str×D)}{j:List (Str×V)}(h:Rkv K H fs j)(f:Str):(fs.lookup f=ee/\j.lookup f=ee)\/∃d v,fs.lookup f=al d/\j.lookup f=al v/\Rp K H d v:=by
 induction h with
 |nil=>exact .inl ⟨rfl,rfl⟩
 |@cons p q ps qs r t ih=>
  obtain⟨l,d⟩:=p;obtain⟨m,v⟩:=q;obtain⟨e,r⟩:=r;dsimp only at e r;subst e;rw[MV,MV];cases w:f==l with
  |true=>exact .inr ⟨d,v,rfl,rfl,r⟩
  |false=>exact ih
theorem Cp(f:Str)(v:V):∀h:List (Str×V),bR f v h=(match h with|[]=>[(f,v)]|(g,w)::r=>if g=f then (g,v)::r else (g,w)::bR f v r)
 |[]=>rfl
 |(g,w)::r=>by rw[bR]
theorem gl{K:Jd}{H:Hp}{f:Str}{d:D}{v:V}(h:Rp K H d v):∀{fs:List (Str×D)}{ws:List (Str×V)},Rkv K H fs ws->Rkv K H (bd f d fs) (L2.bR f v ws)
 |_,_,.nil=>.cons ⟨rfl,h⟩ .nil
 |(k1,d1)::fs,(k2,v1)::ws,.cons r t=>by
  obtain⟨e,r⟩:=r;dsimp only at e r;subst e;rw[Cp];show Rkv K H (if k1=f then (k1,d)::fs else (k1,d1)::bd f d fs) (if k1=f then (k1,v)::ws else (k1,v1)::L2.bR f v ws)
  split
  .exact .cons ⟨rfl,h⟩ t
  .exact .cons ⟨rfl,r⟩ (gl h t)
def aO(C:eg)(ta:aV)(f:Str):aV:=λU M Q=>ta U M λx M1=>match x with
 |.ref a=>match M1 a with
  |some (.ins C' fs)=>C'=C/\match fs.lookup f with
   |some d=>Q d M1
   |none=>False
  |_=>False
 |_=>False
theorem FM(c:Cls X.K C)(n:NoAttr X.K C f)(I:DE X B e ta)(J:n7 e f X.env (g5 e X.env)=g5 e X.env:=by rfl):DE X B (.Attribute e f pos) (aO C ta f):=by
 refine aJ (E_ I J) ?_
 rintro Y H Q ⟨U,M,QQ,s,h,u⟩
 refine⟨U,M,_,s,h,λx M1 j v1 H1 l y t=>?_⟩
 split at j
 .rename_i a
  cases t
  split at j
  .rename_i C' fs E
   obtain⟨rfl,j⟩:=j;obtain⟨q,F,G,w⟩:=l _ _ E
   split at j
   .rename_i d m
    rcases w.lookup f with⟨z,_⟩|⟨d',v,z1,z2,z3⟩
    .rw[m]at z;cases z
    .rw[m]at z1;cases z1
     exact⟨a,_,q,F,v,rfl,G,c,n,z2,u _ M1 j _ H1 l y z3⟩
   .exact j.elim
  .exact j.elim
 .exact j.elim
def bP(C:eg)(ta tv:aV)(f:Str):ar:=λD U M=>tv U M λy M1=>ta U M1 λx M2=>match x with
 |.ref a=>match M2 a with
  |some (.ins C' fs)=>C'=C/\fs.length<1000/\D.nx U (M2.upd a<|.ins C<|bd f y fs)
  |_=>False
 |_=>False
theorem FS(c:Cls X.K C)(n:NoAttr X.K C f)(ha:DE X B o ta)(hv:DE X B value tv)(hs:rc value (al<|.Attribute o f pos') pos.line X.env=pure false:=by rfl):DS X B (.Assign [.Attribute o f pos'] value pos) (bP C ta tv f):=by
 refine ba (Er ha hv hs) ?_
 rintro D Y H ⟨U,M,DD,s,h,up⟩
 refine⟨U,M,_,s,h,λy M1 h1 v1 H1 rh1 i1 r1=>?_⟩;refine⟨U,M1,_,s.go rh1 i1,h1,λx M2 h2 v2 H2 rh2 i2 r2=>?_⟩
 split at h2
 .rename_i a
  cases r2
  split at h2
  .rename_i C' fs hM
   obtain⟨rfl,hl,h2⟩:=h2;obtain⟨dx,ws,e1,e2⟩:=rh2 _ _ hM;have i3:Frm M2 H2 (M2.upd a<|.ins C'<|bd f y fs) (upd H2 a<|.ins C' dx<|L2.bR f v1 ws):=Frm.put (.inr ⟨_,hM⟩);refine⟨a,C',dx,ws,rfl,e1,c,n,by rw[<- e2.length];exact hl,up.nx _ _ h2 Y _ ((i1.trans i2).trans i3)<|s.go (rh2.put (by rw[e1];trivial) ⟨dx,_,upd_same,?_⟩)<|(i1.trans i2).trans i3⟩
   exact(gl (r1.mf rh1 i2) e2).mono (i3.imm rh2)
  .exact h2.elim
 .exact h2.elim
structure BxW(c:dq)(tb:ar)(D:DEnds):Type
structure BxF(g:ic)(tb:ar)(D:DEnds)(ok:Mem->Prop):Type
def bv(c:dq)(tb:ar)(D:DEnds)(bx:BxW c tb D):Nat->Dl->Mem->Prop
 |0,_,_=>False
 |n+1,U,M=>c U M λb M1=>if b=true then tb { D with nx:=bv c tb D bx n,ct:=bv c tb D bx n,bk:=D.nx } U M1 else D.nx U M1
def dj(c:dq)(tb:ar):ar:=λD U M=>∃n,bv c tb D ⟨⟩ n U M
theorem zI{l:RS}{F:dq}(R:Rh (fm X.prog X.w) X.A X.env X.xe)(T:DT X B c F)(S:qb X B l tb):DS X B (.While c l [] pos) (dj F tb):=by
 refine ba (yH R T S) ?_
 rintro D Y H ⟨U,M,DD,s,⟨n,h⟩,J⟩
 refine⟨λm j H'=>∃δ' M',SR X B δ' M' j H'/\Frm M H M' H'/\bv F tb DD ⟨⟩ m δ' M',⟨n,U,M,s,am,h⟩,?_⟩
 rintro m O H1 ⟨E,M1,G,i1,Q⟩
 cases m with
 |zero=>exact(show False from Q).elim
 |succ m=>
  refine⟨E,M1,_,G,Q,λb M2 q H2 y v=>?_⟩;cases b with
  |false=>rw[if_neg Js]at q ⊢;exact J.nx _ _ q O H2 (i1.trans v) (G.go y v)
  |true=>
   rw[if_pos rfl]at q ⊢;refine⟨λj H'=>∃δ' M',SR X B δ' M' j H'/\Frm M H M' H'/\bv F tb DD ⟨⟩ m δ' M',λj H' z=>⟨m,L9 _,z⟩,?_⟩;refine⟨E,M2,_,G.go y v,q,⟨?_,(J.go<|i1.trans v).rt,(J.go<|i1.trans v).nx,?_⟩⟩
   .exact λt M3 I P H3 N L=>⟨t,M3,L,(i1.trans v).trans N,I⟩
   .exact λt M3 I P H3 N L=>⟨t,M3,L,(i1.trans v).trans N,I⟩
structure DIt where
 items:List D
 src:List (eg×List D)
def DIt.ok(I:DIt)(M:Mem):Prop:=∀p∈I.src,M p.1=al (.lst p.2)
abbrev tQ:=Dl->Mem->(DIt->Mem->Prop)->Prop
def IC(K:Jd)(H0:Hp)(it:DIt)(J:It):Prop:=∀(i:Nat)(H:Hp)(M:Mem),Imm H0 H->RepH K H M->it.ok M->
 (∀d,it.items[i]?=al d->J.go i H/\∀x H',J.yld i H x H'->Frm M H M H'/\RepH K H' M/\Rp K H' d x)/\(it.items.length<=i->J.stop i H)
inductive liftI(X:Cx)(B:Bd)(T:tQ)(Y:St)(H:Hp)(R:It->Hp->Prop):Prop
 |mk (U:Dl) (M:Mem) (RR:DIt->Mem->Prop) (s:SR X B U M Y H) (h:T U M RR) (u:∀it M',RR it M'->∀J H',RepH X.K H' M'->Frm M H M' H'->IC X.K H' it J->R J H'):liftI X B T Y H R
def DI(X:Cx)(B:Bd)(tg iter:fx)(T:tQ):Prop:=PI X tg iter (liftI X B T)
theorem eB{j:fx}{t t':TI}(h:PI X tg j t)(w:∀Y H Q,t' Y H Q->t Y H Q):PI X tg j t':=λl s Y H Q I q=>h l s Y H Q I (w Y H Q q)
def qR(g:ic)(tb:ar)(DD:DEnds)(ok:Mem->Prop)(b:BxF g tb DD ok):List D->Dl->Mem->Prop
 |[],U,M=>ok M/\DD.nx U M
 |x::xs,U,M=>ok M/\g x U M λh M2=>tb { DD with nx:=qR g tb DD ok b xs,ct:=qR g tb DD ok b xs,bk:=DD.nx } h M2
def cc(wi:tQ)(g:ic)(tb:ar):ar:=λD U M=>wi U M λh M1=>qR g tb D h.ok ⟨⟩ h.items U M1
theorem C9{DD:DEnds}{ok:Mem->Prop}{b:BxF g tb DD ok}{xs:List D}{U:Dl}(h:qR g tb DD ok b xs U M):ok M:=by
 cases xs with
 |nil=>exact h.1
 |cons _ _=>exact h.1
theorem Ei{j:fx}{v:RS}{wi:tQ}(hp:Rh (fm X.prog X.w) X.A X.env X.xe)(hc:X.calm=true)(hi:DI X B tg j wi)(hg:DG X B tg g)(hb:qb X B v tb)(hs:∀x,rg j X.env x=pure x:=by intro _;rfl):DS X B (.For tg j v [] pos) (cc wi g tb):=by
 refine ba (El hp hc hi hg hb hs) ?_
 rintro D Y H ⟨U,M,DD,s,h,P⟩
 refine⟨U,M,_,s,h,λt M1 h1 J H1 I i1 hJ=>?_⟩;refine⟨λi m q H'=>m=t.items.length-i/\i<=t.items.length/\∃δ' M',SR X B δ' M' q H'/\Frm M1 H1 M' H'/\qR g tb DD t.ok ⟨⟩ (t.items.drop i) δ' M',⟨_,rfl,Kv _,U,M1,s.go I i1,am,h1⟩,?_⟩
 rintro i m σ2 H2 ⟨rfl,hi',Q,M2,S,i2,G⟩
 have hok:=C9 G;obtain⟨T,y⟩:=hJ i H2 M2 (i2.imm I) S.rh hok
 by_cases E:i<t.items.length
 .rw[KU E]at G
  obtain⟨go,hy⟩:=T _ (Je E);refine .inr ⟨go,λq H'=>∃δ' M',SR X B δ' M' q H'/\Frm M1 H1 M' H'/\qR g tb DD t.ok ⟨⟩ (t.items.drop (i+1)) δ' M',λq H' z=>⟨t.items.length-(i+1),by omega,rfl,E,z⟩,λx H3 hx=>?_⟩
  obtain⟨i3,L,rx⟩:=hy x H3 hx;refine⟨_,Q,M2,_,S.go L i3,rx,G.2,λN M4 h4 σ4 H4 i4 s4=>?_⟩;have l:=(i2.trans i3).trans i4;refine⟨N,M4,_,s4,h4,⟨?_,(P.go<|i1.trans l).rt,(P.go<|i1.trans l).nx,?_⟩⟩
  .exact λF M5 O Z H5 R W=>⟨F,M5,W,l.trans R,O⟩
  .exact λF M5 O Z H5 R W=>⟨F,M5,W,l.trans R,O⟩
 .rw[Mb (by omega)]at G
  exact .inl ⟨y (by omega),P.nx _ _ G.2 σ2 H2 (i1.trans i2) S⟩
end
end L3
namespace L2
open PySem PySem.Spec PyProof.Rows
section
variable {X:Cx}{B:Bd}{tg:fx}
def Ha(K:Jd)(tl:TE):TI:=λY H R=>tl Y H λx H1=>∃a b xs,x=.ref a/\lc K b H1 a xs/\R (if b=true then Itl K a else Itt K a) H1
theorem B3{l:fx}{n:TE}(y:PE X l n):PI X tg l (Ha X.K n):=by
 intro g s Y H R I h;refine aW (y g s Y H _ I h) λv c ⟨x,H1,I1,r,w⟩=>?_;obtain⟨a,b,m,e,j,q⟩:=w;subst e;cases r;cases b with
 |true=>
  obtain⟨f,u,p,t⟩:=I1.list (show SqL X.K H1 a m from j);refine QJ p.isList ?_;refine⟨c.heap.objs.size,[c.heap.objs.size],_,_,H1,rfl,I1.kept (t':=c.toks) λb o e=>Jb _ e,wq a _,⟨_,Jk _ rfl,rfl,rfl⟩,λb i=>?_,q⟩;have e:b=c.heap.objs.size:=by simpa using i
  subst e;exact I1.fpOk (Jg _) (I1.hok.fresh<|Jg _)
 |false=>
  obtain⟨f,u,p,t⟩:=I1.tuple (show fg X.K H1 a m from j);refine wpAny_pyIter_tuple (show c.heap.IsTuple a f.toArray from p) ?_;refine⟨c.heap.objs.size,[c.heap.objs.size],_,_,H1,rfl,I1.kept (t':=c.toks) λb o e=>Jb _ e,qj a _,⟨_,Jk _ rfl,rfl,rfl⟩,λb i=>?_,q⟩;have e:b=c.heap.objs.size:=by simpa using i
  subst e;exact I1.fpOk (Jg _) (I1.hok.fresh<|Jg _)
def Ik(K:Jd)(t:TA):TI:=λY H R=>t Y H λa H1=>∃b1 b2 l1 l2 xs ys,a=[.ref l1,.ref l2]/\lc K b1 H1 l1 xs/\lc K b2 H1 l2 ys/\R (Itz K b1 b2 l1 l2) H1
theorem Ah{a b:fx}{i:RQ}{U:Nat}{W:Pos}{z:TA}{p pos:Pos}(T:Gl X "zip")(hm:X.mg "zip"=ee)(ha:PA X [a,b] z)
  (Z:fe [a,b] X.env=[(eo,g5 a X.env),(eo,g5 b X.env)]:=by rfl) (hs2:fe [b] X.env=[(eo,g5 b X.env)]:=by rfl):
  PI X (.Tuple i U W) (.Call (.Name "zip" p) [a,b] [] pos) (Ik X.K z):=by
 intro f s Y H R I h;refine RD (bW I T hm (by decide +kernel:g4 "zip"=al (.type "zip"))<|JB (aW (ha pos f s Y H _ I h) λus c ⟨vs,H1,I1,G,r⟩=>?_) (by rw[Z,hs2])<|by rw[hs2];rfl)
 obtain⟨L,S,A,F,xs,ys,e,r,E,q⟩:=r;subst e;obtain⟨u1,u2,rfl,j,l⟩:=G.two;cases j;cases l;obtain⟨w,N,m,z1⟩:=I1.src r;obtain⟨v,C,n,z2⟩:=I1.src E;refine oi m n λy x t u Q M O P=>?_;have I2:Inv X f Y H1 { c with heap:=y }:=I1.kept (t':=c.toks) P;refine wpAny_pyIter_zip (s:={ c with heap:=y }) x ?_;have D:ZApart (c.heap.objs.size+4) (c.heap.objs.size+2) (c.heap.objs.size+3) c.heap.objs.size (c.heap.objs.size+1):=by constructor<;>exact(show (_:Nat)≠(_:Nat) by lia)
 refine⟨c.heap.objs.size+4,[c.heap.objs.size+4,c.heap.objs.size+2,c.heap.objs.size+3,c.heap.objs.size,c.heap.objs.size+1],_,_,H1,rfl,I2,x9 L S A F _ _ _ _ _ D,⟨x,t,⟨_,_,u⟩,Q,M⟩,λb J=>?_,q⟩;have g:c.heap.objs.size<=b:=by
  have o:b=c.heap.objs.size+4\/b=c.heap.objs.size+2\/b=c.heap.objs.size+3\/b=c.heap.objs.size\/b=c.heap.objs.size+1:=by simpa using J
  rcases o with e|e|e|e|e<;>rw[e]<;>first|exact J5 _ _|exact Jg _
 exact I1.fpOk (H':=H1) g (I1.hok.fresh g)
def Ee(K:Jd)(t:TA):TI:=λY H R=>t Y H λa H1=>∃b l xs,a=[.ref l]/\lc K b H1 l xs/\R (Ite K b l) H1
theorem ym{a:fx}{j:RQ}{F:Nat}{G:Pos}{u:TA}{p pos:Pos}(E:Gl X "enumerate")(M:X.mg "enumerate"=ee)(L:PA X [a] u)(J:fe [a] X.env=[(eo,g5 a X.env)]:=by rfl):
  PI X (.Tuple j F G) (.Call (.Name "enumerate" p) [a] [] pos) (Ee X.K u):=by
 intro g s Y H R I h;refine RD (bW I E M (by decide +kernel:g4 "enumerate"=al (.type "enumerate"))<|JB (aW (L pos g s Y H _ I h) λN f ⟨P,H1,I1,w,n⟩=>?_) J rfl)
 obtain⟨b,l,S,e,n,q⟩:=n;subst e;obtain⟨Q,rfl,m⟩:=w.one;cases m;obtain⟨v,O,sq,z⟩:=I1.src n;refine wc sq λt r A x y=>?_;have I2:Inv X g Y H1 { f with heap:=t }:=I1.kept (t':=f.toks) y;refine wpAny_pyIter_enum (s:={ f with heap:=t }) r ?_;refine⟨f.heap.objs.size+1,[f.heap.objs.size+1,f.heap.objs.size],_,_,H1,rfl,I2,wu b l _ _ (show (_:Nat)≠(_:Nat) by lia),⟨⟨_,r⟩,A⟩,λc C=>?_,q⟩
 have i:f.heap.objs.size<=c:=by
  have o:c=f.heap.objs.size+1\/c=f.heap.objs.size:=by simpa using C
  rcases o with e|e<;>rw[e]<;>first|exact J5 _ _|exact Jg _
 exact I1.fpOk (H':=H1) i (I1.hok.fresh i)
end
end L2
namespace L3
open PySem L2
variable{C f:eg}{B:Bd}{X:Cx}{Q:DK}{EE:DX}{U:Dl}{a b e:fx}{fd:hI}{base:i5}{H H':Hp}{K:Jd}{Y:L2.St}{es:RQ}{N ps:RN}{M M':Mem}{i n:Nat}{RJ p pos:Pos}{P:fy}{scope:Pi}{T:Sd}{st:q0}{RF x:Str}{mg:RV}{w:h7}{E:XK}{ta:cB}{g:ic}{r:qd}
section
variable{tg:fx}
def bB(d:D)(xs:List D):List (eg×List D):=match d with
 |.ref a=>[(a,xs)]
 |_=>[]
theorem ng{d:D}{v:V}{xs:List D}(o:RepH K H M)(r:Rp K H d v)(e:aT M d=al xs):∃p b,v=.ref p/\∀H' M',Imm H H'->RepH K H' M'->(∀q∈bB d xs,M' q.1=al (.lst q.2))->∃vs,lc K b H' p vs/\Rps K H' xs vs:=by
 cases d with
 |tup ys=>
  cases e;obtain⟨p,vs,rfl,h,r⟩:=r;exact⟨p,eo,rfl,λH' M' i _ _=>⟨vs,(h.mono i).sq,r.mono i⟩⟩
 |lst ys=>
  cases e;obtain⟨p,vs,rfl,h,r⟩:=r;exact⟨p,true,rfl,λH' M' i _ _=>⟨vs,(h.mono i).sq,r.mono i⟩⟩
 |mt ys=>
  cases e;obtain⟨p,vs,rfl,h,r⟩:=r;exact⟨p,eo,rfl,λH' M' i _ _=>⟨vs,h.sq,r.mono i⟩⟩
 |ml ys=>
  cases e;obtain⟨p,vs,rfl,h,r⟩:=r;exact⟨p,true,rfl,λH' M' i _ _=>⟨vs,(h.mono i).sq,r.mono i⟩⟩
 |ref a=>
  refine⟨a,true,r,λH' M' i c m=>?_⟩;obtain⟨vs,j,l⟩:=c _ _ (m (a,xs)<|by simp[bB])
  exact⟨vs,SqL.of j,l⟩
 |_=>cases e
theorem nP{d:D}{xs:List D}(e:aT M d=al xs):∀q∈bB d xs,M q.1=al (.lst q.2):=by
 cases d with
 |ref a=>
  intro q c;have:q=(a,xs):=by simpa [bB] using c
  subst this;simp only[aT]at e
  split at e
  .rename_i j h;cases e;exact h
  .cases e
 |_=>intro q c;simp[bB]at c
def cC(te:aV):tQ:=λU M R=>te U M λd M1=>match aT M1 d with
 |some xs=>R ⟨xs,bB d xs⟩ M1
 |none=>False
theorem G6{l:fx}{L:aV}(z:DE X B l L):DI X B tg l (cC L):=by
 refine eB (B3 z) ?_
 rintro Y H R ⟨U,M,RR,s,h,S⟩
 refine⟨U,M,_,s,h,λd M1 J v H1 t Z O=>?_⟩
 split at J
 .rename_i xs e
  obtain⟨p,b,rfl,m⟩:=ng t O e;obtain⟨W,hq,_⟩:=m H1 M1 gk t (nP e);refine⟨p,b,W,rfl,hq,S _ M1 J _ H1 t Z λi H2 M2 i2 u A=>?_⟩;obtain⟨c,j,I⟩:=m H2 M2 i2 u A;have z:=I.length;cases b with
  |true=>
   refine⟨λd F=>?_,λo=>⟨c,j,by rw[<- z];exact o⟩⟩
   obtain⟨w,y,q⟩:=I.get F;refine⟨⟨c,w,j,y⟩,?_⟩
   rintro x H3 ⟨rfl,G⟩
   have:=G c j;rw[y]at this;cases this;exact⟨am,u,q⟩
  |false=>
   refine⟨λd F=>?_,λo=>⟨c,j,by rw[<- z];exact o⟩⟩
   obtain⟨w,y,q⟩:=I.get F;refine⟨⟨c,w,j,y⟩,?_⟩
   rintro x H3 ⟨rfl,G⟩
   have:=G c j;rw[y]at this;cases this;exact⟨am,u,q⟩
 .exact J.elim
def dy(lo:Int)(n:Nat):List D:=(Km n).map λ(i:Nat)=>D.int (lo+i)
def lE(t:cB):tQ:=λU M R=>t U M λc M1=>match c with
 |[.int j]=>-(2 ^ 62)<=j/\j<2 ^ 62/\R ⟨dy 0 j.toNat,[]⟩ M1
 |_=>False
theorem zC{m:Int}:IC K H ⟨dy m n,[]⟩ (Hx m n):=λi H2 M2 t o _=>by
 have c:(dy m n).length=n:=by simp[dy]
 refine⟨λd l=>?_,λj=>by rw[c]at j;exact j⟩
 have q:i<n:=by
  rcases Lj i n with h|h
  .exact h
  .rw[KD (by rw[c];exact h)]at l;cases l
 have s:d=.int (m+i):=by
  simp only[dy,Jw,List.getElem?_range q]at l;exact(JT l).symm
 subst s;refine⟨q,?_⟩
 rintro x H3 ⟨rfl,rfl⟩
 exact⟨am,o,rfl⟩
theorem vR(u:Gl X "range")(z:X.mg "range"=ee)(y:DA X B [a] ta)(t:fe [a] X.env=[(eo,g5 a X.env)]:=by rfl):DI X B tg (.Call (.Name "range" p) [a] [] pos) (lE ta):=by
 refine eB (vY u z y t) ?_
 rintro Y H R ⟨U,M,RR,s,h,o⟩
 refine⟨U,M,_,s,h,λds M1 c A H1 j q l=>?_⟩
 split at c
 .obtain⟨v,rfl,m⟩:=dg (ds:=[]) l
  cases m;exact⟨_,rfl,c.1,c.2.1,o _ M1 c.2.2 _ H1 j q zC⟩
 .exact c.elim
def tL(t:cB):tQ:=λU M R=>t U M λc M1=>match c with
 |[.int i,.int j]=>(-(2 ^ 62)<=i/\i<2 ^ 62/\-(2 ^ 62)<=j/\j<2 ^ 62)/\R ⟨dy i (j-i).toNat,[]⟩ M1
 |_=>False
theorem vN(y:Gl X "range")(A:X.mg "range"=ee)(z:DA X B [a,b] ta)(u:fe [a,b] X.env=[(eo,g5 a X.env),(eo,g5 b X.env)]:=by rfl)(hs2:fe [b] X.env=[(eo,g5 b X.env)]:=by rfl):
  DI X B tg (.Call (.Name "range" p) [a,b] [] pos) (tL ta):=by
 refine eB (u_ y A z u hs2) ?_
 rintro Y H R ⟨U,M,RR,s,h,q⟩
 refine⟨U,M,_,s,h,λG M1 c F H1 l t m=>?_⟩
 split at c
 .obtain⟨v,w,rfl,o,j⟩:=wo m
  cases o;cases j;exact⟨_,_,rfl,c.1,q _ M1 c.2 _ H1 l t zC⟩
 .exact c.elim
def oH(xs:List D):List D:=(xs.zipIdx).map λp=>D.tup [.int (p.2:Nat),p.1]
theorem vT{xs:List D}:(oH xs)[i]?=(xs[i]?).map λd=>D.tup [.int (i:Nat),d]:=by
 simp[oH,Jw,List.getElem?_zipIdx];cases xs[i]?<;>simp
def Dz(t:cB):tQ:=λU M R=>t U M λc M1=>match c with
 |[d]=>match aT M1 d with
  |some xs=>R ⟨oH xs,bB d xs⟩ M1
  |none=>False
 |_=>False
theorem Cd{t:RQ}{x1:Nat}{tp:Pos}(hg:Gl X "enumerate")(hm:X.mg "enumerate"=ee)(ha:DA X B [a] ta)(hs:fe [a] X.env=[(eo,g5 a X.env)]:=by rfl):
  DI X B (.Tuple t x1 tp) (.Call (.Name "enumerate" p) [a] [] pos) (Dz ta):=by
 refine eB (ym hg hm ha hs) ?_
 rintro Y H R ⟨U,M,RR,s,h,Z⟩
 refine⟨U,M,_,s,h,λds M1 o I H1 m i1 S=>?_⟩
 split at o
 .obtain⟨v,rfl,W⟩:=dg (ds:=[]) S
  split at o
  .rename_i xs e
   obtain⟨p,b,rfl,c⟩:=ng m W e;obtain⟨I,hq,_⟩:=c H1 M1 gk m (nP e);refine⟨b,p,I,rfl,hq,Z _ M1 o _ H1 m i1 λi H2 M2 i2 q u=>?_⟩;obtain⟨j,l,J⟩:=c H2 M2 i2 q u;have O:=J.length;refine⟨λd G=>?_,λz=>⟨j,l,by rw[<- O];simpa [oH] using z⟩⟩
   rw[vT]at G;obtain⟨d0,F,rfl⟩:=Lc.mp G;obtain⟨w,L,A⟩:=J.get F;refine⟨⟨j,w,l,L⟩,?_⟩
   rintro x H3 ⟨T,x',y,rfl,rfl,hx⟩
   have:=hx j l;rw[L]at this;cases this;have i3:Imm H2 (upd H2 T<|.tup [.int i,w]):=Imm.new y;exact⟨Frm.new y,q.new y,T,_,rfl,upd_same,.cons rfl<|.cons (A.mono i3) .nil⟩
  .exact o.elim
 .exact o.elim
def rQ(xs ys:List D):List D:=(xs.zip ys).map λp=>D.tup [p.1,p.2]
theorem zp{xs ys:List D}{d:D}(h:(rQ xs ys)[i]?=al d):∃x y,xs[i]?=al x/\ys[i]?=al y/\d=.tup [x,y]:=by
 simp only[rQ,Jw,Lc]at h;obtain⟨⟨x,y⟩,c,rfl⟩:=h;rw[List.getElem?_zip_eq_some]at c;exact⟨x,y,c.1,c.2,rfl⟩
def vP(t:cB):tQ:=λU M R=>t U M λc M1=>match c with
 |[d,e]=>match aT M1 d,aT M1 e with
  |some xs,al ys=>R ⟨rQ xs ys,bB d xs++bB e ys⟩ M1
  |_,_=>False
 |_=>False
theorem F8{O:RQ}{x1:Nat}{tp:Pos}(hg:Gl X "zip")(hm:X.mg "zip"=ee)(ha:DA X B [a,b] ta)(hs:fe [a,b] X.env=[(eo,g5 a X.env),(eo,g5 b X.env)]:=by rfl)(hs2:fe [b] X.env=[(eo,g5 b X.env)]:=by rfl):
  DI X B (.Tuple O x1 tp) (.Call (.Name "zip" p) [a,b] [] pos) (vP ta):=by
 refine eB (Ah hg hm ha hs hs2) ?_
 rintro Y H R ⟨U,M,RR,s,h,up⟩
 refine⟨U,M,_,s,h,λds M1 L vs H1 l i1 r1=>?_⟩
 split at L
 .obtain⟨v,w,rfl,rv,Z⟩:=wo r1
  split at L
  .rename_i xs ys e1 e2
   obtain⟨p,b,rfl,o⟩:=ng l rv e1;obtain⟨p',b',rfl,j⟩:=ng l Z e2;obtain⟨vs,J,_⟩:=o H1 M1 gk l (nP e1);obtain⟨vs',hq',_⟩:=j H1 M1 gk l (nP e2);refine⟨b,b',p,p',vs,vs',rfl,J,hq',up _ M1 L _ H1 l i1 λi H2 M2 i2 z A=>?_⟩;obtain⟨t,u,r2⟩:=o H2 M2 i2 z λq J=>A q (Lp _ J);obtain⟨c,m,G⟩:=j H2 M2 i2 z λq J=>A q (JG _ J);have hl:=r2.length;have hl':=G.length;refine⟨λd hd=>?_,λW=>⟨t,c,u,m,?_⟩⟩
   .obtain⟨x,y,hx,hy,rfl⟩:=zp hd
    obtain⟨w1,I,rw1⟩:=r2.get hx;obtain⟨w2,F,rw2⟩:=G.get hy;refine⟨⟨t,c,w1,w2,u,m,I,F⟩,?_⟩
    rintro x H3 ⟨T,x',y',S,rfl,rfl,hx1,hx2⟩
    have q1:=hx1 t u;have q2:=hx2 c m;rw[I]at q1;rw[F]at q2;cases q1;cases q2;have i3:Imm H2 (upd H2 T<|.tup [w1,w2]):=Imm.new S;exact⟨Frm.new S,z.new S,T,_,rfl,upd_same,.cons (rw1.mono i3)<|.cons (rw2.mono i3) .nil⟩
   .have:(rQ xs ys).length=min xs.length ys.length:=by simp[rQ]
    rw[this]at W;lia
  .exact L.elim
 .exact L.elim
end
def rG:Bd:=⟨λ_ _=>True,λ_ _=>trivial⟩
section
inductive liftE0(K:Jd)(T:aV)(Y:L2.St)(H:Hp)(Q:VK):Prop
 |mk (U:Dl) (M:Mem) (QQ:DK) (rh:RepH K H M) (rs:RepS K H U Y) (h:T U M QQ) (u:Up K M H QQ Q):liftE0 K T Y H Q
inductive liftT0(K:Jd)(T:dq)(Y:L2.St)(H:Hp)(Q:Bool->Hp->Prop):Prop
 |mk (U:Dl) (M:Mem) (QQ:Bool->Mem->Prop) (rh:RepH K H M) (rs:RepS K H U Y) (h:T U M QQ) (u:UpT K M H QQ Q):liftT0 K T Y H Q
inductive liftG0(K:Jd)(g:ic)(v:V)(Y:L2.St)(H:Hp)(Q:L2.St->Hp->Prop):Prop
 |mk (d:D) (U:Dl) (M:Mem) (QQ:Dl->Mem->Prop) (rh:RepH K H M) (rs:RepS K H U Y) (r:Rp K H d v) (h:g d U M QQ) (u:∀δ' M',QQ δ' M'->∀σ' H',Frm M H M' H'->RepH K H' M'->RepS K H' δ' σ'->Q σ' H'):liftG0 K g v Y H Q
theorem yx{T:aV}(h:DE X rG e T):PE X e (liftE0 X.K T):=aJ h λY H Q ⟨U,M,QQ,j,c,h,u⟩=>⟨U,M,QQ,⟨trivial,j,c⟩,h,u⟩
theorem wV(h:DG X rG e g):PG X e (liftG0 X.K g):=iF h λv Y H Q ⟨d,U,M,QQ,rh,rs,r,h,u⟩=>⟨d,U,M,QQ,⟨trivial,rh,rs⟩,r,h,λc M' q j H' f s=>u c M' q j H' f s.rh s.rs⟩
theorem RepH.add{a:eg}{o:MO}(r:RepH K H M)(n:RepO K H a o):RepH K H (M.upd a o):=λb p e=>by
 by_cases c:b=a
 .subst c;rw[Mem.upd_same]at e;cases e;exact n
 .rw[ae c]at e;exact r b p e
def bU(ls:RN)(js:List Nat)(U:Dl):Dl:=ls.map (λ_=>ee)++js.map λj=>(U[j]?).join
theorem RepS.start(r:RepS K H U Y)(ls:RN)(h:List Nat):RepS K H (bU ls h U) (bT ls h Y):=by
 refine⟨by simp[bU,bT],λi d e=>?_⟩
 unfold bU at e;unfold bT
 by_cases c:i<ls.length
 .rw[Ki (by simpa using c),Jw,Je c]at e
  cases e
 .rw[J0 (by simpa using c),Ji,Jw]at e
  rw[J0 (by simpa using c),Ji,Jw]
  cases l:h[i-ls.length]? with
  |none=>rw[l]at e;cases e
  |some j=>
   rw[l]at e;have q:(U[j]?).join=al d:=by simpa using e
   have m:U[j]?=al (al d):=by
    cases z:U[j]? with
    |none=>rw[z]at q;cases q
    |some o=>rw[z]at q;have s:o=al d:=q;rw[s]
   obtain⟨v,t,u⟩:=r.get j d m;exact⟨v,by simp[t],u⟩
structure BxC(g:ic)(tt:dq)(te:aV)(ok:Mem->Prop)(Q:List D->Mem->Prop):Type
def cH(g:ic)(tt:dq)(te:aV)(ok:Mem->Prop)(Q:List D->Mem->Prop)(b:BxC g tt te ok Q):List D->List D->Dl->Mem->Prop
 |[],RH,_,M=>ok M/\Q RH M
 |x::xs,RH,U,M=>ok M/\g x U M λh M2=>tt h M2 λc M3=>if c=true then te h M3 λy M4=>RH.length<sizeLine/\cH g tt te ok Q b xs (RH++[y]) h M4 else cH g tt te ok Q b xs RH h M3
def bw(wi:tQ)(ls:RN)(js:List Nat)(g:ic)(tt:dq)(te:aV):aV:=λU M Q=>wi U M λh M1=>cH g tt te h.ok (λc M'=>∀p,M' p=ee->Q (.ref p) (M'.upd p<|.lst c)) ⟨⟩ h.items [] (bU ls js U) M1
theorem yI{tt:dq}{te:aV}{ok:Mem->Prop}{xs c:List D}{Q:List D->Mem->Prop}{b:BxC g tt te ok Q}(h:cH g tt te ok Q b xs c U M):ok M:=by
 cases xs with
 |nil=>exact h.1
 |cons _ _=>exact h.1
variable{tg iter elt:fx}{ifs:RQ}{cl:List (Str×eg)}{ls fs:RN}{js:List Nat}{wi:tQ}{tt:dq}{te:aV}
theorem lb{Q:VK}(h:liftE X B (bw wi ls js g tt te) Y H Q):yJ (liftI X B wi) ls js (liftG0 X.K g) (liftT0 X.K tt) (liftE0 X.K te) Y H Q:=by
 obtain⟨U,M,QQ,s,h,u⟩:=h;refine⟨U,M,_,s,h,λit M1 h1 J H1 rh1 f1 hJ p hp=>?_⟩;have hMp:M1 p=none:=rh1.fresh hp
 refine⟨λi m σ' H'=>m=it.items.length-i/\i<=it.items.length/\∃δ' M' RH ys,RepH X.K H' M'/\RepS X.K H' δ' σ'/\H' p=al (.lst ys)/\Rps X.K H' RH ys/\M' p=ee/\Frm M1 H1 M' H'/\
   cH g tt te it.ok (λRH M'=>∀p,M' p=ee->QQ (.ref p) (M'.upd p<|.lst RH)) ⟨⟩ (it.items.drop i) RH δ' M',
  ⟨_,rfl,Kv _,bU ls js U,M1,[],[],rh1.new hp,((s.rs.mono<|f1.imm s.rh).mono<|Imm.new hp).start ls js,upd_same,.nil,hMp,Frm.new hp,h1⟩,?_⟩
 rintro i m σ2 H2 ⟨rfl,hi,δ2,M2,RH,ys,rh2,rs2,hp2,ra2,hm2,f2,h2⟩
 have hok:=yI h2;obtain⟨hgo,hstop⟩:=hJ i H2 M2 (f2.imm rh1) rh2 hok
 by_cases hlt:i<it.items.length
 .rw[KU hlt]at h2
  obtain⟨go,hy⟩:=hgo _ (Je hlt)
  refine .inr ⟨go,λσ' H'=>∃δ' M' RH ys,RepH X.K H' M'/\RepS X.K H' δ' σ'/\H' p=al (.lst ys)/\Rps X.K H' RH ys/\M' p=ee/\Frm M1 H1 M' H'/\
   cH g tt te it.ok (λRH M'=>∀p,M' p=ee->QQ (.ref p) (M'.upd p<|.lst RH)) ⟨⟩ (it.items.drop (i+1)) RH δ' M',λσ' H' z=>⟨it.items.length-(i+1),by omega,rfl,hlt,z⟩,λx H3 hx=>?_⟩
  obtain⟨f3,rh3,rx⟩:=hy x H3 hx;refine⟨_,δ2,M2,_,rh3,rs2.mono (f3.imm rh2),rx,h2.2,λδ4 M4 h4 σ4 H4 f4 rh4 rs4=>?_⟩;refine⟨δ4,M4,_,rh4,rs4,h4,λc M5 h5 H5 rh5 f5=>?_⟩;have f35:=(f3.trans f4).trans f5;obtain⟨hp5,hm5⟩:=f35.keep p _ hp2 hm2;cases c with
  |false=>
   try dsimp only
   rw[if_neg Js]at h5 ⊢;exact⟨δ4,M5,RH,ys,rh5,rs4.mono (f5.imm rh4),hp5,ra2.mf rh2 f35,hm5,f2.trans f35,h5⟩
  |true=>
   try dsimp only
   rw[if_pos rfl]at h5 ⊢;refine⟨δ4,M5,_,rh5,rs4.mono (f5.imm rh4),h5,λy M6 h6 v6 H6 rh6 f6 r6=>?_⟩;obtain⟨hp6,hm6⟩:=f6.keep p _ hp5 hm5;have f26:=f35.trans f6;have ra6:=ra2.mf rh2 f26;refine⟨ys,hp6,by rw[<- ra6.length];exact h6.1,?_⟩
   have im:Imm H6 (upd H6 p<|.lst (ys++[v6])):=Imm.upd (by rw[hp6];trivial)
   refine⟨δ4,M6,RH++[y],ys++[v6],rh6.keep im λb o hb=>az (Mem.ne hb hm6),((rs4.mono<|f5.imm rh4).mono<|f6.imm rh5).mono im,upd_same,(ra6.append<|.cons r6 .nil).mono im,hm6,?_,h6.2⟩;refine⟨λb w e n=>?_⟩;obtain⟨e2,n2⟩:=(f2.trans f26).keep b w e n;exact⟨by rw[az (aQ e hp)];exact e2,n2⟩
 .rw[Mb (by omega)]at h2
  refine .inl ⟨hstop (by omega),u _ _ (h2.2 p hm2) _ H2 (rh2.add ⟨ys,hp2,ra2⟩) ?_ rfl⟩
  refine⟨λb w e n=>?_⟩;obtain⟨e1,n1⟩:=f1.keep b w e n;obtain⟨e2,n2⟩:=f2.keep b w e1 n1;exact⟨e2,by rw[ae (aQ e1 hp)];exact n2⟩
def Gb(X:Cx)(B:Bd)(ifs:RQ)(T:dq):Prop:=EC X ifs (liftT X B T)
def lY:dq:=λ_ M Q=>Q true M
theorem AY:Gb X B [] lY:=λc s Y H Q I l=>by obtain⟨U,M,QQ,j,h,u⟩:=l;exact B2 c s Y H Q I (u true M h H j.rh am)
theorem Ai{c:fx}{t:dq}(h:DT X B c t):Gb X B [c] t:=Ce h
theorem uj{T:dq}(h:Gb X rG es T):EC X es (liftT0 X.K T):=λc s Y H Q I o=>by obtain⟨U,M,QQ,m,l,j,u⟩:=o;exact h c s Y H Q I ⟨U,M,QQ,⟨trivial,m,l⟩,j,u⟩
theorem A7(m:X.calm=true)(co:CompOk X scope cl ls fs js)(o:DI X B tg iter wi)(l:∀(C:eg)(c:c8)(H₀:Hp)(j:RP)(pl:RU),DG (aR X (ls++fs) scope cl C c H₀ j pl) rG tg g/\Gb (aR X (ls++fs) scope cl C c H₀ j pl) rG ifs tt/\DE (aR X (ls++fs) scope cl C c H₀ j pl) rG elt te)(q:∀x,rg iter X.env x=pure x:=by intro _;rfl):DE X B (.ListComp elt [⟨tg,iter,ifs,0⟩] scope pos) (bw wi ls js g tt te):=
 aJ (AS (g:=liftG0 X.K g) (tt:=liftT0 X.K tt) (te:=liftE0 X.K te) m co o (λC c H₀ j pl=>⟨wV (l C c H₀ j pl).1,uj (l C c H₀ j pl).2.1,yx (l C c H₀ j pl).2.2⟩) q) λ_ _ _ h=>lb h
def mU(i:Nat)(t:aV):ar:=λD U M=>t U M λd M1=>D.nx (U.set i<|some d) M1
theorem A4{u j:Pos}(I:X.N.Nodup)(t:X.N[i]?=al x)(A:qD X.env.scope x)(F:X.calm=true)(co:CompOk X scope cl ls fs js)(G:DI X B tg iter wi)(m:∀(C:eg)(c:c8)(H₀:Hp)(l:RP)(pl:RU),DG (aR X (ls++fs) scope cl C c H₀ l pl) rG tg g/\Gb (aR X (ls++fs) scope cl C c H₀ l pl) rG ifs tt/\DE (aR X (ls++fs) scope cl C c H₀ l pl) rG elt te)(o:rc (.ListComp elt [⟨tg,iter,ifs,0⟩] scope pos) (al<|.Name x u) j.line X.env=pure true:=by rfl)(hs:∀x,rg iter X.env x=pure x:=by intro _;rfl)(hf:X.fn x=true\/X.env.scope.names.lookup x=al .local:=by first|exact .inl rfl|exact .inr rfl|assumption):
  DS X B (.Assign [.Name x u] (.ListComp elt [⟨tg,iter,ifs,0⟩] scope pos) j) (mU i<|bw wi ls js g tt te):=by
 refine ba (B8 (g:=liftG0 X.K g) (tt:=liftT0 X.K tt) (te:=liftE0 X.K te) I t A F co G (λC c H₀ l pl=>⟨wV (m C c H₀ l pl).1,uj (m C c H₀ l pl).2.1,yx (m C c H₀ l pl).2.2⟩) o hs hf) ?_
 rintro D Y H ⟨U,M,DD,s,h,y⟩
 refine lb ⟨U,M,_,s,h,λd M' q v H' z f r=>?_⟩;exact y.nx _ M' q _ H' f ((s.go z f).set r)
def jr(i:Nat)(U:Dl)(M:Mem)(Q:Dl->Mem->Prop):Prop:=match U[i]? with
 |some (al<|.ref a)=>match M a with
  |some (.lst xs)=>Q (U.set i<|some<|.lst xs) (M.del a)
  |_=>Q U M
 |_=>Q U M
def kn(t:ar)(i:Nat):ar:=λD U M=>t { D with nx:=λc M'=>jr i c M' D.nx } U M
theorem oQ{α:Type}:∀{l:List α}{i:Nat}{x:α},l[i]?=al x->l.set i x=l
 |[],_,_,h=>by simp at h
 |_::_,0,_,h=>by simp at h;subst h;rfl
 |_::_,i+1,_,h=>by rw[List.set_cons_succ,oQ (by simpa using h)]
theorem Ey{t:ar}(i:Nat)(h:DS X B st t):DS X B st (kn t i):=by
 intro RE s Y H D I ⟨U,M,DD,sr,hT,up⟩;refine aW (h RE s Y H { D with nx:=λσ' H'=>∃δ' M',jr i δ' M' DD.nx/\Frm M H M' H'/\SR X B δ' M' σ' H' } I ⟨U,M,_,sr,hT,⟨λδ' M' q σ' H' f s'=>⟨δ',M',q,f,s'⟩,up.rt,up.bk,up.ct⟩⟩) λf s' q=>?_;cases f with
 |next=>
  obtain⟨σ',H',I',δ',M',q,f,s'⟩:=q;unfold jr at q
  split at q
  .rename_i a ea
   split at q
   .rename_i xs e
    obtain⟨vs,h1,h2⟩:=s'.rh _ _ e;obtain⟨o,I2⟩:=Inv.freeze I' h1;have im:Imm H' (upd H' a<|.frz o<|.lst vs):=Imm.upd (by rw[h1];trivial)
    obtain⟨v,hv,rv⟩:=s'.rs.get i _ ea;cases rv;refine⟨σ',_,I2,up.nx _ _ q σ' _ (f.trans<|Frm.del ⟨_,e⟩) ⟨B.go s'.i0 (Frm.del ⟨_,e⟩),s'.rh.freeze h1,?_⟩⟩;have:=(s'.rs.mono im).set (i:=i) (d:=.lst xs) (v:=.ref a) ⟨a,vs,rfl,⟨o,upd_same⟩,h2.mono im⟩
    rwa [oQ hv]at this
   .exact⟨σ',H',I',up.nx _ _ q σ' H' f s'⟩
  .exact⟨σ',H',I',up.nx _ _ q σ' H' f s'⟩
 |brk=>exact q
 |cont=>exact q
 |ret u=>exact q
end
abbrev DX:=eg->Mem->Prop
abbrev Sd:=List D->Mem->DK->DX->Prop
def kG(P:fy)(w:h7):k_:=λc H s E e h=>∃C,og P w C c H s E e h
def UpX(K:Jd)(M:Mem)(H:Hp)(EE:DX)(E:XK):Prop:=∀C M',EE C M'->∀H',RepH K H' M'->Frm M H M' H'->E (.ref C) ee H'
def qe(K:Jd)(B:Bd)(EE:DX)(E:XK):Prop:=∀C M',EE C M'->∀H',RepH K H' M'->B.p M' H'->E (.ref C) ee H'
theorem UpX.go{M1:Mem}{H1:Hp}(u:UpX K M H EE E)(i:Frm M H M1 H1):UpX K M1 H1 EE E:=λC M' q H' a b=>u C M' q H' a (i.trans b)
def aY(K:Jd)(n:Nat)(T:Sd):Sp:=λc H Q E=>c.length=n/\∃ds M QQ EE,RepH K H M/\Rps K H ds c/\T ds M QQ EE/\Up K M H QQ Q/\UpX K M H EE E
def startN(N:RN)(ds:List D):Dl:=ds.map al++Jm (N.length-ds.length) ee
theorem RepS.startN{ds:List D}{vs:List V}(N:RN)(r:Rps K H ds vs):RepS K H (L3.startN N ds) (L2.start N vs):=by
 have h:=r.length;refine⟨by simp[L3.startN,L2.start,h],λi d e=>?_⟩
 unfold L3.startN at e;unfold L2.start
 by_cases c:i<ds.length
 .rw[Ki (by simpa using c),Jw,Je c]at e
  have j:ds[i]=d:=by simpa using e
  obtain⟨v,l,m⟩:=r.get (i:=i) (d:=d) (by rw[Je c,j])
  refine⟨v,?_,m⟩;rw[Ki (by simp;lia),Jw,l]
  rfl
 .rw[J0 (by simpa using c),Lb]at e
  split at e<;>cases e
section
def drp(Q:DK)(d:D)(M':Mem):Prop:=∃M'',(∀b o,M'' b=al o->M' b=al o)/\Q d M''
def av(EE:DX)(C:eg)(M':Mem):Prop:=∃M'',(∀b o,M'' b=al o->M' b=al o)/\EE C M''
theorem aj{d:D}(h:Q d M'):drp Q d M':=⟨M',λ_ _ e=>e,h⟩
theorem bj(h:EE C M'):av EE C M':=⟨M',λ_ _ e=>e,h⟩
theorem Frm.less{M'':Mem}(f:Frm M H M' H')(s:∀b o,M'' b=al o->M' b=al o):Frm M H M'' H':=⟨λb u e n=>by
 obtain⟨h,c⟩:=f.keep b u e n;refine⟨h,?_⟩;cases q:M'' b with
 |none=>rfl
 |some o=>rw[s b o q]at c;cases c⟩
theorem Up.drp{QV:VK}(u:Up K M H Q QV):Up K M H (L3.drp Q) QV:=λd M' ⟨M'',s,q⟩ v H' c f r=>u d M'' q v H' (λb o e=>c b o (s b o e)) (f.less s) r
theorem UpX.drp(u:UpX K M H EE E):UpX K M H (av EE) E:=λC M' ⟨M'',s,q⟩ H' c f=>u C M'' q H' (λb o e=>c b o (s b o e)) (f.less s)
def aL(N:RN)(T:DX->ar):Sd:=λc M Q EE=>T (av EE) { nx:=λ_ M'=>drp Q .non M',rt:=drp Q } (startN N c) M
theorem fnD{k:Nat}{T:DX->ar}(F:Fun K x RF st f fd)(S:FnScope N ps (aD st))(J:∀(j:c0)(A:j0)(c:List Env)(s:c8)(H:Hp)(E:XK)(B:Bd)(EE:DX),Room k (A.deeper<|Li RF (aD st) s.heap.objs.size f j)->qe K B EE E->
   qb (cu (kG P w) P w K mg base N RF (aD st) f j A c s H E) B (b5 st) (T EE)):
  FnOk P w K mg base (kG P w) (k+1) f fd ps (aY K ps.length<|aL N T):=by
 obtain⟨L,W,kV,v,pm,R,j,Z,z,rfl,lk,m⟩:=F.ex;refine Cy lk m S (λy H Q E h=>h.1) λA c s H y Q E I l=>?_;obtain⟨O,t,M,QQ,EE,rh,r,o,u,ux⟩:=l;refine⟨_,J j A c s H E (Bd.of M H) (av EE) I ux.drp,startN N t,M,{ nx:=λ_ M'=>drp QQ .non M',rt:=drp QQ },⟨am,rh,.startN N r⟩,o,⟨?_,u.drp,?_,?_⟩⟩
 .exact λU M' q Y H' f G=>u.drp _ M' q _ H' G.rh f rfl
 .exact λU M' q=>(show False from q).elim
 .exact λU M' q=>(show False from q).elim
theorem jS{k:Nat}{CX:k_}:FnOk P w K mg base CX k f fd ps (aY K n λ_ _ _ _=>False):=
 ⟨λl H Q E h=>(by obtain⟨_,_,_,_,_,_,_,h,_⟩:=h;exact h.elim),λA c s H j m l Q E _ _ _ _ h=>(by obtain⟨_,_,_,_,_,_,_,h,_⟩:=h;exact h.elim)⟩
theorem CZ{l:c0}{A:j0}{c:List Env}{j:c8}{H0:Hp}:bi (kG P w) (cu (kG P w) P w K mg base N RF scope f l A c j H0 E) E:=by
 intro h Y H s e o I ⟨C,m⟩;have I':Inv (cu (og P w C) P w K mg base N RF scope f l A c j H0 E) h Y H s:=I.wish _;have:=GP h Y H s e o I' m;exact kB this (λ_ _ z=>⟨C,z⟩) λ_ _ z=>⟨C,z⟩
theorem wS:bi (kG P w) X E0:=λc Y H s e l I ⟨C,h⟩=>by
 obtain⟨_,_,_,_,_,_,_,_,_,_,_,_,j⟩:=h;exact(show False from j).elim
end
def Sub(M1 M:Mem):Prop:=∀b o,M1 b=al o->M b=al o
def Dis(M1 M M':Mem):Prop:=∀b o,M b=al o->M1 b=ee->M' b=ee
def plus(M' M1 M:Mem):Mem:=λb=>match M' b with
 |some o=>al o
 |none=>match M1 b with
  |some _=>ee
  |none=>M b
theorem lm:plus M' M M=M':=by
 funext b;simp only[plus];cases h:M' b with
 |some o=>rfl
 |none=>cases c:M b<;>rfl
structure BxQ(EE:DX)(Q:DK):Type
structure calls(T:Sd)(EE:DX)(ds:List D)(M:Mem)(Q:DK)(_:BxQ EE Q):Prop where
 go:∃M1,Sub M1 M/\T ds M1 (λd M'=>Dis M1 M M'->Q d (plus M' M1 M)) (λC M'=>Dis M1 M M'->EE C (plus M' M1 M))
section
variable{M1:Mem}
theorem RepH.sub(r:RepH K H M)(s:Sub M1 M):RepH K H M1:=λb o e=>r b o (s b o e)
theorem RepH.dis(r:RepH K H M)(f:Frm M1 H M' H'):Dis M1 M M':=λb o e n=>by
 obtain⟨u,q⟩:=(r b o e).obj;exact(f.keep b u q n).2
theorem RepH.plus(r:RepH K H M)(s:Sub M1 M)(h:RepH K H' M')(f:Frm M1 H M' H'):RepH K H' (plus M' M1 M):=λb o e=>by
 simp only[L3.plus]at e
 split at e
 .rename_i j q;cases e;exact h b _ q
 .split at e
  .cases e
  .rename_i q n
   obtain⟨u,c⟩:=(r b o e).obj;exact(r b o e).keep (f.imm<|r.sub s) ((f.keep b u c n).1.trans c.symm)
theorem Frm.plus(s:Sub M1 M)(f:Frm M1 H M' H'):Frm M H (plus M' M1 M) H':=⟨λb u e n=>by
 have c:M1 b=none:=by
  cases q:M1 b with
  |none=>rfl
  |some o=>rw[s b o q]at n;cases n
 obtain⟨h,j⟩:=f.keep b u e c;exact⟨h,by simp only[L3.plus,j,c,n]⟩⟩
theorem bL{ds:List D}{vs:List V}{QV:VK}{b:BxQ EE Q}(h:calls T EE ds M Q b)(rh:RepH K H M)(r:Rps K H ds vs)(l:vs.length=n)(u:Up K M H Q QV)(ux:UpX K M H EE E):aY K n T vs H QV E:=by
 obtain⟨M1,s,h⟩:=h.go;refine⟨l,ds,M1,_,_,rh.sub s,r,h,λd M' q v H' c f j=>?_,λC M' q H' c f=>?_⟩
 .exact u d _ (q<|rh.dis f) v H' (rh.plus s c f) (f.plus s) j
 .exact ux C _ (q<|rh.dis f) H' (rh.plus s c f) (f.plus s)
theorem ap{ds:List D}{b:BxQ EE Q}(c:∀Q' E',(∀d M,Q d M->Q' d M)->(∀C M,EE C M->E' C M)->T ds M Q' E'):calls T EE ds M Q b:=
 ⟨M,λ_ _ e=>e,c _ _ (λd M' q _=>by rw[lm];exact q) λC M' q _=>by rw[lm];exact q⟩
variable{CX:k_}{k:Nat}{m:Str}{o:fx}{ta:aV}{t:cB}
def ak(T:Sd)(EE:DX)(n:Nat)(t:cB):aV:=λU M Q=>t U M λc M1=>c.length=n/\calls T EE c M1 Q ⟨⟩
theorem SR.ux{U:Dl}{Y:L2.St}(s:SR X B U M Y H)(ux:qe X.K B EE E):UpX X.K M H EE E:=λC M' q H' a b=>ux C M' q H' a (B.go s.i0 b)
theorem nL(F:FnOk X.prog X.w X.K X.mg X.base CX k f fd ps (aY X.K n T))(J:Room k X.A)(y:Gl X x)(O:X.mg x=al (.ref f))(G:J4 X.K (.ref f)=true)(I:Binds X.K fd ps [])(z:bi CX X E)(ux:qe X.K B EE E)(L:DA X B (e::es) t)(j:(x==("__debug__":Str))=false:=by decide)(he:fe (e::es) X.env=(eo,g5 e X.env)::fe es X.env:=by rfl)(hpl:(ik pos<|starEach es X.env).any (·.1)=false:=by rfl):
  DE X B (.Call (.Name x p) (e::es) [] pos) (ak T EE n t):=by
 refine aJ (Ae F J y O G I .nil z L j he hpl) ?_
 rintro Y H Q ⟨U,M,QQ,s,h,u⟩
 refine⟨U,M,_,s,h,λS M1 q R H1 c l v=>?_⟩
 try dsimp only
 rw[JR];exact bL q.2 c v (by rw[<- v.length];exact q.1) (u.go l) ((s.ux ux).go l)
def bO(C:eg)(m:Str)(T:Sd)(EE:DX)(n:Nat)(ta:aV)(t:cB):aV:=λU M Q=>ta U M λx M1=>match x with
 |.ref a=>match M1 a with
  |some (.ins C' fs)=>C'=C/\fs.lookup m=ee/\t U M1 λc M2=>c.length+1=n/\calls T EE (.ref a::c) M2 Q ⟨⟩
  |_=>False
 |_=>False
theorem Aj{pl:Sem Bool}(he:DE X B o ta)(c:Cls X.K C)(hm:Meth X.K C m f)(F:FnOk X.prog X.w X.K X.mg X.base CX k f fd ps (aY X.K n T))(hr:Room k X.A)(hb:Binds X.K fd ps [])(hx:bi CX X E)(ux:qe X.K B EE E)(ha:DA X B (e::es) t)(G:fe (e::es) X.env=(eo,g5 e X.env)::fe es X.env:=by rfl)(hpl:(ik pos<|starEach es X.env).any (·.1)=false:=by rfl)(ht:g5 (.Call (.Attribute o m RJ) (e::es) [] pos) X.env=(do
   let ov <- g5 o X.env
   Qg RJ.atName
   let (f,first) <- vr [ov] (Qc ov m pl)
   QM pos f first (ik pos<|starEach (e::es) X.env) (NE pos<|keywordEach [] X.env)):=by rfl):
  DE X B (.Call (.Attribute o m RJ) (e::es) [] pos) (bO C m T EE n ta t):=by
 refine aJ (Ay he c hm F hr hb .nil hx ha G hpl ht) ?_
 rintro Y H Q ⟨U,M,QQ,s,h,u⟩
 refine⟨U,M,_,s,h,λx M1 j v H1 l i1 r1=>?_⟩
 split at j
 .rename_i a
  cases r1
  split at j
  .rename_i C' fs hM
   obtain⟨rfl,Z,j⟩:=j;obtain⟨R,L,W,S⟩:=l _ _ hM;have q:L.lookup m=none:=by
    rcases S.lookup m with⟨_,z⟩|⟨d,v,z,_⟩
    .exact z
    .rw[Z]at z;cases z
   refine⟨a,R,L,rfl,W,q,U,M1,_,s.go l i1,j,λds M2 J vs H2 y O I=>?_⟩
   try dsimp only
   rw[JR];exact bL (ds:=.ref a::ds) J.2 y (.cons rfl I) (by rw[Jl,<- I.length];exact J.1) (u.go<|i1.trans O) ((s.ux ux).go<|i1.trans O)
  .exact j.elim
 .exact j.elim
theorem xY{pl:Sem Bool}(W:DE X B o ta)(c:Cls X.K C)(hm:Meth X.K C m f)(F:FnOk X.prog X.w X.K X.mg X.base CX k f fd ps (aY X.K n T))(hr:Room k X.A)(hb:Binds X.K fd ps [])(Z:bi CX X E)(ux:qe X.K B EE E)(ht:g5 (.Call (.Attribute o m RJ) [] [] pos) X.env=(do
   let ov <- g5 o X.env
   Qg RJ.atName
   let (f,first) <- vr [ov] (Qc ov m pl)
   QM pos f first (ik pos<|starEach [] X.env) (NE pos<|keywordEach [] X.env)):=by rfl):
  DE X B (.Call (.Attribute o m RJ) [] [] pos) (bO C m T EE n ta af):=by
 refine aJ (ww W c hm F hr hb .nil Z ht) ?_
 rintro Y H Q ⟨U,M,QQ,s,h,u⟩
 refine⟨U,M,_,s,h,λx M1 j v H1 l y L=>?_⟩
 split at j
 .rename_i a
  cases L
  split at j
  .rename_i C' fs R
   obtain⟨rfl,J,j⟩:=j;obtain⟨I,G,S,O⟩:=l _ _ R;have q:G.lookup m=none:=by
    rcases O.lookup m with⟨_,z⟩|⟨d,v,z,_⟩
    .exact z
    .rw[J]at z;cases z
   refine⟨a,I,G,rfl,S,q,?_⟩;exact bL (ds:=[.ref a]) j.2 l (.cons rfl .nil) j.1 (u.go y) ((s.ux ux).go y)
  .exact j.elim
 .exact j.elim
def fS(C:eg)(T:Sd)(EE:DX)(n:Nat)(t:cB):aV:=λU M Q=>t U M λc M1=>c.length+1=n/\∀a,M1 a=ee->calls T EE (.ref a::c) (M1.upd a<|.ins C []) (λd M2=>match d with
 |.non=>Q (.ref a) M2
 |_=>False) ⟨⟩
theorem Ba(Mk':Mk X.K C f)(F:FnOk X.prog X.w X.K X.mg X.base CX k f fd ps (aY X.K n T))(hr:Room (k+1) X.A)(hg:Gl X x)(hm:X.mg x=al (.ref C))(hb:Binds X.K fd ps [])(hx:bi CX X E)(ux:qe X.K B EE E)(ha:DA X B (e::es) t)(hdb:(x==("__debug__":Str))=false:=by decide)(he:fe (e::es) X.env=(eo,g5 e X.env)::fe es X.env:=by rfl)(hpl:(ik pos<|starEach es X.env).any (·.1)=false:=by rfl):
  DE X B (.Call (.Name x p) (e::es) [] pos) (fS C T EE n t):=by
 refine aJ (BL Mk' F hr hg hm hb .nil hx ha hdb he hpl) ?_
 rintro Y H Q ⟨U,M,QQ,s,h,u⟩
 refine⟨U,M,_,s,h,λds M1 h1 vs H1 rh1 i1 r1 a dx na ndx nex=>?_⟩;rw[JR];have nx1:upd H1 dx (.own a) a=none:=by rw[az (JI nex)];exact na
 have im1:Imm H1 (upd H1 dx<|.own a):=Imm.new ndx;have im2:Imm (upd H1 dx<|.own a) (upd (upd H1 dx<|.own a) a<|.ins C dx []):=Imm.new nx1;have rh2:RepH X.K (upd (upd H1 dx<|.own a) a<|.ins C dx []) (M1.upd a<|.ins C []):=(rh1.new ndx).put (by rw[nx1];trivial) ⟨dx,[],upd_same,.nil⟩
 have f2:Frm M1 H1 (M1.upd a<|.ins C []) (upd (upd H1 dx<|.own a) a<|.ins C dx []):=(Frm.new ndx).trans (Frm.put<|.inl nx1);refine bL (h1.2 a<|rh1.fresh na) rh2 (.cons rfl<|(r1.mono im1).mono im2) (by rw[Jl,<- r1.length];exact h1.1) (λd M2 h2 v H2 rh f r=>?_) ((s.ux ux).go<|i1.trans f2)
 cases d with
 |non=>exact⟨r,u _ M2 h2 _ H2 rh ((i1.trans f2).trans f) rfl⟩
 |_=>exact(show False from h2).elim
end
section
variable{M1:Mem}{o:fx}{to:aV}{t:cB}{name:Str}{RI:Pos}{Ty id:String}
abbrev qd:=D->List D->Mem->DK->Prop
inductive liftM(X:Cx)(r:qd)(x:V)(xs:List V)(H:Hp)(Q:VK):Prop
 |mk (d:D) (ds:List D) (M:Mem) (QQ:DK) (rh:RepH X.K H M) (rx:Rp X.K H d x) (rs:Rps X.K H ds xs) (h:r d ds M QQ) (u:Up X.K M H QQ Q):liftM X r x xs H Q
def me(Ty:String)(r:qd)(to:aV)(t:cB):aV:=λU M Q=>to U M λx M1=>cj M1 x=al Ty/\t U M1 λc M2=>r x c M2 Q
theorem zk{d:D}{v:V}(l:RepH K H M)(r:Rp K H d v)(e:cj M d=al Ty)(h:Ty="list"\/Ty="str"\/Ty="int"\/Ty="dict"):tyV K Ty v H:=by
 cases d with
 |non=>cases e;rcases h with h|h|h|h<;>exact absurd h (by decide)
 |bl b=>cases e;rcases h with h|h|h|h<;>exact absurd h (by decide)
 |int i=>cases r;cases e;rfl
 |str x=>cases r;cases e;rfl
 |tup xs=>cases e;rcases h with h|h|h|h<;>exact absurd h (by decide)
 |lst xs=>
  cases e;obtain⟨p,u,rfl,s,r⟩:=r;exact .inl ⟨rfl,u,s.sq⟩
 |ref a=>
  cases r;simp only[cj]at e
  split at e
  .rename_i q;cases e;obtain⟨c,j,m⟩:=l _ _ q;exact .inl ⟨rfl,c,SqL.of j⟩
  .rename_i q;cases e;obtain⟨c,j,m⟩:=l _ _ q;exact .inr (.inr<|.inl ⟨rfl,.inl ⟨c,j⟩⟩)
  .rename_i q;cases e;obtain⟨c,j,m⟩:=l _ _ q;exact .inr (.inr<|.inl ⟨rfl,.inr ⟨c,j⟩⟩)
  .cases e
 |_=>cases e
theorem Ia(J:Ty="list"\/Ty="str"\/Ty="int"\/Ty="dict")(L:Qr Ty)(l:Q1 Ty name id)(q:Qj (.builtin id)=pure (.type "method_descriptor"))(S:pj X id (liftM X r))(O:DE X B o to)(R:DA X B (e::es) t)(j:n7 o name X.env (g5 o X.env)=g5 o X.env:=by rfl)(hfew:((ik RI<|starEach (e::es) X.env).all (λx=>!x.1)&&(NE RI<|keywordEach [] X.env).all (λx=>x.1.isSome)
   && decide ((e::es).length+([]:List KM).length+(if ([]:List KM).isEmpty then 0 else 1)<30))=true:=by rfl)(hline:(RJ.endLine==RI.line)=true:=by rfl)(hs:fe (e::es) X.env=(eo,g5 e X.env)::fe es X.env:=by rfl)(hplain:(ik RI<|starEach es X.env).any (·.1)=false:=by rfl):
  DE X B (.Call (.Attribute o name RJ) (e::es) [] RI) (me Ty r to t):=by
 refine aJ (Hd L l q S O R j hfew hline hs hplain) ?_
 rintro Y H Q ⟨U,M,QQ,s,h,u⟩
 refine⟨U,M,_,s,h,λx M1 z v H1 c i1 y=>⟨zk c y z.1 J,U,M1,_,s.go c i1,z.2,λI M2 G W H2 m A F=>?_⟩⟩;exact⟨x,I,M2,QQ,m,y.mf c A,F,G,u.go<|i1.trans A⟩
theorem Fx(A:Ty="list"\/Ty="str"\/Ty="int"\/Ty="dict")(F:Qr Ty)(l:Q1 Ty name id)(m:Qj (.builtin id)=pure (.type "method_descriptor"))(I:pj X id (liftM X r))(G:DE X B o to)(c:n7 o name X.env (g5 o X.env)=g5 o X.env:=by rfl)(hline:(RJ.endLine==RI.line)=true:=by rfl):DE X B (.Call (.Attribute o name RJ) [] [] RI) (me Ty r to af):=by
 refine aJ (EN F l m I G c hline) ?_
 rintro Y H Q ⟨U,M,QQ,s,h,u⟩
 refine⟨U,M,_,s,h,λx M1 q v H1 j z y=>⟨zk j y q.1 A,?_⟩⟩;exact⟨x,[],M1,QQ,j,y,.nil,q.2,u.go z⟩
def bM:qd:=λx c M Q=>match x,c with
 |.ref a,[y]=>match M a with
  |some (.lst xs)=>xs.length<sizeLine/\Q .non (M.upd a<|.lst (xs++[y]))
  |_=>False
 |_,_=>False
theorem rF:pj X "list.append" (liftM X bM):=by
 intro RE s Y H x vs v us Q I rx rv h;obtain⟨d,ds,M,QQ,rh,r,rs,h,up⟩:=h;unfold bM at h
 split at h
 .rename_i a y
  cases r;obtain⟨w,rfl,rw'⟩:=dg (ds:=[]) rs
  split at h
  .rename_i xs hM
   obtain⟨ws,h1,h2⟩:=rh _ _ hM;have im:Imm H (upd H a<|.lst (ws++[w])):=Imm.upd (by rw[h1];trivial)
   exact wb RE s Y H _ _ v us Q I rx rv ⟨a,ws,w,rfl,rfl,h1,by rw[<- h2.length];exact h.1,up _ _ h.2 _ _ (rh.put (by rw[h1];trivial) ⟨_,upd_same,(h2.append<|.cons rw' .nil).mono im⟩) (Frm.put<|.inr ⟨_,hM⟩) rfl⟩
  .exact h.elim
 .exact h.elim
def z7:V->List V->Hp->VK->Prop:=λx c H Q=>∃l b xs zs,x=.ref l/\c=[.ref b]/\H l=al (.lst xs)/\Rd H b (.lst zs)/\xs.length+zs.length<=sizeLine/\Q .non (upd H l<|.lst (xs++zs))
theorem rD:MtM X "list.extend" z7:=by
 intro J s Y H x vs v us Q I Z W h;obtain⟨l,b,xs,zs,rfl,rfl,G,O,hz,q⟩:=h;cases Z;obtain⟨u,rfl,ru⟩:=W.one;cases ru;obtain⟨z,j,n,r,hl,e⟩:=I.lstM G;obtain⟨z2,c,L,A,S⟩:=O.ok I.hok;have R:=A.length;have y:j.toArray.size+c.toArray.size<=sizeLine:=by rw[Jc,Jc];lia
 have m:¬(!j.toArray.isEmpty&&KI (j.toArray.size+c.toArray.size))=true:=by
  rw[oO y,KN];exact Js
 refine pa NZ ⟨_,e,rfl⟩ F.entry_list_extend (F.args_list_extend_2 _ _)
  (AutoSeq1.list_extend_list_list_0 l j.toArray n b c.toArray L m (by rw[Jc];lia)<|by lia) ⟨e,S,?_⟩
 refine⟨.non,_,I.lset (its':=j++c) G e (by simp) (r.append A) ?_,rfl,q⟩
 rw[Jr];lia
def jn:qd:=λx c M Q=>match x,c with
 |.ref a,[y]=>match M a,cQ M y with
  |some (.lst xs),al ys=>xs.length+ys.length<=sizeLine/\Q .non (M.upd a<|.lst (xs++ys))
  |_,_=>False
 |_,_=>False
theorem qA:pj X "list.extend" (liftM X jn):=by
 intro RE s Y H x vs v us Q I rx rv h;obtain⟨d,ds,M,QQ,rh,r,rs,h,up⟩:=h;unfold jn at h
 split at h
 .rename_i a y
  cases r;obtain⟨w,rfl,rw'⟩:=dg (ds:=[]) rs
  split at h
  .rename_i xs ys hM hy
   obtain⟨ws,h1,h2⟩:=rh _ _ hM;obtain⟨p,zs,rfl,hq,r2⟩:=cI rh rw' hy;have l1:=h2.length;have l2:=r2.length;have im:Imm H (upd H a<|.lst (ws++zs)):=Imm.upd (by rw[h1];trivial)
   exact rD RE s Y H _ _ v us Q I rx rv ⟨a,p,ws,zs,rfl,rfl,h1,hq,by lia,up _ _ h.2 _ _ (rh.put (by rw[h1];trivial) ⟨_,upd_same,(h2.append r2).mono im⟩) (Frm.put<|.inr ⟨_,hM⟩) rfl⟩
  .exact h.elim
 .exact h.elim
def BB:qd:=λx c M Q=>match x,c with
 |.ref a,[]=>match M a with
  |some (.lst xs)=>match xs[xs.length-1]? with
   |some y=>Q y (M.upd a<|.lst xs.dropLast)
   |none=>False
  |_=>False
 |.ref a,[.int i]=>match M a with
  |some (.lst xs)=>match qQ xs.length i with
   |some k=>match xs[k]? with
    |some y=>Q y (M.upd a<|.lst<|xs.eraseIdx k)
    |none=>False
   |none=>False
  |_=>False
 |_,_=>False
theorem Bn:pj X "list.pop" (liftM X BB):=by
 intro RE s Y H x vs v us Q I rx rv h;obtain⟨d,ds,M,QQ,rh,r,rs,h,up⟩:=h;unfold BB at h
 split at h
 .rename_i a
  cases r;cases rs
  split at h
  .rename_i xs hM
   split at h
   .rename_i y ey
    obtain⟨ws,h1,h2⟩:=rh _ _ hM;obtain⟨w,hw,rw'⟩:=h2.get ey;have im:Imm H (upd H a<|.lst ws.dropLast):=Imm.upd (by rw[h1];trivial)
    exact Es RE s Y H _ _ v us Q I rx rv ⟨a,ws,w,rfl,rfl,h1,by rw[<- h2.length];exact hw,up _ _ h _ _ (rh.put (by rw[h1];trivial) ⟨_,upd_same,h2.dropLast.mono im⟩) (Frm.put<|.inr ⟨_,hM⟩)<|rw'.mono im⟩
   .exact h.elim
  .exact h.elim
 .rename_i a i
  cases r;obtain⟨w0,rfl,rw0⟩:=dg (ds:=[]) rs;cases rw0
  split at h
  .rename_i xs hM
   split at h
   .rename_i k ek
    split at h
    .rename_i y ey
     obtain⟨ws,h1,h2⟩:=rh _ _ hM;obtain⟨w,hw,rw'⟩:=h2.get ey;obtain⟨j1,j2,j3,j4⟩:=nV ek;have hz:ws.length<=sizeLine:=(I.lstM h1).1;have hs:sizeLine=16777216:=rfl;have hl:=h2.length;have im:Imm H (upd H a<|.lst<|ws.eraseIdx k):=Imm.upd (by rw[h1];trivial)
     exact z9 RE s Y H _ _ v us Q I rx rv ⟨a,ws,i,k,w,rfl,rfl,h1,by lia,by lia,by rw[<- hl];exact j1,hw,up _ _ h _ _ (rh.put (by rw[h1];trivial) ⟨_,upd_same,(h2.eraseIdx k).mono im⟩) (Frm.put<|.inr ⟨_,hM⟩)<|rw'.mono im⟩
    .exact h.elim
   .exact h.elim
  .exact h.elim
 .exact h.elim
def gA:List D->Option (List Str)
 |[]=>al []
 |.str x::ds=>match gA ds with
  |some xs=>al (x::xs)
  |none=>ee
 |_=>ee
theorem pb:∀{ds:List D}{vs:List V}{xs:RN},Rps K H ds vs->gA ds=al xs->vs=xs.map V.str
 |[],vs,xs,r,e=>by cases e;exact r
 |d::ds,vs,xs,r,e=>by
  obtain⟨v,l,rfl,a,b⟩:=r;cases d with
  |str c=>
   simp only[gA]at e
   split at e
   .rename_i h j
    cases e;cases a;rw[pb b j];rfl
   .cases e
  |_=>cases e
def mm:qd:=λx c M Q=>match x,c with
 |.tup xs,[.str z]=>match gA xs with
  |some names=>names.length<=1000/\match names.findIdx? (λy=>decide (y=z)) with
   |some j=>Q (.int (j:Nat)) M
   |none=>False
  |none=>False
 |_,_=>False
theorem qW:pj X "tuple.index" (liftM X mm):=by
 intro l s Y H x vs v O Q I G A h;obtain⟨d,ds,M,QQ,rh,r,J,h,F⟩:=h;unfold mm at h
 split at h
 .rename_i xs z
  obtain⟨p,ws,rfl,W,r⟩:=r;obtain⟨w,rfl,q⟩:=dg (ds:=[]) J;cases q
  split at h
  .rename_i c R
   obtain⟨y,h⟩:=h
   split at h
   .rename_i j u
    have:=pb r R;subst this;rw[MI]at u;obtain⟨L,Z,S⟩:=u;refine vy l s Y H _ _ v O Q I G A ⟨p,c,z,j,rfl,rfl,W,y,?_,λm hm=>?_,F _ M h _ H rh am rfl⟩
    .rw[Je L];simpa using Z
    .have:=S m hm
     rw[Je (by lia)]
     simpa using this
   .exact h.elim
  .exact h.elim
 .exact h.elim
def dTM(r:qd)(to:aV)(t:cB):aV:=λU M Q=>to U M λx M1=>match x with
 |.tup xs=>t U M1 λc M2=>r (.tup xs) c M2 Q
 |_=>False
theorem HQ(l:Q1 "tuple" name id)(y:Qj (.builtin id)=pure (.type "method_descriptor"))(W:pj X id (liftM X r))(R:DE X B o to)(S:DA X B (e::es) t)(c:n7 o name X.env (g5 o X.env)=g5 o X.env:=by rfl)(hfew:((ik RI<|starEach (e::es) X.env).all (λx=>!x.1)&&(NE RI<|keywordEach [] X.env).all (λx=>x.1.isSome)
   && decide ((e::es).length+([]:List KM).length+(if ([]:List KM).isEmpty then 0 else 1)<30))=true:=by rfl)(hline:(RJ.endLine==RI.line)=true:=by rfl)(hs:fe (e::es) X.env=(eo,g5 e X.env)::fe es X.env:=by rfl)(hplain:(ik RI<|starEach es X.env).any (·.1)=false:=by rfl):
  DE X B (.Call (.Attribute o name RJ) (e::es) [] RI) (dTM r to t):=by
 refine aJ (Gy l y W R S c hfew hline hs hplain) ?_
 rintro Y H Q ⟨U,M,QQ,s,h,u⟩
 refine⟨U,M,_,s,h,λx M1 F v H1 j i1 z=>?_⟩;cases x with
 |tup xs=>
  have m:=z;obtain⟨p,A,rfl,L,Z⟩:=m;refine⟨⟨p,A,rfl,L⟩,U,M1,_,s.go j i1,F,λO M2 J A H2 q G I=>?_⟩;exact⟨_,O,M2,QQ,q,z.mf j G,I,J,u.go<|i1.trans G⟩
 |_=>exact(show False from F).elim
def lx(ks:List ax)(ys:List D):List (ax×D):=(ks.zip ys).foldl (λa p=>bX a p.1 p.2) []
theorem kF:∀{ks:List ax}{ds:List D}{vs:List V}{a:List (ax×D)}{b:List (ax×V)},Rps K H ds vs->Rkv K H a b->
  Rkv K H ((ks.zip ds).foldl (λa p=>bX a p.1 p.2) a) ((ks.zip vs).foldl (λa p=>bE a p.1 p.2) b)
 |[],_,_,_,_,_,r=>r
 |_::_,[],_,_,_,h,r=>by cases h;exact r
 |k::ks,d::ds,_,_,_,h,r=>by
  obtain⟨v,vs,rfl,a,b⟩:=h;exact kF (ks:=ks) b (r.put k a)
def fM(t:cB):aV:=λU M Q=>t U M λc M1=>match c with
 |[.tup xs,.tup ys]=>match eZ xs with
  |some ks=>ks.length=ys.length/\0<ks.length/\ks.length<=1000/\∀p,M1 p=ee->Q (.ref p) (M1.upd p<|.dK<|lx ks ys)
  |none=>False
 |_=>False
theorem rM{p2 pos2:Pos}(hc:X.calm=true)(hg:Gl X "zip")(hm:X.mg "zip"=ee)(hg2:Gl X "dict")(hm2:X.mg "dict"=ee)(ha:DA X B [a,b] ta)(hs:fe [a,b] X.env=[(eo,g5 a X.env),(eo,g5 b X.env)]:=by rfl)(hs2:fe [b] X.env=[(eo,g5 b X.env)]:=by rfl)(hs3:fe [NM (.Name "zip" p2) [a,b] [] pos2] X.env=[(eo,g5 (.Call (.Name "zip" p2) [a,b] [] pos2) X.env)]:=by rfl):
  DE X B (.Call (.Name "dict" p) [.Call (.Name "zip" p2) [a,b] [] pos2] [] pos) (fM ta):=by
 refine aJ (qU eo eo hc hg hm hg2 hm2 ha hs hs2 hs3) ?_
 rintro Y H Q ⟨U,M,QQ,s,h,u⟩
 refine⟨U,M,_,s,h,λds M1 h1 vs H1 rh1 i1 r1=>?_⟩
 split at h1
 .obtain⟨v,w,rfl,rv,rw'⟩:=wo r1
  obtain⟨l1,us,rfl,t1,ru⟩:=rv;obtain⟨l2,ws,rfl,t2,rw2⟩:=rw'
  split at h1
  .rename_i ks ek
   obtain⟨e1,e2,e3,h1⟩:=h1;have hk:=kd ru ek;subst hk;refine⟨l1,l2,ks,ws,rfl,t1.sq,t2.sq,by rw[<- rw2.length];exact e1,e2,e3,λd hd=>?_⟩
   have im:Imm H1 (upd H1 d<|.dK<|(ks.zip ws).foldl (λa p=>bE a p.1 p.2) []):=Imm.new hd;exact u _ _ (h1 d<|rh1.fresh hd) _ _ (rh1.put (by rw[hd];trivial) ⟨_,upd_same,(kF rw2 .nil).mono im⟩) (i1.trans<|Frm.put<|.inl hd) rfl
  .exact h1.elim
 .exact h1.elim
end
section
variable{cd:c0}{A:j0}{outer:List Env}{s0:c8}{H0:Hp}
theorem Bw{t:TS}{E':RT}(h:PS X st t)(k:∀e s,X.xe e s->E' e s):PS (X.wish E') st t:=λj s Y H D I q=>
 kB (h j s Y H D (I.unwish) q) (λf l z=>by
  cases f with
  |next=>obtain⟨c,H',I,q⟩:=z;exact⟨c,H',I.wish _,q⟩
  |brk=>obtain⟨c,H',I,q⟩:=z;exact⟨c,H',I.wish _,q⟩
  |cont=>obtain⟨c,H',I,q⟩:=z;exact⟨c,H',I.wish _,q⟩
  |ret u=>obtain⟨v,c,H',I,r,q⟩:=z;exact⟨v,c,H',I.wish _,r,q⟩) k
def gH(C:eg)(EE:DX):ar:=λ_ _ M=>EE C M
theorem xE{c:Str}{j RI:Pos}{jj}(X:ExcAt K C)(t:mg x=al (.ref C))(ux:qe K B EE E)(q:Gl (cu (kG P w) P w K mg base N RF scope f cd A outer s0 H0 E) x)(o:(x==("__debug__":Str))=false:=by decide)(hs:fe [.Constant (.str c) jj RJ] (cu (kG P w) P w K mg base N RF scope f cd A outer s0 H0 E).env=[(eo,g5 (.Constant (.str c) jj RJ) (cu (kG P w) P w K mg base N RF scope f cd A outer s0 H0 E).env)]:=by rfl):
  DS (cu (kG P w) P w K mg base N RF scope f cd A outer s0 H0 E) B (.Raise (al<|.Call (.Name x j) [.Constant (.str c) jj RJ] [] RI) ee pos) (gH C EE):=by
 have l:PS (cu (og P w C) P w K mg base N RF scope f cd A outer s0 H0 E) (.Raise (al<|.Call (.Name x j) [.Constant (.str c) jj RJ] [] RI) ee pos) (q_ E C):=zF X t q o hs;have m:PS (cu (kG P w) P w K mg base N RF scope f cd A outer s0 H0 E) (.Raise (al<|.Call (.Name x j) [.Constant (.str c) jj RJ] [] RI) ee pos) (q_ E C):=
  Bw l λe s h=>kB h (λ_ _ z=>⟨C,z⟩) λ_ _ z=>⟨C,z⟩
 refine ba m ?_
 rintro D Y H ⟨U,M,DD,s,h,u⟩
 exact ux C M h H s.rh s.i0
end
section
def Ej(C:eg)(T:Sd)(n:Nat)(ta:cB)(ts:ar):ar:=λD U M=>ta U M λc M1=>c.length=n/\calls T (λC' M2=>C'=C/\ts D U M2) c M1 (λ_ M2=>D.nx U M2) ⟨⟩
theorem SR.mark{e:c0}(s:SR X B U M Y H):SR (X.marked e) B U M Y H:=⟨s.i0,s.rh,s.rs⟩
theorem SR.unmark{e:c0}(s:SR (X.marked e) B U M Y H):SR X B U M Y H:=⟨s.i0,s.rh,s.rs⟩
theorem UpD.mark{DD:DEnds}{D:Ends}{e:c0}(u:UpD X B M H DD D):UpD (X.marked e) B M H DD D:=
 ⟨λU M q Y H' f s=>u.nx U M q Y H' f s.unmark,u.rt,λU M q Y H' f s=>u.bk U M q Y H' f s.unmark,λU M q Y H' f s=>u.ct U M q Y H' f s.unmark⟩
theorem sd{k:Nat}{sp:Sp}(F:FnOk P w K mg base (kG P w) k f fd ps sp):
  FnOk P w K mg base (og P w C) k f fd ps (λvs H Q E=>sp vs H Q λCv a H'=>Cv=.ref C/\E Cv a H'):=
 ⟨λvs H Q E h=>F.len _ _ _ _ h,λA c s H j q vs Q E u J v hv O=>Os (F.run A c s H j q vs Q _ u J v hv O) λr s' h=>by
  cases r with
  |ok fl=>cases fl<;>exact h
  |error e=>
   obtain⟨C',L,H',B,m,W,z,Z,S,o,R,t,y,I,l⟩:=h;have G:C'=C:=by injection I
   subst G;exact⟨L,H',B,m,W,z,Z,S,o,R,t,y,l⟩⟩
theorem rS{k:Nat}{y:Str}{R ep np t:Pos}{j:q0}{c:RS}{J:ar}(I:X.stack=X.env::X.outer)(G:X.env.frame=al X.env.locals)(F:FnOk X.prog X.w X.K X.mg X.base (kG X.prog X.w) k f fd ps (aY X.K n T))(hr:Room k X.A)(hg:Gl X x)(hm:X.mg x=al (.ref f))(hk:J4 X.K (.ref f)=true)(hb:Binds X.K fd ps [])(ha:DA X.nox B (e::es) ta)(EX:ExcAt X.K C)(S:Gl X y)(L:X.mg y=al (.ref C))(O:∀ea:eg,qb (X.marked<|.ref ea) B (j::c) J)(W:(x==("__debug__":Str))=false:=by decide)(hdC:(y==("__debug__":Str))=false:=by decide)(he:fe (e::es) X.env=(eo,g5 e X.env)::fe es X.env:=by rfl)(hpl:(ik R<|starEach es X.env).any (·.1)=false:=by rfl)(hsw:rc (.Call (.Name x p) (e::es) [] R) ee ep.line X.env=pure false:=by rfl):
  DS X B (.Try [.Expr (.Call (.Name x p) (e::es) [] R) ep] [.ExceptHandler (al<|.Name y np) ee (j::c) t] [] [] pos) (Ej C T n ta J):=by
 have m:∀ea:eg,qc (X.marked<|.ref ea) (j::c) (liftS X B J):=λea=>kf (O ea) λD Y H ⟨U,M,DD,s,h,u⟩=>⟨U,M,DD,s.mark,h,u.mark⟩;refine ba (qS (C:=C) I G (sd F) hr hg hm hk hb .nil ha EX S L m W hdC he hpl hsw) ?_
 rintro D Y H ⟨U,M,DD,s,h,up⟩
 refine⟨U,M,_,⟨s.i0,s.rh,s.rs⟩,h,λds M1 h1 vs H1 z i1 Z=>?_⟩
 try dsimp only
 rw[JR];refine bL h1.2 z Z (by rw[<- Z.length];exact h1.1) (λd M2 o v H2 l q r2=>?_) λC' M2 o H2 l q=>?_
 .exact up.nx _ _ o Y H2 (i1.trans q) (s.go l<|i1.trans q)
 .obtain⟨rfl,o⟩:=o
  exact⟨rfl,U,M2,DD,s.go l (i1.trans q),o,up.go<|i1.trans q⟩
end
end L3
namespace L2
open PySem PySem.Spec PyProof.Rows
theorem dE{scope:Pi}{env:Env}{x:Str}{k:Q4}(h:(Qh scope env).names.lookup x=al k):∃e,(x,e)∈scope.names/\(k=e\/(e=.free/\k=.cell)):=by
 have j:=Kc h;obtain⟨⟨n,c⟩,f,g⟩:=JM.mp j
 by_cases b:(c==NameKind.free&&env.scope.kind==.function&&env.kindOf n==al .cell)=true
 .have a:(n,NameKind.cell)=(x,k):=by rw[<- g];show _=(if _ then _ else _);rw[if_pos b]
  cases a;have i:c=.free:=by
   simp only[J3]at b;exact beq_iff_eq.mp b.1.1
  exact⟨c,f,.inr ⟨i,rfl⟩⟩
 .have a:(n,c)=(x,k):=by rw[<- g];show _=(if _ then _ else _);rw[if_neg b]
  cases a;exact⟨_,f,.inl rfl⟩
theorem gW{x:Str}:∀{fs:RN}{a:RP},fs.length=a.length->x∈fs->∃c,(fs.zip a).lookup x=al c
 |[],_,_,h=>by cases h
 |_::_,[],h,_=>by simp at h
 |y::fs,c::a,hl,h=>by
  rw[LD,MV];cases e:x==y with
  |true=>exact⟨c,rfl⟩
  |false=>
   have ne:¬x=y:=λz=>by rw[z]at e;simp at e
   rcases Jq.mp h with z|z
   .exact absurd z ne
   .exact gW (by simpa using hl) z
theorem AJ{X:Cx}{a:Pi}{ls fs:RN}{g:RP}{l:List Nat}(o:a.kind=.function)(e:∀y∈a.names,y.2≠.cell/\(y.2=.free->y.1∈fs))(q:∀x∈a.names,x.2=.local->a.names.lookup x.1=al .local)
  (f:fs.length=g.length) (j:QG a X.env=pure (fs.zip g)) (r:∀p∈fs.zip g,X.env.cells.lookup p.1=al p.2) (n:Frees X a fs l):CompOk X a (fs.zip g) ls fs l where
 kind:=o
 nocell:=λy i=>(e y i).1
 locs:=q
 clos:=j
 cells:=λy d h=>r (y,d) (Kc h)
 has:=λy h=>by
  have i:y∈fs:=by
   rcases h with h|h
   .obtain⟨m,c,b|⟨b,_⟩⟩:=dE h
    .exact absurd b.symm (e _ c).1
    .exact(e _ c).2 b
   .obtain⟨m,c,b|⟨b,_⟩⟩:=dE h
    .exact(e _ c).2 b.symm
    .exact(e _ c).2 b
  exact gW f i
 frees:=n
theorem memZ{α:Type}{C:α->Prop}:∀p∈([]:List α),C p:=λ_ h=>by cases h
theorem memC{α:Type}{C:α->Prop}{a:α}{l:List α}(c:C a)(e:∀p∈l,C p):∀p∈a::l,C p:=λp b=>by
 rcases Jq.mp b with rfl|z
 .exact c
 .exact e p z
end L2
namespace L3
open PySem L2
variable{K:Jd}
section
variable{X:Cx}{B:Bd}{pos:Pos}
theorem dnm(i:Nat){x:Str}{pos:Pos}(a:X.N[i]?=al x:=by rfl)(hv:Gj X.env.scope x:=by first|exact Or.inl rfl|exact Or.inr (Or.inl rfl)|exact Or.inr (Or.inr rfl))(hd:(x==("__debug__":Str))=false:=by decide)(hcd:(x==("__classdict__":Str))=false:=by decide):DE X B (.Name x pos) (ac i):=D_ a hv hd hcd
def uS:DX:=λ_ _=>False
theorem uxN{E:XK}:qe K B uS E:=λ_ _ z=>z.elim
theorem oN:g4 "list"=al (.type "list"):=by decide +kernel
theorem vO:g4 "tuple"=al (.type "tuple"):=by decide +kernel
theorem dO:g4 "isinstance"=al (.builtin "isinstance"):=by decide +kernel
theorem AO:g4 "int"=al (.type "int"):=by decide +kernel
theorem AG:g4 "str"=al (.type "str"):=by decide +kernel
theorem n_:g4 "dict"=al (.type "dict"):=by decide +kernel
theorem BZ:g4 "len"=al (.builtin "len"):=by decide +kernel
theorem I0{x:Str}{T:String}(a:Gl X x)(e:X.mg x=ee)(c:g4 x=al (.type T))(b:x≠"__name__":=by decide)(hd:(x==("__debug__":Str))=false:=by decide):DE X B (.Name x pos) (dC<|.ty T):=
 ve (B9 (v:=.ty T) a e c rfl b hd) λ_=>rfl
def Bk(t:aV):aV:=λU M Q=>t U M λx M1=>match x with
 |.int i=>Q (.int (-i)) M1
 |_=>False
theorem DC{a:fx}{b:aV}(e:DE X B a b):DE X B (.UnaryOp .USub a pos) (Bk b):=by
 refine aJ (IA FG e) ?_
 rintro Y H Q ⟨U,M,QQ,s,h,u⟩
 refine⟨U,M,_,s,h,λd M' q v H' c i r=>?_⟩;cases d with
 |int j=>exact⟨j,r,u _ M' q _ H' c i rfl⟩
 |_=>exact(show False from q).elim
def frzs:List D->Mem->(List D->Mem->Prop)->Prop
 |[],M,Q=>Q [] M
 |d::ds,M,Q=>match d with
  |.ref a=>match M a with
   |some (.lst xs)=>frzs ds (M.del a) λb M'=>Q (.lst xs::b) M'
   |_=>frzs ds M λb M'=>Q (d::b) M'
  |_=>frzs ds M λb M'=>Q (d::b) M'
theorem fh{RE:RU}{Y:L2.St}{s:c8}:∀{ds:List D}{vs:List V}{M:Mem}{H:Hp}{Q:List D->Mem->Prop},Inv X RE Y H s->RepH X.K H M->Rps X.K H ds vs->frzs ds M Q->
  ∃H' es M',Inv X RE Y H' s/\RepH X.K H' M'/\Frm M H M' H'/\Rps X.K H' es vs/\Q es M'
 |[],vs,M,H,Q,I,rh,r,h=>⟨H,[],M,I,rh,am,r,h⟩
 |d::ds,vs,M,H,Q,I,rh,r,h=>by
  obtain⟨v,vs',rfl,a,b⟩:=r;unfold frzs at h
  split at h
  .rename_i a'
   cases a
   split at h
   .rename_i xs e
    obtain⟨ws,h1,h2⟩:=rh _ _ e;obtain⟨o,I2⟩:=Inv.freeze I h1;have im:Imm H (upd H a'<|.frz o<|.lst ws):=Imm.upd (by rw[h1];trivial)
    obtain⟨H',es,M',I',rh',f,r',q⟩:=fh I2 (rh.freeze h1) (b.mono im) h;refine⟨H',_,M',I',rh',(Frm.del ⟨_,e⟩).trans f,.cons ?_ r',q⟩;have z:Rp X.K (upd H a'<|.frz o<|.lst ws) (.lst xs) (.ref a'):=⟨a',ws,rfl,⟨o,upd_same⟩,h2.mono im⟩;exact z.mf (rh.freeze h1) f
   .obtain⟨H',es,M',I',rh',f,r',q⟩:=fh I rh b h
    exact⟨H',_,M',I',rh',f,.cons (d:=.ref a') rfl r',q⟩
  .obtain⟨H',es,M',I',rh',f,r',q⟩:=fh I rh b h
   exact⟨H',_,M',I',rh',f,.cons (a.mf rh f) r',q⟩
def oX(d:D)(M:Mem)(Q:DK):Prop:=match d with
 |.tup ds=>frzs ds M λa M'=>Q (.tup a) M'
 |d=>Q d M
def lM(t:aV):aV:=λU M Q=>t U M λd M'=>oX d M' Q
theorem BA{e:fx}{te:aV}(h:DE X B e te):DE X B e (lM te):=by
 intro a s Y H Q I o;obtain⟨U,M,QQ,m,l,u⟩:=o;refine aW (h a s Y H (λv H'=>∃d M',RepH X.K H' M'/\Frm M H M' H'/\Rp X.K H' d v/\oX d M' QQ) I ⟨U,M,_,m,l,λd M' q v H' b i r=>⟨d,M',b,i,r,q⟩⟩) ?_
 rintro w z ⟨v,H',I',f,d,M',b,i,r,q⟩
 unfold oX at q
 split at q
 .obtain⟨p,n,rfl,x,r⟩:=r
  obtain⟨H2,y,M2,I2,c,g,t,j⟩:=fh I' b r q;exact⟨.ref p,H2,I2,f,u _ _ j _ H2 c (i.trans g) ⟨p,n,rfl,x.mono (g.imm b),t⟩⟩
 .exact⟨v,H',I',f,u _ _ q v H' b i r⟩
theorem FF{P:fy}{w:h7}{i:RV}{a:i5}{k n:Nat}{f:eg}{g:hI}{ps:RN}{T:Sd}(F:FnOk P w K i a (kG P w) k f g ps (aY K n T)):
  FnOk P w K i a CX0 k f g ps (λvs H Q _=>aY K n T vs H Q E0):=
 ⟨λvs H Q E h=>F.len _ _ _ _ h,λA b s H c j vs Q E l p m t q=>Os (F.run A b s H c j vs Q E0 l p m t q) λr L h=>by
  cases r with
  |ok fl=>cases fl<;>exact h
  |error e=>
   obtain⟨C',C,H',B,u,J,z,M,I,v,G,x,y,o⟩:=h;exact(show False from o).elim⟩
theorem C1{T:Sd}{H:Hp}{a:eg}{c:RM}{Q:VK}(g:y4 H)(i:SqL K H a (c.map V.int))(h:T [.ml (c.map D.int)] (λ_=>ee) (λd _=>d=.bl true) uS)(k:∀H',Q (.bl true) H'):aY K 1 T [.ref a] H Q E0:=by
 refine⟨rfl,[.ml (c.map D.int)],λ_=>ee,_,_,λb o e=>(by cases e),.cons ⟨a,_,rfl,?_,p_ rfl⟩ .nil,h,λd M' q v H' j f r=>?_,λ_ _ z=>z.elim⟩
 .rcases i with (z|z)|z
  .rcases g a with e|⟨o,xs,e⟩
   .rw[e]at z;cases z
   .rw[e]at z;cases z
  .exact .inl z
  .exact .inr z
 .subst q;cases r;exact k H'
end
theorem ij{h h':i5}{N:eg}(X:K.In h)(X':K.In h')(e:W.nsOkIn K N=true):h'.nsMap N=h.nsMap N:=by
 unfold W.nsOkIn at e
 split at e
 .rename_i a
  funext x;unfold Heap.nsMap;rw[X _ _ a,X' _ _ a]
 .cases e
theorem eY{h:i5}{C:eg}(X:K.In h)(q:Oi K C [.type "ValueError",.type "Exception",.type "BaseException",.type "object"] "ValueError.__new__"=true):ExcAt K C:=by
 unfold Oi at q
 split at q
 .rename_i E z i G
  split at q
  .rename_i C' A o t g j n m u s
   simp only[J3,beq_iff_eq,Bool.not_eq_true']at q;obtain⟨⟨⟨⟨⟨rfl,rfl⟩,b⟩,p⟩,a⟩,c⟩:=q;obtain⟨nm,bs,B,r,v,w,x,sub,y,e,del⟩:=z;dsimp only at u b a c;subst u b;have f:i=#[o,t,g,j,al (.builtin "ValueError.__new__"),m]:=by
    obtain⟨l⟩:=i;simp only at s;rw[s]
   subst f;refine⟨⟨nm,v,r,bs,A,_,w,x,sub,y,e,E,o,t,g,j,m,"ValueError.__new__","ValueError.__init__","ValueError",h.nsMap r,λH X'=>⟨X' _ _ G,?_,W.tail_of_in X' p⟩,W.nsMap_none_of_in X a c,PySem.F.excBase_ValueError,by decide,(W.tail_of_in X p).hasType<|by decide⟩⟩
   rw[<- ij X X' a];exact .of_isNs (W.isNs_of_in X' a)
  .cases q
 .cases q
end L3
namespace L2
open PySem
theorem Ag{b:fx}{a:List Comprehension}{scope:Pi}{pos f:Pos}{x:Str}{line:Nat}{env:Env}(g:env.blockKind=.function)(i:env.scope.names.lookup x=al .local)(h:f.line=pos.line)
  (j:(scope.names.any λ(n,k)=>n==x&&(k==.local||k==.cell))=eo):rc (.ListComp b a scope pos) (al<|.Name x f) line env=pure true:=by
 have e:(Expr.ListComp b a scope pos).pos=pos:=rfl;have c:env.kindOf x=al .local:=i;unfold rc
 try dsimp only
 rw[g,c,e,h,j];simp
end L2
namespace L3
open PySem L2
variable{B:Bd}{X:Cx}
def yo:fx->Bool
 |.Starred ..=>eo
 |_=>true
theorem vD{e:fx}{es:RQ}{env:Env}(h:yo e=true):fe (e::es) env=(eo,g5 e env)::fe es env:=by
 cases e<;>first|rfl|exact Bool.noConfusion h
section
theorem da_c{e:fx}{es:RQ}{te:aV}{t:cB}(b:DE X B e te)(a:DA X B es t)(c:yo e=true:=by rfl):DA X B (e::es) (aa te t):=Cn b a (vD c)
def oE:qa:=λa M Q=>match a with
 |[.bl b]=>Q (.int (if b=true then 1 else 0)) M
 |_=>False
theorem vJ:bp X (.type "int") (liftC X oE):=by
 intro a s Y H l j Q I r h;obtain⟨ds,M,QQ,g,i,h,e⟩:=h;unfold oE at h
 split at h
 .rename_i b
  obtain⟨v,rfl,c⟩:=dg (ds:=[]) i;cases c;obtain⟨u,rfl,f⟩:=dI r;cases f;exact call_int_bool ⟨.int _,H,I.tok _,⟨_,rfl⟩,e _ M h _ H g am rfl⟩
 .exact h.elim
end
section
end
section
end
mutual
def dz:D->PyData
 |.non=>.none
 |.bl b=>.bool b
 |.int i=>.int i
 |.str x=>.str x
 |.tup xs=>.tuple (dB xs)
 |.lst xs=>.list (dB xs)
 |_=>.none
def dB:List D->List PyData
 |[]=>[]
 |x::xs=>dz x::dB xs
end
mutual
theorem qH:∀d:D,(dz d).hasDict=eo
 |.non=>by simp only[dz,J6]
 |.bl _=>by simp only[dz,J6]
 |.int _=>by simp only[dz,J6]
 |.str _=>by simp only[dz,J6]
 |.tup xs=>by simp only[dz,J6];exact nG xs
 |.lst xs=>by simp only[dz,J6];exact nG xs
 |.ty _=>by simp only[dz,J6]
 |.ref _=>by simp only[dz,J6]
 |.mt _=>by simp only[dz,J6]
 |.ml _=>by simp only[dz,J6]
theorem nG:∀xs:List D,ME (dB xs)=eo
 |[]=>by simp only[dB,ME]
 |x::xs=>by simp only[dB,ME,qH x,nG xs,Bool.or_self]
end
mutual
theorem oA:∀(n:Nat)(d:D),bn n d=true->(dz d).depth<=n
 |_,.non,_=>by simp[dz,Lr]
 |_,.bl _,_=>by simp[dz,Lr]
 |_,.int _,_=>by simp[dz,Lr]
 |_,.str _,_=>by simp[dz,Lr]
 |n+1,.tup xs,f=>by have:=gq n xs f;simp only[dz,Lr];lia
 |n+1,.lst xs,f=>by have:=gq n xs f;simp only[dz,Lr];lia
 |0,.tup _,f=>by simp[bn]at f
 |0,.lst _,f=>by simp[bn]at f
 |_,.ty _,f=>by simp[bn]at f
 |_,.ref _,f=>by simp[bn]at f
 |_,.mt _,f=>by simp[bn]at f
 |_,.ml _,f=>by simp[bn]at f
theorem gq:∀(n:Nat)(xs:List D),cR n xs=true->MS (dB xs)<=n
 |_,[],_=>by simp[dB,MS]
 |n,x::xs,f=>by
  rw[cR,J3]at f;have:=oA n x f.1;have:=gq n xs f.2;simp only[dB,MS];lia
end
mutual
theorem pv{h:i5}:∀(d:D)(u:c0),Hr h d u->∃g,Reads h u (dz d) g
 |.non,u,q=>by cases q;exact⟨_,.none⟩
 |.bl _,u,q=>by cases q;exact⟨_,.bool _⟩
 |.int _,u,q=>by obtain⟨t,rfl⟩:=q;exact⟨_,.int _ _⟩
 |.str _,u,q=>by obtain⟨t,rfl⟩:=q;exact⟨_,.str _ _⟩
 |.tup xs,u,q=>by
  obtain⟨p,a,rfl,⟨o,b,c,n,e⟩,r⟩:=q;obtain⟨g,f⟩:=gB xs a r;exact⟨_,.tuple b c e f⟩
 |.lst xs,u,q=>by
  obtain⟨p,a,rfl,⟨o,b,c,n,e⟩,r⟩:=q;obtain⟨g,f⟩:=gB xs a r;exact⟨_,.list b c e f⟩
 |.ty _,_,q=>q.elim
 |.ref _,_,q=>q.elim
 |.mt _,_,q=>q.elim
 |.ml _,_,q=>q.elim
theorem gB{h:i5}:∀(xs:List D)(us:RO),Hrs h xs us->∃f,ReadsAll h us (dB xs) f
 |[],_,q=>by cases q;exact⟨_,.nil⟩
 |x::xs,_,q=>by
  obtain⟨u,r,rfl,a,b⟩:=q;obtain⟨g,e⟩:=pv x u a;obtain⟨i,c⟩:=gB xs r b;exact⟨_,.cons e c⟩
end
section
end
theorem yN:g4 "repr"=al (.builtin "repr"):=by decide +kernel
end L3
namespace LS
open PySem
variable{A:j0}{prog:fy}{s:c8}{E:RT}{w:h7}
section
variable{K:Type}[DecidableEq K]
variable{knd:KeyKind prog w K}
end
section
variable{K:Type}[DecidableEq K]{knd:KeyKind prog w K}
end
section
variable{M:QP}
end
section
variable{I a:eg}{f:c0}{i n ep:Nat}{es:Array (Int×c0)}{t:SetTable}
end
section
variable{I a:eg}{ep:Nat}{es:Array (Int×c0)}{t:SetTable}
end
end LS
namespace LS
open PySem PySem.W PySem.Calls PyProof.Rows PyProof.V PySem.Spec
section
variable {prog:fy}{w:h7}{A:j0}{E:RT}{s:c8}{a:eg}{ep:Nat}{es:Array (Int×c0)}{t:SetTable}
end
end LS
namespace LS
open PySem
section
variable {prog:fy}{w:h7}{A:j0}{E:RT}{s:c8}{a:eg}
end
section
variable {K:Type}[DecidableEq K](o:Ord K)
end
end LS
namespace L3
open PySem L2 LS
section
variable {X:Cx}{B:Bd}
end
end L3
namespace LS
open PySem
section
variable {prog:fy}{w:h7}{A:j0}{E:RT}{s:c8}{a:eg}
end
end LS
namespace L3
open PySem L2 LS
def gx:List D->Option (List Int)
 |[]=>al []
 |.int i::ds=>match gx ds with
  |some is=>al (i::is)
  |none=>ee
 |_=>ee
theorem pX{K:Jd}{H:Hp}:∀{ds:List D}{vs:List V}{xs:RM},Rps K H ds vs->gx ds=al xs->vs=xs.map V.int
 |[],vs,xs,r,e=>by cases e;exact r
 |d::ds,vs,xs,r,e=>by
  obtain⟨v,h,rfl,a,b⟩:=r;cases d with
  |int c=>
   simp only[gx]at e
   split at e
   .rename_i f g
    cases e;cases a;rw[pX b g];rfl
   .cases e
  |_=>simp[gx]at e
section
variable {X:Cx}{B:Bd}
end
end L3
namespace L2
open PySem
section
variable {X:Cx}
end
end L2
namespace L3
open PySem L2 LS
section
variable {X:Cx}{B:Bd}
theorem wf:g4 "range"=al (.type "range"):=by decide +kernel
def fB(t:cB):aV:=λU M Q=>t U M λa M1=>match a with
 |[.int j]=>(-(2 ^ 62)<=j/\j<=1000)/\∀p,M1 p=ee->Q (.ref p) (M1.upd p<|.lst<|dy 0 j.toNat)
 |_=>False
def rL(n:Nat):List V:=(Km n).map λ(i:Nat)=>V.int (0+(i:Int))
theorem BC{K:Jd}{H:Hp}{n:Nat}:Rps K H (dy 0 n) (rL n):=by
 unfold dy rL;generalize Km n=l
 induction l with
 |nil=>rfl
 |cons i l ih=>exact⟨_,_,rfl,rfl,ih⟩
theorem yw{a:RW}{n:Nat}(h:ItemsOf (λi v=>∃t,v=.int (0+i*1) t) a n):Vals (rL n) a.toList:=by
 obtain⟨c,f⟩:=h;have b:∀(l:RO)(k m:Nat),l.length=m->(∀(j:Nat)(v:c0),l[j]?=al v->∃t,v=.int (0+((k+j:Nat):Int)) t)->Vals ((Of k m).map λ(i:Nat)=>V.int (0+(i:Int))) l:=by
  intro l
  induction l with
  |nil=>intro k m e _;subst e;exact .nil
  |cons x l ih=>
   intro k m e h;subst e;rw[Jl,MU,Jf];refine .cons ?_ (ih (k+1) _ rfl λj v q=>?_)
   .obtain⟨t,rfl⟩:=h 0 x (by simp)
    exact⟨t,rfl⟩
   .obtain⟨t,e⟩:=h (j+1) v (by simpa using q)
    exact⟨t,by rw[e];congr 2;lia⟩
 have:=b a.toList 0 n (by simpa using c) λj v q=>by
  obtain⟨t,e⟩:=f j v (by simpa using q)
  exact⟨t,by rw[e,Int.mul_one,Nat.zero_add]⟩
 unfold rL;rw[List.range_eq_range'];exact this
def xS(t:TA):TE:=λY H Q=>t Y H λa H1=>∃j:Int,a=[.int j]/\(-(2 ^ 62)<=j/\j<=1000)/\∀p,H1 p=ee->Q (.ref p) (upd H1 p<|.lst<|rL j.toNat)
theorem rN{e:fx}{t:TA}{p v pos a:Pos}(P:X.calm=true)(O:Gl X "range")(T:X.mg "range"=ee)(r:Gl X "list")(x:X.mg "list"=ee)(S:PA X [e] t)
  (R:fe [e] X.env=[(eo,g5 e X.env)]:=by rfl) (hs3:fe [NM (.Name "range" v) [e] [] a] X.env=[(eo,g5 (.Call (.Name "range" v) [e] [] a) X.env)]:=by rfl):
  PE X (.Call (.Name "list" p) [.Call (.Name "range" v) [e] [] a] [] pos) (xS t):=by
 intro g s Y H Q I h;refine p5 (bW I r x oN<|JB ?_ hs3 rfl);rw[hs3];show eH _ _ (spliced ((eo,_)::ik pos [])) _ _ s;refine Ks ?_;refine p5 (bW I O T wf<|JB (aW (S a g s Y H _ I h) λU c ⟨W,H1,I1,E,J⟩=>?_) R rfl);obtain⟨j,rfl,⟨G,Z⟩,q⟩:=J;obtain⟨u,rfl,L⟩:=dI E;obtain⟨t',rfl⟩:=L;refine call_range_1 ?_;refine Le ?_;have F:=I1.ok.hd P;refine call_list_range (n:=j.toNat) F (IsRange.new ..) (small_one (by decide) (by decide) G<|by lia) (by rw[rangeSize_one];split<;>lia) (by lia) λK M f y N C i=>?_
 have l:(c.heap.push { cls:=.type "range",data:=.fields #[.int 0 c.toks,.int j t',.int 1 (c.toks+1)] }).objs.size=c.heap.objs.size+1:=JP ..;have A:H1 (c.heap.objs.size+1)=none:=I1.hok.fresh (M8 _);have m:K.get? (c.heap.objs.size+1)=al { cls:=.type "list",dict:=ee,data:=.seq f y,slots:=#[] }:=by rw[<- l];exact C
 refine⟨.ref (c.heap.objs.size+1),_,I1.laid (t':=M) (o:=.lst (rL j.toNat)) (λb o z=>N b o (Jb _ z)) (M8 _) (show ObjOk X.prog X.w _ _ _ (.lst _) from ⟨?_,f.toList,y,yw i,by rw[Array.toArray_toList];exact m⟩),?_,q _ A⟩
 .simp only[rL,Ji,List.length_range]
  exact JC (by lia:j.toNat<=1000) (by decide)
 .show Jv _=Jv _
  rw[<- l]
theorem rA{e:fx}{t:cB}{p p2 pos pos2:Pos}(hc:X.calm=true)(hg:Gl X "range")(hm:X.mg "range"=ee)(hg2:Gl X "list")(hm2:X.mg "list"=ee)(ha:DA X B [e] t)
  (hs:fe [e] X.env=[(eo,g5 e X.env)]:=by rfl) (hs3:fe [NM (.Name "range" p2) [e] [] pos2] X.env=[(eo,g5 (.Call (.Name "range" p2) [e] [] pos2) X.env)]:=by rfl):
  DE X B (.Call (.Name "list" p) [.Call (.Name "range" p2) [e] [] pos2] [] pos) (fB t):=by
 refine aJ (rN hc hg hm hg2 hm2 ha hs hs3) ?_
 rintro Y H Q ⟨U,M,QQ,s,h,u⟩
 refine⟨U,M,_,s,h,λds M1 h1 vs H1 rh1 i1 r1=>?_⟩
 split at h1
 .obtain⟨v,rfl,rv⟩:=dg (ds:=[]) r1
  cases rv;refine⟨_,rfl,h1.1,λd hd=>?_⟩;exact u _ _ (h1.2 d<|rh1.fresh hd) _ _ (rh1.put (by rw[hd];trivial) ⟨_,upd_same,BC⟩) (i1.trans<|Frm.put<|.inl hd) rfl
 .exact h1.elim
end
section
variable {X:Cx}{B:Bd}{name:Str}{a:eg}{tab:List (Str×D)}
end
end L3
namespace LS
open PySem
section
variable {prog:fy}{w:h7}{K:Type}[DecidableEq K]{A:j0}{E:RT}{s:c8}{knd:KeyKind prog w K}
end
section
variable {prog:fy}{w:h7}{K:Type}[DecidableEq K]{A:j0}{E:RT}{s:c8}{knd:KeyKind prog w K}
end
end LS
namespace L2
open PySem PySem.Spec
section
variable {X:Cx}{tg:fx}
end
end L2
namespace L3
open PySem L2 LS
section
variable {X:Cx}{B:Bd}{tg:fx}{K:Jd}{H:Hp}{M:Mem}
end
end L3
namespace L3
open PySem L2
section
variable {X:Cx}{B:Bd}{pos:Pos}
end
section
variable {X:Cx}{B:Bd}
end
end L3
namespace L3
open PySem L2 LS
section
variable {X:Cx}{B:Bd}
end
end L3
namespace LS
open PySem PySem.W PySem.Calls PyProof.Rows PyProof.V PySem.Spec
section
variable {prog:fy}{w:h7}{K:Type}[DecidableEq K]{knd:KeyKind prog w K}{A:j0}{E:RT}{s:c8}{v d:eg}{ep:Nat}{RG:List (K×c0)}
end
end LS
namespace L3
open PySem L2 LS
section
variable {X:Cx}{B:Bd}{pos:Pos}
end
end L3
namespace LX
open PySem PySem.W PySem.Spec PySem.Calls PyProof.Rows Builtin Builtin.ObjectAttr Builtin.Getset_descriptor
variable{x:eg}
section
variable{K:Frag}{prog:fy}{w:h7}{A:j0}{E:RT}{s:c8}
theorem qi{M:QP}{h:i5}(X:K.In h){C:eg}{name:Str}{a g:c0}(c:QX K (.ref C) name=al (al a))(b:specialIn K a "__get__"=al (al g))(e:takesIn K a=al true):
  Q6 M h (Builtin.ObjectAttr.find (.ref x) (.ref C) name) (.bind g a):=by
 have L1:=Rm (M:=M) X c;have L2:Q6 M h (Builtin.ObjectAttr.getOf<|some a) (al g):=looks_specialIn X b;have L3:=looks_takesIn (M:=M) X e;refine L1.andThen (L2.andThen ?_);exact(show Q6 M h (Builtin.ObjectAttr.dataDescriptor? (al a)<|some g) (al (g,a)) from L3.andThen .now).andThen (Looks.tag .now)
theorem qk{C:eg}{R:Q3->c8->Prop}{b:c0}(X:K.In s.heap)(L0:∀M:QP,Q6 M s.heap (Qj<|.ref x) (.ref C))(a:RB K C (.type "object")=al true)(h:R (.ok<|.ret<|.ref C) s):P3 (fm prog w) A (.call (.builtin "getset_descriptor.__get__") ⟨[.builtin "object.__class__",.ref x,b],[]⟩) R s:=by
 obtain⟨c,g,dr,t,e⟩:=s;have L0:=L0 (fm prog w);have L1:=QO (M:=fm prog w) X a;refine Qy KF.slot_gs.plain KF.entry_gs (KF.slot_gs.check _ _ _ _ _ _ _ _ KF.type_class (KF.args_gs _ _ _) ?_);unfold Builtin.«getset_descriptor.__get__» descrGet;rw[dga_obj];refine cv (eC ?_);unfold descrGetter descrCheckInstance descrNameAndClass QW;simp only[KF.owner_class]
 repeat lk
 refine⟨Code.quiet_builtin _ (by decide +kernel),Ps KF.entry_class ?_⟩
 unfold Builtin.«object.__class__» shownTypeOf
 repeat lk
 exact h
theorem yT{M:QP}{A:j0}{E:RT}{s:c8}{v:c0}{Q:Unit->c8->Prop}(L:Q6 M s.heap (QW (.ref x)<|.type "BaseException") true)(f:Q () s):
  eH M A (Qn "BaseException.__getattribute__" ⟨[.ref x,v],[]⟩) Q E s:=by
 have a:splitId "BaseException.__getattribute__"=al ("BaseException","__getattribute__"):=by decide +kernel
 have b:(Oy "BaseException").bind (·.attrs.lookup "__getattribute__")=al .slot:=by decide +kernel
 have g:builtinKind "BaseException.__getattribute__"=(Oy "BaseException").bind (·.attrs.lookup "__getattribute__"):=by simp only[builtinKind,a]
 have e:QH "BaseException.__getattribute__" ⟨[.ref x,v],[]⟩:=F.args_bexc_ga _ _;simp only[Qn,g,b,a];refine cv (L.at ?_);simp only[KA,JA,if_false];cases c:Manifest.signature? "BaseException.__getattribute__" with
 |none=>exact eC f
 |some sig=>
  simp only[QH,c]at e;have h:Bind.checkArgs "BaseException.__getattribute__" sig ⟨[.ref x,v],[]⟩=pure ():=e;show eH M A (Bind.checkArgs "BaseException.__getattribute__" sig ⟨[.ref x,v],[]⟩) Q E s;rw[h];exact eC f
theorem slot_ga:Q1 "ValueError" "__getattribute__" "BaseException.__getattribute__":=F.excAttr_ValueError.ga
theorem vq{D:eg}{i:Obj}(c:QX K (.ref D) "__getattribute__"=al (al<|.builtin "BaseException.__getattribute__"))(b:QX K (.ref D) "__getattr__"=al ee)(m:QX K (.ref D) "__class__"=al (al<|.builtin "object.__class__"))(l:specialIn K (.builtin "object.__class__") "__get__"=al (al<|.builtin "getset_descriptor.__get__"))(f:takesIn K (.builtin "object.__class__")=al true)(n:RB K D (.type "object")=al true)(e:RB K D (.type "BaseException")=al true){Q:Option c0->c8->Prop}(X:K.In s.heap)(I:s.heap.get? x=al i/\i.cls=.ref D)(h:Q (al<|.ref D) { s with toks:=s.toks+1 }):eH (fm prog w) A (QK (.ref x) "__class__") Q E s:=by
 obtain⟨a,g,d,t,j⟩:=s;have L00:∀M:QP,Q6 M a (Qj<|.ref x) (.ref D):=λM=>I.2▸(Looks.ld I.1).andThen .now;have L0:=L00 (fm prog w);have L1:=Rm (M:=fm prog w) X c;have L2:=Rm (M:=fm prog w) X b;have L3:=qi (M:=fm prog w) (x:=x) X m l f;have L4:Q6 (fm prog w) a (QW (.ref x)<|.type "BaseException") true:=L0.andThen (QO (M:=fm prog w) X e);unfold QK getAttrBy? getAttrBy;refine cv (wpAny_mkText<|wpAny_bind<|wpAny_attempt<|wpAny_holding<|wpAny_bind<|L0.at<|wpAny_bind<|L1.at ?_);show eH _ _ (getAttrByItsOwn _ _ _ _ _ _) _ _ _;unfold getAttrByItsOwn hookBefore;refine cv (L2.at ?_);refine cv (wh<|wpAny_holding ?_);show eH _ _ (boundAndCalled _ _ _) _ _ _;unfold boundAndCalled;rw[slot_ga.bind];refine cv (eC ?_);refine QD ?_;refine Qy slot_ga.plain F.entry_bexc_ga (yT L4 ?_);unfold Builtin.«object.__getattribute__» slotArgs;refine cv (eC<|wpAny_bind<|wpAny_pure<|wpAny_bind<|L0.at<|wpAny_bind<|L3.at ?_);show eH _ _ (Builtin.ObjectAttr.bindTo _ _ _ _) _ _ _;refine cv (pw<|wpAny_call<|qk (s:=⟨a,g,d,t+1,j⟩) X L00 n ?_);refine eC ?_;exact handed_on rfl (eC h)
end
end LX
namespace LX
open PySem PySem.W PySem.Spec PySem.Calls PyProof.Rows
structure XC(K:Frag)(C:eg):Prop where
 ga:QX K (.ref C) "__getattribute__"=al (al<|.builtin "BaseException.__getattribute__")
 gh:QX K (.ref C) "__getattr__"=al ee
 dct:hasDictIn K C=true
 cl:QX K (.ref C) "__class__"=al (al<|.builtin "object.__class__")
 sp:specialIn K (.builtin "object.__class__") "__get__"=al (al<|.builtin "getset_descriptor.__get__")
 tk:takesIn K (.builtin "object.__class__")=al true
 ob:RB K C (.type "object")=al true
 be:RB K C (.type "BaseException")=al true
theorem xF{K:Frag}{x D:eg}{j:Obj}(Z:XC K D):KitX K (.ref x) (.ref D) (λh=>h.get? x=al j/\j.cls=.ref D) where
 ty:=λ_ _ _ I=>I.2▸(Looks.ld I.1).andThen .now
 it:=λ_ _ X _=>by
  obtain⟨c,a,_⟩:=any_some Z.dct;unfold clsIn at a
  split at a
  .rename_i m p g b i
   intro A' Q' E' t k q;unfold isType loadHead;exact cv (wpAny_loadPart (k _ _<|X _ _ i)<|wpAny_pure q)
  .cases a
 ne:=λh o s l n r X f=>by
  obtain⟨c,a,_⟩:=any_some Z.dct;refine Bool.eq_false_iff.mpr λq=>?_;have e:D=o:=Ox (beq_iff_eq.mp q);subst e;unfold clsIn at a
  split at a
  .rename_i m p g b i
   have z:=(X _ _ i).symm.trans f;cases z
  .cases a
 ca:=λX I k=>vq Z.ga Z.gh Z.cl Z.sp Z.tk Z.ob Z.be X I k
theorem wF{K:Frag}{M:QP}{A:j0}{E:RT}{s:c8}{e C S:eg}{c:Obj}{Q:Bool->c8->Prop}(X:K.In s.heap)(m:instIn K (.ref S) (.type "tuple")=al eo)(b:(clsIn K S).isSome=true)
  (n:RB K S (.type "BaseException")=al true) (o:RB K C (.ref S)=al true) (j:s.heap.get? e=al c) (a:c.cls=.ref C) (l:Q true s):eH M A (excMatches (.ref e)<|.ref S) Q E s:=by
 have L1:=looks_instIn (M:=M) X m;have L3:=QO (M:=M) X n;have L4:=QO (M:=M) X o;have L2:Q6 M s.heap (isType<|.ref S) true:=by
  unfold clsIn at b
  split at b
  .rename_i u w f h i
   intro A' Q' E' v k q;unfold isType loadHead;exact cv (wpAny_loadPart (k _ _<|X _ _ i)<|wpAny_pure q)
  .cases b
 have L5:Q6 M s.heap (Qj<|.ref e) (.ref C):=a▸(Looks.ld j).andThen .now;obtain⟨p,g,d,t,r⟩:=s;unfold excMatches isExcClass;refine cv (L1.at ?_);simp only[JA,if_false];refine cv (eC ?_);rw[KZ];refine cv (cv<|wpAny_bind<|wpAny_bind<|L2.at ?_);simp only[if_true];refine L3.at ?_;simp only[KA,JA,if_false];refine eC ?_
 try dsimp only
 rw[LH];refine eC (cv<|L5.at ?_);rw[KZ];refine cv (cv<|wpAny_bind<|L4.at ?_);simp only[if_true];refine eC ?_
 try dsimp only
 exact eC (eC l)
end LX
namespace L2
open PySem PySem.Spec PyProof.Rows
section
variable {X:Cx}{RE:RU}{Y:St}{H:Hp}{s:c8}{e:c0}
theorem Inv.track{a:eg}{o:Obj}(I:Inv X RE Y H s)(r:s.heap.get? a=al o)(i:H a=ee)(C:∀u,X.s₀.heap.get? a≠al u)(B:a≠X.env.locals)(F:∀x c,X.env.cells.lookup x=al c->c≠a)(E:∀p∈X.pn++RE,p.1≠a):Inv X RE Y (upd H a<|.frz o<|.own 0) s:=by
 have ne:∀{b:eg},b≠a->upd H a (.frz o<|.own 0) b=H b:=λh=>by simp[upd,h]
 refine⟨I.ok,I.os,I.bare,⟨λb u q n=>I.base.keep b u q n,λb u q n=>I.base.slot b u q n,λb u q n t=>?_,I.base.there,λb l q=>?_,λb j u q=>?_,λb w q=>?_⟩,I.loc,I.cell,?_,λx c q=>?_,λp q=>?_,λb j q=>?_,I.len⟩
 .by_cases f:b=a
  .subst f;exact absurd q (C u)
  .rw[ne f];exact I.base.free b u q n t
 .have z:=I.base.tups b l q
  rw[ne (λf=>by rw[f,i]at z;cases z)];exact z
 .have z:=I.base.frzs b j u q
  rw[ne (λf=>by rw[f,i]at z;cases z)];exact z
 .obtain⟨m,z⟩:=I.base.tbls b w q
  exact⟨m,by rw[ne (λf=>by rw[f,i]at z;cases z)];exact z⟩
 .rw[ne (JI B)];exact I.free
 .rw[ne (F x c q)];exact I.freeC x c q
 .obtain⟨y,v,A⟩:=I.pin p q
  exact⟨y,by rw[ne (E p q)];exact v,A⟩
 .by_cases f:b=a
  .subst f
   have:j=.frz o (.own 0):=by
    have:upd H b (.frz o<|.own 0) b=al (.frz o<|.own 0):=by simp[upd]
    rw[this]at q;cases q;rfl
   subst this;exact⟨r,o,r⟩
  .rw[ne f]at q
   exact(I.hok b j q).stay (λc G _ g=>g) (λc g=>by rw[ne (λf=>by rw[f,i]at g;cases g)];exact g) λc l g=>by rw[ne (λf=>by rw[f,i]at g;cases g)];exact g
theorem vm{M:QP}{A:j0}{E:RT}{i:Nat}{x:Str}{pos:Pos}{Q:Unit->c8->Prop}(I:Inv X RE Y H s)(hN:X.N.Nodup)(L:X.N[i]?=al x)(hk:X.env.kindOf x=al .local)
  (h:∀s',Inv X RE (Y.set i ee) H s'->Q () s'):eH M A (do bindName X.env x .none;unbindBehindTheSuite X.env x pos) Q E s:=by
 obtain⟨m,J,R⟩:=id I.loc;have r:(X.env.scope.kind==.class||(X.env.scope.kind==.module&&X.env.locals != X.env.globals))=false:=by rw[I.ok.kind];rfl
 have u:i<Y.length:=by rw[I.len];exact(J2.mp L).1
 have cne:=I.cne;refine wpAny_nameGoes_keeps hk J r (λh' v G g=>?_);obtain⟨oL,_,_,U,_⟩:=id J;have a:HOk X.prog X.w H h':=λb S e=>by
  refine (I.hok b S e).stay (λc K hc q=>(g.2 c ?_).trans q) (λ_ q=>q) λ_ _ q=>q
  rintro rfl
  have f:=I.free;rcases hc with rfl|hc
  .rw[f]at e;cases e
  .rw[f]at hc;cases hc
 refine h _ ⟨I.ok,I.os,I.bare,⟨λb o e n C t=>?_,λb o e n C t=>?_,I.base.free,λb o e t=>?_,I.base.tups,I.base.frzs,I.base.tbls⟩,⟨_,G,λj y O l B W=>?_⟩,λy c e=>?_,I.free,I.freeC,λp Z=>?_,a,by simpa using I.len⟩
 .exact(g.2 b<|Jo<|Jn (Jh e) I.ok.above).trans (I.base.keep b o e n C t)
 .obtain⟨P,l⟩:=I.base.slot b o e n C t
  exact⟨P,(g.2 b<|Jo<|Jn (Jh e) I.ok.above).trans l⟩
 .obtain⟨T,l⟩:=I.base.there b o e t
  exact⟨T,(g.2 b<|Jo<|Jn (Jh e) I.ok.above).trans l⟩
 .by_cases F:j=i
  .subst F
   rw[Lg u]at B;cases B
  .rw[Mr (JI F)]at B
   obtain⟨u',r',q⟩:=R j y O l B W;refine⟨u',r',?_⟩;rcases q with⟨k,e⟩|⟨k,c,e,z⟩
   .refine .inl ⟨k,?_⟩
    have:y≠x:=λe=>F (k8 hN l (e▸L));simp[this,e]
   .exact .inr ⟨k,c,e,z.sameBut g<|cne y c e⟩
 .obtain⟨K,z⟩:=I.cell y c e
  exact⟨K,z.sameBut g<|cne y c e⟩
 .obtain⟨e,n,ne,nf,d⟩:=I.pin p Z
  exact⟨(g.2 p.1 ne).trans e,n,ne,nf,d⟩
def ExcH(H:Hp)(C ea:eg):Prop:=∃o,H ea=al (.frz o<|.own 0)/\o.cls=.ref C
structure XS(K:Jd)(C S:eg):Prop where
 tu:W.instIn K (.ref S) (.type "tuple")=al eo
 cl:(W.clsIn K S).isSome=true
 be:Kd K S (.type "BaseException")=al true
 mr:Kd K C (.ref S)=al true
def Fd(C:eg)(sp:Sp)(ta:TA)(i j:Nat)(ts:eg->TS):TS:=λD Y H=>ta Y H λc H1=>sp c H1 (λv H2=>D.nx (Y.set i<|some v) H2)
 (λ_ _ H2=>∀ea H3,(∀b,b≠ea->H3 b=H2 b)->H2 ea=ee->ExcH H3 C ea->ts ea { nx:=λa H'=>D.nx (a.set j ee) H',rt:=λ_ _=>False } (Y.set j<|some<|.ref ea) H3)
theorem y0{C S f:eg}{k:Nat}{fd:hI}{ps:RN}{sp:Sp}{x cx y n:Str}{i j:Nat}{p cp ep np hpos pos yp:Pos}{e:fx}{es:RQ}{ta:TA}{O:q0}{L:RS}{ts:eg->TS}
  (hst:X.stack=X.env::X.outer) (hfL:X.env.frame=al X.env.locals) (hex:X.ex=[]) (F:FnOk X.prog X.w X.K X.mg X.base (og X.prog X.w C) k f fd ps sp) (hr:Room k X.A) (hg:Gl X x) (hm:X.mg x=al (.ref f)) (hk:J4 X.K (.ref f)=true) (hb:Binds X.K fd ps [])
  (ha:PA X.nox (e::es) ta) (ES:XS X.K C S) (hgC:Gl X cx) (hmC:X.mg cx=al (.ref S)) (hsu:∀ea:eg,qc (X.marked<|.ref ea) (O::L) (ts ea))
  (hN:X.N.Nodup) (hi:X.N[i]?=al y) (hy:qD X.env.scope y) (hj:X.N[j]?=al n) (hn:X.env.kindOf n=al .local)
  (hdb:(x==("__debug__":Str))=false:=by decide) (hdC:(cx==("__debug__":Str))=false:=by decide) (he:fe (e::es) X.env=(eo,g5 e X.env)::fe es X.env:=by rfl) (hpl:(ik cp<|starEach es X.env).any (·.1)=false:=by rfl)
  (hsw:rc (.Call (.Name x p) (e::es) [] cp) (al<|.Name y yp) ep.line X.env=pure false:=by rfl)
  (hf:X.fn y=true\/X.env.scope.names.lookup y=al .local:=by first|exact .inl rfl|exact .inr rfl|assumption) (hfn:X.fn n=true\/X.env.scope.names.lookup n=al .local:=by first|exact .inl rfl|exact .inr rfl|assumption):
  PS X (.Try [.Assign [.Name y yp] (.Call (.Name x p) (e::es) [] cp) ep] [.ExceptHandler (al<|.Name cx np) (al n) (O::L) hpos] [] [] pos) (Fd C sp ta i j ts):=by
 intro RE s Y H D I h;refine wpAny_Try_except (Qm<|wpAny_Assign_Name ?_ hsw);refine p5 (cG I hg hm ?_ hdb);refine Mo (h₀:=X.base) I.ok.mod.kin hk (kB (ha cp RE s Y H _ (I.wish _) h) (λus U ⟨vs,H1,I1',r,q⟩=>?_) λ_ _ z=>JF z) he hpl;have I1:Inv X RE Y H1 U:=I1'.unwish;refine⟨I1.kIn,?_⟩;have hl:us.length=ps.length:=by rw[<- r.length];exact F.len _ _ _ _ q
 have hb1:=hb U us I1.kIn (by rw[JR];exact hl)
 rw[JR]at hb1;refine QD (Os (F.run X.A X.stack U H1 ⟨us,[]⟩ us vs _ _ hr I1.env0 hb1 r q) λrr s' hq=>?_);cases rr with
 |ok fl=>
  cases fl with
  |ret u=>
   obtain⟨x',H2,I2,r2,q2⟩:=I1.after hq;refine eh I2 hN hi hy r2 (λs2 I3=>?_) hf;exact r0 (r0 ⟨_,H2,I3,q2⟩)
  |next=>exact JF hq
  |brk=>exact JF hq
  |cont=>exact JF hq
 |error er=>
  obtain⟨ea,H',B,a0,rfl,hos,P,un,hok,M,sT,sA,hE⟩:=hq;have nf:∀b∈dL X.stack,∀o,U.heap.get? b=al o->∀vs,o.data≠.fields vs:=λb a o g vs=>by
   obtain⟨_,o',l,R⟩:=I1.stack.mem (show b∈_ from a);rw[g]at l;cases l;exact R vs
  have J:∀h':i5,B.StaysIn h'->s'.heap.UpToSlots h'->Inv X RE Y H' { s' with heap:=h' }:=λh' k up=>
   I1.call' (s':={ s' with heap:=h' }) hos (mq un M.1 k up sA nf λb a=>I1.stkFree b a) (iK hok M.1 k sT) P λb z=>absurd (show b∈([]:RP) from z) (by simp)
  rw[hst]at M;have hfr:X.A.frames=al (X.env::X.outer):=by rw[<- hst];exact I1.ok.frames
  refine wpAny_looks_onW hfr hfL M λh4 Q up4=>?_;refine wpAny_landsW Q λh5 G up5=>?_;have I5:=(J h5 G.1<|up4.trans up5).mark (.ref ea);obtain⟨ob,hob,hobc⟩:=G.there;refine wpAny_handleBy_cons (Rt<|cG I5 hgC hmC ?_ hdC) (by intro g;cases g)
  refine LX.wF I5.kIn ES.tu ES.cl ES.be ES.mr hob hobc (codeAny_handlers_suite_as ?_);refine lands_againW G λh6 E up6=>?_;have I6:=J h6 E.1 ((up4.trans up5).trans up6);obtain⟨oe,ws,Z,hoec,W,_⟩:=E.first
  have hn':H' ea=none:=by
   cases g:H' ea with
   |none=>rfl
   |some u=>obtain⟨o',z⟩:=sT ea u g;rw[E.2.1]at z;cases z
  have t:∀u,U.heap.get? ea≠al u:=λu g=>by
   by_cases a:ea∈dL X.stack
   .obtain⟨_,o',l,R⟩:=I6.stack.mem (show ea∈_ from a)
    rw[show ({ s' with heap:=h6 }:c8).heap.get? ea=al oe from Z]at l;cases l;exact R ws W
   .obtain⟨o',z⟩:=sA ea u g a
    rw[E.2.1]at z;cases z
  have I7:=I6.track (o:=oe) Z hn' (λu g=>by
    obtain⟨o',z⟩:=I1.base.there ea u g (by rw[hex];simp)
    exact t _ z) (λg=>by
    obtain⟨m,⟨oL,_,_,hoL,_⟩,_⟩:=I1.loc;exact t _ (g▸hoL)) (λy c g z=>by
    obtain⟨v,o',l,_⟩:=I1.cell y c g;exact t _ (z▸l)) (λp' g z=>by
    exact t _ (z▸(I1.pin p' g).1))
  refine eh I7 hN hj (.inl hn) (show RelV (.ref ea) (.ref ea) from rfl) (λs8 I8=>?_) hfn;have h8:=hE ea (upd H' ea<|.frz oe<|.own 0) (λb a=>by simp[upd,a]) hn' ⟨oe,by simp[upd],hoec⟩
  refine kB (hsu ea RE _ _ _ _ (I8.mark<|.ref ea) h8) (λfl s9 T=>?_) λ_ _ z=>JF z;cases fl with
  |next=>
   obtain⟨σ',H9,I9,T⟩:=T;exact vm (I9.unmark I.ok) hN hj hn λs10 I10=>⟨_,H9,I10,T⟩
  |ret u=>obtain⟨_,_,_,_,_,z⟩:=T;exact JF z
  |brk=>obtain⟨_,_,_,z⟩:=T;exact JF z
  |cont=>obtain⟨_,_,_,z⟩:=T;exact JF z
end
end L2
namespace L2
open PySem
theorem nr{X:Cx}:bp X (.builtin "isinstance") (λxs H Q=>∃ea C c a b,xs=[.ref ea,c]/\ExcH H C ea/\LX.XC X.K C/\(∀u,RelV c u->u=a)/\Lv X.K (.ref C) a=al b/\Q (.bl b) H):=by
 intro f s Y H xs t Q I r h;obtain⟨ea,C,c,a,b,rfl,⟨o,n,i⟩,Z,g,e,q⟩:=h;obtain⟨u,w,rfl,j,m⟩:=r.two;obtain rfl:u=Jv ea:=j;obtain rfl:=g _ m;obtain⟨l,_⟩:=(show ObjOk X.prog X.w H s.heap ea (.frz o<|.own 0) from I.hok ea _ n);exact KH (LX.xF Z) I.kIn ⟨l,i⟩ e (λz=>nomatch z) λp=>⟨.bl b,H,I.tok p,rfl,q⟩
end L2
namespace L3
open PySem L2
variable{K:Jd}
section
variable{X:Cx}{B:Bd}{H H':Hp}{M M1 M':Mem}
theorem zV{C ea:eg}(f:Frm M H M' H')(h:ExcH H C ea)(n:M ea=ee):ExcH H' C ea:=let ⟨o,a,b⟩:=h;⟨o,(f.keep ea _ a n).1,b⟩
theorem ExcH.none{C ea:eg}(h:ExcH H C ea)(r:RepH K H M):M ea=none:=by
 obtain⟨o,a,_⟩:=h;cases q:M ea with
 |none=>rfl
 |some u=>
  have z:=r _ _ q;cases u with
  |lst xs=>obtain⟨_,z,_⟩:=z;rw[a]at z;cases z
  |dK xs=>obtain⟨_,z,_⟩:=z;rw[a]at z;cases z
  |dT xs=>obtain⟨_,z,_⟩:=z;rw[a]at z;cases z
  |ins c xs=>obtain⟨_,_,z,_⟩:=z;rw[a]at z;cases z
def ff(K:Jd)(C:eg)(c:D)(b:Bool):Prop:=match c with
 |.ref D=>Lv K (.ref C) (.ref D)=al b
 |.ty T=>Lv K (.ref C) (.type T)=al b
 |_=>False
def gO(ea:eg)(c:D)(b:Bool)(t:cB):aV:=λU M Q=>t U M λa M1=>a=[.ref ea,c]/\Q (.bl b) M1
theorem Fi{x:Str}{e:fx}{es:RQ}{t:cB}{C ea:eg}{c:D}{b:Bool}{p pos:Pos}(z:∀M H,B.p M H->ExcH H C ea)(Z:LX.XC X.K C)(f:ff X.K C c b)(r:Gl X x)(A:X.mg x=ee)(E:g4 x=al (.builtin "isinstance"))(F:DA X B (e::es) t)(y:x≠"__name__":=by decide)(hdb:(x==("__debug__":Str))=false:=by decide)(he:fe (e::es) X.env=(eo,g5 e X.env)::fe es X.env:=by rfl)(hpl:(ik pos<|starEach es X.env).any (·.1)=false:=by rfl):DE X B (.Call (.Name x p) (e::es) [] pos) (gO ea c b t):=by
 refine aJ (pL nr r A E F y hdb he hpl) ?_
 rintro Y H Q ⟨U,M,QQ,s,h,u⟩
 refine⟨U,M,_,s,h,λI M1 j G H1 i l n=>?_⟩;obtain⟨rfl,j⟩:=j;obtain⟨v,w,rfl,o,g⟩:=wo n;cases o;have m:ExcH H1 C ea:=z _ _ (B.go s.i0 l);cases c with
 |ref a=>cases g;exact⟨ea,C,_,.ref a,b,rfl,m,Z,λu q=>q,f,u _ M1 j _ H1 i l rfl⟩
 |ty T=>cases g;exact⟨ea,C,_,.type T,b,rfl,m,Z,λu q=>q,f,u _ M1 j _ H1 i l rfl⟩
 |non=>exact f.elim
 |bl _=>exact f.elim
 |int _=>exact f.elim
 |str _=>exact f.elim
 |tup _=>exact f.elim
 |lst _=>exact f.elim
 |mt _=>exact f.elim
 |ml _=>exact f.elim
end
section
variable{P:fy}{w:h7}{mg:RV}{base:i5}{f:eg}{fd:hI}
end
section
variable{X:Cx}{B:Bd}{H H':Hp}{M M1 M':Mem}
theorem RepS.unset{U:Dl}{Y:L2.St}{i:Nat}(r:RepS K H U Y):RepS K H (U.set i ee) (Y.set i ee):=by
 refine⟨by simp[r.len],λj e q=>?_⟩
 rw[List.getElem?_set]at q ⊢
 by_cases a:i=j
 .rw[if_pos a]at q
  split at q<;>cases q
 .rw[if_neg a]at q ⊢
  exact r.get j e q
end
end L3
namespace L3
open PySem L2 LS
section
variable {X:Cx}{B:Bd}
def nF:qd:=λx a M Q=>match a with
 |[.bl b]=>match cQ M x with
  |some xs=>match pA xs with
   |some bs=>Q (.int ((bs.countP (·==b):Nat):Int)) M
   |none=>False
  |none=>False
 |_=>False
def nK:qd:=λx a M Q=>match a with
 |[.bl b]=>match cQ M x with
  |some xs=>match pA xs with
   |some bs=>bs.length<=1000/\match bs.findIdx? (·==b) with
    |some j=>Q (.int (j:Nat)) M
    |none=>False
   |none=>False
  |none=>False
 |_=>False
theorem k4{c:RU}{Y:L2.St}{H:Hp}{s:c8}{p:eg}{vs:List V}(I:Inv X c Y H s)(h:Rd H p (.lst vs)):∃(RK:RO)(o:Array (Option c0))(n:Nat),Vals vs RK/\s.heap.get? p=al { cls:=.type "list",dict:=ee,data:=.seq RK.toArray n,slots:=o }:=by
 obtain⟨RK,f,⟨o,n,i,e,b,a⟩,_⟩:=I.list (.inl h);obtain⟨l,m,j,g⟩:=o;simp only at e b a;subst e b a;exact⟨RK,g,n,f,i⟩
theorem nM:∀{bs:List Bool}{RK:RO},Vals (bs.map V.bl) RK->RK=bs.map JV
 |[],_,h=>by cases h;rfl
 |b::bs,_,h=>by
  cases h with
  |cons a r=>cases (show _=JV b from a);rw[nM r];rfl
theorem oC(bs:List Bool)(b:Bool):(bs.map JV).countP (λv=>match v with|.bool y=>y==b|_=>eo)=bs.countP (·==b):=by
 rw[List.countP_map];rfl
theorem vn:pj X "list.count" (liftM X nF):=by
 intro e s Y H x L v K Q I o l h;obtain⟨d,ds,M,QQ,g,r,t,h,m⟩:=h;unfold nF at h
 split at h
 .rename_i b
  split at h
  .rename_i N G
   split at h
   .rename_i bs z
    obtain⟨w,rfl,c⟩:=dg (ds:=[]) t;cases c;obtain⟨p,O,rfl,E,J⟩:=cI g r G;have:=gP J z;subst this;cases o;obtain⟨u,rfl,q⟩:=dI l;cases q;obtain⟨i,C,n,a,f⟩:=k4 I E;have:=nM a;subst this
    refine pa Nk ⟨_,f,rfl⟩ PySem.F.entry_list_count (PySem.F.args_list_count_2 _ _)
     (SeqAt.list_countAt p (bs.map JV).toArray n ee C (.bool b) λv=>match v with|.bool y=>y==b|_=>eo) ⟨f,λy A=>?_,?_⟩
    .obtain⟨j,_,rfl⟩:=JM.mp (by simpa using A:y∈bs.map JV)
     exact LY j b
    .rw[List.toList_toArray,oC]
     exact⟨.int _,H,I.tok _,⟨_,rfl⟩,m _ M h _ H g am rfl⟩
   .exact h.elim
  .exact h.elim
 .exact h.elim
theorem wa:pj X "list.index" (liftM X nK):=by
 intro g s Y H x vs v Z Q I E A h;obtain⟨d,ds,M,QQ,o,r,J,h,C⟩:=h;unfold nK at h
 split at h
 .rename_i b
  split at h
  .rename_i xs S
   split at h
   .rename_i bs K
    obtain⟨t,h⟩:=h
    split at h
    .rename_i j i
     obtain⟨w,rfl,c⟩:=dg (ds:=[]) J;cases c;obtain⟨p,ws,rfl,P,T⟩:=cI o r S;have:=gP T K;subst this;cases E;obtain⟨u,rfl,G⟩:=dI A;cases G;obtain⟨q,O,n,a,l⟩:=k4 I P;have:=nM a;subst this;rw[MI]at i;obtain⟨N,U,R⟩:=i;have e:j<(bs.map JV).toArray.size:=by simpa using N
     refine pa Nj ⟨_,l,rfl⟩ PySem.F.entry_list_index (PySem.F.args_list_index_2 _ _)
      (SeqAt.list_indexAt p (bs.map JV).toArray n ee O (.bool b) (λv=>match v with|.bool y=>y==b|_=>eo) j e (by have:=t;lia) ?_ λm W f=>?_) ⟨l,λy L=>?_,?_⟩
     .simpa using U
     .have:=R m f
      simpa using this
     .obtain⟨z,_,rfl⟩:=JM.mp (by simpa using L:y∈bs.map JV)
      exact LY z b
     .exact⟨.int (j:Int),H,I.tok _,⟨_,rfl⟩,C _ M h _ H o am rfl⟩
    .exact h.elim
   .exact h.elim
  .exact h.elim
 .exact h.elim
end
end L3
namespace L3
open PySem L2
variable{C:eg}{B:Bd}{X:Cx}{K:Jd}{pos:Pos}
theorem jG:g4 "ValueError"=al (.type "ValueError"):=by decide +kernel
theorem pf(h:JO K C=true):(W.clsIn K C).isSome=true:=by
 obtain⟨b,a,_⟩:=W.any_some h;rw[a];rfl
theorem cS{D:eg}{b:Bool}(c:Kd K C (.ref C)=al true)(f:JO K D=true)(g:La K (.ref D)=al (.type "type"))(a:Kd K C (.ref D)=al b):ff K C (.ref D) b:=by
 show Lv K (.ref C) (.ref D)=al b;unfold Lv
 split
 .rename_i q
  have e:C=D:=Ox (beq_iff_eq.mp q);subst e;rw[c]at a;exact a
 .unfold W.kitCls
  simp only[pf f,g,beq_self_eq_true,NH,if_true];exact a
theorem FD{b:Bool}(a:Kd K C (.type "ValueError")=al b):ff K C (.ty "ValueError") b:=by
 show Lv K (.ref C) (.type "ValueError")=al b;unfold Lv;rw[if_neg (by intro q;cases beq_iff_eq.mp q)]
 unfold W.kitCls
 try dsimp only
 rw[if_pos (by decide +kernel)]
 exact a
section
theorem Fh{bs:RM}{RK:RO}(f:Vals (bs.map V.int) RK){i:Nat}{v:c0}(j:RK.toArray[i]?=al v):∃c t,bs[i]?=al c/\v=.int c t:=by
 have a:RK[i]?=al v:=by simpa using j
 have h:=f.length;rw[Ji]at h;have b:i<bs.length:=by
  have:=(J2.mp a).1;lia
 obtain⟨l,e,g⟩:=f.get (i:=i) (x:=.int bs[i]) (by rw[Jw,Je b];rfl)
 rw[a]at e;cases e;obtain⟨t,rfl⟩:=g;exact⟨bs[i],t,Je b,rfl⟩
theorem d_(bs:RM):∀n,n<=bs.length->preSum (λi=>bs.getD i 0) n=(bs.take n).sum
 |0,_=>by simp[preSum]
 |n+1,h=>by
  rw[preSum,d_ bs n (by lia),ML (by lia),LG,Je (by lia),List.sum_append,List.sum_singleton]
  rfl
theorem lI{b:Int}:∀l:List Int,(∀x∈l,-b<=x/\x<=b)->-(l.length*b)<=l.sum/\l.sum<=l.length*b
 |[],_=>by simp
 |x::l,h=>by
  have c:=h x (Jp ..);have f:=lI l λy a=>h y (Jj _ a);have e:((x::l).length:Int)*b=b+l.length*b:=by
   rw[Jl];push_cast;rw[Int.add_mul];lia
  rw[Kl,e];lia
def xJ:qa:=λa M Q=>match a with
 |[d]=>match cQ M d with
  |some xs=>match gx xs with
   |some ss=>(ss.length<=1000/\∀x∈ss,-1000000000000000<=x/\x<=1000000000000000)/\Q (.int ss.sum) M
   |none=>False
  |none=>False
 |_=>False
theorem vb(hc:X.calm=true):bp X (.builtin "sum") (liftC X xJ):=by
 intro y s Y H xs us Q I r h;obtain⟨ds,M,QQ,E,O,h,J⟩:=h;unfold xJ at h
 split at h
 .obtain⟨v,rfl,G⟩:=dg (ds:=[]) O
  split at h
  .rename_i ys e
   obtain⟨q,vs,rfl,T,U⟩:=cI E G e
   split at h
   .rename_i a R
    obtain⟨⟨hl,F⟩,h⟩:=h;have:=pX U R;subst this;obtain⟨u,rfl,L⟩:=dI r;cases L;obtain⟨g,z,p,hz⟩:=I.list (.inl T);have f:=z.length;rw[Ji]at f;have l:q<s.heap.objs.size:=by obtain⟨o,e,_⟩:=p.isList;exact Jh e
    have w:q≠s.heap.objs.size:=Jo l;have m:g.toArray.size=a.length:=by rw[Jc,<- f]
    refine call_sum_walk (QJ p.isList ⟨s.heap.objs.size,_,_,_,_,_,λi=>a.getD i 0,rfl,Walks.list (A:=X.A.in1) (I.ok.hd hc) s.heap.objs.size q w g.toArray,⟨⟨_,Jk _ rfl,rfl,rfl⟩,p.isList.push _⟩,?_,λi v N=>?_,λj n=>?_,λh' Z t' S=>?_⟩)
    .intro b hb
     simp at hb;rcases hb with hb|hb
     .show _<(s.heap.objs.push _).size;rw[Array.size_push,hb];exact L9 _
     .show _<(s.heap.objs.push _).size;rw[Array.size_push,hb];exact Nat.lt_succ_of_lt l
    .obtain⟨c,t,W,rfl⟩:=Fh z N
     exact⟨t,by show _=Kx (a.getD i 0) t;rw[LG,W];rfl⟩
    .rw[m]at n
     have b1:-1000000000000000<=a.getD j 0/\a.getD j 0<=1000000000000000:=by
      rw[LG,Je n];exact F _ (Ln n)
     have b2:=lI (b:=1000000000000000) (a.take (j+1)) λx P=>F x (List.mem_of_mem_take P);have b3:((a.take (j+1)).length:Int)<=1000:=by simp;lia
     rw[d_ a (j+1) (by lia)]
     show InLong (a.getD j 0)/\_;unfold InLong;lia
    .rw[m,d_ a _ (Jg _),List.take_length]
     refine⟨.int a.sum,H,?_,⟨_,rfl⟩,J _ M h _ H E am rfl⟩;exact I.kept (t':=Z) λb o hb=>S b o (by simp;exact Jo (Jh hb)) (Jb _ hb)
   .exact h.elim
  .exact h.elim
 .exact h.elim
def da:qa:=λa M Q=>match a with
 |[d]=>bn 60 d=true/\(dz d).showable=true/\(dz d).shown.length<=sizeLine/\Q (.str (dz d).shown) M
 |_=>False
theorem rl(E:X.A.guards=al [])(T:X.A.units+64<rz):bp X (.builtin "repr") (liftC X da):=by
 intro g s Y H y R Q I r h;obtain⟨ds,M,QQ,N,L,h,G⟩:=h;unfold da at h
 split at h
 .rename_i d
  obtain⟨w,n,m,h⟩:=h;obtain⟨v,rfl,F⟩:=dg (ds:=[]) L;obtain⟨u,rfl,J⟩:=dI r;have q:=yg I w F J;have O:=oA 60 _ w;obtain⟨S,z⟩:=pv _ _ q;have a:∀(t:Tok)(f:Nat)(c:i5),(∀b o,s.heap.get? b=al o->c.get? b=al o)->EP X g Y Q (.str (dz d).shown t) { s with heap:=c,toks:=f }:=λt f c j=>
   ⟨.str _,H,I.kept (t':=f) λb o e=>j b o e,⟨_,rfl⟩,G _ M h _ H N am rfl⟩
  cases d with
  |non=>cases q;exact PySem.P.repr_of_none (a _ _ _ λ_ _ e=>e)
  |bl b=>cases q;exact PySem.P.repr_of_bool (a _ _ _ λ_ _ e=>e)
  |int i=>
   obtain⟨t,rfl⟩:=q;exact PySem.P.repr_of_int (by simpa [dz,L8] using n) (a _ _ _ λ_ _ e=>e)
  |str x=>
   obtain⟨t,rfl⟩:=q;exact PySem.P.repr_of_str (a _ _ _ λ_ _ e=>e) m
  |tup y=>
   obtain⟨p,l,rfl,_⟩:=q;exact repr_of_reads' z n (Ol<|qH _) E (by lia) (λ_ _ e=>e) (λc u f j=>a u f c j) m
  |lst y=>
   obtain⟨p,l,rfl,_⟩:=q;exact repr_of_reads' z n (Ol<|qH _) E (by lia) (λ_ _ e=>e) (λc u f j=>a u f c j) m
  |_=>exact q.elim
 .exact h.elim
end
theorem Ch:g4 "sum"=al (.builtin "sum"):=PyProof.Rows.boot_sum
section
variable{f:Str}{o value:fx}{ta tv:aV}{tpos:Pos}
def jx(C:eg)(ta tv:aV)(f:Str):ar:=λD U M=>ta U M λx M1=>match x with
 |.ref a=>match M1 a with
  |some (.ins C' fs)=>C'=C/\fs.length<1000/\match fs.lookup f with
   |some (.int i)=>tv U M1 λy M2=>match y with
    |.int j=>M2 a=al (.ins C fs)/\D.nx U (M2.upd a<|.ins C<|bd f (.int (i+j)) fs)
    |_=>False
   |_=>False
  |_=>False
 |_=>False
theorem vU(c:Cls X.K C)(n:NoAttr X.K C f)(ha:DE X B o ta)(hv:DE X B value tv):DS X B (.AugAssign (.Attribute o f tpos) .Add value pos) (jx C ta tv f):=by
 refine ba (lA ha hv Ek) ?_
 rintro D Y H ⟨U,M,DD,s,h,up⟩
 refine⟨U,M,_,s,h,λx M1 h1 v1 H1 rh1 i1 r1=>?_⟩
 split at h1
 .rename_i a
  cases r1
  split at h1
  .rename_i C' fs hM
   obtain⟨rfl,hl,h1⟩:=h1
   split at h1
   .rename_i i hf
    obtain⟨dx,ws,e1,e2⟩:=rh1 _ _ hM;obtain⟨z,_⟩|⟨d,w,hd,hw,rw1⟩:=e2.lookup f
    .rw[hf]at z;cases z
    rw[hf]at hd;cases hd;cases rw1;refine⟨a,C',dx,ws,.int i,rfl,e1,c,n,hw,U,M1,_,s.go rh1 i1,h1,λy M2 h2 v2 H2 rh2 i2 r2=>?_⟩
    split at h2
    .rename_i j
     cases r2;obtain⟨hM2,h2⟩:=h2;obtain⟨dx2,ws2,e3,e4⟩:=rh2 _ _ hM2;have i3:Frm M2 H2 (M2.upd a<|.ins C'<|bd f (.int (i+j)) fs) (upd H2 a<|.ins C' dx2<|L2.bR f (.int (i+j)) ws2):=Frm.put (.inr ⟨_,hM2⟩);refine⟨i,j,rfl,rfl,dx2,ws2,e3,by rw[<- e4.length];exact hl,up.nx _ _ h2 Y _ ((i1.trans i2).trans i3)<|s.go (rh2.put (by rw[e3];trivial) ⟨dx2,_,upd_same,?_⟩)<|(i1.trans i2).trans i3⟩
     exact(gl (show Rp X.K H2 (.int (i+j)) (.int (i+j)) from rfl) e4).mono (i3.imm rh2)
    .exact h2.elim
   .exact h1.elim
  .exact h1.elim
 .exact h1.elim
end
section
variable{CX:k_}{k n:Nat}{f:eg}{fd:hI}{ps:RN}{T:Sd}{E:XK}{EE:DX}{x:Str}{p:Pos}
end
section
variable{H H':Hp}{M M1 M':Mem}
def pq(C:eg)(T:Sd)(m:Nat)(ta:cB)(i j:Nat)(Tb:eg->ar):ar:=λD U M=>U[j]?.isSome=true/\ta U M λb M1=>b.length=m/\
 calls T (λC' M2=>C'=C/\∀ea,M2 ea=ee->Tb ea { nx:=λa M'=>D.nx (a.set j ee) M',rt:=λ_ _=>False } (U.set j<|some<|.ref ea) M2) b M1 (λd M2=>D.nx (U.set i<|some d) M2) ⟨⟩
theorem B1{S f:eg}{k m:Nat}{fd:hI}{ps:RN}{T:Sd}{x P y n:Str}{i j:Nat}{p cp ep np L yp:Pos}{e:fx}{es:RQ}{ta:cB}{g:q0}{a:RS}{Tb:eg->ar}(hst:X.stack=X.env::X.outer)(hfL:X.env.frame=al X.env.locals)(hex:X.ex=[])(F:FnOk X.prog X.w X.K X.mg X.base (kG X.prog X.w) k f fd ps (aY X.K m T))(hr:Room k X.A)(hg:Gl X x)(hm:X.mg x=al (.ref f))(hk:J4 X.K (.ref f)=true)(hb:Binds X.K fd ps [])(ha:DA X.nox B (e::es) ta)(ES:XS X.K C S)(hgC:Gl X P)(hmC:X.mg P=al (.ref S))(hN:X.N.Nodup)(hi:X.N[i]?=al y)(hy:qD X.env.scope y)(hj:X.N[j]?=al n)(hn:X.env.kindOf n=al .local)(hsu:∀(ea:eg)(B':Bd),(∀M H,B'.p M H->ExcH H C ea)->qb (X.marked<|.ref ea) B' (g::a) (Tb ea))(hdb:(x==("__debug__":Str))=false:=by decide)(hdC:(P==("__debug__":Str))=false:=by decide)(he:fe (e::es) X.env=(eo,g5 e X.env)::fe es X.env:=by rfl)(hpl:(ik cp<|starEach es X.env).any (·.1)=false:=by rfl)(hsw:rc (.Call (.Name x p) (e::es) [] cp) (al<|.Name y yp) ep.line X.env=pure false:=by rfl)(hf:X.fn y=true\/X.env.scope.names.lookup y=al .local:=by first|exact .inl rfl|exact .inr rfl|assumption)(hfn:X.fn n=true\/X.env.scope.names.lookup n=al .local:=by first|exact .inl rfl|exact .inr rfl|assumption):
  DS X B (.Try [.Assign [.Name y yp] (.Call (.Name x p) (e::es) [] cp) ep] [.ExceptHandler (al<|.Name P np) (al n) (g::a) L] [] [] pos) (pq C T m ta i j Tb):=by
 have Z:∀ea:eg,qc (X.marked<|.ref ea) (g::a) (λD Y H=>∃B':Bd,(∀M H,B'.p M H->ExcH H C ea)/\liftS (X.marked<|.ref ea) B' (Tb ea) D Y H):=λea r s Y H D I ⟨B',hB,q⟩=>hsu ea B' hB r s Y H D I q;refine ba (y0 (C:=C) hst hfL hex (sd F) hr hg hm hk hb ha ES hgC hmC Z hN hi hy hj hn hdb hdC he hpl hsw hf hfn) ?_
 rintro D Y H ⟨U,M,DD,s,⟨hjj,h⟩,up⟩
 refine⟨U,M,_,⟨s.i0,s.rh,s.rs⟩,h,λds M1 h1 vs H1 R W r1=>?_⟩
 try dsimp only
 refine bL h1.2 R r1 (by rw[<- r1.length];exact h1.1) (λd M2 G v H2 c O r2=>?_) λC' M2 G H2 c O=>?_
 .have Q:=s.go c (W.trans O)
  exact up.nx _ _ G _ H2 (W.trans O) ⟨Q.i0,Q.rh,Q.rs.set r2⟩
 .obtain⟨rfl,G⟩:=G
  refine⟨rfl,λea H3 h3 E hE=>?_⟩;have fr:Frm M2 H2 M2 H3:=⟨λb u q n=>⟨by rw[h3 b (λz=>by rw[z,E]at q;cases q)];exact q,n⟩⟩
  have l:RepH X.K H3 M2:=λb o q=>(c b o q).keep (fr.imm c) (by
   obtain⟨u,hu⟩:=(c b o q).obj;rw[h3 b (λz=>by rw[z,E]at hu;cases hu)])
  have f3:=(W.trans O).trans fr;have s3:=s.go l f3;have J:=ExcH.none hE l;refine⟨Bd.of M2 H3,λM' H' f=>zV f hE J,?_⟩;refine⟨U.set j (al<|.ref ea),M2,{ nx:=λt M'=>DD.nx (t.set j ee) M',rt:=λ_ _=>False },⟨am,l,s3.rs.set rfl⟩,G ea J,⟨λt M' q σ' H' f s'=>?_,λd M' q=>q.elim,λ_ _ q=>(show False from q).elim,λ_ _ q=>(show False from q).elim⟩⟩;exact up.nx _ _ q _ H' (f3.trans f) ⟨B.go s3.i0 f,s'.rh,s'.rs.unset⟩
def Bp:List (Str×aV)->Dl->Mem->(List D->Mem->Prop)->Prop
 |[],_,M,Q=>Q [] M
 |kt::r,U,M,Q=>kt.2 U M λd M1=>Bp r U M1 λa M2=>Q (d::a) M2
def rX(tab:List (Str×aV)):aV:=λU M Q=>∀p,M p=ee->Bp tab U (M.upd p<|.dK []) λa M1=>M1 p=al (.dK [])/\a.length<=15/\Q (.ref p) (M1.upd p<|.dK<|lx (tab.map λkt=>Jx kt.1) a)
theorem pH{U:Dl}{Y:L2.St}:∀(tab:List (Str×aV))(M:Mem)(H:Hp)(QQ:List D->Mem->Prop)(Q:List (V×V)->Hp->Prop),SR X B U M Y H->Bp tab U M QQ->
  (∀ds M',QQ ds M'->∀(vs:List V) H',RepH X.K H' M'->Frm M H M' H'->Rps X.K H' ds vs->Q ((tab.map λkt=>V.str kt.1).zip vs) H')->nb (tab.map λkt=>(tC (.str kt.1),liftE X B kt.2)) Y H Q
 |[],M,H,QQ,Q,s,h,u=>u [] M h [] H s.rh am rfl
 |kt::r,M,H,QQ,Q,s,h,u=>by
  show liftE X B kt.2 Y H _;refine⟨U,M,_,s,h,λd M1 g v H1 a c j=>?_⟩;refine pH r M1 H1 _ _ (s.go a c) g λds M2 i vs H2 b e f=>?_;exact u _ _ i (v::vs) H2 b (c.trans e) ⟨v,vs,rfl,j.mf a e,f⟩
theorem yY:∀(tab:List (Str×aV))(vs:List V),(tab.map λkt=>V.str kt.1).zip vs=((tab.map λkt=>(Jx kt.1:ax)).zip vs).map λkv=>(kV kv.1,kv.2)
 |[],_=>rfl
 |_::_,[]=>rfl
 |kt::r,v::vs=>by
  simp only[Jf,LD,yY r vs];rfl
theorem Ck{keys:List (Option fx)}{values:RQ}{tab:List (Str×aV)}(h:Bz X pos keys values (tab.map λkt=>(tC (.str kt.1),liftE X B kt.2)))(hall:keys.all (·.isSome)=true)(hl:keys.length=values.length)(h0:keys≠[])(h15:keys.length<=15):DE X B (.Dict keys values pos) (rX tab):=by
 refine aJ (Cc h hall hl h0 h15) ?_
 rintro Y H Q ⟨U,M,QQ,s,h,u⟩ p hp
 have hMp:=s.rh.fresh hp;have rh1:RepH X.K (upd H p<|.dK []) (M.upd p<|.dK []):=s.rh.put (by rw[hp];trivial) ⟨[],upd_same,.nil⟩
 have f1:Frm M H (M.upd p<|.dK []) (upd H p<|.dK []):=Frm.put (.inl hp);refine pH tab _ _ _ _ (s.go rh1 f1) (h p hMp) λds M2 ⟨e,hlen,q⟩ vs H2 rh2 i2 r2=>?_;obtain⟨ws,e2,hw⟩:=rh2 _ _ e;cases hw;have rk:Rkv X.K H2 (lx (tab.map λkt=>Jx kt.1) ds) (fb []<|(tab.map λkt=>(Jx kt.1:ax)).zip vs):=kF (ks:=tab.map λ(kt:Str×aV)=>(Jx kt.1:ax)) (a:=[]) (b:=[]) r2 .nil;have im:Imm H2 (upd H2 p<|.dK<|fb []<|(tab.map λkt=>(Jx kt.1:ax)).zip vs):=Imm.upd (by rw[e2];trivial)
 refine⟨e2,(tab.map λkt=>(Jx kt.1:ax)).zip vs,yY tab vs,?_,u _ _ q _ _ (rh2.put (by rw[e2];trivial) ⟨_,upd_same,rk.mono im⟩) (f1.trans<|i2.trans<|Frm.put<|.inr ⟨_,e⟩) rfl⟩
 have:=r2.length;rw[KY];lia
theorem AC:Bz X pos [] [] (([]:List (Str×aV)).map λkt=>(tC (.str kt.1),liftE X B kt.2)):=A8
theorem yb{b:List (Option fx)}{a:RQ}{c:List (Str×aV)}{k:Str}{v:fx}{T:aV}{j:Nat}{e:Pos}(f:DE X B v T)(h:Bz X pos b a (c.map λkt=>(tC (.str kt.1),liftE X B kt.2))):
  Bz X pos (al (.Constant (.str k) j e)::b) (v::a) (((k,T)::c).map λkt=>(tC (.str kt.1),liftE X B kt.2)):=yD qN f h
end
section
def uH:eI:=λx y M Q=>match x,y with
 |.ref a,.int k=>match M a with
  |some (.lst xs)=>-(2 ^ 63)<=k/\k<2 ^ 63/\xs.length*k.toNat<=sizeLine/\∀p,M p=ee->Q (.ref p) (M.upd p<|.lst (Jm k.toNat xs).flatten)
  |_=>False
 |_,_=>False
theorem AH:bZ X (ot .Mult) (liftR2 X uH):=by
 intro RE s Y H x y v u Q I rx ry h;obtain⟨d1,d2,M,QQ,rh,r1,r2,h,up⟩:=h;unfold uH at h
 split at h
 .rename_i a k
  cases r1;cases r2
  split at h
  .rename_i xs e
   obtain⟨ws,e2,rw'⟩:=rh _ _ e;have hl:=rw'.length;refine Fj RE s Y H _ _ v u Q I rx ry ⟨a,k,ws,rfl,rfl,e2,h.1,h.2.1,by rw[<- hl];exact h.2.2.1,λq hq=>?_⟩
   exact up _ _ (h.2.2.2 q<|rh.fresh hq) _ _ (rh.put (by rw[hq];trivial) ⟨_,upd_same,(rw'.rep k.toNat).mono<|Imm.new hq⟩) (Frm.put<|.inl hq) rfl
  .exact h.elim
 .exact h.elim
end
end L3
namespace LS
open PySem PySem.W PySem.Calls PyProof.Rows PyProof.V PySem.Spec
section
variable {prog:fy}{w:h7}{A:j0}{E:RT}{s:c8}{it d:eg}{i n ep:Nat}{ok ov:c0}{od:Obj}{es:Array DictEntry}
end
end LS
namespace L2
open PySem PySem.Spec PyProof.Rows LS
theorem IY{X:Cx}{b:RU}{Y:St}{H:Hp}{s:c8}{d:eg}{c:Obj}{a:List (List ax×V)}{es:Array DictEntry}{n:Nat}(I:Inv X b Y H s)(e:H d=al (.frz c<|.dT a))(m:c.data=.dict es n):
  s.heap.get? d=al c/\∃xs:List (List ax×eg×c0),KT H a xs/\es.toList=xs.map (entryOfKey<|tupleKind<|aE X.prog X.w):=by
 obtain⟨f,_,_,xs,r,o,l,i,g,_,h,j,_⟩:=(show ObjOk X.prog X.w H s.heap d (.frz c<|.dT a) from I.hok d _ e);rw[f]at g;cases g;rw[m]at h;cases h;exact⟨f,xs,r,j⟩
end L2
namespace L3
open PySem L2 LS
section
variable {X:Cx}{B:Bd}
end
end L3
namespace LS
open PySem PySem.W PySem.Calls PyProof.Rows PyProof.V PySem.Spec L2
variable{A:j0}{prog:fy}{w:h7}
theorem cZ:Qx Ry "list.__getattribute__"=al Builtin.«object.__getattribute__»:=QY (id':="object.__getattribute__") (by kernel_rfl) (by decide +kernel) (by decide +kernel) (by kernel_rfl)
theorem fE:Op (.type "list") "__getattr__"=pure none:=by rw[py];rw[kc];kernel_rfl
theorem nv:Op (.type "list") "keys"=pure none:=by rw[py];rw[kc];kernel_rfl
abbrev BP(h:i5)(a:eg)(RK:RW)(n:Nat):Prop:=h.get? a=al { cls:=.type "list",dict:=ee,data:=.seq RK n,slots:=#[] }
theorem ie(a:eg)(RK:RW)(n:Nat)(name:Str)(u:Tok)(e:Op (.type "list") name=pure ee)(b:(["__module__","__name__","__qualname__","__doc__","__annotations__"]:RN).contains name=eo)(hsz:name.length+100<=sizeLine):
  Q5 (Builtin.«object.__getattribute__» ⟨[.ref a,.str name u],[]⟩) (λA R s=>BP s.heap a RK n/\raisesAttr (.ref a) name A R s):=
 Meets.of_wp λprog w A R s c=>by
  obtain⟨i,g,d,j,h⟩:=s;obtain⟨f,c⟩:=c;have l:(⟨i,g,d,j,h⟩:c8).TypeIs (.ref a) "list":=⟨_,f,rfl⟩;unfold Builtin.«object.__getattribute__»
  repeat (any_goals (first|assumption|wp_step))
  simp only[b,JA,if_false]
  repeat (any_goals (first|assumption|wp_step))
  exact Ru c.1 c.2 (attrMsg_fits (by decide +kernel) hsz)
section
variable{E:RT}{s:c8}
theorem ki{a:eg}{RK:RW}{n:Nat}{Q:Option c0->c8->Prop}(j:BP s.heap a RK n)(r:A.handled=ee)(h:∀h' l,(∀b o,s.heap.get? b=al o->h'.get? b=al o)->Q ee { s with heap:=h',toks:=l }):eH (fm prog w) A (QK (.ref a) "keys") Q E s:=by
 obtain⟨q,g,d,l,p⟩:=s;have i:∀f,(⟨q,g,d,f,p⟩:c8).TypeIs (.ref a) "list":=λ_=>⟨_,j,rfl⟩;have m:=sub_AttributeError;have x:=Lh.lookup;have y:=Lh.bind (.ref a);have z:=fE;unfold QK getAttrBy? getAttrBy
 repeat (any_goals (first|assumption|exact i _|((with_reducible show eH _ _ (call (Nu "list.__getattribute__") _ _) _ _ _);refine pa Lh (i _) cZ (PySem.F.args_list_getattribute_2 _ _) (ie a RK n "keys" _ nv (by decide +kernel)<|by decide +kernel) ⟨j,r,λh' f e c=>?_⟩)|wp_step))
 obtain⟨v,u,t⟩:=c.there;show eH _ _ (Qe _ _ _ _ _ _ _) _ _ _;unfold Qe
 repeat (any_goals (first|assumption|wp_step))
 exact h _ _ c.keeps
end
def Bq(h:i5)(T:eg)(k v:c0):Prop:=∃o n,h.get? T=al o/\o.cls=.type "tuple"/\o.data=.seq #[k,v] n
theorem wn{R:Q3->c8->Prop}{l it d:eg}{ps:List (c0×c0)}{Ts:RP}(hh:A.handled=ee)(P:Nat->i5->Prop)(stay:∀i h h',P i h->(∀b o,b≠it->h.get? b=al o->h'.get? b=al o)->P i h')(step:∀(i:Nat)(hi:i<ps.length)(s:c8)(Q:Unit->c8->Prop)(E:RT),P i s.heap->(∀h' t,P (i+1) h'->Ku d s.heap h'->Q () { s with heap:=h',toks:=t })->eH (fm prog w) A.in1 (dictSet d ps[i].1 ps[i].2) Q E s)(hl:Ts.length=ps.length)(n1:l≠it)(n2:d≠it)(n3:l≠d)(nT:∀T∈Ts,T≠it/\T≠d):
  ∀(n i:Nat)(s:c8),n=ps.length-i->i<=ps.length->s.heap.IsListIter it l i->s.heap.IsList l (Ts.map Jv).toArray->(∀(i:Nat)(X:i<Ts.length)(Z:i<ps.length),Bq s.heap Ts[i] ps[i].1 ps[i].2)->P i s.heap->
   (∀g:c8,g.os=s.os->g.gens=s.gens->g.drawn=s.drawn->P ps.length g.heap->(∀c o,c≠it->c≠d->s.heap.get? c=al o->g.heap.get? c=al o)->R (.ok<|.ret .none) g)->
   ∀t:Nat,P3 (fm prog w) A (.builtin "dict.update.loop" ⟨[.ref d,.ref it,x5 t,.none],[]⟩) R s:=by
 intro n
 induction n with
 |zero=>
  intro i s hn hi p a _ U hR t;have S:i=ps.length:=by lia
  refine Ps a_ ?_;rw[KJ aF _];show eH _ A.in1 (KB (.ref it) >>= _) _ _ s;refine cv (Rs (A:=A.in1) hh p a (by simp;lia) λh' z=>?_)
  refine cv (m:=MK d []) (eC<|wpAny_pure (hR _ rfl rfl rfl ?_ λc o F K e=>z c o F e));rw[<- S];exact stay i _ _ U λb o u e=>z b o u e
 |succ n ih=>
  intro i s hn hi p a y U hR t;have q:i<ps.length:=by lia
  have r:i<Ts.length:=by lia
  refine Ps a_ ?_;rw[KJ aF _];show eH _ A.in1 (KB (.ref it) >>= _) _ _ s;refine cv (Ri (x:=.ref Ts[i]) p a (by simp[r]) λh' B sb=>?_)
  obtain⟨J,nTd⟩:=nT Ts[i] (Ln r);have Y:∀b o,b≠it->s.heap.get? b=al o->h'.get? b=al o:=λb o u e=>sb.extBut b o u e;obtain⟨oT,m,e1,e2,e3⟩:=y i r q;have v:=Y _ _ J e1;have L:({ s with heap:=h' }:c8).TypeIs (.ref Ts[i]) "tuple":=⟨_,v,e2⟩;refine cv (pw<|wpAny_bind<|wpAny_tryCatch ?_);unfold LB;refine cv (PP L ?_);rw[if_pos (by decide)]
  refine cv (mu (s:={ s with heap:=h' }) v e3<|wpAny_pure ?_);show eH _ _ (vr [ps[i].1,ps[i].2]<|dictSet d ps[i].1 ps[i].2) _ _ _;refine pw (step i q { s with heap:=h' } _ _ (stay i _ _ U Y) λC N M f=>?_);have G:∀b o,b≠it->b≠d->s.heap.get? b=al o->C.get? b=al o:=λb o u hd e=>f.extBut b o hd (Y b o u e);refine eC ⟨Qk aF _,?_⟩;refine ih (i+1) { s with heap:=C,toks:=N } (by lia) q (B.at λo e=>f.extBut _ o n2.symm e) ?_ (λj X Z=>?_) M (λg O H q3 q4 q5=>hR g O H q3 q4 λc o F K e=>q5 c o F K (G c o F K e)) (t+1)
  .obtain⟨o,W,I⟩:=a
   exact⟨o,G _ _ n1 n3 W,I⟩
  .obtain⟨o,m,W,I⟩:=y j X Z
   obtain⟨O,H⟩:=nT Ts[j] (Ln X);exact⟨o,m,G _ _ O H W,I⟩
theorem vj{E:RT}{s:c8}{l:eg}{m:Nat}{ps:List (c0×c0)}{Ts:RP}{Q:RT}(H:A.handled=ee)(P:Nat->i5->Prop)(X:∀h',(∀b o,s.heap.get? b=al o->h'.get? b=al o)->h'.get? s.heap.objs.size=al { cls:=.type "dict",data:=.dict #[] }->P 0 h')(stay:∀i h h',P i h->(∀b o,b<=s.heap.objs.size->h.get? b=al o->h'.get? b=al o)->P i h')(step:∀(i:Nat)(B:i<ps.length)(f:c8)(Q:Unit->c8->Prop)(E:RT),P i f.heap->(∀h' tk,P (i+1) h'->Ku s.heap.objs.size f.heap h'->Q () { f with heap:=h',toks:=tk })->eH (fm prog w) A.in1.in1 (dictSet s.heap.objs.size ps[i].1 ps[i].2) Q E f)(hl:Ts.length=ps.length)(hls:BP s.heap l (Ts.map Jv).toArray m)(hpr:∀(i:Nat)(G:i<Ts.length)(C:i<ps.length),Bq s.heap Ts[i] ps[i].1 ps[i].2)(h:∀f:c8,f.os=s.os->f.gens=s.gens->f.drawn=s.drawn->P ps.length f.heap->(∀c o,s.heap.get? c=al o->f.heap.get? c=al o)->Q (.ref s.heap.objs.size) f):
  eH (fm prog w) A (call (.type "dict") [.ref l]) Q E s:=by
 refine callType_codes (Q₁:=λobj q=>obj=.ref s.heap.objs.size/\q={ s with heap:=s.heap.push { cls:=.type "dict",data:=.dict #[] } }) L2.F.called_dict (L2.F.typeCall_dict_1 _) Ob (eR _ ⟨rfl,rfl⟩) ?_
 rintro obj q ⟨rfl,rfl⟩
 have z:∀c o,s.heap.get? c=al o->(s.heap.push { cls:=.type "dict",data:=.dict #[] }).get? c=al o:=λc o e=>Jb _ e;have lt:∀{c o},s.heap.get? c=al o->c<s.heap.objs.size:=λe=>Jh e;have p:(s.heap.push { cls:=.type "dict",data:=.dict #[] }).get? s.heap.objs.size=al { cls:=.type "dict",data:=.dict #[] }:=Jk _ rfl;have u:({ s with heap:=s.heap.push { cls:=.type "dict",data:=.dict #[] } }:c8).TypeIs (.ref s.heap.objs.size) "dict":=⟨_,p,rfl⟩;refine⟨u,N0 _ _,?_⟩;unfold Builtin.«dict.__init__» MJ;refine cv (cv<|wpAny_notOrdered_dict u<|wpAny_pure ?_);show eH _ _ (KO "dict.__init__" s.heap.objs.size (.ref l) [] .none) _ _ _;unfold KO;refine cv (PP (T:="list") ⟨_,z _ _ hls,rfl⟩ ?_);rw[if_pos (by decide)]
 refine cv (ki (s:={ s with heap:=s.heap.push { cls:=.type "dict",data:=.dict #[] } }) (z _ _ hls) H λa v g=>?_);rw[if_pos (show (none:Option c0).isNone=true from rfl)];have up1:∀c o,s.heap.get? c=al o->a.get? c=al o:=λc o e=>g c o (z c o e);have y:a.IsList l (Ts.map Jv).toArray:=⟨_,up1 _ _ hls,rfl,m,rfl⟩;refine cv (On<|wpAny_bind<|wpAny_pyIter_list (s:={ s with heap:=a,toks:=v }) y<|wpAny_pure ⟨Qk aF _,?_⟩);have x:=g _ _ p;have t:s.heap.objs.size<a.objs.size:=Jh x;have up2:∀c o,a.get? c=al o->(a.push { cls:=.type "list_iterator",data:=.fields #[.ref l,.int 0 0] }).get? c=al o:=λc o e=>Jb _ e;have j:∀{c o},s.heap.get? c=al o->c≠a.objs.size/\c≠s.heap.objs.size:=λ{c o} e=>⟨Jo (N5 (lt e) t),Jo<|lt e⟩;refine wn (A:=A.in1) (l:=l) (it:=a.objs.size) (d:=s.heap.objs.size) (ps:=ps) (Ts:=Ts) H P (λi h h' U W=>stay i h h' U λb o J e=>W b o (Jo<|LK J t) e) step hl (j hls).1 (Jo t) (j hls).2 (λT O=>?_) ps.length 0 { s with heap:=a.push { cls:=.type "list_iterator",data:=.fields #[.ref l,.int 0 0] },toks:=v } (by simp) (Kv _) ⟨_,Jk _ rfl,rfl,rfl⟩ ?_ (λi G C=>?_) (X _ (λb o e=>up2 b o (up1 b o e))<|up2 _ _ x) (λf S N L R K=>?_) 0
 .obtain⟨i,B,rfl⟩:=List.mem_iff_getElem.mp O
  obtain⟨o,n,e,_⟩:=hpr i B (by lia)
  exact j e
 .obtain⟨o,M,I⟩:=y
  exact⟨o,up2 _ _ M,I⟩
 .obtain⟨o,n,e,r⟩:=hpr i G C
  exact⟨o,n,up2 _ _ (up1 _ _ e),r⟩
 .exact⟨rfl,h f S N L R λc o e=>K c o (j e).1 (j e).2 (up2 _ _<|up1 _ _ e)⟩
end LS
namespace L2
open PySem PySem.Spec PyProof.Rows LS
inductive PrK(H:Hp):List V->List (ax×V)->Prop
 |nil:PrK H [] []
 |cons {T:eg} {k:ax} {x:V} {vs:List V} {RG:List (ax×V)} (hT:H T=al (.tup [kV k,x])) (r:PrK H vs RG):PrK H (.ref T::vs) ((k,x)::RG)
section
variable {X:Cx}{RE:RU}{Y:St}{H:Hp}{s:c8}
theorem Inv.pair{T:eg}{y x:V}(I:Inv X RE Y H s)(h:H T=al (.tup [y,x])):∃k v,RelV y k/\RelV x v/\Bq s.heap T k v:=by
 obtain⟨_,a,r,o,e,⟨c,n,d⟩,_⟩:=(show ObjOk X.prog X.w H s.heap T (.tup [y,x]) from I.hok T _ h);obtain⟨k,v,rfl,f,b⟩:=r.two;exact⟨k,v,f,b,o,n,e,c,d⟩
theorem Inv.prK(I:Inv X RE Y H s):∀{vs:List V}{RG:List (ax×V)},PrK H vs RG->∃(Ts:RP)(rs:List (ax×c0×c0)),vs=Ts.map V.ref/\KV RG (rs.map λr=>(r.1,r.2.2))/\Ts.length=rs.length/\(∀r∈rs,(aE X.prog X.w).is r.1 r.2.1=true)/\∀(i:Nat)(a:i<Ts.length)(b:i<rs.length),Bq s.heap Ts[i] rs[i].2.1 rs[i].2.2
 |_,_,.nil=>⟨[],[],rfl,.nil,rfl,by simp,λi h=>absurd h (Lw _)⟩
 |_,_,.cons (T:=T) (k:=k) hT r=>by
  obtain⟨Ts,rs,rfl,q,f,e,g⟩:=I.prK r;obtain⟨l,v,j,c,p⟩:=I.pair hT;refine⟨T::Ts,(k,l,v)::rs,rfl,.cons ⟨rfl,c⟩ q,by simp[f],λr hr=>?_,λi a b=>?_⟩
  .rcases Jq.mp hr with rfl|hr
   .exact g6 j
   .exact e r hr
  .cases i with
   |zero=>exact p
   |succ i=>exact g i (by simpa using a) (by simpa using b)
theorem qt{xs:List (ax×c0)}{k:ax}{u:c0}:(Ld xs k u).length<=xs.length+1:=by
 unfold Ld
 split
 .rw[Ji];lia
 .simp
theorem gr:∀(rs xs:List (ax×c0)),(rs.foldl (λa r=>Ld a r.1 r.2) xs).length<=xs.length+rs.length
 |[],xs=>by simp
 |r::rs,xs=>by
  have:=gr rs (Ld xs r.1 r.2);have:=qt (xs:=xs) (k:=r.1) (u:=r.2);rw[JK,Jl];lia
theorem uX:∀{RG:List (ax×V)}{rs:List (ax×c0)},KV RG rs->∀{a:List (ax×V)}{xs:List (ax×c0)},KV a xs->KV (RG.foldl (λa p=>bE a p.1 p.2) a) (rs.foldl (λa r=>Ld a r.1 r.2) xs)
 |_,_,.nil,a,xs,h=>h
 |_,_,.cons (a:=p) (b:=q) h t,a,xs,h0=>by
  rw[JK,JK];refine uX t ?_;rw[<- h.1];exact h0.put p.1 h.2
theorem Inv.ls{l:eg}{vs:List V}(I:Inv X RE Y H s)(e:Rd H l (.lst vs)):∃RK n,Vals vs RK/\BP s.heap l RK.toArray n:=by
 obtain⟨_,RK,n,r,q⟩:=(show ObjOk X.prog X.w H s.heap l (.lst vs) from e.ok I.hok);exact⟨RK,n,r,q⟩
theorem lh:∀{Ts:RP}{RK:RO},Vals (Ts.map V.ref) RK->RK=Ts.map Jv
 |[],_,h=>by cases h;rfl
 |T::Ts,_,h=>by
  cases h with
  |cons r t=>
   have a:_=Jv T:=r;rw[a,lh t];rfl
theorem rC(hc:X.calm=true):bp X (.type "dict") (λxs H Q=>∃l vs RG,xs=[.ref l]/\Rd H l (.lst vs)/\PrK H vs RG/\RG.length<=1000000/\∀p,H p=ee->Q (.ref p) (upd H p<|.dK<|RG.foldl (λa p=>bE a p.1 p.2) [])):=by
 intro RE s Y H xs us Q I r h;obtain⟨l,vs,RG,rfl,O,pr,hz,q⟩:=h;obtain⟨u,rfl,T⟩:=r.one;cases T;obtain⟨Ts,b,rfl,J,f,e,B⟩:=I.prK pr;obtain⟨M,n,R,F⟩:=I.ls O;have:=lh R;subst this;have hrl:b.length<=1000000:=by have:=Ke J;rw[Ji]at this;lia
 refine vj (ps:=b.map λr=>(r.2.1,r.2.2)) (Ts:=Ts) (I.ok.hd hc) (λi h=>h.DictOf (aE X.prog X.w) s.heap.objs.size (((b.take i).map λr=>(r.1,r.2.2)).foldl (λa r=>Ld a r.1 r.2) [])) ?_ ?_ ?_ (by simp[f]) F (λi h1 z=>?_) ?_
 .intro E K hd
  obtain⟨o,A,x,t,r⟩:=My (knd:=aE X.prog X.w) s.heap;rw[Jk _ rfl]at t;cases t;exact⟨_,A,x,hd,r⟩
 .rintro i h E ⟨o,A,x,t,r⟩ C
  exact⟨o,A,x,C _ o (Jg _) t,r⟩
 .rintro i P L Q' E' hd hQ
  have g:i<b.length:=by simpa using P
  simp only[List.getElem_map];have c:(((b.take i).map λr=>(r.1,r.2.2)).foldl (λa r=>Ld a r.1 r.2) ([]:List (ax×c0))).length<=sizeLine:=by
   have:=gr ((b.take i).map λr=>(r.1,r.2.2)) [];have z:(1000000:Nat)<=sizeLine:=by decide
   simp only[J1,Ji,Lm]at this;lia
  refine QB (knd:=aE X.prog X.w) (k:=b[i].1) (e b[i] (Ln g)) hd (λE v sb=>hQ E _ ?_ sb) c;rw[ML g,Ml,List.foldl_append];exact v
 .have G:i<b.length:=by simpa using z
  simp only[List.getElem_map];exact B i h1 G
 .rintro L U S o3 hd K
  simp only[Ji,List.take_length]at hd;have m:=I.big;have W:H s.heap.objs.size=none:=I.hok.fresh (Jg _);obtain⟨N,Z,d',t',y⟩:=L;obtain rfl:y=s.os:=U;obtain rfl:Z=s.gens:=S;obtain rfl:d'=s.drawn:=o3;have j:=uX J (a:=[]) (xs:=[]) .nil;refine⟨.ref s.heap.objs.size,_,I.laid (a:=s.heap.objs.size) (o:=.dK (RG.foldl (λa p=>bE a p.1 p.2) [])) (t':=t') K (Jg _) (gz ?_ (beq_eq_false_iff_ne.mpr<|KS m) j hd),rfl,q _ W⟩;rw[Ke j];have:=gr (b.map λr=>(r.1,r.2.2)) [];have z:(1000000:Nat)<=sizeLine:=by decide
  simp only[J1,Ji]at this;lia
end
end L2
namespace L3
open PySem L2 LS
section
variable {X:Cx}{B:Bd}{K:Jd}{H:Hp}
def va:List D->Option (List (ax×D))
 |[]=>al []
 |.tup [k,v]::ds=>match bA k,va ds with
  |some ks,al r=>al ((ks,v)::r)
  |_,_=>ee
 |_=>ee
theorem z8:∀{ds:List D}{vs:List V}{RG:List (ax×D)},Rps K H ds vs->va ds=al RG->∃f,PrK H vs f/\Rkv K H RG f
 |[],vs,RG,r,e=>by cases e;cases r;exact⟨[],.nil,.nil⟩
 |d::ds,vs,RG,r,e=>by
  obtain⟨v,A,rfl,a,b⟩:=r;unfold va at e
  split at e
  .rename_i h;cases h
  .rename_i k x w h
   cases h
   split at e
   .rename_i m q y p
    cases e;obtain⟨f,s,u⟩:=z8 b p;obtain⟨T,z,rfl,l,t⟩:=a;obtain⟨C,n,rfl,g,c⟩:=t;obtain⟨o,j,rfl,c,i⟩:=c;cases i;have:=eF g y;subst this;exact⟨(m,o)::f,.cons l s,.cons ⟨rfl,c⟩ u⟩
   .cases e
  .cases e
theorem oF{c:Type}[DecidableEq c]:∀{a:List (c×D)}{b:List (c×V)},Rkv K H a b->∀{a0:List (c×D)}{b0:List (c×V)},Rkv K H a0 b0->Rkv K H (a.foldl (λx p=>bX x p.1 p.2) a0) (b.foldl (λx p=>bE x p.1 p.2) b0)
 |_,_,.nil,a0,b0,h=>h
 |_,_,.cons (a:=p) (b:=q) h t,a0,b0,h0=>by
  rw[JK,JK];refine oF t ?_;rw[<- h.1];exact h0.put p.1 h.2
theorem BU{M:Mem}{d:D}{v:V}{xs:List D}(f:RepH K H M)(r:Rp K H d v)(e:cQ M d=al xs)(g:∀ys,d≠.ml ys):∃l vs,v=.ref l/\Rd H l (.lst vs)/\Rps K H xs vs:=by
 cases d with
 |lst ys=>
  cases e;obtain⟨p,vs,rfl,⟨o,h⟩,r⟩:=r;exact⟨p,vs,rfl,.inr ⟨o,h⟩,r⟩
 |ml ys=>exact absurd rfl (g ys)
 |ref a=>
  simp only[cQ]at e
  split at e
  .rename_i ys q
   cases e;cases r;obtain⟨vs,b,c⟩:=f _ _ q;exact⟨a,vs,rfl,.inl b,c⟩
  .cases e
 |_=>cases e
def A9:D->Bool
 |.ml _=>eo
 |_=>true
theorem Av{d:D}(h:A9 d=true):∀ys,d≠.ml ys:=λys e=>by subst e;cases h
def gK:qa:=λb M Q=>match b with
 |[d]=>A9 d=true/\match cQ M d with
  |some xs=>match va xs with
   |some RG=>RG.length<=1000000/\∀p,M p=ee->Q (.ref p) (M.upd p<|.dK<|RG.foldl (λa p=>bX a p.1 p.2) [])
   |none=>False
  |none=>False
 |_=>False
theorem p0(hc:X.calm=true):bp X (.type "dict") (liftC X gK):=by
 intro RE s Y H xs us Q I r h;obtain⟨ds,M,QQ,rh,rp,h,up⟩:=h;unfold gK at h
 split at h
 .obtain⟨v,rfl,rv⟩:=dg (ds:=[]) rp
  obtain⟨hm,h⟩:=h
  split at h
  .rename_i ys e
   split at h
   .rename_i RG e2
    obtain⟨l,vs,rfl,hq,rr⟩:=BU rh rv e (Av hm);obtain⟨ws,h1,h2⟩:=z8 rr e2;refine rC hc RE s Y H _ us Q I r ⟨l,vs,ws,rfl,hq,h1,by rw[<- h2.length];exact h.1,λp hp=>?_⟩
    exact up _ _ (h.2 p<|rh.fresh hp) _ _ (rh.put (by rw[hp];trivial) ⟨_,upd_same,(oF h2 .nil).mono<|Imm.new hp⟩) (Frm.put<|.inl hp) rfl
   .exact h.elim
  .exact h.elim
 .exact h.elim
end
end L3
namespace LS
open PySem PySem.W PySem.Calls PyProof.Rows PyProof.V PySem.Spec L2
end LS
namespace L3
open PySem L2 LS
section
variable {X:Cx}{B:Bd}
end
end L3
namespace L3
open PySem PySem.W PySem.Calls PyProof.Rows PyProof.V PySem.Spec L2
section
variable {X:Cx}{B:Bd}{RE:RU}{Y:L2.St}{H:Hp}{s:c8}{M:Mem}
end
end L3
namespace L3
open PySem L2 LS
section
variable {X:Cx}{B:Bd}
end
end L3
namespace L2
open PySem PySem.Spec PyProof.Rows
section
variable {X:Cx}{e:fx}{te:TE}{st:fx}{ts:TO}{p2 pos:Pos}
end
end L2
namespace L3
open PySem L2
section
variable {X:Cx}{B:Bd}{K:Jd}{H:Hp}{M:Mem}{e:fx}{te:aV}{st:fx}{ts:Dt}{pos p2:Pos}
end
end L3
namespace L2
open PySem PySem.Spec PyProof.Rows
section
variable {prog:fy}{w:h7}{A:j0}{E:RT}{s:c8}
end
section
variable {prog:fy}{w:h7}{A:j0}{E:RT}{s:c8}
end
section
variable {X:Cx}
end
end L2
namespace L3
open PySem L2
section
variable {X:Cx}{B:Bd}{K:Jd}{H:Hp}
end
end L3
namespace LS
open PySem PySem.W PyProof.Rows
variable{s:c8}
section
variable{n:Nat}{ky:Nat->Nat}{cmp:Nat->Nat->(Bool->c8->Prop)->c8->Prop}{p:Array Nat}
end
section
variable{prog:fy}{w:h7}{A:j0}{b:Bool}{Q:Bool->c8->Prop}
end
section
variable{prog:fy}{w:h7}{A:j0}{E:RT}
end
end LS
namespace L3
open PySem L2 LS
section
variable {X:Cx}{B:Bd}
end
end L3
namespace HT
open PySem PyProof.Rows
section
variable {prog:fy}{w:h7}{A:j0}{E:RT}{s:c8}
end
end HT
namespace L2
open PySem PySem.Spec PyProof.Rows
section
variable {X:Cx}{e:fx}{te:TE}{st:fx}{ts:TO}{p2 pos:Pos}
end
end L2
namespace L3
open PySem L2
variable{B:Bd}{X:Cx}{e:fx}{pos:Pos}{x y:Str}{te:aV}{r:qd}
section
variable{st:fx}{ts:Dt}{p2:Pos}
end
structure GF(K:Jd)(mg:RV)(x:Str)(st:q0)(f:eg)(fd:hI)(ps:RN):Prop where
 F:Fun K x x st f fd
 b:Binds K fd ps []
 k:J4 K (.ref f)=true
 m:mg x=al (.ref f)
structure GA(K:Jd)(mg:RV)(x y:Str)(st:q0)(f:eg)(fd:hI)(ps:RN):Prop where
 F:Fun K y y st f fd
 b:Binds K fd ps []
 k:J4 K (.ref f)=true
 m:mg x=al (.ref f)
structure FunV(K:Jd)(x RF:Str)(st:q0)(f:eg)(fd:hI):Prop where
 ex:∃(oc:c0)(od:Option eg)(kV doc pm:c0)(an:Option eg)(cdv ct:c0)(osl:Array (Option c0))(T:eg),
  fd=Lq x RF (bt st) (b5 st) (aD st) (.ref T) kV doc pm an cdv ct/\K.lookup f=al ⟨oc,od,.func fd,osl⟩/\MZ K cdv RF=true
 kp:J4 K (.ref f)=true
structure GV(K:Jd)(mg:RV)(x:Str)(st:q0)(f:eg)(fd:hI)(ps:RN)(dv:Int):Prop where
 F:FunV K x x st f fd
 b:Binds K fd ps []
 d:∃t,Binds K fd ps [.int dv t]
 k:J4 K (.ref f)=true
 m:mg x=al (.ref f)
inductive GC(K:Jd)(mg:RV)(x:Str)(st:q0)(f:eg)(fd:hI)(ps:RN):Prop
 |g (h:GF K mg x st f fd ps):GC K mg x st f fd ps
 |a {y:Str} (h:GA K mg x y st f fd ps):GC K mg x st f fd ps
 |v {dv:Int} (h:GV K mg x st f fd ps dv):GC K mg x st f fd ps
structure GM(K:Jd)(C:eg)(x RF:Str)(st:q0)(f:eg)(fd:hI)(ps:RN):Prop where
 F:Fun K x RF st f fd
 b:Binds K fd ps []
 m:Meth K C x f
structure GI(K:Jd)(C:eg)(x RF:Str)(st:q0)(f:eg)(fd:hI)(ps:RN):Prop where
 F:Fun K x RF st f fd
 b:Binds K fd ps []
 m:Mk K C f
section
variable{CX:k_}{k n:Nat}{f C:eg}{fd:hI}{N ps:RN}{T:Sd}{EE:DX}{E:XK}{RF:Str}{st:q0}{p RJ:Pos}{o:fx}{es:RQ}{ta:aV}{t:cB}
theorem zO(h:GC X.K X.mg x st f fd ps)(F:FnOk X.prog X.w X.K X.mg X.base CX k f fd ps (aY X.K n T))(s:Room k X.A)(l:Gl X x)(q:bi CX X E)(ux:qe X.K B EE E)(u:DA X B (e::es) t)(c:(x==("__debug__":Str))=eo)(j:fe (e::es) X.env=(eo,g5 e X.env)::fe es X.env)(i:(ik pos<|starEach es X.env).any (·.1)=eo):
  DE X B (.Call (.Name x p) (e::es) [] pos) (ak T EE n t):=by
 cases h with
 |g h=>exact nL F s l h.m h.k h.b q ux u c j i
 |a h=>exact nL F s l h.m h.k h.b q ux u c j i
 |v h=>exact nL F s l h.m h.k h.b q ux u c j i
def Ep(X:Cx)(B:Bd)(x:Str)(T:Sd)(EE:DX)(n:Nat):Prop:=∃(st:q0)(f:eg)(fd:hI)(ps:RN)(k:Nat)(CX:k_)(E:XK),GC X.K X.mg x st f fd ps/\FnOk X.prog X.w X.K X.mg X.base CX k f fd ps (aY X.K n T)/\Room k X.A/\bi CX X E/\qe X.K B EE E
theorem zT(h:Ep X B x T EE n)(j:Gl X x)(l:DA X B (e::es) t)(a:(x==("__debug__":Str))=eo)(i:fe (e::es) X.env=(eo,g5 e X.env)::fe es X.env)(b:(ik pos<|starEach es X.env).any (·.1)=eo):
  DE X B (.Call (.Name x p) (e::es) [] pos) (ak T EE n t):=by
 obtain⟨_,_,_,_,_,_,_,h,F,g,c,ux⟩:=h;exact zO h F g j c ux l a i b
theorem xH(h:GI X.K C RF x st f fd ps)(F:FnOk X.prog X.w X.K X.mg X.base CX k f fd ps (aY X.K n T))(l:Room (k+1) X.A)(i:Gl X y)(s:X.mg y=al (.ref C))(j:bi CX X E)(ux:qe X.K B EE E)(q:DA X B (e::es) t)(a:(y==("__debug__":Str))=eo)(g:fe (e::es) X.env=(eo,g5 e X.env)::fe es X.env)(c:(ik pos<|starEach es X.env).any (·.1)=eo):
  DE X B (.Call (.Name y p) (e::es) [] pos) (fS C T EE n t):=Ba h.m F l i s h.b j ux q a g c
theorem wT{m:Str}{pl:Sem Bool}(i:DE X B o ta)(c:Cls X.K C)(h:GM X.K C m RF st f fd ps)(F:FnOk X.prog X.w X.K X.mg X.base CX k f fd ps (aY X.K n T))(q:Room k X.A)(j:bi CX X E)(ux:qe X.K B EE E)(s:DA X B (e::es) t)(a:fe (e::es) X.env=(eo,g5 e X.env)::fe es X.env)(g:(ik pos<|starEach es X.env).any (·.1)=eo)(l:g5 (.Call (.Attribute o m RJ) (e::es) [] pos) X.env=(do
   let ov <- g5 o X.env
   Qg RJ.atName
   let (f,first) <- vr [ov] (Qc ov m pl)
   QM pos f first (ik pos<|starEach (e::es) X.env) (NE pos<|keywordEach [] X.env))):
  DE X B (.Call (.Attribute o m RJ) (e::es) [] pos) (bO C m T EE n ta t):=Aj i c h.m F q h.b j ux s a g l
theorem vC{m:Str}{pl:Sem Bool}(a:DE X B o ta)(c:Cls X.K C)(h:GM X.K C m RF st f fd ps)(F:FnOk X.prog X.w X.K X.mg X.base CX k f fd ps (aY X.K n T))(i:Room k X.A)(g:bi CX X E)(ux:qe X.K B EE E)(j:g5 (.Call (.Attribute o m RJ) [] [] pos) X.env=(do
   let ov <- g5 o X.env
   Qg RJ.atName
   let (f,first) <- vr [ov] (Qc ov m pl)
   QM pos f first (ik pos<|starEach [] X.env) (NE pos<|keywordEach [] X.env))):
  DE X B (.Call (.Attribute o m RJ) [] [] pos) (bO C m T EE n ta af):=xY a c h.m F i h.b g ux j
inductive FC(X:Cx)(scope:Pi):List Str->List Nat->List (Str×eg)->Prop
 |nil:FC X scope [] [] []
 |cons {x:Str} {j:Nat} {c:eg} {fs:RN} {js:List Nat} {cl:List (Str×eg)}:X.N[j]?=al x->X.env.cells.lookup x=al c->(X.env.kindOf x=al .cell\/X.env.kindOf x=al .free)->
   ((Qh scope X.env).names.lookup x=al .cell\/(Qh scope X.env).names.lookup x=al .free)->FC X scope fs js cl->FC X scope (x::fs) (j::js) ((x,c)::cl)
theorem FC.ok{g:Pi}{fs:RN}{l:List Nat}{j:List (Str×eg)}(h:FC X g fs l j):Frees X g fs l/\∃i:List eg,fs.length=i.length/\j=fs.zip i/\∀p∈j,X.env.cells.lookup p.1=al p.2:=by
 induction h with
 |nil=>exact⟨.nil,[],rfl,rfl,memZ⟩
 |cons a b c d _ ih=>
  obtain⟨q,i,u,s,m⟩:=ih;exact⟨.cons a c d q,_::i,congrArg (·+1) u,by rw[s];rfl,memC b m⟩
variable{scope:Pi}{cl:List (Str×eg)}{ls fs:RN}{js:List Nat}{tg iter elt:fx}{ifs:RQ}{wi:tQ}{g:ic}{tt:dq}{i:Nat}{px spos:Pos}
theorem nodC{a:c8}{H₀:Hp}{b:RP}{pl:RU}(h:N.Nodup):(aR X N scope cl C a H₀ b pl).N.Nodup:=h
theorem sY(h:FC X scope fs js cl)(s:scope.kind=.function)(m:∀y∈scope.names,y.2≠.cell/\(y.2=.free->y.1∈fs))(q:∀x∈scope.names,x.2=.local->scope.names.lookup x.1=al .local)(a:QG scope X.env=pure cl):CompOk X scope cl ls fs js:=by
 obtain⟨c,u,l,j,b⟩:=h.ok;subst j;exact AJ s m q l a b c
theorem y6(A:X.calm=true)(h:FC X scope fs js cl)(s:scope.kind=.function)(q:∀y∈scope.names,y.2≠.cell/\(y.2=.free->y.1∈fs))(v:∀x∈scope.names,x.2=.local->scope.names.lookup x.1=al .local)(m:QG scope X.env=pure cl)(z:DI X B tg iter wi)(w:∀(C:eg)(j:c8)(H₀:Hp)(l:RP)(pl:RU),DG (aR X (ls++fs) scope cl C j H₀ l pl) rG tg g)(u:∀(C:eg)(j:c8)(H₀:Hp)(l:RP)(pl:RU),Gb (aR X (ls++fs) scope cl C j H₀ l pl) rG ifs tt)(G:∀(C:eg)(j:c8)(H₀:Hp)(l:RP)(pl:RU),DE (aR X (ls++fs) scope cl C j H₀ l pl) rG elt te)(F:∀x,rg iter X.env x=pure x):DE X B (.ListComp elt [⟨tg,iter,ifs,0⟩] scope pos) (bw wi ls js g tt te):=
 A7 A (sY h s q v m) z (λa b c d e=>⟨w a b c d e,u a b c d e,G a b c d e⟩) F
theorem zw(O:X.N.Nodup)(q:X.N[i]?=al x)(G:qD X.env.scope x)(P:X.calm=true)(h:FC X scope fs js cl)(J:scope.kind=.function)(H:∀y∈scope.names,y.2≠.cell/\(y.2=.free->y.1∈fs))(v:∀x∈scope.names,x.2=.local->scope.names.lookup x.1=al .local)(m:QG scope X.env=pure cl)(z:DI X B tg iter wi)(w:∀(C:eg)(j:c8)(H₀:Hp)(l:RP)(pl:RU),DG (aR X (ls++fs) scope cl C j H₀ l pl) rG tg g)(u:∀(C:eg)(j:c8)(H₀:Hp)(l:RP)(pl:RU),Gb (aR X (ls++fs) scope cl C j H₀ l pl) rG ifs tt)(I:∀(C:eg)(j:c8)(H₀:Hp)(l:RP)(pl:RU),DE (aR X (ls++fs) scope cl C j H₀ l pl) rG elt te)(K:X.env.blockKind=.function)(F:X.env.scope.names.lookup x=al .local)(L:px.line=pos.line)(A:(scope.names.any λ(n,k)=>n==x&&(k==.local||k==.cell))=eo)(M:∀x,rg iter X.env x=pure x)(s:X.fn x=true\/X.env.scope.names.lookup x=al .local):
  DS X B (.Assign [.Name x px] (.ListComp elt [⟨tg,iter,ifs,0⟩] scope pos) spos) (mU i<|bw wi ls js g tt te):=
 A4 O q G P (sY h J H v m) z (λa b c d e=>⟨w a b c d e,u a b c d e,I a b c d e⟩) (Ag K F L A) M s
theorem Ak{l:Str}{H M P j:Pos}{c:q0}{a:RS}{O:ar}(h:GF X.K X.mg x st f fd ps)(F:FnOk X.prog X.w X.K X.mg X.base (kG X.prog X.w) k f fd ps (aY X.K n T))(s:X.stack=X.env::X.outer)(q:X.env.frame=al X.env.locals)(U:Room k X.A)(S:Gl X x)(Q:DA X.nox B (e::es) t)(EX:ExcAt X.K C)(J:Gl X l)(v:X.mg l=al (.ref C))(z:∀ea:eg,qb (X.marked<|.ref ea) B (c::a) O)(L:(x==("__debug__":Str))=eo)(G:(l==("__debug__":Str))=eo)(R:fe (e::es) X.env=(eo,g5 e X.env)::fe es X.env)(I:(ik H<|starEach es X.env).any (·.1)=eo)(u:rc (.Call (.Name x p) (e::es) [] H) ee M.line X.env=pure eo):
  DS X B (.Try [.Expr (.Call (.Name x p) (e::es) [] H) M] [.ExceptHandler (al<|.Name l P) ee (c::a) j] [] [] pos) (Ej C T n t O):=rS s q F U S h.m h.k h.b Q EX J v z L G R I u
def DPs(X:Cx)(B:Bd)(pos:Pos)(keys:List (Option fx))(values:RQ)(tab:List (Str×aV)):Prop:=Bz X pos keys values (tab.map λkt=>(tC (.str kt.1),liftE X B kt.2))
theorem AX:DPs X B pos [] [] []:=AC
theorem wY{b:List (Option fx)}{a:RQ}{c:List (Str×aV)}{v:fx}{T:aV}{j:Nat}{l:Pos}(m:DE X B v T)(h:DPs X B pos b a c):
  DPs X B pos (al (.Constant (.str y) j l)::b) (v::a) ((y,T)::c):=yb m h
theorem yP{a:List (Option fx)}{b:RQ}{c:List (Str×aV)}(h:DPs X B pos a b c)(j:a.all (·.isSome)=true)(q:a.length=b.length)(m:a≠[])(l:a.length<=15):DE X B (.Dict a b pos) (rX c):=Ck h j q m l
end
section
variable{id T Ty:String}{p RJ RI:Pos}{o:fx}{es:RQ}{to:aV}{t:cB}{name:Str}
theorem eA{r:qa}(l:bp X (.builtin id) (liftC X r))(i:g4 x=al (.builtin id))(f:Gl X x)(h:X.mg x=ee)(j:DA X B (e::es) t)(g:x≠"__name__")(a:(x==("__debug__":Str))=eo)(c:fe (e::es) X.env=(eo,g5 e X.env)::fe es X.env)(b:(ik pos<|starEach es X.env).any (·.1)=eo):DE X B (.Call (.Name x p) (e::es) [] pos) (ce r t):=xT l f h i j g a c b
theorem cq{r:qa}(l:bp X (.type T) (liftC X r))(i:g4 x=al (.type T))(f:Gl X x)(h:X.mg x=ee)(j:DA X B (e::es) t)(g:x≠"__name__")(a:(x==("__debug__":Str))=eo)(c:fe (e::es) X.env=(eo,g5 e X.env)::fe es X.env)(b:(ik pos<|starEach es X.env).any (·.1)=eo):DE X B (.Call (.Name x p) (e::es) [] pos) (ce r t):=wt l f h i j g a c b
theorem zR(f:g4 x=al (.type T))(b:Gl X x)(g:X.mg x=ee)(c:x≠"__name__")(a:(x==("__debug__":Str))=eo):DE X B (.Name x pos) (dC<|.ty T):=I0 b g f c a
theorem ko(j:Qr Ty)(f:Q1 Ty name id)(h:Qj (.builtin id)=pure (.type "method_descriptor"))(q:pj X id (liftM X r))(i:Ty="list"\/Ty="str"\/Ty="int"\/Ty="dict")(m:DE X B o to)(n:DA X B (e::es) t)(c:n7 o name X.env (g5 o X.env)=g5 o X.env)(g:((ik RI<|starEach (e::es) X.env).all (λx=>!x.1)&&(NE RI<|keywordEach [] X.env).all (λx=>x.1.isSome)
   && decide ((e::es).length+([]:List KM).length+(if ([]:List KM).isEmpty then 0 else 1)<30))=true)(b:(RJ.endLine==RI.line)=true)(l:fe (e::es) X.env=(eo,g5 e X.env)::fe es X.env)(a:(ik RI<|starEach es X.env).any (·.1)=eo):
  DE X B (.Call (.Attribute o name RJ) (e::es) [] RI) (me Ty r to t):=Ia i j f h q m n c g b l a
theorem Cg(h:Qr Ty)(c:Q1 Ty name id)(f:Qj (.builtin id)=pure (.type "method_descriptor"))(j:pj X id (liftM X r))(g:Ty="list"\/Ty="str"\/Ty="int"\/Ty="dict")(i:DE X B o to)(b:n7 o name X.env (g5 o X.env)=g5 o X.env)(a:(RJ.endLine==RI.line)=true):DE X B (.Call (.Attribute o name RJ) [] [] RI) (me Ty r to af):=Fx g h c f j i b a
theorem Ea(f:Q1 "tuple" name id)(h:Qj (.builtin id)=pure (.type "method_descriptor"))(m:pj X id (liftM X r))(j:DE X B o to)(l:DA X B (e::es) t)(c:n7 o name X.env (g5 o X.env)=g5 o X.env)(g:((ik RI<|starEach (e::es) X.env).all (λx=>!x.1)&&(NE RI<|keywordEach [] X.env).all (λx=>x.1.isSome)
   && decide ((e::es).length+([]:List KM).length+(if ([]:List KM).isEmpty then 0 else 1)<30))=true)(b:(RJ.endLine==RI.line)=true)(i:fe (e::es) X.env=(eo,g5 e X.env)::fe es X.env)(a:(ik RI<|starEach es X.env).any (·.1)=eo):
  DE X B (.Call (.Attribute o name RJ) (e::es) [] RI) (dTM r to t):=HQ f h m j l c g b i a
theorem AF{i:Nat}{a:Qo}{r:eI}{pos':Pos}(h:Bv X a (liftR2 X r))(j:X.N.Nodup)(g:X.N[i]?=al x)(c:qD X.env.scope x)(b:DE X B e te)(f:X.fn x=true\/X.env.scope.names.lookup x=al .local):
  DS X B (.AugAssign (.Name x pos') a e pos) (xa i te r):=FO j g c b h f
end
structure Nf(K:Jd)(x:Str)(st:q0)(f:eg)(fd:hI):Prop where
 a:JY K fv x=al (al<|.ref f)
 F:Fun K x x st f fd
structure Af(K:Jd)(x y:Str)(st:q0)(f:eg)(fd:hI):Prop where
 a:JY K fv x=al (al<|.ref f)
 F:Fun K y y st f fd
structure Mf(K:Jd)(C:eg)(x q:Str)(st:q0)(f:eg)(fd:hI):Prop where
 a:JN K (.ref C) x=al (al<|.ref f)
 i:W.isFn K (.ref f)=true
 F:Fun K x q st f fd
theorem us1{α:Type}{P:List α->Prop}(h:∀a,P [a]):∀us:List α,us.length=1->P us
 |[a],_=>h a
theorem us2{α:Type}{P:List α->Prop}(h:∀a b,P [a,b]):∀us:List α,us.length=2->P us
 |[a,b],_=>h a b
theorem us3{α:Type}{P:List α->Prop}(h:∀a c b,P [a,c,b]):∀us:List α,us.length=3->P us
 |[a,c,b],_=>h a c b
theorem us4{α:Type}{P:List α->Prop}(h:∀a f c b,P [a,f,c,b]):∀us:List α,us.length=4->P us
 |[a,f,c,b],_=>h a f c b
theorem us6{α:Type}{P:List α->Prop}(h:∀g f i b a c,P [g,f,i,b,a,c]):∀us:List α,us.length=6->P us
 |[g,f,i,b,a,c],_=>h g f i b a c
abbrev Bnd(ps:RN)(x RF:Str)(st:q0):Prop:=∀(kV doc pm:c0)(an:Option eg)(cdv ct:c0)(us:RO),us.length=ps.length->QZ (Lq x RF (bt st) (b5 st) (aD st) .none kV doc pm an cdv ct) ⟨us,[]⟩=pure (ps.zip us)
section
variable{P:fy}{w:h7}{K:Jd}{mg:RV}{base h:i5}{k n:Nat}{f C:eg}{fd:hI}{N ps:RN}{S:Sd}{T:DX->ar}{RF:Str}{st:q0}
theorem gf(X:K.In h)(G:h.Ns fv mg)(l:Nf K x st f fd)(b:Bnd ps x x st:=by intro _ _ _ _ _ _;first|exact us1 λ_=>rfl|exact us2 λ_ _=>rfl|exact us3 λ_ _ _=>rfl|exact us4 λ_ _ _ _=>rfl|exact us5 λ_ _ _ _ _=>rfl|exact us6 λ_ _ _ _ _ _=>rfl|exact us7 λ_ _ _ _ _ _ _=>rfl|exact us8 λ_ _ _ _ _ _ _ _=>rfl):GF K mg x st f fd ps:=⟨l.F,l.F.binds b,l.F.kp,Kq X G l.a⟩
theorem ga(X:K.In h)(G:h.Ns fv mg)(l:Af K x y st f fd)(b:Bnd ps y y st:=by intro _ _ _ _ _ _;first|exact us1 λ_=>rfl|exact us2 λ_ _=>rfl|exact us3 λ_ _ _=>rfl|exact us4 λ_ _ _ _=>rfl|exact us5 λ_ _ _ _ _=>rfl|exact us6 λ_ _ _ _ _ _=>rfl|exact us7 λ_ _ _ _ _ _ _=>rfl|exact us8 λ_ _ _ _ _ _ _ _=>rfl):GA K mg x y st f fd ps:=⟨l.F,l.F.binds b,l.F.kp,Kq X G l.a⟩
theorem gm(l:Mf K C x RF st f fd)(b:Bnd ps x RF st:=by intro _ _ _ _ _ _;first|exact us1 λ_=>rfl|exact us2 λ_ _=>rfl|exact us3 λ_ _ _=>rfl|exact us4 λ_ _ _ _=>rfl|exact us5 λ_ _ _ _ _=>rfl|exact us6 λ_ _ _ _ _ _=>rfl|exact us7 λ_ _ _ _ _ _ _=>rfl|exact us8 λ_ _ _ _ _ _ _ _=>rfl):GM K C x RF st f fd ps:=⟨l.F,l.F.binds b,l.a,l.i,l.F.kp⟩
theorem gi(mk:MD K C=true)(c:J4 K (.ref C)=true)(l:Mf K C "__init__" RF st f fd)(b:Bnd ps "__init__" RF st:=by intro _ _ _ _ _ _;first|exact us1 λ_=>rfl|exact us2 λ_ _=>rfl|exact us3 λ_ _ _=>rfl|exact us4 λ_ _ _ _=>rfl|exact us5 λ_ _ _ _ _=>rfl|exact us6 λ_ _ _ _ _ _=>rfl|exact us7 λ_ _ _ _ _ _ _=>rfl|exact us8 λ_ _ _ _ _ _ _ _=>rfl):GI K C "__init__" RF st f fd ps:=⟨l.F,l.F.binds b,mk,l.a,l.i,c⟩
abbrev cO(P:fy)(w:h7)(mg:RV)(base:i5)(_:Fun K x RF st f fd)(_:Binds K fd ps [])(k:Nat)(S:Sd):Prop:=FnOk P w K mg base (kG P w) k f fd ps (aY K ps.length S)
theorem fnS(i:S=aL N T)(F:Fun K x RF st f fd)(b:Binds K fd ps [])(g:FnScope N ps (aD st))(j:FnScope N ps (aD st)->∀(c:c0)(A:j0)(a:List Env)(s:c8)(H:Hp)(E:XK)(B:Bd)(EE:DX),Room k (A.deeper<|Li RF (aD st) s.heap.objs.size f c)->qe K B EE E->
   qb (cu (kG P w) P w K mg base N RF (aD st) f c A a s H E) B (b5 st) (T EE)):cO P w mg base F b (k+1) S:=by
 subst i;exact fnD F g (j g)
end
end L3
namespace LS
open PySem PySem.W PySem.Calls PyProof.Rows PyProof.V PySem.Spec
section
variable {prog:fy}{w:h7}{A:j0}{E:RT}{s:c8}{x:Str}{t:Tok}
end
end LS
namespace L3
open PySem L2 LS
section
variable {X:Cx}{B:Bd}{pos:Pos}
end
end L3
namespace L3
open PySem L2
section
variable {X:Cx}{B:Bd}{s:c8}
end
section
variable {X:Cx}{B:Bd}{x:Str}{pos p:Pos}{e:fx}{es:RQ}{t:cB}{a:eg}{tab:List (Str×D)}
inductive IsX(X:Cx)(B:Bd)(ea:eg)(c:D)(b:Bool):Prop
 |mk {C:eg} (h0:∀M H,B.p M H->ExcH H C ea) (Z:LX.XC X.K C) (hc:ff X.K C c b):IsX X B ea c b
theorem BN{ea:eg}{c:D}{b:Bool}(o:g4 x=al (.builtin "isinstance"))(h:IsX X B ea c b)(m:Gl X x)(r:X.mg x=ee)(q:DA X B (e::es) t)(n:x≠"__name__")(f:(x==("__debug__":Str))=eo)
  (l:fe (e::es) X.env=(eo,g5 e X.env)::fe es X.env) (g:(ik pos<|starEach es X.env).any (·.1)=eo):DE X B (.Call (.Name x p) (e::es) [] pos) (gO ea c b t):=by
 obtain⟨j,Z,i⟩:=h;exact Fi j Z i m r o q n f l g
theorem BI(c:Gl X x)(f:X.mg x=al (.ref a))(b:(x==("__debug__":Str))=eo):DE X B (.Name x pos) (dC<|.ref a):=A0 (v:=.ref a) c f rfl (λ_=>rfl) b
end
section
variable {P:fy}{w:h7}{K:Jd}{mg:RV}{base:i5}{k:Nat}{f C:eg}{fd:hI}{N ps:RN}{S:eg->Sd}{T:eg->DX->ar}{x RF:Str}{st:q0}
end
end L3
namespace L3
open PySem L2 LS
section
variable {X:Cx}{B:Bd}{K:Jd}{H:Hp}
def Gg(M:Mem):D->Bool
 |.ref a=>match M a with
  |some (.dK _)=>true
  |_=>eo
 |_=>eo
def wH(td ty:aV):aV:=λU M Q=>td U M λx M1=>Gg M1 x=true/\ty U M1 λy M2=>match x with
 |.ref a=>match M2 a,bA y with
  |some (.dK RG),al k=>match bH RG k with
   |some v=>Q v (M2.upd a<|.dK<|li RG k)
   |none=>False
  |_,_=>False
 |_=>False
def xO(td ty tx:aV):aV:=λU M Q=>td U M λx M1=>Gg M1 x=true/\ty U M1 λy M2=>tx U M2 λz M3=>match x with
 |.ref a=>match M3 a,bA y with
  |some (.dK RG),al k=>match bH RG k with
   |some v=>Q v (M3.upd a<|.dK<|li RG k)
   |none=>Q z M3
  |_,_=>False
 |_=>False
theorem zf{M:Mem}{x:D}{v:V}(f:RepH K H M)(r:Rp K H x v)(e:Gg M x=true):∃a,x=.ref a/\v=.ref a/\IsD H a:=by
 cases x with
 |ref a=>
  cases r;refine⟨a,rfl,rfl,?_⟩;simp only[Gg]at e
  split at e
  .rename_i q;obtain⟨c,b,_⟩:=f _ _ q;exact .inl ⟨c,.inl b⟩
  .cases e
 |_=>cases e
theorem BG{o e:fx}{to te:aV}{RJ RI:Pos}(ho:DE X B o to)(he:DE X B e te)(m:M1 X o "pop" RJ e RI):DE X B (.Call (.Attribute o "pop" RJ) [e] [] RI) (wH to te):=by
 refine aJ (zu ho he m) ?_
 rintro Y H Q ⟨U,M,QQ,s,h,u⟩
 refine⟨U,M,_,s,h,λx M1 h1 v1 H1 rh1 i1 r1=>?_⟩;obtain⟨a,rfl,rfl,hd⟩:=zf rh1 r1 h1.1;refine⟨a,rfl,hd,U,M1,_,s.go rh1 i1,h1.2,λy M2 h2 v2 H2 rh2 i2 r2=>?_⟩;dsimp only at h2
 split at h2
 .rename_i RG k hM ek
  obtain⟨ws,g1,g2⟩:=rh2 _ _ hM;have ey:=eF r2 ek;have im:Imm H2 (upd H2 a<|.dK<|eS ws k):=Imm.upd (by rw[g1];trivial)
  rcases g2.val k with⟨q,_⟩|⟨d,w,q,qw,rw'⟩
  .rw[q]at h2;exact h2.elim
  .rw[q]at h2
   exact⟨ws,k,w,g1,ey,qw,u _ _ h2 _ _ (rh2.put (by rw[g1];trivial) ⟨_,upd_same,(g2.drop k).mono im⟩) ((i1.trans i2).trans<|Frm.put<|.inr ⟨_,hM⟩)<|rw'.mono im⟩
 .exact h2.elim
theorem Bc{o e f:fx}{to te tf:aV}{RJ RI:Pos}(ho:DE X B o to)(he:DE X B e te)(hf:DE X B f tf)(m:M2 X o "pop" RJ e f RI):DE X B (.Call (.Attribute o "pop" RJ) [e,f] [] RI) (xO to te tf):=by
 refine aJ (xr ho he hf m) ?_
 rintro Y H Q ⟨U,M,QQ,s,h,u⟩
 refine⟨U,M,_,s,h,λx M1 h1 v1 H1 rh1 i1 r1=>?_⟩;obtain⟨a,rfl,rfl,hd⟩:=zf rh1 r1 h1.1;refine⟨a,rfl,hd,U,M1,_,s.go rh1 i1,h1.2,λy M2 h2 v2 H2 rh2 i2 r2=>?_⟩;refine⟨U,M2,_,(s.go rh1 i1).go rh2 i2,h2,λz M3 h3 v3 H3 rh3 i3 r3=>?_⟩;dsimp only at h3;have r2':=r2.mf rh2 i3
 split at h3
 .rename_i RG k hM ek
  obtain⟨ws,g1,g2⟩:=rh3 _ _ hM;have ey:=eF r2' ek;have im:Imm H3 (upd H3 a<|.dK<|eS ws k):=Imm.upd (by rw[g1];trivial)
  rcases g2.val k with⟨q,qn⟩|⟨d,w,q,qw,rw'⟩
  .rw[q]at h3
   exact⟨ws,k,g1,ey,λv ev=>(by rw[qn]at ev;cases ev),λ_=>u _ _ h3 _ _ rh3 ((i1.trans i2).trans i3) r3⟩
  .rw[q]at h3
   refine⟨ws,k,g1,ey,λv ev=>?_,λev=>by rw[qw]at ev;cases ev⟩
   rw[qw]at ev;cases ev;exact u _ _ h3 _ _ (rh3.put (by rw[g1];trivial) ⟨_,upd_same,(g2.drop k).mono im⟩) (((i1.trans i2).trans i3).trans<|Frm.put<|.inr ⟨_,hM⟩) (rw'.mono im)
 .exact h3.elim
def kz:qa:=λb M Q=>match b with
 |[.ref a]=>match M a with
  |some (.dK RG)=>∀p,M p=ee->Q (.ref p) (M.upd p<|.dK RG)
  |_=>False
 |_=>False
theorem pW:bp X (.type "dict") (liftC X kz):=by
 intro RE s Y H xs us Q I r h;obtain⟨ds,M,QQ,rh,rp,h,up⟩:=h;unfold kz at h
 split at h
 .rename_i a
  obtain⟨v,rfl,rv⟩:=dg (ds:=[]) rp;cases rv
  split at h
  .rename_i RG e
   obtain⟨u,rfl,ru⟩:=r.one;cases ru;obtain⟨ws,h1,h2⟩:=rh _ _ e;refine yu I (.inl h1) λp s' hp I'=>⟨.ref p,_,I',rfl,?_⟩;exact up _ _ (h p<|rh.fresh hp) _ _ (rh.put (by rw[hp];trivial) ⟨_,upd_same,h2.mono<|Imm.new hp⟩) (Frm.put<|.inl hp) rfl
  .exact h.elim
 .exact h.elim
end
end L3
namespace L2
open PySem PySem.W PySem.Calls PyProof.Rows PyProof.V PySem.Spec
def isO:Option ax->c0->Bool
 |some k,v=>kA k v
 |none,.none=>true
 |none,_=>eo
theorem cz{v:c0}(h:isO ee v=true):v=.none:=by cases v<;>first|rfl|cases h
section
variable {prog:fy}{w:h7}{A:j0}{E:RT}{s:c8}
theorem pB{Q:Int->c8->Prop}(h:Q 4238894112 { s with toks:=s.toks+1 }):eH (fm prog w) A (pyHash .none) Q E s:=by
 have a:s.TypeIs .none "NoneType":=rfl;unfold pyHash;refine cv ?_;rw[cRoomFor,if_neg (by decide)];refine eC ?_
 refine cv (Qa a KG.lookup ?_);show eH _ _ (if (al (Nu "NoneType.__hash__")==al Kr)=true then _ else _) Q E s
 rw[if_neg (by rw[beq_builtin_none];exact Js)]
 refine cv (Qa a KG.lookup ?_);show eH _ _ (callSpecialIfBoundUnlessNone? .none "__hash__" _ >>= _) Q E s
 refine cv (wpAny_callSpecialIfBoundUnlessNone?_slot a KG
  (kl KG a PySem.F.entry_NoneType_hash
   (show eH _ _ (do ret (<- mkInt 4238894112)) _ _ s from wpAny_ret_mkInt ?_) (PySem.F.args_NoneType_hash_1 _)))
 exact eC h
theorem oR{Q:Bool->c8->Prop}(h:Q true s):eH (fm prog w) A (eqBool .none .none) Q E s:=by
 unfold eqBool;refine pw ?_;rw[if_pos (by rfl)]
 exact cv (On<|wpAny_pure h)
end
def x_(prog:fy)(w:h7):PySem.KeyKind prog w (Option ax) where
 is:=isO
 hash:=λk=>match k with
  |some k=>Gu w k
  |none=>4238894112
 inj:=λv a b j f=>by
  cases a with
  |some a=>
   cases b with
   |some b=>rw[(aE prog w).inj v a b j f]
   |none=>
    cases cz f;rcases aM j with⟨i,t,_,e⟩|⟨x,t,_,e⟩<;>exact nomatch e
  |none=>
   cases cz j;cases b with
   |some b=>rcases aM f with⟨i,t,_,e⟩|⟨x,t,_,e⟩<;>exact nomatch e
   |none=>rfl
 byValue:=λk v h=>by
  cases k with
  |some k=>exact(aE prog w).byValue k v h
  |none=>cases cz h;rfl
 pyHash:=λ{A E s k v Q} c h=>by
  cases k with
  |some k=>exact(aE prog w).pyHash c h
  |none=>cases cz c;exact pB h
 eqBool:=λ{A E s a b u v Q} g c h=>by
  cases a with
  |some a=>
   cases b with
   |some b=>
    refine (aE prog w).eqBool g c ?_;have:decide (al a=al b)=decide (a=b):=decide_eq_decide.mpr ⟨λe=>by injection e,λe=>by rw[e]⟩
    rw[this]at h;exact h
   |none=>
    cases cz c;have e:decide (al a=ee)=false:=decide_eq_false (λz=>nomatch z);rw[e]at h;rcases aM g with⟨i,t,rfl,rfl⟩|⟨x,t,rfl,rfl⟩
    .exact Ny i t _ _ _ _ h
    .exact Nv x t _ _ _ _ h
  |none=>
   cases cz g;cases b with
   |some b=>
    have e:decide (ee=al b)=false:=decide_eq_false (λz=>nomatch z);rw[e]at h;rcases aM c with⟨i,t,rfl,rfl⟩|⟨x,t,rfl,rfl⟩
    .exact Nx i t _ _ _ _ h
    .exact Nw x t _ _ _ _ h
   |none=>
    cases cz c;exact oR h
 «strs»:=λk x t v h=>by
  cases k with
  |some k=>exact(aE prog w).strs k x t v h
  |none=>cases h
section
variable {X:Cx}{RE:RU}{Y:St}{H:Hp}{s:c8}{a:eg}{RG:List (ax×V)}{A:j0}{E:RT}
theorem wJ{prog:fy}{w:h7}{h:i5}{f:ax->Option c0}(m:h.MapOf (aE prog w) a f):h.MapOf (x_ prog w) a (λk=>match k with|some k=>f k|none=>ee):=by
 obtain⟨o,b,u,r,v,y,j,p⟩:=m;refine⟨o,b,u,r,v,y,λe g=>?_,λk=>?_⟩
 .obtain⟨k,c,n⟩:=j e g
  exact⟨al k,c,n⟩
 .cases k with
  |some k=>exact p k
  |none=>
   have:∀e∈b,isO ee e.key=false:=λe g=>by
    obtain⟨k,c,_⟩:=j e g;rcases aM c with⟨i,t,_,q⟩|⟨x,t,_,q⟩<;>rw[q]<;>rfl
   have e:b.find? (λe=>(x_ prog w).is ee e.key)=none:=by
    rw[Array.find?_eq_none];intro x l;exact Bool.eq_false_iff.mp (this x l)
   unfold findBy;rw[e];rfl
theorem Ig{Q:RT}(I:Inv X RE Y H s)(e:Rd H a (.dK RG))(h:∀s',Inv X RE Y H s'->Q (.bool eo) s'):eH (fm X.prog X.w) A (md .In .none<|.ref a) Q E s:=by
 obtain⟨z,b,g,f,c⟩:=g_ I.hok e;refine wpAny_in_of (knd:=x_ X.prog X.w) (k:=ee) rfl b (wJ c.mapOf) ?_;exact h _ (I.tok _)
end
end L2
namespace L3
open PySem L2 LS
section
variable {X:Cx}{B:Bd}
def rW(M:Mem)(x y:D):Option Bool:=match x,y with
 |.non,.ref a=>match M a with
  |some (.dK _)=>al eo
  |_=>ee
 |_,_=>pe M x y
def zN:eI:=λx y M Q=>match rW M x y with
 |some k=>Q (.bl k) M
 |none=>False
theorem AT(r:X.A.units+64<rz):bZ X (md .In) (liftR2 X zN):=by
 intro b s Y H x y v u Q I l g h;obtain⟨m,n,M,QQ,c,f,j,h,i⟩:=h;unfold zN at h
 split at h
 .rename_i k e
  unfold rW at e
  split at e
  .rename_i a
   cases f;cases j;cases l;cases g
   split at e
   .rename_i q o
    cases e;obtain⟨t,p,w⟩:=c _ _ o;exact Ig I (.inl p) λz I'=>⟨.bl eo,H,I',rfl,i _ M h _ H c am rfl⟩
   .cases e
  .refine qG r b s Y H x y v u Q I l g ⟨m,n,M,QQ,c,f,j,?_,i⟩
   unfold vt;rw[e];exact h
 .exact h.elim
end
end L3
namespace L2
open PySem PySem.Spec PyProof.Rows
variable{l z:eg}
theorem kS:Q1 "reversed" "__init__" "object.__init__":=
 .of (owner:="object") (n:="__init__") (by rw[py,kc];kernel_rfl) (by decide +kernel) (by decide +kernel) (by decide +kernel)
  (by first|exact .inl (by decide +kernel)|exact .inr (by decide +kernel)) (by rw[z4];kernel_rfl)
theorem eU:Q1 "reversed" "__iter__" "reversed.__iter__":=
 .of (owner:="reversed") (n:="__iter__") (by rw[py,kc];kernel_rfl) (by decide +kernel) (by decide +kernel) (by decide +kernel)
  (by first|exact .inl (by decide +kernel)|exact .inr (by decide +kernel)) (by rw[z4];kernel_rfl)
theorem slot_rev_next:Q1 "reversed" "__next__" "reversed.__next__":=
 .of (owner:="reversed") (n:="__next__") (by rw[py,kc];kernel_rfl) (by decide +kernel) (by decide +kernel) (by decide +kernel)
  (by first|exact .inl (by decide +kernel)|exact .inr (by decide +kernel)) (by rw[z4];kernel_rfl)
theorem lz:Manifest.owners.lookup (String.ofList ['d','e','s','r','e','v','e','r'].reverse)=al Manifest.sig_reversed:=by kernel_rfl
theorem dM:Qx Ry "reversed.__next__"=al Builtin.«reversed.__next__»:=PySem.entryFor_of_tree (by kernel_rfl)
theorem kP:Qx Ry "reversed.__new__"=al Builtin.«reversed.__new__»:=entryFor_of_tree (by kernel_rfl)
theorem jQ:Qx Ry "reversed.__iter__"=al Builtin.«dict_keyiterator.__iter__»:=
 QY (id':="dict_keyiterator.__iter__") (by kernel_rfl) (by first|rfl|decide +kernel|(unfold String.splitOn;simp +decide [String.splitOnAux])) (by decide +kernel) (by kernel_rfl)
theorem kL(a:c0):QH "reversed.__iter__" ⟨[a],[]⟩:=by
 unfold QH;rw[signature?_of (id:="reversed.__iter__") (n:=['_','_','r','e','t','i','_','_']) (o:=['d','e','s','r','e','v','e','r']) (by kernel_rfl) lz];kernel_rfl
theorem eT(a:c0):QH "reversed.__next__" ⟨[a],[]⟩:=by
 unfold QH;rw[signature?_of (id:="reversed.__next__") (n:=['_','_','t','x','e','n','_','_']) (o:=['d','e','s','r','e','v','e','r']) (by kernel_rfl) lz];kernel_rfl
theorem uF:mroOf (.type "reversed")=pure [.type "reversed",.type "object"]:=by rw[mroOf_type];kernel_rfl
theorem kq:Op (.type "reversed") "__new__"=pure (al<|.builtin "reversed.__new__"):=by rw[py,kc];kernel_rfl
theorem qB:TypeCalled "reversed" "reversed.__new__" "object.__init__":=
 ⟨by decide +kernel,by decide +kernel,⟨_,_,uF⟩,madeBy_type uF kq (by decide +kernel),by decide +kernel,by rw[z4];kernel_rfl,kS⟩
theorem nz(a:c0):checkTypeCall "reversed" ⟨[a],[]⟩=pure ():=by kernel_rfl
theorem oz(a:c0):Qn "reversed.__new__" ⟨[.type "reversed",a],[]⟩=pure ():=by kernel_rfl
theorem eL(a b:c0):QH "object.__init__" ⟨[a,b],[]⟩:=by
 unfold QH;rw[signature?_of (id:="object.__init__") (n:=['_','_','t','i','n','i','_','_']) (o:=['t','c','e','j','b','o']) (by kernel_rfl) F.owner_object];kernel_rfl
theorem Ci:isSubtype (.type "reversed") (.type "reversed")=pure true:=by rw[z4];kernel_rfl
theorem DV:Op (.type "tuple") "__reversed__"=pure none:=by rw[py,kc];kernel_rfl
theorem zg:isSubtype (.type "tuple") (.type "dict")=pure false:=by rw[z4];kernel_rfl
abbrev ll(h:i5)(z l:eg)(j:Int):Prop:=h.get? z=al { cls:=.type "reversed",dict:=ee,data:=.fields #[.ref l,.int j 0],slots:=#[] }
section
variable{prog:fy}{w:h7}{A:j0}{E:RT}{s:c8}
theorem zb{a:RW}{k:Nat}{x:c0}{Q:Option c0->c8->Prop}(b:ll s.heap z l k)(o:QR s.heap l a)(i:a[k]?=al x)(p:(k:Int)<2 ^ 63)(hQ:∀h',ll h' z l ((k:Int)-1)->Ku z s.heap h'->Q (al x) { s with heap:=h',toks:=s.toks+1 }):
  eH (fm prog w) A (KB<|.ref z) Q E s:=by
 have m:s.TypeIs (.ref z) "reversed":=⟨_,b,rfl⟩;unfold KB
 refine cv (wh (wpAny_callSpecial?_slot (name:=JH "__next__") m slot_rev_next
  (kl slot_rev_next m dM ?_<|eT _)))
 show eH _ _ (Qb (.ref z) 0 >>= _) _ _ s;refine cv (hD b rfl (x:=.ref l) rfl ?_);show eH _ _ (Qb (.ref z) 1 >>= _) _ _ s;refine cv (hD b rfl (x:=.int k 0) rfl ?_);show eH _ _ (if (k:Int)<0 then _ else _) _ _ _
 rw[if_neg (by lia)]
 refine cv (Qa (T:="tuple") o.typeIs slot_tuple_getitem.lookup ?_);show eH _ _ (if eo=true then _ else _) _ _ _
 rw[if_neg (by simp)]
 refine cv (wpAny_mkInt ?_);have f:k<a.size:=by
  rcases Lj k a.size with h|h
  .exact h
  .rw[Array.getElem?_eq_none h]at i;cases i
 refine cv (wh<|getItem_tuple (s:={ s with toks:=s.toks+1 }) o (k:=k) (j:=k) (x:=x) (by lia) p ?_ i ?_)
 .have e:¬((k:Int)<0):=by lia
  simp[Re,f,if_neg e]
 show eH _ _ (Qb (.ref z) 1 >>= _) _ _ _;refine cv (hD (s:={ s with toks:=s.toks+1 }) b rfl (x:=.int k 0) rfl ?_);refine cv (kr (s:={ s with toks:=s.toks+1 }) b (by simp) λn g c=>?_)
 exact eC ⟨_,rfl,eC<|hQ _ g c⟩
theorem C0{j:Int}{Q:Option c0->c8->Prop}(B:A.handled=ee)(i:ll s.heap z l j)(v:j<0)(y:∀h',M7 z s.heap h'->Q ee { s with heap:=h' }):eH (fm prog w) A (KB<|.ref z) Q E s:=by
 have r:s.TypeIs (.ref z) "reversed":=⟨_,i,rfl⟩;unfold KB
 refine cv (wh (wpAny_callSpecial?_slot (name:=JH "__next__") r slot_rev_next
  (kl slot_rev_next r dM ?_<|eT _)))
 show eH _ _ (Qb (.ref z) 0 >>= _) _ _ s;refine cv (hD i rfl (x:=.ref l) rfl ?_);show eH _ _ (Qb (.ref z) 1 >>= _) _ _ s;refine cv (hD i rfl (x:=.int j 0) rfl ?_);show eH _ _ (if j<0 then _ else _) _ _ _
 rw[if_pos v];refine cv (On ?_);show eH _ _ ((Rz (.ref z) 1 (x5 (-1)) >>= λ_=>Rz (.ref z) 0 .none) >>= _) _ _ _;refine cv (cv (kr i (by simp) λg p n=>?_))
 refine kr (s:={ s with heap:=g }) p (by simp) λh u f=>?_
 refine cv ?_;show eH _ _ (newExc (.type "StopIteration") [] >>= _) _ _ _;refine cv ?_;simp only[newExc,newTuple];refine cv (ra ?_<|by size_fits)
 refine cv (m:=Qw _ _) (Pv (a:=Kr) (by first|rfl|(simp only[Qw];rfl)) ?_)
 refine ra ?_ (by size_fits)
 simp only[raiseNew];refine cv (wpAny_handled ?_);rw[show A.in1.handled=ee from B];refine cv (eC<|wpAny_throw ?_);refine cv (P8 (T:="StopIteration") (b:=true) ⟨_,Jk _ rfl,rfl⟩ Qv ?_);refine eC (y _ ?_);have q:M7 z s.heap h:=λc o t e=>f.extBut _ _ t (n.extBut _ _ t e);exact(q.push _).push _
theorem pM{j:Int}{Q:RT}(b:ll s.heap z l j)(h:Q (.ref z) s):eH (fm prog w) A (pyIter<|.ref z) Q E s:=by
 have a:s.TypeIs (.ref z) "reversed":=⟨_,b,rfl⟩;refine wpAny_pyIter_slot a eU (kl eU a jQ ?_<|kL _);show eH _ _ (ret<|.ref z) _ _ s;exact eC ⟨_,rfl,"reversed",_,a,slot_rev_next.lookup,h⟩
theorem zH{b:RW}{Q:RT}(n:QR s.heap l b)(j:(b.size:Int)<2 ^ 63)(h:∀f h',h'.objs.size=s.heap.objs.size+1->ll h' s.heap.objs.size l ((b.size:Int)-1)->(∀c o,s.heap.get? c=al o->h'.get? c=al o)->Q (.ref s.heap.objs.size) { s with heap:=h',toks:=f }):
  eH (fm prog w) A (call (.type "reversed") [.ref l]) Q E s:=by
 refine Rq (S:=λ_ R s=>QR s.heap l b/\∀f,R (.ok<|.ret<|.ref s.heap.objs.size) { s with heap:=s.heap.push { cls:=.type "reversed",data:=.fields #[.ref l,.int ((b.size:Int)-1) 0] },toks:=f })
  qB (by decide) (nz _) (oz _) (λobj=>eL obj _) kP ?_ ⟨n,λf=>?_⟩
 .refine .of_wp λprog w A R s h=>?_
  obtain⟨n,h⟩:=h;obtain⟨r,g,d,f,q⟩:=s;have i:=Ci;have p:=n.typeIs;unfold Builtin.«reversed.__new__»;refine cv ?_;unfold Builtin.SmallTypes.newClass;refine cv (Pv (a:=true) rfl ?_);rw[if_neg (by simp)]
  refine cv (Pv i ?_);rw[if_neg (by simp)]
  refine eC ?_;refine cv (m:=Builtin.SmallTypes.refuseKeywords _ _ _) (Pv (a:=()) rfl ?_);refine cv (m:=checkCount _ _ _ _) (Pv (a:=()) rfl ?_);refine cv (m:=specialOf _ _) (Qa p DV ?_);refine cv ?_;show eH _ _ (QW (.ref l) (.type "dict") >>= _) _ _ _;refine cv (P8 p zg ?_);rw[if_neg (by simp)]
  refine cv (Qa (T:="tuple") p slot_tuple_getitem.lookup ?_);show eH _ _ (if (["tuple.__getitem__","str.__getitem__","bytes.__getitem__","bytearray.__getitem__","memoryview.__getitem__","numpy.ndarray.__getitem__","sqlite3.Row.__getitem__"].contains "tuple.__getitem__")=true then _ else _) _ _ _
  rw[if_pos (by decide)]
  refine eC ?_;show eH _ _ (call (.builtin "len") [.ref l] >>= _) _ _ _;refine cv (len_tuple n j ?_);refine cv (Pv (a:=al (b.size:Int)) rfl ?_);show eH _ _ (newObj (.type "reversed") (.fields #[.ref l,.int ((b.size:Int)-1) 0]) >>= _) _ _ _;refine cv (ra ?_<|by size_fits)
  exact eC ⟨_,rfl,h _⟩
 .exact⟨⟨_,Jk _ rfl,rfl⟩,h f _ (JP ..) (Jk _ rfl) λc o e=>Jb _ e⟩
end
def Itv(K:Jd)(a:eg)(n:Nat):It:=
 ⟨λi H=>i<n/\∃xs x,fg K H a xs/\xs[n-1-i]?=al x,λi H x H'=>H'=H/\∀xs,fg K H a xs->xs[n-1-i]?=al x,λi _=>n<=i⟩
theorem y3{P:fy}{w:h7}{K:Jd}{tg:fx}(a it:eg)(n:Nat)(hn:n<2 ^ 63):Turn P w K tg (Itv K a n) [it] it (λi h=>ll h it a ((n:Int)-1-i)) where
 mem:=by simp
 obj:=λi h c b g=>by
  have e:b=it:=by simpa using g
  subst e;exact⟨_,c,λv z=>by cases z⟩
 keep:=λi h q c k=>k it (by simp) _ c
 item:=by
  intro X C G A M i f s Y H E I m c F;subst C G A;obtain⟨hi,xs,x,N,L⟩:=F;obtain⟨r,Q,p,hz⟩:=I.tuple N;obtain⟨u,S,R⟩:=Q.get L;obtain⟨y,f1,f2,t,B,J⟩:=m it (by simp)
  have e1:(n:Int)-1-i=((n-1-i:Nat):Int):=by lia
  refine zb (k:=n-1-i) (by rw[<- e1];exact c) (show QR s.heap a r.toArray from p) (x:=u) (by simpa using S) (by lia) λq j Z=>?_
  have I1:Inv X f Y H { s with heap:=q,toks:=s.toks+1 }:=I.turned (λb o g e=>(Z.2 b g).trans e) y f1 t B J;have W:(((n-1-i:Nat):Int))-1=(n:Int)-1-((i+1:Nat):Int):=by lia
  rw[W]at j;exact⟨u,rfl,uu (s:={ s with heap:=q,toks:=s.toks+1 }) j rfl rfl (by decide) ⟨x,H,I1,R,⟨rfl,λys U=>by rw[I.tuple_inj U N];exact L⟩,j,λb g=>(m b g).1⟩⟩
 done:=by
  intro X C G A M i f s Y H E I m c F;subst C G A;obtain⟨y,f1,f2,t,B,J⟩:=m it (by simp)
  have O:n<=i:=F;exact C0 (I.ok.hd M) c (by lia) λq T=>⟨rfl,I.turned (t':=s.toks) (λb o g e=>T b o g e) y f1 t B J⟩
 self:=λ_ _ _ _ _ c h=>pM c h
section
variable{X:Cx}{tg:fx}
def iRev(K:Jd)(t:TA):TI:=λY H R=>t Y H λa H1=>∃l xs,a=[.ref l]/\fg K H1 l xs/\R (Itv K l xs.length) H1
theorem E9:g4 "reversed"=al (.type "reversed"):=by decide +kernel
theorem EI{a:fx}{u:TA}{p pos:Pos}(F:Gl X "reversed")(L:X.mg "reversed"=ee)(J:PA X [a] u)(G:fe [a] X.env=[(eo,g5 a X.env)]:=by rfl):
  PI X tg (.Call (.Name "reversed" p) [a] [] pos) (iRev X.K u):=by
 intro c s Y H R I h;refine RD (bW I F L E9<|JB (aW (J pos c s Y H _ I h) λM f ⟨N,H1,I1,v,m⟩=>?_) G rfl);obtain⟨l,n,e,m,q⟩:=m;subst e;obtain⟨O,rfl,j⟩:=v.one;cases j;obtain⟨g,C,E,x⟩:=I1.tuple m;have t:=C.length;have B:n.length<2 ^ 63:=LK x (by decide)
 refine zH (show QR f.heap l g.toArray from E) (by simp;lia) λo r y i A=>?_
 have I2:Inv X c Y H1 { f with heap:=r,toks:=o }:=I1.kept (t':=o) A;refine pM (s:={ f with heap:=r,toks:=o }) i ?_;refine⟨f.heap.objs.size,[f.heap.objs.size],_,_,H1,rfl,I2,y3 l _ n.length (by lia),?_,λb w=>?_,q⟩
 .have e:((g.toArray.size:Nat):Int)-1=(n.length:Int)-1-((0:Nat):Int):=by simp;lia
  rw[e]at i;exact i
 .have e:b=f.heap.objs.size:=by simpa using w
  subst e;exact I1.fpOk (Jg _) (I1.hok.fresh<|Jg _)
end
end L2
namespace L3
open PySem L2 LS
section
variable {X:Cx}{B:Bd}{tg:fx}{K:Jd}{H:Hp}{M:Mem}
def DZ(t:cB):tQ:=λU M R=>t U M λa M1=>match a with
 |[.tup xs]=>R ⟨xs.reverse,[]⟩ M1
 |_=>False
theorem EO{a:fx}{z:cB}{p pos:Pos}(G:Gl X "reversed")(L:X.mg "reversed"=ee)(J:DA X B [a] z)(I:fe [a] X.env=[(eo,g5 a X.env)]:=by rfl):
  DI X B tg (.Call (.Name "reversed" p) [a] [] pos) (DZ z):=by
 refine eB (EI G L J I) ?_
 rintro Y H R ⟨U,M,RR,s,h,C⟩
 refine⟨U,M,_,s,h,λds M1 m N H1 j F A=>?_⟩
 split at m
 .rename_i u
  obtain⟨v,rfl,q,c,rfl,l,y⟩:=dg (ds:=[]) A;have r:=y.length;refine⟨q,c,rfl,l.sq,C _ M1 m _ H1 j F λi H2 M2 n g _=>⟨λd b=>?_,λe=>?_⟩⟩
  .have t:i<u.length:=by
    rcases Lj i u.length with h|h
    .exact h
    .rw[KD (by rw[Ou];exact h)]at b;cases b
   rw[List.getElem?_reverse t]at b;obtain⟨w,o,f⟩:=(y.mono n).get b;rw[r]at o;refine⟨⟨by rw[<- r];exact t,c,w,(l.mono n).sq,o⟩,?_⟩
   rintro x H3 ⟨rfl,E⟩
   have:=E c (l.mono n).sq;rw[o]at this;cases this;exact⟨am,g,f⟩
  .show c.length<=i
   rw[Ou]at e;lia
 .exact m.elim
end
end L3
namespace L3
open PySem L2
section
variable {X:Cx}{B:Bd}{C:eg}{f:Str}{o value:fx}{ta tv:aV}{pos tpos:Pos}
def mB(C:eg)(ta tv:aV)(f:Str):ar:=λD U M=>ta U M λx M1=>match x with
 |.ref a=>match M1 a with
  |some (.ins C' fs)=>C'=C/\fs.length<1000/\match fs.lookup f with
   |some (.int i)=>tv U M1 λy M2=>match y with
    |.int j=>M2 a=al (.ins C fs)/\D.nx U (M2.upd a<|.ins C<|bd f (.int (i-j)) fs)
    |_=>False
   |_=>False
  |_=>False
 |_=>False
theorem vw(c:Cls X.K C)(n:NoAttr X.K C f)(ha:DE X B o ta)(hv:DE X B value tv):DS X B (.AugAssign (.Attribute o f tpos) .Sub value pos) (mB C ta tv f):=by
 refine ba (lA ha hv DH) ?_
 rintro D Y H ⟨U,M,DD,s,h,up⟩
 refine⟨U,M,_,s,h,λx M1 h1 v1 H1 rh1 i1 r1=>?_⟩
 split at h1
 .rename_i a
  cases r1
  split at h1
  .rename_i C' fs hM
   obtain⟨rfl,hl,h1⟩:=h1
   split at h1
   .rename_i i hf
    obtain⟨dx,ws,e1,e2⟩:=rh1 _ _ hM;obtain⟨z,_⟩|⟨d,w,hd,hw,rw1⟩:=e2.lookup f
    .rw[hf]at z;cases z
    rw[hf]at hd;cases hd;cases rw1;refine⟨a,C',dx,ws,.int i,rfl,e1,c,n,hw,U,M1,_,s.go rh1 i1,h1,λy M2 h2 v2 H2 rh2 i2 r2=>?_⟩
    split at h2
    .rename_i j
     cases r2;obtain⟨hM2,h2⟩:=h2;obtain⟨dx2,ws2,e3,e4⟩:=rh2 _ _ hM2;have i3:Frm M2 H2 (M2.upd a<|.ins C'<|bd f (.int (i-j)) fs) (upd H2 a<|.ins C' dx2<|L2.bR f (.int (i-j)) ws2):=Frm.put (.inr ⟨_,hM2⟩);refine⟨i,j,rfl,rfl,dx2,ws2,e3,by rw[<- e4.length];exact hl,up.nx _ _ h2 Y _ ((i1.trans i2).trans i3)<|s.go (rh2.put (by rw[e3];trivial) ⟨dx2,_,upd_same,?_⟩)<|(i1.trans i2).trans i3⟩
     exact(gl (show Rp X.K H2 (.int (i-j)) (.int (i-j)) from rfl) e4).mono (i3.imm rh2)
    .exact h2.elim
   .exact h1.elim
  .exact h1.elim
 .exact h1.elim
end
section
variable {X:Cx}{B:Bd}
end
end L3
namespace L2
open PySem PySem.Spec PyProof.Rows
section
variable {X:Cx}{tg iter elt:fx}{ifs:RQ}{scope:Pi}{cl:List (Str×eg)}{pos:Pos}{ls fs:RN}{js:List Nat}{wi:TI}{g:TG}{tt:TT}{te:TE}
end
end L2
namespace L3
open PySem L2
section
variable {X:Cx}{B:Bd}{scope:Pi}{cl:List (Str×eg)}{ls fs:RN}{js:List Nat}{tg iter elt:fx}{ifs:RQ}{wi:tQ}{g:ic}{tt:dq}{te:aV}{pos:Pos}
end
section
variable {P:fy}{w:h7}{K:Jd}{mg:RV}{base h:i5}{k n:Nat}{f C:eg}{fd:hI}{N ps:RN}{S:Sd}{T:DX->ar}{x RF:Str}{st:q0}{dv:Int}
theorem fnDV(F:FunV K x RF st f fd)(S:FnScope N ps (aD st))
  (t:∀(b:c0)(A:j0)(a:List Env)(s:c8)(H:Hp)(E:XK)(B:Bd)(EE:DX),Room k (A.deeper<|Li RF (aD st) s.heap.objs.size f b)->qe K B EE E->
   qb (cu (kG P w) P w K mg base N RF (aD st) f b A a s H E) B (b5 st) (T EE)):
  FnOk P w K mg base (kG P w) (k+1) f fd ps (aY K ps.length<|aL N T):=by
 obtain⟨v,G,kV,j,J,z,b,I,m,_,rfl,lk,e⟩:=F.ex;refine Cy lk e S (λl H Q E h=>h.1) λA a s H l Q E p c=>?_;obtain⟨y,i,M,QQ,EE,rh,r,g,u,ux⟩:=c;refine⟨_,t b A a s H E (Bd.of M H) (av EE) p ux.drp,startN N i,M,{ nx:=λ_ M'=>drp QQ .non M',rt:=drp QQ },⟨am,rh,.startN N r⟩,g,⟨?_,u.drp,?_,?_⟩⟩
 .exact λU M' q Y H' f o=>u.drp _ M' q _ H' o.rh f rfl
 .exact λU M' q=>(show False from q).elim
 .exact λU M' q=>(show False from q).elim
abbrev OkV(P:fy)(w:h7)(mg:RV)(base:i5)(_:FunV K x RF st f fd)(_:Binds K fd ps [])(k:Nat)(S:Sd):Prop:=FnOk P w K mg base (kG P w) k f fd ps (aY K ps.length S)
theorem HW(g:S=aL N T)(F:FunV K x RF st f fd)(b:Binds K fd ps [])(e:FnScope N ps (aD st))
  (i:FnScope N ps (aD st)->∀(c:c0)(A:j0)(a:List Env)(s:c8)(H:Hp)(E:XK)(B:Bd)(EE:DX),Room k (A.deeper<|Li RF (aD st) s.heap.objs.size f c)->qe K B EE E->
   qb (cu (kG P w) P w K mg base N RF (aD st) f c A a s H E) B (b5 st) (T EE)):OkV P w mg base F b (k+1) S:=by
 subst g;exact fnDV F e (i e)
structure NV(K:Jd)(x:Str)(st:q0)(f:eg)(fd:hI)(dv:Int):Prop where
 a:JY K fv x=al (al<|.ref f)
 F:∃(oc:c0)(od:Option eg)(kV doc pm:c0)(an:Option eg)(cdv ct:c0)(osl:Array (Option c0))(T:eg)(ob:Obj)(m:Nat)(t:Tok),
  fd=Lq x x (bt st) (b5 st) (aD st) (.ref T) kV doc pm an cdv ct/\K.lookup f=al ⟨oc,od,.func fd,osl⟩/\MZ K cdv x=true/\K.lookup T=al ob/\ob.data=.seq #[.int dv t] m
 kp:J4 K (.ref f)=true
theorem Il{s:c0}{u p o:Option eg}{g i:Array (Option c0)}{kV e q b r j:c0}{T:eg}{m:Nat}{t:Tok}(a:JY K fv x=al (al<|.ref f))
  (l:K.lookup f=al ⟨s,u,.func (Lq x x (bt st) (b5 st) (aD st) (.ref T) kV e q p b r),g⟩) (c:MZ K b x=true) (k:J4 K (.ref f)=true)
  (lt:K.lookup T=al ⟨j,o,.seq #[.int dv t] m,i⟩):NV K x st f (Lq x x (bt st) (b5 st) (aD st) (.ref T) kV e q p b r) dv:=
 ⟨a,⟨s,u,kV,e,q,p,b,r,g,T,_,m,t,rfl,l,c,lt,rfl⟩,k⟩
abbrev BndV(ps:RN)(x:Str)(st:q0)(dv:Int):Prop:=∀(kV doc pm:c0)(an:Option eg)(cdv ct:c0)(T:eg)(t:Tok),
 (∀u:c0,∃k,QZ (Lq x x (bt st) (b5 st) (aD st) (.ref T) kV doc pm an cdv ct) ⟨[u],[]⟩=Rc (.ref T) >>= k/\k (al #[.int dv t])=pure (ps.zip [u,.int dv t]))/\
 ∀u v:c0,∃k,QZ (Lq x x (bt st) (b5 st) (aD st) (.ref T) kV doc pm an cdv ct) ⟨[u,v],[]⟩=Rc (.ref T) >>= k/\k (al #[.int dv t])=pure (ps.zip [u,v])
theorem gv(X:K.In h)(G:h.Ns fv mg)(l:NV K x st f fd dv)(E:ps.length=2)(B:BndV ps x st dv):GV K mg x st f fd ps dv:=by
 obtain⟨a,⟨H,I,kV,e,y,j,b,o,q,T,J,m,t,rfl,F,c,lt,z⟩,A⟩:=l;refine⟨⟨⟨H,I,kV,e,y,j,b,o,q,T,rfl,F,c⟩,A⟩,λs i KX g=>?_,⟨t,λs i KX g=>?_⟩,A,Kq X G a⟩
 .rw[JR]at g ⊢
  match i,g.trans E with
  |[u,v],_=>
   obtain⟨k,p,r⟩:=(B kV e y j b o T t).2 u v;exact W.binds_K KX rfl lt z p r
 .rw[Jr,E]at g
  match i,(show i.length=1 by simpa using g) with
  |[u],_=>
   obtain⟨k,p,r⟩:=(B kV e y j b o T t).1 u;exact W.binds_K KX rfl lt z p r
end
section
variable {X:Cx}{B:Bd}{CX:k_}{k n:Nat}{f:eg}{fd:hI}{ps:RN}{T:Sd}{EE:DX}{E:XK}{x:Str}{st:q0}{p pos:Pos}{e:fx}{es:RQ}{t:cB}{dv:Int}
end
end L3
namespace L3
open PySem L2 PyProof.Rows
section
variable {X:Cx}{B:Bd}
def wP:eI:=λx y M Q=>match x with
 |.ref a=>match M a,y with
  |some (.lst xs),.int i=>0<=i/\match xs[i.toNat]? with
   |some d=>Q d M
   |none=>False
  |_,y=>match mh M a y with
   |some (al d)=>Q d M
   |_=>False
 |_=>False
theorem Al(R:X.A.units+1<rz):II X (liftR2 X wP):=by
 intro l s Y H x y v u Q I n p h;obtain⟨U,W,M,QQ,c,G,C,h,m⟩:=h;unfold wP at h
 split at h
 .rename_i a
  cases G
  split at h
  .rename_i xs i O
   obtain⟨K,h⟩:=h
   split at h
   .rename_i d f
    cases C;cases n;obtain⟨t,rfl⟩:=p;obtain⟨o,P,L⟩:=c _ _ O;obtain⟨E,r,pl,Z⟩:=I.list (SqL.of P);obtain⟨z,j,F⟩:=L.get f;obtain⟨w,N,b⟩:=r.get j;have S:=r.length;have T:=dh;have J:i.toNat<o.length:=by
     rcases Lj i.toNat o.length with q|q
     .exact q
     .rw[KD q]at j;cases j
    exact wpAny_getItem_list pl.isList K (by lia) (by simpa using N) ⟨z,H,I,b,m _ M h _ H c am F⟩
   .exact h.elim
  .split at h
   .rename_i d f
    cases n;rcases m9 c C f with⟨z,_⟩|⟨d',w,z,g,b⟩
    .cases z
    .cases z
     exact lJ R I g p λw' s3 I3 e=>⟨w,H,I3,e,m _ M h _ H c am b⟩
   .exact h.elim
 .exact h.elim
def xy(to ti te:aV)(r:eI):ar:=λD U M=>to U M λo M1=>ti U M1 λi M2=>wP o i M2 λx M3=>te U M3 λy M4=>r x y M4 λz M5=>rf o i z M5 λM6=>D.nx U M6
theorem BM{o i e:fx}{to ti te:aV}{r:eI}{z:Qo}{pos tpos:Pos}(C:X.A.units+1<rz)(ho:DE X B o to)(hi:DE X B i ti)(W:DE X B e te)(Z:Bv X z (liftR2 X r))
  (ha:∀m n new,augStore i m n new=(do vr [new,m,n] (QS m n new);release [new,m,n] [];pure .next)):DS X B (.AugAssign (.Subscript o i tpos) z e pos) (xy to ti te r):=by
 refine ba (Bg ho hi (Al C) W Z (uE C) ha) ?_
 rintro D Y H ⟨U,M,DD,s,h,J⟩
 refine⟨U,M,_,s,h,λw M1 R v1 H1 a f1 v=>?_⟩;refine⟨U,M1,_,s.go a f1,R,λx M2 K v2 H2 c l y=>?_⟩;refine⟨w,x,M2,_,c,v.mf a l,y,K,λN M3 T v3 H3 b g G=>?_⟩;refine⟨U,M3,_,s.go b ((f1.trans l).trans g),T,λP M4 I v4 H4 t j S=>?_⟩;refine⟨N,P,M4,_,t,G.mf b j,S,I,λO M5 E v5 H5 q u L=>?_⟩;refine⟨w,x,O,M5,_,q,v.mf a (((l.trans g).trans j).trans u),y.mf c ((g.trans j).trans u),L,E,λM6 Q H6 p F=>?_⟩;have f:=((((f1.trans l).trans g).trans j).trans u).trans F;exact J.nx U M6 Q Y H6 f (s.go p f)
end
end L3
namespace L3
open PySem L2
section
variable {X:Cx}{B:Bd}
def j7:qd:=λx b M Q=>match x,b with
 |.ref a,[.int i,y]=>match M a with
  |some (.lst xs)=>0<=i/\i<=xs.length/\xs.length<sizeLine/\Q .non (M.upd a<|.lst (xs.take i.toNat++y::xs.drop i.toNat))
  |_=>False
 |_,_=>False
theorem rm:pj X "list.insert" (liftM X j7):=by
 intro RE s Y H x vs v us Q I rx rv h;obtain⟨d,ds,M,QQ,rh,r,rs,h,up⟩:=h;unfold j7 at h
 split at h
 .rename_i a i y
  cases r;obtain⟨w1,w,rfl,rw1,rw'⟩:=wo rs;cases rw1
  split at h
  .rename_i xs hM
   obtain⟨h0,h1,h2,h⟩:=h;obtain⟨ws,e1,e2⟩:=rh _ _ hM;obtain⟨u1,u2,rfl,ru1,ru2⟩:=rv.two;obtain⟨t,rfl⟩:=ru1;cases rx;obtain⟨z,RK,n,rr,hl,e⟩:=I.lstM e1;have hlen:=e2.length;have hn:=dh;have hz:sizeLine<2 ^ 60:=by decide
   have im:Imm H (upd H a<|.lst (ws.take i.toNat++w::ws.drop i.toNat)):=Imm.upd (by rw[e1];trivial)
   have hfit:Ll i=true:=by
    unfold Ll;rw[decide_eq_true (show -(2 ^ 63:Int)<=i by lia),decide_eq_true (show i<2 ^ 63 by lia)]
    rfl
   refine pa Ng ⟨_,e,rfl⟩ PySem.F.entry_list_insert (PySem.F.args_list_insert_3 _ _ _) (PySem.AutoSeq1.list_insert_list_int_val_1 a _ n i t u2 (by simp[hfit])<|by rw[Jc];lia) ⟨e,?_⟩
   have hi:min i.toNat RK.length=i.toNat:=by lia
   refine⟨.non,_,I.lset (its':=RK.take i.toNat++u2::RK.drop i.toNat) e1 e ?_ ((rr.take _).append<|.cons ru2<|rr.drop _) ?_,rfl,up _ _ h _ _ (rh.put (by rw[e1];trivial) ⟨_,upd_same,((e2.take _).append<|.cons rw'<|e2.drop _).mono im⟩) (Frm.put<|.inr ⟨_,hM⟩) rfl⟩
   .show (RK.toArray.extract 0 (if i<0 then (i+(RK.toArray.size:Int)).toNat else min i.toNat RK.toArray.size)).push u2++RK.toArray.extract (if i<0 then (i+(RK.toArray.size:Int)).toNat else min i.toNat RK.toArray.size)=_
    rw[if_neg (by lia),Jc,hi]
    apply Array.ext';simp;rw[Ma (by simp)]
   .rw[Jr,Jl,Lm,MW]
    lia
  .exact h.elim
 .exact h.elim
theorem yf{C S f:eg}{k m:Nat}{O:hI}{ps:RN}{T:Sd}{x l y n:Str}{i j:Nat}{p v L W g P pos:Pos}{e:fx}{es:RQ}{Q:cB}{c:q0}{a:RS}{Tb:eg->ar}{st:q0}
  (h:GF X.K X.mg x st f O ps) (F:FnOk X.prog X.w X.K X.mg X.base (kG X.prog X.w) k f O ps (aY X.K m T))
  (q:X.stack=X.env::X.outer) (o:X.env.frame=al X.env.locals) (z:X.ex=[]) (hr:Room k X.A) (hg:Gl X x)
  (Y:DA X.nox B (e::es) Q) (ES:XS X.K C S) (I:Gl X l) (s:X.mg l=al (.ref S))
  (hN:X.N.Nodup) (U:X.N[i]?=al y) (Z:qD X.env.scope y) (hj:X.N[j]?=al n) (hn:X.env.kindOf n=al .local)
  (t:∀(ea:eg)(B':Bd),(∀M H,B'.p M H->ExcH H C ea)->qb (X.marked<|.ref ea) B' (c::a) (Tb ea))
  (J:(x==("__debug__":Str))=eo) (u:(l==("__debug__":Str))=eo)
  (he:fe (e::es) X.env=(eo,g5 e X.env)::fe es X.env) (E:(ik v<|starEach es X.env).any (·.1)=eo)
  (r:rc (.Call (.Name x p) (e::es) [] v) (al<|.Name y P) L.line X.env=pure eo)
  (R:X.fn y=true\/X.env.scope.names.lookup y=al .local) (G:X.fn n=true\/X.env.scope.names.lookup n=al .local):
  DS X B (.Try [.Assign [.Name y P] (.Call (.Name x p) (e::es) [] v) L] [.ExceptHandler (al<|.Name l W) (al n) (c::a) g] [] [] pos) (pq C T m Q i j Tb):=
 B1 q o z F hr hg h.m h.k h.b Y ES I s hN U Z hj hn t J u he E r R G
end
end L3
namespace Tw
open PySem L2 L3
def cE(i:Nat):Stmt:=PySem.Challenge.pw_twinstride_k37_whole_lines_of_pieces.main.body.getD i (.Pass ⟨0,0,0,0⟩)
abbrev GH:Stmt:=di (cE 13) 0
abbrev HI:Stmt:=di (cE 13) 1
abbrev Cr:Stmt:=di (cE 13) 2
abbrev CV:Stmt:=cE 14
abbrev D7:Stmt:=cE 15
abbrev Cs:Stmt:=cE 16
abbrev GE:Stmt:=cE 17
abbrev CM:Stmt:=cE 19
abbrev CQ:Stmt:=cE 20
abbrev CN:Stmt:=cE 21
abbrev D1:Stmt:=cE 22
abbrev Dg:Stmt:=cE 23
abbrev CD:Stmt:=cE 25
abbrev CT:Stmt:=cE 26
abbrev Db:Stmt:=cE 27
abbrev IQ:Stmt:=cE 29
abbrev D5:Stmt:=cE 31
abbrev Cu:Stmt:=cE 33
abbrev Dd:Stmt:=cE 34
abbrev Dy:Stmt:=cE 35
abbrev HL:Stmt:=di (cE 37) 0
abbrev Hk:Stmt:=di (cE 37) 1
abbrev Io:Stmt:=di (cE 38) 0
abbrev Ic:Stmt:=di (cE 38) 1
abbrev D8:Stmt:=cE 39
abbrev Di:Stmt:=cE 40
abbrev Dk:Stmt:=cE 41
abbrev Dc:Stmt:=cE 42
abbrev IB:Stmt:=cE 43
abbrev C_:Stmt:=cE 45
abbrev CO:Stmt:=cE 46
abbrev Dq:Stmt:=cE 47
abbrev CH:Stmt:=cE 48
abbrev Dv:Stmt:=cE 49
abbrev Do:Stmt:=cE 50
abbrev D9:Stmt:=cE 52
abbrev Du:Stmt:=cE 53
abbrev CI:Stmt:=cE 54
abbrev Go:Stmt:=cE 55
abbrev Dx:Stmt:=cE 56
abbrev CB:Stmt:=cE 57
abbrev Ct:Stmt:=cE 58
abbrev Dj:Stmt:=cE 59
abbrev gX:Stmt:=cE 60
set_option genInjectivity false in
structure Ad where
 C_Ends:eg
 C_Going:eg
 C_Walk:eg
 C_Dry:eg
 C_NoBuild:eg
 C_NoCase:eg
 C_NoLine:eg
 C_NoMoment:eg
 C_NoPlace:eg
 C_NoRow:eg
 C_NoText:eg
 C_StrideError:eg
 C_TooBig:eg
 C_TooMany:eg
 (a1 a2 a3 a4 a5 a6 a7 a8 a9 a10 a11 a12 a13 a14 a15 a16 a17 a18 a19 a20 a21 a22 a23 a24 a25 a26 a27 a28 a29 a30 a31 a32 a33 a34 a35 a36 a37 a38 a39 a40 a41 a42 a43 a44:eg)
 (d1 d2 d3 d4 d5 d6 d7 d8 d9 d10 d11 d12 d13 d14 d15 d16 d17 d18 d19 d20 d21 d22 d23 d24 d25 d26 d27 d28 d29 d30 d31 d32 d33 d34 d35 d36 d37 d38 d39 d40 d41 d42 d43 d44:hI)
def yn(ad:Ad)(EE:DX):ar:=
 (ah (bP ad.C_Walk (ac 0) (ac 3) "most")
  (bP ad.C_Walk (ac 0) (br af) "steps"))
def xn(ad:Ad)(EE:DX):ar:=
 (ah (bP ad.C_Walk (ac 0) (ai aB (ac 2)<|dC<|.int 1) "pieces")
  (yn ad EE))
def xp(ad:Ad)(EE:DX):ar:=
 (ah (bP ad.C_Walk (ac 0) (fM<|aa (ai aB (ac 1)<|dC<|.int 1)<|aa (ai aB (ac 2)<|dC<|.int 0) af) "numbers")
  (xn ad EE))
def B6(ad:Ad)(EE:DX):ar:=
 (ah (bP ad.C_Walk (ac 0) (ac 1) "plan")
  (xp ad EE))
def BY(ad:Ad):Sd:=aL ["self","plan","stand","most"] (B6 ad)
theorem u_q5{ad:Ad}{n:Nat}{c b e a:D}{M:Mem}{Q:DK}{E:DX}:BY ad [c,b,e,a] M Q E=B6 ad (av E) { nx:=λ_ M'=>drp Q .non M',rt:=drp Q } [al c,al b,al e,al a] M:=rfl
def zP(ad:Ad)(EE:DX):ar:=
 (aX<|me "list" bM (aO ad.C_Walk (ac 0) "steps")<|aa (aN<|aa (ac 1)<|aa (ac 2) af) af)
def AN(ad:Ad)(EE:DX):ar:=
 (ah (aU (ao<|ai oGe (ce oB<|aa (aO ad.C_Walk (ac 0) "steps") af)<|aO ad.C_Walk (ac 0) "most") (gH ad.C_Dry EE) aP)
  (zP ad EE))
def rH(ad:Ad):Sd:=aL ["self","place","number"] (AN ad)
theorem u_q1{ad:Ad}{n:Nat}{b a c:D}{M:Mem}{Q:DK}{E:DX}:rH ad [b,a,c] M Q E=AN ad (av E) { nx:=λ_ M'=>drp Q .non M',rt:=drp Q } [al b,al a,al c] M:=rfl
def sh(ad:Ad)(EE:DX):ar:=
 (ah (aX<|bO ad.C_Walk "note_step" (rH ad) EE 3 (ac 0)<|aa (ac 1)<|aa (ac 3) af)
  (aC<|ac 3))
def tN(ad:Ad)(EE:DX):ar:=
 (ah (au (kH (ao<|ai cP (ai aB (aO ad.C_Walk (ac 0) "numbers")<|ac 2)<|dC<|.int 0) (dC<|.int 0)<|dC<|.int 1)<|ag 3)
  (sh ad EE))
def lV(ad:Ad):Sd:=aL ["self","place","name","seen"] (tN ad)
theorem Hh{ad:Ad}{n:Nat}{b a c:D}{M:Mem}{Q:DK}{E:DX}:lV ad [b,a,c] M Q E=tN ad (av E) { nx:=λ_ M'=>drp Q .non M',rt:=drp Q } [al b,al a,al c,ee] M:=rfl
def tW(ad:Ad)(EE:DX):ar:=
 (aC<|ai i8 (aw<|ai bz (ac 1)<|ac 2)<|ac 3)
def uN(ad:Ad)(EE:DX):ar:=
 (aC<|kH (ao<|ai HJ (ac 1)<|ac 2) (dC<|.int 1)<|dC<|.int 0)
def sU(ad:Ad)(EE:DX):ar:=
 (aC<|kH (ao<|ai cP (ac 1)<|ac 2) (dC<|.int 1)<|dC<|.int 0)
def uv(ad:Ad)(EE:DX):ar:=
 (ah (aU (ao<|ai cP (ac 0)<|dC<|.str "less") (uN ad EE) aP)
  (sU ad EE))
def sO(ad:Ad)(EE:DX):ar:=
 (ah (aU (ao<|ai cP (ac 0)<|dC<|.str "by") (aC<|ai i8 (ai cL (ac 1)<|ac 2)<|ac 3) aP)
  (uv ad EE))
def uT(ad:Ad)(EE:DX):ar:=
 (ah (aU (ao<|ai cP (ac 0)<|dC<|.str "sum") (tW ad EE) aP)
  (sO ad EE))
def uQ(ad:Ad):Sd:=aL ["word","y","z","wheel"] (uT ad)
theorem HH{ad:Ad}{n:Nat}{c b e a:D}{M:Mem}{Q:DK}{E:DX}:uQ ad [c,b,e,a] M Q E=uT ad (av E) { nx:=λ_ M'=>drp Q .non M',rt:=drp Q } [al c,al b,al e,al a] M:=rfl
def rZ(ad:Ad)(EE:DX):ar:=
 (aC<|ai i8 (ai aB (ac 1)<|ai aB (ac 2)<|dC<|.int 2)<|ai aB (ac 0)<|dC<|.int 2)
def sg(ad:Ad)(EE:DX):ar:=
 (ah (aU (ao<|ai cP (ai aB (ac 2)<|dC<|.int 0)<|dC<|.str "pick") (rZ ad EE) aP)
  (aC<|dC .non))
def g8(ad:Ad)(EE:DX):ar:=
 (ah (aU (ao<|ai cP (ai aB (ac 2)<|dC<|.int 0)<|dC<|.str "take") (aC<|ai aB (ac 2)<|dC<|.int 2) aP)
  (sg ad EE))
def jZ(ad:Ad):Sd:=aL ["plan","numbers","row"] (g8 ad)
theorem lq{ad:Ad}{n:Nat}{b a c:D}{M:Mem}{Q:DK}{E:DX}:jZ ad [b,a,c] M Q E=g8 ad (av E) { nx:=λ_ M'=>drp Q .non M',rt:=drp Q } [al b,al a,al c] M:=rfl
def tG(ad:Ad)(EE:DX):ar:=
 (aC<|ak (uQ ad) EE 4<|aa (ai aB (ac 3)<|dC<|.int 0)<|aa (ai aB (ac 1)<|ai aB (ac 3)<|dC<|.int 2)<|aa (ai aB (ac 1)<|ai aB (ac 3)<|dC<|.int 3)<|aa (ai aB (ac 0)<|dC<|.int 0) af)
def sv(ad:Ad)(EE:DX):ar:=
 (ah (aU (ao<|ai eQ (ac 4)<|dC .non) (aC<|ai aB (ac 2)<|ac 4) aP)
  (tG ad EE))
def ui(ad:Ad)(EE:DX):ar:=
 (ah (au (aw<|ak (jZ ad) EE 3<|aa (ac 0)<|aa (ac 1)<|aa (ac 3) af)<|ag 4)
  (sv ad EE))
def dS(ad:Ad)(EE:DX):ar:=
 (ah (aU (ao<|ai cP (ai aB (ac 3)<|dC<|.int 0)<|dC<|.str "put") (aC<|ai aB (ac 3)<|dC<|.int 2) aP)
  (ui ad EE))
def kh(ad:Ad):Sd:=aL ["plan","numbers","pieces","row","piece"] (dS ad)
theorem hZ{ad:Ad}{n:Nat}{c b e a:D}{M:Mem}{Q:DK}{E:DX}:kh ad [c,b,e,a] M Q E=dS ad (av E) { nx:=λ_ M'=>drp Q .non M',rt:=drp Q } [al c,al b,al e,al a,ee] M:=rfl
def ug(ad:Ad)(OF OI OG OH:Sd)(EE:DX):ar:=
 (aX<|ak OI EE 3<|aa (ac 0)<|aa (ac 4)<|aa (ai bz (ac 2)<|aN<|aa (ac 3) af) af)
def tR(ad:Ad)(OF OI OG OH:Sd)(EE:DX):ar:=
 (cc (Dz<|aa (ac 1) af) (kM 2<|bN (ag 3)<|bN (ag 4) kT)<|ug ad OF OI OG OH EE)
def yB(ad:Ad)(OF OI OG OH:Sd)(EE:DX):ar:=
 (aX<|ak OG EE 3<|aa (ac 0)<|aa (ac 1)<|aa (ac 2) af)
def zK(ad:Ad)(OF OI OG OH:Sd)(EE:DX):ar:=
 (aX<|ak OH EE 3<|aa (ac 0)<|aa (ac 1)<|aa (ac 2) af)
def zJ(ad:Ad)(OF OI OG OH:Sd)(EE:DX):ar:=
 (au (ac 3)<|kR (aO ad.C_Walk (ac 0) "numbers")<|ai aB (ac 1)<|dC<|.int 1)
def yl(ad:Ad)(OF OI OG OH:Sd)(EE:DX):ar:=
 (ah (aX<|bO ad.C_Walk "note_step" (rH ad) EE 3 (ac 0)<|aa (ac 2)<|aa (ac 3) af)
    (zJ ad OF OI OG OH EE))
def zc(ad:Ad)(OF OI OG OH:Sd)(EE:DX):ar:=
 (ah (au (aw<|ak (kh ad) EE 4<|aa (aO ad.C_Walk (ac 0) "plan")<|aa (aO ad.C_Walk (ac 0) "numbers")<|aa (aO ad.C_Walk (ac 0) "pieces")<|aa (ac 1) af)<|ag 3)
    (yl ad OF OI OG OH EE))
def wx(ad:Ad)(OF OI OG OH:Sd)(EE:DX):ar:=
 (aU (ao<|ai cP (ai aB (ac 1)<|dC<|.int 0)<|dC<|.str "again") (zK ad OF OI OG OH EE)<|zc ad OF OI OG OH EE)
def nJ(ad:Ad)(OF OI OG OH:Sd)(EE:DX):ar:=
 (aU (ao<|ai cP (ai aB (ac 1)<|dC<|.int 0)<|dC<|.str "if") (yB ad OF OI OG OH EE)<|wx ad OF OI OG OH EE)
def sS(ad:Ad)(OF OI OG OH:Sd)(EE:DX):ar:=
 (aX<|ak OF EE 3<|aa (ac 0)<|aa (kH (ao<|ai cP (ac 3)<|dC<|.int 1) (ai aB (ac 1)<|dC<|.int 2)<|ai aB (ac 1)<|dC<|.int 3)<|aa (ai bz (ac 2)<|aN<|aa (ac 3) af) af)
def tV(ad:Ad)(OF OI OG OH:Sd)(EE:DX):ar:=
 (ah (au (aw<|bO ad.C_Walk "look" (lV ad) EE 3 (ac 0)<|aa (ac 2)<|aa (ai aB (ac 1)<|dC<|.int 1) af)<|ag 3)
  (sS ad OF OI OG OH EE))
def sJ(ad:Ad)(OF OI OG OH:Sd)(EE:DX):ar:=
 (ah (aX<|ak OF EE 3<|aa (ac 0)<|aa (ai aB (ac 1)<|dC<|.int 2)<|aa (ai bz (ac 2)<|aN<|aa (ac 3) af) af)
   (xa 3 (dC<|.int 1) t6))
def sM(ad:Ad)(OF OI OG OH:Sd)(EE:DX):ar:=
 (dj (ao<|ai cP (aw<|bO ad.C_Walk "look" (lV ad) EE 3 (ac 0)<|aa (ai bz (ac 2)<|aN<|aa (ac 3) af)<|aa (ai aB (ac 1)<|dC<|.int 1) af)<|dC<|.int 1)<|sJ ad OF OI OG OH EE)
def sX(ad:Ad)(OF OI OG OH:Sd)(EE:DX):ar:=
 (ah (au (dC<|.int 0)<|ag 3)
  (sM ad OF OI OG OH EE))
mutual
def OF(ad:Ad):Nat->Sd
 |0=>λ_ _ _ _=>False
 |n+1=>aL ["walk","rows","place","j","row"] (tR ad (OF ad n) (OI ad n) (OG ad n)<|OH ad n)
def OI(ad:Ad):Nat->Sd
 |0=>λ_ _ _ _=>False
 |n+1=>aL ["walk","row","place","number"] (nJ ad (OF ad n) (OI ad n) (OG ad n)<|OH ad n)
def OG(ad:Ad):Nat->Sd
 |0=>λ_ _ _ _=>False
 |n+1=>aL ["walk","row","place","seen"] (tV ad (OF ad n) (OI ad n) (OG ad n)<|OH ad n)
def OH(ad:Ad):Nat->Sd
 |0=>λ_ _ _ _=>False
 |n+1=>aL ["walk","row","place","turn"] (sX ad (OF ad n) (OI ad n) (OG ad n)<|OH ad n)
end
theorem Hb{ad:Ad}{n:Nat}{b a c:D}{M:Mem}{Q:DK}{E:DX}:OF ad (n+1) [b,a,c] M Q E=tR ad (OF ad n) (OI ad n) (OG ad n) (OH ad n) (av E) { nx:=λ_ M'=>drp Q .non M',rt:=drp Q } [al b,al a,al c,ee,ee] M:=rfl
theorem vB{ad:Ad}{n:Nat}{b a c:D}{M:Mem}{Q:DK}{E:DX}:OI ad (n+1) [b,a,c] M Q E=nJ ad (OF ad n) (OI ad n) (OG ad n) (OH ad n) (av E) { nx:=λ_ M'=>drp Q .non M',rt:=drp Q } [al b,al a,al c,ee] M:=rfl
theorem GZ{ad:Ad}{n:Nat}{b a c:D}{M:Mem}{Q:DK}{E:DX}:OG ad (n+1) [b,a,c] M Q E=tV ad (OF ad n) (OI ad n) (OG ad n) (OH ad n) (av E) { nx:=λ_ M'=>drp Q .non M',rt:=drp Q } [al b,al a,al c,ee] M:=rfl
theorem IE{ad:Ad}{n:Nat}{b a c:D}{M:Mem}{Q:DK}{E:DX}:OH ad (n+1) [b,a,c] M Q E=sX ad (OF ad n) (OI ad n) (OG ad n) (OH ad n) (av E) { nx:=λ_ M'=>drp Q .non M',rt:=drp Q } [al b,al a,al c,ee] M:=rfl
def sK(ad:Ad)(EE:DX):ar:=
 (aC<|aN<|aa (aO ad.C_Walk (ac 3) "steps")<|aa (ce e_<|aa (aw<|bw (cC<|ai aB (ac 0)<|dC<|.int 1) ["name"] [3] (ag 0) lY<|ai aB (aO ad.C_Walk (ac 1) "numbers")<|ac 0) af) af)
def sC(ad:Ad)(EE:DX):ar:=
 (ah (Ej ad.C_Dry (OF ad 24) 3 (aa (ac 3)<|aa (ai aB (ac 0)<|dC<|.int 3)<|aa (aN af) af)<|aC<|aN<|aa (aO ad.C_Walk (ac 3) "steps")<|aa (dC .non) af)
  (sK ad EE))
def tE(ad:Ad)(EE:DX):ar:=
 (ah (au (fS ad.C_Walk (BY ad) EE 4<|aa (ac 0)<|aa (ac 1)<|aa (ac 2) af)<|ag 3)
  (sC ad EE))
def pQ(ad:Ad):Sd:=aL ["plan","stand","most","walk"] (tE ad)
theorem IP{ad:Ad}{n:Nat}{b a c:D}{M:Mem}{Q:DK}{E:DX}:pQ ad [b,a,c] M Q E=tE ad (av E) { nx:=λ_ M'=>drp Q .non M',rt:=drp Q } [al b,al a,al c,ee] M:=rfl
def si(ad:Ad)(EE:DX):ar:=
 (aC<|ai aB (ac 3)<|dTM mm (ai aB (ac 0)<|dC<|.int 1)<|aa (ai aB (ac 0)<|dC<|.int 4) af)
def tF(ad:Ad)(EE:DX):ar:=
 (ah (aU (ao<|ai kJ (ac 3)<|dC .non) (aC<|dC .non) aP)
  (si ad EE))
def tm(ad:Ad)(EE:DX):ar:=
 (ah (au (ai aB (lM<|ak (pQ ad) EE 3<|aa (ac 0)<|aa (ac 1)<|aa (ac 2) af)<|dC<|.int 1)<|ag 3)
  (tF ad EE))
def lr(ad:Ad):Sd:=aL ["plan","stand","most","end"] (tm ad)
theorem HC{ad:Ad}{n:Nat}{b a c:D}{M:Mem}{Q:DK}{E:DX}:lr ad [b,a,c] M Q E=tm ad (av E) { nx:=λ_ M'=>drp Q .non M',rt:=drp Q } [al b,al a,al c,ee] M:=rfl
def sx(ad:Ad)(EE:DX):ar:=
 (aC<|ai bz (aw<|ce dP<|aa (ai aB (ac 0)<|dC<|.int 1) af)<|aw<|fB<|aa (ai aB (ac 0)<|dC<|.int 2) af)
def om(ad:Ad):Sd:=aL ["plan"] (sx ad)
theorem IT{ad:Ad}{n:Nat}{a:D}{M:Mem}{Q:DK}{E:DX}:om ad [a] M Q E=sx ad (av E) { nx:=λ_ M'=>drp Q .non M',rt:=drp Q } [al a] M:=rfl
def iR(ad:Ad)(EE:DX):ar:=
 (aC<|bw (cC<|aw<|ak (om ad) EE 1<|aa (ac 0) af) ["thing"] [2] (ag 0) (ao<|ai vt (ac 0)<|ac 1)<|ac 0)
def ub(ad:Ad)(EE:DX):ar:=
 (ah (au (ce gK<|aa (aw<|bw (cC<|ac 1) ["thing"] [] (ag 0) lY<|aN<|aa (ac 0)<|aa (dC<|.bl true) af) af)<|ag 2)
  (iR ad EE))
def sw(ad:Ad):Sd:=aL ["plan","things","wanted"] (ub ad)
theorem Ho{ad:Ad}{n:Nat}{b a:D}{M:Mem}{Q:DK}{E:DX}:sw ad [b,a] M Q E=ub ad (av E) { nx:=λ_ M'=>drp Q .non M',rt:=drp Q } [al b,al a,ee] M:=rfl
def sI(ad:Ad)(EE:DX):ar:=
 (aC<|ai aB (ai aB (ac 1)<|dC<|.int 0)<|dTM mm (ai aB (ac 0)<|dC<|.int 1)<|aa (ac 2) af)
def oj(ad:Ad)(EE:DX):ar:=
 (ah (aU (i6<|ce tK<|aa (ac 2)<|aa (dC<|.ty "str") af) (sI ad EE) aP)
  (aC<|ai aB (ai aB (ac 1)<|dC<|.int 1)<|ac 2))
def gZ(ad:Ad):Sd:=aL ["plan","stand","thing"] (oj ad)
theorem D6{ad:Ad}{n:Nat}{b a c:D}{M:Mem}{Q:DK}{E:DX}:gZ ad [b,a,c] M Q E=oj ad (av E) { nx:=λ_ M'=>drp Q .non M',rt:=drp Q } [al b,al a,al c] M:=rfl
def zn(ad:Ad)(EE:DX):ar:=
 (aC<|ce dP<|aa (aw<|HS (ac 0) (lC<|dC<|.int 2) jl) af)
def yv(ad:Ad)(EE:DX):ar:=
 (ah (aU (dOr (ao<|ai cP (ai aB (ac 0)<|dC<|.int 0)<|dC<|.str "put")<|ao<|ai cP (ai aB (ac 0)<|dC<|.int 0)<|dC<|.str "take") (aC<|br af) aP)
  (zn ad EE))
def mS(ad:Ad)(EE:DX):ar:=
 (ah (aU (dOr (ao<|ai cP (ai aB (ac 0)<|dC<|.int 0)<|dC<|.str "if")<|ao<|ai cP (ai aB (ac 0)<|dC<|.int 0)<|dC<|.str "again") (aC<|br<|aa (ai aB (ac 0)<|dC<|.int 1) af) aP)
  (yv ad EE))
def Br(ad:Ad):Sd:=aL ["row"] (mS ad)
theorem vi{ad:Ad}{n:Nat}{a:D}{M:Mem}{Q:DK}{E:DX}:Br ad [a] M Q E=mS ad (av E) { nx:=λ_ M'=>drp Q .non M',rt:=drp Q } [al a] M:=rfl
def uK(ad:Ad)(EE:DX):ar:=
 (aC<|bw (cC<|aw<|ak (om ad) EE 1<|aa (ac 0) af) ["thing"] [0,2,1] (ag 0) (ao<|ai x6 (aw<|ak (gZ ad) uS 3<|aa (ac 1)<|aa (ac 3)<|aa (ac 0) af)<|aw<|ak (gZ ad) uS 3<|aa (ac 1)<|aa (ac 2)<|aa (ac 0) af)<|ac 0)
def ut(ad:Ad):Sd:=aL ["plan","one","other"] (uK ad)
theorem HF{ad:Ad}{n:Nat}{b a c:D}{M:Mem}{Q:DK}{E:DX}:ut ad [b,a,c] M Q E=uK ad (av E) { nx:=λ_ M'=>drp Q .non M',rt:=drp Q } [al b,al a,al c] M:=rfl
def nY(ad:Ad)(EE:DX):ar:=
 (ah (aU (ao<|ai cP (ac 1)<|ac 2) (gH ad.C_NoCase EE) aP)
  (aC<|aN<|aa (ac 1)<|aa (ac 2) af))
def iw(ad:Ad)(EE:DX):ar:=
 (ah (aU (dOr (ao<|ai kJ (ac 1)<|dC .non)<|ao<|ai kJ (ac 2)<|dC .non) (gH ad.C_NoCase EE) aP)
  (nY ad EE))
def mY(ad:Ad)(EE:DX):ar:=
 (ah (au (aw<|ak (lr ad) EE 3<|aa (ai aB (ac 0)<|dC<|.int 0)<|aa (ai aB (ac 0)<|dC<|.int 2)<|aa (ai aB (ac 0)<|dC<|.int 3) af)<|ag 2)
  (iw ad EE))
def ua(ad:Ad)(EE:DX):ar:=
 (ah (au (aw<|ak (lr ad) EE 3<|aa (ai aB (ac 0)<|dC<|.int 0)<|aa (ai aB (ac 0)<|dC<|.int 1)<|aa (ai aB (ac 0)<|dC<|.int 3) af)<|ag 1)
  (mY ad EE))
def lH(ad:Ad):Sd:=aL ["case","sound","faulty"] (ua ad)
theorem HP{ad:Ad}{n:Nat}{a:D}{M:Mem}{Q:DK}{E:DX}:lH ad [a] M Q E=ua ad (av E) { nx:=λ_ M'=>drp Q .non M',rt:=drp Q } [al a,ee,ee] M:=rfl
def uO(ad:Ad)(EE:DX):ar:=
 (aC<|ak (ut ad) EE 3<|aa (ai aB (ac 0)<|dC<|.int 0)<|aa (ai aB (ac 0)<|dC<|.int 1)<|aa (ai aB (ac 0)<|dC<|.int 2) af)
def pY(ad:Ad):Sd:=aL ["case"] (uO ad)
theorem Ip{ad:Ad}{n:Nat}{a:D}{M:Mem}{Q:DK}{E:DX}:pY ad [a] M Q E=uO ad (av E) { nx:=λ_ M'=>drp Q .non M',rt:=drp Q } [al a] M:=rfl
def sj(ad:Ad)(EE:DX):ar:=
 (ah (aU (ao<|ai cP (ac 1)<|ai aB (ac 0)<|dC<|.int 1) (aC<|dC<|.str "faulty") aP)
  (aC<|dC<|.str "other"))
def pz(ad:Ad)(EE:DX):ar:=
 (ah (aU (ao<|ai cP (ac 1)<|ai aB (ac 0)<|dC<|.int 0) (aC<|dC<|.str "sound") aP)
  (sj ad EE))
def t_(ad:Ad):Sd:=aL ["two","one"] (pz ad)
theorem CS{ad:Ad}{n:Nat}{b a:D}{M:Mem}{Q:DK}{E:DX}:t_ ad [b,a] M Q E=pz ad (av E) { nx:=λ_ M'=>drp Q .non M',rt:=drp Q } [al b,al a] M:=rfl
def yZ(ad:Ad)(EE:DX):ar:=
 (ah (bP ad.C_Going (ac 0) (ac 4) "todo")
  (bP ad.C_Going (ac 0) (ac 5) "left"))
def zD(ad:Ad)(EE:DX):ar:=
 (ah (bP ad.C_Going (ac 0) (ac 3) "unsettled")
  (yZ ad EE))
def ze(ad:Ad)(EE:DX):ar:=
 (ah (bP ad.C_Going (ac 0) (ac 2) "pieces")
  (zD ad EE))
def Ao(ad:Ad)(EE:DX):ar:=
 (ah (bP ad.C_Going (ac 0) (ac 1) "numbers")
  (ze ad EE))
def xR(ad:Ad):Sd:=aL ["self","numbers","pieces","unsettled","todo","left"] (Ao ad)
theorem u_q0{ad:Ad}{n:Nat}{c b f e a g:D}{M:Mem}{Q:DK}{E:DX}:xR ad [c,b,f,e,a,g] M Q E=Ao ad (av E) { nx:=λ_ M'=>drp Q .non M',rt:=drp Q } [al c,al b,al f,al e,al a,al g] M:=rfl
def rq(ad:Ad)(EE:DX):ar:=
 (au (ac 2)<|kR (aO ad.C_Going (ac 3) "numbers")<|ac 1)
def r8(ad:Ad)(EE:DX):ar:=
 (au (ac 2)<|kR (aO ad.C_Going (ac 3) "pieces")<|ac 1)
def nD(ad:Ad)(EE:DX):ar:=
 (ah (aU (i6<|ce tK<|aa (ac 1)<|aa (dC<|.ty "str") af) (rq ad EE)<|r8 ad EE)
  (aC<|ac 3))
def mV(ad:Ad)(EE:DX):ar:=
 (ah (aX<|wH (aO ad.C_Going (ac 3) "unsettled")<|ac 1)
  (nD ad EE))
def BJ(ad:Ad)(EE:DX):ar:=
 (ah (au (fS ad.C_Going (xR ad) EE 6<|aa (ce kz<|aa (aO ad.C_Going (ac 0) "numbers") af)<|aa (ce dP<|aa (aO ad.C_Going (ac 0) "pieces") af)<|aa (ce kz<|aa (aO ad.C_Going (ac 0) "unsettled") af)<|aa (aO ad.C_Going (ac 0) "todo")<|aa (aO ad.C_Going (ac 0) "left") af)<|ag 3)
  (mV ad EE))
def vX(ad:Ad):Sd:=aL ["self","thing","number","other"] (BJ ad)
theorem u_q3{ad:Ad}{n:Nat}{b a c:D}{M:Mem}{Q:DK}{E:DX}:vX ad [b,a,c] M Q E=BJ ad (av E) { nx:=λ_ M'=>drp Q .non M',rt:=drp Q } [al b,al a,al c,ee] M:=rfl
def A1(ad:Ad)(EE:DX):ar:=
 (ah (bP ad.C_Ends (ac 0) (ac 1) "limit")
  (bP ad.C_Ends (ac 0) (dC<|.int 0) "count"))
def Fl(ad:Ad):Sd:=aL ["self","limit"] (A1 ad)
theorem u_q4{ad:Ad}{n:Nat}{b a:D}{M:Mem}{Q:DK}{E:DX}:Fl ad [b,a] M Q E=A1 ad (av E) { nx:=λ_ M'=>drp Q .non M',rt:=drp Q } [al b,al a] M:=rfl
def mM(ad:Ad)(EE:DX):ar:=
 (aU (ao<|ai Cw (aO ad.C_Ends (ac 0) "count")<|aO ad.C_Ends (ac 0) "limit") (gH ad.C_TooMany EE) aP)
def wz(ad:Ad)(EE:DX):ar:=
 (ah (jx ad.C_Ends (ac 0) (dC<|.int 1) "count")
  (mM ad EE))
def vg(ad:Ad):Sd:=aL ["self"] (wz ad)
theorem Ij{ad:Ad}{n:Nat}{a:D}{M:Mem}{Q:DK}{E:DX}:vg ad [a] M Q E=wz ad (av E) { nx:=λ_ M'=>drp Q .non M',rt:=drp Q } [al a] M:=rfl
def mL(ad:Ad)(EE:DX):ar:=
 (au (aN<|aa (ac 2)<|aa (ac 1) af)<|ag 1)
def tH(ad:Ad)(EE:DX):ar:=
 (ah (cc (DZ<|aa (ac 0) af) (ag 2)<|mL ad EE)
  (aC<|ac 1))
def k9(ad:Ad):Sd:=aL ["rows","todo","row"] (tH ad)
theorem Iv{ad:Ad}{n:Nat}{b a:D}{M:Mem}{Q:DK}{E:DX}:k9 ad [b,a] M Q E=tH ad (av E) { nx:=λ_ M'=>drp Q .non M',rt:=drp Q } [al b,al a,ee] M:=rfl
def iu(ad:Ad)(EE:DX):ar:=
 (aC<|fS ad.C_Going (xR ad) EE 6<|aa (fM<|aa (ai aB (ac 1)<|dC<|.int 1)<|aa (ai aB (ac 2)<|dC<|.int 0) af)<|aa (ce dP<|aa (ai aB (ac 2)<|dC<|.int 1) af)<|aa (ac 3)<|aa (aw<|ak (k9 ad) EE 2<|aa (ai aB (ac 1)<|dC<|.int 3)<|aa (dC .non) af)<|aa (ai aB (ac 0)<|dC<|.int 3) af)
def iS(ad:Ad)(EE:DX):ar:=
 (ah (au (ce gK<|aa (aw<|bw (cC<|aw<|ak (pY ad) EE 1<|aa (ac 0) af) ["thing"] [] (ag 0) lY<|aN<|aa (ac 0)<|aa (dC<|.bl true) af) af)<|ag 3)
  (iu ad EE))
def nI(ad:Ad)(EE:DX):ar:=
 (ah (au (ai aB (ac 0)<|dC<|.int 1)<|ag 2)
  (iS ad EE))
def tw(ad:Ad)(EE:DX):ar:=
 (ah (au (ai aB (ac 0)<|dC<|.int 0)<|ag 1)
  (nI ad EE))
def sy(ad:Ad):Sd:=aL ["case","plan","sound","unsettled"] (tw ad)
theorem Iz{ad:Ad}{n:Nat}{a:D}{M:Mem}{Q:DK}{E:DX}:sy ad [a] M Q E=tw ad (av E) { nx:=λ_ M'=>drp Q .non M',rt:=drp Q } [al a,ee,ee,ee] M:=rfl
def mZ(ad:Ad)(EE:DX):ar:=
 (aC<|ai aB (aw<|ak (sw ad) EE 2<|aa (ac 0)<|aa (ac 3) af)<|dC<|.int 0)
def mj(ad:Ad)(EE:DX):ar:=
 (aC<|kH (ao<|ai zN (ac 4)<|aO ad.C_Going (ac 1) "unsettled") (ac 4)<|dC .non)
def jw(ad:Ad)(EE:DX):ar:=
 (ah (au (aw<|ak (jZ ad) EE 3<|aa (ac 0)<|aa (aO ad.C_Going (ac 1) "numbers")<|aa (ac 2) af)<|ag 4)
  (mj ad EE))
def iN(ad:Ad)(EE:DX):ar:=
 (ah (aU (i6<|ac 3) (mZ ad EE) aP)
  (jw ad EE))
def iL(ad:Ad)(EE:DX):ar:=
 (ah (kn (mU 3<|bw (cC<|aw<|ak (Br ad) EE 1<|aa (ac 2) af) ["name"] [1] (ag 0) (ao<|ai vt (ac 0)<|aO ad.C_Going (ac 1) "unsettled")<|ac 0) 3)
  (iN ad EE))
def ue(ad:Ad)(EE:DX):ar:=
 (ah (aU (FP<|i6<|aO ad.C_Going (ac 1) "unsettled") (aC<|dC .non) aP)
  (iL ad EE))
def tj(ad:Ad):Sd:=aL ["plan","going","row","found","piece"] (ue ad)
theorem GX{ad:Ad}{n:Nat}{b a c:D}{M:Mem}{Q:DK}{E:DX}:tj ad [b,a,c] M Q E=ue ad (av E) { nx:=λ_ M'=>drp Q .non M',rt:=drp Q } [al b,al a,al c,ee,ee] M:=rfl
def yq(ad:Ad)(EE:DX):ar:=
 (bP ad.C_Going (ac 1) (aw<|ak (k9 ad) EE 2<|aa (kH (ao<|ai cP (ai aB (aO ad.C_Going (ac 1) "numbers")<|ai aB (ac 2)<|dC<|.int 1)<|dC<|.int 0) (ai aB (ac 2)<|dC<|.int 3)<|ai aB (ac 2)<|dC<|.int 2)<|aa (aO ad.C_Going (ac 1) "todo") af) "todo")
def xt(ad:Ad)(EE:DX):ar:=
 (bP ad.C_Going (ac 1) (aw<|ak (k9 ad) EE 2<|aa (ai aB (ac 2)<|dC<|.int 2)<|aa (aN<|aa (ac 2)<|aa (aO ad.C_Going (ac 1) "todo") af) af) "todo")
def xz(ad:Ad)(EE:DX):ar:=
 (aU (ao<|ai x6 (ai aB (aO ad.C_Going (ac 1) "numbers")<|ai aB (ac 2)<|dC<|.int 1)<|dC<|.int 0) (xt ad EE) aP)
def qv(ad:Ad)(EE:DX):ar:=
 (aX<|xO (aO ad.C_Going (ac 1) "unsettled") (ai aB (ac 2)<|dC<|.int 1)<|dC .non)
def gJ(ad:Ad)(EE:DX):ar:=
 (ah (au (aw<|ak (kh ad) EE 4<|aa (ac 0)<|aa (aO ad.C_Going (ac 1) "numbers")<|aa (aO ad.C_Going (ac 1) "pieces")<|aa (ac 2) af)<|kR (aO ad.C_Going (ac 1) "numbers")<|ai aB (ac 2)<|dC<|.int 1)
    (qv ad EE))
def qX(ad:Ad)(EE:DX):ar:=
 (aU (ao<|ai cP (ai aB (ac 2)<|dC<|.int 0)<|dC<|.str "again") (xz ad EE)<|gJ ad EE)
def m3(ad:Ad)(EE:DX):ar:=
 (aU (ao<|ai cP (ai aB (ac 2)<|dC<|.int 0)<|dC<|.str "if") (yq ad EE)<|qX ad EE)
def qf(ad:Ad)(EE:DX):ar:=
 (ah (bP ad.C_Going (ac 1) (ai aB (aO ad.C_Going (ac 1) "todo")<|dC<|.int 1) "todo")
  (m3 ad EE))
def Ab(ad:Ad)(EE:DX):ar:=
 (ah (mB ad.C_Going (ac 1) (dC<|.int 1) "left")
  (qf ad EE))
def Cm(ad:Ad):Sd:=aL ["plan","going","row"] (Ab ad)
theorem u_q7{ad:Ad}{n:Nat}{b a c:D}{M:Mem}{Q:DK}{E:DX}:Cm ad [b,a,c] M Q E=Ab ad (av E) { nx:=λ_ M'=>drp Q .non M',rt:=drp Q } [al b,al a,al c] M:=rfl
def nR(ad:Ad)(EE:DX):ar:=
 (aX<|ak (Cm ad) EE 3<|aa (ac 0)<|aa (ac 1)<|aa (ac 2) af)
def iU(ad:Ad)(EE:DX):ar:=
 (ah (aU (ao<|ai eQ (ac 3)<|dC .non) (aC<|ac 3) aP)
   (nR ad EE))
def nk(ad:Ad)(EE:DX):ar:=
 (ah (au (aw<|ak (tj ad) EE 3<|aa (ac 0)<|aa (ac 1)<|aa (ac 2) af)<|ag 3)
   (iU ad EE))
def jc(ad:Ad)(EE:DX):ar:=
 (ah (au (ai aB (aO ad.C_Going (ac 1) "todo")<|dC<|.int 0)<|ag 2)
   (nk ad EE))
def eG(ad:Ad)(EE:DX):ar:=
 (ah (aU (ao<|ai Gh (aO ad.C_Going (ac 1) "left")<|dC<|.int 0) (aC<|dC .non) aP)
   (jc ad EE))
def nN(ad:Ad)(EE:DX):ar:=
 (aC<|kH (ao<|ai vt (ai aB (ac 0)<|dC<|.int 4)<|aO ad.C_Going (ac 1) "unsettled") (ai aB (ac 0)<|dC<|.int 4)<|dC .non)
def s_(ad:Ad)(EE:DX):ar:=
 (ah (dj (ao<|ai eQ (aO ad.C_Going (ac 1) "todo")<|dC .non)<|eG ad EE)
  (nN ad EE))
def uI(ad:Ad):Sd:=aL ["plan","going","row","asked"] (s_ ad)
theorem GT{ad:Ad}{n:Nat}{b a:D}{M:Mem}{Q:DK}{E:DX}:uI ad [b,a] M Q E=s_ ad (av E) { nx:=λ_ M'=>drp Q .non M',rt:=drp Q } [al b,al a,ee,ee] M:=rfl
def sk(ad:Ad)(EE:DX):ar:=
 (aC<|kH (ao<|ai kJ (aO ad.C_Going (ac 1) "todo")<|dC .non) (ai aB (aO ad.C_Going (ac 1) "numbers")<|ai aB (ac 0)<|dC<|.int 4)<|dC .non)
def tM(ad:Ad):Sd:=aL ["plan","going"] (sk ad)
theorem HE{ad:Ad}{n:Nat}{b a:D}{M:Mem}{Q:DK}{E:DX}:tM ad [b,a] M Q E=sk ad (av E) { nx:=λ_ M'=>drp Q .non M',rt:=drp Q } [al b,al a] M:=rfl
def rT(ad:Ad)(EE:DX):ar:=
 (aC<|bw (cC<|aw<|HS (ac 0) (lC<|dC<|.int 1)<|lC<|dC<|.int 3) ["stand"] [2,1,0] (ag 0) lY<|aw<|bO ad.C_Going "settled" (vX ad) uS 3 (ac 2)<|aa (ac 1)<|aa (aw<|ak (gZ ad) uS 3<|aa (ai aB (ac 3)<|dC<|.int 0)<|aa (ac 0)<|aa (ac 1) af) af)
def sQ(ad:Ad):Sd:=aL ["case","going","thing"] (rT ad)
theorem Iu{ad:Ad}{n:Nat}{b a c:D}{M:Mem}{Q:DK}{E:DX}:sQ ad [b,a,c] M Q E=rT ad (av E) { nx:=λ_ M'=>drp Q .non M',rt:=drp Q } [al b,al a,al c] M:=rfl
def m5(ad:Ad)(OJ:Sd)(EE:DX):ar:=
 (aC<|aN<|aa (dC<|.str "end")<|aa (ak (tM ad) EE 2<|aa (ai aB (ac 0)<|dC<|.int 0)<|aa (ac 1) af) af)
def jB(ad:Ad)(OJ:Sd)(EE:DX):ar:=
 (aC<|aN<|aa (dC<|.str "ask")<|aa (ac 3)<|aa (ak OJ EE 3<|aa (ac 0)<|aa (ai aB (ac 4)<|dC<|.int 0)<|aa (ac 2) af)<|aa (ak OJ EE 3<|aa (ac 0)<|aa (ai aB (ac 4)<|dC<|.int 1)<|aa (ac 2) af) af)
def jm(ad:Ad)(OJ:Sd)(EE:DX):ar:=
 (ah (au (aw<|ak (sQ ad) EE 3<|aa (ac 0)<|aa (ac 1)<|aa (ac 3) af)<|ag 4)
  (jB ad OJ EE))
def jk(ad:Ad)(OJ:Sd)(EE:DX):ar:=
 (ah (aX<|bO ad.C_Ends "one_more" (vg ad) EE 1 (ac 2) af)
  (jm ad OJ EE))
def iE(ad:Ad)(OJ:Sd)(EE:DX):ar:=
 (ah (aU (ao<|ai kJ (ac 3)<|dC .non) (m5 ad OJ EE) aP)
  (jk ad OJ EE))
def sF(ad:Ad)(OJ:Sd)(EE:DX):ar:=
 (ah (au (aw<|ak (uI ad) EE 2<|aa (ai aB (ac 0)<|dC<|.int 0)<|aa (ac 1) af)<|ag 3)
  (iE ad OJ EE))
def OJ(ad:Ad):Nat->Sd
 |0=>λ_ _ _ _=>False
 |n+1=>aL ["case","going","ends","asked","ways"] (sF ad<|OJ ad n)
theorem IH{ad:Ad}{n:Nat}{b a c:D}{M:Mem}{Q:DK}{E:DX}:OJ ad (n+1) [b,a,c] M Q E=sF ad (OJ ad n) (av E) { nx:=λ_ M'=>drp Q .non M',rt:=drp Q } [al b,al a,al c,ee,ee] M:=rfl
def nh(ad:Ad)(EE:DX):ar:=
 (aC<|ak (OJ ad 40) EE 3<|aa (ac 0)<|aa (aw<|ak (sy ad) EE 1<|aa (ac 0) af)<|aa (ac 2) af)
def iJ(ad:Ad)(EE:DX):ar:=
 (ah (aX<|bO ad.C_Ends "one_more" (vg ad) EE 1 (ac 2) af)
  (nh ad EE))
def m8(ad:Ad)(EE:DX):ar:=
 (ah (au (fS ad.C_Ends (Fl ad) EE 2<|aa (ac 1) af)<|ag 2)
  (iJ ad EE))
def uC(ad:Ad)(EE:DX):ar:=
 (ah (aX<|ak (lH ad) EE 1<|aa (ac 0) af)
  (m8 ad EE))
def pN(ad:Ad):Sd:=aL ["case","limit","ends"] (uC ad)
theorem Hu{ad:Ad}{n:Nat}{b a:D}{M:Mem}{Q:DK}{E:DX}:pN ad [b,a] M Q E=uC ad (av E) { nx:=λ_ M'=>drp Q .non M',rt:=drp Q } [al b,al a,ee] M:=rfl
def fO(ad:Ad)(EE:DX):ar:=
 (au (kH (ao<|ai vt (ai aB (ac 2)<|dC<|.int 1)<|ac 1) (ai aB (ac 2)<|dC<|.int 3)<|ai aB (ac 2)<|dC<|.int 2)<|ag 2)
def n0(ad:Ad)(EE:DX):ar:=
 (ah (dj (ao<|ai cP (ai aB (ac 2)<|dC<|.int 0)<|dC<|.str "ask")<|fO ad EE)
  (aC<|ai aB (ac 2)<|dC<|.int 1))
def uq(ad:Ad)(EE:DX):ar:=
 (ah (au (ac 0)<|ag 2)
  (n0 ad EE))
def tz(ad:Ad):Sd:=aL ["tree","mix","here"] (uq ad)
theorem GW{ad:Ad}{n:Nat}{b a:D}{M:Mem}{Q:DK}{E:DX}:tz ad [b,a] M Q E=uq ad (av E) { nx:=λ_ M'=>drp Q .non M',rt:=drp Q } [al b,al a,ee] M:=rfl
def mi(ad:Ad)(EE:DX):ar:=
 (xy (ac 5) (aw<|ak (t_ ad) EE 2<|aa (ac 2)<|aa (ai aB (ai aB (ac 7)<|dC<|.int 0)<|dC<|.int 1) af) (ai aB (ac 7)<|dC<|.int 1) t6)
def nw(ad:Ad)(EE:DX):ar:=
 (aX<|me "list" jn (ac 6)<|aa (aw<|br<|aa (aN<|aa (ai aB (ai aB (ac 7)<|dC<|.int 0)<|dC<|.int 2)<|aa (ai jI (ai aB (ac 7)<|dC<|.int 1)<|dC<|.int 2) af)<|aa (aN<|aa (ai aB (ai aB (ac 7)<|dC<|.int 0)<|dC<|.int 3)<|aa (ai jI (ai aB (ac 7)<|dC<|.int 1)<|dC<|.int 2) af) af) af)
def ja(ad:Ad)(EE:DX):ar:=
 (aU (ao<|ai cP (ai aB (ai aB (ac 7)<|dC<|.int 0)<|dC<|.int 0)<|dC<|.str "end") (mi ad EE)<|nw ad EE)
def et(ad:Ad)(EE:DX):ar:=
 (ah (au (me "list" BB (ac 6) af)<|ag 7)
   (ja ad EE))
def nW(ad:Ad)(EE:DX):ar:=
 (aC<|aN<|aa (ai aB (ac 5)<|dC<|.str "sound")<|aa (ai aB (ac 5)<|dC<|.str "faulty")<|aa (ai aB (ac 5)<|dC<|.str "other") af)
def iD(ad:Ad)(EE:DX):ar:=
 (ah (dj (i6<|ac 6)<|et ad EE)
  (nW ad EE))
def iW(ad:Ad)(EE:DX):ar:=
 (ah (au (br<|aa (aN<|aa (ak (pN ad) EE 2<|aa (ac 0)<|aa (ac 1) af)<|aa (ac 3) af) af)<|ag 6)
  (iD ad EE))
def i_(ad:Ad)(EE:DX):ar:=
 (ah (au (rX [("sound",(dC<|.int 0)),("faulty",(dC<|.int 0)),("other",(dC<|.int 0))])<|ag 5)
  (iW ad EE))
def j5(ad:Ad)(EE:DX):ar:=
 (ah (cc (cC<|aw<|ak (pY ad) EE 1<|aa (ac 0) af) (ag 4)<|au (ai cL (ac 3)<|dC<|.int 2)<|ag 3)
  (i_ ad EE))
def uV(ad:Ad)(EE:DX):ar:=
 (ah (au (aw<|ak (lH ad) EE 1<|aa (ac 0) af)<|ag 2)
  (ah (au (dC<|.int 1)<|ag 3)
  (j5 ad EE)))
def tU(ad:Ad):Sd:=aL ["case","limit","two","many","thing","told","waiting","here"] (uV ad)
theorem Hn{ad:Ad}{n:Nat}{b a:D}{M:Mem}{Q:DK}{E:DX}:tU ad [b,a] M Q E=uV ad (av E) { nx:=λ_ M'=>drp Q .non M',rt:=drp Q } [al b,al a,ee,ee,ee,ee,ee,ee] M:=rfl
def uL(ad:Ad)(EE:DX):ar:=
 (aC<|br<|aa (ce dP<|aa (aw<|HS (ac 0) jl<|lC<|dC<|.int 63) af)<|aa (dC<|.int 0)<|aa (dC<|.int 0) af)
def uA(ad:Ad):Sd:=aL ["_law_script"] (uL ad)
theorem GS{ad:Ad}{n:Nat}{a:D}{M:Mem}{Q:DK}{E:DX}:uA ad [a] M Q E=uL ad (av E) { nx:=λ_ M'=>drp Q .non M',rt:=drp Q } [al a] M:=rfl
def sW(ad:Ad)(EE:DX):ar:=
 (ah (au (ai jI (ai aB (ac 0)<|dC<|.int 2)<|ac 1)<|kR (ac 0)<|dC<|.int 2)
   (aC<|ac 2))
def uc(ad:Ad)(EE:DX):ar:=
 (ah (au (ai i8 (ai aB (ac 0)<|dC<|.int 2)<|ac 1)<|ag 2)
   (sW ad EE))
def ms(ad:Ad)(EE:DX):ar:=
 (au (ai aB (ai aB (ac 0)<|dC<|.int 0)<|ai i8 (ac 3)<|ce oB<|aa (ai aB (ac 0)<|dC<|.int 0) af)<|ag 4)
def f_(ad:Ad)(EE:DX):ar:=
 (ah (au (ai jI (ac 4)<|ac 1)<|kR (ac 0)<|dC<|.int 2)
   (aC<|ai i8 (ac 4)<|ac 1))
def uW(ad:Ad)(EE:DX):ar:=
 (aC<|ai i8 (ai jI (ac 5)<|dC<|.int 8)<|ac 1)
def uo(ad:Ad)(EE:DX):ar:=
 (ah (au (ai i8 (ai bz (ai bz (ai cL (ac 5)<|ac 5)<|ai cL (dC<|.int 48271)<|ac 3)<|ai i8 (ac 4)<|dC<|.int 65537)<|dC<|.int 2147483629)<|ag 5)
  (uW ad EE))
def de(ad:Ad)(EE:DX):ar:=
 (ah (au (ai i8 (ai cL (ai bz (ai i8 (ac 4)<|dC<|.int 1000003)<|dC<|.int 1)<|ai bz (ai bz (ai cL (ai cL (dC<|.int 7919)<|ac 3)<|ac 3)<|ai cL (dC<|.int 104729)<|ac 3)<|dC<|.int 12345)<|dC<|.int 2147483647)<|ag 5)
  (uo ad EE))
def fA(ad:Ad)(EE:DX):ar:=
 (ah (aU (Ie (ao<|ai HJ (ac 3)<|ce oB<|aa (ai aB (ac 0)<|dC<|.int 0) af)<|ao<|ai oGe (ac 4)<|ai IS (dC<|.int 10)<|dC<|.int 18) (f_ ad EE) aP)
  (de ad EE))
def fK(ad:Ad)(EE:DX):ar:=
 (ah (aU (ao<|ai Cw (ce oB<|aa (ai aB (ac 0)<|dC<|.int 0) af)<|dC<|.int 0) (ms ad EE) aP)
  (fA ad EE))
def jP(ad:Ad)(EE:DX):ar:=
 (ah (au (dC<|.int 0)<|ag 4)
  (fK ad EE))
def k6(ad:Ad)(EE:DX):ar:=
 (ah (au (ai bz (ac 3)<|dC<|.int 1)<|kR (ac 0)<|dC<|.int 1)
  (jP ad EE))
def dU(ad:Ad)(EE:DX):ar:=
 (ah (au (ai aB (ac 0)<|dC<|.int 1)<|ag 3)
  (k6 ad EE))
def tJ(ad:Ad)(EE:DX):ar:=
 (ah (aU (ao<|ai Cw (ai aB (ac 0)<|dC<|.int 2)<|dC<|.int 0) (uc ad EE) aP)
  (dU ad EE))
def cJ(ad:Ad):Sd:=aL ["_law_tape_here","_law_many","_law_digit","_law_at","_law_cell","_law_mixed"] (tJ ad)
theorem HN{ad:Ad}{n:Nat}{b a:D}{M:Mem}{Q:DK}{E:DX}:cJ ad [b,a] M Q E=tJ ad (av E) { nx:=λ_ M'=>drp Q .non M',rt:=drp Q } [al b,al a,ee,ee,ee,ee] M:=rfl
def iP(ad:Ad)(EE:DX):ar:=
 (aX<|me "list" j7 (ac 4)<|aa (aw<|ak (cJ ad) EE 2<|aa (ac 0)<|aa (ai bz (ac 5)<|dC<|.int 1) af)<|aa (ac 5) af)
def iA(ad:Ad)(EE:DX):ar:=
 (aX<|me "list" bM (ac 6)<|aa (ai aB (aw<|br<|aa (ai aB (ac 6)<|Bk<|dC<|.int 1)<|aa (ai nE (dC<|.int 1)<|ai aB (ac 6)<|Bk<|dC<|.int 1) af)<|ce oE<|aa (ai cP (aw<|ak (cJ ad) EE 2<|aa (ac 0)<|aa (ac 7) af)<|dC<|.int 0) af) af)
def iC(ad:Ad)(EE:DX):ar:=
 (aX<|me "list" bM (ac 8)<|aa (kH (ao<|ai cP (ac 9)<|dC<|.int 1) (aN<|aa (dC<|.str "if")<|aa (dC<|.str "s")<|aa (ac 11)<|aa (aN af) af)<|aN<|aa (dC<|.str "if")<|aa (dC<|.str "s")<|aa (aN af)<|aa (ac 11) af) af)
def jd(ad:Ad)(EE:DX):ar:=
 (ah (au (aN<|aa (aN<|aa (dC<|.str "take")<|aa (dC<|.str "s")<|aa (ac 10) af) af)<|ag 11)
   (iC ad EE))
def j6(ad:Ad)(EE:DX):ar:=
 (aC<|aN<|aa (aN<|aa (ac 13)<|aa (ac 14)<|aa (aN<|aa (ai aB (ac 14)<|dC<|.int 0)<|aa (ai cL (aN<|aa (dC<|.int 1) af)<|ac 2) af)<|aa (dC<|.int 60) af)<|aa (ac 6)<|aa (ac 4) af)
def ip(ad:Ad)(EE:DX):ar:=
 (ah (au (aN<|aa (aN<|aa (aw<|ak (cJ ad) EE 2<|aa (ac 0)<|aa (ac 12) af) af)<|aa (ai cL (aN<|aa (dC<|.int 0) af)<|ac 2) af)<|ag 14)
  (j6 ad EE))
def il(ad:Ad)(EE:DX):ar:=
 (ah (au (aN<|aa (ac 12)<|aa (aN<|aa (dC<|.str "s") af)<|aa (ac 2)<|aa (ce e_<|aa (ac 8) af)<|aa (dC<|.str "s") af)<|ag 13)
  (ip ad EE))
def iy(ad:Ad)(EE:DX):ar:=
 (ah (au (ai aB (aw<|br<|aa (dC<|.int 2)<|aa (dC<|.int 3)<|aa (dC<|.int 97)<|aa (dC<|.int 997) af)<|aw<|ak (cJ ad) EE 2<|aa (ac 0)<|aa (dC<|.int 4) af)<|ag 12)
  (il ad EE))
def jA(ad:Ad)(EE:DX):ar:=
 (ah (cc (vP<|aa (ac 6)<|aa (ac 4) af) (kM 2<|bN (ag 9)<|bN (ag 10) kT)<|jd ad EE)
  (iy ad EE))
def fN(ad:Ad)(EE:DX):ar:=
 (ah (au (br<|aa (aN<|aa (dC<|.str "put")<|aa (dC<|.str "s")<|aa (ac 3) af) af)<|ag 8)
  (jA ad EE))
def fz(ad:Ad)(EE:DX):ar:=
 (ah (cc (tL<|aa (dC<|.int 1)<|aa (ac 2) af) (ag 5)<|iA ad EE)
  (fN ad EE))
def fF(ad:Ad)(EE:DX):ar:=
 (ah (au (ai bz (dC<|.int 2)<|aw<|ak (cJ ad) EE 2<|aa (ac 0)<|aa (dC<|.int 8) af)<|ag 7)
  (fz ad EE))
def fG(ad:Ad)(EE:DX):ar:=
 (ah (au (br<|aa (ac 3) af)<|ag 6)
  (fF ad EE))
def fU(ad:Ad)(EE:DX):ar:=
 (ah (cc (lE<|aa (ac 2) af) (ag 5)<|iP ad EE)
  (fG ad EE))
def g9(ad:Ad)(EE:DX):ar:=
 (ah (au (aw<|ak (cJ ad) EE 2<|aa (ac 0)<|aa (dC<|.int 2) af)<|ag 3)
  (ah (au (br af)<|ag 4)
  (fU ad EE)))
def uw(ad:Ad)(EE:DX):ar:=
 (ah (au (ai bz (dC<|.int 1)<|aw<|ak (cJ ad) EE 2<|aa (ac 0)<|aa (ac 1) af)<|ag 2)
  (g9 ad EE))
def su(ad:Ad):Sd:=aL ["_law_tape_here","_law_most","_law_many","_law_first","_law_order","_law_k","_law_ways","_law_turn","_law_rows","_law_way","_law_piece","_law_take","_law_wheel","_law_plan_here","_law_zero"] (uw ad)
theorem Hc{ad:Ad}{n:Nat}{b a:D}{M:Mem}{Q:DK}{E:DX}:su ad [b,a] M Q E=uw ad (av E) { nx:=λ_ M'=>drp Q .non M',rt:=drp Q } [al b,al a,ee,ee,ee,ee,ee,ee,ee,ee,ee,ee,ee,ee,ee] M:=rfl
def mv(ad:Ad)(EE:DX):ar:=
 (aC<|ai aB (aw<|br<|aa (aw<|br af)<|aa (aw<|ce dP<|aa (ac 1) af) af)<|aw<|ak (cJ ad) EE 2<|aa (ac 0)<|aa (dC<|.int 2) af)
def n6(ad:Ad)(EE:DX):ar:=
 (aC<|bw (cC<|ac 1) ["_law_one"] [0] (ag 0) (ao<|ai cP (aw<|ak (cJ ad) uS 2<|aa (ac 1)<|aa (dC<|.int 2) af)<|dC<|.int 0)<|ac 0)
def qy(ad:Ad)(EE:DX):ar:=
 (ah (aU (ao<|ai cP (ac 2)<|dC<|.int 0) (mv ad EE) aP)
  (n6 ad EE))
def Bi(ad:Ad)(EE:DX):ar:=
 (ah (au (aw<|ak (cJ ad) EE 2<|aa (ac 0)<|aa (dC<|.int 6) af)<|ag 2)
  (qy ad EE))
def xm(ad:Ad):Sd:=aL ["_law_tape_here","_law_all","_law_way"] (Bi ad)
theorem u_q2{ad:Ad}{n:Nat}{b a:D}{M:Mem}{Q:DK}{E:DX}:xm ad [b,a] M Q E=Bi ad (av E) { nx:=λ_ M'=>drp Q .non M',rt:=drp Q } [al b,al a,ee] M:=rfl
def jU(ad:Ad)(EE:DX):ar:=
 (aC<|kH (ao<|ai cP (ac 0)<|dC<|.str "tree") (ak (pN ad) EE 2<|aa (ai aB (ac 1)<|dC<|.int 0)<|aa (ai aB (ac 1)<|dC<|.int 1) af)<|ak (tU ad) EE 2<|aa (ai aB (ac 1)<|dC<|.int 0)<|aa (ai aB (ac 1)<|dC<|.int 1) af)
def ou(ad:Ad):Sd:=aL ["_law_word","_law_call"] (jU ad)
theorem tB{ad:Ad}{n:Nat}{b a:D}{M:Mem}{Q:DK}{E:DX}:ou ad [b,a] M Q E=jU ad (av E) { nx:=λ_ M'=>drp Q .non M',rt:=drp Q } [al b,al a] M:=rfl
def jy(ad:Ad)(EE:DX):ar:=
 (aC<|kH (ao<|ai x6 (me "list" nF (ac 3)<|aa (dC<|.bl true) af)<|dC<|.int 1) (dC<|.str "unlike")<|ai aB (ac 5)<|me "list" nK (ac 3)<|aa (dC<|.bl true) af)
def nu(ad:Ad)(EE:DX):ar:=
 (ah (au (aw<|ai bz (ac 5)<|aw<|br<|aa (dC<|.str "norow")<|aa (dC<|.str "odd") af)<|ag 5)
  (jy ad EE))
def g7(ad:Ad)(EE:DX):ar:=
 (ah (au (aw<|br<|aa (dC<|.str "noplace")<|aa (dC<|.str "nocase")<|aa (dC<|.str "nomoment")<|aa (dC<|.str "toomany")<|aa (dC<|.str "dry")<|aa (dC<|.str "nobuild")<|aa (dC<|.str "toobig")<|aa (dC<|.str "notext")<|aa (dC<|.str "noline") af)<|ag 5)
  (nu ad EE))
def gb(ad:Ad)(EE:DX):ar:=
 (ah (aU (ao<|ai cP (ac 3)<|aw<|br af) (aC<|ac 2) aP)
  (g7 ad EE))
def iV(ad:Ad)(EE:DX):ar:=
 (ah (pq ad.C_TooMany (ou ad) 2 (aa (ac 0)<|aa (ac 1) af) 2 4 (λa=>(ah (au (br<|aa (gO a (.ref ad.C_NoPlace) eo<|aa (ac 4)<|aa (dC<|.ref ad.C_NoPlace) af)<|aa (gO a (.ref ad.C_NoCase) eo<|aa (ac 4)<|aa (dC<|.ref ad.C_NoCase) af)<|aa (gO a (.ref ad.C_NoMoment) eo<|aa (ac 4)<|aa (dC<|.ref ad.C_NoMoment) af)<|aa (gO a (.ref ad.C_TooMany) true<|aa (ac 4)<|aa (dC<|.ref ad.C_TooMany) af) af)<|ag 3)
   (ah (au (ai bz (ac 3)<|aw<|br<|aa (gO a (.ref ad.C_Dry) eo<|aa (ac 4)<|aa (dC<|.ref ad.C_Dry) af)<|aa (gO a (.ref ad.C_NoBuild) eo<|aa (ac 4)<|aa (dC<|.ref ad.C_NoBuild) af)<|aa (gO a (.ref ad.C_TooBig) eo<|aa (ac 4)<|aa (dC<|.ref ad.C_TooBig) af) af)<|ag 3)
   (ah (au (ai bz (ac 3)<|aw<|br<|aa (gO a (.ref ad.C_NoText) eo<|aa (ac 4)<|aa (dC<|.ref ad.C_NoText) af)<|aa (gO a (.ref ad.C_NoLine) eo<|aa (ac 4)<|aa (dC<|.ref ad.C_NoLine) af)<|aa (gO a (.ref ad.C_NoRow) eo<|aa (ac 4)<|aa (dC<|.ref ad.C_NoRow) af) af)<|ag 3)
   (aX<|me "list" bM (ac 3)<|aa (Ds<|gO a (.ty "ValueError") true<|aa (ac 4)<|aa (dC<|.ty "ValueError") af) af))))))
  (gb ad EE))
def pO(ad:Ad)(EE:DX):ar:=
 (ah (au (dC .non)<|ag 2)
  (ah (au (br af)<|ag 3)
  (iV ad EE)))
def fk(ad:Ad):Sd:=aL ["_law_word","_law_call","_law_told","_law_kinds","e","_law_names_here"] (pO ad)
theorem Dp{ad:Ad}{n:Nat}{b a:D}{M:Mem}{Q:DK}{E:DX}:fk ad [b,a] M Q E=pO ad (av E) { nx:=λ_ M'=>drp Q .non M',rt:=drp Q } [al b,al a,ee,ee,ee,ee] M:=rfl
def iB(ad:Ad)(EE:DX):ar:=
 (au (aw<|br<|aa (ai bz (ai aB (ac 2)<|dC<|.int 0)<|ai cL (ai aB (ac 2)<|dC<|.int 1)<|ac 3)<|aa (ai bz (ai aB (ac 2)<|dC<|.int 1)<|ai cL (ai aB (ac 2)<|dC<|.int 0)<|ai nE (dC<|.int 1)<|ac 3) af)<|ag 2)
def nq(ad:Ad)(EE:DX):ar:=
 (ah (au (aw<|br<|aa (ai bz (ai cL (ai aB (ac 1)<|dC<|.int 0)<|ai bz (dC<|.int 1)<|ac 3)<|ai cL (ai aB (ac 1)<|dC<|.int 1)<|ac 3)<|aa (ai bz (ai cL (ai aB (ac 1)<|dC<|.int 1)<|ai nE (dC<|.int 2)<|ac 3)<|ai cL (ai aB (ac 1)<|dC<|.int 0)<|ai nE (dC<|.int 1)<|ac 3) af)<|ag 1)
   (iB ad EE))
def iH(ad:Ad)(EE:DX):ar:=
 (aC<|aN<|aa (ac 1)<|aa (ce xJ<|aa (ac 2) af) af)
def j9(ad:Ad)(EE:DX):ar:=
 (ah (cc (cC<|ac 0) (ag 3)<|nq ad EE)
  (iH ad EE))
def jt(ad:Ad)(EE:DX):ar:=
 (ah (au (aw<|ce dP<|aa (ac 1) af)<|ag 2)
  (j9 ad EE))
def tZ(ad:Ad)(EE:DX):ar:=
 (ah (au (aw<|br<|aa (ai nE (dC<|.int 1)<|ai aB (ac 0)<|dC<|.int 0)<|aa (ai aB (ac 0)<|dC<|.int 0) af)<|ag 1)
  (jt ad EE))
def rY(ad:Ad):Sd:=aL ["_law_ways","_law_many","_law_ends","_law_way"] (tZ ad)
theorem Gz{ad:Ad}{n:Nat}{a:D}{M:Mem}{Q:DK}{E:DX}:rY ad [a] M Q E=tZ ad (av E) { nx:=λ_ M'=>drp Q .non M',rt:=drp Q } [al a,ee,ee,ee] M:=rfl
def jb(ad:Ad)(EE:DX):ar:=
 (au (ce oE<|aa (ai vt (ac 5)<|ac 2) af)<|ag 3)
def mW(ad:Ad)(EE:DX):ar:=
 (aU (ao<|ai cP (ac 3)<|ac 4) (jb ad EE) aP)
def iO(ad:Ad)(EE:DX):ar:=
 (ah (cc (vP<|aa (ac 0)<|aa (ac 1) af) (kM 2<|bN (ag 4)<|bN (ag 5) kT)<|mW ad EE)
  (aC<|ac 3))
def sG(ad:Ad)(EE:DX):ar:=
 (ah (au (ai aB (ac 0)<|dC<|.int 0)<|ag 3)
  (iO ad EE))
def sZ(ad:Ad):Sd:=aL ["_law_ways","_law_order","_law_mix","_law_number","_law_way","_law_piece"] (sG ad)
theorem Hy{ad:Ad}{n:Nat}{b a c:D}{M:Mem}{Q:DK}{E:DX}:sZ ad [b,a,c] M Q E=sG ad (av E) { nx:=λ_ M'=>drp Q .non M',rt:=drp Q } [al b,al a,al c,ee,ee,ee] M:=rfl
def eu(ad:Ad)(EE:DX):ar:=
 (aU (ao<|ai x6 (ce da<|aa (ac 9) af)<|ac 10) (aC<|dC<|.bl eo) aP)
def fZ(ad:Ad)(EE:DX):ar:=
 (ah (au (kH (ao<|ai Gh (ac 6)<|ac 8) (ce da<|aa (aN<|aa (ai aB (ac 5)<|dC<|.int 0)<|aa (ai aB (ac 5)<|dC<|.int 1)<|aa (dC<|.int 0) af) af)<|ce da<|aa (dC<|.str "toomany") af)<|ag 10)
   (eu ad EE))
def iY(ad:Ad)(EE:DX):ar:=
 (ah (au (aw<|ak (fk ad) EE 2<|aa (dC<|.str "counted")<|aa (aN<|aa (ac 2)<|aa (ac 8) af) af)<|ag 9)
   (fZ ad EE))
def jg(ad:Ad)(EE:DX):ar:=
 (aC<|ai cP (ce da<|aa (aw<|ak (fk ad) EE 2<|aa (dC<|.str "tree")<|aa (aN<|aa (ac 2)<|aa (dC<|.int 60) af) af) af)<|ce da<|aa (dC<|.str "toomany") af)
def iQ(ad:Ad)(EE:DX):ar:=
 (aU (ao<|ai x6 (aw<|ak (tz ad) EE 2<|aa (ac 11)<|aa (ac 13) af)<|aw<|ak (sZ ad) EE 3<|aa (ac 3)<|aa (ac 4)<|aa (ac 13) af) (aC<|dC<|.bl eo) aP)
def l_(ad:Ad)(EE:DX):ar:=
 (ah (au (aw<|ak (xm ad) EE 2<|aa (ac 1)<|aa (aw<|fB<|aa (ce oB<|aa (ac 4) af) af) af)<|ag 13)
   (iQ ad EE))
def io(ad:Ad)(EE:DX):ar:=
 (ah (cc (lE<|aa (dC<|.int 10) af) (ag 12)<|l_ ad EE)
  (aC<|dC<|.bl true))
def ix(ad:Ad)(EE:DX):ar:=
 (ah (au (aw<|ak (fk ad) EE 2<|aa (dC<|.str "tree")<|aa (aN<|aa (ac 2)<|aa (dC<|.int 60) af) af)<|ag 11)
  (io ad EE))
def fY(ad:Ad)(EE:DX):ar:=
 (ah (aU (ao<|ai Cw (ac 6)<|dC<|.int 60) (jg ad EE) aP)
  (ix ad EE))
def fQ(ad:Ad)(EE:DX):ar:=
 (ah (cc (cC<|ac 7) (ag 8)<|iY ad EE)
  (fY ad EE))
def fL(ad:Ad)(EE:DX):ar:=
 (ah (au (ai bz (aw<|br<|aa (dC<|.int 60) af)<|aw<|ai uH (br<|aa (ac 6)<|aa (ai nE (ac 6)<|dC<|.int 1) af)<|ce oE<|aa (ai HJ (ac 6)<|dC<|.int 50) af)<|ag 7)
  (fQ ad EE))
def fJ(ad:Ad)(EE:DX):ar:=
 (ah (aU (ao<|ai x6 (aw<|ak (lH ad) EE 1<|aa (ac 2) af)<|aN<|aa (dC<|.int 0)<|aa (dC<|.int 1) af) (aC<|dC<|.bl eo) aP)
  (fL ad EE))
def dX(ad:Ad)(EE:DX):ar:=
 (ah (au (lM<|ak (rY ad) EE 1<|aa (ac 3) af)<|kM 2<|bN (ag 5)<|bN (ag 6) kT)
  (fJ ad EE))
def fu(ad:Ad)(EE:DX):ar:=
 (ah (au (lM<|ak (su ad) EE 2<|aa (ac 1)<|aa (dC<|.int 28) af)<|kM 3<|bN (ag 2)<|bN (ag 3)<|bN (ag 4) kT)
  (dX ad EE))
def uk(ad:Ad)(EE:DX):ar:=
 (ah (au (ak (uA ad) EE 1<|aa (ac 0) af)<|ag 1)
  (fu ad EE))
def yk(ad:Ad):Sd:=aL ["_law_script","_law_tape_here","_law_case_here","_law_ways","_law_order","_law_many","_law_ends","_law_limits","_law_limit","_law_found","_law_due","_law_told","_law_k","_law_mix"] (uk ad)
theorem IM{ad:Ad}{n:Nat}{a:D}{M:Mem}{Q:DK}{E:DX}:yk ad [a] M Q E=uk ad (av E) { nx:=λ_ M'=>drp Q .non M',rt:=drp Q } [al a,ee,ee,ee,ee,ee,ee,ee,ee,ee,ee,ee,ee,ee] M:=rfl
set_option genInjectivity false in
structure En(P:fy)(w:h7)(K:Jd)(mg:RV)(base:i5)(ad:Ad):Prop where
 u0:Cls K ad.C_Ends
 u1:mg "Ends"=al (.ref ad.C_Ends)
 u2:Cls K ad.C_Going
 u3:mg "Going"=al (.ref ad.C_Going)
 u4:Cls K ad.C_Walk
 u5:mg "Walk"=al (.ref ad.C_Walk)
 u6:NoAttr K ad.C_Ends "count"
 u7:NoAttr K ad.C_Ends "limit"
 u8:NoAttr K ad.C_Going "left"
 u9:NoAttr K ad.C_Going "numbers"
 u10:NoAttr K ad.C_Going "pieces"
 u11:NoAttr K ad.C_Going "todo"
 u12:NoAttr K ad.C_Going "unsettled"
 u13:NoAttr K ad.C_Walk "most"
 u14:NoAttr K ad.C_Walk "numbers"
 u15:NoAttr K ad.C_Walk "pieces"
 u16:NoAttr K ad.C_Walk "plan"
 u17:NoAttr K ad.C_Walk "steps"
 u18:ExcAt K ad.C_Dry
 u19:mg "Dry"=al (.ref ad.C_Dry)
 u20:mg "NoBuild"=al (.ref ad.C_NoBuild)
 u21:ExcAt K ad.C_NoCase
 u22:mg "NoCase"=al (.ref ad.C_NoCase)
 u23:mg "NoLine"=al (.ref ad.C_NoLine)
 u24:mg "NoMoment"=al (.ref ad.C_NoMoment)
 u25:mg "NoPlace"=al (.ref ad.C_NoPlace)
 u26:mg "NoRow"=al (.ref ad.C_NoRow)
 u27:mg "NoText"=al (.ref ad.C_NoText)
 u28:mg "StrideError"=al (.ref ad.C_StrideError)
 u29:mg "TooBig"=al (.ref ad.C_TooBig)
 u30:ExcAt K ad.C_TooMany
 u31:mg "TooMany"=al (.ref ad.C_TooMany)
 u32:LX.XC K ad.C_TooMany
 u33:XS K ad.C_TooMany ad.C_StrideError
 u34:ff K ad.C_TooMany (.ref ad.C_Dry) eo
 u35:ff K ad.C_TooMany (.ref ad.C_NoBuild) eo
 u36:ff K ad.C_TooMany (.ref ad.C_NoCase) eo
 u37:ff K ad.C_TooMany (.ref ad.C_NoLine) eo
 u38:ff K ad.C_TooMany (.ref ad.C_NoMoment) eo
 u39:ff K ad.C_TooMany (.ref ad.C_NoPlace) eo
 u40:ff K ad.C_TooMany (.ref ad.C_NoRow) eo
 u41:ff K ad.C_TooMany (.ref ad.C_NoText) eo
 u42:ff K ad.C_TooMany (.ref ad.C_TooBig) eo
 u43:ff K ad.C_TooMany (.ref ad.C_TooMany) true
 u44:ff K ad.C_TooMany (.ty "ValueError") true
 u45:mg "ValueError"=ee
 u46:mg "dict"=ee
 u47:mg "enumerate"=ee
 u48:mg "int"=ee
 u49:mg "isinstance"=ee
 u50:mg "len"=ee
 u51:mg "list"=ee
 u52:mg "range"=ee
 u53:mg "repr"=ee
 u54:mg "reversed"=ee
 u55:mg "str"=ee
 u56:mg "sum"=ee
 u57:mg "tuple"=ee
 u58:mg "zip"=ee
 f1:GI K ad.C_Walk "__init__" "Walk.__init__" GH ad.a1 ad.d1 ["self","plan","stand","most"]
 f2:GM K ad.C_Walk "note_step" "Walk.note_step" HI ad.a2 ad.d2 ["self","place","number"]
 f3:GM K ad.C_Walk "look" "Walk.look" Cr ad.a3 ad.d3 ["self","place","name"]
 f4:GF K mg "run" CV ad.a4 ad.d4 ["plan","stand","most"]
 f5:GF K mg "mark" D7 ad.a5 ad.d5 ["plan","stand","most"]
 f6:GF K mg "do_rows" Cs ad.a6 ad.d6 ["walk","rows","place"]
 f7:GA K mg "do_row_runs" "do_row" GE ad.a7 ad.d7 ["walk","row","place"]
 f8:GF K mg "do_if" CM ad.a8 ad.d8 ["walk","row","place"]
 f9:GF K mg "do_again" CQ ad.a9 ad.d9 ["walk","row","place"]
 f10:GF K mg "number_of" CN ad.a10 ad.d10 ["plan","numbers","pieces","row"]
 f11:GF K mg "piece_read" D1 ad.a11 ad.d11 ["plan","numbers","row"]
 f12:GF K mg "joined" Dg ad.a12 ad.d12 ["word","y","z","wheel"]
 f13:GF K mg "all_things" CD ad.a13 ad.d13 ["plan"]
 f14:GF K mg "in_order" CT ad.a14 ad.d14 ["plan","things"]
 f15:GF K mg "number_in" Db ad.a15 ad.d15 ["plan","stand","thing"]
 f16:GF K mg "names_read" IQ ad.a16 ad.d16 ["row"]
 f17:GF K mg "unlike" D5 ad.a17 ad.d17 ["plan","one","other"]
 f18:GF K mg "marks" Cu ad.a18 ad.d18 ["case"]
 f19:GF K mg "unlike_of" Dd ad.a19 ad.d19 ["case"]
 f20:GF K mg "verdict_of" Dy ad.a20 ad.d20 ["two","one"]
 f21:GI K ad.C_Going "__init__" "Going.__init__" HL ad.a21 ad.d21 ["self","numbers","pieces","unsettled","todo","left"]
 f22:GM K ad.C_Going "settled" "Going.settled" Hk ad.a22 ad.d22 ["self","thing","number"]
 f23:GI K ad.C_Ends "__init__" "Ends.__init__" Io ad.a23 ad.d23 ["self","limit"]
 f24:GM K ad.C_Ends "one_more" "Ends.one_more" Ic ad.a24 ad.d24 ["self"]
 f25:GF K mg "start" D8 ad.a25 ad.d25 ["case"]
 f26:GF K mg "put_ahead" Di ad.a26 ad.d26 ["rows","todo"]
 f27:GF K mg "go_on" Dk ad.a27 ad.d27 ["plan","going"]
 f28:GF K mg "asked_by" Dc ad.a28 ad.d28 ["plan","going","row"]
 f29:GA K mg "do_row_trees" "do_row" IB ad.a29 ad.d29 ["plan","going","row"]
 f30:GF K mg "mark_of" C_ ad.a30 ad.d30 ["plan","going"]
 f31:GF K mg "both_ways" CO ad.a31 ad.d31 ["case","going","thing"]
 f32:GV K mg "tree" Dq ad.a32 ad.d32 ["case","limit"] (500)
 f33:GF K mg "grown" CH ad.a33 ad.d33 ["case","going","ends"]
 f34:GF K mg "mark_by" Dv ad.a34 ad.d34 ["tree","mix"]
 f35:GV K mg "counted" Do ad.a35 ad.d35 ["case","limit"] (500)
 f36:GF K mg "_law_tape" D9 ad.a36 ad.d36 ["_law_script"]
 f37:GF K mg "_law_draw" Du ad.a37 ad.d37 ["_law_tape_here","_law_many"]
 f38:GF K mg "_law_line" CI ad.a38 ad.d38 ["_law_tape_here","_law_most"]
 f39:GF K mg "_law_some_mix" Go ad.a39 ad.d39 ["_law_tape_here","_law_all"]
 f40:GF K mg "_law_did" Dx ad.a40 ad.d40 ["_law_word","_law_call"]
 f41:GF K mg "_law_asked" CB ad.a41 ad.d41 ["_law_word","_law_call"]
 f42:GF K mg "_law_sums" Ct ad.a42 ad.d42 ["_law_ways"]
 f43:GF K mg "_law_along" Dj ad.a43 ad.d43 ["_law_ways","_law_order","_law_mix"]
 f44:GF K mg "law" gX ad.a44 ad.d44 ["_law_script"]
section
section
variable {X:Cx}{B:Bd}{a b c o e:fx}{es:RQ}{ta tb tc to:aV}{t:cB}{i:Nat}{x:Str}{pos p RJ RI:Pos}(hU:X.A.units+64<rz)(hu:X.A.units+1<rz)(hg:X.A.guards=al [])(hc:X.calm=true)(ha:DE X B a ta)(hb:DE X B b tb)(hd:DE X B c tc){ea tA:eg}{dc:D}{bb:Bool}
def v0:=kC (pos:=pos) C8 ha hb
def v1:=kC (pos:=pos) Co ha hb
def v2:=kC (pos:=pos) B_ ha hb
def v3:=kC (pos:=pos) wA ha hb
def v4:=kC (pos:=pos) As ha hb
def v5:=kC (pos:=pos) AL ha hb
def v6:=kC (pos:=pos) AH ha hb
def v7:=qT (pos:=pos) (yC hU) ha hb
def v8:=qT (pos:=pos) (qG hU) ha hb
def v9:=qT (pos:=pos) yQ ha hb
def v10:=eA (X:=X) (B:=B) (p:=p) (pos:=pos) (e:=e) (es:=es) (t:=t) vF BZ
def v11:=cq (X:=X) (B:=B) (p:=p) (pos:=pos) (e:=e) (es:=es) (t:=t) oW vO
def v12:=cq (X:=X) (B:=B) (p:=p) (pos:=pos) (e:=e) (es:=es) (t:=t) qI oN
def v13:=cq (X:=X) (B:=B) (p:=p) (pos:=pos) (e:=e) (es:=es) (t:=t) (p0 hc) n_
def v14:=eA (X:=X) (B:=B) (p:=p) (pos:=pos) (e:=e) (es:=es) (t:=t) mz dO
def v15:=cq (X:=X) (B:=B) (p:=p) (pos:=pos) (e:=e) (es:=es) (t:=t) pW n_
def v16:=cq (X:=X) (B:=B) (p:=p) (pos:=pos) (e:=e) (es:=es) (t:=t) vJ AO
def v17:=eA (X:=X) (B:=B) (p:=p) (pos:=pos) (e:=e) (es:=es) (t:=t) (vb hc) Ch
def v18:=eA (X:=X) (B:=B) (p:=p) (pos:=pos) (e:=e) (es:=es) (t:=t) (rl hg hU) yN
def v19:=zR (X:=X) (B:=B) (pos:=pos) AG
def v20:=zR (X:=X) (B:=B) (pos:=pos) jG
def v21:=ko (X:=X) (B:=B) (RJ:=RJ) (RI:=RI) (o:=o) (e:=e) (es:=es) (t:=t) (to:=to) J8 Ms PySem.F.type_list_append rF
def v22:=Cg (X:=X) (B:=B) (RJ:=RJ) (RI:=RI) (o:=o) (to:=to) J8 MP PySem.F.type_list_pop Bn
def v23:=ko (X:=X) (B:=B) (RJ:=RJ) (RI:=RI) (o:=o) (e:=e) (es:=es) (t:=t) (to:=to) J8 NZ PySem.F.type_list_extend qA
def v24:=ko (X:=X) (B:=B) (RJ:=RJ) (RI:=RI) (o:=o) (e:=e) (es:=es) (t:=t) (to:=to) J8 Ng PySem.F.type_list_insert rm
def v25:=ko (X:=X) (B:=B) (RJ:=RJ) (RI:=RI) (o:=o) (e:=e) (es:=es) (t:=t) (to:=to) J8 Nk PySem.F.type_list_count vn
def v26:=ko (X:=X) (B:=B) (RJ:=RJ) (RI:=RI) (o:=o) (e:=e) (es:=es) (t:=t) (to:=to) J8 Nj PySem.F.type_list_index wa
def v27:=Ea (X:=X) (B:=B) (RJ:=RJ) (RI:=RI) (o:=o) (e:=e) (es:=es) (to:=to) (t:=t) Nd PySem.F.type_tuple_index qW
def v28:=BN (X:=X) (B:=B) (p:=p) (pos:=pos) (e:=e) (es:=es) (t:=t) (ea:=ea) (c:=dc) (b:=bb) dO
def v29:=AF (X:=X) (B:=B) (x:=x) (pos:=pos) (e:=e) (i:=i) (te:=ta) (pos':=p) tq
def v30:=BM (X:=X) (B:=B) (pos:=pos) (tpos:=p) (o:=a) (i:=b) (e:=c) (to:=ta) (ti:=tb) (te:=tc) hu ha hb hd tq
def v31:=cU (pos:=pos) Ga ha hb
def v32:=cU (pos:=pos) (yC hU) ha hb
def v33:=cU (pos:=pos) yQ ha hb
def v34:=cU (pos:=pos) yi ha hb
def v35:=cU (pos:=pos) At ha hb
def v36:=cU (pos:=pos) (qG hU) ha hb
def v37:=cU (pos:=pos) (E3 hU) ha hb
def v38:=cU (pos:=pos) F7 ha hb
def v39:=cU (pos:=pos) (AT hU) ha hb
def v40:=cU (pos:=pos) F5 ha hb
end
local macro_rules | `(tactic| exists 2) => `(tactic| first
 |refine v0 ?_ ?_
 |refine v1 ?_ ?_
 |refine v2 ?_ ?_
 |refine v3 ?_ ?_
 |refine v4 ?_ ?_
 |refine v5 ?_ ?_
 |refine v6 ?_ ?_
 |refine v7 ?_ ?_ ?_ ?_
 |refine v8 ?_ ?_ ?_ ?_
 |refine v9 ?_ ?_ ?_)
local macro_rules | `(tactic| exists 3) => `(tactic| first
 |refine v10 ?_ ?_ ?_ ?_ ?_ ?_ ?_
 |refine v11 ?_ ?_ ?_ ?_ ?_ ?_ ?_
 |refine v12 ?_ ?_ ?_ ?_ ?_ ?_ ?_
 |refine v13 ?_ ?_ ?_ ?_ ?_ ?_ ?_ ?_
 |refine v14 ?_ ?_ ?_ ?_ ?_ ?_ ?_
 |refine v15 ?_ ?_ ?_ ?_ ?_ ?_ ?_
 |refine v16 ?_ ?_ ?_ ?_ ?_ ?_ ?_
 |refine v17 ?_ ?_ ?_ ?_ ?_ ?_ ?_ ?_
 |refine v18 ?_ ?_ ?_ ?_ ?_ ?_ ?_ ?_ ?_)
local macro_rules | `(tactic| exists 5) => `(tactic| first
 |refine v21 ?_ ?_ ?_ ?_ ?_ ?_ ?_ ?_
 |refine v22 ?_ ?_ ?_ ?_
 |refine v23 ?_ ?_ ?_ ?_ ?_ ?_ ?_ ?_
 |refine v24 ?_ ?_ ?_ ?_ ?_ ?_ ?_ ?_
 |refine v25 ?_ ?_ ?_ ?_ ?_ ?_ ?_ ?_
 |refine v26 ?_ ?_ ?_ ?_ ?_ ?_ ?_ ?_)
local macro_rules | `(tactic| exists 8) => `(tactic| first
 |refine v31 ?_ ?_ ?_
 |refine v32 ?_ ?_ ?_ ?_
 |refine v33 ?_ ?_ ?_
 |refine v34 ?_ ?_ ?_
 |refine v35 ?_ ?_ ?_
 |refine v36 ?_ ?_ ?_ ?_
 |refine v37 ?_ ?_ ?_ ?_
 |refine v38 ?_ ?_ ?_
 |refine v39 ?_ ?_ ?_ ?_
 |refine v40 ?_ ?_ ?_)
local macro_rules | `(tactic| exists 1) => `(tactic| first
 |refine dnm _ ?_ ?_ ?_ ?_
 |exact EZ
 |refine Fw ?_
 |refine HG (E1 ?_) ?_ ?_ ?_
 |exact DB
 |refine zT ?_ ?_ ?_ ?_ ?_ ?_
 |(show DE _ _ _ (ai _ _ _);exists 2)
 |(show DE _ _ _ (ce _ _);exists 3)
 |refine Fu ?_
 |refine Ef ?_
 |refine FM ?_ ?_ ?_ ?_
 |refine wX ?_ ?_ ?_
 |exact Hj
 |exact Fm
 |refine v19 ?_ ?_ ?_ ?_
 |refine v20 ?_ ?_ ?_ ?_
 |(show DE _ _ _ (me _ _ _ _);exists 5)
 |refine v27 ?_ ?_ ?_ ?_ ?_ ?_ ?_
 |refine BI ?_ ?_ ?_
 |refine v28 ?_ ?_ ?_ ?_ ?_ ?_ ?_ ?_
 |refine yF ?_ ?_ ?_
 |refine DC ?_
 |refine Ez ?_
 |refine BA ?_
 |refine rM ?_ ?_ ?_ ?_ ?_ ?_ ?_ ?_ ?_
 |refine rA ?_ ?_ ?_ ?_ ?_ ?_ ?_ ?_
 |refine yP ?_ ?_ ?_ ?_ ?_
 |apply y6
 |refine BG ?_ ?_ ?_
 |refine Bc ?_ ?_ ?_ ?_
 |apply wT
 |apply vC
 |apply xH)
local macro_rules | `(tactic| exists 7) => `(tactic| first
 |(show DT _ _ _ (ao _);exists 8)
 |refine F_ ?_
 |refine E6 ?_ ?_
 |refine IZ ?_)
local macro_rules | `(tactic| exists 6) => `(tactic| first
 |refine GK ?_ ?_ ?_
 |refine EL ?_ ?_ ?_ ?_ ?_ ?_
 |refine FY ?_ ?_ ?_ ?_ ?_
 |refine FK ?_
 |refine A_ ?_ ?_
 |refine FS ?_ ?_ ?_ ?_ ?_
 |refine vU ?_ ?_ ?_ ?_
 |refine vw ?_ ?_ ?_ ?_
 |refine Ei ?_ ?_ ?_ ?_ ?_ ?_
 |refine zI ?_ ?_ ?_
 |refine xE ?_ ?_ ?_ ?_ ?_ ?_
 |refine Ey ?_ ?_
 |refine v29 ?_ ?_ ?_ ?_ ?_
 |refine v30 ?_ ?_ ?_ ?_ ?_
 |apply zw
 |apply Ak
 |apply yf)
local macro_rules | `(tactic| exists 9) => `(tactic| first
 |refine cW ?_ ?_
 |refine el ?_
 |exact BS
 |refine AE ?_
 |refine G0 ?_
 |refine FW ?_ ?_
 |refine Gq ?_ ?_
 |exact B5
 |refine Bm ?_
 |refine BV ?_ ?_ ?_ ?_
 |refine ET ?_ ?_ ?_ ?_
 |refine EJ ?_ ?_ ?_ ?_
 |refine yL ?_ ?_ ?_
 |exact BO
 |refine Cd ?_ ?_ ?_ ?_
 |refine vR ?_ ?_ ?_ ?_
 |refine vN ?_ ?_ ?_ ?_ ?_
 |refine F8 ?_ ?_ ?_ ?_ ?_
 |refine EO ?_ ?_ ?_ ?_
 |refine G6 ?_
 |apply FC.nil
 |apply FC.cons
 |exact AY
 |refine Ai ?_
 |refine wY ?_ ?_
 |exact AX)
local macro_rules | `(tactic| exists 0) => `(tactic| first
 |exact Or.inl rfl
 |exact⟨_,_,_,_,_,_,_,by first|exact .g (by assumption)|exact .a (by assumption)|exact .v (by assumption),by assumption,Room.mono (by assumption) (by first|decide|lia),CZ,by assumption⟩
 |exact⟨_,_,_,_,_,_,_,by first|exact .g (by assumption)|exact .a (by assumption)|exact .v (by assumption),by assumption,Room.mono (by assumption) (by first|decide|lia),wS,uxN⟩
 |assumption
 |exact Room.mono (by assumption) (by first|decide|lia)
 |with_reducible exact CZ
 |with_reducible exact wS
 |with_reducible exact uxN
 |exact⟨by assumption,by assumption,by assumption⟩
 |exact FnScope.nd (by assumption)
 |(apply nomark;decide)
 |(apply nodC;decide)
 |exact PassesOwn.leaving
 |exact λ_ _=>rfl
 |exact Or.inr (Or.inl rfl)
 |exact Or.inr rfl
 |exact Or.inr (Or.inr rfl)
 |rfl
 |exact λ_=>rfl
 |decide
 |exact λ_ _ _=>rfl
 |exact⟨rfl,rfl,rfl,rfl⟩
 |with_reducible intro _)
local macro_rules | `(tactic| trivial) => `(tactic| first
 |eq_refl
 |(with_reducible first
 |(show DE _ _ _ _;exists 1)
 |refine da_c ?_ ?_ ?_
 |exact FZ
 |(show DT _ _ _ _;exists 7)
 |(show DS _ _ _ _;exists 6)
 |exists 9)
 |exists 0)
set_option hygiene false in
local macro_rules | `(tactic| exists $t:ident, $g) => `(tactic| exact fnS rfl ($g).F ($g).b ⟨rfl, rfl, rfl, by decide +kernel, rfl, by decide +kernel, by decide +kernel⟩ fun hS _ A _ s _ _ _ _ hr ux => (by have hU := hr.units; have hu := pi hr; have hg := hr.gd; have E2 := E; cases E2; unfold $t:ident; (first | refine cW ?_ ?_ | refine el ?_); repeat' trivial))
set_option hygiene false in
local macro_rules | `(tactic| exists $t:ident, $g, $[$ps:ident],*) => `(tactic| exact fnS rfl ($g).F ($g).b ⟨rfl, rfl, rfl, by decide +kernel, rfl, by decide +kernel, by decide +kernel⟩ fun hS _ A _ s _ _ _ _ hr ux => (by have hU := hr.units; have hu := pi hr; have hg := hr.gd; have E2 := E; cases E2; unfold $t:ident $[$ps:ident]*; (first | refine cW ?_ ?_ | refine el ?_); repeat' trivial))
set_option hygiene false in
local macro_rules | `(tactic| exists ($k), $t:ident, $g, $[$ps:ident],*) => `(tactic| exact fnS (k := $k) rfl ($g).F ($g).b ⟨rfl, rfl, rfl, by decide +kernel, rfl, by decide +kernel, by decide +kernel⟩ fun hS _ A _ s _ _ _ _ hr ux => (by have hU := hr.units; have hu := pi hr; have hg := hr.gd; have E2 := E; cases E2; unfold $t:ident $[$ps:ident]*; (first | refine cW ?_ ?_ | refine el ?_); repeat' trivial))
variable {P:fy}{w:h7}{K:Jd}{mg:RV}{base:i5}{ad:Ad}(E:En P w K mg base ad)
include E
theorem H_:cO P w mg base E.f1.F E.f1.b 1 (BY ad):=by
 exists B6,E.f1,xp,xn,yn
theorem CJ:cO P w mg base E.f2.F E.f2.b 1 (rH ad):=by
 exists AN,E.f2,zP
theorem Fo:cO P w mg base E.f3.F E.f3.b 2 (lV ad):=by
 have:=CJ E
 exists tN,E.f3,sh
theorem Em:cO P w mg base E.f12.F E.f12.b 1 (uQ ad):=by
 exists uT,E.f12,sO,uv,sU,uN,tW
theorem wC:cO P w mg base E.f11.F E.f11.b 1 (jZ ad):=by
 exists g8,E.f11,sg,rZ
theorem zQ:cO P w mg base E.f10.F E.f10.b 2 (kh ad):=by
 have:=Em E;have:=wC E
 exists dS,E.f10,ui,sv,tG
theorem pU:∀n:Nat,cO P w mg base E.f6.F E.f6.b (2+n) (OF ad n)/\cO P w mg base E.f7.F E.f7.b (2+n) (OI ad n)/\cO P w mg base E.f8.F E.f8.b (2+n) (OG ad n)/\cO P w mg base E.f9.F E.f9.b (2+n) (OH ad n):=by
 have:=Fo E;have:=CJ E;have:=zQ E;intro n
 induction n with
 |zero=>exact⟨jS,jS,jS,jS⟩
 |succ n ih=>
  obtain⟨_,_,_,_⟩:=ih;refine⟨?_,?_,?_,?_⟩
  .exists (2+n),tR,E.f6,ug
  .exists (2+n),nJ,E.f7,wx,zc,yl,zJ,zK,yB
  .exists (2+n),tV,E.f8,sS
  .exists (2+n),sX,E.f9,sM,sJ
theorem Ed:cO P w mg base E.f4.F E.f4.b 27 (pQ ad):=by
 have:=H_ E;obtain⟨_,_,_,_⟩:=pU E 24
 exists tE,E.f4,sC,sK
theorem Eb:cO P w mg base E.f5.F E.f5.b 28 (lr ad):=by
 have:=Ed E
 exists tm,E.f5,tF,si
theorem xb:cO P w mg base E.f13.F E.f13.b 1 (om ad):=by
 exists sx,E.f13
theorem FN:cO P w mg base E.f14.F E.f14.b 2 (sw ad):=by
 have:=xb E
 exists ub,E.f14,iR
theorem xN:cO P w mg base E.f15.F E.f15.b 1 (gZ ad):=by
 exists oj,E.f15,sI
theorem GD:cO P w mg base E.f16.F E.f16.b 1 (Br ad):=by
 exists mS,E.f16,yv,zn
theorem F6:cO P w mg base E.f17.F E.f17.b 2 (ut ad):=by
 have:=xb E;have:=xN E
 exists uK,E.f17
theorem ql:cO P w mg base E.f18.F E.f18.b 29 (lH ad):=by
 have:=Eb E
 exists ua,E.f18,mY,iw,nY
theorem yG:cO P w mg base E.f19.F E.f19.b 3 (pY ad):=by
 have:=F6 E
 exists uO,E.f19
theorem FA:cO P w mg base E.f20.F E.f20.b 1 (t_ ad):=by
 exists pz,E.f20,sj
theorem D4:cO P w mg base E.f21.F E.f21.b 1 (xR ad):=by
 exists Ao,E.f21,ze,zD,yZ
theorem Hi:cO P w mg base E.f22.F E.f22.b 3 (vX ad):=by
 have:=D4 E
 exists BJ,E.f22,mV,nD,r8,rq
theorem GR:cO P w mg base E.f23.F E.f23.b 1 (Fl ad):=by
 exists A1,E.f23
theorem De:cO P w mg base E.f24.F E.f24.b 1 (vg ad):=by
 exists wz,E.f24,mM
theorem y_:cO P w mg base E.f26.F E.f26.b 1 (k9 ad):=by
 exists tH,E.f26,mL
theorem F9:cO P w mg base E.f25.F E.f25.b 4 (sy ad):=by
 have:=D4 E;have:=y_ E;have:=yG E
 exists tw,E.f25,nI,iS,iu
theorem F2:cO P w mg base E.f28.F E.f28.b 3 (tj ad):=by
 have:=FN E;have:=GD E;have:=wC E
 exists ue,E.f28,iL,iN,jw,mj,mZ
theorem IN:cO P w mg base E.f29.F E.f29.b 3 (Cm ad):=by
 have:=zQ E;have:=y_ E
 exists Ab,E.f29,qf,m3,qX,gJ,qv,xz,xt,yq
theorem Gd:cO P w mg base E.f27.F E.f27.b 4 (uI ad):=by
 have:=F2 E;have:=IN E
 exists s_,E.f27,nN,eG,jc,nk,iU,nR
theorem Eg:cO P w mg base E.f30.F E.f30.b 1 (tM ad):=by
 exists sk,E.f30
theorem EA:cO P w mg base E.f31.F E.f31.b 4 (sQ ad):=by
 have:=Hi E;have:=xN E
 exists rT,E.f31
theorem wk:∀n:Nat,cO P w mg base E.f33.F E.f33.b (4+n) (OJ ad n):=by
 have:=De E;have:=EA E;have:=Gd E;have:=Eg E;intro n
 induction n with
 |zero=>exact jS
 |succ n ih=>
  exists (4+n),sF,E.f33,iE,jk,jm,jB,m5
theorem wL:OkV P w mg base E.f32.F E.f32.b 45 (pN ad):=by
 have:=GR E;have:=De E;have:=wk E 40;have:=ql E;have:=F9 E;exact HW rfl E.f32.F E.f32.b ⟨rfl,rfl,rfl,by decide +kernel,rfl,by decide +kernel,by decide +kernel⟩ λhS _ A _ s _ _ _ _ hr ux=>(by have hU:=hr.units;have hu:=pi hr;have hg:=hr.gd;have E2:=E;cases E2;unfold uC m8 iJ nh;(first|refine cW ?_ ?_|refine el ?_);repeat' trivial)
theorem Fy:cO P w mg base E.f34.F E.f34.b 1 (tz ad):=by
 exists uq,E.f34,n0,fO
theorem DQ:OkV P w mg base E.f35.F E.f35.b 46 (tU ad):=by
 have:=ql E;have:=wL E;have:=yG E;have:=FA E;exact HW rfl E.f35.F E.f35.b ⟨rfl,rfl,rfl,by decide +kernel,rfl,by decide +kernel,by decide +kernel⟩ λhS _ A _ s _ _ _ _ hr ux=>(by have hU:=hr.units;have hu:=pi hr;have hg:=hr.gd;have E2:=E;cases E2;unfold uV j5 i_ iW iD nW et ja nw mi;(first|refine cW ?_ ?_|refine el ?_);repeat' trivial)
theorem EW:cO P w mg base E.f36.F E.f36.b 1 (uA ad):=by
 exists uL,E.f36
theorem wQ:cO P w mg base E.f37.F E.f37.b 1 (cJ ad):=by
 exists tJ,E.f37,dU,k6,jP,fK,fA,de,uo,uW,f_,ms,uc,sW
theorem Ev:cO P w mg base E.f38.F E.f38.b 2 (su ad):=by
 have:=wQ E
 exists uw,E.f38,g9,fU,fG,fF,fz,fN,jA,iy,il,ip,j6,jd,iC,iA,iP
theorem Ih:cO P w mg base E.f39.F E.f39.b 2 (xm ad):=by
 have:=wQ E
 exists Bi,E.f39,qy,n6,mv
theorem Et:cO P w mg base E.f41.F E.f41.b 47 (ou ad):=by
 have:=DQ E;have:=wL E
 exists jU,E.f41
theorem Fc:cO P w mg base E.f40.F E.f40.b 48 (fk ad):=by
 have:=Et E
 exists pO,E.f40,iV,gb,g7,nu,jy
theorem F1:cO P w mg base E.f42.F E.f42.b 1 (rY ad):=by
 exists tZ,E.f42,jt,j9,iH,nq,iB
theorem DP:cO P w mg base E.f43.F E.f43.b 1 (sZ ad):=by
 exists sG,E.f43,iO,mW,jb
theorem Fb:cO P w mg base E.f44.F E.f44.b 49 (yk ad):=by
 have:=DP E;have:=Fc E;have:=Ev E;have:=Ih E;have:=F1 E;have:=EW E;have:=Fy E;have:=ql E
 exists uk,E.f44,fu,dX,fJ,fL,fQ,fY,ix,io,l_,iQ,jg,iY,fZ,eu
end
end Tw
namespace L3
open PySem L2
theorem aI{T:Sd}{EE:DX}{ds:List D}{M:Mem}{Q:DK}{b:BxQ EE Q}{d:D}(c:∀Q' E',Q' d M->T ds M Q' E')(h:Q d M):calls T EE ds M Q b:=
 ap λQ' E' a _=>c Q' E' (a d M h)
theorem bK{α:Type}{xs:List α}{i:Int}(h:0<=i):atI xs i=xs[i.toNat]?:=by
 unfold atI qQ;rw[if_pos h]
 by_cases a:i<xs.length
 .rw[if_pos a];rfl
 .rw[if_neg a,KD (by lia)];rfl
@[simp] theorem atI_0 {α:Type} {xs:List α}:atI xs 0=xs[0]?:=bK (by decide)
@[simp] theorem atI_1 {α:Type} {xs:List α}:atI xs 1=xs[1]?:=bK (by decide)
@[simp] theorem atI_2 {α:Type} {xs:List α}:atI xs 2=xs[2]?:=bK (by decide)
@[simp] theorem atI_3 {α:Type} {xs:List α}:atI xs 3=xs[3]?:=bK (by decide)
@[simp] theorem atI_4 {α:Type} {xs:List α}:atI xs 4=xs[4]?:=bK (by decide)
theorem bf{g:ic}{f:ar}{DD:DEnds}{ok:Mem->Prop}{b:BxF g f DD ok}(I:List D->Dl->Mem->Prop)(c:∀xs U M,I xs U M->ok M)(i:∀U M,I [] U M->DD.nx U M)
  (j:∀x xs U M,I (x::xs) U M->∀D':DEnds,(∀a M',I xs a M'->D'.nx a M')->(∀a M',I xs a M'->D'.ct a M')->D'.rt=DD.rt->D'.bk=DD.nx->g x U M λδ2 M2=>f D' δ2 M2):∀xs U M,I xs U M->qR g f DD ok b xs U M
 |[],U,M,h=>⟨c _ _ _ h,i U M h⟩
 |x::xs,U,M,h=>⟨c _ _ _ h,j x xs U M h _ (λa M' e=>bf I c i j xs a M' e) (λa M' e=>bf I c i j xs a M' e) rfl rfl⟩
theorem c_{g:ic}{tt:dq}{te:aV}{ok:Mem->Prop}{Q:List D->Mem->Prop}{b:BxC g tt te ok Q}(I:List D->List D->Dl->Mem->Prop)(f:∀xs a U M,I xs a U M->ok M)(l:∀a U M,I [] a U M->Q a M)
  (m:∀x xs a U M,I (x::xs) a U M->∀N:Bool->D->Dl->Mem->Prop,(∀y e M',a.length<sizeLine->I xs (a++[y]) e M'->N true y e M')->(∀y e M',I xs a e M'->N eo y e M')->g x U M λδ2 M2=>tt δ2 M2 λc M3=>if c=true then te δ2 M3 λy M4=>N true y δ2 M4 else N eo .non δ2 M3)
  (n:∀x xs a U M,I (x::xs) a U M->a.length<sizeLine):∀xs a U M,I xs a U M->cH g tt te ok Q b xs a U M
 |[],a,U,M,h=>⟨f _ _ _ _ h,l a U M h⟩
 |x::xs,a,U,M,h=>⟨f _ _ _ _ h,m x xs a U M h (λk y e M'=>if k=true then a.length<sizeLine/\cH g tt te ok Q b xs (a++[y]) e M' else cH g tt te ok Q b xs a e M')
   (λy e M' i j=>by rw[if_pos rfl];exact⟨i,c_ I f l m n xs _ e M' j⟩) (λy e M' j=>by rw[if_neg (by simp)];exact c_ I f l m n xs _ e M' j) |> λz=>by simpa using z⟩
theorem b9{n:Nat}(h:n<=1000000):n<=sizeLine:=JC h (by decide)
theorem nB{n:Nat}(h:n<1000000):n<sizeLine:=Jn h (by decide)
end L3
namespace Tw
open PySem L2 L3
inductive Rw where
 |put (x:Str) (k:Int)|take (x:Str) (i:Int)|pick (x y:Str)|two (w x y z:Str)|ifr (x:Str) (a b:List Rw)|again (x:Str) (a:List Rw)
mutual
def Rw.d:Rw->D
 |.put x k=>.tup [.str "put",.str x,.int k]
 |.take x i=>.tup [.str "take",.str x,.int i]
 |.pick x y=>.tup [.str "pick",.str x,.str y]
 |.two w x y z=>.tup [.str w,.str x,.str y,.str z]
 |.ifr x a b=>.tup [.str "if",.str x,.tup (aS a),.tup (aS b)]
 |.again x a=>.tup [.str "again",.str x,.tup (aS a)]
def aS:List Rw->List D
 |[]=>[]
 |r::rs=>r.d::aS rs
end
theorem gL:∀a:List Rw,aS a=a.map Rw.d
 |[]=>rfl
 |r::a=>by rw[aS,gL a];rfl
abbrev ju:=List (Str×Int)
def gN(n:ju)(x:Str):Option Int:=(n.find? λp=>decide (p.1=x)).map (·.2)
def nm(n:ju)(x:Str):Int:=(gN n x).getD 0
def sN(n:ju)(x:Str)(v:Int):ju:=n.map λp=>if p.1=x then (p.1,v) else p
def cX(n:ju):List (ax×D):=n.map λp=>(Jx p.1,D.int p.2)
theorem D3:∀{n:ju}{x:Str},x∈n.map (·.1)->gN n x=al (nm n x)
 |[],_,h=>by simp at h
 |(y,v)::n,x,h=>by
  by_cases e:y=x
  .simp[gN,nm,e]
  .have:=D3 (n:=n) (x:=x) (by simpa [JI e,eq_comm,e] using h)
   simpa [gN,nm,e] using this
theorem cb:∀{n:ju}{x:Str},bH (cX n) (Jx x)=(gN n x).map D.int
 |[],x=>rfl
 |(y,v)::n,x=>by
  by_cases e:y=x
  .simp[bH,cX,gN,e]
  .have:=cb (n:=n) (x:=x)
   simpa [bH,cX,gN,e] using this
theorem ye:∀{n:ju}{x:Str},x∈n.map (·.1)->((cX n).any λkv=>decide (kv.1=Jx x))=true
 |[],_,h=>by simp at h
 |(y,v)::n,x,h=>by
  by_cases e:y=x
  .simp[cX,e]
  .have:=ye (n:=n) (x:=x) (by simpa [JI e,eq_comm,e] using h)
   simp only[cX,Jf,Kn,Bool.or_eq_true]at this ⊢;exact .inr this
theorem m4{n:ju}{x:Str}{v:Int}(h:x∈n.map (·.1)):bX (cX n) (Jx x) (.int v)=cX (sN n x v):=by
 unfold bX;rw[ye h,if_pos rfl];simp only[cX,sN,Ly];apply KW;intro p _
 by_cases e:p.1=x
 .simp[e]
 .simp[e]
theorem C4{n:ju}{x:Str}{v:Int}:(sN n x v).map (·.1)=n.map (·.1):=by
 simp only[sN,Ly];apply KW;intro p _
 by_cases e:p.1=x<;>simp[e]
structure Cf where
 m:Int
 pieces:List Int
 most:Nat
structure Sx where
 nums:ju
 steps:List (List Int×Int)
def Gm(w:Str)(y z m:Int):Int:=if w="sum" then (y+z) % m else if w="by" then y*z % m else if w="less" then (if y<z then 1 else 0) else if y=z then 1 else 0
def cN(c:Cf)(n:ju):Rw->Int
 |.put _ k=>k
 |.take _ i=>(c.pieces[i.toNat]?).getD 0
 |.pick _ y=>(c.pieces[(nm n y % (c.pieces.length:Int)).toNat]?).getD 0
 |.two w _ y z=>Gm w (nm n y) (nm n z) c.m
 |_=>0
def kj:Rw->Str
 |.put x _=>x
 |.take x _=>x
 |.pick x _=>x
 |.two _ x _ _=>x
 |.ifr x _ _=>x
 |.again x _=>x
def nt(c:Cf)(pl:RM)(v:Int)(s:Sx):Bool×Sx:=if s.steps.length<c.most then (true,⟨s.nums,s.steps++[(pl,v)]⟩) else (eo,s)
def lk(n:ju)(x:Str):Int:=if nm n x=0 then 0 else 1
def hW(c:Cf)(x:Str)(pl:RM)(body:Nat->Sx->Bool×Sx):Nat->Nat->Sx->Bool×Sx
 |0,_,s=>(eo,s)
 |f+1,t,s=>if (nt c (pl++[(t:Int)]) (lk s.nums x) s).1=true then
   (if lk s.nums x=1 then
    (if (body t (nt c (pl++[(t:Int)]) (lk s.nums x) s).2).1=true then hW c x pl body f (t+1) (body t (nt c (pl++[(t:Int)]) (lk s.nums x) s).2).2 else body t (nt c (pl++[(t:Int)]) (lk s.nums x) s).2)
   else nt c (pl++[(t:Int)]) (lk s.nums x) s)
  else nt c (pl++[(t:Int)]) (lk s.nums x) s
mutual
def gn(c:Cf):Rw->List Int->Sx->Bool×Sx
 |.ifr x a b,pl,s=>if (nt c pl (lk s.nums x) s).1=true then (if lk s.nums x=1 then bG c a (pl++[lk s.nums x]) 0 (nt c pl (lk s.nums x) s).2 else bG c b (pl++[lk s.nums x]) 0 (nt c pl (lk s.nums x) s).2) else nt c pl (lk s.nums x) s
 |.again x a,pl,s=>hW c x pl (λt s=>bG c a (pl++[(t:Int)]) 0 s) (c.most+1) 0 s
 |.put x k,pl,s=>if (nt c pl (cN c s.nums<|.put x k) s).1=true then (true,⟨sN s.nums x (cN c s.nums<|.put x k),(nt c pl (cN c s.nums<|.put x k) s).2.steps⟩) else nt c pl (cN c s.nums<|.put x k) s
 |.take x i,pl,s=>if (nt c pl (cN c s.nums<|.take x i) s).1=true then (true,⟨sN s.nums x (cN c s.nums<|.take x i),(nt c pl (cN c s.nums<|.take x i) s).2.steps⟩) else nt c pl (cN c s.nums<|.take x i) s
 |.pick x y,pl,s=>if (nt c pl (cN c s.nums<|.pick x y) s).1=true then (true,⟨sN s.nums x (cN c s.nums<|.pick x y),(nt c pl (cN c s.nums<|.pick x y) s).2.steps⟩) else nt c pl (cN c s.nums<|.pick x y) s
 |.two w x y z,pl,s=>if (nt c pl (cN c s.nums<|.two w x y z) s).1=true then (true,⟨sN s.nums x (cN c s.nums<|.two w x y z),(nt c pl (cN c s.nums<|.two w x y z) s).2.steps⟩) else nt c pl (cN c s.nums<|.two w x y z) s
def bG(c:Cf):List Rw->List Int->Nat->Sx->Bool×Sx
 |[],_,_,s=>(true,s)
 |r::rs,pl,j,s=>if (gn c r (pl++[(j:Int)]) s).1=true then bG c rs pl (j+1) (gn c r (pl++[(j:Int)]) s).2 else gn c r (pl++[(j:Int)]) s
end
def jJ(c:Cf)(r:Rw)(pl:RM)(s:Sx):Bool×Sx:=if s.steps.length<c.most then (true,⟨sN s.nums (kj r) (cN c s.nums r),s.steps++[(pl,cN c s.nums r)]⟩) else (eo,s)
def dF:Rw->Bool
 |.ifr _ _ _=>eo
 |.again _ _=>eo
 |_=>true
theorem bD{c:Cf}{r:Rw}{pl:RM}{s:Sx}(h:dF r=true):gn c r pl s=jJ c r pl s:=by
 cases r with
 |ifr x a b=>simp[dF]at h
 |again x a=>simp[dF]at h
 |put x k=>simp only[gn,jJ,nt,kj];split<;>simp_all
 |take x k=>simp only[gn,jJ,nt,kj];split<;>simp_all
 |pick x k=>simp only[gn,jJ,nt,kj];split<;>simp_all
 |two w x y z=>simp only[gn,jJ,nt,kj];split<;>simp_all
theorem ofs_inj(a b:String):(JH a=JH b)=(a=b):=by
 refine propext ⟨λh=>?_,λh=>by rw[h]⟩
 rw[Str.ofString_eq_byList]at h;have c:=congrArg (λx:Str=>x.cps.toList) h;simp only[Str.ofStringByList]at c;exact String.toList_inj.mp ((List.map_inj_right λx y e=>Char.toNat_inj.mp e).mp c)
end Tw
open PySem L2 L3 Tw
local macro_rules | `(tactic| simp! [$a,*]) => do let p <- ("yn xn xp zP sh tW uN sU uv sO rZ sg tG sv ui ug yB zK zJ yl zc wx sS sJ sM sK sC si tF iR sI zn yv nY iw mY sj yZ zD ze rq r8 nD mV mM mL iu iS nI mZ mj jw iN iL yq xt xz qv gJ qX m3 qf nR iU nk jc eG nN m5 jB jm jk iE nh iJ m8 fO n0 mi nw ja et nW iD iW i_ j5 sW uc ms f_ uW uo de fA fK jP k6 dU iP iA iC jd j6 ip il iy jA fN fz fF fG fU g9 mv n6 qy jy nu g7 gb iV iB nq iH j9 jt jb mW iO eu fZ iY jg iQ l_ io ix fY fQ fL fJ dX fu kz wH xO Gg zN rW DZ xy wP mB fB xJ j7 oE uH da rX Bp jn gO pq nF nK aL startN ah aU ao i6 CU ai cP x6 dv bn cR aG fC ac dC aC kH aP FP Ie dOr Ds oI oP cL aB aT cQ aw frz bz kJ eQ jY Bk au ag kM bN kT kR rf aa af aN br ce oB dP e_ tK cj pA aO bP aX me bM jn BB dTM mm gA fM eZ bA Ew mh gH xa oSl HS lC jl ak bO fS cC lE tL Dz vP bB mU lY kn jr lM oX frzs Ej pe vt".splitOn " ").toArray.mapM (fun s => `(Lean.Parser.Tactic.simpLemma| ↓$(Lean.mkIdent s.toName):ident)); let q <- ("List.map_cons List.map_nil List.cons_append List.nil_append List.length_cons List.length_nil List.getElem?_cons_succ List.getElem?_cons_zero List.set_cons_succ List.set_cons_zero Nat.zero_add Nat.reduceAdd Nat.reduceSub List.replicate_succ List.replicate_zero List.append_nil true_and and_true if_true if_false Bool.false_eq_true decide_eq_true_eq decide_eq_false_iff_not Bool.not_true Bool.not_false Bool.and_true Bool.true_and Bool.and_false Bool.false_and Mem.upd_same Option.isSome_some Option.isSome_none ofs_inj String.reduceEq".splitOn " ").toArray.mapM (fun s => `(Lean.Parser.Tactic.simpLemma| $(Lean.mkIdent s.toName):ident)); let r : Lean.TSyntaxArray [`Lean.Parser.Tactic.simpStar, `Lean.Parser.Tactic.simpErase, `Lean.Parser.Tactic.simpLemma] := (p.map (⟨·.raw⟩)) ++ (q.map (⟨·.raw⟩)) ++ a.getElems; `(tactic| simp -dsimp only [$r,*])
namespace Tw
open PySem L2 L3
variable{ad:Ad}{c:Cf}{Q:DK}{E:DX}{names:RN}{M:Mem}{r:Rw}{n:ju}
theorem h_{w:Str}{y z m:Int}(b:0<m)(i:0<=y)(g:y<1000)(h:Q (.int<|Gm w y z m) M):uQ ad [.str w,.int y,.int z,.int m] M Q E:=by
 have f:CMul y z:=.inl ⟨by lia,by lia⟩
 unfold Gm at h;simp![HH,uT]
 split
 .rename_i e;rw[if_pos e]at h;exact⟨b,aj h⟩
 .rename_i e;rw[if_neg e]at h
  split
  .rename_i e;rw[if_pos e]at h;exact⟨f,b,aj h⟩
  .rename_i e;rw[if_neg e]at h
   split
   .rename_i e;rw[if_pos e]at h
    split<;>rename_i a
    .rw[if_pos a]at h;exact aj h
    .rw[if_neg a]at h;exact aj h
   .rename_i e;rw[if_neg e]at h
    split<;>rename_i a
    .rw[if_pos a]at h;exact aj h
    .rw[if_neg a]at h;exact aj h
def gw(names:RN)(m many:Int):Rw->Prop
 |.put x k=>x∈names/\0<=k/\k<m
 |.take x i=>x∈names/\0<=i/\i<many
 |.pick x y=>x∈names/\y∈names/\0<many
 |.two w x y z=>(w="sum"\/w="by"\/w="less"\/w="same")/\x∈names/\y∈names/\z∈names
 |_=>False
structure NOk(names:RN)(m:Int)(n:ju):Prop where
 keys:n.map (·.1)=names
 rng:∀p∈n,0<=p.2/\p.2<m
theorem NOk.at{names:RN}{m:Int}{n:ju}(h:NOk names m n){x:Str}(f:x∈names):gN n x=al (nm n x)/\0<=nm n x/\nm n x<m:=by
 have e:gN n x=al (nm n x):=D3 (by rw[h.keys];exact f)
 refine⟨e,?_⟩;unfold gN at e;obtain⟨p,b,a⟩:=Lc.mp e;rw[<- a];exact h.rng p (List.mem_of_find?_eq_some b)
theorem Cb{w:Str}{y z m:Int}(g:2<=m):0<=Gm w y z m/\Gm w y z m<m:=by
 unfold Gm;have f:=K0 (y+z) (show m≠0 by lia)
 have b:=Kw (y+z) (show 0<m by lia)
 have a:=K0 (y*z) (show m≠0 by lia)
 have e:=Kw (y*z) (show 0<m by lia)
 repeat' split
 all_goals lia
structure COk(c:Cf):Prop where
 m2:2<=c.m
 m1:c.m<=997
 rng:∀v∈c.pieces,0<=v/\v<c.m
 few:c.pieces.length<=1000
 most:c.most<=10000
theorem COk.piece(h:COk c){i:Nat}(a:i<c.pieces.length):c.pieces[i]?=al ((c.pieces[i]?).getD 0)/\0<=(c.pieces[i]?).getD 0/\(c.pieces[i]?).getD 0<c.m:=by
 rw[Je a];exact⟨rfl,h.rng _<|Ln a⟩
theorem uP(h:COk c)(g:NOk names c.m n)(a:gw names c.m c.pieces.length r):0<=cN c n r/\cN c n r<c.m:=by
 cases r with
 |put x k=>exact a.2
 |take x i=>exact(h.piece (i:=i.toNat)<|by have:=a.2;lia).2
 |pick x y=>
  have b:=a.2.2;have e:=K0 (nm n y) (show (c.pieces.length:Int)≠0 by lia)
  have f:=Kw (nm n y) b;exact(h.piece (i:=(nm n y % (c.pieces.length:Int)).toNat)<|by lia).2
 |two w x y z=>exact Cb h.m2
 |ifr=>exact a.elim
 |again=>exact a.elim
def aK(c:Cf)(names:RN)(rows:List Rw)(mk:Str):D:=.tup [.int c.m,.tup (names.map D.str),.int (c.pieces.length:Nat),.tup (aS rows),.str mk]
theorem bC{rows:List Rw}{mk:Str}{b:eg}(g:NOk names c.m n)(a:gw names c.m c.pieces.length r)(f:M b=al (.dK<|cX n))(h:Q (match r with|.take _ i=>.int i|.pick _ y=>.int (nm n y % (c.pieces.length:Int))|_=>.non) M):jZ ad [aK c names rows mk,.ref b,r.d] M Q E:=by
 cases r with
 |put x k=>(simp![lq,g8,aK,Rw.d,atI_0,atI_2];exact aj h)
 |take x i=>(simp![lq,g8,aK,Rw.d,atI_0,atI_2];exact aj h)
 |pick x y=>
  simp![lq,g8,aK,Rw.d,atI_0,atI_2,f,cb,(g.at a.2.1).1,Kh];exact⟨a.2.2,aj h⟩
 |two w x y z=>
  obtain⟨e,_⟩:=a;rcases e with rfl|rfl|rfl|rfl<;>(simp![lq,g8,aK,Rw.d,atI_0,atI_2];exact aj h)
 |ifr=>exact a.elim
 |again=>exact a.elim
theorem jM{rows:List Rw}{mk:Str}{u:eg}(g:COk c)(e:NOk names c.m n)(b:gw names c.m c.pieces.length r)(f:M u=al (.dK<|cX n))(h:Q (.int<|cN c n r) M):kh ad [aK c names rows mk,.ref u,.tup (c.pieces.map D.int),r.d] M Q E:=by
 have G:=g.m1;have F:=g.m2;cases r with
 |put x k=>
  simp![hZ,dS,aK,Rw.d,atI_0,atI_2];exact aj h
 |take x i=>
  have a:=b;obtain⟨s,j,H⟩:=a;have o:=g.piece (i:=i.toNat) (by lia)
  have p:(c.pieces.map D.int)[i.toNat]?=al (.int<|cN c n<|.take x i):=by rw[Jw,o.1];rfl
  simp![hZ,dS,aK,Rw.d,atI_0,atI_2];refine aI (d:=.int i) (λ_ _ q=>bC (c:=c) (names:=names) (rows:=rows) (mk:=mk) (r:=.take x i) e b f q) ?_;simp![bK j,p];exact aj h
 |pick x y=>
  have a:=b;obtain⟨s,t,j⟩:=a;have g0:=K0 (nm n y) (show (c.pieces.length:Int)≠0 by lia)
  have I:=Kw (nm n y) j;have o:=g.piece (i:=(nm n y % (c.pieces.length:Int)).toNat) (by lia)
  have p:(c.pieces.map D.int)[(nm n y % (c.pieces.length:Int)).toNat]?=al (.int<|cN c n<|.pick x y):=by rw[Jw,o.1];rfl
  simp![hZ,dS,aK,Rw.d,atI_0,atI_2];refine aI (d:=.int (nm n y % (c.pieces.length:Int))) (λ_ _ q=>bC (c:=c) (names:=names) (rows:=rows) (mk:=mk) (r:=.pick x y) e b f q) ?_;simp![bK g0,p];exact aj h
 |two w x y z=>
  have a:=b;obtain⟨C,s,t,B⟩:=a;have v:=e.at t;have A:=e.at B;have l:((w=JH "put")=False):=by rcases C with rfl|rfl|rfl|rfl<;>exact eq_false (by decide +kernel)
  simp![hZ,dS,aK,Rw.d,atI_0,atI_2,l];refine aI (d:=.non) (λ_ _ q=>bC (c:=c) (names:=names) (rows:=rows) (mk:=mk) (r:=.two w x y z) e b f q) ?_;simp![atI_0,atI_2,atI_3,f,cb,v.1,A.1,Kh];exact aI (d:=.int (cN c n<|.two w x y z)) (λ_ _ q=>h_ (by lia) (by lia) (by lia) q) (aj h)
 |ifr=>exact b.elim
 |again=>exact b.elim
structure Wk where
 a:eg
 dn:eg
 ls:eg
 h1:a≠dn
 h2:a≠ls
 h3:dn≠ls
def my(l:RM):D:=.tup (l.map D.int)
def Cq(l:List (List Int×Int)):List D:=l.map λp=>.tup [my p.1,.int p.2]
def wM(ad:Ad)(k:Wk)(c:Cf)(pD:D)(s:Sx)(M:Mem):Mem:=
 ((M.upd k.a<|.ins ad.C_Walk [("plan",pD),("numbers",.ref k.dn),("pieces",.tup (c.pieces.map D.int)),("most",.int (c.most:Nat)),("steps",.ref k.ls)]).upd k.dn<|.dK<|cX s.nums).upd k.ls (.lst<|Cq s.steps)
section
variable{k:Wk}{pD:D}{s:Sx}
theorem eJ:wM ad k c pD s M k.a=al (.ins ad.C_Walk [("plan",pD),("numbers",.ref k.dn),("pieces",.tup (c.pieces.map D.int)),("most",.int (c.most:Nat)),("steps",.ref k.ls)]):=by
 unfold wM;rw[ae k.h2,ae k.h1,Mem.upd_same]
theorem kx:wM ad k c pD s M k.dn=al (.dK<|cX s.nums):=by unfold wM;rw[ae k.h3,Mem.upd_same]
theorem CG:wM ad k c pD s M k.ls=al (.lst<|Cq s.steps):=by unfold wM;rw[Mem.upd_same]
theorem wW{x:List (List Int×Int)}:(wM ad k c pD s M).upd k.ls (.lst<|Cq x)=wM ad k c pD ⟨s.nums,x⟩ M:=by unfold wM;rw[Mem.upd_upd]
theorem BK{x:ju}:(wM ad k c pD s M).upd k.dn (.dK<|cX x)=wM ad k c pD ⟨x,s.steps⟩ M:=by
 unfold wM;rw[aq (JI k.h3),Mem.upd_upd]
theorem lf0:Jz ("plan":Str) [(("plan":Str),x0),(("numbers":Str),x1),(("pieces":Str),x2),(("most":Str),x3),(("steps":Str),x4)]=al (x0:D):=rfl
theorem zY:Jz ("numbers":Str) [(("plan":Str),x0),(("numbers":Str),x1),(("pieces":Str),x2),(("most":Str),x3),(("steps":Str),x4)]=al (x1:D):=rfl
theorem lf2:Jz ("pieces":Str) [(("plan":Str),x0),(("numbers":Str),x1),(("pieces":Str),x2),(("most":Str),x3),(("steps":Str),x4)]=al (x2:D):=rfl
theorem lf3:Jz ("most":Str) [(("plan":Str),x0),(("numbers":Str),x1),(("pieces":Str),x2),(("most":Str),x3),(("steps":Str),x4)]=al (x3:D):=rfl
theorem lf4:Jz ("steps":Str) [(("plan":Str),x0),(("numbers":Str),x1),(("pieces":Str),x2),(("most":Str),x3),(("steps":Str),x4)]=al (x4:D):=rfl
theorem lfm:Jz ("note_step":Str) [(("plan":Str),x0),(("numbers":Str),x1),(("pieces":Str),x2),(("most":Str),x3),(("steps":Str),x4)]=(none:Option D):=rfl
theorem lfl:Jz ("look":Str) [(("plan":Str),x0),(("numbers":Str),x1),(("pieces":Str),x2),(("most":Str),x3),(("steps":Str),x4)]=(none:Option D):=rfl
theorem dA{pl:RM}{v:Int}(h:c.most<=10000)(b:(nt c pl v s).1=true->Q .non (wM ad k c pD (nt c pl v s).2 M))(f:(nt c pl v s).1=eo->E ad.C_Dry (wM ad k c pD (nt c pl v s).2 M)):
  rH ad [.ref k.a,my pl,.int v] (wM ad k c pD s M) Q E:=by
 unfold nt at b f;simp![u_q1,AN,eJ,CG,lf3,lf4,Cq,Ji]
 split
 .rename_i e
  have:¬s.steps.length<c.most:=by lia
  rw[if_neg this]at f;exact bj (f rfl)
 .rename_i e
  have g:s.steps.length<c.most:=by lia
  rw[if_pos g]at b;refine⟨b9 (by decide),nB (by lia),aj ?_⟩
  have:=b rfl;rw[<- wW]at this;simpa [Cq] using this
end
end Tw
namespace L3
open PySem L2
def kE:Nat->List D->List D
 |_,[]=>[]
 |k,x::xs=>.tup [.int (k:Nat),x]::kE (k+1) xs
theorem oq:∀(xs:List D)(k:Nat),(xs.zipIdx k).map (λp=>D.tup [.int (p.2:Nat),p.1])=kE k xs
 |[],_=>rfl
 |x::xs,k=>by rw[MT,Jf,oq xs (k+1)];rfl
theorem wZ(xs:List D):oH xs=kE 0 xs:=oq xs 0
theorem bh{xs:List D}{M:Mem}:DIt.ok ⟨xs,[]⟩ M:=λ_ h=>by cases h
end L3
namespace Tw
open PySem L2 L3
variable{ad:Ad}{b p po:eg}{c:Cf}{C:Cse}{D' D0:DEnds}{Q:DK}{E EE:DX}{U:Dl}{g:Gs}{a f i left m many v w z:Int}{nums:RM}{rest rows RL td:List Rw}{names:RN}{ks u:List ax}{o:MO}{M M' N:Mem}{L n:Nat}{r:Rw}{s t:Sta}{mk x:Str}{wp:Wp}{q:ax}
mutual
def gE(names:RN)(m many:Int):Rw->Prop
 |.ifr x a b=>x∈names/\bS names m many a/\bS names m many b
 |.again x a=>x∈names/\bS names m many a
 |.put x k=>gw names m many (.put x k)
 |.take x k=>gw names m many (.take x k)
 |.pick x k=>gw names m many (.pick x k)
 |.two w x y z=>gw names m many (.two w x y z)
def bS(names:RN)(m many:Int):List Rw->Prop
 |[]=>True
 |r::rs=>gE names m many r/\bS names m many rs
end
mutual
def hR:Rw->Nat
 |.ifr _ a b=>1+max (mI a) (mI b)
 |.again _ a=>1+mI a
 |_=>0
def mI:List Rw->Nat
 |[]=>0
 |r::rs=>max (hR r) (mI rs)
end
section
theorem xq{n:ju}(h:NOk names c.m n)(l:0<=v/\v<c.m):NOk names c.m (sN n x v):=by
 refine⟨by rw[C4];exact h.keys,λp e=>?_⟩
 simp only[sN,JM]at e;obtain⟨q,j,rfl⟩:=e
 split
 .exact l
 .exact h.rng q j
theorem jq{pl:RM}{s:Sx}:(nt c pl v s).2.nums=s.nums:=by unfold nt;split<;>rfl
theorem iG(j:COk c)(h:gw names c.m c.pieces.length r){pl:RM}{s:Sx}(e:NOk names c.m s.nums):NOk names c.m (jJ c r pl s).2.nums:=by
 unfold jJ
 split
 .exact xq e (uP j e h)
 .exact e
theorem uG{x:Str}{pl:RM}{e:Nat->Sx->Bool×Sx}(l:∀t s,NOk names c.m s.nums->NOk names c.m (e t s).2.nums):∀(f t:Nat)(s:Sx),NOk names c.m s.nums->NOk names c.m (hW c x pl e f t s).2.nums
 |0,_,s,h=>h
 |f+1,t,s,h=>by
  have j:NOk names c.m (nt c (pl++[(t:Int)]) (lk s.nums x) s).2.nums:=by rw[jq];exact h
  unfold hW
  split
  .split
   .split
    .exact uG l f (t+1) _ (l t _ j)
    .exact l t _ j
   .exact j
  .exact j
mutual
theorem qg(e:COk c):∀(r:Rw),gE names c.m c.pieces.length r->∀(pl:RM)(s:Sx),NOk names c.m s.nums->NOk names c.m (gn c r pl s).2.nums
 |.ifr x a b,h,pl,s,hn=>by
  have j:NOk names c.m (nt c pl (lk s.nums x) s).2.nums:=by rw[jq];exact hn
  simp only[gE]at h;unfold gn
  split
  .split
   .exact eE e a h.2.1 _ _ _ j
   .exact eE e b h.2.2 _ _ _ j
  .exact j
 |.again x a,h,pl,s,hn=>by
  simp only[gE]at h;unfold gn;exact uG (λt s l=>eE e a h.2 _ _ _ l) _ _ _ hn
 |.put x k,h,pl,s,hn=>by rw[bD rfl];exact iG e (by simpa only[gE] using h) hn
 |.take x k,h,pl,s,hn=>by rw[bD rfl];exact iG e (by simpa only[gE] using h) hn
 |.pick x k,h,pl,s,hn=>by rw[bD rfl];exact iG e (by simpa only[gE] using h) hn
 |.two w x y z,h,pl,s,hn=>by rw[bD rfl];exact iG e (by simpa only[gE] using h) hn
theorem eE(l:COk c):∀(e:List Rw),bS names c.m c.pieces.length e->∀(pl:RM)(j:Nat)(s:Sx),NOk names c.m s.nums->NOk names c.m (bG c e pl j s).2.nums
 |[],_,_,_,s,hn=>by simpa only[bG] using hn
 |r::e,h,pl,j,s,hn=>by
  simp only[bS]at h;unfold bG
  split
  .exact eE l e h.2 _ _ _ (qg l r h.1 _ _ hn)
  .exact qg l r h.1 _ _ hn
end
end
def Post(ad:Ad)(k:Wk)(c:Cf)(pD:D)(r:Bool×Sx)(M:Mem)(d:D)(Q:DK)(E:DX):Prop:=(r.1=true->Q d (wM ad k c pD r.2 M))/\(r.1=eo->E ad.C_Dry (wM ad k c pD r.2 M))
theorem b7{k:Wk}{j:D}{r:Bool×Sx}{M0:Mem}{d:D}{T:Sd}{ds:List D}(A:∀Q' E',Post ad k c j r M d Q' E'->T ds M0 Q' E'){b:BxQ E Q}(h:Post ad k c j r M d Q E):calls T E ds M0 Q b:=
 ap λQ' E' y l=>A Q' E' ⟨λe=>y _ _ (h.1 e),λe=>l _ _ (h.2 e)⟩
theorem Post.drp{k:Wk}{j:D}{r:Bool×Sx}{d:D}(h:Post ad k c j r M d Q E):Post ad k c j r M d (L3.drp Q) (av E):=⟨λe=>aj (h.1 e),λe=>bj (h.2 e)⟩
section
variable{k:Wk}{s:Sx}
theorem lG{pl:RM}(y:COk c)(B:NOk names c.m s.nums)(A:x∈names)(h:Post ad k c (aK c names RL mk) (nt c pl (lk s.nums x) s) M (.int<|lk s.nums x) Q E):
  lV ad [.ref k.a,my pl,.str x] (wM ad k c (aK c names RL mk) s M) Q E:=by
 have l:=B.at A;have j:∀v:Int,v=lk s.nums x->calls (rH ad) (av E) [.ref k.a,my pl,.int v] (wM ad k c (aK c names RL mk) s M) (λ_ M1=>L3.drp Q (.int v) M1) ⟨⟩:=by
  rintro v rfl
  exact b7 (d:=.non) (λQ' E' z=>dA y.most z.1 z.2) ⟨λe=>aj (h.1 e),λe=>bj (h.2 e)⟩
 simp![Hh,tN,eJ,kx,zY,lfm,cb,l.1,Kh]
 split
 .rename_i e
  exact j 0 (by unfold lk;rw[if_pos e])
 .rename_i e
  exact j 1 (by unfold lk;rw[if_neg e])
theorem b_{pl:RM}(P:names.length<=1000)(K:COk c)(J:NOk names c.m s.nums)(l:gw names c.m c.pieces.length r)(h:Post ad k c (aK c names RL mk) (jJ c r pl s) M .non Q E):
  OI ad (n+1) [.ref k.a,r.d,my pl] (wM ad k c (aK c names RL mk) s M) Q E:=by
 have A:calls (kh ad) (av E) [aK c names RL mk,.ref k.dn,.tup (c.pieces.map D.int),r.d] (wM ad k c (aK c names RL mk) s M) (λd M'=>frz d M' λx M1=>
   ag 3 x [al (.ref k.a),al r.d,al (my pl),ee] M1 λU M2=>ah (aX<|bO ad.C_Walk "note_step" (rH ad) (av E) 3 (ac 0)<|aa (ac 2)<|aa (ac 3) af)
    (au (ac 3)<|kR (aO ad.C_Walk (ac 0) "numbers")<|ai aB (ac 1)<|dC<|.int 1) { nx:=λ_ M'=>L3.drp Q .non M',rt:=L3.drp Q } U M2) ⟨⟩:=by
  refine aI (d:=.int (cN c s.nums r)) (λ_ _ q=>jM K J l kx q) ?_;simp![eJ,lfm];refine b7 (r:=nt c pl (cN c s.nums r) s) (d:=.non) (λQ' E' z=>dA K.most z.1 z.2) ?_;unfold jJ at h;unfold nt;have B:kj r∈s.nums.map (·.1):=by
   rw[J.keys];cases r with
   |put x k=>exact l.1
   |take x k=>exact l.1
   |pick x k=>exact l.1
   |two w x y z=>exact l.2.1
   |ifr=>exact l.elim
   |again=>exact l.elim
  split
  .rename_i H
   rw[if_pos H]at h;refine⟨λ_=>?_,λe=>by simp at e⟩
   have F:=h.1 rfl;have O:wM ad k c (aK c names RL mk) ⟨sN s.nums (kj r) (cN c s.nums r),s.steps++[(pl,cN c s.nums r)]⟩ M=(wM ad k c (aK c names RL mk) ⟨s.nums,s.steps++[(pl,cN c s.nums r)]⟩ M).upd k.dn (.dK<|bX (cX s.nums) (Jx<|kj r)<|.int<|cN c s.nums r):=by
    rw[m4 B,BK]
   rw[O]at F;have j:(cX s.nums).length<sizeLine:=by rw[cX,Ji,<- Ji (f:=(·.1)),J.keys];exact nB (by lia)
   cases r with
   |put x kk=>simp![Rw.d,eJ,kx,zY,atI_1];exact⟨j,aj F⟩
   |take x kk=>simp![Rw.d,eJ,kx,zY,atI_1];exact⟨j,aj F⟩
   |pick x kk=>simp![Rw.d,eJ,kx,zY,atI_1];exact⟨j,aj F⟩
   |two w x y z=>simp![Rw.d,eJ,kx,zY,atI_1];exact⟨j,aj F⟩
   |ifr=>exact l.elim
   |again=>exact l.elim
  .rename_i H
   rw[if_neg H]at h;exact⟨λe=>by simp at e,λ_=>bj (h.2 rfl)⟩
 cases r with
 |put x kk=>simp![vB,nJ,Rw.d,eJ,lf0,zY,lf2,atI_0];exact A
 |take x kk=>simp![vB,nJ,Rw.d,eJ,lf0,zY,lf2,atI_0];exact A
 |pick x kk=>simp![vB,nJ,Rw.d,eJ,lf0,zY,lf2,atI_0];exact A
 |two w x y z=>
  have I:((w=JH "if")=False):=by rcases l.1 with rfl|rfl|rfl|rfl<;>exact eq_false (by decide +kernel)
  have G:((w=JH "again")=False):=by rcases l.1 with rfl|rfl|rfl|rfl<;>exact eq_false (by decide +kernel)
  simp![vB,nJ,Rw.d,eJ,lf0,zY,lf2,atI_0,I,G];exact A
 |ifr=>exact l.elim
 |again=>exact l.elim
end
section
def Gr(c:Cf)(s s':Sx):Prop:=s.steps.length<=s'.steps.length/\(s.steps.length<=c.most->s'.steps.length<=c.most)
theorem jC{s:Sx}:Gr c s s:=⟨Jg _,id⟩
theorem Gr.trans{s j e:Sx}(a:Gr c s j)(b:Gr c j e):Gr c s e:=⟨JC a.1 b.1,λh=>b.2 (a.2 h)⟩
theorem nt_gr{pl:RM}{s:Sx}:Gr c s (nt c pl v s).2:=by
 unfold nt
 split
 .refine⟨by simp,λ_=>?_⟩;simp;lia
 .exact jC
theorem iT{pl:RM}{s:Sx}:Gr c s (jJ c r pl s).2:=by
 unfold jJ
 split
 .refine⟨by simp,λ_=>?_⟩;simp;lia
 .exact jC
theorem tO{x:Str}{pl:RM}{e:Nat->Sx->Bool×Sx}(h:∀t s,Gr c s (e t s).2):∀(f t:Nat)(s:Sx),Gr c s (hW c x pl e f t s).2
 |0,_,s=>jC
 |f+1,t,s=>by
  unfold hW
  split
  .split
   .split
    .exact nt_gr.trans ((h t _).trans<|tO h f (t+1) _)
    .exact nt_gr.trans (h t _)
   .exact nt_gr
  .exact nt_gr
mutual
theorem qr:∀(r:Rw)(pl:RM)(s:Sx),Gr c s (gn c r pl s).2
 |.ifr x a b,pl,s=>by
  unfold gn
  split
  .split
   .exact nt_gr.trans (gc a _ _ _)
   .exact nt_gr.trans (gc b _ _ _)
  .exact nt_gr
 |.again x a,pl,s=>by
  unfold gn;exact tO (λt s=>gc a _ _ _) _ _ _
 |.put x k,pl,s=>by rw[bD rfl];exact iT
 |.take x k,pl,s=>by rw[bD rfl];exact iT
 |.pick x k,pl,s=>by rw[bD rfl];exact iT
 |.two w x y z,pl,s=>by rw[bD rfl];exact iT
theorem gc:∀(e:List Rw)(pl:RM)(j:Nat)(s:Sx),Gr c s (bG c e pl j s).2
 |[],_,_,s=>by unfold bG;exact jC
 |r::e,pl,j,s=>by
  unfold bG
  split
  .exact(qr r _ _).trans (gc e _ _ _)
  .exact qr r _ _
end
end
theorem ei{pl:RM}:D.tup (pl.map D.int++[D.int v])=my (pl++[v]):=by simp[my]
section
variable{k:Wk}
def tP(ad:Ad)(k:Wk)(c:Cf)(names:RN)(RL:List Rw)(mk:Str)(n:Nat):Prop:=∀(rs:List Rw)(pl:RM)(s:Sx)(M:Mem)(Q:DK)(E:DX),bS names c.m c.pieces.length rs->3*mI rs+2<=n->pl.length+2*mI rs+2<=1000->NOk names c.m s.nums->s.steps.length<=c.most->
 Post ad k c (aK c names RL mk) (bG c rs pl 0 s) M .non Q E->OF ad n [.ref k.a,.tup (aS rs),my pl] (wM ad k c (aK c names RL mk) s M) Q E
def EV(ad:Ad)(k:Wk)(c:Cf)(names:RN)(RL:List Rw)(mk:Str)(n:Nat):Prop:=∀(r:Rw)(pl:RM)(s:Sx)(M:Mem)(Q:DK)(E:DX),gE names c.m c.pieces.length r->3*hR r+1<=n->pl.length+2*hR r+1<=1000->NOk names c.m s.nums->s.steps.length<=c.most->
 Post ad k c (aK c names RL mk) (gn c r pl s) M .non Q E->OI ad n [.ref k.a,r.d,my pl] (wM ad k c (aK c names RL mk) s M) Q E
def PIf(ad:Ad)(k:Wk)(c:Cf)(names:RN)(RL:List Rw)(mk:Str)(n:Nat):Prop:=∀(x:Str)(a b:List Rw)(pl:RM)(s:Sx)(M:Mem)(Q:DK)(E:DX),gE names c.m c.pieces.length (.ifr x a b)->3*hR (.ifr x a b)<=n->pl.length+2*hR (.ifr x a b)+1<=1000->NOk names c.m s.nums->s.steps.length<=c.most->
 Post ad k c (aK c names RL mk) (gn c (.ifr x a b) pl s) M .non Q E->OG ad n [.ref k.a,(Rw.ifr x a b).d,my pl] (wM ad k c (aK c names RL mk) s M) Q E
def PAg(ad:Ad)(k:Wk)(c:Cf)(names:RN)(RL:List Rw)(mk:Str)(n:Nat):Prop:=∀(x:Str)(a:List Rw)(pl:RM)(s:Sx)(M:Mem)(Q:DK)(E:DX),gE names c.m c.pieces.length (.again x a)->3*hR (.again x a)<=n->pl.length+2*hR (.again x a)+1<=1000->NOk names c.m s.nums->s.steps.length<=c.most->
 Post ad k c (aK c names RL mk) (gn c (.again x a) pl s) M .non Q E->OH ad n [.ref k.a,(Rw.again x a).d,my pl] (wM ad k c (aK c names RL mk) s M) Q E
theorem vK(W:COk c)(T:EV ad k c names RL mk n):tP ad k c names RL mk (n+1):=by
 intro O pl s M Q E y P G A B h;simp![Hb,tR,cc,wZ]
 refine bf (λS U M'=>∃(l:List Rw)(j:Nat)(F:Sx)(J K:Option D),S=kE j (aS l)/\U=[al (.ref k.a),al (.tup<|aS O),al (my pl),J,K]/\M'=wM ad k c (aK c names RL mk) F M/\bS names c.m c.pieces.length l/\3*mI l+2<=n+1/\pl.length+2*mI l+2<=1000/\NOk names c.m F.nums/\F.steps.length<=c.most/\
  Post ad k c (aK c names RL mk) (bG c l pl j F) M .non Q E) (λ_ _ _ _=>bh) ?_ ?_ _ _ _ ⟨O,0,s,ee,ee,rfl,rfl,rfl,y,P,G,A,B,h⟩
 .rintro U M' ⟨l,j,F,J,K,I,rfl,rfl,y,P,G,A,B,h⟩
  cases l with
  |nil=>exact aj (by simpa [bG] using h.1 (by simp[bG]))
  |cons r O=>simp[aS,kE]at I
 .rintro x S U M' ⟨l,j,F,J,K,I,rfl,rfl,y,P,G,A,B,h⟩ D' R _ _ _
  cases l with
  |nil=>simp[aS,kE]at I
  |cons r l=>
   simp only[aS,kE,J7]at I;obtain⟨rfl,rfl⟩:=I;simp only[bS]at y;have X:hR r<=mI (r::l)/\mI l<=mI (r::l):=by simp only[mI];lia
   simp![my,Jr,Ji];refine⟨b9 (by decide),b9 (by lia),?_⟩
   rw[ei];refine b7 (r:=gn c r (pl++[(j:Int)]) F) (d:=.non) (λQ' E' z=>T r (pl++[(j:Int)]) F M Q' E' y.1 (by lia) (by simp;lia) A B z) ?_
   simp only[bG]at h;cases H:(gn c r (pl++[(j:Int)]) F).1 with
   |true=>
    rw[if_pos H]at h;refine⟨λ_=>R _ _ ⟨l,j+1,_,_,_,rfl,rfl,rfl,y.2,by lia,by lia,qg W r y.1 _ _ A,(qr r _ _).2 B,h⟩,λe=>by rw[H]at e;cases e⟩
   |false=>
    rw[if_neg (by rw[H];simp)]at h
    exact⟨λe=>(by rw[H]at e;cases e),λ_=>bj (h.2 H)⟩
theorem xi(l:names.length<=1000)(G:COk c)(H:PIf ad k c names RL mk n)(I:PAg ad k c names RL mk n):EV ad k c names RL mk (n+1):=by
 intro r pl s M Q E e J F j B h;cases r with
 |put x kk=>rw[bD rfl]at h;exact b_ l G j (by simpa only[gE] using e) h
 |take x kk=>rw[bD rfl]at h;exact b_ l G j (by simpa only[gE] using e) h
 |pick x kk=>rw[bD rfl]at h;exact b_ l G j (by simpa only[gE] using e) h
 |two w x y z=>rw[bD rfl]at h;exact b_ l G j (by simpa only[gE] using e) h
 |ifr x a b=>
  have A:=λQ' E' z=>H x a b pl s M Q' E' e (by lia) F j B z
  simp only[Rw.d]at A;simp![vB,nJ,Rw.d,atI_0];exact b7 A h.drp
 |again x a=>
  have A:=λQ' E' z=>I x a pl s M Q' E' e (by lia) F j B z
  simp only[Rw.d]at A;simp![vB,nJ,Rw.d,atI_0];exact b7 A h.drp
theorem BH(J:COk c)(H:tP ad k c names RL mk n):PIf ad k c names RL mk (n+1):=by
 intro x a b pl s M Q E y I F B G h;simp only[gE]at y;simp only[hR]at I F;simp![GZ,tV,Rw.d,eJ,lfl,atI_1,atI_2,atI_3];refine b7 (r:=nt c pl (lk s.nums x) s) (d:=.int (lk s.nums x)) (λQ' E' z=>lG J B y.1 z) ?_;have hl:lk s.nums x=0\/lk s.nums x=1:=by unfold lk;split<;>simp
 have l:NOk names c.m (nt c pl (lk s.nums x) s).2.nums:=by rw[jq];exact B
 have j:=(nt_gr (c:=c) (pl:=pl) (v:=lk s.nums x) (s:=s)).2 G;unfold gn at h;cases A:(nt c pl (lk s.nums x) s).1 with
 |false=>
  rw[if_neg (by rw[A];simp)]at h
  exact⟨λe=>(by rw[A]at e;cases e),λ_=>bj (h.2 A)⟩
 |true=>
  rw[if_pos A]at h;refine⟨λ_=>?_,λe=>by rw[A]at e;cases e⟩
  rcases hl with hl|hl
  .rw[if_neg (by rw[hl];decide)]at h
   rw[hl]at h l j ⊢;simp![atI_2,atI_3,my,Jr,Ji,show ((0:Int)=1)=False from eq_false (by decide)]
   refine⟨b9 (by decide),b9 (by lia),?_⟩
   rw[ei];exact b7 (λQ' E' z=>H b (pl++[0]) _ M Q' E' y.2.2 (by lia) (by simp;lia) l j z) h.drp
  .rw[if_pos hl]at h
   rw[hl]at h l j ⊢;simp![atI_2,atI_3,my,Jr,Ji];refine⟨b9 (by decide),b9 (by lia),?_⟩
   rw[ei];exact b7 (λQ' E' z=>H a (pl++[1]) _ M Q' E' y.2.1 (by lia) (by simp;lia) l j z) h.drp
end
section
variable{k:Wk}
theorem qm(W:COk c)(Z:tP ad k c names RL mk n):PAg ad k c names RL mk (n+1):=by
 intro x a pl s M Q E G Y P j F h;simp only[gE]at G;simp only[hR]at Y P;simp![IE,sX,Rw.d,dj];refine⟨c.most+1,?_⟩;unfold gn at h
 have S:∀(f t:Nat)(s:Sx)(J:dq)(K:ar)(DD:DEnds)(b:BxW J K DD),NOk names c.m s.nums->s.steps.length<=c.most->c.most<s.steps.length+f->
   J=ao (ai cP (aw<|bO ad.C_Walk "look" (lV ad) (av E) 3 (ac 0)<|aa (ai bz (ac 2)<|aN<|aa (ac 3) af)<|aa (ai aB (ac 1)<|dC<|.int 1) af)<|dC<|.int 1)->
   K=ah (aX<|ak (OF ad n) (av E) 3<|aa (ac 0)<|aa (ai aB (ac 1)<|dC<|.int 2)<|aa (ai bz (ac 2)<|aN<|aa (ac 3) af) af) (xa 3 (dC<|.int 1) t6)->
   DD.nx=(λ_ M'=>L3.drp Q .non M')->
   Post ad k c (aK c names RL mk) (hW c x pl (λt s=>bG c a (pl++[(t:Int)]) 0 s) f t s) M .non Q E->
   bv J K DD b f [al (.ref k.a),al (.tup [.str "again",.str x,.tup (aS a)]),al (my pl),al (.int (t:Int))] (wM ad k c (aK c names RL mk) s M):=by
  intro f
  induction f with
  |zero=>intro t s J K DD b j F X;lia
  |succ f ihf=>
   intro t s J K DD b j F X O R H h;unfold bv;subst O;simp![eJ,lfl,atI_1,my,Jr,Ji];refine⟨b9 (by decide),b9 (by lia),?_⟩
   rw[ei];refine b7 (r:=nt c (pl++[(t:Int)]) (lk s.nums x) s) (d:=.int (lk s.nums x)) (λQ' E' z=>lG W j G.1 z) ?_;have hl:lk s.nums x=0\/lk s.nums x=1:=by unfold lk;split<;>simp
   have A:NOk names c.m (nt c (pl++[(t:Int)]) (lk s.nums x) s).2.nums:=by rw[jq];exact j
   have y:=(nt_gr (c:=c) (pl:=pl++[(t:Int)]) (v:=lk s.nums x) (s:=s)).2 F;unfold hW at h;cases B:(nt c (pl++[(t:Int)]) (lk s.nums x) s).1 with
   |false=>
    rw[if_neg (by rw[B];simp)]at h
    exact⟨λe=>(by rw[B]at e;cases e),λ_=>bj (h.2 B)⟩
   |true=>
    rw[if_pos B]at h;refine⟨λ_=>?_,λe=>by rw[B]at e;cases e⟩
    have I:(nt c (pl++[(t:Int)]) (lk s.nums x) s).2.steps.length=s.steps.length+1:=by
     unfold nt at B ⊢
     split at B
     .rename_i q;rw[if_pos q];simp
     .cases B
    rcases hl with hl|hl
    .rw[if_neg (by rw[hl];decide)]at h
     rw[hl]at h ⊢;simp![show ((0:Int)=1)=False from eq_false (by decide)]
     rw[H];rw[hl]at B;exact aj (h.1 B)
    .rw[if_pos hl]at h
     rw[hl]at h A y I ⊢;simp![];subst R;simp![atI_2,my,Jr,Ji];refine⟨b9 (by decide),b9 (by lia),?_⟩
     rw[ei];refine b7 (r:=bG c a (pl++[(t:Int)]) 0 (nt c (pl++[(t:Int)]) 1 s).2) (λQ' E' z=>Z a (pl++[(t:Int)]) _ M Q' E' G.2 (by lia) (by simp;lia) A y z) ?_
     have T:=gc (c:=c) a (pl++[(t:Int)]) 0 (nt c (pl++[(t:Int)]) 1 s).2;cases l:(bG c a (pl++[(t:Int)]) 0 (nt c (pl++[(t:Int)]) 1 s).2).1 with
     |true=>
      rw[if_pos l]at h;refine⟨λ_=>?_,λe=>by rw[l]at e;cases e⟩
      simp![];exact ihf (t+1) _ _ _ _ _ (eE W a G.2 _ _ _ A) (T.2 y) (by have:=T.1;lia) rfl rfl H h
     |false=>
      rw[if_neg (by rw[l];simp)]at h
      exact⟨λe=>(by rw[l]at e;cases e),λ_=>bj (h.2 l)⟩
 exact S (c.most+1) 0 s _ _ _ _ j F (by lia) rfl rfl rfl h
theorem oa(e:names.length<=1000)(j:COk c):∀n:Nat,tP ad k c names RL mk n/\EV ad k c names RL mk n/\PIf ad k c names RL mk n/\PAg ad k c names RL mk n
 |0=>⟨λF pl s M Q E _ h=>by lia,λr pl s M Q E _ h=>by lia,λx a b pl s M Q E _ h=>by simp only[hR]at h;lia,λx a pl s M Q E _ h=>by simp only[hR]at h;lia⟩
 |n+1=>by
  obtain⟨l,B,A,y⟩:=oa e j n;exact⟨vK j B,xi e j A y,BH j l,qm j l⟩
end
theorem ow:∀(names:RN)(nums:RM)(j:ju),names.length=nums.length->(j.map (·.1)++names).Nodup->
  ((names.map λx=>(Jx x:ax)).zip<|nums.map D.int).foldl (λa p=>bX a p.1 p.2) (cX j)=cX (j++names.zip nums)
 |[],nums,j,_,_=>by simp
 |x::names,[],j,h,_=>by simp at h
 |x::names,v::nums,j,h,nd=>by
  have A:x∉j.map (·.1):=by
   have:=(MM.mp nd).2.2;exact λH=>this x H x (by simp) rfl
  have l:((cX j).any λB=>decide (B.1=Jx x))=false:=by
   rw[List.any_eq_false];intro p y;simp only[cX,JM]at y;obtain⟨q,F,rfl⟩:=y;simp only[decide_eq_true_eq];intro e;have:q.1=x:=NI e;exact A (by rw[<- this];exact Mv F)
  simp only[Jf,LD,JK];have G:bX (cX j) (Jx x) (.int v)=cX (j++[(x,v)]):=by
   unfold bX;rw[l];simp[cX]
  rw[G,ow names nums (j++[(x,v)]) (by simpa using h) (by simpa using nd)]
  simp
theorem dJ:∀names:List Str,eZ (names.map D.str)=al (names.map λx=>(Jx x:ax))
 |[]=>rfl
 |x::names=>by simp[eZ,bA,dJ names]
theorem gS(h:names.length=nums.length)(e:names.Nodup):lx (names.map λx=>(Jx x:ax)) (nums.map D.int)=cX (names.zip nums):=by
 have:=ow names nums [] h (by simpa using e)
 simpa [lx,cX] using this
theorem dp1{d:D}:bd "plan" d []=[(("plan":Str),d)]:=rfl
theorem dp2{a d:D}:bd "numbers" d [(("plan":Str),a)]=[(("plan":Str),a),(("numbers":Str),d)]:=rfl
theorem dp3{a b d:D}:bd "pieces" d [(("plan":Str),a),(("numbers":Str),b)]=[(("plan":Str),a),(("numbers":Str),b),(("pieces":Str),d)]:=rfl
theorem dp4{a b e d:D}:bd "most" d [(("plan":Str),a),(("numbers":Str),b),(("pieces":Str),e)]=[(("plan":Str),a),(("numbers":Str),b),(("pieces":Str),e),(("most":Str),d)]:=rfl
theorem dp5{a b e g d:D}:bd "steps" d [(("plan":Str),a),(("numbers":Str),b),(("pieces":Str),e),(("most":Str),g)]=[(("plan":Str),a),(("numbers":Str),b),(("pieces":Str),e),(("most":Str),g),(("steps":Str),d)]:=rfl
def dH(nums pieces:RM):D:=.tup [.tup (nums.map D.int),.tup (pieces.map D.int)]
section
theorem vE{a:eg}(O:M a=ee)(H:names.length=nums.length)(K:names.Nodup)(I:0<names.length)(J:names.length<=1000)(h:∀(k:Wk),k.a=a->M k.dn=ee->M k.ls=ee->Q .non (wM ad k c (aK c names rows mk) ⟨names.zip nums,[]⟩ M)):
  BY ad [.ref a,aK c names rows mk,dH nums c.pieces,.int (c.most:Nat)] (M.upd a<|.ins ad.C_Walk []) Q E:=by
 simp![u_q5,B6,aK,dH,Mem.upd_upd,atI_0,atI_1,dJ,Ji,dp1];refine⟨by decide,H,I,J,λdn y=>?_⟩
 have l:a≠dn:=Mem.ne Mem.upd_same y;have F:M dn=none:=by rw[ae (JI l)]at y;exact y
 simp![ae l,Mem.upd_same,dp2,aq (JI l),Mem.upd_upd,gS H K];refine⟨by simp,?_⟩
 simp![ae l,Mem.upd_same,dp3,aq (JI l),Mem.upd_upd];refine⟨by simp,?_⟩
 simp![ae l,Mem.upd_same,dp4,aq (JI l),Mem.upd_upd];refine⟨by simp,b9 (by simp),λls j=>?_⟩
 have B:a≠ls:=by
  intro e;subst e;rw[ae l,Mem.upd_same]at j;cases j
 have G:dn≠ls:=by
  intro e;subst e;rw[Mem.upd_same]at j;cases j
 have A:M ls=none:=by rw[ae (JI G),ae (JI B)]at j;exact j
 simp![ae B,ae l,Mem.upd_same,dp5];refine⟨by simp,aj ?_⟩
 have:=h ⟨a,dn,ls,l,B,G⟩ rfl F A;have e:wM ad ⟨a,dn,ls,l,B,G⟩ c (aK c names rows mk) ⟨names.zip nums,[]⟩ M=(((M.upd a<|.ins ad.C_Walk [("plan",aK c names rows mk),("numbers",.ref dn),("pieces",.tup (c.pieces.map D.int)),("most",.int (c.most:Nat))]).upd dn<|.dK<|cX<|names.zip nums).upd ls<|.lst []).upd a (.ins ad.C_Walk [("plan",aK c names rows mk),("numbers",.ref dn),("pieces",.tup (c.pieces.map D.int)),("most",.int (c.most:Nat)),("steps",.ref ls)]):=by
  unfold wM;rw[aq (JI B),aq (JI l),Mem.upd_upd];rfl
 rw[e]at this;exact this
def fV(c:Cf)(names:RN)(rows:List Rw)(nums:RM):Bool×Sx:=bG c rows [] 0 ⟨names.zip nums,[]⟩
def rP(names:RN)(r:Bool×Sx):D:=if r.1=true then .tup (names.map λx=>.int (nm r.2.nums x)) else .non
structure PlOk(c:Cf)(names:RN)(rows:List Rw)(nums:RM):Prop where
 co:COk c
 ln:names.length=nums.length
 nd:names.Nodup
 l0:0<names.length
 l1:names.length<=1000
 rng:∀v∈nums,0<=v/\v<c.m
 ok:bS names c.m c.pieces.length rows
 h:mI rows<=7
theorem pZ:∀{names:RN}{nums:RM},names.length=nums.length->(names.zip nums).map (·.1)=names
 |[],[],_=>rfl
 |[],_::_,h=>by simp at h
 |_::_,[],h=>by simp at h
 |x::xs,v::vs,h=>by simp[pZ (by simpa using h)]
theorem PlOk.nok(p:PlOk c names rows nums):NOk names c.m (names.zip nums):=⟨pZ p.ln,λq e=>p.rng _ (Mi e).2⟩
theorem zE(p:PlOk c names rows nums)(h:∀l,M l=ee->Q (.tup [.ref l,rP names (fV c names rows nums)]) (M.upd l<|.lst<|Cq (fV c names rows nums).2.steps)):
  pQ ad [aK c names rows mk,dH nums c.pieces,.int (c.most:Nat)] M Q E:=by
 simp![IP,tE];intro a Z;refine ap λQ' E' S _=>vE Z p.ln p.nd p.l0 p.l1 λk hk Y I=>S _ _ ?_;subst hk;have B:∀(X:Sx),∀b o,(M.upd k.ls<|.lst<|Cq X.steps) b=al o->wM ad k c (aK c names rows mk) X M b=al o:=by
  intro X b o e
  by_cases W:b=k.ls
  .subst W;rw[Mem.upd_same]at e;rw[CG];exact e
  .rw[ae W]at e
   have h2:b≠k.dn:=by rintro rfl;rw[Y]at e;cases e
   have h3:b≠k.a:=by rintro rfl;rw[Z]at e;cases e
   unfold wM;rw[ae W,ae h2,ae h3];exact e
 have hr:=(oa (ad:=ad) (k:=k) (RL:=rows) (mk:=mk) p.l1 p.co 24).1 rows [] ⟨names.zip nums,[]⟩ M;unfold aK at hr;simp![aK,atI_3];refine⟨b9 (by decide),?_⟩
 refine ap λQ2 E2 R O=>hr Q2 E2 p.ok (by have:=p.h;lia) (by have:=p.h;simp;lia) p.nok (Kv _) ⟨λe=>R _ _ ?_,λe=>O _ _ ⟨rfl,?_⟩⟩
 .have hn:NOk names c.m (fV c names rows nums).2.nums:=eE p.co rows p.ok [] 0 ⟨names.zip nums,[]⟩ p.nok
  have P:(fV c names rows nums).1=true:=e;simp![eJ,lf4,atI_1,bw]
  refine c_ (λT A U M'=>∃F j J,names=F++j/\T=j.map D.str/\A=F.map (λx=>D.int (nm (fV c names rows nums).2.nums x))/\U=[J,al (.ref k.a)]/\M'=wM ad k c (aK c names rows mk) (fV c names rows nums).2 M)
   (λ_ _ _ _ _=>bh) ?_ ?_ ?_ _ _ _ _ ⟨[],names,ee,rfl,rfl,rfl,rfl,rfl⟩
  .rintro A U M' ⟨F,j,J,G,H,rfl,rfl,rfl⟩
   have:j=[]:=by cases j with|nil=>rfl|cons _ _=>simp at H
   subst this;intro q S;simp![Mem.upd_upd,Mem.upd_del,ay S];refine⟨b9 (by decide),⟨_,B _,?_⟩⟩
   have:=h k.ls I;unfold rP at this;rw[if_pos P]at this;have en:F=names:=by simpa using G.symm
   rw[en];exact this
  .rintro x T A U M' ⟨F,j,J,G,H,rfl,rfl,rfl⟩ N hN _
   cases j with
   |nil=>simp at H
   |cons y j=>
    simp only[Jf,J7]at H;obtain⟨rfl,rfl⟩:=H;have hy:y∈names:=by rw[G];simp
    simp![eJ,kx,zY,cb,(hn.at hy).1,Kh];refine hN _ _ _ ?_ ⟨F++[y],j,_,by simp[G],rfl,by simp,rfl,rfl⟩
    have K:=congrArg LP G;have:=p.l1;simp at K ⊢;exact nB (by lia)
  .rintro x T A U M' ⟨F,j,J,G,H,rfl,rfl,rfl⟩
   have K:=congrArg LP G;have:=p.l1;simp at K ⊢;exact nB (by lia)
 .have P:(fV c names rows nums).1=false:=e
  simp![eJ,lf4];refine⟨b9 (by decide),⟨_,B _,?_⟩⟩
  have:=h k.ls I;unfold rP at this;rw[if_neg (by rw[P];simp)]at this
  exact this
end
structure Pt where
 p:eg
 q:eg
 ne:p≠q
def Has(k:Pt)(b:Nat)(M:Mem):Prop:=∃(cells:RM)(t h:Int),cells.length<=63/\0<=t/\t+b<=2 ^ 50/\M k.p=al (.lst [.ref k.q,.int t,.int h])/\M k.q=al (.lst<|cells.map D.int)
def Dr(k:Pt)(b:Nat)(M M':Mem):Prop:=Has k b M'/\∀x,x≠k.p->x≠k.q->M' x=M x
section
variable{k:Pt}{b c:Nat}{M1 M2:Mem}{l:eg}
theorem Has.le(h:Has k b M)(e:c<=b):Has k c M:=by
 obtain⟨j,t,A,B,G,H,y,F⟩:=h;exact⟨j,t,A,B,G,by lia,y,F⟩
theorem Dr.le(h:Dr k b M M1)(e:c<=b):Dr k c M M1:=⟨h.1.le e,h.2⟩
theorem IV(h:Has k b M):Dr k b M M:=⟨h,λ_ _ _=>rfl⟩
theorem Dr.trans(x:Dr k b M M1)(y:Dr k c M1 M2):Dr k c M M2:=⟨y.1,λz e h=>(y.2 z e h).trans (x.2 z e h)⟩
theorem Has.nep(h:Has k b M)(j:M l=ee):l≠k.p/\l≠k.q:=by
 obtain⟨y,t,F,_,_,_,A,B⟩:=h;exact⟨λe=>(by rw[e,A]at j;cases j),λe=>(by rw[e,B]at j;cases j)⟩
theorem Has.upd(h:Has k b M)(j:l≠k.p/\l≠k.q):Has k b (M.upd l o):=by
 obtain⟨e,t,B,F,H,y,A,G⟩:=h;exact⟨e,t,B,F,H,y,by rw[ae (JI j.1)];exact A,by rw[ae (JI j.2)];exact G⟩
theorem Dr.none(j:Has k c M)(h:Dr k b M M1)(e:M l=ee):M1 l=none:=by
 have:=j.nep e;rw[h.2 l this.1 this.2];exact e
end
theorem Au{α:Type}{x:α}{xs:List α}:atI (x::xs) 0=al x:=by rw[atI_0];rfl
theorem dR(h:0<m):0<=a % m/\a % m<m:=⟨K0 _ (by lia),Kw _ h⟩
theorem DR(h:0<=i)(e:i<n):qQ n i=al i.toNat:=by unfold qQ;rw[if_pos h,if_pos e]
theorem IF:qQ 3 1=al 1:=rfl
theorem Dw:qQ 3 2=al 2:=rfl
theorem mo{s u:ar}(h:s { D0 with nx:=u D0 } U M):ah s u D0 U M:=h
section
variable{k:Pt}
theorem xu{t e:Int}{A:D}{y j:Option D}(l:0<many)(H:0<=t)(B:t<2 ^ 51)(h:∀r,D0.rt (.int<|r % many) M):
  de ad EE D0 [al A,al (.int many),y,al (.int t),al (.int e),j] M:=by
 simp![];have G:=dR (a:=e) (m:=1000003) (by decide)
 have F:=dR (a:=(e % 1000003+1)*(7919*t*t+104729*t+12345)) (m:=2147483647) (by decide)
 exact⟨by decide,.inl ⟨by decide,by decide⟩,.inr ⟨by lia,by lia⟩,.inl ⟨by decide,by decide⟩,.inl ⟨by lia,by lia⟩,by decide,.inl ⟨by lia,by lia⟩,.inl ⟨by decide,by decide⟩,by decide,by decide,⟨by decide,by decide⟩,l,h _⟩
theorem vW{b:Nat}(hp:Has k (b+1) M)(A:0<many)(h1:many<2 ^ 62)(h:∀r M',0<=r->r<many->Dr k b M M'->Q (.int r) M'):cJ ad [.ref k.p,.int many] M Q E:=by
 obtain⟨cells,t,F,a1,a2,a3,W,e2⟩:=hp;have I:=k.ne;have l:∀(r O Y:Int)(M':Mem),(O=t\/O=t+1)->(∀x,x≠k.p->M' x=M x)->M' k.p=al (.lst [.ref k.q,.int O,.int Y])->drp Q (.int<|r % many) M':=λr O Y M' K H P=>
  aj (h _ _ (dR A).1 (dR A).2 ⟨⟨cells,O,Y,a1,by lia,by lia,P,by rw[H _ (JI I)];exact e2⟩,λx h1 _=>H x h1⟩)
 have g1:∀o,(M.upd k.p o) k.q=al (.lst<|cells.map D.int):=λo=>by rw[ae (JI I)];exact e2
 rw[HN (n:=0)];unfold tJ;generalize hG:({ nx:=λ_ M'=>drp Q .non M',rt:=drp Q }:DEnds)=G;have rt:G.rt=drp Q:=by rw[<- hG]
 generalize j:M.upd k.p (.lst [.ref k.q,.int (t+1),.int F])=M1;have R:M1 k.p=al (.lst [.ref k.q,.int (t+1),.int F]):=by rw[<- j];exact Mem.upd_same
 have q1:M1 k.q=al (.lst<|cells.map D.int):=by rw[<- j];exact g1 _
 have o1:∀x,x≠k.p->M1 x=M x:=λx B=>by rw[<- j];exact ae B
 have X:∀e:Int,fA ad (av E) G [al (.ref k.p),al (.int many),ee,al (.int t),al (.int e),ee] M1:=λe=>by
  unfold fA;have S:de ad (av E) G [al (.ref k.p),al (.int many),ee,al (.int t),al (.int e),ee] M1:=
   xu A a2 (by lia) λr=>by rw[rt];exact l r (t+1) F _ (.inr rfl) o1 R
  have T:f_ ad (av E) { G with nx:=de ad (av E) G } [al (.ref k.p),al (.int many),ee,al (.int t),al (.int e),ee] M1:=by
   unfold f_;generalize de ad (av E) G=K7;simp![R,Dw,rt];exact⟨⟨A,by lia⟩,A,l e (t+1) _ _ (.inr rfl) (λx B=>by rw[ae B];exact o1 x B) Mem.upd_same⟩
  generalize de ad (av E)=K7 at S T ⊢;generalize f_ ad (av E)=K4 at T ⊢;simp![R,Au,q1,Ji]
  by_cases H:t<(cells.length:Nat)
  .rw[if_pos H]
   refine⟨⟨by decide,by decide,by decide⟩,?_⟩
   by_cases P:10 ^ Int.toNat 18<=e
   .rw[if_pos P];exact T
   .rw[if_neg P];exact S
  .rw[if_neg H];exact S
 have Z:fK ad (av E) G [al (.ref k.p),al (.int many),ee,al (.int t),al (.int 0),ee] M1:=by
  unfold fK ms;generalize fA ad (av E)=K8 at X ⊢;simp![R,Au,q1,Ji]
  by_cases K:(0:Int)<(cells.length:Nat)
  .rw[if_pos K]
   have a4:=dR (a:=t) K;obtain⟨y,ey⟩:∃y,atI (cells.map D.int) (t % (cells.length:Nat))=al (.int y):=by
    have hr:(t % (cells.length:Nat)).toNat<cells.length:=by lia
    exact⟨cells[(t % (cells.length:Nat)).toNat],by rw[bK a4.1,Jw,Je hr];rfl⟩
   refine⟨K,?_⟩;rw[ey];exact X y
  .rw[if_neg K]
   exact X 0
 have J:dU ad (av E) G [al (.ref k.p),al (.int many),ee,ee,ee,ee] M:=by
  unfold dU k6 jP;generalize fK ad (av E)=K9 at Z ⊢;simp![W,atI_1,IF];rw[j];exact Z
 generalize dU ad (av E)=K12 at J ⊢;simp![W,atI_2]
 by_cases c:0<F
 .rw[if_pos c]
  simp![W,atI_2,Dw,rt];exact⟨A,⟨A,by lia⟩,l F t _ _ (.inl rfl) (λx B=>ae B) Mem.upd_same⟩
 .rw[if_neg c]
  exact J
theorem bg{b:Nat}{l:BxQ EE Q}(y:Has k (b+1) M)(A:0<many)(j:many<2 ^ 62)(h:∀r M',0<=r->r<many->Dr k b M M'->Q (.int r) M'):calls (cJ ad) EE [.ref k.p,.int many] M Q l:=
 ap λQ' E' e _=>vW y A j λr M' a b d=>e _ _ (h r M' a b d)
theorem BW{xs:List D}{k:Nat}:mC xs ee (al (k:Int))=xs.take k:=by
 unfold mC;rw[HT.wy,HT.Ca,List.drop_zero,Nat.sub_zero];rcases Nat.le_total k xs.length with h|h
 .rw[Nat.min_eq_left h]
 .rw[Nat.min_eq_right h,Ma (Jg _),Ma h]
theorem vQ{j:RM}(h:∀(k:Pt) M',Has k (2 ^ 49) M'->(∀b,b≠k.p->b≠k.q->M' b=M b)->Q (.ref k.p) M'):uA ad [.ml (j.map D.int)] M Q E:=by
 have l:mC (j.map D.int) ee (al 63)=(j.take 63).map D.int:=by rw[List.map_take];exact BW (k:=63)
 simp![GS,uL,l];intro b F;rw[Mem.upd_del,ay F];intro q G;refine⟨b9 (by decide),λp y=>?_⟩
 have ne:p≠q:=by intro e;subst e;rw[Mem.upd_same]at y;cases y
 refine aj (h ⟨p,q,ne⟩ _ ⟨j.take 63,0,0,by simp;lia,by decide,by decide,Mem.upd_same,?_⟩ λb A B=>?_)
 .show ((M.upd q _).upd p _) q=_
  rw[ae (JI ne),Mem.upd_same]
 .rw[ae A,ae B]
end
section
variable{te:aV}
theorem jo{tt:dq}{ok:Mem->Prop}{Q:List D->Mem->Prop}{b:BxC (ag 0) tt te ok Q}{rest:Dl}{c:Option D}{xs:List D}(p:D->Bool)(f:D->D)(S:ok M)(T:xs.length<=100000)(R:∀x∈xs,∀K:Bool->Mem->Prop,K (p x) M->tt (al x::rest) M K)(P:∀x∈xs,p x=true->∀K:DK,K (f x) M->te (al x::rest) M K)(h:Q ((xs.filter p).map f) M):
  cH (ag 0) tt te ok Q b xs [] (c::rest) M:=by
 refine c_ (λF e U N=>∃(j:List D)(A:Option D),xs=j++F/\e=(j.filter p).map f/\U=A::rest/\M=N) (λ_ _ _ _ z=>by obtain⟨_,_,_,_,_,rfl⟩:=z;exact S) ?_ ?_ ?_ _ _ _ _ ⟨[],c,rfl,rfl,rfl,rfl⟩
 .rintro e U N ⟨j,A,l,rfl,rfl,rfl⟩
  rw[JR]at l;subst l;exact h
 .rintro y F e U N ⟨j,A,l,rfl,rfl,rfl⟩ N' I H
  have J:y∈xs:=by rw[l];simp
  have G:=congrArg LP l;simp only[Jr,Jl]at G;have O:=Kg p j;simp only[ag,Jt];refine R y J _ ?_;cases B:p y with
  |true=>
   rw[if_pos rfl];exact P y J B _ (I _ _ _ (by rw[Ji];exact nB (by lia)) ⟨j++[y],_,by simp[l],by simp[B],rfl,rfl⟩)
  |false=>
   rw[if_neg (by simp)]
   exact H .non _ _ ⟨j++[y],_,by simp[l],by simp[B],rfl,rfl⟩
 .rintro y F e U N ⟨j,A,l,rfl,rfl,rfl⟩
  have G:=congrArg LP l;simp only[Jr,Jl]at G;have O:=Kg p j;rw[Ji];exact nB (by lia)
theorem ph{ok:Mem->Prop}{Q:List D->Mem->Prop}{b:BxC (ag 0) lY te ok Q}{rest:Dl}{c:Option D}{xs:List D}(f:D->D)(l:ok M)(y:xs.length<=100000)(j:∀x∈xs,∀K:DK,K (f x) M->te (al x::rest) M K)(h:Q (xs.map f) M):cH (ag 0) lY te ok Q b xs [] (c::rest) M:=by
 refine jo (λ_=>true) f l y (λx _ K q=>q) (λx e _=>j x e) ?_;rw[Mw.mpr λ_ _=>rfl];exact h
end
instance lawKey:LawfulBEq ax where
 eq_of_beq {a b} h:=by
  cases a<;>cases b
  .exact congrArg Kb (eq_of_beq (α:=Int) h)
  .cases h
  .cases h
  .exact congrArg Jx (eq_of_beq (α:=Str) h)
 rfl {a}:=by
  cases a
  .exact beq_self_eq_true (α:=Int) _
  .exact beq_self_eq_true (α:=Str) _
def kD:ax->D
 |.inl i=>.int i
 |.inr x=>.str x
theorem Ex(a b:ax):aG (kD a) (kD b)=decide (a=b):=by
 cases a<;>cases b<;>simp[kD,aG]
theorem zU(n:Nat)(a:ax):bn n (kD a)=true:=by cases a<;>cases n<;>rfl
theorem sV(n:Nat):∀ks:List ax,cR n (ks.map kD)=true
 |[]=>by cases n<;>rfl
 |k::ks=>by simp only[Jf,cR,zU,sV n ks,NH]
theorem FU{k:ax}:((ks.map kD).any λd=>aG d (kD k))=decide (k∈ks):=by
 induction ks with
 |nil=>rfl
 |cons a ks ih=>
  rw[Jf,Kn,ih,Ex]
  by_cases h:a=k
  .simp[h]
  .have:¬k=a:=λe=>h e.symm
   simp[h,this]
def zq(ks:List ax):D:=.lst (ks.map kD)
theorem Ii{k:ax}:dv M (kD k)=kD k:=by cases k<;>rfl
def IsMx(M:Mem)(d:D)(ks:List ax):Prop:=d=zq ks\/∃p,d=.ref p/\M p=al (.lst<|ks.map kD)
theorem IsMx.mx:IsMx M (zq ks) ks:=.inl rfl
theorem IsMx.sD{d:D}(h:IsMx M d ks):aT M d=al (ks.map kD):=by
 rcases h with rfl|⟨p,rfl,e⟩
 .rfl
 .simp only[aT,e]
theorem IsMx.sL{d:D}(h:IsMx M d ks):cQ M d=al (ks.map kD):=by
 rcases h with rfl|⟨p,rfl,e⟩
 .rfl
 .simp only[cQ,e]
theorem IsMx.go{d:D}(h:IsMx M d ks)(k:∀p xs,M p=al (.lst xs)->M' p=al (.lst xs)):IsMx M' d ks:=h.imp (λe=>e) λ⟨p,e,q⟩=>⟨p,e,k p _ q⟩
theorem IsMx.tup{M:Mem}{d:D}{ks:List ax}{K:DK}(h:IsMx M d ks)(q:K (.tup<|ks.map kD) M):e_ [d] M K:=by
 have e:=h.sL;rcases h with rfl|⟨p,rfl,_⟩
 .exact q
 .simp only[e_,e];exact q
theorem ya{d:D}{k:ax}(h:IsMx M d ks):pe M (kD k) d=al (decide (k∈ks)):=by
 unfold pe;simp only[h.sD,Ii,zU,sV,and_self,if_true,FU]
structure Cse where
 w:Int
 many:Nat
 names:List Str
 rows:List Rw
 mn:Str
 most:Nat
structure Sta where
 nums:List Int
 pieces:List Int
def Sta.d(s:Sta):D:=dH s.nums s.pieces
def Cse.cf(C:Cse)(s:Sta):Cf:=⟨C.w,s.pieces,C.most⟩
def Cse.d(C:Cse):D:=.tup [.int C.w,.tup (C.names.map D.str),.int (C.many:Nat),.tup (aS C.rows),.str C.mn]
structure Cse.Ok(C:Cse):Prop where
 m2:2<=C.w
 m1:C.w<=997
 few:C.many<=100
 most:C.most<=10000
 nd:C.names.Nodup
 l0:0<C.names.length
 l1:C.names.length<=100
 ok:bS C.names C.w C.many C.rows
 h:mI C.rows<=7
 mn:C.mn∈C.names
structure SOk(C:Cse)(s:Sta):Prop where
 ln:s.nums.length=C.names.length
 lp:s.pieces.length=C.many
 rn:∀v∈s.nums,0<=v/\v<C.w
 rp:∀v∈s.pieces,0<=v/\v<C.w
def wO(mk:Str)(r:Bool×Sx):D:=if r.1=true then .int (nm r.2.nums mk) else .non
def Cse.run(C:Cse)(s:Sta):Bool×Sx:=fV (C.cf s) C.names C.rows s.nums
def Cse.mark(C:Cse)(s:Sta):D:=wO C.mn (C.run s)
section
theorem Cse.Ok.pl(o:C.Ok)(k:SOk C s):PlOk (C.cf s) C.names C.rows s.nums:=
 ⟨⟨o.m2,o.m1,k.rp,by show s.pieces.length<=1000;rw[k.lp];have:=o.few;lia,o.most⟩,k.ln.symm,o.nd,o.l0,by have:=o.l1;lia,k.rn,by show bS C.names C.w s.pieces.length C.rows;rw[k.lp];exact o.ok,o.h⟩
theorem SOk.pd(k:SOk C s):C.d=aK (C.cf s) C.names C.rows C.mn:=by unfold Cse.d aK Cse.cf;rw[k.lp]
theorem qq(C:Cse)(s:Sta):C.mark s=.non\/∃v,C.mark s=.int v:=by
 unfold Cse.mark wO
 split
 .exact .inr ⟨_,rfl⟩
 .exact .inl rfl
theorem pC(h:Q (C.mark s) M):frz (C.mark s) M Q:=by rcases qq C s with e|⟨v,e⟩<;>rw[e]at h ⊢<;>exact h
theorem rj{mk:Str}:∀{names:RN},mk∈names->∃j,names.findIdx? (λy=>decide (y=mk))=al j/\names[j]?=al mk
 |[],h=>by simp at h
 |x::names,h=>by
  by_cases e:x=mk
  .subst e;exact⟨0,by simp[OE],rfl⟩
  .have A:mk∈names:=by
    rcases Jq.mp h with z|z
    .exact absurd z.symm e
    .exact z
   obtain⟨j,l,B⟩:=rj A;exact⟨j+1,by simp[OE,e,l],by simpa using B⟩
theorem fc:∀names:List Str,gA (names.map D.str)=al names
 |[]=>rfl
 |x::names=>by rw[Jf,gA,fc names]
def FR(names:RN)(r:Bool×Sx):D:=.tup [.lst (Cq r.2.steps),rP names r]
theorem wN{b:BxQ EE λd M'=>oX d M' Q}(p:PlOk c names rows nums)(h:Q (FR names<|fV c names rows nums) M):
  calls (pQ ad) EE [aK c names rows mk,dH nums c.pieces,.int (c.most:Nat)] M (λd M'=>oX d M' Q) b:=by
 refine ap λQ' E' y _=>zE p λl j=>y _ _ ?_;unfold FR rP at h;unfold rP;cases e:(fV c names rows nums).1 with
 |true=>
  rw[e,if_pos rfl]at h;rw[if_pos rfl];simp![Mem.upd_del,ay j];exact h
 |false=>
  rw[e,if_neg (by simp)]at h
  rw[if_neg (by simp)]
  simp![Mem.upd_del,ay j];exact h
theorem vI(p:PlOk c names rows nums)(B:mk∈names)(h:Q (wO mk<|fV c names rows nums) M):lr ad [aK c names rows mk,dH nums c.pieces,.int (c.most:Nat)] M Q E:=by
 have l1:=p.l1;obtain⟨j,l,A⟩:=rj B;simp![HC,tm];refine wN p ?_;simp![FR,atI_1];unfold wO at h;unfold rP;cases e:(fV c names rows nums).1 with
 |true=>
  rw[e,if_pos rfl]at h;rw[if_pos rfl];simp![aK,atI_1,atI_4,fc,l];refine⟨l1,?_⟩;have y:atI (names.map λx=>D.int (nm (fV c names rows nums).2.nums x)) (j:Nat)=al (.int<|nm (fV c names rows nums).2.nums mk):=by
   rw[bK (by lia),JL,Jw,A];rfl
  simp![y];exact aj h
 |false=>
  rw[e,if_neg (by simp)]at h
  rw[if_neg (by simp)]
  simp![];exact aj h
theorem lL{b:BxQ EE Q}(o:C.Ok)(k:SOk C s)(h:Q (C.mark s) M):calls (lr ad) EE [C.d,s.d,.int (C.most:Nat)] M Q b:=by
 refine aI (d:=C.mark s) (λQ' E' q=>?_) h;rw[k.pd];exact vI (o.pl k) o.mn q
def bQ(C:Cse)(s t:Sta):D:=.tup [C.d,s.d,t.d,.int (C.most:Nat)]
def dW(C:Cse):List ax:=C.names.map Jx++(Km C.many).map λ(i:Nat)=>Kb (i:Int)
def bc(C:Cse)(s:Sta):ax->Int
 |.inl i=>(s.pieces[i.toNat]?).getD 0
 |.inr x=>nm (C.names.zip s.nums) x
theorem xL:∀{names:RN}{nums:RM}{j:Nat}{x:Str},names.Nodup->names.length=nums.length->names[j]?=al x->nums[j]?=al (nm (names.zip nums) x)
 |[],_,j,x,_,_,h=>by simp at h
 |y::names,[],j,x,_,h,_=>by simp at h
 |y::names,v::nums,0,x,nd,hl,h=>by
  simp at h;subst h;simp[nm,gN]
 |y::names,v::nums,j+1,x,nd,hl,h=>by
  simp only[Ja]at h ⊢;have l:=Kz.mp nd;have A:¬y=x:=λe=>l.1 (e▸Og h);rw[xL l.2 (by simpa using hl) h]
  simp[nm,gN,A]
theorem mG{k:ax}(h:k∈dW C):(∃x,x∈C.names/\k=.inr x)\/∃i:Nat,i<C.many/\k=.inl (i:Int):=by
 rcases Mj.mp h with q|q
 .obtain⟨x,e,rfl⟩:=JM.mp q
  exact .inl ⟨x,e,rfl⟩
 .obtain⟨i,j,rfl⟩:=JM.mp q
  exact .inr ⟨i,Mp.mp j,rfl⟩
theorem lQ(o:C.Ok)(k:SOk C s){t:ax}(h:t∈dW C):0<=bc C s t/\bc C s t<C.w:=by
 rcases mG h with⟨x,e,rfl⟩|⟨i,hi,rfl⟩
 .exact((o.pl k).nok.at e).2
 .exact((o.pl k).co.piece (i:=(i:Int).toNat)<|by show _<s.pieces.length;rw[k.lp];lia).2
theorem cr(o:C.Ok)(k:SOk C s){t:ax}(B:t∈dW C)(h:Q (.int<|bc C s t) M):gZ ad [C.d,s.d,kD t] M Q E:=by
 have l1:=o.l1;rcases mG B with⟨x,y,rfl⟩|⟨i,hi,rfl⟩
 .obtain⟨j,l,A⟩:=rj y
  have e:atI (s.nums.map D.int) (j:Nat)=al (.int<|nm (C.names.zip s.nums) x):=by
   rw[bK (by lia),JL,Jw,xL o.nd k.ln.symm A];rfl
  simp![D6,oj,kD,Cse.d,Sta.d,dH,gR,vL,atI_0,atI_1,fc,l,LQ,MN,LU,KC,Mc];refine⟨by lia,?_⟩
  simp![e];exact aj h
 .have e:atI (s.pieces.map D.int) (i:Nat)=al (.int<|(s.pieces[(i:Int).toNat]?).getD 0):=by
   rw[bK (by lia),JL,Jw,Je (by rw[k.lp];exact hi)];rfl
  simp![D6,oj,kD,Cse.d,Sta.d,dH,gR,vL,atI_0,atI_1,e,LQ,MN,LU,KC,Mc,Nt,KN];exact aj h
end
theorem whT{e:dq}{j:ar}{l:BxW e j D'}(y:∀K:Bool->Mem->Prop,K true M->e U M K)(h:j { D' with nx:=bv e j D' l n,ct:=bv e j D' l n,bk:=D'.nx } U M):bv e j D' l (n+1) U M:=by
 unfold bv;refine y _ ?_;rw[if_pos rfl];exact h
theorem whF{e:dq}{j:ar}{l:BxW e j D'}(y:∀K:Bool->Mem->Prop,K eo M->e U M K)(h:D'.nx U M):bv e j D' l (n+1) U M:=by
 unfold bv;refine y _ ?_;rw[if_neg (by simp)]
 exact h
theorem dQ{xs:List D}(e:M p=ee)(h:Q (.lst xs) M):frz (.ref p) (M.upd p<|.lst xs) Q:=by
 simp only[frz,Mem.upd_same,Mem.upd_del,ay e];exact h
section
def cM(C:Cse)(s t:Sta):List ax:=(dW C).filter λk=>decide (bc C s k≠bc C t k)
theorem pk(o:C.Ok)(h:∀p,M p=ee->Q (.ref p) (M.upd p<|.lst<|(dW C).map kD)):om ad [C.d] M Q E:=by
 have l1:=o.l1;have few:=o.few;rw[IT (n:=0)];unfold sx Cse.d;simp![atI_1,atI_2];intro B l;simp only[Mem.upd_del,ay l];refine⟨⟨by lia,by lia⟩,λF A=>?_⟩
 simp only[Mem.upd_del,ay A];refine⟨b9 (by simp[dy];lia),λj y=>aj ?_⟩
 have:=h j y;have e:(dW C).map kD=C.names.map D.str++dy 0 (Int.toNat (C.many:Nat)):=by simp only[dW,dy,Ml,Ly,JL];congr 1;exact KW λi _=>by simp[kD]
 rw[e]at this;exact this
theorem xf(o:C.Ok)(B:SOk C s)(F:SOk C t)(h:∀p,M p=ee->Q (.ref p) (M.upd p<|.lst<|(cM C s t).map kD)):ut ad [C.d,s.d,t.d] M Q E:=by
 have l1:=o.l1;have few:=o.few;have G:(dW C).length=C.names.length+C.many:=by simp[dW]
 rw[HF (n:=0)];unfold uK;simp only[aC,bw,cC,aw,ak,aa,ac,af,Ja,dt];refine⟨rfl,ap λQ' E' A _=>pk o λp j=>A _ _ (dQ j ?_)⟩;simp only[aT,bB,bU,Jf,JZ,JU,JE,Ja,dt,Lk];refine jo (λd=>match bA d with|some k=>decide (bc C s k≠bc C t k)|none=>eo) id bh (by simp;lia) (λx l K q=>?_) (λx l _ K q=>q) ?_
 .obtain⟨k,y,rfl⟩:=JM.mp l
  simp only[ao,ai,aw,ak,aa,ac,af,Ja,dt];refine⟨rfl,aI (λ_ _ q=>cr o B y q) ?_⟩;refine⟨rfl,aI (λ_ _ q=>cr o F y q) ?_⟩;show bn 60 (.int _)=true/\bn 60 (.int _)=true/\_;refine⟨rfl,rfl,?_⟩;have e:bA (kD k)=al k:=by cases k<;>rfl
  simp only[e]at q;simpa [dv,aG] using q
 .intro p j
  have e:(((dW C).map kD).filter λd=>match bA d with|some k=>decide (bc C s k≠bc C t k)|none=>eo).map id=(cM C s t).map kD:=by
   rw[Mq,Mm];congr 1;refine List.filter_congr λk _=>?_;cases k<;>rfl
  rw[e];exact aj (h p j)
theorem eX{b:Int}(o:C.Ok)(l:SOk C s)(A:SOk C t)(ea:C.mark s=.int a)(y:C.mark t=.int b)(e:a≠b)(h:Q (.tup [.int a,.int b]) M):lH ad [bQ C s t] M Q E:=by
 rw[HP (n:=0)];unfold ua mY;generalize j:iw ad (av E)=K;simp![bQ,atI_0,atI_1,atI_2,atI_3];refine lL o l (pC ?_);rw[ea];simp![];refine lL o A (pC ?_);rw[y];simp![Jt];rw[<- j];unfold iw nY;simp![e,decide_false];exact⟨b9 (by decide),aj h⟩
theorem ig{b:Int}{m:D}(e:m=.non\/∃v,m=.int v)(h:Q (.str (if aG m (.int a)=true then "sound" else if aG m (.int b)=true then "faulty" else "other")) M):t_ ad [.tup [.int a,.int b],m] M Q E:=by
 rcases e with rfl|⟨v,rfl⟩
 .simp![CS,pz,atI_0,atI_1]
  exact aj h
 .simp![CS,pz,atI_0,atI_1]
  simp only[aG,decide_eq_true_eq]at h
  split
  .rename_i q;rw[if_pos q]at h;exact aj h
  .rename_i q;rw[if_neg q]at h
   split
   .rename_i q;rw[if_pos q]at h;exact aj h
   .rename_i q;rw[if_neg q]at h;exact aj h
end
section
variable{κ:Type}[DecidableEq κ]
theorem Bt{l:List (κ×D)}{k j:κ}{v:D}:(bH (bX l k v) j).isSome=(decide (j=k)||(bH l j).isSome):=by
 unfold bX
 split
 .rename_i h
  induction l with
  |nil=>simp at h
  |cons p r ih=>
   obtain⟨B,I⟩:=p;simp only[Jf,bH,Kj] at*
   by_cases e:B=k
   .subst e
    by_cases y:B=j
    .subst y;simp
    .have G:¬j=B:=λz=>y z.symm
     simp only[if_pos,y,decide_false,G,KC]
     by_cases F:(r.any λA=>decide (A.1=B))=true
     .have:=ih F
      simp only[G,decide_false,KC]at this;exact this
     .have:r.map (λA=>if A.1=B then (A.1,v) else A)=r:=by
       conv=>rhs;rw[<- Mq r]
       refine KW λq H=>?_;have:¬q.1=B:=λz=>F (List.any_eq_true.mpr ⟨q,H,by simp[z]⟩)
       simp[this]
      rw[this]
   .rw[if_neg e]
    by_cases y:B=j
    .subst y;simp
    .simp only[y,decide_false]
     exact ih (by simpa [e] using h)
 .rename_i h
  unfold bH;rw[List.find?_append];cases q:l.find? λA=>decide (A.1=j) with
  |some x=>simp
  |none=>
   by_cases e:j=k
   .subst e;simp
   .have y:¬k=j:=λz=>e z.symm
    simp[e,y]
theorem jD{h:List (κ×D)}{j:κ}:∀{a0:List (κ×D)},(bH (h.foldl (λa p=>bX a p.1 p.2) a0) j).isSome=(decide (j∈h.map (·.1))||(bH a0 j).isSome):=by
 induction h with
 |nil=>simp
 |cons p r ih=>
  intro a0;rw[JK,ih,Bt,Jf]
  by_cases e:j=p.1
  .simp[e]
  .simp only[Jq,e,false_or,decide_false,KC]
theorem Bj{j:List (κ×D)}:∀{a0:List (κ×D)},(a0.map (·.1)++j.map (·.1)).Nodup->j.foldl (λa p=>bX a p.1 p.2) a0=a0++j:=by
 induction j with
 |nil=>simp
 |cons p r ih=>
  intro a0 h;rw[JK];have e:bX a0 p.1 p.2=a0++[p]:=by
   unfold bX;rw[if_neg];intro z;obtain⟨q,l,e⟩:=List.any_eq_true.mp z;have e:=of_decide_eq_true e;rw[Jf]at h;exact(MM.mp h).2.2 q.1 (Mv l) p.1 Jp e
  rw[e,ih]
  .simp
  .simpa using h
end
def uD(u:List ax):List (ax×D):=u.map λk=>(k,D.bl true)
theorem jv:(uD u).map (·.1)=u:=by
 unfold uD;rw[Ly];exact Mq u
theorem je{k:ax}:(bH (uD u) k).isSome=decide (k∈u):=by
 have:=@jD ax _ (uD u) k [];rw[jv]at this
 induction u with
 |nil=>rfl
 |cons a r ih=>
  unfold uD bH;rw[Jf,Kj]
  by_cases e:a=k
  .subst e;simp
  .have h:¬k=a:=λz=>e z.symm
   simp only[e,decide_false,Jq,h,false_or];exact ih (@jD ax _ (uD r) k [] |>.trans (by rw[jv]))
theorem oo{k:ax}:li (uD u) k=uD (u.filter λx=>decide (x≠k)):=by
 unfold li uD;rw[Mm];rfl
theorem gQ:∀ks:List ax,va (ks.map λk=>D.tup [kD k,.bl true])=al (uD ks)
 |[]=>rfl
 |k::ks=>by
  have e:bA (kD k)=al k:=by cases k<;>rfl
  simp only[Jf,va,e,gQ ks];rfl
section
theorem fw{k:ax}:bA (kD k)=al k:=by cases k<;>rfl
theorem mT{a:eg}{e:List (ax×D)}{k:ax}(h:M a=al (.dK e)):pe M (kD k) (.ref a)=al (bH e k).isSome:=by
 unfold pe;have:aT M (.ref a)=none:=by simp only[aT,h]
 rw[this];unfold mh;simp only[h,fw]
theorem nj(o:C.Ok)(P:ks.length<=1000)(h:∀p,M p=ee->Q (.ref p) (M.upd p<|.lst<|((dW C).filter λk=>decide (k∈ks)).map kD)):sw ad [C.d,zq ks] M Q E:=by
 have l1:=o.l1;have few:=o.few;have T:(dW C).length=C.names.length+C.many:=by simp[dW]
 rw[Ho (n:=0)];unfold ub;generalize F:iR ad (av E)=K;unfold zq;simp only[ah,au,ce,aa,aw,bw,cC,ac,af,Ja,dt,aT,bB,bU,Jf,JZ,JU,JE];refine ph (λd=>.tup [d,.bl true]) bh (by simp;lia) (λx y K q=>?_) ?_
 .simp only[aN,aa,ac,dC,af,Ja,dt]
  exact⟨b9 (by simp),q⟩
 .intro p B
  refine dQ B ?_;have e:(ks.map kD).map (λd=>D.tup [d,.bl true])=ks.map λk=>D.tup [kD k,.bl true]:=by simp
  rw[e];simp only[gK,A9,cQ,gQ];refine⟨trivial,by simp[uD];lia,λG I=>?_⟩
  simp only[ag,Jt];rw[<- F];unfold iR;simp only[aC,bw,cC,aw,ak,aa,ac,af,Ja,dt];refine⟨rfl,ap λQ' E' H _=>pk o λS O=>H _ _ (dQ O ?_)⟩;simp only[aT,bB,bU,Jf,JZ,JU,JE,Ja,dt,Lk];refine jo (λd=>match bA d with|some k=>decide (k∈ks)|none=>eo) id bh (by simp;lia) (λx y K q=>?_) (λx y _ K q=>q) ?_
  .obtain⟨k,P,rfl⟩:=JM.mp y
   simp only[fw]at q;simp only[ao,ai,ac,Ja,dt,vt,mT (Mem.upd_same),jD,jv];simpa [bH] using q
  .intro j l
   have e:(((dW C).map kD).filter λd=>match bA d with|some k=>decide (k∈ks)|none=>eo).map id=((dW C).filter λk=>decide (k∈ks)).map kD:=by
    rw[Mq,Mm];congr 1;refine List.filter_congr λk _=>?_;simp only[Function.comp,fw]
   rw[e];have J:j≠G:=λz=>by rw[z,Mem.upd_same]at l;cases l
   rw[ae J]at l;refine⟨M.upd j (.lst<|((dW C).filter λk=>decide (k∈ks)).map kD),λb R e=>?_,h j l⟩
   by_cases A:b=j
   .subst A;rw[Mem.upd_same]at e ⊢;exact e
   .rw[ae A]at e ⊢
    rw[ae (λz=>by rw[z,I]at e;cases e)]
    exact e
def dw:Rw->List Str
 |.pick _ y=>[y]
 |.two _ _ y z=>[y,z]
 |.ifr x _ _=>[x]
 |.again x _=>[x]
 |_=>[]
theorem jK(l:gE names m many r)(h:∀p,M p=ee->Q (.ref p) (M.upd p<|.lst<|(dw r).map D.str)):Br ad [r.d] M Q E:=by
 cases r with
 |put x k=>simp![vi,mS,Rw.d,atI_0];exact⟨b9 (by decide),λp e=>aj (h p e)⟩
 |take x i=>simp![vi,mS,Rw.d,atI_0];exact⟨b9 (by decide),λp e=>aj (h p e)⟩
 |pick x y=>simp![vi,mS,Rw.d,atI_0];exact λp e=>aj (h p e)
 |two w x y z=>
  obtain⟨j,_⟩:=l;rcases j with rfl|rfl|rfl|rfl<;>(simp![vi,mS,Rw.d,atI_0];exact λp e=>aj (h p e))
 |ifr x a b=>simp![vi,mS,Rw.d,atI_0,atI_1];exact⟨b9 (by decide),λp e=>aj (h p e)⟩
 |again x a=>simp![vi,mS,Rw.d,atI_0,atI_1];exact⟨b9 (by decide),λp e=>aj (h p e)⟩
end
structure Gk where
 a:eg
 dn:eg
 lp:eg
 du:eg
 h1:a≠dn
 h2:a≠lp
 h3:a≠du
 h4:dn≠lp
 h5:dn≠du
 h6:lp≠du
structure Gs where
 n:ju
 ps:List Int
 u:List ax
 td:List Rw
 left:Int
def kI:List Rw->D
 |[]=>.non
 |r::rs=>.tup [r.d,kI rs]
def gF(k:Gk)(td:D)(left:Int):List (Str×D):=[("numbers",.ref k.dn),("pieces",.ref k.lp),("unsettled",.ref k.du),("todo",td),("left",.int left)]
def gM(ad:Ad)(k:Gk)(g:Gs)(M:Mem):Mem:=(((M.upd k.a<|.ins ad.C_Going<|gF k (kI g.td) g.left).upd k.dn<|.dK<|cX g.n).upd k.lp<|.lst<|g.ps.map D.int).upd k.du (.dK<|uD g.u)
section
variable{k:Gk}
theorem dZ:gM ad k g M k.du=al (.dK<|uD g.u):=by unfold gM;rw[Mem.upd_same]
theorem lR:gM ad k g M k.lp=al (.lst<|g.ps.map D.int):=by unfold gM;rw[ae k.h6,Mem.upd_same]
theorem dY:gM ad k g M k.dn=al (.dK<|cX g.n):=by unfold gM;rw[ae k.h5,ae k.h4,Mem.upd_same]
theorem bJ:gM ad k g M k.a=al (.ins ad.C_Going<|gF k (kI g.td) g.left):=by unfold gM;rw[ae k.h3,ae k.h2,ae k.h1,Mem.upd_same]
theorem i9(e:b≠k.a)(l:b≠k.dn)(j:b≠k.lp)(h:b≠k.du):gM ad k g M b=M b:=by
 unfold gM;rw[ae h,ae j,ae l,ae e]
structure Gk.Fr(k:Gk)(M:Mem):Prop where
 a:M k.a=ee
 dn:M k.dn=ee
 lp:M k.lp=ee
 du:M k.du=ee
theorem bu(h:gM ad k g M b=ee):b≠k.a/\b≠k.dn/\b≠k.lp/\b≠k.du/\M b=none:=by
 have e:b≠k.a:=λz=>by rw[z,bJ]at h;cases h
 have l:b≠k.dn:=λz=>by rw[z,dY]at h;cases h
 have j:b≠k.lp:=λz=>by rw[z,lR]at h;cases h
 have y:b≠k.du:=λz=>by rw[z,dZ]at h;cases h
 rw[i9 e l j y]at h;exact⟨e,l,j,y,h⟩
theorem bF(f:k.Fr M)(e:M b=al o):gM ad k g M b=al o:=by
 rw[i9 (λz=>by rw[z,f.a]at e;cases e) (λz=>by rw[z,f.dn]at e;cases e) (λz=>by rw[z,f.lp]at e;cases e) (λz=>by rw[z,f.du]at e;cases e)]
 exact e
theorem nU(f:k.Fr M){h:MO}(e:M b=al o):(gM ad k g M).upd b h=gM ad k g (M.upd b h):=by
 have l:k.a≠b:=λz=>by rw[<- z,f.a]at e;cases e
 have y:k.dn≠b:=λz=>by rw[<- z,f.dn]at e;cases e
 have A:k.lp≠b:=λz=>by rw[<- z,f.lp]at e;cases e
 have j:k.du≠b:=λz=>by rw[<- z,f.du]at e;cases e
 unfold gM;rw[aq j,aq A,aq y,aq l]
theorem tS:(gM ad k g M).upd k.a (.ins ad.C_Going<|gF k (kI td) left)=gM ad k { g with td:=td,left:=left } M:=by
 unfold gM;rw[aq (JI k.h3),aq (JI k.h2),aq (JI k.h1),Mem.upd_upd]
theorem CF{n:ju}:(gM ad k g M).upd k.dn (.dK<|cX n)=gM ad k { g with n:=n } M:=by
 unfold gM;rw[aq (JI k.h5),aq (JI k.h4),Mem.upd_upd]
theorem Ir{ps:RM}:(gM ad k g M).upd k.lp (.lst<|ps.map D.int)=gM ad k { g with ps:=ps } M:=by
 unfold gM;rw[aq (JI k.h6),Mem.upd_upd]
theorem CA:(gM ad k g M).upd k.du (.dK<|uD u)=gM ad k { g with u:=u } M:=by
 unfold gM;rw[Mem.upd_upd]
end
section
variable{k:Gk}{td:D}
theorem Df:Jz ("numbers":Str) (gF k td left)=al (.ref k.dn):=rfl
theorem gf1:Jz ("pieces":Str) (gF k td left)=al (.ref k.lp):=rfl
theorem CW:Jz ("unsettled":Str) (gF k td left)=al (.ref k.du):=rfl
theorem EH:Jz ("todo":Str) (gF k td left)=al td:=rfl
theorem gf4:Jz ("left":Str) (gF k td left)=al (.int left):=rfl
theorem gfs:Jz ("settled":Str) (gF k td left)=none:=rfl
theorem Fg{d:D}:bd "todo" d (gF k td left)=gF k d left:=rfl
theorem gfp4:bd "left" (.int v) (gF k td left)=gF k td v:=rfl
theorem gfl:(gF k td left).length=5:=rfl
end
section
theorem cT{B:List Rw}(h:Q (kI (B++td)) M):k9 ad [.tup (aS B),kI td] M Q E:=by
 rw[Iv (n:=0)];unfold tH;simp only[ah,cc,DZ,aa,ac,af,Ja,dt];refine bf (λG U N=>∃(c:Option D)(j A:List Rw),B=j++A/\G=(aS j).reverse/\U=[al (.tup<|aS B),al (kI (A++td)),c]/\N=M) (λ_ _ _ _=>bh) ?_ ?_ _ _ _ ⟨ee,B,[],by simp,rfl,rfl,rfl⟩
 .rintro U N ⟨c,j,A,F,l,rfl,rfl⟩
  have:j=[]:=by
   cases j with
   |nil=>rfl
   |cons a b=>rw[aS]at l;simp at l
  subst this;rw[JE]at F;subst F;simp only[aC,ac,Ja,dt];exact aj h
 .rintro y G U N ⟨c,j,A,F,l,rfl,rfl⟩ D' H _ _ _
  obtain⟨e,r,rfl⟩:∃e r,j=e++[r]:=by
   rcases List.eq_nil_or_concat j with z|⟨e,r,z⟩
   .subst z;rw[aS]at l;simp at l
   .exact⟨e,r,by simpa using z⟩
  rw[gL,Ml,List.reverse_append]at l;simp only[Jf,JZ,List.reverse_cons,List.reverse_nil,JE,JU,J7]at l;obtain⟨rfl,rfl⟩:=l;simp only[ag,Jt];unfold mL;simp only[au,aN,aa,ac,af,ag,Jt,Ja,dt];exact⟨b9 (by simp),H _ _ ⟨_,e,r::A,by simp[F],by rw[gL],rfl,rfl⟩⟩
end
structure GOk(C:Cse)(g:Gs):Prop where
 n:NOk C.names C.w g.n
 lp:g.ps.length=C.many
 rp:∀v∈g.ps,0<=v/\v<C.w
 td:bS C.names C.w C.many g.td
def Gs.cf(C:Cse)(g:Gs):Cf:=⟨C.w,g.ps,C.most⟩
section
theorem GOk.pd(k:GOk C g):C.d=aK (g.cf C) C.names C.rows C.mn:=by unfold Cse.d aK Gs.cf;rw[k.lp]
theorem GOk.co(k:GOk C g)(o:C.Ok):COk (g.cf C):=⟨o.m2,o.m1,k.rp,by show g.ps.length<=_;rw[k.lp];have:=o.few;lia,o.most⟩
def yd(C:Cse)(n:ju):Rw->Option Int
 |.take _ i=>al i
 |.pick _ y=>al (nm n y % (C.many:Int))
 |_=>ee
def Fp(o:Option Int):D:=match o with
 |some i=>.int i
 |none=>.non
theorem ji(h:gE names m many r)(e:dF r=true):gw names m many r:=by
 cases r<;>first|exact h|cases e
end
section
theorem gT{l:eg}(k:GOk C g)(B:gE C.names C.w C.many r)(A:M l=al (.dK<|cX g.n))(h:Q (Fp<|yd C g.n r) M):jZ ad [C.d,.ref l,r.d] M Q E:=by
 cases j:dF r with
 |true=>
  rw[k.pd];refine bC (c:=g.cf C) (names:=C.names) k.n (by have:=ji B j;rw[<- k.lp]at this;exact this) A ?_
  have e:((g.cf C).pieces.length:Int)=(C.many:Int):=by show ((g.ps.length:Nat):Int)=_;rw[k.lp]
  cases r with
  |pick x y=>
   show Q (.int<|nm g.n y % ((g.cf C).pieces.length:Int)) M;rw[e];exact h
  |_=>exact h
 |false=>
  cases r with
  |ifr x a b=>simp![lq,g8,Cse.d,Rw.d,atI_0,atI_2];exact aj h
  |again x a=>simp![lq,g8,Cse.d,Rw.d,atI_0,atI_2];exact aj h
  |_=>cases j
theorem qZ{J lp:eg}(o:C.Ok)(k:GOk C g)(W:gE C.names C.w C.many r)(O:dF r=true)(S:M J=al (.dK<|cX g.n))(T:M lp=al (.lst<|g.ps.map D.int))(h:Q (.int<|cN (g.cf C) g.n r) M):
  kh ad [C.d,.ref J,.ref lp,r.d] M Q E:=by
 have hm1:=o.m1;have X:=o.m2;have hc:=k.co o;have e:=ji W O;have G:=k.lp;have A:∀i:Nat,i<C.many->(g.ps.map D.int)[i]?=al (.int<|(g.ps[i]?).getD 0):=λi hi=>by
  rw[Jw,Je (by lia)];rfl
 have l:∀{K:DK},K (Fp<|yd C g.n r) M->∀Q' E',(∀d M,K d M->Q' d M)->jZ ad [C.d,.ref J,r.d] M Q' E':=λ{K} q Q' E' j=>gT k W S (j _ _ q);have B:C.d=.tup [.int C.w,.tup (C.names.map D.str),.int (C.many:Nat),.tup (aS C.rows),.str C.mn]:=rfl;cases r with
 |put x v=>
  simp![hZ,dS,B,Rw.d,atI_0,atI_2];exact aj h
 |take x i=>
  obtain⟨R,F,h1⟩:=e;have I:=A i.toNat (by lia)
  rw[Rw.d]at l ⊢;simp![hZ,dS,atI_0,atI_2];refine ap λQ' E' j _=>l (K:=λd M=>_) ?_ Q' E' j;simp![yd,Fp,T,bK F,I];exact aj h
 |pick x y=>
  obtain⟨R,P,F⟩:=e;have g0:=K0 (nm g.n y) (show (C.many:Int)≠0 by lia)
  have g1:=Kw (nm g.n y) F;have I:=A (nm g.n y % (C.many:Int)).toNat (by lia)
  have e2:cN (g.cf C) g.n (.pick x y)=(g.ps[(nm g.n y % (C.many:Int)).toNat]?).getD 0:=by show (g.ps[(nm g.n y % (g.ps.length:Int)).toNat]?).getD 0=_;rw[G]
  rw[e2]at h;rw[Rw.d]at l ⊢;simp![hZ,dS,atI_0,atI_2];refine ap λQ' E' j _=>l (K:=λd M=>_) ?_ Q' E' j;simp![yd,Fp,T,bK g0,I];exact aj h
 |two w x y z=>
  obtain⟨hw,R,P,Y⟩:=e;have Z:=k.n.at P;have a2:=k.n.at Y;have H:((w=JH "put")=False):=by rcases hw with rfl|rfl|rfl|rfl<;>exact eq_false (by decide +kernel)
  rw[Rw.d]at l ⊢;simp![hZ,dS,atI_0,atI_2,H];refine ap λQ' E' j _=>l (K:=λd M=>_) ?_ Q' E' j;simp![yd,Fp,B,atI_0,atI_2,atI_3,S,cb,Z.1,a2.1,Kh];exact aI (d:=.int (cN (g.cf C) g.n<|.two w x y z)) (λ_ _ q=>h_ (by lia) (by lia) (by lia) q) (aj h)
 |ifr=>cases O
 |again=>cases O
end
def bV(C:Cse)(g:Gs)(r:Rw):Option ax:=
 if g.u=[] then ee else match (dW C).filter λk=>decide (k∈((dw r).filter λx=>decide ((Jx x:ax)∈g.u)).map Jx) with
  |k::_=>al k
  |[]=>match yd C g.n r with
   |some i=>if (Kb i:ax)∈g.u then al (.inl i) else ee
   |none=>ee
def wv:Option ax->D
 |some k=>kD k
 |none=>.non
section
variable{k:Gk}
theorem Aq(h:gE names m many r):∀x∈dw r,x∈names:=by
 cases r with
 |put=>simp[dw]
 |take=>simp[dw]
 |pick x y=>intro z e;simp[dw]at e;subst e;exact h.2.1
 |two w x y z=>intro v j;simp[dw]at j;rcases j with rfl|rfl;exact h.2.2.1;exact h.2.2.2
 |ifr x a b=>intro z e;simp[dw]at e;subst e;exact h.1
 |again x a=>intro z e;simp[dw]at e;subst e;exact h.1
theorem xM:(dw r).length<=2:=by cases r<;>simp[dw]
theorem EK:(uD u).isEmpty=u.isEmpty:=by cases u<;>rfl
theorem zL:pe (gM ad k g M) (.str x) (.ref k.du)=al (decide ((Jx x:ax)∈g.u)):=by
 have:=mT (k:=.inr x) (dZ (ad:=ad) (k:=k) (g:=g) (M:=M));rw[je]at this;exact this
theorem m7(o:C.Ok)(ok:GOk C g)(S:gE C.names C.w C.many r)(h:Q (wv<|bV C g r) (gM ad k g M)):tj ad [C.d,.ref k.a,r.d] (gM ad k g M) Q E:=by
 have J:=Aq S;have O:=xM (r:=r);rw[GX (n:=0)];unfold ue;generalize R:iL ad (av E)=K5;simp only[ah,aU,FP,i6,aO,ac,Ja,dt,bJ,CW,CU,dZ,EK];refine⟨trivial,?_⟩;unfold bV at h;cases X:g.u with
 |nil=>
  rw[if_pos X]at h;simp only[MX,KA,Bool.not_false,if_true,aC,dC];exact aj h
 |cons u0 ur=>
  rw[if_neg (by rw[X];simp)]at h
  rw[if_neg (by simp)]
  simp only[aP];rw[<- R];unfold iL;generalize G:iN ad (av E)=K4;simp only[ah,kn,mU,bw,cC,aw,ak,aa,ac,af,Ja,dt];refine⟨rfl,ap λQ' E' P _=>jK S λp j=>P _ _ (dQ j ?_)⟩;simp only[aT,bB,bU,Jf,JZ,JU,JE,Ja,dt,Lk];refine jo (λd=>match d with|.str x=>decide ((Jx x:ax)∈g.u)|_=>eo) id bh (by simp;lia) (λx l K q=>?_) (λx l _ K q=>q) ?_
  .obtain⟨y,hy,rfl⟩:=JM.mp l
   simp only[ao,ai,ac,aO,Ja,dt,bJ,CW,vt,zL];exact⟨trivial,q⟩
  .intro p j
   generalize F:((dw r).filter λx=>decide ((Jx x:ax)∈g.u))=fnd at h;have e:(((dw r).map D.str).filter λd=>match d with|.str x=>decide ((Jx x:ax)∈g.u)|_=>eo).map id=(fnd.map Jx).map kD:=by
    rw[Mq,Mm,<- F,Ly];rfl
   have hfn:∀x∈fnd,x∈C.names:=λx l=>by rw[<- F]at l;exact J x (JQ.mp l).1
   have hfl:fnd.length<=2:=by rw[<- F];exact JC (Kg _ _) O
   rw[e];simp only[jr,Jt,Ja,dt];refine dQ (Q:=λd M'=>K4 _ [al C.d,al (.ref k.a),al r.d,al d,ee] M') j ?_;rw[<- G];unfold iN;generalize H:jw ad (av E)=K3;simp only[ah,aU,i6,ac,Ja,dt,CU];cases A:fnd with
   |nil=>
    have hz:((dW C).filter λk=>decide (k∈(fnd.map Jx:List ax)))=[]:=by rw[A];simp
    rw[hz]at h;simp only[JZ,MX,KA];rw[if_neg (by simp)]
    simp only[aP];rw[<- H];unfold jw mj;simp only[ah,au,aw,ak,aa,ac,af,aO,Ja,dt,bJ,Df];refine⟨trivial,rfl,aI (λ_ _ q=>gT ok S dY q) ?_⟩;cases j:yd C g.n r with
    |none=>
     simp only[j]at h;simp only[Fp,frz,ag,Jt,aC,kH,ao,ai,ac,dC,aO,Ja,dt,bJ,CW,zN,rW,dZ];refine⟨trivial,?_⟩;rw[if_neg (by simp)]
     exact aj h
    |some i=>
     simp only[j]at h;have I:=mT (k:=.inl i) (dZ (ad:=ad) (k:=k) (g:=g) (M:=M));rw[je]at I;simp only[kD]at I;simp only[Fp,frz,ag,Jt,aC,kH,ao,ai,ac,dC,aO,Ja,dt,bJ,CW,zN,rW,I];refine⟨trivial,?_⟩
     by_cases c:(Kb i:ax)∈g.u
     .rw[if_pos c]at h
      rw[if_pos (by simpa using c)]
      exact aj h
     .rw[if_neg c]at h
      rw[if_neg (by simpa using c)]
      exact aj h
   |cons f0 fr=>
    have B:∃W Y,((dW C).filter λk=>decide (k∈(fnd.map Jx:List ax)))=W::Y:=by
     have:(Jx f0:ax)∈(dW C).filter λk=>decide (k∈(fnd.map Jx:List ax)):=by
      refine JQ.mpr ⟨Lp _ (Mv<|hfn f0<|by rw[A];simp),?_⟩
      rw[A];simp
     cases q:(dW C).filter λk=>decide (k∈(fnd.map Jx:List ax)) with
     |nil=>rw[q]at this;cases this
     |cons a b=>exact⟨a,b,rfl⟩
    obtain⟨W,Y,T⟩:=B;rw[T]at h;simp only at h;have Z:((f0::fr).map (Jx:Str->ax)).map kD≠[]:=by simp
    rw[if_pos (by simp)]
    unfold mZ;simp only[aC,ai,aw,ak,aa,ac,af,dC,Ja,dt];refine⟨rfl,ap λQ' E' P _=>nj (ks:=(f0::fr).map Jx) o (by rw[<- A,Ji];lia) λp j=>P _ _ (dQ j ?_)⟩
    rw[<- A,T];simp only[aB,aT,Jf,atI_0,dt];exact aj h
end
theorem okRs_app{names:RN}{m many:Int}:∀{a b:List Rw},bS names m many (a++b)↔bS names m many a/\bS names m many b
 |[],b=>by simp[bS]
 |r::a,b=>by simp[bS,okRs_app,and_assoc]
def eM(C:Cse)(g:Gs)(rest:List Rw):Rw->Gs
 |.ifr x a b=>{ g with left:=g.left-1,td:=(if nm g.n x=0 then b else a)++rest }
 |.again x a=>{ g with left:=g.left-1,td:=if nm g.n x=0 then rest else a++(.again x a::rest) }
 |r=>{ g with left:=g.left-1,td:=rest,n:=sN g.n (kj r) (cN (g.cf C) g.n r),u:=g.u.filter λk=>decide (k≠.inr (kj r)) }
theorem pT:(eM C g rest r).left=g.left-1:=by cases r<;>rfl
section
variable{k:Gk}
theorem xx(o:C.Ok)(ok:GOk C g)(h:gE C.names C.w C.many r)(e:dF r=true):0<=cN (g.cf C) g.n r/\cN (g.cf C) g.n r<C.w:=
 uP (ok.co o) (names:=C.names) ok.n (by have:=ji h e;rw[<- ok.lp]at this;exact this)
theorem xI(o:C.Ok)(ok:GOk C g)(e:g.td=r::rest):GOk C (eM C g rest r):=by
 have h:=ok.td;rw[e]at h;obtain⟨A,j⟩:=h;have l:dF r=true->GOk C { g with left:=g.left-1,td:=rest,n:=sN g.n (kj r) (cN (g.cf C) g.n r),u:=g.u.filter λk=>decide (k≠.inr (kj r)) }:=λB=>
  ⟨xq (c:=g.cf C) ok.n (xx o ok A B),ok.lp,ok.rp,j⟩
 cases r with
 |ifr x a b=>
  refine⟨ok.n,ok.lp,ok.rp,okRs_app.mpr ⟨?_,j⟩⟩
  split
  .exact A.2.2
  .exact A.2.1
 |again x a=>
  refine⟨ok.n,ok.lp,ok.rp,?_⟩;show bS _ _ _ (if nm g.n x=0 then rest else a++(.again x a::rest))
  split
  .exact j
  .exact okRs_app.mpr ⟨A.2,A,j⟩
 |put x v=>exact l rfl
 |take x v=>exact l rfl
 |pick x y=>exact l rfl
 |two w x y z=>exact l rfl
theorem FH(h:gw names m many r):kj r∈names:=by
 cases r with
 |put x v=>exact h.1
 |take x v=>exact h.1
 |pick x v=>exact h.1
 |two w x y z=>exact h.2.1
 |ifr=>exact h.elim
 |again=>exact h.elim
theorem xX:Gg (gM ad k g M) (.ref k.du)=true:=by simp only[Gg,dZ]
theorem A6{k:ax}(h:k∉u):u.filter (λx=>decide (x≠k))=u:=Mw.mpr λx e=>by
 have:x≠k:=λz=>h (z▸e);simp[this]
theorem EF(o:C.Ok)(ok:GOk C g)(l:gE C.names C.w C.many r)(j:dF r=true)(h:D'.nx [al C.d,al (.ref k.a),al r.d] (gM ad k { g with n:=sN g.n (kj r) (cN (g.cf C) g.n r),u:=g.u.filter λk=>decide (k≠.inr (kj r)) } M)):
  gJ ad EE D' [al C.d,al (.ref k.a),al r.d] (gM ad k g M):=by
 have A:=FH (ji l j);have e:∀{M:Mem}{K:DK},K (.str<|kj r) M->aB r.d (.int 1) M K:=λq=>by
  cases r with
  |ifr=>cases j
  |again=>cases j
  |_=>simp only[Rw.d,aB,aT,atI_1,Ja,dt];exact q
 have keys:kj r∈g.n.map (·.1):=by rw[ok.n.keys];exact A
 unfold gJ qv;simp only[ah,au,aw,ak,aa,ac,af,aO,Ja,dt,bJ,Df,gf1];refine⟨trivial,trivial,rfl,aI (λ_ _ q=>qZ o ok l j dY lR q) ?_⟩;simp only[frz,kR,aO,ai,ac,dC,Ja,dt,bJ,Df];refine⟨trivial,e ?_⟩;have F:(cX g.n).length<sizeLine:=by
  have G:(cX g.n).length=C.names.length:=by rw[<- ok.n.keys];simp[cX]
  have:=o.l1;exact nB (by lia)
 simp only[rf,dY,bA,m4 keys,CF];refine⟨F,?_⟩;simp only[aX,xO,aO,ai,ac,dC,Ja,dt,bJ,CW,xX];refine⟨trivial,trivial,e ?_⟩;simp only[dZ,bA];cases y:bH (uD g.u) (.inr<|kj r) with
 |some v=>simp only[oo,CA];exact h
 |none=>
  have B:(Jx (kj r):ax)∉g.u:=λz=>by
   have:=je (u:=g.u) (k:=.inr (kj r));rw[y]at this;simp[z]at this
  rw[A6 B]at h;exact h
theorem qK(o:C.Ok)(ok:GOk C g)(e:g.td=r::rest)(h:Q .non (gM ad k (eM C g rest r) M)):Cm ad [C.d,.ref k.a,r.d] (gM ad k g M) Q E:=by
 have H:=ok.td;rw[e]at H;obtain⟨J,A⟩:=H;have B:GOk C { g with td:=rest,left:=g.left-1 }:=⟨ok.n,ok.lp,ok.rp,A⟩;rw[u_q7 (n:=0)];unfold Ab qf;generalize hK:m3 ad (av E)=K;have T:kI g.td=.tup [r.d,kI rest]:=by rw[e];rfl
 have u1:=tS (ad:=ad) (k:=k) (g:=g) (M:=M) (td:=g.td) (left:=g.left-1);simp only[ah,mB,bP,aO,ai,ac,dC,Ja,dt,bJ,gf4,gfl,gfp4,u1];refine⟨trivial,by decide,trivial,trivial,?_⟩
 have Z:=tS (ad:=ad) (k:=k) (g:={ g with left:=g.left-1 }) (M:=M) (td:=rest) (left:=g.left-1);simp only[EH,T,aB,aT,atI_1,Ja,dt,bJ,gfl,Fg,Z];refine⟨trivial,by decide,?_⟩
 rw[<- hK];unfold m3 qX;have F:dF r=true->∀{D':DEnds}{EE:DX},D'.nx [al C.d,al (.ref k.a),al r.d] (gM ad k (eM C g rest r) M)->gJ ad EE D' [al C.d,al (.ref k.a),al r.d] (gM ad k { g with td:=rest,left:=g.left-1 } M):=λI D' EE q=>EF o B J I (by
  cases r with
  |ifr=>cases I
  |again=>cases I
  |_=>exact q)
 generalize W:gJ ad (av E)=K5;have j:dF r=true->K5 { nx:=λ_ M'=>drp Q .non M',rt:=drp Q } [al C.d,al (.ref k.a),al r.d] (gM ad k { g with td:=rest,left:=g.left-1 } M):=λI=>by
  rw[<- W];exact F I (aj h)
 cases r with
 |ifr x a b=>
  have P:x∈C.names:=J.1;have R:=(B.n.at P).1;have S:=λl=>tS (ad:=ad) (k:=k) (g:={ g with td:=rest,left:=g.left-1 }) (M:=M) (td:=l) (left:=g.left-1);have G:∀l:List Rw,(eM C g rest<|.ifr x a b).td=l++rest->calls (k9 ad) (av E) [.tup (aS l),kI rest] (gM ad k { g with td:=rest,left:=g.left-1 } M) (λd M'=>frz d M' λy M1=>match M1 k.a with
    |some (MO.ins C' fs)=>C'=ad.C_Going/\fs.length<1000/\drp Q D.non (M1.upd k.a<|MO.ins ad.C_Going<|bd (JH "todo") y fs)
    |_=>False) ⟨⟩:=λl Y=>by
   refine aI (λ_ _ q=>cT q) ?_;have O:∀{l:List Rw}{M:Mem}{Q:DK},Q (kI l) M->frz (kI l) M Q:=λ{l} {M} {Q} q=>by cases l<;>exact q
   refine O ?_;simp only[bJ,gfl,Fg,S];rw[<- Y];exact⟨trivial,by decide,aj h⟩
  simp only[Rw.d];simp![atI_0,atI_1,atI_2,atI_3,bJ,Df,EH,dY,cb,R,Kh]
  by_cases c:nm g.n x=0
  .simp only[c,decide_true,if_true]
   exact G b (by simp only[eM,c,if_true])
  .simp only[c,decide_false]
   exact G a (by simp only[eM,c,if_false])
 |again x a=>
  have P:x∈C.names:=J.1;have R:=(B.n.at P).1;have S:=λl=>tS (ad:=ad) (k:=k) (g:={ g with td:=rest,left:=g.left-1 }) (M:=M) (td:=l) (left:=g.left-1);simp only[Rw.d];simp![atI_0,atI_1,atI_2,bJ,Df,EH,dY,cb,R,Kh]
  by_cases c:nm g.n x=0
  .simp only[c,decide_true,KA]
   refine aj ?_;have:eM C g rest (.again x a)={ g with td:=rest,left:=g.left-1 }:=by simp only[eM,c,if_true]
   rw[<- this];exact h
  .simp only[c,decide_false,Bool.not_false,if_true]
   refine⟨b9 (by decide),?_⟩
   refine aI (λ_ _ q=>cT (td:=.again x a::rest) q) ?_;have O:∀{l:List Rw}{M:Mem}{Q:DK},Q (kI l) M->frz (kI l) M Q:=λ{l} {M} {Q} q=>by cases l<;>exact q
   refine O ?_;simp only[ac,Ja,dt,bJ,gfl,Fg,S];have:eM C g rest (.again x a)={ g with td:=a++(.again x a::rest),left:=g.left-1 }:=by simp only[eM,c,if_false]
   rw[<- this];exact⟨trivial,by decide,aj h⟩
 |put x v=>simp only[Rw.d]at j ⊢;simp![atI_0];exact j rfl
 |take x v=>simp only[Rw.d]at j ⊢;simp![atI_0];exact j rfl
 |pick x y=>simp only[Rw.d]at j ⊢;simp![atI_0];exact j rfl
 |two w x y z=>
  obtain⟨X,_⟩:=J;have h1:((w=JH "if")=False):=by rcases X with rfl|rfl|rfl|rfl<;>exact eq_false (by decide +kernel)
  have h2:((w=JH "again")=False):=by rcases X with rfl|rfl|rfl|rfl<;>exact eq_false (by decide +kernel)
  simp only[Rw.d]at j ⊢;simp![atI_0,h1,h2];exact j rfl
end
def bo(C:Cse):Nat->Gs->Option ax×Gs
 |0,g=>(ee,g)
 |f+1,g=>match g.td with
  |[]=>(if (Jx C.mn:ax)∈g.u then al (.inr C.mn) else ee,g)
  |r::rest=>if g.left<=0 then (ee,g) else match bV C g r with
   |some k=>(al k,g)
   |none=>bo C f (eM C g rest r)
section
variable{k:Gk}
theorem y2:jY (kI td)=td.isEmpty:=by cases td<;>rfl
theorem sf(o:C.Ok):∀(f:Nat)(g:Gs),GOk C g->GOk C (bo C f g).2
 |0,g,h=>h
 |f+1,g,h=>by
  unfold bo;cases e:g.td with
  |nil=>exact h
  |cons r rest=>
   dsimp only
   split
   .exact h
   .cases a:bV C g r with
    |some k=>exact h
    |none=>exact sf o f _ (xI o h e)
theorem Bh{F G:Option D}(o:C.Ok)(ok:GOk C g)(e:g.td=r::rest)(P:g.left<=0->D'.rt .non (gM ad k g M))(R:¬g.left<=0->∀q,bV C g r=al q->D'.rt (kD q) (gM ad k g M))(h3:¬g.left<=0->bV C g r=ee->∀F G,D'.nx [al C.d,al (.ref k.a),F,G] (gM ad k (eM C g rest r) M)):eG ad EE D' [al C.d,al (.ref k.a),F,G] (gM ad k g M):=by
 have h:=ok.td;rw[e]at h;obtain⟨O,l⟩:=h;have B:kI g.td=.tup [r.d,kI rest]:=by rw[e];rfl
 unfold eG;generalize A:jc ad EE=K4;simp only[ah,aU,ao,ai,aO,ac,dC,Gh,oP,Ja,dt,bJ,gf4];refine⟨trivial,?_⟩
 by_cases j:g.left<=0
 .rw[if_pos (by simpa using j)]
  exact P j
 .rw[if_neg (by simpa using j)]
  simp only[aP];rw[<- A];unfold jc nk;generalize y:iU ad EE=K2;simp only[ah,au,ai,aO,ac,dC,Ja,dt,bJ,EH,B,aB,aT,atI_0,ag,Jt,aw,ak,aa,af];refine⟨trivial,rfl,aI (λ_ _ q=>m7 o ok O q) ?_⟩;have K:∀{q:Option ax}{M:Mem}{Q:DK},Q (wv q) M->frz (wv q) M Q:=λ{q} {M} {Q} z=>by
   cases q with
   |none=>exact z
   |some k=>cases k<;>exact z
  refine K ?_;rw[<- y];unfold iU nR;have J:jY (wv<|bV C g r)=(bV C g r).isNone:=by
   cases bV C g r with
   |none=>rfl
   |some k=>cases k<;>rfl
  simp only[ah,aU,ao,ai,ac,dC,eQ,Ja,dt,J];cases H:bV C g r with
  |some q=>
   rw[if_pos (by simp)]
   exact R j q H
  |none=>
   rw[if_neg (by simp)]
   simp only[aP,aX,ak,aa,ac,af,Ja,dt];exact⟨rfl,ap λQ' E' I _=>qK o ok e (I _ _<|h3 j H _ _)⟩
theorem lu{EE:DX}{D':DEnds}{G:BxW (ao<|ai eQ (aO ad.C_Going (ac 1) "todo")<|dC .non) (eG ad EE) D'}(o:C.Ok):∀(f:Nat)(g:Gs)(h j:Option D),GOk C g->g.left<f->
  (∀h j g',(bo C f g)=(if (Jx C.mn:ax)∈g'.u then al (.inr C.mn) else ee,g')->g'.td=[]->D'.nx [al C.d,al (.ref k.a),h,j] (gM ad k g' M))->
  (∀g' q,bo C f g=(q,g')->D'.rt (wv q) (gM ad k g' M))->0<=g.left->
  bv (ao<|ai eQ (aO ad.C_Going (ac 1) "todo")<|dC .non) (eG ad EE) D' G (f+1) [al C.d,al (.ref k.a),h,j] (gM ad k g M)
 |0,g,h,j,ok,hf,h1,h2,h0=>by lia
 |f+1,g,h,j,ok,hf,h1,h2,h0=>by
  have y:∀K:Bool->Mem->Prop,K (!g.td.isEmpty) (gM ad k g M)->ao (ai eQ (aO ad.C_Going (ac 1) "todo")<|dC .non) [al C.d,al (.ref k.a),h,j] (gM ad k g M) K:=λK q=>by
   simp only[ao,ai,aO,ac,dC,Ja,dt,bJ,EH,eQ,y2];exact⟨trivial,q⟩
  cases e:g.td with
  |nil=>
   refine whF (λK q=>y K (by rw[e];exact q)) (h1 h j g ?_ e)
   unfold bo;rw[e]
  |cons r rest=>
   have l:bo C (f+1) g=if g.left<=0 then (ee,g) else match bV C g r with
    |some k=>(al k,g)
    |none=>bo C f (eM C g rest r):=by conv=>lhs;unfold bo;rw[e]
   have F:(eM C g rest r).left=g.left-1:=pT;refine whT (λK q=>y K (by rw[e];exact q)) (Bh o ok e (λA=>?_) (λA q B=>?_) λA B h j=>?_)
   .rw[if_pos A]at l
    exact h2 g ee l
   .rw[if_neg A,B]at l
    exact h2 g (al q) l
   .rw[if_neg A,B]at l
    exact lu o f _ _ _ (xI o ok e) (by lia) (λh j g' q=>h1 h j g' (l.trans q)) (λg' q z=>h2 g' q (l.trans z)) (by lia)
theorem wg{f:Nat}(o:C.Ok)(ok:GOk C g)(A:0<=g.left)(y:g.left<f)(h:Q (wv (bo C f g).1) (gM ad k (bo C f g).2 M)):uI ad [C.d,.ref k.a] (gM ad k g M) Q E:=by
 rw[GT (n:=0)];unfold s_;simp only[ah,dj];refine⟨f+1,lu o f g _ _ ok y (λB F l e _=>?_) (λl q e=>?_) A⟩
 .unfold nN
  rw[e]at h;have j:C.d=.tup [.int C.w,.tup (C.names.map D.str),.int (C.many:Nat),.tup (aS C.rows),.str C.mn]:=rfl;simp only[j,aC,kH,ao,ai,aO,ac,dC,Ja,dt,aB,aT,atI_4,bJ,CW,vt,zL];refine⟨trivial,?_⟩
  by_cases c:(Jx C.mn:ax)∈l.u
  .simp only[if_pos c,wv,kD]at h
   rw[if_pos (by simpa using c)]
   exact aj h
  .simp only[if_neg c,wv]at h
   rw[if_neg (by simpa using c)]
   exact aj h
 .rw[e]at h
  exact aj h
def GU(C:Cse)(g:Gs):D:=if g.td=[] then .int (nm g.n C.mn) else .non
theorem oM(o:C.Ok)(ok:GOk C g)(h:Q (GU C g) (gM ad k g M)):tM ad [C.d,.ref k.a] (gM ad k g M) Q E:=by
 have l:=(ok.n.at o.mn).1;have j:C.d=.tup [.int C.w,.tup (C.names.map D.str),.int (C.many:Nat),.tup (aS C.rows),.str C.mn]:=rfl;rw[HE (n:=0)];unfold sk;simp only[j,aC,kH,ao,ai,aO,ac,dC,Ja,dt,bJ,EH,kJ,y2];refine⟨trivial,?_⟩;unfold GU at h;cases e:g.td with
 |nil=>
  rw[if_pos e]at h;simp only[MX,if_true,Df,aB,aT,atI_4,Ja,dt,dY,mh,bA,cb,l,Kh];exact⟨trivial,aj h⟩
 |cons r rest=>
  rw[if_neg (by rw[e];simp)]at h
  rw[if_neg (by simp)]
  exact aj h
end
def cA(g:Gs)(q:ax)(v:Int):Gs:=match q with
 |.inl i=>{ g with u:=g.u.filter λk=>decide (k≠q),ps:=g.ps.set i.toNat v }
 |.inr x=>{ g with u:=g.u.filter λk=>decide (k≠q),n:=sN g.n x v }
section
variable{k:Gk}
theorem uB(ok:GOk C g)(e:0<=v/\v<C.w):GOk C (cA g q v):=by
 cases q with
 |inl i=>
  refine⟨ok.n,by show (g.ps.set _ _).length=_;rw[M9];exact ok.lp,λz j=>?_,ok.td⟩
  rcases List.mem_or_eq_of_mem_set j with h|h
  .exact ok.rp z h
  .rw[h];exact e
 |inr x=>exact⟨xq (c:=g.cf C) ok.n e,ok.lp,ok.rp,ok.td⟩
theorem mw:(cA g q v).u=g.u.filter λk=>decide (k≠q):=by cases q<;>rfl
theorem lD:(cA g q v).left=g.left:=by cases q<;>rfl
theorem k7{x:eg}{e j l td:D}(h:Q .non (M.upd x<|.ins ad.C_Going [("numbers",e),("pieces",j),("unsettled",l),("todo",td),("left",.int left)])):
  xR ad [.ref x,e,j,l,td,.int left] (M.upd x<|.ins ad.C_Going []) Q E:=by
 have B:bd ("numbers":Str) e []=[(("numbers":Str),e)]:=rfl;have G:bd ("pieces":Str) j [(("numbers":Str),e)]=[(("numbers":Str),e),(("pieces":Str),j)]:=rfl;have F:bd ("unsettled":Str) l [(("numbers":Str),e),(("pieces":Str),j)]=[(("numbers":Str),e),(("pieces":Str),j),(("unsettled":Str),l)]:=rfl;have A:bd ("todo":Str) td [(("numbers":Str),e),(("pieces":Str),j),(("unsettled":Str),l)]=[(("numbers":Str),e),(("pieces":Str),j),(("unsettled":Str),l),(("todo":Str),td)]:=rfl;have y:bd ("left":Str) (.int left) [(("numbers":Str),e),(("pieces":Str),j),(("unsettled":Str),l),(("todo":Str),td)]=[(("numbers":Str),e),(("pieces":Str),j),(("unsettled":Str),l),(("todo":Str),td),(("left":Str),.int left)]:=rfl;rw[u_q0 (n:=0)];unfold Ao;simp![Mem.upd_same,Mem.upd_upd,B,G,F,A,y,J1,Jl];exact⟨by decide,by decide,by decide,by decide,by decide,aj h⟩
structure Gat(ad:Ad)(k:Gk)(g:Gs)(N:Mem):Prop where
 a:N k.a=al (.ins ad.C_Going<|gF k (kI g.td) g.left)
 dn:N k.dn=al (.dK<|cX g.n)
 lp:N k.lp=al (.lst<|g.ps.map D.int)
 du:N k.du=al (.dK<|uD g.u)
theorem Gat.of:Gat ad k g (gM ad k g M):=⟨bJ,dY,lR,dZ⟩
theorem Gat.more{k1:Gk}{e:Gs}(h:Gat ad k g M)(f:k1.Fr M):Gat ad k g (gM ad k1 e M):=⟨bF f h.a,bF f h.dn,bF f h.lp,bF f h.du⟩
theorem mP(at':Gat ad k g N)(o:C.Ok)(ok:GOk C g)(hk:q∈dW C)(hu:q∈g.u)(h:∀X:Gk,X.Fr N->Q (.ref X.a) (gM ad X (cA g q v) N)):
  vX ad [.ref k.a,kD q,.int v] N Q E:=by
 obtain⟨J,hdn,S,P⟩:=at';rw[u_q3 (n:=0)];unfold BJ;generalize hK:mV ad (av E)=K;simp only[ah,au,fS,aa,af,ce,aO,ac,Ja,dt,J,Df,kz,hdn];refine⟨trivial,λl W=>?_⟩;have a1:k.a≠l:=Mem.ne J W;have l1:k.lp≠l:=Mem.ne S W;have u1:k.du≠l:=Mem.ne P W;simp only[ae a1,J,gf1,dP,aT,ae l1,S];refine⟨trivial,λB T=>?_⟩;have F:l≠B:=Mem.ne Mem.upd_same T;rw[ae F.symm]at T;have a2:k.a≠B:=Mem.ne J T;have u2:k.du≠B:=Mem.ne P T;simp only[ae a2,ae a1,J,CW,ae u2,ae u1,P];refine⟨trivial,λI R=>?_⟩;have H:B≠I:=Mem.ne Mem.upd_same R;rw[ae H.symm]at R;have G:l≠I:=Mem.ne Mem.upd_same R;rw[ae G.symm]at R;have a3:k.a≠I:=Mem.ne J R;simp only[ae a3,ae a2,ae a1,J,EH,gf4];refine⟨trivial,trivial,rfl,λx O=>?_⟩;have e:I≠x:=Mem.ne Mem.upd_same O;rw[ae e.symm]at O;have A:B≠x:=Mem.ne Mem.upd_same O;rw[ae A.symm]at O;have j:l≠x:=Mem.ne Mem.upd_same O;rw[ae j.symm]at O;refine ap λQ' E' hq _=>k7 (hq _ _ ?_);have key:((((N.upd l<|.dK<|cX g.n).upd B<|.lst<|g.ps.map D.int).upd I<|.dK<|uD g.u).upd x<|.ins ad.C_Going [("numbers",.ref l),("pieces",.ref B),("unsettled",.ref I),("todo",kI g.td),("left",.int g.left)])=gM ad ⟨x,l,B,I,j.symm,A.symm,e.symm,F,G,H⟩ g N:=by
  unfold gM gF;rw[aq e,aq A,aq j]
 rw[key];have Z:Gk.Fr ⟨x,l,B,I,j.symm,A.symm,e.symm,F,G,H⟩ N:=⟨O,W,T,R⟩;have Y:=h _ Z;generalize hk':(⟨x,l,B,I,j.symm,A.symm,e.symm,F,G,H⟩:Gk)=X at *;have ex:x=X.a:=by rw[<- hk']
 rw[ex];simp only[ag,Jt];rw[<- hK];unfold mV;generalize hK3:nD ad (av E)=K3;have hv:∃w,bH (uD g.u) q=al w:=Np.mp (by rw[je];simpa using hu)
 obtain⟨w,hv⟩:=hv;simp only[ah,aX,wH,aO,ac,Ja,dt,bJ,CW,xX,dZ,fw,hv,oo,CA];refine⟨trivial,trivial,?_⟩;rw[<- hK3];unfold nD rq r8;rcases mG hk with⟨y,hy,rfl⟩|⟨i,hi,rfl⟩
 .have keys:y∈g.n.map (·.1):=by rw[ok.n.keys];exact hy
  have nl:(cX g.n).length<sizeLine:=by
   have W:(cX g.n).length=C.names.length:=by rw[<- ok.n.keys];simp[cX]
   have:=o.l1;exact nB (by lia)
  simp only[kD]at Y ⊢;simp![gR,vL,LQ,MN,LU,KC,Mc,bJ,Df,dY,m4 keys,CF];exact⟨nl,aj Y⟩
 .have e3:qQ (g.ps.map D.int).length (i:Nat)=al i:=by
   rw[DR (by lia) (by rw[Ji,ok.lp];lia),JL]
  have e4:(g.ps.map D.int).set i (.int v)=(g.ps.set i v).map D.int:=by rw[List.map_set]
  simp only[kD]at Y ⊢;simp![gR,vL,LQ,MN,LU,KC,Mc,Nt,KN,bJ,gf1,lR,e3,e4,Ir];exact aj Y
end
def eO(ad:Ad)(L c:Nat):MO:=.ins ad.C_Ends [("limit",.int (L:Nat)),("count",.int (c:Nat))]
inductive Tr where
 |e (m:D)|a (q:ax) (x y:Tr)
def Tr.d:Tr->D
 |.e m=>.tup [.str "end",m]
 |.a q x y=>.tup [.str "ask",kD q,x.d,y.d]
def Tr.asks:Tr->Nat
 |.e _=>0
 |.a _ x y=>1+x.asks+y.asks
def dk(C:Cse)(s t:Sta):Nat->Gs->Tr
 |0,_=>.e .non
 |n+1,g=>match (bo C (C.most+1) g).1 with
  |none=>.e (GU C (bo C (C.most+1) g).2)
  |some q=>.a q (dk C s t n<|cA (bo C (C.most+1) g).2 q<|bc C s q) (dk C s t n<|cA (bo C (C.most+1) g).2 q<|bc C t q)
section
variable{k:Gk}
theorem nA{e:eg}{c:Nat}(j:M e=al (eO ad L c))(G:c+1<=L)(h:Q .non (M.upd e<|eO ad L (c+1))):vg ad [.ref e] M Q E:=by
 have l:Jz ("count":Str) [(("limit":Str),D.int (L:Nat)),(("count":Str),D.int (c:Nat))]=al (.int (c:Nat)):=rfl;have F:∀v,bd ("count":Str) (.int v) [(("limit":Str),D.int (L:Nat)),(("count":Str),D.int (c:Nat))]=[(("limit":Str),D.int (L:Nat)),(("count":Str),D.int v)]:=λ_=>rfl;have B:∀v,Jz ("count":Str) [(("limit":Str),D.int (L:Nat)),(("count":Str),D.int v)]=al (.int v):=λ_=>rfl;have A:∀v,Jz ("limit":Str) [(("limit":Str),D.int (L:Nat)),(("count":Str),D.int v)]=al (.int (L:Nat)):=λ_=>rfl;have y:decide (((L:Nat):Int)<((c:Nat):Int)+1)=false:=decide_eq_false (by lia)
 unfold eO at j h;rw[Ij (n:=0)];unfold wz mM;simp only[ah,jx,aU,ao,ai,aO,ac,dC,aP,dt,j,l,F,B,A,Mem.upd_same,Cw,oP,y];refine⟨trivial,by simp,trivial,trivial,trivial,?_⟩
 rw[if_neg (by simp)]
 refine aj ?_;have e:(((c:Nat):Int)+1)=((c+1:Nat):Int):=by lia
 rw[e];exact h
theorem yE{a:eg}{fs:List (Str×D)}{Cl:eg}{m:Str}{T:Sd}{e:aV}{t:cB}(j:∀K:DK,K (.ref a) M->e U M K)(l:M a=al (.ins Cl fs))(y:fs.lookup m=ee)(h:t U M λds M2=>ds.length+1=n/\calls T EE (.ref a::ds) M2 Q ⟨⟩):bO Cl m T EE n e t U M Q:=by
 unfold bO;refine j _ ?_;simp only[l];exact⟨trivial,y,h⟩
theorem HZ{z:Sta}{K:DK}(j:Gat ad k g N)(o:C.Ok)(F:SOk C z)(ok:GOk C g)(y:q∈dW C)(G:q∈g.u)(h:∀k1:Gk,k1.Fr N->K (.ref k1.a) (gM ad k1 (cA g q<|bc C z q) N)):
  aw (bO ad.C_Going "settled" (vX ad) uS 3 (ac 2)<|aa (ac 1)<|aa (aw<|ak (gZ ad) uS 3<|aa (ai aB (ac 3)<|dC<|.int 0)<|aa (ac 0)<|aa (ac 1) af) af) [al z.d,al (kD q),al (.ref k.a),al (bQ C s t)] N K:=by
 have fi:∀{v:Int}{M:Mem}{Q:DK},Q (.int v) M->frz (.int v) M Q:=λz=>z;have B:∀{a:eg}{M:Mem}{Q:DK}{fs:List (Str×D)},M a=al (.ins ad.C_Going fs)->Q (.ref a) M->frz (.ref a) M Q:=λ{a M Q fs} e z=>by simp only[frz,e];exact z
 unfold aw;refine yE (λK q=>q) j.a gfs ?_;unfold bQ;simp only[aa,ac,ak,af,ai,dC,Ja,dt,aB,aT,atI_0];refine⟨rfl,aI (λ_ _ z=>cr o F y z)<|fi ?_⟩;exact⟨rfl,ap λQ' E' A _=>mP j o ok y G λk1 l=>A _ _ (B bJ<|h k1 l)⟩
theorem kN(l:Gat ad k g N)(o:C.Ok)(S:SOk C s)(R:SOk C t)(ok:GOk C g)(O:q∈dW C)(P:q∈g.u)(h:∀(k1 k2:Gk)(p:eg),k1.Fr N->k2.Fr (gM ad k1 (cA g q<|bc C s q) N)->gM ad k2 (cA g q<|bc C t q) (gM ad k1 (cA g q<|bc C s q) N) p=ee->
   Q (.ref p) ((gM ad k2 (cA g q<|bc C t q)<|gM ad k1 (cA g q<|bc C s q) N).upd p<|.lst [.ref k1.a,.ref k2.a])):
  sQ ad [bQ C s t,.ref k.a,kD q] N Q E:=by
 have e:bQ C s t=.tup [C.d,s.d,t.d,.int (C.most:Nat)]:=rfl;rw[Iu (n:=0)];unfold rT;simp only[aC,bw,cC,HS,lC,jl,ac,dC,Ja,dt,bU,Jf,JZ,JU,JE,Lk];have F:mC [C.d,s.d,t.d,D.int (C.most:Nat)] (al 1) (al 3)=[s.d,t.d]:=rfl;generalize A:aw (bO ad.C_Going "settled" (vX ad) uS 3 (ac 2)<|aa (ac 1)<|aa (aw<|ak (gZ ad) uS 3<|aa (ai aB (ac 3)<|dC<|.int 0)<|aa (ac 0)<|aa (ac 1) af) af)=te;have B:∀{N:Mem}{z:Sta}{K:DK},Gat ad k g N->SOk C z->(∀k1:Gk,k1.Fr N->K (.ref k1.a) (gM ad k1 (cA g q<|bc C z q) N))->te [al z.d,al (kD q),al (.ref k.a),al (bQ C s t)] N K:=λ{N z K} J G I=>by
  rw[<- A];exact HZ J o G ok O P I
 simp only[e,aw,ac,dC,dt,oSl,F,frz,aT,bB];rw[<- e];unfold cH;refine⟨bh,?_⟩;simp only[ag,Jt,lY,if_true];refine B l S λk1 j=>⟨nB (by simp),?_⟩
 unfold cH;refine⟨bh,?_⟩;simp only[ag,Jt,lY,if_true];refine B (l.more j) R λk2 y=>⟨nB (by simp),?_⟩
 unfold cH;exact⟨bh,λp H=>aj (h k1 k2 p j y H)⟩
end
theorem xC(h:M b=al o):M.upd b o=M:=by
 funext c;unfold Mem.upd
 split
 .rename_i e;rw[e,h]
 .rfl
theorem B4{k1 k2:Gk}{A B:Gs}(h:k2.Fr (gM ad k1 A N)):gM ad k2 B (gM ad k1 A N)=gM ad k1 A (gM ad k2 B N):=by
 obtain⟨T,W,R,X,_⟩:=bu h.a;obtain⟨H,Y,Z,b4,_⟩:=bu h.dn;obtain⟨J,I,F,G,_⟩:=bu h.lp;obtain⟨O,P,K,S,_⟩:=bu h.du;funext b
 by_cases y:b=k2.a
 .subst y;rw[bJ,i9 T W R X,bJ]
 by_cases l:b=k2.dn
 .subst l;rw[dY,i9 H Y Z b4,dY]
 by_cases j:b=k2.lp
 .subst j;rw[lR,i9 J I F G,lR]
 by_cases e:b=k2.du
 .subst e;rw[dZ,i9 O P K S,dZ]
 rw[i9 y l j e];unfold gM;simp only[Mem.upd,y,l,j,e,if_false]
section
variable{k:Gk}
theorem FI(h:bV C g r=al q):q∈g.u:=by
 unfold bV at h
 split at h
 .cases h
 .split at h
  .rename_i l y e
   cases h;have:q∈(dW C).filter λk=>decide (k∈((dw r).filter λx=>decide ((Jx x:ax)∈g.u)).map Jx):=by rw[e];simp
   have:=(JQ.mp this).2;obtain⟨x,j,rfl⟩:=JM.mp (of_decide_eq_true this);exact of_decide_eq_true (JQ.mp j).2
  .split at h
   .split at h
    .rename_i c;cases h;exact c
    .cases h
   .cases h
theorem IG:(eM C g rest r).u.length<=g.u.length/\∀x∈(eM C g rest r).u,x∈g.u:=by
 have j:∀z:ax,(g.u.filter λk=>decide (k≠z)).length<=g.u.length/\∀x∈g.u.filter (λk=>decide (k≠z)),x∈g.u:=λz=>⟨Kg _ _,λx e=>(JQ.mp e).1⟩;cases r with
 |ifr=>exact⟨Jg _,λ_ h=>h⟩
 |again=>exact⟨Jg _,λ_ h=>h⟩
 |_=>exact j _
theorem xK:∀(f:Nat)(g:Gs),((bo C f g).2.u.length<=g.u.length/\∀x∈(bo C f g).2.u,x∈g.u)/\(0<=g.left->0<=(bo C f g).2.left/\(bo C f g).2.left<=g.left)/\∀q,(bo C f g).1=al q->q∈(bo C f g).2.u
 |0,g=>⟨⟨Jg _,λ_ h=>h⟩,λh=>⟨h,Mt _⟩,λq h=>by cases h⟩
 |f+1,g=>by
  unfold bo;cases e:g.td with
  |nil=>
   refine⟨⟨Jg _,λ_ h=>h⟩,λh=>⟨h,Mt _⟩,λq h=>?_⟩;dsimp only at h ⊢
   split at h
   .rename_i c;cases h;exact c
   .cases h
  |cons r rest=>
   dsimp only
   split
   .exact⟨⟨Jg _,λ_ h=>h⟩,λh=>⟨h,Mt _⟩,λq h=>by cases h⟩
   .rename_i I
    cases a:bV C g r with
    |some k=>
     refine⟨⟨Jg _,λ_ h=>h⟩,λh=>⟨h,Mt _⟩,λq h=>?_⟩;cases h;exact FI a
    |none=>
     obtain⟨⟨y,F⟩,B,G⟩:=xK f (eM C g rest r);obtain⟨l,A⟩:=IG (C:=C) (g:=g) (r:=r) (rest:=rest);have H:(eM C g rest r).left=g.left-1:=pT;refine⟨⟨JC y l,λx j=>A x (F x j)⟩,λh=>?_,G⟩;have:=B (by lia)
     exact⟨this.1,by dsimp only;lia⟩
theorem BE(h:q∈u):(u.filter λk=>decide (k≠q)).length<u.length:=by
 rw[List.length_filter_lt_length_iff_exists];exact⟨q,h,by simp⟩
end
def Exc(e:eg)(M M':Mem):Prop:=∀b o,b≠e->M b=al o->M' b=al o
section
variable{k:Gk}
theorem lP{e:eg}{c:Nat}(j:M e=al (eO ad L c))(h:c+1<=L->Q .non (M.upd e<|eO ad L (c+1)))(J:L<c+1->∀M',Exc e M M'->E ad.C_TooMany M'):vg ad [.ref e] M Q E:=by
 by_cases l:c+1<=L
 .exact nA j l (h l)
 have y:Jz ("count":Str) [(("limit":Str),D.int (L:Nat)),(("count":Str),D.int (c:Nat))]=al (.int (c:Nat)):=rfl;have F:∀v,bd ("count":Str) (.int v) [(("limit":Str),D.int (L:Nat)),(("count":Str),D.int (c:Nat))]=[(("limit":Str),D.int (L:Nat)),(("count":Str),D.int v)]:=λ_=>rfl;have H:∀v,Jz ("count":Str) [(("limit":Str),D.int (L:Nat)),(("count":Str),D.int v)]=al (.int v):=λ_=>rfl;have B:∀v,Jz ("limit":Str) [(("limit":Str),D.int (L:Nat)),(("count":Str),D.int v)]=al (.int (L:Nat)):=λ_=>rfl;have A:decide (((L:Nat):Int)<((c:Nat):Int)+1)=true:=decide_eq_true (by lia)
 unfold eO at j;rw[Ij (n:=0)];unfold wz mM;simp only[ah,jx,aU,ao,ai,aO,ac,dC,dt,j,y,F,H,B,Mem.upd_same,Cw,oP,A,if_true,gH];exact⟨trivial,by simp,trivial,trivial,trivial,bj (J (by lia) _ λb o G I=>by rw[ae G];exact I)⟩
theorem mE{e:eg}{L:Nat}(o:C.Ok)(hs:SOk C s)(ht:SOk C t):∀(n:Nat)(g:Gs)(k:Gk)(M:Mem)(c:Nat)(Q:DK)(E:DX),GOk C g->0<=g.left->g.left<=C.most->(∀x∈g.u,x∈dW C)->g.u.length<n->M e=al (eO ad L c)->k.Fr M->c<=L->
  (c+(dk C s t n g).asks<=L->Q (dk C s t n g).d (M.upd e<|eO ad L (c+(dk C s t n g).asks)))->(L<c+(dk C s t n g).asks->∀M',Exc e M M'->E ad.C_TooMany M')->OJ ad n [bQ C s t,.ref k.a,.ref e] (gM ad k g M) Q E
 |0,g,k,M,c,Q,E,ok,h0,hm,hu,hn,he,hf,hc0,h,hE=>by lia
 |n+1,g,k,M,c,Q,E,ok,h0,hm,hu,hn,he,hf,hc0,h,hE=>by
  have hcs:bQ C s t=.tup [C.d,s.d,t.d,.int (C.most:Nat)]:=rfl;have O:=sf o (C.most+1) g ok;obtain⟨⟨hlen,y⟩,W,Z⟩:=xK (C:=C) (C.most+1) g;rw[IH];unfold sF;generalize hK5:iE ad (OJ ad n) (av E)=K5;simp only[ah,au,aw,ak,aa,af,ai,ac,dC,Ja,dt,hcs,aB,aT,atI_0];refine⟨rfl,ap λQ' E' I _=>wg (f:=C.most+1) o ok h0 (by lia) (I _ _ ?_)⟩
  have fo:∀{q:Option ax}{M:Mem}{Q:DK},Q (wv q) M->frz (wv q) M Q:=λ{q} {M} {Q} z=>by
   cases q with
   |none=>exact z
   |some k=>cases k<;>exact z
  refine fo ?_;simp only[ag,Jt];rw[<- hK5];unfold dk at h hE;generalize hgo:bo C (C.most+1) g=go at *;obtain⟨a,F⟩:=go;dsimp only at *;unfold iE;generalize hK4:jk ad (OJ ad n) (av E)=K4;cases a with
  |none=>
   unfold m5;simp only[ah,aU,ao,ai,ac,dC,wv,kJ,jY,if_true,aC,aN,aa,af,ak,Ja,dt,aB,aT,atI_0];refine⟨rfl,aI (λ_ _ z=>oM o O z) ⟨b9 (by simp),?_⟩⟩
   simp only[Tr.asks,Tr.d,Nat.add_zero,xC he]at h hE
   by_cases B:c<=L
   .exact⟨M,λb ob H=>bF hf H,h B⟩
   .exact absurd hc0 B
  |some q=>
   have P:=Z q rfl;have T:=hu q (y q P);have fl:=BE P;simp only[Tr.asks,Tr.d]at h hE;have nn:jY (kD q)=false:=by cases q<;>rfl
   simp only[ah,aU,ao,ai,ac,dC,wv,kJ,nn,aP,Ja,dt];rw[if_neg (by simp),<- hK4]
   unfold jk;generalize hK3:jm ad (OJ ad n) (av E)=K3;simp only[ah,aX];have lo:Jz ("one_more":Str) [(("limit":Str),D.int (L:Nat)),(("count":Str),D.int (c:Nat))]=none:=rfl;refine yE (a:=e) (fs:=[("limit",.int (L:Nat)),("count",.int (c:Nat))]) (λK q=>q) (bF hf he) lo ?_;simp only[af];refine⟨rfl,ap λQ' E' I A=>lP (bF hf he) (λB=>I _ _ ?_) λB M' xc=>A _ _ (bj (hE (by lia) M' λb o G H=>xc b o G (bF hf H)))⟩
   rw[nU hf he,<- hK3];have X:(M.upd e<|eO ad L (c+1)) e=al (eO ad L (c+1)):=Mem.upd_same;have l:∀{o':MO},k.Fr (M.upd e o'):=λ{o'}=>⟨by rw[ae (λz=>by rw[<- z,hf.a]at he;cases he)];exact hf.a,by rw[ae (λz=>by rw[<- z,hf.dn]at he;cases he)];exact hf.dn,by rw[ae (λz=>by rw[<- z,hf.lp]at he;cases he)];exact hf.lp,by rw[ae (λz=>by rw[<- z,hf.du]at he;cases he)];exact hf.du⟩
   unfold jm;generalize hK2:jB ad (OJ ad n) (av E)=K2;simp only[ah,au,aw,ak,aa,af,ac,Ja,dt];refine⟨rfl,ap λQ' E' I _=>kN .of o hs ht O T P λk1 k2 p h1 J hp=>I _ _ (dQ hp ?_)⟩;simp only[ag,Jt];rw[<- hK2];unfold jB;simp only[aC,aN,aa,af,ak,ac,dC,ai,Ja,dt,aB,aT,atI_0,atI_1];generalize hg1:cA F q (bc C s q)=g1 at *;generalize hg2:cA F q (bc C t q)=g2 at *;have S:g1.u.length<n/\(∀x∈g1.u,x∈dW C)/\g1.left=F.left/\GOk C g1:=by
    rw[<- hg1];exact⟨by rw[mw];lia,λx A=>by rw[mw]at A;exact hu x (y x (JQ.mp A).1),lD,uB O<|lQ o hs T⟩
   have R:g2.u.length<n/\(∀x∈g2.u,x∈dW C)/\g2.left=F.left/\GOk C g2:=by
    rw[<- hg2];exact⟨by rw[mw];lia,λx A=>by rw[mw]at A;exact hu x (y x (JQ.mp A).1),lD,uB O<|lQ o ht T⟩
   have hll:=W h0;rw[B4 J];have j:k2.Fr (gM ad k F<|M.upd e<|eO ad L (c+1)):=⟨(bu J.a).2.2.2.2,(bu J.dn).2.2.2.2,(bu J.lp).2.2.2.2,(bu J.du).2.2.2.2⟩;obtain⟨a1,a2,a3,a4,_⟩:=bu J.a;obtain⟨b1,b2,b3,b4,_⟩:=bu J.dn;obtain⟨c1,c2,c3,c4,_⟩:=bu J.lp;obtain⟨d1,d2,d3,d4,_⟩:=bu J.du;have h1N:k1.Fr (gM ad k2 g2<|gM ad k F<|M.upd e<|eO ad L (c+1)):=⟨by rw[i9 a1.symm b1.symm c1.symm d1.symm];exact h1.a,by rw[i9 a2.symm b2.symm c2.symm d2.symm];exact h1.dn,by rw[i9 a3.symm b3.symm c3.symm d3.symm];exact h1.lp,by rw[i9 a4.symm b4.symm c4.symm d4.symm];exact h1.du⟩
   have Y:gM ad k F (M.upd e<|eO ad L (c+1)) e=al (eO ad L (c+1)):=bF l X;refine⟨rfl,ap λQ' E' I A=>mE o hs ht n g1 k1 _ (c+1) _ _ S.2.2.2 (by lia) (by lia) S.2.1 S.1 (bF j Y) h1N B (λhc1=>I _ _ ?_) λhc1 M' xc=>A _ _ (bj (hE (by lia) M' λb o G H=>xc b o G (bF j<|bF l<|by rw[ae G];exact H)))⟩
   rw[nU j Y,nU l X,Mem.upd_upd];have h2N':k2.Fr (gM ad k F<|M.upd e<|eO ad L (c+1+(dk C s t n g1).asks)):=by
    have z:∀{b:eg},gM ad k F (M.upd e<|eO ad L (c+1)) b=ee->gM ad k F (M.upd e<|eO ad L (c+1+(dk C s t n g1).asks)) b=none:=λ{b} G=>by
     obtain⟨n1,n2,n3,n4,n5⟩:=bu G;rw[i9 n1 n2 n3 n4];have:b≠e:=λz=>by rw[z,Mem.upd_same]at n5;cases n5
     rw[ae this]at n5 ⊢;exact n5
    exact⟨z j.a,z j.dn,z j.lp,z j.du⟩
   refine⟨rfl,ap λQ' E' I A=>mE o hs ht n g2 k2 _ (c+1+(dk C s t n g1).asks) _ _ R.2.2.2 (by lia) (by lia) R.2.1 R.1 (bF l Mem.upd_same) h2N' hc1 (λhc2=>I _ _ ?_) λhc2 M' xc=>A _ _ (bj (hE (by lia) M' λb o G H=>xc b o G (bF l<|by rw[ae G];exact H)))⟩
   rw[nU l Mem.upd_same,Mem.upd_upd];refine⟨b9 (by simp),M.upd e (eO ad L (c+(1+(dk C s t n g1).asks+(dk C s t n g2).asks))),λb ob H=>?_,h<|by lia⟩
   have ec:c+1+(dk C s t n g1).asks+(dk C s t n g2).asks=c+(1+(dk C s t n g1).asks+(dk C s t n g2).asks):=by lia
   rw[ec];exact bF l H
end
def g0(C:Cse)(s t:Sta):Gs:=⟨C.names.zip s.nums,s.pieces,cM C s t,C.rows,(C.most:Nat)⟩
section
theorem B7(o:C.Ok):(cM C s t).Nodup:=by
 refine List.Pairwise.filter _ ?_;show (dW C).Nodup;unfold dW;rw[MM];refine⟨?_,?_,?_⟩
 .exact Nr _ (λa b h z=>h (NI z)) o.nd
 .exact Nr _ (λa b h z=>h (by have:=Sum.inl.inj z;lia)) List.nodup_range
 .intro a j b e z
  obtain⟨x,_,rfl⟩:=JM.mp j;obtain⟨y,_,rfl⟩:=JM.mp e;cases z
theorem A3:∀x∈cM C s t,x∈dW C:=λx e=>(JQ.mp e).1
theorem xQ(o:C.Ok):(cM C s t).length<=200:=by
 have e:(cM C s t).length<=(dW C).length:=Kg _ _;have h:(dW C).length=C.names.length+C.many:=by simp[dW]
 have:=o.l1;have:=o.few;lia
theorem eW(o:C.Ok)(l:SOk C s)(y:SOk C t)(h:∀p,M p=ee->Q (.ref p) (M.upd p<|.lst<|(cM C s t).map kD)):pY ad [bQ C s t] M Q E:=by
 rw[Ip (n:=0)];unfold uO bQ;simp only[aC,ak,aa,ai,ac,dC,af,dt,Ja,aB,aT,atI_0,atI_1,atI_2];exact⟨rfl,ap λQ' E' e _=>xf o l y λp j=>e _ _ (aj<|h p j)⟩
theorem Hz(o:C.Ok)(e:SOk C s):GOk C (g0 C s t):=⟨(o.pl e).nok,e.lp,e.rp,o.ok⟩
theorem qo(o:C.Ok)(hs:SOk C s)(ht:SOk C t)(h:∀k:Gk,k.Fr M->Q (.ref k.a) (gM ad k (g0 C s t) M)):sy ad [bQ C s t] M Q E:=by
 have ul:=xQ (s:=s) (t:=t) o;have P:bQ C s t=.tup [C.d,s.d,t.d,.int (C.most:Nat)]:=rfl;have X:C.d=.tup [.int C.w,.tup (C.names.map D.str),.int (C.many:Nat),.tup (aS C.rows),.str C.mn]:=rfl;have hsd:s.d=.tup [.tup (s.nums.map D.int),.tup (s.pieces.map D.int)]:=rfl;rw[Iz (n:=0)];unfold tw nI;generalize S:iS ad (av E)=K2;simp only[ah,au,ai,ac,dC,ag,Jt,dt,Ja,P,aB,aT,atI_0,atI_1];rw[<- P,<- S];unfold iS;generalize T:iu ad (av E)=K1;simp only[ah,au,ce,aa,af,aw,bw,cC,ak,ac,bU,Jf,JZ,JU,JE,dt,Ja];refine⟨rfl,ap λQ' E' Y _=>eW o hs ht λp W=>Y _ _ (dQ W ?_)⟩;simp only[aT,bB];refine ph (λd=>.tup [d,.bl true]) bh (by simp;lia) (λx H K q=>?_) ?_
 .simp only[aN,aa,ac,dC,af,Ja,dt]
  exact⟨b9 (by simp),q⟩
 intro p W;refine dQ W ?_;have e:((cM C s t).map kD).map (λd=>D.tup [d,.bl true])=(cM C s t).map λk=>D.tup [kD k,.bl true]:=by simp
 rw[e];have Z:(([]:List (ax×D)).map (·.1)++(uD<|cM C s t).map (·.1)).Nodup:=by rw[jv];exact B7 o
 simp only[gK,A9,cQ,gQ,Bj Z,JE];refine⟨trivial,by simp[uD];lia,λy h3=>?_⟩
 simp only[ag,Jt];rw[<- T];unfold iu;simp only[aC,fS,aa,fM,ai,ac,dC,af,ce,ak,aw,dt,Ja,X,hsd,aB,aT,atI_0,atI_1,dJ,Ji];refine⟨hs.ln.symm,o.l0,JC o.l1 (by decide),λI h1=>?_⟩
 have j:y≠I:=Mem.ne Mem.upd_same h1;rw[ae j.symm]at h1;simp only[dP,aT];intro J R;have O:I≠J:=Mem.ne Mem.upd_same R;rw[ae O.symm]at R;have B:y≠J:=Mem.ne Mem.upd_same R;rw[ae B.symm]at R;simp only[P,atI_3,dt,Ja];refine⟨rfl,aI (λ_ _ q=>cT (td:=[]) q) ?_⟩;have ft:∀{l:List Rw}{M:Mem}{Q:DK},Q (kI l) M->frz (kI l) M Q:=λ{l} {M} {Q} q=>by cases l<;>exact q
 rw[JR];refine ft ?_;refine⟨rfl,λx H=>?_⟩;have F:J≠x:=Mem.ne Mem.upd_same H;rw[ae F.symm]at H;have A:I≠x:=Mem.ne Mem.upd_same H;rw[ae A.symm]at H;have G:y≠x:=Mem.ne Mem.upd_same H;rw[ae G.symm]at H;refine ap λQ' E' Y _=>k7 (Y _ _ ?_);rw[gS hs.ln.symm o.nd];have key:((((M.upd y<|.dK<|uD<|cM C s t).upd I<|.dK<|cX<|C.names.zip s.nums).upd J<|.lst<|s.pieces.map D.int).upd x<|.ins ad.C_Going [("numbers",.ref I),("pieces",.ref J),("unsettled",.ref y),("todo",kI C.rows),("left",.int (C.most:Nat))])=gM ad ⟨x,I,J,y,A.symm,F.symm,G.symm,O,j.symm,B.symm⟩ (g0 C s t) M:=by
  unfold gM gF g0;rw[aq F,aq A,aq G,aq (a:=y) (b:=I) j,aq (a:=y) (b:=J) B]
 rw[key];exact aj (h ⟨x,I,J,y,A.symm,F.symm,G.symm,O,j.symm,B.symm⟩ ⟨H,h1,R,h3⟩)
def Cse.tree(C:Cse)(s t:Sta):Tr:=dk C s t 40 (g0 C s t)
theorem qJ{b:Int}(o:C.Ok)(A:SOk C s)(J:SOk C t)(ea:C.mark s=.int a)(j:C.mark t=.int b)(I:a≠b)(Y:(cM C s t).length<40)(h:1+(C.tree s t).asks<=L->Q (C.tree s t).d M)(P:L<1+(C.tree s t).asks->E ad.C_TooMany M):
  pN ad [bQ C s t,.int (L:Nat)] M Q E:=by
 rw[Hu (n:=0)];unfold uC m8;generalize F:iJ ad (av E)=K2;simp only[ah,aX,ak,aa,ac,af,au,fS,dt,Ja];refine⟨rfl,aI (λ_ _ q=>eX o A J ea j I q) ⟨rfl,λe l=>?_⟩⟩;have W:bd ("limit":Str) (.int (L:Nat)) []=[(("limit":Str),D.int (L:Nat))]:=rfl;have R:bd ("count":Str) (.int 0) [(("limit":Str),D.int (L:Nat))]=[(("limit":Str),D.int (L:Nat)),(("count":Str),D.int 0)]:=rfl;refine ap λQ' E' hq _=>?_;rw[u_q4 (n:=0)];unfold A1;simp![Mem.upd_same,Mem.upd_upd,W,R,J1,Jl];refine⟨by decide,by decide,aj<|hq _ _ ?_⟩
 simp only[ag,Jt];rw[<- F];unfold iJ nh;simp only[ah,aX];have S:Jz ("one_more":Str) [(("limit":Str),D.int (L:Nat)),(("count":Str),D.int 0)]=none:=rfl;refine yE (a:=e) (λK q=>q) Mem.upd_same S ?_;simp only[af];refine⟨rfl,ap λQ' E' hq B=>lP (L:=L) (c:=0) Mem.upd_same (λO=>hq _ _ ?_) λO M' H=>B _ _ ⟨M,λb y j=>H b y (Mem.ne j l) (by rw[ae (Mem.ne j l)];exact j),P<|by lia⟩⟩
 rw[Mem.upd_upd];simp only[aC,ak,aa,ac,af,aw,dt,Ja];refine⟨rfl,ap λQ' E' hq _=>qo o A J λk T=>hq _ _ ?_⟩;have X:∀{M:Mem}{Q:DK}{fs:List (Str×D)},M k.a=al (.ins ad.C_Going fs)->Q (.ref k.a) M->frz (.ref k.a) M Q:=λ{M Q fs} e z=>by simp only[frz,e];exact z
 refine X bJ ⟨rfl,ap λQ' E' hq B=>mE o A J 40 _ k _ 1 _ _ (Hz o A) (by show (0:Int)<=((C.most:Nat):Int);lia) (Mt _) A3 Y Mem.upd_same T O (λG=>hq _ _ ?_) λG M' H=>B _ _ ⟨M,λb y j=>H b y (Mem.ne j l) (by rw[ae (Mem.ne j l)];exact j),P G⟩⟩
 rw[Mem.upd_upd];refine⟨M,λb y j=>?_,h G⟩;rw[ae (Mem.ne j l)];exact j
end
def Ext(M M':Mem):Prop:=∀b o,M b=al o->M' b=al o
theorem IW:Ext M M:=λ_ _ e=>e
theorem Ext.trans{M1 M2:Mem}(a:Ext M M1)(b:Ext M1 M2):Ext M M2:=λx o e=>b x o (a x o e)
theorem Ext.no(h:Ext M M')(e:M' b=ee):M b=none:=by
 cases q:M b with
 |none=>rfl
 |some o=>rw[h b o q]at e;cases e
theorem Ext.new(h:M b=ee):Ext M (M.upd b o):=λx u e=>by rw[ae (Mem.ne e h)];exact e
theorem Ext.upd(x:Ext M M')(h:M b=ee):Ext M (M'.upd b o):=λc u e=>by rw[ae (Mem.ne e h)];exact x c u e
theorem Ext.del(x:Ext M M')(h:M b=ee):Ext M (M'.del b):=λc u e=>by unfold Mem.del;rw[if_neg (Mem.ne e h)];exact x c u e
def mO(a b:Int)(m:D):Str:=if aG m (.int a)=true then "sound" else if aG m (.int b)=true then "faulty" else "other"
def rJ:Tr->Prop
 |.e m=>m=.non\/∃v,m=.int v
 |.a _ x y=>rJ x/\rJ y
def cm:Tr->Nat
 |.e _=>1
 |.a _ x y=>1+cm x+cm y
theorem lS:∀t:Tr,1<=cm t
 |.e _=>Jg _
 |.a _ x y=>by unfold cm;lia
theorem jN:∀t:Tr,cm t=2*t.asks+1
 |.e _=>rfl
 |.a _ x y=>by unfold cm Tr.asks;rw[jN x,jN y];lia
def bI(ws:List (Tr×Nat)):Nat:=(ws.map λw=>cm w.1).sum
theorem FJ:∀e:List (Tr×Nat),e.length<=bI e
 |[]=>Jg _
 |w::e=>by
  have:=FJ e;have:=lS w.1;simp only[bI,Jf,Kl,Jl]at *;lia
def bY(a b:Int)(v:Str):Tr->Nat->Nat
 |.e m,w=>if mO a b m=v then w else 0
 |.a _ x y,w=>bY a b v x (w / 2)+bY a b v y (w / 2)
def dN(a b:Int)(v:Str)(ws:List (Tr×Nat)):Nat:=(ws.map λw=>bY a b v w.1 w.2).sum
def wD(w:Tr×Nat):D:=.tup [w.1.d,.int (w.2:Nat)]
def tD(x y z:Nat):List (ax×D):=[(.inr "sound",.int (x:Nat)),(.inr "faulty",.int (y:Nat)),(.inr "other",.int (z:Nat))]
def CP(ks:List ax):Tr->D
 |.e m=>m
 |.a q x y=>if q∈ks then CP ks y else CP ks x
section
theorem nX{ks:List ax}{td A:D}{D':DEnds}{EE:DX}{F:BxW (ao<|ai cP (ai aB (ac 2)<|dC<|.int 0)<|dC<|.str "ask") (fO ad EE) D'}(l:IsMx M A ks):∀(n:Nat)(t:Tr),cm t<=n->(∀m,m=CP ks t->D'.nx [al td,al A,al (Tr.e m).d] M)->
  bv (ao<|ai cP (ai aB (ac 2)<|dC<|.int 0)<|dC<|.str "ask") (fO ad EE) D' F (n+1) [al td,al A,al t.d] M
 |n,.e m,hn,h=>by
  refine whF (λK q=>?_) (h m rfl);have j:decide (("end":Str)=("ask":Str))=false:=by decide +kernel
  simp only[ao,ai,ac,dC,Tr.d,aB,aT,atI_0,cP,dv,bn,aG,j,dt,Ja];exact⟨trivial,trivial,q⟩
 |0,.a q x y,hn,h=>by have:=lS (.a q x y);lia
 |n+1,.a q x y,hn,h=>by
  have B:cm (.a q x y)=1+cm x+cm y:=rfl;refine whT (λK q=>?_) ?_
  .simp only[ao,ai,ac,dC,Tr.d,aB,aT,atI_0,cP,dv,bn,aG,decide_true,dt,Ja]
   exact⟨trivial,trivial,q⟩
  .unfold fO
   simp only[au,kH,ao,ai,ac,dC,Tr.d,aB,aT,atI_1,atI_2,atI_3,vt,ya l,ag,Jt,dt,Ja]
   by_cases c:q∈ks
   .rw[if_pos (by simpa using c)]
    refine nX l n y (by lia) λm e=>h m ?_
    unfold CP;rw[if_pos c];exact e
   .rw[if_neg (by simpa using c)]
    refine nX l n x (by lia) λm e=>h m ?_
    unfold CP;rw[if_neg c];exact e
theorem y1{j:D}{t:Tr}(l:IsMx M j ks)(h:Q (CP ks t) M):tz ad [t.d,j] M Q E:=by
 rw[GW (n:=0)];unfold uq n0;simp only[ah,au,ac,ag,Jt,dt,dj];refine⟨_,nX l _ t (Jg _) λm e=>?_⟩;simp only[aC,ai,ac,dC,Tr.d,aB,aT,atI_1,dt,Ja];subst e;exact aj h
theorem qz{a:eg}{y v:D}{k:ax}{j:List (ax×D)}{Q:Mem->Prop}(h:M a=al (.dK j))(e:bA y=al k)(l:j.length<sizeLine)(q:Q (M.upd a<|.dK<|bX j k v)):rf (.ref a) y v M Q:=by
 unfold rf;simp only[h,e];exact⟨l,q⟩
theorem qC{a:eg}{d:D}{k:ax}{j:List (ax×D)}(h:M a=al (.dK j))(e:bA (.str x)=al k)(g:bH j k=al d)(q:Q d M):wP (.ref a) (.str x) M Q:=by
 unfold wP;simp only[h,mh,e,g];exact q
structure CK(M0:Mem)(lt lw:eg)(x y z:Nat)(ws:List (Tr×Nat))(N:Mem):Prop where
 ex:Ext M0 N
 t0:M0 lt=ee
 w0:M0 lw=ee
 ne:lt≠lw
 lt':N lt=al (.dK<|tD x y z)
 lw':N lw=al (.lst (ws.map wD).reverse)
 few:bI ws<=100000
 tr:∀w∈ws,rJ w.1
theorem xj{b:Int}{cs ld c3 c4:Option D}{lt J:eg}{x y z:Nat}{w:Tr×Nat}{j:List (Tr×Nat)}{M0:Mem}{c7:Option D}(I:CK M0 lt J x y z (w::j) N)(h:∀H G F B N' c7,CK M0 lt J H G F B N'->bI B<bI (w::j)->H+dN a b "sound" B=x+dN a b "sound" (w::j)->G+dN a b "faulty" B=y+dN a b "faulty" (w::j)->F+dN a b "other" B=z+dN a b "other" (w::j)->
   D'.nx [cs,ld,al (.tup [.int a,.int b]),c3,c4,al (.ref lt),al (.ref J),c7] N'):
  et ad EE D' [cs,ld,al (.tup [.int a,.int b]),c3,c4,al (.ref lt),al (.ref J),c7] N:=by
 obtain⟨tr,v⟩:=w;have ew:((((tr,v)::j).map wD).reverse)=(j.map wD).reverse++[wD (tr,v)]:=by simp
 have S:=I.lw';rw[ew]at S;have W:((j.map wD).reverse++[wD (tr,v)])[((j.map wD).reverse++[wD (tr,v)]).length-1]?=al (wD (tr,v)):=by simp
 have X:=I.tr _ Jp;have few:=I.few;have len:=FJ j;simp only[bI,Jf,Kl]at few len;unfold et;generalize hK3:ja ad EE=K3;simp only[ah,au,me,ac,af,dt,Ja,cj,S,BB,W,List.dropLast_concat];refine⟨trivial,?_⟩;simp only[ag,Jt];rw[<- hK3];have wr:wD (tr,v)=.tup [tr.d,.int (v:Nat)]:=rfl;have A:(N.upd J<|.lst (j.map wD).reverse) lt=al (.dK<|tD x y z):=by rw[ae I.ne];exact I.lt'
 have R:Ext M0 (N.upd J<|.lst (j.map wD).reverse):=I.ex.upd I.w0;generalize hN1:N.upd J (.lst (j.map wD).reverse)=N1 at *;have P:N1 J=al (.lst (j.map wD).reverse):=by rw[<- hN1,Mem.upd_same]
 have Y:∀w∈j,rJ w.1:=λw hw=>I.tr w (Jj _ hw);unfold ja;cases tr with
 |e m=>
  have ed:Tr.d (.e m)=.tup [.str "end",m]:=rfl;unfold mi;simp only[aU,ao,ai,ac,dC,aB,aT,atI_0,atI_1,ed,wr,cP,dv,bn,aG,decide_true,if_true,dt,Ja,xy,aw,ak,aa,af];refine⟨trivial,trivial,rfl,aI (λ_ _ q=>ig X q) ?_⟩;have fs:∀{x:Str}{M:Mem}{Q:DK},Q (.str x) M->frz (.str x) M Q:=λz=>z;refine fs ?_;have K:∀u,dN a b u ((.e m,v)::j)=(if mO a b m=u then v else 0)+dN a b u j:=λu=>by simp[dN,bY]
  have n12:¬("sound":Str)=("faulty":Str):=by decide +kernel
  have n13:¬("sound":Str)=("other":Str):=by decide +kernel
  have n23:¬("faulty":Str)=("other":Str):=by decide +kernel
  have n21:¬("faulty":Str)=("sound":Str):=by decide +kernel
  have n31:¬("other":Str)=("sound":Str):=by decide +kernel
  have n32:¬("other":Str)=("faulty":Str):=by decide +kernel
  have O:bI j<bI ((.e m,v)::j):=by simp[bI,cm]
  have fin:∀H G F,tD H G F=tD H G F->(N1.upd lt<|.dK<|tD H G F) J=al (.lst (j.map wD).reverse):=λ_ _ _ _=>by rw[ae (JI I.ne)];exact P
  have ck:∀H G F,CK M0 lt J H G F j (N1.upd lt<|.dK<|tD H G F):=λH G F=>⟨R.upd I.t0,I.t0,I.w0,I.ne,Mem.upd_same,fin _ _ _ rfl,by simp only[bI];lia,Y⟩
  have e1:∀u:Nat,((u:Nat):Int)+((v:Nat):Int)=((u+v:Nat):Int):=λu=>by lia
  have hv:(if aG m (.int a)=true then ("sound":Str) else if aG m (.int b)=true then "faulty" else "other")=mO a b m:=rfl
  rw[hv];have vc:mO a b m="sound"\/mO a b m="faulty"\/mO a b m="other":=by unfold mO;split;exact .inl rfl;split;exact .inr (.inl rfl);exact .inr (.inr rfl)
  rcases vc with hc|hc|hc
  .rw[hc]
   have Z:bH (tD x y z) (.inr "sound")=al (.int (x:Nat)):=rfl;have T:bX (tD x y z) (.inr "sound") (.int (((x:Nat):Int)+((v:Nat):Int)))=tD (x+v) y z:=by rw[e1];rfl
   refine qC A rfl Z (qz (v:=.int (((x:Nat):Int)+((v:Nat):Int))) A rfl (nB<|by simp[tD]) ?_)
   rw[T];refine h (x+v) y z j _ _ (ck _ _ _) O ?_ ?_ ?_
   .rw[K,hc,if_pos rfl];lia
   .rw[K,hc,if_neg n12];lia
   .rw[K,hc,if_neg n13];lia
  .rw[hc]
   have Z:bH (tD x y z) (.inr "faulty")=al (.int (y:Nat)):=rfl;have T:bX (tD x y z) (.inr "faulty") (.int (((y:Nat):Int)+((v:Nat):Int)))=tD x (y+v) z:=by rw[e1];rfl
   refine qC A rfl Z (qz (v:=.int (((y:Nat):Int)+((v:Nat):Int))) A rfl (nB<|by simp[tD]) ?_)
   rw[T];refine h x (y+v) z j _ _ (ck _ _ _) O ?_ ?_ ?_
   .rw[K,hc,if_neg n21];lia
   .rw[K,hc,if_pos rfl];lia
   .rw[K,hc,if_neg n23];lia
  .rw[hc]
   have Z:bH (tD x y z) (.inr "other")=al (.int (z:Nat)):=rfl;have T:bX (tD x y z) (.inr "other") (.int (((z:Nat):Int)+((v:Nat):Int)))=tD x y (z+v):=by rw[e1];rfl
   refine qC A rfl Z (qz (v:=.int (((z:Nat):Int)+((v:Nat):Int))) A rfl (nB<|by simp[tD]) ?_)
   rw[T];refine h x y (z+v) j _ _ (ck _ _ _) O ?_ ?_ ?_
   .rw[K,hc,if_neg n31];lia
   .rw[K,hc,if_neg n32];lia
   .rw[K,hc,if_pos rfl];lia
 |a q l r=>
  obtain⟨htx,hty⟩:=X;have ed:Tr.d (.a q l r)=.tup [.str "ask",kD q,l.d,r.d]:=rfl;have hne:decide (("ask":Str)=("end":Str))=false:=by decide +kernel
  have hd:((v:Nat):Int) / 2=((v / 2:Nat):Int):=by lia
  unfold nw;simp only[aU,ao,ai,ac,dC,aB,aT,atI_0,atI_1,atI_2,atI_3,ed,wr,cP,dv,bn,aG,hne,dt,Ja,aX,me,cj,P,aa,aN,af,aw,br,jI,oI,y9,hd];refine⟨trivial,trivial,?_⟩;rw[if_neg (by simp)]
  refine⟨trivial,⟨by decide,by decide⟩,b9 (by simp),⟨by decide,by decide⟩,b9 (by simp),b9 (by simp),λp hp=>dQ hp ?_⟩
  have hr:(j.map wD).reverse.length=j.length:=by simp
  simp only[jn,P,cQ];refine⟨by rw[hr];exact b9 (by simp[cm]at few;simp;lia),?_⟩
  have er:(j.map wD).reverse++[D.tup [l.d,.int ((v / 2:Nat):Int)],D.tup [r.d,.int ((v / 2:Nat):Int)]]=(((r,v / 2)::(l,v / 2)::j).map wD).reverse:=by simp[wD]
  rw[er];refine h x y z ((r,v / 2)::(l,v / 2)::j) _ _ ⟨R.upd I.w0,I.t0,I.w0,I.ne,by rw[ae I.ne];exact A,Mem.upd_same,?_,?_⟩ ?_ ?_ ?_ ?_
  .simp only[bI,Jf,Kl,cm]at few ⊢;lia
  .intro w hw
   rcases Jq.mp hw with z|hw
   .rw[z];exact hty
   .rcases Jq.mp hw with z|hw
    .rw[z];exact htx
    .exact Y w hw
  .simp only[bI,Jf,Kl,cm];lia
  .simp only[dN,Jf,Kl,bY];lia
  .simp only[dN,Jf,Kl,bY];lia
  .simp only[dN,Jf,Kl,bY];lia
end
section
theorem on{a b:Int}{J G H O:Option D}{lt F:eg}{M0:Mem}{D':DEnds}{EE:DX}{bx:BxW (i6<|ac 6) (et ad EE) D'}:∀(n x y z:Nat)(ws:List (Tr×Nat))(N:Mem)(j:Option D),CK M0 lt F x y z ws N->bI ws<=n->
  (∀N' j,Ext M0 N'->N' lt=al (.dK<|tD (x+dN a b "sound" ws) (y+dN a b "faulty" ws) (z+dN a b "other" ws))->D'.nx [J,G,al (.tup [.int a,.int b]),H,O,al (.ref lt),al (.ref F),j] N')->
  bv (i6<|ac 6) (et ad EE) D' bx (n+1) [J,G,al (.tup [.int a,.int b]),H,O,al (.ref lt),al (.ref F),j] N
 |n,x,y,z,[],N,j,I,hn,h=>by
  have e:=I.lw';refine whF (λK q=>?_) (h N j I.ex I.lt');simp only[i6,ac,dt,Ja,CU,e];exact q
 |0,x,y,z,w::ws,N,j,I,hn,h=>by
  have:=FJ (w::ws);simp only[Jl]at this;lia
 |n+1,x,y,z,w::ws,N,j,I,hn,h=>by
  have e:=I.lw';have A:((List.map wD (w::ws)).reverse).isEmpty=false:=by simp
  refine whT (λK q=>?_) (xj I λZ R X l N' B I' S e1 Y W=>on n Z R X l N' B I' (by lia) λN2 T ex P=>h N2 T ex (by rw[<- e1,<- Y,<- W];exact P))
  simp only[i6,ac,dt,Ja,CU,e,A];exact q
theorem kX{b:Int}(o:C.Ok)(W:SOk C s)(T:SOk C t)(ea:C.mark s=.int a)(Y:C.mark t=.int b)(F:a≠b)(hu:(cM C s t).length<40)(hL:L<=1000)(tok:rJ (C.tree s t))(h:1+(C.tree s t).asks<=L->Q (.tup [.int ((bY a b "sound" (C.tree s t) (2 ^ (cM C s t).length):Nat):Int),.int ((bY a b "faulty" (C.tree s t) (2 ^ (cM C s t).length):Nat):Int),.int ((bY a b "other" (C.tree s t) (2 ^ (cM C s t).length):Nat):Int)]) M)(hE:L<1+(C.tree s t).asks->E ad.C_TooMany M):
  tU ad [bQ C s t,.int (L:Nat)] M Q E:=by
 rw[Hn (n:=0)];unfold uV;generalize O:j5 ad (av E)=K9;simp only[ah,au,aw,ak,aa,ac,af,dC,dt,Ja];have ft:∀{j:List D}{M:Mem}{Q:DK},Q (.tup j) M->frz (.tup j) M Q:=λz=>z;refine⟨rfl,aI (λ_ _ q=>eX o W T ea Y F q)<|ft ?_⟩;simp only[ag,Jt];rw[<- O];unfold j5;generalize K:i_ ad (av E)=K8;simp only[ah,cc,cC,aw,ak,aa,ac,af,dt,Ja];refine⟨rfl,ap λQ' E' H _=>eW o W T λp hp=>H _ _ (dQ hp ?_)⟩;simp only[aT,bB];generalize X:(cM C s t).length=n at *;refine bf (λj U N=>N=M/\j.length<=n/\∃J,U=[al (bQ C s t),al (.int (L:Nat)),al (.tup [.int a,.int b]),al (.int ((2 ^ (n-j.length):Nat):Int)),J,ee,ee,ee]) (λ_ _ _ _=>bh) ?_ ?_ _ _ _ ⟨rfl,by simp[X],ee,by simp[X]⟩
 .rintro U N ⟨rfl,_,J,rfl⟩
  rw[<- K,J1,Nat.sub_zero];unfold i_;generalize G:iW ad (av E)=K7;simp only[ah,au,rX,Bp,dC];intro lt l;refine⟨Mem.upd_same,by decide,?_⟩
  simp only[ag,Jt,Mem.upd_upd];have ef:lx ([(("sound":Str),dC (.int 0)),("faulty",dC (.int 0)),("other",dC (.int 0))].map λkt=>Jx kt.1) [.int 0,.int 0,.int 0]=tD 0 0 0:=rfl;rw[ef,<- G];unfold iW;generalize P:iD ad (av E)=K6;simp only[ah,au,br,aa,aN,ak,ac,af,dt,Ja];refine⟨rfl,ap λQ' E' H hx=>qJ o W T ea Y F (by lia) (λB=>H _ _ ?_) λB=>hx _ _ ⟨_,Ext.new l,hE B⟩⟩
  refine⟨b9 (by simp),b9 (by simp),λlw e=>?_⟩
  have R:lt≠lw:=Mem.ne Mem.upd_same e;rw[ae R.symm]at e;simp only[ag,Jt];rw[<- P];unfold iD;simp only[ah,dj];have hz:=jN (C.tree s t);refine⟨_,on (a:=a) (b:=b) (M0:=N) _ 0 0 0 [(C.tree s t,2 ^ n)] _ ee ⟨(Ext.new l).upd e,l,e,R,?_,Mem.upd_same,?_,?_⟩ (Jg _) λN' c7 ex A=>?_⟩
  .rw[ae R];exact Mem.upd_same
  .simp only[bI,Jf,JZ,Kl,List.sum_nil];lia
  .intro w hw
   rw[LF.mp hw];exact tok
  .have I:∀v,0+dN a b v [(C.tree s t,2 ^ n)]=bY a b v (C.tree s t) (2 ^ n):=λv=>by simp[dN]
   rw[I,I,I]at A;have g1:∀x y z:Nat,bH (tD x y z) (.inr "sound")=al (.int (x:Nat)):=λ_ _ _=>rfl;have Z:∀x y z:Nat,bH (tD x y z) (.inr "faulty")=al (.int (y:Nat)):=λ_ _ _=>rfl;have g3:∀x y z:Nat,bH (tD x y z) (.inr "other")=al (.int (z:Nat)):=λ_ _ _=>rfl;unfold nW;simp only[aC,aN,aa,af,ai,ac,dC,dt,Ja,aB,aT,A,mh,bA,g1,Z,g3];exact⟨b9 (by simp),_,ex,h B⟩
 .rintro x j U N ⟨rfl,B,J,rfl⟩ D' S _ _ _
  simp only[Jl]at B;simp only[ag,au,ai,ac,dC,Jt,dt,Ja,cL];refine⟨.inr ⟨by decide,by decide⟩,S _ _ ⟨rfl,by lia,al x,?_⟩⟩
  have:n-j.length=n-(j.length+1)+1:=by lia
  rw[Jl,this,Mh];simp
end
abbrev Wp:=List (Int×Int)
def aA:Int->Wp->Tr
 |v,[]=>.e (.int v)
 |v,(w,i)::r=>if v=w then .a (.inl i) (aA 0 r) (aA 1 r) else aA v r
def fX(ks:List ax):Int->Wp->Int
 |v,[]=>v
 |v,(w,i)::r=>fX ks (if v=w then (if (Kb i:ax)∈ks then 1 else 0) else v) r
def fR(v:Int):Prop:=v=0\/v=1
theorem jh{ks:List ax}:∀(r:Wp)(v:Int),CP ks (aA v r)=.int (fX ks v r)
 |[],v=>rfl
 |(w,i)::r,v=>by
  unfold aA fX
  by_cases c:v=w
  .rw[if_pos c,if_pos c]
   unfold CP
   by_cases d:(Kb i:ax)∈ks
   .rw[if_pos d,if_pos d];exact jh r 1
   .rw[if_neg d,if_neg d];exact jh r 0
  .rw[if_neg c,if_neg c];exact jh r v
theorem iq:∀(r:Wp)(v:Int),rJ (aA v r)
 |[],v=>.inr ⟨v,rfl⟩
 |(w,i)::r,v=>by
  unfold aA
  split
  .exact⟨iq r 0,iq r 1⟩
  .exact iq r v
theorem HM:mO 0 1 (.int 0)="sound":=by decide +kernel
theorem GL:mO 0 1 (.int 1)="faulty":=by decide +kernel
theorem fq{x:Str}:∀(r:Wp)(v:Int)(k:Nat),r.length<=k->bY 0 1 x (aA v r) (2 ^ (k+1))=2*bY 0 1 x (aA v r) (2 ^ k)
 |[],v,k,_=>by
  unfold aA bY;rw[Mh]
  split<;>lia
 |(w,i)::r,v,k,h=>by
  simp only[Jl]at h;obtain⟨k,rfl⟩:∃j,k=j+1:=⟨k-1,by lia⟩
  unfold aA
  split
  .have e:∀j,2 ^ (j+1) / 2=2 ^ j:=λj=>by rw[Mh];lia
   unfold bY;rw[e,e,fq r 0 k (by lia),fq r 1 k (by lia)]
   lia
  .exact fq r v (k+1) (by lia)
def cn(x:Str)(v:Int)(r:Wp):Nat:=bY 0 1 x (aA v r) (2 ^ r.length)
theorem BF{r:Wp}:cn x v ((w,i)::r)=if v=w then cn x 0 r+cn x 1 r else 2*cn x v r:=by
 unfold cn;rw[Jl,aA]
 by_cases c:v=w
 .have e:∀j,2 ^ (j+1) / 2=2 ^ j:=λj=>by rw[Mh];lia
  rw[if_pos c,if_pos c,bY,e]
 .rw[if_neg c,if_neg c,fq r v _ (Jg _)]
def sm:Int×Int->Wp->Int×Int
 |m,[]=>m
 |m,(w,_)::r=>sm (m.1*(1+w)+m.2*w,m.2*(2-w)+m.1*(1-w)) r
def sE:Int×Int->Wp->Int×Int
 |m,[]=>m
 |m,(w,_)::r=>sE (m.1+m.2*w,m.2+m.1*(1-w)) r
theorem yj:∀(r:Wp)(m:Int×Int),(∀p∈r,fR p.1)->(sm m r).1=m.1*cn "sound" 0 r+m.2*cn "sound" 1 r/\(sm m r).2=m.1*cn "faulty" 0 r+m.2*cn "faulty" 1 r
 |[],m,_=>by
  have j:¬("sound":Str)=("faulty":Str):=by decide +kernel
  have y:¬("faulty":Str)=("sound":Str):=by decide +kernel
  simp[sm,cn,aA,bY,HM,GL,j,y]
 |(w,i)::r,m,h=>by
  obtain⟨a,b⟩:=yj r (m.1*(1+w)+m.2*w,m.2*(2-w)+m.1*(1-w)) λp l=>h p (Jj _ l);unfold sm;rw[a,b];simp only[BF];rcases h (w,i) Jp with e|e
  all_goals
   dsimp only at e;subst e;simp;constructor<;>grind
theorem nC:∀(r:Wp)(v:Int)(k:Nat),fR v->bY 0 1 "other" (aA v r) k=0
 |[],v,k,h=>by
  have e:¬("sound":Str)=("other":Str):=by decide +kernel
  have j:¬("faulty":Str)=("other":Str):=by decide +kernel
  rcases h with rfl|rfl<;>simp[aA,bY,HM,GL,e,j]
 |(w,i)::r,v,k,h=>by
  unfold aA
  split
  .unfold bY;rw[nC r 0 _ (.inl rfl),nC r 1 _ (.inr rfl)]
  .exact nC r v k h
theorem uf:∀(r:Wp)(m:Int×Int),(∀p∈r,fR p.1)->(sE m r).1+(sE m r).2=m.1*(1+(aA 0 r).asks)+m.2*(1+(aA 1 r).asks)
 |[],m,_=>by simp[sE,aA,Tr.asks]
 |(w,i)::r,m,h=>by
  have a:=uf r (m.1+m.2*w,m.2+m.1*(1-w)) λp j=>h p (Jj _ j);unfold sE;rw[a];rcases h (w,i) Jp with e|e
  all_goals
   dsimp only at e;subst e;simp[aA,Tr.asks,Int.add_mul,Int.mul_add];lia
def b8(p:Int×Int):Rw:=if p.1=1 then .ifr "s" [.take "s" p.2] [] else .ifr "s" [] [.take "s" p.2]
def gp(w:Int)(many:Nat)(f:Int)(wp:Wp):Cse:=⟨w,many,["s"],.put "s" f::wp.map b8,"s",60⟩
structure LSt(C:Cse)(g:Gs)(v:Int)(r:Wp):Prop where
 n:g.n=[(("s":Str),v)]
 td:g.td=r.map b8
 us:(Jx "s":ax)∉g.u
 up:∀p∈r,(Kb p.2:ax)∈g.u
 nd:(r.map (·.2)).Nodup
 v1:fR v
 w1:∀p∈r,fR p.1
 lf:2*(r.length:Int)+1<=g.left
 pl:g.ps.length=C.many
 pr:∀p∈r,0<=p.2/\p.2<C.many
structure LAt(C:Cse)(g:Gs)(i:Int)(r:Wp):Prop where
 n:∃v,g.n=[(("s":Str),v)]
 td:g.td=.take "s" i::r.map b8
 us:(Jx "s":ax)∉g.u
 up:∀p∈r,(Kb p.2:ax)∈g.u
 ni:∀p∈r,p.2≠i
 nd:(r.map (·.2)).Nodup
 w1:∀p∈r,fR p.1
 lf:2*(r.length:Int)+2<=g.left
 pl:g.ps.length=C.many
 pr:∀p∈r,0<=p.2/\p.2<C.many
 ir:0<=i/\i<C.many
theorem qx:nm [(("s":Str),v)] "s"=v:=by simp[nm,gN]
theorem sN_s{x:Int}:sN [(("s":Str),v)] "s" x=[(("s":Str),x)]:=by simp[sN]
section
variable{r:Wp}
theorem iI{α:Type}{l:List α}:l.filter (λ_=>eo)=[]:=List.filter_eq_nil_iff.mpr λ_ _ z=>by cases z
theorem ED{a b:List Rw}(e:(Jx "s":ax)∉g.u):bV C g (.ifr "s" a b)=none:=by
 unfold bV
 split
 .rfl
 .simp[dw,e,yd,iI]
theorem AV{k:Int}:bV C g (.put "s" k)=none:=by
 unfold bV
 split
 .rfl
 .simp[dw,yd,iI]
theorem wB(h:(Kb i:ax)∈g.u):bV C g (.take "s" i)=al (.inl i):=by
 unfold bV;rw[if_neg (List.ne_nil_of_mem h)];simp[dw,yd,h,iI]
theorem za(h:(Kb i:ax)∉g.u):bV C g (.take "s" i)=none:=by
 unfold bV
 split
 .rfl
 .simp[dw,yd,h,iI]
theorem qF{f:Nat}{x:Rw}(e:g.td=x::rest)(l:0<g.left)(j:bV C g x=ee):bo C (f+1) g=bo C f (eM C g rest x):=by
 rw[bo]
 split
 .next h=>rw[e]at h;cases h
 .next r' rest' h=>
  rw[e]at h;cases h;rw[if_neg (by lia),j]
theorem G2{f:Nat}{x:Rw}(e:g.td=x::rest)(l:0<g.left)(j:bV C g x=al q):bo C (f+1) g=(al q,g):=by
 rw[bo]
 split
 .next h=>rw[e]at h;cases h
 .next r' rest' h=>
  rw[e]at h;cases h;rw[if_neg (by lia),j]
theorem CL(F:C.mn="s"):∀(r:Wp)(v:Int)(f:Nat)(g:Gs),LSt C g v r->2*r.length+1<=f->
  (aA v r=.e (.int v)/\∃g',bo C f g=(ee,g')/\GU C g'=.int v)\/∃i y g',y.length<r.length/\aA v r=.a (.inl i) (aA 0 y) (aA 1 y)/\bo C f g=(al (.inl i),g')/\LAt C g' i y
 |[],v,f,g,I,hf=>by
  obtain⟨f,rfl⟩:∃j,f=j+1:=⟨f-1,by lia⟩
  have e:g.td=[]:=I.td;refine .inl ⟨rfl,g,?_,?_⟩
  .rw[bo]
   split
   .rw[F,if_neg I.us]
   .next h=>rw[e]at h;cases h
  .unfold GU
   rw[if_pos e,F,I.n,qx]
 |(w,i)::r,v,f,g,I,hf=>by
  simp only[Jl]at hf;obtain⟨f,rfl⟩:∃j,f=j+1+1:=⟨f-2,by lia⟩
  have G:=I.lf;simp only[Jl]at G;have nd:=Kz.mp I.nd;have H:=CL F r v (f+1) { g with left:=g.left-1,td:=r.map b8 };have e:g.td=b8 (w,i)::r.map b8:=I.td;have A:bV C g (b8 (w,i))=none:=by
   unfold b8
   split<;>exact ED I.us
  have J:=I.w1 (w,i) Jp;rw[qF e (by lia) A,aA]
  have B:eM C g (r.map b8) (b8 (w,i))={ g with left:=g.left-1,td:=(if v=w then [Rw.take "s" i] else [])++r.map b8 }:=by
   have K:=I.n;rcases J with e|e
   .rcases I.v1 with c|c
    .simp_all [b8,eM,qx]
    .simp_all [b8,eM,qx]
   .rcases I.v1 with c|c
    .simp_all [b8,eM,qx]
    .simp_all [b8,eM,qx]
  rw[B]
  by_cases c:v=w
  .rw[if_pos c,if_pos c]
   refine .inr ⟨i,r,{ g with left:=g.left-1,td:=[Rw.take "s" i]++r.map b8 },by simp,rfl,G2 rfl (by show 0<g.left-1;lia) (wB<|I.up (w,i) Jp),?_⟩
   refine⟨⟨v,I.n⟩,rfl,I.us,λp l=>I.up p (Jj _ l),λp l z=>nd.1 (JM.mpr ⟨p,l,z⟩),nd.2,λp l=>I.w1 p (Jj _ l),by show _<=g.left-1;lia,I.pl,λp l=>I.pr p (Jj _ l),I.pr (w,i) Jp⟩
  .rw[if_neg c,if_neg c,JE]
   rcases H ⟨I.n,rfl,I.us,λp l=>I.up p (Jj _ l),nd.2,I.v1,λp l=>I.w1 p (Jj _ l),by show _<=g.left-1;lia,I.pl,λp l=>I.pr p (Jj _ l)⟩ (by lia) with h|⟨i',y,g',h1,h2⟩
   .exact .inl h
   .exact .inr ⟨i',y,g',by simp;lia,h2⟩
theorem zx{x:Int}(I:LAt C g i r)(l:fR x)(f:Nat):∃h,bo C (f+1) (cA g (.inl i) x)=bo C f h/\LSt C h x r:=by
 obtain⟨v,j⟩:=I.n;have y:=I.lf;refine⟨_,qF (g:=cA g (.inl i) x) (x:=.take "s" i) (rest:=r.map b8) I.td (by show 0<g.left;lia) (za<|by simp[cA]),?_⟩
 have e:(g.ps.set i.toNat x)[i.toNat]?=al x:=by
  have:=I.ir;have:=I.pl;rw[Lg (by lia)]
 refine⟨?_,rfl,?_,?_,I.nd,l,I.w1,by show _<=g.left-1;lia,?_,I.pr⟩
 .simp only[eM,cA,j,kj,cN,Gs.cf,e,sN_s,OB]
 .simp only[eM,cA,JQ]
  exact λz=>I.us z.1.1
 .intro p e
  simp only[eM,cA,JQ,kj];have:=I.ni p e;exact⟨⟨I.up p e,by simpa using this⟩,by simp⟩
 .simp only[eM,cA,M9];exact I.pl
theorem mR(A:C.mn="s")(h:C.most=60)(l:∀i:Int,0<=i->i<C.many->bc C s (.inl i)=0)(y:∀i:Int,0<=i->i<C.many->bc C t (.inl i)=1):∀(n:Nat)(r:Wp)(v:Int)(g:Gs),r.length<=28->r.length<n->(∃j,bo C 61 g=bo C 60 j/\LSt C j v r)->dk C s t n g=aA v r
 |0,r,v,g,_,hn,_=>by lia
 |n+1,r,v,g,h28,hn,⟨j,e,I⟩=>by
  rw[dk,h,e];rcases CL A r v 60 j I (by lia) with⟨a,B,b,c⟩|⟨i,r',B,hr,a,b,L⟩
  .rw[b,a,<- c]
  .rw[b,a]
   show Tr.a _ _ _=_;rw[l i L.ir.1 L.ir.2,y i L.ir.1 L.ir.2,mR A h l y n r' 0 _ (by lia) (by lia) (zx L (.inl rfl) 60),mR A h l y n r' 1 _ (by lia) (by lia) (zx L (.inr rfl) 60)]
end
section
variable{many:Nat}
structure LOk(w z:Int)(many:Nat)(f:Int)(wp:Wp):Prop where
 w2:2<=w
 w9:w<=997
 z0:0<=z/\z<w
 m1:1<=many
 m2:many<=28
 ln:wp.length=many
 hd:∃i r,wp=(f,i)::r
 ways:∀p∈wp,fR p.1
 pr:∀p∈wp,0<=p.2/\p.2<many
 nd:(wp.map (·.2)).Nodup
def eN(z:Int)(many:Nat)(v:Int):Sta:=⟨[z],Jm many v⟩
theorem LOk.f1(h:LOk w z many f wp):fR f:=by
 obtain⟨i,r,e⟩:=h.hd;exact h.ways (f,i) (by rw[e];exact Jp)
theorem r_(l:2<=w):∀r:Wp,(∀p∈r,0<=p.2/\p.2<(many:Int))->bS ["s"] w many (r.map b8)
 |[],_=>by simp[bS]
 |p::r,h=>by
  have e:=h p Jp;simp only[Jf,bS];refine⟨?_,r_ l r λq j=>h q (Jj _ j)⟩;unfold b8
  split<;>simp[gE,bS,gw,e.1,e.2]
theorem yM:∀r:Wp,mI (r.map b8)<=1
 |[]=>by simp[mI]
 |p::r=>by
  have e:hR (b8 p)<=1:=by
   unfold b8
   split<;>simp[hR,mI]
  exact Nat.max_le.mpr ⟨e,yM r⟩
theorem LOk.ok(h:LOk w z many f wp):(gp w many f wp).Ok:=by
 have l:=h.w2;have y:=h.m2;have j:=h.f1;refine⟨h.w2,h.w9,by show many<=100;lia,by show 60<=10000;lia,by simp[gp],by simp[gp],by simp[gp],?_,?_,by simp[gp]⟩
 .show bS ["s"] w many (.put "s" f::wp.map b8)
  simp only[bS];refine⟨?_,r_ l wp h.pr⟩;rcases j with e|e<;>simp[gE,gw,e]<;>lia
 .show mI (.put "s" f::wp.map b8)<=7
  have:=yM wp;simp only[mI,hR];lia
theorem LOk.so(h:LOk w z many f wp)(l:fR v):SOk (gp w many f wp) (eN z many v):=by
 have y:=h.w2;refine⟨rfl,by simp[eN,gp],?_,?_⟩
 .intro x j
  simp only[eN,LF]at j;rw[j];exact h.z0
 .intro x j
  simp only[eN,List.mem_replicate]at j;show 0<=x/\x<w;rcases l with e|e<;>lia
theorem uR(i:Int)(h:0<=i)(e:i<many):bc C (eN z many v) (.inl i)=v:=by
 have:(Jm many v)[i.toNat]?=al v:=by rw[Lb,if_pos (by lia)]
 simp only[bc,eN,this,OB]
theorem xD:cM (gp w many f wp) (eN z many 0) (eN z many 1)=(Km many).map λ(i:Nat)=>Kb (i:Int):=by
 unfold cM dW;rw[List.filter_append];have h:((gp w many f wp).names.map (Jx:Str->ax)).filter (λk=>decide (bc (gp w many f wp) (eN z many 0) k≠bc (gp w many f wp) (eN z many 1) k))=[]:=by
  simp[gp,bc,eN]
 rw[h,JE];refine Mw.mpr λk j=>?_;obtain⟨i,e,rfl⟩:=JM.mp j;have e:i<many:=Mp.mp e;rw[uR _ (by lia) (by lia),uR _ (by lia) (by lia)]
 rfl
theorem LOk.tree(h:LOk w z many f wp):(gp w many f wp).tree (eN z many 0) (eN z many 1)=aA f wp:=by
 have B:=h.m2;have A:=h.ln;unfold Cse.tree;refine mR rfl rfl (λi e j=>uR i e j) (λi e j=>uR i e j) 40 wp f _ (by lia) (by lia) ⟨_,qF (x:=.put "s" f) (rest:=wp.map b8) rfl (by show (0:Int)<((60:Nat):Int);lia) AV,?_⟩
 have l:(g0 (gp w many f wp) (eN z many 0)<|eN z many 1).u=(Km many).map λ(i:Nat)=>Kb (i:Int):=xD;refine⟨by simp[eM,g0,gp,eN,sN,kj,cN],rfl,?_,?_,h.nd,h.f1,h.ways,?_,?_,h.pr⟩
 .simp[eM,l]
 .intro p y
  simp only[eM,l,JQ];obtain⟨e,j⟩:=h.pr p y;exact⟨JM.mpr ⟨p.2.toNat,Mp.mpr (by lia),by rw[Int.toNat_of_nonneg e]⟩,by simp⟩
 .show 2*(wp.length:Int)+1<=((60:Nat):Int)-1
  lia
 .simp[eM,g0,eN,gp]
theorem zj{p:Int×Int}{pl:RM}{st:List (List Int×Int)}{k:Nat}{x:Int}(H:c.most=60)(G:st.length+2<=60)(F:fR v)(B:fR p.1)(y:c.pieces[p.2.toNat]?=al x):
  ∃h,h.length<=st.length+2/\gn c (b8 p) pl ⟨[(("s":Str),v)],st⟩=(true,⟨[(("s":Str),if v=p.1 then x else v)],h⟩):=by
 have j:st.length<c.most:=by lia
 have A:st.length+1<c.most:=by lia
 have l:lk [(("s":Str),v)] "s"=v:=by
  unfold lk;rw[qx];rcases F with e|e<;>simp[e]
 obtain⟨w,i⟩:=p;dsimp only at B y ⊢;rcases F with rfl|rfl<;>rcases B with rfl|rfl
 .refine⟨(st++[(pl,0)])++[(pl++[0]++[((0:Nat):Int)],x)],by simp,?_⟩
  simp[b8,gn,bG,l,nt,j,A,cN,y,sN]
 .refine⟨st++[(pl,0)],by simp,?_⟩
  simp[b8,gn,bG,l,nt,j]
 .refine⟨st++[(pl,1)],by simp,?_⟩
  simp[b8,gn,bG,l,nt,j]
 .refine⟨(st++[(pl,1)])++[(pl++[1]++[((0:Nat):Int)],x)],by simp,?_⟩
  simp[b8,gn,bG,l,nt,j,A,cN,y,sN]
theorem yr{c:Cf}{x:Int}(A:c.most=60)(e:fR x):∀(r:Wp)(j:Nat)(st:List (List Int×Int)),st.length+2*r.length<=60->(∀p∈r,fR p.1/\c.pieces[p.2.toNat]?=al x)->(bG c (r.map b8) [] j ⟨[(("s":Str),x)],st⟩).1=true/\(bG c (r.map b8) [] j ⟨[(("s":Str),x)],st⟩).2.nums=[(("s":Str),x)]
 |[],j,st,_,_=>by simp[bG]
 |p::r,j,st,hl,h=>by
  simp only[Jl]at hl;obtain⟨l,F,y⟩:=zj (k:=0) (pl:=[]++[(j:Int)]) (st:=st) A (by lia) e (h p Jp).1 (h p Jp).2
  rw[ite_self]at y;simp only[Jf,bG,y,if_true];exact yr A e r (j+1) l (by lia) λq B=>h q (Jj _ B)
theorem LOk.mark(h:LOk w z many f wp){x:Int}(O:fR x):(gp w many f wp).mark (eN z many x)=.int x:=by
 obtain⟨i,r,e⟩:=h.hd;have G:=h.ln;have P:=h.m2;have A:∀p∈wp,(Jm many x)[p.2.toNat]?=al x:=λp A=>by
  obtain⟨a,b⟩:=h.pr p A;rw[Lb,if_pos (by lia)]
 have F:((gp w many f wp).cf<|eN z many x).most=60:=rfl;have l:(gp w many f wp).run (eN z many x)=bG ((gp w many f wp).cf<|eN z many x) (.put "s" f::wp.map b8) [] 0 ⟨[(("s":Str),z)],[]⟩:=rfl;have J:gn ((gp w many f wp).cf<|eN z many x) (.put "s" f) ([]++[((0:Nat):Int)]) ⟨[(("s":Str),z)],[]⟩=(true,⟨[(("s":Str),f)],[([((0:Nat):Int)],f)]⟩):=by
  simp[gn,nt,cN,sN,F]
 have R:r.length+1=many:=by rw[<- G,e];rfl
 obtain⟨y,H,B⟩:=zj (c:=(gp w many f wp).cf (eN z many x)) (v:=f) (p:=(f,i)) (k:=0) (pl:=[]++[((0+1:Nat):Int)]) (st:=[([((0:Nat):Int)],f)]) F (by simp) h.f1 h.f1 (A (f,i)<|by rw[e];exact Jp)
 dsimp only at B;rw[if_pos rfl]at B;simp only[Jl,J1]at H;obtain⟨I,K⟩:=yr (c:=(gp w many f wp).cf (eN z many x)) F O r (0+1+1) y (by lia) λp q=>⟨h.ways p (by rw[e];exact Jj _ q),A p<|by rw[e];exact Jj _ q⟩
 have j:(gp w many f wp).run (eN z many x)=bG ((gp w many f wp).cf<|eN z many x) (r.map b8) [] (0+1+1) ⟨[(("s":Str),x)],y⟩:=by
  rw[l,bG,J];simp only[if_true];rw[e,Jf,bG,<- e,B];simp only[if_true]
 unfold Cse.mark wO;rw[j,if_pos I,K];show D.int (nm _ "s")=_;rw[qx]
end
section
theorem yK{w:Str}{j d:D}(s:∀(M:Mem)(Q:DK)(E:DX),Q d M->ou ad [.str w,j] M Q E)(h:Q d M):fk ad [.str w,j] M Q E:=by
 simp only[Dp];unfold pO iV gb;generalize g7 ad (av E)=K;simp![pq];refine⟨b9 (by decide),λp A=>ap λQ' E' l _=>s _ _ _ (l _ _ ?_)⟩
 simp![];refine⟨b9 (by decide),λB y=>?_⟩
 simp![Mem.upd_del,ay y,Mem.upd_same];exact⟨_,λb o e=>by rw[ae (λq=>by rw[q,A]at e;cases e)];exact e,h⟩
theorem wG{w:Str}{P:D}(s:∀(M:Mem)(Q:DK)(E:DX),E ad.C_TooMany M->ou ad [.str w,P] M Q E)(h:Q (.str "toomany") M):fk ad [.str w,P] M Q E:=by
 simp only[Dp];unfold pO iV;generalize hK:gb ad (av E)=K;simp![pq];refine⟨b9 (by decide),λp hp=>ap λQ' E' _ he=>s _ _ _ (he _ _ ⟨rfl,λea hea=>?_⟩)⟩
 simp![];refine⟨b9 (by decide),λB J=>⟨b9 (by decide),λp2 Z=>?_⟩⟩
 simp![Mem.upd_del,ay Z,Mem.upd_same];refine⟨b9 (by decide),λG O=>⟨b9 (by decide),λp4 Y=>?_⟩⟩
 simp![Mem.upd_del,ay Y,Mem.upd_same,Mem.upd_upd];refine⟨b9 (by decide),λT l=>⟨nB (by decide),?_⟩⟩
 have H:∀b o,M b=al o->((((M.upd p<|.lst []).upd B<|.lst [.bl eo,.bl eo,.bl eo,.bl true]).upd G<|.lst [.bl eo,.bl eo,.bl eo,.bl true,.bl eo,.bl eo,.bl eo])) b=al o:=λb o e=>by
  have F:b≠p:=λq=>by rw[q,hp]at e;cases e
  have I:b≠B:=λq=>by rw[<- q,ae F,e]at J;cases J
  have X:b≠G:=λq=>by rw[<- q,ae I,ae F,e]at O;cases O
  rw[ae X,ae I,ae F];exact e
 generalize ((((M.upd p<|.lst []).upd B<|.lst [.bl eo,.bl eo,.bl eo,.bl true]).upd G<|.lst [.bl eo,.bl eo,.bl eo,.bl true,.bl eo,.bl eo,.bl eo]))=N at H l ⊢;rw[<- hK];unfold gb;generalize A:g7 ad (av E)=K3;simp![];refine⟨b9 (by decide),λp6 W=>?_⟩
 simp![Mem.upd_del,ay W,Mem.upd_same];have y:∀b o,M b=al o->(N.upd T<|.lst [.bl eo,.bl eo,.bl eo,.bl true,.bl eo,.bl eo,.bl eo,.bl eo,.bl eo,.bl eo,.bl eo]) b=al o:=λb o e=>by
  rw[ae (λq=>by rw[q]at e;rw[H _ _ e]at l;cases l)]
  exact H b o e
 rw[<- A];unfold g7 nu;generalize j:jy ad (av E)=K1;simp![];refine⟨b9 (by decide),λp7 R=>?_⟩
 simp![Mem.upd_del,ay R];refine⟨b9 (by decide),λp8 S=>?_⟩
 simp![Mem.upd_del,ay S];refine⟨b9 (by decide),λp9 h9=>?_⟩
 simp![Mem.upd_del,ay h9];rw[<- j];unfold jy;simp![Mem.upd_same];rw[if_neg (by decide)]
 exact⟨by decide,_,y,h⟩
variable{many:Nat}
def AI(w z:Int)(many:Nat)(f:Int)(wp:Wp):D:=bQ (gp w many f wp) (eN z many 0) (eN z many 1)
theorem tX:(cM (gp w many f wp) (eN z many 0)<|eN z many 1).length=many:=by rw[xD];simp
theorem ly(o:LOk w z many f wp)(h:1+(aA f wp).asks<=L->Q (aA f wp).d M)(A:L<1+(aA f wp).asks->Q (.str "toomany") M):fk ad [.str "tree",.tup [AI w z many f wp,.int (L:Nat)]] M Q E:=by
 have m2:=o.m2;have B:=tX (w:=w) (z:=z) (many:=many) (f:=f) (wp:=wp);have j:=o.tree
 by_cases c:1+(aA f wp).asks<=L
 .refine yK (d:=(aA f wp).d) (λM Q E q=>?_) (h c)
  rw[tB (n:=0)];unfold jU;simp![atI_0,atI_1];refine ap λQ' E' l y=>qJ o.ok (o.so<|.inl rfl) (o.so<|.inr rfl) (o.mark<|.inl rfl) (o.mark<|.inr rfl) (by decide) (by lia) (λ_=>l _ _ ?_) (λe=>?_)
  .rw[j];exact aj q
  .rw[j]at e;lia
 .refine wG (λM Q E q=>?_) (A<|by lia)
  rw[tB (n:=0)];unfold jU;simp![atI_0,atI_1];refine ap λQ' E' l y=>qJ o.ok (o.so<|.inl rfl) (o.so<|.inr rfl) (o.mark<|.inl rfl) (o.mark<|.inr rfl) (by decide) (by lia) (λe=>?_) (λ_=>y _ _ (bj q))
  rw[j]at e;lia
theorem wm(o:LOk w z many f wp)(A:L<=1000)(h:1+(aA f wp).asks<=L->Q (.tup [.int ((cn "sound" f wp:Nat):Int),.int ((cn "faulty" f wp:Nat):Int),.int 0]) M)(G:L<1+(aA f wp).asks->Q (.str "toomany") M):fk ad [.str "counted",.tup [AI w z many f wp,.int (L:Nat)]] M Q E:=by
 have m2:=o.m2;have F:=tX (w:=w) (z:=z) (many:=many) (f:=f) (wp:=wp);have e:=o.tree;have ln:=o.ln;have tok:rJ ((gp w many f wp).tree (eN z many 0)<|eN z many 1):=by rw[e];exact iq wp f
 have B:=nC wp f (2 ^ many) o.f1
 by_cases c:1+(aA f wp).asks<=L
 .refine yK (λM Q E q=>?_) (h c)
  rw[tB (n:=0)];unfold jU;simp![atI_0,atI_1];refine ap λQ' E' l y=>kX o.ok (o.so<|.inl rfl) (o.so<|.inr rfl) (o.mark<|.inl rfl) (o.mark<|.inr rfl) (by decide) (by lia) A tok (λ_=>l _ _ ?_) (λj=>?_)
  .rw[e,F,B,<- ln];exact aj q
  .rw[e]at j;lia
 .refine wG (λM Q E q=>?_) (G<|by lia)
  rw[tB (n:=0)];unfold jU;simp![atI_0,atI_1];refine ap λQ' E' l y=>kX o.ok (o.so<|.inl rfl) (o.so<|.inr rfl) (o.mark<|.inl rfl) (o.mark<|.inr rfl) (by decide) (by lia) A tok (λj=>?_) (λ_=>y _ _ (bj q))
  rw[e]at j;lia
end
theorem Da:∀(r:Wp)(m:Int×Int),(∀p∈r,fR p.1)->0<=m.1->0<=m.2->0<=(sE m r).1/\0<=(sE m r).2
 |[],m,_,h1,h2=>⟨h1,h2⟩
 |(w,i)::r,m,h,h1,h2=>by
  unfold sE;refine Da r _ (λp j=>h p (Jj _ j)) ?_ ?_
  .rcases h (w,i) Jp with e|e<;>dsimp only at e<;>subst e<;>simp<;>lia
  .rcases h (w,i) Jp with e|e<;>dsimp only at e<;>subst e<;>simp<;>lia
theorem jp:∀(r:Wp)(v:Int),1+(aA v r).asks<=2 ^ r.length
 |[],v=>by simp[aA,Tr.asks]
 |(w,i)::r,v=>by
  have a:=jp r 0;have b:=jp r 1;have c:=jp r v;rw[Jl,Mh];unfold aA
  split
  .unfold Tr.asks;lia
  .lia
section
variable{many:Nat}
theorem LOk.ends(o:LOk w z many f wp):(sE (1-f,f) wp).1+(sE (1-f,f) wp).2=((1+(aA f wp).asks:Nat):Int):=by
 rw[uf wp _ o.ways];rcases o.f1 with e|e<;>subst e<;>simp
theorem LOk.sum0(o:LOk w z many f wp):(sm (1-f,f) wp).1=((cn "sound" f wp:Nat):Int):=by
 rw[(yj wp _ o.ways).1];rcases o.f1 with e|e<;>subst e<;>simp
theorem LOk.sum1(o:LOk w z many f wp):(sm (1-f,f) wp).2=((cn "faulty" f wp:Nat):Int):=by
 rw[(yj wp _ o.ways).2];rcases o.f1 with e|e<;>subst e<;>simp
theorem LOk.few(o:LOk w z many f wp):1+(aA f wp).asks<=2 ^ 28:=by
 have:=jp wp f;have e:2 ^ wp.length<=2 ^ 28:=Ot (by decide) (by have:=o.ln;have:=o.m2;lia)
 lia
theorem vp(o:LOk w z many f wp)(h:Q (.tup [.lst [.int ((cn "sound" f wp:Nat):Int),.int ((cn "faulty" f wp:Nat):Int)],.int ((1+(aA f wp).asks:Nat):Int)]) M):rY ad [.lst (wp.map λp=>.int p.1)] M Q E:=by
 have R:=o.ways;have he:=o.ends;have W:=o.sum0;have h1:=o.sum1;have hf:=o.few;have nn:=Da wp (1-f,f) R (by rcases o.f1 with e|e<;>simp[e]) (by rcases o.f1 with e|e<;>simp[e])
 obtain⟨i,r,e⟩:=o.hd;have a0:atI (wp.map λp=>D.int p.1) 0=al (.int f):=by rw[e];exact Au
 rw[Gz (n:=0)];unfold tZ;generalize J:jt ad (av E)=K5;simp![a0];refine⟨b9 (by simp),λp l=>?_⟩
 simp![Mem.upd_del,ay l];rw[<- J];unfold jt;generalize K:j9 ad (av E)=K4;simp![];intro p l;simp![Mem.upd_del,ay l];rw[<- K];unfold j9;generalize I:iH ad (av E)=K3;simp only[ah,cc,cC,ac,dt,aT,bB];refine bf (λS U N=>N=M/\∃(r:Wp)(m e:Int×Int)(H:Option D),S=r.map (λp=>D.int p.1)/\(∀p∈r,fR p.1)/\sm m r=sm (1-f,f) wp/\sE e r=sE (1-f,f) wp/\U=[al (.lst (wp.map λp=>.int p.1)),al (.lst [.int m.1,.int m.2]),al (.lst [.int e.1,.int e.2]),H]) (λ_ _ _ _=>bh) ?_ ?_ _ _ _ ⟨rfl,wp,(1-f,f),(1-f,f),ee,rfl,R,rfl,rfl,rfl⟩
 .rintro U N ⟨rfl,r,m,e,H,A,_,B,F,rfl⟩
  have:r=[]:=by cases r with|nil=>rfl|cons _ _=>simp at A
  subst this;rw[sm]at B;rw[sE]at F;rw[<- I];unfold iH;simp![cQ,gx,B,F];have Z:[(sE (1-f,f) wp).1,(sE (1-f,f) wp).2].sum=((1+(aA f wp).asks:Nat):Int):=by rw[<- he];simp
  refine⟨⟨by simp,λx Y=>?_⟩,b9 (by simp),?_⟩
  .simp only[Jq,KP,or_false]at Y
   lia
  .rw[Z,W,h1];exact aj h
 .rintro x S U N ⟨rfl,r,m,e,H,A,T,B,F,rfl⟩ D' O _ _ _
  cases r with
  |nil=>simp at A
  |cons p r=>
   obtain⟨j,X⟩:=p;simp only[Jf,J7]at A;obtain⟨rfl,rfl⟩:=A;have P:=T (j,X) Jp;have y:(-(2 ^ 64)<1+j/\1+j<2 ^ 64)/\(-(2 ^ 64)<j/\j<2 ^ 64)/\(-(2 ^ 64)<2-j/\2-j<2 ^ 64)/\(-(2 ^ 64)<1-j/\1-j<2 ^ 64):=by
    rcases P with e|e<;>dsimp only at e<;>subst e<;>decide
   simp only[ag,Jt];unfold nq;generalize G:iB ad (av E)=K1;simp![atI_0,atI_1];refine⟨.inr y.1,.inr y.2.1,.inr y.2.2.1,.inr y.2.2.2,b9 (by simp),λp l=>?_⟩
   simp![Mem.upd_del,ay l];rw[<- G];unfold iB;simp![atI_0,atI_1];refine⟨.inr y.2.1,.inr y.2.2.2,b9 (by simp),λp l=>?_⟩
   simp![Mem.upd_del,ay l];exact O _ _ ⟨rfl,r,(m.1*(1+j)+m.2*j,m.2*(2-j)+m.1*(1-j)),(e.1+e.2*j,e.2+e.1*(1-j)),al (.int j),rfl,λq hq=>T q (Jj _ hq),B,F,rfl⟩
theorem rB:∀r:Wp,rQ (r.map λp=>.int p.1) (r.map λp=>.int p.2)=r.map λp=>D.tup [.int p.1,.int p.2]
 |[]=>rfl
 |p::r=>by
  have:=rB r;unfold rQ at this ⊢;simp only[Jf,LD,this]
theorem qV{J:D}(o:LOk w z many f wp)(R:IsMx M J ks)(h:Q (.int<|fX ks f wp) M):sZ ad [.lst (wp.map λp=>.int p.1),.lst (wp.map λp=>.int p.2),J] M Q E:=by
 obtain⟨i,r,e⟩:=o.hd;have P:atI (wp.map λp=>D.int p.1) 0=al (.int f):=by rw[e];exact Au
 rw[Hy (n:=0)];unfold sG;generalize I:iO ad (av E)=K3;simp![P];rw[<- I];unfold iO;simp only[ah,cc,vP,aa,af,ac,dt,Ja,aT,bB,rB];refine bf (λK U N=>N=M/\∃(r:Wp)(v:Int)(G H:Option D),K=r.map (λp=>D.tup [.int p.1,.int p.2])/\fX ks v r=fX ks f wp/\U=[al (.lst (wp.map λp=>.int p.1)),al (.lst (wp.map λp=>.int p.2)),al J,al (.int v),G,H]) (λ_ _ _ _=>bh) ?_ ?_ _ _ _ ⟨rfl,wp,f,ee,ee,rfl,rfl,rfl⟩
 .rintro U N ⟨rfl,r,v,G,H,A,j,rfl⟩
  have:r=[]:=by cases r with|nil=>rfl|cons _ _=>simp at A
  subst this;rw[fX]at j;subst j;simp only[aC,ac,dt,Ja];exact aj h
 .rintro x K U N ⟨rfl,r,v,G,H,A,j,rfl⟩ D' y _ _ _
  cases r with
  |nil=>simp at A
  |cons p r=>
   obtain⟨B,l⟩:=p;simp only[Jf,J7]at A;obtain⟨rfl,rfl⟩:=A
   replace j:fX ks (if v=B then (if (Kb l:ax)∈ks then 1 else 0) else v) r=fX ks f wp:=j
   unfold mW;generalize F:jb ad (av E)=K1;simp![]
   by_cases c:v=B
   .rw[if_pos c]at j
    rw[if_pos c,<- F];unfold jb;have O:D.int l=kD (.inl l):=rfl;simp only[au,ce,aa,af,ai,ac,ag,Jt,dt,Ja,O,vt,ya R,oE];refine y _ _ ⟨rfl,r,_,al (.int B),al (.int l),rfl,j,?_⟩
    by_cases d:(Kb l:ax)∈ks<;>simp[d,kD]
   .rw[if_neg c]at j
    rw[if_neg c];exact y _ _ ⟨rfl,r,v,al (.int B),al (.int l),rfl,j,rfl⟩
end
section
variable{k:Pt}{b:Nat}{all:List ax}
theorem n8(hl:all.length<=100)(S:Has k (b+2+all.length) M)(T:∀(ks:List ax) M',ks.length<=all.length->Dr k b M M'->Q (zq ks) M')(Y:∀(ks:List ax) M' p,ks.length<=all.length->Dr k b M M'->M' p=ee->Q (.ref p) (M'.upd p<|.lst<|ks.map kD)):xm ad [.ref k.p,zq all] M Q E:=by
 have l:zq all=.lst (all.map kD):=rfl;rw[u_q2 (n:=0)];unfold Bi qy;generalize G:n6 ad (av E)=K2;generalize I:mv ad (av E)=K1;simp![];refine bg (b:=b+1+all.length) (S.le<|by lia) (by decide) (by decide) λr N1 a1 b1 d1=>?_
 simp![]
 by_cases c:r=0
 .rw[if_pos c,<- I]
  unfold mv;simp![l];refine⟨b9 (by decide),λZ H=>?_⟩
  simp![Mem.upd_del,ay H];intro p2 R;simp![Mem.upd_del,ay R];refine⟨b9 (by decide),λp3 O=>?_⟩
  simp![Mem.upd_del,ay O];refine bg (b:=b) (d1.1.le<|by lia) (by decide) (by decide) λq N2 W X A=>?_
  have:q=0\/q=1:=by lia
  rcases this with rfl|rfl
  .simp only[atI_0,dt]
   exact aj (T [] N2 (by simp)<|d1.trans A)
  .simp only[atI_1,dt,Ja]
   exact aj (T all N2 (by simp)<|d1.trans A)
 .rw[if_neg c,<- G]
  unfold n6;simp only[aC,bw,cC,ac,Ja,dt,l,aT,bB,bU,Jf,JZ,JU,JE,Lk];refine c_ (λP h U N=>∃(e ks:List ax)(F:Option D),P=e.map kD/\h=ks.map kD/\ks.length+e.length<=all.length/\U=[F,al (.ref k.p)]/\Dr k (b+e.length) M N) (λ_ _ _ _ _=>bh) ?_ ?_ ?_ _ _ _ _ ⟨all,[],ee,rfl,rfl,by simp,rfl,d1.le<|by lia⟩
  .rintro h U N ⟨e,ks,F,j,rfl,B,rfl,d⟩
   have:e=[]:=by cases e with|nil=>rfl|cons _ _=>simp at j
   subst this;exact λp S=>aj (Y ks N p (by simpa using B) (by simpa using d) S)
  .rintro x P h U N ⟨e,ks,F,j,rfl,B,rfl,d⟩ N' K J
   cases e with
   |nil=>simp at j
   |cons y e=>
    simp only[Jf,J7]at j;obtain⟨rfl,rfl⟩:=j;simp only[Jl]at B d;simp only[ag,Jt,ao,ai,aw,ak,aa,ac,dC,af,Ja,dt];refine⟨rfl,bg (b:=b+e.length) (d.1.le<|by lia) (by decide) (by decide) λr N2 W X A=>?_⟩
    show bn 60 (.int r)=true/\bn 60 (.int 0)=true/\_;refine⟨rfl,rfl,?_⟩;show if decide (r=0)=true then _ else _
    by_cases c:r=0
    .rw[if_pos (by simpa using c)]
     exact K _ _ _ (by rw[Ji];exact nB (by lia)) ⟨e,ks++[y],_,rfl,by simp,by simp;lia,rfl,d.trans A⟩
    .rw[if_neg (by simpa using c)]
     exact J .non _ _ ⟨e,ks,_,rfl,rfl,by lia,rfl,d.trans A⟩
  .rintro x P h U N ⟨e,ks,F,j,rfl,B,rfl,d⟩
   rw[Ji];exact nB (by lia)
theorem Fa:dy 0 n=((Km n).map λ(i:Nat)=>(Kb (i:Int):ax)).map kD:=by simp[dy,kD]
theorem ma{F:BxQ EE λd M'=>frz d M' Q}(B:n<=100)(G:Has k (b+2+n) M)(h:∀(ks:List ax) M',Has k b M'->Q (zq ks) M'):calls (xm ad) EE [.ref k.p,.lst (dy 0 n)] M (λd M'=>frz d M' Q) F:=by
 rw[Fa];have y:∀(l:List ax),D.lst (l.map kD)=zq l:=λ_=>rfl;rw[y];have A:∀{ks:List ax}{M':Mem},Q (zq ks) M'->frz (zq ks) M' Q:=λq=>q;exact ap λQ' E' j _=>n8 (b:=b) (by simpa using B) (by simpa using G) (λks M' _ d=>j _ _ (A<|h ks M' d.1)) λks M' p _ d e=>j _ _ (dQ e<|h ks M' d.1)
end
def fH:Nat->Nat->List D
 |_,0=>[]
 |j,n+1=>.int (j:Nat)::fH (j+1) n
theorem sB:∀(n j:Nat),(Km n).map (λ(i:Nat)=>D.int ((j:Nat)+(i:Int)))=fH j n
 |0,_=>rfl
 |n+1,j=>by
  rw[NT,Jf,Ly,fH,<- sB n (j+1)];simp only[Function.comp_def];have e:D.int ((j:Nat)+((0:Nat):Int))=D.int (j:Nat):=by simp
  rw[e];exact congrArg _ (KW λi _=>congrArg D.int (by lia))
theorem zB(j n:Nat):dy (j:Nat) n=fH j n:=sB n j
theorem FT{os:RM}{j:Nat}{r:Int}(A:os.length=j)(F:os.Nodup)(l:∀i∈os,0<=i/\i<(j:Int))(e:RM)(B:e=os.take r.toNat++(j:Int)::os.drop r.toNat):e.length=j+1/\e.Nodup/\∀i∈e,0<=i/\i<((j+1:Nat):Int):=by
 have h:e.Perm ((j:Int)::os):=by
  rw[B];have:=List.perm_middle (a:=(j:Int)) (l₁:=os.take r.toNat) (l₂:=os.drop r.toNat)
  rwa [List.take_append_drop]at this
 refine⟨by rw[h.length_eq,Jl,A],h.nodup_iff.mpr (Kz.mpr ⟨λz=>?_,F⟩),λi y=>?_⟩
 .have:=(l _ z).2;lia
 .rcases Jq.mp (h.mem_iff.mp y) with z|z
  .lia
  .have:=l i z;lia
theorem A2{e:RM}(j:e≠[])(h:∀v∈e,fR v):∃l,fR l/\atI (e.map D.int) (-1)=al (.int l):=by
 obtain⟨a,l,rfl⟩:∃a l,e=a++[l]:=⟨e.dropLast,e.getLast j,(List.dropLast_concat_getLast j).symm⟩;refine⟨l,h l (by simp),?_⟩
 unfold atI qQ;rw[if_neg (by decide),if_pos (by simp;lia)]
 have:((-1:Int)+(((a++[l]).map D.int).length:Int)).toNat=a.length:=by simp;lia
 rw[this];simp
section
variable{k:Pt}{b:Nat}
structure Lst(k:Pt)(p:eg)(xs:List D)(N:Mem):Prop where
 e:N p=al (.lst xs)
 n1:p≠k.p
 n2:p≠k.q
theorem Lst.dr{xs:List D}{N':Mem}(h:Lst k p xs N)(d:Dr k b N N'):Lst k p xs N':=⟨by rw[d.2 p h.n1 h.n2];exact h.e,h.n1,h.n2⟩
theorem Lst.set{xs ys:List D}(h:Lst k p xs N):Lst k p ys (N.upd p<|.lst ys):=⟨Mem.upd_same,h.n1,h.n2⟩
theorem Lst.off{q:eg}{xs ys:List D}(h:Lst k p xs N)(n:p≠q):Lst k p xs (N.upd q<|.lst ys):=⟨by rw[ae n];exact h.e,h.n1,h.n2⟩
theorem Lst.has{xs ys:List D}(h:Lst k p xs N)(t:Has k b N):Has k b (N.upd p<|.lst ys):=t.upd ⟨h.n1,h.n2⟩
theorem Lst.new{xs:List D}(t:Has k b N)(e:N p=ee):Lst k p xs (N.upd p<|.lst xs):=⟨Mem.upd_same,(t.nep e).1,(t.nep e).2⟩
theorem Lst.ne{q:eg}{xs:List D}(h:Lst k p xs N)(j:N q=ee):p≠q:=Mem.ne h.e j
abbrev Ls(k:Pt)(p:eg)(xs:RM)(N:Mem):Prop:=Lst k p (xs.map D.int) N
theorem wU{many:Nat}{J y:Option D}{rest:Dl}(hm:many<=28)(t:Has k (b+many) N)(o:Ls k po [] N)(h:∀y os N',Has k b N'->Ls k po os N'->os.length=many->os.Nodup->(∀i∈os,0<=i/\i<(many:Int))->D0.nx (al (.ref k.p)::J::al (.int (many:Nat))::al (.int f)::al (.ref po)::y::rest) N'):
  cc (lE<|aa (ac 2) af) (ag 5) (iP ad EE) D0 (al (.ref k.p)::J::al (.int (many:Nat))::al (.int f)::al (.ref po)::y::rest) N:=by
 simp only[cc,lE,aa,ac,af,dt,Ja,JL];refine⟨by lia,by lia,?_⟩
 have R:dy 0 many=fH 0 many:=zB 0 many;rw[R];refine bf (λO U N=>∃(j n:Nat)(os:RM)(y:Option D),O=fH j n/\j+n=many/\U=al (.ref k.p)::J::al (.int (many:Nat))::al (.int f)::al (.ref po)::y::rest/\Has k (b+n) N/\Ls k po os N/\os.length=j/\os.Nodup/\∀i∈os,0<=i/\i<(j:Int)) (λ_ _ _ _=>bh) ?_ ?_ _ _ _ ⟨0,many,[],y,rfl,by lia,rfl,t,o,rfl,List.nodup_nil,by simp⟩
 .rintro U N ⟨j,n,os,y,A,P,rfl,t,o,l,H,G⟩
  have:n=0:=by cases n with|zero=>rfl|succ n=>simp[fH]at A
  subst this;obtain rfl:many=j:=by lia
  exact h _ os N t o l H G
 .rintro x O U N ⟨j,n,os,y,A,P,rfl,t,o,l,H,G⟩ D' F _ _ _
  cases n with
  |zero=>simp[fH]at A
  |succ n=>
   simp only[fH,J7]at A;obtain⟨rfl,rfl⟩:=A;have T:=o.e;unfold iP;simp only[ag,Jt,aX,me,aa,aw,ak,ai,ac,dC,af,dt,Ja,cj,T,bz];refine⟨trivial,rfl,bg (b:=b+n) (t.le<|by lia) (by lia) (by lia) λr N1 W b1 K=>?_⟩
   have B:=o.dr K;have I:=B.e;simp only[frz,j7,I,Ji];obtain⟨X,Z,S⟩:=FT (r:=r) l H G _ rfl;refine⟨W,by lia,nB (by lia),F _ _ ⟨j+1,n,_,_,rfl,by lia,rfl,B.has K.1,?_,X,Z,S⟩⟩
   have Y:(os.map D.int).take r.toNat++D.int (j:Nat)::(os.map D.int).drop r.toNat=(os.take r.toNat++(j:Int)::os.drop r.toNat).map D.int:=by simp
   rw[Y];exact B.set
theorem BR{many:Nat}{G:Int}{O F:Option D}{rest:Dl}{B:eg}{os:RM}(hm:many<=28)(hm1:1<=many)(hf:fR f)(ht:2<=G/\G<=10)(t:Has k (b+many) N)(o:Ls k po os N)(w:Ls k B [f] N)(Y:po≠B)(h:∀F A N',Has k b N'->Ls k po os N'->Ls k B (f::A) N'->A.length+1=many->(∀v∈A,fR v)->D0.nx (al (.ref k.p)::O::al (.int (many:Nat))::al (.int f)::al (.ref po)::F::al (.ref B)::al (.int G)::rest) N'):
  cc (tL<|aa (dC<|.int 1)<|aa (ac 2) af) (ag 5) (iA ad EE) D0 (al (.ref k.p)::O::al (.int (many:Nat))::al (.int f)::al (.ref po)::F::al (.ref B)::al (.int G)::rest) N:=by
 simp only[cc,tL,aa,dC,ac,af,dt,Ja];refine⟨⟨by lia,by lia,by lia,by lia⟩,?_⟩
 have en:(((many:Nat):Int)-1).toNat=many-1:=by lia
 have e0:dy 1 (many-1)=fH 1 (many-1):=zB 1 (many-1);rw[en,e0];refine bf (λZ U N=>∃(j n:Nat)(A:RM)(F:Option D),Z=fH j n/\j+n=many/\U=al (.ref k.p)::O::al (.int (many:Nat))::al (.int f)::al (.ref po)::F::al (.ref B)::al (.int G)::rest/\Has k (b+n) N/\Ls k po os N/\Ls k B (f::A) N/\A.length+1=j/\∀v∈A,fR v) (λ_ _ _ _=>bh) ?_ ?_ _ _ _ ⟨1,many-1,[],F,rfl,by lia,rfl,t.le (by lia),o,w,rfl,by simp⟩
 .rintro U N ⟨j,n,A,F,J,ej,rfl,t,o,w,l,K⟩
  have:n=0:=by cases n with|zero=>rfl|succ n=>simp[fH]at J
  subst this;exact h _ A N t o w (by lia) K
 .rintro x Z U N ⟨j,n,A,F,J,ej,rfl,t,o,w,l,K⟩ D' W _ _ _
  cases n with
  |zero=>simp[fH]at J
  |succ n=>
   simp only[fH,J7]at J;obtain⟨rfl,rfl⟩:=J;have we:=w.e;have all:∀v∈f::A,fR v:=λv R=>by
    rcases Jq.mp R with z|z
    .rw[z];exact hf
    .exact K v z
   obtain⟨la,I,P⟩:=A2 (by simp) all
   unfold iA;simp only[ag,Jt,aX,me,aa,aw,br,ak,ai,ac,dC,af,ce,dt,Ja,cj,we,aB,Bk,aT,P,nE];refine⟨trivial,b9 (by simp),λp hp=>dQ hp ⟨rfl,bg (b:=b+n) (t.le<|by lia) (by lia) (by lia) λr N1 a1 b1 S=>?_⟩⟩
   have o1:=o.dr S;have X:=w.dr S;have T:=X.e;have H:∀y,fR y->bM (.ref B) [.int y] N1 λ_ M'=>D'.nx (al (.ref k.p)::O::al (.int (many:Nat))::al (.int f)::al (.ref po)::al (.int (j:Nat))::al (.ref B)::al (.int G)::rest) M':=λy hy=>by
    simp only[bM,T,Ji,Jl];refine⟨nB (by lia),W _ _ ⟨j+1,n,A++[y],_,rfl,by lia,rfl,X.has S.1,o1.off Y,?_,by simp;lia,?_⟩⟩
    .have em:(f::A).map D.int++[D.int y]=(f::(A++[y])).map D.int:=by simp
     rw[em];exact X.set
    .intro v R
     rcases Mj.mp R with z|z
     .exact K v z
     .rw[LF.mp z];exact hy
   simp only[frz,cP,dv,bn,aG,oE];refine⟨trivial,trivial,?_⟩
   by_cases c:r=0
   .simp only[c,decide_true,if_true,atI_1,dt,Ja]
    exact H _ (by rcases I with e|e<;>subst e<;>simp[fR])
   .simp only[c,decide_false,atI_0,dt]
    exact H _ I
end
theorem fW:∀{a b:List Rw},aS (a++b)=aS a++aS b
 |[],b=>rfl
 |r::a,b=>by simp[aS,fW]
theorem lW:∀{a:List Rw},(aS a).length=a.length
 |[]=>rfl
 |r::a=>by simp[aS,lW]
section
variable{k:Pt}{b:Nat}
theorem BD{W S T P R B j l:Option D}{rest:Dl}{F A:eg}(hm:wp.length<=28)(hw:∀p∈wp,fR p.1)(t:Has k b N)(o:Ls k po (wp.map (·.2)) N)(w:Ls k F (wp.map (·.1)) N)(r:Lst k A (aS [.put "s" f]) N)(n1:po≠A)(n2:F≠A)(h:∀B j l N',Has k b N'->Ls k po (wp.map (·.2)) N'->Ls k F (wp.map (·.1)) N'->Lst k A (aS (.put "s" f::wp.map b8)) N'->D0.nx (al (.ref k.p)::W::S::T::al (.ref po)::P::al (.ref F)::R::al (.ref A)::B::j::l::rest) N'):
  cc (vP<|aa (ac 6)<|aa (ac 4) af) (kM 2<|bN (ag 9)<|bN (ag 10) kT) (jd ad EE) D0 (al (.ref k.p)::W::S::T::al (.ref po)::P::al (.ref F)::R::al (.ref A)::B::j::l::rest) N:=by
 have oe:=o.e;have we:=w.e;have e1:(wp.map (·.1)).map D.int=wp.map λp=>D.int p.1:=by simp
 have e2:(wp.map (·.2)).map D.int=wp.map λp=>D.int p.2:=by simp
 rw[e2]at oe;rw[e1]at we;simp only[cc,vP,aa,af,ac,dt,Ja,aT,oe,we,rB,bB];refine bf (λZ U N=>∃(d r:Wp)(B j l:Option D),Z=r.map (λp=>D.tup [.int p.1,.int p.2])/\d++r=wp/\U=al (.ref k.p)::W::S::T::al (.ref po)::P::al (.ref F)::R::al (.ref A)::B::j::l::rest/\Has k b N/\Ls k po (wp.map (·.2)) N/\Ls k F (wp.map (·.1)) N/\Lst k A (aS (.put "s" f::d.map b8)) N) ?_ ?_ ?_ _ _ _ ⟨[],wp,B,j,l,rfl,rfl,rfl,t,o,w,r⟩
 .rintro Z U N ⟨d,r,B,j,l,H,G,rfl,t,o,w,I⟩ q hq
  simp only[JU,JE,Jq,KP,or_false]at hq;rcases hq with rfl|rfl
  .rw[<- e1];exact w.e
  .rw[<- e2];exact o.e
 .rintro U N ⟨d,r,B,j,l,H,G,rfl,t,o,w,I⟩
  have:r=[]:=by cases r with|nil=>rfl|cons _ _=>simp at H
  subst this;rw[JR]at G;subst G;exact h _ _ _ N t o w I
 .rintro x Z U N ⟨d,r,B,j,l,H,G,rfl,t,o,w,I⟩ D' Y _ _ _
  cases r with
  |nil=>simp at H
  |cons p r=>
   have hp:=hw p (by rw[<- G];simp)
   obtain⟨O,K⟩:=p;simp only[Jf,J7]at H;obtain⟨rfl,rfl⟩:=H;have re:=I.e;have hl:(aS (.put "s" f::d.map b8)).length<=100:=by
    rw[lW];have:d.length<=wp.length:=by rw[<- G];simp
    simp;lia
   have J:∀y:D,y=(b8 (O,K)).d->bM (.ref A) [y] N λ_ M'=>D'.nx (al (.ref k.p)::W::S::T::al (.ref po)::P::al (.ref F)::R::al (.ref A)::al (.int O)::al (.int K)::al (.tup [.tup [.str "take",.str "s",.int K]])::rest) M':=λy hy=>by
    simp only[bM,re];refine⟨nB (by lia),Y _ _ ⟨d++[(O,K)],r,_,_,_,rfl,by rw[<- G];simp,rfl,I.has t,o.off n1,w.off n2,?_⟩⟩
    have em:aS (.put "s" f::d.map b8)++[y]=aS (.put "s" f::(d++[(O,K)]).map b8):=by
     rw[hy,Ml,<- JU,fW];rfl
    rw[em];exact I.set
   unfold jd;generalize X:iC ad EE=K3;simp only[kM,bN,kT,ag,ah,au,aN,aa,af,dC,ac,Jt,dt,Ja];refine⟨rfl,b9 (by simp),b9 (by simp),?_⟩
   rw[<- X];unfold iC;simp only[aX,me,kH,ao,ai,aN,aa,af,dC,ac,dt,Ja,cj,re,cP,dv,bn,aG];refine⟨trivial,trivial,trivial,?_⟩
   by_cases c:O=1
   .rw[if_pos (by simpa using c)]
    refine⟨b9 (by simp),b9 (by simp),J _ ?_⟩
    unfold b8;rw[if_pos c];rfl
   .rw[if_neg (by simpa using c)]
    refine⟨b9 (by simp),b9 (by simp),J _ ?_⟩
    unfold b8;rw[if_neg c];rfl
end
theorem yA:(Jm n [D.int v]).flatten=(Jm n v).map D.int:=by simp
section
variable{k:Pt}{b:Nat}
theorem vG(t:Has k (b+100) M)(h:∀(w z:Int)(many:Nat)(f:Int)(wp:Wp)(po j:eg) N,LOk w z many f wp->Has k b N->Ls k po (wp.map (·.2)) N->Ls k j (wp.map (·.1)) N->po≠j->Q (.tup [AI w z many f wp,.ref j,.ref po]) N):su ad [.ref k.p,.int 28] M Q E:=by
 rw[Hc (n:=0)];unfold uw;generalize S:g9 ad (av E)=K15;simp only[ah,au,ai,dC,aw,ak,aa,ac,af,dt,Ja];refine⟨rfl,bg (b:=b+99) (t.le<|by lia) (by decide) (by decide) λX N1 a1 b1 d1=>?_⟩
 simp only[frz,bz,ag,Jt];obtain⟨many,em⟩:∃n:Nat,1+X=(n:Int):=⟨(1+X).toNat,by lia⟩
 rw[em,<- S];unfold g9;generalize H:fU ad (av E)=K14;simp only[ah,au,dC,aw,ak,aa,ac,af,br,dt,Ja];refine⟨rfl,bg (b:=b+98) (d1.1.le<|by lia) (by decide) (by decide) λf N2 a2 b2 d2=>?_⟩
 simp only[frz,ag,Jt];refine⟨b9 (by simp),λpo W=>?_⟩
 have hf:fR f:=by unfold fR;lia
 have o0:Ls k po [] (N2.upd po<|.lst []):=Lst.new d2.1 W;have t3:Has k (b+98) (N2.upd po<|.lst []):=d2.1.upd (d2.1.nep W);rw[<- H];unfold fU;generalize J:fG ad (av E)=K13;refine mo ?_;refine wU (b:=b+50) (many:=many) (by lia) (t3.le<|by lia) o0 λc5 os N4 t4 o4 ol T org=>?_
 show K13 _ _ _;rw[<- J];unfold fG;generalize P:fF ad (av E)=K12;simp only[ah,au,br,aa,af,ac,dt,Ja];refine⟨b9 (by simp),λj F=>?_⟩
 have n1:=o4.ne F;have w5:Ls k j [f] (N4.upd j<|.lst [.int f]):=Lst.new t4 F;have t5:Has k (b+50) (N4.upd j<|.lst [.int f]):=t4.upd (t4.nep F);have o5:Ls k po os (N4.upd j<|.lst [.int f]):=o4.off n1;simp only[ag,Jt];rw[<- P];unfold fF;generalize I:fz ad (av E)=K11;simp only[ah,au,ai,dC,aw,ak,aa,ac,af,dt,Ja];refine⟨rfl,bg (b:=b+49) (t5.le<|by lia) (by decide) (by decide) λtu N6 a6 b6 d6=>?_⟩
 simp only[frz,bz,ag,Jt];rw[<- I];unfold fz;generalize R:fN ad (av E)=K10;refine mo ?_;refine BR (b:=b+20) (many:=many) (os:=os) (by lia) (by lia) hf ⟨by lia,by lia⟩ (d6.1.le<|by lia) (o5.dr d6) (w5.dr d6) n1 λc5 Y N7 t7 o7 w7 wl wr=>?_
 show K10 _ _ _;rw[<- R];unfold fN;generalize hK9:jA ad (av E)=K9;simp only[ah,au,br,aN,dC,aa,af,ac,dt,Ja];refine⟨b9 (by simp),b9 (by simp),λO l=>?_⟩
 have n2:=o7.ne l;have n3:=w7.ne l;simp only[ag,Jt];have rr:Lst k O (aS [.put "s" f]) (N7.upd O<|.lst [.tup [.str "put",.str "s",.int f]]):=Lst.new t7 l;have t8:Has k (b+20) (N7.upd O<|.lst [.tup [.str "put",.str "s",.int f]]):=t7.upd (t7.nep l);have o8:Ls k po os (N7.upd O<|.lst [.tup [.str "put",.str "s",.int f]]):=o7.off n2;have w8:Ls k j (f::Y) (N7.upd O<|.lst [.tup [.str "put",.str "s",.int f]]):=w7.off n3;obtain⟨wp,Z⟩:∃wp:Wp,wp=(f::Y).zip os:=⟨_,rfl⟩;have wl1:wp.length=many:=by rw[Z,KY,Jl];lia
 have X:wp.map (·.1)=f::Y:=by
  rw[Z];exact List.map_fst_zip (by simp;lia)
 have m2:wp.map (·.2)=os:=by
  rw[Z];exact List.map_snd_zip (by simp;lia)
 have A:∀p∈wp,fR p.1:=λp K=>by
  have:p.1∈f::Y:=by rw[<- X];exact JM.mpr ⟨p,K,rfl⟩
  rcases Jq.mp this with z|z
  .rw[z];exact hf
  .exact wr _ z
 have prg:∀p∈wp,0<=p.2/\p.2<(many:Int):=λp K=>org _ (by rw[<- m2];exact JM.mpr ⟨p,K,rfl⟩)
 have hd:∃i r,wp=(f,i)::r:=by
  cases os with
  |nil=>simp at ol;lia
  |cons i os=>exact⟨i,Y.zip os,by rw[Z];rfl⟩
 rw[<- m2]at o8 T;rw[<- X]at w8;rw[<- hK9];unfold jA;generalize hK8:iy ad (av E)=K8;refine mo ?_;refine BD (b:=b+20) (wp:=wp) (f:=f) (by lia) A t8 o8 w8 rr n2 n3 λc9 c10 c11 N9 t9 o9 w9 r9=>?_
 show K8 _ _ _;rw[<- hK8];unfold iy;generalize hK7:il ad (av E)=K7;simp only[ah,au,ai,dC,aw,br,ak,aa,ac,af,dt,Ja];refine⟨b9 (by simp),λp K=>dQ K ⟨rfl,bg (b:=b+19) (t9.le<|by lia) (by decide) (by decide) λq N10 a10 b10 y=>?_⟩⟩
 have o10:=o9.dr y;have w10:=w9.dr y;have re:=(r9.dr y).e;obtain⟨G,h1,h2,h3⟩:∃G:Int,2<=G/\G<=997/\atI [D.int 2,D.int 3,D.int 97,D.int 997] q=al (.int G):=by
  have:q=0\/q=1\/q=2\/q=3:=by lia
  rcases this with rfl|rfl|rfl|rfl
  .exact⟨2,by decide,by decide,rfl⟩
  .exact⟨3,by decide,by decide,rfl⟩
  .exact⟨97,by decide,by decide,rfl⟩
  .exact⟨997,by decide,by decide,rfl⟩
 simp only[frz,aB,aT,h3,ag,Jt];rw[<- hK7];unfold il;generalize hK6:ip ad (av E)=K6;simp only[ah,au,aN,ce,dC,aa,ac,af,dt,Ja,e_,cQ,re];refine⟨b9 (by simp),b9 (by simp),?_⟩
 simp only[ag,Jt];rw[<- hK6];unfold ip;generalize hK5:j6 ad (av E)=K5;simp only[ah,au,aN,aw,ak,ai,dC,aa,ac,af,dt,Ja];refine⟨rfl,bg (b:=b+18) (y.1.le<|by lia) (by lia) (by lia) λz N11 a11 b11 B=>?_⟩
 simp only[frz,cL,yA,JL];refine⟨b9 (by simp),b9 (by simp),by simp,by lia,by lia,by simp,b9 (by simp),?_⟩
 simp only[ag,Jt];rw[<- hK5];unfold j6;simp only[aC,aN,ai,dC,aa,ac,af,dt,Ja,aB,aT,atI_0,cL,yA,JL];refine⟨b9 (by simp),by simp,by lia,by lia,by simp,b9 (by simp),b9 (by simp),b9 (by simp),?_⟩
 have lo:LOk G z many f wp:=⟨h1,h2,⟨a11,b11⟩,by lia,by lia,wl1,hd,A,prg,T⟩
 exact aj (h G z many f wp po j N11 lo (B.1.le<|by lia) (o10.dr B) (w10.dr B) n1)
end
end Tw
namespace L3
open PySem L2
mutual
def sz:D->Nat
 |.tup xs=>5+EY xs
 |.lst xs=>5+EY xs
 |.str _=>60
 |_=>2000
def EY:List D->Nat
 |[]=>0
 |x::xs=>sz x+2+EY xs
end
theorem An(a:RN):(tupleText a).length<=piled a+5:=by
 unfold tupleText;rw[strLen_append,strLen_append];have b:(("(":String):Str).length=1:=rfl;have c:((if a.length==1 then ",)" else ")":String):Str).length<=2:=by split<;>decide
 by_cases h:a=[]
 .subst h
  have:(Str.join ", " ([]:RN)).length=0:=rfl;lia
 .have:=join_length_add a h
  lia
theorem pR:∀xs:List D,(∀x∈xs,(dz x).showable=true)->Mu (dB xs)=true
 |[],_=>by simp only[dB,Mu]
 |x::xs,h=>by simp only[dB,Mu,h x (by simp),pR xs λy a=>h y (Jj _ a),NH]
theorem pE{n:Nat}:∀xs:List D,(∀x∈xs,bn n x=true)->cR n xs=true
 |[],_=>by simp[cR]
 |x::xs,h=>by simp[cR,h x (by simp),pE xs λy a=>h y (Jj _ a)]
theorem lO:∀xs:List D,(∀x∈xs,(dz x).shown.length<=sz x)->piled (L7<|dB xs)<=EY xs
 |[],_=>by simp[dB,L7,piled,EY]
 |x::xs,h=>by
  have c:=h x (by simp)
  have a:=lO xs λy b=>h y (Jj _ b);simp only[dB,L7,EY];simp[piled]at a ⊢;lia
end L3
namespace Tw
open PySem L2 L3
variable{D':DEnds}{N:Mem}
def ShN(n:Nat)(d:D):Prop:=bn n d=true/\(dz d).showable=true/\(dz d).shown.length<=sz d
theorem mJ{n:Nat}{i:Int}(h:i.natAbs.log2<1920):ShN n (.int i):=⟨by cases n<;>rfl,by simp only[dz,L8,decide_eq_true_eq];exact h,by simp only[dz,PyData.shown,sz];exact JC (PyProof.Rows.int_text_len_1921 h) (by decide)⟩
theorem AU{n:Nat}{xs:List D}(h:∀x∈xs,ShN n x):ShN (n+1) (.tup xs):=by
 refine⟨by simp only[bn];exact pE xs λx a=>(h x a).1,by simp only[dz,L8];exact pR xs λx a=>(h x a).2.1,?_⟩
 simp only[dz,PyData.shown,sz];have:=An (L7<|dB xs);have:=lO xs λx a=>(h x a).2.2;lia
theorem mD{a b:Int}{x:Str}:∀(t:Tr)(w:Nat),bY a b x t w<=w
 |.e m,w=>by unfold bY;split<;>lia
 |.a q l r,w=>by
  have:=mD (a:=a) (b:=b) (x:=x) l (w / 2);have:=mD (a:=a) (b:=b) (x:=x) r (w / 2);unfold bY;lia
section
variable{ad:Ad}{M:Mem}{EE:DX}{k:Pt}{b:Nat}{w z:Int}{many:Nat}{f:Int}{wp:Wp}
theorem xA(o:LOk w z many f wp){x:Str}:((cn x f wp:Nat):Int).natAbs.log2<1920:=by
 have a:cn x f wp<=2 ^ wp.length:=mD _ _;have e:2 ^ wp.length<=2 ^ 28:=Ot (by decide) (by have:=o.ln;have:=o.m2;lia)
 rw[Int.natAbs_natCast]
 by_cases c:cn x f wp=0
 .rw[c];decide
 .refine (Nat.log2_lt c).mpr (LK (JC a e)<|Nat.pow_lt_pow_right (by decide)<|by decide)
def AB(f:Int)(wp:Wp):D:=.tup [.int ((cn "sound" f wp:Nat):Int),.int ((cn "faulty" f wp:Nat):Int),.int 0]
theorem sP{K:DK}(o:LOk w z many f wp)(h:K (.str (dz<|AB f wp).shown) M):da [AB f wp] M K:=by
 have s:ShN (59+1) (AB f wp):=AU λx a=>by
  simp only[Jq,KP,or_false]at a;rcases a with rfl|rfl|rfl
  .exact mJ (xA o)
  .exact mJ (xA o)
  .exact mJ (by decide)
 refine⟨s.1,s.2.1,JC s.2.2 (b9 ?_),h⟩;simp[AB,sz,EY]
theorem fj{K:DK}(h:K (.str (dz<|.str "toomany").shown) M):da [.str "toomany"] M K:=
 ⟨by decide,by simp only[dz,L8],b9 (by decide +kernel),h⟩
theorem Has.del{p:eg}(h:Has k b M)(m:p≠k.p)(n:p≠k.q):Has k b (M.del p):=by
 obtain⟨a,t,g,i,l,c,e,j⟩:=h;exact⟨a,t,g,i,l,c,by unfold Mem.del;rw[if_neg (JI m)];exact e,by unfold Mem.del;rw[if_neg (JI n)];exact j⟩
theorem yh{Q:DK}{xs a c:List D}{i g:eg}(j:M i=al (.lst a))(l:M g=al (.lst c))(n:g≠i)(h:Q (.tup [.tup xs,.lst a,.lst c]) ((M.del i).del g)):oX (.tup [.tup xs,.ref i,.ref g]) M Q:=by
 have e:(M.del i) g=al (.lst c):=by unfold Mem.del;rw[if_neg n];exact l
 simp only[oX,frzs,j,e];exact h
def wsD(wp:Wp):D:=.lst (wp.map λp=>.int p.1)
def Gx(wp:Wp):D:=.lst (wp.map λp=>.int p.2)
theorem yR{L:Nat}{s r q t p m e i l j:Option D}(o:LOk w z many f wp)(v:L<=1000)(h:∀m e,D'.nx [s,r,al (AI w z many f wp),q,t,al (.lst [.int ((cn "sound" f wp:Nat):Int),.int ((cn "faulty" f wp:Nat):Int)]),al (.int ((1+(aA f wp).asks:Nat):Int)),p,al (.int (L:Nat)),m,e,i,l,j] N):
  iY ad EE D' [s,r,al (AI w z many f wp),q,t,al (.lst [.int ((cn "sound" f wp:Nat):Int),.int ((cn "faulty" f wp:Nat):Int)]),al (.int ((1+(aA f wp).asks:Nat):Int)),p,al (.int (L:Nat)),m,e,i,l,j] N:=by
 unfold iY;generalize g:fZ ad EE=K2;simp only[ah,au,aw,ak,aa,dC,aN,ac,af,dt,Ja];have u:∀{xs:List D}{M:Mem}{Q:DK},Q (.tup xs) M->frz (.tup xs) M Q:=λz=>z;have fs:∀{xs:Str}{M:Mem}{Q:DK},Q (.str xs) M->frz (.str xs) M Q:=λz=>z;refine⟨b9 (by simp),rfl,ap λQ' E' n _=>wm o v (λc=>n _ _ (u ?_)) λc=>n _ _ (fs ?_)⟩
 .simp only[ag,Jt]
  rw[<- g];unfold fZ;generalize a:eu ad EE=K1;simp only[ah,au,kH,ao,ai,ce,aa,dC,aN,ac,af,dt,Ja,Gh,oP,aB,aT,atI_0,atI_1];rw[if_pos (by simp;lia)]
  refine⟨b9 (by simp),sP (f:=f) (wp:=wp) o ?_⟩
  simp only[ag,Jt];rw[<- a];unfold eu;simp only[aU,ao,ai,ce,aa,ac,af,dt,Ja];refine sP (f:=f) (wp:=wp) o ?_;simp only[x6,dv,bn,aG,decide_true,KA];refine⟨trivial,trivial,?_⟩;rw[if_neg (by simp)]
  exact h _ _
 .simp only[ag,Jt]
  rw[<- g];unfold fZ;generalize a:eu ad EE=K1;simp only[ah,au,kH,ao,ai,ce,aa,dC,aN,ac,af,dt,Ja,Gh,oP];rw[if_neg (by simp;lia)]
  refine fj ?_;simp only[ag,Jt];rw[<- a];unfold eu;simp only[aU,ao,ai,ce,aa,ac,af,dt,Ja];refine fj ?_;simp only[x6,dv,bn,aG,decide_true,KA];refine⟨trivial,trivial,?_⟩;rw[if_neg (by simp)]
  exact h _ _
theorem x8{G B C E F l A e a:Option D}(o:LOk w z many f wp)(t:Has k 1000 N)(h:∀N',D'.rt (.bl true) N'):
  fY ad EE D' [G,al (.ref k.p),al (AI w z many f wp),al (wsD wp),al (Gx wp),B,al (.int ((1+(aA f wp).asks:Nat):Int)),C,E,F,l,A,e,a] N:=by
 have m2:=o.m2;have ln:=o.ln;have L:∀{t:Tr}{M:Mem}{Q:DK},Q t.d M->frz t.d M Q:=λ{t} {M} {Q} z=>by cases t<;>exact z
 have fs:∀{g:Str}{M:Mem}{Q:DK},Q (.str g) M->frz (.str g) M Q:=λz=>z;have j:D.int 60=D.int ((60:Nat):Int):=rfl;unfold fY;generalize u:ix ad EE=K8;generalize n:jg ad EE=K4;simp only[ah,aU,ao,ai,ac,dC,dt,Ja,Cw,oP]
 by_cases c:1+(aA f wp).asks<=60
 .rw[if_neg (by simp;lia)]
  show K8 _ _ _;rw[<- u];unfold ix;generalize m:io ad EE=K7;simp only[ah,au,aw,ak,aa,dC,aN,ac,af,dt,Ja];rw[j];refine⟨b9 (by simp),rfl,ap λQ' E' v _=>ly o (λ_=>v _ _ (L ?_)) λc=>by lia⟩
  simp only[ag,Jt];rw[<- m];unfold io;simp only[ah,cc,lE,aa,dC,af];refine⟨by decide,by decide,?_⟩
  refine bf (λg U N=>g.length<=10/\Has k (g.length*50) N/\∃e a,U=[G,al (.ref k.p),al (AI w z many f wp),al (wsD wp),al (Gx wp),B,al (.int ((1+(aA f wp).asks:Nat):Int)),C,E,F,l,al (aA f wp).d,e,a]) (λ_ _ _ _=>bh) ?_ ?_ _ _ _ ⟨by decide,t.le (by decide),_,_,rfl⟩
  .rintro U N _
   exact h N
  .rintro x g U N ⟨K,t,e,a,rfl⟩ D2 r _ H _
   simp only[Jl]at K t;unfold l_;generalize y:iQ ad EE=K5;have s:(wp.map λp=>D.int p.2).length=many:=by simp[ln]
   simp only[ag,Jt,ah,au,aw,ak,aa,fB,ce,oB,aT,Gx,ac,af,dt,Ja,s];refine⟨⟨by lia,by lia⟩,λp I=>dQ I ⟨rfl,?_⟩⟩
   rw[JL];refine ma (b:=g.length*50) (by lia) (t.le<|by lia) λks M' J=>?_
   show K5 _ _ _;rw[<- y];unfold iQ;simp only[Jt,aU,ao,ai,aw,ak,aa,ac,af,dt,Ja];have fi:∀{i:Int}{M:Mem}{Q:DK},Q (.int i) M->frz (.int i) M Q:=λz=>z;refine⟨rfl,aI (λ_ _ q=>y1 (ks:=ks) .mx (by rw[jh];exact q))<|fi ⟨rfl,aI (λ_ _ q=>qV (ks:=ks) o .mx q)<|fi ?_⟩⟩
   simp only[x6,dv,bn,aG,decide_true,KA];refine⟨trivial,trivial,?_⟩;rw[if_neg (by simp)]
   exact r _ _ ⟨by lia,J,_,_,rfl⟩
 .rw[if_pos (by simp;lia),<- n]
  unfold jg;simp only[aC,ai,ce,aw,ak,aa,dC,aN,ac,af,dt,Ja];rw[j];refine⟨b9 (by simp),rfl,ap λQ' E' v _=>ly o (λc=>by lia) λ_=>v _ _ (fs ?_)⟩
  refine fj (fj ?_);simp only[cP,dv,bn,aG,decide_true];exact⟨trivial,trivial,h _⟩
theorem Aw{P c5 c6 c7 A l a v C B:Option D}(o:LOk w z many f wp)(t:Has k 1000 N)(h:∀N',D'.rt (.bl true) N'):
  dX ad EE D' [P,al (.ref k.p),al (AI w z many f wp),al (wsD wp),al (Gx wp),c5,c6,c7,A,l,a,v,C,B] N:=by
 have few:=o.few;have ft:∀{g:List D}{M:Mem}{Q:DK},Q (.tup g) M->frz (.tup g) M Q:=λz=>z;have fT:∀{g:List D}{i:Int}{M:Mem}{Q:DK},Q (.tup [.lst g,.int i]) M->oX (.tup [.lst g,.int i]) M Q:=λz=>z;unfold dX;generalize s:fJ ad EE=K12;simp only[ah,au,lM,ak,aa,ac,af,dt,Ja];refine⟨rfl,aI (λ_ _ q=>vp o q)<|fT ?_⟩;simp only[kM,bN,kT,ag,Jt];refine⟨rfl,?_⟩;rw[<- s];unfold fJ;generalize n:fL ad EE=K11;simp only[ah,aU,ao,ai,aw,ak,aa,dC,aN,ac,af,dt,Ja];refine⟨rfl,aI (λ_ _ q=>eX o.ok (o.so<|.inl rfl) (o.so<|.inr rfl) (o.mark<|.inl rfl) (o.mark<|.inr rfl) (by decide) q)<|ft ⟨b9 (by simp),?_⟩⟩
 have ne:(!aG (.tup [.int 0,.int 1]) (.tup [.int 0,.int 1]))=false:=by decide
 simp only[x6,dv,ne];refine⟨by decide,by decide,?_⟩
 rw[if_neg (by simp)]
 show K11 _ _ _;rw[<- n];unfold fL;generalize u:fQ ad EE=K10;simp only[ah,au,ai,aw,br,ce,aa,dC,ac,af,dt,Ja,nE,HJ,oP,oE];refine⟨b9 (by simp),λp1 Z=>dQ Z ⟨b9 (by simp),λO Y=>?_⟩⟩
 obtain⟨q,G,r⟩:∃q:Nat,(if decide (((1+(aA f wp).asks:Nat):Int)<50)=true then (1:Int) else 0)=(q:Int)/\(q=0\/(q=1/\1+(aA f wp).asks<50)):=by
  by_cases c:1+(aA f wp).asks<50
  .exact⟨1,by rw[if_pos (by simp;lia)];rfl,.inr ⟨rfl,c⟩⟩
  .exact⟨0,by rw[if_neg (by simp;lia)];rfl,.inl rfl⟩
 rw[G];simp only[uH,Mem.upd_same,JL];refine⟨by lia,by lia,b9 (by simp;lia),λp3 h3=>dQ h3 ?_⟩
 simp only[bz,cQ];have J:Has k 1000 (N.upd O<|.lst [.int ((1+(aA f wp).asks:Nat):Int),.int (((1+(aA f wp).asks:Nat):Int)-1)]):=t.upd (t.nep Y);refine⟨b9 (by rcases r with e|⟨e,_⟩<;>simp[e]),λF W=>?_⟩
 generalize T:[D.int 60]++(Jm q [D.int ((1+(aA f wp).asks:Nat):Int),.int (((1+(aA f wp).asks:Nat):Int)-1)]).flatten=ls;have m:∀x∈ls,∃L:Nat,L<=1000/\x=.int (L:Nat):=λx j=>by
  rw[<- T]at j;rcases r with e|⟨e,e2⟩
  .subst e
   simp at j;exact⟨60,by decide,j⟩
  .subst e
   simp only[Jm,J9,List.flatten_nil,JR,JU,JE,Jq,KP,or_false]at j;rcases j with rfl|rfl|rfl
   .exact⟨60,by decide,rfl⟩
   .exact⟨_,by lia,rfl⟩
   .exact⟨(aA f wp).asks,by lia,congrArg D.int<|by lia⟩
 have S:=J.upd (o:=.lst ls) (J.nep W);generalize E:((N.upd O<|.lst [.int ((1+(aA f wp).asks:Nat):Int),.int (((1+(aA f wp).asks:Nat):Int)-1)]).upd F<|.lst ls)=N4 at *;have K:N4 F=al (.lst ls):=by rw[<- E];exact Mem.upd_same
 simp only[ag,Jt];rw[<- u];unfold fQ;generalize H:fY ad EE=K9;simp only[ah,cc,cC,ac,dt,Ja,aT,K,bB];refine bf (λg U N=>N=N4/\(∀x∈g,∃L:Nat,L<=1000/\x=.int (L:Nat))/\∃A l a,U=[P,al (.ref k.p),al (AI w z many f wp),al (wsD wp),al (Gx wp),al (.lst [.int ((cn "sound" f wp:Nat):Int),.int ((cn "faulty" f wp:Nat):Int)]),al (.int ((1+(aA f wp).asks:Nat):Int)),al (.ref F),A,l,a,v,C,B]) ?_ ?_ ?_ _ _ _ ⟨rfl,m,_,_,_,rfl⟩
 .rintro g U N ⟨rfl,_⟩ q G
  rw[LF.mp G];exact K
 .rintro U N ⟨rfl,_,A,l,a,rfl⟩
  show K9 _ _ _;rw[<- H];exact x8 o S h
 .rintro x g U N ⟨rfl,j,A,l,a,rfl⟩ D2 I _ _ _
  obtain⟨L,X,rfl⟩:=j x Jp;simp only[ag,Jt];exact yR o X λl a=>I _ _ ⟨rfl,λy R=>j y (Jj _ R),_,_,_,rfl⟩
end
theorem vM(ad:Ad)(q:RM)(y:q.length<=63):yk ad [.ml (q.map D.int)] (λ_=>ee) (λd _=>d=.bl true) uS:=by
 rw[IM (n:=0)];unfold uk;generalize a:fu ad (av uS)=K14;simp only[ah,au,ak,aa,ac,af,dt,Ja];refine⟨rfl,ap λQ' E' l _=>vQ λk M1 s _=>l _ _ ?_⟩;simp only[ag,Jt];rw[<- a];unfold fu;generalize c:dX ad (av uS)=K13;simp only[ah,au,lM,ak,aa,dC,ac,af,dt,Ja];refine⟨rfl,ap λQ' E' l _=>vG (b:=1000) (s.le<|by decide) λw z m f g x v N o t j i h=>l _ _ (yh i.e j.e h ?_)⟩
 simp only[kM,bN,kT,ag,Jt];refine⟨rfl,?_⟩;rw[<- c];have u:(g.map (·.1)).map D.int=g.map λp=>D.int p.1:=by simp
 have r:(g.map (·.2)).map D.int=g.map λp=>D.int p.2:=by simp
 rw[u,r];exact Aw o ((t.del i.n1 i.n2).del j.n1 j.n2) λM=>⟨M,λ_ _ e=>e,rfl⟩
def xU(K:Jd):Sp:=λb H Q _=>∃(a:eg)(ns:RM),b=[.ref a]/\y4 H/\SqL K H a (ns.map V.int)/\ns.length<=63/\∀H',Q (.bl true) H'
theorem DJ{l:W.OpenLaw}{w:h7}{K:Jd}{h:i5}{mg:RV}{fa C_Ends C_Going C_Walk C_Dry C_NoBuild C_NoCase C_NoLine C_NoMoment C_NoPlace C_NoRow C_NoText C_StrideError C_TooBig C_TooMany f1 f2 f3 f4 f5 f6 f7 f8 f9 f10 f11 f12 f13 f14 f15 f16 f17 f18 f19 f20 f21 f22 f23 Z f25 f26 f27 f28 f29 f30 f31 f32 f33 f34 f35 f36 f37 f38 f39 f40 f41 f42 f43 f44:eg}(X:K.In h)(G:h.Ns fv mg)(hfa:mg "law"=al (.ref fa)){e1 e2 e3 e4 e5 e6 e7 e8 e9 e10 e11 e12 e13 e14 e15 e16 e17 e18 e19 e20 e21 e22 e23 e24 e25 e26 e27 e28 e29 e30 e31 e32 e33 e34 e35 e36 e37 e38 e39 e40 e41 e42 e43 e44:hI}(B:JY K fv "Ends"=al (al<|.ref C_Ends))(x:JY K fv "Going"=al (al<|.ref C_Going))(A:JY K fv "Walk"=al (al<|.ref C_Walk))(L:JY K fv "Dry"=al (al<|.ref C_Dry))(m:JY K fv "NoBuild"=al (al<|.ref C_NoBuild))(u:JY K fv "NoCase"=al (al<|.ref C_NoCase))(r:JY K fv "NoLine"=al (al<|.ref C_NoLine))(g:JY K fv "NoMoment"=al (al<|.ref C_NoMoment))(o:JY K fv "NoPlace"=al (al<|.ref C_NoPlace))(y:JY K fv "NoRow"=al (al<|.ref C_NoRow))(q:JY K fv "NoText"=al (al<|.ref C_NoText))(b:JY K fv "StrideError"=al (al<|.ref C_StrideError))(t:JY K fv "TooBig"=al (al<|.ref C_TooBig))(p:JY K fv "TooMany"=al (al<|.ref C_TooMany))(l1:Mf K C_Walk "__init__" "Walk.__init__" GH f1 e1)(l2:Mf K C_Walk "note_step" "Walk.note_step" HI f2 e2)(l3:Mf K C_Walk "look" "Walk.look" Cr f3 e3)(l4:Nf K "run" CV f4 e4)(l5:Nf K "mark" D7 f5 e5)(l6:Nf K "do_rows" Cs f6 e6)(l7:Af K "do_row_runs" "do_row" GE f7 e7)(l8:Nf K "do_if" CM f8 e8)(l9:Nf K "do_again" CQ f9 e9)(l10:Nf K "number_of" CN f10 e10)(l11:Nf K "piece_read" D1 f11 e11)(l12:Nf K "joined" Dg f12 e12)(l13:Nf K "all_things" CD f13 e13)(l14:Nf K "in_order" CT f14 e14)(l15:Nf K "number_in" Db f15 e15)(l16:Nf K "names_read" IQ f16 e16)(l17:Nf K "unlike" D5 f17 e17)(l18:Nf K "marks" Cu f18 e18)(l19:Nf K "unlike_of" Dd f19 e19)(l20:Nf K "verdict_of" Dy f20 e20)(l21:Mf K C_Going "__init__" "Going.__init__" HL f21 e21)(l22:Mf K C_Going "settled" "Going.settled" Hk f22 e22)(l23:Mf K C_Ends "__init__" "Ends.__init__" Io f23 e23)(l24:Mf K C_Ends "one_more" "Ends.one_more" Ic Z e24)(l25:Nf K "start" D8 f25 e25)(l26:Nf K "put_ahead" Di f26 e26)(l27:Nf K "go_on" Dk f27 e27)(l28:Nf K "asked_by" Dc f28 e28)(l29:Af K "do_row_trees" "do_row" IB f29 e29)(l30:Nf K "mark_of" C_ f30 e30)(l31:Nf K "both_ways" CO f31 e31)(l32:NV K "tree" Dq f32 e32 (500))(l33:Nf K "grown" CH f33 e33)(l34:Nf K "mark_by" Dv f34 e34)(l35:NV K "counted" Do f35 e35 (500))(l36:Nf K "_law_tape" D9 f36 e36)(l37:Nf K "_law_draw" Du f37 e37)(l38:Nf K "_law_line" CI f38 e38)(l39:Nf K "_law_some_mix" Go f39 e39)(l40:Nf K "_law_did" Dx f40 e40)(l41:Nf K "_law_asked" CB f41 e41)(l42:Nf K "_law_sums" Ct f42 e42)(l43:Nf K "_law_along" Dj f43 e43)(S:Nf K "law" gX f44 e44)(P7:Oi K C_Dry [.type "ValueError",.type "Exception",.type "BaseException",.type "object"] "ValueError.__new__"=true)(Py:Oi K C_NoCase [.type "ValueError",.type "Exception",.type "BaseException",.type "object"] "ValueError.__new__"=true)(Ph:Oi K C_TooMany [.type "ValueError",.type "Exception",.type "BaseException",.type "object"] "ValueError.__new__"=true)(xg:JN K (.ref C_TooMany) "__getattribute__"=al (al<|.builtin "BaseException.__getattribute__"))(xh:JN K (.ref C_TooMany) "__getattr__"=al ee)(xk:JN K (.ref C_TooMany) "__class__"=al (al<|.builtin "object.__class__"))(xsp:W.specialIn K (.builtin "object.__class__") "__get__"=al (al<|.builtin "getset_descriptor.__get__"))(xtk:W.takesIn K (.builtin "object.__class__")=al true)(xob:Kd K C_TooMany (.type "object")=al true)(xbe:Kd K C_TooMany (.type "BaseException")=al true)(c:Kd K C_TooMany (.ref C_TooMany)=al true)(P4:JO K C_Dry=true)(O9:JO K C_NoBuild=true)(Pj:JO K C_NoCase=true)(Pk:JO K C_NoLine=true)(O4:JO K C_NoMoment=true)(Pa:JO K C_NoPlace=true)(Pz:JO K C_NoRow=true)(Pl:JO K C_NoText=true)(OM:JO K C_StrideError=true)(Pm:JO K C_TooBig=true)(ON:JO K C_TooMany=true)(OO:W.instIn K (.ref C_StrideError) (.type "tuple")=al eo)(OP:Kd K C_StrideError (.type "BaseException")=al true)(OQ:Kd K C_TooMany (.ref C_StrideError)=al true)(P5:La K (.ref C_Dry)=al (.type "type"))(P6:Kd K C_TooMany (.ref C_Dry)=al eo)(Pb:La K (.ref C_NoBuild)=al (.type "type"))(Pc:Kd K C_TooMany (.ref C_NoBuild)=al eo)(Pn:La K (.ref C_NoCase)=al (.type "type"))(Po:Kd K C_TooMany (.ref C_NoCase)=al eo)(Pp:La K (.ref C_NoLine)=al (.type "type"))(Pq:Kd K C_TooMany (.ref C_NoLine)=al eo)(O5:La K (.ref C_NoMoment)=al (.type "type"))(O6:Kd K C_TooMany (.ref C_NoMoment)=al eo)(Pd:La K (.ref C_NoPlace)=al (.type "type"))(Pe:Kd K C_TooMany (.ref C_NoPlace)=al eo)(PB:La K (.ref C_NoRow)=al (.type "type"))(PC:Kd K C_TooMany (.ref C_NoRow)=al eo)(Pr:La K (.ref C_NoText)=al (.type "type"))(Pu:Kd K C_TooMany (.ref C_NoText)=al eo)(Pw:La K (.ref C_TooBig)=al (.type "type"))(Px:Kd K C_TooMany (.ref C_TooBig)=al eo)(Pf:La K (.ref C_TooMany)=al (.type "type"))(Pg:Kd K C_TooMany (.ref C_TooMany)=al true)(OU:Kd K C_TooMany (.type "ValueError")=al true)(PM:LM K C_Ends NO=true)(PN:JO K C_Ends=true)(PQ:Mx K C_Ends=true)(PR:JN K (.ref C_Ends) "__setattr__"=al (al<|.builtin "object.__setattr__"))(PU:MD K C_Ends=true)(PV:J4 K (.ref C_Ends)=true)(PD:LM K C_Going NO=true)(PF:JO K C_Going=true)(PH:Mx K C_Going=true)(PJ:JN K (.ref C_Going) "__setattr__"=al (al<|.builtin "object.__setattr__"))(PK:MD K C_Going=true)(PL:J4 K (.ref C_Going)=true)(PX:LM K C_Walk NO=true)(PY:JO K C_Walk=true)(PZ:Mx K C_Walk=true)(P0:JN K (.ref C_Walk) "__setattr__"=al (al<|.builtin "object.__setattr__"))(P1:MD K C_Walk=true)(P2:J4 K (.ref C_Walk)=true)(OW:JN K (.ref C_Ends) "count"=al ee)(OX:JN K (.ref C_Ends) "limit"=al ee)(OY:JN K (.ref C_Going) "left"=al ee)(OL:JN K (.ref C_Going) "numbers"=al ee)(OR:JN K (.ref C_Going) "pieces"=al ee)(OZ:JN K (.ref C_Going) "todo"=al ee)(OK:JN K (.ref C_Going) "unsettled"=al ee)(O7:JN K (.ref C_Walk) "most"=al ee)(OS:JN K (.ref C_Walk) "numbers"=al ee)(OV:JN K (.ref C_Walk) "pieces"=al ee)(O8:JN K (.ref C_Walk) "plan"=al ee)(O0:JN K (.ref C_Walk) "steps"=al ee)(O3:JY K fv "ValueError"=al ee)(J:JY K fv "dict"=al ee)(i:JY K fv "enumerate"=al ee)(O:JY K fv "int"=al ee)(f:JY K fv "isinstance"=al ee)(U:JY K fv "len"=al ee)(I:JY K fv "list"=al ee)(z:JY K fv "range"=al ee)(M:JY K fv "repr"=al ee)(n:JY K fv "reversed"=al ee)(R:JY K fv "str"=al ee)(P:JY K fv "sum"=al ee)(C:JY K fv "tuple"=al ee)(Y:JY K fv "zip"=al ee):
  ∃fd:hI,(∀(s:c8)(v:c0),QT s fd ⟨[v],[]⟩ [("_law_script",v)])/\∀j:i5,K.In j->j.Ns fv mg->FnOk l.prog w K mg j CX0 49 fa fd ["_law_script"] (xU K):=by
 have e:=hfa.symm.trans (Kq X G S.a);cases e;obtain⟨_,_,kV,dc,pm,an,cd,ct,_,rfl,_⟩:=S.F.ex;refine⟨Lq "law" "law" (bt gX) (b5 gX) (aD gX) .none kV dc pm an cd ct,λs v=>.of_eq rfl,λj _ _=>?_⟩
 let ad:Ad:=⟨C_Ends,C_Going,C_Walk,C_Dry,C_NoBuild,C_NoCase,C_NoLine,C_NoMoment,C_NoPlace,C_NoRow,C_NoText,C_StrideError,C_TooBig,C_TooMany,f1,f2,f3,f4,f5,f6,f7,f8,f9,f10,f11,f12,f13,f14,f15,f16,f17,f18,f19,f20,f21,f22,f23,Z,f25,f26,f27,f28,f29,f30,f31,f32,f33,f34,f35,f36,f37,f38,f39,f40,f41,f42,f43,fa,e1,e2,e3,e4,e5,e6,e7,e8,e9,e10,e11,e12,e13,e14,e15,e16,e17,e18,e19,e20,e21,e22,e23,e24,e25,e26,e27,e28,e29,e30,e31,e32,e33,e34,e35,e36,e37,e38,e39,e40,e41,e42,e43,Lq "law" "law" (bt gX) (b5 gX) (aD gX) .none kV dc pm an cd ct⟩
 have T:En l.prog w K mg j ad:=⟨⟨PM,PN,PQ,PR⟩,
  Kq X G B,
  ⟨PD,PF,PH,PJ⟩,
  Kq X G x,
  ⟨PX,PY,PZ,P0⟩,
  Kq X G A,
  OW,
  OX,
  OY,
  OL,
  OR,
  OZ,
  OK,
  O7,
  OS,
  OV,
  O8,
  O0,
  eY X P7,
  Kq X G L,
  Kq X G m,
  eY X Py,
  Kq X G u,
  Kq X G r,
  Kq X G g,
  Kq X G o,
  Kq X G y,
  Kq X G q,
  Kq X G b,
  Kq X G t,
  eY X Ph,
  Kq X G p,
  ⟨xg,xh,ON,xk,xsp,xtk,xob,xbe⟩,
  ⟨OO,pf OM,OP,OQ⟩,
  cS c P4 P5 P6,
  cS c O9 Pb Pc,
  cS c Pj Pn Po,
  cS c Pk Pp Pq,
  cS c O4 O5 O6,
  cS c Pa Pd Pe,
  cS c Pz PB PC,
  cS c Pl Pr Pu,
  cS c Pm Pw Px,
  cS c ON Pf Pg,
  FD OU,
  JX X G O3,
  JX X G J,
  JX X G i,
  JX X G O,
  JX X G f,
  JX X G U,
  JX X G I,
  JX X G z,
  JX X G M,
  JX X G n,
  JX X G R,
  JX X G P,
  JX X G C,
  JX X G Y,
  gi P1 P2 l1,
  gm l2,
  gm l3,
  gf X G l4,
  gf X G l5,
  gf X G l6,
  ga X G l7,
  gf X G l8,
  gf X G l9,
  gf X G l10,
  gf X G l11,
  gf X G l12,
  gf X G l13,
  gf X G l14,
  gf X G l15,
  gf X G l16,
  gf X G l17,
  gf X G l18,
  gf X G l19,
  gf X G l20,
  gi PK PL l21,
  gm l22,
  gi PU PV l23,
  gm l24,
  gf X G l25,
  gf X G l26,
  gf X G l27,
  gf X G l28,
  ga X G l29,
  gf X G l30,
  gf X G l31,
  gv X G l32 rfl λ_ _ _ _ _ _ _ _=>⟨λ_=>⟨_,rfl,rfl⟩,λ_ _=>⟨_,rfl,rfl⟩⟩,
  gf X G l33,
  gf X G l34,
  gv X G l35 rfl λ_ _ _ _ _ _ _ _=>⟨λ_=>⟨_,rfl,rfl⟩,λ_ _=>⟨_,rfl,rfl⟩⟩,
  gf X G l36,
  gf X G l37,
  gf X G l38,
  gf X G l39,
  gf X G l40,
  gf X G l41,
  gf X G l42,
  gf X G l43,
  gf X G S⟩
 exact(FF<|Fb T).imp λvs H Q E ⟨a,ns,e,hO,hS,hl,k⟩=>by subst e;exact C1 hO hS (vM ad ns hl) k
theorem walk{l:W.OpenLaw}{q:fy}{loose:RN}{XP:(Str->Option c0)->i5->Prop}{YP:h7->i5->Prop}{d:DefRec}{K:Params->Jd}(r:l.most=al 63)(e:d.params.defaults=[])(t:∀(w:h7)(h:i5),YP w h->(K w.params).In h)(F:∀(w:h7)(c:RV)(g:eg)(h:i5),(K w.params).In h->h.Ns fv c->c d.name=al (.ref g)->
   ∃i:hI,(∀(s:c8)(u:c0),QT s i ⟨[u],[]⟩ [("_law_script",u)])/\∀b:i5,(K w.params).In b->b.Ns fv c->FnOk l.prog w (K w.params) c b CX0 49 g i ["_law_script"] (xU<|K w.params)):
  W.WalkO q loose XP YP l.row.toRowW d [] (λf vs=>Oh f vs):=
 L2.Ac (n:=63) (k:=49) (x:="_law_script") (CX:=λ_=>CX0) (sp:=λw=>xU (K w.params)) r (by decide) e ⟨rfl,by decide,by decide,rfl⟩ t F (λ_ _ a m o p j=>⟨a,m,rfl,p,j,o,λ_=>rfl⟩) λ_ _ _ _ _ z=>z
end Tw
open PySem PySem.W PyProof.Rows
structure PySem.W.Fast:Prop where
 (tw11119028324068904581 tw12926049790525380448 tw6321828397268711203 tw13648049620985184976 tw16190416491786441869 tw4342302563111970584 tw13985417613876004318 tw11828773275428242991 tw2995695604800899969 tw2685367888044203479 tw17570004040800660789 tw4117093334362635021 tw12653364026987983649 tw8729006852228082955 tw16690256002895777548 tw8992838162424816772 tw17252610305324269935 tw11265414618085573918 tw17620539793166091297 tw10188385482004690205 tw254237573202058620 tw12083912352336578049 tw1546227551249625013 tw12079542444578235264 tw3670628178016625342 tw9487989131433806548 tw4504126553810999849 tw6235200536997889993 tw14203356339129060907 tw17452901389535599596 tw7755471912668146966 tw10377097209861692932 tw9262707116616225248 tw6068395419186086240 tw10018756139901823875 tw2273424972509511808 tw7896273399362430298 tw12400945385804426537 tw1300864769658394277 tw1055622933918386255 tw8865974351475576119 tw2796763188730956190 tw9827551863607719422 tw9549711666829907299 tw6392663205205342695 tw2706314762929974479 tw2106214481125300208 tw2054702870885881783 tw16929331801855858404 tw13923754346190796198 tw1118615415291735612 tw10533794388037683856 tw15740321864618757916 tw7159388735563918800 tw18149630180532460544 tw18032292165276807541 tw18029196052337622012 tw7619330328790380707 tw7276368052205605190 tw2086926483777708152 tw12251859814824840050 tw946470921635666379 tw6222449223758567135 tw15575264670948713245 tw11371216844166442611 tw16771486578239590453 tw12526241869749844035 tw6620041485022669750 tw2058872859940020129 tw10525827310983651957 tw5236860493708623101 tw9107827005689013865 tw6322107299153166903 tw14789307398637455980 tw12526498907693226257 tw17071799487547001437 tw10105641936891729016 tw4120852595993134183 tw18159167089826225317 tw11823000426922900388 tw3912077959492572886 tw4310642081186327173 tw9588240958063549779 tw9561612669722064448 tw8592352368263558453 tw4308524510064363159 tw46973984502790736 tw3315270681580177645 tw15481552618645860395 tw1728495689207598855 tw12667133634784351203 tw17841094296625426699 tw593191853150725055 tw18437476602605143732 tw14706065910795776400 tw765466698514268051 tw6307059471057869761 tw1017675944293806448 tw16221571985169087268 tw3076055807473447383 tw663203864197811643 tw1763969188014305163 tw14358319668311465361 tw421606066936723825 tw7038884590610531546 tw5751381018959591225 tw2182779649321362310 tw10431850014864953450 tw7337643508098680877 tw13018916148512791062 tw3817071361027591813 tw8106373891377262435 tw12667345991491947184 tw4830891708119284040 tw9331418700525572971 tw11786348336681783994 tw925865570709639020 tw539616795450790512 tw2280242391610427349 tw17907324787184794273 tw10037841788955110581 tw17703177311990559899 tw7634206906614084674 tw11675522369074382480 tw9660884939452521150 tw1806771395915364675 tw11189158831126900699 tw6421199457628074559 tw18206174513754049267 tw5403558504281079699 tw17344650225012185380 tw7947544368329553388 tw15840758068809436827 tw5284865874266375911 tw17908767906874077581 tw12886547423853166038 tw2080402143084161747 tw9184259011387421496 tw10210593573580370529 tw4327103504497750541 tw8049629045369682703 tw13257258536253411351 tw10185475923394499746 tw4491696953088940466 tw13203478015178474403 tw14485485278992432664 tw10195449603219457412 tw4774490444896111617 tw17259797836818925713 tw828041345639609834 tw6923484508346010333 tw11010456071286245930 tw5713734321621603202 tw4512445793295633573 tw17458910936520745 tw8154884039044338251 tw859385974972112572 tw13839130667654507653 tw7770200879192569165 tw2646362755935892608 tw3565908860973284832 tw2841568058778067848 tw13560639636372628330 tw17852192510219582533 tw7885711731533114606 tw10734334630764738564 tw12796524548914678290 tw11385550079589703075 tw6154930701342410811 tw10359830604018482574 tw13315618106032336060 tw2188644121013801430 tw1550616749416480502 tw7848829383785016803 tw4406480815427192832 tw17143452046005673428 tw6812896953616336909 tw17039212806504816446 tw3484409379128822439 tw662480054999979893 tw14035248585296892710 tw1648452113839835880 tw10500756249271556366 tw13191709225987782006 tw4004915654116891733 tw16146670215013040331 tw9042863366544241590 tw11449876134977151646 tw2292656274825510775 tw13097839829364312982 tw1664447489790903907 tw14799475274901356693 tw15995960159092436554 tw11858188901600510640 tw12662721975147523451 tw15591849368919565175 tw5183590318471522473 tw17653337405333855744 tw8392720545624651511 tw5824279217430673282 tw5983841336969159242 tw7554006084187642811 tw10251612436350876196 tw14578069605431307833 tw5234884790971701619 tw15518663432786898900 tw6288223902809164039 tw11320635797143191210 tw9414098691339679334 tw17950326528065625268 tw16971893508881293648 tw10590749415334444974 tw10082148083536142420 tw8397189342587239509 tw8130352937231975068 tw18004126588167819493 tw1722574539762869525 tw9240740245232031514 tw12246456994956395363 tw9105155403838307994 tw10073585929737871923 tw1700945249440603829 tw10064344794129800514 tw5728680725871270605 tw7351459622565870363 tw12481995205326465429 tw10485981018471343816 tw13283681850853435325 tw611035400733084410 tw18308589967227280356 tw15096900232232902674 tw616661890522985798 tw7295043358389032808 tw3140670025606713784 tw978339749969582207 tw15398051673350996346 tw6979227962141407236 tw17368793770826355462 tw6942610598138014335 tw1541045426159914656 tw15487276050738833988 tw13998842555772245374 tw3589048183377364377 tw14291531704261811341 tw8445335496232094229 tw6271674988922609272 tw9061828404413134075 tw3845777088941673666 tw4197139360860911459 tw8737924420224654611 tw6034703539557535472 tw9664269511245397753 tw11447741034717379493 tw13029595021324946480 tw18396074192498137438 tw15050726940106718869 tw9851990674509704723 tw13915725421669270175 tw496647193696021664 tw11095986391123054001 tw18026020198248590771 tw228008604976658653 tw12090604860660026487 tw11608609829932859352 tw9971173552595231682 tw4620381335308234805 tw13379311936546068631 tw13284470019828421518 tw15647201209633743085 tw4619056153537933275 tw929327291810834305 tw13513073723368215219 tw10332367028413778979 tw6271680981767169034 tw10518043925291348675 tw12060724263362532119 tw8182748406055247066 tw11329445445479103917 tw17824764715335917886 tw14913867945917779422 tw1629242250890989126 tw13207953341477068647 tw7512926680878259143 tw6017700433775016773 tw17553815834033699641 tw17202087450519237631 tw5716580687636196204 tw17674323396032231145 tw10598708794250298109 tw7870029259210567876 tw17990695630773095930 tw13090060202571345338 tw18072757609692384192 tw14064730232030641856 tw11522268306481944894 tw9354266626869185628 tw2290219697068352676 tw3331827223827480652 tw16553179774457146908 tw2558823220265568576 tw4771580339979679785 tw9624968869013550514 tw8184601946544620900 tw5245262570440024135 tw6207600473569517586 tw6279284548475339144 tw12977073215511729772 tw4024336742213319692 tw13264890630774342027 tw17196672886041401175 tw13567182068525734394 tw13063670024772926976 tw4804836234962271670 tw3754507300227531592 tw2445235090569566324 tw12883764079796143579 tw11014583604515639581 tw12564850582579774550:True)
set_option maxRecDepth 100000 in
set_option maxHeartbeats 0 in
theorem PySem.Challenge.cw_twinstride_k37_whole_lines_of_pieces_holds : PySem.Challenge.rw_twinstride_k37_whole_lines_of_pieces.Holds := by
 w_on;o_law;k_head;(case hw=>w_witness2)
 k_fill
 refine Tw.walk (l:=PySem.Challenge.rw_twinstride_k37_whole_lines_of_pieces) rfl rfl (λw h Y=>W.kIn_of Y) ?F
 case F=>
  intro w c b h KX G a;refine' Tw.DJ KX G a ..
  any_goals k_is
  any_goals (first|refine' L3.Nf.mk ?_ (L2.qE ?_ ?_ ?_)|refine' L3.Mf.mk ?_ ?_ (L2.qE ?_ ?_ ?_)|refine' L3.Af.mk ?_ (L2.qE ?_ ?_ ?_)|refine' L3.Il ?_ ?_ ?_ ?_ ?_)
  any_goals k_is
  any_goals k_exc
