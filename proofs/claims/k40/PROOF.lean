import PyProof.Rows.All
import Wide.All
import OpenK.AllK
import Wide.FinOn
import Lean
import PyProof.EqAt
import PyProof.EqKinds
import PyProof.TupleCall
import PySem.Challenge.RW_twinstride_k40_the_fewest_cause
set_option bootstrap.genMatcherCode false
set_option backward.eqns.nonrecursive false
set_option Elab.async false
set_option linter.all false
set_option maxRecDepth 100000
set_option maxHeartbeats 4000000
set_option compiler.extract_closed false
set_option Elab.async false
set_option linter.all false
set_option maxRecDepth 100000
open Array renaming length_toList->Ux,replicate->UQ,toList->VF,getElem?_eq_some_iff->VH,size_push->W2,getElem?_eq_getElem->Xj,getElem?_eq_none->XF,append_assoc->Yd
open Bool renaming false_eq_true->Th,beq_eq_decide_eq->TL,and_eq_true->Uy,or_false->Vq,not_true->Vr,not_false->VO,false_ne_true->VP,and_false->VQ,eq_false_iff->V4,true_or->Wf,false_or->Wx,or_true->WI,and_true->Xz
open Decidable renaming byContradiction->VE
open False renaming elim->UI
open ForInStep renaming yield->V7
open Function renaming comp_def->XU
open Int renaming toNat_natCast->TC,emod_lt_of_pos->Uk,emod_nonneg->UH,toNat->Vp,le_refl->Vx,mul_le_mul_of_nonneg_left->W5,eq_ofNat_of_zero_le->XM,toNat_of_nonneg->Yi
open List renaming getElem?_cons_zero->dt,getElem?_cons_succ->SE,getElem?_eq_getElem->SG,length_map->SH,map_cons->SJ,getElem?_map->SN,mem_cons->SQ,mem_filter->SS,mem_map->SV,size_toArray->SW,mem_cons_of_mem->Ta,map_map->Tb,set->Td,range->Te,getD_eq_getElem?_getD->Tf,nil_append->Tg,filter_cons->Ti,cons_append->Tj,replicate->Tp,length_append->Tq,length_cons->Tt,mem_append->Tv,mem_map_of_mem->Tx,map_congr_left->Tz,mem_cons_self->TF,map_nil->TJ,length_filter_le->TK,getElem?_eq_some_iff->TQ,lookup->TR,mem_range->TU,mem_append_right->TV,append_nil->TX,filter_map->T2,mem_of_getElem?->T6,getElem?_append_right->Ui,map_id->Uo,nodup_cons->Us,foldl_cons->Ut,length_singleton->UA,getElem?_eq_none->UB,length_set->UD,filter_congr->UG,replicate_succ->UJ,getElem_mem->UK,length->UN,find?_cons->UR,idxOf_lt_length_of_mem->UT,range_eq_range'->UY,toArray->UZ,pairwise_iff_getElem->U3,getElem?_zip_eq_some->U4,drop_eq_getElem_cons->U5,filterMap_cons->U6,pairwise_cons->U8,range'->Va,drop_eq_nil_of_le->Ve,any_cons->Vo,mem_iff_getElem->Vt,mem_append_left->Vu,of_mem_zip->Vz,map_append->VA,getElem_of_mem->VD,mem_singleton->VL,findIdx?_cons->VM,filter_append->VN,getElem?_eq_none_iff->VW,getElem?_append_left->VX,nodup_append->V2,ext_getElem?->V3,zipIdx_cons->Wa,not_mem_nil->Wb,length_take->Wc,length_nil->Wl,replicate_succ'->Wo,length_pos_iff->Wt,sum_cons->Ww,findIdx?_eq_some_iff_getElem->WD,length_range->WE,getElem?_set->WG,getElem?_nil->WH,range'_succ->WO,nodup_range->WQ,lookup_cons->WR,getElem_map->WS,ext_getElem->WT,length_zip->W4,take_succ->Xg,getElem?_replicate->XE,take_of_length_le->XH,getElem?_set_self->XI,filter_eq_nil_iff->XJ,dropLast_eq_take->XS,countP_mono_left->XT,getElem?_zipIdx->X0,getElem?_set_ne->X1,map_eq_nil_iff->X8,getElem?_range->X9,filter_eq_self->Ya,zip_cons_cons->Yg,mem_filterMap->Yh
open List.Pairwise renaming nil->Xh,map->Xi
open List.Perm renaming mem_iff->Wr,refl->Yb,cons->Yc
open List.cons renaming injEq->Ue
open Nat renaming le_refl->SO,le_trans->SX,ne_of_lt->SY,lt_of_lt_of_le->Tc,lt_irrefl->TN,pow_le_pow_right->TZ,zero_le->Uj,le_add_right->Uz,lt_or_ge->UP,lt_succ_of_lt->UU,testBit_lt_two_pow->Vi,ne_of_gt->Vj,le_of_lt->Vk,le_of_not_lt->Vn,le_succ->V6,zero_add->Wi,not_lt->Wj,not_lt_zero->Wm,lt_succ_self->W0,two_pow_pos->Xb,testBit_or->Xr,min_self->XO,lt_trans->XQ,le_of_eq->XR,log2_lt->X7
open Ne renaming symm->Tu
open Option renaming map_eq_some_iff->T7,join_some->T8,map_some->Ua,isSome_map->WC,isSome_iff_exists->Xf
open Option.some renaming inj->T5
open PyProof.Rows renaming callWith_type1->TM,slot_tuple_getitem->T3,envOfC->Vh
open PySem renaming mem_of_lookup->Uu,Within->XA,call->X2,list_append->Ye
open PySem.Around renaming under_plainId->Uc
open PySem.Builtin renaming bitAnd->VC,bitOr->Wn
open PySem.Builtin.Builtins renaming bindParams->Vb
open PySem.Builtin.Dict renaming updateFrom->WL,showsAll->WZ
open PySem.Builtin.Int renaming intBits->Um
open PySem.Builtin.Slice renaming slicePlaces->Vm,sliceAdjust->WB
open PySem.Builtin.SmallTypes renaming nextOf->T4,ownedTupleIsFree->UO,ownedTupleHandOut->VJ
open PySem.Builtin.Tuple renaming tupleTooMany->Wu,tupleItemsOf->Wv
open PySem.Calls renaming spliced_cons->UL,callWith_builtin->UM,evalArgs_plain->UW,spliced_nil->Vc,Name_function_global->Xa,call_len_list->XZ
open PySem.Expr renaming Call->XD
open PySem.F renaming plain_min_loop->TH,entry_min_loop->Uw,slot_dict_keyiterator_next->US,slot_tuple_iterator_next->U1,slot_tuple_index->U2,slot_tuple_mul->U9,slot_dict_pop->Vd,slot_list_getattribute->Vg,slot_list_lt->Vl,slot_list_pop->VI,args_tuple_mul_2->VT,args_tuple_add_2->VU,plainAttrs_list->VZ,entry_tuple_mul->V0,entry_tuple_add->V1,slot_tuple_add->V8,slot_zip_getattribute->Wh,slot_list_append->Wq,slot_NoneType_hash->WX,args_tuple_index_2->WY,entry_tuple_index->W3,type_tuple_index->W8,args_dict_keyiterator_next_1->W9,plainAttrs_dict->Xc,entry_dict_keyiterator_next->Xd,args_dict_pop_3->Xe,entry_dict_pop->Xo,args_tuple_iterator_next_1->Xp,args_list_lt_2->Xq,type_list_pop->Xu,type_dict_pop->Xv,slot_int_rmul->Xw,entry_tuple_iterator_next->Xx,entry_list_lt->Xy,entry_min->XY,slot_enumerate_next->Yf
open PySem.Heap renaming get?_push_of_some->SF,lt_size->SI,get?_push_size->SK,get?_update_other->Tn,get?_update_self->T9,size_push->Ug,SameBut->Uh,ExtBut->VY
open PySem.Heap.SameBut renaming update->Ul
open PySem.MeetsSeq.EqGives renaming int->XX
open PySem.Obj renaming mapSeq->Uv,data_mapFields->VS,isFreed_of_fields->XW
open PySem.Paired renaming length->UE
open PySem.PyData renaming hasDict->Ud,showable->Vs,depth->Vy,shownAll->We,showableAll->Ws,shown->Wz,hasDictAll->WA,depthAll->WN,noDict_hsm->X6
open PySem.SeqAt renaming EqAt->Wd,RcNeAt->XB,RcAt->X5
open PySem.SeqAt.EqAt renaming str_none->Xk,none_str->Xl,none_int->Xm,int_none->Xn,str_int->Xs,int_str->Xt
open PySem.SeqAt.RcAt renaming lists_lengths->WM,tuples->XC,lists->XG
open PySem.Str renaming ofString->Vf,empty->WW
open PySem.Value renaming ref->To,none->Ub,type->VG,str->WJ,int->WK,bool->X4
open PySem.W renaming Frag->SM,findIn->TY,mg_none_of->T1,nsIn->Uq,keepIn->Ur,emptyDict->U0,kia_one->U7,plainGet->Vv,fnOf->Vw,hasDictIn->VB,mg_of->VR,instObj->VV,plainOver->V9,makesIn->Wg,codeIn->WU,callWith_K->WV,hideAll->W7,plainGet_of->XN,excIn->X3
open PySem.Walks renaming list->W6
open String renaming reduceBEq->V5
open Sum renaming inr->TB,inl->UC
open True renaming intro->UX
open Bool renaming false->cp
open Option renaming some->ap,none->bb
open PyProof.Rows renaming IntsAre->J',AllBare->T_,seqObj->Zs,listUpdate_at->ZA,IsTup->ZF,subscriptTail_builtinR->ZI,seqEpoch_at->ZU
open PySem renaming wpAny_bind->ax,Value->ay,Shared->ca,Addr->cb,wpAny_pure->cx,wpAny->cT,starEach->ee,model->eC,mainGlobals->eH,bootBuiltins->eT,Program->eX,wpAny_loadPart'->ff,Expr->fv,eval->fx,Heap->fy,World->f',Around->g3,backTo->g4,FuncData->hG,binaryOp->j0,compareOp->kc,wpAny_holding->kr,wpAny_mono->kB,attributeBase->kL,wpAny_field->k6,argBest->k',wpAny_seqItems->mo,wpAny_call_entry->mu,cLine->n7,codeAny_builtin->ol,wpAny_setField_rec->om,wpAny_Call_Name_kw->ot,assignEach->oD,plainId_quiet->pa,wpAny_tryCatch->pb,wpAny_newObj_type->pt,foldedSetIterable->py,sysModules->p6,call_meets->qa,Stmt->q0,wpAny_pyIter_list->ra,holding->rc,swapsWith->re,Keyword->vb,wpAny_updateSeq->vr,wpAny_passesOwn->vw,backToKw->wh,rawInt->x9,wpAny_truthy_bool->y',sizeLine_eq->z4,codeAny->z5,pyNext->z6,wpAny_attempt->B',Scope->F',wpAny_execs_nil->G',wpAny_of_eq->K',wpAny_newTuple->L',codeAny_mono->P',wpAny_isInstance->SC,typeLookup->SL,checkBuiltinCall->SZ,wpAny_specialOf->S_,getMethod->S',tupleKind_room_in1->Tk,getattributeRaised->Tl,standAt->TD,sliceBounds->TW,relabel->T0,wpAny_rule->T',valueAt->Uf,pyIter->UF,PlainAttrs->UV,Paired->U_,letOwnedTupleGo->U',wpAny_letGo->V_,isSubtype_stop->V',entryFor->Wp,argsOk->WF,Operator->WP,IsPart->W1,getItem->W_,wpAny_standAt->W',checkTypeCall->XV,behindInMarks->X_,typeOf->Y_,stored->Y',closureFor->Za,wpAny_typeOf->Zb,getAttr?->Zc,callerA->Zd,callWith->Ze,wpAny_pyIter_zip->Zf,wpAny_execs_cons->Zg,tupleKind->Zh,noFill_tuple_add->Zi,assign->Zj,Result->Zk,DictEntry->Zl,wpAny_typeNameOfWhole_keyiter->Zm,Meets->Zn,IsZip->Zo,BindsTo->Zp,wpAny_setField->Zq,wpAny_call->Zr,firstArgMember->Zt,bindArgs->Zu,atKey->Zv,NameKind->Zw,wpAny_handled->Zx,wpAny_comprehension_free->Zy,seq_tuple_add->Zz,Slot->ZB,seqItems?->ZC,seqIndex?->ZD,PassesOwn->ZE,wpAny_pyNext_list_item->ZG,wpAny_Call_method_late->ZH,seqIndex_neg->ZJ,isTrue->ZL,concat_meets->ZM,callType_new->ZN,wpAny_pyNext_list_end->ZO,wpAny_isOneOf_keyiter->ZP,wpAny_loadName_local->ZQ,table->ZR,seqIndex_of->ZT,richCompare->ZV,field->ZW,codeAny_call_builtin->ZX,bindL->ZY,bindC->ZZ
open PySem.W renaming kas_rev->ZK
abbrev Z8:=List (List Int)
abbrev Z9:=List Int
abbrev Z_:=List PySem.Str
abbrev Z':=List ay
abbrev aaa:=List cb
abbrev aab:=List fv
abbrev aac:=List q0
abbrev aad:=ay->ca->Prop
abbrev aae:=List (cb×PySem.Obj)
abbrev aaf:=PySem.Str->Option ay
abbrev aag:=Array ay
set_option hygiene false in
local macro_rules|`(tactic|ac_rfl)=>`(tactic|(intro _ _ _ _ _ _;first|exact us1 λ_=>rfl|exact us2 λ_ _=>rfl|exact us3 λ_ _ _=>rfl|exact us4 λ_ _ _ _=>rfl|exact us5 λ_ _ _ _ _=>rfl|exact us6 λ_ _ _ _ _ _=>rfl|exact us7 λ_ _ _ _ _ _ _=>rfl|exact us8 λ_ _ _ _ _ _ _ _=>rfl))
set_option hygiene false in
local macro_rules|`(tactic|and_intros)=>`(tactic|(first|exact .inl rfl|exact .inr rfl|assumption))
local macro_rules|`(tactic|lia)=>`(tactic|first|(with_reducible first|assumption|exact Nat.le_add_right _ _|exact Nat.le_trans (by assumption) (by decide +kernel)|exact Nat.lt_of_le_of_lt (by assumption) (by decide +kernel)|exact Int.le_of_lt (by assumption))|decide +kernel|lia -abstractProof)
noncomputable section
namespace _2
open PySem PySem.Spec PyProof.Rows
variable{C a b dx f:cb}{A:g3}{X:Cx}{c e tg:fv}{fd:hG}{o:HO}{base h h':fy}{H H':Hp}{Z0:aae}{kw:List (Str×ay)}{ch fp:aaa}{es:aab}{body:aac}{N ps:Z_}{us:Z'}{M:Model}{i t':Nat}{op:WP}{p pos pos':Pos}{P:eX}{r:R2}{K:SM}{s:ca}{sp:Sp}{Z:St}{m x:Str}{mA mg:aaf}{ta tb te:TE}{u:ay}{E Q:aad}{w:f'}{CX:ow}
abbrev aF:=Sum Int Str
noncomputable def mV:aF->ay->Bool
 |.inl k,v=>Value.isInt k v
 |.inr x,v=>Value.isStrOf x v
noncomputable def QP(w:f'):aF->Int
 |.inl k=>hashInt k
 |.inr x=>hashStr w x
theorem aX:∀{k:aF}{v:ay},mV k v=true->(∃i t,k=UC i/\v=WK i t)\/(∃x t,k=TB x/\v=WJ x t)
 |.inl i,v,h=>by
  obtain⟨t,e⟩:=Value.isInt_shape h;exact .inl ⟨i,t,rfl,e⟩
 |.inr x,v,h=>by
  obtain⟨t,e⟩:=Value.isStrOf_shape h;exact .inr ⟨x,t,rfl,e⟩
theorem BY(i:Int)(t:Tok):mV (.inl i) (.int i t)=true:=by simp[mV,Value.isInt]
theorem CF(x:Str)(t:Tok):mV (.inr x) (.str x t)=true:=by simp[mV,Value.isStrOf]
theorem P5(a b:Int):decide ((UC a:aF)=UC b)=(a==b):=by
 by_cases e:a=b
 .subst e;simp
 simp_all
theorem No(a b:Str):decide ((TB a:aF)=TB b)=decide (a=b):=by
 simp_all
theorem Nc(a:Int)(b:Str):decide ((UC a:aF)=TB b)=false:=decide_eq_false (λq=>nomatch q)
theorem Nm(a:Str)(b:Int):decide ((TB a:aF)=UC b)=false:=decide_eq_false (λq=>nomatch q)
noncomputable def aU(prog:eX)(w:f'):PySem.KeyKind prog w aF where
 is:=mV
 hash:=QP w
 inj:=λv a b n l=>by
  rcases aX n with⟨i,t,rfl,rfl⟩|⟨x,t,rfl,rfl⟩
  .rcases aX l with⟨j,u,rfl,e⟩|⟨y,u,rfl,e⟩
   .injection e with e1 _;rw[e1]
   .exact nomatch e
  .rcases aX l with⟨j,u,rfl,e⟩|⟨y,u,rfl,e⟩
   .exact nomatch e
   .injection e with e1 _;rw[e1]
 byValue:=λk v h=>by
  rcases aX h with⟨i,t,rfl,rfl⟩|⟨x,t,rfl,rfl⟩<;>rfl
 pyHash:=λg h=>by
  rcases aX g with⟨i,t,rfl,rfl⟩|⟨x,t,rfl,rfl⟩
  .exact wpAny_pyHash_int h
  .exact wpAny_pyHash_str h
 eqBool:=λq g h=>by
  rcases aX q with⟨i,t,rfl,rfl⟩|⟨x,t,rfl,rfl⟩
  .rcases aX g with⟨j,u,rfl,rfl⟩|⟨y,u,rfl,rfl⟩
   .rw[P5]at h;exact wpAny_eqBool_int h
   .rw[Nc]at h;exact Xt i t y u _ _ _ _ h
  .rcases aX g with⟨j,u,rfl,rfl⟩|⟨y,u,rfl,rfl⟩
   .rw[Nm]at h;exact Xs x t j u _ _ _ _ h
   .rw[No]at h;exact wpAny_eqBool_str h
 «strs»:=λk x t v h=>by
  rcases aX h with⟨i,u,rfl,e⟩|⟨y,u,rfl,e⟩
  .exact nomatch e
  .injection e with e1 _
   subst e1;cases v<;>rfl
theorem uG(g:eX)(w:f')(i:Int)(t:Tok):(aU g w).is (.inl i) (.int i t)=true:=BY i t
theorem uk(g:eX)(w:f')(x:Str)(t:Tok):(aU g w).is (.inr x) (.str x t)=true:=CF x t
inductive V where
 |non|bl (b:Bool)|int (i:Int)|str (x:Str)|byt (b:Array UInt8)|flt (b:UInt64)|ref (a:cb)|ty (n:String)
 deriving DecidableEq
def RelV:V->ay->Prop
 |.non,u=>u=Ub
 |.bl b,u=>u=X4 b
 |.int i,u=>∃t,u=WK i t
 |.str x,u=>∃t,u=WJ x t
 |.byt b,u=>∃t,u=Value.bytes b t
 |.flt b,u=>∃t,u=Value.float b t
 |.ref a,u=>u=To a
 |.ty n,u=>u=VG n
abbrev Vals:List V->List ay->Prop:=U_ RelV
theorem Vals.length{xs:List V}(r:Vals xs us):xs.length=us.length:=UE r
theorem Vals.get:∀{xs:List V}{us:Z'}{i:Nat}{x:V},Vals xs us->xs[i]?=ap x->∃u,us[i]?=ap u/\RelV x u:=by
 intro xs us i x h e
 induction h generalizing i with
 |nil=>simp at e
 |cons r _ ih=>
  cases i with
  |zero=>simp at e;subst e;exact⟨_,rfl,r⟩
  |succ i=>
   obtain⟨u,g,j⟩:=ih (i:=i) (by simpa using e)
   exact⟨u,by simpa using g,j⟩
theorem Vals.set{x:V}{u:ay}(r:RelV x u):∀{xs:List V}{us:Z'}(i:Nat),Vals xs us->Vals (xs.set i x) (us.set i u)
 |_,_,_,.nil=>.nil
 |_,_,0,.cons _ t=>.cons r t
 |_,_,i+1,.cons q t=>.cons q (Vals.set r i t)
theorem Vals.append:∀{xs ys:List V}{us g:Z'},Vals xs us->Vals ys g->Vals (xs++ys) (us++g):=by
 intro xs ys us g h s
 induction h with
 |nil=>exact s
 |cons r _ ih=>exact .cons r ih
theorem Vals.take:∀{xs:List V}{us:Z'}(n:Nat),Vals xs us->Vals (xs.take n) (us.take n)
 |_,_,0,_=>.nil
 |_,_,_+1,.nil=>.nil
 |_,_,n+1,.cons r t=>.cons r (Vals.take n t)
theorem Vals.drop:∀{xs:List V}{us:Z'}(n:Nat),Vals xs us->Vals (xs.drop n) (us.drop n)
 |_,_,0,r=>r
 |_,_,_+1,.nil=>.nil
 |_,_,n+1,.cons _ t=>Vals.drop n t
def RelO:Option V->Option ay->Prop
 |some v,ap u=>RelV v u
 |none,bb=>True
 |_,_=>False
def KV{κ:Type}:List (κ×V)->List (κ×ay)->Prop:=U_ λ(p:κ×V)(q:κ×ay)=>p.1=q.1/\RelV p.2 q.2
def kV:aF->V
 |.inl i=>.int i
 |.inr x=>.str x
inductive HO where
  |lst (xs:List V)
  |tup (xs:List V)
  |dK (Z2:List (aF×V))|dT (Z2:List (List aF×V))
  |set (S:Int->Bool) (n:Nat)
  |ins (C dx:cb) (fs:List (Str×V))
  |own (x:cb)
  |xd (fs:List (Str×V))
  |met (f x:cb)
  |rng (lo hi:Int)
  |frz (o:Obj) (u:HO)
  |tbl (ps:aag)
  |ext (φ:fy->Prop)
abbrev Hp:=cb->Option HO
noncomputable def upd(H:Hp)(a:cb)(o:HO):Hp:=λb=>if b=a then ap o else H b
theorem upd_same:upd H a o a=ap o:=by unfold upd;simp_all
theorem aD(h:b≠a):upd H a o b=H b:=by unfold upd;rw[if_neg h]
theorem QT{u:HO}(h:H a=ap o)(h':H b=ap u)(d:o≠u):a≠b:=by
 intro e;subst e;rw[h]at h';exact d (T5 h')
theorem bh(h:H a=ap o)(h':H b=bb):a≠b:=by
 intro e;simp_all
section
variable(P:eX)(w:f')
def ObjOk(H:Hp)(h:fy)(a:cb):HO->Prop
 |.lst xs=>xs.length<=sizeLine/\∃(Z6:Z')(n:Nat),Vals xs Z6/\h.get? a=ap { cls:=.type "list",data:=.seq Z6.toArray n }
 |.tup xs=>xs.length<=sizeLine/\∃Z6:List ay,Vals xs Z6/\∃o,h.get? a=ap o/\(o.cls=.type "tuple"/\∃n,o.data=.seq Z6.toArray n)/\o.dict=bb
 |.dK Z2=>Z2.length<=sizeLine/\(a==p6)=cp/\∃vs,KV Z2 vs/\h.DictOf (aU P w) a vs
 |.dT Z2=>Z2.length<=sizeLine/\(a==p6)=cp/\∃xs:List (List aF×cb×ay),
   U_ (λ(p:List aF×V)(q:List aF×cb×ay)=>p.1=q.1/\H q.2.1=ap (.tup<|p.1.map kV)/\RelV p.2 q.2.2) Z2 xs/\
   ∃o es ep,h.get? a=ap o/\o.ExactDict/\o.data=.dict es ep/\es.toList=xs.map (entryOfKey<|tupleKind<|aU P w)/\(xs.map (·.1)).Nodup
 |.set S n=>h.SetOf (intKind P w) a S n
 |.ins C dx fs=>H dx=ap (.own a)/\fs.length<=1000/\dx≠a/\h.get? a=ap (VV C dx)/\
   ∃mA,h.Ns1 dx mA/\(∀f,RelO (fs.lookup f) (mA f))/\XA mA (fs.map (·.1))
 |.own _=>∃o,h.get? a=ap o
 |.xd fs=>∃mA,h.Ns1 a mA/\∀f,RelO (fs.lookup f) (mA f)
 |.rng lo hi=>∃t u v,h.get? a=ap { cls:=.type "range",data:=.fields #[.int lo t,.int hi u,.int 1 v] }
 |.frz o u=>h.get? a=ap o/\ObjOk H h a u
 |.tbl ps=>h.get? a=ap { cls:=.none,data:=.fields ps }
 |.met f x=>h.get? a=ap (W.methodObj (.ref f)<|.ref x)
 |.ext φ=>φ h/\(∃o,h.get? a=ap o)/\∀h1 h2:fy,φ h1->(∀o,h1.get? a=ap o->h2.get? a=ap o)->φ h2
def HOk(H:Hp)(h:fy):Prop:=∀a o,H a=ap o->ObjOk P w H h a o
end
section
theorem ObjOk.lt(x:ObjOk P w H h a o):a<h.objs.size:=by
 cases o with
 |lst xs=>obtain⟨_,_,_,_,e⟩:=x;exact SI e
 |tup xs=>obtain⟨_,_,_,_,e,_⟩:=x;exact SI e
 |dK Z2=>obtain⟨_,_,_,_,o,_,_,e,_⟩:=x;exact SI e
 |dT Z2=>obtain⟨_,_,_,_,o,_,_,e,_⟩:=x;exact SI e
 |set S n=>obtain⟨o,_,_,_,e,_⟩:=x;exact SI e
 |ins C dx fs=>obtain⟨_,_,_,e,_⟩:=x;exact SI e
 |own y=>obtain⟨_,e⟩:=x;exact SI e
 |xd fs=>obtain⟨_,⟨_,_,_,e,_⟩,_⟩:=x;exact SI e
 |rng lo hi=>obtain⟨_,_,_,e⟩:=x;exact SI e
 |frz ob u=>obtain⟨e,_⟩:=x;exact SI e
 |tbl ps=>exact SI x
 |met f y=>exact SI x
 |ext φ=>obtain⟨_,⟨_,e⟩,_⟩:=x;exact SI e
theorem gl{α l:Type}{F G:α->l->Prop}:∀{g:List α}{j:List l},U_ F g j->(∀a b,F a b->G a b)->U_ G g j:=by
 intro g j h f
 induction h with
 |nil=>exact .nil
 |cons r _ ih=>exact .cons (f _ _ r) ih
theorem ObjOk.stay(x:ObjOk P w H h a o)(k:∀b u,(b=a\/H b=ap (.own a))->h.get? b=ap u->h'.get? b=ap u)(L:∀b,H b=ap (.own a)->H' b=ap (.own a))(J:∀b xs,H b=ap (.tup xs)->H' b=ap (.tup xs)):ObjOk P w H' h' a o:=by
 induction o with
 |lst xs=>obtain⟨z,l,n,r,e⟩:=x;exact⟨z,l,n,r,k _ _ (.inl rfl) e⟩
 |tup xs=>obtain⟨z,l,r,g,e,c⟩:=x;exact⟨z,l,r,g,k _ _ (.inl rfl) e,c⟩
 |dK Z2=>obtain⟨z,y,I,r,g,es,j,e,c⟩:=x;exact⟨z,y,I,r,g,es,j,k _ _ (.inl rfl) e,c⟩
 |dT Z2=>
  obtain⟨z,y,xs,r,g,es,j,e,c⟩:=x;exact⟨z,y,xs,gl r λp q z=>⟨z.1,J _ _ z.2.1,z.2.2⟩,g,es,j,k _ _ (.inl rfl) e,c⟩
 |set S n=>obtain⟨g,es,j,t,e,c⟩:=x;exact⟨g,es,j,t,k _ _ (.inl rfl) e,c⟩
 |ins C dx fs=>
  obtain⟨d,z,ne,e,mA,⟨B,es,j,G,c⟩,r⟩:=x;exact⟨L _ d,z,ne,k _ _ (.inl rfl) e,mA,⟨B,es,j,k _ _ (.inr d) G,c⟩,r⟩
 |own y=>obtain⟨g,e⟩:=x;exact⟨g,k _ _ (.inl rfl) e⟩
 |xd fs=>obtain⟨mA,⟨B,es,j,e,c⟩,r⟩:=x;exact⟨mA,⟨B,es,j,k _ _ (.inl rfl) e,c⟩,r⟩
 |rng lo hi=>obtain⟨t,u,v,e⟩:=x;exact⟨t,u,v,k _ _ (.inl rfl) e⟩
 |frz g u ih=>obtain⟨e,q⟩:=x;exact⟨k _ _ (.inl rfl) e,ih q⟩
 |tbl ps=>
  have e:h.get? a=ap { cls:=.none,data:=.fields ps }:=x;show h'.get? a=ap { cls:=.none,data:=.fields ps };exact k a _ (.inl rfl) e
 |met f y=>
  have e:h.get? a=ap (W.methodObj (.ref f)<|.ref y):=x;show h'.get? a=ap (W.methodObj (.ref f)<|.ref y);exact k a _ (.inl rfl) e
 |ext φ=>obtain⟨p,⟨o,e⟩,F⟩:=x;exact⟨F _ _ p λo q=>k _ _ (.inl rfl) q,⟨o,k _ _ (.inl rfl) e⟩,F⟩
theorem HOk.lt(x:HOk P w H h)(e:H a=ap o):a<h.objs.size:=(x a o e).lt
theorem HOk.fresh(x:HOk P w H h)(e:h.objs.size<=a):H a=none:=by
 cases q:H a with
 |none=>rfl
 |some u=>exact absurd (Tc (x.lt q) e) (TN _)
theorem HOk.kept(x:HOk P w H h)(k:∀b u,h.get? b=ap u->h'.get? b=ap u):HOk P w H h':=λa o e=>
 (x a o e).stay (λb u _ q=>k b u q) (λ_ q=>q) λ_ _ q=>q
theorem HOk.laid(x:HOk P w H h)(k:∀b u,h.get? b=ap u->h'.get? b=ap u)(l:h.objs.size<=a)(new:ObjOk P w (upd H a o) h' a o):HOk P w (upd H a o) h':=λb u e=>by
 have g:=x.fresh l
 by_cases j:b=a
 .subst j;rw[upd_same]at e;cases e;exact new
 .rw[aD j]at e
  exact(x b u e).stay (λc v _ q=>k c v q) (λc q=>by rw[aD (bh q g)];exact q) λc n q=>by rw[aD (bh q g)];exact q
end
def Rd(H:Hp)(a:cb)(u:HO):Prop:=H a=ap u\/∃o,H a=ap (.frz o u)
theorem Rd.ok{u:HO}(r:Rd H a u)(x:HOk P w H h):ObjOk P w H h a u:=by
 rcases r with r|⟨o,r⟩
 .exact x a u r
 obtain⟨_,q⟩:=x a _ r;exact q
def QN:Option HO->Prop
 |some (.lst _)=>True
 |some (.dK _)=>True
 |some (.dT _)=>True
 |some (.set _ _)=>True
 |some (.ins _ _ _)=>True
 |some (.ext _)=>True
 |_=>False
section
variable{x e:cb}{o':HO}
theorem HOk.write(ok:HOk P w H h)(F:QN (H x))(J:e=x\/H e=ap (.own x))(k:∀b u,b≠e->h.get? b=ap u->h'.get? b=ap u)(G:∃u,h'.get? e=ap u)(new:ObjOk P w (upd H x o') h' x o'):HOk P w (upd H x o') h':=λb u q=>by
 have j:∀c y,H c=ap (.own y)->c≠x:=λc y r z=>by subst z;rw[r]at F;exact F
 have l:∀c B,H c=ap (.tup B)->c≠x:=λc B r z=>by subst z;rw[r]at F;exact F
 by_cases n:b=x
 .subst n;rw[upd_same]at q;cases q;exact new
 .rw[aD n]at q
  by_cases g:b=e
  .have I:H b=ap (.own x):=by
    rcases J with z|z
    .exact absurd (g.trans z) n
    .rw[g];exact z
   rw[q]at I;cases I;obtain⟨v,L⟩:=G;exact⟨v,by rw[g];exact L⟩
  .refine (ok b u q).stay (λc v hc r=>k c v ?_ r) (λc r=>by rw[aD (j c b r)];exact r) λc B r=>by rw[aD (l c B r)];exact r
   rcases hc with rfl|hc
   .exact g
   .rintro rfl
    rcases J with z|z
    .exact j c b hc z
    .rw[hc]at z;cases z;exact n rfl
end
structure Un(fs ex:aaa)(H H':Hp)(h h':fy):Prop where
 keep:∀b o,h.get? b=ap o->H b=bb->b∉fs->b∉ex->h'.get? b=ap o
 slot:∀b o,h.get? b=ap o->H b=bb->b∈fs->b∉ex->∃sl,h'.get? b=ap { o with slots:=sl }
 free:∀b o,h.get? b=ap o->H b=bb->b∉ex->H' b=bb
 there:∀b o,h.get? b=ap o->b∉ex->∃o',h'.get? b=ap o'
 tups:∀b xs,H b=ap (.tup xs)->H' b=ap (.tup xs)
 frzs:∀b o u,H b=ap (.frz o u)->H' b=ap (.frz o u)
 tbls:∀b ps,H b=ap (.tbl ps)->∃more,H' b=ap (.tbl (ps++more))
section
variable{fs fs' ex ex':aaa}{H1 H2:Hp}{h1 h2:fy}{x e:cb}
theorem Un.any(u:Un fs ex H H1 h h1){g:Obj}(q:h.get? b=ap g)(n:H b=bb)(l:b∉ex):∃v,h1.get? b=ap { g with slots:=v }:=by
 by_cases j:b∈fs
 .exact u.slot b g q n j l
 exact⟨_,u.keep b g q n j l⟩
theorem Un.kept(k:∀b u,h.get? b=ap u->h'.get? b=ap u):Un fs ex H H h h':=
 ⟨λb g q _ _ _=>k b g q,λb g q _ _ _=>⟨_,k b g q⟩,λ_ _ _ n _=>n,λb g q _=>⟨g,k b g q⟩,λ_ _ q=>q,λ_ _ _ q=>q,λ_ ps q=>⟨#[],by rw[q];simp⟩⟩
theorem Un.refl:Un fs ex H H h h:=Un.kept λ_ _ q=>q
theorem Un.laid(k:∀b u,h.get? b=ap u->h'.get? b=ap u)(l:h.objs.size<=a)(g:H a=bb):Un fs ex H (upd H a o) h h' where
 keep:=λb u q _ _ _=>k b u q
 slot:=λb u q _ _ _=>⟨_,k b u q⟩
 free:=λb u q n _=>by rw[aD (SY<|Tc (SI q) l)];exact n
 there:=λb u q _=>⟨u,k b u q⟩
 tups:=λb j q=>by rw[aD (bh q g)];exact q
 frzs:=λb u j q=>by rw[aD (bh q g)];exact q
 tbls:=λb ps q=>⟨#[],by rw[aD (bh q g),q];simp⟩
theorem Un.write(v:QN (H x))(G:e=x\/H e=ap (.own x))(k:∀b u,b≠e->h.get? b=ap u->h'.get? b=ap u)(F:∃u,h'.get? e=ap u):Un fs ex H (upd H x o) h h':=by
 have y:∀b,H b=bb->b≠x:=λb n z=>by subst z;rw[n]at v;exact v
 have l:∀b,H b=bb->b≠e:=λb n z=>by
  simp_all
 have g:∀b u,H b=ap u->¬QN (ap u)->b≠x:=λb u q nm z=>by simp_all
 refine⟨λb u q n _ _=>k b u (l b n) q,λb u q n _ _=>⟨_,k b u (l b n) q⟩,λb u q n _=>by rw[aD (y b n)];exact n,λb u q _=>?_,
  λb B q=>by rw[aD (g b _ q λz=>z)];exact q,λb u B q=>by rw[aD (g b _ q λz=>z)];exact q,λb ps q=>⟨#[],by rw[aD (g b _ q λz=>z),q];simp⟩⟩
 by_cases j:b=e
 .simp_all
 exact⟨u,k b u j q⟩
end
noncomputable def trk(h:fy)(H:Hp):List Addr:=(Te h.objs.size).filter λa=>(H a).isSome
noncomputable def tF(h:fy)(H:Hp):Heap:=W7 h (trk h H)
theorem CZ(h:fy)(H:Hp):(tF h H).objs.size=h.objs.size:=W.hideAll_size _ _
theorem Fd{o:Obj}(e:h.get? b=ap o)(n:H b=bb):(tF h H).get? b=ap o:=
 W.hideAll_get _ e λg=>by
  have q:=(SS.mp g).2
  simp_all
theorem Hz{o:Obj}(e:(tF h H).get? b=ap o):h.get? b=ap o/\H b=none:=by
 have g:=W.of_hideAll _ e;refine⟨g,?_⟩;cases q:H b with
 |none=>rfl
 |some x=>
  have j:b∈trk h H:=SS.mpr ⟨TU.mpr (SI g),by simp[q]⟩
  have z:(tF h H).get? b=none:=W.hideAll_none _ j
  simp_all
structure Mod(K:SM)(mg:aaf)(base:fy):Prop where
 kin:K.In base
 glob:base.Ns eH mg
 blt:∃mb,base.Ns builtinsNs mb/\∀x:Str,x≠"__name__"->mb x=eT x
 nolimit:base.NoLimit
structure Cx where
 prog:eX
 w:f'
 K:SM
 mg:Str->Option ay
 base:fy
 A:g3
 N:List Str
 s₀:ca
 H₀:Hp
 env:Env
 outer:List Env
 stack:List Env
 ex:List cb
 fn:Str->Bool
 calm:Bool
 pn:List (cb×Obj)
 xe:ay->ca->Prop
noncomputable def h8(l:List Env):List Addr:=l.filterMap (·.frame)
abbrev Cx.fs(X:Cx):List Addr:=h8 X.outer
def PR(sc:F')(x:Str):Prop:=sc.names.lookup x=ap .local\/sc.names.lookup x=ap .cell\/sc.names.lookup x=ap .free
def Dh(sc:F')(x:Str):Prop:=sc.names.lookup x=ap .local\/sc.names.lookup x=ap .cell
def Look(env:Env)(h:fy)(m:aaf)(x:Str)(u:ay):Prop:=
 (env.kindOf x=ap .local/\m x=ap u)\/((env.kindOf x=ap .cell\/env.kindOf x=ap .free)/\∃c,env.cells.lookup x=ap c/\h.IsCell c (ap u))
structure Cx.Ok(X:Cx):Prop where
 mod:Mod X.K X.mg X.base
 kind:X.env.scope.kind=.function
 glob:X.env.globals=eH
 blt:X.env.builtins=builtinsNs
 above:X.s₀.heap.objs.size<=X.env.locals
 inj:∀x y c,X.env.cells.lookup x=ap c->X.env.cells.lookup y=ap c->x=y
 has:∀x,(X.env.kindOf x=ap .cell\/X.env.kindOf x=ap .free)->∃c,X.env.cells.lookup x=ap c
 cab:∀x c,X.fn x=true->X.env.cells.lookup x=ap c->X.s₀.heap.objs.size<=c
 hd:X.calm=true->X.A.handled=bb
 frames:X.A.frames=ap X.stack
 stk:X.stack=X.outer\/(X.stack=X.env::X.outer/\X.env.frame=ap X.env.locals)
 exf:∀b∈X.ex,b≠X.env.locals/\∀x c,X.env.cells.lookup x=ap c->c≠b
 bs:∀b o,X.base.get? b=ap o->X.s₀.heap.get? b=ap o/\X.H₀ b=bb
 bsz:X.base.objs.size<=X.s₀.heap.objs.size
 noex:∀b o,X.base.get? b=ap o->b∉X.ex
 exfs:∀b∈X.ex,b∉X.fs
 funs:X.s₀.heap.FunFrames X.base X.outer
 frf:∀b∈X.fs,X.H₀ b=bb
structure Inv(X:Cx)(Z0:aae)(Z:List (Option V))(H:Hp)(s:ca):Prop where
 ok:X.Ok
 os:s.os=X.s₀.os
 bare:T_ s.gens
 base:Un X.fs X.ex X.H₀ H X.s₀.heap s.heap
 loc:∃m,s.heap.Ns X.env.locals m/\∀(i:Nat)(x:Str)(v:V),X.N[i]?=ap x->Z[i]?=ap (ap v)->PR X.env.scope x->∃u,RelV v u/\Look X.env s.heap m x u
 cell:∀x c,X.env.cells.lookup x=ap c->∃v,s.heap.IsCell c v
 free:H X.env.locals=bb
 freeC:∀x c,X.env.cells.lookup x=ap c->H c=bb
 pin:∀p∈X.pn++Z0,s.heap.get? p.1=ap p.2/\H p.1=bb/\p.1≠X.env.locals/\p.1∉X.fs/\∀v,p.2.data≠.cell v
 hok:HOk X.prog X.w H s.heap
 len:Z.length=X.N.length
section
variable{Z:List (Option V)}
theorem Cx.Ok.nofr(ok:X.Ok){o:Obj}(e:X.base.get? b=ap o):b∉X.fs:=λg=>by
 have:=(ok.funs.mem g).1
 simp_all
theorem Inv.bs(I:Inv X Z0 Z H s):∀b o,X.base.get? b=ap o->s.heap.get? b=ap o/\H b=none:=λb o e=>
 ⟨I.base.keep b o (I.ok.bs b o e).1 (I.ok.bs b o e).2 (I.ok.nofr e) (I.ok.noex b o e),I.base.free b o (I.ok.bs b o e).1 (I.ok.bs b o e).2<|I.ok.noex b o e⟩
theorem Inv.bk(I:Inv X Z0 Z H s):∀b o,X.base.get? b=ap o->s.heap.get? b=ap o:=λb o e=>(I.bs b o e).1
theorem Inv.mod(I:Inv X Z0 Z H s):Mod X.K X.mg X.base:=I.ok.mod
theorem Inv.kIn(I:Inv X Z0 Z H s):X.K.In s.heap:=I.ok.mod.kin.keeps I.bk
theorem Inv.lt(I:Inv X Z0 Z H s):X.env.locals<s.heap.objs.size:=let ⟨_,hn,_⟩:=I.loc;hn.lt
theorem Inv.sz(I:Inv X Z0 Z H s):X.s₀.heap.objs.size<=s.heap.objs.size:=SX I.ok.above (Vk I.lt)
theorem Inv.nofs(I:Inv X Z0 Z H s)(h:s.heap.objs.size<=a):a∉X.fs:=λj=>by
 obtain⟨_,o,g,_⟩:=I.ok.funs.mem j;exact absurd (Tc (SI g)<|SX I.sz h) (TN _)
theorem Inv.cne(I:Inv X Z0 Z H s):∀x c,X.env.cells.lookup x=ap c->c≠X.env.locals:=λx c e z=>by
 obtain⟨v,o,l,y⟩:=I.cell x c e;obtain⟨m,⟨q,es,n,g,j,_⟩,_⟩:=I.loc
 simp_all
theorem Inv.funs(I:Inv X Z0 Z H s):s.heap.FunFrames X.base X.outer:=by
 have all:∀(l:List _),(∀b∈h8 l,b∈X.fs)->X.s₀.heap.FunFrames X.base l->s.heap.FunFrames X.base l:=by
  intro l
  induction l with
  |nil=>intro _ _;trivial
  |cons env r ih=>
   rintro q ⟨B,⟨L,o,n,v,y,G⟩,F⟩
   have j:=q L (by unfold h8;rw[U6,n];exact TF)
   obtain⟨J,e⟩:=I.base.slot L o y (I.ok.frf L j) j λz=>I.ok.exfs L z j;exact⟨B,⟨L,_,n,v,e,G⟩,ih (λb g=>q b (by unfold h8;rw[U6,n];exact Ta _ g)) F⟩
 exact all _ (λ_ g=>g) I.ok.funs
theorem Inv.stack(I:Inv X Z0 Z H s):s.heap.FunFrames X.base X.stack:=by
 rcases I.ok.stk with e|⟨e,hf⟩
 .rw[e];exact I.funs
 .rw[e]
  obtain⟨m,g,_⟩:=I.loc;refine .cons (by rw[I.ok.kind];decide) hf g ?_ I.funs
  exact Heap.get?_none_of_le (SX I.ok.bsz I.ok.above)
theorem Inv.stkSub(I:Inv X Z0 Z H s):∀b∈h8 X.stack,b∈X.env.locals::X.fs:=λb g=>by
 rcases I.ok.stk with e|⟨e,hf⟩
 .rw[e]at g;exact Ta _ g
 rw[e]at g;unfold h8 at g;rw[U6,hf]at g;exact g
theorem Inv.stkFree(I:Inv X Z0 Z H s):∀b∈h8 X.stack,H b=none:=λb hb=>by
 rcases SQ.mp (I.stkSub b hb) with e|hb
 .rw[e];exact I.free
 obtain⟨_,o,g,_⟩:=I.ok.funs.mem hb;exact I.base.free b o g (I.ok.frf b hb) λz=>I.ok.exfs b z hb
theorem Inv.step{g':Array GenState}{t':Nat}{d':Drawn}(I:Inv X Z0 Z H s)(B:∀b∈ch,(b∈X.ex\/X.s₀.heap.objs.size<=b)/\b≠X.env.locals/\(∀x c,X.env.cells.lookup x=ap c->c≠b)/\∀p∈X.pn++Z0,p.1≠b)(keep:∀b o,b≠X.env.locals->b∉X.fs->b∉ch->s.heap.get? b=ap o->H b=bb->h'.get? b=ap o)(slot:∀b o,b≠X.env.locals->b∈X.fs->b∉ch->s.heap.get? b=ap o->H b=bb->∃Y,h'.get? b=ap { o with slots:=Y })(free:∀b o,b∉ch->s.heap.get? b=ap o->H b=bb->H' b=bb)(there:∀b o,b∉ch->s.heap.get? b=ap o->∃R,h'.get? b=ap R)(tups:∀b J,H b=ap (.tup J)->H' b=ap (.tup J))(frzs:∀b o u,H b=ap (.frz o u)->H' b=ap (.frz o u))(tbls:∀b ps,H b=ap (.tbl ps)->∃more,H' b=ap (.tbl (ps++more)))(ns:∀m,s.heap.Ns X.env.locals m->h'.Ns X.env.locals m)(hok:HOk X.prog X.w H' h')(hg:T_ g'):
  Inv X Z0 Z H' { s with heap:=h',gens:=g',drawn:=d',toks:=t' }:=by
 have S:∀b o,X.s₀.heap.get? b=ap o->b≠X.env.locals:=λb o e=>SY (Tc (SI e) I.ok.above);have G:∀b o,X.s₀.heap.get? b=ap o->b∉X.ex->b∉ch:=λb o e g L=>by
  rcases (B b L).1 with z|z
  .exact g z
  .exact absurd (Tc (SI e) z) (TN _)
 have y:∀x c,X.env.cells.lookup x=ap c->∀v,s.heap.IsCell c v->h'.IsCell c v:=λx c e v ⟨o,O,U⟩=>by
  have j:c∉ch:=λz=>(B c z).2.2.1 x c e rfl
  by_cases hc:c∈X.fs
  .obtain⟨Y,q⟩:=slot c o (I.cne x c e) hc j O (I.freeC x c e)
   exact⟨_,q,U⟩
  .exact⟨o,keep c o (I.cne x c e) hc j O (I.freeC x c e),U⟩
 refine⟨I.ok,I.os,hg,⟨λb o e n L g=>?_,λb o e n L g=>?_,λb o e n g=>?_,λb o e g=>?_,λb J e=>tups b J (I.base.tups b J e),λb o J e=>frzs b o J (I.base.frzs b o J e),λb ps e=>?_⟩,?_,λx c e=>?_,?_,λx c e=>?_,λp hp=>?_,hok,I.len⟩
 .exact keep b o (S b o e) L (G b o e g) (I.base.keep b o e n L g) (I.base.free b o e n g)
 .obtain⟨Y,F⟩:=I.base.slot b o e n L g
  obtain⟨W,T⟩:=slot b _ (S b o e) L (G b o e g) F (I.base.free b o e n g);exact⟨W,T⟩
 .obtain⟨R,F⟩:=I.base.there b o e g
  exact free b R (G b o e g) F (I.base.free b o e n g)
 .obtain⟨R,F⟩:=I.base.there b o e g
  exact there b R (G b o e g) F
 .obtain⟨m1,F⟩:=I.base.tbls b ps e
  obtain⟨m2,T⟩:=tbls b _ F;exact⟨m1++m2,by rw[T,Yd]⟩
 .obtain⟨m,hn,hl⟩:=I.loc
  refine⟨m,ns m hn,λi x v F T e3=>?_⟩;obtain⟨u,r,l⟩:=hl i x v F T e3;refine⟨u,r,?_⟩;rcases l with l|⟨k,c,e,z⟩
  .exact .inl l
  .exact .inr ⟨k,c,e,y x c e _ z⟩
 .obtain⟨v,z⟩:=I.cell x c e
  exact⟨v,y x c e v z⟩
 .obtain⟨m,⟨o,_,_,O,_⟩,_⟩:=I.loc
  exact free _ o (λz=>(B _ z).2.1 rfl) O I.free
 .obtain⟨v,o,O,U⟩:=I.cell x c e
  exact free c o (λz=>(B c z).2.2.1 x c e rfl) O (I.freeC x c e)
 .obtain⟨e,n,ne,nf,d⟩:=I.pin p hp
  have j:p.1∉ch:=λz=>(B p.1 z).2.2.2 p hp rfl;exact⟨keep p.1 p.2 ne nf j e n,free p.1 p.2 j e n,ne,nf,d⟩
theorem Inv.un{t':Nat}(I:Inv X Z0 Z H s)(u:Un X.fs [] H H' s.heap h')(v:HOk X.prog X.w H' h'):Inv X Z0 Z H' { s with heap:=h',toks:=t' }:=by
 obtain⟨m,⟨o,es,L,y,r⟩,_⟩:=id I.loc;obtain⟨O,B⟩:=u.any y I.free (by simp)
 exact I.step (g':=s.gens) (d':=s.drawn) (ch:=[]) (λ_ z=>nomatch z) (λb o _ j _ e n=>u.keep b o e n j (by simp)) (λb o _ j _ e n=>u.slot b o e n j (by simp)) (λb o _ e n=>u.free b o e n (by simp)) (λb o _ e=>u.there b o e (by simp)) u.tups u.frzs u.tbls (λJ G=>by
  obtain⟨R,q,l,g,F⟩:=G;rw[y]at g;cases g;exact⟨_,q,l,B,F⟩) v I.bare
theorem Inv.call{g':Array GenState}{t':Nat}{d':Drawn}(I:Inv X Z0 Z H s)(u:Un (h8 X.stack) ch H H' s.heap h')(B:HOk X.prog X.w H' h')(O:T_ g')(l:∀b∈ch,(b∈X.ex\/X.s₀.heap.objs.size<=b)/\b≠X.env.locals/\(∀x c,X.env.cells.lookup x=ap c->c≠b)/\∀p∈X.pn++Z0,p.1≠b):
  Inv X Z0 Z H' { s with heap:=h',gens:=g',drawn:=d',toks:=t' }:=by
 obtain⟨m,⟨o,es,S,F,r⟩,_⟩:=id I.loc;obtain⟨T,q⟩:=u.any F I.free λz=>(l _ z).2.1 rfl;exact I.step (ch:=ch) l (λb o q G g e n=>u.keep b o e n (λz=>(SQ.mp<|I.stkSub b z).elim q G) g) (λb o _ _ g e n=>u.any e n g) (λb o g e n=>u.free b o e n g) (λb o g e=>u.there b o e g) u.tups u.frzs u.tbls (λR J=>by
  obtain⟨U,y,v,j,L⟩:=J;rw[F]at j;cases j;exact⟨_,y,v,q,L⟩) B O
theorem Inv.turned{t':Nat}{g:cb}(I:Inv X Z0 Z H s)(k:∀b o,b≠g->s.heap.get? b=ap o->h'.get? b=ap o)(L:H g=bb)(y:g≠X.env.locals)(O:g∈X.ex\/X.s₀.heap.objs.size<=g)(R:∀x c,X.env.cells.lookup x=ap c->c≠g)(S:∀p∈X.pn++Z0,p.1≠g):Inv X Z0 Z H { s with heap:=h',toks:=t' }:=by
 have l:∀b u,H b=ap u->b≠g:=λb u e z=>by rw[z,L]at e;cases e
 refine I.step (g':=s.gens) (d':=s.drawn) (ch:=[g]) (λb B=>?_) (λb o _ _ j e _=>k b o (λz=>j (by simp[z])) e) (λb o _ _ j e _=>⟨o.slots,k b o (λz=>j (by simp[z])) e⟩) (λ_ _ _ _ n=>n)
  (λb o j e=>⟨o,k b o (λz=>j (by simp[z])) e⟩) (λ_ _ e=>e) (λ_ _ _ e=>e) (λb ps e=>⟨#[],by rw[e];simp⟩) (λm J=>?_) (λb u e=>?_) I.bare
 .have e:b=g:=by simpa using B
  subst e;exact⟨O,y,R,S⟩
 .obtain⟨o,es,G,F,r⟩:=J
  exact⟨o,es,G,k _ o (Tu y) F,r⟩
 .refine (I.hok b u e).stay (λc v j q=>k c v ?_ q) (λ_ q=>q) λ_ _ q=>q
  rcases j with z|z
  .rw[z];exact l b u e
  .exact l c _ z
theorem Inv.tok(I:Inv X Z0 Z H s)(t:Nat):Inv X Z0 Z H { s with toks:=t }:=I.un Un.refl I.hok
theorem Inv.kept{t':Nat}(I:Inv X Z0 Z H s)(k:∀b u,s.heap.get? b=ap u->h'.get? b=ap u):Inv X Z0 Z H { s with heap:=h',toks:=t' }:=I.un (Un.kept k) (I.hok.kept k)
theorem Inv.laid{t':Nat}(I:Inv X Z0 Z H s)(k:∀b u,s.heap.get? b=ap u->h'.get? b=ap u)(g:s.heap.objs.size<=a)(new:ObjOk X.prog X.w (upd H a o) h' a o):
  Inv X Z0 Z (upd H a o) { s with heap:=h',toks:=t' }:=I.un (Un.laid k g<|I.hok.fresh g) (I.hok.laid k g new)
theorem Inv.write{x e:cb}{t':Nat}(I:Inv X Z0 Z H s)(l:QN (H x))(j:e=x\/H e=ap (.own x))(k:∀b u,b≠e->s.heap.get? b=ap u->h'.get? b=ap u)(g:∃u,h'.get? e=ap u)(new:ObjOk X.prog X.w (upd H x o) h' x o):Inv X Z0 Z (upd H x o) { s with heap:=h',toks:=t' }:=I.un (Un.write l j k g) (I.hok.write l j k g new)
theorem Inv.pins_of{g:aae}(I:Inv X Z0 Z H s)(h:∀p∈g,s.heap.get? p.1=ap p.2/\H p.1=bb/\p.1≠X.env.locals/\p.1∉X.fs/\∀v,p.2.data≠.cell v):Inv X g Z H s:=
 ⟨I.ok,I.os,I.bare,I.base,I.loc,I.cell,I.free,I.freeC,λp j=>(Tv.mp j).elim (λz=>I.pin p (Vu _ z)) (h p),I.hok,I.len⟩
theorem vp(n:N.Nodup){j:Nat}(a:N[i]?=ap x)(b:N[j]?=ap x):i=j:=by
 obtain⟨v,g⟩:=TQ.mp a;obtain⟨q,l⟩:=TQ.mp b;exact(List.getElem_inj n).mp (g.trans l.symm)
theorem pR{v:V}{Q:Unit->ca->Prop}(I:Inv X Z0 Z H s)(hN:X.N.Nodup)(hi:X.N[i]?=ap x)(F:Dh X.env.scope x)(r:RelV v u)(h:∀s',Inv X Z0 (Z.set i<|some v) H s'->(∃a,Uh a s.heap s'.heap/\(a=X.env.locals\/X.env.cells.lookup x=ap a))->Q () s')(hf:X.fn x=true\/X.env.scope.names.lookup x=ap .local:=by and_intros):cT M A (storeName X.env x u) Q E s:=by
 obtain⟨m,hn,hl⟩:=id I.loc;have U:(X.env.scope.kind==.class||(X.env.scope.kind==.module&&X.env.locals != X.env.globals))=false:=by rw[I.ok.kind];rfl
 have L:i<Z.length:=by rw[I.len];exact(TQ.mp hi).1
 have cne:=I.cne;have l:∀{a:cb}{h':fy},(∃o,s.heap.get? a=ap o/\H a=bb)->Uh a s.heap h'->HOk X.prog X.w H h':=λ{a h'} ha g b ob e=>by
  obtain⟨_,_,G⟩:=ha;refine (I.hok b ob e).stay (λc w' hc q=>(g.2 c ?_).trans q) (λ_ q=>q) λ_ _ q=>q
  rintro rfl
  rcases hc with rfl|hc
  .rw[G]at e;cases e
  .rw[G]at hc;cases hc
 rcases F with hk|hk
 .refine wpAny_storeName_local hk hn (λh' hn' g=>?_) U
  obtain⟨oL,_,_,hoL,_⟩:=id hn;refine h _ ⟨I.ok,I.os,I.bare,⟨λb o e n S F=>?_,λb o e n S F=>?_,I.base.free,λb o e F=>?_,I.base.tups,I.base.frzs,I.base.tbls⟩,⟨_,hn',λj y v' B J e3=>?_⟩,λy c e=>?_,I.free,I.freeC,λp hp=>?_,l ⟨oL,hoL,I.free⟩ g,by simpa using I.len⟩ ⟨_,g,.inl rfl⟩
  .exact(g.2 b<|SY<|Tc (SI e) I.ok.above).trans (I.base.keep b o e n S F)
  .obtain⟨sl,B⟩:=I.base.slot b o e n S F
   exact⟨sl,(g.2 b<|SY<|Tc (SI e) I.ok.above).trans B⟩
  .obtain⟨o',B⟩:=I.base.there b o e F
   exact⟨o',(g.2 b<|SY<|Tc (SI e) I.ok.above).trans B⟩
  .by_cases O:j=i
   .subst O
    rw[hi]at B;cases B;rw[XI L]at J;cases J;exact⟨u,r,.inl ⟨hk,by simp⟩⟩
   .rw[X1 (Tu O)]at J
    obtain⟨u',r',q⟩:=hl j y v' B J e3;refine⟨u',r',?_⟩;rcases q with⟨k,e⟩|⟨k,c,e,z⟩
    .refine .inl ⟨k,?_⟩
     have:y≠x:=λe=>O (vp hN B (e▸hi));simp[this,e]
    .exact .inr ⟨k,c,e,z.sameBut g<|cne y c e⟩
  .obtain⟨w',z⟩:=I.cell y c e
   exact⟨w',z.sameBut g<|cne y c e⟩
  .obtain⟨e,n,ne,nf,d⟩:=I.pin p hp
   exact⟨(g.2 p.1 ne).trans e,n,ne,nf,d⟩
 .have R:X.fn x=true:=by
   rcases hf with z|z
   .exact z
   .rw[z]at hk;cases hk
  obtain⟨c,hc⟩:=I.ok.has x (.inl hk);obtain⟨w',z⟩:=I.cell x c hc;refine wpAny_storeName_cell I.ok.kind hk hc z (λh' hc' g=>?_);obtain⟨oc,T,Y⟩:=id z;refine h { s with heap:=h' } ⟨I.ok,I.os,I.bare,⟨λb o e n S F=>?_,λb o e n S F=>?_,I.base.free,λb o e F=>?_,I.base.tups,I.base.frzs,I.base.tbls⟩,⟨m,hn.sameBut g (Tu<|cne x c hc),λj y v' B J e3=>?_⟩,λy c' e=>?_,I.free,I.freeC,λp hp=>?_,l ⟨oc,T,I.freeC x c hc⟩ g,by simpa using I.len⟩ ⟨c,g,.inr hc⟩
  .exact(g.2 b<|SY<|Tc (SI e)<|I.ok.cab x c R hc).trans (I.base.keep b o e n S F)
  .obtain⟨sl,B⟩:=I.base.slot b o e n S F
   exact⟨sl,(g.2 b<|SY<|Tc (SI e)<|I.ok.cab x c R hc).trans B⟩
  .obtain⟨o',B⟩:=I.base.there b o e F
   exact⟨o',(g.2 b<|SY<|Tc (SI e)<|I.ok.cab x c R hc).trans B⟩
  .by_cases O:j=i
   .subst O
    rw[hi]at B;cases B;rw[XI L]at J;cases J;exact⟨u,r,.inr ⟨.inl hk,c,hc,hc'⟩⟩
   .rw[X1 (Tu O)]at J
    obtain⟨u',r',q⟩:=hl j y v' B J e3;refine⟨u',r',?_⟩;rcases q with q|⟨k,c',e,z'⟩
    .exact .inl q
    .refine .inr ⟨k,c',e,z'.sameBut g ?_⟩
     rintro rfl
     exact O (vp hN B (I.ok.inj _ _ _ e hc▸hi))
  .by_cases W:c'=c
   .subst W;exact⟨_,hc'⟩
   .obtain⟨w2,z2⟩:=I.cell y c' e
    exact⟨w2,z2.sameBut g W⟩
  .obtain⟨e,n,ne,nf,d⟩:=I.pin p hp
   refine⟨(g.2 p.1 ?_).trans e,n,ne,nf,d⟩;intro q;rw[q,T]at e;have q':oc=p.2:=T5 e;exact d w' (by rw[<- q'];exact Y)
theorem nW{v:V}{Q:Unit->ca->Prop}(I:Inv X Z0 Z H s)(n:X.N.Nodup)(j:X.N[i]?=ap x)(l:Dh X.env.scope x)(r:RelV v u)(h:∀g,Inv X Z0 (Z.set i<|some v) H g->Q () g)(q:X.fn x=true\/X.env.scope.names.lookup x=ap .local:=by and_intros):cT M A (storeName X.env x u) Q E s:=
 pR I n j l r (λg I' _=>h g I') q
theorem Inv.call'{g:ca}(I:Inv X Z0 Z H s)(q:g.os=s.os)(u:Un (h8 X.stack) ch H H' s.heap g.heap)(l:HOk X.prog X.w H' g.heap)(v:T_ g.gens)(j:∀b∈ch,(b∈X.ex\/X.s₀.heap.objs.size<=b)/\b≠X.env.locals/\(∀x c,X.env.cells.lookup x=ap c->c≠b)/\∀p∈X.pn++Z0,p.1≠b):Inv X Z0 Z H' g:=by
 obtain⟨h',g',d',t',n⟩:=g;have e:n=s.os:=q;subst e;exact I.call (g':=g') (t':=t') (d':=d') u l v j
end
abbrev XK:=ay->Option cb->Hp->Prop
abbrev St:=List (Option V)
abbrev VK:=V->Hp->Prop
abbrev TE:=St->Hp->VK->Prop
abbrev TT:=St->Hp->(Bool->Hp->Prop)->Prop
abbrev TA:=St->Hp->(List V->Hp->Prop)->Prop
structure Ends where
 nx:St->Hp->Prop
 rt:VK
 bk:St->Hp->Prop:=λ_ _=>False
 ct:St->Hp->Prop:=λ_ _=>False
abbrev TS:=Ends->St->Hp->Prop
inductive EP(X:Cx)(Z0:aae)(Z:St)(Q:VK)(u:ay)(s':ca):Prop
 |mk (v:V) (H':Hp) (h0:Inv X Z0 Z H' s') (h1:RelV v u) (h2:Q v H'):EP X Z0 Z Q u s'
inductive TP(X:Cx)(Z0:aae)(Z:St)(Q:Bool->Hp->Prop)(b:Bool)(s':ca):Prop
 |mk (H':Hp) (h0:Inv X Z0 Z H' s') (h1:Q b H'):TP X Z0 Z Q b s'
inductive AP(X:Cx)(Z0:aae)(Z:St)(Q:List V->Hp->Prop)(us:Z')(s':ca):Prop
 |mk (vs:List V) (H':Hp) (h0:Inv X Z0 Z H' s') (h1:Vals vs us) (h2:Q vs H'):AP X Z0 Z Q us s'
def SP(X:Cx)(Z0:aae)(D:Ends)(f:Flow)(s':ca):Prop:=
 match f with
 |.next=>∃σ' H',Inv X Z0 σ' H' s'/\D.nx σ' H'
 |.brk=>∃σ' H',Inv X Z0 σ' H' s'/\D.bk σ' H'
 |.cont=>∃σ' H',Inv X Z0 σ' H' s'/\D.ct σ' H'
 |.ret u=>∃v σ' H',Inv X Z0 σ' H' s'/\RelV v u/\D.rt v H'
def PE(X:Cx)(e:fv)(t:TE):Prop:=
 ∀(Z0:aae)(s:ca)(Z:St)(H:Hp)(Q:VK),Inv X Z0 Z H s->t Z H Q->cT (eC X.prog X.w) X.A (fx e X.env) (EP X Z0 Z Q) X.xe s
def PT(X:Cx)(e:fv)(t:TT):Prop:=
 ∀(Z0:aae)(s:ca)(Z:St)(H:Hp)(Q:Bool->Hp->Prop),Inv X Z0 Z H s->t Z H Q->cT (eC X.prog X.w) X.A (ZL e X.env<|eval e X.env) (TP X Z0 Z Q) X.xe s
def PW(X:Cx)(e:fv)(t:TT):Prop:=
 ∀(whole:Sem ay)(Z0:aae)(s:ca)(Z:St)(H:Hp)(Q:Bool->Hp->Prop),Inv X Z0 Z H s->t Z H Q->cT (eC X.prog X.w) X.A (ZL e X.env whole) (TP X Z0 Z Q) X.xe s
theorem SB{t:TT}(h:PW X e t):PT X e t:=h _
def PA(X:Cx)(es:aab)(t:TA):Prop:=
 ∀(pos:Pos)(Z0:aae)(s:ca)(Z:St)(H:Hp)(Q:List V->Hp->Prop),Inv X Z0 Z H s->t Z H Q->cT (eC X.prog X.w) X.A (spliced<|backTo pos<|starEach es X.env) (AP X Z0 Z Q) X.xe s
def PS(X:Cx)(st:q0)(t:TS):Prop:=
 ∀(Z0:aae)(s:ca)(Z:St)(H:Hp)(D:Ends),Inv X Z0 Z H s->t D Z H->cT (eC X.prog X.w) X.A (exec st X.env) (SP X Z0 D) X.xe s
def zr(X:Cx)(st:aac)(t:TS):Prop:=
 ∀(Z0:aae)(s:ca)(Z:St)(H:Hp)(D:Ends),Inv X Z0 Z H s->t D Z H->cT (eC X.prog X.w) X.A (execs st X.env) (SP X Z0 D) X.xe s
theorem bu{α:Type}{t:Sem α}{Q Q':α->ca->Prop}(h:cT M A t Q E s)(g:∀a s,Q a s->Q' a s):cT M A t Q' E s:=kB h g λ_ _ x=>x
section
def tVar(i:Nat):TE:=λZ H Q=>∃v,Z[i]?=ap (ap v)/\Q v H
def tC(v:V):TE:=λ_ H Q=>Q v H
theorem MJ(z:X.N[i]?=ap x)(y:PR X.env.scope x)(g:(x==("__debug__":Str))=false:=by decide)(hcd:(x==("__classdict__":Str))=false:=by decide):PE X (.Name x pos) (tVar i):=by
 rintro Z0 s Z H Q I ⟨v,e,h⟩
 obtain⟨m,j,n⟩:=I.loc;obtain⟨u,r,l⟩:=n i x v z e y;have fin:EP X _ Z Q u s:=⟨v,H,I,r,h⟩;rcases l with⟨hk,q⟩|⟨hk,c,hc,hcell⟩
 .exact wpAny_Name (ZQ I.ok.kind hk j q fin) g
 rcases hk with hk|hk
 .exact wpAny_Name (wpAny_loadName_cell I.ok.kind hk hc hcell fin) g
 exact wpAny_Name (wpAny_loadName_free I.ok.kind hk hc hcell fin hcd) g
theorem ML{i j pos}:PE X (.Constant (.int i) j pos) (tC<|.int i):=λ_ _ _ H _ I h=>wpAny_Constant_int ⟨.int i,H,I.tok _,⟨_,rfl⟩,h⟩
theorem Qe{b j pos}:PE X (.Constant (.bool b) j pos) (tC<|.bl b):=λ_ _ _ H _ I h=>Constant_bool ⟨.bl b,H,I,rfl,h⟩
theorem O_{j pos}:PE X (.Constant .none j pos) (tC .non):=λ_ _ _ H _ I h=>Constant_none ⟨.non,H,I,rfl,h⟩
theorem Fz{x j pos}:PE X (.Constant (.str x) j pos) (tC<|.str x):=λ_ _ _ H _ I h=>Calls.Constant_str ⟨.str x,H,I.tok _,⟨_,rfl⟩,h⟩
def Gl(X:Cx)(x:Str):Prop:=X.env.kindOf x=ap .globalImplicit
theorem iq(I:Inv X Z0 Z H s)(g:Gl X x)(j:X.mg x=ap u)(h:Q u s)(l:(x==("__debug__":Str))=false:=by decide):cT (eC X.prog X.w) X.A (fx (.Name x pos) X.env) Q E s:=
 Xa I.ok.kind g (Calls.loadGlobal_global (by rw[I.ok.glob];exact I.mod.glob.keeps I.bk) j h) l
theorem cG(I:Inv X Z0 Z H s)(v:Gl X x)(q:X.mg x=bb)(l:eT x=ap u)(h:Q u s)(n:x≠"__name__":=by decide)(hd:(x==("__debug__":Str))=false:=by decide):cT (eC X.prog X.w) X.A (fx (.Name x pos) X.env) Q E s:=by
 obtain⟨y,j,g⟩:=I.mod.blt;exact Xa I.ok.kind v (Calls.loadGlobal_builtin (by rw[I.ok.glob];exact I.mod.glob.keeps I.bk) q (by rw[I.ok.blt];exact j.keeps I.bk) ((g x n).trans l) h) hd
theorem Jy{v:V}(n:Gl X x)(l:X.mg x=bb)(g:eT x=ap u)(r:RelV v u)(j:x≠"__name__":=by decide)(hd:(x==("__debug__":Str))=false:=by decide):PE X (.Name x pos) (tC v):=
 λ_ _ _ H _ I h=>cG I n l g ⟨v,H,I,r,h⟩ j hd
variable{a b:fv}
variable{tA tB':TT}{rest:aab}
def tAnd(t u:TT):TT:=λZ H Q=>t Z H λc H1=>if c=true then u Z H1 Q else Q cp H1
def tOr(t u:TT):TT:=λZ H Q=>t Z H λc H1=>if c=true then Q true H1 else u Z H1 Q
def tNot(t:TT):TT:=λZ H Q=>t Z H λc H1=>Q (!c) H1
theorem IW(g:PT X a tA):PW X (.BoolOp .And [a] pos) tA:=by
 intro l Z0 s Z H Q I h;refine isTrue_and (bu (g _ s Z H Q I h) λc j e=>?_);cases c with
 |true=>exact isTrue_and_nil e
 |false=>exact e
theorem N9(g:PT X a tA):PW X (.BoolOp .Or [a] pos) tA:=by
 intro l Z0 s Z H Q I h;refine isTrue_or (bu (g _ s Z H Q I h) λc j e=>?_);cases c with
 |false=>exact isTrue_or_nil e
 |true=>exact e
theorem Pv(q:PT X a tA)(v:PW X (.BoolOp .And (b::rest) pos) tB'):PW X (.BoolOp .And (a::b::rest) pos) (tAnd tA tB'):=by
 intro n Z0 s Z H Q I h;refine isTrue_and (bu (q _ s Z H _ I h) λc l j=>?_);obtain⟨H1,I1,g⟩:=j;cases c with
 |true=>exact v n _ l Z H1 Q I1 g
 |false=>exact⟨H1,I1,g⟩
theorem Qz(q:PT X a tA)(v:PW X (.BoolOp .Or (b::rest) pos) tB'):PW X (.BoolOp .Or (a::b::rest) pos) (tOr tA tB'):=by
 intro n Z0 s Z H Q I h;refine isTrue_or (bu (q _ s Z H _ I h) λc l j=>?_);obtain⟨H1,I1,g⟩:=j;cases c with
 |true=>exact⟨H1,I1,g⟩
 |false=>exact v n _ l Z H1 Q I1 g
theorem Po(g:PT X a tA):PT X (.UnaryOp .Not a pos) (tNot tA):=by
 intro Z0 s Z H Q I h;exact isTrue_not (kB (g _ s Z H _ I h) (λc j z=>by cases z with|mk a b d=>exact⟨a,b,d⟩) λ_ _ e=>e)
def Qt(ta tb:TE):TE:=λZ H Q=>ta Z H λx H1=>∃c,x=.bl c/\if c=true then tb Z H1 Q else Q (.bl cp) H1
def Rn(ta:TE):TE:=λZ H Q=>ta Z H λx H1=>∃c,x=.bl c/\Q (.bl<|!c) H1
theorem Pq{op}{t:TE}(h:PE X a t):PE X (.BoolOp op [a] pos) t:=λZ0 s Z H Q I g=>BoolOp_one (h _ s Z H Q I g)
theorem NT(q:PE X a ta)(y:PE X (.BoolOp .And (b::rest) pos) tb):PE X (.BoolOp .And (a::b::rest) pos) (Qt ta tb):=by
 intro Z0 s Z H Q I h;refine BoolOp_and (bu (q _ s Z H _ I h) λv n j=>?_);obtain⟨x,H1,I1,l,g⟩:=j;obtain⟨c,rfl,g⟩:=g;cases l;refine y' ?_;cases c with
 |true=>exact y _ n Z H1 Q I1 g
 |false=>exact⟨.bl _,H1,I1,rfl,g⟩
theorem OT(n:PE X a ta):PE X (.UnaryOp .Not a pos) (Rn ta):=by
 intro Z0 s Z H Q I h;refine UnaryOp_ (bu (n _ s Z H _ I h) λv q j=>?_);obtain⟨x,H1,I1,l,g⟩:=j;obtain⟨c,rfl,g⟩:=g;cases l;exact not_of (y' ⟨.bl !c,H1,I1,rfl,g⟩)
def tIf(t:TT)(ta tb:TE):TE:=λZ H Q=>t Z H λc H1=>if c=true then ta Z H1 Q else tb Z H1 Q
theorem Gv(q:PT X c tA)(n:PE X a ta)(v:PE X b tb):PE X (.IfExp c a b pos) (tIf tA ta tb):=by
 intro Z0 s Z H Q I h;refine wpAny_IfExp (bu (q _ s Z H _ I h) λd g l=>?_);obtain⟨H1,I1,j⟩:=l;cases d with
 |true=>exact n _ g Z H1 Q I1 j
 |false=>exact v _ g Z H1 Q I1 j
end
def SqL(K:SM)(H:Hp)(a:cb)(xs:List V):Prop:=
 Rd H a (.lst xs)\/
  ∃(o:Obj)(Z6:aag)(n:Nat),K.lookup a=ap o/\o.cls=.type "list"/\o.dict=bb/\o.data=.seq Z6 n/\Z6.size<=sizeLine/\Vals xs Z6.toList
def jH(K:SM)(H:Hp)(a:cb)(xs:List V):Prop:=
 Rd H a (.tup xs)\/
  ∃(o:Obj)(Z6:aag)(n:Nat),K.lookup a=ap o/\o.cls=.type "tuple"/\o.data=.seq Z6 n/\Z6.size<=sizeLine/\Vals xs Z6.toList
noncomputable def absV:ay->Option V
 |.none=>ap .non
 |.bool b=>ap (.bl b)
 |.int i _=>ap (.int i)
 |.str x _=>ap (.str x)
 |.bytes b _=>ap (.byt b)
 |.float b _=>ap (.flt b)
 |.ref a=>ap (.ref a)
 |.type n=>ap (.ty n)
 |_=>bb
theorem RelV.abs{x:V}(r:RelV x u):absV u=ap x:=by
 cases x with
 |non=>cases r;rfl
 |bl _=>cases r;rfl
 |int _=>obtain⟨t,rfl⟩:=r;rfl
 |str _=>obtain⟨t,rfl⟩:=r;rfl
 |byt _=>obtain⟨t,rfl⟩:=r;rfl
 |flt _=>obtain⟨t,rfl⟩:=r;rfl
 |ref _=>cases r;rfl
 |ty _=>cases r;rfl
theorem RelV.inj{x y:V}(r:RelV x u)(q:RelV y u):x=y:=T5 (r.abs.symm.trans q.abs)
theorem Vals.inj:∀{xs ys:List V}{us:Z'},Vals xs us->Vals ys us->xs=ys:=by
 intro xs ys us h
 induction h generalizing ys with
 |nil=>intro h';cases h';rfl
 |cons r _ ih=>intro h';cases h' with|cons r' t'=>rw[r.inj r',ih t']
section
variable{xs ys:List V}
theorem SqL.of(h:H a=ap (.lst xs)):SqL K H a xs:=.inl (.inl h)
theorem Inv.list(I:Inv X Z0 Z H s)(h:SqL X.K H a xs):∃Z6:List ay,Vals xs Z6/\PlainL s.heap a Z6.toArray/\xs.length<=sizeLine:=by
 rcases h with h|⟨o,Z6,n,hk,hc,hd,hs,hz,r⟩
 .obtain⟨z,Z6,n,r,e⟩:=h.ok I.hok
  exact⟨_,r,⟨_,n,e,rfl,rfl,rfl⟩,z⟩
 refine⟨_,r,⟨o,n,I.kIn a o hk,hc,hd,by simpa using hs⟩,?_⟩
 have e:=r.length;simp only[Ux]at e;lia
theorem Inv.tuple(I:Inv X Z0 Z H s)(h:jH X.K H a xs):∃Z6:List ay,Vals xs Z6/\ZF s.heap a Z6.toArray/\xs.length<=sizeLine:=by
 rcases h with h|⟨o,Z6,n,hk,hc,hs,hz,r⟩
 .obtain⟨z,Z6,r,g,e,c,_⟩:=h.ok I.hok
  exact⟨_,r,⟨g,e,c⟩,z⟩
 refine⟨_,r,⟨o,I.kIn a o hk,hc,n,by simpa using hs⟩,?_⟩
 have e:=r.length;simp only[Ux]at e;lia
theorem Inv.list_inj(I:Inv X Z0 Z H s)(h:SqL X.K H a xs)(h':SqL X.K H a ys):xs=ys:=by
 obtain⟨j,r,⟨o,n,e,_,_,d⟩,_⟩:=I.list h;obtain⟨g,v,⟨y,z,q,_,_,l⟩,_⟩:=I.list h';rw[e]at q;cases q;rw[d]at l
 injection l with d1 _
 have:j=g:=by simpa using congrArg VF d1
 subst this;exact r.inj v
theorem Inv.tuple_inj(I:Inv X Z0 Z H s)(h:jH X.K H a xs)(h':jH X.K H a ys):xs=ys:=by
 obtain⟨j,r,⟨o,e,_,n,d⟩,_⟩:=I.tuple h;obtain⟨g,v,⟨y,q,_,z,l⟩,_⟩:=I.tuple h';rw[e]at q;cases q;rw[d]at l
 injection l with d1 _
 have:j=g:=by simpa using congrArg VF d1
 subst this;exact r.inj v
end
abbrev Cx.wish(X:Cx)(E:aad):Cx:={ X with xe:=E }
abbrev Cx.nox(X:Cx):Cx:=X.wish λ_ _=>False
theorem Cx.Ok.wish(ok:X.Ok)(E:aad):(X.wish E).Ok:=
 ⟨ok.mod,ok.kind,ok.glob,ok.blt,ok.above,ok.inj,ok.has,ok.cab,ok.hd,ok.frames,ok.stk,ok.exf,ok.bs,ok.bsz,ok.noex,ok.exfs,ok.funs,ok.frf⟩
theorem Cx.Ok.unwish(ok:(X.wish E).Ok):X.Ok:=
 ⟨ok.mod,ok.kind,ok.glob,ok.blt,ok.above,ok.inj,ok.has,ok.cab,ok.hd,ok.frames,ok.stk,ok.exf,ok.bs,ok.bsz,ok.noex,ok.exfs,ok.funs,ok.frf⟩
section
theorem Inv.wish(I:Inv X Z0 Z H s)(E:aad):Inv (X.wish E) Z0 Z H s:=⟨I.ok.wish E,I.os,I.bare,I.base,I.loc,I.cell,I.free,I.freeC,I.pin,I.hok,I.len⟩
theorem Inv.unwish(I:Inv (X.wish E) Z0 Z H s):Inv X Z0 Z H s:=⟨I.ok.unwish,I.os,I.bare,I.base,I.loc,I.cell,I.free,I.freeC,I.pin,I.hok,I.len⟩
end
section
variable{st:q0}{rest:aac}{t u:TS}
def RX:TS:=λD Z H=>D.nx Z H
def tSeq(t u:TS):TS:=λD Z H=>t { D with nx:=u D } Z H
theorem Kr:zr X [] RX:=λ_ _ Z H _ I h=>G' ⟨Z,H,I,h⟩
theorem Ft(n:PS X st t)(l:zr X rest u):zr X (st::rest) (tSeq t u):=by
 intro Z0 s Z H D I h;refine Zg (bu (n _ s Z H _ I h) λf j q=>?_);cases f with
 |next=>
  obtain⟨g,H',I',q⟩:=q;exact l _ j _ H' D I' q
 |ret v=>exact q
 |brk=>exact q
 |cont=>exact q
theorem Je(g:PS X st t):zr X [st] t:=by
 intro Z0 s Z H D I h;refine Zg (bu (g _ s Z H D I h) λf j q=>?_);cases f with
 |next=>exact G' q
 |ret v=>exact q
 |brk=>exact q
 |cont=>exact q
theorem Inv.quiet(I:Inv X Z0 Z H s):interactive X.env=false:=by simp[interactive,I.ok.kind]
def QO(te:TE):TS:=λD Z H=>te Z H λ_ H1=>D.nx Z H1
theorem HW(j:PE X e te)(l:re e bb pos.line X.env=pure false:=by rfl):PS X (.Expr e pos) (QO te):=by
 intro Z0 s Z H D I h;exact wpAny_Expr_any (bu (j _ s Z H _ I h)<|by rintro v q ⟨x,H1,I1,n,g⟩;exact⟨Z,H1,I1,g⟩) I.quiet l
def tRet(te:TE):TS:=λD Z H=>te Z H D.rt
theorem Mn(l:PE X e te):PS X (.Return (ap e) pos) (tRet te):=by
 intro Z0 s Z H D I h;exact wpAny_Return_some (bu (l _ s Z H _ I h)<|by rintro v n ⟨x,H1,I1,g,j⟩;exact⟨x,Z,H1,I1,g,j⟩)
def tIfS(c:TT)(t u:TS):TS:=λD Z H=>c Z H λb H1=>if b=true then t D Z H1 else u D Z H1
theorem Qp{a b:aac}{l:TT}(v:PT X c l)(q:zr X a t)(y:zr X b u):PS X (.If c a b pos) (tIfS l t u):=by
 intro Z0 s Z H D I h;refine wpAny_If (bu (v _ s Z H _ I h) λd g n=>?_);obtain⟨H1,I1,j⟩:=n;cases d with
 |true=>exact q _ g Z H1 D I1 j
 |false=>exact y _ g Z H1 D I1 j
end
abbrev TG:=V->St->Hp->(St->Hp->Prop)->Prop
abbrev L8:=List V->St->Hp->(St->Hp->Prop)->Prop
def PG(X:Cx)(target:fv)(t:TG):Prop:=
 ∀(Z0:aae)(s:ca)(Z:St)(H:Hp)(v:V)(u:ay)(Q:St->Hp->Prop),Inv X Z0 Z H s->RelV v u->t v Z H Q->
  cT (eC X.prog X.w) X.A (Zj target X.env u) (λ_ g=>∃σ' H',Inv X Z0 σ' H' g/\Q σ' H') X.xe s
def Of(X:Cx)(ts:aab)(t:L8):Prop:=
 ∀(Z0:aae)(s:ca)(Z:St)(H:Hp)(vs:List V)(us:Z')(Q:St->Hp->Prop),Inv X Z0 Z H s->Vals vs us->t vs Z H Q->
  cT (eC X.prog X.w) X.A (assignInOrder ((oD ts X.env).map (·.2)) us) (λ_ g=>∃σ' H',Inv X Z0 σ' H' g/\Q σ' H') X.xe s
abbrev MG:=V->V->V->Hp->(Hp->Prop)->Prop
def OM(X:Cx)(t:MG):Prop:=
 ∀(Z0:aae)(s:ca)(Z:St)(H:Hp)(o i v:V)(ov iv u:ay)(Q:Hp->Prop),Inv X Z0 Z H s->RelV o ov->RelV i iv->RelV v u->t o i v H Q->
  cT (eC X.prog X.w) X.A (setItem ov iv u) (λ_ g=>∃H',Inv X Z0 Z H' g/\Q H') X.xe s
abbrev TIp:=V->V->Hp->VK->Prop
def MR(X:Cx)(op:WP)(t:TIp):Prop:=
 ∀(Z0:aae)(s:ca)(Z:St)(H:Hp)(x y:V)(v u:ay)(Q:VK),Inv X Z0 Z H s->RelV x v->RelV y u->t x y H Q->
  cT (eC X.prog X.w) X.A (inplaceOp op v u) (EP X Z0 Z Q) X.xe s
section
def L9(i:Nat):TG:=λv Z H Q=>Q (Z.set i<|some v) H
theorem Ic(j:X.N.Nodup)(l:X.N[i]?=ap x)(g:Dh X.env.scope x)(n:X.fn x=true\/X.env.scope.names.lookup x=ap .local:=by and_intros):PG X (.Name x pos) (L9 i):=by
 intro Z0 s Z H v u Q I r h;exact wpAny_assign_Name (nW I j l g r (λq I'=>⟨_,H,I',h⟩) n)
def gNil:L8:=λg Z H Q=>g=[]/\Q Z H
def QG(t:TG)(u:L8):L8:=λj Z H Q=>∃v r,j=v::r/\t v Z H λg H'=>u r g H' Q
theorem IY:Of X [] gNil:=by
 rintro Z0 s Z H g us Q I r ⟨e,h⟩
 exact assignInOrder_nil ⟨Z,H,I,h⟩
theorem DC{t:TG}{u:L8}(q:PG X e t)(n:Of X es u)(y:(oD (e::es) X.env).map (·.2)=Zj e X.env::(oD es X.env).map (·.2):=by rfl):Of X (e::es) (QG t u):=by
 rintro Z0 s Z H z us Q I r ⟨v,B,g,h⟩
 subst g;cases r with
 |cons r rr=>
  rw[y];exact assignInOrder_cons (bu (q _ s Z H _ _ _ I r h)<|by rintro _ j ⟨_,H1,I1,l⟩;exact(n _ j _ H1 _ _ Q I1 rr l))
def gTup(K:SM)(n:Nat)(t:L8):TG:=λv Z H Q=>∃a xs,v=.ref a/\jH K H a xs/\xs.length=n/\t xs Z H Q
theorem NS{k:Nat}{t:L8}{n:Nat}(hc:X.calm=true)(h:Of X es t)(hn:(oD es X.env).length=n:=by rfl)(hst:(oD es X.env).findIdx? (·.1)=none:=by rfl):PG X (.Tuple es k pos) (gTup X.K n t):=by
 rintro Z0 s Z H v u Q I r ⟨a,xs,e1,hq,hl,hw⟩
 subst e1;cases r;obtain⟨Z6,rv,ht,hz⟩:=I.tuple hq;refine assign_Tuple_tuple (I.ok.hd hc) ht (by simp[hn,<- hl,rv.length]) hst λh' hx=>?_
 have I1:Inv X _ Z H _:=I.kept (t':=s.toks) λb o e=>hx b o (SY<|SI e) e;exact h _ _ Z H xs _ Q I1 (by trivial) hw
def gSub(to ti:TE)(t:MG):TG:=λv Z H Q=>to Z H λo H1=>ti Z H1 λi H2=>t o i v H2 λH3=>Q Z H3
theorem On{o i:fv}{to g:TE}{t:MG}(O:PE X o to)(J:PE X i g)(R:OM X t)(L:∀v,Zj (.Subscript o i pos) X.env v=(do
   let ov <- rc [v] (fx o X.env)
   let iv <- rc [v,ov] (fx i X.env)
   TD pos
   rc [v,ov,iv] (setItem ov iv v)
   release [v,ov,iv] []):=by intro _;rfl):PG X (.Subscript o i pos) (gSub to g t):=by
 intro Z0 s Z H v u Q I r h;rw[L];refine ax (kr (bu (O _ s Z H _ I h) λov G j=>?_));obtain⟨x,H1,I1,l,n⟩:=j;exact ax (kr<|bu (J _ G Z H1 _ I1 n)<|by rintro iv B ⟨y,H2,I2,F,q⟩;exact(ax<|wpAny_standAt<|wpAny_bind<|wpAny_holding<|bu (R Z0 B Z H2 x y v ov iv u _ I2 l F r q)<|by rintro _ S ⟨H3,I3,z⟩;exact(wpAny_release ⟨Z,H3,I3,z⟩)))
def S3(te:TE)(g:TG):TS:=λD Z H=>te Z H λx H1=>g x Z H1 D.nx
theorem PB{g:TG}(B:PE X e te)(z:PG X tg g)(F:swapsWithSole [tg] e pos.line X.env=pure false:=by rfl)(hw:swappedStores [tg] e X.env=pure none:=by rfl)(h1:(oD [tg] X.env).map (·.2)=[Zj tg X.env]:=by rfl):PS X (.Assign [tg] e pos) (S3 te g):=by
 intro Z0 s Z H D I h;refine wpAny_Assign_stores (bu (B _ s Z H _ I h) λv n j=>?_) F hw;obtain⟨x,H1,I1,l,y⟩:=j;rw[h1];exact bu (z _ n Z H1 x v _ I1 l y) λ_ G q=>q
theorem Ms(B:X.N.Nodup)(l:X.N[i]?=ap x)(n:Dh X.env.scope x)(q:PE X e te)(z:re e (ap<|.Name x pos') pos.line X.env=pure false:=by rfl)(hf:X.fn x=true\/X.env.scope.names.lookup x=ap .local:=by and_intros):
  PS X (.Assign [.Name x pos'] e pos) (S3 te<|L9 i):=by
 intro Z0 s Z H D I h;refine wpAny_Assign_Name (bu (q Z0 s Z H _ I h) λv G ⟨y,H1,I1,g,j⟩=>?_) z;exact nW I1 B l n g (λF I2=>⟨_,H1,I2,j⟩) hf
def tAug(i:Nat)(te:TE)(ti:TIp):TS:=λD Z H=>∃x,Z[i]?=ap (ap x)/\te Z H λy H1=>ti x y H1 λz H2=>D.nx (Z.set i<|some z) H2
theorem P3{F:TIp}(hN:X.N.Nodup)(B:X.N[i]?=ap x)(q:Dh X.env.scope x)(he:PE X e te)(Y:MR X op F)(hf:X.fn x=true\/X.env.scope.names.lookup x=ap .local:=by and_intros):
  PS X (.AugAssign (.Name x pos') op e pos) (tAug i te F):=by
 rintro Z0 s Z H D I ⟨v,O,h⟩
 obtain⟨m,U,L⟩:=I.loc;have n:PR X.env.scope x:=by rcases q with k|k;exact .inl k;exact .inr (.inl k)
 obtain⟨u,r,l⟩:=L i x v B O n;refine wpAny_AugAssign_Name ?_;have go:cT (eC X.prog X.w) X.A (fx e X.env) (λw g=>cT (eC X.prog X.w) X.A (inplaceOp op u w) (λr j=>cT (eC X.prog X.w) X.A (storeName X.env x r) (λ_=>SP X Z0 D .next) X.xe j) X.xe g) X.xe s:=by
  exact bu (he _ s Z H _ I h) (by rintro w T ⟨y,H1,I1,G,J⟩;exact bu (Y Z0 T Z H1 v y u w _ I1 r G J) (by rintro z s2 ⟨zv,H2,I2,S,R⟩;exact nW I2 hN B q S (λs3 I3=>⟨_,H2,I3,R⟩) hf))
 rcases l with⟨hk,W⟩|⟨hk,c,hc,hcell⟩
 .exact ZQ I.ok.kind hk U W go
 rcases hk with hk|hk
 .exact wpAny_loadName_cell I.ok.kind hk hc hcell go
 rcases q with k|k
 .have:X.env.scope.names.lookup x=ap .free:=hk
  rw[k]at this;cases this
 .have:X.env.scope.names.lookup x=ap .free:=hk
  rw[k]at this;cases this
def ipI(f:Int->Int->Int):TIp:=λx y H Q=>∃i j,x=.int i/\y=.int j/\Q (.int<|f i j) H
theorem Nw:MR X .Add (ipI λi j=>i+j):=by
 rintro Z0 s Z H x y v u Q I g z ⟨i,j,n,l,q⟩
 subst n l;obtain⟨t,rfl⟩:=g;obtain⟨t',rfl⟩:=z;exact iadd_int ⟨.int _,H,I.tok _,⟨_,rfl⟩,q⟩
end
section
def Ph(c:TT)(tb:TS):TS:=λD Z H=>∃W:Nat->St->Hp->Prop,(∃m,W m Z H)/\∀m Z H,W m Z H->
 c Z H λb H1=>if b=true then ∃N:St->Hp->Prop,(∀σ' H',N σ' H'->∃m',m'<m/\W m' σ' H')/\tb { D with nx:=N,ct:=N,bk:=D.nx } Z H1 else D.nx Z H1
theorem FR{J:TT}{tb:TS}(G:ZE (eC X.prog X.w) X.A X.env X.xe)(hc:PT X c J)(hb:zr X body tb):PS X (.While c body [] pos) (Ph J tb):=by
 rintro Z0 s Z H D I ⟨W,⟨T,L⟩,turn⟩
 refine wpAny_While (codeAny_whileLoop (λn O=>∃σ' H',Inv X _ σ' H' O/\W n σ' H') ?_ T ⟨Z,H,I,L⟩)
 rintro n R ⟨Y,H1,I1,w1⟩
 refine vw G (bu (hc _ R _ H1 _ I1<|turn n _ H1 w1) λb U S=>?_);obtain⟨H2,I2,g⟩:=S;cases b with
 |true=>
  obtain⟨N,F,g⟩:=g;refine vw G (bu (hb _ U _ H2 _ I2 g) λf s3 j=>?_);cases f with
  |next=>
   obtain⟨B,H3,I3,l⟩:=j;obtain⟨q,y,z⟩:=F _ H3 l;exact⟨q,y,_,H3,I3,z⟩
  |cont=>
   obtain⟨B,H3,I3,l⟩:=j;obtain⟨q,y,z⟩:=F _ H3 l;exact⟨q,y,_,H3,I3,z⟩
  |brk=>exact j
  |ret v=>exact j
 |false=>
  exact G' ⟨_,H2,I2,g⟩
end
structure It where
 go:Nat->Hp->Prop
 yld:Nat->Hp->V->Hp->Prop
 stop:Nat->Hp->Prop
def j7(X:Cx)(Z0:aae)(H:Hp)(b:cb):Prop:=
 H b=bb/\b≠X.env.locals/\b∉X.fs/\(b∈X.ex\/X.s₀.heap.objs.size<=b)/\(∀x c,X.env.cells.lookup x=ap c->c≠b)/\∀p∈X.pn++Z0,p.1≠b
theorem Inv.fpOk(I:Inv X Z0 Z H s)(g:s.heap.objs.size<=b)(l:H' b=bb):j7 X Z0 H' b:=by
 refine⟨l,Vj (Tc I.lt g),I.nofs g,.inr (SX I.sz g),λx c e z=>?_,λp j z=>?_⟩
 .obtain⟨v,q⟩:=I.cell x c e
  exact absurd (Tc q.lt<|by simp_all) (TN _)
 exact absurd (Tc (SI (I.pin p j).1)<|by rw[z];exact g) (TN _)
structure Turn(P:eX)(w:f')(K:SM)(tg:fv)(J:It)(fp:aaa)(it:cb)(tn:Nat->fy->Prop):Prop where
 mem:it∈fp
 obj:∀i h,tn i h->∀b∈fp,∃o,h.get? b=ap o/\∀v,o.data≠.cell v
 keep:∀i h h',tn i h->(∀b∈fp,∀o,h.get? b=ap o->h'.get? b=ap o)->tn i h'
 item:∀(X:Cx),X.prog=P->X.w=w->X.K=K->X.calm=true->∀(i:Nat)(Z0:aae)(s:ca)(Z:St)(H:Hp)(E:aad),Inv X Z0 Z H s->(∀b∈fp,j7 X Z0 H b)->tn i s.heap->J.go i H->
  cT (eC P w) X.A (z6<|.ref it) (λr s1=>∃u,r=ap u/\
   cT (eC P w) X.A (U' tg (.ref it) u) (λ_ s2=>∃x H',Inv X Z0 Z H' s2/\RelV x u/\J.yld i H x H'/\tn (i+1) s2.heap/\∀b∈fp,H' b=bb) E s1) E s
 done:∀(X:Cx),X.prog=P->X.w=w->X.K=K->X.calm=true->∀(i:Nat)(Z0:aae)(s:ca)(Z:St)(H:Hp)(E:aad),Inv X Z0 Z H s->(∀b∈fp,j7 X Z0 H b)->tn i s.heap->J.stop i H->
  cT (eC P w) X.A (z6<|.ref it) (λr s1=>r=bb/\Inv X Z0 Z H s1) E s
 self:∀(A:g3)(i:Nat)(s:ca)(Q:aad)(E:aad),tn i s.heap->Q (.ref it) s->cT (eC P w) A (UF<|.ref it) Q E s
abbrev TI:=St->Hp->(It->Hp->Prop)->Prop
def PIE(X:Cx)(Z0:aae)(Z:St)(tg:fv)(R:It->Hp->Prop)(itv:ay)(s2:ca):Prop:=
 ∃(it:cb)(fp:aaa)(tn:Nat->fy->Prop)(J:It)(H':Hp),itv=.ref it/\Inv X Z0 Z H' s2/\Turn X.prog X.w X.K tg J fp it tn/\tn 0 s2.heap/\(∀b∈fp,j7 X Z0 H' b)/\R J H'
def PI(X:Cx)(tg iter:fv)(wi:TI):Prop:=
 ∀(Z0:aae)(s:ca)(Z:St)(H:Hp)(R:It->Hp->Prop),Inv X Z0 Z H s->wi Z H R->
  cT (eC X.prog X.w) X.A (fx iter X.env) (λv g=>cT (eC X.prog X.w) X.A (UF v) (PIE X Z0 Z tg R) X.xe g) X.xe s
theorem tP{j:cb}{o:Obj}{n:String}{vs:aag}{Q:Unit->ca->Prop}(q:s.heap.get? j=ap o)(v:o.cls=.type n)(y:o.data=.fields vs)(l:["enumerate","zip","dict_itemiterator","dict_reverseitemiterator","odict_iterator","itertools.zip_longest","itertools.pairwise"].contains n=cp)(g:Q () s):cT M A (U' tg (.ref j) u) Q E s:=by
 unfold U'
 cases tg<;>first
  |exact cx g
  |(cases u<;>first
    |exact cx g
    |(refine ax (wpAny_load q ?_)
      rw[v,y];show cT M A (if (["enumerate","zip","dict_itemiterator","dict_reverseitemiterator","odict_iterator","itertools.zip_longest","itertools.pairwise"].contains n&&vs[0]?==ap (x9 _))=true then _ else _) Q E s
      rw[if_neg (by intro h;rw[l,Bool.false_and]at h;cases h)]
      exact cx g))
noncomputable def Itl(K:SM)(a:cb):It:=
 ⟨λi H=>∃xs x,SqL K H a xs/\xs[i]?=ap x,λi H x H'=>H'=H/\∀xs,SqL K H a xs->xs[i]?=ap x,λi H=>∃xs,SqL K H a xs/\xs.length<=i⟩
noncomputable def Itt(K:SM)(a:cb):It:=
 ⟨λi H=>∃xs x,jH K H a xs/\xs[i]?=ap x,λi H x H'=>H'=H/\∀xs,jH K H a xs->xs[i]?=ap x,λi H=>∃xs,jH K H a xs/\xs.length<=i⟩
noncomputable def Itr(lo:Int)(n:Nat):It:=⟨λi _=>i<n,λi H x H'=>H'=H/\x=.int (lo+i),λi _=>n<=i⟩
theorem CT(a l:cb):Turn P w K tg (Itl K a) [l] l (λi h=>h.IsListIter l a i) where
 mem:=by simp
 obj:=λi h g b j=>by
  obtain⟨o,e,c,d⟩:=g
  simp_all
 keep:=λi h h' g k=>g.at λo e=>k l (by simp) o e
 item:=by
  intro X L F G W i Z0 s Z H E I v g R;subst L F G;obtain⟨xs,x,q,y⟩:=R;obtain⟨J,z,p,hz⟩:=I.list q;obtain⟨u,hu,ru⟩:=z.get y;obtain⟨U,O,f2,B,T,S⟩:=v l (by simp)
  refine ZG g p.isList (x:=u) (by simp_all) λh' n sb=>?_
  have I1:Inv X _ Z H _:=I.turned (t':=s.toks) (λb o j e=>(sb.2 b j).trans e) U O B T S;obtain⟨o,e,c,d⟩:=id n;exact⟨u,rfl,tP e c d (by decide) ⟨x,H,I1,ru,⟨rfl,λys Y=>by rw[I.list_inj Y q];exact y⟩,n,λb j=>(v b j).1⟩⟩
 done:=by
  intro X L F G W i Z0 s Z H E I v g R;subst L F G;obtain⟨xs,q,y⟩:=R;obtain⟨J,z,p,hz⟩:=I.list q;obtain⟨U,O,f2,B,T,S⟩:=v l (by simp)
  have hl:=z.length;exact ZO (I.ok.hd W) g p.isList (by simp;lia) λh' eb=>⟨rfl,I.turned (λb o j e=>eb b o j e) U O B T S⟩
 self:=λ_ _ _ _ _ g h=>wpAny_pyIter_listiter g h
theorem wW(a l:cb):Turn P w K tg (Itt K a) [l] l (λi h=>h.IsTupleIter l a i) where
 mem:=by simp
 obj:=λi h g b j=>by
  obtain⟨o,e,c,d⟩:=g
  simp_all
 keep:=λi h h' g k=>g.at λo e=>k l (by simp) o e
 item:=by
  intro X L F G W i Z0 s Z H E I v g R;subst L F G;obtain⟨xs,x,q,y⟩:=R;obtain⟨J,z,p,hz⟩:=I.tuple q;obtain⟨u,hu,ru⟩:=z.get y;obtain⟨U,O,f2,B,T,S⟩:=v l (by simp)
  refine wpAny_pyNext_tuple_item g p (x:=u) (by simp_all) λh' n sb=>?_
  have I1:Inv X _ Z H _:=I.turned (t':=s.toks) (λb o j e=>(sb.2 b j).trans e) U O B T S;obtain⟨o,e,c,d⟩:=id n;exact⟨u,rfl,tP e c d (by decide) ⟨x,H,I1,ru,⟨rfl,λys Y=>by rw[I.tuple_inj Y q];exact y⟩,n,λb j=>(v b j).1⟩⟩
 done:=by
  intro X L F G W i Z0 s Z H E I v g R;subst L F G;obtain⟨xs,q,y⟩:=R;obtain⟨J,z,p,hz⟩:=I.tuple q;obtain⟨U,O,f2,B,T,S⟩:=v l (by simp)
  have hl:=z.length;exact wpAny_pyNext_tuple_end (I.ok.hd W) g p (by simp;lia) λh' eb=>⟨rfl,I.turned (λb o j e=>eb b o j e) U O B T S⟩
 self:=λ_ _ _ _ _ g h=>wpAny_pyIter_tupleiter g h
theorem wJ(j:cb)(R:Int)(n:Nat):Turn P w K tg (Itr R n) [j] j (λi h=>IsRangeIter h j (R+(i:Nat)*1) ((n:Int)-(i:Nat)) 1) where
 mem:=by simp
 obj:=λi h g b l=>by
  simp_all
 keep:=λi h h' g k=>k j (by simp) _ g
 item:=by
  intro X U S T z i Z0 s Z H E I y g J;subst U S T;obtain⟨O,F,W,B,L,G⟩:=y j (by simp)
  refine (Walks.range (I.ok.hd z) j R 1 n).item i s _ _ J g λv h' Y hv q kk=>?_;obtain⟨t,rfl⟩:=hv;have I1:Inv X _ Z H { s with heap:=h',toks:=Y }:=I.turned (λb o l e=>kk b o (by simpa using l) e) O F B L G
  refine⟨_,rfl,tP q rfl rfl (by decide) ⟨.int _,H,I1,⟨t,?_⟩,⟨rfl,rfl⟩,q,λb l=>(y b l).1⟩⟩
  rw[Int.mul_one]
 done:=by
  intro X U S T z i Z0 s Z H E I y g J;obtain⟨O,F,W,B,L,G⟩:=y j (by simp)
  exact wpAny_pyNext_range_end (I.ok.hd z) g (by have:n<=i:=J;lia) λh' eb=>⟨rfl,I.turned (λb o l e=>eb b o l e) O F B L G⟩
 self:=λ_ _ _ _ _ g h=>wpAny_pyIter_rangeiter g h
section
theorem FV{R:It->Hp->Prop}{g j:Int}{t u v:Tok}{l:Nat}(I:Inv X Z0 Z H s)(B:-(2 ^ 62)<=g)(F:g<2 ^ 62)(G:-(2 ^ 62)<=j)(J:j<2 ^ 62)(q:R (Itr g (j-g).toNat) H):cT (eC X.prog X.w) X.A (UF<|.ref s.heap.objs.size) (PIE X Z0 Z tg R) E { s with heap:=s.heap.push { cls:=.type "range",data:=.fields #[.int g t,.int j u,.int 1 v] },toks:=l }:=by
 refine wpAny_pyIter_range (IsRange.new ..) (small_one B F G J) ?_;have I1:Inv X Z0 Z H { s with heap:=s.heap.push { cls:=.type "range",data:=.fields #[.int g t,.int j u,.int 1 v] },toks:=l }:=I.kept λb o e=>SF _ e;refine⟨(s.heap.push { cls:=.type "range",data:=.fields #[.int g t,.int j u,.int 1 v] }).objs.size,[(s.heap.push { cls:=.type "range",data:=.fields #[.int g t,.int j u,.int 1 v] }).objs.size],_,_,H,rfl,
  I1.kept (t':=l) λb o e=>SF _ e,wJ _ g (j-g).toNat,?_,λb y=>?_,q⟩
 .have n:g+((0:Nat):Int)*1=g:=by simp
  have z:(((j-g).toNat:Nat):Int)-((0:Nat):Int)=Builtin.Range.rangeSize g j 1:=by rw[rangeSize_one];split<;>lia
  show IsRangeIter _ _ (g+((0:Nat):Int)*1) ((((j-g).toNat:Nat):Int)-((0:Nat):Int)) 1;rw[n,z];exact SK _ rfl
 .have e:b=(s.heap.push { cls:=.type "range",data:=.fields #[.int g t,.int j u,.int 1 v] }).objs.size:=by simpa using y
  subst e;exact I1.fpOk (SO _) (I1.hok.fresh<|SO _)
def Sv(ta:TA):TI:=λZ H R=>ta Z H λg H1=>∃j:Int,g=[.int j]/\-(2 ^ 62)<=j/\j<2 ^ 62/\R (Itr 0 j.toNat) H1
theorem CQ{a:fv}{ta:TA}(z:Gl X "range")(B:X.mg "range"=bb)(y:PA X [a] ta)(F:ee [a] X.env=[(cp,fx a X.env)]:=by rfl):PI X tg (.Call (.Name "range" p) [a] [] pos) (Sv ta):=by
 intro Z0 s Z H R I h;refine Call_ (cG I z B boot_range<|TM (bu (y _ _ s Z H _ I h) λus J l=>?_) F rfl);obtain⟨G,H1,I1,n,g⟩:=l;obtain⟨j,e,g,v,q⟩:=g;subst e;cases n with
 |cons r rr=>
  cases rr;obtain⟨t,rfl⟩:=r;exact call_range_1 (FV I1 (by lia) (by lia) g v<|by simpa using q)
def tFor(wi:TI)(g:TG)(tb:TS):TS:=λD Z H=>wi Z H λJ H1=>∃W:Nat->Nat->St->Hp->Prop,(∃m,W 0 m Z H1)/\∀i m Z H,W i m Z H->
 (J.stop i H/\D.nx Z H)\/(J.go i H/\∃N:St->Hp->Prop,(∀σ' H',N σ' H'->∃m',m'<m/\W (i+1) m' σ' H')/\∀x H',J.yld i H x H'->g x Z H' λj H2=>tb { D with nx:=N,ct:=N,bk:=D.nx } j H2)
noncomputable def nE(fp:aaa)(h:fy):List (cb×Obj):=fp.filterMap λb=>(h.get? b).map λo=>(b,o)
theorem fE{o:Obj}(g:b∈fp)(e:h.get? b=ap o):(b,o)∈nE fp h:=Yh.mpr ⟨b,g,by rw[e];rfl⟩
theorem Cn{p:cb×Obj}(j:p∈nE fp h):p.1∈fp/\h.get? p.1=ap p.2:=by
 obtain⟨b,l,e⟩:=Yh.mp j;cases q:h.get? b with
 |none=>simp_all
 |some o=>
  rw[q]at e;have g:=T5 e;subst g;trivial
theorem Inv.pinned(I:Inv X Z0 Z H s)(n:∀b∈fp,j7 X Z0 H b)(l:∀b∈fp,∃o,s.heap.get? b=ap o/\∀v,o.data≠.cell v):Inv X (Z0++nE fp s.heap) Z H s:=
 I.pins_of λp j=>(Tv.mp j).elim (λz=>I.pin p (TV _ z)) λz=>by
  obtain⟨g,e⟩:=Cn z;obtain⟨q,B,y,_⟩:=n _ g;obtain⟨o,F,d⟩:=l _ g
  simp_all
theorem Inv.unpinned{pl:aae}(I:Inv X (Z0++pl) Z H s):Inv X Z0 Z H s:=I.pins_of λp g=>I.pin p (TV _<|Vu _ g)
theorem Mz{y:fv}{wi:TI}{g:TG}{tb:TS}(U:ZE (eC X.prog X.w) X.A X.env X.xe)(hc:X.calm=true)(hi:PI X tg y wi)(hg:PG X tg g)(q:zr X body tb)(hs:∀x,py y X.env x=pure x:=by intro _;rfl):PS X (.For tg y body [] pos) (tFor wi g tb):=by
 intro Z0 s Z H D I h;refine wpAny_For (bu (hi _ s Z H _ I h) λv s1 h1=>bu h1 λitv s2 h2=>?_) hs;obtain⟨it,fp,tn,J,H2,e,I2,T,st2,f2,W,⟨m0,w0⟩,G⟩:=h2;subst e
 -- what stays true of the iterator's objects through the loop
 have l:∀{H':Hp},(∀b∈fp,H' b=bb)->∀b∈fp,j7 X _ H' b:=λhn b q=>⟨hn b q,(f2 b q).2⟩;refine codeAny_forLoop_any (λn s'=>∃i σ' H',Inv X _ σ' H' s'/\tn i s'.heap/\(∀b∈fp,H' b=bb)/\W i n σ' H') ?_ m0 ⟨0,Z,H2,I2,st2,λb q=>(f2 b q).1,w0⟩
 rintro n s3 ⟨i,σ3,H3,I3,O,S,w3⟩
 rcases G i n _ H3 w3 with⟨R,qn⟩|⟨go,N,hN,step⟩
 .refine vw U (bu (T.done X rfl rfl rfl hc i _ s3 _ H3 _ I3 (l S) O R) λr s4 F=>?_)
  obtain⟨hr,I4⟩:=F;subst hr;exact G' ⟨_,H3,I4,qn⟩
 refine vw U (bu (T.item X rfl rfl rfl hc i _ s3 _ H3 _ I3 (l S) O go) λr s4 F=>?_);obtain⟨u,hr,h4⟩:=F;subst hr;refine vw U (bu h4 λ_ s5 F=>?_);obtain⟨x,H5,I5,r5,y5,B,Y⟩:=F;refine vw U (bu (hg _ s5 σ3 H5 x u _ (I5.pinned (l Y)<|T.obj _ _ B) r5<|step x H5 y5) λ_ s6 F=>?_);obtain⟨σ6,H6,I6,q6⟩:=F;refine vw U (bu (q _ s6 σ6 H6 _ I6 q6) λf s7 z=>?_);have again:∀{j:St}{H7:Hp},Inv X (Z0++nE fp s5.heap) j H7 s7->N j H7->∃m,m<n/\∃i σ' H',Inv X Z0 σ' H' s7/\tn i s7.heap/\(∀b∈fp,H' b=bb)/\W i m σ' H':=λ{j H7} I7 L=>by
  obtain⟨m',hm,w7⟩:=hN j H7 L;refine⟨m',hm,i+1,j,H7,I7.unpinned,T.keep _ _ _ B λb q o e=>(I7.pin (b,o)<|TV _<|TV _<|fE q e).1,λb q=>?_,w7⟩;obtain⟨o,e,d⟩:=T.obj _ _ B b q;exact(I7.pin (b,o)<|TV _<|TV _<|fE q e).2.1
 cases f with
 |next=>obtain⟨j,H7,I7,L⟩:=z;exact again I7 L
 |cont=>obtain⟨j,H7,I7,L⟩:=z;exact again I7 L
 |brk=>obtain⟨j,H7,I7,z⟩:=z;exact⟨j,H7,I7.unpinned,z⟩
 |ret v=>obtain⟨x7,j,H7,I7,r7,z⟩:=z;exact⟨x7,j,H7,I7.unpinned,r7,z⟩
end
abbrev R2:=V->V->Hp->VK->Prop
def cD(X:Cx)(f:ay->ay->Sem ay)(r:R2):Prop:=
 ∀(Z0:aae)(s:ca)(Z:St)(H:Hp)(x y:V)(v u:ay)(Q:VK),Inv X Z0 Z H s->RelV x v->RelV y u->r x y H Q->
  cT (eC X.prog X.w) X.A (f v u) (EP X Z0 Z Q) X.xe s
def bp(X:Cx)(f:ay)(r:List V->Hp->VK->Prop):Prop:=
 ∀(Z0:aae)(s:ca)(Z:St)(H:Hp)(xs:List V)(us:Z')(Q:VK),Inv X Z0 Z H s->Vals xs us->r xs H Q->
  cT (eC X.prog X.w) X.A (call f us) (EP X Z0 Z Q) X.xe s
def TruR(X:Cx)(r:V->Hp->(Bool->Hp->Prop)->Prop):Prop:=
 ∀(Z0:aae)(s:ca)(Z:St)(H:Hp)(x:V)(v:ay)(Q:Bool->Hp->Prop),Inv X Z0 Z H s->RelV x v->r x H Q->
  cT (eC X.prog X.w) X.A (truthy v) (TP X Z0 Z Q) X.xe s
def QM(r:R2)(ta tb:TE):TE:=λZ H Q=>ta Z H λx H1=>tb Z H1 λy H2=>r x y H2 Q
def rI(C:Int->Int->Prop)(g:Int->Int->V):R2:=λx y H Q=>∃i j,x=.int i/\y=.int j/\C i j/\Q (g i j) H
def De(g:Int->Int->V):R2:=λx y H Q=>∃i j,x=.int i/\y=.int j/\Q (g i j) H
section
variable{a b:fv}{tc:TE}
theorem Pu(B:PE X a ta)(G:PE X b tb){R:V->V->Hp->Prop}(I:Inv X Z0 Z H s)(h:ta Z H λx H1=>tb Z H1 λy H2=>R x y H2){f:ay->ay->Sem ay}(F:∀v u g x y H2,Inv X Z0 Z H2 g->RelV x v->RelV y u->R x y H2->cT (eC X.prog X.w) X.A (f v u) Q X.xe g):
  cT (eC X.prog X.w) X.A (fx a X.env) (λv s₁=>cT (eC X.prog X.w) X.A (fx b X.env) (λu s₂=>cT (eC X.prog X.w) X.A (f v u) Q X.xe s₂) X.xe s₁) X.xe s:=by
 exact bu (B _ s Z H _ I h) λv n ⟨x,H1,I1,j,q⟩=>bu (G Z0 n Z H1 _ I1 q) λu g ⟨y,H2,I2,l,z⟩=>F v u g x y H2 I2 j l z
theorem Sq(z:cD X (j0 op) r)(n:PE X a ta)(B:PE X b tb):PE X (.BinOp a op b pos) (QM r ta tb):=by
 intro Z0 s Z H Q I h;exact wpAny_BinOp (Pu n B I h λv u g x y H2 I2 j l q=>z _ g Z H2 x y v u Q I2 j l q)
theorem PM{f:ay->ay->Sem ay}{C:Int->Int->Prop}{g:Int->Int->Int}(l:∀(i j:Int)(t u:Tok)(s:ca)(Q:aad)(E:aad),C i j->Q (.int (g i j) s.toks) { s with toks:=s.toks+1 }->cT (eC X.prog X.w) X.A (f (.int i t)<|.int j u) Q E s):
  cD X f (rI C λi j=>.int (g i j)):=by
 rintro Z0 s Z H x y v u Q I z n ⟨i,j,rfl,rfl,B,q⟩
 obtain⟨t,rfl⟩:=z;obtain⟨t',rfl⟩:=n;exact l i j t t' s _ _ B ⟨.int _,H,I.tok _,⟨_,rfl⟩,q⟩
theorem Eh{f:ay->ay->Sem ay}{g:Int->Int->Int}(l:∀(i j:Int)(t u:Tok)(s:ca)(Q:aad)(E:aad),Q (.int (g i j) s.toks) { s with toks:=s.toks+1 }->cT (eC X.prog X.w) X.A (f (.int i t)<|.int j u) Q E s):
  cD X f (De λi j=>.int (g i j)):=by
 rintro Z0 s Z H x y v u Q I z n ⟨i,j,rfl,rfl,q⟩
 obtain⟨t,rfl⟩:=z;obtain⟨t',rfl⟩:=n;exact l i j t t' s _ _ ⟨.int _,H,I.tok _,⟨_,rfl⟩,q⟩
theorem HV{f:ay->ay->Sem ay}{g:Int->Int->Bool}(l:∀(i j:Int)(t u:Tok)(s:ca)(Q:aad)(E:aad),Q (.bool<|g i j) s->cT (eC X.prog X.w) X.A (f (.int i t)<|.int j u) Q E s):
  cD X f (De λi j=>.bl (g i j)):=by
 rintro Z0 s Z H x y v u Q I z n ⟨i,j,rfl,rfl,q⟩
 obtain⟨t,rfl⟩:=z;obtain⟨t',rfl⟩:=n;exact l i j t t' s _ _ ⟨.bl _,H,I,rfl,q⟩
def HG(i j:Int):Prop:=0<=j/\j<=1000000/\i.natAbs<2 ^ 64
def CMul(i j:Int):Prop:=(-(2 ^ 64)<i/\i<2 ^ 64)\/(-(2 ^ 64)<j/\j<2 ^ 64)
theorem CMul.ok{i j:Int}(h:CMul i j):IntMulOk i j:=by
 rcases h with⟨l,g⟩|⟨l,g⟩
 .exact .of_left (intBits_le_64 l g)
 exact .of_right (intBits_le_64 l g)
theorem Ol(k:Nat):(0:Int)<=2 ^ k:=by
 lia
theorem PH:cD X (j0 .Add) (De λi j=>.int (i+j)):=Eh λ_ _ _ _ _ _ _ q=>add_int q
theorem OU:cD X (j0 .Sub) (De λi j=>.int (i-j)):=Eh λ_ _ _ _ _ _ _ q=>sub_int q
theorem Pe:cD X (j0 .Mult) (rI CMul λi j=>.int (i*j)):=PM λ_ _ _ _ _ _ _ g q=>mul_int q g.ok
theorem Ov:cD X (j0 .Mod) (rI (λ_ j=>0<j) λi j=>.int (i % j)):=PM λi j _ _ _ _ _ g q=>by
 have l:(0:Int)<j:=g;exact mod_int' (by lia) (by rw[Int.fmod_eq_emod_of_nonneg i (by lia)];exact q)
theorem NG:cD X (j0 .Pow) (rI HG λi j=>.int (i ^ j.toNat)):=PM λ_ _ _ _ _ _ _ g q=>pow_int_small g.1 g.2.1 g.2.2 q
theorem Nu:cD X (j0 .LShift) (rI HG λi j=>.int (i*2 ^ j.toNat)):=PM λ_ _ _ _ _ _ _ g q=>lshift_int_small g.1 g.2.1 g.2.2 q
theorem O4:cD X (j0 .RShift) (rI (λ_ j=>0<=j) λi j=>.int (i / 2 ^ j.toNat)):=PM λi j _ _ _ _ _ g q=>
 rshift_int g (by grind)
theorem OX:cD X (j0 .BitAnd) (De λi j=>.int (VC i j)):=Eh λ_ _ _ _ _ _ _ q=>and_int q
theorem QU:cD X (j0 .BitOr) (De λi j=>.int (Wn i j)):=Eh λ_ _ _ _ _ _ _ q=>or_int q
theorem OL:cD X (j0 .BitXor) (De λi j=>.int (Builtin.bitXor i j)):=Eh λ_ _ _ _ _ _ _ q=>xor_int q
end
section
variable{a b:fv}{tc:TE}
theorem Hb{Q:VK}{k g:Bool}(I:Inv X Z0 Z H s)(q:Q (.bl k) H)(e:k=g):EP X Z0 Z Q (.bool g) s:=by
 subst e;exact⟨.bl k,H,I,rfl,q⟩
theorem S8:cD X (kc .Lt) (De λi j=>.bl (decide (i<j))):=HV λ_ _ _ _ _ _ _ q=>lt_int q
theorem RS:cD X (kc .LtE) (De λi j=>.bl (decide (i<=j))):=HV λ_ _ _ _ _ _ _ q=>le_int q
theorem Si:cD X (kc .Gt) (De λi j=>.bl (decide (j<i))):=HV λ_ _ _ _ _ _ _ q=>gt_int q
theorem QK:cD X (kc .GtE) (De λi j=>.bl (decide (j<=i))):=HV λ_ _ _ _ _ _ _ q=>ge_int q
theorem Oq:cD X (kc .Is) (λx y H Q=>y=.non/\Q (.bl<|decide (x=.non)) H):=by
 intro Z0 s Z H x y v u Q I g j h;obtain⟨rfl,q⟩:=h;cases j;refine is_none_gen (Hb I q ?_)
 cases x<;>first
  |(cases g;rfl)
  |(obtain⟨t,rfl⟩:=g;rfl)
theorem HF:cD X (kc .IsNot) (λx y H Q=>y=.non/\Q (.bl<|!decide (x=.non)) H):=by
 rintro Z0 s Z H x y v u Q I g j ⟨rfl,q⟩
 cases j;refine isnot_none_gen (Hb I q ?_)
 cases x<;>first
  |(rfl)
  |(obtain⟨t,rfl⟩:=g;rfl)
theorem Jj{op:CmpOp}(z:cD X (kc op) r)(n:PE X a ta)(B:PE X b tb)(F:X_ op b=cp):PE X (.Compare a [op] [b] pos) (QM r ta tb):=by
 intro Z0 s Z H Q I h;exact wpAny_Compare1 (Pu n B I h λv u g x y H2 I2 j l q=>z Z0 g Z H2 x y v u Q I2 j l q) F
def Rg(t:TE):TT:=λZ H Q=>t Z H λx H'=>∃k,x=.bl k/\Q k H'
theorem Kh{op:CmpOp}(O:cD X (kc op) r)(L:PE X a ta)(R:PE X b tb)(S:X_ op b=cp):PT X (.Compare a [op] [b] pos) (Rg<|QM r ta tb):=by
 intro Z0 s Z H Q I h;refine wpAny_isTrue_Compare1 (bu (L _ s Z H _ I h) λv J ⟨x,H1,I1,j,n⟩=>bu (R _ J Z H1 _ I1 n) λu F ⟨y,H2,I2,G,q⟩=>
  bu (O _ F Z H2 x y v u _ I2 j G q) λc T g=>?_) S
 obtain⟨z,H3,I3,l,k,e,B⟩:=g;subst e;cases l;exact y' ⟨H3,I3,B⟩
def Ps(K:SM)(x:V)(H:Hp)(k:Bool):Prop:=
 match x with
 |.non=>k=cp
 |.bl b=>k=b
 |.int i=>k=(i != 0)
 |.str y=>y.length<=sizeLine/\k=((y.length:Int) != 0)
 |.byt y=>y.size<=sizeLine/\k=((y.size:Int) != 0)
 |.ref p=>(∃xs,SqL K H p xs/\k=!xs.isEmpty)\/(∃xs,jH K H p xs/\k=!xs.isEmpty)\/∃Z2,H p=ap (.dK Z2)/\k=!Z2.isEmpty
 |_=>False
theorem w8{g:Type}{Z2:List (g×V)}{vs:List (g×ay)}(r:KV Z2 vs):(!vs.isEmpty)=!Z2.isEmpty:=by
 cases r<;>rfl
theorem nP{xs:List V}{Z6:Z'}(r:Vals xs Z6):(!Z6.toArray.isEmpty)=!xs.isEmpty:=by
 cases r<;>simp
theorem hV:(sizeLine:Nat)<2 ^ 63:=by trivial
theorem MX:TruR X (λx H Q=>∃k,Ps X.K x H k/\Q k H):=by
 rintro Z0 s Z H x v Q I l ⟨k,e,q⟩
 have O:=hV;have R:sizeLine=16777216:=z4;cases x with
 |non=>
  cases l;have g:k=false:=e;subst g;exact truthy_none ⟨H,I,q⟩
 |bl b=>
  cases l;have g:k=b:=e;subst g;exact y' ⟨H,I,q⟩
 |int i=>
  obtain⟨t,rfl⟩:=l;have g:k=(i != 0):=e;subst g;exact PySem.P.truthy_int ⟨H,I,q⟩
 |str y=>
  obtain⟨t,rfl⟩:=l;obtain⟨J,g⟩:y.length<=sizeLine/\k=((y.length:Int) != 0):=e;subst g;exact PySem.P.truthy_str (by lia) ⟨H,I.tok _,q⟩
 |byt y=>
  obtain⟨t,rfl⟩:=l;obtain⟨J,g⟩:y.size<=sizeLine/\k=((y.size:Int) != 0):=e;subst g;exact W.truthy_bytes (by lia) ⟨H,I.tok _,q⟩
 |ref p=>
  cases l;have g:=e;rcases g with⟨L,n,g⟩|⟨L,n,g⟩|⟨Z2,n,g⟩
  .subst g
   obtain⟨B,r,pl,F⟩:=I.list n;have j:=r.length;exact wpAny_truthy_list pl.isList (by simp;lia) ⟨H,I.tok _,by rw[nP r];exact q⟩
  .subst g
   obtain⟨B,r,pl,F⟩:=I.tuple n;have j:=r.length;exact truthy_tuple pl (by simp;lia) ⟨H,I.tok _,by rw[nP r];exact q⟩
  subst g;obtain⟨F,G,z,r,m⟩:Z2.length<=sizeLine/\(p==p6)=cp/\∃z,KV Z2 z/\s.heap.DictOf (aU X.prog X.w) p z:=I.hok p _ n;have j:Z2.length=z.length:=UE r;exact wpAny_truthy_dict G m (by lia) ⟨H,I.tok _,by rw[w8 r];exact q⟩
 |_=>trivial
theorem Eo(q:PE X a ta)(y:∀g,ZL a X.env g=(do let v <- g;TD a.pos;rc [v] (truthy v))):
  PT X a (λZ H Q=>ta Z H λx H'=>∃k,Ps X.K x H' k/\Q k H'):=by
 intro Z0 s Z H Q I h;exact isTrue_plain (bu (q Z0 s Z H _ I h) λv l ⟨x,H1,I1,j,n⟩=>MX Z0 l Z H1 x v Q I1 j n) (y _)
theorem wR:cD X (j0 .Add) (λx y H Q=>∃i j,x=.str i/\y=.str j/\i.length+j.length<=sizeLine/\Q (.str (i++j)) H):=by
 rintro Z0 s Z H x y v u Q I l g ⟨i,j,rfl,rfl,n,q⟩
 obtain⟨t,rfl⟩:=l;obtain⟨t',rfl⟩:=g;exact add_str (λt' z=>⟨.str _,H,I.tok _,⟨_,rfl⟩,q⟩) n
theorem gh{x:V}(r:Vals [x] us):∃u,us=[u]/\RelV x u:=by
 cases r with
 |cons r1 r2=>cases r2;exact⟨_,rfl,r1⟩
theorem Lj{x y:V}(r:Vals [x,y] us):∃u g,us=[u,g]/\RelV x u/\RelV y g:=by
 cases r with
 |cons r1 r2=>
  cases r2 with
  |cons r3 r4=>cases r4;exact⟨_,_,rfl,r1,r3⟩
theorem Ce(l:X.calm=true):bp X (.builtin "max") (λxs H Q=>∃i j,xs=[.int i,.int j]/\Q (.int (if j>i then j else i)) H):=by
 rintro Z0 s Z H xs us Q I r ⟨i,j,rfl,q⟩
 obtain⟨u,n,rfl,⟨t,rfl⟩,⟨t',rfl⟩⟩:=Lj r;refine max_two_ints (I.ok.hd l) λh' v k=>⟨_,H,I.kept k,?_,q⟩
 by_cases g:j>i
 .rw[if_pos g,if_pos g];exact⟨_,rfl⟩
 rw[if_neg g,if_neg g];exact⟨_,rfl⟩
theorem D8(l:X.calm=true):bp X (.builtin "min") (λxs H Q=>∃i j,xs=[.int i,.int j]/\Q (.int (if j<i then j else i)) H):=by
 rintro Z0 s Z H xs us Q I r ⟨i,j,rfl,q⟩
 obtain⟨u,n,rfl,⟨t,rfl⟩,⟨t',rfl⟩⟩:=Lj r;refine min_two_ints (I.ok.hd l) λh' v k=>⟨_,H,I.kept k,?_,q⟩
 by_cases g:j<i
 .rw[if_pos g,if_pos g];exact⟨_,rfl⟩
 rw[if_neg g,if_neg g];exact⟨_,rfl⟩
end
structure ObjM(h:fy)(x dx C:cb)(mA:aaf):Prop where
 obj:h.get? x=ap (VV C dx)
 ns:h.Ns1 dx mA
 ne:dx≠x
theorem CG(n:h.Ns1 dx mA):∃j,h.get? dx=ap j/\∀name,W.lookIn name j=ap (mA name):=by
 obtain⟨o,es,J,v,I,F,_,G⟩:=n;refine⟨o,v,λname=>?_⟩;have e:=G name;unfold nsFind findBy at e;rw[<- Array.find?_toList]at e;unfold W.lookIn;rw[I];dsimp only
 split
 .rename_i y q
  rw[q]at e;exact congrArg _ e
 rename_i q
 rw[q]at e;have a:es.toList.any (·.refKey)=false:=by
  rw[List.any_eq_false];intro y B;obtain⟨z,t,g⟩:=F y (Array.mem_toList_iff.mp B);simp[DictEntry.refKey,g]
 have l:¬es.toList.any (·.refKey)=true:=by rw[a];exact VP
 rw[if_neg l];exact congrArg _ e
theorem ObjM.look{x:cb}(I:ObjM h x dx C mA):∃g,W.InstAt h x (VV C dx) C (ap g)/\∀name,W.lookIn name g=ap (mA name):=
 let ⟨g,ho,hl⟩:=CG I.ns
 ⟨g,⟨I.obj,rfl,rfl,ho⟩,hl⟩
section
variable{prog:eX}{x:cb}{name:Str}{v:ay}
theorem Ib{g:Bool}(X:K.In s.heap)(I:ObjM s.heap x dx C mA)(y:Vv K C name=true)(z:VB K C=true)(n:TY K (.ref C) name=ap bb)(q:mA name=ap v)(j:W.handedIn v=true)(h:Q v { s with toks:=s.toks+1 }):
  cT (eC prog w) A (getAttr (.ref x) name g) Q E s:=by
 obtain⟨B,J,l⟩:=I.look;exact W.get_value X J (XN y).1 (W.findObj_own z n rfl<|by rw[l,q]) j h
theorem EC{pl:Sem Bool}{Q:ay×List ay->ca->Prop}(X:K.In s.heap)(I:ObjM s.heap x dx C mA)(g:Vv K C name=true)(l:TY K (.ref C) name=ap (ap<|.ref f))(n:W.isFn K (.ref f)=true)(y:mA name=bb)(h:Q (.ref f,[.ref x]) s):
  cT (eC prog w) A (S' (.ref x) name pl) Q E s:=by
 obtain⟨j,J,q⟩:=I.look;exact W.method_fn X J (XN g).1 (XN g).2 l (beq_iff_eq.mp n) (by show (W.lookIn _ j).map _=ap _;simp_all) h
theorem gr{ns:Z_}{Q:Unit->ca->Prop}(X:K.In s.heap)(I:ObjM s.heap x dx C mA)(L:TY K (.ref C) "__setattr__"=ap (ap<|.builtin "object.__setattr__"))(R:V9 K C=true)(O:W.takerIn K C name=ap bb)(T:VB K C=true)(S:XA mA ns)(hsz:ns.length<=sizeLine)(h:∀h',ObjM h' x dx C (λy=>if y=name then ap v else mA y)->Uh dx s.heap h'->Q () { s with heap:=h',toks:=s.toks+2 }):
  cT (eC prog w) A (setAttr (.ref x) name v) Q E s:=by
 obtain⟨od,J,U⟩:=I.look;refine W.set_plain X J L (W.osa_open X J R O λb=>?_);obtain⟨cd,G,n⟩:=W.any_some T;refine ax (cx<|wpAny_bind<|wpAny_bind<|wpAny_loadPart I.obj<|wpAny_bind<|W.Looks.here (W.looks_clsIn X G) ?_);rw[n];refine cx (ax<|wpAny_pure<|wpAny_bind ?_);refine wpAny_nsSet1 I.ns λh' j g=>?_;obtain⟨Y,B,F,q,z,l⟩:=j.count (PySem.Within.cons _ v S);exact ax (wpAny_lookBehind q (by rw[z];exact pastItsLine_dict (SX l<|by rw[Tt];lia))<|wpAny_pure<|h _ ⟨(g.2 _<|Tu I.ne).trans I.obj,j,I.ne⟩ g)
theorem Dk{R:Zk->ca->Prop}{vs:Z'}(X:K.In s.heap)(l:Wg K C=true)(n:TY K (.ref C) "__init__"=ap (ap<|.ref f))(q:W.typeIn K (.ref f)=ap (.type "function"))(h:z5 (eC prog w) (A.under<|.builtin "type.__call__" ⟨.ref C::vs,kw⟩) (.call (.ref f) ⟨.ref (s.heap.objs.size+1)::vs,kw⟩) (W.InitBack (s.heap.objs.size+1) R)
   { s with heap:=(s.heap.push U0).push (VV C s.heap.objs.size) }):
  z5 (eC prog w) A (.call (.ref C) ⟨vs,kw⟩) R s:=by
 obtain⟨z,g,d,t,y⟩:=s;exact W.make_core (W.makes_of X l) (W.looks_findIn X n) (λj=>W.bind_fn X j q) (.inl rfl) h
end
noncomputable def di(f:Str)(v:V):List (Str×V)->List (Str×V)
 |[]=>[(f,v)]
 |(g,x)::r=>if g=f then (g,v)::r else (g,x)::di f v r
theorem jz(f g:Str)(v:V):∀fs:List (Str×V),(di f v fs).lookup g=if g=f then ap v else fs.lookup g
 |[]=>by
  show TR g [(f,v)]=_
  by_cases h:g=f
  .simp_all
  simp_all
 |(k,x)::r=>by
  rw[show di f v _=(if k=f then (k,v)::r else (k,x)::di f v r) from rfl]
  by_cases l:k=f
  .rw[if_pos l]
   by_cases h:g=k
   .have j:=beq_iff_eq.mpr h
    simp only[TR,j,if_pos (h.trans l)]
   have j:(g==k)=false:=beq_eq_false_iff_ne.mpr h;simp only[TR,j,if_neg (λe:g=f=>h (e.trans l.symm))]
  rw[if_neg l]
  by_cases h:g=k
  .have j:(g==k)=true:=beq_iff_eq.mpr h
   simp only[TR,j,if_neg (λe:g=f=>l (h.symm.trans e))]
  .have j:(g==k)=false:=beq_eq_false_iff_ne.mpr h
   simp only[TR,j];exact(jz f g v r)
theorem iY(f:Str)(v:V):∀fs:List (Str×V),f∈(di f v fs).map (·.1)/\∀g,g∈fs.map (·.1)->g∈(di f v fs).map (·.1)
 |[]=>⟨by simp[di],λg h=>by simp at h⟩
 |(k,x)::r=>by
  obtain⟨i1,i2⟩:=iY f v r;rw[show di f v _=(if k=f then (k,v)::r else (k,x)::di f v r) from rfl]
  by_cases j:k=f
  .simp_all
  rw[if_neg j];refine⟨?_,λg h=>?_⟩
  .exact Ta _ i1
  rw[SJ]at h ⊢;rcases SQ.mp h with e|e
  .exact SQ.mpr (.inl e)
  .exact Ta _ (i2 g e)
theorem jy(f:Str)(v:V):∀fs:List (Str×V),(di f v fs).length<=fs.length+1
 |[]=>by simp[di]
 |(k,x)::r=>by
  have g:=jy f v r;rw[show di f v _=(if k=f then (k,v)::r else (k,x)::di f v r) from rfl]
  by_cases j:k=f
  .simp_all
  simp_all
theorem dj{v:V}{o:Option ay}(r:RelO (ap v) o):∃u,o=ap u/\RelV v u:=by
 cases o with
 |none=>trivial
 |some u=>exact⟨u,rfl,r⟩
theorem iV{o:Option ay}(r:RelO bb o):o=none:=by
 cases o<;>trivial
theorem C_{v:V}(r:RelV v u):W.handedIn u=true:=by
 cases v with
 |non=>cases r;rfl
 |bl b=>cases r;rfl
 |int i=>obtain⟨t,e⟩:=r;cases e;rfl
 |str x=>obtain⟨t,e⟩:=r;cases e;rfl
 |byt b=>obtain⟨t,e⟩:=r;cases e;rfl
 |flt b=>obtain⟨t,e⟩:=r;cases e;rfl
 |ref a=>cases r;rfl
 |ty n=>cases r;rfl
section
variable{fs fs':List (Str×V)}
theorem kO(g:HOk P w H h)(e:H a=ap (.ins C dx fs)):∃mA,ObjM h a dx C mA/\(∀f,RelO (fs.lookup f) (mA f))/\XA mA (fs.map (·.1))/\fs.length<=1000/\H dx=ap (.own a):=by
 obtain⟨d,z,ne,j,mA,n,r,q⟩:=(g a _ e);exact⟨mA,⟨j,n,ne⟩,r,q,z,d⟩
end
structure Cls(K:SM)(C:cb):Prop where
 pg:Vv K C WW=true
 hd:VB K C=true
 po:V9 K C=true
 sa:TY K (.ref C) "__setattr__"=ap (ap<|.builtin "object.__setattr__")
theorem Cls.get(c:Cls K C)(f:Str):Vv K C f=true:=c.pg
def NoAttr(K:SM)(C:cb)(f:Str):Prop:=TY K (.ref C) f=ap bb
theorem NoAttr.taker{f:Str}(n:NoAttr K C f):W.takerIn K C f=ap none:=by
 unfold W.takerIn;rw[n];rfl
structure Meth(K:SM)(C:cb)(m:Str)(f:cb):Prop where
 at_:TY K (.ref C) m=ap (ap<|.ref f)
 fn:W.isFn K (.ref f)=true
 kp:Ur K (.ref f)=true
section
variable{fs:List (Str×V)}{f:Str}{v:V}
theorem nV{b:Bool}(I:Inv X Z0 Z H s)(e:H a=ap (.ins C dx fs))(c:Cls X.K C)(n:NoAttr X.K C f)(l:fs.lookup f=ap v)(h:∀u j,Inv X Z0 Z H j->RelV v u->Q u j):cT (eC X.prog X.w) A (getAttr (.ref a) f b) Q E s:=by
 obtain⟨mA,O,r,_,_,_⟩:=kO I.hok e;obtain⟨u,q,g⟩:=dj (v:=v) (o:=mA f) (by grind)
 exact Ib I.kIn O (c.get f) c.hd n q (C_ g) (h u _ (I.tok _) g)
theorem mE{g:cb}{pl:Sem Bool}{Q:ay×List ay->ca->Prop}(I:Inv X Z0 Z H s)(e:H a=ap (.ins C dx fs))(c:Cls X.K C)(k:Meth X.K C m g)(l:fs.lookup m=bb)(h:Q (.ref g,[.ref a]) s):cT (eC X.prog X.w) A (S' (.ref a) m pl) Q E s:=by
 obtain⟨mA,O,r,_,_,_⟩:=kO I.hok e;exact EC I.kIn O (c.get m) k.at_ k.fn (iV<|by rw[<- l];exact r m) h
theorem nj{y:V}{Q:Unit->ca->Prop}(I:Inv X Z0 Z H s)(e:H a=ap (.ins C dx fs))(c:Cls X.K C)(n:NoAttr X.K C f)(hl:fs.length<1000)(ry:RelV y u)(h:∀s',Inv X Z0 Z (upd H a<|.ins C dx<|di f y fs) s'->Q () s'):cT (eC X.prog X.w) A (setAttr (.ref a) f u) Q E s:=by
 obtain⟨mA,O,r,wi,_,ho⟩:=kO I.hok e;have hz:(fs.map (·.1)).length<=sizeLine:=by rw[SH,z4];lia
 refine gr I.kIn O c.sa c.po n.taker c.hd wi hz λh' O' sb=>h _ ?_;have hd:∃o,h'.get? dx=ap o:=let ⟨o,_,_,e',_⟩:=O'.ns;⟨o,e'⟩;refine I.write (by rw[e];trivial) (.inr ho) (λb q hb z=>(sb.2 b hb).trans z) hd ?_
 refine⟨by rw[aD O.ne];exact ho,?_,O.ne,O'.obj,_,O'.ns,λg=>?_,λg hg=>?_⟩
 .have:=jy f y fs;lia
 .rw[jz]
  by_cases q:g=f
  .rw[if_pos q,if_pos q];exact ry
  simp_all
 by_cases q:g=f
 .rw[q];exact(iY f y fs).1
 refine (iY f y fs).2 g (wi g λz=>hg ?_);show (if g=f then ap u else mA g)=bb
 rw[if_neg q];exact z
theorem Hk(I:Inv X Z0 Z H s):Inv X Z0 Z (upd (upd H s.heap.objs.size<|.own (s.heap.objs.size+1)) (s.heap.objs.size+1)<|.ins C s.heap.objs.size [])
  { s with heap:=(s.heap.push U0).push (VV C s.heap.objs.size) }:=by
 have g:(s.heap.push U0).get? s.heap.objs.size=ap U0:=SK s.heap rfl;have z:((s.heap.push U0).push<|VV C s.heap.objs.size).get? (s.heap.objs.size+1)=ap (VV C s.heap.objs.size):=by
  have:=SK (s.heap.push U0) (o:=VV C s.heap.objs.size) rfl
  rwa [Ug]at this
 have j:(s.heap.push U0).Ns s.heap.objs.size (λ_=>bb):=⟨U0,#[],_,g,rfl,(λe l=>absurd l (by simp)),λ_=>rfl⟩
 have I1:=I.laid (a:=s.heap.objs.size) (o:=.own (s.heap.objs.size+1)) (h':=s.heap.push U0) (t':=s.toks) (λb u q=>SF _ q) (SO _) ⟨_,g⟩;refine I1.laid (a:=s.heap.objs.size+1) (o:=.ins C s.heap.objs.size []) (t':=s.toks) (λb u q=>SF _ q) (XR<|Ug _ _) ?_;have ne:s.heap.objs.size≠s.heap.objs.size+1:=SY (W0 _);refine⟨by rw[aD ne,upd_same],Uj _,ne,z,λ_=>bb,(Heap.Ns1.of_empty j).at λo q=>SF _ q,λ_=>UX,λy n=>absurd rfl n⟩
theorem Ke{g:eX}{env:Env}{f:Str}(j:kL e f env (fx e env)=fx e env)(h:cT (eC g w) A (fx e env) (λo s₁=>cT (eC g w) A (getAttr o f true) Q E s₁) E s):cT (eC g w) A (fx (.Attribute e f pos) env) Q E s:=
 Attribute_any_ h (by rw[arm_eval_Attribute,j])
end
def tFld(K:SM)(ta:TE)(f:Str):TE:=λZ H Q=>ta Z H λx H1=>∃a C dx fs v,x=.ref a/\H1 a=ap (.ins C dx fs)/\Cls K C/\NoAttr K C f/\fs.lookup f=ap v/\Q v H1
def sFld(K:SM)(ta tv:TE)(f:Str):TS:=λD Z H=>tv Z H λy H1=>ta Z H1 λx H2=>∃a C dx fs,x=.ref a/\H2 a=ap (.ins C dx fs)/\Cls K C/\NoAttr K C f/\fs.length<1000/\
 D.nx Z (upd H2 a<|.ins C dx<|di f y fs)
def OQ(X:Cx)(op:WP)(rd:V->V->Hp->VK->Prop):Prop:=
 ∀(Z0:aae)(s:ca)(Z:St)(H:Hp)(x y:V)(u v:ay)(Q:VK),Inv X Z0 Z H s->RelV x u->RelV y v->rd x y H Q->cT (eC X.prog X.w) X.A (inplaceOp op u v) (EP X Z0 Z Q) X.xe s
def Ii(K:SM)(ta tv:TE)(rd:V->V->Hp->VK->Prop)(f:Str):TS:=λD Z H=>ta Z H λx H1=>∃a C dx fs v,x=.ref a/\H1 a=ap (.ins C dx fs)/\Cls K C/\NoAttr K C f/\fs.lookup f=ap v/\
 tv Z H1 λy H2=>rd v y H2 λz H3=>∃dx' fs',H3 a=ap (.ins C dx' fs')/\fs'.length<1000/\D.nx Z (upd H3 a<|.ins C dx'<|di f z fs')
section
variable{o value:fv}{f:Str}{tpos:Pos}{tv:TE}
theorem Op(F:PE X e ta)(G:kL e f X.env (fx e X.env)=fx e X.env):PE X (.Attribute e f pos) (tFld X.K ta f):=by
 intro Z0 s Z H Q I h;refine Ke G (bu (F _ s Z H _ I h) λu O g=>?_);obtain⟨x,H1,I1,z,a,C,dx,fs,v,B,y,c,n,l,q⟩:=g;subst B;obtain rfl:u=To a:=z;exact nV I1 y c n l λJ L I2 j=>⟨v,H1,I2,j,q⟩
theorem Nv(L:PE X o ta)(O:PE X value tv)(R:re value (ap<|.Attribute o f pos') pos.line X.env=pure cp):PS X (.Assign [.Attribute o f pos'] value pos) (sFld X.K ta tv f):=by
 intro Z0 s Z H D I h;refine plainObj_wpAny_Assign_Attribute (bu (O _ s Z H _ I h) λu F ⟨y,H1,I1,z,q⟩=>bu (L _ F Z H1 _ I1 q) λj T g=>?_) R;obtain⟨x,H2,I2,G,a,C,dx,fs,J,B,c,n,l,v⟩:=g;subst J;obtain rfl:j=To a:=G;exact nj I2 B c n l z λS I3=>⟨Z,_,I3,v⟩
theorem pI{B:V->V->Hp->VK->Prop}(ha:PE X o ta)(hv:PE X value tv)(j:OQ X op B):PS X (.AugAssign (.Attribute o f tpos) op value pos) (Ii X.K ta tv B f):=by
 intro Z0 s Z H D I h;refine wpAny_AugAssign_AttributeAny (bu (ha _ s Z H _ I h) λF s1 R=>?_);obtain⟨x,H1,I1,O,a,C,dx,fs,v,Y,T,c,n,l,q⟩:=R;subst Y;obtain rfl:F=To a:=O;exact nV I1 T c n l λu W I2 S=>bu (hv _ W Z H1 _ I2 q) (by rintro w3 L ⟨y,H2,I3,J,U⟩;exact bu (j _ L Z H2 v y u w3 _ I3 S J U) (by rintro w4 s4 ⟨z,H3,I4,G,_,_,g,l',q4⟩;exact nj I4 g c n l' G λs5 I5=>⟨Z,_,I5,q4⟩))
def rAdd:V->V->Hp->VK->Prop:=λx y H Q=>∃i j,x=.int i/\y=.int j/\Q (.int (i+j)) H
def rSub:V->V->Hp->VK->Prop:=λx y H Q=>∃i j,x=.int i/\y=.int j/\Q (.int (i-j)) H
theorem My:OQ X .Add rAdd:=by
 rintro Z0 s Z H x y u v Q I l g ⟨i,j,rfl,rfl,q⟩
 obtain⟨t,rfl⟩:=l;obtain⟨t',rfl⟩:=g;exact PyProof.Rows.iadd_int ⟨.int _,H,I.tok _,⟨_,rfl⟩,q⟩
theorem M_:OQ X .Sub rSub:=by
 rintro Z0 s Z H x y u v Q I l g ⟨i,j,rfl,rfl,q⟩
 obtain⟨t,rfl⟩:=l;obtain⟨t',rfl⟩:=g;exact PyProof.Rows.isub_int ⟨.int _,H,I.tok _,⟨_,rfl⟩,q⟩
end
section
variable{c:ay}{b:Bool}
inductive TyOf(K:SM)(H:Hp):V->ay->Prop where
 |non:TyOf K H .non (.type "NoneType")
 |bl (x:Bool):TyOf K H (.bl x) (.type "bool")
 |int (i:Int):TyOf K H (.int i) (.type "int")
 |str (x:Str):TyOf K H (.str x) (.type "str")
 |flt (x:UInt64):TyOf K H (.flt x) (.type "float")
 |lst {a:cb} {xs:List V} (e:H a=ap (.lst xs)):TyOf K H (.ref a) (.type "list")
 |frz {a:cb} {o:Obj} {xs:List V} (e:H a=ap (.frz o<|.lst xs)):TyOf K H (.ref a) (.type "list")
 |tup {a:cb} {xs:List V} (e:H a=ap (.tup xs)):TyOf K H (.ref a) (.type "tuple")
 |dK {a:cb} {Z2:List (aF×V)} (e:H a=ap (.dK Z2)):TyOf K H (.ref a) (.type "dict")
 |dT {a:cb} {Z2:List (List aF×V)} (e:H a=ap (.dT Z2)):TyOf K H (.ref a) (.type "dict")
 |ins {a C dx:cb} {fs:List (Str×V)} (e:H a=ap (.ins C dx fs)) (cl:Cls K C) (ha:TY K (.ref C) "__class__"=ap (ap<|.builtin "object.__class__"))
   (hn:W.specialIn K (.builtin "object.__class__") "__get__"=ap (ap<|.builtin "getset_descriptor.__get__")) (htk:W.takesIn K (.builtin "object.__class__")=ap true)
   (hm:W.mroIn K C (.type "object")=ap true):TyOf K H (.ref a) (.ref C)
theorem Dc{x:V}{t:ay}(I:Inv X Z0 Z H s)(g:RelV x u)(ty:TyOf X.K H x t)(e:W.kitOne X.K t c=ap b)(h:∀F,Q (.bool b) { s with toks:=F }):
  cT (eC X.prog X.w) A (call (.builtin "isinstance") [u,c]) Q E s:=by
 cases ty with
 |non=>cases (show u=Ub from g);exact U7 W.kitx_none I.kIn UX e (λz=>nomatch z) h
 |bl y=>cases (show u=X4 y from g);exact U7 W.kitx_bool I.kIn UX e (λz=>nomatch z) h
 |int i=>obtain⟨t,q⟩:=(show ∃t,u=WK i t from g);cases q;exact U7 W.kitx_int I.kIn UX e (λz=>nomatch z) h
 |str y=>obtain⟨t,q⟩:=(show ∃t,u=WJ y t from g);cases q;exact U7 W.kitx_str I.kIn UX e (λz=>nomatch z) h
 |flt y=>obtain⟨t,q⟩:=(show ∃t,u=Value.float y t from g);cases q;exact U7 W.kitx_float I.kIn UX e (λz=>nomatch z) h
 |@lst a l ea=>
  cases (show u=To a from g);obtain⟨_,_,n,_,j⟩:=(show ObjOk X.prog X.w H s.heap a (.lst l) from I.hok a _ ea);exact U7 W.kitx_list I.kIn ⟨_,j,rfl⟩ e (λz=>nomatch z) h
 |@frz a ob l ea=>
  cases (show u=To a from g);obtain⟨_,_,_,n,_,j⟩:=(show ObjOk X.prog X.w H s.heap a (.frz ob<|.lst l) from I.hok a _ ea);exact U7 W.kitx_list I.kIn ⟨_,j,rfl⟩ e (λz=>nomatch z) h
 |@tup a l ea=>
  cases (show u=To a from g);obtain⟨_,_,_,p⟩:=(show ObjOk X.prog X.w H s.heap a (.tup l) from I.hok a _ ea);obtain⟨o,j,⟨v,_⟩,_⟩:=p;exact U7 W.kitx_tuple I.kIn ⟨o,j,v⟩ e (λz=>nomatch z) h
 |@dK a Z2 ea=>
  cases (show u=To a from g);obtain⟨_,_,L,_,p⟩:=(show ObjOk X.prog X.w H s.heap a (.dK Z2) from I.hok a _ ea);obtain⟨o,es,B,j,v,_⟩:=p;exact U7 W.kitx_dict I.kIn ⟨o,j,v.1⟩ e (λz=>nomatch z) h
 |@dT a Z2 ea=>
  cases (show u=To a from g);obtain⟨_,_,l,_,o,es,B,j,v,_⟩:=(show ObjOk X.prog X.w H s.heap a (.dT Z2) from I.hok a _ ea);exact U7 W.kitx_dict I.kIn ⟨o,j,v.1⟩ e (λz=>nomatch z) h
 |@ins a C dx fs ea cl ha hn htk hm=>
  cases (show u=To a from g);obtain⟨mA,O,_⟩:=kO I.hok ea;obtain⟨G,J,_⟩:=O.look;exact U7 (W.kitx_own (cl.get _) cl.hd ha hn htk hm) I.kIn J e (λz=>nomatch z) h
end
structure Room(k:Nat)(A:g3):Prop where
 hd:A.handled=bb
 dp:A.depth+3*k+5<recursionLimit
 un:A.units+16*k+200<n7
 gd:A.guards=ap []
theorem Room.mono{j k:Nat}(r:Room k A)(h:j<=k):Room j A:=⟨r.hd,by have:=r.dp;lia,by have:=r.un;lia,r.gd⟩
theorem Room.deeper{k:Nat}(r:Room (k+1) A)(env:Env):Room k (A.deeper env):=
 ⟨r.hd,by have:=r.dp;show A.depth+1+3*k+5<_;lia,by have:=r.un;show A.units+3+16*k+200<_;lia,r.gd⟩
theorem wz:(A.under<|.builtin "type.__call__" ⟨.ref C::us,kw⟩).depth=A.depth+1:=by
 rfl
theorem xg:(A.under<|.builtin "type.__call__" ⟨.ref C::us,kw⟩).units=A.units+1:=by
 rfl
theorem Ky:(A.under<|.builtin "type.__call__" ⟨.ref C::us,kw⟩).guards=A.guards:=by
 rfl
theorem Room.make{k:Nat}(r:Room (k+1) A)(C:cb)(us:Z')(kw:List (Str×ay)):Room k (A.under<|.builtin "type.__call__" ⟨.ref C::us,kw⟩):=
 ⟨r.hd,by have:=r.dp;rw[wz];lia,by have:=r.un;rw[xg];lia,by exact r.gd⟩
theorem Room.depth{k:Nat}(r:Room k A):A.depth<recursionLimit:=by have:=r.dp;lia
theorem Room.units{k:Nat}(r:Room k A):A.units+64<cLine:=by have:=r.un;lia
def RO:TA:=λ_ H Q=>Q [] H
def QC(ta:TE)(tr:TA):TA:=λZ H Q=>ta Z H λx H1=>tr Z H1 λg H2=>Q (x::g) H2
section
variable{t:TA}
theorem GH:PA X [] RO:=λ_ _ _ _ H Q I h=>Vc ⟨[],H,I,.nil,h⟩
theorem Bl(v:PE X e te)(y:PA X es t)(z:ee (e::es) X.env=(cp,fx e X.env)::ee es X.env:=by rfl):PA X (e::es) (QC te t):=by
 intro pos Z0 s Z H Q I h;rw[z];show cT _ _ (spliced ((cp,fx e _)::g4 _ _)) _ _ s;exact UL (bu (v _ s Z H _ I h)<|by rintro u q ⟨x,H1,I1,g,j⟩;exact(bu (y _ _ q Z H1 _ I1 j)<|by rintro us F ⟨B,H2,I2,n,l⟩;exact⟨_,H2,I2,.cons g n,l⟩))
def tTup(t:TA):TE:=λZ H Q=>t Z H λg H1=>g.length<=sizeLine/\∀p,H1 p=bb->Q (.ref p) (upd H1 p<|.tup g)
def tLst(t:TA):TE:=λZ H Q=>t Z H λg H1=>g.length<=sizeLine/\∀p,H1 p=bb->Q (.ref p) (upd H1 p<|.lst g)
theorem Ni{x1}(h:PA X es t):PE X (.Tuple es x1 pos) (tTup t):=by
 intro Z0 s Z H Q I g;refine wpAny_Tuple_spliced (bu (h _ _ s Z H _ I g) λus j ⟨l,H1,I1,r,z,q⟩=>⟨by rw[<- r.length];exact z,?_⟩)
 refine⟨.ref _,_,I1.laid (λb u e=>SF _ e) (SO _) ?_,rfl,q _<|I1.hok.fresh<|SO _⟩;exact⟨z,us,r,⟨_,SK _ rfl,⟨rfl,_,rfl⟩,rfl⟩⟩
theorem NK(h:PA X es t):PE X (.List es pos) (tLst t):=by
 intro Z0 s Z H Q I g;refine wpAny_List_spliced (bu (h _ _ s Z H _ I g) λus j ⟨l,H1,I1,r,z,q⟩=>⟨by rw[<- r.length];exact z,?_⟩)
 refine⟨.ref _,_,I1.laid (λb u e=>SF _ e) (SO _) ?_,rfl,q _<|I1.hok.fresh<|SO _⟩;exact⟨z,us,0,r,SK _ rfl⟩
end
abbrev Sp:=List V->Hp->VK->XK->Prop
abbrev ow:=List Env->Hp->ca->XK->ay->ca->Prop
structure Env0(P:eX)(w:f')(K:SM)(mg:aaf)(base:fy)(A:g3)(outer:List Env)(s:ca)(H:Hp):Prop where
 frames:A.frames=ap outer
 mod:Mod K mg base
 bs:∀b o,base.get? b=ap o->s.heap.get? b=ap o/\H b=bb
 bsz:base.objs.size<=s.heap.objs.size
 funs:s.heap.FunFrames base outer
 frf:∀b∈h8 outer,H b=bb
 hok:HOk P w H s.heap
 bare:T_ s.gens
def CE(outer:List Env)(P:eX)(w:f')(H:Hp)(s:ca)(Q:VK)(u:ay)(s':ca):Prop:=
 ∃v H',s'.os=s.os/\T_ s'.gens/\Un (h8 outer) [] H H' s.heap s'.heap/\HOk P w H' s'.heap/\RelV v u/\Q v H'
def CR(CX:ow)(outer:List Env)(P:eX)(w:f')(H:Hp)(s:ca)(Q:VK)(E:XK)(r:Zk)(s':ca):Prop:=
 match r with
 |.ok (.ret u)=>CE outer P w H s Q u s'
 |.ok _=>False
 |.error e=>CX outer H s E e s'
structure FnOk(P:eX)(w:f')(K:SM)(mg:aaf)(base:fy)(CX:ow)(k:Nat)(f:cb)(fd:hG)(ps:Z_)(sp:Sp):Prop where
 len:∀vs H Q E,sp vs H Q E->vs.length=ps.length
 run:∀(A:g3)(outer:List Env)(s:ca)(H:Hp)(args:Args)(us:Z')(vs:List V)(Q:VK)(E:XK),Room k A->Env0 P w K mg base A outer s H->Zp s fd args (ps.zip us)->Vals vs us->sp vs H Q E->
  z5 (eC P w) A (.call (.ref f) args) (CR CX outer P w H s Q E) s
theorem FnOk.imp{k:Nat}{l:Sp}(F:FnOk P w K mg base CX k f fd ps sp)(h:∀vs H Q E,l vs H Q E->sp vs H Q E):FnOk P w K mg base CX k f fd ps l:=
 ⟨λvs H Q E q=>F.len vs H Q E (h _ _ _ _ q),λA g s H j us vs Q E B y n v z=>F.run A g s H j us vs Q E B y n v (h _ _ _ _ z)⟩
theorem Env0.make{g:List Env}(e:Env0 P w K mg base A g s H)(C:cb)(us:Z')(kw:List (Str×ay)):
  Env0 P w K mg base (A.under<|.builtin "type.__call__" ⟨.ref C::us,kw⟩) g s H:=⟨by first|exact e.frames|rfl,e.mod,e.bs,e.bsz,e.funs,e.frf,e.hok,e.bare⟩
section
variable{s':ca}
theorem Inv.env0(I:Inv X Z0 Z H s):Env0 X.prog X.w X.K X.mg X.base X.A X.stack s H:=
 ⟨I.ok.frames,I.ok.mod,I.bs,SX I.ok.bsz I.sz,I.stack,I.stkFree,I.hok,I.bare⟩
theorem Inv.after{Q:VK}(I:Inv X Z0 Z H s)(h:CE X.stack X.prog X.w H s Q u s'):EP X Z0 Z Q u s':=by
 obtain⟨v,H',os,j,un,n,r,q⟩:=h;obtain⟨y,g,d,t,l⟩:=s';obtain rfl:l=s.os:=os;exact⟨v,H',I.call (h':=y) (g':=g) (d':=d) (t':=t) (ch:=[]) un n j (λb z=>absurd z (by simp)),r,q⟩
end
def Qg(sp:Sp)(dvs:List V)(E:XK)(t:TA):TE:=λZ H Q=>t Z H λg H1=>sp (g++dvs) H1 Q E
def Kw(C:cb)(m:Str)(sp:Sp)(dvs:List V)(E:XK)(ta:TE)(t:TA):TE:=λZ H Q=>ta Z H λx H1=>∃a dx fs,x=.ref a/\H1 a=ap (.ins C dx fs)/\fs.lookup m=bb/\
 t Z H1 λg H2=>sp (x::(g++dvs)) H2 Q E
def Ss(C:cb)(sp:Sp)(dvs:List V)(E:XK)(t:TA):TE:=λZ H Q=>t Z H λg H1=>∀x dx,H1 x=bb->H1 dx=bb->dx≠x->
 sp (.ref x::(g++dvs)) (upd (upd H1 dx<|.own x) x<|.ins C dx []) (λv H2=>v=.non/\Q (.ref x) H2) E
def Binds(K:SM)(fd:hG)(ps:Z_)(ds:Z'):Prop:=
 ∀(s:ca)(us:Z'),K.In s.heap->(us++ds).length=ps.length->Zp s fd ⟨us,[]⟩ (ps.zip (us++ds))
theorem Binds.all(h:∀us:List ay,us.length=ps.length->Zu fd ⟨us,[]⟩=pure (ps.zip us)):Binds K fd ps []:=λs us _ g=>by
 rw[TX]at g ⊢;exact .of_eq (h us g)
def bH(CX:ow)(X:Cx)(E:XK):Prop:=∀(Z0:aae)(Z:St)(H:Hp)(s:ca)(e:ay)(s':ca),Inv X Z0 Z H s->CX X.stack H s E e s'->X.xe e s'
section
variable{k:Nat}{dvs:List V}{ds:Z'}{E:XK}{Z5:Pos}{o:fv}{t:TA}
theorem xJ{Q:VK}{vs:List V}(F:FnOk X.prog X.w X.K X.mg X.base CX k f fd ps sp)(v:Room k X.A)(y:Binds X.K fd ps ds)(z:Vals dvs ds)(q:bH CX X E)(I:Inv X Z0 Z H s)(r:Vals vs us)(h:sp (vs++dvs) H Q E):cT (eC X.prog X.w) X.A (call (.ref f) us) (EP X Z0 Z Q) X.xe s:=by
 have j:Vals (vs++dvs) (us++ds):=r.append z;have n:(us++ds).length=ps.length:=by rw[<- j.length];exact F.len _ _ _ _ h
 refine Zr (P' (F.run X.A X.stack s H ⟨us,[]⟩ (us++ds) (vs++dvs) Q E v I.env0 (y s us I.kIn n) j h) λr l g=>?_);cases r with
 |error e=>exact q Z0 Z H s e l I g
 |ok fl=>
  cases fl with
  |ret u=>exact I.after g
  |next=>exact UI g
  |brk=>exact UI g
  |cont=>exact UI g
theorem yT(F:FnOk X.prog X.w X.K X.mg X.base CX k f fd ps sp)(B:Room k X.A)(y:Gl X x)(z:X.mg x=ap (.ref f))(v:Ur X.K (.ref f)=true)(j:Binds X.K fd ps ds)(G:Vals dvs ds)(n:bH CX X E)(l:PA X (e::es) t)(g:(x==("__debug__":Str))=false:=by decide)(he:ee (e::es) X.env=(cp,fx e X.env)::ee es X.env:=by rfl)(hpl:(g4 pos<|starEach es X.env).any (·.1)=false:=by rfl):
  PE X (.Call (.Name x p) (e::es) [] pos) (Qg sp dvs E t):=by
 intro Z0 s Z H Q I h;exact ot (iq I y z (WV (h₀:=X.base) I.ok.mod.kin v (bu (l pos Z0 s Z H _ I h)<|by rintro us L ⟨J,H1,I1,r,q⟩;exact⟨I1.kIn,xJ F B j G n I1 r q⟩) he hpl) g)
theorem K0{pl:Sem Bool}(R:PE X o ta)(c:Cls X.K C)(j:Meth X.K C m f)(F:FnOk X.prog X.w X.K X.mg X.base CX k f fd ps sp)(S:Room k X.A)(J:Binds X.K fd ps ds)(T:Vals dvs ds)(O:bH CX X E)(L:PA X (e::es) t)(g:ee (e::es) X.env=(cp,fx e X.env)::ee es X.env:=by rfl)(hpl:(g4 pos<|starEach es X.env).any (·.1)=false:=by rfl)(ht:fx (.Call (.Attribute o m Z5) (e::es) [] pos) X.env=(do
   let ov <- fx o X.env
   TD Z5.atName
   let (f,first) <- rc [ov] (S' ov m pl)
   Ze pos f first (g4 pos<|starEach (e::es) X.env) (wh pos<|keywordEach [] X.env)):=by rfl):
  PE X (.Call (.Attribute o m Z5) (e::es) [] pos) (Kw C m sp dvs E ta t):=by
 intro Z0 s Z H Q I h;refine W.methodCall_KW (pl:=pl) (bu (R Z0 s Z H _ I h) λu z n=>?_) ht;obtain⟨x,H1,I1,B,a,dx,fs,G,y,l,q⟩:=n;subst G;obtain rfl:u=To a:=B;refine mE I1 y c j l ?_;refine WV (first:=[.ref a]) (h₀:=X.base) I.ok.mod.kin j.kp (bu (L pos Z0 z Z H1 _ I1 q) λus U ⟨vs,H2,I2,r,v⟩=>⟨I2.kIn,?_⟩) g hpl
 exact xJ (us:=.ref a::us) (vs:=.ref a::vs) F S J T O I2 (.cons rfl r) v
theorem GR{pl:Sem Bool}(G:PE X o ta)(c:Cls X.K C)(g:Meth X.K C m f)(F:FnOk X.prog X.w X.K X.mg X.base CX k f fd ps sp)(L:Room k X.A)(z:Binds X.K fd ps ds)(O:Vals dvs ds)(B:bH CX X E)(J:fx (.Call (.Attribute o m Z5) [] [] pos) X.env=(do
   let ov <- fx o X.env
   TD Z5.atName
   let (f,first) <- rc [ov] (S' ov m pl)
   Ze pos f first (g4 pos<|starEach [] X.env) (wh pos<|keywordEach [] X.env)):=by rfl):
  PE X (.Call (.Attribute o m Z5) [] [] pos) (Kw C m sp dvs E ta RO):=by
 intro Z0 s Z H Q I h;refine W.methodCall_KW (pl:=pl) (bu (G Z0 s Z H _ I h) λu R j=>?_) J;obtain⟨x,H1,I1,v,a,dx,fs,y,n,l,q⟩:=j;subst y;obtain rfl:u=To a:=v;refine mE I1 n c g l ?_;exact W.callWith_K0 (first:=[.ref a]) I1.kIn g.kp (xJ (us:=[.ref a]) (vs:=[.ref a]) F L z O B I1 (.cons rfl .nil) q)
structure Mk(K:SM)(C f:cb):Prop where
 makes:Wg K C=true
 init:TY K (.ref C) "__init__"=ap (ap<|.ref f)
 fn:W.isFn K (.ref f)=true
 kp:Ur K (.ref C)=true
theorem EV{Q:VK}{vs:List V}(M:Mk X.K C f)(F:FnOk X.prog X.w X.K X.mg X.base CX k f fd ps sp)(J:Room (k+1) X.A)(L:Binds X.K fd ps ds)(O:Vals dvs ds)(G:bH CX X E)(I:Inv X Z0 Z H s)(r:Vals vs us)(h:∀x dx,H x=bb->H dx=bb->dx≠x->sp (.ref x::(vs++dvs)) (upd (upd H dx<|.own x) x<|.ins C dx []) (λv H2=>v=.non/\Q (.ref x) H2) E):
  cT (eC X.prog X.w) X.A (call (.ref C) us) (EP X Z0 Z Q) X.xe s:=by
 have j:=h _ _ (I.hok.fresh<|V6 _) (I.hok.fresh<|SO _) (SY<|W0 _);have I2:=Hk (C:=C) I;have l:Vals (V.ref (s.heap.objs.size+1)::(vs++dvs)) _:=.cons rfl (r.append O);have B:(To (s.heap.objs.size+1)::us++ds).length=ps.length:=by
  have e:=l.length;rw[F.len _ _ _ _ j]at e;exact e.symm
 refine Zr (Dk I.kIn M.makes M.init (beq_iff_eq.mp M.fn) (P' (F.run _ _ _ _ _ _ _ _ E (J.make C us [])
  (I2.env0.make C us []) (L _ _ I2.kIn B) l j) λr q g=>?_))
 cases r with
 |error e=>exact G _ Z _ _ e q I2 g
 |ok fl=>
  cases fl with
  |ret u=>
   obtain⟨v,H',I3,z,y,n⟩:=I2.after g;subst y;exact⟨z,⟨V.ref _,H',I3,rfl,n⟩⟩
  |next=>assumption
  |brk=>assumption
  |cont=>assumption
theorem J_(M:Mk X.K C f)(F:FnOk X.prog X.w X.K X.mg X.base CX k f fd ps sp)(z:Room (k+1) X.A)(v:Gl X x)(y:X.mg x=ap (.ref C))(j:Binds X.K fd ps ds)(B:Vals dvs ds)(n:bH CX X E)(l:PA X (e::es) t)(g:(x==("__debug__":Str))=false:=by decide)(he:ee (e::es) X.env=(cp,fx e X.env)::ee es X.env:=by rfl)(hpl:(g4 pos<|starEach es X.env).any (·.1)=false:=by rfl):
  PE X (.Call (.Name x p) (e::es) [] pos) (Ss C sp dvs E t):=by
 intro Z0 s Z H Q I h;exact ot (iq I v y (WV (h₀:=X.base) I.ok.mod.kin M.kp (bu (l pos Z0 s Z H _ I h)<|by rintro us J ⟨G,H1,I1,r,q⟩;exact⟨I1.kIn,EV M F z j B n I1 r q⟩) he hpl) g)
end
section
variable{k:Nat}{ks:Z_}{E:XK}{Z5 kpos:Pos}{o:fv}{kws:List vb}{t tk:TA}{nm:Option Str}
variable{g:List ay->List ay->List ay}{gV:List V->List V->List V}
end
structure FnScope(N P:Z_)(sc:F'):Prop where
 kind:sc.kind=.function
 co:sc.isCoroutine=cp
 gen:sc.isGenerator=cp
 nd:N.Nodup
 pre:N.take P.length=P
 par:∀x∈P,sc.names.lookup x=ap .local\/sc.names.lookup x=ap .cell
 nofree:∀y∈sc.names,y.2≠.free
theorem oZ{g:Str->Option Zw}{x:Str}:∀{binds:List (Str×ay)}{m:aaf},(∀v,(x,v)∉binds)->ZY g binds m x=m x
 |[],_,_=>rfl
 |(n,v)::r,m,h=>by
  unfold ZY;rw[oZ λw j=>h w (Ta _ j)]
  split
  .have:x≠n:=by rintro rfl;exact h v TF
   simp[this]
  rfl
theorem pV{g:Str->Option Zw}{x:Str}:∀{binds:List (Str×ay)}{m:aaf},(∀v,(x,v)∉binds)->ZZ g binds m x=m x
 |[],_,_=>rfl
 |(n,v)::r,m,h=>by
  unfold ZZ;rw[pV λw j=>h w (Ta _ j)]
  split
  .rfl
  have:x≠n:=by rintro rfl;exact h v TF
  simp[this]
theorem pv{kindOf:Str->Option Zw}{x:Str}{v:ay}:∀{P:Z_}{vs:Z'}{i:Nat}{m:aaf},P.Nodup->P[i]?=ap x->vs[i]?=ap v->kindOf x=ap .local->
  ZY kindOf (P.zip vs) m x=ap v
 |[],_,_,_,_,h,_,_=>by simp at h
 |_::_,[],_,_,_,_,h,_=>by simp at h
 |p::P,w::vs,0,m,nd,h1,h2,hk=>by
  simp at h1 h2;subst h1 h2;show ZY _ ((p,w)::P.zip vs) m p=_;unfold ZY;rw[oZ λv hv=>(Us.mp nd).1 (Vz hv).1,if_pos hk];simp
 |p::P,w::vs,i+1,m,nd,h1,h2,hk=>by
  unfold ZY;exact pv (Us.mp nd).2 (by trivial) (by trivial) hk
theorem ph{kindOf:Str->Option Zw}{x:Str}{v:ay}:∀{P:Z_}{vs:Z'}{i:Nat}{m:aaf},P.Nodup->P[i]?=ap x->vs[i]?=ap v->kindOf x≠ap .local->
  ZZ kindOf (P.zip vs) m x=ap v
 |[],_,_,_,_,h,_,_=>by simp at h
 |_::_,[],_,_,_,_,h,_=>by simp at h
 |p::P,w::vs,0,m,nd,h1,h2,hk=>by
  simp at h1 h2;subst h1 h2;show ZZ _ ((p,w)::P.zip vs) m p=_;unfold ZZ;rw[pV λv hv=>(Us.mp nd).1 (Vz hv).1,if_neg hk];simp
 |p::P,w::vs,i+1,m,nd,h1,h2,hk=>by
  unfold ZZ;exact ph (Us.mp nd).2 (by trivial) (by trivial) hk
noncomputable def start(N:Z_)(vs:List V):St:=vs.map ap++Tp (N.length-vs.length) bb
noncomputable def eG(CX:ow)(P:eX)(w:f')(K:SM)(mg:aaf)(base:fy)(N:Z_)(Z1:Str)(scope:F')(f:cb)(cd:ay)(A:g3)(outer:List Env)(s:ca)(H:Hp)(E:XK):Cx where
 prog:=P
 w:=w
 K:=K
 mg:=mg
 base:=base
 A:=A.deeper (envOfC Z1 scope s.heap.objs.size f cd)
 N:=N
 s₀:=s
 H₀:=H
 env:=envOfC Z1 scope s.heap.objs.size f cd
 outer:=outer
 stack:=envOfC Z1 scope s.heap.objs.size f cd::outer
 ex:=[]
 calm:=true
 fn:=λ_=>true
 pn:=[]
 xe:=λe j=>cT (eC P w) (A.deeper<|envOfC Z1 scope s.heap.objs.size f cd) (leaving (envOfC Z1 scope s.heap.objs.size f cd) e) (λ_ g=>CX outer H s E e g) (λl g=>CX outer H s E l g) j
theorem uY{g:F'}{n:Nat}(h:g.names.lookup x=ap .cell):∃c,(cellsFrom n g.names []).lookup x=ap c:=by
 exact Xf.mp (W.cellsFrom_some _ n []<|.inl h)
theorem B_{l:Str}{g:F'}{L:ay}{j:List Env}{U:ca}{E:XK}{vs:List V}(S:FnScope N ps g)(hd:A.handled=bb)(n:Env0 P w K mg base A j s H)(hl:vs.length=ps.length)(r:Vals vs us)(x:InCallC s s.heap.objs.size (ZY (envOfC l g s.heap.objs.size f L).kindOf (ps.zip us) λ_=>bb) (cellsFrom (s.heap.objs.size+1) g.names []) (ZZ (envOfC l g s.heap.objs.size f L).kindOf (ps.zip us) λ_=>bb) U):
  Inv (eG CX P w K mg base N l g f L A j s H E) [] (start N vs) H U:=by
 have hpl:ps.length<=N.length:=by have:=congrArg UN S.pre;rw[Wc]at this;lia
 obtain⟨J,tk,rfl,R⟩:=x.done;have F:∀b:cb,b∉(eG CX P w K mg base N l g f L A j s H E).ex:=λb z=>absurd (show b∈[] from z) (by simp)
 refine⟨⟨n.mod,S.kind,rfl,rfl,SO _,λy z c J B=>?_,λy hy=>?_,λy c _ h=>?_,λ_=>hd,Around.frames_deeper n.frames,.inr ⟨rfl,rfl⟩,λb z=>absurd z (F b),n.bs,n.bsz,λb _ _=>F b,λb z=>absurd z (F b),n.funs,n.frf⟩,
  rfl,n.bare,Un.kept R,⟨_,x.toInCall.ns,λi y v J B h3=>?_⟩,λy c h=>⟨_,x.cell y c h⟩,n.hok.fresh (SO _),λy c h=>?_,λp G=>absurd (show p∈[] from G) (by simp),n.hok.kept R,?_⟩
 .exact name_of_addr x.apart (Uu J) (Uu B)
 .rcases hy with hy|hy
  .exact uY hy
  exact absurd rfl (S.nofree _<|Uu hy)
 .exact Vk (x.above y c<|Uu h)
 .have O:i<vs.length:=by
   unfold start at B
   by_cases O:i<vs.length
   .exact O
   rw[Ui (by simpa using O)]at B
   rw[XE]at B
   split at B<;>cases B
  have W:vs[i]?=ap v:=by
   unfold start at B;rw[VX (by simp_all)]at B
   cases e:vs[i]?<;>simp_all
  obtain⟨u,T,Y⟩:=r.get W;have G:ps[i]?=ap y:=by
   rw[<- S.pre,List.getElem?_take_of_lt (by lia)];exact J
  have I:ps.Nodup:=by rw[<- S.pre];exact S.nd.sublist (List.take_sublist _ _)
  refine⟨u,Y,?_⟩;rcases S.par y (T6 G) with k|k
  .exact .inl ⟨k,pv I G T k⟩
  obtain⟨c,e⟩:=uY k;refine .inr ⟨.inl k,c,e,?_⟩;have q:=x.cell y c e;rw[ph I G T (by show g.names.lookup y≠_;rw[k];decide)]at q
  exact q
 .exact n.hok.fresh (Vk<|x.above y c<|Uu h)
 unfold start;show _=N.length;rw[Tq,SH,List.length_replicate];lia
theorem Ly{k:Nat}{name l:Str}{B:Arguments}{g:F'}{dV kV U pm z ct oc:ay}{an od:Option cb}{osl:Array (Option ay)}(lk:K.lookup f=ap ⟨oc,od,.func (Vw name l B body g dV kV U pm an z ct),osl⟩)(hcd:WU K z l=true)(S:FnScope N ps g)(len:∀vs H Q E,sp vs H Q E->vs.length=ps.length)(L:∀(A:g3)(j:List Env)(s:ca)(H:Hp)(vs:List V)(Q:VK)(E:XK),Room k (A.deeper<|envOfC l g s.heap.objs.size f z)->sp vs H Q E->
   ∃t,zr (eG CX P w K mg base N l g f z A j s H E) body t/\t { nx:=λ_ H'=>Q .non H',rt:=Q } (start N vs) H):
  FnOk P w K mg base CX (k+1) f (Vw name l B body g dV kV U pm an z ct) ps sp:=by
 refine⟨len,λA j s H args us vs Q E hr R hb r T=>?_⟩;have hl:=len _ _ _ _ T;have KX:K.In s.heap:=R.mod.kin.keeps λb o e=>(R.bs b o e).1;have lim:s.heap.NoLimit:=R.mod.nolimit.keeps λb o e=>(R.bs b o e).1;have G:∀y∈ps.zip us,g.names.lookup y.1=ap .local\/(g.names.lookup y.1=ap .cell/\((cellsFrom (s.heap.objs.size+1) g.names []).lookup y.1).isSome=true):=λ⟨n,v⟩ hy=>by
  rcases S.par n (Vz hy).1 with q|q
  .exact .inl q
  .exact .inr ⟨q,W.cellsFrom_some _ _ _<|.inl q⟩
 refine codeAny_call_function hr.depth (KX _ _ lk) rfl S.co S.gen rfl (W.codeRec_of KX hcd) (hb _ _ _ _ ?_);refine wpAny_newFunctionEnv_cells S.kind G λenv he s1 x=>?_;subst he;refine⟨lim.keeps x.toInCall.keep,codeAny_func ?_⟩;obtain⟨t,ht,hq⟩:=L A j s H vs Q E (hr.deeper _) T;have I:Inv (eG CX P w K mg base N l g f z A j s H E) [] (start N vs) H s1:=B_ S hr.hd R hl r x;refine kB (ht [] s1 (start N vs) H _ I hq) (λfl Y O=>?_) λe Y O=>O;have fin:∀{F:St}{H':Hp}{v:V}{u:ay},Inv (eG CX P w K mg base N l g f z A j s H E) [] F H' Y->RelV v u->Q v H'->CE j P w H s Q u Y:=
  λ{F H' v u} J rv q=>⟨v,H',J.os,J.bare,J.base,J.hok,rv,q⟩
 cases fl with
 |ret u=>
  obtain⟨v,F,H',J,rv,q⟩:=O;exact fin J rv q
 |next=>
  obtain⟨F,H',J,q⟩:=O;exact fin (v:=V.non) (u:=Ub) J rfl q
 |brk=>
  obtain⟨_,_,_,q⟩:=O;exact UI q
 |cont=>
  obtain⟨_,_,_,q⟩:=O;exact UI q
section
variable{t:TA}{id T:String}{r:List V->Hp->VK->Prop}
def tCB(r:List V->Hp->VK->Prop)(t:TA):TE:=λZ H Q=>t Z H λg H1=>r g H1 Q
theorem Gb(B:bp X (.builtin id) r)(z:Gl X x)(F:X.mg x=bb)(y:eT x=ap (.builtin id))(v:PA X (e::es) t)(q:x≠"__name__":=by decide)(hdb:(x==("__debug__":Str))=false:=by decide)(he:ee (e::es) X.env=(cp,fx e X.env)::ee es X.env:=by rfl)(hpl:(g4 pos<|starEach es X.env).any (·.1)=false:=by rfl):PE X (.Call (.Name x p) (e::es) [] pos) (tCB r t):=by
 intro Z0 s Z H Q I h;refine ot (cG I z F y ?_ q hdb);exact PyProof.Rows.callWith_builtin1 (bu (v pos Z0 s Z H _ I h) λus l ⟨j,H1,I1,g,n⟩=>B Z0 l Z H1 j us Q I1 g n) he hpl
theorem CB(B:bp X (.type T) r)(z:Gl X x)(F:X.mg x=bb)(y:eT x=ap (.type T))(v:PA X (e::es) t)(q:x≠"__name__":=by decide)(hdb:(x==("__debug__":Str))=false:=by decide)(he:ee (e::es) X.env=(cp,fx e X.env)::ee es X.env:=by rfl)(hpl:(g4 pos<|starEach es X.env).any (·.1)=false:=by rfl):PE X (.Call (.Name x p) (e::es) [] pos) (tCB r t):=by
 intro Z0 s Z H Q I h;refine ot (cG I z F y ?_ q hdb);exact TM (bu (v pos Z0 s Z H _ I h) λus l ⟨j,H1,I1,g,n⟩=>B Z0 l Z H1 j us Q I1 g n) he hpl
end
end _2
namespace HT
open PySem PyProof.Rows
section
open PySem.SeqAt
open PySem.AutoSeq1 (wpAny_loadPart')
open PySem.MeetsSeq PySem.MeetsSeq2 PySem.MeetsSeq3
end
section
variable {prog:eX}{w:f'}{A:g3}{E:aad}{s:ca}
theorem IH{t b:cb}{vs a:Z'}{Q:aad}(B:ZF s.heap t vs.toArray)(y:ZF s.heap b a.toArray)(x:vs≠[])
  (z:a=[]->Q (.ref t) s) (C:a≠[]->Q (.ref s.heap.objs.size) { s with heap:=s.heap.push { cls:=.type "tuple",data:=.seq (vs++a).toArray } })
  (hsz:vs.length+a.length<=sizeLine):cT (eC prog w) A (j0 .Add (.ref t)<|.ref b) Q E s:=by
 obtain⟨⟨cls,r,data,o⟩,j,u,n,v⟩:=id B;obtain⟨⟨q,i,m,h⟩,c,g,p,f⟩:=id y;simp only at u v g f;subst u v g f;have e:vs.toArray++a.toArray=(vs++a).toArray:=by simp
 by_cases l:a=[]
 .exact ZM ⟨_,j,rfl⟩ ⟨_,c,rfl⟩ Zi Zz V8 V1 (VU _ _)
   (tuple_addW1 t b vs.toArray a.toArray n p r i o h (by simpa using x)<|by simp[l]) ⟨j,c,z l⟩
 .refine ZM ⟨_,j,rfl⟩ ⟨_,c,rfl⟩ Zi Zz V8 V1 (VU _ _)
   (tuple_addW2 t b vs.toArray a.toArray n p r i o h (by simpa using x) (by simpa using l)<|by rw[SW,SW];exact hsz) ⟨j,c,?_⟩
  rw[e];exact C l
noncomputable def sIx(n d:Nat):Option Int->Nat
 |none=>d
 |some v=>if v<0 then (v+(n:Int)).toNat else min v.toNat n
theorem FG(n d:Nat):sIx n d bb=d:=rfl
theorem HJ(n d k:Nat):sIx n d (ap (k:Int))=min k n:=by
 rfl
theorem sIx_le(n d:Nat)(a:d<=n)(o:Option Int):sIx n d o<=n:=by
 cases o with
 |none=>exact a
 |some v=>
  show (if v<0 then (v+n).toNat else min _ n)<=n
  lia
theorem BG(v:Int)(n d:Nat):(if v<0 then max (v+(n:Int)) 0 else min v (n:Int))=((sIx n d (ap v):Nat):Int):=by
 show (if v<0 then max _ 0 else min v _)=(if v<0 then (v+(n:Int)).toNat else min v.toNat n)
 lia
theorem wG(b a:Option Int)(n:Nat):WB b a 1 (n:Int)=(((sIx n 0 b:Nat):Int),((sIx n n a:Nat):Int)):=by
 refine Prod.ext ?_ ?_
 .cases b with
  |none=>rfl
  |some v=>exact BG v n 0
 cases a with
 |none=>rfl
 |some v=>exact BG v n n
theorem wT(i j:Nat):Vm (i:Int) (j:Int) 1=j-i:=by
 unfold Vm
 split<;>lia
theorem lH{v:ay}{o:Option Int}{Q:Option Int->ca->Prop}(p:W1 v o)(h:Q o s):cT (eC prog w) A (Builtin.Slice.slicePartIndex v) Q E s:=by
 cases p with
 |none=>exact slicePart_none h
 |int i t=>exact slicePart_int h
theorem fb{g:cb}{f i:ay}{a e:Option Int}{n:Nat}{Q:Int×Int×Nat->ca->Prop}(m:s.heap.IsSliceOf g f i .none)(pl:W1 f a)(l:W1 i e)
  (h:Q (((sIx n 0 a:Nat):Int),1,sIx n n e-sIx n 0 a) s):cT (eC prog w) A (Builtin.Slice.sliceApplied (.ref g)<|pure (n:Int)) Q E s:=by
 obtain⟨o,c,j,b⟩:=id m;refine ax (ax<|wpAny_field c b rfl<|wpAny_bind<|wpAny_field c b rfl<|wpAny_bind<|wpAny_field c b rfl<|wpAny_pure ?_);refine ax (slicePart_none ?_);refine ax (lH pl<|wpAny_bind<|lH l<|wpAny_bind<|wpAny_pure ?_);show cT _ _ (match WB a e 1 _ with|(a,e)=>pure (a,(1:Int),Vm a e 1)) _ _ s
 rw[wG a e n];show cT _ _ (pure _) _ _ s;rw[wT];exact cx h
theorem FJ(xs:aag)(i k:Nat):((Te k).filterMap λ(m:Nat)=>xs[((i:Int)+(m:Int)*1).toNat]?).toArray=((xs.toList.drop i).take k).toArray:=by
 have e:(λ(m:Nat)=>xs[(i+(m:Int)*1).toNat]?)=λm=>xs[i+m]?:=by
  funext m;have:(i+(m:Int)*1).toNat=i+m:=by lia
  rw[this]
 rw[e];have:=pick_run xs i k;have a:((λx=>xs[x]?) ∘ λx=>i+x)=λm=>xs[i+m]?:=rfl
 simp_all
theorem iw{t l:cb}{items:aag}{m o:ay}{a c:Option Int}{Q:aad}(e:ZF s.heap t items)(n:s.heap.IsSliceOf l m o .none)(pl:W1 m a)(u:W1 o c)
  (v:¬(sIx items.size 0 a=0/\sIx items.size items.size c=items.size))
  (h:Q (.ref s.heap.objs.size) { s with heap:=s.heap.push { cls:=.type "tuple",data:=.seq ((items.toList.drop<|sIx items.size 0 a).take (sIx items.size items.size c-sIx items.size 0 a)).toArray } })
  (hsz:items.size<=sizeLine):cT (eC prog w) A (W_ (.ref t)<|.ref l) Q E s:=by
 have b:sizeOk (.seq ((items.toList.drop<|sIx items.size 0 a).take (sIx items.size items.size c-sIx items.size 0 a)).toArray):=by
  show ((items.toList.drop _).take _).toArray.size<=sizeLine;rw[SW,Wc,List.length_drop,Ux];lia
 obtain⟨p,j,i,r⟩:=id n;have f:s.TypeIs (.ref l) _:=⟨p,j,i⟩;unfold W_
 try with_reducible refine kr ?_
 refine ax (wpAny_sequenceKey e.typeIs (by decide) ?_)
 refine ax (wpAny_callSpecial?_slot e.typeIs T3
  (mu T3 e.typeIs entry_tuple_getitem ?_<|args_tuple_getitem _ _))
 show cT _ _ (Wv _ >>= _) _ _ s;refine ax (tupleItemsOf_ e ?_);refine ax (Zb f ?_);refine ax (fb n pl u ?_);have g:¬((((sIx items.size 0 a):Int)==0&&(1:Int)==1&&(sIx items.size items.size c-sIx items.size 0 a)==items.size)=true):=by
  intro q;rw[Uy,Uy]at q;have x:=eq_of_beq q.1.1;have y:=eq_of_beq q.2;exact v ⟨by lia,by lia⟩
 show cT _ _ (if (((sIx _ 0 a):Int)==0&&1==1&&(sIx _ _ c-sIx _ 0 a)==items.size)=true then _ else _) _ _ s
 rw[if_neg g,FJ]
 first
  |exact ax (pt (cx ⟨_,rfl,cx h⟩) b)
  |rfl
  |rfl
  |rfl
end
end HT
namespace _2
open PySem PySem.Spec PyProof.Rows
variable{a b:cb}{A:g3}{X:Cx}{e o:fv}{H H':Hp}{Z0:aae}{xs:List (List aF×cb×ay)}{Z6:Z'}{n t':Nat}{pos:Pos}{P:eX}{s:ca}{Z:St}{α:Type}{r u:ay}{E Q:aad}{w:f'}
abbrev TO:=St->Hp->(Option Int->Hp->Prop)->Prop
def PO(X:Cx)(e:Option fv)(t:TO):Prop:=
 ∀(Z0:aae)(s:ca)(Z:St)(H:Hp)(Q:Option Int->Hp->Prop),Inv X Z0 Z H s->t Z H Q->
  cT (eC X.prog X.w) X.A (evalPart e X.env) (λu c=>∃o H',Inv X Z0 Z H' c/\W1 u o/\Q o H') X.xe s
def Jl:TO:=λ_ H Q=>Q bb H
def RD(t:TE):TO:=λZ H Q=>t Z H λx H1=>∃i,x=.int i/\Q (ap i) H1
section
variable{te:TE}{lo hi:Option fv}{tl th:TO}{p2:Pos}
theorem II:PO X bb Jl:=by
 intro Z0 s Z H Q I h;exact cx ⟨_,H,I,.none,h⟩
theorem JY(h:PE X e te):PO X (ap e) (RD te):=by
 intro Z0 s Z H Q I j;refine bu (h _ s Z H _ I j) λu l c=>?_;obtain⟨x,H1,I1,f,g⟩:=c;obtain⟨i,rfl,q⟩:=g;obtain⟨t,rfl⟩:=f;exact⟨_,H1,I1,.int i t,q⟩
def RV(X:Cx)(r:V->Option Int->Option Int->Hp->VK->Prop):Prop:=
 ∀(Z0:aae)(s:ca)(Z:St)(H:Hp)(x:V)(v vl vu:ay)(lo hi:Option Int)(sl:cb)(Q:VK),Inv X Z0 Z H s->RelV x v->s.heap.IsSliceOf sl vl vu .none->W1 vl lo->W1 vu hi->r x lo hi H Q->
  ∃T id,SL (.type T) "__getitem__"=pure (ap<|.builtin id)/\s.TypeIs v T/\cT (eC X.prog X.w) X.A (W_ v<|.ref sl) (EP X Z0 Z Q) X.xe s
def tSl(r:V->Option Int->Option Int->Hp->VK->Prop)(te:TE)(tl th:TO):TE:=λZ H Q=>te Z H λx H1=>tl Z H1 λl H2=>th Z H2 λu H3=>r x l u H3 Q
theorem FL{r:V->Option Int->Option Int->Hp->VK->Prop}(K:RV X r)(M:PE X e te)(J:PO X lo tl)(L:PO X hi th):PE X (.Subscript e (.Slice lo hi bb p2) pos) (tSl r te tl th):=by
 intro Z0 s Z H Q I h;refine Subscript_ (bu (M Z0 s Z H _ I h) λv F ⟨x,H1,I1,i,j⟩=>?_);refine wpAny_Slice (bu (J Z0 F Z H1 _ I1 j) λg C ⟨l,H2,I2,pl,z⟩=>bu (L Z0 C Z H2 _ I2 z) λf c ⟨u,H3,I3,m,B⟩=>?_);rw[evalPart_none];refine cx ?_;have I4:Inv X Z0 Z H3 { c with heap:=c.heap.push { cls:=.type "slice",data:=.fields #[g,f,.none] } }:=I3.kept (t':=c.toks) λb N q=>SF _ q;obtain⟨T,id,G,y,p⟩:=K Z0 { c with heap:=c.heap.push { cls:=.type "slice",data:=.fields #[g,f,.none] } } Z H3 x v g f l u c.heap.objs.size Q I4 i (Heap.IsSliceOf.new ..) pl m B;show cT (eC X.prog X.w) X.A (subscriptTail e (.Slice lo hi bb p2) v<|.ref c.heap.objs.size) (EP X Z0 Z Q) X.xe { c with heap:=c.heap.push { cls:=.type "slice",data:=.fields #[g,f,.none] } };exact tail_any (ops:=[.ref c.heap.objs.size,v]) y G p (by with_unfolding_all rfl)
noncomputable def oB(xs:List V)(lo hi:Option Int):List V:=(xs.drop<|HT.sIx xs.length 0 lo).take (HT.sIx xs.length xs.length hi-HT.sIx xs.length 0 lo)
theorem jv(xs:List V)(lo hi:Option Int):(oB xs lo hi).length<=xs.length:=by
 unfold oB;rw[Wc,List.length_drop];lia
def rSlT(K:SM):V->Option Int->Option Int->Hp->VK->Prop:=λx lo hi H Q=>∃a xs,x=.ref a/\jH K H a xs/\
 ¬(HT.sIx xs.length 0 lo=0/\HT.sIx xs.length xs.length hi=xs.length)/\∀p,H p=bb->Q (.ref p) (upd H p<|.tup<|oB xs lo hi)
theorem O2:RV X (rSlT X.K):=by
 rintro Z0 s Z H x v y p lo hi z Q I i j pl h ⟨a,xs,rfl,g,l,q⟩
 cases i;obtain⟨Z6,r,f,m⟩:=I.tuple g;have c:Z6.toArray.size=xs.length:=by exact r.length.symm
 refine⟨_,_,T3.lookup,f.typeIs,?_⟩;refine HT.iw f j pl h (by rw[c];exact l) ?_ (by simp_all)
 rw[c];refine⟨.ref _,_,I.laid (λb B q=>SF _ q) (SO _) ?_,rfl,q _<|I.hok.fresh<|SO _⟩;exact⟨SX (jv xs lo hi) m,_,(r.drop _).take _,⟨_,SK _ rfl,⟨rfl,_,rfl⟩,rfl⟩⟩
def Sa(K:SM):R2:=λx y H Q=>∃a b xs ys,x=.ref a/\y=.ref b/\jH K H a xs/\jH K H b ys/\xs≠[]/\xs.length+ys.length<=sizeLine/\
 (ys=[]->Q (.ref a) H)/\(ys≠[]->∀p,H p=bb->Q (.ref p) (upd H p<|.tup (xs++ys)))
theorem Vals.nil_iff{xs:List V}{us:Z'}(r:Vals xs us):us=[]↔xs=[]:=by
 cases r<;>simp_all
theorem JC:cD X (j0 .Add) (Sa X.K):=by
 rintro Z0 s Z H x y v u Q I p m ⟨a,b,xs,G,rfl,rfl,i,g,h,C,j,l⟩
 cases p;cases m;obtain⟨Z6,c,B,_⟩:=I.tuple i;obtain⟨f,r2,p2,_⟩:=I.tuple g;refine HT.IH B p2 (λz=>h (c.nil_iff.mp z)) (λz=>⟨.ref a,H,I,rfl,j<|r2.nil_iff.mp z⟩) (λz=>?_) (by rw[<- c.length,<- r2.length];exact C)
 refine⟨.ref _,_,I.laid (λb F q=>SF _ q) (SO _) ?_,rfl,l (λw=>z (r2.nil_iff.mpr w)) _<|I.hok.fresh<|SO _⟩;exact⟨by simp_all,_,c.append r2,⟨_,SK _ rfl,⟨rfl,_,rfl⟩,rfl⟩⟩
end
noncomputable def wX(n:Nat)(i:Int):Option Nat:=if 0<=i then (if i<n then ap i.toNat else bb) else if -(n:Int)<=i then ap (i+n).toNat else bb
noncomputable def atI{α:Type}(xs:List α)(i:Int):Option α:=(wX xs.length i).bind λj=>xs[j]?
theorem qo{i:Int}{j:Nat}(h:wX n i=ap j):ZD i n=ap j/\j<n/\-(n:Int)<=i/\i<n:=by
 unfold wX at h
 by_cases f:0<=i
 .rw[if_pos f]at h
  by_cases c:i<n
  .rw[if_pos c]at h
   have e:=T5 h;exact⟨by rw[ZT f c,e],by lia,by lia,c⟩
  simp_all
 rw[if_neg f]at h
 by_cases c:-n<=i
 .rw[if_pos c]at h
  have e:=T5 h;exact⟨by rw[ZJ (by lia) c,e],by lia,c,by lia⟩
 rw[if_neg c]at h;cases h
theorem sv{xs:List α}{i:Int}{v:α}(h:atI xs i=ap v):∃j,ZD i xs.length=ap j/\xs[j]?=ap v/\j<xs.length/\-(xs.length:Int)<=i/\i<xs.length:=by
 unfold atI at h;cases e:wX xs.length i with
 |none=>simp_all
 |some j=>
  rw[e]at h;obtain⟨c,f,g,l⟩:=qo e;exact⟨j,c,h,f,g,l⟩
def AJ(b:fv):Prop:=∀o i,subscripted b cp o i=operate [o,i] (W_ o i)
def IxR(X:Cx)(r:R2):Prop:=
 ∀(value slice:fv)(Z0:aae)(s:ca)(Z:St)(H:Hp)(x y:V)(v u:ay)(Q:VK),Inv X Z0 Z H s->RelV x v->RelV y u->r x y H Q->
  subscripted slice cp v u=operate [v,u] (W_ v u)->cT (eC X.prog X.w) X.A (subscriptTail value slice v u) (EP X Z0 Z Q) X.xe s
def wf(X:Cx)(id:String)(r:V->List V->Hp->VK->Prop):Prop:=
 ∀(Z0:aae)(s:ca)(Z:St)(H:Hp)(x:V)(xs:List V)(v:ay)(us:Z')(Q:VK),Inv X Z0 Z H s->RelV x v->Vals xs us->r x xs H Q->
  cT (eC X.prog X.w) X.A (call (.builtin id) (v::us)) (EP X Z0 Z Q) X.xe s
section
variable{a b:fv}{ta tb:TE}
theorem IxR.or{r l:R2}(h:IxR X r)(h':IxR X l):IxR X (λx y H Q=>r x y H Q\/l x y H Q):=by
 intro f c Z0 s Z H x y v u Q I i g q j;rcases q with q|q
 .exact h _ _ _ s Z H x y v u Q I i g q j
 exact h' _ _ _ s Z H x y v u Q I i g q j
theorem RW{r:R2}(j:IxR X r)(i:PE X a ta)(l:PE X b tb)(m:AJ b):PE X (.Subscript a b pos) (QM r ta tb):=by
 intro Z0 s Z H Q I h;exact Subscript_ (Pu i l I h λv u c x y H2 I2 f g q=>j a b Z0 c Z H2 x y v u Q I2 f g q (m _ _))
def RA(K:SM):R2:=λx y H Q=>∃p xs i v,x=.ref p/\y=.int i/\SqL K H p xs/\atI xs i=ap v/\Q v H
def Sn(K:SM):R2:=λx y H Q=>∃p xs i v,x=.ref p/\y=.int i/\jH K H p xs/\atI xs i=ap v/\Q v H
def QJ:R2:=λx y H Q=>∃z i c,x=.str z/\y=.int i/\z.length<=sizeLine/\atI z.cps.toList i=ap c/\Q (.str ⟨#[c]⟩) H
theorem ix_list:IxR X (RA X.K):=by
 intro m g Z0 s Z H x y v u Q I O M h C;obtain⟨p,xs,i,z,rfl,rfl,R,S,q⟩:=h;cases O;obtain⟨t,rfl⟩:=M;obtain⟨Z6,r,pl,W⟩:=I.list R;obtain⟨j,c,G,U,N,J⟩:=sv S;obtain⟨w,F,l⟩:=r.get G;have L:=r.length;have T:=hV;have fin:EP X _ Z Q w s:=⟨z,H,I,l,q⟩
 by_cases B:0<=i
 .have f:i.toNat=j:=by
   rw[ZT B J]at c;exact T5 c
  exact item_listR pl.isList B (by lia) (by rw[f];simpa using F) fin C
 have f:(i+Z6.toArray.size).toNat=j:=by
  rw[ZJ (by lia) N]at c
  rw[SW,<- L];exact T5 c
 exact ZI pl.isList.typeIs slot_list_getitem.lookup
  (wpAny_getItem_list_neg pl.isList (by lia) (by rw[SW]<;>lia) (by lia) (by rw[f];simpa using F) ⟨rfl,fin⟩) C
theorem ix_tup:IxR X (Sn X.K):=by
 intro g c Z0 s Z H x y v u Q I C B h F;obtain⟨p,xs,i,z,rfl,rfl,J,L,q⟩:=h;cases C;obtain⟨t,rfl⟩:=B;obtain⟨Z6,r,pl,S⟩:=I.tuple J;obtain⟨j,l,m,R,N,M⟩:=sv L;obtain⟨w,G,f⟩:=r.get m;have O:=hV;have fin:EP X _ Z Q w s:=⟨z,H,I,f,q⟩
 exact ZI pl.typeIs slot_tuple_getitem.lookup
  (getItem_tuple pl (by lia) (by lia) (by rw[SW,<- r.length];exact l) (by simpa using G) ⟨rfl,fin⟩) F
theorem Em:IxR X QJ:=by
 intro g f Z0 s Z H x y v u Q I L F h M;obtain⟨z,i,c,rfl,rfl,R,m,q⟩:=h;obtain⟨t,rfl⟩:=L;obtain⟨t',rfl⟩:=F;obtain⟨j,l,p,O,G,B⟩:=sv m;have C:z.cps.toList.length=z.length:=by rfl
 rw[C]at l G B;have N:=hV;exact tail_any (typeIs_str s z t) slot_str_getitem.lookup (getItem_str (by
  have K:decide (i < -(2 ^ 63))=false:=decide_eq_false (by lia)
  have J:decide (i>=2 ^ 63)=false:=decide_eq_false (by lia)
  rw[K,J,Vq]) (by rw[l];simpa using p) ⟨.str _,H,I.tok _,⟨_,rfl⟩,q⟩) M
def rIx(K:SM):R2:=λx y H Q=>RA K x y H Q\/Sn K x y H Q\/QJ x y H Q
theorem NZ:IxR X (rIx X.K):=ix_list.or (ix_tup.or Em)
theorem wQ(Z6:Z')(n j:Nat)(u:ay):Uv (·.setIfInBounds j u) { cls:=.type "list",data:=.seq Z6.toArray n }={ cls:=.type "list",data:=.seq (Z6.set j u).toArray n }:=by
 simp[Uv]
theorem Inv.lst{Z0:aae}{Z:St}{H:Hp}{s:ca}{p:cb}{xs:List V}(I:Inv X Z0 Z H s)(h:H p=ap (.lst xs)):
  ∃(Z6:Z')(n:Nat),Vals xs Z6/\s.heap.get? p=ap { cls:=.type "list",data:=.seq Z6.toArray n }/\xs.length<=sizeLine:=by
 obtain⟨z,Z6,n,r,e⟩:=I.hok p _ h;exact⟨_,n,r,e,z⟩
theorem Inv.lstUpd{p:cb}{xs ys:List V}{its':Z'}{n':Nat}{f:Obj->Obj}(I:Inv X Z0 Z H s)(h:H p=ap (.lst xs))(ho:s.heap.get? p=ap { cls:=.type "list",data:=.seq Z6.toArray n })(hf:f { cls:=.type "list",data:=.seq Z6.toArray n }={ cls:=.type "list",data:=.seq its'.toArray n' })(r:Vals ys its')(hz:ys.length<=sizeLine)(t:Nat):
  Inv X Z0 Z (upd H p<|.lst ys) { s with heap:=s.heap.update p f,toks:=t }:=by
 have e:(s.heap.update p f).get? p=ap { cls:=.type "list",data:=.seq its'.toArray n' }:=by
  rw[T9 f ho (by rw[hf]<;>rfl),hf]
 refine I.write (x:=p) (e:=p) (by rw[h];trivial) (.inl rfl) (λb u hb q=>(Tn _ _<|Tu hb).trans q) ⟨_,e⟩ ?_
 exact⟨hz,its',n',r,e⟩
def R6:V->V->V->Hp->(Hp->Prop)->Prop:=λo i v H Q=>∃p xs k j,o=.ref p/\i=.int k/\H p=ap (.lst xs)/\wX xs.length k=ap j/\Q (upd H p<|.lst<|xs.set j v)
theorem Ge:OM X R6:=by
 rintro Z0 s Z H o i v K J u Q I C B G ⟨p,xs,k,j,rfl,rfl,l,y,q⟩
 cases C;obtain⟨t,rfl⟩:=B;obtain⟨Z6,n,r,f,F⟩:=I.lst l;obtain⟨c,L,x,z⟩:=qo y;have h:=r.length;have M:=hV;have I':Inv X _ Z _ _:=
  I.lstUpd l f (wQ _ n j u) (r.set G j) (by rw[UD];exact F) s.toks
 by_cases m:0<=k
 .have g:k.toNat=j:=by
   rw[ZT m z]at c;exact T5 c
  exact W.ki_setAt f m (by lia) (by simp_all) (by rw[g];exact⟨_,I',q⟩)
 have g:(k+Z6.toArray.size).toNat=j:=by
  rw[ZJ (by lia) x]at c
  rw[SW,<- h];exact T5 c
 exact W.ki_setBack f (by lia) (by rw[SW,<- h];exact x) (by lia) (by rw[g];exact⟨_,I',q⟩)
theorem qg(f c:Option Int)(n:Nat):(TW f c bb n).1=((HT.sIx n 0 f:Nat):Int)/\(TW f c bb n).2.1=((HT.sIx n n c:Nat):Int)/\(TW f c bb n).2.2=1:=by
 refine⟨?_,?_,rfl⟩
 .cases f with
  |none=>rfl
  |some i=>
   simp[TW,HT.sIx,if_true];lia
 cases c with
 |none=>simp[TW,HT.sIx]
 |some i=>
  simp only[TW,HT.sIx,Option.getD_none,if_true]
  by_cases h:i<0
  .simp only[h,if_true]<;>lia
  simp only[h,if_false]<;>lia
theorem oA(Z6:Z')(c f:Option Int):slicePick Z6.toArray c f bb=((Z6.drop<|HT.sIx Z6.length 0 c).take (HT.sIx Z6.length Z6.length f-HT.sIx Z6.length 0 c)).toArray:=by
 obtain⟨h,g,i⟩:=qg c f _;unfold slicePick;rw[h,g,i];simp only[sliceRange_one,pick_run]<;>rfl
def rSlL(K:SM):V->Option Int->Option Int->Hp->VK->Prop:=λx f c H Q=>∃a xs,x=.ref a/\SqL K H a xs/\∀p,H p=bb->Q (.ref p) (upd H p<|.lst<|oB xs f c)
theorem y4:RV X (rSlL X.K):=by
 rintro Z0 s Z H x v z y j g B Q I l m pl i ⟨a,xs,rfl,h,q⟩
 cases l;obtain⟨Z6,r,f,p⟩:=I.list h;have c:=r.length;refine⟨_,_,slot_list_getitem.lookup,f.isList.typeIs,?_⟩;refine wpAny_getItem_list_slice f.isList m pl i .none (by simp) ?_ (by simp_all)
 rw[oA,<- c];refine⟨.ref _,_,I.laid (λb C q=>SF _ q) (SO _) ?_,rfl,q _<|I.hok.fresh<|SO _⟩;exact⟨SX (jv xs j g) p,_,0,(r.drop _).take _,SK _ rfl⟩
noncomputable def Ha:V->Bool
 |.non=>true
 |.bl _=>true
 |.int _=>true
 |.str _=>true
 |_=>cp
noncomputable def vX:V->V->Bool
 |.non,.non=>true
 |.bl a,.bl b=>a==b
 |.bl a,.int b=>(if a then 1 else 0)==b
 |.int a,.bl b=>a==(if b then 1 else 0)
 |.int a,.int b=>a==b
 |.str a,.str b=>a==b
 |_,_=>cp
theorem Ei{y x:V}{v:ay}(f:RelV y u)(c:RelV x v)(h:Ha y=true)(g:Ha x=true):Wd A s u v (vX y x):=by
 cases y with
 |non=>
  cases f;cases x with
  |non=>cases c;exact SeqAt.EqAt.same _
  |bl b=>cases c;exact SeqAt.EqAt.none_bool b
  |int b=>obtain⟨t,rfl⟩:=c;exact Xm b t
  |str b=>obtain⟨t,rfl⟩:=c;exact Xl b t
  |_=>trivial
 |bl a=>
  cases f;cases x with
  |non=>cases c;exact SeqAt.EqAt.bool_none a
  |bl b=>cases c;exact SeqAt.EqAt.bool_bool a b
  |int b=>obtain⟨t,rfl⟩:=c;exact SeqAt.EqAt.bool_int a b t
  |str b=>obtain⟨t,rfl⟩:=c;exact SeqAt.EqAt.bool_str a b t
  |_=>trivial
 |int a=>
  obtain⟨t',rfl⟩:=f;cases x with
  |non=>cases c;exact Xn a t'
  |bl b=>cases c;exact SeqAt.EqAt.int_bool a t' b
  |int b=>obtain⟨t,rfl⟩:=c;exact SeqAt.EqAt.int_int a t' b t
  |str b=>obtain⟨t,rfl⟩:=c;exact Xt a t' b t
  |_=>trivial
 |str a=>
  obtain⟨t',rfl⟩:=f;cases x with
  |non=>cases c;exact Xk a t'
  |bl b=>cases c;exact SeqAt.EqAt.str_bool a t' b
  |int b=>obtain⟨t,rfl⟩:=c;exact Xs a t' b t
  |str b=>obtain⟨t,rfl⟩:=c;exact SeqAt.EqAt.str_str a t' b t
  |_=>trivial
 |_=>trivial
theorem qW:bp X (.builtin "len") (λxs H Q=>∃p ys,xs=[.ref p]/\(SqL X.K H p ys\/jH X.K H p ys)/\Q (.int ys.length) H):=by
 rintro Z0 s Z H xs j Q I r ⟨p,ys,rfl,hq,q⟩
 obtain⟨u,rfl,g⟩:=gh r;cases g;have i:=hV;rcases hq with hq|hq
 .obtain⟨Z6,f,pl,h⟩:=I.list hq
  have c:=f.length;exact XZ pl.isList (by simp<;>lia) ⟨.int _,H,I.tok _,⟨_,by rw[SW,c]⟩,q⟩
 obtain⟨Z6,f,pl,h⟩:=I.tuple hq;have c:=f.length;exact len_tuple pl (by simp only[SW]<;>lia) ⟨.int _,H,I.tok _,⟨_,by rw[SW,c]⟩,q⟩
theorem qR:bp X (.builtin "len") (λxs H Q=>∃z,xs=[.str z]/\z.length<=sizeLine/\Q (.int z.length) H):=by
 rintro Z0 s Z H xs f Q I r ⟨z,rfl,g,q⟩
 obtain⟨u,rfl,t,rfl⟩:=gh r;have c:=hV;exact len_str (by lia) ⟨.int _,H,I.tok _,⟨_,rfl⟩,q⟩
theorem qL:bp X (.type "list") (λxs H Q=>∃p ys,xs=[.ref p]/\(SqL X.K H p ys\/jH X.K H p ys)/\∀l,H l=bb->Q (.ref l) (upd H l<|.lst ys)):=by
 rintro Z0 s Z H xs y Q I r ⟨p,ys,rfl,hq,q⟩
 obtain⟨u,rfl,x⟩:=gh r;cases x
 have fin:∀(Z6:List _),Vals ys _->ys.length<=sizeLine->∀(c:fy)(g:Nat),(∀b o',s.heap.get? b=ap o'->c.get? b=ap o')->
   c.get? _=ap _->EP X _ Z Q _ _:=λZ6 f i c g kp e=>
  ⟨.ref _,_,I.laid (t':=s.toks) kp (SO _) (show ObjOk _ _ _ c _ (.lst ys) from ⟨i,Z6,g,f,e⟩),rfl,q _<|I.hok.fresh<|SO _⟩
 rcases hq with hq|hq
 .obtain⟨Z6,f,pl,i⟩:=I.list hq
  have h:=f.length;obtain⟨o,j,v,n,m⟩:=pl.isList;exact call_list_seq p (.inl rfl) j v m (λc g kp e=>fin _ f i c g kp e) (by simp_all)
 obtain⟨Z6,f,pl,i⟩:=I.tuple hq;have h:=f.length;obtain⟨o,j,v,n,m⟩:=pl;exact call_list_seq p (.inr rfl) j v m (λc g kp e=>fin _ f i c g kp e) (by simp only[SW]<;>lia)
theorem gO:bp X (.type "tuple") (λxs H Q=>∃p ys,xs=[.ref p]/\((SqL X.K H p ys/\∀l,H l=bb->Q (.ref l) (upd H l<|.tup ys))\/(jH X.K H p ys/\Q (.ref p) H))):=by
 rintro Z0 s Z H xs v Q I r ⟨p,ys,rfl,h⟩
 obtain⟨u,rfl,j⟩:=gh r;cases j;rcases h with⟨c,q⟩|⟨c,q⟩
 .obtain⟨Z6,f,pl,i⟩:=I.list c
  have g:=f.length;refine call_tuple_list pl.isList (λm kp=>?_) (by simp_all)
  have I1:Inv X _ Z H _:=I.kept (t':=s.toks) kp;have I2:Inv X _ Z (upd H _<|.tup ys) { s with heap:=m.push { cls:=.type _,data:=.seq _ } }:=
   I1.laid (λb o e=>SF _ e) (SO _) (⟨i,_,f,⟨_,SK _ rfl,⟨rfl,_,rfl⟩,rfl⟩⟩)
  exact⟨.ref _,_,I2,rfl,q _<|I1.hok.fresh<|SO _⟩
 obtain⟨Z6,f,pl,i⟩:=I.tuple c;exact call_tuple_same pl ⟨.ref p,H,I,rfl,q⟩
def tyV(K:SM)(T:String)(x:V)(H:Hp):Prop:=match x with
 |.str _=>T="str"
 |.int _=>T="int"
 |.ref p=>(T="list"/\∃xs,SqL K H p xs)\/(T="tuple"/\∃o,K.lookup p=ap o/\o.cls=.type "tuple"/\o.dict=bb)\/
   (T="dict"/\((∃Z2,H p=ap (.dK Z2))\/∃Z2,H p=ap (.dT Z2)))\/(T="set"/\∃S n,H p=ap (.set S n))
 |_=>False
theorem Gj{T:String}{x:V}{v:ay}(I:Inv X Z0 Z H s)(r:RelV x v)(ty:tyV X.K T x H):
  s.TypeIs v T/\∀a,v=.ref a->∃m,s.heap.get? a=ap m/\m.dict=none:=by
 cases x with
 |str z=>
  obtain⟨t,rfl⟩:=r;cases ty;exact⟨typeIs_str s z t,λ_ e=>nomatch e⟩
 |int i=>
  obtain⟨t,rfl⟩:=r;cases ty;exact⟨typeIs_int s i t,λ_ e=>nomatch e⟩
 |ref p=>
  cases r;rcases ty with⟨rfl,xs,q⟩|⟨rfl,o,f,hc,j⟩|⟨rfl,f⟩|⟨rfl,S,n,f⟩
  .obtain⟨Z6,_,pl,_⟩:=I.list q
   refine⟨pl.isList.typeIs,λa e=>?_⟩;cases e;obtain⟨o,n,e,c,j,_⟩:=pl;exact⟨o,e,j⟩
  .refine⟨⟨o,I.kIn p o f,hc⟩,λa e=>?_⟩
   cases e;exact⟨o,I.kIn _ o f,j⟩
  .have z:∃o,s.heap.get? p=ap o/\o.ExactDict:=by
    rcases f with⟨h,f⟩|⟨h,f⟩
    .obtain⟨_,_,_,_,o,_,_,e,g,_⟩:=I.hok p _ f
     exact⟨o,e,g⟩
    obtain⟨_,_,_,_,o,_,_,e,g,_⟩:=I.hok p _ f;exact⟨o,e,g⟩
   obtain⟨o,e,g⟩:=z;refine⟨⟨o,e,g.1⟩,λa l=>?_⟩;cases l;exact⟨o,e,g.2.1⟩
  obtain⟨o,_,_,_,e,g,_⟩:=I.hok p _ f;refine⟨⟨o,e,g.1⟩,λa l=>?_⟩;cases l;exact⟨o,e,g.2.1⟩
 |_=>exact UI ty
def tBM0(K:SM)(T:String)(r:V->List V->Hp->VK->Prop)(to:TE):TE:=λZ H Q=>to Z H λx H1=>tyV K T x H1/\r x [] H1 Q
def tBM(K:SM)(T:String)(r:V->List V->Hp->VK->Prop)(to:TE)(t:TA):TE:=λZ H Q=>to Z H λx H1=>tyV K T x H1/\t Z H1 λxs H2=>r x xs H2 Q
variable{es:aab}{to:TE}{t:TA}{name:Str}{Z5 Z4:Pos}{T id:String}{r:V->List V->Hp->VK->Prop}
theorem Ml(z:UV T)(f:ZB T name id)(g:Y_ (.builtin id)=pure (.type "method_descriptor"))(hm:wf X id r)(y:PE X o to)(c:kL o name X.env (fx o X.env)=fx o X.env:=by rfl)(hline:(Z5.endLine==Z4.line)=true:=by rfl):PE X (.Call (.Attribute o name Z5) [] [] Z4) (tBM0 X.K T r to):=by
 intro Z0 s Z H Q I h;refine wpAny_Call_method0_late c hline (bu (y _ s Z H _ I h) λv m j=>?_);obtain⟨x,H1,I1,i,ty,p⟩:=j;obtain⟨l,q⟩:=Gj I1 i ty;exact⟨T,id,z,f,g,l,q,UM rfl<|PySem.evalArgs_none<|hm _ m Z H1 x [] v [] Q I1 i .nil p⟩
theorem Ru(N:UV T)(f:ZB T name id)(g:Y_ (.builtin id)=pure (.type "method_descriptor"))(M:wf X id r)(L:PE X o to)(J:PA X (e::es) t)(c:kL o name X.env (fx o X.env)=fx o X.env:=by rfl)(hfew:((g4 Z4<|starEach (e::es) X.env).all (λx=>!x.1)&&(wh Z4<|keywordEach [] X.env).all (λx=>x.1.isSome)
   && decide ((e::es).length+([]:List vb).length+(if ([]:List vb).isEmpty then 0 else 1)<30))=true:=by rfl)(hline:(Z5.endLine==Z4.line)=true:=by rfl)(hs:ee (e::es) X.env=(cp,fx e X.env)::ee es X.env:=by rfl)(hplain:(g4 Z4<|starEach es X.env).any (·.1)=false:=by rfl):
  PE X (.Call (.Attribute o name Z5) (e::es) [] Z4) (tBM X.K T r to t):=by
 intro Z0 s Z H Q I h;refine ZH c hfew hline rfl (bu (L _ s Z H _ I h) λv G l=>?_);obtain⟨x,H1,I1,i,ty,p⟩:=l;obtain⟨m,y⟩:=Gj I1 i ty;refine⟨T,id,N,f,g,m,y,?_⟩;have j:=J Z4 _ G Z H1 _ I1 p;rw[hs]at j ⊢;exact UM (by show (cp||(g4 _ _).any _)=cp;rw[hplain]<;>rfl) (UW<|bu j<|by rintro q B ⟨F,H2,I2,C,z⟩;exact M _ B Z H2 x F v q Q I2 i C z)
end
def MtM(X:Cx)(id:String)(r:V->List V->Hp->VK->Prop):Prop:=
 ∀(Z0:aae)(s:ca)(Z:St)(H:Hp)(x:V)(xs:List V)(v:ay)(us:Z')(Q:VK),Inv X Z0 Z H s->RelV x v->Vals xs us->r x xs H Q->
  cT (eC X.prog X.w) X.A (call (.builtin id) (v::us)) (EP X Z0 Z Q) X.xe s
theorem Vals.one:∀{x:V}{us:Z'},Vals [x] us->∃u,us=[u]/\RelV x u
 |_,_,h=>by cases h with|cons r q=>cases q;exact⟨_,rfl,r⟩
theorem Vals.two:∀{x y:V}{us:Z'},Vals [x,y] us->∃u v,us=[u,v]/\RelV x u/\RelV y v
 |_,_,_,h=>by cases h with|cons r q=>cases q with|cons q z=>cases z;exact⟨_,_,rfl,r,q⟩
theorem Vals.zero:∀{us:Z'},Vals [] us->us=[]
 |_,.nil=>rfl
theorem Vals.dropLast{xs:List V}{us:Z'}(h:Vals xs us):Vals xs.dropLast us.dropLast:=by
 induction h with
 |nil=>exact .nil
 |cons r t ih=>
  cases t with
  |nil=>exact .nil
  |cons q t'=>exact .cons r ih
theorem Vals.eraseIdx:∀{xs:List V}{us:Z'}(i:Nat),Vals xs us->Vals (xs.eraseIdx i) (us.eraseIdx i)
 |_,_,_,.nil=>.nil
 |_,_,0,.cons _ t=>t
 |_,_,i+1,.cons r t=>.cons r (Vals.eraseIdx i t)
theorem Vals.rep{xs:List V}{us:Z'}(h:Vals xs us):∀k:Nat,Vals (Tp k xs).flatten (Tp k us).flatten
 |0=>.nil
 |k+1=>by
  exact Vals.append h (Vals.rep h k)
theorem NR(l:List α):l.eraseIdx (l.length-1)=l.dropLast:=by
 simp_all
theorem pE{α:Type}:∀(l:List α)(i:Nat),(l.eraseIdx i).length<=l.length
 |[],_=>SO _
 |_::_,0=>V6 _
 |_::r,i+1=>Nat.succ_le_succ (pE r i)
section
variable{l:cb}{xs ys zs:List V}
theorem Inv.lset{its':Z'}{f:Array ay->Array ay}{t':Nat}(I:Inv X Z0 Z H s)(hH:H l=ap (.lst xs))(e:s.heap.get? l=ap { cls:=.type "list",data:=.seq Z6.toArray n })(hf:f Z6.toArray=its'.toArray)(hv:Vals ys its')(hz:ys.length<=sizeLine):
  Inv X Z0 Z (upd H l<|.lst ys) { s with heap:=s.heap.update l (Uv f),toks:=t' }:=by
 have q:=PySem.IsL.update e f;rw[hf]at q;refine I.write (by rw[hH];exact trivial) (.inl rfl) (λb' u hb hu=>(Tn _ _<|Tu hb).trans hu) ⟨_,q⟩ ?_
 exact⟨hz,_,_,hv,q⟩
theorem Inv.lnew{t':Nat}(I:Inv X Z0 Z H s)(c:Vals ys Z6)(f:ys.length<=sizeLine):
  Inv X Z0 Z (upd H s.heap.objs.size<|.lst ys) { s with heap:=s.heap.push { cls:=.type "list",data:=.seq Z6.toArray },toks:=t' }:=
 I.laid (λ_ _ q=>SF _ q) (SO _) ⟨f,_,0,c,SK _ rfl⟩
theorem Inv.fresh(I:Inv X Z0 Z H s):H s.heap.objs.size=none:=I.hok.fresh (SO _)
theorem Inv.lstM(I:Inv X Z0 Z H s)(c:H l=ap (.lst xs)):xs.length<=sizeLine/\∃(Z6:Z')(n:Nat),Vals xs Z6/\xs.length=Z6.length/\s.heap.get? l=ap { cls:=.type "list",data:=.seq Z6.toArray n }:=by
 obtain⟨z,Z6,n,r,e⟩:=I.hok l _ c;exact⟨z,_,n,r,r.length,e⟩
end
section
def JQ:V->List V->Hp->VK->Prop:=λx c H Q=>∃l xs y,x=.ref l/\c=[y]/\H l=ap (.lst xs)/\xs.length<sizeLine/\Q .non (upd H l<|.lst (xs++[y]))
theorem D6:MtM X "list.append" JQ:=by
 rintro Z0 s Z H x m v i Q I h g ⟨l,xs,y,rfl,rfl,c,p,q⟩
 cases h;obtain⟨u,rfl,f⟩:=g.one;obtain⟨z,Z6,n,r,j,e⟩:=I.lstM c;refine qa Wq ⟨_,e,rfl⟩ F.entry_list_append (F.args_list_append_2 _ _) (Ye l _ n u<|by simp_all) ⟨e,?_⟩
 refine⟨.non,_,I.lset c e (by simp) (r.append<|.cons f .nil) ?_,rfl,q⟩
 rw[Tq,UA];lia
def rPop:V->List V->Hp->VK->Prop:=λx c H Q=>∃l xs y,x=.ref l/\c=[]/\H l=ap (.lst xs)/\xs[xs.length-1]?=ap y/\Q y (upd H l<|.lst xs.dropLast)
theorem Pw:MtM X "list.pop" rPop:=by
 rintro Z0 s Z H x G v p Q I m j ⟨l,xs,y,rfl,rfl,g,i,q⟩
 cases m;have f:=j.zero;subst f;obtain⟨z,Z6,n,r,C,e⟩:=I.lstM g;obtain⟨u,B,h⟩:=r.get i;have c:Z6.toArray[Z6.toArray.size-1]?=ap u:=by
  simp_all
 refine qa VI ⟨_,e,rfl⟩ F.entry_list_pop (F.args_list_pop_1 _) (MeetsSeq.list_pop_last l _ n u c<|by rw[SW];lia) ⟨e,?_⟩
 refine⟨y,_,I.lset g e ?_ r.dropLast ?_,h,q⟩
 .simp_all
 rw[List.length_dropLast];lia
def N4:V->List V->Hp->VK->Prop:=λx c H Q=>∃l xs i k y,x=.ref l/\c=[.int i]/\H l=ap (.lst xs)/\-(2 ^ 63)<=i/\i<2 ^ 63/\ZD i xs.length=ap k/\xs[k]?=ap y/\Q y (upd H l<|.lst<|xs.eraseIdx k)
theorem E_:MtM X "list.pop" N4:=by
 rintro Z0 s Z H x L v G Q I B p ⟨l,xs,i,k,y,rfl,rfl,f,h,m,J,j,q⟩
 cases B;obtain⟨u,rfl,g⟩:=p.one;obtain⟨t,rfl⟩:=g;obtain⟨z,Z6,n,r,K,e⟩:=I.lstM f;obtain⟨w,C,c⟩:=r.get j
 refine qa VI ⟨_,e,rfl⟩ F.entry_list_pop (F.args_list_pop_2 _ _)
  (MeetsSeq.list_pop_at l _ n i t k w (fitsIndex_both h m) (by simp_all) (by rw[<- Array.getElem?_toList];exact C)<|by rw[SW];lia) ⟨e,?_⟩
 refine⟨y,_,I.lset f e ?_ (r.eraseIdx k) ?_,c,q⟩
 .simp_all
 have:=pE xs k;lia
theorem Kf(xs:List α)(k:Nat):(Tp k xs).flatten.length=k*xs.length:=by
 induction k<;>simp_all
end
section
variable{prog:eX}
end
section
end
section
variable{κ:Type}[DecidableEq κ]
noncomputable def dM(Z2:List (κ×V))(k:κ):Option V:=(Z2.find? λc=>decide (c.1=k)).map (·.2)
noncomputable def eV(Z2:List (κ×V))(k:κ)(v:V):List (κ×V):=
 if (Z2.any λc=>decide (c.1=k))=true then Z2.map (λc=>if c.1=k then (c.1,v) else c) else Z2++[(k,v)]
noncomputable def gQ(Z2:List (κ×V))(k:κ):List (κ×V):=Z2.filter λc=>decide (c.1≠k)
theorem nQ{p:κ×V}{r:List (κ×V)}{k:κ}(e:p.1=k):dM (p::r) k=ap p.2:=by simp[dM,e]
theorem mB{p:κ×V}{r:List (κ×V)}{k:κ}(e:¬p.1=k):dM (p::r) k=dM r k:=by simp[dM,e]
theorem tO(k:κ):∀Z2:List (κ×V),(Z2.any λkv=>decide (kv.1=k))=(dM Z2 k).isSome
 |[]=>rfl
 |p::r=>by
  rw[Vo]
  by_cases e:p.1=k
  .simp[nQ e,decide_eq_true e,Wf]
  rw[mB e,decide_eq_false e];exact tO k r
theorem jP(Z2:List (κ×V))(k:κ)(v:V):(eV Z2 k v).length<=Z2.length+1:=by
 unfold eV
 split
 .rw[SH];lia
 simp_all
theorem RelO.isSome_eq{o:Option V}{u:Option ay}(r:RelO o u):o.isSome=u.isSome:=by
 cases o with
 |none=>cases u<;>trivial
 |some _=>cases u<;>trivial
theorem KV.val{Z2:List (κ×V)}{vs:List (κ×ay)}(r:KV Z2 vs)(k:κ):RelO (dM Z2 k) (Uf vs k):=by
 unfold KV at r
 induction r with
 |nil=>exact UX
 |@cons p q ps qs h t ih=>
  obtain⟨f,g⟩:=h
  by_cases e:p.1=k
  .have c:q.1=k:=f.symm.trans e
   have b:Uf (q::qs) k=ap q.2:=by simp[Uf,UR,c]
   rw[nQ e,b];exact g
  .have c:¬q.1=k:=λz=>e (f.trans z)
   have b:Uf (q::qs) k=Uf qs k:=by simp[Uf,UR,c]
   rw[mB e,b];exact ih
theorem KV.any{Z2:List (κ×V)}{vs:List (κ×ay)}(r:KV Z2 vs)(k:κ):(Z2.any λkv=>decide (kv.1=k))=vs.any λkv=>decide (kv.1=k):=by
 induction r<;>simp_all
theorem KV.repl{Z2:List (κ×V)}{vs:List (κ×ay)}(r:KV Z2 vs)(k:κ){y:V}(g:RelV y u):
  KV (Z2.map λkv=>if kv.1=k then (kv.1,y) else kv) (vs.map λkv=>if kv.1=k then (kv.1,u) else kv):=by
 induction r with
 |nil=>exact .nil
 |@cons p q ps qs h t ih=>
  rw[SJ,SJ];refine .cons ?_ ih;obtain⟨c,f⟩:=h
  by_cases e:p.1=k
  .rw[if_pos e,if_pos (c.symm.trans e)];trivial
  rw[if_neg e,if_neg (λz=>e (c.trans z))];exact⟨c,f⟩
theorem KV.put{Z2:List (κ×V)}{vs:List (κ×ay)}(r:KV Z2 vs)(k:κ){y:V}(c:RelV y u):KV (eV Z2 k y) (Y' vs k u):=by
 unfold eV Y';rw[r.any k]
 by_cases e:(vs.any λf=>decide (f.1=k))=true
 .rw[if_pos e,if_pos e];exact r.repl k c
 rw[if_neg e,if_neg e];exact Paired.snoc r ⟨rfl,c⟩
theorem KV.drop{Z2:List (κ×V)}{vs:List (κ×ay)}(r:KV Z2 vs)(k:κ):KV (gQ Z2 k) (without vs k):=by
 unfold gQ without
 induction r with
 |nil=>exact .nil
 |@cons p q ps qs h t ih=>
  obtain⟨c,f⟩:=h;rw[Ti,Ti]
  by_cases e:p.1=k
  .have a:¬decide (p.1≠k)=true:=by simp[e]
   have b:¬decide (q.1≠k)=true:=by simp_all
   rw[if_neg a,if_neg b];exact ih
  have g:¬q.1=k:=λz=>e (c.trans z);have a:decide (p.1≠k)=true:=by simp[e]
  have b:decide (q.1≠k)=true:=by simp[g]
  rw[if_pos a,if_pos b];exact .cons ⟨c,f⟩ ih
theorem KV.length{Z2:List (κ×V)}{vs:List (κ×ay)}(r:KV Z2 vs):Z2.length=vs.length:=UE r
theorem FZ(Z2:List (κ×V))(k:κ):(gQ Z2 k).length<=Z2.length:=TK _ _
end
theorem iz{k:aF}(r:RelV (kV k) u):(aU P w).is k u=true:=by
 cases k with
 |inl i=>obtain⟨t,e⟩:=r;subst e;exact uG P w i t
 |inr x=>obtain⟨t,e⟩:=r;subst e;exact uk P w x t
theorem pL{P:eX}{w:f'}:∀{ks:List aF}{us:Z'},Vals (ks.map kV) us->ItemsAre (aU P w) ks us
 |[],_,r=>by cases r;exact .nil
 |k::ks,_,r=>by
  cases r with
  |cons h t=>exact .cons (iz h) (pL t)
abbrev KT(H:Hp):List (List aF×V)->List (List aF×cb×ay)->Prop:=U_ λp q=>p.1=q.1/\H q.2.1=ap (.tup<|p.1.map kV)/\RelV p.2 q.2.2
theorem KT.val{Z2:List (List aF×V)}(r:KT H Z2 xs)(k:List aF):RelO (dM Z2 k) ((Zv xs k).map (·.2)):=by
 induction r with
 |nil=>trivial
 |@cons p q ps qs h t ih=>
  obtain⟨f,_,g⟩:=h
  by_cases e:p.1=k
  .have c:=f.symm.trans e
   have b:Zv (q::qs) k=ap q.2:=by simp[Zv,c]
   rw[nQ e,b];exact g
  have c:¬q.1=k:=λz=>e (f.trans z);have b:Zv (q::qs) k=Zv qs k:=by simp[Zv,c]
  rw[mB e,b];exact ih
theorem KT.repl{Z2:List (List aF×V)}(r:KT H Z2 xs)(k:List aF){y:V}(i:RelV y u):
  KT H (Z2.map λkv=>if kv.1=k then (kv.1,y) else kv) (xs.map<|putAt k u):=by
 induction r with
 |nil=>exact .nil
 |@cons p q ps qs h t ih=>
  rw[SJ];refine .cons ?_ ih;obtain⟨c,f,g⟩:=h;unfold putAt
  by_cases e:p.1=k
  .rw[if_pos e,if_pos (c.symm.trans e)];trivial
  rw[if_neg e,if_neg (λz=>e (c.trans z))];exact⟨c,f,g⟩
theorem KT.put{Z2:List (List aF×V)}(r:KT H Z2 xs)(k:List aF){y:V}(g:H b=ap (.tup<|k.map kV))(c:RelV y u):
  KT H (eV Z2 k y) (storedH xs k b u):=by
 have e:(Z2.any λf=>decide (f.1=k))=(Zv xs k).isSome:=by
  rw[tO,(r.val k).isSome_eq,WC]
 unfold eV storedH;rw[e]
 by_cases q:(Zv xs k).isSome=true
 .rw[if_pos q,if_pos q];exact r.repl k c
 rw[if_neg q,if_neg q];exact Paired.snoc r ⟨rfl,g,c⟩
theorem KT.keeps{Z2:List (List aF×V)}(r:KT H Z2 xs)(c:∀b ys,H b=ap (.tup ys)->H' b=ap (.tup ys)):KT H' Z2 xs:=
 gl r λ_ _ z=>⟨z.1,c _ _ z.2.1,z.2.2⟩
section
variable{h:fy}
theorem L0{u:HO}(ok:HOk P w H h)(e:Rd H a u):ObjOk P w H h a u:=e.ok ok
theorem iI{Z2:List (aF×V)}(ok:HOk P w H h)(e:Rd H a (.dK Z2)):Z2.length<=sizeLine/\(a==p6)=cp/\∃vs,KV Z2 vs/\h.DictOf (aU P w) a vs:=
 L0 ok e
theorem DQ{Z2:List (aF×V)}(ok:HOk P w H h)(e:H a=ap (.dK Z2)):Z2.length<=sizeLine/\(a==p6)=cp/\∃vs,KV Z2 vs/\h.DictOf (aU P w) a vs:=iI ok (.inl e)
theorem m_{ks:List aF}(ok:HOk P w H h)(e:H a=ap (.tup<|ks.map kV)):(Zh<|aU P w).is h ks a:=by
 obtain⟨_,Z6,r,o,c,⟨f,n,g⟩,_⟩:=(show ObjOk P w H h a (.tup<|ks.map kV) from ok a _ e);exact⟨o,Z6.toArray,n,c,f,g,by simpa using pL r⟩
theorem oV{Z2:List (List aF×V)}(ok:HOk P w H h)(e:Rd H a (.dT Z2)):Z2.length<=sizeLine/\(a==p6)=cp/\
  ∃xs,KT H Z2 xs/\h.DictOfH (Zh<|aU P w) a xs:=by
 obtain⟨z,y,xs,r,o,B,j,c,f,i,v,g⟩:=(L0 ok e);refine⟨z,y,xs,r,o,B,j,c,f,i,v,λx hx=>?_,g⟩;have all:∀{l:List _}{m:List _},KT H l m->∀x∈m,(Zh<|aU P w).is h x.1 x.2.1:=by
  intro l m q
  induction q with
  |nil=>intro x hx;exact nomatch hx
  |@cons p q ps qs hq t ih=>
   intro x hx;rcases SQ.mp hx with e|hx
   .exact m_ ok (by simp_all)
   exact ih x hx
 exact all r x hx
theorem Qq{Z2:List (List aF×V)}(ok:HOk P w H h)(e:H a=ap (.dT Z2)):Z2.length<=sizeLine/\(a==p6)=cp/\
  ∃xs,KT H Z2 xs/\h.DictOfH (Zh<|aU P w) a xs:=oV ok (.inl e)
end
def DGet(H:Hp)(a:cb)(y:V)(r:Option V):Prop:=
 (∃Z2 k,Rd H a (.dK Z2)/\y=kV k/\r=dM Z2 k)\/∃Z2 k b,Rd H a (.dT Z2)/\y=.ref b/\H b=ap (.tup<|k.map kV)/\r=dM Z2 k
def DPut(H:Hp)(a:cb)(y v:V)(H':Hp):Prop:=
 (∃Z2 k,H a=ap (.dK Z2)/\y=kV k/\Z2.length<sizeLine/\H'=upd H a (.dK<|eV Z2 k v))\/
 ∃Z2 k b,H a=ap (.dT Z2)/\y=.ref b/\H b=ap (.tup<|k.map kV)/\Z2.length<sizeLine/\H'=upd H a (.dT<|eV Z2 k v)
theorem DGet.k{H:Hp}{a:cb}{Z2:List (aF×V)}{k:aF}(e:H a=ap (.dK Z2)):DGet H a (kV k) (dM Z2 k):=.inl ⟨_,k,.inl e,rfl,rfl⟩
theorem DGet.t{Z2:List (List aF×V)}{k:List aF}(e:H a=ap (.dT Z2))(c:H b=ap (.tup<|k.map kV)):DGet H a (.ref b) (dM Z2 k):=.inr ⟨_,k,b,.inl e,rfl,c,rfl⟩
theorem DPut.k{H:Hp}{a:cb}{Z2:List (aF×V)}{k:aF}{v:V}(e:H a=ap (.dK Z2))(c:Z2.length<sizeLine):DPut H a (kV k) v (upd H a<|.dK<|eV Z2 k v):=.inl ⟨_,k,e,rfl,c,rfl⟩
theorem DPut.t{Z2:List (List aF×V)}{k:List aF}{v:V}(e:H a=ap (.dT Z2))(f:H b=ap (.tup<|k.map kV))(c:Z2.length<sizeLine):
  DPut H a (.ref b) v (upd H a<|.dT<|eV Z2 k v):=.inr ⟨_,k,b,e,rfl,f,c,rfl⟩
section
variable{y v:V}{o:Option V}
theorem Inv.big(I:Inv X Z0 Z H s):p6<s.heap.objs.size:=by
 exact XQ (by decide) ((I.mod.glob.keeps I.bk).lt)
theorem CJ(L:A.units+1<n7)(I:Inv X Z0 Z H s)(g:DGet H a y (ap v))(C:RelV y u)(h:∀i F,Inv X Z0 Z H F->RelV v i->Q i F):
  cT (eC X.prog X.w) A (W_ (.ref a) u) Q E s:=by
 rcases g with⟨j,k,e,x,l⟩|⟨j,k,b,e,x,eb,l⟩
 .subst x
  obtain⟨z,J,G,c,q⟩:=iI I.hok e;obtain⟨i,B,f⟩:=dj (v:=v) (o:=Uf G k) (by rw[l];exact c.val k)
  exact wpAny_getItem_of (iz C) q.mapOf B (h i _ (I.tok _) f)
 .subst x
  cases (show u=To b from C);obtain⟨z,J,xs,c,q⟩:=oV I.hok e;obtain⟨i,B,f⟩:=dj (v:=v) (o:=(Zv xs k).map (·.2)) (by rw[l];exact c.val k)
  obtain⟨p,K,m⟩:=T7.mp B;refine wpAny_getItem_heap (Tk L) (m_ I.hok eb) q K ?_;rw[m];exact h i _ (I.tok _) f
theorem Re(B:A.units+1<n7)(I:Inv X Z0 Z H s)(g:DGet H a y o)(p:RelV y u)(h:∀x,Inv X Z0 Z H x->Q (.bool o.isSome) x):
  cT (eC X.prog X.w) A (kc .In u<|.ref a) Q E s:=by
 rcases g with⟨f,k,e,j,l⟩|⟨f,k,b,e,j,eb,l⟩
 .subst j
  obtain⟨z,m,C,c,i⟩:=iI I.hok e;refine wpAny_in_of (iz p) m i.mapOf ?_;rw[<- (c.val k).isSome_eq,<- l];exact h _ (I.tok _)
 .subst j
  cases (show u=To b from p);obtain⟨z,m,xs,c,i⟩:=oV I.hok e;refine wpAny_in_heap (Tk B) (m_ I.hok eb) m i ?_;have q:=(c.val k).isSome_eq;rw[WC]at q;rw[<- q,<- l];exact h _ (I.tok _)
theorem yV(B:A.units+1<n7)(I:Inv X Z0 Z H s)(g:DGet H a y o)(p:RelV y u)(h:∀x,Inv X Z0 Z H x->Q (.bool<|!o.isSome) x):
  cT (eC X.prog X.w) A (kc .NotIn u<|.ref a) Q E s:=by
 rcases g with⟨f,k,e,j,l⟩|⟨f,k,b,e,j,eb,l⟩
 .subst j
  obtain⟨z,m,C,c,i⟩:=iI I.hok e;refine wpAny_notIn_of (iz p) m i.mapOf ?_;rw[<- (c.val k).isSome_eq,<- l];exact h _ (I.tok _)
 subst j;cases (p);obtain⟨z,m,xs,c,i⟩:=oV I.hok e;refine wpAny_notIn_heap (Tk B) (m_ I.hok eb) m i ?_;have q:=(c.val k).isSome_eq;rw[WC]at q;rw[<- q,<- l];exact h _ (I.tok _)
theorem qd{h':fy}{t':Nat}{c:HO}(I:Inv X Z0 Z H s)(h:QN (H a))(i:Uh a s.heap h')(g:∃q,h'.get? a=ap q)(new:ObjOk X.prog X.w (upd H a c) h' a c):
  Inv X Z0 Z (upd H a c) { s with heap:=h',toks:=t' }:=
 I.write (x:=a) (e:=a) h (.inl rfl) (λb q f z=>(i.2 b f).trans z) g new
theorem sQ{h':fy}{Z2:List (aF×V)}{vs:List (aF×ay)}(z:Z2.length<=sizeLine)(f:(a==p6)=cp)(c:KV Z2 vs)(dd:h'.DictOf (aU P w) a vs):
  ObjOk P w H' h' a (.dK Z2):=⟨z,f,vs,c,dd⟩
theorem pS{Q:Unit->ca->Prop}(hu:A.units+1<n7)(I:Inv X Z0 Z H s)(g:DPut H a y v H')(M:RelV y u)(O:RelV v r)(h:∀N,Inv X Z0 Z H' N->Q () N):
  cT (eC X.prog X.w) A (setItem (.ref a) u r) Q E s:=by
 rcases g with⟨f,k,e,p,l,C⟩|⟨f,k,b,e,p,eb,l,C⟩
 .subst p C
  obtain⟨z,x,vs,i,G⟩:=DQ I.hok e;have J:vs.length<=sizeLine:=by rw[<- i.length];exact z
  have B:(eV f k v).length<=sizeLine:=by have:=jP f k v;lia
  refine wpAny_setItem_pairs (hsz:=J) (iz M) G λL j F=>h _ ?_;have R:∃q,L.get? a=ap q:=let ⟨q,_,_,m,_⟩:=j;⟨q,m⟩;exact qd I (by rw[e];exact UX) F R (sQ B x (i.put k O) j)
 .subst p C
  cases (show u=To b from M);obtain⟨z,x,xs,i,G⟩:=Qq I.hok e;have J:xs.length<=sizeLine:=by rw[<- UE i];exact z
  have B:(eV f k v).length<=sizeLine:=by have:=jP f k v;lia
  refine wpAny_setItem_heap (hsz:=J) (Tk hu) (m_ I.hok eb) G λL j F=>h _ ?_;obtain⟨q,es,W,m,S,U,Y,_,T⟩:=j;refine qd I (by rw[e];exact UX) F ⟨q,m⟩ ⟨B,x,_,(i.put k eb O).keeps λc ys K=>?_,q,es,W,m,S,U,Y,T⟩
  rw[aD (QT K e λz=>nomatch z)];exact K
end
section
variable{Z2:List (aF×V)}{k:aF}
theorem KE{v:V}{more:Z'}(I:Inv X Z0 Z H s)(e:H a=ap (.dK Z2))(m:RelV (kV k) u)(l:dM Z2 k=ap v)(B:more=[]\/∃x,more=[x])(h:∀g C,Inv X Z0 Z (upd H a<|.dK<|gQ Z2 k) C->RelV v g->Q g C):cT (eC X.prog X.w) A (call (.builtin "dict.pop") (.ref a::u::more)) Q E s:=by
 obtain⟨z,N,p,c,y⟩:=DQ I.hok e;obtain⟨g,O,j⟩:=dj (v:=v) (o:=Uf p k) (by rw[<- l];exact c.val k)
 have M:(keyPart u).isSome=true:=by
  cases k with
  |inl i=>obtain⟨t,q⟩:=(show ∃t,u=WK i t from m);subst q;rfl
  |inr x=>obtain⟨t,q⟩:=(show ∃t,u=WJ x t from m);subst q;rfl
 have G:WF "dict.pop" ⟨.ref a::u::more,[]⟩:=by
  rcases B with q|⟨x,q⟩
  .subst q;exact PySem.F.args_dict_pop_2 _ _
  .subst q;exact Xe _ _ _
 refine call_meetsIn Vd y.typeIs Xo G (meets_dict_pop_there (aU X.prog X.w) a (iz m) more B M)
  ⟨p,g,y,by rw[<- c.length];exact z,O,λL f K=>h g _ ?_ j⟩
 have J:∃q,L.get? a=ap q:=let ⟨q,_,_,hq,_⟩:=f;⟨q,hq⟩;exact qd I (by rw[e];exact UX) K J (sQ (SX (FZ Z2 k) z) N (c.drop k) f)
theorem N_(I:Inv X Z0 Z H s)(e:H a=ap (.dK Z2))(f:RelV (kV k) u)(l:dM Z2 k=bb)(h:∀m,Inv X Z0 Z H m->Q r m):
  cT (eC X.prog X.w) A (call (.builtin "dict.pop") [.ref a,u,r]) Q E s:=by
 obtain⟨z,y,g,c,j⟩:=DQ I.hok e;have p:Uf g k=none:=iV (by rw[<- l];exact c.val k)
 have v:(keyPart u).isSome=true:=by
  cases k with
  |inl i=>obtain⟨t,q⟩:=(show ∃t,u=WK i t from f);subst q;rfl
  |inr x=>obtain⟨t,q⟩:=(show ∃t,u=WJ x t from f);subst q;rfl
 exact call_meetsIn Vd j.typeIs Xo (Xe _ _ _) (meets_dict_pop_default (aU X.prog X.w) a (iz f) y v r) ⟨g,j,p,h _<|I.tok _⟩
theorem Sz(I:Inv X Z0 Z H s)(e:Rd H a (.dK Z2))(h:∀t f,Inv X Z0 Z H f->Q (.int Z2.length t) f):cT (eC X.prog X.w) A (call (.builtin "len") [.ref a]) Q E s:=by
 obtain⟨z,i,j,c,g⟩:=iI I.hok e;refine call_len_dict i g (by rw[<- c.length];rw[z4]at z;lia) ?_
 rw[<- c.length];exact h _ _ (I.tok _)
end
theorem tK{y:V}{o:Option V}(I:Inv X Z0 Z H s)(g:DGet H a y o):s.TypeIs (.ref a) "dict":=by
 rcases g with⟨c,k,e,_,_⟩|⟨c,k,b,e,_,_,_⟩
 .obtain⟨_,_,h,_,f⟩:=iI I.hok e
  exact f.typeIs
 obtain⟨_,_,xs,_,f⟩:=oV I.hok e;exact f.typeIs
section
variable{i value:fv}{pos' tpos:Pos}{td ty tv:TE}
end
theorem GN(h:fy)(c:p6<h.objs.size):ObjOk P w H (h.push { cls:=.type "dict",data:=.dict #[] }) h.objs.size (.dT []):=
 ⟨Uj _,beq_eq_false_iff_ne.mpr (Tu<|SY c),[],.nil,_,_,0,SK _ rfl,⟨rfl,rfl,rfl⟩,rfl,rfl,List.nodup_nil⟩
def PJ:TE:=λ_ H Q=>∀p,H p=bb->Q (.ref p) (upd H p<|.dT [])
section
theorem GL:PE X (.Dict [] [] pos) PJ:=λZ0 s Z H Q I h=>
 wpAny_Dict_empty ⟨.ref _,_,I.laid (λ_ _ q=>SF _ q) (SO _) (GN _ I.big),rfl,h _<|I.hok.fresh<|SO _⟩
end
structure M1(X:Cx)(o:fv)(m:Str)(Z5:Pos)(e:fv)(Z4:Pos):Prop where
 base:kL o m X.env (fx o X.env)=fx o X.env
 few:((g4 Z4<|starEach [e] X.env).all (λx=>!x.1)&&(wh Z4<|keywordEach [] X.env).all (λx=>x.1.isSome)
  && decide (([e]:aab).length+([]:List vb).length+(if ([]:List vb).isEmpty then 0 else 1)<30))=true
 line:(Z5.endLine==Z4.line)=true
 trees:g4 Z4 (ee [e] X.env)=[(cp,fx e X.env)]
structure M2(X:Cx)(o:fv)(m:Str)(Z5:Pos)(e f:fv)(Z4:Pos):Prop where
 base:kL o m X.env (fx o X.env)=fx o X.env
 few:((g4 Z4<|starEach [e,f] X.env).all (λx=>!x.1)&&(wh Z4<|keywordEach [] X.env).all (λx=>x.1.isSome)
  && decide (([e,f]:aab).length+([]:List vb).length+(if ([]:List vb).isEmpty then 0 else 1)<30))=true
 line:(Z5.endLine==Z4.line)=true
 trees:g4 Z4 (ee [e,f] X.env)=[(cp,fx e X.env),(cp,fx f X.env)]
def IsD(H:Hp)(a:cb):Prop:=(∃Z2,Rd H a (.dK Z2))\/∃Z2,Rd H a (.dT Z2)
theorem F1(I:Inv X Z0 Z H s)(d:IsD H a):
  s.TypeIs (.ref a) "dict"/\(∀b,To a=.ref b->∃c,s.heap.get? b=ap c/\c.dict=bb)/\(a==p6)=false:=by
 rcases d with⟨g,e⟩|⟨g,e⟩
 .obtain⟨_,j,l,_,f⟩:=iI I.hok e
  refine⟨f.typeIs,λb q=>?_,j⟩;cases q;obtain⟨c,_,_,h,i,_⟩:=f;exact⟨c,h,i.2.1⟩
 obtain⟨_,j,xs,_,f⟩:=oV I.hok e;refine⟨f.typeIs,λb q=>?_,j⟩;cases q;obtain⟨c,_,_,h,i,_⟩:=f;exact⟨c,h,i.2.1⟩
section
variable{y d:V}{o:Option V}
end
def Py(td ty:TE):TE:=λZ H Q=>td Z H λx H1=>∃a,x=.ref a/\IsD H1 a/\ty Z H1 λy H2=>∃Z2 k v,H2 a=ap (.dK Z2)/\y=kV k/\dM Z2 k=ap v/\Q v (upd H2 a<|.dK<|gQ Z2 k)
def Ow(td ty tx:TE):TE:=λZ H Q=>td Z H λx H1=>∃a,x=.ref a/\IsD H1 a/\ty Z H1 λy H2=>tx Z H2 λz H3=>∃Z2 k,H3 a=ap (.dK Z2)/\y=kV k/\
 (∀v,dM Z2 k=ap v->Q v (upd H3 a<|.dK<|gQ Z2 k))/\(dM Z2 k=bb->Q z H3)
section
variable{f:fv}{Z5 Z4:Pos}{td ty tx:TE}
theorem Gy(G:PE X o td)(J:PE X e ty)(m:M1 X o "pop" Z5 e Z4):PE X (.Call (.Attribute o "pop" Z5) [e] [] Z4) (Py td ty):=by
 intro Z0 s Z H Q I h;refine wpAny_Call_method m.base m.few m.line Xc Vd Xv (bu (G _ s Z H _ I h) λu q B=>?_);obtain⟨x,H1,I1,z,a,F,d,g⟩:=B;subst F;obtain rfl:u=To a:=z;obtain⟨t1,t2,_⟩:=F1 I1 d;refine⟨t1,t2,?_⟩;rw[m.trees];refine UM rfl (UW<|UL (bu (J _ q Z H1 _ I1 g) λN L ⟨y,H2,I2,p,_,k,v,C,i,l,j⟩=>Vc ?_));subst i;exact KE I2 C p l (.inl rfl) λM K I3 c=>⟨v,_,I3,c,j⟩
theorem Gu(R:PE X o td)(T:PE X e ty)(S:PE X f tx)(m:M2 X o "pop" Z5 e f Z4):PE X (.Call (.Attribute o "pop" Z5) [e,f] [] Z4) (Ow td ty tx):=by
 intro Z0 s Z H Q I h;refine wpAny_Call_method m.base m.few m.line Xc Vd Xv (bu (R _ s Z H _ I h) λu C J=>?_);obtain⟨x,H1,I1,F,a,O,d,p⟩:=J;subst O;obtain rfl:u=To a:=F;obtain⟨t1,t2,_⟩:=F1 I1 d;refine⟨t1,t2,?_⟩;rw[m.trees];refine UM rfl (UW<|UL (bu (T _ C Z H1 _ I1 p) λY N ⟨y,H2,I2,g,B⟩=>
  UL (bu (S _ N Z H2 _ I2 B) λL U ⟨z,H3,I3,j,_,k,i,q,M,G⟩=>Vc ?_)))
 subst q;cases l:dM _ k with
 |some v=>exact KE I3 i g l (.inr ⟨L,rfl⟩) λW K I4 c=>⟨v,_,I4,c,M v l⟩
 |none=>exact N_ I3 i g l λK I4=>⟨z,H3,I4,j,G l⟩
end
section
variable{Z2:List (aF×V)}
theorem E3(I:Inv X Z0 Z H s)(e:Rd H a (.dK Z2))(h:∀p i,H p=bb->Inv X Z0 Z (upd H p<|.dK Z2) i->Q (.ref p) i):cT (eC X.prog X.w) A (call (.type "dict") [.ref a]) Q E s:=by
 obtain⟨z,m,v,c,l⟩:=iI I.hok e;exact kt_call_dict m l (by rw[<- c.length];exact z) λx f j=>h _ _ (I.hok.fresh<|SO _) (I.laid (a:=s.heap.objs.size) (o:=.dK Z2) (t':=s.toks) (λb q g=>(j.2 b<|SY<|SI g).trans (SF _ g)) (SO _)<|sQ z (beq_eq_false_iff_ne.mpr<|Tu<|SY I.big) c f)
end
section
variable{y:V}
end
end _2
namespace Att
open PySem PySem.W PySem.Calls PyProof.Rows
theorem jS{P:Params}{h:fy}:∀(c:Z9)(vs:Z'),WellAll P h vs (c.map WData.int)->J' vs c:=by
 intro c
 induction c with
 |nil=>
  rintro vs ⟨⟩
  exact .nil
 |cons n c ih=>
  intro vs w;cases w with
  |cons a b=>
   cases a;exact .cons _ _ (ih _ b)
theorem C2{l:OpenLaw}{n:Nat}(s:l.most=ap n){P:Params}{h:fy}{args:List WData}{b:Z'}
  (e:l.row.toRowW.claim.pre args=true) (j:WellAll P h b args):
  ∃a vs c,b=[To a]/\args=[WData.list (c.map WData.int)]/\h.get? a=ap { cls:=.type "list",data:=.seq vs.toArray }/\J' vs c/\c.length<=n:=by
 have i:WShape.hasAll [] _ _=true:=(pre_splitW e).1;have p:l.pre.holds [] _=true:=(pre_splitW e).2;obtain⟨d,r,rfl,m,o⟩:=hasAllW_cons i;obtain rfl:=hasAllW_nil o;obtain⟨u,rfl,q⟩:=hasW_list m;obtain⟨c,rfl⟩:=items_int q;have f:c.length<=n:=by
  have g:(WTm.not<|.lt (.lit<|.int n)<|.len<|.arg 0).holds [] { args:=[.list (c.map .int)] }=true:=by
   have g:=(holds_andW p).1;rw[s]at g;exact g
  have v:=condW_of g (w_not<|w_lt w_lit<|w_len_list<|w_arg rfl)
  simp_all
 cases j with
 |cons w1 w2=>
  cases w2;cases w1 with
  |list ho hall=>exact⟨_,_,c,rfl,rfl,ho,jS c _ hall,f⟩
theorem D5(l:OpenLaw)(args:List WData):l.row.toRowW.claim.post args (.bool true) args=true:=
 postW_of
  (show WShape.has [] _ _=true by rfl)
  (w_eq_bool (w_res rfl) w_lit) rfl
theorem uv{l:OpenLaw}{n:Nat}{q:eX}{loose:Z_}{XP:(Str->Option ay)->fy->Prop}{YP:f'->fy->Prop}{d:DefRec}
  (T:l.most=ap n) (z:d.params.defaults=[])
  (call:∀(w:f')(c b:ca)(s B:aaf)(fa:cb)(o:Obj)(A u g:ay)(a:cb)(vs:Z')(p:Z9),
   Ground q loose [] XP w c s B b.heap->YP w b.heap->
   b.heap.get? fa=ap o->o.data=.func (docDef d.name d.params d.body d.scope A u g)->b.heap.CodeRec u d.name->s d.name=ap (.ref fa)->
   b.heap.get? a=ap { cls:=.type "list",data:=.seq vs.toArray }->J' vs p->p.length<=n->b.gens=#[]->
   z5 (eC l.prog w) Zd (.call (.ref fa) ⟨[.ref a],[]⟩) (λr m=>r=.ok (.ret<|.bool true)/\OldK b.heap m.heap/\m.os=b.os/\T_ m.gens) b):
  WalkO q loose XP YP l.row.toRowW d [] (λf vs=>X2 f vs):=by
 intro w c b s B G Y fa o A u g L kV O Q v F y P C E U j H I x M;obtain rfl:L=.none:=Dflts.none F z;obtain rfl:kV=.none:=Dflts.noKw F;obtain⟨a,vs,p,rfl,rfl,h,e,i⟩:=C2 T j x;refine enter_call (P' (call w c b s B fa o A u g a vs p G Y O (fd_plain Q) v y h e i P) λr m N=>?_);obtain⟨rfl,J,R,K⟩:=N;exact⟨.inl ⟨.bool true,.bool true,[],rfl,λ_=>rfl,.bool true,D5 l _,λ_=>⟨Xh,λ_ S=>(nomatch S)⟩⟩,J,R,K⟩
section
variable {prog:eX}{w:f'}{A:g3}{E:aad}{s:ca}{K:Frag}
end
end Att
namespace _2
open PySem PySem.Spec PyProof.Rows
variable{a it l z:cb}{A:g3}{items:aag}{b f1:Bool}{X:Cx}{h h' h₀:fy}{H:Hp}{Z0:aae}{args:List (Bool×cb)}{fp:aaa}{elts:aab}{S:List ZS}{i j n t' x1:Nat}{pos tp:Pos}{P prog:eX}{K:SM}{scope:F'}{s:ca}{Z:St}{x:Str}{α:Type}{f0:ay}{E Q:aad}{w:f'}{F:ZS->Option ay}
theorem dm:∀{vs:Z'}{c:Z9},J' vs c->Vals (c.map V.int) vs:=by
 intro vs c h
 induction h with
 |nil=>exact .nil
 |cons n t _ ih=>exact .cons ⟨t,rfl⟩ ih
def GG(H:Hp):Prop:=∀b,H b=bb\/∃o xs,H b=ap (.frz o<|.lst xs)
theorem ER{T mb:aaf}{CX:ow}{k:Nat}{fa:cb}{fd:hG}{sp:Sp}{c:ca}{vs:Z'}{ns:Z9}(KX:K.In c.heap)(R:c.heap.Ns eH T)(g:c.heap.Ns builtinsNs mb)(hbb:∀x:Str,x≠"__name__"->mb x=eT x)(O:c.heap.NoLimit)(hg:c.gens=#[])(U:c.heap.get? a=ap { cls:=.type "list",data:=.seq vs.toArray })(hi:J' vs ns)(hl:ns.length<=sizeLine)(hr:Room k Zd)(F:∀base:fy,K.In base->base.Ns eH T->FnOk P w K T base CX k fa fd [x] sp)(hbind:∀(s:ca)(u:ay),Zp s fd ⟨[u],[]⟩ [(x,u)])(hsp:∀H:Hp,GG H->SqL K H a (ns.map V.int)->sp [.ref a] H (λv _=>v=.bl true) λ_ _ _=>False)(hCX:∀H e p,CX [] H c (λ_ _ _=>False) e p->False):
  z5 (eC P w) Zd (.call (.ref fa) ⟨[.ref a],[]⟩) (λr p=>r=.ok (.ret<|.bool true)/\OldK c.heap p.heap/\p.os=c.os/\T_ p.gens) c:=by
 have rv:=dm hi;have L:=hi.length
 -- from an abstract heap in which nothing but the script may be tracked
 have y:∀H:Hp,GG H->SqL K H a (ns.map V.int)->HOk P w H c.heap->(∀b,H b≠bb->b=a)->(H a≠bb->K.lookup a=bb)->
   z5 (eC P w) Zd (.call (.ref fa) ⟨[.ref a],[]⟩) (λr p=>r=.ok (.ret<|.bool true)/\OldK c.heap p.heap/\p.os=c.os/\T_ p.gens) c:=by
  intro H hO hS B hA hK;have f:∀{b:cb}{o:Obj},c.heap.get? b=ap o->H b=bb->(tF c.heap H).get? b=ap o:=λe n=>Fd e n;have noA:∀{b:cb}{o:Obj}{G:Array Zl}{C:Nat},c.heap.get? b=ap o->o.data=.dict G C->H b=none:=λ{b o G C} e d=>by
   cases q:H b with
   |none=>rfl
   |some u=>
    have W:b=a:=hA b (by rw[q];simp)
    subst W;rw[U]at e;cases e;have d':Data.seq vs.toArray _=Data.dict G C:=d;cases d'
  have nsK:∀{b:cb}{m:aaf},c.heap.Ns b m->(tF c.heap H).Ns b m:=λ{b m} ⟨o,G,C,e,d,r⟩=>⟨o,G,C,f e (noA e d),d,r⟩;have I:K.In (tF c.heap H):=λb o e=>f (KX b o e) (by
   cases q:H b with
   |none=>rfl
   |some u=>
    have W:b=a:=hA b (by rw[q];simp)
    subst W;rw[hK (by rw[q];simp)]at e;cases e)
  have hM:Mod K T (tF c.heap H):=⟨I,nsK R,⟨mb,nsK g,hbb⟩,let ⟨mc,h1,h2⟩:=O;⟨mc,nsK h1,h2⟩⟩;have e0:Env0 P w K T (tF c.heap H) Zd [] c H:=⟨rfl,hM,λb o e=>Hz e,XR (CZ _ _),trivial,λb g=>absurd (show b∈([]:aaa) from g) (by simp),B,.of_eq hg⟩
  refine P' ((F _ I<|nsK R).run Zd [] c H ⟨[.ref a],[]⟩ [.ref a] [.ref a] _ _ hr e0 (hbind c<|.ref a) (.cons rfl .nil)<|hsp H hO hS) λr p h=>?_;cases r with
  |error e=>exact(hCX H e p h).elim
  |ok fl=>
   cases fl with
   |next=>exact UI h
   |brk=>exact UI h
   |cont=>exact UI h
   |ret u=>
    obtain⟨v,H',os,M,un,N,r',q⟩:=h;have q':v=.bl true:=q;subst q';obtain rfl:u=X4 true:=r';refine⟨rfl,OldK.of_keep λb o e=>?_,os,M⟩;cases q:H b with
    |none=>exact un.keep b o e q (by intro z;exact absurd (show b∈([]:aaa) from z) (by simp)) (by simp)
    |some u=>
     rcases hO b with z|⟨ob,xs,z⟩
     .rw[q]at z;cases z
     .have z2:=un.frzs b ob _ z
      obtain⟨e1,_⟩:=B b _ z;obtain⟨e2,_⟩:=N b _ z2;rw[e]at e1;cases e1;exact e2
 cases Y:K.lookup a with
 |some o=>
  -- the script is one of the module's own objects
  have e:=KX a o Y;rw[U]at e;cases e;refine y (λ_=>bb) (λ_=>.inl rfl) (.inr ⟨_,vs.toArray,_,Y,rfl,rfl,rfl,by rw[SW,L];exact hl,by simpa using rv⟩) (λb u z=>by have J:(none:Option HO)=ap u:=z;cases J) (λb z=>absurd rfl z) λz=>absurd rfl z
 |none=>
  refine y (λb=>if b=a then ap (.frz { cls:=.type "list",data:=.seq vs.toArray }<|.lst<|ns.map V.int) else bb) (λb=>?_) (.inl<|.inr ⟨{ cls:=.type "list",data:=.seq vs.toArray },if_pos rfl⟩) (λb u z=>?_) (λb z=>?_) λ_=>Y
  .by_cases g:b=a
   .exact .inr ⟨_,_,if_pos g⟩
   .exact .inl (if_neg g)
  .by_cases g:b=a
   .have J:=(if_pos g).symm.trans z
    cases J;subst g;exact⟨U,by rw[SH];exact hl,vs,_,rv,U⟩
   .have J:=(if_neg g).symm.trans z
    cases J
  .by_cases g:b=a
   .exact g
   .exact absurd (if_neg g) z
theorem Ik{l:W.OpenLaw}{k:Nat}{q:eX}{loose:Z_}{XP:(Str->Option ay)->fy->Prop}{YP:f'->fy->Prop}{d:DefRec}{K:Params->SM}{CX:f'->ow}{sp:f'->Sp}(hn:l.most=ap n)(L:n<=sizeLine)(J:d.params.defaults=[])(hr:Room k Zd)(hY:∀(w:f')(h:fy),YP w h->(K w.params).In h)(F:∀(w:f')(r:aaf)(fa:cb)(h:fy),(K w.params).In h->h.Ns eH r->r d.name=ap (.ref fa)->
   ∃fd:hG,(∀(s:ca)(u:ay),Zp s fd ⟨[u],[]⟩ [(x,u)])/\
    ∀c:fy,(K w.params).In c->c.Ns eH r->FnOk l.prog w (K w.params) r c (CX w) k fa fd [x] (sp w))(N:∀(w:f')(H:Hp)(a:cb)(C:Z9),C.length<=n->GG H->SqL (K w.params) H a (C.map V.int)->sp w [.ref a] H (λv _=>v=.bl true) λ_ _ _=>False)(O:∀(w:f')(H:Hp)(s:ca)(e:ay)(M:ca),CX w [] H s (λ_ _ _=>False) e M->False):
  W.WalkO q loose XP YP l.row.toRowW d [] (λf vs=>X2 f vs):=by
 refine Att.uv hn J λw R y r mb fa o pm cd doc a vs C G Y ho hd hcd I B p m hg=>?_;have KX:=hY w _ Y;obtain⟨fd,U,hF⟩:=F w r fa _ KX G.T.g I;exact ER KX G.T.g G.T.b G.T.builtins G.T.nolimit hg B p (SX m L) hr hF U (λH hO hS=>N w H a C m hO hS) λH e M=>O w H y e M
noncomputable def dR(s:q0)(j:Nat):Stmt:=match s with
 |.ClassDef _ _ _ body _ _ _ _ _ _ _=>body.getD j (.Pass ⟨0,0,0,0⟩)
 |_=>.Pass ⟨0,0,0,0⟩
def bW(s:q0):Arguments:=match s with
 |.FunctionDef _ a _ _ _ _ _ _ _ _=>a
 |_=>{ posonlyargs:=[],args:=[],vararg:=bb,kwonlyargs:=[],kw_defaults:=[],kwarg:=bb,defaults:=[] }
def bw(s:q0):List Stmt:=match s with
 |.FunctionDef _ _ b _ _ _ _ _ _ _=>b
 |_=>[]
def aQ(s:q0):Scope:=match s with
 |.FunctionDef _ _ _ _ _ _ sc _ _ _=>sc
 |_=>{ kind:=.function,names:=[],isGenerator:=cp,isCoroutine:=cp }
abbrev CX0:ow:=λ_ _ _ _ _ _=>False
abbrev E0:XK:=λ_ _ _=>False
structure Fun(K:SM)(x Z1:Str)(st:q0)(f:cb)(fd:hG):Prop where
 ex:∃(oc:ay)(od:Option cb)(kV doc pm:ay)(an:Option cb)(cdv ct:ay)(osl:Array (Option ay)),
  fd=Vw x Z1 (bW st) (bw st) (aQ st) .none kV doc pm an cdv ct/\K.lookup f=ap ⟨oc,od,.func fd,osl⟩/\WU K cdv Z1=true
 kp:Ur K (.ref f)=true
section
variable{mg:aaf}{base:fy}
theorem Fun.binds{c:Str}{m:q0}{f:cb}{fd:hG}{r:Z_}(F:Fun K x c m f fd)(h:∀(kV e o:ay)(q:Option cb)(g p:ay)(us:Z'),us.length=r.length->Zu (Vw x c (bW m) (bw m) (aQ m) .none kV e o q g p) ⟨us,[]⟩=pure (r.zip us)):Binds K fd r []:=by
 obtain⟨y,B,kV,e,o,q,g,p,v,rfl,lk,u⟩:=F.ex;exact .all (h kV e o q g p)
theorem wu{e:Str}{m:q0}{f:cb}{v:ay}{y u:Option cb}{q:Array (Option ay)}{kV o p g r:ay}(l:K.lookup f=ap ⟨v,y,.func (Vw x e (bW m) (bw m) (aQ m) .none kV o p u g r),q⟩)(c:WU K g e=true)(k:Ur K (.ref f)=true):Fun K x e m f (Vw x e (bW m) (bw m) (aQ m) .none kV o p u g r):=⟨⟨v,y,kV,_,p,u,_,r,_,rfl,l,c⟩,k⟩
end
theorem uz{k:Nat}(c:Room k A):A.units+1<cLine:=Nat.lt_of_le_of_lt (Nat.add_le_add_left (by decide) _) c.units
section
theorem Cg:bp X (.builtin "len") (λxs H Q=>∃a Z2,xs=[V.ref a]/\H a=ap (.dK Z2)/\Q (.int Z2.length) H):=by
 intro Z0 s Z H xs g Q I r h;obtain⟨a,Z2,rfl,e,q⟩:=h;obtain⟨u,rfl,c⟩:=gh r;cases c;exact Sz I (.inl e) λt f I'=>⟨.int Z2.length,H,I',⟨t,rfl⟩,q⟩
end
section
variable{κ:Type}[DecidableEq κ]
end
section
variable{R:Zk->ca->Prop}
theorem sf{elt target iter:fv}{ifs:aab}{it Z3:ay}{env:Env}(I:Nat->ca->Prop)(turn:∀n s,I n s->cT (eC prog w) A (z6 it) (λr s₁=>match r with
   |none=>R (.ok .next) s₁
   |some v=>cT (eC prog w) A (U' target it v) (λ_ s₂=>cT (eC prog w) A (Zj target env v) (λ_ s₃=>
     cT (eC prog w) A (forIn ifs true λc r=>if r=true then do let ok <- ZL c env (fx c env);pure (V7 ok) else pure (V7 r)) (λok s₄=>
      if ok=true then cT (eC prog w) A (fx elt env) (λx s₅=>
       cT (eC prog w) A (call (.builtin "list.append") [Z3,x]) (λ_ s₆=>∃m,m<n/\I m s₆) (λ_ _=>False) s₅) (λ_ _=>False) s₄
      else ∃m,m<n/\I m s₄) (λ_ _=>False) s₃) (λ_ _=>False) s₂) (λ_ _=>False) s₁) (λ_ _=>False) s)(n:Nat)(h:I n s):
  z5 (eC prog w) A (.compLoop (.ListComp elt [⟨target,iter,ifs,0⟩] scope pos) 0 it Z3 env) R s:=by
 refine codeAny_loop rfl I (λn s hI=>?_) n h;show cT _ A _ _ _ s;refine wpAny_noted ?_;rw[compTurn_list];refine ax (W'<|wpAny_bind<|wpAny_mono (turn n s hI) (λr s₁ h₁=>?_)<|by lia)
 cases r with
 |none=>exact cx h₁
 |some v=>
  refine ax (kB h₁ (λ_ s₂ h₂=>ax (kB h₂ (λ_ s₃ h₃=>ax (kB h₃ (λok s₄ h₄=>?_)<|by lia))<|by lia))<|by lia)
  cases ok with
  |false=>exact cx (by trivial)
  |true=>
   exact ax (ax<|wpAny_mono h₄ (λx s₅ h₅=>ax (kB h₅ (λ_ s₆ h₆=>cx (cx<|by trivial))<|by lia))<|by lia)
end
noncomputable def a_(X:Cx)(N:Z_)(scope:F')(cl:List (Str×cb))(C:cb)(s₀:ca)(H₀:Hp)(fp:aaa)(pl:aae):Cx where
 prog:=X.prog
 w:=X.w
 K:=X.K
 mg:=X.mg
 base:=X.base
 A:=X.A
 N:=N
 s₀:=s₀
 H₀:=H₀
 env:=compEnvC scope cl C X.env
 outer:=X.stack
 stack:=X.stack
 ex:=fp
 fn:=λ_=>cp
 calm:=X.calm
 pn:=X.pn++pl
 xe:=λ_ _=>False
inductive Frees(X:Cx)(scope:F'):List Str->List Nat->Prop where
 |nil:Frees X scope [] []
 |cons {x:Str} {j:Nat} {xs:Z_} {js:List Nat}:X.N[j]?=ap x->(X.env.kindOf x=ap .cell\/X.env.kindOf x=ap .free)->
   ((T0 scope X.env).names.lookup x=ap .cell\/(T0 scope X.env).names.lookup x=ap .free)->Frees X scope xs js->Frees X scope (x::xs) (j::js)
theorem Frees.length:∀{xs:Z_}{c:List Nat},Frees X scope xs c->xs.length=c.length:=by
 intro xs c h
 induction h with
 |nil=>rfl
 |cons _ _ _ _ ih=>exact congrArg (·+1) ih
theorem Frees.get:∀{xs:Z_}{e:List Nat},Frees X scope xs e->∀{i:Nat}{x:Str},xs[i]?=ap x->∃j,e[i]?=ap j/\X.N[j]?=ap x/\(X.env.kindOf x=ap .cell\/X.env.kindOf x=ap .free)/\
   ((T0 scope X.env).names.lookup x=ap .cell\/(T0 scope X.env).names.lookup x=ap .free):=by
 intro xs e h
 induction h with
 |nil=>intro i x h;simp at h
 |cons a b c _ ih=>
  intro i x h;cases i with
  |zero=>simp at h;subst h;exact⟨_,rfl,a,b,c⟩
  |succ i=>
   obtain⟨j,g,f⟩:=ih (i:=i) (x:=x) (by simpa using h)
   exact⟨j,by simpa using g,f⟩
noncomputable def eB(ls:Z_)(js:List Nat)(Z:St):St:=ls.map (λ_=>bb)++js.map λj=>(Z[j]?).join
structure CompOk(X:Cx)(scope:F')(cl:List (Str×cb))(ls fs:Z_)(js:List Nat):Prop where
 kind:scope.kind=.function
 nocell:∀y∈scope.names,y.2≠.cell
 locs:∀x∈scope.names,x.2=.local->scope.names.lookup x.1=ap .local
 clos:Za scope X.env=pure cl
 cells:∀x c,cl.lookup x=ap c->X.env.cells.lookup x=ap c
 has:∀x,((T0 scope X.env).names.lookup x=ap .cell\/(T0 scope X.env).names.lookup x=ap .free)->∃c,cl.lookup x=ap c
 frees:Frees X scope fs js
theorem GZ{cl:List (Str×cb)}{ls fs:Z_}{Y:List Nat}{g:fy}{m:aaf}{t':Nat}(I:Inv X Z0 Z H s)(co:CompOk X scope cl ls fs Y)(B:∀b∈fp,j7 X Z0 H b/\b<s.heap.objs.size)(W:g.Ns s.heap.objs.size m)(C:∀b o,s.heap.get? b=ap o->g.get? b=ap o):
  Inv (a_ X (ls++fs) scope cl s.heap.objs.size s H fp Z0) [] (eB ls Y Z) H { s with heap:=g,toks:=t' }:=by
 refine⟨⟨I.ok.mod,co.kind,I.ok.glob,I.ok.blt,SO _,λx y c L G=>?_,λx J=>co.has x J,λx c h _=>absurd (show cp=true from h) VP,I.ok.hd,I.ok.frames,.inl rfl,λb r=>⟨SY (B b r).2,λx c e=>?_⟩,
   λb o e=>I.bs b o e,SX I.ok.bsz I.sz,λb o e r=>?_,λb r hf=>?_,I.stack,λb r=>I.stkFree b r⟩,
  rfl,I.bare,Un.kept C,⟨m,W,λi x v L G h3=>?_⟩,λx c e=>?_,I.hok.fresh (SO _),λx c e=>I.freeC x c (co.cells x c e),λp hp=>?_,I.hok.kept C,?_⟩
 .exact I.ok.inj x y c (co.cells x c L) (co.cells y c G)
 .exact(B b r).1.2.2.2.2.1 x c (co.cells x c e)
 .obtain⟨f0,f1,f2,f3,_⟩:=(B b r).1
  rcases f3 with z|z
  .exact I.ok.noex b o e z
  .exact absurd (Tc (SI (I.ok.bs b o e).1) z) (TN _)
 .obtain⟨f0,f1,f2,f3,_⟩:=(B b r).1
  rcases SQ.mp (I.stkSub b hf) with z|z
  .exact f1 z
  .exact f2 z
 .have hi:¬i<ls.length:=λhi=>by
   have f:=G;unfold eB at f
   grind
  have hN:fs[i-ls.length]?=ap x:=by
   have O:(ls++fs)[i]?=ap x:=L
   rwa [Ui (by lia)]at O
  obtain⟨j,hj,J,hc,hl⟩:=co.frees.get hN;have M:Z[j]?=ap (ap v):=by
   have f:=G;unfold eB at f;rw[Ui (by simpa using hi),SH,SN,hj]at f
   have q:(Z[j]?).join=ap v:=by simpa using f
   cases e:Z[j]? with
   |none=>rw[e]at q;cases q
   |some o=>simp_all
  obtain⟨mX,_,U⟩:=I.loc;have N:PR X.env.scope x:=by
   rcases hc with z|z
   .exact .inr (.inl z)
   .exact .inr (.inr z)
  obtain⟨u,ru,lo⟩:=U j x v J M N;refine⟨u,ru,.inr ⟨hl,?_⟩⟩;obtain⟨c,ec⟩:=co.has x hl;refine⟨c,ec,?_⟩;rcases lo with⟨kl,_⟩|⟨_,c',e',z⟩
  .simp_all
  .rw[co.cells x c ec]at e'
   cases e';obtain⟨o,R,hd⟩:=z;exact⟨o,C _ _ R,hd⟩
 .obtain⟨v,o,R,hd⟩:=I.cell x c (co.cells x c e)
  exact⟨v,o,C _ _ R,hd⟩
 .have T:p∈X.pn++Z0:=by
   have q:p∈(X.pn++Z0)++[]:=hp;simpa using q
  obtain⟨e,n,ne,nf,d⟩:=I.pin p T;refine⟨C _ _ e,n,(λb o e=>SY (SI e)) _ _ e,λr=>?_,d⟩;rcases SQ.mp (I.stkSub p.1 r) with z|z
  .exact ne z
  .exact nf z
 .show (eB ls Y Z).length=(ls++fs).length
  unfold eB;rw[Tq,SH,SH,Tq,co.frees.length]
def Mw(X:Cx)(ifs:aab)(t:TT):Prop:=
 ∀(Z0:aae)(s:ca)(Z:St)(H:Hp)(Q:Bool->Hp->Prop),Inv X Z0 Z H s->t Z H Q->
  cT (eC X.prog X.w) X.A (forIn ifs true λc r=>if r=true then do let ok <- ZL c X.env (fx c X.env);pure (V7 ok) else pure (V7 r)) (TP X Z0 Z Q) X.xe s
def tAll:TT:=λ_ H Q=>Q true H
theorem Ko:Mw X [] tAll:=λ_ _ _ H _ I h=>wpAny_tests_nil ⟨H,I,h⟩
theorem JF{c:fv}{t:TT}(h:PT X c t):Mw X [c] t:=λZ0 s Z H Q I q=>wpAny_tests_one (h _ s Z H Q I q)
def G1(wi:TI)(ls:Z_)(js:List Nat)(g:TG)(tt:TT)(te:TE):TE:=λZ H Q=>wi Z H λJ H1=>∀p,H1 p=bb->∃W:Nat->Nat->St->Hp->Prop,(∃m,W 0 m (eB ls js Z) (upd H1 p<|.lst []))/\∀i m σ' H',W i m σ' H'->
 (J.stop i H'/\Q (.ref p) H')\/(J.go i H'/\∃N:St->Hp->Prop,(∀σ2 H2,N σ2 H2->∃m',m'<m/\W (i+1) m' σ2 H2)/\∀x H2,J.yld i H' x H2->g x σ' H2 λe H3=>tt e H3 λc H4=>
  if c=true then te e H4 λy H5=>∃ys,H5 p=ap (.lst ys)/\ys.length<sizeLine/\N e (upd H5 p<|.lst (ys++[y])) else N e H4)
section
variable{tg iter elt:fv}{ifs:aab}{cl:List (Str×cb)}{ls fs:Z_}{js:List Nat}{wi:TI}{g:TG}{tt:TT}{te:TE}
theorem ui{f:ca}{tn:Nat->fy->Prop}{J:It}{H1:Hp}{R:ay->cb->Zk->ca->Prop}{Q:VK}{E:aad}(hc:X.calm=true)(co:CompOk X scope cl ls fs js)(hY:∀(C:cb)(s₀:ca)(H₀:Hp)(fp:aaa)(pl:aae),PG (a_ X (ls++fs) scope cl C s₀ H₀ fp pl) tg g/\Mw (a_ X (ls++fs) scope cl C s₀ H₀ fp pl) ifs tt/\PE (a_ X (ls++fs) scope cl C s₀ H₀ fp pl) elt te)(I:Inv X Z0 Z H1 f)(T:Turn X.prog X.w X.K tg J fp it tn)(st:tn 0 f.heap)(hf:∀b∈fp,j7 X Z0 H1 b)(q:∀p,H1 p=bb->∃W:Nat->Nat->St->Hp->Prop,(∃m,W 0 m (eB ls js Z) (upd H1 p<|.lst []))/\∀i m L H',W i m L H'->
   (J.stop i H'/\Q (.ref p) H')\/(J.go i H'/\∃N:St->Hp->Prop,(∀σ2 H2,N σ2 H2->∃m',m'<m/\W (i+1) m' σ2 H2)/\∀x H2,J.yld i H' x H2->g x L H2 λσ3 H3=>tt σ3 H3 λc H4=>
    if c=true then te σ3 H4 λy H5=>∃ys,H5 p=ap (.lst ys)/\ys.length<sizeLine/\N σ3 (upd H5 p<|.lst (ys++[y])) else N σ3 H4))(hR:∀(p C:cb)(H':Hp)(s':ca)(m:aaf),s'.heap.Ns C m->Inv X Z0 Z H' s'->H' C=bb->C≠X.env.locals->X.s₀.heap.objs.size<=C->(∀x c,X.env.cells.lookup x=ap c->c≠C)->(∀pp∈X.pn++Z0,pp.1≠C)->Q (.ref p) H'->R (.ref p) C (.ok .next) s'):
  cT (eC X.prog X.w) X.A (newList []) (λZ3 s₃=>cT (eC X.prog X.w) X.A (newFunctionEnv scope X.env.globals cl [] X.env.qual bb .none<|some X.env) (λcenv s₄=>
   z5 (eC X.prog X.w) X.A (.compStart (.ListComp elt [⟨tg,iter,ifs,0⟩] scope pos) 0 (.ref it) Z3 { cenv with scope:=T0 scope X.env }) (R Z3 cenv.locals) s₄) E s₃) E f:=by
 have hp0:H1 f.heap.objs.size=none:=I.hok.fresh (SO _);obtain⟨W,⟨m0,w0⟩,turn⟩:=q f.heap.objs.size hp0;refine pt (wpAny_newFunctionEnv co.nocell (by intro y hy;simp at hy) (λG hns1 Y=>?_) co.kind)
 dsimp only at hns1 Y ⊢;have I3:Inv X Z0 Z (upd H1 f.heap.objs.size<|.lst []) { f with heap:=f.heap.push { cls:=.type "list",dict:=bb,data:=.seq ([]:Z').toArray } }:=
  I.lnew (Z6:=[]) (t':=f.toks) .nil (Uj _)
 generalize hs3:({ f with heap:=f.heap.push { cls:=.type "list",dict:=bb,data:=.seq ([]:Z').toArray } }:ca)=s3 at I3;have hh3:f.heap.push { cls:=.type "list",dict:=bb,data:=.seq ([]:Z').toArray }=s3.heap:=by rw[<- hs3]
 rw[hh3]at hns1 Y ⊢;have hsz3:s3.heap.objs.size=f.heap.objs.size+1:=by rw[<- hh3,Ug]
 have hk3:∀b o,f.heap.get? b=ap o->s3.heap.get? b=ap o:=λb o e=>by rw[<- hh3];exact SF _ e
 have hlt:∀b∈fp,b<f.heap.objs.size:=λb B=>by
  obtain⟨o,e,_⟩:=T.obj _ _ st b B;exact SI e
 have hnp:∀b∈fp,upd H1 f.heap.objs.size (.lst []) b=none:=λb B=>by
  rw[aD (SY<|hlt b B)];exact(hf b B).1
 have hf3:∀b∈fp,j7 X Z0 (upd H1 f.heap.objs.size<|.lst []) b/\b<s3.heap.objs.size:=λb B=>⟨⟨hnp b B,(hf b B).2⟩,by rw[hsz3];exact UU (hlt b B)⟩
 have hk4:∀b o,s3.heap.get? b=ap o->G.get? b=ap o:=λb o e=>Y.extBut b o (SY<|SI e) (SF _ e);have st4:tn 0 G:=T.keep _ _ _ st λb B o e=>hk4 b o (hk3 b o e);have I4:=GZ (t':=s3.toks) I3 co hf3 hns1 hk4;obtain⟨hg,ht,he⟩:=hY s3.heap.objs.size s3 (upd H1 f.heap.objs.size<|.lst []) fp Z0;have O:∀{H':Hp},(∀b∈fp,H' b=bb)->∀b∈fp,j7 (a_ X (ls++fs) scope cl s3.heap.objs.size s3 (upd H1 f.heap.objs.size<|.lst []) fp Z0) [] H' b:=λ{H'} hn b B=>by
  obtain⟨f0,f1,f2,f3,f4,f5⟩:=hf b B;refine⟨hn b B,SY (hf3 b B).2,λz=>?_,.inl B,λx c e=>f4 x c (co.cells x c e),λpp hp=>f5 pp ?_⟩
  .rcases SQ.mp (I3.stkSub b z) with y|y
   .exact f1 y
   .exact f2 y
  .have q:pp∈(X.pn++Z0)++[]:=hp
   simpa using q
 have loop:∀s₄:ca,s₄={ s3 with heap:=G,toks:=s3.toks }->
   z5 (eC X.prog X.w) X.A (.compLoop (.ListComp elt [⟨tg,iter,ifs,0⟩] scope pos) 0 (.ref it) (.ref f.heap.objs.size)<|compEnvC scope cl s3.heap.objs.size X.env) (R (.ref f.heap.objs.size) s3.heap.objs.size) s₄:=by
  rintro s₄ rfl
  refine sf (λn s'=>∃i L H',Inv (a_ X (ls++fs) scope cl s3.heap.objs.size s3 (upd H1 f.heap.objs.size<|.lst []) fp Z0) [] L H' s'/\tn i s'.heap/\(∀b∈fp,H' b=bb)/\W i n L H') ?_ m0 ⟨0,_,_,I4,st4,hnp,w0⟩
  rintro n s5 ⟨i,σ5,H5,I5,st5,fr5,w5⟩
  rcases turn i n σ5 H5 w5 with⟨stop,qn⟩|⟨go,N,hN,step⟩
  .refine bu (T.done (a_ X (ls++fs) scope cl s3.heap.objs.size s3 (upd H1 f.heap.objs.size<|.lst []) fp Z0) rfl rfl rfl hc i [] s5 σ5 H5 _ I5 (O fr5) st5 stop) λr s6 M=>?_
   obtain⟨hr,I6⟩:=M;subst hr;obtain⟨m6,hn6,_⟩:=I6.loc;have IX:Inv X Z0 Z H5 s6:=I3.call' I6.os I6.base I6.hok I6.bare λb B=>⟨(hf b B).2.2.2.1,(hf b B).2.1,(hf b B).2.2.2.2.1,(hf b B).2.2.2.2.2⟩;refine hR _ _ H5 s6 m6 hn6 IX I6.free (Vj I3.lt) I3.sz (λx c e z=>?_) (λpp hp z=>?_) qn
   .obtain⟨v,M⟩:=I3.cell x c e
    have zl:=M.lt;rw[z]at zl;exact TN _ zl
   .have zl:=SI (I3.pin pp hp).1
    rw[z]at zl;exact TN _ zl
  .refine bu (T.item (a_ X (ls++fs) scope cl s3.heap.objs.size s3 (upd H1 f.heap.objs.size<|.lst []) fp Z0) rfl rfl rfl hc i [] s5 σ5 H5 _ I5 (O fr5) st5 go) λr s6 M=>?_
   obtain⟨u,hr,h6⟩:=M;subst hr;refine bu h6 λ_ s7 M=>?_;obtain⟨x,H7,I7,r7,y7,st7,fr7⟩:=M;have I7':=I7.pinned (O fr7) (T.obj _ _ st7);refine bu (hg _ s7 σ5 H7 x u _ I7' r7<|step x H7 y7) λ_ s8 M=>?_;obtain⟨σ8,H8,I8,q8⟩:=M
   have again:∀{U:St}{H9:Hp}{s9:ca},Inv (a_ X (ls++fs) scope cl s3.heap.objs.size s3 (upd H1 f.heap.objs.size<|.lst []) fp Z0) ([]++nE fp s7.heap) U H9 s9->N U H9->
     ∃m,m<n/\∃i L H',Inv (a_ X (ls++fs) scope cl s3.heap.objs.size s3 (upd H1 f.heap.objs.size<|.lst []) fp Z0) [] L H' s9/\tn i s9.heap/\(∀b∈fp,H' b=bb)/\W i m L H':=λ{U H9 s9} I9 n9=>by
    obtain⟨m',hm,w9⟩:=hN U H9 n9;refine⟨m',hm,i+1,U,H9,I9.unpinned,T.keep _ _ _ st7 λb B o e=>(I9.pin (b,o)<|TV _<|TV _<|fE B e).1,λb B=>?_,w9⟩;obtain⟨o,e,d⟩:=T.obj _ _ st7 b B;exact(I9.pin (b,o)<|TV _<|TV _<|fE B e).2.1
   refine bu (ht _ s8 σ8 H8 _ I8 q8) λok s9 M=>?_;obtain⟨H9,I9,q9⟩:=M;cases ok with
   |false=>exact again I9 q9
   |true=>
    refine bu (he _ s9 σ8 H9 _ I9 q9) λxv s10 M=>?_;obtain⟨y,H10,I10,r10,ys,hp,hl,n10⟩:=M;obtain⟨z,Z6,n',r,hl',e⟩:=I10.lstM hp;refine qa Wq ⟨_,e,rfl⟩ F.entry_list_append (F.args_list_append_2 _ _) (Ye f.heap.objs.size Z6.toArray n' xv<|by rw[SW];lia) ⟨e,?_⟩
    refine again (I10.lset (its':=Z6++[xv]) hp e (by simp) (r.append<|.cons r10 .nil) ?_) n10
    rw[Tq,UA];lia
 have se:({ f with heap:=G,toks:=f.toks+([]:List (Str×ay)).length }:ca)={ s3 with heap:=G,toks:=s3.toks }:=by rw[<- hs3];rfl
 exact codeAny_compStart_list (loop _ se) (T.self _ 0 _ _ _ st4<|loop _ se)
theorem IL(hc:X.calm=true)(co:CompOk X scope cl ls fs js)(hi:PI X tg iter wi)(hY:∀(C:cb)(c:ca)(H₀:Hp)(fp:aaa)(pl:aae),PG (a_ X (ls++fs) scope cl C c H₀ fp pl) tg g/\Mw (a_ X (ls++fs) scope cl C c H₀ fp pl) ifs tt/\PE (a_ X (ls++fs) scope cl C c H₀ fp pl) elt te)(hs:∀x,py iter X.env x=pure x:=by intro _;rfl):PE X (.ListComp elt [⟨tg,iter,ifs,0⟩] scope pos) (G1 wi ls js g tt te):=by
 intro Z0 s Z H Q I h;rw[eval_ListComp];refine Zy (use:=bb) rfl hs co.clos co.kind co.locs (bu (hi Z0 s Z H _ I h) λxv s1 B=>bu B λitv s2 L=>?_);obtain⟨it,fp,tn,J,H2,e,I2,T,u,M,q⟩:=L;subst e;refine ui (R:=λv C=>compPost (eC X.prog X.w) X.A X.xe bb (EP X Z0 Z Q) v C) (Q:=Q) hc co hY I2 T u M q ?_;intro p C H' G m O IX N hL y f r U;exact⟨m,O,λh' Y=>⟨.ref p,H',IX.turned (t':=G.toks) (λb o W e=>Y.extBut b o W e) N hL (.inr y) f r,rfl,U⟩⟩
def NL(i:Nat)(t:TE):TS:=λD Z H=>t Z H λv H1=>D.nx (Z.set i<|some v) H1
theorem JW{U o:Pos}(hN:X.N.Nodup)(R:X.N[i]?=ap x)(hx:Dh X.env.scope x)(hc:X.calm=true)(co:CompOk X scope cl ls fs js)(hi:PI X tg iter wi)(hY:∀(C:cb)(f:ca)(H₀:Hp)(fp:aaa)(pl:aae),PG (a_ X (ls++fs) scope cl C f H₀ fp pl) tg g/\Mw (a_ X (ls++fs) scope cl C f H₀ fp pl) ifs tt/\PE (a_ X (ls++fs) scope cl C f H₀ fp pl) elt te)(O:re (.ListComp elt [⟨tg,iter,ifs,0⟩] scope pos) (ap<|.Name x U) o.line X.env=pure true:=by rfl)(hs:∀x,py iter X.env x=pure x:=by intro _;rfl)(hf:X.fn x=true\/X.env.scope.names.lookup x=ap .local:=by and_intros):
  PS X (.Assign [.Name x U] (.ListComp elt [⟨tg,iter,ifs,0⟩] scope pos) o) (NL i<|G1 wi ls js g tt te):=by
 intro Z0 s Z H D I h;rw[exec_Assign_Name_used _ _ _ _ O];refine ax (W'<|wpAny_bind ?_)
 refine ax (kB (Zy rfl hs co.clos co.kind co.locs
  (bu (hi _ s Z H _ I h) λxv s1 W=>bu W λitv s2 h2=>?_)) (λ_ Y B=>cx (cx B)) λ_ _ e=>e)
 obtain⟨it,fp,tn,J,H2,e,I2,T,u,f2,q⟩:=h2;subst e;refine ui (Q:=λv=>D.nx (Z.set i<|some v)) hc co hY I2 T u f2 q ?_;intro p C H' Y m hn IX hC hL L c r B;refine wpAny_assign_Name (pR IX hN R hx (v:=.ref p) rfl (λs'' I'' hb=>?_) hf);obtain⟨a,sb,ha⟩:=hb;have G:C≠a:=by
  rcases ha with z|z
  .simp_all
  exact λy=>c x a z y.symm
 refine⟨m,hn.sameBut sb G,λh3 M=>?_⟩;exact⟨_,H',I''.turned (M.extBut) hC hL (.inr L) c r,B⟩
end
def SrcTn(b:Bool)(it a:cb)(i:Nat)(h:fy):Prop:=if b=true then h.IsListIter it a i else h.IsTupleIter it a i
def SrcSq(b:Bool)(h:fy)(a:cb)(items:aag):Prop:=if b=true then h.IsList a items else h.IsTuple a items
theorem SrcTn.lt(x:SrcTn b it a i h):∃o,h.get? it=ap o/\∀v,o.data≠.cell v:=by
 cases b with
 |true=>obtain⟨o,e,c,d⟩:=x;exact⟨o,e,λv z=>by simp_all⟩
 |false=>obtain⟨o,e,c,d⟩:=x;exact⟨o,e,λv z=>by simp_all⟩
theorem SrcTn.keep(x:SrcTn b it a i h)(k:∀o,h.get? it=ap o->h'.get? it=ap o):SrcTn b it a i h':=by
 cases b with
 |true=>obtain⟨o,e,r⟩:=x;exact(⟨o,k o e,r⟩)
 |false=>obtain⟨o,e,r⟩:=x;exact(⟨o,k o e,r⟩)
theorem SrcSq.keep(x:SrcSq b h a items)(k:∀o,h.get? a=ap o->h'.get? a=ap o):SrcSq b h' a items:=by
 cases b with
 |true=>obtain⟨o,e,r⟩:=x;exact(⟨o,k o e,r⟩)
 |false=>obtain⟨o,e,r⟩:=x;exact(⟨o,k o e,r⟩)
section
theorem iF{x:ay}(c:s.heap.IsTupleIter it l i)(q:s.heap.IsTuple l items)(r:items[i]?=ap x)(hQ:∀h',h'.IsTupleIter it l (i+1)->Uh it s.heap h'->Q x { s with heap:=h' }):cT (eC prog w) A (T4<|.ref it) Q E s:=by
 obtain⟨o,f,p,e⟩:=id c;obtain⟨v,m,_,u,g⟩:=q
 refine ax (wpAny_callSpecial?_slot c.typeIs U1
  (mu U1 c.typeIs Xx ?_<|Xp _))
 show cT _ _ (ZW _ 0 >>= _) _ _ s;refine ax (k6 f e rfl ?_);refine ax (k6 f e rfl ?_);refine ax (mo m g ?_);simp[r];exact ax (Zq f e (by simp)<|wpAny_pure ⟨x,rfl,cx<|hQ _ ⟨_,T9 _ f (XW<|VS e _),(Obj.cls_mapFields ..).trans p,by
  rw[VS e];simp[x9]⟩<|Ul ..⟩)
theorem j5(r:A.handled=bb)(c:s.heap.IsTupleIter it l i)(u:s.heap.IsTuple l items)(v:items[i]?=bb)(hE:∀h' e,VY it s.heap h'->(∃o,h'.get? e=ap o/\o.cls=.type "StopIteration")->E (.ref e) { s with heap:=h' }):cT (eC prog w) A (T4<|.ref it) Q E s:=by
 obtain⟨o,f,C,p⟩:=id c;obtain⟨B,q,_,y,g⟩:=u
 refine ax (wpAny_callSpecial?_slot c.typeIs U1
  (mu U1 c.typeIs Xx ?_<|Xp _))
 show cT _ _ (ZW _ 0 >>= _) _ _ s;refine ax (k6 f p rfl ?_);refine ax (k6 f p rfl ?_);refine ax (mo q g ?_);simp[v];refine ax (T'<|wpAny_bind<|wpAny_setField f p (by simp) ?_)
 refine ax ?_;refine ax (m:=Zt _ _) (K' (by rfl) ?_)
 refine pt ?_ (by size_fits)
 refine ax (Zx ?_)
 first|rw[r]|rw[r]
 exact ax (cx<|wpAny_throw<|hE _ _ (((Ul ..).extBut.push _).push _) ⟨_,SK _ rfl,rfl⟩)
theorem fG{x:ay}(c:SrcTn b it l i s.heap)(e:SrcSq b s.heap l items)(f:items[i]?=ap x)(g:∀h',SrcTn b it l (i+1) h'->Uh it s.heap h'->Q x { s with heap:=h' }):cT (eC prog w) A (T4<|.ref it) Q E s:=by
 cases b with
 |true=>exact wpAny_nextOf_list_item c e f g
 |false=>exact iF c e f g
theorem dy(p:A.handled=bb)(c:SrcTn b it l i s.heap)(m:SrcSq b s.heap l items)(f:items[i]?=bb)(g:∀h' e,VY it s.heap h'->(∃o,h'.get? e=ap o/\o.cls=.type "StopIteration")->E (.ref e) { s with heap:=h' }):cT (eC prog w) A (T4<|.ref it) Q E s:=by
 cases b with
 |true=>exact wpAny_nextOf_list_end p c m f g
 |false=>exact j5 p c m f g
noncomputable def h_(b:Bool):String:=if b=true then "list_iterator" else "tuple_iterator"
theorem fC(c:SrcSq b s.heap l items)(e:Q (.ref s.heap.objs.size) { s with heap:=s.heap.push { cls:=.type (h_ b),data:=.fields #[.ref l,.int 0 0] } }):cT (eC prog w) A (UF<|.ref l) Q E s:=by
 cases b with
 |true=>exact ra c e
 |false=>exact wpAny_pyIter_tuple c e
theorem Bx(e:h.get? it=ap { cls:=.type (h_ b),data:=.fields #[.ref l,.int 0 0] }):SrcTn b it l 0 h:=by
 cases b with
 |true=>exact(⟨_,e,rfl,rfl⟩)
 |false=>exact(⟨_,e,rfl,rfl⟩)
theorem w6{M:Model}{o:Obj}{Q:Option Obj->ca->Prop}(c:s.heap.get? a=ap o)(h:Q (ap o) s):cT M A (loadIfAlive a) Q E s:=λΓ p _=>by
 show Sem.wp M Γ (.loadIfAlive a _) _ _ p s;rw[Sem.wp_loadIfAlive,c];exact h
end
structure ZS where
 b:Bool
 i:cb
 l:cb
abbrev g_(h:fy)(T:cb)(vs:Z'):Prop:=h.get? T=ap { cls:=.type "tuple",data:=.seq vs.toArray }
abbrev ox(z TI TO:cb)(S:List ZS):List Addr:=z::TI::TO::S.map ZS.i
structure ZOk(z TI TO:cb)(S:List ZS):Prop where
 nd:(ox z TI TO S).Nodup
 off:∀t∈S,t.l∉ox z TI TO S
 ne:S≠[]
 few:S.length<=3
abbrev ou(h:fy)(z TI TO:cb)(f0:ay)(f1:Bool):Prop:=
 h.get? z=ap { cls:=.type "zip",dict:=bb,data:=.fields #[f0,.bool f1,.bool cp,.ref TI,.ref TO],slots:=#[] }
def Hm(S:List ZS)(k:Nat)(h:fy):Prop:=∀t∈S,SrcTn t.b t.i t.l k h
section
theorem gG{α g:Type}{f:α->g->Sem (ForInStep g)}{xs:List α}{Q:g->ca->Prop}{M:Model}(b:Nat->g)(I:Nat->ca->Prop)
  (o:∀i x s,xs[i]?=ap x->I i s->cT M A (f x<|b i) (λr c=>r=.yield (b (i+1))/\I (i+1) c) E s) (m:∀c,I xs.length c->Q (b xs.length) c):
  ∀(n j:Nat)(s:ca),j+n=xs.length->I j s->cT M A (forIn (xs.drop j) (b j) f) Q E s
 |0,j,s,e,h=>by
  rw[Ve (by lia)]
  have:j=xs.length:=by lia
  subst this;exact cx (m s h)
 |n+1,j,s,e,h=>by
  have p:j<xs.length:=by lia
  rw[U5 p,List.forIn_cons];refine ax (kB (o j _ s (by simp) h) (λr c q=>?_) λ_ _ q=>q)
  obtain⟨rfl,q⟩:=q;exact gG b I o m n _ c (by lia) q
theorem mh{TI TO:cb}(D:ZOk z TI TO S):z≠TI/\z≠TO/\TI≠TO/\∀t∈S,t.i≠z/\t.i≠TI/\t.i≠TO:=by
 have:=D.nd;simp only[Us,SQ,not_or]at this;obtain⟨⟨a,b,c⟩,⟨d,e⟩,f,g⟩:=this;exact⟨a,b,d,λt m=>⟨λe=>c (e▸Tx m),λq=>e (q▸Tx m),λe=>f (e▸Tx m)⟩⟩
theorem Am{TI TO:cb}(D:ZOk z TI TO S){t u:ZS}(c:S[i]?=ap t)(f:S[j]?=ap u)(h:i≠j):t.i≠u.i:=by
 have nd:(S.map ZS.i).Nodup:=by have:=D.nd;simp only[Us]at this;exact this.2.2.2
 intro e;exact h ((List.getElem?_inj (by rw[SH];exact(TQ.1 c).1) nd).1<|by simp_all)
theorem uK{t:ZS}{k:Nat}{xs:aag}{o:Option ay}(p:A.handled=bb)(f:SrcTn t.b t.i t.l k s.heap)(g:SrcSq t.b s.heap t.l xs)(c:xs[k]?=o)(m:∀x h',o=ap x->SrcTn t.b t.i t.l (k+1) h'->Uh t.i s.heap h'->Q x { s with heap:=h' })(hE:∀h' e,o=bb->VY t.i s.heap h'->(∃o,h'.get? e=ap o/\o.cls=.type "StopIteration")->E (.ref e) { s with heap:=h' }):
  cT (eC prog w) A (T4<|.ref t.i) Q E s:=by
 cases o with
 |none=>exact dy p f g c λh' e q r=>hE h' e rfl q r
 |some x=>exact fG f g c λh' q r=>m x h' rfl q r
structure ZMid(S:List ZS)(F:ZS->Option ay)(k:Nat)(fp:aaa)(h₀:fy)(j:Nat)(h:fy):Prop where
 ahead:∀i t,S[i]?=ap t->SrcTn t.b t.i t.l (if i<j then k+1 else k) h
 got:∀i t,i<j->S[i]?=ap t->(F t).isSome=true
 frame:∀c o,c∉fp->h₀.get? c=ap o->h.get? c=ap o
 size:h.objs.size=h₀.objs.size
theorem ZMid.zero{k:Nat}(a:Hm S k h)(f:∀c o,c∉fp->h₀.get? c=ap o->h.get? c=ap o)(z:h.objs.size=h₀.objs.size):ZMid S F k fp h₀ 0 h:=
 ⟨λi t e=>by simpa using a t (T6 e),λi t q=>absurd q (Wm _),f,z⟩
theorem ZMid.at{k:Nat}(m:ZMid S F k fp h₀ j h){t:ZS}(e:S[j]?=ap t):SrcTn t.b t.i t.l k h:=by simpa using m.ahead j t e
theorem ZMid.go{k:Nat}(m:ZMid S F k fp h₀ j h)(i1:∀t∈S,∀o,h.get? t.i=ap o->h'.get? t.i=ap o)(f:∀c o,c∉fp->h.get? c=ap o->h'.get? c=ap o)(z:h'.objs.size=h.objs.size):ZMid S F k fp h₀ j h':=
 ⟨λi t e=>(m.ahead i t e).keep (i1 t<|T6 e),m.got,λc o n e=>f c o n (m.frame c o n e),z.trans m.size⟩
theorem ZMid.step{TI TO:cb}(D:ZOk z TI TO S){k:Nat}(m:ZMid S F k fp h₀ j h){t:ZS}(e:S[j]?=ap t)(p:t.i∈fp)(r:(F t).isSome=true)(v:SrcTn t.b t.i t.l (k+1) h')(b:Uh t.i h h'):ZMid S F k fp h₀ (j+1) h':=by
 refine⟨λi u f=>?_,λi u q f=>?_,λc o n q=>b.extBut c o (λx=>n (x▸p)) (m.frame c o n q),b.1.trans m.size⟩
 .by_cases g:i=j
  .simp_all
  have q:=(m.ahead i u f).keep λo x=>b.extBut _ o (Am D f e g) x
  by_cases lt:i<j
  .rw[if_pos lt]at q
   rw[if_pos (UU lt)];exact q
  rw[if_neg lt]at q;rw[if_neg (by lia)]
  exact q
 by_cases g:i=j
 .subst g
  cases e.symm.trans f;exact r
 exact m.got i u (by lia) f
theorem vZ{TI TO:cb}{Q:Option ay->ca->Prop}(m:ou s.heap z TI TO f0 f1)(h:cT (eC prog w) A.in1 (Builtin.«zip.__next__» ⟨[.ref z],[]⟩) (λfin s'=>∃v,fin=.done (.ret v)/\Q (ap v) s') (λe s'=>∃a,e=.ref a/\(∃o,s'.heap.get? a=ap o/\o.cls=.type "StopIteration")/\Q bb s') s):
  cT (eC prog w) A (z6<|.ref z) Q E s:=by
 have c:s.TypeIs (.ref z) _:=⟨_,m,rfl⟩;refine ax (B'<|wpAny_callSpecial?_slot c F.slot_zip_next<|wpAny_call_entry F.slot_zip_next c F.entry_zip_next (kB h (λfin s' q=>?_) λe s' q=>?_)<|F.args_zip_next_1 _)
 .obtain⟨v,rfl,q⟩:=q
  exact⟨v,rfl,cx q⟩
 obtain⟨a,rfl,⟨o,f,g⟩,q⟩:=q;exact ax (SC ⟨o,f,g⟩ V'<|wpAny_pure q)
theorem CH{TI TO:cb}{Q:Bool->ca->Prop}(c:ou s.heap z TI TO .none f1)(h:Q true s):cT (eC prog w) A (UO<|.ref z) Q E s:=by
 exact ax (k6 c rfl rfl<|wpAny_pure h)
theorem Cz{TI TO T:cb}{oT:Obj}{Q:Bool->ca->Prop}(hz:ou s.heap z TI TO (x9 T) f1)(hT:s.heap.get? T=ap oT)(h:∀h₀,ou h₀ z TI TO (x9 T) true->(∀c o,c≠z->s.heap.get? c=ap o->h₀.get? c=ap o)->h₀.objs.size=s.heap.objs.size->Q cp { s with heap:=h₀ }):cT (eC prog w) A (UO<|.ref z) Q E s:=by
 refine ax (k6 hz rfl rfl ?_);refine ax (w6 (by trivial) ?_)
 refine ax (k6 hz rfl rfl ?_);cases f1 with
 |true=>
  exact cx (h _ hz (λ_ _ _ e=>e) rfl)
 |false=>
  exact ax (om hz (by simp) λh₀ hz0 hs0=>cx (h _ hz0 hs0.extBut hs0.1))
theorem kZ{TI TO:cb}{k:Nat}{Q:Option ay->ca->Prop}(hh:A.handled=bb)(D:ZOk z TI TO S)(hz:ou s.heap z TI TO f0 f1)(hf:f0=.none/\f1=cp/\(∃vs:List ay,vs.length=S.length/\g_ s.heap TO vs)\/∃(T:cb)(oT:Obj),f0=x9 T/\s.heap.get? T=ap oT)(hTI:g_ s.heap TI (S.map λt=>.ref t.i))(h1:Hm S k s.heap)(hl:∀t∈S,∃xs,SrcSq t.b s.heap t.l xs/\xs[k]?=F t)(hQ:∀h' us,us.map ap=S.map F->(f0=.none/\Zo h' z TI TO (x9 s.heap.objs.size)/\g_ h' TO us\/f0≠.none/\ou h' z TI TO f0 true)->Hm S (k+1) h'->g_ h' s.heap.objs.size us->
   (∀c o,c∉z::TO::S.map ZS.i->s.heap.get? c=ap o->h'.get? c=ap o)->Q (ap<|.ref s.heap.objs.size) { s with heap:=h' })(hE:∀h',(∃t∈S,F t=bb)->(∀c o,c∉z::TO::S.map ZS.i->s.heap.get? c=ap o->h'.get? c=ap o)->Q bb { s with heap:=h' }):
  cT (eC prog w) A (z6<|.ref z) Q E s:=by
 obtain⟨zTI,zTO,TITO,W⟩:=mh D;have few:S.length<=sizeLine:=SX D.few (by decide)
 refine vZ hz ?_;show cT _ _ (ZW (.ref z) 2 >>= _) _ _ _;refine ax (k6 hz rfl (x:=.bool cp) rfl ?_);show cT _ _ (ZW (.ref z) 3 >>= _) _ _ _;refine ax (k6 hz rfl (x:=.ref TI) rfl ?_);refine ax (mo hTI rfl ?_);have hne:¬(S.map λt=>To t.i).toArray.isEmpty=true:=by have:=D.ne;simp[this]
 refine (congrArg (cT (eC prog w) A.in1 · _ _ s)<|if_neg hne).mpr ?_;show cT _ _ (UO (.ref z) >>= _) _ _ _;refine ax ?_;have hnd:∀t∈S,t.l∉z::TO::S.map ZS.i:=λt g q=>D.off t g (by
  simp only[ox,SQ]at q ⊢;exact q.imp id .inr)
 have B:∀{h h':fy}{c:cb}(b:cb),b∈z::TO::S.map ZS.i->(∀c o,c≠b->h.get? c=ap o->h'.get? c=ap o)->c∉z::TO::S.map ZS.i->∀o,h.get? c=ap o->h'.get? c=ap o:=λb hb k n o e=>k _ o (λx=>n (x▸hb)) e;have mi:∀{t:ZS},t∈S->t.i∈z::TO::S.map ZS.i:=λg=>by simp[Tx g]
 have fin:∀{us:Z'},us.length=S.length->(∀i t,i<S.length->S[i]?=ap t->us[i]?=F t)->(∀i t,i<S.length->S[i]?=ap t->(F t).isSome=true)->us.map ap=S.map F:=λ{us} Y G hs=>by
  refine V3 λi=>?_;rw[SN,SN];cases y:S[i]? with
  |none=>
   rw[VW]at y;rw[UB (by lia)]
   rfl
  |some t=>
   have il:i<S.length:=(TQ.1 y).1;have hs:=hs i t il y;rw[G i t il y];cases hF:F t with
   |none=>rw[hF]at hs;cases hs
   |some x=>simp[hF]
 have st:∀{h:fy},ZMid S F k (z::TO::S.map ZS.i) s.heap S.length h->Hm S (k+1) h:=λm t g=>by
  obtain⟨i,il,rfl⟩:=VD g;have q:=m.ahead i S[i] (by simp[il])
  rwa [if_pos il]at q
 rcases hf with⟨rfl,rfl,vs,hv,hTO⟩|⟨T,oT,rfl,hT⟩
 .refine CH hz ?_
  refine (congrArg (cT (eC prog w) A.in1 · _ _ s)<|if_pos rfl).mpr ?_;refine ax (T' ?_);refine ax (k6 hz rfl (x:=.ref TO) rfl ?_);refine ax (om hz (by simp) λR hz1 O=>?_)
  replace hz1:Zo R z TI TO .ellipsis:=hz1
  refine ax ?_
  refine gG (xs:=(S.map λt=>To t.i).toArray.toList.zipIdx) (λ_=>_)
   (λj s'=>∃h' us,s'={ s with heap:=h' }/\ZMid S F k (z::TO::S.map ZS.i) s.heap j h'/\Zo h' z TI TO .ellipsis/\g_ h' TO us/\us.length=S.length/\∀i t,i<j->S[i]?=ap t->us[i]?=F t)
   (λj x s' hx hI=>?_) (λs' hI=>?_) _ 0 _ (Wi _) ⟨R,vs,rfl,.zero (λt g=>(h1 t g).keep λo e=>O.extBut _ o (W t g).1 e) (λc o n e=>B z (.head _) O.extBut n o e) O.1,hz1,O.extBut _ _ zTO.symm hTO,hv,λi t q=>absurd q (Wm _)⟩
  .obtain⟨h',us,rfl,m,r,C,Y,G⟩:=hI
   simp only[X0,SN,T7,Wi]at hx;obtain⟨v,⟨t,y,rfl⟩,rfl⟩:=hx;have g:=T6 y;obtain⟨xs,hsq,hxs⟩:=hl t g;refine ax (wpAny_onRaise ?_);show cT _ _ (T4 (.ref t.i) >>= _) _ _ _;refine ax (uK hh (m.at y) (hsq.keep λo e=>m.frame _ o (hnd t g) e) hxs (λx p N h12 f=>cx ?_) λp e N f he=>?_)
   .have jl:j<S.length:=(TQ.1 y).1
    have J:g_ p TO us:=f.extBut _ _ (W t g).2.2.symm C;refine ax (mo J rfl ?_);refine ax (vr J rfl ?_ (by show us.toArray.size<=sizeLine;rw[SW,Y];exact few)<|by rw[Array.size_setIfInBounds,SW,Y];exact Nat.le_succ_of_le few)
    refine ax (V_<|wpAny_pure ⟨rfl,_,us.set j x,rfl,?_,?_,?_,by rw[UD,Y],λi u q eu=>?_⟩)
    all_goals have sb:Uh TO p (p.update TO<|Uv (·.setIfInBounds j x)):=Ul ..
    .exact(m.step D y (mi g) (by rw[N];rfl) h12 f).go (λu hu' o e=>sb.extBut _ o (W u hu').2.2 e) (λc o n e=>B TO (by simp) sb.extBut n o e) sb.1
    .exact sb.extBut _ _ zTO (f.extBut _ _ (W t g).1.symm r)
    .show Heap.get? _ _=_
     rw[T9 _ J rfl];simp[Uv]
    .rw[WG]
     by_cases ij:j=i
     .subst ij
      cases y.symm.trans eu;rw[if_pos rfl,if_pos (by lia),N]
     .rw[if_neg ij]
      exact G i u (by lia) eu
   .obtain⟨oe,hoe,hce⟩:=he
    have hz2:Zo p z TI TO .ellipsis:=f _ _ (W t g).1.symm r;have hez:e≠z:=λx=>by subst x;rw[hz2]at hoe;cases hoe;simp at hce
    exact om hz2 (by simp) λh₃ _ I=>⟨e,rfl,⟨oe,I.extBut _ _ hez hoe,hce⟩,hE h₃ ⟨t,g,N⟩ λc o n q=>B z (.head _) I.extBut n o (B _ (mi g) f n o<|m.frame c o n q)⟩
  .obtain⟨h',us,rfl,m,r,C,Y,G⟩:=hI
   rw[show (S.map λt=>To t.i).toArray.toList.zipIdx.length=S.length by simp]at m G
   refine ax (mo C rfl ?_);refine ax (L' ?_<|by simpa [Y] using few)
   have U:z<h'.objs.size:=SI r;show cT _ _ (VJ (.ref z) (.ref h'.objs.size) >>= _) _ _ _;refine ax ?_;unfold VJ;have hz8:Zo (h'.push { cls:=.type "tuple",data:=.seq us.toArray }) z TI TO .ellipsis:=SF _ r;refine ax (om hz8 (by simp) λh₉ hz9 hs9=>?_)
   replace hz9:Zo h₉ z TI TO (x9 h'.objs.size):=hz9
   refine om hz9 (by simp) λhA M hsA=>?_
   replace M:Zo hA z TI TO (x9 h'.objs.size):=M
   have up:∀c o,c≠z->h'.get? c=ap o->hA.get? c=ap o:=λc o c1 e=>hsA.extBut _ _ c1 (hs9.extBut _ _ c1<|SF _ e);have hTA:g_ hA h'.objs.size us:=hsA.extBut _ _ (Vj U) (hs9.extBut _ _ (Vj U)<|SK _ rfl);rw[m.size]at M hTA;refine cx ⟨_,rfl,?_⟩;show Q (ap<|.ref h'.objs.size) _;rw[m.size];exact hQ hA us (fin Y G m.got) (.inl ⟨rfl,M,up _ _ zTO.symm C⟩) (λt g=>(st m t g).keep λo e=>up _ o (W _ g).1 e) hTA λc o n e=>B z (.head _) up n o (m.frame c o n e)
 .refine Cz hz hT λh₀ hz0 L hs0=>?_
  refine (congrArg (cT (eC prog w) A.in1 · _ _ _)<|if_neg VP).mpr ?_;show cT _ _ (forIn (S.map λt=>To t.i).toArray _ _ >>= _) _ _ _;rw[<- Array.forIn_toList];refine ax ?_
  refine gG (xs:=(S.map λt=>To t.i).toArray.toList) (λj=>(bb,((S.map λt=>(F t).getD .none).take j).toArray))
   (λj s'=>∃h',s'={ s with heap:=h' }/\ZMid S F k (z::TO::S.map ZS.i) s.heap j h'/\ou h' z TI TO (x9 T) true)
   (λj x s' hx hI=>?_) (λs' hI=>?_) _ 0 _ (Wi _) ⟨h₀,rfl,.zero (λt g=>(h1 t g).keep λo e=>L _ o (W t g).1 e) (λc o n e=>B z (.head _) L n o e) hs0,hz0⟩
  .obtain⟨h',rfl,m,r⟩:=hI
   simp only[SN,T7]at hx;obtain⟨t,y,rfl⟩:=hx;have g:=T6 y;obtain⟨xs,hsq,hxs⟩:=hl t g;refine ax (kr ?_);show cT _ _ (T4 (.ref t.i) >>= _) _ _ _;refine ax (uK hh (m.at y) (hsq.keep λo e=>m.frame _ o (hnd t g) e) hxs (λx p N h12 f=>cx (cx ⟨?_,_,rfl,m.step D y (mi g) (by rw[N];rfl) h12 f,f.extBut _ _ (W t g).1.symm r⟩)) λp e N f he=>⟨e,rfl,he,hE p ⟨t,g,N⟩ λc o n q=>B _ (mi g) f n o (m.frame c o n q)⟩)
   rw[Xg,show (S.map λt=>(F t).getD .none)[j]?=ap x by rw[SN,y];simp[N]]
   simp
  .obtain⟨h',rfl,m,r⟩:=hI
   rw[show (S.map λt=>To t.i).toArray.toList.length=S.length by simp]at m ⊢
   rw[XH (by simp)]
   refine ax (L' (cx ⟨_,rfl,?_⟩)<|by simpa using few)
   have up:∀c o,h'.get? c=ap o->(h'.push { cls:=.type "tuple",data:=.seq (S.map λt=>(F t).getD .none).toArray }).get? c=ap o:=λc o e=>SF _ e;have hn:=SK h' (o:={ cls:=.type "tuple",data:=.seq (S.map λt=>(F t).getD .none).toArray }) rfl;show Q (ap<|.ref h'.objs.size) _;rw[m.size]at hn ⊢;refine hQ _ (S.map λt=>(F t).getD .none) (fin (by simp) (λi t il y=>?_) m.got) (.inr ⟨by simp[x9],up _ _ r⟩) (λt g=>(st m t g).keep λo e=>up _ o e) (by simpa using hn) λc o n e=>up _ _ (m.frame c o n e)
   have hs:=m.got i t il y;cases hF:F t with
   |none=>rw[hF]at hs;cases hs
   |some x=>simp[y,hF]
end
theorem OG{l:List α}(h:l.length=2):∃a b,l=[a,b]:=by
 cases l with
 |nil=>cases h
 |cons a l=>
  cases l<;>simp_all
theorem len3{l:List α}(h:l.length=3):∃a b c,l=[a,b,c]:=by
 cases l with
 |nil=>cases h
 |cons a l=>
  obtain⟨b,c,rfl⟩:=OG (by simpa using h)
  exact⟨a,b,c,rfl⟩
theorem ma(a b c:ay):XV "zip" ⟨[a,b,c],[]⟩=pure ():=by kernel_rfl
theorem oE(a b c:ay):SZ "zip.__new__" ⟨[.type "zip",a,b,c],[]⟩=pure ():=by kernel_rfl
theorem gW(a b c d:ay):WF "object.__init__" ⟨[a,b,c,d],[]⟩:=by
 unfold WF;rw[signature?_of (id:="object.__init__") (n:=['_','_','t','i','n','i','_','_']) (o:=['t','c','e','j','b','o']) (by kernel_rfl) F.owner_object];kernel_rfl
noncomputable def cS(n:Nat)(args:List (Bool×cb)):List ZS:=args.zipIdx.map λp=>⟨p.1.1,n+p.2,p.1.2⟩
theorem g5:(cS n args)[i]?=(args[i]?).map λp=>⟨p.1,n+i,p.2⟩:=by
 simp[cS,XU]
section
theorem tM{Q:List ay->ca->Prop}(B:∀p∈args,∃xs,SrcSq p.1 s.heap p.2 xs)(C:∀h',Hm (cS s.heap.objs.size args) 0 h'->(∀c o,s.heap.get? c=ap o->h'.get? c=ap o)->h'.objs.size=s.heap.objs.size+args.length->Q ((cS s.heap.objs.size args).map λt=>.ref t.i) { s with heap:=h' }):
  cT (eC prog w) A (Builtin.SmallTypes.iterAll (args.map λp=>.ref p.2)) Q E s:=by
 refine ax ?_
 refine gG (λj=>(((cS s.heap.objs.size args).take j).map λt=>To t.i).toArray)
  (λj q=>∃h',q={ s with heap:=h' }/\Hm ((cS s.heap.objs.size args).take j) 0 h'/\(∀c o,s.heap.get? c=ap o->h'.get? c=ap o)/\h'.objs.size=s.heap.objs.size+j)
  (λj x q r m=>?_) (λq m=>?_) _ 0 _ (Wi _) ⟨_,rfl,λt ht=>by simp at ht,λ_ _ e=>e,rfl⟩
 .obtain⟨h',rfl,g,k,f⟩:=m
  simp only[SN,T7]at r;obtain⟨p,u,rfl⟩:=r;obtain⟨xs,y⟩:=B p (T6 u);have v:(cS s.heap.objs.size args)[j]?=ap ⟨p.1,s.heap.objs.size+j,p.2⟩:=by rw[g5,u];rfl
  refine ax (kr<|fC (y.keep λo e=>k _ o e)<|wpAny_pure ⟨?_,_,rfl,λt ht=>?_,λc o e=>SF _ (k c o e),by rw[Ug,f];rfl⟩)
  .rw[Xg,v]
   simp[f]
  rw[Xg,v]at ht;rcases Tv.1 ht with ht|ht
  .exact(g t ht).keep λo e=>SF _ e
  have:=VL.1 ht;subst this;refine Bx ?_;rw[<- f];exact SK _ rfl
 obtain⟨h',rfl,g,k,f⟩:=m;have e:(cS _ _).take (args.map λp=>To p.2).length=cS s.heap.objs.size args:=XH (by simp[cS])
 rw[e]at g ⊢;refine cx (C h' g k<|by simpa using f)
end
theorem wl(args:List (Bool×cb))(g:args.length<=3):
  Zn (Builtin.«zip.__new__» ⟨.type "zip"::args.map λp=>.ref p.2,[]⟩) (λ_ R s=>(∀p∈args,∃xs,SrcSq p.1 s.heap p.2 xs)/\
   ∀h',Zo h' (s.heap.objs.size+args.length+2) (s.heap.objs.size+args.length) (s.heap.objs.size+args.length+1) .none->g_ h' (s.heap.objs.size+args.length) ((cS s.heap.objs.size args).map λt=>.ref t.i)->g_ h' (s.heap.objs.size+args.length+1) (args.map λ_=>.none)->
    Hm (cS s.heap.objs.size args) 0 h'->(∀c o,s.heap.get? c=ap o->h'.get? c=ap o)->R (.ok<|.ret<|.ref (s.heap.objs.size+args.length+2)) { s with heap:=h' }):=
 .of_wp λprog w A R s h=>by
  obtain⟨m,B⟩:=h;have r:=sub_zip;have v:=m;unfold Builtin.«zip.__new__»
  wp_walk using tM m
  intro h' y k f;have len:(cS s.heap.objs.size args).length<=3:=by simpa [cS] using g
  refine ax (L' ?_<|by rw[SH];exact SX len (by decide))
  refine ax (L' ?_<|by rw[SH,SH];exact SX len (by decide))
  unfold Builtin.SmallTypes.newRecord Builtin.SmallTypes.ownedTupleFields
  wp_walk
  refine⟨_,rfl,?_⟩;simp only[Ug,f];refine B _ ?_ ?_ ?_ (λt u=>(y t u).keep λo e=>SF _ (SF _<|SF _ e)) λc o e=>SF _ (SF _<|SF _<|k c o e)
  .have q:=SK ((h'.push { cls:=.type "tuple",data:=.seq ((cS s.heap.objs.size args).map λt=>To t.i).toArray }).push { cls:=.type "tuple",data:=.seq (((cS s.heap.objs.size args).map λt=>To t.i).map λ_=>Ub).toArray }) (o:={ cls:=.type "zip",data:=.fields #[.none,.bool cp,.bool cp,.ref (s.heap.objs.size+args.length),.ref (s.heap.objs.size+args.length+1)] }) rfl
   simp only[Ug,f]at q;exact q
  .refine SF _ (SF _ ?_)
   rw[<- f];exact SK _ rfl
  refine SF _ ?_;have q:=SK (h'.push { cls:=.type "tuple",data:=.seq ((cS s.heap.objs.size args).map λt=>To t.i).toArray }) (o:={ cls:=.type "tuple",data:=.seq (((cS s.heap.objs.size args).map λt=>To t.i).map λ_=>Ub).toArray }) rfl;simp only[Ug,f]at q;rw[show (args.map λ_=>Ub)=(((cS s.heap.objs.size args).map λt=>To t.i).map λ_=>Ub) from ?_]
  .exact q
  .rw[Tb,cS,Tb]
   exact V3 λi=>by simp[SN,X0];rfl
section
theorem pc(hn:args.length=2\/args.length=3)(hl:∀p∈args,∃xs,SrcSq p.1 s.heap p.2 xs)(h:∀h' z TI TO S,S.map (λt=>(t.b,t.l))=args->ZOk z TI TO S->Zo h' z TI TO .none->g_ h' TI (S.map λt=>.ref t.i)->g_ h' TO (S.map λ_=>.none)->Hm S 0 h'->(∀b∈ox z TI TO S,s.heap.objs.size<=b)->
   (∀c o,s.heap.get? c=ap o->h'.get? c=ap o)->Q (.ref z) { s with heap:=h' }):
  cT (eC prog w) A (call (.type "zip") (args.map λp=>.ref p.2)) Q E s:=by
 have few:args.length<=3:=by lia
 have checks:XV "zip" ⟨args.map λp=>.ref p.2,[]⟩=pure ()/\SZ "zip.__new__" ⟨.type "zip"::args.map λp=>.ref p.2,[]⟩=pure ()/\∀obj,WF "object.__init__" ⟨obj::args.map λp=>.ref p.2,[]⟩:=by
  rcases hn with hn|hn
  .obtain⟨a,b,rfl⟩:=OG hn
   exact⟨F.typeCall_zip_2 _ _,F.newCall_zip_2 _ _,λobj=>F.args_object_init_3 obj _ _⟩
  .obtain⟨a,b,c,rfl⟩:=len3 hn
   exact⟨ma _ _ _,oE _ _ _,λobj=>gW obj _ _ _⟩
 refine ZN F.called_zip (by decide) checks.1 checks.2.1 checks.2.2 F.entry_zip_new (wl args few) ⟨hl,λh' hz hTI hTO st k=>?_⟩
 have em:(cS s.heap.objs.size args).map (λt=>(t.b,t.l))=args:=V3 λi=>by
  rw[SN,g5];cases args[i]?<;>rfl
 have hlen:(cS s.heap.objs.size args).length=args.length:=by rw[<- em,SH,em]
 have hi:∀t∈cS s.heap.objs.size args,s.heap.objs.size<=t.i/\t.i<s.heap.objs.size+args.length:=λt ht=>by
  obtain⟨i,il,rfl⟩:=VD ht;have q:=g5 (n:=s.heap.objs.size) (args:=args) (i:=i);rw[hlen]at il;simp[il,hlen]at q;rw[q];exact⟨Uz _ _,Nat.add_lt_add_left il _⟩
 have hb:∀b∈ox (s.heap.objs.size+args.length+2) (s.heap.objs.size+args.length) (s.heap.objs.size+args.length+1) (cS s.heap.objs.size args),s.heap.objs.size<=b:=λb hb=>by
  simp only[ox,SQ,SV]at hb;rcases hb with e|e|e|⟨t,ht,e⟩
  .rw[e];exact SX (Uz _ _) (Uz _ _)
  .rw[e];exact Uz _ _
  .rw[e];exact SX (Uz _ _) (Uz _ _)
  .rw[<- e];exact(hi t ht).1
 have D:ZOk (s.heap.objs.size+args.length+2) (s.heap.objs.size+args.length) (s.heap.objs.size+args.length+1) (cS s.heap.objs.size args):=by
  refine⟨?_,λt ht q=>?_,λe=>?_,by lia⟩
  .simp only[Us,SQ,SV,not_or,not_exists,not_and]
   refine⟨⟨(show (_:Nat)≠(_:Nat) by lia),(show (_:Nat)≠(_:Nat) by lia),λt ht e=>?_⟩,⟨(show (_:Nat)≠(_:Nat) by lia),λt ht e=>?_⟩,λt ht e=>?_,?_⟩
   all_goals try exact absurd (show (t.i:Nat)<s.heap.objs.size+args.length from (hi t ht).2) (by rw[e];first|exact TN _|exact Wj.2 (Uz _ _))
   refine U3.2 λi j il jl ij=>?_;have ei:=g5 (n:=s.heap.objs.size) (args:=args) (i:=i);have ej:=g5 (n:=s.heap.objs.size) (args:=args) (i:=j);simp only[SH,hlen]at il jl;simp[il,hlen]at ei;simp[jl,hlen]at ej;rw[WS,WS,ei,ej];exact(show (_:Nat)≠(_:Nat) by simp;lia)
  .have:(t.b,t.l)∈args:=em▸Tx (f:=λt:ZS=>(t.b,t.l)) ht
   obtain⟨xs,sq⟩:=hl _ this;obtain⟨b,i,l⟩:=t;have lt:l<s.heap.objs.size:=by
    cases b with
    |true=>obtain⟨o,e,_⟩:=(show s.heap.IsList l xs from sq);exact SI e
    |false=>obtain⟨o,e,_⟩:=(show s.heap.IsTuple l xs from sq);exact SI e
   exact absurd lt (Wj.2<|hb _ q)
  .rw[e]at hlen
   simp at hlen;lia
 show _/\_;refine⟨⟨_,hz,rfl⟩,h h' _ _ _ _ em D hz hTI ?_ st hb k⟩;rw[show ((cS s.heap.objs.size args).map λ_=>Ub)=args.map λ_=>Ub by rw[<- em,Tb,em];rfl]
 exact hTO
end
def nF(K:SM)(b:Bool)(H:Hp)(a:cb)(xs:List V):Prop:=if b=true then SqL K H a xs else jH K H a xs
section
variable{xs ys:List V}
theorem Inv.src(I:Inv X Z0 Z H s)(h:nF X.K b H a xs):∃Z6:List ay,Vals xs Z6/\SrcSq b s.heap a Z6.toArray/\xs.length<=sizeLine:=by
 cases b with
 |true=>obtain⟨Z6,r,p,z⟩:=I.list h;exact⟨_,r,p.isList,z⟩
 |false=>obtain⟨Z6,r,p,z⟩:=I.tuple h;exact⟨_,r,p,z⟩
theorem Inv.src_inj(I:Inv X Z0 Z H s)(h:nF X.K b H a xs)(h':nF X.K b H a ys):xs=ys:=by
 cases b with
 |true=>exact I.list_inj h h'
 |false=>exact I.tuple_inj h h'
theorem Inv.src_ne(I:Inv X Z0 Z H s)(h:nF X.K b H a xs)(f:j7 X Z0 H it):a≠it:=by
 obtain⟨f0,f1,q,p,u,r⟩:=f;intro e;subst e;have c:∀o,X.K.lookup a=ap o->False:=λo g=>by
  have m:=I.ok.mod.kin a o g;rcases p with z|z
  .exact I.ok.noex a o m z
  .exact absurd (Tc (SI (I.ok.bs a o m).1) z) (TN _)
 cases b with
 |true=>
  rcases (show SqL X.K H a xs from h) with (z|⟨o,z⟩)|⟨o,_,_,g,_⟩
  .rw[f0]at z;cases z
  .rw[f0]at z;cases z
  .exact c o g
 |false=>
  rcases (show jH X.K H a xs from h) with (z|⟨o,z⟩)|⟨o,_,_,g,_⟩
  .rw[f0]at z;cases z
  .rw[f0]at z;cases z
  .exact c o g
end
theorem Inv.turned4{t':Nat}(I:Inv X Z0 Z H s)(p:∀b∈fp,j7 X Z0 H b)(k:∀b o,b∉fp->s.heap.get? b=ap o->h'.get? b=ap o):Inv X Z0 Z H { s with heap:=h',toks:=t' }:=by
 have g:∀b u,H b=ap u->b∉fp:=λb u e z=>by have:=(p b z).1;simp_all
 refine I.step (λb y=>?_) (λb o _ _ f e _=>k b o f e) (λb o _ _ f e _=>⟨_,k b o f e⟩) (λ_ _ _ _ n=>n)
  (λb o f e=>⟨o,k b o f e⟩) (λ_ _ e=>e) (λ_ _ _ e=>e) (λb M e=>⟨#[],by rw[e];simp⟩) (λm G=>?_) (λb u e=>?_) I.bare
 .obtain⟨f0,f1,O,R,N,L⟩:=p b y
  trivial
 .obtain⟨o,J,C,B,r⟩:=G
  exact⟨o,J,C,k _ o (λz=>(p _ z).2.1 rfl) B,r⟩
 refine (I.hok b u e).stay (λc v f q=>k c v ?_ q) (λ_ q=>q) λ_ _ q=>q;rcases f with z|z
 .rw[z];exact g b u e
 exact g c _ z
theorem Inv.turnedNew{t':Nat}{zs:List V}{us:Z'}{y:Obj}(I:Inv X Z0 Z H s)(M:∀b∈fp,j7 X Z0 H b)(k:∀b o,b∉fp->s.heap.get? b=ap o->h'.get? b=ap o)(hlt:∀b∈fp,∃o,s.heap.get? b=ap o)(hlv:∀b∈fp,∃o,h'.get? b=ap o)(hT:h'.get? s.heap.objs.size=ap y)(G:y.cls=.type "tuple")(J:∃n,y.data=.seq us.toArray n)(r:Vals zs us)(L:y.dict=bb)(hz:zs.length<=sizeLine):Inv X Z0 Z (upd H s.heap.objs.size<|.tup zs) { s with heap:=h',toks:=t' }:=by
 have f:H s.heap.objs.size=none:=I.hok.fresh (SO _);have p:∀b u,H b=ap u->b∉fp:=λb u e z=>by have:=(M b z).1;rw[e]at this;cases this
 refine I.step (g':=s.gens) (d':=s.drawn) (ch:=fp) (λb B=>?_) (λb o _ _ g e _=>k b o g e) (λb o _ _ g e _=>⟨o.slots,k b o g e⟩) (λb o _ e n=>by rw[aD (SY<|SI e)];exact n)
  (λb o g e=>⟨o,k b o g e⟩) (λb C e=>by rw[aD (bh e f)];exact e) (λb o u e=>by rw[aD (bh e f)];exact e) (λb ps e=>⟨#[],by rw[aD (bh e f),e];simp⟩) (λm W=>?_) (λb u e=>?_) I.bare
 .obtain⟨f0,f1,f2,Y,U,O⟩:=M b B
  exact⟨Y,f1,U,O⟩
 .obtain⟨o,es,T,N,r⟩:=W
  exact⟨o,es,T,k _ o (λz=>(M _ z).2.1 rfl) N,r⟩
 .by_cases B:b=s.heap.objs.size
  .subst B
   rw[upd_same]at e;cases e;obtain⟨n,R⟩:=J;exact⟨hz,us,r,⟨y,hT,⟨G,n,R⟩,L⟩⟩
  .rw[aD B]at e
   refine (I.hok b u e).stay (λc v g q=>k c v ?_ q) (λc q=>by rw[aD (bh q f)];exact q) λc C q=>by rw[aD (bh q f)];exact q
   rcases g with z|z
   .rw[z];exact p b u e
   .exact p c _ z
noncomputable def wI(h:fy)(l:cb)(k:Nat):Option Value:=match h.get? l with
 |some o=>match o.data with
  |.seq xs _=>xs[k]?
  |_=>bb
 |_=>bb
theorem iJ{xs:aag}(q:SrcSq b h l xs)(k:Nat):xs[k]?=wI h l k:=by
 have:∃o n,h.get? l=ap o/\o.data=.seq xs n:=by
  cases b with
  |true=>obtain⟨o,e,c,n,d⟩:=q;exact⟨o,n,e,d⟩
  |false=>obtain⟨o,e,c,n,d⟩:=q;exact⟨o,n,e,d⟩
 obtain⟨o,n,e,d⟩:=this;simp[wI,e,d]
noncomputable def Rh(K:SM)(L:List (Bool×cb)):It:=
 ⟨λi H=>∀p∈L,∃xs x,nF K p.1 H p.2 xs/\xs[i]?=ap x,
  λi H v H'=>∃T zs,H T=bb/\v=.ref T/\H'=upd H T (.tup zs)/\zs.length=L.length/\∀(j:Nat)(p:Bool×cb),L[j]?=ap p->∀xs,nF K p.1 H p.2 xs->xs[i]?=zs[j]?,
  λi H=>(∀p∈L,∃xs,nF K p.1 H p.2 xs)/\∃p∈L,∃xs,nF K p.1 H p.2 xs/\xs.length<=i⟩
structure ZTn(z TI TO:cb)(S:List ZS)(i:Nat)(h:fy):Prop where
 hz:Zo h z TI TO .none
 hTI:g_ h TI (S.map λt=>.ref t.i)
 hTO:∃vs:List ay,vs.length=S.length/\g_ h TO vs
 st:Hm S i h
theorem ZTn.obj{TI TO:cb}(q:ZTn z TI TO S i h):∀b∈ox z TI TO S,∃o,h.get? b=ap o/\∀v,o.data≠.cell v:=λb c=>by
 obtain⟨f,_,e⟩:=q.hTO;simp at c;rcases c with rfl|rfl|rfl|⟨t,ht,rfl⟩
 .exact⟨_,q.hz,λv q=>nomatch q⟩
 .exact⟨_,q.hTI,λv q=>nomatch q⟩
 .exact⟨_,e,λv q=>nomatch q⟩
 exact(q.st t ht).lt
theorem ZTn.keep{TI TO:cb}(q:ZTn z TI TO S i h)(k:∀b∈ox z TI TO S,∀o,h.get? b=ap o->h'.get? b=ap o):ZTn z TI TO S i h':=by
 obtain⟨f,l,e⟩:=q.hTO;exact⟨k z (by simp) _ q.hz,k TI (by simp) _ q.hTI,⟨f,l,k TO (by simp) _ e⟩,λt c=>(q.st t c).keep λo e=>k _ (by simp[Tx c]) o e⟩
theorem uj{X:Cx}{Z0:aae}{Z:St}{H:Hp}{s:ca}{i:Nat}(I:Inv X Z0 Z H s):∀(S:List ZS)(us:Z'),us.map ap=S.map (λt=>wI s.heap t.l i)->(∀t∈S,∃xs x,nF X.K t.b H t.l xs/\xs[i]?=ap x)->
  ∃zs,Vals zs us/\zs.length=S.length/\∀(j:Nat)(p:Bool×cb),(S.map λt=>(t.b,t.l))[j]?=ap p->∀xs,nF X.K p.1 H p.2 xs->xs[i]?=zs[j]?
 |[],[],_,_=>⟨[],.nil,rfl,λj p e=>by simp at e⟩
 |[],_::_,e,_=>by simp at e
 |_::_,[],e,_=>by simp at e
 |t::S,u::us,e,h=>by
  simp at e;obtain⟨zs,r,l,g⟩:=uj I S us e.2 λt' ht=>h t' (.tail _ ht);obtain⟨xs,x,q,hx⟩:=h t (.head _);obtain⟨Z6,rv,sq,z⟩:=I.src q;obtain⟨u',hu,ru⟩:=rv.get hx;have e1:ap u=ap u':=by rw[e.1,<- iJ sq i];simp_all
  cases e1;refine⟨_,.cons ru r,by simp[l],λj p ej ys hy=>?_⟩
  cases j with
  |zero=>
   simp at ej;subst ej;rw[I.src_inj hy q];trivial
  |succ j=>exact g j p (by trivial) ys hy
theorem pW{f:α->cb}:∀{L:List α}{us:Z'},Vals (L.map λp=>.ref (f p)) us->us=L.map λp=>.ref (f p):=by
 intro L
 induction L with
 |nil=>intro us h;cases h;rfl
 |cons p L ih=>
  intro us h;cases h with
  |cons r t=>cases r;rw[SJ,ih t]
theorem Cq{TI TO:cb}(D:ZOk z TI TO S):
  Turn P w K (.Tuple elts x1 tp) (Rh K (S.map λt=>(t.b,t.l))) (ox z TI TO S) z (ZTn z TI TO S) where
 mem:=.head _
 obj:=λi h st=>st.obj
 keep:=λi h h' st k=>st.keep k
 item:=by
  intro X hP Y hK W i Z0 s Z H E I T st B;subst hP Y hK
  replace B:∀t∈S,∃J x,nF X.K t.b H t.l J/\J[i]?=ap x:=λt m=>B _ (Tx m)
  have fits:∀t∈S,∃g x,SrcSq t.b _ t.l g/\g[i]?=ap x:=λt m=>by
   obtain⟨J,x,q,N⟩:=B t m;obtain⟨g,R,sq,_⟩:=I.src q;obtain⟨u,hu,_⟩:=R.get N;exact⟨_,u,sq,by simp_all⟩
  refine kZ (F:=λt=>wI s.heap t.l i) (I.ok.hd W) D st.hz (.inl ⟨rfl,rfl,st.hTO⟩) st.hTI st.st (λt m=>?_) (λh' O v hzz a3 a4 G=>?_) λh' ⟨t,m,eo⟩ _=>?_
  .obtain⟨g,x,sq,_⟩:=fits t m
   exact⟨g,sq,iJ sq i⟩
  .obtain⟨_,a1,a2⟩|⟨n,_⟩:=hzz
   case inr=>trivial
   refine⟨_,rfl,wpAny_letOwnedTupleGo_zip a1 λy L c=>?_⟩;obtain⟨zs,rz,lz,gz⟩:=uj I S O v B;have zl:=SI st.hz;have kk:∀b o,b∉ox z TI TO S->s.heap.get? b=ap o->y.get? b=ap o:=λb o r e=>by
    simp only[SQ,not_or]at r;exact c.extBut b o r.1 (G b o (by simp only[SQ,not_or];exact⟨r.1,r.2.2.1,r.2.2.2⟩) e)
   obtain⟨C,U,TITO,ni⟩:=mh D;have hT:y.get? _=ap _:=c.extBut _ _ (Vj zl) a4;have M:ZTn z TI TO S (i+1) y:=by
    refine⟨L,c.extBut _ _ C.symm (G _ _ ?_ st.hTI),⟨O,?_,c.extBut _ _ U.symm a2⟩,λt m=>(a3 t m).keep λo e=>c.extBut _ o (ni t m).1 e⟩
    .simp
     exact⟨C.symm,TITO,λt m=>(ni t m).2.1⟩
    have:=congrArg UN v;simpa using this
   refine⟨.ref _,_,I.turnedNew T kk (λb r=>let ⟨o,e,_⟩:=st.obj b r;⟨o,e⟩) (λb r=>let ⟨o,e,_⟩:=M.obj b r;⟨o,e⟩) hT rfl ⟨_,rfl⟩ rz rfl (by rw[lz];exact SX D.few (by decide)),rfl,⟨_,zs,I.hok.fresh (SO _),rfl,rfl,by simp_all,gz⟩,M,λb r=>?_⟩
   obtain⟨o,e,_⟩:=st.obj b r;rw[aD (SY<|SI e)];exact(T b r).1
  obtain⟨g,x,sq,N⟩:=fits t m;rw[iJ sq i]at N;rw[N]at eo;cases eo
 done:=by
  intro X hP Y hK W i Z0 s Z H E I T st B;subst hP Y hK;refine kZ (F:=λt=>wI s.heap t.l i) (I.ok.hd W) D st.hz (.inl ⟨rfl,rfl,st.hTO⟩) st.hTI st.st (λt m=>?_) (λh' O v _ a3 a4 G=>?_) λh' _ G=>⟨rfl,I.turned4 T λb o r e=>G b o (λx=>r ?_) e⟩
  .obtain⟨J,q⟩:=B.1 _ (Tx m)
   obtain⟨g,R,sq,_⟩:=I.src q;exact⟨_,sq,iJ sq i⟩
  .obtain⟨p,hp,J,q,hle⟩:=B.2
   obtain⟨t,m,rfl⟩:=SV.1 hp;obtain⟨g,R,sq,_⟩:=I.src q;have hl:=R.length;have:wI s.heap t.l i∈O.map some:=by rw[v];exact Tx (f:=λt:ZS=>wI s.heap t.l i) m
   rw[<- (iJ sq i),List.getElem?_toArray,UB (by lia)]at this
   simp at this
  simp only[ox,SQ]at x ⊢;rcases x with x|x|x
  .exact .inl x
  .exact .inr (.inr<|.inl x)
  .exact .inr (.inr<|.inr x)
 self:=λ_ _ _ _ _ st h=>Zf st.hz h
section
def RL(K:SM)(t:TA):TI:=λZ H R=>t Z H λc H1=>∃L:List (Bool×cb),(L.length=2\/L.length=3)/\c=L.map (λp=>.ref p.2)/\(∀p∈L,∃xs,nF K p.1 H1 p.2 xs)/\R (Rh K L) H1
theorem Il{a:fv}{as:aab}{m:TA}{p:Pos}(T:Gl X "zip")(U:X.mg "zip"=bb)(N:PA X (a::as) m)(O:ee (a::as) X.env=(cp,fx a X.env)::ee as X.env:=by rfl)(hs2:(PySem.backTo pos<|starEach as X.env).any (·.1)=false:=by rfl):
  PI X (.Tuple elts x1 tp) (.Call (.Name "zip" p) (a::as) [] pos) (RL X.K m):=by
 intro Z0 s Z H R I h;refine Call_ (cG I T U (by rfl)<|TM (bu (N _ _ s Z H _ I h) λW s1 J=>?_) O hs2)
 obtain⟨vs,H1,I1,o,r⟩:=J;obtain⟨L,M,rfl,G,q⟩:=r;cases pW o;refine pc M (λp v=>?_) λh' z TI TO S y D g e f B hb u=>?_
 .obtain⟨Y,q⟩:=G p v
  obtain⟨C,_,sq,_⟩:=I1.src q;exact⟨_,sq⟩
 refine Zf g ?_;subst y;exact⟨z,_,_,_,H1,rfl,I1.kept u,Cq D,⟨g,e,⟨_,by rw[SH],f⟩,B⟩,λb c=>I1.fpOk (hb b c) (I1.hok.fresh<|hb b c),q⟩
noncomputable def Ite(K:SM)(b:Bool)(l:cb):It:=
 ⟨λi H=>∃xs x,nF K b H l xs/\xs[i]?=ap x,
  λi H v H'=>∃T x,H T=bb/\v=.ref T/\H'=upd H T (.tup [.int i,x])/\(∀xs,nF K b H l xs->xs[i]?=ap x),
  λi H=>∃xs,nF K b H l xs/\xs.length<=i⟩
end
section
theorem Draws.src(y:A.handled=bb)(b:Bool)(it l:cb)(m:l≠it)(items:aag):
  Draws prog w A it [it,l] items.size (λi v=>items[i]?=ap v) (λi h=>SrcTn b it l i h/\SrcSq b h l items) where
 live:=λ_ _ c=>let ⟨o,ho,_⟩:=c.1.lt;⟨o,ho⟩
 frame:=λ_ _ _ c q=>⟨c.1.keep λo e=>q it (by simp) o e,c.2.keep λo e=>q l (by simp) o e⟩
 item:=λi s Q E p c u=>by
  exact fG c.1 c.2 (x:=items[i]) (by simp[p]) λh' g f=>u _ h' _ (by simp[p]) ⟨g,c.2.keep λo e=>f.extBut _ o m e⟩ f
 done:=λs Q E c r=>dy y c.1 c.2 (by simp) r
theorem wC(b:Bool)(l:cb)(items:aag):
  Zn (Builtin.«enumerate.__new__» ⟨[.type "enumerate",.ref l],[]⟩) (λ_ R s=>SrcSq b s.heap l items/\
   R (.ok<|.ret<|.ref (s.heap.push { cls:=.type (h_ b),data:=.fields #[.ref l,.int 0 0] }).objs.size)
    { s with heap:=(s.heap.push { cls:=.type (h_ b),data:=.fields #[.ref l,.int 0 0] }).push { cls:=.type "enumerate",data:=.fields #[.none,.bool cp,.ref s.heap.objs.size,x9 0,.none,.none] } }):=
 .of_wp λprog w A R s h=>by
  obtain⟨p,g,d,q,m⟩:=s;obtain⟨o,h⟩:=h;have f:=sub_enumerate;have e:SrcSq b (Shared.heap ⟨p,g,d,q,m⟩) l items:=o
  wp_walk
  refine wpAny_stack_any λr=>cx ?_
  split
  .rename_i c _ _ _ _ _
   cases (c==VG "enumerate")
   .wp_walk using fC e
    exact⟨_,rfl,h⟩
   .wp_walk using fC e
    exact⟨_,rfl,h⟩
  .wp_walk using fC e
   exact⟨_,rfl,h⟩
theorem C3(f:SrcSq b s.heap l items)(h:∀h',IsEnum h' (s.heap.objs.size+1) s.heap.objs.size 0 .none->SrcTn b s.heap.objs.size l 0 h'->h'.objs.size=s.heap.objs.size+2->
   (∀b o,s.heap.get? b=ap o->h'.get? b=ap o)->Q (.ref (s.heap.objs.size+1)) { s with heap:=h' }):
  cT (eC prog w) A (call (.type "enumerate") [.ref l]) Q E s:=by
 refine ZN F.called_enumerate (by decide) (F.typeCall_enumerate_1 _) (F.newCall_enumerate_1 _) (λobj=>F.args_object_init_2 _ _) F.entry_enumerate_new (wC b l _) ⟨f,?_⟩
 have c:(s.heap.push { cls:=.type (h_ b),data:=.fields #[.ref l,.int 0 0] }).objs.size=s.heap.objs.size+1:=Ug ..;rw[c]
 have e:IsEnum ((s.heap.push { cls:=.type (h_ b),data:=.fields #[.ref l,.int 0 0] }).push
   { cls:=.type "enumerate",data:=.fields #[.none,.bool cp,.ref s.heap.objs.size,x9 0,.none,.none] }) (s.heap.objs.size+1) s.heap.objs.size 0 .none:=by
  have:=SK (s.heap.push { cls:=.type (h_ b),data:=.fields #[.ref l,.int 0 0] })
   (o:={ cls:=.type "enumerate",data:=.fields #[.none,.bool cp,.ref s.heap.objs.size,x9 0,.none,.none] }) rfl
  rw[c]at this;exact this
 refine⟨⟨_,e,rfl⟩,h _ e (Bx<|SF _<|SK _ rfl) (by rw[Ug,c]) λb o x=>SF _ (SF _ x)⟩
end
theorem Ct(b:Bool)(l e it:cb)(L:e≠it):
  Turn P w K (.Tuple elts x1 tp) (Ite K b l) [e,it] e (λi h=>(∃m,IsEnum h e it i m)/\SrcTn b it l i h) where
 mem:=by simp
 obj:=λi h B c g=>by
  obtain⟨⟨m,y⟩,G⟩:=B;have f:c=e\/c=it:=by simp_all
  rcases f with q|q<;>subst q
  .simp_all
  exact G.lt
 keep:=λi h h' B k=>by
  obtain⟨⟨m,y⟩,G⟩:=B;exact⟨⟨m,k e (by simp) _ y⟩,G.keep λo q=>k it (by simp) o q⟩
 item:=by
  intro X hP hw hK g i Z0 s Z H E I N B hg;subst hP hw hK;obtain⟨xs,x,M,U⟩:=hg;obtain⟨⟨m,y⟩,G⟩:=B;obtain⟨C,r,sq,z1⟩:=I.src M;obtain⟨u,hu,ru⟩:=r.get U;have hle:=I.src_ne M (N e<|by simp)
  have hli:=I.src_ne M (N it<|by simp)
  have hil:i<C.toArray.size:=by
   rw[SW,<- r.length];exact(TQ.mp U).1
  have D:Draws X.prog X.w X.A.in1 it [it,l] _ _ _:=Draws.src (A:=X.A.in1) (I.ok.hd g) b it l hli C.toArray;refine wpAny_pyNext_enum_itemD D y ⟨G,sq⟩ hil L (by simp[L,Tu hle]) λv h' tk hv ho Y W hsz hk=>?_
  have ev:v=u:=by
   have hu':C.toArray[i]?=ap u:=by simpa using hu
   rw[hu']at hv;exact(T5 hv).symm
  subst ev;refine⟨_,rfl,wpAny_letOwnedTupleGo_enum ho λJ O p=>?_⟩;have hes:=SY (SI y);have n1:=Y.1.keep λo q=>p.extBut _ o L.symm q;have kk:∀c o,c∉[e,it]->s.heap.get? c=ap o->J.get? c=ap o:=λc o g q=>
   p.extBut c o (λz=>g (by simp[z])) (hk c o (λz=>g (by simp[z])) (λz=>g (by simp[z])) q)
  have hT':J.get? _=ap _:=p.extBut _ _ hes.symm W;have lv:∀c∈[e,it],∃o,s.heap.get? c=ap o:=λc g=>by
   have f:c=e\/c=it:=by simp_all
   rcases f with q|q<;>subst q
   .exact⟨_,y⟩
   obtain⟨o,q,_⟩:=G.lt;exact⟨o,q⟩
  have lv':∀c∈[e,it],∃o,J.get? c=ap o:=λc g=>by
   have f:c=e\/c=it:=by simp_all
   rcases f with q|q<;>subst q
   .exact⟨_,O⟩
   obtain⟨o,q,_⟩:=n1.lt;exact⟨o,q⟩
  have hTn:=I.hok.fresh (SO _);refine⟨.ref _,_,I.turnedNew (s:=s) (zs:=[.int i,x]) N kk lv lv' hT' rfl ⟨_,rfl⟩ (.cons ⟨tk,rfl⟩<|.cons ru .nil) rfl (by show 2<=sizeLine;decide),rfl,⟨_,x,hTn,rfl,rfl,λzs R=>?_⟩,⟨⟨v,by assumption⟩,n1⟩,λc g=>?_⟩
  .rw[I.src_inj R M];exact U
  obtain⟨o,q⟩:=lv c g;rw[aD (SY<|SI q)];exact(N c g).1
 done:=by
  intro X hP hw hK g i Z0 s Z H E I N B hg;subst hP hw hK;obtain⟨xs,M,U⟩:=hg;obtain⟨⟨m,y⟩,G⟩:=B;obtain⟨C,r,sq,z1⟩:=I.src M;have W:s.TypeIs (.ref e) _:=⟨_,y,rfl⟩;have hl:=r.length
  refine ax (B' (wpAny_callSpecial?_slot W Yf
   (mu Yf W F.entry_enumerate_next ?_<|F.args_enumerate_next_1 _)))
  show cT _ _ (ZW (.ref e) 2 >>= _) _ _ _;refine ax (k6 y rfl rfl ?_);refine ax (dy (I.ok.hd g) G sq (by simp;lia) λh' x he' hx'=>?_)
  obtain⟨o,ho,hcl⟩:=hx';exact ax (SC (T:="StopIteration") (b:=true) ⟨o,ho,hcl⟩ V'<|wpAny_pure ⟨rfl,I.turned4 (t':=s.toks) N λc o' f q=>he' c o' (λz=>f (by simp[z])) q⟩)
 self:=λ_ _ _ _ _ B h=>let ⟨⟨_,y⟩,_⟩:=B;wpAny_pyIter_enum y h
section
theorem vH:bp X (.builtin "isinstance") (λxs H Q=>∃x T t b,xs=[x,.ty T]/\TyOf X.K H x t/\W.kitOne X.K t (.type T)=ap b/\Q (.bl b) H):=by
 rintro Z0 s Z H xs o Q I r ⟨x,T,t,b,rfl,ty,e,q⟩
 obtain⟨u,c,rfl,g,f⟩:=r.two;obtain rfl:c=VG T:=f;exact Dc I g ty e λm=>⟨.bl b,H,I.tok m,rfl,q⟩
theorem DH(Y:X.calm=true):bp X (.builtin "all") (λxs H Q=>∃(l:cb)(bs:List Bool),xs=[.ref l]/\SqL X.K H l (bs.map V.bl)/\Q (.bl<|bs.all id) H):=by
 rintro Z0 s Z H xs us Q I r ⟨l,bs,rfl,U,q⟩
 obtain⟨u,rfl,W⟩:=r.one;cases W;obtain⟨f,L,p,hz⟩:=I.list U;have hl:=L.length;have J:l<s.heap.objs.size:=by obtain⟨o,e,_⟩:=p.isList;exact SI e
 have val:∀(i:Nat)(v:ay),f.toArray[i]?=ap v->∃c,bs[i]?=ap c/\v=.bool c:=λi v M=>by
  have y:f[i]?=ap v:=by simp_all
  have g:i<bs.length:=by
   have:=(TQ.mp y).1
   simp_all
  obtain⟨w',C,R⟩:=L.get (by rw[SN,SG g];rfl)
  rw[y]at C;cases C;exact⟨_,SG g,R⟩
 have G:f.toArray.size=bs.length:=by simp_all
 refine call_all_walk (ra p.isList ⟨_,_,_,_,_,_,λi=>bs.getD i cp,rfl,W6 (A:=X.A.in1) (I.ok.hd Y) _ l (SY J) _,⟨⟨_,SK _ rfl,rfl,rfl⟩,p.isList.push _⟩,λi v s' Q' E' M N=>?_,λh' T O=>?_⟩)
 .obtain⟨c,C,rfl⟩:=val i v M
  refine y' ?_
  simp_all
 have e:(Te f.toArray.size).all (λi=>bs.getD i cp)=bs.all id:=by
  rw[G,Bool.eq_iff_iff,List.all_eq_true,List.all_eq_true];constructor
  .intro h b B
   obtain⟨i,g,rfl⟩:=Vt.mp B;have:=h i (TU.mpr g)
   rwa [Tf,SG g]at this
  .intro h i g
   have m:=TU.mp g;rw[Tf,SG m];exact h _ (UK m)
 rw[e];refine⟨.bl (bs.all id),H,?_,rfl,q⟩;exact I.kept (t':=T) λb o B=>O b o (by simp;exact SY (SI B)) (SF _ B)
end
theorem fD:Wp ZR "zip.__getattribute__"=ap Builtin.«object.__getattribute__»:=
 entryFor_alias (id':="object.__getattribute__") (by kernel_rfl) (by decide +kernel) (by decide +kernel) (by kernel_rfl)
theorem jd:SL (.type "zip") "__getattr__"=pure none:=by rfl
theorem vm:SL (.type "zip") "keys"=pure none:=by rfl
theorem dX:Wp ZR "dict.update.loop"=ap Builtin.«dict.update.loop»:=entryFor_of_fast (by kernel_rfl)
theorem bS:plainId "dict.update.loop"=true:=by decide +kernel
theorem lP(a TI TO:cb)(f0:ay)(f1:Bool)(name:Str)(u:Tok)(f:SL (.type "zip") name=pure bb)(c:(["__module__","__name__","__qualname__","__doc__","__annotations__"]:Z_).contains name=cp)(hsz:name.length+100<=sizeLine:=by size_fits):
  Zn (Builtin.«object.__getattribute__» ⟨[.ref a,.str name u],[]⟩) (λA R s=>ou s.heap a TI TO f0 f1/\raisesAttr (.ref a) name A R s):=
 Meets.of_wp λprog w A R s e=>by
  obtain⟨p,g,d,q,m⟩:=s;obtain⟨o,e⟩:=e;have r:(⟨p,g,d,q,m⟩:ca).TypeIs (.ref a) "zip":=⟨_,o,rfl⟩
  repeat (any_goals (first|assumption|wp_step))
  simp only[c,Th,if_false]
  repeat (any_goals (first|assumption|wp_step))
  exact wpAny_raiseAttrError e.1 e.2 (attrMsg_fits (by decide +kernel) hsz)
section
theorem oq{TI TO:cb}{Q:Option ay->ca->Prop}(p:ou s.heap a TI TO f0 f1)(y:A.handled=bb)(h:∀h' q,(∀b o,s.heap.get? b=ap o->h'.get? b=ap o)->Q bb { s with heap:=h',toks:=q }):cT (eC prog w) A (Zc (.ref a) "keys") Q E s:=by
 obtain⟨v,g,d,q,r⟩:=s;have m:∀c,(⟨v,g,d,c,r⟩:ca).TypeIs (.ref a) "zip":=λ_=>⟨_,p,rfl⟩;have u:=sub_AttributeError;have I:=Wh.lookup;have J:=Wh.bind (.ref a);have G:=jd;unfold Zc getAttrBy? getAttrBy
 repeat (any_goals (first|assumption|exact m _|((with_reducible show cT _ _ (call (Value.builtin "zip.__getattribute__") _ _) _ _ _);refine qa Wh (m _) fD (F.args_zip_getattribute_2 _ _) (lP a TI TO f0 f1 "keys" _ vm (by decide +kernel)<|by decide +kernel) ⟨p,y,λh' c e f=>?_⟩)|wp_step))
 obtain⟨t',B,C⟩:=f.there;show cT _ _ (Tl _ _ _ _ _ _ _) _ _ _;unfold Tl
 repeat (any_goals (first|assumption|wp_step))
 exact h _ _ f.keeps
end
def wU(h:fy)(T:cb)(k v:ay):Prop:=∃o n,h.get? T=ap o/\o.cls=.type "tuple"/\o.data=.seq #[k,v] n
structure PSrc(prog:eX)(w:f')(d it:cb)(ps:List (ay×ay))(fp:aaa)(St:Nat->fy->Prop):Prop where
 off:d∉fp
 stay:∀i h h',St i h->(∀b o,b≠d->h.get? b=ap o->h'.get? b=ap o)->St i h'
 item:∀(A:g3)(i:Nat)(hi:i<ps.length)(s:ca)(Q:Option ay->ca->Prop)(E:aad),A.handled=bb->d<s.heap.objs.size->St i s.heap->
  (∀h' T,St (i+1) h'->wU h' T ps[i].1 ps[i].2->(∀c o,c∉fp->s.heap.get? c=ap o->h'.get? c=ap o)->Q (ap<|.ref T) { s with heap:=h' })->cT (eC prog w) A (z6<|.ref it) Q E s
 done:∀(A:g3)(s:ca)(Q:Option ay->ca->Prop)(E:aad),A.handled=bb->St ps.length s.heap->(∀h',(∀c o,c∉fp->s.heap.get? c=ap o->h'.get? c=ap o)->Q bb { s with heap:=h' })->cT (eC prog w) A (z6<|.ref it) Q E s
theorem xA{R:Zk->ca->Prop}{d:cb}{f:List (ay×ay)}{St:Nat->fy->Prop}(W:A.handled=bb)(C:PSrc prog w d it f fp St)(P:Nat->fy->Prop)(Pd:∀i h,P i h->∃o,h.get? d=ap o)(stay:∀i h h',P i h->(∀b o,b∉fp->h.get? b=ap o->h'.get? b=ap o)->P i h')(step:∀(i:Nat)(Y:i<f.length)(s:ca)(Q:Unit->ca->Prop)(E:aad),P i s.heap->(∀h' u,P (i+1) h'->Uh d s.heap h'->Q () { s with heap:=h',toks:=u })->cT (eC prog w) A.in1 (dictSet d f[i].1 f[i].2) Q E s):
  ∀(n i:Nat)(s:ca),n=f.length-i->i<=f.length->St i s.heap->P i s.heap->
   (∀g:ca,g.os=s.os->g.gens=s.gens->g.drawn=s.drawn->P f.length g.heap->(∀c o,c∉fp->c≠d->s.heap.get? c=ap o->g.heap.get? c=ap o)->R (.ok<|.ret .none) g)->
   ∀u:Nat,z5 (eC prog w) A (.builtin "dict.update.loop" ⟨[.ref d,.ref it,x9 u,.none],[]⟩) R s:=by
 intro n
 induction n with
 |zero=>
  intro i s hn Y q G hR u;have I:i=f.length:=by lia
  subst I;refine ol dX ?_;rw[Uc bS _];show cT _ A.in1 (z6 (.ref it) >>= _) _ _ s;refine ax (C.done A.in1 s _ _ W q λh' y=>?_);exact ax (m:=Builtin.Dict.addKeywords d []) (cx<|wpAny_pure (hR _ rfl rfl rfl (stay _ _ _ G y) λc o B O e=>y c o B e))
 |succ n ih=>
  intro i s hn Y q G hR u;have r:i<f.length:=by lia
  obtain⟨od,hd⟩:=Pd _ _ G;refine ol dX ?_;rw[Uc bS _];show cT _ A.in1 (z6 (.ref it) >>= _) _ _ s;refine ax (C.item A.in1 i r s _ _ W (SI hd) q λh' T v ⟨oT,m,U,e2,e3⟩ k1=>?_);have J:({ s with heap:=h' }:ca).TypeIs (.ref T) "tuple":=⟨_,U,e2⟩;refine ax (kr<|wpAny_bind<|wpAny_tryCatch ?_);unfold Builtin.Dict.pairItems;refine ax (Zb J ?_);rw[if_pos (by decide)]
  refine ax (mo (s:={ s with heap:=h' }) U e3<|wpAny_pure ?_);show cT _ _ (rc [f[i].1,f[i].2]<|dictSet d f[i].1 f[i].2) _ _ _;refine kr (step i r { s with heap:=h' } _ _ (stay i _ _ G k1) λL N M p=>cx ⟨pa bS _,?_⟩);exact ih (i+1) { s with heap:=L,toks:=N } (by lia) r (C.stay _ _ _ v λb o hb e=>p.extBut b o hb e) M (λg q1 q2 q3 q4 q5=>hR g q1 q2 q3 q4 λc o B O e=>q5 c o B O (p.extBut c o O<|k1 c o B e)) (u+1)
namespace F
theorem uc:mroOf (.type "dict")=pure [.type "dict",.type "object"]:=by rfl
theorem Di:SL (.type "dict") "__new__"=pure (ap<|.builtin "dict.__new__"):=by rfl
theorem called_dict:TypeCalled "dict" "dict.__new__" "dict.__init__":=
 ⟨by rfl,by rfl,⟨_,_,uc⟩,madeBy_type uc (by trivial) (by decide +kernel),by decide +kernel,by rfl,PySem.F.slot_dict_init⟩
theorem typeCall_dict_1(a:ay):XV "dict" ⟨[a],[]⟩=pure ():=by kernel_rfl
theorem newCall_dict_1(a:ay):SZ "dict.__new__" ⟨[.type "dict",a],[]⟩=pure ():=by kernel_rfl
theorem entry_dict_new:Wp ZR "dict.__new__"=ap Builtin.«dict.__new__»:=entryFor_of_tree (by kernel_rfl)
theorem plain_dict_new:plainId "dict.__new__"=true:=by decide +kernel
theorem sub_dict:isSubtype (.type "dict") (.type "dict")=pure true:=by rfl
end F
section
theorem oH(a:ay){Q₁:aad}(h:Q₁ (.ref s.heap.objs.size) { s with heap:=s.heap.push { cls:=.type "dict",data:=.dict #[] } }):
  z5 (eC prog w) A (.call (.builtin "dict.__new__") ⟨[.type "dict",a],[]⟩) (wants Q₁ E) s:=by
 refine ZX F.plain_dict_new F.entry_dict_new (K' (F.newCall_dict_1 a) ?_);have c:=F.sub_dict
 wp_walk
 exact h
theorem x6{T:String}{p:List (ay×ay)}{fq:aaa}(J:A.handled=bb)(P:Nat->fy->Prop)(hT:∃o,s.heap.get? l=ap o/\o.cls=.type T)(ht:(VG T != VG "dict")=true)(keys:∀(A':g3)(f:ca)(Q:Option ay->ca->Prop)(E:aad),A'.handled=bb->(∀b o,s.heap.get? b=ap o->f.heap.get? b=ap o)->(∀h' G,(∀b o,f.heap.get? b=ap o->h'.get? b=ap o)->Q bb { f with heap:=h',toks:=G })->cT (eC prog w) A' (Zc (.ref l) "keys") Q E f)(iter:∀(A':g3)(f:ca)(Q:aad)(E:aad),(∀b o,s.heap.get? b=ap o->f.heap.get? b=ap o)->s.heap.objs.size<f.heap.objs.size->
   (∀h' it fp St,(∀b o,f.heap.get? b=ap o->h'.get? b=ap o)->PSrc prog w s.heap.objs.size it p fp St->St 0 h'->(∀b∈fp,b∈fq\/s.heap.objs.size<b)->Q (.ref it) { f with heap:=h' })->cT (eC prog w) A' (UF<|.ref l) Q E f)(Pd:∀i h,P i h->∃o,h.get? s.heap.objs.size=ap o)(h0:∀h',(∀b o,s.heap.get? b=ap o->h'.get? b=ap o)->h'.get? s.heap.objs.size=ap { cls:=.type "dict",data:=.dict #[] }->P 0 h')(stay:∀i h h',P i h->(∀b o,b∉fq->b<=s.heap.objs.size->h.get? b=ap o->h'.get? b=ap o)->P i h')(step:∀(i:Nat)(hi:i<p.length)(f:ca)(Q:Unit->ca->Prop)(E:aad),P i f.heap->(∀h' G,P (i+1) h'->Uh s.heap.objs.size f.heap h'->Q () { f with heap:=h',toks:=G })->cT (eC prog w) A.in1.in1 (dictSet s.heap.objs.size p[i].1 p[i].2) Q E f)(h:∀f:ca,f.os=s.os->f.gens=s.gens->f.drawn=s.drawn->P p.length f.heap->(∀c o,c∉fq->s.heap.get? c=ap o->f.heap.get? c=ap o)->Q (.ref s.heap.objs.size) f):
  cT (eC prog w) A (call (.type "dict") [.ref l]) Q E s:=by
 refine callType_codes (Q₁:=λobj m=>obj=.ref s.heap.objs.size/\m={ s with heap:=s.heap.push { cls:=.type "dict",data:=.dict #[] } }) F.called_dict (F.typeCall_dict_1 _) PySem.F.entry_dict_init (oH _ ⟨rfl,rfl⟩) ?_
 rintro obj m ⟨rfl,rfl⟩
 have up:∀c o,s.heap.get? c=ap o->(s.heap.push { cls:=.type "dict",data:=.dict #[] }).get? c=ap o:=λc o e=>SF _ e;have g:(s.heap.push { cls:=.type "dict",data:=.dict #[] }).get? s.heap.objs.size=ap { cls:=.type "dict",data:=.dict #[] }:=SK _ rfl;have v:({ s with heap:=s.heap.push { cls:=.type "dict",data:=.dict #[] } }:ca).TypeIs (.ref s.heap.objs.size) "dict":=⟨_,g,rfl⟩;refine⟨v,PySem.F.args_dict_init_2 _ _,?_⟩;unfold Builtin.«dict.__init__» Builtin.Dict.selfAndRest;refine ax (ax<|wpAny_notOrdered_dict v<|wpAny_pure ?_);show cT _ _ (WL "dict.__init__" s.heap.objs.size (.ref l) [] .none) _ _ _;unfold WL;obtain⟨M,Y,N⟩:=hT;refine ax (Zb (T:=T) ⟨M,up _ _ Y,N⟩ ?_);rw[if_pos ht];refine ax (keys _ _ _ _ J up λr y hk₁=>?_);rw[if_pos (show (none:Option ay).isNone=true from rfl)];have u:=hk₁ _ _ g;refine ax (T'<|wpAny_bind (iter _ { s with heap:=r,toks:=y } _ _ (λc o e=>hk₁ c o (up c o e)) (SI u) λq it fp St k₂ C B I=>cx ⟨pa bS _,?_⟩))
 exact xA (A:=A.in1) J C P Pd (λi h h' hP U=>stay i h h' hP λb o n le e=>U b o (λz=>(I b z).elim n λlt=>Wj.2 le lt) e) step p.length 0 { s with heap:=q,toks:=y } (by simp) (Uj _) B (h0 _ (λb o e=>k₂ b o (hk₁ b o<|up b o e))<|k₂ _ _ u)
  (λf L W O q4 R=>⟨rfl,h f L W O q4 λc o n e=>R c o (λz=>(I c z).elim n λlt=>Nat.lt_asymm lt (SI e)) (SY<|SI e) (k₂ c o<|hk₁ c o<|up c o e)⟩) 0
end
structure ZPr(z TI TO d:cb)(S:List ZS)(F:ZS->List ay)(i:Nat)(h:fy):Prop where
 hz:∃f0 f1,ou h z TI TO f0 f1/\(f0=.none/\f1=cp/\(∃vs:List ay,vs.length=S.length/\g_ h TO vs)\/∃(T:cb)(oT:Obj),f0=x9 T/\h.get? T=ap oT/\T≠d/\T∉ox z TI TO S)
 hTI:g_ h TI (S.map λt=>.ref t.i)
 st:Hm S i h
 sq:∀t∈S,SrcSq t.b h t.l (F t).toArray
theorem Kd{TI TO d:cb}{F:ZS->List ay}{xs ys:Z'}(D:ZOk z TI TO S)(W:S.map F=[xs,ys])(hd:d∉ox z TI TO S)(U:∀t∈S,t.l≠d)(len:xs.length=ys.length):
  PSrc prog w d z (xs.zip ys) (ox z TI TO S) (ZPr z TI TO d S F) where
 off:=hd
 stay:=λi h h' p k=>by
  have ne:∀b∈ox z TI TO S,b≠d:=λb y e=>hd (e▸y);obtain⟨⟨f0,f1,B,r⟩,g,p,sq⟩:=p;refine⟨⟨f0,f1,k _ _ (ne z<|by simp) B,?_⟩,k _ _ (ne TI<|by simp) g,λt f=>(p t f).keep λo e=>k _ o (ne t.i<|by simp[Tx f]) e,λt f=>(sq t f).keep λo e=>k _ o (U t f) e⟩
  rcases r with⟨a,b,Y,l,e⟩|⟨T,q,a,b,c,e⟩
  .exact .inl ⟨a,b,Y,l,k _ _ (ne TO<|by simp) e⟩
  .exact .inr ⟨T,q,a,k _ _ c b,c,e⟩
 item:=by
  intro A i hi s Q E R dl p J;obtain⟨⟨f0,f1,B,r⟩,g,p,sq⟩:=p;have hx:i<xs.length:=by rw[W4]at hi;lia
  have hy:i<ys.length:=by lia
  obtain⟨G,zTO,TITO,ni⟩:=mh D;have pr:∀m:List ay,m.map ap=S.map (λt=>(F t)[i]?)->m=[xs[i],ys[i]]:=λm e=>by
   have:S.map (λt=>(F t)[i]?)=(S.map F).map (·[i]?):=by rw[Tb];rfl
   rw[this,W]at e;rcases m with _|⟨u,_|⟨v,_|⟨_,_⟩⟩⟩<;>simp[hx,hy]at e ⊢
   exact e
  have no:∀t∈S,(F t)[i]?≠none:=λt f e=>by
   have:F t∈S.map F:=Tx f;rw[W]at this;have U:(F t).length<=i:=VW.1 e;simp at this;rcases this with e|e<;>rw[e]at U<;>lia
  have L:∀b∈ox z TI TO S,b<s.heap.objs.size\/b=TO:=λb y=>by
   simp at y;rcases y with rfl|rfl|rfl|⟨t,f,rfl⟩
   .exact .inl (SI B)
   .exact .inl (SI g)
   .exact .inr rfl
   .obtain⟨o,e,_⟩:=(p t f).lt
    exact .inl (SI e)
  have up:∀{c:cb},c∉ox z TI TO S->c∉z::TO::S.map ZS.i:=λn x=>n (by
   simp only[ox,SQ]at x ⊢;exact x.imp id .inr)
  refine kZ (F:=λt=>(F t)[i]?) R D B (r.imp id λ⟨T,q,a,b,_⟩=>⟨T,q,a,b⟩) g p (λt f=>⟨_,sq t f,by simp⟩) (λh' m e a M hT C=>?_) (by rintro h' ⟨t,f,eo⟩ _;exact absurd eo (no t f))
  have N:=λc o n=>C c o (up n);refine J h' _ ⟨?_,C _ _ ?_ g,M,λt f=>(sq t f).keep λo e=>N _ o (D.off t f) e⟩ ⟨_,0,hT,rfl,by rw[pr m e];simp⟩ N
  .rcases r with⟨rfl,rfl,Y,hv,I⟩|⟨T,q,rfl,hT',nd,nf⟩
   .obtain⟨_,O,_⟩|⟨n,_⟩:=a
    case inr=>exact absurd rfl n
    refine⟨_,_,O,.inr ⟨_,_,rfl,hT,Vj dl,λy=>?_⟩⟩;rcases L _ y with lt|e
    .exact TN _ lt
    .exact TN _ (e▸SI I)
   .obtain⟨n,_⟩|⟨_,O⟩:=a
    .cases n
    .exact⟨_,_,O,.inr ⟨_,_,rfl,N _ _ nf hT',nd,nf⟩⟩
  .simp
   exact⟨G.symm,TITO,λt f=>(ni t f).2.1⟩
 done:=by
  intro A s Q E R p J;obtain⟨⟨f0,f1,B,r⟩,g,p,sq⟩:=p;have no:∀m:List ay,m.map ap≠S.map (λt=>(F t)[(xs.zip ys).length]?):=λm e=>by
   have:S.map (λt=>(F t)[(xs.zip ys).length]?)=(S.map F).map (·[(xs.zip ys).length]?):=by rw[Tb];rfl
   rw[this,W]at e;rcases m with _|⟨u,m⟩<;>simp[len]at e
  refine kZ R D B (r.imp id λ⟨T,q,a,b,_⟩=>⟨T,q,a,b⟩) g p (λt f=>⟨_,sq t f,by simp⟩) (λh' m e=>absurd e (no m)) λh' _ C=>J h' λc o n=>C c o λx=>n ?_
  simp only[ox,SQ]at x ⊢;exact x.imp id .inr
theorem i_:fillsNumberSlot (.type "tuple") "mul"=pure false:=
 PySem.fillsNumberSlot_seq U9.lookup (by decide +kernel) rfl (by decide +kernel)
theorem rH:seqRepeat? (.type "tuple")=pure (ap<|.builtin "tuple.__mul__"):=by
 rfl
theorem my(a:Int)(t:Tok)(l:cb)(items:aag)(n:Nat)(dd:Option cb)(c:Array (Option ay)):
  Zn (Builtin.«int.__rmul__» ⟨[.int a t,.ref l],[]⟩) (λ_ R s=>s.heap.get? l=ap { cls:=.type "tuple",dict:=dd,data:=.seq items n,slots:=c }/\R (.ok<|.ret Value.notImplemented) s):=
 .of_wp λprog w A R s h=>by obtain⟨e,h⟩:=h;wp_walk;simp_all
theorem nK(l:cb)(items:aag)(n:Nat)(dd:Option cb)(C:Array (Option ay))(x:Int)(u:Tok)(U:1<x)(G:x<=1000)(B:items.size<=1000)(q:items.isEmpty=cp):
  Zn (Builtin.«tuple.__mul__» ⟨[.ref l,.int x u],[]⟩) (λ_ R s=>s.heap.get? l=ap { cls:=.type "tuple",dict:=dd,data:=.seq items n,slots:=C }/\
   R (.ok<|.ret<|.ref s.heap.objs.size) { s with heap:=s.heap.push { cls:=.type "tuple",data:=.seq ((Tp x.toNat items).foldl (·++·) #[]) } }):=
 .of_wp λprog w A R s h=>by
  obtain⟨J,g,d,M,O⟩:=s;obtain⟨m,h⟩:=h;have f1:=AutoSeq1.idx_int;have L:=AutoSeq1.sub_tuple_tuple;have v:(decide (x < -(2 ^ 63))||decide (x>=2 ^ 63))=false:=by simp;lia
  have r:(items.isEmpty||x==1)=false:=by rw[q];simp;lia
  have y:(decide (x<=0)||items.isEmpty)=false:=by rw[q];simp;lia
  have T:(items.size:Int)*x<=1000000:=by
   have N:(items.size:Int)*x<=1000*x:=Int.mul_le_mul_of_nonneg_right (by lia) (by lia)
   lia
  have p:¬((items.size:Int)*x>(2 ^ 63-1) / 8):=by lia
  have o:Wu ((items.size:Int)*x)=false:=by
   unfold Wu;have:(1000000:Int)<=(sizeLine:Int):=by decide
   exact decide_eq_false (by lia)
  wp_walk using ff m
  try simp only[v,Th,if_false]
  wp_walk using ff m
  try simp only[r,Th,if_false]
  wp_walk using ff m
  try simp only[y,Th,if_false]
  wp_walk using ff m
  rw[if_neg p];simp only[o,Th,if_false];unfold Builtin.Tuple.tupleExact;have f:((Tp x.toNat items).foldl (·++·) #[]).toList.length<=sizeLine:=by
   have e:∀(k:Nat)(c:aag),((Tp k items).foldl (·++·) c).size=c.size+k*items.size:=by
    intro k
    induction k with
    |zero=>intro c;simp
    |succ k ih=>intro c;rw[UJ,Ut,ih,Array.size_append,Nat.succ_mul];lia
   rw[Ux,e];have:x.toNat*items.size<=1000*1000:=Nat.mul_le_mul (by lia) B
   have I:(1000*1000:Nat)<=sizeLine:=by decide
   simp only[SW,Wl]at *;lia
  refine ax (L' (cx ⟨_,rfl,?_⟩) f);simpa using h
theorem oj(l:cb)(items:aag)(n:Nat)(dd:Option cb)(e:Array (Option ay))(u:Tok):
  Zn (Builtin.«tuple.__mul__» ⟨[.ref l,.int 1 u],[]⟩) (λ_ R s=>s.heap.get? l=ap { cls:=.type "tuple",dict:=dd,data:=.seq items n,slots:=e }/\R (.ok<|.ret<|.ref l) s):=
 .of_wp λprog w A R s h=>by
  obtain⟨c,h⟩:=h
  wp_walk using ff c
  simp_all
theorem lG(l:cb)(items:aag)(n:Nat)(dd:Option cb)(m:Array (Option ay))(x:Int)(u:Tok)(p:x<=0)(f:-1000<=x)(g:items.isEmpty=cp):
  Zn (Builtin.«tuple.__mul__» ⟨[.ref l,.int x u],[]⟩) (λ_ R s=>s.heap.get? l=ap { cls:=.type "tuple",dict:=dd,data:=.seq items n,slots:=m }/\
   R (.ok<|.ret<|.ref s.heap.objs.size) { s with heap:=s.heap.push { cls:=.type "tuple",data:=.seq #[] } }):=
 .of_wp λprog w A R s h=>by
  obtain⟨c,h⟩:=h;have o:(decide (x < -(2 ^ 63))||decide (x>=2 ^ 63))=false:=by simp;lia
  have e:(items.isEmpty||x==1)=false:=by rw[g];simp;lia
  wp_walk using ff c
  try simp_all
  wp_walk using ff c
  try simp only[e,if_false]
  wp_walk using ff c
  simp_all
section
theorem C9{Z6:Z'}{k:Int}{u:Tok}(M:s.heap.IsTuple l Z6.toArray)(U:Z6≠[])(I:0<=k)(L:k<=1000)(T:Z6.length<=1000)(J:k=1->Q (.ref l) s)(N:k≠1->Q (.ref s.heap.objs.size) { s with heap:=s.heap.push { cls:=.type "tuple",data:=.seq (Tp k.toNat Z6).flatten.toArray } }):
  cT (eC prog w) A (j0 .Mult (.ref l)<|.int k u) Q E s:=by
 obtain⟨⟨cls,g,data,o⟩,e,y,n,C⟩:=M;subst y C;have q:Z6.toArray.isEmpty=false:=by simp_all
 refine wpAny_binaryOp_repeat_ref (by decide) ⟨_,e,rfl⟩ (λr=>typeIs_int r k u) i_ PySem.F.fills_int_mul Xw rH rfl
  (qa Xw rfl PySem.F.entry_int_rmul (PySem.F.args_int_rmul_2 _ _) (my k u l _ n g o) ⟨e,rfl,⟨_,e,rfl⟩,?_⟩)
 by_cases f:k=1
 .subst f
  exact qa U9 ⟨_,e,rfl⟩ V0 (VT _ _) (oj l _ n g o u) ⟨e,J rfl⟩
 .have v:=N f
  by_cases p:k<=0
  .refine qa U9 ⟨_,e,rfl⟩ V0 (VT _ _) (lG l _ n g o k u p (by lia) q) ⟨e,?_⟩
   have R:k.toNat=0:=by lia
   simp_all
  .refine qa U9 ⟨_,e,rfl⟩ V0 (VT _ _) (nK l _ n g o k u (by lia) L (by assumption) q) ⟨e,?_⟩
   have O:∀(m:Nat)(c:List _),List.foldl (λx1 B=>x1++B) c.toArray (Tp m Z6.toArray)=(c++(Tp m Z6).flatten).toArray:=by
    intro m
    induction m with
    |zero=>simp
    |succ m ih=>
     intro c;have G:c.toArray++Z6.toArray=(c++Z6).toArray:=by simp
     rw[UJ,Ut,G,ih,UJ,List.flatten_cons,List.append_assoc]
   simp_all
end
section
theorem Fi:cD X (j0 .Add) (λx y H Q=>∃a b ys,x=.ref a/\y=.ref b/\jH X.K H a []/\jH X.K H b ys/\Q (.ref b) H):=by
 intro Z0 s Z H x y v u Q I R N h;obtain⟨a,b,ys,rfl,rfl,W,U,q⟩:=h;cases R;cases N;obtain⟨p,M,p1,_⟩:=I.tuple W;obtain⟨f,r2,O,_⟩:=I.tuple U;obtain rfl:p=[]:=M.zero;obtain⟨⟨Y,T,B,sl⟩,J,C,n,L⟩:=id p1;obtain⟨⟨G,o,m,r⟩,c,g,n2,e⟩:=id O;simp only at C L g e;subst C L g e
 exact ZM ⟨_,J,rfl⟩ ⟨_,c,rfl⟩ Zi Zz V8 V1 (VU _ _)
  (tuple_addW0 a b #[] f.toArray n n2 T o sl r rfl) ⟨J,c,⟨.ref b,H,I,rfl,q⟩⟩
theorem F3(f:n.log2<2000)(e:0<n):cD X (j0 .FloorDiv) (rI (λ_ j=>j=(n:Int)) λi j=>.int (i / j)):=PM λi j _ _ _ _ _ c q=>by
 subst c;refine floordiv_int (by lia) ?_ (.inl<|PyProof.noPylong_of_log2<|by simpa using XQ f (by decide))
 rw[Int.fdiv_eq_ediv_of_nonneg _ (by lia)]
 exact q
def FY(K:SM)(b1 b2:Bool)(t:TA):TE:=λZ H Q=>t Z H λc H1=>∃(l1 l2:cb)(ks:List aF)(ys:List V),c=[.ref l1,.ref l2]/\nF K b1 H1 l1 (ks.map kV)/\nF K b2 H1 l2 ys/\ks.length=ys.length/\0<ks.length/\ks.length<=1000/\
 ∀d,H1 d=bb->Q (.ref d) (upd H1 d<|.dK<|(ks.zip ys).foldl (λa p=>eV a p.1 p.2) [])
theorem we{xs:List (aF×ay)}{k:aF}{u:ay}:(Y' xs k u).length<=xs.length+1:=by
 unfold Y'
 split
 .rw[SH];lia
 simp
theorem jq:∀(rs xs:List (aF×ay)),(rs.foldl (λa r=>Y' a r.1 r.2) xs).length<=xs.length+rs.length
 |[],xs=>by simp
 |r::rs,xs=>by
  have:=jq rs (Y' xs r.1 r.2);have:=we (xs:=xs) (k:=r.1) (u:=r.2);rw[Ut,Tt];lia
theorem Kt:∀{Z2:List (aF×V)}{rs:List (aF×ay)},KV Z2 rs->∀{a:List (aF×V)}{xs:List (aF×ay)},KV a xs->KV (Z2.foldl (λa p=>eV a p.1 p.2) a) (rs.foldl (λa r=>Y' a r.1 r.2) xs):=by
 intro Z2 rs h;unfold KV at h
 induction h with
 |nil=>intro a xs h;exact h
 |cons h _ ih=>
  intro a xs c;rw[Ut,Ut];refine ih ?_;rw[<- h.1];exact c.put _ h.2
theorem lT{g:ca}{T:String}{rs:List (aF×ay×ay)}{Z2:List (aF×V)}{fq:aaa}{Q:V->Hp->Prop}(hc:X.calm=true)(I:Inv X Z0 Z H g)(o1:s.os=g.os)(o2:s.gens=g.gens)(o3:s.drawn=g.drawn)(k0:∀c o,g.heap.get? c=ap o->s.heap.get? c=ap o)(sz:g.heap.objs.size<=s.heap.objs.size)(B:∀b∈fq,g.heap.objs.size<=b/\b<s.heap.objs.size)(kv:KV Z2 (rs.map λr=>(r.1,r.2.2)))(u:∀r∈rs,(aU X.prog X.w).is r.1 r.2.1=true)(hz:rs.length<=1000000)(hT:∃o,s.heap.get? l=ap o/\o.cls=.type T)(ht:(VG T != VG "dict")=true)(keys:∀(A':g3)(f:ca)(Q:Option ay->ca->Prop)(E:aad),A'.handled=bb->(∀b o,s.heap.get? b=ap o->f.heap.get? b=ap o)->(∀h' tk,(∀b o,f.heap.get? b=ap o->h'.get? b=ap o)->Q bb { f with heap:=h',toks:=tk })->cT (eC X.prog X.w) A' (Zc (.ref l) "keys") Q E f)(iter:∀(A':g3)(f:ca)(Q:aad)(E:aad),(∀b o,s.heap.get? b=ap o->f.heap.get? b=ap o)->s.heap.objs.size<f.heap.objs.size->
   (∀h' it fp St,(∀b o,f.heap.get? b=ap o->h'.get? b=ap o)->PSrc X.prog X.w s.heap.objs.size it (rs.map λr=>(r.2.1,r.2.2)) fp St->St 0 h'->(∀b∈fp,b∈fq\/s.heap.objs.size<b)->Q (.ref it) { f with heap:=h' })->cT (eC X.prog X.w) A' (UF<|.ref l) Q E f)(q:∀p,H p=bb->Q (.ref p) (upd H p<|.dK<|Z2.foldl (λa p=>eV a p.1 p.2) [])):
  cT (eC X.prog X.w) X.A (call (.type "dict") [.ref l]) (EP X Z0 Z Q) X.xe s:=by
 refine x6 (I.ok.hd hc) (λi h=>h.DictOf (aU X.prog X.w) _ (((rs.take i).map λr=>(r.1,r.2.2)).foldl (λa r=>Y' a r.1 r.2) [])) hT ht keys iter (by rintro i h ⟨o,G,C,e,_⟩;exact⟨o,e⟩) ?_ ?_ ?_ ?_
 .intro h' R hd
  obtain⟨o,G,C,J,r⟩:=Heap.DictOf.new (knd:=aU X.prog X.w) s.heap;rw[SK _ rfl]at J;cases J;exact⟨_,G,C,hd,r⟩
 .rintro i h h' ⟨o,G,C,J,r⟩ M
  exact⟨o,G,C,M _ o (λz=>TN _ (B _ z).2) (SO _) J,r⟩
 .rintro i U f Q' E' hd hQ
  have y:i<rs.length:=by simpa using U
  simp;have m:(((rs.take i).map λr=>(r.1,r.2.2)).foldl (λa r=>Y' a r.1 r.2) []).length<=sizeLine:=by
   have:=jq ((rs.take i).map λr=>(r.1,r.2.2)) [];have h2:(1000000:Nat)<=sizeLine:=by decide
   simp only[Wl,SH,Wc]at this;lia
  refine wpAny_dictSet_pairs (u rs[i] (UK y)) hd (λh' L Y=>hQ h' _ ?_ Y) m;rw[List.take_succ_eq_append_getElem y,VA,List.foldl_append];exact L
 .rintro f p1 p2 p3 hd R
  simp at hd;have O:=I.big;have hn:=I.hok.fresh sz;obtain⟨hh',g',W,t',N⟩:=f;obtain rfl:N=g.os:=p1.trans o1;obtain rfl:g'=g.gens:=p2.trans o2;obtain rfl:W=g.drawn:=p3.trans o3;refine⟨.ref _,_,I.laid (t':=t') (λc o e=>R c o (λz=>Wj.2 (B c z).1 (SI e)) (k0 c o e)) sz ?_,rfl,q _ hn⟩;have v:=Kt kv (a:=[]) (xs:=[]) .nil;refine sQ ?_ (by lia) v hd
  rw[UE v];have:=jq (rs.map λr=>(r.1,r.2.2)) [];have h2:(1000000:Nat)<=sizeLine:=by decide
  simp at this;lia
theorem OI:∀{ks:List aF}{Z6:Z'}{ys:List V}{us:Z'},Vals (ks.map kV) Z6->Vals ys us->ks.length=ys.length->
  KV (ks.zip ys) ((ks.zip<|Z6.zip us).map λr=>(r.1,r.2.2))/\(∀r∈ks.zip (Z6.zip us),(aU P w).is r.1 r.2.1=true)/\(ks.zip<|Z6.zip us).map (λr=>(r.2.1,r.2.2))=Z6.zip us:=by
 intro ks
 induction ks with
 |nil=>
  intro Z6 ys us h h' e;cases h;cases ys with
  |nil=>cases h';exact⟨.nil,λr h=>by simp at h,rfl⟩
  |cons _ _=>simp at e
 |cons k ks ih=>
  intro Z6 ys us h h' e;cases ys with
  |nil=>simp at e
  |cons y ys=>
   cases h with
   |cons r t=>
    cases h' with
    |cons r' t'=>
     obtain⟨a,b,c⟩:=ih (ys:=ys) t t' (by simpa using e)
     exact⟨.cons ⟨rfl,r'⟩ a,λq f=>(SQ.1 f).elim (λe=>by subst e;exact iz r) (b q),by simpa using c⟩
theorem xa{a b:fv}{ta:TA}{p p2 c:Pos}(b1 b2:Bool)(hc:X.calm=true)(hg:Gl X "zip")(hm:X.mg "zip"=bb)(hg2:Gl X "dict")(hm2:X.mg "dict"=bb)(ha:PA X [a,b] ta)(hs:ee [a,b] X.env=[(cp,fx a X.env),(cp,fx b X.env)]:=by rfl)(hs2:ee [b] X.env=[(cp,fx b X.env)]:=by rfl)(hs3:ee [XD (.Name "zip" p2) [a,b] [] c] X.env=[(cp,fx (.Call (.Name "zip" p2) [a,b] [] c) X.env)]:=by rfl):
  PE X (.Call (.Name "dict" p) [.Call (.Name "zip" p2) [a,b] [] c] [] pos) (FY X.K b1 b2 ta):=by
 intro Z0 s Z H Q I h;refine Call_ (cG I hg2 hm2 (by decide +kernel:eT "dict"=ap (.type "dict"))<|TM ?_ hs3 rfl)
 rw[hs3];show cT _ _ (spliced ((cp,_)::g4 pos [])) _ _ s;refine UL ?_;refine Call_ (cG I hg hm (by decide +kernel:eT "zip"=ap (.type "zip"))<|TM (bu (ha c Z0 s Z H _ I h) λus L zz=>?_) (by rw[hs,hs2])<|by rw[hs2];rfl)
 obtain⟨vs,H1,I1,r1,q1⟩:=zz;obtain⟨l1,l2,ks,ys,e,q1,q2,hl,h0,hz,q⟩:=q1;subst e;obtain⟨u1,u2,rfl,ru1,ru2⟩:=r1.two;cases ru1;cases ru2;obtain⟨r,N,B,z1⟩:=I1.src q1;obtain⟨y,O,J,z2⟩:=I1.src q2;refine pc (args:=[(b1,l1),(b2,l2)]) (.inl rfl) (λp hp=>?_) λh' z TI TO S eS D g U W st Y R=>?_
 .simp only[SQ,Wb,or_false]at hp
  rcases hp with rfl|rfl
  .exact⟨_,B⟩
  .exact⟨_,J⟩
 refine Vc ?_;have e1:=N.length;have e2:=O.length;rw[SH]at e1;obtain⟨kv,G,eps⟩:=OI (P:=X.prog) (w:=X.w) N O hl;have zt:ZTn z TI TO S 0 h':=⟨g,U,⟨_,by rw[SH],W⟩,st⟩
 have C:∀b∈ox z TI TO S,b<h'.objs.size:=λb Y=>let ⟨o,e,_⟩:=zt.obj b Y;SI e;have ll:∀t∈S,∃u,SrcSq t.b L.heap t.l u/\t.l<h'.objs.size:=λt ht=>by
  have:(t.b,t.l)∈[(b1,l1),(b2,l2)]:=eS▸Tx (f:=λt:ZS=>(t.b,t.l)) ht;have h:∃u,SrcSq t.b L.heap t.l u:=by
   simp only[SQ,Wb,or_false,Prod.mk.injEq]at this;rcases this with⟨e,e'⟩|⟨e,e'⟩<;>rw[e,e']
   .exact⟨_,B⟩
   .exact⟨_,J⟩
  obtain⟨u,q⟩:=h;refine⟨u,q,?_⟩;obtain⟨b,i,l⟩:=t;cases b with
  |true=>obtain⟨o,e,_⟩:=(show L.heap.IsList l u from q);exact SI (R _ _ e)
  |false=>obtain⟨o,e,_⟩:=(show L.heap.IsTuple l u from q);exact SI (R _ _ e)
 refine lT (s:={ L with heap:=h' }) (T:="zip") (rs:=ks.zip (r.zip y)) (Z2:=ks.zip ys) (fq:=ox z TI TO S) hc I1 rfl rfl rfl R ?_ (λb h=>⟨Y b h,C b h⟩) kv G (by simp only[W4];lia) ⟨_,g,rfl⟩ (by decide) (λA' s' Q' E' hh m k=>oq (m _ _ g) hh k) (λA' s' Q' E' m lt k=>Zf (m _ _ g) ?_) q
 .rcases UP h'.objs.size L.heap.objs.size with lt|ge
  .have:=Y z (by simp);exact absurd (C z<|by simp) (Wj.2<|SX (Vk lt) this)
  .exact ge
 .obtain⟨t,u,rfl⟩:=OG (by have:=congrArg UN eS;simpa using this)
  simp only[SJ,TJ,Ue,Prod.mk.injEq,and_true]at eS;obtain⟨⟨eb,el⟩,eb',el'⟩:=eS;have ne:u.i≠t.i:=Am D (i:=1) (j:=0) rfl rfl (by decide)
  rw[eps]at k;refine k s'.heap z _ (ZPr z TI TO h'.objs.size [t,u] λv=>if v.i=t.i then r else y) (λ_ _ e=>e) (Kd D (by simp[ne]) (λh=>TN _ (C _ h)) (λv M=>let ⟨_,_,h⟩:=ll v M;SY h)<|by lia) ?_ λb h=>.inl h
  refine⟨⟨_,_,m _ _ g,.inl ⟨rfl,rfl,_,by rw[SH],m _ _ W⟩⟩,m _ _ U,λv M=>(st v M).keep λo e=>m _ o e,λv M=>?_⟩
  simp only[SQ,Wb,or_false]at M;rcases M with rfl|rfl
  .rw[if_pos rfl,eb,el]
   exact B.keep λo e=>m _ o (R _ o e)
  .rw[if_neg ne,eb',el']
   exact J.keep λo e=>m _ o (R _ o e)
end
end _2
namespace _T
open PySem _2
end _T
namespace _2
open PySem PySem.Spec PyProof.Rows
variable{h:fy}{H:Hp}{P:eX}{s:ca}{w:f'}
section
variable{X:Cx}
theorem nO{M:Model}{A:g3}{E:aad}{g:Type}{n:Nat}(f:Nat->g->Sem (ForInStep g))(I:Nat->g->ca->Prop)(Q:g->ca->Prop)(a:∀i b s,i<n->I i b s->cT M A (f i b) (λr s'=>match r with|.yield b'=>I (i+1) b' s'|.done b'=>Q b' s') E s)(fin:∀b s,I n b s->Q b s)(b:g)(h:I 0 b s):cT M A (forIn [0:n] b f) Q E s:=by
 rw[Std.Legacy.Range.forIn_eq_forIn_range'];have m:[0:n].size=n:=by simp
 rw[m];refine wpAny_forIn_list f (λl c s=>∃i,i<=n/\l=Va i (n-i) 1/\I i c s) Q ?_ ?_ _ b ⟨0,by lia,rfl,h⟩
 .rintro x u c s ⟨i,v,j,p⟩
  have o:i<n:=by
   rcases UP i n with h'|h'
   .exact h'
   simp_all
  obtain⟨k,q⟩:∃k,n-i=k+1:=⟨n-i-1,by lia⟩
  rw[q]at j;obtain⟨rfl,rfl⟩:=List.cons.inj j;refine kB (a x c s o p) (λr s' h'=>?_) λ_ _ e=>e;cases r with
  |done c'=>exact h'
  |yield c'=>exact⟨_,by lia,by congr 1;lia,h'⟩
 rintro c s ⟨i,v,j,p⟩
 have:i=n:=by
  rcases UP i n with h'|h'
  .obtain⟨k,q⟩:∃k,n-i=k+1:=⟨n-i-1,by lia⟩
   simp_all
  lia
 simp_all
theorem jE(l:cb)(items:aag)(n:Nat)(dd:Option cb)(F:Array (Option ay))(x:ay)(e:ay->Bool)(G:∀y,y∈items->MeetsSeq.EqGives y x (e y))(j:Nat)(L:j<items.size)(q:e items[j]=true)(r:∀m (hm:m<items.size),m<j->e items[m]=cp):
  Zn (Builtin.«tuple.index» ⟨[.ref l,x],[]⟩) (λ_ R s=>s.heap.get? l=ap { cls:=.type "tuple",dict:=dd,data:=.seq items n,slots:=F }/\R (.ok<|.ret<|.int j s.toks) { s with toks:=s.toks+1 }):=
 .of_wp λc w A R s h=>by
  obtain⟨z,g,d,E,C⟩:=s;obtain⟨B,h⟩:=h
  wp_walk using AutoSeq1.wpAny_loadPart' B
  refine nO (n:=min items.size items.size) _ (λi (b:Option _×_) f=>b.1=bb/\i<=j/\f=⟨z,g,d,E,C⟩) _ ?turn ?fin _ ?strt
  case turn=>
   rintro i b f I ⟨u,o,rfl⟩
   have a:i<items.size:=by lia
   have p:items[i]?=ap items[i]:=by simp[a]
   simp only[p];refine ax (G _ (Array.getElem_mem a) c w _ _ _ _ ?_)
   by_cases v:i=j
   .subst v
    rw[q]
    wp_walk
    exact⟨_,rfl,h⟩
   .rw[r i a (by lia)]
    wp_walk
    exact⟨rfl,by lia,rfl⟩
  case fin=>
   rintro⟨K,J⟩ f ⟨u,o,rfl⟩
   lia
  case strt=>
   exact⟨rfl,Uj _,rfl⟩
theorem Inv.tupD{b:aae}{Z:St}{a:cb}{xs:List V}(I:Inv X b Z H s)(h:H a=ap (.tup xs)):
  ∃(Z6:Z')(n:Nat)(sl:Array (Option ay)),Vals xs Z6/\s.heap.get? a=ap { cls:=.type "tuple",dict:=bb,data:=.seq Z6.toArray n,slots:=sl }:=by
 obtain⟨z,Z6,r,⟨cls,g,data,slots⟩,e,⟨c,n,d⟩,f⟩:=I.hok a _ h;simp only at c d f;subst c d f;exact⟨Z6,n,slots,r,e⟩
theorem gu:∀{names:Z_}{us:Z'},Vals (names.map V.str) us->∀(j:Nat)(h:j<us.length),∃(y:Str)(t:Tok),names[j]?=ap y/\us[j]=.str y t
 |[],us,r,j,h=>by cases r;trivial
 |x::names,us,r,j,h=>by
  cases r with
  |cons r1 r2=>
   cases j with
   |zero=>obtain⟨t,rfl⟩:=r1;simp_all
   |succ j=>obtain⟨y,t,b,a⟩:=gu r2 j (by simpa using h);simp_all
def QF:V->List V->Hp->VK->Prop:=λx b H Q=>∃(a:cb)(names:Z_)(z:Str)(j:Nat),x=.ref a/\b=[.str z]/\H a=ap (.tup<|names.map V.str)/\names.length<=1000/\names[j]?=ap z/\(∀m,m<j->names[m]?≠ap z)/\Q (.int (j:Int)) H
theorem C8:wf X "tuple.index" QF:=by
 intro F s Z H x T v S Q I L J h;obtain⟨a,b,z,j,rfl,rfl,N,U,o,p,q⟩:=h;cases L;obtain⟨u,rfl,M⟩:=J.one;obtain⟨t,rfl⟩:=M;obtain⟨c,n,R,r,e⟩:=I.tupD N;have K:=r.length;rw[SH]at K;have O:j<b.length:=by
  rcases UP j b.length with z'|z'
  .exact z'
  .rw[UB z']at o;cases o
 have C:j<c.toArray.size:=by rw[SW];lia
 refine qa U2 ⟨_,e,rfl⟩ W3 (WY _ _)
  (jE a c.toArray n bb R (.str z t) (λv=>match v with|.str y _=>y==z|_=>cp) (λy G=>?_) j C ?_ λm l A=>?_) ⟨e,?_⟩
 .obtain⟨m,l,rfl⟩:=VD (by simpa using G:y∈c)
  obtain⟨i,B,f,g⟩:=gu r m l;rw[g];exact eqGives_str i z B t
 .obtain⟨i,B,f,g⟩:=gu r j (by lia)
  rw[o]at f;cases f;simp[g]
 .obtain⟨i,B,f,g⟩:=gu r m (by rw[SW]at l;exact l)
  have E:=p m A;rw[f]at E;have ne:¬i=z:=λe=>E (by rw[e])
  simp[g,ne]
 .exact⟨.int (j:Int),H,I.tok _,⟨_,rfl⟩,q⟩
def tTM(r:V->List V->Hp->VK->Prop)(to:TE)(t:TA):TE:=λZ H Q=>to Z H λx H1=>(∃a b,x=.ref a/\H1 a=ap (.tup b))/\t Z H1 λb H2=>r x b H2 Q
theorem PY{o e:fv}{es:aab}{to:TE}{t:TA}{name:Str}{Z5 Z4:Pos}{id:String}{r:V->List V->Hp->VK->Prop}(c:ZB "tuple" name id)(f:Y_ (.builtin id)=pure (.type "method_descriptor"))(L:wf X id r)(K:PE X o to)(J:PA X (e::es) t)(b:kL o name X.env (fx o X.env)=fx o X.env:=by rfl)(hfew:((g4 Z4<|starEach (e::es) X.env).all (λx=>!x.1)&&(wh Z4<|keywordEach [] X.env).all (λx=>x.1.isSome)
   && decide ((e::es).length+([]:List vb).length+(if ([]:List vb).isEmpty then 0 else 1)<30))=true:=by rfl)(hline:(Z5.endLine==Z4.line)=true:=by rfl)(hs:ee (e::es) X.env=(cp,fx e X.env)::ee es X.env:=by rfl)(hplain:(g4 Z4<|starEach es X.env).any (·.1)=false:=by rfl):
  PE X (.Call (.Attribute o name Z5) (e::es) [] Z4) (tTM r to t):=by
 intro i s Z H Q I h;refine ZH b hfew hline rfl (bu (K _ s Z H _ I h) λv E l=>?_);obtain⟨x,H1,I1,m,⟨a,M,G,y⟩,p⟩:=l;subst G;cases m;obtain⟨j,n,O,N,C⟩:=I1.tupD y;refine⟨_,id,PySem.F.plainAttrs_tuple,c,f,⟨_,C,rfl⟩,by simp_all,?_⟩
 have g:=J Z4 _ E Z H1 _ I1 p;rw[hs]at g ⊢;exact UM (by assumption) (UW<|bu g<|by rintro q z ⟨B,H2,I2,A,u⟩;exact L _ z Z H2 (.ref a) B _ q Q I2 rfl A u)
end
theorem gb{h a:fy}{S:aaa}:∀{l:List Env},h.FunFrames a l->(∀b∈h8 l,b∈S)->h.FunFrames (W7 h S) l
 |[],_,_=>trivial
 |env::r,hl,hs=>by
  obtain⟨i,⟨L,o,c,n,g,m⟩,j⟩:=hl;have f:L∈S:=hs L (by unfold h8;rw[U6,c];exact TF)
  exact⟨i,⟨L,o,c,W.hideAll_none S f,g,m⟩,gb j λb e=>hs b (by unfold h8;rw[U6,c];exact Ta _ e)⟩
def Dj(P:eX)(w:f')(C:cb):ow:=λa H s E e c=>∃(ea:cb)(H':Hp)(B:fy)(a0:ay),e=.ref ea/\c.os=s.os/\T_ c.gens/\Un (h8 a) [] H H' s.heap c.heap/\HOk P w H' c.heap/\
 Heap.FlyingW B a ea (.ref C) a0 c.heap/\(∀b u,H' b=ap u->∃o,B.get? b=ap o)/\(∀b o,s.heap.get? b=ap o->b∉h8 a->∃o',B.get? b=ap o')/\E (.ref C) bb H'
theorem sH{h' B:fy}(c:HOk P w H h)(k:B.StaysIn h)(j:B.StaysIn h')(g:∀b u,H b=ap u->∃o,B.get? b=ap o):HOk P w H h':=λa o e=>
 (c a o e).stay (λb u i q=>by
  obtain⟨v,f⟩:∃v,B.get? b=ap v:=by
   rcases i with rfl|z
   .exact g _ _ e
   .exact g _ _ z
  have:=k b v f;rw[q]at this;cases this;exact j b _ f) (λ_ q=>q) λ_ _ q=>q
theorem wY{fs:aaa}{H':Hp}{l m B:fy}(un:Un fs [] H H' h l)(k1:B.StaysIn l)(k2:B.StaysIn m)(r:l.UpToSlots m)(u:∀b o,h.get? b=ap o->b∉fs->∃e,B.get? b=ap e)(p:∀b∈fs,∀o,h.get? b=ap o->∀vs,o.data≠.fields vs)(x:∀b∈fs,H b=bb):Un fs [] H H' h m where
 keep:=λb o q n a f=>by
  have g:=un.keep b o q n a f;obtain⟨e,c⟩:=u b o q a;have:=k1 b e c;rw[g]at this;cases this;exact k2 b _ c
 slot:=λb o q n a f=>by
  obtain⟨v,g⟩:=un.slot b o q n a f;obtain⟨j,i⟩:=r b _ g (p b a o q);exact⟨_,i⟩
 free:=un.free
 there:=λb o q f=>by
  by_cases a:b∈fs
  .obtain⟨v,g⟩:=un.slot b o q (x b a) a f
   obtain⟨j,i⟩:=r b _ g (p b a o q);exact⟨_,i⟩
  obtain⟨e,c⟩:=u b o q a;exact⟨e,k2 b e c⟩
 tups:=un.tups
 frzs:=un.frzs
 tbls:=un.tbls
section
variable{K:SM}{mg:aaf}{base:fy}{N:Z_}{Z1:Str}{scope:F'}{f C:cb}{cd:ay}{A:g3}{outer:List Env}{s0:ca}{H0:Hp}{E:XK}
theorem vT{env:Env}{L:cb}{l:List Env}(h:env.frame=ap L):h8 (env::l)=L::h8 l:=by unfold h8;simp_all
theorem Se:bH (Dj P w C) (eG (Dj P w C) P w K mg base N Z1 scope f cd A outer s0 H0 E) E:=by
 intro T Z H s e X I a;obtain⟨O,H',B,a0,rfl,L,g,un,G,l,S,Q,U⟩:=a;have F:(eG (Dj P w C) P w K mg base N Z1 scope f cd A outer s0 H0 E).stack=envOfC Z1 scope s0.heap.objs.size f cd::outer:=rfl;have y:(envOfC Z1 scope s0.heap.objs.size f cd).frame=ap s0.heap.objs.size:=rfl;have r:h8 (envOfC Z1 scope s0.heap.objs.size f cd::outer)=s0.heap.objs.size::h8 outer:=vT y;rw[F]at un l Q;show cT (eC P w) (A.deeper<|envOfC Z1 scope s0.heap.objs.size f cd) (leaving (envOfC Z1 scope s0.heap.objs.size f cd)<|.ref O) (λ_ p=>Dj P w C outer H0 s0 E (.ref O) p) (λe' p=>Dj P w C outer H0 s0 E e' p) X;refine wpAny_leaves_onW I.ok.frames y l λh' j J=>?_;have i:Un (h8 outer) [] H0 H s0.heap s.heap:=I.base;have nofr:∀{b:cb}{o:Obj},s0.heap.get? b=ap o->b∉h8 outer->b∉h8 (envOfC Z1 scope s0.heap.objs.size f cd::outer):=λ{b o} q g z=>by
  rw[r]at z;rcases SQ.mp z with e|z
  .exact TN _ (e▸SI q)
  .exact g z
 have c:Un (h8 (envOfC Z1 scope s0.heap.objs.size f cd::outer)) [] H H' s.heap h':=by
  refine wY un l.1 j.1 J Q (λb g o q vs=>?_) λb g=>?_
  .obtain⟨_,o',v,hd⟩:=I.stack.mem (show b∈_ from g)
   rw[q]at v;cases v;exact hd vs
  .exact I.stkFree b g
 refine⟨O,H',B,a0,rfl,L.trans I.os,g,?_,sH G l.1 j.1 S,j,S,λb o q g=>?_,U⟩
 .refine⟨λb o q n g a=>?_,λb o q n g a=>?_,λb o q n a=>?_,λb o q a=>?_,λb R q=>c.tups b R (i.tups b R q),λb o u q=>c.frzs b o u (i.frzs b o u q),λb ps q=>?_⟩
  .exact c.keep b o (i.keep b o q n g a) (i.free b o q n a) (nofr q g) a
  .obtain⟨sl,m⟩:=i.slot b o q n g a
   obtain⟨M,Y⟩:=c.slot b _ m (i.free b o q n a) (by rw[r];exact Ta _ g) a
   exact⟨M,Y⟩
  .obtain⟨x,m⟩:=i.there b o q a
   exact c.free b x m (i.free b o q n a) a
  .obtain⟨x,m⟩:=i.there b o q a
   exact c.there b x m a
  .obtain⟨m1,e1⟩:=i.tbls b ps q
   obtain⟨W,e2⟩:=c.tbls b _ e1;exact⟨m1++W,by rw[e2,Yd]⟩
 .obtain⟨x,m⟩:=i.there b o q (by simp)
  exact Q b x m (nofr q g)
structure ExcAt(K:SM)(C:cb):Prop where
 at_:∃(nm q:Str)(Nn:cb)(bs bm bmB:Z')(hdct:Bool)(sn:Z_)(sub:Z')(ab:Bool)(col:Option Bool)(dd:Option cb)(k0 k1 k2 k3 k5:Option ay)(newId initId Bs:String)(mN:aaf),
  (∀h:fy,K.In h->h.get? C=ap (excClassObj nm q C Nn bs bm hdct sn sub ab col dd k0 k1 k2 k3 k5 newId)/\h.Ns Nn mN/\OwnTail h bmB bm)/\mN "__init__"=bb/\ExcBaseFacts Bs newId initId bmB/\bmB.contains (.type Bs)=true/\bm.contains (.type "BaseException")=true
theorem ObjOk.obj{a:cb}{o:HO}(x:ObjOk P w H h a o):∃v,h.get? a=ap v:=by
 cases o with
 |lst xs=>obtain⟨_,_,_,_,e⟩:=x;exact⟨_,e⟩
 |tup xs=>obtain⟨_,_,_,_,e,_⟩:=x;exact⟨_,e⟩
 |set S n=>obtain⟨o,_,_,_,e,_⟩:=x;exact⟨_,e⟩
 |ins C dx fs=>obtain⟨_,_,_,e,_⟩:=x;exact⟨_,e⟩
 |own y=>assumption
 |xd fs=>obtain⟨_,⟨_,_,_,e,_⟩,_⟩:=x;exact⟨_,e⟩
 |rng lo hi=>obtain⟨_,_,_,e⟩:=x;exact⟨_,e⟩
 |frz ob u=>obtain⟨e,_⟩:=x;exact⟨_,e⟩
 |tbl ps=>exact⟨_,x⟩
 |met f y=>exact⟨_,x⟩
 |ext φ=>obtain⟨_,⟨_,e⟩,_⟩:=x;exact⟨_,e⟩
 |_=>obtain⟨_,_,_,_,o,_,_,e,_⟩:=x;exact⟨_,e⟩
theorem J6{fs:aaa}{L:cb}{H0 H':Hp}{l h':fy}(g:Un fs [] H0 H l h)(a:Un (L::fs) [] H H' h h')(G:l.objs.size<=L):Un fs [] H0 H' l h':=by
 have nofr:∀{b:cb}{o:Obj},l.get? b=ap o->b∉fs->b∉L::fs:=λ{b o} q i z=>by
  rcases SQ.mp z with e|z
  .exact TN _ (Tc (e▸SI q) G)
  exact i z
 refine⟨λb o q n i c=>a.keep b o (g.keep b o q n i c) (g.free b o q n c) (nofr q i) c,λb o q n i c=>?_,λb o q n c=>?_,λb o q c=>?_,λb p q=>a.tups b p (g.tups b p q),λb o u q=>a.frzs b o u (g.frzs b o u q),λb y q=>?_⟩
 .obtain⟨J,j⟩:=g.slot b o q n i c
  obtain⟨x,v⟩:=a.slot b _ j (g.free b o q n c) (Ta _ i) c;exact⟨_,v⟩
 .obtain⟨m,j⟩:=g.there b o q c
  exact a.free b m j (g.free b o q n c) c
 .obtain⟨m,j⟩:=g.there b o q c
  exact a.there b m j c
 obtain⟨F,B⟩:=g.tbls b y q;obtain⟨r,I⟩:=a.tbls b _ B;exact⟨F++r,by simp_all⟩
def MV(E:XK)(C:cb):TS:=λ_ _ H=>E (.ref C) bb H
theorem GE{x l:Str}{np Z4 pos Z5:Pos}{jj}(X:ExcAt K C)(hm:mg x=ap (.ref C))(hg:Gl (eG (Dj P w C) P w K mg base N Z1 scope f cd A outer s0 H0 E) x)(hd:(x==("__debug__":Str))=false:=by decide)(hs:ee [.Constant (.str l) jj Z5] (eG (Dj P w C) P w K mg base N Z1 scope f cd A outer s0 H0 E).env=[(cp,fx (.Constant (.str l) jj Z5) (eG (Dj P w C) P w K mg base N Z1 scope f cd A outer s0 H0 E).env)]:=by rfl):
  PS (eG (Dj P w C) P w K mg base N Z1 scope f cd A outer s0 H0 E) (.Raise (ap<|.Call (.Name x np) [.Constant (.str l) jj Z5] [] Z4) bb pos) (MV E C):=by
 intro G s Z H D I h;obtain⟨nm,q,Nn,bs,bm,bmB,hdct,sn,sub,ab,col,dd,k0,k1,k2,k3,k5,U,L,Bs,mN,hX,Y,FB,Q,j⟩:=X.at_
 refine wpAny_Raise_call_subU (C:=C) (nm:=nm) (q:=q) (N:=Nn) (bs:=bs) (bm:=bm) (hdct:=hdct) (sn:=sn) (sub:=sub) (ab:=ab) (col:=col) (dd:=dd) (k0:=k0) (k1:=k1) (k2:=k2) (k3:=k3) (k5:=k5) FB Q FB (mN:=mN) j (I.ok.hd rfl) (by rw[hs];rfl) Y
  (iq I hg hm ⟨rfl,?_⟩ hd)
 have hA:=(Bl Fz GH hs) Z4 G s Z H (λxs H1=>xs.length=1/\E (.ref C) bb H1) I ⟨rfl,h⟩;rw[hs]at hA ⊢;refine UW (kB hA (λvs a p=>?_) λ_ _ y=>y);obtain⟨vv,H1,I1,r,F,hE⟩:=p;obtain⟨hC,hN,T⟩:=hX a.heap I1.kIn;refine⟨rfl,?_,hC,hN,T,λh' e hx=>?_⟩
 .rw[<- r.length,F]
  decide
 have J:(envOfC Z1 scope s0.heap.objs.size f cd).frame=ap s0.heap.objs.size:=rfl;have m:h8 _=s0.heap.objs.size::h8 outer:=vT J;have R:(W7 a.heap<|h8 (envOfC Z1 scope s0.heap.objs.size f cd::outer)).StaysIn a.heap:=λb o e=>W.of_hideAll _ e;refine wpAny_leaves_madeW I1.ok.frames J R (gb I1.stack λb c=>c) hx λM t i _ _ O=>?_;have S:=(Heap.UpToSlots.of_keeps hx.keeps).trans O;have g:∀{b:cb}{o:Obj},a.heap.get? b=ap o->b∉h8 (envOfC Z1 scope s0.heap.objs.size f cd::outer)->(W7 a.heap _).get? b=ap o:=λe n=>W.hideAll_get _ e n;have sT:∀b u,H1 b=ap u->∃o,(W7 a.heap _).get? b=ap o:=λb u e=>by
  obtain⟨v,hv⟩:=ObjOk.obj (I1.hok b u e);exact⟨v,g hv λz=>by rw[I1.stkFree b z]at e;cases e⟩
 have B:Un (h8 (envOfC Z1 scope s0.heap.objs.size f cd::outer)) [] H1 H1 a.heap M:=by
  refine wY Un.refl R i.1 S (λb o q c=>⟨o,g q c⟩) (λb c o q vs=>?_) λb c=>I1.stkFree b c;obtain⟨_,o',ho',hd'⟩:=I1.stack.mem (show b∈_ from c)
  simp_all
 rw[m]at B;refine⟨e,H1,_,.ref t,rfl,I1.os,I1.bare,J6 I1.base B (SO _),sH I1.hok R i.1 sT,i,sT,λb o q c=>?_,hE⟩;obtain⟨o1,q1⟩:=I1.base.there b o q (λz=>absurd (show b∈([]:aaa) from z) (by simp))
 refine⟨o1,g q1 λz=>?_⟩;rw[m]at z;rcases SQ.mp z with e'|z
 .exact TN _ (e'▸SI q)
 .exact c z
end
abbrev Cx.marked(X:Cx)(e:ay):Cx:={ X with A:=X.A.mark (ap e),calm:=cp,xe:=λ_ _=>False }
section
variable{X:Cx}{Z0:aae}{Z:St}{e:ay}
theorem Cx.Ok.mark(ok:X.Ok)(e:ay):(X.marked e).Ok:=
 ⟨ok.mod,ok.kind,ok.glob,ok.blt,ok.above,ok.inj,ok.has,ok.cab,by lia,ok.frames,ok.stk,ok.exf,ok.bs,ok.bsz,ok.noex,ok.exfs,ok.funs,ok.frf⟩
theorem Inv.mark(I:Inv X Z0 Z H s)(e:ay):Inv (X.marked e) Z0 Z H s:=⟨I.ok.mark e,I.os,I.bare,I.base,I.loc,I.cell,I.free,I.freeC,I.pin,I.hok,I.len⟩
theorem Inv.unmark(ok:X.Ok)(I:Inv (X.marked e) Z0 Z H s):Inv X Z0 Z H s:=⟨ok,I.os,I.bare,I.base,I.loc,I.cell,I.free,I.freeC,I.pin,I.hok,I.len⟩
theorem SP.unmark{D:Ends}{f:Flow}{b:ca}(ok:X.Ok)(h:SP (X.marked e) Z0 D f b):SP X Z0 D f b:=by
 cases f with
 |ret u=>obtain⟨v,a,H',I,r,q⟩:=h;exact⟨v,_,H',I.unmark ok,r,q⟩
 |_=>obtain⟨a,H',I,q⟩:=h;exact⟨_,H',I.unmark ok,q⟩
def Ew(C:cb)(sp:Sp)(dvs:List V)(ta:TA)(ts:TS):TS:=λD Z H=>ta Z H λa H1=>sp (a++dvs) H1 (λ_ H2=>D.nx Z H2) (λ_ _ H2=>ts D Z H2)
theorem wK{C f:cb}{k:Nat}{fd:hG}{ps:Z_}{sp:Sp}{dvs:List V}{ds:Z'}{x S:Str}{p T ep np J pos:Pos}{e:fv}{es:aab}{ta:TA}{j:q0}{g:aac}{ts:TS}(L:X.stack=X.env::X.outer)(hfL:X.env.frame=ap X.env.locals)(F:FnOk X.prog X.w X.K X.mg X.base (Dj X.prog X.w C) k f fd ps sp)(hr:Room k X.A)(hg:Gl X x)(hm:X.mg x=ap (.ref f))(hk:Ur X.K (.ref f)=true)(hb:Binds X.K fd ps ds)(hd:Vals dvs ds)(ha:PA X.nox (e::es) ta)(EX:ExcAt X.K C)(hgC:Gl X S)(hmC:X.mg S=ap (.ref C))(hsu:∀M:cb,zr (X.marked<|.ref M) (j::g) ts)(hdb:(x==("__debug__":Str))=false:=by decide)(hdC:(S==("__debug__":Str))=false:=by decide)(he:ee (e::es) X.env=(cp,fx e X.env)::ee es X.env:=by rfl)(hpl:(g4 T<|starEach es X.env).any (·.1)=false:=by rfl)(hsw:re (.Call (.Name x p) (e::es) [] T) bb ep.line X.env=pure false:=by rfl):
  PS X (.Try [.Expr (.Call (.Name x p) (e::es) [] T) ep] [.ExceptHandler (ap<|.Name S np) bb (j::g) J] [] [] pos) (Ew C sp dvs ta ts):=by
 intro Z0 s Z H D I h;refine wpAny_Try_except (Zg<|wpAny_Expr_any ?_ I.quiet hsw);refine ot (iq I hg hm ?_ hdb);refine WV (h₀:=X.base) I.ok.mod.kin hk (kB (ha T Z0 s Z H _ (I.wish _) h) (λN s1 zz=>?_) λ_ _ z=>UI z) he hpl;obtain⟨O,H1,I1',r,q⟩:=zz;have I1:=I1'.unwish;refine⟨I1.kIn,?_⟩;have r2:=r.append hd;have hl:(N++ds).length=ps.length:=by rw[<- r2.length];exact F.len _ _ _ _ q
 refine Zr (P' (F.run X.A X.stack s1 H1 ⟨N,[]⟩ (N++ds) (O++dvs) _ _ hr I1.env0 (hb s1 N I1.kIn hl) r2 q) λrr s' hq=>?_);cases rr with
 |ok fl=>
  cases fl with
  |ret u=>
   obtain⟨x',H2,I2,_,q2⟩:=I1.after hq;exact G' (G' ⟨Z,H2,I2,q2⟩)
  |_=>exact UI hq
 |error er=>
  obtain⟨M,H',B,a0,rfl,W,m,un,U,i,sT,sA,hE⟩:=hq;obtain⟨nm,qn,Nn,bs,bm,bmB,hdct,sn,sub,ab,col,dd,k0,k1,k2,k3,k5,newId,R,Bs,mN,hX,hni,FB,hBs,v⟩:=EX.at_;have nf:∀b∈h8 X.stack,∀o,s1.heap.get? b=ap o->∀O,o.data≠.fields O:=λb l o q' O=>by
   obtain⟨_,o',ho',hd'⟩:=I1.stack.mem (show b∈_ from l)
   simp_all
  have a:∀Q:fy,B.StaysIn Q->s'.heap.UpToSlots Q->Inv X Z0 Z H' { s' with heap:=Q }:=λQ k up=>
   I1.call' W (wY un i.1 k up sA nf λb l=>I1.stkFree b l) (sH U i.1 k sT) m λb z=>absurd (z) (by simp)
  rw[L]at i;refine wpAny_looks_onW (by rw[<- L];exact I1.ok.frames) hfL i λh4 n up4=>?_
  refine wpAny_landsW n λh5 c y=>?_;have I5:=(a h5 c.1<|up4.trans y).mark (.ref M);obtain⟨hC,_,_⟩:=hX h5 I5.kIn;obtain⟨ob,Y,E⟩:=c.there;refine wpAny_handleBy_cons (codeAny_handlers_test<|iq I5 hgC hmC ?_ hdC) (by intro q';cases q')
  refine wpAny_excMatches_sub_self hC Y E v (codeAny_handlers_suite ?_);refine lands_againW c λh6 G up6=>?_;have I6:=(a h6 G.1<|(up4.trans y).trans up6).mark (.ref M);exact kB (hsu M Z0 _ Z H' D I6 hE) (λfl s7 q7=>q7.unmark I.ok) λ_ _ z=>UI z
end
end _2
namespace _3
open PySem _2
variable{p:cb}{B:Bd}{X:Cx}{U:Dl}{c e:fv}{H H' H1:Hp}{M:Mem}{pos:Pos}{K:SM}{Z:St}{r:fL}
inductive D where
 |non|bl (b:Bool)|int (i:Int)|str (x:Str)|ty (n:String)|ref (a:cb)|tup (xs:List D)|lst (xs:List D)|mt (xs:List D)|ml (xs:List D)|fd (ks:List (List aF)) (xs:List D)
def TpD(_:SM)(H:Hp)(p:cb)(vs:List V):Prop:=H p=ap (.tup vs)
def TpM(K:SM)(p:cb)(vs:List V):Prop:=∃(o:Obj)(Z6:aag)(n:Nat),K.lookup p=ap o/\o.cls=.type "tuple"/\o.data=.seq Z6 n/\Z6.size<=sizeLine/\Vals vs Z6.toList
def FzD(K:SM)(H:Hp)(p:cb)(vs:List V):Prop:=
 ∃o,H p=ap (.frz o<|.lst vs)
def FzK(K:SM)(H:Hp)(p:cb)(vs:List V):Prop:=(∃o,H p=ap (.frz o<|.lst vs))\/∃(o:Obj)(Z6:aag)(n:Nat),K.lookup p=ap o/\o.cls=.type "list"/\o.dict=bb/\o.data=.seq Z6 n/\Z6.size<=sizeLine/\Vals vs Z6.toList
theorem FzK.sq{vs:List V}(h:FzK K H p vs):SqL K H p vs:=h.imp (by rintro⟨o,e⟩;exact .inr ⟨o,e⟩) λx=>x
theorem TpD.sq{vs:List V}(h:TpD K H p vs):jH K H p vs:=.inl (.inl h)
theorem TpM.sq{vs:List V}(h:TpM K p vs):jH K H p vs:=.inr h
theorem FzD.sq{vs:List V}(h:FzD K H p vs):SqL K H p vs:=by
 obtain⟨o,h⟩:=h;exact .inl (.inr ⟨o,h⟩)
def FdD(H:Hp)(p:cb)(ks:List (List aF))(vs:List V):Prop:=ks.length=vs.length/\∃o,H p=ap (.frz o<|.dT<|ks.zip vs)
mutual
def Rp(K:SM)(H:Hp):D->V->Prop
 |.non,v=>v=.non
 |.bl b,v=>v=.bl b
 |.int i,v=>v=.int i
 |.str x,v=>v=.str x
 |.ty n,v=>v=.ty n
 |.ref a,v=>v=.ref a
 |.tup xs,v=>∃p vs,v=.ref p/\TpD K H p vs/\Rps K H xs vs
 |.lst xs,v=>∃p vs,v=.ref p/\FzD K H p vs/\Rps K H xs vs
 |.mt xs,v=>∃p vs,v=.ref p/\TpM K p vs/\Rps K H xs vs
 |.ml xs,v=>∃p vs,v=.ref p/\FzK K H p vs/\Rps K H xs vs
 |.fd ks xs,v=>∃p vs,v=.ref p/\FdD H p ks vs/\Rps K H xs vs
def Rps(K:SM)(H:Hp):List D->List V->Prop
 |[],vs=>vs=[]
 |x::xs,vs=>∃v r,vs=v::r/\Rp K H x v/\Rps K H xs r
end
structure Imm(H H':Hp):Prop where
 tup:∀p vs,H p=ap (.tup vs)->H' p=ap (.tup vs)
 frz:∀p o u,H p=ap (.frz o u)->H' p=ap (.frz o u)
theorem Imm.refl:Imm H H:=⟨by lia,by lia⟩
theorem TpD.mono{vs:List V}(i:Imm H H')(h:TpD K H p vs):TpD K H' p vs:=i.tup _ _ h
theorem FzK.mono{vs:List V}(i:Imm H H')(h:FzK K H p vs):FzK K H' p vs:=h.imp (λ⟨o,e⟩=>⟨o,i.frz _ _ _ e⟩) λx=>x
theorem FzD.mono{vs:List V}(i:Imm H H')(h:FzD K H p vs):FzD K H' p vs:=let ⟨o,e⟩:=h;⟨o,i.frz _ _ _ e⟩
mutual
theorem Rp.mono{K:SM}{H H':Hp}(i:Imm H H'):∀{d:D}{v:V},Rp K H d v->Rp K H' d v
 |.non,_,h=>h
 |.bl _,_,h=>h
 |.int _,_,h=>h
 |.str _,_,h=>h
 |.ty _,_,h=>h
 |.ref _,_,h=>h
 |.tup _,_,h=>by
  obtain⟨p,a,e,t,r⟩:=h;exact⟨p,a,e,t.mono i,Rps.mono i r⟩
 |.lst _,_,h=>by
  obtain⟨p,a,e,t,r⟩:=h;exact⟨p,a,e,t.mono i,Rps.mono i r⟩
 |.mt _,_,h=>by
  obtain⟨p,a,e,t,r⟩:=h;exact⟨p,a,e,t,Rps.mono i r⟩
 |.ml _,_,h=>by
  obtain⟨p,a,e,t,r⟩:=h;exact⟨p,a,e,t.mono i,Rps.mono i r⟩
 |.fd _ _,_,h=>by
  obtain⟨p,a,e,⟨t,o,b⟩,r⟩:=h;exact⟨p,a,e,⟨t,o,i.frz _ _ _ b⟩,Rps.mono i r⟩
theorem Rps.mono{K:SM}{H H':Hp}(i:Imm H H'):∀{ds:List D}{vs:List V},Rps K H ds vs->Rps K H' ds vs
 |[],_,h=>h
 |_::_,_,h=>by
  obtain⟨v,r,e,a,b⟩:=h;exact⟨v,r,e,Rp.mono i a,Rps.mono i b⟩
end
section
theorem Rps.nil:Rps K H [] []:=rfl
theorem Rps.cons{d:D}{v:V}{ds:List D}{vs:List V}(a:Rp K H d v)(b:Rps K H ds vs):Rps K H (d::ds) (v::vs):=⟨v,vs,rfl,a,b⟩
theorem Rps.length:∀{ds:List D}{vs:List V},Rps K H ds vs->ds.length=vs.length
 |[],_,h=>by cases h;rfl
 |_::_,_,h=>by obtain⟨v,r,rfl,_,b⟩:=h;simp[b.length]
theorem Rps.get:∀{ds:List D}{vs:List V},Rps K H ds vs->∀{i:Nat}{d:D},ds[i]?=ap d->∃v,vs[i]?=ap v/\Rp K H d v
 |[],_,_,i,d,e=>by simp at e
 |x::xs,_,h,i,d,e=>by
  obtain⟨v,r,rfl,a,b⟩:=h;cases i with
  |zero=>simp_all
  |succ i=>simpa using b.get (by simpa using e)
theorem Rps.append:∀{ds es:List D}{vs f:List V},Rps K H ds vs->Rps K H es f->Rps K H (ds++es) (vs++f)
 |[],_,_,_,h,g=>by cases h;exact g
 |_::_,_,_,_,h,g=>by
  obtain⟨v,r,rfl,a,b⟩:=h;exact⟨v,_,rfl,a,b.append g⟩
theorem Rps.take:∀{ds:List D}{vs:List V}(n:Nat),Rps K H ds vs->Rps K H (ds.take n) (vs.take n)
 |[],_,n,h=>by cases h;simp[Rps]
 |_::_,_,0,h=>rfl
 |_::_,_,n+1,h=>by
  obtain⟨v,r,rfl,a,b⟩:=h;exact⟨v,_,rfl,a,b.take n⟩
theorem Rps.drop:∀{ds:List D}{vs:List V}(n:Nat),Rps K H ds vs->Rps K H (ds.drop n) (vs.drop n)
 |[],_,n,h=>by cases h;simp[Rps]
 |_::_,_,0,h=>h
 |_::_,_,n+1,h=>by
  obtain⟨v,r,rfl,a,b⟩:=h;exact b.drop n
theorem Rps.set{d:D}{v:V}(a:Rp K H d v):∀{ds:List D}{vs:List V}(i:Nat),Rps K H ds vs->Rps K H (ds.set i d) (vs.set i v)
 |[],_,_,h=>by cases h;rfl
 |_::_,_,0,h=>by obtain⟨w,r,rfl,_,b⟩:=h;exact⟨v,r,rfl,a,b⟩
 |_::_,_,i+1,h=>by obtain⟨w,r,rfl,c,b⟩:=h;exact⟨w,_,rfl,c,b.set a i⟩
theorem Rps.dropLast{ds:List D}{vs:List V}(h:Rps K H ds vs):Rps K H ds.dropLast vs.dropLast:=by
 rw[XS,XS,h.length];exact h.take _
theorem Rps.eraseIdx:∀{ds:List D}{vs:List V}(i:Nat),Rps K H ds vs->Rps K H (ds.eraseIdx i) (vs.eraseIdx i)
 |[],_,_,h=>by cases h;rfl
 |_::_,_,0,h=>by obtain⟨w,r,rfl,_,b⟩:=h;exact b
 |_::_,_,i+1,h=>by obtain⟨w,r,rfl,c,b⟩:=h;exact⟨w,_,rfl,c,b.eraseIdx i⟩
theorem vV:∀{a:Z9}{vs:List V},vs=a.map V.int->Rps K H (a.map D.int) vs
 |[],_,e=>e
 |i::a,_,e=>by subst e;exact⟨_,_,rfl,rfl,vV rfl⟩
end
inductive MO where
 |lst (xs:List D)
 |dK (Z2:List (aF×D))
 |dT (Z2:List (List aF×D))
 |ins (C:cb) (fs:List (Str×D))
abbrev Mem:=cb->Option MO
noncomputable def Mem.upd(M:Mem)(a:cb)(o:MO):Mem:=λb=>if b=a then ap o else M b
noncomputable def Mem.del(M:Mem)(a:cb):Mem:=λb=>if b=a then bb else M b
def Rkv{κ:Type}(K:SM)(H:Hp):List (κ×D)->List (κ×V)->Prop:=U_ λp q=>p.1=q.1/\Rp K H p.2 q.2
def RepO(K:SM)(H:Hp)(a:cb):MO->Prop
 |.lst xs=>∃vs,H a=ap (.lst vs)/\Rps K H xs vs
 |.dK Z2=>∃ws,H a=ap (.dK ws)/\Rkv K H Z2 ws
 |.dT Z2=>∃ws,H a=ap (.dT ws)/\Rkv K H Z2 ws
 |.ins C fs=>∃dx ws,H a=ap (.ins C dx ws)/\Rkv K H fs ws
def RepH(K:SM)(H:Hp)(M:Mem):Prop:=∀a o,M a=ap o->RepO K H a o
section
variable{a b:cb}{o:MO}{u:HO}
@[simp] theorem Mem.upd_same:(M.upd a o) a=ap o:=by simp[Mem.upd]
theorem ae(h:b≠a):(M.upd a o) b=M b:=by simp[Mem.upd,h]
@[simp] theorem Mem.upd_upd {o':MO}:(M.upd a o).upd a o'=M.upd a o':=by funext c;simp[Mem.upd];split<;>rfl
@[simp] theorem Mem.upd_del:(M.upd a o).del a=M.del a:=by funext c;simp[Mem.upd,Mem.del];split<;>rfl
theorem au(h:M a=bb):M.del a=M:=by
 funext c;simp[Mem.del];simp_all
theorem aA{f:MO}(h:a≠b):(M.upd a o).upd b f=(M.upd b f).upd a o:=by
 funext c;simp[Mem.upd];split
 .rename_i e;rw[e,if_neg (Tu h)]
 rfl
theorem Mem.ne{o:MO}(h:M a=ap o)(h':M b=bb):a≠b:=by intro e;simp_all
theorem Rkv.mono{g:Type}{Z2:List (g×D)}{f:List (g×V)}(i:Imm H H')(h:Rkv K H Z2 f):Rkv K H' Z2 f:=gl h λ_ _ z=>⟨z.1,z.2.mono i⟩
theorem RepO.obj(r:RepO K H a o):∃u,H a=ap u:=by
 cases o with
 |ins C fs=>obtain⟨g,f,e,_⟩:=r;exact⟨_,e⟩
 |_=>obtain⟨f,e,_⟩:=r;exact⟨_,e⟩
theorem RepO.keep(r:RepO K H a o)(i:Imm H H')(e:H' a=H a):RepO K H' a o:=by
 cases o with
 |ins C fs=>obtain⟨g,f,q,z⟩:=r;exact⟨g,f,e.trans q,z.mono i⟩
 |_=>obtain⟨f,q,z⟩:=r;exact⟨f,e.trans q,z.mono i⟩
theorem RepH.fresh(r:RepH K H M)(h:H a=bb):M a=none:=by
 cases e:M a with
 |none=>rfl
 |some o=>obtain⟨u,q⟩:=(r a o e).obj;simp_all
def yv:Option HO->Prop
 |some (.tup _)=>False
 |some (.frz _ _)=>False
 |_=>True
theorem Imm.upd(h:yv (H a)):Imm H (upd H a u):=by
 refine⟨λp f e=>?_,λp o v e=>?_⟩
 .rw[aD];exact e
  rintro rfl;rw[e]at h;exact h
 rw[aD];exact e
 rintro rfl;rw[e]at h;exact h
theorem Imm.new(h:H a=bb):Imm H (_2.upd H a u):=Imm.upd (by rw[h];trivial)
theorem RepO.loose(r:RepO K H a o):yv (H a):=by
 cases o with
 |ins C fs=>obtain⟨g,f,e,_⟩:=r;rw[e];trivial
 |_=>obtain⟨f,e,_⟩:=r;rw[e];trivial
theorem RepH.new(r:RepH K H M)(h:H a=bb):RepH K (_2.upd H a u) M:=λb o e=>by
 obtain⟨v,q⟩:=(r b o e).obj;exact(r b o e).keep (Imm.new h) (aD<|bh q h)
theorem RepH.put(r:RepH K H M)(h:yv (H a))(n:RepO K (_2.upd H a u) a o):RepH K (_2.upd H a u) (M.upd a o):=λb p e=>by
 by_cases f:b=a
 .subst f;rw[Mem.upd_same]at e;cases e;exact n
 .rw[ae f]at e
  exact(r b p e).keep (Imm.upd h) (aD f)
theorem RepH.keep(r:RepH K H M)(i:Imm H H')(e:∀b o,M b=ap o->H' b=H b):RepH K H' M:=λb o q=>(r b o q).keep i (e b o q)
structure Frm(M:Mem)(H:Hp)(M':Mem)(H':Hp):Prop where
 keep:∀b u,H b=ap u->M b=bb->H' b=ap u/\M' b=bb
variable{M':Mem}
theorem Frm.refl:Frm M H M H:=⟨by lia⟩
theorem Frm.trans{M1 M2:Mem}{H2:Hp}(x:Frm M H M1 H1)(y:Frm M1 H1 M2 H2):Frm M H M2 H2:=⟨λb u e n=>let ⟨e1,n1⟩:=x.keep b u e n;y.keep b u e1 n1⟩
theorem Frm.imm(f:Frm M H M' H')(r:RepH K H M):Imm H H':=by
 have g:∀b u,H b=ap u->¬yv (ap u)->H' b=ap u:=λb u e n=>(f.keep b u e (by
  cases q:M b with
  |none=>rfl
  |some o=>exact absurd (by rw[<- e];exact(r b o q).loose) n)).1
 exact⟨λp h e=>g p _ e (λz=>z),λp o u e=>g p _ e (λz=>z)⟩
theorem Frm.new(h:H a=bb):Frm M H M (_2.upd H a u):=⟨λb v e n=>⟨by rw[aD (by lia)];exact e,n⟩⟩
theorem Frm.put(h:H a=bb\/∃o,M a=ap o):Frm M H (M.upd a o) (_2.upd H a u):=⟨λb v e n=>by
 have f:b≠a:=by
  rintro rfl
  simp_all
 exact⟨by rw[_2.aD f];exact e,by rw[ae f];exact n⟩⟩
theorem Frm.del(h:∃o,M a=ap o):Frm M H (M.del a) (_2.upd H a u):=⟨λb v e n=>by
 have f:b≠a:=by
  rintro rfl
  simp_all
 refine⟨by rw[_2.aD f];exact e,?_⟩
 unfold Mem.del
 simp_all⟩
theorem Rp.mf{d:D}{v:V}(x:Rp K H d v)(r:RepH K H M)(f:Frm M H M' H'):Rp K H' d v:=x.mono (f.imm r)
theorem Rps.mf{d:List D}{v:List V}(x:Rps K H d v)(r:RepH K H M)(f:Frm M H M' H'):Rps K H' d v:=x.mono (f.imm r)
end
abbrev Dl:=List (Option D)
abbrev DK:=D->Mem->Prop
abbrev b6:=Dl->Mem->DK->Prop
abbrev eW:=Dl->Mem->(Bool->Mem->Prop)->Prop
abbrev dY:=Dl->Mem->(List D->Mem->Prop)->Prop
structure RepS(K:SM)(H:Hp)(U:Dl)(Z:St):Prop where
 len:U.length=Z.length
 get:∀(i:Nat)(d:D),U[i]?=ap (ap d)->∃v,Z[i]?=ap (ap v)/\Rp K H d v
theorem RepS.mono(r:RepS K H U Z)(i:Imm H H'):RepS K H' U Z:=
 ⟨r.len,λj d e=>by obtain⟨v,b,a⟩:=r.get j d e;exact⟨v,b,a.mono i⟩⟩
theorem RepS.set{i:Nat}{d:D}{v:V}(r:RepS K H U Z)(h:Rp K H d v):RepS K H (U.set i<|some d) (Z.set i<|some v):=by
 refine⟨by simp[r.len],λj e q=>?_⟩
 rw[WG]at q ⊢
 by_cases a:i=j
 .rw[if_pos a]at q ⊢
  by_cases b:i<U.length
  .rw[if_pos (by rw[<- r.len];assumption)]
   simp_all
  simp_all
 rw[if_neg a]at q ⊢;exact r.get j e q
structure Bd where
 p:Mem->Hp->Prop
 go:∀{M M':Mem}{H H':Hp},p M H->Frm M H M' H'->p M' H'
noncomputable def Bd.of(M:Mem)(H:Hp):Bd:=⟨λM' H'=>Frm M H M' H',λa b=>a.trans b⟩
structure SR(X:Cx)(B:Bd)(U:Dl)(M:Mem)(Z:St)(H:Hp):Prop where
 i0:B.p M H
 rh:RepH X.K H M
 rs:RepS X.K H U Z
theorem SR.go{M':Mem}(s:SR X B U M Z H)(rh:RepH X.K H' M')(i:Frm M H M' H'):SR X B U M' Z H':=⟨B.go s.i0 i,rh,s.rs.mono<|i.imm s.rh⟩
def Up(K:SM)(M:Mem)(H:Hp)(QQ:DK)(Q:VK):Prop:=∀d M',QQ d M'->∀v H',RepH K H' M'->Frm M H M' H'->Rp K H' d v->Q v H'
def UpT(K:SM)(M:Mem)(H:Hp)(QQ:Bool->Mem->Prop)(Q:Bool->Hp->Prop):Prop:=∀b M',QQ b M'->∀H',RepH K H' M'->Frm M H M' H'->Q b H'
def UpA(K:SM)(M:Mem)(H:Hp)(QQ:List D->Mem->Prop)(Q:List V->Hp->Prop):Prop:=∀ds M',QQ ds M'->∀vs H',RepH K H' M'->Frm M H M' H'->Rps K H' ds vs->Q vs H'
theorem Up.go{M1:Mem}{QQ:DK}{Q:VK}(u:Up K M H QQ Q)(i:Frm M H M1 H1):Up K M1 H1 QQ Q:=λd M' q v H' a b=>u d M' q v H' a (i.trans b)
theorem UpT.go{M1:Mem}{QQ:Bool->Mem->Prop}{Q:Bool->Hp->Prop}(u:UpT K M H QQ Q)(i:Frm M H M1 H1):UpT K M1 H1 QQ Q:=λd M' q H' a b=>u d M' q H' a (i.trans b)
inductive liftE(X:Cx)(B:Bd)(T:b6)(Z:St)(H:Hp)(Q:VK):Prop
 |mk (U:Dl) (M:Mem) (QQ:DK) (s:SR X B U M Z H) (h:T U M QQ) (u:Up X.K M H QQ Q):liftE X B T Z H Q
inductive liftT(X:Cx)(B:Bd)(T:eW)(Z:St)(H:Hp)(Q:Bool->Hp->Prop):Prop
 |mk (U:Dl) (M:Mem) (QQ:Bool->Mem->Prop) (s:SR X B U M Z H) (h:T U M QQ) (u:UpT X.K M H QQ Q):liftT X B T Z H Q
inductive liftA(X:Cx)(B:Bd)(T:dY)(Z:St)(H:Hp)(Q:List V->Hp->Prop):Prop
 |mk (U:Dl) (M:Mem) (QQ:List D->Mem->Prop) (s:SR X B U M Z H) (h:T U M QQ) (u:UpA X.K M H QQ Q):liftA X B T Z H Q
def DE(X:Cx)(B:Bd)(e:fv)(T:b6):Prop:=PE X e (liftE X B T)
def DT(X:Cx)(B:Bd)(e:fv)(T:eW):Prop:=PT X e (liftT X B T)
def DA(X:Cx)(B:Bd)(es:aab)(T:dY):Prop:=PA X es (liftA X B T)
theorem aS{t t':TE}(h:PE X e t)(w:∀Z H Q,t' Z H Q->t Z H Q):PE X e t':=λa s Z H Q I q=>h _ s Z H Q I (w Z H Q q)
theorem rP{t t':TT}(h:PT X e t)(w:∀Z H Q,t' Z H Q->t Z H Q):PT X e t':=λa s Z H Q I q=>h _ s Z H Q I (w Z H Q q)
theorem An{e:aab}{t t':TA}(h:PA X e t)(w:∀Z H Q,t' Z H Q->t Z H Q):PA X e t':=λpos a s Z H Q I q=>h _ _ s Z H Q I (w Z H Q q)
theorem bR{e:q0}{t t':TS}(h:PS X e t)(w:∀D Z H,t' D Z H->t D Z H):PS X e t':=λa s Z H D I q=>h _ s Z H D I (w D Z H q)
theorem nT{e:aac}{t t':TS}(h:zr X e t)(w:∀D Z H,t' D Z H->t D Z H):zr X e t':=λa s Z H D I q=>h _ s Z H D I (w D Z H q)
def ac(i:Nat):b6:=λU M Q=>match U[i]? with
 |some (ap d)=>Q d M
 |_=>False
def dC(d:D):b6:=λ_ M Q=>Q d M
section
variable{a b:fv}{ta tb tc:b6}
theorem O0{i:Nat}{x:Str}(l:X.N[i]?=ap x)(j:PR X.env.scope x)(m:(x==("__debug__":Str))=false:=by decide)(hcd:(x==("__classdict__":Str))=false:=by decide):DE X B (.Name x pos) (ac i):=by
 refine aS (MJ l j m hcd) ?_
 rintro Z H Q ⟨U,M,QQ,s,h,u⟩
 unfold ac at h
 split at h
 .rename_i d e
  obtain⟨v,f,g⟩:=s.rs.get i d e;exact⟨v,f,u d M h v H s.rh Frm.refl g⟩
 trivial
theorem FN{v:V}{d:D}(h:PE X e (tC v))(r:∀H,Rp X.K H d v):DE X B e (dC d):=by
 refine aS h ?_
 rintro Z H Q ⟨U,M,QQ,s,h,u⟩
 exact u d M h v H s.rh Frm.refl (r H)
theorem Pb{i j pos}:DE X B (.Constant (.int i) j pos) (dC<|.int i):=FN ML λ_=>rfl
theorem Qo{i j pos}:DE X B (.Constant (.bool i) j pos) (dC<|.bl i):=FN Qe λ_=>rfl
theorem OH{j pos}:DE X B (.Constant .none j pos) (dC .non):=FN O_ λ_=>rfl
theorem Nl{i j pos}:DE X B (.Constant (.str i) j pos) (dC<|.str i):=FN Fz λ_=>rfl
abbrev fL:=D->D->Mem->DK->Prop
inductive liftR2(X:Cx)(r:fL)(x y:V)(H:Hp)(Q:VK):Prop
 |mk (d1 d2:D) (M:Mem) (QQ:DK) (rh:RepH X.K H M) (r1:Rp X.K H d1 x) (r2:Rp X.K H d2 y) (h:r d1 d2 M QQ) (u:Up X.K M H QQ Q):liftR2 X r x y H Q
def ai(r:fL)(ta tb:b6):b6:=λU M Q=>ta U M λx M1=>tb U M1 λy M2=>r x y M2 Q
theorem lm{Q:VK}(h:liftE X B (ai r ta tb) Z H Q):QM (liftR2 X r) (liftE X B ta) (liftE X B tb) Z H Q:=by
 obtain⟨U,M,QQ,s,h,u⟩:=h;exact⟨U,M,_,s,h,λx M1 j v1 H1 f i1 i=>⟨U,M1,_,s.go f i1,j,λy M2 l v2 H2 g i2 m=>⟨x,y,M2,QQ,g,i.mf f i2,m,l,u.go<|i1.trans i2⟩⟩⟩
theorem fW{op:WP}(g:cD X (j0 op) (liftR2 X r))(f:DE X B a ta)(i:DE X B b tb):DE X B (.BinOp a op b pos) (ai r ta tb):=aS (Sq g f i) λ_ _ _ h=>lm h
theorem FT{op:CmpOp}(g:cD X (kc op) (liftR2 X r))(f:DE X B a ta)(i:DE X B b tb)(j:X_ op b=cp):DE X B (.Compare a [op] [b] pos) (ai r ta tb):=aS (Jj g f i j) λ_ _ _ h=>lm h
theorem Mc(g:IxR X (liftR2 X r))(f:DE X B a ta)(i:DE X B b tb)(j:AJ b):DE X B (.Subscript a b pos) (ai r ta tb):=aS (RW g f i j) λ_ _ _ h=>lm h
def al(t:b6):eW:=λU M Q=>t U M λd M'=>match d with
 |.bl k=>Q k M'
 |_=>False
theorem dD{op:CmpOp}(m:cD X (kc op) (liftR2 X r))(l:DE X B a ta)(n:DE X B b tb)(o:X_ op b=cp):DT X B (.Compare a [op] [b] pos) (al<|ai r ta tb):=by
 refine rP (Kh m l n o) ?_
 rintro Z H Q ⟨U,M,QQ,s,h,u⟩
 have j:liftE X B (ai r ta tb) Z H (λx H'=>∃k,x=.bl k/\Q k H'):=by
  refine⟨U,M,_,s,h,λd M' q v H' g i f=>?_⟩;cases d with
  |bl k=>exact⟨k,f,u k M' q H' g i⟩
  |_=>exact q.elim
 exact lm j
def Fs(M:Mem):D->Option Bool
 |.non=>ap cp
 |.bl b=>ap b
 |.int i=>ap (i != 0)
 |.str y=>if y.length<=sizeLine then ap ((y.length:Int) != 0) else bb
 |.tup xs=>ap (!xs.isEmpty)
 |.lst xs=>ap (!xs.isEmpty)
 |.ref a=>match M a with
  |some (.lst xs)=>ap (!xs.isEmpty)
  |some (.dK xs)=>ap (!xs.isEmpty)
  |_=>bb
 |_=>bb
def cB(t:b6):eW:=λU M Q=>t U M λd M'=>match Fs M' d with
 |some k=>Q k M'
 |none=>False
theorem gj{ds:List D}{vs:List V}(r:Rps K H ds vs):vs.isEmpty=ds.isEmpty:=by
 have:=r.length;cases ds<;>cases vs<;>simp_all
theorem MS{d:D}{v:V}{k:Bool}(l:RepH K H M)(r:Rp K H d v)(e:Fs M d=ap k):Ps K v H k:=by
 cases d with
 |non=>cases r;cases e;rfl
 |bl b=>cases r;cases e;rfl
 |int i=>cases r;cases e;rfl
 |str y=>
  cases r;simp only[Fs]at e
  split at e
  .cases e;trivial
  cases e
 |tup j=>
  obtain⟨p,f,rfl,t,r⟩:=r;cases e;exact .inr (.inl ⟨f,t.sq,by rw[gj r]⟩)
 |lst j=>
  obtain⟨p,f,rfl,t,r⟩:=r;cases e;exact .inl ⟨f,t.sq,by rw[gj r]⟩
 |ref a=>
  cases r;simp[Fs]at e
  split at e
  .rename_i j q
   obtain⟨f,g,h⟩:=l _ _ q;cases e;exact .inl ⟨f,SqL.of g,by rw[gj h]⟩
  .rename_i j q
   obtain⟨f,g,h⟩:=l _ _ q;cases e;refine .inr (.inr ⟨f,g,?_⟩);cases h<;>rfl
  cases e
 |_=>cases e
theorem Nt(h:DE X B e ta)(l:∀f,ZL e X.env f=(do let v <- f;TD e.pos;rc [v] (truthy v)):=by intro _;rfl):DT X B e (cB ta):=by
 refine rP (Eo h l) ?_
 rintro Z H Q ⟨U,M,QQ,s,h,u⟩
 refine⟨U,M,_,s,h,λd M' q v H' g i j=>?_⟩
 split at q
 .rename_i k e
  exact⟨k,MS g j e,u k M' q H' g i⟩
 trivial
def gc(t:eW):eW:=λU M Q=>t U M λc M1=>Q (!c) M1
theorem P9{f:eW}(g:DT X B a f):DT X B (.UnaryOp .Not a pos) (gc f):=by
 refine rP (Po g) ?_
 rintro Z H Q ⟨U,M,QQ,s,h,u⟩
 exact⟨U,M,_,s,h,λc=>u _⟩
end
section
variable{a b:fv}{ta tb tc:b6}{tA tB':eW}{rest:aab}
def DW(X:Cx)(B:Bd)(e:fv)(T:eW):Prop:=PW X e (liftT X B T)
theorem SA{T:eW}(h:DW X B e T):DT X B e T:=SB h
theorem y_{t t':TT}(h:PW X e t)(w:∀Z H Q,t' Z H Q->t Z H Q):PW X e t':=λg f s Z H Q I q=>h g _ s Z H Q I (w Z H Q q)
def oz(t u:eW):eW:=λU M Q=>t U M λc M1=>if c=true then u U M1 Q else Q cp M1
def P8(t u:eW):eW:=λU M Q=>t U M λc M1=>if c=true then Q true M1 else u U M1 Q
theorem Jt(f:DT X B a tA):DW X B (.BoolOp .And [a] pos) tA:=IW f
theorem MI(f:DT X B a tA):DW X B (.BoolOp .Or [a] pos) tA:=N9 f
theorem OJ(g:DT X B a tA)(j:DW X B (.BoolOp .And (b::rest) pos) tB'):DW X B (.BoolOp .And (a::b::rest) pos) (oz tA tB'):=by
 refine y_ (Pv g j) ?_
 rintro Z H Q ⟨U,M,QQ,s,h,u⟩
 refine⟨U,M,_,s,h,λc M' q H' f i=>?_⟩;cases c with
 |true=>exact⟨U,M',QQ,s.go f i,q,u.go i⟩
 |false=>exact u _ M' q H' f i
theorem QA(g:DT X B a tA)(j:DW X B (.BoolOp .Or (b::rest) pos) tB'):DW X B (.BoolOp .Or (a::b::rest) pos) (P8 tA tB'):=by
 refine y_ (Qz g j) ?_
 rintro Z H Q ⟨U,M,QQ,s,h,u⟩
 refine⟨U,M,_,s,h,λc M' q H' f i=>?_⟩;cases c with
 |false=>exact⟨U,M',QQ,s.go f i,q,u.go i⟩
 |true=>exact u _ M' q H' f i
def lV(ta tb:b6):b6:=λU M Q=>ta U M λx M1=>match x with
 |.bl true=>tb U M1 Q
 |.bl cp=>Q (.bl cp) M1
 |_=>False
def Lc(ta:b6):b6:=λU M Q=>ta U M λx M1=>match x with
 |.bl c=>Q (.bl<|!c) M1
 |_=>False
theorem MW{op}{t:b6}(h:DE X B a t):DE X B (.BoolOp op [a] pos) t:=Pq h
theorem OC(g:DE X B a ta)(j:DE X B (.BoolOp .And (b::rest) pos) tb):DE X B (.BoolOp .And (a::b::rest) pos) (lV ta tb):=by
 refine aS (NT g j) ?_
 rintro Z H Q ⟨U,M,QQ,s,h,u⟩
 refine⟨U,M,_,s,h,λd M' q v H' f i r=>?_⟩;cases d with
 |bl c=>
  cases c with
  |true=>exact⟨_,r,by exact⟨U,M',QQ,s.go f i,q,u.go i⟩⟩
  |false=>exact⟨_,r,by exact u _ M' q _ H' f i rfl⟩
 |_=>exact q.elim
theorem Og(g:DE X B a ta):DE X B (.UnaryOp .Not a pos) (Lc ta):=by
 refine aS (OT g) ?_
 rintro Z H Q ⟨U,M,QQ,s,h,u⟩
 refine⟨U,M,_,s,h,λd M' q v H' f i r=>?_⟩;cases d with
 |bl c=>exact⟨c,r,u _ M' q _ H' f i rfl⟩
 |_=>exact q.elim
def kI(t:eW)(ta tb:b6):b6:=λU M Q=>t U M λc M1=>if c=true then ta U M1 Q else tb U M1 Q
theorem EH(j:DT X B c tA)(g:DE X B a ta)(l:DE X B b tb):DE X B (.IfExp c a b pos) (kI tA ta tb):=by
 refine aS (Gv j g l) ?_
 rintro Z H Q ⟨U,M,QQ,s,h,u⟩
 refine⟨U,M,_,s,h,λc M' q H' f i=>?_⟩;cases c with
 |_=>exact⟨U,M',QQ,s.go f i,q,u.go i⟩
variable{es:aab}{te:b6}{t:dY}
def af:dY:=λ_ M Q=>Q [] M
def aa(ta:b6)(tr:dY):dY:=λU M Q=>ta U M λx M1=>tr U M1 λf M2=>Q (x::f) M2
theorem Nb:DA X B [] af:=by
 refine An GH ?_
 rintro Z H Q ⟨U,M,QQ,s,h,u⟩
 exact u [] M h [] H s.rh Frm.refl .nil
theorem JT(n:DE X B e te)(o:DA X B es t)(q:ee (e::es) X.env=(cp,fx e X.env)::ee es X.env:=by rfl):DA X B (e::es) (aa te t):=by
 refine An (Bl n o q) ?_
 rintro Z H Q ⟨U,M,QQ,s,h,u⟩
 exact⟨U,M,_,s,h,λx M1 j v1 H1 f i1 i=>⟨U,M1,_,s.go f i1,j,λv M2 l v2 H2 g i2 m=>u _ M2 l _ H2 g (i1.trans i2) (.cons (i.mf f i2) m)⟩⟩
def aT(t:dY):b6:=λU M Q=>t U M λf M1=>f.length<=sizeLine/\Q (.tup f) M1
def bL(t:dY):b6:=λU M Q=>t U M λf M1=>f.length<=sizeLine/\∀p,M1 p=bb->Q (.ref p) (M1.upd p<|.lst f)
theorem Ng{x1}(h:DA X B es t):DE X B (.Tuple es x1 pos) (aT t):=by
 refine aS (Ni h) ?_
 rintro Z H Q ⟨U,M,QQ,s,h,u⟩
 exact⟨U,M,_,s,h,λl M1 j v1 H1 g i1 i=>⟨by rw[<- i.length];exact j.1,λp f=>u _ M1 j.2 _ _ (g.new f) (i1.trans<|Frm.new f) ⟨p,v1,rfl,upd_same,i.mono<|Imm.new f⟩⟩⟩
theorem Mm(h:DA X B es t):DE X B (.List es pos) (bL t):=by
 refine aS (NK h) ?_
 rintro Z H Q ⟨U,M,QQ,s,h,u⟩
 exact⟨U,M,_,s,h,λxs M1 h1 v1 H1 rh1 i1 r1=>⟨by rw[<- r1.length];exact h1.1,λp hp=>u _ _ (h1.2 p<|rh1.fresh hp) _ _ (rh1.put (by rw[hp];trivial) ⟨v1,upd_same,r1.mono<|Imm.new hp⟩) (i1.trans<|Frm.put<|.inl hp) rfl⟩⟩
theorem Inv.freeze{g:aae}{Z:_2.St}{s:ca}{vs:List V}(I:Inv X g Z H s)(h:H p=ap (.lst vs)):∃o,Inv X g Z (upd H p<|.frz o<|.lst vs) s:=by
 obtain⟨i,n,r,e,z⟩:=I.lst h;have ne:∀{b:cb}{u:Option HO},H b=u->u≠ap (.lst vs)->b≠p:=λ{b u} q E z=>by subst z;rw[h]at q;exact E q.symm
 refine⟨{ cls:=.type "list",data:=.seq i.toArray n },I.ok,I.os,I.bare,⟨I.base.keep,I.base.slot,λb o q w A=>?_,I.base.there,λb m q=>?_,λb o u q=>?_,λb J q=>?_⟩,I.loc,I.cell,?_,λx c q=>?_,λv F=>?_,λb o q=>?_,I.len⟩
 .have f:=I.base.free b o q w A
  rw[aD (ne f<|by simp)];exact f
 .have f:=I.base.tups b m q
  rw[aD (ne f<|by simp)];exact f
 .have f:=I.base.frzs b o u q
  rw[aD (ne f<|by simp)];exact f
 .obtain⟨more,f⟩:=I.base.tbls b J q
  exact⟨more,by rw[aD (ne f<|by simp)];exact f⟩
 .rw[aD (ne I.free<|by simp)];exact I.free
 .have f:=I.freeC x c q
  rw[aD (ne f<|by simp)];exact f
 .obtain⟨C,l,G⟩:=I.pin v F
  exact⟨C,by rw[aD (ne l<|by simp)];exact l,G⟩
 .by_cases j:b=p
  .subst j
   rw[upd_same]at q;cases q;refine⟨e,?_⟩;exact⟨z,i,n,r,e⟩
  .rw[aD j]at q
   refine (I.hok b o q).stay (λ_ _ _ y=>y) (λc y=>?_) λc m y=>?_
   .rw[aD (ne y<|by simp)];exact y
   .rw[aD (ne y<|by simp)];exact y
def frz(d:D)(M:Mem)(Q:DK):Prop:=match d with
 |.ref a=>match M a with
  |some (.lst xs)=>Q (.lst xs) (M.del a)
  |_=>Q d M
 |_=>Q d M
def am(t:b6):b6:=λU M Q=>t U M λd M'=>frz d M' Q
theorem RepH.freeze{vs:List V}{o:Obj}(r:RepH K H M)(h:H p=ap (.lst vs)):RepH K (upd H p<|.frz o<|.lst vs) (M.del p):=λb u e=>by
 unfold Mem.del at e
 split at e
 .cases e
 rename_i hb
 exact(r b u e).keep (Imm.upd<|by rw[h];trivial) (aD hb)
theorem Oh(h:DE X B e te):DE X B e (am te):=by
 rintro l s Z H Q I ⟨U,M,QQ,x,y,u⟩
 refine bu (h _ s Z H (λv H'=>∃d M',RepH _ H' M'/\Frm M H M' H'/\Rp _ H' d v/\frz d M' QQ) I ⟨U,M,_,x,y,λd M' q v H' f i r=>⟨d,M',f,i,r,q⟩⟩) ?_
 rintro w z ⟨v,H',I',j,d,M',f,i,r,q⟩
 unfold frz at q
 split at q
 .rename_i a
  split at q
  .rename_i A e
   obtain⟨n,g,m⟩:=f _ _ e;obtain⟨o,I2⟩:=Inv.freeze I' g;exact⟨v,_,I2,j,u _ _ q v _ (f.freeze g) (i.trans<|Frm.del ⟨_,e⟩) ⟨a,n,r,⟨o,upd_same⟩,m.mono<|Imm.upd<|by rw[g];trivial⟩⟩
  exact⟨v,H',I',j,u _ _ q v H' f i r⟩
 exact⟨v,H',I',j,u _ _ q v H' f i r⟩
end
def cN(M:Mem):D->Option (List D)
 |.lst xs=>ap xs
 |.ref a=>match M a with
  |some (.lst xs)=>ap xs
  |_=>bb
 |_=>bb
def aM(M:Mem):D->Option (List D)
 |.tup xs=>ap xs
 |.lst xs=>ap xs
 |.mt xs=>ap xs
 |.ml xs=>ap xs
 |.ref a=>match M a with
  |some (.lst xs)=>ap xs
  |_=>bb
 |_=>bb
section
variable{d:D}{v:V}{xs:List D}
theorem cL(i:RepH K H M)(r:Rp K H d v)(e:cN M d=ap xs):∃p vs,v=.ref p/\Rd H p (.lst vs)/\Rps K H xs vs:=by
 cases d with
 |lst g=>
  cases e;obtain⟨p,vs,rfl,⟨o,h⟩,r⟩:=r;exact⟨p,vs,rfl,.inr ⟨o,h⟩,r⟩
 |ref a=>
  simp[cN]at e
  split at e
  .rename_i g q
   cases e;obtain⟨vs,b,f⟩:=i _ _ q;exact⟨a,vs,r,.inl b,f⟩
  cases e
 |_=>cases e
theorem iy(i:RepH K H M)(r:Rp K H d v)(e:aM M d=ap xs):∃p vs,v=.ref p/\(SqL K H p vs\/jH K H p vs)/\Rps K H xs vs:=by
 cases d with
 |tup b=>
  cases e;obtain⟨p,vs,rfl,h,r⟩:=r;exact⟨p,vs,rfl,.inr h.sq,r⟩
 |lst b=>
  cases e;obtain⟨p,vs,rfl,h,r⟩:=r;exact⟨p,vs,rfl,.inl h.sq,r⟩
 |mt b=>
  cases e;obtain⟨p,vs,rfl,h,r⟩:=r;exact⟨p,vs,rfl,.inr h.sq,r⟩
 |ml b=>
  cases e;obtain⟨p,vs,rfl,h,r⟩:=r;exact⟨p,vs,rfl,.inl h.sq,r⟩
 |ref a=>
  simp[aM]at e
  split at e
  .rename_i b q
   cases e;obtain⟨vs,f,g⟩:=i _ _ q;exact⟨a,vs,r,.inl (SqL.of f),g⟩
  cases e
 |_=>cases e
theorem IR:cD X (j0 .Add) (λx y H Q=>∃l b xs zs,x=.ref l/\y=.ref b/\Rd H l (.lst xs)/\Rd H b (.lst zs)/\xs.length+zs.length<=sizeLine/\∀p,H p=bb->Q (.ref p) (upd H p<|.lst (xs++zs))):=by
 rintro g s Z H x y v u Q I A j ⟨l,b,xs,zs,rfl,rfl,C,w,J,q⟩
 cases A;cases j;obtain⟨z,f,n,r,e⟩:=C.ok I.hok;obtain⟨E,a,G,h,o⟩:=w.ok I.hok;have F:=r.length;have i:=h.length;refine PySem.P.add_list e o ?_ (by simp_all)
 have m:f.toArray++a.toArray=(f++a).toArray:=by simp
 rw[m];exact⟨.ref _,_,I.lnew (r.append h) (by rw[Tq];lia),rfl,q _ I.fresh⟩
def bc:fL:=λx y M Q=>match x,y with
 |.int i,.int j=>Q (.int (i+j)) M
 |.str a,.str b=>a.length+b.length<=sizeLine/\Q (.str (a++b)) M
 |.tup xs,.tup ys=>xs.length+ys.length<=sizeLine/\Q (.tup (xs++ys)) M
 |x,y=>match cN M x,cN M y with
  |some xs,ap ys=>xs.length+ys.length<=sizeLine/\∀p,M p=bb->Q (.ref p) (M.upd p<|.lst (xs++ys))
  |_,_=>False
theorem Kn:cD X (j0 .Add) (liftR2 X bc):=by
 rintro Z0 s Z H x y v u Q I rx ry ⟨d1,d2,M,QQ,rh,r1,r2,h,up⟩
 unfold bc at h
 split at h
 .cases r1;cases r2
  exact PH _ s Z H _ _ v u Q I rx ry ⟨_,_,rfl,rfl,up _ M h _ H rh Frm.refl rfl⟩
 .cases r1;cases r2
  exact wR _ s Z H _ _ v u Q I rx ry ⟨_,_,rfl,rfl,h.1,up _ M h.2 _ H rh Frm.refl rfl⟩
 .obtain⟨p,vs,rfl,t1,r1⟩:=r1
  obtain⟨p',vs',rfl,t2,r2⟩:=r2;have l1:=r1.length;have l2:=r2.length;have r12:=r1.append r2
  by_cases hx:vs=[]
  .subst hx
   exact Fi _ s Z H _ _ v u Q I rx ry ⟨p,p',_,rfl,rfl,t1.sq,t2.sq,(up _ M h.2 _ H rh Frm.refl ⟨p',_,rfl,t2,r12⟩)⟩
  refine JC _ s Z H _ _ v u Q I rx ry ⟨p,p',vs,_,rfl,rfl,t1.sq,t2.sq,hx,by lia,λe=>?_,λ_ q hq=>?_⟩
  .subst e
   rw[TX]at r12;exact up _ M h.2 _ H rh Frm.refl ⟨p,vs,rfl,t1,r12⟩
  exact up _ M h.2 _ _ (rh.new hq) (Frm.new hq) ⟨q,_,rfl,upd_same,r12.mono<|Imm.new hq⟩
 split at h
 .rename_i xs ys e1 e2
  obtain⟨p,vs,rfl,t1,r1⟩:=cL rh r1 e1;obtain⟨p',vs',rfl,t2,r2⟩:=cL rh r2 e2;have l1:=r1.length;have l2:=r2.length;exact IR Z0 s Z H _ _ v u Q I rx ry ⟨p,p',vs,vs',rfl,rfl,t1,t2,by lia,λq hq=>up _ _ (h.2 q<|rh.fresh hq) _ _ (rh.put (by rw[hq];trivial) ⟨_,upd_same,(r1.append r2).mono<|Imm.new hq⟩) (Frm.put<|.inl hq) rfl⟩
 trivial
def oI(C:Int->Int->Prop)(g:Int->Int->D):fL:=λx y M Q=>match x,y with
 |.int i,.int j=>C i j/\Q (g i j) M
 |_,_=>False
theorem Hf{f:ay->ay->Sem ay}{C:Int->Int->Prop}{g:Int->Int->V}{g':Int->Int->D}(h:cD X f (rI C g))(e:∀i j K H,Rp K H (g' i j) (g i j)):cD X f (liftR2 X<|oI C g'):=by
 rintro b s Z H x y v u Q I w o ⟨z,A,M,QQ,m,l,q,a,n⟩
 unfold oI at a
 split at a
 .cases l;cases q
  exact h _ s Z H _ _ v u Q I w o ⟨_,_,rfl,rfl,a.1,n _ M a.2 _ H m Frm.refl<|e _ _ _ _⟩
 trivial
def lL(g:Int->Int->D):fL:=λx y M Q=>match x,y with
 |.int i,.int j=>Q (g i j) M
 |_,_=>False
theorem jO{f:ay->ay->Sem ay}{g:Int->Int->V}{g':Int->Int->D}(h:cD X f (De g))(e:∀i j K H,Rp K H (g' i j) (g i j)):cD X f (liftR2 X<|lL g'):=by
 rintro b s Z H x y v u Q I w o ⟨z,A,M,QQ,m,l,q,a,n⟩
 unfold lL at a
 split at a
 .cases l;cases q
  exact h _ s Z H _ _ v u Q I w o ⟨_,_,rfl,rfl,n _ M a _ H m Frm.refl<|e _ _ _ _⟩
 trivial
abbrev mK:fL:=lL λi j=>.int (i-j)
theorem H_:cD X (j0 .Sub) (liftR2 X mK):=jO OU λ_ _ _ _=>rfl
abbrev fK:fL:=oI (λ_ j=>0<j) λi j=>.int (i % j)
theorem Jw:cD X (j0 .Mod) (liftR2 X fK):=Hf Ov λ_ _ _ _=>rfl
def L6(_ j:Int):Prop:=0<j/\j<2 ^ 200
theorem F_:cD X (j0 .FloorDiv) (rI L6 λi j=>.int (i / j)):=by
 rintro b s Z H x y v u Q I h g ⟨i,j,rfl,rfl,l,q⟩
 obtain⟨n,m⟩:=l;have f:j.toNat=j:=by lia
 refine F3 ?_ (by lia) _ s Z H _ _ v u Q I h g ⟨i,j,rfl,rfl,f.symm,q⟩
 have a:j.toNat<2 ^ 200:=by
  simp_all
 have:=(X7<|by lia).mpr a
 lia
abbrev vA:fL:=oI L6 λi j=>.int (i / j)
theorem F8:cD X (j0 .FloorDiv) (liftR2 X vA):=Hf F_ λ_ _ _ _=>rfl
abbrev MU:fL:=oI HG λi j=>.int (i ^ j.toNat)
theorem Jg:cD X (j0 .Pow) (liftR2 X MU):=Hf NG λ_ _ _ _=>rfl
abbrev Qy:fL:=lL λi j=>.int (Builtin.bitXor i j)
theorem IQ:cD X (j0 .BitXor) (liftR2 X Qy):=jO OL λ_ _ _ _=>rfl
abbrev Qu:fL:=lL λi j=>.int (VC i j)
theorem JO:cD X (j0 .BitAnd) (liftR2 X Qu):=jO OX λ_ _ _ _=>rfl
abbrev oOr:fL:=lL λi j=>.int (Wn i j)
theorem Na:cD X (j0 .BitOr) (liftR2 X oOr):=jO QU λ_ _ _ _=>rfl
abbrev QX:fL:=oI HG λi j=>.int (i*2 ^ j.toNat)
theorem HS:cD X (j0 .LShift) (liftR2 X QX):=Hf Nu λ_ _ _ _=>rfl
abbrev MQ:fL:=oI (λ_ j=>0<=j) λi j=>.int (i / 2 ^ j.toNat)
theorem J7:cD X (j0 .RShift) (liftR2 X MQ):=Hf O4 λ_ _ _ _=>rfl
abbrev CU:fL:=lL λi j=>.bl (decide (i<j))
theorem Oa:cD X (kc .Lt) (liftR2 X CU):=jO S8 λ_ _ _ _=>rfl
abbrev oLe:fL:=lL λi j=>.bl (decide (i<=j))
theorem Pg:cD X (kc .LtE) (liftR2 X oLe):=jO RS λ_ _ _ _=>rfl
abbrev Jo:fL:=lL λi j=>.bl (decide (j<i))
theorem P2:cD X (kc .Gt) (liftR2 X Jo):=jO Si λ_ _ _ _=>rfl
abbrev oGe:fL:=lL λi j=>.bl (decide (j<=i))
theorem NB:cD X (kc .GtE) (liftR2 X oGe):=jO QK λ_ _ _ _=>rfl
theorem EJ{c:Nat}:∀(k:Nat)(Z3:Array Nat),(Tp k #[c]).foldl (·++·) Z3=Z3++UQ k c
 |0,Z3=>by simp
 |k+1,Z3=>by
  rw[UJ,Ut,EJ k _];apply Array.ext';simp[UJ]
theorem Dn:cD X (j0 .Mult) (λx y H Q=>∃c k,x=.str ⟨#[c]⟩/\y=.int k/\1<=k/\k<=1000/\Q (.str ⟨UQ k.toNat c⟩) H):=by
 intro b s Z H x y v u Q I l j h;obtain⟨c,k,rfl,rfl,n,o,q⟩:=h;obtain⟨t,rfl⟩:=l;obtain⟨w,rfl⟩:=j;have a:(⟨#[c]⟩:Str).length=1:=rfl;have i:sizeLine=16777216:=rfl;refine PySem.P.mul_str ?_ ?_ ?_ ?_
 .rw[decide_eq_false (by lia),decide_eq_false (by lia)];rfl
 .intro _ _ m
  rw[a]at m;have:(1:Int)<=(2 ^ 63-1) / k:=Int.le_ediv_of_mul_le (by lia) (by lia)
  lia
 .intro _ _
  rw[a];exact decide_eq_false (by lia)
 .rw[if_neg (by lia)]
  by_cases f:k=1
  .subst f
   exact⟨.str ⟨#[c]⟩,H,I,⟨_,rfl⟩,q⟩
  .rw[if_neg (by simp[a,f])]
   have g:(Tp k.toNat #[c]).foldl (·++·) #[]=UQ k.toNat c:=by rw[EJ];simp
   refine⟨?_,.str _,H,I.tok _,⟨_,rfl⟩,by rw[g];exact q⟩
   show ((Tp k.toNat #[c]).foldl (·++·) #[]).size<=sizeLine;rw[g];simp;lia
def iU:fL:=λx y M Q=>match x,y with
 |.int i,.int j=>CMul i j/\Q (.int (i*j)) M
 |.str z,.int k=>match z.cps.toList with
  |[c]=>1<=k/\k<=1000/\Q (.str ⟨UQ k.toNat c⟩) M
  |_=>False
 |.tup xs,.int k=>xs≠[]/\0<=k/\k<=1000/\xs.length<=1000/\Q (.tup (Tp k.toNat xs).flatten) M
 |_,_=>False
theorem Rps.rep{ds:List D}{vs:List V}(h:Rps K H ds vs):∀k:Nat,Rps K H (Tp k ds).flatten (Tp k vs).flatten
 |0=>rfl
 |k+1=>by
  exact h.append (Rps.rep h k)
theorem HC:cD X (j0 .Mult) (liftR2 X iU):=by
 rintro G s Z H x y v u Q I A q ⟨R,C,M,QQ,m,a,w,h,f⟩
 cases R with
 |int i=>
  cases C with
  |int j=>
   cases a;cases w;exact Pe _ s Z H _ _ v u Q I A q ⟨_,_,rfl,rfl,h.1,f _ M h.2 _ H m Frm.refl rfl⟩
  |_=>exact(h).elim
 |str z=>
  cases C with
  |int k=>
   cases a;cases w;simp[iU]at h
   split at h
   .rename_i c e
    have N:z=⟨#[c]⟩:=by
     obtain⟨⟨l⟩⟩:=z
     simp_all
    subst N;exact Dn _ s Z H _ _ v u Q I A q ⟨_,_,rfl,rfl,h.1,h.2.1,f _ M h.2.2 _ H m Frm.refl rfl⟩
   exact h.elim
  |_=>exact(h).elim
 |tup xs=>
  cases C with
  |int k=>
   obtain⟨p,g,rfl,t1,a⟩:=a;cases w;obtain⟨n,J,P,W,F⟩:=h;have l1:=a.length;obtain⟨t,rfl⟩:=q;cases A;obtain⟨O,r,L,_⟩:=I.tuple t1.sq;have T:=r.length;refine C9 L (λz=>n ?_) J P (by lia) (λe=>?_) λe=>?_
   .simp_all
   .subst e
    refine⟨.ref p,H,I,rfl,f _ M F _ H m Frm.refl ⟨p,g,rfl,t1,?_⟩⟩
    simp_all
   .have E:=I.hok.fresh (SO _)
    have S:(Tp k.toNat g).flatten.length<=sizeLine:=by
     rw[Kf];have n:k.toNat*g.length<=1000*1000:=Nat.mul_le_mul (by lia) (by lia)
     exact SX n (by decide)
    exact⟨.ref s.heap.objs.size,_,I.laid (t':=s.toks) (o:=.tup (Tp k.toNat g).flatten) (λb Y z=>SF _ z) (SO _) ⟨S,_,r.rep k.toNat,⟨_,SK _ rfl,⟨rfl,_,rfl⟩,rfl⟩⟩,rfl,
     f _ M F _ _ (m.new E) (Frm.new E) ⟨_,_,rfl,upd_same,(a.rep _).mono<|Imm.new E⟩⟩
  |_=>exact(h).elim
 |_=>exact(h).elim
def jC:D->Bool
 |.non=>true
 |_=>cp
def jT:fL:=λx y M Q=>match y with
 |.non=>Q (.bl<|jC x) M
 |_=>False
def eQ:fL:=λx y M Q=>match y with
 |.non=>Q (.bl<|!jC x) M
 |_=>False
theorem F5(r:Rp K H d v):decide (v=V.non)=jC d:=by
 cases d with
 |non=>cases r;rfl
 |tup xs=>obtain⟨p,a,rfl,_⟩:=r;rfl
 |lst xs=>obtain⟨p,a,rfl,_⟩:=r;rfl
 |mt xs=>obtain⟨p,a,rfl,_⟩:=r;rfl
 |ml xs=>obtain⟨p,a,rfl,_⟩:=r;rfl
 |fd ks xs=>obtain⟨p,a,rfl,_⟩:=r;rfl
 |_=>cases r;rfl
theorem yq:cD X (kc .Is) (liftR2 X jT):=by
 rintro a s Z H x y v u Q I l i ⟨m,n,M,QQ,f,b,j,h,g⟩
 unfold jT at h
 split at h
 .cases j
  exact Oq _ s Z H _ _ v u Q I l i ⟨rfl,by rw[F5 b];exact g _ M h _ H f Frm.refl rfl⟩
 trivial
theorem ED:cD X (kc .IsNot) (liftR2 X eQ):=by
 rintro a s Z H x y v u Q I l i ⟨m,n,M,QQ,f,b,j,h,g⟩
 unfold eQ at h
 split at h
 .cases j
  refine HF _ s Z H _ _ v u Q I l i ⟨rfl,g _ M h _ H f Frm.refl ?_⟩;show _=V.bl _;rw[F5 b]
 trivial
end
section
variable{κ:Type}[DecidableEq κ]
noncomputable def cq(Z2:List (κ×D))(k:κ):Option D:=(Z2.find? λa=>decide (a.1=k)).map (·.2)
noncomputable def dL(Z2:List (κ×D))(k:κ)(v:D):List (κ×D):=
 if (Z2.any λa=>decide (a.1=k))=true then Z2.map (λa=>if a.1=k then (a.1,v) else a) else Z2++[(k,v)]
noncomputable def pH(Z2:List (κ×D))(k:κ):List (κ×D):=Z2.filter λa=>decide (a.1≠k)
theorem Rkv.val{Z2:List (κ×D)}{b:List (κ×V)}(h:Rkv K H Z2 b)(k:κ):(cq Z2 k=bb/\dM b k=bb)\/∃d v,cq Z2 k=ap d/\dM b k=ap v/\Rp K H d v:=by
 induction h with
 |nil=>exact .inl ⟨rfl,rfl⟩
 |@cons p q ps qs r t ih=>
  obtain⟨f,d⟩:=p;obtain⟨g,v⟩:=q;obtain⟨e,r⟩:=r;dsimp only at e r;subst e
  by_cases a:f=k
  .exact .inr ⟨d,v,by simp[cq,a],by simp[dM,a],r⟩
  simpa [cq,dM,a] using ih
theorem Rkv.any{Z2:List (κ×D)}{a:List (κ×V)}(h:Rkv K H Z2 a)(k:κ):(Z2.any λkv=>decide (kv.1=k))=(a.any λkv=>decide (kv.1=k)):=by
 induction h<;>simp_all
theorem Rkv.put{Z2:List (κ×D)}{b:List (κ×V)}(h:Rkv K H Z2 b)(k:κ){d:D}{v:V}(r:Rp K H d v):Rkv K H (dL Z2 k d) (eV b k v):=by
 unfold dL eV;rw[h.any k]
 split
 .rename_i q;clear q
  induction h with
  |nil=>exact .nil
  |@cons p q ps qs rr t ih=>
   obtain⟨f,j⟩:=p;obtain⟨l,i⟩:=q;obtain⟨e,g⟩:=rr;dsimp only at e g;subst e;rw[SJ,SJ];refine .cons ?_ ih
   by_cases a:f=k
   .rw[if_pos a,if_pos a];trivial
   rw[if_neg a,if_neg a];trivial
 rename_i q;clear q
 induction h with
 |nil=>exact .cons ⟨rfl,r⟩ .nil
 |cons rr t ih=>exact .cons rr ih
theorem Rkv.drop{Z2:List (κ×D)}{a:List (κ×V)}(h:Rkv K H Z2 a)(k:κ):Rkv K H (pH Z2 k) (gQ a k):=by
 unfold pH gQ
 induction h with
 |nil=>exact .nil
 |@cons p q ps qs rr t ih=>
  obtain⟨b,i⟩:=p;obtain⟨l,j⟩:=q;obtain⟨e,f⟩:=rr;subst e
  by_cases g:b=k
  .simp_all
  simp only[Ti,ne_eq,g];exact .cons ⟨rfl,f⟩ ih
theorem Rkv.length{Z2:List (κ×D)}{a:List (κ×V)}(h:Rkv K H Z2 a):Z2.length=a.length:=UE h
end
def cA:D->Option aF
 |.int i=>ap (.inl i)
 |.str x=>ap (.inr x)
 |_=>bb
def eI:List D->Option (List aF)
 |[]=>ap []
 |d::ds=>match cA d,eI ds with
  |some k,ap ks=>ap (k::ks)
  |_,_=>bb
def Cr:D->Option (List aF)
 |.tup xs=>eI xs
 |_=>bb
section
theorem gy{d:D}{v:V}{k:aF}(r:Rp K H d v)(e:cA d=ap k):v=kV k:=by
 cases d with
 |int i=>cases e;exact r
 |str x=>cases e;exact r
 |_=>cases e
theorem mY:∀{ds:List D}{vs:List V}{ks:List aF},Rps K H ds vs->eI ds=ap ks->vs=ks.map kV
 |[],vs,ks,r,e=>by cases e;exact r
 |d::ds,vs,ks,r,e=>by
  obtain⟨v,i,rfl,a,b⟩:=r;simp[eI]at e
  split at e
  .rename_i k g f h
   cases e;rw[gy a f,mY b h];rfl
  cases e
def tL(M:Mem)(a:cb)(y:D):Option (Option D):=match M a with
 |some (.dK Z2)=>match cA y with
  |some k=>ap (cq Z2 k)
  |none=>bb
 |some (.dT Z2)=>match Cr y with
  |some k=>ap (cq Z2 k)
  |none=>bb
 |_=>bb
theorem nB{d:D}{v:V}{ks:List aF}(r:Rp K H d v)(e:Cr d=ap ks):∃b,v=.ref b/\H b=ap (.tup<|ks.map kV):=by
 cases d with
 |tup xs=>
  obtain⟨p,a,rfl,t,r⟩:=r;exact⟨p,rfl,by rw[<- mY r e];exact t⟩
 |_=>cases e
theorem qt{a:cb}{y:D}{v:V}{o:Option D}(q:RepH K H M)(r:Rp K H y v)(e:tL M a y=ap o):
  (o=bb/\DGet H a v bb)\/∃d w,o=ap d/\DGet H a v (ap w)/\Rp K H d w:=by
 unfold tL at e
 split at e
 .rename_i i m
  obtain⟨s,h,l⟩:=q _ _ m
  split at e
  .rename_i k j
   cases e;have u:=gy r j;subst u;rcases l.val k with⟨f,g⟩|⟨d,w,f,g,r'⟩
   .exact .inl ⟨f,by rw[<- g];exact DGet.k h⟩
   exact .inr ⟨d,w,f,by rw[<- g];exact DGet.k h,r'⟩
  cases e
 .rename_i i m
  obtain⟨s,h,l⟩:=q _ _ m
  split at e
  .rename_i k j
   cases e;obtain⟨b,rfl,n⟩:=nB r j;rcases l.val k with⟨f,g⟩|⟨d,w,f,g,r'⟩
   .exact .inl ⟨f,by rw[<- g];exact DGet.t h n⟩
   exact .inr ⟨d,w,f,by rw[<- g];exact DGet.t h n,r'⟩
  cases e
 cases e
end
end _3
namespace HT
open PySem PyProof.Rows
section
variable {prog:eX}{w:f'}{A:g3}{E:aad}{s:ca}
theorem gK{t j:cb}{items:aag}{i m:ay}{a e:Option Int}{Q:aad}(c:ZF s.heap t items)(l:s.heap.IsSliceOf j i m .none)(pl:W1 i a)(p:W1 m e)
  (q:sIx items.size 0 a=0/\sIx items.size items.size e=items.size) (h:Q (.ref t) s):cT (eC prog w) A (W_ (.ref t)<|.ref j) Q E s:=by
 obtain⟨n,g,f,o⟩:=id l;unfold W_
 try with_reducible refine kr ?_
 refine ax (wpAny_sequenceKey c.typeIs (by decide) ?_)
 refine ax (wpAny_callSpecial?_slot c.typeIs T3
  (mu T3 c.typeIs entry_tuple_getitem ?_<|args_tuple_getitem _ _))
 show cT _ _ (Wv _ >>= _) _ _ s;refine ax (tupleItemsOf_ c ?_);refine ax (Zb ⟨n,g,f⟩ ?_);refine ax (fb l pl p ?_);have b:((((sIx items.size 0 a):Int)==0&&(1:Int)==1&&(sIx items.size items.size e-sIx items.size 0 a)==items.size)=true):=by
  simp_all
 show cT _ _ (if (((sIx _ 0 a:Nat):Int)==0&&1==1&&(sIx _ _ e-sIx _ 0 a)==items.size)=true then _ else _) _ _ s
 rw[if_pos b];refine ax (ax<|wpAny_typeOf c.typeIs<|wpAny_pure ?_)
 first
  |exact ax _
  |exact ax (T'<|wpAny_pure ⟨_,rfl,cx h⟩)
  |rfl
  |trace_state
end
end HT
namespace _3
open PySem _2
variable{p p':cb}{A:g3}{a b:aag}{B:Bd}{X:Cx}{c e tg:fv}{H:Hp}{Z:_2.St}{es:aab}{Z6 its':Z'}{M:Mem}{i n:Nat}{pos pos':Pos}{K:SM}{s:ca}{x:Str}{u:ay}{tb:ar}{te:b6}{g:je}{r:mR}
section
variable{a b:fv}{ta tb tc:b6}
def av:fL:=λx y M Q=>match aM M x,y with
 |some xs,.int i=>match atI xs i with
  |some d=>Q d M
  |none=>False
 |some _,_=>False
 |none,y=>match x,y with
  |.str z,.int i=>z.length<=sizeLine/\match atI z.cps.toList i with
   |some c=>Q (.str ⟨#[c]⟩) M
   |none=>False
  |.ref a,y=>match tL M a y with
   |some (ap d)=>Q d M
   |_=>False
  |_,_=>False
theorem Rps.atI{ds:List D}{vs:List V}{i:Int}{d:D}(r:Rps K H ds vs)(e:atI ds i=ap d):∃v,_2.atI vs i=ap v/\Rp K H d v:=by
 unfold _2.atI at e ⊢;rw[<- r.length];cases q:wX _ i with
 |none=>simp_all
 |some j=>
  rw[q]at e;exact r.get e
theorem Bu(E:X.A.units+1<n7):IxR X (λx y H Q=>∃a v,x=.ref a/\DGet H a y (ap v)/\Q v H):=by
 intro j f m s Z H x y v u Q I z o h C;obtain⟨a,w,rfl,g,q⟩:=h;cases z;exact PyProof.Rows.tail_any (tK I g) rfl (CJ E I g o λG F I3 l=>⟨w,H,I3,l,q⟩) C
theorem NN(U:X.A.units+1<n7):IxR X (liftR2 X av):=by
 intro L q P s Z H x y v u Q I G E h J;obtain⟨d1,Y,M,QQ,j,m,F,h,C⟩:=h;unfold av at h
 split at h
 .rename_i W i e
  split at h
  .rename_i d o
   cases F;obtain⟨p,N,rfl,hq,r⟩:=iy j m e;obtain⟨w,O,f⟩:=r.atI o;refine NZ _ _ _ s Z H _ _ v u Q I G E ?_ J;have l:=C _ M h _ H j Frm.refl f;rcases hq with hq|hq
   .exact .inl ⟨p,N,i,w,rfl,rfl,hq,O,l⟩
   exact .inr (.inl ⟨p,N,i,w,rfl,rfl,hq,O,l⟩)
  trivial
 .exact h.elim
 split at h
 .obtain⟨T,h⟩:=h
  split at h
  .rename_i S R
   cases m;cases F;exact Em _ _ _ s Z H _ _ v u Q I G E ⟨_,_,S,rfl,rfl,T,R,C _ M h _ H j Frm.refl rfl⟩ J
  trivial
 .split at h
  .rename_i d o
   cases m;rcases qt j F o with⟨z,_⟩|⟨d',w,z,g,f⟩
   .cases z
   cases z;exact Bu U _ _ _ s Z H _ _ v u Q I G E ⟨_,w,rfl,g,C _ M h _ H j Frm.refl f⟩ J
  trivial
 trivial
abbrev Kz:=Dl->Mem->(Option Int->Mem->Prop)->Prop
inductive liftO(X:Cx)(B:Bd)(T:Kz)(Z:St)(H:Hp)(Q:Option Int->Hp->Prop):Prop
 |mk (U:Dl) (M:Mem) (QQ:Option Int->Mem->Prop) (s:SR X B U M Z H) (h:T U M QQ) (u:∀o M',QQ o M'->∀H',RepH X.K H' M'->Frm M H M' H'->Q o H'):liftO X B T Z H Q
def DO(X:Cx)(B:Bd)(e:Option fv)(T:Kz):Prop:=PO X e (liftO X B T)
theorem yr{e:Option fv}{t t':TO}(h:PO X e t)(w:∀Z H Q,t' Z H Q->t Z H Q):PO X e t':=λf s Z H Q I q=>h _ s Z H Q I (w Z H Q q)
def ci:Kz:=λ_ M Q=>Q bb M
def dQ(t:b6):Kz:=λU M Q=>t U M λx M1=>match x with
 |.int i=>Q (ap i) M1
 |_=>False
theorem J4:DO X B bb ci:=yr II (by rintro Z H Q ⟨U,M,QQ,s,h,u⟩;exact u _ M h H s.rh Frm.refl)
theorem Im(h:DE X B e te):DO X B (ap e) (dQ te):=by
 refine yr (JY h) ?_
 rintro Z H Q ⟨U,M,QQ,s,h,u⟩
 refine⟨U,M,_,s,h,λd M' q v H' f i r=>?_⟩;cases d with
 |int j=>exact⟨j,r,u _ M' q H' f i⟩
 |_=>exact q.elim
noncomputable def nz(xs:List D)(lo hi:Option Int):List D:=(xs.drop<|HT.sIx xs.length 0 lo).take (HT.sIx xs.length xs.length hi-HT.sIx xs.length 0 lo)
theorem Rps.cut{ds:List D}{vs:List V}(r:Rps K H ds vs)(h f:Option Int):Rps K H (nz ds h f) (oB vs h f):=by
 unfold nz oB;rw[<- r.length];exact(r.drop _).take _
def Rj(x:D)(lo hi:Option Int)(M:Mem)(Q:DK):Prop:=match x with
 |.tup xs=>Q (.tup<|nz xs lo hi) M
 |.ml xs=>∀p,M p=bb->Q (.ref p) (M.upd p<|.lst<|nz xs lo hi)
 |x=>match cN M x with
  |some xs=>∀p,M p=bb->Q (.ref p) (M.upd p<|.lst<|nz xs lo hi)
  |none=>False
inductive liftSl(X:Cx)(x:V)(lo hi:Option Int)(H:Hp)(Q:VK):Prop
 |mk (d:D) (M:Mem) (QQ:DK) (rh:RepH X.K H M) (r:Rp X.K H d x) (h:Rj d lo hi M QQ) (u:Up X.K M H QQ Q):liftSl X x lo hi H Q
theorem xF{vs:List V}{j f:Option Int}(h:HT.sIx vs.length 0 j=0/\HT.sIx vs.length vs.length f=vs.length):oB vs j f=vs:=by
 unfold oB
 simp_all
theorem ID:RV X (λx lo hi H Q=>∃a xs,x=.ref a/\jH X.K H a xs/\(oB xs lo hi=xs->Q (.ref a) H)/\∀p,H p=bb->Q (.ref p) (upd H p<|.tup<|oB xs lo hi)):=by
 intro f s Z H x v F E lo hi G Q I y z pl o h;obtain⟨a,xs,rfl,m,C,q⟩:=h
 by_cases l:HT.sIx xs.length 0 lo=0/\HT.sIx xs.length xs.length hi=xs.length
 .cases y
  obtain⟨Z6,r,w,J⟩:=I.tuple m;have j:Z6.toArray.size=xs.length:=by rw[SW];exact r.length.symm
  refine⟨"tuple",_,T3.lookup,w.typeIs,?_⟩;exact HT.gK w z pl o (by rw[j];exact l) ⟨.ref a,H,I,rfl,C<|xF l⟩
 .exact O2 f s Z H _ v F E lo hi G Q I y z pl o ⟨a,xs,rfl,m,l,q⟩
end
section
variable{lo hi:Option fv}{tl th:Kz}{p2 p:Pos}{t:dY}
theorem NQ:RV X (liftSl X):=by
 rintro Z0 s Z H x v vl vu lo hi sl Q I rx hs pl pu ⟨d,M,QQ,rh,r,h,up⟩
 unfold Rj at h
 split at h
 .obtain⟨a,vs,rfl,ht,r⟩:=r
  exact ID _ s Z H _ v vl vu lo hi sl Q I rx hs pl pu ⟨a,vs,rfl,ht.sq,λe=>up _ M h _ H rh Frm.refl ⟨a,vs,rfl,ht,by rw[<- e];exact r.cut lo hi⟩,λp hp=>up _ M h _ _ (rh.new hp) (Frm.new hp) ⟨p,_,rfl,upd_same,(r.cut lo hi).mono<|Imm.new hp⟩⟩
 .obtain⟨a,vs,rfl,hq,r⟩:=r
  exact y4 _ s Z H _ v vl vu lo hi sl Q I rx hs pl pu ⟨a,vs,rfl,hq.sq,λp hp=>up _ _ (h p<|rh.fresh hp) _ _ (rh.put (by rw[hp];trivial) ⟨_,upd_same,(r.cut lo hi).mono<|Imm.new hp⟩) (Frm.put<|.inl hp) rfl⟩
 split at h
 .rename_i xs e
  obtain⟨a,vs,rfl,hq,r⟩:=cL rh r e;exact y4 _ s Z H _ v vl vu lo hi sl Q I rx hs pl pu ⟨a,vs,rfl,.inl hq,λp hp=>up _ _ (h p<|rh.fresh hp) _ _ (rh.put (by rw[hp];trivial) ⟨_,upd_same,(r.cut lo hi).mono<|Imm.new hp⟩) (Frm.put<|.inl hp) rfl⟩
 trivial
def CK(te:b6)(tl th:Kz):b6:=λU M Q=>te U M λx M1=>tl U M1 λl M2=>th U M2 λu M3=>Rj x l u M3 Q
theorem FS(E:DE X B e te)(z:DO X B lo tl)(C:DO X B hi th):DE X B (.Subscript e (.Slice lo hi bb p2) pos) (CK te tl th):=by
 refine aS (FL NQ E z C) ?_
 rintro Z H Q ⟨U,M,QQ,s,h,u⟩
 exact⟨U,M,_,s,h,λx M1 q v1 H1 f i1 o=>⟨U,M1,_,s.go f i1,q,λl M2 v H2 j i2=>⟨U,M2,_,s.go j (i1.trans i2),v,λw M3 y H3 m i3=>⟨x,M3,QQ,m,o.mf f (i2.trans i3),y,u.go<|(i1.trans i2).trans i3⟩⟩⟩⟩
abbrev mR:=List D->Mem->DK->Prop
inductive liftC(X:Cx)(r:mR)(xs:List V)(H:Hp)(Q:VK):Prop
 |mk (ds:List D) (M:Mem) (QQ:DK) (rh:RepH X.K H M) (rp:Rps X.K H ds xs) (h:r ds M QQ) (u:Up X.K M H QQ Q):liftC X r xs H Q
def bg(r:mR)(t:dY):b6:=λU M Q=>t U M λf M1=>r f M1 Q
theorem qi{Q:VK}(h:liftE X B (bg r t) Z H Q):tCB (liftC X r) (liftA X B t) Z H Q:=by
 obtain⟨U,M,QQ,s,h,u⟩:=h;exact⟨U,M,_,s,h,λj M1 m o H1 f i1 l=>⟨j,M1,QQ,f,l,m,u.go i1⟩⟩
theorem GW{id:String}(o:bp X (.builtin id) (liftC X r))(m:Gl X x)(q:X.mg x=bb)(j:eT x=ap (.builtin id))(l:DA X B (e::es) t)(f:x≠"__name__":=by decide)(hdb:(x==("__debug__":Str))=false:=by decide)(he:ee (e::es) X.env=(cp,fx e X.env)::ee es X.env:=by rfl)(hpl:(g4 pos<|starEach es X.env).any (·.1)=false:=by rfl):DE X B (.Call (.Name x p) (e::es) [] pos) (bg r t):=
 aS (Gb o m q j l f hdb he hpl) λ_ _ _ h=>qi h
theorem CP{T:String}(o:bp X (.type T) (liftC X r))(m:Gl X x)(q:X.mg x=bb)(j:eT x=ap (.type T))(l:DA X B (e::es) t)(f:x≠"__name__":=by decide)(hdb:(x==("__debug__":Str))=false:=by decide)(he:ee (e::es) X.env=(cp,fx e X.env)::ee es X.env:=by rfl)(hpl:(g4 pos<|starEach es X.env).any (·.1)=false:=by rfl):DE X B (.Call (.Name x p) (e::es) [] pos) (bg r t):=
 aS (CB o m q j l f hdb he hpl) λ_ _ _ h=>qi h
theorem eU{ds:List D}{vs:List V}{d:D}(r:Rps K H [d] vs):∃v,vs=[v]/\Rp K H d v:=by
 obtain⟨v,w,rfl,a,b⟩:=r;cases b;exact⟨v,rfl,a⟩
theorem J2{vs:List V}{d e:D}(r:Rps K H [d,e] vs):∃v w,vs=[v,w]/\Rp K H d v/\Rp K H e w:=by
 obtain⟨v,w,rfl,a,b⟩:=r;obtain⟨f,j,rfl,h,b⟩:=b;cases b;exact⟨v,f,rfl,a,h⟩
def bV:mR:=λf M Q=>match f with
 |[d]=>match aM M d with
  |some xs=>Q (.int xs.length) M
  |none=>match d with
   |.str z=>z.length<=sizeLine/\Q (.int z.length) M
   |.ref a=>match M a with
    |some (.dK Z2)=>Q (.int Z2.length) M
    |_=>False
   |_=>False
 |_=>False
theorem Cs:bp X (.builtin "len") (liftC X bV):=by
 rintro o s Z H L j Q I r ⟨ds,M,QQ,f,J,h,l⟩
 unfold bV at h
 split at h
 .obtain⟨v,rfl,m⟩:=eU (ds:=[]) J
  split at h
  .rename_i N e
   obtain⟨q,G,rfl,y,F⟩:=iy f m e;exact qW _ s Z H _ j Q I r ⟨q,G,rfl,y,by rw[<- F.length];exact l _ M h _ H f Frm.refl rfl⟩
  split at h
  .cases m
   exact qR _ s Z H _ j Q I r ⟨_,rfl,h.1,l _ M h.2 _ H f Frm.refl rfl⟩
  .split at h
   .rename_i w e
    cases m;obtain⟨E,z,C⟩:=f _ _ e;exact Cg _ s Z H _ j Q I r ⟨_,E,rfl,z,by rw[<- C.length];exact l _ M h _ H f Frm.refl rfl⟩
   trivial
  trivial
 trivial
def dW:mR:=λf M Q=>match f with
 |[d]=>match aM M d with
  |some xs=>∀p,M p=bb->Q (.ref p) (M.upd p<|.lst xs)
  |none=>False
 |_=>False
theorem xw:bp X (.type "list") (liftC X dW):=by
 rintro Z0 s Z H xs us Q I r ⟨ds,M,QQ,rh,rp,h,up⟩
 unfold dW at h
 split at h
 .obtain⟨v,rfl,rv⟩:=eU (ds:=[]) rp
  split at h
  .rename_i ys e
   obtain⟨q,vs,rfl,hq,rr⟩:=iy rh rv e;exact qL _ s Z H _ us Q I r ⟨q,vs,rfl,hq,λp hp=>up _ _ (h p<|rh.fresh hp) _ _ (rh.put (by rw[hp];trivial) ⟨_,upd_same,rr.mono<|Imm.new hp⟩) (Frm.put<|.inl hp) rfl⟩
  trivial
 trivial
def bG:mR:=λf M Q=>match f with
 |[.tup xs]=>Q (.tup xs) M
 |[d]=>match cN M d with
  |some xs=>Q (.tup xs) M
  |none=>False
 |_=>False
theorem tH:bp X (.type "tuple") (liftC X bG):=by
 rintro w s Z H G y Q I r ⟨ds,M,QQ,j,E,h,C⟩
 unfold bG at h
 split at h
 .obtain⟨v,rfl,m⟩:=eU (ds:=[]) E
  obtain⟨q,f,rfl,z,o⟩:=m;exact gO _ s Z H _ y Q I r ⟨q,f,rfl,.inr ⟨z.sq,C _ M h _ H j Frm.refl ⟨q,f,rfl,z,o⟩⟩⟩
 .obtain⟨v,rfl,m⟩:=eU (ds:=[]) E
  split at h
  .rename_i J e
   obtain⟨q,f,rfl,F,o⟩:=cL j m e;exact gO _ s Z H _ y Q I r ⟨q,f,rfl,.inl ⟨.inl F,λp l=>C _ M h _ _ (j.new l) (Frm.new l) ⟨p,_,rfl,upd_same,o.mono<|Imm.new l⟩⟩⟩
  trivial
 trivial
def dE(M:Mem):D->Option String
 |.non=>ap "NoneType"
 |.bl _=>ap "bool"
 |.int _=>ap "int"
 |.str _=>ap "str"
 |.tup _=>ap "tuple"
 |.lst _=>ap "list"
 |.ref a=>match M a with
  |some (.lst _)=>ap "list"
  |some (.dK _)=>ap "dict"
  |some (.dT _)=>ap "dict"
  |_=>bb
 |_=>bb
noncomputable def bC(t T:String):Bool:=t==T||(t=="bool"&&T=="int")
noncomputable def lJ(T:String):Bool:=T=="bool"||T=="int"||T=="str"||T=="tuple"||T=="list"||T=="dict"
theorem JL:(∀K:SM,∀t∈["NoneType","bool","int","str","tuple","list","dict"],∀T∈["bool","int","str","tuple","list","dict"],W.kitOne K (.type t) (.type T)=ap (bC t T)):=by
 intro K t f T h;simp at f h;rcases f with rfl|rfl|rfl|rfl|rfl|rfl|rfl<;>rcases h with rfl|rfl|rfl|rfl|rfl|rfl<;>kernel_rfl
theorem Hu{d:D}{v:V}{t:String}(j:RepH K H M)(r:Rp K H d v)(e:dE M d=ap t):TyOf K H v (.type t)/\t∈["NoneType","bool","int","str","tuple","list","dict"]:=by
 cases d with
 |non=>cases r;cases e;exact⟨.non,by simp⟩
 |bl b=>cases r;cases e;exact⟨.bl b,by simp⟩
 |int i=>cases r;cases e;exact⟨.int i,by simp⟩
 |str x=>cases r;cases e;exact⟨.str x,by simp⟩
 |tup xs=>
  cases e;obtain⟨q,w,rfl,h,y⟩:=r;exact⟨.tup h,by simp⟩
 |lst xs=>
  cases e;obtain⟨q,w,rfl,⟨o,h⟩,y⟩:=r;exact⟨.frz h,by simp⟩
 |ref a=>
  cases r;simp[dE]at e
  split at e
  .rename_i q;cases e;obtain⟨m,f,l⟩:=j _ _ q;exact⟨.lst f,by simp⟩
  .rename_i q;cases e;obtain⟨m,f,l⟩:=j _ _ q;exact⟨.dK f,by simp⟩
  .rename_i q;cases e;obtain⟨m,f,l⟩:=j _ _ q;exact⟨.dT f,by simp⟩
  cases e
 |_=>cases e
def dw:mR:=λf M Q=>match f with
 |[d,.ty T]=>lJ T=true/\match dE M d with
  |some t=>Q (.bl<|bC t T) M
  |none=>False
 |_=>False
theorem sO:bp X (.builtin "isinstance") (liftC X dw):=by
 rintro j s Z H E o Q I r ⟨F,M,QQ,l,C,h,y⟩
 unfold dw at h
 split at h
 .rename_i d T
  obtain⟨m,h⟩:=h;obtain⟨v,w,rfl,z,f⟩:=J2 C;cases f
  split at h
  .rename_i t e
   obtain⟨ty,q⟩:=Hu l z e;refine vH _ s Z H _ o Q I r ⟨v,T,_,_,rfl,ty,JL _ t q T ?_,y _ M h _ H l Frm.refl rfl⟩;simp[lJ]at m;simp;rcases m with ((((h|h)|h)|h)|h)|h<;>simp[h]
  trivial
 trivial
def pQ:List D->Option (List Bool)
 |[]=>ap []
 |.bl b::ds=>match pQ ds with
  |some bs=>ap (b::bs)
  |none=>bb
 |_=>bb
theorem pF:∀{ds:List D}{vs:List V}{bs:List Bool},Rps K H ds vs->pQ ds=ap bs->vs=bs.map V.bl
 |[],vs,bs,r,e=>by cases e;exact r
 |d::ds,vs,bs,r,e=>by
  obtain⟨v,j,rfl,a,b⟩:=r;cases d with
  |bl c=>
   simp[pQ]at e
   split at e
   .rename_i f h
    cases e;cases a;rw[pF b h];rfl
   cases e
  |_=>cases e
def O5:mR:=λf M Q=>match f with
 |[d]=>match cN M d with
  |some xs=>match pQ xs with
   |some bs=>Q (.bl<|bs.all id) M
   |none=>False
  |none=>False
 |_=>False
theorem Da(F:X.calm=true):bp X (.builtin "all") (liftC X O5):=by
 rintro f s Z H G m Q I r ⟨ds,M,QQ,j,z,h,o⟩
 unfold O5 at h
 split at h
 .obtain⟨v,rfl,w⟩:=eU (ds:=[]) z
  split at h
  .rename_i L e
   split at h
   .rename_i bs E
    obtain⟨q,J,rfl,l,y⟩:=cL j w e;have C:=pF y E;subst C;exact DH F _ s Z H _ m Q I r ⟨q,bs,rfl,.inl l,o _ M h _ H j Frm.refl rfl⟩
   trivial
  trivial
 trivial
def Hh:mR:=λf M Q=>match f with
 |[.int i,.int j]=>Q (.int (if j<i then j else i)) M
 |_=>False
theorem Cd(z:X.calm=true):bp X (.builtin "min") (liftC X Hh):=by
 rintro j s Z H C l Q I r ⟨E,M,QQ,m,y,h,o⟩
 unfold Hh at h
 split at h
 .obtain⟨v,w,rfl,q,f⟩:=J2 y
  cases q;cases f;exact D8 z _ s Z H _ l Q I r ⟨_,_,rfl,o _ M h _ H m Frm.refl rfl⟩
 trivial
def IV:mR:=λf M Q=>match f with
 |[.int i,.int j]=>Q (.int (if j>i then j else i)) M
 |_=>False
theorem Ci(z:X.calm=true):bp X (.builtin "max") (liftC X IV):=by
 rintro j s Z H C l Q I r ⟨E,M,QQ,m,y,h,o⟩
 unfold IV at h
 split at h
 .obtain⟨v,w,rfl,q,f⟩:=J2 y
  cases q;cases f;exact Ce z _ s Z H _ l Q I r ⟨_,_,rfl,o _ M h _ H m Frm.refl rfl⟩
 trivial
end
mutual
def aR:D->D->Bool
 |.non,.non=>true
 |.bl a,.bl b=>a==b
 |.bl a,.int b=>(if a then 1 else 0)==b
 |.int a,.bl b=>a==(if b then 1 else 0)
 |.int a,.int b=>decide (a=b)
 |.str a,.str b=>decide (a=b)
 |.tup xs,.tup ys=>ii xs ys
 |.lst xs,.lst ys=>ii xs ys
 |_,_=>cp
def ii:List D->List D->Bool
 |[],[]=>true
 |x::xs,y::ys=>aR x y&&ii xs ys
 |_,_=>cp
end
mutual
def bT:Nat->D->Bool
 |_,.non=>true
 |_,.bl _=>true
 |_,.int _=>true
 |_,.str _=>true
 |n+1,.tup xs=>fits n xs
 |n+1,.lst xs=>fits n xs
 |_,_=>cp
def fits:Nat->List D->Bool
 |_,[]=>true
 |n,x::xs=>bT n x&&fits n xs
end
mutual
def Hr(h:fy):D->ay->Prop
 |.non,u=>u=.none
 |.bl b,u=>u=.bool b
 |.int i,u=>∃t,u=.int i t
 |.str x,u=>∃t,u=.str x t
 |.tup xs,u=>∃p Z6,u=.ref p/\h.IsTuple p (UZ Z6)/\Hrs h xs Z6
 |.lst xs,u=>∃p Z6,u=.ref p/\h.IsList p (UZ Z6)/\Hrs h xs Z6
 |_,_=>False
def Hrs(h:fy):List D->List ay->Prop
 |[],us=>us=[]
 |x::xs,us=>∃u r,us=u::r/\Hr h x u/\Hrs h xs r
end
section
variable{h:fy}
theorem Hrs.length:∀{ds:List D}{us:Z'},Hrs h ds us->ds.length=us.length
 |[],_,q=>by cases q;rfl
 |_::_,_,q=>by obtain⟨v,r,rfl,_,b⟩:=q;simp[b.length]
theorem Hrs.get:∀{ds:List D}{us:Z'},Hrs h ds us->∀(i:Nat)(h1:i<ds.length)(h2:i<us.length),Hr h ds[i] us[i]
 |[],_,_,i,h1,_=>absurd h1 (by trivial)
 |x::xs,_,q,i,h1,h2=>by
  obtain⟨v,r,rfl,a,b⟩:=q;cases i with
  |zero=>exact a
  |succ i=>exact b.get i _ _
theorem zW(x:h.IsTuple p a)(y:h.IsTuple p b):a=b:=by
 obtain⟨o,l,_,n,m⟩:=x;obtain⟨q,f,_,v,j⟩:=y
 simp_all
theorem BL(x:h.IsList p a)(y:h.IsList p b):a=b:=by
 obtain⟨o,l,_,n,m⟩:=x;obtain⟨q,f,_,v,j⟩:=y
 simp_all
theorem R5(x:h.IsList p a)(y:h.IsTuple p b):False:=by
 obtain⟨o,j,c,_⟩:=x;obtain⟨l,f,m,_⟩:=y
 simp_all
mutual
theorem El:∀{d e:D}{u:ay},Hr h d u->Hr h e u->d=e
 |.non,e,u,a,b=>by
  cases a;cases e with
  |non=>rfl
  |bl _=>cases b
  |int _=>obtain⟨t,q⟩:=b;cases q
  |str _=>obtain⟨t,q⟩:=b;cases q
  |tup _=>obtain⟨p,i,q,_⟩:=b;cases q
  |lst _=>obtain⟨p,i,q,_⟩:=b;cases q
  |_=>exact(show False from b).elim
 |.bl c,e,u,a,b=>by
  cases a;cases e with
  |non=>cases b
  |bl _=>cases b;rfl
  |int _=>obtain⟨t,q⟩:=b;cases q
  |str _=>obtain⟨t,q⟩:=b;cases q
  |tup _=>obtain⟨p,i,q,_⟩:=b;cases q
  |lst _=>obtain⟨p,i,q,_⟩:=b;cases q
  |_=>exact(show False from b).elim
 |.int c,e,u,a,b=>by
  obtain⟨t,rfl⟩:=a;cases e with
  |non=>cases b
  |bl _=>cases b
  |int _=>obtain⟨t,q⟩:=b;cases q;rfl
  |str _=>obtain⟨t,q⟩:=b;cases q
  |tup _=>obtain⟨p,i,q,_⟩:=b;cases q
  |lst _=>obtain⟨p,i,q,_⟩:=b;cases q
  |_=>exact(show False from b).elim
 |.str c,e,u,a,b=>by
  obtain⟨t,rfl⟩:=a;cases e with
  |non=>cases b
  |bl _=>cases b
  |int _=>obtain⟨t,q⟩:=b;cases q
  |str _=>obtain⟨t,q⟩:=b;cases q;rfl
  |tup _=>obtain⟨p,i,q,_⟩:=b;cases q
  |lst _=>obtain⟨p,i,q,_⟩:=b;cases q
  |_=>exact(show False from b).elim
 |.tup xs,e,u,a,b=>by
  obtain⟨p,Z6,rfl,t1,j⟩:=a;cases e with
  |non=>cases b
  |bl _=>cases b
  |int _=>obtain⟨t,q⟩:=b;cases q
  |str _=>obtain⟨t,q⟩:=b;cases q
  |tup ys=>
   obtain⟨p',its',q,t2,f⟩:=b;cases q;have e:=zW t1 t2;have l:Z6=its':=by simpa using congrArg VF e
   subst l;rw[iK j f]
  |lst ys=>obtain⟨p',its',q,t2,f⟩:=b;cases q;exact(R5 t2 t1).elim
  |_=>exact(show False from b).elim
 |.lst xs,e,u,a,b=>by
  obtain⟨p,Z6,rfl,t1,j⟩:=a;cases e with
  |non=>cases b
  |bl _=>cases b
  |int _=>obtain⟨t,q⟩:=b;cases q
  |str _=>obtain⟨t,q⟩:=b;cases q
  |lst ys=>
   obtain⟨p',its',q,t2,f⟩:=b;cases q;have e:=BL t1 t2;have l:Z6=its':=by simpa using congrArg VF e
   subst l;rw[iK j f]
  |tup ys=>obtain⟨p',its',q,t2,f⟩:=b;cases q;exact(R5 t1 t2).elim
  |_=>exact(show False from b).elim
 |.ty _,_,_,a,_=>(show False from a).elim
 |.ref _,_,_,a,_=>(show False from a).elim
 |.mt _,_,_,a,_=>(show False from a).elim
 |.ml _,_,_,a,_=>(show False from a).elim
 |.fd _ _,_,_,a,_=>(show False from a).elim
theorem iK:∀{ds es:List D}{us:Z'},Hrs h ds us->Hrs h es us->ds=es
 |[],es,us,a,b=>by
  cases a;cases es with
  |nil=>rfl
  |cons _ _=>obtain⟨v,r,q,_⟩:=b;cases q
 |d::ds,es,us,a,b=>by
  obtain⟨v,r,rfl,l,m⟩:=a;cases es with
  |nil=>cases b
  |cons e es=>
   obtain⟨o,w,q,j,f⟩:=b;cases q;rw[El l j,iK m f]
end
mutual
theorem Dw:∀{n:Nat}{d:D},bT n d=true->aR d d=true
 |_,.non,_=>by simp[aR]
 |_,.bl _,_=>by simp[aR]
 |_,.int _,_=>by simp[aR]
 |_,.str _,_=>by simp[aR]
 |0,.tup _,f=>by simp[bT]at f
 |0,.lst _,f=>by simp[bT]at f
 |n+1,.tup xs,f=>by rw[aR];exact eY (n:=n) f
 |n+1,.lst xs,f=>by rw[aR];exact eY (n:=n) f
 |_,.ty _,f=>by simp[bT]at f
 |_,.ref _,f=>by simp[bT]at f
 |_,.mt _,f=>by simp[bT]at f
 |_,.ml _,f=>by simp[bT]at f
 |_,.fd _ _,f=>by simp[bT]at f
theorem eY:∀{n:Nat}{ds:List D},fits n ds=true->ii ds ds=true
 |_,[],_=>by simp[ii]
 |n,x::xs,f=>by
  rw[fits,Uy]at f;rw[ii,Dw f.1,eY f.2];rfl
end
theorem dz:∀{xs ys:List D},xs.length≠ys.length->ii xs ys=cp
 |[],[],h=>absurd rfl h
 |[],_::_,_=>by simp[ii]
 |_::_,[],_=>by simp[ii]
 |x::xs,y::ys,h=>by rw[ii,dz (by simpa using h),VQ]
theorem ic:∀(xs ys:List D)(f:Nat->Bool),xs.length=ys.length->(∀j (h1:j<xs.length)(h2:j<ys.length),f j=aR xs[j] ys[j])->(Te xs.length).all f=ii xs ys
 |[],[],f,_,_=>by simp[ii]
 |[],_::_,_,h,_=>by simp at h
 |_::_,[],_,h,_=>by simp at h
 |x::xs,y::ys,f,h,hf=>by
  rw[Tt,List.range_succ_eq_map,List.all_cons,List.all_map,ii,<- (ic xs ys (λj=>f (j+1)) (by simpa using h)<|by simp_all)]
  rw[(hf 0 (by simp)<|by simp)]
  rfl
theorem dH:∀{n:Nat}{xs:List D},fits n xs=true->∀(j:Nat)(h1:j<xs.length),bT n xs[j]=true
 |_,[],_,j,h1=>absurd h1 (by trivial)
 |n,x::xs,f,j,h1=>by
  rw[fits,Uy]at f;cases j with
  |zero=>exact f.1
  |succ j=>exact dH f.2 j _
noncomputable def lN:D->Option V
 |.non=>ap .non
 |.bl b=>ap (.bl b)
 |.int i=>ap (.int i)
 |.str x=>ap (.str x)
 |_=>bb
theorem kd{d:D}{v:V}(e:lN d=ap v)(r:Hr h d u):RelV v u/\Ha v=true:=by
 cases d with
 |non=>cases e;trivial
 |bl b=>cases e;trivial
 |int b=>cases e;trivial
 |str b=>cases e;trivial
 |_=>cases e
theorem uL{d e:D}{v w:V}(j:lN d=ap v)(f:lN e=ap w):vX v w=aR d e:=by
 cases d with
 |non=>cases j;cases e with|non=>cases f;simp[vX,aR]|bl b=>cases f;simp[vX,aR]|int b=>cases f;simp[vX,aR]|str b=>cases f;simp[vX,aR]|_=>cases f
 |bl a=>cases j;cases e with|non=>cases f;simp[vX,aR]|bl b=>cases f;simp[vX,aR]|int b=>cases f;simp[vX,aR]|str b=>cases f;simp[vX,aR]|_=>cases f
 |int a=>cases j;cases e with|non=>cases f;simp[vX,aR]|bl b=>cases f;simp[vX,aR]|int b=>cases f;rfl|str b=>cases f;simp[vX,aR]|_=>cases f
 |str a=>cases j;cases e with|non=>cases f;simp[vX,aR]|bl b=>cases f;simp[vX,aR]|int b=>cases f;simp[vX,aR]|str b=>cases f;rfl|_=>cases f
 |_=>cases j
end
theorem L5:∀(n:Nat){A:g3}{s:ca}{d e:D}{u w:ay},Hr s.heap d u->Hr s.heap e w->bT n d=true->bT n e=true->A.units+n<n7->Wd A s u w (aR d e):=by
 intro n
 induction n with
 |zero=>
  intro A s d e u w l h fd N hu;have T:∃v,lN d=ap v:=by cases d<;>first|exact⟨_,rfl⟩|(simp[bT]at fd)
  have S:∃v,lN e=ap v:=by cases e<;>first|exact⟨_,rfl⟩|(simp[bT]at N)
  obtain⟨v1,J⟩:=T;obtain⟨v2,Q⟩:=S;obtain⟨a1,W⟩:=kd J l;obtain⟨a2,U⟩:=kd Q h;rw[<- uL J Q];exact Ei a1 a2 W U
 |succ n ih=>
  intro A s d e u w l h fd N hu;have f:A.units<cLine:=by lia
  have R:A.in1.units+n<cLine:=by show A.units+1+n<n7;lia
  by_cases T:∃v,lN d=ap v
  .obtain⟨v1,J⟩:=T
   obtain⟨a1,W⟩:=kd J l
   by_cases S:∃v,lN e=ap v
   .obtain⟨v2,Q⟩:=S
    obtain⟨a2,U⟩:=kd Q h;rw[<- uL J Q];exact Ei a1 a2 W U
   .cases e with
    |tup ys=>
     obtain⟨p,Z6,rfl,t,_⟩:=h;cases d with
     |non=>cases l;simp only[aR];exact .none_tuple t f
     |bl b=>cases l;simp only[aR];exact .bool_tuple b t f
     |int b=>obtain⟨o,rfl⟩:=l;simp only[aR];exact .int_tuple b o t f
     |str b=>obtain⟨o,rfl⟩:=l;simp only[aR];exact .str_tuple b o t f
     |_=>cases J
    |lst ys=>
     obtain⟨p,Z6,rfl,t,_⟩:=h;cases d with
     |non=>cases l;simp only[aR];exact .none_list t f
     |bl b=>cases l;simp only[aR];exact .bool_list b t f
     |int b=>obtain⟨o,rfl⟩:=l;simp only[aR];exact .int_list b o t f
     |str b=>obtain⟨o,rfl⟩:=l;simp only[aR];exact .str_list b o t f
     |_=>cases J
    |ty _=>exact(show False from h).elim
    |ref _=>exact(show False from h).elim
    |mt _=>exact(show False from h).elim
    |ml _=>exact(show False from h).elim
    |fd _ _=>exact(show False from h).elim
    |_=>exact absurd ⟨_,rfl⟩ S
  .cases d with
   |tup xs=>
    obtain⟨p,Z6,rfl,t1,F⟩:=l;cases e with
    |non=>cases h;simp only[aR];exact .tuple_none t1 f
    |bl b=>cases h;simp only[aR];exact .tuple_bool b t1 f
    |int b=>obtain⟨o,rfl⟩:=h;simp only[aR];exact .tuple_int b o t1 f
    |str b=>obtain⟨o,rfl⟩:=h;simp only[aR];exact .tuple_str b o t1 f
    |tup ys=>
     obtain⟨p',its',rfl,t2,E⟩:=h;rw[aR]
     by_cases O:p=p'
     .subst O
      have e':Z6=its':=by simpa using congrArg VF (zW t1 t2)
      subst e';rw[iK F E,eY (n:=n) N];exact .same _
     .refine .of_refs O ?_
      have l1:=F.length;have Y:=E.length;have G:∀j (z:j<Z6.toArray.size)(C:j<its'.toArray.size),Wd A.in1 s Z6.toArray[j] its'.toArray[j] (match xs[j]?,ys[j]? with|some x,ap y=>aR x y|_,_=>cp):=λj z C=>by
       have q:j<xs.length:=by rw[l1];simpa using z
       have m:j<ys.length:=by rw[Y];simpa using C
       rw[SG q,SG m];exact ih (F.get j q<|by simpa using z) (E.get j m<|by simpa using C) (dH fd j q) (dH N j m) R
      have:=XC (e:=λj=>match xs[j]?,ys[j]? with|some x,ap y=>aR x y|_,_=>cp) t1 t2 f G
      by_cases P:xs.length=ys.length
      .have I:Z6.toArray.size=its'.toArray.size:=by simp;lia
       rw[I]at this;simp only[XO,beq_self_eq_true,Xz]at this;have L:its'.toArray.size=xs.length:=by simp;lia
       rw[L,ic xs ys _ P (λj z C=>by rw[SG z,SG C])]at this
       exact this
      .have I:(Z6.toArray.size==its'.toArray.size)=false:=by simp;lia
       rw[I,VQ]at this;rw[dz P];exact this
    |lst ys=>obtain⟨p',its',rfl,t2,E⟩:=h;simp only[aR];exact .tuple_list t1 t2 f
    |_=>exact(show False from h).elim
   |lst xs=>
    obtain⟨p,Z6,rfl,t1,F⟩:=l;cases e with
    |non=>cases h;simp only[aR];exact .list_none t1 f
    |bl b=>cases h;simp only[aR];exact .list_bool b t1 f
    |int b=>obtain⟨o,rfl⟩:=h;simp only[aR];exact .list_int b o t1 f
    |str b=>obtain⟨o,rfl⟩:=h;simp only[aR];exact .list_str b o t1 f
    |lst ys=>
     obtain⟨p',its',rfl,t2,E⟩:=h;rw[aR]
     by_cases O:p=p'
     .subst O
      have e':Z6=its':=by simpa using congrArg VF (BL t1 t2)
      subst e';rw[iK F E,eY (n:=n) N];exact .same _
     .refine .of_refs O ?_
      have l1:=F.length;have Y:=E.length
      by_cases P:xs.length=ys.length
      .have G:∀j (z:j<Z6.toArray.size)(C:j<its'.toArray.size),Wd A.in1 s Z6.toArray[j] its'.toArray[j] (match xs[j]?,ys[j]? with|some x,ap y=>aR x y|_,_=>cp):=λj z C=>by
        have q:j<xs.length:=by rw[l1];simpa using z
        have m:j<ys.length:=by rw[Y];simpa using C
        rw[SG q,SG m];exact ih (F.get j q<|by simpa using z) (E.get j m<|by simpa using C) (dH fd j q) (dH N j m) R
       have:=XG (e:=λj=>match xs[j]?,ys[j]? with|some x,ap y=>aR x y|_,_=>cp) t1 t2 (by simp;lia) f G
       have L:Z6.toArray.size=xs.length:=by simp;lia
       rw[L,ic xs ys _ P (λj z C=>by rw[SG z,SG C])]at this
       exact this
      .rw[dz P]
       exact WM t1 t2 (by simp;lia) f
    |tup ys=>obtain⟨p',its',rfl,t2,E⟩:=h;simp only[aR];exact .list_tuple t1 t2 f
    |_=>exact(show False from h).elim
   |ty _=>exact(show False from l).elim
   |ref _=>exact(show False from l).elim
   |mt _=>exact(show False from l).elim
   |ml _=>exact(show False from l).elim
   |fd _ _=>exact(show False from l).elim
   |_=>exact absurd ⟨_,rfl⟩ T
theorem kj{xs ys:List D}(r1:Hrs s.heap xs Z6)(r2:Hrs s.heap ys its')(fd:fits n xs=true)(fe:fits n ys=true)(hu:A.units+n<n7):
  ∀j (h1:j<Z6.toArray.size)(h2:j<its'.toArray.size),Wd A s Z6.toArray[j] its'.toArray[j] (match xs[j]?,ys[j]? with|some x,ap y=>aR x y|_,_=>cp):=λj h1 h2=>by
 rw[SG (by rw[r1.length];trivial),SG (by rw[r2.length];trivial)]
 exact L5 n (r1.get j _ _) (r2.get j _ _) (dH fd j _) (dH fe j _) hu
theorem kz{xs ys:List D}(l:xs.length=ys.length):(Te xs.length).all (λj=>match xs[j]?,ys[j]? with|some x,ap y=>aR x y|_,_=>cp)=ii xs ys:=
 ic xs ys _ l (λj h f=>by rw[SG h,SG f])
theorem Oi{xs ys:List D}(t1:s.heap.IsTuple p Z6.toArray)(t2:s.heap.IsTuple p' its'.toArray)(m:Hrs s.heap xs Z6)(l:Hrs s.heap ys its')(fd:bT n (.tup xs)=true)(o:bT n (.tup ys)=true)(w:A.units+n<n7):
  X5 A s (.ref p) (.ref p') (aR (.tup xs)<|.tup ys):=by
 cases n with
 |zero=>trivial
 |succ n=>
  have v:=m.length;have q:=l.length;have:=XC (A:=A) t1 t2 (by lia) (kj m l fd o<|by show A.units+1+n<n7;lia)
  rw[aR]
  by_cases j:xs.length=ys.length
  .have f:Z6.toArray.size=its'.toArray.size:=by simp;lia
   rw[f]at this;simp only[XO,beq_self_eq_true,Xz]at this;have h:its'.toArray.size=xs.length:=by simp;lia
   rw[h,kz j]at this;exact this
  have f:(Z6.toArray.size==its'.toArray.size)=false:=by simp;lia
  rw[f,VQ]at this;rw[dz j];exact this
theorem OO{xs ys:List D}(t1:s.heap.IsList p Z6.toArray)(t2:s.heap.IsList p' its'.toArray)(l:Hrs s.heap xs Z6)(j:Hrs s.heap ys its')(fd:bT n (.lst xs)=true)(m:bT n (.lst ys)=true)(v:A.units+n<n7):
  X5 A s (.ref p) (.ref p') (aR (.lst xs)<|.lst ys):=by
 cases n with
 |zero=>trivial
 |succ n=>
  have o:=l.length;have q:=j.length;rw[aR]
  by_cases h:xs.length=ys.length
  .have:=XG (A:=A) t1 t2 (by simp;lia) (by lia) (kj l j fd m<|by show A.units+1+n<n7;lia)
   have f:Z6.toArray.size=xs.length:=by simp;lia
   rw[f,kz h]at this;exact this
  rw[dz h];exact WM t1 t2 (by simp;lia) (by lia)
theorem G5{xs ys:List D}(t1:s.heap.IsTuple p Z6.toArray)(t2:s.heap.IsTuple p' its'.toArray)(m:Hrs s.heap xs Z6)(l:Hrs s.heap ys its')(fd:bT n (.tup xs)=true)(o:bT n (.tup ys)=true)(w:A.units+n<n7):
  XB A s (.ref p) (.ref p') (!aR (.tup xs) (.tup ys)):=by
 cases n with
 |zero=>trivial
 |succ n=>
  have v:=m.length;have q:=l.length;have:=SeqAt.RcNeAt.tuples (A:=A) t1 t2 (by lia) (kj m l fd o<|by show A.units+1+n<n7;lia)
  rw[aR]
  by_cases j:xs.length=ys.length
  .have f:Z6.toArray.size=its'.toArray.size:=by simp;lia
   rw[f]at this;simp only[XO,beq_self_eq_true,Xz]at this;have h:its'.toArray.size=xs.length:=by simp;lia
   rw[h,kz j]at this;exact this
  have f:(Z6.toArray.size==its'.toArray.size)=false:=by simp;lia
  rw[f,VQ]at this;rw[dz j];exact this
theorem F9{xs ys:List D}(t1:s.heap.IsList p Z6.toArray)(t2:s.heap.IsList p' its'.toArray)(l:Hrs s.heap xs Z6)(j:Hrs s.heap ys its')(fd:bT n (.lst xs)=true)(m:bT n (.lst ys)=true)(v:A.units+n<n7):
  XB A s (.ref p) (.ref p') (!aR (.lst xs) (.lst ys)):=by
 cases n with
 |zero=>trivial
 |succ n=>
  have o:=l.length;have q:=j.length;rw[aR]
  by_cases h:xs.length=ys.length
  .have:=SeqAt.RcNeAt.lists (A:=A) t1 t2 (by simp;lia) (by lia) (kj l j fd m<|by show A.units+1+n<n7;lia)
   have f:Z6.toArray.size=xs.length:=by simp;lia
   rw[f,kz h]at this;exact this
  rw[dz h];exact SeqAt.RcNeAt.lists_lengths t1 t2 (by simp;lia) (by lia)
theorem Q6{d e:D}{w:ay}(z:Hr s.heap d u)(h:Hr s.heap e w)(fd:bT n d=true)(F:bT n e=true)(G:A.units+n<n7):X5 A s u w (aR d e):=by
 have j:A.units<cLine:=by lia
 cases d with
 |non=>
  cases z;cases e with
  |non=>
   cases h;simpa [aR,TL] using SeqAt.RcAt.none_none
  |bl y=>
   cases h;simpa [aR] using SeqAt.RcAt.none_bool y
  |int y=>
   obtain⟨f,rfl⟩:=h;simpa [aR] using SeqAt.RcAt.none_int y f
  |str y=>
   obtain⟨f,rfl⟩:=h;simpa [aR] using SeqAt.RcAt.none_str y f
  |tup y=>
   obtain⟨v,l,rfl,ty,o⟩:=h;simpa [aR] using SeqAt.RcAt.none_tuple ty j
  |lst y=>
   obtain⟨v,l,rfl,ty,o⟩:=h;simpa [aR] using SeqAt.RcAt.none_list ty j
  |_=>exact(show False from h).elim
 |bl x=>
  cases z;cases e with
  |non=>
   cases h;simpa [aR] using SeqAt.RcAt.bool_none x
  |bl y=>
   cases h;simpa [aR,TL] using SeqAt.RcAt.bool_bool x y
  |int y=>
   obtain⟨f,rfl⟩:=h;simpa [aR,TL] using SeqAt.RcAt.bool_int x y f
  |str y=>
   obtain⟨f,rfl⟩:=h;simpa [aR] using SeqAt.RcAt.bool_str x y f
  |tup y=>
   obtain⟨v,l,rfl,ty,o⟩:=h;simpa [aR] using SeqAt.RcAt.bool_tuple x ty j
  |lst y=>
   obtain⟨v,l,rfl,ty,o⟩:=h;simpa [aR] using SeqAt.RcAt.bool_list x ty j
  |_=>exact(show False from h).elim
 |int x=>
  obtain⟨m,rfl⟩:=z;cases e with
  |non=>
   cases h;simpa [aR] using SeqAt.RcAt.int_none x m
  |bl y=>
   cases h;simpa [aR,TL] using SeqAt.RcAt.int_bool x m y
  |int y=>
   obtain⟨f,rfl⟩:=h;simpa [aR,TL] using SeqAt.RcAt.int_int x m y f
  |str y=>
   obtain⟨f,rfl⟩:=h;simpa [aR] using SeqAt.RcAt.int_str x m y f
  |tup y=>
   obtain⟨v,l,rfl,ty,o⟩:=h;simpa [aR] using SeqAt.RcAt.int_tuple x m ty j
  |lst y=>
   obtain⟨v,l,rfl,ty,o⟩:=h;simpa [aR] using SeqAt.RcAt.int_list x m ty j
  |_=>exact(show False from h).elim
 |str x=>
  obtain⟨m,rfl⟩:=z;cases e with
  |non=>
   cases h;simpa [aR] using SeqAt.RcAt.str_none x m
  |bl y=>
   cases h;simpa [aR] using SeqAt.RcAt.str_bool x m y
  |int y=>
   obtain⟨f,rfl⟩:=h;simpa [aR] using SeqAt.RcAt.str_int x m y f
  |str y=>
   obtain⟨f,rfl⟩:=h;simpa [aR,TL] using SeqAt.RcAt.str_str x m y f
  |tup y=>
   obtain⟨v,l,rfl,ty,o⟩:=h;simpa [aR] using SeqAt.RcAt.str_tuple x m ty j
  |lst y=>
   obtain⟨v,l,rfl,ty,o⟩:=h;simpa [aR] using SeqAt.RcAt.str_list x m ty j
  |_=>exact(show False from h).elim
 |tup x=>
  obtain⟨I,C,rfl,q,E⟩:=z;cases e with
  |non=>
   cases h;simpa [aR] using SeqAt.RcAt.tuple_none q j
  |bl y=>
   cases h;simpa [aR] using SeqAt.RcAt.tuple_bool y q j
  |int y=>
   obtain⟨f,rfl⟩:=h;simpa [aR] using SeqAt.RcAt.tuple_int y f q j
  |str y=>
   obtain⟨f,rfl⟩:=h;simpa [aR] using SeqAt.RcAt.tuple_str y f q j
  |tup y=>
   obtain⟨v,l,rfl,ty,o⟩:=h;exact Oi q ty E o fd F G
  |lst y=>
   obtain⟨v,l,rfl,ty,o⟩:=h;simpa [aR] using SeqAt.RcAt.tuple_list q ty j
  |_=>exact(show False from h).elim
 |lst x=>
  obtain⟨I,C,rfl,q,E⟩:=z;cases e with
  |non=>
   cases h;simpa [aR] using SeqAt.RcAt.list_none q j
  |bl y=>
   cases h;simpa [aR] using SeqAt.RcAt.list_bool y q j
  |int y=>
   obtain⟨f,rfl⟩:=h;simpa [aR] using SeqAt.RcAt.list_int y f q j
  |str y=>
   obtain⟨f,rfl⟩:=h;simpa [aR] using SeqAt.RcAt.list_str y f q j
  |tup y=>
   obtain⟨v,l,rfl,ty,o⟩:=h;simpa [aR] using SeqAt.RcAt.list_tuple q ty j
  |lst y=>
   obtain⟨v,l,rfl,ty,o⟩:=h;exact OO q ty E o fd F G
  |_=>exact(show False from h).elim
 |_=>exact(show False from z).elim
theorem IE{d e:D}{w:ay}(z:Hr s.heap d u)(h:Hr s.heap e w)(fd:bT n d=true)(F:bT n e=true)(G:A.units+n<n7):XB A s u w (!aR d e):=by
 have j:A.units<cLine:=by lia
 cases d with
 |non=>
  cases z;cases e with
  |non=>
   cases h;simpa [aR,TL] using SeqAt.RcNeAt.none_none
  |bl y=>
   cases h;simpa [aR] using SeqAt.RcNeAt.none_bool y
  |int y=>
   obtain⟨f,rfl⟩:=h;simpa [aR] using SeqAt.RcNeAt.none_int y f
  |str y=>
   obtain⟨f,rfl⟩:=h;simpa [aR] using SeqAt.RcNeAt.none_str y f
  |tup y=>
   obtain⟨v,l,rfl,ty,o⟩:=h;simpa [aR] using SeqAt.RcNeAt.none_tuple ty j
  |lst y=>
   obtain⟨v,l,rfl,ty,o⟩:=h;simpa [aR] using SeqAt.RcNeAt.none_list ty j
  |_=>exact(show False from h).elim
 |bl x=>
  cases z;cases e with
  |non=>
   cases h;simpa [aR] using SeqAt.RcNeAt.bool_none x
  |bl y=>
   cases h;simpa [aR,TL] using SeqAt.RcNeAt.bool_bool x y
  |int y=>
   obtain⟨f,rfl⟩:=h;simpa [aR,TL] using SeqAt.RcNeAt.bool_int x y f
  |str y=>
   obtain⟨f,rfl⟩:=h;simpa [aR] using SeqAt.RcNeAt.bool_str x y f
  |tup y=>
   obtain⟨v,l,rfl,ty,o⟩:=h;simpa [aR] using SeqAt.RcNeAt.bool_tuple x ty j
  |lst y=>
   obtain⟨v,l,rfl,ty,o⟩:=h;simpa [aR] using SeqAt.RcNeAt.bool_list x ty j
  |_=>exact(show False from h).elim
 |int x=>
  obtain⟨m,rfl⟩:=z;cases e with
  |non=>
   cases h;simpa [aR] using SeqAt.RcNeAt.int_none x m
  |bl y=>
   cases h;simpa [aR,TL] using SeqAt.RcNeAt.int_bool x m y
  |int y=>
   obtain⟨f,rfl⟩:=h;simpa [aR,TL] using SeqAt.RcNeAt.int_int x m y f
  |str y=>
   obtain⟨f,rfl⟩:=h;simpa [aR] using SeqAt.RcNeAt.int_str x m y f
  |tup y=>
   obtain⟨v,l,rfl,ty,o⟩:=h;simpa [aR] using SeqAt.RcNeAt.int_tuple x m ty j
  |lst y=>
   obtain⟨v,l,rfl,ty,o⟩:=h;simpa [aR] using SeqAt.RcNeAt.int_list x m ty j
  |_=>exact(show False from h).elim
 |str x=>
  obtain⟨m,rfl⟩:=z;cases e with
  |non=>
   cases h;simpa [aR] using SeqAt.RcNeAt.str_none x m
  |bl y=>
   cases h;simpa [aR] using SeqAt.RcNeAt.str_bool x m y
  |int y=>
   obtain⟨f,rfl⟩:=h;simpa [aR] using SeqAt.RcNeAt.str_int x m y f
  |str y=>
   obtain⟨f,rfl⟩:=h;simpa [aR,TL] using SeqAt.RcNeAt.str_str x m y f
  |tup y=>
   obtain⟨v,l,rfl,ty,o⟩:=h;simpa [aR] using SeqAt.RcNeAt.str_tuple x m ty j
  |lst y=>
   obtain⟨v,l,rfl,ty,o⟩:=h;simpa [aR] using SeqAt.RcNeAt.str_list x m ty j
  |_=>exact(show False from h).elim
 |tup x=>
  obtain⟨I,C,rfl,q,E⟩:=z;cases e with
  |non=>
   cases h;simpa [aR] using SeqAt.RcNeAt.tuple_none q j
  |bl y=>
   cases h;simpa [aR] using SeqAt.RcNeAt.tuple_bool y q j
  |int y=>
   obtain⟨f,rfl⟩:=h;simpa [aR] using SeqAt.RcNeAt.tuple_int y f q j
  |str y=>
   obtain⟨f,rfl⟩:=h;simpa [aR] using SeqAt.RcNeAt.tuple_str y f q j
  |tup y=>
   obtain⟨v,l,rfl,ty,o⟩:=h;exact G5 q ty E o fd F G
  |lst y=>
   obtain⟨v,l,rfl,ty,o⟩:=h;simpa [aR] using SeqAt.RcNeAt.tuple_list q ty j
  |_=>exact(show False from h).elim
 |lst x=>
  obtain⟨I,C,rfl,q,E⟩:=z;cases e with
  |non=>
   cases h;simpa [aR] using SeqAt.RcNeAt.list_none q j
  |bl y=>
   cases h;simpa [aR] using SeqAt.RcNeAt.list_bool y q j
  |int y=>
   obtain⟨f,rfl⟩:=h;simpa [aR] using SeqAt.RcNeAt.list_int y f q j
  |str y=>
   obtain⟨f,rfl⟩:=h;simpa [aR] using SeqAt.RcNeAt.list_str y f q j
  |tup y=>
   obtain⟨v,l,rfl,ty,o⟩:=h;simpa [aR] using SeqAt.RcNeAt.list_tuple q ty j
  |lst y=>
   obtain⟨v,l,rfl,ty,o⟩:=h;exact F9 q ty E o fd F G
  |_=>exact(show False from h).elim
 |_=>exact(show False from z).elim
section
variable{Z0:aae}
mutual
theorem DR(I:Inv X Z0 Z H s):∀{n:Nat}{d:D}{v:V}{u:ay},bT n d=true->Rp X.K H d v->RelV v u->Hr s.heap d u
 |_,.non,v,u,_,r,q=>by cases r;exact q
 |_,.bl _,v,u,_,r,q=>by cases r;exact q
 |_,.int _,v,u,_,r,q=>by cases r;exact q
 |_,.str _,v,u,_,r,q=>by cases r;exact q
 |n+1,.tup xs,v,u,f,r,q=>by
  obtain⟨p,l,rfl,t,r⟩:=r;cases q;obtain⟨Z6,j,h,_⟩:=I.tuple t.sq;exact⟨p,Z6,rfl,h,fO I (n:=n) f r j⟩
 |n+1,.lst xs,v,u,f,r,q=>by
  obtain⟨p,l,rfl,t,r⟩:=r;cases q;obtain⟨Z6,j,h,_⟩:=I.list t.sq;exact⟨p,Z6,rfl,h.isList,fO I (n:=n) f r j⟩
 |0,.tup _,_,_,f,_,_=>by simp[bT]at f
 |0,.lst _,_,_,f,_,_=>by simp[bT]at f
 |_,.ty _,_,_,f,_,_=>by simp[bT]at f
 |_,.ref _,_,_,f,_,_=>by simp[bT]at f
 |_,.mt _,_,_,f,_,_=>by simp[bT]at f
 |_,.ml _,_,_,f,_,_=>by simp[bT]at f
 |_,.fd _ _,_,_,f,_,_=>by simp[bT]at f
theorem fO(I:Inv X Z0 Z H s):∀{n:Nat}{ds:List D}{vs:List V}{us:Z'},fits n ds=true->Rps X.K H ds vs->Vals vs us->Hrs s.heap ds us
 |_,[],vs,us,_,r,q=>by cases r;cases q;rfl
 |n,d::ds,vs,us,f,r,q=>by
  obtain⟨v,h,rfl,a,b⟩:=r;rw[fits,Uy]at f;cases q with
  |cons q1 q2=>exact⟨_,_,rfl,DR I f.1 a q1,fO I f.2 b q2⟩
end
def dv(M:Mem):D->D
 |.ref a=>match M a with
  |some (.lst xs)=>.lst xs
  |_=>.ref a
 |d=>d
theorem pN(I:Inv X Z0 Z H s){d:D}{v:V}(o:RepH X.K H M)(f:bT n (dv M d)=true)(r:Rp X.K H d v)(q:RelV v u):Hr s.heap (dv M d) u:=by
 cases d with
 |ref a=>
  cases r;simp[dv]at f ⊢
  split at f
  .rename_i y e
   obtain⟨w,j,m⟩:=o _ _ e;obtain⟨Z6,h,l,_⟩:=I.list (SqL.of j);cases q;cases n with
   |zero=>trivial
   |succ n=>exact⟨a,_,rfl,l.isList,fO I f m h⟩
  trivial
 |_=>exact DR I f r q
def bM:fL:=λx y M Q=>bT 60 (dv M x)=true/\bT 60 (dv M y)=true/\Q (.bl<|aR (dv M x)<|dv M y) M
def sS:fL:=λx y M Q=>bT 60 (dv M x)=true/\bT 60 (dv M y)=true/\Q (.bl<|!aR (dv M x) (dv M y)) M
theorem Fb(F:X.A.units+64<n7):cD X (kc .Eq) (liftR2 X bM):=by
 rintro Z0 s Z H x y v u Q I z q ⟨C,E,M,QQ,f,m,w,⟨j,l,h⟩,o⟩
 exact Q6 (pN I f j m z) (pN I f l w q) j l (by lia) _ _ _ _ ⟨.bl _,H,I,rfl,o _ M h _ H f Frm.refl rfl⟩
theorem MH(F:X.A.units+64<n7):cD X (kc .NotEq) (liftR2 X sS):=by
 rintro Z0 s Z H x y v u Q I z q ⟨C,E,M,QQ,f,m,w,⟨j,l,h⟩,o⟩
 exact IE (pN I f j m z) (pN I f l w q) j l (by lia) _ _ _ _ ⟨.bl _,H,I,rfl,o _ M h _ H f Frm.refl rfl⟩
open Classical in
noncomputable def La(h:fy)(x:D)(u:ay):Bool:=if q:∃d,Hr h d u then aR q.choose x else cp
theorem Ea{h:fy}{x d:D}(r:Hr h d u):La h x u=aR d x:=by
 have q:∃d,Hr h d u:=⟨d,r⟩;unfold La;rw[dif_pos q,El q.choose_spec r]
theorem ip{h:fy}{x:D}:∀{ds:List D}{us:Z'},Hrs h ds us->us.any (La h x)=ds.any λd=>aR d x
 |[],_,r=>by cases r;rfl
 |d::ds,_,r=>by
  obtain⟨v,f,rfl,a,b⟩:=r;rw[Vo,Vo,Ea a,ip b]
theorem iD{A:g3}{n:Nat}{x:D}{w:ay}(m:Hr s.heap x w)(l:bT n x=true)(j:A.units+n<n7):∀{ds:List D}{us:Z'},Hrs s.heap ds us->fits n ds=true->∀u∈us,Wd A s u w (La s.heap x u)
 |[],_,r,_,u,j=>by cases r;cases j
 |d::ds,_,r,f,u,h=>by
  obtain⟨v,o,rfl,a,b⟩:=r;rw[fits,Uy]at f;rcases SQ.mp h with rfl|h
  .rw[Ea a];exact L5 n a m f.1 l j
  exact iD m l j b f.2 u h
def j8(M:Mem)(x y:D):Option Bool:=match aM M y with
 |some xs=>if bT 60 (dv M x)=true/\fits 60 xs=true then ap (xs.any λd=>aR d (dv M x)) else bb
 |none=>match y with
  |.ref a=>match tL M a x with
   |some o=>ap o.isSome
   |none=>bb
  |_=>bb
def tW:fL:=λx y M Q=>match j8 M x y with
 |some k=>Q (.bl k) M
 |none=>False
def xj:fL:=λx y M Q=>match j8 M x y with
 |some k=>Q (.bl<|!k) M
 |none=>False
theorem DZ(U:X.A.units+64<n7):cD X (kc .In) (liftR2 X tW):=by
 rintro Z0 s Z H x y v u Q I q E ⟨G,T,M,QQ,l,z,F,h,L⟩
 unfold tW at h
 split at h
 .rename_i k e
  have fin:=L _ M h _ H l Frm.refl rfl;unfold j8 at e
  split at e
  .rename_i R P
   split at e
   .rename_i f
    cases e;obtain⟨p,S,rfl,hq,r⟩:=iy l F P;cases E;have C:=pN I l f.1 z q;rcases hq with hq|hq
    .obtain⟨Z6,m,pl,_⟩:=I.list hq
     have j:=fO I f.2 r m;refine SeqAt.in_listAt _ pl.isList (λw O=>iD C f.1 (by show X.A.units+1+60<n7;lia) j f.2 w (by simp_all)) ⟨.bl _,H,I,rfl,?_⟩
     rw[show Z6.toArray.any _=Z6.any (La s.heap<|dv M G) by simp,ip j]
     exact fin
    obtain⟨Z6,m,pl,_⟩:=I.tuple hq;have j:=fO I f.2 r m;refine SeqAt.in_tupleAt _ pl (λw O=>iD C f.1 (by show X.A.units+1+60<n7;lia) j f.2 w (by simp_all)) ⟨.bl _,H,I,rfl,?_⟩
    rw[show Z6.toArray.any _=Z6.any (La s.heap<|dv M G) by simp,ip j]
    exact fin
   cases e
  split at e
  .split at e
   .rename_i o N
    cases e;cases F;cases E;rcases qt l z N with⟨rfl,g⟩|⟨d,w,rfl,g,_⟩
    .exact Re (by lia) I g q λJ I'=>⟨.bl _,H,I',rfl,fin⟩
    exact Re (by lia) I g q λJ I'=>⟨.bl _,H,I',rfl,fin⟩
   cases e
  cases e
 trivial
theorem CY(U:X.A.units+64<n7):cD X (kc .NotIn) (liftR2 X xj):=by
 rintro Z0 s Z H x y v u Q I q E ⟨G,T,M,QQ,l,z,F,h,L⟩
 unfold xj at h
 split at h
 .rename_i k e
  have fin:=L _ M h _ H l Frm.refl rfl;unfold j8 at e
  split at e
  .rename_i R P
   split at e
   .rename_i f
    cases e;obtain⟨p,S,rfl,hq,r⟩:=iy l F P;cases E;have C:=pN I l f.1 z q;rcases hq with hq|hq
    .obtain⟨Z6,m,pl,_⟩:=I.list hq
     have j:=fO I f.2 r m;refine SeqAt.notIn_listAt _ pl.isList (λw O=>iD C f.1 (by show X.A.units+1+60<n7;lia) j f.2 w (by simp_all)) ⟨.bl _,H,I,rfl,?_⟩
     rw[show Z6.toArray.any _=Z6.any (La s.heap<|dv M G) by simp,ip j]
     exact fin
    obtain⟨Z6,m,pl,_⟩:=I.tuple hq;have j:=fO I f.2 r m;refine SeqAt.notIn_tupleAt _ pl (λw O=>iD C f.1 (by show X.A.units+1+60<n7;lia) j f.2 w (by simp_all)) ⟨.bl _,H,I,rfl,?_⟩
    rw[show Z6.toArray.any _=Z6.any (La s.heap<|dv M G) by simp,ip j]
    exact fin
   cases e
  split at e
  .split at e
   .rename_i o N
    cases e;cases F;cases E;rcases qt l z N with⟨rfl,g⟩|⟨d,w,rfl,g,_⟩
    .exact yV (by lia) I g q λJ I'=>⟨.bl _,H,I',rfl,fin⟩
    exact yV (by lia) I g q λJ I'=>⟨.bl _,H,I',rfl,fin⟩
   cases e
  cases e
 trivial
end
structure DEnds where
 nx:Dl->Mem->Prop
 rt:DK
 bk:Dl->Mem->Prop:=λ_ _=>False
 ct:Dl->Mem->Prop:=λ_ _=>False
abbrev ar:=DEnds->Dl->Mem->Prop
def UpN(X:Cx)(B:Bd)(M:Mem)(H:Hp)(QQ:Dl->Mem->Prop)(Q:_2.St->Hp->Prop):Prop:=∀U M',QQ U M'->∀Z H',Frm M H M' H'->SR X B U M' Z H'->Q Z H'
theorem UpN.go{M1:Mem}{H1:Hp}{QQ:Dl->Mem->Prop}{Q:_2.St->Hp->Prop}(u:UpN X B M H QQ Q)(i:Frm M H M1 H1):UpN X B M1 H1 QQ Q:=λU M q Z H' a=>u U M q Z H' (i.trans a)
structure UpD(X:Cx)(B:Bd)(M:Mem)(H:Hp)(DD:DEnds)(D:Ends):Prop where
 nx:UpN X B M H DD.nx D.nx
 rt:Up X.K M H DD.rt D.rt
 bk:UpN X B M H DD.bk D.bk
 ct:UpN X B M H DD.ct D.ct
theorem UpD.go{M1:Mem}{H1:Hp}{DD:DEnds}{D:Ends}(u:UpD X B M H DD D)(i:Frm M H M1 H1):UpD X B M1 H1 DD D:=⟨u.nx.go i,u.rt.go i,u.bk.go i,u.ct.go i⟩
inductive liftS(X:Cx)(B:Bd)(T:ar)(D:Ends)(Z:St)(H:Hp):Prop
 |mk (U:Dl) (M:Mem) (DD:DEnds) (s:SR X B U M Z H) (h:T DD U M) (u:UpD X B M H DD D):liftS X B T D Z H
def DS(X:Cx)(B:Bd)(st:q0)(T:ar):Prop:=PS X st (liftS X B T)
def B9(X:Cx)(B:Bd)(st:aac)(T:ar):Prop:=zr X st (liftS X B T)
section
variable{st:q0}{rest:aac}{t u:ar}
def aB:ar:=λD U M=>D.nx U M
def ah(t u:ar):ar:=λD U M=>t { D with nx:=u D } U M
theorem Iq:B9 X B [] aB:=nT Kr (by rintro D Z H ⟨U,M,DD,s,h,f⟩;exact f.nx U M h Z H Frm.refl s)
theorem eM(v:DS X B st t)(o:B9 X B rest u):B9 X B (st::rest) (ah t u):=by
 refine nT (Ft v o) ?_
 rintro D Z H ⟨U,M,DD,s,h,f⟩
 exact⟨U,M,_,s,h,⟨λj M' q l H' i m=>⟨_,M',DD,m,q,f.go i⟩,f.rt,f.bk,f.ct⟩⟩
theorem gB(f:DS X B st t):B9 X B [st] t:=Je f
def bn(te:b6):ar:=λD U M=>te U M λ_ M1=>D.nx U M1
theorem JR(l:DE X B e te)(m:re e bb pos.line X.env=pure false:=by rfl):DS X B (.Expr e pos) (bn te):=by
 refine bR (HW l m) ?_
 rintro D Z H ⟨U,M,DD,s,h,j⟩
 exact⟨U,M,_,s,h,λd M' q v H' f i r=>j.nx U M' q Z H' i (s.go f i)⟩
def az(te:b6):ar:=λD U M=>te U M D.rt
theorem Nz(j:DE X B e te):DS X B (.Return (ap e) pos) (az te):=by
 refine bR (Mn j) ?_
 rintro D Z H ⟨U,M,DD,s,h,f⟩
 exact⟨U,M,_,s,h,f.rt⟩
def aG(c:eW)(t u:ar):ar:=λD U M=>c U M λb M1=>if b=true then t D U M1 else u D U M1
theorem Q8{a b:aac}{f:eW}(o:DT X B c f)(m:B9 X B a t)(v:B9 X B b u):DS X B (.If c a b pos) (aG f t u):=by
 refine bR (Qp o m v) ?_
 rintro D Z H ⟨U,M,DD,s,h,l⟩
 refine⟨U,M,_,s,h,λc M' q H' j i=>?_⟩;cases c with
 |_=>exact⟨U,M',DD,s.go j i,q,l.go i⟩
abbrev je:=D->Dl->Mem->(Dl->Mem->Prop)->Prop
abbrev oN:=List D->Dl->Mem->(Dl->Mem->Prop)->Prop
inductive liftG(X:Cx)(B:Bd)(g:je)(v:V)(Z:St)(H:Hp)(Q:St->Hp->Prop):Prop
 |mk (d:_3.D) (U:Dl) (M:Mem) (QQ:Dl->Mem->Prop) (s:SR X B U M Z H) (r:Rp X.K H d v) (h:g d U M QQ) (u:UpN X B M H QQ Q):liftG X B g v Z H Q
inductive liftGs(X:Cx)(B:Bd)(g:oN)(vs:List V)(Z:St)(H:Hp)(Q:St->Hp->Prop):Prop
 |mk (ds:List _3.D) (U:Dl) (M:Mem) (QQ:Dl->Mem->Prop) (s:SR X B U M Z H) (r:Rps X.K H ds vs) (h:g ds U M QQ) (u:UpN X B M H QQ Q):liftGs X B g vs Z H Q
def DG(X:Cx)(B:Bd)(tg:fv)(g:je):Prop:=PG X tg (liftG X B g)
def Ry(X:Cx)(B:Bd)(tgs:aab)(g:oN):Prop:=Of X tgs (liftGs X B g)
theorem kQ{t t':TG}(h:PG X tg t)(w:∀v Z H Q,t' v Z H Q->t v Z H Q):PG X tg t':=λf s Z H v u Q I r q=>h _ s Z H v u Q I r (w v Z H Q q)
theorem uo{tg:aab}{t t':L8}(h:Of X tg t)(w:∀v Z H Q,t' v Z H Q->t v Z H Q):Of X tg t':=λf s Z H v u Q I r q=>h _ s Z H v u Q I r (w v Z H Q q)
theorem SR.set{U:Dl}{d:D}{v:V}(s:SR X B U M Z H)(r:Rp X.K H d v):SR X B (U.set i<|some d) M (Z.set i<|some v) H:=⟨s.i0,s.rh,s.rs.set r⟩
def ag(i:Nat):je:=λd U M Q=>Q (U.set i<|some d) M
theorem Ie(j:X.N.Nodup)(l:X.N[i]?=ap x)(f:Dh X.env.scope x)(m:X.fn x=true\/X.env.scope.names.lookup x=ap .local:=by and_intros):DG X B (.Name x pos) (ag i):=by
 refine kQ (Ic j l f m) ?_
 rintro v Z H Q ⟨d,U,M,QQ,s,r,h,u⟩
 exact u _ M h _ H Frm.refl (s.set r)
def cO:oN:=λf U M Q=>match f with
 |[]=>Q U M
 |_=>False
def aL(t:je)(u:oN):oN:=λh U M Q=>match h with
 |d::r=>t d U M λf M'=>u r f M' Q
 |[]=>False
theorem JG:Ry X B [] cO:=by
 refine uo IY ?_
 rintro v Z H Q ⟨f,U,M,QQ,s,r,h,u⟩
 cases f with
 |nil=>exact⟨r,u U M h Z H Frm.refl s⟩
 |cons _ _=>trivial
theorem Ed{t:je}{u:oN}(E:DG X B e t)(C:Ry X B es u)(F:(oD (e::es) X.env).map (·.2)=Zj e X.env::(oD es X.env).map (·.2):=by rfl):Ry X B (e::es) (aL t u):=by
 refine uo (DC E C F) ?_
 rintro v Z H Q ⟨f,U,M,QQ,s,r,h,y⟩
 cases f with
 |nil=>trivial
 |cons d f=>
  obtain⟨v1,o,rfl,j,z⟩:=r;exact⟨v1,o,rfl,d,U,M,_,s,j,h,λl M' q m H' i w=>⟨f,_,M',QQ,w,z.mf s.rh i,q,y.go i⟩⟩
def cX(n:Nat)(t:oN):je:=λd U M Q=>match d with
 |.tup xs=>xs.length=n/\t xs U M Q
 |_=>False
theorem Mu{k:Nat}{t:oN}(m:X.calm=true)(h:Ry X B es t)(o:(oD es X.env).length=n:=by rfl)(hst:(oD es X.env).findIdx? (·.1)=none:=by rfl):DG X B (.Tuple es k pos) (cX n t):=by
 refine kQ (NS m h o hst) ?_
 rintro v Z H Q ⟨d,U,M,QQ,s,r,h,f⟩
 cases d with
 |tup xs=>
  obtain⟨p,j,rfl,l,r⟩:=r;exact⟨p,j,rfl,l.sq,by rw[<- r.length];exact h.1,xs,U,M,QQ,s,r,h.2,f⟩
 |_=>exact h.elim
def aq(te:b6)(g:je):ar:=λD U M=>te U M λx M1=>g x U M1 D.nx
theorem O8(m:DE X B e te)(l:DG X B tg g)(o:swapsWithSole [tg] e pos.line X.env=pure false:=by rfl)(hw:swappedStores [tg] e X.env=pure none:=by rfl)(h1:(oD [tg] X.env).map (·.2)=[Zj tg X.env]:=by rfl):DS X B (.Assign [tg] e pos) (aq te g):=by
 refine bR (PB m l o hw h1) ?_
 rintro D Z H ⟨U,M,DD,s,h,j⟩
 exact⟨U,M,_,s,h,λd M' q v H' f i r=>⟨d,U,M',_,s.go f i,r,q,j.nx.go i⟩⟩
theorem NX(y:X.N.Nodup)(l:X.N[i]?=ap x)(m:Dh X.env.scope x)(o:DE X B e te)(w:re e (ap<|.Name x pos') pos.line X.env=pure false:=by rfl)(hf:X.fn x=true\/X.env.scope.names.lookup x=ap .local:=by and_intros):
  DS X B (.Assign [.Name x pos'] e pos) (aq te<|ag i):=by
 refine bR (Ms y l m o w hf) ?_
 rintro D Z H ⟨U,M,DD,s,h,j⟩
 exact⟨U,M,_,s,h,λd M' q v H' f i r=>j.nx _ M' q _ H' i ((s.go f i).set r)⟩
def FW(i:Nat)(te:b6)(r:fL):ar:=λD U M=>match U[i]? with
 |some (ap x)=>te U M λy M1=>r x y M1 λz M2=>D.nx (U.set i<|some z) M2
 |_=>False
theorem NW{op:WP}{r:fL}(Q:X.N.Nodup)(J:X.N[i]?=ap x)(L:Dh X.env.scope x)(P:DE X B e te)(O:MR X op (liftR2 X r))(R:X.fn x=true\/X.env.scope.names.lookup x=ap .local:=by and_intros):
  DS X B (.AugAssign (.Name x pos') op e pos) (FW i te r):=by
 refine bR (P3 Q J L P O R) ?_
 rintro D Z H ⟨U,M,DD,s,h,E⟩
 unfold FW at h
 split at h
 .rename_i l I
  obtain⟨v,o,F⟩:=s.rs.get i l I;exact⟨v,o,U,M,_,s,h,λy M1 q w H1 j i1 m=>⟨l,y,M1,_,j,F.mf s.rh i1,m,q,λz M2 C S H2 f i2 G=>E.nx _ M2 C _ H2 (i1.trans i2) ((s.go f<|i1.trans i2).set G)⟩⟩
 trivial
theorem R8{op:WP}{g:Int->Int->Int}(h:MR X op (ipI g)):MR X op (liftR2 X (lL λi j=>.int (g i j))):=by
 rintro l s Z H x y v u Q I C w ⟨E,F,M,QQ,o,m,z,f,q⟩
 unfold lL at f
 split at f
 .cases m;cases z
  exact h _ s Z H _ _ v u Q I C w ⟨_,_,rfl,rfl,q _ M f _ H o Frm.refl rfl⟩
 trivial
abbrev DN:fL:=lL λi j=>.int (i+j)
theorem HZ:MR X .Add (liftR2 X DN):=R8 Nw
def sW(o i v:D)(M:Mem)(Q:Mem->Prop):Prop:=match o with
 |.ref a=>match M a,i with
  |some (.lst xs),.int k=>match wX xs.length k with
   |some j=>Q (M.upd a<|.lst<|xs.set j v)
   |none=>False
  |some (.dK Z2),y=>match cA y with
   |some k=>Z2.length<sizeLine/\Q (M.upd a<|.dK<|dL Z2 k v)
   |none=>False
  |some (.dT Z2),y=>match Cr y with
   |some k=>Z2.length<sizeLine/\Q (M.upd a<|.dT<|dL Z2 k v)
   |none=>False
  |_,_=>False
 |_=>False
inductive liftSet(X:Cx)(o i v:V)(H:Hp)(Q:Hp->Prop):Prop
 |mk (d1 d2 d3:_3.D) (M:Mem) (QQ:Mem->Prop) (rh:RepH X.K H M) (r1:Rp X.K H d1 o) (r2:Rp X.K H d2 i) (r3:Rp X.K H d3 v) (h:sW d1 d2 d3 M QQ) (u:∀M',QQ M'->∀H',RepH X.K H' M'->Frm M H M' H'->Q H'):liftSet X o i v H Q
theorem Jp(hu:X.A.units+1<n7):OM X (liftSet X):=by
 rintro Z0 s Z H o i v ov iv u Q I ro ri rv ⟨d1,d2,d3,M,QQ,rh,r1,r2,r3,h,up⟩
 unfold sW at h
 split at h
 .rename_i a
  cases r1;cases ro
  split at h
  .rename_i xs k hM
   cases r2;obtain⟨vs,h1,h2⟩:=rh _ _ hM
   split at h
   .rename_i j ej
    refine Ge _ s Z H (.ref a) _ v _ iv u Q I rfl ri rv ⟨a,vs,k,j,rfl,rfl,h1,by rw[<- h2.length];exact ej,?_⟩
    exact up _ h _ (rh.put (by rw[h1];trivial) ⟨_,upd_same,(h2.set r3 j).mono<|Imm.upd<|by rw[h1];trivial⟩) (Frm.put<|.inr ⟨_,hM⟩)
   trivial
  .rename_i Z2 hM
   obtain⟨ws,h1,h2⟩:=rh _ _ hM
   split at h
   .rename_i k ek
    have ev:=gy r2 ek;subst ev;refine pS hu I (DPut.k h1<|by rw[<- h2.length];exact h.1) ri rv λs' I'=>⟨_,I',?_⟩
    exact up _ h.2 _ (rh.put (by rw[h1];trivial) ⟨_,upd_same,(h2.put k r3).mono<|Imm.upd<|by rw[h1];trivial⟩) (Frm.put<|.inr ⟨_,hM⟩)
   trivial
  .rename_i Z2 hM
   obtain⟨ws,h1,h2⟩:=rh _ _ hM
   split at h
   .rename_i k ek
    obtain⟨b,rfl,hb⟩:=nB r2 ek;refine pS hu I (DPut.t h1 hb<|by rw[<- h2.length];exact h.1) ri rv λs' I'=>⟨_,I',?_⟩
    exact up _ h.2 _ (rh.put (by rw[h1];trivial) ⟨_,upd_same,(h2.put k r3).mono<|Imm.upd<|by rw[h1];trivial⟩) (Frm.put<|.inr ⟨_,hM⟩)
   trivial
  trivial
 trivial
def cH(to ti:b6):je:=λv U M Q=>to U M λo M1=>ti U M1 λi M2=>sW o i v M2 λM3=>Q U M3
theorem Pl{o i:fv}{to m:b6}(L:X.A.units+1<n7)(J:DE X B o to)(G:DE X B i m)(I:∀v,Zj (.Subscript o i pos) X.env v=(do
   let ov <- rc [v] (fx o X.env)
   let iv <- rc [v,ov] (fx i X.env)
   TD pos
   rc [v,ov,iv] (setItem ov iv v)
   release [v,ov,iv] []):=by intro _;rfl):DG X B (.Subscript o i pos) (cH to m):=by
 refine kQ (On J G (Jp L) I) ?_
 rintro v Z H Q ⟨d,U,M,QQ,s,r,h,C⟩
 exact⟨U,M,_,s,h,λx M1 w v1 H1 f i1 q=>⟨U,M1,_,s.go f i1,w,λy M2 z v2 H2 j i2 F=>⟨x,y,d,M2,_,j,q.mf f i2,F,r.mf s.rh (i1.trans i2),z,λM3 E H3 l i3=>C U M3 E Z H3 ((i1.trans i2).trans i3) (s.go l<|(i1.trans i2).trans i3)⟩⟩⟩
end
section
variable{o value:fv}{f:Str}{tpos:Pos}{ta tv:b6}{C:cb}
noncomputable def bK(f:Str)(v:D):List (Str×D)->List (Str×D)
 |[]=>[(f,v)]
 |(g,w)::r=>if g=f then (g,v)::r else (g,w)::bK f v r
theorem Rkv.lookup{fs:List (Str×D)}{j:List (Str×V)}(h:Rkv K H fs j)(f:Str):(fs.lookup f=bb/\j.lookup f=bb)\/∃d v,fs.lookup f=ap d/\j.lookup f=ap v/\Rp K H d v:=by
 induction h with
 |nil=>exact .inl ⟨rfl,rfl⟩
 |@cons p q ps qs r t ih=>
  obtain⟨l,d⟩:=p;obtain⟨m,v⟩:=q;obtain⟨e,r⟩:=r;subst e;rw[WR,WR];cases w:f==l with
  |true=>exact .inr (by lia)
  |false=>exact ih
theorem JA(f:Str)(v:V):∀h:List (Str×V),di f v h=(match h with|[]=>[(f,v)]|(g,w)::r=>if g=f then (g,v)::r else (g,w)::di f v r)
 |[]=>rfl
 |(g,w)::r=>by rw[di]
theorem oh{f:Str}{d:D}{v:V}(l:Rp K H d v):∀{fs:List (Str×D)}{ws:List (Str×V)},Rkv K H fs ws->Rkv K H (bK f d fs) (_2.di f v ws):=by
 intro fs ws h;unfold Rkv at h
 induction h with
 |nil=>exact .cons ⟨rfl,l⟩ .nil
 |cons r t ih=>
  rename_i p q fs ws
  obtain⟨j,m⟩:=p;obtain⟨w,v1⟩:=q;obtain⟨e,r⟩:=r;dsimp only at e r;subst e;rw[JA];show Rkv K H (if j=f then (j,d)::fs else (j,m)::bK f d fs) (if j=f then (j,v)::ws else (j,v1)::_2.di f v ws)
  split
  .exact .cons ⟨rfl,l⟩ t
  .exact .cons ⟨rfl,r⟩ ih
def aW(C:cb)(ta:b6)(f:Str):b6:=λU M Q=>ta U M λx M1=>match x with
 |.ref a=>match M1 a with
  |some (.ins C' fs)=>C'=C/\match fs.lookup f with
   |some d=>Q d M1
   |none=>False
  |_=>False
 |_=>False
theorem Pr(c:Cls X.K C)(n:NoAttr X.K C f)(I:DE X B e ta)(J:kL e f X.env (fx e X.env)=fx e X.env:=by rfl):DE X B (.Attribute e f pos) (aW C ta f):=by
 refine aS (Op I J) ?_
 rintro Z H Q ⟨U,M,QQ,s,h,u⟩
 refine⟨U,M,_,s,h,λx M1 j v1 H1 l i1 m=>?_⟩
 split at j
 .rename_i a
  cases m
  split at j
  .rename_i C' fs G
   obtain⟨rfl,j⟩:=j;obtain⟨q,y,F,E⟩:=l _ _ G
   split at j
   .rename_i d w
    rcases E.lookup f with⟨z,_⟩|⟨d',v,z1,z2,z3⟩
    .simp_all
    rw[w]at z1;cases z1;exact⟨a,_,q,y,v,rfl,F,c,n,z2,u _ M1 j _ H1 l i1 z3⟩
   trivial
  trivial
 trivial
def ck(C:cb)(ta tv:b6)(f:Str):ar:=λD U M=>tv U M λy M1=>ta U M1 λx M2=>match x with
 |.ref a=>match M2 a with
  |some (.ins C' fs)=>C'=C/\fs.length<1000/\D.nx U (M2.upd a<|.ins C<|bK f y fs)
  |_=>False
 |_=>False
theorem Oc(c:Cls X.K C)(n:NoAttr X.K C f)(ha:DE X B o ta)(hv:DE X B value tv)(hs:re value (ap<|.Attribute o f pos') pos.line X.env=pure false:=by rfl):DS X B (.Assign [.Attribute o f pos'] value pos) (ck C ta tv f):=by
 refine bR (Nv ha hv hs) ?_
 rintro D Z H ⟨U,M,DD,s,h,up⟩
 refine⟨U,M,_,s,h,λy M1 h1 v1 H1 rh1 i1 r1=>?_⟩;refine⟨U,M1,_,s.go rh1 i1,h1,λx M2 h2 v2 H2 rh2 i2 r2=>?_⟩
 split at h2
 .rename_i a
  cases r2
  split at h2
  .rename_i C' fs hM
   obtain⟨rfl,hl,h2⟩:=h2;obtain⟨dx,ws,e1,e2⟩:=rh2 _ _ hM;have i3:Frm M2 H2 (M2.upd a<|.ins C'<|bK f y fs) (upd H2 a<|.ins C' dx<|_2.di f v1 ws):=Frm.put (.inr ⟨_,hM⟩);exact⟨a,C',dx,ws,rfl,e1,c,n,by rw[<- e2.length];exact hl,up.nx _ _ h2 Z _ ((i1.trans i2).trans i3)<|s.go (rh2.put (by rw[e1];trivial) ⟨dx,_,upd_same,(oh (r1.mf rh1 i2) e2).mono<|i3.imm rh2⟩)<|(i1.trans i2).trans i3⟩
  trivial
 trivial
structure BxW(c:eW)(tb:ar)(D:DEnds):Type
structure BxF(g:je)(tb:ar)(D:DEnds)(ok:Mem->Prop):Type
def cz(c:eW)(tb:ar)(D:DEnds)(bx:BxW c tb D):Nat->Dl->Mem->Prop
 |0,_,_=>False
 |n+1,U,M=>c U M λb M1=>if b=true then tb { D with nx:=cz c tb D bx n,ct:=cz c tb D bx n,bk:=D.nx } U M1 else D.nx U M1
def qr(c:eW)(tb:ar):ar:=λD U M=>∃n,cz c tb D ⟨⟩ n U M
theorem Hi{j:aac}{L:eW}(S:ZE (eC X.prog X.w) X.A X.env X.xe)(R:DT X B c L)(Q:B9 X B j tb):DS X B (.While c j [] pos) (qr L tb):=by
 refine bR (FR S R Q) ?_
 rintro D Z H ⟨U,M,DD,s,⟨n,h⟩,E⟩
 refine⟨λm l H'=>∃δ' M',SR X B δ' M' l H'/\Frm M H M' H'/\cz L tb DD _ m δ' M',⟨n,U,M,s,Frm.refl,h⟩,?_⟩
 rintro m O H1 ⟨P,M1,I,i1,N⟩
 cases m with
 |zero=>trivial
 |succ m=>
  refine⟨_,M1,_,I,N,λb M2 q H2 v i2=>?_⟩;cases b with
  |false=>exact E.nx _ _ q _ H2 (i1.trans i2) (I.go v i2)
  |true=>
   exact⟨_,λl H' z=>⟨m,by lia,z⟩,⟨_,M2,_,I.go v i2,q,⟨λy M3 G J H3 i3 F=>⟨_,M3,F,(i1.trans i2).trans i3,G⟩,(E.go<|i1.trans i2).rt,(E.go<|i1.trans i2).nx,λy M3 G J H3 i3 F=>⟨_,M3,F,(i1.trans i2).trans i3,G⟩⟩⟩⟩
structure DIt where
 items:List D
 src:List (cb×List D)
def DIt.ok(I:DIt)(M:Mem):Prop:=∀p∈I.src,M p.1=ap (.lst p.2)
abbrev vY:=Dl->Mem->(DIt->Mem->Prop)->Prop
def RH(K:SM)(H0:Hp)(it:DIt)(J:It):Prop:=∀(i:Nat)(H:Hp)(M:Mem),Imm H0 H->RepH K H M->it.ok M->
 (∀d,it.items[i]?=ap d->J.go i H/\∀x H',J.yld i H x H'->Frm M H M H'/\RepH K H' M/\Rp K H' d x)/\(it.items.length<=i->J.stop i H)
inductive liftI(X:Cx)(B:Bd)(T:vY)(Z:St)(H:Hp)(R:It->Hp->Prop):Prop
 |mk (U:Dl) (M:Mem) (RR:DIt->Mem->Prop) (s:SR X B U M Z H) (h:T U M RR) (u:∀it M',RR it M'->∀J H',RepH X.K H' M'->Frm M H M' H'->RH X.K H' it J->R J H'):liftI X B T Z H R
def DI(X:Cx)(B:Bd)(tg iter:fv)(T:vY):Prop:=PI X tg iter (liftI X B T)
theorem gE{j:fv}{t t':TI}(h:PI X tg j t)(w:∀Z H Q,t' Z H Q->t Z H Q):PI X tg j t':=λl s Z H Q I q=>h _ s Z H Q I (w Z H Q q)
def o9(g:je)(tb:ar)(DD:DEnds)(ok:Mem->Prop)(b:BxF g tb DD ok):List D->Dl->Mem->Prop
 |[],U,M=>ok M/\DD.nx U M
 |x::xs,U,M=>ok M/\g x U M λh M2=>tb { DD with nx:=o9 g tb DD ok b xs,ct:=o9 g tb DD ok b xs,bk:=DD.nx } h M2
def eA(wi:vY)(g:je)(tb:ar):ar:=λD U M=>wi U M λh M1=>o9 g tb D h.ok ⟨⟩ h.items U M1
theorem IK{DD:DEnds}{ok:Mem->Prop}{b:BxF g tb DD ok}{xs:List D}{U:Dl}(h:o9 g tb DD ok b xs U M):ok M:=by
 cases xs with
 |_=>exact h.1
theorem Nd{j:fv}{l:aac}{T:vY}(hp:ZE (eC X.prog X.w) X.A X.env X.xe)(hc:X.calm=true)(hi:DI X B tg j T)(hg:DG X B tg g)(hb:B9 X B l tb)(hs:∀x,py j X.env x=pure x:=by intro _;rfl):DS X B (.For tg j l [] pos) (eA T g tb):=by
 refine bR (Mz hp hc hi hg hb hs) ?_
 rintro D Z H ⟨U,M,DD,s,h,L⟩
 refine⟨U,M,_,s,h,λF M1 h1 J H1 v i1 W=>?_⟩;refine⟨λi m E H'=>m=F.items.length-i/\i<=F.items.length/\∃δ' M',SR X B δ' M' E H'/\Frm M1 H1 M' H'/\o9 g tb DD _ _ (F.items.drop i) δ' M',⟨_,rfl,by lia,U,M1,s.go v i1,Frm.refl,h1⟩,?_⟩
 rintro i m σ2 H2 ⟨rfl,hi',δ2,M2,P,i2,q⟩
 obtain⟨I,R⟩:=W i H2 M2 (i2.imm v) P.rh (IK q)
 by_cases y:i<F.items.length
 .rw[U5 y]at q
  obtain⟨go,hy⟩:=I _ (SG _);refine .inr ⟨go,_,λE H' z=>⟨_,by omega,rfl,y,z⟩,λx H3 Y=>?_⟩
  obtain⟨i3,Q,rx⟩:=hy x H3 Y;refine⟨_,_,M2,_,P.go Q i3,rx,q.2,λδ4 M4 h4 σ4 H4 i4 s4=>?_⟩;have i14:=(i2.trans i3).trans i4;exact⟨_,M4,_,s4,h4,⟨λO M5 G S H5 i5 N=>⟨_,M5,N,i14.trans i5,G⟩,(L.go<|i1.trans i14).rt,(L.go<|i1.trans i14).nx,λO M5 G S H5 i5 N=>⟨_,M5,N,i14.trans i5,G⟩⟩⟩
 rw[Ve (by omega)]at q
 exact .inl ⟨by lia,L.nx _ _ q.2 _ H2 (i1.trans i2) P⟩
end
end _3
namespace _2
open PySem PySem.Spec PyProof.Rows
section
variable {X:Cx}{B:Bd}{tg:fv}
def RC(K:SM)(tl:TE):TI:=λZ H R=>tl Z H λx H1=>∃a b xs,x=.ref a/\nF K b H1 a xs/\R (if b=true then Itl K a else Itt K a) H1
theorem JK{l:fv}{j:TE}(z:PE X l j):PI X tg l (RC X.K j):=by
 intro i s Z H R I h;refine bu (z _ s Z H _ I h) λv g m=>?_;obtain⟨x,H1,I1,r,u⟩:=m;obtain⟨a,b,A,e,f,q⟩:=u;subst e;cases r;cases b with
 |true=>
  obtain⟨c,w,p,y⟩:=I1.list f;refine ra p.isList ?_;refine⟨_,_,_,_,H1,rfl,I1.kept λb o=>SF _,CT a _,⟨_,SK _ rfl,rfl,rfl⟩,λb n=>?_,q⟩;have e:b=g.heap.objs.size:=by simp_all
  subst e;exact I1.fpOk (by lia) (I1.hok.fresh<|by lia)
 |false=>
  obtain⟨c,w,p,y⟩:=I1.tuple f;refine wpAny_pyIter_tuple p ?_;refine⟨_,_,_,_,H1,rfl,I1.kept λb o=>SF _,wW a _,⟨_,SK _ rfl,rfl,rfl⟩,λb n=>?_,q⟩;have e:b=g.heap.objs.size:=by simp_all
  subst e;exact I1.fpOk (by lia) (I1.hok.fresh<|by lia)
def Ou(K:SM)(t:TA):TI:=λZ H R=>t Z H λa H1=>∃b l xs,a=[.ref l]/\nF K b H1 l xs/\R (Ite K b l) H1
theorem E6{a:fv}{g:aab}{E:Nat}{G:Pos}{r:TA}{p pos:Pos}(L:Gl X "enumerate")(M:X.mg "enumerate"=bb)(F:PA X [a] r)(J:ee [a] X.env=[(cp,fx a X.env)]:=by rfl):
  PI X (.Tuple g E G) (.Call (.Name "enumerate" p) [a] [] pos) (Ou X.K r):=by
 intro o s Z H R I h;refine Call_ (cG I L M (by rfl:eT _=ap (.type "enumerate"))<|TM (bu (F _ _ s Z H _ I h) λN n v=>?_) J rfl)
 obtain⟨Q,H1,I1,w,i⟩:=v;obtain⟨b,l,O,e,i,q⟩:=i;subst e;obtain⟨T,rfl,j⟩:=w.one;cases j;obtain⟨u,P,sq,z⟩:=I1.src i;refine C3 sq λS m x C y=>?_;have I2:Inv X _ Z H1 _:=I1.kept (t':=n.toks) y;refine wpAny_pyIter_enum m ?_;refine⟨_,_,_,_,H1,rfl,I2,Ct b l _ _ (by lia),⟨⟨_,m⟩,x⟩,λc A=>?_,q⟩
 have f:n.heap.objs.size<=c:=by
  rcases (by simpa using A) with e|e<;>rw[e]<;>first|exact Uz _ _|exact SO _
 exact I1.fpOk f (I1.hok.fresh f)
end
end _2
namespace _3
open PySem _2
variable{C f:cb}{B:Bd}{X:Cx}{Q:DK}{EE:DX}{U:Dl}{a e:fv}{fd:hG}{base:fy}{H H':Hp}{Z:_2.St}{elts es:aab}{N ps:Z_}{M M':Mem}{i n x1:Nat}{Z5 p pos tp:Pos}{P:eX}{K:SM}{scope:F'}{T:Sd}{st:q0}{Z1 x:Str}{mg:aaf}{w:f'}{E:XK}{ta:dY}{g:je}{r:yj}
section
variable{tg:fv}
def bq(d:D)(xs:List D):List (cb×List D):=match d with
 |.ref a=>[(a,xs)]
 |_=>[]
theorem xn{d:D}{v:V}{xs:List D}(o:RepH K H M)(r:Rp K H d v)(e:aM M d=ap xs):∃p b,v=.ref p/\∀H' M',Imm H H'->RepH K H' M'->(∀q∈bq d xs,M' q.1=ap (.lst q.2))->∃vs,nF K b H' p vs/\Rps K H' xs vs:=by
 cases d with
 |tup ys=>
  cases e;obtain⟨p,vs,rfl,h,r⟩:=r;exact⟨p,cp,rfl,λH' M' i _ _=>⟨vs,(h.mono i).sq,r.mono i⟩⟩
 |lst ys=>
  cases e;obtain⟨p,vs,rfl,h,r⟩:=r;exact⟨p,true,rfl,λH' M' i _ _=>⟨vs,(h.mono i).sq,r.mono i⟩⟩
 |mt ys=>
  cases e;obtain⟨p,vs,rfl,h,r⟩:=r;exact⟨p,cp,rfl,λH' M' i _ _=>⟨vs,h.sq,r.mono i⟩⟩
 |ml ys=>
  cases e;obtain⟨p,vs,rfl,h,r⟩:=r;exact⟨p,true,rfl,λH' M' i _ _=>⟨vs,(h.mono i).sq,r.mono i⟩⟩
 |ref a=>
  refine⟨a,true,r,λH' M' i c l=>?_⟩;obtain⟨vs,j,m⟩:=c _ _ (l (a,xs)<|by simp[bq])
  exact⟨vs,SqL.of j,m⟩
 |_=>cases e
theorem wO{d:D}{xs:List D}(e:aM M d=ap xs):∀q∈bq d xs,M q.1=ap (.lst q.2):=by
 cases d with
 |ref a=>
  intro q b;have:q=(a,xs):=by simpa [bq] using b
  simp[aM]at e
  split at e
  .simp_all
  cases e
 |_=>intro q b;simp[bq]at b
def bQ(te:b6):vY:=λU M R=>te U M λd M1=>match aM M1 d with
 |some xs=>R ⟨xs,bq d xs⟩ M1
 |none=>False
theorem O7{l:fv}{G:b6}(hl:DE X B l G):DI X B tg l (bQ G):=by
 refine gE (JK hl) ?_
 rintro Z H R ⟨U,M,RR,s,h,L⟩
 refine⟨U,M,_,s,h,λd M1 z v H1 j i1 I=>?_⟩
 split at z
 .rename_i xs e
  obtain⟨p,b,rfl,c⟩:=xn j I e;obtain⟨S,W,_⟩:=c H1 M1 Imm.refl j (wO e);refine⟨p,b,S,rfl,W,L _ M1 z _ H1 j i1 λi H2 M2 i2 o y=>?_⟩;obtain⟨O,m,A⟩:=c H2 M2 i2 o y;cases b with
  |_=>
   refine⟨λd Y=>?_,λq=>⟨_,m,by rw[<- A.length];exact q⟩⟩
   obtain⟨w,F,u⟩:=A.get Y;refine⟨⟨_,w,m,F⟩,?_⟩
   rintro x H3 ⟨rfl,J⟩
   have:=J _ m;rw[F]at this;cases this;exact⟨Frm.refl,o,u⟩
 trivial
noncomputable def cE(lo:Int)(n:Nat):List D:=(Te n).map λ(i:Nat)=>D.int (lo+i)
def eh(t:dY):vY:=λU M R=>t U M λb M1=>match b with
 |[.int j]=>-(2 ^ 62)<=j/\j<2 ^ 62/\R ⟨cE 0 j.toNat,[]⟩ M1
 |_=>False
theorem Ob{j:Int}:RH K H ⟨cE j n,[]⟩ (Itr j n):=λi H2 M2 i2 l _=>by
 have c:(cE j n).length=n:=by simp[cE]
 refine⟨λd q=>?_,λb=>by rw[c]at b;exact b⟩
 have m:i<n:=by
  rcases UP i n with h|h
  .exact h
  simp_all
 have o:d=.int (j+i):=by
  simp[cE,X9 m]at q
  simp_all
 subst o;refine⟨m,?_⟩
 rintro x H3 ⟨rfl,rfl⟩
 exact⟨Frm.refl,l,rfl⟩
theorem C1(o:Gl X "range")(u:X.mg "range"=bb)(q:DA X B [a] ta)(y:ee [a] X.env=[(cp,fx a X.env)]:=by rfl):DI X B tg (.Call (.Name "range" p) [a] [] pos) (eh ta):=by
 refine gE (CQ o u q y) ?_
 rintro Z H R ⟨U,M,RR,s,h,l⟩
 refine⟨U,M,_,s,h,λds M1 b z H1 c i1 j=>?_⟩
 split at b
 .obtain⟨v,rfl,m⟩:=eU (ds:=[]) j
  cases m;exact⟨_,rfl,b.1,b.2.1,l _ M1 b.2.2 _ H1 c i1 Ob⟩
 trivial
noncomputable def tR(xs:List D):List D:=(xs.zipIdx).map λp=>D.tup [.int (p.2:Nat),p.1]
theorem Ck{xs:List D}:(tR xs)[i]?=(xs[i]?).map λd=>D.tup [.int (i:Nat),d]:=by
 simp[tR];rfl
def oX(t:dY):vY:=λU M R=>t U M λb M1=>match b with
 |[d]=>match aM M1 d with
  |some xs=>R ⟨tR xs,bq d xs⟩ M1
  |none=>False
 |_=>False
theorem Ju(hg:Gl X "enumerate")(hm:X.mg "enumerate"=bb)(ha:DA X B [a] ta)(hs:ee [a] X.env=[(cp,fx a X.env)]:=by rfl):
  DI X B (.Tuple elts x1 tp) (.Call (.Name "enumerate" p) [a] [] pos) (oX ta):=by
 refine gE (E6 hg hm ha hs) ?_
 rintro Z H R ⟨U,M,RR,s,h,S⟩
 refine⟨U,M,_,s,h,λds M1 o G H1 j i1 L=>?_⟩
 split at o
 .obtain⟨v,rfl,W⟩:=eU (ds:=[]) L
  split at o
  .rename_i xs e
   obtain⟨p,b,rfl,c⟩:=xn j W e;obtain⟨G,hq,_⟩:=c H1 M1 Imm.refl j (wO e);refine⟨b,p,G,rfl,hq,S _ M1 o _ H1 j i1 λi H2 M2 i2 m A=>?_⟩;obtain⟨Y,l,F⟩:=c H2 M2 i2 m A;refine⟨λd J=>?_,λu=>⟨_,l,by rw[<- F.length];simpa [tR] using u⟩⟩
   rw[Ck]at J;obtain⟨d0,q,rfl⟩:=T7.mp J;obtain⟨w,I,z⟩:=F.get q;refine⟨⟨_,w,l,I⟩,?_⟩
   rintro x H3 ⟨T,x',y,rfl,rfl,O⟩
   have:=O _ l;rw[I]at this;cases this;exact⟨Frm.new y,m.new y,T,_,rfl,upd_same,.cons rfl<|.cons (z.mono<|Imm.new y) .nil⟩
  trivial
 trivial
noncomputable def xq(xs ys:List D):List D:=(xs.zip ys).map λp=>D.tup [p.1,p.2]
theorem GK{xs ys:List D}{d:D}(h:(xq xs ys)[i]?=ap d):∃x y,xs[i]?=ap x/\ys[i]?=ap y/\d=.tup [x,y]:=by
 simp only[xq,SN,T7]at h;obtain⟨⟨x,y⟩,b,rfl⟩:=h;rw[U4]at b;exact⟨x,y,b.1,b.2,rfl⟩
noncomputable def wb:List D->List (List D)->List (cb×List D)
 |d::ds,xs::xss=>bq d xs++wb ds xss
 |_,_=>[]
abbrev Qr(M:Mem)(ds:List D)(xss:List (List D)):Prop:=U_ (λd xs=>aM M d=ap xs) ds xss
structure Zps(xss:List (List D))(zs:List D):Prop where
 get:∀(i:Nat)(d:D),zs[i]?=ap d->∃ys,d=.tup ys/\xss.map (·[i]?)=ys.map ap
 stop:∀i:Nat,zs.length<=i->∃xs∈xss,xs.length<=i
theorem JM{ds:List D}{c:List (List D)}(u:RepH K H M)(h:Qr M ds c):∀{vs:List V},Rps K H ds vs->(∀q∈wb ds c,M q.1=ap (.lst q.2))/\
  ∃L:List (Bool×cb),vs=L.map (λp=>.ref p.2)/\L.length=c.length/\∀H' M',Imm H H'->RepH K H' M'->(∀q∈wb ds c,M' q.1=ap (.lst q.2))->
   U_ (λ(p:Bool×cb) xs=>∃us,nF K p.1 H' p.2 us/\Rps K H' xs us) L c:=by
 induction h with
 |nil=>exact λr=>⟨λq h=>by simp[wb]at h,[],r,rfl,λ_ _ _ _ _=>.nil⟩
 |cons h t ih=>
  rintro vs ⟨v,s,rfl,r,o⟩
  obtain⟨a,L,rfl,l,k⟩:=ih o;obtain⟨p,b,rfl,g⟩:=xn u r h;exact⟨λq j=>(Tv.1 j).elim (wO h q) (a q),(b,p)::L,rfl,by simp[l],λH' M' i m ok=>.cons (g H' M' i m λq j=>ok q (Vu _ j)) (k H' M' i m λq j=>ok q (TV _ j))⟩
theorem Iw(im:Imm H H'){L:List (Bool×cb)}{xss:List (List D)}(h:U_ (λ(p:Bool×cb) xs=>∃us,nF K p.1 H p.2 us/\Rps K H xs us) L xss):∀{ys:List D}{zs:List V},xss.map (·[i]?)=ys.map ap->zs.length=L.length->
  (∀(j:Nat)(p:Bool×cb),L[j]?=ap p->∀us,nF K p.1 H p.2 us->us[i]?=zs[j]?)->Rps K H' ys zs:=by
 induction h with
 |nil=>
  intro ys zs e l _;obtain rfl:=List.eq_nil_of_length_eq_zero l;cases ys<;>trivial
 |cons h t ih=>
  intro ys zs e l g;cases ys with
  |nil=>simp at e
  |cons y ys=>
   cases zs with
   |nil=>simp at l
   |cons z zs=>
    simp at e;obtain⟨us,sq,r⟩:=h;obtain⟨w,hw,rw'⟩:=r.get e.1;have:=g 0 _ rfl us sq;rw[hw]at this;cases this;exact .cons (rw'.mono im) (ih e.2 (by simpa using l) λj p ej=>g (j+1) p (by trivial))
theorem vJ{P:(Bool×cb)->List D->Prop}:∀{L:List (Bool×cb)}{xss:List (List D)},U_ P L xss->(∀p∈L,∃xs∈xss,P p xs)/\∀xs∈xss,∃p∈L,P p xs:=by
 intro L xss h
 induction h with
 |nil=>exact⟨λp h=>by simp at h,λp h=>by simp at h⟩
 |cons h _ ih=>
  obtain⟨a,b⟩:=ih;refine⟨λp c=>?_,λp c=>?_⟩
  .rcases SQ.1 c with rfl|m
   .exact⟨_,.head _,h⟩
   .obtain⟨x,y,z⟩:=a p m;exact⟨x,.tail _ y,z⟩
  .rcases SQ.1 c with rfl|m
   .exact⟨_,.head _,h⟩
   .obtain⟨x,y,z⟩:=b p m;exact⟨x,.tail _ y,z⟩
theorem zA{f:List D->Mem->(DIt->Mem->Prop)->Prop}(hf:∀ds M1 R,f ds M1 R->∃b zs,(b.length=2\/b.length=3)/\Qr M1 ds b/\Zps b zs/\R ⟨zs,wb ds b⟩ M1){as:aab}(hg:Gl X "zip")(hm:X.mg "zip"=bb)(ha:DA X B (a::as) ta)(hs:ee (a::as) X.env=(cp,fx a X.env)::ee as X.env)(O:(PySem.backTo pos<|starEach as X.env).any (·.1)=cp):
  DI X B (.Tuple elts x1 tp) (.Call (.Name "zip" p) (a::as) [] pos) (λU M R=>ta U M λds M1=>f ds M1 R):=by
 refine gE (Il hg hm ha hs O) ?_
 rintro Z H R ⟨U,M,RR,s,h,up⟩
 refine⟨U,M,_,s,h,λds M1 F S H1 m i1 Y=>?_⟩;obtain⟨b,zs,n,sq,z,F⟩:=hf _ _ _ F;obtain⟨ok,L,rfl,l,k⟩:=JM m sq Y;refine⟨L,by lia,rfl,λp j=>?_,up _ M1 F _ H1 m i1 λi H2 M2 i2 u J=>?_⟩
 .obtain⟨A,_,c,h,_⟩:=(vJ<|k H1 M1 Imm.refl m ok).1 p j
  exact⟨c,h⟩
 have q:=k H2 M2 i2 u J;obtain⟨W,qb⟩:=vJ q;refine⟨λd hd=>?_,λG=>⟨λp j=>?_,?_⟩⟩
 .obtain⟨ys,rfl,e⟩:=z.get i d hd
  refine⟨λp j=>?_,?_⟩
  .obtain⟨A,o,c,h,r⟩:=W p j
   obtain⟨y,_,e⟩:=SV.1 (e▸Tx o);obtain⟨v,hv,_⟩:=r.get e.symm;exact⟨c,v,h,hv⟩
  rintro x H3 ⟨T,S,I,rfl,rfl,hl,o⟩
  exact⟨Frm.new I,u.new I,T,S,rfl,upd_same,Iw (Imm.new I) q e hl o⟩
 .obtain⟨A,_,c,h,_⟩:=W p j
  exact⟨c,h⟩
 obtain⟨A,o,le⟩:=z.stop i G;obtain⟨p,j,c,h,r⟩:=qb A o;exact⟨p,j,c,h,by rw[<- r.length];exact le⟩
def RB(t:dY):vY:=λU M R=>t U M λb M1=>match b with
 |[d,e]=>match aM M1 d,aM M1 e with
  |some xs,ap ys=>R ⟨xq xs ys,bq d xs++bq e ys⟩ M1
  |_,_=>False
 |_=>False
theorem N7{b:fv}(A:Gl X "zip")(F:X.mg "zip"=bb)(v:DA X B [a,b] ta)(G:ee [a,b] X.env=[(cp,fx a X.env),(cp,fx b X.env)]:=by rfl)(hs2:ee [b] X.env=[(cp,fx b X.env)]:=by rfl):
  DI X B (.Tuple elts x1 tp) (.Call (.Name "zip" p) [a,b] [] pos) (RB ta):=by
 refine zA (λI M1 R h=>?_) A F v (by rw[G,hs2]) (by rw[hs2];rfl)
 split at h
 .split at h
  .rename_i d e _ c j q o
   refine⟨_,_,.inl rfl,.cons q (.cons o .nil),⟨λi z u=>?_,λi s=>?_⟩,by simpa [wb] using h⟩
   .obtain⟨x,y,l,m,rfl⟩:=GK u
    exact⟨_,rfl,by simp[l,m]⟩
   have:(xq c j).length=min c.length j.length:=by simp[xq]
   simp;lia
  trivial
 trivial
end
noncomputable def wk:Bd:=⟨λ_ _=>True,λ_ _=>trivial⟩
section
inductive liftE0(K:SM)(T:b6)(Z:_2.St)(H:Hp)(Q:VK):Prop
 |mk (U:Dl) (M:Mem) (QQ:DK) (rh:RepH K H M) (rs:RepS K H U Z) (h:T U M QQ) (u:Up K M H QQ Q):liftE0 K T Z H Q
inductive liftT0(K:SM)(T:eW)(Z:_2.St)(H:Hp)(Q:Bool->Hp->Prop):Prop
 |mk (U:Dl) (M:Mem) (QQ:Bool->Mem->Prop) (rh:RepH K H M) (rs:RepS K H U Z) (h:T U M QQ) (u:UpT K M H QQ Q):liftT0 K T Z H Q
inductive liftG0(K:SM)(g:je)(v:V)(Z:_2.St)(H:Hp)(Q:_2.St->Hp->Prop):Prop
 |mk (d:D) (U:Dl) (M:Mem) (QQ:Dl->Mem->Prop) (rh:RepH K H M) (rs:RepS K H U Z) (r:Rp K H d v) (h:g d U M QQ) (u:∀δ' M',QQ δ' M'->∀σ' H',Frm M H M' H'->RepH K H' M'->RepS K H' δ' σ'->Q σ' H'):liftG0 K g v Z H Q
theorem EY{T:b6}(h:DE X wk e T):PE X e (liftE0 X.K T):=aS h (by rintro Z H Q ⟨U,M,QQ,c,b,h,u⟩;exact⟨U,M,QQ,⟨trivial,c,b⟩,h,u⟩)
theorem Dz(h:DG X wk e g):PG X e (liftG0 X.K g):=kQ h (by rintro v Z H Q ⟨d,U,M,QQ,rh,rs,r,h,u⟩;exact⟨d,U,M,QQ,⟨trivial,rh,rs⟩,r,h,λb M' q c H' f s=>u _ M' q _ H' f s.rh s.rs⟩)
theorem RepH.add{a:cb}{o:MO}(r:RepH K H M)(n:RepO K H a o):RepH K H (M.upd a o):=λb p e=>by
 by_cases c:b=a
 .simp_all
 rw[ae c]at e;exact r b p e
noncomputable def br(ls:Z_)(js:List Nat)(U:Dl):Dl:=ls.map (λ_=>bb)++js.map λj=>(U[j]?).join
theorem RepS.start(r:RepS K H U Z)(ls:Z_)(b:List Nat):RepS K H (br ls b U) (eB ls b Z):=by
 refine⟨by simp[br,eB],λi d e=>?_⟩
 unfold br at e;unfold eB
 by_cases h:i<ls.length
 .grind
 rw[Ui (by simp_all),SN]at e
 rw[Ui (by simp_all)]
 cases l:b[i-ls.length]? with
 |none=>simp_all
 |some j=>
  have c:U[j]?=ap (ap d):=by
   cases z:U[j]?<;>simp_all
  obtain⟨v,m,o⟩:=r.get j d c
  simp_all
structure BxC(g:je)(tt:eW)(te:b6)(ok:Mem->Prop)(Q:List D->Mem->Prop):Type
def cZ(g:je)(tt:eW)(te:b6)(ok:Mem->Prop)(Q:List D->Mem->Prop)(b:BxC g tt te ok Q):List D->List D->Dl->Mem->Prop
 |[],Z3,_,M=>ok M/\Q Z3 M
 |x::xs,Z3,U,M=>ok M/\g x U M λh M2=>tt h M2 λc M3=>if c=true then te h M3 λy M4=>Z3.length<sizeLine/\cZ g tt te ok Q b xs (Z3++[y]) h M4 else cZ g tt te ok Q b xs Z3 h M3
def aO(wi:vY)(ls:Z_)(js:List Nat)(g:je)(tt:eW)(te:b6):b6:=λU M Q=>wi U M λc M1=>cZ g tt te c.ok (λb M'=>∀p,M' p=bb->Q (.ref p) (M'.upd p<|.lst b)) ⟨⟩ c.items [] (br ls js U) M1
theorem Hj{tt:eW}{te:b6}{ok:Mem->Prop}{xs Z3:List D}{Q:List D->Mem->Prop}{b:BxC g tt te ok Q}(h:cZ g tt te ok Q b xs Z3 U M):ok M:=by
 cases xs with
 |_=>exact h.1
variable{tg iter elt:fv}{ifs:aab}{cl:List (Str×cb)}{ls fs:Z_}{js:List Nat}{wi:vY}{tt:eW}{te:b6}
theorem p5{Q:VK}(h:liftE X B (aO wi ls js g tt te) Z H Q):G1 (liftI X B wi) ls js (liftG0 X.K g) (liftT0 X.K tt) (liftE0 X.K te) Z H Q:=by
 obtain⟨U,M,QQ,s,h,u⟩:=h;refine⟨U,M,_,s,h,λit M1 h1 J H1 rh1 f1 hJ p hp=>?_⟩;have hMp:=rh1.fresh hp
 refine⟨λi m σ' H'=>m=it.items.length-i/\i<=it.items.length/\∃δ' M' Z3 ys,RepH _ H' M'/\RepS _ H' δ' σ'/\H' p=ap (.lst ys)/\Rps X.K H' Z3 ys/\M' p=bb/\Frm M1 H1 M' H'/\
   cZ g tt te _ _ _ (it.items.drop i) Z3 δ' M',
  ⟨_,rfl,by lia,_,M1,[],[],rh1.new hp,((s.rs.mono<|f1.imm s.rh).mono<|Imm.new hp).start ls js,upd_same,.nil,hMp,Frm.new hp,h1⟩,?_⟩
 rintro i m σ2 H2 ⟨rfl,hi,δ2,M2,Z3,ys,rh2,rs2,hp2,ra2,hm2,f2,h2⟩
 have hok:=Hj h2;obtain⟨hgo,hstop⟩:=hJ i H2 M2 (f2.imm rh1) rh2 hok
 by_cases hlt:i<it.items.length
 .rw[U5 hlt]at h2
  obtain⟨go,hy⟩:=hgo _ (SG hlt);refine .inr ⟨go,_,λσ' H' z=>⟨_,by omega,rfl,hlt,z⟩,λx H3 hx=>?_⟩
  obtain⟨f3,rh3,rx⟩:=hy x H3 hx;refine⟨_,_,M2,_,rh3,rs2.mono (f3.imm rh2),rx,h2.2,λδ4 M4 h4 σ4 H4 f4 rh4 rs4=>?_⟩;refine⟨_,M4,_,rh4,rs4,h4,λc M5 h5 H5 rh5 f5=>?_⟩;have f35:=(f3.trans f4).trans f5;obtain⟨hp5,hm5⟩:=f35.keep p _ hp2 hm2;cases c with
  |false=>
   exact⟨_,M5,_,ys,rh5,rs4.mono (f5.imm rh4),hp5,ra2.mf rh2 f35,hm5,f2.trans f35,h5⟩
  |true=>
   refine⟨_,M5,_,rh5,rs4.mono (f5.imm rh4),h5,λy M6 h6 v6 H6 rh6 f6 r6=>?_⟩;obtain⟨hp6,hm6⟩:=f6.keep p _ hp5 hm5;have f26:=f35.trans f6;have ra6:=ra2.mf rh2 f26;refine⟨ys,hp6,by rw[<- ra6.length];exact h6.1,?_⟩
   have im:Imm H6 (upd H6 p<|.lst (ys++[v6])):=Imm.upd (by rw[hp6];trivial)
   refine⟨_,M6,_,_,rh6.keep im λb o hb=>aD (by lia),((rs4.mono<|f5.imm rh4).mono<|f6.imm rh5).mono im,upd_same,(ra6.append<|.cons r6 .nil).mono im,hm6,?_,h6.2⟩
   refine⟨λb w e n=>?_⟩;obtain⟨e2,n2⟩:=(f2.trans f26).keep b w e n;exact⟨by rw[aD (by lia)];exact e2,n2⟩
 rw[Ve (by omega)]at h2
 refine .inl ⟨hstop (by omega),u _ _ (h2.2 p hm2) _ H2 (rh2.add ⟨ys,hp2,ra2⟩) ?_ rfl⟩
 refine⟨λb w e n=>?_⟩;obtain⟨e1,n1⟩:=f1.keep b w e n;obtain⟨e2,n2⟩:=f2.keep b w e1 n1;exact⟨e2,by rw[ae (bh e1 hp)];exact n2⟩
def MT(X:Cx)(B:Bd)(ifs:aab)(T:eW):Prop:=Mw X ifs (liftT X B T)
def dg:eW:=λ_ M Q=>Q true M
theorem JX:MT X B [] dg:=(by rintro b s Z H Q I ⟨U,M,QQ,c,h,u⟩;exact Ko _ s Z H Q I (u _ M h H c.rh Frm.refl))
theorem Jh{c:fv}{t:eW}(h:DT X B c t):MT X B [c] t:=JF h
theorem AY{T:eW}(h:MT X wk es T):Mw X es (liftT0 X.K T):=λb s Z H Q I c=>by obtain⟨U,M,QQ,l,j,m,u⟩:=c;exact h _ s Z H Q I ⟨U,M,QQ,⟨trivial,l,j⟩,m,u⟩
theorem IM(o:X.calm=true)(co:CompOk X scope cl ls fs js)(l:DI X B tg iter wi)(j:∀(C:cb)(b:ca)(H₀:Hp)(c:aaa)(pl:aae),DG (a_ X (ls++fs) scope cl C b H₀ c pl) wk tg g/\MT (a_ X (ls++fs) scope cl C b H₀ c pl) wk ifs tt/\DE (a_ X (ls++fs) scope cl C b H₀ c pl) wk elt te)(m:∀x,py iter X.env x=pure x:=by intro _;rfl):DE X B (.ListComp elt [⟨tg,iter,ifs,0⟩] scope pos) (aO wi ls js g tt te):=
 aS (IL o co l (λC b H₀ c pl=>⟨Dz (j C _ _ c pl).1,AY (j C _ _ c pl).2.1,EY (j C _ _ c pl).2.2⟩) m) λ_ _ _ h=>p5 h
def cV(i:Nat)(t:b6):ar:=λD U M=>t U M λd M1=>D.nx (U.set i<|some d) M1
theorem Ir{u c:Pos}(I:X.N.Nodup)(o:X.N[i]?=ap x)(F:Dh X.env.scope x)(G:X.calm=true)(co:CompOk X scope cl ls fs js)(A:DI X B tg iter wi)(l:∀(C:cb)(b:ca)(H₀:Hp)(j:aaa)(pl:aae),DG (a_ X (ls++fs) scope cl C b H₀ j pl) wk tg g/\MT (a_ X (ls++fs) scope cl C b H₀ j pl) wk ifs tt/\DE (a_ X (ls++fs) scope cl C b H₀ j pl) wk elt te)(m:re (.ListComp elt [⟨tg,iter,ifs,0⟩] scope pos) (ap<|.Name x u) c.line X.env=pure true:=by rfl)(hs:∀x,py iter X.env x=pure x:=by intro _;rfl)(hf:X.fn x=true\/X.env.scope.names.lookup x=ap .local:=by and_intros):
  DS X B (.Assign [.Name x u] (.ListComp elt [⟨tg,iter,ifs,0⟩] scope pos) c) (cV i<|aO wi ls js g tt te):=by
 refine bR (JW (g:=liftG0 _ g) (tt:=liftT0 _ tt) (te:=liftE0 _ te) I o F G co A (λC b H₀ j pl=>⟨Dz (l C _ _ j pl).1,AY (l C _ _ j pl).2.1,EY (l C _ _ j pl).2.2⟩) m hs hf) ?_
 rintro D Z H ⟨U,M,DD,s,h,z⟩
 exact p5 ⟨U,M,_,s,h,λd M' q v H' y f r=>z.nx _ M' q _ H' f ((s.go y f).set r)⟩
def de(i:Nat)(U:Dl)(M:Mem)(Q:Dl->Mem->Prop):Prop:=match U[i]? with
 |some (ap<|.ref a)=>match M a with
  |some (.lst xs)=>Q (U.set i<|some<|.lst xs) (M.del a)
  |_=>Q U M
 |_=>Q U M
def bU(t:ar)(i:Nat):ar:=λD U M=>t { D with nx:=λb M'=>de i b M' D.nx } U M
theorem ua{α:Type}:∀{l:List α}{i:Nat}{x:α},l[i]?=ap x->l.set i x=l
 |[],_,_,h=>by simp at h
 |_::_,0,_,h=>by simp_all
 |_::_,i+1,_,h=>by rw[List.set_cons_succ,ua (by simpa using h)]
theorem MB{t:ar}(i:Nat)(h:DS X B st t):DS X B st (bU t i):=by
 intro Z0 s Z H D I ⟨U,M,DD,sr,hT,up⟩;refine bu (h _ s Z H { D with nx:=λσ' H'=>∃δ' M',de i δ' M' _/\Frm M H M' H'/\SR X B _ M' _ H' } I ⟨U,M,_,sr,hT,⟨λδ' M' q σ' H' f s'=>⟨_,M',q,f,s'⟩,up.rt,up.bk,up.ct⟩⟩) λf s' q=>?_;cases f with
 |next=>
  obtain⟨σ',H',I',δ',M',q,f,s'⟩:=q;unfold de at q
  split at q
  .rename_i a ea
   split at q
   .rename_i xs e
    obtain⟨vs,h1,h2⟩:=s'.rh _ _ e;obtain⟨o,I2⟩:=Inv.freeze I' h1;have im:Imm H' (upd H' a<|.frz o<|.lst vs):=Imm.upd (by rw[h1];trivial)
    obtain⟨v,hv,rv⟩:=s'.rs.get i _ ea;cases rv;refine⟨_,_,I2,up.nx _ _ q _ _ (f.trans<|Frm.del ⟨_,e⟩) ⟨B.go s'.i0 (Frm.del ⟨_,e⟩),s'.rh.freeze h1,?_⟩⟩;have:=(s'.rs.mono im).set (i:=i) (d:=.lst xs) ⟨a,vs,rfl,⟨o,upd_same⟩,h2.mono im⟩
    rwa [ua hv]at this
   exact⟨_,H',I',up.nx _ _ q _ H' f s'⟩
  exact⟨_,H',I',up.nx _ _ q _ H' f s'⟩
 |_=>exact q
end
abbrev DX:=cb->Mem->Prop
abbrev Sd:=List D->Mem->DK->DX->Prop
def pi(P:eX)(w:f'):ow:=λb H s E e c=>∃C,Dj P w C b H s E e c
def UpX(K:SM)(M:Mem)(H:Hp)(EE:DX)(E:XK):Prop:=∀C M',EE C M'->∀H',RepH K H' M'->Frm M H M' H'->E (.ref C) bb H'
def vO(K:SM)(B:Bd)(EE:DX)(E:XK):Prop:=∀C M',EE C M'->∀H',RepH K H' M'->B.p M' H'->E (.ref C) bb H'
theorem UpX.go{M1:Mem}{H1:Hp}(u:UpX K M H EE E)(i:Frm M H M1 H1):UpX K M1 H1 EE E:=λC M' q H' a b=>u C M' q H' a (i.trans b)
def bB(K:SM)(n:Nat)(T:Sd):Sp:=λb H Q E=>b.length=n/\∃ds M QQ EE,RepH K H M/\Rps K H ds b/\T ds M QQ EE/\Up K M H QQ Q/\UpX K M H EE E
def startN(N:Z_)(ds:List D):Dl:=ds.map ap++Tp (N.length-ds.length) bb
theorem RepS.startN{ds:List D}{vs:List V}(N:Z_)(r:Rps K H ds vs):RepS K H (_3.startN N ds) (_2.start N vs):=by
 have j:=r.length;refine⟨by simp[_3.startN,_2.start,j],λi d e=>?_⟩
 unfold _3.startN at e;unfold _2.start
 by_cases b:i<ds.length
 .rw[VX (by simp_all),SN,SG b]at e
  have l:ds[i]=d:=by simpa using e
  obtain⟨v,c,h⟩:=r.get (by rw[SG b,l])
  refine⟨v,?_,h⟩;rw[VX (by simp;lia),SN,c]
  rfl
 rw[Ui (by simp_all),XE]at e
 simp_all
section
def drp(Q:DK)(d:D)(M':Mem):Prop:=∃M'',(∀b o,M'' b=ap o->M' b=ap o)/\Q d M''
def aJ(EE:DX)(C:cb)(M':Mem):Prop:=∃M'',(∀b o,M'' b=ap o->M' b=ap o)/\EE C M''
theorem ak{d:D}(h:Q d M'):drp Q d M':=⟨M',by lia,h⟩
theorem dU(h:EE C M'):aJ EE C M':=⟨M',by lia,h⟩
theorem Frm.less{M'':Mem}(f:Frm M H M' H')(s:∀b o,M'' b=ap o->M' b=ap o):Frm M H M'' H':=⟨λb u e n=>by
 obtain⟨c,h⟩:=f.keep b u e n;refine⟨c,?_⟩;cases q:M'' b<;>simp_all⟩
theorem Up.drp{QV:VK}(u:Up K M H Q QV):Up K M H (_3.drp Q) QV:=(by rintro d M' ⟨_,s,q⟩ v H' c f r;exact u d _ q v H' (λb o e=>c b o (s b o e)) (f.less s) r)
theorem UpX.drp(u:UpX K M H EE E):UpX K M H (aJ EE) E:=(by rintro C M' ⟨_,s,q⟩ H' c f;exact u C _ q H' (λb o e=>c b o (s b o e)) (f.less s))
def aI(N:Z_)(T:DX->ar):Sd:=λb M Q EE=>T (aJ EE) { nx:=λ_ M'=>drp Q .non M',rt:=drp Q } (startN N b) M
theorem fnD{k:Nat}{T:DX->ar}(F:Fun K x Z1 st f fd)(S:FnScope N ps (aQ st))(I:∀(c:ay)(A:g3)(b:List Env)(s:ca)(H:Hp)(E:XK)(B:Bd)(EE:DX),Room k (A.deeper<|Vh Z1 (aQ st) s.heap.objs.size f c)->vO K B EE E->
   B9 (eG (pi P w) P w K mg base N Z1 (aQ st) f c A b s H E) B (bw st) (T EE)):
  FnOk P w K mg base (pi P w) (k+1) f fd ps (bB K ps.length<|aI N T):=by
 obtain⟨J,R,kV,v,L,Y,c,ct,G,rfl,lk,j⟩:=F.ex;refine Ly lk j S (λo H Q E h=>h.1) λA b s H o Q E z l=>?_;obtain⟨O,W,M,QQ,EE,rh,r,y,u,ux⟩:=l;exact⟨_,I _ A _ s H E (Bd.of M H) _ z ux.drp,_,M,_,⟨Frm.refl,rh,.startN N r⟩,y,⟨λU M' q Z H' f m=>u.drp _ M' q _ H' m.rh f rfl,u.drp,λU M' q=>q.elim,λU M' q=>q.elim⟩⟩
theorem eD{k:Nat}{CX:ow}:FnOk P w K mg base CX k f fd ps (bB K n λ_ _ _ _=>False):=
 ⟨λj H Q E h=>(by obtain⟨_,_,_,_,_,_,_,h,_⟩:=h;exact h.elim),λA b s H c l j Q E _ _ _ _ h=>(by obtain⟨_,_,_,_,_,_,_,h,_⟩:=h;exact h.elim)⟩
theorem DP{m:ay}{A:g3}{b:List Env}{l:ca}{H0:Hp}:bH (pi P w) (eG (pi P w) P w K mg base N Z1 scope f m A b l H0 E) E:=by
 intro c Z H s e j I ⟨C,h⟩;exact kB (Se _ Z H s e j (I.wish _) h) (λ_ _ z=>⟨C,z⟩) λ_ _ z=>⟨C,z⟩
theorem xT:bH (pi P w) X E0:=(by rintro Z0 Z H s e s' I ⟨C,hx⟩;exact(by
 obtain⟨_,_,_,_,_,_,_,_,_,_,_,_,hE⟩:=hx;trivial))
end
def Sub(M1 M:Mem):Prop:=∀b o,M1 b=ap o->M b=ap o
def Dis(M1 M M':Mem):Prop:=∀b o,M b=ap o->M1 b=bb->M' b=bb
noncomputable def plus(M' M1 M:Mem):Mem:=λb=>match M' b with
 |some o=>ap o
 |none=>match M1 b with
  |some _=>bb
  |none=>M b
theorem p9:plus M' M M=M':=by
 funext b;simp[plus];lia
structure BxQ(EE:DX)(Q:DK):Type
structure calls(T:Sd)(EE:DX)(ds:List D)(M:Mem)(Q:DK)(_:BxQ EE Q):Prop where
 go:∃M1,Sub M1 M/\T ds M1 (λd M'=>Dis M1 M M'->Q d (plus M' M1 M)) (λC M'=>Dis M1 M M'->EE C (plus M' M1 M))
section
variable{M1:Mem}
theorem RepH.sub(r:RepH K H M)(s:Sub M1 M):RepH K H M1:=λb o e=>r b o (s b o e)
theorem RepH.dis(r:RepH K H M)(f:Frm M1 H M' H'):Dis M1 M M':=λb o e n=>by
 obtain⟨u,q⟩:=(r b o e).obj;exact(f.keep b u q n).2
theorem RepH.plus(r:RepH K H M)(s:Sub M1 M)(h:RepH K H' M')(f:Frm M1 H M' H'):RepH K H' (plus M' M1 M):=λb o e=>by
 simp[_3.plus]at e
 split at e
 .rename_i j q;cases e;exact h b _ q
 split at e
 .cases e
 rename_i q n
 obtain⟨u,c⟩:=(r b o e).obj;exact(r b o e).keep (f.imm<|r.sub s) ((f.keep b u c n).1.trans c.symm)
theorem Frm.plus(s:Sub M1 M)(f:Frm M1 H M' H'):Frm M H (plus M' M1 M) H':=⟨λb u e n=>by
 have c:M1 b=none:=by
  cases q:M1 b with
  |none=>rfl
  |some o=>rw[s b o q]at n;cases n
 obtain⟨h,j⟩:=f.keep b u e c;exact⟨h,by simp[_3.plus,j,c,n]⟩⟩
theorem cI{ds:List D}{vs:List V}{QV:VK}{b:BxQ EE Q}(h:calls T EE ds M Q b)(rh:RepH K H M)(r:Rps K H ds vs)(j:vs.length=n)(u:Up K M H Q QV)(ux:UpX K M H EE E):bB K n T vs H QV E:=by
 obtain⟨M1,s,h⟩:=h.go;exact⟨j,ds,M1,_,_,rh.sub s,r,h,λd M' q v H' c f=>u d _ (q<|rh.dis f) v H' (rh.plus s c f) (f.plus s),λC M' q H' c f=>ux C _ (q<|rh.dis f) H' (rh.plus s c f) (f.plus s)⟩
theorem ao{ds:List D}{b:BxQ EE Q}(c:∀Q' E',(∀d M,Q d M->Q' d M)->(∀C M,EE C M->E' C M)->T ds M Q' E'):calls T EE ds M Q b:=
 ⟨M,λ_ _ e=>e,c _ _ (λd M' q _=>by rw[p9];exact q) λC M' q _=>by rw[p9];exact q⟩
variable{CX:ow}{k:Nat}{m:Str}{o:fv}{ta:b6}{t:dY}
def aj(T:Sd)(EE:DX)(n:Nat)(t:dY):b6:=λU M Q=>t U M λb M1=>b.length=n/\calls T EE b M1 Q ⟨⟩
theorem SR.ux{U:Dl}{Z:_2.St}(s:SR X B U M Z H)(ux:vO X.K B EE E):UpX X.K M H EE E:=λC M' q H' a b=>ux C M' q H' a (B.go s.i0 b)
theorem r9(F:FnOk X.prog X.w X.K X.mg X.base CX k f fd ps (bB X.K n T))(J:Room k X.A)(G:Gl X x)(I:X.mg x=ap (.ref f))(z:Ur X.K (.ref f)=true)(q:Binds X.K fd ps [])(y:bH CX X E)(ux:vO X.K B EE E)(v:DA X B (e::es) t)(c:(x==("__debug__":Str))=false:=by decide)(he:ee (e::es) X.env=(cp,fx e X.env)::ee es X.env:=by rfl)(hpl:(g4 pos<|starEach es X.env).any (·.1)=false:=by rfl):
  DE X B (.Call (.Name x p) (e::es) [] pos) (aj T EE n t):=by
 refine aS (yT F J G I z q .nil y v c he hpl) ?_
 rintro Z H Q ⟨U,M,QQ,s,h,u⟩
 refine⟨U,M,_,s,h,λL M1 l O H1 b i1 j=>?_⟩;rw[TX];exact cI l.2 b j (by rw[<- j.length];exact l.1) (u.go i1) ((s.ux ux).go i1)
def c_(C:cb)(m:Str)(T:Sd)(EE:DX)(n:Nat)(ta:b6)(t:dY):b6:=λU M Q=>ta U M λx M1=>match x with
 |.ref a=>match M1 a with
  |some (.ins C' fs)=>C'=C/\fs.lookup m=bb/\t U M1 λb M2=>b.length+1=n/\calls T EE (.ref a::b) M2 Q ⟨⟩
  |_=>False
 |_=>False
theorem JD{pl:Sem Bool}(he:DE X B o ta)(c:Cls X.K C)(hm:Meth X.K C m f)(F:FnOk X.prog X.w X.K X.mg X.base CX k f fd ps (bB X.K n T))(hr:Room k X.A)(Y:Binds X.K fd ps [])(hx:bH CX X E)(ux:vO X.K B EE E)(ha:DA X B (e::es) t)(y:ee (e::es) X.env=(cp,fx e X.env)::ee es X.env:=by rfl)(hpl:(g4 pos<|starEach es X.env).any (·.1)=false:=by rfl)(ht:fx (.Call (.Attribute o m Z5) (e::es) [] pos) X.env=(do
   let ov <- fx o X.env
   TD Z5.atName
   let (f,first) <- rc [ov] (S' ov m pl)
   Ze pos f first (g4 pos<|starEach (e::es) X.env) (wh pos<|keywordEach [] X.env)):=by rfl):
  DE X B (.Call (.Attribute o m Z5) (e::es) [] pos) (c_ C m T EE n ta t):=by
 refine aS (K0 he c hm F hr Y .nil hx ha y hpl ht) ?_
 rintro Z H Q ⟨U,M,QQ,s,h,u⟩
 refine⟨U,M,_,s,h,λx M1 j v H1 b i1 L=>?_⟩
 split at j
 .rename_i a
  cases L
  split at j
  .rename_i C' fs W
   obtain⟨rfl,hl,j⟩:=j;obtain⟨O,J,R,S⟩:=b _ _ W;have l:J.lookup m=none:=by
    rcases S.lookup m with⟨_,z⟩|⟨d,v,z,_⟩
    .exact z
    simp_all
   refine⟨a,O,J,rfl,R,l,U,M1,_,s.go b i1,j,λds M2 G vs H2 q i2 I=>?_⟩;rw[TX];exact cI G.2 q (.cons rfl I) (by rw[Tt,<- I.length];exact G.1) (u.go<|i1.trans i2) ((s.ux ux).go<|i1.trans i2)
  trivial
 trivial
theorem FK{pl:Sem Bool}(S:DE X B o ta)(c:Cls X.K C)(Y:Meth X.K C m f)(F:FnOk X.prog X.w X.K X.mg X.base CX k f fd ps (bB X.K n T))(hr:Room k X.A)(O:Binds X.K fd ps [])(R:bH CX X E)(ux:vO X.K B EE E)(W:fx (.Call (.Attribute o m Z5) [] [] pos) X.env=(do
   let ov <- fx o X.env
   TD Z5.atName
   let (f,first) <- rc [ov] (S' ov m pl)
   Ze pos f first (g4 pos<|starEach [] X.env) (wh pos<|keywordEach [] X.env)):=by rfl):
  DE X B (.Call (.Attribute o m Z5) [] [] pos) (c_ C m T EE n ta af):=by
 refine aS (GR S c Y F hr O .nil R W) ?_
 rintro Z H Q ⟨U,M,QQ,s,h,u⟩
 refine⟨U,M,_,s,h,λx M1 b v H1 j i1 y=>?_⟩
 split at b
 .rename_i a
  cases y
  split at b
  .rename_i C' fs L
   obtain⟨rfl,hl,b⟩:=b;obtain⟨G,q,J,I⟩:=j _ _ L;have l:q.lookup m=none:=by
    rcases I.lookup m with⟨_,z⟩|⟨d,v,z,_⟩
    .exact z
    simp_all
   exact⟨a,G,q,rfl,J,l,cI b.2 j (.cons rfl .nil) b.1 (u.go i1)<|(s.ux ux).go i1⟩
  trivial
 trivial
def gT(C:cb)(T:Sd)(EE:DX)(n:Nat)(t:dY):b6:=λU M Q=>t U M λb M1=>b.length+1=n/\∀a,M1 a=bb->calls T EE (.ref a::b) (M1.upd a<|.ins C []) (λd M2=>match d with
 |.non=>Q (.ref a) M2
 |_=>False) ⟨⟩
theorem IB(Mk':Mk X.K C f)(F:FnOk X.prog X.w X.K X.mg X.base CX k f fd ps (bB X.K n T))(hr:Room (k+1) X.A)(hg:Gl X x)(hm:X.mg x=ap (.ref C))(hb:Binds X.K fd ps [])(hx:bH CX X E)(ux:vO X.K B EE E)(ha:DA X B (e::es) t)(hdb:(x==("__debug__":Str))=false:=by decide)(he:ee (e::es) X.env=(cp,fx e X.env)::ee es X.env:=by rfl)(hpl:(g4 pos<|starEach es X.env).any (·.1)=false:=by rfl):
  DE X B (.Call (.Name x p) (e::es) [] pos) (gT C T EE n t):=by
 refine aS (J_ Mk' F hr hg hm hb .nil hx ha hdb he hpl) ?_
 rintro Z H Q ⟨U,M,QQ,s,h,u⟩
 refine⟨U,M,_,s,h,λds M1 h1 vs H1 rh1 i1 r1 a dx na ndx nex=>?_⟩;rw[TX];have nx1:upd H1 dx (.own a) a=none:=by rw[aD (Tu nex)];exact na
 have f2:Frm M1 H1 (M1.upd a<|.ins C []) (upd (upd H1 dx<|.own a) a<|.ins C dx []):=(Frm.new ndx).trans (Frm.put<|.inl nx1);refine cI (h1.2 a<|rh1.fresh na) ((rh1.new ndx).put (by rw[nx1];trivial) ⟨dx,[],upd_same,.nil⟩) (.cons rfl<|(r1.mono<|Imm.new ndx).mono<|Imm.new nx1) (by rw[Tt,<- r1.length];exact h1.1) (λd M2 h2 v H2 rh f r=>?_) ((s.ux ux).go<|i1.trans f2)
 cases d with
 |non=>exact⟨r,u _ M2 h2 _ H2 rh ((i1.trans f2).trans f) rfl⟩
 |_=>exact(show False from h2).elim
end
section
variable{M1:Mem}{o:fv}{to:b6}{t:dY}{name:Str}{Z4:Pos}{Ty id:String}
abbrev yj:=D->List D->Mem->DK->Prop
inductive liftM(X:Cx)(r:yj)(x:V)(xs:List V)(H:Hp)(Q:VK):Prop
 |mk (d:D) (ds:List D) (M:Mem) (QQ:DK) (rh:RepH X.K H M) (rx:Rp X.K H d x) (rs:Rps X.K H ds xs) (h:r d ds M QQ) (u:Up X.K M H QQ Q):liftM X r x xs H Q
def ko(Ty:String)(r:yj)(to:b6)(t:dY):b6:=λU M Q=>to U M λx M1=>dE M1 x=ap Ty/\t U M1 λb M2=>r x b M2 Q
theorem Gx{d:D}{v:V}(l:RepH K H M)(r:Rp K H d v)(e:dE M d=ap Ty)(h:Ty="list"\/Ty="str"\/Ty="int"\/Ty="dict"):tyV K Ty v H:=by
 cases d with
 |non=>cases e;trivial
 |bl b=>cases e;trivial
 |int i=>cases r;cases e;rfl
 |str x=>cases r;cases e;rfl
 |tup xs=>cases e;trivial
 |lst xs=>
  cases e;obtain⟨p,s,rfl,u,r⟩:=r;exact .inl ⟨rfl,s,u.sq⟩
 |ref a=>
  cases r;simp[dE]at e
  split at e
  .rename_i q;cases e;obtain⟨j,c,m⟩:=l _ _ q;exact .inl ⟨rfl,j,SqL.of c⟩
  .rename_i q;cases e;obtain⟨j,c,m⟩:=l _ _ q;exact .inr (.inr<|.inl<|by simp_all)
  .rename_i q;cases e;obtain⟨j,c,m⟩:=l _ _ q;exact .inr (.inr<|.inl<|by simp_all)
  cases e
 |_=>cases e
theorem S2(L:Ty="list"\/Ty="str"\/Ty="int"\/Ty="dict")(O:UV Ty)(j:ZB Ty name id)(m:Y_ (.builtin id)=pure (.type "method_descriptor"))(J:wf X id (liftM X r))(I:DE X B o to)(G:DA X B (e::es) t)(c:kL o name X.env (fx o X.env)=fx o X.env:=by rfl)(hfew:((g4 Z4<|starEach (e::es) X.env).all (λx=>!x.1)&&(wh Z4<|keywordEach [] X.env).all (λx=>x.1.isSome)
   && decide ((e::es).length+([]:List vb).length+(if ([]:List vb).isEmpty then 0 else 1)<30))=true:=by rfl)(hline:(Z5.endLine==Z4.line)=true:=by rfl)(hs:ee (e::es) X.env=(cp,fx e X.env)::ee es X.env:=by rfl)(hplain:(g4 Z4<|starEach es X.env).any (·.1)=false:=by rfl):
  DE X B (.Call (.Attribute o name Z5) (e::es) [] Z4) (ko Ty r to t):=by
 refine aS (Ru O j m J I G c hfew hline hs hplain) ?_
 rintro Z H Q ⟨U,M,QQ,s,h,u⟩
 exact⟨U,M,_,s,h,λx M1 y v H1 b i1 q=>⟨Gx b q y.1 L,U,M1,_,s.go b i1,y.2,λA M2 z R H2 l i2 F=>⟨x,A,M2,QQ,l,q.mf b i2,F,z,u.go<|i1.trans i2⟩⟩⟩
theorem N8(A:Ty="list"\/Ty="str"\/Ty="int"\/Ty="dict")(F:UV Ty)(j:ZB Ty name id)(l:Y_ (.builtin id)=pure (.type "method_descriptor"))(z:wf X id (liftM X r))(y:DE X B o to)(b:kL o name X.env (fx o X.env)=fx o X.env:=by rfl)(hline:(Z5.endLine==Z4.line)=true:=by rfl):DE X B (.Call (.Attribute o name Z5) [] [] Z4) (ko Ty r to af):=by
 refine aS (Ml F j l z y b hline) ?_
 rintro Z H Q ⟨U,M,QQ,s,h,u⟩
 exact⟨U,M,_,s,h,λx M1 q v H1 c i1 m=>⟨Gx c m q.1 A,⟨x,[],M1,QQ,c,m,.nil,q.2,u.go i1⟩⟩⟩
def bv:yj:=λx b M Q=>match x,b with
 |.ref a,[y]=>match M a with
  |some (.lst xs)=>xs.length<sizeLine/\Q .non (M.upd a<|.lst (xs++[y]))
  |_=>False
 |_,_=>False
theorem xy:wf X "list.append" (liftM X bv):=by
 rintro Z0 s Z H x vs v us Q I rx rv ⟨d,ds,M,QQ,rh,r,rs,h,up⟩
 unfold bv at h
 split at h
 .rename_i a y
  cases r;obtain⟨w,rfl,rw'⟩:=eU (ds:=[]) rs
  split at h
  .rename_i xs hM
   obtain⟨ws,h1,h2⟩:=rh _ _ hM;exact D6 _ s Z H _ _ v us Q I rx rv ⟨a,ws,w,rfl,rfl,h1,by rw[<- h2.length];exact h.1,up _ _ h.2 _ _ (rh.put (by rw[h1];trivial) ⟨_,upd_same,(h2.append<|by trivial).mono<|Imm.upd<|by rw[h1];trivial⟩) (Frm.put<|.inr ⟨_,hM⟩) rfl⟩
  trivial
 trivial
def Ch:yj:=λx b M Q=>match x,b with
 |.ref a,[]=>match M a with
  |some (.lst xs)=>match xs[xs.length-1]? with
   |some y=>Q y (M.upd a<|.lst xs.dropLast)
   |none=>False
  |_=>False
 |.ref a,[.int i]=>match M a with
  |some (.lst xs)=>match wX xs.length i with
   |some k=>match xs[k]? with
    |some y=>Q y (M.upd a<|.lst<|xs.eraseIdx k)
    |none=>False
   |none=>False
  |_=>False
 |_,_=>False
theorem yG:wf X "list.pop" (liftM X Ch):=by
 rintro Z0 s Z H x vs v us Q I rx rv ⟨d,ds,M,QQ,rh,r,rs,h,up⟩
 unfold Ch at h
 split at h
 .rename_i a
  cases r;cases rs
  split at h
  .rename_i xs hM
   split at h
   .rename_i y ey
    obtain⟨ws,h1,h2⟩:=rh _ _ hM;obtain⟨w,hw,rw'⟩:=h2.get ey;have im:Imm H (upd H a<|.lst ws.dropLast):=Imm.upd (by rw[h1];trivial)
    exact Pw _ s Z H _ _ v us Q I rx rv ⟨a,ws,w,rfl,rfl,h1,by rw[<- h2.length];exact hw,up _ _ h _ _ (rh.put (by rw[h1];trivial) ⟨_,upd_same,h2.dropLast.mono im⟩) (Frm.put<|.inr ⟨_,hM⟩)<|rw'.mono im⟩
   trivial
  trivial
 .rename_i a i
  cases r;obtain⟨w0,rfl,rw0⟩:=eU (ds:=[]) rs;cases rw0
  split at h
  .rename_i xs hM
   split at h
   .rename_i k ek
    split at h
    .rename_i y ey
     obtain⟨ws,h1,h2⟩:=rh _ _ hM;obtain⟨w,hw,rw'⟩:=h2.get ey;obtain⟨j1,j2,j3,j4⟩:=qo ek;have hz:=(I.lstM h1).1;have hs:sizeLine=16777216:=rfl;have hl:=h2.length;have im:Imm H (upd H a<|.lst<|ws.eraseIdx k):=Imm.upd (by rw[h1];trivial)
     exact E_ _ s Z H _ _ v us Q I rx rv ⟨a,ws,i,k,w,rfl,rfl,h1,by lia,by lia,by rw[<- hl];exact j1,hw,up _ _ h _ _ (rh.put (by rw[h1];trivial) ⟨_,upd_same,(h2.eraseIdx k).mono im⟩) (Frm.put<|.inr ⟨_,hM⟩)<|rw'.mono im⟩
    trivial
   trivial
  trivial
 trivial
def jo:List D->Option (List Str)
 |[]=>ap []
 |.str x::ds=>match jo ds with
  |some xs=>ap (x::xs)
  |none=>bb
 |_=>bb
theorem vF:∀{ds:List D}{vs:List V}{xs:Z_},Rps K H ds vs->jo ds=ap xs->vs=xs.map V.str
 |[],vs,xs,r,e=>by cases e;exact r
 |d::ds,vs,xs,r,e=>by
  obtain⟨v,l,rfl,a,b⟩:=r;cases d with
  |str c=>
   simp[jo]at e
   split at e
   .rename_i h j
    cases e;cases a;rw[vF b j];rfl
   cases e
  |_=>cases e
def hZ:yj:=λx b M Q=>match x,b with
 |.tup xs,[.str z]=>match jo xs with
  |some names=>names.length<=1000/\match names.findIdx? (λy=>decide (y=z)) with
   |some j=>Q (.int (j:Nat)) M
   |none=>False
  |none=>False
 |_,_=>False
theorem xK:wf X "tuple.index" (liftM X hZ):=by
 rintro q s Z H x vs v y Q I J A ⟨d,ds,M,QQ,L,r,u,h,F⟩
 unfold hZ at h
 split at h
 .rename_i xs z
  obtain⟨p,ws,rfl,O,r⟩:=r;obtain⟨w,rfl,b⟩:=eU (ds:=[]) u;cases b
  split at h
  .rename_i c R
   obtain⟨G,h⟩:=h
   split at h
   .rename_i j l
    have:=vF r R;subst this;rw[WD]at l;obtain⟨Y,e1,S⟩:=l;refine C8 _ s Z H _ _ v y Q I J A ⟨p,_,z,j,rfl,rfl,O,G,?_,λm W=>?_,F _ M h _ H L Frm.refl rfl⟩
    .simp_all
    rw[SG _];simpa using (S m W)
   trivial
  trivial
 trivial
def Hn(r:yj)(to:b6)(t:dY):b6:=λU M Q=>to U M λx M1=>match x with
 |.tup xs=>t U M1 λb M2=>r (.tup xs) b M2 Q
 |_=>False
theorem P_(j:ZB "tuple" name id)(q:Y_ (.builtin id)=pure (.type "method_descriptor"))(R:wf X id (liftM X r))(O:DE X B o to)(L:DA X B (e::es) t)(b:kL o name X.env (fx o X.env)=fx o X.env:=by rfl)(hfew:((g4 Z4<|starEach (e::es) X.env).all (λx=>!x.1)&&(wh Z4<|keywordEach [] X.env).all (λx=>x.1.isSome)
   && decide ((e::es).length+([]:List vb).length+(if ([]:List vb).isEmpty then 0 else 1)<30))=true:=by rfl)(hline:(Z5.endLine==Z4.line)=true:=by rfl)(hs:ee (e::es) X.env=(cp,fx e X.env)::ee es X.env:=by rfl)(hplain:(g4 Z4<|starEach es X.env).any (·.1)=false:=by rfl):
  DE X B (.Call (.Attribute o name Z5) (e::es) [] Z4) (Hn r to t):=by
 refine aS (PY j q R O L b hfew hline hs hplain) ?_
 rintro Z H Q ⟨U,M,QQ,s,h,u⟩
 refine⟨U,M,_,s,h,λx M1 z v H1 c i1 y=>?_⟩;cases x with
 |tup xs=>
  have l:=y;obtain⟨p,A,rfl,F,S⟩:=l;exact⟨⟨p,A,rfl,F⟩,U,M1,_,s.go c i1,z,λI M2 G A H2 m i2 J=>⟨_,I,M2,QQ,m,y.mf c i2,J,G,u.go<|i1.trans i2⟩⟩
 |_=>exact z.elim
def KL:b6:=λ_ M Q=>∀p,M p=bb->Q (.ref p) (M.upd p<|.dT [])
theorem J1:DE X B (.Dict [] [] pos) KL:=by
 refine aS GL ?_
 rintro Z H Q ⟨U,M,QQ,s,h,u⟩ p hp
 exact u _ _ (h p<|s.rh.fresh hp) _ _ (s.rh.put (by rw[hp];trivial) ⟨[],upd_same,.nil⟩) (Frm.put<|.inl hp) rfl
noncomputable def KY(ks:List aF)(ys:List D):List (aF×D):=(ks.zip ys).foldl (λa p=>dL a p.1 p.2) []
theorem vW:∀{ks:List aF}{ds:List D}{vs:List V}{a:List (aF×D)}{b:List (aF×V)},Rps K H ds vs->Rkv K H a b->
  Rkv K H ((ks.zip ds).foldl (λa p=>dL a p.1 p.2) a) ((ks.zip vs).foldl (λa p=>eV a p.1 p.2) b)
 |[],_,_,_,_,_,r=>r
 |_::_,[],_,_,_,h,r=>by cases h;exact r
 |k::ks,d::ds,_,_,_,h,r=>by
  obtain⟨v,vs,rfl,a,b⟩:=h;exact vW (ks:=ks) b (r.put k a)
def fX(t:dY):b6:=λU M Q=>t U M λb M1=>match b with
 |[.tup xs,.tup ys]=>match eI xs with
  |some ks=>ks.length=ys.length/\0<ks.length/\ks.length<=1000/\∀p,M1 p=bb->Q (.ref p) (M1.upd p<|.dK<|KY ks ys)
  |none=>False
 |_=>False
theorem xh{b:fv}{p2 pos2:Pos}(hc:X.calm=true)(hg:Gl X "zip")(hm:X.mg "zip"=bb)(hg2:Gl X "dict")(hm2:X.mg "dict"=bb)(ha:DA X B [a,b] ta)(hs:ee [a,b] X.env=[(cp,fx a X.env),(cp,fx b X.env)]:=by rfl)(hs2:ee [b] X.env=[(cp,fx b X.env)]:=by rfl)(hs3:ee [XD (.Name "zip" p2) [a,b] [] pos2] X.env=[(cp,fx (.Call (.Name "zip" p2) [a,b] [] pos2) X.env)]:=by rfl):
  DE X B (.Call (.Name "dict" p) [.Call (.Name "zip" p2) [a,b] [] pos2] [] pos) (fX ta):=by
 refine aS (xa cp cp hc hg hm hg2 hm2 ha hs hs2 hs3) ?_
 rintro Z H Q ⟨U,M,QQ,s,h,u⟩
 refine⟨U,M,_,s,h,λds M1 h1 vs H1 rh1 i1 r1=>?_⟩
 split at h1
 .obtain⟨v,w,rfl,rv,rw'⟩:=J2 r1
  obtain⟨l1,us,rfl,t1,ru⟩:=rv;obtain⟨l2,ws,rfl,t2,rw2⟩:=rw'
  split at h1
  .rename_i ks ek
   obtain⟨e1,e2,e3,h1⟩:=h1;have hk:=mY ru ek;subst hk;exact⟨l1,l2,ks,ws,rfl,t1.sq,t2.sq,by rw[<- rw2.length];exact e1,e2,e3,λd hd=>u _ _ (h1 d<|rh1.fresh hd) _ _ (rh1.put (by rw[hd];trivial) ⟨_,upd_same,(vW rw2 .nil).mono<|Imm.new hd⟩) (i1.trans<|Frm.put<|.inl hd) rfl⟩
  trivial
 trivial
end
section
variable{cd:ay}{A:g3}{outer:List Env}{s0:ca}{H0:Hp}
theorem Kj{t:TS}{E':aad}(h:PS X st t)(k:∀e s,X.xe e s->E' e s):PS (X.wish E') st t:=λc s Z H D I q=>
 kB (h _ s Z H D I.unwish q) (λf j z=>by
  cases f with
  |ret u=>obtain⟨v,b,H',I,r,q⟩:=z;exact⟨v,_,H',I.wish _,r,q⟩
  |_=>obtain⟨b,H',I,q⟩:=z;exact⟨_,H',I.wish _,q⟩) k
def lI(C:cb)(EE:DX):ar:=λ_ _ M=>EE C M
theorem Gf{b:Str}{c Z4:Pos}{jj}(X:ExcAt K C)(m:mg x=ap (.ref C))(ux:vO K B EE E)(l:Gl (eG (pi P w) P w K mg base N Z1 scope f cd A outer s0 H0 E) x)(o:(x==("__debug__":Str))=false:=by decide)(hs:ee [.Constant (.str b) jj Z5] (eG (pi P w) P w K mg base N Z1 scope f cd A outer s0 H0 E).env=[(cp,fx (.Constant (.str b) jj Z5) (eG (pi P w) P w K mg base N Z1 scope f cd A outer s0 H0 E).env)]:=by rfl):
  DS (eG (pi P w) P w K mg base N Z1 scope f cd A outer s0 H0 E) B (.Raise (ap<|.Call (.Name x c) [.Constant (.str b) jj Z5] [] Z4) bb pos) (lI C EE):=by
 have j:PS (eG (pi P w) P w K mg base N _ _ f cd A outer s0 H0 E) (.Raise (ap<|.Call (.Name x c) _ [] Z4) _ pos) _:=
  Kj (GE X m l o hs) λe s h=>kB h (λ_ _ z=>⟨C,z⟩) λ_ _ z=>⟨C,z⟩
 refine bR j ?_
 rintro D Z H ⟨U,M,DD,s,h,q⟩
 exact ux C M h H s.rh s.i0
end
section
def Mo(C:cb)(T:Sd)(n:Nat)(ta:dY)(ts:ar):ar:=λD U M=>ta U M λb M1=>b.length=n/\calls T (λC' M2=>C'=C/\ts D U M2) b M1 (λ_ M2=>D.nx U M2) ⟨⟩
theorem SR.mark{e:ay}(s:SR X B U M Z H):SR (X.marked e) B U M Z H:=⟨s.i0,s.rh,s.rs⟩
theorem SR.unmark{e:ay}(s:SR (X.marked e) B U M Z H):SR X B U M Z H:=⟨s.i0,s.rh,s.rs⟩
theorem UpD.mark{DD:DEnds}{D:Ends}{e:ay}(u:UpD X B M H DD D):UpD (X.marked e) B M H DD D:=
 ⟨λU M q Z H' f s=>u.nx U M q Z H' f s.unmark,u.rt,λU M q Z H' f s=>u.bk U M q Z H' f s.unmark,λU M q Z H' f s=>u.ct U M q Z H' f s.unmark⟩
theorem Hv{k:Nat}{sp:Sp}(F:FnOk P w K mg base (pi P w) k f fd ps sp):
  FnOk P w K mg base (Dj P w C) k f fd ps (λvs H Q E=>sp vs H Q λCv a H'=>Cv=.ref C/\E Cv a H'):=
 ⟨λvs H Q E=>F.len _ _ _ _,λA b s H j u vs Q E W v l o R=>P' (F.run A _ s H _ u vs Q _ W v l o R) λr s' h=>by
  cases r with
  |ok fl=>cases fl<;>exact h
  |error e=>
   obtain⟨C',z,H',B,a0,I,G,O,q,m,L,J,Y,S,c⟩:=h;have y:C'=C:=by injection S
   subst y;exact⟨z,H',B,a0,I,G,O,q,m,L,J,Y,c⟩⟩
theorem wa{k:Nat}{q:Str}{R ep np o:Pos}{c:q0}{b:aac}{I:ar}(J:X.stack=X.env::X.outer)(G:X.env.frame=ap X.env.locals)(F:FnOk X.prog X.w X.K X.mg X.base (pi X.prog X.w) k f fd ps (bB X.K n T))(hr:Room k X.A)(hg:Gl X x)(hm:X.mg x=ap (.ref f))(hk:Ur X.K (.ref f)=true)(hb:Binds X.K fd ps [])(ha:DA X.nox B (e::es) ta)(EX:ExcAt X.K C)(L:Gl X q)(O:X.mg q=ap (.ref C))(W:∀y:cb,B9 (X.marked<|.ref y) B (c::b) I)(S:(x==("__debug__":Str))=false:=by decide)(hdC:(q==("__debug__":Str))=false:=by decide)(he:ee (e::es) X.env=(cp,fx e X.env)::ee es X.env:=by rfl)(hpl:(g4 R<|starEach es X.env).any (·.1)=false:=by rfl)(hsw:re (.Call (.Name x p) (e::es) [] R) bb ep.line X.env=pure false:=by rfl):
  DS X B (.Try [.Expr (.Call (.Name x p) (e::es) [] R) ep] [.ExceptHandler (ap<|.Name q np) bb (c::b) o] [] [] pos) (Mo C T n ta I):=by
 have m:∀y:cb,zr _ _ (liftS X B I):=λy=>nT (W y) (by rintro D Z H ⟨U,M,DD,s,h,u⟩;exact⟨U,M,DD,s.mark,h,u.mark⟩)
 refine bR (wK J G (Hv F) hr hg hm hk hb .nil ha EX L O m S hdC he hpl hsw) ?_
 rintro D Z H ⟨U,M,DD,s,h,up⟩
 refine⟨U,M,_,⟨s.i0,s.rh,s.rs⟩,h,λds M1 h1 vs H1 z i1 Y=>?_⟩
 try dsimp only
 rw[TX];refine cI h1.2 z Y (by rw[<- Y.length];exact h1.1) (λd M2 l v H2 j i2 r2=>?_) λC' M2 l H2 j i2=>?_
 .exact up.nx _ _ l Z H2 (i1.trans i2) (s.go j<|i1.trans i2)
 obtain⟨rfl,l⟩:=l;exact⟨rfl,U,M2,DD,s.go j (i1.trans i2),l,up.go<|i1.trans i2⟩
end
end _3
namespace _2
open PySem PySem.Spec PyProof.Rows
theorem fZ{scope:F'}{env:Env}{x:Str}{k:Zw}(h:(T0 scope env).names.lookup x=ap k):∃c,(x,c)∈scope.names/\(k=c\/(c=.free/\k=.cell)):=by
 obtain⟨⟨n,b⟩,e,f⟩:=SV.mp (Uu h)
 by_cases g:(b==NameKind.free&&env.scope.kind==.function&&env.kindOf n==ap .cell)=true
 .have a:(n,NameKind.cell)=(x,k):=by rw[<- f];show _=(if _ then _ else _);rw[if_pos g]
  cases a;exact⟨b,e,by lia⟩
 have a:(n,b)=(x,k):=by rw[<- f];show _=(if _ then _ else _);rw[if_neg g]
 cases a;exact⟨_,e,.inl rfl⟩
theorem jK{x:Str}:∀{fs:Z_}{a:aaa},fs.length=a.length->x∈fs->∃c,(fs.zip a).lookup x=ap c
 |[],_,_,h=>by cases h
 |_::_,[],h,_=>by simp at h
 |y::fs,c::a,hl,h=>by
  rw[Yg,WR];cases e:x==y with
  |true=>simp_all
  |false=>
   rcases SQ.mp h with z|z
   .simp_all
   exact jK (by simp_all) z
theorem HA{X:Cx}{a:F'}{ls fs:Z_}{g:aaa}{l:List Nat}(n:a.kind=.function)(e:∀y∈a.names,y.2≠.cell/\(y.2=.free->y.1∈fs))(q:∀x∈a.names,x.2=.local->a.names.lookup x.1=ap .local)
  (f:fs.length=g.length) (j:Za a X.env=pure (fs.zip g)) (o:∀p∈fs.zip g,X.env.cells.lookup p.1=ap p.2) (r:Frees X a fs l):CompOk X a (fs.zip g) ls fs l where
 kind:=n
 nocell:=λy i=>(e y i).1
 locs:=q
 clos:=j
 cells:=λy d h=>o (y,d) (Uu h)
 has:=λy h=>by
  have i:y∈fs:=by
   rcases h with h|h
   .obtain⟨m,c,b|⟨b,_⟩⟩:=fZ h
    .exact absurd b.symm (e _ c).1
    .exact(e _ c).2 b
   .obtain⟨m,c,b|⟨b,_⟩⟩:=fZ h
    .exact(e _ c).2 b.symm
    .exact(e _ c).2 b
  exact jK f i
 frees:=r
theorem memZ{α:Type}{C:α->Prop}:∀p∈([]:List α),C p:=λ_ h=>by cases h
theorem memC{α:Type}{C:α->Prop}{a:α}{l:List α}(c:C a)(e:∀p∈l,C p):∀p∈a::l,C p:=λp b=>by
 rcases SQ.mp b with rfl|z
 .exact c
 simp_all
end _2
namespace _3
open PySem _2
variable{K:SM}
section
variable{X:Cx}{B:Bd}{pos:Pos}
theorem dnm(i:Nat){x:Str}{pos:Pos}(a:X.N[i]?=ap x:=by rfl)(hv:PR X.env.scope x:=by first|exact Or.inl rfl|exact Or.inr (Or.inl rfl)|exact Or.inr (Or.inr rfl))(hd:(x==("__debug__":Str))=false:=by decide)(hcd:(x==("__classdict__":Str))=false:=by decide):DE X B (.Name x pos) (ac i):=O0 a hv hd hcd
def kC:DX:=λ_ _=>False
theorem uxN{E:XK}:vO K B kC E:=λ_ _ z=>z.elim
theorem lE:eT "list"=ap (.type "list"):=by rfl
theorem pB:eT "tuple"=ap (.type "tuple"):=by rfl
theorem HH:eT "all"=ap (.builtin "all"):=by rfl
theorem lD:eT "isinstance"=ap (.builtin "isinstance"):=by rfl
theorem Fn:eT "bool"=ap (.type "bool"):=by rfl
theorem JP:eT "int"=ap (.type "int"):=by rfl
theorem Jb:eT "str"=ap (.type "str"):=by rfl
theorem tJ:eT "dict"=ap (.type "dict"):=by rfl
theorem kN:eT "min"=ap (.builtin "min"):=by rfl
theorem Jv:eT "max"=ap (.builtin "max"):=by rfl
theorem zm:eT "len"=ap (.builtin "len"):=by rfl
theorem QY{x:Str}{T:String}(e:Gl X x)(c:X.mg x=bb)(a:eT x=ap (.type T))(b:x≠"__name__":=by decide)(hd:(x==("__debug__":Str))=false:=by decide):DE X B (.Name x pos) (dC<|.ty T):=
 FN (Jy (v:=.ty T) e c a rfl b hd) λ_=>rfl
def frzs:List D->Mem->(List D->Mem->Prop)->Prop
 |[],M,Q=>Q [] M
 |d::ds,M,Q=>match d with
  |.ref a=>match M a with
   |some (.lst xs)=>frzs ds (M.del a) λb M'=>Q (.lst xs::b) M'
   |_=>frzs ds M λb M'=>Q (d::b) M'
  |_=>frzs ds M λb M'=>Q (d::b) M'
theorem iM{Z0:aae}{Z:_2.St}{s:ca}:∀{ds:List D}{vs:List V}{M:Mem}{H:Hp}{Q:List D->Mem->Prop},Inv X Z0 Z H s->RepH X.K H M->Rps X.K H ds vs->frzs ds M Q->
  ∃H' es M',Inv X Z0 Z H' s/\RepH X.K H' M'/\Frm M H M' H'/\Rps X.K H' es vs/\Q es M'
 |[],vs,M,H,Q,I,rh,r,h=>⟨H,[],M,I,rh,Frm.refl,r,h⟩
 |d::ds,vs,M,H,Q,I,rh,r,h=>by
  obtain⟨v,vs',rfl,a,b⟩:=r;unfold frzs at h
  split at h
  .rename_i a'
   cases a
   split at h
   .rename_i xs e
    obtain⟨ws,h1,h2⟩:=rh _ _ e;obtain⟨o,I2⟩:=Inv.freeze I h1;have im:Imm H (upd H a'<|.frz o<|.lst ws):=Imm.upd (by rw[h1];trivial)
    obtain⟨H',es,M',I',rh',f,r',q⟩:=iM I2 (rh.freeze h1) (b.mono im) h;refine⟨H',_,M',I',rh',(Frm.del ⟨_,e⟩).trans f,.cons ?_ r',q⟩;have z:Rp _ _ (.lst xs) _:=⟨a',ws,rfl,⟨o,upd_same⟩,h2.mono im⟩;exact z.mf (rh.freeze h1) f
   obtain⟨H',es,M',I',rh',f,r',q⟩:=iM I rh b h;exact⟨H',_,M',I',rh',f,.cons (d:=.ref a') rfl r',q⟩
  obtain⟨H',es,M',I',rh',f,r',q⟩:=iM I rh b h;exact⟨H',_,M',I',rh',f,.cons (a.mf rh f) r',q⟩
def frzT(d:D)(M:Mem)(Q:DK):Prop:=match d with
 |.tup ds=>frzs ds M λa M'=>Q (.tup a) M'
 |d=>Q d M
def pG(t:b6):b6:=λU M Q=>t U M λd M'=>frzT d M' Q
theorem Kk{e:fv}{te:b6}(h:DE X B e te):DE X B e (pG te):=by
 rintro c s Z H Q I ⟨U,M,QQ,o,x,u⟩
 refine bu (h _ s Z H (λv H'=>∃d M',RepH _ H' M'/\Frm M H M' H'/\Rp _ H' d v/\frzT d M' QQ) I ⟨U,M,_,o,x,λd M' q v H' a i r=>⟨d,M',a,i,r,q⟩⟩) ?_
 rintro w y ⟨v,H',I',f,d,M',a,i,r,q⟩
 unfold frzT at q
 split at q
 .obtain⟨p,n,rfl,j,r⟩:=r
  obtain⟨H2,z,M2,I2,b,g,m,l⟩:=iM I' a r q;exact⟨_,H2,I2,f,u _ _ l _ H2 b (i.trans g) ⟨p,n,rfl,j.mono (g.imm a),m⟩⟩
 exact⟨v,H',I',f,u _ _ q v H' a i r⟩
theorem MP{P:eX}{w:f'}{g:aaf}{a:fy}{k n:Nat}{f:cb}{fd:hG}{i:Z_}{T:Sd}(F:FnOk P w K g a (pi P w) k f fd i (bB K n T)):
  FnOk P w K g a CX0 k f fd i (λvs H Q _=>bB K n T vs H Q E0):=
 ⟨λvs H Q E h=>F.len _ _ _ _ h,λA b s H c m vs Q E u o j l p=>P' (F.run A b s H c m vs Q E0 u o j l p) λr y h=>by
  cases r with
  |ok fl=>cases fl<;>exact h
  |error e=>
   obtain⟨C',z,H',B,N,G,C,L,x,v,J,I,M,q⟩:=h;exact(show False from q).elim⟩
theorem IA{T:Sd}{H:Hp}{a:cb}{c:Z9}{Q:VK}(i:GG H)(g:SqL K H a (c.map V.int))(h:T [.ml (c.map D.int)] (λ_=>bb) (λd _=>d=.bl true) kC)(k:∀H',Q (.bl true) H'):bB K 1 T [.ref a] H Q E0:=by
 refine⟨rfl,[.ml _],_,_,_,λb o e=>(by cases e),.cons ⟨a,_,rfl,?_,vV rfl⟩ .nil,h,λd M' q v H' j f r=>?_,λ_ _ z=>z.elim⟩
 .rcases g with (z|z)|z
  .rcases i a with e|⟨o,xs,e⟩
   .simp_all
   simp_all
  .exact .inl z
  exact .inr z
 subst q;cases r;exact k H'
end
theorem jR{h h':fy}{N:cb}(X:K.In h)(X':K.In h')(e:W.nsOkIn K N=true):h'.nsMap N=h.nsMap N:=by
 unfold W.nsOkIn at e
 split at e
 .rename_i a
  unfold Heap.nsMap;rw[X _ _ a,X' _ _ a]
 cases e
theorem hW{h:fy}{C:cb}(X:K.In h)(q:X3 K C [.type "ValueError",.type "Exception",.type "BaseException",.type "object"] "ValueError.__new__"=true):ExcAt K C:=by
 unfold X3 at q
 split at q
 .rename_i H G p y
  split at q
  .rename_i C' w g m r i n o v u
   simp only[Uy,beq_iff_eq,Bool.not_eq_true']at q;obtain⟨⟨⟨⟨⟨rfl,rfl⟩,b⟩,j⟩,a⟩,c⟩:=q;obtain⟨nm,bs,z,s,A,E,B,sub,x,f,del⟩:=G;dsimp only at v b a c;subst v b;have e:p=#[g,m,r,i,ap (.builtin "ValueError.__new__"),o]:=by
    obtain⟨l⟩:=p;simp only at u;rw[u]
   subst e;refine⟨⟨nm,A,s,bs,w,_,E,B,sub,x,f,H,g,m,r,i,o,"ValueError.__new__","ValueError.__init__","ValueError",h.nsMap s,λI X'=>⟨X' _ _ y,?_,W.tail_of_in X' j⟩,W.nsMap_none_of_in X a c,PySem.F.excBase_ValueError,by decide,(W.tail_of_in X j).hasType<|by decide⟩⟩
   rw[<- jR X X' a];exact .of_isNs (W.isNs_of_in X' a)
  .cases q
 .cases q
end _3
namespace _2
open PySem
theorem JS{b:fv}{a:List Comprehension}{scope:F'}{pos f:Pos}{x:Str}{line:Nat}{env:Env}(g:env.blockKind=.function)(h:env.scope.names.lookup x=ap .local)(i:f.line=pos.line)
  (j:(scope.names.any λ(n,k)=>n==x&&(k==.local||k==.cell))=cp):re (.ListComp b a scope pos) (ap<|.Name x f) line env=pure true:=by
 have e:(Expr.ListComp b a scope pos).pos=pos:=rfl;have c:env.kindOf x=ap .local:=h;unfold re
 try dsimp only
 rw[g,c,e,i,j];simp
end _2
namespace _3
open PySem _2
variable{B:Bd}{X:Cx}{es:aab}
noncomputable def Gg:fv->Bool
 |.Starred ..=>cp
 |_=>true
theorem CO{e:fv}{env:Env}(h:Gg e=true):ee (e::es) env=(cp,fx e env)::ee es env:=by
 cases e<;>first|rfl|trivial
section
theorem da_c{e:fv}{te:b6}{t:dY}(a:DE X B e te)(c:DA X B es t)(b:Gg e=true:=by rfl):DA X B (e::es) (aa te t):=JT a c (CO b)
end
section
end
section
def wH(n:Nat)(t:oN):je:=λd U M Q=>match d with
 |.lst xs=>xs.length=n/\t xs U M Q
 |.ref a=>match M a with
  |some (.lst xs)=>xs.length=n/\t xs U M Q
  |_=>False
 |_=>False
theorem PF{k:Nat}{t:oN}{n:Nat}{pos:Pos}(y:X.calm=true)(h:Ry X B es t)(G:(oD es X.env).length=n:=by rfl)(hst:(oD es X.env).findIdx? (·.1)=none:=by rfl):DG X B (.Tuple es k pos) (wH n t):=by
 rintro a s Z H v u Q I r ⟨d,U,M,QQ,q,w,hd,x⟩
 cases d with
 |lst l=>
  obtain⟨p,m,rfl,C,i⟩:=w;obtain⟨A,hd⟩:=hd;cases r;obtain⟨g,c,pl,F⟩:=I.list C.sq;have f:(oD es X.env).length=g.toArray.size:=by have:=c.length;have:=i.length;simp_all
  refine ax (W' ?_);unfold unpack;rw[f,hst];refine ax (kr (W.kun_itemsOf (I.ok.hd y) pl.isList λE j=>?_));have I1:Inv X a Z H _:=I.kept (t':=s.toks) λb o e=>j b o (SY<|SI e) e;exact h a _ Z H m _ Q I1 (by assumption) ⟨l,U,M,QQ,q,i,hd,x⟩
 |ref p=>
  cases w;simp[wH]at hd
  split at hd
  .rename_i l e
   obtain⟨m,z,i⟩:=q.rh _ _ e;obtain⟨A,hd⟩:=hd;cases r;obtain⟨g,c,pl,F⟩:=I.list (SqL.of z);have f:(oD es X.env).length=g.toArray.size:=by have:=c.length;have:=i.length;simp_all
   refine ax (W' ?_);unfold unpack;rw[f,hst];refine ax (kr (W.kun_itemsOf (I.ok.hd y) pl.isList λE j=>?_));have I1:Inv X a Z H _:=I.kept (t':=s.toks) λb o e=>j b o (SY<|SI e) e;exact h a _ Z H m _ Q I1 (by assumption) ⟨l,U,M,QQ,q,i,hd,x⟩
  trivial
 |_=>trivial
end
mutual
noncomputable def fI:D->PyData
 |.non=>.none
 |.bl b=>.bool b
 |.int i=>.int i
 |.str x=>.str x
 |.tup xs=>.tuple (fQ xs)
 |.lst xs=>.list (fQ xs)
 |_=>.none
noncomputable def fQ:List D->List PyData
 |[]=>[]
 |x::xs=>fI x::fQ xs
end
mutual
theorem xm:∀d:D,(fI d).hasDict=cp
 |.non=>by simp only[fI,Ud]
 |.bl _=>by simp only[fI,Ud]
 |.int _=>by simp only[fI,Ud]
 |.str _=>by simp only[fI,Ud]
 |.tup xs=>by simp only[fI,Ud];exact rM xs
 |.lst xs=>by simp only[fI,Ud];exact rM xs
 |.ty _=>by simp only[fI,Ud]
 |.ref _=>by simp only[fI,Ud]
 |.mt _=>by simp only[fI,Ud]
 |.ml _=>by simp only[fI,Ud]
 |.fd _ _=>by simp only[fI,Ud]
theorem rM:∀xs:List D,WA (fQ xs)=cp
 |[]=>by simp only[fQ,WA]
 |x::xs=>by simp only[fQ,WA,xm x,rM xs,Bool.or_self]
end
mutual
theorem uU:∀(n:Nat)(d:D),bT n d=true->(fI d).depth<=n
 |_,.non,_=>by simp[fI,Vy]
 |_,.bl _,_=>by simp[fI,Vy]
 |_,.int _,_=>by simp[fI,Vy]
 |_,.str _,_=>by simp[fI,Vy]
 |n+1,.tup xs,f=>by have:=jr n xs f;simp only[fI,Vy];lia
 |n+1,.lst xs,f=>by have:=jr n xs f;simp only[fI,Vy];lia
 |0,.tup _,f=>by simp[bT]at f
 |0,.lst _,f=>by simp[bT]at f
 |_,.ty _,f=>by simp[bT]at f
 |_,.ref _,f=>by simp[bT]at f
 |_,.mt _,f=>by simp[bT]at f
 |_,.ml _,f=>by simp[bT]at f
 |_,.fd _ _,f=>by simp[bT]at f
theorem jr:∀(n:Nat)(xs:List D),fits n xs=true->WN (fQ xs)<=n
 |_,[],_=>by simp[fQ,WN]
 |n,x::xs,f=>by
  rw[fits,Uy]at f;have:=uU n x f.1;have:=jr n xs f.2;simp only[fQ,WN];lia
end
mutual
theorem uW{h:fy}:∀(d:D)(u:ay),Hr h d u->∃as,Reads h u (fI d) as
 |.non,u,q=>by cases q;exact⟨_,.none⟩
 |.bl _,u,q=>by cases q;exact⟨_,.bool _⟩
 |.int _,u,q=>by obtain⟨t,rfl⟩:=q;exact⟨_,.int _ _⟩
 |.str _,u,q=>by obtain⟨t,rfl⟩:=q;exact⟨_,.str _ _⟩
 |.tup xs,u,q=>by
  obtain⟨p,a,rfl,⟨o,b,c,n,f⟩,r⟩:=q;obtain⟨as,e⟩:=jf xs a r;exact⟨_,.tuple b c f e⟩
 |.lst xs,u,q=>by
  obtain⟨p,a,rfl,⟨o,b,c,n,f⟩,r⟩:=q;obtain⟨as,e⟩:=jf xs a r;exact⟨_,.list b c f e⟩
 |.ty _,_,q=>q.elim
 |.ref _,_,q=>q.elim
 |.mt _,_,q=>q.elim
 |.ml _,_,q=>q.elim
 |.fd _ _,_,q=>q.elim
theorem jf{h:fy}:∀(xs:List D)(us:Z'),Hrs h xs us->∃as,ReadsAll h us (fQ xs) as
 |[],_,q=>by cases q;exact⟨_,.nil⟩
 |x::xs,_,q=>by
  obtain⟨u,r,rfl,a,b⟩:=q;obtain⟨f,c⟩:=uW x u a;obtain⟨g,e⟩:=jf xs r b;exact⟨_,.cons c e⟩
end
section
end
theorem GD:eT "repr"=ap (.builtin "repr"):=by rfl
end _3
namespace _S
open PySem
variable{A:g3}{prog:eX}{s:ca}{E:aad}{w:f'}
section
variable{K:Type}[DecidableEq K]
variable{knd:KeyKind prog w K}
end
section
variable{K:Type}[DecidableEq K]{knd:KeyKind prog w K}
end
section
variable{M:Model}
end
section
variable{I a:cb}{f:ay}{i n ep:Nat}{es:Array (Int×ay)}{t:SetTable}
end
section
variable{I a:cb}{ep:Nat}{es:Array (Int×ay)}{t:SetTable}
end
end _S
namespace _S
open PySem PySem.W PySem.Calls PyProof.Rows PyProof.V PySem.Spec
section
variable {prog:eX}{w:f'}{A:g3}{E:aad}{s:ca}{a:cb}{ep:Nat}{es:Array (Int×ay)}{t:SetTable}
end
end _S
namespace _S
open PySem
section
variable {prog:eX}{w:f'}{A:g3}{E:aad}{s:ca}{a:cb}
end
structure Ord(K:Type) where
 lt:K->K->Bool
 anti:∀x y,lt x y=cp->lt y x=cp->x=y
 tr:∀x y z,lt y x=cp->lt z y=cp->lt z x=cp
 asym:∀x y,lt x y=true->lt y x=cp
section
variable {K:Type}[DecidableEq K](o:Ord K)
abbrev PU(l:List K):Prop:=l.Pairwise λa b=>o.lt b a=cp
noncomputable def ins(x:K):List K->List K
 |[]=>[x]
 |y::r=>if o.lt y x=true then y::ins x r else x::y::r
noncomputable def Hl:List K->List K
 |[]=>[]
 |x::r=>ins o x (Hl r)
theorem mI(x:K):∀l:List K,(ins o x l).Perm (x::l)
 |[]=>Yb _
 |y::r=>by
  unfold ins
  by_cases h:o.lt y x=true
  .rw[if_pos h];exact(Yc y<|mI x r).trans (List.Perm.swap ..)
  simp_all
theorem mJ:∀l:List K,(Hl o l).Perm l
 |[]=>Yb _
 |x::r=>(mI o x _).trans (Yc x<|mJ r)
theorem A8(x:K):∀l:List K,PU o l->PU o (ins o x l)
 |[],_=>by simp[ins]
 |y::r,h=>by
  unfold ins;have b:=U8.mp h
  by_cases c:o.lt y x=true
  .rw[if_pos c]
   refine U8.mpr ⟨λz a=>?_,A8 x r b.2⟩;rcases SQ.mp ((mI o x r).mem_iff.mp a) with rfl|q
   .exact o.asym _ _ c
   simp_all
  rw[if_neg c];have e:o.lt y x=false:=by simpa using c
  refine U8.mpr ⟨λz a=>?_,h⟩;rcases SQ.mp a with rfl|q
  .exact e
  exact o.tr _ _ _ e (b.1 z q)
theorem sE:∀l:List K,PU o (Hl o l)
 |[]=>Xh
 |x::r=>A8 o x _ (sE r)
theorem G6:∀(a b:List K),PU o a->PU o b->a.Perm b->a=b
 |[],b,_,_,p=>by simp_all
 |x::a,b,ha,hb,p=>by
  cases b with
  |nil=>simp_all
  |cons y b=>
   have f:=U8.mp ha;have c:=U8.mp hb;have e:x=y:=by
    rcases SQ.mp (p.mem_iff.mp<|TF ..) with e|hx
    .exact e
    rcases SQ.mp (p.symm.mem_iff.mp<|TF ..) with e|hy
    .exact e.symm
    exact o.anti _ _ (c.1 x hx) (f.1 y hy)
   subst e;rw[G6 a b f.2 c.2 (by simp_all)]
theorem P1{a l:List K}(b:PU o a)(p:a.Perm l):a=Hl o l:=G6 o _ _ b (sE o l) (p.trans (mJ o l).symm)
end
end _S
namespace _3
open PySem _2 _S
section
variable {X:Cx}{B:Bd}
theorem xl:eT "sorted"=ap (.builtin "sorted"):=by rfl
end
end _3
namespace _S
open PySem
section
variable {prog:eX}{w:f'}{A:g3}{E:aad}{s:ca}{a:cb}
end
end _S
namespace _3
open PySem _2 _S
def eK:List D->Option (List Int)
 |[]=>ap []
 |.int i::ds=>match eK ds with
  |some is=>ap (i::is)
  |none=>bb
 |_=>bb
theorem ia:∀a:List Int,eK (a.map D.int)=ap a
 |[]=>rfl
 |x::a=>by rw[SJ,eK,ia a]
theorem ix{K:SM}{H:Hp}:∀{ds:List D}{vs:List V}{xs:Z9},Rps K H ds vs->eK ds=ap xs->vs=xs.map V.int
 |[],vs,xs,r,e=>by cases e;exact r
 |d::ds,vs,xs,r,e=>by
  obtain⟨v,h,rfl,a,b⟩:=r;cases d with
  |int c=>
   simp[eK]at e
   split at e
   .rename_i f g
    cases e;cases a;rw[ix b g];rfl
   cases e
  |_=>trivial
theorem EK:∀{a:Z9}{us:Z'},Vals (a.map V.int) us->PyProof.Rows.IntsAre us a:=by
 intro a
 induction a with
 |nil=>intro us h;cases h;exact .nil
 |cons x a ih=>intro us h;cases h with|cons r t=>obtain⟨u,rfl⟩:=r;exact .cons _ _ (ih t)
section
variable {X:Cx}{B:Bd}
end
end _3
namespace _2
open PySem
section
variable {X:Cx}
end
end _2
namespace _3
open PySem _2 _S
section
variable {X:Cx}{B:Bd}
theorem Db:eT "range"=ap (.type "range"):=by rfl
def uR(t:dY):b6:=λU M Q=>t U M λa M1=>match a with
 |[.int j]=>(-(2 ^ 62)<=j/\j<=1000)/\∀p,M1 p=bb->Q (.ref p) (M1.upd p<|.lst<|cE 0 j.toNat)
 |_=>False
noncomputable def wE(n:Nat):List V:=(Te n).map λ(i:Nat)=>V.int (0+(i:Int))
theorem Iu{K:SM}{H:Hp}{n:Nat}:Rps K H (cE 0 n) (wE n):=by
 unfold cE wE;generalize Te n=l
 induction l with
 |nil=>rfl
 |cons i l ih=>exact⟨_,_,rfl,rfl,ih⟩
theorem F4{Z3:aag}{n:Nat}(h:ItemsOf (λi v=>∃t,v=.int (0+i*1) t) Z3 n):Vals (wE n) Z3.toList:=by
 obtain⟨h1,h2⟩:=h;have key:∀(l:List _)(k m:Nat),l.length=m->(∀(j:Nat)(v:ay),l[j]?=ap v->∃t,v=.int (0+(k+j)) t)->Vals ((Va k m).map λ(i:Nat)=>V.int (0+i)) l:=by
  intro l
  induction l with
  |nil=>intro k m e _;subst e;exact .nil
  |cons x l ih=>
   intro k m e h;subst e;refine .cons ?_ (ih _ _ rfl λj v q=>?_)
   .obtain⟨t,rfl⟩:=h 0 x (by simp)
    exact⟨t,rfl⟩
   obtain⟨t,e⟩:=h (j+1) v (by simpa using q)
   exact⟨t,by rw[e];congr 2;lia⟩
 unfold wE;rw[UY];exact(key _ 0 n (by trivial) λj v q=>by
  simp_all)
def G8(t:TA):TE:=λZ H Q=>t Z H λa H1=>∃j:Int,a=[.int j]/\(-(2 ^ 62)<=j/\j<=1000)/\∀p,H1 p=bb->Q (.ref p) (upd H1 p<|.lst<|wE j.toNat)
theorem xb{e:fv}{t:TA}{p v pos a:Pos}(R:X.calm=true)(P:Gl X "range")(S:X.mg "range"=bb)(m:Gl X "list")(r:X.mg "list"=bb)(N:PA X [e] t)
  (O:ee [e] X.env=[(cp,fx e X.env)]:=by rfl) (hs3:ee [XD (.Name "range" v) [e] [] a] X.env=[(cp,fx (.Call (.Name "range" v) [e] [] a) X.env)]:=by rfl):
  PE X (.Call (.Name "list" p) [.Call (.Name "range" v) [e] [] a] [] pos) (G8 t):=by
 intro w s Z H Q I h;refine ot (cG I m r lE<|TM ?_ hs3 rfl);show cT _ _ (spliced ((cp,_)::g4 _ [])) _ _ s;refine UL ?_;refine ot (cG I P S Db<|TM (bu (N _ _ s Z H _ I h) λT c y=>?_) O rfl);obtain⟨W,H1,I1,A,F⟩:=y;obtain⟨j,rfl,⟨J,U⟩,q⟩:=F;obtain⟨u,rfl,C⟩:=gh A;obtain⟨t',rfl⟩:=C;refine call_range_1 ?_;refine Vc ?_;have M:=I1.ok.hd R;refine call_list_range (n:=j.toNat) M (IsRange.new ..) (small_one (by decide) (by decide) J<|by lia) (by rw[rangeSize_one];split<;>lia) (by lia) λK L f x G E g=>?_
 have i:(c.heap.push { cls:=.type "range",data:=.fields #[.int 0 c.toks,.int j t',.int 1 (c.toks+1)] }).objs.size=c.heap.objs.size+1:=Ug ..;have l:K.get? (c.heap.objs.size+1)=ap { cls:=.type "list",dict:=bb,data:=.seq f x,slots:=#[] }:=by rw[<- i];exact E
 refine⟨.ref (c.heap.objs.size+1),_,I1.laid (t':=L) (o:=.lst (wE j.toNat)) (λb o z=>G b o (SF _ z)) (V6 _) (⟨?_,f.toList,x,F4 g,by rw[Array.toArray_toList];exact l⟩),?_,q _<|I1.hok.fresh<|V6 _⟩
 .simp only[wE,SH,WE]
  exact SX (by lia:j.toNat<=1000) (by decide)
 .show To _=To _
  rw[<- i]
theorem wm{e:fv}{t:dY}{p p2 pos pos2:Pos}(hc:X.calm=true)(hg:Gl X "range")(hm:X.mg "range"=bb)(hg2:Gl X "list")(hm2:X.mg "list"=bb)(ha:DA X B [e] t)
  (hs:ee [e] X.env=[(cp,fx e X.env)]:=by rfl) (hs3:ee [XD (.Name "range" p2) [e] [] pos2] X.env=[(cp,fx (.Call (.Name "range" p2) [e] [] pos2) X.env)]:=by rfl):
  DE X B (.Call (.Name "list" p) [.Call (.Name "range" p2) [e] [] pos2] [] pos) (uR t):=by
 refine aS (xb hc hg hm hg2 hm2 ha hs hs3) ?_
 rintro Z H Q ⟨U,M,QQ,s,h,u⟩
 refine⟨U,M,_,s,h,λds M1 h1 vs H1 rh1 i1 r1=>?_⟩
 split at h1
 .obtain⟨v,rfl,rv⟩:=eU (ds:=[]) r1
  cases rv;exact⟨_,rfl,h1.1,λd hd=>u _ _ (h1.2 d<|rh1.fresh hd) _ _ (rh1.put (by rw[hd];trivial) ⟨_,upd_same,Iu⟩) (i1.trans<|Frm.put<|.inl hd) rfl⟩
 trivial
end
section
variable {X:Cx}{B:Bd}{name:Str}{a:cb}{tab:List (Str×D)}
end
end _3
namespace _S
open PySem
section
variable {prog:eX}{w:f'}{K:Type}[DecidableEq K]{A:g3}{E:aad}{s:ca}{knd:KeyKind prog w K}
end
section
variable {prog:eX}{w:f'}{K:Type}[DecidableEq K]{A:g3}{E:aad}{s:ca}{knd:KeyKind prog w K}
end
end _S
namespace _2
open PySem PySem.Spec
section
variable {X:Cx}{tg:fv}
end
end _2
namespace _3
open PySem _2 _S
section
variable {X:Cx}{B:Bd}{tg:fv}{K:SM}{H:Hp}{M:Mem}
end
end _3
namespace _3
open PySem _2
section
variable {X:Cx}{B:Bd}{pos:Pos}
end
section
variable {X:Cx}{B:Bd}
end
end _3
namespace _3
open PySem _2 _S
section
variable {X:Cx}{B:Bd}
end
end _3
namespace _S
open PySem PySem.W PySem.Calls PyProof.Rows PyProof.V PySem.Spec
section
variable {prog:eX}{w:f'}{K:Type}[DecidableEq K]{knd:KeyKind prog w K}{A:g3}{E:aad}{s:ca}{v d:cb}{ep:Nat}{Z2:List (K×ay)}
end
end _S
namespace _3
open PySem _2 _S
section
variable {X:Cx}{B:Bd}{pos:Pos}
end
end _3
namespace LX
open PySem PySem.W PySem.Spec PySem.Calls PyProof.Rows Builtin Builtin.ObjectAttr Builtin.Getset_descriptor
section
variable {K:Frag}{prog:eX}{w:f'}{A:g3}{E:aad}{s:ca}
end
end LX
namespace LX
open PySem PySem.W PySem.Spec PySem.Calls PyProof.Rows
end LX
namespace _2
open PySem PySem.Spec PyProof.Rows
section
variable {X:Cx}{Z0:aae}{Z:St}{H:Hp}{s:ca}{e:ay}
end
end _2
namespace _2
open PySem
end _2
namespace _3
open PySem _2
variable{K:SM}
section
variable{X:Cx}{B:Bd}{H H':Hp}{M M1 M':Mem}
end
section
variable{P:eX}{w:f'}{mg:aaf}{base:fy}{f:cb}{fd:hG}
end
section
variable{X:Cx}{B:Bd}{H H':Hp}{M M1 M':Mem}
end
end _3
namespace _3
open PySem _2 _S
section
variable {X:Cx}{B:Bd}
end
end _3
namespace _3
open PySem _2
variable{B:Bd}{X:Cx}{pos:Pos}
section
theorem wt{bs:Z9}{Z6:Z'}(e:Vals (bs.map V.int) Z6){i:Nat}{v:ay}(j:Z6.toArray[i]?=ap v):∃c t,bs[i]?=ap c/\v=.int c t:=by
 have a:Z6[i]?=ap v:=by simpa using j
 have h:=e.length;rw[SH]at h;have g:i<bs.length:=by
  have:=(TQ.mp a).1;lia
 obtain⟨l,b,f⟩:=e.get (by rw[SN,SG g];rfl)
 rw[a]at b;cases b;obtain⟨t,rfl⟩:=f;exact⟨_,t,by simp_all,rfl⟩
def Be:mR:=λa M Q=>match a with
 |[d]=>match cN M d with
  |some xs=>match eK xs with
   |some ss=>ss≠[]/\∀v,v∈ss->(∀x∈ss,v<=x)->Q (.int v) M
   |none=>False
  |none=>False
 |_=>False
theorem CV(hc:X.calm=true):bp X (.builtin "min") (liftC X Be):=by
 intro C s Z H xs us Q I r h;obtain⟨ds,M,QQ,z,R,h,K⟩:=h;unfold Be at h
 split at h
 .obtain⟨v,rfl,L⟩:=eU (ds:=[]) R
  split at h
  .rename_i ys e
   obtain⟨q,vs,rfl,U,rr⟩:=cL z L e
   split at h
   .rename_i g P
    obtain⟨N,h⟩:=h;have:=ix rr P;subst this;obtain⟨u,rfl,W⟩:=gh r;cases W;obtain⟨a,m,p,hz⟩:=I.list (.inl U);have f:=m.length;rw[SH]at f;have l:q<s.heap.objs.size:=by obtain⟨o,e,_⟩:=p.isList;exact SI e
    have y:=SY l;have T:a.toArray.size=g.length:=by rw[SW,<- f]
    have h0:0<g.length:=Wt.mpr N;refine call_min_walk (ra p.isList ⟨s.heap.objs.size,_,_,_,_,_,λi j=>decide (g.getD i 0<g.getD j 0),rfl,W6 (A:=X.A.in1) (I.ok.hd hc) s.heap.objs.size q y a.toArray,⟨⟨_,SK _ rfl,rfl,rfl⟩,p.isList.push _⟩,?_,by lia,λi j vi vj s' Q' E' n E F=>?_,λv h' S Y J=>?_⟩)
    .intro b hb
     simp at hb;rcases hb with hb|hb
     .simp_all
     .show _<(s.heap.objs.push _).size;rw[W2,hb];exact UU l
    .obtain⟨c,t,w,rfl⟩:=wt m n
     obtain⟨c',t',h1',rfl⟩:=wt m E;refine wpAny_lt_int ?_
     simp_all
    .obtain⟨c,t,w,rfl⟩:=wt m Y
     obtain⟨b1,O⟩:=argBest_lt (λi=>g.getD i 0) (a.toArray.size-1);have e1:g.getD (k' (λi j=>decide (g.getD i 0<g.getD j 0)) (a.toArray.size-1)) 0=c:=by rw[Tf,w];rfl
     refine⟨.int c,H,?_,⟨_,rfl⟩,K _ M (h c (T6 w) λx G=>?_) _ H z Frm.refl rfl⟩
     .exact I.kept (t':=S) λb o hb=>J b o (by simp;exact SY (SI hb)) (SF _ hb)
     .obtain⟨i,n,rfl⟩:=Vt.mp G
      have:=O i (by lia)
      rw[e1,Tf,SG n]at this;exact this
   .exact h.elim
  .exact h.elim
 .exact h.elim
def iX:mR:=λa M Q=>match a with
 |[d]=>bT 60 d=true/\(fI d).showable=true/\(fI d).shown.length<=sizeLine/\Q (.str (fI d).shown) M
 |_=>False
theorem wj(y:X.A.guards=ap [])(O:X.A.units+64<n7):bp X (.builtin "repr") (liftC X iX):=by
 rintro w s Z H l K Q I r ⟨ds,M,QQ,J,F,h,C⟩
 unfold iX at h
 split at h
 .rename_i d
  obtain⟨m,f,j,h⟩:=h;obtain⟨v,rfl,E⟩:=eU (ds:=[]) F;obtain⟨u,rfl,G⟩:=gh r;have q:=DR I m E G;have N:=uU 60 _ m;obtain⟨L,n⟩:=uW _ _ q;have fin:∀(t:Tok)(a:Nat)(c:fy),(∀b o,s.heap.get? b=ap o->c.get? b=ap o)->EP X _ Z Q (.str _ t) _:=λt a c z=>
   ⟨.str _,H,I.kept (t':=a) z,⟨_,rfl⟩,C _ M h _ H J Frm.refl rfl⟩
  cases d with
  |non=>cases q;exact PySem.P.repr_of_none (fin _ _ _ λ_ _ e=>e)
  |bl b=>cases q;exact PySem.P.repr_of_bool (fin _ _ _ λ_ _ e=>e)
  |int i=>
   obtain⟨t,rfl⟩:=q;exact PySem.P.repr_of_int (by simpa [fI,Vs] using f) (fin _ _ _ λ_ _ e=>e)
  |str x=>
   obtain⟨t,rfl⟩:=q;exact PySem.P.repr_of_str (fin _ _ _ λ_ _ e=>e) j
  |tup l=>
   obtain⟨p,g,rfl,_⟩:=q;exact repr_of_reads' n f (X6<|xm _) y (by lia) (by lia) (λc u a=>fin u a c) j
  |lst l=>
   obtain⟨p,g,rfl,_⟩:=q;exact repr_of_reads' n f (X6<|xm _) y (by lia) (by lia) (λc u a=>fin u a c) j
  |_=>exact q.elim
 trivial
end
section
variable{C:cb}{f:Str}{o value:fv}{ta tv:b6}{tpos:Pos}
def sR(C:cb)(ta tv:b6)(f:Str):ar:=λD U M=>ta U M λx M1=>match x with
 |.ref a=>match M1 a with
  |some (.ins C' fs)=>C'=C/\fs.length<1000/\match fs.lookup f with
   |some (.int i)=>tv U M1 λy M2=>match y with
    |.int j=>M2 a=ap (.ins C fs)/\D.nx U (M2.upd a<|.ins C<|bK f (.int (i+j)) fs)
    |_=>False
   |_=>False
  |_=>False
 |_=>False
theorem Dd(c:Cls X.K C)(n:NoAttr X.K C f)(ha:DE X B o ta)(hv:DE X B value tv):DS X B (.AugAssign (.Attribute o f tpos) .Add value pos) (sR C ta tv f):=by
 refine bR (pI ha hv My) ?_
 rintro D Z H ⟨U,M,DD,s,h,up⟩
 refine⟨U,M,_,s,h,λx M1 h1 v1 H1 rh1 i1 r1=>?_⟩
 split at h1
 .rename_i a
  cases r1
  split at h1
  .rename_i C' fs hM
   obtain⟨rfl,hl,h1⟩:=h1
   split at h1
   .rename_i i hf
    obtain⟨dx,ws,e1,e2⟩:=rh1 _ _ hM;obtain⟨z,_⟩|⟨d,w,hd,hw,rw1⟩:=e2.lookup f
    .simp_all
    rw[hf]at hd;cases hd;cases rw1;refine⟨a,C',dx,ws,_,rfl,e1,c,n,hw,U,M1,_,s.go rh1 i1,h1,λy M2 h2 v2 H2 rh2 i2 r2=>?_⟩
    split at h2
    .rename_i j
     cases r2;obtain⟨hM2,h2⟩:=h2;obtain⟨dx2,ws2,e3,e4⟩:=rh2 _ _ hM2;have i3:Frm M2 H2 (M2.upd a<|.ins C'<|bK f (.int (i+j)) fs) (upd H2 a<|.ins C' dx2<|_2.di f (.int (i+j)) ws2):=Frm.put (by simp_all)
     exact⟨i,j,rfl,rfl,_,_,e3,by rw[<- e4.length];exact hl,up.nx _ _ h2 Z _ ((i1.trans i2).trans i3)<|s.go (rh2.put (by rw[e3];trivial) ⟨_,_,upd_same,(oh (by trivial) e4).mono<|i3.imm rh2⟩)<|(i1.trans i2).trans i3⟩
    trivial
   trivial
  trivial
 trivial
end
section
variable{CX:ow}{k n:Nat}{f C:cb}{fd:hG}{ps:Z_}{T:Sd}{E:XK}{EE:DX}{x:Str}{p:Pos}
end
section
variable{K:SM}{H H':Hp}{M M1 M':Mem}
end
section
end
end _3
namespace _S
open PySem PySem.W PySem.Calls PyProof.Rows PyProof.V PySem.Spec
section
variable {prog:eX}{w:f'}{A:g3}{E:aad}{s:ca}{it d:cb}{i n ep:Nat}{ok ov:ay}{od:Obj}{es:Array Zl}
end
end _S
namespace _2
open PySem PySem.Spec PyProof.Rows _S
theorem Inv.frzT{X:Cx}{a:aae}{Z:St}{H:Hp}{s:ca}{d:cb}{b:Obj}{Z2:List (List aF×V)}{es:Array Zl}{l:Nat}(I:Inv X a Z H s)(e:H d=ap (.frz b<|.dT Z2))(m:b.data=.dict es l):
  s.heap.get? d=ap b/\∃xs:List (List aF×cb×ay),KT H Z2 xs/\es.toList=xs.map (entryOfKey<|tupleKind<|aU X.prog X.w):=by
 obtain⟨c,_,_,xs,r,o,i,h,f,_,g,j,_⟩:=(I.hok d _ e);rw[c]at f;cases f;rw[m]at g;cases g;exact⟨c,xs,r,j⟩
theorem KT.at{H:Hp}:∀{Z2:List (List aF×V)}{xs:List (List aF×cb×ay)},KT H Z2 xs->∀{i:Nat}{ks:List aF}{x:V},Z2[i]?=ap (ks,x)->∃b u,xs[i]?=ap (ks,b,u)/\H b=ap (.tup<|ks.map kV)/\RelV x u:=by
 intro Z2 xs h
 induction h with
 |nil=>intro i ks x e;simp at e
 |cons h t ih=>
  rename_i p q _ _
  intro i ks x e;cases i with
  |zero=>
   simp at e;subst e;obtain⟨f,c,a⟩:=q;exact⟨c,a,by simp;exact h.1.symm,h.2.1,h.2.2⟩
  |succ i=>simp at e;simpa using ih e
theorem Inv.freezeT{X:Cx}{e:aae}{Z:St}{H:Hp}{s:ca}{p:cb}{Z2:List (List aF×V)}(I:Inv X e Z H s)(h:H p=ap (.dT Z2)):
  ∃f es l,f.data=.dict es l/\es.size=Z2.length/\s.heap.get? p=ap f/\(p==p6)=cp/\Inv X e Z (upd H p<|.frz f<|.dT Z2) s:=by
 obtain⟨z,y,i,r,f,es,l,g,n,j,G,K⟩:=(I.hok p _ h);have ne:∀{b:cb}{u:Option HO},H b=u->u≠ap (.dT Z2)->b≠p:=λ{b u} q J z=>by simp_all
 refine⟨f,es,l,j,by rw[<- Ux,G,SH,<- UE r],g,y,I.ok,I.os,I.bare,⟨I.base.keep,I.base.slot,λb o q B C=>?_,I.base.there,λb i q=>?_,λb o u q=>?_,λb F q=>?_⟩,I.loc,I.cell,?_,λx c q=>?_,λA E=>?_,λb o q=>?_,I.len⟩
 .have a:=I.base.free b o q B C
  rw[aD (by lia)];exact a
 .have a:=I.base.tups b i q
  rw[aD (by lia)];exact a
 .have a:=I.base.frzs b o u q
  rw[aD (by lia)];exact a
 .obtain⟨more,a⟩:=I.base.tbls b F q
  exact⟨_,by rw[aD (by lia)];exact a⟩
 .rw[aD (ne I.free<|by simp)];exact I.free
 .have a:=I.freeC x c q
  rw[aD (by lia)];exact a
 .obtain⟨g,n,j⟩:=I.pin A E
  exact⟨g,by rw[aD (by lia)];exact n,j⟩
 have v:∀{u:HO}{b:cb},ObjOk X.prog X.w H s.heap b u->ObjOk X.prog X.w (upd H p<|.frz f<|.dT Z2) s.heap b u:=λx=>x.stay (by lia) (λc y=>by rw[aD (by lia)];exact y) λc i y=>by rw[aD (by lia)];exact y
 by_cases m:b=p
 .subst m
  rw[upd_same]at q;cases q;exact⟨g,v<|I.hok b _ h⟩
 .rw[aD m]at q
  exact v (I.hok b o q)
end _2
namespace _3
open PySem _2 _S
section
variable {X:Cx}{B:Bd}
theorem qm{K:SM}{H:Hp}:∀ks:List aF,Rps K H (ks.map λk=>match k with|.inl i=>D.int i|.inr x=>D.str x) (ks.map kV)
 |[]=>rfl
 |.inl i::ks=>⟨_,_,rfl,rfl,qm ks⟩
 |.inr x::ks=>⟨_,_,rfl,rfl,qm ks⟩
theorem RepH.freezeT{K:SM}{H:Hp}{M:Mem}{p:cb}{Z2:List (List aF×V)}{o:Obj}(r:RepH K H M)(h:H p=ap (.dT Z2)):RepH K (upd H p<|.frz o<|.dT Z2) (M.del p):=λb u e=>by
 unfold Mem.del at e
 split at e
 .cases e
 rename_i hb
 exact(r b u e).keep (Imm.upd<|by rw[h];trivial) (aD hb)
end
end _3
namespace _S
open PySem PySem.W PySem.Calls PyProof.Rows PyProof.V PySem.Spec _2
theorem qF:SL (.type "list") "keys"=pure none:=by rfl
abbrev Om(h:fy)(a:cb)(Z6:aag)(n:Nat):Prop:=h.get? a=ap { cls:=.type "list",dict:=bb,data:=.seq Z6 n,slots:=#[] }
section
variable {prog:eX}{w:f'}{A:g3}{E:aad}{s:ca}
theorem mr{a:cb}{Z6:aag}{n:Nat}{Q:Option ay->ca->Prop}(j:Om s.heap a Z6 n)(r:A.handled=bb)
  (h:∀h' l,(∀b o,s.heap.get? b=ap o->h'.get? b=ap o)->Q bb { s with heap:=h',toks:=l }):cT (eC prog w) A (Zc (.ref a) "keys") Q E s:=by
 obtain⟨q,g,d,l,m⟩:=s;have i:∀c,(⟨q,g,d,c,m⟩:ca).TypeIs (.ref a) "list":=λ_=>⟨_,j,rfl⟩;have p:=sub_AttributeError;have z:=Vg.lookup;have B:=Vg.bind (.ref a);have y:=am_list_getattr_none;unfold Zc getAttrBy? getAttrBy
 repeat (any_goals (first|assumption|exact i _|((with_reducible show cT _ _ (call (Value.builtin "list.__getattribute__") _ _) _ _ _);refine qa Vg (i _) am_entry_list_getattribute (PySem.F.args_list_getattribute_2 _ _) (meets_getattribute_miss_list a Z6 n #[] "keys" _ qF (by decide +kernel) (by decide +kernel)) ⟨j,r,λh' c e f=>?_⟩)|wp_step))
 obtain⟨u,v,x⟩:=f.there;show cT _ _ (Tl _ _ _ _ _ _ _) _ _ _;unfold Tl
 repeat (any_goals (first|assumption|wp_step))
 exact h _ _ f.keeps
end
theorem xQ{v:eX}{w:f'}{s:ca}{l:cb}{m:Nat}{f:List (ay×ay)}{Ts:aaa}(P:Ts.length=f.length)(F:Om s.heap l (Ts.map To).toArray m)(C:∀(i:Nat)(u:i<Ts.length)(y:i<f.length),wU s.heap Ts[i] f[i].1 f[i].2):
  ∀(A':g3)(g:ca)(Q:aad)(E:aad),(∀b o,s.heap.get? b=ap o->g.heap.get? b=ap o)->s.heap.objs.size<g.heap.objs.size->
   (∀h' R S St,(∀b o,g.heap.get? b=ap o->h'.get? b=ap o)->PSrc v w s.heap.objs.size R f S St->St 0 h'->(∀b∈S,b∈[]\/s.heap.objs.size<b)->Q (.ref R) { g with heap:=h' })->cT (eC v w) A' (UF<|.ref l) Q E g:=by
 intro A' g Q E K lt k;have ne:∀{b o},s.heap.get? b=ap o->b≠s.heap.objs.size/\b≠g.heap.objs.size:=λe=>⟨SY (SI e),SY<|XQ (SI e) lt⟩;have z:g.heap.IsList l (Ts.map To).toArray:=⟨_,K _ _ F,rfl,m,rfl⟩;have L:∀{h h':fy}(b:cb),(∀c o,c≠b->h.get? c=ap o->h'.get? c=ap o)->(∀{c o},s.heap.get? c=ap o->c≠b)->h.IsList l (Ts.map To).toArray/\(∀(i:Nat)(u:i<Ts.length)(y:i<f.length),wU h Ts[i] f[i].1 f[i].2)->h'.IsList l (Ts.map To).toArray/\∀(i:Nat)(u:i<Ts.length)(y:i<f.length),wU h' Ts[i] f[i].1 f[i].2:=by
  intro h h' b k n q;obtain⟨⟨o,I,G⟩,p⟩:=q;refine⟨⟨o,k _ _ (n F) I,G⟩,λi u y=>?_⟩;obtain⟨o,x,e,r⟩:=p i u y;obtain⟨_,_,W,_⟩:=C i u y;exact⟨o,x,k _ _ (n W) e,r⟩
 refine ra z (k _ g.heap.objs.size [g.heap.objs.size] (λi h=>h.IsListIter g.heap.objs.size l i/\h.IsList l (Ts.map To).toArray/\∀(i:Nat)(u:i<Ts.length)(y:i<f.length),wU h Ts[i] f[i].1 f[i].2) (λb o e=>SF _ e) ⟨by simp;exact SY lt,λi h h' j k=>⟨j.1.at λo e=>k _ o (Vj lt) e,L _ k (λe=>(ne e).1) j.2⟩,?_,?_⟩ ⟨⟨_,SK _ rfl,rfl,rfl⟩,?_,λi u y=>?_⟩ λb M=>.inr (by simp at M;subst M;exact lt))
 .intro A i J T Q E O _ j H
  refine ZG (x:=.ref Ts[i]) j.1 j.2.1 (by simp[P,J]) λh' B N=>?_
  obtain⟨a,b⟩:=L _ (λc o U e=>N.extBut c o U e) (λe=>(ne e).2) j.2;exact H h' Ts[i] ⟨B,a,b⟩ (b i (by lia) J) λc o n e=>N.extBut c o (by simpa using n) e
 .exact λA T Q E O j H=>ZO O j.1 j.2.1 (by simp[P]) λh' k=>H h' λc o n e=>k c o (by simpa using n) e
 .obtain⟨o,I,G⟩:=z
  exact⟨o,SF _ I,G⟩
 .obtain⟨o,n,e,r⟩:=C i u y
  exact⟨o,n,SF _ (K _ _ e),r⟩
end _S
namespace _2
open PySem PySem.Spec PyProof.Rows _S
inductive PrK(H:Hp):List V->List (aF×V)->Prop
 |nil:PrK H [] []
 |cons {T:cb} {k:aF} {x:V} {vs:List V} {Z2:List (aF×V)} (hT:H T=ap (.tup [kV k,x])) (r:PrK H vs Z2):PrK H (.ref T::vs) ((k,x)::Z2)
section
variable {X:Cx}{Z0:aae}{Z:St}{H:Hp}{s:ca}
theorem Inv.pair{T:cb}{y x:V}(I:Inv X Z0 Z H s)(h:H T=ap (.tup [y,x])):∃k v,RelV y k/\RelV x v/\wU s.heap T k v:=by
 obtain⟨_,a,r,o,e,⟨c,n,d⟩,_⟩:=(I.hok T _ h);obtain⟨k,v,rfl,b,f⟩:=r.two;exact⟨k,v,b,f,o,n,e,c,d⟩
theorem Inv.prK(I:Inv X Z0 Z H s):∀{vs:List V}{Z2:List (aF×V)},PrK H vs Z2->∃(Ts:aaa)(rs:List (aF×ay×ay)),vs=Ts.map V.ref/\KV Z2 (rs.map λr=>(r.1,r.2.2))/\Ts.length=rs.length/\(∀r∈rs,(aU X.prog X.w).is r.1 r.2.1=true)/\∀(i:Nat)(l:i<Ts.length)(j:i<rs.length),wU s.heap Ts[i] rs[i].2.1 rs[i].2.2
 |_,_,.nil=>⟨[],[],rfl,.nil,rfl,by simp,λi h=>absurd h (Wm _)⟩
 |_,_,.cons (T:=T) (k:=k) hT r=>by
  obtain⟨Ts,rs,rfl,q,g,e,f⟩:=I.prK r;obtain⟨c,v,b,a,p⟩:=I.pair hT;refine⟨T::Ts,(k,c,v)::rs,rfl,.cons ⟨rfl,a⟩ q,by simp[g],λr hr=>?_,λi l j=>?_⟩
  .rcases SQ.mp hr with rfl|hr
   .exact iz b
   exact e r hr
  cases i with
  |zero=>exact p
  |succ i=>exact f i _ _
theorem Inv.ls{l:cb}{vs:List V}(I:Inv X Z0 Z H s)(e:Rd H l (.lst vs)):∃Z6 n,Vals vs Z6/\Om s.heap l Z6.toArray n:=by
 obtain⟨_,Z6,n,r,q⟩:=(e.ok I.hok);exact⟨_,n,r,q⟩
theorem wP(B:X.calm=true):bp X (.type "dict") (λxs H Q=>∃l vs Z2,xs=[.ref l]/\Rd H l (.lst vs)/\PrK H vs Z2/\Z2.length<=1000000/\∀p,H p=bb->Q (.ref p) (upd H p<|.dK<|Z2.foldl (λa p=>eV a p.1 p.2) [])):=by
 rintro Z0 s Z H xs E Q I r ⟨l,vs,Z2,rfl,w,z,G,q⟩
 obtain⟨u,rfl,y⟩:=r.one;cases y;obtain⟨Ts,m,rfl,j,e,b,g⟩:=I.prK z;obtain⟨f,n,x,c⟩:=I.ls w;obtain rfl:f=Ts.map _:=pW x;have h:m.length<=1000000:=by have:=UE j;simp_all
 refine lT B I rfl rfl rfl (by lia) (by lia) (by simp) j b h ⟨_,c,rfl⟩ (by decide) (λA' C Q' E' A v=>mr (v _ _ c) A) (xQ (by simp[e]) c λi o F=>?_) q
 simp;exact g i o _
end
end _2
namespace _3
open PySem _2 _S
section
variable {X:Cx}{B:Bd}{K:SM}{H:Hp}
noncomputable def u_:List D->Option (List (aF×D))
 |[]=>ap []
 |.tup [k,v]::ds=>match cA k,u_ ds with
  |some ks,ap r=>ap ((ks,v)::r)
  |_,_=>bb
 |_=>bb
theorem ET:∀{ds:List D}{vs:List V}{Z2:List (aF×D)},Rps K H ds vs->u_ ds=ap Z2->∃i,PrK H vs i/\Rkv K H Z2 i
 |[],vs,Z2,r,e=>by cases e;cases r;exact⟨[],.nil,.nil⟩
 |d::ds,vs,Z2,r,e=>by
  obtain⟨v,C,rfl,a,b⟩:=r;unfold u_ at e
  split at e
  .trivial
  .rename_i k x w h
   cases h
   split at e
   .rename_i z q p o
    cases e;obtain⟨i,m,n⟩:=ET b o;obtain⟨T,A,rfl,s,l⟩:=a;obtain⟨E,u,rfl,g,c⟩:=l;obtain⟨y,j,rfl,c,f⟩:=c;cases f;have:=gy g p;subst this;exact⟨_,.cons s m,.cons ⟨rfl,c⟩ n⟩
   cases e
  cases e
theorem Gh{c:Type}[DecidableEq c]{a:List (c×D)}{b:List (c×V)}(h:Rkv K H a b):∀{a0:List (c×D)}{b0:List (c×V)},Rkv K H a0 b0->Rkv K H (a.foldl (λx p=>dL x p.1 p.2) a0) (b.foldl (λx p=>eV x p.1 p.2) b0):=by
 induction h with
 |nil=>exact λh=>h
 |@cons p q _ _ h t ih=>
  intro a0 b0 e;rw[Ut,Ut];refine ih ?_;rw[<- h.1];exact e.put _ h.2
theorem IJ{M:Mem}{d:D}{v:V}{xs:List D}(g:RepH K H M)(r:Rp K H d v)(e:cN M d=ap xs)(f:∀ys,d≠.ml ys):∃l vs,v=.ref l/\Rd H l (.lst vs)/\Rps K H xs vs:=by
 cases d with
 |lst ys=>
  cases e;obtain⟨p,vs,rfl,⟨o,h⟩,r⟩:=r;exact⟨p,vs,rfl,.inr ⟨o,h⟩,r⟩
 |ml ys=>exact absurd rfl (f ys)
 |ref a=>
  simp only[cN]at e
  split at e
  .rename_i ys q
   cases e;cases r;obtain⟨vs,b,c⟩:=g _ _ q;exact⟨a,vs,rfl,.inl b,c⟩
  .cases e
 |_=>cases e
noncomputable def Dv:D->Bool
 |.ml _=>cp
 |_=>true
theorem Ia{d:D}(h:Dv d=true):∀ys,d≠.ml ys:=λys e=>by subst e;cases h
def fN:mR:=λb M Q=>match b with
 |[d]=>Dv d=true/\match cN M d with
  |some xs=>match u_ xs with
   |some Z2=>Z2.length<=1000000/\∀p,M p=bb->Q (.ref p) (M.upd p<|.dK<|Z2.foldl (λa p=>dL a p.1 p.2) [])
   |none=>False
  |none=>False
 |_=>False
theorem vc(hc:X.calm=true):bp X (.type "dict") (liftC X fN):=by
 rintro Z0 s Z H xs us Q I r ⟨ds,M,QQ,rh,rp,h,up⟩
 unfold fN at h
 split at h
 .obtain⟨v,rfl,rv⟩:=eU (ds:=[]) rp
  obtain⟨hm,h⟩:=h
  split at h
  .rename_i ys e
   split at h
   .rename_i Z2 e2
    obtain⟨l,vs,rfl,hq,rr⟩:=IJ rh rv e (Ia hm);obtain⟨ws,h1,h2⟩:=ET rr e2;exact wP hc _ s Z H _ us Q I r ⟨l,vs,ws,rfl,hq,h1,by rw[<- h2.length];exact h.1,λp hp=>up _ _ (h.2 p<|rh.fresh hp) _ _ (rh.put (by rw[hp];trivial) ⟨_,upd_same,(Gh h2 .nil).mono<|Imm.new hp⟩) (Frm.put<|.inl hp) rfl⟩
   trivial
  trivial
 trivial
end
end _3
namespace _S
open PySem PySem.W PySem.Calls PyProof.Rows PyProof.V PySem.Spec _2
end _S
namespace _3
open PySem _2 _S
section
variable {X:Cx}{B:Bd}
end
end _3
namespace _3
open PySem PySem.W PySem.Calls PyProof.Rows PyProof.V PySem.Spec _2
section
variable {X:Cx}{B:Bd}{Z0:aae}{Z:_2.St}{H:Hp}{s:ca}{M:Mem}
end
end _3
namespace _3
open PySem _2 _S
section
variable {X:Cx}{B:Bd}
end
end _3
namespace _2
open PySem PySem.Spec PyProof.Rows
section
variable {X:Cx}{e:fv}{te:TE}{st:fv}{ts:TO}{p2 pos:Pos}
end
end _2
namespace _3
open PySem _2
section
variable {X:Cx}{B:Bd}{K:SM}{H:Hp}{M:Mem}{e:fv}{te:b6}{st:fv}{ts:Kz}{pos p2:Pos}
end
section
variable {X:Cx}{B:Bd}{K:SM}{H:Hp}
noncomputable def gS:List D->List D->List D->List D
 |x::xs,y::ys,u::us=>.tup [x,y,u]::gS xs ys us
 |_,_,_=>[]
theorem oW:∀{xs ys us:List D}{i:Nat}{d:D},(gS xs ys us)[i]?=ap d->∃x y u,xs[i]?=ap x/\ys[i]?=ap y/\us[i]?=ap u/\d=.tup [x,y,u]
 |x::xs,y::ys,u::us,0,d,h=>by simp[gS]at h;simp_all
 |x::xs,y::ys,u::us,i+1,d,h=>by simp only[SE]at h ⊢;exact oW h
 |[],_,_,_,_,h=>by trivial
 |_::_,[],_,_,_,h=>by trivial
 |_::_,_::_,[],_,_,h=>by trivial
theorem qc:∀{xs ys us:List D}{i:Nat},(gS xs ys us).length<=i->xs.length<=i\/ys.length<=i\/us.length<=i
 |x::xs,y::ys,u::us,0,h=>by trivial
 |x::xs,y::ys,u::us,i+1,h=>by
  have:=qc (by simpa [gS] using h)
  simp_all
 |[],_,_,_,_=>.inl (by simp)
 |_::_,[],_,_,_=>.inr (by simp_all)
 |_::_,_::_,[],_,_=>.inr (by simp_all)
def tN(t:dY):vY:=λU M R=>t U M λa M1=>match a with
 |[d,e,f]=>match aM M1 d,aM M1 e,aM M1 f with
  |some xs,ap ys,ap us=>R ⟨gS xs ys us,bq d xs++(bq e ys++bq f us)⟩ M1
  |_,_,_=>False
 |_=>False
theorem Jc{a b c:fv}{g:aab}{r:Nat}{v:Pos}{l:dY}{p pos:Pos}(A:Gl X "zip")(C:X.mg "zip"=bb)(s:DA X B [a,b,c] l)
  (w:ee [a,b,c] X.env=[(cp,fx a X.env),(cp,fx b X.env),(cp,fx c X.env)]:=by rfl) (hs2:ee [b,c] X.env=[(cp,fx b X.env),(cp,fx c X.env)]:=by rfl):
  DI X B (.Tuple g r v) (.Call (.Name "zip" p) [a,b,c] [] pos) (tN l):=by
 refine zA (λL M1 R h=>?_) A C s (by rw[w,hs2]) (by rw[hs2];rfl)
 split at h
 .split at h
  .rename_i d e f _ I M G n m o
   refine⟨_,_,.inr rfl,.cons n (.cons m<|.cons o .nil),⟨λi z q=>?_,λi j=>?_⟩,by simpa [wb] using h⟩
   .obtain⟨x,y,u,E,F,J,rfl⟩:=oW q
    exact⟨_,rfl,by simp_all⟩
   simpa using (qc j)
  trivial
 trivial
end
end _3
namespace _S
open PySem PySem.W PyProof.Rows
variable{q:Array Nat}{i j m:Nat}{Q:Nat×Array Nat->ca->Prop}{s:ca}
noncomputable def Kp(ky:Nat->Nat)(p:Array Nat)(i:Nat):Nat:=ky (p.getD i 0)
def Pm(n:Nat)(p:Array Nat):Prop:=p.toList.Perm (Te n)
def SU(ky:Nat->Nat)(p:Array Nat)(k:Nat):Prop:=∀i j,i<=j->j<k->Kp ky p i<=Kp ky p j
def SD(ky:Nat->Nat)(p:Array Nat)(k:Nat):Prop:=∀i j,i<=j->j<k->Kp ky p j<=Kp ky p i
def oC(n:Nat)(ky:Nat->Nat)(cmp:Nat->Nat->(Bool->ca->Prop)->ca->Prop)(s:ca):Prop:=∀i j,i<n->j<n->∀C:Bool->ca->Prop,C (decide (ky i<ky j)) s->cmp i j C s
section
variable{n:Nat}{ky:Nat->Nat}{cmp:Nat->Nat->(Bool->ca->Prop)->ca->Prop}{p:Array Nat}
theorem Pm.size(h:Pm n p):p.size=n:=by
 simpa using (List.Perm.length_eq h)
theorem Pm.lt(h:Pm n p)(b:i<n):p.getD i 0<n:=by
 have a:i<p.size:=by rw[Pm.size h];exact b
 have e:p.getD i 0=p[i]:=by simp[a]
 rw[e];exact TU.mp (Wr h |>.mp (by simp))
theorem Pm.of(h:Pm n p)(e:q.Perm p):Pm n q:=(Array.perm_iff_toList_perm.mp e).trans h
theorem xf(h:q[i]?=p[j]?):q.getD i 0=p.getD j 0:=by
 simp_all
theorem fY(h:q[i]?=p[j]?):Kp ky q i=Kp ky p j:=congrArg ky (xf h)
theorem lU(a:j<=p.size)(k:Nat):Kp ky (ZK p i j) k=if i<=k/\k<j then Kp ky p (i+j-1-k) else Kp ky p k:=by
 have e:=getElem?_mirror_all (i:=i) a k
 by_cases h:i<=k/\k<j
 .rw[if_pos h]at e ⊢
  exact fY e
 rw[if_neg h]at e ⊢;exact fY e
theorem Fv{src d:Nat}(c:src<p.size)(b:d<=src)(k:Nat):Kp ky (bubble p src d) k=if k=src-d then Kp ky p src else if src-d<k/\k<=src then Kp ky p (k-1) else Kp ky p k:=by
 have e:=getElem?_bubble c d b k
 by_cases h:k=src-d
 .rw[if_pos h]at e ⊢
  exact fY e
 rw[if_neg h]at e ⊢
 by_cases a:src-d<k/\k<=src
 .rw[if_pos a]at e ⊢
  exact fY e
 rw[if_neg a]at e ⊢;exact fY e
theorem FP{p:Array Nat}:∀k,m+1-(0+1)<=k->k<m+1->Kp ky p k=Kp ky p (m+1-1):=λk a b=>by
 have e:k=m:=by lia
 subst e;rfl
theorem SU1:SU ky p 1:=λi j a b=>by
 have e:i=j:=by lia
 rw[e];exact SO _
theorem Pm.rev(h:Pm n p):Pm n (ZK p i j):=h.of (mirror_perm ..)
theorem o8{α:Type}{k:Bool->KasT α}{Q:α->ca->Prop}(f:oC n ky cmp s)(b:i<n)(a:j<n)(e:ky i<ky j->(k true).kasWp cmp Q s)(g:¬ky i<ky j->(k cp).kasWp cmp Q s):(KasT.ask i j k).kasWp cmp Q s:=by
 refine f i j b a _ ?_
 by_cases c:ky i<ky j
 .rw[decide_eq_true c];exact e c
 rw[decide_eq_false c];exact g c
theorem xP(l:oC n ky cmp s)(g:Pm n p):∀(f a:Nat)(Q:Nat->ca->Prop),1<=a->a+f<=n->SU ky p a->(∀m,a<=m->m<=a+f->SU ky p m->(m<a+f->Kp ky p m<Kp ky p (m-1))->Q m s)->(kas_asc p f a).kasWp cmp Q s
 |0,a,Q,h1,h2,hs,h=>h a (by lia) (by lia) hs (by lia)
 |f+1,a,Q,h1,h2,hs,h=>by
  refine o8 l (g.lt<|by lia) (g.lt<|by lia) (λc=>?_) λc=>?_
  .exact h a (by lia) (by lia) hs λ_=>c
  refine xP l g f _ Q (by lia) (by lia) (λi j b r=>?_) λm u v o w=>h m (by lia) (by lia) o (by lia)
  by_cases e:j=a
  .subst e
   by_cases x:i=j
   .simp_all
   .exact SX (hs i _ (by lia)<|by lia) (Vn c)
  exact hs i j b (by lia)
theorem kS(v:oC n ky cmp s):∀(f:Nat)(p:Array Nat)(m q:Nat)(Q:Array Nat×Nat×Nat->ca->Prop),Pm n p->1<=m->m+f<=n->SD ky p m->q+1<=m->(∀k,m-(q+1)<=k->k<m->Kp ky p k=Kp ky p (m-1))->
  (∀a b g,Pm n a->m<=b->b<=m+f->SD ky a b->g+1<=b->(∀k,b-(g+1)<=k->k<b->Kp ky a k=Kp ky a (b-1))->Q (a,b,g) s)->(kas_desc f p m q).kasWp cmp Q s
 |0,p,m,q,Q,hp,h1,h2,hs,hq,he,h=>h p m q hp (SO _) (by lia) hs hq he
 |f+1,p,m,q,Q,hp,h1,h2,hs,hq,he,h=>by
  have one:∀a,(∀k,Kp ky a k=Kp ky p k)->Kp ky p m<=Kp ky p (m-1)->SD ky a (m+1):=λa w c i j x F=>by
   rw[w,w]
   by_cases e:j=m
   .subst e
    by_cases G:i=j
    .simp_all
    .exact SX c (hs i (j-1) (by lia)<|by lia)
   .exact hs i j x (by lia)
  refine o8 v (hp.lt<|by lia) (hp.lt<|by lia) (λc=>?_) λc=>?_
  .have B:=Vk c
   show (if q>0 then _ else _:KasT _).kasWp cmp Q s
   split
   .have w:∀k,Kp ky (ZK p (m-(q+1)) m) k=Kp ky p k:=λk=>by
     rw[lU (by rw[hp.size];lia)]
     split
     .rename_i z
      rw[he _ (by lia) (by lia),he k z.1 z.2]
     .rfl
    exact kS v f _ (m+1) 0 Q hp.rev (by lia) (by lia) (one _ w B) (by lia) FP λa b g l A y r u o=>h a b g l (by lia) (by lia) r u o
   .exact kS v f p (m+1) 0 Q hp (by lia) (by lia) (one _ (λ_=>rfl) B) (by lia) FP λa b g l A y r u o=>h a b g l (by lia) (by lia) r u o
  .refine o8 v (hp.lt<|by lia) (hp.lt<|by lia) (λC=>?_) λC=>?_
   .exact h p m q hp (SO _) (by lia) hs hq he
   .have E:Kp ky p m=Kp ky p (m-1):=Nat.le_antisymm (Vn C) (Vn c)
    refine kS v f p (m+1) (q+1) Q hp (by lia) (by lia) (by simp_all) (by lia) (λk H I=>?_) λa b g l A y r u o=>h a b g l (by lia) (by lia) r u o
    show Kp ky p k=Kp ky p m
    by_cases e:k=m
    .rw[e]
    .rw[he k (by lia) (by lia),E]
theorem mx{α b:Type}{t:KasT α}{f:α->KasT b}{Q:b->ca->Prop}(h:t.kasWp cmp (λa s'=>(f a).kasWp cmp Q s') s):(t.bind f).kasWp cmp Q s:=by
 rw[KasT.kasWp_bind];exact h
theorem uO(o:oC n ky cmp s)(b:Pm n p)(g:1<=m)(w:m<=n)(l:SD ky p m)(h:∀a c,Pm n c->1<=a->a<=n->SU ky c a->Q (a,c) s):(kas_tail3 m n p).kasWp cmp Q s:=by
 refine mx (xP o b.rev _ m _ g (by lia) (λi j e r=>?_) λa u v f _=>h a _ b.rev (by lia) (by lia) f)
 rw[lU (by rw[b.size];lia),lU (by rw[b.size];lia),if_pos (by lia),if_pos (by lia)]
 exact l _ _ (by lia) (by lia)
theorem jJ(f:oC n ky cmp s)(w:Pm n p)(B:1<=m)(C:m+1<=n)(v:SD ky p (m+1))(h:∀a b,Pm n b->1<=a->a<=n->SU ky b a->Q (a,b) s):(kas_descPart m n p).kasWp cmp Q s:=by
 refine mx (kS f _ p _ 0 _ w (by lia) (by lia) v (by lia) FP λb a u e y x l A g=>?_)
 dsimp only
 split
 .refine uO f e.rev (by lia) (by lia) (λi j c r=>?_) h
  have o:∀k,Kp ky (ZK b (a-(u+1)) a) k=Kp ky b k:=λk=>by
   rw[lU (by rw[e.size];lia)]
   split
   .rename_i z
    rw[g _ (by lia) (by lia),g k z.1 z.2]
   rfl
  rw[o,o];exact l i j c r
 exact uO f e (by lia) (by lia) l h
theorem GQ(o:oC n ky cmp s)(a:Pm n p)(I:1<=n)(h:∀r w,Pm n w->1<=r->r<=n->SU ky w r->Q (r,w) s):(kas_count n p).kasWp cmp Q s:=by
 refine mx (xP o a _ 1 _ (by lia) (by lia) SU1 λm f G l C=>?_)
 by_cases e:m=n
 .subst e
  rw[if_pos (by simp)]
  exact h m p a f (by lia) l
 rw[if_neg (by simpa using e)]
 have lt:=C (by lia)
 by_cases g:m>1
 .rw[if_pos g]
  refine o8 o (a.lt<|by lia) (a.lt<|by lia) (λc=>?_) λc=>?_
  .exact h m p a f (by lia) l
  have eq:∀k,k<m->Kp ky p k=Kp ky p (m-1):=λk b=>by
   have E:=l k (m-1) (by lia) (by lia)
   have F:=l 0 k (by lia) b
   have H:Kp ky p (m-1)<=Kp ky p 0:=Vn c;lia
  have b:∀k,Kp ky (ZK p 0 m) k=Kp ky p k:=λk=>by
   rw[lU (by rw[a.size];lia)]
   split
   .rename_i z
    rw[eq _ (by lia),eq k z.2]
   .rfl
  refine jJ o a.rev f (by lia) (λi j u x=>?_) h
  rw[b,b]
  by_cases B:j=m
  .subst B
   by_cases A:i=j
   .rw[A];exact SO _
   .rw[eq i (by lia)];lia
  .rw[eq i (by lia),eq j (by lia)];exact SO _
 .have:m=1:=by lia
  subst this;refine jJ o a f (by lia) (λi j u x=>?_) h
  have:Kp ky p 1<Kp ky p 0:=lt;have y:i=0\/i=1:=by lia
  have v:j=0\/j=1:=by lia
  rcases y with rfl|rfl<;>rcases v with rfl|rfl<;>lia
theorem lA(w:oC n ky cmp s)(o:Pm n p){k:Nat}(v:k<n)(e:SU ky p k):∀(f l r:Nat)(Q:Nat->ca->Prop),l<=r->r<=k->r-l<=f->(∀i,i<l->Kp ky p i<=Kp ky p k)->(∀i,r<=i->i<k->Kp ky p k<Kp ky p i)->
  (∀u,u<=k->(∀i,i<u->Kp ky p i<=Kp ky p k)->(∀i,u<=i->i<k->Kp ky p k<Kp ky p i)->Q u s)->(kas_place p k f l r).kasWp cmp Q s
 |0,l,r,Q,h1,h2,h3,a,b,h=>h l (by lia) a λi i1=>b i (by lia)
 |f+1,l,r,Q,h1,h2,h3,a,b,h=>by
  unfold kas_place
  by_cases c:l>=r
  .rw[if_pos c]
   exact h l (by lia) a λi i1=>b i (by lia)
  .rw[if_neg c]
   exact o8 w (o.lt v) (o.lt<|by lia) (λg=>(lA w o v e f l _ Q (by lia) (by lia) (by lia) a (λi i1 i2=>Tc g (e _ i i1 i2)) h)) λg=>(lA w o v e f _ r Q (by lia) (by lia) (by lia) (λi i1=>SX (e i _ (by lia)<|by lia) (Vn g)) b h)
theorem Dq(u:oC n ky cmp s):∀(f:Nat)(p:Array Nat)(k:Nat)(Q:Array Nat->ca->Prop),Pm n p->1<=k->k+f=n->SU ky p k->(∀o,Pm n o->SU ky o n->Q o s)->(kas_bin f p k).kasWp cmp Q s
 |0,p,k,Q,hp,h1,h2,hs,h=>h p hp (by simp_all)
 |f+1,p,k,Q,hp,h1,h2,hs,h=>by
  refine mx (lA u hp (by lia) hs k 0 k _ (by lia) (by lia) (by lia) (by lia) (by lia) λl w a b=>?_)
  refine Dq u f _ _ Q (hp.of<|bubble_perm ..) (by lia) (by lia) (λi j g v=>?_) h
  have sz:k<p.size:=by rw[hp.size];lia
  have e:k-(k-l)=l:=by lia
  rw[Fv sz (by lia),Fv sz (by lia),e]
  by_cases i1:i=l
  .rw[if_pos i1]
   by_cases c:j=l
   .simp_all
   .rw[if_neg c,if_pos (by lia)]
    exact Vk (b _ (by lia)<|by lia)
  rw[if_neg i1]
  by_cases i2:l<i/\i<=k
  .rw[if_pos i2,if_neg (by lia),if_pos (by lia)]
   exact hs (i-1) (j-1) (by lia) (by lia)
  .rw[if_neg i2]
   by_cases c:j=l
   .rw[if_pos c];exact a i (by lia)
   .rw[if_neg c]
    by_cases r:l<j/\j<=k
    .rw[if_pos r];exact hs i (j-1) (by lia) (by lia)
    .rw[if_neg r];exact hs i j g (by lia)
theorem tZ:Pm n (UZ<|Te n):=by unfold Pm;simp
theorem Ht(e:oC n ky cmp s)(f:1<=n){Q:Array Nat->ca->Prop}(h:∀p,Pm n p->SU ky p n->Q p s):(kas_sort n).kasWp cmp Q s:=by
 refine mx (GQ e tZ f λm p a b g c=>?_)
 split
 .rw[Nat.max_eq_left b]
  exact Dq e _ p m Q a b (by lia) c h
 have:m=n:=by lia
 subst this;exact h p a c
end
noncomputable def fF:List Int->List Int->Bool
 |[],[]=>cp
 |[],_::_=>true
 |_::_,[]=>cp
 |x::xs,y::ys=>if x=y then fF xs ys else decide (x<y)
theorem yM:∀x:List Int,fF x x=cp
 |[]=>rfl
 |x::xs=>by simp[fF,yM xs]
theorem uV:∀x y:List Int,fF x y=cp->fF y x=cp->x=y
 |[],[],_,_=>rfl
 |[],_::_,h,_=>by trivial
 |_::_,[],_,h=>by trivial
 |x::xs,y::ys,h1,h2=>by
  unfold fF at h1 h2
  by_cases c:x=y
  .subst c
   rw[if_pos rfl]at h1 h2;rw[uV xs ys h1 h2]
  rw[if_neg c]at h1;rw[if_neg (by lia)]at h2
  simp at h1 h2;lia
theorem tu:∀x y z:List Int,fF y x=cp->fF z y=cp->fF z x=cp
 |[],[],[],_,_=>rfl
 |[],[],_::_,_,h=>rfl
 |[],_::_,[],_,h=>by rfl
 |[],_::_,_::_,_,_=>rfl
 |_::_,[],_,h,_=>by trivial
 |_::_,_::_,[],_,h=>by assumption
 |x::xs,y::ys,z::zs,h1,h2=>by
  unfold fF at h1 h2 ⊢
  by_cases c:y=x
  .rw[if_pos c]at h1
   subst c
   by_cases d:z=y
   .rw[if_pos d]at h2 ⊢;exact tu xs ys zs h1 h2
   simp_all
  rw[if_neg c]at h1
  by_cases d:z=y
  .simp_all
  rw[if_neg d]at h2;simp at h1 h2;rw[if_neg (by lia)]
  simp;lia
theorem nX:∀x y:List Int,fF x y=true->fF y x=cp
 |[],[],h=>by rfl
 |[],_::_,_=>rfl
 |_::_,[],h=>by trivial
 |x::xs,y::ys,h=>by
  unfold fF at h ⊢
  by_cases c:x=y
  .subst c
   rw[if_pos rfl]at h ⊢;exact nX xs ys h
  rw[if_neg c]at h;rw[if_neg (by lia)]
  simp at h ⊢;lia
noncomputable def oTup:Ord (List Int):=⟨fF,uV,tu,nX⟩
theorem xV{α:Type}{p q:α->Bool}:∀{l:List α},(∀x∈l,p x=true->q x=true)->(∃y∈l,q y=true/\p y=cp)->l.countP p<l.countP q
 |[],_,⟨_,h,_⟩=>by cases h
 |x::l,h,⟨y,hy,hq,hp⟩=>by
  have mono:l.countP p<=l.countP q:=XT (by simp_all)
  rw[List.countP_cons,List.countP_cons];rcases SQ.mp hy with e|hy
  .subst e
   rw[if_pos hq,hp];simp;lia
  have:=xV (by simp_all) ⟨y,hy,hq,hp⟩
  cases c:p x with
  |false=>simp;split<;>lia
  |true=>simp_all
noncomputable def rk(ks:Z8)(i:Nat):Nat:=ks.countP λx=>fF x (ks.getD i [])
theorem KD{ks:Z8}(g:i<ks.length):decide (rk ks i<rk ks j)=fF (ks.getD i []) (ks.getD j []):=by
 unfold rk;have e:ks.getD i []∈ks:=by simp[g]
 generalize ks.getD i []=a at e;generalize ks.getD j []=b;cases c:fF a b with
 |true=>
  refine decide_eq_true (xV (λx f h=>?_) ⟨a,e,c,yM a⟩);cases d:fF x b with
  |true=>rfl
  |false=>
   have:=tu a b x (nX a b c) d
   simp_all
 |false=>
  refine decide_eq_false (Wj.mpr (XT λx f h=>?_));cases d:fF x a with
  |true=>rfl
  |false=>
   have:=tu b a x c d
   simp_all
section
variable{prog:eX}{w:f'}{A:g3}{b:Bool}{Q:Bool->ca->Prop}
end
section
variable{prog:eX}{w:f'}{A:g3}{E:aad}
end
end _S
namespace _3
open PySem _2 _S
theorem Os{ks:Z8}{p:Array Nat}(a:Pm ks.length p)(n:SU (rk ks) p ks.length):p.toList.map (λi=>ks.getD i [])=Hl oTup ks:=by
 refine P1 _ ?_ ?_
 .refine U3.mpr λi j f b g=>?_
  have sz:=a.size;simp at f b;simp only[WS,Array.getElem_toList];have c:=n i j (by lia) (by lia)
  unfold Kp at c;have m:p.getD j 0=p[j]:=by simp[b]
  have l:p[j]<ks.length:=by
   have:=a.lt (i:=j) (by lia)
   rw[m]at this;exact this
  show fF _ _=cp;rw[<- KD l]
  simp_all
 have:=List.Perm.map (λi=>ks.getD i []) a;have e:(Te ks.length).map (λi=>ks.getD i [])=ks:=by
  refine WT (by simp) λi c h=>?_
  simp[h]
 rw[e]at this;exact this
section
variable {X:Cx}{B:Bd}
theorem pC{vs:List V}{Z6:Z'}(r:Vals vs Z6):∀l:List Nat,(∀i∈l,i<vs.length)->Vals (l.map λi=>vs.getD i .non) (l.map λi=>Z6.getD i Ub)
 |[],_=>.nil
 |i::l,h=>by
  have a:=h i (by simp)
  obtain⟨v,f,c⟩:=r.get (SG a);have b:vs.getD i .non=vs[i]:=by simp[a]
  have e:Z6.getD i Ub=v:=by simp_all
  rw[SJ,SJ,b,e];exact .cons c (pC r l<|by simp_all)
end
end _3
namespace HT
open PySem PyProof.Rows
section
variable {prog:eX}{w:f'}{A:g3}{E:aad}{s:ca}
end
end HT
namespace _2
open PySem PySem.Spec PyProof.Rows
section
variable {X:Cx}{e:fv}{te:TE}{st:fv}{ts:TO}{p2 pos:Pos}
end
end _2
namespace _3
open PySem _2
variable{B:Bd}{X:Cx}{e:fv}{pos:Pos}{x:Str}{te:b6}{r:yj}
section
variable{st:fv}{ts:Kz}{p2:Pos}
end
structure GF(K:SM)(mg:aaf)(x:Str)(st:q0)(f:cb)(fd:hG)(ps:Z_):Prop where
 F:Fun K x x st f fd
 b:Binds K fd ps []
 k:Ur K (.ref f)=true
 m:mg x=ap (.ref f)
structure GA(K:SM)(mg:aaf)(x y:Str)(st:q0)(f:cb)(fd:hG)(ps:Z_):Prop where
 F:Fun K y y st f fd
 b:Binds K fd ps []
 k:Ur K (.ref f)=true
 m:mg x=ap (.ref f)
structure FunV(K:SM)(x Z1:Str)(st:q0)(f:cb)(fd:hG):Prop where
 ex:∃(oc:ay)(od:Option cb)(kV doc pm:ay)(an:Option cb)(cdv ct:ay)(osl:Array (Option ay))(T:cb),
  fd=Vw x Z1 (bW st) (bw st) (aQ st) (.ref T) kV doc pm an cdv ct/\K.lookup f=ap ⟨oc,od,.func fd,osl⟩/\WU K cdv Z1=true
 kp:Ur K (.ref f)=true
structure GV(K:SM)(mg:aaf)(x:Str)(st:q0)(f:cb)(fd:hG)(ps:Z_)(dv:Int):Prop where
 F:FunV K x x st f fd
 b:Binds K fd ps []
 d:∃t,Binds K fd ps [.int dv t]
 k:Ur K (.ref f)=true
 m:mg x=ap (.ref f)
inductive GC(K:SM)(mg:aaf)(x:Str)(st:q0)(f:cb)(fd:hG)(ps:Z_):Prop
 |g (h:GF K mg x st f fd ps):GC K mg x st f fd ps
 |a {y:Str} (h:GA K mg x y st f fd ps):GC K mg x st f fd ps
 |v {dv:Int} (h:GV K mg x st f fd ps dv):GC K mg x st f fd ps
structure GM(K:SM)(C:cb)(x Z1:Str)(st:q0)(f:cb)(fd:hG)(ps:Z_):Prop where
 F:Fun K x Z1 st f fd
 b:Binds K fd ps []
 m:Meth K C x f
structure GI(K:SM)(C:cb)(x Z1:Str)(st:q0)(f:cb)(fd:hG)(ps:Z_):Prop where
 F:Fun K x Z1 st f fd
 b:Binds K fd ps []
 m:Mk K C f
section
variable{CX:ow}{k n:Nat}{f C:cb}{fd:hG}{N ps:Z_}{T:Sd}{EE:DX}{E:XK}{Z1:Str}{st:q0}{p Z5:Pos}{o:fv}{es:aab}{ta:b6}{t:dY}
theorem Fh(h:GC X.K X.mg x st f fd ps)(F:FnOk X.prog X.w X.K X.mg X.base CX k f fd ps (bB X.K n T))(u:Room k X.A)(s:Gl X x)(l:bH CX X E)(ux:vO X.K B EE E)(j:DA X B (e::es) t)(c:(x==("__debug__":Str))=cp)(q:ee (e::es) X.env=(cp,fx e X.env)::ee es X.env)(i:(g4 pos<|starEach es X.env).any (·.1)=cp):
  DE X B (.Call (.Name x p) (e::es) [] pos) (aj T EE n t):=by
 cases h with
 |g h=>exact r9 F u s h.m h.k h.b l ux j c q i
 |a h=>exact r9 F u s h.m h.k h.b l ux j c q i
 |v h=>exact r9 F u s h.m h.k h.b l ux j c q i
def NF(X:Cx)(B:Bd)(x:Str)(T:Sd)(EE:DX)(n:Nat):Prop:=∃(st:q0)(f:cb)(fd:hG)(ps:Z_)(k:Nat)(CX:ow)(E:XK),GC X.K X.mg x st f fd ps/\FnOk X.prog X.w X.K X.mg X.base CX k f fd ps (bB X.K n T)/\Room k X.A/\bH CX X E/\vO X.K B EE E
theorem Gz(h:NF X B x T EE n)(l:Gl X x)(i:DA X B (e::es) t)(a:(x==("__debug__":Str))=cp)(j:ee (e::es) X.env=(cp,fx e X.env)::ee es X.env)(b:(g4 pos<|starEach es X.env).any (·.1)=cp):
  DE X B (.Call (.Name x p) (e::es) [] pos) (aj T EE n t):=by
 obtain⟨_,_,_,_,_,_,_,h,F,c,g,ux⟩:=h;exact Fh h F c l g ux i a j b
theorem E1(h:GI X.K C Z1 x st f fd ps)(F:FnOk X.prog X.w X.K X.mg X.base CX k f fd ps (bB X.K n T))(s:Room (k+1) X.A){y:Str}(l:Gl X y)(q:X.mg y=ap (.ref C))(i:bH CX X E)(ux:vO X.K B EE E)(g:DA X B (e::es) t)(a:(y==("__debug__":Str))=cp)(j:ee (e::es) X.env=(cp,fx e X.env)::ee es X.env)(c:(g4 pos<|starEach es X.env).any (·.1)=cp):
  DE X B (.Call (.Name y p) (e::es) [] pos) (gT C T EE n t):=IB h.m F s l q h.b i ux g a j c
theorem FD{m:Str}{pl:Sem Bool}(l:DE X B o ta)(c:Cls X.K C)(h:GM X.K C m Z1 st f fd ps)(F:FnOk X.prog X.w X.K X.mg X.base CX k f fd ps (bB X.K n T))(s:Room k X.A)(j:bH CX X E)(ux:vO X.K B EE E)(i:DA X B (e::es) t)(a:ee (e::es) X.env=(cp,fx e X.env)::ee es X.env)(g:(g4 pos<|starEach es X.env).any (·.1)=cp)(q:fx (.Call (.Attribute o m Z5) (e::es) [] pos) X.env=(do
   let ov <- fx o X.env
   TD Z5.atName
   let (f,first) <- rc [ov] (S' ov m pl)
   Ze pos f first (g4 pos<|starEach (e::es) X.env) (wh pos<|keywordEach [] X.env))):
  DE X B (.Call (.Attribute o m Z5) (e::es) [] pos) (c_ C m T EE n ta t):=JD l c h.m F s h.b j ux i a g q
theorem D2{m:Str}{pl:Sem Bool}(j:DE X B o ta)(c:Cls X.K C)(h:GM X.K C m Z1 st f fd ps)(F:FnOk X.prog X.w X.K X.mg X.base CX k f fd ps (bB X.K n T))(i:Room k X.A)(g:bH CX X E)(ux:vO X.K B EE E)(a:fx (.Call (.Attribute o m Z5) [] [] pos) X.env=(do
   let ov <- fx o X.env
   TD Z5.atName
   let (f,first) <- rc [ov] (S' ov m pl)
   Ze pos f first (g4 pos<|starEach [] X.env) (wh pos<|keywordEach [] X.env))):
  DE X B (.Call (.Attribute o m Z5) [] [] pos) (c_ C m T EE n ta af):=FK j c h.m F i h.b g ux a
inductive FC(X:Cx)(scope:F'):List Str->List Nat->List (Str×cb)->Prop
 |nil:FC X scope [] [] []
 |cons {x:Str} {j:Nat} {c:cb} {fs:Z_} {js:List Nat} {cl:List (Str×cb)}:X.N[j]?=ap x->X.env.cells.lookup x=ap c->(X.env.kindOf x=ap .cell\/X.env.kindOf x=ap .free)->
   ((T0 scope X.env).names.lookup x=ap .cell\/(T0 scope X.env).names.lookup x=ap .free)->FC X scope fs js cl->FC X scope (x::fs) (j::js) ((x,c)::cl)
theorem FC.ok{g:F'}{fs:Z_}{l:List Nat}{j:List (Str×cb)}(h:FC X g fs l j):Frees X g fs l/\∃i:List cb,fs.length=i.length/\j=fs.zip i/\∀p∈j,X.env.cells.lookup p.1=ap p.2:=by
 induction h with
 |nil=>exact⟨.nil,[],rfl,rfl,memZ⟩
 |cons a b c d _ ih=>
  obtain⟨q,i,m,s,u⟩:=ih;exact⟨.cons a c d q,_::i,congrArg _ m,by rw[s];rfl,memC b u⟩
variable{scope:F'}{cl:List (Str×cb)}{ls fs:Z_}{js:List Nat}{tg iter elt:fv}{ifs:aab}{wi:vY}{g:je}{tt:eW}{i:Nat}{px spos:Pos}
theorem nodC{a:ca}{H₀:Hp}{b:aaa}{pl:aae}(h:N.Nodup):(a_ X N scope cl C a H₀ b pl).N.Nodup:=h
theorem AL(h:FC X scope fs js cl)(s:scope.kind=.function)(q:∀y∈scope.names,y.2≠.cell/\(y.2=.free->y.1∈fs))(m:∀x∈scope.names,x.2=.local->scope.names.lookup x.1=ap .local)(a:Za scope X.env=pure cl):CompOk X scope cl ls fs js:=by
 obtain⟨c,u,b,j,l⟩:=h.ok;subst j;exact HA s q m b a l c
theorem Eu(A:X.calm=true)(h:FC X scope fs js cl)(v:scope.kind=.function)(q:∀y∈scope.names,y.2≠.cell/\(y.2=.free->y.1∈fs))(G:∀x∈scope.names,x.2=.local->scope.names.lookup x.1=ap .local)(m:Za scope X.env=pure cl)(s:DI X B tg iter wi)(w:∀(C:cb)(j:ca)(H₀:Hp)(l:aaa)(pl:aae),DG (a_ X (ls++fs) scope cl C j H₀ l pl) wk tg g)(F:∀(C:cb)(j:ca)(H₀:Hp)(l:aaa)(pl:aae),MT (a_ X (ls++fs) scope cl C j H₀ l pl) wk ifs tt)(u:∀(C:cb)(j:ca)(H₀:Hp)(l:aaa)(pl:aae),DE (a_ X (ls++fs) scope cl C j H₀ l pl) wk elt te)(z:∀x,py iter X.env x=pure x):DE X B (.ListComp elt [⟨tg,iter,ifs,0⟩] scope pos) (aO wi ls js g tt te):=
 IM A (AL h v q G m) s (λa b c d e=>⟨w a b c d e,F a b c d e,u a b c d e⟩) z
theorem Ef(M:X.N.Nodup)(m:X.N[i]?=ap x)(u:Dh X.env.scope x)(I:X.calm=true)(h:FC X scope fs js cl)(z:scope.kind=.function)(K:∀y∈scope.names,y.2≠.cell/\(y.2=.free->y.1∈fs))(F:∀x∈scope.names,x.2=.local->scope.names.lookup x.1=ap .local)(q:Za scope X.env=pure cl)(s:DI X B tg iter wi)(L:∀(C:cb)(j:ca)(H₀:Hp)(l:aaa)(pl:aae),DG (a_ X (ls++fs) scope cl C j H₀ l pl) wk tg g)(J:∀(C:cb)(j:ca)(H₀:Hp)(l:aaa)(pl:aae),MT (a_ X (ls++fs) scope cl C j H₀ l pl) wk ifs tt)(w:∀(C:cb)(j:ca)(H₀:Hp)(l:aaa)(pl:aae),DE (a_ X (ls++fs) scope cl C j H₀ l pl) wk elt te)(v:X.env.blockKind=.function)(A:X.env.scope.names.lookup x=ap .local)(O:px.line=pos.line)(G:(scope.names.any λ(n,k)=>n==x&&(k==.local||k==.cell))=cp)(H:∀x,py iter X.env x=pure x)(P:X.fn x=true\/X.env.scope.names.lookup x=ap .local):
  DS X B (.Assign [.Name x px] (.ListComp elt [⟨tg,iter,ifs,0⟩] scope pos) spos) (cV i<|aO wi ls js g tt te):=
 Ir M m u I (AL h z K F q) s (λa b c d e=>⟨L a b c d e,J a b c d e,w a b c d e⟩) (JS v A O G) H P
theorem Jk{l:Str}{H M O j:Pos}{c:q0}{a:aac}{L:ar}(h:GF X.K X.mg x st f fd ps)(F:FnOk X.prog X.w X.K X.mg X.base (pi X.prog X.w) k f fd ps (bB X.K n T))(s:X.stack=X.env::X.outer)(q:X.env.frame=ap X.env.locals)(P:Room k X.A)(S:Gl X x)(Q:DA X.nox B (e::es) t)(EX:ExcAt X.K C)(y:Gl X l)(z:X.mg l=ap (.ref C))(J:∀U:cb,B9 (X.marked<|.ref U) B (c::a) L)(I:(x==("__debug__":Str))=cp)(G:(l==("__debug__":Str))=cp)(R:ee (e::es) X.env=(cp,fx e X.env)::ee es X.env)(u:(g4 H<|starEach es X.env).any (·.1)=cp)(v:re (.Call (.Name x p) (e::es) [] H) bb M.line X.env=pure cp):
  DS X B (.Try [.Expr (.Call (.Name x p) (e::es) [] H) M] [.ExceptHandler (ap<|.Name l O) bb (c::a) j] [] [] pos) (Mo C T n t L):=wa s q F P S h.m h.k h.b Q EX y z J I G R u v
end
section
variable{id T Ty:String}{p Z5 Z4:Pos}{o:fv}{es:aab}{to:b6}{t:dY}{name:Str}
theorem bZ{r:mR}(j:bp X (.builtin id) (liftC X r))(f:eT x=ap (.builtin id))(i:Gl X x)(l:X.mg x=bb)(g:DA X B (e::es) t)(c:x≠"__name__")(a:(x==("__debug__":Str))=cp)(h:ee (e::es) X.env=(cp,fx e X.env)::ee es X.env)(b:(g4 pos<|starEach es X.env).any (·.1)=cp):DE X B (.Call (.Name x p) (e::es) [] pos) (bg r t):=GW j i l f g c a h b
theorem fA{r:mR}(j:bp X (.type T) (liftC X r))(f:eT x=ap (.type T))(i:Gl X x)(l:X.mg x=bb)(g:DA X B (e::es) t)(c:x≠"__name__")(a:(x==("__debug__":Str))=cp)(h:ee (e::es) X.env=(cp,fx e X.env)::ee es X.env)(b:(g4 pos<|starEach es X.env).any (·.1)=cp):DE X B (.Call (.Name x p) (e::es) [] pos) (bg r t):=CP j i l f g c a h b
theorem lQ(b:eT x=ap (.type T))(c:Gl X x)(f:X.mg x=bb)(a:x≠"__name__")(g:(x==("__debug__":Str))=cp):DE X B (.Name x pos) (dC<|.ty T):=QY c f b a g
theorem DU(q:UV Ty)(f:ZB Ty name id)(h:Y_ (.builtin id)=pure (.type "method_descriptor"))(m:wf X id (liftM X r))(n:Ty="list"\/Ty="str"\/Ty="int"\/Ty="dict")(j:DE X B o to)(i:DA X B (e::es) t)(b:kL o name X.env (fx o X.env)=fx o X.env)(g:((g4 Z4<|starEach (e::es) X.env).all (λx=>!x.1)&&(wh Z4<|keywordEach [] X.env).all (λx=>x.1.isSome)
   && decide ((e::es).length+([]:List vb).length+(if ([]:List vb).isEmpty then 0 else 1)<30))=true)(c:(Z5.endLine==Z4.line)=true)(l:ee (e::es) X.env=(cp,fx e X.env)::ee es X.env)(a:(g4 Z4<|starEach es X.env).any (·.1)=cp):
  DE X B (.Call (.Attribute o name Z5) (e::es) [] Z4) (ko Ty r to t):=S2 n q f h m j i b g c l a
theorem yC(j:UV Ty)(c:ZB Ty name id)(f:Y_ (.builtin id)=pure (.type "method_descriptor"))(h:wf X id (liftM X r))(i:Ty="list"\/Ty="str"\/Ty="int"\/Ty="dict")(g:DE X B o to)(a:kL o name X.env (fx o X.env)=fx o X.env)(b:(Z5.endLine==Z4.line)=true):DE X B (.Call (.Attribute o name Z5) [] [] Z4) (ko Ty r to af):=N8 i j c f h g a b
theorem GS(f:ZB "tuple" name id)(h:Y_ (.builtin id)=pure (.type "method_descriptor"))(m:wf X id (liftM X r))(j:DE X B o to)(i:DA X B (e::es) t)(b:kL o name X.env (fx o X.env)=fx o X.env)(g:((g4 Z4<|starEach (e::es) X.env).all (λx=>!x.1)&&(wh Z4<|keywordEach [] X.env).all (λx=>x.1.isSome)
   && decide ((e::es).length+([]:List vb).length+(if ([]:List vb).isEmpty then 0 else 1)<30))=true)(c:(Z5.endLine==Z4.line)=true)(l:ee (e::es) X.env=(cp,fx e X.env)::ee es X.env)(a:(g4 Z4<|starEach es X.env).any (·.1)=cp):
  DE X B (.Call (.Attribute o name Z5) (e::es) [] Z4) (Hn r to t):=P_ f h m j i b g c l a
theorem Hw{i:Nat}{op:WP}{r:fL}{pos':Pos}(c:MR X op (liftR2 X r))(g:X.N.Nodup)(a:X.N[i]?=ap x)(b:Dh X.env.scope x)(f:DE X B e te)(h:X.fn x=true\/X.env.scope.names.lookup x=ap .local):
  DS X B (.AugAssign (.Name x pos') op e pos) (FW i te r):=NW g a b f c h
end
structure Nf(K:SM)(x:Str)(st:q0)(f:cb)(fd:hG):Prop where
 a:Uq K eH x=ap (ap<|.ref f)
 F:Fun K x x st f fd
structure Af(K:SM)(x y:Str)(st:q0)(f:cb)(fd:hG):Prop where
 a:Uq K eH x=ap (ap<|.ref f)
 F:Fun K y y st f fd
structure Mf(K:SM)(C:cb)(x q:Str)(st:q0)(f:cb)(fd:hG):Prop where
 a:TY K (.ref C) x=ap (ap<|.ref f)
 i:W.isFn K (.ref f)=true
 F:Fun K x q st f fd
theorem us1{α:Type}{P:List α->Prop}(h:∀a,P [a]):∀us:List α,us.length=1->P us
 |[a],_=>h a
theorem us2{α:Type}{P:List α->Prop}(h:∀a b,P [a,b]):∀us:List α,us.length=2->P us
 |[a,b],_=>h a b
theorem us3{α:Type}{P:List α->Prop}(h:∀a b c,P [a,b,c]):∀us:List α,us.length=3->P us
 |[a,b,c],_=>h a b c
theorem us4{α:Type}{P:List α->Prop}(h:∀a b c f,P [a,b,c,f]):∀us:List α,us.length=4->P us
 |[a,b,c,f],_=>h a b c f
theorem us5{α:Type}{P:List α->Prop}(h:∀g c f b a,P [g,c,f,b,a]):∀us:List α,us.length=5->P us
 |[g,c,f,b,a],_=>h g c f b a
theorem us6{α:Type}{P:List α->Prop}(h:∀i c g b a f,P [i,c,g,b,a,f]):∀us:List α,us.length=6->P us
 |[i,c,g,b,a,f],_=>h i c g b a f
abbrev Bnd(ps:Z_)(x Z1:Str)(st:q0):Prop:=∀(kV doc pm:ay)(an:Option cb)(cdv ct:ay)(us:Z'),us.length=ps.length->Zu (Vw x Z1 (bW st) (bw st) (aQ st) .none kV doc pm an cdv ct) ⟨us,[]⟩=pure (ps.zip us)
section
variable{P:eX}{w:f'}{K:SM}{mg:aaf}{base h:fy}{k n:Nat}{f C:cb}{fd:hG}{N ps:Z_}{S:Sd}{T:DX->ar}{Z1:Str}{st:q0}
theorem gf(X:K.In h)(G:h.Ns eH mg)(l:Nf K x st f fd)(b:Bnd ps x x st:=by ac_rfl):GF K mg x st f fd ps:=⟨l.F,l.F.binds b,l.F.kp,VR X G l.a⟩
theorem ga{y:Str}(X:K.In h)(G:h.Ns eH mg)(l:Af K x y st f fd)(b:Bnd ps y y st:=by ac_rfl):GA K mg x y st f fd ps:=⟨l.F,l.F.binds b,l.F.kp,VR X G l.a⟩
theorem gm(l:Mf K C x Z1 st f fd)(b:Bnd ps x Z1 st:=by ac_rfl):GM K C x Z1 st f fd ps:=⟨l.F,l.F.binds b,l.a,l.i,l.F.kp⟩
theorem gi(mk:Wg K C=true)(c:Ur K (.ref C)=true)(l:Mf K C "__init__" Z1 st f fd)(b:Bnd ps "__init__" Z1 st:=by ac_rfl):GI K C "__init__" Z1 st f fd ps:=⟨l.F,l.F.binds b,mk,l.a,l.i,c⟩
abbrev cj(P:eX)(w:f')(mg:aaf)(base:fy)(_:Fun K x Z1 st f fd)(_:Binds K fd ps [])(k:Nat)(S:Sd):Prop:=FnOk P w K mg base (pi P w) k f fd ps (bB K ps.length S)
theorem fnS(j:S=aI N T)(F:Fun K x Z1 st f fd)(b:Binds K fd ps [])(g:FnScope N ps (aQ st))(i:FnScope N ps (aQ st)->∀(c:ay)(A:g3)(a:List Env)(s:ca)(H:Hp)(E:XK)(B:Bd)(EE:DX),Room k (A.deeper<|Vh Z1 (aQ st) s.heap.objs.size f c)->vO K B EE E->
   B9 (eG (pi P w) P w K mg base N Z1 (aQ st) f c A a s H E) B (bw st) (T EE)):cj P w mg base F b (k+1) S:=by
 subst j;exact fnD F g (i g)
end
end _3
namespace _S
open PySem PySem.W PySem.Calls PyProof.Rows PyProof.V PySem.Spec
section
variable {prog:eX}{w:f'}{A:g3}{E:aad}{s:ca}{x:Str}{t:Tok}
end
end _S
namespace _3
open PySem _2 _S
section
variable {X:Cx}{B:Bd}{pos:Pos}
end
end _3
namespace _3
open PySem _2
section
variable {X:Cx}{B:Bd}{s:ca}
end
section
variable {X:Cx}{B:Bd}{x:Str}{pos p:Pos}{e:fv}{es:aab}{t:dY}{a:cb}{tab:List (Str×D)}
end
section
variable {P:eX}{w:f'}{K:SM}{mg:aaf}{base:fy}{k:Nat}{f C:cb}{fd:hG}{N ps:Z_}{S:cb->Sd}{T:cb->DX->ar}{x Z1:Str}{st:q0}
end
end _3
namespace _3
open PySem _2 _S
section
variable {X:Cx}{B:Bd}{K:SM}{H:Hp}
def PP(M:Mem):D->Bool
 |.ref a=>match M a with
  |some (.dK _)=>true
  |_=>cp
 |_=>cp
def Ga(td ty:b6):b6:=λU M Q=>td U M λx M1=>PP M1 x=true/\ty U M1 λy M2=>match x with
 |.ref a=>match M2 a,cA y with
  |some (.dK Z2),ap k=>match cq Z2 k with
   |some v=>Q v (M2.upd a<|.dK<|pH Z2 k)
   |none=>False
  |_,_=>False
 |_=>False
def FI(td ty tx:b6):b6:=λU M Q=>td U M λx M1=>PP M1 x=true/\ty U M1 λy M2=>tx U M2 λz M3=>match x with
 |.ref a=>match M3 a,cA y with
  |some (.dK Z2),ap k=>match cq Z2 k with
   |some v=>Q v (M3.upd a<|.dK<|pH Z2 k)
   |none=>Q z M3
  |_,_=>False
 |_=>False
theorem Fw{M:Mem}{x:D}{v:V}(f:RepH K H M)(r:Rp K H x v)(e:PP M x=true):∃a,x=.ref a/\v=.ref a/\IsD H a:=by
 cases x with
 |ref a=>
  cases r;refine⟨a,rfl,rfl,?_⟩;simp[PP]at e
  split at e
  .rename_i q;obtain⟨c,b,_⟩:=f _ _ q;exact .inl ⟨c,.inl b⟩
  cases e
 |_=>cases e
theorem JJ{o e:fv}{to te:b6}{Z5 Z4:Pos}(ho:DE X B o to)(he:DE X B e te)(m:M1 X o "pop" Z5 e Z4):DE X B (.Call (.Attribute o "pop" Z5) [e] [] Z4) (Ga to te):=by
 refine aS (Gy ho he m) ?_
 rintro Z H Q ⟨U,M,QQ,s,h,u⟩
 refine⟨U,M,_,s,h,λx M1 h1 v1 H1 rh1 i1 r1=>?_⟩;obtain⟨a,rfl,rfl,hd⟩:=Fw rh1 r1 h1.1;refine⟨a,rfl,hd,U,M1,_,s.go rh1 i1,h1.2,λy M2 h2 v2 H2 rh2 i2 r2=>?_⟩;dsimp only at h2
 split at h2
 .rename_i Z2 k hM ek
  obtain⟨ws,g1,g2⟩:=rh2 _ _ hM;have im:Imm H2 (upd H2 a<|.dK<|gQ ws k):=Imm.upd (by rw[g1];trivial)
  rcases g2.val k with⟨q,_⟩|⟨d,w,q,qw,rw'⟩
  .simp_all
  rw[q]at h2;exact⟨ws,k,w,g1,(gy r2 ek),qw,u _ _ h2 _ _ (rh2.put (by rw[g1];trivial) ⟨_,upd_same,(g2.drop k).mono im⟩) ((i1.trans i2).trans<|Frm.put<|.inr ⟨_,hM⟩)<|rw'.mono im⟩
 trivial
theorem Hs{o e f:fv}{to te tf:b6}{Z5 Z4:Pos}(ho:DE X B o to)(he:DE X B e te)(hf:DE X B f tf)(m:M2 X o "pop" Z5 e f Z4):DE X B (.Call (.Attribute o "pop" Z5) [e,f] [] Z4) (FI to te tf):=by
 refine aS (Gu ho he hf m) ?_
 rintro Z H Q ⟨U,M,QQ,s,h,u⟩
 refine⟨U,M,_,s,h,λx M1 h1 v1 H1 rh1 i1 r1=>?_⟩;obtain⟨a,rfl,rfl,hd⟩:=Fw rh1 r1 h1.1;refine⟨a,rfl,hd,U,M1,_,s.go rh1 i1,h1.2,λy M2 h2 v2 H2 rh2 i2 r2=>?_⟩;refine⟨U,M2,_,(s.go rh1 i1).go rh2 i2,h2,λz M3 h3 v3 H3 rh3 i3 r3=>?_⟩;dsimp only at h3
 split at h3
 .rename_i Z2 k hM ek
  obtain⟨ws,g1,g2⟩:=rh3 _ _ hM;have ey:=gy (r2.mf rh2 i3) ek;have im:Imm H3 (upd H3 a<|.dK<|gQ ws k):=Imm.upd (by rw[g1];trivial)
  rcases g2.val k with⟨q,qn⟩|⟨d,w,q,qw,rw'⟩
  .rw[q]at h3
   exact⟨ws,k,g1,ey,by lia,λ_=>u _ _ h3 _ _ rh3 ((i1.trans i2).trans i3) r3⟩
  rw[q]at h3;refine⟨ws,k,g1,ey,λv ev=>?_,by lia⟩
  rw[qw]at ev;cases ev;exact u _ _ h3 _ _ (rh3.put (by rw[g1];trivial) ⟨_,upd_same,(g2.drop k).mono im⟩) (((i1.trans i2).trans i3).trans<|Frm.put<|by simp_all) (rw'.mono im)
 trivial
def mW:mR:=λb M Q=>match b with
 |[.ref a]=>match M a with
  |some (.dK Z2)=>∀p,M p=bb->Q (.ref p) (M.upd p<|.dK Z2)
  |_=>False
 |_=>False
theorem uf:bp X (.type "dict") (liftC X mW):=by
 rintro Z0 s Z H xs us Q I r ⟨ds,M,QQ,rh,rp,h,up⟩
 unfold mW at h
 split at h
 .obtain⟨v,rfl,rv⟩:=eU (ds:=[]) rp
  cases rv
  split at h
  .rename_i Z2 e
   obtain⟨u,rfl,ru⟩:=r.one;cases ru;obtain⟨ws,h1,h2⟩:=rh _ _ e;exact E3 I (.inl h1) λp s' hp I'=>⟨.ref p,_,I',rfl,up _ _ (h p<|rh.fresh hp) _ _ (rh.put (by rw[hp];trivial) ⟨_,upd_same,h2.mono<|Imm.new hp⟩) (Frm.put<|.inl hp) rfl⟩
  trivial
 trivial
end
end _3
namespace _2
open PySem PySem.W PySem.Calls PyProof.Rows PyProof.V PySem.Spec
noncomputable def isO:Option aF->ay->Bool
 |some k,v=>mV k v
 |none,.none=>true
 |none,_=>cp
theorem dG{v:ay}(h:isO bb v=true):v=.none:=by cases v<;>first|rfl|cases h
section
variable {prog:eX}{w:f'}{A:g3}{E:aad}{s:ca}
theorem vz{Q:Int->ca->Prop}(h:Q 4238894112 { s with toks:=s.toks+1 }):cT (eC prog w) A (pyHash .none) Q E s:=by
 have a:s.TypeIs .none "NoneType":=rfl;refine ax ?_;refine cx ?_;refine ax (S_ a rfl ?_);refine ax (S_ a rfl ?_)
 refine ax (wpAny_callSpecialIfBoundUnlessNone?_slot a WX
  (mu WX a rfl
   (wpAny_ret_mkInt ?_) rfl))
 exact cx h
theorem ub{Q:Bool->ca->Prop}(h:Q true s):cT (eC prog w) A (eqBool .none .none) Q E s:=by
 exact ax (T'<|wpAny_pure h)
end
noncomputable def G9(prog:eX)(w:f'):PySem.KeyKind prog w (Option aF) where
 is:=isO
 hash:=λk=>match k with
  |some k=>QP w k
  |none=>4238894112
 inj:=λv a b g f=>by
  cases a with
  |some a=>
   cases b with
   |some b=>rw[(aU prog w).inj v a b g f]
   |none=>
    cases dG f;rcases aX g with⟨i,t,_,e⟩|⟨x,t,_,e⟩<;>exact nomatch e
  |none=>
   cases dG g;cases b with
   |some b=>rcases aX f with⟨i,t,_,e⟩|⟨x,t,_,e⟩<;>exact nomatch e
   |none=>rfl
 byValue:=λk v h=>by
  cases k with
  |some k=>exact(aU prog w).byValue k v h
  |none=>cases dG h;rfl
 pyHash:=λ{A E s k v Q} c h=>by
  cases k with
  |some k=>exact(aU prog w).pyHash c h
  |none=>cases dG c;exact vz h
 eqBool:=λ{A E s a b u v Q} j c h=>by
  cases a with
  |some a=>
   cases b with
   |some b=>
    refine (aU prog w).eqBool j c ?_;have:decide (ap a=ap b)=decide (a=b):=decide_eq_decide.mpr ⟨λe=>by injection e,λe=>by rw[e]⟩
    rw[this]at h;exact h
   |none=>
    cases dG c;have e:decide (ap a=bb)=false:=decide_eq_false (λz=>nomatch z);rw[e]at h;rcases aX j with⟨i,t,rfl,rfl⟩|⟨x,t,rfl,rfl⟩
    .exact Xn i t _ _ _ _ h
    .exact Xk x t _ _ _ _ h
  |none=>
   cases dG j;cases b with
   |some b=>
    have e:decide (bb=ap b)=false:=decide_eq_false (λz=>nomatch z);rw[e]at h;rcases aX c with⟨i,t,rfl,rfl⟩|⟨x,t,rfl,rfl⟩
    .exact Xm i t _ _ _ _ h
    .exact Xl x t _ _ _ _ h
   |none=>
    cases dG c;exact ub h
 «strs»:=λk x t v h=>by
  cases k with
  |some k=>exact(aU prog w).strs k x t v h
  |none=>cases h
section
variable {X:Cx}{Z0:aae}{Z:St}{H:Hp}{s:ca}{a:cb}{Z2:List (aF×V)}{A:g3}{E:aad}
theorem map_none{b:eX}{w:f'}{h:fy}{f:aF->Option ay}(m:h.MapOf (aU b w) a f):h.MapOf (G9 b w) a (λk=>match k with|some k=>f k|none=>bb):=by
 obtain⟨o,j,y,p,r,z,l,v⟩:=m;refine⟨o,j,y,p,r,z,λe c=>?_,λk=>?_⟩
 .obtain⟨k,g,u⟩:=l e c
  exact⟨ap k,g,u⟩
 cases k with
 |some k=>exact v k
 |none=>
  have:∀e∈j,isO bb e.key=false:=λe c=>by
   obtain⟨k,g,_⟩:=l e c;rcases aX g with⟨i,t,_,q⟩|⟨x,t,_,q⟩<;>rw[q]<;>rfl
  have e:j.find? (λe=>(G9 b w).is bb e.key)=none:=by
   rw[Array.find?_eq_none];intro x n;exact V4.mp (this x n)
  unfold findBy;rw[e];rfl
theorem Sk{Q:aad}(I:Inv X Z0 Z H s)(e:Rd H a (.dK Z2))(h:∀b,Inv X Z0 Z H b->Q (.bool cp) b):cT (eC X.prog X.w) A (kc .In .none<|.ref a) Q E s:=by
 obtain⟨z,g,i,c,f⟩:=iI I.hok e;refine wpAny_in_of (knd:=G9 X.prog X.w) (k:=bb) rfl g (map_none f.mapOf) ?_;exact h _ (I.tok _)
end
end _2
namespace _3
open PySem _2 _S
section
variable {X:Cx}{B:Bd}
def yo(M:Mem)(x y:D):Option Bool:=match x,y with
 |.non,.ref a=>match M a with
  |some (.dK _)=>ap cp
  |_=>bb
 |_,_=>j8 M x y
def Dx:fL:=λx y M Q=>match yo M x y with
 |some k=>Q (.bl k) M
 |none=>False
theorem HP(q:X.A.units+64<n7):cD X (kc .In) (liftR2 X Dx):=by
 rintro b s Z H x y v u Q I j g ⟨n,p,M,QQ,a,c,i,h,f⟩
 unfold Dx at h
 split at h
 .rename_i k e
  unfold yo at e
  split at e
  .cases c
   cases i;cases j;cases g
   split at e
   .rename_i l o
    cases e;obtain⟨z,m,w⟩:=a _ _ o;exact Sk I (.inl m) λr I'=>⟨.bl _,H,I',rfl,f _ M h _ H a Frm.refl rfl⟩
   cases e
  refine DZ q _ s Z H x y v u Q I j g ⟨n,p,M,QQ,a,c,i,?_,f⟩;unfold tW
  simp_all
 trivial
end
end _3
namespace _2
open PySem PySem.Spec PyProof.Rows
variable{l z:cb}
theorem oO:ZB "reversed" "__init__" "object.__init__":=
 .of (owner:="object") (n:="__init__") (by rfl) (by rfl) (by rfl) (by rfl)
  (by trivial) (by kernel_rfl)
theorem gU:ZB "reversed" "__iter__" "reversed.__iter__":=
 .of (owner:="reversed") (n:="__iter__") (by rfl) (by rfl) (by rfl) (by rfl)
  (by trivial) (by kernel_rfl)
theorem cK:ZB "reversed" "__next__" "reversed.__next__":=
 .of (owner:="reversed") (n:="__next__") (by rfl) (by rfl) (by rfl) (by rfl)
  (by trivial) (by kernel_rfl)
theorem PQ:Manifest.owners.lookup (String.ofList ['d','e','s','r','e','v','e','r'].reverse)=ap Manifest.sig_reversed:=by kernel_rfl
theorem fR:Wp ZR "reversed.__next__"=ap Builtin.«reversed.__next__»:=PySem.entryFor_of_tree (by kernel_rfl)
theorem oJ:Wp ZR "reversed.__new__"=ap Builtin.«reversed.__new__»:=entryFor_of_tree (by kernel_rfl)
theorem nC:Wp ZR "reversed.__iter__"=ap Builtin.«dict_keyiterator.__iter__»:=
 entryFor_alias (id':="dict_keyiterator.__iter__") (by kernel_rfl) (by rfl) (by decide +kernel) (by kernel_rfl)
theorem oF(a:ay):WF "reversed.__iter__" ⟨[a],[]⟩:=by
 kernel_rfl
theorem gP(a:ay):WF "reversed.__next__" ⟨[a],[]⟩:=by
 kernel_rfl
theorem yJ:mroOf (.type "reversed")=pure [.type "reversed",.type "object"]:=by rfl
theorem m7:SL (.type "reversed") "__new__"=pure (ap<|.builtin "reversed.__new__"):=by rfl
theorem wL:TypeCalled "reversed" "reversed.__new__" "object.__init__":=
 ⟨by rfl,by rfl,⟨_,_,yJ⟩,madeBy_type yJ m7 (by decide +kernel),by decide +kernel,by rfl,oO⟩
theorem t9(a:ay):XV "reversed" ⟨[a],[]⟩=pure ():=by kernel_rfl
theorem uh(a:ay):SZ "reversed.__new__" ⟨[.type "reversed",a],[]⟩=pure ():=by kernel_rfl
theorem gJ(a b:ay):WF "object.__init__" ⟨[a,b],[]⟩:=by
 kernel_rfl
theorem J5:isSubtype (.type "reversed") (.type "reversed")=pure true:=by rfl
theorem Pn:SL (.type "tuple") "__reversed__"=pure none:=by rfl
theorem Ee:isSubtype (.type "tuple") (.type "dict")=pure false:=by rfl
abbrev pY(h:fy)(z l:cb)(j:Int):Prop:=h.get? z=ap { cls:=.type "reversed",dict:=bb,data:=.fields #[.ref l,.int j 0],slots:=#[] }
section
variable{prog:eX}{w:f'}{A:g3}{E:aad}{s:ca}
theorem Fq{items:aag}{k:Nat}{x:ay}{Q:Option ay->ca->Prop}(a:pY s.heap z l k)(m:ZF s.heap l items)(g:items[k]?=ap x)(n:(k:Int)<2 ^ 63)(hQ:∀h',pY h' z l ((k:Int)-1)->Uh z s.heap h'->Q (ap x) { s with heap:=h',toks:=s.toks+1 }):
  cT (eC prog w) A (z6<|.ref z) Q E s:=by
 have i:s.TypeIs (.ref z) _:=⟨_,a,rfl⟩
 refine ax (B' (wpAny_callSpecial?_slot i cK
  (mu cK i fR ?_<|gP _)))
 show cT _ _ (ZW _ 0 >>= _) _ _ s;refine ax (k6 a rfl rfl ?_);refine ax (k6 a rfl rfl ?_);show cT _ _ (if (k:Int)<0 then _ else _) _ _ _
 refine ax (S_ m.typeIs rfl ?_);refine ax (wpAny_mkInt ?_);have c:k<items.size:=by
  rcases UP k _ with h|h
  .exact h
  .rw[XF h]at g;cases g
 refine ax (B'<|getItem_tuple m (by lia) n ?_ g ?_)
 .have e:¬((k:Int)<0):=by lia
  simp[ZD,c,if_neg e]
 refine ax (k6 a rfl rfl ?_);refine ax (om a (by simp) λj b f=>?_)
 exact cx ⟨_,rfl,cx<|hQ _ b f⟩
theorem I_{j:Int}{Q:Option ay->ca->Prop}(C:A.handled=bb)(h:pY s.heap z l j)(y:j<0)(B:∀h',VY z s.heap h'->Q bb { s with heap:=h' }):cT (eC prog w) A (z6<|.ref z) Q E s:=by
 have r:s.TypeIs (.ref z) "reversed":=⟨_,h,rfl⟩;unfold z6
 refine ax (B' (wpAny_callSpecial?_slot r cK
  (mu cK r fR ?_<|gP _)))
 show cT _ _ (ZW (.ref z) 0 >>= _) _ _ s;refine ax (k6 h rfl (x:=.ref l) rfl ?_);refine ax (k6 h rfl (x:=.int j 0) rfl ?_);show cT _ _ (if j<0 then _ else _) _ _ _
 rw[if_pos y];refine ax (T' ?_);refine ax (ax (om h (by simp) λu i n=>?_))
 refine om i (by simp) λg v f=>?_
 refine ax ?_;refine ax ?_;refine ax (m:=Zt _ _) (K' (a:=Ub) (by rfl) ?_)
 refine pt ?_ (by size_fits)
 simp only[raiseNew];refine ax (Zx ?_);rw[show A.in1.handled=bb from C];refine ax (cx<|wpAny_throw ?_);refine ax (SC (T:="StopIteration") (b:=true) ⟨_,SK _ rfl,rfl⟩ V' ?_);refine cx (B _ ?_);have q:VY z s.heap g:=λc o p e=>f.extBut _ _ p (n.extBut _ _ p e);exact(q.push _).push _
theorem vE{j:Int}{Q:aad}(b:pY s.heap z l j)(h:Q (.ref z) s):cT (eC prog w) A (UF<|.ref z) Q E s:=by
 have a:s.TypeIs (.ref z) _:=⟨_,b,rfl⟩;exact wpAny_pyIter_slot a gU (mu gU a nC (cx ⟨_,rfl,_,_,a,rfl,h⟩)<|oF _)
theorem Gp{items:aag}{Q:aad}(j:ZF s.heap l items)(i:(items.size:Int)<2 ^ 63)(h:∀b h',h'.objs.size=s.heap.objs.size+1->pY h' s.heap.objs.size l ((items.size:Int)-1)->(∀c o,s.heap.get? c=ap o->h'.get? c=ap o)->Q (.ref s.heap.objs.size) { s with heap:=h',toks:=b }):
  cT (eC prog w) A (call (.type "reversed") [.ref l]) Q E s:=by
 refine ZN (S:=λ_ R s=>ZF s.heap l items/\∀b,R (.ok<|.ret<|.ref s.heap.objs.size) { s with heap:=s.heap.push { cls:=.type "reversed",data:=.fields #[.ref l,.int ((items.size:Int)-1) 0] },toks:=b })
  wL (by decide) (t9 _) (uh _) (λobj=>gJ obj _) oJ ?_ ⟨j,λb=>?_⟩
 .refine .of_wp λprog w A R s h=>?_
  obtain⟨j,h⟩:=h;obtain⟨p,g,d,b,q⟩:=s;have f:=J5;have n:=j.typeIs;unfold Builtin.«reversed.__new__»;refine ax ?_;unfold Builtin.SmallTypes.newClass;refine ax (K' (a:=true) rfl ?_);rw[if_neg (by simp)]
  refine ax (K' f ?_);rw[if_neg (by simp)]
  refine cx ?_;refine ax (m:=specialOf _ _) (S_ n Pn ?_);refine ax ?_;refine ax (SC n Ee ?_);rw[if_neg (by simp)]
  refine ax (S_ (T:="tuple") n slot_tuple_getitem.lookup ?_);show cT _ _ (if (["tuple.__getitem__","str.__getitem__","bytes.__getitem__","bytearray.__getitem__","memoryview.__getitem__","numpy.ndarray.__getitem__","sqlite3.Row.__getitem__"].contains "tuple.__getitem__")=true then _ else _) _ _ _
  rw[if_pos (by decide)]
  refine cx ?_;refine ax (len_tuple j i ?_);show cT _ _ (newObj (.type "reversed") (.fields #[.ref l,.int ((items.size:Int)-1) 0]) >>= _) _ _ _;refine ax (pt ?_<|by size_fits)
  exact cx ⟨_,rfl,h _⟩
 .exact⟨⟨_,SK _ rfl,rfl⟩,h b _ (Ug ..) (SK _ rfl) λc o e=>SF _ e⟩
end
noncomputable def Itv(K:SM)(a:cb)(n:Nat):It:=
 ⟨λi H=>i<n/\∃xs x,jH K H a xs/\xs[n-1-i]?=ap x,λi H x H'=>H'=H/\∀xs,jH K H a xs->xs[n-1-i]?=ap x,λi _=>n<=i⟩
theorem DJ{P:eX}{w:f'}{K:SM}{tg:fv}(a f:cb)(n:Nat)(hn:n<2 ^ 63):Turn P w K tg (Itv K a n) [f] f (λi h=>pY h f a ((n:Int)-1-i)) where
 mem:=by simp
 obj:=λi h c b N=>by
  simp_all
 keep:=λi h B c k=>k f (by simp) _ c
 item:=by
  intro X M G J F i g s Z H E I v c r;subst M G J;obtain⟨hi,xs,x,L,C⟩:=r;obtain⟨T,R,p,hz⟩:=I.tuple L;obtain⟨u,Q,U⟩:=R.get C;obtain⟨A,m,S,j,y,q⟩:=v f (by simp)
  have e1:n-1-i=((n-1-i:Nat):Int):=by lia
  refine Fq (by rw[<- e1];exact c) (p) (by simpa using Q) (by lia) λB e W=>?_
  have I1:Inv X _ Z H { s with heap:=B,toks:=s.toks+1 }:=I.turned (λb o N=>(W.2 b N).trans) A m j y q;have Y:(((n-1-i:Nat):Int))-1=n-1-(i+1:Nat):=by lia
  rw[Y]at e;exact⟨u,rfl,tP e rfl rfl (by decide) ⟨x,H,I1,U,⟨rfl,λys O=>by rw[I.tuple_inj O L];exact C⟩,e,by simp_all⟩⟩
 done:=by
  intro X M G J F i g s Z H E I v c r;obtain⟨A,m,S,j,y,q⟩:=v f (by simp)
  have hg':n<=i:=r;exact I_ (I.ok.hd F) c (by lia) λB eb=>⟨rfl,I.turned (eb) A m j y q⟩
 self:=λ_ _ _ _ _ c h=>vE c h
section
variable{X:Cx}{tg:fv}
def iRev(K:SM)(t:TA):TI:=λZ H R=>t Z H λa H1=>∃l xs,a=[.ref l]/\jH K H1 l xs/\R (Itv K l xs.length) H1
theorem NH:eT "reversed"=ap (.type "reversed"):=by rfl
theorem Nr{a:fv}{o:TA}{p pos:Pos}(J:Gl X "reversed")(L:X.mg "reversed"=bb)(F:PA X [a] o)(G:ee [a] X.env=[(cp,fx a X.env)]:=by rfl):
  PI X tg (.Call (.Name "reversed" p) [a] [] pos) (iRev X.K o):=by
 intro n s Z H R I h;refine Call_ (cG I J L NH<|TM (bu (F _ _ s Z H _ I h) λN y r=>?_) G rfl);obtain⟨O,H1,I1,u,f⟩:=r;obtain⟨l,j,e,f,q⟩:=f;subst e;obtain⟨Q,rfl,g⟩:=u.one;cases g;obtain⟨c,x,A,E⟩:=I1.tuple f;have m:=x.length;have w:j.length<2 ^ 63:=Nat.lt_of_le_of_lt E (by decide)
 refine Gp A (by simp;lia) λC P B i v=>?_
 have I2:Inv X _ Z H1 _:=I1.kept (t':=C) v;refine vE i ?_;refine⟨_,_,_,_,H1,rfl,I2,DJ l _ _ (by lia),?_,λb M=>?_,q⟩
 .have e:c.toArray.size-1=j.length-1-(0:Int):=by simp;lia
  rw[e]at i;exact i
 have e:b=y.heap.objs.size:=by simp_all
 subst e;exact I1.fpOk (SO _) (I1.hok.fresh<|SO _)
end
end _2
namespace _3
open PySem _2 _S
section
variable {X:Cx}{B:Bd}{tg:fv}{K:SM}{H:Hp}{M:Mem}
def Nh(t:dY):vY:=λU M R=>t U M λa M1=>match a with
 |[.tup xs]=>R ⟨xs.reverse,[]⟩ M1
 |_=>False
theorem O3{a:fv}{o:dY}{p pos:Pos}(I:Gl X "reversed")(J:X.mg "reversed"=bb)(F:DA X B [a] o)(G:ee [a] X.env=[(cp,fx a X.env)]:=by rfl):
  DI X B tg (.Call (.Name "reversed" p) [a] [] pos) (Nh o):=by
 refine gE (Nr I J F G) ?_
 rintro Z H R ⟨U,M,RR,s,h,A⟩
 refine⟨U,M,_,s,h,λds M1 l L H1 c i1 u=>?_⟩
 split at l
 .rename_i z
  obtain⟨v,rfl,q,b,rfl,g,n⟩:=eU (ds:=[]) u;have C:=n.length;refine⟨q,b,rfl,g.sq,A _ M1 l _ H1 c i1 λi H2 M2 i2 j _=>⟨λd m=>?_,λE=>?_⟩⟩
  .have r:i<z.length:=by
    rcases UP i _ with h|h
    .exact h
    simp_all
   rw[List.getElem?_reverse r]at m;obtain⟨w,e,f⟩:=(n.mono i2).get m;rw[C]at e;refine⟨⟨by simp_all,b,w,(g.mono i2).sq,e⟩,?_⟩
   rintro x H3 ⟨rfl,y⟩
   have:=y b (g.mono i2).sq;rw[e]at this;cases this;exact⟨Frm.refl,j,f⟩
  show b.length<=i
  simp_all
 trivial
end
end _3
namespace _3
open PySem _2
section
variable {X:Cx}{B:Bd}{C:cb}{f:Str}{o value:fv}{ta tv:b6}{pos tpos:Pos}
def rW(C:cb)(ta tv:b6)(f:Str):ar:=λD U M=>ta U M λx M1=>match x with
 |.ref a=>match M1 a with
  |some (.ins C' fs)=>C'=C/\fs.length<1000/\match fs.lookup f with
   |some (.int i)=>tv U M1 λy M2=>match y with
    |.int j=>M2 a=ap (.ins C fs)/\D.nx U (M2.upd a<|.ins C<|bK f (.int (i-j)) fs)
    |_=>False
   |_=>False
  |_=>False
 |_=>False
theorem Cb(c:Cls X.K C)(n:NoAttr X.K C f)(ha:DE X B o ta)(hv:DE X B value tv):DS X B (.AugAssign (.Attribute o f tpos) .Sub value pos) (rW C ta tv f):=by
 refine bR (pI ha hv M_) ?_
 rintro D Z H ⟨U,M,DD,s,h,up⟩
 refine⟨U,M,_,s,h,λx M1 h1 v1 H1 rh1 i1 r1=>?_⟩
 split at h1
 .rename_i a
  cases r1
  split at h1
  .rename_i C' fs hM
   obtain⟨rfl,hl,h1⟩:=h1
   split at h1
   .rename_i i hf
    obtain⟨dx,ws,e1,e2⟩:=rh1 _ _ hM;obtain⟨z,_⟩|⟨d,w,hd,hw,rw1⟩:=e2.lookup f
    .simp_all
    rw[hf]at hd;cases hd;cases rw1;refine⟨a,C',dx,ws,_,rfl,e1,c,n,hw,U,M1,_,s.go rh1 i1,h1,λy M2 h2 v2 H2 rh2 i2 r2=>?_⟩
    split at h2
    .rename_i j
     cases r2;obtain⟨hM2,h2⟩:=h2;obtain⟨dx2,ws2,e3,e4⟩:=rh2 _ _ hM2;have i3:Frm M2 H2 (M2.upd a<|.ins C'<|bK f (.int (i-j)) fs) (upd H2 a<|.ins C' dx2<|_2.di f (.int (i-j)) ws2):=Frm.put (by simp_all)
     exact⟨i,j,rfl,rfl,_,_,e3,by rw[<- e4.length];exact hl,up.nx _ _ h2 Z _ ((i1.trans i2).trans i3)<|s.go (rh2.put (by rw[e3];trivial) ⟨_,_,upd_same,(oh (by trivial) e4).mono<|i3.imm rh2⟩)<|(i1.trans i2).trans i3⟩
    trivial
   trivial
  trivial
 trivial
end
section
variable {X:Cx}{B:Bd}
def qE:yj:=λx a M Q=>match x,a with
 |.int i,[]=>Q (.int ((Um i:Nat):Int)) M
 |_,_=>False
theorem wy:wf X "int.bit_length" (liftM X qE):=by
 rintro a s Z H x l v i Q I g e ⟨d,j,M,QQ,c,r,b,h,f⟩
 unfold qE at h
 split at h
 .cases r
  cases b;obtain⟨t,rfl⟩:=g;cases e;exact PyProof.Rows.call_int_bit_length ⟨.int _,H,I.tok _,⟨_,rfl⟩,f _ M h _ H c Frm.refl rfl⟩
 trivial
end
end _3
namespace _2
open PySem PySem.Spec PyProof.Rows
section
variable {X:Cx}{tg iter elt:fv}{ifs:aab}{scope:F'}{cl:List (Str×cb)}{pos:Pos}{ls fs:Z_}{js:List Nat}{wi:TI}{g:TG}{tt:TT}{te:TE}
end
end _2
namespace _3
open PySem _2
section
variable {X:Cx}{B:Bd}{scope:F'}{cl:List (Str×cb)}{ls fs:Z_}{js:List Nat}{tg iter elt:fv}{ifs:aab}{wi:vY}{g:je}{tt:eW}{te:b6}{pos:Pos}
end
section
variable {P:eX}{w:f'}{K:SM}{mg:aaf}{base h:fy}{k n:Nat}{f C:cb}{fd:hG}{N ps:Z_}{S:Sd}{T:DX->ar}{x Z1:Str}{st:q0}{dv:Int}
theorem fnDV(F:FunV K x Z1 st f fd)(S:FnScope N ps (aQ st))
  (p:∀(b:ay)(A:g3)(a:List Env)(s:ca)(H:Hp)(E:XK)(B:Bd)(EE:DX),Room k (A.deeper<|Vh Z1 (aQ st) s.heap.objs.size f b)->vO K B EE E->
   B9 (eG (pi P w) P w K mg base N Z1 (aQ st) f b A a s H E) B (bw st) (T EE)):
  FnOk P w K mg base (pi P w) (k+1) f fd ps (bB K ps.length<|aI N T):=by
 obtain⟨v,G,kV,j,y,J,b,L,o,_,rfl,lk,c⟩:=F.ex;refine Ly lk c S (λi H Q E h=>h.1) λA a s H i Q E m e=>?_;obtain⟨z,I,M,QQ,EE,rh,r,l,u,ux⟩:=e;exact⟨_,p _ A _ s H E (Bd.of M H) _ m ux.drp,_,M,_,⟨Frm.refl,rh,.startN N r⟩,l,⟨λU M' q Z H' f g=>u.drp _ M' q _ H' g.rh f rfl,u.drp,λU M' q=>q.elim,λU M' q=>q.elim⟩⟩
abbrev OkV(P:eX)(w:f')(mg:aaf)(base:fy)(_:FunV K x Z1 st f fd)(_:Binds K fd ps [])(k:Nat)(S:Sd):Prop:=FnOk P w K mg base (pi P w) k f fd ps (bB K ps.length S)
theorem PZ(i:S=aI N T)(F:FunV K x Z1 st f fd)(b:Binds K fd ps [])(e:FnScope N ps (aQ st))
  (g:FnScope N ps (aQ st)->∀(c:ay)(A:g3)(a:List Env)(s:ca)(H:Hp)(E:XK)(B:Bd)(EE:DX),Room k (A.deeper<|Vh Z1 (aQ st) s.heap.objs.size f c)->vO K B EE E->
   B9 (eG (pi P w) P w K mg base N Z1 (aQ st) f c A a s H E) B (bw st) (T EE)):OkV P w mg base F b (k+1) S:=by
 subst i;exact fnDV F e (g e)
structure NV(K:SM)(x:Str)(st:q0)(f:cb)(fd:hG)(dv:Int):Prop where
 a:Uq K eH x=ap (ap<|.ref f)
 F:∃(oc:ay)(od:Option cb)(kV doc pm:ay)(an:Option cb)(cdv ct:ay)(osl:Array (Option ay))(T:cb)(ob:Obj)(m:Nat)(t:Tok),
  fd=Vw x x (bW st) (bw st) (aQ st) (.ref T) kV doc pm an cdv ct/\K.lookup f=ap ⟨oc,od,.func fd,osl⟩/\WU K cdv x=true/\K.lookup T=ap ob/\ob.data=.seq #[.int dv t] m
 kp:Ur K (.ref f)=true
theorem S4{s:ay}{u r j:Option cb}{p e:Array (Option ay)}{kV g i b q o:ay}{T:cb}{m:Nat}{t:Tok}(a:Uq K eH x=ap (ap<|.ref f))
  (l:K.lookup f=ap ⟨s,u,.func (Vw x x (bW st) (bw st) (aQ st) (.ref T) kV g i r b q),p⟩) (c:WU K b x=true) (k:Ur K (.ref f)=true)
  (lt:K.lookup T=ap ⟨o,j,.seq #[.int dv t] m,e⟩):NV K x st f (Vw x x (bW st) (bw st) (aQ st) (.ref T) kV g i r b q) dv:=
 ⟨a,⟨s,u,kV,_,i,r,_,q,_,T,_,m,t,rfl,l,c,lt,rfl⟩,k⟩
abbrev BndV(ps:Z_)(x:Str)(st:q0)(dv:Int):Prop:=∀(kV doc pm:ay)(an:Option cb)(cdv ct:ay)(T:cb)(t:Tok),
 (∀u:ay,∃k,Zu (Vw x x (bW st) (bw st) (aQ st) (.ref T) kV doc pm an cdv ct) ⟨[u],[]⟩=ZC (.ref T) >>= k/\k (ap #[.int dv t])=pure (ps.zip [u,.int dv t]))/\
 ∀u v:ay,∃k,Zu (Vw x x (bW st) (bw st) (aQ st) (.ref T) kV doc pm an cdv ct) ⟨[u,v],[]⟩=ZC (.ref T) >>= k/\k (ap #[.int dv t])=pure (ps.zip [u,v])
theorem gv(X:K.In h)(G:h.Ns eH mg)(l:NV K x st f fd dv)(H:ps.length=2)(r:BndV ps x st dv):GV K mg x st f fd ps dv:=by
 obtain⟨a,⟨y,A,kV,B,e,o,z,j,E,T,I,m,t,rfl,F,c,lt,p⟩,kp⟩:=l;refine⟨⟨⟨y,A,kV,_,e,o,_,j,_,T,rfl,F,c⟩,kp⟩,λs b KX q=>?_,⟨t,λs b KX q=>?_⟩,kp,VR X G a⟩
 .match b,q.trans H with
  |[u,v],_=>
   obtain⟨k,g,i⟩:=(r kV _ e o _ j T t).2 u v;exact W.binds_K KX rfl lt p g i
 match b,(show b.length=1 by simp_all) with
 |[u],_=>
  obtain⟨k,g,i⟩:=(r kV _ e o _ j T t).1 u;exact W.binds_K KX rfl lt p g i
end
section
variable {X:Cx}{B:Bd}{CX:ow}{k n:Nat}{f:cb}{fd:hG}{ps:Z_}{T:Sd}{EE:DX}{E:XK}{x:Str}{st:q0}{p pos:Pos}{e:fv}{es:aab}{t:dY}{dv:Int}
def wF(T:Sd)(EE:DX)(n:Nat)(dv:Int)(t:dY):b6:=λU M Q=>t U M λa M1=>a.length+1=n/\calls T EE (a++[.int dv]) M1 Q ⟨⟩
def Jn(X:Cx)(B:Bd)(x:Str)(T:Sd)(EE:DX)(n:Nat)(dv:Int):Prop:=∃(st:q0)(f:cb)(fd:hG)(ps:Z_)(k:Nat)(CX:ow)(E:XK),GV X.K X.mg x st f fd ps dv/\FnOk X.prog X.w X.K X.mg X.base CX k f fd ps (bB X.K n T)/\Room k X.A/\bH CX X E/\vO X.K B EE E
theorem GJ(h:Jn X B x T EE n dv)(w:Gl X x)(r:DA X B (e::es) t)(b:(x==("__debug__":Str))=cp)(v:ee (e::es) X.env=(cp,fx e X.env)::ee es X.env)(c:(g4 pos<|starEach es X.env).any (·.1)=cp):
  DE X B (.Call (.Name x p) (e::es) [] pos) (wF T EE n dv t):=by
 obtain⟨_,_,_,_,_,_,_,h,F,o,l,ux⟩:=h;obtain⟨q,j⟩:=h.d;refine aS (yT F o w h.m h.k j (dvs:=[.int dv]) (.cons ⟨q,rfl⟩ .nil) l r b v c) ?_
 rintro Z H Q ⟨U,M,QQ,s,h,u⟩
 exact⟨U,M,_,s,h,λy M1 i z H1 a i1 g=>cI i.2 a (g.append<|.cons rfl .nil) (by rw[Tq,<- g.length];exact i.1) (u.go i1) ((s.ux ux).go i1)⟩
end
end _3
namespace _3
open PySem _2 PyProof.Rows
section
variable {X:Cx}{B:Bd}
end
end _3
namespace _3
open PySem _2
section
variable {X:Cx}{B:Bd}
end
end _3
namespace _2
open PySem PySem.Spec PyProof.Rows
section
variable {X:Cx}{x y:Str}{p pos yp kp:Pos}{e:fv}{es:aab}{t:TA}{id:String}{kn:Str}{k:ay}{r:List V->Hp->VK->Prop}
def A6(X:Cx)(f:ay)(kn:Str)(k:ay)(r:List V->Hp->VK->Prop):Prop:=
 ∀(Z0:aae)(s:ca)(Z:St)(H:Hp)(xs:List V)(us:Z')(Q:VK),Inv X Z0 Z H s->Vals xs us->r xs H Q->
  cT (eC X.prog X.w) X.A (call f us [(kn,k)]) (EP X Z0 Z Q) X.xe s
theorem BZ(hc:A6 X (.builtin id) kn k r)(u:Gl X x)(v:X.mg x=bb)(o:eT x=ap (.builtin id))(b:Gl X y)(c:X.mg y=bb)(a:eT y=ap k)(q:PA X (e::es) t)(n:x≠"__name__":=by decide)(hdb:(x==("__debug__":Str))=false:=by decide)
  (hn2:y≠"__name__":=by decide) (hdb2:(y==("__debug__":Str))=false:=by decide)
  (he:g4 pos (ee (e::es) X.env)=(cp,fx e X.env)::g4 pos (ee es X.env):=by rfl) (hpl:(g4 pos<|starEach (e::es) X.env).any (·.1)=false:=by rfl):PE X (.Call (.Name x p) (e::es) [⟨ap kn,.Name y yp,kp⟩] pos) (tCB r t):=by
 intro f s Z H Q I h;exact ot (cG I u v o (callWith_kw (bu (q _ _ s Z H _ I h)<|by rintro m j ⟨i,H1,I1,g,l⟩;exact(kws_cons<|cG I1 b c a (kws_nil<|hc _ j Z H1 i m Q I1 g l) hn2 hdb2)) he hpl) n hdb)
end
end _2
namespace _3
open PySem _2 PyProof.Rows
section
variable {X:Cx}{B:Bd}{x y:Str}{p pos yp kp:Pos}{e:fv}{es:aab}{t:dY}{id:String}{kn:Str}{k:ay}{r:mR}
theorem Ca(l:A6 X (.builtin id) kn k (liftC X r))(j:Gl X x)(m:X.mg x=bb)(g:eT x=ap (.builtin id))(b:Gl X y)(c:X.mg y=bb)(a:eT y=ap k)(i:DA X B (e::es) t)(f:x≠"__name__":=by decide)(hdb:(x==("__debug__":Str))=false:=by decide)
  (hn2:y≠"__name__":=by decide) (hdb2:(y==("__debug__":Str))=false:=by decide)
  (he:g4 pos (ee (e::es) X.env)=(cp,fx e X.env)::g4 pos (ee es X.env):=by rfl) (hpl:(g4 pos<|starEach (e::es) X.env).any (·.1)=false:=by rfl):DE X B (.Call (.Name x p) (e::es) [⟨ap kn,.Name y yp,kp⟩] pos) (bg r t):=
 aS (BZ l j m g b c a i f hdb hn2 hdb2 he hpl) λ_ _ _ h=>qi h
end
end _3
namespace _3
open PySem _2
section
variable {X:Cx}
end
section
variable {X:Cx}
end
end _3
namespace _S
open PySem PySem.W PySem.Calls PyProof.Rows PyProof.V PySem.Spec
section
variable {prog:eX}{w:f'}{A:g3}{E:aad}{s:ca}{it d:cb}{i n ep:Nat}{od:Obj}{es:Array Zl}
theorem Cy{Q:aad}(b:s.TypeIs (.ref d) "dict")(e:(d==p6)=cp)(c:s.heap.get? d=ap od)(a:od.data=.dict es ep)
  (f:Q (.ref s.heap.objs.size) { s with heap:=s.heap.push { cls:=.type "dict_keyiterator",data:=.fields #[.ref d,.int 0 0,.int es.size 0,.int ep 0] } }):cT (eC prog w) A (UF<|.ref d) Q E s:=by
 refine wpAny_pyIter_slot b F.slot_dict_iter (mu F.slot_dict_iter b F.entry_dict_iter ?_<|F.args_dict_iter_1 _);refine ax ?_;refine ax (wpAny_notOrdered_dict b ?_);refine cx ?_;show cT _ _ (WZ d >>= _) _ _ s;unfold WZ;rw[if_neg (by rw[e];exact VP)]
 refine ax (cx ?_);refine ax (wpAny_dictEntries c a ?_);refine ax (wpAny_dictEpoch c a ?_);refine ax (pt<|wpAny_pure ⟨_,rfl,_,_,⟨_,SK _ rfl,rfl⟩,rfl,?_⟩)
 assumption
theorem Cp{Q:Option ay->ca->Prop}(a:s.heap.IsKeyIter it d i n ep)(c:s.heap.get? d=ap od)(e:od.data=.dict es ep)(l:es.size=n)(h:i<es.size)
  (hQ:∀h',h'.IsKeyIter it d (i+1) n ep->Uh it s.heap h'->Q (ap es[i].key) { s with heap:=h' }):cT (eC prog w) A (z6<|.ref it) Q E s:=by
 obtain⟨o,g,j,f⟩:=id a;unfold z6;refine ax (B'<|wpAny_callSpecial?_slot a.typeIs US<|wpAny_call_entry US a.typeIs Xd (ax<|wpAny_pure<|wpAny_bind<|wpAny_bind ?_)<|W9 _);refine ax (Zm a.typeIs<|wpAny_pure<|wpAny_bind<|wpAny_fieldsOf g f ?_);refine ax (cx<|wpAny_bind<|wpAny_dictEntries c e ?_);rw[if_neg (by rw[l];simp)]
 refine ax (cx<|wpAny_bind<|wpAny_dictEpoch c e ?_);rw[if_neg (by simp)]
 refine cx ?_;simp only[if_false,TC,Xj h];refine ax (ax<|wpAny_typeNameOfWhole_keyiter a.typeIs<|wpAny_pure ?_);refine ax (ZP a.typeIs ?_);show cT _ _ (setField (.ref it) 1 (x9 ((i:Int)+1)) >>= _) _ _ s;refine ax (Zq g f (by simp) ?_)
 have b:(s.heap.update it<|Obj.mapFields (·.setIfInBounds 1 (x9 ((i:Int)+1)))).IsKeyIter it d (i+1) n ep:=
  ⟨_,T9 _ g (XW<|VS f _),(Obj.cls_mapFields ..).trans j,by rw[VS f];simp[x9]⟩
 refine ax (kr ?_);refine ax (ZP b.typeIs ?_);exact cx (cx ⟨_,rfl,cx<|hQ _ b<|Ul ..⟩)
theorem GT{Q:Option ay->ca->Prop}(q:A.handled=bb)(c:s.heap.IsKeyIter it d i n ep)(e:s.heap.get? d=ap od)(f:od.data=.dict es ep)(l:es.size=n)(g:es.size<=i)
  (p:∀h',VY it s.heap h'->Q bb { s with heap:=h' }):cT (eC prog w) A (z6<|.ref it) Q E s:=by
 obtain⟨o,h,r,j⟩:=id c;unfold z6;refine ax (B'<|wpAny_callSpecial?_slot (name:=Vf "__next__") c.typeIs US<|wpAny_call_entry US c.typeIs Xd (ax<|wpAny_pure<|wpAny_bind<|wpAny_bind ?_)<|W9 _);refine ax (Zm c.typeIs<|wpAny_pure<|wpAny_bind<|wpAny_fieldsOf h j ?_);refine ax (cx<|wpAny_bind<|wpAny_dictEntries e f ?_);rw[if_neg (by rw[l];simp)]
 refine ax (cx<|wpAny_bind<|wpAny_dictEpoch e f ?_);rw[if_neg (by simp)]
 refine cx ?_;simp only[show ¬((i:Int)<0) from by lia,if_false,TC,XF g]
 refine ax (ax<|wpAny_typeNameOfWhole_keyiter c.typeIs<|wpAny_pure ?_);show cT _ _ (setField (.ref it) 0 .none >>= _) _ _ s;refine ax (Zq h j (by simp) ?_)
 simp only[newExc,newTuple];refine ax (ax<|wpAny_newObj_type ?_<|by size_fits)
 refine ax (m:=Zt _ _) (K' (a:=Ub) (by rfl)<|wpAny_newObj_type ?_<|by size_fits)
 simp only[raiseNew];refine ax (Zx ?_);rw[show A.in1.handled=bb from q];refine ax (cx<|wpAny_throw<|wpAny_bind ?_);refine SC (T:="StopIteration") (b:=true) ⟨_,SK _ rfl,rfl⟩ V' (cx ?_);exact p _ (((Ul ..).extBut.push _).push _)
end
end _S
namespace _2
open PySem PySem.Spec PyProof.Rows _S
noncomputable def Itf(d:cb)(od:Obj)(Z2:List (List aF×V)):It:=
 ⟨λi H=>H d=ap (.frz od<|.dT Z2)/\i<Z2.length,
  λi H v H'=>H'=H/\∃ks x b,Z2[i]?=ap (ks,x)/\H b=ap (.tup<|ks.map kV)/\v=.ref b,
  λi H=>H d=ap (.frz od<|.dT Z2)/\Z2.length<=i⟩
theorem Cw{P:eX}{w:f'}{K:SM}{tg:fv}{Z2:List (List aF×V)}{es:Array Zl}{L:Nat}{M:Obj}(d f:cb)(hd:M.data=.dict es L)(J:es.size=Z2.length):
  Turn P w K tg (Itf d M Z2) [f] f (λi h=>h.IsKeyIter f d i Z2.length L) where
 mem:=by simp
 obj:=λi h a b C=>by
  have e:b=f:=by simp_all
  obtain⟨o,e,c,d⟩:=a
  simp_all
 keep:=λi h G a k=>a.at λo e=>k f (by simp) o e
 item:=by
  intro X W T U B i l s Z H E I x a p;obtain⟨e,N⟩:=p;obtain⟨m,Q,r,F⟩:=I.frzT e hd;have A:Z2[i]?=ap (Z2[i].1,Z2[i].2):=by simp_all
  obtain⟨b,u,e1,e2,e3⟩:=r.at A;have g:i<es.size:=by simp_all
  have O:es[i]=entryOfKey (Zh<|aU X.prog X.w) (Z2[i].1,b,u):=by
   have:=entry_at F i;rw[Xj g]at this
   simp_all
  have R:es[i].key=.ref b:=by rw[O];rfl
  obtain⟨z,q,S,n,y,v⟩:=x f (by simp)
  refine Cp a m hd J g λG j Y=>?_;rw[R];have I1:Inv X _ Z H _:=I.turned (t':=s.toks) (λb o C=>(Y.2 b C).trans) z q n y v;obtain⟨o,e,c,d⟩:=id j;exact⟨_,rfl,tP e c d (by decide) ⟨.ref b,H,I1,rfl,⟨rfl,_,_,b,A,e2,rfl⟩,j,by simp_all⟩⟩
 done:=by
  intro X W T U B i l s Z H E I x a p;obtain⟨e,N⟩:=p;obtain⟨m,Q,r,F⟩:=I.frzT e hd;obtain⟨z,q,S,n,y,v⟩:=x f (by simp)
  exact GT (I.ok.hd B) a m hd J (by simp_all) λG eb=>⟨rfl,I.turned (eb) z q n y v⟩
 self:=λ_ _ _ _ _ a h=>wpAny_pyIter_keyiter a h
def Rb(to:TE):TI:=λZ H R=>to Z H λx H1=>∃a od Z2,x=.ref a/\H1 a=ap (.frz od<|.dT Z2)/\R (Itf a od Z2) H1
theorem HY{X:Cx}{o E:fv}{to:TE}(C:PE X o to):PI X E o (Rb to):=by
 intro l s Z H R I h;refine bu (C _ s Z H _ I h) λv w m=>?_;obtain⟨x,H1,I1,n,a,L,c,A,e,q⟩:=m;subst A;cases n;obtain⟨f,z,y,J,r,M,B,K,g,u,i,p,G⟩:=(I1.hok a _ e);rw[f]at g;cases g;have j:B.size=c.length:=by rw[<- Ux,p,SH,<- UE r]
 refine Cy ⟨_,f,u.1⟩ y f i ?_;refine⟨_,_,_,_,H1,rfl,I1.kept λb o=>SF _,Cw a _ i j,⟨_,SK _ rfl,rfl,by rw[j];rfl⟩,λb F=>?_,q⟩
 have e:b=w.heap.objs.size:=by simp_all
 exact I1.fpOk (by lia) (I1.hok.fresh<|by lia)
end _2
namespace _3
open PySem _2 _S
section
variable {X:Cx}{B:Bd}
noncomputable def DY(ks:List aF):D:=.tup (ks.map λk=>match k with|.inl i=>D.int i|.inr x=>D.str x)
def B6(to:b6):vY:=λU M R=>to U M λd M1=>match d with
 |.fd ks _=>R ⟨ks.map DY,[]⟩ M1
 |_=>False
theorem HK{o F:fv}{to:b6}(E:DE X B o to):DI X B F o (B6 to):=by
 refine gE (HY E) ?_
 rintro Z H R ⟨U,M,RR,s,h,z⟩
 refine⟨U,M,_,s,h,λd M1 n v H1 g i1 u=>?_⟩
 split at n
 .rename_i l I
  obtain⟨a,C,rfl,⟨K,A,e⟩,J⟩:=u;have r:(l.zip C).length=l.length:=by simp_all
  refine⟨a,A,_,rfl,e,z _ _ n _ _ g i1 λi H2 M2 i2 m _=>⟨λd q=>?_,λj=>?_⟩⟩
  .rw[SN]at q
   obtain⟨k,p,rfl⟩:=T7.mp q;refine⟨⟨i2.frz _ _ _ e,by rw[r];exact(TQ.mp p).1⟩,?_⟩
   rintro y H3 ⟨rfl,f,G,b,w,x,rfl⟩
   have c:l[i]?=ap f:=(U4.mp w).1;rw[p]at c;cases c;exact⟨Frm.refl,m,b,_,rfl,x,qm k⟩
  exact⟨i2.frz _ _ _ e,by rw[r];simpa using j⟩
 trivial
def Dt(d:D)(M:Mem)(Q:DK):Prop:=match d with
 |.ref a=>match M a with
  |some (.dT Z2)=>Q (.fd (Z2.map (·.1))<|Z2.map (·.2)) (M.del a)
  |_=>False
 |_=>False
def Ds(t:b6):b6:=λU M Q=>t U M λd M'=>Dt d M' Q
theorem Jx{K:SM}{H:Hp}:∀{Z2:List (List aF×D)}{ws:List (List aF×V)},Rkv K H Z2 ws->ws=(Z2.map (·.1)).zip (ws.map (·.2))/\Rps K H (Z2.map (·.2)) (ws.map (·.2))/\Z2.length=ws.length:=by
 intro Z2 ws h;unfold Rkv at h
 induction h with
 |nil=>exact⟨rfl,rfl,rfl⟩
 |cons h _ ih=>
  obtain⟨b,a,c⟩:=ih;refine⟨?_,.cons h.2 a,by simp[c]⟩
  simp only[SJ,Yg];rw[<- b,h.1]
theorem zF{K:SM}{H:Hp}:∀{ks:List (List aF)}{xs:List D}{vs:List V},Rps K H xs vs->Rkv K H (ks.zip xs) (ks.zip vs)
 |[],_,_,_=>by exact .nil
 |k::ks,[],_,h=>by cases h;exact .nil
 |k::ks,x::xs,_,h=>by
  obtain⟨v,r,rfl,a,b⟩:=h;exact .cons ⟨rfl,a⟩ (zF b)
theorem Jq{e:fv}{te:b6}(h:DE X B e te):DE X B e (Ds te):=by
 rintro f s Z H Q I ⟨U,M,QQ,y,n,u⟩
 refine bu (h _ s Z H (λv H'=>∃d M',RepH _ H' M'/\Frm M H M' H'/\Rp _ H' d v/\Dt d M' QQ) I ⟨U,M,_,y,n,λd M' q v H' b i r=>⟨d,M',b,i,r,q⟩⟩) ?_
 rintro w z ⟨v,H',I',m,d,M',b,i,r,q⟩
 unfold Dt at q
 split at q
 .rename_i a
  split at q
  .rename_i g e
   obtain⟨E,c,j⟩:=b _ _ e;obtain⟨o,C,A,_,_,_,_,I2⟩:=I'.freezeT c;refine⟨v,_,I2,m,u _ _ q v _ (b.freezeT c) (i.trans<|Frm.del ⟨_,e⟩) ?_⟩;obtain⟨x,l,p⟩:=Jx j;exact⟨a,_,r,⟨by simp[p],o,by rw[<- x];exact upd_same⟩,l.mono<|Imm.upd<|by rw[c];trivial⟩
  trivial
 trivial
def uB:fL:=λx y M Q=>match x with
 |.fd ks xs=>match Cr y with
  |some k=>match cq (ks.zip xs) k with
   |some d=>Q d M
   |none=>False
  |none=>False
 |_=>False
theorem Qj(G:X.A.units+1<n7):IxR X (liftR2 X uB):=by
 intro g c i s Z H x y v u Q I r o h z;obtain⟨O,N,M,QQ,E,j,q,h,m⟩:=h;unfold uB at h
 split at h
 .rename_i ks J
  split at h
  .rename_i k F
   split at h
   .rename_i d l
    obtain⟨a,L,rfl,⟨K,p,e⟩,n⟩:=j;obtain⟨b,rfl,C⟩:=nB q F;rcases (zF (ks:=ks) n).val k with⟨f,_⟩|⟨d',w,f,e2,r'⟩
    .simp_all
    rw[l]at f;cases f;exact Bu G _ _ _ s Z H _ _ v u Q I r o ⟨a,w,rfl,.inr ⟨_,k,b,.inr ⟨p,e⟩,rfl,C,e2.symm⟩,m _ M h _ H E Frm.refl r'⟩ z
   trivial
  trivial
 trivial
end
end _3
namespace _2
open PySem PySem.Spec PyProof.Rows
section
variable {X:Cx}{tg iter elt:fv}{ifs:aab}{scope:F'}{cl:List (Str×cb)}{pos:Pos}{ls fs:Z_}{js:List Nat}{wi:TI}{g:TG}{tt:TT}{te:TE}
end
end _2
namespace _3
open PySem _2
section
variable {X:Cx}{B:Bd}{scope:F'}{cl:List (Str×cb)}{ls fs:Z_}{js:List Nat}{tg iter elt:fv}{ifs:aab}{wi:vY}{g:je}{tt:eW}{te:b6}{pos px spos:Pos}{i:Nat}{x:Str}
end
section
variable {X:Cx}{B:Bd}
theorem dm:∀{e:Z9}{Z6:Z'},Vals (e.map V.int) Z6->∀(m:Nat)(c:m<Z6.length),∃i t,e[m]?=ap i/\Z6[m]=.int i t
 |[],_,r,m,c=>by cases r;simp at c
 |i::e,_,r,m,c=>by
  cases r with
  |cons a b=>
   obtain⟨t,rfl⟩:=a;cases m with
   |zero=>simp_all
   |succ m=>
    obtain⟨j,g,h,f⟩:=dm b m (by simp_all)
    simp_all
def iu:yj:=λx a M Q=>match x,a with
 |.tup xs,[.int z]=>match eK xs with
  |some is=>is.length<=1000/\match is.findIdx? (λy=>decide (y=z)) with
   |some j=>Q (.int (j:Nat)) M
   |none=>False
  |none=>False
 |_,_=>False
theorem wv:wf X "tuple.index" (liftM X iu):=by
 rintro A s Z H x Y v U Q I K G ⟨d,ds,M,QQ,O,r,C,h,J⟩
 unfold iu at h
 split at h
 .rename_i W z
  obtain⟨p,ws,rfl,P,r⟩:=r;obtain⟨w,rfl,c⟩:=eU (ds:=[]) C;cases c
  split at h
  .rename_i is R
   obtain⟨g,h⟩:=h
   split at h
   .rename_i j i
    have:=ix r R;subst this;rw[WD]at i;obtain⟨E,e1,S⟩:=i;cases K;obtain⟨u,rfl,N⟩:=G.one;obtain⟨t,rfl⟩:=N;obtain⟨L,n,T,r,e⟩:=I.tupD P;have g:=r.length;rw[SH]at g
    refine qa U2 ⟨_,e,rfl⟩ W3 (WY _ _)
     (jE p _ n _ T _ (λv=>match v with|.int y _=>y==z|_=>cp) (λy F=>?_) j (by rw[SW];lia) ?_ λm q f=>?_) ⟨e,?_⟩
    .obtain⟨m,q,rfl⟩:=VD (by simpa using F)
     obtain⟨l,o,a,b⟩:=dm r m q;rw[b];exact XX _ _ _ _
    .obtain⟨l,o,a,b⟩:=dm r j (by lia)
     rw[SG E]at a
     simp_all
    .obtain⟨l,o,a,b⟩:=dm r m (by assumption)
     have h3:=S m f;rw[SG (by lia)]at a
     simp_all
    .exact⟨.int j,H,I.tok _,⟨_,rfl⟩,J _ M h _ H O Frm.refl rfl⟩
   trivial
  trivial
 trivial
end
end _3
namespace _S
open PySem PySem.W PyProof.Rows
open PySem.AutoSeq1 (wpAny_loadPart')
open PySem.MeetsSeq PySem.MeetsSeq2 PySem.MeetsSeq3
variable{h:fy}{ks:Z8}{vs:Z'}
theorem gn{us:Z'}{xs:Z9}{x:Int}{i:Nat}(h:J' (us.drop i) (x::xs)):∃(hi:i<us.length)(t:Tok),us[i]=.int x t/\J' (us.drop (i+1)) xs:=by
 have hi:i<us.length:=by
  rcases UP i _ with z|z
  .exact z
  rw[Ve z]at h;cases h
 rw[U5 hi]at h;generalize a:us[i]=v at h;cases h with
 |cons _ t r=>exact⟨hi,t,a,r⟩
theorem iW{us:Z'}{i:Nat}(h:J' (us.drop i) []):us.length<=i:=by
 generalize e:us.drop i=l at h;cases h
 simp_all
theorem zD(l b:cb)(us vs:Z')(n G:Nat)(dd q:Option cb)(F p:Array (Option ay)):∀(xs ys:Z9)(i:Nat),i<=us.length->i<=vs.length->J' (us.drop i) xs->J' (vs.drop i) ys->Zn (Builtin.«list.__eq__.loop» ⟨[.ref l,.ref b,x9 i,x9 0],[]⟩)
   (λA R s=>s.heap.get? l=ap { cls:=.type "list",dict:=dd,data:=.seq us.toArray n,slots:=F }/\s.heap.get? b=ap { cls:=.type "list",dict:=q,data:=.seq vs.toArray G,slots:=p }/\R (.ok<|.ret<|.bool<|fF xs ys) s)
 |[],ys,i,hi,hj,h1,h2=>by
  intro f w A R s h;obtain⟨B,g,d,E,C⟩:=s;obtain⟨o,j,h⟩:=h;have K:=iW h1
  wp_walk using ff o,ff j
  have a:us.toArray[((i:Nat):Int).toNat]?=none:=by simp;lia
  rw[a]
  wp_walk using ff o,ff j
  show R (.ok<|.ret<|.bool<|decide (us.toArray.size<vs.toArray.size)) _;have e:decide (us.toArray.size<vs.toArray.size)=fF [] ys:=by
   cases ys with
   |nil=>
    have:=iW h2;simp[fF];lia
   |cons y ys=>
    obtain⟨u,_⟩:=gn h2;simp[fF];lia
  rw[e];exact h
 |x::xs,[],i,hi,hj,h1,h2=>by
  intro f w A R s h;obtain⟨B,g,d,E,C⟩:=s;obtain⟨o,j,h⟩:=h;have L:=iW h2;obtain⟨r,t,z,v⟩:=gn h1
  wp_walk using ff o,ff j
  have a:us.toArray[((i:Nat):Int).toNat]?=ap us[i]:=by simp[r]
  have m:vs.toArray[((i:Nat):Int).toNat]?=none:=by simp;lia
  rw[a,m]
  wp_walk using ff o,ff j
  show R (.ok<|.ret<|.bool<|decide (us.toArray.size<vs.toArray.size)) _;have e:decide (us.toArray.size<vs.toArray.size)=fF (x::xs) []:=by simp[fF];lia
  rw[e];exact h
 |x::xs,y::ys,i,hi,hj,h1,h2=>by
  intro f w A R s h;obtain⟨B,g,d,E,C⟩:=s;obtain⟨o,j,h⟩:=h;obtain⟨r,t,z,v⟩:=gn h1;obtain⟨u,t2,J,H⟩:=gn h2
  wp_walk using ff o,ff j
  have a:us.toArray[((i:Nat):Int).toNat]?=ap (.int x t):=by simp[r,z]
  have m:vs.toArray[((i:Nat):Int).toNat]?=ap (.int y t2):=by simp[u,J]
  have I:((i:Int)+1)=((i+1:Nat):Int):=by push_cast;rfl
  rw[a,m];refine ax (wpAny_eqBool_int ?_);unfold fF at h
  by_cases c:x=y
  .rw[if_pos c]at h
   rw[show (x==y)=true from by simp[c]]
   wp_walk
   rw[I];exact⟨pa plain_eq_loop _,ol entry_eq_loop (by
    rw[Uc plain_eq_loop _];exact zD l b us vs n G dd q F p xs ys (i+1) r u v H f w A R _ ⟨o,j,h⟩)⟩
  .rw[if_neg c]at h
   rw[show (x==y)=cp from by simp[c]]
   wp_walk using ff o,ff j
   rw[a,m];refine ax (wpAny_lt_int ?_)
   wp_walk
   exact h
theorem AD(l b:cb)(us vs:Z')(n j:Nat)(dd c:Option cb)(i e:Array (Option ay))(xs ys:Z9)(m:J' us xs)(o:J' vs ys):Zn (Builtin.«list.__lt__» ⟨[.ref l,.ref b],[]⟩)
   (λA R s=>s.heap.get? l=ap { cls:=.type "list",dict:=dd,data:=.seq us.toArray n,slots:=i }/\s.heap.get? b=ap { cls:=.type "list",dict:=c,data:=.seq vs.toArray j,slots:=e }/\R (.ok<|.ret<|.bool<|fF xs ys) s):=by
 intro a w A R s h;obtain⟨g,f,h⟩:=h;have p:=PySem.AutoSeq1.sub_list_list
 wp_walk using ff g,ff f
 exact⟨pa plain_eq_loop _,ol entry_eq_loop (by
  exact zD l b us vs n j dd c i e xs ys 0 (Uj _) (Uj _) m o a w A R _ ⟨g,f,h⟩)⟩
inductive LstsAt(h:fy):List ay->List (List Int)->Prop
 |nil:LstsAt h [] []
 |cons {a:cb} {o:Obj} {us:Z'} {n:Nat} {k:Z9} {vs:Z'} {ks:Z8} (ho:h.get? a=ap o) (hc:o.cls=.type "list") (hd:o.data=.seq us.toArray n) (hi:J' us k) (r:LstsAt h vs ks):LstsAt h (.ref a::vs) (k::ks)
theorem LstsAt.keep{h':fy}(t:LstsAt h vs ks)(k:∀b o,.ref b∈vs->h.get? b=ap o->h'.get? b=ap o):LstsAt h' vs ks:=by
 induction t with
 |nil=>exact .nil
 |cons ho hc hd hi r ih=>exact .cons (k _ _ (by simp) ho) hc hd hi (ih λb o a=>k b o (Ta _ a))
theorem LstsAt.len(t:LstsAt h vs ks):ks.length=vs.length:=by
 induction t<;>simp_all
theorem LstsAt.at{h:fy}{vs:Z'}{ks:Z8}(t:LstsAt h vs ks):∀i,i<vs.length->∃a o us n,vs.getD i Ub=.ref a/\h.get? a=ap o/\o.cls=.type "list"/\o.data=.seq (UZ us) n/\J' us (ks.getD i []):=by
 induction t with
 |nil=>intro i b;simp at b
 |@cons a o us n k vs ks ho hc hd b r ih=>
  intro i l;cases i with
  |zero=>exact⟨a,o,us,n,rfl,ho,hc,hd,b⟩
  |succ i=>
   obtain⟨c,f,g,j,e,q⟩:=ih i (by simp_all)
   exact⟨c,f,_,j,by simpa using e,by simpa using q⟩
theorem LstsAt.there(t:LstsAt h vs ks):∀v∈vs,∃a o,v=.ref a/\h.get? a=ap o/\o.cls=.type "list":=by
 induction t with
 |nil=>simp_all
 |cons ho hc hd hi r ih=>
  intro v hv;rcases SQ.mp hv with rfl|hv
  .exact⟨_,_,rfl,ho,hc⟩
  exact ih v hv
section
variable{prog:eX}{w:f'}{A:g3}{E:aad}{s:ca}
theorem D1(K:A.units<n7)(t:LstsAt s.heap vs ks):oC vs.length (rk ks) (kas_ask prog w A oneType' vs) s:=by
 intro i j g l C h;obtain⟨a,o,p,n,x,b,G,q,m⟩:=t.at i g;obtain⟨r,H,z,J,v,c,f,e,y⟩:=t.at j l;rw[KD (by rw[t.len];exact g)]at h
 unfold kas_ask;rw[x,v];obtain⟨L,N,M,O⟩:=o;obtain⟨F,B,u,I⟩:=H;subst G q f e;refine ax (wpAny_cRoomFor K ?_);refine ax (wpAny_callSpecialIfBound?_slot ⟨_,b,rfl⟩ Vl<|call_meets Vl ⟨_,b,rfl⟩ Xy (Xq _ _) (AD a r p _ n J _ _ _ _ _ _ m y) ⟨b,c,?_⟩);exact y' h
theorem mC{a:cb}{n:Nat}{P:Fin->ca->Prop}(F:s.heap.get? a=ap (Zs "list" vs.toArray n))(Y:A.units<n7)(X:LstsAt s.heap vs ks)(H:∀b,To b∈vs->b≠a)(I:vs.length<64)(h:∀p:Array Nat,Pm vs.length p->SU (rk ks) p vs.length->P (.done<|.ret .none) { s with heap:=sortedHeap s.heap a vs (UZ (p.toList.map λi=>vs.getD i Ub)) }):
  cT (eC prog w) A (Builtin.«list.sort» ⟨[.ref a],[]⟩) P E s:=by
 rw[list_sort_plain];refine ax (listItems_at F rfl ?_);refine ax (ZA F rfl ?_ (by rw[SW,z4];lia)<|Uj _)
 obtain⟨z,r⟩:∃z,(s.heap.update a (Uv λ_=>#[])).get? a=ap (Zs "list" #[] z):=⟨_,get?_update_seq F λ_=>#[]⟩;refine ax (ZU r rfl ?_);refine ax (L' ?_<|by show vs.length<=_;rw[z4];lia)
 refine ax (wpAny_newList ?_<|Uj _);refine kr ?_;have S:∀b o,b≠a->s.heap.get? b=ap o->(((s.heap.update a (Uv λ_=>#[])).push<|seqObj "tuple" vs.toArray 0).push<|seqObj "list" #[] 0).get? b=ap o:=λb o x e=>
  SF _ (SF _<|(Ul ..).extBut b o x e)
 have f:(((s.heap.update a (Uv λ_=>#[])).push<|seqObj "tuple" vs.toArray 0).push<|seqObj "list" #[] 0).get? a=ap (Zs "list" #[] z):=SF _ (SF _ r);have m:=X.keep λb o x e=>S b o (H b x) e;show cT (eC prog w) A _ P E { s with heap:=((s.heap.update a (Uv λ_=>#[])).push<|seqObj "tuple" vs.toArray 0).push (Zs "list" #[] 0) };dsimp only;have W:vs.toArray.size=vs.length:=by simp
 by_cases g:vs.toArray.size<2
 .rw[if_pos g,if_pos g]
  refine ax (cx ?_);rw[StateT.run_pure];refine ax (cx ?_);dsimp only;refine ax (ZU f rfl ?_);have K:(arrOf<|SortSt.mk' general' (vs.toArray.zip vs.toArray) #[] 7 bb).map (·.2)=UZ ((UZ<|Te vs.length).toList.map λi=>vs.getD i Ub):=by
   apply Array.toList_inj.mp;rw[Array.toList_map,Array.toList_zip,List.map_snd_zip (SO _)];refine WT (by simp) λi J g=>?_
   simp at J;simp[J]
  refine ax (ZA f rfl ?_ (Uj _)<|by rw[K];simp;rw[z4];lia)
  simp only[bne_self_eq_false,Th,if_false];refine cx ?_;rw[K];refine h _ tZ λi j M Z=>?_;have:i=j:=by lia
  rw[this];exact SO _
 .rw[if_neg g,if_neg g]
  refine ax (kas_kind (T:=.type "list") (by simpa using g) (λv L=>?_) (by decide) rfl ?_)
  .obtain⟨a',o,rfl,y,R⟩:=m.there v L
   rw[<- R];exact(Looks.ld y).andThen .now
  refine ax (kB (kat_run (Q:=λc l=>∃p:Array Nat,arrOf c=p.map _/\failedOf c=bb/\l={ s with heap:=((s.heap.update a (Uv λ_=>#[])).push<|seqObj "tuple" vs.toArray 0).push (Zs "list" #[] 0) }/\Pm vs.length p/\SU (rk ks) p vs.length)
   (G:=λp l=>l={ s with heap:=((s.heap.update a (Uv λ_=>#[])).push<|seqObj "tuple" vs.toArray 0).push (Zs "list" #[] 0) }/\Pm vs.length p/\SU (rk ks) p vs.length) rfl (by lia) I
   (λN c l a1 U O B=>⟨N,U,O,B.1,B.2.1,B.2.2⟩) (Ht (D1 Y m) (by lia) λp u C=>⟨rfl,u,C⟩)) ?_ λ_ _ e=>e)
  rintro⟨⟨⟩,c⟩ l ⟨p,har,hf,rfl,u,C⟩
  dsimp only;have q:=kat_snds rfl har;rw[q];refine ax (ZU f rfl ?_);refine ax (ZA f rfl ?_ (Uj _)<|by have:=u.size;simp;rw[this,z4];lia)
  rw[hf];simp only[bne_self_eq_false,Th,if_false];exact cx (h p u C)
theorem tX{l:cb}{Q:aad}(v:s.heap.IsList l vs.toArray)(y:A.units+2<n7)(m:LstsAt s.heap vs ks)(j:vs.length<64)(h:∀p:Array Nat,Pm vs.length p->SU (rk ks) p vs.length->Q (.ref (s.heap.objs.size+1)) { s with heap:=sortedAll s.heap vs (UZ (p.toList.map λi=>vs.getD i Ub)) }):
  cT (eC prog w) A (call (.builtin "sorted") [.ref l]) Q E s:=by
 refine Calls.call_function_entry kind_sorted plain_sorted entry_sorted (args_sorted1 _) ?_;refine ax (cx ?_);refine ax (collect_list v ?_<|by rw[z4];lia)
 refine ax (wpAny_newList ?_<|by rw[z4];lia)
 have c:((s.heap.push<|seqObj "list" #[] 0).update s.heap.objs.size<|Uv (·++vs.toArray)).objs.size=s.heap.objs.size+1:=by
  simp_all
 have a:(((s.heap.push<|seqObj "list" #[] 0).update s.heap.objs.size<|Uv (·++vs.toArray)).push<|seqObj "list" vs.toArray 0).get? (s.heap.objs.size+1)=ap (Zs "list" vs.toArray 0):=by
  rw[<- c];exact SK _ rfl
 have q:LstsAt (((s.heap.push<|seqObj "list" #[] 0).update _<|Uv (·++vs.toArray)).push<|seqObj "list" vs.toArray 0) vs ks:=m.keep λb o _ e=>
  SF _ ((Ul ..).extBut b o (SY<|SI e)<|SF _ e)
 rw[c];have g:∀b,To b∈vs->b≠s.heap.objs.size+1:=λb n=>by
  obtain⟨x,o,e,f,_⟩:=m.there _ n;cases e;exact SY (UU<|SI f)
 exact ax (kr<|wpAny_call_entry slot_list_sort ⟨_,a,rfl⟩ entry_list_sort (mC a (by lia) q g j λp r u=>⟨_,rfl,cx ⟨_,rfl,h p r u⟩⟩)<|args_list_sort _)
end
end _S
namespace _3
open PySem _2 _S
noncomputable def fU(M:Mem):List D->Option (List<|List Int)
 |[]=>ap []
 |d::ds=>match cN M d with
  |some xs=>match eK xs,fU M ds with
   |some k,ap ks=>ap (k::ks)
   |_,_=>bb
  |none=>bb
section
variable {X:Cx}{B:Bd}
theorem t6{c:aae}{Z:_2.St}{H:Hp}{s:ca}{M:Mem}(I:Inv X c Z H s)(g:RepH X.K H M):∀{ds:List D}{ks:Z8}{vs:List V}{Z6:Z'},fU M ds=ap ks->Rps X.K H ds vs->Vals vs Z6->LstsAt s.heap Z6 ks
 |[],_,_,_,e,r,v=>by
  cases e;cases r;cases v;exact .nil
 |d::ds,ks,_,_,e,r,v=>by
  obtain⟨x,A,rfl,a,b⟩:=r;simp[fU]at e
  split at e
  .rename_i E j
   split at e
   .rename_i k l u q
    cases e;cases v with
    |cons rx v=>
     obtain⟨p,C,rfl,h,f⟩:=cL g a j;cases rx;obtain⟨z,i,pl,F⟩:=I.list (.inl h);obtain⟨o,e,y,n,m⟩:=pl.isList;have w:=ix f u;subst w;exact .cons e y m (EK i) (t6 I g q b v)
   cases e
  cases e
theorem pP{K:SM}{H:Hp}{ds:List D}{vs:List V}(r:Rps K H ds vs):∀l:List Nat,(∀i∈l,i<ds.length)->Rps K H (l.map λi=>ds.getD i .non) (l.map λi=>vs.getD i .non)
 |[],_=>rfl
 |i::l,h=>by
  have e:ds[i]?=ap (ds.getD i .non):=by simp_all
  obtain⟨v,c,a⟩:=r.get e;have b:vs.getD i .non=v:=by simp_all
  rw[SJ,SJ,b];exact .cons a (pP r l<|by simp_all)
def dk:mR:=λa M Q=>match a with
 |[d]=>match cN M d with
  |some xs=>match fU M xs with
   |some ks=>ks.length<64/\∀l:List Nat,l.Perm (Te ks.length)->l.map (λi=>ks.getD i [])=Hl oTup ks->∀p,M p=bb->Q (.ref p) (M.upd p<|.lst (l.map λi=>xs.getD i .non))
   |none=>False
  |none=>False
 |_=>False
theorem oP(hu:X.A.units+2<n7):bp X (.builtin "sorted") (liftC X dk):=by
 rintro Z0 s Z H xs us Q I r ⟨ds,M,QQ,rh,rp,h,up⟩
 unfold dk at h
 split at h
 .obtain⟨v,rfl,rv⟩:=eU (ds:=[]) rp
  split at h
  .rename_i ys e
   obtain⟨q,vs,rfl,hq,rr⟩:=cL rh rv e
   split at h
   .rename_i ks es
    obtain⟨h64,h⟩:=h;obtain⟨u,rfl,ru⟩:=gh r;cases ru;obtain⟨Z6,r',pl,hz⟩:=I.list (.inl hq);have hlen:=r'.length;have hl2:=rr.length;have ta:=t6 I rh es rr r';have tl:=ta.len;refine tX pl.isList hu ta (by lia) λp hp hs=>?_
    rw[<- tl]at hp hs;have ea:=Os hp hs;obtain⟨k,hk⟩:=PyProof.Rows.sortedAll_at _ _ _;have hn:=I.hok.fresh (V6 _);have hin:∀i∈p.toList,i<ks.length:=λi hi=>TU.mp ((Wr hp).mp hi);have rq:=pP rr _ λi hi=>by have:=hin i hi;lia
    have vq:=pC r' _ λi hi=>by have:=hin i hi;lia
    refine⟨.ref _,_,I.laid (λb o=>PyProof.Rows.sortedAll_old) (V6 _) (show ObjOk _ _ _ _ _ (.lst _) from ⟨?_,_,k,vq,hk⟩),rfl,?_⟩
    .rw[SH,Ux,hp.size];exact SX (Vk h64) (by decide)
    exact up _ _ (h _ hp ea _<|rh.fresh hn) _ _ (rh.put (by rw[hn];trivial) ⟨_,upd_same,rq.mono<|Imm.new hn⟩) (Frm.put<|.inl hn) rfl
   trivial
  trivial
 trivial
theorem d_{M:Mem}:∀ks:List (List Int),fU M (ks.map λk=>D.lst (k.map D.int))=ap ks
 |[]=>rfl
 |k::ks=>by
  rw[SJ,fU];simp only[cN,ia,d_ ks]
theorem jV{M:Mem}{d:D}{ks:Z8}{Q:DK}(e:cN M d=ap (ks.map λk=>D.lst (k.map D.int)))(a:ks.length<64)
  (h:∀p,M p=bb->Q (.ref p) (M.upd p<|.lst ((Hl oTup ks).map λk=>D.lst (k.map D.int)))):dk [d] M Q:=by
 unfold dk;simp only[e,d_];refine⟨a,λl c f p g=>?_⟩;have:(l.map λi=>(ks.map λk=>D.lst (k.map D.int)).getD i .non)=(Hl oTup ks).map λk=>D.lst (k.map D.int):=by
  rw[<- f,Tb];refine Tz λi b=>?_;simp[(TU.mp<|(Wr c).mp b)]
 rw[this];exact h p g
end
end _3
namespace _S
open PySem PyProof PyProof.Rows
variable{A:g3}{prog:eX}{s:ca}{w:f'}
theorem PK(a k:ay):WF "min" ⟨[a],[("key",k)]⟩:=by rfl
section
variable{E:aad}
theorem sG{id:String}{b:Builtin}{args:Z'}{c:List (Str×ay)}{Q:aad}(l:builtinKind id=bb)(m:plainId id=true)(i:Wp ZR id=ap b)(j:WF id ⟨args,c⟩)(g:cT (eC prog w) A.in1 (b ⟨args,c⟩) (λfin s'=>match fin with
   |.done f=>(match (Except.ok f:Zk) with|.ok (.ret v)=>Q v s'|.ok _=>False|.error e=>E e s')
   |.again c'=>c'.quiet=true/\z5 (eC prog w) A c' (λr s'=>match r with|.ok (.ret v)=>Q v s'|.ok _=>False|.error e=>E e s') s') E s):
  cT (eC prog w) A (call (.builtin id) args c) Q E s:=by
 refine Zr (ZX m i ?_);simp[SZ,l];cases a:Manifest.signature? id with
 |none=>exact cx g
 |some sig=>
  have h:Bind.checkArgs id sig ⟨args,c⟩=pure ():=by simpa [WF,a] using j
  show cT _ _ (Bind.checkArgs id _ _) _ _ s;rw[h];exact cx g
end
def AH(prog:eX)(w:f')(A:g3)(P:Nat->ay->Prop)(F:fy->Prop)(kv:Nat->Int):Prop:=
 ∀i v (s:ca)(Q:aad)(E:aad),P i v->F s.heap->(∀t tk,Q (.int (kv i) t) { s with toks:=tk })->cT (eC prog w) A (call (.builtin "len") [v]) Q E s
section
variable{R:Zk->ca->Prop}{I:cb}{fp wr:aaa}{n:Nat}{P:Nat->ay->Prop}{St:Nat->fy->Prop}
theorem tm(W:Walks prog w A.in1 I fp wr n P St)(a:Nat->Int)(F:fy->Prop)(L:AH prog w A.in1 P F a)(S:cb)(M:S∉fp)(Y:∀h h':fy,F h->(∀b o,b∉wr->b≠S->h.get? b=ap o->h'.get? b=ap o)->F h'):
  ∀(k j:Nat)(s:ca)(E:ay)(t:Tok)(c:Nat),n-(j+1)=k->j+1<=n->St (j+1) s.heap->F s.heap->P (k' (λi j=>decide (a i<a j)) j) E->
  s.heap.get? S=ap { cls:=.type "list",dict:=bb,data:=.seq #[E,.int (a<|argBest (λi j=>decide (a i<a j)) j) t] c,slots:=#[] }->
  (∀v h' N,P (k' (λi j=>decide (a i<a j)) (n-1)) v->(∀b o,b∉wr->b≠S->s.heap.get? b=ap o->h'.get? b=ap o)->R (.ok<|.ret v) { s with heap:=h',toks:=N })->
  z5 (eC prog w) A (.builtin "min.loop" ⟨[.ref I,.builtin "len",.ref S],[]⟩) R s:=by
 have J:S∉wr:=λh=>M (W.sub _ h);have p:(toString "min"++toString ".loop":String)="min.loop":=by decide
 intro k
 induction k with
 |zero=>
  intro j s E t c hk Z x X C H hR;have G:j+1=n:=by lia
  refine ol Uw ?_;rw[Uc TH _];show cT _ A.in1 (ZC (.ref S) >>= _) _ _ s;refine ax (mo H rfl ?_);show cT _ A.in1 (tryCatch (z6<|.ref I) _ >>= _) _ _ s;refine ax (pb (W.done s _ _ (G▸x) λh' N hk'=>?_));have m:=hk' S _ J H;show cT _ A.in1 (updateSeq S (λ_=>#[]) >>= _) _ _ _;refine ax ?_;refine vr m rfl (ax<|wpAny_letGo<|wpAny_pure ?_);refine hR E _ N (by rw[<- G];exact C) λb o f g e=>(Tn _ _<|Tu g).trans (hk' b o f e)
 |succ k ih=>
  intro j s E t c hk Z x X C H hR;have B:j+1<n:=by lia
  refine ol Uw ?_;rw[Uc TH _];show cT _ A.in1 (ZC (.ref S) >>= _) _ _ s;refine ax (mo H rfl ?_);show cT _ A.in1 (tryCatch (z6<|.ref I) _ >>= _) _ _ s;refine ax (pb (W.item (j+1) s _ _ B x λv h' N T r hk'=>?_));have m:=hk' S _ J H;have u:=Y _ _ X λb o f _ e=>hk' b o f e;show cT _ A.in1 (tryCatch (rc [v]<|call (.builtin "len") [v]) _ >>= _) _ _ _;refine ax (pb<|wpAny_holding (L _ v _ _ _ T u λt2 tk2=>?_));show cT _ A.in1 (tryCatch (rc [v,.int (a (j+1)) t2] (ZV .Lt (.int (a (j+1)) t2) (.int (a<|argBest (λi j=>decide (a i<a j)) j) t) >>= _)) _ >>= _) _ _ _;refine ax (pb<|wpAny_holding<|wpAny_bind<|wpAny_lt_int ?_);refine ax (kr<|wpAny_truthy_bool ?_);refine ax (V_<|wpAny_pure ?_);cases U:decide (a (j+1)<a (k' (λi j=>decide (a i<a j)) j)) with
  |true=>
   simp only[if_true];refine ax ?_;refine vr m rfl (ax<|wpAny_letGo ?_);rw[p];have K:k' (λi j=>decide (a i<a j)) (j+1)=j+1:=by simp only[k',U,if_true]
   refine cx ⟨pa TH _,ih (j+1) _ v t2 _ (by lia) B (W.frame _ _ _ r λb Q o e=>?_) (Y _ _ u λb o _ g e=>(Tn _ _<|Tu g).trans e) (by rw[K];exact T) (by rw[K];exact T9 _ m rfl)
    λO y l z q=>?_⟩
   .exact(Tn _ _ (λh:S=b=>M (by rw[h];exact Q))).trans e
   .exact hR O y l z λb o f g e=>q b o f g ((Tn _ _<|Tu g).trans<|hk' b o f e)
  |false=>
   simp only[Th,if_false];refine ax (V_ ?_);rw[p];have K:k' (λi j=>decide (a i<a j)) (j+1)=k' (λi j=>decide (a i<a j)) j:=by simp only[k',U,Th,if_false]
   refine cx ⟨pa TH _,ih (j+1) _ E t c (by lia) B r u (by rw[K];exact C) (by rw[K];exact m) λO y l z q=>?_⟩
   exact hR O y l z λb o f g e=>q b o f g (hk' b o f e)
theorem h7(W:Walks prog w A.in1 I fp wr n P St)(y:Nat->Int)(F:fy->Prop)(g:AH prog w A.in1 P F y)(S:cb)(x:S∉fp)(G:∀h h':fy,F h->(∀b o,b∉wr->b≠S->h.get? b=ap o->h'.get? b=ap o)->F h')(K:0<n){c:Nat}(E:St 0 s.heap)(Q:F s.heap)(L:s.heap.get? S=ap { cls:=.type "list",dict:=bb,data:=.seq #[] c,slots:=#[] })(hR:∀v h' J,P (k' (λi j=>decide (y i<y j)) (n-1)) v->(∀b o,b∉wr->b≠S->s.heap.get? b=ap o->h'.get? b=ap o)->R (.ok<|.ret v) { s with heap:=h',toks:=J }):
  z5 (eC prog w) A (.builtin "min.loop" ⟨[.ref I,.builtin "len",.ref S],[]⟩) R s:=by
 have z:S∉wr:=λh=>x (W.sub _ h);have l:(toString "min"++toString ".loop":String)="min.loop":=by decide
 refine ol Uw ?_;refine ax (mo L rfl ?_);refine ax (pb (W.item 0 s _ _ K E λv h' J H u hk'=>?_));have r:=hk' S _ z L;have m:=G _ _ Q λb o f _ e=>hk' b o f e;refine ax (pb<|wpAny_holding (g _ v _ _ _ H m λt2 O=>?_));refine ax ?_;refine vr r rfl ?_;rw[l];refine cx ⟨rfl,tm W y F g S x G _ 0 _ v t2 _ rfl K (W.frame _ _ _ u λb N o e=>?_) (G _ _ m λb o _ a e=>(Tn _ _<|Tu a).trans e) H (T9 _ r rfl) λM B q C p=>?_⟩
 .exact(Tn _ _<|by lia).trans e
 .exact hR M B q C λb o f a e=>p b o f a ((Tn _ _<|Tu a).trans<|hk' b o f e)
end
section
variable{E:aad}
theorem rg{x:ay}{Q:aad}(h:cT (eC prog w) A.in1 (UF x) (λit s₂=>∃I r l n P St g F,it=.ref I/\Walks prog w A.in1 I r l n P St/\St 0 s₂.heap/\(∀b∈r,b<s₂.heap.objs.size)/\0<n/\AH prog w A.in1 P F g/\F s₂.heap/\
   (∀h h':fy,F h->(∀b o,b∉l->b≠s₂.heap.objs.size->h.get? b=ap o->h'.get? b=ap o)->F h')/\
   ∀v h' u,P (k' (λi j=>decide (g i<g j)) (n-1)) v->(∀b o,b∉l->s₂.heap.get? b=ap o->h'.get? b=ap o)->Q v { s₂ with heap:=h',toks:=u }) E s):
  cT (eC prog w) A (call (.builtin "min") [x] [("key",.builtin "len")]) Q E s:=by
 have a:(toString "min"++toString ".loop")="min.loop":=by decide
 refine sG rfl rfl XY rfl ?_;show cT _ _ (Vb _ _ 0 ⟨[],[("key",.builtin _)]⟩ >>= _) _ _ s;refine ax (K' (rfl) ?_);refine ax (cx ?_);refine ax (kB h (λit s₂ c=>?_) λ_ _ e=>e);obtain⟨I,r,l,n,P,St,g,F,rfl,W,m,q,z,f,G,y,J⟩:=c;refine ax (pt ?_);rw[a];refine cx ⟨pa TH _,h7 W g F f s₂.heap.objs.size (λH=>TN _ (q _ H)) y z (W.frame _ _ _ m λb _ o e=>SF _ e) (y _ _ G λb o _ _ e=>SF _ e) (SK _ rfl) λv h' u B C=>?_⟩;exact J v h' u B λb o p e=>C b o p (SY<|SI e) (SF _ e)
end
end _S
namespace _S
open PySem PyProof.Rows
section
variable {prog:eX}{w:f'}{A:g3}{E:aad}{s:ca}
end
end _S
namespace _3
open PySem _2 _S
variable {X:Cx}
end _3
namespace _S
open PySem PyProof PyProof.Rows
def ON(prog:eX)(w:f')(A:g3)(P:Nat->ay->Prop)(F:fy->Prop)(bt:Nat->Nat->Bool):Prop:=
 ∀i j vi vj (s:ca)(Q:aad)(E:aad),P i vi->P j vj->F s.heap->Q (.bool<|bt i j) s->cT (eC prog w) A (ZV .Lt vi vj) Q E s
section
variable {prog:eX}{w:f'}{A:g3}{R:Zk->ca->Prop}{I:cb}{fp wr:aaa}{n:Nat}{P:Nat->ay->Prop}{St:Nat->fy->Prop}
theorem wg(W:Walks prog w A.in1 I fp wr n P St)(C:Nat->Nat->Bool)(F:fy->Prop)(hcmp:ON prog w A.in1 P F C)(S:cb)(J:S∉fp)
  (T:∀h h':fy,F h->(∀b o,b∉wr->b≠S->h.get? b=ap o->h'.get? b=ap o)->F h'):
  ∀(k j:Nat)(s:ca)(p:ay)(c:Nat),n-(j+1)=k->j+1<=n->St (j+1) s.heap->F s.heap->P (k' C j) p->
  s.heap.get? S=ap { cls:=.type "list",dict:=bb,data:=.seq #[p,p] c,slots:=#[] }->
  (∀v h' K,P (k' C (n-1)) v->(∀b o,b∉wr->b≠S->s.heap.get? b=ap o->h'.get? b=ap o)->R (.ok<|.ret v) { s with heap:=h',toks:=K })->
  z5 (eC prog w) A (.builtin "min.loop" ⟨[.ref I,.none,.ref S],[]⟩) R s:=by
 have H:S∉wr:=λh=>J (W.sub _ h);have i:(toString "min"++toString ".loop":String)="min.loop":=by decide
 intro k
 induction k with
 |zero=>
  intro j s p c X U u Q m G hR;have E:j+1=n:=by lia
  refine ol Uw ?_;rw[Uc TH _];refine ax (mo G rfl ?_);refine ax (pb (W.done s _ _ (E▸u) λh' K hk'=>?_));refine ax (vr (hk' S _ H G) rfl<|wpAny_bind<|wpAny_letGo<|wpAny_pure ?_);exact hR p _ K (by rw[<- E];exact m) λb o a f e=>(Tn _ _<|Tu f).trans (hk' b o a e)
 |succ k ih=>
  intro j s p c X U u Q m G hR;have B:j+1<n:=by lia
  refine ol Uw ?_;rw[Uc TH _];refine ax (mo G rfl ?_);refine ax (pb (W.item (j+1) s _ _ B u λv h' K N q hk'=>?_));have y:=hk' S _ H G;have r:=T _ _ Q λb o a _ e=>hk' b o a e;show cT _ A.in1 (tryCatch (rc [v,v] (ZV .Lt v p >>= _)) _ >>= _) _ _ _;refine ax (pb<|wpAny_holding<|wpAny_bind<|hcmp (j+1) (k' C j) v p _ _ _ N m r ?_);refine ax (kr<|wpAny_truthy_bool ?_);refine ax (V_<|wpAny_pure ?_);cases O:C (j+1) (k' C j) with
  |true=>
   simp only[if_true];refine ax (vr y rfl<|wpAny_bind<|wpAny_letGo ?_);rw[i]
   refine cx ⟨pa TH _,ih (j+1) _ v _ (by lia) B (W.frame _ _ _ q λb M o e=>(Tn _ _ (λh:S=b=>J (by rw[h];exact M))).trans e) (T _ _ r λb o _ f e=>(Tn _ _<|Tu f).trans e) (by simp only[k',O,if_true];exact N) (T9 _ y rfl)
    λL x g z l=>?_⟩
   exact hR L x g z λb o a f e=>l b o a f ((Tn _ _<|Tu f).trans<|hk' b o a e)
  |false=>
   simp only[Th,if_false];refine ax (V_ ?_);rw[i];exact cx ⟨pa TH _,ih (j+1) _ p c (by lia) B q r (by simp only[k',O,Th,if_false];exact m) y λL x g z l=>
    hR L x g z λb o a f e=>l b o a f (hk' b o a e)⟩
end
section
variable {prog:eX}{w:f'}{A:g3}{E:aad}{s:ca}
theorem xc{x:ay}{Q:aad}
  (h:cT (eC prog w) A.in1 (UF x) (λit s₂=>∃I u q n P St r F,it=.ref I/\Walks prog w A.in1 I u q n P St/\St 0 s₂.heap/\(∀b∈u,b<s₂.heap.objs.size)/\0<n/\ON prog w A.in1 P F r/\F s₂.heap/\
   (∀h h':fy,F h->(∀b o,b∉q->b≠s₂.heap.objs.size->h.get? b=ap o->h'.get? b=ap o)->F h')/\
   ∀v h' N,P (k' r (n-1)) v->(∀b o,b∉q->s₂.heap.get? b=ap o->h'.get? b=ap o)->Q v { s₂ with heap:=h',toks:=N }) E s):
  cT (eC prog w) A (call (.builtin "min") [x]) Q E s:=by
 have a:(toString "min"++toString ".loop":String)="min.loop":=by decide
 refine call_function_tree PySem.F.kind_min PySem.F.plain_min XY (PySem.F.args_min1 _) ?_;show cT _ A.in1 (Vb "min" ["key","default"] 0 ⟨[],[]⟩ >>= _) _ _ s;refine ax (K' (show Vb "min" ["key","default"] 0 ⟨[],[]⟩=pure [bb,bb] from rfl) ?_);refine ax (cx ?_);refine ax (kB h (λit s₂ i=>?_) λ_ _ e=>e);obtain⟨I,u,q,n,P,St,r,F,rfl,W,z,H,M,m,T,J,R⟩:=i;refine ax (pt ?_);have f:s₂.heap.objs.size∉u:=λU=>TN _ (H _ U);have L:s₂.heap.objs.size∉q:=λh=>f (W.sub _ h);rw[a];refine cx ⟨pa TH _,ol Uw ?_⟩;rw[Uc TH _];refine ax (mo (SK _ rfl) rfl ?_);refine ax (pb (W.item 0 _ _ _ M (W.frame _ _ _ z λb _ o e=>SF _ e) λv h' N S l hk'=>?_));have j:=hk' _ _ L (SK _ rfl);have y:=J _ _ T λb o c _ e=>hk' b o c (SF _ e);show cT _ A.in1 (updateSeq _ (λ_=>#[v,v]) >>= _) _ _ _;refine ax (vr j rfl ?_);rw[a];refine cx ⟨pa TH _,wg W r F m _ f J _ 0 _ v _ rfl M (W.frame _ _ _ l λb C o e=>(Tn _ _ (λh:s₂.heap.objs.size=b=>f (by rw[h];exact C))).trans e) (J _ _ y λb o _ K e=>(Tn _ _<|Tu K).trans e) S (T9 _ j rfl) λO B g G p=>?_⟩
 exact R O B g G λb o c e=>p b o c (SY<|SI e) ((Tn _ _<|Tu<|SY<|SI e).trans<|hk' b o c<|SF _ e)
end
end _S
namespace _S
open PySem PyProof.Rows
section
variable {lt:Nat->Nat->Bool}
theorem k8:∀n,k' lt n<=n
 |0=>SO _
 |n+1=>by
  have:=k8 n;unfold k'
  split<;>lia
theorem vk(o:Ord (List Int))(ks:Z8):∀n,∀i,i<=n->o.lt (ks.getD i []) (ks.getD (k' (λi j=>o.lt (ks.getD i []) (ks.getD j [])) n) [])=cp
 |0,i,h=>by
  have:i=0:=by lia
  subst this;show o.lt _ _=cp;cases e:o.lt (ks.getD 0 []) (ks.getD 0 []) with
  |false=>exact e
  |true=>exact o.asym _ _ e
 |n+1,i,h=>by
  have a:=vk o ks n;unfold k';generalize k' (λi j=>o.lt (ks.getD i []) (ks.getD j [])) n=b at*
  split
  .rename_i c
   by_cases e:i=n+1
   .subst e
    cases e:o.lt (ks.getD (n+1) []) (ks.getD (n+1) []) with
    |false=>rfl
    |true=>rw[<- e];exact o.asym _ _ e
   .exact o.tr _ _ _ (o.asym _ _ c) (a i<|by lia)
  .rename_i c
   by_cases e:i=n+1
   .subst e;exact V4.mpr c
   .exact a i (by lia)
theorem mZ(a:Nat->Int):∀n,(∀i,i<=n->a (k' (λi j=>decide (a i<a j)) n)<=a i)/\∀i,i<k' (λi j=>decide (a i<a j)) n->a (k' (λi j=>decide (a i<a j)) n)<a i
 |0=>⟨λi h=>by have:i=0:=by lia
            subst this;exact Vx _,λi h=>by exact absurd h (Wm _)⟩
 |n+1=>by
  obtain⟨f,l⟩:=mZ a n;have m:=k8 (lt:=λi j=>decide (a i<a j)) n;unfold k';generalize k' (λi j=>decide (a i<a j)) n=b at*
  split
  .rename_i c
   have c:=of_decide_eq_true c;refine⟨λi g=>?_,λi g=>?_⟩
   .by_cases e:i=n+1
    .subst e;exact Vx _
    .have:=f i (by lia);lia
   .have:=f i (by lia);lia
  .rename_i c
   have c:¬a (n+1)<a b:=λz=>c (decide_eq_true z);refine⟨λi g=>?_,l⟩
   by_cases e:i=n+1
   .subst e;lia
   .exact f i (by lia)
end
section
variable {prog:eX}{w:f'}{A:g3}{vs:Z'}{ks:Z8}
theorem Fu(S:A.units<n7):ON prog w A (λi v=>vs.toArray[i]?=ap v) (λh=>LstsAt h vs ks) (λi j=>fF (ks.getD i []) (ks.getD j [])):=by
 intro i j R G s Q E f g t h;have y:i<vs.length:=by
  have:=(VH.mp f).1;simpa using this
 have C:j<vs.length:=by
  have:=(VH.mp g).1;simpa using this
 obtain⟨a,o,x,n,N,m,q,r,u⟩:=t.at i y;obtain⟨p,J,l,K,M,b,e,c,F⟩:=t.at j C;have L:R=.ref a:=by rw[<- N];simp at f;rw[Tf,f];rfl
 have H:G=.ref p:=by rw[<- M];simp at g;rw[Tf,g];rfl
 subst L H;obtain⟨U,X,W,Y⟩:=o;obtain⟨I,O,B,P⟩:=J;simp only at q r e c;subst q r e c;exact wpAny_richCompare_same_room (op:=.Lt) (T:="list") ⟨_,m,rfl⟩ ⟨_,b,rfl⟩ Vl (qa Vl ⟨_,m,rfl⟩ Xy (Xq _ _) (AD a p x l n K _ _ _ _ _ _ u F) ⟨m,b,⟨(by intro z;cases z),h⟩⟩) S
theorem EZ(f:∀k∈ks,(k.length:Int)<2 ^ 63):AH prog w A (λi v=>vs.toArray[i]?=ap v) (λh=>LstsAt h vs ks) (λi=>((ks.getD i []).length:Int)):=by
 intro i v s Q E b t h;have g:i<vs.length:=by
  have:=(VH.mp b).1;simpa using this
 obtain⟨a,o,c,n,u,p,m,r,l⟩:=t.at i g;have q:v=.ref a:=by rw[<- u];simp at b;rw[Tf,b];rfl
 subst q;have j:c.length=(ks.getD i []).length:=l.length;have x:ks.getD i []∈ks:=by
  have:i<ks.length:=by rw[t.len];exact g
  rw[Tf,SG this];exact UK this
 refine XZ (items:=c.toArray) ⟨o,p,m,n,r⟩ (by have:=f _ x;rw[SW,j];exact this) ?_
 have:=h (s.toks+1) (s.toks+1+1);have e:(c.toArray.size:Int)=((ks.getD i []).length:Int):=by rw[SW,j]
 rw[e];exact this
end
end _S
namespace _3
open PySem _2 _S
variable{s:ca}
section
variable{X:Cx}{B:Bd}
theorem uZ{M:Mem}:∀{ds:List D}{ks:Z8},fU M ds=ap ks->ks.length=ds.length
 |[],_,e=>by cases e;rfl
 |d::ds,ks,e=>by
  simp only[fU]at e
  split at e
  .split at e
   .rename_i a
    cases e;rw[Tt,uZ a,Tt]
   .cases e
  .cases e
def qH:mR:=λa M Q=>match a with
 |[d]=>match cN M d with
  |some xs=>match fU M xs with
   |some ks=>ks≠[]/\∀i,i<ks.length->(∀j,j<ks.length->fF (ks.getD j []) (ks.getD i [])=cp)->Q (xs.getD i .non) M
   |none=>False
  |none=>False
 |_=>False
def kT:mR:=λa M Q=>match a with
 |[d]=>match cN M d with
  |some xs=>match fU M xs with
   |some ks=>(ks≠[]/\∀k∈ks,k.length<=100000)/\∀i,i<ks.length->(∀j,j<ks.length->(ks.getD i []).length<=(ks.getD j []).length)->(∀j,j<i->(ks.getD i []).length<(ks.getD j []).length)->Q (xs.getD i .non) M
   |none=>False
  |none=>False
 |_=>False
theorem pM{b:aae}{Z:_2.St}{H:Hp}{M:Mem}{q:cb}{vs:List V}{ys:List D}{ks:Z8}(I:Inv X b Z H s)(h:RepH X.K H M)(g:SqL X.K H q vs)(j:Rps X.K H ys vs)(es:fU M ys=ap ks)(i:ks≠[]):
  ∃Z6:List ay,Vals vs Z6/\s.heap.IsList q Z6.toArray/\LstsAt s.heap Z6 ks/\Z6.length=ks.length/\ys.length=ks.length/\0<ks.length/\q<s.heap.objs.size/\q≠s.heap.objs.size:=by
 obtain⟨Z6,f,p,l⟩:=I.list g;have c:=uZ es;have t:=t6 I h es j f;have a:q<s.heap.objs.size:=by obtain⟨o,e,_⟩:=p.isList;exact SI e
 exact⟨Z6,f,p.isList,t,t.len.symm,c.symm,Wt.mpr i,a,SY a⟩
theorem nU{Z6:Z'}{ks:Z8}{c:aaa}{l:Obj}(t:LstsAt s.heap Z6 ks)(hw:∀b∈c,s.heap.objs.size<=b):∀h h':fy,LstsAt h Z6 ks->(∀b o,b∉c->b≠(s.heap.push l).objs.size->h.get? b=ap o->h'.get? b=ap o)->LstsAt h' Z6 ks:=λh h' f k=>f.keep λb o i e=>by
 obtain⟨a,m,g,j,_⟩:=t.there _ i;cases g;have lt:=SI j;exact k b o (λz=>TN _ (Tc lt<|hw b z)) (by show b≠(s.heap.objs.push _).size;rw[W2];exact SY (UU lt)) e
theorem oU{a:aae}{Z:_2.St}{H:Hp}{M:Mem}{vs:List V}{ys:List D}{Z6:Z'}{v:ay}{i:Nat}{QQ:DK}{Q:VK}{h':fy}{j:Nat}(I:Inv X a Z H s)(r:RepH X.K H M)(z:Rps X.K H ys vs)(x:Vals vs Z6)(g:i<ys.length)(p:Z6.toArray[i]?=ap v)(h:QQ (ys.getD i .non) M)(y:Up X.K M H QQ Q)(q:∀b o,s.heap.get? b=ap o->h'.get? b=ap o):EP X a Z Q v { s with heap:=h',toks:=j }:=by
 have e:ys[i]?=ap (ys.getD i .non):=by rw[SG g];simp[g]
 obtain⟨w,n,f⟩:=z.get e;obtain⟨u,l,m⟩:=x.get n;have c:Z6[i]?=ap v:=by simpa using p
 rw[l]at c;cases c;exact⟨w,H,I.kept (t':=j) q,m,y _ M h _ H r Frm.refl f⟩
theorem Ls{q b:cb}{h:fy}{o:Obj}(a:q<h.objs.size)(hb:b∈[h.objs.size,q]):b<(h.push o).objs.size:=by
 show b<(h.objs.push o).size;rw[W2];simp at hb;rcases hb with hb|hb<;>rw[hb]
 .exact W0 _
 .exact UU a
theorem xx(O:X.calm=true)(P:X.A.units+1<n7):bp X (.builtin "min") (liftC X qH):=by
 intro x s Z H T S Q I r h;obtain⟨ds,M,QQ,g,G,h,z⟩:=h;unfold qH at h
 split at h
 .obtain⟨v,rfl,C⟩:=eU (ds:=[]) G
  split at h
  .rename_i Y e
   obtain⟨q,W,rfl,J,w⟩:=cL g C e
   split at h
   .rename_i a F
    obtain⟨E,h⟩:=h;obtain⟨u,rfl,K⟩:=gh r;cases K;obtain⟨c,N,p,t,L,l2,U,f,l⟩:=pM I g (.inl J) w F E;refine xc (ra p ⟨s.heap.objs.size,_,_,_,_,_,λi j=>fF (a.getD i []) (a.getD j []),λh=>LstsAt h c a,rfl,W6 (A:=X.A.in1) (I.ok.hd O) s.heap.objs.size q l c.toArray,⟨⟨_,SK _ rfl,rfl,rfl⟩,p.push _⟩,?_,by rw[SW];lia,Fu P,?_,?_,λv h' tk n y=>?_⟩)
    .exact λb m=>Ls f m
    .exact t.keep λb o _ e=>SF _ e
    .exact nU t (by simp)
    .rw[SW,L]at n
     have m:=k8 (lt:=λi j=>fF (a.getD i []) (a.getD j [])) (a.length-1);exact oU (s:=s) I g w N (by lia) n (h _ (by lia) λj R=>vk oTup a _ j (by lia)) z λb o e=>y b o (by simp;exact SY (SI e)) (SF _ e)
   .exact h.elim
  .exact h.elim
 .exact h.elim
theorem tB(T:X.calm=true):A6 X (.builtin "min") "key" (.builtin "len") (liftC X kT):=by
 intro z s Z H W U Q I r h;obtain⟨ds,M,QQ,l,N,h,E⟩:=h;unfold kT at h
 split at h
 .obtain⟨v,rfl,F⟩:=eU (ds:=[]) N
  split at h
  .rename_i ys e
   obtain⟨q,vs,rfl,O,y⟩:=cL l F e
   split at h
   .rename_i a L
    obtain⟨⟨G,C⟩,h⟩:=h;obtain⟨u,rfl,P⟩:=gh r;cases P;obtain⟨c,S,p,t,R,l2,Y,g,m⟩:=pM I l (.inl O) y L G;refine rg (ra p ⟨s.heap.objs.size,_,_,_,_,_,λi=>((a.getD i []).length:Int),λh=>LstsAt h c a,rfl,W6 (A:=X.A.in1) (I.ok.hd T) s.heap.objs.size q m c.toArray,⟨⟨_,SK _ rfl,rfl,rfl⟩,p.push _⟩,?_,by rw[SW];lia,EZ λk f=>by have:=C k f;lia,?_,?_,λv h' tk x f=>?_⟩)
    .exact λb w=>Ls g w
    .exact t.keep λb o _ e=>SF _ e
    .exact nU t (by simp)
    .rw[SW,R]at x
     have w:=k8 (lt:=λi j=>decide ((λi=>((a.getD i []).length:Int)) i<(λi=>((a.getD i []).length:Int)) j)) (a.length-1);obtain⟨J,K⟩:=mZ (λi=>((a.getD i []).length:Int)) (a.length-1);exact oU (s:=s) I l y S (by lia) x (h _ (by lia) (λj n=>Int.ofNat_le.mp (J j<|by lia)) λj n=>Int.ofNat_lt.mp (K j n)) E λb o e=>f b o (by simp;exact SY (SI e)) (SF _ e)
   .exact h.elim
  .exact h.elim
 .exact h.elim
end
end _3
namespace _3
open PySem _2 _S PyProof.Rows
section
variable {X:Cx}{B:Bd}{x y:Str}{p pos yp kp:Pos}{e:fv}{es:aab}{t:dY}{id:String}{kn:Str}{k:ay}{r:mR}
theorem xG(q:A6 X (.builtin id) kn k (liftC X r))(l:eT x=ap (.builtin id))(b:eT y=ap k)(o:Gl X x)(s:X.mg x=bb)(f:Gl X y)(h:X.mg y=bb)(m:DA X B (e::es) t)(j:x≠"__name__")(g:(x==("__debug__":Str))=cp)
  (c:y≠"__name__") (a:(y==("__debug__":Str))=cp)
  (n:g4 pos (ee (e::es) X.env)=(cp,fx e X.env)::g4 pos (ee es X.env)) (i:(g4 pos<|starEach (e::es) X.env).any (·.1)=cp):DE X B (.Call (.Name x p) (e::es) [⟨ap kn,.Name y yp,kp⟩] pos) (bg r t):=
 Ca q o s l f h b m j g c a n i
theorem nS(a:X.A.units+64<n7):bp X (.builtin "sorted") (liftC X dk):=oP (by lia)
end
end _3
namespace _T
open PySem _2 _3
noncomputable def b_(i:Nat):Stmt:=PySem.Challenge.pw_twinstride_k40_the_fewest_cause.main.body.getD i (.Pass ⟨0,0,0,0⟩)
abbrev Ro:Stmt:=dR (b_ 6) 0
abbrev Sf:Stmt:=dR (b_ 6) 1
abbrev LR:Stmt:=dR (b_ 6) 2
abbrev LW:Stmt:=b_ 7
abbrev KR:Stmt:=b_ 8
abbrev KW:Stmt:=b_ 9
abbrev K_:Stmt:=b_ 10
abbrev Lv:Stmt:=b_ 12
abbrev KQ:Stmt:=b_ 13
abbrev Le:Stmt:=b_ 14
abbrev Mb:Stmt:=b_ 15
abbrev LV:Stmt:=b_ 16
abbrev KC:Stmt:=b_ 18
abbrev LF:Stmt:=b_ 19
abbrev Lu:Stmt:=b_ 20
abbrev Lh:Stmt:=b_ 22
abbrev LN:Stmt:=b_ 24
abbrev KB:Stmt:=b_ 26
abbrev Ll:Stmt:=b_ 27
abbrev KN:Stmt:=b_ 28
abbrev Qf:Stmt:=dR (b_ 30) 0
abbrev Qd:Stmt:=dR (b_ 30) 1
abbrev S9:Stmt:=dR (b_ 31) 0
abbrev Rx:Stmt:=dR (b_ 31) 1
abbrev LQ:Stmt:=b_ 32
abbrev Lg:Stmt:=b_ 33
abbrev KG:Stmt:=b_ 34
abbrev L1:Stmt:=b_ 35
abbrev R0:Stmt:=b_ 36
abbrev Lw:Stmt:=b_ 38
abbrev Md:Stmt:=b_ 39
abbrev Mi:Stmt:=b_ 40
abbrev Lz:Stmt:=b_ 41
abbrev Rq:Stmt:=dR (b_ 43) 0
abbrev KU:Stmt:=b_ 44
abbrev L_:Stmt:=b_ 45
abbrev LI:Stmt:=b_ 47
abbrev LK:Stmt:=b_ 48
abbrev Lo:Stmt:=b_ 50
abbrev KH:Stmt:=b_ 51
abbrev Lb:Stmt:=b_ 52
abbrev Ma:Stmt:=b_ 53
abbrev Mh:Stmt:=b_ 54
abbrev LD:Stmt:=b_ 55
abbrev LY:Stmt:=b_ 56
abbrev KI:Stmt:=b_ 57
abbrev KZ:Stmt:=b_ 58
abbrev Lr:Stmt:=b_ 59
abbrev KJ:Stmt:=b_ 60
abbrev KF:Stmt:=b_ 61
abbrev LA:Stmt:=b_ 62
abbrev LG:Stmt:=b_ 63
abbrev Li:Stmt:=b_ 64
abbrev KM:Stmt:=b_ 65
abbrev Ku:Stmt:=b_ 66
abbrev KS:Stmt:=b_ 67
abbrev QD:Stmt:=b_ 68
abbrev KA:Stmt:=b_ 69
abbrev Mg:Stmt:=b_ 70
abbrev Kv:Stmt:=b_ 71
abbrev Ln:Stmt:=b_ 72
abbrev Rt:Stmt:=b_ 73
abbrev LO:Stmt:=b_ 76
abbrev L4:Stmt:=b_ 77
abbrev jG:Stmt:=b_ 78
set_option genInjectivity false in
structure Ad where
 C_Ends:cb
 C_Going:cb
 C_Outcome:cb
 C_Walk:cb
 C_Dry:cb
 C_NoCase:cb
 C_TooMany:cb
 (a1 a2 a3 a4 a5 a6 a7 a8 a9 a10 a11 a12 a13 a14 a15 a16 a17 a18 a19 a20 a21 a22 a23 a24 a25 a26 a27 a28 a29 a30 a31 a32 a33 a34 a35 a36 a37 a38 a39 a40 a41 a42 a43 a44 a45 a46 a47 a48 a49 a50 a51 a52 a53 a54 a55 a56 a57 a58 a59 a60 a61 a62 a63 a64 a65:cb)
 (d1 d2 d3 d4 d5 d6 d7 d8 d9 d10 d11 d12 d13 d14 d15 d16 d17 d18 d19 d20 d21 d22 d23 d24 d25 d26 d27 d28 d29 d30 d31 d32 d33 d34 d35 d36 d37 d38 d39 d40 d41 d42 d43 d44 d45 d46 d47 d48 d49 d50 d51 d52 d53 d54 d55 d56 d57 d58 d59 d60 d61 d62 d63 d64 d65:hG)
section
variable{ad:Ad}{M:Mem}{Q:DK}{E:DX}{a b c d e f g h:D}
local macro_rules|`($q⁻¹)=>`({ nx:=λ_ x=>drp $q .non x,rt:=drp $q })
local macro_rules|`(¬$k:num)=>`(dC (.int $k))|`(¬$k:str)=>`(dC (.str $k))
def FF(w:Ad)(y:DX):ar:=ah (ck w.C_Walk (ac 0) (ac 3) "most") (ck w.C_Walk (ac 0) (bL af) "steps")
def Ep(w:Ad)(y:DX):ar:=ah (ck w.C_Walk (ac 0) (ai av (ac 2) ¬1) "pieces") (FF w y)
def E4(w:Ad)(y:DX):ar:=ah (ck w.C_Walk (ac 0) (fX<|aa (ai av (ac 1) ¬1)<|aa (ai av (ac 2) ¬0) af) "numbers") (Ep w y)
def JV(w:Ad)(y:DX):ar:=ah (ck w.C_Walk (ac 0) (ac 1) "plan") (E4 w y)
def Ij(ad:Ad):Sd:=aI ["self","plan","stand","most"] (JV ad)
theorem u_q7:Ij ad [b,a,e,c] M Q E=JV ad (aJ E) Q⁻¹ [ap b,ap a,ap e,ap c] M:=rfl
def EA(w:Ad)(y:DX):ar:=bn (ko "list" bv (aW w.C_Walk (ac 0) "steps")<|aa (aT<|aa (ac 1)<|aa (ac 2) af) af)
def Ka(w:Ad)(y:DX):ar:=ah (aG (al<|ai oGe (bg bV<|aa (aW w.C_Walk (ac 0) "steps") af)<|aW w.C_Walk (ac 0) "most") (lI w.C_Dry y) aB) (EA w y)
def xt(ad:Ad):Sd:=aI ["self","place","number"] (Ka ad)
theorem u_q2:xt ad [b,a,c] M Q E=Ka ad (aJ E) Q⁻¹ [ap b,ap a,ap c] M:=rfl
def Aa(w:Ad)(y:DX):ar:=ah (bn<|c_ w.C_Walk "note_step" (xt w) y 3 (ac 0)<|aa (ac 1)<|aa (ac 3) af) (az<|ac 3)
def AQ(w:Ad)(y:DX):ar:=ah (aq (kI (al<|ai bM (ai av (aW w.C_Walk (ac 0) "numbers")<|ac 2) ¬0) (¬0) ¬1)<|ag 3) (Aa w y)
def p8(ad:Ad):Sd:=aI ["self","place","name","seen"] (AQ ad)
theorem Qb:p8 ad [b,a,c] M Q E=AQ ad (aJ E) Q⁻¹ [ap b,ap a,ap c,bb] M:=rfl
def BW(w:Ad)(y:DX):ar:=az (ai fK (am<|ai bc (ac 1)<|ac 2)<|ac 3)
def yl(w:Ad)(y:DX):ar:=az (kI (al<|ai CU (ac 1)<|ac 2) (¬1) ¬0)
def BN(w:Ad)(y:DX):ar:=az (kI (al<|ai bM (ac 1)<|ac 2) (¬1) ¬0)
def BE(w:Ad)(y:DX):ar:=ah (aG (al<|ai bM (ac 0) ¬"less") (yl w y) aB) (BN w y)
def zS(w:Ad)(y:DX):ar:=ah (aG (al<|ai bM (ac 0) ¬"by") (az<|ai fK (ai iU (ac 1)<|ac 2)<|ac 3) aB) (BE w y)
def Ay(w:Ad)(y:DX):ar:=ah (aG (al<|ai bM (ac 0) ¬"sum") (BW w y) aB) (zS w y)
def yu(ad:Ad):Sd:=aI ["word","y","z","wheel"] (Ay ad)
theorem Q_:yu ad [b,a,e,c] M Q E=Ay ad (aJ E) Q⁻¹ [ap b,ap a,ap e,ap c] M:=rfl
def Bq(w:Ad)(y:DX):ar:=az (ai fK (ai av (ac 1)<|ai av (ac 2) ¬2)<|ai av (ac 0) ¬2)
def At(w:Ad)(y:DX):ar:=ah (aG (al<|ai bM (ai av (ac 2) ¬0) ¬"pick") (Bq w y) aB) (az<|dC .non)
def io(w:Ad)(y:DX):ar:=ah (aG (al<|ai bM (ai av (ac 2) ¬0) ¬"take") (az<|ai av (ac 2) ¬2) aB) (At w y)
def nh(ad:Ad):Sd:=aI ["plan","numbers","row"] (io ad)
theorem pe:nh ad [b,a,c] M Q E=io ad (aJ E) Q⁻¹ [ap b,ap a,ap c] M:=rfl
def A5(w:Ad)(y:DX):ar:=az (aj (yu w) y 4<|aa (ai av (ac 3) ¬0)<|aa (ai av (ac 1)<|ai av (ac 3) ¬2)<|aa (ai av (ac 1)<|ai av (ac 3) ¬3)<|aa (ai av (ac 0) ¬0) af)
def Bo(w:Ad)(y:DX):ar:=ah (aG (al<|ai eQ (ac 4)<|dC .non) (az<|ai av (ac 2)<|ac 4) aB) (A5 w y)
def z8(w:Ad)(y:DX):ar:=ah (aq (am<|aj (nh w) y 3<|aa (ac 0)<|aa (ac 1)<|aa (ac 3) af)<|ag 4) (Bo w y)
def gk(w:Ad)(y:DX):ar:=ah (aG (al<|ai bM (ai av (ac 3) ¬0) ¬"put") (az<|ai av (ac 3) ¬2) aB) (z8 w y)
def o5(ad:Ad):Sd:=aI ["plan","numbers","pieces","row","piece"] (gk ad)
theorem jM:o5 ad [b,a,e,c] M Q E=gk ad (aJ E) Q⁻¹ [ap b,ap a,ap e,ap c,bb] M:=rfl
def A0(w:Ad)(Ym Yo Yp Yq:Sd)(y:DX):ar:=bn (aj Yo y 3<|aa (ac 0)<|aa (ac 4)<|aa (ai bc (ac 2)<|aT<|aa (ac 3) af) af)
def Au(w:Ad)(Ym Yo Yp Yq:Sd)(y:DX):ar:=eA (oX<|aa (ac 1) af) (cX 2<|aL (ag 3)<|aL (ag 4) cO) (A0 w Ym Yo Yp Yq y)
def AV(w:Ad)(Ym Yo Yp Yq:Sd)(y:DX):ar:=bn (aj Yp y 3<|aa (ac 0)<|aa (ac 1)<|aa (ac 2) af)
def zP(w:Ad)(Ym Yo Yp Yq:Sd)(y:DX):ar:=bn (aj Yq y 3<|aa (ac 0)<|aa (ac 1)<|aa (ac 2) af)
def BH(w:Ad)(Ym Yo Yp Yq:Sd)(y:DX):ar:=aq (ac 3) (cH (aW w.C_Walk (ac 0) "numbers")<|ai av (ac 1) ¬1)
def B5(w:Ad)(Ym Yo Yp Yq:Sd)(y:DX):ar:=ah (bn<|c_ w.C_Walk "note_step" (xt w) y 3 (ac 0)<|aa (ac 2)<|aa (ac 3) af) (BH w Ym Yo Yp Yq y)
def Bg(w:Ad)(Ym Yo Yp Yq:Sd)(y:DX):ar:=ah (aq (am<|aj (o5 w) y 4<|aa (aW w.C_Walk (ac 0) "plan")<|aa (aW w.C_Walk (ac 0) "numbers")<|aa (aW w.C_Walk (ac 0) "pieces")<|aa (ac 1) af)<|ag 3) (B5 w Ym Yo Yp Yq y)
def A4(w:Ad)(Ym Yo Yp Yq:Sd)(y:DX):ar:=aG (al<|ai bM (ai av (ac 1) ¬0) ¬"again") (zP w Ym Yo Yp Yq y) (Bg w Ym Yo Yp Yq y)
def pZ(w:Ad)(Ym Yo Yp Yq:Sd)(y:DX):ar:=aG (al<|ai bM (ai av (ac 1) ¬0) ¬"if") (AV w Ym Yo Yp Yq y) (A4 w Ym Yo Yp Yq y)
def A9(w:Ad)(Ym Yo Yp Yq:Sd)(y:DX):ar:=bn (aj Ym y 3<|aa (ac 0)<|aa (kI (al<|ai bM (ac 3) ¬1) (ai av (ac 1) ¬2)<|ai av (ac 1) ¬3)<|aa (ai bc (ac 2)<|aT<|aa (ac 3) af) af)
def B7(w:Ad)(Ym Yo Yp Yq:Sd)(y:DX):ar:=ah (aq (am<|c_ w.C_Walk "look" (p8 w) y 3 (ac 0)<|aa (ac 2)<|aa (ai av (ac 1) ¬1) af)<|ag 3) (A9 w Ym Yo Yp Yq y)
def Aq(w:Ad)(Ym Yo Yp Yq:Sd)(y:DX):ar:=ah (bn<|aj Ym y 3<|aa (ac 0)<|aa (ai av (ac 1) ¬2)<|aa (ai bc (ac 2)<|aT<|aa (ac 3) af) af) (FW 3 (¬1) DN)
def A3(w:Ad)(Ym Yo Yp Yq:Sd)(y:DX):ar:=qr (al<|ai bM (am<|c_ w.C_Walk "look" (p8 w) y 3 (ac 0)<|aa (ai bc (ac 2)<|aT<|aa (ac 3) af)<|aa (ai av (ac 1) ¬1) af) ¬1) (Aq w Ym Yo Yp Yq y)
def EI(w:Ad)(Ym Yo Yp Yq:Sd)(y:DX):ar:=ah (aq (¬0)<|ag 3) (A3 w Ym Yo Yp Yq y)
mutual
def Ym(ad:Ad):Nat->Sd
 |0=>λ_ _ _ _=>False
 |n+1=>aI ["walk","rows","place","j","row"] (Au ad (Ym ad n) (Yo ad n) (Yp ad n)<|Yq ad n)
def Yo(ad:Ad):Nat->Sd
 |0=>λ_ _ _ _=>False
 |n+1=>aI ["walk","row","place","number"] (pZ ad (Ym ad n) (Yo ad n) (Yp ad n)<|Yq ad n)
def Yp(ad:Ad):Nat->Sd
 |0=>λ_ _ _ _=>False
 |n+1=>aI ["walk","row","place","seen"] (B7 ad (Ym ad n) (Yo ad n) (Yp ad n)<|Yq ad n)
def Yq(ad:Ad):Nat->Sd
 |0=>λ_ _ _ _=>False
 |n+1=>aI ["walk","row","place","turn"] (EI ad (Ym ad n) (Yo ad n) (Yp ad n)<|Yq ad n)
end
theorem Sw{n:Nat}:Ym ad (n+1) [b,a,c] M Q E=Au ad (Ym ad n) (Yo ad n) (Yp ad n) (Yq ad n) (aJ E) Q⁻¹ [ap b,ap a,ap c,bb,bb] M:=rfl
theorem FU{n:Nat}:Yo ad (n+1) [b,a,c] M Q E=pZ ad (Ym ad n) (Yo ad n) (Yp ad n) (Yq ad n) (aJ E) Q⁻¹ [ap b,ap a,ap c,bb] M:=rfl
theorem R_{n:Nat}:Yp ad (n+1) [b,a,c] M Q E=B7 ad (Ym ad n) (Yo ad n) (Yp ad n) (Yq ad n) (aJ E) Q⁻¹ [ap b,ap a,ap c,bb] M:=rfl
theorem u_q49{n:Nat}:Yq ad (n+1) [b,a,c] M Q E=EI ad (Ym ad n) (Yo ad n) (Yp ad n) (Yq ad n) (aJ E) Q⁻¹ [ap b,ap a,ap c,bb] M:=rfl
def Al(w:Ad)(y:DX):ar:=az (aT<|aa (aW w.C_Walk (ac 3) "steps")<|aa (bg bG<|aa (am<|aO (bQ<|ai av (ac 0) ¬1) ["name"] [3] (ag 0) dg<|ai av (aW w.C_Walk (ac 1) "numbers")<|ac 0) af) af)
def BS(w:Ad)(y:DX):ar:=ah (Mo w.C_Dry (Ym w 24) 3 (aa (ac 3)<|aa (ai av (ac 0) ¬3)<|aa (aT af) af)<|az<|aT<|aa (aW w.C_Walk (ac 3) "steps")<|aa (dC .non) af) (Al w y)
def yL(w:Ad)(y:DX):ar:=ah (aq (gT w.C_Walk (Ij w) y 4<|aa (ac 0)<|aa (ac 1)<|aa (ac 2) af)<|ag 3) (BS w y)
def uS(ad:Ad):Sd:=aI ["plan","stand","most","walk"] (yL ad)
theorem RG:uS ad [b,a,c] M Q E=yL ad (aJ E) Q⁻¹ [ap b,ap a,ap c,bb] M:=rfl
def Bm(w:Ad)(y:DX):ar:=az (ai av (ac 3)<|Hn hZ (ai av (ac 0) ¬1)<|aa (ai av (ac 0) ¬4) af)
def BB(w:Ad)(y:DX):ar:=ah (aG (al<|ai jT (ac 3)<|dC .non) (az<|dC .non) aB) (Bm w y)
def BU(w:Ad)(y:DX):ar:=ah (aq (ai av (pG<|aj (uS w) y 3<|aa (ac 0)<|aa (ac 1)<|aa (ac 2) af) ¬1)<|ag 3) (BB w y)
def oY(ad:Ad):Sd:=aI ["plan","stand","most","end"] (BU ad)
theorem Q3:oY ad [b,a,c] M Q E=BU ad (aJ E) Q⁻¹ [ap b,ap a,ap c,bb] M:=rfl
def zE(w:Ad)(y:DX):ar:=az (ai bc (am<|bg dW<|aa (ai av (ac 0) ¬1) af)<|am<|uR<|aa (ai av (ac 0) ¬2) af)
def vC(ad:Ad):Sd:=aI ["plan"] (zE ad)
theorem RI:vC ad [a] M Q E=zE ad (aJ E) Q⁻¹ [ap a] M:=rfl
def kX(w:Ad)(y:DX):ar:=az (aO (bQ<|am<|aj (vC w) y 1<|aa (ac 0) af) ["thing"] [2] (ag 0) (al<|ai tW (ac 0)<|ac 1)<|ac 0)
def Aw(w:Ad)(y:DX):ar:=ah (aq (bg fN<|aa (am<|aO (bQ<|ac 1) ["thing"] [] (ag 0) dg<|aT<|aa (ac 0)<|aa (dC<|.bl true) af) af)<|ag 2) (kX w y)
def BC(ad:Ad):Sd:=aI ["plan","things","wanted"] (Aw ad)
theorem Qs:BC ad [b,a] M Q E=Aw ad (aJ E) Q⁻¹ [ap b,ap a,bb] M:=rfl
def Bw(w:Ad)(y:DX):ar:=az (ai av (ai av (ac 1) ¬0)<|Hn hZ (ai av (ac 0) ¬1)<|aa (ac 2) af)
def uH(w:Ad)(y:DX):ar:=ah (aG (cB<|bg dw<|aa (ac 2)<|aa (dC<|.ty "str") af) (Bw w y) aB) (az<|ai av (ai av (ac 1) ¬1)<|ac 2)
def n8(ad:Ad):Sd:=aI ["plan","stand","thing"] (uH ad)
theorem LJ:n8 ad [b,a,c] M Q E=uH ad (aJ E) Q⁻¹ [ap b,ap a,ap c] M:=rfl
def xW(w:Ad)(y:DX):ar:=az (bg dW<|aa (am<|CK (ac 0) (dQ ¬2) ci) af)
def yQ(w:Ad)(y:DX):ar:=ah (aG (P8 (al<|ai bM (ai av (ac 0) ¬0) ¬"put")<|al<|ai bM (ai av (ac 0) ¬0) ¬"take") (az<|bL af) aB) (xW w y)
def jI(w:Ad)(y:DX):ar:=ah (aG (P8 (al<|ai bM (ai av (ac 0) ¬0) ¬"if")<|al<|ai bM (ai av (ac 0) ¬0) ¬"again") (az<|bL<|aa (ai av (ac 0) ¬1) af) aB) (yQ w y)
def zc(ad:Ad):Sd:=aI ["row"] (jI ad)
theorem ue:zc ad [a] M Q E=jI ad (aJ E) Q⁻¹ [ap a] M:=rfl
def Er(w:Ad)(y:DX):ar:=az (aO (bQ<|am<|aj (vC w) y 1<|aa (ac 0) af) ["thing"] [0,2,1] (ag 0) (al<|ai sS (am<|aj (n8 w) kC 3<|aa (ac 1)<|aa (ac 3)<|aa (ac 0) af)<|am<|aj (n8 w) kC 3<|aa (ac 1)<|aa (ac 2)<|aa (ac 0) af)<|ac 0)
def Bh(ad:Ad):Sd:=aI ["plan","one","other"] (Er ad)
theorem u_q53:Bh ad [b,a,c] M Q E=Er ad (aJ E) Q⁻¹ [ap b,ap a,ap c] M:=rfl
def yU(w:Ad)(y:DX):ar:=ah (aG (al<|ai bM (ac 1)<|ac 2) (lI w.C_NoCase y) aB) (az<|aT<|aa (ac 1)<|aa (ac 2) af)
def rJ(w:Ad)(y:DX):ar:=ah (aG (P8 (al<|ai jT (ac 1)<|dC .non)<|al<|ai jT (ac 2)<|dC .non) (lI w.C_NoCase y) aB) (yU w y)
def rj(w:Ad)(y:DX):ar:=ah (aq (am<|aj (oY w) y 3<|aa (ai av (ac 0) ¬0)<|aa (ai av (ac 0) ¬2)<|aa (ai av (ac 0) ¬3) af)<|ag 2) (rJ w y)
def zp(w:Ad)(y:DX):ar:=ah (aq (am<|aj (oY w) y 3<|aa (ai av (ac 0) ¬0)<|aa (ai av (ac 0) ¬1)<|aa (ai av (ac 0) ¬3) af)<|ag 1) (rj w y)
def uT(ad:Ad):Sd:=aI ["case","sound","faulty"] (zp ad)
theorem Sl:uT ad [a] M Q E=zp ad (aJ E) Q⁻¹ [ap a,bb,bb] M:=rfl
def Fx(w:Ad)(y:DX):ar:=az (aj (Bh w) y 3<|aa (ai av (ac 0) ¬0)<|aa (ai av (ac 0) ¬1)<|aa (ai av (ac 0) ¬2) af)
def oR(ad:Ad):Sd:=aI ["case"] (Fx ad)
theorem u_q39:oR ad [a] M Q E=Fx ad (aJ E) Q⁻¹ [ap a] M:=rfl
def zX(w:Ad)(y:DX):ar:=ah (aG (al<|ai bM (ac 1)<|ai av (ac 0) ¬1) (az ¬"faulty") aB) (az ¬"other")
def vS(w:Ad)(y:DX):ar:=ah (aG (al<|ai bM (ac 1)<|ai av (ac 0) ¬0) (az ¬"sound") aB) (zX w y)
def AM(ad:Ad):Sd:=aI ["two","one"] (vS ad)
theorem Lx:AM ad [b,a] M Q E=vS ad (aJ E) Q⁻¹ [ap b,ap a] M:=rfl
def Hc(w:Ad)(y:DX):ar:=ah (ck w.C_Going (ac 0) (ac 4) "todo") (ck w.C_Going (ac 0) (ac 5) "left")
def GP(w:Ad)(y:DX):ar:=ah (ck w.C_Going (ac 0) (ac 3) "unsettled") (Hc w y)
def G7(w:Ad)(y:DX):ar:=ah (ck w.C_Going (ac 0) (ac 2) "pieces") (GP w y)
def Iz(w:Ad)(y:DX):ar:=ah (ck w.C_Going (ac 0) (ac 1) "numbers") (G7 w y)
def Hg(ad:Ad):Sd:=aI ["self","numbers","pieces","unsettled","todo","left"] (Iz ad)
theorem u_q1:Hg ad [c,b,f,a,e,g] M Q E=Iz ad (aJ E) Q⁻¹ [ap c,ap b,ap f,ap a,ap e,ap g] M:=rfl
def DV(w:Ad)(y:DX):ar:=aq (ac 2) (cH (aW w.C_Going (ac 3) "numbers")<|ac 1)
def Ez(w:Ad)(y:DX):ar:=aq (ac 2) (cH (aW w.C_Going (ac 3) "pieces")<|ac 1)
def Gq(w:Ad)(y:DX):ar:=ah (aG (cB<|bg dw<|aa (ac 1)<|aa (dC<|.ty "str") af) (DV w y)<|Ez w y) (az<|ac 3)
def xu(w:Ad)(y:DX):ar:=ah (bn<|Ga (aW w.C_Going (ac 3) "unsettled")<|ac 1) (Gq w y)
def Ix(w:Ad)(y:DX):ar:=ah (aq (gT w.C_Going (Hg w) y 6<|aa (bg mW<|aa (aW w.C_Going (ac 0) "numbers") af)<|aa (bg dW<|aa (aW w.C_Going (ac 0) "pieces") af)<|aa (bg mW<|aa (aW w.C_Going (ac 0) "unsettled") af)<|aa (aW w.C_Going (ac 0) "todo")<|aa (aW w.C_Going (ac 0) "left") af)<|ag 3) (xu w y)
def Gw(ad:Ad):Sd:=aI ["self","thing","number","other"] (Ix ad)
theorem u_q6:Gw ad [b,a,c] M Q E=Ix ad (aJ E) Q⁻¹ [ap b,ap a,ap c,bb] M:=rfl
def Ip(w:Ad)(y:DX):ar:=ah (ck w.C_Ends (ac 0) (ac 1) "limit") (ck w.C_Ends (ac 0) (¬0) "count")
def OE(ad:Ad):Sd:=aI ["self","limit"] (Ip ad)
theorem u_q3:OE ad [b,a] M Q E=Ip ad (aJ E) Q⁻¹ [ap b,ap a] M:=rfl
def xo(w:Ad)(y:DX):ar:=aG (al<|ai Jo (aW w.C_Ends (ac 0) "count")<|aW w.C_Ends (ac 0) "limit") (lI w.C_TooMany y) aB
def JZ(w:Ad)(y:DX):ar:=ah (sR w.C_Ends (ac 0) (¬1) "count") (xo w y)
def DB(ad:Ad):Sd:=aI ["self"] (JZ ad)
theorem u_q5:DB ad [a] M Q E=JZ ad (aJ E) Q⁻¹ [ap a] M:=rfl
def rR(w:Ad)(y:DX):ar:=aq (aT<|aa (ac 2)<|aa (ac 1) af) (ag 1)
def zb(w:Ad)(y:DX):ar:=ah (eA (Nh<|aa (ac 0) af) (ag 2)<|rR w y) (az<|ac 1)
def m5(ad:Ad):Sd:=aI ["rows","todo","row"] (zb ad)
theorem Rk:m5 ad [b,a] M Q E=zb ad (aJ E) Q⁻¹ [ap b,ap a,bb] M:=rfl
def qJ(w:Ad)(y:DX):ar:=az (gT w.C_Going (Hg w) y 6<|aa (fX<|aa (ai av (ac 1) ¬1)<|aa (ai av (ac 2) ¬0) af)<|aa (bg dW<|aa (ai av (ac 2) ¬1) af)<|aa (ac 3)<|aa (am<|aj (m5 w) y 2<|aa (ai av (ac 1) ¬3)<|aa (dC .non) af)<|aa (ai av (ac 0) ¬3) af)
def tE(w:Ad)(y:DX):ar:=ah (aq (bg fN<|aa (am<|aO (bQ<|am<|aj (oR w) y 1<|aa (ac 0) af) ["thing"] [] (ag 0) dg<|aT<|aa (ac 0)<|aa (dC<|.bl true) af) af)<|ag 3) (qJ w y)
def ql(w:Ad)(y:DX):ar:=ah (aq (ai av (ac 0) ¬1)<|ag 2) (tE w y)
def zd(w:Ad)(y:DX):ar:=ah (aq (ai av (ac 0) ¬0)<|ag 1) (ql w y)
def zZ(ad:Ad):Sd:=aI ["case","plan","sound","unsettled"] (zd ad)
theorem RP:zZ ad [a] M Q E=zd ad (aJ E) Q⁻¹ [ap a,bb,bb,bb] M:=rfl
def rB(w:Ad)(y:DX):ar:=az (ai av (am<|aj (BC w) y 2<|aa (ac 0)<|aa (ac 3) af) ¬0)
def sK(w:Ad)(y:DX):ar:=az (kI (al<|ai Dx (ac 4)<|aW w.C_Going (ac 1) "unsettled") (ac 4)<|dC .non)
def sw(w:Ad)(y:DX):ar:=ah (aq (am<|aj (nh w) y 3<|aa (ac 0)<|aa (aW w.C_Going (ac 1) "numbers")<|aa (ac 2) af)<|ag 4) (sK w y)
def ka(w:Ad)(y:DX):ar:=ah (aG (cB<|ac 3) (rB w y) aB) (sw w y)
def qS(w:Ad)(y:DX):ar:=ah (bU (cV 3<|aO (bQ<|am<|aj (zc w) y 1<|aa (ac 2) af) ["name"] [1] (ag 0) (al<|ai tW (ac 0)<|aW w.C_Going (ac 1) "unsettled")<|ac 0) 3) (ka w y)
def AZ(w:Ad)(y:DX):ar:=ah (aG (gc<|cB<|aW w.C_Going (ac 1) "unsettled") (az<|dC .non) aB) (qS w y)
def yx(ad:Ad):Sd:=aI ["plan","going","row","found","piece"] (AZ ad)
theorem Ql:yx ad [b,a,c] M Q E=AZ ad (aJ E) Q⁻¹ [ap b,ap a,ap c,bb,bb] M:=rfl
def ww(w:Ad)(y:DX):ar:=ck w.C_Going (ac 1) (am<|aj (m5 w) y 2<|aa (kI (al<|ai bM (ai av (aW w.C_Going (ac 1) "numbers")<|ai av (ac 2) ¬1) ¬0) (ai av (ac 2) ¬3)<|ai av (ac 2) ¬2)<|aa (aW w.C_Going (ac 1) "todo") af) "todo"
def Ex(w:Ad)(y:DX):ar:=ck w.C_Going (ac 1) (am<|aj (m5 w) y 2<|aa (ai av (ac 2) ¬2)<|aa (aT<|aa (ac 2)<|aa (aW w.C_Going (ac 1) "todo") af) af) "todo"
def xz(w:Ad)(y:DX):ar:=aG (al<|ai sS (ai av (aW w.C_Going (ac 1) "numbers")<|ai av (ac 2) ¬1) ¬0) (Ex w y) aB
def wN(w:Ad)(y:DX):ar:=bn (FI (aW w.C_Going (ac 1) "unsettled") (ai av (ac 2) ¬1)<|dC .non)
def jg(w:Ad)(y:DX):ar:=ah (aq (am<|aj (o5 w) y 4<|aa (ac 0)<|aa (aW w.C_Going (ac 1) "numbers")<|aa (aW w.C_Going (ac 1) "pieces")<|aa (ac 2) af)<|cH (aW w.C_Going (ac 1) "numbers")<|ai av (ac 2) ¬1) (wN w y)
def r_(w:Ad)(y:DX):ar:=aG (al<|ai bM (ai av (ac 2) ¬0) ¬"again") (xz w y) (jg w y)
def o6(w:Ad)(y:DX):ar:=aG (al<|ai bM (ai av (ac 2) ¬0) ¬"if") (ww w y) (r_ w y)
def xB(w:Ad)(y:DX):ar:=ah (ck w.C_Going (ac 1) (ai av (aW w.C_Going (ac 1) "todo") ¬1) "todo") (o6 w y)
def Ki(w:Ad)(y:DX):ar:=ah (rW w.C_Going (ac 1) (¬1) "left") (xB w y)
def Hy(ad:Ad):Sd:=aI ["plan","going","row"] (Ki ad)
theorem u_q9:Hy ad [b,a,c] M Q E=Ki ad (aJ E) Q⁻¹ [ap b,ap a,ap c] M:=rfl
def sM(w:Ad)(y:DX):ar:=bn (aj (Hy w) y 3<|aa (ac 0)<|aa (ac 1)<|aa (ac 2) af)
def q_(w:Ad)(y:DX):ar:=ah (aG (al<|ai eQ (ac 3)<|dC .non) (az<|ac 3) aB) (sM w y)
def qP(w:Ad)(y:DX):ar:=ah (aq (am<|aj (yx w) y 3<|aa (ac 0)<|aa (ac 1)<|aa (ac 2) af)<|ag 3) (q_ w y)
def qO(w:Ad)(y:DX):ar:=ah (aq (ai av (aW w.C_Going (ac 1) "todo") ¬0)<|ag 2) (qP w y)
def gD(w:Ad)(y:DX):ar:=ah (aG (al<|ai oLe (aW w.C_Going (ac 1) "left") ¬0) (az<|dC .non) aB) (qO w y)
def rC(w:Ad)(y:DX):ar:=az (kI (al<|ai tW (ai av (ac 0) ¬4)<|aW w.C_Going (ac 1) "unsettled") (ai av (ac 0) ¬4)<|dC .non)
def E8(w:Ad)(y:DX):ar:=ah (qr (al<|ai eQ (aW w.C_Going (ac 1) "todo")<|dC .non)<|gD w y) (rC w y)
def yO(ad:Ad):Sd:=aI ["plan","going","row","asked"] (E8 ad)
theorem u_q60:yO ad [b,a] M Q E=E8 ad (aJ E) Q⁻¹ [ap b,ap a,bb,bb] M:=rfl
def zj(w:Ad)(y:DX):ar:=az (kI (al<|ai jT (aW w.C_Going (ac 1) "todo")<|dC .non) (ai av (aW w.C_Going (ac 1) "numbers")<|ai av (ac 0) ¬4)<|dC .non)
def BV(ad:Ad):Sd:=aI ["plan","going"] (zj ad)
theorem RT:BV ad [b,a] M Q E=zj ad (aJ E) Q⁻¹ [ap b,ap a] M:=rfl
def yz(w:Ad)(y:DX):ar:=az (aO (bQ<|am<|CK (ac 0) (dQ ¬1)<|dQ ¬3) ["stand"] [2,1,0] (ag 0) dg<|am<|c_ w.C_Going "settled" (Gw w) kC 3 (ac 2)<|aa (ac 1)<|aa (am<|aj (n8 w) kC 3<|aa (ai av (ac 3) ¬0)<|aa (ac 0)<|aa (ac 1) af) af)
def Bz(ad:Ad):Sd:=aI ["case","going","thing"] (yz ad)
theorem RE:Bz ad [b,a,c] M Q E=yz ad (aJ E) Q⁻¹ [ap b,ap a,ap c] M:=rfl
def rA(w:Ad)(Ys:Sd)(y:DX):ar:=az (aT<|aa (¬"end")<|aa (aj (BV w) y 2<|aa (ai av (ac 0) ¬0)<|aa (ac 1) af) af)
def tq(w:Ad)(Ys:Sd)(y:DX):ar:=az (aT<|aa (¬"ask")<|aa (ac 3)<|aa (aj Ys y 3<|aa (ac 0)<|aa (ai av (ac 4) ¬0)<|aa (ac 2) af)<|aa (aj Ys y 3<|aa (ac 0)<|aa (ai av (ac 4) ¬1)<|aa (ac 2) af) af)
def qG(w:Ad)(Ys:Sd)(y:DX):ar:=ah (aq (am<|aj (Bz w) y 3<|aa (ac 0)<|aa (ac 1)<|aa (ac 3) af)<|ag 4) (tq w Ys y)
def rZ(w:Ad)(Ys:Sd)(y:DX):ar:=ah (bn<|c_ w.C_Ends "one_more" (DB w) y 1 (ac 2) af) (qG w Ys y)
def rD(w:Ad)(Ys:Sd)(y:DX):ar:=ah (aG (al<|ai jT (ac 3)<|dC .non) (rA w Ys y) aB) (rZ w Ys y)
def BQ(w:Ad)(Ys:Sd)(y:DX):ar:=ah (aq (am<|aj (yO w) y 2<|aa (ai av (ac 0) ¬0)<|aa (ac 1) af)<|ag 3) (rD w Ys y)
def Ys(ad:Ad):Nat->Sd
 |0=>λ_ _ _ _=>False
 |n+1=>aI ["case","going","ends","asked","ways"] (BQ ad<|Ys ad n)
theorem Qx{n:Nat}:Ys ad (n+1) [b,a,c] M Q E=BQ ad (Ys ad n) (aJ E) Q⁻¹ [ap b,ap a,ap c,bb,bb] M:=rfl
def y9(w:Ad)(y:DX):ar:=az (aj (Ys w 24) y 3<|aa (ac 0)<|aa (am<|aj (zZ w) y 1<|aa (ac 0) af)<|aa (ac 2) af)
def z9(w:Ad)(y:DX):ar:=ah (bn<|c_ w.C_Ends "one_more" (DB w) y 1 (ac 2) af) (y9 w y)
def Ab(w:Ad)(y:DX):ar:=ah (aq (gT w.C_Ends (OE w) y 2<|aa (ac 1) af)<|ag 2) (z9 w y)
def Gi(w:Ad)(y:DX):ar:=ah (bn<|aj (uT w) y 1<|aa (ac 0) af) (Ab w y)
def Bf(ad:Ad):Sd:=aI ["case","limit","ends"] (Gi ad)
theorem u_q61:Bf ad [b,a] M Q E=Gi ad (aJ E) Q⁻¹ [ap b,ap a,bb] M:=rfl
def GX(w:Ad)(y:DX):ar:=ah (ck w.C_Outcome (ac 0) (ac 2) "sound") (ck w.C_Outcome (ac 0) (ac 3) "faulty")
def HN(w:Ad)(y:DX):ar:=ah (ck w.C_Outcome (ac 0) (ac 1) "verdict") (GX w y)
def JH(ad:Ad):Sd:=aI ["self","verdict","sound","faulty"] (HN ad)
theorem u_q0:JH ad [b,a,e,c] M Q E=HN ad (aJ E) Q⁻¹ [ap b,ap a,ap e,ap c] M:=rfl
def rU(w:Ad)(y:DX):ar:=bn (ko "list" bv (ac 4)<|aa (gT w.C_Outcome (JH w) y 4<|aa (am<|aj (AM w) y 2<|aa (ac 2)<|aa (ai av (ai av (ac 6) ¬0) ¬1) af)<|aa (ac 7)<|aa (ac 8) af) af)
def sx(w:Ad)(y:DX):ar:=bn (ko "list" bv (ac 5)<|aa (aT<|aa (ai av (ai av (ac 6) ¬0) ¬3)<|aa (ac 7)<|aa (ai oOr (ac 8)<|ac 9) af) af)
def qq(w:Ad)(y:DX):ar:=ah (bn<|ko "list" bv (ac 5)<|aa (aT<|aa (ai av (ai av (ac 6) ¬0) ¬2)<|aa (ai oOr (ac 7)<|ac 9)<|aa (ac 8) af) af) (sx w y)
def sC(w:Ad)(y:DX):ar:=ah (aq (ai av (ac 3)<|ai av (ai av (ac 6) ¬0) ¬1)<|ag 9) (qq w y)
def qD(w:Ad)(y:DX):ar:=aG (al<|ai bM (ai av (ai av (ac 6) ¬0) ¬0) ¬"end") (rU w y) (sC w y)
def rE(w:Ad)(y:DX):ar:=ah (aq (ai av (ac 6) ¬2)<|ag 8) (qD w y)
def qk(w:Ad)(y:DX):ar:=ah (aq (ai av (ac 6) ¬1)<|ag 7) (rE w y)
def gp(w:Ad)(y:DX):ar:=ah (aq (ko "list" Ch (ac 5) af)<|ag 6) (qk w y)
def za(w:Ad)(y:DX):ar:=ah (qr (cB<|ac 5)<|gp w y) (az<|ac 4)
def tT(w:Ad)(y:DX):ar:=ah (aq (bL<|aa (aT<|aa (aj (Bf w) y 2<|aa (ac 0)<|aa (ac 1) af)<|aa (¬0)<|aa (¬0) af) af)<|ag 5) (za w y)
def mz(w:Ad)(y:DX):ar:=ah (aq (bg fN<|aa (am<|aO (oX<|aa (am<|aj (oR w) y 1<|aa (ac 0) af) af) ["number","thing"] [] (cX 2<|aL (ag 0)<|aL (ag 1) cO) dg<|aT<|aa (ac 1)<|aa (ai QX (¬1)<|ac 0) af) af)<|ag 3) (ah (aq (bL af)<|ag 4)<|tT w y)
def xZ(w:Ad)(y:DX):ar:=ah (aq (am<|aj (uT w) y 1<|aa (ac 0) af)<|ag 2) (mz w y)
def zK(ad:Ad):Sd:=aI ["case","limit","two","bit_of","found","waiting","here","sound","faulty","bit"] (xZ ad)
theorem RZ:zK ad [b,a] M Q E=xZ ad (aJ E) Q⁻¹ [ap b,ap a,bb,bb,bb,bb,bb,bb,bb,bb] M:=rfl
def Bk(w:Ad)(y:DX):ar:=az (aO (eh<|aa (ko "int" qE (ac 0) af) af) ["number"] [0] (ag 0) (al<|ai bM (ai Qu (ai MQ (ac 1)<|ac 0) ¬1) ¬1)<|ac 0)
def Bt(ad:Ad):Sd:=aI ["bits"] (Bk ad)
theorem Rf:Bt ad [a] M Q E=Bk ad (aJ E) Q⁻¹ [ap a] M:=rfl
def Ar(w:Ad)(y:DX):ar:=az (aO (bQ<|am<|aj (zK w) y 2<|aa (ac 0)<|aa (ac 1) af) ["one"] [] (ag 0) (al<|ai bM (aW w.C_Outcome (ac 0) "verdict") ¬"faulty")<|aW w.C_Outcome (ac 0) "faulty")
def AG(ad:Ad):Sd:=aI ["case","limit"] (Ar ad)
theorem Qv:AG ad [b,a] M Q E=Ar ad (aJ E) Q⁻¹ [ap b,ap a] M:=rfl
def ke(w:Ad)(y:DX):ar:=az (aO (bQ<|bg kT<|aa (ac 2) af) ["number"] [3] (ag 0) dg<|ai av (ac 1)<|ac 0)
def k9(w:Ad)(y:DX):ar:=ah (aq (am<|aj (oR w) y 1<|aa (ac 0) af)<|ag 3) (ke w y)
def zq(w:Ad)(y:DX):ar:=ah (aq (am<|bg dk<|aa (am<|aO (bQ<|am<|aj (AG w) y 2<|aa (ac 0)<|aa (ac 1) af) ["bits"] [] (ag 0) dg<|am<|aj (Bt w) kC 1<|aa (ac 0) af) af)<|ag 2) (k9 w y)
def p_(ad:Ad):Sd:=aI ["case","limit","found","things"] (zq ad)
theorem Qk:p_ ad [b,a] M Q E=zq ad (aJ E) Q⁻¹ [ap b,ap a,bb,bb] M:=rfl
def yH(w:Ad)(y:DX):ar:=ah (aq (ai fK (ai iU (ai Qy (ac 2)<|ai vA (ac 2) ¬2147483648) ¬2685821657736338717) ¬18446744073709551616)<|ag 2) (az<|ai vA (ac 2) ¬1048576)
def zg(w:Ad)(y:DX):ar:=ah (aq (ai fK (ai bc (ai bc (ai iU (ac 0) ¬6364136223846793005)<|ai iU (ac 1) ¬1442695040888963407) ¬97) ¬18446744073709551616)<|ag 2) (yH w y)
def mU(ad:Ad):Sd:=aI ["cell","turn","one"] (zg ad)
theorem Qc:mU ad [b,a] M Q E=zg ad (aJ E) Q⁻¹ [ap b,ap a,bb] M:=rfl
def A_(w:Ad)(y:DX):ar:=aq (ai fK (ai bc (ai iU (ac 1) ¬1000003)<|ac 2) ¬18446744073709551616) (ag 1)
def zL(w:Ad)(y:DX):ar:=az (bL<|aa (bg dW<|aa (am<|CK (ac 0) ci<|dQ ¬63) af)<|aa (¬0)<|aa (¬0)<|aa (ac 1) af)
def xY(w:Ad)(y:DX):ar:=ah (eA (bQ<|am<|CK (ac 0) ci<|dQ ¬63) (ag 2)<|A_ w y) (zL w y)
def yN(w:Ad)(y:DX):ar:=ah (aq (¬7)<|ag 1) (xY w y)
def zR(ad:Ad):Sd:=aI ["script","seed","cell"] (yN ad)
theorem Rr:zR ad [a] M Q E=yN ad (aJ E) Q⁻¹ [ap a,bb,bb] M:=rfl
def BI(w:Ad)(y:DX):ar:=az (ai fK (am<|aj (mU w) y 2<|aa (ac 2)<|aa (ai av (ac 0) ¬1) af)<|ac 1)
def zY(w:Ad)(y:DX):ar:=ah (aG (al<|ai CU (ac 2)<|ai MU (¬10) ¬18) (BI w y) aB) (aq (ac 2)<|cH (ac 0) ¬2)
def AX(w:Ad)(y:DX):ar:=ah (aq (ko "list" Ch (ai av (ac 0) ¬0)<|aa (¬0) af)<|ag 2) (zY w y)
def Bi(w:Ad)(y:DX):ar:=az (ai fK (am<|aj (mU w) y 2<|aa (ai av (ac 0) ¬3)<|aa (ai av (ac 0) ¬1) af)<|ac 1)
def zO(w:Ad)(y:DX):ar:=ah (aq (ai vA (ai av (ac 0) ¬2)<|ac 1)<|cH (ac 0) ¬2) (az<|ac 3)
def xX(w:Ad)(y:DX):ar:=ah (aq (ai fK (ai av (ac 0) ¬2)<|ac 1)<|ag 3) (zO w y)
def Bb(w:Ad)(y:DX):ar:=ah (aG (al<|ai bM (ai av (ac 0) ¬2) ¬0) (Bi w y) aB) (xX w y)
def x_(w:Ad)(y:DX):ar:=ah (aG (oz (al<|ai bM (ai av (ac 0) ¬2) ¬0)<|al<|ai sS (ai av (ac 0) ¬0)<|am<|bL af) (AX w y) aB) (Bb w y)
def G_(w:Ad)(y:DX):ar:=ah (aq (ai bc (ai av (ac 0) ¬1) ¬1)<|cH (ac 0) ¬1) (x_ w y)
def aZ(ad:Ad):Sd:=aI ["pot","many","cell","found"] (G_ ad)
theorem u_q31:aZ ad [b,a] M Q E=G_ ad (aJ E) Q⁻¹ [ap b,ap a,bb,bb] M:=rfl
def zC(w:Ad)(y:DX):ar:=bn (ko "list" bv (ac 3)<|aa (ai iU (ac 5)<|ai bc (¬1)<|am<|aj (aZ w) y 2<|aa (ac 0)<|aa (¬8) af) af)
def Av(w:Ad)(y:DX):ar:=ah (aq (ai av (¬"abcdefghijklmnopqrstuvwxyz")<|ai fK (ai bc (ac 2)<|ai iU (¬7)<|ac 4) ¬26)<|ag 5) (zC w y)
def AT(w:Ad)(y:DX):ar:=ah (eA (eh<|aa (ac 1) af) (ag 4)<|Av w y) (az<|bg bG<|aa (ac 3) af)
def AE(w:Ad)(y:DX):ar:=ah (aq (am<|aj (aZ w) y 2<|aa (ac 0)<|aa (¬26) af)<|ag 2) (ah (aq (bL af)<|ag 3)<|AT w y)
def yP(ad:Ad):Sd:=aI ["pot","many","turn","names","k","sign"] (AE ad)
theorem QR:yP ad [b,a] M Q E=AE ad (aJ E) Q⁻¹ [ap b,ap a,bb,bb,bb,bb] M:=rfl
def yK(w:Ad)(y:DX):ar:=az (aT<|aa (ac 6)<|aa (ac 7)<|aa (aj (aZ w) y 2<|aa (ac 0)<|aa (ac 2) af) af)
def yk(w:Ad)(y:DX):ar:=az (aT<|aa (ac 6)<|aa (ac 7)<|aa (aj (aZ w) y 2<|aa (ac 0)<|aa (ac 4) af) af)
def yW(w:Ad)(y:DX):ar:=az (aT<|aa (ac 6)<|aa (ac 7)<|aa (ac 8) af)
def Ap(w:Ad)(y:DX):ar:=az (aT<|aa (ac 6)<|aa (ac 7)<|aa (ac 8)<|aa (ai av (ac 3)<|am<|aj (aZ w) y 2<|aa (ac 0)<|aa (bg bV<|aa (ac 3) af) af) af)
def yE(w:Ad)(y:DX):ar:=ah (aG (al<|ai bM (ac 6) ¬"pick") (yW w y) aB) (Ap w y)
def yt(w:Ad)(y:DX):ar:=ah (aq (ai av (ac 3)<|am<|aj (aZ w) y 2<|aa (ac 0)<|aa (bg bV<|aa (ac 3) af) af)<|ag 8) (yE w y)
def zT(w:Ad)(y:DX):ar:=ah (aG (al<|ai bM (ac 6) ¬"take") (yk w y) aB) (yt w y)
def Ak(w:Ad)(y:DX):ar:=ah (aG (al<|ai bM (ac 6) ¬"put") (yK w y) aB) (zT w y)
def As(w:Ad)(y:DX):ar:=ah (aq (ai av (ac 3)<|am<|aj (aZ w) y 2<|aa (ac 0)<|aa (bg bV<|aa (ac 3) af) af)<|ag 7) (Ak w y)
def vy(w:Ad)(y:DX):ar:=ah (aq (ai av (ac 5)<|am<|aj (aZ w) y 2<|aa (ac 0)<|aa (kI (al<|ai Jo (ac 4) ¬0) (¬9) ¬7) af)<|ag 6) (As w y)
def vG(w:Ad)(y:DX):ar:=ah (aq (am<|bL<|aa (¬"put")<|aa (¬"sum")<|aa (¬"by")<|aa (¬"less")<|aa (¬"same")<|aa (¬"sum")<|aa (¬"put")<|aa (¬"take")<|aa (¬"pick") af)<|ag 5) (vy w y)
def Bv(w:Ad)(y:DX):ar:=ah (aq (ac 1)<|cX 3<|aL (ag 2)<|aL (ag 3)<|aL (ag 4) cO) (vG w y)
def tQ(ad:Ad):Sd:=aI ["pot","told","m","names","many","ways","way","x","y"] (Bv ad)
theorem S5:tQ ad [b,a] M Q E=Bv ad (aJ E) Q⁻¹ [ap b,ap a,bb,bb,bb,bb,bb,bb,bb] M:=rfl
def yS(w:Ad)(Yl Yk:Sd)(y:DX):ar:=az (bL<|aa (aT<|aa (¬"if")<|aa (ac 7)<|aa (ac 8)<|aa (aj Yk y 5<|aa (ac 0)<|aa (ac 1)<|aa (ac 2)<|aa (ai bc (ac 3) ¬1)<|aa (¬5) af) af) af)
def yd(w:Ad)(Yl Yk:Sd)(y:DX):ar:=az (bL<|aa (aT<|aa (¬"again")<|aa (ac 7)<|aa (ac 8) af) af)
def yf(w:Ad)(Yl Yk:Sd)(y:DX):ar:=az (bL<|aa (aT<|aa (¬"put")<|aa (ac 7)<|aa (aj (aZ w) y 2<|aa (ac 0)<|aa (bg Hh<|aa (ac 4)<|aa (¬9) af) af) af)<|aa (aT<|aa (¬"put")<|aa (ac 10)<|aa (ai mK (ac 4) ¬1) af)<|aa (aT<|aa (¬"again")<|aa (ac 7)<|aa (ai bc (ac 8)<|aT<|aa (aT<|aa (¬"sum")<|aa (ac 7)<|aa (ac 7)<|aa (ac 10) af) af) af) af)
def yZ(w:Ad)(Yl Yk:Sd)(y:DX):ar:=ah (aq (ai av (ac 5)<|am<|aj (aZ w) y 2<|aa (ac 0)<|aa (bg bV<|aa (ac 5) af) af)<|ag 10) (yf w Yl Yk y)
def yF(w:Ad)(Yl Yk:Sd)(y:DX):ar:=ah (aG (al<|ai bM (ac 9) ¬2) (yd w Yl Yk y) aB) (yZ w Yl Yk y)
def y8(w:Ad)(Yl Yk:Sd)(y:DX):ar:=ah (aG (al<|ai CU (ac 9) ¬2) (yS w Yl Yk y) aB) (yF w Yl Yk y)
def zk(w:Ad)(Yl Yk:Sd)(y:DX):ar:=ah (aq (am<|aj (aZ w) y 2<|aa (ac 0)<|aa (¬5) af)<|ag 9) (y8 w Yl Yk y)
def Bp(w:Ad)(Yl Yk:Sd)(y:DX):ar:=ah (aq (am<|aj Yk y 5<|aa (ac 0)<|aa (ac 1)<|aa (ac 2)<|aa (ai bc (ac 3) ¬1)<|aa (¬5) af)<|ag 8) (zk w Yl Yk y)
def yA(w:Ad)(Yl Yk:Sd)(y:DX):ar:=ah (aq (ai av (ac 5)<|am<|aj (aZ w) y 2<|aa (ac 0)<|aa (bg bV<|aa (ac 5) af) af)<|ag 7) (Bp w Yl Yk y)
def Aj(w:Ad)(Yl Yk:Sd)(y:DX):ar:=ah (aq (ac 1)<|cX 3<|aL (ag 4)<|aL (ag 5)<|aL (ag 6) cO) (yA w Yl Yk y)
def Ac(w:Ad)(Yl Yk:Sd)(y:DX):ar:=aq (ai bc (ac 5)<|am<|aj Yl y 4<|aa (ac 0)<|aa (ac 1)<|aa (ac 2)<|aa (ac 3) af) (ag 5)
def zH(w:Ad)(Yl Yk:Sd)(y:DX):ar:=ah (aq (ai mK (ai av (ac 2) ¬0) ¬4)<|cH (ac 2) ¬0) (Ac w Yl Yk y)
def zn(w:Ad)(Yl Yk:Sd)(y:DX):ar:=bn (ko "list" bv (ac 5)<|aa (am<|aj (tQ w) y 2<|aa (ac 0)<|aa (ac 1) af) af)
def y0(w:Ad)(Yl Yk:Sd)(y:DX):ar:=ah (aq (ai mK (ai av (ac 2) ¬0) ¬1)<|cH (ac 2) ¬0) (zn w Yl Yk y)
def AB(w:Ad)(Yl Yk:Sd)(y:DX):ar:=aG (al<|ai Jo (ai av (ac 2) ¬0) ¬0) (y0 w Yl Yk y) aB
def zG(w:Ad)(Yl Yk:Sd)(y:DX):ar:=aG (oz (al<|ai Jo (ai av (ac 2) ¬0) ¬4)<|oz (al<|ai CU (ac 3) ¬4)<|al<|ai bM (am<|aj (aZ w) y 2<|aa (ac 0)<|aa (¬4) af) ¬0) (zH w Yl Yk y) (AB w Yl Yk y)
def BJ(w:Ad)(Yl Yk:Sd)(y:DX):ar:=ah (eA (eh<|aa (am<|aj (aZ w) y 2<|aa (ac 0)<|aa (ac 4) af) af) (ag 6)<|zG w Yl Yk y) (az<|bg bG<|aa (ac 5) af)
def AC(w:Ad)(Yl Yk:Sd)(y:DX):ar:=ah (aq (bL af)<|ag 5) (BJ w Yl Yk y)
mutual
def Yl(ad:Ad):Nat->Sd
 |0=>λ_ _ _ _=>False
 |n+1=>aI ["pot","told","room","deep","m","names","many","x","first","way","y"] (Aj ad (Yl ad n)<|Yk ad n)
def Yk(ad:Ad):Nat->Sd
 |0=>λ_ _ _ _=>False
 |n+1=>aI ["pot","told","room","deep","most","rows","k"] (AC ad (Yl ad n)<|Yk ad n)
end
theorem Ri{n:Nat}:Yl ad (n+1) [b,a,e,c] M Q E=Aj ad (Yl ad n) (Yk ad n) (aJ E) Q⁻¹ [ap b,ap a,ap e,ap c,bb,bb,bb,bb,bb,bb,bb] M:=rfl
theorem Q1{n:Nat}:Yk ad (n+1) [c,b,f,a,e] M Q E=AC ad (Yl ad n) (Yk ad n) (aJ E) Q⁻¹ [ap c,ap b,ap f,ap a,ap e,bb,bb] M:=rfl
def zU(w:Ad)(y:DX):ar:=az (aT<|aa (ac 2)<|aa (ac 3)<|aa (ac 4)<|aa (ac 5)<|aa (ai av (ac 3)<|am<|aj (aZ w) y 2<|aa (ac 0)<|aa (bg bV<|aa (ac 3) af) af) af)
def BP(w:Ad)(y:DX):ar:=ah (aq (am<|aj (Yk w 24) y 5<|aa (ac 0)<|aa (aT<|aa (ac 2)<|aa (ac 3)<|aa (ac 4) af)<|aa (bL<|aa (ac 1) af)<|aa (¬0)<|aa (ai av (am<|bL<|aa (¬6)<|aa (¬12)<|aa (¬30) af)<|am<|aj (aZ w) y 2<|aa (ac 0)<|aa (¬3) af) af)<|ag 5) (zU w y)
def AF(w:Ad)(y:DX):ar:=ah (aq (ai av (am<|bL<|aa (¬0)<|aa (ai bc (¬1)<|am<|aj (aZ w) y 2<|aa (ac 0)<|aa (¬4) af)<|aa (am<|aj (aZ w) y 2<|aa (ac 0)<|aa (¬41) af) af)<|am<|aj (aZ w) y 2<|aa (ac 0)<|aa (¬3) af)<|ag 4) (BP w y)
def B3(w:Ad)(y:DX):ar:=ah (aq (am<|aj (yP w) y 2<|aa (ac 0)<|aa (ai bc (¬1)<|am<|aj (aZ w) y 2<|aa (ac 0)<|aa (ai av (am<|bL<|aa (¬3)<|aa (¬5)<|aa (¬12) af)<|am<|aj (aZ w) y 2<|aa (ac 0)<|aa (¬3) af) af) af)<|ag 3) (AF w y)
def B8(w:Ad)(y:DX):ar:=ah (aq (ai av (am<|bL<|aa (¬2)<|aa (¬3)<|aa (ai bc (¬2)<|am<|aj (aZ w) y 2<|aa (ac 0)<|aa (¬9) af)<|aa (ai bc (¬2)<|am<|aj (aZ w) y 2<|aa (ac 0)<|aa (¬996) af) af)<|am<|aj (aZ w) y 2<|aa (ac 0)<|aa (¬4) af)<|ag 2) (B3 w y)
def AS(ad:Ad):Sd:=aI ["pot","most","m","names","many","rows"] (B8 ad)
theorem Q7:AS ad [b,a] M Q E=B8 ad (aJ E) Q⁻¹ [ap b,ap a,bb,bb,bb,bb] M:=rfl
def Br(w:Ad)(y:DX):ar:=az (aT<|aa (ac 2)<|aa (bg bG<|aa (am<|aO (eh<|aa (ai av (ac 1) ¬2) af) ["k"] [0,1] (ag 0) dg<|am<|aj (aZ w) kC 2<|aa (ac 1)<|aa (ai av (ac 2) ¬0) af) af) af)
def DM(w:Ad)(y:DX):ar:=ah (aq (bg bG<|aa (am<|aO (bQ<|ai av (ac 1) ¬1) ["name"] [0,1] (ag 0) dg<|am<|aj (aZ w) kC 2<|aa (ac 1)<|aa (ai av (ac 2) ¬0) af) af)<|ag 2) (Br w y)
def yy(ad:Ad):Sd:=aI ["pot","plan","numbers"] (DM ad)
theorem u_q18:yy ad [b,a] M Q E=DM ad (aJ E) Q⁻¹ [ap b,ap a,bb] M:=rfl
def zu(w:Ad)(y:DX):ar:=az (ai av (ac 3)<|ai fK (ai av (ac 2)<|ai av (ac 1) ¬2)<|bg bV<|aa (ac 3) af)
def z_(w:Ad)(y:DX):ar:=az (ai fK (am<|ai bc (ac 7)<|ac 8)<|ac 6)
def y6(w:Ad)(y:DX):ar:=az (kI (al<|ai CU (ac 7)<|ac 8) (¬1) ¬0)
def yh(w:Ad)(y:DX):ar:=az (kI (al<|ai bM (ac 7)<|ac 8) (¬1) ¬0)
def zM(w:Ad)(y:DX):ar:=ah (aG (al<|ai bM (ai av (ac 1) ¬0) ¬"less") (y6 w y) aB) (yh w y)
def yi(w:Ad)(y:DX):ar:=ah (aG (al<|ai bM (ai av (ac 1) ¬0) ¬"by") (az<|ai fK (ai iU (ac 7)<|ac 8)<|ac 6) aB) (zM w y)
def AN(w:Ad)(y:DX):ar:=ah (aG (al<|ai bM (ai av (ac 1) ¬0) ¬"sum") (z_ w y) aB) (yi w y)
def z7(w:Ad)(y:DX):ar:=ah (aq (ai av (ac 2)<|ai av (ac 1) ¬3)<|ag 8) (AN w y)
def zy(w:Ad)(y:DX):ar:=ah (aq (ai av (ac 2)<|ai av (ac 1) ¬2)<|ag 7) (z7 w y)
def uA(w:Ad)(y:DX):ar:=ah (aG (al<|ai bM (ai av (ac 1) ¬0) ¬"pick") (zu w y) aB) (zy w y)
def uJ(w:Ad)(y:DX):ar:=ah (aG (al<|ai bM (ai av (ac 1) ¬0) ¬"take") (az<|ai av (ac 3)<|ai av (ac 1) ¬2) aB) (uA w y)
def uM(w:Ad)(y:DX):ar:=ah (aG (al<|ai bM (ai av (ac 1) ¬0) ¬"put") (az<|ai av (ac 1) ¬2) aB) (uJ w y)
def nL(w:Ad)(y:DX):ar:=ah (aq (ac 0)<|wH 5<|aL (ag 2)<|aL (ag 3)<|aL (ag 4)<|aL (ag 5)<|aL (ag 6) cO) (uM w y)
def uu(ad:Ad):Sd:=aI ["gone","row","numbers","pieces","steps","most","m","one","other"] (nL ad)
theorem zB:uu ad [b,a] M Q E=nL ad (aJ E) Q⁻¹ [ap b,ap a,bb,bb,bb,bb,bb,bb,bb] M:=rfl
def Ax(w:Ad)(y:DX):ar:=ah (bn<|ko "list" bv (ai av (ac 0) ¬2)<|aa (aT<|aa (ac 1)<|aa (ac 2) af) af) (az<|dC<|.bl true)
def Bn(w:Ad)(y:DX):ar:=ah (aG (al<|ai bM (bg bV<|aa (ai av (ac 0) ¬2) af)<|ai av (ac 0) ¬3) (az<|dC<|.bl cp) aB) (Ax w y)
def jw(ad:Ad):Sd:=aI ["gone","place","number"] (Bn ad)
theorem QH:jw ad [b,a,c] M Q E=Bn ad (aJ E) Q⁻¹ [ap b,ap a,ap c] M:=rfl
def rG(w:Ad)(Yn Yj:Sd)(y:DX):ar:=aG (gc<|cB<|am<|aj Yj y 3<|aa (ac 0)<|aa (ai av (ac 1) ¬2)<|aa (ai bc (ac 2)<|aT<|aa (ac 3) af) af) (az<|dC<|.bl cp) aB
def qx(w:Ad)(Yn Yj:Sd)(y:DX):ar:=ah (aG (al<|ai bM (ac 4) ¬0) (az<|dC<|.bl true) aB) (rG w Yn Yj y)
def qC(w:Ad)(Yn Yj:Sd)(y:DX):ar:=ah (aG (gc<|cB<|am<|aj (jw w) y 3<|aa (ac 0)<|aa (ai bc (ac 2)<|aT<|aa (ac 3) af)<|aa (ac 4) af) (az<|dC<|.bl cp) aB) (qx w Yn Yj y)
def ig(w:Ad)(Yn Yj:Sd)(y:DX):ar:=ah (aq (kI (al<|ai bM (ai av (ai av (ac 0) ¬0)<|ai av (ac 1) ¬1) ¬0) (¬0) ¬1)<|ag 4) (qC w Yn Yj y)
def yw(w:Ad)(Yn Yj:Sd)(y:DX):ar:=ah (eA (eh<|aa (ai bc (ai av (ac 0) ¬3) ¬1) af) (ag 3)<|ig w Yn Yj y) (az<|dC<|.bl cp)
def r8(w:Ad)(Yn Yj:Sd)(y:DX):ar:=aG (gc<|cB<|am<|aj Yn y 3<|aa (ac 0)<|aa (ac 4)<|aa (ac 5) af) (az<|dC<|.bl cp) aB
def qA(w:Ad)(Yn Yj:Sd)(y:DX):ar:=aG (P8 (gc<|cB<|am<|aj (jw w) y 3<|aa (ac 0)<|aa (ac 5)<|aa (ac 6) af)<|gc<|cB<|am<|aj Yj y 3<|aa (ac 0)<|aa (ac 7)<|aa (ai bc (ac 5)<|aT<|aa (ac 6) af) af) (az<|dC<|.bl cp) aB
def sh(w:Ad)(Yn Yj:Sd)(y:DX):ar:=ah (aq (ai av (am<|bL<|aa (ai av (ac 4) ¬3)<|aa (ai av (ac 4) ¬2) af)<|ac 6)<|ag 7) (qA w Yn Yj y)
def la(w:Ad)(Yn Yj:Sd)(y:DX):ar:=ah (aq (kI (al<|ai bM (ai av (ai av (ac 0) ¬0)<|ai av (ac 4) ¬1) ¬0) (¬0) ¬1)<|ag 6) (sh w Yn Yj y)
def ze(w:Ad)(Yn Yj:Sd)(y:DX):ar:=aq (ac 8) (cH (ai av (ac 0) ¬0)<|ai av (ac 4) ¬1)
def lj(w:Ad)(Yn Yj:Sd)(y:DX):ar:=ah (aG (gc<|cB<|am<|aj (jw w) y 3<|aa (ac 0)<|aa (ac 5)<|aa (ac 8) af) (az<|dC<|.bl cp) aB) (ze w Yn Yj y)
def li(w:Ad)(Yn Yj:Sd)(y:DX):ar:=ah (aq (am<|aj (uu w) y 2<|aa (ac 0)<|aa (ac 4) af)<|ag 8) (lj w Yn Yj y)
def kh(w:Ad)(Yn Yj:Sd)(y:DX):ar:=aG (al<|ai bM (ai av (ac 4) ¬0) ¬"if") (la w Yn Yj y) (li w Yn Yj y)
def qK(w:Ad)(Yn Yj:Sd)(y:DX):ar:=aG (al<|ai bM (ai av (ac 4) ¬0) ¬"again") (r8 w Yn Yj y) (kh w Yn Yj y)
def lK(w:Ad)(Yn Yj:Sd)(y:DX):ar:=ah (aq (ai bc (ac 2)<|aT<|aa (ac 3) af)<|ag 5) (qK w Yn Yj y)
def B4(w:Ad)(Yn Yj:Sd)(y:DX):ar:=ah (eA (oX<|aa (ac 1) af) (cX 2<|aL (ag 3)<|aL (ag 4) cO)<|lK w Yn Yj y) (az<|dC<|.bl true)
mutual
def Yn(ad:Ad):Nat->Sd
 |0=>λ_ _ _ _=>False
 |n+1=>aI ["gone","row","place","turn","look"] (yw ad (Yn ad n)<|Yj ad n)
def Yj(ad:Ad):Nat->Sd
 |0=>λ_ _ _ _=>False
 |n+1=>aI ["gone","rows","place","at","row","here","look","inner","number"] (B4 ad (Yn ad n)<|Yj ad n)
end
theorem QE{n:Nat}:Yn ad (n+1) [b,a,c] M Q E=yw ad (Yn ad n) (Yj ad n) (aJ E) Q⁻¹ [ap b,ap a,ap c,bb,bb] M:=rfl
theorem Q9{n:Nat}:Yj ad (n+1) [b,a,c] M Q E=B4 ad (Yn ad n) (Yj ad n) (aJ E) Q⁻¹ [ap b,ap a,ap c,bb,bb,bb,bb,bb,bb] M:=rfl
def zV(w:Ad)(y:DX):ar:=az (aT<|aa (ai av (ac 3) ¬2)<|aa (dC .non) af)
def Ao(w:Ad)(y:DX):ar:=az (aT<|aa (ai av (ac 3) ¬2)<|aa (bg bG<|aa (am<|aO (bQ<|ai av (ac 0) ¬1) ["name"] [3] (ag 0) dg<|ai av (ai av (ac 1) ¬0)<|ac 0) af) af)
def zN(w:Ad)(y:DX):ar:=ah (aG (gc<|cB<|am<|aj (Yj w 24) y 3<|aa (ac 3)<|aa (ai av (ac 0) ¬3)<|aa (aT af) af) (zV w y) aB) (Ao w y)
def yX(w:Ad)(y:DX):ar:=ah (aq (bL<|aa (fX<|aa (ai av (ac 0) ¬1)<|aa (ai av (ac 1) ¬0) af)<|aa (ai av (ac 1) ¬1)<|aa (bL af)<|aa (ac 2)<|aa (ai av (ac 0) ¬0) af)<|ag 3) (zN w y)
def nM(ad:Ad):Sd:=aI ["plan","stand","most","gone"] (yX ad)
theorem Rc:nM ad [b,a,c] M Q E=yX ad (aJ E) Q⁻¹ [ap b,ap a,ap c,bb] M:=rfl
def Fe(w:Ad)(y:DX):ar:=az (bg bG<|aa (am<|aO (bQ<|ac 0) ["row"] [] (ag 0) (al<|ai xj (ai av (ac 0) ¬0)<|am<|bL<|aa (¬"if")<|aa (¬"again") af)<|ac 0) af)
def vg(ad:Ad):Sd:=aI ["rows"] (Fe ad)
theorem S6:vg ad [a] M Q E=Fe ad (aJ E) Q⁻¹ [ap a] M:=rfl
def rL(w:Ad)(y:DX):ar:=az (aT<|aa (ai av (ai av (ac 4) ¬0)<|ac 5)<|aa (ai av (ai av (ac 4) ¬1)<|ac 5) af)
def kF(w:Ad)(y:DX):ar:=ah (aq (Hn hZ (ai av (ac 0) ¬1)<|aa (ai av (ac 0) ¬4) af)<|ag 5) (rL w y)
def lb(w:Ad)(y:DX):ar:=ah (aG (al<|ai tW (dC .non)<|ac 4) (az<|dC .non) aB) (kF w y)
def ym(w:Ad)(y:DX):ar:=ah (bU (cV 4<|aO (bQ<|am<|bL<|aa (ac 1)<|aa (ac 2) af) ["stand"] [0,3] (ag 0) dg<|ai av (pG<|aj (nM w) kC 3<|aa (ac 1)<|aa (ac 0)<|aa (ac 2) af) ¬1) 4) (lb w y)
def lW(ad:Ad):Sd:=aI ["plan","sound","faulty","most","last","at"] (ym ad)
theorem Sr:lW ad [b,a,e,c] M Q E=ym ad (aJ E) Q⁻¹ [ap b,ap a,ap e,ap c,bb,bb] M:=rfl
def zf(w:Ad)(y:DX):ar:=az (ai fK (am<|ai bc (ai bc (ac 2) ¬1)<|am<|aj (aZ w) y 2<|aa (ac 0)<|aa (ai mK (ac 1) ¬1) af)<|ac 1)
def nq(ad:Ad):Sd:=aI ["pot","m","number"] (zf ad)
theorem Sg:nq ad [b,a,c] M Q E=zf ad (aJ E) Q⁻¹ [ap b,ap a,ap c] M:=rfl
def jZ(w:Ad)(y:DX):ar:=aq (ai bc (am<|CK (ac 0) ci<|dQ ¬3)<|aT<|aa (ai bc (ac 5)<|aT<|aa (ac 7) af)<|aa (ai av (ac 0) ¬4) af) (ag 0)
def kU(w:Ad)(y:DX):ar:=ah (aq (aT<|aa (¬"sum")<|aa (ai av (ac 0) ¬4)<|aa (ai av (ac 0) ¬4)<|aa (ac 4) af)<|ag 7) (jZ w y)
def k7(w:Ad)(y:DX):ar:=ah (aG (al<|ai bM (ai av (ac 6) ¬0)<|ai av (ac 6) ¬1) (kU w y) aB) (az<|ac 0)
def kx(w:Ad)(y:DX):ar:=ah (aq (am<|aj (lW w) y 4<|aa (ac 0)<|aa (ac 1)<|aa (ac 2)<|aa (ac 3) af)<|ag 6) (k7 w y)
def ki(w:Ad)(y:DX):ar:=ah (aq (ai bc (am<|CK (ac 0) ci<|dQ ¬3)<|aT<|aa (ac 5)<|aa (ai av (ac 0) ¬4) af)<|ag 0) (kx w y)
def zo(w:Ad)(y:DX):ar:=ah (aq (bg bG<|aa (am<|aO (bQ<|am<|aj (vg w) y 1<|aa (ai av (ac 0) ¬3) af) ["row"] [4] (ag 0) (al<|ai sS (ai av (ac 0) ¬1)<|ac 1)<|ac 0) af)<|ag 5) (ki w y)
def zx(ad:Ad):Sd:=aI ["plan","sound","faulty","most","name","rows","both","more"] (zo ad)
theorem RU:zx ad [c,b,f,a,e] M Q E=zo ad (aJ E) Q⁻¹ [ap c,ap b,ap f,ap a,ap e,bb,bb,bb] M:=rfl
def s_(w:Ad)(y:DX):ar:=aq (aT<|aa (aT<|aa (¬"take")<|aa (ai av (ac 2) ¬0)<|aa (¬0) af)<|aa (aT<|aa (¬"sum")<|aa (ai av (ac 0) ¬4)<|aa (ai av (ac 0) ¬4)<|aa (ai av (ac 2) ¬0) af) af) (ag 1)
def oa(w:Ad)(y:DX):ar:=az (ai bc (am<|CK (ac 0) ci<|dQ ¬3)<|aT<|aa (am<|ai bc (ai av (ac 0) ¬3)<|ac 1)<|aa (ai av (ac 0) ¬4) af)
def qT(w:Ad)(y:DX):ar:=ah (aG (al<|ai sS (ac 2)<|am<|bL af) (s_ w y) aB) (oa w y)
def rT(w:Ad)(y:DX):ar:=ah (bU (cV 2<|aO (bQ<|ai av (ac 0) ¬1) ["one"] [0] (ag 0) (al<|ai sS (ac 0)<|ai av (ac 1) ¬4)<|ac 0) 2) (qT w y)
def JI(w:Ad)(y:DX):ar:=ah (aq (aT<|aa (aT<|aa (¬"take")<|aa (ai av (ac 0) ¬4)<|aa (¬0) af) af)<|ag 1) (rT w y)
def J3(ad:Ad):Sd:=aI ["plan","more","rest"] (JI ad)
theorem u_q8:J3 ad [a] M Q E=JI ad (aJ E) Q⁻¹ [ap a,bb,bb] M:=rfl
def sU(w:Ad)(y:DX):ar:=aq (am<|aj (nq w) y 3<|aa (ac 0)<|aa (ai av (ac 3) ¬0)<|aa (ai av (ac 5)<|ac 7) af) (cH (ac 5)<|ac 7)
def sJ(w:Ad)(y:DX):ar:=aq (am<|ai bc (ac 8)<|bg Hh<|aa (bg bV<|aa (ac 6) af)<|aa (ai iU (¬2)<|ac 2) af) (ag 8)
def qy(w:Ad)(y:DX):ar:=ah (aq (am<|aj (nq w) y 3<|aa (ac 0)<|aa (ai av (ac 3) ¬0)<|aa (ai av (ac 6) ¬0) af)<|cH (ac 6) ¬0) (sJ w y)
def sk(w:Ad)(y:DX):ar:=aq (am<|aj (nq w) y 3<|aa (ac 0)<|aa (ai av (ac 3) ¬0)<|aa (ai av (ai av (ac 4) ¬0)<|ac 10) af) (cH (ac 5)<|ac 10)
def sV(w:Ad)(y:DX):ar:=aq (am<|aj (nq w) y 3<|aa (ac 0)<|aa (ai av (ac 3) ¬0)<|aa (ai av (ai av (ac 4) ¬1)<|ac 10) af) (cH (ac 6)<|ac 10)
def qU(w:Ad)(y:DX):ar:=ah (aq (ai mK (ac 10)<|bg bV<|aa (ac 5) af)<|ag 10) (sV w y)
def rY(w:Ad)(y:DX):ar:=aG (al<|ai CU (ac 10)<|bg bV<|aa (ac 5) af) (sk w y) (qU w y)
def rV(w:Ad)(y:DX):ar:=ah (aq (am<|aj (aZ w) y 2<|aa (ac 0)<|aa (ac 8) af)<|ag 10) (rY w y)
def qQ(w:Ad)(y:DX):ar:=aq (ai bc (am<|CK (ac 3) ci<|dQ ¬3)<|aT<|aa (am<|aj (vg w) y 1<|aa (ai av (ac 3) ¬3) af)<|aa (ai av (ac 3) ¬4) af) (ag 3)
def md(w:Ad)(y:DX):ar:=aq (am<|aj (zx w) y 5<|aa (ac 3)<|aa (ac 4)<|aa (ac 11)<|aa (ac 12)<|aa (ai av (ai av (ac 3) ¬1)<|ac 7) af) (ag 3)
def vD(w:Ad)(y:DX):ar:=aq (am<|aj (J3 w) y 1<|aa (ac 3) af) (ag 3)
def ie(w:Ad)(y:DX):ar:=aG (al<|ai CU (ac 7)<|bg bV<|aa (ac 5) af) (md w y) (vD w y)
def iP(w:Ad)(y:DX):ar:=az (aT<|aa (ac 3)<|aa (ac 4)<|aa (ac 11)<|aa (ac 12) af)
def ng(w:Ad)(y:DX):ar:=ah (aG (al<|ai bM (ai av (ac 13) ¬0)<|ai av (ac 13) ¬1) (ie w y) aB) (iP w y)
def iB(w:Ad)(y:DX):ar:=ah (aq (am<|aj (lW w) y 4<|aa (ac 3)<|aa (ac 4)<|aa (ac 11)<|aa (ac 12) af)<|ag 13) (ng w y)
def iL(w:Ad)(y:DX):ar:=ah (aG (al<|ai jT (am<|aj (lW w) y 4<|aa (ac 3)<|aa (ac 4)<|aa (ac 11)<|aa (ai mK (ac 12) ¬4) af)<|dC .non) (qQ w y) aB) (iB w y)
def lB(w:Ad)(y:DX):ar:=ah (aq (ai bc (¬30)<|am<|aj (aZ w) y 2<|aa (ac 0)<|aa (¬20) af)<|ag 12) (iL w y)
def mj(w:Ad)(y:DX):ar:=ah (aq (aT<|aa (bg bG<|aa (ac 5) af)<|aa (bg bG<|aa (ac 6) af) af)<|ag 11) (lB w y)
def iO(w:Ad)(y:DX):ar:=ah (eA (eh<|aa (ai mK (ac 2) ¬1) af) (ag 9)<|rV w y) (mj w y)
def nR(w:Ad)(y:DX):ar:=ah (aG (al<|ai CU (ac 7)<|bg bV<|aa (ac 5) af) (sU w y)<|qy w y) (iO w y)
def lF(w:Ad)(y:DX):ar:=ah (aq (bg bV<|aa (ac 5) af)<|ag 8) (nR w y)
def m9(w:Ad)(y:DX):ar:=ah (aq (am<|aj (aZ w) y 2<|aa (ac 0)<|aa (ai iU (¬4)<|bg bV<|aa (ac 5) af) af)<|ag 7) (lF w y)
def mv(w:Ad)(y:DX):ar:=ah (aq (bg dW<|aa (ai av (ac 4) ¬1) af)<|ag 6) (m9 w y)
def nA(w:Ad)(y:DX):ar:=ah (aq (bg dW<|aa (ai av (ac 4) ¬0) af)<|ag 5) (mv w y)
def nr(w:Ad)(y:DX):ar:=ah (aq (am<|aj (yy w) y 2<|aa (ac 0)<|aa (ac 3) af)<|ag 4) (nA w y)
def mS(w:Ad)(y:DX):ar:=ah (aq (am<|ai bc (ai bc (am<|CK (ac 3) ci<|dQ ¬2)<|aT<|aa (bg IV<|aa (¬1)<|aa (ai av (ac 3) ¬2) af) af)<|am<|CK (ac 3) (dQ ¬3) ci)<|ag 3) (nr w y)
def A1(w:Ad)(y:DX):ar:=ah (aq (am<|aj (AS w) y 2<|aa (ac 0)<|aa (ac 1) af)<|ag 3) (mS w y)
def BM(ad:Ad):Sd:=aI ["pot","most_rows","few","plan","sound","numbers","pieces","first","some","k","at","faulty","most","both"] (A1 ad)
theorem QZ:BM ad [b,a,c] M Q E=A1 ad (aJ E) Q⁻¹ [ap b,ap a,ap c,bb,bb,bb,bb,bb,bb,bb,bb,bb,bb,bb] M:=rfl
def qf(w:Ad)(y:DX):ar:=az (ai bc (ac 5)<|am<|aO (eh<|aa (ai av (ac 1) ¬2) af) ["k"] [2,3] (ag 0) (al<|ai sS (ai av (ai av (ac 1) ¬1)<|ac 0)<|ai av (ai av (ac 2) ¬1)<|ac 0)<|ac 0)
def qj(w:Ad)(y:DX):ar:=ah (bU (cV 5<|aO (tN<|aa (ai av (ac 1) ¬1)<|aa (ai av (ac 2) ¬0)<|aa (ai av (ac 3) ¬0) af) ["name","one","other"] [] (cX 3<|aL (ag 0)<|aL (ag 1)<|aL (ag 2) cO) (al<|ai sS (ac 1)<|ac 2)<|ac 0) 5) (qf w y)
def yD(w:Ad)(y:DX):ar:=ah (aq (ac 0)<|cX 4<|aL (ag 1)<|aL (ag 2)<|aL (ag 3)<|aL (ag 4) cO) (qj w y)
def vt(ad:Ad):Sd:=aI ["case","plan","sound","faulty","most","found"] (yD ad)
theorem Q4:vt ad [a] M Q E=yD ad (aJ E) Q⁻¹ [ap a,bb,bb,bb,bb,bb] M:=rfl
def ik(w:Ad)(y:DX):ar:=bn (ko "list" bv (ac 6)<|aa (kI (al<|ai tW (ac 7)<|ac 1) (ac 9)<|ac 8) af)
def sY(w:Ad)(y:DX):ar:=az (aT<|aa (bg bG<|aa (ac 6) af)<|aa (bg bG<|aa (ac 10) af) af)
def tz(w:Ad)(y:DX):ar:=ah (bU (cV 10<|aO (eh<|aa (ai av (ac 2) ¬2) af) ["k"] [3,1,4] (ag 0) dg<|kI (al<|ai tW (ac 0)<|ac 2) (ai av (ai av (ac 3) ¬1)<|ac 0)<|ai av (ai av (ac 1) ¬1)<|ac 0) 10) (sY w y)
def qv(w:Ad)(y:DX):ar:=ah (eA (tN<|aa (ai av (ac 2) ¬1)<|aa (ai av (ac 3) ¬0)<|aa (ai av (ac 4) ¬0) af) (cX 3<|aL (ag 7)<|aL (ag 8)<|aL (ag 9) cO)<|ik w y) (tz w y)
def yb(w:Ad)(y:DX):ar:=ah (aq (ac 0)<|cX 4<|aL (ag 2)<|aL (ag 3)<|aL (ag 4)<|aL (ag 5) cO) (ah (aq (bL af)<|ag 6)<|qv w y)
def BX(ad:Ad):Sd:=aI ["case","mix","plan","sound","faulty","most","numbers","name","one","other","pieces"] (yb ad)
theorem RN:BX ad [b,a] M Q E=yb ad (aJ E) Q⁻¹ [ap b,ap a,bb,bb,bb,bb,bb,bb,bb,bb,bb] M:=rfl
def kR(w:Ad)(y:DX):ar:=aq (am<|ai bc (ac 1)<|am<|aO (bQ<|ac 1) ["one"] [2] (ag 0) dg<|am<|ai bc (ac 0)<|am<|bL<|aa (ac 1) af) (ag 1)
def zh(w:Ad)(y:DX):ar:=ah (eA (eh<|aa (ac 0) af) (ag 2)<|kR w y) (az<|ac 1)
def FQ(w:Ad)(y:DX):ar:=ah (aq (am<|bL<|aa (am<|bL af) af)<|ag 1) (zh w y)
def AU(ad:Ad):Sd:=aI ["many","found","k"] (FQ ad)
theorem u_q14:AU ad [a] M Q E=FQ ad (aJ E) Q⁻¹ [ap a,bb,bb] M:=rfl
def sD(w:Ad)(y:DX):ar:=aq (ai av (am<|bL<|aa (¬"sound")<|aa (¬"faulty") af)<|Hn iu (ac 7)<|aa (ai av (ac 10)<|ac 6) af) (ag 11)
def nH(w:Ad)(y:DX):ar:=aq (ac 11) (cH (ac 8)<|bg bG<|aa (ac 9) af)
def xR(w:Ad)(y:DX):ar:=ah (aG (oz (al<|ai eQ (ac 10)<|dC .non)<|al<|ai tW (ai av (ac 10)<|ac 6)<|ac 7) (sD w y) aB) (nH w y)
def wc(w:Ad)(y:DX):ar:=ah (aq (¬"other")<|ag 11) (xR w y)
def j6(w:Ad)(y:DX):ar:=ah (aq (ai av (pG<|aj (nM w) y 3<|aa (ac 1)<|aa (am<|aj (BX w) y 2<|aa (ac 0)<|aa (am<|aO (bQ<|ac 9) ["k"] [5] (ag 0) dg<|ai av (ac 1)<|ac 0) af)<|aa (ac 4) af) ¬1)<|ag 10) (wc w y)
def Ec(w:Ad)(y:DX):ar:=ah (eA (bQ<|am<|aj (AU w) y 1<|aa (bg bV<|aa (ac 5) af) af) (ag 9)<|j6 w y) (az<|ac 8)
def GO(w:Ad)(y:DX):ar:=ah (aq (am<|aj (lW w) y 4<|aa (ac 1)<|aa (ac 2)<|aa (ac 3)<|aa (ac 4) af)<|ag 7) (ah (aq KL<|ag 8)<|Ec w y)
def wA(w:Ad)(y:DX):ar:=ah (aq (Hn hZ (ai av (ac 1) ¬1)<|aa (ai av (ac 1) ¬4) af)<|ag 6) (GO w y)
def He(w:Ad)(y:DX):ar:=ah (aq (am<|aj (vt w) y 1<|aa (ac 0) af)<|ag 5) (wA w y)
def NC(w:Ad)(y:DX):ar:=ah (aq (ac 0)<|cX 4<|aL (ag 1)<|aL (ag 2)<|aL (ag 3)<|aL (ag 4) cO) (He w y)
def JN(ad:Ad):Sd:=aI ["case","plan","sound","faulty","most","some","at","both","found","numbers","end","word"] (NC ad)
theorem u_q4:JN ad [a] M Q E=NC ad (aJ E) Q⁻¹ [ap a,bb,bb,bb,bb,bb,bb,bb,bb,bb,bb,bb] M:=rfl
def lq(w:Ad)(y:DX):ar:=az (aO (bQ<|ac 1) ["one"] [2] (ag 0) dg<|am<|aO (bQ<|ac 0) ["k"] [1] (ag 0) dg<|ai av (ac 1)<|ac 0)
def zI(w:Ad)(y:DX):ar:=ah (aq (am<|aj (vt w) y 1<|aa (ac 0) af)<|ag 2) (lq w y)
def Ah(ad:Ad):Sd:=aI ["case","lists","some"] (zI ad)
theorem RQ:Ah ad [b,a] M Q E=zI ad (aJ E) Q⁻¹ [ap b,ap a,bb] M:=rfl
def yc(w:Ad)(Yr:Sd)(y:DX):ar:=az (lV (bg dw<|aa (ac 0)<|aa (dC<|.ty "bool") af)<|ai bM (ac 0)<|ac 1)
def BO(w:Ad)(Yr:Sd)(y:DX):ar:=az (lV (bg dw<|aa (ac 0)<|aa (dC<|.ty "int") af)<|lV (Lc<|bg dw<|aa (ac 0)<|aa (dC<|.ty "bool") af)<|ai bM (ac 0)<|ac 1)
def By(w:Ad)(Yr:Sd)(y:DX):ar:=az (lV (bg dw<|aa (ac 0)<|aa (dC<|.ty "str") af)<|ai bM (ac 0)<|ac 1)
def zQ(w:Ad)(Yr:Sd)(y:DX):ar:=az (bg O5<|aa (am<|aO (RB<|aa (ac 0)<|aa (ac 1) af) ["one","other"] [] (cX 2<|aL (ag 0)<|aL (ag 1) cO) dg<|am<|aj Yr kC 2<|aa (ac 0)<|aa (ac 1) af) af)
def BR(w:Ad)(Yr:Sd)(y:DX):ar:=ah (aG (al<|ai sS (bg bV<|aa (ac 0) af)<|bg bV<|aa (ac 1) af) (az<|dC<|.bl cp) aB) (zQ w Yr y)
def yY(w:Ad)(Yr:Sd)(y:DX):ar:=ah (aG (P8 (al<|ai sS (bg dw<|aa (ac 1)<|aa (dC<|.ty "tuple") af)<|bg dw<|aa (ac 0)<|aa (dC<|.ty "tuple") af)<|al<|ai sS (bg dw<|aa (ac 1)<|aa (dC<|.ty "list") af)<|bg dw<|aa (ac 0)<|aa (dC<|.ty "list") af) (az<|dC<|.bl cp) aB) (BR w Yr y)
def AK(w:Ad)(Yr:Sd)(y:DX):ar:=ah (aG (cB<|bg dw<|aa (ac 1)<|aa (dC<|.ty "str") af) (By w Yr y) aB) (yY w Yr y)
def Ae(w:Ad)(Yr:Sd)(y:DX):ar:=ah (aG (cB<|bg dw<|aa (ac 1)<|aa (dC<|.ty "int") af) (BO w Yr y) aB) (AK w Yr y)
def B2(w:Ad)(Yr:Sd)(y:DX):ar:=ah (aG (cB<|bg dw<|aa (ac 1)<|aa (dC<|.ty "bool") af) (yc w Yr y) aB) (Ae w Yr y)
def gL(w:Ad)(Yr:Sd)(y:DX):ar:=ah (aG (al<|ai jT (ac 1)<|dC .non) (az<|ai jT (ac 0)<|dC .non) aB) (B2 w Yr y)
def Yr(ad:Ad):Nat->Sd
 |0=>λ_ _ _ _=>False
 |n+1=>aI ["found","due"] (gL ad<|Yr ad n)
theorem mM{n:Nat}:Yr ad (n+1) [b,a] M Q E=gL ad (Yr ad n) (aJ E) Q⁻¹ [ap b,ap a] M:=rfl
def kW(w:Ad)(y:DX):ar:=az (lV (am<|aj (Yr w 24) y 2<|aa (am<|aj (p_ w) y 2<|aa (ac 2)<|aa (¬64) af)<|aa (ac 7) af)<|ai bM (bg iX<|aa (ac 2) af)<|ac 3)
def lc(w:Ad)(y:DX):ar:=ah (bn<|ko "list" bv (ac 8)<|aa (¬"a") af) (kW w y)
def kJ(w:Ad)(y:DX):ar:=ah (aG (gc<|cB<|am<|aj (Yr w 24) y 2<|aa (ac 8)<|aa (ac 7) af) (az<|dC<|.bl cp) aB) (lc w y)
def ly(w:Ad)(y:DX):ar:=ah (aq (wF (p_ w) y 2 (500)<|aa (ac 2) af)<|ag 8) (kJ w y)
def lg(w:Ad)(y:DX):ar:=ah (aq (ai av (am<|aj (Ah w) y 2<|aa (ac 2)<|aa (am<|bL<|aa (bg qH<|aa (am<|aO (bQ<|ac 5) ["one"] [6] (ag 0) (al<|ai bM (bg bV<|aa (ac 0) af)<|ac 1)<|ac 0) af) af) af) ¬0)<|ag 7) (ly w y)
def j_(w:Ad)(y:DX):ar:=ah (aq (bg Be<|aa (am<|aO (bQ<|ac 5) ["one"] [] (ag 0) dg<|bg bV<|aa (ac 0) af) af)<|ag 6) (lg w y)
def kg(w:Ad)(y:DX):ar:=ah (bU (cV 5<|aO (B6<|ac 4) ["one"] [4] (ag 0) (al<|ai bM (ai uB (ac 1)<|ac 0) ¬"faulty")<|am<|bg dW<|aa (ac 0) af) 5) (j_ w y)
def kG(w:Ad)(y:DX):ar:=ah (aq (Ds<|aj (JN w) y 1<|aa (ac 2) af)<|ag 4) (kg w y)
def k_(w:Ad)(y:DX):ar:=ah (aq (bg iX<|aa (ac 2) af)<|ag 3) (kG w y)
def iS(w:Ad)(y:DX):ar:=ah (aq (am<|aj (BM w) y 3<|aa (ac 1)<|aa (¬24)<|aa (ai bc (¬1)<|am<|aj (aZ w) y 2<|aa (ac 1)<|aa (¬5) af) af)<|ag 2) (k_ w y)
def Bj(w:Ad)(y:DX):ar:=ah (aq (aj (zR w) y 1<|aa (ac 0) af)<|ag 1) (iS w y)
def Ev(ad:Ad):Sd:=aI ["script","pot","case","before","verdicts","causes","few","due","found"] (Bj ad)
theorem Sc:Ev ad [a] M Q E=Bj ad (aJ E) Q⁻¹ [ap a,bb,bb,bb,bb,bb,bb,bb,bb] M:=rfl
end
set_option genInjectivity false in
structure En(P:eX)(w:f')(K:SM)(mg:aaf)(base:fy)(ad:Ad):Prop where
 u0:Cls K ad.C_Ends
 u1:mg "Ends"=ap (.ref ad.C_Ends)
 u2:Cls K ad.C_Going
 u3:mg "Going"=ap (.ref ad.C_Going)
 u4:Cls K ad.C_Outcome
 u5:mg "Outcome"=ap (.ref ad.C_Outcome)
 u6:Cls K ad.C_Walk
 u7:mg "Walk"=ap (.ref ad.C_Walk)
 u8:NoAttr K ad.C_Ends "count"
 u9:NoAttr K ad.C_Ends "limit"
 u10:NoAttr K ad.C_Going "left"
 u11:NoAttr K ad.C_Going "numbers"
 u12:NoAttr K ad.C_Going "pieces"
 u13:NoAttr K ad.C_Going "todo"
 u14:NoAttr K ad.C_Going "unsettled"
 u15:NoAttr K ad.C_Outcome "faulty"
 u16:NoAttr K ad.C_Outcome "sound"
 u17:NoAttr K ad.C_Outcome "verdict"
 u18:NoAttr K ad.C_Walk "most"
 u19:NoAttr K ad.C_Walk "numbers"
 u20:NoAttr K ad.C_Walk "pieces"
 u21:NoAttr K ad.C_Walk "plan"
 u22:NoAttr K ad.C_Walk "steps"
 u23:ExcAt K ad.C_Dry
 u24:mg "Dry"=ap (.ref ad.C_Dry)
 u25:ExcAt K ad.C_NoCase
 u26:mg "NoCase"=ap (.ref ad.C_NoCase)
 u27:ExcAt K ad.C_TooMany
 u28:mg "TooMany"=ap (.ref ad.C_TooMany)
 u29:mg "all"=bb
 u30:mg "bool"=bb
 u31:mg "dict"=bb
 u32:mg "enumerate"=bb
 u33:mg "int"=bb
 u34:mg "isinstance"=bb
 u35:mg "len"=bb
 u36:mg "list"=bb
 u37:mg "max"=bb
 u38:mg "min"=bb
 u39:mg "range"=bb
 u40:mg "repr"=bb
 u41:mg "reversed"=bb
 u42:mg "sorted"=bb
 u43:mg "str"=bb
 u44:mg "tuple"=bb
 u45:mg "zip"=bb
 f1:GI K ad.C_Walk "__init__" "Walk.__init__" Ro ad.a1 ad.d1 ["self","plan","stand","most"]
 f2:GM K ad.C_Walk "note_step" "Walk.note_step" Sf ad.a2 ad.d2 ["self","place","number"]
 f3:GM K ad.C_Walk "look" "Walk.look" LR ad.a3 ad.d3 ["self","place","name"]
 f4:GF K mg "run" LW ad.a4 ad.d4 ["plan","stand","most"]
 f5:GF K mg "mark" KR ad.a5 ad.d5 ["plan","stand","most"]
 f6:GF K mg "do_rows" KW ad.a6 ad.d6 ["walk","rows","place"]
 f7:GA K mg "do_row_runs" "do_row" K_ ad.a7 ad.d7 ["walk","row","place"]
 f8:GF K mg "do_if" Lv ad.a8 ad.d8 ["walk","row","place"]
 f9:GF K mg "do_again" KQ ad.a9 ad.d9 ["walk","row","place"]
 f10:GF K mg "number_of" Le ad.a10 ad.d10 ["plan","numbers","pieces","row"]
 f11:GF K mg "piece_read" Mb ad.a11 ad.d11 ["plan","numbers","row"]
 f12:GF K mg "joined" LV ad.a12 ad.d12 ["word","y","z","wheel"]
 f13:GF K mg "all_things" KC ad.a13 ad.d13 ["plan"]
 f14:GF K mg "in_order" LF ad.a14 ad.d14 ["plan","things"]
 f15:GF K mg "number_in" Lu ad.a15 ad.d15 ["plan","stand","thing"]
 f16:GF K mg "names_read" Lh ad.a16 ad.d16 ["row"]
 f17:GF K mg "unlike" LN ad.a17 ad.d17 ["plan","one","other"]
 f18:GF K mg "marks" KB ad.a18 ad.d18 ["case"]
 f19:GF K mg "unlike_of" Ll ad.a19 ad.d19 ["case"]
 f20:GF K mg "verdict_of" KN ad.a20 ad.d20 ["two","one"]
 f21:GI K ad.C_Going "__init__" "Going.__init__" Qf ad.a21 ad.d21 ["self","numbers","pieces","unsettled","todo","left"]
 f22:GM K ad.C_Going "settled" "Going.settled" Qd ad.a22 ad.d22 ["self","thing","number"]
 f23:GI K ad.C_Ends "__init__" "Ends.__init__" S9 ad.a23 ad.d23 ["self","limit"]
 f24:GM K ad.C_Ends "one_more" "Ends.one_more" Rx ad.a24 ad.d24 ["self"]
 f25:GF K mg "start" LQ ad.a25 ad.d25 ["case"]
 f26:GF K mg "put_ahead" Lg ad.a26 ad.d26 ["rows","todo"]
 f27:GF K mg "go_on" KG ad.a27 ad.d27 ["plan","going"]
 f28:GF K mg "asked_by" L1 ad.a28 ad.d28 ["plan","going","row"]
 f29:GA K mg "do_row_trees" "do_row" R0 ad.a29 ad.d29 ["plan","going","row"]
 f30:GF K mg "mark_of" Lw ad.a30 ad.d30 ["plan","going"]
 f31:GF K mg "both_ways" Md ad.a31 ad.d31 ["case","going","thing"]
 f32:GV K mg "tree" Mi ad.a32 ad.d32 ["case","limit"] (500)
 f33:GF K mg "grown" Lz ad.a33 ad.d33 ["case","going","ends"]
 f34:GI K ad.C_Outcome "__init__" "Outcome.__init__" Rq ad.a34 ad.d34 ["self","verdict","sound","faulty"]
 f35:GF K mg "outcomes" KU ad.a35 ad.d35 ["case","limit"]
 f36:GF K mg "numbers_of" L_ ad.a36 ad.d36 ["bits"]
 f37:GV K mg "fewest" LI ad.a37 ad.d37 ["case","limit"] (500)
 f38:GF K mg "causes_met" LK ad.a38 ad.d38 ["case","limit"]
 f39:GF K mg "_law_stirred" Lo ad.a39 ad.d39 ["cell","turn"]
 f40:GF K mg "_law_pot" KH ad.a40 ad.d40 ["script"]
 f41:GF K mg "_law_draw" Lb ad.a41 ad.d41 ["pot","many"]
 f42:GF K mg "_law_names" Ma ad.a42 ad.d42 ["pot","many"]
 f43:GF K mg "_law_row" Mh ad.a43 ad.d43 ["pot","told"]
 f44:GF K mg "_law_block" LD ad.a44 ad.d44 ["pot","told","room","deep"]
 f45:GF K mg "_law_rows" LY ad.a45 ad.d45 ["pot","told","room","deep","most"]
 f46:GF K mg "_law_plan" KI ad.a46 ad.d46 ["pot","most"]
 f47:GF K mg "_law_stand" KZ ad.a47 ad.d47 ["pot","plan"]
 f48:GF K mg "_law_becomes" Lr ad.a48 ad.d48 ["gone","row"]
 f49:GF K mg "_law_stepped" KJ ad.a49 ad.d49 ["gone","place","number"]
 f50:GF K mg "_law_rounds" KF ad.a50 ad.d50 ["gone","row","place"]
 f51:GF K mg "_law_done" LA ad.a51 ad.d51 ["gone","rows","place"]
 f52:GF K mg "_law_run" LG ad.a52 ad.d52 ["plan","stand","most"]
 f53:GF K mg "_law_flat" Li ad.a53 ad.d53 ["rows"]
 f54:GF K mg "_law_marks" KM ad.a54 ad.d54 ["plan","sound","faulty","most"]
 f55:GF K mg "_law_other" Ku ad.a55 ad.d55 ["pot","m","number"]
 f56:GF K mg "_law_by_name" KS ad.a56 ad.d56 ["plan","sound","faulty","most","name"]
 f57:GF K mg "_law_by_piece" QD ad.a57 ad.d57 ["plan"]
 f58:GF K mg "_law_case" KA ad.a58 ad.d58 ["pot","most_rows","few"]
 f59:GF K mg "_law_things" Mg ad.a59 ad.d59 ["case"]
 f60:GF K mg "_law_mixed" Kv ad.a60 ad.d60 ["case","mix"]
 f61:GF K mg "_law_subsets" Ln ad.a61 ad.d61 ["many"]
 f62:GF K mg "_law_verdicts" Rt ad.a62 ad.d62 ["case"]
 f63:GF K mg "_law_told" LO ad.a63 ad.d63 ["case","lists"]
 f64:GF K mg "_law_alike" L4 ad.a64 ad.d64 ["found","due"]
 f65:GF K mg "law" jG ad.a65 ad.d65 ["script"]
section
section
variable {X:Cx}{B:Bd}{a b c o e:fv}{es:aab}{ta tb tc to:b6}{t:dY}{i:Nat}{x:Str}{pos p Z5 Z4:Pos}(hU:X.A.units+64<n7)(hu:X.A.units+1<n7)(hg:X.A.guards=ap [])(hc:X.calm=true)(ha:DE X B a ta)(hb:DE X B b tb)(hd:DE X B c tc)
def v0:=fW (pos:=pos) Jw ha hb
def v1:=fW (pos:=pos) Kn ha hb
def v2:=fW (pos:=pos) HC ha hb
def v3:=fW (pos:=pos) HS ha hb
def v4:=fW (pos:=pos) Na ha hb
def v5:=fW (pos:=pos) JO ha hb
def v6:=fW (pos:=pos) J7 ha hb
def v7:=fW (pos:=pos) IQ ha hb
def v8:=fW (pos:=pos) F8 ha hb
def v9:=fW (pos:=pos) Jg ha hb
def v10:=fW (pos:=pos) H_ ha hb
def v11:=FT (pos:=pos) yq ha hb
def v12:=FT (pos:=pos) (Fb hU) ha hb
def v13:=bZ (X:=X) (B:=B) (p:=p) (pos:=pos) (e:=e) (es:=es) (t:=t) Cs zm
def v14:=fA (X:=X) (B:=B) (p:=p) (pos:=pos) (e:=e) (es:=es) (t:=t) tH pB
def v15:=fA (X:=X) (B:=B) (p:=p) (pos:=pos) (e:=e) (es:=es) (t:=t) xw lE
def v16:=fA (X:=X) (B:=B) (p:=p) (pos:=pos) (e:=e) (es:=es) (t:=t) (vc hc) tJ
def v17:=bZ (X:=X) (B:=B) (p:=p) (pos:=pos) (e:=e) (es:=es) (t:=t) sO lD
def v18:=fA (X:=X) (B:=B) (p:=p) (pos:=pos) (e:=e) (es:=es) (t:=t) uf tJ
def v19:=bZ (X:=X) (B:=B) (p:=p) (pos:=pos) (e:=e) (es:=es) (t:=t) (nS hU) xl
def v20:=bZ (X:=X) (B:=B) (p:=p) (pos:=pos) (e:=e) (es:=es) (t:=t) (Cd hc) kN
def v21:=bZ (X:=X) (B:=B) (p:=p) (pos:=pos) (e:=e) (es:=es) (t:=t) (Ci hc) Jv
def v22:=bZ (X:=X) (B:=B) (p:=p) (pos:=pos) (e:=e) (es:=es) (t:=t) (Da hc) HH
def v23:=bZ (X:=X) (B:=B) (p:=p) (pos:=pos) (e:=e) (es:=es) (t:=t) (wj hg hU) GD
def v24:=bZ (X:=X) (B:=B) (p:=p) (pos:=pos) (e:=e) (es:=es) (t:=t) (CV hc) kN
def v25:=bZ (X:=X) (B:=B) (p:=p) (pos:=pos) (e:=e) (es:=es) (t:=t) (xx hc hu) kN
def v26:=xG (X:=X) (B:=B) (p:=p) (pos:=pos) (yp:=Z5) (kp:=Z4) (e:=e) (es:=es) (t:=t) (tB hc) kN zm
def v27:=lQ (X:=X) (B:=B) (pos:=pos) Jb
def v28:=lQ (X:=X) (B:=B) (pos:=pos) Fn
def v29:=lQ (X:=X) (B:=B) (pos:=pos) JP
def v30:=lQ (X:=X) (B:=B) (pos:=pos) pB
def v31:=lQ (X:=X) (B:=B) (pos:=pos) lE
def v32:=DU (X:=X) (B:=B) (Z5:=Z5) (Z4:=Z4) (o:=o) (e:=e) (es:=es) (t:=t) (to:=to) VZ Wq PySem.F.type_list_append xy
def v33:=yC (X:=X) (B:=B) (Z5:=Z5) (Z4:=Z4) (o:=o) (to:=to) VZ VI Xu yG
def v34:=yC (X:=X) (B:=B) (Z5:=Z5) (Z4:=Z4) (o:=o) (to:=to) PySem.F.plainAttrs_int PySem.F.slot_int_bit_length PySem.F.type_int_bit_length wy
def v35:=DU (X:=X) (B:=B) (Z5:=Z5) (Z4:=Z4) (o:=o) (e:=e) (es:=es) (t:=t) (to:=to) VZ VI Xu yG
def v36:=GS (X:=X) (B:=B) (Z5:=Z5) (Z4:=Z4) (o:=o) (e:=e) (es:=es) (to:=to) (t:=t) U2 W8 xK
def v37:=GS (X:=X) (B:=B) (Z5:=Z5) (Z4:=Z4) (o:=o) (e:=e) (es:=es) (to:=to) (t:=t) U2 W8 wv
def v38:=Hw (X:=X) (B:=B) (x:=x) (pos:=pos) (e:=e) (i:=i) (te:=ta) (pos':=p) HZ
def v39:=dD (pos:=pos) NB ha hb
def v40:=dD (pos:=pos) (Fb hU) ha hb
def v41:=dD (pos:=pos) Oa ha hb
def v42:=dD (pos:=pos) ED ha hb
def v43:=dD (pos:=pos) yq ha hb
def v44:=dD (pos:=pos) (DZ hU) ha hb
def v45:=dD (pos:=pos) (MH hU) ha hb
def v46:=dD (pos:=pos) P2 ha hb
def v47:=dD (pos:=pos) (HP hU) ha hb
def v48:=dD (pos:=pos) Pg ha hb
def v49:=dD (pos:=pos) (CY hU) ha hb
end
local macro_rules|`(tactic|exists $n:num)=>do
 let h<-`(?_);let u<-`(_);let I:=λs:String=>Lean.mkIdent s.toName;let p:=λa k=>Lean.Syntax.mkApp (I a) (Array.replicate k h)
 let t<-((["","dnm:u Pb:0 Oh:1 Mc:g:NN Nl:0 Gz:6 GJ:6 DE:ai:3:2 DE:bg:2:3 Ng:1 Mm:1 Pr:4 FS:3 Qo:0 OH:0 DE:dC:1:4 DE:ko:4:5 v36:7 v37:7 Mc:g:Qj Jq:1 EH:3 OC:2 Og:1 MW:1 Kk:1 J1:0 xh:9 wm:8 Eu:a JJ:3 Hs:4 FD:a D2:a E1:a","v0:2 v1:2 v2:2 v3:2 v4:2 v5:2 v6:2 v7:2 v8:2 v9:2 v10:2 v11:3 v12:4","v13:7 v14:7 v15:7 v16:8 v17:7 v18:7 v19:8 v20:8 v21:8 v22:8 v23:9 v24:8 v25:9 v26:12","v27:4 v28:4 v29:4 v30:4 v31:4","v32:8 v33:4 v34:4 v35:8","Q8:3 NX:6 O8:5 Nz:1 JR:2 Oc:5 Dd:4 Cb:4 Nd:6 Hi:3 Gf:6 MB:2 v38:5 Ef:a Jk:a","DT:al:1:8 P9:1 Nt:2 SA:1","v39:3 v40:4 v41:3 v42:3 v43:3 v44:4 v45:4 v46:3 v47:4 v48:3 v49:4","eM:2 gB:1 Iq:0 Jt:1 MI:1 OJ:2 QA:2 J4:0 Im:1 Ie:4 Pl:4 Mu:4 PF:4 Ed:3 JG:0 Ju:4 C1:4 Jc:5 N7:5 O3:4 HK:1 O7:1 FC.nil:a FC.cons:a JX:0 Jh:1"].getD n.getNat "").splitOn " ").toArray.mapM λs=>match s.splitOn ":" with
  |[a,"a"]=>`(Lean.Parser.Tactic.tacticSeq|apply $(I a))
  |[a,"d"]=>`(Lean.Parser.Tactic.tacticSeq|(apply $(I a);focus decide))
  |[a,"u"]=>`(Lean.Parser.Tactic.tacticSeq|refine $(I a) _ ?_ ?_ ?_ ?_)
  |[a,k]=>`(Lean.Parser.Tactic.tacticSeq|refine $(p a k.toNat!))
  |[a,_,b]=>`(Lean.Parser.Tactic.tacticSeq|refine $(I a) ($(p b 1)) ?_ ?_ ?_)
  |[d,a,k,m]=>`(Lean.Parser.Tactic.tacticSeq|(show $(I d) _ _ _ $(Lean.Syntax.mkApp (I a) (Array.replicate k.toNat! u));exists $(Lean.Syntax.mkNumLit m)))
  |_=>Lean.Macro.throwUnsupported
 `(tactic|first $[|$t]*)
local macro_rules | `(tactic| exists 0) => `(tactic| first
 |exact Or.inl rfl
 |exact⟨_,_,_,_,_,_,_,by assumption,by assumption,Room.mono (by assumption) (by first|decide|lia),DP,by assumption⟩
 |exact⟨_,_,_,_,_,_,_,by assumption,by assumption,Room.mono (by assumption) (by first|decide|lia),xT,uxN⟩
 |exact⟨_,_,_,_,_,_,_,by first|exact .g (by assumption)|exact .a (by assumption)|exact .v (by assumption),by assumption,Room.mono (by assumption) (by first|decide|lia),DP,by assumption⟩
 |exact⟨_,_,_,_,_,_,_,by first|exact .g (by assumption)|exact .a (by assumption)|exact .v (by assumption),by assumption,Room.mono (by assumption) (by first|decide|lia),xT,uxN⟩
 |assumption
 |exact Room.mono (by assumption) (by first|decide|lia)
 |with_reducible exact DP
 |with_reducible exact xT
 |with_reducible exact uxN
 |exact FnScope.nd (by assumption)
 |(apply nomark;decide)
 |(apply nodC;decide)
 |exact PassesOwn.leaving
 |exact λ_ _=>rfl
 |exact Or.inr (Or.inl rfl)
 |exact Or.inr rfl
 |exact Or.inr (Or.inr rfl)
 |rfl
 |exact λ_=>rfl
 |decide
 |exact⟨rfl,rfl,rfl,rfl⟩
 |with_reducible intro _)
local macro_rules | `(tactic| trivial) => `(tactic| first
 |eq_refl
 |(with_reducible first
 |(show DE _ _ _ _;exists 1)
 |refine da_c ?_ ?_ ?_
 |exact Nb
 |(show DT _ _ _ _;exists 7)
 |(show DS _ _ _ _;exists 6)
 |exists 9)
 |exists 0)
set_option hygiene false in
local macro_rules | `(tactic| exists $t:ident, $g, [$fs,*]) => do let hs <- fs.getElems.mapM fun f => `(tactic| have := $f); `(tactic| exact fnS rfl ($g).F ($g).b ⟨rfl, rfl, rfl, by decide +kernel, rfl, by decide +kernel, by decide +kernel⟩ fun hS _ A _ s _ _ _ _ hr ux => (by have hU := hr.units; have hu := uz hr; have hg := hr.gd; ($[$hs];*); unfold $t:ident; (first | refine eM ?_ ?_ | refine gB ?_); repeat' trivial))
set_option hygiene false in
local macro_rules | `(tactic| exists $t:ident, $g, [$fs,*], $[$ps:ident],*) => `(tactic| exists (_), $t:ident, $g, [$fs,*], $[$ps:ident],*)
set_option hygiene false in
local macro_rules | `(tactic| exists ($k), $t:ident, $g, [$fs,*], $[$ps:ident],*) => do let hs <- fs.getElems.mapM fun f => `(tactic| have := $f); `(tactic| exact fnS (k := $k) rfl ($g).F ($g).b ⟨rfl, rfl, rfl, by decide +kernel, rfl, by decide +kernel, by decide +kernel⟩ fun hS _ A _ s _ _ _ _ hr ux => (by have hU := hr.units; have hu := uz hr; have hg := hr.gd; ($[$hs];*); unfold $t:ident $[$ps:ident]*; (first | refine eM ?_ ?_ | refine gB ?_); repeat' trivial))
variable {P:eX}{w:f'}{K:SM}{mg:aaf}{base:fy}{ad:Ad}(E:En P w K mg base ad)
include E
theorem RJ:cj P w mg base E.f1.F E.f1.b 1 (Ij ad):=by
 exists JV,E.f1,[E.u6,E.u21,E.u19,E.u45,E.u31,E.u20,E.u18,E.u22],E4,Ep,FF
theorem LP:cj P w mg base E.f2.F E.f2.b 1 (xt ad):=by
 exists Ka,E.f2,[E.u35,E.u6,E.u22,E.u18,E.u23,E.u24],EA
theorem MZ:cj P w mg base E.f3.F E.f3.b 2 (p8 ad):=by
 have:=LP E
 exists AQ,E.f3,[E.u6,E.u19,E.f2],Aa
theorem Ny:cj P w mg base E.f12.F E.f12.b 1 (yu ad):=by
 exists Ay,E.f12,[],zS,BE,BN,yl,BW
theorem EN:cj P w mg base E.f11.F E.f11.b 1 (nh ad):=by
 exists io,E.f11,[],At,Bq
theorem Ej:cj P w mg base E.f10.F E.f10.b 2 (o5 ad):=by
 have:=Ny E;have:=EN E
 exists gk,E.f10,[E.f11,E.f12],z8,Bo,A5
theorem uP:∀n:Nat,cj P w mg base E.f6.F E.f6.b (2+n) (Ym ad n)/\cj P w mg base E.f7.F E.f7.b (2+n) (Yo ad n)/\cj P w mg base E.f8.F E.f8.b (2+n) (Yp ad n)/\cj P w mg base E.f9.F E.f9.b (2+n) (Yq ad n):=by
 have:=MZ E;have:=LP E;have:=Ej E;intro n
 induction n with
 |zero=>exact⟨eD,eD,eD,eD⟩
 |succ n ih=>
  obtain⟨_,_,_,_⟩:=ih;refine⟨?_,?_,?_,?_⟩
  .exists (2+n),Au,E.f6,[E.u32,E.f7],A0
  .exists (2+n),pZ,E.f7,[E.f8,E.f9,E.f10,E.u6,E.u21,E.u19,E.u20,E.f2],A4,Bg,B5,BH,zP,AV
  .exists (2+n),B7,E.f8,[E.u6,E.f3,E.f6],A9
  .exists (2+n),EI,E.f9,[E.u6,E.f3,E.f6],A3,Aq
theorem OV:cj P w mg base E.f4.F E.f4.b 27 (uS ad):=by
 have:=RJ E;obtain⟨_,_,_,_⟩:=uP E 24
 exists yL,E.f4,[E.f1,E.u7,E.u6,E.f6,E.u23,E.u24,E.u22,E.u44,E.u19],BS,Al
theorem P7:cj P w mg base E.f5.F E.f5.b 28 (oY ad):=by
 have:=OV E
 exists BU,E.f5,[E.f4],BB,Bm
theorem ES:cj P w mg base E.f13.F E.f13.b 1 (vC ad):=by
 exists zE,E.f13,[E.u36,E.u39]
theorem Mv:cj P w mg base E.f14.F E.f14.b 2 (BC ad):=by
 have:=ES E
 exists Aw,E.f14,[E.u31,E.f13],kX
theorem Gn:cj P w mg base E.f15.F E.f15.b 1 (n8 ad):=by
 exists uH,E.f15,[E.u34,E.u43],Bw
theorem Nk:cj P w mg base E.f16.F E.f16.b 1 (zc ad):=by
 exists jI,E.f16,[E.u36],yQ,xW
theorem NO:cj P w mg base E.f17.F E.f17.b 2 (Bh ad):=by
 have:=ES E;have:=Gn E
 exists Er,E.f17,[E.f13,E.f15]
theorem DL:cj P w mg base E.f18.F E.f18.b 29 (uT ad):=by
 have:=P7 E
 exists zp,E.f18,[E.f5,E.u25,E.u26],rj,rJ,yU
theorem xL:cj P w mg base E.f19.F E.f19.b 3 (oR ad):=by
 have:=NO E
 exists Fx,E.f19,[E.f17]
theorem MD:cj P w mg base E.f20.F E.f20.b 1 (AM ad):=by
 exists vS,E.f20,[],zX
theorem Lf:cj P w mg base E.f21.F E.f21.b 1 (Hg ad):=by
 exists Iz,E.f21,[E.u2,E.u11,E.u12,E.u14,E.u13,E.u10],G7,GP,Hc
theorem QI:cj P w mg base E.f22.F E.f22.b 3 (Gw ad):=by
 have:=Lf E
 exists Ix,E.f22,[E.f21,E.u3,E.u2,E.u31,E.u11,E.u36,E.u12,E.u14,E.u13,E.u10,E.u34,E.u43],xu,Gq,Ez,DV
theorem Qw:cj P w mg base E.f23.F E.f23.b 1 (OE ad):=by
 exists Ip,E.f23,[E.u0,E.u9,E.u8]
theorem Lp:cj P w mg base E.f24.F E.f24.b 1 (DB ad):=by
 exists JZ,E.f24,[E.u0,E.u8,E.u9,E.u27,E.u28],xo
theorem G2:cj P w mg base E.f26.F E.f26.b 1 (m5 ad):=by
 exists zb,E.f26,[E.u41],rR
theorem Pc:cj P w mg base E.f25.F E.f25.b 4 (zZ ad):=by
 have:=Lf E;have:=G2 E;have:=xL E
 exists zd,E.f25,[E.u31,E.f19,E.f21,E.u3,E.u2,E.u45,E.u36,E.f26],ql,tE,qJ
theorem Mr:cj P w mg base E.f28.F E.f28.b 3 (yx ad):=by
 have:=Mv E;have:=Nk E;have:=EN E
 exists AZ,E.f28,[E.u2,E.u14,E.f16,E.f14,E.f11,E.u11],qS,ka,sw,sK,rB
theorem QB:cj P w mg base E.f29.F E.f29.b 3 (Hy ad):=by
 have:=Ej E;have:=G2 E
 exists Ki,E.f29,[E.u2,E.u10,E.u13,E.f26,E.u11,E.f10,E.u12,E.u14],xB,o6,r_,jg,wN,xz,Ex,ww
theorem P6:cj P w mg base E.f27.F E.f27.b 4 (yO ad):=by
 have:=Mr E;have:=QB E
 exists E8,E.f27,[E.u2,E.u13,E.u10,E.f28,E.f29,E.u14],rC,gD,qO,qP,q_,sM
theorem Oo:cj P w mg base E.f30.F E.f30.b 1 (BV ad):=by
 exists zj,E.f30,[E.u2,E.u13,E.u11]
theorem Pi:cj P w mg base E.f31.F E.f31.b 4 (Bz ad):=by
 have:=QI E;have:=Gn E
 exists yz,E.f31,[E.u2,E.f22,E.f15]
theorem CN:∀n:Nat,cj P w mg base E.f33.F E.f33.b (4+n) (Ys ad n):=by
 have:=Lp E;have:=Pi E;have:=P6 E;have:=Oo E;intro n
 induction n with
 |zero=>exact eD
 |succ n ih=>
  exists (4+n),BQ,E.f33,[E.f33,E.f27,E.f30,E.u0,E.f24,E.f31],rD,rZ,qG,tq,rA
theorem Ox:OkV P w mg base E.f32.F E.f32.b 30 (Bf ad):=by
 have:=Qw E;have:=Lp E;have:=CN E 24;have:=DL E;have:=Pc E;exact PZ rfl E.f32.F E.f32.b ⟨rfl,rfl,rfl,by decide +kernel,rfl,by decide +kernel,by decide +kernel⟩ λhS _ A _ s _ _ _ _ hr ux=>(by have hU:=hr.units;have hu:=uz hr;have hg:=hr.gd;have:=E.f18;have:=E.f23;have:=E.u1;have:=E.u0;have:=E.f24;have:=E.f33;have:=E.f25;unfold Gi Ab z9 y9;(first|refine eM ?_ ?_|refine gB ?_);repeat' trivial)
theorem QW:cj P w mg base E.f34.F E.f34.b 1 (JH ad):=by
 exists HN,E.f34,[E.u4,E.u17,E.u16,E.u15],GX
theorem OA:cj P w mg base E.f35.F E.f35.b 31 (zK ad):=by
 have:=QW E;have:=DL E;have:=Ox E;have:=xL E;have:=MD E
 exists xZ,E.f35,[E.f18,E.u31,E.u32,E.f19,E.f32,E.f34,E.u5,E.u4,E.f20],mz,tT,za,gp,qk,rE,qD,sC,qq,sx,rU
theorem Oj:cj P w mg base E.f36.F E.f36.b 1 (Bt ad):=by
 exists Bk,E.f36,[E.u39]
theorem Ot:cj P w mg base E.f38.F E.f38.b 32 (AG ad):=by
 have:=OA E
 exists Ar,E.f38,[E.f35,E.u4,E.u17,E.u15]
theorem OZ:OkV P w mg base E.f37.F E.f37.b 33 (p_ ad):=by
 have:=Ot E;have:=Oj E;have:=xL E;exact PZ rfl E.f37.F E.f37.b ⟨rfl,rfl,rfl,by decide +kernel,rfl,by decide +kernel,by decide +kernel⟩ λhS _ A _ s _ _ _ _ hr ux=>(by have hU:=hr.units;have hu:=uz hr;have hg:=hr.gd;have:=E.u42;have:=E.f38;have:=E.f36;have:=E.f19;have:=E.u38;have:=E.u35;unfold zq k9 ke;(first|refine eM ?_ ?_|refine gB ?_);repeat' trivial)
theorem NJ:cj P w mg base E.f39.F E.f39.b 1 (mU ad):=by
 exists zg,E.f39,[],yH
theorem MY:cj P w mg base E.f40.F E.f40.b 1 (zR ad):=by
 exists yN,E.f40,[E.u36],xY,zL,A_
theorem g9:cj P w mg base E.f41.F E.f41.b 2 (aZ ad):=by
 have:=NJ E
 exists G_,E.f41,[E.f39],x_,Bb,xX,zO,Bi,AX,zY,BI
theorem Np:cj P w mg base E.f42.F E.f42.b 3 (yP ad):=by
 have:=g9 E
 exists AE,E.f42,[E.f41,E.u39,E.u44],AT,Av,zC
theorem Oy:cj P w mg base E.f43.F E.f43.b 3 (tQ ad):=by
 have:=g9 E
 exists Bv,E.f43,[E.f41,E.u35],vG,vy,As,Ak,zT,yt,yE,Ap,yW,yk,yK
theorem nv:∀n:Nat,cj P w mg base E.f44.F E.f44.b (3+n) (Yl ad n)/\cj P w mg base E.f45.F E.f45.b (3+n) (Yk ad n):=by
 have:=g9 E;have:=Oy E;intro n
 induction n with
 |zero=>exact⟨eD,eD⟩
 |succ n ih=>
  obtain⟨_,_⟩:=ih;refine⟨?_,?_⟩
  .exists (3+n),Aj,E.f44,[E.f41,E.u35,E.f45,E.u38],yA,Bp,zk,y8,yF,yZ,yf,yd,yS
  .exists (3+n),AC,E.f45,[E.u39,E.f41,E.f44,E.f43,E.u44],BJ,zG,AB,y0,zn,zH,Ac
theorem Pj:cj P w mg base E.f46.F E.f46.b 28 (AS ad):=by
 have:=g9 E;have:=Np E;obtain⟨_,_⟩:=nv E 24
 exists B8,E.f46,[E.f41,E.f42,E.f45,E.u35],B3,AF,BP,zU
theorem Px:cj P w mg base E.f47.F E.f47.b 3 (yy ad):=by
 have:=g9 E
 exists DM,E.f47,[E.u44,E.f41,E.u39],Br
theorem NY:cj P w mg base E.f48.F E.f48.b 1 (uu ad):=by
 exists nL,E.f48,[E.u35],uM,uJ,uA,zy,z7,AN,yi,zM,yh,y6,z_,zu
theorem NP:cj P w mg base E.f49.F E.f49.b 1 (jw ad):=by
 exists Bn,E.f49,[E.u35],Ax
theorem jU:∀n:Nat,cj P w mg base E.f50.F E.f50.b (1+n) (Yn ad n)/\cj P w mg base E.f51.F E.f51.b (1+n) (Yj ad n):=by
 have:=NY E;have:=NP E;intro n
 induction n with
 |zero=>exact⟨eD,eD⟩
 |succ n ih=>
  obtain⟨_,_⟩:=ih;refine⟨?_,?_⟩
  .exists (1+n),yw,E.f50,[E.u39,E.f49,E.f51],ig,qC,qx,rG
  .exists (1+n),B4,E.f51,[E.f51,E.u32,E.f50,E.f49,E.f48],lK,qK,kh,li,lj,ze,la,sh,qA,r8
theorem Dy:cj P w mg base E.f52.F E.f52.b 26 (nM ad):=by
 obtain⟨_,_⟩:=jU E 24
 exists yX,E.f52,[E.u45,E.u31,E.f51,E.u44],zN,Ao,zV
theorem Du:cj P w mg base E.f53.F E.f53.b 1 (vg ad):=by
 exists Fe,E.f53,[E.u44]
theorem xr:cj P w mg base E.f54.F E.f54.b 27 (lW ad):=by
 have:=Dy E
 exists ym,E.f54,[E.f52],lb,kF,rL
theorem NE:cj P w mg base E.f55.F E.f55.b 3 (nq ad):=by
 have:=g9 E
 exists zf,E.f55,[E.f41]
theorem Nx:cj P w mg base E.f56.F E.f56.b 28 (zx ad):=by
 have:=Du E;have:=xr E
 exists zo,E.f56,[E.u44,E.f53,E.f54],ki,kx,k7,kU,jZ
theorem Sj:cj P w mg base E.f57.F E.f57.b 1 (J3 ad):=by
 exists JI,E.f57,[],rT,qT,oa,s_
theorem Mj:cj P w mg base E.f58.F E.f58.b 29 (BM ad):=by
 have:=Nx E;have:=Sj E;have:=g9 E;have:=Du E;have:=xr E;have:=NE E;have:=Pj E;have:=Px E
 exists A1,E.f58,[E.f46,E.u37,E.f47,E.u36,E.f41,E.u35,E.f55,E.u38,E.u39,E.u44,E.f54,E.f53,E.f56,E.f57],mS,nr,nA,mv,m9,lF,nR,iO,mj,lB,iL,iB,ng,iP,ie,vD,md,qQ,rV,rY,qU,sV,sk,qy,sJ,sU
theorem Ek:cj P w mg base E.f59.F E.f59.b 1 (vt ad):=by
 exists yD,E.f59,[E.u45,E.u39],qj,qf
theorem Pf:cj P w mg base E.f60.F E.f60.b 1 (BX ad):=by
 exists yb,E.f60,[E.u45,E.u39,E.u44],qv,tz,sY,ik
theorem PD:cj P w mg base E.f61.F E.f61.b 1 (AU ad):=by
 exists FQ,E.f61,[E.u39],zh,kR
theorem Sh:cj P w mg base E.f62.F E.f62.b 28 (JN ad):=by
 have:=xr E;have:=Pf E;have:=Dy E;have:=PD E;have:=Ek E
 exists NC,E.f62,[E.f59,E.f54,E.f61,E.u35,E.f52,E.f60,E.u44],He,wA,GO,Ec,j6,wc,xR,nH,sD
theorem MC:cj P w mg base E.f63.F E.f63.b 2 (Ah ad):=by
 have:=Ek E
 exists zI,E.f63,[E.f59],lq
theorem mF:∀n:Nat,cj P w mg base E.f64.F E.f64.b (0+n) (Yr ad n):=by
 intro n
 induction n with
 |zero=>exact eD
 |succ n ih=>
  exists (0+n),gL,E.f64,[E.f64,E.u34,E.u30,E.u33,E.u43,E.u44,E.u36,E.u35,E.u29,E.u45],B2,Ae,AK,yY,BR,zQ,By,BO,yc
theorem MK:cj P w mg base E.f65.F E.f65.b 34 (Ev ad):=by
 have:=mF E 24;have:=Mj E;have:=g9 E;have:=MY E;have:=MC E;have:=Sh E;have:=OZ E
 exists Bj,E.f65,[E.f40,E.f58,E.f41,E.u40,E.f62,E.u36,E.u38,E.u35,E.f63,E.f64,E.f37],iS,k_,kG,kg,j_,lg,ly,kJ,lc,kW
end
end _T
namespace _3
open PySem _2
theorem aK{T:Sd}{EE:DX}{ds:List D}{M:Mem}{Q:DK}{b:BxQ EE Q}{d:D}(c:∀Q' E',Q' d M->T ds M Q' E')(h:Q d M):calls T EE ds M Q b:=
 ao λQ' E' a _=>c Q' E' (a d M h)
theorem bf{α:Type}{xs:List α}{i:Int}(h:0<=i):atI xs i=xs[i.toNat]?:=by
 unfold atI wX
 grind
@[simp] theorem atI_0 {α:Type} {xs:List α}:atI xs 0=xs[0]?:=bf (by decide)
@[simp] theorem atI_1 {α:Type} {xs:List α}:atI xs 1=xs[1]?:=bf (by decide)
@[simp] theorem atI_2 {α:Type} {xs:List α}:atI xs 2=xs[2]?:=bf (by decide)
@[simp] theorem atI_3 {α:Type} {xs:List α}:atI xs 3=xs[3]?:=bf (by decide)
@[simp] theorem atI_4 {α:Type} {xs:List α}:atI xs 4=xs[4]?:=bf (by decide)
theorem cy{g:je}{i:ar}{DD:DEnds}{ok:Mem->Prop}{b:BxF g i DD ok}(I:List D->Dl->Mem->Prop)(c:∀xs U M,I xs U M->ok M)(f:∀U M,I [] U M->DD.nx U M)
  (j:∀x xs U M,I (x::xs) U M->∀D':DEnds,(∀a M',I xs a M'->D'.nx a M')->(∀a M',I xs a M'->D'.ct a M')->D'.rt=DD.rt->D'.bk=DD.nx->g x U M λδ2 M2=>i D' δ2 M2):∀xs U M,I xs U M->o9 g i DD ok b xs U M
 |[],U,M,h=>⟨c _ _ _ h,f U M h⟩
 |x::xs,U,M,h=>⟨c _ _ _ h,j x xs U M h _ (λa M' e=>cy I c f j xs a M' e) (λa M' e=>cy I c f j xs a M' e) rfl rfl⟩
theorem bN{g:je}{tt:eW}{te:b6}{ok:Mem->Prop}{Q:List D->Mem->Prop}{b:BxC g tt te ok Q}(I:List D->List D->Dl->Mem->Prop)(e:∀xs Z3 U M,I xs Z3 U M->ok M)(j:∀Z3 U M,I [] Z3 U M->Q Z3 M)
  (l:∀x xs Z3 U M,I (x::xs) Z3 U M->∀N:Bool->D->Dl->Mem->Prop,(∀y a M',Z3.length<sizeLine->I xs (Z3++[y]) a M'->N true y a M')->(∀y a M',I xs Z3 a M'->N cp y a M')->g x U M λδ2 M2=>tt δ2 M2 λc M3=>if c=true then te δ2 M3 λy M4=>N true y δ2 M4 else N cp .non δ2 M3)
  (m:∀x xs Z3 U M,I (x::xs) Z3 U M->Z3.length<sizeLine):∀xs Z3 U M,I xs Z3 U M->cZ g tt te ok Q b xs Z3 U M
 |[],Z3,U,M,h=>⟨e _ _ _ _ h,j Z3 U M h⟩
 |x::xs,Z3,U,M,h=>⟨e _ _ _ _ h,l x xs Z3 U M h (λk y a M'=>if k=true then Z3.length<sizeLine/\cZ g tt te ok Q b xs (Z3++[y]) a M' else cZ g tt te ok Q b xs Z3 a M')
   (λy a M' f i=>by rw[if_pos rfl];exact⟨f,bN I e j l m xs _ a M' i⟩) (λy a M' i=>by rw[if_neg (by simp)];exact bN I e j l m xs _ a M' i) |> λz=>by simpa using z⟩
theorem bo{n:Nat}(h:n<=1000000):n<=sizeLine:=SX h (by decide)
theorem fM{n:Nat}(h:n<1000000):n<sizeLine:=Tc h (by decide)
end _3
namespace _T
open PySem _2 _3
variable{v:Int}{x:Str}{n:cw}
inductive Rw where
 |put (x:Str) (k:Int)|take (x:Str) (i:Int)|pick (x y:Str)|two (w x y z:Str)|ifr (x:Str) (a b:List Rw)|again (x:Str) (a:List Rw)
mutual
noncomputable def Rw.d:Rw->D
 |.put x k=>.tup [.str "put",.str x,.int k]
 |.take x i=>.tup [.str "take",.str x,.int i]
 |.pick x y=>.tup [.str "pick",.str x,.str y]
 |.two w x y z=>.tup [.str w,.str x,.str y,.str z]
 |.ifr x a b=>.tup [.str "if",.str x,.tup (aC a),.tup (aC b)]
 |.again x a=>.tup [.str "again",.str x,.tup (aC a)]
noncomputable def aC:List Rw->List D
 |[]=>[]
 |r::rs=>r.d::aC rs
end
theorem gq:∀rs:List Rw,aC rs=rs.map Rw.d
 |[]=>rfl
 |r::rs=>by rw[aC,gq rs];rfl
abbrev cw:=List (Str×Int)
noncomputable def gN(n:cw)(x:Str):Option Int:=(n.find? λp=>decide (p.1=x)).map (·.2)
noncomputable def nm(n:cw)(x:Str):Int:=(gN n x).getD 0
noncomputable def sN(n:cw)(x:Str)(v:Int):cw:=n.map λp=>if p.1=x then (p.1,v) else p
noncomputable def dO(n:cw):List (aF×D):=n.map λp=>(TB p.1,D.int p.2)
theorem LM:∀{n:cw}{x:Str},x∈n.map (·.1)->gN n x=ap (nm n x)
 |[],_,h=>by simp at h
 |(y,v)::n,x,h=>by
  by_cases e:y=x
  .simp[gN,nm,e]
  simpa [gN,nm,e] using (LM<|by simpa [eq_comm,e] using h)
theorem bY:∀{n:cw}{x:Str},cq (dO n) (TB x)=(gN n x).map D.int
 |[],x=>rfl
 |(y,v)::n,x=>by
  by_cases e:y=x
  .simp[cq,dO,gN,e]
  simpa [cq,dO,gN,e] using (bY)
theorem G3:∀{n:cw}{x:Str},x∈n.map (·.1)->((dO n).any λkv=>decide (kv.1=TB x))=true
 |[],_,h=>by simp at h
 |(y,v)::n,x,h=>by
  by_cases e:y=x
  .simp[dO,e]
  .have:=G3 (by simpa [eq_comm,e] using h)
   simp[dO]at this ⊢
   simp_all
theorem lh(h:x∈n.map (·.1)):dL (dO n) (TB x) (.int v)=dO (sN n x v):=by
 unfold dL;rw[G3 h];simp only[dO,sN,Tb];apply Tz;intro p _
 by_cases e:p.1=x
 .simp[e]
 simp[e]
theorem iE:(sN n x v).map (·.1)=n.map (·.1):=by
 simp only[sN,Tb];apply Tz;intro p _
 by_cases e:p.1=x<;>simp[e]
theorem Q5{y:Str}(h:x∈n.map (·.1)):gN (sN n x v) y=if y=x then ap v else gN n y:=by
 induction n with
 |nil=>simp at h
 |cons p n ih=>
  obtain⟨k,u⟩:=p
  by_cases e:k=x
  .subst e
   by_cases a:y=k
   .subst a;simp[gN,sN]
   simp[if_neg a];have b:¬k=y:=λz=>a z.symm
   by_cases f:k∈n.map (·.1)
   .simpa [gN,sN,b,if_neg a] using (ih f)
   simp only[gN,sN,SJ,if_pos,UR,b,decide_false];have:n.map (λp=>if p.1=k then (p.1,v) else p)=n:=by
    conv=>rhs;rw[<- Uo n]
    apply Tz;intro p g;have:p.1≠k:=λz=>f (by rw[<- z];exact Tx g)
    simp[this]
   rw[this]
  have:=ih (by simpa [Tu e,e] using h)
  by_cases a:y=x
  .subst a;simpa [gN,sN,e] using this
  by_cases c:k=y
  .subst c;simp[gN,sN,e]
  .simpa [gN,sN,e,c,a] using this
structure Cf where
 m:Int
 pieces:List Int
 most:Nat
structure Sx where
 nums:cw
 steps:List (List Int×Int)
noncomputable def AA(w:Str)(y z m:Int):Int:=if w="sum" then (y+z) % m else if w="by" then y*z % m else if w="less" then (if y<z then 1 else 0) else if y=z then 1 else 0
def num(c:Cf)(n:cw):Rw->Int
 |.put _ k=>k
 |.take _ i=>(c.pieces[i.toNat]?).getD 0
 |.pick _ y=>(c.pieces[(nm n y % (c.pieces.length:Int)).toNat]?).getD 0
 |.two w _ y z=>AA w (nm n y) (nm n z) c.m
 |_=>0
noncomputable def gX:Rw->Str
 |.put x _=>x
 |.take x _=>x
 |.pick x _=>x
 |.two _ x _ _=>x
 |.ifr x _ _=>x
 |.again x _=>x
noncomputable def nt(c:Cf)(pl:Z9)(v:Int)(s:Sx):Bool×Sx:=if s.steps.length<c.most then (true,⟨s.nums,s.steps++[(pl,v)]⟩) else (cp,s)
noncomputable def lk(n:cw)(x:Str):Int:=if nm n x=0 then 0 else 1
noncomputable def e_(c:Cf)(x:Str)(pl:Z9)(body:Nat->Sx->Bool×Sx):Nat->Nat->Sx->Bool×Sx
 |0,_,s=>(cp,s)
 |f+1,t,s=>if (nt c (pl++[(t:Int)]) (lk s.nums x) s).1=true then
   (if lk s.nums x=1 then
    (if (body t (nt c (pl++[(t:Int)]) (lk s.nums x) s).2).1=true then e_ c x pl body f (t+1) (body t (nt c (pl++[(t:Int)]) (lk s.nums x) s).2).2 else body t (nt c (pl++[(t:Int)]) (lk s.nums x) s).2)
   else nt c (pl++[(t:Int)]) (lk s.nums x) s)
  else nt c (pl++[(t:Int)]) (lk s.nums x) s
mutual
noncomputable def ib(c:Cf):Rw->List Int->Sx->Bool×Sx
 |.ifr x a b,pl,s=>if (nt c pl (lk s.nums x) s).1=true then (if lk s.nums x=1 then bI c a (pl++[lk s.nums x]) 0 (nt c pl (lk s.nums x) s).2 else bI c b (pl++[lk s.nums x]) 0 (nt c pl (lk s.nums x) s).2) else nt c pl (lk s.nums x) s
 |.again x a,pl,s=>e_ c x pl (λt s=>bI c a (pl++[(t:Int)]) 0 s) (c.most+1) 0 s
 |.put x k,pl,s=>if (nt c pl (num c s.nums<|.put x k) s).1=true then (true,⟨sN s.nums x (num c s.nums<|.put x k),(nt c pl (num c s.nums<|.put x k) s).2.steps⟩) else nt c pl (num c s.nums<|.put x k) s
 |.take x i,pl,s=>if (nt c pl (num c s.nums<|.take x i) s).1=true then (true,⟨sN s.nums x (num c s.nums<|.take x i),(nt c pl (num c s.nums<|.take x i) s).2.steps⟩) else nt c pl (num c s.nums<|.take x i) s
 |.pick x y,pl,s=>if (nt c pl (num c s.nums<|.pick x y) s).1=true then (true,⟨sN s.nums x (num c s.nums<|.pick x y),(nt c pl (num c s.nums<|.pick x y) s).2.steps⟩) else nt c pl (num c s.nums<|.pick x y) s
 |.two w x y z,pl,s=>if (nt c pl (num c s.nums<|.two w x y z) s).1=true then (true,⟨sN s.nums x (num c s.nums<|.two w x y z),(nt c pl (num c s.nums<|.two w x y z) s).2.steps⟩) else nt c pl (num c s.nums<|.two w x y z) s
noncomputable def bI(c:Cf):List Rw->List Int->Nat->Sx->Bool×Sx
 |[],_,_,s=>(true,s)
 |r::rs,pl,j,s=>if (ib c r (pl++[(j:Int)]) s).1=true then bI c rs pl (j+1) (ib c r (pl++[(j:Int)]) s).2 else ib c r (pl++[(j:Int)]) s
end
noncomputable def jQ(c:Cf)(r:Rw)(pl:Z9)(s:Sx):Bool×Sx:=if s.steps.length<c.most then (true,⟨sN s.nums (gX r) (num c s.nums r),s.steps++[(pl,num c s.nums r)]⟩) else (cp,s)
noncomputable def bi:Rw->Bool
 |.ifr _ _ _=>cp
 |.again _ _=>cp
 |_=>true
theorem cC{c:Cf}{r:Rw}{pl:Z9}{s:Sx}(h:bi r=true):ib c r pl s=jQ c r pl s:=by
 cases r with
 |ifr x a b=>trivial
 |again x a=>trivial
 |_=>simp[ib,jQ,nt,gX];lia
theorem ofs_inj(a b:String):(Vf a=Vf b)=(a=b):=by
 refine propext ⟨λh=>?_,by lia⟩
 rw[Str.ofString_eq_byList]at h;exact String.toList_inj.mp ((List.map_inj_right λx y=>Char.toNat_inj.mp).mp<|congrArg (λx:Str=>x.cps.toList) h)
end _T
open PySem _2 _3 _T
local macro_rules | `(tactic| simp! [$a,*]) => do let p <- ("FF Ep E4 EA Aa BW yl BN BE zS Bq At A5 Bo z8 A0 AV zP BH B5 Bg A4 A9 Aq A3 Al BS Bm BB kX Bw xW yQ yU rJ rj zX Hc GP G7 DV Ez Gq xu xo rR qJ tE ql rB sK sw ka qS ww Ex xz wN jg r_ o6 xB sM q_ qP qO gD rC rA tq qG rZ rD y9 z9 Ab GX rU sx qq sC qD rE qk gp za tT mz ke k9 yH A_ zL xY BI zY AX Bi zO xX Bb x_ zC Av AT yK yk yW Ap yE yt zT Ak As vy vG yS yd yf yZ yF y8 zk Bp yA Ac zH zn y0 AB zG BJ zU BP AF B3 Br zu z_ y6 yh zM yi AN z7 zy uA uJ uM Ax rG qx qC ig r8 qA sh la ze lj li kh qK lK zV Ao zN rL kF lb jZ kU k7 kx ki s_ oa qT rT sU sJ qy sk sV qU rY rV qQ md vD ie iP ng iB iL lB mj iO nR lF m9 mv nA nr mS qf qj ik sY tz qv kR zh sD nH xR wc j6 Ec GO wA He lq yc BO By zQ BR yY AK Ae B2 kW lc kJ ly lg j_ kg kG k_ iS mW Ga FI PP Dx yo Nh wF qE rW uR iX iu dk qH kT Be eK aI startN ah aG al cB Fs ai bM sS dv bT fits aR ii ac dC az kI aB gc oz P8 lV Lc oI lL iU av aM cN am frz bc jT eQ jC aq ag cX aL cO cH sW aa af aT bL bg bV dW bG dw dE O5 pQ Hh IV aW ck bn ko bv Ch Hn hZ jo fX eI cA Cr tL lI FW Rj CK dQ ci aj c_ gT bQ eh oX RB bq cV dg bU de pG frzT frzs Mo j8 tW xj".splitOn " ").toArray.mapM (fun s => `(Lean.Parser.Tactic.simpLemma| ↓$(Lean.mkIdent s.toName):ident)); let q <- ("List.map_cons List.map_nil List.cons_append List.nil_append List.length_cons List.length_nil List.getElem?_cons_succ List.getElem?_cons_zero List.set_cons_succ List.set_cons_zero Nat.zero_add Nat.reduceAdd Nat.reduceSub List.replicate_succ List.replicate_zero List.append_nil true_and and_true if_true if_false Bool.false_eq_true decide_eq_true_eq decide_eq_false_iff_not Bool.not_true Bool.not_false Bool.and_true Bool.true_and Bool.and_false Bool.false_and Mem.upd_same Option.isSome_some Option.isSome_none ofs_inj String.reduceEq".splitOn " ").toArray.mapM (fun s => `(Lean.Parser.Tactic.simpLemma| $(Lean.mkIdent s.toName):ident)); let r : Lean.TSyntaxArray [`Lean.Parser.Tactic.simpStar, `Lean.Parser.Tactic.simpErase, `Lean.Parser.Tactic.simpLemma] := (p.map (⟨·.raw⟩)) ++ (q.map (⟨·.raw⟩)) ++ a.getElems; `(tactic| simp -dsimp only [$r,*])
namespace _T
open PySem _2 _3
variable{ad:Ad}{c:Cf}{Q:DK}{E:DX}{m:Int}{names:Z_}{M:Mem}{r:Rw}{n:cw}
theorem jN{w:Str}{y z:Int}(b:0<m)(i:0<=y)(g:y<1000)(h:Q (.int<|AA w y z m) M):yu ad [.str w,.int y,.int z,.int m] M Q E:=by
 have f:CMul y z:=.inl ⟨by lia,by lia⟩
 unfold AA at h;simp![Q_,Ay]
 split
 .rename_i e;rw[if_pos e]at h;exact⟨b,ak h⟩
 rename_i e;rw[if_neg e]at h
 split
 .rename_i e;rw[if_pos e]at h;exact⟨f,b,ak h⟩
 rename_i e;rw[if_neg e]at h
 split
 .rename_i e;rw[if_pos e]at h
  split<;>rename_i a
  .rw[if_pos a]at h;exact ak h
  .rw[if_neg a]at h;exact ak h
 .rename_i e;rw[if_neg e]at h
  split<;>rename_i a
  .rw[if_pos a]at h;exact ak h
  .rw[if_neg a]at h;exact ak h
def cu(names:Z_)(m many:Int):Rw->Prop
 |.put x k=>x∈names/\0<=k/\k<m
 |.take x i=>x∈names/\0<=i/\i<many
 |.pick x y=>x∈names/\y∈names/\0<many
 |.two w x y z=>(w="sum"\/w="by"\/w="less"\/w="same")/\x∈names/\y∈names/\z∈names
 |_=>False
structure NOk(names:Z_)(m:Int)(n:cw):Prop where
 keys:n.map (·.1)=names
 rng:∀p∈n,0<=p.2/\p.2<m
theorem NOk.at(h:NOk names m n){x:Str}(f:x∈names):gN n x=ap (nm n x)/\0<=nm n x/\nm n x<m:=by
 have e:=LM (by rw[h.keys];exact f)
 refine⟨e,?_⟩;obtain⟨p,b,a⟩:=T7.mp e;rw[<- a];exact h.rng p (List.mem_of_find?_eq_some b)
theorem Ks{w:Str}{y z:Int}(g:2<=m):0<=AA w y z m/\AA w y z m<m:=by
 unfold AA;have b:=UH (y+z) (show m≠0 by lia)
 have e:=Uk (y+z) (show 0<m by lia)
 have f:=UH (y*z) (show m≠0 by lia)
 have a:=Uk (y*z) (show 0<m by lia)
 lia
structure COk(c:Cf):Prop where
 m2:2<=c.m
 m1:c.m<=997
 rng:∀v∈c.pieces,0<=v/\v<c.m
 few:c.pieces.length<=1000
 most:c.most<=10000
theorem COk.piece(h:COk c){i:Nat}(a:i<c.pieces.length):c.pieces[i]?=ap ((c.pieces[i]?).getD 0)/\0<=(c.pieces[i]?).getD 0/\(c.pieces[i]?).getD 0<c.m:=by
 rw[SG a];exact⟨rfl,h.rng _<|by simp_all⟩
theorem z0(h:COk c)(f:NOk names c.m n)(a:cu names c.m c.pieces.length r):0<=num c n r/\num c n r<c.m:=by
 cases r with
 |put x k=>exact a.2
 |take x i=>exact(h.piece<|by have:=a.2;lia).2
 |pick x y=>
  have b:=a.2.2;have e:=Uk (nm n y) b;exact(h.piece<|by lia).2
 |two w x y z=>exact Ks h.m2
 |ifr=>exact a.elim
 |again=>exact a.elim
noncomputable def aV(c:Cf)(names:Z_)(rows:List Rw)(mk:Str):D:=.tup [.int c.m,.tup (names.map D.str),.int (c.pieces.length:Nat),.tup (aC rows),.str mk]
theorem cg{rows:List Rw}{mk:Str}{b:cb}(f:NOk names c.m n)(a:cu names c.m c.pieces.length r)(g:M b=ap (.dK<|dO n))(h:Q (match r with|.take _ i=>.int i|.pick _ y=>.int (nm n y % (c.pieces.length:Int))|_=>.non) M):nh ad [aV c names rows mk,.ref b,r.d] M Q E:=by
 cases r with
 |put x k=>(simp![pe,io,Rw.d,atI_0];exact ak h)
 |take x i=>(simp![pe,io,Rw.d,atI_0];exact ak h)
 |pick x y=>
  simp![pe,io,Rw.d,atI_0,atI_2,g,bY,(f.at a.2.1).1];exact⟨a.2.2,ak h⟩
 |two w x y z=>
  obtain⟨e,_⟩:=a;rcases e with rfl|rfl|rfl|rfl<;>(simp![pe,io,aV,Rw.d,atI_0];exact ak h)
 |ifr=>exact a.elim
 |again=>exact a.elim
theorem mL{rows:List Rw}{mk:Str}{u:cb}(o:COk c)(e:NOk names c.m n)(b:cu names c.m c.pieces.length r)(f:M u=ap (.dK<|dO n))(h:Q (.int<|num c n r) M):o5 ad [aV c names rows mk,.ref u,.tup (c.pieces.map D.int),r.d] M Q E:=by
 have v:=o.m1;cases r with
 |put x k=>
  simp![jM,gk,Rw.d,atI_0];exact ak h
 |take x i=>
  have a:=b;obtain⟨p,j,G⟩:=a;have g:(c.pieces.map D.int)[i.toNat]?=ap (.int<|num c n<|.take x i):=by rw[SN,(o.piece (i:=i.toNat)<|by lia).1];rfl
  simp![jM,gk,aV,Rw.d,atI_0,atI_2];refine aK (d:=.int i) (λ_ _ q=>cg (c:=c) (names:=names) (rows:=rows) (mk:=mk) (r:=.take x i) e b f q) ?_;simp![bf j,g];exact ak h
 |pick x y=>
  have a:=b;obtain⟨p,s,j⟩:=a;have F:=Uk (nm n y) j;have g:(c.pieces.map D.int)[(nm n y % (c.pieces.length:Int)).toNat]?=ap (.int<|num c n<|.pick x y):=by rw[SN,(o.piece (i:=(nm n y % (c.pieces.length:Int)).toNat)<|by lia).1];rfl
  simp![jM,gk,aV,Rw.d,atI_0,atI_2];refine aK (d:=.int (nm n y % (c.pieces.length:Int))) (λ_ _ q=>cg (c:=c) (names:=names) (rows:=rows) (mk:=mk) (r:=.pick x y) e b f q) ?_;simp![bf (UH (nm n y) (show (c.pieces.length:Int)≠0 by lia)),g]
  exact ak h
 |two w x y z=>
  have a:=b;obtain⟨B,p,s,C⟩:=a;have A:=e.at s;have l:((w=Vf "put")=False):=by rcases B with rfl|rfl|rfl|rfl<;>exact eq_false (by decide +kernel)
  simp![jM,gk,aV,Rw.d,atI_0,atI_2,l];refine aK (d:=.non) (λ_ _ q=>cg (c:=c) (names:=names) (rows:=rows) (mk:=mk) e b f q) ?_;simp![atI_0,atI_2,atI_3,f,bY,A.1,(e.at C).1,Ua];exact aK (λ_ _ q=>jN (by lia) (by lia) (by lia) q) (ak h)
 |ifr=>exact b.elim
 |again=>exact b.elim
structure Wk where
 a:cb
 dn:cb
 ls:cb
 h1:a≠dn
 h2:a≠ls
 h3:dn≠ls
noncomputable def gI(l:Z9):D:=.tup (l.map D.int)
noncomputable def wq(l:List (List Int×Int)):List D:=l.map λp=>.tup [gI p.1,.int p.2]
noncomputable def wM(ad:Ad)(k:Wk)(c:Cf)(pD:D)(s:Sx)(M:Mem):Mem:=
 ((M.upd k.a<|.ins ad.C_Walk [("plan",pD),("numbers",.ref k.dn),("pieces",.tup (c.pieces.map D.int)),("most",.int (c.most:Nat)),("steps",.ref k.ls)]).upd k.dn<|.dK<|dO s.nums).upd k.ls (.lst<|wq s.steps)
section
variable{k:Wk}{pD:D}{s:Sx}
theorem oK:wM ad k c pD s M k.a=ap (.ins ad.C_Walk [("plan",pD),("numbers",.ref k.dn),("pieces",.tup (c.pieces.map D.int)),("most",.int (c.most:Nat)),("steps",.ref k.ls)]):=by
 unfold wM;rw[ae k.h2,ae k.h1,Mem.upd_same]
theorem AO:wM ad k c pD s M k.dn=ap (.dK<|dO s.nums):=by unfold wM;rw[ae k.h3,Mem.upd_same]
theorem Lk:wM ad k c pD s M k.ls=ap (.lst<|wq s.steps):=by unfold wM;simp_all
theorem Dm{x:List (List Int×Int)}:(wM ad k c pD s M).upd k.ls (.lst<|wq x)=wM ad k c pD ⟨s.nums,x⟩ M:=by unfold wM;simp_all
theorem Io{x:cw}:(wM ad k c pD s M).upd k.dn (.dK<|dO x)=wM ad k c pD ⟨x,s.steps⟩ M:=by
 unfold wM;rw[aA (Tu k.h3),Mem.upd_upd]
theorem lf0:TR ("plan":Str) [(("plan":Str),x0),(("numbers":Str),x1),(("pieces":Str),x2),(("most":Str),x3),(("steps":Str),x4)]=ap (x0:D):=rfl
theorem Hq:TR ("numbers":Str) [(("plan":Str),x0),(("numbers":Str),x1),(("pieces":Str),x2),(("most":Str),x3),(("steps":Str),x4)]=ap (x1:D):=rfl
theorem lf2:TR ("pieces":Str) [(("plan":Str),x0),(("numbers":Str),x1),(("pieces":Str),x2),(("most":Str),x3),(("steps":Str),x4)]=ap (x2:D):=rfl
theorem lf3:TR ("most":Str) [(("plan":Str),x0),(("numbers":Str),x1),(("pieces":Str),x2),(("most":Str),x3),(("steps":Str),x4)]=ap (x3:D):=rfl
theorem lf4:TR ("steps":Str) [(("plan":Str),x0),(("numbers":Str),x1),(("pieces":Str),x2),(("most":Str),x3),(("steps":Str),x4)]=ap (x4:D):=rfl
theorem lfm:TR ("note_step":Str) [(("plan":Str),x0),(("numbers":Str),x1),(("pieces":Str),x2),(("most":Str),x3),(("steps":Str),x4)]=(none:Option D):=rfl
theorem lfl:TR ("look":Str) [(("plan":Str),x0),(("numbers":Str),x1),(("pieces":Str),x2),(("most":Str),x3),(("steps":Str),x4)]=(none:Option D):=rfl
theorem g6{pl:Z9}{v:Int}(g:c.most<=10000)(b:(nt c pl v s).1=true->Q .non (wM ad k c pD (nt c pl v s).2 M))(e:(nt c pl v s).1=cp->E ad.C_Dry (wM ad k c pD (nt c pl v s).2 M)):
  xt ad [.ref k.a,gI pl,.int v] (wM ad k c pD s M) Q E:=by
 unfold nt at b e;simp![u_q2,Ka,oK,Lk,lf3,lf4,wq,SH]
 split
 .have:¬s.steps.length<c.most:=by lia
  rw[if_neg this]at e;exact dU (e rfl)
 have f:s.steps.length<c.most:=by lia
 rw[if_pos f]at b;refine⟨bo (by decide),fM (by lia),ak ?_⟩
 have:=b rfl;rw[<- Dm]at this;simpa [wq] using this
end
end _T
namespace _3
open PySem _2
noncomputable def fc:Nat->List D->List D
 |_,[]=>[]
 |k,x::xs=>.tup [.int (k:Nat),x]::fc (k+1) xs
theorem uI:∀(xs:List D)(k:Nat),(xs.zipIdx k).map (λp=>D.tup [.int (p.2:Nat),p.1])=fc k xs
 |[],_=>rfl
 |x::xs,k=>by rw[Wa,SJ,uI xs _];rfl
theorem og(xs:List D):tR xs=fc 0 xs:=uI xs 0
theorem aN{xs:List D}{M:Mem}:DIt.ok ⟨xs,[]⟩ M:=λ_ h=>by cases h
end _3
namespace _T
open PySem _2 _3
variable{ad:Ad}{b l ln lp rm:cb}{c:Cf}{C:Cse}{D' D0:DEnds}{K Q:DK}{E EE:DX}{U:Dl}{g:Gs}{a hh left m many sd v:Int}{ns nums ps xs:Z9}{Z3 rest rows Z7 rs td:List Rw}{names:Z_}{ks u us:List aF}{o:MO}{M M' M0 N:Mem}{L fi i j n:Nat}{r:Rw}{z:Sta}{mk w x y:Str}{s:Sx}{q:aF}{A:ar}{te:b6}{n1 n2:cw}
mutual
def dN(names:Z_)(m many:Int):Rw->Prop
 |.ifr x a b=>x∈names/\ba names m many a/\ba names m many b
 |.again x a=>x∈names/\ba names m many a
 |.put x k=>cu names m many (.put x k)
 |.take x k=>cu names m many (.take x k)
 |.pick x k=>cu names m many (.pick x k)
 |.two w x y z=>cu names m many (.two w x y z)
def ba(names:Z_)(m many:Int):List Rw->Prop
 |[]=>True
 |r::rs=>dN names m many r/\ba names m many rs
end
mutual
noncomputable def hR:Rw->Nat
 |.ifr _ a b=>1+max (cU a) (cU b)
 |.again _ a=>1+cU a
 |_=>0
noncomputable def cU:List Rw->Nat
 |[]=>0
 |r::rs=>max (hR r) (cU rs)
end
section
theorem Eb{n:cw}(f:NOk names c.m n)(B:0<=v/\v<c.m):NOk names c.m (sN n x v):=by
 refine⟨by rw[iE];exact f.keys,λp e=>?_⟩
 simp only[sN,SV]at e;obtain⟨q,h,rfl⟩:=e
 split
 .exact B
 exact f.rng q h
theorem fB{pl:Z9}:(nt c pl v s).2.nums=s.nums:=by unfold nt;split<;>rfl
theorem kE(f:COk c)(h:cu names c.m c.pieces.length r){pl:Z9}(e:NOk names c.m s.nums):NOk names c.m (jQ c r pl s).2.nums:=by
 unfold jQ
 split
 .exact Eb e (z0 f e h)
 exact e
theorem ya{x:Str}{pl:Z9}{e:Nat->Sx->Bool×Sx}(B:∀t s,NOk names c.m s.nums->NOk names c.m (e t s).2.nums):∀(f t:Nat)(s:Sx),NOk names c.m s.nums->NOk names c.m (e_ c x pl e f t s).2.nums
 |0,_,s,h=>h
 |f+1,t,s,h=>by
  have p:NOk names c.m (nt c (pl++[(t:Int)]) (lk s.nums x) s).2.nums:=by rw[fB];exact h
  unfold e_
  split
  .split
   .split
    .exact ya B f _ _ (B t _ p)
    simp_all
   exact p
  exact p
mutual
theorem qV(e:COk c):∀(r:Rw),dN names c.m c.pieces.length r->∀(pl:Z9)(s:Sx),NOk names c.m s.nums->NOk names c.m (ib c r pl s).2.nums
 |.ifr x a b,h,pl,s,hn=>by
  have f:NOk names c.m (nt c pl (lk s.nums x) s).2.nums:=by rw[fB];exact hn
  simp only[dN]at h;unfold ib
  split
  .split
   .exact da e a h.2.1 _ _ _ f
   .exact da e b h.2.2 _ _ _ f
  .exact f
 |.again x a,h,pl,s,hn=>by
  simp only[dN]at h;unfold ib;exact ya (λt s p=>da e a h.2 _ _ _ p) _ _ _ hn
 |.put x k,h,pl,s,hn=>by rw[cC rfl];exact kE e (by simpa only[dN] using h) hn
 |.take x k,h,pl,s,hn=>by rw[cC rfl];exact kE e (by simpa only[dN] using h) hn
 |.pick x k,h,pl,s,hn=>by rw[cC rfl];exact kE e (by simpa only[dN] using h) hn
 |.two w x y z,h,pl,s,hn=>by rw[cC rfl];exact kE e (by simpa only[dN] using h) hn
theorem da(e:COk c):∀(rs:List Rw),ba names c.m c.pieces.length rs->∀(pl:Z9)(j:Nat)(s:Sx),NOk names c.m s.nums->NOk names c.m (bI c rs pl j s).2.nums
 |[],_,_,_,s,hn=>by simpa only[bI] using hn
 |r::rs,h,pl,j,s,hn=>by
  simp only[ba]at h;unfold bI
  split
  .exact da e rs h.2 _ _ _ (qV e r h.1 _ _ hn)
  .exact qV e r h.1 _ _ hn
end
end
def Post(ad:Ad)(k:Wk)(c:Cf)(pD:D)(r:Bool×Sx)(M:Mem)(d:D)(Q:DK)(E:DX):Prop:=(r.1=true->Q d (wM ad k c pD r.2 M))/\(r.1=cp->E ad.C_Dry (wM ad k c pD r.2 M))
theorem bz{k:Wk}{f:D}{r:Bool×Sx}{d:D}{T:Sd}{ds:List D}(F:∀Q' E',Post ad k c f r M d Q' E'->T ds M0 Q' E'){b:BxQ E Q}(h:Post ad k c f r M d Q E):calls T E ds M0 Q b:=
 ao λQ' E' p B=>F Q' E' ⟨λe=>p _ _ (h.1 e),λe=>B _ _ (h.2 e)⟩
theorem Post.drp{k:Wk}{f:D}{r:Bool×Sx}{d:D}(h:Post ad k c f r M d Q E):Post ad k c f r M d (_3.drp Q) (aJ E):=⟨λe=>ak (h.1 e),λe=>dU (h.2 e)⟩
section
variable{k:Wk}
theorem pX{pl:Z9}(F:COk c)(B:NOk names c.m s.nums)(p:x∈names)(h:Post ad k c (aV c names Z7 mk) (nt c pl (lk s.nums x) s) M (.int<|lk s.nums x) Q E):
  p8 ad [.ref k.a,gI pl,.str x] (wM ad k c (aV c names Z7 mk) s M) Q E:=by
 have f:∀v:Int,v=lk s.nums x->calls (xt ad) (aJ E) [.ref k.a,gI pl,.int v] (wM ad k c (aV c names Z7 mk) s M) (λ_ M1=>_3.drp Q (.int v) M1) ⟨⟩:=by
  rintro v rfl
  exact bz (λQ' E' z=>g6 F.most z.1 z.2) ⟨λe=>ak (h.1 e),λe=>dU (h.2 e)⟩
 simp![Qb,AQ,oK,AO,Hq,lfm,bY,(B.at p).1,Ua]
 split
 .rename_i e
  exact f 0 (by unfold lk;rw[if_pos e])
 rename_i e
 exact f 1 (by unfold lk;rw[if_neg e])
theorem jc(h:cu names m many r):∃w rest,r.d=.tup (.str w::.str (gX r)::rest)/\(w="again")=False/\(w="if")=False:=by
 cases r with
 |two w x y z=>
  refine⟨_,_,rfl,?_⟩;rcases h.1 with rfl|rfl|rfl|rfl
  .exact⟨by trivial,(eq_false<|by decide +kernel)⟩
  .exact⟨(eq_false<|by decide +kernel),(eq_false<|by decide +kernel)⟩
  .exact⟨(eq_false<|by decide +kernel),(eq_false<|by decide +kernel)⟩
  exact⟨(eq_false<|by decide +kernel),(eq_false<|by decide +kernel)⟩
 |ifr=>exact h.elim
 |again=>exact h.elim
 |_=>exact⟨_,_,rfl,(eq_false<|by decide +kernel),(eq_false<|by decide +kernel)⟩
theorem sB{pl:Z9}(R:names.length<=1000)(O:COk c)(H:NOk names c.m s.nums)(f:cu names c.m c.pieces.length r)(h:Post ad k c (aV c names Z7 mk) (jQ c r pl s) M .non Q E):
  Yo ad (n+1) [.ref k.a,r.d,gI pl] (wM ad k c (aV c names Z7 mk) s M) Q E:=by
 obtain⟨w,rest,J,G,F⟩:=jc f;have fin:calls (o5 ad) (aJ E) [aV c names Z7 mk,.ref k.dn,.tup (c.pieces.map D.int),r.d] (wM ad k c (aV c names Z7 mk) s M) (λd M'=>frz d M' λx M1=>
   ag 3 x [ap (.ref k.a),ap r.d,ap (gI pl),bb] M1 λU M2=>ah (bn<|c_ ad.C_Walk "note_step" (xt ad) (aJ E) 3 (ac 0)<|aa (ac 2)<|aa (ac 3) af)
    (aq (ac 3)<|cH (aW ad.C_Walk (ac 0) "numbers")<|ai av (ac 1)<|dC<|.int 1) { nx:=λ_ M'=>_3.drp Q .non M',rt:=_3.drp Q } U M2) ⟨⟩:=by
  refine aK (λ_ _ q=>mL O H f AO q) ?_;simp![oK,lfm];refine bz (λQ' E' z=>g6 O.most z.1 z.2) ?_;unfold jQ at h;unfold nt;have e:gX r∈s.nums.map (·.1):=by
   rw[H.keys];cases r with
   |two w x y z=>exact f.2.1
   |ifr=>exact f.elim
   |again=>exact f.elim
   |_=>exact f.1
  split
  .rename_i B
   rw[if_pos B]at h;refine⟨λ_=>?_,by lia⟩
   have I:=h.1 rfl;have P:wM ad k c (aV c names Z7 mk) ⟨sN s.nums (gX r) (num c s.nums r),s.steps++[(pl,num c s.nums r)]⟩ M=(wM ad k c (aV c names Z7 mk) ⟨s.nums,s.steps++[(pl,num c s.nums r)]⟩ M).upd k.dn (.dK<|dL (dO s.nums) (TB<|gX r)<|.int<|num c s.nums r):=by
    rw[lh e,Io]
   rw[P]at I;have p:(dO s.nums).length<sizeLine:=by rw[dO,SH,<- SH,H.keys];exact fM (by lia)
   rw[J];simp![oK,AO,Hq,atI_1];exact⟨p,ak I⟩
  .rename_i B
   rw[if_neg B]at h;exact⟨by lia,λ_=>dU (h.2 rfl)⟩
 rw[J]at fin ⊢;simp![FU,pZ,oK,lf0,Hq,lf2,atI_0,G,F];exact fin
end
section
def Gr(c:Cf)(s s':Sx):Prop:=s.steps.length<=s'.steps.length/\(s.steps.length<=c.most->s'.steps.length<=c.most)
theorem Gr.refl:Gr c s s:=⟨by lia,id⟩
theorem Gr.trans{e f:Sx}(a:Gr c s e)(b:Gr c e f):Gr c s f:=⟨SX a.1 b.1,λh=>b.2 (a.2 h)⟩
theorem nt_gr{pl:Z9}:Gr c s (nt c pl v s).2:=by
 unfold nt
 split
 .refine⟨by simp,λ_=>?_⟩;simp;lia
 exact Gr.refl
theorem kf{pl:Z9}:Gr c s (jQ c r pl s).2:=by
 unfold jQ
 split
 .refine⟨by simp,λ_=>?_⟩;simp;lia
 exact Gr.refl
theorem zi{x:Str}{pl:Z9}{e:Nat->Sx->Bool×Sx}(h:∀t s,Gr c s (e t s).2):∀(f t:Nat)(s:Sx),Gr c s (e_ c x pl e f t s).2
 |0,_,s=>Gr.refl
 |f+1,t,s=>by
  unfold e_
  split
  .split
   .split
    .exact nt_gr.trans ((h t _).trans<|zi h f _ _)
    exact nt_gr.trans (h t _)
   exact nt_gr
  exact nt_gr
mutual
theorem qY:∀(r:Rw)(pl:Z9)(s:Sx),Gr c s (ib c r pl s).2
 |.ifr x a b,pl,s=>by
  unfold ib
  split
  .split
   .exact nt_gr.trans (fk a _ _ _)
   .exact nt_gr.trans (fk b _ _ _)
  .exact nt_gr
 |.again x a,pl,s=>by
  unfold ib;exact zi (λt s=>fk a _ _ _) _ _ _
 |.put x k,pl,s=>by rw[cC rfl];exact kf
 |.take x k,pl,s=>by rw[cC rfl];exact kf
 |.pick x k,pl,s=>by rw[cC rfl];exact kf
 |.two w x y z,pl,s=>by rw[cC rfl];exact kf
theorem fk:∀(rs:List Rw)(pl:Z9)(j:Nat)(s:Sx),Gr c s (bI c rs pl j s).2
 |[],_,_,s=>by unfold bI;exact Gr.refl
 |r::rs,pl,j,s=>by
  unfold bI
  split
  .exact(qY r _ _).trans (fk rs _ _ _)
  .exact qY r _ _
end
end
theorem g7{pl:Z9}:D.tup (pl.map D.int++[D.int v])=gI (pl++[v]):=by simp[gI]
section
variable{k:Wk}
def Az(ad:Ad)(k:Wk)(c:Cf)(names:Z_)(Z7:List Rw)(mk:Str)(n:Nat):Prop:=∀(rs:List Rw)(pl:Z9)(s:Sx)(M:Mem)(Q:DK)(E:DX),ba names c.m c.pieces.length rs->3*cU rs+2<=n->pl.length+2*cU rs+2<=1000->NOk names c.m s.nums->s.steps.length<=c.most->
 Post ad k c (aV c names Z7 mk) (bI c rs pl 0 s) M .non Q E->Ym ad n [.ref k.a,.tup (aC rs),gI pl] (wM ad k c (aV c names Z7 mk) s M) Q E
def Mp(ad:Ad)(k:Wk)(c:Cf)(names:Z_)(Z7:List Rw)(mk:Str)(n:Nat):Prop:=∀(r:Rw)(pl:Z9)(s:Sx)(M:Mem)(Q:DK)(E:DX),dN names c.m c.pieces.length r->3*hR r+1<=n->pl.length+2*hR r+1<=1000->NOk names c.m s.nums->s.steps.length<=c.most->
 Post ad k c (aV c names Z7 mk) (ib c r pl s) M .non Q E->Yo ad n [.ref k.a,r.d,gI pl] (wM ad k c (aV c names Z7 mk) s M) Q E
def PIf(ad:Ad)(k:Wk)(c:Cf)(names:Z_)(Z7:List Rw)(mk:Str)(n:Nat):Prop:=∀(x:Str)(a b:List Rw)(pl:Z9)(s:Sx)(M:Mem)(Q:DK)(E:DX),dN names c.m c.pieces.length (.ifr x a b)->3*hR (.ifr x a b)<=n->pl.length+2*hR (.ifr x a b)+1<=1000->NOk names c.m s.nums->s.steps.length<=c.most->
 Post ad k c (aV c names Z7 mk) (ib c (.ifr x a b) pl s) M .non Q E->Yp ad n [.ref k.a,(Rw.ifr x a b).d,gI pl] (wM ad k c (aV c names Z7 mk) s M) Q E
def PAg(ad:Ad)(k:Wk)(c:Cf)(names:Z_)(Z7:List Rw)(mk:Str)(n:Nat):Prop:=∀(x:Str)(a:List Rw)(pl:Z9)(s:Sx)(M:Mem)(Q:DK)(E:DX),dN names c.m c.pieces.length (.again x a)->3*hR (.again x a)<=n->pl.length+2*hR (.again x a)+1<=1000->NOk names c.m s.nums->s.steps.length<=c.most->
 Post ad k c (aV c names Z7 mk) (ib c (.again x a) pl s) M .non Q E->Yq ad n [.ref k.a,(Rw.again x a).d,gI pl] (wM ad k c (aV c names Z7 mk) s M) Q E
theorem D3(T:COk c)(W:Mp ad k c names Z7 mk n):Az ad k c names Z7 mk (n+1):=by
 intro rs pl s M Q E p R H B F h;simp![Sw,Au,eA,og]
 refine cy (λxs U M'=>∃(f:List Rw)(j:Nat)(G:Sx)(S P:Option D),xs=fc j (aC f)/\U=[ap _,ap _,ap _,S,P]/\M'=wM ad k c _ G M/\ba _ c.m _ f/\3*cU f+2<=n+1/\pl.length+2*cU f+2<=1000/\NOk _ _ G.nums/\G.steps.length<=c.most/\
  Post ad k c _ (bI c f pl j G) M _ Q E) (λ_ _ _ _=>aN) ?_ ?_ _ _ _ ⟨rs,0,s,_,_,rfl,rfl,rfl,p,R,H,B,F,h⟩
 .rintro U M' ⟨f,j,G,S,P,J,rfl,rfl,p,R,H,B,F,h⟩
  cases f with
  |nil=>exact ak (by simpa [bI] using h.1 (by simp[bI]))
  |cons r rs=>trivial
 rintro x xs U M' ⟨f,j,G,S,P,J,rfl,rfl,p,R,H,B,F,h⟩ D' O _ _ _
 cases f with
 |nil=>simp[aC,fc]at J
 |cons r f=>
  simp only[aC,fc,Ue]at J;obtain⟨rfl,rfl⟩:=J;simp only[ba]at p;have X:hR r<=cU (r::f)/\cU f<=cU (r::f):=by simp only[cU];lia
  simp![gI,Tq,SH];refine⟨bo (by decide),bo (by lia),?_⟩
  rw[g7];refine bz (r:=ib c r (pl++[(j:Int)]) G) (d:=.non) (λQ' E' z=>W r (pl++[(j:Int)]) G M Q' E' p.1 (by lia) (by simp;lia) B F z) ?_
  simp only[bI]at h;cases I:(ib c r (pl++[(j:Int)]) G).1 with
  |true=>
   rw[if_pos I]at h;refine⟨λ_=>O _ _ ⟨f,j+1,_,_,_,rfl,rfl,rfl,p.2,by lia,by lia,qV T r p.1 _ _ B,(qY r _ _).2 F,h⟩,λe=>by rw[I]at e;cases e⟩
  |false=>
   rw[if_neg (by rw[I];simp)]at h
   exact⟨λe=>(by rw[I]at e;cases e),λ_=>dU (h.2 I)⟩
theorem EM(G:names.length<=1000)(I:COk c)(F:PIf ad k c names Z7 mk n)(H:PAg ad k c names Z7 mk n):Mp ad k c names Z7 mk (n+1):=by
 intro r pl s M Q E p J B e f h;cases r with
 |ifr x a b=>
  simp![FU,pZ,Rw.d,atI_0];exact bz (λQ' E'=>F x a b pl s M Q' E' p (by lia) B e f) h.drp
 |again x a=>
  simp![FU,pZ,Rw.d,atI_0];exact bz (λQ' E'=>H x a pl s M Q' E' p (by lia) B e f) h.drp
 |_=>rw[cC rfl]at h;exact sB G I e (by assumption) h
theorem HU(O:COk c)(I:Az ad k c names Z7 mk n):PIf ad k c names Z7 mk (n+1):=by
 intro x a b pl s M Q E p J H B G h;simp only[hR]at J H;simp![R_,B7,Rw.d,oK,lfl,atI_1,atI_2,atI_3];refine bz (λQ' E' z=>pX O B p.1 z) ?_;have hl:lk s.nums x=0\/lk s.nums x=1:=by unfold lk;split<;>simp
 have e:NOk names c.m (nt c pl (lk s.nums x) s).2.nums:=by rw[fB];exact B
 have f:=(nt_gr (pl:=pl) (v:=lk s.nums x)).2 G;unfold ib at h;cases F:(nt c pl _ s).1 with
 |false=>
  rw[if_neg (by rw[F];simp)]at h
  exact⟨by lia,λ_=>dU (h.2 F)⟩
 |true=>
  rw[if_pos F]at h;refine⟨λ_=>?_,by lia⟩
  rcases hl with hl|hl
  .rw[hl]at h e f ⊢
   simp![atI_2,atI_3,gI,SH];refine⟨bo (by decide),bo (by lia),?_⟩
   rw[g7];exact bz (λQ' E' z=>I b _ _ M Q' E' p.2.2 (by lia) (by simp;lia) e f z) h.drp
  .rw[hl]at h e f ⊢
   simp![atI_2,atI_3,gI,SH];refine⟨bo (by decide),bo (by lia),?_⟩
   rw[g7];exact bz (λQ' E' z=>I a _ _ M Q' E' p.2.1 (by lia) (by simp;lia) e f z) h.drp
end
section
variable{k:Wk}
theorem wS(hc:COk c)(ih:Az ad k c names Z7 mk n):PAg ad k c names Z7 mk (n+1):=by
 intro x a pl s M Q E J hn W B I h;simp only[dN]at J;simp only[hR]at hn W;refine⟨c.most+1,?_⟩;unfold ib at h
 have T:∀(f t:Nat)(s:Sx)(R:eW)(O:ar)(DD:DEnds)(b:BxW R O DD),NOk names c.m s.nums->s.steps.length<=c.most->c.most<s.steps.length+f->
   R=al (ai bM (am<|c_ ad.C_Walk "look" (p8 ad) (aJ E) 3 (ac 0)<|aa (ai bc (ac 2)<|aT<|aa (ac 3) af)<|aa (ai av (ac 1)<|dC<|.int 1) af)<|dC<|.int 1)->
   O=ah (bn<|aj (Ym ad n) (aJ E) 3<|aa (ac 0)<|aa (ai av (ac 1)<|dC<|.int 2)<|aa (ai bc (ac 2)<|aT<|aa (ac 3) af) af) (FW 3 (dC<|.int 1) DN)->
   DD.nx=(λ_ M'=>_3.drp Q .non M')->
   Post ad k c (aV c names Z7 mk) (e_ c x pl (λt s=>bI c a (pl++[(t:Int)]) 0 s) f t s) M .non Q E->
   cz R O DD b f [ap (.ref k.a),ap (.tup [.str "again",.str x,.tup (aC a)]),ap (gI pl),ap (.int (t:Int))] (wM ad k c (aV c names Z7 mk) s M):=by
  intro f
  induction f with
  |zero=>intro t s R O DD b B I hf;lia
  |succ f ihf=>
   intro t s R O DD b B I hf Y X S h;unfold cz;subst Y;simp![oK,lfl,atI_1,gI,Tq,SH];refine⟨bo (by decide),bo (by lia),?_⟩
   rw[g7];refine bz (d:=.int (lk s.nums x)) (λQ' E' z=>pX hc B J.1 z) ?_;have hl:lk s.nums x=0\/lk s.nums x=1:=by unfold lk;split<;>simp
   have p:NOk names c.m (nt c (pl++[(t:Int)]) (lk s.nums x) s).2.nums:=by rw[fB];exact B
   have F:=(nt_gr (c:=c) (pl:=pl++[(t:Int)]) (v:=lk s.nums x) (s:=s)).2 I;unfold e_ at h;cases H:(nt c (pl++[(t:Int)]) (lk s.nums x) s).1 with
   |false=>
    rw[if_neg (by rw[H];simp)]at h
    exact⟨λe=>(by rw[H]at e;cases e),λ_=>dU (h.2 H)⟩
   |true=>
    rw[if_pos H]at h;refine⟨λ_=>?_,λe=>by rw[H]at e;cases e⟩
    have P:(nt c (pl++[(t:Int)]) (lk s.nums x) s).2.steps.length=s.steps.length+1:=by
     unfold nt at H ⊢
     split at H
     .rename_i q;rw[if_pos q];simp
     .cases H
    rcases hl with hl|hl
    .rw[hl]at h ⊢
     simp![show ((0:Int)=1)=False from eq_false (by decide)]
     rw[S];rw[hl]at H;exact ak (h.1 H)
    .rw[if_pos hl]at h
     rw[hl]at h p F P ⊢;simp![];subst X;simp![atI_2,gI,Tq,SH];refine⟨bo (by decide),bo (by lia),?_⟩
     rw[g7];refine bz (λQ' E' z=>ih a (pl++[(t:Int)]) _ M Q' E' J.2 (by lia) (by simp;lia) p F z) ?_
     have Z:=fk (c:=c) a (pl++[(t:Int)]) 0 (nt c (pl++[(t:Int)]) 1 s).2;cases G:(bI c a (pl++[(t:Int)]) 0 (nt c (pl++[(t:Int)]) 1 s).2).1 with
     |true=>
      rw[if_pos G]at h;refine⟨λ_=>?_,λe=>by rw[G]at e;cases e⟩
      simp![];exact ihf (t+1) _ _ _ _ _ (da hc a J.2 _ _ _ p) (Z.2 F) (by have:=Z.1;lia) rfl rfl S h
     |false=>
      rw[if_neg (by rw[G];simp)]at h
      exact⟨λe=>(by rw[G]at e;cases e),λ_=>dU (h.2 G)⟩
 exact T (c.most+1) 0 s _ _ _ _ B I (by lia) rfl rfl rfl h
theorem tS(f:names.length<=1000)(e:COk c):∀n:Nat,Az ad k c names Z7 mk n/\Mp ad k c names Z7 mk n/\PIf ad k c names Z7 mk n/\PAg ad k c names Z7 mk n
 |0=>⟨λrs pl s M Q E _ h=>by lia,λr pl s M Q E _ h=>by lia,λx a b pl s M Q E _ h=>by simp[hR]at h;lia,λx a pl s M Q E _ h=>by simp[hR]at h;lia⟩
 |n+1=>by
  obtain⟨p,B,F,G⟩:=tS f e n;exact⟨D3 e B,EM f e F G,HU e p,wS e p⟩
end
theorem tU:∀(names:Z_)(nums:Z9)(Z3:cw),names.length=nums.length->(Z3.map (·.1)++names).Nodup->
  ((names.map λx=>(TB x:aF)).zip<|nums.map D.int).foldl (λa p=>dL a p.1 p.2) (dO Z3)=dO (Z3++names.zip nums)
 |[],nums,Z3,_,_=>by simp
 |x::names,[],Z3,h,_=>by simp at h
 |x::names,v::nums,Z3,h,nd=>by
  have G:x∉Z3.map (·.1):=by
   exact λJ=>((V2.mp nd).2.2) x J x (by simp) rfl
  have f:((dO Z3).any λI=>decide (I.1=TB x))=false:=by
   rw[List.any_eq_false];intro p B;simp only[dO,SV]at B;obtain⟨q,F,rfl⟩:=B;simp only[decide_eq_true_eq];intro e;exact G (by rw[<- (Sum.inr.inj e)];exact Tx F)
  simp;have H:dL (dO Z3) (TB x) (.int v)=dO (Z3++[(x,v)]):=by
   unfold dL;rw[f];simp[dO]
  rw[H,tU _ _ _ (by simpa using h) (by simp_all)]
  simp
theorem dS:∀names:List Str,eI (names.map D.str)=ap (names.map λx=>(TB x:aF))
 |[]=>rfl
 |x::names=>by simp[eI,cA,dS _]
theorem f_(h:names.length=nums.length)(nd:names.Nodup):KY (names.map λx=>(TB x:aF)) (nums.map D.int)=dO (names.zip nums):=by
 have:=tU _ _ [] h (by trivial)
 assumption
theorem dp1{d:D}:bK "plan" d []=[(("plan":Str),d)]:=rfl
theorem dp2{a d:D}:bK "numbers" d [(("plan":Str),a)]=[(("plan":Str),a),(("numbers":Str),d)]:=rfl
theorem dp3{a b d:D}:bK "pieces" d [(("plan":Str),a),(("numbers":Str),b)]=[(("plan":Str),a),(("numbers":Str),b),(("pieces":Str),d)]:=rfl
theorem dp4{a b e d:D}:bK "most" d [(("plan":Str),a),(("numbers":Str),b),(("pieces":Str),e)]=[(("plan":Str),a),(("numbers":Str),b),(("pieces":Str),e),(("most":Str),d)]:=rfl
theorem dp5{a b e g d:D}:bK "steps" d [(("plan":Str),a),(("numbers":Str),b),(("pieces":Str),e),(("most":Str),g)]=[(("plan":Str),a),(("numbers":Str),b),(("pieces":Str),e),(("most":Str),g),(("steps":Str),d)]:=rfl
noncomputable def bA(nums pieces:Z9):D:=.tup [.tup (nums.map D.int),.tup (pieces.map D.int)]
section
theorem CA{a:cb}(O:M a=bb)(G:names.length=nums.length)(H:names.Nodup)(I:0<names.length)(J:names.length<=1000)(h:∀(k:Wk),k.a=a->M k.dn=bb->M k.ls=bb->Q .non (wM ad k c (aV c names rows mk) ⟨names.zip nums,[]⟩ M)):
  Ij ad [.ref a,aV c names rows mk,bA nums c.pieces,.int (c.most:Nat)] (M.upd a<|.ins ad.C_Walk []) Q E:=by
 simp![u_q7,JV,aV,bA,Mem.upd_upd,atI_0,atI_1,dS,SH,dp1];refine⟨by decide,G,I,J,λdn p=>?_⟩
 have n1:=Mem.ne Mem.upd_same p;have B:M dn=none:=by rw[ae (Tu n1)]at p;exact p
 simp![ae n1,dp2,aA (Tu n1),Mem.upd_upd,f_ G H];refine⟨by simp,?_⟩
 simp![dp3,Mem.upd_upd];refine⟨by simp,?_⟩
 simp![dp4,Mem.upd_upd];refine⟨by simp,by trivial,λls f=>?_⟩
 have n2:a≠ls:=by
  rintro rfl
  rw[ae n1,Mem.upd_same]at f;cases f
 have F:dn≠ls:=by
  intro e;simp_all
 simp![ae n2,ae n1,Mem.upd_same,dp5];refine⟨by simp,ak ?_⟩
 have:=h ⟨a,dn,ls,n1,n2,F⟩ rfl B (by rw[ae (Tu F),ae (Tu n2)]at f;exact f)
 have e:wM ad ⟨a,dn,ls,n1,n2,F⟩ c (aV c names rows mk) ⟨names.zip nums,[]⟩ M=(((M.upd a<|.ins ad.C_Walk [("plan",aV c names rows mk),("numbers",.ref dn),("pieces",.tup (c.pieces.map D.int)),("most",.int (c.most:Nat))]).upd dn<|.dK<|dO<|names.zip nums).upd ls<|.lst []).upd a (.ins ad.C_Walk [("plan",aV c names rows mk),("numbers",.ref dn),("pieces",.tup (c.pieces.map D.int)),("most",.int (c.most:Nat)),("steps",.ref ls)]):=by
  unfold wM;rw[aA (Tu n2),aA (Tu n1),Mem.upd_upd];rfl
 rw[e]at this;exact this
noncomputable def cW(c:Cf)(names:Z_)(rows:List Rw)(nums:Z9):Bool×Sx:=bI c rows [] 0 ⟨names.zip nums,[]⟩
noncomputable def df(names:Z_)(r:Bool×Sx):D:=if r.1=true then .tup (names.map λx=>.int (nm r.2.nums x)) else .non
structure PlOk(c:Cf)(names:Z_)(rows:List Rw)(nums:Z9):Prop where
 co:COk c
 ln:names.length=nums.length
 nd:names.Nodup
 l0:0<names.length
 l1:names.length<=1000
 rng:∀v∈nums,0<=v/\v<c.m
 ok:ba names c.m c.pieces.length rows
 h:cU rows<=7
theorem gg:∀{names:Z_}{nums:Z9},names.length=nums.length->(names.zip nums).map (·.1)=names
 |[],[],_=>rfl
 |[],_::_,h=>by simp at h
 |_::_,[],h=>by simp at h
 |x::xs,v::vs,h=>by simp[gg (by simpa using h)]
theorem PlOk.nok(p:PlOk c names rows nums):NOk names c.m (names.zip nums):=⟨gg p.ln,λq e=>p.rng _ (Vz e).2⟩
theorem EG(p:PlOk c names rows nums)(h:∀l,M l=bb->Q (.tup [.ref l,df names (cW c names rows nums)]) (M.upd l<|.lst<|wq (cW c names rows nums).2.steps)):
  uS ad [aV c names rows mk,bA nums c.pieces,.int (c.most:Nat)] M Q E:=by
 simp![RG,yL];intro a Y;refine ao λQ' E' R _=>CA Y p.ln p.nd p.l0 p.l1 λk hk S G=>R _ _ ?_;subst hk;have f:∀(J:Sx),∀b o,(M.upd k.ls<|.lst<|wq J.steps) b=ap o->wM ad k c (aV c names rows mk) J M b=ap o:=by
  intro J b o e
  by_cases I:b=k.ls
  .subst I;rw[Mem.upd_same]at e;rw[Lk];exact e
  .rw[ae I]at e
   have h2:b≠k.dn:=by rintro rfl;rw[S]at e;cases e
   have h3:b≠k.a:=by rintro rfl;rw[Y]at e;cases e
   unfold wM;rw[ae I,ae h2,ae h3];exact e
 have X:=(tS (ad:=ad) (k:=k) (Z7:=rows) (mk:=mk) p.l1 p.co 24).1 rows [] ⟨names.zip nums,[]⟩ M;unfold aV at X;simp![aV,atI_3];refine⟨bo (by decide),?_⟩
 refine ao λQ2 E2 W P=>X Q2 E2 p.ok (by have:=p.h;lia) (by have:=p.h;simp;lia) p.nok (Uj _) ⟨λe=>W _ _ ?_,λe=>P _ _ ⟨rfl,?_⟩⟩
 .have hn:NOk names c.m (cW c names rows nums).2.nums:=da p.co rows p.ok [] 0 ⟨names.zip nums,[]⟩ p.nok
  have T:(cW c names rows nums).1=true:=e;simp![oK,lf4,atI_1,aO]
  refine bN (λxs Z3 U M'=>∃n1 n2 H,names=n1++n2/\xs=n2.map D.str/\Z3=n1.map (λx=>D.int (nm (cW c names rows nums).2.nums x))/\U=[H,ap (.ref k.a)]/\M'=wM ad k c (aV c names rows mk) (cW c names rows nums).2 M)
   (λ_ _ _ _ _=>aN) ?_ ?_ ?_ _ _ _ _ ⟨[],names,bb,rfl,rfl,rfl,rfl,rfl⟩
  .rintro Z3 U M' ⟨n1,n2,H,B,F,rfl,rfl,rfl⟩
   have:n2=[]:=by cases n2 with|nil=>rfl|cons _ _=>simp at F
   subst this;intro q R;simp![Mem.upd_upd,Mem.upd_del,au R];refine⟨bo (by decide),⟨_,f _,?_⟩⟩
   have:=h k.ls G;unfold df at this;rw[if_pos T]at this;have en:n1=names:=by simpa using B.symm
   rw[en];exact this
  .rintro x xs Z3 U M' ⟨n1,n2,H,B,F,rfl,rfl,rfl⟩ N hN _
   cases n2 with
   |nil=>simp at F
   |cons y n2=>
    simp only[SJ,Ue]at F;obtain⟨rfl,rfl⟩:=F;have Z:y∈names:=by rw[B];simp
    simp![oK,AO,Hq,bY,(hn.at Z).1,Ua];refine hN _ _ _ ?_ ⟨n1++[y],n2,_,by simp[B],rfl,by simp,rfl,rfl⟩
    have O:=congrArg UN B;have:=p.l1;simp at O ⊢;exact fM (by lia)
  .rintro x xs Z3 U M' ⟨n1,n2,H,B,F,rfl,rfl,rfl⟩
   have O:=congrArg UN B;have:=p.l1;simp at O ⊢;exact fM (by lia)
 .have T:(cW c names rows nums).1=false:=e
  simp![oK,lf4];refine⟨bo (by decide),⟨_,f _,?_⟩⟩
  have:=h k.ls G;unfold df at this;rw[if_neg (by rw[T];simp)]at this
  exact this
end
structure Pt where
 p:cb
 q:cb
 ne:p≠q
def Has(k:Pt)(M:Mem):Prop:=∃(cells:Z9)(t h sd:Int),cells.length<=63/\M k.p=ap (.lst [.ref k.q,.int t,.int h,.int sd])/\M k.q=ap (.lst<|cells.map D.int)
def Dr(k:Pt)(M M':Mem):Prop:=Has k M'/\∀b,b≠k.p->b≠k.q->M' b=M b
theorem Has.refl{k:Pt}(h:Has k M):Dr k M M:=⟨h,by lia⟩
theorem Dr.trans{k:Pt}{M1 M2:Mem}(a:Dr k M M1)(b:Dr k M1 M2):Dr k M M2:=⟨b.1,λx f e=>(b.2 x f e).trans (a.2 x f e)⟩
theorem Has.nep{k:Pt}(h:Has k M)(F:M l=bb):l≠k.p/\l≠k.q:=by
 obtain⟨e,t,hh,sd,_,f,B⟩:=h;exact⟨by lia,by lia⟩
theorem Has.upd{k:Pt}(h:Has k M)(f:l≠k.p/\l≠k.q):Has k (M.upd l o):=by
 obtain⟨e,t,hh,sd,B,F,G⟩:=h;exact⟨_,t,hh,sd,B,by rw[ae (Tu f.1)];exact F,by rw[ae (Tu f.2)];exact G⟩
theorem Has.del{k:Pt}(h:Has k M)(f:l≠k.p/\l≠k.q):Has k (M.del l):=by
 obtain⟨e,t,hh,sd,B,F,G⟩:=h;exact⟨_,t,hh,sd,B,by unfold Mem.del;rw[if_neg (Tu f.1)];exact F,by unfold Mem.del;rw[if_neg (Tu f.2)];exact G⟩
theorem Dr.none{k:Pt}(f:Has k M)(h:Dr k M M')(e:M l=bb):M' l=none:=by
 have:=f.nep e;rw[h.2 l this.1 this.2];exact e
theorem iZ:∀(n:Nat)(e:Z9),fits n (e.map D.int)=true
 |_,[]=>by rfl
 |n,c::e=>by
  rw[SJ];unfold fits;rw[iZ n e];rfl
theorem iQ{b:Int}(h:∀r,Q (.int r) M):mU ad [.int a,.int b] M Q E:=by
 simp![Qc,zg];refine⟨.inr (by decide),.inr (by decide),by decide,by trivial,.inr (by decide),by decide,by trivial,ak<|h _⟩
theorem Eg{α:Type}{x:α}{xs:List α}:atI (x::xs) 0=ap x:=by rw[atI_0];rfl
theorem um(h:0<m):0<=a % m/\a % m<m:=⟨UH _ (by lia),Uk _ h⟩
theorem jh{i:Int}(h:0<=i)(e:i<n):wX n i=ap i.toNat:=by unfold wX;simp_all
theorem ix0:wX (n+1) 0=ap 0:=jh (by decide) (by lia)
theorem Sy:wX 4 2=ap 2:=rfl
theorem ce{s u:ar}(h:s { D0 with nx:=u D0 } U M):ah s u D0 U M:=h
theorem HQ{k:Pt}{t:Int}(f:U[0]?=ap (ap<|.ref k.p))(e:M k.p=ap (.lst [.ref k.q,.int t,.int hh,.int sd]))(h:D0.nx U (M.upd k.p<|.lst [.ref k.q,.int (t+1),.int hh,.int sd])):
  aq (ai bc (ai av (ac 0)<|dC<|.int 1)<|dC<|.int 1) (cH (ac 0)<|dC<|.int 1) D0 U M:=by
 simp![f,e,atI_1];exact h
theorem Ba{k:Pt}{t:Int}{H:Option D}(e:0<many)(I:many<2 ^ 62)(B:M k.p=ap (.lst [.ref k.q,.int t,.int hh,.int sd]))(G:∀r,D0.rt (.int<|r % many) M)(F:D0.rt (.int<|hh % many) (M.upd k.p<|.lst [.ref k.q,.int t,.int (hh / many),.int sd])):
  (ah (aG (al<|ai bM (ai av (ac 0)<|dC<|.int 2)<|dC<|.int 0) (az<|ai fK (am<|aj (mU ad) EE 2<|aa (ai av (ac 0)<|dC<|.int 3)<|aa (ai av (ac 0)<|dC<|.int 1) af)<|ac 1) aB)
  (ah (aq (ai fK (ai av (ac 0)<|dC<|.int 2)<|ac 1)<|ag 3)
  (ah (aq (ai vA (ai av (ac 0)<|dC<|.int 2)<|ac 1)<|cH (ac 0)<|dC<|.int 2)
  (az<|ac 3)))) D0 [ap (.ref k.p),ap (.int many),H,bb] M:=by
 simp![B,atI_2]
 by_cases f:hh=0
 .rw[if_pos f]
  exact ao λQ' E' h _=>iQ λr=>h _ _ ⟨e,G r⟩
 rw[if_neg f];exact⟨e,⟨e,by lia⟩,F⟩
theorem IN{k:Pt}{t:Int}{cells:Z9}(P:0<many)(B:M k.p=ap (.lst [.ref k.q,.int t,.int hh,.int sd]))(H:M k.q=ap (.lst<|cells.map D.int))(G:D0.nx [ap (.ref k.p),ap (.int many),bb,bb] M)(R:∀c cs,hh=0->cells=c::cs->∀r,D0.rt (.int<|r % many) (M.upd k.q<|.lst<|cs.map D.int))(S:∀c cs,hh=0->cells=c::cs->¬c<10 ^ Vp 18->D0.nx [ap (.ref k.p),ap (.int many),ap (.int c),bb] ((M.upd k.q<|.lst<|cs.map D.int).upd k.p<|.lst [.ref k.q,.int t,.int c,.int sd])):
  aG (oz (al<|ai bM (ai av (ac 0)<|dC<|.int 2)<|dC<|.int 0)<|al<|ai sS (ai av (ac 0)<|dC<|.int 0)<|am<|bL af) (ah (aq (ko "list" Ch (ai av (ac 0)<|dC<|.int 0)<|aa (dC<|.int 0) af)<|ag 2)
   (ah (aG (al<|ai CU (ac 2)<|ai MU (dC<|.int 10)<|dC<|.int 18) (az<|ai fK (am<|aj (mU ad) EE 2<|aa (ac 2)<|aa (ai av (ac 0)<|dC<|.int 1) af)<|ac 1) aB)
   (aq (ac 2)<|cH (ac 0)<|dC<|.int 2))) aB D0 [ap (.ref k.p),ap (.int many),bb,bb] M:=by
 have h:=k.ne;simp![B,atI_2,Eg]
 by_cases e:hh=0
 .rw[if_pos e]
  refine⟨bo (by decide),λp O=>?_⟩
  simp only[Mem.upd_del,au O,H];cases cells with
  |nil=>
   simp![];exact G
  |cons c cs=>
   have J:∀F,(M.upd k.q F) k.p=ap _:=λF=>by rw[ae h,B]
   simp![Eg,B,H,J,iZ,ix0,Sy,List.eraseIdx_zero,List.tail_cons,atI_1,atI_2,atI_3];refine⟨⟨by decide,by decide,by decide⟩,?_⟩
   by_cases f:c<10 ^ Vp 18
   .rw[if_pos f]
    refine ao λQ' E' I _=>iQ λr=>I _ _ ?_;simp![];exact⟨P,R c cs e rfl r⟩
   .rw[if_neg f]
    exact S c cs e rfl f
 .rw[if_neg e]
  exact G
theorem jp{k:Pt}(hp:Has k M)(J:0<many)(S:many<2 ^ 62)(h:∀r M',0<=r->r<many->Dr k M M'->Q (.int r) M'):
  aZ ad [.ref k.p,.int many] M Q E:=by
 obtain⟨B,t,hh,sd,H,X,W⟩:=hp;have f:=k.ne;have fin:∀(r:Int)(M':Mem)(cells':List _)(R I G:Int),cells'.length<=63->(∀b,b≠k.p->b≠k.q->M' b=M b)->M' k.p=ap (.lst [.ref k.q,.int R,.int I,.int G])->M' k.q=ap (.lst<|cells'.map D.int)->drp Q (.int<|r % many) M':=by
  intro r M' cells' R I G T a2 Z Y;exact ak (h _ _ (um J).1 (um J).2 ⟨⟨_,R,_,_,T,Z,Y⟩,a2⟩)
 have g1:∀o,(M.upd _ o) _=ap _:=λo=>by rw[ae (Tu f)];exact W
 refine ce (HQ rfl X ?_);refine ce (IN J Mem.upd_same (g1 _) ?_ (λc O ez P r=>?_) λc O ez P hb=>?_)
 .exact Ba J S Mem.upd_same (λr=>(fin _ _ B _ _ _ H (λb e F=>ae e) Mem.upd_same<|g1 _)) (fin _ _ B _ _ _ H (λb e F=>by rw[ae e,ae e]) Mem.upd_same<|by rw[ae (Tu f),g1])
 .subst P
  exact fin _ _ O _ _ _ (by simp at H;lia) (λb e F=>by rw[ae F,ae e]) (by rw[ae f,Mem.upd_same]) Mem.upd_same
 .subst P
  exact Ba J S Mem.upd_same (λr=>(fin _ _ O _ _ _ (by simp at H;lia) (λb e F=>by rw[ae e,ae F,ae e]) Mem.upd_same<|by rw[ae (Tu f),Mem.upd_same])) (fin _ _ O _ _ _ (by simp at H;lia) (λb e F=>by rw[ae e,ae e,ae F,ae e]) Mem.upd_same<|by rw[ae (Tu f),ae (Tu f),Mem.upd_same])
theorem J9{xs:List D}{k:Nat}:nz xs bb (ap (k:Int))=xs.take k:=by
 unfold nz;rw[HT.FG,HT.HJ]
 simp_all
theorem FX(h:∀(k:Pt) M',Has k M'->(∀b,b≠k.p->b≠k.q->M' b=M b)->Q (.ref k.p) M'):zR ad [.ml (ns.map D.int)] M Q E:=by
 have f:nz (ns.map D.int) bb (ap 63)=(ns.take 63).map D.int:=by rw[List.map_take];exact J9
 simp![Rr,yN,eA,f];intro a J;refine cy (λxs U M'=>∃(B:List _)(sd:Int)(H:Option D),xs=B.map _/\U=[ap _,ap (.int sd),H]/\M'=M) (λ_ _ _ _=>aN) ?_ ?_ _ _ _ ⟨_,7,_,rfl,rfl,by rw[Mem.upd_del,au J]⟩
 .rintro U M' ⟨B,sd,H,_,rfl,rfl⟩
  simp![f];intro b I;rw[Mem.upd_del,au I];intro q R;refine⟨by trivial,λp S=>?_⟩
  have ne:p≠q:=by intro e;simp_all
  refine ak (h ⟨p,q,ne⟩ _ ⟨ns.take 63,0,0,sd,by simp;lia,Mem.upd_same,?_⟩ λb P O=>?_)
  .rw[ae (Tu ne),Mem.upd_same]
  rw[ae P,ae O]
 rintro x xs U M' ⟨B,sd,H,F,rfl,rfl⟩ D' G _ _ _
 cases B with
 |nil=>simp at F
 |cons c B=>
  simp at F;obtain⟨rfl,rfl⟩:=F;simp![];exact⟨.inr (by decide),by decide,G _ _<|by lia⟩
noncomputable def alpha:Str:="abcdefghijklmnopqrstuvwxyz"
theorem F7:∀i<26,alpha.cps.toList[i]?=ap (97+i):=by decide +kernel
theorem C6:alpha.length<=sizeLine:=SX (show alpha.length<=100 by trivial) (by decide)
theorem uN{t:Nat}(F:names.length<=12)(h:∀(j:Nat)(p:j<names.length),names[j].cps[0]?=ap (97+(t+7*j) % 26)):names.Nodup:=by
 refine U3.mpr λi j B p f e=>?_
 grind
def vd(x:Str):Prop:=∃(n c:Nat),1<=n/\n<=8/\97<=c/\c<=122/\x=⟨UQ n c⟩
theorem xD{k:Pt}{many:Nat}(hp:Has k M)(h1:many<=12)(h:∀(names:Z_)(M':Mem),names.length=many->names.Nodup->(∀x∈names,vd x)->Dr k M M'->Q (.tup<|names.map D.str) M'):yP ad [.ref k.p,.int many] M Q E:=by
 simp![QR,AE,eA];refine ao λQ' E' Y _=>jp hp (by decide) (by decide) λturn M1 t0 t1 P=>Y _ _ ?_
 simp![];refine⟨bo (by decide),λl hl=>?_⟩
 have B:=P.1.nep hl;refine⟨by lia,by lia,?_⟩
 obtain⟨t,rfl⟩:=XM t0
 refine cy (λxs U M'=>∃(j:Nat)(Z3:Z_)(X Z:Option D),j<=many/\xs=(Va j (many-j)).map (λ(i:Nat)=>D.int (0+(i:Int)))/\U=[ap (.ref k.p),ap (.int (many:Nat)),ap (.int (t:Nat)),ap (.ref l),X,Z]/\Z3.length=j/\(∀(i:Nat)(J:i<Z3.length),Z3[i].cps[0]?=ap (97+(t+7*i) % 26))/\(∀x∈Z3,vd x)/\
  Has k M'/\M' l=ap (.lst<|Z3.map D.str)/\∀b,b≠k.p->b≠k.q->b≠l->M' b=M1 b) (λ_ _ _ _=>aN) ?_ ?_ _ _ _ ⟨0,[],bb,bb,Uj _,?_,rfl,rfl,?_,by simp,P.1.upd B,Mem.upd_same,λb _ _ hb=>ae hb⟩
 .rintro U M' ⟨j,Z3,X,Z,hj,e,rfl,O,hf,f,hh,R,S⟩
  have:j=many:=by
   have:=congrArg UN e;simp at this;lia
  subst this;simp![R];refine⟨M'.del l,λb o e=>?_,h Z3 _ O (uN (by lia) hf) f ⟨hh.del B,λb H G=>?_⟩⟩
  .unfold Mem.del at e;split at e
   .cases e
   .exact e
  .unfold Mem.del
   split
   .rename_i e;subst e;rw[<- P.2 b H G];exact hl.symm
   .rename_i e;rw[S b H G e,P.2 b H G]
 .rintro x xs U M' ⟨j,Z3,X,Z,hj,e,rfl,O,hf,f,hh,R,S⟩ D' T _ _ _
  have hjl:j<many:=by
   have:=congrArg UN e;simp at this;lia
  obtain⟨n,hn⟩:∃n,many-j=n+1:=⟨many-j-1,by lia⟩
  rw[hn,WO,SJ,Ue]at e;obtain⟨rfl,rfl⟩:=e;have F:atI alpha.cps.toList (((t:Nat)+7*(0+(j:Int))) % 26)=ap (97+(t+7*j) % 26):=by
   have:(((t:Nat):Int)+7*(0+(j:Int))) % 26=(((t+7*j) % 26:Nat):Int):=by lia
   rw[this,bf (by lia),TC,F7 _ (by lia)]
  simp only[alpha]at F;simp![F,R];refine⟨.inl (by decide),by decide,C6,?_⟩
  refine ao λQ' E' Y _=>jp hh (by decide) (by decide) λr M2 r0 r1 W=>Y _ _ ?_
  have hm2:M2 l=ap (.lst<|Z3.map D.str):=by rw[W.2 l B.1 B.2];exact R
  simp![hm2];refine⟨by lia,by lia,by simp;exact fM (by lia),T _ _ ⟨j+1,Z3++[⟨UQ (1+r).toNat (97+(t+7*j) % 26)⟩],_,_,by lia,?_,rfl,by simp[O],?_,?_,W.1.upd B,?_,?_⟩⟩
  .rw[show many-(j+1)=n by lia]
  .intro i J
   by_cases I:i<Z3.length
   .rw[List.getElem_append_left I];exact hf i I
   .have:i=Z3.length:=by simp at J;lia
    subst this;rw[List.getElem_append_right (SO _)];simp only[Nat.sub_self,List.getElem_cons_zero];rw[Array.getElem?_replicate,if_pos (by lia),O]
  .intro x hx
   rcases Tv.mp hx with hx|hx
   .exact f x hx
   .simp at hx;subst hx
    exact⟨(1+r).toNat,97+(t+7*j) % 26,by lia,by lia,by lia,by lia,rfl⟩
  .rw[Mem.upd_same];simp
  .intro b H G b3
   rw[ae b3,W.2 b H G,S b H G b3]
 .simp[cE,UY]
 .intro i J;simp at J
@[simp] theorem atI_5 {α:Type} {xs:List α}:atI xs 5=xs[5]?:=bf (by decide)
@[simp] theorem atI_6 {α:Type} {xs:List α}:atI xs 6=xs[6]?:=bf (by decide)
@[simp] theorem atI_7 {α:Type} {xs:List α}:atI xs 7=xs[7]?:=bf (by decide)
@[simp] theorem atI_8 {α:Type} {xs:List α}:atI xs 8=xs[8]?:=bf (by decide)
theorem jY{r:Int}(f:0<=r)(h:r<names.length):∃y,y∈names/\atI (names.map D.str) r=ap (.str y):=by
 have e:r.toNat<names.length:=by lia
 refine⟨_,UK e,?_⟩;rw[bf f,SN,SG e];rfl
structure ToldOk(names:Z_)(m many:Int):Prop where
 m2:2<=m
 m1:m<=997
 n0:0<names.length
 n1:names.length<=12
 k0:0<=many
 k1:many<=40
noncomputable def jx(names:Z_)(m many:Int):D:=.tup [.int m,.tup (names.map D.str),.int many]
theorem aP{b:BxQ EE Q}{k:Pt}(B:Has k M)(F:0<many)(f:many<2 ^ 62)(h:∀r M',0<=r->r<many->Dr k M M'->Q (.int r) M'):calls (aZ ad) EE [.ref k.p,.int many] M Q b:=
 ao λQ' E' e _=>jp B F f λr M' H G d=>e _ _ (by simp_all)
section
variable{k:Pt}
theorem MF(h:te U M λd M1=>D0.nx (U.set i<|some d) M1):aq te (ag i) D0 U M:=h
theorem G0{d:D}(h:U[i]?=ap (ap d))(e:K d M):ac i U M K:=by simp[ac,h];exact e
theorem xI{c:Str}{B:ar}(f:U[i]?=ap (ap<|.str w))(p:w=c->A D0 U M)(h:w≠c->B D0 U M):aG (al<|ai bM (ac i)<|dC<|.str c) A B D0 U M:=by
 have e:aG (al<|ai bM (ac i)<|dC<|.str c) A B D0 U M=(if w=c then A D0 U M else B D0 U M):=by
  simp[aG,al,ai,ac,dC,bM,bT,dv,aR,f]
 rw[e]
 by_cases q:w=c
 .rw[if_pos q];exact p q
 rw[if_neg q];exact h q
theorem Nj(B:U[0]?=ap (ap<|.ref k.p))(e:∀K:DK,K (.int v) M->te U M K)(f:Has k M)(v0:0<v)(v1:v<2 ^ 62)(h:∀r M',0<=r->r<v->Dr k M M'->K (.int r) M'):
  aj (aZ ad) EE 2 (aa (ac 0)<|aa te af) U M K:=by
 simp only[aj,aa,ac,af,B];refine e _ ?_;exact⟨rfl,aP f v0 v1 h⟩
theorem Hx(h:te U M λd M'=>frz d M' K):am te U M K:=h
theorem LL(h0:U[0]?=ap (ap<|.ref k.p))(ht:∀K:DK,K (.int v) M->te U M K)(hp:Has k M)(v0:0<v)(v1:v<2 ^ 62)(h:∀r M',0<=r->r<v->Dr k M M'->K (.int r) M'):
  am (aj (aZ ad) EE 2<|aa (ac 0)<|aa te af) U M K:=
 Hx (Nj h0 ht hp v0 v1<|by trivial)
theorem Mx(I:U[0]?=ap (ap<|.ref k.p))(e:U[i]?=ap (ap<|.tup<|names.map D.str))(H:Has k M)(J:0<names.length)(n1:names.length<=12)(h:∀x M',x∈names->Dr k M M'->K (.str x) M'):
  ai av (ac i) (am<|aj (aZ ad) EE 2<|aa (ac 0)<|aa (bg bV<|aa (ac i) af) af) U M K:=by
 have F:∀K:DK,K (.int names.length) M->bg bV (aa (ac i) af) U M K:=λK G=>by
  simp![e,SH];exact G
 simp only[ai];refine G0 e (LL I F H (by lia) (by lia) λr M' a b d=>?_)
 obtain⟨x,f,B⟩:=jY a b;simp![B];exact h x M' f d
theorem OF{a b:D}(e:U[i]?=ap (ap a))(f:U[j]?=ap (ap b))(h:te U M λd M'=>3<=sizeLine/\D0.rt (.tup [a,b,d]) M'):az (aT<|aa (ac i)<|aa (ac j)<|aa te af) D0 U M:=by
 simp[az,aT,aa,ac,e,f];exact h
theorem ret4{a b c:D}{l:Nat}(p:U[i]?=ap (ap a))(e:U[j]?=ap (ap b))(f:U[l]?=ap (ap c))(h:te U M λd M'=>4<=sizeLine/\D0.rt (.tup [a,b,c,d]) M'):az (aT<|aa (ac i)<|aa (ac j)<|aa (ac l)<|aa te af) D0 U M:=by
 simp[az,aT,aa,ac,p,e,f];exact h
theorem Kb{a:Option D}{s:Dl}(h:D0.nx (a::ap (jx names m many)::ap (.int m)::ap (.tup<|names.map D.str)::ap (.int many)::s) M){b c d:Option D}:
  aq (ac 1) (cX 3<|aL (ag 2)<|aL (ag 3)<|aL (ag 4) cO) D0 (a::ap (jx names m many)::b::c::d::s) M:=by
 trivial
end
noncomputable def waysL:List Str:=["put","sum","by","less","same","sum","put","take","pick"]
def LH(many:Int)(w:Str):Prop:=w="put"\/(w="sum"\/w="by"\/w="less"\/w="same")\/(0<many/\(w="take"\/w="pick"))
section
variable{k:Pt}
theorem IP(h:D0.nx (U.set 5<|some<|.lst<|waysL.map D.str) M):
  aq (am<|bL<|aa (dC<|.str "put")<|aa (dC<|.str "sum")<|aa (dC<|.str "by")<|aa (dC<|.str "less")<|aa (dC<|.str "same")<|aa (dC<|.str "sum")<|aa (dC<|.str "put")<|aa (dC<|.str "take")<|aa (dC<|.str "pick") af) (ag 5) D0 U M:=by
 simp![];refine⟨by trivial,λp e=>?_⟩
 rw[Mem.upd_del,au e];exact h
theorem MM(r:Nat)(h:r<if 0<many then 9 else 7):∃w,atI (waysL.map D.str) (r:Int)=ap (.str w)/\LH many w:=by
 have f:r<9:=by lia
 have e:r=0\/r=1\/r=2\/r=3\/r=4\/r=5\/r=6\/r=7\/r=8:=by lia
 rcases e with rfl|rfl|rfl|rfl|rfl|rfl|rfl|rfl|rfl
 .exact⟨_,rfl,.inl rfl⟩
 .exact⟨_,rfl,.inr<|by lia⟩
 .exact⟨_,rfl,.inr<|by lia⟩
 .exact⟨_,rfl,.inr<|by lia⟩
 .exact⟨_,rfl,.inr<|by lia⟩
 .exact⟨_,rfl,.inr<|by lia⟩
 .exact⟨_,rfl,.inl rfl⟩
 .exact⟨_,rfl,.inr<|by lia⟩
 exact⟨_,rfl,.inr<|by lia⟩
theorem wayE(H:U[0]?=ap (ap<|.ref k.p))(G:U[4]?=ap (ap<|.int many))(B:U[5]?=ap (ap<|.lst<|waysL.map D.str))(F:Has k M)(h:∀w M',LH many w->Dr k M M'->K (.str w) M'):
  ai av (ac 5) (am<|aj (aZ ad) EE 2<|aa (ac 0)<|aa (kI (al<|ai Jo (ac 4)<|dC<|.int 0) (dC<|.int 9)<|dC<|.int 7) af) U M K:=by
 have e:∀K:DK,K (.int (if 0<many then 9 else 7)) M->kI (al<|ai Jo (ac 4)<|dC<|.int 0) (dC<|.int 9) (dC<|.int 7) U M K:=λK J=>by
  simp![G];lia
 refine G0 B (LL H e F (by lia) (by split<;>decide) λr M' a b d=>?_)
 obtain⟨r,rfl⟩:=XM a;obtain⟨w,f,I⟩:=MM (many:=many) r (by split at b<;>(split<;>lia))
 simp![f]
 simp_all
end
theorem GY{k:Pt}(W:Has k M)(T:ToldOk names m many)(h:∀(r:Rw) M',cu names m many r->Dr k M M'->Q r.d M'):tQ ad [.ref k.p,jx names m many] M Q E:=by
 obtain⟨Y,m1,B,n1,X,Z⟩:=T;rw[S5];unfold Bv;refine ce (Kb ?_);dsimp only;refine ce (IP ?_);dsimp only;refine ce (MF (wayE rfl rfl rfl W λw M1 G d1=>?_));dsimp only;refine ce (MF (Mx rfl rfl d1.1 B n1 λx M2 f d2=>?_));dsimp only;refine ce (xI rfl (λe=>?_) λF=>?_)
 .subst e
  refine OF rfl rfl (Nj rfl (λK q=>G0 rfl q) d2.1 (by lia) (by lia) λr M3 a b d3=>?_)
  exact⟨bo (by decide),ak<|h (.put x r) M3 ⟨f,a,b⟩<|d1.trans<|d2.trans d3⟩
 dsimp only[aB];refine ce (xI rfl (λe=>?_) λO=>?_)
 .subst e
  have I:0<many:=by
   rcases G with e|(e|e|e|e)|e
   .exact(F e).elim
   .exact absurd e (by decide +kernel)
   .exact absurd e (by decide +kernel)
   .exact absurd e (by decide +kernel)
   .exact absurd e (by decide +kernel)
   .exact e.1
  refine OF rfl rfl (Nj rfl (λK q=>G0 rfl q) d2.1 (by lia) (by lia) λr M3 a b d3=>?_)
  exact⟨bo (by decide),ak<|h (.take x r) M3 ⟨f,a,b⟩<|d1.trans<|d2.trans d3⟩
 dsimp only[aB];refine ce (MF (Mx rfl rfl d2.1 B n1 λy M3 H d3=>?_));dsimp only;refine ce (xI rfl (λe=>?_) λP=>?_)
 .subst e
  have I:0<many:=by
   rcases G with e|(e|e|e|e)|e
   .exact(F e).elim
   .exact absurd e (by decide +kernel)
   .exact absurd e (by decide +kernel)
   .exact absurd e (by decide +kernel)
   .exact absurd e (by decide +kernel)
   .exact e.1
  exact OF rfl rfl (G0 rfl ⟨bo (by decide),ak<|h (.pick x y) M3 ⟨f,H,I⟩<|d1.trans<|d2.trans d3⟩)
 dsimp only[aB];have J:w="sum"\/w="by"\/w="less"\/w="same":=by
  rcases G with e|e|⟨_,e|e⟩
  .exact(F e).elim
  .exact e
  .exact(O e).elim
  .exact(P e).elim
 refine ret4 rfl rfl rfl (Mx rfl rfl d3.1 B n1 λz M4 S R=>?_);exact⟨bo (by decide),ak<|h (.two w x y z) M4 ⟨J,f,H,S⟩<|d1.trans<|d2.trans<|d3.trans R⟩
mutual
def LnR:Rw->Prop
 |.ifr _ a b=>(a.length<=200/\fT a)/\b.length<=200/\fT b
 |.again _ a=>a.length<=200/\fT a
 |_=>True
def fT:List Rw->Prop
 |[]=>True
 |r::rs=>LnR r/\fT rs
end
theorem LnRs_append:∀{a b:List Rw},fT (a++b)↔fT a/\fT b
 |[],b=>by simp[fT]
 |r::a,b=>by simp[fT,LnRs_append,and_assoc]
mutual
noncomputable def cR:Rw->Nat
 |.ifr _ a b=>1+cRs a+cRs b
 |.again _ a=>1+cRs a
 |.put _ _=>1
 |.take _ _=>1
 |.pick _ _=>1
 |.two _ _ _ _=>1
noncomputable def cRs:List Rw->Nat
 |[]=>0
 |r::rs=>cR r+cRs rs
end
theorem dI:∀{a b:List Rw},cRs (a++b)=cRs a+cRs b
 |[],b=>by simp[cRs]
 |r::a,b=>by simp[cRs,dI];lia
theorem Qh(h:cu names m many r):cR r=1:=by
 cases r<;>trivial
def Rv(rm:cb)(M:Mem)(v:Int):Prop:=M rm=ap (.lst [.int v])/\0<=v
def Kp(k:Pt)(rm:cb)(M M':Mem):Prop:=Has k M'/\(∃v:Int,M' rm=ap (.lst [.int v]))/\∀b o,b≠k.p->b≠k.q->b≠rm->M b=ap o->M' b=ap o
theorem Kp.trans{k:Pt}{M1 M2:Mem}(a:Kp k rm M M1)(b:Kp k rm M1 M2):Kp k rm M M2:=⟨b.1,b.2.1,λx o f e p h=>b.2.2 x o f e p (a.2.2 x o f e p h)⟩
structure Rm(k:Pt)(rm:cb)(M:Mem):Prop where
 h:Has k M
 n1:rm≠k.p
 n2:rm≠k.q
 v:∃v:Int,M rm=ap (.lst [.int v])
theorem Rm.kp{k:Pt}(r:Rm k rm M):Kp k rm M M:=⟨r.h,r.v,by lia⟩
theorem Rm.go{k:Pt}(r:Rm k rm M)(d:Kp k rm M M'):Rm k rm M':=⟨d.1,r.n1,r.n2,d.2.1⟩
theorem Rm.dr{k:Pt}(r:Rm k rm M)(d:Dr k M M'):Kp k rm M M':=⟨d.1,by obtain⟨v,e⟩:=r.v;exact⟨v,by rw[d.2 rm r.n1 r.n2];exact e⟩,λb o h f _ e=>by rw[d.2 b h f];exact e⟩
theorem Rm.new{k:Pt}(r:Rm k rm M)(f:M l=bb)(o:MO):Kp k rm M (M.upd l o):=by
 obtain⟨v,e⟩:=r.v;have b:=Mem.ne e f;exact⟨r.h.upd (r.h.nep f),⟨v,by rw[ae b];exact e⟩,λc o _ _ _ e=>by rw[ae (Mem.ne e f)];exact e⟩
theorem Rm.set{k:Pt}(r:Rm k rm M)(v:Int):Kp k rm M (M.upd rm<|.lst [.int v]):=
 ⟨r.h.upd ⟨r.n1,r.n2⟩,⟨v,Mem.upd_same⟩,λc o _ _ h e=>by rw[ae h];exact e⟩
section
variable{k:Pt}
def PRo(ad:Ad)(k:Pt)(rm:cb)(names:Z_)(m many:Int)(n:Nat):Prop:=∀(deep:Nat)(most:Int)(M:Mem)(Q:DK)(E:DX),deep<=4->2*(4-deep)+1<=n->0<most->most<=30->Rm k rm M->∀v:Int,Rv rm M v->
 (∀(rs:List Rw)(M':Mem),(∃v',Rv rm M' v'/\(cRs rs:Int)+v'<=v)->ba names m many rs/\fT rs->cU rs+deep<=4->rs.length<=100->Kp k rm M M'->Q (.tup<|aC rs) M')->Yk ad n [.ref k.p,jx names m many,.ref rm,.int deep,.int most] M Q E
def PBl(ad:Ad)(k:Pt)(rm:cb)(names:Z_)(m many:Int)(n:Nat):Prop:=∀(deep:Nat)(M:Mem)(Q:DK)(E:DX),deep<4->2*(4-deep)<=n->Rm k rm M->∀v:Int,Rv rm M v->
 (∀(rs:List Rw)(l:cb)(M':Mem),(∃v',Rv rm M' v'/\(cRs rs:Int)+v'<=v+4)->ba names m many rs/\fT rs->cU rs+deep<=4->rs.length<=3->Kp k rm M M'->M' l=bb->Q (.ref l) (M'.upd l<|.lst<|aC rs))->Yl ad n [.ref k.p,jx names m many,.ref rm,.int deep] M Q E
theorem OkRs_append:∀{a b:List Rw},ba names m many (a++b)↔ba names m many a/\ba names m many b
 |[],b=>by simp[ba]
 |r::a,b=>by simp[ba,OkRs_append,and_assoc]
theorem dq:∀{a b:List Rw},cU (a++b)=max (cU a) (cU b)
 |[],b=>by simp[cU]
 |r::a,b=>by simp[cU,dq]
theorem bF:∀{a b:List Rw},aC (a++b)=aC a++aC b
 |[],b=>rfl
 |r::a,b=>by simp[aC,bF]
theorem bO:∀{a:List Rw},(aC a).length=a.length
 |[]=>rfl
 |r::a=>by simp[aC,bO]
theorem ND(h:cu names m many r):dN names m many r:=by
 cases r<;>trivial
theorem RK(h:cu names m many r):hR r=0:=by
 cases r<;>trivial
theorem NA(h:cu names m many r):LnR r:=by
 cases r with
 |ifr=>exact h.elim
 |again=>exact h.elim
 |_=>trivial
theorem xE(ht:ToldOk names m many)(ih:PRo ad k rm names m many n):PBl ad k rm names m many (n+1):=by
 intro e M Q E hd hn r v Z h;obtain⟨m2,m1,n0,n1,k0,k1⟩:=ht;have dd:e+1=(e+1:Nat):=by lia
 simp![Ri,Aj,jx,SH];refine aP r.h (by lia) (by lia) λr1 M1 a1 b1 O=>?_
 have R1:=r.go (r.dr O);have T:Rv rm M1 v:=⟨by rw[O.2 rm r.n1 r.n2];exact Z.1,Z.2⟩
 obtain⟨x,p,ex⟩:=jY a1 b1;simp![ex];refine ao λQ' E' W _=>ih (e+1) 5 M1 Q' E' (by lia) (by lia) (by decide) (by decide) R1 v T λfirst M2 c2 B h2 l2 d2=>W _ _ ?_
 obtain⟨v2,J,c2⟩:=c2;have R2:=R1.go d2;simp![];refine aP R2.h (by decide) (by decide) λw M3 a3 b3 I=>?_
 have R3:=R2.go (R2.dr I);have f:Rv rm M3 v2:=⟨by rw[I.2 rm r.n1 r.n2];exact J.1,J.2⟩
 simp![dd]
 by_cases hw:w<2
 .rw[if_pos hw]
  refine ao λQ' E' W _=>ih (e+1) 5 M3 Q' E' (by lia) (by lia) (by decide) (by decide) R3 v2 f λP M4 c4 o4 h4 l4 H=>W _ _ ?_
  obtain⟨v4,S,c4⟩:=c4;simp![];refine⟨bo (by decide),bo (by decide),λl F=>ak (h [.ifr x _ _] l M4 ⟨v4,S,by simp[cRs,cR];lia⟩ ?_ ?_ (by simp) ((r.dr O).trans<|d2.trans<|(R2.dr I).trans H) F)⟩
  .exact⟨⟨⟨p,B.1,o4.1⟩,trivial⟩,⟨⟨by lia,B.2⟩,by lia,o4.2⟩,trivial⟩
  simp only[cU,hR];lia
 rw[if_neg hw]
 by_cases G:w=2
 .rw[if_pos G]
  refine⟨bo (by decide),bo (by decide),λl F=>ak (h [.again x first] l M3 ⟨v2,f,by simp only[cRs,cR];lia⟩ ?_ ?_ (by simp) ((r.dr O).trans<|d2.trans<|R2.dr I) F)⟩
  .simp only[ba,dN,fT,LnR];exact⟨⟨⟨p,B.1⟩,trivial⟩,⟨by lia,B.2⟩,trivial⟩
  .simp only[cU,hR];lia
 .rw[if_neg G]
  simp only[SH];refine aP R3.h (by lia) (by lia) λr4 M4 a4 b4 H=>?_
  have R4:=R3.go (R3.dr H);obtain⟨y,X,ey⟩:=jY a4 b4;simp![ey];refine aP R4.h (by split<;>lia) (by split<;>lia) λr5 M5 a5 b5 Y=>?_
  have R:r5<m:=by split at b5<;>lia
  simp![];refine⟨bo (by decide),bo (by decide),bo (by decide),bo (by decide),bo (by rw[bO];lia),bo (by decide),bo (by decide),λl F=>ak ?_⟩
  have:=h [.put x r5,.put y (m-1),.again x (first++[.two "sum" x x y])] l M5 ⟨v2,⟨by rw[Y.2 rm r.n1 r.n2,H.2 rm r.n1 r.n2];exact f.1,f.2⟩,by simp only[cRs,cR,dI];lia⟩ ?_ ?_ (by simp) ((r.dr O).trans<|d2.trans<|(R2.dr I).trans<|(R3.dr H).trans<|R4.dr Y) F
  .simp only[aC,Rw.d,bF]at this
   exact this
  .simp only[ba,dN,cu,OkRs_append,fT,LnR,LnRs_append]
   exact⟨⟨⟨p,a5,R⟩,⟨X,by lia,by lia⟩,⟨p,B.1,⟨.inl trivial,p,p,X⟩,trivial⟩,trivial⟩,trivial,trivial,⟨by simp;lia,B.2,trivial,trivial⟩,trivial⟩
  .simp only[cU,hR,dq];lia
theorem Rs:frz r.d M Q=Q r.d M:=by cases r<;>rfl
theorem ye{c:Int}(f:U[2]?=ap (ap<|.ref rm))(e:M rm=ap (.lst [.int v]))(h:D0.nx U (M.upd rm<|.lst [.int (v-c)])):
  aq (ai mK (ai av (ac 2)<|dC<|.int 0)<|dC<|.int c) (cH (ac 2)<|dC<|.int 0) D0 U M:=by
 simp![f,e,Eg];exact h
theorem OR{B:ar}{deep:Int}(I:U[0]?=ap (ap<|.ref k.p))(O:U[2]?=ap (ap<|.ref rm))(R:U[3]?=ap (ap<|.int deep))(F:Has k M)(J:M rm=ap (.lst [.int v]))(P:∀M',4<v->deep<4->Dr k M M'->A D0 U M')(h:∀M',Dr k M M'->B D0 U M'):
  aG (oz (al<|ai Jo (ai av (ac 2)<|dC<|.int 0)<|dC<|.int 4)<|oz (al<|ai CU (ac 3)<|dC<|.int 4)<|al<|ai bM (am<|aj (aZ ad) EE 2<|aa (ac 0)<|aa (dC<|.int 4) af)<|dC<|.int 0) A B D0 U M:=by
 simp![I,O,R,J,Eg]
 by_cases f:4<v
 .rw[if_pos f]
  by_cases e:deep<4
  .rw[if_pos e]
   refine aP F (by decide) (by decide) λw M2 S T H=>?_
   simp![]
   by_cases G:w=0
   .rw[if_pos G];exact P _ f e H
   rw[if_neg G];exact h _ H
  rw[if_neg e];exact h _ F.refl
 rw[if_neg f];exact h _ F.refl
theorem Ig(f:U[2]?=ap (ap<|.ref rm))(e:M rm=ap (.lst [.int v]))(h:0<v->A D0 U M)(p:D0.nx U M):
  aG (al<|ai Jo (ai av (ac 2)<|dC<|.int 0)<|dC<|.int 0) A aB D0 U M:=by
 simp![f,e,Eg]
 simp_all
theorem Ji(I:U[0]?=ap (ap<|.ref k.p))(J:U[1]?=ap (ap<|jx names m many))(R:U[5]?=ap (ap<|.ref l))(P:Has k M)(O:ToldOk names m many)(n1:l≠k.p)(n2:l≠k.q)(F:M l=ap (.lst<|aC Z3))(S:Z3.length<=1000)(h:∀(r:Rw) M',cu names m many r->Dr k M M'->D0.nx U (M'.upd l<|.lst (aC Z3++[r.d]))):
  bn (ko "list" bv (ac 5)<|aa (am<|aj (tQ ad) EE 2<|aa (ac 0)<|aa (ac 1) af) af) D0 U M:=by
 simp![I,J,R,F];refine ao λQ' E' G _=>GY P O λH M3 e B=>G _ _ ?_;have f:M3 l=ap (.lst<|aC Z3):=by rw[B.2 l n1 n2];exact F
 have sz:(aC Z3).length+1<=sizeLine:=by rw[bO];exact fM (by lia)
 rw[Rs];simp![f];exact⟨sz,(h _ M3 e B)⟩
theorem IG(X:PBl ad k rm names m many n){deep:Nat}(P:U[0]?=ap (ap<|.ref k.p))(T:U[1]?=ap (ap<|jx names m many))(W:U[2]?=ap (ap<|.ref rm))(h3:U[3]?=ap (ap<|.int deep))(Z:U[5]?=ap (ap<|.ref l))(hd:deep<4)(O:2*(4-deep)<=n)(R:Rm k rm M)(n1:l≠k.p)(n2:l≠k.q)(Y:l≠rm)(S:M l=ap (.lst<|aC Z3))(ha:Z3.length<=1000)(rv:Rv rm M v)(h:∀(rs:List Rw)(e:cb)(M':Mem),(∃H,Rv rm M' H/\(cRs rs:Int)+H<=v+4)->ba names m many rs/\fT rs->cU rs+deep<=4->rs.length<=3->Kp k rm M M'->M' e=bb->D0.nx (U.set 5<|some<|.ref e) (M'.upd e<|.lst (aC Z3++aC rs))):
  aq (ai bc (ac 5)<|am<|aj (Yl ad n) EE 4<|aa (ac 0)<|aa (ac 1)<|aa (ac 2)<|aa (ac 3) af) (ag 5) D0 U M:=by
 simp![P,T,W,h3,Z];refine ao λQ' E' I _=>X _ M Q' E' hd O R v rv λbl l2 M3 J B hh len3 G f=>I _ _ ?_;simp![Mem.upd_del,au f,(G.2.2 l _ n1 n2 Y S)];exact⟨by rw[bO,bO];exact bo (by lia),λe F=>h bl e M3 J B hh len3 G F⟩
structure RInv(k:Pt)(rm:cb)(names:Z_)(m many:Int)(M:Mem)(v:Int)(deep:Nat)(n j:Nat)(Z3:List Rw)(l:cb)(M':Mem):Prop where
 cv:∃v',Rv rm M' v'/\(cRs Z3:Int)+v'<=v
 hj:n+j<=30
 ha:Z3.length<=3*j
 ok:ba names m many Z3
 ln:fT Z3
 hh:cU Z3+deep<=4
 kp:Kp k rm M M'
 hm:M' l=ap (.lst<|aC Z3)
 n1:l≠k.p
 n2:l≠k.q
 n3:l≠rm
 h0:M l=bb
theorem RInv.len{deep:Nat}(I:RInv k rm names m many M v deep n j Z3 l M'):Z3.length<=100:=by
 have:=I.hj;have:=I.ha;lia
theorem nY(ht:ToldOk names m many)(ih:PBl ad k rm names m many n):PRo ad k rm names m many (n+1):=by
 intro deep most M Q E hd hn h0 h1 r v0 P h;simp![Q1,AC,eA];refine⟨bo (by decide),λl O=>?_⟩
 have R1:=r.go (r.new O<|.lst []);refine aP R1.h h0 (by lia) λcnt M1 a1 b1 d1=>?_
 have F:=r.h.nep O;refine⟨by lia,by lia,?_⟩
 refine cy (λxs U M'=>∃(j:Nat)(Z3:List Rw)(l:cb)(c6:Option D),RInv k rm names m many M v0 deep xs.length j Z3 l M'/\U=[ap (.ref k.p),ap _,ap (.ref rm),ap (.int deep),ap (.int most),ap (.ref l),c6]) (λ_ _ _ _=>aN) ?_ ?_ _ _ _ ⟨0,[],l,bb,⟨⟨v0,⟨?_,P.2⟩,by simp[cRs]⟩,?_,by simp,by trivial,by trivial,by simp only[cU];lia,(r.new O _).trans (R1.dr d1),?_,F.1,F.2,?_,O⟩,rfl⟩
 .rintro U M' ⟨j,Z3,l,c6,I,rfl⟩
  simp![I.hm];exact ak (h Z3 M' I.cv ⟨I.ok,I.ln⟩ I.hh I.len I.kp)
 .rintro x xs U M' ⟨j,Z3,l,c6,I,rfl⟩ D' S _ _ _
  have R:=r.go I.kp;have hj:=I.hj;have ha:=I.ha;simp at hj;obtain⟨v,⟨Y,hv0⟩,hcv⟩:=I.cv;refine OR rfl rfl rfl R.h Y (λM2 h4 h5 H=>?_) λM2 H=>?_
  .have X:=I.kp.trans (R.dr H)
   have R2:=r.go X;refine ce (ye rfl (by rw[H.2 rm r.n1 r.n2];exact Y) ?_)
   have W:=R2.set (v-4);dsimp only;refine IG (deep:=deep) (Z3:=Z3) ih rfl rfl rfl rfl rfl (by lia) (by lia) (R2.go W) I.n1 I.n2 I.n3 (by rw[ae I.n3,H.2 l I.n1 I.n2];exact I.hm) (by lia) (v:=v-4) ⟨Mem.upd_same,by lia⟩ λbl Z M3 c3 f hh3 len3 k3 J=>?_
   have B:=(X.trans W).trans k3;have R3:=r.go B;have G:=R3.h.nep J;have T:Z≠rm:=by
    obtain⟨u,eu⟩:=R3.v;exact λe=>by simp_all
   have hM3:M Z=none:=by
    cases e:M Z with
    |none=>rfl
    |some o=>rw[B.2.2 Z o G.1 G.2 T e]at J;cases J
   obtain⟨v3,rv3,c3⟩:=c3;exact S _ _ ⟨j+1,Z3++bl,Z,_,⟨⟨v3,⟨by rw[ae (Tu T)];exact rv3.1,rv3.2⟩,by rw[dI];lia⟩,by lia,by rw[Tq];lia,OkRs_append.mpr ⟨I.ok,f.1⟩,LnRs_append.mpr ⟨I.ln,f.2⟩,by rw[dq];exact SX (XR (Nat.add_max_add_right ..).symm) (Nat.max_le.mpr ⟨I.hh,hh3⟩),B.trans (R3.new J _),by rw[Mem.upd_same,bF],G.1,G.2,T,hM3⟩,rfl⟩
  have X:=I.kp.trans (R.dr H);have R2:=r.go X;have hm2:M2 l=ap (.lst<|aC Z3):=by rw[H.2 l I.n1 I.n2];exact I.hm
  refine Ig rfl (by rw[H.2 rm r.n1 r.n2];exact Y) (λhz=>?_) ?_
  .refine ce (ye rfl (by rw[H.2 rm r.n1 r.n2];exact Y) ?_)
   have W:=R2.set (v-1);dsimp only;refine Ji (Z3:=Z3) rfl rfl rfl W.1 ht I.n1 I.n2 (by rw[ae I.n3];exact hm2) (by lia) λrw1 M3 f d3=>?_
   have B:=(X.trans W).trans ((R2.go W).dr d3);refine S _ _ ⟨j+1,Z3++[rw1],l,_,⟨⟨v-1,⟨by rw[ae (Tu I.n3),d3.2 rm r.n1 r.n2,Mem.upd_same],by lia⟩,by rw[dI];simp only[cRs,Qh f];lia⟩,by lia,by rw[Tq,UA];lia,OkRs_append.mpr ⟨I.ok,by simp only[ba];exact⟨ND f,trivial⟩⟩,LnRs_append.mpr ⟨I.ln,by simp only[fT];exact⟨NA f,trivial⟩⟩,by rw[dq];simp only[cU,RK f,Nat.max_zero,Nat.max_self];exact I.hh,?_,by rw[Mem.upd_same,bF];rfl,I.n1,I.n2,I.n3,I.h0⟩,rfl⟩
   refine⟨B.1.upd ⟨I.n1,I.n2⟩,?_,λb o h1 h2 h3 e=>?_⟩
   .obtain⟨u,eu⟩:=B.2.1
    exact⟨u,by rw[ae (Tu I.n3)];exact eu⟩
   .rw[ae (Mem.ne e I.h0)];exact B.2.2 b o h1 h2 h3 e
  .exact S _ _ ⟨j,Z3,l,_,⟨⟨v,⟨by rw[H.2 rm r.n1 r.n2];exact Y,hv0⟩,hcv⟩,by lia,ha,I.ok,I.ln,I.hh,X,hm2,I.n1,I.n2,I.n3,I.h0⟩,rfl⟩
 .rw[d1.2 rm r.n1 r.n2,ae (λz=>by rw[<- z,P.1]at O;cases O)];exact P.1
 .simp[cE];lia
 .rw[d1.2 l F.1 F.2,Mem.upd_same];rfl
 obtain⟨v,e⟩:=r.v;exact λe'=>by rw[e',e]at O;cases O
theorem jm(f:ToldOk names m many):∀n:Nat,PRo ad k rm names m many n/\PBl ad k rm names m many n
 |0=>⟨λe p M Q E _ h=>by lia,λe M Q E _ h=>by lia⟩
 |n+1=>⟨nY f (jm f n).2,xE f (jm f n).1⟩
end
section
variable{k:Pt}
def Kq(k:Pt)(M M':Mem):Prop:=Has k M'/\∀b o,b≠k.p->b≠k.q->M b=ap o->M' b=ap o
theorem Kq.trans{M1 M2:Mem}(a:Kq k M M1)(b:Kq k M1 M2):Kq k M M2:=⟨b.1,λx o f e h=>b.2 x o f e (a.2 x o f e h)⟩
theorem Dr.kq(d:Dr k M M'):Kq k M M':=⟨d.1,λb o h f e=>by rw[d.2 b h f];exact e⟩
structure PlG(m many:Int)(names:Z_)(rows:List Rw)(mk:Str):Prop where
 t:ToldOk names m many
 nd:names.Nodup
 ok:ba names m many rows
 h:cU rows<=4
 cn:cRs rows<=60
 l:rows.length<=100
 ln:fT rows
 mkm:mk∈names
 one:∀x∈names,vd x
noncomputable def ji(m many:Int)(names:Z_)(rows:List Rw)(mk:Str):D:=.tup [.int m,.tup (names.map D.str),.int many,.tup (aC rows),.str mk]
theorem C7(v0:0<=v)(v60:v<=60)(hp:Has k M)(h:∀(m many:Int)(names:Z_)(rows:List Rw)(mk:Str)(M':Mem),PlG m many names rows mk->(cRs rows:Int)<=v->Kq k M M'->Q (ji m many names rows mk) M'):AS ad [.ref k.p,.int v] M Q E:=by
 simp![Q7,B8];refine aP hp (by decide) (by decide) λx1 M1 a1 b1 d1=>?_
 simp![];refine aP d1.1 (by decide) (by decide) λx2 M2 a2 b2 d2=>?_
 simp![];refine⟨bo (by decide),λp f=>?_⟩
 rw[Mem.upd_del,au f];refine aP d2.1 (by decide) (by decide) λS M3 a3 b3 d3=>?_
 obtain⟨m,em,m2,m1⟩:∃m:Int,atI [D.int 2,.int 3,.int (2+x1),.int (2+x2)] S=ap (.int m)/\2<=m/\m<=997:=by
  have:S=0\/S=1\/S=2\/S=3:=by lia
  rcases this with rfl|rfl|rfl|rfl
  .exact⟨2,by simp,by lia,by lia⟩
  .exact⟨3,by simp,by lia,by lia⟩
  .exact⟨2+x1,by simp,by lia,by lia⟩
  .exact⟨2+x2,by simp,by lia,by lia⟩
 simp![em];refine⟨bo (by decide),λp f=>?_⟩
 rw[Mem.upd_del,au f];refine aP d3.1 (by decide) (by decide) λW M4 a4 b4 d4=>?_
 obtain⟨w,ew,w2,w1⟩:∃m:Int,atI [D.int 3,.int 5,.int 12] W=ap (.int m)/\0<m/\m<=12:=by
  have:W=0\/W=1\/W=2:=by lia
  rcases this with rfl|rfl|rfl
  .exact⟨3,by simp,by lia,by lia⟩
  .exact⟨5,by simp,by lia,by lia⟩
  .exact⟨12,by simp,by lia,by lia⟩
 simp![ew];refine aP d4.1 w2 (by lia) λx5 M5 a5 b5 d5=>?_
 simp![];obtain⟨nn,hnn⟩:∃nn:Nat,(1:Int)+x5=nn:=⟨(1+x5).toNat,by lia⟩
 rw[hnn];refine ao λQ' E' hq _=>xD d5.1 (by lia) λnames M6 n6 nd6 on6 d6=>hq _ _ ?_
 simp![];refine aP d6.1 (by decide) (by decide) λx7 M7 a7 b7 d7=>?_
 simp![];refine aP d7.1 (by decide) (by decide) λx8 M8 a8 b8 d8=>?_
 simp![];refine⟨bo (by decide),λp f=>?_⟩
 rw[Mem.upd_del,au f];refine aP d8.1 (by decide) (by decide) λT M9 a9 b9 d9=>?_
 obtain⟨many,ek,k0,k1⟩:∃m:Int,atI [D.int 0,.int (1+x7),.int x8] T=ap (.int m)/\0<=m/\m<=40:=by
  have:T=0\/T=1\/T=2:=by lia
  rcases this with rfl|rfl|rfl
  .exact⟨0,by simp,by lia,by lia⟩
  .exact⟨1+x7,by simp,by lia,by lia⟩
  .exact⟨x8,by simp,by lia,by lia⟩
 simp![ek];refine⟨bo (by decide),bo (by decide),λrm P=>⟨bo (by decide),λp f=>?_⟩⟩
 rw[Mem.upd_del,au f];have D9:=d1.trans (d2.trans<|d3.trans<|d4.trans<|d5.trans<|d6.trans<|d7.trans<|d8.trans d9);have B:=d9.1.nep P;have R9:Rm k rm (M9.upd rm<|.lst [.int v]):=⟨d9.1.upd B,B.1,B.2,v,Mem.upd_same⟩;refine aP R9.h (by decide) (by decide) λF M10 a10 b10 H=>?_
 have R10:=R9.go (R9.dr H);obtain⟨O,eo,o0,o1⟩:∃m:Int,atI [D.int 6,.int 12,.int 30] F=ap (.int m)/\0<m/\m<=30:=by
  have:F=0\/F=1\/F=2:=by lia
  rcases this with rfl|rfl|rfl
  .exact⟨6,by simp,by lia,by lia⟩
  .exact⟨12,by simp,by lia,by lia⟩
  .exact⟨30,by simp,by lia,by lia⟩
 simp![eo];have ht:ToldOk names m many:=⟨m2,m1,by lia,by lia,k0,k1⟩
 refine ao λQ' E' hq _=>(jm ht 24).1 0 O M10 Q' E' (by decide) (by decide) o0 o1 R10 v ⟨by rw[H.2 rm B.1 B.2,Mem.upd_same],v0⟩ λrows M11 J G h11 l11 I=>hq _ _ ?_
 obtain⟨v11,R,J⟩:=J;have v110:=R.2;simp![SH];refine aP I.1 (by lia) (by lia) λx12 M12 X Y d12=>?_
 obtain⟨mk,hmk,emk⟩:=jY X Y;simp![emk];refine⟨bo (by decide),ak<|h m many names rows mk M12 ⟨ht,nd6,G.1,by lia,by lia,l11,G.2,hmk,on6⟩ (by lia) ?_⟩
 refine D9.kq.trans (Kq.trans ?_ d12.kq);refine⟨I.1,λb o h1 h2 e=>?_⟩;have Z:b≠rm:=Mem.ne e P;have:=(R9.dr H).2.2 b o h1 h2 Z (by rw[ae Z];exact e)
 exact I.2.2 b o h1 h2 Z this
theorem wx(T:Has k M)(pl:PlG m many names rows mk)(h:∀(nums e:Z9)(M':Mem),nums.length=names.length->(e.length:Int)=many->(∀v∈nums,0<=v/\v<m)->(∀v∈e,0<=v/\v<m)->Kq k M M'->Q (bA nums e) M'):yy ad [.ref k.p,ji m many names rows mk] M Q E:=by
 have t1:=pl.t.m1;have t2:=pl.t.m2;have t3:=pl.t.n1;have t4:=pl.t.k0;have t5:=pl.t.k1;refine bN (λxs Z3 U M'=>∃(nums:Z9)(B:Option D),xs.length+nums.length=names.length/\Z3=nums.map D.int/\U=[B,ap (.ref k.p),ap (ji m many names rows mk)]/\Dr k M M'/\∀v∈nums,0<=v/\v<m) (λ_ _ _ _ _=>aN) ?_ ?_ ?_ _ _ _ _ ⟨[],bb,by simp,rfl,rfl,T.refl,by simp⟩
 .rintro Z3 U M' ⟨nums,B,R,rfl,rfl,S,hv⟩
  intro p H;simp![Mem.upd_del,au H,atI_2];refine⟨by lia,by lia,?_⟩
  refine bN (λxs Z3 U M'=>∃(ps:Z9)(B:Option D),xs.length+ps.length=many.toNat/\Z3=ps.map D.int/\U=[B,ap (.ref k.p),ap (ji m many names rows mk)]/\Dr k M M'/\∀v∈ps,0<=v/\v<m) (λ_ _ _ _ _=>aN) ?_ ?_ ?_ _ _ _ _ ⟨[],bb,by simp[cE],rfl,rfl,S,by simp⟩
  .rintro Z3 U M' ⟨ps,B,G,rfl,rfl,F,f⟩
   intro p H;simp![Mem.upd_del,au H];refine⟨bo (by decide),ak<|h nums ps M' (by simpa using R) (by simp at G;lia) hv f F.kq⟩
  .rintro x xs Z3 U M' ⟨ps,B,G,rfl,rfl,F,f⟩ N O _
   simp![ji,atI_0];refine aP F.1 (by lia) (by lia) λr M3 P I J=>?_
   simp![];simp only[Tt]at G;refine O _ _ _ (by simp;exact fM (by lia)) ⟨ps++[r],_,by simp;lia,by simp,rfl,F.trans J,λv hv=>?_⟩
   rcases Tv.mp hv with hv|hv
   .exact f v hv
   .simp at hv;subst hv;exact⟨P,I⟩
  .rintro x xs Z3 U M' ⟨ps,B,G,rfl,rfl,F,f⟩
   simp at G ⊢;exact fM (by lia)
 .rintro x xs Z3 U M' ⟨ps,B,G,rfl,rfl,F,f⟩ N O _
  simp![ji,atI_0];refine aP F.1 (by lia) (by lia) λr M3 P I J=>?_
  simp![];simp only[Tt]at G;refine O _ _ _ (by simp;exact fM (by lia)) ⟨ps++[r],_,by simp;lia,by simp,rfl,F.trans J,λv hv=>?_⟩
  rcases Tv.mp hv with hv|hv
  .exact f v hv
  .simp at hv;subst hv;exact⟨P,I⟩
 .rintro x xs Z3 U M' ⟨ps,B,G,rfl,rfl,F,f⟩
  simp at G ⊢;exact fM (by lia)
end
section
theorem cM{tt:eW}{ok:Mem->Prop}{Q:List D->Mem->Prop}{b:BxC (ag 0) tt te ok Q}{rest:Dl}{c:Option D}{xs:List D}(p:D->Bool)(f:D->D)(W:ok M)(T:xs.length<=100000)(R:∀x∈xs,∀K:Bool->Mem->Prop,K (p x) M->tt (ap x::rest) M K)(S:∀x∈xs,p x=true->∀K:DK,K (f x) M->te (ap x::rest) M K)(h:Q ((xs.filter p).map f) M):
  cZ (ag 0) tt te ok Q b xs [] (c::rest) M:=by
 refine bN (λJ Z3 U N=>∃(us:List D)(B:Option D),xs=us++J/\Z3=(us.filter p).map f/\U=B::rest/\M=N) (by lia) ?_ ?_ ?_ _ _ _ _ ⟨[],c,rfl,rfl,rfl,rfl⟩
 .rintro Z3 U N ⟨us,B,e,rfl,rfl,rfl⟩
  simp_all
 .rintro y J Z3 U N ⟨us,B,e,rfl,rfl,rfl⟩ N' I H
  have O:y∈xs:=by rw[e];simp
  have F:=congrArg UN e;simp at F;have P:=TK p us;refine R y O _ ?_;cases G:p y with
  |true=>
   exact S y O G _ (I _ _ _ (by rw[SH];exact fM (by lia)) ⟨us++[y],_,by simp[e],by simp[G],rfl,rfl⟩)
  |false=>
   exact H _ _ _ ⟨us++[y],_,by simp[e],by simp[G],rfl,rfl⟩
 rintro y J Z3 U N ⟨us,B,e,rfl,rfl,rfl⟩
 have F:=congrArg UN e;simp at F;have P:=TK p us;rw[SH];exact fM (by lia)
theorem cc{ok:Mem->Prop}{Q:List D->Mem->Prop}{b:BxC (ag 0) dg te ok Q}{rest:Dl}{c:Option D}{xs:List D}(f:D->D)(B:ok M)(p:xs.length<=100000)(F:∀x∈xs,∀K:DK,K (f x) M->te (ap x::rest) M K)(h:Q (xs.map f) M):cZ (ag 0) dg te ok Q b xs [] (c::rest) M:=by
 refine cM _ f B p (λx _ K q=>q) (λx e _=>F x e) ?_;rw[Ya.mpr λ_ _=>rfl];exact h
end
instance lawKey:LawfulBEq aF where
 eq_of_beq {a b} h:=by
  cases a<;>cases b
  .exact congrArg UC (eq_of_beq (α:=Int) h)
  .cases h
  .cases h
  .exact congrArg TB (eq_of_beq (α:=Str) h)
 rfl {a}:=by
  cases a
  .exact beq_self_eq_true (α:=Int) _
  .exact beq_self_eq_true (α:=Str) _
noncomputable def kD:aF->D
 |.inl i=>.int i
 |.inr x=>.str x
theorem PC(a b:aF):aR (kD a) (kD b)=decide (a=b):=by
 cases a<;>cases b<;>simp[kD,aR]
theorem F2(n:Nat)(a:aF):bT n (kD a)=true:=by cases a<;>cases n<;>rfl
theorem A7(n:Nat):∀ks:List aF,fits n (ks.map kD)=true
 |[]=>by rfl
 |k::ks=>by simp[fits,F2,A7 n ks]
theorem pw:∀ks:List aF,eI (ks.map kD)=ap ks
 |[]=>rfl
 |k::ks=>by
  cases k<;>simp[eI,kD,cA,(pw ks)]
theorem N5{k:aF}:((ks.map kD).any λd=>aR d (kD k))=decide (k∈ks):=by
 induction ks with
 |nil=>rfl
 |cons a ks ih=>
  rw[SJ,Vo,PC]
  by_cases h:a=k
  .simp[h]
  have:¬k=a:=λe=>h e.symm
  simp_all
noncomputable def BF(ks:List aF):D:=.lst (ks.map kD)
theorem Rz{k:aF}:dv M (kD k)=kD k:=by cases k<;>rfl
theorem HX{k:aF}:j8 M (kD k) (BF ks)=ap (decide (k∈ks)):=by
 unfold j8 BF;simp only[aM,Rz,F2,A7,and_self,if_true,N5]
structure Cse where
 w:Int
 many:Nat
 names:List Str
 rows:List Rw
 mn:Str
 most:Nat
structure Sta where
 nums:List Int
 pieces:List Int
noncomputable def Sta.d(s:Sta):D:=bA s.nums s.pieces
noncomputable def Cse.cf(C:Cse)(s:Sta):Cf:=⟨C.w,s.pieces,C.most⟩
noncomputable def Cse.d(C:Cse):D:=.tup [.int C.w,.tup (C.names.map D.str),.int (C.many:Nat),.tup (aC C.rows),.str C.mn]
structure Cse.Ok(C:Cse):Prop where
 m2:2<=C.w
 m1:C.w<=997
 few:C.many<=100
 most:C.most<=10000
 nd:C.names.Nodup
 l0:0<C.names.length
 l1:C.names.length<=100
 ok:ba C.names C.w C.many C.rows
 h:cU C.rows<=7
 mn:C.mn∈C.names
structure SOk(C:Cse)(s:Sta):Prop where
 ln:s.nums.length=C.names.length
 lp:s.pieces.length=C.many
 rn:∀v∈s.nums,0<=v/\v<C.w
 rp:∀v∈s.pieces,0<=v/\v<C.w
noncomputable def vP(mk:Str)(r:Bool×Sx):D:=if r.1=true then .int (nm r.2.nums mk) else .non
noncomputable def Cse.run(C:Cse)(s:Sta):Bool×Sx:=cW (C.cf s) C.names C.rows s.nums
noncomputable def Cse.mark(C:Cse)(s:Sta):D:=vP C.mn (C.run s)
section
variable{s:Sta}
theorem Cse.Ok.pl(o:C.Ok)(k:SOk C s):PlOk (C.cf s) C.names C.rows s.nums:=
 ⟨⟨o.m2,o.m1,k.rp,by show s.pieces.length<=1000;rw[k.lp];have:=o.few;lia,o.most⟩,k.ln.symm,o.nd,o.l0,by have:=o.l1;lia,k.rn,by show ba _ _ s.pieces.length _;rw[k.lp];exact o.ok,o.h⟩
theorem SOk.pd(k:SOk C s):C.d=aV (C.cf s) C.names C.rows C.mn:=by unfold Cse.d aV Cse.cf;rw[k.lp]
theorem xk(C:Cse)(s:Sta):C.mark s=.non\/∃v,C.mark s=.int v:=by
 unfold Cse.mark vP
 split
 .exact .inr ⟨_,rfl⟩
 exact .inl rfl
theorem ud(h:Q (C.mark s) M):frz (C.mark s) M Q:=by rcases xk C s with e|⟨v,e⟩<;>rw[e]at h ⊢<;>exact h
theorem o7{mk:Str}:∀{names:Z_},mk∈names->∃j,names.findIdx? (λy=>decide (y=mk))=ap j/\names[j]?=ap mk
 |[],h=>by simp at h
 |x::names,h=>by
  by_cases e:x=mk
  .subst e;exact⟨0,by simp[VM],rfl⟩
  have f:mk∈names:=by
   rcases SQ.mp h with z|z
   .simp_all
   exact z
  obtain⟨j,p,B⟩:=o7 f;exact⟨j+1,by simp[VM,e,p],by trivial⟩
theorem dB:∀names:List Str,jo (names.map D.str)=ap names
 |[]=>rfl
 |x::names=>by rw[SJ,jo,dB _]
noncomputable def CW(names:Z_)(r:Bool×Sx):D:=.tup [.lst (wq r.2.steps),df names r]
theorem F6{b:BxQ EE λd M'=>frzT d M' Q}(p:PlOk c names rows nums)(h:Q (CW names<|cW c names rows nums) M):
  calls (uS ad) EE [aV c names rows mk,bA nums c.pieces,.int (c.most:Nat)] M (λd M'=>frzT d M' Q) b:=by
 refine ao λQ' E' B _=>EG p λl f=>B _ _ ?_;unfold CW df at h;unfold df;cases e:(cW c _ _ _).1 with
 |true=>
  rw[e]at h;rw[if_pos rfl];simp![Mem.upd_del,au f];exact h
 |false=>
  rw[e]at h;rw[if_neg (by simp)]
  simp![Mem.upd_del,au f];exact h
theorem Cc(p:PlOk c names rows nums)(G:mk∈names)(h:Q (vP mk<|cW c names rows nums) M):oY ad [aV c names rows mk,bA nums c.pieces,.int (c.most:Nat)] M Q E:=by
 have l1:=p.l1;obtain⟨j,f,F⟩:=o7 G;simp![Q3,BU];refine F6 p ?_;simp![CW];unfold vP at h;unfold df;cases e:(cW c names rows nums).1 with
 |true=>
  rw[e]at h;simp![aV,atI_1,atI_4,dB,f];refine⟨l1,?_⟩;have B:atI (names.map λx=>D.int (nm (cW c names rows nums).2.nums x)) j=ap (.int<|nm (cW c names rows nums).2.nums mk):=by
   rw[bf (by lia),TC,SN,F];rfl
  simp![B];exact ak h
 |false=>
  rw[e]at h;rw[if_neg (by simp)]
  exact ak h
theorem pJ{b:BxQ EE Q}(o:C.Ok)(k:SOk C s)(h:Q (C.mark s) M):calls (oY ad) EE [C.d,s.d,.int (C.most:Nat)] M Q b:=by
 refine aK (λQ' E' q=>?_) h;rw[k.pd];exact Cc (o.pl k) o.mn q
noncomputable def bj(C:Cse)(s t:Sta):D:=.tup [C.d,s.d,t.d,.int (C.most:Nat)]
theorem NU{C:Cse}{s t:Sta}:bj C s t=.tup [C.d,s.d,t.d,.int (C.most:Nat)]:=rfl
theorem zw{C:Cse}:C.d=.tup [.int C.w,.tup (C.names.map D.str),.int (C.many:Nat),.tup (aC C.rows),.str C.mn]:=rfl
noncomputable def dJ(C:Cse):List aF:=C.names.map TB++(Te C.many).map λ(i:Nat)=>UC (i:Int)
noncomputable def aH(C:Cse)(s:Sta):aF->Int
 |.inl i=>(s.pieces[i.toNat]?).getD 0
 |.inr x=>nm (C.names.zip s.nums) x
theorem ja:∀{names:Z_}{nums:Z9}{j:Nat}{x:Str},names.Nodup->names.length=nums.length->names[j]?=ap x->nums[j]?=ap (nm (names.zip nums) x)
 |[],_,j,x,_,_,h=>by simp at h
 |y::names,[],j,x,_,h,_=>by simp at h
 |y::names,v::nums,0,x,nd,hl,h=>by
  simp at h;subst h;simp[nm,gN]
 |y::names,v::nums,j+1,x,nd,hl,h=>by
  simp at h ⊢;have f:=Us.mp nd;have p:¬y=x:=λe=>f.1 (e▸T6 h);rw[ja f.2 (by simp_all) h]
  simp[nm,gN,p]
theorem gs{k:aF}(h:k∈dJ C):(∃x,x∈C.names/\k=.inr x)\/∃i:Nat,i<C.many/\k=.inl (i:Int):=by
 rcases Tv.mp h with q|q
 .obtain⟨x,f,rfl⟩:=SV.mp q
  exact .inl (by lia)
 obtain⟨i,e,rfl⟩:=SV.mp q;exact .inr ⟨i,by simp_all,rfl⟩
theorem bE(o:C.Ok)(k:SOk C s){t:aF}(f:t∈dJ C):0<=aH C s t/\aH C s t<C.w:=by
 rcases gs f with⟨x,e,rfl⟩|⟨i,hi,rfl⟩
 .exact((o.pl k).nok.at e).2
 exact((o.pl k).co.piece<|by show _<s.pieces.length;rw[k.lp];lia).2
theorem dA(o:C.Ok)(k:SOk C s){t:aF}(F:t∈dJ C)(h:Q (.int<|aH C s t) M):n8 ad [C.d,s.d,kD t] M Q E:=by
 have l1:=o.l1;rcases gs F with⟨x,p,rfl⟩|⟨i,hi,rfl⟩
 .obtain⟨j,f,B⟩:=o7 p
  have e:atI (s.nums.map D.int) j=ap (.int<|nm (C.names.zip s.nums) x):=by
   rw[bf (by lia),TC,SN,ja o.nd k.ln.symm B];rfl
  simp![LJ,uH,kD,Cse.d,Sta.d,bA,lJ,atI_1,dB,f,V5,WI,Wf];refine⟨by lia,?_⟩
  simp![e];exact ak h
 .have e:atI (s.pieces.map D.int) i=ap (.int<|(s.pieces[(i:Int).toNat]?).getD 0):=by
   rw[bf (by lia),SN,SG (by rw[k.lp];exact hi)];rfl
  simp![LJ,uH,kD,Sta.d,bA,lJ,atI_1,e,V5,WI,Wf];exact ak h
end
noncomputable def lM(k:Wk)(c:Cf)(s:Sx)(M:Mem):Mem:=
 ((M.upd k.a<|.lst [.ref k.dn,.tup (c.pieces.map D.int),.ref k.ls,.int (c.most:Nat),.int c.m]).upd k.dn<|.dK<|dO s.nums).upd k.ls (.lst<|wq s.steps)
section
variable{k:Wk}
theorem m4:lM k c s M k.a=ap (.lst [.ref k.dn,.tup (c.pieces.map D.int),.ref k.ls,.int (c.most:Nat),.int c.m]):=by
 unfold lM;rw[ae k.h2,ae k.h1,Mem.upd_same]
theorem nZ:lM k c s M k.dn=ap (.dK<|dO s.nums):=by unfold lM;rw[ae k.h3,Mem.upd_same]
theorem Kx:lM k c s M k.ls=ap (.lst<|wq s.steps):=by unfold lM;simp_all
theorem Hd{x:List (List Int×Int)}:(lM k c s M).upd k.ls (.lst<|wq x)=lM k c ⟨s.nums,x⟩ M:=by unfold lM;simp_all
theorem Jr{x:cw}:(lM k c s M).upd k.dn (.dK<|dO x)=lM k c ⟨x,s.steps⟩ M:=by
 unfold lM;rw[aA (Tu k.h3),Mem.upd_upd]
theorem rO{pl:Z9}(f:c.most<=10000)(e:s.steps.length<=c.most)(h:Q (.bl (nt c pl v s).1) (lM k c (nt c pl v s).2 M)):
  jw ad [.ref k.a,gI pl,.int v] (lM k c s M) Q E:=by
 unfold nt at h;simp![QH,Bn,m4,Kx,atI_2,atI_3,wq,SH]
 by_cases q:s.steps.length<c.most
 .rw[if_pos q]at h
  rw[if_neg (by lia)]
  refine⟨by trivial,fM (by lia),ak ?_⟩
  rw[<- Hd]at h;simpa [wq] using h
 rw[if_neg q]at h;rw[if_pos (by lia)]
 exact ak h
theorem sj{b:BxQ EE Q}{pl:Z9}(p:c.most<=10000)(e:s.steps.length<=c.most)(h:Q (.bl (nt c pl v s).1) (lM k c (nt c pl v s).2 M)):
  calls (jw ad) EE [.ref k.a,gI pl,.int v] (lM k c s M) Q b:=
 ao λ_ _ f _=>rO p e (f _ _ h)
theorem uy(f:COk c){i:Int}(e:0<=i)(h:i<c.pieces.length):atI (c.pieces.map D.int) i=ap (.int<|(c.pieces[i.toNat]?).getD 0):=by
 rw[bf e,SN,SG (by lia)];rfl
theorem rF(p:COk c)(B:NOk names c.m s.nums)(f:cu names c.m c.pieces.length r)(h:Q (.int<|num c s.nums r) (lM k c s M)):
  uu ad [.ref k.a,r.d] (lM k c s M) Q E:=by
 have m2:=p.m2;have m1:=p.m1;cases r with
 |put x kk=>
  simp![zB,nL,Rw.d,↓wH,m4,nZ,atI_0,atI_2,atI_3,WH];exact ak h
 |take x i=>
  simp![zB,nL,Rw.d,↓wH,m4,nZ,atI_0,atI_2,atI_3,WH,uy p f.2.1 f.2.2];exact ak h
 |pick x y=>
  have F:=(B.at f.2.1).1;have J:=f.2.2;have S:=UH (nm s.nums y) (show (c.pieces.length:Int)≠0 by lia)
  have R:=Uk (nm s.nums y) J;simp![zB,nL,Rw.d,↓wH,m4,nZ,atI_0,atI_2,atI_3,WH,bY,F,Ua,SH,uy p S R];exact⟨J,ak h⟩
 |two w x y z=>
  obtain⟨T,Y,H,W⟩:=f;have F:=(B.at H).1;have X:=(B.at W).1;have Z:=(B.at H).2;have G:(w="put")=False/\(w="take")=False/\(w="pick")=False:=by
   rcases T with rfl|rfl|rfl|rfl
   .exact⟨(eq_false<|by decide +kernel),(eq_false<|by decide +kernel),(eq_false<|by decide +kernel)⟩
   .exact⟨(eq_false<|by decide +kernel),(eq_false<|by decide +kernel),(eq_false<|by decide +kernel)⟩
   .exact⟨(eq_false<|by decide +kernel),(eq_false<|by decide +kernel),(eq_false<|by decide +kernel)⟩
   .exact⟨(eq_false<|by decide +kernel),(eq_false<|by decide +kernel),(eq_false<|by decide +kernel)⟩
  simp![zB,nL,Rw.d,↓wH,m4,nZ,atI_0,atI_2,atI_3,bY,F,X,Ua,G.1,G.2.1,G.2.2];have e:Q (.int<|AA w (nm s.nums y) (nm s.nums z) c.m) (lM k c s M):=h;unfold AA at e
  by_cases O:w="sum"
  .rw[if_pos O]at e ⊢;exact⟨by lia,ak e⟩
  .rw[if_neg O]at e ⊢
   by_cases I:w="by"
   .rw[if_pos I]at e ⊢;exact⟨(.inl ⟨by lia,by lia⟩),by lia,ak e⟩
   .rw[if_neg I]at e ⊢
    by_cases P:w="less"
    .rw[if_pos P]at e ⊢
     split<;>rename_i q
     .rw[if_pos q]at e;exact ak e
     .rw[if_neg q]at e;exact ak e
    .rw[if_neg P]at e ⊢
     split<;>rename_i q
     .rw[if_pos q]at e;exact ak e
     .rw[if_neg q]at e;exact ak e
 |ifr=>exact f.elim
 |again=>exact f.elim
theorem qz{b:BxQ EE Q}{d:D}(e:d=r.d)(p:COk c)(B:NOk names c.m s.nums)(F:cu names c.m c.pieces.length r)(h:Q (.int<|num c s.nums r) (lM k c s M)):
  calls (uu ad) EE [.ref k.a,d] (lM k c s M) Q b:=
 e▸ao λ_ _ f _=>rF p B F (f _ _ h)
end
section
variable{k:Wk}
def m3(ad:Ad)(k:Wk)(c:Cf)(names:Z_)(n:Nat):Prop:=∀(rs:List Rw)(pl:Z9)(s:Sx)(M:Mem)(Q:DK)(E:DX),ba names c.m c.pieces.length rs->2*cU rs+1<=n->pl.length+2*cU rs+2<=1000->NOk names c.m s.nums->s.steps.length<=c.most->
 Q (.bl (bI c rs pl 0 s).1) (lM k c (bI c rs pl 0 s).2 M)->Yj ad n [.ref k.a,.tup (aC rs),gI pl] (lM k c s M) Q E
def ME(ad:Ad)(k:Wk)(c:Cf)(names:Z_)(n:Nat):Prop:=∀(x:Str)(a:List Rw)(pl:Z9)(s:Sx)(M:Mem)(Q:DK)(E:DX),dN names c.m c.pieces.length (.again x a)->2*hR (.again x a)<=n->pl.length+2*hR (.again x a)+1<=1000->NOk names c.m s.nums->s.steps.length<=c.most->
 Q (.bl (ib c (.again x a) pl s).1) (lM k c (ib c (.again x a) pl s).2 M)->Yn ad n [.ref k.a,(Rw.again x a).d,gI pl] (lM k c s M) Q E
theorem HL{pl:Z9}:jQ c r pl s=if (nt c pl (num c s.nums r) s).1=true then (true,⟨sN s.nums (gX r) (num c s.nums r),(nt c pl (num c s.nums r) s).2.steps⟩) else nt c pl (num c s.nums r) s:=by
 unfold jQ nt;lia
theorem Pp(f:NOk names c.m s.nums)(e:cu names c.m c.pieces.length r):gX r∈s.nums.map (·.1):=by
 rw[f.keys];cases r with
 |two w x y z=>exact e.2.1
 |ifr=>exact e.elim
 |again=>exact e.elim
 |_=>exact e.1
theorem xM{f h:b6}{pl:Z9}{K:Bool->Mem->Prop}(F:COk c)(e:s.steps.length<=c.most)(p:U[0]?=ap (ap<|.ref k.a))(G:∀N K,K (gI pl) N->f U N K)(B:∀N K,K (.int v) N->h U N K)(q:K (!(nt c pl v s).1) (lM k c (nt c pl v s).2 M)):gc (cB<|am<|aj (jw ad) EE 3<|aa (ac 0)<|aa f<|aa h af) U (lM k c s M) K:=by
 simp only[gc,cB,am,aj,aa,ac,p];exact G _ _ (B _ _ ⟨rfl,sj F.most e q⟩)
theorem EU{rest:List D}{w:D}(e:gN s.nums x=ap (nm s.nums x))(h:U[0]?=ap (ap<|.ref k.a))(f:U[i]?=ap (ap<|.tup (w::.str x::rest)))(q:K (.int<|lk s.nums x) (lM k c s M)):
  kI (al<|ai bM (ai av (ai av (ac 0)<|dC<|.int 0)<|ai av (ac i)<|dC<|.int 1)<|dC<|.int 0) (dC<|.int 0) (dC<|.int 1) U (lM k c s M) K:=by
 simp![h,f,m4,nZ,atI_0,atI_1,bY,e,Ua];unfold lk at q;lia
theorem rQ{pl:Z9}(p:pl.length<=1000)(h:U[i]?=ap (ap<|gI pl))(f:U[j]?=ap (ap<|.int v))(q:K (gI (pl++[v])) M):ai bc (ac i) (aT<|aa (ac j) af) U M K:=by
 simp[ai,ac,aT,aa,af,h,f,gI,bc];refine⟨by trivial,bo (by lia),?_⟩
 have e:pl.map D.int++[.int v]=(pl++[v]).map D.int:=by simp
 rw[e];exact q
theorem Gc{K:Bool->Mem->Prop}{pl:Z9}{p B:b6}(I:m3 ad k c names n)(H:U[0]?=ap (ap<|.ref k.a))(O:∀N K,K (.tup<|aC rs) N->p U N K)(J:∀N K,K (gI pl) N->B U N K)(ok:ba names c.m c.pieces.length rs)(G:2*cU rs+1<=n)(h:pl.length+2*cU rs+2<=1000)(e:NOk names c.m s.nums)(f:s.steps.length<=c.most)(q:K (!(bI c rs pl 0 s).1) (lM k c (bI c rs pl 0 s).2 M)):
  gc (cB<|am<|aj (Yj ad n) EE 3<|aa (ac 0)<|aa p<|aa B af) U (lM k c s M) K:=by
 simp only[gc,cB,am,aj,aa,ac,H];refine O _ _ (J _ _ ⟨rfl,ao λQ' E' F _=>I rs pl _ M Q' E' ok G h e f (F _ _ q)⟩)
theorem JB(h:dN names m many r)(e:bi r=true):cu names m many r:=by
 cases r<;>first|assumption|cases e
theorem tG{n:cw}:lk n x=0\/lk n x=1:=by unfold lk;split<;>simp
theorem jF{EE:DX}{S0:Sd}{n:Nat}{x:Str}{a:List Rw}{pl:Z9}{M:Mem}{Q:DK}{D':DEnds}{ok:Mem->Prop}{Z:BxF (ag 3) (ig ad S0 (Yj ad n) EE) D' ok}(P:COk c)(X:m3 ad k c names n)(W:x∈names)(G:ba names c.m c.pieces.length a)(T:2*cU a+1<=n)(R:pl.length+2*cU a+3<=1000)
  (J:∀M,ok M) (e:D'.rt=_3.drp Q) (H:∀U M',_3.drp Q (.bl cp) M'->D'.nx U M'):∀(f t:Nat)(s:Sx)(O S:Option D),NOk names c.m s.nums->s.steps.length<=c.most->
  Q (.bl (e_ c x pl (λt s=>bI c a (pl++[(t:Int)]) 0 s) f t s).1) (lM k c (e_ c x pl (λt s=>bI c a (pl++[(t:Int)]) 0 s) f t s).2 M)->
  o9 (ag 3) (ig ad S0 (Yj ad n) EE) D' ok Z ((Va t f).map λ(i:Nat)=>D.int (i:Int)) [ap (.ref k.a),ap (.tup [.str "again",.str x,.tup (aC a)]),ap (gI pl),O,S] (lM k c s M)
 |0,t,s,O,S,hno,hst,h=>⟨J _,H _ _<|ak h⟩
 |f+1,t,s,O,S,hno,hst,h=>by
  rw[WO,SJ];refine⟨J _,?_⟩;unfold e_ at h;have B:=(nt_gr (c:=c) (pl:=pl++[(t:Int)]) (v:=lk s.nums x) (s:=s)).2 hst;have p:NOk names c.m (nt c (pl++[(t:Int)]) (lk s.nums x) s).2.nums:=by rw[fB];exact hno
  simp only[ag,Td];unfold ig ah aq;refine EU (hno.at W).1 rfl rfl ?_;simp only[ag,Td];unfold qC ah aG;refine xM P hst rfl (λN K q=>rQ (by lia) rfl rfl q) (λN K q=>q) ?_
  cases I:(nt c (pl++[(t:Int)]) (lk s.nums x) s).1 with
  |false=>
   rw[if_neg (by rw[I];simp),I]at h
   simp only[VO,if_true,az,dC,e];exact ak h
  |true=>
   rw[if_pos I]at h;simp only[Vr,Th,if_false,aB];unfold qx ah aG;have Y:∀K:Bool->Mem->Prop,K (decide (lk s.nums x=0)) (lM k c (nt c (pl++[(t:Int)]) (lk s.nums x) s).2 M)->al (ai bM (ac 4)<|dC<|.int 0) [ap (.ref k.a),ap (.tup [.str "again",.str x,.tup (aC a)]),ap (gI pl),ap (.int (t:Int)),ap (.int<|lk s.nums x)] _ K:=λK q=>by
    trivial
   refine Y _ ?_;rcases tG (n:=s.nums) (x:=x) with hl|hl
   .rw[hl,if_neg (by decide),<- hl,I]at h
    simp only[hl,decide_true,if_true,az,dC,e];rw[<- hl];exact ak h
   .rw[hl,if_pos rfl,<- hl]at h
    have n1:decide (lk s.nums x=0)=false:=by rw[hl];rfl
    simp only[n1,Th,if_false,aB];unfold rG aG;refine Gc (pl:=pl++[(t:Int)]) X rfl (λN K q=>?_) (λN K q=>rQ (by lia) rfl rfl q) G T (by simp;lia) p B ?_
    .exact q
    cases F:(bI c a (pl++[(t:Int)]) 0 (nt c (pl++[(t:Int)]) (lk s.nums x) s).2).1 with
    |false=>
     rw[if_neg (by rw[F];simp),F]at h
     simp only[VO,if_true,az,dC,e];exact ak h
    |true=>
     rw[if_pos F]at h;exact jF P X W G T R J e H f (t+1) _ _ _ (da P a G _ _ _ p) ((fk (c:=c) a (pl++[(t:Int)]) 0 _).2 B) h
theorem ve(G:COk c)(J:m3 ad k c names n):ME ad k c names (n+1):=by
 intro x a pl s M Q E f H F p B h;simp[hR]at H F;have I:=G.most;rw[QE];unfold yw;simp only[ah,eA,eh,aa,ai,ac,dC,dt,av,aM,m4];refine⟨by lia,by lia,?_⟩
 have e:cE 0 ((c.most:Int)+1).toNat=(Va 0 (c.most+1)).map λ(i:Nat)=>D.int i:=by
  unfold cE;rw[UY]
  simp_all
 rw[e];exact jF G J f.1 f.2 (by lia) (by lia) (λ_=>aN) rfl (λ_ _ z=>z) _ 0 s _ _ p B h
theorem nN{e:Str}{rest:List D}{K:Bool->Mem->Prop}(f:U[4]?=ap (ap<|.tup (.str w::rest)))(q:K (decide (w=e)) M):al (ai bM (ai av (ac 4)<|dC<|.int 0)<|dC<|.str e) U M K:=by
 simp[al,ai,ac,dC,f,av,aM];trivial
def RGo(D':DEnds)(k:Wk)(c:Cf)(M:Mem)(d1 d2:Option D)(r:Bool×Sx):Prop:=(r.1=true->∀c3 c4 c5 c6 c7 c8,D'.nx [ap (.ref k.a),d1,d2,c3,c4,c5,c6,c7,c8] (lM k c r.2 M))/\(r.1=cp->D'.rt (.bl cp) (lM k c r.2 M))
section
variable{S0 S1:Sd}{d1 d2 d3 d6 d7 d8:Option D}{pl:Z9}
theorem Fo(F:COk c)(e:NOk names c.m s.nums)(p:s.steps.length<=c.most)(H:names.length<=1000)(B:cu names c.m c.pieces.length r)(g:RGo D' k c M d1 d2 (jQ c r pl s)):li ad S0 S1 EE D' [ap (.ref k.a),d1,d2,d3,ap r.d,ap (gI pl),d6,d7,d8] (lM k c s M):=by
 obtain⟨w,rest,G,_,_⟩:=jc B;rw[HL]at g;unfold li;generalize h:lj ad S0 S1 EE=K6;refine⟨rfl,qz rfl F e B ?_⟩;show ag 8 _ _ _ _;simp[ag];rw[<- h];unfold lj ah aG;refine xM F p rfl (λ_ _ q=>q) (λ_ _ q=>q) ?_;cases f:(nt c pl _ s).1 with
 |false=>
  rw[if_neg (by rw[f];simp)]at g
  exact g.2 f
 |true=>
  rw[if_pos f]at g;rw[G];simp![m4,nZ,atI_0,atI_1,fB];refine⟨(by rw[dO,SH,<- SH,e.keys];exact fM (by lia)),?_⟩
  rw[lh (Pp e B),(Jr (k:=k) (c:=c) (s:=(nt c pl (num c s.nums r) s).2) (M:=M) (x:=sN s.nums (gX r) (num c s.nums r)))];exact g.1 rfl _ _ _ _ _ _
theorem HD{a b:List Rw}(P:COk c)(f:NOk names c.m s.nums)(h:s.steps.length<=c.most)(R:m3 ad k c names n)(ok:dN names c.m c.pieces.length (.ifr x a b))(B:2*cU a+1<=n/\2*cU b+1<=n/\pl.length+2*cU a+3<=1000/\pl.length+2*cU b+3<=1000)(g:RGo D' k c M d1 d2 (ib c (.ifr x a b) pl s)):
  la ad S0 (Yj ad n) EE D' [ap (.ref k.a),d1,d2,d3,ap (.tup [.str "if",.str x,.tup (aC a),.tup (aC b)]),ap (gI pl),d6,d7,d8] (lM k c s M):=by
 unfold la ah aq;refine EU (f.at ok.1).1 rfl rfl ?_;obtain⟨rs,G,I,H,J,S⟩:∃rs,atI [D.tup (aC b),.tup (aC a)] (lk s.nums x)=ap (.tup _)/\(ib c (.ifr x a b) pl s=if (nt c pl (lk s.nums x) s).1=true then bI c rs (pl++[lk s.nums x]) 0 (nt c pl (lk s.nums x) s).2 else nt c pl (lk s.nums x) s)/\ba names c.m _ rs/\2*cU rs+1<=n/\pl.length+2*cU rs+3<=1000:=by
  unfold ib;rcases tG with hl|hl<;>rw[hl]
  .exact⟨b,rfl,rfl,ok.2.2,B.2.1,B.2.2.2⟩
  .exact⟨a,rfl,rfl,ok.2.1,B.1,B.2.2.1⟩
 rw[I]at g;unfold sh;simp[ag,Td,ah,aq,ai,ac,dC,dt,SE,av,atI_3];refine⟨bo (by simp),λp O=>?_⟩
 simp[frz,Mem.upd_same,Mem.upd_del,au O,aM,G];unfold qA aG P8;refine xM P h rfl (λ_ _ q=>q) (λ_ _ q=>q) ?_;cases F:(nt c pl _ s).1 with
 |false=>
  rw[if_neg (by rw[F];simp)]at g
  exact g.2 F
 |true=>
  rw[if_pos F]at g;simp;refine Gc R rfl (λN K q=>q) (λN K q=>rQ (by lia) rfl rfl q) H J (by simp;lia) (by rw[fB];exact f) ((nt_gr).2 h) ?_
  cases e:(bI c rs _ 0 _).1 with
  |false=>
   exact g.2 e
  |true=>
   exact g.1 e _ _ _ _ _ _
end
theorem CD(hnl:names.length<=1000)(hc:COk c)(ihd:m3 ad k c names n)(ihr:ME ad k c names n):m3 ad k c names (n+1):=by
 intro rs pl s M Q E f hn H p B h;rw[Q9];unfold B4;simp only[ah,eA,oX,aa,af,ac,dt,SE,aM,bq,og]
 refine cy (λxs U M'=>∃(e:List Rw)(j:Nat)(G:Sx)(Y T W P J O:Option D),xs=fc j (aC e)/\U=[ap (.ref k.a),ap (.tup<|aC rs),ap (gI pl),Y,T,W,P,J,O]/\M'=lM k c G M/\ba names c.m c.pieces.length e/\2*cU e+1<=n+1/\pl.length+2*cU e+2<=1000/\NOk names c.m G.nums/\G.steps.length<=c.most/\
  Q (.bl (bI c e pl j G).1) (lM k c (bI c e pl j G).2 M)) (λ_ _ _ _=>aN) ?_ ?_ _ _ _ ⟨rs,0,s,bb,bb,bb,bb,bb,bb,rfl,rfl,rfl,f,hn,H,p,B,h⟩
 .rintro U M' ⟨e,j,G,Y,T,W,P,J,O,X,rfl,rfl,f,hn,H,p,B,h⟩
  cases e with
  |nil=>
   simp only[bI]at h;simp only[az,dC];exact ak h
  |cons r rs=>simp[aC,fc]at X
 .rintro x xs U M' ⟨e,j,G,Y,T,W,P,J,O,X,rfl,rfl,f,hn,H,p,B,h⟩ D' S _ hrt _
  cases e with
  |nil=>simp[aC,fc]at X
  |cons r e=>
   simp only[aC,fc,Ue]at X;obtain⟨rfl,rfl⟩:=X;simp only[ba]at f;have h1:hR r<=cU (r::e)/\cU e<=cU (r::e):=by simp only[cU];lia
   simp only[bI]at h;have g:RGo D' k c M (ap<|.tup<|aC rs) (ap<|gI pl) (ib c r (pl++[(j:Int)]) G):=⟨λI Y T W P J O=>by
    rw[if_pos I]at h;exact S _ _ ⟨e,j+1,_,Y,T,W,P,J,O,rfl,rfl,rfl,f.2,by lia,by lia,qV hc r f.1 _ _ p,(qY r _ _).2 B,h⟩,λI=>by
    rw[if_neg (by rw[I];simp),I]at h
    rw[show D'.rt=_3.drp Q from hrt];exact ak h⟩
   clear S h;simp only[cX,aL,cO,ag,Td];refine⟨rfl,?_⟩;unfold lK ah aq;refine rQ (by lia) rfl rfl ?_
   simp only[ag,Td];unfold qK aG
   by_cases F:bi r=true
   .have R:=JB f.1 F
    rw[cC F]at g;have ds:=Fo (ad:=ad) (S0:=Yn ad n) (S1:=Yj ad n) (EE:=aJ E) (d3:=ap (.int (j:Int))) (d6:=P) (d7:=J) (d8:=O) hc p B hnl R g;obtain⟨w,rest,er,hw1,Z⟩:=jc R;rw[er]at ds ⊢;have n1:decide (w=("again":Str))=false:=decide_eq_false λz=>by rw[hw1]at z;exact z
    have n2:decide (w=("if":Str))=false:=decide_eq_false λz=>by rw[Z]at z;exact z
    refine nN rfl ?_;simp only[n1,Th,if_false];unfold kh aG;refine nN rfl ?_;simp only[n2,Th,if_false];exact ds
   cases r with
   |again x a=>
    simp only[Rw.d];refine nN rfl ?_;simp only[decide_true,if_true];unfold r8 aG;simp only[gc,cB,am,aj,aa,af,ac,dt,SE];refine⟨rfl,ao λQ' E' hq _=>ihr x a (pl++[(j:Int)]) G M Q' E' f.1 (by lia) (by simp;lia) p B (hq _ _ ?_)⟩
    cases I:(ib c (.again x a) (pl++[(j:Int)]) G).1 with
    |true=>
     simp only[frz,Fs,Vr,Th,if_false,aB];exact g.1 I _ _ _ _ _ _
    |false=>
     simp only[frz,Fs,VO,if_true,az,dC];exact g.2 I
   |ifr x a b=>
    simp only[hR]at h1;simp only[Rw.d];have n1:decide (("if":Str)=("again":Str))=false:=by decide +kernel
    refine nN rfl ?_;simp only[n1,Th,if_false];unfold kh aG;refine nN rfl ?_;simp only[decide_true,if_true];exact HD hc p B ihd f.1 ⟨by lia,by lia,by simp;lia,by simp;lia⟩ g
   |_=>exact absurd rfl F
theorem t_(e:names.length<=1000)(f:COk c):∀n:Nat,m3 ad k c names n/\ME ad k c names n
 |0=>⟨λrs pl s M Q E _ h=>by lia,λx a pl s M Q E _ h=>by simp[hR]at h;lia⟩
 |n+1=>by
  obtain⟨p,B⟩:=t_ e f n;exact⟨CD e f p B,ve f p⟩
end
section
theorem OD{k:Wk}(p:M k.a=bb)(h:M k.dn=bb):∀b o,(M.upd k.ls<|.lst<|wq s.steps) b=ap o->lM k c s M b=ap o:=by
 intro b o e
 by_cases f:b=k.ls
 .subst f;rw[Mem.upd_same]at e;rw[Kx];exact e
 rw[ae f]at e;unfold lM;rw[ae f,ae (Mem.ne e h),ae (Mem.ne e p)];exact e
theorem va(p:PlOk c names rows nums)(h:∀l,M l=bb->Q (.tup [.ref l,df names (cW c names rows nums)]) (M.upd l<|.lst<|wq (cW c names rows nums).2.steps)):
  nM ad [aV c names rows mk,bA nums c.pieces,.int (c.most:Nat)] M Q E:=by
 have hl1:=p.l1;simp![Rc,yX,aV,bA,atI_0,atI_1,atI_3,dS,SH];refine⟨p.ln,p.l0,p.l1,λdn T=>?_⟩;simp![f_ p.ln p.nd];refine⟨bo (by decide),λls e=>⟨bo (by decide),λa F=>⟨bo (by decide),?_⟩⟩⟩
 have X:dn≠ls:=by rintro rfl;rw[Mem.upd_same]at e;cases e
 have P:M ls=none:=by rw[ae (Tu X)]at e;exact e
 have n2:a≠ls:=by rintro rfl;rw[Mem.upd_same]at F;cases F
 have n1:a≠dn:=by rintro rfl;rw[ae X,Mem.upd_same]at F;cases F
 have W:M a=none:=by rw[ae n2,ae n1]at F;exact F
 obtain⟨k,R,J,H⟩:∃k:Wk,k.a=a/\k.dn=dn/\k.ls=ls:=⟨⟨a,dn,ls,n1,n2,X⟩,rfl,rfl,rfl⟩;have e0:((M.upd dn<|.dK<|dO<|names.zip nums).upd ls<|.lst []).upd a (.lst [.ref dn,.tup (c.pieces.map D.int),.ref ls,.int (c.most:Nat),.int c.m])=lM k c ⟨names.zip nums,[]⟩ M:=by
  unfold lM;rw[R,J,H,aA (Tu n2),aA (Tu n1)];rfl
 rw[e0];have hD:=(t_ (ad:=ad) (k:=k) p.l1 p.co 24).1 rows [] ⟨names.zip nums,[]⟩ M;have hn:NOk names c.m (cW c names rows nums).2.nums:=da p.co rows p.ok [] 0 ⟨names.zip nums,[]⟩ p.nok;have I:=h ls P;subst R J H;have f:=OD (c:=c) (k:=k) (s:=(cW c names rows nums).2) W T;refine ao λQ' E' Y _=>hD Q' E' p.ok (by have:=p.h;lia) (by have:=p.h;simp;lia) p.nok (Uj _) (Y _ _ ?_)
 have er:bI c rows [] 0 ⟨names.zip nums,[]⟩=cW c names rows nums:=rfl;rw[er];unfold df at I;cases Z:(cW c names rows nums).1 with
 |false=>
  rw[Z,if_neg (by simp)]at I
  simp![m4,atI_2];exact⟨bo (by decide),⟨_,f,I⟩⟩
 |true=>
  rw[Z,if_pos rfl]at I;simp![m4,atI_1,atI_2,↓aO]
  refine bN (λxs Z3 U M'=>∃n1 n2 S,names=n1++n2/\xs=n2.map D.str/\Z3=n1.map (λx=>D.int (nm (cW c names rows nums).2.nums x))/\U=[S,ap (.ref k.a)]/\M'=lM k c (cW c names rows nums).2 M)
   (λ_ _ _ _ _=>aN) ?_ ?_ ?_ _ _ _ _ ⟨[],names,bb,rfl,rfl,rfl,rfl,rfl⟩
  .rintro Z3 U M' ⟨n1,n2,S,B,G,rfl,rfl,rfl⟩ q Y
   have:n2=[]:=by cases n2 with|nil=>rfl|cons _ _=>simp at G
   subst this;have en:n1=names:=by simpa using B.symm
   subst en;simp![Mem.upd_del,au Y];exact⟨bo (by decide),⟨_,f,I⟩⟩
  .rintro x xs Z3 U M' ⟨n1,n2,S,B,G,rfl,rfl,rfl⟩ N hN _
   cases n2 with
   |nil=>simp at G
   |cons y n2=>
    simp only[SJ,Ue]at G;obtain⟨rfl,rfl⟩:=G;have hy:=(hn.at (x:=y)<|by rw[B];simp).1
    have O:n1.length+n2.length+1=names.length:=by rw[B];simp;lia
    simp![m4,nZ,atI_0,bY,hy,Ua];exact hN _ _ _ (by rw[SH];exact fM (by lia)) ⟨n1++[y],n2,_,by rw[B];simp,rfl,by simp,rfl,rfl⟩
  .rintro x xs Z3 U M' ⟨n1,n2,S,B,G,rfl,rfl,rfl⟩
   have O:n1.length+n2.length=names.length:=by rw[B];simp
   rw[SH];exact fM (by lia)
theorem ju{b:BxQ EE λd M'=>frzT d M' Q}(p:PlOk c names rows nums)(h:Q (CW names<|cW c names rows nums) M):
  calls (nM ad) EE [aV c names rows mk,bA nums c.pieces,.int (c.most:Nat)] M (λd M'=>frzT d M' Q) b:=by
 refine ao λQ' E' B _=>va p λl f=>B _ _ ?_;unfold CW df at h;unfold df;cases e:(cW c _ _ _).1 with
 |true=>
  rw[e]at h;rw[if_pos rfl];simp![Mem.upd_del,au f];exact h
 |false=>
  rw[e]at h;rw[if_neg (by simp)]
  simp![Mem.upd_del,au f];exact h
end
theorem whT{e:eW}{f:ar}{p:BxW e f D'}(B:∀K:Bool->Mem->Prop,K true M->e U M K)(h:f { D' with nx:=cz e f D' p n,ct:=cz e f D' p n,bk:=D'.nx } U M):cz e f D' p (n+1) U M:=by
 unfold cz
 simp_all
theorem whF{e:eW}{f:ar}{p:BxW e f D'}(B:∀K:Bool->Mem->Prop,K cp M->e U M K)(h:D'.nx U M):cz e f D' p (n+1) U M:=by
 unfold cz
 simp_all
theorem bJ{p:cb}{xs:List D}(e:M p=bb)(h:Q (.lst xs) M):frz (.ref p) (M.upd p<|.lst xs) Q:=by
 simp[frz,au e];exact h
section
variable{s t:Sta}
noncomputable def aE(C:Cse)(s t:Sta):List aF:=(dJ C).filter λk=>decide (aH C s k≠aH C t k)
theorem uw(o:C.Ok)(h:∀p,M p=bb->Q (.ref p) (M.upd p<|.lst<|(dJ C).map kD)):vC ad [C.d] M Q E:=by
 have l1:=o.l1;have few:=o.few;rw[RI];unfold zE Cse.d;simp![atI_1,atI_2];intro I f;simp only[Mem.upd_del,au f];refine⟨by lia,λH F=>?_⟩
 simp[au F];refine⟨bo (by simp[cE];lia),λB G=>ak ?_⟩
 have:=h B G;have e:(dJ C).map kD=C.names.map D.str++cE 0 (Vp C.many):=by simp[dJ];congr 1;exact Tz λi _=>by simp[kD]
 rw[e]at this;exact this
theorem D_(o:C.Ok)(I:SOk C s)(H:SOk C t)(h:∀p,M p=bb->Q (.ref p) (M.upd p<|.lst<|(aE C s t).map kD)):Bh ad [C.d,s.d,t.d] M Q E:=by
 have l1:=o.l1;have few:=o.few;have J:(dJ C).length=C.names.length+C.many:=by simp[dJ]
 refine⟨rfl,ao λQ' E' G _=>uw o λp f=>G _ _ (bJ f ?_)⟩;refine cM (λd=>match cA d with|some k=>decide (aH C s k≠aH C t k)|none=>cp) id aN (by simp;lia) (λx B K q=>?_) (λx B _ K q=>q) ?_
 .obtain⟨k,F,rfl⟩:=SV.mp B
  refine⟨rfl,aK (λ_ _ q=>dA o I F q) ?_⟩;refine⟨rfl,aK (λ_ _ q=>dA o H F q) ?_⟩;refine⟨rfl,rfl,?_⟩;have e:cA (kD k)=ap k:=by cases k<;>rfl
  simp[e]at q
  assumption
 intro p f;have e:(((dJ C).map kD).filter λd=>match cA d with|some k=>decide (aH C s k≠aH C t k)|none=>cp).map id=(aE C s t).map kD:=by
  rw[Uo,T2];congr 1;refine UG λk _=>?_;cases k<;>rfl
 rw[e];exact ak (h p f)
theorem mG{b:Int}(o:C.Ok)(p:SOk C s)(B:SOk C t)(G:C.mark s=.int a)(F:C.mark t=.int b)(e:a≠b)(h:Q (.tup [.int a,.int b]) M):uT ad [bj C s t] M Q E:=by
 rw[Sl];unfold zp rj;generalize f:rJ ad _=K;simp![bj];refine pJ o p (ud ?_);rw[G];simp![];refine pJ o B (ud ?_);rw[F,<- f];simp![e];exact⟨by trivial,ak h⟩
theorem jX{b:Int}{m:D}(e:m=.non\/∃v,m=.int v)(h:Q (.str (if aR m (.int a)=true then "sound" else if aR m (.int b)=true then "faulty" else "other")) M):AM ad [.tup [.int a,.int b],m] M Q E:=by
 rcases e with rfl|⟨v,rfl⟩
 .simp![Lx,vS,atI_0,atI_1]
  exact ak h
 simp![Lx,vS,atI_0,atI_1];simp[aR]at h
 split
 .rename_i q;rw[if_pos q]at h;exact ak h
 rename_i q;rw[if_neg q]at h
 split
 .rename_i q;rw[if_pos q]at h;exact ak h
 rename_i q;rw[if_neg q]at h;exact ak h
end
section
variable{κ:Type}[DecidableEq κ]
theorem IT{Z2:List (κ×D)}{k j:κ}{v:D}:(cq (dL Z2 k v) j).isSome=(decide (j=k)||(cq Z2 j).isSome):=by
 unfold dL
 split
 .rename_i h
  induction Z2 with
  |nil=>simp at h
  |cons p r ih=>
   obtain⟨f,J⟩:=p;simp only[SJ,cq,UR] at*
   by_cases e:f=k
   .subst e
    by_cases B:f=j
    .simp_all
    have H:¬j=f:=λz=>B z.symm;simp only[if_pos,B,decide_false,H,Wx]
    by_cases G:(r.any λF=>decide (F.1=f))=true
    .have:=ih G
     simp only[H]at this;exact this
    have:r.map (λF=>if F.1=f then (F.1,v) else F)=r:=by
     conv=>rhs;rw[<- Uo r]
     refine Tz λq I=>?_;have:¬q.1=f:=λz=>G (List.any_eq_true.mpr ⟨q,I,by simp[z]⟩)
     simp[this]
    rw[this]
   rw[if_neg e]
   by_cases B:f=j
   .simp_all
   simp only[B];exact ih (by simp_all)
 unfold cq;rw[List.find?_append];cases q:Z2.find? _ with
 |some x=>simp
 |none=>
  by_cases e:j=k
  .subst e;simp
  have B:¬k=j:=λz=>e z.symm;simp[e,B]
theorem nD{Z2:List (κ×D)}{j:κ}:∀{a0:List (κ×D)},(cq (Z2.foldl (λa p=>dL a p.1 p.2) a0) j).isSome=(decide (j∈Z2.map (·.1))||(cq a0 j).isSome):=by
 induction Z2 with
 |nil=>simp
 |cons p r ih=>
  intro a0;rw[Ut,ih,IT,SJ]
  by_cases e:j=p.1
  .simp[e]
  simp only[SQ,e,false_or,decide_false,Wx]
theorem qM{Z2:List (κ×D)}:∀{a0:List (κ×D)},(a0.map (·.1)++Z2.map (·.1)).Nodup->Z2.foldl (λa p=>dL a p.1 p.2) a0=a0++Z2:=by
 induction Z2 with
 |nil=>simp
 |cons p r ih=>
  intro a0 h;have e:dL a0 p.1 p.2=a0++[p]:=by
   unfold dL;rw[if_neg];intro z;obtain⟨q,f,e⟩:=List.any_eq_true.mp z;exact(V2.mp h).2.2 _ (Tx f) _ TF (by lia)
  simp_all
end
noncomputable def uD(u:List aF):List (aF×D):=u.map λk=>(k,D.bl true)
theorem rl:(uD u).map (·.1)=u:=by
 unfold uD;rw[Tb];exact Uo u
theorem km{k:aF}:(cq (uD u) k).isSome=decide (k∈u):=by
 have:=@nD _ _ (uD u) k []
 induction u with
 |nil=>rfl
 |cons a r ih=>
  unfold uD cq;rw[SJ,UR]
  by_cases e:a=k
  .subst e;simp
  have f:¬k=a:=λz=>e z.symm;simp only[e,SQ,f,false_or];exact ih (@nD _ _ _ k [] |>.trans (by rw[rl]))
theorem uE{k:aF}:pH (uD u) k=uD (u.filter λx=>decide (x≠k)):=by
 unfold pH uD;rw[T2];rfl
theorem jk:∀ks:List aF,u_ (ks.map λk=>D.tup [kD k,.bl true])=ap (uD ks)
 |[]=>rfl
 |k::ks=>by
  have e:cA (kD k)=ap k:=by cases k<;>rfl
  simp[u_,e,jk ks];rfl
section
variable{s t:Sta}
theorem fg{k:aF}:cA (kD k)=ap k:=by cases k<;>rfl
theorem rb{a:cb}{Z2:List (aF×D)}{k:aF}(h:M a=ap (.dK Z2)):j8 M (kD k) (.ref a)=ap (cq Z2 k).isSome:=by
 unfold j8;have:aM M (.ref a)=none:=by simp[aM,h]
 rw[this];unfold tL;simp[h,fg]
theorem sg(o:C.Ok)(S:ks.length<=1000)(h:∀p,M p=bb->Q (.ref p) (M.upd p<|.lst<|((dJ C).filter λk=>decide (k∈ks)).map kD)):BC ad [C.d,BF ks] M Q E:=by
 have l1:=o.l1;have few:=o.few;have T:(dJ C).length=C.names.length+C.many:=by simp[dJ]
 rw[Qs];unfold Aw;generalize R:kX ad (aJ E)=K;unfold BF;simp only[ah,aq,bg,aa,am,aO,bQ,ac,af,SE,dt,aM,bq,br,SJ,TJ,Tj,Tg];refine cc (λd=>.tup [d,.bl true]) aN (by simp;lia) (λx F K q=>?_) ?_
 .simp only[aT,aa,ac,dC,af,SE,dt]
  exact⟨bo (by simp),q⟩
 .intro p O
  refine bJ O ?_;have e:(ks.map kD).map (λd=>D.tup [d,.bl true])=ks.map λk=>D.tup [kD k,.bl true]:=by simp
  rw[e];simp only[fN,Dv,cN,jk];refine⟨trivial,by simp[uD];lia,λP I=>?_⟩
  simp only[ag,Td];rw[<- R];unfold kX;simp only[az,aO,bQ,am,aj,aa,ac,af,SE,dt];refine⟨rfl,ao λQ' E' H _=>uw o λW J=>H _ _ (bJ J ?_)⟩;simp only[aM,bq,br,SJ,TJ,Tj,Tg,SE,dt,T8];refine cM (λd=>match cA d with|some k=>decide (k∈ks)|none=>cp) id aN (by simp;lia) (λx F K q=>?_) (λx F _ K q=>q) ?_
  .obtain⟨k,S,rfl⟩:=SV.mp F
   simp only[fg]at q;simp only[al,ai,ac,SE,dt,tW,rb (Mem.upd_same),nD,rl];simpa [cq] using q
  .intro f B
   have e:(((dJ C).map kD).filter λd=>match cA d with|some k=>decide (k∈ks)|none=>cp).map id=((dJ C).filter λk=>decide (k∈ks)).map kD:=by
    rw[Uo,T2];congr 1;refine UG λk _=>?_;simp only[Function.comp,fg]
   rw[e];have n1:f≠P:=λz=>by rw[z,Mem.upd_same]at B;cases B
   rw[ae n1]at B;refine⟨M.upd f (.lst<|((dJ C).filter λk=>decide (k∈ks)).map kD),λb X e=>?_,h f B⟩
   by_cases G:b=f
   .subst G;rw[Mem.upd_same]at e ⊢;exact e
   .rw[ae G]at e ⊢
    rw[ae (λz=>by rw[z,I]at e;cases e)]
    exact e
noncomputable def eP:Rw->List Str
 |.pick _ y=>[y]
 |.two _ _ y z=>[y,z]
 |.ifr x _ _=>[x]
 |.again x _=>[x]
 |_=>[]
theorem mO(B:dN names m many r)(h:∀p,M p=bb->Q (.ref p) (M.upd p<|.lst<|(eP r).map D.str)):zc ad [r.d] M Q E:=by
 cases r with
 |pick x y=>simp![ue,jI,Rw.d,atI_0];exact λp e=>ak (h p e)
 |two w x y z=>
  obtain⟨f,_⟩:=B;rcases f with rfl|rfl|rfl|rfl<;>(simp![ue,jI,Rw.d,atI_0];exact λp e=>ak (h p e))
 |ifr x a b=>simp![ue,jI,Rw.d,atI_0];exact⟨bo (by decide),λp e=>ak (h p e)⟩
 |again x a=>simp![ue,jI,Rw.d,atI_0];exact⟨bo (by decide),λp e=>ak (h p e)⟩
 |_=>simp![ue,jI,Rw.d,atI_0];exact⟨bo (by decide),λp e=>ak (h p e)⟩
end
structure Gk where
 a:cb
 dn:cb
 lp:cb
 du:cb
 h1:a≠dn
 h2:a≠lp
 h3:a≠du
 h4:dn≠lp
 h5:dn≠du
 h6:lp≠du
structure Gs where
 n:cw
 ps:List Int
 u:List aF
 td:List Rw
 left:Int
noncomputable def oi:List Rw->D
 |[]=>.non
 |r::rs=>.tup [r.d,oi rs]
noncomputable def gF(k:Gk)(td:D)(left:Int):List (Str×D):=[("numbers",.ref k.dn),("pieces",.ref k.lp),("unsettled",.ref k.du),("todo",td),("left",.int left)]
noncomputable def gM(ad:Ad)(k:Gk)(g:Gs)(M:Mem):Mem:=(((M.upd k.a<|.ins ad.C_Going<|gF k (oi g.td) g.left).upd k.dn<|.dK<|dO g.n).upd k.lp<|.lst<|g.ps.map D.int).upd k.du (.dK<|uD g.u)
section
variable{k:Gk}
theorem g8:gM ad k g M k.du=ap (.dK<|uD g.u):=by unfold gM;simp_all
theorem pK:gM ad k g M k.lp=ap (.lst<|g.ps.map D.int):=by unfold gM;rw[ae k.h6,Mem.upd_same]
theorem fS:gM ad k g M k.dn=ap (.dK<|dO g.n):=by unfold gM;rw[ae k.h5,ae k.h4,Mem.upd_same]
theorem cF:gM ad k g M k.a=ap (.ins ad.C_Going<|gF k (oi g.td) g.left):=by unfold gM;rw[ae k.h3,ae k.h2,ae k.h1,Mem.upd_same]
theorem l_(f:b≠k.a)(e:b≠k.dn)(h:b≠k.lp)(p:b≠k.du):gM ad k g M b=M b:=by
 unfold gM;rw[ae p,ae h,ae e,ae f]
structure Gk.Fr(k:Gk)(M:Mem):Prop where
 a:M k.a=bb
 dn:M k.dn=bb
 lp:M k.lp=bb
 du:M k.du=bb
theorem bX(h:gM ad k g M b=bb):b≠k.a/\b≠k.dn/\b≠k.lp/\b≠k.du/\M b=none:=by
 have e:b≠k.a:=λz=>by rw[z,cF]at h;cases h
 have f:b≠k.dn:=λz=>by rw[z,fS]at h;cases h
 have p:b≠k.lp:=λz=>by rw[z,pK]at h;cases h
 have B:b≠k.du:=λz=>by rw[z,g8]at h;cases h
 rw[l_ e f p B]at h;trivial
theorem dF(f:k.Fr M)(e:M b=ap o):gM ad k g M b=ap o:=by
 rw[l_ (λz=>by rw[z,f.a]at e;cases e) (λz=>by rw[z,f.dn]at e;cases e) (λz=>by rw[z,f.lp]at e;cases e) (λz=>by rw[z,f.du]at e;cases e)]
 exact e
theorem tD(f:k.Fr M){h:MO}(e:M b=ap o):(gM ad k g M).upd b h=gM ad k g (M.upd b h):=by
 have n1:k.a≠b:=λz=>by rw[<- z,f.a]at e;cases e
 have n2:k.dn≠b:=λz=>by rw[<- z,f.dn]at e;cases e
 have p:k.lp≠b:=λz=>by rw[<- z,f.lp]at e;cases e
 unfold gM;rw[aA (λz=>by rw[<- z,f.du]at e;cases e),aA p,aA n2,aA n1]
theorem AW:(gM ad k g M).upd k.a (.ins ad.C_Going<|gF k (oi td) left)=gM ad k { g with td:=td,left:=left } M:=by
 unfold gM;rw[aA (Tu k.h3),aA (Tu k.h2),aA (Tu k.h1),Mem.upd_upd]
theorem Lm{n:cw}:(gM ad k g M).upd k.dn (.dK<|dO n)=gM ad k { g with n:=n } M:=by
 unfold gM;rw[aA (Tu k.h5),aA (Tu k.h4),Mem.upd_upd]
theorem Ra:(gM ad k g M).upd k.lp (.lst<|ps.map D.int)=gM ad k { g with ps:=ps } M:=by
 unfold gM;rw[aA (Tu k.h6),Mem.upd_upd]
theorem LU:(gM ad k g M).upd k.du (.dK<|uD u)=gM ad k { g with u:=u } M:=by
 unfold gM
 simp_all
end
section
variable{k:Gk}{td:D}
theorem PX:TR ("numbers":Str) (gF k td left)=ap (.ref k.dn):=rfl
theorem gf1:TR ("pieces":Str) (gF k td left)=ap (.ref k.lp):=rfl
theorem Lq:TR ("unsettled":Str) (gF k td left)=ap (.ref k.du):=rfl
theorem PV:TR ("todo":Str) (gF k td left)=ap td:=rfl
theorem gf4:TR ("left":Str) (gF k td left)=ap (.int left):=rfl
theorem gfs:TR ("settled":Str) (gF k td left)=none:=rfl
theorem OP{d:D}:bK "todo" d (gF k td left)=gF k d left:=rfl
theorem gfp4:bK "left" (.int v) (gF k td left)=gF k td v:=rfl
theorem gfl:(gF k td left).length=5:=rfl
end
section
variable{s t:Sta}
theorem eJ(h:Q (oi (rs++td)) M):m5 ad [.tup (aC rs),oi td] M Q E:=by
 rw[Rk];unfold zb;simp only[ah,eA,Nh,aa,ac,af,SE,dt];refine cy (λF U N=>∃(c:Option D)(us p:List Rw),rs=us++p/\F=(aC us).reverse/\U=[ap (.tup<|aC rs),ap (oi (p++td)),c]/\N=M) (λ_ _ _ _=>aN) ?_ ?_ _ _ _ ⟨bb,rs,[],by simp,rfl,rfl,rfl⟩
 .rintro U N ⟨c,us,p,B,f,rfl,rfl⟩
  have:us=[]:=by
   cases us with
   |nil=>rfl
   |cons a b=>rw[aC]at f;simp at f
  subst this;rw[Tg]at B;subst B;simp only[az,ac,SE,dt];exact ak h
 .rintro y F U N ⟨c,us,p,B,f,rfl,rfl⟩ D' G _ _ _
  obtain⟨e,r,rfl⟩:∃e r,us=e++[r]:=by
   rcases List.eq_nil_or_concat us with z|⟨e,r,z⟩
   .subst z;rw[aC]at f;simp at f
   .exact⟨e,r,by simpa using z⟩
  rw[gq,VA,List.reverse_append]at f;simp only[SJ,TJ,List.reverse_cons,List.reverse_nil,Tg,Tj,Ue]at f;obtain⟨rfl,rfl⟩:=f;simp only[ag,Td];unfold rR;simp only[aq,aT,aa,ac,af,ag,Td,SE,dt];exact⟨bo (by simp),G _ _ ⟨_,e,r::p,by simp[B],by rw[gq],rfl,rfl⟩⟩
end
structure GOk(C:Cse)(g:Gs):Prop where
 n:NOk C.names C.w g.n
 lp:g.ps.length=C.many
 rp:∀v∈g.ps,0<=v/\v<C.w
 td:ba C.names C.w C.many g.td
noncomputable def Gs.cf(C:Cse)(g:Gs):Cf:=⟨C.w,g.ps,C.most⟩
section
theorem GOk.pd(k:GOk C g):C.d=aV (g.cf C) C.names C.rows C.mn:=by unfold Cse.d aV Gs.cf;rw[k.lp]
theorem GOk.co(k:GOk C g)(o:C.Ok):COk (g.cf C):=⟨o.m2,o.m1,k.rp,by show g.ps.length<=_;rw[k.lp];have:=o.few;lia,o.most⟩
noncomputable def KP(C:Cse)(n:cw):Rw->Option Int
 |.take _ i=>ap i
 |.pick _ y=>ap (nm n y % (C.many:Int))
 |_=>bb
noncomputable def Pa(o:Option Int):D:=match o with
 |some i=>.int i
 |none=>.non
theorem gw(h:dN names m many r)(e:bi r=true):cu names m many r:=by
 cases r<;>first|exact h|cases e
end
section
variable{s t:Sta}
theorem jL{p:cb}(k:GOk C g)(B:dN C.names C.w C.many r)(F:M p=ap (.dK<|dO g.n))(h:Q (Pa<|KP C g.n r) M):nh ad [C.d,.ref p,r.d] M Q E:=by
 cases f:bi r with
 |true=>
  rw[k.pd];refine cg k.n (by have:=gw B f;rw[<- k.lp]at this;exact this) F ?_
  have e:((g.cf C).pieces.length:Int)=C.many:=by show (g.ps.length:Int)=_;rw[k.lp]
  cases r with
  |pick x y=>
   show Q (.int _) M;rw[e];exact h
  |_=>exact h
 |false=>
  cases r with
  |ifr x a b=>simp![pe,io,Cse.d,Rw.d,atI_0];exact ak h
  |again x a=>simp![pe,io,Rw.d,atI_0];exact ak h
  |_=>cases f
theorem wV{O:cb}(o:C.Ok)(k:GOk C g)(T:dN C.names C.w C.many r)(P:bi r=true)(W:M O=ap (.dK<|dO g.n))(X:M lp=ap (.lst<|g.ps.map D.int))(h:Q (.int<|num (g.cf C) g.n r) M):
  o5 ad [C.d,.ref O,.ref lp,r.d] M Q E:=by
 have Y:=o.m1;have hm2:=o.m2;have hc:=k.co o;have e:=gw T P;have J:=k.lp;have F:∀i:Nat,i<C.many->(g.ps.map D.int)[i]?=ap (.int<|(g.ps[i]?).getD 0):=λi hi=>by
  rw[SN,SG (by lia)];rfl
 have p:∀{K:DK},K (Pa<|KP C g.n r) M->∀Q' E',(∀d M,K d M->Q' d M)->nh ad [C.d,.ref O,r.d] M Q' E':=λ{K} q Q' E' f=>jL k T W (f _ _ q);have B:=@zw C;cases r with
 |put x v=>
  simp![jM,gk,B,Rw.d,atI_0,atI_2];exact ak h
 |take x i=>
  obtain⟨R,G,h1⟩:=e;have I:=F i.toNat (by lia)
  rw[Rw.d]at p ⊢;simp![jM,gk,atI_0,atI_2];refine ao λQ' E' f _=>p (K:=λd M=>_) ?_ Q' E' f;simp![KP,Pa,X,bf G,I];exact ak h
 |pick x y=>
  obtain⟨R,S,G⟩:=e;have g0:=UH (nm g.n y) (show (C.many:Int)≠0 by lia)
  have g1:=Uk (nm g.n y) G;have I:=F (nm g.n y % (C.many:Int)).toNat (by lia)
  have e2:num (g.cf C) g.n (.pick x y)=(g.ps[(nm g.n y % (C.many:Int)).toNat]?).getD 0:=by show (g.ps[(nm g.n y % (g.ps.length:Int)).toNat]?).getD 0=_;rw[J]
  rw[e2]at h;rw[Rw.d]at p ⊢;simp![jM,gk,atI_0,atI_2];refine ao λQ' E' f _=>p (K:=λd M=>_) ?_ Q' E' f;simp![KP,Pa,X,bf g0,I];exact ak h
 |two w x y z=>
  obtain⟨hw,R,S,hz⟩:=e;have a1:=k.n.at S;have Z:=k.n.at hz;have H:((w=Vf "put")=False):=by rcases hw with rfl|rfl|rfl|rfl<;>exact eq_false (by decide +kernel)
  rw[Rw.d]at p ⊢;simp![jM,gk,atI_0,atI_2,H];refine ao λQ' E' f _=>p (K:=λd M=>_) ?_ Q' E' f;simp![KP,Pa,B,atI_0,atI_2,atI_3,W,bY,a1.1,Z.1,Ua];exact aK (d:=.int (num (g.cf C) g.n<|.two w x y z)) (λ_ _ q=>jN (by lia) (by lia) (by lia) q) (ak h)
 |ifr=>cases P
 |again=>cases P
end
noncomputable def fw(C:Cse)(g:Gs)(r:Rw):Option aF:=
 if g.u=[] then bb else match (dJ C).filter λk=>decide (k∈((eP r).filter λx=>decide ((TB x:aF)∈g.u)).map TB) with
  |k::_=>ap k
  |[]=>match KP C g.n r with
   |some i=>if (UC i:aF)∈g.u then ap (.inl i) else bb
   |none=>bb
noncomputable def IU:Option aF->D
 |some k=>kD k
 |none=>.non
section
variable{s t:Sta}{k:Gk}
theorem AI(h:dN names m many r):∀x∈eP r,x∈names:=by
 cases r with
 |pick x y=>intro z e;simp[eP]at e;subst e;exact h.2.1
 |two w x y z=>intro v f;simp[eP]at f;rcases f with rfl|rfl;exact h.2.2.1;exact h.2.2.2
 |ifr x a b=>intro z e;simp[eP]at e;subst e;exact h.1
 |again x a=>intro z e;simp[eP]at e;subst e;exact h.1
 |_=>simp[eP]
theorem EB:(eP r).length<=2:=by cases r<;>simp[eP]
theorem uD_emp:(uD u).isEmpty=u.isEmpty:=by cases u<;>rfl
theorem Fa:j8 (gM ad k g M) (.str x) (.ref k.du)=ap (decide ((TB x:aF)∈g.u)):=by
 have:=rb (k:=.inr x) (g8 (ad:=ad) (k:=k) (g:=g) (M:=M));rw[km]at this;exact this
theorem qB(o:C.Ok)(ok:GOk C g)(R:dN C.names C.w C.many r)(h:Q (IU<|fw C g r) (gM ad k g M)):yx ad [C.d,.ref k.a,r.d] (gM ad k g M) Q E:=by
 have I:=AI R;have J:=EB (r:=r);rw[Ql];unfold AZ;simp only[ah,aG,gc,cB,aW,ac,SE,dt,cF,Lq,Fs,g8];refine⟨trivial,?_⟩;unfold fw at h;cases X:g.u with
 |nil=>
  rw[if_pos X]at h;exact ak h
 |cons u0 ur=>
  rw[if_neg (by rw[X];simp)]at h
  simp[aB];unfold qS;simp[ah,dt];refine⟨rfl,ao λQ' E' H _=>mO R λp f=>H _ _ (bJ f ?_)⟩;simp only[br,SJ,TJ,Tj,Tg,SE,dt,T8];refine cM (λd=>match d with|.str x=>decide ((TB x)∈g.u)|_=>cp) id aN (by simp;lia) (λx B K q=>?_) (λx B _ K q=>q) ?_
  .obtain⟨y,hy,rfl⟩:=SV.mp B
   simp only[al,ai,ac,aW,SE,dt,cF,Lq,tW,Fa];trivial
  intro p f;generalize P:((eP r).filter λx=>decide ((TB x:aF)∈g.u))=fnd at h;have e:(((eP r).map D.str).filter λd=>match d with|.str x=>decide ((TB x:aF)∈g.u)|_=>cp).map id=(fnd.map TB).map kD:=by
   rw[Uo,T2,<- P,Tb];rfl
  have hfn:∀x∈fnd,x∈C.names:=λx B=>by rw[<- P]at B;exact I x (SS.mp B).1
  have Y:fnd.length<=2:=by rw[<- P];exact SX (TK _ _) J
  rw[e];simp only[de,Td,SE,dt];refine bJ (Q:=λd M'=>(ka ad<|aJ E) _ [ap C.d,ap (.ref k.a),ap r.d,ap d,bb] M') f ?_;unfold ka;simp only[ah,aG,cB,ac,SE,dt,Fs];cases G:fnd with
  |nil=>
   have Z:((dJ C).filter λk=>decide (k∈(fnd.map TB:List aF)))=[]:=by rw[G];simp
   rw[Z]at h;simp only[TJ,List.isEmpty_nil,Vr];rw[if_neg (by simp)]
   simp only[aB];unfold sw sK;simp only[ah,aq,am,aj,aa,ac,af,aW,SE,dt,cF,PX];refine⟨trivial,rfl,aK (λ_ _ q=>jL ok R fS q) ?_⟩;cases f:KP C g.n r with
   |none=>
    simp only[f]at h;simp only[Pa,frz,ag,Td,az,kI,al,ai,ac,dC,aW,SE,dt,cF,Lq,Dx,yo,g8];refine⟨trivial,?_⟩;rw[if_neg (by simp)]
    exact ak h
   |some i=>
    simp only[f]at h;have O:=rb (k:=.inl i) (g8 (ad:=ad) (k:=k) (g:=g) (M:=M));rw[km]at O;simp only[kD]at O;simp only[Pa,frz,ag,Td,az,kI,al,ai,ac,dC,aW,SE,dt,cF,Lq,Dx,yo,O];refine⟨trivial,?_⟩
    by_cases c:(UC i:aF)∈g.u
    .rw[if_pos c]at h
     rw[if_pos (by simpa using c)]
     exact ak h
    .rw[if_neg c]at h
     rw[if_neg (by simpa using c)]
     exact ak h
  |cons f0 fr=>
   have F:∃T S,((dJ C).filter λk=>decide (k∈(fnd.map TB:List aF)))=T::S:=by
    have:(TB f0:aF)∈(dJ C).filter λk=>decide (k∈(fnd.map TB:List aF)):=by
     refine SS.mpr ⟨Vu _ (Tx<|hfn f0<|by rw[G];simp),?_⟩
     rw[G];simp
    cases q:(dJ C).filter λk=>decide (k∈(fnd.map TB:List aF)) with
    |nil=>rw[q]at this;cases this
    |cons a b=>exact⟨a,b,rfl⟩
   obtain⟨T,S,W⟩:=F;rw[W]at h;simp only at h;have hne:((f0::fr).map (TB:Str->aF)).map kD≠[]:=by simp
   rw[if_pos (by simp)]
   unfold rB;simp only[az,ai,am,aj,aa,ac,af,dC,SE,dt];refine⟨rfl,ao λQ' E' H _=>sg (ks:=(f0::fr).map TB) o (by rw[<- G,SH];lia) λp f=>H _ _ (bJ f ?_)⟩
   rw[<- G,W];simp only[av,aM,SJ,atI_0,dt];exact ak h
end
theorem okRs_app{names:Z_}{m many:Int}:∀{a b:List Rw},ba names m many (a++b)↔ba names m many a/\ba names m many b
 |[],b=>by simp[ba]
 |r::a,b=>by simp[ba,okRs_app,and_assoc]
noncomputable def on(C:Cse)(g:Gs)(rest:List Rw):Rw->Gs
 |.ifr x a b=>{ g with left:=g.left-1,td:=(if nm g.n x=0 then b else a)++rest }
 |.again x a=>{ g with left:=g.left-1,td:=if nm g.n x=0 then rest else a++(.again x a::rest) }
 |r=>{ g with left:=g.left-1,td:=rest,n:=sN g.n (gX r) (num (g.cf C) g.n r),u:=g.u.filter λk=>decide (k≠.inr (gX r)) }
theorem mP:(on C g rest r).left=g.left-1:=by cases r<;>rfl
section
variable{s t:Sta}{k:Gk}
theorem EQ(o:C.Ok)(ok:GOk C g)(e:dN C.names C.w C.many r)(f:bi r=true):0<=num (g.cf C) g.n r/\num (g.cf C) g.n r<C.w:=
 z0 (ok.co o) ok.n (by have:=gw e f;rw[<- ok.lp]at this;exact this)
theorem xC(o:C.Ok)(ok:GOk C g)(e:g.td=r::rest):GOk C (on C g rest r):=by
 have h:=ok.td;rw[e]at h;obtain⟨p,f⟩:=h;have B:bi r=true->GOk C { g with left:=g.left-1,td:=rest,n:=sN _ (gX r) _,u:=g.u.filter λk=>decide (k≠.inr (gX r)) }:=λF=>
  ⟨Eb (c:=g.cf C) ok.n (EQ o ok p F),ok.lp,ok.rp,f⟩
 cases r with
 |ifr x a b=>
  refine⟨ok.n,ok.lp,ok.rp,okRs_app.mpr ⟨?_,f⟩⟩
  split
  .exact p.2.2
  exact p.2.1
 |again x a=>
  refine⟨ok.n,ok.lp,ok.rp,?_⟩;show ba _ _ _ (if nm _ x=0 then rest else a++(.again x a::rest))
  split
  .exact f
  exact okRs_app.mpr ⟨p.2,p,f⟩
 |_=>exact B rfl
theorem xp(h:cu names m many r):gX r∈names:=by
 cases r with
 |two w x y z=>exact h.2.1
 |ifr=>exact h.elim
 |again=>exact h.elim
 |_=>exact h.1
theorem Fy:PP (gM ad k g M) (.ref k.du)=true:=by simp[PP,g8]
theorem Kc{k:aF}(h:k∉u):u.filter (λx=>decide (x≠k))=u:=Ya.mpr (by lia)
theorem OY(o:C.Ok)(ok:GOk C g)(f:dN C.names C.w C.many r)(p:bi r=true)(h:D'.nx [ap C.d,ap (.ref k.a),ap r.d] (gM ad k { g with n:=sN g.n (gX r) (num (g.cf C) g.n r),u:=g.u.filter λk=>decide (k≠.inr (gX r)) } M)):
  jg ad EE D' [ap C.d,ap (.ref k.a),ap r.d] (gM ad k g M):=by
 have e:∀{M:Mem}{K:DK},K (.str<|gX r) M->av r.d (.int 1) M K:=λq=>by
  cases r<;>assumption
 unfold jg wN;simp only[ah,aq,am,aj,aa,ac,aW,SE,dt,cF,gf1];refine⟨trivial,trivial,rfl,aK (λ_ _ q=>wV o ok f p fS pK q) ?_⟩;simp only[frz,cH,aW,ai,ac,dC,SE,dt,cF];refine⟨trivial,e ?_⟩;have B:(dO g.n).length<sizeLine:=by
  have H:(dO g.n).length=C.names.length:=by rw[<- ok.n.keys];simp[dO]
  have:=o.l1;exact fM (by lia)
 simp[sW,fS,cA,lh (by rw[ok.n.keys];exact(xp<|gw f p)),Lm]
 refine⟨B,?_⟩;simp only[bn,FI,aW,ai,ac,dC,SE,dt,cF,Lq,Fy];refine⟨trivial,trivial,e ?_⟩;simp[g8,cA];cases G:cq (uD _) _ with
 |some v=>simp only[uE,LU];exact h
 |none=>
  have F:(TB<|gX r)∉g.u:=λz=>by
   have:=km (u:=g.u) (k:=.inr (gX r))
   simp_all
  rw[Kc F]at h;exact h
theorem lC{e:Str}{rest:List D}{K:Bool->Mem->Prop}(f:U[2]?=ap (ap<|.tup (.str w::rest)))(q:K (decide (w=e)) M):al (ai bM (ai av (ac 2)<|dC<|.int 0)<|dC<|.str e) U M K:=by
 simp[al,ai,ac,dC,f,av,aM];trivial
theorem CI(h:dN C.names C.w C.many r)(e:bi r=true):∃w rest,r.d=.tup (.str w::rest)/\decide (w=("if":Str))=cp/\decide (w=("again":Str))=false:=by
 cases r with
 |ifr=>cases e
 |again=>cases e
 |two w x y z=>
  obtain⟨f,_⟩:=h;refine⟨_,_,rfl,?_⟩;rcases f with rfl|rfl|rfl|rfl<;>exact⟨by rfl,by rfl⟩
 |_=>exact⟨_,_,rfl,by rfl,by rfl⟩
theorem w_(o:C.Ok)(ok:GOk C g)(e:g.td=r::rest)(h:Q .non (gM ad k (on C g rest r) M)):Hy ad [C.d,.ref k.a,r.d] (gM ad k g M) Q E:=by
 have G:=ok.td;rw[e]at G;obtain⟨I,p⟩:=G;have B:GOk C { g with td:=rest,left:=g.left-1 }:=⟨ok.n,ok.lp,ok.rp,p⟩;rw[u_q9];unfold Ki xB;have J:oi g.td=.tup [r.d,oi rest]:=by rw[e];rfl
 have Y:=AW (ad:=ad) (k:=k) (g:=g) (M:=M) (td:=g.td) (left:=g.left-1);simp only[ah,rW,ck,aW,ai,ac,dC,SE,dt,cF,gf4,gfl,gfp4,Y];refine⟨trivial,by decide,trivial,trivial,?_⟩
 have T:=AW (ad:=ad) (k:=k) (g:={ g with left:=g.left-1 }) (M:=M) (td:=rest) (left:=g.left-1);simp only[PV,J,av,aM,atI_1,SE,dt,cF,gfl,OP,T];refine⟨trivial,by decide,?_⟩
 have H:bi r=true->∀{D':DEnds}{EE:DX},D'.nx [ap C.d,ap (.ref k.a),ap r.d] (gM ad k (on C g rest r) M)->jg ad EE D' [ap C.d,ap (.ref k.a),ap r.d] (gM ad k { g with td:=rest,left:=g.left-1 } M):=λf D' EE q=>OY o B I f (by
  cases r with
  |ifr=>cases f
  |again=>cases f
  |_=>exact q)
 have F:bi r=true->(jg ad<|aJ E) { nx:=λ_ M'=>drp Q .non M',rt:=drp Q } [ap C.d,ap (.ref k.a),ap r.d] (gM ad k { g with td:=rest,left:=g.left-1 } M):=λf=>by
  exact H f (ak h)
 by_cases f:bi r=true
 .obtain⟨w,Z,X,n1,n2⟩:=CI I f
  have:=F f;rw[X]at this ⊢;unfold o6 aG;refine lC rfl ?_;simp only[n1,Th,if_false];unfold r_ aG;refine lC rfl ?_;simp only[n2,Th,if_false];exact this
 cases r with
 |ifr x a b=>
  have P:x∈C.names:=I.1;have O:=(B.n.at P).1;have R:=λl=>AW (ad:=ad) (k:=k) (g:={ g with td:=rest,left:=g.left-1 }) (M:=M) (td:=l) (left:=g.left-1);have fin:∀l:List Rw,(on C g rest<|.ifr x a b).td=l++rest->calls (m5 ad) (aJ E) [.tup (aC l),oi rest] (gM ad k { g with td:=rest,left:=g.left-1 } M) (λd M'=>frz d M' λy M1=>match M1 k.a with
    |some (MO.ins C' fs)=>C'=ad.C_Going/\fs.length<1000/\drp Q D.non (M1.upd k.a<|MO.ins ad.C_Going<|bK (Vf "todo") y fs)
    |_=>False) ⟨⟩:=λl W=>by
   refine aK (λ_ _ q=>eJ q) ?_;have S:∀{l:List Rw}{M:Mem}{Q:DK},Q (oi l) M->frz (oi l) M Q:=λ{l} {M} {Q} q=>by cases l<;>exact q
   refine S ?_;simp only[cF,gfl,OP,R];rw[<- W];exact⟨trivial,by decide,ak h⟩
  simp only[Rw.d];unfold o6 aG;refine lC rfl ?_;simp only[decide_true,if_true];unfold ww;simp![atI_1,atI_2,atI_3,cF,PX,PV,fS,bY,O,Ua]
  by_cases c:nm g.n x=0
  .simp only[c,decide_true,if_true]
   exact fin b (by simp only[on,c,if_true])
  .simp only[c,decide_false]
   exact fin a (by simp only[on,c,if_false])
 |again x a=>
  have P:x∈C.names:=I.1;have O:=(B.n.at P).1;have R:=λl=>AW (ad:=ad) (k:=k) (g:={ g with td:=rest,left:=g.left-1 }) (M:=M) (td:=l) (left:=g.left-1);have n1:decide (("again":Str)=("if":Str))=false:=by decide +kernel
  simp only[Rw.d];unfold o6 aG;refine lC rfl ?_;simp only[n1,Th,if_false];unfold r_ aG;refine lC rfl ?_;simp only[decide_true,if_true];unfold xz;simp![atI_1,atI_2,cF,PX,PV,fS,bY,O,Ua]
  by_cases c:nm g.n x=0
  .simp only[c,decide_true,Vr]
   refine ak ?_;have:on C g rest (.again x a)={ g with td:=rest,left:=g.left-1 }:=by simp only[on,c,if_true]
   rw[<- this];exact h
  .simp only[c,decide_false,VO,if_true]
   refine⟨bo (by decide),?_⟩
   refine aK (λ_ _ q=>eJ (td:=.again x a::rest) q) ?_;have S:∀{l:List Rw}{M:Mem}{Q:DK},Q (oi l) M->frz (oi l) M Q:=λ{l} {M} {Q} q=>by cases l<;>exact q
   refine S ?_;simp only[ac,SE,dt,cF,gfl,OP,R];have:on C g rest (.again x a)={ g with td:=a++(.again x a::rest),left:=g.left-1 }:=by simp only[on,c,if_false]
   rw[<- this];exact⟨trivial,by decide,ak h⟩
 |_=>exact absurd rfl f
end
noncomputable def bP(C:Cse):Nat->Gs->Option aF×Gs
 |0,g=>(bb,g)
 |f+1,g=>match g.td with
  |[]=>(if (TB C.mn:aF)∈g.u then ap (.inr C.mn) else bb,g)
  |r::rest=>if g.left<=0 then (bb,g) else match fw C g r with
   |some k=>(ap k,g)
   |none=>bP C f (on C g rest r)
section
variable{s t:Sta}{k:Gk}
theorem MA:jC (oi td)=td.isEmpty:=by cases td<;>rfl
theorem qN(o:C.Ok):∀(f:Nat)(g:Gs),GOk C g->GOk C (bP C f g).2
 |0,g,h=>h
 |f+1,g,h=>by
  unfold bP;cases e:g.td with
  |nil=>exact h
  |cons r rest=>
   dsimp only
   split
   .exact h
   cases a:fw C g r with
   |some k=>exact h
   |none=>exact qN o f _ (xC o h e)
theorem IZ{G F:Option D}(o:C.Ok)(ok:GOk C g)(e:g.td=r::rest)(S:g.left<=0->D'.rt .non (gM ad k g M))(R:¬g.left<=0->∀q,fw C g r=ap q->D'.rt (kD q) (gM ad k g M))(h3:¬g.left<=0->fw C g r=bb->∀G F,D'.nx [ap C.d,ap (.ref k.a),G,F] (gM ad k (on C g rest r) M)):gD ad EE D' [ap C.d,ap (.ref k.a),G,F] (gM ad k g M):=by
 have f:=ok.td;rw[e]at f;obtain⟨O,p⟩:=f;have B:oi g.td=.tup [r.d,oi rest]:=by rw[e];rfl
 unfold gD;simp only[ah,aG,al,ai,aW,ac,dC,oLe,lL,SE,dt,cF,gf4];refine⟨trivial,?_⟩
 by_cases h:g.left<=0
 .rw[if_pos (by simpa using h)]
  exact S h
 rw[if_neg (by simp_all)]
 simp[aB];unfold qO qP;simp only[ah,aq,ai,aW,ac,SE,dt,cF,B,ag,Td];refine⟨trivial,rfl,aK (λ_ _ q=>qB o ok O q) ?_⟩;have J:∀{q:Option _}{M:Mem}{Q:DK},Q (IU q) M->frz (IU q) M Q:=λ{q} {M} {Q} z=>by
  cases q with
  |none=>exact z
  |some k=>cases k<;>exact z
 refine J ?_;unfold q_ sM;have P:jC (IU<|fw C g r)=(fw C g r).isNone:=by
  cases fw C g r with
  |none=>rfl
  |some k=>cases k<;>rfl
 simp only[ah,aG,al,ai,ac,dC,eQ,SE,dt,P];cases H:fw C g r with
 |some q=>
  exact R h q H
 |none=>
  exact⟨rfl,ao λQ' E' I _=>w_ o ok e (I _ _<|h3 h H _ _)⟩
theorem pj{EE:DX}{D':DEnds}{J:BxW (al<|ai eQ (aW ad.C_Going (ac 1) "todo")<|dC .non) (gD ad EE) D'}(o:C.Ok):∀(f:Nat)(g:Gs)(p h:Option D),GOk C g->g.left<f->
  (∀p h g',(bP C f g)=(if (TB C.mn:aF)∈g'.u then ap (.inr C.mn) else bb,g')->g'.td=[]->D'.nx [ap C.d,ap (.ref k.a),p,h] (gM ad k g' M))->
  (∀g' q,bP C f g=(q,g')->D'.rt (IU q) (gM ad k g' M))->0<=g.left->
  cz (al<|ai eQ (aW ad.C_Going (ac 1) "todo")<|dC .non) (gD ad EE) D' J (f+1) [ap C.d,ap (.ref k.a),p,h] (gM ad k g M)
 |0,g,p,h,ok,hf,h1,h2,h0=>by lia
 |f+1,g,p,h,ok,hf,h1,h2,h0=>by
  have I:∀K:Bool->Mem->Prop,K _ _->al (ai eQ (aW _ (ac 1) "todo")<|dC .non) [ap C.d,ap (.ref k.a),p,h] (gM ad k g M) K:=λK q=>by
   simp[al,ai,aW,ac,cF,PV,eQ,MA];trivial
  cases e:g.td with
  |nil=>
   refine whF (by simp_all) (h1 p h g ?_ e)
   unfold bP;rw[e]
  |cons r rest=>
   have F:bP C (f+1) g=if g.left<=0 then (bb,g) else match fw C g r with
    |some k=>(ap k,g)
    |none=>bP C f (on C g rest r):=by conv=>lhs;unfold bP;rw[e]
   have H:(on C g rest r).left=g.left-1:=mP;refine whT (by simp_all) (IZ o ok e (λB=>?_) (λB q G=>?_) λB G p h=>?_)
   .rw[if_pos B]at F
    exact h2 g _ F
   .rw[if_neg B,G]at F
    exact h2 g _ F
   .exact pj o f _ _ _ (xC o ok e) (by lia) (by simp_all) (by lia) (by lia)
theorem Co{f:Nat}(o:C.Ok)(ok:GOk C g)(F:0<=g.left)(B:g.left<f)(h:Q (IU (bP C f g).1) (gM ad k (bP C f g).2 M)):yO ad [C.d,.ref k.a] (gM ad k g M) Q E:=by
 refine⟨_,pj o f g _ _ ok B (λH G p e _=>?_) (λp q e=>?_) F⟩
 .unfold rC
  rw[e]at h;simp only[(@zw C),az,kI,al,ai,aW,ac,dC,SE,dt,av,aM,atI_4,cF,Lq,tW,Fa];refine⟨trivial,?_⟩
  by_cases c:(TB C.mn)∈p.u
  .simp[if_pos c]at h
   rw[if_pos (by simpa using c)]
   exact ak h
  simp only[if_neg c]at h;rw[if_neg (by simpa using c)]
  exact ak h
 rw[e]at h;exact ak h
noncomputable def PL(C:Cse)(g:Gs):D:=if g.td=[] then .int (nm g.n C.mn) else .non
theorem ut(o:C.Ok)(ok:GOk C g)(h:Q (PL C g) (gM ad k g M)):BV ad [C.d,.ref k.a] (gM ad k g M) Q E:=by
 rw[RT];unfold zj;simp only[(@zw C),az,kI,al,ai,aW,ac,dC,SE,dt,cF,PV,jT];refine⟨trivial,?_⟩;unfold PL at h;cases e:g.td with
 |nil=>
  rw[if_pos e]at h;simp only[PX,av,aM,atI_4,SE,dt,fS,tL,cA,bY,((ok.n.at o.mn).1)];exact⟨trivial,ak h⟩
 |cons r rest=>
  rw[if_neg (by rw[e];simp)]at h
  exact ak h
end
noncomputable def eL(g:Gs)(q:aF)(v:Int):Gs:=match q with
 |.inl i=>{ g with u:=g.u.filter λk=>decide (k≠q),ps:=g.ps.set i.toNat v }
 |.inr x=>{ g with u:=g.u.filter λk=>decide (k≠q),n:=sN g.n x v }
section
variable{s t:Sta}{k:Gk}
theorem qZ(ok:GOk C g)(e:0<=v/\v<C.w):GOk C (eL g q v):=by
 cases q with
 |inl i=>
  refine⟨ok.n,by show (g.ps.set _ _).length=_;rw[UD];exact ok.lp,λz f=>?_,ok.td⟩
  rcases List.mem_or_eq_of_mem_set f with h|h
  .exact ok.rp z h
  rw[h];exact e
 |inr x=>exact⟨Eb (c:=g.cf C) ok.n e,ok.lp,ok.rp,ok.td⟩
theorem eF:(eL g q v).u=g.u.filter λk=>decide (k≠q):=by cases q<;>rfl
theorem eR:(eL g q v).left=g.left:=by cases q<;>rfl
theorem lY{x:cb}{e f d3 td:D}(h:Q .non (M.upd x<|.ins ad.C_Going [("numbers",e),("pieces",f),("unsettled",d3),("todo",td),("left",.int left)])):
  Hg ad [.ref x,e,f,d3,td,.int left] (M.upd x<|.ins ad.C_Going []) Q E:=by
 have p:bK _ e []=[(("numbers":Str),e)]:=rfl;have G:bK "pieces" f [("numbers",e)]=[(("numbers":Str),e),("pieces",f)]:=rfl;have B:bK "unsettled" d3 [("numbers",e),("pieces",f)]=[(("numbers":Str),e),("pieces",f),("unsettled",d3)]:=rfl;have F:bK "todo" td [("numbers",e),("pieces",f),("unsettled",d3)]=[(("numbers":Str),e),("pieces",f),("unsettled",d3),("todo",td)]:=rfl;rw[u_q1];unfold Iz;simp![Mem.upd_upd,p,G,B,F];exact⟨by decide,by decide,by decide,by decide,by decide,ak h⟩
structure Gat(ad:Ad)(k:Gk)(g:Gs)(N:Mem):Prop where
 a:N k.a=ap (.ins ad.C_Going<|gF k (oi g.td) g.left)
 dn:N k.dn=ap (.dK<|dO g.n)
 lp:N k.lp=ap (.lst<|g.ps.map D.int)
 du:N k.du=ap (.dK<|uD g.u)
theorem Gat.of:Gat ad k g (gM ad k g M):=⟨cF,fS,pK,g8⟩
theorem Gat.more{k1:Gk}{e:Gs}(h:Gat ad k g M)(f:k1.Fr M):Gat ad k g (gM ad k1 e M):=⟨dF f h.a,dF f h.dn,dF f h.lp,dF f h.du⟩
theorem qh(at':Gat ad k g N)(o:C.Ok)(ok:GOk C g)(hk:q∈dJ C)(hu:q∈g.u)(h:∀Y:Gk,Y.Fr N->Q (.ref Y.a) (gM ad Y (eL g q v) N)):
  Gw ad [.ref k.a,kD q,.int v] N Q E:=by
 obtain⟨P,hdn,X,R⟩:=at';rw[u_q6];unfold Ix;simp only[ah,aq,gT,aa,af,bg,aW,ac,SE,dt,P,PX,mW,hdn];refine⟨trivial,λe T=>?_⟩;have a1:k.a≠e:=Mem.ne P T;have l1:k.lp≠e:=Mem.ne X T;have u1:k.du≠e:=Mem.ne R T;simp only[ae a1,P,gf1,dW,aM,ae l1,X];refine⟨trivial,λF W=>?_⟩;have G:e≠F:=Mem.ne Mem.upd_same W;rw[ae G.symm]at W;have a2:k.a≠F:=Mem.ne P W;have u2:k.du≠F:=Mem.ne R W;simp only[ae a2,ae a1,P,Lq,ae u2,ae u1,R];refine⟨trivial,λJ S=>?_⟩;have H:F≠J:=Mem.ne Mem.upd_same S;rw[ae H.symm]at S;have I:e≠J:=Mem.ne Mem.upd_same S;rw[ae I.symm]at S;have a3:k.a≠J:=Mem.ne P S;simp only[ae a3,ae a2,ae a1,P,PV,gf4];refine⟨trivial,trivial,rfl,λx O=>?_⟩;have p:J≠x:=Mem.ne Mem.upd_same O;rw[ae p.symm]at O;have B:F≠x:=Mem.ne Mem.upd_same O;rw[ae B.symm]at O;have f:e≠x:=Mem.ne Mem.upd_same O;rw[ae f.symm]at O;refine ao λQ' E' hq _=>lY (hq _ _ ?_);have Z:((((N.upd e<|.dK<|dO g.n).upd F<|.lst<|g.ps.map D.int).upd J<|.dK<|uD g.u).upd x<|.ins ad.C_Going [("numbers",.ref e),("pieces",.ref F),("unsettled",.ref J),("todo",oi g.td),("left",.int g.left)])=gM ad ⟨x,e,F,J,f.symm,B.symm,p.symm,G,I,H⟩ g N:=by
  unfold gM gF;rw[aA p,aA B,aA f]
 rw[Z];have hfr:Gk.Fr ⟨x,e,F,J,f.symm,B.symm,p.symm,G,I,H⟩ N:=⟨O,T,W,S⟩;have hh:=h _ hfr;generalize hk':(⟨x,e,F,J,f.symm,B.symm,p.symm,G,I,H⟩:Gk)=Y at *;have ex:x=Y.a:=by rw[<- hk']
 rw[ex];simp only[ag,Td];unfold xu;have hv:∃w,cq (uD g.u) q=ap w:=Xf.mp (by rw[km];simpa using hu)
 obtain⟨w,hv⟩:=hv;simp only[ah,bn,Ga,aW,ac,SE,dt,cF,Lq,Fy,g8,fg,hv,uE,LU];refine⟨trivial,trivial,?_⟩;rcases gs hk with⟨y,hy,rfl⟩|⟨i,hi,rfl⟩
 .have keys:y∈g.n.map (·.1):=by rw[ok.n.keys];exact hy
  have nl:(dO g.n).length<sizeLine:=by
   have T:(dO g.n).length=C.names.length:=by rw[<- ok.n.keys];simp[dO]
   have:=o.l1;exact fM (by lia)
  simp only[kD]at hh ⊢;simp![bC,lJ,V5,WI,Vq,Wx,Wf,cF,PX,fS,lh keys,Lm];exact⟨nl,ak hh⟩
 .have e3:wX (g.ps.map D.int).length (i:Nat)=ap i:=by
   rw[jh (by lia) (by rw[SH,ok.lp];lia),TC]
  have e4:(g.ps.map D.int).set i (.int v)=(g.ps.set i v).map D.int:=by rw[List.map_set]
  simp only[kD]at hh ⊢;simp![bC,lJ,V5,WI,Vq,Wx,Wf,Bool.false_and,VQ,cF,gf1,pK,e3,e4,Ra];exact ak hh
end
noncomputable def eO(ad:Ad)(L c:Nat):MO:=.ins ad.C_Ends [("limit",.int (L:Nat)),("count",.int (c:Nat))]
inductive Tr where
 |e (m:D)|a (q:aF) (x y:Tr)
noncomputable def Tr.d:Tr->D
 |.e m=>.tup [.str "end",m]
 |.a q x y=>.tup [.str "ask",kD q,x.d,y.d]
noncomputable def Tr.asks:Tr->Nat
 |.e _=>0
 |.a _ x y=>1+x.asks+y.asks
noncomputable def cQ(C:Cse)(s t:Sta):Nat->Gs->Tr
 |0,_=>.e .non
 |n+1,g=>match (bP C (C.most+1) g).1 with
  |none=>.e (PL C (bP C (C.most+1) g).2)
  |some q=>.a q (cQ C s t n<|eL (bP C (C.most+1) g).2 q<|aH C s q) (cQ C s t n<|eL (bP C (C.most+1) g).2 q<|aH C t q)
section
variable{s t:Sta}{k:Gk}
theorem ir{e:cb}{c:Nat}(f:M e=ap (eO ad L c))(H:c+1<=L)(h:Q .non (M.upd e<|eO ad L (c+1))):DB ad [.ref e] M Q E:=by
 have B:∀v,bK "count" _ [("limit",D.int _),("count",D.int c)]=[(("limit":Str),D.int L),("count",D.int v)]:=λ_=>rfl;have p:∀v,TR ("count":Str) [("limit",D.int L),("count",D.int v)]=ap _:=λ_=>rfl;have F:∀v,TR ("limit":Str) [("limit",D.int L),("count",D.int v)]=ap _:=λ_=>rfl;have G:decide (L<(c:Int)+1)=false:=decide_eq_false (by lia)
 unfold eO at f h;rw[u_q5];unfold JZ xo;simp only[ah,sR,aG,al,ai,aW,ac,dC,dt,f,B,p,F,Mem.upd_same,lL,G];refine⟨trivial,by simp,trivial,trivial,trivial,?_⟩
 refine ak ?_
 assumption
theorem Ey{a:cb}{fs:List (Str×D)}{Cl:cb}{m:Str}{T:Sd}{e:b6}{t:dY}(p:∀K:DK,K (.ref a) M->e U M K)(f:M a=ap (.ins Cl fs))(B:fs.lookup m=bb)(h:t U M λds M2=>ds.length+1=n/\calls T EE (.ref a::ds) M2 Q ⟨⟩):c_ Cl m T EE n e t U M Q:=by
 refine p _ ?_;simp only[f];trivial
theorem R7(f:Gat ad k g N)(o:C.Ok)(H:SOk C z)(ok:GOk C g)(B:q∈dJ C)(I:q∈g.u)(h:∀k1:Gk,k1.Fr N->K (.ref k1.a) (gM ad k1 (eL g q<|aH C z q) N)):
  am (c_ ad.C_Going "settled" (Gw ad) kC 3 (ac 2)<|aa (ac 1)<|aa (am<|aj (n8 ad) kC 3<|aa (ai av (ac 3)<|dC<|.int 0)<|aa (ac 0)<|aa (ac 1) af) af) [ap z.d,ap (kD q),ap (.ref k.a),ap (bj C s t)] N K:=by
 have G:∀{a:cb}{M:Mem}{Q:DK}{fs:List _},M a=ap (.ins ad.C_Going fs)->Q _ M->frz (.ref a) M Q:=λ{a M Q fs} e z=>by simp[frz,e];exact z
 exact Ey (λK q=>q) f.a gfs ⟨rfl,aK (λ_ _ z=>dA o H B z)<|(λz=>z) ⟨rfl,ao λQ' E' F _=>qh f o ok B I λk1 p=>F _ _ (G cF<|h k1 p)⟩⟩
theorem oo(e:Gat ad k g N)(o:C.Ok)(O:SOk C s)(P:SOk C t)(ok:GOk C g)(J:q∈dJ C)(R:q∈g.u)(h:∀(k1 k2:Gk)(p:cb),k1.Fr N->k2.Fr (gM ad k1 (eL g q<|aH C s q) N)->gM ad k2 (eL g q<|aH C t q) (gM ad k1 (eL g q<|aH C s q) N) p=bb->
   Q (.ref p) ((gM ad k2 (eL g q<|aH C t q)<|gM ad k1 (eL g q<|aH C s q) N).upd p<|.lst [.ref k1.a,.ref k2.a])):
  Bz ad [bj C s t,.ref k.a,kD q] N Q E:=by
 rw[RE];unfold yz;generalize f:am (c_ _ _ _ _ 3 _ _)=te;have F:∀{N:Mem}{z:Sta}{K:DK},Gat ad k g N->SOk C z->(∀k1:Gk,k1.Fr N->K _ _)->te [ap _,ap _,ap _,ap (bj C s t)] N K:=λ{N z K} H I hh=>by
  rw[<- f];exact R7 H o I ok J R hh
 refine⟨aN,?_⟩;refine F e O λk1 B=>⟨by trivial,?_⟩
 exact⟨aN,F (e.more B) P λk2 G=>⟨fM (by simp),⟨aN,λp S=>ak (by simp_all)⟩⟩⟩
end
theorem Gd(h:M b=ap o):M.upd b o=M:=by
 funext c;unfold Mem.upd
 simp_all
theorem HR{k1 k2:Gk}{e G:Gs}(h:k2.Fr (gM ad k1 e N)):gM ad k2 G (gM ad k1 e N)=gM ad k1 e (gM ad k2 G N):=by
 obtain⟨a1,T,a3,P,_⟩:=bX h.a;obtain⟨O,J,R,H,_⟩:=bX h.dn;obtain⟨I,Y,c3,X,_⟩:=bX h.lp;obtain⟨d1,W,Z,S,_⟩:=bX h.du;funext b
 by_cases F:b=k2.a
 .subst F;rw[cF,l_ a1 T a3 P,cF]
 by_cases B:b=k2.dn
 .subst B;rw[fS,l_ O J R H,fS]
 by_cases p:b=k2.lp
 .subst p;rw[pK,l_ I Y c3 X,pK]
 by_cases f:b=k2.du
 .subst f;rw[g8,l_ d1 W Z S,g8]
 unfold gM;simp[Mem.upd,F,B,p,f]
section
variable{s t:Sta}{k:Gk}
theorem MN(h:fw C g r=ap q):q∈g.u:=by
 unfold fw at h
 split at h
 .cases h
 split at h
 .rename_i p f e
  cases h;have:q∈(dJ C).filter λk=>decide (k∈((eP r).filter λx=>decide ((TB x)∈g.u)).map TB):=by rw[e];simp
  obtain⟨x,B,rfl⟩:=SV.mp (of_decide_eq_true<|(SS.mp this).2)
  simp_all
 split at h
 .split at h
  .simp_all
  cases h
 cases h
theorem QS:(on C g rest r).u.length<=g.u.length/\∀x∈(on C g rest r).u,x∈g.u:=by
 have f:∀z:aF,(g.u.filter λk=>decide (k≠z)).length<=g.u.length/\∀x∈g.u.filter (λk=>decide (k≠z)),x∈g.u:=λz=>⟨TK _ _,λx e=>(SS.mp e).1⟩;cases r with
 |ifr=>exact⟨SO _,λ_ h=>h⟩
 |again=>exact⟨SO _,λ_ h=>h⟩
 |_=>exact f _
theorem jb:∀(f:Nat)(g:Gs),((bP C f g).2.u.length<=g.u.length/\∀x∈(bP C f g).2.u,x∈g.u)/\(0<=g.left->0<=(bP C f g).2.left/\(bP C f g).2.left<=g.left)/\∀q,(bP C f g).1=ap q->q∈(bP C f g).2.u
 |0,g=>⟨⟨SO _,λ_ h=>h⟩,λh=>⟨h,Vx _⟩,λq h=>by cases h⟩
 |f+1,g=>by
  unfold bP;cases e:g.td with
  |nil=>
   simp_all
  |cons r rest=>
   dsimp only
   split
   .simp_all
   cases a:fw C g r with
   |some k=>
    refine⟨by lia,by lia,λq h=>?_⟩
    cases h;exact MN a
   |none=>
    obtain⟨⟨p,H⟩,F,G⟩:=jb f _;obtain⟨B,J⟩:=QS;have I:(on C g rest r).left=g.left-1:=mP;exact⟨⟨SX p B,by simp_all⟩,λh=>⟨(F<|by lia).1,by dsimp only;lia⟩,G⟩
theorem sI(h:q∈u):(u.filter λk=>decide (k≠q)).length<u.length:=by
 rw[List.length_filter_lt_length_iff_exists]
 simp_all
theorem gY{e:cb}{L:Nat}(o:C.Ok)(hs:SOk C s)(ht:SOk C t):∀(n:Nat)(g:Gs)(k:Gk)(M:Mem)(c:Nat)(Q:DK)(E:DX),GOk C g->0<=g.left->g.left<=C.most->(∀x∈g.u,x∈dJ C)->g.u.length<n->M e=ap (eO ad L c)->k.Fr M->
  c+(cQ C s t n g).asks<=L->Q (cQ C s t n g).d (M.upd e<|eO ad L (c+(cQ C s t n g).asks))->Ys ad n [bj C s t,.ref k.a,.ref e] (gM ad k g M) Q E
 |0,g,k,M,c,Q,E,ok,h0,hm,hu,hn,he,hf,hc,h=>by lia
 |n+1,g,k,M,c,Q,E,ok,h0,hm,hu,hn,he,hf,hc,h=>by
  have hcs:=@NU C s t;have O:=qN o (C.most+1) g ok;obtain⟨⟨hlen,G⟩,hlft,X⟩:=jb (C:=C) (C.most+1) g;rw[Qx];unfold BQ;simp only[ah,aq,am,aj,aa,af,ai,ac,dC,SE,dt,hcs,av,aM,atI_0];refine⟨rfl,ao λQ' E' J _=>Co (f:=C.most+1) o ok h0 (by lia) (J _ _ ?_)⟩
  have fo:∀{q:Option aF}{M:Mem}{Q:DK},Q (IU q) M->frz (IU q) M Q:=λ{q} {M} {Q} z=>by
   cases q with
   |none=>exact z
   |some k=>cases k<;>exact z
  refine fo ?_;simp only[ag,Td];unfold cQ at h hc;generalize hgo:bP C (C.most+1) g=go at *;obtain⟨a,H⟩:=go;dsimp only at *;unfold rD;cases a with
  |none=>
   unfold rA;refine⟨rfl,aK (λ_ _ z=>ut o O z) ⟨bo (by simp),?_⟩⟩
   simp only[Tr.asks,Tr.d,Nat.add_zero,Gd he]at h;exact⟨M,λb ob eb=>dF hf eb,h⟩
  |some q=>
   have S:=X q rfl;have T:=hu q (G q S);have fl:=sI S;simp only[Tr.asks,Tr.d]at h hc;have nn:jC (kD q)=false:=by cases q<;>rfl
   simp only[ah,aG,al,ai,ac,dC,IU,jT,nn,aB,SE,dt];rw[if_neg (by simp)]
   unfold rZ;simp only[ah,bn];have lo:TR ("one_more":Str) [(("limit":Str),D.int (L:Nat)),(("count":Str),D.int (c:Nat))]=none:=rfl;refine Ey (a:=e) (fs:=[("limit",.int (L:Nat)),("count",.int (c:Nat))]) (λK q=>q) (dF hf he) lo ?_;simp only[af];refine⟨rfl,ao λQ' E' J _=>ir (dF hf he) (by lia) (J _ _ ?_)⟩
   rw[tD hf he];have Z:(M.upd e<|eO ad L (c+1)) e=ap (eO ad L (c+1)):=Mem.upd_same;have F:∀{o':MO},k.Fr (M.upd e o'):=λ{o'}=>⟨by rw[ae (λz=>by rw[<- z,hf.a]at he;cases he)];exact hf.a,by rw[ae (λz=>by rw[<- z,hf.dn]at he;cases he)];exact hf.dn,by rw[ae (λz=>by rw[<- z,hf.lp]at he;cases he)];exact hf.lp,by rw[ae (λz=>by rw[<- z,hf.du]at he;cases he)];exact hf.du⟩
   unfold qG;simp only[ah,aq,am,aj,aa,af,ac,SE,dt];refine⟨rfl,ao λQ' E' J _=>oo .of o hs ht O T S λk1 k2 p h1 I hp=>J _ _ (bJ hp ?_)⟩;simp only[ag,Td];unfold tq;simp only[az,aT,aa,af,aj,ac,dC,ai,SE,dt,av,aM,atI_0,atI_1];generalize hg1:eL H q (aH C s q)=g1 at *;generalize hg2:eL H q (aH C t q)=g2 at *;have R:g1.u.length<n/\(∀x∈g1.u,x∈dJ C)/\g1.left=H.left/\GOk C g1:=by
    rw[<- hg1];exact⟨by rw[eF];lia,λx W=>by rw[eF]at W;exact hu x (G x (SS.mp W).1),eR,qZ O<|bE o hs T⟩
   have P:g2.u.length<n/\(∀x∈g2.u,x∈dJ C)/\g2.left=H.left/\GOk C g2:=by
    rw[<- hg2];exact⟨by rw[eF];lia,λx W=>by rw[eF]at W;exact hu x (G x (SS.mp W).1),eR,qZ O<|bE o ht T⟩
   have hll:=hlft h0;rw[HR I];have B:k2.Fr (gM ad k H<|M.upd e<|eO ad L (c+1)):=⟨(bX I.a).2.2.2.2,(bX I.dn).2.2.2.2,(bX I.lp).2.2.2.2,(bX I.du).2.2.2.2⟩;obtain⟨a1,a2,a3,a4,_⟩:=bX I.a;obtain⟨b1,b2,b3,b4,_⟩:=bX I.dn;obtain⟨c1,c2,c3,c4,_⟩:=bX I.lp;obtain⟨d1,d2,d3,d4,_⟩:=bX I.du;have h1N:k1.Fr (gM ad k2 g2<|gM ad k H<|M.upd e<|eO ad L (c+1)):=⟨by rw[l_ a1.symm b1.symm c1.symm d1.symm];exact h1.a,by rw[l_ a2.symm b2.symm c2.symm d2.symm];exact h1.dn,by rw[l_ a3.symm b3.symm c3.symm d3.symm];exact h1.lp,by rw[l_ a4.symm b4.symm c4.symm d4.symm];exact h1.du⟩
   have Y:gM ad k H (M.upd e<|eO ad L (c+1)) e=ap (eO ad L (c+1)):=dF F Z;refine⟨rfl,ao λQ' E' J _=>gY o hs ht n g1 k1 _ (c+1) _ _ R.2.2.2 (by lia) (by lia) R.2.1 R.1 (dF B Y) h1N (by lia) (J _ _ ?_)⟩
   rw[tD B Y,tD F Z,Mem.upd_upd];have h2N':k2.Fr (gM ad k H<|M.upd e<|eO ad L (c+1+(cQ C s t n g1).asks)):=by
    have z:∀{b:cb},gM ad k H (M.upd e<|eO ad L (c+1)) b=bb->gM ad k H (M.upd e<|eO ad L (c+1+(cQ C s t n g1).asks)) b=none:=λ{b} hb=>by
     obtain⟨n1,n2,n3,n4,n5⟩:=bX hb;rw[l_ n1 n2 n3 n4];have:b≠e:=λz=>by rw[z,Mem.upd_same]at n5;cases n5
     rw[ae this]at n5 ⊢;exact n5
    exact⟨z B.a,z B.dn,z B.lp,z B.du⟩
   refine⟨rfl,ao λQ' E' J _=>gY o hs ht n g2 k2 _ (c+1+(cQ C s t n g1).asks) _ _ P.2.2.2 (by lia) (by lia) P.2.1 P.1 (dF F Mem.upd_same) h2N' (by lia) (J _ _ ?_)⟩
   rw[tD F Mem.upd_same,Mem.upd_upd];refine⟨bo (by simp),M.upd e (eO ad L (c+(1+(cQ C s t n g1).asks+(cQ C s t n g2).asks))),λb ob eb=>?_,h⟩
   have ec:c+1+(cQ C s t n g1).asks+(cQ C s t n g2).asks=c+(1+(cQ C s t n g1).asks+(cQ C s t n g2).asks):=by lia
   rw[ec];exact dF F eb
end
noncomputable def g0(C:Cse)(s t:Sta):Gs:=⟨C.names.zip s.nums,s.pieces,aE C s t,C.rows,(C.most:Nat)⟩
section
variable{s t:Sta}
theorem sL(o:C.Ok):(aE C s t).Nodup:=by
 refine List.Pairwise.filter _ ?_;show (dJ C).Nodup;unfold dJ;rw[V2];refine⟨?_,?_,?_⟩
 .exact Xi _ (by lia) o.nd
 .exact Xi _ (by lia) WQ
 intro a f b e z;obtain⟨x,_,rfl⟩:=SV.mp f;obtain⟨y,_,rfl⟩:=SV.mp e;cases z
theorem qu:∀x∈aE C s t,x∈dJ C:=λx e=>(SS.mp e).1
theorem lR(o:C.Ok):(aE C s t).length<=200:=by
 have f:(aE C s t).length<=(dJ C).length:=TK _ _;have e:(dJ C).length=C.names.length+C.many:=by simp[dJ]
 have:=o.l1;have:=o.few;lia
theorem eE(o:C.Ok)(F:SOk C s)(B:SOk C t)(h:∀p,M p=bb->Q (.ref p) (M.upd p<|.lst<|(aE C s t).map kD)):oR ad [bj C s t] M Q E:=by
 exact⟨rfl,ao λQ' E' e _=>D_ o F B λp f=>e _ _ (ak<|h p f)⟩
theorem Ld(o:C.Ok)(e:SOk C s):GOk C (g0 C s t):=⟨(o.pl e).nok,e.lp,e.rp,o.ok⟩
theorem xO(o:C.Ok)(hs:SOk C s)(ht:SOk C t)(h:∀k:Gk,k.Fr M->Q (.ref k.a) (gM ad k (g0 C s t) M)):zZ ad [bj C s t] M Q E:=by
 have ul:=lR (s:=s) (t:=t) o;have T:=@NU C s t;have Z:=@zw C;have hsd:s.d=.tup _:=rfl;rw[RP];unfold zd ql;simp only[ah,aq,ai,ac,dC,ag,Td,dt,T,av,aM,atI_0,atI_1];rw[<- T];unfold tE;simp only[ah,aq,bg,aa,af,am,aO,bQ,aj,ac,br,SJ,TJ,Tj,Tg,dt];refine⟨rfl,ao λQ' E' W _=>eE o hs ht λp hp=>W _ _ (bJ hp ?_)⟩;refine cc (λd=>.tup [d,.bl true]) aN (by simp;lia) (λx J K q=>?_) ?_
 .exact⟨bo (by simp),q⟩
 intro p hp;refine bJ hp ?_;have e:((aE C s t).map kD).map (λd=>D.tup [d,.bl true])=(aE C s t).map λk=>D.tup [kD k,.bl true]:=by simp
 rw[e];have hnd:(([]:List (aF×D)).map (·.1)++(uD<|aE C s t).map (·.1)).Nodup:=by rw[rl];exact sL o
 simp only[fN,Dv,cN,jk,qM hnd,Tg];refine⟨trivial,by simp[uD];lia,λB h3=>?_⟩
 simp only[ag,Td];unfold qJ;simp only[az,gT,aa,fX,ai,ac,dC,af,bg,aj,am,dt,SE,Z,hsd,av,aM,atI_0,atI_1,dS,SH];refine⟨hs.ln.symm,o.l0,SX o.l1 (by decide),λP Y=>?_⟩
 have f:B≠P:=Mem.ne Mem.upd_same Y;rw[ae f.symm]at Y;intro O S;have R:P≠O:=Mem.ne Mem.upd_same S;rw[ae R.symm]at S;have G:B≠O:=Mem.ne Mem.upd_same S;rw[ae G.symm]at S;refine⟨rfl,aK (λ_ _ q=>eJ (td:=[]) q) ?_⟩;have ft:∀{l:List Rw}{M:Mem}{Q:DK},Q (oi l) M->frz (oi l) M Q:=λ{l} {M} {Q} q=>by cases l<;>exact q
 rw[TX];refine ft ?_;refine⟨rfl,λx J=>?_⟩;have F:O≠x:=Mem.ne Mem.upd_same J;rw[ae F.symm]at J;have I:P≠x:=Mem.ne Mem.upd_same J;rw[ae I.symm]at J;have H:B≠x:=Mem.ne Mem.upd_same J;rw[ae H.symm]at J;refine ao λQ' E' W _=>lY (W _ _ ?_);rw[f_ hs.ln.symm o.nd];have X:((((M.upd B<|.dK<|uD<|aE C s t).upd P<|.dK<|dO<|C.names.zip s.nums).upd O<|.lst<|s.pieces.map D.int).upd x<|.ins ad.C_Going [("numbers",.ref P),("pieces",.ref O),("unsettled",.ref B),("todo",oi C.rows),("left",.int (C.most:Nat))])=gM ad ⟨x,P,O,B,I.symm,F.symm,H.symm,R,f.symm,G.symm⟩ (g0 C s t) M:=by
  unfold gM gF g0;rw[aA F,aA I,aA H,aA (a:=B) (b:=P) f,aA (a:=B) (b:=O) G]
 rw[X];exact ak (h ⟨x,P,O,B,I.symm,F.symm,H.symm,R,f.symm,G.symm⟩ ⟨J,Y,S,h3⟩)
noncomputable def Cse.tree(C:Cse)(s t:Sta):Tr:=cQ C s t 24 (g0 C s t)
theorem C0{b:Int}(o:C.Ok)(f:SOk C s)(F:SOk C t)(R:C.mark s=.int a)(p:C.mark t=.int b)(B:a≠b)(P:(aE C s t).length<24)(O:1+(C.tree s t).asks<=L)(h:Q (C.tree s t).d M):
  Bf ad [bj C s t,.int (L:Nat)] M Q E:=by
 refine⟨rfl,aK (λ_ _ q=>mG o f F R p B q) ⟨rfl,λe H=>?_⟩⟩;have J:bK _ _ []=[(("limit":Str),D.int L)]:=rfl;refine ao λQ' E' hq _=>?_;rw[u_q3];unfold Ip;simp![J];refine⟨by decide,by decide,ak<|hq _ _ ?_⟩
 simp;refine Ey (λK q=>q) Mem.upd_same rfl ?_;refine⟨rfl,ao λQ' E' hq _=>ir (c:=0) Mem.upd_same (by lia) (hq _ _ ?_)⟩
 rw[Mem.upd_upd];refine⟨rfl,ao λQ' E' hq _=>xO o f F λk G=>hq _ _ ?_⟩;have I:∀{M:Mem}{Q:DK}{fs:List _},M k.a=ap (.ins ad.C_Going fs)->Q _ M->frz (.ref k.a) M Q:=λ{M Q fs} e z=>by simp[frz,e];exact z
 refine I cF ⟨rfl,ao λQ' E' hq _=>gY o f F 24 _ k _ 1 _ _ (Ld o f) (by show 0<=(C.most:Int);lia) (Vx _) qu P Mem.upd_same G O (hq _ _ ?_)⟩
 rw[Mem.upd_upd];refine⟨M,λb S p=>?_,h⟩;rw[ae (Mem.ne p H)];exact p
end
theorem CM(a b:Nat):Wn (a:Int) (b:Int)=((a ||| b:Nat):Int):=by
 have e:(-(-(a:Int)-1)-1).toNat=a:=by lia
 have f:(-(-(b:Int)-1)-1).toNat=b:=by lia
 unfold Wn VC Builtin.bitNot;rw[(decide_eq_false<|by lia),(decide_eq_false<|by lia)]
 simp only[e,f];lia
theorem EL(a:Nat):VC (a:Int) 1=((a % 2:Nat):Int):=by
 unfold VC
 simp_all
noncomputable def Js(b:Nat):Nat:=Um (b:Int)
noncomputable def aw(b:Nat):List Nat:=(Te<|Js b).filter λi=>b.testBit i
theorem Gm{b m:Nat}(h:b<2 ^ m):Js b<=m:=by
 unfold Js Um
 split
 .lia
 rw[Int.natAbs_natCast];have:=(X7<|by lia).mpr h
 lia
theorem cm{b m:Nat}(h:b<2 ^ m):aw b=(Te m).filter λi=>b.testBit i:=by
 obtain⟨d,rfl⟩:∃d,m=Js b+d:=⟨m-Js b,by have:=Gm h;lia⟩
 unfold aw;rw[List.range_add,VN];have:((Te d).map (Js b+·)).filter b.testBit=[]:=by
  rw[XJ];intro i f;obtain⟨j,_,rfl⟩:=SV.mp f;have e:b<2 ^ Js b:=by
   unfold Js Um
   split
   .simp_all
   exact Nat.lt_log2_self
  rw[Vi (Tc e<|TZ (by decide)<|by lia)]
  simp
 rw[this,TX]
section
theorem nG{b:Nat}(H:b<2 ^ 200)(h:∀p,M p=bb->Q (.ref p) (M.upd p<|.lst ((aw b).map λ(i:Nat)=>D.int (i:Int)))):Bt ad [.int (b:Nat)] M Q E:=by
 rw[Rf];unfold Bk;simp only[az,aO,dt,br,SJ,TJ,Tj,Tg,T8];have B:(Um b:Nat)<=200:=by have:Um _<=200:=(Gm H);lia
 refine⟨rfl,by lia,by lia,?_⟩
 refine cM (λd=>match d with|.int i=>b.testBit i.toNat|_=>cp) id aN ?_ (λx f K q=>?_) (λx f _ K q=>q) ?_
 .simp only[cE,SH,WE];lia
 .simp only[cE,SV]at f
  obtain⟨i,I,rfl⟩:=f;rw[Int.zero_add]at q ⊢;have F:b / 2 ^ ((i:Int)).toNat=((b / 2 ^ i:Nat):Int):=by simp
  simp only[al,ai,ac,dC,dt,SE,MQ,oI,lL,F,EL,bM,dv,bT,aR];simp[Nat.testBit_eq_decide_div_mod_eq]at q;have J:decide (((b / 2 ^ i % 2:Nat):Int)=1)=decide (b / 2 ^ i % 2=1):=by congr 1;exact propext (by lia)
  simp_all
 intro p G;have e:((cE 0<|Vp (Um (b:Int):Nat)).filter λd=>match d with|.int i=>b.testBit i.toNat|_=>cp).map id=(aw b).map λ(i:Nat)=>D.int i:=by
  rw[Uo];unfold cE aw Js;rw[T2];have:∀l:List _,l.map (λ(i:Nat)=>D.int (0+i))=l.map λ(i:Nat)=>D.int i:=λl=>Tz (by lia)
  rw[this];congr 1;refine UG λi _=>?_;simp
 rw[e];exact ak (h p G)
theorem BD{te:b6}{ok:Mem->Prop}{Q:List D->Mem->Prop}{b:BxC (cX 2<|aL (ag 0)<|aL (ag 1) cO) dg te ok Q}{rest:Dl}(f:Nat->D->D)(e:ok M):∀(xs:List D)(j:Nat)(Z3:List D)(B F:Option D),Z3.length+xs.length<=100000->
  (∀(i:Nat) x,xs[i]?=ap x->∀K:DK,K (f (j+i) x) M->te (ap (.int ((j+i:Nat):Int))::ap x::rest) M K)->Q (Z3++(xs.zipIdx j).map λp=>f p.2 p.1) M->
  cZ (cX 2<|aL (ag 0)<|aL (ag 1) cO) dg te ok Q b (fc j xs) Z3 (B::F::rest) M
 |[],j,Z3,B,F,hl,he,h=>by
  unfold fc cZ;exact⟨e,by simpa using h⟩
 |x::xs,j,Z3,B,F,hl,he,h=>by
  simp only[Tt]at hl;unfold fc cZ;refine⟨e,?_⟩;simp only[cX,aL,cO,ag,Td,dg,if_true];refine⟨rfl,he 0 x rfl _ ⟨fM (by lia),?_⟩⟩
  refine BD f e xs (j+1) _ _ _ (by simp;lia) (λi y G K q=>?_) ?_
  .have:=he (i+1) y (by simpa using G) K (by rw[show j+(i+1)=j+1+i by lia];exact q)
   rw[show j+(i+1)=j+1+i by lia]at this
   exact this
  .simpa [Wa] using h
end
structure Out where
 v:Str
 s:Nat
 f:Nat
noncomputable def yI(ad:Ad)(x:Out):MO:=.ins ad.C_Outcome [("verdict",.str x.v),("sound",.int (x.s:Nat)),("faulty",.int (x.f:Nat))]
def Ext(M M':Mem):Prop:=∀b o,M b=ap o->M' b=ap o
theorem Ext.refl:Ext M M:=λ_ _ e=>e
theorem Ext.trans{M1 M2:Mem}(a:Ext M M1)(b:Ext M1 M2):Ext M M2:=λx o e=>b x o (a x o e)
theorem Ext.no(h:Ext M M')(e:M' b=bb):M b=none:=by
 cases q:M b with
 |none=>rfl
 |some o=>rw[h b o q]at e;cases e
theorem Ext.new(h:M b=bb):Ext M (M.upd b o):=λx u e=>by rw[ae (Mem.ne e h)];exact e
theorem Ext.upd(x:Ext M M')(h:M b=bb):Ext M (M'.upd b o):=λc u e=>by rw[ae (Mem.ne e h)];exact x c u e
theorem Ext.del(x:Ext M M')(h:M b=bb):Ext M (M'.del b):=λc u e=>by unfold Mem.del;rw[if_neg (Mem.ne e h)];exact x c u e
inductive Lay(ad:Ad)(M:Mem):List cb->List Out->Prop
 |nil:Lay ad M [] []
 |cons {a:cb} {x:Out} {as:aaa} {xs:List Out} (h:M a=ap (yI ad x)) (t:Lay ad M as xs):Lay ad M (a::as) (x::xs)
theorem Lay.go{ad:Ad}{M M':Mem}:∀{as:aaa}{xs:List Out},Lay ad M as xs->(∀a x,M a=ap (yI ad x)->M' a=ap (yI ad x))->Lay ad M' as xs
 |_,_,.nil,_=>.nil
 |_,_,.cons h t,g=>.cons (g _ _ h) (t.go g)
theorem Lay.snoc{ad:Ad}{M:Mem}{a:cb}{x:Out}(h:M a=ap (yI ad x)):∀{as:aaa}{xs:List Out},Lay ad M as xs->Lay ad M (as++[a]) (xs++[x])
 |_,_,.nil=>.cons h .nil
 |_,_,.cons h' t=>.cons h' (t.snoc h)
theorem Lay.length{ad:Ad}{M:Mem}:∀{as:aaa}{xs:List Out},Lay ad M as xs->as.length=xs.length
 |_,_,.nil=>rfl
 |_,_,.cons _ t=>congrArg _ t.length
theorem FO{xs ys:List D}(h:M l=ap (.lst xs))(a:cb)(x:Out)(e:M a=ap (yI ad x)):(M.upd l<|.lst ys) a=ap (yI ad x):=by
 rw[ae (λz=>by rw[z,h]at e;cases e)];exact e
noncomputable def gH(a b:Int)(m:D):Str:=if aR m (.int a)=true then "sound" else if aR m (.int b)=true then "faulty" else "other"
noncomputable def bitK(us:List aF)(q:aF):Nat:=2 ^ us.idxOf q
noncomputable def fJ(a b:Int)(us:List aF):Tr->Nat->Nat->List Out
 |.e m,S,F=>[⟨gH a b m,S,F⟩]
 |.a q x y,S,F=>fJ a b us y S (F ||| bitK us q)++fJ a b us x (S ||| bitK us q) F
def IF(us:List aF):Tr->Prop
 |.e m=>m=.non\/∃v,m=.int v
 |.a q x y=>q∈us/\IF us x/\IF us y
noncomputable def dZ:Tr->Nat
 |.e _=>1
 |.a _ x y=>1+dZ x+dZ y
noncomputable def wD(w:Tr×Nat×Nat):D:=.tup [w.1.d,.int (w.2.1:Nat),.int (w.2.2:Nat)]
noncomputable def xS(a b:Int)(us:List aF)(ws:List (Tr×Nat×Nat)):List Out:=(ws.map λw=>fJ a b us w.1 w.2.1 w.2.2).flatten
noncomputable def cJ(ws:List (Tr×Nat×Nat)):Nat:=(ws.map λw=>dZ w.1).sum
theorem o_:∀t:Tr,1<=dZ t
 |.e _=>SO _
 |.a _ x y=>by unfold dZ;lia
theorem RF:∀e:List (Tr×Nat×Nat),e.length<=cJ e
 |[]=>SO _
 |w::e=>by
  have:=RF e;have:=o_ w.1;simp[cJ]at *;lia
noncomputable def bD(us:List aF):List (aF×D):=us.zipIdx.map λp=>(p.1,D.int ((2 ^ p.2:Nat):Int))
theorem Iy:(bD us).map (·.1)=us:=by
 unfold bD;rw[Tb];exact List.zipIdx_map_fst 0 us
theorem N0(h:q∈us):cq (bD us) q=ap (.int ((bitK us q:Nat):Int)):=by
 have f:∀(l:List _)(j:Nat),q∈l->cq ((l.zipIdx j).map λp=>(p.1,D.int (2 ^ p.2))) q=ap (.int (2 ^ (j+l.idxOf q):Nat)):=by
  intro l
  induction l with
  |nil=>simp_all
  |cons a r ih=>
   intro j h;rw[Wa,SJ];unfold cq;rw[UR]
   by_cases e:a=q
   .simp_all
   have B:(a==q)=false:=by simpa using e
   simp only[e,decide_false];have:=ih (j+1) (by rcases SQ.mp h with z|z;exact absurd z.symm e;exact z)
   unfold cq at this;rw[this,List.idxOf_cons,B];congr 4;simp;lia
 have:=f us 0 h;rw[Wi]at this;exact this
section
theorem xH{x:cb}{y:Out}(h:Q .non (M.upd x<|yI ad y)):JH ad [.ref x,.str y.v,.int (y.s:Nat),.int (y.f:Nat)] (M.upd x<|.ins ad.C_Outcome []) Q E:=by
 have e:bK _ _ []=[(("verdict":Str),D.str y.v)]:=rfl;have p:bK "sound" _ [("verdict",D.str y.v)]=[(("verdict":Str),D.str _),("sound",D.int y.s)]:=rfl;rw[u_q0];unfold HN;simp![Mem.upd_upd,e,p];exact⟨by decide,by decide,by decide,ak h⟩
structure OK(ad:Ad)(M0:Mem)(us:List aF)(db lf lw:cb)(as:aaa)(ds:List Out)(ws:List (Tr×Nat×Nat))(N:Mem):Prop where
 x:Ext M0 N
 f:M0 lf=bb
 w:M0 lw=bb
 b:M0 db=bb
 bd:N db=ap (.dK<|bD us)
 lf':N lf=ap (.lst<|as.map D.ref)
 lw':N lw=ap (.lst (ws.map wD).reverse)
 ne:lf≠lw
 nb:lf≠db
 ny:Lay ad N as ds
 few:as.length+cJ ws<=100000
 tr:∀w∈ws,IF us w.1
theorem FA{b:Int}{cs ld:D}{O R G:cb}{as:aaa}{ds:List Out}{w:Tr×Nat×Nat}{p:List (Tr×Nat×Nat)}{c6 c7 c8 c9:Option D}(I:OK ad M0 us O R G as ds (w::p) N)(h:∀as' ds' P N' c6 c7 c8 c9,OK ad M0 us O R G as' ds' P N'->cJ P<cJ (w::p)->ds'++xS a b us P=ds++xS a b us (w::p)->D'.nx [ap cs,ap ld,ap (.tup [.int a,.int b]),ap (.ref O),ap (.ref R),ap (.ref G),c6,c7,c8,c9] N'):
  gp ad EE D' [ap cs,ap ld,ap (.tup [.int a,.int b]),ap (.ref O),ap (.ref R),ap (.ref G),c6,c7,c8,c9] N:=by
 obtain⟨tr,S,F⟩:=w;have ew:((((tr,S,F)::p).map wD).reverse)=(p.map wD).reverse++[wD (tr,S,F)]:=by simp
 have J:=I.lw';rw[ew]at J;have X:((p.map wD).reverse++[wD (tr,S,F)])[((p.map wD).reverse++[wD (tr,S,F)]).length-1]?=ap (wD (tr,S,F)):=by simp
 have Z:=I.tr _ TF;have few:=I.few;have len:=RF p;simp only[cJ,SJ,Ww]at few len;unfold gp;simp only[ah,aq,ko,ac,af,dt,SE,dE,J,Ch,X,List.dropLast_concat];refine⟨trivial,?_⟩;simp only[ag,Td];have wr:wD (tr,S,F)=.tup [tr.d,.int (S:Nat),.int (F:Nat)]:=rfl;unfold qk rE;simp only[ah,aq,ai,ac,dC,wr,av,aM,atI_1,atI_2,ag,Td,dt,SE];have I1:∀{u:D},(N.upd G<|.lst (p.map wD).reverse) R=ap (.lst<|as.map D.ref):=λ{u}=>by rw[ae I.ne];exact I.lf'
 have ex1:Ext M0 (N.upd G<|.lst (p.map wD).reverse):=I.x.upd I.w;have W:Lay ad (N.upd G<|.lst (p.map wD).reverse) as ds:=I.ny.go λa x=>FO J a x;have Y:O≠G:=λz=>by have:=I.bd;rw[z,J]at this;cases this
 have B:(N.upd G<|.lst (p.map wD).reverse) O=ap (.dK<|bD us):=by rw[ae Y];exact I.bd
 generalize hN1:N.upd G (.lst (p.map wD).reverse)=N1 at *;have H:N1 G=ap (.lst (p.map wD).reverse):=by rw[<- hN1,Mem.upd_same]
 have Hq:N1 R=ap (.lst<|as.map D.ref):=I1 (u:=.non);unfold qD;cases tr with
 |e m=>
  have ed:Tr.d (.e m)=.tup [.str "end",m]:=rfl;unfold rU;simp only[aG,al,ai,ac,dC,av,aM,atI_0,atI_1,ed,bM,dv,bT,aR,decide_true,if_true,dt,SE,bn,ko,dE,Hq,aa,gT,am,aj,af];refine⟨trivial,trivial,trivial,rfl,aK (λ_ _ q=>jX Z q) ?_⟩;have fs:∀{x:Str}{M:Mem}{Q:DK},Q (.str x) M->frz (.str x) M Q:=λz=>z;refine fs ⟨rfl,λx T=>ao λQ' E' hq _=>xH (y:=⟨gH a b m,S,F⟩) (hq _ _ ?_)⟩;have nx:R≠x:=Mem.ne Hq T;have nw:G≠x:=Mem.ne H T;have nd:O≠x:=Mem.ne B T;simp only[bv,ae nx,Hq];refine⟨by simp[dZ]at *;exact fM (by lia),?_⟩
  refine h (as++[x]) (ds++[⟨gH a b m,S,F⟩]) p _ _ _ _ _ ⟨(ex1.upd<|ex1.no T).upd I.f,I.f,I.w,I.b,?_,?_,?_,I.ne,I.nb,?_,?_,λw hw=>I.tr w (Ta _ hw)⟩ ?_ ?_
  .rw[ae (Tu I.nb),ae nd];exact B
  .rw[Mem.upd_same];simp
  .rw[ae (Tu I.ne),ae nw];exact H
  .refine Lay.snoc ?_ (W.go λa y e=>?_)
   .rw[ae (Tu nx),Mem.upd_same]
   .rw[ae (λz=>by rw[z,Hq]at e;cases e),ae (Mem.ne e T)];exact e
  .simp only[cJ,Tq,UA,dZ]at few ⊢;lia
  .simp[cJ,dZ]
  .simp[xS,fJ]
 |a q x y=>
  obtain⟨hq,htx,hty⟩:=Z;have ed:Tr.d (.a q x y)=.tup [.str "ask",kD q,x.d,y.d]:=rfl;have hne:decide (("ask":Str)=("end":Str))=false:=by decide +kernel
  have gd:tL N1 O (kD q)=ap (ap<|.int ((bitK us q:Nat):Int)):=by simp only[tL,B,fg,N0 hq]
  have sq:aM N1 (.ref O)=none:=by simp only[aM,B]
  unfold sC qq sx;simp only[aG,al,ai,ac,dC,av,atI_0,atI_1,atI_2,atI_3,ed,bM,dv,bT,aR,hne,dt,SE,ah,aq,aM,B,gd,ag,Td,bn,ko,dE,H,aa,aT,af,oOr,lL,CM,bv,Mem.upd_same,Mem.upd_upd];refine⟨trivial,trivial,?_⟩;rw[if_neg (by simp)]
  have hr:(p.map wD).reverse.length=p.length:=by simp
  refine⟨trivial,bo (by simp),by rw[hr];exact fM (by simp[dZ]at few;lia),trivial,bo (by simp),by rw[Tq,hr];simp[dZ]at few;exact fM (by simp;lia),?_⟩
  have er:((p.map wD).reverse++[D.tup [x.d,.int ((S ||| bitK us q:Nat):Int),.int (F:Nat)]])++[D.tup [y.d,.int (S:Nat),.int ((F ||| bitK us q:Nat):Int)]]=(((y,S,F ||| bitK us q)::(x,S ||| bitK us q,F)::p).map wD).reverse:=by simp[wD]
  rw[er];refine h as ds ((y,S,F ||| bitK us q)::(x,S ||| bitK us q,F)::p) _ _ _ _ _ ⟨ex1.upd I.w,I.f,I.w,I.b,by rw[ae Y];exact B,by rw[ae I.ne];exact Hq,Mem.upd_same,I.ne,I.nb,W.go λa x=>FO H a x,?_,?_⟩ ?_ ?_
  .simp only[cJ,SJ,Ww,dZ]at few ⊢;lia
  .intro w hw
   rcases SQ.mp hw with z|hw
   .rw[z];exact hty
   .rcases SQ.mp hw with z|hw
    .rw[z];exact htx
    .exact I.tr w (Ta _ hw)
  .simp only[cJ,SJ,Ww,dZ];lia
  .simp[xS,fJ]
end
section
variable{s t:Sta}
theorem vL{us:List aF}{a b:Int}{R P:D}{H J G:cb}{M0:Mem}{D':DEnds}{EE:DX}{bx:BxW (cB<|ac 5) (gp ad EE) D'}:∀(n:Nat)(as:aaa)(ds:List Out)(ws:List (Tr×Nat×Nat))(N:Mem)(e B f p:Option D),cJ ws<=n->OK ad M0 us H J G as ds ws N->
  (∀F N' e B f p,OK ad M0 us H J G F (ds++xS a b us ws) [] N'->D'.nx [ap R,ap P,ap (.tup [.int a,.int b]),ap (.ref H),ap (.ref J),ap (.ref G),e,B,f,p] N')->
  cz (cB<|ac 5) (gp ad EE) D' bx (n+1) [ap R,ap P,ap (.tup [.int a,.int b]),ap (.ref H),ap (.ref J),ap (.ref G),e,B,f,p] N
 |n,as,ds,[],N,e,B,f,p,hn,I,h=>by
  refine whF (λK q=>?_) (h as N e B f p<|by simpa [xS] using I)
  simp[cB,ac,Fs,I.lw'];exact q
 |0,as,ds,w::ws,N,e,B,f,p,hn,I,h=>by
  have:=o_ w.1;simp[cJ]at hn;lia
 |n+1,as,ds,w::ws,N,e,B,f,p,hn,I,h=>by
  refine whT (λK q=>?_) (FA I λF ds' ws' N' X T S W I' hlt he=>?_)
  .have:((((w::ws).map wD).reverse).isEmpty)=false:=by simp
   simp only[cB,ac,dt,SE,Fs,I.lw',this];exact q
  exact vL n _ _ _ N' X T S W (by lia) I' λO N2 Z Y e8 e9 I2=>h O N2 Z Y e8 e9 (by simp_all)
theorem rK{us:List aF}:∀(n:Nat)(g:Gs),(∀x∈g.u,x∈us)->IF us (cQ C s t n g)
 |0,g,h=>.inl rfl
 |n+1,g,h=>by
  obtain⟨⟨p,f⟩,B,F⟩:=jb (C:=C) (C.most+1) g;unfold cQ;cases e:(bP C _ g).1 with
  |none=>
   show PL C _=.non\/_;unfold PL
   split
   .simp_all
   simp_all
  |some q=>
   have hs:∀v,∀x∈(eL (bP C (C.most+1) g).2 q v).u,x∈us:=λv x G=>by rw[eF]at G;simp_all
   exact⟨by simp_all,rK n _ (hs _),rK n _<|hs _⟩
theorem nc:∀t:Tr,dZ t=2*t.asks+1
 |.e _=>rfl
 |.a _ x y=>by unfold dZ Tr.asks;rw[nc x,nc y];lia
theorem pA:∀(us:List aF)(j:Nat),u_ ((us.zipIdx j).map λp=>D.tup [kD p.1,.int ((2 ^ p.2:Nat):Int)])=ap ((us.zipIdx j).map λp=>(p.1,D.int ((2 ^ p.2:Nat):Int)))
 |[],_=>rfl
 |k::ks,j=>by simp only[Wa,SJ,u_,fg,pA ks _]
theorem oM{b:Int}(o:C.Ok)(X:SOk C s)(Y:SOk C t)(ea:C.mark s=.int a)(eb:C.mark t=.int b)(O:a≠b)(hu:(aE C s t).length<24)(hc:1+(C.tree s t).asks<=L)(hL:L<=10000)(h:∀p as N,Ext M N->N p=ap (.lst<|as.map D.ref)->M p=bb->Lay ad N as (fJ a b (aE C s t) (C.tree s t) 0 0)->Q (.ref p) N):zK ad [bj C s t,.int (L:Nat)] M Q E:=by
 have hcs:=@NU C s t;rw[RZ];unfold xZ;have ft:∀{xs:List D}{M:Mem}{Q:DK},Q (.tup xs) M->frz (.tup xs) M Q:=λz=>z;refine⟨rfl,aK (λ_ _ q=>mG o X Y ea eb O q)<|ft ?_⟩;simp only[ag,Td];unfold mz;simp only[ah,aq,bg,am,aO,oX,aj,aa,ac,af,br,SJ,TJ,Tj,Tg,dt,SE];refine⟨rfl,ao λQ' E' hq _=>eE o X Y λp W=>hq _ _ (bJ W ?_)⟩;simp only[aM,bq,og];refine BD (λi d=>.tup [d,.int ((2 ^ i:Nat):Int)]) aN _ 0 [] _ _ (by simp;lia) (λi x Z K q=>?_) ?_
 .have hi:i<200:=by
   have h1:i<((aE C s t).map kD).length:=by
    rcases UP i ((aE C s t).map kD).length with z|z
    .exact z
    .simp_all
   rw[SH]at h1;lia
  refine⟨⟨by lia,by lia,by decide⟩,bo (by simp),?_⟩
  simp_all
 intro p W;refine bJ W ?_;have e:([]:List D)++(((aE C s t).map kD).zipIdx 0).map (λp=>D.tup [p.1,.int ((2 ^ p.2:Nat):Int)])=((aE C s t).zipIdx 0).map λp=>D.tup [kD p.1,.int ((2 ^ p.2:Nat):Int)]:=by
  rw[Tg,List.zipIdx_map,Tb];rfl
 rw[e];have S:(([]:List (aF×D)).map (·.1)++(bD<|aE C s t).map (·.1)).Nodup:=by rw[Iy];exact sL o
 have F:=qM S;simp only[fN,Dv,cN,pA];refine⟨trivial,by simp;lia,λP H=>?_⟩
 have G:(List.foldl _ []<|List.map (λp=>(p.1,D.int ((2 ^ p.2:Nat):Int)))<|List.zipIdx<|aE C s t)=bD (aE C s t):=F;rw[G];refine⟨bo (by simp),λJ B=>?_⟩
 have n1:P≠J:=Mem.ne Mem.upd_same B;rw[ae n1.symm]at B;refine⟨rfl,aK (λ_ _ q=>C0 o X Y ea eb O hu hc q) ⟨bo (by simp),bo (by simp),λR f=>?_⟩⟩
 have n2:J≠R:=Mem.ne Mem.upd_same f;rw[ae n2.symm]at f;have n3:P≠R:=Mem.ne Mem.upd_same f;rw[ae n3.symm]at f;have I:OK ad M (aE C s t) P J R [] [] [(C.tree s t,0,0)] (((M.upd P<|.dK<|bD<|aE C s t).upd J<|.lst []).upd R _):=
  ⟨((Ext.new H).upd B).upd f,B,f,H,by rw[ae n3,ae n1,Mem.upd_same],by rw[ae n2,Mem.upd_same];rfl,Mem.upd_same,n2,n1.symm,.nil,by simp only[cJ,SJ,TJ,Ww,List.sum_nil,Wl,nc];lia,λw hw=>by
   rcases SQ.mp hw with z|z
   .rw[z];exact rK 24 _ λx Z=>Z
   .cases z⟩
 refine⟨_,vL _ _ _ _ _ _ _ _ _ (SO _) I λT N' c6 c7 c8 c9 I'=>?_⟩;refine ak (h J T N' I'.x I'.lf' B ?_);have:=I'.ny;simpa [xS] using this
end
noncomputable def rS(cf:Cf)(n:cw)(rest:List Rw):Rw->cw×List Rw
 |.ifr x a b=>(n,(if nm n x=0 then b else a)++rest)
 |.again x a=>(n,if nm n x=0 then rest else a++(.again x a::rest))
 |r=>(sN n (gX r) (num cf n r),rest)
noncomputable def fin(cf:Cf):Nat->cw->List Rw->Option cw
 |_,n,[]=>ap n
 |0,_,_::_=>bb
 |k+1,n,r::rest=>fin cf k (rS cf n rest r).1 (rS cf n rest r).2
theorem dh{cf:Cf}{k:Nat}{n:cw}:fin cf k n []=ap n:=by cases k<;>rfl
noncomputable def D4(cf:Cf)(b:Bool×Sx)(rest:List Rw):Option cw:=if b.1=true then fin cf (cf.most-b.2.steps.length) b.2.nums rest else bb
section
variable{cf:Cf}
theorem yB:D4 cf (true,s) rest=fin cf (cf.most-s.steps.length) s.nums rest:=by rfl
theorem GB:D4 cf (cp,s) rest=none:=by rfl
theorem RM{pl:Z9}(h:s.steps.length<cf.most):nt cf pl v s=(true,⟨s.nums,s.steps++[(pl,v)]⟩):=by unfold nt;rw[if_pos h]
theorem Sb{pl:Z9}(h:¬s.steps.length<cf.most):nt cf pl v s=(cp,s):=by unfold nt;rw[if_neg h]
theorem tj{n:cw}(h:¬s.steps.length<cf.most):fin cf (cf.most-s.steps.length) n (r::rest)=none:=by
 have:cf.most-s.steps.length=0:=by lia
 rw[this];rfl
theorem xN{n:cw}{p:List Int×Int}(h:s.steps.length<cf.most):fin cf (cf.most-s.steps.length) n (r::rest)=fin cf (cf.most-(s.steps++[p]).length) (rS cf n rest r).1 (rS cf n rest r).2:=by
 have:cf.most-s.steps.length=(cf.most-(s.steps++[p]).length)+1:=by simp;lia
 rw[this];rfl
theorem uX{x:Str}{a:List Rw}{pl:Z9}(G:∀pl s rest,fin cf (cf.most-s.steps.length) s.nums (a++rest)=D4 cf (bI cf a pl 0 s) rest):∀(f t:Nat)(s:Sx)(rest:List Rw),cf.most-s.steps.length<f->
  fin cf (cf.most-s.steps.length) s.nums (.again x a::rest)=D4 cf (e_ cf x pl (λt s=>bI cf a (pl++[(t:Int)]) 0 s) f t s) rest
 |0,t,s,rest,h=>by lia
 |f+1,t,s,rest,h=>by
  unfold e_
  by_cases c:s.steps.length<cf.most
  .rw[RM c,if_pos rfl,xN c]
   by_cases e:nm s.nums x=0
   .have p:lk s.nums x=0:=by unfold lk;rw[if_pos e]
    rw[p,if_neg (by decide),yB]
    simp[rS,if_pos e]
   have p:lk s.nums x=1:=by unfold lk;rw[if_neg e]
   rw[p];simp only[rS,if_neg e];have i1:=G (pl++[(t:Int)]) ⟨s.nums,s.steps++[(pl++[(t:Int)],1)]⟩ (.again x a::rest);generalize H:bI cf a _ 0 _=ex at *;obtain⟨b,B⟩:=ex;rw[i1];cases b with
   |true=>
    have F:s.steps.length+1<=B.steps.length:=by
     have:=(fk (c:=cf) a (pl++[(t:Int)]) 0 ⟨s.nums,s.steps++[(pl++[(t:Int)],1)]⟩).1
     simp_all
    exact uX G f _ B _ (by lia)
   |false=>rfl
  rw[Sb c];exact tj c
theorem kK{pl:Z9}(f:bi r=true):fin cf (cf.most-s.steps.length) s.nums (r::rest)=D4 cf (ib cf r pl s) rest:=by
 rw[cC f];unfold jQ;have e:rS cf s.nums rest r=(sN s.nums (gX r) (num cf s.nums r),rest):=by
  cases r<;>trivial
 by_cases c:s.steps.length<cf.most
 .rw[if_pos c,yB,xN c,e]
 rw[if_neg c];exact tj c
mutual
theorem Sm:∀(r:Rw)(pl:Z9)(s:Sx)(rest:List Rw),fin cf (cf.most-s.steps.length) s.nums (r::rest)=D4 cf (ib cf r pl s) rest
 |.ifr x a b,pl,s,rest=>by
  unfold ib
  by_cases c:s.steps.length<cf.most
  .rw[RM c,if_pos rfl,xN (p:=(pl,lk s.nums x)) c]
   by_cases e:nm s.nums x=0
   .have f:lk s.nums x=0:=by unfold lk;rw[if_pos e]
    rw[f,if_neg (by decide)]
    simp only[rS,if_pos e];exact gZ b (pl++[0]) 0 ⟨s.nums,s.steps++[(pl,0)]⟩ rest
   .have f:lk s.nums x=1:=by unfold lk;rw[if_neg e]
    rw[f,if_pos rfl];simp only[rS,if_neg e];exact gZ a (pl++[1]) 0 ⟨s.nums,s.steps++[(pl,1)]⟩ rest
  .rw[Sb c,if_neg (by simp),GB]
   exact tj c
 |.again x a,pl,s,rest=>by
  unfold ib;exact uX (λpl s rest=>gZ a pl 0 s rest) _ _ _ _ (by lia)
 |.put x k,pl,s,rest=>kK rfl
 |.take x k,pl,s,rest=>kK rfl
 |.pick x y,pl,s,rest=>kK rfl
 |.two w x y z,pl,s,rest=>kK rfl
theorem gZ:∀(rs:List Rw)(pl:Z9)(j:Nat)(s:Sx)(rest:List Rw),fin cf (cf.most-s.steps.length) s.nums (rs++rest)=D4 cf (bI cf rs pl j s) rest
 |[],pl,j,s,rest=>by unfold bI;rw[yB];rfl
 |r::rs,pl,j,s,rest=>by
  unfold bI;rw[Tj,Sm r (pl++[(j:Int)]) s (rs++rest)];generalize ib cf r (pl++[(j:Int)]) s=ex;obtain⟨b,e⟩:=ex;cases b with
  |true=>rw[yB,if_pos rfl];exact gZ rs pl (j+1) e rest
  |false=>rw[GB,if_neg (by simp),GB]
end
end
noncomputable def mkO(mn:Str):Option cw->D
 |some n=>.int (nm n mn)
 |none=>.non
theorem vI:C.mark z=mkO C.mn (fin (C.cf z) C.most (C.names.zip z.nums) C.rows):=by
 have h:=gZ (cf:=C.cf z) C.rows [] 0 ⟨C.names.zip z.nums,[]⟩ [];rw[TX]at h;have e:fin _ C.most _ _=D4 _ (C.run z) []:=h;rw[e];unfold Cse.mark vP D4
 split
 .rw[dh];rfl
 rfl
noncomputable def LB(p:aF->Bool):Tr->D
 |.e m=>m
 |.a q x y=>if p q=true then LB p y else LB p x
theorem gR{n:cw}(h:x∈n.map (·.1)):nm (sN n x v) y=if y=x then v else nm n y:=by
 unfold nm;rw[Q5 h]
 split<;>rfl
structure Rl(C:Cse)(z:Sta)(g:Gs)(n:cw):Prop where
 nk:∀x,(TB x:aF)∉g.u->nm g.n x=nm n x
 nu:∀x,(TB x:aF)∈g.u->nm n x=aH C z (.inr x)
 pk:∀i:Nat,(UC (i:Int):aF)∉g.u->(g.ps[i]?).getD 0=(z.pieces[i]?).getD 0
 k:n.map (·.1)=C.names
section
variable{s t:Sta}{n:cw}{p:aF->Bool}
theorem E9(F:dN C.names C.w C.many r)(h:fw C g r=bb):(∀x∈eP r,(TB x:aF)∉g.u)/\∀i,KP C g.n r=ap i->(UC i:aF)∉g.u:=by
 unfold fw at h
 split at h
 .simp_all
 split at h
 .cases h
 rename_i e
 refine⟨λx B f=>?_,λi G f=>?_⟩
 .have:(TB x)∈(dJ C).filter λk=>decide (k∈((eP r).filter λx=>decide ((TB x)∈g.u)).map TB):=by
   rw[SS];refine⟨Tv.mpr (.inl<|SV.mpr ⟨x,AI F x B,rfl⟩),decide_eq_true ?_⟩
   simp_all
  rw[e]at this;cases this
 simp_all
theorem Rl.num(R:Rl C z g n)(ok:GOk C g)(J:SOk C z)(f:cu C.names C.w C.many r)(h:fw C g r=bb):num (g.cf C) g.n r=num (C.cf z) n r:=by
 have B:dN C.names C.w C.many r:=by
  cases r with
  |ifr=>exact f.elim
  |again=>exact f.elim
  |_=>exact f
 obtain⟨F,G⟩:=E9 B h;have I:g.ps.length=z.pieces.length:=by rw[ok.lp,J.lp]
 cases r with
 |put x k=>rfl
 |take x i=>
  exact(R.pk _<|by rw[Yi f.2.1];exact G i rfl)
 |pick x y=>
  have e:=R.nk y (F y<|by simp[eP])
  have H:=G _ rfl;have O:=f.2.2;rw[<- Yi (UH _<|by lia)]at H
  show (g.ps[(nm g.n y % (g.ps.length:Int)).toNat]?).getD 0=(z.pieces[(nm n y % (z.pieces.length:Int)).toNat]?).getD 0;rw[<- e,<- I,ok.lp];exact(R.pk _ H)
 |two w x y u=>
  show AA w _ _ C.w=AA w _ _ C.w;rw[R.nk y (F y<|by simp[eP]),R.nk u (F u<|by simp[eP])]
 |_=>exact f.elim
theorem Rl.step(R:Rl C z g n)(ok:GOk C g)(S:SOk C z)(J:dN C.names C.w C.many r)(h:fw C g r=bb):Rl C z (on C g rest r) (rS (C.cf z) n rest r).1/\(on C g rest r).td=(rS (C.cf z) n rest r).2:=by
 have look:=λx B=>R.nk x ((E9 J h).1 x B);have set:∀H,r=H->bi r=true->Rl C z { g with left:=g.left-1,td:=rest,n:=sN g.n _ (_T.num _ _ r),u:=g.u.filter λk=>decide (k≠.inr _) } (sN n _ _):=λH _ P=>by
  have f:=gw J P;have B:=xp f;have e:gX r∈n.map (·.1):=by rw[R.k];exact B
  rw[R.num ok S f h];refine⟨λy G=>?_,λy G=>?_,λi O=>?_,by rw[iE];exact R.k⟩
  .rw[gR (by rw[ok.n.keys];exact B),gR e]
   split
   .rfl
   rename_i c
   refine R.nk y λI=>G ?_;rw[SS];exact⟨I,decide_eq_true λz=>c (Sum.inr.inj z)⟩
  .have F:=SS.mp G
   rw[gR e,if_neg (by lia)]
   exact R.nu y F.1
  refine R.pk i λI=>O ?_;rw[SS];trivial
 cases r with
 |ifr x a b=>
  refine⟨⟨R.nk,R.nu,R.pk,R.k⟩,?_⟩;show (if nm _ x=0 then b else a)++rest=(if nm n x=0 then b else a)++rest
  rw[look x (by simp[eP])]
 |again x a=>
  refine⟨⟨R.nk,R.nu,R.pk,R.k⟩,?_⟩;show (if nm _ x=0 then rest else a++(.again x a::rest))=(if nm n x=0 then rest else a++(.again x a::rest))
  rw[look x (by simp[eP])]
 |_=>exact⟨set _ rfl rfl,rfl⟩
theorem zJ(o:C.Ok)(F:SOk C z):∀(f:Nat)(g:Gs)(n:cw),Rl C z g n->GOk C g->0<=g.left->g.left<f->∃B,Rl C z (bP C f g).2 B/\fin (C.cf z) g.left.toNat n g.td=fin (C.cf z) (bP C f g).2.left.toNat B (bP C f g).2.td/\
  ((bP C f g).1=bb->((bP C f g).2.td=[]/\(TB C.mn:aF)∉(bP C f g).2.u)\/((bP C f g).2.td≠[]/\(bP C f g).2.left<=0))
 |0,g,n,R,ok,h0,hf=>by lia
 |f+1,g,n,R,ok,h0,hf=>by
  unfold bP;cases e:g.td with
  |nil=>
   refine⟨n,R,by rw[e],λh=>.inl ⟨e,?_⟩⟩
   simp_all
  |cons r rest=>
   dsimp only;have O:dN C.names C.w C.many r:=by
    have:=ok.td;rw[e]at this;exact this.1
   split
   .exact⟨n,R,by rw[e],by lia⟩
   cases a:fw C g r with
   |some k=>exact⟨n,R,by rw[e],by lia⟩
   |none=>
    obtain⟨R1,J⟩:=R.step ok F O a;have H:(on C g rest r).left=g.left-1:=mP;obtain⟨B,R2,I,G⟩:=zJ o F f _ _ R1 (xC o ok e) (by lia) (by lia)
    refine⟨B,R2,?_,G⟩;rw[<- I,H,J];have:g.left.toNat=(g.left-1).toNat+1:=by lia
    rw[this];rfl
theorem Rl.set(R:Rl C z g n)(ok:GOk C g)(hq:q∈dJ C)(hu:q∈g.u):Rl C z (eL g q<|aH C z q) n:=by
 cases q with
 |inr x=>
  have hx:x∈C.names:=by
   rcases gs hq with⟨y,hy,e⟩|⟨i,_,e⟩
   .simp_all
   cases e
  refine⟨λy hy=>?_,λy hy=>R.nu y (SS.mp hy).1,λi hi=>R.pk i λhu=>hi (SS.mpr<|by trivial),R.k⟩
  show nm (sN _ x _) y=_;rw[gR (by rw[ok.n.keys];exact hx)]
  split
  .rename_i c;subst c;exact(R.nu _ hu).symm
  exact R.nk y λhu=>hy (SS.mpr<|by lia)
 |inl j=>
  obtain⟨i,hi,e⟩:∃i:Nat,i<C.many/\j=i:=by
   rcases gs hq with⟨y,hy,e⟩|⟨i,h,e⟩
   .cases e
   exact⟨i,h,by lia⟩
  subst e;refine⟨λy hy=>R.nk y λhu=>hy (SS.mpr<|by trivial),λy hy=>R.nu y (SS.mp hy).1,λk hk=>?_,R.k⟩
  show ((g.ps.set _ _)[k]?).getD 0=_;rw[WG]
  split
  .rename_i c
   subst c;rw[if_pos (by rw[ok.lp];exact hi)]
   rfl
  exact R.pk k λhu=>hk (SS.mpr<|by lia)
theorem Ag(o:C.Ok)(hs:SOk C s)(ht:SOk C t)(P:SOk C z):∀(f:Nat)(g:Gs)(n:cw),(∀q∈g.u,aH C z q=aH C (if p q=true then t else s) q)->Rl C z g n->GOk C g->0<=g.left->g.left<=C.most->(∀x∈g.u,x∈dJ C)->g.u.length<f->
  LB p (cQ C s t f g)=mkO C.mn (fin (C.cf z) g.left.toNat n g.td)
 |0,g,n,hp,R,ok,h0,hm,hu,hf=>by lia
 |f+1,g,n,hp,R,ok,h0,hm,hu,hf=>by
  obtain⟨n',R',e,O⟩:=zJ o P (C.most+1) g n R ok h0 (by lia)
  have B:=qN o (C.most+1) g ok;obtain⟨⟨W,G⟩,X,I⟩:=jb _ g;unfold cQ;rw[e];generalize bP C _ g=go at *;obtain⟨a,F⟩:=go;dsimp only at *;cases a with
  |none=>
   unfold PL;rcases O rfl with⟨S,T⟩|⟨S,T⟩
   .rw[S,dh]
    show D.int _=D.int _;rw[R'.nk _ T]
   .have:F.left.toNat=0:=by lia
    rw[this];cases e3:F.td<;>trivial
  |some q=>
   have h:=I q rfl;have H:=hu q (G q h);have fl:=sI h;have way:∀y:Sta,aH C z q=aH C y q->SOk C y->LB p (cQ C s t f<|eL F q<|aH C y q)=mkO _ _:=λy Z ky=>by
    rw[<- Z]
    have:=Ag o hs ht P f _ n' (λk hk=>by rw[eF]at hk;simp_all) (R'.set B H h) (qZ B<|bE o P H) (by rw[eR];lia) (by rw[eR];lia)
     (λx Y=>by rw[eF]at Y;simp_all) (by rw[eF];lia)
    rw[eR]at this;have J:(eL F q<|aH C z q).td=F.td:=by cases q<;>rfl
    rw[J]at this;exact this
   show (if p q=true then LB p _ else LB p _)=_
   simp_all
theorem pO(f:C.names.length=nums.length)(h:x∉C.names):nm (C.names.zip nums) x=0:=by
 unfold nm gN;rw[List.find?_eq_none.mpr]
 .rfl
 intro q e;have:=(Vz e).1;lia
theorem mq(o:C.Ok)(B:SOk C s)(O:SOk C t)(F:SOk C z)(P:(aE C s t).length<24)(G:∀q∈dJ C,aH C z q=aH C (if p q=true then t else s) q):LB p (C.tree s t)=C.mark z:=by
 rw[vI];have f:∀q∈dJ C,q∉aE C s t->aH C z q=aH C s q:=λq h H=>by
  rw[G q h];have:aH C s q=aH C t q:=VE λc=>H (SS.mpr ⟨h,decide_eq_true c⟩)
  split
  .exact this.symm
  .rfl
 have:=Ag (p:=p) o B O F 24 (g0 C s t) (C.names.zip z.nums) (λq h=>G q (qu q h)) ⟨λx J=>?_,λx _=>rfl,λi I=>?_,gg F.ln.symm⟩ (Ld o B) (by show (0:Int)<=((C.most:Nat):Int);lia) (Vx _) qu P
 .have e:(g0 C s t).left.toNat=C.most:=rfl
  rw[e]at this;exact this
 .by_cases c:x∈C.names
  .exact(f (.inr x) (Tv.mpr<|.inl<|SV.mpr ⟨x,c,rfl⟩) J).symm
  .show nm (C.names.zip s.nums) x=_
   rw[pO B.ln.symm c,pO F.ln.symm c]
 .show (s.pieces[i]?).getD 0=_
  by_cases c:i<C.many
  .have:=f (.inl (i:Int)) (Tv.mpr<|.inr<|SV.mpr ⟨i,TU.mpr c,rfl⟩) I
   exact this.symm
  .rw[UB (by rw[B.lp];lia),UB (by rw[F.lp];lia)]
theorem j9:∀(f:Nat)(g:Gs),(cQ C s t f g).asks+1<=2 ^ g.u.length
 |0,g=>Nat.one_le_two_pow
 |f+1,g=>by
  obtain⟨⟨G,F⟩,_,h⟩:=jb (C:=C) (C.most+1) g;unfold cQ;generalize bP C (C.most+1) g=go at *;obtain⟨a,B⟩:=go;dsimp only at *;cases a with
  |none=>exact Nat.one_le_two_pow
  |some q=>
   have J:=sI (h q rfl);have H:=j9 f (eL B q<|aH C s q);have I:=j9 f (eL B q<|aH C t q);rw[eF]at H I;have e:2 ^ ((B.u.filter λk=>decide (k≠q)).length+1)<=2 ^ g.u.length:=TZ (by decide) (by lia)
   rw[Nat.pow_succ]at e;show 1+_+_+1<=_;lia
theorem pz:1+(C.tree s t).asks<=2 ^ (aE C s t).length:=by
 have:=j9 (C:=C) (s:=s) (t:=t) 24 (g0 C s t);have e:(g0 C s t).u=aE C s t:=rfl;rw[e]at this;show 1+(cQ C s t 24 _).asks<=_;lia
end
structure OutOk(n:Nat)(x:Out):Prop where
 s:x.s<2 ^ n
 f:x.f<2 ^ n
 l:(aw x.f).length+(aw x.s).length<=n
theorem cP{b:Nat}(h:b<2 ^ n):i∈aw b↔i<n/\b.testBit i=true:=by
 rw[cm h,SS,TU]
def TrN:Tr->List aF->Prop
 |.e _,_=>True
 |.a q x y,u=>q∈u/\TrN x (u.filter λk=>decide (k≠q))/\TrN y (u.filter λk=>decide (k≠q))
theorem TrN.mono:∀{t:Tr}{u v:List aF},TrN t u->(∀k∈u,k∈v)->TrN t v
 |.e _,_,_,_,_=>trivial
 |.a q x y,u,v,h,s=>⟨s q h.1,h.2.1.mono (by simp_all),h.2.2.mono<|by simp_all⟩
theorem vf{C:Cse}{s t:Sta}:∀(f:Nat)(g:Gs),TrN (cQ C s t f g) g.u
 |0,_=>trivial
 |f+1,g=>by
  obtain⟨⟨_,h⟩,_,e⟩:=jb _ g;unfold cQ;generalize bP C _ g=go at *;obtain⟨a,p⟩:=go;cases a with
  |none=>trivial
  |some q=>
   have w:∀v,TrN _ (g.u.filter λk=>decide (k≠q)):=λv=>by
    have:=vf (C:=C) (s:=s) (t:=t) f (eL p q v);rw[eF]at this;exact this.mono (by simp_all)
   exact⟨by simp_all,w _,w _⟩
structure Wy(us:List aF)(u:List aF)(S F:Nat):Prop where
 s:S<2 ^ us.length
 f:F<2 ^ us.length
 sub:∀q∈u,q∈us
 no:∀q∈u,S.testBit (us.idxOf q)=cp/\F.testBit (us.idxOf q)=cp
 dis:∀i,¬(S.testBit i=true/\F.testBit i=true)
section
variable{S F:Nat}{b:Int}
theorem Oe(e:q∈us):bitK us q<2 ^ us.length:=Nat.pow_lt_pow_right (by decide) (UT e)
theorem v_:(bitK us q).testBit i=decide (us.idxOf q=i):=by unfold bitK;grind
theorem I0{k:aF}(p:k∈us)(e:q∈us)(h:us.idxOf q=us.idxOf k):k=q:=by
 have f:=List.getElem_idxOf (UT e)
 simp_all
theorem Wy.swap(w:Wy us u S F):Wy us u F S:=⟨w.f,w.s,w.sub,λq e=>(w.no q e).symm,λi h=>w.dis i h.symm⟩
theorem Wy.fa(w:Wy us u S F)(G:q∈u):Wy us (u.filter λk=>decide (k≠q)) S (F ||| bitK us q):=by
 have e:=w.sub q G;refine⟨w.s,Nat.or_lt_two_pow w.f (Oe e),λk B=>w.sub k (SS.mp B).1,λk B=>?_,λi h=>?_⟩
 .obtain⟨p,H⟩:=SS.mp B
  refine⟨(w.no k p).1,?_⟩;rw[Xr,(w.no k p).2,v_];exact decide_eq_false λz=>(of_decide_eq_true H) (I0 (w.sub k p) e z)
 rw[Xr,v_]at h
 by_cases c:us.idxOf q=i
 .subst c;rw[(w.no q G).1]at h;exact absurd h.1 (by simp)
 rw[decide_eq_false c,Vq]at h;exact w.dis i h
theorem Wy.so(w:Wy us u S F)(e:q∈u):Wy us (u.filter λk=>decide (k≠q)) (S ||| bitK us q) F:=(w.swap.fa e).swap
theorem vN{p r:Nat->Bool}:∀(l:List Nat),(∀i,¬(p i=true/\r i=true))->(l.filter p).length+(l.filter r).length<=l.length
 |[],_=>by simp
 |i::l,h=>by
  have:=vN l h;rw[Ti,Ti]
  split<;>split<;>simp_all<;>lia
theorem Wy.ok(w:Wy us u S F){v:Str}:OutOk us.length ⟨v,S,F⟩:=by
 refine⟨w.s,w.f,?_⟩;rw[cm w.f,cm w.s];have:=vN (Te us.length) λi h=>w.dis i h.symm
 simp_all
theorem qX:∀(t:Tr)(u:List aF)(S F:Nat),TrN t u->Wy us u S F->∀x∈fJ a b us t S F,OutOk us.length x
 |.e m,u,S,F,_,w,x,hx=>by
  have:x=⟨gH a b m,S,F⟩:=by simpa [fJ] using hx
  subst this;exact w.ok
 |.a q x y,u,S,F,h,w,o,ho=>by
  rcases Tv.mp ho with h1|h1
  .exact qX y _ _ _ h.2.2 (w.fa h.1) o h1
  exact qX x _ _ _ h.2.1 (w.so h.1) o h1
theorem Wy.zero(h:∀q∈u,q∈us):Wy us u 0 0:=⟨Xb _,Xb _,h,λq _=>⟨Nat.zero_testBit _,Nat.zero_testBit _⟩,by simp_all⟩
end
section
variable{s t:Sta}{b:Int}
theorem vo:TrN (C.tree s t) (aE C s t):=vf 24 _
end
theorem iG{a b:Int}{us:List aF}:∀(t:Tr){S F:Nat},(fJ a b us t S F).length=t.asks+1
 |.e m,S,F=>rfl
 |.a q x y,S,F=>by unfold fJ Tr.asks;rw[Tq,iG x,iG y];lia
noncomputable def flt(rs:List Rw):List Rw:=rs.filter bi
noncomputable def Fg(d:D):Bool:=match d with
 |.tup (.str w::_)=>!(decide (w=("if":Str))||decide (w=("again":Str)))
 |_=>true
theorem O9(h:dN names m many r):Fg r.d=bi r:=by
 have e:∀w rest,Fg (.tup (.str w::rest))=!(decide _||decide _):=λ_ _=>rfl
 cases r with
 |two w x y z=>
  simp[Rw.d,e,bi];rcases h.1 with rfl|rfl|rfl|rfl<;>decide +kernel
 |_=>rfl
theorem BA{names:Z_}{m many:Int}:∀{rs:List Rw},ba names m many rs->(aC rs).filter Fg=aC (flt rs)
 |[],_=>rfl
 |r::rs,h=>by
  have e:=BA h.2;unfold flt at e ⊢;rw[aC,Ti,Ti,O9 h.1,e]
  split<;>rfl
theorem wo{names:Z_}{m many:Int}:∀{rs:List Rw},ba names m many rs->ba names m many (flt rs)
 |[],_=>trivial
 |r::rs,h=>by
  have e:=wo h.2;unfold flt at e ⊢;rw[Ti]
  split
  .exact⟨h.1,e⟩
  exact e
theorem qe(h:dN names m many r):∃(w:Str)(rest:List D),r.d=.tup (.str w::.str (gX r)::rest):=by
 cases r<;>exact⟨_,_,rfl⟩
theorem uQ{d:D}(h:d∈aC rs):∃r∈rs,d=r.d:=by
 rw[gq]at h;obtain⟨r,e,rfl⟩:=SV.mp h;exact⟨r,e,rfl⟩
theorem iN{names:Z_}{m many:Int}:∀{rs:List Rw}{r:Rw},ba names m many rs->r∈rs->dN names m many r
 |r::rs,q,h,hq=>by
  rcases SQ.mp hq with rfl|hq
  .exact h.1
  exact iN h.2 hq
section
variable{k:Pt}
theorem pT(J:rs.length<=1000)(ok:ba names m many rs)(h:Q (.tup<|aC<|flt rs) M):vg ad [.tup (aC rs)] M Q E:=by
 rw[S6];refine cM Fg id aN (by rw[bO];lia) (λx G K q=>?_) (λx G _ K q=>q) ?_
 .obtain⟨r,H,rfl⟩:=uQ G
  obtain⟨w,rest,e⟩:=qe (iN ok H);have I:Fg r.d=!(decide (w="if")||decide (w="again")):=by rw[e];rfl
  rw[I]at q;rw[e];simp![atI_0];refine⟨by trivial,λp f=>?_⟩
  rw[Mem.upd_del,au f];rcases Decidable.em (w="if") with c1|c1
  .subst c1
   assumption
  rcases Decidable.em (w="again") with c2|c2
  .subst c2
   assumption
  have B:¬"if"=w:=λz=>c1 z.symm;have F:¬"again"=w:=λz=>c2 z.symm;simpa [aR,c1,c2,B,F] using q
 intro p f;rw[Uo,BA ok];exact bJ f (ak h)
theorem fm(B:Has k M)(G:2<=m)(f:m<=997)(F:0<=v/\v<m)(h:∀w M',0<=w->w<m->w≠v->Dr k M M'->Q (.int w) M'):nq ad [.ref k.p,.int m,.int v] M Q E:=by
 rw[Sg];unfold zf;simp![];refine aP B (by lia) (by lia) λr M' a b d=>?_
 refine⟨by lia,ak<|h _ _ (UH _<|by lia) (Uk _<|by lia) ?_ d⟩
 intro z
 by_cases c:v+1+r<m
 .rw[Int.emod_eq_of_lt (by lia) c]at z;lia
 have e:(v+1+r) % m=v+1+r-m:=by
  rw[<- Int.sub_emod_right,Int.emod_eq_of_lt (by lia) (by lia)]
 lia
end
noncomputable def Ho(C:Cse)(s t:Sta):D:=if (C.run s).1=true/\(C.run t).1=true then .tup [.int (nm (C.run s).2.nums C.mn),.int (nm (C.run t).2.nums C.mn)] else .non
theorem pq:∀(n:Nat)(f:Str->Int)(xs:Z_),fits n (xs.map λx=>D.int (f x))=true
 |n,f,[]=>by rfl
 |n,f,x::xs=>by
  have:=pq n f xs
  assumption
theorem Jm{r:Bool×Sx}:bT 60 (df names r)=true:=by
 unfold df
 split
 .simp[bT,(pq 59 _ _)]
 rfl
theorem JE{r:Bool×Sx}:aR (df names r) .non=!r.1:=by
 unfold df;cases r.1<;>rfl
theorem wd{r:Bool×Sx}(f:r.1=true)(e:names[j]?=ap mk):∃xs,df names r=.tup xs/\atI xs (j:Int)=ap (.int<|nm r.2.nums mk):=by
 refine⟨_,by unfold df;rw[if_pos f],?_⟩
 rw[bf (by lia),TC,SN,e];rfl
section
variable{s t:Sta}
theorem Su(o:C.Ok)(e:SOk C z)(h:K (df C.names<|C.run z) M):
  ai av (pG<|aj (nM ad) EE 3<|aa (ac 1)<|aa (ac 0)<|aa (ac 2) af) (dC<|.int 1) [ap z.d,ap C.d,ap (.int (C.most:Nat))] M K:=by
 rw[e.pd];refine⟨rfl,ju (o.pl e) ?_⟩
 assumption
theorem dP(o:C.Ok)(Z:SOk C s)(Y:SOk C t)(h:Q (Ho C s t) M):lW ad [C.d,s.d,t.d,.int (C.most:Nat)] M Q E:=by
 have B:=@zw C;rw[Sr];unfold ym;generalize f:lb ad _=K3;generalize G:(ai _ _ _)=te;have J:∀{z:Sta}{K:DK},SOk C z->K _ M->te _ M K:=λ{z K} X q=>by
  rw[<- G];exact Su o X q
 refine⟨bo (by simp),λp F=>bJ F ?_⟩
 simp;refine⟨aN,?_⟩;refine J Z ⟨by trivial,?_⟩
 refine⟨aN,?_⟩;refine J Y ⟨fM (by simp),?_⟩
 refine⟨aN,λp F=>?_⟩;simp[Tg,Tj,Td,dt,SE,de,Mem.upd_same,Mem.upd_del,au F];rw[<- f];unfold lb;generalize I:kF ad _=K2;unfold Ho at h;have T:fits 60 [df C.names (C.run s),df C.names (C.run t)]=true:=by simp[fits,Jm]
 simp[ah,aG,al,ai,dC,ac,dt,SE,tW,j8,aM,dv,T,Vo,List.any_nil,JE,Vq]
 by_cases c:(C.run s).1=true/\(C.run t).1=true
 .rw[if_pos c]at h
  simp[c.1,c.2,aB];rw[<- I];unfold kF;generalize H:rL ad _=K1;obtain⟨j,O,e⟩:=o7 o.mn;obtain⟨xs,W,S⟩:=wd c.1 e;obtain⟨ys,R,P⟩:=wd c.2 e;rw[B];simp![atI_1,atI_4,dB,O];rw[<- H];simp![atI_0,atI_1,W,R,S,P];exact⟨SX o.l1 (by decide),by trivial,ak h⟩
 rw[if_neg c]at h;have:(!(C.run s).1||!(C.run t).1)=true:=by
  cases h1:(C.run s).1<;>cases h2:(C.run t).1<;>simp_all
 simp only[this,if_true,az,dC];exact ak h
theorem kY(h:Q (Ho C s t) M):frz (Ho C s t) M Q:=by
 unfold Ho at h ⊢
 split at h
 .rename_i c;rw[if_pos c];exact h
 rename_i c;rw[if_neg c];exact h
end
section
variable{cf:Cf}
theorem HM{n:cw}:rS cf n (rs++rest) r=((rS cf n rs r).1,(rS cf n rs r).2++rest):=by
 cases r with
 |ifr x a b=>simp[rS]
 |again x a=>
  simp only[rS]
  split<;>simp
 |_=>rfl
theorem kP:∀(k:Nat)(n:cw)(rs:List Rw)(f:cw),fin cf k n rs=ap f->∀(e:Nat)(rest:List Rw),∃j,e<=j/\fin cf (k+e) n (rs++rest)=fin cf j f rest
 |k,n,[],f,h,e,rest=>by
  rw[dh]at h;cases h;exact⟨_,by lia,rfl⟩
 |0,n,r::rs,f,h,e,rest=>by cases h
 |k+1,n,r::rs,f,h,e,rest=>by
  obtain⟨j,p,B⟩:=kP k _ _ _ h e _;refine⟨j,p,?_⟩;have:k+1+e=(k+e)+1:=by lia
  rw[this,Tj];show fin cf (k+e) _ _=_;rw[HM];exact B
theorem stp_cf{k1 k2:Nat}{n:cw}:rS ⟨m,ps,k1⟩ n rest r=rS ⟨m,ps,k2⟩ n rest r:=by rfl
theorem Fl{m:Int}{ps:Z9}{k1 k2:Nat}:∀(k:Nat)(n:cw)(rs:List Rw),fin ⟨m,ps,k1⟩ k n rs=fin ⟨m,ps,k2⟩ k n rs
 |k,n,[]=>by rw[dh,dh]
 |0,n,r::rs=>rfl
 |k+1,n,r::rs=>by
  exact Fl k _ _
noncomputable def fz(cf:Cf)(n:cw)(rs:List Rw):cw:=rs.foldl (λn r=>sN n (gX r) (num cf n r)) n
theorem lx:∀(rs:List Rw)(k:Nat)(n:cw),(∀r∈rs,bi r=true)->rs.length<=k->fin cf k n rs=ap (fz cf n rs)
 |[],k,n,_,_=>dh
 |r::rs,0,n,_,h=>by simp at h
 |r::rs,k+1,n,hs,h=>by
  have f:=hs r (by simp_all)
  have e:rS cf n rs r=(sN n (gX r) (num cf n r),rs):=by
   cases r<;>trivial
  show fin cf k _ _=_;rw[e];exact lx rs k _ (by simp_all) (by simpa using h)
theorem IS{n:cw}:∀(rs:List Rw),(fz cf n rs).map (·.1)=n.map (·.1):=by
 intro rs
 induction rs generalizing n with
 |nil=>rfl
 |cons r rs ih=>
  show (fz cf _ rs).map _=_;rw[ih,iE]
theorem Me{y:Str}:∀(rs:List Rw)(n:cw),(∀r∈rs,gX r∈n.map (·.1))->(∀r∈rs,gX r≠y)->nm (fz cf n rs) y=nm n y
 |[],n,_,_=>rfl
 |r::rs,n,hk,hn=>by
  show nm (fz cf _ rs) y=_;rw[Me rs _ (λq e=>by rw[iE];simp_all) (by simp_all),gR (by simp_all),if_neg λz=>hn r (by simp_all) z.symm]
end
theorem Go{p q:Int}(hp:0<=p/\p<m)(hq:0<=q/\q<m)(h:p≠q):(a+p) % m≠(a+q) % m:=by
 intro z;obtain⟨c,hc⟩:=(Int.dvd_of_emod_eq_zero<|Int.emod_eq_emod_iff_emod_sub_eq_zero.mp z);have:c=0:=by
  rcases Int.lt_trichotomy c 0 with g|g|g
  .have:=W5 (show c<=-1 by lia) (show 0<=m by lia)
   lia
  .exact g
  .have:=W5 (by trivial) (show 0<=m by lia)
   lia
 subst this;lia
noncomputable def Cse.rw(C:Cse)(rs:List Rw):Cse:={ C with rows:=rs }
def Cse.two(C:Cse)(s t:Sta):Prop:=∃a b,C.mark s=.int a/\C.mark t=.int b/\a≠b
section
variable{s t:Sta}{more:List Rw}{n:cw}
theorem yn(o:C.Ok)(e:SOk C z):NOk C.names C.w (C.run z).2.nums:=da (o.pl e).co _ (o.pl e).ok [] 0 _ (o.pl e).nok
theorem xU(h:(C.run z).1=true):fin (C.cf z) C.most (C.names.zip z.nums) C.rows=ap (C.run z).2.nums:=by
 have e:=gZ (cf:=C.cf z) C.rows [] 0 ⟨C.names.zip z.nums,[]⟩ [];rw[TX]at e;have f:fin _ C.most _ _=D4 _ (C.run z) []:=e;rw[f];unfold D4;rw[if_pos h,dh]
theorem kM{n:cw}(h:fin (C.cf z) C.most (C.names.zip z.nums) C.rows=ap n):(C.run z).1=true/\(C.run z).2.nums=n:=by
 have e:=gZ (cf:=C.cf z) C.rows [] 0 ⟨C.names.zip z.nums,[]⟩ [];rw[TX]at e;have f:fin _ C.most _ _=D4 _ (C.run z) []:=e;rw[f]at h;unfold D4 at h
 split at h
 .rw[dh]at h
  simp_all
 cases h
theorem eZ{n:cw}(h:fin (C.cf z) C.most (C.names.zip z.nums) C.rows=ap n):C.mark z=.int (nm n C.mn):=by
 rw[vI,h];rfl
theorem pf(h:fin (C.cf z) (C.most-4) (C.names.zip z.nums) C.rows=ap n)(G:4<=C.most)(p:∀r∈more,bi r=true)(F:more.length<=4):(C.rw (C.rows++more)).mark z=.int (nm (fz (C.cf z) n more) C.mn):=by
 obtain⟨j,B,e⟩:=kP _ _ _ _ h 4 more;have f:C.most-4+4=C.most:=by lia
 rw[f,lx more j n p (by lia)]at e
 exact eZ (C:=C.rw (C.rows++more)) e
end
noncomputable def kb(y:Str)(rs:List Rw):List Rw:=rs.filter λr=>decide (gX r≠y)
noncomputable def HB(y:Str)(d:D):Bool:=match d with
 |.tup (_::.str x::_)=>decide (x≠y)
 |_=>true
theorem tV{names:Z_}{m many:Int}{y:Str}:∀{rs:List Rw},ba names m many rs->(aC rs).filter (HB y)=aC (kb y rs)
 |[],_=>rfl
 |r::rs,h=>by
  have f:=tV (y:=y) h.2;obtain⟨w,rest,e⟩:=qe h.1;have p:HB y r.d=decide (gX r≠y):=by rw[e];rfl
  unfold kb at f ⊢;rw[aC,Ti,Ti,p,f]
  split<;>rfl
theorem A2{names:Z_}{m many:Int}{p:Rw->Bool}:∀{rs:List Rw},ba names m many rs->ba names m many (rs.filter p)
 |[],_=>trivial
 |r::rs,h=>by
  have e:=A2 (p:=p) h.2;rw[Ti]
  split
  .exact⟨h.1,e⟩
  exact e
theorem CL:∀{rs:List Rw},ba names m many rs->(∀r∈rs,bi r=true)->∀r∈rs,cu names m many r:=λh f r e=>gw (iN h e) (f r e)
theorem fV:∀{rs:List Rw},(∀r∈rs,bi r=true)->cU rs=0
 |[],_=>rfl
 |r::rs,h=>by
  have p:=h r (by simp_all)
  have f:=fV λq e=>h q (Ta _ e);cases r<;>trivial
theorem rf:∀r∈flt rs,bi r=true:=λr e=>(SS.mp e).2
theorem gC:∀r∈kb y (flt rs),bi r=true:=λr e=>rf r (SS.mp e).1
theorem Fk{a b c d e:D}:nz [a,b,c,d,e] bb (ap 3)=[a,b,c]:=rfl
section
variable{s t:Sta}
theorem Cse.Ok.rw(o:C.Ok)(f:ba C.names C.w C.many rs)(e:cU rs<=7):(C.rw rs).Ok:=⟨o.m2,o.m1,o.few,o.most,o.nd,o.l0,o.l1,f,e,o.mn⟩
theorem SOk.rw(k:SOk C s):SOk (C.rw rs) s:=⟨k.ln,k.lp,k.rn,k.rp⟩
theorem n_(o:C.Ok)(f:∀r∈rs,bi r=true)(e:rs.length<=C.most):fin ((C.rw rs).cf z) (C.rw rs).most (C.names.zip z.nums) (C.rw rs).rows=ap (fz (C.cf z) (C.names.zip z.nums) rs):=lx rs _ _ f e
theorem C5(o:C.Ok)(f:∀r∈rs,bi r=true)(e:rs.length<=C.most):(C.rw rs).mark z=.int (nm (fz (C.cf z) (C.names.zip z.nums) rs) C.mn):=eZ (n_ o f e)
theorem E7{n e:cw}(G:fin (C.cf s) C.most (C.names.zip s.nums) C.rows=ap n)(F:fin (C.cf t) C.most (C.names.zip t.nums) C.rows=ap e):Ho C s t=.tup [.int (nm n C.mn),.int (nm e C.mn)]:=by
 obtain⟨h,p⟩:=kM G;obtain⟨f,B⟩:=kM F;unfold Ho;rw[if_pos ⟨h,f⟩,p,B]
theorem ne_e{w:D}{rest:List D}{K:Bool->Mem->Prop}(q:K (!decide (x=y)) M):al (ai sS (ai av (ac 0)<|dC<|.int 1)<|ac 1) [ap (.tup (w::.str x::rest)),ap (.str y)] M K:=by
 simp only[al,ai,ac,dC,av,aM,atI_1,dt];trivial
theorem vQ(o:C.Ok)(hs:SOk C s)(ht:SOk C t)(hy:y∈C.names)(hn:aH C s (.inr y)≠aH C t (.inr y))(hrl:C.rows.length<=1000)(hl:(flt C.rows).length+1<=C.most)(h:∀rs,(C.rw rs).Ok->(C.rw rs).two s t->(∀r∈rs,bi r=true)->rs.length<=(flt C.rows).length+1->Q (C.rw rs).d M):zx ad [C.d,s.d,t.d,.int (C.most:Nat),.str y] M Q E:=by
 have T:=@zw C;have F:∀rs,(C.rw rs).d=.tup [.int C.w,.tup (C.names.map D.str),.int (C.many:Nat),.tup (aC rs),.str C.mn]:=λ_=>rfl;have B:=wo o.ok;have H:ba C.names C.w C.many (kb y<|flt C.rows):=A2 B;have ln:(kb y<|flt C.rows).length<=(flt C.rows).length:=TK _ _;have lf:(flt C.rows).length<=C.rows.length:=TK _ _;have o1:=o.rw H (by rw[fV gC];decide)
 have f1:=n_ (z:=s) o gC (show (kb y<|flt C.rows).length<=C.most by lia)
 have f2:=n_ (z:=t) o gC (show (kb y<|flt C.rows).length<=C.most by lia)
 have em:=E7 (C:=C.rw (kb y<|flt C.rows)) f1 f2;have rk:∀(z:Sta),SOk C z->∀r∈kb y (flt C.rows),gX r∈(C.names.zip z.nums).map (·.1):=λz I r G=>by
  rw[gg I.ln.symm];exact xp (CL H gC r G)
 have ny:∀(z:Sta),SOk C z->nm (fz (C.cf z) (C.names.zip z.nums)<|kb y<|flt C.rows) y=aH C z (.inr y):=λz I=>Me _ _ (rk z I) λr G=>of_decide_eq_true (SS.mp G).2;rw[RU];unfold zo;generalize Y:ki ad (aJ E)=K5;rw[T];refine⟨rfl,aK (λ_ _ q=>pT hrl o.ok q) ?_⟩;simp only[frz,bq,aM,T8];refine cM (HB y) id aN (by rw[bO];lia) (λx hx K q=>?_) (λx hx _ K q=>q) ?_
 .obtain⟨r,G,rfl⟩:=uQ hx
  obtain⟨w,rest,e⟩:=qe (iN B G);have e2:HB y r.d=decide (gX r≠y):=by rw[e];rfl
  rw[e2]at q;rw[e];exact ne_e (by simpa [aR] using q)
 intro p hp;rw[Uo,tV B];simp only[Mem.upd_same,Mem.upd_del,au hp,bG,aM,ag,Td];rw[<- Y];unfold ki;generalize Z:kx ad (aJ E)=K4;simp![Fk,atI_4];refine⟨bo (by decide),bo (by decide),?_⟩
 rw[<- Z];unfold kx;generalize R:k7 ad (aJ E)=K3;simp only[ah,aq,am,aj,aa,ac,af,dt,SE];rw[<- F];refine⟨rfl,aK (λ_ _ q=>dP (C:=C.rw (kb y<|flt C.rows)) o1 hs.rw ht.rw q)<|kY ?_⟩;rw[em];simp only[ag,Td];rw[<- R];unfold k7;generalize X:kU ad (aJ E)=K2;simp![atI_0,atI_1];generalize O:fz (C.cf s) (C.names.zip s.nums) (kb y<|flt C.rows)=ns at *;generalize P:fz (C.cf t) (C.names.zip t.nums) (kb y<|flt C.rows)=nt' at *;have S:(C.rw<|kb y<|flt C.rows).mn=C.mn:=rfl;rw[S]
 by_cases c:nm ns C.mn=nm nt' C.mn
 .simp only[if_pos c]
  rw[<- X];unfold kU;generalize W:jZ ad (aJ E)=K1;rw[F];simp![atI_4];refine⟨bo (by decide),?_⟩
  rw[<- W];unfold jZ;simp![Fk,atI_4,bO];refine⟨bo (by decide),bo (by lia),bo (by decide),bo (by decide),ak ?_⟩
  have er:aC (kb y<|flt C.rows)++[D.tup [.str "sum",.str C.mn,.str C.mn,.str y]]=aC (kb y (flt C.rows)++[.two "sum" C.mn C.mn y]):=by
   rw[bF];rfl
  rw[er,<- F];have f:∀r∈kb y (flt C.rows)++[.two "sum" C.mn C.mn y],bi r=true:=λr G=>by
   rcases Tv.mp G with h|h
   .exact gC r h
   .simp only[VL]at h;subst h;rfl
  have ok2:ba C.names C.w C.many (kb y (flt C.rows)++[.two "sum" C.mn C.mn y]):=OkRs_append.mpr ⟨H,⟨⟨.inl rfl,o.mn,o.mn,hy⟩,trivial⟩⟩;refine h _ (o.rw ok2<|by rw[fV f];decide) ?_ f (by rw[Tq,UA];lia)
  have g:∀(z:Sta),SOk C z->(C.rw (kb y (flt C.rows)++[.two "sum" C.mn C.mn y])).mark z=.int ((nm (fz (C.cf z) (C.names.zip z.nums)<|kb y<|flt C.rows) C.mn+aH C z (.inr y)) % C.w):=λz I=>by
   refine (C5 o f<|by rw[Tq,UA];lia).trans ?_
   have e:fz (C.cf z) (C.names.zip z.nums) (kb y (flt C.rows)++[.two "sum" C.mn C.mn y])=sN (fz (C.cf z) (C.names.zip z.nums)<|kb y<|flt C.rows) C.mn (num (C.cf z) (fz (C.cf z) (C.names.zip z.nums)<|kb y<|flt C.rows)<|.two "sum" C.mn C.mn y):=by
    unfold fz;rw[List.foldl_append];rfl
   have ek:C.mn∈(fz (C.cf z) (C.names.zip z.nums)<|kb y<|flt C.rows).map (·.1):=by rw[IS,gg I.ln.symm];exact o.mn
   rw[e];rw[gR ek,if_pos rfl];show D.int (AA "sum" _ _ _)=_;unfold AA;rw[if_pos rfl,ny z I];rfl
  refine⟨_,_,g s hs,g t ht,?_⟩;rw[O,P,c];have J:(TB y:aF)∈dJ C:=Tv.mpr (.inl<|SV.mpr ⟨y,hy,rfl⟩);exact Go (bE o hs J) (bE o ht J) hn
 .simp only[if_neg c]
  refine ak (h _ o1 ⟨_,_,?_,?_,c⟩ gC<|by lia)
  .exact eZ f1
  .exact eZ f2
end
theorem oQ:∀(n:Nat)(xs:Z_),fits n (xs.map D.str)=true
 |n,[]=>by rfl
 |n,x::xs=>by
  have:=oQ n xs
  assumption
section
variable{s t:Sta}
theorem ne_m{h p f B:D}{e:Str}{K:Bool->Mem->Prop}(q:K (!decide (x=e)) M):al (ai sS (ac 0)<|ai av (ac 1)<|dC<|.int 4) [ap (.str x),ap (.tup [h,p,f,B,.str e])] M K:=by
 trivial
theorem LZ{e f:Option D}{xs:Z_}{b:Bool}{K:Bool->Mem->Prop}(F:b=!xs.isEmpty)(q:K b M):al (ai sS (ac 2)<|am<|bL af) [e,f,ap (.lst<|xs.map D.str)] M K:=by
 refine⟨by trivial,λp h=>bJ h ?_⟩
 have B:fits 59 []=true:=rfl;simp only[sS,dv,bT,(oQ 59 xs),B];refine⟨trivial,trivial,?_⟩;rw[F]at q;cases xs<;>assumption
theorem wZ{h f:Str}:∀r∈[Rw.take f 0,.two "sum" h h f],bi r=true:=by
 intro r e;simp at e;rcases e with rfl|rfl<;>rfl
theorem t8(o:C.Ok)(hs:SOk C s)(ht:SOk C t)(h0:0<C.many)(Z:aH C s (.inl 0)≠aH C t (.inl 0))(hrl:C.rows.length<=1000)(h4:4<=C.most)(f1:fin (C.cf s) (C.most-4) (C.names.zip s.nums) C.rows=ap n1)(f2:fin (C.cf t) (C.most-4) (C.names.zip t.nums) C.rows=ap n2)(k1:n1.map (·.1)=C.names)(k2:n2.map (·.1)=C.names)(he:nm n1 C.mn=nm n2 C.mn)(h:∀more,(C.rw (C.rows++more)).Ok->(C.rw (C.rows++more)).two s t->(∀r∈more,bi r=true)->more.length<=2->Q (C.rw (C.rows++more)).d M):J3 ad [C.d] M Q E:=by
 have P:=@zw C;have H:∀rs,(C.rw rs).d=.tup [.int C.w,.tup (C.names.map D.str),.int (C.many:Nat),.tup (aC rs),.str C.mn]:=λ_=>rfl;have l1:=o.l1;have I:(UC 0:aF)∈dJ C:=Tv.mpr (.inr<|SV.mpr ⟨0,TU.mpr h0,rfl⟩);have X:∀more:List Rw,(∀r∈more,bi r=true)->ba C.names C.w C.many more->(C.rw (C.rows++more)).Ok:=λmore e R=>o.rw (OkRs_append.mpr ⟨o.ok,R⟩) (by rw[dq,fV e];have:=o.h;lia)
 rw[u_q8];unfold JI;generalize T:rT ad (aJ E)=K4;rw[P];simp![atI_4];refine⟨bo (by decide),bo (by decide),?_⟩
 rw[<- T];unfold rT;generalize J:qT ad (aJ E)=K3;simp only[ah,bU,cV,aO,bQ,ai,ac,dC,av,aM,atI_1,dt,SE,br,TJ,SJ,Tj,Tg,bq,T8];refine cM (λd=>match d with|.str x=>!decide (x=C.mn)|_=>true) id aN (by rw[SH];lia) (λx F K q=>?_) (λx F _ K q=>q) ?_
 .obtain⟨y,hy,rfl⟩:=SV.mp F
  exact ne_m q
 intro p hp;have ef:((C.names.map D.str).filter λd=>match d with|.str x=>!decide (x=C.mn)|_=>true)=(C.names.filter λx=>!decide (x=C.mn)).map D.str:=by
  rw[T2];rfl
 rw[Uo,ef];simp only[de,Td,dt,SE,Mem.upd_same,Mem.upd_del,au hp];rw[<- J];unfold qT;generalize G:oa ad (aJ E)=K2;generalize O:s_ ad (aJ E)=K1;cases hf:C.names.filter λx=>!decide (x=C.mn) with
 |nil=>
  unfold ah aG;refine LZ (b:=cp) rfl ?_;rw[if_neg (by simp),<- G]
  unfold oa;simp![Fk,atI_3,atI_4,bO];refine⟨bo (by lia),bo (by decide),bo (by decide),ak ?_⟩
  have S:aC C.rows++[D.tup [.str "take",.str C.mn,.int 0]]=aC (C.rows++[.take C.mn 0]):=by rw[bF];rfl
  rw[S,<- H];have e:∀r∈[Rw.take C.mn 0],bi r=true:=λr Y=>by simp only[VL]at Y;subst Y;rfl
  have g:∀(z:Sta)(n:cw),fin (C.cf z) (C.most-4) (C.names.zip z.nums) C.rows=ap n->n.map (·.1)=C.names->(C.rw (C.rows++[.take C.mn 0])).mark z=.int (aH C z<|.inl 0):=λz n f k=>by
   refine (pf f h4 e<|by simp).trans ?_
   have:nm (fz (C.cf z) n [.take C.mn 0]) C.mn=aH C z (.inl 0):=by
    show nm (sN n C.mn _) C.mn=_;rw[gR (by rw[k];exact o.mn),if_pos rfl];rfl
   rw[this]
  exact h _ (X _ e ⟨⟨o.mn,Vx _,by lia⟩,trivial⟩) ⟨_,_,g s n1 f1 k1,g t n2 f2 k2,Z⟩ e (by simp)
 |cons x0 xs=>
  have F:x0∈C.names.filter λx=>!decide (x=C.mn):=by rw[hf];exact TF
  have B:=(SS.mp F).1;have W:¬x0=C.mn:=by simpa using (SS.mp F).2
  unfold ah aG;refine LZ (b:=true) rfl ?_;rw[if_pos rfl,<- O];unfold s_;simp![atI_0,atI_4,SJ];refine⟨bo (by decide),bo (by decide),bo (by decide),?_⟩
  rw[<- G];unfold oa;simp![Fk,atI_3,atI_4,bO];refine⟨bo (by lia),bo (by decide),bo (by decide),ak ?_⟩
  have S:aC C.rows++[D.tup [.str "take",.str x0,.int 0],D.tup [.str "sum",.str C.mn,.str C.mn,.str x0]]=aC (C.rows++[.take x0 0,.two "sum" C.mn C.mn x0]):=by rw[bF];rfl
  rw[S,<- H];have g:∀(z:Sta)(n:cw),fin (C.cf z) (C.most-4) (C.names.zip z.nums) C.rows=ap n->n.map (·.1)=C.names->(C.rw (C.rows++[.take x0 0,.two "sum" C.mn C.mn x0])).mark z=.int ((nm n C.mn+aH C z (.inl 0)) % C.w):=λz n f k=>by
   refine (pf f h4 wZ<|by simp).trans ?_
   have:nm (fz (C.cf z) n [.take x0 0,.two "sum" C.mn C.mn x0]) C.mn=(nm n C.mn+aH C z (.inl 0)) % C.w:=by
    show nm (sN (sN n x0<|aH C z<|.inl 0) C.mn<|AA "sum" (nm (sN n x0<|aH C z<|.inl 0) C.mn) (nm (sN n x0<|aH C z<|.inl 0) x0) C.w) C.mn=_;rw[gR (by rw[iE,k];exact o.mn),if_pos rfl,gR (by rw[k];exact B),gR (by rw[k];exact B),if_neg λz=>W z.symm,if_pos rfl]
    unfold AA;rw[if_pos rfl]
   rw[this]
  refine h _ (X _ wZ ⟨⟨B,Vx _,by lia⟩,⟨.inl rfl,o.mn,o.mn,B⟩,trivial⟩) ⟨_,_,g s n1 f1 k1,g t n2 f2 k2,?_⟩ wZ (by simp)
  rw[he];exact Go (bE o hs I) (bE o ht I) Z
end
theorem tI{p:Rw->Bool}:∀(rs:List Rw),cRs (rs.filter p)<=cRs rs
 |[]=>SO _
 |r::rs=>by
  have:=tI (p:=p) rs;rw[Ti]
  split
  .simp[cRs];lia
  simp[cRs];lia
theorem si:∀(rs:List Rw),rs.length<=cRs rs
 |[]=>SO _
 |r::rs=>by
  have:=si rs;have:1<=cR r:=by cases r<;>simp[cR]<;>lia
  simp[cRs];lia
theorem sF:∀{rs:List Rw},(∀r∈rs,bi r=true)->cRs rs=rs.length
 |[],_=>rfl
 |r::rs,h=>by
  have p:=h r (by simp_all)
  have f:=sF λq e=>h q (Ta _ e);cases r with
  |ifr=>trivial
  |again=>trivial
  |_=>simp[cRs,cR];lia
section
variable{s t:Sta}{d0 d1 d2 d5 d6 d8 d9 d10:Option D}
def QL(C:Cse)(s t:Sta)(fi:Nat):Prop:=if fi<C.names.length then ∀y,C.names[fi]?=ap y->aH C s (.inr y)≠aH C t (.inr y) else aH C s (.inl 0)≠aH C t (.inl 0)
theorem Nq(o:C.Ok)(P:SOk C s)(O:SOk C t)(T:0<C.many)(hc:cRs C.rows<=24)(W:30<=C.most)(f:QL C s t fi)(J:M ln=ap (.lst<|t.nums.map D.int))(Z:fin (C.cf s) (C.most-4) (C.names.zip s.nums) C.rows=ap n1)(X:fin (C.cf t) (C.most-4) (C.names.zip t.nums) C.rows=ap n2)(k1:n1.map (·.1)=C.names)(k2:n2.map (·.1)=C.names)(Y:nm n1 C.mn=nm n2 C.mn)(h:∀rs,(C.rw rs).Ok->(C.rw rs).two s t->cRs rs<=26->∀e,D'.nx [d0,d1,d2,ap (C.rw rs).d,ap s.d,ap (.ref ln),d6,ap (.int (fi:Nat)),d8,d9,d10,ap t.d,ap (.int (C.most:Nat)),e] M):
  ∀e,ie ad EE D' [d0,d1,d2,ap C.d,ap s.d,ap (.ref ln),d6,ap (.int (fi:Nat)),d8,d9,d10,ap t.d,ap (.int (C.most:Nat)),e] M:=by
 intro e;have p:=@zw C;have lr:=si C.rows;have lf:(flt _).length<=C.rows.length:=TK _ _;have fd:∀{rs:List Rw}{M:Mem}{Q:DK},Q _ M->frz (C.rw rs).d M Q:=λq=>q;unfold ie;have hl:=O.ln;simp only[aG,al,ai,ac,bg,aa,af,dt,SE,bV,aM,J,lL];unfold QL at f
 by_cases c:fi<C.names.length
 .rw[if_pos c]at f
  rw[if_pos (by simp;lia)]
  obtain⟨y,B⟩:∃y,C.names[fi]?=ap y:=⟨_,SG c⟩;have R:atI (C.names.map D.str) fi=ap (.str y):=by rw[bf (by lia),TC,SN,B];rfl
  unfold md;simp only[aq,am,aj,aa,af,ac,ai,dC,dt,SE,p,av,aM,atI_1,R];refine⟨rfl,ao λQ' E' H _=>vQ o P O (T6 B) (f y B) (by lia) (by lia) λrs I G F S=>H _ _ (fd ?_)⟩
  exact h rs I G (by rw[sF F];lia) _
 .rw[if_neg c]at f
  rw[if_neg (by simp;lia)]
  exact⟨rfl,ao λQ' E' H _=>t8 o P O T f (by lia) (by lia) Z X k1 k2 Y λmore I G F S=>H _ _ (fd<|h _ I G (by rw[dI,sF F];lia) _)⟩
theorem GU(o:C.Ok)(G:SOk C s)(H:SOk C t)(Y:0<C.many)(Z:cRs C.rows<=24)(I:30<=C.most)(hf:QL C s t fi)(F:M ln=ap (.lst<|t.nums.map D.int))(O:fin (C.cf s) (C.most-4) (C.names.zip s.nums) C.rows=ap n1)(J:fin (C.cf t) (C.most-4) (C.names.zip t.nums) C.rows=ap n2)(h:∀rs,(C.rw rs).Ok->(C.rw rs).two s t->cRs rs<=26->D'.rt (bj (C.rw rs) s t) M):
  iB ad EE D' [d0,d1,d2,ap C.d,ap s.d,ap (.ref ln),d6,ap (.int (fi:Nat)),d8,d9,d10,ap t.d,ap (.int (C.most:Nat)),bb] M:=by
 obtain⟨j1,_,p⟩:=kP _ _ _ _ O 4 [];obtain⟨j2,_,B⟩:=kP _ _ _ _ J 4 [];have W:C.most-4+4=C.most:=by lia
 rw[W,TX,dh]at p B;have R:=E7 p B;have S:=kM p;have T:=kM B;have P:n1.map (·.1)=C.names:=by rw[<- S.2];exact(yn o G).keys
 have X:n2.map (·.1)=C.names:=by rw[<- T.2];exact(yn o H).keys
 have e:∀rs,(C.rw rs).Ok->(C.rw rs).two s t->cRs rs<=26->∀f,iP ad EE D' [d0,d1,d2,ap (C.rw rs).d,ap s.d,ap (.ref ln),d6,ap (.int (fi:Nat)),d8,d9,d10,ap t.d,ap (.int (C.most:Nat)),f] M:=λrs a b c f=>by
  unfold iP;simp only[az,aT,aa,ac,af,dt,SE];exact⟨bo (by simp),h rs a b c⟩
 unfold iB;simp only[ah,aq,am,aj,aa,af,ac,dt,SE];refine⟨rfl,aK (λ_ _ q=>dP o G H q)<|kY ?_⟩;rw[R];simp only[ag,Td];unfold ng;simp only[ah,aG,al,ai,ac,dC,dt,SE,av,aM,atI_0,atI_1,bM,dv,bT,aR];refine⟨trivial,trivial,?_⟩
 by_cases c:nm n1 C.mn=nm n2 C.mn
 .rw[if_pos (by simpa using c)]
  exact Nq o G H Y Z I hf F O J P X c e _
 .rw[if_neg (by simpa using c)]
  simp only[aB];exact e C.rows o ⟨_,_,eZ p,eZ B,c⟩ (by lia) _
theorem P4(o:C.Ok)(f:SOk C s)(p:SOk C t)(R:0<C.many)(S:cRs C.rows<=24)(F:30<=C.most)(T:QL C s t fi)(B:M ln=ap (.lst<|t.nums.map D.int))(h:∀rs,(C.rw rs).Ok->(C.rw rs).two s t->cRs rs<=26->D'.rt (bj (C.rw rs) s t) M):
  iL ad EE D' [d0,d1,d2,ap C.d,ap s.d,ap (.ref ln),d6,ap (.int (fi:Nat)),d8,d9,d10,ap t.d,ap (.int (C.most:Nat)),bb] M:=by
 have G:=@zw C;have lr:=si C.rows;have lf:(flt C.rows).length<=C.rows.length:=TK _ _;generalize e:({ C with most:=C.most-4 }:Cse)=C4;have W:C4.Ok:=by subst e;exact⟨o.m2,o.m1,o.few,by show C.most-4<=_;have:=o.most;lia,o.nd,o.l0,o.l1,o.ok,o.h,o.mn⟩
 have X:SOk C4 s:=by subst e;exact⟨f.ln,f.lp,f.rn,f.rp⟩
 have t4:SOk C4 t:=by subst e;exact⟨p.ln,p.lp,p.rn,p.rp⟩
 have I:C4.d=C.d:=by subst e;rfl
 have Z:(C.most:Int)-4=C4.most:=by subst e;show _=((C.most-4:Nat):Int);lia
 have Y:∀z,fin (C4.cf z) C4.most (C4.names.zip z.nums) C4.rows=fin (C.cf z) _ (C.names.zip z.nums) C.rows:=λz=>by
  subst e;exact Fl _ _ _
 have H:=wo o.ok;have of:=o.rw H (by rw[fV rf];decide)
 unfold iL;simp only[ah,aG,al,ai,am,aj,aa,af,ac,dC,dt,SE,mK,lL,Z];rw[<- I];refine⟨rfl,aK (λ_ _ q=>dP W X t4 q)<|kY ?_⟩;rw[I];unfold Ho
 by_cases c:(C4.run s).1=true/\(C4.run t).1=true
 .rw[if_pos c]
  have P:=xU c.1;have J:=xU c.2;rw[Y]at P J;exact GU o f p R S F T B P J h
 .rw[if_neg c]
  unfold qQ;rw[G];simp only[aq,ai,am,CK,ci,dQ,aT,af,aj,ac,dC,dt,SE,Rj,Fk,frz,av,aM,atI_3,atI_4];refine⟨rfl,aK (λ_ _ q=>pT (by lia) o.ok q) ?_⟩
  refine⟨bo (by simp),bo (by simp),?_⟩
  have eq:D.tup _=(C.rw<|flt C.rows).d:=rfl;have O:∀z,fin ((C.rw<|flt C.rows).cf z) _ (C.names.zip z.nums) (flt C.rows)=ap _:=λz=>lx _ _ _ rf (by show _<=C.most-4;lia)
  exact GU of f.rw p.rw R (SX (tI C.rows) S) F T B (O s) (O t) h
end
noncomputable def gA(xs:Z9)(i:Nat):Int:=(xs[i]?).getD 0
noncomputable def Fj(xs ys:Z9):Nat:=((Te xs.length).filter λi=>decide (gA xs i≠gA ys i)).length
theorem vU{p q:Nat->Bool}{j:Nat}:∀(l:List Nat),l.Nodup->(∀i∈l,i≠j->p i=true->q i=true)->(l.filter p).length<=(l.filter q).length+if j∈l then 1 else 0
 |[],_,_=>by simp
 |i::l,nd,h=>by
  have f:=Us.mp nd;have B:=vU (p:=p) (q:=q) (j:=j) l f.2 (by simp_all)
  by_cases e:i=j
  .subst e
   rw[if_neg f.1]at B;rw[Ti,Ti]
   split<;>split<;>(try simp)<;>lia
  have G:(if j∈i::l then 1 else 0)=if j∈l then 1 else 0:=by
   have:j∈i::l↔j∈l:=by simp[Tu e,e]
   simp only[this]
  rw[G,Ti,Ti]
  by_cases F:p i=true
  .rw[if_pos F,if_pos (by simp_all),Tt,Tt];lia
  rw[if_neg F]
  split
  .rw[Tt];lia
  .exact B
theorem lO(e:j<xs.length):gA (xs.set j v) i=if i=j then v else gA xs i:=by
 unfold gA
 grind
theorem ku{ys:Z9}(h:j<ys.length):Fj xs (ys.set j v)<=Fj xs ys+1:=by
 unfold Fj;have:=vU (p:=λi=>decide (gA xs i≠gA (ys.set j v) i)) (q:=λi=>decide _) (Te xs.length) WQ λi _ e f=>by
  rw[lO h,if_neg e]at f;exact f
 split at this<;>lia
theorem iC:Fj xs xs=0:=by
 unfold Fj;rw[XJ.mpr (by lia)];rfl
theorem t7(h:i<xs.length):gA xs i∈xs:=by
 unfold gA
 simp_all
theorem AR(h:i<xs.length):atI (xs.map D.int) (i:Int)=ap (.int<|gA xs i):=by
 rw[bf (by lia),TC,SN]
 unfold gA;rw[SG h];rfl
structure Cm(k:Pt)(ln lp:cb)(ns ps:Z9)(M0 M:Mem):Prop where
 has:Has k M
 a:ln≠k.p/\ln≠k.q
 b:lp≠k.p/\lp≠k.q
 ab:ln≠lp
 en:M ln=ap (.lst<|ns.map D.int)
 ep:M lp=ap (.lst<|ps.map D.int)
 n0:M0 ln=bb
 p0:M0 lp=bb
 keep:∀b o,b≠k.p->b≠k.q->M0 b=ap o->M b=ap o
structure Df(m:Int)(nums pieces ns ps:Z9)(fi cnt:Nat):Prop where
 ln:ns.length=nums.length
 lp:ps.length=pieces.length
 rn:∀v∈ns,0<=v/\v<m
 rp:∀v∈ps,0<=v/\v<m
 few:Fj nums ns+Fj pieces ps<=cnt
 fi:if fi<nums.length then gA nums fi≠gA ns fi else gA pieces 0≠gA ps 0
section
variable{k:Pt}{pieces:Z9}{cnt:Nat}
theorem Cm.dr(c:Cm k ln lp ns ps M0 M)(d:Dr k M M'):Cm k ln lp ns ps M0 M':=
 ⟨d.1,c.a,c.b,c.ab,by rw[d.2 ln c.a.1 c.a.2];exact c.en,by rw[d.2 lp c.b.1 c.b.2];exact c.ep,c.n0,c.p0,λb o f e=>by rw[d.2 b f e];exact c.keep b o f e⟩
theorem gr:(xs.map D.int).set j (.int v)=(xs.set j v).map D.int:=by simp_all
theorem Cm.sN(c:Cm k ln lp ns ps M0 M):Cm k ln lp (ns.set j v) ps M0 (M.upd ln<|.lst<|(ns.set j v).map D.int):=
 ⟨c.has.upd c.a,c.a,c.b,c.ab,Mem.upd_same,by rw[ae c.ab.symm];exact c.ep,c.n0,c.p0,λb o h f e=>by rw[ae (Mem.ne e c.n0)];exact c.keep b o h f e⟩
theorem Cm.sP(c:Cm k ln lp ns ps M0 M):Cm k ln lp ns (ps.set j v) M0 (M.upd lp<|.lst<|(ps.set j v).map D.int):=
 ⟨c.has.upd c.b,c.a,c.b,c.ab,by rw[ae c.ab];exact c.en,Mem.upd_same,c.n0,c.p0,λb o h f e=>by rw[ae (Mem.ne e c.p0)];exact c.keep b o h f e⟩
theorem kt(h:∀v∈xs,0<=v/\v<m)(f:0<=v/\v<m):∀w∈xs.set j v,0<=w/\w<m:=λw e=>by
 grind
theorem Df.sN(d:Df m nums pieces ns ps fi cnt)(B:j<nums.length)(h:0<=v/\v<m)(p:v≠gA nums j):Df m nums pieces (ns.set j v) ps fi (cnt+1):=by
 have f:j<ns.length:=by rw[d.ln];exact B
 refine⟨by rw[UD];exact d.ln,d.lp,kt d.rn h,d.rp,?_,?_⟩
 .have:=ku (xs:=nums) (v:=v) f
  have:=d.few;lia
 have:=d.fi
 split at this
 .rename_i c
  rw[if_pos c,lO f]
  split
  .rename_i e;rw[e];exact λz=>p z.symm
  exact this
 rename_i c;rw[if_neg c];exact this
theorem Df.sP(d:Df m nums pieces ns ps fi cnt)(B:j<pieces.length)(h:0<=v/\v<m)(p:v≠gA pieces j):Df m nums pieces ns (ps.set j v) fi (cnt+1):=by
 have f:j<ps.length:=by rw[d.lp];exact B
 refine⟨d.ln,by rw[UD];exact d.lp,d.rn,kt d.rp h,?_,?_⟩
 .have:=ku (xs:=pieces) (v:=v) f
  have:=d.few;lia
 have:=d.fi
 split at this
 .rename_i c;rw[if_pos c];exact this
 rename_i c
 rw[if_neg c,lO f]
 split
 .rename_i e;rw[e];exact λz=>p z.symm
 exact this
end
section
variable{k:Pt}{pieces:Z9}{cnt:Nat}{d1 d2 d7 d9 d10 d11 d12 d13:Option D}{pl:List D}{sm:Int}
theorem Q0(c:Cm k ln lp ns ps M0 M)(d:Df m nums pieces ns ps fi cnt)(m2:2<=m)(m1:m<=997)(rn:∀v∈nums,0<=v/\v<m)(rp:∀v∈pieces,0<=v/\v<m)(hp:atI pl 0=ap (.int m))(s0:0<sm)(s1:sm<=(nums.length:Int)+pieces.length)(hb:nums.length+pieces.length<=1000)(h:∀ns' ps' M' d10',Cm k ln lp ns' ps' M0 M'->Df m nums pieces ns' ps' fi (cnt+1)->D'.nx [ap (.ref k.p),d1,d2,ap (.tup pl),ap (bA nums pieces),ap (.ref ln),ap (.ref lp),d7,ap (.int sm),d9,d10',d11,d12,d13] M'):
  rV ad EE D' [ap (.ref k.p),d1,d2,ap (.tup pl),ap (bA nums pieces),ap (.ref ln),ap (.ref lp),d7,ap (.int sm),d9,d10,d11,d12,d13] M:=by
 have fi':∀{v:Int}{M:Mem}{Q:DK},Q _ M->frz (.int v) M Q:=λz=>z;refine⟨rfl,aP c.has s0 (by lia) λr M1 a1 b1 dr=>fi' ?_⟩
 have c1:=c.dr dr;simp only[ag,Td];unfold rY;simp only[aG,al,ai,bg,aa,af,ac,dt,SE,bV,aM,c1.en,SH,CU,lL,d.ln];obtain⟨j,hj⟩:∃j:Nat,r=j:=⟨r.toNat,by lia⟩
 subst hj
 by_cases q:j<nums.length
 .rw[if_pos (by simp;lia)]
  unfold sk;simp only[aq,am,aj,aa,ac,ai,dC,bA,dt,SE,av,aM,hp,atI_0,AR q];refine⟨rfl,ao λQ' E' hq _=>fm c1.has m2 m1 (rn _<|t7 q) λw M2 w0 w1 wn dr2=>hq _ _ (fi' ?_)⟩;have c2:=c1.dr dr2;simp only[cH,ac,dt,SE,sW,c2.en,SH,jh (by trivial) (show (j:Int)<ns.length by rw[d.ln];lia),gr]
  exact h _ _ _ _ c2.sN (d.sN q ⟨w0,w1⟩ wn)
 .rw[if_neg (by simp;lia)]
  unfold qU;simp only[ah,aq,ai,bg,aa,af,ac,dt,SE,bV,aM,c1.en,SH,lL,d.ln,ag,Td];obtain⟨i,hi,hi2⟩:∃i:Nat,j-nums.length=(i:Int)/\i<pieces.length:=⟨j-nums.length,by lia,by lia⟩
  rw[hi];unfold sV;simp only[aq,am,aj,aa,ac,ai,dC,bA,dt,SE,av,aM,hp,atI_1,AR hi2];refine⟨rfl,ao λQ' E' hq _=>fm c1.has m2 m1 (rp _<|t7 hi2) λw M2 w0 w1 wn dr2=>hq _ _ (fi' ?_)⟩;have c2:=c1.dr dr2;simp only[cH,ac,dt,SE,sW,c2.ep,SH,jh (by lia) (show (i:Int)<ps.length by rw[d.lp];lia),gr]
  exact h _ _ _ _ c2.sP (d.sP hi2 ⟨w0,w1⟩ wn)
end
mutual
theorem Oz{names:Z_}{m a b:Int}(h:a<=b):∀(r:Rw),dN names m a r->dN names m b r
 |.put x k,h1=>h1
 |.take x i,h1=>⟨h1.1,h1.2.1,Int.lt_of_lt_of_le h1.2.2 h⟩
 |.pick x y,h1=>⟨h1.1,h1.2.1,Int.lt_of_lt_of_le h1.2.2 h⟩
 |.two w x y z,h1=>h1
 |.ifr x c d,h1=>by
  simp only[dN]at h1 ⊢;exact⟨h1.1,iH h c h1.2.1,iH h d h1.2.2⟩
 |.again x c,h1=>by
  simp only[dN]at h1 ⊢;exact⟨h1.1,iH h c h1.2⟩
theorem iH{names:Z_}{m a b:Int}(h:a<=b):∀(rs:List Rw),ba names m a rs->ba names m b rs
 |[],_=>trivial
 |r::rs,h1=>⟨Oz h r h1.1,iH h rs h1.2⟩
end
theorem Jd(l:Z_)(p:aF->Bool):((l.map TB).filter p).length=((Te l.length).filter λi=>p (.inr<|(l[i]?).getD ("":Str))).length:=by
 have e:l=(Te l.length).map λi=>l[i]?.getD ("":Str):=WT (by simp) λi h f=>by simp_all
 conv=>lhs;rw[e]
 rw[Tb,T2,SH];rfl
structure CaOk(C:Cse)(s t:Sta)(few:Nat):Prop where
 o:C.Ok
 hs:SOk C s
 ht:SOk C t
 two:C.two s t
 un:(aE C s t).length<=few
 h0:0<C.many
 h1:C.many<=40
 cn:cRs C.rows<=26
 one:∀x∈C.names,vd x
section
variable{s t:Sta}
theorem qp(o:C.Ok)(e:SOk C s)(h:C.names[i]?=ap y):aH C s (.inr y)=gA s.nums i:=by
 unfold gA;rw[(ja o.nd e.ln.symm h)];rfl
theorem Kl(o:C.Ok)(f:SOk C s)(h:SOk C t):(aE C s t).length=Fj s.nums t.nums+Fj s.pieces t.pieces:=by
 unfold aE dJ;rw[VN,Tq,Jd];congr 1
 .unfold Fj
  rw[f.ln];congr 1;refine UG λi p=>?_;have e:C.names[i]?=ap (C.names[i]?.getD ""):=by rw[SG (by simp_all)];rfl
  rw[qp o f e,qp o h e]
 unfold Fj;rw[T2,SH,f.lp];rfl
theorem OS:aE (C.rw rs) s t=aE C s t:=rfl
end
section
variable{k:Pt}
theorem cut2{a b c d e:D}:nz [a,b,c,d,e] bb (ap 2)=[a,b]:=rfl
theorem Qa{a b c d e:D}:nz [a,b,c,d,e] (ap 3) bb=[d,e]:=rfl
theorem Cj{few:Nat}(f1:1<=few)(f5:few<=5)(hp:Has k M)(h:∀C s t M',CaOk C s t few->Kq k M M'->Q (bj C s t) M'):BM ad [.ref k.p,.int 24,.int (few:Nat)] M Q E:=by
 have ft:∀{xs:List D}{M:Mem}{Q:DK},Q (.tup xs) M->frz (.tup xs) M Q:=λz=>z;have I:∀{v:Int}{M:Mem}{Q:DK},Q (.int v) M->frz (.int v) M Q:=λz=>z;rw[QZ];unfold A1;simp only[ah,aq,am,aj,aa,af,ac,dt,SE];refine⟨rfl,ao λQ' E' Z _=>C7 (v:=24) (by decide) (by decide) hp λm many names rows mk M1 pl hc q1=>Z _ _ (ft ?_)⟩
 simp only[ag,Td];unfold mS;have t4:=pl.t.k0;have t5:=pl.t.k1;have m2:=pl.t.m2;have m1:=pl.t.m1;have l0:=pl.t.n0;have l1:=pl.t.n1;obtain⟨f,hmn,mn1,mn40,mle⟩:∃f:Nat,(if many>1 then many else 1)=(f:Int)/\1<=f/\f<=40/\many<=(f:Int):=by
  refine⟨(if many>1 then many else 1).toNat,?_,?_,?_,?_⟩<;>split<;>lia
 simp only[ah,aq,ai,am,CK,ci,dQ,aT,aa,af,bg,ac,dC,ji,dt,SE,Rj,cut2,Qa,frz,av,aM,atI_2,IV,hmn,bc,Tt,Wl];refine⟨bo (by simp),bo (by simp),bo (by simp),?_⟩
 simp only[Tj,Tg,ag,Td];have pl':PlG m (f:Int) names rows mk:=⟨⟨pl.t.m2,pl.t.m1,pl.t.n0,pl.t.n1,by lia,by lia⟩,pl.nd,iH mle _ pl.ok,pl.h,pl.cn,pl.l,pl.ln,pl.mkm,pl.one⟩
 have X:D.tup [.int m,.tup (names.map D.str),.int (f:Int),.tup (aC rows),.str mk]=ji m (f:Int) names rows mk:=rfl;rw[X];unfold nr;simp only[ah,aq,am,aj,aa,af,ac,dt,SE];refine⟨rfl,ao λQ' E' Z _=>wx q1.1 pl' λnums pieces M2 ln lp rn rp q2=>Z _ _ (ft ?_)⟩;simp only[ag,Td];unfold nA;simp only[ah,aq,bg,ai,aa,af,ac,dC,bA,dt,SE,av,aM,atI_0,dW];intro O han;simp only[ag,Td];unfold mv;simp only[ah,aq,bg,ai,aa,af,ac,dC,dt,SE,av,aM,atI_1,dW];intro H F;simp only[ag,Td];have S:O≠H:=Mem.ne Mem.upd_same F;rw[ae S.symm]at F;have R:nums.length=names.length:=ln;have hlP:pieces.length=f:=by lia
 have c0:Cm k O H nums pieces M2 ((M2.upd O<|.lst<|nums.map D.int).upd H<|.lst<|pieces.map D.int):=by
  have a:=q2.1.nep han;have b:=q2.1.nep F;exact⟨(q2.1.upd a).upd b,a,b,S,by rw[ae S,Mem.upd_same],Mem.upd_same,han,F,λb' o _ _ e=>by rw[ae (Mem.ne e F),ae (Mem.ne e han)];exact e⟩
 generalize (M2.upd O<|.lst<|nums.map D.int).upd H (.lst<|pieces.map D.int)=M3 at c0 ⊢;have es:D.tup [.tup (nums.map D.int),.tup (pieces.map D.int)]=bA nums pieces:=rfl;rw[es];unfold m9;simp only[ah,aq,am,aj,ai,bg,aa,af,ac,dC,dt,SE,bV,aM,c0.en,SH,iU];refine⟨.inl ⟨by decide,by decide⟩,rfl,aP c0.has (by lia) (by lia) λr M4 a4 b4 d4=>I ?_⟩
 have P:=c0.dr d4;obtain⟨fi,hfi⟩:∃fi:Nat,r=(fi:Int):=⟨r.toNat,by lia⟩
 subst hfi;simp only[ag,Td];unfold lF;simp only[ah,aq,bg,aa,af,ac,dt,SE,bV,aM,P.en,SH,ag,Td];unfold nR
 have rest:∀(ns ps:Z9)(M5:Mem)(sm:Int),Cm k O H ns ps M2 M5->Df m nums pieces ns ps fi 1->0<sm->sm<=(nums.length:Int)+pieces.length->
   (iO ad<|aJ E) { nx:=λx M'=>drp Q D.non M',rt:=drp Q } [ap (.ref k.p),ap (.int 24),ap (.int (few:Nat)),ap (ji m (f:Int) names rows mk),ap (bA nums pieces),ap (.ref O),ap (.ref H),ap (.int (fi:Nat)),ap (.int sm),bb,bb,bb,bb,bb] M5:=by
  intro ns ps M5 sm W d5 s0 s1;unfold iO;simp only[ah,eA,eh,aa,af,ai,ac,dC,dt,SE,mK,lL];refine⟨by lia,by lia,?_⟩
  refine cy (λxs U N=>∃(ns ps:Z9)(c9 c10:Option D)(j:Nat),xs.length+j=few-1/\U=[ap (.ref k.p),ap (.int 24),ap (.int (few:Nat)),ap (ji m (f:Int) names rows mk),ap (bA nums pieces),ap (.ref O),ap (.ref H),ap (.int (fi:Nat)),ap (.int sm),c9,c10,bb,bb,bb]/\Cm k O H ns ps M2 N/\Df m nums pieces ns ps fi (1+j))
   (λ_ _ _ _=>aN) ?_ ?_ _ _ _ ⟨ns,ps,bb,bb,0,by simp[cE],rfl,W,d5⟩
  .rintro U N ⟨ns,ps,c9,c10,j,e1,rfl,G,J⟩
   have ej:1+j=few:=by simp at e1;lia
   rw[ej]at J;unfold mj;simp only[ah,aq,aT,bg,aa,af,ac,dt,SE,bG,cN,aM,G.en,G.ep];refine⟨bo (by simp),?_⟩
   have et:D.tup [.tup (ns.map D.int),.tup (ps.map D.int)]=(Sta.mk ns ps).d:=rfl;simp only[ag,Td,et];unfold lB;simp only[ah,aq,am,aj,ai,aa,af,ac,dC,dt,SE];refine⟨rfl,aP G.has (by decide) (by decide) λr2 M7 a7 b7 d7=>I ?_⟩
   have c7:=G.dr d7;simp only[bc,ag,Td];obtain⟨T,hmo,mo1,mo2⟩:∃T:Nat,30+r2=(T:Int)/\30<=T/\T<50:=⟨(30+r2).toNat,by lia,by lia,by lia⟩
   rw[hmo];generalize B:(⟨m,f,names,rows,mk,T⟩:Cse)=C;have o:C.Ok:=by subst B;exact⟨m2,m1,by show f<=100;lia,by show T<=10000;lia,pl.nd,by show 0<names.length;lia,by show names.length<=100;lia,pl'.ok,SX pl.h (by decide),pl.mkm⟩
   have hs:SOk C ⟨nums,pieces⟩:=by subst B;exact⟨R,hlP,rn,rp⟩
   have ht:SOk C ⟨ns,ps⟩:=by subst B;exact⟨J.ln.trans R,J.lp.trans hlP,J.rn,J.rp⟩
   have eN:C.names.length=nums.length:=by subst B;exact R.symm
   have ed:ji m (f:Int) names rows mk=C.d:=by subst B;rfl
   have es2:bA nums pieces=(Sta.mk nums pieces).d:=rfl;have em:(T:Nat)=C.most:=by subst B;rfl
   rw[ed,es2,em];refine P4 (s:=⟨nums,pieces⟩) (t:=⟨ns,ps⟩) o hs ht (by subst B;show 0<f;lia) (by subst B;show cRs rows<=24;lia) (by rw[<- em];lia) ?_ c7.en λrs o1 tw cr=>ak (h _ _ _ _ ⟨o1,hs.rw,ht.rw,tw,?_,by subst B;show 0<f;lia,by subst B;exact mn40,cr,by subst B;exact pl.one⟩ ?_)
   .unfold QL
    rw[eN];have hd:=J.fi
    split
    .rename_i c
     rw[if_pos c]at hd;intro y hy;rw[qp o hs hy,qp o ht hy];exact hd
    .rename_i c
     rw[if_neg c]at hd;exact hd
   .rw[OS,Kl o hs ht]
    exact J.few
   .exact q1.trans (q2.trans ⟨c7.has,c7.keep⟩)
  .rintro x xs U N ⟨ns,ps,c9,c10,j,e1,rfl,G,J⟩ D' hD _ _ _
   simp only[Tt]at e1;simp only[ag,Td];refine Q0 G J m2 m1 rn rp (by simp) s0 s1 (by lia) λns' ps' M' d10' c' d'=>hD _ _ ⟨ns',ps',_,_,j+1,by lia,rfl,c',?_⟩
   rw[<- Nat.add_assoc];exact d'
 simp only[ah,aG,al,ai,bg,aa,af,ac,dt,SE,bV,aM,P.en,SH,CU,lL];have d0:∀{j:Nat}{v:Int}(hj:j<nums.length),fi=j->0<=v->v<m->v≠gA nums j->Df m nums pieces (nums.set j v) pieces fi 1:=λ{j v} hj e v0 v1 vn=>by
  subst e;refine⟨UD,rfl,kt rn ⟨v0,v1⟩,rp,?_,?_⟩
  .have h1:=ku (xs:=nums) (ys:=nums) (v:=v) hj
   have h2:=iC (xs:=nums);have h3:=iC (xs:=pieces);lia
  .rw[if_pos hj,lO hj,if_pos rfl];exact λz=>vn z.symm
 by_cases q:fi<nums.length
 .rw[if_pos (by simp;lia)]
  unfold sU;have hp0:atI [D.int m,.tup (names.map D.str),.int (f:Int),.tup (aC rows),.str mk] 0=ap (.int m):=by simp
  simp only[aq,am,aj,aa,af,ac,ai,dC,ji,dt,SE,av,aM,hp0,P.en,AR q];refine⟨rfl,ao λQ' E' Z _=>fm P.has m2 m1 (rn _<|t7 q) λw M5 w0 w1 wn Y=>Z _ _ (I ?_)⟩;have W:=P.dr Y;simp only[cH,ac,dt,SE,sW,W.en,SH,jh (show (0:Int)<=(fi:Int) by lia) (show (fi:Int)<(nums.length:Nat) by lia),TC,gr]
  rw[X];exact rest _ _ _ _ W.sN (d0 q rfl w0 w1 wn) (by lia) (by lia)
 .rw[if_neg (by simp;lia)]
  unfold qy;have hP:0<pieces.length:=by lia
  have hp0:atI [D.int m,.tup (names.map D.str),.int (f:Int),.tup (aC rows),.str mk] 0=ap (.int m):=by simp
  have ga0:=AR (xs:=pieces) hP;have ga0':atI (pieces.map D.int) 0=ap (.int<|gA pieces 0):=ga0;simp only[ah,aq,am,aj,aa,af,ac,ai,dC,ji,dt,SE,av,aM,hp0,P.ep,ga0'];refine⟨rfl,ao λQ' E' Z _=>fm P.has m2 m1 (rp _<|t7 hP) λw M5 w0 w1 wn Y=>Z _ _ (I ?_)⟩;have W:=P.dr Y;have ix0':wX pieces.length 0=ap 0:=jh (by decide) (by lia)
  simp only[cH,ac,dC,dt,SE,sW,W.ep,SH,ix0',gr];have G:=W.sP (j:=0) (v:=w);generalize M5.upd H (.lst<|(pieces.set 0 w).map D.int)=M6 at G ⊢;unfold sJ;simp only[aq,am,ai,bg,aa,af,ac,dC,dt,SE,bV,aM,G.ep,SH,UD,iU,Hh,bc,frz,ag,Td];refine⟨.inl ⟨by decide,by decide⟩,?_⟩
  rw[X];refine rest _ _ _ _ G ⟨rfl,UD,rn,kt rp ⟨w0,w1⟩,?_,?_⟩ (by split<;>lia) (by split<;>lia)
  .have h1:=ku (xs:=pieces) (ys:=pieces) (v:=w) hP
   have h2:=iC (xs:=nums);have h3:=iC (xs:=pieces);lia
  .rw[if_neg q,lO hP,if_pos rfl];exact λz=>wn z.symm
theorem Fp{s t:Sta}(h:Q (bj C s t) M):frz (bj C s t) M Q:=h
end
end _T
namespace _3
open PySem _2
mutual
def qI:D->Prop
 |.non=>True
 |.int i=>i.natAbs<10 ^ 6
 |.str x=>x.length<=100/\∀c∈x.cps.toList,c<16 ^ 8
 |.tup xs=>jt xs
 |_=>False
def jt:List D->Prop
 |[]=>True
 |x::xs=>qI x/\jt xs
end
mutual
noncomputable def sz:D->Nat
 |.tup xs=>5+pU xs
 |_=>2000
noncomputable def pU:List D->Nat
 |[]=>0
 |x::xs=>sz x+2+pU xs
end
theorem E5{i:Int}(h:i.natAbs<10 ^ 6):i.natAbs.log2<1920:=by
 by_cases a:i.natAbs=0
 .rw[a];decide
 exact(X7 a).mpr (Tc h<|SX (by decide:10 ^ 6<=2 ^ 20)<|TZ (by decide)<|by decide)
mutual
theorem yR:∀d:D,qI d->(fI d).showable=true
 |.non,_=>by simp only[fI,Vs]
 |.int i,h=>by simp only[fI,Vs,decide_eq_true_eq];exact E5 h
 |.str x,_=>by simp only[fI,Vs]
 |.tup xs,h=>by simp only[fI,Vs];exact uF xs h
 |.bl _,h=>h.elim
 |.lst _,h=>h.elim
 |.ty _,h=>h.elim
 |.ref _,h=>h.elim
 |.mt _,h=>h.elim
 |.ml _,h=>h.elim
theorem uF:∀xs:List D,jt xs->Ws (fQ xs)=true
 |[],_=>by simp only[fQ,Ws]
 |x::xs,h=>by simp only[fQ,Ws,yR x h.1,uF xs h.2,Bool.and_self]
end
theorem Ih(a:Z_):(tupleText a).length<=piled a+5:=by
 unfold tupleText;rw[strLen_append,strLen_append];have b:("(":Str).length=1:=rfl;have c:((if a.length==1 then ",)" else ")":String):Str).length<=2:=by split<;>decide
 by_cases h:a=[]
 .subst h
  trivial
 have:=join_length_add a h;lia
mutual
theorem oS:∀d:D,qI d->(fI d).shown.length<=sz d
 |.non,_=>by simp only[fI,Wz,sz];decide
 |.int i,h=>by simp only[fI,Wz,sz];exact SX (PyProof.Rows.int_text_len_1921<|E5 h) (by decide)
 |.str x,h=>by
  simp only[fI,Wz,sz];have:=StrLaws.reprText_len x h.2;have:=h.1;lia
 |.tup xs,h=>by
  simp only[fI,Wz,sz];have:=Ih (We<|fQ xs);have:=mD xs h;lia
 |.bl _,h=>h.elim
 |.lst _,h=>h.elim
 |.ty _,h=>h.elim
 |.ref _,h=>h.elim
 |.mt _,h=>h.elim
 |.ml _,h=>h.elim
theorem mD:∀xs:List D,jt xs->piled (We<|fQ xs)<=pU xs
 |[],_=>by simp[fQ,We,piled,pU]
 |x::xs,h=>by
  have b:=oS x h.1;have a:=mD xs h.2;simp only[fQ,We,pU];simp[piled]at a ⊢;lia
end
end _3
namespace _T
open PySem _2 _3
variable{ad:Ad}{C:Cse}{K Q:DK}{E:DX}{a b:Int}{us:List aF}{M:Mem}{B i n:Nat}{v:Nat->Str}{x:Out}{s:Sta}{q:aF}
section
variable{names:Z_}{m many:Int}
mutual
theorem sz_R:∀r:Rw,sz r.d+2<=9000*cR r
 |.put _ _=>by simp[Rw.d,sz,pU,cR]
 |.take _ _=>by simp[Rw.d,sz,pU,cR]
 |.pick _ _=>by simp[Rw.d,sz,pU,cR]
 |.two _ _ _ _=>by simp[Rw.d,sz,pU,cR]
 |.ifr _ a b=>by
  have:=uC a;have:=uC b;simp only[Rw.d,sz,pU,cR];lia
 |.again _ a=>by
  have:=uC a;simp only[Rw.d,sz,pU,cR];lia
theorem uC:∀rs:List Rw,pU (aC rs)<=9000*cRs rs
 |[]=>by simp[aC,pU,cRs]
 |r::rs=>by
  have:=sz_R r;have:=uC rs;simp only[aC,pU,cRs];lia
end
theorem aY{x:Str}(h:vd x):qI (.str x):=by
 obtain⟨n,c,f,g,j,l,rfl⟩:=h;refine⟨?_,λd e=>?_⟩
 .show (UQ n c).size<=100
  rw[Array.size_replicate];lia
 simp at e;lia
theorem fj{w:String}(h:w∈["put","take","pick","sum","by","less","same","if","again"]):qI (.str<|Vf w):=by
 simp at h;rcases h with rfl|rfl|rfl|rfl|rfl|rfl|rfl|rfl|rfl<;>exact⟨by decide +kernel,by decide +kernel⟩
theorem mT{i:Int}(e:0<=i)(c:i<1000):qI (.int i):=by
 show i.natAbs<10 ^ 6;lia
mutual
theorem O1(c:∀x∈names,vd x)(j:m<=997)(k1:many<=40):∀r:Rw,dN names m many r->qI r.d
 |.put x k,h=>by
  simp only[dN,cu]at h;exact⟨fj (w:="put") (by simp),aY (c _ h.1),mT h.2.1 (by lia),trivial⟩
 |.take x k,h=>by
  simp only[dN,cu]at h;exact⟨fj (w:="take") (by simp),aY (c _ h.1),mT h.2.1 (by lia),trivial⟩
 |.pick x y,h=>by
  simp only[dN,cu]at h;exact⟨fj (w:="pick") (by simp),aY (c _ h.1),aY (c _ h.2.1),trivial⟩
 |.two w x y z,h=>by
  simp only[dN,cu]at h;obtain⟨l,e,g,f⟩:=h;rcases l with rfl|rfl|rfl|rfl
  .exact⟨fj (w:="sum") (by simp),aY (c _ e),aY (c _ g),aY (c _ f),trivial⟩
  .exact⟨fj (w:="by") (by simp),aY (c _ e),aY (c _ g),aY (c _ f),trivial⟩
  .exact⟨fj (w:="less") (by simp),aY (c _ e),aY (c _ g),aY (c _ f),trivial⟩
  .exact⟨fj (w:="same") (by simp),aY (c _ e),aY (c _ g),aY (c _ f),trivial⟩
 |.ifr x a b,h=>by
  simp only[dN]at h;exact⟨fj (w:="if") (by simp),aY (c _ h.1),iA c j k1 a h.2.1,iA c j k1 b h.2.2,trivial⟩
 |.again x a,h=>by
  simp only[dN]at h;exact⟨fj (w:="again") (by simp),aY (c _ h.1),iA c j k1 a h.2,trivial⟩
theorem iA(c:∀x∈names,vd x)(e:m<=997)(k1:many<=40):∀rs:List Rw,ba names m many rs->jt (aC rs)
 |[],_=>trivial
 |r::rs,h=>by
  simp only[ba]at h;exact⟨O1 c e k1 r h.1,iA c e k1 rs h.2⟩
end
end
noncomputable def OB(us:List aF)(t:Tr)(B:Nat):D:=LB (λq=>B.testBit (us.idxOf q)) t
structure Cms(x:Out)(B:Nat):Prop where
 f:∀i,x.f.testBit i=true->B.testBit i=true
 s:∀i,x.s.testBit i=true->B.testBit i=cp
section
variable{u:List aF}{S F:Nat}
theorem Bc:(F ||| bitK us q).testBit i=(F.testBit i||decide (us.idxOf q=i)):=by rw[Xr,v_]
theorem LC{t1 t2:Tr}:OB us (.a q t1 t2) B=if B.testBit (us.idxOf q)=true then OB us t2 B else OB us t1 B:=rfl
theorem lZ:∀(t:Tr)(S F:Nat),(∀i,F.testBit i=true->B.testBit i=true)->(∀i,S.testBit i=true->B.testBit i=cp)->∃x∈fJ a b us t S F,Cms x B/\x.v=gH a b (OB us t B)
 |.e m,S,F,hF,hS=>⟨_,VL.mpr rfl,⟨hF,hS⟩,rfl⟩
 |.a q t1 t2,S,F,hF,hS=>by
  rw[LC]
  by_cases c:B.testBit (us.idxOf q)=true
  .rw[if_pos c]
   obtain⟨x,g,f⟩:=lZ t2 S (F ||| bitK us q) (λi hi=>by
    rw[Bc,Bool.or_eq_true]at hi;rcases hi with hi|hi
    .exact hF i hi
    simp_all) hS
   exact⟨x,Tv.mpr (.inl g),f⟩
  rw[if_neg c];obtain⟨x,g,f⟩:=lZ t1 (S ||| bitK us q) F hF (λi hi=>by
   rw[Bc,Bool.or_eq_true]at hi;rcases hi with hi|hi
   .exact hS i hi
   simp_all)
  exact⟨x,Tv.mpr (.inr g),f⟩
theorem kH:∀(t:Tr)(S F:Nat),x∈fJ a b us t S F->(∀i,F.testBit i=true->x.f.testBit i=true)/\∀i,S.testBit i=true->x.s.testBit i=true
 |.e m,S,F,h=>by
  have:x=⟨gH a b m,S,F⟩:=by simpa [fJ] using h
  simp_all
 |.a q t1 t2,S,F,h=>by
  rcases Tv.mp h with h1|h1
  .obtain⟨p,r⟩:=kH t2 _ _ h1
   simp_all
  obtain⟨p,r⟩:=kH t1 _ _ h1
  simp_all
theorem jn:∀(t:Tr)(S F:Nat),x∈fJ a b us t S F->Cms x B->x.v=gH a b (OB us t B)
 |.e m,S,F,h,_=>by
  have:x=⟨gH a b m,S,F⟩:=by simpa [fJ] using h
  subst this;rfl
 |.a q t1 t2,S,F,h,c=>by
  rw[LC];rcases Tv.mp h with h1|h1
  .rw[if_pos (c.f _<|(kH t2 _ _ h1).1 _<|by rw[Bc];simp)]
   exact jn t2 _ _ h1 c
  rw[if_neg (by rw[c.s _ ((kH t1 _ _ h1).2 _<|by rw[Bc];simp)];simp)]
  exact jn t1 _ _ h1 c
theorem sX:∀(t:Tr)(u:List aF)(S F:Nat),TrN t u->Wy us u S F->x∈fJ a b us t S F->∀i,x.f.testBit i=true->x.s.testBit i=cp
 |.e m,u,S,F,_,w,h=>by
  have:x=⟨gH a b m,S,F⟩:=by simpa [fJ] using h
  subst this;exact λi c=>V4.mpr λz=>w.dis i ⟨z,c⟩
 |.a q t1 t2,u,S,F,hn,w,h=>by
  rcases Tv.mp h with h1|h1
  .exact sX t2 _ _ _ hn.2.2 (w.fa hn.1) h1
  exact sX t1 _ _ _ hn.2.1 (w.so hn.1) h1
end
noncomputable def vB(C:Cse)(s t:Sta)(a b:Int)(B:Nat):Str:=gH a b (OB (aE C s t) (C.tree s t) B)
noncomputable def jW(C:Cse)(s t:Sta)(a b:Int):List Out:=fJ a b (aE C s t) (C.tree s t) 0 0
section
variable{t:Sta}{y:Out}
theorem F0:∃x∈jW C s t a b,Cms x B/\x.v=vB C s t a b B:=lZ _ _ _ (by simp_all) (by simp_all)
theorem J0(h:x∈jW C s t a b)(c:Cms x B):x.v=vB C s t a b B:=jn _ _ _ h c
theorem EW(h:x∈jW C s t a b):∀i,x.f.testBit i=true->x.s.testBit i=false:=sX _ _ _ _ vo (Wy.zero λ_ h=>h) h
theorem sZ(h:x∈jW C s t a b):OutOk (aE C s t).length x:=qX _ _ _ _ vo (Wy.zero λ_ h=>h) x h
theorem FM(h:x∈jW C s t a b):Cms x x.f:=⟨λ_ h=>h,λi c=>V4.mpr λz=>by rw[EW h i z]at c;cases c⟩
theorem NM(h:x∈jW C s t a b):vB C s t a b x.f=x.v:=(J0 h<|FM h).symm
theorem Fm:(jW C s t a b).length<=2 ^ (aE C s t).length:=by
 unfold jW;rw[iG];have:=pz (C:=C) (s:=s) (t:=t);lia
end
section
variable{A:Nat}
theorem DF(e:A<2 ^ n)(f:B<2 ^ n)(h:aw A=aw B):A=B:=by
 refine Nat.eq_of_testBit_eq λi=>?_
 by_cases c:i<n
 .have j:=cP (i:=i) e
  have g:=cP (i:=i) f
  simp_all
 rw[Vi (Tc e<|TZ (by decide)<|by lia),Vi (Tc f<|TZ (by decide)<|by lia)]
noncomputable def iT:Nat->List (List Nat)
 |0=>[[]]
 |n+1=>iT n++(iT n).map (·++[n])
theorem Do(h:B<2 ^ n):aw (2 ^ n+B)=aw B++[n]:=by
 have c:2 ^ n+B<2 ^ (n+1):=by lia
 rw[cm c,cm h,List.range_succ,VN];congr 1
 .refine UG λi e=>?_
  rw[Nat.testBit_two_pow_add_gt (by simp_all)]
 rw[Ti,Nat.testBit_two_pow_add_eq,Vi h];rfl
theorem k4:∀n:Nat,iT n=(Te<|2 ^ n).map aw
 |0=>rfl
 |n+1=>by
  rw[iT,k4 n,Nat.pow_succ,Nat.mul_two,List.range_add,VA,Tb,Tb];congr 1;exact Tz λB c=>(Do<|by simp_all).symm
theorem FE:(iT n).length=2 ^ n:=by rw[k4,SH,WE]
end
abbrev Mt:=Str×Int×Int
noncomputable def J8(p:Mt):D:=.tup [.str p.1,.int p.2.1,.int p.2.2]
theorem lS:∀(c:Z_)(xs ys:Z9),gS (c.map D.str) (xs.map D.int) (ys.map D.int)=(c.zip<|xs.zip ys).map J8
 |[],_,_=>by simp[gS]
 |_::_,[],_=>by simp[gS]
 |_::_,_::_,[]=>by simp[gS]
 |n::c,x::xs,y::ys=>by
  have:=lS c xs ys;simp at this ⊢;rw[<- this];rfl
theorem EF{c:Z_}{xs ys:Z9}(e:c.Nodup)(f:c.length=xs.length)(g:c.length=ys.length):c.zip (xs.zip ys)=c.map λx=>(x,nm (c.zip xs) x,nm (c.zip ys) x):=by
 refine V3 λi=>?_;rw[SN];cases h:c[i]? with
 |none=>
  rw[Option.map_none,UB];rw[W4];have:=VW.mp h;lia
 |some x=>
  rw[Ua,U4];exact⟨h,U4.mpr ⟨ja e f h,ja e g h⟩⟩
theorem mw{M:Mem}{tt:eW}{te:b6}{ok:Mem->Prop}{Q:List D->Mem->Prop}{b:BxC (cX 3<|aL (ag 0)<|aL (ag 1)<|aL (ag 2) cO) tt te ok Q}{c:Dl}(p:Mt->Bool)(f:Mt->D)(g:ok M):∀(xs:List Mt)(Z3:List D)(j m l:Option D),Z3.length+xs.length<=100000->
  (∀x∈xs,∀K:Bool->Mem->Prop,K (p x) M->tt (ap (.str x.1)::ap (.int x.2.1)::ap (.int x.2.2)::c) M K)->(∀x∈xs,∀K:DK,K (f x) M->te (ap (.str x.1)::ap (.int x.2.1)::ap (.int x.2.2)::c) M K)->Q (Z3++(xs.filter p).map f) M->
  cZ (cX 3<|aL (ag 0)<|aL (ag 1)<|aL (ag 2) cO) tt te ok Q b (xs.map J8) Z3 (j::m::l::c) M
 |[],Z3,j,m,l,hl,ht,he,h=>⟨g,by simpa using h⟩
 |x::xs,Z3,j,m,l,hl,ht,he,h=>by
  simp only[Tt]at hl;rw[SJ];refine⟨g,?_⟩;simp only[J8,cX,aL,cO,ag,Td];refine⟨rfl,ht x TF _ ?_⟩;cases o:p x with
  |true=>
   rw[if_pos rfl];refine he x TF _ ⟨fM (by lia),mw p f g xs _ _ _ _ (by simp;lia) (λy e=>ht y (Ta _ e)) (λy e=>he y (Ta _ e)) ?_⟩
   rw[Ti,if_pos o]at h;simpa using h
  |false=>
   rw[if_neg (by simp)]
   refine mw p f g xs _ _ _ _ (by lia) (λy e=>ht y (Ta _ e)) (λy e=>he y (Ta _ e)) ?_
   rw[Ti,if_neg (by simp[o])]at h
   exact h
section
variable{t:Sta}
theorem Ai(e:SOk C s)(c:i<C.many):atI (s.pieces.map D.int) (i:Nat)=ap (.int<|aH C s<|.inl (i:Int)):=by
 have f:i<s.pieces.length:=by rw[e.lp];exact c
 have:atI (s.pieces.map D.int) i=(s.pieces.map D.int)[i]?:=by rw[bf (by lia),TC]
 show _=ap (D.int<|(s.pieces[(Vp i)]?).getD 0)
 simp_all
theorem jD(o:C.Ok)(A:SOk C s)(y:SOk C t)(h:∀p,M p=bb->Q (.ref p) (M.upd p<|.lst<|(aE C s t).map kD)):vt ad [bj C s t] M Q E:=by
 have l1:=o.l1;have few:=o.few;have j:=@NU C s t;have g:=@zw C;have c:∀z:Sta,z.d=.tup _:=λ_=>rfl;rw[Q4];unfold yD;simp only[ah,aq,ac,dt,j,cX,aL,ag,cO,Td];refine⟨rfl,?_⟩;unfold qj;rw[g,c s,c t];simp only[ah,bU,cV,aO,tN,aa,af,ai,ac,dC,av,aM,atI_0,atI_1,dt,SE,br,TJ,SJ,bq,TX];rw[lS,EF o.nd A.ln.symm y.ln.symm];refine mw (λx=>decide (x.2.1≠x.2.2)) _ aN _ _ _ _ _ (by simp;lia) (λx _ K q=>?_) (λx _ K q=>q) ?_
 .simp only[al,ai,ac,dt,SE,sS,dv,bT,aR]
  simp_all
 intro p F;have J:(((C.names.map λx=>(x,nm (C.names.zip s.nums) x,nm (C.names.zip t.nums) x)).filter λx=>decide (x.2.1≠x.2.2)).map λx:Mt=>D.str x.1)=((C.names.map TB).filter λk=>decide (aH C s k≠aH C t k)).map kD:=by
  rw[T2,T2,Tb,Tb];rfl
 simp only[Tg];rw[J];simp only[de,Td,dt,SE,Mem.upd_same,Mem.upd_del,au F];unfold qf;simp only[az,ai,ac,am,aO,eh,aa,af,dC,av,aM,atI_2,dt,SE,br,TJ,SJ,Tj,Tg,T8];refine⟨by lia,by lia,?_⟩
 rw[TC];refine cM (λd=>match d with|.int i=>decide (aH C s (.inl i)≠aH C t (.inl i))|_=>true) id aN (by simp[cE];lia) (λx u K q=>?_) (λx u _ K q=>q) ?_
 .obtain⟨i,f,rfl⟩:=SV.mp u
  have f:=TU.mp f;have l:(0:Int)+(i:Nat)=(i:Nat):=by lia
  rw[l]at q ⊢;simp only[al,ai,ac,dC,av,aM,atI_1,dt,SE,Ai A f,Ai y f,sS,dv,bT,aR];refine⟨trivial,trivial,?_⟩;simpa using q
 intro L m;refine bJ m ?_;have I:((cE 0 C.many).filter λd=>match d with|.int i=>decide (aH C s (.inl i)≠aH C t (.inl i))|_=>true).map id=(((Te C.many).map λ(i:Nat)=>(UC (i:Int):aF)).filter λk=>decide (aH C s k≠aH C t k)).map kD:=by
  unfold cE;rw[Uo,T2,T2,Tb];have l:∀i:Nat,(0:Int)+(i:Nat)=(i:Nat):=λi=>by lia
  simp only[l];rfl
 rw[I];have w:((C.names.map TB).filter λk=>decide (aH C s k≠aH C t k)).map kD++(((Te C.many).map λ(i:Nat)=>(UC (i:Int):aF)).filter λk=>decide (aH C s k≠aH C t k)).map kD=(aE C s t).map kD:=by
  unfold aE dJ;rw[VN,VA]
 have e:=congrArg UN w;have H:=lR (C:=C) (s:=s) (t:=t) o;rw[Tq,SH (as:=aE C s t)]at e;refine⟨bo (by lia),?_⟩
 rw[w];exact λG r=>ak (h G r)
end
noncomputable def jA(ks:List Nat):List D:=ks.map λ(i:Nat)=>D.int (i:Int)
noncomputable def Dg(ks:List Nat):D:=.lst (jA ks)
noncomputable def Iv:Nat->Nat->List D
 |_,0=>[]
 |j,n+1=>.int ((j:Nat):Int)::Iv (j+1) n
theorem BK:∀(n j:Nat),(Va j n).map (λ(i:Nat)=>D.int ((i:Nat):Int))=Iv j n
 |0,_=>rfl
 |n+1,j=>by rw[WO,SJ,BK n _];rfl
theorem Od(n:Nat):cE 0 n=Iv 0 n:=by
 rw[<- BK,<- UY];unfold cE
 simp_all
theorem EO{ks:List Nat}(h:ks∈iT n):∃B,B<2 ^ n/\ks=aw B:=by
 rw[k4]at h;obtain⟨B,c,rfl⟩:=SV.mp h;exact⟨B,by simp_all,rfl⟩
theorem fP(h:B<2 ^ n):(aw B).length<=n:=by
 rw[cm h]
 grind
section
variable{t:Sta}
theorem vR{n:Nat}{D':DEnds}{EE:DX}{ok:Mem->Prop}{z:BxF (ag 2) (kR ad EE) D' ok}(l:ok M):∀(m j:Nat)(c:Option D),j+m<=10->(∀c,D'.nx [ap (.int (n:Nat)),ap (.lst<|(iT (j+m)).map Dg),c] M)->
  o9 (ag 2) (kR ad EE) D' ok z (Iv j m) [ap (.int (n:Nat)),ap (.lst<|(iT j).map Dg),c] M
 |0,j,c,hl,h=>⟨l,h c⟩
 |m+1,j,c,hl,h=>by
  have F:2 ^ j<=1024:=(TZ (by decide) (show j<=10 by lia))
  have w:=FE (n:=j);refine⟨l,?_⟩;refine cc (λd=>match d with|.lst xs=>.lst (xs++[.int (j:Int)])|_=>.non) aN (by rw[SH];lia) (λx p K q=>?_) ?_
  .obtain⟨A,r,rfl⟩:=SV.mp p
   obtain⟨B,o,rfl⟩:=EO r;have:=fP o;refine⟨bo (by simp),λu f=>bJ f ?_⟩
   exact⟨bo (by simp[jA];lia),λy g=>bJ g q⟩
  intro u f;refine bJ f ?_;refine⟨bo (by simp;lia),λy g=>bJ g ?_⟩
  have e:(iT j).map Dg++((iT j).map Dg).map (λd=>match d with|.lst xs=>.lst (xs++[.int (j:Nat)])|_=>.non)=(iT (j+1)).map Dg:=by
   rw[iT,Tb];simp[Dg,jA]
  rw[e];exact vR l m _ _ (by lia) λc=>by
   rw[show j+1+m=j+(m+1) by lia]
   exact(h c)
theorem rX(l:n<=10)(h:Q (.lst<|(iT n).map Dg) M):AU ad [.int (n:Nat)] M Q E:=by
 refine⟨by trivial,λf e=>bJ e ⟨by trivial,λg c=>bJ c ?_⟩⟩
 refine⟨by lia,by lia,?_⟩
 rw[Od];refine vR aN n 0 _ (by lia) λj=>?_
 simp;exact ak h
noncomputable def fH(C:Cse)(s t:Sta)(ks:List aF):Sta:=
 ⟨C.names.map λx=>aH C (if TB x∈ks then t else s) (.inr x),(Te C.many).map λ(i:Nat)=>aH C (if UC (i:Int)∈ks then t else s) (.inl (i:Int))⟩
variable{ks:List aF}
theorem yg(o:C.Ok)(g:SOk C s)(f:SOk C t):SOk C (fH C s t ks):=by
 refine⟨by simp[fH],by simp[fH],λv e=>?_,λv e=>?_⟩
 .simp[fH]at e
  obtain⟨x,j,rfl⟩:=e;have c:TB x∈dJ C:=Tv.mpr (.inl<|by simp_all)
  split
  .exact bE o f c
  exact bE o g c
 simp only[fH,SV]at e;obtain⟨i,h,rfl⟩:=e;have c:(UC i:aF)∈dJ C:=Tv.mpr (.inr<|SV.mpr<|by lia)
 split
 .exact bE o f c
 exact bE o g c
theorem L7{c e:b6}{U:Dl}{k:aF}{K:Bool->Mem->Prop}(f:∀K,K (kD k) M->c U M K)(g:∀K,K (BF ks) M->e U M K)(h:K (decide (k∈ks)) M):al (ai tW c e) U M K:=by
 refine f _ (g _ ?_);unfold tW;rw[HX];exact h
noncomputable def PN(ks:List aF)(x:Mt):Int:=if TB x.1∈ks then x.2.2 else x.2.1
theorem tY{D':DEnds}{EE:DX}{ok:Mem->Prop}{y:BxF (cX 3<|aL (ag 7)<|aL (ag 8)<|aL (ag 9) cO) (ik ad EE) D' ok}{l:cb}{o w d3 r u f:Option D}(p:∀xs,ok (M.upd l xs)):∀(xs:List Mt)(Z3:Z9)(j g m:Option D),Z3.length+xs.length<=1000->
  (∀j g m,D'.nx [o,ap (BF ks),w,d3,r,u,ap (.ref l),j,g,m,f] (M.upd l<|.lst<|(Z3++xs.map (PN ks)).map D.int))->
  o9 (cX 3<|aL (ag 7)<|aL (ag 8)<|aL (ag 9) cO) (ik ad EE) D' ok y (xs.map J8) [o,ap (BF ks),w,d3,r,u,ap (.ref l),j,g,m,f] (M.upd l<|.lst<|Z3.map D.int)
 |[],Z3,j,g,m,hl,h=>⟨p _,by simp_all⟩
 |x::xs,Z3,j,g,m,hl,h=>by
  simp at hl;refine⟨p _,?_⟩;simp[cX,aL,cO,ag,Td];refine⟨rfl,?_⟩;unfold ik;have fin:∀v:Int,v=PN ks x->bv (.ref l) [.int v] (M.upd l<|.lst<|Z3.map _) λ_ M1=>o9 _ _ D' ok y _ [o,ap _,w,d3,r,u,ap _,ap (.str x.1),ap (.int x.2.1),ap (.int x.2.2),f] M1:=λv z=>by
   simp only[bv,Mem.upd_same,Mem.upd_upd];refine⟨by rw[SH];exact fM (by lia),?_⟩
   have e:Z3.map D.int++[.int v]=(Z3++[v]).map D.int:=by simp
   rw[e];refine tY p xs _ _ _ _ (by simp;lia) λj g m=>?_
   simp_all
  simp[bn,ko,ac,dt,SE,dE,Mem.upd_same,true_and,kI];refine L7 (k:=.inr _) (λK q=>q) (λK q=>q) ?_
  by_cases c:(TB x.1)∈ks
  .rw[if_pos (by simpa using c)]
   exact fin _ (by unfold PN;rw[if_pos c])
  rw[if_neg (by simpa using c)]
  exact fin _ (by unfold PN;rw[if_neg c])
theorem wB(o:C.Ok)(u:SOk C s)(r:SOk C t)(h:Q (fH C s t ks).d M):BX ad [bj C s t,BF ks] M Q E:=by
 have l1:=o.l1;have few:=o.few;have m:=@NU C s t;have j:=@zw C;have f:∀z:Sta,z.d=.tup _:=λ_=>rfl;rw[RN];unfold yb;simp only[ah,aq,ac,dt,m,cX,aL,ag,cO,Td,bL,af];refine⟨rfl,bo (by simp),λl F=>?_⟩
 unfold qv;rw[j,f s,f t];simp only[ah,eA,tN,aa,af,ai,ac,dC,av,aM,atI_0,atI_1,dt,SE,bq];rw[lS,EF o.nd u.ln.symm r.ln.symm];refine tY (Z3:=[]) (ks:=ks) (λ_=>aN) _ _ _ _ (by simp;lia) λI J L=>?_
 unfold tz;simp only[ah,bU,cV,aO,eh,aa,af,ai,ac,dC,av,aM,atI_2,dt,SE,br,TJ,SJ,Tj,Tg,T8];refine⟨by lia,by lia,?_⟩
 rw[TC];refine cc (λd=>match d with|.int i=>.int (aH C (if UC i∈ks then t else s)<|.inl i)|_=>.non) aN (by simp[cE];lia) (λx y K q=>?_) ?_
 .obtain⟨i,g,rfl⟩:=SV.mp y
  have g:=TU.mp g;have w:(0:Int)+(i:Nat)=(i:Nat):=by lia
  rw[w]at q ⊢;refine L7 (k:=.inl (i:Int)) (λK q=>q) (λK q=>q) ?_
  by_cases c:(UC (i:Int):aF)∈ks
  .rw[if_pos (by simpa using c)]
   simp only[ai,ac,dC,av,aM,atI_1,dt,SE,Ai r g]
   simp_all
  .rw[if_neg (by simpa using c)]
   simp only[ai,ac,dC,av,aM,atI_1,dt,SE,Ai u g]
   simp_all
 intro p A;simp only[de,Td,dt,SE,Mem.upd_del,au A];unfold sY;simp only[az,aT,bg,aa,af,ac,dt,SE,bG,cN,aM,Mem.upd_same];refine⟨bo (by simp),M,λb o e=>by rw[ae (Mem.ne e F)];exact e,?_⟩
 have H:(C.names.map λx=>(x,nm (C.names.zip s.nums) x,nm (C.names.zip t.nums) x)).map (PN ks)=(fH C s t ks).nums:=by
  rw[Tb];refine Tz λx _=>?_;simp only[Function.comp,PN]
  split<;>rfl
 have G:(cE 0 C.many).map (λd=>match d with|.int i=>.int (aH C (if UC i∈ks then t else s)<|.inl i)|_=>.non)=(fH C s t ks).pieces.map D.int:=by
  unfold cE fH
  simp_all
 rw[H,G];exact h
theorem CS(o:C.Ok)(g:q∈dJ C):aH C (fH C s t ks) q=aH C (if q∈ks then t else s) q:=by
 rcases gs g with⟨x,f,rfl⟩|⟨i,hi,rfl⟩
 .obtain⟨j,e⟩:=List.getElem?_of_mem f
  have c:(fH C s t ks).nums[j]?=ap (aH C (if TB x∈ks then t else s)<|.inr x):=by
   unfold fH
   simp_all
  rw[(ja o.nd (by simp[fH]) e)]at c
  exact T5 c
 show (((fH C s t ks).pieces[(Vp i)]?).getD 0)=_;rw[TC];unfold fH;rw[SN,X9 hi];rfl
end
noncomputable def O6(us:List aF)(B:Nat):List aF:=(aw B).map λi=>(us[i]?).getD (.inl 0)
theorem Kg(o:us.Nodup)(g:B<2 ^ us.length)(m:q∈us):q∈O6 us B↔B.testBit (us.idxOf q)=true:=by
 have l:=UT m;constructor
 .intro h
  obtain⟨i,c,e⟩:=SV.mp h;obtain⟨f,j⟩:=(cP g).mp c;rw[SG f]at e;have:us.idxOf q=i:=by rw[<- e];exact o.idxOf_getElem i f
  rw[this];exact j
 intro h;refine SV.mpr ⟨_,(cP g).mpr ⟨l,h⟩,?_⟩
 simp_all
theorem Pz(g:B<2 ^ us.length)(h:q∈O6 us B):q∈us:=by
 obtain⟨i,c,e⟩:=SV.mp h;obtain⟨f,_⟩:=(cP g).mp c;rw[SG f]at e;rw[<- e];exact UK f
noncomputable def jB(B:Nat):List aF:=(aw B).map λ(i:Nat)=>UC (i:Int)
theorem ug:eI (jA<|aw B)=ap (jB B):=by
 have:jA (aw B)=(jB B).map kD:=by unfold jA jB;rw[Tb];rfl
 rw[this,pw]
theorem sy{A:Nat}(e:A<2 ^ n)(f:B<2 ^ n)(h:jB A=jB B):A=B:=by
 refine DF e f ?_;have c:=congrArg (List.map λk:aF=>match k with|.inl i=>i.toNat|.inr _=>0) h
 unfold jB at c;simpa [XU] using c
noncomputable def D7(v:Nat->Str)(Bs:List Nat):List (List aF×D):=Bs.map λB=>(jB B,D.str (v B))
section
variable{t:Sta}
theorem Ff(o:C.Ok)(f:SOk C s)(e:SOk C t)(j:(aE C s t).length<24)(g:B<2 ^ (aE C s t).length):C.mark (fH C s t<|O6 (aE C s t) B)=OB (aE C s t) (C.tree s t) B:=by
 refine (mq o f e (yg o f e) j λq h=>?_).symm;rw[CS o h]
 by_cases c:q∈aE C s t
 .have:=Kg (sL o) g c
  simp_all
 rw[if_neg (λz=>c (Pz g z))]
 split
 .exact(VE λz=>c (SS.mpr<|by lia))
 rfl
theorem HI{r:Bool×Sx}{w:Str}{m:D}(f:m=vP C.mn r)(c:w=gH a b m):(r.1=cp/\w=("other":Str))\/(r.1=true/\w=if nm r.2.nums C.mn=a then ("sound":Str) else if nm r.2.nums C.mn=b then ("faulty":Str) else ("other":Str)):=by
 subst f;unfold vP at c;cases e:r.1 with
 |false=>
  rw[e]at c;exact .inl ⟨rfl,c⟩
 |true=>
  rw[e,if_pos rfl]at c;refine .inr ⟨rfl,?_⟩;unfold gH at c;rw[c];simp[aR]
theorem Es{D':DEnds}{EE:DX}{O g u:Option D}{l:cb}{j:Nat}{Z2:List (List aF×D)}(o:C.Ok)(S:SOk C s)(T:SOk C t)(hu:(aE C s t).length<24)(P:B<2 ^ (aE C s t).length)(R:a≠b)(hj:C.names[j]?=ap C.mn)(hl:M l=bb)(hk:Z2.length<100000)(h:∀g u,D'.nx [ap (bj C s t),ap C.d,ap s.d,ap t.d,ap (.int (C.most:Nat)),ap (BF<|aE C s t),ap (.int (j:Nat)),ap (.tup [.int a,.int b]),ap (.ref l),O,g,u] (M.upd l<|.dT<|dL Z2 (jB B)<|.str<|vB C s t a b B))(h9:O=ap (Dg<|aw B)):
  j6 ad EE D' [ap (bj C s t),ap C.d,ap s.d,ap t.d,ap (.int (C.most:Nat)),ap (BF<|aE C s t),ap (.int (j:Nat)),ap (.tup [.int a,.int b]),ap (.ref l),O,g,u] (M.upd l<|.dT Z2):=by
 subst h9;have ul:=lR (C:=C) (s:=s) (t:=t) o;have nl:=fP P;have mm:=Ff o S T hu P;have lu:(M.upd l<|.dT Z2) l=ap (.dT Z2):=Mem.upd_same;generalize hN:M.upd l (.dT Z2)=N at *;unfold j6;simp only[ah,aq,ai,pG,aj,aa,af,ac,dC,dt,SE,am,aO,bQ,aM,bq,br,SJ,TJ,Tj,Tg,T8,Dg];refine cc (λd=>match d with|.int i=>kD (((aE C s t)[i.toNat]?).getD<|.inl 0)|_=>.non) aN (by simp[jA];lia) (λx U K q=>?_) ?_
 .obtain⟨i,G,rfl⟩:=SV.mp U
  have G:=((cP P).mp G).1;have e:atI ((aE C s t).map kD) ((i:Nat):Int)=ap (kD<|((aE C s t)[i]?).getD<|.inl 0):=by
   rw[bf (by lia),TC,SN,SG G];rfl
  simp only[ai,ac,dt,SE,BF,av,aM,e];simpa using q
 intro p F;refine bJ F ?_;have e1:(jA<|aw B).map (λd=>match d with|.int i=>kD (((aE C s t)[i.toNat]?).getD<|.inl 0)|_=>.non)=(O6 (aE C s t) B).map kD:=by
  unfold jA O6;rw[Tb,Tb];exact Tz λi _=>by simp
 rw[e1];refine⟨rfl,aK (λ_ _ q=>wB o S T q) ?_⟩;show frz (fH C s t<|O6 (aE C s t) B).d N _;generalize hz:fH C s t (O6 (aE C s t) B)=z at *;have f:SOk C z:=by rw[<- hz];exact yg o S T
 have fz:∀{Q:DK},Q z.d N->frz z.d N Q:=λq=>q;refine fz ?_;rw[f.pd];refine⟨rfl,ju (o.pl f) ?_⟩;unfold CW;have er:cW (C.cf z) C.names C.rows z.nums=C.run z:=rfl;rw[er];simp only[av,aM,atI_1,SE,dt,ag,Td];rw[<- f.pd];unfold wc;simp only[ah,aq,dC,ag,Td];unfold xR;have fin:∀w:Str,w=vB C s t a b B->nH ad EE D' [ap (bj C s t),ap C.d,ap s.d,ap t.d,ap (.int (C.most:Nat)),ap (BF<|aE C s t),ap (.int (j:Nat)),ap (.tup [.int a,.int b]),ap (.ref l),ap (.lst<|jA<|aw B),ap (df C.names<|C.run z),ap (.str w)] N:=λw Z=>by
  unfold nH;simp only[aq,ac,dt,SE,cH,bg,aa,af,bG,cN,sW,lu,Cr,ug];refine⟨fM (by lia),?_⟩
  have:=h (ap<|df C.names<|C.run z) (ap<|.str w);subst Z;rw[<- hN,Mem.upd_upd];exact this
 generalize nH ad EE=K2 at *;have X:vB C s t a b B=gH a b (C.mark z):=by rw[mm];rfl
 rcases HI (C:=C) (r:=C.run z) (a:=a) (b:=b) (m:=C.mark z) rfl X with⟨Y,w0⟩|⟨r1,w1⟩
 .have W:df C.names (C.run z)=.non:=by unfold df;rw[Y,if_neg (by simp)]
  rw[W]at fin ⊢;simp only[ah,aG,oz,al,ai,ac,dC,dt,SE,eQ,jC,Vr,Th,if_false,aB];exact fin _ w0.symm
 .obtain⟨xs,ex,I⟩:=wd r1 hj
  rw[ex]at fin ⊢;generalize nm (C.run z).2.nums C.mn=v at *;have H:j8 N (.int v) (.tup [.int a,.int b])=ap (decide (v=a)||decide (v=b)):=by
   simp only[j8,aM,dv,fits,bT,Bool.and_self,and_self,if_true,Vo,List.any_nil,aR,Vq];congr 2<;>exact decide_eq_decide.mpr ⟨Eq.symm,Eq.symm⟩
  simp only[ah,aG,oz,al,ai,ac,dC,dt,SE,eQ,jC,VO,if_true,av,aM,I,tW,H]
  by_cases c:v=a
  .rw[if_pos (by simp[c])]
   unfold sD;have L:[a,b].findIdx? (λy=>decide (y=v))=ap 0:=by simp[VM,c]
   simp only[aq,ai,am,bL,aa,af,dC,Hn,ac,dt,SE];refine⟨bo (by simp),λp F=>bJ F ?_⟩
   simp only[av,aM,I,iu,eK,L];refine⟨by simp,?_⟩
   simp only[Int.natCast_zero,atI_0,dt,ag,Td,aB];exact fin _ (by rw[w1,if_pos c])
  .by_cases A:v=b
   .rw[if_pos (by simp[A])]
    unfold sD;have L:[a,b].findIdx? (λy=>decide (y=v))=ap 1:=by
     have:¬a=v:=λz=>c z.symm;simp[VM,A,this,R]
    simp only[aq,ai,am,bL,aa,af,dC,Hn,ac,dt,SE];refine⟨bo (by simp),λp F=>bJ F ?_⟩
    simp only[av,aM,I,iu,eK,L];refine⟨by simp,?_⟩
    have J:atI [D.str "sound",.str "faulty"] ((1:Nat):Int)=ap (.str "faulty"):=rfl;simp only[J,ag,Td,aB];exact fin _ (by rw[w1,if_neg c,if_pos A])
   .rw[if_neg (by simp[c,A])]
    simp only[aB];exact fin _ (by rw[w1,if_neg c,if_neg A])
end
theorem Mq{Z2:List (List aF×D)}{k:List aF}{d:D}(h:k∉Z2.map (·.1))(c:(Z2.map (·.1)).Nodup):dL Z2 k d=Z2++[(k,d)]:=by
 have:=qM (Z2:=[(k,d)]) (by
  rw[V2];refine⟨c,by simp,λx e y f=>?_⟩
  have:y=k:=by simp_all
  subst this;exact λz=>h (by simp_all))
 assumption
theorem nJ{Bs:List Nat}:(D7 v Bs).map (·.1)=Bs.map jB:=by unfold D7;rw[Tb];rfl
theorem Qi{j:Nat}(h:j<=2 ^ n):((Te j).map jB).Nodup:=by
 rw[List.nodup_iff_pairwise_ne,List.pairwise_map];refine List.Pairwise.imp_of_mem (λ{x y} c e f z=>f ?_) WQ;have c:=TU.mp c;have e:=TU.mp e;exact sy (n:=n) (by lia) (by lia) z
section
variable{t:Sta}
theorem OW(f:C.mark s=.int a)(c:C.mark t=.int b):Ho C s t=.tup [.int a,.int b]:=by
 have g:∀{z:Sta}{v:Int},C.mark z=.int v->(C.run z).1=true/\nm (C.run z).2.nums C.mn=v:=λ{z v} e=>by
  unfold Cse.mark vP at e;lia
 unfold Ho
 simp_all
theorem uq{D':DEnds}{EE:DX}{ok:Mem->Prop}{L:BxF (ag 9) (j6 ad EE) D' ok}{l:cb}{i:Nat}(o:C.Ok)(y:SOk C s)(A:SOk C t)(F:(aE C s t).length<=10)(p:a≠b)(w:C.names[i]?=ap C.mn)(G:M l=bb)(r:∀N,ok N):∀(m j:Nat)(g c f:Option D),j+m=2 ^ (aE C s t).length->
  (∀g c f,D'.nx [ap (bj C s t),ap C.d,ap s.d,ap t.d,ap (.int (C.most:Nat)),ap (BF<|aE C s t),ap (.int (i:Nat)),ap (.tup [.int a,.int b]),ap (.ref l),g,c,f] (M.upd l<|.dT<|D7 (vB C s t a b)<|Te<|2 ^ (aE C s t).length))->
  o9 (ag 9) (j6 ad EE) D' ok L ((Va j m).map λB=>Dg (aw B)) [ap (bj C s t),ap C.d,ap s.d,ap t.d,ap (.int (C.most:Nat)),ap (BF<|aE C s t),ap (.int (i:Nat)),ap (.tup [.int a,.int b]),ap (.ref l),g,c,f] (M.upd l<|.dT<|D7 (vB C s t a b)<|Te j)
 |0,j,g,c,f,e,h=>⟨r _,by simp_all⟩
 |m+1,j,g,c,f,e,h=>by
  have O:2 ^ (aE C s t).length<=2 ^ 10:=TZ (by decide) F
  refine⟨r _,?_⟩;refine Es o y A (by lia) (by lia) p w G (by simp[D7];lia) (λc f=>?_) rfl
  have H:jB j∉(D7 (vB C s t a b)<|Te j).map (·.1):=by
   rw[nJ];intro z;obtain⟨B,u,I⟩:=SV.mp z;have u:=TU.mp u;have:=sy (n:=(aE C s t).length) (by lia) (by lia) I
   lia
  rw[Mq H (by rw[nJ];exact Qi (n:=(aE C s t).length) (by lia))]
  have J:D7 (vB C s t a b) (Te j)++[(jB j,.str (vB C s t a b j))]=D7 (vB C s t a b) (Te (j+1)):=by unfold D7;rw[List.range_succ,VA];rfl
  rw[J];exact uq o y A F p w G r m _ _ _ _ (by lia) h
theorem oG(o:C.Ok)(j:SOk C s)(m:SOk C t)(H:C.mark s=.int a)(G:C.mark t=.int b)(F:(aE C s t).length<=10)(g:a≠b)(h:∀p,M p=bb->Q (.ref p) (M.upd p<|.dT<|D7 (vB C s t a b)<|Te<|2 ^ (aE C s t).length)):JN ad [bj C s t] M Q E:=by
 have c:=@zw C;obtain⟨i,u,f⟩:=o7 o.mn;have l1:=o.l1;rw[u_q4];refine⟨rfl,?_⟩;refine⟨rfl,ao λQ' E' e _=>jD o j m λp y=>e _ _ (bJ y ?_)⟩;simp[ag];unfold wA;rw[c];simp[ah,aq,Hn,ai,aa,af,ac,dC,dt,SE,av,aM,atI_1,atI_4,hZ,dB,u];refine⟨by lia,?_⟩
 refine⟨rfl,ao λQ' E' e _=>dP o j m (e _ _<|kY ?_)⟩;rw[OW H G];intro l r;refine⟨rfl,aK (λ_ _ q=>rX (by simp_all) q) ?_⟩
 have A:(iT ((aE C s t).map kD).length).map Dg=(Va 0<|2 ^ (aE C s t).length).map λB=>Dg (aw B):=by rw[SH,k4,Tb,UY];rfl
 rw[A];have I:M.upd l (.dT [])=M.upd l _:=rfl;refine uq o j m F g f r (λ_=>aN) _ 0 _ _ _ (by lia) λJ z w=>?_
 exact ak (h l r)
end
noncomputable def Pk(v:Nat->Str)(n:Nat):D:=.fd ((Te<|2 ^ n).map jB) ((Te<|2 ^ n).map λB=>D.str (v B))
theorem IC{p:cb}(e:M p=bb)(h:Q (Pk v n) M):Dt (.ref p) (M.upd p<|.dT<|D7 v<|Te<|2 ^ n) Q:=by
 simp[Dt,au e];have c:(D7 v<|Te<|2 ^ n).map (·.2)=(Te<|2 ^ n).map λB=>D.str (v B):=by unfold D7;rw[Tb];rfl
 rw[nJ,c];exact h
noncomputable def JU(B:Nat):D:=.tup (jA<|aw B)
theorem HE:DY (jB B)=JU B:=by
 unfold DY jB JU jA;rw[Tb];rfl
theorem N6(m:B<2 ^ n):cq (((Te<|2 ^ n).map jB).zip ((Te<|2 ^ n).map λB=>D.str (v B))) (jB B)=ap (.str<|v B):=by
 have e:((Te<|2 ^ n).map jB).zip ((Te<|2 ^ n).map λB=>D.str (v B))=(Te<|2 ^ n).map λB=>(jB B,D.str (v B)):=by grind
 rw[e];unfold cq;have f:∀l:List _,(∀A∈l,A<2 ^ n)->B∈l->(l.map λB=>(jB B,D.str (v B))).find? (λh=>decide (h.1=jB B))=ap (jB B,.str (v B)):=by
  intro l
  induction l with
  |nil=>simp_all
  |cons A l ih=>
   intro g j;rw[SJ,UR]
   by_cases c:A=B
   .subst c;simp
   have:¬jB A=jB B:=λz=>c (sy (g A TF) m z);simp only[this];exact ih (λx o=>g x (by simp_all)) ((SQ.mp j).resolve_left<|by lia)
 rw[f _ (λA=>TU.mp) (by simp_all)]
 rfl
theorem Qm(c:B<2 ^ n)(h:K (.str<|v B) M):uB (Pk v n) (JU B) M K:=by
 unfold uB Pk JU;simp[Cr,ug,N6 c];exact h
def KO:Nat->D->Prop
 |_,.non=>True
 |_,.bl _=>True
 |_,.int _=>True
 |_,.str _=>True
 |n+1,.tup xs=>xs.length<=100000/\∀x∈xs,KO n x
 |n+1,.lst xs=>xs.length<=100000/\∀x∈xs,KO n x
 |_,_=>False
theorem fh:∀n:Nat,pQ (Tp n<|.bl true)=ap (Tp n true)
 |0=>rfl
 |n+1=>by rw[UJ,pQ,fh n];rfl
theorem ms:(Tp n true).all id=true:=by simp
theorem i1:bC "tuple" "bool"=false:=by rfl
theorem i2:bC "tuple" "int"=false:=by rfl
theorem i3:bC "tuple" "str"=false:=by rfl
theorem i4:bC "tuple" "tuple"=true:=by rfl
theorem i5:bC "tuple" "list"=false:=by rfl
theorem i6:bC "list" "bool"=false:=by rfl
theorem i7:bC "list" "int"=false:=by rfl
theorem i8:bC "list" "str"=false:=by rfl
theorem i9:bC "list" "tuple"=false:=by rfl
theorem i10:bC "list" "list"=true:=by rfl
theorem i11:bC "bool" "bool"=true:=by rfl
theorem i12:bC "int" "bool"=false:=by rfl
theorem i13:bC "int" "int"=true:=by rfl
theorem i14:bC "str" "bool"=false:=by rfl
theorem i15:bC "str" "int"=false:=by rfl
theorem i16:bC "str" "str"=true:=by rfl
theorem t1:lJ "bool"=true:=by rfl
theorem t2:lJ "int"=true:=by rfl
theorem t3:lJ "str"=true:=by rfl
theorem t4:lJ "tuple"=true:=by rfl
theorem t5:lJ "list"=true:=by rfl
theorem iR:∀xs:List D,xq xs xs=xs.map (λz=>D.tup [z,z])
 |[]=>rfl
 |x::xs=>by
  have:=iR xs;simp[xq]at this ⊢;simp[this]
theorem fu{ad:Ad}:∀(n:Nat)(x:D)(M:Mem)(Q:DK)(E:DX),KO n x->Q (.bl true) M->Yr ad (n+1) [x,x] M Q E
 |n,x,M,Q,E,g,h=>by
  cases x with
  |non=>simp![mM,gL];exact ak h
  |bl b=>simp![mM,gL,i11,t1,beq_self_eq_true];exact ak h
  |int i=>simp![mM,gL,i12,i13,t1,t2];exact ak h
  |str i=>simp![mM,gL,i14,i15,i16,t1,t2,t3];exact ak h
  |tup xs=>
   cases n with
   |zero=>exact g.elim
   |succ n=>
    obtain⟨H,g⟩:=g;simp![mM,gL,i1,i2,i3,i4,i5,t1,t2,t3,t4,t5,aO];rw[if_neg (by decide),if_neg (by decide),if_neg (by decide)]
    refine bN (λA e U M'=>∃(c:List D)(j:Nat)(m l:Option D),A=c.map (λz=>D.tup [z,z])/\(∀z∈c,KO n z)/\c.length+j<=100000/\e=Tp j (.bl true)/\U=[m,l]/\M'=M) (λ_ _ _ _ _=>aN) ?_ ?_ ?_ _ _ _ _ ⟨xs,0,bb,bb,iR xs,g,by omega,rfl,rfl,rfl⟩
    .rintro e U M' ⟨c,j,m,l,f,o,r,rfl,rfl,rfl⟩ p u
     simp![Mem.upd_del,au u,fh,ms];exact ak h
    .rintro y A e U M' ⟨c,j,m,l,f,o,r,rfl,rfl,rfl⟩ N G _
     cases c with
     |nil=>simp at f
     |cons z c=>
      simp only[SJ,Ue]at f;obtain⟨rfl,rfl⟩:=f;simp only[Tt]at r;simp![];refine aK (d:=.bl true) (λQ' E' q=>fu n z M' Q' E' (o z<|TF ..) q) ?_;simp![];exact G _ _ _ (by simp;exact fM (by omega)) ⟨c,j+1,_,_,rfl,λw F=>o w (Ta _ F),by omega,by rw[Wo],rfl,rfl⟩
    .rintro y A e U M' ⟨c,j,m,l,f,o,r,rfl,rfl,rfl⟩
     simp;exact fM (by omega)
  |lst xs=>
   cases n with
   |zero=>exact g.elim
   |succ n=>
    obtain⟨H,g⟩:=g;simp![mM,gL,i6,i7,i8,i9,i10,t1,t2,t3,t4,t5,aO];rw[if_neg (by decide),if_neg (by decide),if_neg (by decide)]
    refine bN (λA e U M'=>∃(c:List D)(j:Nat)(m l:Option D),A=c.map (λz=>D.tup [z,z])/\(∀z∈c,KO n z)/\c.length+j<=100000/\e=Tp j (.bl true)/\U=[m,l]/\M'=M) (λ_ _ _ _ _=>aN) ?_ ?_ ?_ _ _ _ _ ⟨xs,0,bb,bb,iR xs,g,by omega,rfl,rfl,rfl⟩
    .rintro e U M' ⟨c,j,m,l,f,o,r,rfl,rfl,rfl⟩ p u
     simp![Mem.upd_del,au u,fh,ms];exact ak h
    .rintro y A e U M' ⟨c,j,m,l,f,o,r,rfl,rfl,rfl⟩ N G _
     cases c with
     |nil=>simp at f
     |cons z c=>
      simp only[SJ,Ue]at f;obtain⟨rfl,rfl⟩:=f;simp only[Tt]at r;simp![];refine aK (d:=.bl true) (λQ' E' q=>fu n z M' Q' E' (o z<|TF ..) q) ?_;simp![];exact G _ _ _ (by simp;exact fM (by omega)) ⟨c,j+1,_,_,rfl,λw F=>o w (Ta _ F),by omega,by rw[Wo],rfl,rfl⟩
    .rintro y A e U M' ⟨c,j,m,l,f,o,r,rfl,rfl,rfl⟩
     simp;exact fM (by omega)
  |_=>cases n<;>exact g.elim
section
variable{N:Mem}{Q':List D->Mem->Prop}{tt:eW}{te:b6}{ok:Mem->Prop}{b:BxC (ag 0) tt te ok Q'}{rest:Dl}
theorem rN(p:Out->Bool)(f:Out->D)(e:ok N)(g:∀a x,N a=ap (yI ad x)->∀K:Bool->Mem->Prop,K (p x) N->tt (ap (.ref a)::rest) N K)(j:∀a x,N a=ap (yI ad x)->∀K:DK,K (f x) N->te (ap (.ref a)::rest) N K):
  ∀{as:aaa}{xs:List Out},Lay ad N as xs->∀(Z3:List D)(c:Option D),Z3.length+xs.length<=100000->Q' (Z3++(xs.filter p).map f) N->cZ (ag 0) tt te ok Q' b (as.map D.ref) Z3 (c::rest) N
 |_,_,.nil,Z3,c,hl,h=>⟨e,by simpa using h⟩
 |_,_,.cons (a:=a) (x:=x) (as:=as) (xs:=xs) hx t,Z3,c,hl,h=>by
  simp only[Tt]at hl;rw[SJ];refine⟨e,?_⟩;simp only[ag,Td];refine g a x hx _ ?_;cases l:p x with
  |true=>
   rw[if_pos rfl];refine j a x hx _ ⟨fM (by lia),rN p f e g j t _ _ (by simp;lia) ?_⟩
   rw[Ti,if_pos l]at h;simpa using h
  |false=>
   rw[if_neg (by simp)]
   refine rN p f e g j t _ _ (by lia) ?_
   rw[Ti,if_neg (by simp[l])]at h
   exact h
theorem RY{a:cb}(h:N a=ap (yI ad x))(q:K (.str x.v) N):aW ad.C_Outcome (ac 0) "verdict" (ap (.ref a)::rest) N K:=by
 have c:TR ("verdict":Str) [(("verdict":Str),D.str x.v),(("sound":Str),D.int (x.s:Nat)),(("faulty":Str),D.int (x.f:Nat))]=ap (.str x.v):=rfl;unfold yI at h;simp only[aW,ac,dt,h,c];exact⟨trivial,q⟩
theorem So{a:cb}{U:Dl}(e:U[i]?=ap (ap<|.ref a))(h:N a=ap (yI ad x))(q:K (.int (x.f:Nat)) N):aW ad.C_Outcome (ac i) "faulty" U N K:=by
 have c:TR ("faulty":Str) [(("verdict":Str),D.str x.v),(("sound":Str),D.int (x.s:Nat)),(("faulty":Str),D.int (x.f:Nat))]=ap (.int (x.f:Nat)):=rfl;unfold yI at h;simp only[aW,ac,e,h,c];exact⟨trivial,q⟩
theorem is_v{a:cb}{w:Str}{K:Bool->Mem->Prop}(h:N a=ap (yI ad x))(q:K (decide (x.v=w)) N):al (ai bM (aW ad.C_Outcome (ac 0) "verdict")<|dC<|.str w) (ap (.ref a)::rest) N K:=by
 unfold al ai;refine RY h ?_;simp only[dC,bM,dv,bT,aR];exact⟨trivial,trivial,q⟩
end
end _T
namespace _T
open PySem _2 _3 _S
variable{ad:Ad}{C:Cse}{Q:DK}{E:DX}{M:Mem}{B:Nat}{s:Sta}
noncomputable def nI(B:Nat):List Int:=(aw B).map λ(i:Nat)=>(i:Int)
theorem Ja:(nI B).map D.int=jA (aw B):=by unfold nI jA;rw[Tb];rfl
theorem m8:(nI B).length=(aw B).length:=by simp[nI]
noncomputable def cY(C:Cse)(s t:Sta)(a b:Int):List Out:=(jW C s t a b).filter λx=>decide (x.v=("faulty":Str))
section
variable{t:Sta}{a b:Int}
theorem me{L:Nat}(o:C.Ok)(S:SOk C s)(T:SOk C t)(X:C.mark s=.int a)(g:C.mark t=.int b)(u:a≠b)(W:(aE C s t).length<24)(U:1+(C.tree s t).asks<=L)(R:L<=10000)(h:∀p,M p=bb->Q (.ref p) (M.upd p<|.lst ((cY C s t a b).map λx=>D.int (x.f:Nat)))):AG ad [bj C s t,.int (L:Nat)] M Q E:=by
 rw[Qv];unfold Ar;simp only[az,aO,bQ,am,aj,aa,af,ac,dt,SE];refine⟨rfl,ao λQ' E' G _=>oM o S T X g u W U R λp I N O w n H=>G _ _ ?_⟩;have m:Lay ad (N.del p) I (jW C s t a b):=H.go λc y e=>by unfold Mem.del;rw[if_neg (λz=>by rw[z,w]at e;cases e)];exact e
 have ex1:Ext M (N.del p):=O.del n;have P:(jW C s t a b).length<=10000:=by unfold jW;rw[iG];lia
 simp only[frz,w,aM,bq,br,SJ,TJ,Tj,Tg];generalize N.del p=N1 at *;refine rN (λx=>decide (x.v=("faulty":Str))) (λx=>.int (x.f:Nat)) aN (λa x j K q=>is_v j q) (λa x j K q=>So (i:=0) rfl j q) m [] _ (by simp;lia) ?_
 intro l r;refine⟨M.upd l (.lst ((cY C s t a b).map λx=>D.int (x.f:Nat))),λF J g=>?_,h l<|ex1.no r⟩
 by_cases A:F=l
 .subst A;rw[Mem.upd_same]at g ⊢;exact g
 .rw[ae A]at g ⊢
  exact ex1 F J g
noncomputable def vh(us:List aF)(B:Nat):List D:=(aw B).map λi=>kD ((us[i]?).getD<|.inl 0)
theorem vK{L:Nat}(o:C.Ok)(hs:SOk C s)(ht:SOk C t)(ea:C.mark s=.int a)(eb:C.mark t=.int b)(X:a≠b)(hu:(aE C s t).length<=5)(hL0:64<=L)(hL:L<=10000)(Y:cY C s t a b≠[])(h:∀x0∈cY C s t a b,(∀x∈cY C s t a b,(aw x0.f).length<=(aw x.f).length)->(∀x∈cY C s t a b,(aw x.f).length=(aw x0.f).length->fF (nI x.f) (nI x0.f)=cp)->∀p,M p=bb->Q (.ref p) (M.upd p<|.lst<|vh (aE C s t) x0.f)):
  p_ ad [bj C s t,.int (L:Nat)] M Q E:=by
 have N:2 ^ (aE C s t).length<=32:=(TZ (by decide) hu:2 ^ (aE C s t).length<=2 ^ 5)
 have J:=pz (C:=C) (s:=s) (t:=t);have hlo:(cY C s t a b).length<=32:=SX (TK _ _) (SX Fm N);have n:∀x∈cY C s t a b,OutOk (aE C s t).length x:=λx c=>sZ (SS.mp c).1;rw[Qk];unfold zq;generalize R:k9 ad (aJ E)=K2;simp only[ah,aq,am,bg,aO,bQ,aj,aa,af,ac,dt,SE];refine⟨rfl,ao λQ' E' F _=>me o hs ht ea eb X (by lia) (by lia) hL λp I=>F _ _ (bJ I ?_)⟩
 simp only[aM,bq,br,SJ,TJ,Tj,Tg];refine cc (λd=>match d with|.int i=>.lst ((nI i.toNat).map D.int)|_=>.non) aN (by simp;lia) (λx c K q=>?_) ?_
 .obtain⟨y,hy,rfl⟩:=SV.mp c
  have oy:=n y hy;refine⟨rfl,ao λQ' E' F _=>nG (Tc oy.f<|TZ (by decide)<|by lia) λp I=>F _ _ (bJ I ?_)⟩
  simp only[TC]at q;rw[Ja]at q;exact q
 intro p1 O;refine bJ O ?_;have e1:((cY C s t a b).map λx=>D.int (x.f:Nat)).map (λd=>match d with|.int i=>.lst ((nI i.toNat).map D.int)|_=>.non)=((cY C s t a b).map λx=>nI x.f).map λk=>D.lst (k.map D.int):=by
  rw[Tb,Tb];exact Tz λx _=>by simp
 rw[e1];generalize u:(cY C s t a b).map (λx=>nI x.f)=ks;have kl:ks.length=(cY C s t a b).length:=by rw[<- u,SH]
 refine jV (ks:=ks) rfl (by lia) λp2 S=>bJ S ?_
 have P:=sE oTup ks;have v:=mJ oTup ks;have sl:(Hl oTup ks).length=ks.length:=v.length_eq;generalize hss:Hl oTup ks=ss at *;simp only[ag,Td];rw[<- R];unfold k9;generalize W:ke ad (aJ E)=K1;simp only[ah,aq,am,aj,aa,af,ac,dt,SE];refine⟨rfl,ao λQ' E' F _=>eE o hs ht λp4 T=>F _ _ (bJ T ?_)⟩;simp only[ag,Td];rw[<- W];unfold ke;simp only[az,aO,bQ,bg,aa,af,ac,dt,SE,kT,cN,d_];have n0:0<ks.length:=by rw[kl];exact Wt.mpr Y
 have A:∀k∈ss,∃x∈cY C s t a b,nI x.f=k:=λk H=>by
  have:=v.mem_iff.mp H;rw[<- u]at this;exact SV.mp this
 have Z:∀x∈cY C s t a b,(aw x.f).length<=5:=λx c=>SX (fP (n x c).f) hu;refine⟨⟨λz=>by rw[z]at sl;simp at sl;lia,λk H=>?_⟩,λi w h1 h2=>?_⟩
 .obtain⟨x,c,rfl⟩:=A k H
  have:=Z x c;rw[m8];lia
 have gi:∀j,j<ss.length->ss.getD j []=ss[j]!:=λj g=>by simp[g]
 obtain⟨x0,m,l⟩:=A (ss.getD i []) (by rw[Tf,SG w];exact UK w)
 have G:∀x∈cY C s t a b,∃j,∃g:j<ss.length,ss.getD j []=nI x.f:=λx c=>by
  have:nI x.f∈ss:=v.mem_iff.mpr (by rw[<- u];exact SV.mpr ⟨x,c,rfl⟩)
  obtain⟨j,g,r⟩:=Vt.mp this;exact⟨j,g,by rw[Tf,SG g];exact r⟩
 have eg:(ss.map λk=>D.lst (k.map D.int)).getD i .non=.lst ((nI x0.f).map D.int):=by
  rw[Tf,SN,SG w];show D.lst _=_;rw[l,Tf,SG w];rfl
 rw[eg,Ja];simp only[aM,bq,br,SJ,TJ,Tj,Tg,T8,dt,SE];refine cc (λd=>match d with|.int i=>kD (((aE C s t)[i.toNat]?).getD<|.inl 0)|_=>.non) aN (by simp[jA];have:=Z x0 m;lia) (λx c K q=>?_) ?_
 .obtain⟨j,g,rfl⟩:=SV.mp c
  have g:=((cP (n x0 m).f).mp g).1;have e:atI ((aE C s t).map kD) ((j:Nat):Int)=ap (kD<|((aE C s t)[j]?).getD<|.inl 0):=by
   rw[bf (by lia),TC,SN,SG g];rfl
  simp only[ai,ac,dt,SE,av,aM,e];simpa using q
 intro p7 U;have ef:(jA<|aw x0.f).map (λd=>match d with|.int i=>kD (((aE C s t)[i.toNat]?).getD<|.inl 0)|_=>.non)=vh (aE C s t) x0.f:=by
  unfold jA vh;rw[Tb];exact Tz λi _=>by simp
 rw[ef];refine ak (h x0 m (λx c=>?_) (λx c el=>?_) p7 U)
 .obtain⟨j,g,r⟩:=G x c
  have:=h1 j g;rw[<- l,r,m8,m8]at this;exact this
 .obtain⟨j,g,r⟩:=G x c
  rcases Nat.lt_trichotomy j i with z|z|z
  .have:=h2 j z
   rw[<- l,r,m8,m8]at this;lia
  .subst z
   rw[r]at l;rw[l];cases e:fF (nI x.f) (nI x.f) with
   |false=>rfl
   |true=>rw[<- e];exact oTup.asym _ _ e
  .have:=U3.mp P i j w g z
   have e3:ss[i]=nI x0.f:=by rw[l,Tf,SG w];rfl
   have e4:ss[j]=nI x.f:=by rw[<- r,Tf,SG g];rfl
   rw[e3,e4]at this;exact this
end
mutual
theorem S7:∀(r:Rw)(n:Nat),2*hR r+1<=n->bT n r.d=true
 |.put _ _,n+1,_=>by simp[Rw.d,bT,fits]
 |.take _ _,n+1,_=>by simp[Rw.d,bT,fits]
 |.pick _ _,n+1,_=>by simp[Rw.d,bT,fits]
 |.two _ _ _ _,n+1,_=>by simp[Rw.d,bT,fits]
 |.ifr _ a b,n+2,h=>by
  simp only[hR]at h;have c:=mQ a n (by lia)
  have e:=mQ b n (by lia)
  simp[Rw.d,bT,fits,c,e]
 |.again _ a,n+2,h=>by
  simp only[hR]at h;have c:=mQ a n (by lia)
  simp[Rw.d,bT,fits,c]
 |.ifr _ _ _,0,h=>by lia
 |.ifr _ _ _,1,h=>by simp only[hR]at h;lia
 |.again _ _,0,h=>by lia
 |.again _ _,1,h=>by simp only[hR]at h;lia
theorem mQ:∀(rs:List Rw)(n:Nat),2*cU rs+1<=n->fits n (aC rs)=true
 |[],n,_=>by simp[aC,fits]
 |r::rs,n,h=>by
  simp only[cU]at h;simp[aC,fits,S7 r n (by lia),mQ rs n (by lia)]
end
theorem vM:∀(n:Nat)(xs:Z_),fits n (xs.map D.str)=true
 |n,[]=>by simp[fits]
 |n,x::xs=>by
  rw[SJ];unfold fits;rw[vM n xs];rfl
section
variable{t:Sta}{few:Nat}
theorem Fc{p:cb}{xs:List D}{n:Nat}(A:M p=ap (.lst xs))(v:xs.length<=100000/\∀x∈xs,KO n x)(h:Q (.bl true) M):Yr ad (n+2) [.ref p,.lst xs] M Q E:=by
 obtain⟨H,v⟩:=v;simp![mM,gL,i6,i7,i8,i9,i10,t1,t2,t3,t4,t5,A,↓aO];rw[if_neg (by decide),if_neg (by decide),if_neg (by decide)]
 refine bN (λo b U M'=>∃(a:List D)(j:Nat)(g f:Option D),o=a.map (λz=>D.tup [z,z])/\(∀z∈a,KO n z)/\a.length+j<=100000/\b=Tp j (.bl true)/\U=[g,f]/\M'=M) (λ_ _ _ _ ⟨_,_,_,_,_,_,_,_,_,e⟩=>by subst e;intro r u;simp only[bq,TX,Tj,Tg,SQ,Wb,or_false]at u;first|(subst u;exact A)|(rcases u with rfl|rfl<;>assumption)) ?_ ?_ ?_ _ _ _ _ ⟨xs,0,bb,bb,iR xs,v,by lia,rfl,rfl,rfl⟩
 .rintro b U M' ⟨a,j,g,f,c,i,l,rfl,rfl,rfl⟩ p m
  simp![Mem.upd_del,au m,fh,ms];exact ak h
 .rintro y o b U M' ⟨a,j,g,f,c,i,l,rfl,rfl,rfl⟩ N G _
  cases a with
  |nil=>simp at c
  |cons z a=>
   simp only[SJ,Ue]at c;obtain⟨rfl,rfl⟩:=c;simp only[Tt]at l;simp![];refine aK (d:=.bl true) (λQ' E' q=>fu n z M' Q' E' (i z<|TF ..) q) ?_;simp![];exact G _ _ _ (by simp;exact fM (by lia)) ⟨a,j+1,_,_,rfl,λw F=>i w (Ta _ F),by lia,by rw[Wo],rfl,rfl⟩
 .rintro y o b U M' ⟨a,j,g,f,c,i,l,rfl,rfl,rfl⟩
  simp;exact fM (by lia)
theorem lX:∀{l:List D},(∀x∈l,qI x)->jt l
 |[],_=>trivial
 |x::l,h=>⟨by simp_all,lX<|by simp_all⟩
theorem xi{k:Nat}:∀{l:List D},(∀x∈l,sz x<=k)->pU l<=l.length*(k+2)
 |[],_=>by simp[pU]
 |x::l,h=>by
  have c:=h x (by simp_all)
  have b:=xi λy a=>h y (Ta _ a);simp[pU,Nat.succ_mul];lia
theorem gx{l:Z9}{m:Int}(c:m<=997)(h:∀v∈l,0<=v/\v<m):jt (l.map D.int):=lX λx b=>by
 obtain⟨v,a,rfl⟩:=SV.mp b;have:=h v a;exact mT this.1 (by lia)
theorem kA{l:Z9}:pU (l.map D.int)<=l.length*2002:=by
 simpa using (xi (l  := l.map _) λx a=>by
  obtain⟨v,b,rfl⟩  := SV.mp a;simp only[sz];lia)
theorem G4(c:CaOk C s t few)(one:∀x∈C.names,vd x):bT 60 (bj C s t)=true/\(fI<|bj C s t).showable=true/\(fI<|bj C s t).shown.length<=sizeLine:=by
 have o:=c.o;have hs:=c.hs;have ht:=c.ht;have n:=o.most;have m1:=o.m1;have m2:=o.m2;have p:=c.h1;have cn:=c.cn;have H:=o.l1;have i:jt _:=lX λx a=>by obtain⟨v,b,rfl⟩:=SV.mp a;exact aY (one v b)
 have f:=iA one m1 (by lia) _ o.ok
 have A:pU (C.names.map D.str)<=C.names.length*2002:=by
  simpa using (xi (k  := 2000) (l  := C.names.map D.str) λx a=>by
   obtain⟨v,b,rfl⟩  := SV.mp a;simp only[sz];lia)
 have m:=uC C.rows;have y:=kA (l:=s.nums);have w:=kA (l:=s.pieces);have F:=kA (l:=t.nums);have r:=kA (l:=t.pieces);have l1:=hs.ln;have u:=hs.lp;have q:=ht.ln;have G:=ht.lp;have e:∀z:Sta,z.d=.tup _:=λ_=>rfl;have g:qI (bj C s t):=⟨⟨mT (by lia) (by lia),i,mT (by lia) (by lia),f,aY (one _ o.mn),trivial⟩,⟨gx m1 hs.rn,gx m1 hs.rp,trivial⟩,⟨gx m1 ht.rn,gx m1 ht.rp,trivial⟩,by show (C.most:Int).natAbs<10 ^ 6;lia,trivial⟩
 have z:sz (bj C s t)<=2000000:=by
  rw[NU,zw,e s,e t];simp[sz,pU];lia
 refine⟨?_,yR _ g,SX (SX (oS _ g) z)<|by decide⟩
 have h1:=mQ C.rows 57 (by have:=o.h;lia)
 have j:=λl=>iZ 57 l;rw[NU,zw,e,e];simp[bT,fits,h1,(vM 57 C.names),j]
end
section
variable{v:Nat->Str}{n:Nat}{t:Sta}{a b:Int}
noncomputable def su(v:Nat->Str)(n:Nat):List Nat:=(Te<|2 ^ n).filter λB=>decide (v B=("faulty":Str))
theorem cau_in:B∈su v n↔B<2 ^ n/\v B=("faulty":Str):=by unfold su;rw[SS,TU,decide_eq_true_eq]
theorem N3(c:n<=5):2 ^ n<=32:=(TZ (by decide) c)
theorem Jz{l:List Nat}:(l.map jB).map DY=l.map JU:=by rw[Tb];exact Tz λB _=>HE
theorem Km{i:Nat}{U:Dl}{R:DIt->Mem->Prop}(c:U[i]?=ap (ap<|Pk v n))(h:R ⟨((Te<|2 ^ n).map jB).map DY,[]⟩ M):B6 (ac i) U M R:=by
 simp[B6,ac,c];exact h
theorem Qn{K:Bool->Mem->Prop}(c:B<2 ^ n)(q:K (decide (v B=("faulty":Str))) M):al (ai bM (ai uB (ac 1)<|ac 0)<|dC<|.str "faulty") [ap (JU B),ap (Pk v n)] M K:=by
 simp only[al,ai,ac,dC,dt,SE];refine Qm c ?_;simp only[bM,dv,bT,aR];exact⟨trivial,trivial,q⟩
theorem mH{te:b6}{ok:Mem->Prop}{Q':List D->Mem->Prop}{l:BxC (ag 0) (al<|ai bM (ai uB (ac 1)<|ac 0)<|dC<|.str "faulty") te ok Q'}(e:ok M)(g:∀B,B<2 ^ n->∀K:DK,K (.lst<|jA<|aw B) M->te [ap (JU B),ap (Pk v n)] M K):∀(Bs:List Nat)(Z3:List D)(c:Option D),(∀B∈Bs,B<2 ^ n)->Z3.length+Bs.length<=100000->Q' (Z3++((Bs.filter λB=>decide (v B=("faulty":Str))).map λB=>D.lst (jA<|aw B))) M->
  cZ (ag 0) (al<|ai bM (ai uB (ac 1)<|ac 0)<|dC<|.str "faulty") te ok Q' l (Bs.map JU) Z3 [c,ap (Pk v n)] M
 |[],Z3,c,_,hl,h=>⟨e,by simpa using h⟩
 |B::Bs,Z3,c,hB,hl,h=>by
  simp only[Tt]at hl;have j:=hB B TF;rw[SJ];refine⟨e,?_⟩;simp only[ag,Td];refine Qn j ?_;cases i:decide (v B=("faulty":Str)) with
  |true=>
   rw[if_pos rfl];refine g B j _ ⟨fM (by lia),mH e g Bs _ _ (λA f=>hB A (Ta _ f)) (by simp;lia) ?_⟩
   rw[Ti,if_pos i]at h;simpa using h
  |false=>
   rw[if_neg (by simp)]
   refine mH e g Bs _ _ (λA f=>hB A (Ta _ f)) (by lia) ?_
   rw[Ti,if_neg (by simp[i])]at h
   exact h
theorem Cu(o:C.Ok)(F:SOk C s)(A:SOk C t)(r:B<2 ^ (aE C s t).length)(I:(aE C s t).length<=5)(h:∀p,M p=bb->Q (.ref p) (M.upd p<|.lst [.lst (vh (aE C s t) B)])):Ah ad [bj C s t,.lst [.lst (jA<|aw B)]] M Q E:=by
 have G:=fP r;rw[RQ];unfold zI;generalize m:lq ad (aJ E)=K1;simp only[ah,aq,am,aj,aa,af,ac,dt];refine⟨rfl,ao λQ' E' u _=>jD o F A λp w=>u _ _ (bJ w ?_)⟩;simp only[ag,Td];rw[<- m];unfold lq;simp only[az,aO,bQ,ac,dt,SE,aM,bq,br,SJ,TJ,Tj,Tg,T8];refine cc (λ_=>.lst (vh (aE C s t) B)) aN (by simp) (λx f K q=>?_) ?_
 .have:x=.lst (jA<|aw B):=by simpa using f
  subst this;simp only[am,aO,bQ,ac,dt,SE,aM,bq,br,SJ,TJ,Tj,Tg,T8];refine cc (λd=>match d with|.int i=>kD (((aE C s t)[i.toNat]?).getD<|.inl 0)|_=>.non) aN (by simp[jA];lia) (λx f K q=>?_) ?_
  .obtain⟨j,c,rfl⟩:=SV.mp f
   have c:=((cP r).mp c).1;have e:atI ((aE C s t).map kD) ((j:Nat):Int)=ap (kD<|((aE C s t)[j]?).getD<|.inl 0):=by
    rw[bf (by lia),TC,SN,SG c];rfl
   simp only[ai,ac,dt,SE,av,aM,e];simpa using q
  intro H l;refine bJ l ?_;have z:(jA<|aw B).map (λd=>match d with|.int i=>kD (((aE C s t)[i.toNat]?).getD<|.inl 0)|_=>.non)=vh (aE C s t) B:=by
   unfold jA vh;rw[Tb];exact Tz λi _=>by simp
  rw[z];exact q
 intro y g;exact ak (h y g)
theorem Jf{p q:Nat->Bool}{l:List Nat}(h:∀i,p i=true->q i=true)(e:(l.filter q).length<=(l.filter p).length):l.filter p=l.filter q:=by
 have:l.filter p=(l.filter q).filter p:=by
  rw[List.filter_filter];exact UG λi _=>by cases c:p i<;>simp[c,h i]
 rw[this]at e ⊢;exact(List.filter_sublist (l:=l.filter q) (p:=p)).eq_of_length_le e
theorem FH{B0:Nat}{c:Out}(m:c∈cY C s t a b)(K:∀x∈cY C s t a b,(aw c.f).length<=(aw x.f).length)(L:∀x∈cY C s t a b,(aw x.f).length=(aw c.f).length->fF (nI x.f) (nI c.f)=cp)
  (J:B0∈su (vB C s t a b) (aE C s t).length) (o:∀B∈su (vB C s t a b) (aE C s t).length,(aw B0).length<=(aw B).length) (w:∀B∈su (vB C s t a b) (aE C s t).length,(aw B).length=(aw B0).length->fF (nI B) (nI B0)=cp):aw c.f=aw B0:=by
 have own:∀x∈cY C s t a b,x.f∈su (vB C s t a b) (aE C s t).length:=λx p=>by
  obtain⟨h,q⟩:=SS.mp p;exact cau_in.mpr ⟨(sZ h).f,by rw[NM h];exact of_decide_eq_true q⟩
 obtain⟨A,z⟩:=cau_in.mp J;obtain⟨x,p,G,H⟩:=F0 (C:=C) (s:=s) (t:=t) (a:=a) (b:=b) (B:=B0);have e:x∈cY C s t a b:=SS.mpr ⟨p,decide_eq_true<|by rw[H,z]⟩
 have u:aw x.f=aw B0:=by
  have h:=o _ (own x e);rw[cm A,cm (sZ p).f]at h ⊢;exact Jf G.f h
 have q:=K x e;have N:=o _ (own c m);have y:=L x e (by rw[u]at q ⊢;lia)
 have F:=w _ (own c m) (by rw[u]at q;lia)
 have I:nI x.f=nI B0:=by unfold nI;rw[u]
 rw[I]at y;have:=oTup.anti _ _ y F;have r:(nI B0).map Vp=(nI c.f).map Vp:=by rw[this]
 unfold nI at r;rw[Tb,Tb]at r;have j:∀l:List Nat,l.map (Vp ∘ λ(i:Nat)=>(i:Int))=l:=λl=>by rw[Tz (g:=id) λi _=>by simp,Uo]
 rw[j,j]at r;exact r.symm
theorem Dp(o:C.Ok)(j:SOk C s)(g:SOk C t)(m:C.mark t=.int b)(f:a≠b)(l:(aE C s t).length<24):2 ^ (aE C s t).length-1∈su (vB C s t a b) (aE C s t).length:=by
 have i:=Xb (aE C s t).length;have e:vB C s t a b (2 ^ (aE C s t).length-1)=gH a b (.int b):=by
  refine (congrArg (gH a b) (mq (p:=λq=>(2 ^ (aE C s t).length-1).testBit ((aE C s t).idxOf q)) o j g g l λq h=>?_)).trans (by rw[m])
  by_cases c:q∈aE C s t
  .rw[if_pos (by rw[Nat.testBit_two_pow_sub_one];exact decide_eq_true (UT c))]
  .have:aH C s q=aH C t q:=VE λz=>c (SS.mpr ⟨h,decide_eq_true z⟩)
   split
   .rfl
   .exact this.symm
 refine cau_in.mpr ⟨by lia,e.trans ?_⟩
 unfold gH;have:¬b=a:=λz=>f z.symm;rw[if_neg (by simp[aR,this]),if_pos (by simp[aR])]
theorem NI{us:List aF}(h:(aw B).length<=100000):(vh us B).length<=100000/\∀x∈vh us B,KO 22 x:=by
 unfold vh;refine⟨by rw[SH];exact h,λx c=>?_⟩
 obtain⟨i,_,rfl⟩:=SV.mp c;cases (us[i]?).getD (.inl 0)<;>trivial
end
theorem CC(ad:Ad)(ns:Z9)(hl:ns.length<=63):Ev ad [.ml (ns.map D.int)] (λ_=>bb) (λd _=>d=.bl true) kC:=by
 have fi':∀{v:Int}{M:Mem}{Q:DK},Q (.int v) M->frz (.int v) M Q:=λz=>z;have fb':∀{v:Bool}{M:Mem}{Q:DK},Q (.bl v) M->frz (.bl v) M Q:=λz=>z;rw[Sc];unfold Bj;generalize X:iS ad (aJ kC)=K10;simp only[ah,aq,aj,aa,af,ac,dt];refine⟨rfl,ao λQ' E' w _=>FX λk M1 hk _=>w _ _ ?_⟩;simp only[ag,Td];rw[<- X];unfold iS;generalize hK9:k_ ad (aJ kC)=K9;simp only[ah,aq,am,aj,aa,af,ai,ac,dC,dt,SE];refine⟨rfl,aP hk (by decide) (by decide) λr M2 a2 b2 d2=>fi' ?_⟩
 simp only[bc];obtain⟨y,hfew,f1,f5⟩:∃y:Nat,1+r=(y:Int)/\1<=y/\y<=5:=⟨(1+r).toNat,by lia,by lia,by lia⟩
 rw[hfew];refine⟨rfl,ao λQ' E' w _=>Cj f1 f5 d2.1 λC s t M3 c q3=>w _ _ (Fp ?_)⟩;obtain⟨a,b,ea,eb,R⟩:=c.two;have hu:=c.un;have hn:(aE C s t).length<=5:=by lia
 have hp5:=N3 hn;obtain⟨x1,x2,x3⟩:=G4 c c.one;simp only[ag,Td];rw[<- hK9];unfold k_;generalize hK8:kG ad (aJ kC)=K8;simp only[ah,aq,bg,iX,aa,af,ac,dt,SE];refine⟨x1,x2,x3,?_⟩;simp only[ag,Td];rw[<- hK8];unfold kG;generalize hK7:kg ad (aJ kC)=K7;simp only[ah,aq,Ds,aj,aa,af,ac,dt,SE];refine⟨rfl,ao λQ' E' w _=>oG c.o c.hs c.ht ea eb (by lia) R λp H=>w _ _ (IC H ?_)⟩
 have u:=Dp (a:=a) c.o c.hs c.ht eb R (by lia)
 have Y:=@FH C s t a b;have okB:∀B∈su (vB C s t a b) (aE C s t).length,B<2 ^ (aE C s t).length:=λB g=>(cau_in.mp g).1;have F:=λ(L:Nat)(M:Mem)(Q:DK)(E:DX)=>vK (L:=L) (ad:=ad) (M:=M) (Q:=Q) (E:=E) c.o c.hs c.ht ea eb R hn;have ne:cY C s t a b≠[]:=λz=>by
  obtain⟨x,T,_,vx⟩:=F0 (C:=C) (s:=s) (t:=t) (a:=a) (b:=b) (B:=2 ^ (aE C s t).length-1);have:x∈cY C s t a b:=SS.mpr ⟨T,decide_eq_true<|by rw[vx,(cau_in.mp u).2]⟩
  rw[z]at this;cases this
 generalize hv:vB C s t a b=v at *;generalize U:su v (aE C s t).length=cl at *;have cll:cl.length<=32:=by rw[<- U];exact SX (SX (TK _ _)<|by simp) hp5
 simp only[ag,Td];rw[<- hK7];unfold kg;generalize hK6:j_ ad (aJ kC)=K6;simp only[ah,bU,cV];unfold aO;refine Km (v:=v) (n:=(aE C s t).length) rfl ?_;rw[Jz];refine mH (v:=v) (n:=(aE C s t).length) aN (λB g K q=>?_) _ [] _ (λB g=>TU.mp g) (by simp;lia) ?_
 .simp only[am,bg,dW,aa,af,ac,dt,JU,aM]
  exact λp H=>bJ H q
 intro p1 hp1;rw[Tg];have ecl:(Te<|2 ^ (aE C s t).length).filter (λB=>decide (v B=("faulty":Str)))=cl:=U;rw[ecl];simp only[de,Td,dt,SE,Mem.upd_same,Mem.upd_del,au hp1];have e1:(cl.map λB=>D.lst (jA<|aw B))=(cl.map nI).map λk=>D.lst (k.map D.int):=by
  rw[Tb];exact Tz λB _=>by show _=D.lst ((nI B).map D.int);rw[Ja]
 rw[e1];rw[<- hK6];unfold j_;generalize hK5:lg ad (aJ kC)=K5;simp only[ah,aq,bg,aa,af,am];unfold aO;simp only[bQ,ac,dt,SE,aM,bq,br,SJ,TJ,Tj,Tg];refine cc (λd=>match d with|.lst xs=>.int (xs.length:Nat)|_=>.non) aN (by simp;lia) (λx T K q=>?_) ?_
 .obtain⟨k,hk,rfl⟩:=SV.mp T
  simp only[bg,bV,aa,af,ac,dt,aM];exact q
 intro p2 S;refine bJ S ?_;have e2:((cl.map nI).map λk=>D.lst (k.map D.int)).map (λd=>match d with|.lst xs=>D.int (xs.length:Nat)|_=>.non)=(cl.map λB=>(((aw B).length:Nat):Int)).map D.int:=by
  rw[Tb,Tb,Tb];exact Tz λB _=>by simp[nI]
 rw[e2];simp only[Be,cN,ia];refine⟨λz=>(by rw[X8.mp z]at u;cases u),λm hm hmin=>?_⟩
 obtain⟨B1,hB1,rfl⟩:=SV.mp hm;have I:∀B∈cl,(aw B1).length<=(aw B).length:=λB g=>by
  have:=hmin _ (SV.mpr ⟨B,g,rfl⟩);lia
 simp only[ag,Td];rw[<- hK5];unfold lg;generalize hK4:ly ad (aJ kC)=K4;simp only[ah,aq,ai,am,aj,bg,bL,aa,af,dC];unfold aO;simp only[bQ,ac,dt,SE,aM,bq,br,SJ,TJ,Tj,Tg];refine cM (λd=>match d with|.lst xs=>decide (xs.length=(aw B1).length)|_=>cp) id aN (by simp;lia) (λx T K q=>?_) (λx T _ K q=>q) ?_
 .obtain⟨k,hk,rfl⟩:=SV.mp T
  simp only[al,ai,bg,bV,aa,af,ac,dt,SE,aM,bM];refine⟨rfl,rfl,?_⟩;show K (decide ((((k.map D.int).length:Nat):Int)=(((aw B1).length:Nat):Int))) M3;have:decide ((((k.map D.int).length:Nat):Int)=(((aw B1).length:Nat):Int))=decide ((k.map D.int).length=(aw B1).length):=decide_eq_decide.mpr Int.ofNat_inj;rw[this];exact q
 intro p3 hp3;refine bJ hp3 ?_;have e3:(((cl.map nI).map λk=>D.lst (k.map D.int)).filter λd=>match d with|.lst xs=>decide (xs.length=(aw B1).length)|_=>cp).map id=((cl.filter λB=>decide ((aw B).length=(aw B1).length)).map nI).map λk=>D.lst (k.map D.int):=by
  rw[Uo,Tb,T2,Tb];congr 1;exact UG λB _=>by simp[nI]
 rw[e3];generalize O:(cl.filter λB=>decide ((aw B).length=(aw B1).length))=fl;have m1:B1∈fl:=by rw[<- O];exact SS.mpr ⟨hB1,decide_eq_true rfl⟩
 simp only[qH,cN,d_];refine⟨λz=>(by rw[X8.mp z]at m1;cases m1),λi hi J=>?_⟩
 have N:i<fl.length:=by simpa using hi
 have gi:∀j,∀Z:j<fl.length,(fl.map nI).getD j []=nI fl[j]:=λj Z=>by
  rw[Tf,SN,SG Z];rfl
 have gd:((fl.map nI).map λk=>D.lst (k.map D.int)).getD i .non=.lst (jA<|aw fl[i]):=by
  rw[Tf,SN,SN,SG N,<- Ja];rfl
 rw[gd];have m0:fl[i]∈fl:=UK N;have A:∀B∈fl,fF (nI B) (nI fl[i])=false:=λB g=>by
  obtain⟨j,Z,rfl⟩:=Vt.mp g;have:=J j (by simpa using Z)
  rw[gi j Z,gi i N]at this;exact this
 generalize fl[i]=B0 at *;rw[<- O]at m0;obtain⟨c0,l0⟩:=SS.mp m0;have l0:=of_decide_eq_true l0;have G:=okB B0 c0;have l5:(aw B0).length<=5:=SX (fP G) hn;have eqx:∀P∈cY C s t a b,(∀x∈cY C s t a b,(aw P.f).length<=(aw x.f).length)->(∀x∈cY C s t a b,(aw x.f).length=(aw P.f).length->fF (nI x.f) (nI P.f)=cp)->vh (aE C s t) P.f=vh (aE C s t) B0:=λP h1 h2 h3=>by
  unfold vh;rw[Y h1 h2 h3 c0 (λB g=>by have:=I B g;lia) λB g e=>A B (by rw[<- O];exact SS.mpr ⟨g,decide_eq_true<|by lia⟩)]
 refine⟨bo (by simp),λl hl=>bJ hl ?_⟩
 refine⟨rfl,ao λQ' E' w _=>Cu c.o c.hs c.ht G hn λp H=>w _ _ (bJ H ?_)⟩;have ea0:atI [D.lst (vh (aE C s t) B0)] 0=ap (.lst<|vh (aE C s t) B0):=rfl;simp only[av,aM,ea0];have ok:=NI (us:=aE C s t) (B:=B0) (by lia)
 have go:∀(L:Nat)(M:Mem)(Q:DK)(E:DX),64<=L->L<=10000->(∀p,M p=bb->Q (.ref p) (M.upd p<|.lst<|vh (aE C s t) B0))->p_ ad [bj C s t,.int (L:Nat)] M Q E:=λL M Q E h1 h2 h=>F L M Q E h1 h2 ne λP y1 y2 y3 p H=>by rw[eqx P y1 y2 y3];exact h p H
 generalize vh (aE C s t) B0=W at *;simp only[ag,Td];rw[<- hK4];unfold ly;generalize hK3:kJ ad (aJ kC)=K3;simp only[ah,aq,wF,aa,af,ac,dt,SE];refine⟨rfl,ao λQ' E' w _=>go 500 _ _ _ (by decide) (by decide) λp H=>w _ _ ?_⟩
 simp only[ag,Td];rw[<- hK3];unfold kJ;generalize hK2:lc ad (aJ kC)=K2;simp only[ah,aG,gc,cB,am,aj,aa,af,ac,dt,SE];refine⟨rfl,aK (λ_ _ q=>Fc (n:=22) (p:=p) (xs:=W) Mem.upd_same ok q)<|fb' ?_⟩;simp only[Fs,Vr];rw[if_neg (by simp)]
 simp only[aB];rw[<- hK2];unfold lc;generalize hK1:kW ad (aJ kC)=K1;simp only[ah,bn,ko,aa,af,dC,ac,dt,SE,dE,Mem.upd_same,true_and,bv,Mem.upd_upd];refine⟨fM (by have:=ok.1;lia),?_⟩
 rw[<- hK1];unfold kW;unfold az lV;simp only[am,aj,aa,af,ac,dC,dt,SE];refine⟨rfl,ao λQ' E' w _=>go 64 _ _ _ (by decide) (by decide) λp2 S=>w _ _ (bJ S ?_)⟩
 refine⟨rfl,aK (λQ' E' q=>fu 23 (.lst W) _ Q' E' ok q)<|fb' ?_⟩;simp only[ai,bg,iX,aa,af,ac,dt,SE];refine⟨x1,x2,x3,?_⟩;simp only[bM,dv,bT,aR,decide_true];exact⟨trivial,trivial,ak rfl⟩
end _T
namespace _T
open PySem _2 _3
def Et(K:SM):Sp:=λb H Q _=>∃(a:cb)(ns:Z9),b=[.ref a]/\GG H/\SqL K H a (ns.map V.int)/\ns.length<=63/\∀H',Q (.bl true) H'
theorem P0{l:W.OpenLaw}{w:f'}{K:SM}{h:fy}{mg:aaf}{fa C_Ends C_Going C_Outcome C_Walk C_Dry C_NoCase C_TooMany f1 f2 f3 f4 f5 f6 f7 f8 f9 f10 f11 f12 f13 f14 f15 f16 f17 f18 f19 f20 f21 f22 f23 f24 f25 f26 f27 f28 f29 f30 f31 f32 f33 f34 f35 f36 f37 f38 f39 f40 f41 f42 f43 f44 f45 f46 f47 f48 f49 f50 f51 f52 f53 Y f55 f56 f57 f58 f59 f60 f61 f62 f63 f64 f65:cb}(X:K.In h)(G:h.Ns eH mg)(hfa:mg "law"=ap (.ref fa))
  {e1 e2 e3 e4 e5 e6 e7 e8 e9 e10 e11 e12 e13 e14 e15 e16 e17 e18 e19 U Z e22 e23 S e25 e26 e27 e28 e29 e30 e31 e32 e33 e34 e35 e36 e37 e38 e39 R e41 e42 e43 e44 e45 e46 e47 e48 e49 e50 e51 e52 e53 e54 e55 e56 e57 e58 e59 e60 e61 e62 e63 e64 e65:hG}
  (r:Uq K eH "Ends"=ap (ap<|.ref C_Ends))
  (n:Uq K eH "Going"=ap (ap<|.ref C_Going))
  (j:Uq K eH "Outcome"=ap (ap<|.ref C_Outcome))
  (q:Uq K eH "Walk"=ap (ap<|.ref C_Walk))
  (x:Uq K eH "Dry"=ap (ap<|.ref C_Dry))
  (m:Uq K eH "NoCase"=ap (ap<|.ref C_NoCase))
  (f:Uq K eH "TooMany"=ap (ap<|.ref C_TooMany))
  (l1:Mf K C_Walk "__init__" "Walk.__init__" Ro f1 e1)
  (l2:Mf K C_Walk "note_step" "Walk.note_step" Sf f2 e2)
  (l3:Mf K C_Walk "look" "Walk.look" LR f3 e3)
  (l4:Nf K "run" LW f4 e4)
  (l5:Nf K "mark" KR f5 e5)
  (l6:Nf K "do_rows" KW f6 e6)
  (l7:Af K "do_row_runs" "do_row" K_ f7 e7)
  (l8:Nf K "do_if" Lv f8 e8)
  (l9:Nf K "do_again" KQ f9 e9)
  (l10:Nf K "number_of" Le f10 e10)
  (l11:Nf K "piece_read" Mb f11 e11)
  (l12:Nf K "joined" LV f12 e12)
  (l13:Nf K "all_things" KC f13 e13)
  (l14:Nf K "in_order" LF f14 e14)
  (l15:Nf K "number_in" Lu f15 e15)
  (l16:Nf K "names_read" Lh f16 e16)
  (l17:Nf K "unlike" LN f17 e17)
  (l18:Nf K "marks" KB f18 e18)
  (l19:Nf K "unlike_of" Ll f19 e19)
  (l20:Nf K "verdict_of" KN f20 U)
  (l21:Mf K C_Going "__init__" "Going.__init__" Qf f21 Z)
  (l22:Mf K C_Going "settled" "Going.settled" Qd f22 e22)
  (l23:Mf K C_Ends "__init__" "Ends.__init__" S9 f23 e23)
  (l24:Mf K C_Ends "one_more" "Ends.one_more" Rx f24 S)
  (l25:Nf K "start" LQ f25 e25)
  (l26:Nf K "put_ahead" Lg f26 e26)
  (l27:Nf K "go_on" KG f27 e27)
  (l28:Nf K "asked_by" L1 f28 e28)
  (l29:Af K "do_row_trees" "do_row" R0 f29 e29)
  (l30:Nf K "mark_of" Lw f30 e30)
  (l31:Nf K "both_ways" Md f31 e31)
  (l32:NV K "tree" Mi f32 e32 (500))
  (l33:Nf K "grown" Lz f33 e33)
  (l34:Mf K C_Outcome "__init__" "Outcome.__init__" Rq f34 e34)
  (l35:Nf K "outcomes" KU f35 e35)
  (l36:Nf K "numbers_of" L_ f36 e36)
  (l37:NV K "fewest" LI f37 e37 (500))
  (l38:Nf K "causes_met" LK f38 e38)
  (l39:Nf K "_law_stirred" Lo f39 e39)
  (l40:Nf K "_law_pot" KH f40 R)
  (l41:Nf K "_law_draw" Lb f41 e41)
  (l42:Nf K "_law_names" Ma f42 e42)
  (l43:Nf K "_law_row" Mh f43 e43)
  (l44:Nf K "_law_block" LD f44 e44)
  (l45:Nf K "_law_rows" LY f45 e45)
  (l46:Nf K "_law_plan" KI f46 e46)
  (l47:Nf K "_law_stand" KZ f47 e47)
  (l48:Nf K "_law_becomes" Lr f48 e48)
  (l49:Nf K "_law_stepped" KJ f49 e49)
  (l50:Nf K "_law_rounds" KF f50 e50)
  (l51:Nf K "_law_done" LA f51 e51)
  (l52:Nf K "_law_run" LG f52 e52)
  (l53:Nf K "_law_flat" Li f53 e53)
  (l54:Nf K "_law_marks" KM Y e54)
  (l55:Nf K "_law_other" Ku f55 e55)
  (l56:Nf K "_law_by_name" KS f56 e56)
  (l57:Nf K "_law_by_piece" QD f57 e57)
  (l58:Nf K "_law_case" KA f58 e58)
  (l59:Nf K "_law_things" Mg f59 e59)
  (l60:Nf K "_law_mixed" Kv f60 e60)
  (l61:Nf K "_law_subsets" Ln f61 e61)
  (l62:Nf K "_law_verdicts" Rt f62 e62)
  (l63:Nf K "_law_told" LO f63 e63)
  (l64:Nf K "_law_alike" L4 f64 e64)
  (L:Nf K "law" jG f65 e65)
  (Y9:X3 K C_Dry [.type "ValueError",.type "Exception",.type "BaseException",.type "object"] "ValueError.__new__"=true)
  (YQ:X3 K C_NoCase [.type "ValueError",.type "Exception",.type "BaseException",.type "object"] "ValueError.__new__"=true)
  (YO:X3 K C_TooMany [.type "ValueError",.type "Exception",.type "BaseException",.type "object"] "ValueError.__new__"=true)
  (YX:Vv K C_Ends WW=true)
  (YY:VB K C_Ends=true)
  (YZ:V9 K C_Ends=true)
  (Y0:TY K (.ref C_Ends) "__setattr__"=ap (ap<|.builtin "object.__setattr__"))
  (Y1:Wg K C_Ends=true)
  (Y2:Ur K (.ref C_Ends)=true)
  (YR:Vv K C_Going WW=true)
  (YS:VB K C_Going=true)
  (YT:V9 K C_Going=true)
  (YU:TY K (.ref C_Going) "__setattr__"=ap (ap<|.builtin "object.__setattr__"))
  (YV:Wg K C_Going=true)
  (YW:Ur K (.ref C_Going)=true)
  (YI:Vv K C_Outcome WW=true)
  (YJ:VB K C_Outcome=true)
  (YK:V9 K C_Outcome=true)
  (YL:TY K (.ref C_Outcome) "__setattr__"=ap (ap<|.builtin "object.__setattr__"))
  (YM:Wg K C_Outcome=true)
  (YN:Ur K (.ref C_Outcome)=true)
  (Y3:Vv K C_Walk WW=true)
  (Y4:VB K C_Walk=true)
  (Y5:V9 K C_Walk=true)
  (Y6:TY K (.ref C_Walk) "__setattr__"=ap (ap<|.builtin "object.__setattr__"))
  (Y7:Wg K C_Walk=true)
  (Y8:Ur K (.ref C_Walk)=true)
  (YB:TY K (.ref C_Ends) "count"=ap bb)
  (YC:TY K (.ref C_Ends) "limit"=ap bb)
  (YD:TY K (.ref C_Going) "left"=ap bb)
  (Yw:TY K (.ref C_Going) "numbers"=ap bb)
  (Yy:TY K (.ref C_Going) "pieces"=ap bb)
  (YE:TY K (.ref C_Going) "todo"=ap bb)
  (Yt:TY K (.ref C_Going) "unsettled"=ap bb)
  (Yv:TY K (.ref C_Outcome) "faulty"=ap bb)
  (Yx:TY K (.ref C_Outcome) "sound"=ap bb)
  (Yu:TY K (.ref C_Outcome) "verdict"=ap bb)
  (YG:TY K (.ref C_Walk) "most"=ap bb)
  (Yz:TY K (.ref C_Walk) "numbers"=ap bb)
  (YA:TY K (.ref C_Walk) "pieces"=ap bb)
  (YH:TY K (.ref C_Walk) "plan"=ap bb)
  (YF:TY K (.ref C_Walk) "steps"=ap bb)
  (P:Uq K eH "all"=ap bb)
  (z:Uq K eH "bool"=ap bb)
  (B:Uq K eH "dict"=ap bb)
  (c:Uq K eH "enumerate"=ap bb)
  (C:Uq K eH "int"=ap bb)
  (b:Uq K eH "isinstance"=ap bb)
  (I:Uq K eH "len"=ap bb)
  (A:Uq K eH "list"=ap bb)
  (N:Uq K eH "max"=ap bb)
  (J:Uq K eH "min"=ap bb)
  (p:Uq K eH "range"=ap bb)
  (y:Uq K eH "repr"=ap bb)
  (g:Uq K eH "reversed"=ap bb)
  (o:Uq K eH "sorted"=ap bb)
  (M:Uq K eH "str"=ap bb)
  (u:Uq K eH "tuple"=ap bb)
  (O:Uq K eH "zip"=ap bb):
  ∃fd:hG,(∀(s:ca)(v:ay),Zp s fd ⟨[v],[]⟩ [("script",v)])/\∀i:fy,K.In i->i.Ns eH mg->FnOk l.prog w K mg i CX0 34 fa fd ["script"] (Et K):=by
 have e:=hfa.symm.trans (VR X G L.a);cases e;obtain⟨_,_,kV,dc,pm,an,cd,ct,_,rfl,_⟩:=L.F.ex;refine⟨Vw "law" "law" (bW jG) (bw jG) (aQ jG) .none kV dc pm an cd ct,λs v=>.of_eq rfl,λi _ _=>?_⟩
 let ad:Ad:=⟨C_Ends,C_Going,C_Outcome,C_Walk,C_Dry,C_NoCase,C_TooMany,f1,f2,f3,f4,f5,f6,f7,f8,f9,f10,f11,f12,f13,f14,f15,f16,f17,f18,f19,f20,f21,f22,f23,f24,f25,f26,f27,f28,f29,f30,f31,f32,f33,f34,f35,f36,f37,f38,f39,f40,f41,f42,f43,f44,f45,f46,f47,f48,f49,f50,f51,f52,f53,Y,f55,f56,f57,f58,f59,f60,f61,f62,f63,f64,fa,e1,e2,e3,e4,e5,e6,e7,e8,e9,e10,e11,e12,e13,e14,e15,e16,e17,e18,e19,U,Z,e22,e23,S,e25,e26,e27,e28,e29,e30,e31,e32,e33,e34,e35,e36,e37,e38,e39,R,e41,e42,e43,e44,e45,e46,e47,e48,e49,e50,e51,e52,e53,e54,e55,e56,e57,e58,e59,e60,e61,e62,e63,e64,Vw "law" "law" (bW jG) (bw jG) (aQ jG) .none kV dc pm an cd ct⟩
 have T:En l.prog w K mg i ad:=⟨⟨YX,YY,YZ,Y0⟩,
  VR X G r,
  ⟨YR,YS,YT,YU⟩,
  VR X G n,
  ⟨YI,YJ,YK,YL⟩,
  VR X G j,
  ⟨Y3,Y4,Y5,Y6⟩,
  VR X G q,
  YB,
  YC,
  YD,
  Yw,
  Yy,
  YE,
  Yt,
  Yv,
  Yx,
  Yu,
  YG,
  Yz,
  YA,
  YH,
  YF,
  hW X Y9,
  VR X G x,
  hW X YQ,
  VR X G m,
  hW X YO,
  VR X G f,
  T1 X G P,
  T1 X G z,
  T1 X G B,
  T1 X G c,
  T1 X G C,
  T1 X G b,
  T1 X G I,
  T1 X G A,
  T1 X G N,
  T1 X G J,
  T1 X G p,
  T1 X G y,
  T1 X G g,
  T1 X G o,
  T1 X G M,
  T1 X G u,
  T1 X G O,
  gi Y7 Y8 l1,
  gm l2,
  gm l3,
  gf X G l4,
  gf X G l5,
  gf X G l6,
  ga X G l7,
  gf X G l8,
  gf X G l9,
  gf X G l10,
  gf X G l11,
  gf X G l12,
  gf X G l13,
  gf X G l14,
  gf X G l15,
  gf X G l16,
  gf X G l17,
  gf X G l18,
  gf X G l19,
  gf X G l20,
  gi YV YW l21,
  gm l22,
  gi Y1 Y2 l23,
  gm l24,
  gf X G l25,
  gf X G l26,
  gf X G l27,
  gf X G l28,
  ga X G l29,
  gf X G l30,
  gf X G l31,
  gv X G l32 rfl λ_ _ _ _ _ _ _ _=>⟨λ_=>⟨_,rfl,rfl⟩,λ_ _=>⟨_,rfl,rfl⟩⟩,
  gf X G l33,
  gi YM YN l34,
  gf X G l35,
  gf X G l36,
  gv X G l37 rfl λ_ _ _ _ _ _ _ _=>⟨λ_=>⟨_,rfl,rfl⟩,λ_ _=>⟨_,rfl,rfl⟩⟩,
  gf X G l38,
  gf X G l39,
  gf X G l40,
  gf X G l41,
  gf X G l42,
  gf X G l43,
  gf X G l44,
  gf X G l45,
  gf X G l46,
  gf X G l47,
  gf X G l48,
  gf X G l49,
  gf X G l50,
  gf X G l51,
  gf X G l52,
  gf X G l53,
  gf X G l54,
  gf X G l55,
  gf X G l56,
  gf X G l57,
  gf X G l58,
  gf X G l59,
  gf X G l60,
  gf X G l61,
  gf X G l62,
  gf X G l63,
  gf X G l64,
  gf X G L⟩
 exact(MP<|MK T).imp λvs H Q E ⟨a,ns,e,hO,hS,hl,k⟩=>by subst e;exact IA hO hS (CC ad ns hl) k
theorem walk{l:W.OpenLaw}{q:eX}{loose:Z_}{XP:(Str->Option ay)->fy->Prop}{YP:f'->fy->Prop}{d:DefRec}{K:Params->SM}(o:l.most=ap 63)(e:d.params.defaults=[])
  (p:∀(w:f')(h:fy),YP w h->(K w.params).In h)
  (F:∀(w:f')(c:aaf)(fa:cb)(h:fy),(K w.params).In h->h.Ns eH c->c d.name=ap (.ref fa)->
   ∃fd:hG,(∀(s:ca)(u:ay),Zp s fd ⟨[u],[]⟩ [("script",u)])/\∀b:fy,(K w.params).In b->b.Ns eH c->FnOk l.prog w (K w.params) c b CX0 34 fa fd ["script"] (Et<|K w.params)):
  W.WalkO q loose XP YP l.row.toRowW d [] (λf vs=>X2 f vs):=
 _2.Ik (n:=63) (k:=34) (x:="script") (CX:=λ_=>CX0) (sp:=λw=>Et (K w.params)) o (by decide) e ⟨rfl,by decide,by decide,rfl⟩ p F (λ_ _ a i m j g=>⟨a,i,rfl,j,g,m,λ_=>rfl⟩) λ_ _ _ _ _ z=>z
end _T
open PySem PySem.W PyProof.Rows
structure PySem.W.Fast:Prop where
 (tw15080136972240902263 tw11351344629084041984 tw13386839569887445052 tw17857719903956943515 tw9605124119651481224 tw4240641583943338484 tw15589199828117998003 tw7571442371565674614 tw15043277169746446061 tw8073041385072552909 tw13035574966342447080 tw14398007642389340705 tw14061808979313082495 tw12608691150397313648 tw8733805417078726031 tw3656039307788272207 tw13882195106202651635 tw17015993404793687318 tw3254247869706042217 tw18136859755910561166 tw18103958144735671790 tw6522553050748633945 tw4328639833214943338 tw8508095636639246844 tw13734250648948574059 tw16173024737816962367 tw18390035222778731491 tw16370564979736677167 tw8495644698495476697 tw7644281363538208444 tw12218152570697041866 tw1247480747149652627 tw1723747469801522261 tw12376278326956393086 tw5998936737606026812 tw7244223004019148902 tw12359078185051796592 tw72272529418255928 tw12655743531294482327 tw12114827687107780160 tw11706584110004508496 tw16190991236559754438 tw15645467107996389123 tw10963089129673272588 tw11944175923972287955 tw10977598710592035133 tw10950446240850416862 tw4825751048682811900 tw1135774345320513253 tw9407809208284779704 tw15723633657172288401 tw15293665593310070101 tw6948820961252473401 tw1555129550047768657 tw6631215119644548018 tw2283324691303853765 tw6539467564284335898 tw9582759848134936069 tw4595466783631469392 tw11543573131276191841 tw11147892660947688604 tw1226306137369646593 tw13688733318312070495 tw8685765454857839186 tw9011414694637931496 tw4176868101742458519 tw349144122091037807 tw4683323907202138465 tw9994380263367386806 tw6369764215079969546 tw953068239719715769 tw7345699424923026769 tw13259294821561300541 tw8018353611559073478 tw1091785476732930284 tw17916275284117830083 tw9825842424450120728 tw11261383136466495000 tw6430545887647685141 tw8149210484560747950 tw15165957003888866637 tw16498306300499912476 tw16093038029263729097 tw794641415611994491 tw17596464826172057301 tw9615435795274869215 tw7240092706433305395 tw316045922473468206 tw8536075425004177291 tw17851239033686827674 tw12074029437370356357 tw11385818600715673630 tw14368110229509507263 tw13266262028453320822 tw17824345646204831658 tw17146433655709900509 tw3579397514313308921 tw12498035812022117806 tw7950302382803716427 tw3762455498856085491 tw15272591175620589322 tw5687598800691207684 tw4747991705208911823 tw2315751277185779381 tw16733471907154404930 tw3342559832599740392 tw4721815008665501947 tw12337420277713747674 tw9247526032047598144 tw18297515435497002200 tw13118537901301488225 tw15866813050613858797 tw16595065031172116643 tw16480878740496754513 tw11299509424192017661 tw4917498104723777230 tw17831885536380701769 tw3720328696387124620 tw1091181226501077143 tw10451579805148435128 tw16078832234287550552 tw14226635457197485278 tw11983294377213833092 tw1056130966678096249 tw6593736163051423156 tw1355032086644617519 tw2797532066440926805 tw8416180833340615682 tw13011285343401847965 tw6553949863057926647 tw13003170038156113802 tw16516547323660000420 tw4756174264295007299 tw12545609352988193856 tw9401133780827481261 tw12452796664122154453 tw5528182020535272488 tw8688289062469796199 tw4160683172649649227 tw7226003124006052408 tw12077722426152518071 tw4085326558196050085 tw14869683112402472694 tw1267066952712273477 tw8686596130570050568 tw11886723199879367137 tw10671778590280418221 tw9612849694728255280 tw3042911849188105903 tw3937849085020940347 tw5877320296677677532 tw13376347508897520584 tw107162130383521860 tw14715377391340438957 tw2355968872878689764 tw1957750770312210439 tw2156463635312951222 tw7901072994334127734 tw17529582321654773989 tw4115045726380820557 tw13808711963650073582 tw17003513555319546526 tw6899565127603488083 tw10212004316618158555 tw6466396433474129763 tw2600817897554648556 tw16660425065948636578 tw18405547088752455547 tw9602163764600467899 tw14893553819696934196 tw14956869683303341663 tw1814097579846069012 tw1784780396765510235 tw13875142376703611445 tw9844815318800794418 tw14522704914951772347 tw7298957437182525736 tw12733028749844623611 tw9761850747991989793 tw17955870245577718377 tw4039077205295813500 tw6361483795177193392 tw8792263216171157194 tw1907291205432322874 tw6411134049206694688 tw4643449667490803237 tw14013535992264221594 tw14006000957748186451 tw6207002215777744056 tw8858149023171432958 tw8263554318575194857 tw1212720418017902567 tw2627140692962035715 tw8467967083871015449 tw11091775952256140520 tw9249505618677659846 tw4940758576193656635 tw3103677028543363753 tw10930643921596000365 tw7382741479899123956 tw13975037928781005478 tw8757895534666251029 tw11328809442495142318 tw4884159615655759295 tw14278346885358127435 tw14145428086473751377 tw9652709067335285345 tw3679600251771675810 tw6986806997231512600 tw1587420904504278512 tw17824686180054405796 tw16527944866340523793 tw6376116822820762622 tw10589286061712292039 tw12333311389263890992 tw6598148607485206704 tw16299055395456771231 tw10081403424100662223 tw160958814732645151 tw10920333903626018048 tw9786733573713161739 tw7967225825612614007 tw9060437944221801674 tw18346850098908121221 tw13193715931617526191 tw9429136585372041765 tw13570506044265517125 tw5732288327782478581 tw790860796427715561 tw4261960461744091039 tw15662940623279749650 tw14724499743293215281 tw17531272902684401539 tw6137127645159296781 tw12955550380653572651 tw4725465740392481110 tw15023295774781728148 tw8865562830114488269 tw6346696094359307361 tw5220979771222559487 tw7748712765721045921 tw16009823512208247003 tw17449032548560686701 tw17915415079790524036 tw17615363823461706293 tw11360295918092412989 tw2249518163964252145 tw15258120032004988715 tw10687138148091853921 tw14639466622373898610 tw6242718165939235352 tw13654012362104113793 tw1056804715132429090 tw7871698842046775995 tw11497293153263989663 tw13731404551733660554 tw18230861187642283396 tw10543313044926340158 tw11154155640616440986 tw4125317269379368089 tw190418173655799371 tw12661648620555438475 tw16257197551823996283 tw3349169792475968758 tw16298048848631526059 tw18334273252518580540 tw15687858736421863088 tw1961711408223738374 tw11540504367806354913 tw11845456059013166060 tw17651092286153393843 tw13789955361135831903 tw4307637990765996596 tw16689668100672689300 tw4180552970549303462 tw12393607473358872423 tw14602805174170412547 tw14006934800691299393 tw14915583943113055938 tw2467536103921834808:True)
set_option maxRecDepth 100000 in
set_option maxHeartbeats 0 in
theorem PySem.Challenge.cw_twinstride_k40_the_fewest_cause_holds : PySem.Challenge.rw_twinstride_k40_the_fewest_cause.Holds := by
 w_on;o_law;k_head;(case hw=>w_witness2)
 k_fill
 refine _T.walk (l:=PySem.Challenge.rw_twinstride_k40_the_fewest_cause) rfl rfl (λw h Y=>W.kIn_of Y) ?F
 case F=>
  intro w b fa h KX G a;refine' _T.P0 KX G a ..
  any_goals k_is
  any_goals (first|refine' _3.Nf.mk ?_ (_2.wu ?_ ?_ ?_)|refine' _3.Mf.mk ?_ ?_ (_2.wu ?_ ?_ ?_)|refine' _3.Af.mk ?_ (_2.wu ?_ ?_ ?_)|refine' _3.S4 ?_ ?_ ?_ ?_ ?_)
  any_goals k_is
  any_goals k_exc
