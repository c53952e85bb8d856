import PyProof.Rows.All
import Wide.All
import OpenK.AllK
import Wide.FinOn
import Lean
import PyProof.EqAt
import PyProof.EqKinds
import PyProof.TupleCall
import PySem.Challenge.RW_twinstride_k40_the_fewest_cause
set_option Elab.async false
set_option linter.all false
set_option maxRecDepth 100000
set_option maxHeartbeats 4000000
set_option compiler.extract_closed false
set_option Elab.async false
set_option linter.all false
set_option maxRecDepth 100000
open Array renaming length_toList->Ve,replicate->Vu,toList->Wm,getElem?_eq_some_iff->Wq,size_push->XH,getElem?_eq_getElem->X3,getElem?_eq_none->Yp,append_assoc->YT
open Bool renaming false_eq_true->Ue,beq_eq_decide_eq->Uz,and_eq_true->Vf,or_false->Vw,not_true->VN,and_false->VV,false_or->V8,false_ne_true->Wx,true_or->W0,not_false->W9,or_true->Xp,eq_false_iff->Xq,false_and->X2,and_true->Yj
open Decidable renaming byContradiction->Vz
open False renaming elim->Vn
open ForInStep renaming yield->WS
open Function renaming comp_def->Xe
open Int renaming toNat_natCast->Ua,emod_lt_of_pos->U3,emod_nonneg->Vm,toNat->V7,le_refl->We,mul_le_mul_of_nonneg_left->XM,eq_ofNat_of_zero_le->Yu,toNat_of_nonneg->YY
open List renaming getElem?_cons_zero->dt,getElem?_cons_succ->Tu,getElem?_eq_getElem->Tx,length_map->Tz,map_cons->TB,getElem?_map->TJ,mem_cons->TK,mem_map->TM,mem_filter->TN,set->TQ,nil_append->TU,mem_cons_of_mem->TV,cons_append->TY,size_toArray->TZ,range->Ub,map_map->Ud,length_cons->Ug,filter_cons->Uh,length_append->Ui,replicate->Um,mem_append->Uo,mem_map_of_mem->Uq,getD_eq_getElem?_getD->Ur,map_nil->Ut,mem_cons_self->Uu,map_congr_left->Uw,lookup->Ux,length_filter_le->Uy,getElem?_eq_some_iff->UC,mem_range->UE,mem_append_right->UG,append_nil->UH,filter_map->UM,mem_of_getElem?->UQ,getElem?_eq_none->UT,getElem?_append_right->U1,map_id->U6,nodup_cons->U9,foldl_cons->Va,length_singleton->Vh,length_set->Vj,filter_congr->Vl,replicate_succ->Vo,length->Vr,find?_cons->Vv,idxOf_lt_length_of_mem->Vy,range_eq_range'->VC,toArray->VD,pairwise_iff_getElem->VH,getElem?_zip_eq_some->VI,drop_eq_getElem_cons->VJ,filterMap_cons->VL,length_nil->VO,pairwise_cons->VP,range'->VR,drop_eq_nil_of_le->VU,getElem_mem->V3,any_cons->V6,mem_iff_getElem->Wa,mem_append_left->Wb,of_mem_zip->Wg,map_append->Wh,getElem_of_mem->Wl,mem_singleton->Wu,findIdx?_cons->Wv,filter_append->Ww,getElem?_eq_none_iff->WE,getElem?_append_left->WG,nodup_append->WL,ext_getElem?->WM,sum_cons->WR,zipIdx_cons->WV,not_mem_nil->WW,length_take->WX,replicate_succ'->W8,length_pos_iff->Xd,findIdx?_eq_some_iff_getElem->Xl,length_range->Xm,getElem?_set->Xn,getElem?_nil->Xo,nodup_range->Xw,lookup_cons->Xx,isEmpty_nil->Xy,getElem_map->Xz,ext_getElem->XA,length_zip->XJ,take_succ->XZ,getElem?_replicate->Yo,take_of_length_le->Yr,getElem?_set_self->Ys,filter_eq_nil_iff->Yt,dropLast_eq_take->Yz,countP_mono_left->YA,getElem?_zipIdx->YF,getElem?_set_ne->YG,map_eq_nil_iff->YN,getElem?_range->YO,filter_eq_self->YQ,zip_cons_cons->YW,mem_filterMap->YX
open List.Pairwise renaming nil->X0,map->X1
open List.Perm renaming mem_iff->Xb,refl->YR,cons->YS
open List.cons renaming injEq->UY
open Nat renaming le_refl->TL,le_trans->TR,ne_of_lt->TX,lt_of_lt_of_le->Uc,lt_irrefl->UB,pow_le_pow_right->UJ,zero_le->U2,le_add_right->Vg,lt_or_ge->Vt,testBit_lt_two_pow->VZ,ne_of_gt->V0,le_of_lt->V1,le_of_not_lt->V5,zero_add->Wo,lt_succ_of_lt->WO,le_succ->WQ,not_lt->W4,not_lt_zero->W5,two_pow_pos->XT,testBit_or->Yb,min_self->Yw,lt_trans->Yx,le_of_eq->Yy,log2_lt->YM
open Ne renaming symm->Uk
open Option renaming join_some->UD,map_some->UK,map_eq_some_iff->UR,isSome_map->Xk,isSome_iff_exists->XY
open Option.some renaming inj->UP
open PyProof.Rows renaming callWith_type1->UA,slot_tuple_getitem->UN,envOfC->VY
open PySem renaming mem_of_lookup->Vb,Within->Yk,call->YH,list_append->YU
open PySem.Around renaming under_plainId->UW
open PySem.Builtin renaming bitAnd->Wj,bitOr->W7
open PySem.Builtin.Builtins renaming bindParams->W6
open PySem.Builtin.Dict renaming updateFrom->Xt,showsAll->XG
open PySem.Builtin.Int renaming intBits->U5
open PySem.Builtin.Slice renaming slicePlaces->V4,sliceAdjust->Xj
open PySem.Builtin.SmallTypes renaming nextOf->UO,ownedTupleIsFree->Vs,ownedTupleHandOut->Wt
open PySem.Builtin.Tuple renaming tupleTooMany->Xf,tupleItemsOf->Xg
open PySem.Calls renaming spliced_cons->Vp,callWith_builtin->Vq,evalArgs_plain->VA,spliced_nil->VS,Name_function_global->XS,call_len_list->YE
open PySem.Expr renaming Call->Yn
open PySem.F renaming plain_min_loop->Uv,entry_min_loop->Vd,slot_dict_keyiterator_next->Vx,slot_tuple_iterator_next->VF,slot_tuple_index->VG,slot_tuple_mul->VQ,slot_dict_pop->VT,slot_list_getattribute->VX,slot_list_lt->V2,slot_list_pop->Ws,args_tuple_mul_2->WB,args_tuple_add_2->WC,plainAttrs_list->WI,entry_tuple_mul->WJ,entry_tuple_add->WK,slot_tuple_add->WT,slot_zip_getattribute->W3,slot_list_append->Xa,slot_NoneType_hash->XE,args_tuple_index_2->XF,entry_tuple_index->XI,type_tuple_index->XQ,args_dict_keyiterator_next_1->XR,plainAttrs_dict->XU,entry_dict_keyiterator_next->XW,args_dict_pop_3->XX,entry_dict_pop->X8,args_tuple_iterator_next_1->X9,args_list_lt_2->Ya,type_list_pop->Ye,type_dict_pop->Yf,slot_int_rmul->Yg,entry_tuple_iterator_next->Yh,entry_list_lt->Yi,entry_min->YD,slot_enumerate_next->YV
open PySem.Heap renaming get?_push_of_some->Tv,lt_size->TC,get?_push_size->TF,get?_update_other->Uj,get?_update_self->US,size_push->UZ,SameBut->U0,ExtBut->WH
open PySem.Heap.SameBut renaming update->U4
open PySem.MeetsSeq.EqGives renaming int->YC
open PySem.Obj renaming mapSeq->Vc,data_mapFields->WA,isFreed_of_fields->YB
open PySem.Paired renaming length->Vk
open PySem.PyData renaming hasDict->UX,showable->V9,depth->Wf,shownAll->WZ,showableAll->Xc,shown->Xh,hasDictAll->Xi,depthAll->Xv,noDict_hsm->YL
open PySem.SeqAt renaming EqAt->WY,RcNeAt->Yl,RcAt->YK
open PySem.SeqAt.EqAt renaming str_none->X4,none_str->X5,none_int->X6,int_none->X7,str_int->Yc,int_str->Yd
open PySem.SeqAt.RcAt renaming lists_lengths->Xu,tuples->Ym,lists->Yq
open PySem.Str renaming ofString->VW,empty->XD
open PySem.Value renaming ref->Ul,none->UU,type->Wn,str->Xr,int->Xs,bool->YJ
open PySem.W renaming Frag->TH,findIn->UI,mg_none_of->UL,nsIn->U7,keepIn->U8,emptyDict->VE,kia_one->VM,plainGet->Wc,fnOf->Wd,hasDictIn->Wi,mg_of->Wz,instObj->WD,plainOver->WU,makesIn->W2,codeIn->XB,callWith_K->XC,hideAll->XO,plainGet_of->Yv,excIn->YI
open PySem.Walks renaming list->XN
open String renaming reduceBEq->WN
open Sum renaming inr->Us,inl->Vi
open True renaming intro->VB
open Bool renaming false->cp
open Option renaming some->ap,none->bb
open PyProof.Rows renaming IntsAre->L',AllBare->WF,seqObj->aag,listUpdate_at->aao,subscriptTail_builtinR->aaw
open PySem renaming wpAny_bind->ax,Value->ay,Shared->ca,Addr->cb,wpAny_pure->cx,wpAny->cT,starEach->eH,model->eX,mainGlobals->ff,bootBuiltins->fv,Program->fx,Expr->fy,wpAny_loadPart'->f',eval->g3,Heap->g4,World->hG,Around->h7,backTo->j0,FuncData->kc,binaryOp->kr,compareOp->kB,wpAny_holding->kL,wpAny_mono->k6,attributeBase->k',wpAny_field->l',wpAny_seqItems->mo,argBest->mu,wpAny_call_entry->n7,cLine->ol,codeAny_builtin->om,wpAny_setField_rec->ot,wpAny_Call_Name_kw->pa,assignEach->pb,plainId_quiet->pt,wpAny_tryCatch->py,wpAny_newObj_type->p6,foldedSetIterable->qa,sysModules->q0,call_meets->ra,Stmt->rc,wpAny_pyIter_list->re,holding->vb,swapsWith->vr,Keyword->wh,wpAny_updateSeq->w6,wpAny_passesOwn->x9,backToKw->y',rawInt->z4,wpAny_truthy_bool->z5,sizeLine_eq->z6,Scope->B',codeAny->F',pyNext->G',wpAny_attempt->J',wpAny_execs_nil->K',wpAny_of_eq->P',wpAny_newTuple->S',codeAny_mono->TD,wpAny_isInstance->TW,typeLookup->T_,checkBuiltinCall->Uf,wpAny_specialOf->UF,getMethod->UV,tupleKind_room_in1->U_,getattributeRaised->U',standAt->V_,sliceBounds->V',relabel->Wp,wpAny_rule->WP,valueAt->W1,pyIter->W_,PlainAttrs->W',Paired->XV,letOwnedTupleGo->X_,wpAny_letGo->Y_,isSubtype_stop->Y',entryFor->ZB,argsOk->ZQ,Operator->ZR,IsPart->ZT,getItem->ZU,wpAny_standAt->ZV,checkTypeCall->ZW,behindInMarks->ZX,typeOf->ZY,stored->ZZ,closureFor->Z0,wpAny_typeOf->Z1,getAttr?->Z2,callerA->Z3,callWith->Z4,wpAny_pyIter_zip->Z5,wpAny_execs_cons->Z6,tupleKind->Z7,noFill_tuple_add->Z8,assign->Z9,Result->Z_,DictEntry->Z',wpAny_typeNameOfWhole_keyiter->aaa,Meets->aab,IsZip->aac,BindsTo->aad,wpAny_setField->aae,wpAny_call->aaf,firstArgMember->aah,bindArgs->aai,NameKind->aak,wpAny_handled->aal,wpAny_comprehension_free->aam,seq_tuple_add->aan,seqItems?->aaq,seqIndex?->aar,PassesOwn->aas,wpAny_pyNext_list_item->aau,wpAny_Call_method_late->aav,seqIndex_neg->aax,concat_meets->aaA,callType_new->aaB,wpAny_pyNext_list_end->aaC,wpAny_isOneOf_keyiter->aaD,wpAny_loadName_local->aaE,codeAny_call_builtin->aaK
abbrev aaV:=List (List Int)
abbrev aaW:=List Int
abbrev aaX:=List PySem.Str
abbrev aaY:=List ay
abbrev aaZ:=List cb
abbrev aa0:=List fy
abbrev aa1:=List rc
abbrev aa2:=ay->ca->Prop
abbrev aa3:=List (cb×PySem.Obj)
abbrev aa4:=PySem.Str->Option ay
abbrev aa5:=Array ay
set_option hygiene false in
local macro_rules|`(tactic|ac_rfl)=>`(tactic|(intro _ _ _ _ _ _;first|exact us1 λ_=>rfl|exact us2 λ_ _=>rfl|exact us3 λ_ _ _=>rfl|exact us4 λ_ _ _ _=>rfl|exact us5 λ_ _ _ _ _=>rfl|exact us6 λ_ _ _ _ _ _=>rfl|exact us7 λ_ _ _ _ _ _ _=>rfl|exact us8 λ_ _ _ _ _ _ _ _=>rfl))
set_option hygiene false in
local macro_rules|`(tactic|and_intros)=>`(tactic|(first|exact .inl rfl|exact .inr rfl|assumption))
local macro_rules|`(tactic|lia)=>`(tactic|first|(with_reducible first|assumption|exact Nat.le_add_right _ _|exact Nat.le_trans (by assumption) (by decide +kernel)|exact Nat.lt_of_le_of_lt (by assumption) (by decide +kernel)|exact Int.le_of_lt (by assumption))|decide +kernel|lia -abstractProof)
noncomputable section
open List renaming toArray->Tw
local macro_rules|`(#[$xs,*])=>`(⟨$xs,*⟩)
namespace _2
open PySem PySem.Spec PyProof.Rows
variable{a b f:cb}{A:h7}{X:Cx}{e:fy}{h:g4}{H:Hp}{ch:aaZ}{N:aaX}{i:Nat}{P:fx}{r:R2}{m x:Str}{K:TH}{w:hG}
abbrev aC:=Sum Int Str
noncomputable def pc:aC->ay->Bool
 |.inl k,v=>Value.isInt k v
 |.inr x,v=>Value.isStrOf x v
noncomputable def Te(w:hG):aC->Int
 |.inl k=>hashInt k
 |.inr x=>hashStr w x
theorem aX:∀{k:aC}{v:ay},pc k v=true->(∃i t,k=Vi i/\v=Xs i t)\/(∃x t,k=Us x/\v=Xr x t)
 |.inl i,v,h=>by
  obtain⟨t,e⟩:=Value.isInt_shape h;exact .inl #[i,t,rfl,e]
 |.inr x,v,h=>by
  obtain⟨t,e⟩:=Value.isStrOf_shape h;exact .inr #[x,t,rfl,e]
theorem DL(i:Int)(t:Tok):pc (.inl i) (.int i t)=true:=by simp[pc,Value.isInt]
theorem De(x:Str)(t:Tok):pc (.inr x) (.str x t)=true:=by simp[pc,Value.isStrOf]
theorem Os(a b:Int):decide ((Vi a:aC)=Vi b)=(a==b):=by
 by_cases e:a=b
 .subst e;simp
 simp_all
theorem OZ(a b:Str):decide ((Us a:aC)=Us b)=decide (a=b):=by
 simp_all
theorem O0(a:Int)(b:Str):decide ((Vi a:aC)=Us b)=false:=decide_eq_false (λq=>nomatch q)
theorem Qv(a:Str)(b:Int):decide ((Us a:aC)=Vi b)=false:=decide_eq_false (λq=>nomatch q)
def aU(prog:fx)(w:hG):PySem.KeyKind prog w aC where
 is:=pc
 hash:=Te w
 inj:=λv a b q l=>by
  rcases aX q with⟨i,t,rfl,rfl⟩|⟨x,t,rfl,rfl⟩
  .rcases aX l with⟨j,u,rfl,e⟩|⟨y,u,rfl,e⟩
   .injection e with e1 _;rw[e1]
   .exact nomatch e
  .rcases aX l with⟨j,u,rfl,e⟩|⟨y,u,rfl,e⟩
   .exact nomatch e
   .injection e with e1 _;rw[e1]
 byValue:=λk v h=>by
  rcases aX h with⟨i,t,rfl,rfl⟩|⟨x,t,rfl,rfl⟩<;>rfl
 pyHash:=λg h=>by
  rcases aX g with⟨i,t,rfl,rfl⟩|⟨x,t,rfl,rfl⟩
  .exact wpAny_pyHash_int h
  .exact wpAny_pyHash_str h
 eqBool:=λn g h=>by
  rcases aX n with⟨i,t,rfl,rfl⟩|⟨x,t,rfl,rfl⟩
  .rcases aX g with⟨j,u,rfl,rfl⟩|⟨y,u,rfl,rfl⟩
   .rw[Os]at h;exact wpAny_eqBool_int h
   .rw[O0]at h;exact Yd i t y u _ _ _ _ h
  .rcases aX g with⟨j,u,rfl,rfl⟩|⟨y,u,rfl,rfl⟩
   .rw[Qv]at h;exact Yc x t j u _ _ _ _ h
   .rw[OZ]at h;exact wpAny_eqBool_str h
 «strs»:=λk x t v h=>by
  rcases aX h with⟨i,u,rfl,e⟩|⟨y,u,rfl,e⟩
  .exact nomatch e
  .injection e with e1 _
   subst e1;cases v<;>rfl
theorem wI(g:fx)(w:hG)(i:Int)(t:Tok):(aU g w).is (.inl i) (.int i t)=true:=DL i t
theorem uN(g:fx)(w:hG)(x:Str)(t:Tok):(aU g w).is (.inr x) (.str x t)=true:=De x t
inductive V where
 |non|bl (b:Bool)|int (i:Int)|str (x:Str)|byt (b:Array UInt8)|flt (b:UInt64)|ref (a:cb)|ty (n:String)
 deriving DecidableEq
def RelV:V->ay->Prop
 |.non,u=>u=UU
 |.bl b,u=>u=YJ b
 |.int i,u=>∃t,u=Xs i t
 |.str x,u=>∃t,u=Xr x t
 |.byt b,u=>∃t,u=Value.bytes b t
 |.flt b,u=>∃t,u=Value.float b t
 |.ref a,u=>u=Ul a
 |.ty n,u=>u=Wn n
abbrev Vals:List V->List ay->Prop:=XV RelV
theorem Vals.length(r:Vals xs us):xs.length=us.length:=Vk r
theorem Vals.get:∀{xs:List V}{us:aaY}{i:Nat}{x:V},Vals xs us->xs[i]?=ap x->∃u,us[i]?=ap u/\RelV x u
 |_,_,_,_,.nil,e=>by simp at e
 |_,_,0,_,.cons r _,e=>by simp_all
 |_,_,i+1,x,.cons _ t,e=>by
  obtain⟨u,g,j⟩:=Vals.get t (by simpa using e)
  simp_all
theorem Vals.set{x:V}(r:RelV x u):∀{xs:List V}{us:aaY}(i:Nat),Vals xs us->Vals (xs.set i x) (us.set i u)
 |_,_,_,.nil=>.nil
 |_,_,0,.cons _ t=>.cons r t
 |_,_,i+1,.cons q t=>.cons q (Vals.set r i t)
theorem Vals.append:∀{xs ys:List V}{us g:aaY},Vals xs us->Vals ys g->Vals (xs++ys) (us++g):=by
 intro xs ys us g h s
 induction h with
 |nil=>exact s
 |cons r _ ih=>exact .cons r ih
theorem Vals.take:∀{xs:List V}{us:aaY}(n:Nat),Vals xs us->Vals (xs.take n) (us.take n)
 |_,_,0,_=>.nil
 |_,_,_+1,.nil=>.nil
 |_,_,n+1,.cons r t=>.cons r (Vals.take n t)
theorem Vals.drop:∀{xs:List V}{us:aaY}(n:Nat),Vals xs us->Vals (xs.drop n) (us.drop n)
 |_,_,0,r=>r
 |_,_,_+1,.nil=>.nil
 |_,_,n+1,.cons _ t=>Vals.drop n t
def RelO:Option V->Option ay->Prop
 |some v,ap u=>RelV v u
 |none,bb=>True
 |_,_=>False
def KV{κ:Type}:List (κ×V)->List (κ×ay)->Prop:=XV λ(p:κ×V)(q:κ×ay)=>p.1=q.1/\RelV p.2 q.2
def kV:aC->V
 |.inl i=>.int i
 |.inr x=>.str x
inductive HO where
  |lst (xs:List V)
  |tup (xs:List V)
  |dK (aaP:List (aC×V))|dT (aaP:List (List aC×V))
  |set (S:Int->Bool) (n:Nat)
  |ins (C dx:cb) (fs:List (Str×V))
  |own (x:cb)
  |xd (fs:List (Str×V))
  |met (f x:cb)
  |rng (lo hi:Int)
  |frz (o:Obj) (u:HO)
  |tbl (ps:aa5)
  |ext (φ:g4->Prop)
abbrev Hp:=cb->Option HO
noncomputable def upd(H:Hp)(a:cb)(o:HO):Hp:=λb=>if b=a then ap o else H b
theorem upd_same:upd H a o a=ap o:=by unfold upd;simp_all
theorem aD(h:b≠a):upd H a o b=H b:=by unfold upd;rw[if_neg h]
theorem To(h:H a=ap o)(h':H b=ap u)(d:o≠u):a≠b:=by
 intro e;subst e;rw[h]at h';exact d (UP h')
theorem bn(h:H a=ap o)(h':H b=bb):a≠b:=by
 intro e;simp_all
section
variable(P:fx)(w:hG)
def ObjOk(H:Hp)(h:g4)(a:cb):HO->Prop
 |.lst xs=>xs.length<=sizeLine/\∃(aaT:aaY)(n:Nat),Vals xs aaT/\h.get? a=ap { cls:=.type "list",data:=.seq aaT.toArray n }
 |.tup xs=>xs.length<=sizeLine/\∃aaT:List ay,Vals xs aaT/\∃o,h.get? a=ap o/\(o.cls=.type "tuple"/\∃n,o.data=.seq aaT.toArray n)/\o.dict=bb
 |.dK aaP=>aaP.length<=sizeLine/\(a==q0)=cp/\∃vs,KV aaP vs/\h.DictOf (aU P w) a vs
 |.dT aaP=>aaP.length<=sizeLine/\(a==q0)=cp/\∃xs:List (List aC×cb×ay),
   XV (λ(p:List aC×V)(q:List aC×cb×ay)=>p.1=q.1/\H q.2.1=ap (.tup<|p.1.map kV)/\RelV p.2 q.2.2) aaP xs/\
   ∃o es ep,h.get? a=ap o/\o.ExactDict/\o.data=.dict es ep/\es.toList=xs.map (entryOfKey<|tupleKind<|aU P w)/\(xs.map (·.1)).Nodup
 |.set S n=>h.SetOf (intKind P w) a S n
 |.ins C dx fs=>H dx=ap (.own a)/\fs.length<=1000/\dx≠a/\h.get? a=ap (WD C dx)/\
   ∃mA,h.Ns1 dx mA/\(∀f,RelO (fs.lookup f) (mA f))/\Yk mA (fs.map (·.1))
 |.own _=>∃o,h.get? a=ap o
 |.xd fs=>∃mA,h.Ns1 a mA/\∀f,RelO (fs.lookup f) (mA f)
 |.rng lo hi=>∃t u v,h.get? a=ap { cls:=.type "range",data:=.fields (Tw [.int lo t,.int hi u,.int 1 v]) }
 |.frz o u=>h.get? a=ap o/\ObjOk H h a u
 |.tbl ps=>h.get? a=ap { cls:=.none,data:=.fields ps }
 |.met f x=>h.get? a=ap (W.methodObj (.ref f)<|.ref x)
 |.ext φ=>φ h/\(∃o,h.get? a=ap o)/\∀h1 h2:g4,φ h1->(∀o,h1.get? a=ap o->h2.get? a=ap o)->φ h2
def HOk(H:Hp)(h:g4):Prop:=∀a o,H a=ap o->ObjOk P w H h a o
end
theorem ObjOk.lt(x:ObjOk P w H h a o):a<h.objs.size:=by
 cases o with
 |lst xs=>obtain⟨_,_,_,_,e⟩:=x;exact TC e
 |tup xs=>obtain⟨_,_,_,_,e,_⟩:=x;exact TC e
 |dK aaP=>obtain⟨_,_,_,_,o,_,_,e,_⟩:=x;exact TC e
 |dT aaP=>obtain⟨_,_,_,_,o,_,_,e,_⟩:=x;exact TC e
 |set S n=>obtain⟨o,_,_,_,e,_⟩:=x;exact TC e
 |ins C dx fs=>obtain⟨_,_,_,e,_⟩:=x;exact TC e
 |own y=>obtain⟨_,e⟩:=x;exact TC e
 |xd fs=>obtain⟨_,⟨_,_,_,e,_⟩,_⟩:=x;exact TC e
 |rng lo hi=>obtain⟨_,_,_,e⟩:=x;exact TC e
 |frz ob u=>obtain⟨e,_⟩:=x;exact TC e
 |tbl ps=>exact TC x
 |met f y=>exact TC x
 |ext φ=>obtain⟨_,⟨_,e⟩,_⟩:=x;exact TC e
theorem gU:∀{g:List α}{j:List l},XV F g j->(∀a b,F a b->G a b)->XV G g j:=by
 intro g j h f
 induction h with
 |nil=>exact .nil
 |cons r _ ih=>exact .cons (f _ _ r) ih
theorem ObjOk.stay(x:ObjOk P w H h a o)(k:∀b u,(b=a\/H b=ap (.own a))->h.get? b=ap u->h'.get? b=ap u)(J:∀b,H b=ap (.own a)->H' b=ap (.own a))(L:∀b xs,H b=ap (.tup xs)->H' b=ap (.tup xs)):ObjOk P w H' h' a o:=by
 induction o with
 |lst xs=>obtain⟨z,l,n,r,e⟩:=x;exact#[z,l,n,r,k _ _ (.inl rfl) e]
 |tup xs=>obtain⟨z,l,r,g,e,c⟩:=x;exact#[z,l,r,g,k _ _ (.inl rfl) e,c]
 |dK aaP=>obtain⟨z,y,G,r,g,es,j,e,c⟩:=x;exact#[z,y,G,r,g,es,j,k _ _ (.inl rfl) e,c]
 |dT aaP=>
  obtain⟨z,y,xs,r,g,es,j,e,c⟩:=x;exact#[z,y,xs,gU r λp q z=>#[z.1,L _ _ z.2.1,z.2.2],g,es,j,k _ _ (.inl rfl) e,c]
 |set S n=>obtain⟨g,es,j,t,e,c⟩:=x;exact#[g,es,j,t,k _ _ (.inl rfl) e,c]
 |ins C dx fs=>
  obtain⟨d,z,ne,e,mA,⟨B,es,j,I,c⟩,r⟩:=x;exact#[J _ d,z,ne,k _ _ (.inl rfl) e,mA,#[B,es,j,k _ _ (.inr d) I,c],r]
 |own y=>obtain⟨g,e⟩:=x;exact#[g,k _ _ (.inl rfl) e]
 |xd fs=>obtain⟨mA,⟨B,es,j,e,c⟩,r⟩:=x;exact#[mA,#[B,es,j,k _ _ (.inl rfl) e,c],r]
 |rng lo hi=>obtain⟨t,u,v,e⟩:=x;exact#[t,u,v,k _ _ (.inl rfl) e]
 |frz g u ih=>obtain⟨e,q⟩:=x;exact#[k _ _ (.inl rfl) e,ih q]
 |tbl ps=>
  have e:h.get? a=ap { cls:=.none,data:=.fields ps }:=x;show h'.get? a=ap { cls:=.none,data:=.fields ps };exact k a _ (.inl rfl) e
 |met f y=>
  have e:h.get? a=ap (W.methodObj (.ref f)<|.ref y):=x;show h'.get? a=ap (W.methodObj (.ref f)<|.ref y);exact k a _ (.inl rfl) e
 |ext φ=>obtain⟨p,⟨o,e⟩,F⟩:=x;exact#[F _ _ p λo q=>k _ _ (.inl rfl) q,#[o,k _ _ (.inl rfl) e],F]
theorem HOk.lt(x:HOk P w H h)(e:H a=ap o):a<h.objs.size:=(x a o e).lt
theorem HOk.fresh(x:HOk P w H h)(e:h.objs.size<=a):H a=none:=by
 cases q:H a with
 |none=>rfl
 |some u=>exact absurd (Uc (x.lt q) e) (UB _)
theorem HOk.kept(x:HOk P w H h)(k:∀b u,h.get? b=ap u->h'.get? b=ap u):HOk P w H h':=λa o e=>
 (x a o e).stay (λb u _ q=>k b u q) (λ_ q=>q) λ_ _ q=>q
theorem HOk.laid(x:HOk P w H h)(k:∀b u,h.get? b=ap u->h'.get? b=ap u)(l:h.objs.size<=a)(new:ObjOk P w (upd H a o) h' a o):HOk P w (upd H a o) h':=λb u e=>by
 have g:=x.fresh l
 by_cases j:b=a
 .subst j;rw[upd_same]at e;cases e;exact new
 .rw[aD j]at e
  exact(x b u e).stay (λc v _ q=>k c v q) (λc q=>by rw[aD (bn q g)];exact q) λc n q=>by rw[aD (bn q g)];exact q
def Rd(H:Hp)(a:cb)(u:HO):Prop:=H a=ap u\/∃o,H a=ap (.frz o u)
theorem Rd.ok(r:Rd H a u)(x:HOk P w H h):ObjOk P w H h a u:=by
 rcases r with r|⟨o,r⟩
 .exact x a u r
 obtain⟨_,q⟩:=x a _ r;exact q
def SZ:Option HO->Prop
 |some (.lst _)=>True
 |some (.dK _)=>True
 |some (.dT _)=>True
 |some (.set _ _)=>True
 |some (.ins _ _ _)=>True
 |some (.ext _)=>True
 |_=>False
section
variable{x e:cb}
theorem HOk.write(ok:HOk P w H h)(F:SZ (H x))(J:e=x\/H e=ap (.own x))(k:∀b u,b≠e->h.get? b=ap u->h'.get? b=ap u)(G:∃u,h'.get? e=ap u)(new:ObjOk P w (upd H x o') h' x o'):HOk P w (upd H x o') h':=λb u q=>by
 have j:∀c y,H c=ap (.own y)->c≠x:=λc y r z=>by subst z;rw[r]at F;exact F
 have l:∀c n,H c=ap (.tup n)->c≠x:=λc n r z=>by subst z;rw[r]at F;exact F
 by_cases B:b=x
 .subst B;rw[upd_same]at q;cases q;exact new
 .rw[aD B]at q
  by_cases g:b=e
  .have I:H b=ap (.own x):=by
    rcases J with z|z
    .exact absurd (g.trans z) B
    .rw[g];exact z
   rw[q]at I;cases I;obtain⟨v,L⟩:=G;exact#[v,by rw[g];exact L]
  .refine (ok b u q).stay (λc v hc r=>k c v ?_ r) (λc r=>by rw[aD (j c b r)];exact r) λc n r=>by rw[aD (l c n r)];exact r
   rcases hc with rfl|hc
   .exact g
   .rintro rfl
    rcases J with z|z
    .exact j c b hc z
    .rw[hc]at z;cases z;exact B rfl
end
structure Un(fs ex:aaZ)(H H':Hp)(h h':g4):Prop where
 keep:∀b o,h.get? b=ap o->H b=bb->b∉fs->b∉ex->h'.get? b=ap o
 slot:∀b o,h.get? b=ap o->H b=bb->b∈fs->b∉ex->∃sl,h'.get? b=ap { o with slots:=sl }
 free:∀b o,h.get? b=ap o->H b=bb->b∉ex->H' b=bb
 there:∀b o,h.get? b=ap o->b∉ex->∃o',h'.get? b=ap o'
 tups:∀b xs,H b=ap (.tup xs)->H' b=ap (.tup xs)
 frzs:∀b o u,H b=ap (.frz o u)->H' b=ap (.frz o u)
 tbls:∀b ps,H b=ap (.tbl ps)->∃more,H' b=ap (.tbl (ps++more))
section
variable{x e:cb}
theorem Un.any(u:Un fs ex H H1 h h1)(q:h.get? b=ap g)(n:H b=bb)(l:b∉ex):∃v,h1.get? b=ap { g with slots:=v }:=by
 by_cases j:b∈fs
 .exact u.slot b g q n j l
 exact#[_,u.keep b g q n j l]
theorem Un.kept(k:∀b u,h.get? b=ap u->h'.get? b=ap u):Un fs ex H H h h':=
 #[λb g q _ _ _=>k b g q,λb g q _ _ _=>#[_,k b g q],λ_ _ _ n _=>n,λb g q _=>#[g,k b g q],λ_ _ q=>q,λ_ _ _ q=>q,λ_ ps q=>#[(Tw []),by rw[q];simp]]
theorem Un.refl:Un fs ex H H h h:=Un.kept λ_ _ q=>q
theorem Un.laid(k:∀b u,h.get? b=ap u->h'.get? b=ap u)(l:h.objs.size<=a)(g:H a=bb):Un fs ex H (upd H a o) h h' where
 keep:=λb u q _ _ _=>k b u q
 slot:=λb u q _ _ _=>#[_,k b u q]
 free:=λb u q n _=>by rw[aD (TX<|Uc (TC q) l)];exact n
 there:=λb u q _=>#[u,k b u q]
 tups:=λb j q=>by rw[aD (bn q g)];exact q
 frzs:=λb u j q=>by rw[aD (bn q g)];exact q
 tbls:=λb ps q=>#[(Tw []),by rw[aD (bn q g),q];simp]
theorem Un.write(v:SZ (H x))(G:e=x\/H e=ap (.own x))(k:∀b u,b≠e->h.get? b=ap u->h'.get? b=ap u)(F:∃u,h'.get? e=ap u):Un fs ex H (upd H x o) h h':=by
 have y:∀b,H b=bb->b≠x:=λb n z=>by subst z;rw[n]at v;exact v
 have l:∀b,H b=bb->b≠e:=λb n z=>by
  simp_all
 have j:∀b u,H b=ap u->¬SZ (ap u)->b≠x:=λb u q nm z=>by simp_all
 refine#[λb u q n _ _=>k b u (l b n) q,λb u q n _ _=>#[_,k b u (l b n) q],λb u q n _=>by rw[aD (y b n)];exact n,λb u q _=>?_,
  λb B q=>by rw[aD (j b _ q λz=>z)];exact q,λb u B q=>by rw[aD (j b _ q λz=>z)];exact q,λb ps q=>#[(Tw []),by rw[aD (j b _ q λz=>z),q];simp]]
 by_cases g:b=e
 .simp_all
 exact#[u,k b u g q]
end
noncomputable def trk(h:g4)(H:Hp):List Addr:=(Ub h.objs.size).filter λa=>(H a).isSome
def rX(h:g4)(H:Hp):Heap:=XO h (trk h H)
theorem E5(h:g4)(H:Hp):(rX h H).objs.size=h.objs.size:=W.hideAll_size _ _
theorem Hi(e:h.get? b=ap o)(n:H b=bb):(rX h H).get? b=ap o:=
 W.hideAll_get _ e λg=>by
  have q:=(TN.mp g).2
  simp_all
theorem IC(e:(rX h H).get? b=ap o):h.get? b=ap o/\H b=none:=by
 have g:=W.of_hideAll _ e;refine#[g,?_];cases q:H b with
 |none=>rfl
 |some x=>
  have j:b∈trk h H:=TN.mpr #[UE.mpr (TC g),by simp[q]]
  have z:(rX h H).get? b=none:=W.hideAll_none _ j
  simp_all
structure Mod(K:TH)(mg:aa4)(base:g4):Prop where
 kin:K.In base
 glob:base.Ns ff mg
 blt:∃mb,base.Ns builtinsNs mb/\∀x:Str,x≠"__name__"->mb x=fv x
 nolimit:base.NoLimit
structure Cx where
 prog:fx
 w:hG
 K:TH
 mg:Str->Option ay
 base:g4
 A:h7
 N:List Str
 s₀:ca
 H₀:Hp
 env:Env
 outer:List Env
 stack:List Env
 ex:List cb
 fn:Str->Bool
 calm:Bool
 pn:List (cb×Obj)
 xe:ay->ca->Prop
noncomputable def iI(l:List Env):List Addr:=l.filterMap (·.frame)
abbrev Cx.fs(X:Cx):List Addr:=iI X.outer
def QB(sc:B')(x:Str):Prop:=sc.names.lookup x=ap .local\/sc.names.lookup x=ap .cell\/sc.names.lookup x=ap .free
def Ej(sc:B')(x:Str):Prop:=sc.names.lookup x=ap .local\/sc.names.lookup x=ap .cell
def Look(env:Env)(h:g4)(m:aa4)(x:Str)(u:ay):Prop:=
 (env.kindOf x=ap .local/\m x=ap u)\/((env.kindOf x=ap .cell\/env.kindOf x=ap .free)/\∃c,env.cells.lookup x=ap c/\h.IsCell c (ap u))
structure Cx.Ok(X:Cx):Prop where
 mod:Mod X.K X.mg X.base
 kind:X.env.scope.kind=.function
 glob:X.env.globals=ff
 blt:X.env.builtins=builtinsNs
 above:X.s₀.heap.objs.size<=X.env.locals
 inj:∀x y c,X.env.cells.lookup x=ap c->X.env.cells.lookup y=ap c->x=y
 has:∀x,(X.env.kindOf x=ap .cell\/X.env.kindOf x=ap .free)->∃c,X.env.cells.lookup x=ap c
 cab:∀x c,X.fn x=true->X.env.cells.lookup x=ap c->X.s₀.heap.objs.size<=c
 hd:X.calm=true->X.A.handled=bb
 frames:X.A.frames=ap X.stack
 stk:X.stack=X.outer\/(X.stack=X.env::X.outer/\X.env.frame=ap X.env.locals)
 exf:∀b∈X.ex,b≠X.env.locals/\∀x c,X.env.cells.lookup x=ap c->c≠b
 bs:∀b o,X.base.get? b=ap o->X.s₀.heap.get? b=ap o/\X.H₀ b=bb
 bsz:X.base.objs.size<=X.s₀.heap.objs.size
 noex:∀b o,X.base.get? b=ap o->b∉X.ex
 exfs:∀b∈X.ex,b∉X.fs
 funs:X.s₀.heap.FunFrames X.base X.outer
 frf:∀b∈X.fs,X.H₀ b=bb
structure Inv(X:Cx)(aaN:aa3)(Z:List (Option V))(H:Hp)(s:ca):Prop where
 ok:X.Ok
 os:s.os=X.s₀.os
 bare:WF s.gens
 base:Un X.fs X.ex X.H₀ H X.s₀.heap s.heap
 loc:∃m,s.heap.Ns X.env.locals m/\∀(i:Nat)(x:Str)(v:V),X.N[i]?=ap x->Z[i]?=ap (ap v)->QB X.env.scope x->∃u,RelV v u/\Look X.env s.heap m x u
 cell:∀x c,X.env.cells.lookup x=ap c->∃v,s.heap.IsCell c v
 free:H X.env.locals=bb
 freeC:∀x c,X.env.cells.lookup x=ap c->H c=bb
 pin:∀p∈X.pn++aaN,s.heap.get? p.1=ap p.2/\H p.1=bb/\p.1≠X.env.locals/\p.1∉X.fs/\∀v,p.2.data≠.cell v
 hok:HOk X.prog X.w H s.heap
 len:Z.length=X.N.length
theorem Cx.Ok.nofr(ok:X.Ok)(e:X.base.get? b=ap o):b∉X.fs:=λg=>by
 have:=(ok.funs.mem g).1
 simp_all
theorem Inv.bs(I:Inv X aaN Z H s):∀b o,X.base.get? b=ap o->s.heap.get? b=ap o/\H b=none:=λb o e=>
 #[I.base.keep b o (I.ok.bs b o e).1 (I.ok.bs b o e).2 (I.ok.nofr e) (I.ok.noex b o e),I.base.free b o (I.ok.bs b o e).1 (I.ok.bs b o e).2<|I.ok.noex b o e]
theorem Inv.bk(I:Inv X aaN Z H s):∀b o,X.base.get? b=ap o->s.heap.get? b=ap o:=λb o e=>(I.bs b o e).1
theorem Inv.mod(I:Inv X aaN Z H s):Mod X.K X.mg X.base:=I.ok.mod
theorem Inv.kIn(I:Inv X aaN Z H s):X.K.In s.heap:=I.ok.mod.kin.keeps I.bk
theorem Inv.lt(I:Inv X aaN Z H s):X.env.locals<s.heap.objs.size:=let ⟨_,hn,_⟩:=I.loc;hn.lt
theorem Inv.sz(I:Inv X aaN Z H s):X.s₀.heap.objs.size<=s.heap.objs.size:=TR I.ok.above (V1 I.lt)
theorem Inv.nofs(I:Inv X aaN Z H s)(h:s.heap.objs.size<=a):a∉X.fs:=λj=>by
 obtain⟨_,o,g,_⟩:=I.ok.funs.mem j;exact absurd (Uc (TC g)<|TR I.sz h) (UB _)
theorem Inv.cne(I:Inv X aaN Z H s):∀x c,X.env.cells.lookup x=ap c->c≠X.env.locals:=λx c e z=>by
 obtain⟨v,o,n,q⟩:=I.cell x c e;obtain⟨m,⟨l,es,y,g,j,_⟩,_⟩:=I.loc
 simp_all
theorem Inv.funs(I:Inv X aaN Z H s):s.heap.FunFrames X.base X.outer:=by
 have all:∀(l:List _),(∀b∈iI l,b∈X.fs)->X.s₀.heap.FunFrames X.base l->s.heap.FunFrames X.base l:=by
  intro l
  induction l with
  |nil=>intro _ _;trivial
  |cons env r ih=>
   rintro q ⟨v,⟨L,o,g,y,G,F⟩,B⟩
   have j:=q L (by unfold iI;rw[VL,g];exact Uu)
   obtain⟨J,e⟩:=I.base.slot L o G (I.ok.frf L j) j λz=>I.ok.exfs L z j;exact#[v,#[L,_,g,y,e,F],ih (λb n=>q b (by unfold iI;rw[VL,g];exact TV _ n)) B]
 exact all _ (λ_ n=>n) I.ok.funs
theorem Inv.stack(I:Inv X aaN Z H s):s.heap.FunFrames X.base X.stack:=by
 rcases I.ok.stk with e|⟨e,hf⟩
 .rw[e];exact I.funs
 .rw[e]
  obtain⟨m,g,_⟩:=I.loc;refine .cons (by rw[I.ok.kind];decide) hf g ?_ I.funs
  exact Heap.get?_none_of_le (TR I.ok.bsz I.ok.above)
theorem Inv.stkSub(I:Inv X aaN Z H s):∀b∈iI X.stack,b∈X.env.locals::X.fs:=λb g=>by
 rcases I.ok.stk with e|⟨e,hf⟩
 .rw[e]at g;exact TV _ g
 rw[e]at g;unfold iI at g;rw[VL,hf]at g;exact g
theorem Inv.stkFree(I:Inv X aaN Z H s):∀b∈iI X.stack,H b=none:=λb hb=>by
 rcases TK.mp (I.stkSub b hb) with e|hb
 .rw[e];exact I.free
 obtain⟨_,o,g,_⟩:=I.ok.funs.mem hb;exact I.base.free b o g (I.ok.frf b hb) λz=>I.ok.exfs b z hb
theorem Inv.step(I:Inv X aaN Z H s)(B:∀b∈ch,(b∈X.ex\/X.s₀.heap.objs.size<=b)/\b≠X.env.locals/\(∀x c,X.env.cells.lookup x=ap c->c≠b)/\∀p∈X.pn++aaN,p.1≠b)(keep:∀b o,b≠X.env.locals->b∉X.fs->b∉ch->s.heap.get? b=ap o->H b=bb->h'.get? b=ap o)(slot:∀b o,b≠X.env.locals->b∈X.fs->b∉ch->s.heap.get? b=ap o->H b=bb->∃Y,h'.get? b=ap { o with slots:=Y })(free:∀b o,b∉ch->s.heap.get? b=ap o->H b=bb->H' b=bb)(there:∀b o,b∉ch->s.heap.get? b=ap o->∃S,h'.get? b=ap S)(tups:∀b J,H b=ap (.tup J)->H' b=ap (.tup J))(frzs:∀b o u,H b=ap (.frz o u)->H' b=ap (.frz o u))(tbls:∀b ps,H b=ap (.tbl ps)->∃more,H' b=ap (.tbl (ps++more)))(ns:∀m,s.heap.Ns X.env.locals m->h'.Ns X.env.locals m)(hok:HOk X.prog X.w H' h')(hg:WF g'):
  Inv X aaN Z H' { s with heap:=h',gens:=g',drawn:=d',toks:=t' }:=by
 have R:∀b o,X.s₀.heap.get? b=ap o->b≠X.env.locals:=λb o e=>TX (Uc (TC e) I.ok.above);have F:∀b o,X.s₀.heap.get? b=ap o->b∉X.ex->b∉ch:=λb o e g L=>by
  rcases (B b L).1 with z|z
  .exact g z
  .exact absurd (Uc (TC e) z) (UB _)
 have j:∀x c,X.env.cells.lookup x=ap c->∀v,s.heap.IsCell c v->h'.IsCell c v:=λx c e v ⟨o,O,U⟩=>by
  have y:c∉ch:=λz=>(B c z).2.2.1 x c e rfl
  by_cases hc:c∈X.fs
  .obtain⟨Y,q⟩:=slot c o (I.cne x c e) hc y O (I.freeC x c e)
   exact#[_,q,U]
  .exact#[o,keep c o (I.cne x c e) hc y O (I.freeC x c e),U]
 refine#[I.ok,I.os,hg,#[λb o e n L g=>?_,λb o e n L g=>?_,λb o e n g=>?_,λb o e g=>?_,λb J e=>tups b J (I.base.tups b J e),λb o J e=>frzs b o J (I.base.frzs b o J e),λb ps e=>?_],?_,λx c e=>?_,?_,λx c e=>?_,λp hp=>?_,hok,I.len]
 .exact keep b o (R b o e) L (F b o e g) (I.base.keep b o e n L g) (I.base.free b o e n g)
 .obtain⟨Y,G⟩:=I.base.slot b o e n L g
  obtain⟨W,T⟩:=slot b _ (R b o e) L (F b o e g) G (I.base.free b o e n g);exact#[W,T]
 .obtain⟨S,G⟩:=I.base.there b o e g
  exact free b S (F b o e g) G (I.base.free b o e n g)
 .obtain⟨S,G⟩:=I.base.there b o e g
  exact there b S (F b o e g) G
 .obtain⟨m1,G⟩:=I.base.tbls b ps e
  obtain⟨m2,T⟩:=tbls b _ G;exact#[m1++m2,by rw[T,YT]]
 .obtain⟨m,hn,hl⟩:=I.loc
  refine#[m,ns m hn,λi x v G T e3=>?_];obtain⟨u,r,l⟩:=hl i x v G T e3;refine#[u,r,?_];rcases l with l|⟨k,c,e,z⟩
  .exact .inl l
  .exact .inr #[k,c,e,j x c e _ z]
 .obtain⟨v,z⟩:=I.cell x c e
  exact#[v,j x c e v z]
 .obtain⟨m,⟨o,_,_,O,_⟩,_⟩:=I.loc
  exact free _ o (λz=>(B _ z).2.1 rfl) O I.free
 .obtain⟨v,o,O,U⟩:=I.cell x c e
  exact free c o (λz=>(B c z).2.2.1 x c e rfl) O (I.freeC x c e)
 .obtain⟨e,n,ne,nf,d⟩:=I.pin p hp
  have y:p.1∉ch:=λz=>(B p.1 z).2.2.2 p hp rfl;exact#[keep p.1 p.2 ne nf y e n,free p.1 p.2 y e n,ne,nf,d]
theorem Inv.un(I:Inv X aaN Z H s)(u:Un X.fs [] H H' s.heap h')(v:HOk X.prog X.w H' h'):Inv X aaN Z H' { s with heap:=h',toks:=t' }:=by
 obtain⟨m,⟨o,es,L,y,r⟩,_⟩:=id I.loc;obtain⟨R,F⟩:=u.any y I.free (by simp)
 exact I.step (g':=s.gens) (d':=s.drawn) (ch:=[]) (λ_ z=>nomatch z) (λb o _ l _ e n=>u.keep b o e n l (by simp)) (λb o _ l _ e n=>u.slot b o e n l (by simp)) (λb o _ e n=>u.free b o e n (by simp)) (λb o _ e=>u.there b o e (by simp)) u.tups u.frzs u.tbls (λO B=>by
  obtain⟨J,q,j,g,G⟩:=B;rw[y]at g;cases g;exact#[_,q,j,F,G]) v I.bare
theorem Inv.call(I:Inv X aaN Z H s)(u:Un (iI X.stack) ch H H' s.heap h')(B:HOk X.prog X.w H' h')(O:WF g')(l:∀b∈ch,(b∈X.ex\/X.s₀.heap.objs.size<=b)/\b≠X.env.locals/\(∀x c,X.env.cells.lookup x=ap c->c≠b)/\∀p∈X.pn++aaN,p.1≠b):
  Inv X aaN Z H' { s with heap:=h',gens:=g',drawn:=d',toks:=t' }:=by
 obtain⟨m,⟨o,es,S,F,r⟩,_⟩:=id I.loc;obtain⟨U,q⟩:=u.any F I.free λz=>(l _ z).2.1 rfl;exact I.step (ch:=ch) l (λb o q J g e n=>u.keep b o e n (λz=>(TK.mp<|I.stkSub b z).elim q J) g) (λb o _ _ g e n=>u.any e n g) (λb o g e n=>u.free b o e n g) (λb o g e=>u.there b o e g) u.tups u.frzs u.tbls (λT G=>by
  obtain⟨R,y,v,j,L⟩:=G;rw[F]at j;cases j;exact#[_,y,v,q,L]) B O
theorem Inv.turned(I:Inv X aaN Z H s)(k:∀b o,b≠g->s.heap.get? b=ap o->h'.get? b=ap o)(S:H g=bb)(y:g≠X.env.locals)(L:g∈X.ex\/X.s₀.heap.objs.size<=g)(R:∀x c,X.env.cells.lookup x=ap c->c≠g)(O:∀p∈X.pn++aaN,p.1≠g):Inv X aaN Z H { s with heap:=h',toks:=t' }:=by
 have l:∀b u,H b=ap u->b≠g:=λb u e z=>by rw[z,S]at e;cases e
 refine I.step (g':=s.gens) (d':=s.drawn) (ch:=[g]) (λb J=>?_) (λb o _ _ j e _=>k b o (λz=>j (by simp[z])) e) (λb o _ _ j e _=>#[o.slots,k b o (λz=>j (by simp[z])) e]) (λ_ _ _ _ n=>n)
  (λb o j e=>#[o,k b o (λz=>j (by simp[z])) e]) (λ_ _ e=>e) (λ_ _ _ e=>e) (λb ps e=>#[(Tw []),by rw[e];simp]) (λm B=>?_) (λb u e=>?_) I.bare
 .have e:b=g:=by simpa using J
  subst e;exact#[L,y,R,O]
 .obtain⟨o,es,G,F,r⟩:=B
  exact#[o,es,G,k _ o (Uk y) F,r]
 .refine (I.hok b u e).stay (λc v j q=>k c v ?_ q) (λ_ q=>q) λ_ _ q=>q
  rcases j with z|z
  .rw[z];exact l b u e
  .exact l c _ z
theorem Inv.tok(I:Inv X aaN Z H s)(t:Nat):Inv X aaN Z H { s with toks:=t }:=I.un Un.refl I.hok
theorem Inv.kept(I:Inv X aaN Z H s)(k:∀b u,s.heap.get? b=ap u->h'.get? b=ap u):Inv X aaN Z H { s with heap:=h',toks:=t' }:=I.un (Un.kept k) (I.hok.kept k)
theorem Inv.laid(I:Inv X aaN Z H s)(k:∀b u,s.heap.get? b=ap u->h'.get? b=ap u)(g:s.heap.objs.size<=a)(new:ObjOk X.prog X.w (upd H a o) h' a o):
  Inv X aaN Z (upd H a o) { s with heap:=h',toks:=t' }:=I.un (Un.laid k g<|I.hok.fresh g) (I.hok.laid k g new)
theorem Inv.write{x e:cb}(I:Inv X aaN Z H s)(j:SZ (H x))(l:e=x\/H e=ap (.own x))(k:∀b u,b≠e->s.heap.get? b=ap u->h'.get? b=ap u)(g:∃u,h'.get? e=ap u)(new:ObjOk X.prog X.w (upd H x o) h' x o):Inv X aaN Z (upd H x o) { s with heap:=h',toks:=t' }:=I.un (Un.write j l k g) (I.hok.write j l k g new)
theorem Inv.pins_of(I:Inv X aaN Z H s)(h:∀p∈g,s.heap.get? p.1=ap p.2/\H p.1=bb/\p.1≠X.env.locals/\p.1∉X.fs/\∀v,p.2.data≠.cell v):Inv X g Z H s:=
 #[I.ok,I.os,I.bare,I.base,I.loc,I.cell,I.free,I.freeC,λp j=>(Uo.mp j).elim (λz=>I.pin p (Wb _ z)) (h p),I.hok,I.len]
theorem uz(n:N.Nodup){j:Nat}(a:N[i]?=ap x)(b:N[j]?=ap x):i=j:=by
 obtain⟨q,l⟩:=UC.mp a;obtain⟨v,g⟩:=UC.mp b;exact(List.getElem_inj n).mp (l.trans g.symm)
theorem qj(I:Inv X aaN Z H s)(hN:X.N.Nodup)(hi:X.N[i]?=ap x)(F:Ej X.env.scope x)(r:RelV v u)(h:∀s',Inv X aaN (Z.set i<|some v) H s'->(∃a,U0 a s.heap s'.heap/\(a=X.env.locals\/X.env.cells.lookup x=ap a))->Q () s')(hf:X.fn x=true\/X.env.scope.names.lookup x=ap .local:=by and_intros):cT M A (storeName X.env x u) Q E s:=by
 obtain⟨m,hn,hl⟩:=id I.loc;have W:(X.env.scope.kind==.class||(X.env.scope.kind==.module&&X.env.locals != X.env.globals))=false:=by rw[I.ok.kind];rfl
 have L:i<Z.length:=by rw[I.len];exact(UC.mp hi).1
 have cne:=I.cne;have B:∀{a:cb}{h':g4},(∃o,s.heap.get? a=ap o/\H a=bb)->U0 a s.heap h'->HOk X.prog X.w H h':=λ{a h'} ha g b ob e=>by
  obtain⟨_,_,G⟩:=ha;refine (I.hok b ob e).stay (λc w' hc q=>(g.2 c ?_).trans q) (λ_ q=>q) λ_ _ q=>q
  rintro rfl
  rcases hc with rfl|hc
  .rw[G]at e;cases e
  .rw[G]at hc;cases hc
 rcases F with hk|hk
 .refine wpAny_storeName_local hk hn (λh' hn' g=>?_) W
  obtain⟨oL,_,_,hoL,_⟩:=id hn;refine h _ #[I.ok,I.os,I.bare,#[λb o e n S F=>?_,λb o e n S F=>?_,I.base.free,λb o e F=>?_,I.base.tups,I.base.frzs,I.base.tbls],#[_,hn',λj y v' l J e3=>?_],λy c e=>?_,I.free,I.freeC,λp hp=>?_,B #[oL,hoL,I.free] g,by simpa using I.len] #[_,g,.inl rfl]
  .exact(g.2 b<|TX<|Uc (TC e) I.ok.above).trans (I.base.keep b o e n S F)
  .obtain⟨sl,l⟩:=I.base.slot b o e n S F
   exact#[sl,(g.2 b<|TX<|Uc (TC e) I.ok.above).trans l]
  .obtain⟨o',l⟩:=I.base.there b o e F
   exact#[o',(g.2 b<|TX<|Uc (TC e) I.ok.above).trans l]
  .by_cases O:j=i
   .subst O
    rw[hi]at l;cases l;rw[Ys L]at J;cases J;exact#[u,r,.inl #[hk,by simp]]
   .rw[YG (Uk O)]at J
    obtain⟨u',r',q⟩:=hl j y v' l J e3;refine#[u',r',?_];rcases q with⟨k,e⟩|⟨k,c,e,z⟩
    .refine .inl #[k,?_]
     have:y≠x:=λe=>O (uz hN l (e▸hi));simp[this,e]
    .exact .inr #[k,c,e,z.sameBut g<|cne y c e]
  .obtain⟨w',z⟩:=I.cell y c e
   exact#[w',z.sameBut g<|cne y c e]
  .obtain⟨e,n,ne,nf,d⟩:=I.pin p hp
   exact#[(g.2 p.1 ne).trans e,n,ne,nf,d]
 .have R:X.fn x=true:=by
   rcases hf with z|z
   .exact z
   .rw[z]at hk;cases hk
  obtain⟨c,hc⟩:=I.ok.has x (.inl hk);obtain⟨w',z⟩:=I.cell x c hc;refine wpAny_storeName_cell I.ok.kind hk hc z (λh' hc' g=>?_);obtain⟨oc,T,Y⟩:=id z;refine h { s with heap:=h' } #[I.ok,I.os,I.bare,#[λb o e n S F=>?_,λb o e n S F=>?_,I.base.free,λb o e F=>?_,I.base.tups,I.base.frzs,I.base.tbls],#[m,hn.sameBut g (Uk<|cne x c hc),λj y v' l J e3=>?_],λy c' e=>?_,I.free,I.freeC,λp hp=>?_,B #[oc,T,I.freeC x c hc] g,by simpa using I.len] #[c,g,.inr hc]
  .exact(g.2 b<|TX<|Uc (TC e)<|I.ok.cab x c R hc).trans (I.base.keep b o e n S F)
  .obtain⟨sl,l⟩:=I.base.slot b o e n S F
   exact#[sl,(g.2 b<|TX<|Uc (TC e)<|I.ok.cab x c R hc).trans l]
  .obtain⟨o',l⟩:=I.base.there b o e F
   exact#[o',(g.2 b<|TX<|Uc (TC e)<|I.ok.cab x c R hc).trans l]
  .by_cases O:j=i
   .subst O
    rw[hi]at l;cases l;rw[Ys L]at J;cases J;exact#[u,r,.inr #[.inl hk,c,hc,hc']]
   .rw[YG (Uk O)]at J
    obtain⟨u',r',q⟩:=hl j y v' l J e3;refine#[u',r',?_];rcases q with q|⟨k,c',e,z'⟩
    .exact .inl q
    .refine .inr #[k,c',e,z'.sameBut g ?_]
     rintro rfl
     exact O (uz hN l (I.ok.inj _ _ _ e hc▸hi))
  .by_cases U:c'=c
   .subst U;exact#[_,hc']
   .obtain⟨w2,z2⟩:=I.cell y c' e
    exact#[w2,z2.sameBut g U]
  .obtain⟨e,n,ne,nf,d⟩:=I.pin p hp
   refine#[(g.2 p.1 ?_).trans e,n,ne,nf,d];intro q;rw[q,T]at e;have q':oc=p.2:=UP e;exact d w' (by rw[<- q'];exact Y)
theorem nM(I:Inv X aaN Z H s)(j:X.N.Nodup)(q:X.N[i]?=ap x)(n:Ej X.env.scope x)(r:RelV v u)(h:∀g,Inv X aaN (Z.set i<|some v) H g->Q () g)(l:X.fn x=true\/X.env.scope.names.lookup x=ap .local:=by and_intros):cT M A (storeName X.env x u) Q E s:=
 qj I j q n r (λg I' _=>h g I') l
theorem Inv.call'(I:Inv X aaN Z H s)(v:g.os=s.os)(u:Un (iI X.stack) ch H H' s.heap g.heap)(j:HOk X.prog X.w H' g.heap)(q:WF g.gens)(l:∀b∈ch,(b∈X.ex\/X.s₀.heap.objs.size<=b)/\b≠X.env.locals/\(∀x c,X.env.cells.lookup x=ap c->c≠b)/\∀p∈X.pn++aaN,p.1≠b):Inv X aaN Z H' g:=by
 obtain⟨h',g',d',t',n⟩:=g;have e:n=s.os:=v;subst e;exact I.call (g':=g') (t':=t') (d':=d') u j q l
abbrev XK:=ay->Option cb->Hp->Prop
abbrev St:=List (Option V)
abbrev VK:=V->Hp->Prop
abbrev TE:=St->Hp->VK->Prop
abbrev TT:=St->Hp->(Bool->Hp->Prop)->Prop
abbrev TA:=St->Hp->(List V->Hp->Prop)->Prop
structure Ends where
 nx:St->Hp->Prop
 rt:VK
 bk:St->Hp->Prop:=λ_ _=>False
 ct:St->Hp->Prop:=λ_ _=>False
abbrev TS:=Ends->St->Hp->Prop
inductive EP(X:Cx)(aaN:aa3)(Z:St)(Q:VK)(u:ay)(s':ca):Prop
 |mk (v:V) (H':Hp) (h0:Inv X aaN Z H' s') (h1:RelV v u) (h2:Q v H'):EP X aaN Z Q u s'
inductive TP(X:Cx)(aaN:aa3)(Z:St)(Q:Bool->Hp->Prop)(b:Bool)(s':ca):Prop
 |mk (H':Hp) (h0:Inv X aaN Z H' s') (h1:Q b H'):TP X aaN Z Q b s'
inductive AP(X:Cx)(aaN:aa3)(Z:St)(Q:List V->Hp->Prop)(us:aaY)(s':ca):Prop
 |mk (vs:List V) (H':Hp) (h0:Inv X aaN Z H' s') (h1:Vals vs us) (h2:Q vs H'):AP X aaN Z Q us s'
def SP(X:Cx)(aaN:aa3)(D:Ends)(f:Flow)(s':ca):Prop:=
 match f with
 |.next=>∃σ' H',Inv X aaN σ' H' s'/\D.nx σ' H'
 |.brk=>∃σ' H',Inv X aaN σ' H' s'/\D.bk σ' H'
 |.cont=>∃σ' H',Inv X aaN σ' H' s'/\D.ct σ' H'
 |.ret u=>∃v σ' H',Inv X aaN σ' H' s'/\RelV v u/\D.rt v H'
def PE(X:Cx)(e:fy)(t:TE):Prop:=
 ∀(aaN:aa3)(s:ca)(Z:St)(H:Hp)(Q:VK),Inv X aaN Z H s->t Z H Q->cT (eX X.prog X.w) X.A (g3 e X.env) (EP X aaN Z Q) X.xe s
def PT(X:Cx)(e:fy)(t:TT):Prop:=
 ∀(aaN:aa3)(s:ca)(Z:St)(H:Hp)(Q:Bool->Hp->Prop),Inv X aaN Z H s->t Z H Q->cT (eX X.prog X.w) X.A (isTrue e X.env<|eval e X.env) (TP X aaN Z Q) X.xe s
def PW(X:Cx)(e:fy)(t:TT):Prop:=
 ∀(whole:Sem ay)(aaN:aa3)(s:ca)(Z:St)(H:Hp)(Q:Bool->Hp->Prop),Inv X aaN Z H s->t Z H Q->cT (eX X.prog X.w) X.A (isTrue e X.env whole) (TP X aaN Z Q) X.xe s
theorem Tq(h:PW X e t):PT X e t:=h _
def PA(X:Cx)(es:aa0)(t:TA):Prop:=
 ∀(pos:Pos)(aaN:aa3)(s:ca)(Z:St)(H:Hp)(Q:List V->Hp->Prop),Inv X aaN Z H s->t Z H Q->cT (eX X.prog X.w) X.A (spliced<|backTo pos<|starEach es X.env) (AP X aaN Z Q) X.xe s
def PS(X:Cx)(st:rc)(t:TS):Prop:=
 ∀(aaN:aa3)(s:ca)(Z:St)(H:Hp)(D:Ends),Inv X aaN Z H s->t D Z H->cT (eX X.prog X.w) X.A (exec st X.env) (SP X aaN D) X.xe s
def B5(X:Cx)(st:aa1)(t:TS):Prop:=
 ∀(aaN:aa3)(s:ca)(Z:St)(H:Hp)(D:Ends),Inv X aaN Z H s->t D Z H->cT (eX X.prog X.w) X.A (execs st X.env) (SP X aaN D) X.xe s
theorem bz(h:cT M A t Q E s)(g:∀a s,Q a s->Q' a s):cT M A t Q' E s:=k6 h g λ_ _ x=>x
section
def tVar(i:Nat):TE:=λZ H Q=>∃v,Z[i]?=ap (ap v)/\Q v H
def tC(v:V):TE:=λ_ H Q=>Q v H
theorem PZ(y:X.N[i]?=ap x)(z:QB X.env.scope x)(g:(x==("__debug__":Str))=false:=by decide)(hcd:(x==("__classdict__":Str))=false:=by decide):PE X (.Name x pos) (tVar i):=by
 rintro aaN s Z H Q I ⟨v,e,h⟩
 obtain⟨m,j,n⟩:=I.loc;obtain⟨u,r,l⟩:=n i x v y e z;have fin:EP X _ Z Q u s:=#[v,H,I,r,h];rcases l with⟨hk,q⟩|⟨hk,c,hc,hcell⟩
 .exact wpAny_Name (aaE I.ok.kind hk j q fin) g
 rcases hk with hk|hk
 .exact wpAny_Name (wpAny_loadName_cell I.ok.kind hk hc hcell fin) g
 exact wpAny_Name (wpAny_loadName_free I.ok.kind hk hc hcell fin hcd) g
theorem Ni{i j pos}:PE X (.Constant (.int i) j pos) (tC<|.int i):=λ_ _ _ H _ I h=>wpAny_Constant_int #[.int i,H,I.tok _,#[_,rfl],h]
theorem Sl{b j pos}:PE X (.Constant (.bool b) j pos) (tC<|.bl b):=λ_ _ _ H _ I h=>Constant_bool #[.bl b,H,I,rfl,h]
theorem Oe{j pos}:PE X (.Constant .none j pos) (tC .non):=λ_ _ _ H _ I h=>Constant_none #[.non,H,I,rfl,h]
theorem Fm{x j pos}:PE X (.Constant (.str x) j pos) (tC<|.str x):=λ_ _ _ H _ I h=>Calls.Constant_str #[.str x,H,I.tok _,#[_,rfl],h]
def Gl(X:Cx)(x:Str):Prop:=X.env.kindOf x=ap .globalImplicit
theorem jk(I:Inv X aaN Z H s)(l:Gl X x)(j:X.mg x=ap u)(h:Q u s)(g:(x==("__debug__":Str))=false:=by decide):cT (eX X.prog X.w) X.A (g3 (.Name x pos) X.env) Q E s:=
 XS I.ok.kind l (Calls.loadGlobal_global (by rw[I.ok.glob];exact I.mod.glob.keeps I.bk) j h) g
theorem df(I:Inv X aaN Z H s)(v:Gl X x)(q:X.mg x=bb)(l:fv x=ap u)(h:Q u s)(n:x≠"__name__":=by decide)(hd:(x==("__debug__":Str))=false:=by decide):cT (eX X.prog X.w) X.A (g3 (.Name x pos) X.env) Q E s:=by
 obtain⟨y,g,j⟩:=I.mod.blt;exact XS I.ok.kind v (Calls.loadGlobal_builtin (by rw[I.ok.glob];exact I.mod.glob.keeps I.bk) q (by rw[I.ok.blt];exact g.keeps I.bk) ((j x n).trans l) h) hd
theorem JW(n:Gl X x)(l:X.mg x=bb)(g:fv x=ap u)(r:RelV v u)(j:x≠"__name__":=by decide)(hd:(x==("__debug__":Str))=false:=by decide):PE X (.Name x pos) (tC v):=
 λ_ _ _ H _ I h=>df I n l g #[v,H,I,r,h] j hd
variable{a b:fy}
def tAnd(t u:TT):TT:=λZ H Q=>t Z H λc H1=>if c=true then u Z H1 Q else Q cp H1
def tOr(t u:TT):TT:=λZ H Q=>t Z H λc H1=>if c=true then Q true H1 else u Z H1 Q
def tNot(t:TT):TT:=λZ H Q=>t Z H λc H1=>Q (!c) H1
theorem IZ(g:PT X a tA):PW X (.BoolOp .And [a] pos) tA:=by
 intro l aaN s Z H Q I h;refine isTrue_and (bz (g _ s Z H Q I h) λc j e=>?_);cases c with
 |true=>exact isTrue_and_nil e
 |false=>exact e
theorem PP(g:PT X a tA):PW X (.BoolOp .Or [a] pos) tA:=by
 intro l aaN s Z H Q I h;refine isTrue_or (bz (g _ s Z H Q I h) λc j e=>?_);cases c with
 |false=>exact isTrue_or_nil e
 |true=>exact e
theorem PX(q:PT X a tA)(v:PW X (.BoolOp .And (b::rest) pos) tB'):PW X (.BoolOp .And (a::b::rest) pos) (tAnd tA tB'):=by
 intro l aaN s Z H Q I h;refine isTrue_and (bz (q _ s Z H _ I h) λc j n=>?_);obtain⟨H1,I1,g⟩:=n;cases c with
 |true=>exact v l _ j Z H1 Q I1 g
 |false=>exact#[H1,I1,g]
theorem Rq(q:PT X a tA)(v:PW X (.BoolOp .Or (b::rest) pos) tB'):PW X (.BoolOp .Or (a::b::rest) pos) (tOr tA tB'):=by
 intro l aaN s Z H Q I h;refine isTrue_or (bz (q _ s Z H _ I h) λc j n=>?_);obtain⟨H1,I1,g⟩:=n;cases c with
 |true=>exact#[H1,I1,g]
 |false=>exact v l _ j Z H1 Q I1 g
theorem Qn(g:PT X a tA):PT X (.UnaryOp .Not a pos) (tNot tA):=by
 intro aaN s Z H Q I h;exact isTrue_not (k6 (g _ s Z H _ I h) (λc j z=>by cases z with|mk a b d=>exact#[a,b,d]) λ_ _ e=>e)
def S5(ta tb:TE):TE:=λZ H Q=>ta Z H λx H1=>∃c,x=.bl c/\if c=true then tb Z H1 Q else Q (.bl cp) H1
def SF(ta:TE):TE:=λZ H Q=>ta Z H λx H1=>∃c,x=.bl c/\Q (.bl<|!c) H1
theorem Ol{op}(h:PE X a t):PE X (.BoolOp op [a] pos) t:=λaaN s Z H Q I g=>BoolOp_one (h _ s Z H Q I g)
theorem Qy(q:PE X a ta)(y:PE X (.BoolOp .And (b::rest) pos) tb):PE X (.BoolOp .And (a::b::rest) pos) (S5 ta tb):=by
 intro aaN s Z H Q I h;refine BoolOp_and (bz (q _ s Z H _ I h) λv j n=>?_);obtain⟨x,H1,I1,l,g⟩:=n;obtain⟨c,rfl,g⟩:=g;cases l;refine z5 ?_;cases c with
 |true=>exact y _ j Z H1 Q I1 g
 |false=>exact#[.bl _,H1,I1,rfl,g]
theorem Oh(n:PE X a ta):PE X (.UnaryOp .Not a pos) (SF ta):=by
 intro aaN s Z H Q I h;refine UnaryOp_ (bz (n _ s Z H _ I h) λv q l=>?_);obtain⟨x,H1,I1,j,g⟩:=l;obtain⟨c,rfl,g⟩:=g;cases j;exact not_of (z5 #[.bl !c,H1,I1,rfl,g])
def tIf(t:TT)(ta tb:TE):TE:=λZ H Q=>t Z H λc H1=>if c=true then ta Z H1 Q else tb Z H1 Q
theorem Ha(n:PT X c tA)(q:PE X a ta)(v:PE X b tb):PE X (.IfExp c a b pos) (tIf tA ta tb):=by
 intro aaN s Z H Q I h;refine wpAny_IfExp (bz (n _ s Z H _ I h) λd j l=>?_);obtain⟨H1,I1,g⟩:=l;cases d with
 |true=>exact q _ j Z H1 Q I1 g
 |false=>exact v _ j Z H1 Q I1 g
end
def SqL(K:TH)(H:Hp)(a:cb)(xs:List V):Prop:=
 Rd H a (.lst xs)\/
  ∃(o:Obj)(aaT:aa5)(n:Nat),K.lookup a=ap o/\o.cls=.type "list"/\o.dict=bb/\o.data=.seq aaT n/\aaT.size<=sizeLine/\Vals xs aaT.toList
def ke(K:TH)(H:Hp)(a:cb)(xs:List V):Prop:=
 Rd H a (.tup xs)\/
  ∃(o:Obj)(aaT:aa5)(n:Nat),K.lookup a=ap o/\o.cls=.type "tuple"/\o.data=.seq aaT n/\aaT.size<=sizeLine/\Vals xs aaT.toList
noncomputable def absV:ay->Option V
 |.none=>ap .non
 |.bool b=>ap (.bl b)
 |.int i _=>ap (.int i)
 |.str x _=>ap (.str x)
 |.bytes b _=>ap (.byt b)
 |.float b _=>ap (.flt b)
 |.ref a=>ap (.ref a)
 |.type n=>ap (.ty n)
 |_=>bb
theorem RelV.abs{x:V}(r:RelV x u):absV u=ap x:=by
 cases x with
 |non=>cases r;rfl
 |bl _=>cases r;rfl
 |int _=>obtain⟨t,rfl⟩:=r;rfl
 |str _=>obtain⟨t,rfl⟩:=r;rfl
 |byt _=>obtain⟨t,rfl⟩:=r;rfl
 |flt _=>obtain⟨t,rfl⟩:=r;rfl
 |ref _=>cases r;rfl
 |ty _=>cases r;rfl
theorem RelV.inj{x:V}(r:RelV x u)(q:RelV y u):x=y:=UP (r.abs.symm.trans q.abs)
theorem Vals.inj:∀{xs ys:List V}{us:aaY},Vals xs us->Vals ys us->xs=ys:=by
 intro xs ys us h
 induction h generalizing ys with
 |nil=>intro h';cases h';rfl
 |cons r _ ih=>intro h';cases h' with|cons r' t'=>rw[r.inj r',ih t']
theorem SqL.of(h:H a=ap (.lst xs)):SqL K H a xs:=.inl (.inl h)
theorem Inv.list(I:Inv X aaN Z H s)(h:SqL X.K H a xs):∃aaT:List ay,Vals xs aaT/\PlainL s.heap a aaT.toArray/\xs.length<=sizeLine:=by
 rcases h with h|⟨o,aaT,n,hk,hc,hd,hs,hz,r⟩
 .obtain⟨z,aaT,n,r,e⟩:=h.ok I.hok
  exact#[_,r,#[_,n,e,rfl,rfl,rfl],z]
 refine#[_,r,#[o,n,I.kIn a o hk,hc,hd,by simpa using hs],?_]
 have e:=r.length;simp only[Ve]at e;lia
theorem Inv.tuple(I:Inv X aaN Z H s)(h:ke X.K H a xs):∃aaT:List ay,Vals xs aaT/\IsTup s.heap a aaT.toArray/\xs.length<=sizeLine:=by
 rcases h with h|⟨o,aaT,n,hk,hc,hs,hz,r⟩
 .obtain⟨z,aaT,r,g,e,c,_⟩:=h.ok I.hok
  exact#[_,r,#[g,e,c],z]
 refine#[_,r,#[o,I.kIn a o hk,hc,n,by simpa using hs],?_]
 have e:=r.length;simp only[Ve]at e;lia
theorem Inv.list_inj(I:Inv X aaN Z H s)(h:SqL X.K H a xs)(h':SqL X.K H a ys):xs=ys:=by
 obtain⟨j,r,⟨o,n,e,_,_,d⟩,_⟩:=I.list h;obtain⟨g,v,⟨z,y,l,_,_,q⟩,_⟩:=I.list h';rw[e]at l;cases l;rw[d]at q
 injection q with d1 _
 have:j=g:=by simpa using congrArg Wm d1
 subst this;exact r.inj v
theorem Inv.tuple_inj(I:Inv X aaN Z H s)(h:ke X.K H a xs)(h':ke X.K H a ys):xs=ys:=by
 obtain⟨j,r,⟨o,e,_,n,d⟩,_⟩:=I.tuple h;obtain⟨g,v,⟨z,l,_,y,q⟩,_⟩:=I.tuple h';rw[e]at l;cases l;rw[d]at q
 injection q with d1 _
 have:j=g:=by simpa using congrArg Wm d1
 subst this;exact r.inj v
noncomputable abbrev Cx.wish(X:Cx)(E:aa2):Cx:={ X with xe:=E }
abbrev Cx.nox(X:Cx):Cx:=X.wish λ_ _=>False
theorem Cx.Ok.wish(ok:X.Ok)(E:aa2):(X.wish E).Ok:=
 #[ok.mod,ok.kind,ok.glob,ok.blt,ok.above,ok.inj,ok.has,ok.cab,ok.hd,ok.frames,ok.stk,ok.exf,ok.bs,ok.bsz,ok.noex,ok.exfs,ok.funs,ok.frf]
theorem Cx.Ok.unwish(ok:(X.wish E).Ok):X.Ok:=
 #[ok.mod,ok.kind,ok.glob,ok.blt,ok.above,ok.inj,ok.has,ok.cab,ok.hd,ok.frames,ok.stk,ok.exf,ok.bs,ok.bsz,ok.noex,ok.exfs,ok.funs,ok.frf]
theorem Inv.wish(I:Inv X aaN Z H s)(E:aa2):Inv (X.wish E) aaN Z H s:=#[I.ok.wish E,I.os,I.bare,I.base,I.loc,I.cell,I.free,I.freeC,I.pin,I.hok,I.len]
theorem Inv.unwish(I:Inv (X.wish E) aaN Z H s):Inv X aaN Z H s:=#[I.ok.unwish,I.os,I.bare,I.base,I.loc,I.cell,I.free,I.freeC,I.pin,I.hok,I.len]
section
variable{st:rc}
def QY:TS:=λD Z H=>D.nx Z H
def tSeq(t u:TS):TS:=λD Z H=>t { D with nx:=u D } Z H
theorem Lf:B5 X [] QY:=λ_ _ Z H _ I h=>K' #[Z,H,I,h]
theorem FG(l:PS X st t)(n:B5 X rest u):B5 X (st::rest) (tSeq t u):=by
 intro aaN s Z H D I h;refine Z6 (bz (l _ s Z H _ I h) λf j q=>?_);cases f with
 |next=>
  obtain⟨g,H',I',q⟩:=q;exact n _ j _ H' D I' q
 |ret v=>exact q
 |brk=>exact q
 |cont=>exact q
theorem Jn(g:PS X st t):B5 X [st] t:=by
 intro aaN s Z H D I h;refine Z6 (bz (g _ s Z H D I h) λf j q=>?_);cases f with
 |next=>exact K' q
 |ret v=>exact q
 |brk=>exact q
 |cont=>exact q
theorem Inv.quiet(I:Inv X aaN Z H s):interactive X.env=false:=by simp[interactive,I.ok.kind]
def Tg(te:TE):TS:=λD Z H=>te Z H λ_ H1=>D.nx Z H1
theorem J3(l:PE X e te)(j:vr e bb pos.line X.env=pure false:=by rfl):PS X (.Expr e pos) (Tg te):=by
 intro aaN s Z H D I h;exact wpAny_Expr_any (bz (l _ s Z H _ I h)<|by rintro v n ⟨x,H1,I1,q,g⟩;exact#[Z,H1,I1,g]) I.quiet j
def tRet(te:TE):TS:=λD Z H=>te Z H D.rt
theorem Q6(l:PE X e te):PS X (.Return (ap e) pos) (tRet te):=by
 intro aaN s Z H D I h;exact wpAny_Return_some (bz (l _ s Z H _ I h)<|by rintro v n ⟨x,H1,I1,j,g⟩;exact#[x,Z,H1,I1,j,g])
def tIfS(c:TT)(t u:TS):TS:=λD Z H=>c Z H λb H1=>if b=true then t D Z H1 else u D Z H1
theorem Sw{a b:aa1}(q:PT X c l)(v:B5 X a t)(y:B5 X b u):PS X (.If c a b pos) (tIfS l t u):=by
 intro aaN s Z H D I h;refine wpAny_If (bz (q _ s Z H _ I h) λd j n=>?_);obtain⟨H1,I1,g⟩:=n;cases d with
 |true=>exact v _ j Z H1 D I1 g
 |false=>exact y _ j Z H1 D I1 g
end
abbrev TG:=V->St->Hp->(St->Hp->Prop)->Prop
abbrev MM:=List V->St->Hp->(St->Hp->Prop)->Prop
def PG(X:Cx)(target:fy)(t:TG):Prop:=
 ∀(aaN:aa3)(s:ca)(Z:St)(H:Hp)(v:V)(u:ay)(Q:St->Hp->Prop),Inv X aaN Z H s->RelV v u->t v Z H Q->
  cT (eX X.prog X.w) X.A (Z9 target X.env u) (λ_ g=>∃σ' H',Inv X aaN σ' H' g/\Q σ' H') X.xe s
def Oi(X:Cx)(ts:aa0)(t:MM):Prop:=
 ∀(aaN:aa3)(s:ca)(Z:St)(H:Hp)(vs:List V)(us:aaY)(Q:St->Hp->Prop),Inv X aaN Z H s->Vals vs us->t vs Z H Q->
  cT (eX X.prog X.w) X.A (assignInOrder ((pb ts X.env).map (·.2)) us) (λ_ g=>∃σ' H',Inv X aaN σ' H' g/\Q σ' H') X.xe s
abbrev N7:=V->V->V->Hp->(Hp->Prop)->Prop
def Nd(X:Cx)(t:N7):Prop:=
 ∀(aaN:aa3)(s:ca)(Z:St)(H:Hp)(o i v:V)(ov iv u:ay)(Q:Hp->Prop),Inv X aaN Z H s->RelV o ov->RelV i iv->RelV v u->t o i v H Q->
  cT (eX X.prog X.w) X.A (setItem ov iv u) (λ_ g=>∃H',Inv X aaN Z H' g/\Q H') X.xe s
abbrev TIp:=V->V->Hp->VK->Prop
def Oa(X:Cx)(op:ZR)(t:TIp):Prop:=
 ∀(aaN:aa3)(s:ca)(Z:St)(H:Hp)(x y:V)(v u:ay)(Q:VK),Inv X aaN Z H s->RelV x v->RelV y u->t x y H Q->
  cT (eX X.prog X.w) X.A (inplaceOp op v u) (EP X aaN Z Q) X.xe s
def MN(i:Nat):TG:=λv Z H Q=>Q (Z.set i<|some v) H
theorem K0(g:X.N.Nodup)(j:X.N[i]?=ap x)(l:Ej X.env.scope x)(n:X.fn x=true\/X.env.scope.names.lookup x=ap .local:=by and_intros):PG X (.Name x pos) (MN i):=by
 intro aaN s Z H v u Q I r h;exact wpAny_assign_Name (nM I g j l r (λq I'=>#[_,H,I',h]) n)
def gNil:MM:=λg Z H Q=>g=[]/\Q Z H
def Tl(t:TG)(u:MM):MM:=λj Z H Q=>∃v r,j=v::r/\t v Z H λg H'=>u r g H' Q
theorem JP:Oi X [] gNil:=by
 rintro aaN s Z H g us Q I r ⟨e,h⟩
 exact assignInOrder_nil #[Z,H,I,h]
theorem Gc(n:PG X e t)(q:Oi X es u)(y:(pb (e::es) X.env).map (·.2)=Z9 e X.env::(pb es X.env).map (·.2):=by rfl):Oi X (e::es) (Tl t u):=by
 rintro aaN s Z H z us Q I r ⟨v,B,g,h⟩
 subst g;cases r with
 |cons r rr=>
  rw[y];exact assignInOrder_cons (bz (n _ s Z H _ _ _ I r h)<|by rintro _ l ⟨_,H1,I1,j⟩;exact(q _ l _ H1 _ _ Q I1 rr j))
def gTup(K:TH)(n:Nat)(t:MM):TG:=λv Z H Q=>∃a xs,v=.ref a/\ke K H a xs/\xs.length=n/\t xs Z H Q
theorem Qh(hc:X.calm=true)(h:Oi X es t)(hn:(pb es X.env).length=n:=by rfl)(hst:(pb es X.env).findIdx? (·.1)=none:=by rfl):PG X (.Tuple es k pos) (gTup X.K n t):=by
 rintro aaN s Z H v u Q I r ⟨a,xs,e1,hq,hl,hw⟩
 subst e1;cases r;obtain⟨aaT,rv,ht,hz⟩:=I.tuple hq;refine assign_Tuple_tuple (I.ok.hd hc) ht (by simp[hn,<- hl,rv.length]) hst λh' hx=>?_
 have I1:Inv X _ Z H _:=I.kept (t':=s.toks) λb o e=>hx b o (TX<|TC e) e;exact h _ _ Z H xs _ Q I1 (by trivial) hw
def gSub(to ti:TE)(t:N7):TG:=λv Z H Q=>to Z H λo H1=>ti Z H1 λi H2=>t o i v H2 λH3=>Q Z H3
theorem Pu{i:fy}(G:PE X o to)(O:PE X i g)(L:Nd X t)(J:∀v,Z9 (.Subscript o i pos) X.env v=(do
   let ov <- vb [v] (g3 o X.env)
   let iv <- vb [v,ov] (g3 i X.env)
   V_ pos
   vb [v,ov,iv] (setItem ov iv v)
   release [v,ov,iv] []):=by intro _;rfl):PG X (.Subscript o i pos) (gSub to g t):=by
 intro aaN s Z H v u Q I r h;rw[J];refine ax (kL (bz (G _ s Z H _ I h) λov z n=>?_));obtain⟨x,H1,I1,B,j⟩:=n;exact ax (kL<|bz (O _ z Z H1 _ I1 j)<|by rintro iv s2 ⟨y,H2,I2,q,F⟩;exact(ax<|wpAny_standAt<|wpAny_bind<|wpAny_holding<|bz (L aaN s2 Z H2 x y v ov iv u _ I2 B q r F)<|by rintro _ R ⟨H3,I3,l⟩;exact(wpAny_release #[Z,H3,I3,l])))
def RO(te:TE)(g:TG):TS:=λD Z H=>te Z H λx H1=>g x Z H1 D.nx
theorem NB(B:PE X e te)(F:PG X tg g)(z:swapsWithSole [tg] e pos.line X.env=pure false:=by rfl)(hw:swappedStores [tg] e X.env=pure none:=by rfl)(h1:(pb [tg] X.env).map (·.2)=[Z9 tg X.env]:=by rfl):PS X (.Assign [tg] e pos) (RO te g):=by
 intro aaN s Z H D I h;refine wpAny_Assign_stores (bz (B _ s Z H _ I h) λv l y=>?_) z hw;obtain⟨x,H1,I1,n,j⟩:=y;rw[h1];exact bz (F _ l Z H1 x v _ I1 n j) λ_ s2 q=>q
theorem OA(l:X.N.Nodup)(B:X.N[i]?=ap x)(z:Ej X.env.scope x)(n:PE X e te)(q:vr e (ap<|.Name x pos') pos.line X.env=pure false:=by rfl)(hf:X.fn x=true\/X.env.scope.names.lookup x=ap .local:=by and_intros):
  PS X (.Assign [.Name x pos'] e pos) (RO te<|MN i):=by
 intro aaN s Z H D I h;refine wpAny_Assign_Name (bz (n aaN s Z H _ I h) λv F ⟨y,H1,I1,j,g⟩=>?_) q;exact nM I1 l B z j (λs2 I2=>#[_,H1,I2,g]) hf
def tAug(i:Nat)(te:TE)(ti:TIp):TS:=λD Z H=>∃x,Z[i]?=ap (ap x)/\te Z H λy H1=>ti x y H1 λz H2=>D.nx (Z.set i<|some z) H2
theorem OJ(Y:X.N.Nodup)(F:X.N[i]?=ap x)(q:Ej X.env.scope x)(he:PE X e te)(ho:Oa X op B)(hf:X.fn x=true\/X.env.scope.names.lookup x=ap .local:=by and_intros):
  PS X (.AugAssign (.Name x pos') op e pos) (tAug i te B):=by
 rintro aaN s Z H D I ⟨v,U,h⟩
 obtain⟨m,J,S⟩:=I.loc;have n:QB X.env.scope x:=by rcases q with k|k;exact .inl k;exact .inr (.inl k)
 obtain⟨u,r,l⟩:=S i x v F U n;refine wpAny_AugAssign_Name ?_;have go:cT (eX X.prog X.w) X.A (g3 e X.env) (λw g=>cT (eX X.prog X.w) X.A (inplaceOp op u w) (λr j=>cT (eX X.prog X.w) X.A (storeName X.env x r) (λ_=>SP X aaN D .next) X.xe j) X.xe g) X.xe s:=by
  exact bz (he _ s Z H _ I h) (by rintro w G ⟨y,H1,I1,R,L⟩;exact bz (ho aaN G Z H1 v y u w _ I1 r R L) (by rintro z s2 ⟨zv,H2,I2,O,T⟩;exact nM I2 Y F q O (λs3 I3=>#[_,H2,I3,T]) hf))
 rcases l with⟨hk,W⟩|⟨hk,c,hc,hcell⟩
 .exact aaE I.ok.kind hk J W go
 rcases hk with hk|hk
 .exact wpAny_loadName_cell I.ok.kind hk hc hcell go
 rcases q with k|k
 .have:X.env.scope.names.lookup x=ap .free:=hk
  rw[k]at this;cases this
 .have:X.env.scope.names.lookup x=ap .free:=hk
  rw[k]at this;cases this
def ipI(f:Int->Int->Int):TIp:=λx y H Q=>∃i j,x=.int i/\y=.int j/\Q (.int<|f i j) H
theorem N_:Oa X .Add (ipI λi j=>i+j):=by
 rintro aaN s Z H x y v u Q I z n ⟨i,j,g,l,q⟩
 subst g l;obtain⟨t,rfl⟩:=z;obtain⟨t',rfl⟩:=n;exact iadd_int #[.int _,H,I.tok _,#[_,rfl],q]
def Q5(c:TT)(tb:TS):TS:=λD Z H=>∃W:Nat->St->Hp->Prop,(∃m,W m Z H)/\∀m Z H,W m Z H->
 c Z H λb H1=>if b=true then ∃N:St->Hp->Prop,(∀σ' H',N σ' H'->∃m',m'<m/\W m' σ' H')/\tb { D with nx:=N,ct:=N,bk:=D.nx } Z H1 else D.nx Z H1
theorem FW(G:aas (eX X.prog X.w) X.A X.env X.xe)(hc:PT X c J)(hb:B5 X body tb):PS X (.While c body [] pos) (Q5 J tb):=by
 rintro aaN s Z H D I ⟨W,⟨S,L⟩,turn⟩
 refine wpAny_While (codeAny_whileLoop (λn U=>∃σ' H',Inv X _ σ' H' U/\W n σ' H') ?_ S #[Z,H,I,L])
 rintro n T ⟨Y,H1,I1,R⟩
 refine x9 G (bz (hc _ T _ H1 _ I1<|turn n _ H1 R) λb s2 O=>?_);obtain⟨H2,I2,j⟩:=O;cases b with
 |true=>
  obtain⟨N,F,j⟩:=j;refine x9 G (bz (hb _ s2 _ H2 _ I2 j) λf s3 g=>?_);cases f with
  |next=>
   obtain⟨l,H3,I3,z⟩:=g;obtain⟨y,q,B⟩:=F _ H3 z;exact#[y,q,_,H3,I3,B]
  |cont=>
   obtain⟨l,H3,I3,z⟩:=g;obtain⟨y,q,B⟩:=F _ H3 z;exact#[y,q,_,H3,I3,B]
  |brk=>exact g
  |ret v=>exact g
 |false=>
  exact K' #[_,H2,I2,j]
structure It where
 go:Nat->Hp->Prop
 yld:Nat->Hp->V->Hp->Prop
 stop:Nat->Hp->Prop
def jH(X:Cx)(aaN:aa3)(H:Hp)(b:cb):Prop:=
 H b=bb/\b≠X.env.locals/\b∉X.fs/\(b∈X.ex\/X.s₀.heap.objs.size<=b)/\(∀x c,X.env.cells.lookup x=ap c->c≠b)/\∀p∈X.pn++aaN,p.1≠b
theorem Inv.fpOk(I:Inv X aaN Z H s)(g:s.heap.objs.size<=b)(l:H' b=bb):jH X aaN H' b:=by
 refine#[l,V0 (Uc I.lt g),I.nofs g,.inr (TR I.sz g),λx c e z=>?_,λp j z=>?_]
 .obtain⟨v,q⟩:=I.cell x c e
  exact absurd (Uc q.lt<|by simp_all) (UB _)
 exact absurd (Uc (TC (I.pin p j).1)<|by rw[z];exact g) (UB _)
structure Turn(P:fx)(w:hG)(K:TH)(tg:fy)(J:It)(fp:aaZ)(it:cb)(tn:Nat->g4->Prop):Prop where
 mem:it∈fp
 obj:∀i h,tn i h->∀b∈fp,∃o,h.get? b=ap o/\∀v,o.data≠.cell v
 keep:∀i h h',tn i h->(∀b∈fp,∀o,h.get? b=ap o->h'.get? b=ap o)->tn i h'
 item:∀(X:Cx),X.prog=P->X.w=w->X.K=K->X.calm=true->∀(i:Nat)(aaN:aa3)(s:ca)(Z:St)(H:Hp)(E:aa2),Inv X aaN Z H s->(∀b∈fp,jH X aaN H b)->tn i s.heap->J.go i H->
  cT (eX P w) X.A (G'<|.ref it) (λr s1=>∃u,r=ap u/\
   cT (eX P w) X.A (X_ tg (.ref it) u) (λ_ s2=>∃x H',Inv X aaN Z H' s2/\RelV x u/\J.yld i H x H'/\tn (i+1) s2.heap/\∀b∈fp,H' b=bb) E s1) E s
 done:∀(X:Cx),X.prog=P->X.w=w->X.K=K->X.calm=true->∀(i:Nat)(aaN:aa3)(s:ca)(Z:St)(H:Hp)(E:aa2),Inv X aaN Z H s->(∀b∈fp,jH X aaN H b)->tn i s.heap->J.stop i H->
  cT (eX P w) X.A (G'<|.ref it) (λr s1=>r=bb/\Inv X aaN Z H s1) E s
 self:∀(A:h7)(i:Nat)(s:ca)(Q:aa2)(E:aa2),tn i s.heap->Q (.ref it) s->cT (eX P w) A (W_<|.ref it) Q E s
abbrev TI:=St->Hp->(It->Hp->Prop)->Prop
def PIE(X:Cx)(aaN:aa3)(Z:St)(tg:fy)(R:It->Hp->Prop)(itv:ay)(s2:ca):Prop:=
 ∃(it:cb)(fp:aaZ)(tn:Nat->g4->Prop)(J:It)(H':Hp),itv=.ref it/\Inv X aaN Z H' s2/\Turn X.prog X.w X.K tg J fp it tn/\tn 0 s2.heap/\(∀b∈fp,jH X aaN H' b)/\R J H'
def PI(X:Cx)(tg iter:fy)(wi:TI):Prop:=
 ∀(aaN:aa3)(s:ca)(Z:St)(H:Hp)(R:It->Hp->Prop),Inv X aaN Z H s->wi Z H R->
  cT (eX X.prog X.w) X.A (g3 iter X.env) (λv g=>cT (eX X.prog X.w) X.A (W_ v) (PIE X aaN Z tg R) X.xe g) X.xe s
theorem vX(q:s.heap.get? j=ap o)(l:o.cls=.type n)(y:o.data=.fields vs)(v:["enumerate","zip","dict_itemiterator","dict_reverseitemiterator","odict_iterator","itertools.zip_longest","itertools.pairwise"].contains n=cp)(g:Q () s):cT M A (X_ tg (.ref j) u) Q E s:=by
 unfold X_
 cases tg<;>first
  |exact cx g
  |(cases u<;>first
    |exact cx g
    |(refine ax (wpAny_load q ?_)
      rw[l,y];show cT M A (if (["enumerate","zip","dict_itemiterator","dict_reverseitemiterator","odict_iterator","itertools.zip_longest","itertools.pairwise"].contains n&&vs[0]?==ap (z4 _))=true then _ else _) Q E s
      rw[if_neg (by intro h;rw[v,X2]at h;cases h)]
      exact cx g))
noncomputable def Itl(K:TH)(a:cb):It:=
 #[λi H=>∃xs x,SqL K H a xs/\xs[i]?=ap x,λi H x H'=>H'=H/\∀xs,SqL K H a xs->xs[i]?=ap x,λi H=>∃xs,SqL K H a xs/\xs.length<=i]
noncomputable def Itt(K:TH)(a:cb):It:=
 #[λi H=>∃xs x,ke K H a xs/\xs[i]?=ap x,λi H x H'=>H'=H/\∀xs,ke K H a xs->xs[i]?=ap x,λi H=>∃xs,ke K H a xs/\xs.length<=i]
noncomputable def Itr(lo:Int)(n:Nat):It:=#[λi _=>i<n,λi H x H'=>H'=H/\x=.int (lo+i),λi _=>n<=i]
theorem Dt(a l:cb):Turn P w K tg (Itl K a) [l] l (λi h=>h.IsListIter l a i) where
 mem:=by simp
 obj:=λi h g b j=>by
  obtain⟨o,e,c,d⟩:=g
  simp_all
 keep:=λi h h' g k=>g.at λo e=>k l (by simp) o e
 item:=by
  intro X U O z W i aaN s Z H E I v g J;subst U O z;obtain⟨Y,x,q,S⟩:=J;obtain⟨G,y,p,hz⟩:=I.list q;obtain⟨u,hu,ru⟩:=y.get S;obtain⟨L,R,f2,F,B,T⟩:=v l (by simp)
  refine aau g p.isList (x:=u) (by simp_all) λh' n sb=>?_
  have I1:Inv X _ Z H _:=I.turned (t':=s.toks) (λb o j e=>(sb.2 b j).trans e) L R F B T;obtain⟨o,e,c,d⟩:=id n;exact#[u,rfl,vX e c d (by decide) #[x,H,I1,ru,#[rfl,λys hy=>by rw[I.list_inj hy q];exact S],n,λb j=>(v b j).1]]
 done:=by
  intro X U O z W i aaN s Z H E I v g J;subst U O z;obtain⟨Y,q,S⟩:=J;obtain⟨G,y,p,hz⟩:=I.list q;obtain⟨L,R,f2,F,B,T⟩:=v l (by simp)
  have hl:=y.length;exact aaC (I.ok.hd W) g p.isList (by simp;lia) λh' eb=>#[rfl,I.turned (λb o j e=>eb b o j e) L R F B T]
 self:=λ_ _ _ _ _ g h=>wpAny_pyIter_listiter g h
theorem xc(a l:cb):Turn P w K tg (Itt K a) [l] l (λi h=>h.IsTupleIter l a i) where
 mem:=by simp
 obj:=λi h g b j=>by
  obtain⟨o,e,c,d⟩:=g
  simp_all
 keep:=λi h h' g k=>g.at λo e=>k l (by simp) o e
 item:=by
  intro X U O z W i aaN s Z H E I v g J;subst U O z;obtain⟨Y,x,q,S⟩:=J;obtain⟨G,y,p,hz⟩:=I.tuple q;obtain⟨u,hu,ru⟩:=y.get S;obtain⟨L,R,f2,F,B,T⟩:=v l (by simp)
  refine wpAny_pyNext_tuple_item g p (x:=u) (by simp_all) λh' n sb=>?_
  have I1:Inv X _ Z H _:=I.turned (t':=s.toks) (λb o j e=>(sb.2 b j).trans e) L R F B T;obtain⟨o,e,c,d⟩:=id n;exact#[u,rfl,vX e c d (by decide) #[x,H,I1,ru,#[rfl,λys hy=>by rw[I.tuple_inj hy q];exact S],n,λb j=>(v b j).1]]
 done:=by
  intro X U O z W i aaN s Z H E I v g J;subst U O z;obtain⟨Y,q,S⟩:=J;obtain⟨G,y,p,hz⟩:=I.tuple q;obtain⟨L,R,f2,F,B,T⟩:=v l (by simp)
  have hl:=y.length;exact wpAny_pyNext_tuple_end (I.ok.hd W) g p (by simp;lia) λh' eb=>#[rfl,I.turned (λb o j e=>eb b o j e) L R F B T]
 self:=λ_ _ _ _ _ g h=>wpAny_pyIter_tupleiter g h
theorem wY(j:cb)(R:Int)(n:Nat):Turn P w K tg (Itr R n) [j] j (λi h=>IsRangeIter h j (R+(i:Nat)*1) ((n:Int)-(i:Nat)) 1) where
 mem:=by simp
 obj:=λi h g b l=>by
  simp_all
 keep:=λi h h' g k=>k j (by simp) _ g
 item:=by
  intro X U T S O i aaN s Z H E I y g F;subst U T S;obtain⟨G,J,f2,B,z,L⟩:=y j (by simp)
  refine (Walks.range (I.ok.hd O) j R 1 n).item i s _ _ F g λv h' tk Y q W=>?_;obtain⟨t,rfl⟩:=Y;have I1:Inv X _ Z H { s with heap:=h',toks:=tk }:=I.turned (λb o l e=>W b o (by simpa using l) e) G J B z L
  refine#[_,rfl,vX q rfl rfl (by decide) #[.int _,H,I1,#[t,?_],#[rfl,rfl],q,λb l=>(y b l).1]]
  rw[Int.mul_one]
 done:=by
  intro X U T S O i aaN s Z H E I y g F;obtain⟨G,J,f2,B,z,L⟩:=y j (by simp)
  exact wpAny_pyNext_range_end (I.ok.hd O) g (by have:n<=i:=F;lia) λh' eb=>#[rfl,I.turned (λb o l e=>eb b o l e) G J B z L]
 self:=λ_ _ _ _ _ g h=>wpAny_pyIter_rangeiter g h
theorem Gy(I:Inv X aaN Z H s)(B:-(2 ^ 62)<=g)(G:g<2 ^ 62)(F:-(2 ^ 62)<=j)(J:j<2 ^ 62)(q:R (Itr g (j-g).toNat) H):cT (eX X.prog X.w) X.A (W_<|.ref s.heap.objs.size) (PIE X aaN Z tg R) E { s with heap:=s.heap.push { cls:=.type "range",data:=.fields (Tw [.int g t,.int j u,.int 1 v]) },toks:=l }:=by
 refine wpAny_pyIter_range (IsRange.new ..) (small_one B G F J) ?_;have I1:Inv X aaN Z H { s with heap:=s.heap.push { cls:=.type "range",data:=.fields (Tw [.int g t,.int j u,.int 1 v]) },toks:=l }:=I.kept λb o e=>Tv _ e;refine#[(s.heap.push { cls:=.type "range",data:=.fields (Tw [.int g t,.int j u,.int 1 v]) }).objs.size,[(s.heap.push { cls:=.type "range",data:=.fields (Tw [.int g t,.int j u,.int 1 v]) }).objs.size],_,_,H,rfl,
  I1.kept (t':=l) λb o e=>Tv _ e,wY _ g (j-g).toNat,?_,λb z=>?_,q]
 .have n:g+((0:Nat):Int)*1=g:=by simp
  have y:(((j-g).toNat:Nat):Int)-((0:Nat):Int)=Builtin.Range.rangeSize g j 1:=by rw[rangeSize_one];split<;>lia
  show IsRangeIter _ _ (g+((0:Nat):Int)*1) ((((j-g).toNat:Nat):Int)-((0:Nat):Int)) 1;rw[n,y];exact TF _ rfl
 .have e:b=(s.heap.push { cls:=.type "range",data:=.fields (Tw [.int g t,.int j u,.int 1 v]) }).objs.size:=by simpa using z
  subst e;exact I1.fpOk (TL _) (I1.hok.fresh<|TL _)
def Ta(ta:TA):TI:=λZ H R=>ta Z H λg H1=>∃j:Int,g=[.int j]/\-(2 ^ 62)<=j/\j<2 ^ 62/\R (Itr 0 j.toNat) H1
theorem DH{a:fy}(F:Gl X "range")(B:X.mg "range"=bb)(y:PA X [a] ta)(z:eH [a] X.env=[(cp,g3 a X.env)]:=by rfl):PI X tg (.Call (.Name "range" p) [a] [] pos) (Ta ta):=by
 intro aaN s Z H R I h;refine Call_ (df I F B boot_range<|UA (bz (y _ _ s Z H _ I h) λus J l=>?_) z rfl);obtain⟨G,H1,I1,n,g⟩:=l;obtain⟨j,e,g,v,q⟩:=g;subst e;cases n with
 |cons r rr=>
  cases rr;obtain⟨t,rfl⟩:=r;exact call_range_1 (Gy I1 (by lia) (by lia) g v<|by simpa using q)
def tFor(wi:TI)(g:TG)(tb:TS):TS:=λD Z H=>wi Z H λJ H1=>∃W:Nat->Nat->St->Hp->Prop,(∃m,W 0 m Z H1)/\∀i m Z H,W i m Z H->
 (J.stop i H/\D.nx Z H)\/(J.go i H/\∃N:St->Hp->Prop,(∀σ' H',N σ' H'->∃m',m'<m/\W (i+1) m' σ' H')/\∀x H',J.yld i H x H'->g x Z H' λj H2=>tb { D with nx:=N,ct:=N,bk:=D.nx } j H2)
noncomputable def oA(fp:aaZ)(h:g4):List (cb×Obj):=fp.filterMap λb=>(h.get? b).map λo=>(b,o)
theorem fO(g:b∈fp)(e:h.get? b=ap o):(b,o)∈oA fp h:=YX.mpr #[b,g,by rw[e];rfl]
theorem CV(j:p∈oA fp h):p.1∈fp/\h.get? p.1=ap p.2:=by
 obtain⟨b,l,e⟩:=YX.mp j;cases q:h.get? b with
 |none=>simp_all
 |some o=>
  rw[q]at e;have g:=UP e;subst g;trivial
theorem Inv.pinned(I:Inv X aaN Z H s)(l:∀b∈fp,jH X aaN H b)(n:∀b∈fp,∃o,s.heap.get? b=ap o/\∀v,o.data≠.cell v):Inv X (aaN++oA fp s.heap) Z H s:=
 I.pins_of λp j=>(Uo.mp j).elim (λz=>I.pin p (UG _ z)) λz=>by
  obtain⟨g,e⟩:=CV z;obtain⟨F,B,q,_⟩:=l _ g;obtain⟨o,y,d⟩:=n _ g
  simp_all
theorem Inv.unpinned(I:Inv X (aaN++pl) Z H s):Inv X aaN Z H s:=I.pins_of λp g=>I.pin p (UG _<|Wb _ g)
theorem Pe(U:aas (eX X.prog X.w) X.A X.env X.xe)(hc:X.calm=true)(hi:PI X tg q wi)(hg:PG X tg g)(y:B5 X body tb)(hs:∀x,qa q X.env x=pure x:=by intro _;rfl):PS X (.For tg q body [] pos) (tFor wi g tb):=by
 intro aaN s Z H D I h;refine wpAny_For (bz (hi _ s Z H _ I h) λv s1 h1=>bz h1 λitv s2 h2=>?_) hs;obtain⟨it,fp,tn,J,H2,e,I2,T,st2,f2,W,⟨m0,w0⟩,G⟩:=h2;subst e
 -- what stays true of the iterator's objects through the loop
 have l:∀{H':Hp},(∀b∈fp,H' b=bb)->∀b∈fp,jH X _ H' b:=λhn b y=>#[hn b y,(f2 b y).2];refine codeAny_forLoop_any (λn s'=>∃i σ' H',Inv X _ σ' H' s'/\tn i s'.heap/\(∀b∈fp,H' b=bb)/\W i n σ' H') ?_ m0 #[0,Z,H2,I2,st2,λb y=>(f2 b y).1,w0]
 rintro n s3 ⟨i,Y,H3,I3,R,O,w3⟩
 rcases G i n _ H3 w3 with⟨L,qn⟩|⟨go,N,hN,step⟩
 .refine x9 U (bz (T.done X rfl rfl rfl hc i _ s3 _ H3 _ I3 (l O) R L) λr s4 F=>?_)
  obtain⟨hr,I4⟩:=F;subst hr;exact K' #[_,H3,I4,qn]
 refine x9 U (bz (T.item X rfl rfl rfl hc i _ s3 _ H3 _ I3 (l O) R go) λr s4 F=>?_);obtain⟨u,hr,h4⟩:=F;subst hr;refine x9 U (bz h4 λ_ s5 F=>?_);obtain⟨x,H5,I5,r5,y5,B,fr5⟩:=F;refine x9 U (bz (hg _ s5 Y H5 x u _ (I5.pinned (l fr5)<|T.obj _ _ B) r5<|step x H5 y5) λ_ s6 F=>?_);obtain⟨σ6,H6,I6,q6⟩:=F;refine x9 U (bz (y _ s6 σ6 H6 _ I6 q6) λf s7 z=>?_);have again:∀{j:St}{H7:Hp},Inv X (aaN++oA fp s5.heap) j H7 s7->N j H7->∃m,m<n/\∃i σ' H',Inv X aaN σ' H' s7/\tn i s7.heap/\(∀b∈fp,H' b=bb)/\W i m σ' H':=λ{j H7} I7 S=>by
  obtain⟨m',hm,w7⟩:=hN j H7 S;refine#[m',hm,i+1,j,H7,I7.unpinned,T.keep _ _ _ B λb y o e=>(I7.pin (b,o)<|UG _<|UG _<|fO y e).1,λb y=>?_,w7];obtain⟨o,e,d⟩:=T.obj _ _ B b y;exact(I7.pin (b,o)<|UG _<|UG _<|fO y e).2.1
 cases f with
 |next=>obtain⟨j,H7,I7,S⟩:=z;exact again I7 S
 |cont=>obtain⟨j,H7,I7,S⟩:=z;exact again I7 S
 |brk=>obtain⟨j,H7,I7,z⟩:=z;exact#[j,H7,I7.unpinned,z]
 |ret v=>obtain⟨x7,j,H7,I7,r7,z⟩:=z;exact#[x7,j,H7,I7.unpinned,r7,z]
abbrev R2:=V->V->Hp->VK->Prop
def cW(X:Cx)(f:ay->ay->Sem ay)(r:R2):Prop:=
 ∀(aaN:aa3)(s:ca)(Z:St)(H:Hp)(x y:V)(v u:ay)(Q:VK),Inv X aaN Z H s->RelV x v->RelV y u->r x y H Q->
  cT (eX X.prog X.w) X.A (f v u) (EP X aaN Z Q) X.xe s
def bu(X:Cx)(f:ay)(r:List V->Hp->VK->Prop):Prop:=
 ∀(aaN:aa3)(s:ca)(Z:St)(H:Hp)(xs:List V)(us:aaY)(Q:VK),Inv X aaN Z H s->Vals xs us->r xs H Q->
  cT (eX X.prog X.w) X.A (call f us) (EP X aaN Z Q) X.xe s
def TruR(X:Cx)(r:V->Hp->(Bool->Hp->Prop)->Prop):Prop:=
 ∀(aaN:aa3)(s:ca)(Z:St)(H:Hp)(x:V)(v:ay)(Q:Bool->Hp->Prop),Inv X aaN Z H s->RelV x v->r x H Q->
  cT (eX X.prog X.w) X.A (truthy v) (TP X aaN Z Q) X.xe s
def Tf(r:R2)(ta tb:TE):TE:=λZ H Q=>ta Z H λx H1=>tb Z H1 λy H2=>r x y H2 Q
def rI(C:Int->Int->Prop)(g:Int->Int->V):R2:=λx y H Q=>∃i j,x=.int i/\y=.int j/\C i j/\Q (g i j) H
def Eh(g:Int->Int->V):R2:=λx y H Q=>∃i j,x=.int i/\y=.int j/\Q (g i j) H
section
variable{a b:fy}
theorem PM(z:PE X a ta)(B:PE X b tb){R:V->V->Hp->Prop}(I:Inv X aaN Z H s)(h:ta Z H λx H1=>tb Z H1 λy H2=>R x y H2){f:ay->ay->Sem ay}(F:∀v u s2 x y H2,Inv X aaN Z H2 s2->RelV x v->RelV y u->R x y H2->cT (eX X.prog X.w) X.A (f v u) Q X.xe s2):
  cT (eX X.prog X.w) X.A (g3 a X.env) (λv s₁=>cT (eX X.prog X.w) X.A (g3 b X.env) (λu s₂=>cT (eX X.prog X.w) X.A (f v u) Q X.xe s₂) X.xe s₁) X.xe s:=by
 exact bz (z _ s Z H _ I h) λv l ⟨x,H1,I1,n,j⟩=>bz (B aaN l Z H1 _ I1 j) λu s2 ⟨y,H2,I2,g,q⟩=>F v u s2 x y H2 I2 n g q
theorem T1(l:cW X (kr op) r)(n:PE X a ta)(z:PE X b tb):PE X (.BinOp a op b pos) (Tf r ta tb):=by
 intro aaN s Z H Q I h;exact wpAny_BinOp (PM n z I h λv u s2 x y H2 I2 g j q=>l _ s2 Z H2 x y v u Q I2 g j q)
theorem QD{f:ay->ay->Sem ay}{g:Int->Int->Int}(l:∀(i j:Int)(t u:Tok)(s:ca)(Q:aa2)(E:aa2),C i j->Q (.int (g i j) s.toks) { s with toks:=s.toks+1 }->cT (eX X.prog X.w) X.A (f (.int i t)<|.int j u) Q E s):
  cW X f (rI C λi j=>.int (g i j)):=by
 rintro aaN s Z H x y v u Q I n z ⟨i,j,rfl,rfl,B,q⟩
 obtain⟨t,rfl⟩:=n;obtain⟨t',rfl⟩:=z;exact l i j t t' s _ _ B #[.int _,H,I.tok _,#[_,rfl],q]
theorem FQ{f:ay->ay->Sem ay}{g:Int->Int->Int}(l:∀(i j:Int)(t u:Tok)(s:ca)(Q:aa2)(E:aa2),Q (.int (g i j) s.toks) { s with toks:=s.toks+1 }->cT (eX X.prog X.w) X.A (f (.int i t)<|.int j u) Q E s):
  cW X f (Eh λi j=>.int (g i j)):=by
 rintro aaN s Z H x y v u Q I n z ⟨i,j,rfl,rfl,q⟩
 obtain⟨t,rfl⟩:=n;obtain⟨t',rfl⟩:=z;exact l i j t t' s _ _ #[.int _,H,I.tok _,#[_,rfl],q]
theorem Jg{f:ay->ay->Sem ay}{g:Int->Int->Bool}(l:∀(i j:Int)(t u:Tok)(s:ca)(Q:aa2)(E:aa2),Q (.bool<|g i j) s->cT (eX X.prog X.w) X.A (f (.int i t)<|.int j u) Q E s):
  cW X f (Eh λi j=>.bl (g i j)):=by
 rintro aaN s Z H x y v u Q I n z ⟨i,j,rfl,rfl,q⟩
 obtain⟨t,rfl⟩:=n;obtain⟨t',rfl⟩:=z;exact l i j t t' s _ _ #[.bl _,H,I,rfl,q]
def IN(i j:Int):Prop:=0<=j/\j<=1000000/\i.natAbs<2 ^ 64
def CMul(i j:Int):Prop:=(-(2 ^ 64)<i/\i<2 ^ 64)\/(-(2 ^ 64)<j/\j<2 ^ 64)
theorem CMul.ok{i:Int}(h:CMul i j):IntMulOk i j:=by
 rcases h with⟨g,l⟩|⟨g,l⟩
 .exact .of_left (intBits_le_64 g l)
 exact .of_right (intBits_le_64 g l)
theorem PY(k:Nat):(0:Int)<=2 ^ k:=by
 lia
theorem Pn:cW X (kr .Add) (Eh λi j=>.int (i+j)):=FQ λ_ _ _ _ _ _ _ q=>add_int q
theorem PL:cW X (kr .Sub) (Eh λi j=>.int (i-j)):=FQ λ_ _ _ _ _ _ _ q=>sub_int q
theorem O2:cW X (kr .Mult) (rI CMul λi j=>.int (i*j)):=QD λ_ _ _ _ _ _ _ g q=>mul_int q g.ok
theorem Qc:cW X (kr .Mod) (rI (λ_ j=>0<j) λi j=>.int (i % j)):=QD λi j _ _ _ _ _ g q=>by
 have l:(0:Int)<j:=g;exact mod_int' (by lia) (by rw[Int.fmod_eq_emod_of_nonneg i (by lia)];exact q)
theorem OC:cW X (kr .Pow) (rI IN λi j=>.int (i ^ j.toNat)):=QD λ_ _ _ _ _ _ _ g q=>pow_int_small g.1 g.2.1 g.2.2 q
theorem Qq:cW X (kr .LShift) (rI IN λi j=>.int (i*2 ^ j.toNat)):=QD λ_ _ _ _ _ _ _ g q=>lshift_int_small g.1 g.2.1 g.2.2 q
theorem N5:cW X (kr .RShift) (rI (λ_ j=>0<=j) λi j=>.int (i / 2 ^ j.toNat)):=QD λi j _ _ _ _ _ g q=>
 rshift_int g (by grind)
theorem ON:cW X (kr .BitAnd) (Eh λi j=>.int (Wj i j)):=FQ λ_ _ _ _ _ _ _ q=>and_int q
theorem RG:cW X (kr .BitOr) (Eh λi j=>.int (W7 i j)):=FQ λ_ _ _ _ _ _ _ q=>or_int q
theorem PN:cW X (kr .BitXor) (Eh λi j=>.int (Builtin.bitXor i j)):=FQ λ_ _ _ _ _ _ _ q=>xor_int q
end
section
variable{a b:fy}
theorem Fg(I:Inv X aaN Z H s)(q:Q (.bl k) H)(e:k=g):EP X aaN Z Q (.bool g) s:=by
 subst e;exact#[.bl k,H,I,rfl,q]
theorem Sa:cW X (kB .Lt) (Eh λi j=>.bl (decide (i<j))):=Jg λ_ _ _ _ _ _ _ q=>lt_int q
theorem Tj:cW X (kB .LtE) (Eh λi j=>.bl (decide (i<=j))):=Jg λ_ _ _ _ _ _ _ q=>le_int q
theorem S3:cW X (kB .Gt) (Eh λi j=>.bl (decide (j<i))):=Jg λ_ _ _ _ _ _ _ q=>gt_int q
theorem SN:cW X (kB .GtE) (Eh λi j=>.bl (decide (j<=i))):=Jg λ_ _ _ _ _ _ _ q=>ge_int q
theorem OV:cW X (kB .Is) (λx y H Q=>y=.non/\Q (.bl<|decide (x=.non)) H):=by
 intro aaN s Z H x y v u Q I g j h;obtain⟨rfl,q⟩:=h;cases j;refine is_none_gen (Fg I q ?_)
 cases x<;>first
  |(cases g;rfl)
  |(obtain⟨t,rfl⟩:=g;rfl)
theorem JD:cW X (kB .IsNot) (λx y H Q=>y=.non/\Q (.bl<|!decide (x=.non)) H):=by
 rintro aaN s Z H x y v u Q I g j ⟨rfl,q⟩
 cases j;refine isnot_none_gen (Fg I q ?_)
 cases x<;>first
  |(rfl)
  |(obtain⟨t,rfl⟩:=g;rfl)
theorem J1(n:cW X (kB op) r)(l:PE X a ta)(B:PE X b tb)(z:ZX op b=cp):PE X (.Compare a [op] [b] pos) (Tf r ta tb):=by
 intro aaN s Z H Q I h;exact wpAny_Compare1 (PM l B I h λv u s2 x y H2 I2 g j q=>n aaN s2 Z H2 x y v u Q I2 g j q) z
def Rx(t:TE):TT:=λZ H Q=>t Z H λx H'=>∃k,x=.bl k/\Q k H'
theorem IA(L:cW X (kB op) r)(J:PE X a ta)(R:PE X b tb)(O:ZX op b=cp):PT X (.Compare a [op] [b] pos) (Rx<|Tf r ta tb):=by
 intro aaN s Z H Q I h;refine wpAny_isTrue_Compare1 (bz (J _ s Z H _ I h) λv B ⟨x,H1,I1,F,g⟩=>bz (R _ B Z H1 _ I1 g) λu s2 ⟨y,H2,I2,n,G⟩=>
  bz (L _ s2 Z H2 x y v u _ I2 F n G) λc S l=>?_) O
 obtain⟨z,H3,I3,q,k,e,j⟩:=l;subst e;cases q;exact z5 #[H3,I3,j]
def Q1(K:TH)(x:V)(H:Hp)(k:Bool):Prop:=
 match x with
 |.non=>k=cp
 |.bl b=>k=b
 |.int i=>k=(i != 0)
 |.str y=>y.length<=sizeLine/\k=((y.length:Int) != 0)
 |.byt y=>y.size<=sizeLine/\k=((y.size:Int) != 0)
 |.ref p=>(∃xs,SqL K H p xs/\k=!xs.isEmpty)\/(∃xs,ke K H p xs/\k=!xs.isEmpty)\/∃aaP,H p=ap (.dK aaP)/\k=!aaP.isEmpty
 |_=>False
theorem xj(r:KV aaP vs):(!vs.isEmpty)=!aaP.isEmpty:=by
 cases r<;>rfl
theorem nZ(r:Vals xs aaT):(!aaT.toArray.isEmpty)=!xs.isEmpty:=by
 cases r<;>simp
theorem iH:(sizeLine:Nat)<2 ^ 63:=by trivial
theorem Nh:TruR X (λx H Q=>∃k,Q1 X.K x H k/\Q k H):=by
 rintro aaN s Z H x v Q I l ⟨k,e,q⟩
 have R:=iH;have O:sizeLine=16777216:=z6;cases x with
 |non=>
  cases l;have g:k=false:=e;subst g;exact truthy_none #[H,I,q]
 |bl b=>
  cases l;have g:k=b:=e;subst g;exact z5 #[H,I,q]
 |int i=>
  obtain⟨t,rfl⟩:=l;have g:k=(i != 0):=e;subst g;exact PySem.P.truthy_int #[H,I,q]
 |str y=>
  obtain⟨t,rfl⟩:=l;obtain⟨J,g⟩:y.length<=sizeLine/\k=((y.length:Int) != 0):=e;subst g;exact PySem.P.truthy_str (by lia) #[H,I.tok _,q]
 |byt y=>
  obtain⟨t,rfl⟩:=l;obtain⟨J,g⟩:y.size<=sizeLine/\k=((y.size:Int) != 0):=e;subst g;exact W.truthy_bytes (by lia) #[H,I.tok _,q]
 |ref p=>
  cases l;have g:=e;rcases g with⟨G,n,g⟩|⟨G,n,g⟩|⟨aaP,n,g⟩
  .subst g
   obtain⟨B,r,pl,F⟩:=I.list n;have j:=r.length;exact wpAny_truthy_list pl.isList (by simp;lia) #[H,I.tok _,by rw[nZ r];exact q]
  .subst g
   obtain⟨B,r,pl,F⟩:=I.tuple n;have j:=r.length;exact truthy_tuple pl (by simp;lia) #[H,I.tok _,by rw[nZ r];exact q]
  subst g;obtain⟨F,L,z,r,m⟩:aaP.length<=sizeLine/\(p==q0)=cp/\∃z,KV aaP z/\s.heap.DictOf (aU X.prog X.w) p z:=I.hok p _ n;have j:aaP.length=z.length:=Vk r;exact wpAny_truthy_dict L m (by lia) #[H,I.tok _,by rw[xj r];exact q]
 |_=>trivial
theorem GT(q:PE X a ta)(y:∀g,isTrue a X.env g=(do let v <- g;V_ a.pos;vb [v] (truthy v))):
  PT X a (λZ H Q=>ta Z H λx H'=>∃k,Q1 X.K x H' k/\Q k H'):=by
 intro aaN s Z H Q I h;exact isTrue_plain (bz (q aaN s Z H _ I h) λv l ⟨x,H1,I1,n,j⟩=>Nh aaN l Z H1 x v Q I1 n j) (y _)
theorem yi:cW X (kr .Add) (λx y H Q=>∃i j,x=.str i/\y=.str j/\i.length+j.length<=sizeLine/\Q (.str (i++j)) H):=by
 rintro aaN s Z H x y v u Q I g l ⟨i,j,rfl,rfl,n,q⟩
 obtain⟨t,rfl⟩:=g;obtain⟨t',rfl⟩:=l;exact add_str (λt' z=>#[.str _,H,I.tok _,#[_,rfl],q]) n
theorem gT{x:V}(r:Vals [x] us):∃u,us=[u]/\RelV x u:=by
 cases r with
 |cons r1 r2=>cases r2;exact#[_,rfl,r1]
theorem Lr{x:V}(r:Vals [x,y] us):∃u g,us=[u,g]/\RelV x u/\RelV y g:=by
 cases r with
 |cons r1 r2=>
  cases r2 with
  |cons r3 r4=>cases r4;exact#[_,_,rfl,r1,r3]
theorem Dc(l:X.calm=true):bu X (.builtin "max") (λxs H Q=>∃i j,xs=[.int i,.int j]/\Q (.int (if j>i then j else i)) H):=by
 rintro aaN s Z H xs us Q I r ⟨i,j,rfl,q⟩
 obtain⟨u,n,rfl,⟨t,rfl⟩,⟨t',rfl⟩⟩:=Lr r;refine max_two_ints (I.ok.hd l) λh' v k=>#[_,H,I.kept k,?_,q]
 by_cases g:j>i
 .rw[if_pos g,if_pos g];exact#[_,rfl]
 rw[if_neg g,if_neg g];exact#[_,rfl]
theorem Dp(l:X.calm=true):bu X (.builtin "min") (λxs H Q=>∃i j,xs=[.int i,.int j]/\Q (.int (if j<i then j else i)) H):=by
 rintro aaN s Z H xs us Q I r ⟨i,j,rfl,q⟩
 obtain⟨u,n,rfl,⟨t,rfl⟩,⟨t',rfl⟩⟩:=Lr r;refine min_two_ints (I.ok.hd l) λh' v k=>#[_,H,I.kept k,?_,q]
 by_cases g:j<i
 .rw[if_pos g,if_pos g];exact#[_,rfl]
 rw[if_neg g,if_neg g];exact#[_,rfl]
end
structure ObjM(h:g4)(x dx C:cb)(mA:aa4):Prop where
 obj:h.get? x=ap (WD C dx)
 ns:h.Ns1 dx mA
 ne:dx≠x
theorem D5(n:h.Ns1 dx mA):∃j,h.get? dx=ap j/\∀name,W.lookIn name j=ap (mA name):=by
 obtain⟨o,es,J,G,F,l,_,B⟩:=n;refine#[o,G,λname=>?_];have e:=B name;unfold nsFind findBy at e;rw[<- Array.find?_toList]at e;unfold W.lookIn;rw[F];dsimp only
 split
 .rename_i y q
  rw[q]at e;exact congrArg _ e
 rename_i q
 rw[q]at e;have a:es.toList.any (·.refKey)=false:=by
  rw[List.any_eq_false];intro y v;obtain⟨z,t,g⟩:=l y (Array.mem_toList_iff.mp v);simp[DictEntry.refKey,g]
 have I:¬es.toList.any (·.refKey)=true:=by rw[a];exact Wx
 rw[if_neg I];exact congrArg _ e
theorem ObjM.look{x:cb}(I:ObjM h x dx C mA):∃g,W.InstAt h x (WD C dx) C (ap g)/\∀name,W.lookIn name g=ap (mA name):=
 let ⟨g,ho,hl⟩:=D5 I.ns
 #[g,#[I.obj,rfl,rfl,ho],hl]
section
variable{x:cb}
theorem KN(X:K.In s.heap)(I:ObjM s.heap x dx C mA)(n:Wc K C name=true)(q:Wi K C=true)(y:UI K (.ref C) name=ap bb)(z:mA name=ap v)(j:W.handedIn v=true)(h:Q v { s with toks:=s.toks+1 }):
  cT (eX prog w) A (getAttr (.ref x) name g) Q E s:=by
 obtain⟨B,J,l⟩:=I.look;exact W.get_value X J (Yv n).1 (W.findObj_own q y rfl<|by rw[l,z]) j h
theorem F6(X:K.In s.heap)(I:ObjM s.heap x dx C mA)(g:Wc K C name=true)(l:UI K (.ref C) name=ap (ap<|.ref f))(n:W.isFn K (.ref f)=true)(y:mA name=bb)(h:Q (.ref f,[.ref x]) s):
  cT (eX prog w) A (UV (.ref x) name pl) Q E s:=by
 obtain⟨j,J,q⟩:=I.look;exact W.method_fn X J (Yv g).1 (Yv g).2 l (beq_iff_eq.mp n) (by show (W.lookIn _ j).map _=ap _;simp_all) h
theorem gX(X:K.In s.heap)(I:ObjM s.heap x dx C mA)(R:UI K (.ref C) "__setattr__"=ap (ap<|.builtin "object.__setattr__"))(S:WU K C=true)(T:W.takerIn K C name=ap bb)(L:Wi K C=true)(O:Yk mA ns)(hsz:ns.length<=sizeLine)(h:∀h',ObjM h' x dx C (λy=>if y=name then ap v else mA y)->U0 dx s.heap h'->Q () { s with heap:=h',toks:=s.toks+2 }):
  cT (eX prog w) A (setAttr (.ref x) name v) Q E s:=by
 obtain⟨Y,J,hl⟩:=I.look;refine W.set_plain X J R (W.osa_open X J S T λb=>?_);obtain⟨U,B,l⟩:=W.any_some L;refine ax (cx<|wpAny_bind<|wpAny_bind<|wpAny_loadPart I.obj<|wpAny_bind<|W.Looks.here (W.looks_clsIn X B) ?_);rw[l];refine cx (ax<|wpAny_pure<|wpAny_bind ?_);refine wpAny_nsSet1 I.ns λh' g j=>?_;obtain⟨oD,G,F,n,q,z⟩:=g.count (PySem.Within.cons _ v O);exact ax (wpAny_lookBehind n (by rw[q];exact pastItsLine_dict (TR z<|by rw[Ug];lia))<|wpAny_pure<|h _ #[(j.2 _<|Uk I.ne).trans I.obj,g,I.ne] j)
theorem EA(X:K.In s.heap)(n:W2 K C=true)(q:UI K (.ref C) "__init__"=ap (ap<|.ref f))(l:W.typeIn K (.ref f)=ap (.type "function"))(h:F' (eX prog w) (A.under<|.builtin "type.__call__" #[.ref C::vs,kw]) (.call (.ref f) #[.ref (s.heap.objs.size+1)::vs,kw]) (W.InitBack (s.heap.objs.size+1) R)
   { s with heap:=(s.heap.push VE).push (WD C s.heap.objs.size) }):
  F' (eX prog w) A (.call (.ref C) #[vs,kw]) R s:=by
 obtain⟨z,g,d,t,y⟩:=s;exact W.make_core (W.makes_of X n) (W.looks_findIn X q) (λj=>W.bind_fn X j l) (.inl rfl) h
end
def dG(f:Str)(v:V):List (Str×V)->List (Str×V)
 |[]=>[(f,v)]
 |(g,x)::r=>if g=f then (g,v)::r else (g,x)::dG f v r
theorem kd(f g:Str)(v:V):∀fs:List (Str×V),(dG f v fs).lookup g=if g=f then ap v else fs.lookup g
 |[]=>by
  show Ux g [(f,v)]=_
  by_cases h:g=f
  .simp_all
  simp_all
 |(k,x)::r=>by
  rw[show dG f v _=(if k=f then (k,v)::r else (k,x)::dG f v r) from rfl]
  by_cases l:k=f
  .rw[if_pos l]
   by_cases h:g=k
   .have j:=beq_iff_eq.mpr h
    simp only[Ux,j,if_pos (h.trans l)]
   have j:(g==k)=false:=beq_eq_false_iff_ne.mpr h;simp only[Ux,j,if_neg (λe:g=f=>h (e.trans l.symm))]
  rw[if_neg l]
  by_cases h:g=k
  .have j:(g==k)=true:=beq_iff_eq.mpr h
   simp only[Ux,j,if_neg (λe:g=f=>l (h.symm.trans e))]
  .have j:(g==k)=false:=beq_eq_false_iff_ne.mpr h
   simp only[Ux,j];exact(kd f g v r)
theorem jE(f:Str)(v:V):∀fs:List (Str×V),f∈(dG f v fs).map (·.1)/\∀g,g∈fs.map (·.1)->g∈(dG f v fs).map (·.1)
 |[]=>#[by simp[dG],λg h=>by simp at h]
 |(k,x)::r=>by
  obtain⟨i1,i2⟩:=jE f v r;rw[show dG f v _=(if k=f then (k,v)::r else (k,x)::dG f v r) from rfl]
  by_cases j:k=f
  .simp_all
  rw[if_neg j];refine#[?_,λg h=>?_]
  .exact TV _ i1
  rw[TB]at h ⊢;rcases TK.mp h with e|e
  .exact TK.mpr (.inl e)
  .exact TV _ (i2 g e)
theorem ko(f:Str)(v:V):∀fs:List (Str×V),(dG f v fs).length<=fs.length+1
 |[]=>by simp[dG]
 |(k,x)::r=>by
  have j:=ko f v r;rw[show dG f v _=(if k=f then (k,v)::r else (k,x)::dG f v r) from rfl]
  by_cases g:k=f
  .simp_all
  simp_all
theorem dI(r:RelO (ap v) o):∃u,o=ap u/\RelV v u:=by
 cases o with
 |none=>trivial
 |some u=>exact#[u,rfl,r]
theorem jx(r:RelO bb o):o=none:=by
 cases o<;>trivial
theorem E1(r:RelV v u):W.handedIn u=true:=by
 cases v with
 |non=>cases r;rfl
 |bl b=>cases r;rfl
 |int i=>obtain⟨t,e⟩:=r;cases e;rfl
 |str x=>obtain⟨t,e⟩:=r;cases e;rfl
 |byt b=>obtain⟨t,e⟩:=r;cases e;rfl
 |flt b=>obtain⟨t,e⟩:=r;cases e;rfl
 |ref a=>cases r;rfl
 |ty n=>cases r;rfl
theorem lB(g:HOk P w H h)(e:H a=ap (.ins C dx fs)):∃mA,ObjM h a dx C mA/\(∀f,RelO (fs.lookup f) (mA f))/\Yk mA (fs.map (·.1))/\fs.length<=1000/\H dx=ap (.own a):=by
 obtain⟨d,z,ne,j,mA,n,r,q⟩:=(g a _ e);exact#[mA,#[j,n,ne],r,q,z,d]
structure Cls(K:TH)(C:cb):Prop where
 pg:Wc K C XD=true
 hd:Wi K C=true
 po:WU K C=true
 sa:UI K (.ref C) "__setattr__"=ap (ap<|.builtin "object.__setattr__")
theorem Cls.get(c:Cls K C)(f:Str):Wc K C f=true:=c.pg
def NoAttr(K:TH)(C:cb)(f:Str):Prop:=UI K (.ref C) f=ap bb
theorem NoAttr.taker{f:Str}(n:NoAttr K C f):W.takerIn K C f=ap none:=by
 unfold W.takerIn;rw[n];rfl
structure Meth(K:TH)(C:cb)(m:Str)(f:cb):Prop where
 at_:UI K (.ref C) m=ap (ap<|.ref f)
 fn:W.isFn K (.ref f)=true
 kp:U8 K (.ref f)=true
section
variable{f:Str}
theorem nW{b:Bool}(I:Inv X aaN Z H s)(e:H a=ap (.ins C dx fs))(c:Cls X.K C)(n:NoAttr X.K C f)(l:fs.lookup f=ap v)(h:∀u j,Inv X aaN Z H j->RelV v u->Q u j):cT (eX X.prog X.w) A (getAttr (.ref a) f b) Q E s:=by
 obtain⟨mA,O,r,_,_,_⟩:=lB I.hok e;obtain⟨u,q,g⟩:=dI (v:=v) (o:=mA f) (by grind)
 exact KN I.kIn O (c.get f) c.hd n q (E1 g) (h u _ (I.tok _) g)
theorem mE(I:Inv X aaN Z H s)(e:H a=ap (.ins C dx fs))(c:Cls X.K C)(k:Meth X.K C m g)(l:fs.lookup m=bb)(h:Q (.ref g,[.ref a]) s):cT (eX X.prog X.w) A (UV (.ref a) m pl) Q E s:=by
 obtain⟨mA,O,r,_,_,_⟩:=lB I.hok e;exact F6 I.kIn O (c.get m) k.at_ k.fn (jx<|by rw[<- l];exact r m) h
theorem nq(I:Inv X aaN Z H s)(e:H a=ap (.ins C dx fs))(c:Cls X.K C)(n:NoAttr X.K C f)(hl:fs.length<1000)(ry:RelV y u)(h:∀s',Inv X aaN Z (upd H a<|.ins C dx<|dG f y fs) s'->Q () s'):cT (eX X.prog X.w) A (setAttr (.ref a) f u) Q E s:=by
 obtain⟨mA,O,r,wi,_,ho⟩:=lB I.hok e;have hz:(fs.map (·.1)).length<=sizeLine:=by rw[Tz,z6];lia
 refine gX I.kIn O c.sa c.po n.taker c.hd wi hz λh' O' sb=>h _ ?_;have hd:∃o,h'.get? dx=ap o:=let ⟨o,_,_,e',_⟩:=O'.ns;#[o,e'];refine I.write (by rw[e];trivial) (.inr ho) (λb q hb z=>(sb.2 b hb).trans z) hd ?_
 refine#[by rw[aD O.ne];exact ho,?_,O.ne,O'.obj,_,O'.ns,λg=>?_,λg hg=>?_]
 .have:=ko f y fs;lia
 .rw[kd]
  by_cases q:g=f
  .rw[if_pos q,if_pos q];exact ry
  simp_all
 by_cases q:g=f
 .rw[q];exact(jE f y fs).1
 refine (jE f y fs).2 g (wi g λz=>hg ?_);show (if g=f then ap u else mA g)=bb
 rw[if_neg q];exact z
theorem Ij(I:Inv X aaN Z H s):Inv X aaN Z (upd (upd H s.heap.objs.size<|.own (s.heap.objs.size+1)) (s.heap.objs.size+1)<|.ins C s.heap.objs.size [])
  { s with heap:=(s.heap.push VE).push (WD C s.heap.objs.size) }:=by
 have g:(s.heap.push VE).get? s.heap.objs.size=ap VE:=TF s.heap rfl;have j:((s.heap.push VE).push<|WD C s.heap.objs.size).get? (s.heap.objs.size+1)=ap (WD C s.heap.objs.size):=by
  have:=TF (s.heap.push VE) (o:=WD C s.heap.objs.size) rfl
  rwa [UZ]at this
 have z:(s.heap.push VE).Ns s.heap.objs.size (λ_=>bb):=#[VE,(Tw []),_,g,rfl,(λe n=>absurd n (by simp)),λ_=>rfl]
 have I1:=I.laid (a:=s.heap.objs.size) (o:=.own (s.heap.objs.size+1)) (h':=s.heap.push VE) (t':=s.toks) (λb u q=>Tv _ q) (TL _) #[_,g];refine I1.laid (a:=s.heap.objs.size+1) (o:=.ins C s.heap.objs.size []) (t':=s.toks) (λb u q=>Tv _ q) (Yy<|UZ _ _) ?_;have ne:s.heap.objs.size≠s.heap.objs.size+1:=TX (Nat.lt_succ_self _);refine#[by rw[aD ne,upd_same],U2 _,ne,j,λ_=>bb,(Heap.Ns1.of_empty z).at λo q=>Tv _ q,λ_=>VB,λy l=>absurd rfl l]
theorem Iz{f:Str}(j:k' e f env (g3 e env)=g3 e env)(h:cT (eX g w) A (g3 e env) (λo s₁=>cT (eX g w) A (getAttr o f true) Q E s₁) E s):cT (eX g w) A (g3 (.Attribute e f pos) env) Q E s:=
 Attribute_any_ h (by rw[arm_eval_Attribute,j])
end
def tFld(K:TH)(ta:TE)(f:Str):TE:=λZ H Q=>ta Z H λx H1=>∃a C dx fs v,x=.ref a/\H1 a=ap (.ins C dx fs)/\Cls K C/\NoAttr K C f/\fs.lookup f=ap v/\Q v H1
def sFld(K:TH)(ta tv:TE)(f:Str):TS:=λD Z H=>tv Z H λy H1=>ta Z H1 λx H2=>∃a C dx fs,x=.ref a/\H2 a=ap (.ins C dx fs)/\Cls K C/\NoAttr K C f/\fs.length<1000/\
 D.nx Z (upd H2 a<|.ins C dx<|dG f y fs)
def P8(X:Cx)(op:ZR)(rd:V->V->Hp->VK->Prop):Prop:=
 ∀(aaN:aa3)(s:ca)(Z:St)(H:Hp)(x y:V)(u v:ay)(Q:VK),Inv X aaN Z H s->RelV x u->RelV y v->rd x y H Q->cT (eX X.prog X.w) X.A (inplaceOp op u v) (EP X aaN Z Q) X.xe s
def JC(K:TH)(ta tv:TE)(rd:V->V->Hp->VK->Prop)(f:Str):TS:=λD Z H=>ta Z H λx H1=>∃a C dx fs v,x=.ref a/\H1 a=ap (.ins C dx fs)/\Cls K C/\NoAttr K C f/\fs.lookup f=ap v/\
 tv Z H1 λy H2=>rd v y H2 λz H3=>∃dx' fs',H3 a=ap (.ins C dx' fs')/\fs'.length<1000/\D.nx Z (upd H3 a<|.ins C dx'<|dG f z fs')
section
variable{f:Str}
theorem NR(G:PE X e ta)(F:k' e f X.env (g3 e X.env)=g3 e X.env):PE X (.Attribute e f pos) (tFld X.K ta f):=by
 intro aaN s Z H Q I h;refine Iz F (bz (G _ s Z H _ I h) λu L y=>?_);obtain⟨x,H1,I1,g,a,C,dx,fs,v,B,j,c,n,l,q⟩:=y;subst B;obtain rfl:u=Ul a:=g;exact nW I1 j c n l λJ s2 I2 z=>#[v,H1,I2,z,q]
theorem Qi(O:PE X o ta)(L:PE X value tv)(R:vr value (ap<|.Attribute o f pos') pos.line X.env=pure cp):PS X (.Assign [.Attribute o f pos'] value pos) (sFld X.K ta tv f):=by
 intro aaN s Z H D I h;refine plainObj_wpAny_Assign_Attribute (bz (L _ s Z H _ I h) λu F ⟨y,H1,I1,j,q⟩=>bz (O _ F Z H1 _ I1 q) λv s2 B=>?_) R;obtain⟨x,H2,I2,g,a,C,dx,fs,G,z,c,n,l,J⟩:=B;subst G;obtain rfl:v=Ul a:=g;exact nq I2 z c n l j λS I3=>#[Z,_,I3,J]
theorem qp(ha:PE X o ta)(hv:PE X value tv)(j:P8 X op B):PS X (.AugAssign (.Attribute o f tpos) op value pos) (JC X.K ta tv B f):=by
 intro aaN s Z H D I h;refine wpAny_AugAssign_AttributeAny (bz (ha _ s Z H _ I h) λS s1 L=>?_);obtain⟨x,H1,I1,R,a,C,dx,fs,v,ex,U,c,n,l,q⟩:=L;subst ex;obtain rfl:S=Ul a:=R;exact nW I1 U c n l λu s2 I2 O=>bz (hv _ s2 Z H1 _ I2 q) (by rintro w3 W ⟨y,H2,I3,T,G⟩;exact bz (j _ W Z H2 v y u w3 _ I3 O T G) (by rintro w4 s4 ⟨z,H3,I4,F,_,_,g,Y,J⟩;exact nq I4 g c n Y F λs5 I5=>#[Z,_,I5,J]))
def rAdd:V->V->Hp->VK->Prop:=λx y H Q=>∃i j,x=.int i/\y=.int j/\Q (.int (i+j)) H
def rSub:V->V->Hp->VK->Prop:=λx y H Q=>∃i j,x=.int i/\y=.int j/\Q (.int (i-j)) H
theorem Qg:P8 X .Add rAdd:=by
 rintro aaN s Z H x y u v Q I g l ⟨i,j,rfl,rfl,q⟩
 obtain⟨t,rfl⟩:=g;obtain⟨t',rfl⟩:=l;exact PyProof.Rows.iadd_int #[.int _,H,I.tok _,#[_,rfl],q]
theorem On:P8 X .Sub rSub:=by
 rintro aaN s Z H x y u v Q I g l ⟨i,j,rfl,rfl,q⟩
 obtain⟨t,rfl⟩:=g;obtain⟨t',rfl⟩:=l;exact PyProof.Rows.isub_int #[.int _,H,I.tok _,#[_,rfl],q]
end
section
variable{b:Bool}
inductive TyOf(K:TH)(H:Hp):V->ay->Prop where
 |non:TyOf K H .non (.type "NoneType")
 |bl (x:Bool):TyOf K H (.bl x) (.type "bool")
 |int (i:Int):TyOf K H (.int i) (.type "int")
 |str (x:Str):TyOf K H (.str x) (.type "str")
 |flt (x:UInt64):TyOf K H (.flt x) (.type "float")
 |lst {a:cb} {xs:List V} (e:H a=ap (.lst xs)):TyOf K H (.ref a) (.type "list")
 |frz {a:cb} {o:Obj} {xs:List V} (e:H a=ap (.frz o<|.lst xs)):TyOf K H (.ref a) (.type "list")
 |tup {a:cb} {xs:List V} (e:H a=ap (.tup xs)):TyOf K H (.ref a) (.type "tuple")
 |dK {a:cb} {aaP:List (aC×V)} (e:H a=ap (.dK aaP)):TyOf K H (.ref a) (.type "dict")
 |dT {a:cb} {aaP:List (List aC×V)} (e:H a=ap (.dT aaP)):TyOf K H (.ref a) (.type "dict")
 |ins {a C dx:cb} {fs:List (Str×V)} (e:H a=ap (.ins C dx fs)) (cl:Cls K C) (ha:UI K (.ref C) "__class__"=ap (ap<|.builtin "object.__class__"))
   (hn:W.specialIn K (.builtin "object.__class__") "__get__"=ap (ap<|.builtin "getset_descriptor.__get__")) (htk:W.takesIn K (.builtin "object.__class__")=ap true)
   (hm:W.mroIn K C (.type "object")=ap true):TyOf K H (.ref a) (.ref C)
theorem D3{x:V}(I:Inv X aaN Z H s)(g:RelV x u)(ty:TyOf X.K H x t)(e:W.kitOne X.K t c=ap b)(h:∀F,Q (.bool b) { s with toks:=F }):
  cT (eX X.prog X.w) A (call (.builtin "isinstance") [u,c]) Q E s:=by
 cases ty with
 |non=>cases (show u=UU from g);exact VM W.kitx_none I.kIn VB e (λz=>nomatch z) h
 |bl y=>cases (show u=YJ y from g);exact VM W.kitx_bool I.kIn VB e (λz=>nomatch z) h
 |int i=>obtain⟨t,q⟩:=(show ∃t,u=Xs i t from g);cases q;exact VM W.kitx_int I.kIn VB e (λz=>nomatch z) h
 |str y=>obtain⟨t,q⟩:=(show ∃t,u=Xr y t from g);cases q;exact VM W.kitx_str I.kIn VB e (λz=>nomatch z) h
 |flt y=>obtain⟨t,q⟩:=(show ∃t,u=Value.float y t from g);cases q;exact VM W.kitx_float I.kIn VB e (λz=>nomatch z) h
 |@lst a l ea=>
  cases (show u=Ul a from g);obtain⟨_,_,n,_,j⟩:=(show ObjOk X.prog X.w H s.heap a (.lst l) from I.hok a _ ea);exact VM W.kitx_list I.kIn #[_,j,rfl] e (λz=>nomatch z) h
 |@frz a ob l ea=>
  cases (show u=Ul a from g);obtain⟨_,_,_,n,_,j⟩:=(show ObjOk X.prog X.w H s.heap a (.frz ob<|.lst l) from I.hok a _ ea);exact VM W.kitx_list I.kIn #[_,j,rfl] e (λz=>nomatch z) h
 |@tup a l ea=>
  cases (show u=Ul a from g);obtain⟨_,_,_,p⟩:=(show ObjOk X.prog X.w H s.heap a (.tup l) from I.hok a _ ea);obtain⟨o,j,⟨v,_⟩,_⟩:=p;exact VM W.kitx_tuple I.kIn #[o,j,v] e (λz=>nomatch z) h
 |@dK a aaP ea=>
  cases (show u=Ul a from g);obtain⟨_,_,L,_,p⟩:=(show ObjOk X.prog X.w H s.heap a (.dK aaP) from I.hok a _ ea);obtain⟨o,es,B,j,v,_⟩:=p;exact VM W.kitx_dict I.kIn #[o,j,v.1] e (λz=>nomatch z) h
 |@dT a aaP ea=>
  cases (show u=Ul a from g);obtain⟨_,_,l,_,o,es,B,j,v,_⟩:=(show ObjOk X.prog X.w H s.heap a (.dT aaP) from I.hok a _ ea);exact VM W.kitx_dict I.kIn #[o,j,v.1] e (λz=>nomatch z) h
 |@ins a C dx fs ea cl ha hn htk hm=>
  cases (show u=Ul a from g);obtain⟨mA,O,_⟩:=lB I.hok ea;obtain⟨G,J,_⟩:=O.look;exact VM (W.kitx_own (cl.get _) cl.hd ha hn htk hm) I.kIn J e (λz=>nomatch z) h
end
structure Room(k:Nat)(A:h7):Prop where
 hd:A.handled=bb
 dp:A.depth+3*k+5<recursionLimit
 un:A.units+16*k+200<ol
 gd:A.guards=ap []
theorem Room.mono(r:Room k A)(h:j<=k):Room j A:=#[r.hd,by have:=r.dp;lia,by have:=r.un;lia,r.gd]
theorem Room.deeper(r:Room (k+1) A)(env:Env):Room k (A.deeper env):=
 #[r.hd,by have:=r.dp;show A.depth+1+3*k+5<_;lia,by have:=r.un;show A.units+3+16*k+200<_;lia,r.gd]
theorem xA:(A.under<|.builtin "type.__call__" #[.ref C::us,kw]).depth=A.depth+1:=by
 rfl
theorem yo:(A.under<|.builtin "type.__call__" #[.ref C::us,kw]).units=A.units+1:=by
 rfl
theorem LD:(A.under<|.builtin "type.__call__" #[.ref C::us,kw]).guards=A.guards:=by
 rfl
theorem Room.make(r:Room (k+1) A)(C:cb)(us:aaY)(kw:List (Str×ay)):Room k (A.under<|.builtin "type.__call__" #[.ref C::us,kw]):=
 #[r.hd,by have:=r.dp;rw[xA];lia,by have:=r.un;rw[yo];lia,by exact r.gd]
theorem Room.depth(r:Room k A):A.depth<recursionLimit:=by have:=r.dp;lia
theorem Room.units(r:Room k A):A.units+64<cLine:=by have:=r.un;lia
def Sh:TA:=λ_ H Q=>Q [] H
def RE(ta:TE)(tr:TA):TA:=λZ H Q=>ta Z H λx H1=>tr Z H1 λg H2=>Q (x::g) H2
theorem Hb:PA X [] Sh:=λ_ _ _ _ H Q I h=>VS #[[],H,I,.nil,h]
theorem yW(v:PE X e te)(z:PA X es t)(y:eH (e::es) X.env=(cp,g3 e X.env)::eH es X.env:=by rfl):PA X (e::es) (RE te t):=by
 intro pos aaN s Z H Q I h;rw[y];show cT _ _ (spliced ((cp,g3 e _)::j0 _ _)) _ _ s;exact Vp (bz (v _ s Z H _ I h)<|by rintro u l ⟨x,H1,I1,n,g⟩;exact(bz (z _ _ l Z H1 _ I1 g)<|by rintro us s2 ⟨B,H2,I2,j,q⟩;exact#[_,H2,I2,.cons n j,q]))
def tTup(t:TA):TE:=λZ H Q=>t Z H λg H1=>g.length<=sizeLine/\∀p,H1 p=bb->Q (.ref p) (upd H1 p<|.tup g)
def tLst(t:TA):TE:=λZ H Q=>t Z H λg H1=>g.length<=sizeLine/\∀p,H1 p=bb->Q (.ref p) (upd H1 p<|.lst g)
theorem Ox{x1}(h:PA X es t):PE X (.Tuple es x1 pos) (tTup t):=by
 intro aaN s Z H Q I g;refine wpAny_Tuple_spliced (bz (h _ _ s Z H _ I g) λus l ⟨j,H1,I1,r,z,q⟩=>#[by rw[<- r.length];exact z,?_])
 refine#[.ref _,_,I1.laid (λb u e=>Tv _ e) (TL _) ?_,rfl,q _<|I1.hok.fresh<|TL _];exact#[z,us,r,#[_,TF _ rfl,#[rfl,_,rfl],rfl]]
theorem P4(h:PA X es t):PE X (.List es pos) (tLst t):=by
 intro aaN s Z H Q I g;refine wpAny_List_spliced (bz (h _ _ s Z H _ I g) λus l ⟨j,H1,I1,r,z,q⟩=>#[by rw[<- r.length];exact z,?_])
 refine#[.ref _,_,I1.laid (λb u e=>Tv _ e) (TL _) ?_,rfl,q _<|I1.hok.fresh<|TL _];exact#[z,us,0,r,TF _ rfl]
abbrev Sp:=List V->Hp->VK->XK->Prop
abbrev pv:=List Env->Hp->ca->XK->ay->ca->Prop
structure Env0(P:fx)(w:hG)(K:TH)(mg:aa4)(base:g4)(A:h7)(outer:List Env)(s:ca)(H:Hp):Prop where
 frames:A.frames=ap outer
 mod:Mod K mg base
 bs:∀b o,base.get? b=ap o->s.heap.get? b=ap o/\H b=bb
 bsz:base.objs.size<=s.heap.objs.size
 funs:s.heap.FunFrames base outer
 frf:∀b∈iI outer,H b=bb
 hok:HOk P w H s.heap
 bare:WF s.gens
def CE(outer:List Env)(P:fx)(w:hG)(H:Hp)(s:ca)(Q:VK)(u:ay)(s':ca):Prop:=
 ∃v H',s'.os=s.os/\WF s'.gens/\Un (iI outer) [] H H' s.heap s'.heap/\HOk P w H' s'.heap/\RelV v u/\Q v H'
def CR(CX:pv)(outer:List Env)(P:fx)(w:hG)(H:Hp)(s:ca)(Q:VK)(E:XK)(r:Z_)(s':ca):Prop:=
 match r with
 |.ok (.ret u)=>CE outer P w H s Q u s'
 |.ok _=>False
 |.error e=>CX outer H s E e s'
structure FnOk(P:fx)(w:hG)(K:TH)(mg:aa4)(base:g4)(CX:pv)(k:Nat)(f:cb)(fd:kc)(ps:aaX)(sp:Sp):Prop where
 len:∀vs H Q E,sp vs H Q E->vs.length=ps.length
 run:∀(A:h7)(outer:List Env)(s:ca)(H:Hp)(args:Args)(us:aaY)(vs:List V)(Q:VK)(E:XK),Room k A->Env0 P w K mg base A outer s H->aad s fd args (ps.zip us)->Vals vs us->sp vs H Q E->
  F' (eX P w) A (.call (.ref f) args) (CR CX outer P w H s Q E) s
theorem FnOk.imp(F:FnOk P w K mg base CX k f fd ps sp)(h:∀vs H Q E,l vs H Q E->sp vs H Q E):FnOk P w K mg base CX k f fd ps l:=
 #[λvs H Q E q=>F.len vs H Q E (h _ _ _ _ q),λA g s H j us vs Q E y n B z v=>F.run A g s H j us vs Q E y n B z (h _ _ _ _ v)]
theorem Env0.make(e:Env0 P w K mg base A g s H)(C:cb)(us:aaY)(kw:List (Str×ay)):
  Env0 P w K mg base (A.under<|.builtin "type.__call__" #[.ref C::us,kw]) g s H:=#[by first|exact e.frames|rfl,e.mod,e.bs,e.bsz,e.funs,e.frf,e.hok,e.bare]
theorem Inv.env0(I:Inv X aaN Z H s):Env0 X.prog X.w X.K X.mg X.base X.A X.stack s H:=
 #[I.ok.frames,I.ok.mod,I.bs,TR I.ok.bsz I.sz,I.stack,I.stkFree,I.hok,I.bare]
theorem Inv.after(I:Inv X aaN Z H s)(h:CE X.stack X.prog X.w H s Q u s'):EP X aaN Z Q u s':=by
 obtain⟨v,H',os,j,un,n,r,q⟩:=h;obtain⟨y,g,d,t,l⟩:=s';obtain rfl:l=s.os:=os;exact#[v,H',I.call (h':=y) (g':=g) (d':=d) (t':=t) (ch:=[]) un n j (λb z=>absurd z (by simp)),r,q]
def SA(sp:Sp)(dvs:List V)(E:XK)(t:TA):TE:=λZ H Q=>t Z H λg H1=>sp (g++dvs) H1 Q E
def Lo(C:cb)(m:Str)(sp:Sp)(dvs:List V)(E:XK)(ta:TE)(t:TA):TE:=λZ H Q=>ta Z H λx H1=>∃a dx fs,x=.ref a/\H1 a=ap (.ins C dx fs)/\fs.lookup m=bb/\
 t Z H1 λg H2=>sp (x::(g++dvs)) H2 Q E
def Su(C:cb)(sp:Sp)(dvs:List V)(E:XK)(t:TA):TE:=λZ H Q=>t Z H λg H1=>∀x dx,H1 x=bb->H1 dx=bb->dx≠x->
 sp (.ref x::(g++dvs)) (upd (upd H1 dx<|.own x) x<|.ins C dx []) (λv H2=>v=.non/\Q (.ref x) H2) E
def Binds(K:TH)(fd:kc)(ps:aaX)(ds:aaY):Prop:=
 ∀(s:ca)(us:aaY),K.In s.heap->(us++ds).length=ps.length->aad s fd #[us,[]] (ps.zip (us++ds))
theorem Binds.all(h:∀us:List ay,us.length=ps.length->aai fd #[us,[]]=pure (ps.zip us)):Binds K fd ps []:=λs us _ g=>by
 rw[UH]at g ⊢;exact .of_eq (h us g)
def bV(CX:pv)(X:Cx)(E:XK):Prop:=∀(aaN:aa3)(Z:St)(H:Hp)(s:ca)(e:ay)(s':ca),Inv X aaN Z H s->CX X.stack H s E e s'->X.xe e s'
theorem x6(F:FnOk X.prog X.w X.K X.mg X.base CX k f fd ps sp)(y:Room k X.A)(z:Binds X.K fd ps ds)(v:Vals dvs ds)(q:bV CX X E)(I:Inv X aaN Z H s)(r:Vals vs us)(h:sp (vs++dvs) H Q E):cT (eX X.prog X.w) X.A (call (.ref f) us) (EP X aaN Z Q) X.xe s:=by
 have j:Vals (vs++dvs) (us++ds):=r.append v;have l:(us++ds).length=ps.length:=by rw[<- j.length];exact F.len _ _ _ _ h
 refine aaf (TD (F.run X.A X.stack s H #[us,[]] (us++ds) (vs++dvs) Q E y I.env0 (z s us I.kIn l) j h) λr n g=>?_);cases r with
 |error e=>exact q aaN Z H s e n I g
 |ok fl=>
  cases fl with
  |ret u=>exact I.after g
  |next=>exact Vn g
  |brk=>exact Vn g
  |cont=>exact Vn g
theorem yX(F:FnOk X.prog X.w X.K X.mg X.base CX k f fd ps sp)(y:Room k X.A)(j:Gl X x)(v:X.mg x=ap (.ref f))(l:U8 X.K (.ref f)=true)(G:Binds X.K fd ps ds)(B:Vals dvs ds)(z:bV CX X E)(n:PA X (e::es) t)(g:(x==("__debug__":Str))=false:=by decide)(he:eH (e::es) X.env=(cp,g3 e X.env)::eH es X.env:=by rfl)(hpl:(j0 pos<|starEach es X.env).any (·.1)=false:=by rfl):
  PE X (.Call (.Name x p) (e::es) [] pos) (SA sp dvs E t):=by
 intro aaN s Z H Q I h;exact pa (jk I j v (XC (h₀:=X.base) I.ok.mod.kin l (bz (n pos aaN s Z H _ I h)<|by rintro us L ⟨J,H1,I1,r,q⟩;exact#[I1.kIn,x6 F y G B z I1 r q]) he hpl) g)
theorem Js(J:PE X o ta)(c:Cls X.K C)(j:Meth X.K C m f)(F:FnOk X.prog X.w X.K X.mg X.base CX k f fd ps sp)(O:Room k X.A)(T:Binds X.K fd ps ds)(S:Vals dvs ds)(R:bV CX X E)(L:PA X (e::es) t)(g:eH (e::es) X.env=(cp,g3 e X.env)::eH es X.env:=by rfl)(hpl:(j0 pos<|starEach es X.env).any (·.1)=false:=by rfl)(ht:g3 (.Call (.Attribute o m aaS) (e::es) [] pos) X.env=(do
   let ov <- g3 o X.env
   V_ aaS.atName
   let (f,first) <- vb [ov] (UV ov m pl)
   Z4 pos f first (j0 pos<|starEach (e::es) X.env) (y' pos<|keywordEach [] X.env)):=by rfl):
  PE X (.Call (.Attribute o m aaS) (e::es) [] pos) (Lo C m sp dvs E ta t):=by
 intro aaN s Z H Q I h;refine W.methodCall_KW (pl:=pl) (bz (J aaN s Z H _ I h) λu z y=>?_) ht;obtain⟨x,H1,I1,n,a,dx,fs,B,v,l,q⟩:=y;subst B;obtain rfl:u=Ul a:=n;refine mE I1 v c j l ?_;refine XC (first:=[.ref a]) (h₀:=X.base) I.ok.mod.kin j.kp (bz (L pos aaN z Z H1 _ I1 q) λus s2 ⟨vs,H2,I2,r,G⟩=>#[I2.kIn,?_]) g hpl
 exact x6 (us:=.ref a::us) (vs:=.ref a::vs) F O T S R I2 (.cons rfl r) G
theorem FD(B:PE X o ta)(c:Cls X.K C)(g:Meth X.K C m f)(F:FnOk X.prog X.w X.K X.mg X.base CX k f fd ps sp)(G:Room k X.A)(z:Binds X.K fd ps ds)(L:Vals dvs ds)(J:bV CX X E)(O:g3 (.Call (.Attribute o m aaS) [] [] pos) X.env=(do
   let ov <- g3 o X.env
   V_ aaS.atName
   let (f,first) <- vb [ov] (UV ov m pl)
   Z4 pos f first (j0 pos<|starEach [] X.env) (y' pos<|keywordEach [] X.env)):=by rfl):
  PE X (.Call (.Attribute o m aaS) [] [] pos) (Lo C m sp dvs E ta Sh):=by
 intro aaN s Z H Q I h;refine W.methodCall_KW (pl:=pl) (bz (B aaN s Z H _ I h) λu R v=>?_) O;obtain⟨x,H1,I1,j,a,dx,fs,y,n,l,q⟩:=v;subst y;obtain rfl:u=Ul a:=j;refine mE I1 n c g l ?_;exact W.callWith_K0 (first:=[.ref a]) I1.kIn g.kp (x6 (us:=[.ref a]) (vs:=[.ref a]) F G z L J I1 (.cons rfl .nil) q)
structure Mk(K:TH)(C f:cb):Prop where
 makes:W2 K C=true
 init:UI K (.ref C) "__init__"=ap (ap<|.ref f)
 fn:W.isFn K (.ref f)=true
 kp:U8 K (.ref C)=true
theorem HM(M:Mk X.K C f)(F:FnOk X.prog X.w X.K X.mg X.base CX k f fd ps sp)(L:Room (k+1) X.A)(O:Binds X.K fd ps ds)(J:Vals dvs ds)(G:bV CX X E)(I:Inv X aaN Z H s)(r:Vals vs us)(h:∀x dx,H x=bb->H dx=bb->dx≠x->sp (.ref x::(vs++dvs)) (upd (upd H dx<|.own x) x<|.ins C dx []) (λv H2=>v=.non/\Q (.ref x) H2) E):
  cT (eX X.prog X.w) X.A (call (.ref C) us) (EP X aaN Z Q) X.xe s:=by
 have j:=h _ _ (I.hok.fresh<|WQ _) (I.hok.fresh<|TL _) (TX<|Nat.lt_succ_self _);have I2:=Ij (C:=C) I;have l:Vals (V.ref (s.heap.objs.size+1)::(vs++dvs)) _:=.cons rfl (r.append J);have y:(Ul (s.heap.objs.size+1)::us++ds).length=ps.length:=by
  have e:=l.length;rw[F.len _ _ _ _ j]at e;exact e.symm
 refine aaf (EA I.kIn M.makes M.init (beq_iff_eq.mp M.fn) (TD (F.run _ _ _ _ _ _ _ _ E (L.make C us [])
  (I2.env0.make C us []) (O _ _ I2.kIn y) l j) λr B g=>?_))
 cases r with
 |error e=>exact G _ Z _ _ e B I2 g
 |ok fl=>
  cases fl with
  |ret u=>
   obtain⟨v,H',I3,q,n,z⟩:=I2.after g;subst n;exact#[q,#[V.ref _,H',I3,rfl,z]]
  |next=>assumption
  |brk=>assumption
  |cont=>assumption
theorem Jt(M:Mk X.K C f)(F:FnOk X.prog X.w X.K X.mg X.base CX k f fd ps sp)(v:Room (k+1) X.A)(j:Gl X x)(n:X.mg x=ap (.ref C))(B:Binds X.K fd ps ds)(z:Vals dvs ds)(y:bV CX X E)(l:PA X (e::es) t)(g:(x==("__debug__":Str))=false:=by decide)(he:eH (e::es) X.env=(cp,g3 e X.env)::eH es X.env:=by rfl)(hpl:(j0 pos<|starEach es X.env).any (·.1)=false:=by rfl):
  PE X (.Call (.Name x p) (e::es) [] pos) (Su C sp dvs E t):=by
 intro aaN s Z H Q I h;exact pa (jk I j n (XC (h₀:=X.base) I.ok.mod.kin M.kp (bz (l pos aaN s Z H _ I h)<|by rintro us J ⟨G,H1,I1,r,q⟩;exact#[I1.kIn,HM M F v B z y I1 r q]) he hpl) g)
structure FnScope(N P:aaX)(sc:B'):Prop where
 kind:sc.kind=.function
 co:sc.isCoroutine=cp
 gen:sc.isGenerator=cp
 nd:N.Nodup
 pre:N.take P.length=P
 par:∀x∈P,sc.names.lookup x=ap .local\/sc.names.lookup x=ap .cell
 nofree:∀y∈sc.names,y.2≠.free
theorem qk{x:Str}:∀{binds:List (Str×ay)}{m:aa4},(∀v,(x,v)∉binds)->bindL g binds m x=m x
 |[],_,_=>rfl
 |(n,v)::r,m,h=>by
  unfold bindL;rw[qk λw j=>h w (TV _ j)]
  split
  .have:x≠n:=by rintro rfl;exact h v Uu
   simp[this]
  rfl
theorem pR{x:Str}:∀{binds:List (Str×ay)}{m:aa4},(∀v,(x,v)∉binds)->bindC g binds m x=m x
 |[],_,_=>rfl
 |(n,v)::r,m,h=>by
  unfold bindC;rw[pR λw j=>h w (TV _ j)]
  split
  .rfl
  have:x≠n:=by rintro rfl;exact h v Uu
  simp[this]
theorem qL{kindOf:Str->Option aak}{x:Str}{v:ay}:∀{P:aaX}{vs:aaY}{i:Nat}{m:aa4},P.Nodup->P[i]?=ap x->vs[i]?=ap v->kindOf x=ap .local->
  bindL kindOf (P.zip vs) m x=ap v
 |[],_,_,_,_,h,_,_=>by simp at h
 |_::_,[],_,_,_,_,h,_=>by simp at h
 |p::P,w::vs,0,m,nd,h1,h2,hk=>by
  simp at h1 h2;subst h1 h2;show bindL _ ((p,w)::P.zip vs) m p=_;unfold bindL;rw[qk λv hv=>(U9.mp nd).1 (Wg hv).1,if_pos hk];simp
 |p::P,w::vs,i+1,m,nd,h1,h2,hk=>by
  unfold bindL;exact qL (U9.mp nd).2 (by trivial) (by trivial) hk
theorem qe{kindOf:Str->Option aak}{x:Str}{v:ay}:∀{P:aaX}{vs:aaY}{i:Nat}{m:aa4},P.Nodup->P[i]?=ap x->vs[i]?=ap v->kindOf x≠ap .local->
  bindC kindOf (P.zip vs) m x=ap v
 |[],_,_,_,_,h,_,_=>by simp at h
 |_::_,[],_,_,_,_,h,_=>by simp at h
 |p::P,w::vs,0,m,nd,h1,h2,hk=>by
  simp at h1 h2;subst h1 h2;show bindC _ ((p,w)::P.zip vs) m p=_;unfold bindC;rw[pR λv hv=>(U9.mp nd).1 (Wg hv).1,if_neg hk];simp
 |p::P,w::vs,i+1,m,nd,h1,h2,hk=>by
  unfold bindC;exact qe (U9.mp nd).2 (by trivial) (by trivial) hk
noncomputable def start(N:aaX)(vs:List V):St:=vs.map ap++Um (N.length-vs.length) bb
noncomputable def eY(CX:pv)(P:fx)(w:hG)(K:TH)(mg:aa4)(base:g4)(N:aaX)(aaO:Str)(scope:B')(f:cb)(cd:ay)(A:h7)(outer:List Env)(s:ca)(H:Hp)(E:XK):Cx where
 prog:=P
 w:=w
 K:=K
 mg:=mg
 base:=base
 A:=A.deeper (envOfC aaO scope s.heap.objs.size f cd)
 N:=N
 s₀:=s
 H₀:=H
 env:=envOfC aaO scope s.heap.objs.size f cd
 outer:=outer
 stack:=envOfC aaO scope s.heap.objs.size f cd::outer
 ex:=[]
 calm:=true
 fn:=λ_=>true
 pn:=[]
 xe:=λe l=>cT (eX P w) (A.deeper<|envOfC aaO scope s.heap.objs.size f cd) (leaving (envOfC aaO scope s.heap.objs.size f cd) e) (λ_ g=>CX outer H s E e g) (λj g=>CX outer H s E j g) l
theorem we{g:B'}(h:g.names.lookup x=ap .cell):∃c,(cellsFrom n g.names []).lookup x=ap c:=by
 exact XY.mp (W.cellsFrom_some _ n []<|.inl h)
theorem Dm(S:FnScope N ps g)(hd:A.handled=bb)(n:Env0 P w K mg base A j s H)(hl:vs.length=ps.length)(r:Vals vs us)(x:InCallC s s.heap.objs.size (bindL (envOfC l g s.heap.objs.size f L).kindOf (ps.zip us) λ_=>bb) (cellsFrom (s.heap.objs.size+1) g.names []) (bindC (envOfC l g s.heap.objs.size f L).kindOf (ps.zip us) λ_=>bb) U):
  Inv (eY CX P w K mg base N l g f L A j s H E) [] (start N vs) H U:=by
 have hpl:ps.length<=N.length:=by have:=congrArg Vr S.pre;rw[WX]at this;lia
 obtain⟨J,tk,rfl,R⟩:=x.done;have F:∀b:cb,b∉(eY CX P w K mg base N l g f L A j s H E).ex:=λb z=>absurd (show b∈[] from z) (by simp)
 refine#[#[n.mod,S.kind,rfl,rfl,TL _,λy z c J B=>?_,λy hy=>?_,λy c _ h=>?_,λ_=>hd,Around.frames_deeper n.frames,.inr #[rfl,rfl],λb z=>absurd z (F b),n.bs,n.bsz,λb _ _=>F b,λb z=>absurd z (F b),n.funs,n.frf],
  rfl,n.bare,Un.kept R,#[_,x.toInCall.ns,λi y v J B h3=>?_],λy c h=>#[_,x.cell y c h],n.hok.fresh (TL _),λy c h=>?_,λp G=>absurd (show p∈[] from G) (by simp),n.hok.kept R,?_]
 .exact name_of_addr x.apart (Vb J) (Vb B)
 .rcases hy with hy|hy
  .exact we hy
  exact absurd rfl (S.nofree _<|Vb hy)
 .exact V1 (x.above y c<|Vb h)
 .have O:i<vs.length:=by
   unfold start at B
   by_cases O:i<vs.length
   .exact O
   rw[U1 (by simpa using O)]at B
   rw[Yo]at B
   split at B<;>cases B
  have Y:vs[i]?=ap v:=by
   unfold start at B;rw[WG (by simp_all)]at B
   cases e:vs[i]?<;>simp_all
  obtain⟨u,T,W⟩:=r.get Y;have G:ps[i]?=ap y:=by
   rw[<- S.pre,List.getElem?_take_of_lt (by lia)];exact J
  have I:ps.Nodup:=by rw[<- S.pre];exact S.nd.sublist (List.take_sublist _ _)
  refine#[u,W,?_];rcases S.par y (UQ G) with k|k
  .exact .inl #[k,qL I G T k]
  obtain⟨c,e⟩:=we k;refine .inr #[.inl k,c,e,?_];have q:=x.cell y c e;rw[qe I G T (by show g.names.lookup y≠_;rw[k];decide)]at q
  exact q
 .exact n.hok.fresh (V1<|x.above y c<|Vb h)
 unfold start;show _=N.length;rw[Ui,Tz,List.length_replicate];lia
theorem MJ{kV:ay}(lk:K.lookup f=ap #[oc,od,.func (Wd name l B body g dV kV U pm an z ct),osl])(hcd:XB K z l=true)(S:FnScope N ps g)(len:∀vs H Q E,sp vs H Q E->vs.length=ps.length)(L:∀(A:h7)(j:List Env)(s:ca)(H:Hp)(vs:List V)(Q:VK)(E:XK),Room k (A.deeper<|envOfC l g s.heap.objs.size f z)->sp vs H Q E->
   ∃t,B5 (eY CX P w K mg base N l g f z A j s H E) body t/\t { nx:=λ_ H'=>Q .non H',rt:=Q } (start N vs) H):
  FnOk P w K mg base CX (k+1) f (Wd name l B body g dV kV U pm an z ct) ps sp:=by
 refine#[len,λA j s H args us vs Q E hr T hb r R=>?_];have hl:=len _ _ _ _ R;have KX:K.In s.heap:=T.mod.kin.keeps λb o e=>(T.bs b o e).1;have lim:s.heap.NoLimit:=T.mod.nolimit.keeps λb o e=>(T.bs b o e).1;have G:∀y∈ps.zip us,g.names.lookup y.1=ap .local\/(g.names.lookup y.1=ap .cell/\((cellsFrom (s.heap.objs.size+1) g.names []).lookup y.1).isSome=true):=λ⟨n,v⟩ hy=>by
  rcases S.par n (Wg hy).1 with q|q
  .exact .inl q
  .exact .inr #[q,W.cellsFrom_some _ _ _<|.inl q]
 refine codeAny_call_function hr.depth (KX _ _ lk) rfl S.co S.gen rfl (W.codeRec_of KX hcd) (hb _ _ _ _ ?_);refine wpAny_newFunctionEnv_cells S.kind G λenv he s1 x=>?_;subst he;refine#[lim.keeps x.toInCall.keep,codeAny_func ?_];obtain⟨t,ht,hq⟩:=L A j s H vs Q E (hr.deeper _) R;have I:Inv (eY CX P w K mg base N l g f z A j s H E) [] (start N vs) H s1:=Dm S hr.hd T hl r x;refine k6 (ht [] s1 (start N vs) H _ I hq) (λfl s' O=>?_) λe s' O=>O;have fin:∀{F:St}{H':Hp}{v:V}{u:ay},Inv (eY CX P w K mg base N l g f z A j s H E) [] F H' s'->RelV v u->Q v H'->CE j P w H s Q u s':=
  λ{F H' v u} J Y q=>#[v,H',J.os,J.bare,J.base,J.hok,Y,q]
 cases fl with
 |ret u=>
  obtain⟨v,F,H',J,Y,q⟩:=O;exact fin J Y q
 |next=>
  obtain⟨F,H',J,q⟩:=O;exact fin (v:=V.non) (u:=UU) J rfl q
 |brk=>
  obtain⟨_,_,_,q⟩:=O;exact Vn q
 |cont=>
  obtain⟨_,_,_,q⟩:=O;exact Vn q
section
variable{id:String}{r:List V->Hp->VK->Prop}
def tCB(r:List V->Hp->VK->Prop)(t:TA):TE:=λZ H Q=>t Z H λg H1=>r g H1 Q
theorem Fo(q:bu X (.builtin id) r)(v:Gl X x)(z:X.mg x=bb)(B:fv x=ap (.builtin id))(y:PA X (e::es) t)(F:x≠"__name__":=by decide)(hdb:(x==("__debug__":Str))=false:=by decide)(he:eH (e::es) X.env=(cp,g3 e X.env)::eH es X.env:=by rfl)(hpl:(j0 pos<|starEach es X.env).any (·.1)=false:=by rfl):PE X (.Call (.Name x p) (e::es) [] pos) (tCB r t):=by
 intro aaN s Z H Q I h;refine pa (df I v z B ?_ F hdb);exact PyProof.Rows.callWith_builtin1 (bz (y pos aaN s Z H _ I h) λus j ⟨n,H1,I1,l,g⟩=>q aaN j Z H1 n us Q I1 l g) he hpl
theorem DU(q:bu X (.type T) r)(v:Gl X x)(z:X.mg x=bb)(B:fv x=ap (.type T))(y:PA X (e::es) t)(F:x≠"__name__":=by decide)(hdb:(x==("__debug__":Str))=false:=by decide)(he:eH (e::es) X.env=(cp,g3 e X.env)::eH es X.env:=by rfl)(hpl:(j0 pos<|starEach es X.env).any (·.1)=false:=by rfl):PE X (.Call (.Name x p) (e::es) [] pos) (tCB r t):=by
 intro aaN s Z H Q I h;refine pa (df I v z B ?_ F hdb);exact UA (bz (y pos aaN s Z H _ I h) λus j ⟨n,H1,I1,l,g⟩=>q aaN j Z H1 n us Q I1 l g) he hpl
end
end _2
namespace HT
open PySem PyProof.Rows
theorem IJ(C:IsTup s.heap t vs.toArray)(y:IsTup s.heap b a.toArray)(x:vs≠[])
  (z:a=[]->Q (.ref t) s) (B:a≠[]->Q (.ref s.heap.objs.size) { s with heap:=s.heap.push { cls:=.type "tuple",data:=.seq (vs++a).toArray } })
  (hsz:vs.length+a.length<=sizeLine):cT (eX prog w) A (kr .Add (.ref t)<|.ref b) Q E s:=by
 obtain⟨⟨cls,r,data,u⟩,l,o,n,v⟩:=id C;obtain⟨⟨p,g,m,f⟩,c,h,q,i⟩:=id y;simp only at o v h i;subst o v h i;have e:vs.toArray++a.toArray=(vs++a).toArray:=by simp
 by_cases j:a=[]
 .exact aaA #[_,l,rfl] #[_,c,rfl] Z8 aan WT WK (WC _ _)
   (tuple_addW1 t b vs.toArray a.toArray n q r g u f (by simpa using x)<|by simp[j]) #[l,c,z j]
 .refine aaA #[_,l,rfl] #[_,c,rfl] Z8 aan WT WK (WC _ _)
   (tuple_addW2 t b vs.toArray a.toArray n q r g u f (by simpa using x) (by simpa using j)<|by rw[TZ,TZ];exact hsz) #[l,c,?_]
  rw[e];exact B j
noncomputable def sIx(n d:Nat):Option Int->Nat
 |none=>d
 |some v=>if v<0 then (v+(n:Int)).toNat else min v.toNat n
theorem Ic(n d:Nat):sIx n d bb=d:=rfl
theorem IU(n d k:Nat):sIx n d (ap (k:Int))=min k n:=by
 rfl
theorem sIx_le(n d:Nat)(a:d<=n)(o:Option Int):sIx n d o<=n:=by
 cases o with
 |none=>exact a
 |some v=>
  show (if v<0 then (v+n).toNat else min _ n)<=n
  lia
theorem AL(v:Int)(n d:Nat):(if v<0 then max (v+(n:Int)) 0 else min v (n:Int))=((sIx n d (ap v):Nat):Int):=by
 show (if v<0 then max _ 0 else min v _)=(if v<0 then (v+(n:Int)).toNat else min v.toNat n)
 lia
theorem yw(a b:Option Int)(n:Nat):Xj a b 1 (n:Int)=(((sIx n 0 a:Nat):Int),((sIx n n b:Nat):Int)):=by
 refine Prod.ext ?_ ?_
 .cases a with
  |none=>rfl
  |some v=>exact AL v n 0
 cases b with
 |none=>rfl
 |some v=>exact AL v n n
theorem yj(i j:Nat):V4 (i:Int) (j:Int) 1=j-i:=by
 unfold V4
 split<;>lia
theorem nF(p:ZT v o)(h:Q o s):cT (eX prog w) A (Builtin.Slice.slicePartIndex v) Q E s:=by
 cases p with
 |none=>exact slicePart_none h
 |int i t=>exact slicePart_int h
theorem fj{Q:Int×Int×Nat->ca->Prop}(m:s.heap.IsSliceOf i g f .none)(pl:ZT g a)(l:ZT f e)
  (h:Q (((sIx n 0 a:Nat):Int),1,sIx n n e-sIx n 0 a) s):cT (eX prog w) A (Builtin.Slice.sliceApplied (.ref i)<|pure (n:Int)) Q E s:=by
 obtain⟨o,c,j,b⟩:=id m;refine ax (ax<|wpAny_field c b rfl<|wpAny_bind<|wpAny_field c b rfl<|wpAny_bind<|wpAny_field c b rfl<|wpAny_pure ?_);refine ax (slicePart_none ?_);refine ax (nF pl<|wpAny_bind<|nF l<|wpAny_bind<|wpAny_pure ?_);show cT _ _ (match Xj a e 1 _ with|(a,e)=>pure (a,(1:Int),V4 a e 1)) _ _ s
 rw[yw a e n];show cT _ _ (pure _) _ _ s;rw[yj];exact cx h
theorem FM(xs:aa5)(i k:Nat):((Ub k).filterMap λ(m:Nat)=>xs[((i:Int)+(m:Int)*1).toNat]?).toArray=((xs.toList.drop i).take k).toArray:=by
 have e:(λ(m:Nat)=>xs[(i+(m:Int)*1).toNat]?)=λm=>xs[i+m]?:=by
  funext m;have:(i+(m:Int)*1).toNat=i+m:=by lia
  rw[this]
 rw[e];have:=pick_run xs i k;have a:((λx=>xs[x]?) ∘ λx=>i+x)=λm=>xs[i+m]?:=rfl
 simp_all
theorem iZ(f:IsTup s.heap t a)(p:s.heap.IsSliceOf m o n .none)(pl:ZT o b)(v:ZT n e)
  (x:¬(sIx a.size 0 b=0/\sIx a.size a.size e=a.size))
  (h:Q (.ref s.heap.objs.size) { s with heap:=s.heap.push { cls:=.type "tuple",data:=.seq ((a.toList.drop<|sIx a.size 0 b).take (sIx a.size a.size e-sIx a.size 0 b)).toArray } })
  (hsz:a.size<=sizeLine):cT (eX prog w) A (ZU (.ref t)<|.ref m) Q E s:=by
 have c:sizeOk (.seq ((a.toList.drop<|sIx a.size 0 b).take (sIx a.size a.size e-sIx a.size 0 b)).toArray):=by
  show ((a.toList.drop _).take _).toArray.size<=sizeLine;rw[TZ,WX,List.length_drop,Ve];lia
 obtain⟨u,g,l,r⟩:=id p;have j:s.TypeIs (.ref m) _:=#[u,g,l];unfold ZU
 try with_reducible refine kL ?_
 refine ax (wpAny_sequenceKey f.typeIs (by decide) ?_)
 refine ax (wpAny_callSpecial?_slot f.typeIs UN
  (n7 UN f.typeIs entry_tuple_getitem ?_<|args_tuple_getitem _ _))
 show cT _ _ (Xg _ >>= _) _ _ s;refine ax (tupleItemsOf_ f ?_);refine ax (Z1 j ?_);refine ax (fj p pl v ?_);have i:¬((((sIx a.size 0 b):Int)==0&&(1:Int)==1&&(sIx a.size a.size e-sIx a.size 0 b)==a.size)=true):=by
  intro q;rw[Vf,Vf]at q;have y:=eq_of_beq q.1.1;have z:=eq_of_beq q.2;exact x #[by lia,by lia]
 show cT _ _ (if (((sIx _ 0 b):Int)==0&&1==1&&(sIx _ _ e-sIx _ 0 b)==a.size)=true then _ else _) _ _ s
 rw[if_neg i,FM]
 first
  |exact ax (p6 (cx #[_,rfl,cx h]) c)
  |rfl
  |rfl
  |rfl
end HT
namespace _2
open PySem PySem.Spec PyProof.Rows
variable{xs:List (List aC×cb×ay)}{aaT:aaY}{n:Nat}{α:Type}{r u:ay}
abbrev TO:=St->Hp->(Option Int->Hp->Prop)->Prop
def PO(X:Cx)(e:Option fy)(t:TO):Prop:=
 ∀(aaN:aa3)(s:ca)(Z:St)(H:Hp)(Q:Option Int->Hp->Prop),Inv X aaN Z H s->t Z H Q->
  cT (eX X.prog X.w) X.A (evalPart e X.env) (λu c=>∃o H',Inv X aaN Z H' c/\ZT u o/\Q o H') X.xe s
def JI:TO:=λ_ H Q=>Q bb H
def QI(t:TE):TO:=λZ H Q=>t Z H λx H1=>∃i,x=.int i/\Q (ap i) H1
section
variable{lo hi:Option fy}
theorem Ji:PO X bb JI:=by
 intro aaN s Z H Q I h;exact cx #[_,H,I,.none,h]
theorem KF(h:PE X e te):PO X (ap e) (QI te):=by
 intro aaN s Z H Q I f;refine bz (h _ s Z H _ I f) λu l g=>?_;obtain⟨x,H1,I1,j,c⟩:=g;obtain⟨i,rfl,q⟩:=c;obtain⟨t,rfl⟩:=j;exact#[_,H1,I1,.int i t,q]
def R8(X:Cx)(r:V->Option Int->Option Int->Hp->VK->Prop):Prop:=
 ∀(aaN:aa3)(s:ca)(Z:St)(H:Hp)(x:V)(v vl vu:ay)(lo hi:Option Int)(sl:cb)(Q:VK),Inv X aaN Z H s->RelV x v->s.heap.IsSliceOf sl vl vu .none->ZT vl lo->ZT vu hi->r x lo hi H Q->
  ∃T id,T_ (.type T) "__getitem__"=pure (ap<|.builtin id)/\s.TypeIs v T/\cT (eX X.prog X.w) X.A (ZU v<|.ref sl) (EP X aaN Z Q) X.xe s
def tSl(r:V->Option Int->Option Int->Hp->VK->Prop)(te:TE)(tl th:TO):TE:=λZ H Q=>te Z H λx H1=>tl Z H1 λl H2=>th Z H2 λu H3=>r x l u H3 Q
theorem F1{r:V->Option Int->Option Int->Hp->VK->Prop}(J:R8 X r)(L:PE X e te)(G:PO X lo tl)(K:PO X hi th):PE X (.Subscript e (.Slice lo hi bb p2) pos) (tSl r te tl th):=by
 intro aaN s Z H Q I h;refine Subscript_ (bz (L aaN s Z H _ I h) λv z ⟨x,H1,I1,B,j⟩=>?_);refine wpAny_Slice (bz (G aaN z Z H1 _ I1 j) λg s2 ⟨l,H2,I2,pl,C⟩=>bz (K aaN s2 Z H2 _ I2 C) λf c ⟨u,H3,I3,i,m⟩=>?_);rw[evalPart_none];refine cx ?_;have I4:Inv X aaN Z H3 { c with heap:=c.heap.push { cls:=.type "slice",data:=.fields (Tw [g,f,.none]) } }:=I3.kept (t':=c.toks) λb M q=>Tv _ q;obtain⟨T,id,y,F,p⟩:=J aaN { c with heap:=c.heap.push { cls:=.type "slice",data:=.fields (Tw [g,f,.none]) } } Z H3 x v g f l u c.heap.objs.size Q I4 B (Heap.IsSliceOf.new ..) pl i m;show cT (eX X.prog X.w) X.A (subscriptTail e (.Slice lo hi bb p2) v<|.ref c.heap.objs.size) (EP X aaN Z Q) X.xe { c with heap:=c.heap.push { cls:=.type "slice",data:=.fields (Tw [g,f,.none]) } };exact tail_any (ops:=[.ref c.heap.objs.size,v]) F y p (by with_unfolding_all rfl)
def pi(xs:List V)(lo hi:Option Int):List V:=(xs.drop<|HT.sIx xs.length 0 lo).take (HT.sIx xs.length xs.length hi-HT.sIx xs.length 0 lo)
theorem k7(xs:List V)(lo hi:Option Int):(pi xs lo hi).length<=xs.length:=by
 unfold pi;rw[WX,List.length_drop];lia
def rSlT(K:TH):V->Option Int->Option Int->Hp->VK->Prop:=λx lo hi H Q=>∃a xs,x=.ref a/\ke K H a xs/\
 ¬(HT.sIx xs.length 0 lo=0/\HT.sIx xs.length xs.length hi=xs.length)/\∀p,H p=bb->Q (.ref p) (upd H p<|.tup<|pi xs lo hi)
theorem NE:R8 X (rSlT X.K):=by
 rintro aaN s Z H x v y p lo hi B Q I g l pl h ⟨a,xs,rfl,m,i,q⟩
 cases g;obtain⟨aaT,r,f,j⟩:=I.tuple m;have c:aaT.toArray.size=xs.length:=by exact r.length.symm
 refine#[_,_,UN.lookup,f.typeIs,?_];refine HT.iZ f l pl h (by rw[c];exact i) ?_ (by simp_all)
 rw[c];refine#[.ref _,_,I.laid (λb z q=>Tv _ q) (TL _) ?_,rfl,q _<|I.hok.fresh<|TL _];exact#[TR (k7 xs lo hi) j,_,(r.drop _).take _,#[_,TF _ rfl,#[rfl,_,rfl],rfl]]
def Rt(K:TH):R2:=λx y H Q=>∃a b xs ys,x=.ref a/\y=.ref b/\ke K H a xs/\ke K H b ys/\xs≠[]/\xs.length+ys.length<=sizeLine/\
 (ys=[]->Q (.ref a) H)/\(ys≠[]->∀p,H p=bb->Q (.ref p) (upd H p<|.tup (xs++ys)))
theorem Vals.nil_iff{xs:List V}(r:Vals xs us):us=[]↔xs=[]:=by
 cases r<;>simp_all
theorem Kb:cW X (kr .Add) (Rt X.K):=by
 rintro aaN s Z H x y v u Q I g h ⟨a,b,xs,G,rfl,rfl,l,B,p,j,i,C⟩
 cases g;cases h;obtain⟨aaT,c,m,_⟩:=I.tuple l;obtain⟨f,r2,p2,_⟩:=I.tuple B;refine HT.IJ m p2 (λz=>p (c.nil_iff.mp z)) (λz=>#[.ref a,H,I,rfl,i<|r2.nil_iff.mp z]) (λz=>?_) (by rw[<- c.length,<- r2.length];exact j)
 refine#[.ref _,_,I.laid (λb F q=>Tv _ q) (TL _) ?_,rfl,C (λw=>z (r2.nil_iff.mpr w)) _<|I.hok.fresh<|TL _];exact#[by simp_all,_,c.append r2,#[_,TF _ rfl,#[rfl,_,rfl],rfl]]
end
noncomputable def yD(n:Nat)(i:Int):Option Nat:=if 0<=i then (if i<n then ap i.toNat else bb) else if -(n:Int)<=i then ap (i+n).toNat else bb
def atI{α:Type}(xs:List α)(i:Int):Option α:=(yD xs.length i).bind λj=>xs[j]?
theorem tN(h:yD n i=ap j):aar i n=ap j/\j<n/\-(n:Int)<=i/\i<n:=by
 unfold yD at h
 by_cases f:0<=i
 .rw[if_pos f]at h
  by_cases c:i<n
  .rw[if_pos c]at h
   have e:=UP h;exact#[by rw[seqIndex_of f c,e],by lia,by lia,c]
  simp_all
 rw[if_neg f]at h
 by_cases c:-n<=i
 .rw[if_pos c]at h
  have e:=UP h;exact#[by rw[aax (by lia) c,e],by lia,c,by lia]
 rw[if_neg c]at h;cases h
theorem t8{xs:List α}(h:atI xs i=ap v):∃j,aar i xs.length=ap j/\xs[j]?=ap v/\j<xs.length/\-(xs.length:Int)<=i/\i<xs.length:=by
 unfold atI at h;cases e:yD xs.length i with
 |none=>simp_all
 |some j=>
  rw[e]at h;obtain⟨c,g,f,l⟩:=tN e;exact#[j,c,h,g,f,l]
def Au(b:fy):Prop:=∀o i,subscripted b cp o i=operate [o,i] (ZU o i)
def IxR(X:Cx)(r:R2):Prop:=
 ∀(value slice:fy)(aaN:aa3)(s:ca)(Z:St)(H:Hp)(x y:V)(v u:ay)(Q:VK),Inv X aaN Z H s->RelV x v->RelV y u->r x y H Q->
  subscripted slice cp v u=operate [v,u] (ZU v u)->cT (eX X.prog X.w) X.A (subscriptTail value slice v u) (EP X aaN Z Q) X.xe s
def xz(X:Cx)(id:String)(r:V->List V->Hp->VK->Prop):Prop:=
 ∀(aaN:aa3)(s:ca)(Z:St)(H:Hp)(x:V)(xs:List V)(v:ay)(us:aaY)(Q:VK),Inv X aaN Z H s->RelV x v->Vals xs us->r x xs H Q->
  cT (eX X.prog X.w) X.A (call (.builtin id) (v::us)) (EP X aaN Z Q) X.xe s
section
theorem IxR.or{r:R2}(h:IxR X r)(h':IxR X l):IxR X (λx y H Q=>r x y H Q\/l x y H Q):=by
 intro c f aaN s Z H x y v u Q I g i q j;rcases q with q|q
 .exact h _ _ _ s Z H x y v u Q I g i q j
 exact h' _ _ _ s Z H x y v u Q I g i q j
theorem SI{r:R2}(j:IxR X r)(g:PE X a ta)(l:PE X b tb)(i:Au b):PE X (.Subscript a b pos) (Tf r ta tb):=by
 intro aaN s Z H Q I h;exact Subscript_ (PM g l I h λv u s2 x y H2 I2 c f q=>j a b aaN s2 Z H2 x y v u Q I2 c f q (i _ _))
def RK(K:TH):R2:=λx y H Q=>∃p xs i v,x=.ref p/\y=.int i/\SqL K H p xs/\atI xs i=ap v/\Q v H
def T3(K:TH):R2:=λx y H Q=>∃p xs i v,x=.ref p/\y=.int i/\ke K H p xs/\atI xs i=ap v/\Q v H
def SO:R2:=λx y H Q=>∃z i c,x=.str z/\y=.int i/\z.length<=sizeLine/\atI z.cps.toList i=ap c/\Q (.str #[(Tw [c])]) H
theorem ix_list:IxR X (RK X.K):=by
 intro l m aaN s Z H x y v u Q I N O h C;obtain⟨p,xs,i,z,rfl,rfl,G,R,q⟩:=h;cases N;obtain⟨t,rfl⟩:=O;obtain⟨aaT,r,pl,T⟩:=I.list G;obtain⟨j,c,S,W,L,J⟩:=t8 R;obtain⟨w,F,g⟩:=r.get S;have M:=r.length;have U:=iH;have fin:EP X _ Z Q w s:=#[z,H,I,g,q]
 by_cases B:0<=i
 .have f:i.toNat=j:=by
   rw[seqIndex_of B J]at c;exact UP c
  exact item_listR pl.isList B (by lia) (by rw[f];simpa using F) fin C
 have f:(i+aaT.toArray.size).toNat=j:=by
  rw[aax (by lia) L]at c
  rw[TZ,<- M];exact UP c
 exact aaw pl.isList.typeIs slot_list_getitem.lookup
  (wpAny_getItem_list_neg pl.isList (by lia) (by rw[TZ]<;>lia) (by lia) (by rw[f];simpa using F) #[rfl,fin]) C
theorem ix_tup:IxR X (T3 X.K):=by
 intro f g aaN s Z H x y v u Q I m C h G;obtain⟨p,xs,i,z,rfl,rfl,l,F,q⟩:=h;cases m;obtain⟨t,rfl⟩:=C;obtain⟨aaT,r,pl,M⟩:=I.tuple l;obtain⟨j,B,L,S,O,N⟩:=t8 F;obtain⟨w,J,c⟩:=r.get L;have R:=iH;have fin:EP X _ Z Q w s:=#[z,H,I,c,q]
 exact aaw pl.typeIs slot_tuple_getitem.lookup
  (getItem_tuple pl (by lia) (by lia) (by rw[TZ,<- r.length];exact B) (by simpa using J) #[rfl,fin]) G
theorem Fx:IxR X SO:=by
 intro f g aaN s Z H x y v u Q I m B h F;obtain⟨z,i,c,rfl,rfl,O,C,q⟩:=h;obtain⟨t,rfl⟩:=m;obtain⟨t',rfl⟩:=B;obtain⟨j,l,K,R,L,G⟩:=t8 C;have M:z.cps.toList.length=z.length:=by rfl
 rw[M]at l L G;have N:=iH;exact tail_any (typeIs_str s z t) slot_str_getitem.lookup (getItem_str (by
  have p:decide (i < -(2 ^ 63))=false:=decide_eq_false (by lia)
  have J:decide (i>=2 ^ 63)=false:=decide_eq_false (by lia)
  rw[p,J,Vw]) (by rw[l];simpa using K) #[.str _,H,I.tok _,#[_,rfl],q]) F
def rIx(K:TH):R2:=λx y H Q=>RK K x y H Q\/T3 K x y H Q\/SO x y H Q
theorem NH:IxR X (rIx X.K):=ix_list.or (ix_tup.or Fx)
theorem wX(aaT:aaY)(n j:Nat)(u:ay):Vc (·.setIfInBounds j u) { cls:=.type "list",data:=.seq aaT.toArray n }={ cls:=.type "list",data:=.seq (aaT.set j u).toArray n }:=by
 simp[Vc]
theorem Inv.lst{xs:List V}(I:Inv X aaN Z H s)(h:H p=ap (.lst xs)):
  ∃(aaT:aaY)(n:Nat),Vals xs aaT/\s.heap.get? p=ap { cls:=.type "list",data:=.seq aaT.toArray n }/\xs.length<=sizeLine:=by
 obtain⟨z,aaT,n,r,e⟩:=I.hok p _ h;exact#[_,n,r,e,z]
theorem Inv.lstUpd{xs:List V}(I:Inv X aaN Z H s)(h:H p=ap (.lst xs))(ho:s.heap.get? p=ap { cls:=.type "list",data:=.seq aaT.toArray n })(hf:f { cls:=.type "list",data:=.seq aaT.toArray n }={ cls:=.type "list",data:=.seq its'.toArray n' })(r:Vals ys its')(hz:ys.length<=sizeLine)(t:Nat):
  Inv X aaN Z (upd H p<|.lst ys) { s with heap:=s.heap.update p f,toks:=t }:=by
 have e:(s.heap.update p f).get? p=ap { cls:=.type "list",data:=.seq its'.toArray n' }:=by
  rw[US f ho (by rw[hf]<;>rfl),hf]
 refine I.write (x:=p) (e:=p) (by rw[h];trivial) (.inl rfl) (λb u hb q=>(Uj _ _<|Uk hb).trans q) #[_,e] ?_
 exact#[hz,its',n',r,e]
def Sk:V->V->V->Hp->(Hp->Prop)->Prop:=λo i v H Q=>∃p xs k j,o=.ref p/\i=.int k/\H p=ap (.lst xs)/\yD xs.length k=ap j/\Q (upd H p<|.lst<|xs.set j v)
theorem FK:Nd X Sk:=by
 rintro aaN s Z H o i v M K u Q I B z C ⟨p,xs,k,j,rfl,rfl,h,F,q⟩
 cases B;obtain⟨t,rfl⟩:=z;obtain⟨aaT,n,r,f,G⟩:=I.lst h;obtain⟨c,L,l,y⟩:=tN F;have m:=r.length;have J:=iH;have I':Inv X _ Z _ _:=
  I.lstUpd h f (wX _ n j u) (r.set C j) (by rw[Vj];exact G) s.toks
 by_cases x:0<=k
 .have g:k.toNat=j:=by
   rw[seqIndex_of x y]at c;exact UP c
  exact W.ki_setAt f x (by lia) (by simp_all) (by rw[g];exact#[_,I',q])
 have g:(k+aaT.toArray.size).toNat=j:=by
  rw[aax (by lia) l]at c
  rw[TZ,<- m];exact UP c
 exact W.ki_setBack f (by lia) (by rw[TZ,<- m];exact l) (by lia) (by rw[g];exact#[_,I',q])
theorem tO(c f:Option Int)(n:Nat):(V' c f bb n).1=((HT.sIx n 0 c:Nat):Int)/\(V' c f bb n).2.1=((HT.sIx n n f:Nat):Int)/\(V' c f bb n).2.2=1:=by
 refine#[?_,?_,rfl]
 .cases c with
  |none=>rfl
  |some i=>
   simp[V',HT.sIx,if_true];lia
 cases f with
 |none=>simp[V',HT.sIx]
 |some i=>
  simp only[V',HT.sIx,Option.getD_none,if_true]
  by_cases h:i<0
  .simp only[h,if_true]<;>lia
  simp only[h,if_false]<;>lia
theorem pF(aaT:aaY)(c f:Option Int):slicePick aaT.toArray c f bb=((aaT.drop<|HT.sIx aaT.length 0 c).take (HT.sIx aaT.length aaT.length f-HT.sIx aaT.length 0 c)).toArray:=by
 obtain⟨h,i,g⟩:=tO c f _;unfold slicePick;rw[h,i,g];simp only[sliceRange_one,pick_run]<;>rfl
def rSlL(K:TH):V->Option Int->Option Int->Hp->VK->Prop:=λx c f H Q=>∃a xs,x=.ref a/\SqL K H a xs/\∀p,H p=bb->Q (.ref p) (upd H p<|.lst<|pi xs c f)
theorem Cs:R8 X (rSlL X.K):=by
 rintro aaN s Z H x v z y i p C Q I g l pl h ⟨a,xs,rfl,m,q⟩
 cases g;obtain⟨aaT,r,f,j⟩:=I.list m;have c:=r.length;refine#[_,_,slot_list_getitem.lookup,f.isList.typeIs,?_];refine wpAny_getItem_list_slice f.isList l pl h .none (by simp) ?_ (by simp_all)
 rw[pF,<- c];refine#[.ref _,_,I.laid (λb B q=>Tv _ q) (TL _) ?_,rfl,q _<|I.hok.fresh<|TL _];exact#[TR (k7 xs i p) j,_,0,(r.drop _).take _,TF _ rfl]
noncomputable def HV:V->Bool
 |.non=>true
 |.bl _=>true
 |.int _=>true
 |.str _=>true
 |_=>cp
noncomputable def wR:V->V->Bool
 |.non,.non=>true
 |.bl a,.bl b=>a==b
 |.bl a,.int b=>(if a then 1 else 0)==b
 |.int a,.bl b=>a==(if b then 1 else 0)
 |.int a,.int b=>a==b
 |.str a,.str b=>a==b
 |_,_=>cp
theorem EQ(f:RelV y u)(c:RelV x v)(h:HV y=true)(g:HV x=true):WY A s u v (wR y x):=by
 cases y with
 |non=>
  cases f;cases x with
  |non=>cases c;exact SeqAt.EqAt.same _
  |bl b=>cases c;exact SeqAt.EqAt.none_bool b
  |int b=>obtain⟨t,rfl⟩:=c;exact X6 b t
  |str b=>obtain⟨t,rfl⟩:=c;exact X5 b t
  |_=>trivial
 |bl a=>
  cases f;cases x with
  |non=>cases c;exact SeqAt.EqAt.bool_none a
  |bl b=>cases c;exact SeqAt.EqAt.bool_bool a b
  |int b=>obtain⟨t,rfl⟩:=c;exact SeqAt.EqAt.bool_int a b t
  |str b=>obtain⟨t,rfl⟩:=c;exact SeqAt.EqAt.bool_str a b t
  |_=>trivial
 |int a=>
  obtain⟨t',rfl⟩:=f;cases x with
  |non=>cases c;exact X7 a t'
  |bl b=>cases c;exact SeqAt.EqAt.int_bool a t' b
  |int b=>obtain⟨t,rfl⟩:=c;exact SeqAt.EqAt.int_int a t' b t
  |str b=>obtain⟨t,rfl⟩:=c;exact Yd a t' b t
  |_=>trivial
 |str a=>
  obtain⟨t',rfl⟩:=f;cases x with
  |non=>cases c;exact X4 a t'
  |bl b=>cases c;exact SeqAt.EqAt.str_bool a t' b
  |int b=>obtain⟨t,rfl⟩:=c;exact Yc a t' b t
  |str b=>obtain⟨t,rfl⟩:=c;exact SeqAt.EqAt.str_str a t' b t
  |_=>trivial
 |_=>trivial
theorem sD:bu X (.builtin "len") (λxs H Q=>∃p ys,xs=[.ref p]/\(SqL X.K H p ys\/ke X.K H p ys)/\Q (.int ys.length) H):=by
 rintro aaN s Z H xs i Q I r ⟨p,ys,rfl,hq,q⟩
 obtain⟨u,rfl,g⟩:=gT r;cases g;have j:=iH;rcases hq with hq|hq
 .obtain⟨aaT,f,pl,h⟩:=I.list hq
  have c:=f.length;exact YE pl.isList (by simp<;>lia) #[.int _,H,I.tok _,#[_,by rw[TZ,c]],q]
 obtain⟨aaT,f,pl,h⟩:=I.tuple hq;have c:=f.length;exact len_tuple pl (by simp only[TZ]<;>lia) #[.int _,H,I.tok _,#[_,by rw[TZ,c]],q]
theorem ub:bu X (.builtin "len") (λxs H Q=>∃z,xs=[.str z]/\z.length<=sizeLine/\Q (.int z.length) H):=by
 rintro aaN s Z H xs c Q I r ⟨z,rfl,f,q⟩
 obtain⟨u,rfl,t,rfl⟩:=gT r;have g:=iH;exact len_str (by lia) #[.int _,H,I.tok _,#[_,rfl],q]
theorem tD:bu X (.type "list") (λxs H Q=>∃p ys,xs=[.ref p]/\(SqL X.K H p ys\/ke X.K H p ys)/\∀l,H l=bb->Q (.ref l) (upd H l<|.lst ys)):=by
 rintro aaN s Z H xs y Q I r ⟨p,ys,rfl,hq,q⟩
 obtain⟨u,rfl,x⟩:=gT r;cases x
 have fin:∀(aaT:List _),Vals ys _->ys.length<=sizeLine->∀(c:g4)(g:Nat),(∀b o',s.heap.get? b=ap o'->c.get? b=ap o')->
   c.get? _=ap _->EP X _ Z Q _ _:=λaaT f h c g kp e=>
  #[.ref _,_,I.laid (t':=s.toks) kp (TL _) (show ObjOk _ _ _ c _ (.lst ys) from #[h,aaT,g,f,e]),rfl,q _<|I.hok.fresh<|TL _]
 rcases hq with hq|hq
 .obtain⟨aaT,f,pl,h⟩:=I.list hq
  have i:=f.length;obtain⟨o,j,v,n,m⟩:=pl.isList;exact call_list_seq p (.inl rfl) j v m (λc g kp e=>fin _ f h c g kp e) (by simp_all)
 obtain⟨aaT,f,pl,h⟩:=I.tuple hq;have i:=f.length;obtain⟨o,j,v,n,m⟩:=pl;exact call_list_seq p (.inr rfl) j v m (λc g kp e=>fin _ f h c g kp e) (by simp only[TZ]<;>lia)
theorem iq:bu X (.type "tuple") (λxs H Q=>∃p ys,xs=[.ref p]/\((SqL X.K H p ys/\∀l,H l=bb->Q (.ref l) (upd H l<|.tup ys))\/(ke X.K H p ys/\Q (.ref p) H))):=by
 rintro aaN s Z H xs v Q I r ⟨p,ys,rfl,h⟩
 obtain⟨u,rfl,j⟩:=gT r;cases j;rcases h with⟨c,q⟩|⟨c,q⟩
 .obtain⟨aaT,f,pl,g⟩:=I.list c
  have i:=f.length;refine call_tuple_list pl.isList (λm kp=>?_) (by simp_all)
  have I1:Inv X _ Z H _:=I.kept (t':=s.toks) kp;have I2:Inv X _ Z (upd H _<|.tup ys) { s with heap:=m.push { cls:=.type _,data:=.seq _ } }:=
   I1.laid (λb o e=>Tv _ e) (TL _) (#[g,_,f,#[_,TF _ rfl,#[rfl,_,rfl],rfl]])
  exact#[.ref _,_,I2,rfl,q _<|I1.hok.fresh<|TL _]
 obtain⟨aaT,f,pl,g⟩:=I.tuple c;exact call_tuple_same pl #[.ref p,H,I,rfl,q]
def tyV(K:TH)(T:String)(x:V)(H:Hp):Prop:=match x with
 |.str _=>T="str"
 |.int _=>T="int"
 |.ref p=>(T="list"/\∃xs,SqL K H p xs)\/(T="tuple"/\∃o,K.lookup p=ap o/\o.cls=.type "tuple"/\o.dict=bb)\/
   (T="dict"/\((∃aaP,H p=ap (.dK aaP))\/∃aaP,H p=ap (.dT aaP)))\/(T="set"/\∃S n,H p=ap (.set S n))
 |_=>False
theorem G3(I:Inv X aaN Z H s)(r:RelV x v)(ty:tyV X.K T x H):
  s.TypeIs v T/\∀a,v=.ref a->∃m,s.heap.get? a=ap m/\m.dict=none:=by
 cases x with
 |str z=>
  obtain⟨t,rfl⟩:=r;cases ty;exact#[typeIs_str s z t,λ_ e=>nomatch e]
 |int i=>
  obtain⟨t,rfl⟩:=r;cases ty;exact#[typeIs_int s i t,λ_ e=>nomatch e]
 |ref p=>
  cases r;rcases ty with⟨rfl,xs,q⟩|⟨rfl,o,f,hc,j⟩|⟨rfl,f⟩|⟨rfl,S,n,f⟩
  .obtain⟨aaT,_,pl,_⟩:=I.list q
   refine#[pl.isList.typeIs,λa e=>?_];cases e;obtain⟨o,n,e,c,j,_⟩:=pl;exact#[o,e,j]
  .refine#[#[o,I.kIn p o f,hc],λa e=>?_]
   cases e;exact#[o,I.kIn _ o f,j]
  .have z:∃o,s.heap.get? p=ap o/\o.ExactDict:=by
    rcases f with⟨h,f⟩|⟨h,f⟩
    .obtain⟨_,_,_,_,o,_,_,e,g,_⟩:=I.hok p _ f
     exact#[o,e,g]
    obtain⟨_,_,_,_,o,_,_,e,g,_⟩:=I.hok p _ f;exact#[o,e,g]
   obtain⟨o,e,g⟩:=z;refine#[#[o,e,g.1],λa l=>?_];cases l;exact#[o,e,g.2.1]
  obtain⟨o,_,_,_,e,g,_⟩:=I.hok p _ f;refine#[#[o,e,g.1],λa l=>?_];cases l;exact#[o,e,g.2.1]
 |_=>exact Vn ty
def tBM0(K:TH)(T:String)(r:V->List V->Hp->VK->Prop)(to:TE):TE:=λZ H Q=>to Z H λx H1=>tyV K T x H1/\r x [] H1 Q
def tBM(K:TH)(T:String)(r:V->List V->Hp->VK->Prop)(to:TE)(t:TA):TE:=λZ H Q=>to Z H λx H1=>tyV K T x H1/\t Z H1 λxs H2=>r x xs H2 Q
variable{id:String}{r:V->List V->Hp->VK->Prop}
theorem Nw(y:W' T)(f:Slot T name id)(g:ZY (.builtin id)=pure (.type "method_descriptor"))(hm:xz X id r)(z:PE X o to)(c:k' o name X.env (g3 o X.env)=g3 o X.env:=by rfl)(hline:(aaS.endLine==aaR.line)=true:=by rfl):PE X (.Call (.Attribute o name aaS) [] [] aaR) (tBM0 X.K T r to):=by
 intro aaN s Z H Q I h;refine wpAny_Call_method0_late c hline (bz (z _ s Z H _ I h) λv p q=>?_);obtain⟨x,H1,I1,i,ty,l⟩:=q;obtain⟨j,m⟩:=G3 I1 i ty;exact#[T,id,y,f,g,j,m,Vq rfl<|PySem.evalArgs_none<|hm _ p Z H1 x [] v [] Q I1 i .nil l]
theorem S4(G:W' T)(f:Slot T name id)(g:ZY (.builtin id)=pure (.type "method_descriptor"))(L:xz X id r)(M:PE X o to)(J:PA X (e::es) t)(c:k' o name X.env (g3 o X.env)=g3 o X.env:=by rfl)(hfew:((j0 aaR<|starEach (e::es) X.env).all (λx=>!x.1)&&(y' aaR<|keywordEach [] X.env).all (λx=>x.1.isSome)
   && decide ((e::es).length+([]:List wh).length+(if ([]:List wh).isEmpty then 0 else 1)<30))=true:=by rfl)(hline:(aaS.endLine==aaR.line)=true:=by rfl)(hs:eH (e::es) X.env=(cp,g3 e X.env)::eH es X.env:=by rfl)(hplain:(j0 aaR<|starEach es X.env).any (·.1)=false:=by rfl):
  PE X (.Call (.Attribute o name aaS) (e::es) [] aaR) (tBM X.K T r to t):=by
 intro aaN s Z H Q I h;refine aav c hfew hline rfl (bz (M _ s Z H _ I h) λv C q=>?_);obtain⟨x,H1,I1,j,ty,m⟩:=q;obtain⟨l,B⟩:=G3 I1 j ty;refine#[T,id,G,f,g,l,B,?_];have i:=J aaR _ C Z H1 _ I1 m;rw[hs]at i ⊢;exact Vq (by show (cp||(j0 _ _).any _)=cp;rw[hplain]<;>rfl) (VA<|bz i<|by rintro y s2 ⟨p,H2,I2,z,F⟩;exact L _ s2 Z H2 x p v y Q I2 j z F)
end
def MtM(X:Cx)(id:String)(r:V->List V->Hp->VK->Prop):Prop:=
 ∀(aaN:aa3)(s:ca)(Z:St)(H:Hp)(x:V)(xs:List V)(v:ay)(us:aaY)(Q:VK),Inv X aaN Z H s->RelV x v->Vals xs us->r x xs H Q->
  cT (eX X.prog X.w) X.A (call (.builtin id) (v::us)) (EP X aaN Z Q) X.xe s
theorem Vals.one:∀{x:V}{us:aaY},Vals [x] us->∃u,us=[u]/\RelV x u
 |_,_,h=>by cases h with|cons r q=>cases q;exact#[_,rfl,r]
theorem Vals.two:∀{x y:V}{us:aaY},Vals [x,y] us->∃u v,us=[u,v]/\RelV x u/\RelV y v
 |_,_,_,h=>by cases h with|cons r q=>cases q with|cons q z=>cases z;exact#[_,_,rfl,r,q]
theorem Vals.zero:∀{us:aaY},Vals [] us->us=[]
 |_,.nil=>rfl
theorem Vals.dropLast{xs:List V}(h:Vals xs us):Vals xs.dropLast us.dropLast:=by
 induction h with
 |nil=>exact .nil
 |cons r t ih=>
  cases t with
  |nil=>exact .nil
  |cons q t'=>exact .cons r ih
theorem Vals.eraseIdx:∀{xs:List V}{us:aaY}(i:Nat),Vals xs us->Vals (xs.eraseIdx i) (us.eraseIdx i)
 |_,_,_,.nil=>.nil
 |_,_,0,.cons _ t=>t
 |_,_,i+1,.cons r t=>.cons r (Vals.eraseIdx i t)
theorem Vals.rep{xs:List V}(h:Vals xs us):∀k:Nat,Vals (Um k xs).flatten (Um k us).flatten
 |0=>.nil
 |k+1=>by
  exact Vals.append h (Vals.rep h k)
theorem Og(l:List α):l.eraseIdx (l.length-1)=l.dropLast:=by
 simp_all
theorem qv{α:Type}:∀(l:List α)(i:Nat),(l.eraseIdx i).length<=l.length
 |[],_=>TL _
 |_::_,0=>WQ _
 |_::r,i+1=>Nat.succ_le_succ (qv r i)
section
variable{xs:List V}
theorem Inv.lset(I:Inv X aaN Z H s)(hH:H l=ap (.lst xs))(e:s.heap.get? l=ap { cls:=.type "list",data:=.seq aaT.toArray n })(hf:f aaT.toArray=its'.toArray)(hv:Vals ys its')(hz:ys.length<=sizeLine):
  Inv X aaN Z (upd H l<|.lst ys) { s with heap:=s.heap.update l (Vc f),toks:=t' }:=by
 have q:=PySem.IsL.update e f;rw[hf]at q;refine I.write (by rw[hH];exact trivial) (.inl rfl) (λb' u hb hu=>(Uj _ _<|Uk hb).trans hu) #[_,q] ?_
 exact#[hz,_,_,hv,q]
theorem Inv.lnew(I:Inv X aaN Z H s)(f:Vals ys aaT)(c:ys.length<=sizeLine):
  Inv X aaN Z (upd H s.heap.objs.size<|.lst ys) { s with heap:=s.heap.push { cls:=.type "list",data:=.seq aaT.toArray },toks:=t' }:=
 I.laid (λ_ _ q=>Tv _ q) (TL _) #[c,_,0,f,TF _ rfl]
theorem Inv.fresh(I:Inv X aaN Z H s):H s.heap.objs.size=none:=I.hok.fresh (TL _)
theorem Inv.lstM(I:Inv X aaN Z H s)(c:H l=ap (.lst xs)):xs.length<=sizeLine/\∃(aaT:aaY)(n:Nat),Vals xs aaT/\xs.length=aaT.length/\s.heap.get? l=ap { cls:=.type "list",data:=.seq aaT.toArray n }:=by
 obtain⟨z,aaT,n,r,e⟩:=I.hok l _ c;exact#[z,_,n,r,r.length,e]
end
def J0:V->List V->Hp->VK->Prop:=λx c H Q=>∃l xs y,x=.ref l/\c=[y]/\H l=ap (.lst xs)/\xs.length<sizeLine/\Q .non (upd H l<|.lst (xs++[y]))
theorem Dv:MtM X "list.append" J0:=by
 rintro aaN s Z H x j v m Q I f g ⟨l,xs,y,rfl,rfl,c,i,q⟩
 cases f;obtain⟨u,rfl,h⟩:=g.one;obtain⟨z,aaT,n,r,p,e⟩:=I.lstM c;refine ra Xa #[_,e,rfl] F.entry_list_append (F.args_list_append_2 _ _) (YU l _ n u<|by simp_all) #[e,?_]
 refine#[.non,_,I.lset c e (by simp) (r.append<|.cons h .nil) ?_,rfl,q]
 rw[Ui,Vh];lia
def rPop:V->List V->Hp->VK->Prop:=λx c H Q=>∃l xs y,x=.ref l/\c=[]/\H l=ap (.lst xs)/\xs[xs.length-1]?=ap y/\Q y (upd H l<|.lst xs.dropLast)
theorem Qb:MtM X "list.pop" rPop:=by
 rintro aaN s Z H x B v C Q I h i ⟨l,xs,y,rfl,rfl,g,j,q⟩
 cases h;have f:=i.zero;subst f;obtain⟨z,aaT,n,r,G,e⟩:=I.lstM g;obtain⟨u,p,m⟩:=r.get j;have c:aaT.toArray[aaT.toArray.size-1]?=ap u:=by
  simp_all
 refine ra Ws #[_,e,rfl] F.entry_list_pop (F.args_list_pop_1 _) (MeetsSeq.list_pop_last l _ n u c<|by rw[TZ];lia) #[e,?_]
 refine#[y,_,I.lset g e ?_ r.dropLast ?_,m,q]
 .simp_all
 rw[List.length_dropLast];lia
def OR:V->List V->Hp->VK->Prop:=λx c H Q=>∃l xs i k y,x=.ref l/\c=[.int i]/\H l=ap (.lst xs)/\-(2 ^ 63)<=i/\i<2 ^ 63/\aar i xs.length=ap k/\xs[k]?=ap y/\Q y (upd H l<|.lst<|xs.eraseIdx k)
theorem Gp:MtM X "list.pop" OR:=by
 rintro aaN s Z H x J v K Q I g h ⟨l,xs,i,k,y,rfl,rfl,f,j,C,G,m,q⟩
 cases g;obtain⟨u,rfl,B⟩:=h.one;obtain⟨t,rfl⟩:=B;obtain⟨z,aaT,n,r,L,e⟩:=I.lstM f;obtain⟨w,p,c⟩:=r.get m
 refine ra Ws #[_,e,rfl] F.entry_list_pop (F.args_list_pop_2 _ _)
  (MeetsSeq.list_pop_at l _ n i t k w (fitsIndex_both j C) (by simp_all) (by rw[<- Array.getElem?_toList];exact p)<|by rw[TZ];lia) #[e,?_]
 refine#[y,_,I.lset f e ?_ (r.eraseIdx k) ?_,c,q]
 .simp_all
 have:=qv xs k;lia
theorem J8(xs:List α)(k:Nat):(Um k xs).flatten.length=k*xs.length:=by
 induction k<;>simp_all
section
variable{κ:Type}[DecidableEq κ]
noncomputable def eG(aaP:List (κ×V))(k:κ):Option V:=(aaP.find? λc=>decide (c.1=k)).map (·.2)
noncomputable def fu(aaP:List (κ×V))(k:κ)(v:V):List (κ×V):=
 if (aaP.any λc=>decide (c.1=k))=true then aaP.map (λc=>if c.1=k then (c.1,v) else c) else aaP++[(k,v)]
noncomputable def iu(aaP:List (κ×V))(k:κ):List (κ×V):=aaP.filter λc=>decide (c.1≠k)
theorem o8{p:κ×V}{r:List (κ×V)}{k:κ}(e:p.1=k):eG (p::r) k=ap p.2:=by simp[eG,e]
theorem oB{p:κ×V}{r:List (κ×V)}{k:κ}(e:¬p.1=k):eG (p::r) k=eG r k:=by simp[eG,e]
theorem uJ(k:κ):∀aaP:List (κ×V),(aaP.any λkv=>decide (kv.1=k))=(eG aaP k).isSome
 |[]=>rfl
 |p::r=>by
  rw[V6]
  by_cases e:p.1=k
  .simp[o8 e,decide_eq_true e,W0]
  rw[oB e,decide_eq_false e];exact uJ k r
theorem ku(aaP:List (κ×V))(k:κ)(v:V):(fu aaP k v).length<=aaP.length+1:=by
 unfold fu
 split
 .rw[Tz];lia
 simp_all
theorem RelO.isSome_eq{u:Option ay}(r:RelO o u):o.isSome=u.isSome:=by
 cases o with
 |none=>cases u<;>trivial
 |some _=>cases u<;>trivial
theorem KV.val{aaP:List (κ×V)}{vs:List (κ×ay)}(r:KV aaP vs)(k:κ):RelO (eG aaP k) (W1 vs k):=by
 unfold KV at r
 induction r with
 |nil=>exact VB
 |@cons p q ps qs h t ih=>
  obtain⟨f,g⟩:=h
  by_cases e:p.1=k
  .have c:q.1=k:=f.symm.trans e
   have b:W1 (q::qs) k=ap q.2:=by simp[W1,Vv,c]
   rw[o8 e,b];exact g
  .have c:¬q.1=k:=λz=>e (f.trans z)
   have b:W1 (q::qs) k=W1 qs k:=by simp[W1,Vv,c]
   rw[oB e,b];exact ih
theorem KV.any{aaP:List (κ×V)}{vs:List (κ×ay)}(r:KV aaP vs)(k:κ):(aaP.any λkv=>decide (kv.1=k))=vs.any λkv=>decide (kv.1=k):=by
 induction r<;>simp_all
theorem KV.repl{aaP:List (κ×V)}{vs:List (κ×ay)}(r:KV aaP vs)(k:κ){y:V}(g:RelV y u):
  KV (aaP.map λkv=>if kv.1=k then (kv.1,y) else kv) (vs.map λkv=>if kv.1=k then (kv.1,u) else kv):=by
 induction r with
 |nil=>exact .nil
 |@cons p q ps qs h t ih=>
  rw[TB,TB];refine .cons ?_ ih;obtain⟨c,f⟩:=h
  by_cases e:p.1=k
  .rw[if_pos e,if_pos (c.symm.trans e)];trivial
  rw[if_neg e,if_neg (λz=>e (c.trans z))];exact#[c,f]
theorem KV.put{aaP:List (κ×V)}{vs:List (κ×ay)}(r:KV aaP vs)(k:κ){y:V}(c:RelV y u):KV (fu aaP k y) (ZZ vs k u):=by
 unfold fu ZZ;rw[r.any k]
 by_cases e:(vs.any λf=>decide (f.1=k))=true
 .rw[if_pos e,if_pos e];exact r.repl k c
 rw[if_neg e,if_neg e];exact Paired.snoc r #[rfl,c]
theorem KV.drop{aaP:List (κ×V)}{vs:List (κ×ay)}(r:KV aaP vs)(k:κ):KV (iu aaP k) (without vs k):=by
 unfold iu without
 induction r with
 |nil=>exact .nil
 |@cons p q ps qs h t ih=>
  obtain⟨c,f⟩:=h;rw[Uh,Uh]
  by_cases e:p.1=k
  .have a:¬decide (p.1≠k)=true:=by simp[e]
   have b:¬decide (q.1≠k)=true:=by simp_all
   rw[if_neg a,if_neg b];exact ih
  have g:¬q.1=k:=λz=>e (c.trans z);have a:decide (p.1≠k)=true:=by simp[e]
  have b:decide (q.1≠k)=true:=by simp[g]
  rw[if_pos a,if_pos b];exact .cons #[c,f] ih
theorem KV.length{aaP:List (κ×V)}{vs:List (κ×ay)}(r:KV aaP vs):aaP.length=vs.length:=Vk r
theorem Fn(aaP:List (κ×V))(k:κ):(iu aaP k).length<=aaP.length:=Uy _ _
end
theorem ju(r:RelV (kV k) u):(aU P w).is k u=true:=by
 cases k with
 |inl i=>obtain⟨t,e⟩:=r;subst e;exact wI P w i t
 |inr x=>obtain⟨t,e⟩:=r;subst e;exact uN P w x t
theorem qz:∀{ks:List aC}{us:aaY},Vals (ks.map kV) us->ItemsAre (aU P w) ks us
 |[],_,r=>by cases r;exact .nil
 |k::ks,_,r=>by
  cases r with
  |cons h t=>exact .cons (ju h) (qz t)
abbrev KT(H:Hp):List (List aC×V)->List (List aC×cb×ay)->Prop:=XV λp q=>p.1=q.1/\H q.2.1=ap (.tup<|p.1.map kV)/\RelV p.2 q.2.2
theorem KT.val(r:KT H aaP xs)(k:List aC):RelO (eG aaP k) ((atKey xs k).map (·.2)):=by
 induction r with
 |nil=>trivial
 |@cons p q ps qs h t ih=>
  obtain⟨f,_,g⟩:=h
  by_cases e:p.1=k
  .have c:=f.symm.trans e
   have b:atKey (q::qs) k=ap q.2:=by simp[atKey,c]
   rw[o8 e,b];exact g
  have c:¬q.1=k:=λz=>e (f.trans z);have b:atKey (q::qs) k=atKey qs k:=by simp[atKey,c]
  rw[oB e,b];exact ih
theorem KT.repl(r:KT H aaP xs)(k:List aC)(i:RelV y u):
  KT H (aaP.map λkv=>if kv.1=k then (kv.1,y) else kv) (xs.map<|putAt k u):=by
 induction r with
 |nil=>exact .nil
 |@cons p q ps qs h t ih=>
  rw[TB];refine .cons ?_ ih;obtain⟨c,g,f⟩:=h;unfold putAt
  by_cases e:p.1=k
  .rw[if_pos e,if_pos (c.symm.trans e)];trivial
  rw[if_neg e,if_neg (λz=>e (c.trans z))];exact#[c,g,f]
theorem KT.put(r:KT H aaP xs)(k:List aC)(g:H b=ap (.tup<|k.map kV))(c:RelV y u):
  KT H (fu aaP k y) (storedH xs k b u):=by
 have e:(aaP.any λf=>decide (f.1=k))=(atKey xs k).isSome:=by
  rw[uJ,(r.val k).isSome_eq,Xk]
 unfold fu storedH;rw[e]
 by_cases q:(atKey xs k).isSome=true
 .rw[if_pos q,if_pos q];exact r.repl k c
 rw[if_neg q,if_neg q];exact Paired.snoc r #[rfl,g,c]
theorem KT.keeps(r:KT H aaP xs)(c:∀b ys,H b=ap (.tup ys)->H' b=ap (.tup ys)):KT H' aaP xs:=
 gU r λ_ _ z=>#[z.1,c _ _ z.2.1,z.2.2]
theorem Li{u:HO}(ok:HOk P w H h)(e:Rd H a u):ObjOk P w H h a u:=e.ok ok
theorem iY(ok:HOk P w H h)(e:Rd H a (.dK aaP)):aaP.length<=sizeLine/\(a==q0)=cp/\∃vs,KV aaP vs/\h.DictOf (aU P w) a vs:=
 Li ok e
theorem GN(ok:HOk P w H h)(e:H a=ap (.dK aaP)):aaP.length<=sizeLine/\(a==q0)=cp/\∃vs,KV aaP vs/\h.DictOf (aU P w) a vs:=iY ok (.inl e)
theorem nE(ok:HOk P w H h)(e:H a=ap (.tup<|ks.map kV)):(Z7<|aU P w).is h ks a:=by
 obtain⟨_,aaT,r,o,c,⟨f,n,g⟩,_⟩:=(show ObjOk P w H h a (.tup<|ks.map kV) from ok a _ e);exact#[o,aaT.toArray,n,c,f,g,by simpa using qz r]
theorem qM(ok:HOk P w H h)(e:Rd H a (.dT aaP)):aaP.length<=sizeLine/\(a==q0)=cp/\
  ∃xs,KT H aaP xs/\h.DictOfH (Z7<|aU P w) a xs:=by
 obtain⟨z,y,xs,r,o,i,f,c,j,v,B,g⟩:=(Li ok e);refine#[z,y,xs,r,o,i,f,c,j,v,B,λx hx=>?_,g];have all:∀{l:List _}{m:List _},KT H l m->∀x∈m,(Z7<|aU P w).is h x.1 x.2.1:=by
  intro l m q
  induction q with
  |nil=>intro x hx;exact nomatch hx
  |@cons p q ps qs hq t ih=>
   intro x hx;rcases TK.mp hx with e|hx
   .exact nE ok (by simp_all)
   exact ih x hx
 exact all r x hx
theorem Tp(ok:HOk P w H h)(e:H a=ap (.dT aaP)):aaP.length<=sizeLine/\(a==q0)=cp/\
  ∃xs,KT H aaP xs/\h.DictOfH (Z7<|aU P w) a xs:=qM ok (.inl e)
def DGet(H:Hp)(a:cb)(y:V)(r:Option V):Prop:=
 (∃aaP k,Rd H a (.dK aaP)/\y=kV k/\r=eG aaP k)\/∃aaP k b,Rd H a (.dT aaP)/\y=.ref b/\H b=ap (.tup<|k.map kV)/\r=eG aaP k
def DPut(H:Hp)(a:cb)(y v:V)(H':Hp):Prop:=
 (∃aaP k,H a=ap (.dK aaP)/\y=kV k/\aaP.length<sizeLine/\H'=upd H a (.dK<|fu aaP k v))\/
 ∃aaP k b,H a=ap (.dT aaP)/\y=.ref b/\H b=ap (.tup<|k.map kV)/\aaP.length<sizeLine/\H'=upd H a (.dT<|fu aaP k v)
theorem DGet.k{k:aC}(e:H a=ap (.dK aaP)):DGet H a (kV k) (eG aaP k):=.inl #[_,k,.inl e,rfl,rfl]
theorem DGet.t{k:List aC}(e:H a=ap (.dT aaP))(c:H b=ap (.tup<|k.map kV)):DGet H a (.ref b) (eG aaP k):=.inr #[_,k,b,.inl e,rfl,c,rfl]
theorem DPut.k{k:aC}(e:H a=ap (.dK aaP))(c:aaP.length<sizeLine):DPut H a (kV k) v (upd H a<|.dK<|fu aaP k v):=.inl #[_,k,e,rfl,c,rfl]
theorem DPut.t{k:List aC}(e:H a=ap (.dT aaP))(f:H b=ap (.tup<|k.map kV))(c:aaP.length<sizeLine):
  DPut H a (.ref b) v (upd H a<|.dT<|fu aaP k v):=.inr #[_,k,b,e,rfl,f,c,rfl]
theorem Inv.big(I:Inv X aaN Z H s):q0<s.heap.objs.size:=by
 exact Yx (by decide) ((I.mod.glob.keeps I.bk).lt)
theorem Ea(L:A.units+1<ol)(I:Inv X aaN Z H s)(g:DGet H a y (ap v))(C:RelV y u)(h:∀i F,Inv X aaN Z H F->RelV v i->Q i F):
  cT (eX X.prog X.w) A (ZU (.ref a) u) Q E s:=by
 rcases g with⟨x,k,e,B,l⟩|⟨x,k,b,e,B,eb,l⟩
 .subst B
  obtain⟨z,K,J,c,j⟩:=iY I.hok e;obtain⟨i,m,f⟩:=dI (v:=v) (o:=W1 J k) (by rw[l];exact c.val k)
  exact wpAny_getItem_of (ju C) j.mapOf m (h i _ (I.tok _) f)
 .subst B
  cases (show u=Ul b from C);obtain⟨z,K,xs,c,j⟩:=qM I.hok e;obtain⟨i,m,f⟩:=dI (v:=v) (o:=(atKey xs k).map (·.2)) (by rw[l];exact c.val k)
  obtain⟨p,G,q⟩:=UR.mp m;refine wpAny_getItem_heap (U_ L) (nE I.hok eb) j G ?_;rw[q];exact h i _ (I.tok _) f
theorem SC(B:A.units+1<ol)(I:Inv X aaN Z H s)(g:DGet H a y o)(p:RelV y u)(h:∀x,Inv X aaN Z H x->Q (.bool o.isSome) x):
  cT (eX X.prog X.w) A (kB .In u<|.ref a) Q E s:=by
 rcases g with⟨i,k,e,j,l⟩|⟨i,k,b,e,j,eb,l⟩
 .subst j
  obtain⟨z,m,C,c,f⟩:=iY I.hok e;refine wpAny_in_of (ju p) m f.mapOf ?_;rw[<- (c.val k).isSome_eq,<- l];exact h _ (I.tok _)
 .subst j
  cases (show u=Ul b from p);obtain⟨z,m,xs,c,f⟩:=qM I.hok e;refine wpAny_in_heap (U_ B) (nE I.hok eb) m f ?_;have q:=(c.val k).isSome_eq;rw[Xk]at q;rw[<- q,<- l];exact h _ (I.tok _)
theorem zV(B:A.units+1<ol)(I:Inv X aaN Z H s)(g:DGet H a y o)(p:RelV y u)(h:∀x,Inv X aaN Z H x->Q (.bool<|!o.isSome) x):
  cT (eX X.prog X.w) A (kB .NotIn u<|.ref a) Q E s:=by
 rcases g with⟨i,k,e,j,l⟩|⟨i,k,b,e,j,eb,l⟩
 .subst j
  obtain⟨z,m,C,c,f⟩:=iY I.hok e;refine wpAny_notIn_of (ju p) m f.mapOf ?_;rw[<- (c.val k).isSome_eq,<- l];exact h _ (I.tok _)
 subst j;cases (p);obtain⟨z,m,xs,c,f⟩:=qM I.hok e;refine wpAny_notIn_heap (U_ B) (nE I.hok eb) m f ?_;have q:=(c.val k).isSome_eq;rw[Xk]at q;rw[<- q,<- l];exact h _ (I.tok _)
theorem rB(I:Inv X aaN Z H s)(h:SZ (H a))(g:U0 a s.heap h')(i:∃q,h'.get? a=ap q)(new:ObjOk X.prog X.w (upd H a c) h' a c):
  Inv X aaN Z (upd H a c) { s with heap:=h',toks:=t' }:=
 I.write (x:=a) (e:=a) h (.inl rfl) (λb q f z=>(g.2 b f).trans z) i new
theorem tL(z:aaP.length<=sizeLine)(f:(a==q0)=cp)(c:KV aaP vs)(dd:h'.DictOf (aU P w) a vs):
  ObjOk P w H' h' a (.dK aaP):=#[z,f,vs,c,dd]
theorem qg(hu:A.units+1<ol)(I:Inv X aaN Z H s)(g:DPut H a y v H')(M:RelV y u)(N:RelV v r)(h:∀O,Inv X aaN Z H' O->Q () O):
  cT (eX X.prog X.w) A (setItem (.ref a) u r) Q E s:=by
 rcases g with⟨f,k,e,C,l,G⟩|⟨f,k,b,e,C,eb,l,G⟩
 .subst C G
  obtain⟨z,F,S,i,p⟩:=GN I.hok e;have x:S.length<=sizeLine:=by rw[<- i.length];exact z
  have J:(fu f k v).length<=sizeLine:=by have:=ku f k v;lia
  refine wpAny_setItem_pairs (hsz:=x) (ju M) p λL j B=>h _ ?_;have R:∃q,L.get? a=ap q:=let ⟨q,_,_,m,_⟩:=j;#[q,m];exact rB I (by rw[e];exact VB) B R (tL J F (i.put k N) j)
 .subst C G
  cases (show u=Ul b from M);obtain⟨z,F,xs,i,p⟩:=Tp I.hok e;have x:xs.length<=sizeLine:=by rw[<- Vk i];exact z
  have J:(fu f k v).length<=sizeLine:=by have:=ku f k v;lia
  refine wpAny_setItem_heap (hsz:=x) (U_ hu) (nE I.hok eb) p λL j B=>h _ ?_;obtain⟨q,W,T,m,Y,h3,h4,_,U⟩:=j;refine rB I (by rw[e];exact VB) B #[q,m] #[J,F,_,(i.put k eb N).keeps λc ys K=>?_,q,W,T,m,Y,h3,h4,U]
  rw[aD (To K e λz=>nomatch z)];exact K
theorem LY(I:Inv X aaN Z H s)(e:H a=ap (.dK aaP))(m:RelV (kV k) u)(l:eG aaP k=ap v)(B:more=[]\/∃x,more=[x])(h:∀g C,Inv X aaN Z (upd H a<|.dK<|iu aaP k) C->RelV v g->Q g C):cT (eX X.prog X.w) A (call (.builtin "dict.pop") (.ref a::u::more)) Q E s:=by
 obtain⟨z,O,y,c,p⟩:=GN I.hok e;obtain⟨g,J,j⟩:=dI (v:=v) (o:=W1 y k) (by rw[<- l];exact c.val k)
 have G:(keyPart u).isSome=true:=by
  cases k with
  |inl i=>obtain⟨t,q⟩:=(show ∃t,u=Xs i t from m);subst q;rfl
  |inr x=>obtain⟨t,q⟩:=(show ∃t,u=Xr x t from m);subst q;rfl
 have M:ZQ "dict.pop" #[.ref a::u::more,[]]:=by
  rcases B with q|⟨x,q⟩
  .subst q;exact PySem.F.args_dict_pop_2 _ _
  .subst q;exact XX _ _ _
 refine call_meetsIn VT p.typeIs X8 M (meets_dict_pop_there (aU X.prog X.w) a (ju m) more B G)
  #[y,g,p,by rw[<- c.length];exact z,J,λK f N=>h g _ ?_ j]
 have L:∃q,K.get? a=ap q:=let ⟨q,_,_,hq,_⟩:=f;#[q,hq];exact rB I (by rw[e];exact VB) N L (tL (TR (Fn aaP k) z) O (c.drop k) f)
theorem Qt(I:Inv X aaN Z H s)(e:H a=ap (.dK aaP))(f:RelV (kV k) u)(l:eG aaP k=bb)(h:∀m,Inv X aaN Z H m->Q r m):
  cT (eX X.prog X.w) A (call (.builtin "dict.pop") [.ref a,u,r]) Q E s:=by
 obtain⟨z,y,j,c,g⟩:=GN I.hok e;have v:W1 j k=none:=jx (by rw[<- l];exact c.val k)
 have p:(keyPart u).isSome=true:=by
  cases k with
  |inl i=>obtain⟨t,q⟩:=(show ∃t,u=Xs i t from f);subst q;rfl
  |inr x=>obtain⟨t,q⟩:=(show ∃t,u=Xr x t from f);subst q;rfl
 exact call_meetsIn VT g.typeIs X8 (XX _ _ _) (meets_dict_pop_default (aU X.prog X.w) a (ju f) y p r) #[j,g,v,h _<|I.tok _]
theorem T8(I:Inv X aaN Z H s)(e:Rd H a (.dK aaP))(h:∀t f,Inv X aaN Z H f->Q (.int aaP.length t) f):cT (eX X.prog X.w) A (call (.builtin "len") [.ref a]) Q E s:=by
 obtain⟨z,g,j,c,i⟩:=iY I.hok e;refine call_len_dict g i (by rw[<- c.length];rw[z6]at z;lia) ?_
 rw[<- c.length];exact h _ _ (I.tok _)
theorem ve(I:Inv X aaN Z H s)(g:DGet H a y o):s.TypeIs (.ref a) "dict":=by
 rcases g with⟨f,k,e,_,_⟩|⟨f,k,b,e,_,_,_⟩
 .obtain⟨_,_,h,_,c⟩:=iY I.hok e
  exact c.typeIs
 obtain⟨_,_,xs,_,c⟩:=qM I.hok e;exact c.typeIs
theorem ED(h:g4)(c:q0<h.objs.size):ObjOk P w H (h.push { cls:=.type "dict",data:=.dict (Tw []) }) h.objs.size (.dT []):=
 #[U2 _,beq_eq_false_iff_ne.mpr (Uk<|TX c),[],.nil,_,_,0,TF _ rfl,#[rfl,rfl,rfl],rfl,rfl,List.nodup_nil]
def O7:TE:=λ_ H Q=>∀p,H p=bb->Q (.ref p) (upd H p<|.dT [])
theorem GJ:PE X (.Dict [] [] pos) O7:=λaaN s Z H Q I h=>
 wpAny_Dict_empty #[.ref _,_,I.laid (λ_ _ q=>Tv _ q) (TL _) (ED _ I.big),rfl,h _<|I.hok.fresh<|TL _]
structure M1(X:Cx)(o:fy)(m:Str)(aaS:Pos)(e:fy)(aaR:Pos):Prop where
 base:k' o m X.env (g3 o X.env)=g3 o X.env
 few:((j0 aaR<|starEach [e] X.env).all (λx=>!x.1)&&(y' aaR<|keywordEach [] X.env).all (λx=>x.1.isSome)
  && decide (([e]:aa0).length+([]:List wh).length+(if ([]:List wh).isEmpty then 0 else 1)<30))=true
 line:(aaS.endLine==aaR.line)=true
 trees:j0 aaR (eH [e] X.env)=[(cp,g3 e X.env)]
structure M2(X:Cx)(o:fy)(m:Str)(aaS:Pos)(e f:fy)(aaR:Pos):Prop where
 base:k' o m X.env (g3 o X.env)=g3 o X.env
 few:((j0 aaR<|starEach [e,f] X.env).all (λx=>!x.1)&&(y' aaR<|keywordEach [] X.env).all (λx=>x.1.isSome)
  && decide (([e,f]:aa0).length+([]:List wh).length+(if ([]:List wh).isEmpty then 0 else 1)<30))=true
 line:(aaS.endLine==aaR.line)=true
 trees:j0 aaR (eH [e,f] X.env)=[(cp,g3 e X.env),(cp,g3 f X.env)]
def IsD(H:Hp)(a:cb):Prop:=(∃aaP,Rd H a (.dK aaP))\/∃aaP,Rd H a (.dT aaP)
theorem FS(I:Inv X aaN Z H s)(d:IsD H a):
  s.TypeIs (.ref a) "dict"/\(∀b,Ul a=.ref b->∃c,s.heap.get? b=ap c/\c.dict=bb)/\(a==q0)=false:=by
 rcases d with⟨i,e⟩|⟨i,e⟩
 .obtain⟨_,h,l,_,f⟩:=iY I.hok e
  refine#[f.typeIs,λb q=>?_,h];cases q;obtain⟨c,_,_,g,j,_⟩:=f;exact#[c,g,j.2.1]
 obtain⟨_,h,xs,_,f⟩:=qM I.hok e;refine#[f.typeIs,λb q=>?_,h];cases q;obtain⟨c,_,_,g,j,_⟩:=f;exact#[c,g,j.2.1]
def Nz(td ty:TE):TE:=λZ H Q=>td Z H λx H1=>∃a,x=.ref a/\IsD H1 a/\ty Z H1 λy H2=>∃aaP k v,H2 a=ap (.dK aaP)/\y=kV k/\eG aaP k=ap v/\Q v (upd H2 a<|.dK<|iu aaP k)
def Pj(td ty tx:TE):TE:=λZ H Q=>td Z H λx H1=>∃a,x=.ref a/\IsD H1 a/\ty Z H1 λy H2=>tx Z H2 λz H3=>∃aaP k,H3 a=ap (.dK aaP)/\y=kV k/\
 (∀v,eG aaP k=ap v->Q v (upd H3 a<|.dK<|iu aaP k))/\(eG aaP k=bb->Q z H3)
theorem Hk(G:PE X o td)(J:PE X e ty)(m:M1 X o "pop" aaS e aaR):PE X (.Call (.Attribute o "pop" aaS) [e] [] aaR) (Nz td ty):=by
 intro aaN s Z H Q I h;refine wpAny_Call_method m.base m.few m.line XU VT Yf (bz (G _ s Z H _ I h) λu i g=>?_);obtain⟨x,H1,I1,p,a,F,d,z⟩:=g;subst F;obtain rfl:u=Ul a:=p;obtain⟨t1,t2,_⟩:=FS I1 d;refine#[t1,t2,?_];rw[m.trees];refine Vq rfl (VA<|Vp (bz (J _ i Z H1 _ I1 z) λL s2 ⟨y,H2,I2,q,_,k,v,B,C,l,j⟩=>VS ?_));subst C;exact LY I2 B q l (.inl rfl) λK M I3 c=>#[v,_,I3,c,j]
theorem EF(O:PE X o td)(S:PE X e ty)(R:PE X f tx)(m:M2 X o "pop" aaS e f aaR):PE X (.Call (.Attribute o "pop" aaS) [e,f] [] aaR) (Pj td ty tx):=by
 intro aaN s Z H Q I h;refine wpAny_Call_method m.base m.few m.line XU VT Yf (bz (O _ s Z H _ I h) λu C B=>?_);obtain⟨x,H1,I1,G,a,N,d,J⟩:=B;subst N;obtain rfl:u=Ul a:=G;obtain⟨t1,t2,_⟩:=FS I1 d;refine#[t1,t2,?_];rw[m.trees];refine Vq rfl (VA<|Vp (bz (S _ C Z H1 _ I1 J) λU s2 ⟨y,H2,I2,g,F⟩=>
  Vp (bz (R _ s2 Z H2 _ I2 F) λL W ⟨z,H3,I3,j,_,k,i,K,p,q⟩=>VS ?_)))
 subst K;cases l:eG _ k with
 |some v=>exact LY I3 i g l (.inr #[L,rfl]) λT M I4 c=>#[v,_,I4,c,p v l]
 |none=>exact Qt I3 i g l λM I4=>#[z,H3,I4,j,q l]
theorem Ge(I:Inv X aaN Z H s)(e:Rd H a (.dK aaP))(h:∀p i,H p=bb->Inv X aaN Z (upd H p<|.dK aaP) i->Q (.ref p) i):cT (eX X.prog X.w) A (call (.type "dict") [.ref a]) Q E s:=by
 obtain⟨z,m,x,c,j⟩:=iY I.hok e;exact kt_call_dict m j (by rw[<- c.length];exact z) λv f l=>h _ _ (I.hok.fresh<|TL _) (I.laid (a:=s.heap.objs.size) (o:=.dK aaP) (t':=s.toks) (λb q g=>(l.2 b<|TX<|TC g).trans (Tv _ g)) (TL _)<|tL z (beq_eq_false_iff_ne.mpr<|Uk<|TX I.big) c f)
end _2
namespace Att
open PySem PySem.W PySem.Calls PyProof.Rows
theorem kI:∀(c:aaW)(vs:aaY),WellAll P h vs (c.map WData.int)->L' vs c:=by
 intro c
 induction c with
 |nil=>
  rintro vs ⟨⟩
  exact .nil
 |cons n c ih=>
  intro vs w;cases w with
  |cons a b=>
   cases a;exact .cons _ _ (ih _ b)
theorem DB{l:OpenLaw}(s:l.most=ap n)
  (c:l.row.toRowW.claim.pre args=true) (j:WellAll P h b args):
  ∃a vs e,b=[Ul a]/\args=[WData.list (e.map WData.int)]/\h.get? a=ap { cls:=.type "list",data:=.seq vs.toArray }/\L' vs e/\e.length<=n:=by
 have i:WShape.hasAll [] _ _=true:=(pre_splitW c).1;have m:l.pre.holds [] _=true:=(pre_splitW c).2;obtain⟨d,r,rfl,o,p⟩:=hasAllW_cons i;obtain rfl:=hasAllW_nil p;obtain⟨u,rfl,q⟩:=hasW_list o;obtain⟨e,rfl⟩:=items_int q;have f:e.length<=n:=by
  have g:(WTm.not<|.lt (.lit<|.int n)<|.len<|.arg 0).holds [] { args:=[.list (e.map .int)] }=true:=by
   have g:=(holds_andW m).1;rw[s]at g;exact g
  have v:=condW_of g (w_not<|w_lt w_lit<|w_len_list<|w_arg rfl)
  simp_all
 cases j with
 |cons w1 w2=>
  cases w2;cases w1 with
  |list ho hall=>exact#[_,_,e,rfl,rfl,ho,kI e _ hall,f]
theorem D6(l:OpenLaw)(args:List WData):l.row.toRowW.claim.post args (.bool true) args=true:=
 postW_of
  (show WShape.has [] _ _=true by rfl)
  (w_eq_bool (w_res rfl) w_lit) rfl
theorem uS{l:OpenLaw}
  (T:l.most=ap n) (A:d.params.defaults=[])
  (call:∀(w:hG)(c b:ca)(s z:aa4)(fa:cb)(o:Obj)(B p g:ay)(a:cb)(vs:aaY)(u:aaW),
   Ground q loose [] XP w c s z b.heap->YP w b.heap->
   b.heap.get? fa=ap o->o.data=.func (docDef d.name d.params d.body d.scope B p g)->b.heap.CodeRec p d.name->s d.name=ap (.ref fa)->
   b.heap.get? a=ap { cls:=.type "list",data:=.seq vs.toArray }->L' vs u->u.length<=n->b.gens=(Tw [])->
   F' (eX l.prog w) Z3 (.call (.ref fa) #[[.ref a],[]]) (λr m=>r=.ok (.ret<|.bool true)/\OldK b.heap m.heap/\m.os=b.os/\WF m.gens) b):
  WalkO q loose XP YP l.row.toRowW d [] (λf vs=>YH f vs):=by
 intro w c b s z G Y fa o B p g Q kV J K v H y L C F U i E P x O;obtain rfl:Q=.none:=Dflts.none H A;obtain rfl:kV=.none:=Dflts.noKw H;obtain⟨a,vs,u,rfl,rfl,h,e,j⟩:=DB T i x;refine enter_call (TD (call w c b s z fa o B p g a vs u G Y J (fd_plain K) v y h e j L) λr m I=>?_);obtain⟨rfl,S,R,M⟩:=I;exact#[.inl #[.bool true,.bool true,[],rfl,λ_=>rfl,.bool true,D6 l _,λ_=>#[X0,λ_ N=>(nomatch N)]],S,R,M]
end Att
namespace _2
open PySem PySem.Spec PyProof.Rows
variable{a l:cb}{A:h7}{items:aa5}{b f1:Bool}{h h':g4}{args:List (Bool×cb)}{fp:aaZ}{i j n t':Nat}{s:ca}{x:Str}{K:TH}{α:Type}{f0:ay}{w:hG}{F:ZS->Option ay}
theorem dJ:∀{vs:aaY}{c:aaW},L' vs c->Vals (c.map V.int) vs:=by
 intro vs c h
 induction h with
 |nil=>exact .nil
 |cons n t _ ih=>exact .cons #[t,rfl] ih
def GP(H:Hp):Prop:=∀b,H b=bb\/∃o xs,H b=ap (.frz o<|.lst xs)
theorem Fl(KX:K.In c.heap)(T:c.heap.Ns ff R)(g:c.heap.Ns builtinsNs mb)(hbb:∀x:Str,x≠"__name__"->mb x=fv x)(O:c.heap.NoLimit)(hg:c.gens=(Tw []))(U:c.heap.get? a=ap { cls:=.type "list",data:=.seq vs.toArray })(hi:L' vs ns)(hl:ns.length<=sizeLine)(hr:Room k Z3)(F:∀base:g4,K.In base->base.Ns ff R->FnOk P w K R base CX k fa fd [x] sp)(hbind:∀(s:ca)(u:ay),aad s fd #[[u],[]] [(x,u)])(hsp:∀H:Hp,GP H->SqL K H a (ns.map V.int)->sp [.ref a] H (λv _=>v=.bl true) λ_ _ _=>False)(hCX:∀H e p,CX [] H c (λ_ _ _=>False) e p->False):
  F' (eX P w) Z3 (.call (.ref fa) #[[.ref a],[]]) (λr p=>r=.ok (.ret<|.bool true)/\OldK c.heap p.heap/\p.os=c.os/\WF p.gens) c:=by
 have rv:=dJ hi;have B:=hi.length
 -- from an abstract heap in which nothing but the script may be tracked
 have y:∀H:Hp,GP H->SqL K H a (ns.map V.int)->HOk P w H c.heap->(∀b,H b≠bb->b=a)->(H a≠bb->K.lookup a=bb)->
   F' (eX P w) Z3 (.call (.ref fa) #[[.ref a],[]]) (λr p=>r=.ok (.ret<|.bool true)/\OldK c.heap p.heap/\p.os=c.os/\WF p.gens) c:=by
  intro H hO hS M hA hK;have f:∀{b:cb}{o:Obj},c.heap.get? b=ap o->H b=bb->(rX c.heap H).get? b=ap o:=λe n=>Hi e n;have W:∀{b:cb}{o:Obj}{N:Array Z'}{J:Nat},c.heap.get? b=ap o->o.data=.dict N J->H b=none:=λ{b o N J} e d=>by
   cases q:H b with
   |none=>rfl
   |some u=>
    have e':b=a:=hA b (by rw[q];simp)
    subst e';rw[U]at e;cases e;have d':Data.seq vs.toArray _=Data.dict N J:=d;cases d'
  have nsK:∀{b:cb}{m:aa4},c.heap.Ns b m->(rX c.heap H).Ns b m:=λ{b m} ⟨o,N,J,e,d,r⟩=>#[o,N,J,f e (W e d),d,r];have C:K.In (rX c.heap H):=λb o e=>f (KX b o e) (by
   cases q:H b with
   |none=>rfl
   |some u=>
    have e':b=a:=hA b (by rw[q];simp)
    subst e';rw[hK (by rw[q];simp)]at e;cases e)
  have hM:Mod K R (rX c.heap H):=#[C,nsK T,#[mb,nsK g,hbb],let ⟨mc,h1,h2⟩:=O;#[mc,nsK h1,h2]];have e0:Env0 P w K R (rX c.heap H) Z3 [] c H:=#[rfl,hM,λb o e=>IC e,Yy (E5 _ _),trivial,λb g=>absurd (show b∈([]:aaZ) from g) (by simp),M,.of_eq hg]
  refine TD ((F _ C<|nsK T).run Z3 [] c H #[[.ref a],[]] [.ref a] [.ref a] _ _ hr e0 (hbind c<|.ref a) (.cons rfl .nil)<|hsp H hO hS) λr p h=>?_;cases r with
  |error e=>exact(hCX H e p h).elim
  |ok fl=>
   cases fl with
   |next=>exact Vn h
   |brk=>exact Vn h
   |cont=>exact Vn h
   |ret u=>
    obtain⟨v,H',os,I,un,L,r',q⟩:=h;have q':v=.bl true:=q;subst q';obtain rfl:u=YJ true:=r';refine#[rfl,OldK.of_keep λb o e=>?_,os,I];cases q:H b with
    |none=>exact un.keep b o e q (by intro z;exact absurd (show b∈([]:aaZ) from z) (by simp)) (by simp)
    |some u=>
     rcases hO b with z|⟨ob,xs,z⟩
     .rw[q]at z;cases z
     .have z2:=un.frzs b ob _ z
      obtain⟨e1,_⟩:=M b _ z;obtain⟨e2,_⟩:=L b _ z2;rw[e]at e1;cases e1;exact e2
 cases Y:K.lookup a with
 |some o=>
  -- the script is one of the module's own objects
  have e:=KX a o Y;rw[U]at e;cases e;refine y (λ_=>bb) (λ_=>.inl rfl) (.inr #[_,vs.toArray,_,Y,rfl,rfl,rfl,by rw[TZ,B];exact hl,by simpa using rv]) (λb u z=>by have G:(none:Option HO)=ap u:=z;cases G) (λb z=>absurd rfl z) λz=>absurd rfl z
 |none=>
  refine y (λb=>if b=a then ap (.frz { cls:=.type "list",data:=.seq vs.toArray }<|.lst<|ns.map V.int) else bb) (λb=>?_) (.inl<|.inr #[{ cls:=.type "list",data:=.seq vs.toArray },if_pos rfl]) (λb u z=>?_) (λb z=>?_) λ_=>Y
  .by_cases g:b=a
   .exact .inr #[_,_,if_pos g]
   .exact .inl (if_neg g)
  .by_cases g:b=a
   .have G:=(if_pos g).symm.trans z
    cases G;subst g;exact#[U,by rw[Tz];exact hl,vs,_,rv,U]
   .have G:=(if_neg g).symm.trans z
    cases G
  .by_cases g:b=a
   .exact g
   .exact absurd (if_neg g) z
theorem Jd{l:W.OpenLaw}{K:Params->TH}{CX:hG->pv}{sp:hG->Sp}(hn:l.most=ap n)(J:n<=sizeLine)(L:d.params.defaults=[])(hr:Room k Z3)(hY:∀(w:hG)(h:g4),YP w h->(K w.params).In h)(F:∀(w:hG)(r:aa4)(fa:cb)(h:g4),(K w.params).In h->h.Ns ff r->r d.name=ap (.ref fa)->
   ∃fd:kc,(∀(s:ca)(u:ay),aad s fd #[[u],[]] [(x,u)])/\
    ∀c:g4,(K w.params).In c->c.Ns ff r->FnOk l.prog w (K w.params) r c (CX w) k fa fd [x] (sp w))(M:∀(w:hG)(H:Hp)(a:cb)(C:aaW),C.length<=n->GP H->SqL (K w.params) H a (C.map V.int)->sp w [.ref a] H (λv _=>v=.bl true) λ_ _ _=>False)(N:∀(w:hG)(H:Hp)(s:ca)(e:ay)(O:ca),CX w [] H s (λ_ _ _=>False) e O->False):
  W.WalkO q loose XP YP l.row.toRowW d [] (λf vs=>YH f vs):=by
 refine Att.uS hn L λw R B r mb fa o pm cd doc a vs C G Y ho hd hcd I y p m hg=>?_;have KX:=hY w _ Y;obtain⟨fd,hb,hF⟩:=F w r fa _ KX G.T.g I;exact Fl KX G.T.g G.T.b G.T.builtins G.T.nolimit hg y p (TR m J) hr hF hb (λH hO U=>M w H a C m hO U) λH e O=>N w H B e O
noncomputable def eQ(s:rc)(j:Nat):Stmt:=match s with
 |.ClassDef _ _ _ body _ _ _ _ _ _ _=>body.getD j (.Pass #[0,0,0,0])
 |_=>.Pass #[0,0,0,0]
def cz(s:rc):Arguments:=match s with
 |.FunctionDef _ a _ _ _ _ _ _ _ _=>a
 |_=>{ posonlyargs:=[],args:=[],vararg:=bb,kwonlyargs:=[],kw_defaults:=[],kwarg:=bb,defaults:=[] }
def bE(s:rc):List Stmt:=match s with
 |.FunctionDef _ _ b _ _ _ _ _ _ _=>b
 |_=>[]
def aQ(s:rc):Scope:=match s with
 |.FunctionDef _ _ _ _ _ _ sc _ _ _=>sc
 |_=>{ kind:=.function,names:=[],isGenerator:=cp,isCoroutine:=cp }
abbrev CX0:pv:=λ_ _ _ _ _ _=>False
abbrev E0:XK:=λ_ _ _=>False
structure Fun(K:TH)(x aaO:Str)(st:rc)(f:cb)(fd:kc):Prop where
 ex:∃(oc:ay)(od:Option cb)(kV doc pm:ay)(an:Option cb)(cdv ct:ay)(osl:Array (Option ay)),
  fd=Wd x aaO (cz st) (bE st) (aQ st) .none kV doc pm an cdv ct/\K.lookup f=ap #[oc,od,.func fd,osl]/\XB K cdv aaO=true
 kp:U8 K (.ref f)=true
theorem Fun.binds(F:Fun K x c m f fd)(h:∀(kV e q:ay)(r:Option cb)(g o:ay)(us:aaY),us.length=p.length->aai (Wd x c (cz m) (bE m) (aQ m) .none kV e q r g o) #[us,[]]=pure (p.zip us)):Binds K fd p []:=by
 obtain⟨B,y,kV,e,q,r,g,o,v,rfl,lk,u⟩:=F.ex;exact .all (h kV e q r g o)
theorem xI{kV:ay}(l:K.lookup f=ap #[y,v,.func (Wd x e (cz g) (bE g) (aQ g) .none kV o q u m p),r])(c:XB K m e=true)(k:U8 K (.ref f)=true):Fun K x e g f (Wd x e (cz g) (bE g) (aQ g) .none kV o q u m p):=#[#[y,v,kV,_,q,u,_,p,_,rfl,l,c],k]
theorem vc(c:Room k A):A.units+1<cLine:=Nat.lt_of_le_of_lt (Nat.add_le_add_left (by decide) _) c.units
theorem E3:bu X (.builtin "len") (λxs H Q=>∃a aaP,xs=[V.ref a]/\H a=ap (.dK aaP)/\Q (.int aaP.length) H):=by
 intro aaN s Z H xs g Q I r h;obtain⟨a,aaP,rfl,c,q⟩:=h;obtain⟨u,rfl,e⟩:=gT r;cases e;exact T8 I (.inl c) λt f I'=>#[.int aaP.length,H,I',#[t,rfl],q]
theorem sQ(I:Nat->ca->Prop)(turn:∀n s,I n s->cT (eX prog w) A (G' it) (λr s₁=>match r with
   |none=>R (.ok .next) s₁
   |some v=>cT (eX prog w) A (X_ target it v) (λ_ s₂=>cT (eX prog w) A (Z9 target env v) (λ_ s₃=>
     cT (eX prog w) A (forIn ifs true λc r=>if r=true then do let ok <- isTrue c env (g3 c env);pure (WS ok) else pure (WS r)) (λok s₄=>
      if ok=true then cT (eX prog w) A (g3 elt env) (λx s₅=>
       cT (eX prog w) A (call (.builtin "list.append") [aaQ,x]) (λ_ s₆=>∃m,m<n/\I m s₆) (λ_ _=>False) s₅) (λ_ _=>False) s₄
      else ∃m,m<n/\I m s₄) (λ_ _=>False) s₃) (λ_ _=>False) s₂) (λ_ _=>False) s₁) (λ_ _=>False) s)(n:Nat)(h:I n s):
  F' (eX prog w) A (.compLoop (.ListComp elt [#[target,iter,ifs,0]] scope pos) 0 it aaQ env) R s:=by
 refine codeAny_loop rfl I (λn s hI=>?_) n h;show cT _ A _ _ _ s;refine wpAny_noted ?_;rw[compTurn_list];refine ax (ZV<|wpAny_bind<|wpAny_mono (turn n s hI) (λr s₁ h₁=>?_)<|by lia)
 cases r with
 |none=>exact cx h₁
 |some v=>
  refine ax (k6 h₁ (λ_ s₂ h₂=>ax (k6 h₂ (λ_ s₃ h₃=>ax (k6 h₃ (λok s₄ h₄=>?_)<|by lia))<|by lia))<|by lia)
  cases ok with
  |false=>exact cx (by trivial)
  |true=>
   exact ax (ax<|wpAny_mono h₄ (λx s₅ h₅=>ax (k6 h₅ (λ_ s₆ h₆=>cx (cx<|by trivial))<|by lia))<|by lia)
noncomputable def a_(X:Cx)(N:aaX)(scope:B')(cl:List (Str×cb))(C:cb)(s₀:ca)(H₀:Hp)(fp:aaZ)(pl:aa3):Cx where
 prog:=X.prog
 w:=X.w
 K:=X.K
 mg:=X.mg
 base:=X.base
 A:=X.A
 N:=N
 s₀:=s₀
 H₀:=H₀
 env:=compEnvC scope cl C X.env
 outer:=X.stack
 stack:=X.stack
 ex:=fp
 fn:=λ_=>cp
 calm:=X.calm
 pn:=X.pn++pl
 xe:=λ_ _=>False
inductive Frees(X:Cx)(scope:B'):List Str->List Nat->Prop where
 |nil:Frees X scope [] []
 |cons {x:Str} {j:Nat} {xs:aaX} {js:List Nat}:X.N[j]?=ap x->(X.env.kindOf x=ap .cell\/X.env.kindOf x=ap .free)->
   ((Wp scope X.env).names.lookup x=ap .cell\/(Wp scope X.env).names.lookup x=ap .free)->Frees X scope xs js->Frees X scope (x::xs) (j::js)
theorem Frees.length:∀{xs:aaX}{c:List Nat},Frees X scope xs c->xs.length=c.length
 |_,_,.nil=>rfl
 |_,_,.cons _ _ _ t=>congrArg _ t.length
theorem Frees.get:∀{xs:aaX}{e:List Nat},Frees X scope xs e->∀{i:Nat}{x:Str},xs[i]?=ap x->∃j,e[i]?=ap j/\X.N[j]?=ap x/\(X.env.kindOf x=ap .cell\/X.env.kindOf x=ap .free)/\
   ((Wp scope X.env).names.lookup x=ap .cell\/(Wp scope X.env).names.lookup x=ap .free)
 |_,_,.nil,i,x,h=>by simp at h
 |_,_,.cons a b c _,0,x,h=>by simp at h;subst h;exact#[_,rfl,a,b,c]
 |_,_,.cons _ _ _ t,i+1,x,h=>by
  obtain⟨j,g,f⟩:=t.get (by simpa using h)
  exact#[j,by trivial,f]
noncomputable def fb(ls:aaX)(js:List Nat)(Z:St):St:=ls.map (λ_=>bb)++js.map λj=>(Z[j]?).join
structure CompOk(X:Cx)(scope:B')(cl:List (Str×cb))(ls fs:aaX)(js:List Nat):Prop where
 kind:scope.kind=.function
 nocell:∀y∈scope.names,y.2≠.cell
 locs:∀x∈scope.names,x.2=.local->scope.names.lookup x.1=ap .local
 clos:Z0 scope X.env=pure cl
 cells:∀x c,cl.lookup x=ap c->X.env.cells.lookup x=ap c
 has:∀x,((Wp scope X.env).names.lookup x=ap .cell\/(Wp scope X.env).names.lookup x=ap .free)->∃c,cl.lookup x=ap c
 frees:Frees X scope fs js
theorem F5{t':Nat}(I:Inv X aaN Z H s)(co:CompOk X scope cl ls fs W)(B:∀b∈fp,jH X aaN H b/\b<s.heap.objs.size)(Y:g.Ns s.heap.objs.size m)(C:∀b o,s.heap.get? b=ap o->g.get? b=ap o):
  Inv (a_ X (ls++fs) scope cl s.heap.objs.size s H fp aaN) [] (fb ls W Z) H { s with heap:=g,toks:=t' }:=by
 refine#[#[I.ok.mod,co.kind,I.ok.glob,I.ok.blt,TL _,λx y c N G=>?_,λx R=>co.has x R,λx c h _=>absurd (show cp=true from h) Wx,I.ok.hd,I.ok.frames,.inl rfl,λb r=>#[TX (B b r).2,λx c e=>?_],
   λb o e=>I.bs b o e,TR I.ok.bsz I.sz,λb o e r=>?_,λb r hf=>?_,I.stack,λb r=>I.stkFree b r],
  rfl,I.bare,Un.kept C,#[m,Y,λi x v N G h3=>?_],λx c e=>?_,I.hok.fresh (TL _),λx c e=>I.freeC x c (co.cells x c e),λp hp=>?_,I.hok.kept C,?_]
 .exact I.ok.inj x y c (co.cells x c N) (co.cells y c G)
 .exact(B b r).1.2.2.2.2.1 x c (co.cells x c e)
 .obtain⟨f0,f1,f2,f3,_⟩:=(B b r).1
  rcases f3 with z|z
  .exact I.ok.noex b o e z
  .exact absurd (Uc (TC (I.ok.bs b o e).1) z) (UB _)
 .obtain⟨f0,f1,f2,f3,_⟩:=(B b r).1
  rcases TK.mp (I.stkSub b hf) with z|z
  .exact f1 z
  .exact f2 z
 .have hi:¬i<ls.length:=λhi=>by
   have f:=G;unfold fb at f
   grind
  have hN:fs[i-ls.length]?=ap x:=by
   have T:(ls++fs)[i]?=ap x:=N
   rwa [U1 (by lia)]at T
  obtain⟨j,hj,R,hc,hl⟩:=co.frees.get hN;have M:Z[j]?=ap (ap v):=by
   have f:=G;unfold fb at f;rw[U1 (by simpa using hi),Tz,TJ,hj]at f
   have q:(Z[j]?).join=ap v:=by simpa using f
   cases e:Z[j]? with
   |none=>rw[e]at q;cases q
   |some o=>simp_all
  obtain⟨mX,_,U⟩:=I.loc;have O:QB X.env.scope x:=by
   rcases hc with z|z
   .exact .inr (.inl z)
   .exact .inr (.inr z)
  obtain⟨u,ru,lo⟩:=U j x v R M O;refine#[u,ru,.inr #[hl,?_]];obtain⟨c,ec⟩:=co.has x hl;refine#[c,ec,?_];rcases lo with⟨kl,_⟩|⟨_,c',e',z⟩
  .simp_all
  .rw[co.cells x c ec]at e'
   cases e';obtain⟨o,L,hd⟩:=z;exact#[o,C _ _ L,hd]
 .obtain⟨v,o,L,hd⟩:=I.cell x c (co.cells x c e)
  exact#[v,o,C _ _ L,hd]
 .have J:p∈X.pn++aaN:=by
   have q:p∈(X.pn++aaN)++[]:=hp;simpa using q
  obtain⟨e,n,ne,nf,d⟩:=I.pin p J;refine#[C _ _ e,n,(λb o e=>TX (TC e)) _ _ e,λr=>?_,d];rcases TK.mp (I.stkSub p.1 r) with z|z
  .exact ne z
  .exact nf z
 .show (fb ls W Z).length=(ls++fs).length
  unfold fb;rw[Ui,Tz,Tz,Ui,co.frees.length]
def Qf(X:Cx)(ifs:aa0)(t:TT):Prop:=
 ∀(aaN:aa3)(s:ca)(Z:St)(H:Hp)(Q:Bool->Hp->Prop),Inv X aaN Z H s->t Z H Q->
  cT (eX X.prog X.w) X.A (forIn ifs true λc r=>if r=true then do let ok <- isTrue c X.env (g3 c X.env);pure (WS ok) else pure (WS r)) (TP X aaN Z Q) X.xe s
def tAll:TT:=λ_ H Q=>Q true H
theorem J_:Qf X [] tAll:=λ_ _ _ H _ I h=>wpAny_tests_nil #[H,I,h]
theorem Jl(h:PT X c t):Qf X [c] t:=λaaN s Z H Q I q=>wpAny_tests_one (h _ s Z H Q I q)
def HL(wi:TI)(ls:aaX)(js:List Nat)(g:TG)(tt:TT)(te:TE):TE:=λZ H Q=>wi Z H λJ H1=>∀p,H1 p=bb->∃W:Nat->Nat->St->Hp->Prop,(∃m,W 0 m (fb ls js Z) (upd H1 p<|.lst []))/\∀i m σ' H',W i m σ' H'->
 (J.stop i H'/\Q (.ref p) H')\/(J.go i H'/\∃N:St->Hp->Prop,(∀σ2 H2,N σ2 H2->∃m',m'<m/\W (i+1) m' σ2 H2)/\∀x H2,J.yld i H' x H2->g x σ' H2 λe H3=>tt e H3 λc H4=>
  if c=true then te e H4 λy H5=>∃ys,H5 p=ap (.lst ys)/\ys.length<sizeLine/\N e (upd H5 p<|.lst (ys++[y])) else N e H4)
theorem wv{R:ay->cb->Z_->ca->Prop}{Q:VK}(hc:X.calm=true)(co:CompOk X scope cl ls fs js)(hY:∀(C:cb)(s₀:ca)(H₀:Hp)(fp:aaZ)(pl:aa3),PG (a_ X (ls++fs) scope cl C s₀ H₀ fp pl) tg g/\Qf (a_ X (ls++fs) scope cl C s₀ H₀ fp pl) ifs tt/\PE (a_ X (ls++fs) scope cl C s₀ H₀ fp pl) elt te)(I:Inv X aaN Z H1 s2)(T:Turn X.prog X.w X.K tg J fp it tn)(st:tn 0 s2.heap)(hf:∀b∈fp,jH X aaN H1 b)(q:∀p,H1 p=bb->∃W:Nat->Nat->St->Hp->Prop,(∃m,W 0 m (fb ls js Z) (upd H1 p<|.lst []))/\∀i m G H',W i m G H'->
   (J.stop i H'/\Q (.ref p) H')\/(J.go i H'/\∃N:St->Hp->Prop,(∀σ2 H2,N σ2 H2->∃m',m'<m/\W (i+1) m' σ2 H2)/\∀x H2,J.yld i H' x H2->g x G H2 λσ3 H3=>tt σ3 H3 λc H4=>
    if c=true then te σ3 H4 λy H5=>∃ys,H5 p=ap (.lst ys)/\ys.length<sizeLine/\N σ3 (upd H5 p<|.lst (ys++[y])) else N σ3 H4))(hR:∀(p C:cb)(H':Hp)(s':ca)(m:aa4),s'.heap.Ns C m->Inv X aaN Z H' s'->H' C=bb->C≠X.env.locals->X.s₀.heap.objs.size<=C->(∀x c,X.env.cells.lookup x=ap c->c≠C)->(∀pp∈X.pn++aaN,pp.1≠C)->Q (.ref p) H'->R (.ref p) C (.ok .next) s'):
  cT (eX X.prog X.w) X.A (newList []) (λaaQ s₃=>cT (eX X.prog X.w) X.A (newFunctionEnv scope X.env.globals cl [] X.env.qual bb .none<|some X.env) (λcenv s₄=>
   F' (eX X.prog X.w) X.A (.compStart (.ListComp elt [#[tg,iter,ifs,0]] scope pos) 0 (.ref it) aaQ { cenv with scope:=Wp scope X.env }) (R aaQ cenv.locals) s₄) E s₃) E s2:=by
 have hp0:H1 s2.heap.objs.size=none:=I.hok.fresh (TL _);obtain⟨W,⟨m0,w0⟩,turn⟩:=q s2.heap.objs.size hp0;refine p6 (wpAny_newFunctionEnv co.nocell (by intro y hy;simp at hy) (λB U M=>?_) co.kind)
 dsimp only at U M ⊢;have I3:Inv X aaN Z (upd H1 s2.heap.objs.size<|.lst []) { s2 with heap:=s2.heap.push { cls:=.type "list",dict:=bb,data:=.seq ([]:aaY).toArray } }:=
  I.lnew (aaT:=[]) (t':=s2.toks) .nil (U2 _)
 generalize hs3:({ s2 with heap:=s2.heap.push { cls:=.type "list",dict:=bb,data:=.seq ([]:aaY).toArray } }:ca)=s3 at I3;have hh3:s2.heap.push { cls:=.type "list",dict:=bb,data:=.seq ([]:aaY).toArray }=s3.heap:=by rw[<- hs3]
 rw[hh3]at U M ⊢;have hsz3:s3.heap.objs.size=s2.heap.objs.size+1:=by rw[<- hh3,UZ]
 have hk3:∀b o,s2.heap.get? b=ap o->s3.heap.get? b=ap o:=λb o e=>by rw[<- hh3];exact Tv _ e
 have hlt:∀b∈fp,b<s2.heap.objs.size:=λb f=>by
  obtain⟨o,e,_⟩:=T.obj _ _ st b f;exact TC e
 have hnp:∀b∈fp,upd H1 s2.heap.objs.size (.lst []) b=none:=λb f=>by
  rw[aD (TX<|hlt b f)];exact(hf b f).1
 have hf3:∀b∈fp,jH X aaN (upd H1 s2.heap.objs.size<|.lst []) b/\b<s3.heap.objs.size:=λb f=>#[#[hnp b f,(hf b f).2],by rw[hsz3];exact WO (hlt b f)]
 have hk4:∀b o,s3.heap.get? b=ap o->B.get? b=ap o:=λb o e=>M.extBut b o (TX<|TC e) (Tv _ e);have st4:tn 0 B:=T.keep _ _ _ st λb f o e=>hk4 b o (hk3 b o e);have I4:=F5 (t':=s3.toks) I3 co hf3 U hk4;obtain⟨hg,ht,he⟩:=hY s3.heap.objs.size s3 (upd H1 s2.heap.objs.size<|.lst []) fp aaN;have O:∀{H':Hp},(∀b∈fp,H' b=bb)->∀b∈fp,jH (a_ X (ls++fs) scope cl s3.heap.objs.size s3 (upd H1 s2.heap.objs.size<|.lst []) fp aaN) [] H' b:=λ{H'} hn b f=>by
  obtain⟨f0,f1,f2,f3,f4,f5⟩:=hf b f;refine#[hn b f,TX (hf3 b f).2,λz=>?_,.inl f,λx c e=>f4 x c (co.cells x c e),λpp hp=>f5 pp ?_]
  .rcases TK.mp (I3.stkSub b z) with y|y
   .exact f1 y
   .exact f2 y
  .have q:pp∈(X.pn++aaN)++[]:=hp
   simpa using q
 have loop:∀s₄:ca,s₄={ s3 with heap:=B,toks:=s3.toks }->
   F' (eX X.prog X.w) X.A (.compLoop (.ListComp elt [#[tg,iter,ifs,0]] scope pos) 0 (.ref it) (.ref s2.heap.objs.size)<|compEnvC scope cl s3.heap.objs.size X.env) (R (.ref s2.heap.objs.size) s3.heap.objs.size) s₄:=by
  rintro s₄ rfl
  refine sQ (λn s'=>∃i G H',Inv (a_ X (ls++fs) scope cl s3.heap.objs.size s3 (upd H1 s2.heap.objs.size<|.lst []) fp aaN) [] G H' s'/\tn i s'.heap/\(∀b∈fp,H' b=bb)/\W i n G H') ?_ m0 #[0,_,_,I4,st4,hnp,w0]
  rintro n s5 ⟨i,σ5,H5,I5,st5,fr5,w5⟩
  rcases turn i n σ5 H5 w5 with⟨stop,qn⟩|⟨go,N,hN,step⟩
  .refine bz (T.done (a_ X (ls++fs) scope cl s3.heap.objs.size s3 (upd H1 s2.heap.objs.size<|.lst []) fp aaN) rfl rfl rfl hc i [] s5 σ5 H5 _ I5 (O fr5) st5 stop) λr s6 L=>?_
   obtain⟨hr,I6⟩:=L;subst hr;obtain⟨m6,hn6,_⟩:=I6.loc;have IX:Inv X aaN Z H5 s6:=I3.call' I6.os I6.base I6.hok I6.bare λb f=>#[(hf b f).2.2.2.1,(hf b f).2.1,(hf b f).2.2.2.2.1,(hf b f).2.2.2.2.2];refine hR _ _ H5 s6 m6 hn6 IX I6.free (V0 I3.lt) I3.sz (λx c e z=>?_) (λpp hp z=>?_) qn
   .obtain⟨v,L⟩:=I3.cell x c e
    have zl:=L.lt;rw[z]at zl;exact UB _ zl
   .have zl:=TC (I3.pin pp hp).1
    rw[z]at zl;exact UB _ zl
  .refine bz (T.item (a_ X (ls++fs) scope cl s3.heap.objs.size s3 (upd H1 s2.heap.objs.size<|.lst []) fp aaN) rfl rfl rfl hc i [] s5 σ5 H5 _ I5 (O fr5) st5 go) λr s6 L=>?_
   obtain⟨u,hr,h6⟩:=L;subst hr;refine bz h6 λ_ s7 L=>?_;obtain⟨x,H7,I7,r7,y7,st7,fr7⟩:=L;have I7':=I7.pinned (O fr7) (T.obj _ _ st7);refine bz (hg _ s7 σ5 H7 x u _ I7' r7<|step x H7 y7) λ_ s8 L=>?_;obtain⟨σ8,H8,I8,q8⟩:=L
   have again:∀{Y:St}{H9:Hp}{s9:ca},Inv (a_ X (ls++fs) scope cl s3.heap.objs.size s3 (upd H1 s2.heap.objs.size<|.lst []) fp aaN) ([]++oA fp s7.heap) Y H9 s9->N Y H9->
     ∃m,m<n/\∃i G H',Inv (a_ X (ls++fs) scope cl s3.heap.objs.size s3 (upd H1 s2.heap.objs.size<|.lst []) fp aaN) [] G H' s9/\tn i s9.heap/\(∀b∈fp,H' b=bb)/\W i m G H':=λ{Y H9 s9} I9 n9=>by
    obtain⟨m',hm,w9⟩:=hN Y H9 n9;refine#[m',hm,i+1,Y,H9,I9.unpinned,T.keep _ _ _ st7 λb f o e=>(I9.pin (b,o)<|UG _<|UG _<|fO f e).1,λb f=>?_,w9];obtain⟨o,e,d⟩:=T.obj _ _ st7 b f;exact(I9.pin (b,o)<|UG _<|UG _<|fO f e).2.1
   refine bz (ht _ s8 σ8 H8 _ I8 q8) λok s9 L=>?_;obtain⟨H9,I9,q9⟩:=L;cases ok with
   |false=>exact again I9 q9
   |true=>
    refine bz (he _ s9 σ8 H9 _ I9 q9) λxv s10 L=>?_;obtain⟨y,H10,I10,r10,ys,hp,hl,n10⟩:=L;obtain⟨z,aaT,n',r,hl',e⟩:=I10.lstM hp;refine ra Xa #[_,e,rfl] F.entry_list_append (F.args_list_append_2 _ _) (YU s2.heap.objs.size aaT.toArray n' xv<|by rw[TZ];lia) #[e,?_]
    refine again (I10.lset (its':=aaT++[xv]) hp e (by simp) (r.append<|.cons r10 .nil) ?_) n10
    rw[Ui,Vh];lia
 have se:({ s2 with heap:=B,toks:=s2.toks+([]:List (Str×ay)).length }:ca)={ s3 with heap:=B,toks:=s3.toks }:=by rw[<- hs3];rfl
 exact codeAny_compStart_list (loop _ se) (T.self _ 0 _ _ _ st4<|loop _ se)
theorem Ku(hc:X.calm=true)(co:CompOk X scope cl ls fs js)(hi:PI X tg iter wi)(hY:∀(C:cb)(c:ca)(H₀:Hp)(fp:aaZ)(pl:aa3),PG (a_ X (ls++fs) scope cl C c H₀ fp pl) tg g/\Qf (a_ X (ls++fs) scope cl C c H₀ fp pl) ifs tt/\PE (a_ X (ls++fs) scope cl C c H₀ fp pl) elt te)(hs:∀x,qa iter X.env x=pure x:=by intro _;rfl):PE X (.ListComp elt [#[tg,iter,ifs,0]] scope pos) (HL wi ls js g tt te):=by
 intro aaN s Z H Q I h;rw[eval_ListComp];refine aam (use:=bb) rfl hs co.clos co.kind co.locs (bz (hi aaN s Z H _ I h) λxv s1 O=>bz O λM s2 h2=>?_);obtain⟨it,fp,tn,J,H2,e,I2,T,y,L,q⟩:=h2;subst e;refine wv (R:=λv C=>compPost (eX X.prog X.w) X.A X.xe bb (EP X aaN Z Q) v C) (Q:=Q) hc co hY I2 T y L q ?_;intro p C H' W m N IX hC G u f r B;exact#[m,N,λh' Y=>#[.ref p,H',IX.turned (t':=W.toks) (λb o U e=>Y.extBut b o U e) hC G (.inr u) f r,rfl,B]]
def Nt(i:Nat)(t:TE):TS:=λD Z H=>t Z H λv H1=>D.nx (Z.set i<|some v) H1
theorem Ky(hN:X.N.Nodup)(R:X.N[i]?=ap x)(hx:Ej X.env.scope x)(hc:X.calm=true)(co:CompOk X scope cl ls fs js)(hi:PI X tg iter wi)(hY:∀(C:cb)(f:ca)(H₀:Hp)(fp:aaZ)(pl:aa3),PG (a_ X (ls++fs) scope cl C f H₀ fp pl) tg g/\Qf (a_ X (ls++fs) scope cl C f H₀ fp pl) ifs tt/\PE (a_ X (ls++fs) scope cl C f H₀ fp pl) elt te)(O:vr (.ListComp elt [#[tg,iter,ifs,0]] scope pos) (ap<|.Name x U) o.line X.env=pure true:=by rfl)(hs:∀x,qa iter X.env x=pure x:=by intro _;rfl)(hf:X.fn x=true\/X.env.scope.names.lookup x=ap .local:=by and_intros):
  PS X (.Assign [.Name x U] (.ListComp elt [#[tg,iter,ifs,0]] scope pos) o) (Nt i<|HL wi ls js g tt te):=by
 intro aaN s Z H D I h;rw[exec_Assign_Name_used _ _ _ _ O];refine ax (ZV<|wpAny_bind ?_)
 refine ax (k6 (aam rfl hs co.clos co.kind co.locs
  (bz (hi _ s Z H _ I h) λxv s1 h1=>bz h1 λitv s2 h2=>?_)) (λ_ s' B=>cx (cx B)) λ_ _ e=>e)
 obtain⟨it,fp,tn,J,H2,e,I2,T,L,f2,q⟩:=h2;subst e;refine wv (Q:=λv=>D.nx (Z.set i<|some v)) hc co hY I2 T L f2 q ?_;intro p C H' s' m hn IX hC hL u c r B;refine wpAny_assign_Name (qj IX hN R hx (v:=.ref p) rfl (λW I'' hb=>?_) hf);obtain⟨a,sb,Y⟩:=hb;have G:C≠a:=by
  rcases Y with z|z
  .simp_all
  exact λy=>c x a z y.symm
 refine#[m,hn.sameBut sb G,λh3 M=>?_];exact#[_,H',I''.turned (M.extBut) hC hL (.inr u) c r,B]
def SrcTn(b:Bool)(it a:cb)(i:Nat)(h:g4):Prop:=if b=true then h.IsListIter it a i else h.IsTupleIter it a i
def SrcSq(b:Bool)(h:g4)(a:cb)(items:aa5):Prop:=if b=true then h.IsList a items else h.IsTuple a items
theorem SrcTn.lt(x:SrcTn b it a i h):∃o,h.get? it=ap o/\∀v,o.data≠.cell v:=by
 cases b with
 |true=>obtain⟨o,e,c,d⟩:=x;exact#[o,e,λv z=>by simp_all]
 |false=>obtain⟨o,e,c,d⟩:=x;exact#[o,e,λv z=>by simp_all]
theorem SrcTn.keep(x:SrcTn b it a i h)(k:∀o,h.get? it=ap o->h'.get? it=ap o):SrcTn b it a i h':=by
 cases b with
 |true=>obtain⟨o,e,r⟩:=x;exact(#[o,k o e,r])
 |false=>obtain⟨o,e,r⟩:=x;exact(#[o,k o e,r])
theorem SrcSq.keep(x:SrcSq b h a items)(k:∀o,h.get? a=ap o->h'.get? a=ap o):SrcSq b h' a items:=by
 cases b with
 |true=>obtain⟨o,e,r⟩:=x;exact(#[o,k o e,r])
 |false=>obtain⟨o,e,r⟩:=x;exact(#[o,k o e,r])
theorem jc{x:ay}(c:s.heap.IsTupleIter it l i)(r:s.heap.IsTuple l items)(q:items[i]?=ap x)(hQ:∀h',h'.IsTupleIter it l (i+1)->U0 it s.heap h'->Q x { s with heap:=h' }):cT (eX prog w) A (UO<|.ref it) Q E s:=by
 obtain⟨o,f,p,e⟩:=id c;obtain⟨v,g,_,u,m⟩:=r
 refine ax (wpAny_callSpecial?_slot c.typeIs VF
  (n7 VF c.typeIs Yh ?_<|X9 _))
 show cT _ _ (field _ 0 >>= _) _ _ s;refine ax (l' f e rfl ?_);refine ax (l' f e rfl ?_);refine ax (mo g m ?_);simp[q];exact ax (aae f e (by simp)<|wpAny_pure #[x,rfl,cx<|hQ _ #[_,US _ f (YB<|WA e _),(Obj.cls_mapFields ..).trans p,by
  rw[WA e];simp[z4]]<|U4 ..])
theorem jC(r:A.handled=bb)(c:s.heap.IsTupleIter it l i)(v:s.heap.IsTuple l items)(u:items[i]?=bb)(hE:∀h' e,WH it s.heap h'->(∃o,h'.get? e=ap o/\o.cls=.type "StopIteration")->E (.ref e) { s with heap:=h' }):cT (eX prog w) A (UO<|.ref it) Q E s:=by
 obtain⟨o,p,y,q⟩:=id c;obtain⟨C,f,_,B,g⟩:=v
 refine ax (wpAny_callSpecial?_slot c.typeIs VF
  (n7 VF c.typeIs Yh ?_<|X9 _))
 show cT _ _ (field _ 0 >>= _) _ _ s;refine ax (l' p q rfl ?_);refine ax (l' p q rfl ?_);refine ax (mo f g ?_);simp[u];refine ax (WP<|wpAny_bind<|wpAny_setField p q (by simp) ?_)
 refine ax ?_;refine ax (m:=aah _ _) (P' (by rfl) ?_)
 refine p6 ?_ (by size_fits)
 refine ax (aal ?_)
 first|rw[r]|rw[r]
 exact ax (cx<|wpAny_throw<|hE _ _ (((U4 ..).extBut.push _).push _) #[_,TF _ rfl,rfl])
theorem g5{x:ay}(c:SrcTn b it l i s.heap)(f:SrcSq b s.heap l items)(e:items[i]?=ap x)(g:∀h',SrcTn b it l (i+1) h'->U0 it s.heap h'->Q x { s with heap:=h' }):cT (eX prog w) A (UO<|.ref it) Q E s:=by
 cases b with
 |true=>exact wpAny_nextOf_list_item c f e g
 |false=>exact jc c f e g
theorem dM(f:A.handled=bb)(c:SrcTn b it l i s.heap)(g:SrcSq b s.heap l items)(m:items[i]?=bb)(p:∀h' e,WH it s.heap h'->(∃o,h'.get? e=ap o/\o.cls=.type "StopIteration")->E (.ref e) { s with heap:=h' }):cT (eX prog w) A (UO<|.ref it) Q E s:=by
 cases b with
 |true=>exact wpAny_nextOf_list_end f c g m p
 |false=>exact jC f c g m p
noncomputable def iL(b:Bool):String:=if b=true then "list_iterator" else "tuple_iterator"
theorem fR(c:SrcSq b s.heap l items)(e:Q (.ref s.heap.objs.size) { s with heap:=s.heap.push { cls:=.type (iL b),data:=.fields (Tw [.ref l,.int 0 0]) } }):cT (eX prog w) A (W_<|.ref l) Q E s:=by
 cases b with
 |true=>exact re c e
 |false=>exact wpAny_pyIter_tuple c e
theorem A6(e:h.get? it=ap { cls:=.type (iL b),data:=.fields (Tw [.ref l,.int 0 0]) }):SrcTn b it l 0 h:=by
 cases b with
 |true=>exact(#[_,e,rfl,rfl])
 |false=>exact(#[_,e,rfl,rfl])
theorem yn(c:s.heap.get? a=ap o)(h:Q (ap o) s):cT M A (loadIfAlive a) Q E s:=λΓ p _=>by
 show Sem.wp M Γ (.loadIfAlive a _) _ _ p s;rw[Sem.wp_loadIfAlive,c];exact h
structure ZS where
 b:Bool
 i:cb
 l:cb
abbrev iK(h:g4)(T:cb)(vs:aaY):Prop:=h.get? T=ap { cls:=.type "tuple",data:=.seq vs.toArray }
noncomputable abbrev pH(z TI TO:cb)(S:List ZS):List Addr:=z::TI::TO::S.map ZS.i
structure ZOk(z TI TO:cb)(S:List ZS):Prop where
 nd:(pH z TI TO S).Nodup
 off:∀t∈S,t.l∉pH z TI TO S
 ne:S≠[]
 few:S.length<=3
abbrev pw(h:g4)(z TI TO:cb)(f0:ay)(f1:Bool):Prop:=
 h.get? z=ap { cls:=.type "zip",dict:=bb,data:=.fields (Tw [f0,.bool f1,.bool cp,.ref TI,.ref TO]),slots:=(Tw []) }
def Il(S:List ZS)(k:Nat)(h:g4):Prop:=∀t∈S,SrcTn t.b t.i t.l k h
theorem ib{α:Type}{f:α->g->Sem (ForInStep g)}{xs:List α}(b:Nat->g)(I:Nat->ca->Prop)
  (o:∀i x s,xs[i]?=ap x->I i s->cT M A (f x<|b i) (λr c=>r=.yield (b (i+1))/\I (i+1) c) E s) (m:∀c,I xs.length c->Q (b xs.length) c):
  ∀(n j:Nat)(s:ca),j+n=xs.length->I j s->cT M A (forIn (xs.drop j) (b j) f) Q E s
 |0,j,s,e,h=>by
  rw[VU (by lia)]
  have:j=xs.length:=by lia
  subst this;exact cx (m s h)
 |n+1,j,s,e,h=>by
  have p:j<xs.length:=by lia
  rw[VJ p,List.forIn_cons];refine ax (k6 (o j _ s (by simp) h) (λr c q=>?_) λ_ _ q=>q)
  obtain⟨rfl,q⟩:=q;exact ib b I o m n _ c (by lia) q
theorem mx{TI TO:cb}(D:ZOk z TI TO S):z≠TI/\z≠TO/\TI≠TO/\∀t∈S,t.i≠z/\t.i≠TI/\t.i≠TO:=by
 have:=D.nd;simp only[U9,TK,not_or]at this;obtain⟨⟨a,b,c⟩,⟨d,e⟩,f,g⟩:=this;exact#[a,b,d,λt m=>#[λe=>c (e▸Uq m),λq=>e (q▸Uq m),λe=>f (e▸Uq m)]]
theorem yN{TI TO:cb}(D:ZOk z TI TO S)(c:S[i]?=ap t)(f:S[j]?=ap u)(h:i≠j):t.i≠u.i:=by
 have nd:(S.map ZS.i).Nodup:=by have:=D.nd;simp only[U9]at this;exact this.2.2.2
 intro e;exact h ((List.getElem?_inj (by rw[Tz];exact(UC.1 c).1) nd).1<|by simp_all)
theorem vG{t:ZS}(m:A.handled=bb)(c:SrcTn t.b t.i t.l k s.heap)(g:SrcSq t.b s.heap t.l xs)(f:xs[k]?=o)(p:∀x h',o=ap x->SrcTn t.b t.i t.l (k+1) h'->U0 t.i s.heap h'->Q x { s with heap:=h' })(hE:∀h' e,o=bb->WH t.i s.heap h'->(∃o,h'.get? e=ap o/\o.cls=.type "StopIteration")->E (.ref e) { s with heap:=h' }):
  cT (eX prog w) A (UO<|.ref t.i) Q E s:=by
 cases o with
 |none=>exact dM m c g f λh' e q r=>hE h' e rfl q r
 |some x=>exact g5 c g f λh' q r=>p x h' rfl q r
structure ZMid(S:List ZS)(F:ZS->Option ay)(k:Nat)(fp:aaZ)(h₀:g4)(j:Nat)(h:g4):Prop where
 ahead:∀i t,S[i]?=ap t->SrcTn t.b t.i t.l (if i<j then k+1 else k) h
 got:∀i t,i<j->S[i]?=ap t->(F t).isSome=true
 frame:∀c o,c∉fp->h₀.get? c=ap o->h.get? c=ap o
 size:h.objs.size=h₀.objs.size
theorem ZMid.zero(a:Il S k h)(f:∀c o,c∉fp->h₀.get? c=ap o->h.get? c=ap o)(z:h.objs.size=h₀.objs.size):ZMid S F k fp h₀ 0 h:=
 #[λi t e=>by simpa using a t (UQ e),λi t q=>absurd q (W5 _),f,z]
theorem ZMid.at(m:ZMid S F k fp h₀ j h)(e:S[j]?=ap t):SrcTn t.b t.i t.l k h:=by simpa using m.ahead j t e
theorem ZMid.go(m:ZMid S F k fp h₀ j h)(i1:∀t∈S,∀o,h.get? t.i=ap o->h'.get? t.i=ap o)(f:∀c o,c∉fp->h.get? c=ap o->h'.get? c=ap o)(z:h'.objs.size=h.objs.size):ZMid S F k fp h₀ j h':=
 #[λi t e=>(m.ahead i t e).keep (i1 t<|UQ e),m.got,λc o n e=>f c o n (m.frame c o n e),z.trans m.size]
theorem ZMid.step{TI TO:cb}(D:ZOk z TI TO S)(m:ZMid S F k fp h₀ j h)(e:S[j]?=ap t)(r:t.i∈fp)(p:(F t).isSome=true)(v:SrcTn t.b t.i t.l (k+1) h')(b:U0 t.i h h'):ZMid S F k fp h₀ (j+1) h':=by
 refine#[λi u f=>?_,λi u q f=>?_,λc o n q=>b.extBut c o (λx=>n (x▸r)) (m.frame c o n q),b.1.trans m.size]
 .by_cases g:i=j
  .simp_all
  have q:=(m.ahead i u f).keep λo x=>b.extBut _ o (yN D f e g) x
  by_cases lt:i<j
  .rw[if_pos lt]at q
   rw[if_pos (WO lt)];exact q
  rw[if_neg lt]at q;rw[if_neg (by lia)]
  exact q
 by_cases g:i=j
 .subst g
  cases e.symm.trans f;exact p
 exact m.got i u (by lia) f
theorem yy{TI TO:cb}(m:pw s.heap z TI TO f0 f1)(h:cT (eX prog w) A.in1 (Builtin.«zip.__next__» #[[.ref z],[]]) (λfin s'=>∃v,fin=.done (.ret v)/\Q (ap v) s') (λe s'=>∃a,e=.ref a/\(∃o,s'.heap.get? a=ap o/\o.cls=.type "StopIteration")/\Q bb s') s):
  cT (eX prog w) A (G'<|.ref z) Q E s:=by
 have c:s.TypeIs (.ref z) _:=#[_,m,rfl];refine ax (J'<|wpAny_callSpecial?_slot c F.slot_zip_next<|wpAny_call_entry F.slot_zip_next c F.entry_zip_next (k6 h (λfin s' q=>?_) λe s' q=>?_)<|F.args_zip_next_1 _)
 .obtain⟨v,rfl,q⟩:=q
  exact#[v,rfl,cx q]
 obtain⟨a,rfl,⟨o,g,f⟩,q⟩:=q;exact ax (TW #[o,g,f] Y'<|wpAny_pure q)
theorem CY{TI TO:cb}(c:pw s.heap z TI TO .none f1)(h:Q true s):cT (eX prog w) A (Vs<|.ref z) Q E s:=by
 exact ax (l' c rfl rfl<|wpAny_pure h)
theorem D_{TI TO T:cb}(hz:pw s.heap z TI TO (z4 T) f1)(hT:s.heap.get? T=ap oT)(h:∀h₀,pw h₀ z TI TO (z4 T) true->(∀c o,c≠z->s.heap.get? c=ap o->h₀.get? c=ap o)->h₀.objs.size=s.heap.objs.size->Q cp { s with heap:=h₀ }):cT (eX prog w) A (Vs<|.ref z) Q E s:=by
 refine ax (l' hz rfl rfl ?_);refine ax (yn (by trivial) ?_)
 refine ax (l' hz rfl rfl ?_);cases f1 with
 |true=>
  exact cx (h _ hz (λ_ _ _ e=>e) rfl)
 |false=>
  exact ax (ot hz (by simp) λh₀ hz0 hs0=>cx (h _ hz0 hs0.extBut hs0.1))
theorem m7{TI TO:cb}(hh:A.handled=bb)(D:ZOk z TI TO S)(hz:pw s.heap z TI TO f0 f1)(hf:f0=.none/\f1=cp/\(∃vs:List ay,vs.length=S.length/\iK s.heap TO vs)\/∃(T:cb)(oT:Obj),f0=z4 T/\s.heap.get? T=ap oT)(hTI:iK s.heap TI (S.map λt=>.ref t.i))(h1:Il S k s.heap)(hl:∀t∈S,∃xs,SrcSq t.b s.heap t.l xs/\xs[k]?=F t)(hQ:∀h' us,us.map ap=S.map F->(f0=.none/\aac h' z TI TO (z4 s.heap.objs.size)/\iK h' TO us\/f0≠.none/\pw h' z TI TO f0 true)->Il S (k+1) h'->iK h' s.heap.objs.size us->
   (∀c o,c∉z::TO::S.map ZS.i->s.heap.get? c=ap o->h'.get? c=ap o)->Q (ap<|.ref s.heap.objs.size) { s with heap:=h' })(hE:∀h',(∃t∈S,F t=bb)->(∀c o,c∉z::TO::S.map ZS.i->s.heap.get? c=ap o->h'.get? c=ap o)->Q bb { s with heap:=h' }):
  cT (eX prog w) A (G'<|.ref z) Q E s:=by
 obtain⟨zTI,zTO,TITO,R⟩:=mx D;have few:S.length<=sizeLine:=TR D.few (by decide)
 refine yy hz ?_;show cT _ _ (field (.ref z) 2 >>= _) _ _ _;refine ax (l' hz rfl (x:=.bool cp) rfl ?_);show cT _ _ (field (.ref z) 3 >>= _) _ _ _;refine ax (l' hz rfl (x:=.ref TI) rfl ?_);refine ax (mo hTI rfl ?_);have hne:¬(S.map λt=>Ul t.i).toArray.isEmpty=true:=by have:=D.ne;simp[this]
 refine (congrArg (cT (eX prog w) A.in1 · _ _ s)<|if_neg hne).mpr ?_;show cT _ _ (Vs (.ref z) >>= _) _ _ _;refine ax ?_;have hnd:∀t∈S,t.l∉z::TO::S.map ZS.i:=λt g q=>D.off t g (by
  simp only[pH,TK]at q ⊢;exact q.imp id .inr)
 have B:∀{h h':g4}{c:cb}(b:cb),b∈z::TO::S.map ZS.i->(∀c o,c≠b->h.get? c=ap o->h'.get? c=ap o)->c∉z::TO::S.map ZS.i->∀o,h.get? c=ap o->h'.get? c=ap o:=λb hb k n o e=>k _ o (λx=>n (x▸hb)) e;have mi:∀{t:ZS},t∈S->t.i∈z::TO::S.map ZS.i:=λg=>by simp[Uq g]
 have fin:∀{us:aaY},us.length=S.length->(∀i t,i<S.length->S[i]?=ap t->us[i]?=F t)->(∀i t,i<S.length->S[i]?=ap t->(F t).isSome=true)->us.map ap=S.map F:=λ{us} hu G hs=>by
  refine WM λi=>?_;rw[TJ,TJ];cases y:S[i]? with
  |none=>
   rw[WE]at y;rw[UT (by lia)]
   rfl
  |some t=>
   have il:i<S.length:=(UC.1 y).1;have hs:=hs i t il y;rw[G i t il y];cases hF:F t with
   |none=>rw[hF]at hs;cases hs
   |some x=>simp[hF]
 have st:∀{h:g4},ZMid S F k (z::TO::S.map ZS.i) s.heap S.length h->Il S (k+1) h:=λm t g=>by
  obtain⟨i,il,rfl⟩:=Wl g;have q:=m.ahead i S[i] (by simp[il])
  rwa [if_pos il]at q
 rcases hf with⟨rfl,rfl,vs,hv,hTO⟩|⟨T,oT,rfl,hT⟩
 .refine CY hz ?_
  refine (congrArg (cT (eX prog w) A.in1 · _ _ s)<|if_pos rfl).mpr ?_;refine ax (WP ?_);refine ax (l' hz rfl (x:=.ref TO) rfl ?_);refine ax (ot hz (by simp) λU hz1 N=>?_)
  replace hz1:aac U z TI TO .ellipsis:=hz1
  refine ax ?_
  refine ib (xs:=(S.map λt=>Ul t.i).toArray.toList.zipIdx) (λ_=>_)
   (λj s'=>∃h' us,s'={ s with heap:=h' }/\ZMid S F k (z::TO::S.map ZS.i) s.heap j h'/\aac h' z TI TO .ellipsis/\iK h' TO us/\us.length=S.length/\∀i t,i<j->S[i]?=ap t->us[i]?=F t)
   (λj x s' hx hI=>?_) (λs' hI=>?_) _ 0 _ (Wo _) #[U,vs,rfl,.zero (λt g=>(h1 t g).keep λo e=>N.extBut _ o (R t g).1 e) (λc o n e=>B z (.head _) N.extBut n o e) N.1,hz1,N.extBut _ _ zTO.symm hTO,hv,λi t q=>absurd q (W5 _)]
  .obtain⟨h',us,rfl,m,r,C,hu,G⟩:=hI
   simp only[YF,TJ,UR,Wo]at hx;obtain⟨v,⟨t,y,rfl⟩,rfl⟩:=hx;have g:=UQ y;obtain⟨xs,hsq,hxs⟩:=hl t g;refine ax (wpAny_onRaise ?_);show cT _ _ (UO (.ref t.i) >>= _) _ _ _;refine ax (vG hh (m.at y) (hsq.keep λo e=>m.frame _ o (hnd t g) e) hxs (λx p O h12 f=>cx ?_) λp e O f he=>?_)
   .have jl:j<S.length:=(UC.1 y).1
    have J:iK p TO us:=f.extBut _ _ (R t g).2.2.symm C;refine ax (mo J rfl ?_);refine ax (w6 J rfl ?_ (by show us.toArray.size<=sizeLine;rw[TZ,hu];exact few)<|by rw[Array.size_setIfInBounds,TZ,hu];exact Nat.le_succ_of_le few)
    refine ax (Y_<|wpAny_pure #[rfl,_,us.set j x,rfl,?_,?_,?_,by rw[Vj,hu],λi u q eu=>?_])
    all_goals have sb:U0 TO p (p.update TO<|Vc (·.setIfInBounds j x)):=U4 ..
    .exact(m.step D y (mi g) (by rw[O];rfl) h12 f).go (λu hu' o e=>sb.extBut _ o (R u hu').2.2 e) (λc o n e=>B TO (by simp) sb.extBut n o e) sb.1
    .exact sb.extBut _ _ zTO (f.extBut _ _ (R t g).1.symm r)
    .show Heap.get? _ _=_
     rw[US _ J rfl];simp[Vc]
    .rw[Xn]
     by_cases ij:j=i
     .subst ij
      cases y.symm.trans eu;rw[if_pos rfl,if_pos (by lia),O]
     .rw[if_neg ij]
      exact G i u (by lia) eu
   .obtain⟨oe,hoe,hce⟩:=he
    have hz2:aac p z TI TO .ellipsis:=f _ _ (R t g).1.symm r;have hez:e≠z:=λx=>by subst x;rw[hz2]at hoe;cases hoe;simp at hce
    exact ot hz2 (by simp) λh₃ _ L=>#[e,rfl,#[oe,L.extBut _ _ hez hoe,hce],hE h₃ #[t,g,O] λc o n q=>B z (.head _) L.extBut n o (B _ (mi g) f n o<|m.frame c o n q)]
  .obtain⟨h',us,rfl,m,r,C,hu,G⟩:=hI
   rw[show (S.map λt=>Ul t.i).toArray.toList.zipIdx.length=S.length by simp]at m G
   refine ax (mo C rfl ?_);refine ax (S' ?_<|by simpa [hu] using few)
   have W:z<h'.objs.size:=TC r;show cT _ _ (Wt (.ref z) (.ref h'.objs.size) >>= _) _ _ _;refine ax ?_;unfold Wt;have hz8:aac (h'.push { cls:=.type "tuple",data:=.seq us.toArray }) z TI TO .ellipsis:=Tv _ r;refine ax (ot hz8 (by simp) λh₉ hz9 hs9=>?_)
   replace hz9:aac h₉ z TI TO (z4 h'.objs.size):=hz9
   refine ot hz9 (by simp) λhA M hsA=>?_
   replace M:aac hA z TI TO (z4 h'.objs.size):=M
   have Y:∀c o,c≠z->h'.get? c=ap o->hA.get? c=ap o:=λc o c1 e=>hsA.extBut _ _ c1 (hs9.extBut _ _ c1<|Tv _ e);have hTA:iK hA h'.objs.size us:=hsA.extBut _ _ (V0 W) (hs9.extBut _ _ (V0 W)<|TF _ rfl);rw[m.size]at M hTA;refine cx #[_,rfl,?_];show Q (ap<|.ref h'.objs.size) _;rw[m.size];exact hQ hA us (fin hu G m.got) (.inl #[rfl,M,Y _ _ zTO.symm C]) (λt g=>(st m t g).keep λo e=>Y _ o (R _ g).1 e) hTA λc o n e=>B z (.head _) Y n o (m.frame c o n e)
 .refine D_ hz hT λh₀ hz0 I hs0=>?_
  refine (congrArg (cT (eX prog w) A.in1 · _ _ _)<|if_neg Wx).mpr ?_;show cT _ _ (forIn (S.map λt=>Ul t.i).toArray _ _ >>= _) _ _ _;rw[<- Array.forIn_toList];refine ax ?_
  refine ib (xs:=(S.map λt=>Ul t.i).toArray.toList) (λj=>(bb,((S.map λt=>(F t).getD .none).take j).toArray))
   (λj s'=>∃h',s'={ s with heap:=h' }/\ZMid S F k (z::TO::S.map ZS.i) s.heap j h'/\pw h' z TI TO (z4 T) true)
   (λj x s' hx hI=>?_) (λs' hI=>?_) _ 0 _ (Wo _) #[h₀,rfl,.zero (λt g=>(h1 t g).keep λo e=>I _ o (R t g).1 e) (λc o n e=>B z (.head _) I n o e) hs0,hz0]
  .obtain⟨h',rfl,m,r⟩:=hI
   simp only[TJ,UR]at hx;obtain⟨t,y,rfl⟩:=hx;have g:=UQ y;obtain⟨xs,hsq,hxs⟩:=hl t g;refine ax (kL ?_);show cT _ _ (UO (.ref t.i) >>= _) _ _ _;refine ax (vG hh (m.at y) (hsq.keep λo e=>m.frame _ o (hnd t g) e) hxs (λx p O h12 f=>cx (cx #[?_,_,rfl,m.step D y (mi g) (by rw[O];rfl) h12 f,f.extBut _ _ (R t g).1.symm r])) λp e O f he=>#[e,rfl,he,hE p #[t,g,O] λc o n q=>B _ (mi g) f n o (m.frame c o n q)])
   rw[XZ,show (S.map λt=>(F t).getD .none)[j]?=ap x by rw[TJ,y];simp[O]]
   simp
  .obtain⟨h',rfl,m,r⟩:=hI
   rw[show (S.map λt=>Ul t.i).toArray.toList.length=S.length by simp]at m ⊢
   rw[Yr (by simp)]
   refine ax (S' (cx #[_,rfl,?_])<|by simpa using few)
   have Y:∀c o,h'.get? c=ap o->(h'.push { cls:=.type "tuple",data:=.seq (S.map λt=>(F t).getD .none).toArray }).get? c=ap o:=λc o e=>Tv _ e;have hn:=TF h' (o:={ cls:=.type "tuple",data:=.seq (S.map λt=>(F t).getD .none).toArray }) rfl;show Q (ap<|.ref h'.objs.size) _;rw[m.size]at hn ⊢;refine hQ _ (S.map λt=>(F t).getD .none) (fin (by simp) (λi t il y=>?_) m.got) (.inr #[by simp[z4],Y _ _ r]) (λt g=>(st m t g).keep λo e=>Y _ o e) (by simpa using hn) λc o n e=>Y _ _ (m.frame c o n e)
   have hs:=m.got i t il y;cases hF:F t with
   |none=>rw[hF]at hs;cases hs
   |some x=>simp[y,hF]
theorem Qx{l:List α}(h:l.length=2):∃a b,l=[a,b]:=by
 cases l with
 |nil=>cases h
 |cons a l=>
  cases l<;>simp_all
theorem len3{l:List α}(h:l.length=3):∃a b c,l=[a,b,c]:=by
 cases l with
 |nil=>cases h
 |cons a l=>
  obtain⟨b,c,rfl⟩:=Qx (by simpa using h)
  exact#[a,b,c,rfl]
theorem mW(a b c:ay):ZW "zip" #[[a,b,c],[]]=pure ():=by kernel_rfl
theorem pN(a b c:ay):Uf "zip.__new__" #[[.type "zip",a,b,c],[]]=pure ():=by kernel_rfl
theorem iD(a b c d:ay):ZQ "object.__init__" #[[a,b,c,d],[]]:=by
 unfold ZQ;rw[signature?_of (id:="object.__init__") (n:=['_','_','t','i','n','i','_','_']) (o:=['t','c','e','j','b','o']) (by kernel_rfl) F.owner_object];kernel_rfl
noncomputable def dm(n:Nat)(args:List (Bool×cb)):List ZS:=args.zipIdx.map λp=>#[p.1.1,n+p.2,p.1.2]
theorem gy:(dm n args)[i]?=(args[i]?).map λp=>#[p.1,n+i,p.2]:=by
 simp[dm,Xe]
theorem wH(B:∀p∈args,∃xs,SrcSq p.1 s.heap p.2 xs)(C:∀h',Il (dm s.heap.objs.size args) 0 h'->(∀c o,s.heap.get? c=ap o->h'.get? c=ap o)->h'.objs.size=s.heap.objs.size+args.length->Q ((dm s.heap.objs.size args).map λt=>.ref t.i) { s with heap:=h' }):
  cT (eX prog w) A (Builtin.SmallTypes.iterAll (args.map λp=>.ref p.2)) Q E s:=by
 refine ax ?_
 refine ib (λj=>(((dm s.heap.objs.size args).take j).map λt=>Ul t.i).toArray)
  (λj q=>∃h',q={ s with heap:=h' }/\Il ((dm s.heap.objs.size args).take j) 0 h'/\(∀c o,s.heap.get? c=ap o->h'.get? c=ap o)/\h'.objs.size=s.heap.objs.size+j)
  (λj x q r m=>?_) (λq m=>?_) _ 0 _ (Wo _) #[_,rfl,λt ht=>by simp at ht,λ_ _ e=>e,rfl]
 .obtain⟨h',rfl,g,k,f⟩:=m
  simp only[TJ,UR]at r;obtain⟨p,u,rfl⟩:=r;obtain⟨xs,y⟩:=B p (UQ u);have v:(dm s.heap.objs.size args)[j]?=ap #[p.1,s.heap.objs.size+j,p.2]:=by rw[gy,u];rfl
  refine ax (kL<|fR (y.keep λo e=>k _ o e)<|wpAny_pure #[?_,_,rfl,λt ht=>?_,λc o e=>Tv _ (k c o e),by rw[UZ,f];rfl])
  .rw[XZ,v]
   simp[f]
  rw[XZ,v]at ht;rcases Uo.1 ht with ht|ht
  .exact(g t ht).keep λo e=>Tv _ e
  have:=Wu.1 ht;subst this;refine A6 ?_;rw[<- f];exact TF _ rfl
 obtain⟨h',rfl,g,k,f⟩:=m;have e:(dm _ _).take (args.map λp=>Ul p.2).length=dm s.heap.objs.size args:=Yr (by simp[dm])
 rw[e]at g ⊢;refine cx (C h' g k<|by simpa using f)
theorem x_(args:List (Bool×cb))(g:args.length<=3):
  aab (Builtin.«zip.__new__» #[.type "zip"::args.map λp=>.ref p.2,[]]) (λ_ R s=>(∀p∈args,∃xs,SrcSq p.1 s.heap p.2 xs)/\
   ∀h',aac h' (s.heap.objs.size+args.length+2) (s.heap.objs.size+args.length) (s.heap.objs.size+args.length+1) .none->iK h' (s.heap.objs.size+args.length) ((dm s.heap.objs.size args).map λt=>.ref t.i)->iK h' (s.heap.objs.size+args.length+1) (args.map λ_=>.none)->
    Il (dm s.heap.objs.size args) 0 h'->(∀c o,s.heap.get? c=ap o->h'.get? c=ap o)->R (.ok<|.ret<|.ref (s.heap.objs.size+args.length+2)) { s with heap:=h' }):=
 .of_wp λprog w A R s h=>by
  obtain⟨r,u⟩:=h;have m:=sub_zip;have v:=r;unfold Builtin.«zip.__new__»
  wp_walk using wH r
  intro h' y k f;have len:(dm s.heap.objs.size args).length<=3:=by simpa [dm] using g
  refine ax (S' ?_<|by rw[Tz];exact TR len (by decide))
  refine ax (S' ?_<|by rw[Tz,Tz];exact TR len (by decide))
  unfold Builtin.SmallTypes.newRecord Builtin.SmallTypes.ownedTupleFields
  wp_walk
  refine#[_,rfl,?_];simp only[UZ,f];refine u _ ?_ ?_ ?_ (λt B=>(y t B).keep λo e=>Tv _ (Tv _<|Tv _ e)) λc o e=>Tv _ (Tv _<|Tv _<|k c o e)
  .have q:=TF ((h'.push { cls:=.type "tuple",data:=.seq ((dm s.heap.objs.size args).map λt=>Ul t.i).toArray }).push { cls:=.type "tuple",data:=.seq (((dm s.heap.objs.size args).map λt=>Ul t.i).map λ_=>UU).toArray }) (o:={ cls:=.type "zip",data:=.fields (Tw [.none,.bool cp,.bool cp,.ref (s.heap.objs.size+args.length),.ref (s.heap.objs.size+args.length+1)]) }) rfl
   simp only[UZ,f]at q;exact q
  .refine Tv _ (Tv _ ?_)
   rw[<- f];exact TF _ rfl
  refine Tv _ ?_;have q:=TF (h'.push { cls:=.type "tuple",data:=.seq ((dm s.heap.objs.size args).map λt=>Ul t.i).toArray }) (o:={ cls:=.type "tuple",data:=.seq (((dm s.heap.objs.size args).map λt=>Ul t.i).map λ_=>UU).toArray }) rfl;simp only[UZ,f]at q;rw[show (args.map λ_=>UU)=(((dm s.heap.objs.size args).map λt=>Ul t.i).map λ_=>UU) from ?_]
  .exact q
  .rw[Ud,dm,Ud]
   exact WM λi=>by simp[TJ,YF];rfl
theorem p_(hn:args.length=2\/args.length=3)(hl:∀p∈args,∃xs,SrcSq p.1 s.heap p.2 xs)(h:∀h' z TI TO S,S.map (λt=>(t.b,t.l))=args->ZOk z TI TO S->aac h' z TI TO .none->iK h' TI (S.map λt=>.ref t.i)->iK h' TO (S.map λ_=>.none)->Il S 0 h'->(∀b∈pH z TI TO S,s.heap.objs.size<=b)->
   (∀c o,s.heap.get? c=ap o->h'.get? c=ap o)->Q (.ref z) { s with heap:=h' }):
  cT (eX prog w) A (call (.type "zip") (args.map λp=>.ref p.2)) Q E s:=by
 have few:args.length<=3:=by lia
 have checks:ZW "zip" #[args.map λp=>.ref p.2,[]]=pure ()/\Uf "zip.__new__" #[.type "zip"::args.map λp=>.ref p.2,[]]=pure ()/\∀obj,ZQ "object.__init__" #[obj::args.map λp=>.ref p.2,[]]:=by
  rcases hn with hn|hn
  .obtain⟨a,b,rfl⟩:=Qx hn
   exact#[F.typeCall_zip_2 _ _,F.newCall_zip_2 _ _,λobj=>F.args_object_init_3 obj _ _]
  .obtain⟨a,b,c,rfl⟩:=len3 hn
   exact#[mW _ _ _,pN _ _ _,λobj=>iD obj _ _ _]
 refine aaB F.called_zip (by decide) checks.1 checks.2.1 checks.2.2 F.entry_zip_new (x_ args few) #[hl,λh' hz hTI hTO st k=>?_]
 have em:(dm s.heap.objs.size args).map (λt=>(t.b,t.l))=args:=WM λi=>by
  rw[TJ,gy];cases args[i]?<;>rfl
 have hlen:(dm s.heap.objs.size args).length=args.length:=by rw[<- em,Tz,em]
 have hi:∀t∈dm s.heap.objs.size args,s.heap.objs.size<=t.i/\t.i<s.heap.objs.size+args.length:=λt ht=>by
  obtain⟨i,il,rfl⟩:=Wl ht;have q:=gy (n:=s.heap.objs.size) (args:=args) (i:=i);rw[hlen]at il;simp[il,hlen]at q;rw[q];exact#[Vg _ _,Nat.add_lt_add_left il _]
 have hb:∀b∈pH (s.heap.objs.size+args.length+2) (s.heap.objs.size+args.length) (s.heap.objs.size+args.length+1) (dm s.heap.objs.size args),s.heap.objs.size<=b:=λb hb=>by
  simp only[pH,TK,TM]at hb;rcases hb with e|e|e|⟨t,ht,e⟩
  .rw[e];exact TR (Vg _ _) (Vg _ _)
  .rw[e];exact Vg _ _
  .rw[e];exact TR (Vg _ _) (Vg _ _)
  .rw[<- e];exact(hi t ht).1
 have D:ZOk (s.heap.objs.size+args.length+2) (s.heap.objs.size+args.length) (s.heap.objs.size+args.length+1) (dm s.heap.objs.size args):=by
  refine#[?_,λt ht q=>?_,λe=>?_,by lia]
  .simp only[U9,TK,TM,not_or,not_exists,not_and]
   refine#[#[(show (_:Nat)≠(_:Nat) by lia),(show (_:Nat)≠(_:Nat) by lia),λt ht e=>?_],#[(show (_:Nat)≠(_:Nat) by lia),λt ht e=>?_],λt ht e=>?_,?_]
   all_goals try exact absurd (show (t.i:Nat)<s.heap.objs.size+args.length from (hi t ht).2) (by rw[e];first|exact UB _|exact W4.2 (Vg _ _))
   refine VH.2 λi j il jl ij=>?_;have ei:=gy (n:=s.heap.objs.size) (args:=args) (i:=i);have ej:=gy (n:=s.heap.objs.size) (args:=args) (i:=j);simp only[Tz,hlen]at il jl;simp[il,hlen]at ei;simp[jl,hlen]at ej;rw[Xz,Xz,ei,ej];exact(show (_:Nat)≠(_:Nat) by simp;lia)
  .have:(t.b,t.l)∈args:=em▸Uq (f:=λt:ZS=>(t.b,t.l)) ht
   obtain⟨xs,sq⟩:=hl _ this;obtain⟨b,i,l⟩:=t;have lt:l<s.heap.objs.size:=by
    cases b with
    |true=>obtain⟨o,e,_⟩:=(show s.heap.IsList l xs from sq);exact TC e
    |false=>obtain⟨o,e,_⟩:=(show s.heap.IsTuple l xs from sq);exact TC e
   exact absurd lt (W4.2<|hb _ q)
  .rw[e]at hlen
   simp at hlen;lia
 show _/\_;refine#[#[_,hz,rfl],h h' _ _ _ _ em D hz hTI ?_ st hb k];rw[show ((dm s.heap.objs.size args).map λ_=>UU)=args.map λ_=>UU by rw[<- em,Ud,em];rfl]
 exact hTO
def ng(K:TH)(b:Bool)(H:Hp)(a:cb)(xs:List V):Prop:=if b=true then SqL K H a xs else ke K H a xs
theorem Inv.src(I:Inv X aaN Z H s)(h:ng X.K b H a xs):∃aaT:List ay,Vals xs aaT/\SrcSq b s.heap a aaT.toArray/\xs.length<=sizeLine:=by
 cases b with
 |true=>obtain⟨aaT,r,p,z⟩:=I.list h;exact#[_,r,p.isList,z]
 |false=>obtain⟨aaT,r,p,z⟩:=I.tuple h;exact#[_,r,p,z]
theorem Inv.src_inj(I:Inv X aaN Z H s)(h:ng X.K b H a xs)(h':ng X.K b H a ys):xs=ys:=by
 cases b with
 |true=>exact I.list_inj h h'
 |false=>exact I.tuple_inj h h'
theorem Inv.src_ne(I:Inv X aaN Z H s)(h:ng X.K b H a xs)(f:jH X aaN H it):a≠it:=by
 obtain⟨f0,f1,q,p,r,u⟩:=f;intro e;subst e;have g:∀o,X.K.lookup a=ap o->False:=λo c=>by
  have m:=I.ok.mod.kin a o c;rcases p with z|z
  .exact I.ok.noex a o m z
  .exact absurd (Uc (TC (I.ok.bs a o m).1) z) (UB _)
 cases b with
 |true=>
  rcases (show SqL X.K H a xs from h) with (z|⟨o,z⟩)|⟨o,_,_,c,_⟩
  .rw[f0]at z;cases z
  .rw[f0]at z;cases z
  .exact g o c
 |false=>
  rcases (show ke X.K H a xs from h) with (z|⟨o,z⟩)|⟨o,_,_,c,_⟩
  .rw[f0]at z;cases z
  .rw[f0]at z;cases z
  .exact g o c
theorem Inv.turned4{t':Nat}(I:Inv X aaN Z H s)(p:∀b∈fp,jH X aaN H b)(k:∀b o,b∉fp->s.heap.get? b=ap o->h'.get? b=ap o):Inv X aaN Z H { s with heap:=h',toks:=t' }:=by
 have g:∀b u,H b=ap u->b∉fp:=λb u e z=>by have:=(p b z).1;simp_all
 refine I.step (λb G=>?_) (λb o _ _ f e _=>k b o f e) (λb o _ _ f e _=>#[_,k b o f e]) (λ_ _ _ _ n=>n)
  (λb o f e=>#[o,k b o f e]) (λ_ _ e=>e) (λ_ _ _ e=>e) (λb L e=>#[(Tw []),by rw[e];simp]) (λm y=>?_) (λb u e=>?_) I.bare
 .obtain⟨f0,f1,R,N,M,O⟩:=p b G
  trivial
 .obtain⟨o,J,C,B,r⟩:=y
  exact#[o,J,C,k _ o (λz=>(p _ z).2.1 rfl) B,r]
 refine (I.hok b u e).stay (λc v f q=>k c v ?_ q) (λ_ q=>q) λ_ _ q=>q;rcases f with z|z
 .rw[z];exact g b u e
 exact g c _ z
theorem Inv.turnedNew{t':Nat}(I:Inv X aaN Z H s)(L:∀b∈fp,jH X aaN H b)(k:∀b o,b∉fp->s.heap.get? b=ap o->h'.get? b=ap o)(hlt:∀b∈fp,∃o,s.heap.get? b=ap o)(hlv:∀b∈fp,∃o,h'.get? b=ap o)(hT:h'.get? s.heap.objs.size=ap y)(G:y.cls=.type "tuple")(M:∃n,y.data=.seq us.toArray n)(r:Vals zs us)(J:y.dict=bb)(hz:zs.length<=sizeLine):Inv X aaN Z (upd H s.heap.objs.size<|.tup zs) { s with heap:=h',toks:=t' }:=by
 have f:H s.heap.objs.size=none:=I.hok.fresh (TL _);have p:∀b u,H b=ap u->b∉fp:=λb u e z=>by have:=(L b z).1;rw[e]at this;cases this
 refine I.step (g':=s.gens) (d':=s.drawn) (ch:=fp) (λb B=>?_) (λb o _ _ g e _=>k b o g e) (λb o _ _ g e _=>#[o.slots,k b o g e]) (λb o _ e n=>by rw[aD (TX<|TC e)];exact n)
  (λb o g e=>#[o,k b o g e]) (λb C e=>by rw[aD (bn e f)];exact e) (λb o u e=>by rw[aD (bn e f)];exact e) (λb ps e=>#[(Tw []),by rw[aD (bn e f),e];simp]) (λm O=>?_) (λb u e=>?_) I.bare
 .obtain⟨f0,f1,f2,R,N,W⟩:=L b B
  exact#[R,f1,N,W]
 .obtain⟨o,es,U,T,r⟩:=O
  exact#[o,es,U,k _ o (λz=>(L _ z).2.1 rfl) T,r]
 .by_cases B:b=s.heap.objs.size
  .subst B
   rw[upd_same]at e;cases e;obtain⟨n,Y⟩:=M;exact#[hz,us,r,#[y,hT,#[G,n,Y],J]]
  .rw[aD B]at e
   refine (I.hok b u e).stay (λc v g q=>k c v ?_ q) (λc q=>by rw[aD (bn q f)];exact q) λc C q=>by rw[aD (bn q f)];exact q
   rcases g with z|z
   .rw[z];exact p b u e
   .exact p c _ z
noncomputable def xi(h:g4)(l:cb)(k:Nat):Option Value:=match h.get? l with
 |some o=>match o.data with
  |.seq xs _=>xs[k]?
  |_=>bb
 |_=>bb
theorem jt(q:SrcSq b h l xs)(k:Nat):xs[k]?=xi h l k:=by
 have:∃o n,h.get? l=ap o/\o.data=.seq xs n:=by
  cases b with
  |true=>obtain⟨o,e,c,n,d⟩:=q;exact#[o,n,e,d]
  |false=>obtain⟨o,e,c,n,d⟩:=q;exact#[o,n,e,d]
 obtain⟨o,n,e,d⟩:=this;simp[xi,e,d]
noncomputable def RY(K:TH)(L:List (Bool×cb)):It:=
 #[λi H=>∀p∈L,∃xs x,ng K p.1 H p.2 xs/\xs[i]?=ap x,
  λi H v H'=>∃T zs,H T=bb/\v=.ref T/\H'=upd H T (.tup zs)/\zs.length=L.length/\∀(j:Nat)(p:Bool×cb),L[j]?=ap p->∀xs,ng K p.1 H p.2 xs->xs[i]?=zs[j]?,
  λi H=>(∀p∈L,∃xs,ng K p.1 H p.2 xs)/\∃p∈L,∃xs,ng K p.1 H p.2 xs/\xs.length<=i]
structure ZTn(z TI TO:cb)(S:List ZS)(i:Nat)(h:g4):Prop where
 hz:aac h z TI TO .none
 hTI:iK h TI (S.map λt=>.ref t.i)
 hTO:∃vs:List ay,vs.length=S.length/\iK h TO vs
 st:Il S i h
theorem ZTn.obj{TI TO:cb}(q:ZTn z TI TO S i h):∀b∈pH z TI TO S,∃o,h.get? b=ap o/\∀v,o.data≠.cell v:=λb c=>by
 obtain⟨f,_,e⟩:=q.hTO;simp at c;rcases c with rfl|rfl|rfl|⟨t,ht,rfl⟩
 .exact#[_,q.hz,λv q=>nomatch q]
 .exact#[_,q.hTI,λv q=>nomatch q]
 .exact#[_,e,λv q=>nomatch q]
 exact(q.st t ht).lt
theorem ZTn.keep{TI TO:cb}(q:ZTn z TI TO S i h)(k:∀b∈pH z TI TO S,∀o,h.get? b=ap o->h'.get? b=ap o):ZTn z TI TO S i h':=by
 obtain⟨f,l,e⟩:=q.hTO;exact#[k z (by simp) _ q.hz,k TI (by simp) _ q.hTI,#[f,l,k TO (by simp) _ e],λt c=>(q.st t c).keep λo e=>k _ (by simp[Uq c]) o e]
theorem wE{s:ca}{i:Nat}(I:Inv X aaN Z H s):∀(S:List ZS)(us:aaY),us.map ap=S.map (λt=>xi s.heap t.l i)->(∀t∈S,∃xs x,ng X.K t.b H t.l xs/\xs[i]?=ap x)->
  ∃zs,Vals zs us/\zs.length=S.length/\∀(j:Nat)(p:Bool×cb),(S.map λt=>(t.b,t.l))[j]?=ap p->∀xs,ng X.K p.1 H p.2 xs->xs[i]?=zs[j]?
 |[],[],_,_=>#[[],.nil,rfl,λj p e=>by simp at e]
 |[],_::_,e,_=>by simp at e
 |_::_,[],e,_=>by simp at e
 |t::S,u::us,e,h=>by
  simp at e;obtain⟨zs,r,l,g⟩:=wE I S us e.2 λt' ht=>h t' (.tail _ ht);obtain⟨xs,x,q,hx⟩:=h t (.head _);obtain⟨aaT,rv,sq,z⟩:=I.src q;obtain⟨u',hu,ru⟩:=rv.get hx;have e1:ap u=ap u':=by rw[e.1,<- jt sq i];simp_all
  cases e1;refine#[_,.cons ru r,by simp[l],λj p ej ys hy=>?_]
  cases j with
  |zero=>
   simp at ej;subst ej;rw[I.src_inj hy q];trivial
  |succ j=>exact g j p (by trivial) ys hy
theorem pQ{f:α->cb}:∀{L:List α}{us:aaY},Vals (L.map λp=>.ref (f p)) us->us=L.map λp=>.ref (f p):=by
 intro L
 induction L with
 |nil=>intro us h;cases h;rfl
 |cons p L ih=>
  intro us h;cases h with
  |cons r t=>cases r;rw[TB,ih t]
theorem Dh{TI TO:cb}(D:ZOk z TI TO S):
  Turn P w K (.Tuple elts x1 tp) (RY K (S.map λt=>(t.b,t.l))) (pH z TI TO S) z (ZTn z TI TO S) where
 mem:=.head _
 obj:=λi h st=>st.obj
 keep:=λi h h' st k=>st.keep k
 item:=by
  intro X hP Y U hc i aaN s Z H E I T st y;subst hP Y U
  replace y:∀t∈S,∃G x,ng X.K t.b H t.l G/\G[i]?=ap x:=λt m=>y _ (Uq m)
  have fits:∀t∈S,∃g x,SrcSq t.b _ t.l g/\g[i]?=ap x:=λt m=>by
   obtain⟨G,x,q,O⟩:=y t m;obtain⟨g,N,sq,_⟩:=I.src q;obtain⟨u,hu,_⟩:=N.get O;exact#[_,u,sq,by simp_all]
  refine m7 (F:=λt=>xi s.heap t.l i) (I.ok.hd hc) D st.hz (.inl #[rfl,rfl,st.hTO]) st.hTI st.st (λt m=>?_) (λh' R v hzz a3 a4 M=>?_) λh' ⟨t,m,eo⟩ _=>?_
  .obtain⟨g,x,sq,_⟩:=fits t m
   exact#[g,sq,jt sq i]
  .obtain⟨_,a1,a2⟩|⟨n,_⟩:=hzz
   case inr=>trivial
   refine#[_,rfl,wpAny_letOwnedTupleGo_zip a1 λB L c=>?_];obtain⟨zs,rz,lz,gz⟩:=wE I S R v y;have zl:=TC st.hz;have kk:∀b o,b∉pH z TI TO S->s.heap.get? b=ap o->B.get? b=ap o:=λb o r e=>by
    simp only[TK,not_or]at r;exact c.extBut b o r.1 (M b o (by simp only[TK,not_or];exact#[r.1,r.2.2.1,r.2.2.2]) e)
   obtain⟨C,W,TITO,ni⟩:=mx D;have hT:B.get? _=ap _:=c.extBut _ _ (V0 zl) a4;have J:ZTn z TI TO S (i+1) B:=by
    refine#[L,c.extBut _ _ C.symm (M _ _ ?_ st.hTI),#[R,?_,c.extBut _ _ W.symm a2],λt m=>(a3 t m).keep λo e=>c.extBut _ o (ni t m).1 e]
    .simp
     exact#[C.symm,TITO,λt m=>(ni t m).2.1]
    have:=congrArg Vr v;simpa using this
   refine#[.ref _,_,I.turnedNew T kk (λb r=>let ⟨o,e,_⟩:=st.obj b r;#[o,e]) (λb r=>let ⟨o,e,_⟩:=J.obj b r;#[o,e]) hT rfl #[_,rfl] rz rfl (by rw[lz];exact TR D.few (by decide)),rfl,#[_,zs,I.hok.fresh (TL _),rfl,rfl,by simp_all,gz],J,λb r=>?_]
   obtain⟨o,e,_⟩:=st.obj b r;rw[aD (TX<|TC e)];exact(T b r).1
  obtain⟨g,x,sq,O⟩:=fits t m;rw[jt sq i]at O;rw[O]at eo;cases eo
 done:=by
  intro X hP Y U hc i aaN s Z H E I T st y;subst hP Y U;refine m7 (F:=λt=>xi s.heap t.l i) (I.ok.hd hc) D st.hz (.inl #[rfl,rfl,st.hTO]) st.hTI st.st (λt m=>?_) (λh' R v _ a3 a4 M=>?_) λh' _ M=>#[rfl,I.turned4 T λb o r e=>M b o (λx=>r ?_) e]
  .obtain⟨G,q⟩:=y.1 _ (Uq m)
   obtain⟨g,N,sq,_⟩:=I.src q;exact#[_,sq,jt sq i]
  .obtain⟨p,hp,G,q,hle⟩:=y.2
   obtain⟨t,m,rfl⟩:=TM.1 hp;obtain⟨g,N,sq,_⟩:=I.src q;have hl:=N.length;have:xi s.heap t.l i∈R.map some:=by rw[v];exact Uq (f:=λt:ZS=>xi s.heap t.l i) m
   rw[<- (jt sq i),List.getElem?_toArray,UT (by lia)]at this
   simp at this
  simp only[pH,TK]at x ⊢;rcases x with x|x|x
  .exact .inl x
  .exact .inr (.inr<|.inl x)
  .exact .inr (.inr<|.inr x)
 self:=λ_ _ _ _ _ st h=>Z5 st.hz h
def Rb(K:TH)(t:TA):TI:=λZ H R=>t Z H λc H1=>∃L:List (Bool×cb),(L.length=2\/L.length=3)/\c=L.map (λp=>.ref p.2)/\(∀p∈L,∃xs,ng K p.1 H1 p.2 xs)/\R (RY K L) H1
theorem KY{a:fy}(N:Gl X "zip")(U:X.mg "zip"=bb)(O:PA X (a::as) m)(T:eH (a::as) X.env=(cp,g3 a X.env)::eH as X.env:=by rfl)(hs2:(PySem.backTo pos<|starEach as X.env).any (·.1)=false:=by rfl):
  PI X (.Tuple elts x1 tp) (.Call (.Name "zip" p) (a::as) [] pos) (Rb X.K m):=by
 intro aaN s Z H R I h;refine Call_ (df I N U (by rfl)<|UA (bz (O _ _ s Z H _ I h) λus Y u=>?_) T hs2)
 obtain⟨vs,H1,I1,v,G⟩:=u;obtain⟨L,y,rfl,o,q⟩:=G;cases pQ v;refine p_ y (λp J=>?_) λh' z TI TO S M D g f e B hb C=>?_
 .obtain⟨W,q⟩:=o p J
  obtain⟨r,_,sq,_⟩:=I1.src q;exact#[_,sq]
 refine Z5 g ?_;subst M;exact#[z,_,_,_,H1,rfl,I1.kept C,Dh D,#[g,f,#[_,by rw[Tz],e],B],λb c=>I1.fpOk (hb b c) (I1.hok.fresh<|hb b c),q]
noncomputable def Ite(K:TH)(b:Bool)(l:cb):It:=
 #[λi H=>∃xs x,ng K b H l xs/\xs[i]?=ap x,
  λi H v H'=>∃T x,H T=bb/\v=.ref T/\H'=upd H T (.tup [.int i,x])/\(∀xs,ng K b H l xs->xs[i]?=ap x),
  λi H=>∃xs,ng K b H l xs/\xs.length<=i]
theorem Draws.src(y:A.handled=bb)(b:Bool)(it l:cb)(m:l≠it)(items:aa5):
  Draws prog w A it [it,l] items.size (λi v=>items[i]?=ap v) (λi h=>SrcTn b it l i h/\SrcSq b h l items) where
 live:=λ_ _ c=>let ⟨o,ho,_⟩:=c.1.lt;#[o,ho]
 frame:=λ_ _ _ c p=>#[c.1.keep λo e=>p it (by simp) o e,c.2.keep λo e=>p l (by simp) o e]
 item:=λi s Q E q c u=>by
  exact g5 c.1 c.2 (x:=items[i]) (by simp[q]) λh' f g=>u _ h' _ (by simp[q]) #[f,c.2.keep λo e=>g.extBut _ o m e] g
 done:=λs Q E c r=>dM y c.1 c.2 (by simp) r
theorem xx(b:Bool)(l:cb)(items:aa5):
  aab (Builtin.«enumerate.__new__» #[[.type "enumerate",.ref l],[]]) (λ_ R s=>SrcSq b s.heap l items/\
   R (.ok<|.ret<|.ref (s.heap.push { cls:=.type (iL b),data:=.fields (Tw [.ref l,.int 0 0]) }).objs.size)
    { s with heap:=(s.heap.push { cls:=.type (iL b),data:=.fields (Tw [.ref l,.int 0 0]) }).push { cls:=.type "enumerate",data:=.fields (Tw [.none,.bool cp,.ref s.heap.objs.size,z4 0,.none,.none]) } }):=
 .of_wp λprog w A R s h=>by
  obtain⟨o,g,d,m,p⟩:=s;obtain⟨q,h⟩:=h;have f:=sub_enumerate;have e:SrcSq b (Shared.heap #[o,g,d,m,p]) l items:=q
  wp_walk
  refine wpAny_stack_any λr=>cx ?_
  split
  .rename_i c _ _ _ _ _
   cases (c==Wn "enumerate")
   .wp_walk using fR e
    exact#[_,rfl,h]
   .wp_walk using fR e
    exact#[_,rfl,h]
  .wp_walk using fR e
   exact#[_,rfl,h]
theorem CW(f:SrcSq b s.heap l items)(h:∀h',IsEnum h' (s.heap.objs.size+1) s.heap.objs.size 0 .none->SrcTn b s.heap.objs.size l 0 h'->h'.objs.size=s.heap.objs.size+2->
   (∀b o,s.heap.get? b=ap o->h'.get? b=ap o)->Q (.ref (s.heap.objs.size+1)) { s with heap:=h' }):
  cT (eX prog w) A (call (.type "enumerate") [.ref l]) Q E s:=by
 refine aaB F.called_enumerate (by decide) (F.typeCall_enumerate_1 _) (F.newCall_enumerate_1 _) (λobj=>F.args_object_init_2 _ _) F.entry_enumerate_new (xx b l _) #[f,?_]
 have c:(s.heap.push { cls:=.type (iL b),data:=.fields (Tw [.ref l,.int 0 0]) }).objs.size=s.heap.objs.size+1:=UZ ..;rw[c]
 have e:IsEnum ((s.heap.push { cls:=.type (iL b),data:=.fields (Tw [.ref l,.int 0 0]) }).push
   { cls:=.type "enumerate",data:=.fields (Tw [.none,.bool cp,.ref s.heap.objs.size,z4 0,.none,.none]) }) (s.heap.objs.size+1) s.heap.objs.size 0 .none:=by
  have:=TF (s.heap.push { cls:=.type (iL b),data:=.fields (Tw [.ref l,.int 0 0]) })
   (o:={ cls:=.type "enumerate",data:=.fields (Tw [.none,.bool cp,.ref s.heap.objs.size,z4 0,.none,.none]) }) rfl
  rw[c]at this;exact this
 refine#[#[_,e,rfl],h _ e (A6<|Tv _<|TF _ rfl) (by rw[UZ,c]) λb o x=>Tv _ (Tv _ x)]
theorem Do(b:Bool)(l e it:cb)(L:e≠it):
  Turn P w K (.Tuple elts x1 tp) (Ite K b l) [e,it] e (λi h=>(∃m,IsEnum h e it i m)/\SrcTn b it l i h) where
 mem:=by simp
 obj:=λi h C c g=>by
  obtain⟨⟨m,y⟩,G⟩:=C;have f:c=e\/c=it:=by simp_all
  rcases f with q|q<;>subst q
  .simp_all
  exact G.lt
 keep:=λi h h' C k=>by
  obtain⟨⟨m,y⟩,G⟩:=C;exact#[#[m,k e (by simp) _ y],G.keep λo q=>k it (by simp) o q]
 item:=by
  intro X hP hw hK g i aaN s Z H E I N C hg;subst hP hw hK;obtain⟨xs,x,M,U⟩:=hg;obtain⟨⟨m,y⟩,G⟩:=C;obtain⟨B,r,sq,z1⟩:=I.src M;obtain⟨u,hu,ru⟩:=r.get U;have hle:=I.src_ne M (N e<|by simp)
  have hli:=I.src_ne M (N it<|by simp)
  have hil:i<B.toArray.size:=by
   rw[TZ,<- r.length];exact(UC.mp U).1
  have D:Draws X.prog X.w X.A.in1 it [it,l] _ _ _:=Draws.src (A:=X.A.in1) (I.ok.hd g) b it l hli B.toArray;refine wpAny_pyNext_enum_itemD D y #[G,sq] hil L (by simp[L,Uk hle]) λv h' tk hv ho hs' W hsz hk=>?_
  have ev:v=u:=by
   have Y:B.toArray[i]?=ap u:=by simpa using hu
   rw[Y]at hv;exact(UP hv).symm
  subst ev;refine#[_,rfl,wpAny_letOwnedTupleGo_enum ho λJ O p=>?_];have hes:=TX (TC y);have n1:=hs'.1.keep λo q=>p.extBut _ o L.symm q;have kk:∀c o,c∉[e,it]->s.heap.get? c=ap o->J.get? c=ap o:=λc o g q=>
   p.extBut c o (λz=>g (by simp[z])) (hk c o (λz=>g (by simp[z])) (λz=>g (by simp[z])) q)
  have hT':J.get? _=ap _:=p.extBut _ _ hes.symm W;have lv:∀c∈[e,it],∃o,s.heap.get? c=ap o:=λc g=>by
   have f:c=e\/c=it:=by simp_all
   rcases f with q|q<;>subst q
   .exact#[_,y]
   obtain⟨o,q,_⟩:=G.lt;exact#[o,q]
  have lv':∀c∈[e,it],∃o,J.get? c=ap o:=λc g=>by
   have f:c=e\/c=it:=by simp_all
   rcases f with q|q<;>subst q
   .exact#[_,O]
   obtain⟨o,q,_⟩:=n1.lt;exact#[o,q]
  have hTn:=I.hok.fresh (TL _);refine#[.ref _,_,I.turnedNew (s:=s) (zs:=[.int i,x]) N kk lv lv' hT' rfl #[_,rfl] (.cons #[tk,rfl]<|.cons ru .nil) rfl (by show 2<=sizeLine;decide),rfl,#[_,x,hTn,rfl,rfl,λzs R=>?_],#[#[v,by assumption],n1],λc g=>?_]
  .rw[I.src_inj R M];exact U
  obtain⟨o,q⟩:=lv c g;rw[aD (TX<|TC q)];exact(N c g).1
 done:=by
  intro X hP hw hK g i aaN s Z H E I N C hg;subst hP hw hK;obtain⟨xs,M,U⟩:=hg;obtain⟨⟨m,y⟩,G⟩:=C;obtain⟨B,r,sq,z1⟩:=I.src M;have W:s.TypeIs (.ref e) _:=#[_,y,rfl];have hl:=r.length
  refine ax (J' (wpAny_callSpecial?_slot W YV
   (n7 YV W F.entry_enumerate_next ?_<|F.args_enumerate_next_1 _)))
  show cT _ _ (field (.ref e) 2 >>= _) _ _ _;refine ax (l' y rfl rfl ?_);refine ax (dM (I.ok.hd g) G sq (by simp;lia) λh' x he' hx'=>?_)
  obtain⟨o,ho,hcl⟩:=hx';exact ax (TW (T:="StopIteration") (b:=true) #[o,ho,hcl] Y'<|wpAny_pure #[rfl,I.turned4 (t':=s.toks) N λc o' f q=>he' c o' (λz=>f (by simp[z])) q])
 self:=λ_ _ _ _ _ C h=>let ⟨⟨_,y⟩,_⟩:=C;wpAny_pyIter_enum y h
theorem vd:bu X (.builtin "isinstance") (λxs H Q=>∃x T t b,xs=[x,.ty T]/\TyOf X.K H x t/\W.kitOne X.K t (.type T)=ap b/\Q (.bl b) H):=by
 rintro aaN s Z H xs o Q I r ⟨x,T,t,b,rfl,ty,e,q⟩
 obtain⟨u,c,rfl,f,m⟩:=r.two;obtain rfl:c=Wn T:=m;exact D3 I f ty e λg=>#[.bl b,H,I.tok g,rfl,q]
theorem GD(Y:X.calm=true):bu X (.builtin "all") (λxs H Q=>∃(l:cb)(bs:List Bool),xs=[.ref l]/\SqL X.K H l (bs.map V.bl)/\Q (.bl<|bs.all id) H):=by
 rintro aaN s Z H xs us Q I r ⟨l,bs,rfl,N,q⟩
 obtain⟨u,rfl,O⟩:=r.one;cases O;obtain⟨f,L,p,hz⟩:=I.list N;have hl:=L.length;have G:l<s.heap.objs.size:=by obtain⟨o,e,_⟩:=p.isList;exact TC e
 have val:∀(i:Nat)(v:ay),f.toArray[i]?=ap v->∃c,bs[i]?=ap c/\v=.bool c:=λi v M=>by
  have y:f[i]?=ap v:=by simp_all
  have g:i<bs.length:=by
   have:=(UC.mp y).1
   simp_all
  obtain⟨w',C,W⟩:=L.get (by rw[TJ,Tx g];rfl)
  rw[y]at C;cases C;exact#[_,Tx g,W]
 have J:f.toArray.size=bs.length:=by simp_all
 refine call_all_walk (re p.isList #[_,_,_,_,_,_,λi=>bs.getD i cp,rfl,XN (A:=X.A.in1) (I.ok.hd Y) _ l (TX G) _,#[#[_,TF _ rfl,rfl,rfl],p.isList.push _],λi v s' Q' E' M R=>?_,λh' T U=>?_])
 .obtain⟨c,C,rfl⟩:=val i v M
  refine z5 ?_
  simp_all
 have e:(Ub f.toArray.size).all (λi=>bs.getD i cp)=bs.all id:=by
  rw[J,Bool.eq_iff_iff,List.all_eq_true,List.all_eq_true];constructor
  .intro h b B
   obtain⟨i,g,rfl⟩:=Wa.mp B;have:=h i (UE.mpr g)
   rwa [Ur,Tx g]at this
  .intro h i g
   have m:=UE.mp g;rw[Ur,Tx m];exact h _ (V3 m)
 rw[e];refine#[.bl (bs.all id),H,?_,rfl,q];exact I.kept (t':=T) λb o B=>U b o (by simp;exact TX (TC B)) (Tv _ B)
theorem fT:ZB table "zip.__getattribute__"=ap Builtin.«object.__getattribute__»:=
 entryFor_alias (id':="object.__getattribute__") (by kernel_rfl) (by decide +kernel) (by decide +kernel) (by kernel_rfl)
theorem jB:T_ (.type "zip") "__getattr__"=pure none:=by rfl
theorem wy:T_ (.type "zip") "keys"=pure none:=by rfl
theorem eR:ZB table "dict.update.loop"=ap Builtin.«dict.update.loop»:=entryFor_of_fast (by kernel_rfl)
theorem cj:plainId "dict.update.loop"=true:=by decide +kernel
theorem mC(a TI TO:cb)(f0:ay)(f1:Bool)(name:Str)(u:Tok)(f:T_ (.type "zip") name=pure bb)(c:(["__module__","__name__","__qualname__","__doc__","__annotations__"]:aaX).contains name=cp)(hsz:name.length+100<=sizeLine:=by size_fits):
  aab (Builtin.«object.__getattribute__» #[[.ref a,.str name u],[]]) (λA R s=>pw s.heap a TI TO f0 f1/\raisesAttr (.ref a) name A R s):=
 Meets.of_wp λprog w A R s e=>by
  obtain⟨o,g,d,m,p⟩:=s;obtain⟨q,e⟩:=e;have r:(#[o,g,d,m,p]:ca).TypeIs (.ref a) "zip":=#[_,q,rfl]
  repeat (any_goals (first|assumption|wp_step))
  simp only[c,Ue,if_false]
  repeat (any_goals (first|assumption|wp_step))
  exact wpAny_raiseAttrError e.1 e.2 (attrMsg_fits (by decide +kernel) hsz)
theorem pz{TI TO:cb}(p:pw s.heap a TI TO f0 f1)(y:A.handled=bb)(h:∀h' q,(∀b o,s.heap.get? b=ap o->h'.get? b=ap o)->Q bb { s with heap:=h',toks:=q }):cT (eX prog w) A (Z2 (.ref a) "keys") Q E s:=by
 obtain⟨r,g,d,q,u⟩:=s;have m:∀f,(#[r,g,d,f,u]:ca).TypeIs (.ref a) "zip":=λ_=>#[_,p,rfl];have v:=sub_AttributeError;have I:=W3.lookup;have C:=W3.bind (.ref a);have J:=jB;unfold Z2 getAttrBy? getAttrBy
 repeat (any_goals (first|assumption|exact m _|((with_reducible show cT _ _ (call (Value.builtin "zip.__getattribute__") _ _) _ _ _);refine ra W3 (m _) fT (F.args_zip_getattribute_2 _ _) (mC a TI TO f0 f1 "keys" _ wy (by decide +kernel)<|by decide +kernel) #[p,y,λh' f e c=>?_])|wp_step))
 obtain⟨t',B,G⟩:=c.there;show cT _ _ (U' _ _ _ _ _ _ _) _ _ _;unfold U'
 repeat (any_goals (first|assumption|wp_step))
 exact h _ _ c.keeps
def xO(h:g4)(T:cb)(k v:ay):Prop:=∃o n,h.get? T=ap o/\o.cls=.type "tuple"/\o.data=.seq (Tw [k,v]) n
structure PSrc(prog:fx)(w:hG)(d it:cb)(ps:List (ay×ay))(fp:aaZ)(St:Nat->g4->Prop):Prop where
 off:d∉fp
 stay:∀i h h',St i h->(∀b o,b≠d->h.get? b=ap o->h'.get? b=ap o)->St i h'
 item:∀(A:h7)(i:Nat)(hi:i<ps.length)(s:ca)(Q:Option ay->ca->Prop)(E:aa2),A.handled=bb->d<s.heap.objs.size->St i s.heap->
  (∀h' T,St (i+1) h'->xO h' T ps[i].1 ps[i].2->(∀c o,c∉fp->s.heap.get? c=ap o->h'.get? c=ap o)->Q (ap<|.ref T) { s with heap:=h' })->cT (eX prog w) A (G'<|.ref it) Q E s
 done:∀(A:h7)(s:ca)(Q:Option ay->ca->Prop)(E:aa2),A.handled=bb->St ps.length s.heap->(∀h',(∀c o,c∉fp->s.heap.get? c=ap o->h'.get? c=ap o)->Q bb { s with heap:=h' })->cT (eX prog w) A (G'<|.ref it) Q E s
theorem xq{St:Nat->g4->Prop}(Y:A.handled=bb)(C:PSrc prog w d it f fp St)(P:Nat->g4->Prop)(Pd:∀i h,P i h->∃o,h.get? d=ap o)(stay:∀i h h',P i h->(∀b o,b∉fp->h.get? b=ap o->h'.get? b=ap o)->P i h')(step:∀(i:Nat)(W:i<f.length)(s:ca)(Q:Unit->ca->Prop)(E:aa2),P i s.heap->(∀h' u,P (i+1) h'->U0 d s.heap h'->Q () { s with heap:=h',toks:=u })->cT (eX prog w) A.in1 (dictSet d f[i].1 f[i].2) Q E s):
  ∀(n i:Nat)(s:ca),n=f.length-i->i<=f.length->St i s.heap->P i s.heap->
   (∀p:ca,p.os=s.os->p.gens=s.gens->p.drawn=s.drawn->P f.length p.heap->(∀c o,c∉fp->c≠d->s.heap.get? c=ap o->p.heap.get? c=ap o)->R (.ok<|.ret .none) p)->
   ∀u:Nat,F' (eX prog w) A (.builtin "dict.update.loop" #[[.ref d,.ref it,z4 u,.none],[]]) R s:=by
 intro n
 induction n with
 |zero=>
  intro i s hn W r G hR u;have M:i=f.length:=by lia
  subst M;refine om eR ?_;rw[UW cj _];show cT _ A.in1 (G' (.ref it) >>= _) _ _ s;refine ax (C.done A.in1 s _ _ Y r λh' y=>?_);exact ax (m:=Builtin.Dict.addKeywords d []) (cx<|wpAny_pure (hR _ rfl rfl rfl (stay _ _ _ G y) λc o B L e=>y c o B e))
 |succ n ih=>
  intro i s hn W r G hR u;have q:i<f.length:=by lia
  obtain⟨od,hd⟩:=Pd _ _ G;refine om eR ?_;rw[UW cj _];show cT _ A.in1 (G' (.ref it) >>= _) _ _ s;refine ax (C.item A.in1 i q s _ _ Y (TC hd) r λh' T v ⟨oT,m,U,e2,e3⟩ k1=>?_);have J:({ s with heap:=h' }:ca).TypeIs (.ref T) "tuple":=#[_,U,e2];refine ax (kL<|wpAny_bind<|wpAny_tryCatch ?_);unfold Builtin.Dict.pairItems;refine ax (Z1 J ?_);rw[if_pos (by decide)]
  refine ax (mo (s:={ s with heap:=h' }) U e3<|wpAny_pure ?_);show cT _ _ (vb [f[i].1,f[i].2]<|dictSet d f[i].1 f[i].2) _ _ _;refine kL (step i q { s with heap:=h' } _ _ (stay i _ _ G k1) λN O I g=>cx #[pt cj _,?_]);exact ih (i+1) { s with heap:=N,toks:=O } (by lia) q (C.stay _ _ _ v λb o hb e=>g.extBut b o hb e) I (λp q1 q2 q3 q4 q5=>hR p q1 q2 q3 q4 λc o B L e=>q5 c o B L (g.extBut c o L<|k1 c o B e)) (u+1)
namespace F
theorem wd:mroOf (.type "dict")=pure [.type "dict",.type "object"]:=by rfl
theorem Eg:T_ (.type "dict") "__new__"=pure (ap<|.builtin "dict.__new__"):=by rfl
theorem called_dict:TypeCalled "dict" "dict.__new__" "dict.__init__":=
 #[by rfl,by rfl,#[_,_,wd],madeBy_type wd (by trivial) (by decide +kernel),by decide +kernel,by rfl,PySem.F.slot_dict_init]
theorem typeCall_dict_1(a:ay):ZW "dict" #[[a],[]]=pure ():=by kernel_rfl
theorem newCall_dict_1(a:ay):Uf "dict.__new__" #[[.type "dict",a],[]]=pure ():=by kernel_rfl
theorem entry_dict_new:ZB table "dict.__new__"=ap Builtin.«dict.__new__»:=entryFor_of_tree (by kernel_rfl)
theorem plain_dict_new:plainId "dict.__new__"=true:=by decide +kernel
theorem sub_dict:isSubtype (.type "dict") (.type "dict")=pure true:=by rfl
end F
theorem pK(a:ay)(h:Q₁ (.ref s.heap.objs.size) { s with heap:=s.heap.push { cls:=.type "dict",data:=.dict (Tw []) } }):
  F' (eX prog w) A (.call (.builtin "dict.__new__") #[[.type "dict",a],[]]) (wants Q₁ E) s:=by
 refine aaK F.plain_dict_new F.entry_dict_new (P' (F.newCall_dict_1 a) ?_);have c:=F.sub_dict
 wp_walk
 exact h
theorem yk{fq:aaZ}(J:A.handled=bb)(P:Nat->g4->Prop)(hT:∃o,s.heap.get? l=ap o/\o.cls=.type T)(ht:(Wn T != Wn "dict")=true)(keys:∀(A':h7)(f:ca)(Q:Option ay->ca->Prop)(E:aa2),A'.handled=bb->(∀b o,s.heap.get? b=ap o->f.heap.get? b=ap o)->(∀h' G,(∀b o,f.heap.get? b=ap o->h'.get? b=ap o)->Q bb { f with heap:=h',toks:=G })->cT (eX prog w) A' (Z2 (.ref l) "keys") Q E f)(iter:∀(A':h7)(f:ca)(Q:aa2)(E:aa2),(∀b o,s.heap.get? b=ap o->f.heap.get? b=ap o)->s.heap.objs.size<f.heap.objs.size->
   (∀h' it fp St,(∀b o,f.heap.get? b=ap o->h'.get? b=ap o)->PSrc prog w s.heap.objs.size it p fp St->St 0 h'->(∀b∈fp,b∈fq\/s.heap.objs.size<b)->Q (.ref it) { f with heap:=h' })->cT (eX prog w) A' (W_<|.ref l) Q E f)(Pd:∀i h,P i h->∃o,h.get? s.heap.objs.size=ap o)(h0:∀h',(∀b o,s.heap.get? b=ap o->h'.get? b=ap o)->h'.get? s.heap.objs.size=ap { cls:=.type "dict",data:=.dict (Tw []) }->P 0 h')(stay:∀i h h',P i h->(∀b o,b∉fq->b<=s.heap.objs.size->h.get? b=ap o->h'.get? b=ap o)->P i h')(step:∀(i:Nat)(hi:i<p.length)(f:ca)(Q:Unit->ca->Prop)(E:aa2),P i f.heap->(∀h' G,P (i+1) h'->U0 s.heap.objs.size f.heap h'->Q () { f with heap:=h',toks:=G })->cT (eX prog w) A.in1.in1 (dictSet s.heap.objs.size p[i].1 p[i].2) Q E f)(h:∀f:ca,f.os=s.os->f.gens=s.gens->f.drawn=s.drawn->P p.length f.heap->(∀c o,c∉fq->s.heap.get? c=ap o->f.heap.get? c=ap o)->Q (.ref s.heap.objs.size) f):
  cT (eX prog w) A (call (.type "dict") [.ref l]) Q E s:=by
 refine callType_codes (Q₁:=λobj g=>obj=.ref s.heap.objs.size/\g={ s with heap:=s.heap.push { cls:=.type "dict",data:=.dict (Tw []) } }) F.called_dict (F.typeCall_dict_1 _) PySem.F.entry_dict_init (pK _ #[rfl,rfl]) ?_
 rintro obj g ⟨rfl,rfl⟩
 have up:∀c o,s.heap.get? c=ap o->(s.heap.push { cls:=.type "dict",data:=.dict (Tw []) }).get? c=ap o:=λc o e=>Tv _ e;have m:(s.heap.push { cls:=.type "dict",data:=.dict (Tw []) }).get? s.heap.objs.size=ap { cls:=.type "dict",data:=.dict (Tw []) }:=TF _ rfl;have u:({ s with heap:=s.heap.push { cls:=.type "dict",data:=.dict (Tw []) } }:ca).TypeIs (.ref s.heap.objs.size) "dict":=#[_,m,rfl];refine#[u,PySem.F.args_dict_init_2 _ _,?_];unfold Builtin.«dict.__init__» Builtin.Dict.selfAndRest;refine ax (ax<|wpAny_notOrdered_dict u<|wpAny_pure ?_);show cT _ _ (Xt "dict.__init__" s.heap.objs.size (.ref l) [] .none) _ _ _;unfold Xt;obtain⟨oT,eT,N⟩:=hT;refine ax (Z1 (T:=T) #[oT,up _ _ eT,N] ?_);rw[if_pos ht];refine ax (keys _ _ _ _ J up λy v hk₁=>?_);rw[if_pos (show (none:Option ay).isNone=true from rfl)];have r:=hk₁ _ _ m;refine ax (WP<|wpAny_bind (iter _ { s with heap:=y,toks:=v } _ _ (λc o e=>hk₁ c o (up c o e)) (TC r) λq it fp St k₂ C B I=>cx #[pt cj _,?_]))
 exact xq (A:=A.in1) J C P Pd (λi h h' R Y=>stay i h h' R λb o n le e=>Y b o (λz=>(I b z).elim n λlt=>W4.2 le lt) e) step p.length 0 { s with heap:=q,toks:=v } (by simp) (U2 _) B (h0 _ (λb o e=>k₂ b o (hk₁ b o<|up b o e))<|k₂ _ _ r)
  (λf O W M L U=>#[rfl,h f O W M L λc o n e=>U c o (λz=>(I c z).elim n λlt=>Nat.lt_asymm lt (TC e)) (TX<|TC e) (k₂ c o<|hk₁ c o<|up c o e)]) 0
structure ZPr(z TI TO d:cb)(S:List ZS)(F:ZS->List ay)(i:Nat)(h:g4):Prop where
 hz:∃f0 f1,pw h z TI TO f0 f1/\(f0=.none/\f1=cp/\(∃vs:List ay,vs.length=S.length/\iK h TO vs)\/∃(T:cb)(oT:Obj),f0=z4 T/\h.get? T=ap oT/\T≠d/\T∉pH z TI TO S)
 hTI:iK h TI (S.map λt=>.ref t.i)
 st:Il S i h
 sq:∀t∈S,SrcSq t.b h t.l (F t).toArray
theorem Kk{TI TO:cb}{F:ZS->List ay}(D:ZOk z TI TO S)(U:S.map F=[xs,ys])(hd:d∉pH z TI TO S)(W:∀t∈S,t.l≠d)(len:xs.length=ys.length):
  PSrc prog w d z (xs.zip ys) (pH z TI TO S) (ZPr z TI TO d S F) where
 off:=hd
 stay:=λi h h' p k=>by
  have ne:∀b∈pH z TI TO S,b≠d:=λb y e=>hd (e▸y);obtain⟨⟨f0,f1,q,r⟩,g,p,sq⟩:=p;refine#[#[f0,f1,k _ _ (ne z<|by simp) q,?_],k _ _ (ne TI<|by simp) g,λt f=>(p t f).keep λo e=>k _ o (ne t.i<|by simp[Uq f]) e,λt f=>(sq t f).keep λo e=>k _ o (W t f) e]
  rcases r with⟨a,b,Y,l,e⟩|⟨T,B,a,b,c,e⟩
  .exact .inl #[a,b,Y,l,k _ _ (ne TO<|by simp) e]
  .exact .inr #[T,B,a,k _ _ c b,c,e]
 item:=by
  intro A i hi s Q E N dl p L;obtain⟨⟨f0,f1,q,r⟩,g,p,sq⟩:=p;have hx:i<xs.length:=by rw[XJ]at hi;lia
  have hy:i<ys.length:=by lia
  obtain⟨G,zTO,TITO,ni⟩:=mx D;have pr:∀m:List ay,m.map ap=S.map (λt=>(F t)[i]?)->m=[xs[i],ys[i]]:=λm e=>by
   have:S.map (λt=>(F t)[i]?)=(S.map F).map (·[i]?):=by rw[Ud];rfl
   rw[this,U]at e;rcases m with _|⟨u,_|⟨v,_|⟨_,_⟩⟩⟩<;>simp[hx,hy]at e ⊢
   exact e
  have no:∀t∈S,(F t)[i]?≠none:=λt f e=>by
   have:F t∈S.map F:=Uq f;rw[U]at this;have W:(F t).length<=i:=WE.1 e;simp at this;rcases this with e|e<;>rw[e]at W<;>lia
  have M:∀b∈pH z TI TO S,b<s.heap.objs.size\/b=TO:=λb y=>by
   simp at y;rcases y with rfl|rfl|rfl|⟨t,f,rfl⟩
   .exact .inl (TC q)
   .exact .inl (TC g)
   .exact .inr rfl
   .obtain⟨o,e,_⟩:=(p t f).lt
    exact .inl (TC e)
  have up:∀{c:cb},c∉pH z TI TO S->c∉z::TO::S.map ZS.i:=λn x=>n (by
   simp only[pH,TK]at x ⊢;exact x.imp id .inr)
  refine m7 (F:=λt=>(F t)[i]?) N D q (r.imp id λ⟨T,B,a,b,_⟩=>#[T,B,a,b]) g p (λt f=>#[_,sq t f,by simp]) (λh' m e a J hT C=>?_) (by rintro h' ⟨t,f,eo⟩ _;exact absurd eo (no t f))
  have R:=λc o n=>C c o (up n);refine L h' _ #[?_,C _ _ ?_ g,J,λt f=>(sq t f).keep λo e=>R _ o (D.off t f) e] #[_,0,hT,rfl,by rw[pr m e];simp] R
  .rcases r with⟨rfl,rfl,Y,hv,O⟩|⟨T,B,rfl,hT',nd,nf⟩
   .obtain⟨_,I,_⟩|⟨n,_⟩:=a
    case inr=>exact absurd rfl n
    refine#[_,_,I,.inr #[_,_,rfl,hT,V0 dl,λy=>?_]];rcases M _ y with lt|e
    .exact UB _ lt
    .exact UB _ (e▸TC O)
   .obtain⟨n,_⟩|⟨_,I⟩:=a
    .cases n
    .exact#[_,_,I,.inr #[_,_,rfl,R _ _ nf hT',nd,nf]]
  .simp
   exact#[G.symm,TITO,λt f=>(ni t f).2.1]
 done:=by
  intro A s Q E N p L;obtain⟨⟨f0,f1,q,r⟩,g,p,sq⟩:=p;have no:∀m:List ay,m.map ap≠S.map (λt=>(F t)[(xs.zip ys).length]?):=λm e=>by
   have:S.map (λt=>(F t)[(xs.zip ys).length]?)=(S.map F).map (·[(xs.zip ys).length]?):=by rw[Ud];rfl
   rw[this,U]at e;rcases m with _|⟨u,m⟩<;>simp[len]at e
  refine m7 N D q (r.imp id λ⟨T,B,a,b,_⟩=>#[T,B,a,b]) g p (λt f=>#[_,sq t f,by simp]) (λh' m e=>absurd e (no m)) λh' _ C=>L h' λc o n=>C c o λx=>n ?_
  simp only[pH,TK]at x ⊢;exact x.imp id .inr
theorem jz:fillsNumberSlot (.type "tuple") "mul"=pure false:=
 PySem.fillsNumberSlot_seq VQ.lookup (by decide +kernel) rfl (by decide +kernel)
theorem uo:seqRepeat? (.type "tuple")=pure (ap<|.builtin "tuple.__mul__"):=by
 rfl
theorem oR(a:Int)(t:Tok)(l:cb)(items:aa5)(n:Nat)(dd:Option cb)(c:Array (Option ay)):
  aab (Builtin.«int.__rmul__» #[[.int a t,.ref l],[]]) (λ_ R s=>s.heap.get? l=ap { cls:=.type "tuple",dict:=dd,data:=.seq items n,slots:=c }/\R (.ok<|.ret Value.notImplemented) s):=
 .of_wp λprog w A R s h=>by obtain⟨e,h⟩:=h;wp_walk;simp_all
theorem oV(l:cb)(items:aa5)(n:Nat)(dd:Option cb)(B:Array (Option ay))(x:Int)(u:Tok)(U:1<x)(G:x<=1000)(C:items.size<=1000)(q:items.isEmpty=cp):
  aab (Builtin.«tuple.__mul__» #[[.ref l,.int x u],[]]) (λ_ R s=>s.heap.get? l=ap { cls:=.type "tuple",dict:=dd,data:=.seq items n,slots:=B }/\
   R (.ok<|.ret<|.ref s.heap.objs.size) { s with heap:=s.heap.push { cls:=.type "tuple",data:=.seq ((Um x.toNat items).foldl (·++·) (Tw [])) } }):=
 .of_wp λprog w A R s h=>by
  obtain⟨N,g,d,L,O⟩:=s;obtain⟨m,h⟩:=h;have f1:=AutoSeq1.idx_int;have J:=AutoSeq1.sub_tuple_tuple;have v:(decide (x < -(2 ^ 63))||decide (x>=2 ^ 63))=false:=by simp;lia
  have y:(items.isEmpty||x==1)=false:=by rw[q];simp;lia
  have r:(decide (x<=0)||items.isEmpty)=false:=by rw[q];simp;lia
  have M:(items.size:Int)*x<=1000000:=by
   have I:(items.size:Int)*x<=1000*x:=Int.mul_le_mul_of_nonneg_right (by lia) (by lia)
   lia
  have o:¬((items.size:Int)*x>(2 ^ 63-1) / 8):=by lia
  have p:Xf ((items.size:Int)*x)=false:=by
   unfold Xf;have:(1000000:Int)<=(sizeLine:Int):=by decide
   exact decide_eq_false (by lia)
  wp_walk using f' m
  try simp only[v,Ue,if_false]
  wp_walk using f' m
  try simp only[y,Ue,if_false]
  wp_walk using f' m
  try simp only[r,Ue,if_false]
  wp_walk using f' m
  rw[if_neg o];simp only[p,Ue,if_false];unfold Builtin.Tuple.tupleExact;have f:((Um x.toNat items).foldl (·++·) (Tw [])).toList.length<=sizeLine:=by
   have e:∀(k:Nat)(c:aa5),((Um k items).foldl (·++·) c).size=c.size+k*items.size:=by
    intro k
    induction k with
    |zero=>intro c;simp
    |succ k ih=>intro c;rw[Vo,Va,ih,Array.size_append,Nat.succ_mul];lia
   rw[Ve,e];have:x.toNat*items.size<=1000*1000:=Nat.mul_le_mul (by lia) C
   have T:(1000*1000:Nat)<=sizeLine:=by decide
   simp only[TZ,VO]at *;lia
  refine ax (S' (cx #[_,rfl,?_]) f);simpa using h
theorem pf(l:cb)(items:aa5)(n:Nat)(dd:Option cb)(e:Array (Option ay))(u:Tok):
  aab (Builtin.«tuple.__mul__» #[[.ref l,.int 1 u],[]]) (λ_ R s=>s.heap.get? l=ap { cls:=.type "tuple",dict:=dd,data:=.seq items n,slots:=e }/\R (.ok<|.ret<|.ref l) s):=
 .of_wp λprog w A R s h=>by
  obtain⟨c,h⟩:=h
  wp_walk using f' c
  simp_all
theorem nJ(l:cb)(items:aa5)(n:Nat)(dd:Option cb)(f:Array (Option ay))(x:Int)(u:Tok)(p:x<=0)(m:-1000<=x)(g:items.isEmpty=cp):
  aab (Builtin.«tuple.__mul__» #[[.ref l,.int x u],[]]) (λ_ R s=>s.heap.get? l=ap { cls:=.type "tuple",dict:=dd,data:=.seq items n,slots:=f }/\
   R (.ok<|.ret<|.ref s.heap.objs.size) { s with heap:=s.heap.push { cls:=.type "tuple",data:=.seq (Tw []) } }):=
 .of_wp λprog w A R s h=>by
  obtain⟨c,h⟩:=h;have o:(decide (x < -(2 ^ 63))||decide (x>=2 ^ 63))=false:=by simp;lia
  have e:(items.isEmpty||x==1)=false:=by rw[g];simp;lia
  wp_walk using f' c
  try simp_all
  wp_walk using f' c
  try simp only[e,if_false]
  wp_walk using f' c
  simp_all
theorem Dq(N:s.heap.IsTuple l aaT.toArray)(T:aaT≠[])(J:0<=k)(L:k<=1000)(U:aaT.length<=1000)(I:k=1->Q (.ref l) s)(M:k≠1->Q (.ref s.heap.objs.size) { s with heap:=s.heap.push { cls:=.type "tuple",data:=.seq (Um k.toNat aaT).flatten.toArray } }):
  cT (eX prog w) A (kr .Mult (.ref l)<|.int k u) Q E s:=by
 obtain⟨⟨cls,g,data,o⟩,e,G,n,r⟩:=N;subst G r;have q:aaT.toArray.isEmpty=false:=by simp_all
 refine wpAny_binaryOp_repeat_ref (by decide) #[_,e,rfl] (λC=>typeIs_int C k u) jz PySem.F.fills_int_mul Yg uo rfl
  (ra Yg rfl PySem.F.entry_int_rmul (PySem.F.args_int_rmul_2 _ _) (oR k u l _ n g o) #[e,rfl,#[_,e,rfl],?_])
 by_cases f:k=1
 .subst f
  exact ra VQ #[_,e,rfl] WJ (WB _ _) (pf l _ n g o u) #[e,I rfl]
 .have v:=M f
  by_cases p:k<=0
  .refine ra VQ #[_,e,rfl] WJ (WB _ _) (nJ l _ n g o k u p (by lia) q) #[e,?_]
   have O:k.toNat=0:=by lia
   simp_all
  .refine ra VQ #[_,e,rfl] WJ (WB _ _) (oV l _ n g o k u (by lia) L (by assumption) q) #[e,?_]
   have R:∀(m:Nat)(c:List _),List.foldl (λx1 y=>x1++y) c.toArray (Um m aaT.toArray)=(c++(Um m aaT).flatten).toArray:=by
    intro m
    induction m with
    |zero=>simp
    |succ m ih=>
     intro c;have B:c.toArray++aaT.toArray=(c++aaT).toArray:=by simp
     rw[Vo,Va,B,ih,Vo,List.flatten_cons,List.append_assoc]
   simp_all
theorem FL:cW X (kr .Add) (λx y H Q=>∃a b ys,x=.ref a/\y=.ref b/\ke X.K H a []/\ke X.K H b ys/\Q (.ref b) H):=by
 intro aaN s Z H x y v u Q I R T h;obtain⟨a,b,ys,rfl,rfl,M,W,q⟩:=h;cases R;cases T;obtain⟨m,O,N,_⟩:=I.tuple M;obtain⟨g,r2,p2,_⟩:=I.tuple W;obtain rfl:m=[]:=O.zero;obtain⟨⟨Y,U,J,sl⟩,G,L,n,C⟩:=id N;obtain⟨⟨B,r,o,p⟩,e,c,n2,f⟩:=id p2;simp only at L C c f;subst L C c f
 exact aaA #[_,G,rfl] #[_,e,rfl] Z8 aan WT WK (WC _ _)
  (tuple_addW0 a b (Tw []) g.toArray n n2 U r sl p rfl) #[G,e,#[.ref b,H,I,rfl,q]]
theorem HN(e:n.log2<2000)(f:0<n):cW X (kr .FloorDiv) (rI (λ_ j=>j=(n:Int)) λi j=>.int (i / j)):=QD λi j _ _ _ _ _ c q=>by
 subst c;refine floordiv_int (by lia) ?_ (.inl<|PyProof.noPylong_of_log2<|by simpa using Yx e (by decide))
 rw[Int.fdiv_eq_ediv_of_nonneg _ (by lia)]
 exact q
def Hv(K:TH)(b1 b2:Bool)(t:TA):TE:=λZ H Q=>t Z H λc H1=>∃(l1 l2:cb)(ks:List aC)(ys:List V),c=[.ref l1,.ref l2]/\ng K b1 H1 l1 (ks.map kV)/\ng K b2 H1 l2 ys/\ks.length=ys.length/\0<ks.length/\ks.length<=1000/\
 ∀d,H1 d=bb->Q (.ref d) (upd H1 d<|.dK<|(ks.zip ys).foldl (λa p=>fu a p.1 p.2) [])
theorem yA{k:aC}:(ZZ xs k u).length<=xs.length+1:=by
 unfold ZZ
 split
 .rw[Tz];lia
 simp
theorem jQ:∀(rs xs:List (aC×ay)),(rs.foldl (λa r=>ZZ a r.1 r.2) xs).length<=xs.length+rs.length
 |[],xs=>by simp
 |r::rs,xs=>by
  have:=jQ rs (ZZ xs r.1 r.2);have:=yA (xs:=xs) (k:=r.1) (u:=r.2);rw[Va,Ug];lia
theorem CQ:∀{aaP:List (aC×V)}{rs:List (aC×ay)},KV aaP rs->∀{a:List (aC×V)}{xs:List (aC×ay)},KV a xs->KV (aaP.foldl (λa p=>fu a p.1 p.2) a) (rs.foldl (λa r=>ZZ a r.1 r.2) xs)
 |_,_,.nil,a,xs,h=>h
 |_,_,.cons h t,a,xs,h0=>by
  rw[Va,Va];refine CQ t ?_;rw[<- h.1];exact h0.put _ h.2
theorem o_{rs:List (aC×ay×ay)}{fq:aaZ}(hc:X.calm=true)(I:Inv X aaN Z H g)(o1:s.os=g.os)(o2:s.gens=g.gens)(o3:s.drawn=g.drawn)(k0:∀c o,g.heap.get? c=ap o->s.heap.get? c=ap o)(sz:g.heap.objs.size<=s.heap.objs.size)(B:∀b∈fq,g.heap.objs.size<=b/\b<s.heap.objs.size)(kv:KV aaP (rs.map λr=>(r.1,r.2.2)))(u:∀r∈rs,(aU X.prog X.w).is r.1 r.2.1=true)(hz:rs.length<=1000000)(hT:∃o,s.heap.get? l=ap o/\o.cls=.type T)(ht:(Wn T != Wn "dict")=true)(keys:∀(A':h7)(f:ca)(Q:Option ay->ca->Prop)(E:aa2),A'.handled=bb->(∀b o,s.heap.get? b=ap o->f.heap.get? b=ap o)->(∀h' tk,(∀b o,f.heap.get? b=ap o->h'.get? b=ap o)->Q bb { f with heap:=h',toks:=tk })->cT (eX X.prog X.w) A' (Z2 (.ref l) "keys") Q E f)(iter:∀(A':h7)(f:ca)(Q:aa2)(E:aa2),(∀b o,s.heap.get? b=ap o->f.heap.get? b=ap o)->s.heap.objs.size<f.heap.objs.size->
   (∀h' it fp St,(∀b o,f.heap.get? b=ap o->h'.get? b=ap o)->PSrc X.prog X.w s.heap.objs.size it (rs.map λr=>(r.2.1,r.2.2)) fp St->St 0 h'->(∀b∈fp,b∈fq\/s.heap.objs.size<b)->Q (.ref it) { f with heap:=h' })->cT (eX X.prog X.w) A' (W_<|.ref l) Q E f)(q:∀p,H p=bb->Q (.ref p) (upd H p<|.dK<|aaP.foldl (λa p=>fu a p.1 p.2) [])):
  cT (eX X.prog X.w) X.A (call (.type "dict") [.ref l]) (EP X aaN Z Q) X.xe s:=by
 refine yk (I.ok.hd hc) (λi h=>h.DictOf (aU X.prog X.w) _ (((rs.take i).map λr=>(r.1,r.2.2)).foldl (λa r=>ZZ a r.1 r.2) [])) hT ht keys iter (by rintro i h ⟨o,J,C,e,_⟩;exact#[o,e]) ?_ ?_ ?_ ?_
 .intro h' O hd
  obtain⟨o,J,C,G,r⟩:=Heap.DictOf.new (knd:=aU X.prog X.w) s.heap;rw[TF _ rfl]at G;cases G;exact#[_,J,C,hd,r]
 .rintro i h h' ⟨o,J,C,G,r⟩ L
  exact#[o,J,C,L _ o (λz=>UB _ (B _ z).2) (TL _) G,r]
 .rintro i hi f Q' E' hd Y
  have y:i<rs.length:=by simpa using hi
  simp;have m:(((rs.take i).map λr=>(r.1,r.2.2)).foldl (λa r=>ZZ a r.1 r.2) []).length<=sizeLine:=by
   have:=jQ ((rs.take i).map λr=>(r.1,r.2.2)) [];have h2:(1000000:Nat)<=sizeLine:=by decide
   simp only[VO,Tz,WX]at this;lia
  refine wpAny_dictSet_pairs (u rs[i] (V3 y)) hd (λh' M sb=>Y h' _ ?_ sb) m;rw[List.take_succ_eq_append_getElem y,Wh,List.foldl_append];exact M
 .rintro f W p2 p3 hd O
  simp at hd;have R:=I.big;have hn:=I.hok.fresh sz;obtain⟨hh',U,d',t',N⟩:=f;obtain rfl:N=g.os:=W.trans o1;obtain rfl:U=g.gens:=p2.trans o2;obtain rfl:d'=g.drawn:=p3.trans o3;refine#[.ref _,_,I.laid (t':=t') (λc o e=>O c o (λz=>W4.2 (B c z).1 (TC e)) (k0 c o e)) sz ?_,rfl,q _ hn];have v:=CQ kv (a:=[]) (xs:=[]) .nil;refine tL ?_ (by lia) v hd
  rw[Vk v];have:=jQ (rs.map λr=>(r.1,r.2.2)) [];have h2:(1000000:Nat)<=sizeLine:=by decide
  simp at this;lia
theorem Et:∀{ks:List aC}{aaT:aaY}{ys:List V}{us:aaY},Vals (ks.map kV) aaT->Vals ys us->ks.length=ys.length->
  KV (ks.zip ys) ((ks.zip<|aaT.zip us).map λr=>(r.1,r.2.2))/\(∀r∈ks.zip (aaT.zip us),(aU P w).is r.1 r.2.1=true)/\(ks.zip<|aaT.zip us).map (λr=>(r.2.1,r.2.2))=aaT.zip us
 |[],_,_,_,.nil,.nil,_=>#[.nil,by simp_all,rfl]
 |[],_,_::_,_,_,_,h=>by simp at h
 |_::_,_,[],_,_,_,h=>by simp at h
 |k::ks,_,y::ys,_,.cons r t,.cons r' t',h=>by
  obtain⟨a,b,c⟩:=Et t t' (by simpa using h)
  exact#[.cons #[rfl,r'] a,λq f=>(TK.1 f).elim (λe=>by subst e;exact ju r) (b q),by simpa using c]
theorem wV{a b:fy}(b1 b2:Bool)(hc:X.calm=true)(hg:Gl X "zip")(hm:X.mg "zip"=bb)(hg2:Gl X "dict")(hm2:X.mg "dict"=bb)(ha:PA X [a,b] ta)(hs:eH [a,b] X.env=[(cp,g3 a X.env),(cp,g3 b X.env)]:=by rfl)(hs2:eH [b] X.env=[(cp,g3 b X.env)]:=by rfl)(hs3:eH [Yn (.Name "zip" p2) [a,b] [] c] X.env=[(cp,g3 (.Call (.Name "zip" p2) [a,b] [] c) X.env)]:=by rfl):
  PE X (.Call (.Name "dict" p) [.Call (.Name "zip" p2) [a,b] [] c] [] pos) (Hv X.K b1 b2 ta):=by
 intro aaN s Z H Q I h;refine Call_ (df I hg2 hm2 (by decide +kernel:fv "dict"=ap (.type "dict"))<|UA ?_ hs3 rfl)
 rw[hs3];show cT _ _ (spliced ((cp,_)::j0 pos [])) _ _ s;refine Vp ?_;refine Call_ (df I hg hm (by decide +kernel:fv "zip"=ap (.type "zip"))<|UA (bz (ha c aaN s Z H _ I h) λus M zz=>?_) (by rw[hs,hs2])<|by rw[hs2];rfl)
 obtain⟨vs,H1,I1,r1,q1⟩:=zz;obtain⟨l1,l2,ks,ys,e,q1,q2,hl,h0,hz,q⟩:=q1;subst e;obtain⟨u1,u2,rfl,ru1,ru2⟩:=r1.two;cases ru1;cases ru2;obtain⟨r,R,B,z1⟩:=I1.src q1;obtain⟨y,N,C,z2⟩:=I1.src q2;refine p_ (args:=[(b1,l1),(b2,l2)]) (.inl rfl) (λp hp=>?_) λh' z TI TO S eS D g O W st Y U=>?_
 .simp only[TK,WW,or_false]at hp
  rcases hp with rfl|rfl
  .exact#[_,B]
  .exact#[_,C]
 refine VS ?_;have e1:=R.length;have e2:=N.length;rw[Tz]at e1;obtain⟨kv,J,eps⟩:=Et (P:=X.prog) (w:=X.w) R N hl;have zt:ZTn z TI TO S 0 h':=#[g,O,#[_,by rw[Tz],W],st]
 have G:∀b∈pH z TI TO S,b<h'.objs.size:=λb Y=>let ⟨o,e,_⟩:=zt.obj b Y;TC e;have ll:∀t∈S,∃u,SrcSq t.b M.heap t.l u/\t.l<h'.objs.size:=λt ht=>by
  have:(t.b,t.l)∈[(b1,l1),(b2,l2)]:=eS▸Uq (f:=λt:ZS=>(t.b,t.l)) ht;have h:∃u,SrcSq t.b M.heap t.l u:=by
   simp only[TK,WW,or_false,Prod.mk.injEq]at this;rcases this with⟨e,e'⟩|⟨e,e'⟩<;>rw[e,e']
   .exact#[_,B]
   .exact#[_,C]
  obtain⟨u,q⟩:=h;refine#[u,q,?_];obtain⟨b,i,l⟩:=t;cases b with
  |true=>obtain⟨o,e,_⟩:=(show M.heap.IsList l u from q);exact TC (U _ _ e)
  |false=>obtain⟨o,e,_⟩:=(show M.heap.IsTuple l u from q);exact TC (U _ _ e)
 refine o_ (s:={ M with heap:=h' }) (T:="zip") (rs:=ks.zip (r.zip y)) (aaP:=ks.zip ys) (fq:=pH z TI TO S) hc I1 rfl rfl rfl U ?_ (λb h=>#[Y b h,G b h]) kv J (by simp only[XJ];lia) #[_,g,rfl] (by decide) (λA' s' Q' E' hh m k=>pz (m _ _ g) hh k) (λA' s' Q' E' m lt k=>Z5 (m _ _ g) ?_) q
 .rcases Vt h'.objs.size M.heap.objs.size with lt|ge
  .have:=Y z (by simp);exact absurd (G z<|by simp) (W4.2<|TR (V1 lt) this)
  .exact ge
 .obtain⟨t,u,rfl⟩:=Qx (by have:=congrArg Vr eS;simpa using this)
  simp only[TB,Ut,UY,Prod.mk.injEq,and_true]at eS;obtain⟨⟨eb,el⟩,eb',el'⟩:=eS;have ne:u.i≠t.i:=yN D (i:=1) (j:=0) rfl rfl (by decide)
  rw[eps]at k;refine k s'.heap z _ (ZPr z TI TO h'.objs.size [t,u] λv=>if v.i=t.i then r else y) (λ_ _ e=>e) (Kk D (by simp[ne]) (λh=>UB _ (G _ h)) (λv L=>let ⟨_,_,h⟩:=ll v L;TX h)<|by lia) ?_ λb h=>.inl h
  refine#[#[_,_,m _ _ g,.inl #[rfl,rfl,_,by rw[Tz],m _ _ W]],m _ _ O,λv L=>(st v L).keep λo e=>m _ o e,λv L=>?_]
  simp only[TK,WW,or_false]at L;rcases L with rfl|rfl
  .rw[if_pos rfl,eb,el]
   exact B.keep λo e=>m _ o (U _ o e)
  .rw[if_neg ne,eb',el']
   exact C.keep λo e=>m _ o (U _ o e)
end _2
namespace _2
open PySem PySem.Spec PyProof.Rows
variable{h:g4}{s:ca}{w:hG}
theorem nP(f:Nat->g->Sem (ForInStep g))(I:Nat->g->ca->Prop)(Q:g->ca->Prop)(a:∀i b s,i<n->I i b s->cT M A (f i b) (λr s'=>match r with|.yield b'=>I (i+1) b' s'|.done b'=>Q b' s') E s)(fin:∀b s,I n b s->Q b s)(b:g)(h:I 0 b s):cT M A (forIn [0:n] b f) Q E s:=by
 rw[Std.Legacy.Range.forIn_eq_forIn_range'];have o:[0:n].size=n:=by simp
 rw[o];refine wpAny_forIn_list f (λl c s=>∃i,i<=n/\l=VR i (n-i) 1/\I i c s) Q ?_ ?_ _ b #[0,by lia,rfl,h]
 .rintro x u c s ⟨i,v,m,p⟩
  have j:i<n:=by
   rcases Vt i n with h'|h'
   .exact h'
   simp_all
  obtain⟨k,q⟩:∃k,n-i=k+1:=#[n-i-1,by lia]
  rw[q]at m;obtain⟨rfl,rfl⟩:=List.cons.inj m;refine k6 (a x c s j p) (λr s' h'=>?_) λ_ _ e=>e;cases r with
  |done c'=>exact h'
  |yield c'=>exact#[_,by lia,by congr 1;lia,h']
 rintro c s ⟨i,v,m,p⟩
 have:i=n:=by
  rcases Vt i n with h'|h'
  .obtain⟨k,q⟩:∃k,n-i=k+1:=#[n-i-1,by lia]
   simp_all
  lia
 simp_all
theorem k9(l:cb)(a:aa5)(n:Nat)(dd:Option cb)(I:Array (Option ay))(x:ay)(e:ay->Bool)(G:∀y,y∈a->MeetsSeq.EqGives y x (e y))(j:Nat)(M:j<a.size)(u:e a[j]=true)(r:∀m (hm:m<a.size),m<j->e a[m]=cp):
  aab (Builtin.«tuple.index» #[[.ref l,x],[]]) (λ_ R s=>s.heap.get? l=ap { cls:=.type "tuple",dict:=dd,data:=.seq a n,slots:=I }/\R (.ok<|.ret<|.int j s.toks) { s with toks:=s.toks+1 }):=
 .of_wp λf w A R s h=>by
  obtain⟨B,g,d,v,E⟩:=s;obtain⟨F,h⟩:=h
  wp_walk using AutoSeq1.wpAny_loadPart' F
  refine nP (n:=min a.size a.size) _ (λi (b:Option _×_) q=>b.1=bb/\i<=j/\q=#[B,g,d,v,E]) _ ?turn ?fin _ ?strt
  case turn=>
   rintro i b q K ⟨C,o,rfl⟩
   have c:i<a.size:=by lia
   have p:a[i]?=ap a[i]:=by simp[c]
   simp only[p];refine ax (G _ (Array.getElem_mem c) f w _ _ _ _ ?_)
   by_cases z:i=j
   .subst z
    rw[u]
    wp_walk
    exact#[_,rfl,h]
   .rw[r i c (by lia)]
    wp_walk
    exact#[rfl,by lia,rfl]
  case fin=>
   rintro⟨J,L⟩ q ⟨C,o,rfl⟩
   lia
  case strt=>
   exact#[rfl,U2 _,rfl]
theorem Inv.tupD(I:Inv X b Z H s)(h:H a=ap (.tup xs)):
  ∃(aaT:aaY)(n:Nat)(sl:Array (Option ay)),Vals xs aaT/\s.heap.get? a=ap { cls:=.type "tuple",dict:=bb,data:=.seq aaT.toArray n,slots:=sl }:=by
 obtain⟨z,aaT,r,⟨cls,g,data,slots⟩,e,⟨c,n,d⟩,f⟩:=I.hok a _ h;simp only at c d f;subst c d f;exact#[aaT,n,slots,r,e]
theorem hW:∀{names:aaX}{us:aaY},Vals (names.map V.str) us->∀(j:Nat)(h:j<us.length),∃(y:Str)(t:Tok),names[j]?=ap y/\us[j]=.str y t
 |[],us,r,j,h=>by cases r;trivial
 |x::names,us,r,j,h=>by
  cases r with
  |cons r1 r2=>
   cases j with
   |zero=>obtain⟨t,rfl⟩:=r1;simp_all
   |succ j=>obtain⟨y,t,a,b⟩:=hW r2 j (by simpa using h);simp_all
def Tc:V->List V->Hp->VK->Prop:=λx b H Q=>∃(a:cb)(names:aaX)(z:Str)(j:Nat),x=.ref a/\b=[.str z]/\H a=ap (.tup<|names.map V.str)/\names.length<=1000/\names[j]?=ap z/\(∀m,m<j->names[m]?≠ap z)/\Q (.int (j:Int)) H
theorem D4:xz X "tuple.index" Tc:=by
 intro E s Z H x T v U Q I M G h;obtain⟨a,b,z,j,rfl,rfl,J,S,o,B,q⟩:=h;cases M;obtain⟨u,rfl,K⟩:=G.one;obtain⟨t,rfl⟩:=K;obtain⟨c,n,R,r,e⟩:=I.tupD J;have L:=r.length;rw[Tz]at L;have O:j<b.length:=by
  rcases Vt j b.length with z'|z'
  .exact z'
  .rw[UT z']at o;cases o
 have p:j<c.toArray.size:=by rw[TZ];lia
 refine ra VG #[_,e,rfl] XI (XF _ _)
  (k9 a c.toArray n bb R (.str z t) (λv=>match v with|.str y _=>y==z|_=>cp) (λy N=>?_) j p ?_ λm l A=>?_) #[e,?_]
 .obtain⟨m,l,rfl⟩:=Wl (by simpa using N:y∈c)
  obtain⟨i,C,f,g⟩:=hW r m l;rw[g];exact eqGives_str i z C t
 .obtain⟨i,C,f,g⟩:=hW r j (by lia)
  rw[o]at f;cases f;simp[g]
 .obtain⟨i,C,f,g⟩:=hW r m (by rw[TZ]at l;exact l)
  have F:=B m A;rw[f]at F;have ne:¬i=z:=λe=>F (by rw[e])
  simp[g,ne]
 .exact#[.int (j:Int),H,I.tok _,#[_,rfl],q]
def tTM(r:V->List V->Hp->VK->Prop)(to:TE)(t:TA):TE:=λZ H Q=>to Z H λx H1=>(∃a b,x=.ref a/\H1 a=ap (.tup b))/\t Z H1 λb H2=>r x b H2 Q
theorem SB{id:String}(c:Slot "tuple" name id)(f:ZY (.builtin id)=pure (.type "method_descriptor"))(J:xz X id r)(K:PE X o to)(G:PA X (e::es) t)(b:k' o name X.env (g3 o X.env)=g3 o X.env:=by rfl)(hfew:((j0 aaR<|starEach (e::es) X.env).all (λx=>!x.1)&&(y' aaR<|keywordEach [] X.env).all (λx=>x.1.isSome)
   && decide ((e::es).length+([]:List wh).length+(if ([]:List wh).isEmpty then 0 else 1)<30))=true:=by rfl)(hline:(aaS.endLine==aaR.line)=true:=by rfl)(hs:eH (e::es) X.env=(cp,g3 e X.env)::eH es X.env:=by rfl)(hplain:(j0 aaR<|starEach es X.env).any (·.1)=false:=by rfl):
  PE X (.Call (.Attribute o name aaS) (e::es) [] aaR) (tTM r to t):=by
 intro g s Z H Q I h;refine aav b hfew hline rfl (bz (K _ s Z H _ I h) λv B q=>?_);obtain⟨x,H1,I1,A,⟨a,M,C,m⟩,j⟩:=q;subst C;cases A;obtain⟨l,n,N,L,u⟩:=I1.tupD m;refine#[_,id,PySem.F.plainAttrs_tuple,c,f,#[_,u,rfl],by simp_all,?_]
 have i:=G aaR _ B Z H1 _ I1 j;rw[hs]at i ⊢;exact Vq (by assumption) (VA<|bz i<|by rintro y s2 ⟨p,H2,I2,z,E⟩;exact J _ s2 Z H2 (.ref a) p _ y Q I2 rfl z E)
theorem gG{h:g4}:∀{l:List Env},h.FunFrames a l->(∀b∈iI l,b∈S)->h.FunFrames (XO h S) l
 |[],_,_=>trivial
 |env::r,hl,hs=>by
  obtain⟨e,⟨L,o,c,n,i,j⟩,f⟩:=hl;have g:L∈S:=hs L (by unfold iI;rw[VL,c];exact Uu)
  exact#[e,#[L,o,c,W.hideAll_none S g,i,j],gG f λb m=>hs b (by unfold iI;rw[VL,c];exact TV _ m)]
def Ek(P:fx)(w:hG)(C:cb):pv:=λa H s E e c=>∃(ea:cb)(H':Hp)(B:g4)(a0:ay),e=.ref ea/\c.os=s.os/\WF c.gens/\Un (iI a) [] H H' s.heap c.heap/\HOk P w H' c.heap/\
 Heap.FlyingW B a ea (.ref C) a0 c.heap/\(∀b u,H' b=ap u->∃o,B.get? b=ap o)/\(∀b o,s.heap.get? b=ap o->b∉iI a->∃o',B.get? b=ap o')/\E (.ref C) bb H'
theorem rP{B:g4}(c:HOk P w H h)(k:B.StaysIn h)(j:B.StaysIn h')(g:∀b u,H b=ap u->∃o,B.get? b=ap o):HOk P w H h':=λa o e=>
 (c a o e).stay (λb u i q=>by
  obtain⟨v,f⟩:∃v,B.get? b=ap v:=by
   rcases i with rfl|z
   .exact g _ _ e
   .exact g _ _ z
  have:=k b v f;rw[q]at this;cases this;exact j b _ f) (λ_ q=>q) λ_ _ q=>q
theorem xB{B:g4}(un:Un fs [] H H' h l)(k1:B.StaysIn l)(k2:B.StaysIn m)(u:l.UpToSlots m)(r:∀b o,h.get? b=ap o->b∉fs->∃e,B.get? b=ap e)(p:∀b∈fs,∀o,h.get? b=ap o->∀vs,o.data≠.fields vs)(x:∀b∈fs,H b=bb):Un fs [] H H' h m where
 keep:=λb o q n a g=>by
  have f:=un.keep b o q n a g;obtain⟨e,c⟩:=r b o q a;have:=k1 b e c;rw[f]at this;cases this;exact k2 b _ c
 slot:=λb o q n a g=>by
  obtain⟨v,f⟩:=un.slot b o q n a g;obtain⟨i,j⟩:=u b _ f (p b a o q);exact#[_,j]
 free:=un.free
 there:=λb o q g=>by
  by_cases a:b∈fs
  .obtain⟨v,f⟩:=un.slot b o q (x b a) a g
   obtain⟨i,j⟩:=u b _ f (p b a o q);exact#[_,j]
  obtain⟨e,c⟩:=r b o q a;exact#[e,k2 b e c]
 tups:=un.tups
 frzs:=un.frzs
 tbls:=un.tbls
section
variable{K:TH}
theorem uH(h:env.frame=ap L):iI (env::l)=L::iI l:=by unfold iI;simp_all
theorem Si:bV (Ek P w C) (eY (Ek P w C) P w K mg base N aaO scope f cd A outer s0 H0 E) E:=by
 intro T Z H s e s' I a;obtain⟨M,H',B,a0,rfl,L,c,un,O,l,S,Q,hE⟩:=a;have J:(eY (Ek P w C) P w K mg base N aaO scope f cd A outer s0 H0 E).stack=envOfC aaO scope s0.heap.objs.size f cd::outer:=rfl;have x:(envOfC aaO scope s0.heap.objs.size f cd).frame=ap s0.heap.objs.size:=rfl;have v:iI (envOfC aaO scope s0.heap.objs.size f cd::outer)=s0.heap.objs.size::iI outer:=uH x;rw[J]at un l Q;show cT (eX P w) (A.deeper<|envOfC aaO scope s0.heap.objs.size f cd) (leaving (envOfC aaO scope s0.heap.objs.size f cd)<|.ref M) (λ_ m=>Ek P w C outer H0 s0 E (.ref M) m) (λe' m=>Ek P w C outer H0 s0 E e' m) s';refine wpAny_leaves_onW I.ok.frames x l λh' j F=>?_;have i:Un (iI outer) [] H0 H s0.heap s.heap:=I.base;have nofr:∀{b:cb}{o:Obj},s0.heap.get? b=ap o->b∉iI outer->b∉iI (envOfC aaO scope s0.heap.objs.size f cd::outer):=λ{b o} q c z=>by
  rw[v]at z;rcases TK.mp z with e|z
  .exact UB _ (e▸TC q)
  .exact c z
 have g:Un (iI (envOfC aaO scope s0.heap.objs.size f cd::outer)) [] H H' s.heap h':=by
  refine xB un l.1 j.1 F Q (λb c o q vs=>?_) λb c=>?_
  .obtain⟨_,o',r,X⟩:=I.stack.mem (show b∈_ from c)
   rw[q]at r;cases r;exact X vs
  .exact I.stkFree b c
 refine#[M,H',B,a0,rfl,L.trans I.os,c,?_,rP O l.1 j.1 S,j,S,λb o q c=>?_,hE]
 .refine#[λb o q n c a=>?_,λb o q n c a=>?_,λb o q n a=>?_,λb o q a=>?_,λb R q=>g.tups b R (i.tups b R q),λb o u q=>g.frzs b o u (i.frzs b o u q),λb W q=>?_]
  .exact g.keep b o (i.keep b o q n c a) (i.free b o q n a) (nofr q c) a
  .obtain⟨sl,p⟩:=i.slot b o q n c a
   obtain⟨G,Y⟩:=g.slot b _ p (i.free b o q n a) (by rw[v];exact TV _ c) a
   exact#[G,Y]
  .obtain⟨y,p⟩:=i.there b o q a
   exact g.free b y p (i.free b o q n a) a
  .obtain⟨y,p⟩:=i.there b o q a
   exact g.there b y p a
  .obtain⟨m1,e1⟩:=i.tbls b W q
   obtain⟨U,e2⟩:=g.tbls b _ e1;exact#[m1++U,by rw[e2,YT]]
 .obtain⟨y,p⟩:=i.there b o q (by simp)
  exact Q b y p (nofr q c)
structure ExcAt(K:TH)(C:cb):Prop where
 at_:∃(nm q:Str)(Nn:cb)(bs bm bmB:aaY)(hdct:Bool)(sn:aaX)(sub:aaY)(ab:Bool)(col:Option Bool)(dd:Option cb)(k0 k1 k2 k3 k5:Option ay)(newId initId Bs:String)(mN:aa4),
  (∀h:g4,K.In h->h.get? C=ap (excClassObj nm q C Nn bs bm hdct sn sub ab col dd k0 k1 k2 k3 k5 newId)/\h.Ns Nn mN/\OwnTail h bmB bm)/\mN "__init__"=bb/\ExcBaseFacts Bs newId initId bmB/\bmB.contains (.type Bs)=true/\bm.contains (.type "BaseException")=true
theorem ObjOk.obj(x:ObjOk P w H h a o):∃v,h.get? a=ap v:=by
 cases o with
 |lst xs=>obtain⟨_,_,_,_,e⟩:=x;exact#[_,e]
 |tup xs=>obtain⟨_,_,_,_,e,_⟩:=x;exact#[_,e]
 |set S n=>obtain⟨o,_,_,_,e,_⟩:=x;exact#[_,e]
 |ins C dx fs=>obtain⟨_,_,_,e,_⟩:=x;exact#[_,e]
 |own y=>assumption
 |xd fs=>obtain⟨_,⟨_,_,_,e,_⟩,_⟩:=x;exact#[_,e]
 |rng lo hi=>obtain⟨_,_,_,e⟩:=x;exact#[_,e]
 |frz ob u=>obtain⟨e,_⟩:=x;exact#[_,e]
 |tbl ps=>exact#[_,x]
 |met f y=>exact#[_,x]
 |ext φ=>obtain⟨_,⟨_,e⟩,_⟩:=x;exact#[_,e]
 |_=>obtain⟨_,_,_,_,o,_,_,e,_⟩:=x;exact#[_,e]
theorem JJ(g:Un fs [] H0 H l h)(a:Un (L::fs) [] H H' h h')(G:l.objs.size<=L):Un fs [] H0 H' l h':=by
 have nofr:∀{b:cb}{o:Obj},l.get? b=ap o->b∉fs->b∉L::fs:=λ{b o} q i z=>by
  rcases TK.mp z with e|z
  .exact UB _ (Uc (e▸TC q) G)
  exact i z
 refine#[λb o q n i c=>a.keep b o (g.keep b o q n i c) (g.free b o q n c) (nofr q i) c,λb o q n i c=>?_,λb o q n c=>?_,λb o q c=>?_,λb p q=>a.tups b p (g.tups b p q),λb o u q=>a.frzs b o u (g.frzs b o u q),λb x q=>?_]
 .obtain⟨J,j⟩:=g.slot b o q n i c
  obtain⟨y,F⟩:=a.slot b _ j (g.free b o q n c) (TV _ i) c;exact#[_,F]
 .obtain⟨m,j⟩:=g.there b o q c
  exact a.free b m j (g.free b o q n c) c
 .obtain⟨m,j⟩:=g.there b o q c
  exact a.there b m j c
 obtain⟨B,v⟩:=g.tbls b x q;obtain⟨r,I⟩:=a.tbls b _ v;exact#[B++r,by simp_all]
def Oy(E:XK)(C:cb):TS:=λ_ _ H=>E (.ref C) bb H
theorem Fj{jj}(X:ExcAt K C)(hm:mg x=ap (.ref C))(hg:Gl (eY (Ek P w C) P w K mg base N aaO scope f cd A outer s0 H0 E) x)(hd:(x==("__debug__":Str))=false:=by decide)(hs:eH [.Constant (.str l) jj aaS] (eY (Ek P w C) P w K mg base N aaO scope f cd A outer s0 H0 E).env=[(cp,g3 (.Constant (.str l) jj aaS) (eY (Ek P w C) P w K mg base N aaO scope f cd A outer s0 H0 E).env)]:=by rfl):
  PS (eY (Ek P w C) P w K mg base N aaO scope f cd A outer s0 H0 E) (.Raise (ap<|.Call (.Name x np) [.Constant (.str l) jj aaS] [] aaR) bb pos) (Oy E C):=by
 intro p s Z H D I h;obtain⟨nm,q,Nn,bs,bm,bmB,hdct,sn,sub,ab,col,dd,k0,k1,k2,k3,k5,Q,L,Bs,mN,hX,O,FB,R,j⟩:=X.at_
 refine wpAny_Raise_call_subU (C:=C) (nm:=nm) (q:=q) (N:=Nn) (bs:=bs) (bm:=bm) (hdct:=hdct) (sn:=sn) (sub:=sub) (ab:=ab) (col:=col) (dd:=dd) (k0:=k0) (k1:=k1) (k2:=k2) (k3:=k3) (k5:=k5) FB R FB (mN:=mN) j (I.ok.hd rfl) (by rw[hs];rfl) O
  (jk I hg hm #[rfl,?_] hd)
 have hA:=(yW Fm Hb hs) aaR p s Z H (λxs H1=>xs.length=1/\E (.ref C) bb H1) I #[rfl,h];rw[hs]at hA ⊢;refine VA (k6 hA (λvs a m=>?_) λ_ _ y=>y);obtain⟨vv,H1,I1,r,F,hE⟩:=m;obtain⟨hC,hN,T⟩:=hX a.heap I1.kIn;refine#[rfl,?_,hC,hN,T,λh' e hx=>?_]
 .rw[<- r.length,F]
  decide
 have G:(envOfC aaO scope s0.heap.objs.size f cd).frame=ap s0.heap.objs.size:=rfl;have B:iI _=s0.heap.objs.size::iI outer:=uH G;have Y:(XO a.heap<|iI (envOfC aaO scope s0.heap.objs.size f cd::outer)).StaysIn a.heap:=λb o e=>W.of_hideAll _ e;refine wpAny_leaves_madeW I1.ok.frames G Y (gG I1.stack λb c=>c) hx λU t g _ _ M=>?_;have S:=(Heap.UpToSlots.of_keeps hx.keeps).trans M;have i:∀{b:cb}{o:Obj},a.heap.get? b=ap o->b∉iI (envOfC aaO scope s0.heap.objs.size f cd::outer)->(XO a.heap _).get? b=ap o:=λe n=>W.hideAll_get _ e n;have sT:∀b u,H1 b=ap u->∃o,(XO a.heap _).get? b=ap o:=λb u e=>by
  obtain⟨v,hv⟩:=ObjOk.obj (I1.hok b u e);exact#[v,i hv λz=>by rw[I1.stkFree b z]at e;cases e]
 have J:Un (iI (envOfC aaO scope s0.heap.objs.size f cd::outer)) [] H1 H1 a.heap U:=by
  refine xB Un.refl Y g.1 S (λb o q c=>#[o,i q c]) (λb c o q vs=>?_) λb c=>I1.stkFree b c;obtain⟨_,o',ho',hd'⟩:=I1.stack.mem (show b∈_ from c)
  simp_all
 rw[B]at J;refine#[e,H1,_,.ref t,rfl,I1.os,I1.bare,JJ I1.base J (TL _),rP I1.hok Y g.1 sT,g,sT,λb o q c=>?_,hE];obtain⟨o1,q1⟩:=I1.base.there b o q (λz=>absurd (show b∈([]:aaZ) from z) (by simp))
 refine#[o1,i q1 λz=>?_];rw[B]at z;rcases TK.mp z with e'|z
 .exact UB _ (e'▸TC q)
 .exact c z
end
noncomputable abbrev Cx.marked(X:Cx)(e:ay):Cx:={ X with A:=X.A.mark (ap e),calm:=cp,xe:=λ_ _=>False }
section
variable{X:Cx}
theorem Cx.Ok.mark(ok:X.Ok)(e:ay):(X.marked e).Ok:=
 #[ok.mod,ok.kind,ok.glob,ok.blt,ok.above,ok.inj,ok.has,ok.cab,by lia,ok.frames,ok.stk,ok.exf,ok.bs,ok.bsz,ok.noex,ok.exfs,ok.funs,ok.frf]
theorem Inv.mark(I:Inv X aaN Z H s)(e:ay):Inv (X.marked e) aaN Z H s:=#[I.ok.mark e,I.os,I.bare,I.base,I.loc,I.cell,I.free,I.freeC,I.pin,I.hok,I.len]
theorem Inv.unmark(ok:X.Ok)(I:Inv (X.marked e) aaN Z H s):Inv X aaN Z H s:=#[ok,I.os,I.bare,I.base,I.loc,I.cell,I.free,I.freeC,I.pin,I.hok,I.len]
theorem SP.unmark(ok:X.Ok)(h:SP (X.marked e) aaN D f b):SP X aaN D f b:=by
 cases f with
 |ret u=>obtain⟨v,a,H',I,r,q⟩:=h;exact#[v,_,H',I.unmark ok,r,q]
 |_=>obtain⟨a,H',I,q⟩:=h;exact#[_,H',I.unmark ok,q]
def Ho(C:cb)(sp:Sp)(dvs:List V)(ta:TA)(ts:TS):TS:=λD Z H=>ta Z H λa H1=>sp (a++dvs) H1 (λ_ H2=>D.nx Z H2) (λ_ _ H2=>ts D Z H2)
theorem xT(M:X.stack=X.env::X.outer)(hfL:X.env.frame=ap X.env.locals)(F:FnOk X.prog X.w X.K X.mg X.base (Ek X.prog X.w C) k f fd ps sp)(hr:Room k X.A)(hg:Gl X x)(hm:X.mg x=ap (.ref f))(hk:U8 X.K (.ref f)=true)(hb:Binds X.K fd ps ds)(hd:Vals dvs ds)(ha:PA X.nox (e::es) ta)(EX:ExcAt X.K C)(hgC:Gl X T)(hmC:X.mg T=ap (.ref C))(hsu:∀J:cb,B5 (X.marked<|.ref J) (j::g) ts)(hdb:(x==("__debug__":Str))=false:=by decide)(hdC:(T==("__debug__":Str))=false:=by decide)(he:eH (e::es) X.env=(cp,g3 e X.env)::eH es X.env:=by rfl)(hpl:(j0 S<|starEach es X.env).any (·.1)=false:=by rfl)(hsw:vr (.Call (.Name x p) (e::es) [] S) bb ep.line X.env=pure false:=by rfl):
  PS X (.Try [.Expr (.Call (.Name x p) (e::es) [] S) ep] [.ExceptHandler (ap<|.Name T np) bb (j::g) L] [] [] pos) (Ho C sp dvs ta ts):=by
 intro aaN s Z H D I h;refine wpAny_Try_except (Z6<|wpAny_Expr_any ?_ I.quiet hsw);refine pa (jk I hg hm ?_ hdb);refine XC (h₀:=X.base) I.ok.mod.kin hk (k6 (ha S aaN s Z H _ (I.wish _) h) (λR Y zz=>?_) λ_ _ z=>Vn z) he hpl;obtain⟨Q,H1,I1',r,q⟩:=zz;have I1:=I1'.unwish;refine#[I1.kIn,?_];have r2:=r.append hd;have hl:(R++ds).length=ps.length:=by rw[<- r2.length];exact F.len _ _ _ _ q
 refine aaf (TD (F.run X.A X.stack Y H1 #[R,[]] (R++ds) (Q++dvs) _ _ hr I1.env0 (hb Y R I1.kIn hl) r2 q) λrr s' hq=>?_);cases rr with
 |ok fl=>
  cases fl with
  |ret u=>
   obtain⟨x',H2,I2,_,q2⟩:=I1.after hq;exact K' (K' #[Z,H2,I2,q2])
  |_=>exact Vn hq
 |error er=>
  obtain⟨J,H',B,a0,rfl,hos,m,un,hok,i,sT,sA,hE⟩:=hq;obtain⟨nm,qn,Nn,bs,bm,bmB,hdct,sn,sub,ab,col,dd,k0,k1,k2,k3,k5,U,N,Bs,mN,hX,hni,FB,hBs,v⟩:=EX.at_;have nf:∀b∈iI X.stack,∀o,Y.heap.get? b=ap o->∀Q,o.data≠.fields Q:=λb n o q' Q=>by
   obtain⟨_,o',ho',hd'⟩:=I1.stack.mem (show b∈_ from n)
   simp_all
  have a:∀O:g4,B.StaysIn O->s'.heap.UpToSlots O->Inv X aaN Z H' { s' with heap:=O }:=λO k up=>
   I1.call' hos (xB un i.1 k up sA nf λb n=>I1.stkFree b n) (rP hok i.1 k sT) m λb z=>absurd (z) (by simp)
  rw[M]at i;refine wpAny_looks_onW (by rw[<- M];exact I1.ok.frames) hfL i λh4 l up4=>?_
  refine wpAny_landsW l λh5 c G=>?_;have I5:=(a h5 c.1<|up4.trans G).mark (.ref J);obtain⟨hC,_,_⟩:=hX h5 I5.kIn;obtain⟨ob,hob,y⟩:=c.there;refine wpAny_handleBy_cons (codeAny_handlers_test<|jk I5 hgC hmC ?_ hdC) (by intro q';cases q')
  refine wpAny_excMatches_sub_self hC hob y v (codeAny_handlers_suite ?_);refine lands_againW c λh6 E W=>?_;have I6:=(a h6 E.1<|(up4.trans G).trans W).mark (.ref J);exact k6 (hsu J aaN _ Z H' D I6 hE) (λfl s7 q7=>q7.unmark I.ok) λ_ _ z=>Vn z
end
end _2
namespace _3
open PySem _2
variable{a p:cb}{e:fy}{H H':Hp}{M:Mem}{K:TH}{r:gh}
inductive D where
 |non|bl (b:Bool)|int (i:Int)|str (x:Str)|ty (n:String)|ref (a:cb)|tup (xs:List D)|lst (xs:List D)|mt (xs:List D)|ml (xs:List D)|fd (ks:List (List aC)) (xs:List D)
def TpD(_:TH)(H:Hp)(p:cb)(vs:List V):Prop:=H p=ap (.tup vs)
def TpM(K:TH)(p:cb)(vs:List V):Prop:=∃(o:Obj)(aaT:aa5)(n:Nat),K.lookup p=ap o/\o.cls=.type "tuple"/\o.data=.seq aaT n/\aaT.size<=sizeLine/\Vals vs aaT.toList
def FzD(K:TH)(H:Hp)(p:cb)(vs:List V):Prop:=
 ∃o,H p=ap (.frz o<|.lst vs)
def FzK(K:TH)(H:Hp)(p:cb)(vs:List V):Prop:=(∃o,H p=ap (.frz o<|.lst vs))\/∃(o:Obj)(aaT:aa5)(n:Nat),K.lookup p=ap o/\o.cls=.type "list"/\o.dict=bb/\o.data=.seq aaT n/\aaT.size<=sizeLine/\Vals vs aaT.toList
theorem FzK.sq(h:FzK K H p vs):SqL K H p vs:=h.imp (by rintro⟨o,e⟩;exact .inr #[o,e]) λx=>x
theorem TpD.sq(h:TpD K H p vs):ke K H p vs:=.inl (.inl h)
theorem TpM.sq(h:TpM K p vs):ke K H p vs:=.inr h
theorem FzD.sq(h:FzD K H p vs):SqL K H p vs:=by
 obtain⟨o,h⟩:=h;exact .inl (.inr #[o,h])
def FdD(H:Hp)(p:cb)(ks:List (List aC))(vs:List V):Prop:=ks.length=vs.length/\∃o,H p=ap (.frz o<|.dT<|ks.zip vs)
mutual
def Rp(K:TH)(H:Hp):D->V->Prop
 |.non,v=>v=.non
 |.bl b,v=>v=.bl b
 |.int i,v=>v=.int i
 |.str x,v=>v=.str x
 |.ty n,v=>v=.ty n
 |.ref a,v=>v=.ref a
 |.tup xs,v=>∃p vs,v=.ref p/\TpD K H p vs/\Rps K H xs vs
 |.lst xs,v=>∃p vs,v=.ref p/\FzD K H p vs/\Rps K H xs vs
 |.mt xs,v=>∃p vs,v=.ref p/\TpM K p vs/\Rps K H xs vs
 |.ml xs,v=>∃p vs,v=.ref p/\FzK K H p vs/\Rps K H xs vs
 |.fd ks xs,v=>∃p vs,v=.ref p/\FdD H p ks vs/\Rps K H xs vs
def Rps(K:TH)(H:Hp):List D->List V->Prop
 |[],vs=>vs=[]
 |x::xs,vs=>∃v r,vs=v::r/\Rp K H x v/\Rps K H xs r
end
structure Imm(H H':Hp):Prop where
 tup:∀p vs,H p=ap (.tup vs)->H' p=ap (.tup vs)
 frz:∀p o u,H p=ap (.frz o u)->H' p=ap (.frz o u)
theorem Imm.refl:Imm H H:=#[by lia,by lia]
theorem TpD.mono(i:Imm H H')(h:TpD K H p vs):TpD K H' p vs:=i.tup _ _ h
theorem FzK.mono(i:Imm H H')(h:FzK K H p vs):FzK K H' p vs:=h.imp (λ⟨o,e⟩=>#[o,i.frz _ _ _ e]) λx=>x
theorem FzD.mono(i:Imm H H')(h:FzD K H p vs):FzD K H' p vs:=let ⟨o,e⟩:=h;#[o,i.frz _ _ _ e]
mutual
theorem Rp.mono{K:TH}{H H':Hp}(i:Imm H H'):∀{d:D}{v:V},Rp K H d v->Rp K H' d v
 |.non,_,h=>h
 |.bl _,_,h=>h
 |.int _,_,h=>h
 |.str _,_,h=>h
 |.ty _,_,h=>h
 |.ref _,_,h=>h
 |.tup _,_,h=>by
  obtain⟨p,b,e,t,r⟩:=h;exact#[p,b,e,t.mono i,Rps.mono i r]
 |.lst _,_,h=>by
  obtain⟨p,b,e,t,r⟩:=h;exact#[p,b,e,t.mono i,Rps.mono i r]
 |.mt _,_,h=>by
  obtain⟨p,b,e,t,r⟩:=h;exact#[p,b,e,t,Rps.mono i r]
 |.ml _,_,h=>by
  obtain⟨p,b,e,t,r⟩:=h;exact#[p,b,e,t.mono i,Rps.mono i r]
 |.fd _ _,_,h=>by
  obtain⟨p,b,e,⟨t,o,f⟩,r⟩:=h;exact#[p,b,e,#[t,o,i.frz _ _ _ f],Rps.mono i r]
theorem Rps.mono{K:TH}{H H':Hp}(i:Imm H H'):∀{ds:List D}{vs:List V},Rps K H ds vs->Rps K H' ds vs
 |[],_,h=>h
 |_::_,_,h=>by
  obtain⟨v,r,e,a,b⟩:=h;exact#[v,r,e,Rp.mono i a,Rps.mono i b]
end
theorem Rps.nil:Rps K H [] []:=rfl
theorem Rps.cons(a:Rp K H d v)(b:Rps K H ds vs):Rps K H (d::ds) (v::vs):=#[v,vs,rfl,a,b]
theorem Rps.length:∀{ds:List D}{vs:List V},Rps K H ds vs->ds.length=vs.length
 |[],_,h=>by cases h;rfl
 |_::_,_,h=>by obtain⟨v,r,rfl,_,b⟩:=h;simp[b.length]
theorem Rps.get:∀{ds:List D}{vs:List V},Rps K H ds vs->∀{i:Nat}{d:D},ds[i]?=ap d->∃v,vs[i]?=ap v/\Rp K H d v
 |[],_,_,i,d,e=>by simp at e
 |x::xs,_,h,i,d,e=>by
  obtain⟨v,r,rfl,a,b⟩:=h;cases i with
  |zero=>simp_all
  |succ i=>simpa using b.get (by simpa using e)
theorem Rps.append:∀{ds es:List D}{vs f:List V},Rps K H ds vs->Rps K H es f->Rps K H (ds++es) (vs++f)
 |[],_,_,_,h,g=>by cases h;exact g
 |_::_,_,_,_,h,g=>by
  obtain⟨v,r,rfl,a,b⟩:=h;exact#[v,_,rfl,a,b.append g]
theorem Rps.take:∀{ds:List D}{vs:List V}(n:Nat),Rps K H ds vs->Rps K H (ds.take n) (vs.take n)
 |[],_,n,h=>by cases h;simp[Rps]
 |_::_,_,0,h=>rfl
 |_::_,_,n+1,h=>by
  obtain⟨v,r,rfl,a,b⟩:=h;exact#[v,_,rfl,a,b.take n]
theorem Rps.drop:∀{ds:List D}{vs:List V}(n:Nat),Rps K H ds vs->Rps K H (ds.drop n) (vs.drop n)
 |[],_,n,h=>by cases h;simp[Rps]
 |_::_,_,0,h=>h
 |_::_,_,n+1,h=>by
  obtain⟨v,r,rfl,a,b⟩:=h;exact b.drop n
theorem Rps.set(a:Rp K H d v):∀{ds:List D}{vs:List V}(i:Nat),Rps K H ds vs->Rps K H (ds.set i d) (vs.set i v)
 |[],_,_,h=>by cases h;rfl
 |_::_,_,0,h=>by obtain⟨w,r,rfl,_,b⟩:=h;exact#[v,r,rfl,a,b]
 |_::_,_,i+1,h=>by obtain⟨w,r,rfl,c,b⟩:=h;exact#[w,_,rfl,c,b.set a i]
theorem Rps.dropLast(h:Rps K H ds vs):Rps K H ds.dropLast vs.dropLast:=by
 rw[Yz,Yz,h.length];exact h.take _
theorem Rps.eraseIdx:∀{ds:List D}{vs:List V}(i:Nat),Rps K H ds vs->Rps K H (ds.eraseIdx i) (vs.eraseIdx i)
 |[],_,_,h=>by cases h;rfl
 |_::_,_,0,h=>by obtain⟨w,r,rfl,_,b⟩:=h;exact b
 |_::_,_,i+1,h=>by obtain⟨w,r,rfl,c,b⟩:=h;exact#[w,_,rfl,c,b.eraseIdx i]
theorem wQ:∀{b:aaW}{vs:List V},vs=b.map V.int->Rps K H (b.map D.int) vs
 |[],_,e=>e
 |i::b,_,e=>by subst e;exact#[_,_,rfl,rfl,wQ rfl]
inductive MO where
 |lst (xs:List D)
 |dK (aaP:List (aC×D))
 |dT (aaP:List (List aC×D))
 |ins (C:cb) (fs:List (Str×D))
abbrev Mem:=cb->Option MO
noncomputable def Mem.upd(M:Mem)(a:cb)(o:MO):Mem:=λb=>if b=a then ap o else M b
noncomputable def Mem.del(M:Mem)(a:cb):Mem:=λb=>if b=a then bb else M b
abbrev Bx.{u}{α:Sort u}(_:α):Type:=Unit
structure Wr.{u}(α:Sort u) where
 v:α
section
variable{α:Type}
noncomputable def so_:Wr (∀{α:Type},(Option α)->(α->Prop)->Prop):=#[λo f=>match o with
 |some a=>f a
 |none=>False]
abbrev so{α:Type}(o:Option α)(f:α->Prop)(_:Bx f:=()):Prop:=so_.v o f
noncomputable def s2_:Wr (∀{α:Type},(Option<|Option α)->(α->Prop)->Prop):=#[λo f=>match o with
 |some (ap a)=>f a
 |_=>False]
abbrev s2{α:Type}(o:Option (Option α))(f:α->Prop)(_:Bx f:=()):Prop:=s2_.v o f
noncomputable def s2e_:Wr (∀{α:Type},(Option<|Option α)->(α->Prop)->(Prop)->Prop):=#[λo f p=>match o with
 |some (ap a)=>f a
 |_=>p]
abbrev s2e{α:Type}(o:Option (Option α))(f:α->Prop)(p:Prop)(_:Bx f:=())(_:Bx p:=()):Prop:=s2e_.v o f p
noncomputable def oe_:Wr (∀{α:Type},(Option α)->(α->Prop)->(Prop)->Prop):=#[λo f p=>match o with
 |some a=>f a
 |none=>p]
abbrev oe{α:Type}(o:Option α)(f:α->Prop)(p:Prop)(_:Bx f:=())(_:Bx p:=()):Prop:=oe_.v o f p
noncomputable def one_:Wr (∀{α:Type},(List α)->(α->Prop)->Prop):=#[λds f=>match ds with
 |[d]=>f d
 |_=>False]
abbrev one{α:Type}(ds:List α)(f:α->Prop)(_:Bx f:=()):Prop:=one_.v ds f
noncomputable def two_:Wr (∀{α:Type},(List α)->(α->α->Prop)->Prop):=#[λds f=>match ds with
 |[d,e]=>f d e
 |_=>False]
abbrev two{α:Type}(ds:List α)(f:α->α->Prop)(_:Bx f:=()):Prop:=two_.v ds f
noncomputable def nil0_:Wr (∀{α:Type},(List α)->(Prop)->Prop):=#[λds p=>match ds with
 |[]=>p
 |_=>False]
abbrev nil0{α:Type}(ds:List α)(p:Prop)(_:Bx p:=()):Prop:=nil0_.v ds p
noncomputable def cns_:Wr (∀{α:Type},(List α)->(α->List α->Prop)->Prop):=#[λds f=>match ds with
 |d::r=>f d r
 |_=>False]
abbrev cns{α:Type}(ds:List α)(f:α->List α->Prop)(_:Bx f:=()):Prop:=cns_.v ds f
noncomputable def nilOr_:Wr (∀{α:Type},(List α)->(Prop)->(α->Prop)->Prop):=#[λds p f=>match ds with
 |[]=>p
 |[d]=>f d
 |_=>False]
abbrev nilOr{α:Type}(ds:List α)(p:Prop)(f:α->Prop)(_:Bx p:=())(_:Bx f:=()):Prop:=nilOr_.v ds p f
noncomputable def onR_:Wr ((D)->(cb->Prop)->Prop):=#[λd f=>match d with
 |.ref a=>f a
 |_=>False]
abbrev onR(d:D)(f:cb->Prop)(_:Bx f:=()):Prop:=onR_.v d f
noncomputable def onI_:Wr ((D)->(Int->Prop)->Prop):=#[λd f=>match d with
 |.int a=>f a
 |_=>False]
abbrev onI(d:D)(f:Int->Prop)(_:Bx f:=()):Prop:=onI_.v d f
noncomputable def onB_:Wr ((D)->(Bool->Prop)->Prop):=#[λd f=>match d with
 |.bl a=>f a
 |_=>False]
abbrev onB(d:D)(f:Bool->Prop)(_:Bx f:=()):Prop:=onB_.v d f
noncomputable def onS_:Wr ((D)->(Str->Prop)->Prop):=#[λd f=>match d with
 |.str a=>f a
 |_=>False]
abbrev onS(d:D)(f:Str->Prop)(_:Bx f:=()):Prop:=onS_.v d f
noncomputable def onTy_:Wr ((D)->(String->Prop)->Prop):=#[λd f=>match d with
 |.ty a=>f a
 |_=>False]
abbrev onTy(d:D)(f:String->Prop)(_:Bx f:=()):Prop:=onTy_.v d f
noncomputable def onT_:Wr ((D)->(List D->Prop)->Prop):=#[λd f=>match d with
 |.tup a=>f a
 |_=>False]
abbrev onT(d:D)(f:List D->Prop)(_:Bx f:=()):Prop:=onT_.v d f
noncomputable def onF_:Wr ((D)->(List (List aC)->List D->Prop)->Prop):=#[λd f=>match d with
 |.fd a b=>f a b
 |_=>False]
abbrev onF(d:D)(f:List (List aC)->List D->Prop)(_:Bx f:=()):Prop:=onF_.v d f
noncomputable def onN_:Wr ((D)->(Prop)->Prop):=#[λd p=>match d with
 |.non=>p
 |_=>False]
abbrev onN(d:D)(p:Prop)(_:Bx p:=()):Prop:=onN_.v d p
noncomputable def onBB_:Wr ((D)->(Prop)->(Prop)->Prop):=#[λd p q=>match d with
 |.bl true=>p
 |.bl cp=>q
 |_=>False]
abbrev O1(d:D)(p q:Prop)(_:Bx p:=())(_:Bx q:=()):Prop:=onBB_.v d p q
noncomputable def onIST_:Wr ((D)->(Int->Prop)->(Str->Prop)->(List D->Prop)->(Prop)->Prop):=#[λd f g h p=>match d with
 |.int a=>f a
 |.str a=>g a
 |.tup a=>h a
 |_=>p]
abbrev onIST(d:D)(f:Int->Prop)(g:Str->Prop)(h:List D->Prop)(p:Prop)(_:Bx f:=())(_:Bx g:=())(_:Bx h:=())(_:Bx p:=()):Prop:=onIST_.v d f g h p
noncomputable def onSR_:Wr ((D)->(Str->Prop)->(cb->Prop)->Prop):=#[λd g f=>match d with
 |.str a=>g a
 |.ref a=>f a
 |_=>False]
abbrev onSR(d:D)(g:Str->Prop)(f:cb->Prop)(_:Bx g:=())(_:Bx f:=()):Prop:=onSR_.v d g f
noncomputable def onLR_:Wr ((D)->(List D->Prop)->(cb->Prop)->Prop):=#[λd g f=>match d with
 |.lst a=>g a
 |.ref a=>f a
 |_=>False]
abbrev NA(d:D)(g:List D->Prop)(f:cb->Prop)(_:Bx g:=())(_:Bx f:=()):Prop:=onLR_.v d g f
noncomputable def onTM_:Wr ((D)->(List D->Prop)->(List D->Prop)->(Prop)->Prop):=#[λd f g p=>match d with
 |.tup a=>f a
 |.ml a=>g a
 |_=>p]
abbrev onTM(d:D)(f g:List D->Prop)(p:Prop)(_:Bx f:=())(_:Bx g:=())(_:Bx p:=()):Prop:=onTM_.v d f g p
noncomputable def onTe_:Wr ((D)->(List D->Prop)->(Prop)->Prop):=#[λd f p=>match d with
 |.tup a=>f a
 |_=>p]
abbrev onTe(d:D)(f:List D->Prop)(p:Prop)(_:Bx f:=())(_:Bx p:=()):Prop:=onTe_.v d f p
noncomputable def onRe_:Wr ((D)->(cb->Prop)->(Prop)->Prop):=#[λd f p=>match d with
 |.ref a=>f a
 |_=>p]
abbrev onRe(d:D)(f:cb->Prop)(p:Prop)(_:Bx f:=())(_:Bx p:=()):Prop:=onRe_.v d f p
noncomputable def mL_:Wr ((Option MO)->(List D->Prop)->Prop):=#[λm f=>match m with
 |some (.lst a)=>f a
 |_=>False]
abbrev mL(m:Option MO)(f:List D->Prop)(_:Bx f:=()):Prop:=mL_.v m f
noncomputable def mK_:Wr ((Option MO)->(List (aC×D)->Prop)->Prop):=#[λm f=>match m with
 |some (.dK a)=>f a
 |_=>False]
abbrev mK(m:Option MO)(f:List (aC×D)->Prop)(_:Bx f:=()):Prop:=mK_.v m f
noncomputable def mT_:Wr ((Option MO)->(List (List aC×D)->Prop)->Prop):=#[λm f=>match m with
 |some (.dT a)=>f a
 |_=>False]
abbrev mT(m:Option MO)(f:List (List aC×D)->Prop)(_:Bx f:=()):Prop:=mT_.v m f
noncomputable def mN_:Wr ((Option MO)->(cb->List (Str×D)->Prop)->Prop):=#[λm f=>match m with
 |some (.ins a b)=>f a b
 |_=>False]
abbrev mN(m:Option MO)(f:cb->List (Str×D)->Prop)(_:Bx f:=()):Prop:=mN_.v m f
noncomputable def mLe_:Wr ((Option MO)->(List D->Prop)->(Prop)->Prop):=#[λm f p=>match m with
 |some (.lst a)=>f a
 |_=>p]
abbrev mLe(m:Option MO)(f:List D->Prop)(p:Prop)(_:Bx f:=())(_:Bx p:=()):Prop:=mLe_.v m f p
noncomputable def mSet_:Wr ((Option MO)->(List D->Prop)->(List (aC×D)->Prop)->(List (List aC×D)->Prop)->Prop):=#[λm f g h=>match m with
 |some (.lst a)=>f a
 |some (.dK a)=>g a
 |some (.dT a)=>h a
 |_=>False]
abbrev mSet(m:Option MO)(f:List D->Prop)(g:List (aC×D)->Prop)(h:List (List aC×D)->Prop)(_:Bx f:=())(_:Bx g:=())(_:Bx h:=()):Prop:=mSet_.v m f g h
section
variable{p:Prop}
theorem FH:so (ap x) f b=f x:=rfl
theorem Hw:s2 (ap<|some x) f b=f x:=rfl
theorem s2e_s:s2e (ap<|some x) f p b bp=f x:=rfl
theorem GW:oe (ap x) f p b bp=f x:=rfl
theorem Jz:oe bb f p b bp=p:=rfl
theorem wt:one [x] f b=f x:=rfl
theorem two_2:two [y,z] f2 b2=f2 y z:=rfl
theorem nil_0:nil0 (α:=α) [] p bp=p:=rfl
theorem cns_c:cns (x::xs) fl bl=fl x xs:=rfl
theorem no_0:nilOr [] p f bp b=p:=rfl
theorem no_1:nilOr [x] p f bp b=f x:=rfl
theorem s2e.inv(h:s2e u f p b bp):(∃a,u=ap (ap a)/\f a)\/p:=by rcases u with _|_|a;exact .inr h;exact .inr h;exact .inl #[a,rfl,h]
theorem so.inv(h:so o f b):∃a,o=ap a/\f a:=by cases o with|none=>exact h.elim|some a=>exact#[a,rfl,h]
theorem s2.inv(h:s2 u f b):∃a,u=ap (ap a)/\f a:=by rcases u with _|_|a;exact h.elim;exact h.elim;exact#[a,rfl,h]
theorem oe.inv(h:oe o f p b bp):(∃a,o=ap a/\f a)\/o=bb/\p:=by cases o with|none=>exact .inr #[rfl,h]|some a=>exact .inl #[a,rfl,h]
theorem one.inv(h:one ds f b):∃a,ds=[a]/\f a:=by rcases ds with _|⟨a,_|_⟩;exact h.elim;exact#[a,rfl,h];trivial
theorem two.inv(h:two ds f2 b2):∃a c,ds=[a,c]/\f2 a c:=by rcases ds with _|⟨a,_|⟨c,_|_⟩⟩;exact h.elim;exact h.elim;exact#[a,c,rfl,h];trivial
theorem nil0.inv(h:nil0 ds p bp):ds=[]/\p:=by cases ds with|nil=>exact#[rfl,h]|cons=>trivial
theorem cns.inv(h:cns ds fl bl):∃a r,ds=a::r/\fl a r:=by cases ds with|nil=>exact h.elim|cons a r=>exact#[a,r,rfl,h]
theorem nilOr.inv(h:nilOr ds p f bp b):ds=[]/\p\/∃a,ds=[a]/\f a:=by rcases ds with _|⟨a,_|_⟩;exact .inl #[rfl,h];exact .inr #[a,rfl,h];trivial
end
section
variable{p:Prop}
theorem wo:onR (.ref a) fA bA=fA a:=rfl
theorem Ag:onI (.int i) fI bI=fI i:=rfl
theorem pP:onB (.bl k) fB bB=fB k:=rfl
theorem onS_s:onS (.str s) fS bS=fS s:=rfl
theorem onTy_t:onTy (.ty t) fY bY=fY t:=rfl
theorem onT_t:onT (.tup l) fL bL=fL l:=rfl
theorem onF_f:onF (.fd ks l) fF bF=fF ks l:=rfl
theorem RS:onN .non p bp=p:=rfl
theorem onBB_t:O1 (.bl true) p q bp bq=p:=rfl
theorem onBB_f:O1 (.bl cp) p q bp bq=q:=rfl
theorem onIST_i:onIST (.int i) fI fS fL p bI bS bL bp=fI i:=rfl
theorem onIST_s:onIST (.str s) fI fS fL p bI bS bL bp=fS s:=rfl
theorem onIST_t:onIST (.tup l) fI fS fL p bI bS bL bp=fL l:=rfl
theorem onIST_r:onIST (.ref a) fI fS fL p bI bS bL bp=p:=rfl
theorem onIST_l:onIST (.lst l) fI fS fL p bI bS bL bp=p:=rfl
theorem onSR_s:onSR (.str s) fS fA bS bA=fS s:=rfl
theorem onSR_r:onSR (.ref a) fS fA bS bA=fA a:=rfl
theorem onLR_l:NA (.lst l) fL fA bL bA=fL l:=rfl
theorem onLR_r:NA (.ref a) fL fA bL bA=fA a:=rfl
theorem onTM_t:onTM (.tup l) fL gL p bL cL bp=fL l:=rfl
theorem onTM_m:onTM (.ml l) fL gL p bL cL bp=gL l:=rfl
theorem onTM_r:onTM (.ref a) fL gL p bL cL bp=p:=rfl
theorem onTM_l:onTM (.lst l) fL gL p bL cL bp=p:=rfl
theorem onTe_t:onTe (.tup l) fL p bL bp=fL l:=rfl
theorem onTe_r:onTe (.ref a) fL p bL bp=p:=rfl
theorem onTe_l:onTe (.lst l) fL p bL bp=p:=rfl
theorem onRe_r:onRe (.ref a) fA p bA bp=fA a:=rfl
theorem onRe_n:onRe .non fA p bA bp=p:=rfl
theorem onRe_b:onRe (.bl k) fA p bA bp=p:=rfl
theorem onRe_i:onRe (.int i) fA p bA bp=p:=rfl
theorem onRe_s:onRe (.str s) fA p bA bp=p:=rfl
theorem onRe_t:onRe (.tup l) fA p bA bp=p:=rfl
theorem onRe_l:onRe (.lst l) fA p bA bp=p:=rfl
theorem onRe_f:onRe (.fd ks l) fA p bA bp=p:=rfl
theorem onRe_m:onRe (.mt l) fA p bA bp=p:=rfl
theorem onRe_ml:onRe (.ml l) fA p bA bp=p:=rfl
theorem onR.inv(h:onR d fA bA):∃a,d=.ref a/\fA a:=by cases d<;>first|exact#[_,rfl,h]|exact h.elim
theorem onI.inv(h:onI d fI bI):∃a,d=.int a/\fI a:=by cases d<;>first|exact#[_,rfl,h]|exact h.elim
theorem onS.inv(h:onS d fS bS):∃a,d=.str a/\fS a:=by cases d<;>first|exact#[_,rfl,h]|exact h.elim
theorem onTy.inv(h:onTy d fY bY):∃a,d=.ty a/\fY a:=by cases d<;>first|exact#[_,rfl,h]|exact h.elim
theorem onT.inv(h:onT d fL bL):∃a,d=.tup a/\fL a:=by cases d<;>first|exact#[_,rfl,h]|exact h.elim
theorem onF.inv(h:onF d fF bF):∃a b,d=.fd a b/\fF a b:=by cases d<;>first|exact#[_,_,rfl,h]|exact h.elim
theorem onRe.inv(h:onRe d fA p bA bp):(∃a,d=.ref a/\fA a)\/p:=by cases d<;>first|exact .inl #[_,rfl,h]|exact .inr h
theorem onTe.inv(h:onTe d fL p bL bp):(∃a,d=.tup a/\fL a)\/p:=by cases d<;>first|exact .inl #[_,rfl,h]|exact .inr h
theorem onTM.inv(h:onTM d fL gL p bL cL bp):(∃a,d=.tup a/\fL a)\/(∃a,d=.ml a/\gL a)\/p:=by cases d<;>first|exact .inl #[_,rfl,h]|exact .inr (.inl #[_,rfl,h])|exact .inr (.inr h)
theorem onIST.inv(h:onIST d fI fS fL p bI bS bL bp):(∃a,d=.int a/\fI a)\/(∃a,d=.str a/\fS a)\/(∃a,d=.tup a/\fL a)\/p:=by cases d<;>first|exact .inl #[_,rfl,h]|exact .inr (.inl #[_,rfl,h])|exact .inr (.inr<|.inl #[_,rfl,h])|exact .inr (.inr<|.inr h)
theorem onSR.inv(h:onSR d fS fA bS bA):(∃a,d=.str a/\fS a)\/∃a,d=.ref a/\fA a:=by cases d<;>first|exact .inl #[_,rfl,h]|exact .inr #[_,rfl,h]|exact h.elim
theorem onN.inv(h:onN d p bp):d=.non/\p:=by cases d<;>first|exact#[rfl,h]|exact h.elim
end
section
variable{p:Prop}
theorem mL_l:mL (ap<|.lst l) fL bL=fL l:=rfl
theorem mK_k:mK (ap<|.dK aaP) gK bK=gK aaP:=rfl
theorem mT_t:mT (ap<|.dT tvs) hT bT=hT tvs:=rfl
theorem mN_n:mN (ap<|.ins a fs) fN bN=fN a fs:=rfl
theorem mLe_l:mLe (ap<|.lst l) fL p bL bp=fL l:=rfl
theorem mLe_k:mLe (ap<|.dK aaP) fL p bL bp=p:=rfl
theorem mLe_t:mLe (ap<|.dT tvs) fL p bL bp=p:=rfl
theorem mLe_n:mLe (ap<|.ins a fs) fL p bL bp=p:=rfl
theorem mLe_0:mLe bb fL p bL bp=p:=rfl
theorem mSet_l:mSet (ap<|.lst l) fL gK hT bL bK bT=fL l:=rfl
theorem mSet_k:mSet (ap<|.dK aaP) fL gK hT bL bK bT=gK aaP:=rfl
theorem mSet_t:mSet (ap<|.dT tvs) fL gK hT bL bK bT=hT tvs:=rfl
theorem mL.inv(h:mL m fL bL):∃a,m=ap (.lst a)/\fL a:=by rcases m with _|⟨_⟩|_|_|_<;>first|exact#[_,rfl,h]|trivial
theorem mK.inv(h:mK m gK bK):∃a,m=ap (.dK a)/\gK a:=by rcases m with _|⟨_⟩|_|_|_<;>first|exact#[_,rfl,h]|trivial
theorem mT.inv(h:mT m hT bT):∃a,m=ap (.dT a)/\hT a:=by rcases m with _|⟨_⟩|_|_|_<;>first|exact#[_,rfl,h]|trivial
theorem mLe.inv(h:mLe m fL p bL bp):(∃a,m=ap (.lst a)/\fL a)\/p:=by rcases m with _|⟨_⟩|_|_|_<;>first|exact .inl #[_,rfl,h]|exact .inr h
theorem mSet.inv(h:mSet m fL gK hT bL bK bT):(∃a,m=ap (.lst a)/\fL a)\/(∃a,m=ap (.dK a)/\gK a)\/∃a,m=ap (.dT a)/\hT a:=by rcases m with _|⟨_⟩|_|_|_<;>first|exact .inl #[_,rfl,h]|exact .inr (.inl #[_,rfl,h])|exact .inr (.inr #[_,rfl,h])|trivial
theorem mN.inv(h:mN m fN bN):∃a b,m=ap (.ins a b)/\fN a b:=by rcases m with _|⟨_⟩|_|_|_<;>first|exact#[_,_,rfl,h]|trivial
end
end
def Rkv{κ:Type}(K:TH)(H:Hp):List (κ×D)->List (κ×V)->Prop:=XV λp q=>p.1=q.1/\Rp K H p.2 q.2
def RepO(K:TH)(H:Hp)(a:cb):MO->Prop
 |.lst xs=>∃vs,H a=ap (.lst vs)/\Rps K H xs vs
 |.dK aaP=>∃ws,H a=ap (.dK ws)/\Rkv K H aaP ws
 |.dT aaP=>∃ws,H a=ap (.dT ws)/\Rkv K H aaP ws
 |.ins C fs=>∃dx ws,H a=ap (.ins C dx ws)/\Rkv K H fs ws
def RepH(K:TH)(H:Hp)(M:Mem):Prop:=∀a o,M a=ap o->RepO K H a o
section
variable{u:HO}
@[simp] theorem Mem.upd_same:(M.upd a o) a=ap o:=by simp[Mem.upd]
theorem ae(h:b≠a):(M.upd a o) b=M b:=by simp[Mem.upd,h]
@[simp] theorem Mem.upd_upd:(M.upd a o).upd a o'=M.upd a o':=by funext c;simp[Mem.upd];split<;>rfl
@[simp] theorem Mem.upd_del:(M.upd a o).del a=M.del a:=by funext c;simp[Mem.upd,Mem.del];split<;>rfl
theorem au(h:M a=bb):M.del a=M:=by
 funext c;simp[Mem.del];simp_all
theorem aw(h:a≠b):(M.upd a o).upd b f=(M.upd b f).upd a o:=by
 funext c;simp[Mem.upd];split
 .rename_i e;rw[e,if_neg (Uk h)]
 rfl
theorem Mem.ne(h:M a=ap o)(h':M b=bb):a≠b:=by intro e;simp_all
theorem Rkv.mono(i:Imm H H')(h:Rkv K H aaP g):Rkv K H' aaP g:=gU h λ_ _ z=>#[z.1,z.2.mono i]
theorem RepO.obj(r:RepO K H a o):∃u,H a=ap u:=by
 cases o with
 |ins C fs=>obtain⟨g,f,e,_⟩:=r;exact#[_,e]
 |_=>obtain⟨f,e,_⟩:=r;exact#[_,e]
theorem RepO.keep(r:RepO K H a o)(i:Imm H H')(e:H' a=H a):RepO K H' a o:=by
 cases o with
 |ins C fs=>obtain⟨g,f,q,z⟩:=r;exact#[g,f,e.trans q,z.mono i]
 |_=>obtain⟨f,q,z⟩:=r;exact#[f,e.trans q,z.mono i]
theorem RepH.fresh(r:RepH K H M)(h:H a=bb):M a=none:=by
 cases e:M a with
 |none=>rfl
 |some o=>obtain⟨u,q⟩:=(r a o e).obj;simp_all
def By:Option HO->Prop
 |some (.tup _)=>False
 |some (.frz _ _)=>False
 |_=>True
theorem Imm.upd(h:By (H a)):Imm H (upd H a u):=by
 refine#[λp f e=>?_,λp o v e=>?_]
 .rw[aD];exact e
  rintro rfl;rw[e]at h;exact h
 rw[aD];exact e
 rintro rfl;rw[e]at h;exact h
theorem Imm.new(h:H a=bb):Imm H (_2.upd H a u):=Imm.upd (by rw[h];trivial)
theorem RepO.loose(r:RepO K H a o):By (H a):=by
 cases o with
 |ins C fs=>obtain⟨g,f,e,_⟩:=r;rw[e];trivial
 |_=>obtain⟨f,e,_⟩:=r;rw[e];trivial
theorem RepH.new(r:RepH K H M)(h:H a=bb):RepH K (_2.upd H a u) M:=λb o e=>by
 obtain⟨v,q⟩:=(r b o e).obj;exact(r b o e).keep (Imm.new h) (aD<|bn q h)
theorem RepH.put(r:RepH K H M)(h:By (H a))(n:RepO K (_2.upd H a u) a o):RepH K (_2.upd H a u) (M.upd a o):=λb p e=>by
 by_cases f:b=a
 .subst f;rw[Mem.upd_same]at e;cases e;exact n
 .rw[ae f]at e
  exact(r b p e).keep (Imm.upd h) (aD f)
theorem RepH.keep(r:RepH K H M)(i:Imm H H')(e:∀b o,M b=ap o->H' b=H b):RepH K H' M:=λb o q=>(r b o q).keep i (e b o q)
structure Frm(M:Mem)(H:Hp)(M':Mem)(H':Hp):Prop where
 keep:∀b u,H b=ap u->M b=bb->H' b=ap u/\M' b=bb
theorem Frm.refl:Frm M H M H:=#[by lia]
theorem Frm.trans{M1 M2:Mem}(x:Frm M H M1 H1)(y:Frm M1 H1 M2 H2):Frm M H M2 H2:=#[λb u e n=>let ⟨e1,n1⟩:=x.keep b u e n;y.keep b u e1 n1]
theorem Frm.imm(f:Frm M H M' H')(r:RepH K H M):Imm H H':=by
 have g:∀b u,H b=ap u->¬By (ap u)->H' b=ap u:=λb u e n=>(f.keep b u e (by
  cases q:M b with
  |none=>rfl
  |some o=>exact absurd (by rw[<- e];exact(r b o q).loose) n)).1
 exact#[λp h e=>g p _ e (λz=>z),λp o u e=>g p _ e (λz=>z)]
theorem Frm.new(h:H a=bb):Frm M H M (_2.upd H a u):=#[λb v e n=>#[by rw[aD (by lia)];exact e,n]]
theorem Frm.put(h:H a=bb\/∃o,M a=ap o):Frm M H (M.upd a o) (_2.upd H a u):=#[λb v e n=>by
 have f:b≠a:=by
  rintro rfl
  simp_all
 exact#[by rw[_2.aD f];exact e,by rw[ae f];exact n]]
theorem Frm.del(h:∃o,M a=ap o):Frm M H (M.del a) (_2.upd H a u):=#[λb v e n=>by
 have f:b≠a:=by
  rintro rfl
  simp_all
 refine#[by rw[_2.aD f];exact e,?_]
 unfold Mem.del
 simp_all]
theorem Rp.mf(x:Rp K H d v)(r:RepH K H M)(f:Frm M H M' H'):Rp K H' d v:=x.mono (f.imm r)
theorem Rps.mf(x:Rps K H d v)(r:RepH K H M)(f:Frm M H M' H'):Rps K H' d v:=x.mono (f.imm r)
end
abbrev Dl:=List (Option D)
abbrev DK:=D->Mem->Prop
abbrev ba:=Dl->Mem->DK->Prop
abbrev fH:=Dl->Mem->(Bool->Mem->Prop)->Prop
abbrev eJ:=Dl->Mem->(List D->Mem->Prop)->Prop
structure RepS(K:TH)(H:Hp)(U:Dl)(Z:St):Prop where
 len:U.length=Z.length
 get:∀(i:Nat)(d:D),U[i]?=ap (ap d)->∃v,Z[i]?=ap (ap v)/\Rp K H d v
theorem RepS.mono(r:RepS K H U Z)(i:Imm H H'):RepS K H' U Z:=
 #[r.len,λj d e=>by obtain⟨v,b,f⟩:=r.get j d e;exact#[v,b,f.mono i]]
theorem RepS.set(r:RepS K H U Z)(h:Rp K H d v):RepS K H (U.set i<|some d) (Z.set i<|some v):=by
 refine#[by simp[r.len],λj e q=>?_]
 rw[Xn]at q ⊢
 by_cases b:i=j
 .rw[if_pos b]at q ⊢
  by_cases f:i<U.length
  .rw[if_pos (by rw[<- r.len];assumption)]
   simp_all
  simp_all
 rw[if_neg b]at q ⊢;exact r.get j e q
structure Bd where
 p:Mem->Hp->Prop
 go:∀{M M':Mem}{H H':Hp},p M H->Frm M H M' H'->p M' H'
noncomputable def Bd.of(M:Mem)(H:Hp):Bd:=#[λM' H'=>Frm M H M' H',λa b=>a.trans b]
structure SR(X:Cx)(B:Bd)(U:Dl)(M:Mem)(Z:St)(H:Hp):Prop where
 i0:B.p M H
 rh:RepH X.K H M
 rs:RepS X.K H U Z
theorem SR.go(s:SR X B U M Z H)(rh:RepH X.K H' M')(i:Frm M H M' H'):SR X B U M' Z H':=#[B.go s.i0 i,rh,s.rs.mono<|i.imm s.rh]
def Up(K:TH)(M:Mem)(H:Hp)(QQ:DK)(Q:VK):Prop:=∀d M',QQ d M'->∀v H',RepH K H' M'->Frm M H M' H'->Rp K H' d v->Q v H'
def UpT(K:TH)(M:Mem)(H:Hp)(QQ:Bool->Mem->Prop)(Q:Bool->Hp->Prop):Prop:=∀b M',QQ b M'->∀H',RepH K H' M'->Frm M H M' H'->Q b H'
def UpA(K:TH)(M:Mem)(H:Hp)(QQ:List D->Mem->Prop)(Q:List V->Hp->Prop):Prop:=∀ds M',QQ ds M'->∀vs H',RepH K H' M'->Frm M H M' H'->Rps K H' ds vs->Q vs H'
theorem Up.go{M1:Mem}(u:Up K M H QQ Q)(i:Frm M H M1 H1):Up K M1 H1 QQ Q:=λd M' q v H' a b=>u d M' q v H' a (i.trans b)
theorem UpT.go{M1:Mem}(u:UpT K M H QQ Q)(i:Frm M H M1 H1):UpT K M1 H1 QQ Q:=λd M' q H' a b=>u d M' q H' a (i.trans b)
inductive liftE(X:Cx)(B:Bd)(T:ba)(Z:St)(H:Hp)(Q:VK):Prop
 |mk (U:Dl) (M:Mem) (QQ:DK) (s:SR X B U M Z H) (h:T U M QQ) (u:Up X.K M H QQ Q):liftE X B T Z H Q
inductive liftT(X:Cx)(B:Bd)(T:fH)(Z:St)(H:Hp)(Q:Bool->Hp->Prop):Prop
 |mk (U:Dl) (M:Mem) (QQ:Bool->Mem->Prop) (s:SR X B U M Z H) (h:T U M QQ) (u:UpT X.K M H QQ Q):liftT X B T Z H Q
inductive liftA(X:Cx)(B:Bd)(T:eJ)(Z:St)(H:Hp)(Q:List V->Hp->Prop):Prop
 |mk (U:Dl) (M:Mem) (QQ:List D->Mem->Prop) (s:SR X B U M Z H) (h:T U M QQ) (u:UpA X.K M H QQ Q):liftA X B T Z H Q
def DE(X:Cx)(B:Bd)(e:fy)(T:ba):Prop:=PE X e (liftE X B T)
def DT(X:Cx)(B:Bd)(e:fy)(T:fH):Prop:=PT X e (liftT X B T)
def DA(X:Cx)(B:Bd)(es:aa0)(T:eJ):Prop:=PA X es (liftA X B T)
theorem aT(h:PE X e t)(w:∀Z H Q,t' Z H Q->t Z H Q):PE X e t':=λb s Z H Q I q=>h _ s Z H Q I (w Z H Q q)
theorem sJ(h:PT X e t)(w:∀Z H Q,t' Z H Q->t Z H Q):PT X e t':=λb s Z H Q I q=>h _ s Z H Q I (w Z H Q q)
theorem AA{e:aa0}(h:PA X e t)(w:∀Z H Q,t' Z H Q->t Z H Q):PA X e t':=λpos b s Z H Q I q=>h _ _ s Z H Q I (w Z H Q q)
theorem ck{e:rc}(h:PS X e t)(w:∀D Z H,t' D Z H->t D Z H):PS X e t':=λb s Z H D I q=>h _ s Z H D I (w D Z H q)
theorem oG{e:aa1}(h:B5 X e t)(w:∀D Z H,t' D Z H->t D Z H):B5 X e t':=λb s Z H D I q=>h _ s Z H D I (w D Z H q)
def ac(i:Nat):ba:=λU M Q=>s2 (U[i]?) λd=>Q d M
def dC(d:D):ba:=λ_ M Q=>Q d M
section
variable{a:fy}
theorem OF(j:X.N[i]?=ap x)(l:QB X.env.scope x)(m:(x==("__debug__":Str))=false:=by decide)(hcd:(x==("__classdict__":Str))=false:=by decide):DE X B (.Name x pos) (ac i):=by
 refine aT (PZ j l m hcd) ?_
 rintro Z H Q ⟨U,M,QQ,s,h,u⟩
 unfold ac at h;obtain⟨d,e,h⟩:=h.inv;obtain⟨v,f,g⟩:=s.rs.get i d e;exact#[v,f,u d M h v H s.rh Frm.refl g]
theorem Hj(h:PE X e (tC v))(r:∀H,Rp X.K H d v):DE X B e (dC d):=by
 refine aT h ?_
 rintro Z H Q ⟨U,M,QQ,s,h,u⟩
 exact u d M h v H s.rh Frm.refl (r H)
theorem Nm{i j pos}:DE X B (.Constant (.int i) j pos) (dC<|.int i):=Hj Ni λ_=>rfl
theorem R5{i j pos}:DE X B (.Constant (.bool i) j pos) (dC<|.bl i):=Hj Sl λ_=>rfl
theorem PR{j pos}:DE X B (.Constant .none j pos) (dC .non):=Hj Oe λ_=>rfl
theorem Nv{i j pos}:DE X B (.Constant (.str i) j pos) (dC<|.str i):=Hj Fm λ_=>rfl
abbrev gh:=D->D->Mem->DK->Prop
inductive liftR2(X:Cx)(r:gh)(x y:V)(H:Hp)(Q:VK):Prop
 |mk (d1 d2:D) (M:Mem) (QQ:DK) (rh:RepH X.K H M) (r1:Rp X.K H d1 x) (r2:Rp X.K H d2 y) (h:r d1 d2 M QQ) (u:Up X.K M H QQ Q):liftR2 X r x y H Q
def ai(r:gh)(ta tb:ba):ba:=λU M Q=>ta U M λx M1=>tb U M1 λy M2=>r x y M2 Q
theorem lq(h:liftE X B (ai r ta tb) Z H Q):Tf (liftR2 X r) (liftE X B ta) (liftE X B tb) Z H Q:=by
 obtain⟨U,M,QQ,s,h,u⟩:=h;exact#[U,M,_,s,h,λx M1 i v1 H1 f i1 m=>#[U,M1,_,s.go f i1,i,λy M2 l v2 H2 g i2 j=>#[x,y,M2,QQ,g,m.mf f i2,j,l,u.go<|i1.trans i2]]]
theorem gR(i:cW X (kr f) (liftR2 X r))(g:DE X B a ta)(j:DE X B b tb):DE X B (.BinOp a f b pos) (ai r ta tb):=aT (T1 i g j) λ_ _ _ h=>lq h
theorem Hs(j:cW X (kB f) (liftR2 X r))(g:DE X B a ta)(l:DE X B b tb)(i:ZX f b=cp):DE X B (.Compare a [f] [b] pos) (ai r ta tb):=aT (J1 j g l i) λ_ _ _ h=>lq h
theorem MY(i:IxR X (liftR2 X r))(f:DE X B a ta)(j:DE X B b tb)(g:Au b):DE X B (.Subscript a b pos) (ai r ta tb):=aT (SI i f j g) λ_ _ _ h=>lq h
def al(t:ba):fH:=λU M Q=>t U M λd M'=>onB d λk=>Q k M'
theorem dN(o:cW X (kB f) (liftR2 X r))(m:DE X B a ta)(w:DE X B b tb)(n:ZX f b=cp):DT X B (.Compare a [f] [b] pos) (al<|ai r ta tb):=by
 refine sJ (IA o m w n) ?_
 rintro Z H Q ⟨U,M,QQ,s,h,u⟩
 have l:liftE X B (ai r ta tb) Z H (λx H'=>∃k,x=.bl k/\Q k H'):=by
  refine#[U,M,_,s,h,λd M' q v H' g i j=>?_];cases d with
  |bl k=>exact#[k,j,u k M' q H' g i]
  |_=>exact q.elim
 exact lq l
def Hd(M:Mem):D->Option Bool
 |.non=>ap cp
 |.bl b=>ap b
 |.int i=>ap (i != 0)
 |.str y=>if y.length<=sizeLine then ap ((y.length:Int) != 0) else bb
 |.tup xs=>ap (!xs.isEmpty)
 |.lst xs=>ap (!xs.isEmpty)
 |.ref a=>match M a with
  |some (.lst xs)=>ap (!xs.isEmpty)
  |some (.dK xs)=>ap (!xs.isEmpty)
  |_=>bb
 |_=>bb
def cO(t:ba):fH:=λU M Q=>t U M λd M'=>so (Hd M' d) λk=>Q k M'
theorem gp(r:Rps K H ds vs):vs.isEmpty=ds.isEmpty:=by
 have:=r.length;cases ds<;>cases vs<;>simp_all
theorem Oo(l:RepH K H M)(r:Rp K H d v)(e:Hd M d=ap k):Q1 K v H k:=by
 cases d with
 |non=>cases r;cases e;rfl
 |bl b=>cases r;cases e;rfl
 |int i=>cases r;cases e;rfl
 |str y=>
  cases r;simp only[Hd]at e
  split at e
  .cases e;trivial
  cases e
 |tup h=>
  obtain⟨p,f,rfl,t,r⟩:=r;cases e;exact .inr (.inl #[f,t.sq,by rw[gp r]])
 |lst h=>
  obtain⟨p,f,rfl,t,r⟩:=r;cases e;exact .inl #[f,t.sq,by rw[gp r]]
 |ref a=>
  cases r;simp[Hd]at e
  split at e
  .rename_i h q
   obtain⟨f,g,j⟩:=l _ _ q;cases e;exact .inl #[f,SqL.of g,by rw[gp j]]
  .rename_i h q
   obtain⟨f,g,j⟩:=l _ _ q;cases e;refine .inr (.inr #[f,g,?_]);cases j<;>rfl
  cases e
 |_=>cases e
theorem Q9(h:DE X B e ta)(l:∀f,isTrue e X.env f=(do let v <- f;V_ e.pos;vb [v] (truthy v)):=by intro _;rfl):DT X B e (cO ta):=by
 refine sJ (GT h l) ?_
 rintro Z H Q ⟨U,M,QQ,s,h,u⟩
 refine#[U,M,_,s,h,λd M' q v H' g i j=>?_];obtain⟨k,e,q⟩:=q.inv;exact#[k,Oo g j e,u k M' q H' g i]
def gu(t:fH):fH:=λU M Q=>t U M λc M1=>Q (!c) M1
theorem Ql(g:DT X B a f):DT X B (.UnaryOp .Not a pos) (gu f):=by
 refine sJ (Qn g) ?_
 rintro Z H Q ⟨U,M,QQ,s,h,u⟩
 exact#[U,M,_,s,h,λc=>u _]
end
section
variable{a:fy}
def DW(X:Cx)(B:Bd)(e:fy)(T:fH):Prop:=PW X e (liftT X B T)
theorem Tt(h:DW X B e T):DT X B e T:=Tq h
theorem AR(h:PW X e t)(w:∀Z H Q,t' Z H Q->t Z H Q):PW X e t':=λg f s Z H Q I q=>h g _ s Z H Q I (w Z H Q q)
def pj(t u:fH):fH:=λU M Q=>t U M λc M1=>if c=true then u U M1 Q else Q cp M1
def P6(t u:fH):fH:=λU M Q=>t U M λc M1=>if c=true then Q true M1 else u U M1 Q
theorem KI(f:DT X B a tA):DW X B (.BoolOp .And [a] pos) tA:=IZ f
theorem Of(f:DT X B a tA):DW X B (.BoolOp .Or [a] pos) tA:=PP f
theorem Nr(g:DT X B a tA)(j:DW X B (.BoolOp .And (b::rest) pos) tB'):DW X B (.BoolOp .And (a::b::rest) pos) (pj tA tB'):=by
 refine AR (PX g j) ?_
 rintro Z H Q ⟨U,M,QQ,s,h,u⟩
 refine#[U,M,_,s,h,λc M' q H' f i=>?_];cases c with
 |true=>exact#[U,M',QQ,s.go f i,q,u.go i]
 |false=>exact u _ M' q H' f i
theorem SY(g:DT X B a tA)(j:DW X B (.BoolOp .Or (b::rest) pos) tB'):DW X B (.BoolOp .Or (a::b::rest) pos) (P6 tA tB'):=by
 refine AR (Rq g j) ?_
 rintro Z H Q ⟨U,M,QQ,s,h,u⟩
 refine#[U,M,_,s,h,λc M' q H' f i=>?_];cases c with
 |false=>exact#[U,M',QQ,s.go f i,q,u.go i]
 |true=>exact u _ M' q H' f i
def oQ(ta tb:ba):ba:=λU M Q=>ta U M λx M1=>O1 x (tb U M1 Q) (Q (.bl cp) M1)
def MS(ta:ba):ba:=λU M Q=>ta U M λx M1=>onB x λc=>Q (.bl<|!c) M1
theorem OD{op}(h:DE X B a t):DE X B (.BoolOp op [a] pos) t:=Ol h
theorem OS(g:DE X B a ta)(j:DE X B (.BoolOp .And (b::rest) pos) tb):DE X B (.BoolOp .And (a::b::rest) pos) (oQ ta tb):=by
 refine aT (Qy g j) ?_
 rintro Z H Q ⟨U,M,QQ,s,h,u⟩
 refine#[U,M,_,s,h,λd M' q v H' f i r=>?_];cases d with
 |bl c=>
  cases c with
  |true=>exact#[_,r,by exact#[U,M',QQ,s.go f i,q,u.go i]]
  |false=>exact#[_,r,by exact u _ M' q _ H' f i rfl]
 |_=>exact q.elim
theorem PJ(g:DE X B a ta):DE X B (.UnaryOp .Not a pos) (MS ta):=by
 refine aT (Oh g) ?_
 rintro Z H Q ⟨U,M,QQ,s,h,u⟩
 refine#[U,M,_,s,h,λd M' q v H' f i r=>?_];cases d with
 |bl c=>exact#[c,r,u _ M' q _ H' f i rfl]
 |_=>exact q.elim
def nv(t:fH)(ta tb:ba):ba:=λU M Q=>t U M λc M1=>if c=true then ta U M1 Q else tb U M1 Q
theorem EC(g:DT X B c tA)(j:DE X B a ta)(l:DE X B b tb):DE X B (.IfExp c a b pos) (nv tA ta tb):=by
 refine aT (Ha g j l) ?_
 rintro Z H Q ⟨U,M,QQ,s,h,u⟩
 refine#[U,M,_,s,h,λc M' q H' f i=>?_];cases c with
 |_=>exact#[U,M',QQ,s.go f i,q,u.go i]
def af:eJ:=λ_ M Q=>Q [] M
def aa(ta:ba)(tr:eJ):eJ:=λU M Q=>ta U M λx M1=>tr U M1 λf M2=>Q (x::f) M2
theorem P7:DA X B [] af:=by
 refine AA Hb ?_
 rintro Z H Q ⟨U,M,QQ,s,h,u⟩
 exact u [] M h [] H s.rh Frm.refl .nil
theorem Iv(n:DE X B e te)(q:DA X B es t)(o:eH (e::es) X.env=(cp,g3 e X.env)::eH es X.env:=by rfl):DA X B (e::es) (aa te t):=by
 refine AA (yW n q o) ?_
 rintro Z H Q ⟨U,M,QQ,s,h,u⟩
 exact#[U,M,_,s,h,λx M1 i v1 H1 f i1 m=>#[U,M1,_,s.go f i1,i,λv M2 l v2 H2 g i2 j=>u _ M2 l _ H2 g (i1.trans i2) (.cons (m.mf f i2) j)]]
def aS(t:eJ):ba:=λU M Q=>t U M λf M1=>f.length<=sizeLine/\Q (.tup f) M1
def bQ(t:eJ):ba:=λU M Q=>t U M λf M1=>f.length<=sizeLine/\∀p,M1 p=bb->Q (.ref p) (M1.upd p<|.lst f)
theorem Pb{x1}(h:DA X B es t):DE X B (.Tuple es x1 pos) (aS t):=by
 refine aT (Ox h) ?_
 rintro Z H Q ⟨U,M,QQ,s,h,u⟩
 exact#[U,M,_,s,h,λl M1 i v1 H1 g i1 j=>#[by rw[<- j.length];exact i.1,λp f=>u _ M1 i.2 _ _ (g.new f) (i1.trans<|Frm.new f) #[p,v1,rfl,upd_same,j.mono<|Imm.new f]]]
theorem NY(h:DA X B es t):DE X B (.List es pos) (bQ t):=by
 refine aT (P4 h) ?_
 rintro Z H Q ⟨U,M,QQ,s,h,u⟩
 exact#[U,M,_,s,h,λxs M1 h1 v1 H1 rh1 i1 r1=>#[by rw[<- r1.length];exact h1.1,λp hp=>u _ _ (h1.2 p<|rh1.fresh hp) _ _ (rh1.put (by rw[hp];trivial) #[v1,upd_same,r1.mono<|Imm.new hp]) (i1.trans<|Frm.put<|.inl hp) rfl]]
theorem Inv.freeze(I:Inv X g Z H s)(h:H p=ap (.lst vs)):∃o,Inv X g Z (upd H p<|.frz o<|.lst vs) s:=by
 obtain⟨i,n,r,e,z⟩:=I.lst h;have ne:∀{b:cb}{u:Option HO},H b=u->u≠ap (.lst vs)->b≠p:=λ{b u} q A z=>by subst z;rw[h]at q;exact A q.symm
 refine#[{ cls:=.type "list",data:=.seq i.toArray n },I.ok,I.os,I.bare,#[I.base.keep,I.base.slot,λb o q J C=>?_,I.base.there,λb j q=>?_,λb o u q=>?_,λb w q=>?_],I.loc,I.cell,?_,λx c q=>?_,λE F=>?_,λb o q=>?_,I.len]
 .have f:=I.base.free b o q J C
  rw[aD (ne f<|by simp)];exact f
 .have f:=I.base.tups b j q
  rw[aD (ne f<|by simp)];exact f
 .have f:=I.base.frzs b o u q
  rw[aD (ne f<|by simp)];exact f
 .obtain⟨more,f⟩:=I.base.tbls b w q
  exact#[more,by rw[aD (ne f<|by simp)];exact f]
 .rw[aD (ne I.free<|by simp)];exact I.free
 .have f:=I.freeC x c q
  rw[aD (ne f<|by simp)];exact f
 .obtain⟨v,m,G⟩:=I.pin E F
  exact#[v,by rw[aD (ne m<|by simp)];exact m,G]
 .by_cases l:b=p
  .subst l
   rw[upd_same]at q;cases q;refine#[e,?_];exact#[z,i,n,r,e]
  .rw[aD l]at q
   refine (I.hok b o q).stay (λ_ _ _ y=>y) (λc y=>?_) λc j y=>?_
   .rw[aD (ne y<|by simp)];exact y
   .rw[aD (ne y<|by simp)];exact y
def frz(d:D)(M:Mem)(Q:DK):Prop:=onRe d (λa=>mLe (M a) (λf=>Q (.lst f) (M.del a)) (Q d M)) (Q d M)
def am(t:ba):ba:=λU M Q=>t U M λd M'=>frz d M' Q
theorem RepH.freeze(r:RepH K H M)(h:H p=ap (.lst vs)):RepH K (upd H p<|.frz o<|.lst vs) (M.del p):=λb u e=>by
 unfold Mem.del at e
 split at e
 .cases e
 rename_i hb
 exact(r b u e).keep (Imm.upd<|by rw[h];trivial) (aD hb)
theorem NM(h:DE X B e te):DE X B e (am te):=by
 rintro l s Z H Q I ⟨U,M,QQ,m,x,u⟩
 refine bz (h _ s Z H (λv H'=>∃d M',RepH _ H' M'/\Frm M H M' H'/\Rp _ H' d v/\frz d M' QQ) I #[U,M,_,m,x,λd M' q v H' f i r=>#[d,M',f,i,r,q]]) ?_
 rintro w A ⟨v,H',I',g,d,M',f,i,r,q⟩
 unfold frz at q;rcases q.inv with⟨a,rfl,q⟩|q
 .rcases q.inv with⟨z,e,q⟩|q
  .obtain⟨n,j,y⟩:=f _ _ e
   obtain⟨o,I2⟩:=Inv.freeze I' j;exact#[v,_,I2,g,u _ _ q v _ (f.freeze j) (i.trans<|Frm.del #[_,e]) #[a,n,r,#[o,upd_same],y.mono<|Imm.upd<|by rw[j];trivial]]
  exact#[v,H',I',g,u _ _ q v H' f i r]
 exact#[v,H',I',g,u _ _ q v H' f i r]
end
def c_(M:Mem):D->Option (List D)
 |.lst xs=>ap xs
 |.ref a=>match M a with
  |some (.lst xs)=>ap xs
  |_=>bb
 |_=>bb
def aI(M:Mem):D->Option (List D)
 |.tup xs=>ap xs
 |.lst xs=>ap xs
 |.mt xs=>ap xs
 |.ml xs=>ap xs
 |.ref a=>match M a with
  |some (.lst xs)=>ap xs
  |_=>bb
 |_=>bb
theorem dj(i:RepH K H M)(r:Rp K H d v)(e:c_ M d=ap xs):∃p vs,v=.ref p/\Rd H p (.lst vs)/\Rps K H xs vs:=by
 cases d with
 |lst f=>
  cases e;obtain⟨p,vs,rfl,⟨o,h⟩,r⟩:=r;exact#[p,vs,rfl,.inr #[o,h],r]
 |ref a=>
  simp[c_]at e
  split at e
  .rename_i f q
   cases e;obtain⟨vs,b,g⟩:=i _ _ q;exact#[a,vs,r,.inl b,g]
  cases e
 |_=>cases e
theorem j9(i:RepH K H M)(r:Rp K H d v)(e:aI M d=ap xs):∃p vs,v=.ref p/\(SqL K H p vs\/ke K H p vs)/\Rps K H xs vs:=by
 cases d with
 |tup b=>
  cases e;obtain⟨p,vs,rfl,h,r⟩:=r;exact#[p,vs,rfl,.inr h.sq,r]
 |lst b=>
  cases e;obtain⟨p,vs,rfl,h,r⟩:=r;exact#[p,vs,rfl,.inl h.sq,r]
 |mt b=>
  cases e;obtain⟨p,vs,rfl,h,r⟩:=r;exact#[p,vs,rfl,.inr h.sq,r]
 |ml b=>
  cases e;obtain⟨p,vs,rfl,h,r⟩:=r;exact#[p,vs,rfl,.inl h.sq,r]
 |ref a=>
  simp[aI]at e
  split at e
  .rename_i b q
   cases e;obtain⟨vs,f,g⟩:=i _ _ q;exact#[a,vs,r,.inl (SqL.of f),g]
  cases e
 |_=>cases e
theorem II:cW X (kr .Add) (λx y H Q=>∃l b xs zs,x=.ref l/\y=.ref b/\Rd H l (.lst xs)/\Rd H b (.lst zs)/\xs.length+zs.length<=sizeLine/\∀p,H p=bb->Q (.ref p) (upd H p<|.lst (xs++zs))):=by
 rintro h s Z H x y v u Q I j m ⟨l,b,xs,zs,rfl,rfl,o,C,G,q⟩
 cases j;cases m;obtain⟨z,g,n,r,e⟩:=o.ok I.hok;obtain⟨F,f,J,i,A⟩:=C.ok I.hok;have L:=r.length;have E:=i.length;refine PySem.P.add_list e A ?_ (by simp_all)
 have w:g.toArray++f.toArray=(g++f).toArray:=by simp
 rw[w];exact#[.ref _,_,I.lnew (r.append i) (by rw[Ui];lia),rfl,q _ I.fresh]
def b6:gh:=λx y M Q=>onIST x (λi=>onI y λj=>Q (.int (i+j)) M) (λa=>onS y λb=>a.length+b.length<=sizeLine/\Q (.str (a++b)) M) (λxs=>onT y λf=>xs.length+f.length<=sizeLine/\Q (.tup (xs++f)) M) (so (c_ M x) λxs=>so (c_ M y) λf=>xs.length+f.length<=sizeLine/\∀p,M p=bb->Q (.ref p) (M.upd p<|.lst (xs++f)))
theorem KM:cW X (kr .Add) (liftR2 X b6):=by
 rintro aaN s Z H x y v u Q I rx ry ⟨d1,d2,M,QQ,rh,r1,r2,h,up⟩
 unfold b6 at h
 replace h:=h.inv
 rcases h with⟨i,rfl,h⟩|⟨a,rfl,h⟩|⟨xs,rfl,h⟩|h
 .obtain⟨_,rfl,h⟩:=h.inv
  cases r1;cases r2;exact Pn _ s Z H _ _ v u Q I rx ry #[_,_,rfl,rfl,up _ M h _ H rh Frm.refl rfl]
 .obtain⟨_,rfl,h⟩:=h.inv
  cases r1;cases r2;exact yi _ s Z H _ _ v u Q I rx ry #[_,_,rfl,rfl,h.1,up _ M h.2 _ H rh Frm.refl rfl]
 .obtain⟨_,rfl,h⟩:=h.inv
  obtain⟨p,vs,rfl,t1,r1⟩:=r1;obtain⟨p',vs',rfl,t2,r2⟩:=r2;have l1:=r1.length;have l2:=r2.length;have r12:=r1.append r2
  by_cases hx:vs=[]
  .subst hx
   exact FL _ s Z H _ _ v u Q I rx ry #[p,p',_,rfl,rfl,t1.sq,t2.sq,(up _ M h.2 _ H rh Frm.refl #[p',_,rfl,t2,r12])]
  refine Kb _ s Z H _ _ v u Q I rx ry #[p,p',vs,_,rfl,rfl,t1.sq,t2.sq,hx,by lia,λe=>?_,λ_ q hq=>?_]
  .subst e
   rw[UH]at r12;exact up _ M h.2 _ H rh Frm.refl #[p,vs,rfl,t1,r12]
  exact up _ M h.2 _ _ (rh.new hq) (Frm.new hq) #[q,_,rfl,upd_same,r12.mono<|Imm.new hq]
 obtain⟨xs,e1,h⟩:=h.inv;obtain⟨ys,e2,h⟩:=h.inv;obtain⟨p,vs,rfl,t1,r1⟩:=dj rh r1 e1;obtain⟨p',vs',rfl,t2,r2⟩:=dj rh r2 e2;have l1:=r1.length;have l2:=r2.length;exact II _ s Z H _ _ v u Q I rx ry #[p,p',vs,_,rfl,rfl,t1,t2,by lia,λq hq=>up _ _ (h.2 q<|rh.fresh hq) _ _ (rh.put (by rw[hq];trivial) #[_,upd_same,(r1.append r2).mono<|Imm.new hq]) (Frm.put<|.inl hq) rfl]
def oI(C:Int->Int->Prop)(g:Int->Int->D):gh:=λx y M Q=>onI x λi=>onI y λj=>C i j/\Q (g i j) M
theorem EW(h:cW X f (rI C g))(e:∀i j K H,Rp K H (g' i j) (g i j)):cW X f (liftR2 X<|oI C g'):=by
 rintro l s Z H x y v u Q I m o ⟨A,E,M,QQ,n,z,w,b,q⟩
 unfold oI at b
 replace b:=b.inv;obtain⟨_,rfl,b⟩:=b
 replace b:=b.inv;obtain⟨_,rfl,b⟩:=b
 cases z;cases w;exact h _ s Z H _ _ v u Q I m o #[_,_,rfl,rfl,b.1,q _ M b.2 _ H n Frm.refl<|e _ _ _ _]
def oo(g:Int->Int->D):gh:=λx y M Q=>onI x λi=>onI y λj=>Q (g i j) M
theorem ki(h:cW X f (Eh g))(e:∀i j K H,Rp K H (g' i j) (g i j)):cW X f (liftR2 X<|oo g'):=by
 rintro l s Z H x y v u Q I m o ⟨A,C,M,QQ,n,z,w,b,q⟩
 unfold oo at b
 replace b:=b.inv;obtain⟨_,rfl,b⟩:=b
 replace b:=b.inv;obtain⟨_,rfl,b⟩:=b
 cases z;cases w;exact h _ s Z H _ _ v u Q I m o #[_,_,rfl,rfl,q _ M b _ H n Frm.refl<|e _ _ _ _]
abbrev kM:gh:=oo λi j=>.int (i-j)
theorem Kd:cW X (kr .Sub) (liftR2 X kM):=ki PL λ_ _ _ _=>rfl
abbrev gb:gh:=oI (λ_ j=>0<j) λi j=>.int (i % j)
theorem IT:cW X (kr .Mod) (liftR2 X gb):=EW Qc λ_ _ _ _=>rfl
def Mc(_ j:Int):Prop:=0<j/\j<2 ^ 200
theorem Hx:cW X (kr .FloorDiv) (rI Mc λi j=>.int (i / j)):=by
 rintro f s Z H x y v u Q I g l ⟨i,j,rfl,rfl,m,q⟩
 obtain⟨o,n⟩:=m;have h:j.toNat=j:=by lia
 refine HN ?_ (by lia) _ s Z H _ _ v u Q I g l #[i,j,rfl,rfl,h.symm,q]
 have b:j.toNat<2 ^ 200:=by
  simp_all
 have:=(YM<|by lia).mpr b
 lia
abbrev vQ:gh:=oI Mc λi j=>.int (i / j)
theorem F_:cW X (kr .FloorDiv) (liftR2 X vQ):=EW Hx λ_ _ _ _=>rfl
abbrev Op:gh:=oI IN λi j=>.int (i ^ j.toNat)
theorem JO:cW X (kr .Pow) (liftR2 X Op):=EW OC λ_ _ _ _=>rfl
abbrev QT:gh:=oo λi j=>.int (Builtin.bitXor i j)
theorem KZ:cW X (kr .BitXor) (liftR2 X QT):=ki PN λ_ _ _ _=>rfl
abbrev Oc:gh:=oo λi j=>.int (Wj i j)
theorem JN:cW X (kr .BitAnd) (liftR2 X Oc):=ki ON λ_ _ _ _=>rfl
abbrev oOr:gh:=oo λi j=>.int (W7 i j)
theorem Nl:cW X (kr .BitOr) (liftR2 X oOr):=ki RG λ_ _ _ _=>rfl
abbrev OH:gh:=oI IN λi j=>.int (i*2 ^ j.toNat)
theorem Jo:cW X (kr .LShift) (liftR2 X OH):=EW Qq λ_ _ _ _=>rfl
abbrev Qa:gh:=oI (λ_ j=>0<=j) λi j=>.int (i / 2 ^ j.toNat)
theorem Kn:cW X (kr .RShift) (liftR2 X Qa):=EW N5 λ_ _ _ _=>rfl
abbrev Ed:gh:=oo λi j=>.bl (decide (i<j))
theorem Ov:cW X (kB .Lt) (liftR2 X Ed):=ki Sa λ_ _ _ _=>rfl
abbrev oLe:gh:=oo λi j=>.bl (decide (i<=j))
theorem P3:cW X (kB .LtE) (liftR2 X oLe):=ki Tj λ_ _ _ _=>rfl
abbrev Ir:gh:=oo λi j=>.bl (decide (j<i))
theorem Nb:cW X (kB .Gt) (liftR2 X Ir):=ki S3 λ_ _ _ _=>rfl
abbrev oGe:gh:=oo λi j=>.bl (decide (j<=i))
theorem Od:cW X (kB .GtE) (liftR2 X oGe):=ki SN λ_ _ _ _=>rfl
theorem Hn:∀(k:Nat)(aaQ:Array Nat),(Um k (Tw [c])).foldl (·++·) aaQ=aaQ++Vu k c
 |0,aaQ=>by simp
 |k+1,aaQ=>by
  rw[Vo,Va,Hn k _];apply Array.ext';simp[Vo]
theorem Hg:cW X (kr .Mult) (λx y H Q=>∃c k,x=.str #[(Tw [c])]/\y=.int k/\1<=k/\k<=1000/\Q (.str #[Vu k.toNat c]) H):=by
 intro i s Z H x y v u Q I j m h;obtain⟨c,k,rfl,rfl,o,z,q⟩:=h;obtain⟨t,rfl⟩:=j;obtain⟨w,rfl⟩:=m;have b:(#[(Tw [c])]:Str).length=1:=rfl;have l:sizeLine=16777216:=rfl;refine PySem.P.mul_str ?_ ?_ ?_ ?_
 .rw[decide_eq_false (by lia),decide_eq_false (by lia)];rfl
 .intro _ _ n
  rw[b]at n;have:(1:Int)<=(2 ^ 63-1) / k:=Int.le_ediv_of_mul_le (by lia) (by lia)
  lia
 .intro _ _
  rw[b];exact decide_eq_false (by lia)
 .rw[if_neg (by lia)]
  by_cases f:k=1
  .subst f
   exact#[.str #[(Tw [c])],H,I,#[_,rfl],q]
  .rw[if_neg (by simp[b,f])]
   have g:(Um k.toNat (Tw [c])).foldl (·++·) (Tw [])=Vu k.toNat c:=by rw[Hn];simp
   refine#[?_,.str _,H,I.tok _,#[_,rfl],by rw[g];exact q]
   show ((Um k.toNat (Tw [c])).foldl (·++·) (Tw [])).size<=sizeLine;rw[g];simp;lia
def jb:gh:=λx y M Q=>onI y λk=>onIST x (λi=>CMul i k/\Q (.int (i*k)) M) (λz=>one z.cps.toList λc=>1<=k/\k<=1000/\Q (.str #[Vu k.toNat c]) M) (λxs=>xs≠[]/\0<=k/\k<=1000/\xs.length<=1000/\Q (.tup (Um k.toNat xs).flatten) M) False
theorem Rps.rep(h:Rps K H ds vs):∀k:Nat,Rps K H (Um k ds).flatten (Um k vs).flatten
 |0=>rfl
 |k+1=>by
  exact h.append (Rps.rep h k)
theorem IK:cW X (kr .Mult) (liftR2 X jb):=by
 rintro E s Z H x y v u Q I m q ⟨O,d2,M,QQ,g,f,A,h,j⟩
 unfold jb at h;obtain⟨k,rfl,h⟩:=h.inv;cases O with
 |int i=>
  cases f;cases A;exact O2 _ s Z H _ _ v u Q I m q #[_,_,rfl,rfl,h.1,j _ M h.2 _ H g Frm.refl rfl]
 |str z=>
   cases f;cases A
   replace h:one _ _:=h
   obtain⟨c,e,h⟩:=h.inv;have N:z=#[(Tw [c])]:=by
    obtain⟨⟨l⟩⟩:=z
    simp_all
   subst N;exact Hg _ s Z H _ _ v u Q I m q #[_,_,rfl,rfl,h.1,h.2.1,j _ M h.2.2 _ H g Frm.refl rfl]
 |tup xs=>
   obtain⟨p,w,rfl,t1,f⟩:=f;cases A;obtain⟨n,R,P,T,F⟩:=h;have S:=f.length;obtain⟨t,rfl⟩:=q;cases m;obtain⟨L,r,J,_⟩:=I.tuple t1.sq;have W:=r.length;refine Dq J (λz=>n ?_) R P (by lia) (λe=>?_) λe=>?_
   .simp_all
   .refine#[.ref p,H,I,rfl,j _ M F _ H g Frm.refl #[p,w,rfl,t1,?_]]
    simp_all
   have C:=I.hok.fresh (TL _);have G:(Um k.toNat w).flatten.length<=sizeLine:=by
    rw[J8];have n:k.toNat*w.length<=1000*1000:=Nat.mul_le_mul (by lia) (by lia)
    exact TR n (by decide)
   exact#[.ref _,_,I.laid (o:=.tup _) (λb Y=>Tv _) (by lia) #[G,_,r.rep _,#[_,TF _ rfl,by lia,rfl]],rfl,
    j _ M F _ _ (g.new C) (Frm.new C) #[_,_,rfl,upd_same,(f.rep _).mono<|Imm.new C]]
 |_=>exact h.elim
def gw:D->Bool
 |.non=>true
 |_=>cp
def iC:gh:=λx y M Q=>onN y (Q (.bl<|gw x) M)
def fD:gh:=λx y M Q=>onN y (Q (.bl<|!gw x) M)
theorem EH(r:Rp K H d v):decide (v=V.non)=gw d:=by
 cases d with
 |non=>cases r;rfl
 |tup xs=>obtain⟨p,b,rfl,_⟩:=r;rfl
 |lst xs=>obtain⟨p,b,rfl,_⟩:=r;rfl
 |mt xs=>obtain⟨p,b,rfl,_⟩:=r;rfl
 |ml xs=>obtain⟨p,b,rfl,_⟩:=r;rfl
 |fd ks xs=>obtain⟨p,b,rfl,_⟩:=r;rfl
 |_=>cases r;rfl
theorem BI:cW X (kB .Is) (liftR2 X iC):=by
 rintro b s Z H x y v u Q I f i ⟨n,o,M,QQ,g,m,l,h,j⟩
 unfold iC at h;obtain⟨rfl,h⟩:=h.inv;cases l;exact OV _ s Z H _ _ v u Q I f i #[rfl,by rw[EH m];exact j _ M h _ H g Frm.refl rfl]
theorem HE:cW X (kB .IsNot) (liftR2 X fD):=by
 rintro b s Z H x y v u Q I f i ⟨n,o,M,QQ,g,m,l,h,j⟩
 unfold fD at h;obtain⟨rfl,h⟩:=h.inv;cases l;refine JD _ s Z H _ _ v u Q I f i #[rfl,j _ M h _ H g Frm.refl ?_];show _=V.bl _;rw[EH m]
section
variable{κ:Type}[DecidableEq κ]
noncomputable def cJ(aaP:List (κ×D))(k:κ):Option D:=(aaP.find? λb=>decide (b.1=k)).map (·.2)
noncomputable def dU(aaP:List (κ×D))(k:κ)(v:D):List (κ×D):=
 if (aaP.any λb=>decide (b.1=k))=true then aaP.map (λb=>if b.1=k then (b.1,v) else b) else aaP++[(k,v)]
noncomputable def qH(aaP:List (κ×D))(k:κ):List (κ×D):=aaP.filter λb=>decide (b.1≠k)
theorem Rkv.val{aaP:List (κ×D)}{f:List (κ×V)}(h:Rkv K H aaP f)(k:κ):(cJ aaP k=bb/\eG f k=bb)\/∃d v,cJ aaP k=ap d/\eG f k=ap v/\Rp K H d v:=by
 induction h with
 |nil=>exact .inl #[rfl,rfl]
 |@cons p q ps qs r t ih=>
  obtain⟨g,d⟩:=p;obtain⟨i,v⟩:=q;obtain⟨e,r⟩:=r;dsimp only at e r;subst e
  by_cases b:g=k
  .exact .inr #[d,v,by simp[cJ,b],by simp[eG,b],r]
  simpa [cJ,eG,b] using ih
theorem Rkv.any{aaP:List (κ×D)}{b:List (κ×V)}(h:Rkv K H aaP b)(k:κ):(aaP.any λkv=>decide (kv.1=k))=(b.any λkv=>decide (kv.1=k)):=by
 induction h<;>simp_all
theorem Rkv.put{aaP:List (κ×D)}{f:List (κ×V)}(h:Rkv K H aaP f)(k:κ){d:D}{v:V}(r:Rp K H d v):Rkv K H (dU aaP k d) (fu f k v):=by
 unfold dU fu;rw[h.any k]
 split
 .rename_i q;clear q
  induction h with
  |nil=>exact .nil
  |@cons p q ps qs rr t ih=>
   obtain⟨g,m⟩:=p;obtain⟨l,j⟩:=q;obtain⟨e,i⟩:=rr;dsimp only at e i;subst e;rw[TB,TB];refine .cons ?_ ih
   by_cases b:g=k
   .rw[if_pos b,if_pos b];trivial
   rw[if_neg b,if_neg b];trivial
 rename_i q;clear q
 induction h with
 |nil=>exact .cons #[rfl,r] .nil
 |cons rr t ih=>exact .cons rr ih
theorem Rkv.drop{aaP:List (κ×D)}{b:List (κ×V)}(h:Rkv K H aaP b)(k:κ):Rkv K H (qH aaP k) (iu b k):=by
 unfold qH iu
 induction h with
 |nil=>exact .nil
 |@cons p q ps qs rr t ih=>
  obtain⟨f,m⟩:=p;obtain⟨l,j⟩:=q;obtain⟨e,g⟩:=rr;subst e
  by_cases i:f=k
  .simp_all
  simp only[Uh,ne_eq,i];exact .cons #[rfl,g] ih
theorem Rkv.length{aaP:List (κ×D)}{b:List (κ×V)}(h:Rkv K H aaP b):aaP.length=b.length:=Vk h
end
def cN:D->Option aC
 |.int i=>ap (.inl i)
 |.str x=>ap (.inr x)
 |_=>bb
def fc:List D->Option (List aC)
 |[]=>ap []
 |d::ds=>match cN d,fc ds with
  |some k,ap ks=>ap (k::ks)
  |_,_=>bb
def Dz:D->Option (List aC)
 |.tup xs=>fc xs
 |_=>bb
theorem gW(r:Rp K H d v)(e:cN d=ap k):v=kV k:=by
 cases d with
 |int i=>cases e;exact r
 |str x=>cases e;exact r
 |_=>cases e
theorem mv:∀{ds:List D}{vs:List V}{ks:List aC},Rps K H ds vs->fc ds=ap ks->vs=ks.map kV
 |[],vs,ks,r,e=>by cases e;exact r
 |d::ds,vs,ks,r,e=>by
  obtain⟨v,i,rfl,a,b⟩:=r;simp[fc]at e
  split at e
  .rename_i k h f g
   cases e;rw[gW a f,mv b g];rfl
  cases e
def wa(M:Mem)(a:cb)(y:D):Option (Option D):=match M a with
 |some (.dK aaP)=>match cN y with
  |some k=>ap (cJ aaP k)
  |none=>bb
 |some (.dT aaP)=>match Dz y with
  |some k=>ap (cJ aaP k)
  |none=>bb
 |_=>bb
theorem nT(r:Rp K H d v)(e:Dz d=ap ks):∃b,v=.ref b/\H b=ap (.tup<|ks.map kV):=by
 cases d with
 |tup xs=>
  obtain⟨p,f,rfl,t,r⟩:=r;exact#[p,rfl,by rw[<- mv r e];exact t]
 |_=>cases e
theorem tY(q:RepH K H M)(r:Rp K H y v)(e:wa M a y=ap o):
  (o=bb/\DGet H a v bb)\/∃d w,o=ap d/\DGet H a v (ap w)/\Rp K H d w:=by
 unfold wa at e
 split at e
 .rename_i l j
  obtain⟨u,h,m⟩:=q _ _ j
  split at e
  .rename_i k i
   cases e;have s:=gW r i;subst s;rcases m.val k with⟨f,g⟩|⟨d,w,f,g,r'⟩
   .exact .inl #[f,by rw[<- g];exact DGet.k h]
   exact .inr #[d,w,f,by rw[<- g];exact DGet.k h,r']
  cases e
 .rename_i l j
  obtain⟨u,h,m⟩:=q _ _ j
  split at e
  .rename_i k i
   cases e;obtain⟨b,rfl,n⟩:=nT r i;rcases m.val k with⟨f,g⟩|⟨d,w,f,g,r'⟩
   .exact .inl #[f,by rw[<- g];exact DGet.t h n]
   exact .inr #[d,w,f,by rw[<- g];exact DGet.t h n,r']
  cases e
 cases e
end _3
namespace HT
open PySem PyProof.Rows
theorem ii(e:IsTup s.heap t a)(n:s.heap.IsSliceOf m l j .none)(pl:ZT l b)(q:ZT j f)
  (r:sIx a.size 0 b=0/\sIx a.size a.size f=a.size) (h:Q (.ref t) s):cT (eX prog w) A (ZU (.ref t)<|.ref m) Q E s:=by
 obtain⟨p,g,i,o⟩:=id n;unfold ZU
 try with_reducible refine kL ?_
 refine ax (wpAny_sequenceKey e.typeIs (by decide) ?_)
 refine ax (wpAny_callSpecial?_slot e.typeIs UN
  (n7 UN e.typeIs entry_tuple_getitem ?_<|args_tuple_getitem _ _))
 show cT _ _ (Xg _ >>= _) _ _ s;refine ax (tupleItemsOf_ e ?_);refine ax (Z1 #[p,g,i] ?_);refine ax (fj n pl q ?_);have c:((((sIx a.size 0 b):Int)==0&&(1:Int)==1&&(sIx a.size a.size f-sIx a.size 0 b)==a.size)=true):=by
  simp_all
 show cT _ _ (if (((sIx _ 0 b:Nat):Int)==0&&1==1&&(sIx _ _ f-sIx _ 0 b)==a.size)=true then _ else _) _ _ s
 rw[if_pos c];refine ax (ax<|wpAny_typeOf e.typeIs<|wpAny_pure ?_)
 first
  |exact ax _
  |exact ax (WP<|wpAny_pure #[_,rfl,cx h])
  |rfl
  |trace_state
end HT
namespace _3
open PySem _2
variable{p p':cb}{a b:aa5}{X:Cx}{c e:fy}{H:Hp}{Z:_2.St}{es:aa0}{aaT its':aaY}{i n:Nat}{s:ca}{x:Str}{K:TH}{u:ay}{g:jN}{r:nc}
def fE{α:Type}(xs:List α):Int->Option α
 |.ofNat k=>xs[k]?
 |.negSucc k=>_2.atI xs (.negSucc k)
theorem FU:∀{i:Int},fE xs i=_2.atI xs i
 |.negSucc _=>rfl
 |.ofNat k=>by
  unfold _2.atI yD;rw[if_pos (by lia)]
  by_cases f:k<xs.length
  .rw[if_pos (by simp_all)];rfl
  rw[if_neg (by simp_all)];exact UT (by lia)
def av:gh:=λx y M Q=>oe (aI M x) (λf=>onI y λi=>so (fE f i) λd=>Q d M) (onSR x (λz=>onI y λi=>z.length<=sizeLine/\so (fE z.cps.toList i) λc=>Q (.str #[(Tw [c])]) M) λa=>s2 (wa M a y) λd=>Q d M)
theorem Rps.atI{i:Int}(r:Rps K H ds vs)(e:fE ds i=ap d):∃v,_2.atI vs i=ap v/\Rp K H d v:=by
 rw[FU]at e;unfold _2.atI at e ⊢;rw[<- r.length];cases q:yD _ i with
 |none=>simp_all
 |some j=>
  rw[q]at e;exact r.get e
theorem Bu(E:X.A.units+1<ol):IxR X (λx y H Q=>∃a v,x=.ref a/\DGet H a y (ap v)/\Q v H):=by
 intro f j m s Z H x y v u Q I o z h C;obtain⟨a,w,rfl,g,q⟩:=h;cases o;exact PyProof.Rows.tail_any (ve I g) rfl (Ea E I g z λF G I3 l=>#[w,H,I3,l,q]) C
theorem Pk(U:X.A.units+1<ol):IxR X (liftR2 X av):=by
 intro j l o s Z H x y v u Q I E G h J;obtain⟨Y,d2,M,QQ,q,C,N,h,L⟩:=h;unfold av at h
 replace h:=h.inv;rcases h with⟨W,e,h⟩|⟨_,h⟩
 .replace h:=h.inv;obtain⟨i,rfl,h⟩:=h
  obtain⟨d,F,h⟩:=h.inv;cases N;obtain⟨p,R,rfl,hq,r⟩:=j9 q C e;obtain⟨w,P,f⟩:=r.atI F;refine NH _ _ _ s Z H _ _ v u Q I E G ?_ J;have m:=L _ M h _ H q Frm.refl f;rcases hq with hq|hq
  .exact .inl #[p,R,i,w,rfl,rfl,hq,P,m]
  exact .inr (.inl #[p,R,i,w,rfl,rfl,hq,P,m])
 replace h:=h.inv;rcases h with⟨z,rfl,h⟩|⟨a,rfl,h⟩
 .replace h:=h.inv;obtain⟨i,rfl,S,h⟩:=h
  obtain⟨T,O,h⟩:=h.inv;rw[FU]at O;cases C;cases N;exact Fx _ _ _ s Z H _ _ v u Q I E G #[_,_,T,rfl,rfl,S,O,L _ M h _ H q Frm.refl rfl] J
 obtain⟨d,F,h⟩:=h.inv;cases C;rcases tY q N F with⟨z,_⟩|⟨d',w,z,g,f⟩
 .cases z
 cases z;exact Bu U j l o s Z H _ _ v u Q I E G #[_,w,rfl,g,L _ M h _ H q Frm.refl f] J
abbrev Mh:=Dl->Mem->(Option Int->Mem->Prop)->Prop
inductive liftO(X:Cx)(B:Bd)(T:Mh)(Z:St)(H:Hp)(Q:Option Int->Hp->Prop):Prop
 |mk (U:Dl) (M:Mem) (QQ:Option Int->Mem->Prop) (s:SR X B U M Z H) (h:T U M QQ) (u:∀o M',QQ o M'->∀H',RepH X.K H' M'->Frm M H M' H'->Q o H'):liftO X B T Z H Q
def DO(X:Cx)(B:Bd)(e:Option fy)(T:Mh):Prop:=PO X e (liftO X B T)
theorem AK{e:Option fy}(h:PO X e t)(w:∀Z H Q,t' Z H Q->t Z H Q):PO X e t':=λf s Z H Q I q=>h _ s Z H Q I (w Z H Q q)
def cm:Mh:=λ_ M Q=>Q bb M
def dk(t:ba):Mh:=λU M Q=>t U M λx M1=>onI x λi=>Q (ap i) M1
theorem Kf:DO X B bb cm:=AK Ji (by rintro Z H Q ⟨U,M,QQ,s,h,u⟩;exact u _ M h H s.rh Frm.refl)
theorem Jx(h:DE X B e te):DO X B (ap e) (dk te):=by
 refine AK (KF h) ?_
 rintro Z H Q ⟨U,M,QQ,s,h,u⟩
 refine#[U,M,_,s,h,λd M' q v H' f i r=>?_];cases d with
 |int j=>exact#[j,r,u _ M' q H' f i]
 |_=>exact q.elim
def kP(xs:List D)(lo hi:Option Int):List D:=(xs.drop<|HT.sIx xs.length 0 lo).take (HT.sIx xs.length xs.length hi-HT.sIx xs.length 0 lo)
theorem Rps.cut(r:Rps K H ds vs)(f h:Option Int):Rps K H (kP ds f h) (pi vs f h):=by
 unfold kP pi;rw[<- r.length];exact(r.drop _).take _
def OL(x:D)(lo hi:Option Int)(M:Mem)(Q:DK):Prop:=onTM x (λf=>Q (.tup<|kP f lo hi) M) (λf=>∀p,M p=bb->Q (.ref p) (M.upd p<|.lst<|kP f lo hi)) (so (c_ M x) λf=>∀p,M p=bb->Q (.ref p) (M.upd p<|.lst<|kP f lo hi))
inductive liftSl(X:Cx)(x:V)(lo hi:Option Int)(H:Hp)(Q:VK):Prop
 |mk (d:D) (M:Mem) (QQ:DK) (rh:RepH X.K H M) (r:Rp X.K H d x) (h:OL d lo hi M QQ) (u:Up X.K M H QQ Q):liftSl X x lo hi H Q
theorem yg(h:HT.sIx vs.length 0 f=0/\HT.sIx vs.length vs.length j=vs.length):pi vs f j=vs:=by
 unfold pi
 simp_all
theorem L4:R8 X (λx lo hi H Q=>∃a xs,x=.ref a/\ke X.K H a xs/\(pi xs lo hi=xs->Q (.ref a) H)/\∀p,H p=bb->Q (.ref p) (upd H p<|.tup<|pi xs lo hi)):=by
 intro j s Z H x v E C lo hi G Q I m w pl o h;obtain⟨a,xs,rfl,y,F,q⟩:=h
 by_cases l:HT.sIx xs.length 0 lo=0/\HT.sIx xs.length xs.length hi=xs.length
 .cases m
  obtain⟨aaT,r,z,J⟩:=I.tuple y;have f:aaT.toArray.size=xs.length:=by rw[TZ];exact r.length.symm
  refine#["tuple",_,UN.lookup,z.typeIs,?_];exact HT.ii z w pl o (by rw[f];exact l) #[.ref a,H,I,rfl,F<|yg l]
 .exact NE j s Z H _ v E C lo hi G Q I m w pl o #[a,xs,rfl,y,l,q]
section
variable{p:Pos}{t:eJ}
theorem OM:R8 X (liftSl X):=by
 rintro aaN s Z H x v vl vu lo hi sl Q I rx hs pl pu ⟨d,M,QQ,rh,r,h,up⟩
 unfold OL at h
 replace h:=h.inv;rcases h with⟨xs,rfl,h⟩|⟨xs,rfl,h⟩|h
 .obtain⟨a,vs,rfl,ht,r⟩:=r
  exact L4 _ s Z H _ v vl vu lo hi sl Q I rx hs pl pu #[a,vs,rfl,ht.sq,λe=>up _ M h _ H rh Frm.refl #[a,vs,rfl,ht,by rw[<- e];exact r.cut lo hi],λp hp=>up _ M h _ _ (rh.new hp) (Frm.new hp) #[p,_,rfl,upd_same,(r.cut lo hi).mono<|Imm.new hp]]
 .obtain⟨a,vs,rfl,hq,r⟩:=r
  exact Cs _ s Z H _ v vl vu lo hi sl Q I rx hs pl pu #[a,vs,rfl,hq.sq,λp hp=>up _ _ (h p<|rh.fresh hp) _ _ (rh.put (by rw[hp];trivial) #[_,upd_same,(r.cut lo hi).mono<|Imm.new hp]) (Frm.put<|.inl hp) rfl]
 obtain⟨xs,e,h⟩:=h.inv;obtain⟨a,vs,rfl,hq,r⟩:=dj rh r e;exact Cs _ s Z H _ v vl vu lo hi sl Q I rx hs pl pu #[a,vs,rfl,.inl hq,λp hp=>up _ _ (h p<|rh.fresh hp) _ _ (rh.put (by rw[hp];trivial) #[_,upd_same,(r.cut lo hi).mono<|Imm.new hp]) (Frm.put<|.inl hp) rfl]
def wS(te:ba)(tl th:Mh):ba:=λU M Q=>te U M λx M1=>tl U M1 λl M2=>th U M2 λu M3=>OL x l u M3 Q
theorem Ga(E:DE X B e te)(z:DO X B lo tl)(C:DO X B hi th):DE X B (.Subscript e (.Slice lo hi bb p2) pos) (wS te tl th):=by
 refine aT (F1 OM E z C) ?_
 rintro Z H Q ⟨U,M,QQ,s,h,u⟩
 exact#[U,M,_,s,h,λx M1 o v1 H1 f i1 v=>#[U,M1,_,s.go f i1,o,λl M2 q H2 j i2=>#[U,M2,_,s.go j (i1.trans i2),q,λw M3 y H3 m i3=>#[x,M3,QQ,m,v.mf f (i2.trans i3),y,u.go<|(i1.trans i2).trans i3]]]]
abbrev nc:=List D->Mem->DK->Prop
inductive liftC(X:Cx)(r:nc)(xs:List V)(H:Hp)(Q:VK):Prop
 |mk (ds:List D) (M:Mem) (QQ:DK) (rh:RepH X.K H M) (rp:Rps X.K H ds xs) (h:r ds M QQ) (u:Up X.K M H QQ Q):liftC X r xs H Q
def bc(r:nc)(t:eJ):ba:=λU M Q=>t U M λf M1=>r f M1 Q
theorem uq(h:liftE X B (bc r t) Z H Q):tCB (liftC X r) (liftA X B t) Z H Q:=by
 obtain⟨U,M,QQ,s,h,u⟩:=h;exact#[U,M,_,s,h,λm M1 j o H1 f i1 l=>#[m,M1,QQ,f,l,j,u.go i1]]
theorem EZ{id:String}(f:bu X (.builtin id) (liftC X r))(j:Gl X x)(m:X.mg x=bb)(o:fv x=ap (.builtin id))(l:DA X B (e::es) t)(q:x≠"__name__":=by decide)(hdb:(x==("__debug__":Str))=false:=by decide)(he:eH (e::es) X.env=(cp,g3 e X.env)::eH es X.env:=by rfl)(hpl:(j0 pos<|starEach es X.env).any (·.1)=false:=by rfl):DE X B (.Call (.Name x p) (e::es) [] pos) (bc r t):=
 aT (Fo f j m o l q hdb he hpl) λ_ _ _ h=>uq h
theorem CS(f:bu X (.type T) (liftC X r))(j:Gl X x)(m:X.mg x=bb)(o:fv x=ap (.type T))(l:DA X B (e::es) t)(q:x≠"__name__":=by decide)(hdb:(x==("__debug__":Str))=false:=by decide)(he:eH (e::es) X.env=(cp,g3 e X.env)::eH es X.env:=by rfl)(hpl:(j0 pos<|starEach es X.env).any (·.1)=false:=by rfl):DE X B (.Call (.Name x p) (e::es) [] pos) (bc r t):=
 aT (DU f j m o l q hdb he hpl) λ_ _ _ h=>uq h
theorem fX{ds:List D}{vs:List V}{d:D}(r:Rps K H [d] vs):∃v,vs=[v]/\Rp K H d v:=by
 obtain⟨v,w,rfl,a,b⟩:=r;cases b;exact#[v,rfl,a]
theorem JV{e:D}(r:Rps K H [d,e] vs):∃v w,vs=[v,w]/\Rp K H d v/\Rp K H e w:=by
 obtain⟨v,w,rfl,a,b⟩:=r;obtain⟨f,j,rfl,h,b⟩:=b;cases b;exact#[v,f,rfl,a,h]
def cq:nc:=λj M Q=>one j λd=>oe (aI M d) (λh=>Q (.int h.length) M) (onSR d (λz=>z.length<=sizeLine/\Q (.int z.length) M) λa=>mK (M a) λf=>Q (.int f.length) M)
theorem E6:bu X (.builtin "len") (liftC X cq):=by
 rintro o s Z H N m Q I r ⟨ds,M,QQ,f,C,h,l⟩
 unfold cq at h
 replace h:=h.inv;obtain⟨d,rfl,h⟩:=h
 obtain⟨v,rfl,j⟩:=fX (ds:=[]) C
 replace h:=h.inv;rcases h with⟨O,e,h⟩|⟨_,h⟩
 .obtain⟨q,F,rfl,y,J⟩:=j9 f j e
  exact sD _ s Z H _ m Q I r #[q,F,rfl,y,by rw[<- J.length];exact l _ M h _ H f Frm.refl rfl]
 replace h:=h.inv;rcases h with⟨z,rfl,h⟩|⟨a,rfl,h⟩
 .cases j
  exact ub _ s Z H _ m Q I r #[_,rfl,h.1,l _ M h.2 _ H f Frm.refl rfl]
 obtain⟨E,e,h⟩:=h.inv;cases j;obtain⟨G,w,L⟩:=f _ _ e;exact E3 _ s Z H _ m Q I r #[_,G,rfl,w,by rw[<- L.length];exact l _ M h _ H f Frm.refl rfl]
def dS:nc:=λh M Q=>one h λd=>so (aI M d) λf=>∀p,M p=bb->Q (.ref p) (M.upd p<|.lst f)
theorem xb:bu X (.type "list") (liftC X dS):=by
 rintro aaN s Z H xs us Q I r ⟨ds,M,QQ,rh,rp,h,up⟩
 unfold dS at h
 replace h:=h.inv;obtain⟨_,rfl,h⟩:=h
 obtain⟨v,rfl,rv⟩:=fX (ds:=[]) rp;obtain⟨ys,e,h⟩:=h.inv;obtain⟨q,vs,rfl,hq,rr⟩:=j9 rh rv e;exact tD _ s Z H _ us Q I r #[q,vs,rfl,hq,λp hp=>up _ _ (h p<|rh.fresh hp) _ _ (rh.put (by rw[hp];trivial) #[_,upd_same,rr.mono<|Imm.new hp]) (Frm.put<|.inl hp) rfl]
def bW:nc:=λh M Q=>one h λd=>onTe d (λf=>Q (.tup f) M) (so (c_ M d) λf=>Q (.tup f) M)
theorem uK:bu X (.type "tuple") (liftC X bW):=by
 rintro w s Z H F z Q I r ⟨ds,M,QQ,j,G,h,y⟩
 unfold bW at h
 replace h:=h.inv;obtain⟨d,rfl,h⟩:=h
 obtain⟨v,rfl,o⟩:=fX (ds:=[]) G
 replace h:=h.inv;rcases h with⟨F,rfl,h⟩|h
 .obtain⟨q,f,rfl,C,m⟩:=o
  exact iq _ s Z H _ z Q I r #[q,f,rfl,.inr #[C.sq,y _ M h _ H j Frm.refl #[q,f,rfl,C,m]]]
 obtain⟨J,e,h⟩:=h.inv;obtain⟨q,f,rfl,E,m⟩:=dj j o e;exact iq _ s Z H _ z Q I r #[q,f,rfl,.inl #[.inl E,λp l=>y _ M h _ _ (j.new l) (Frm.new l) #[p,_,rfl,upd_same,m.mono<|Imm.new l]]]
def eh(M:Mem):D->Option String
 |.non=>ap "NoneType"
 |.bl _=>ap "bool"
 |.int _=>ap "int"
 |.str _=>ap "str"
 |.tup _=>ap "tuple"
 |.lst _=>ap "list"
 |.ref a=>match M a with
  |some (.lst _)=>ap "list"
  |some (.dK _)=>ap "dict"
  |some (.dT _)=>ap "dict"
  |_=>bb
 |_=>bb
noncomputable def bv(t T:String):Bool:=t==T||(t=="bool"&&T=="int")
noncomputable def mM(T:String):Bool:=T=="bool"||T=="int"||T=="str"||T=="tuple"||T=="list"||T=="dict"
theorem JE:(∀K:TH,∀t∈["NoneType","bool","int","str","tuple","list","dict"],∀T∈["bool","int","str","tuple","list","dict"],W.kitOne K (.type t) (.type T)=ap (bv t T)):=by
 intro K t h T f;simp at h f;rcases h with rfl|rfl|rfl|rfl|rfl|rfl|rfl<;>rcases f with rfl|rfl|rfl|rfl|rfl|rfl<;>kernel_rfl
theorem L5{t:String}(j:RepH K H M)(r:Rp K H d v)(e:eh M d=ap t):TyOf K H v (.type t)/\t∈["NoneType","bool","int","str","tuple","list","dict"]:=by
 cases d with
 |non=>cases r;cases e;exact#[.non,by simp]
 |bl b=>cases r;cases e;exact#[.bl b,by simp]
 |int i=>cases r;cases e;exact#[.int i,by simp]
 |str x=>cases r;cases e;exact#[.str x,by simp]
 |tup xs=>
  cases e;obtain⟨q,y,rfl,h,w⟩:=r;exact#[.tup h,by simp]
 |lst xs=>
  cases e;obtain⟨q,y,rfl,⟨o,h⟩,w⟩:=r;exact#[.frz h,by simp]
 |ref a=>
  cases r;simp[eh]at e
  split at e
  .rename_i q;cases e;obtain⟨m,f,l⟩:=j _ _ q;exact#[.lst f,by simp]
  .rename_i q;cases e;obtain⟨m,f,l⟩:=j _ _ q;exact#[.dK f,by simp]
  .rename_i q;cases e;obtain⟨m,f,l⟩:=j _ _ q;exact#[.dT f,by simp]
  cases e
 |_=>cases e
def d_:nc:=λf M Q=>two f λd e=>onTy e λT=>mM T=true/\so (eh M d) λt=>Q (.bl<|bv t T) M
theorem tH:bu X (.builtin "isinstance") (liftC X d_):=by
 rintro l s Z H E z Q I r ⟨F,M,QQ,j,q,h,y⟩
 unfold d_ at h
 replace h:=h.inv;obtain⟨d,T',rfl,h⟩:=h
 replace h:=h.inv;obtain⟨T,rfl,m,h⟩:=h
 obtain⟨v,w,rfl,o,f⟩:=JV q;cases f;obtain⟨t,e,h⟩:=h.inv;obtain⟨ty,C⟩:=L5 j o e;refine vd _ s Z H _ z Q I r #[v,T,_,_,rfl,ty,JE _ t C T ?_,y _ M h _ H j Frm.refl rfl];simp[mM]at m;simp;rcases m with ((((h|h)|h)|h)|h)|h<;>simp[h]
def pW:List D->Option (List Bool)
 |[]=>ap []
 |.bl b::ds=>match pW ds with
  |some bs=>ap (b::bs)
  |none=>bb
 |_=>bb
theorem qm:∀{ds:List D}{vs:List V}{bs:List Bool},Rps K H ds vs->pW ds=ap bs->vs=bs.map V.bl
 |[],vs,bs,r,e=>by cases e;exact r
 |d::ds,vs,bs,r,e=>by
  obtain⟨v,j,rfl,a,b⟩:=r;cases d with
  |bl c=>
   simp[pW]at e
   split at e
   .rename_i h f
    cases e;cases a;rw[qm b f];rfl
   cases e
  |_=>cases e
def O_:nc:=λh M Q=>one h λd=>so (c_ M d) λf=>so (pW f) λbs=>Q (.bl<|bs.all id) M
theorem E8(F:X.calm=true):bu X (.builtin "all") (liftC X O_):=by
 rintro j s Z H G z Q I r ⟨ds,M,QQ,f,o,h,w⟩
 unfold O_ at h
 replace h:=h.inv;obtain⟨_,rfl,h⟩:=h
 obtain⟨v,rfl,l⟩:=fX (ds:=[]) o;obtain⟨L,e,h⟩:=h.inv;obtain⟨bs,E,h⟩:=h.inv;obtain⟨q,J,rfl,m,C⟩:=dj f l e;have y:=qm C E;subst y;exact GD F _ s Z H _ z Q I r #[q,bs,rfl,.inl m,w _ M h _ H f Frm.refl rfl]
def FJ:nc:=λl M Q=>two l λf h=>onI f λi=>onI h λj=>Q (.int (if j<i then j else i)) M
theorem Dw(z:X.calm=true):bu X (.builtin "min") (liftC X FJ):=by
 rintro j s Z H C y Q I r ⟨E,M,QQ,m,o,h,q⟩
 unfold FJ at h
 replace h:=h.inv;obtain⟨F,G,rfl,h⟩:=h
 replace h:=h.inv;obtain⟨_,rfl,h⟩:=h
 replace h:=h.inv;obtain⟨_,rfl,h⟩:=h
 obtain⟨v,w,rfl,l,f⟩:=JV o;cases l;cases f;exact Dp z _ s Z H _ y Q I r #[_,_,rfl,q _ M h _ H m Frm.refl rfl]
def J4:nc:=λh M Q=>two h λf l=>onI f λi=>onI l λj=>Q (.int (if j>i then j else i)) M
theorem DQ(z:X.calm=true):bu X (.builtin "max") (liftC X J4):=by
 rintro j s Z H C y Q I r ⟨F,M,QQ,m,o,h,q⟩
 unfold J4 at h
 replace h:=h.inv;obtain⟨G,E,rfl,h⟩:=h
 replace h:=h.inv;obtain⟨_,rfl,h⟩:=h
 replace h:=h.inv;obtain⟨_,rfl,h⟩:=h
 obtain⟨v,w,rfl,l,f⟩:=JV o;cases l;cases f;exact Dc z _ s Z H _ y Q I r #[_,_,rfl,q _ M h _ H m Frm.refl rfl]
end
mutual
def aR:D->D->Bool
 |.non,.non=>true
 |.bl a,.bl b=>a==b
 |.bl a,.int b=>(if a then 1 else 0)==b
 |.int a,.bl b=>a==(if b then 1 else 0)
 |.int a,.int b=>decide (a=b)
 |.str a,.str b=>decide (a=b)
 |.tup xs,.tup ys=>jd xs ys
 |.lst xs,.lst ys=>jd xs ys
 |_,_=>cp
def jd:List D->List D->Bool
 |[],[]=>true
 |x::xs,y::ys=>aR x y&&jd xs ys
 |_,_=>cp
end
mutual
def bX:Nat->D->Bool
 |_,.non=>true
 |_,.bl _=>true
 |_,.int _=>true
 |_,.str _=>true
 |n+1,.tup xs=>fits n xs
 |n+1,.lst xs=>fits n xs
 |_,_=>cp
def fits:Nat->List D->Bool
 |_,[]=>true
 |n,x::xs=>bX n x&&fits n xs
end
mutual
def Hr(h:g4):D->ay->Prop
 |.non,u=>u=.none
 |.bl b,u=>u=.bool b
 |.int i,u=>∃t,u=.int i t
 |.str x,u=>∃t,u=.str x t
 |.tup xs,u=>∃p aaT,u=.ref p/\h.IsTuple p (VD aaT)/\Hrs h xs aaT
 |.lst xs,u=>∃p aaT,u=.ref p/\h.IsList p (VD aaT)/\Hrs h xs aaT
 |_,_=>False
def Hrs(h:g4):List D->List ay->Prop
 |[],us=>us=[]
 |x::xs,us=>∃u r,us=u::r/\Hr h x u/\Hrs h xs r
end
section
variable{h:g4}
theorem Hrs.length:∀{ds:List D}{us:aaY},Hrs h ds us->ds.length=us.length
 |[],_,q=>by cases q;rfl
 |_::_,_,q=>by obtain⟨v,r,rfl,_,b⟩:=q;simp[b.length]
theorem Hrs.get:∀{ds:List D}{us:aaY},Hrs h ds us->∀(i:Nat)(h1:i<ds.length)(h2:i<us.length),Hr h ds[i] us[i]
 |[],_,_,i,h1,_=>absurd h1 (by trivial)
 |x::xs,_,q,i,h1,h2=>by
  obtain⟨v,r,rfl,a,b⟩:=q;cases i with
  |zero=>exact a
  |succ i=>exact b.get i _ _
theorem BN(x:h.IsTuple p a)(y:h.IsTuple p b):a=b:=by
 obtain⟨o,l,_,n,v⟩:=x;obtain⟨q,f,_,m,j⟩:=y
 simp_all
theorem Az(x:h.IsList p a)(y:h.IsList p b):a=b:=by
 obtain⟨o,l,_,n,v⟩:=x;obtain⟨q,f,_,m,j⟩:=y
 simp_all
theorem Rz(x:h.IsList p a)(y:h.IsTuple p b):False:=by
 obtain⟨o,j,c,_⟩:=x;obtain⟨m,f,l,_⟩:=y
 simp_all
mutual
theorem HW:∀{d e:D}{u:ay},Hr h d u->Hr h e u->d=e
 |.non,e,u,a,b=>by
  cases a;cases e with
  |non=>rfl
  |bl _=>cases b
  |int _=>obtain⟨t,q⟩:=b;cases q
  |str _=>obtain⟨t,q⟩:=b;cases q
  |tup _=>obtain⟨p,i,q,_⟩:=b;cases q
  |lst _=>obtain⟨p,i,q,_⟩:=b;cases q
  |_=>exact(show False from b).elim
 |.bl c,e,u,a,b=>by
  cases a;cases e with
  |non=>cases b
  |bl _=>cases b;rfl
  |int _=>obtain⟨t,q⟩:=b;cases q
  |str _=>obtain⟨t,q⟩:=b;cases q
  |tup _=>obtain⟨p,i,q,_⟩:=b;cases q
  |lst _=>obtain⟨p,i,q,_⟩:=b;cases q
  |_=>exact(show False from b).elim
 |.int c,e,u,a,b=>by
  obtain⟨t,rfl⟩:=a;cases e with
  |non=>cases b
  |bl _=>cases b
  |int _=>obtain⟨t,q⟩:=b;cases q;rfl
  |str _=>obtain⟨t,q⟩:=b;cases q
  |tup _=>obtain⟨p,i,q,_⟩:=b;cases q
  |lst _=>obtain⟨p,i,q,_⟩:=b;cases q
  |_=>exact(show False from b).elim
 |.str c,e,u,a,b=>by
  obtain⟨t,rfl⟩:=a;cases e with
  |non=>cases b
  |bl _=>cases b
  |int _=>obtain⟨t,q⟩:=b;cases q
  |str _=>obtain⟨t,q⟩:=b;cases q;rfl
  |tup _=>obtain⟨p,i,q,_⟩:=b;cases q
  |lst _=>obtain⟨p,i,q,_⟩:=b;cases q
  |_=>exact(show False from b).elim
 |.tup xs,e,u,a,b=>by
  obtain⟨p,aaT,rfl,t1,j⟩:=a;cases e with
  |non=>cases b
  |bl _=>cases b
  |int _=>obtain⟨t,q⟩:=b;cases q
  |str _=>obtain⟨t,q⟩:=b;cases q
  |tup ys=>
   obtain⟨p',its',q,t2,f⟩:=b;cases q;have e:=BN t1 t2;have l:aaT=its':=by simpa using congrArg Wm e
   subst l;rw[j7 j f]
  |lst ys=>obtain⟨p',its',q,t2,f⟩:=b;cases q;exact(Rz t2 t1).elim
  |_=>exact(show False from b).elim
 |.lst xs,e,u,a,b=>by
  obtain⟨p,aaT,rfl,t1,j⟩:=a;cases e with
  |non=>cases b
  |bl _=>cases b
  |int _=>obtain⟨t,q⟩:=b;cases q
  |str _=>obtain⟨t,q⟩:=b;cases q
  |lst ys=>
   obtain⟨p',its',q,t2,f⟩:=b;cases q;have e:=Az t1 t2;have l:aaT=its':=by simpa using congrArg Wm e
   subst l;rw[j7 j f]
  |tup ys=>obtain⟨p',its',q,t2,f⟩:=b;cases q;exact(Rz t1 t2).elim
  |_=>exact(show False from b).elim
 |.ty _,_,_,a,_=>(show False from a).elim
 |.ref _,_,_,a,_=>(show False from a).elim
 |.mt _,_,_,a,_=>(show False from a).elim
 |.ml _,_,_,a,_=>(show False from a).elim
 |.fd _ _,_,_,a,_=>(show False from a).elim
theorem j7:∀{ds es:List D}{us:aaY},Hrs h ds us->Hrs h es us->ds=es
 |[],es,us,a,b=>by
  cases a;cases es with
  |nil=>rfl
  |cons _ _=>obtain⟨v,r,q,_⟩:=b;cases q
 |d::ds,es,us,a,b=>by
  obtain⟨v,r,rfl,f,j⟩:=a;cases es with
  |nil=>cases b
  |cons e es=>
   obtain⟨o,w,q,l,m⟩:=b;cases q;rw[HW f l,j7 j m]
end
mutual
theorem F9:∀{n:Nat}{d:D},bX n d=true->aR d d=true
 |_,.non,_=>by simp[aR]
 |_,.bl _,_=>by simp[aR]
 |_,.int _,_=>by simp[aR]
 |_,.str _,_=>by simp[aR]
 |0,.tup _,f=>by simp[bX]at f
 |0,.lst _,f=>by simp[bX]at f
 |n+1,.tup xs,f=>by rw[aR];exact fJ (n:=n) f
 |n+1,.lst xs,f=>by rw[aR];exact fJ (n:=n) f
 |_,.ty _,f=>by simp[bX]at f
 |_,.ref _,f=>by simp[bX]at f
 |_,.mt _,f=>by simp[bX]at f
 |_,.ml _,f=>by simp[bX]at f
 |_,.fd _ _,f=>by simp[bX]at f
theorem fJ:∀{n:Nat}{ds:List D},fits n ds=true->jd ds ds=true
 |_,[],_=>by simp[jd]
 |n,x::xs,f=>by
  rw[fits,Vf]at f;rw[jd,F9 f.1,fJ f.2];rfl
end
theorem dZ:∀{xs ys:List D},xs.length≠ys.length->jd xs ys=cp
 |[],[],h=>absurd rfl h
 |[],_::_,_=>by simp[jd]
 |_::_,[],_=>by simp[jd]
 |x::xs,y::ys,h=>by rw[jd,dZ (by simpa using h),VV]
theorem iW:∀(xs ys:List D)(f:Nat->Bool),xs.length=ys.length->(∀j (h1:j<xs.length)(h2:j<ys.length),f j=aR xs[j] ys[j])->(Ub xs.length).all f=jd xs ys
 |[],[],f,_,_=>by simp[jd]
 |[],_::_,_,h,_=>by simp at h
 |_::_,[],_,h,_=>by simp at h
 |x::xs,y::ys,f,h,hf=>by
  rw[Ug,List.range_succ_eq_map,List.all_cons,List.all_map,jd,<- (iW xs ys (λj=>f (j+1)) (by simpa using h)<|by simp_all)]
  rw[(hf 0 (by simp)<|by simp)]
  rfl
theorem dY:∀{n:Nat}{xs:List D},fits n xs=true->∀(j:Nat)(h1:j<xs.length),bX n xs[j]=true
 |_,[],_,j,h1=>absurd h1 (by trivial)
 |n,x::xs,f,j,h1=>by
  rw[fits,Vf]at f;cases j with
  |zero=>exact f.1
  |succ j=>exact dY f.2 j _
noncomputable def mI:D->Option V
 |.non=>ap .non
 |.bl b=>ap (.bl b)
 |.int i=>ap (.int i)
 |.str x=>ap (.str x)
 |_=>bb
theorem lZ(e:mI d=ap v)(r:Hr h d u):RelV v u/\HV v=true:=by
 cases d with
 |non=>cases e;trivial
 |bl b=>cases e;trivial
 |int b=>cases e;trivial
 |str b=>cases e;trivial
 |_=>cases e
theorem vt{e:D}(j:mI d=ap v)(f:mI e=ap w):wR v w=aR d e:=by
 cases d with
 |non=>cases j;cases e with|non=>cases f;simp[wR,aR]|bl b=>cases f;simp[wR,aR]|int b=>cases f;simp[wR,aR]|str b=>cases f;simp[wR,aR]|_=>cases f
 |bl a=>cases j;cases e with|non=>cases f;simp[wR,aR]|bl b=>cases f;simp[wR,aR]|int b=>cases f;simp[wR,aR]|str b=>cases f;simp[wR,aR]|_=>cases f
 |int a=>cases j;cases e with|non=>cases f;simp[wR,aR]|bl b=>cases f;simp[wR,aR]|int b=>cases f;rfl|str b=>cases f;simp[wR,aR]|_=>cases f
 |str a=>cases j;cases e with|non=>cases f;simp[wR,aR]|bl b=>cases f;simp[wR,aR]|int b=>cases f;simp[wR,aR]|str b=>cases f;rfl|_=>cases f
 |_=>cases j
end
theorem Lg:∀(n:Nat){A:h7}{s:ca}{d e:D}{u w:ay},Hr s.heap d u->Hr s.heap e w->bX n d=true->bX n e=true->A.units+n<ol->WY A s u w (aR d e):=by
 intro n
 induction n with
 |zero=>
  intro A s d e u w l h fd N hu;have T:∃v,mI d=ap v:=by cases d<;>first|exact#[_,rfl]|(simp[bX]at fd)
  have S:∃v,mI e=ap v:=by cases e<;>first|exact#[_,rfl]|(simp[bX]at N)
  obtain⟨v1,I⟩:=T;obtain⟨v2,R⟩:=S;obtain⟨W,b1⟩:=lZ I l;obtain⟨Y,b2⟩:=lZ R h;rw[<- vt I R];exact EQ W Y b1 b2
 |succ n ih=>
  intro A s d e u w l h fd N hu;have f:A.units<cLine:=by lia
  have P:A.in1.units+n<cLine:=by show A.units+1+n<ol;lia
  by_cases T:∃v,mI d=ap v
  .obtain⟨v1,I⟩:=T
   obtain⟨W,b1⟩:=lZ I l
   by_cases S:∃v,mI e=ap v
   .obtain⟨v2,R⟩:=S
    obtain⟨Y,b2⟩:=lZ R h;rw[<- vt I R];exact EQ W Y b1 b2
   .cases e with
    |tup ys=>
     obtain⟨p,aaT,rfl,t,_⟩:=h;cases d with
     |non=>cases l;simp only[aR];exact .none_tuple t f
     |bl b=>cases l;simp only[aR];exact .bool_tuple b t f
     |int b=>obtain⟨o,rfl⟩:=l;simp only[aR];exact .int_tuple b o t f
     |str b=>obtain⟨o,rfl⟩:=l;simp only[aR];exact .str_tuple b o t f
     |_=>cases I
    |lst ys=>
     obtain⟨p,aaT,rfl,t,_⟩:=h;cases d with
     |non=>cases l;simp only[aR];exact .none_list t f
     |bl b=>cases l;simp only[aR];exact .bool_list b t f
     |int b=>obtain⟨o,rfl⟩:=l;simp only[aR];exact .int_list b o t f
     |str b=>obtain⟨o,rfl⟩:=l;simp only[aR];exact .str_list b o t f
     |_=>cases I
    |ty _=>exact(show False from h).elim
    |ref _=>exact(show False from h).elim
    |mt _=>exact(show False from h).elim
    |ml _=>exact(show False from h).elim
    |fd _ _=>exact(show False from h).elim
    |_=>exact absurd #[_,rfl] S
  .cases d with
   |tup xs=>
    obtain⟨p,aaT,rfl,t1,G⟩:=l;cases e with
    |non=>cases h;simp only[aR];exact .tuple_none t1 f
    |bl b=>cases h;simp only[aR];exact .tuple_bool b t1 f
    |int b=>obtain⟨o,rfl⟩:=h;simp only[aR];exact .tuple_int b o t1 f
    |str b=>obtain⟨o,rfl⟩:=h;simp only[aR];exact .tuple_str b o t1 f
    |tup ys=>
     obtain⟨p',its',rfl,t2,E⟩:=h;rw[aR]
     by_cases Q:p=p'
     .subst Q
      have e':aaT=its':=by simpa using congrArg Wm (BN t1 t2)
      subst e';rw[j7 G E,fJ (n:=n) N];exact .same _
     .refine .of_refs Q ?_
      have U:=G.length;have l2:=E.length;have F:∀j (z:j<aaT.toArray.size)(C:j<its'.toArray.size),WY A.in1 s aaT.toArray[j] its'.toArray[j] (match xs[j]?,ys[j]? with|some x,ap y=>aR x y|_,_=>cp):=λj z C=>by
       have q:j<xs.length:=by rw[U];simpa using z
       have m:j<ys.length:=by rw[l2];simpa using C
       rw[Tx q,Tx m];exact ih (G.get j q<|by simpa using z) (E.get j m<|by simpa using C) (dY fd j q) (dY N j m) P
      have:=Ym (e:=λj=>match xs[j]?,ys[j]? with|some x,ap y=>aR x y|_,_=>cp) t1 t2 f F
      by_cases O:xs.length=ys.length
      .have L:aaT.toArray.size=its'.toArray.size:=by simp;lia
       rw[L]at this;simp only[Yw,beq_self_eq_true,Yj]at this;have J:its'.toArray.size=xs.length:=by simp;lia
       rw[J,iW xs ys _ O (λj z C=>by rw[Tx z,Tx C])]at this
       exact this
      .have L:(aaT.toArray.size==its'.toArray.size)=false:=by simp;lia
       rw[L,VV]at this;rw[dZ O];exact this
    |lst ys=>obtain⟨p',its',rfl,t2,E⟩:=h;simp only[aR];exact .tuple_list t1 t2 f
    |_=>exact(show False from h).elim
   |lst xs=>
    obtain⟨p,aaT,rfl,t1,G⟩:=l;cases e with
    |non=>cases h;simp only[aR];exact .list_none t1 f
    |bl b=>cases h;simp only[aR];exact .list_bool b t1 f
    |int b=>obtain⟨o,rfl⟩:=h;simp only[aR];exact .list_int b o t1 f
    |str b=>obtain⟨o,rfl⟩:=h;simp only[aR];exact .list_str b o t1 f
    |lst ys=>
     obtain⟨p',its',rfl,t2,E⟩:=h;rw[aR]
     by_cases Q:p=p'
     .subst Q
      have e':aaT=its':=by simpa using congrArg Wm (Az t1 t2)
      subst e';rw[j7 G E,fJ (n:=n) N];exact .same _
     .refine .of_refs Q ?_
      have U:=G.length;have l2:=E.length
      by_cases O:xs.length=ys.length
      .have F:∀j (z:j<aaT.toArray.size)(C:j<its'.toArray.size),WY A.in1 s aaT.toArray[j] its'.toArray[j] (match xs[j]?,ys[j]? with|some x,ap y=>aR x y|_,_=>cp):=λj z C=>by
        have q:j<xs.length:=by rw[U];simpa using z
        have m:j<ys.length:=by rw[l2];simpa using C
        rw[Tx q,Tx m];exact ih (G.get j q<|by simpa using z) (E.get j m<|by simpa using C) (dY fd j q) (dY N j m) P
       have:=Yq (e:=λj=>match xs[j]?,ys[j]? with|some x,ap y=>aR x y|_,_=>cp) t1 t2 (by simp;lia) f F
       have J:aaT.toArray.size=xs.length:=by simp;lia
       rw[J,iW xs ys _ O (λj z C=>by rw[Tx z,Tx C])]at this
       exact this
      .rw[dZ O]
       exact Xu t1 t2 (by simp;lia) f
    |tup ys=>obtain⟨p',its',rfl,t2,E⟩:=h;simp only[aR];exact .list_tuple t1 t2 f
    |_=>exact(show False from h).elim
   |ty _=>exact(show False from l).elim
   |ref _=>exact(show False from l).elim
   |mt _=>exact(show False from l).elim
   |ml _=>exact(show False from l).elim
   |fd _ _=>exact(show False from l).elim
   |_=>exact absurd #[_,rfl] T
theorem lS(r1:Hrs s.heap xs aaT)(r2:Hrs s.heap ys its')(fd:fits n xs=true)(fe:fits n ys=true)(hu:A.units+n<ol):
  ∀j (h1:j<aaT.toArray.size)(h2:j<its'.toArray.size),WY A s aaT.toArray[j] its'.toArray[j] (match xs[j]?,ys[j]? with|some x,ap y=>aR x y|_,_=>cp):=λj h1 h2=>by
 rw[Tx (by rw[r1.length];trivial),Tx (by rw[r2.length];trivial)]
 exact Lg n (r1.get j _ _) (r2.get j _ _) (dY fd j _) (dY fe j _) hu
theorem kT(l:xs.length=ys.length):(Ub xs.length).all (λj=>match xs[j]?,ys[j]? with|some x,ap y=>aR x y|_,_=>cp)=jd xs ys:=
 iW xs ys _ l (λj f h=>by rw[Tx f,Tx h])
theorem Q7(t1:s.heap.IsTuple p aaT.toArray)(t2:s.heap.IsTuple p' its'.toArray)(m:Hrs s.heap xs aaT)(l:Hrs s.heap ys its')(fd:bX n (.tup xs)=true)(o:bX n (.tup ys)=true)(w:A.units+n<ol):
  YK A s (.ref p) (.ref p') (aR (.tup xs)<|.tup ys):=by
 cases n with
 |zero=>trivial
 |succ n=>
  have q:=m.length;have v:=l.length;have:=Ym (A:=A) t1 t2 (by lia) (lS m l fd o<|by show A.units+1+n<ol;lia)
  rw[aR]
  by_cases j:xs.length=ys.length
  .have f:aaT.toArray.size=its'.toArray.size:=by simp;lia
   rw[f]at this;simp only[Yw,beq_self_eq_true,Yj]at this;have h:its'.toArray.size=xs.length:=by simp;lia
   rw[h,kT j]at this;exact this
  have f:(aaT.toArray.size==its'.toArray.size)=false:=by simp;lia
  rw[f,VV]at this;rw[dZ j];exact this
theorem Pp(t1:s.heap.IsList p aaT.toArray)(t2:s.heap.IsList p' its'.toArray)(l:Hrs s.heap xs aaT)(j:Hrs s.heap ys its')(fd:bX n (.lst xs)=true)(m:bX n (.lst ys)=true)(v:A.units+n<ol):
  YK A s (.ref p) (.ref p') (aR (.lst xs)<|.lst ys):=by
 cases n with
 |zero=>trivial
 |succ n=>
  have o:=l.length;have q:=j.length;rw[aR]
  by_cases h:xs.length=ys.length
  .have:=Yq (A:=A) t1 t2 (by simp;lia) (by lia) (lS l j fd m<|by show A.units+1+n<ol;lia)
   have f:aaT.toArray.size=xs.length:=by simp;lia
   rw[f,kT h]at this;exact this
  rw[dZ h];exact Xu t1 t2 (by simp;lia) (by lia)
theorem HP(t1:s.heap.IsTuple p aaT.toArray)(t2:s.heap.IsTuple p' its'.toArray)(m:Hrs s.heap xs aaT)(l:Hrs s.heap ys its')(fd:bX n (.tup xs)=true)(o:bX n (.tup ys)=true)(w:A.units+n<ol):
  Yl A s (.ref p) (.ref p') (!aR (.tup xs) (.tup ys)):=by
 cases n with
 |zero=>trivial
 |succ n=>
  have q:=m.length;have v:=l.length;have:=SeqAt.RcNeAt.tuples (A:=A) t1 t2 (by lia) (lS m l fd o<|by show A.units+1+n<ol;lia)
  rw[aR]
  by_cases j:xs.length=ys.length
  .have f:aaT.toArray.size=its'.toArray.size:=by simp;lia
   rw[f]at this;simp only[Yw,beq_self_eq_true,Yj]at this;have h:its'.toArray.size=xs.length:=by simp;lia
   rw[h,kT j]at this;exact this
  have f:(aaT.toArray.size==its'.toArray.size)=false:=by simp;lia
  rw[f,VV]at this;rw[dZ j];exact this
theorem Fy(t1:s.heap.IsList p aaT.toArray)(t2:s.heap.IsList p' its'.toArray)(l:Hrs s.heap xs aaT)(j:Hrs s.heap ys its')(fd:bX n (.lst xs)=true)(m:bX n (.lst ys)=true)(v:A.units+n<ol):
  Yl A s (.ref p) (.ref p') (!aR (.lst xs) (.lst ys)):=by
 cases n with
 |zero=>trivial
 |succ n=>
  have o:=l.length;have q:=j.length;rw[aR]
  by_cases h:xs.length=ys.length
  .have:=SeqAt.RcNeAt.lists (A:=A) t1 t2 (by simp;lia) (by lia) (lS l j fd m<|by show A.units+1+n<ol;lia)
   have f:aaT.toArray.size=xs.length:=by simp;lia
   rw[f,kT h]at this;exact this
  rw[dZ h];exact SeqAt.RcNeAt.lists_lengths t1 t2 (by simp;lia) (by lia)
theorem Rh{e:D}(z:Hr s.heap d u)(h:Hr s.heap e w)(fd:bX n d=true)(G:bX n e=true)(F:A.units+n<ol):YK A s u w (aR d e):=by
 have j:A.units<cLine:=by lia
 cases d with
 |non=>
  cases z;cases e with
  |non=>
   cases h;simpa [aR,Uz] using SeqAt.RcAt.none_none
  |bl y=>
   cases h;simpa [aR] using SeqAt.RcAt.none_bool y
  |int y=>
   obtain⟨f,rfl⟩:=h;simpa [aR] using SeqAt.RcAt.none_int y f
  |str y=>
   obtain⟨f,rfl⟩:=h;simpa [aR] using SeqAt.RcAt.none_str y f
  |tup y=>
   obtain⟨v,l,rfl,ty,o⟩:=h;simpa [aR] using SeqAt.RcAt.none_tuple ty j
  |lst y=>
   obtain⟨v,l,rfl,ty,o⟩:=h;simpa [aR] using SeqAt.RcAt.none_list ty j
  |_=>exact(show False from h).elim
 |bl x=>
  cases z;cases e with
  |non=>
   cases h;simpa [aR] using SeqAt.RcAt.bool_none x
  |bl y=>
   cases h;simpa [aR,Uz] using SeqAt.RcAt.bool_bool x y
  |int y=>
   obtain⟨f,rfl⟩:=h;simpa [aR,Uz] using SeqAt.RcAt.bool_int x y f
  |str y=>
   obtain⟨f,rfl⟩:=h;simpa [aR] using SeqAt.RcAt.bool_str x y f
  |tup y=>
   obtain⟨v,l,rfl,ty,o⟩:=h;simpa [aR] using SeqAt.RcAt.bool_tuple x ty j
  |lst y=>
   obtain⟨v,l,rfl,ty,o⟩:=h;simpa [aR] using SeqAt.RcAt.bool_list x ty j
  |_=>exact(show False from h).elim
 |int x=>
  obtain⟨m,rfl⟩:=z;cases e with
  |non=>
   cases h;simpa [aR] using SeqAt.RcAt.int_none x m
  |bl y=>
   cases h;simpa [aR,Uz] using SeqAt.RcAt.int_bool x m y
  |int y=>
   obtain⟨f,rfl⟩:=h;simpa [aR,Uz] using SeqAt.RcAt.int_int x m y f
  |str y=>
   obtain⟨f,rfl⟩:=h;simpa [aR] using SeqAt.RcAt.int_str x m y f
  |tup y=>
   obtain⟨v,l,rfl,ty,o⟩:=h;simpa [aR] using SeqAt.RcAt.int_tuple x m ty j
  |lst y=>
   obtain⟨v,l,rfl,ty,o⟩:=h;simpa [aR] using SeqAt.RcAt.int_list x m ty j
  |_=>exact(show False from h).elim
 |str x=>
  obtain⟨m,rfl⟩:=z;cases e with
  |non=>
   cases h;simpa [aR] using SeqAt.RcAt.str_none x m
  |bl y=>
   cases h;simpa [aR] using SeqAt.RcAt.str_bool x m y
  |int y=>
   obtain⟨f,rfl⟩:=h;simpa [aR] using SeqAt.RcAt.str_int x m y f
  |str y=>
   obtain⟨f,rfl⟩:=h;simpa [aR,Uz] using SeqAt.RcAt.str_str x m y f
  |tup y=>
   obtain⟨v,l,rfl,ty,o⟩:=h;simpa [aR] using SeqAt.RcAt.str_tuple x m ty j
  |lst y=>
   obtain⟨v,l,rfl,ty,o⟩:=h;simpa [aR] using SeqAt.RcAt.str_list x m ty j
  |_=>exact(show False from h).elim
 |tup x=>
  obtain⟨I,C,rfl,q,E⟩:=z;cases e with
  |non=>
   cases h;simpa [aR] using SeqAt.RcAt.tuple_none q j
  |bl y=>
   cases h;simpa [aR] using SeqAt.RcAt.tuple_bool y q j
  |int y=>
   obtain⟨f,rfl⟩:=h;simpa [aR] using SeqAt.RcAt.tuple_int y f q j
  |str y=>
   obtain⟨f,rfl⟩:=h;simpa [aR] using SeqAt.RcAt.tuple_str y f q j
  |tup y=>
   obtain⟨v,l,rfl,ty,o⟩:=h;exact Q7 q ty E o fd G F
  |lst y=>
   obtain⟨v,l,rfl,ty,o⟩:=h;simpa [aR] using SeqAt.RcAt.tuple_list q ty j
  |_=>exact(show False from h).elim
 |lst x=>
  obtain⟨I,C,rfl,q,E⟩:=z;cases e with
  |non=>
   cases h;simpa [aR] using SeqAt.RcAt.list_none q j
  |bl y=>
   cases h;simpa [aR] using SeqAt.RcAt.list_bool y q j
  |int y=>
   obtain⟨f,rfl⟩:=h;simpa [aR] using SeqAt.RcAt.list_int y f q j
  |str y=>
   obtain⟨f,rfl⟩:=h;simpa [aR] using SeqAt.RcAt.list_str y f q j
  |tup y=>
   obtain⟨v,l,rfl,ty,o⟩:=h;simpa [aR] using SeqAt.RcAt.list_tuple q ty j
  |lst y=>
   obtain⟨v,l,rfl,ty,o⟩:=h;exact Pp q ty E o fd G F
  |_=>exact(show False from h).elim
 |_=>exact(show False from z).elim
theorem JA{e:D}(z:Hr s.heap d u)(h:Hr s.heap e w)(fd:bX n d=true)(G:bX n e=true)(F:A.units+n<ol):Yl A s u w (!aR d e):=by
 have j:A.units<cLine:=by lia
 cases d with
 |non=>
  cases z;cases e with
  |non=>
   cases h;simpa [aR,Uz] using SeqAt.RcNeAt.none_none
  |bl y=>
   cases h;simpa [aR] using SeqAt.RcNeAt.none_bool y
  |int y=>
   obtain⟨f,rfl⟩:=h;simpa [aR] using SeqAt.RcNeAt.none_int y f
  |str y=>
   obtain⟨f,rfl⟩:=h;simpa [aR] using SeqAt.RcNeAt.none_str y f
  |tup y=>
   obtain⟨v,l,rfl,ty,o⟩:=h;simpa [aR] using SeqAt.RcNeAt.none_tuple ty j
  |lst y=>
   obtain⟨v,l,rfl,ty,o⟩:=h;simpa [aR] using SeqAt.RcNeAt.none_list ty j
  |_=>exact(show False from h).elim
 |bl x=>
  cases z;cases e with
  |non=>
   cases h;simpa [aR] using SeqAt.RcNeAt.bool_none x
  |bl y=>
   cases h;simpa [aR,Uz] using SeqAt.RcNeAt.bool_bool x y
  |int y=>
   obtain⟨f,rfl⟩:=h;simpa [aR,Uz] using SeqAt.RcNeAt.bool_int x y f
  |str y=>
   obtain⟨f,rfl⟩:=h;simpa [aR] using SeqAt.RcNeAt.bool_str x y f
  |tup y=>
   obtain⟨v,l,rfl,ty,o⟩:=h;simpa [aR] using SeqAt.RcNeAt.bool_tuple x ty j
  |lst y=>
   obtain⟨v,l,rfl,ty,o⟩:=h;simpa [aR] using SeqAt.RcNeAt.bool_list x ty j
  |_=>exact(show False from h).elim
 |int x=>
  obtain⟨m,rfl⟩:=z;cases e with
  |non=>
   cases h;simpa [aR] using SeqAt.RcNeAt.int_none x m
  |bl y=>
   cases h;simpa [aR,Uz] using SeqAt.RcNeAt.int_bool x m y
  |int y=>
   obtain⟨f,rfl⟩:=h;simpa [aR,Uz] using SeqAt.RcNeAt.int_int x m y f
  |str y=>
   obtain⟨f,rfl⟩:=h;simpa [aR] using SeqAt.RcNeAt.int_str x m y f
  |tup y=>
   obtain⟨v,l,rfl,ty,o⟩:=h;simpa [aR] using SeqAt.RcNeAt.int_tuple x m ty j
  |lst y=>
   obtain⟨v,l,rfl,ty,o⟩:=h;simpa [aR] using SeqAt.RcNeAt.int_list x m ty j
  |_=>exact(show False from h).elim
 |str x=>
  obtain⟨m,rfl⟩:=z;cases e with
  |non=>
   cases h;simpa [aR] using SeqAt.RcNeAt.str_none x m
  |bl y=>
   cases h;simpa [aR] using SeqAt.RcNeAt.str_bool x m y
  |int y=>
   obtain⟨f,rfl⟩:=h;simpa [aR] using SeqAt.RcNeAt.str_int x m y f
  |str y=>
   obtain⟨f,rfl⟩:=h;simpa [aR,Uz] using SeqAt.RcNeAt.str_str x m y f
  |tup y=>
   obtain⟨v,l,rfl,ty,o⟩:=h;simpa [aR] using SeqAt.RcNeAt.str_tuple x m ty j
  |lst y=>
   obtain⟨v,l,rfl,ty,o⟩:=h;simpa [aR] using SeqAt.RcNeAt.str_list x m ty j
  |_=>exact(show False from h).elim
 |tup x=>
  obtain⟨I,C,rfl,q,E⟩:=z;cases e with
  |non=>
   cases h;simpa [aR] using SeqAt.RcNeAt.tuple_none q j
  |bl y=>
   cases h;simpa [aR] using SeqAt.RcNeAt.tuple_bool y q j
  |int y=>
   obtain⟨f,rfl⟩:=h;simpa [aR] using SeqAt.RcNeAt.tuple_int y f q j
  |str y=>
   obtain⟨f,rfl⟩:=h;simpa [aR] using SeqAt.RcNeAt.tuple_str y f q j
  |tup y=>
   obtain⟨v,l,rfl,ty,o⟩:=h;exact HP q ty E o fd G F
  |lst y=>
   obtain⟨v,l,rfl,ty,o⟩:=h;simpa [aR] using SeqAt.RcNeAt.tuple_list q ty j
  |_=>exact(show False from h).elim
 |lst x=>
  obtain⟨I,C,rfl,q,E⟩:=z;cases e with
  |non=>
   cases h;simpa [aR] using SeqAt.RcNeAt.list_none q j
  |bl y=>
   cases h;simpa [aR] using SeqAt.RcNeAt.list_bool y q j
  |int y=>
   obtain⟨f,rfl⟩:=h;simpa [aR] using SeqAt.RcNeAt.list_int y f q j
  |str y=>
   obtain⟨f,rfl⟩:=h;simpa [aR] using SeqAt.RcNeAt.list_str y f q j
  |tup y=>
   obtain⟨v,l,rfl,ty,o⟩:=h;simpa [aR] using SeqAt.RcNeAt.list_tuple q ty j
  |lst y=>
   obtain⟨v,l,rfl,ty,o⟩:=h;exact Fy q ty E o fd G F
  |_=>exact(show False from h).elim
 |_=>exact(show False from z).elim
section
variable{aaN:aa3}
mutual
theorem EK(I:Inv X aaN Z H s):∀{n:Nat}{d:D}{v:V}{u:ay},bX n d=true->Rp X.K H d v->RelV v u->Hr s.heap d u
 |_,.non,v,u,_,r,q=>by cases r;exact q
 |_,.bl _,v,u,_,r,q=>by cases r;exact q
 |_,.int _,v,u,_,r,q=>by cases r;exact q
 |_,.str _,v,u,_,r,q=>by cases r;exact q
 |n+1,.tup xs,v,u,f,r,q=>by
  obtain⟨p,l,rfl,t,r⟩:=r;cases q;obtain⟨aaT,h,j,_⟩:=I.tuple t.sq;exact#[p,aaT,rfl,j,gn I (n:=n) f r h]
 |n+1,.lst xs,v,u,f,r,q=>by
  obtain⟨p,l,rfl,t,r⟩:=r;cases q;obtain⟨aaT,h,j,_⟩:=I.list t.sq;exact#[p,aaT,rfl,j.isList,gn I (n:=n) f r h]
 |0,.tup _,_,_,f,_,_=>by simp[bX]at f
 |0,.lst _,_,_,f,_,_=>by simp[bX]at f
 |_,.ty _,_,_,f,_,_=>by simp[bX]at f
 |_,.ref _,_,_,f,_,_=>by simp[bX]at f
 |_,.mt _,_,_,f,_,_=>by simp[bX]at f
 |_,.ml _,_,_,f,_,_=>by simp[bX]at f
 |_,.fd _ _,_,_,f,_,_=>by simp[bX]at f
theorem gn(I:Inv X aaN Z H s):∀{n:Nat}{ds:List D}{vs:List V}{us:aaY},fits n ds=true->Rps X.K H ds vs->Vals vs us->Hrs s.heap ds us
 |_,[],vs,us,_,r,q=>by cases r;cases q;rfl
 |n,d::ds,vs,us,f,r,q=>by
  obtain⟨v,h,rfl,a,b⟩:=r;rw[fits,Vf]at f;cases q with
  |cons q1 q2=>exact#[_,_,rfl,EK I f.1 a q1,gn I f.2 b q2]
end
def dv(M:Mem):D->D
 |.ref a=>match M a with
  |some (.lst xs)=>.lst xs
  |_=>.ref a
 |d=>d
theorem qd(I:Inv X aaN Z H s)(o:RepH X.K H M)(f:bX n (dv M d)=true)(r:Rp X.K H d v)(q:RelV v u):Hr s.heap (dv M d) u:=by
 cases d with
 |ref a=>
  cases r;simp[dv]at f ⊢
  split at f
  .rename_i w e
   obtain⟨y,j,l⟩:=o _ _ e;obtain⟨aaT,h,m,_⟩:=I.list (SqL.of j);cases q;cases n with
   |zero=>trivial
   |succ n=>exact#[a,_,rfl,m.isList,gn I f l h]
  trivial
 |_=>exact EK I f r q
def cc:gh:=λx y M Q=>bX 60 (dv M x)=true/\bX 60 (dv M y)=true/\Q (.bl<|aR (dv M x)<|dv M y) M
def qP:gh:=λx y M Q=>bX 60 (dv M x)=true/\bX 60 (dv M y)=true/\Q (.bl<|!aR (dv M x) (dv M y)) M
theorem HF(F:X.A.units+64<ol):cW X (kB .Eq) (liftR2 X cc):=by
 rintro aaN s Z H x y v u Q I m o ⟨C,E,M,QQ,f,z,w,⟨j,l,h⟩,q⟩
 exact Rh (qd I f j z m) (qd I f l w o) j l (by lia) _ _ _ _ #[.bl _,H,I,rfl,q _ M h _ H f Frm.refl rfl]
theorem NL(F:X.A.units+64<ol):cW X (kB .NotEq) (liftR2 X qP):=by
 rintro aaN s Z H x y v u Q I m o ⟨C,E,M,QQ,f,z,w,⟨j,l,h⟩,q⟩
 exact JA (qd I f j z m) (qd I f l w o) j l (by lia) _ _ _ _ #[.bl _,H,I,rfl,q _ M h _ H f Frm.refl rfl]
open Classical in
noncomputable def Mt(h:g4)(x:D)(u:ay):Bool:=if q:∃d,Hr h d u then aR q.choose x else cp
theorem FO{x:D}(r:Hr h d u):Mt h x u=aR d x:=by
 have q:∃d,Hr h d u:=#[d,r];unfold Mt;rw[dif_pos q,HW q.choose_spec r]
theorem iQ{x:D}:∀{ds:List D}{us:aaY},Hrs h ds us->us.any (Mt h x)=ds.any λd=>aR d x
 |[],_,r=>by cases r;rfl
 |d::ds,_,r=>by
  obtain⟨v,f,rfl,a,b⟩:=r;rw[V6,V6,FO a,iQ b]
theorem jp{n:Nat}{x:D}(l:Hr s.heap x w)(m:bX n x=true)(j:A.units+n<ol):∀{ds:List D}{us:aaY},Hrs s.heap ds us->fits n ds=true->∀u∈us,WY A s u w (Mt s.heap x u)
 |[],_,r,_,u,j=>by cases r;cases j
 |d::ds,_,r,f,u,h=>by
  obtain⟨v,o,rfl,a,b⟩:=r;rw[fits,Vf]at f;rcases TK.mp h with rfl|h
  .rw[FO a];exact Lg n a l f.1 m j
  exact jp l m j b f.2 u h
def jO(M:Mem)(x y:D):Option Bool:=match aI M y with
 |some xs=>if bX 60 (dv M x)=true/\fits 60 xs=true then ap (xs.any λd=>aR d (dv M x)) else bb
 |none=>match y with
  |.ref a=>match wa M a x with
   |some o=>ap o.isSome
   |none=>bb
  |_=>bb
def w8:gh:=λx y M Q=>so (jO M x y) λk=>Q (.bl k) M
def yb:gh:=λx y M Q=>so (jO M x y) λk=>Q (.bl<|!k) M
theorem Ie(U:X.A.units+64<ol):cW X (kB .In) (liftR2 X w8):=by
 rintro aaN s Z H x y v u Q I q C ⟨F,T,M,QQ,l,z,G,h,N⟩
 unfold w8 at h;obtain⟨k,e,h⟩:=h.inv;have fin:=N _ M h _ H l Frm.refl rfl;unfold jO at e
 split at e
 .rename_i R P
  split at e
  .rename_i f
   cases e;obtain⟨p,S,rfl,hq,r⟩:=j9 l G P;cases C;have E:=qd I l f.1 z q;rcases hq with hq|hq
   .obtain⟨aaT,m,pl,_⟩:=I.list hq
    have j:=gn I f.2 r m;refine SeqAt.in_listAt _ pl.isList (λw L=>jp E f.1 (by show X.A.units+1+60<ol;lia) j f.2 w (by simp_all)) #[.bl _,H,I,rfl,?_]
    rw[show aaT.toArray.any _=aaT.any (Mt s.heap<|dv M F) by simp,iQ j]
    exact fin
   obtain⟨aaT,m,pl,_⟩:=I.tuple hq;have j:=gn I f.2 r m;refine SeqAt.in_tupleAt _ pl (λw L=>jp E f.1 (by show X.A.units+1+60<ol;lia) j f.2 w (by simp_all)) #[.bl _,H,I,rfl,?_]
   rw[show aaT.toArray.any _=aaT.any (Mt s.heap<|dv M F) by simp,iQ j]
   exact fin
  cases e
 split at e
 .split at e
  .rename_i o J
   cases e;cases G;cases C;rcases tY l z J with⟨rfl,g⟩|⟨d,w,rfl,g,_⟩
   .exact SC (by lia) I g q λO I'=>#[.bl _,H,I',rfl,fin]
   exact SC (by lia) I g q λO I'=>#[.bl _,H,I',rfl,fin]
  cases e
 cases e
theorem DN(U:X.A.units+64<ol):cW X (kB .NotIn) (liftR2 X yb):=by
 rintro aaN s Z H x y v u Q I q C ⟨F,T,M,QQ,l,z,G,h,N⟩
 unfold yb at h;obtain⟨k,e,h⟩:=h.inv;have fin:=N _ M h _ H l Frm.refl rfl;unfold jO at e
 split at e
 .rename_i R P
  split at e
  .rename_i f
   cases e;obtain⟨p,S,rfl,hq,r⟩:=j9 l G P;cases C;have E:=qd I l f.1 z q;rcases hq with hq|hq
   .obtain⟨aaT,m,pl,_⟩:=I.list hq
    have j:=gn I f.2 r m;refine SeqAt.notIn_listAt _ pl.isList (λw L=>jp E f.1 (by show X.A.units+1+60<ol;lia) j f.2 w (by simp_all)) #[.bl _,H,I,rfl,?_]
    rw[show aaT.toArray.any _=aaT.any (Mt s.heap<|dv M F) by simp,iQ j]
    exact fin
   obtain⟨aaT,m,pl,_⟩:=I.tuple hq;have j:=gn I f.2 r m;refine SeqAt.notIn_tupleAt _ pl (λw L=>jp E f.1 (by show X.A.units+1+60<ol;lia) j f.2 w (by simp_all)) #[.bl _,H,I,rfl,?_]
   rw[show aaT.toArray.any _=aaT.any (Mt s.heap<|dv M F) by simp,iQ j]
   exact fin
  cases e
 split at e
 .split at e
  .rename_i o J
   cases e;cases G;cases C;rcases tY l z J with⟨rfl,g⟩|⟨d,w,rfl,g,_⟩
   .exact zV (by lia) I g q λO I'=>#[.bl _,H,I',rfl,fin]
   exact zV (by lia) I g q λO I'=>#[.bl _,H,I',rfl,fin]
  cases e
 cases e
end
structure DEnds where
 nx:Dl->Mem->Prop
 rt:DK
 bk:Dl->Mem->Prop:=λ_ _=>False
 ct:Dl->Mem->Prop:=λ_ _=>False
abbrev ar:=DEnds->Dl->Mem->Prop
def UpN(X:Cx)(B:Bd)(M:Mem)(H:Hp)(QQ:Dl->Mem->Prop)(Q:_2.St->Hp->Prop):Prop:=∀U M',QQ U M'->∀Z H',Frm M H M' H'->SR X B U M' Z H'->Q Z H'
theorem UpN.go{M1:Mem}(u:UpN X B M H QQ Q)(i:Frm M H M1 H1):UpN X B M1 H1 QQ Q:=λU M q Z H' a=>u U M q Z H' (i.trans a)
structure UpD(X:Cx)(B:Bd)(M:Mem)(H:Hp)(DD:DEnds)(D:Ends):Prop where
 nx:UpN X B M H DD.nx D.nx
 rt:Up X.K M H DD.rt D.rt
 bk:UpN X B M H DD.bk D.bk
 ct:UpN X B M H DD.ct D.ct
theorem UpD.go{M1:Mem}{D:Ends}(u:UpD X B M H DD D)(i:Frm M H M1 H1):UpD X B M1 H1 DD D:=#[u.nx.go i,u.rt.go i,u.bk.go i,u.ct.go i]
inductive liftS(X:Cx)(B:Bd)(T:ar)(D:Ends)(Z:St)(H:Hp):Prop
 |mk (U:Dl) (M:Mem) (DD:DEnds) (s:SR X B U M Z H) (h:T DD U M) (u:UpD X B M H DD D):liftS X B T D Z H
def DS(X:Cx)(B:Bd)(st:rc)(T:ar):Prop:=PS X st (liftS X B T)
def zf(X:Cx)(B:Bd)(st:aa1)(T:ar):Prop:=B5 X st (liftS X B T)
section
variable{u:ar}
def aB:ar:=λD U M=>D.nx U M
def ah(t u:ar):ar:=λD U M=>t { D with nx:=u D } U M
theorem Ka:zf X B [] aB:=oG Lf (by rintro D Z H ⟨U,M,DD,s,h,f⟩;exact f.nx U M h Z H Frm.refl s)
theorem fC(o:DS X B st t)(v:zf X B rest u):zf X B (st::rest) (ah t u):=by
 refine oG (FG o v) ?_
 rintro D Z H ⟨U,M,DD,s,h,f⟩
 exact#[U,M,_,s,h,#[λl M' q m H' i j=>#[_,M',DD,j,q,f.go i],f.rt,f.bk,f.ct]]
theorem h_(f:DS X B st t):zf X B [st] t:=Jn f
def bh(te:ba):ar:=λD U M=>te U M λ_ M1=>D.nx U M1
theorem J6(m:DE X B e te)(l:vr e bb pos.line X.env=pure false:=by rfl):DS X B (.Expr e pos) (bh te):=by
 refine ck (J3 m l) ?_
 rintro D Z H ⟨U,M,DD,s,h,j⟩
 exact#[U,M,_,s,h,λd M' q v H' f i r=>j.nx U M' q Z H' i (s.go f i)]
def aA(te:ba):ar:=λD U M=>te U M D.rt
theorem Ng(j:DE X B e te):DS X B (.Return (ap e) pos) (aA te):=by
 refine ck (Q6 j) ?_
 rintro D Z H ⟨U,M,DD,s,h,f⟩
 exact#[U,M,_,s,h,f.rt]
def aG(c:fH)(t u:ar):ar:=λD U M=>c U M λb M1=>if b=true then t D U M1 else u D U M1
theorem Rk{a b:aa1}(m:DT X B c f)(o:zf X B a t)(v:zf X B b u):DS X B (.If c a b pos) (aG f t u):=by
 refine ck (Sw m o v) ?_
 rintro D Z H ⟨U,M,DD,s,h,l⟩
 refine#[U,M,_,s,h,λc M' q H' j i=>?_];cases c with
 |_=>exact#[U,M',DD,s.go j i,q,l.go i]
abbrev jN:=D->Dl->Mem->(Dl->Mem->Prop)->Prop
abbrev pM:=List D->Dl->Mem->(Dl->Mem->Prop)->Prop
inductive liftG(X:Cx)(B:Bd)(g:jN)(v:V)(Z:St)(H:Hp)(Q:St->Hp->Prop):Prop
 |mk (d:_3.D) (U:Dl) (M:Mem) (QQ:Dl->Mem->Prop) (s:SR X B U M Z H) (r:Rp X.K H d v) (h:g d U M QQ) (u:UpN X B M H QQ Q):liftG X B g v Z H Q
inductive liftGs(X:Cx)(B:Bd)(g:pM)(vs:List V)(Z:St)(H:Hp)(Q:St->Hp->Prop):Prop
 |mk (ds:List _3.D) (U:Dl) (M:Mem) (QQ:Dl->Mem->Prop) (s:SR X B U M Z H) (r:Rps X.K H ds vs) (h:g ds U M QQ) (u:UpN X B M H QQ Q):liftGs X B g vs Z H Q
def DG(X:Cx)(B:Bd)(tg:fy)(g:jN):Prop:=PG X tg (liftG X B g)
def Sm(X:Cx)(B:Bd)(tgs:aa0)(g:pM):Prop:=Oi X tgs (liftGs X B g)
theorem mq(h:PG X tg t)(w:∀v Z H Q,t' v Z H Q->t v Z H Q):PG X tg t':=λf s Z H v u Q I r q=>h _ s Z H v u Q I r (w v Z H Q q)
theorem uE(h:Oi X tg t)(w:∀v Z H Q,t' v Z H Q->t v Z H Q):Oi X tg t':=λf s Z H v u Q I r q=>h _ s Z H v u Q I r (w v Z H Q q)
theorem SR.set(s:SR X B U M Z H)(r:Rp X.K H d v):SR X B (U.set i<|some d) M (Z.set i<|some v) H:=#[s.i0,s.rh,s.rs.set r]
def ag(i:Nat):jN:=λd U M Q=>Q (U.set i<|some d) M
theorem Jw(f:X.N.Nodup)(j:X.N[i]?=ap x)(l:Ej X.env.scope x)(m:X.fn x=true\/X.env.scope.names.lookup x=ap .local:=by and_intros):DG X B (.Name x pos) (ag i):=by
 refine mq (K0 f j l m) ?_
 rintro v Z H Q ⟨d,U,M,QQ,s,r,h,u⟩
 exact u _ M h _ H Frm.refl (s.set r)
def dg:pM:=λf U M Q=>nil0 f (Q U M)
def aM(t:jN)(u:pM):pM:=λh U M Q=>cns h λd r=>t d U M λf M'=>u r f M' Q
theorem Ix:Sm X B [] dg:=by
 refine uE JP ?_
 rintro v Z H Q ⟨f,U,M,QQ,s,r,h,u⟩
 cases f with
 |nil=>exact#[r,u U M h Z H Frm.refl s]
 |cons _ _=>trivial
theorem F0{u:pM}(C:DG X B e t)(E:Sm X B es u)(F:(pb (e::es) X.env).map (·.2)=Z9 e X.env::(pb es X.env).map (·.2):=by rfl):Sm X B (e::es) (aM t u):=by
 refine uE (Gc C E F) ?_
 rintro v Z H Q ⟨f,U,M,QQ,s,r,h,j⟩
 cases f with
 |nil=>trivial
 |cons d f=>
  obtain⟨v1,m,rfl,z,y⟩:=r;exact#[v1,m,rfl,d,U,M,_,s,z,h,λo M' q w H' i l=>#[f,_,M',QQ,l,y.mf s.rh i,q,j.go i]]
def dq(n:Nat)(t:pM):jN:=λd U M Q=>onT d λf=>f.length=n/\t f U M Q
theorem Q3(m:X.calm=true)(h:Sm X B es t)(o:(pb es X.env).length=n:=by rfl)(hst:(pb es X.env).findIdx? (·.1)=none:=by rfl):DG X B (.Tuple es k pos) (dq n t):=by
 refine mq (Qh m h o hst) ?_
 rintro v Z H Q ⟨d,U,M,QQ,s,r,h,j⟩
 cases d with
 |tup xs=>
  obtain⟨p,f,rfl,l,r⟩:=r;exact#[p,f,rfl,l.sq,by rw[<- r.length];exact h.1,xs,U,M,QQ,s,r,h.2,j]
 |_=>exact h.elim
def aq(te:ba)(g:jN):ar:=λD U M=>te U M λx M1=>g x U M1 D.nx
theorem OI(m:DE X B e te)(o:DG X B tg g)(l:swapsWithSole [tg] e pos.line X.env=pure false:=by rfl)(hw:swappedStores [tg] e X.env=pure none:=by rfl)(h1:(pb [tg] X.env).map (·.2)=[Z9 tg X.env]:=by rfl):DS X B (.Assign [tg] e pos) (aq te g):=by
 refine ck (NB m o l hw h1) ?_
 rintro D Z H ⟨U,M,DD,s,h,j⟩
 exact#[U,M,_,s,h,λd M' q v H' f i r=>#[d,U,M',_,s.go f i,r,q,j.nx.go i]]
theorem NZ(l:X.N.Nodup)(y:X.N[i]?=ap x)(w:Ej X.env.scope x)(m:DE X B e te)(o:vr e (ap<|.Name x pos') pos.line X.env=pure false:=by rfl)(hf:X.fn x=true\/X.env.scope.names.lookup x=ap .local:=by and_intros):
  DS X B (.Assign [.Name x pos'] e pos) (aq te<|ag i):=by
 refine ck (OA l y w m o hf) ?_
 rintro D Z H ⟨U,M,DD,s,h,j⟩
 exact#[U,M,_,s,h,λd M' q v H' f i r=>j.nx _ M' q _ H' i ((s.go f i).set r)]
def Ii(i:Nat)(te:ba)(r:gh):ar:=λD U M=>s2 (U[i]?) λx=>te U M λy M1=>r x y M1 λz M2=>D.nx (U.set i<|some z) M2
theorem OP{r:gh}(L:X.N.Nodup)(Q:X.N[i]?=ap x)(R:Ej X.env.scope x)(O:DE X B e te)(S:Oa X m (liftR2 X r))(P:X.fn x=true\/X.env.scope.names.lookup x=ap .local:=by and_intros):
  DS X B (.AugAssign (.Name x pos') m e pos) (Ii i te r):=by
 refine ck (OJ L Q R O S P) ?_
 rintro D Z H ⟨U,M,DD,s,h,E⟩
 unfold Ii at h;obtain⟨l,J,h⟩:=h.inv;obtain⟨v,C,o⟩:=s.rs.get i l J;exact#[v,C,U,M,_,s,h,λy M1 q w H1 j i1 I=>#[l,y,M1,_,j,o.mf s.rh i1,I,q,λz M2 G T H2 f i2 F=>E.nx _ M2 G _ H2 (i1.trans i2) ((s.go f<|i1.trans i2).set F)]]
theorem RJ{g:Int->Int->Int}(h:Oa X m (ipI g)):Oa X m (liftR2 X (oo λi j=>.int (g i j))):=by
 rintro l s Z H x y v u Q I o w ⟨F,G,M,QQ,q,E,C,f,z⟩
 unfold oo at f
 replace f:=f.inv;obtain⟨_,rfl,f⟩:=f
 replace f:=f.inv;obtain⟨_,rfl,f⟩:=f
 cases E;cases C;exact h _ s Z H _ _ v u Q I o w #[_,_,rfl,rfl,z _ M f _ H q Frm.refl rfl]
abbrev Gq:gh:=oo λi j=>.int (i+j)
theorem Kt:Oa X .Add (liftR2 X Gq):=RJ N_
def sW(o i v:D)(M:Mem)(Q:Mem->Prop):Prop:=onR o λa=>mSet (M a) (λxs=>onI i λk=>so (yD xs.length k) λj=>Q (M.upd a<|.lst<|xs.set j v)) (λf=>so (cN i) λk=>f.length<sizeLine/\Q (M.upd a<|.dK<|dU f k v)) λf=>so (Dz i) λk=>f.length<sizeLine/\Q (M.upd a<|.dT<|dU f k v)
inductive liftSet(X:Cx)(o i v:V)(H:Hp)(Q:Hp->Prop):Prop
 |mk (d1 d2 d3:_3.D) (M:Mem) (QQ:Mem->Prop) (rh:RepH X.K H M) (r1:Rp X.K H d1 o) (r2:Rp X.K H d2 i) (r3:Rp X.K H d3 v) (h:sW d1 d2 d3 M QQ) (u:∀M',QQ M'->∀H',RepH X.K H' M'->Frm M H M' H'->Q H'):liftSet X o i v H Q
theorem La(hu:X.A.units+1<ol):Nd X (liftSet X):=by
 rintro aaN s Z H o i v ov iv u Q I ro ri rv ⟨d1,d2,d3,M,QQ,rh,r1,r2,r3,h,up⟩
 unfold sW at h
 replace h:=h.inv;obtain⟨a,rfl,h⟩:=h
 cases r1;cases ro
 replace h:=h.inv;rcases h with⟨xs,hM,h⟩|⟨aaP,hM,h⟩|⟨aaP,hM,h⟩
 .replace h:=h.inv;obtain⟨k,rfl,h⟩:=h
  cases r2;obtain⟨vs,h1,h2⟩:=rh _ _ hM;obtain⟨j,ej,h⟩:=h.inv;exact FK _ s Z H (.ref a) _ v _ iv u Q I rfl ri rv #[a,vs,k,j,rfl,rfl,h1,by rw[<- h2.length];exact ej,up _ h _ (rh.put (by rw[h1];trivial) #[_,upd_same,(h2.set r3 j).mono<|Imm.upd<|by rw[h1];trivial])<|Frm.put<|.inr #[_,hM]]
 .obtain⟨ws,h1,h2⟩:=rh _ _ hM
  obtain⟨k,ek,h⟩:=h.inv;have ev:=gW r2 ek;subst ev;exact qg hu I (DPut.k h1<|by rw[<- h2.length];exact h.1) ri rv λs' I'=>#[_,I',up _ h.2 _ (rh.put (by rw[h1];trivial) #[_,upd_same,(h2.put k r3).mono<|Imm.upd<|by rw[h1];trivial])<|Frm.put<|.inr #[_,hM]]
 obtain⟨ws,h1,h2⟩:=rh _ _ hM;obtain⟨k,ek,h⟩:=h.inv;obtain⟨b,rfl,hb⟩:=nT r2 ek;exact qg hu I (DPut.t h1 hb<|by rw[<- h2.length];exact h.1) ri rv λs' I'=>#[_,I',up _ h.2 _ (rh.put (by rw[h1];trivial) #[_,upd_same,(h2.put k r3).mono<|Imm.upd<|by rw[h1];trivial])<|Frm.put<|.inr #[_,hM]]
def cZ(to ti:ba):jN:=λv U M Q=>to U M λo M1=>ti U M1 λi M2=>sW o i v M2 λM3=>Q U M3
theorem PD{i:fy}(I:X.A.units+1<ol)(G:DE X B o to)(L:DE X B i m)(J:∀v,Z9 (.Subscript o i pos) X.env v=(do
   let ov <- vb [v] (g3 o X.env)
   let iv <- vb [v,ov] (g3 i X.env)
   V_ pos
   vb [v,ov,iv] (setItem ov iv v)
   release [v,ov,iv] []):=by intro _;rfl):DG X B (.Subscript o i pos) (cZ to m):=by
 refine mq (Pu G L (La I) J) ?_
 rintro v Z H Q ⟨d,U,M,QQ,s,r,h,w⟩
 exact#[U,M,_,s,h,λx M1 q v1 H1 f i1 E=>#[U,M1,_,s.go f i1,q,λy M2 C v2 H2 j i2 z=>#[x,y,d,M2,_,j,E.mf f i2,z,r.mf s.rh (i1.trans i2),C,λM3 F H3 l i3=>w U M3 F Z H3 ((i1.trans i2).trans i3) (s.go l<|(i1.trans i2).trans i3)]]]
end
section
variable{f:Str}
def bR(f:Str)(v:D):List (Str×D)->List (Str×D)
 |[]=>[(f,v)]
 |(g,w)::r=>if g=f then (g,v)::r else (g,w)::bR f v r
theorem Rkv.lookup(h:Rkv K H fs j)(f:Str):(fs.lookup f=bb/\j.lookup f=bb)\/∃d v,fs.lookup f=ap d/\j.lookup f=ap v/\Rp K H d v:=by
 induction h with
 |nil=>exact .inl #[rfl,rfl]
 |@cons p q ps qs r t ih=>
  obtain⟨l,d⟩:=p;obtain⟨w,v⟩:=q;obtain⟨e,r⟩:=r;subst e;rw[Xx,Xx];cases m:f==l with
  |true=>exact .inr (by lia)
  |false=>exact ih
theorem putF_eq(f:Str)(v:V):∀h:List (Str×V),dG f v h=(match h with|[]=>[(f,v)]|(g,w)::r=>if g=f then (g,v)::r else (g,w)::dG f v r)
 |[]=>rfl
 |(g,w)::r=>by rw[dG]
theorem jy{K:TH}{H:Hp}{f:Str}(h:Rp K H d v):∀{fs:List (Str×D)}{ws:List (Str×V)},Rkv K H fs ws->Rkv K H (bR f d fs) (_2.dG f v ws)
 |_,_,.nil=>.cons #[rfl,h] .nil
 |(k1,d1)::fs,(k2,v1)::ws,.cons r t=>by
  obtain⟨e,r⟩:=r;subst e;show Rkv K H (if k1=f then (k1,d)::fs else (k1,d1)::bR f d fs) (if k1=f then (k1,v)::ws else (k1,v1)::_2.dG f v ws)
  split
  .exact .cons #[rfl,h] t
  exact .cons #[rfl,r] (jy h t)
def aV(C:cb)(ta:ba)(f:Str):ba:=λU M Q=>ta U M λx M1=>onR x λa=>mN (M1 a) λC' fs=>C'=C/\so (fs.lookup f) λd=>Q d M1
theorem Q0(c:Cls X.K C)(n:NoAttr X.K C f)(J:DE X B e ta)(I:k' e f X.env (g3 e X.env)=g3 e X.env:=by rfl):DE X B (.Attribute e f pos) (aV C ta f):=by
 refine aT (NR J I) ?_
 rintro Z H Q ⟨U,M,QQ,s,h,u⟩
 refine#[U,M,_,s,h,λx M1 j v1 H1 l i1 G=>?_]
 replace j:=j.inv;obtain⟨a,rfl,j⟩:=j
 cases G
 replace j:=j.inv;obtain⟨C',fs,F,j⟩:=j
 obtain⟨rfl,j⟩:=j;obtain⟨m,y,q,E⟩:=l _ _ F
 replace j:=j.inv;obtain⟨d,w,j⟩:=j
 rcases E.lookup f with⟨z,_⟩|⟨d',v,z1,z2,z3⟩
 .simp_all
 rw[w]at z1;cases z1;exact#[a,_,m,y,v,rfl,q,c,n,z2,u _ M1 j _ H1 l i1 z3]
def cH(C:cb)(ta tv:ba)(f:Str):ar:=λD U M=>tv U M λy M1=>ta U M1 λx M2=>onR x λa=>mN (M2 a) λC' fs=>C'=C/\fs.length<1000/\D.nx U (M2.upd a<|.ins C<|bR f y fs)
theorem PU(c:Cls X.K C)(n:NoAttr X.K C f)(ha:DE X B o ta)(hv:DE X B value tv)(hs:vr value (ap<|.Attribute o f pos') pos.line X.env=pure false:=by rfl):DS X B (.Assign [.Attribute o f pos'] value pos) (cH C ta tv f):=by
 refine ck (Qi ha hv hs) ?_
 rintro D Z H ⟨U,M,DD,s,h,up⟩
 refine#[U,M,_,s,h,λy M1 h1 v1 H1 rh1 i1 r1=>?_];refine#[U,M1,_,s.go rh1 i1,h1,λx M2 h2 v2 H2 rh2 i2 r2=>?_]
 replace h2:=h2.inv;obtain⟨a,rfl,h2⟩:=h2
 cases r2;obtain⟨C',fs,hM,h2⟩:=h2.inv;obtain⟨rfl,hl,h2⟩:=h2;obtain⟨dx,ws,e1,e2⟩:=rh2 _ _ hM;have i3:Frm M2 H2 (M2.upd a<|.ins C'<|bR f y fs) (upd H2 a<|.ins C' dx<|_2.dG f v1 ws):=Frm.put (.inr #[_,hM]);exact#[a,C',dx,ws,rfl,e1,c,n,by rw[<- e2.length];exact hl,up.nx _ _ h2 Z _ ((i1.trans i2).trans i3)<|s.go (rh2.put (by rw[e1];trivial) #[dx,_,upd_same,(jy (r1.mf rh1 i2) e2).mono<|i3.imm rh2])<|(i1.trans i2).trans i3]
structure BxW(c:fH)(tb:ar)(D:DEnds):Type
structure BxF(g:jN)(tb:ar)(D:DEnds)(ok:Mem->Prop):Type
def cU(c:fH)(tb:ar)(D:DEnds)(bx:BxW c tb D):Nat->Dl->Mem->Prop
 |0,_,_=>False
 |n+1,U,M=>c U M λb M1=>if b=true then tb { D with nx:=cU c tb D bx n,ct:=cU c tb D bx n,bk:=D.nx } U M1 else D.nx U M1
def jS(c:fH)(tb:ar):ar:=λD U M=>∃n,cU c tb D #[] n U M
theorem GU(R:aas (eX X.prog X.w) X.A X.env X.xe)(Q:DT X B c L)(S:zf X B j tb):DS X B (.While c j [] pos) (jS L tb):=by
 refine ck (FW R Q S) ?_
 rintro D Z H ⟨U,M,DD,s,⟨n,h⟩,F⟩
 refine#[λm v H'=>∃δ' M',SR X B δ' M' v H'/\Frm M H M' H'/\cU L tb DD _ m δ' M',#[n,U,M,s,Frm.refl,h],?_]
 rintro m O H1 ⟨P,M1,J,i1,N⟩
 cases m with
 |zero=>trivial
 |succ m=>
  refine#[_,M1,_,J,N,λb M2 q H2 l i2=>?_];cases b with
  |false=>exact F.nx _ _ q _ H2 (i1.trans i2) (J.go l i2)
  |true=>
   exact#[_,λv H' z=>#[m,by lia,z],#[_,M2,_,J.go l i2,q,#[λI M3 E y H3 i3 G=>#[_,M3,G,(i1.trans i2).trans i3,E],(F.go<|i1.trans i2).rt,(F.go<|i1.trans i2).nx,λI M3 E y H3 i3 G=>#[_,M3,G,(i1.trans i2).trans i3,E]]]]
structure DIt where
 items:List D
 src:List (cb×List D)
def DIt.ok(I:DIt)(M:Mem):Prop:=∀p∈I.src,M p.1=ap (.lst p.2)
abbrev wT:=Dl->Mem->(DIt->Mem->Prop)->Prop
def QR(K:TH)(H0:Hp)(it:DIt)(J:It):Prop:=∀(i:Nat)(H:Hp)(M:Mem),Imm H0 H->RepH K H M->it.ok M->
 (∀d,it.items[i]?=ap d->J.go i H/\∀x H',J.yld i H x H'->Frm M H M H'/\RepH K H' M/\Rp K H' d x)/\(it.items.length<=i->J.stop i H)
inductive liftI(X:Cx)(B:Bd)(T:wT)(Z:St)(H:Hp)(R:It->Hp->Prop):Prop
 |mk (U:Dl) (M:Mem) (RR:DIt->Mem->Prop) (s:SR X B U M Z H) (h:T U M RR) (u:∀it M',RR it M'->∀J H',RepH X.K H' M'->Frm M H M' H'->QR X.K H' it J->R J H'):liftI X B T Z H R
def DI(X:Cx)(B:Bd)(tg iter:fy)(T:wT):Prop:=PI X tg iter (liftI X B T)
theorem gZ(h:PI X tg j t)(w:∀Z H Q,t' Z H Q->t Z H Q):PI X tg j t':=λl s Z H Q I q=>h _ s Z H Q I (w Z H Q q)
def nG(g:jN)(tb:ar)(DD:DEnds)(ok:Mem->Prop)(b:BxF g tb DD ok):List D->Dl->Mem->Prop
 |[],U,M=>ok M/\DD.nx U M
 |x::xs,U,M=>ok M/\g x U M λh M2=>tb { DD with nx:=nG g tb DD ok b xs,ct:=nG g tb DD ok b xs,bk:=DD.nx } h M2
def eE(wi:wT)(g:jN)(tb:ar):ar:=λD U M=>wi U M λh M1=>nG g tb D h.ok #[] h.items U M1
theorem Iy{b:BxF g tb DD ok}(h:nG g tb DD ok b xs U M):ok M:=by
 cases xs with
 |_=>exact h.1
theorem N4(hp:aas (eX X.prog X.w) X.A X.env X.xe)(hc:X.calm=true)(hi:DI X B tg j S)(hg:DG X B tg g)(hb:zf X B l tb)(hs:∀x,qa j X.env x=pure x:=by intro _;rfl):DS X B (.For tg j l [] pos) (eE S g tb):=by
 refine ck (Pe hp hc hi hg hb hs) ?_
 rintro D Z H ⟨U,M,DD,s,h,O⟩
 refine#[U,M,_,s,h,λF M1 h1 J H1 y i1 hJ=>?_];refine#[λi m q H'=>m=F.items.length-i/\i<=F.items.length/\∃δ' M',SR X B δ' M' q H'/\Frm M1 H1 M' H'/\nG g tb DD _ _ (F.items.drop i) δ' M',#[_,rfl,by lia,U,M1,s.go y i1,Frm.refl,h1],?_]
 rintro i m σ2 H2 ⟨rfl,hi',T,M2,s2,i2,E⟩
 obtain⟨I,N⟩:=hJ i H2 M2 (i2.imm y) s2.rh (Iy E)
 by_cases v:i<F.items.length
 .rw[VJ v]at E
  obtain⟨go,hy⟩:=I _ (Tx _);refine .inr #[go,_,λq H' z=>#[_,by omega,rfl,v,z],λx H3 hx=>?_]
  obtain⟨i3,Q,rx⟩:=hy x H3 hx;refine#[_,_,M2,_,s2.go Q i3,rx,E.2,λY M4 h4 W H4 i4 s4=>?_];have i14:=(i2.trans i3).trans i4;exact#[_,M4,_,s4,h4,#[λG M5 R P H5 i5 L=>#[_,M5,L,i14.trans i5,R],(O.go<|i1.trans i14).rt,(O.go<|i1.trans i14).nx,λG M5 R P H5 i5 L=>#[_,M5,L,i14.trans i5,R]]]
 rw[VU (by omega)]at E
 exact .inl #[by lia,O.nx _ _ E.2 _ H2 (i1.trans i2) s2]
end
end _3
namespace _2
open PySem PySem.Spec PyProof.Rows
def SK(K:TH)(tl:TE):TI:=λZ H R=>tl Z H λx H1=>∃a b xs,x=.ref a/\ng K b H1 a xs/\R (if b=true then Itl K a else Itt K a) H1
theorem Kv(z:PE X l j):PI X tg l (SK X.K j):=by
 intro g s Z H R I h;refine bz (z _ s Z H _ I h) λv i u=>?_;obtain⟨x,H1,I1,y,n⟩:=u;obtain⟨a,b,A,e,f,q⟩:=n;subst e;cases y;cases b with
 |true=>
  obtain⟨c,m,p,r⟩:=I1.list f;refine re p.isList ?_;refine#[_,_,_,_,H1,rfl,I1.kept λb o=>Tv _,Dt a _,#[_,TF _ rfl,rfl,rfl],λb w=>?_,q];have e:b=i.heap.objs.size:=by simp_all
  subst e;exact I1.fpOk (by lia) (I1.hok.fresh<|by lia)
 |false=>
  obtain⟨c,m,p,r⟩:=I1.tuple f;refine wpAny_pyIter_tuple p ?_;refine#[_,_,_,_,H1,rfl,I1.kept λb o=>Tv _,xc a _,#[_,TF _ rfl,rfl,rfl],λb w=>?_,q];have e:b=i.heap.objs.size:=by simp_all
  subst e;exact I1.fpOk (by lia) (I1.hok.fresh<|by lia)
def Nk(K:TH)(t:TA):TI:=λZ H R=>t Z H λa H1=>∃b l xs,a=[.ref l]/\ng K b H1 l xs/\R (Ite K b l) H1
theorem Er(E:Gl X "enumerate")(L:X.mg "enumerate"=bb)(G:PA X [a] r)(J:eH [a] X.env=[(cp,g3 a X.env)]:=by rfl):
  PI X (.Tuple g F M) (.Call (.Name "enumerate" p) [a] [] pos) (Nk X.K r):=by
 intro n s Z H R I h;refine Call_ (df I E L (by rfl:fv _=ap (.type "enumerate"))<|UA (bz (G _ _ s Z H _ I h) λS o x=>?_) J rfl)
 obtain⟨Q,H1,I1,A,i⟩:=x;obtain⟨b,l,O,e,i,q⟩:=i;subst e;obtain⟨T,rfl,j⟩:=A.one;cases j;obtain⟨w,N,sq,z⟩:=I1.src i;refine CW sq λP m u C v=>?_;have I2:Inv X _ Z H1 _:=I1.kept (t':=o.toks) v;refine wpAny_pyIter_enum m ?_;refine#[_,_,_,_,H1,rfl,I2,Do b l _ _ (by lia),#[#[_,m],u],λc y=>?_,q]
 have f:o.heap.objs.size<=c:=by
  rcases (by simpa using y) with e|e<;>rw[e]<;>first|exact Vg _ _|exact TL _
 exact I1.fpOk f (I1.hok.fresh f)
end _2
namespace _3
open PySem _2
variable{H H':Hp}{M M':Mem}{i:Nat}{x:Str}{K:TH}
def br(d:D)(xs:List D):List (cb×List D):=match d with
 |.ref a=>[(a,xs)]
 |_=>[]
theorem xt(o:RepH K H M)(r:Rp K H d v)(e:aI M d=ap xs):∃p b,v=.ref p/\∀H' M',Imm H H'->RepH K H' M'->(∀q∈br d xs,M' q.1=ap (.lst q.2))->∃vs,ng K b H' p vs/\Rps K H' xs vs:=by
 cases d with
 |tup ys=>
  cases e;obtain⟨p,vs,rfl,h,r⟩:=r;exact#[p,cp,rfl,λH' M' i _ _=>#[vs,(h.mono i).sq,r.mono i]]
 |lst ys=>
  cases e;obtain⟨p,vs,rfl,h,r⟩:=r;exact#[p,true,rfl,λH' M' i _ _=>#[vs,(h.mono i).sq,r.mono i]]
 |mt ys=>
  cases e;obtain⟨p,vs,rfl,h,r⟩:=r;exact#[p,cp,rfl,λH' M' i _ _=>#[vs,h.sq,r.mono i]]
 |ml ys=>
  cases e;obtain⟨p,vs,rfl,h,r⟩:=r;exact#[p,true,rfl,λH' M' i _ _=>#[vs,(h.mono i).sq,r.mono i]]
 |ref a=>
  refine#[a,true,r,λH' M' i c l=>?_];obtain⟨vs,j,m⟩:=c _ _ (l (a,xs)<|by simp[br])
  exact#[vs,SqL.of j,m]
 |_=>cases e
theorem yx(e:aI M d=ap xs):∀q∈br d xs,M q.1=ap (.lst q.2):=by
 cases d with
 |ref a=>
  intro q b;have:q=(a,xs):=by simpa [br] using b
  simp[aI]at e
  split at e
  .simp_all
  cases e
 |_=>intro q b;simp[br]at b
def bM(te:ba):wT:=λU M R=>te U M λd M1=>so (aI M1 d) λb=>R #[b,br d b] M1
theorem Pq(hl:DE X B l G):DI X B tg l (bM G):=by
 refine gZ (Kv hl) ?_
 rintro Z H R ⟨U,M,RR,s,h,W⟩
 refine#[U,M,_,s,h,λd M1 z v H1 j i1 L=>?_];obtain⟨xs,e,z⟩:=z.inv;obtain⟨p,b,rfl,c⟩:=xt j L e;obtain⟨Y,I,_⟩:=c H1 M1 Imm.refl j (yx e);refine#[p,b,Y,rfl,I,W _ M1 z _ H1 j i1 λi H2 M2 i2 o q=>?_];obtain⟨O,m,F⟩:=c H2 M2 i2 o q;cases b with
 |_=>
  refine#[λd J=>?_,λu=>#[_,m,by rw[<- F.length];exact u]]
  obtain⟨w,A,y⟩:=F.get J;refine#[#[_,w,m,A],?_]
  rintro x H3 ⟨rfl,S⟩
  have:=S _ m;rw[A]at this;cases this;exact#[Frm.refl,o,y]
noncomputable def cY(lo:Int)(n:Nat):List D:=(Ub n).map λ(i:Nat)=>D.int (lo+i)
def dW(t:eJ):wT:=λU M R=>t U M λc M1=>one c λb=>onI b λj=>-(2 ^ 62)<=j/\j<2 ^ 62/\R #[cY 0 j.toNat,[]] M1
theorem P0:QR K H #[cY j n,[]] (Itr j n):=λi H2 M2 i2 l _=>by
 have c:(cY j n).length=n:=by simp[cY]
 refine#[λd q=>?_,λb=>by rw[c]at b;exact b]
 have m:i<n:=by
  rcases Vt i n with h|h
  .exact h
  simp_all
 have o:d=.int (j+i):=by
  simp[cY,YO m]at q
  simp_all
 subst o;refine#[m,?_]
 rintro x H3 ⟨rfl,rfl⟩
 exact#[Frm.refl,l,rfl]
theorem D2(y:Gl X "range")(u:X.mg "range"=bb)(o:DA X B [a] ta)(q:eH [a] X.env=[(cp,g3 a X.env)]:=by rfl):DI X B tg (.Call (.Name "range" p) [a] [] pos) (dW ta):=by
 refine gZ (DH y u o q) ?_
 rintro Z H R ⟨U,M,RR,s,h,l⟩
 refine#[U,M,_,s,h,λds M1 b z H1 c i1 m=>?_]
 replace b:=b.inv;obtain⟨A,rfl,b⟩:=b
 replace b:=b.inv;obtain⟨_,rfl,b⟩:=b
 obtain⟨v,rfl,j⟩:=fX (ds:=[]) m;cases j;exact#[_,rfl,b.1,b.2.1,l _ M1 b.2.2 _ H1 c i1 P0]
noncomputable def wN(xs:List D):List D:=(xs.zipIdx).map λp=>D.tup [.int (p.2:Nat),p.1]
theorem CT:(wN xs)[i]?=(xs[i]?).map λd=>D.tup [.int (i:Nat),d]:=by
 simp[wN];rfl
def qG(t:eJ):wT:=λU M R=>t U M λc M1=>one c λd=>so (aI M1 d) λb=>R #[wN b,br d b] M1
theorem Lb(hg:Gl X "enumerate")(hm:X.mg "enumerate"=bb)(ha:DA X B [a] ta)(hs:eH [a] X.env=[(cp,g3 a X.env)]:=by rfl):
  DI X B (.Tuple elts x1 tp) (.Call (.Name "enumerate" p) [a] [] pos) (qG ta):=by
 refine gZ (Er hg hm ha hs) ?_
 rintro Z H R ⟨U,M,RR,s,h,Y⟩
 refine#[U,M,_,s,h,λds M1 j I H1 l i1 S=>?_]
 replace j:=j.inv;obtain⟨_,rfl,j⟩:=j
 obtain⟨v,rfl,L⟩:=fX (ds:=[]) S;obtain⟨xs,e,j⟩:=j.inv;obtain⟨p,b,rfl,c⟩:=xt l L e;obtain⟨I,O,_⟩:=c H1 M1 Imm.refl l (yx e);refine#[b,p,I,rfl,O,Y _ M1 j _ H1 l i1 λi H2 M2 i2 o q=>?_];obtain⟨W,m,J⟩:=c H2 M2 i2 o q;refine#[λd F=>?_,λu=>#[_,m,by rw[<- J.length];simpa [wN] using u]]
 rw[CT]at F;obtain⟨d0,y,rfl⟩:=UR.mp F;obtain⟨w,G,z⟩:=J.get y;refine#[#[_,w,m,G],?_]
 rintro x H3 ⟨T,x',A,rfl,rfl,hx⟩
 have:=hx _ m;rw[G]at this;cases this;exact#[Frm.new A,o.new A,T,_,rfl,upd_same,.cons rfl<|.cons (z.mono<|Imm.new A) .nil]
noncomputable def y0(xs ys:List D):List D:=(xs.zip ys).map λp=>D.tup [p.1,p.2]
theorem Gj(h:(y0 xs ys)[i]?=ap d):∃x y,xs[i]?=ap x/\ys[i]?=ap y/\d=.tup [x,y]:=by
 simp only[y0,TJ,UR]at h;obtain⟨⟨x,y⟩,b,rfl⟩:=h;rw[VI]at b;exact#[x,y,b.1,b.2,rfl]
def xY:List D->List (List D)->List (cb×List D)
 |d::ds,xs::xss=>br d xs++xY ds xss
 |_,_=>[]
abbrev QX(M:Mem)(ds:List D)(xss:List (List D)):Prop:=XV (λd xs=>aI M d=ap xs) ds xss
structure Zps(xss:List (List D))(zs:List D):Prop where
 get:∀(i:Nat)(d:D),zs[i]?=ap d->∃ys,d=.tup ys/\xss.map (·[i]?)=ys.map ap
 stop:∀i:Nat,zs.length<=i->∃xs∈xss,xs.length<=i
theorem Jp(u:RepH K H M)(h:QX M ds c):∀{vs:List V},Rps K H ds vs->(∀q∈xY ds c,M q.1=ap (.lst q.2))/\
  ∃L:List (Bool×cb),vs=L.map (λp=>.ref p.2)/\L.length=c.length/\∀H' M',Imm H H'->RepH K H' M'->(∀q∈xY ds c,M' q.1=ap (.lst q.2))->
   XV (λ(p:Bool×cb) xs=>∃us,ng K p.1 H' p.2 us/\Rps K H' xs us) L c:=by
 induction h with
 |nil=>exact λr=>#[λq h=>by simp[xY]at h,[],r,rfl,λ_ _ _ _ _=>.nil]
 |cons h t ih=>
  rintro vs ⟨v,s,rfl,r,o⟩
  obtain⟨a,L,rfl,l,k⟩:=ih o;obtain⟨p,b,rfl,g⟩:=xt u r h;exact#[λq j=>(Uo.1 j).elim (yx h q) (a q),(b,p)::L,rfl,by simp[l],λH' M' i m ok=>.cons (g H' M' i m λq j=>ok q (Wb _ j)) (k H' M' i m λq j=>ok q (UG _ j))]
theorem IB(im:Imm H H')(h:XV (λ(p:Bool×cb) xs=>∃us,ng K p.1 H p.2 us/\Rps K H xs us) L xss):∀{ys:List D}{zs:List V},xss.map (·[i]?)=ys.map ap->zs.length=L.length->
  (∀(j:Nat)(p:Bool×cb),L[j]?=ap p->∀us,ng K p.1 H p.2 us->us[i]?=zs[j]?)->Rps K H' ys zs:=by
 induction h with
 |nil=>
  intro ys zs e l _;obtain rfl:=List.eq_nil_of_length_eq_zero l;cases ys<;>trivial
 |cons h t ih=>
  intro ys zs e l g;cases ys with
  |nil=>simp at e
  |cons y ys=>
   cases zs with
   |nil=>simp at l
   |cons z zs=>
    simp at e;obtain⟨us,sq,r⟩:=h;obtain⟨w,hw,rw'⟩:=r.get e.1;have:=g 0 _ rfl us sq;rw[hw]at this;cases this;exact .cons (rw'.mono im) (ih e.2 (by simpa using l) λj p ej=>g (j+1) p (by trivial))
theorem uG:∀{L:List (Bool×cb)}{xss:List (List D)},XV P L xss->(∀p∈L,∃xs∈xss,P p xs)/\∀xs∈xss,∃p∈L,P p xs:=by
 intro L xss h
 induction h with
 |nil=>exact#[λp h=>by simp at h,λp h=>by simp at h]
 |cons h _ ih=>
  obtain⟨a,b⟩:=ih;refine#[λp c=>?_,λp c=>?_]
  .rcases TK.1 c with rfl|m
   .exact#[_,.head _,h]
   .obtain⟨x,y,z⟩:=a p m;exact#[x,.tail _ y,z]
  .rcases TK.1 c with rfl|m
   .exact#[_,.head _,h]
   .obtain⟨x,y,z⟩:=b p m;exact#[x,.tail _ y,z]
theorem zF{f:List D->Mem->(DIt->Mem->Prop)->Prop}(hf:∀ds M1 R,f ds M1 R->∃b zs,(b.length=2\/b.length=3)/\QX M1 ds b/\Zps b zs/\R #[zs,xY ds b] M1)(hg:Gl X "zip")(hm:X.mg "zip"=bb)(ha:DA X B (a::as) ta)(hs:eH (a::as) X.env=(cp,g3 a X.env)::eH as X.env)(O:(PySem.backTo pos<|starEach as X.env).any (·.1)=cp):
  DI X B (.Tuple elts x1 tp) (.Call (.Name "zip" p) (a::as) [] pos) (λU M R=>ta U M λds M1=>f ds M1 R):=by
 refine gZ (KY hg hm ha hs O) ?_
 rintro Z H R ⟨U,M,RR,s,h,up⟩
 refine#[U,M,_,s,h,λds M1 I S H1 j i1 r1=>?_];obtain⟨b,zs,n,sq,z,I⟩:=hf _ _ _ I;obtain⟨ok,L,rfl,l,k⟩:=Jp j sq r1;refine#[L,by lia,rfl,λp c=>?_,up _ M1 I _ H1 j i1 λi H2 M2 i2 u F=>?_]
 .obtain⟨A,_,m,h,_⟩:=(uG<|k H1 M1 Imm.refl j ok).1 p c
  exact#[m,h]
 have q:=k H2 M2 i2 u F;obtain⟨W,qb⟩:=uG q;refine#[λd hd=>?_,λG=>#[λp c=>?_,?_]]
 .obtain⟨ys,rfl,e⟩:=z.get i d hd
  refine#[λp c=>?_,?_]
  .obtain⟨A,o,m,h,r⟩:=W p c
   obtain⟨y,_,e⟩:=TM.1 (e▸Uq o);obtain⟨v,Y,_⟩:=r.get e.symm;exact#[m,v,h,Y]
  rintro x H3 ⟨T,S,J,rfl,rfl,hl,o⟩
  exact#[Frm.new J,u.new J,T,S,rfl,upd_same,IB (Imm.new J) q e hl o]
 .obtain⟨A,_,m,h,_⟩:=W p c
  exact#[m,h]
 obtain⟨A,o,le⟩:=z.stop i G;obtain⟨p,c,m,h,r⟩:=qb A o;exact#[p,c,m,h,by rw[<- r.length];exact le]
def RV(t:eJ):wT:=λU M R=>t U M λh M1=>two h λd e=>so (aI M1 d) λc=>so (aI M1 e) λb=>R #[y0 c b,br d c++br e b] M1
theorem P2(G:Gl X "zip")(F:X.mg "zip"=bb)(v:DA X B [a,b] ta)(A:eH [a,b] X.env=[(cp,g3 a X.env),(cp,g3 b X.env)]:=by rfl)(hs2:eH [b] X.env=[(cp,g3 b X.env)]:=by rfl):
  DI X B (.Tuple elts x1 tp) (.Call (.Name "zip" p) [a,b] [] pos) (RV ta):=by
 refine zF (λI M1 R h=>?_) G F v (by rw[A,hs2]) (by rw[hs2];rfl)
 replace h:=h.inv;obtain⟨d,e,rfl,h⟩:=h
 obtain⟨c,l,h⟩:=h.inv;obtain⟨j,s,h⟩:=h.inv;refine#[_,_,.inl rfl,.cons l (.cons s .nil),#[λi z o=>?_,λi u=>?_],by simpa [xY] using h]
 .obtain⟨x,y,q,m,rfl⟩:=Gj o
  exact#[_,rfl,by simp[q,m]]
 have:(y0 c j).length=min c.length j.length:=by simp[y0]
 simp;lia
noncomputable def yu:Bd:=#[λ_ _=>True,λ_ _=>trivial]
inductive liftE0(K:TH)(T:ba)(Z:_2.St)(H:Hp)(Q:VK):Prop
 |mk (U:Dl) (M:Mem) (QQ:DK) (rh:RepH K H M) (rs:RepS K H U Z) (h:T U M QQ) (u:Up K M H QQ Q):liftE0 K T Z H Q
inductive liftT0(K:TH)(T:fH)(Z:_2.St)(H:Hp)(Q:Bool->Hp->Prop):Prop
 |mk (U:Dl) (M:Mem) (QQ:Bool->Mem->Prop) (rh:RepH K H M) (rs:RepS K H U Z) (h:T U M QQ) (u:UpT K M H QQ Q):liftT0 K T Z H Q
inductive liftG0(K:TH)(g:jN)(v:V)(Z:_2.St)(H:Hp)(Q:_2.St->Hp->Prop):Prop
 |mk (d:D) (U:Dl) (M:Mem) (QQ:Dl->Mem->Prop) (rh:RepH K H M) (rs:RepS K H U Z) (r:Rp K H d v) (h:g d U M QQ) (u:∀δ' M',QQ δ' M'->∀σ' H',Frm M H M' H'->RepH K H' M'->RepS K H' δ' σ'->Q σ' H'):liftG0 K g v Z H Q
theorem Fb(h:DE X yu e T):PE X e (liftE0 X.K T):=aT h (by rintro Z H Q ⟨U,M,QQ,b,c,h,u⟩;exact#[U,M,QQ,#[trivial,b,c],h,u])
theorem G1(h:DG X yu e g):PG X e (liftG0 X.K g):=mq h (by rintro v Z H Q ⟨d,U,M,QQ,rh,rs,r,h,u⟩;exact#[d,U,M,QQ,#[trivial,rh,rs],r,h,λb M' q c H' f s=>u _ M' q _ H' f s.rh s.rs])
theorem RepH.add(r:RepH K H M)(n:RepO K H a o):RepH K H (M.upd a o):=λb p e=>by
 by_cases c:b=a
 .simp_all
 rw[ae c]at e;exact r b p e
noncomputable def bi(ls:aaX)(js:List Nat)(U:Dl):Dl:=ls.map (λ_=>bb)++js.map λj=>(U[j]?).join
theorem RepS.start(r:RepS K H U Z)(ls:aaX)(b:List Nat):RepS K H (bi ls b U) (fb ls b Z):=by
 refine#[by simp[bi,fb],λi d e=>?_]
 unfold bi at e;unfold fb
 by_cases m:i<ls.length
 .grind
 rw[U1 (by simp_all),TJ]at e
 rw[U1 (by simp_all)]
 cases l:b[i-ls.length]? with
 |none=>simp_all
 |some j=>
  have c:U[j]?=ap (ap d):=by
   cases z:U[j]?<;>simp_all
  obtain⟨v,h,o⟩:=r.get j d c
  simp_all
structure BxC(g:jN)(tt:fH)(te:ba)(ok:Mem->Prop)(Q:List D->Mem->Prop):Type
def cA(g:jN)(tt:fH)(te:ba)(ok:Mem->Prop)(Q:List D->Mem->Prop)(b:BxC g tt te ok Q):List D->List D->Dl->Mem->Prop
 |[],aaQ,_,M=>ok M/\Q aaQ M
 |x::xs,aaQ,U,M=>ok M/\g x U M λh M2=>tt h M2 λc M3=>if c=true then te h M3 λy M4=>aaQ.length<sizeLine/\cA g tt te ok Q b xs (aaQ++[y]) h M4 else cA g tt te ok Q b xs aaQ h M3
def aN(wi:wT)(ls:aaX)(js:List Nat)(g:jN)(tt:fH)(te:ba):ba:=λU M Q=>wi U M λc M1=>cA g tt te c.ok (λb M'=>∀p,M' p=bb->Q (.ref p) (M'.upd p<|.lst b)) #[] c.items [] (bi ls js U) M1
theorem HS(h:cA g tt te ok Q b xs aaQ U M):ok M:=by
 cases xs with
 |_=>exact h.1
theorem qR(h:liftE X B (aN wi ls js g tt te) Z H Q):HL (liftI X B wi) ls js (liftG0 X.K g) (liftT0 X.K tt) (liftE0 X.K te) Z H Q:=by
 obtain⟨U,M,QQ,s,h,u⟩:=h;refine#[U,M,_,s,h,λit M1 h1 J H1 rh1 f1 hJ p hp=>?_];have hMp:=rh1.fresh hp
 refine#[λi m σ' H'=>m=it.items.length-i/\i<=it.items.length/\∃δ' M' aaQ ys,RepH _ H' M'/\RepS _ H' δ' σ'/\H' p=ap (.lst ys)/\Rps X.K H' aaQ ys/\M' p=bb/\Frm M1 H1 M' H'/\
   cA g tt te _ _ _ (it.items.drop i) aaQ δ' M',
  #[_,rfl,by lia,_,M1,[],[],rh1.new hp,((s.rs.mono<|f1.imm s.rh).mono<|Imm.new hp).start ls js,upd_same,.nil,hMp,Frm.new hp,h1],?_]
 rintro i m σ2 H2 ⟨rfl,hi,δ2,M2,aaQ,ys,rh2,rs2,hp2,ra2,hm2,f2,h2⟩
 have hok:=HS h2;obtain⟨hgo,hstop⟩:=hJ i H2 M2 (f2.imm rh1) rh2 hok
 by_cases hlt:i<it.items.length
 .rw[VJ hlt]at h2
  obtain⟨go,hy⟩:=hgo _ (Tx hlt);refine .inr #[go,_,λσ' H' z=>#[_,by omega,rfl,hlt,z],λx H3 hx=>?_]
  obtain⟨f3,rh3,rx⟩:=hy x H3 hx;refine#[_,_,M2,_,rh3,rs2.mono (f3.imm rh2),rx,h2.2,λδ4 M4 h4 σ4 H4 f4 rh4 rs4=>?_];refine#[_,M4,_,rh4,rs4,h4,λc M5 h5 H5 rh5 f5=>?_];have f35:=(f3.trans f4).trans f5;obtain⟨hp5,hm5⟩:=f35.keep p _ hp2 hm2;cases c with
  |false=>
   exact#[_,M5,_,ys,rh5,rs4.mono (f5.imm rh4),hp5,ra2.mf rh2 f35,hm5,f2.trans f35,h5]
  |true=>
   refine#[_,M5,_,rh5,rs4.mono (f5.imm rh4),h5,λy M6 h6 v6 H6 rh6 f6 r6=>?_];obtain⟨hp6,hm6⟩:=f6.keep p _ hp5 hm5;have f26:=f35.trans f6;have ra6:=ra2.mf rh2 f26;refine#[ys,hp6,by rw[<- ra6.length];exact h6.1,?_]
   have im:Imm H6 (upd H6 p<|.lst (ys++[v6])):=Imm.upd (by rw[hp6];trivial)
   refine#[_,M6,_,_,rh6.keep im λb o hb=>aD (by lia),((rs4.mono<|f5.imm rh4).mono<|f6.imm rh5).mono im,upd_same,(ra6.append<|.cons r6 .nil).mono im,hm6,?_,h6.2]
   refine#[λb w e n=>?_];obtain⟨e2,n2⟩:=(f2.trans f26).keep b w e n;exact#[by rw[aD (by lia)];exact e2,n2]
 rw[VU (by omega)]at h2
 refine .inl #[hstop (by omega),u _ _ (h2.2 p hm2) _ H2 (rh2.add #[ys,hp2,ra2]) ?_ rfl]
 refine#[λb w e n=>?_];obtain⟨e1,n1⟩:=f1.keep b w e n;obtain⟨e2,n2⟩:=f2.keep b w e1 n1;exact#[e2,by rw[ae (bn e1 hp)];exact n2]
def P1(X:Cx)(B:Bd)(ifs:aa0)(T:fH):Prop:=Qf X ifs (liftT X B T)
def cX:fH:=λ_ M Q=>Q true M
theorem JR:P1 X B [] cX:=(by rintro b s Z H Q I ⟨U,M,QQ,c,h,u⟩;exact J_ _ s Z H Q I (u _ M h H c.rh Frm.refl))
theorem Iu(h:DT X B c t):P1 X B [c] t:=Jl h
theorem AH(h:P1 X yu es T):Qf X es (liftT0 X.K T):=λb s Z H Q I m=>by obtain⟨U,M,QQ,c,j,l,u⟩:=m;exact h _ s Z H Q I #[U,M,QQ,#[trivial,c,j],l,u]
theorem Jy(l:X.calm=true)(co:CompOk X scope cl ls fs js)(o:DI X B tg iter wi)(j:∀(C:cb)(b:ca)(H₀:Hp)(c:aaZ)(pl:aa3),DG (a_ X (ls++fs) scope cl C b H₀ c pl) yu tg g/\P1 (a_ X (ls++fs) scope cl C b H₀ c pl) yu ifs tt/\DE (a_ X (ls++fs) scope cl C b H₀ c pl) yu elt te)(m:∀x,qa iter X.env x=pure x:=by intro _;rfl):DE X B (.ListComp elt [#[tg,iter,ifs,0]] scope pos) (aN wi ls js g tt te):=
 aT (Ku l co o (λC b H₀ c pl=>#[G1 (j C _ _ c pl).1,AH (j C _ _ c pl).2.1,Fb (j C _ _ c pl).2.2]) m) λ_ _ _ h=>qR h
def cV(i:Nat)(t:ba):ar:=λD U M=>t U M λd M1=>D.nx (U.set i<|some d) M1
theorem KL(A:X.N.Nodup)(o:X.N[i]?=ap x)(G:Ej X.env.scope x)(F:X.calm=true)(co:CompOk X scope cl ls fs js)(I:DI X B tg iter wi)(m:∀(C:cb)(b:ca)(H₀:Hp)(j:aaZ)(pl:aa3),DG (a_ X (ls++fs) scope cl C b H₀ j pl) yu tg g/\P1 (a_ X (ls++fs) scope cl C b H₀ j pl) yu ifs tt/\DE (a_ X (ls++fs) scope cl C b H₀ j pl) yu elt te)(l:vr (.ListComp elt [#[tg,iter,ifs,0]] scope pos) (ap<|.Name x u) c.line X.env=pure true:=by rfl)(hs:∀x,qa iter X.env x=pure x:=by intro _;rfl)(hf:X.fn x=true\/X.env.scope.names.lookup x=ap .local:=by and_intros):
  DS X B (.Assign [.Name x u] (.ListComp elt [#[tg,iter,ifs,0]] scope pos) c) (cV i<|aN wi ls js g tt te):=by
 refine ck (Ky (g:=liftG0 _ g) (tt:=liftT0 _ tt) (te:=liftE0 _ te) A o G F co I (λC b H₀ j pl=>#[G1 (m C _ _ j pl).1,AH (m C _ _ j pl).2.1,Fb (m C _ _ j pl).2.2]) l hs hf) ?_
 rintro D Z H ⟨U,M,DD,s,h,z⟩
 exact qR #[U,M,_,s,h,λd M' q v H' y f r=>z.nx _ M' q _ H' f ((s.go y f).set r)]
def dF(i:Nat)(U:Dl)(M:Mem)(Q:Dl->Mem->Prop):Prop:=s2e U[i]? (λd=>onRe d (λa=>mLe (M a) (λb=>Q (U.set i<|some<|.lst b) (M.del a)) (Q U M)) (Q U M)) (Q U M)
def bO(t:ar)(i:Nat):ar:=λD U M=>t { D with nx:=λb M'=>dF i b M' D.nx } U M
theorem wu{α:Type}:∀{l:List α}{i:Nat}{x:α},l[i]?=ap x->l.set i x=l
 |[],_,_,h=>by simp at h
 |_::_,0,_,h=>by simp_all
 |_::_,i+1,_,h=>by rw[List.set_cons_succ,wu (by simpa using h)]
theorem Po(i:Nat)(h:DS X B st t):DS X B st (bO t i):=by
 intro aaN s Z H D I ⟨U,M,DD,sr,hT,up⟩;refine bz (h _ s Z H { D with nx:=λσ' H'=>∃δ' M',dF i _ M' _/\Frm M H M' H'/\SR X B _ M' _ H' } I #[U,M,_,sr,hT,#[λδ' M' q σ' H' f s'=>#[δ',M',q,f,s'],up.rt,up.bk,up.ct]]) λf s' q=>?_;cases f with
 |next=>
  obtain⟨σ',H',I',δ',M',q,f,s'⟩:=q;unfold dF at q
  replace q:=q.inv;rcases q with⟨w,ea,q⟩|q
  .replace q:=q.inv;rcases q with⟨a,rfl,q⟩|q
   .replace q:=q.inv;rcases q with⟨xs,e,q⟩|q
    rotate_left
    .exact#[_,H',I',up.nx _ _ q _ H' f s']
    obtain⟨vs,h1,h2⟩:=s'.rh _ _ e;obtain⟨o,I2⟩:=Inv.freeze I' h1;have im:Imm H' (upd H' a<|.frz o<|.lst vs):=Imm.upd (by rw[h1];trivial)
    obtain⟨v,hv,rv⟩:=s'.rs.get i _ ea;cases rv;refine#[_,_,I2,up.nx _ _ q _ _ (f.trans<|Frm.del #[_,e]) #[B.go s'.i0 (Frm.del #[_,e]),s'.rh.freeze h1,?_]];have:=(s'.rs.mono im).set (i:=i) (d:=.lst xs) #[a,vs,rfl,#[o,upd_same],h2.mono im]
    rwa [wu hv]at this
   exact#[_,H',I',up.nx _ _ q _ H' f s']
  exact#[_,H',I',up.nx _ _ q _ H' f s']
 |_=>exact q
abbrev DX:=cb->Mem->Prop
abbrev Sd:=List D->Mem->DK->DX->Prop
def qI(P:fx)(w:hG):pv:=λb H s E e c=>∃C,Ek P w C b H s E e c
def UpX(K:TH)(M:Mem)(H:Hp)(EE:DX)(E:XK):Prop:=∀C M',EE C M'->∀H',RepH K H' M'->Frm M H M' H'->E (.ref C) bb H'
def uT(K:TH)(B:Bd)(EE:DX)(E:XK):Prop:=∀C M',EE C M'->∀H',RepH K H' M'->B.p M' H'->E (.ref C) bb H'
theorem UpX.go{M1:Mem}(u:UpX K M H EE E)(i:Frm M H M1 H1):UpX K M1 H1 EE E:=λC M' q H' a b=>u C M' q H' a (i.trans b)
def bG(K:TH)(n:Nat)(T:Sd):Sp:=λb H Q E=>b.length=n/\∃ds M QQ EE,RepH K H M/\Rps K H ds b/\T ds M QQ EE/\Up K M H QQ Q/\UpX K M H EE E
def startN(N:aaX)(ds:List D):Dl:=ds.map ap++Um (N.length-ds.length) bb
theorem RepS.startN(N:aaX)(r:Rps K H ds vs):RepS K H (_3.startN N ds) (_2.start N vs):=by
 have l:=r.length;refine#[by simp[_3.startN,_2.start,l],λi d e=>?_]
 unfold _3.startN at e;unfold _2.start
 by_cases b:i<ds.length
 .rw[WG (by simp_all),TJ,Tx b]at e
  have h:ds[i]=d:=by simpa using e
  obtain⟨v,c,j⟩:=r.get (by rw[Tx b,h])
  refine#[v,?_,j];rw[WG (by simp;lia),TJ,c]
  rfl
 rw[U1 (by simp_all),Yo]at e
 simp_all
def drp(Q:DK)(d:D)(M':Mem):Prop:=∃M'',(∀b o,M'' b=ap o->M' b=ap o)/\Q d M''
def aJ(EE:DX)(C:cb)(M':Mem):Prop:=∃M'',(∀b o,M'' b=ap o->M' b=ap o)/\EE C M''
theorem ak(h:Q d M'):drp Q d M':=#[M',by lia,h]
theorem eP(h:EE C M'):aJ EE C M':=#[M',by lia,h]
theorem Frm.less(f:Frm M H M' H')(s:∀b o,M'' b=ap o->M' b=ap o):Frm M H M'' H':=#[λb u e n=>by
 obtain⟨c,h⟩:=f.keep b u e n;refine#[c,?_];cases q:M'' b<;>simp_all]
theorem Up.drp(u:Up K M H Q QV):Up K M H (_3.drp Q) QV:=(by rintro d M' ⟨_,s,q⟩ v H' c f r;exact u d _ q v H' (λb o e=>c b o (s b o e)) (f.less s) r)
theorem UpX.drp(u:UpX K M H EE E):UpX K M H (aJ EE) E:=(by rintro C M' ⟨_,s,q⟩ H' c f;exact u C _ q H' (λb o e=>c b o (s b o e)) (f.less s))
def aK(N:aaX)(T:DX->ar):Sd:=λb M Q EE=>T (aJ EE) { nx:=λ_ M'=>drp Q .non M',rt:=drp Q } (startN N b) M
theorem fnD(F:Fun K x aaO st f fd)(S:FnScope N ps (aQ st))(I:∀(c:ay)(A:h7)(b:List Env)(s:ca)(H:Hp)(E:XK)(B:Bd)(EE:DX),Room k (A.deeper<|VY aaO (aQ st) s.heap.objs.size f c)->uT K B EE E->
   zf (eY (qI P w) P w K mg base N aaO (aQ st) f c A b s H E) B (bE st) (T EE)):
  FnOk P w K mg base (qI P w) (k+1) f fd ps (bG K ps.length<|aK N T):=by
 obtain⟨J,W,kV,o,O,an,c,L,m,rfl,lk,j⟩:=F.ex;refine MJ lk j S (λy H Q E h=>h.1) λA b s H y Q E v l=>?_;obtain⟨R,Y,M,QQ,EE,rh,r,G,u,ux⟩:=l;exact#[_,I _ A _ s H E (Bd.of M H) _ v ux.drp,_,M,_,#[Frm.refl,rh,.startN N r],G,#[λU M' q Z H' f z=>u.drp _ M' q _ H' z.rh f rfl,u.drp,λU M' q=>q.elim,λU M' q=>q.elim]]
theorem e_:FnOk P w K mg base CX k f fd ps (bG K n λ_ _ _ _=>False):=
 #[λj H Q E h=>(by obtain⟨_,_,_,_,_,_,_,h,_⟩:=h;exact h.elim),λA b s H c l j Q E _ _ _ _ h=>(by obtain⟨_,_,_,_,_,_,_,h,_⟩:=h;exact h.elim)]
theorem Gn:bV (qI P w) (eY (qI P w) P w K mg base N aaO scope f m A b l H0 E) E:=by
 intro c Z H s e j I ⟨C,h⟩;exact k6 (Si _ Z H s e j (I.wish _) h) (λ_ _ z=>#[C,z]) λ_ _ z=>#[C,z]
theorem xK:bV (qI P w) X E0:=(by rintro aaN Z H s e s' I ⟨C,hx⟩;exact(by
 obtain⟨_,_,_,_,_,_,_,_,_,_,_,_,hE⟩:=hx;trivial))
def Sub(M1 M:Mem):Prop:=∀b o,M1 b=ap o->M b=ap o
def Dis(M1 M M':Mem):Prop:=∀b o,M b=ap o->M1 b=bb->M' b=bb
noncomputable def plus(M' M1 M:Mem):Mem:=λb=>match M' b with
 |some o=>ap o
 |none=>match M1 b with
  |some _=>bb
  |none=>M b
theorem qy:plus M' M M=M':=by
 funext b;simp[plus];lia
structure BxQ(EE:DX)(Q:DK):Type
structure calls(T:Sd)(EE:DX)(ds:List D)(M:Mem)(Q:DK)(_:BxQ EE Q):Prop where
 go:∃M1,Sub M1 M/\T ds M1 (λd M'=>Dis M1 M M'->Q d (plus M' M1 M)) (λC M'=>Dis M1 M M'->EE C (plus M' M1 M))
section
variable{M1:Mem}
theorem RepH.sub(r:RepH K H M)(s:Sub M1 M):RepH K H M1:=λb o e=>r b o (s b o e)
theorem RepH.dis(r:RepH K H M)(f:Frm M1 H M' H'):Dis M1 M M':=λb o e n=>by
 obtain⟨u,q⟩:=(r b o e).obj;exact(f.keep b u q n).2
theorem RepH.plus(r:RepH K H M)(s:Sub M1 M)(h:RepH K H' M')(f:Frm M1 H M' H'):RepH K H' (plus M' M1 M):=λb o e=>by
 simp[_3.plus]at e
 split at e
 .rename_i j q;cases e;exact h b _ q
 split at e
 .cases e
 rename_i q n
 obtain⟨u,c⟩:=(r b o e).obj;exact(r b o e).keep (f.imm<|r.sub s) ((f.keep b u c n).1.trans c.symm)
theorem Frm.plus(s:Sub M1 M)(f:Frm M1 H M' H'):Frm M H (plus M' M1 M) H':=#[λb u e n=>by
 have c:M1 b=none:=by
  cases q:M1 b with
  |none=>rfl
  |some o=>rw[s b o q]at n;cases n
 obtain⟨j,h⟩:=f.keep b u e c;exact#[j,by simp[_3.plus,h,c,n]]]
theorem de(h:calls T EE ds M Q b)(rh:RepH K H M)(r:Rps K H ds vs)(j:vs.length=n)(u:Up K M H Q QV)(ux:UpX K M H EE E):bG K n T vs H QV E:=by
 obtain⟨M1,s,h⟩:=h.go;exact#[j,ds,M1,_,_,rh.sub s,r,h,λd M' q v H' c f=>u d _ (q<|rh.dis f) v H' (rh.plus s c f) (f.plus s),λC M' q H' c f=>ux C _ (q<|rh.dis f) H' (rh.plus s c f) (f.plus s)]
theorem ao(c:∀Q' E',(∀d M,Q d M->Q' d M)->(∀C M,EE C M->E' C M)->T ds M Q' E'):calls T EE ds M Q b:=
 #[M,λ_ _ e=>e,c _ _ (λd M' q _=>by rw[qy];exact q) λC M' q _=>by rw[qy];exact q]
def aj(T:Sd)(EE:DX)(n:Nat)(t:eJ):ba:=λU M Q=>t U M λb M1=>b.length=n/\calls T EE b M1 Q #[]
theorem SR.ux(s:SR X B U M Z H)(ux:uT X.K B EE E):UpX X.K M H EE E:=λC M' q H' a b=>ux C M' q H' a (B.go s.i0 b)
theorem sg(F:FnOk X.prog X.w X.K X.mg X.base CX k f fd ps (bG X.K n T))(G:Room k X.A)(q:Gl X x)(z:X.mg x=ap (.ref f))(v:U8 X.K (.ref f)=true)(J:Binds X.K fd ps [])(I:bV CX X E)(ux:uT X.K B EE E)(y:DA X B (e::es) t)(c:(x==("__debug__":Str))=false:=by decide)(he:eH (e::es) X.env=(cp,g3 e X.env)::eH es X.env:=by rfl)(hpl:(j0 pos<|starEach es X.env).any (·.1)=false:=by rfl):
  DE X B (.Call (.Name x p) (e::es) [] pos) (aj T EE n t):=by
 refine aT (yX F G q z v J .nil I y c he hpl) ?_
 rintro Z H Q ⟨U,M,QQ,s,h,u⟩
 refine#[U,M,_,s,h,λO M1 j L H1 b i1 l=>?_];rw[UH];exact de j.2 b l (by rw[<- l.length];exact j.1) (u.go i1) ((s.ux ux).go i1)
def dw(C:cb)(m:Str)(T:Sd)(EE:DX)(n:Nat)(ta:ba)(t:eJ):ba:=λU M Q=>ta U M λx M1=>onR x λa=>mN (M1 a) λC' fs=>C'=C/\fs.lookup m=bb/\t U M1 λb M2=>b.length+1=n/\calls T EE (.ref a::b) M2 Q #[]
theorem JB(Y:DE X B o ta)(c:Cls X.K C)(hm:Meth X.K C m f)(F:FnOk X.prog X.w X.K X.mg X.base CX k f fd ps (bG X.K n T))(hr:Room k X.A)(hb:Binds X.K fd ps [])(hx:bV CX X E)(ux:uT X.K B EE E)(ha:DA X B (e::es) t)(y:eH (e::es) X.env=(cp,g3 e X.env)::eH es X.env:=by rfl)(hpl:(j0 pos<|starEach es X.env).any (·.1)=false:=by rfl)(ht:g3 (.Call (.Attribute o m aaS) (e::es) [] pos) X.env=(do
   let ov <- g3 o X.env
   V_ aaS.atName
   let (f,first) <- vb [ov] (UV ov m pl)
   Z4 pos f first (j0 pos<|starEach (e::es) X.env) (y' pos<|keywordEach [] X.env)):=by rfl):
  DE X B (.Call (.Attribute o m aaS) (e::es) [] pos) (dw C m T EE n ta t):=by
 refine aT (Js Y c hm F hr hb .nil hx ha y hpl ht) ?_
 rintro Z H Q ⟨U,M,QQ,s,h,u⟩
 refine#[U,M,_,s,h,λx M1 b v H1 j i1 R=>?_]
 replace b:=b.inv;obtain⟨a,rfl,b⟩:=b
 cases R;obtain⟨C',fs,W,b⟩:=b.inv;obtain⟨rfl,hl,b⟩:=b;obtain⟨L,J,S,O⟩:=j _ _ W;have l:J.lookup m=none:=by
  rcases O.lookup m with⟨_,z⟩|⟨d,v,z,_⟩
  .exact z
  simp_all
 refine#[a,L,J,rfl,S,l,U,M1,_,s.go j i1,b,λds M2 I vs H2 q i2 G=>?_];rw[UH];exact de I.2 q (.cons rfl G) (by rw[Ug,<- G.length];exact I.1) (u.go<|i1.trans i2) ((s.ux ux).go<|i1.trans i2)
theorem FE(R:DE X B o ta)(c:Cls X.K C)(W:Meth X.K C m f)(F:FnOk X.prog X.w X.K X.mg X.base CX k f fd ps (bG X.K n T))(S:Room k X.A)(O:Binds X.K fd ps [])(Y:bV CX X E)(ux:uT X.K B EE E)(ht:g3 (.Call (.Attribute o m aaS) [] [] pos) X.env=(do
   let ov <- g3 o X.env
   V_ aaS.atName
   let (f,first) <- vb [ov] (UV ov m pl)
   Z4 pos f first (j0 pos<|starEach [] X.env) (y' pos<|keywordEach [] X.env)):=by rfl):
  DE X B (.Call (.Attribute o m aaS) [] [] pos) (dw C m T EE n ta af):=by
 refine aT (FD R c W F S O .nil Y ht) ?_
 rintro Z H Q ⟨U,M,QQ,s,h,u⟩
 refine#[U,M,_,s,h,λx M1 b v H1 j i1 L=>?_]
 replace b:=b.inv;obtain⟨a,rfl,b⟩:=b
 cases L;obtain⟨C',fs,J,b⟩:=b.inv;obtain⟨rfl,hl,b⟩:=b;obtain⟨y,q,G,I⟩:=j _ _ J;have l:q.lookup m=none:=by
  rcases I.lookup m with⟨_,z⟩|⟨d,v,z,_⟩
  .exact z
  simp_all
 exact#[a,y,q,rfl,G,l,de b.2 j (.cons rfl .nil) b.1 (u.go i1)<|(s.ux ux).go i1]
def gQ(C:cb)(T:Sd)(EE:DX)(n:Nat)(t:eJ):ba:=λU M Q=>t U M λb M1=>b.length+1=n/\∀a,M1 a=bb->calls T EE (.ref a::b) (M1.upd a<|.ins C []) (λd M2=>onN d (Q (.ref a) M2)) #[]
theorem IF(Mk':Mk X.K C f)(F:FnOk X.prog X.w X.K X.mg X.base CX k f fd ps (bG X.K n T))(hr:Room (k+1) X.A)(hg:Gl X x)(hm:X.mg x=ap (.ref C))(hb:Binds X.K fd ps [])(hx:bV CX X E)(ux:uT X.K B EE E)(ha:DA X B (e::es) t)(hdb:(x==("__debug__":Str))=false:=by decide)(he:eH (e::es) X.env=(cp,g3 e X.env)::eH es X.env:=by rfl)(hpl:(j0 pos<|starEach es X.env).any (·.1)=false:=by rfl):
  DE X B (.Call (.Name x p) (e::es) [] pos) (gQ C T EE n t):=by
 refine aT (Jt Mk' F hr hg hm hb .nil hx ha hdb he hpl) ?_
 rintro Z H Q ⟨U,M,QQ,s,h,u⟩
 refine#[U,M,_,s,h,λds M1 h1 vs H1 rh1 i1 r1 a dx na ndx nex=>?_];rw[UH];have nx1:upd H1 dx (.own a) a=none:=by rw[aD (Uk nex)];exact na
 have f2:Frm M1 H1 (M1.upd a<|.ins C []) (upd (upd H1 dx<|.own a) a<|.ins C dx []):=(Frm.new ndx).trans (Frm.put<|.inl nx1);refine de (h1.2 a<|rh1.fresh na) ((rh1.new ndx).put (by rw[nx1];trivial) #[dx,[],upd_same,.nil]) (.cons rfl<|(r1.mono<|Imm.new ndx).mono<|Imm.new nx1) (by rw[Ug,<- r1.length];exact h1.1) (λd M2 h2 v H2 rh f r=>?_) ((s.ux ux).go<|i1.trans f2)
 cases d with
 |non=>exact#[r,u _ M2 h2 _ H2 rh ((i1.trans f2).trans f) rfl]
 |_=>exact(show False from h2).elim
end
section
variable{id:String}
abbrev A8:=D->List D->Mem->DK->Prop
inductive liftM(X:Cx)(r:A8)(x:V)(xs:List V)(H:Hp)(Q:VK):Prop
 |mk (d:D) (ds:List D) (M:Mem) (QQ:DK) (rh:RepH X.K H M) (rx:Rp X.K H d x) (rs:Rps X.K H ds xs) (h:r d ds M QQ) (u:Up X.K M H QQ Q):liftM X r x xs H Q
def kH(Ty:String)(r:A8)(to:ba)(t:eJ):ba:=λU M Q=>to U M λx M1=>eh M1 x=ap Ty/\t U M1 λb M2=>r x b M2 Q
theorem Fp(l:RepH K H M)(r:Rp K H d v)(e:eh M d=ap Ty)(h:Ty="list"\/Ty="str"\/Ty="int"\/Ty="dict"):tyV K Ty v H:=by
 cases d with
 |non=>cases e;trivial
 |bl b=>cases e;trivial
 |int i=>cases r;cases e;rfl
 |str x=>cases r;cases e;rfl
 |tup xs=>cases e;trivial
 |lst xs=>
  cases e;obtain⟨p,u,rfl,s,r⟩:=r;exact .inl #[rfl,u,s.sq]
 |ref a=>
  cases r;simp[eh]at e
  split at e
  .rename_i q;cases e;obtain⟨j,c,m⟩:=l _ _ q;exact .inl #[rfl,j,SqL.of c]
  .rename_i q;cases e;obtain⟨j,c,m⟩:=l _ _ q;exact .inr (.inr<|.inl<|by simp_all)
  .rename_i q;cases e;obtain⟨j,c,m⟩:=l _ _ q;exact .inr (.inr<|.inl<|by simp_all)
  cases e
 |_=>cases e
theorem Ss(I:Ty="list"\/Ty="str"\/Ty="int"\/Ty="dict")(G:W' Ty)(j:Slot Ty name id)(m:ZY (.builtin id)=pure (.type "method_descriptor"))(J:xz X id (liftM X r))(O:DE X B o to)(L:DA X B (e::es) t)(c:k' o name X.env (g3 o X.env)=g3 o X.env:=by rfl)(hfew:((j0 aaR<|starEach (e::es) X.env).all (λx=>!x.1)&&(y' aaR<|keywordEach [] X.env).all (λx=>x.1.isSome)
   && decide ((e::es).length+([]:List wh).length+(if ([]:List wh).isEmpty then 0 else 1)<30))=true:=by rfl)(hline:(aaS.endLine==aaR.line)=true:=by rfl)(hs:eH (e::es) X.env=(cp,g3 e X.env)::eH es X.env:=by rfl)(hplain:(j0 aaR<|starEach es X.env).any (·.1)=false:=by rfl):
  DE X B (.Call (.Attribute o name aaS) (e::es) [] aaR) (kH Ty r to t):=by
 refine aT (S4 G j m J O L c hfew hline hs hplain) ?_
 rintro Z H Q ⟨U,M,QQ,s,h,u⟩
 exact#[U,M,_,s,h,λx M1 q v H1 b i1 y=>#[Fp b y q.1 I,U,M1,_,s.go b i1,q.2,λz M2 F R H2 l i2 A=>#[x,z,M2,QQ,l,y.mf b i2,A,F,u.go<|i1.trans i2]]]
theorem PV(z:Ty="list"\/Ty="str"\/Ty="int"\/Ty="dict")(y:W' Ty)(j:Slot Ty name id)(l:ZY (.builtin id)=pure (.type "method_descriptor"))(A:xz X id (liftM X r))(F:DE X B o to)(b:k' o name X.env (g3 o X.env)=g3 o X.env:=by rfl)(hline:(aaS.endLine==aaR.line)=true:=by rfl):DE X B (.Call (.Attribute o name aaS) [] [] aaR) (kH Ty r to af):=by
 refine aT (Nw y j l A F b hline) ?_
 rintro Z H Q ⟨U,M,QQ,s,h,u⟩
 exact#[U,M,_,s,h,λx M1 m v H1 c i1 q=>#[Fp c q m.1 z,#[x,[],M1,QQ,c,q,.nil,m.2,u.go i1]]]
def bC:A8:=λx c M Q=>onR x λa=>one c λy=>mL (M a) λb=>b.length<sizeLine/\Q .non (M.upd a<|.lst (b++[y]))
theorem xN:xz X "list.append" (liftM X bC):=by
 rintro aaN s Z H x vs v us Q I rx rv ⟨d,ds,M,QQ,rh,r,rs,h,up⟩
 unfold bC at h
 replace h:=h.inv;obtain⟨a,rfl,h⟩:=h
 replace h:=h.inv;obtain⟨y,rfl,h⟩:=h
 cases r;obtain⟨w,rfl,rw'⟩:=fX (ds:=[]) rs;obtain⟨xs,hM,h⟩:=h.inv;obtain⟨ws,h1,h2⟩:=rh _ _ hM;exact Dv _ s Z H _ _ v us Q I rx rv #[a,ws,w,rfl,rfl,h1,by rw[<- h2.length];exact h.1,up _ _ h.2 _ _ (rh.put (by rw[h1];trivial) #[_,upd_same,(h2.append<|by trivial).mono<|Imm.upd<|by rw[h1];trivial]) (Frm.put<|.inr #[_,hM]) rfl]
def D8:A8:=λx b M Q=>onR x λa=>nilOr b (mL (M a) λxs=>so xs[xs.length-1]? λy=>Q y (M.upd a<|.lst xs.dropLast)) λd=>onI d λi=>mL (M a) λxs=>so (yD xs.length i) λk=>so xs[k]? λy=>Q y (M.upd a<|.lst<|xs.eraseIdx k)
theorem CG:xz X "list.pop" (liftM X D8):=by
 rintro aaN s Z H x vs v us Q I rx rv ⟨d,ds,M,QQ,rh,r,rs,h,up⟩
 unfold D8 at h
 replace h:=h.inv;obtain⟨a,rfl,h⟩:=h
 replace h:=h.inv;rcases h with⟨rfl,h⟩|⟨w,rfl,h⟩
 .cases r
  cases rs;obtain⟨xs,hM,h⟩:=h.inv;obtain⟨y,ey,h⟩:=h.inv;obtain⟨ws,h1,h2⟩:=rh _ _ hM;obtain⟨w,hw,rw'⟩:=h2.get ey;have im:Imm H (upd H a<|.lst ws.dropLast):=Imm.upd (by rw[h1];trivial)
  exact Qb _ s Z H _ _ v us Q I rx rv #[a,ws,w,rfl,rfl,h1,by rw[<- h2.length];exact hw,up _ _ h _ _ (rh.put (by rw[h1];trivial) #[_,upd_same,h2.dropLast.mono im]) (Frm.put<|.inr #[_,hM])<|rw'.mono im]
 replace h:=h.inv;obtain⟨i,rfl,h⟩:=h
 cases r;obtain⟨w0,rfl,rw0⟩:=fX (ds:=[]) rs;cases rw0;obtain⟨xs,hM,h⟩:=h.inv;obtain⟨k,ek,h⟩:=h.inv;obtain⟨y,ey,h⟩:=h.inv;obtain⟨ws,h1,h2⟩:=rh _ _ hM;obtain⟨w,hw,rw'⟩:=h2.get ey;obtain⟨j1,j2,j3,j4⟩:=tN ek;have hz:=(I.lstM h1).1;have hs:sizeLine=16777216:=rfl;have hl:=h2.length;have im:Imm H (upd H a<|.lst<|ws.eraseIdx k):=Imm.upd (by rw[h1];trivial)
 exact Gp _ s Z H _ _ v us Q I rx rv #[a,ws,i,k,w,rfl,rfl,h1,by lia,by lia,by rw[<- hl];exact j1,hw,up _ _ h _ _ (rh.put (by rw[h1];trivial) #[_,upd_same,(h2.eraseIdx k).mono im]) (Frm.put<|.inr #[_,hM])<|rw'.mono im]
def jK:List D->Option (List Str)
 |[]=>ap []
 |.str x::ds=>match jK ds with
  |some xs=>ap (x::xs)
  |none=>bb
 |_=>bb
theorem vV:∀{ds:List D}{vs:List V}{xs:aaX},Rps K H ds vs->jK ds=ap xs->vs=xs.map V.str
 |[],vs,xs,r,e=>by cases e;exact r
 |d::ds,vs,xs,r,e=>by
  obtain⟨v,l,rfl,a,b⟩:=r;cases d with
  |str c=>
   simp[jK]at e
   split at e
   .rename_i h j
    cases e;cases a;rw[vV b j];rfl
   cases e
  |_=>cases e
def iA:A8:=λx l M Q=>onT x λc=>one l λh=>onS h λz=>so (jK c) λb=>b.length<=1000/\so (b.findIdx? λy=>decide (y=z)) λj=>Q (.int (j:Nat)) M
theorem xF:xz X "tuple.index" (liftM X iA):=by
 rintro q s Z H x vs v R Q I G u ⟨d,ds,M,QQ,J,r,y,h,O⟩
 unfold iA at h
 replace h:=h.inv;obtain⟨xs,rfl,h⟩:=h
 replace h:=h.inv;obtain⟨w9,rfl,h⟩:=h
 replace h:=h.inv;obtain⟨z,rfl,h⟩:=h
 obtain⟨p,ws,rfl,W,r⟩:=r;obtain⟨w,rfl,c⟩:=fX (ds:=[]) y;cases c;obtain⟨b,A,h⟩:=h.inv;obtain⟨F,h⟩:=h;obtain⟨j,l,h⟩:=h.inv;have:=vV r A;subst this;rw[Xl]at l;obtain⟨Y,e1,S⟩:=l;refine D4 _ s Z H _ _ v R Q I G u #[p,_,z,j,rfl,rfl,W,F,?_,λm L=>?_,O _ M h _ H J Frm.refl rfl]
 .simp_all
 rw[Tx _];simpa using (S m L)
def Iq(r:A8)(to:ba)(t:eJ):ba:=λU M Q=>to U M λx M1=>onT x λb=>t U M1 λc M2=>r (.tup b) c M2 Q
theorem Rf(j:Slot "tuple" name id)(q:ZY (.builtin id)=pure (.type "method_descriptor"))(O:xz X id (liftM X r))(R:DE X B o to)(L:DA X B (e::es) t)(b:k' o name X.env (g3 o X.env)=g3 o X.env:=by rfl)(hfew:((j0 aaR<|starEach (e::es) X.env).all (λx=>!x.1)&&(y' aaR<|keywordEach [] X.env).all (λx=>x.1.isSome)
   && decide ((e::es).length+([]:List wh).length+(if ([]:List wh).isEmpty then 0 else 1)<30))=true:=by rfl)(hline:(aaS.endLine==aaR.line)=true:=by rfl)(hs:eH (e::es) X.env=(cp,g3 e X.env)::eH es X.env:=by rfl)(hplain:(j0 aaR<|starEach es X.env).any (·.1)=false:=by rfl):
  DE X B (.Call (.Attribute o name aaS) (e::es) [] aaR) (Iq r to t):=by
 refine aT (SB j q O R L b hfew hline hs hplain) ?_
 rintro Z H Q ⟨U,M,QQ,s,h,u⟩
 refine#[U,M,_,s,h,λx M1 y v H1 c i1 A=>?_];cases x with
 |tup xs=>
  have l:=A;obtain⟨p,z,rfl,J,S⟩:=l;exact#[#[p,z,rfl,J],U,M1,_,s.go c i1,y,λF M2 I z H2 m i2 G=>#[_,F,M2,QQ,m,A.mf c i2,G,I,u.go<|i1.trans i2]]
 |_=>exact y.elim
def Fv:ba:=λ_ M Q=>∀p,M p=bb->Q (.ref p) (M.upd p<|.dT [])
theorem KP:DE X B (.Dict [] [] pos) Fv:=by
 refine aT GJ ?_
 rintro Z H Q ⟨U,M,QQ,s,h,u⟩ p hp
 exact u _ _ (h p<|s.rh.fresh hp) _ _ (s.rh.put (by rw[hp];trivial) #[[],upd_same,.nil]) (Frm.put<|.inl hp) rfl
def Ms(ks:List aC)(ys:List D):List (aC×D):=(ks.zip ys).foldl (λa p=>dU a p.1 p.2) []
theorem wP:∀{ks:List aC}{ds:List D}{vs:List V}{a:List (aC×D)}{b:List (aC×V)},Rps K H ds vs->Rkv K H a b->
  Rkv K H ((ks.zip ds).foldl (λa p=>dU a p.1 p.2) a) ((ks.zip vs).foldl (λa p=>fu a p.1 p.2) b)
 |[],_,_,_,_,_,r=>r
 |_::_,[],_,_,_,h,r=>by cases h;exact r
 |k::ks,d::ds,_,_,_,h,r=>by
  obtain⟨v,vs,rfl,a,b⟩:=h;exact wP (ks:=ks) b (r.put k a)
def gE(t:eJ):ba:=λU M Q=>t U M λm M1=>two m λc h=>onT c λl=>onT h λj=>so (fc l) λb=>b.length=j.length/\0<b.length/\b.length<=1000/\∀p,M1 p=bb->Q (.ref p) (M1.upd p<|.dK<|Ms b j)
theorem wW(hc:X.calm=true)(hg:Gl X "zip")(hm:X.mg "zip"=bb)(hg2:Gl X "dict")(hm2:X.mg "dict"=bb)(ha:DA X B [a,b] ta)(hs:eH [a,b] X.env=[(cp,g3 a X.env),(cp,g3 b X.env)]:=by rfl)(hs2:eH [b] X.env=[(cp,g3 b X.env)]:=by rfl)(hs3:eH [Yn (.Name "zip" p2) [a,b] [] pos2] X.env=[(cp,g3 (.Call (.Name "zip" p2) [a,b] [] pos2) X.env)]:=by rfl):
  DE X B (.Call (.Name "dict" p) [.Call (.Name "zip" p2) [a,b] [] pos2] [] pos) (gE ta):=by
 refine aT (wV cp cp hc hg hm hg2 hm2 ha hs hs2 hs3) ?_
 rintro Z H Q ⟨U,M,QQ,s,h,u⟩
 refine#[U,M,_,s,h,λds M1 h1 vs H1 rh1 i1 r1=>?_]
 replace h1:=h1.inv;obtain⟨w10,w11,rfl,h1⟩:=h1
 replace h1:=h1.inv;obtain⟨_,rfl,h1⟩:=h1
 replace h1:=h1.inv;obtain⟨_,rfl,h1⟩:=h1
 obtain⟨v,w,rfl,rv,rw'⟩:=JV r1;obtain⟨l1,us,rfl,t1,ru⟩:=rv;obtain⟨l2,ws,rfl,t2,rw2⟩:=rw';obtain⟨ks,ek,h1⟩:=h1.inv;obtain⟨e1,e2,e3,h1⟩:=h1;have hk:=mv ru ek;subst hk;exact#[l1,l2,ks,ws,rfl,t1.sq,t2.sq,by rw[<- rw2.length];exact e1,e2,e3,λd hd=>u _ _ (h1 d<|rh1.fresh hd) _ _ (rh1.put (by rw[hd];trivial) #[_,upd_same,(wP rw2 .nil).mono<|Imm.new hd]) (i1.trans<|Frm.put<|.inl hd) rfl]
end
theorem J9(h:PS X st t)(k:∀e s,X.xe e s->E' e s):PS (X.wish E') st t:=λc s Z H D I q=>
 k6 (h _ s Z H D I.unwish q) (λf j z=>by
  cases f with
  |ret u=>obtain⟨v,b,H',I,r,q⟩:=z;exact#[v,_,H',I.wish _,r,q]
  |_=>obtain⟨b,H',I,q⟩:=z;exact#[_,H',I.wish _,q]) k
def nH(C:cb)(EE:DX):ar:=λ_ _ M=>EE C M
theorem Fs{jj}(X:ExcAt K C)(m:mg x=ap (.ref C))(ux:uT K B EE E)(l:Gl (eY (qI P w) P w K mg base N aaO scope f cd A outer s0 H0 E) x)(o:(x==("__debug__":Str))=false:=by decide)(hs:eH [.Constant (.str b) jj aaS] (eY (qI P w) P w K mg base N aaO scope f cd A outer s0 H0 E).env=[(cp,g3 (.Constant (.str b) jj aaS) (eY (qI P w) P w K mg base N aaO scope f cd A outer s0 H0 E).env)]:=by rfl):
  DS (eY (qI P w) P w K mg base N aaO scope f cd A outer s0 H0 E) B (.Raise (ap<|.Call (.Name x c) [.Constant (.str b) jj aaS] [] aaR) bb pos) (nH C EE):=by
 have j:PS (eY (qI P w) P w K mg base N _ _ f cd A outer s0 H0 E) (.Raise (ap<|.Call (.Name x c) _ [] aaR) _ pos) _:=
  J9 (Fj X m l o hs) λe s h=>k6 h (λ_ _ z=>#[C,z]) λ_ _ z=>#[C,z]
 refine ck j ?_
 rintro D Z H ⟨U,M,DD,s,h,q⟩
 exact ux C M h H s.rh s.i0
def OB(C:cb)(T:Sd)(n:Nat)(ta:eJ)(ts:ar):ar:=λD U M=>ta U M λb M1=>b.length=n/\calls T (λC' M2=>C'=C/\ts D U M2) b M1 (λ_ M2=>D.nx U M2) #[]
theorem SR.mark(s:SR X B U M Z H):SR (X.marked e) B U M Z H:=#[s.i0,s.rh,s.rs]
theorem SR.unmark(s:SR (X.marked e) B U M Z H):SR X B U M Z H:=#[s.i0,s.rh,s.rs]
theorem UpD.mark{D:Ends}(u:UpD X B M H DD D):UpD (X.marked e) B M H DD D:=
 #[λU M q Z H' f s=>u.nx U M q Z H' f s.unmark,u.rt,λU M q Z H' f s=>u.bk U M q Z H' f s.unmark,λU M q Z H' f s=>u.ct U M q Z H' f s.unmark]
theorem KE(F:FnOk P w K mg base (qI P w) k f fd ps sp):
  FnOk P w K mg base (Ek P w C) k f fd ps (λvs H Q E=>sp vs H Q λCv a H'=>Cv=.ref C/\E Cv a H'):=
 #[λvs H Q E=>F.len _ _ _ _,λA c s H j J vs Q E v o G z u=>TD (F.run A _ s H _ J vs Q _ v o G z u) λr s' h=>by
  cases r with
  |ok fl=>cases fl<;>exact h
  |error e=>
   obtain⟨C',y,H',B,I,l,O,W,L,m,R,q,Y,S,b⟩:=h;have eC:C'=C:=by injection S
   subst eC;exact#[y,H',B,I,l,O,W,L,m,R,q,Y,b]]
theorem yq(W:X.stack=X.env::X.outer)(I:X.env.frame=ap X.env.locals)(F:FnOk X.prog X.w X.K X.mg X.base (qI X.prog X.w) k f fd ps (bG X.K n T))(hr:Room k X.A)(hg:Gl X x)(hm:X.mg x=ap (.ref f))(hk:U8 X.K (.ref f)=true)(hb:Binds X.K fd ps [])(ha:DA X.nox B (e::es) ta)(EX:ExcAt X.K C)(R:Gl X q)(J:X.mg q=ap (.ref C))(S:∀y:cb,zf (X.marked<|.ref y) B (c::b) O)(L:(x==("__debug__":Str))=false:=by decide)(hdC:(q==("__debug__":Str))=false:=by decide)(he:eH (e::es) X.env=(cp,g3 e X.env)::eH es X.env:=by rfl)(hpl:(j0 G<|starEach es X.env).any (·.1)=false:=by rfl)(hsw:vr (.Call (.Name x p) (e::es) [] G) bb ep.line X.env=pure false:=by rfl):
  DS X B (.Try [.Expr (.Call (.Name x p) (e::es) [] G) ep] [.ExceptHandler (ap<|.Name q np) bb (c::b) o] [] [] pos) (OB C T n ta O):=by
 have l:∀y:cb,B5 _ _ (liftS X B O):=λy=>oG (S y) (by rintro D Z H ⟨U,M,DD,s,h,u⟩;exact#[U,M,DD,s.mark,h,u.mark])
 refine ck (xT W I (KE F) hr hg hm hk hb .nil ha EX R J l L hdC he hpl hsw) ?_
 rintro D Z H ⟨U,M,DD,s,h,up⟩
 refine#[U,M,_,#[s.i0,s.rh,s.rs],h,λds M1 Y vs H1 z i1 r1=>?_]
 try dsimp only
 rw[UH];refine de Y.2 z r1 (by rw[<- r1.length];exact Y.1) (λd M2 m v H2 j i2 r2=>?_) λC' M2 m H2 j i2=>?_
 .exact up.nx _ _ m Z H2 (i1.trans i2) (s.go j<|i1.trans i2)
 obtain⟨rfl,m⟩:=m;exact#[rfl,U,M2,DD,s.go j (i1.trans i2),m,up.go<|i1.trans i2]
end _3
namespace _2
open PySem PySem.Spec PyProof.Rows
theorem gr(h:(Wp scope env).names.lookup x=ap k):∃c,(x,c)∈scope.names/\(k=c\/(c=.free/\k=.cell)):=by
 obtain⟨⟨n,b⟩,f,g⟩:=TM.mp (Vb h)
 by_cases e:(b==NameKind.free&&env.scope.kind==.function&&env.kindOf n==ap .cell)=true
 .have a:(n,NameKind.cell)=(x,k):=by rw[<- g];show _=(if _ then _ else _);rw[if_pos e]
  cases a;exact#[b,f,by lia]
 have a:(n,b)=(x,k):=by rw[<- g];show _=(if _ then _ else _);rw[if_neg e]
 cases a;exact#[_,f,.inl rfl]
theorem kh:∀{fs:aaX}{a:aaZ},fs.length=a.length->x∈fs->∃c,(fs.zip a).lookup x=ap c
 |[],_,_,h=>by cases h
 |_::_,[],h,_=>by simp at h
 |y::fs,c::a,hl,h=>by
  rw[YW,Xx];cases e:x==y with
  |true=>simp_all
  |false=>
   rcases TK.mp h with z|z
   .simp_all
   exact kh (by simp_all) z
theorem J5(o:a.kind=.function)(e:∀y∈a.names,y.2≠.cell/\(y.2=.free->y.1∈fs))(r:∀x∈a.names,x.2=.local->a.names.lookup x.1=ap .local)
  (f:fs.length=g.length) (j:Z0 a X.env=pure (fs.zip g)) (n:∀p∈fs.zip g,X.env.cells.lookup p.1=ap p.2) (q:Frees X a fs l):CompOk X a (fs.zip g) ls fs l where
 kind:=o
 nocell:=λy i=>(e y i).1
 locs:=r
 clos:=j
 cells:=λy d h=>n (y,d) (Vb h)
 has:=λy h=>by
  have i:y∈fs:=by
   rcases h with h|h
   .obtain⟨m,c,b|⟨b,_⟩⟩:=gr h
    .exact absurd b.symm (e _ c).1
    .exact(e _ c).2 b
   .obtain⟨m,c,b|⟨b,_⟩⟩:=gr h
    .exact(e _ c).2 b.symm
    .exact(e _ c).2 b
  exact kh f i
 frees:=q
theorem memZ{α:Type}{C:α->Prop}:∀p∈([]:List α),C p:=λ_ h=>by cases h
theorem memC{α:Type}{C:α->Prop}{a:α}{l:List α}(c:C a)(e:∀p∈l,C p):∀p∈a::l,C p:=λp b=>by
 rcases TK.mp b with rfl|z
 .exact c
 simp_all
end _2
namespace _3
open PySem _2
theorem dnm(i:Nat)(a:X.N[i]?=ap x:=by rfl)(hv:QB X.env.scope x:=by first|exact Or.inl rfl|exact Or.inr (Or.inl rfl)|exact Or.inr (Or.inr rfl))(hd:(x==("__debug__":Str))=false:=by decide)(hcd:(x==("__classdict__":Str))=false:=by decide):DE X B (.Name x pos) (ac i):=OF a hv hd hcd
def jP:DX:=λ_ _=>False
theorem uxN:uT K B jP E:=λ_ _ z=>z.elim
theorem p8:fv "list"=ap (.type "list"):=by rfl
theorem pS:fv "tuple"=ap (.type "tuple"):=by rfl
theorem KB:fv "all"=ap (.builtin "all"):=by rfl
theorem o6:fv "isinstance"=ap (.builtin "isinstance"):=by rfl
theorem Fk:fv "bool"=ap (.type "bool"):=by rfl
theorem Ja:fv "int"=ap (.type "int"):=by rfl
theorem IS:fv "str"=ap (.type "str"):=by rfl
theorem vy:fv "dict"=ap (.type "dict"):=by rfl
theorem lW:fv "min"=ap (.builtin "min"):=by rfl
theorem IH:fv "max"=ap (.builtin "max"):=by rfl
theorem yQ:fv "len"=ap (.builtin "len"):=by rfl
theorem Tk(e:Gl X x)(c:X.mg x=bb)(a:fv x=ap (.type T))(b:x≠"__name__":=by decide)(hd:(x==("__debug__":Str))=false:=by decide):DE X B (.Name x pos) (dC<|.ty T):=
 Hj (JW (v:=.ty T) e c a rfl b hd) λ_=>rfl
def frzs:List D->Mem->(List D->Mem->Prop)->Prop
 |[],M,Q=>Q [] M
 |d::ds,M,Q=>onRe d (λa=>mLe (M a) (λc=>frzs ds (M.del a) λb M'=>Q (.lst c::b) M') (frzs ds M λb M'=>Q (d::b) M')) (frzs ds M λb M'=>Q (d::b) M')
theorem jo:∀{ds:List D}{vs:List V}{M:Mem}{H:Hp}{Q:List D->Mem->Prop},Inv X aaN Z H s->RepH X.K H M->Rps X.K H ds vs->frzs ds M Q->
  ∃H' es M',Inv X aaN Z H' s/\RepH X.K H' M'/\Frm M H M' H'/\Rps X.K H' es vs/\Q es M'
 |[],vs,M,H,Q,I,rh,r,h=>#[H,[],M,I,rh,Frm.refl,r,h]
 |d::ds,vs,M,H,Q,I,rh,r,h=>by
  obtain⟨v,vs',rfl,a,b⟩:=r;unfold frzs at h
  replace h:=h.inv;rcases h with⟨a',rfl,h⟩|h
  .cases a
   replace h:=h.inv;rcases h with⟨xs,e,h⟩|h
   .obtain⟨ws,h1,h2⟩:=rh _ _ e
    obtain⟨o,I2⟩:=Inv.freeze I h1;have im:Imm H (upd H a'<|.frz o<|.lst ws):=Imm.upd (by rw[h1];trivial)
    obtain⟨H',es,M',I',rh',f,r',q⟩:=jo I2 (rh.freeze h1) (b.mono im) h;refine#[H',_,M',I',rh',(Frm.del #[_,e]).trans f,.cons ?_ r',q];have z:Rp _ _ (.lst xs) _:=#[a',ws,rfl,#[o,upd_same],h2.mono im];exact z.mf (rh.freeze h1) f
   obtain⟨H',es,M',I',rh',f,r',q⟩:=jo I rh b h;exact#[H',_,M',I',rh',f,.cons (d:=.ref a') rfl r',q]
  obtain⟨H',es,M',I',rh',f,r',q⟩:=jo I rh b h;exact#[H',_,M',I',rh',f,.cons (a.mf rh f) r',q]
def frzT(d:D)(M:Mem)(Q:DK):Prop:=onTe d (λb=>frzs b M λa M'=>Q (.tup a) M') (Q d M)
def kg(t:ba):ba:=λU M Q=>t U M λd M'=>frzT d M' Q
theorem JM(h:DE X B e te):DE X B e (kg te):=by
 rintro f s Z H Q I ⟨U,M,QQ,j,n,u⟩
 refine bz (h _ s Z H (λv H'=>∃d M',RepH _ H' M'/\Frm M H M' H'/\Rp _ H' d v/\frzT d M' QQ) I #[U,M,_,j,n,λd M' q v H' a i r=>#[d,M',a,i,r,q]]) ?_
 rintro w z ⟨v,H',I',c,d,M',a,i,r,q⟩
 unfold frzT at q
 replace q:=q.inv;rcases q with⟨y,rfl,q⟩|q
 .obtain⟨p,l,rfl,x,r⟩:=r
  obtain⟨H2,A,M2,I2,b,g,m,o⟩:=jo I' a r q;exact#[_,H2,I2,c,u _ _ o _ H2 b (i.trans g) #[p,l,rfl,x.mono (g.imm a),m]]
 exact#[v,H',I',c,u _ _ q v H' a i r]
theorem Np(F:FnOk P w K i a (qI P w) k f fd g (bG K n T)):
  FnOk P w K i a CX0 k f fd g (λvs H Q _=>bG K n T vs H Q E0):=
 #[λvs H Q E h=>F.len _ _ _ _ h,λA b s H c q vs Q E m j p o l=>TD (F.run A b s H c q vs Q E0 m j p o l) λr C h=>by
  cases r with
  |ok fl=>cases fl<;>exact h
  |error e=>
   obtain⟨C',z,H',B,G,v,J,M,I,x,L,y,N,u⟩:=h;exact(show False from u).elim]
theorem Jq{c:aaW}(g:GP H)(i:SqL K H a (c.map V.int))(h:T [.ml (c.map D.int)] (λ_=>bb) (λd _=>d=.bl true) jP)(k:∀H',Q (.bl true) H'):bG K 1 T [.ref a] H Q E0:=by
 refine#[rfl,[.ml _],_,_,_,λb o e=>(by cases e),.cons #[a,_,rfl,?_,wQ rfl] .nil,h,λd M' q v H' j f r=>?_,λ_ _ z=>z.elim]
 .rcases i with (z|z)|z
  .rcases g a with e|⟨o,xs,e⟩
   .simp_all
   simp_all
  .exact .inl z
  exact .inr z
 subst q;cases r;exact k H'
theorem kK(X:K.In h)(X':K.In h')(e:W.nsOkIn K N=true):h'.nsMap N=h.nsMap N:=by
 unfold W.nsOkIn at e
 split at e
 .rename_i a
  unfold Heap.nsMap;rw[X _ _ a,X' _ _ a]
 cases e
theorem iE(X:K.In h)(q:YI K C [.type "ValueError",.type "Exception",.type "BaseException",.type "object"] "ValueError.__new__"=true):ExcAt K C:=by
 unfold YI at q
 split at q
 .rename_i y x p B
  split at q
  .rename_i C' z j g s r n o m i
   simp only[Vf,beq_iff_eq,Bool.not_eq_true']at q;obtain⟨⟨⟨⟨⟨rfl,rfl⟩,b⟩,u⟩,a⟩,c⟩:=q;obtain⟨nm,bs,w,v,A,H,G,sub,E,f,del⟩:=x;dsimp only at m b a c;subst m b;have e:p=(Tw [j,g,s,r,ap (.builtin "ValueError.__new__"),o]):=by
    obtain⟨l⟩:=p;simp only at i;rw[i]
   subst e;refine#[#[nm,A,v,bs,z,_,H,G,sub,E,f,y,j,g,s,r,o,"ValueError.__new__","ValueError.__init__","ValueError",h.nsMap v,λI X'=>#[X' _ _ B,?_,W.tail_of_in X' u],W.nsMap_none_of_in X a c,PySem.F.excBase_ValueError,by decide,(W.tail_of_in X u).hasType<|by decide]]
   rw[<- kK X X' a];exact .of_isNs (W.isNs_of_in X' a)
  .cases q
 .cases q
end _3
namespace _2
open PySem
theorem Ld(g:env.blockKind=.function)(h:env.scope.names.lookup x=ap .local)(i:f.line=pos.line)
  (j:(scope.names.any λ(n,k)=>n==x&&(k==.local||k==.cell))=cp):vr (.ListComp b a scope pos) (ap<|.Name x f) line env=pure true:=by
 have e:(Expr.ListComp b a scope pos).pos=pos:=rfl;have c:env.kindOf x=ap .local:=h;unfold vr
 try dsimp only
 rw[g,c,e,i,j];simp
end _2
namespace _3
open PySem _2
noncomputable def E_:fy->Bool
 |.Starred ..=>cp
 |_=>true
theorem DV(h:E_ e=true):eH (e::es) env=(cp,g3 e env)::eH es env:=by
 cases e<;>first|rfl|trivial
theorem da_c(a:DE X B e te)(c:DA X B es t)(b:E_ e=true:=by rfl):DA X B (e::es) (aa te t):=Iv a c (DV b)
def Ee(n:Nat)(t:pM):jN:=λd U M Q=>NA d (λb=>b.length=n/\t b U M Q) λa=>mL (M a) λb=>b.length=n/\t b U M Q
theorem Oq(y:X.calm=true)(h:Sm X B es t)(G:(pb es X.env).length=n:=by rfl)(hst:(pb es X.env).findIdx? (·.1)=none:=by rfl):DG X B (.Tuple es k pos) (Ee n t):=by
 rintro w s Z H v u Q I r ⟨d,U,M,QQ,l,q,hd,x⟩
 cases d with
 |lst i=>
  obtain⟨p,m,rfl,F,g⟩:=q;obtain⟨A,hd⟩:=hd;cases r;obtain⟨a,c,pl,z⟩:=I.list F.sq;have f:(pb es X.env).length=a.toArray.size:=by have:=c.length;have:=g.length;simp_all
  refine ax (ZV ?_);unfold unpack;rw[f,hst];refine ax (kL (W.kun_itemsOf (I.ok.hd y) pl.isList λE j=>?_));have I1:Inv X _ Z H _:=I.kept (t':=s.toks) λb o e=>j b o (TX<|TC e) e;exact h _ _ Z H m _ Q I1 (by assumption) #[i,U,M,QQ,l,g,hd,x]
 |ref p=>
  cases q
  replace hd:mL _ _:=hd
  obtain⟨i,e,hd⟩:=hd.inv;obtain⟨m,C,g⟩:=l.rh _ _ e;obtain⟨A,hd⟩:=hd;cases r;obtain⟨a,c,pl,z⟩:=I.list (SqL.of C);have f:(pb es X.env).length=a.toArray.size:=by have:=c.length;have:=g.length;simp_all
  refine ax (ZV ?_);unfold unpack;rw[f,hst];refine ax (kL (W.kun_itemsOf (I.ok.hd y) pl.isList λE j=>?_));have I1:Inv X _ Z H _:=I.kept (t':=s.toks) λb o e=>j b o (TX<|TC e) e;exact h _ _ Z H m _ Q I1 (by assumption) #[i,U,M,QQ,l,g,hd,x]
 |_=>trivial
mutual
noncomputable def gg:D->PyData
 |.non=>.none
 |.bl b=>.bool b
 |.int i=>.int i
 |.str x=>.str x
 |.tup xs=>.tuple (gI xs)
 |.lst xs=>.list (gI xs)
 |_=>.none
noncomputable def gI:List D->List PyData
 |[]=>[]
 |x::xs=>gg x::gI xs
end
mutual
theorem yv:∀d:D,(gg d).hasDict=cp
 |.non=>by simp only[gg,UX]
 |.bl _=>by simp only[gg,UX]
 |.int _=>by simp only[gg,UX]
 |.str _=>by simp only[gg,UX]
 |.tup xs=>by simp only[gg,UX];exact qV xs
 |.lst xs=>by simp only[gg,UX];exact qV xs
 |.ty _=>by simp only[gg,UX]
 |.ref _=>by simp only[gg,UX]
 |.mt _=>by simp only[gg,UX]
 |.ml _=>by simp only[gg,UX]
 |.fd _ _=>by simp only[gg,UX]
theorem qV:∀xs:List D,Xi (gI xs)=cp
 |[]=>by simp only[gI,Xi]
 |x::xs=>by simp only[gI,Xi,yv x,qV xs,Bool.or_self]
end
mutual
theorem wb:∀(n:Nat)(d:D),bX n d=true->(gg d).depth<=n
 |_,.non,_=>by simp[gg,Wf]
 |_,.bl _,_=>by simp[gg,Wf]
 |_,.int _,_=>by simp[gg,Wf]
 |_,.str _,_=>by simp[gg,Wf]
 |n+1,.tup xs,f=>by have:=jA n xs f;simp only[gg,Wf];lia
 |n+1,.lst xs,f=>by have:=jA n xs f;simp only[gg,Wf];lia
 |0,.tup _,f=>by simp[bX]at f
 |0,.lst _,f=>by simp[bX]at f
 |_,.ty _,f=>by simp[bX]at f
 |_,.ref _,f=>by simp[bX]at f
 |_,.mt _,f=>by simp[bX]at f
 |_,.ml _,f=>by simp[bX]at f
 |_,.fd _ _,f=>by simp[bX]at f
theorem jA:∀(n:Nat)(xs:List D),fits n xs=true->Xv (gI xs)<=n
 |_,[],_=>by simp[gI,Xv]
 |n,x::xs,f=>by
  rw[fits,Vf]at f;have:=wb n x f.1;have:=jA n xs f.2;simp only[gI,Xv];lia
end
mutual
theorem wj{h:g4}:∀(d:D)(u:ay),Hr h d u->∃as,Reads h u (gg d) as
 |.non,u,q=>by cases q;exact#[_,.none]
 |.bl _,u,q=>by cases q;exact#[_,.bool _]
 |.int _,u,q=>by obtain⟨t,rfl⟩:=q;exact#[_,.int _ _]
 |.str _,u,q=>by obtain⟨t,rfl⟩:=q;exact#[_,.str _ _]
 |.tup xs,u,q=>by
  obtain⟨p,a,rfl,⟨o,b,e,n,f⟩,r⟩:=q;obtain⟨as,c⟩:=jV xs a r;exact#[_,.tuple b e f c]
 |.lst xs,u,q=>by
  obtain⟨p,a,rfl,⟨o,b,e,n,f⟩,r⟩:=q;obtain⟨as,c⟩:=jV xs a r;exact#[_,.list b e f c]
 |.ty _,_,q=>q.elim
 |.ref _,_,q=>q.elim
 |.mt _,_,q=>q.elim
 |.ml _,_,q=>q.elim
 |.fd _ _,_,q=>q.elim
theorem jV{h:g4}:∀(xs:List D)(us:aaY),Hrs h xs us->∃as,ReadsAll h us (gI xs) as
 |[],_,q=>by cases q;exact#[_,.nil]
 |x::xs,_,q=>by
  obtain⟨u,r,rfl,a,b⟩:=q;obtain⟨f,e⟩:=wj x u a;obtain⟨g,c⟩:=jV xs r b;exact#[_,.cons e c]
end
theorem GR:fv "repr"=ap (.builtin "repr"):=by rfl
end _3
namespace _S
open PySem
structure Ord(K:Type) where
 lt:K->K->Bool
 anti:∀x y,lt x y=cp->lt y x=cp->x=y
 tr:∀x y z,lt y x=cp->lt z y=cp->lt z x=cp
 asym:∀x y,lt x y=true->lt y x=cp
section
variable{K:Type}[DecidableEq K](o:Ord K)
abbrev QC(l:List K):Prop:=l.Pairwise λa b=>o.lt b a=cp
noncomputable def ins(x:K):List K->List K
 |[]=>[x]
 |y::r=>if o.lt y x=true then y::ins x r else x::y::r
noncomputable def Ik:List K->List K
 |[]=>[]
 |x::r=>ins o x (Ik r)
theorem nj(x:K):∀l:List K,(ins o x l).Perm (x::l)
 |[]=>YR _
 |y::r=>by
  unfold ins
  by_cases h:o.lt y x=true
  .rw[if_pos h];exact(YS y<|nj x r).trans (List.Perm.swap ..)
  simp_all
theorem nh:∀l:List K,(Ik o l).Perm l
 |[]=>YR _
 |x::r=>(nj o x _).trans (YS x<|nh r)
theorem yM(x:K):∀l:List K,QC o l->QC o (ins o x l)
 |[],_=>by simp[ins]
 |y::r,h=>by
  unfold ins;have b:=VP.mp h
  by_cases c:o.lt y x=true
  .rw[if_pos c]
   refine VP.mpr #[λz a=>?_,yM x r b.2];rcases TK.mp ((nj o x r).mem_iff.mp a) with rfl|q
   .exact o.asym _ _ c
   simp_all
  rw[if_neg c];have e:o.lt y x=false:=by simpa using c
  refine VP.mpr #[λz a=>?_,h];rcases TK.mp a with rfl|q
  .exact e
  exact o.tr _ _ _ e (b.1 z q)
theorem rR:∀l:List K,QC o (Ik o l)
 |[]=>X0
 |x::r=>yM o x _ (rR r)
theorem GE:∀(a b:List K),QC o a->QC o b->a.Perm b->a=b
 |[],b,_,_,p=>by simp_all
 |x::a,b,ha,hb,p=>by
  cases b with
  |nil=>simp_all
  |cons y b=>
   have c:=VP.mp ha;have f:=VP.mp hb;have e:x=y:=by
    rcases TK.mp (p.mem_iff.mp<|Uu ..) with e|hx
    .exact e
    rcases TK.mp (p.symm.mem_iff.mp<|Uu ..) with e|hy
    .exact e.symm
    exact o.anti _ _ (f.1 x hx) (c.1 y hy)
   subst e;rw[GE a b c.2 f.2 (by simp_all)]
theorem N6{a l:List K}(b:QC o a)(p:a.Perm l):a=Ik o l:=GE o _ _ b (rR o l) (p.trans (nh o l).symm)
end
end _S
namespace _3
open PySem _2 _S
theorem xJ:fv "sorted"=ap (.builtin "sorted"):=by rfl
end _3
namespace _3
open PySem _2 _S
def fh:List D->Option (List Int)
 |[]=>ap []
 |.int i::ds=>match fh ds with
  |some is=>ap (i::is)
  |none=>bb
 |_=>bb
theorem iN:∀a:List Int,fh (a.map D.int)=ap a
 |[]=>rfl
 |x::a=>by rw[TB,fh,iN a]
theorem jf:∀{ds:List D}{vs:List V}{xs:aaW},Rps K H ds vs->fh ds=ap xs->vs=xs.map V.int
 |[],vs,xs,r,e=>by cases e;exact r
 |d::ds,vs,xs,r,e=>by
  obtain⟨v,h,rfl,a,b⟩:=r;cases d with
  |int c=>
   simp[fh]at e
   split at e
   .rename_i f g
    cases e;cases a;rw[jf b g];rfl
   cases e
  |_=>trivial
theorem HY:∀{a:aaW}{us:aaY},Vals (a.map V.int) us->PyProof.Rows.IntsAre us a:=by
 intro a
 induction a with
 |nil=>intro us h;cases h;exact .nil
 |cons x a ih=>intro us h;cases h with|cons r t=>obtain⟨u,rfl⟩:=r;exact .cons _ _ (ih t)
end _3
namespace _3
open PySem _2 _S
theorem C_:fv "range"=ap (.type "range"):=by rfl
def wF(t:eJ):ba:=λU M Q=>t U M λb M1=>one b λa=>onI a λj=>(-(2 ^ 62)<=j/\j<=1000)/\∀p,M1 p=bb->Q (.ref p) (M1.upd p<|.lst<|cY 0 j.toNat)
noncomputable def yB(n:Nat):List V:=(Ub n).map λ(i:Nat)=>V.int (0+(i:Int))
theorem Ke:Rps K H (cY 0 n) (yB n):=by
 unfold cY yB;generalize Ub n=l
 induction l with
 |nil=>rfl
 |cons i l ih=>exact#[_,_,rfl,rfl,ih]
theorem Ff(h:ItemsOf (λi v=>∃t,v=.int (0+i*1) t) aaQ n):Vals (yB n) aaQ.toList:=by
 obtain⟨h1,h2⟩:=h;have key:∀(l:List _)(k m:Nat),l.length=m->(∀(j:Nat)(v:ay),l[j]?=ap v->∃t,v=.int (0+(k+j)) t)->Vals ((VR k m).map λ(i:Nat)=>V.int (0+i)) l:=by
  intro l
  induction l with
  |nil=>intro k m e _;subst e;exact .nil
  |cons x l ih=>
   intro k m e h;subst e;refine .cons ?_ (ih _ _ rfl λj v q=>?_)
   .obtain⟨t,rfl⟩:=h 0 x (by simp)
    exact#[t,rfl]
   obtain⟨t,e⟩:=h (j+1) v (by simpa using q)
   exact#[t,by rw[e];congr 2;lia]
 unfold yB;rw[VC];exact(key _ 0 n (by trivial) λj v q=>by
  simp_all)
def HJ(t:TA):TE:=λZ H Q=>t Z H λa H1=>∃j:Int,a=[.int j]/\(-(2 ^ 62)<=j/\j<=1000)/\∀p,H1 p=bb->Q (.ref p) (upd H1 p<|.lst<|yB j.toNat)
theorem yG(N:X.calm=true)(O:Gl X "range")(S:X.mg "range"=bb)(m:Gl X "list")(v:X.mg "list"=bb)(P:PA X [e] t)
  (R:eH [e] X.env=[(cp,g3 e X.env)]:=by rfl) (hs3:eH [Yn (.Name "range" r) [e] [] a] X.env=[(cp,g3 (.Call (.Name "range" r) [e] [] a) X.env)]:=by rfl):
  PE X (.Call (.Name "list" p) [.Call (.Name "range" r) [e] [] a] [] pos) (HJ t):=by
 intro w s Z H Q I h;refine pa (df I m v p8<|UA ?_ hs3 rfl);show cT _ _ (spliced ((cp,_)::j0 _ [])) _ _ s;refine Vp ?_;refine pa (df I O S C_<|UA (bz (P _ _ s Z H _ I h) λU c J=>?_) R rfl);obtain⟨T,H1,I1,M,C⟩:=J;obtain⟨j,rfl,⟨F,W⟩,q⟩:=C;obtain⟨u,rfl,K⟩:=gT M;obtain⟨t',rfl⟩:=K;refine call_range_1 ?_;refine VS ?_;have L:=I1.ok.hd N;refine call_list_range (n:=j.toNat) L (IsRange.new ..) (small_one (by decide) (by decide) F<|by lia) (by rw[rangeSize_one];split<;>lia) (by lia) λG A f x y E g=>?_
 have i:(c.heap.push { cls:=.type "range",data:=.fields (Tw [.int 0 c.toks,.int j t',.int 1 (c.toks+1)]) }).objs.size=c.heap.objs.size+1:=UZ ..;have l:G.get? (c.heap.objs.size+1)=ap { cls:=.type "list",dict:=bb,data:=.seq f x,slots:=(Tw []) }:=by rw[<- i];exact E
 refine#[.ref (c.heap.objs.size+1),_,I1.laid (t':=A) (o:=.lst (yB j.toNat)) (λb o z=>y b o (Tv _ z)) (WQ _) (#[?_,f.toList,x,Ff g,by rw[Array.toArray_toList];exact l]),?_,q _<|I1.hok.fresh<|WQ _]
 .simp only[yB,Tz,Xm]
  exact TR (by lia:j.toNat<=1000) (by decide)
 .show Ul _=Ul _
  rw[<- i]
theorem xn(hc:X.calm=true)(hg:Gl X "range")(hm:X.mg "range"=bb)(hg2:Gl X "list")(hm2:X.mg "list"=bb)(ha:DA X B [e] t)
  (hs:eH [e] X.env=[(cp,g3 e X.env)]:=by rfl) (hs3:eH [Yn (.Name "range" p2) [e] [] pos2] X.env=[(cp,g3 (.Call (.Name "range" p2) [e] [] pos2) X.env)]:=by rfl):
  DE X B (.Call (.Name "list" p) [.Call (.Name "range" p2) [e] [] pos2] [] pos) (wF t):=by
 refine aT (yG hc hg hm hg2 hm2 ha hs hs3) ?_
 rintro Z H Q ⟨U,M,QQ,s,h,u⟩
 refine#[U,M,_,s,h,λds M1 h1 vs H1 rh1 i1 r1=>?_]
 replace h1:=h1.inv;obtain⟨_,rfl,h1⟩:=h1
 replace h1:=h1.inv;obtain⟨_,rfl,h1⟩:=h1
 obtain⟨v,rfl,rv⟩:=fX (ds:=[]) r1;cases rv;exact#[_,rfl,h1.1,λd hd=>u _ _ (h1.2 d<|rh1.fresh hd) _ _ (rh1.put (by rw[hd];trivial) #[_,upd_same,Ke]) (i1.trans<|Frm.put<|.inl hd) rfl]
end _3
namespace _3
open PySem _2
theorem xh{bs:aaW}(e:Vals (bs.map V.int) aaT){i:Nat}(j:aaT.toArray[i]?=ap v):∃c t,bs[i]?=ap c/\v=.int c t:=by
 have a:aaT[i]?=ap v:=by simpa using j
 have h:=e.length;rw[Tz]at h;have g:i<bs.length:=by
  have:=(UC.mp a).1;lia
 obtain⟨l,b,f⟩:=e.get (by rw[TJ,Tx g];rfl)
 rw[a]at b;cases b;obtain⟨t,rfl⟩:=f;exact#[_,t,by simp_all,rfl]
def yT:nc:=λc M Q=>one c λd=>so (c_ M d) λb=>so (fh b) λa=>a≠[]/\∀v,v∈a->(∀x∈a,v<=x)->Q (.int v) M
theorem DJ(hc:X.calm=true):bu X (.builtin "min") (liftC X yT):=by
 rintro w s Z H xs us Q I r ⟨ds,M,QQ,y,S,h,U⟩
 unfold yT at h
 replace h:=h.inv;obtain⟨_,rfl,h⟩:=h
 obtain⟨v,rfl,C⟩:=fX (ds:=[]) S;obtain⟨ys,e,h⟩:=h.inv;obtain⟨q,vs,rfl,F,L⟩:=dj y C e;obtain⟨f,Y,h⟩:=h.inv;obtain⟨N,h⟩:=h;have:=jf L Y;subst this;obtain⟨u,rfl,J⟩:=gT r;cases J;obtain⟨a,l,p,hz⟩:=I.list (.inl F);have z:=l.length;have g:q<s.heap.objs.size:=by obtain⟨o,e,_⟩:=p.isList;exact TC e
 have hsz:a.toArray.size=f.length:=by simp_all
 have h0:=Xd.mpr N;refine call_min_walk (re p.isList #[_,_,_,_,_,_,λi j=>decide (f.getD i 0<f.getD j 0),rfl,XN (A:=X.A.in1) (I.ok.hd hc) _ q (TX g) _,#[#[_,TF _ rfl,rfl,rfl],p.isList.push _],?_,by lia,λi j vi vj s' Q' E' m E K=>?_,λv h' P G R=>?_])
 .intro b hb
  simp at hb;rcases hb with hb|hb
  .simp_all
  show _<(s.heap.objs.push _).size;rw[XH,hb];exact WO g
 .obtain⟨c,t,n,rfl⟩:=xh l m
  obtain⟨c',t',W,rfl⟩:=xh l E;refine wpAny_lt_int ?_
  simp_all
 obtain⟨c,t,n,rfl⟩:=xh l G;obtain⟨b1,b2⟩:=argBest_lt (λi=>f.getD i 0) (a.toArray.size-1);have O:f.getD (mu (λi j=>decide (f.getD i 0<f.getD j 0)) (a.toArray.size-1)) 0=c:=by rw[Ur,n];rfl
 refine#[.int c,H,?_,#[_,rfl],U _ M (h c (UQ n) λx T=>?_) _ H y Frm.refl rfl]
 .exact I.kept (t':=P) λb o hb=>R b o (by simp;exact TX (TC hb)) (Tv _ hb)
 .obtain⟨i,m,rfl⟩:=Wa.mp T
  have:=b2 i (by lia)
  rw[O,Ur,Tx m]at this;exact this
def jJ:nc:=λa M Q=>one a λd=>bX 60 d=true/\(gg d).showable=true/\(gg d).shown.length<=sizeLine/\Q (.str (gg d).shown) M
theorem xy(y:X.A.guards=ap [])(O:X.A.units+64<ol):bu X (.builtin "repr") (liftC X jJ):=by
 rintro m s Z H l N Q I r ⟨ds,M,QQ,E,G,h,J⟩
 unfold jJ at h;obtain⟨d,rfl,h⟩:=h.inv;obtain⟨n,j,f,h⟩:=h;obtain⟨v,rfl,z⟩:=fX (ds:=[]) G;obtain⟨u,rfl,C⟩:=gT r;have q:=EK I n z C;have K:=wb 60 _ n;obtain⟨L,w⟩:=wj _ _ q;have fin:∀(t:Tok)(a:Nat)(c:g4),(∀b o,s.heap.get? b=ap o->c.get? b=ap o)->EP X _ Z Q (.str _ t) _:=λt a c F=>
  #[.str _,H,I.kept (t':=a) F,#[_,rfl],J _ M h _ H E Frm.refl rfl]
 cases d with
 |non=>cases q;exact PySem.P.repr_of_none (fin _ _ _ λ_ _ e=>e)
 |bl b=>cases q;exact PySem.P.repr_of_bool (fin _ _ _ λ_ _ e=>e)
 |int i=>
  obtain⟨t,rfl⟩:=q;exact PySem.P.repr_of_int (by simpa [gg,V9] using j) (fin _ _ _ λ_ _ e=>e)
 |str x=>
  obtain⟨t,rfl⟩:=q;exact PySem.P.repr_of_str (fin _ _ _ λ_ _ e=>e) f
 |tup l=>
  obtain⟨p,g,rfl,_⟩:=q;exact repr_of_reads' w j (YL<|yv _) y (by lia) (by lia) (λc u a=>fin u a c) f
 |lst l=>
  obtain⟨p,g,rfl,_⟩:=q;exact repr_of_reads' w j (YL<|yv _) y (by lia) (by lia) (λc u a=>fin u a c) f
 |_=>exact q.elim
def tW(C:cb)(ta tv:ba)(f:Str):ar:=λD U M=>ta U M λx M1=>onR x λa=>mN (M1 a) λC' fs=>C'=C/\fs.length<1000/\so (fs.lookup f) λb=>onI b λi=>tv U M1 λy M2=>onI y λj=>M2 a=ap (.ins C fs)/\D.nx U (M2.upd a<|.ins C<|bR f (.int (i+j)) fs)
theorem Di(c:Cls X.K C)(n:NoAttr X.K C f)(ha:DE X B o ta)(hv:DE X B value tv):DS X B (.AugAssign (.Attribute o f tpos) .Add value pos) (tW C ta tv f):=by
 refine ck (qp ha hv Qg) ?_
 rintro D Z H ⟨U,M,DD,s,h,up⟩
 refine#[U,M,_,s,h,λx M1 h1 v1 H1 rh1 i1 r1=>?_]
 replace h1:=h1.inv;obtain⟨a,rfl,h1⟩:=h1
 cases r1;obtain⟨C',fs,hM,h1⟩:=h1.inv;obtain⟨rfl,hl,h1⟩:=h1;obtain⟨w21,hf,h1⟩:=h1.inv
 replace h1:=h1.inv;obtain⟨i,rfl,h1⟩:=h1
 obtain⟨dx,ws,e1,e2⟩:=rh1 _ _ hM;obtain⟨z,_⟩|⟨d,w,hd,hw,rw1⟩:=e2.lookup f
 .simp_all
 rw[hf]at hd;cases hd;cases rw1;refine#[a,C',dx,ws,_,rfl,e1,c,n,hw,U,M1,_,s.go rh1 i1,h1,λy M2 h2 v2 H2 rh2 i2 r2=>?_]
 replace h2:=h2.inv;obtain⟨j,rfl,h2⟩:=h2
 cases r2;obtain⟨hM2,h2⟩:=h2;obtain⟨dx2,ws2,e3,e4⟩:=rh2 _ _ hM2;have i3:Frm M2 H2 (M2.upd a<|.ins C'<|bR f (.int (i+j)) fs) (upd H2 a<|.ins C' dx2<|_2.dG f (.int (i+j)) ws2):=Frm.put (by simp_all)
 exact#[i,j,rfl,rfl,_,_,e3,by rw[<- e4.length];exact hl,up.nx _ _ h2 Z _ ((i1.trans i2).trans i3)<|s.go (rh2.put (by rw[e3];trivial) #[_,_,upd_same,(jy (by trivial) e4).mono<|i3.imm rh2])<|(i1.trans i2).trans i3]
end _3
namespace _2
open PySem PySem.Spec PyProof.Rows _S
theorem Inv.frzT(I:Inv X a Z H s)(e:H d=ap (.frz b<|.dT aaP))(m:b.data=.dict es l):
  s.heap.get? d=ap b/\∃xs:List (List aC×cb×ay),KT H aaP xs/\es.toList=xs.map (entryOfKey<|tupleKind<|aU X.prog X.w):=by
 obtain⟨c,_,_,xs,r,o,h,i,f,_,g,j,_⟩:=(I.hok d _ e);rw[c]at f;cases f;rw[m]at g;cases g;exact#[c,xs,r,j]
theorem KT.at:∀{aaP:List (List aC×V)}{xs:List (List aC×cb×ay)},KT H aaP xs->∀{i:Nat}{ks:List aC}{x:V},aaP[i]?=ap (ks,x)->∃b u,xs[i]?=ap (ks,b,u)/\H b=ap (.tup<|ks.map kV)/\RelV x u
 |_,_,.nil,i,ks,x,e=>by simp at e
 |_,_,.cons (b:=q) h t,0,ks,x,e=>by
  simp at e;subst e;obtain⟨f,a,c⟩:=q;exact#[a,c,by simp_all,h.2.1,h.2.2]
 |_,_,.cons h t,i+1,ks,x,e=>by
  simpa using KT.at t e
theorem Inv.freezeT(I:Inv X e Z H s)(h:H p=ap (.dT aaP)):
  ∃f es l,f.data=.dict es l/\es.size=aaP.length/\s.heap.get? p=ap f/\(p==q0)=cp/\Inv X e Z (upd H p<|.frz f<|.dT aaP) s:=by
 obtain⟨z,y,i,r,f,es,l,g,n,j,F,K⟩:=(I.hok p _ h);have ne:∀{b:cb}{u:Option HO},H b=u->u≠ap (.dT aaP)->b≠p:=λ{b u} q J z=>by simp_all
 refine#[f,es,l,j,by rw[<- Ve,F,Tz,<- Vk r],g,y,I.ok,I.os,I.bare,#[I.base.keep,I.base.slot,λb o q G B=>?_,I.base.there,λb i q=>?_,λb o u q=>?_,λb A q=>?_],I.loc,I.cell,?_,λx c q=>?_,λC E=>?_,λb o q=>?_,I.len]
 .have a:=I.base.free b o q G B
  rw[aD (by lia)];exact a
 .have a:=I.base.tups b i q
  rw[aD (by lia)];exact a
 .have a:=I.base.frzs b o u q
  rw[aD (by lia)];exact a
 .obtain⟨more,a⟩:=I.base.tbls b A q
  exact#[_,by rw[aD (by lia)];exact a]
 .rw[aD (ne I.free<|by simp)];exact I.free
 .have a:=I.freeC x c q
  rw[aD (by lia)];exact a
 .obtain⟨g,n,j⟩:=I.pin C E
  exact#[g,by rw[aD (by lia)];exact n,j]
 have v:∀{u:HO}{b:cb},ObjOk X.prog X.w H s.heap b u->ObjOk X.prog X.w (upd H p<|.frz f<|.dT aaP) s.heap b u:=λx=>x.stay (by lia) (λc y=>by rw[aD (by lia)];exact y) λc i y=>by rw[aD (by lia)];exact y
 by_cases m:b=p
 .subst m
  rw[upd_same]at q;cases q;exact#[g,v<|I.hok b _ h]
 .rw[aD m]at q
  exact v (I.hok b o q)
end _2
namespace _3
open PySem _2 _S
theorem qU:∀ks:List aC,Rps K H (ks.map λk=>match k with|.inl i=>D.int i|.inr x=>D.str x) (ks.map kV)
 |[]=>rfl
 |.inl i::ks=>#[_,_,rfl,rfl,qU ks]
 |.inr x::ks=>#[_,_,rfl,rfl,qU ks]
theorem RepH.freezeT(r:RepH K H M)(h:H p=ap (.dT aaP)):RepH K (upd H p<|.frz o<|.dT aaP) (M.del p):=λb u e=>by
 unfold Mem.del at e
 split at e
 .cases e
 rename_i hb
 exact(r b u e).keep (Imm.upd<|by rw[h];trivial) (aD hb)
end _3
namespace _S
open PySem PySem.W PySem.Calls PyProof.Rows PyProof.V PySem.Spec _2
theorem sL:T_ (.type "list") "keys"=pure none:=by rfl
abbrev NS(h:g4)(a:cb)(aaT:aa5)(n:Nat):Prop:=h.get? a=ap { cls:=.type "list",dict:=bb,data:=.seq aaT n,slots:=(Tw []) }
theorem nD(j:NS s.heap a aaT n)(r:A.handled=bb)
  (h:∀h' l,(∀b o,s.heap.get? b=ap o->h'.get? b=ap o)->Q bb { s with heap:=h',toks:=l }):cT (eX prog w) A (Z2 (.ref a) "keys") Q E s:=by
 obtain⟨m,g,d,l,p⟩:=s;have i:∀f,(#[m,g,d,f,p]:ca).TypeIs (.ref a) "list":=λ_=>#[_,j,rfl];have q:=sub_AttributeError;have z:=VX.lookup;have v:=VX.bind (.ref a);have B:=am_list_getattr_none;unfold Z2 getAttrBy? getAttrBy
 repeat (any_goals (first|assumption|exact i _|((with_reducible show cT _ _ (call (Value.builtin "list.__getattribute__") _ _) _ _ _);refine ra VX (i _) am_entry_list_getattribute (PySem.F.args_list_getattribute_2 _ _) (meets_getattribute_miss_list a aaT n (Tw []) "keys" _ sL (by decide +kernel) (by decide +kernel)) #[j,r,λh' f e c=>?_])|wp_step))
 obtain⟨y,u,x⟩:=c.there;show cT _ _ (U' _ _ _ _ _ _ _) _ _ _;unfold U'
 repeat (any_goals (first|assumption|wp_step))
 exact h _ _ c.keeps
theorem xo{s:ca}{Ts:aaZ}(S:Ts.length=f.length)(C:NS s.heap l (Ts.map Ul).toArray m)(F:∀(i:Nat)(u:i<Ts.length)(y:i<f.length),xO s.heap Ts[i] f[i].1 f[i].2):
  ∀(A':h7)(g:ca)(Q:aa2)(E:aa2),(∀b o,s.heap.get? b=ap o->g.heap.get? b=ap o)->s.heap.objs.size<g.heap.objs.size->
   (∀h' P R St,(∀b o,g.heap.get? b=ap o->h'.get? b=ap o)->PSrc v w s.heap.objs.size P f R St->St 0 h'->(∀b∈R,b∈[]\/s.heap.objs.size<b)->Q (.ref P) { g with heap:=h' })->cT (eX v w) A' (W_<|.ref l) Q E g:=by
 intro A' g Q E L lt k;have ne:∀{b o},s.heap.get? b=ap o->b≠s.heap.objs.size/\b≠g.heap.objs.size:=λe=>#[TX (TC e),TX<|Yx (TC e) lt];have B:g.heap.IsList l (Ts.map Ul).toArray:=#[_,L _ _ C,rfl,m,rfl];have O:∀{h h':g4}(b:cb),(∀c o,c≠b->h.get? c=ap o->h'.get? c=ap o)->(∀{c o},s.heap.get? c=ap o->c≠b)->h.IsList l (Ts.map Ul).toArray/\(∀(i:Nat)(u:i<Ts.length)(y:i<f.length),xO h Ts[i] f[i].1 f[i].2)->h'.IsList l (Ts.map Ul).toArray/\∀(i:Nat)(u:i<Ts.length)(y:i<f.length),xO h' Ts[i] f[i].1 f[i].2:=by
  intro h h' b k n q;obtain⟨⟨o,I,G⟩,p⟩:=q;refine#[#[o,k _ _ (n C) I,G],λi u y=>?_];obtain⟨o,x,e,r⟩:=p i u y;obtain⟨_,_,U,_⟩:=F i u y;exact#[o,x,k _ _ (n U) e,r]
 refine re B (k _ g.heap.objs.size [g.heap.objs.size] (λi h=>h.IsListIter g.heap.objs.size l i/\h.IsList l (Ts.map Ul).toArray/\∀(i:Nat)(u:i<Ts.length)(y:i<f.length),xO h Ts[i] f[i].1 f[i].2) (λb o e=>Tv _ e) #[by simp;exact TX lt,λi h h' j k=>#[j.1.at λo e=>k _ o (V0 lt) e,O _ k (λe=>(ne e).1) j.2],?_,?_] #[#[_,TF _ rfl,rfl,rfl],?_,λi u y=>?_] λb M=>.inr (by simp at M;subst M;exact lt))
 .intro A i J T Q E K _ j H
  refine aau (x:=.ref Ts[i]) j.1 j.2.1 (by simp[S,J]) λh' z N=>?_
  obtain⟨a,b⟩:=O _ (λc o W e=>N.extBut c o W e) (λe=>(ne e).2) j.2;exact H h' Ts[i] #[z,a,b] (b i (by lia) J) λc o n e=>N.extBut c o (by simpa using n) e
 .exact λA T Q E K j H=>aaC K j.1 j.2.1 (by simp[S]) λh' k=>H h' λc o n e=>k c o (by simpa using n) e
 .obtain⟨o,I,G⟩:=B
  exact#[o,Tv _ I,G]
 .obtain⟨o,n,e,r⟩:=F i u y
  exact#[o,n,Tv _ (L _ _ e),r]
end _S
namespace _2
open PySem PySem.Spec PyProof.Rows _S
inductive PrK(H:Hp):List V->List (aC×V)->Prop
 |nil:PrK H [] []
 |cons {T:cb} {k:aC} {x:V} {vs:List V} {aaP:List (aC×V)} (hT:H T=ap (.tup [kV k,x])) (r:PrK H vs aaP):PrK H (.ref T::vs) ((k,x)::aaP)
theorem Inv.pair(I:Inv X aaN Z H s)(h:H T=ap (.tup [y,x])):∃k v,RelV y k/\RelV x v/\xO s.heap T k v:=by
 obtain⟨_,f,r,o,e,⟨c,n,d⟩,_⟩:=(I.hok T _ h);obtain⟨k,v,rfl,b,a⟩:=r.two;exact#[k,v,b,a,o,n,e,c,d]
theorem Inv.prK(I:Inv X aaN Z H s):∀{vs:List V}{aaP:List (aC×V)},PrK H vs aaP->∃(Ts:aaZ)(rs:List (aC×ay×ay)),vs=Ts.map V.ref/\KV aaP (rs.map λr=>(r.1,r.2.2))/\Ts.length=rs.length/\(∀r∈rs,(aU X.prog X.w).is r.1 r.2.1=true)/\∀(i:Nat)(j:i<Ts.length)(l:i<rs.length),xO s.heap Ts[i] rs[i].2.1 rs[i].2.2
 |_,_,.nil=>#[[],[],rfl,.nil,rfl,by simp,λi h=>absurd h (W5 _)]
 |_,_,.cons (T:=T) (k:=k) hT r=>by
  obtain⟨Ts,rs,rfl,q,e,b,g⟩:=I.prK r;obtain⟨a,v,f,c,p⟩:=I.pair hT;refine#[T::Ts,(k,a,v)::rs,rfl,.cons #[rfl,c] q,by simp[e],λr hr=>?_,λi j l=>?_]
  .rcases TK.mp hr with rfl|hr
   .exact ju f
   exact b r hr
  cases i with
  |zero=>exact p
  |succ i=>exact g i _ _
theorem Inv.ls(I:Inv X aaN Z H s)(e:Rd H l (.lst vs)):∃aaT n,Vals vs aaT/\NS s.heap l aaT.toArray n:=by
 obtain⟨_,aaT,n,r,q⟩:=(e.ok I.hok);exact#[_,n,r,q]
theorem yF(B:X.calm=true):bu X (.type "dict") (λxs H Q=>∃l vs aaP,xs=[.ref l]/\Rd H l (.lst vs)/\PrK H vs aaP/\aaP.length<=1000000/\∀p,H p=bb->Q (.ref p) (upd H p<|.dK<|aaP.foldl (λa p=>fu a p.1 p.2) [])):=by
 rintro aaN s Z H xs F Q I r ⟨l,vs,aaP,rfl,y,x,C,q⟩
 obtain⟨u,rfl,v⟩:=r.one;cases v;obtain⟨Ts,o,rfl,j,e,c,g⟩:=I.prK x;obtain⟨f,n,m,b⟩:=I.ls y;obtain rfl:f=Ts.map _:=pQ m;have h:o.length<=1000000:=by have:=Vk j;simp_all
 refine o_ B I rfl rfl rfl (by lia) (by lia) (by simp) j c h #[_,b,rfl] (by decide) (λA' E Q' E' w A=>nD (A _ _ b) w) (xo (by simp[e]) b λi z G=>?_) q
 simp;exact g i z _
end _2
namespace _3
open PySem _2 _S
def vF:List D->Option (List (aC×D))
 |[]=>ap []
 |.tup [k,v]::ds=>match cN k,vF ds with
  |some ks,ap r=>ap ((ks,v)::r)
  |_,_=>bb
 |_=>bb
theorem GK:∀{ds:List D}{vs:List V}{aaP:List (aC×D)},Rps K H ds vs->vF ds=ap aaP->∃i,PrK H vs i/\Rkv K H aaP i
 |[],vs,aaP,r,e=>by cases e;cases r;exact#[[],.nil,.nil]
 |d::ds,vs,aaP,r,e=>by
  obtain⟨v,E,rfl,a,b⟩:=r;unfold vF at e
  split at e
  .trivial
  .rename_i k x n h
   cases h
   split at e
   .rename_i y q m p
    cases e;obtain⟨i,l,w⟩:=GK b p;obtain⟨T,z,rfl,u,o⟩:=a;obtain⟨A,s,rfl,g,c⟩:=o;obtain⟨C,j,rfl,c,f⟩:=c;cases f;have:=gW g m;subst this;exact#[_,.cons u l,.cons #[rfl,c] w]
   cases e
  cases e
theorem G4[DecidableEq c](h:Rkv K H a b):∀{a0:List (c×D)}{b0:List (c×V)},Rkv K H a0 b0->Rkv K H (a.foldl (λx p=>dU x p.1 p.2) a0) (b.foldl (λx p=>fu x p.1 p.2) b0):=by
 induction h with
 |nil=>exact λh=>h
 |@cons p q _ _ h t ih=>
  intro a0 b0 e;rw[Va,Va];refine ih ?_;rw[<- h.1];exact e.put _ h.2
theorem Kw(g:RepH K H M)(r:Rp K H d v)(e:c_ M d=ap xs)(f:∀ys,d≠.ml ys):∃l vs,v=.ref l/\Rd H l (.lst vs)/\Rps K H xs vs:=by
 cases d with
 |lst ys=>
  cases e;obtain⟨p,vs,rfl,⟨o,h⟩,r⟩:=r;exact#[p,vs,rfl,.inr #[o,h],r]
 |ml ys=>exact absurd rfl (f ys)
 |ref a=>
  simp only[c_]at e
  split at e
  .rename_i ys q
   cases e;cases r;obtain⟨vs,b,c⟩:=g _ _ q;exact#[a,vs,rfl,.inl b,c]
  .cases e
 |_=>cases e
noncomputable def G2:D->Bool
 |.ml _=>cp
 |_=>true
theorem Kc(h:G2 d=true):∀ys,d≠.ml ys:=λys e=>by subst e;cases h
def gk:nc:=λc M Q=>one c λd=>G2 d=true/\so (c_ M d) λb=>so (vF b) λaaP=>aaP.length<=1000000/\∀p,M p=bb->Q (.ref p) (M.upd p<|.dK<|aaP.foldl (λa p=>dU a p.1 p.2) [])
theorem vq(hc:X.calm=true):bu X (.type "dict") (liftC X gk):=by
 rintro aaN s Z H xs us Q I r ⟨ds,M,QQ,rh,rp,h,up⟩
 unfold gk at h;obtain⟨_,rfl,h⟩:=h.inv;obtain⟨v,rfl,rv⟩:=fX (ds:=[]) rp;obtain⟨hm,h⟩:=h;obtain⟨ys,e,h⟩:=h.inv;obtain⟨aaP,e2,h⟩:=h.inv;obtain⟨l,vs,rfl,hq,rr⟩:=Kw rh rv e (Kc hm);obtain⟨ws,h1,h2⟩:=GK rr e2;exact yF hc _ s Z H _ us Q I r #[l,vs,ws,rfl,hq,h1,by rw[<- h2.length];exact h.1,λp hp=>up _ _ (h.2 p<|rh.fresh hp) _ _ (rh.put (by rw[hp];trivial) #[_,upd_same,(G4 h2 .nil).mono<|Imm.new hp]) (Frm.put<|.inl hp) rfl]
end _3
namespace _3
open PySem _2
def iw:List D->List D->List D->List D
 |x::xs,y::ys,u::us=>.tup [x,y,u]::iw xs ys us
 |_,_,_=>[]
theorem ql:∀{xs ys us:List D}{i:Nat}{d:D},(iw xs ys us)[i]?=ap d->∃x y u,xs[i]?=ap x/\ys[i]?=ap y/\us[i]?=ap u/\d=.tup [x,y,u]
 |x::xs,y::ys,u::us,0,d,h=>by simp[iw]at h;simp_all
 |x::xs,y::ys,u::us,i+1,d,h=>by simp only[Tu]at h ⊢;exact ql h
 |[],_,_,_,_,h=>by trivial
 |_::_,[],_,_,_,h=>by trivial
 |_::_,_::_,[],_,_,h=>by trivial
theorem qq:∀{xs ys us:List D}{i:Nat},(iw xs ys us).length<=i->xs.length<=i\/ys.length<=i\/us.length<=i
 |x::xs,y::ys,u::us,0,h=>by trivial
 |x::xs,y::ys,u::us,i+1,h=>by
  have:=qq (by simpa [iw] using h)
  simp_all
 |[],_,_,_,_=>.inl (by simp)
 |_::_,[],_,_,_=>.inr (by simp_all)
 |_::_,_::_,[],_,_=>.inr (by simp_all)
def uC(t:eJ):wT:=λU M R=>t U M λg M1=>cns g λd r=>two r λe f=>so (aI M1 d) λc=>so (aI M1 e) λb=>so (aI M1 f) λa=>R #[iw c b a,br d c++(br e b++br f a)] M1
theorem IG(s:Gl X "zip")(C:X.mg "zip"=bb)(w:DA X B [a,b,c] l)
  (A:eH [a,b,c] X.env=[(cp,g3 a X.env),(cp,g3 b X.env),(cp,g3 c X.env)]:=by rfl) (hs2:eH [b,c] X.env=[(cp,g3 b X.env),(cp,g3 c X.env)]:=by rfl):
  DI X B (.Tuple g v E) (.Call (.Name "zip" p) [a,b,c] [] pos) (uC l):=by
 refine zF (λL M1 R h=>?_) s C w (by rw[A,hs2]) (by rw[hs2];rfl)
 replace h:=h.inv;obtain⟨d,r,rfl,h⟩:=h
 replace h:=h.inv;obtain⟨e,f,rfl,h⟩:=h
 obtain⟨F,m,h⟩:=h.inv;obtain⟨N,o,h⟩:=h.inv;obtain⟨M,q,h⟩:=h.inv;refine#[_,_,.inr rfl,.cons m (.cons o<|.cons q .nil),#[λi z n=>?_,λi j=>?_],by simpa [xY] using h]
 .obtain⟨x,y,u,J,I,G,rfl⟩:=ql n
  simp_all
 simpa using (qq j)
end _3
namespace _S
open PySem PySem.W PyProof.Rows
variable{q:Array Nat}
noncomputable def Kp(ky:Nat->Nat)(p:Array Nat)(i:Nat):Nat:=ky (p.getD i 0)
def Pm(n:Nat)(p:Array Nat):Prop:=p.toList.Perm (Ub n)
def SU(ky:Nat->Nat)(p:Array Nat)(k:Nat):Prop:=∀i j,i<=j->j<k->Kp ky p i<=Kp ky p j
def SD(ky:Nat->Nat)(p:Array Nat)(k:Nat):Prop:=∀i j,i<=j->j<k->Kp ky p j<=Kp ky p i
def pG(n:Nat)(ky:Nat->Nat)(cmp:Nat->Nat->(Bool->ca->Prop)->ca->Prop)(s:ca):Prop:=∀i j,i<n->j<n->∀C:Bool->ca->Prop,C (decide (ky i<ky j)) s->cmp i j C s
section
variable{p:Array Nat}
theorem Pm.size(h:Pm n p):p.size=n:=by
 simpa using (List.Perm.length_eq h)
theorem Pm.lt(h:Pm n p)(b:i<n):p.getD i 0<n:=by
 have a:i<p.size:=by rw[Pm.size h];exact b
 have e:p.getD i 0=p[i]:=by simp[a]
 rw[e];exact UE.mp (Xb h |>.mp (by simp))
theorem Pm.of(h:Pm n p)(e:q.Perm p):Pm n q:=(Array.perm_iff_toList_perm.mp e).trans h
theorem xl(h:q[i]?=p[j]?):q.getD i 0=p.getD j 0:=by
 simp_all
theorem gD(h:q[i]?=p[j]?):Kp ky q i=Kp ky p j:=congrArg ky (xl h)
theorem oE(a:j<=p.size)(k:Nat):Kp ky (kas_rev p i j) k=if i<=k/\k<j then Kp ky p (i+j-1-k) else Kp ky p k:=by
 have e:=getElem?_mirror_all (i:=i) a k
 by_cases h:i<=k/\k<j
 .rw[if_pos h]at e ⊢
  exact gD e
 rw[if_neg h]at e ⊢;exact gD e
theorem Gg(b:src<p.size)(c:d<=src)(k:Nat):Kp ky (bubble p src d) k=if k=src-d then Kp ky p src else if src-d<k/\k<=src then Kp ky p (k-1) else Kp ky p k:=by
 have e:=getElem?_bubble b d c k
 by_cases h:k=src-d
 .rw[if_pos h]at e ⊢
  exact gD e
 rw[if_neg h]at e ⊢
 by_cases a:src-d<k/\k<=src
 .rw[if_pos a]at e ⊢
  exact gD e
 rw[if_neg a]at e ⊢;exact gD e
theorem Fz{p:Array Nat}:∀k,m+1-(0+1)<=k->k<m+1->Kp ky p k=Kp ky p (m+1-1):=λk b a=>by
 have e:k=m:=by lia
 subst e;rfl
theorem SU1:SU ky p 1:=λi j a b=>by
 have e:i=j:=by lia
 rw[e];exact TL _
theorem Pm.rev(h:Pm n p):Pm n (kas_rev p i j):=h.of (mirror_perm ..)
theorem nB(a:pG n ky cmp s)(g:i<n)(b:j<n)(e:ky i<ky j->(k true).kasWp cmp Q s)(f:¬ky i<ky j->(k cp).kasWp cmp Q s):(KasT.ask i j k).kasWp cmp Q s:=by
 refine a i j g b _ ?_
 by_cases c:ky i<ky j
 .rw[decide_eq_true c];exact e c
 rw[decide_eq_false c];exact f c
theorem xU(l:pG n ky cmp s)(g:Pm n p):∀(f a:Nat)(Q:Nat->ca->Prop),1<=a->a+f<=n->SU ky p a->(∀m,a<=m->m<=a+f->SU ky p m->(m<a+f->Kp ky p m<Kp ky p (m-1))->Q m s)->(kas_asc p f a).kasWp cmp Q s
 |0,a,Q,h1,h2,hs,h=>h a (by lia) (by lia) hs (by lia)
 |f+1,a,Q,h1,h2,hs,h=>by
  refine nB l (g.lt<|by lia) (g.lt<|by lia) (λc=>?_) λc=>?_
  .exact h a (by lia) (by lia) hs λ_=>c
  refine xU l g f _ Q (by lia) (by lia) (λi j b u=>?_) λm r x o w=>h m (by lia) (by lia) o (by lia)
  by_cases e:j=a
  .subst e
   by_cases v:i=j
   .simp_all
   .exact TR (hs i _ (by lia)<|by lia) (V5 c)
  exact hs i j b (by lia)
theorem k_(v:pG n ky cmp s):∀(f:Nat)(p:Array Nat)(m q:Nat)(Q:Array Nat×Nat×Nat->ca->Prop),Pm n p->1<=m->m+f<=n->SD ky p m->q+1<=m->(∀k,m-(q+1)<=k->k<m->Kp ky p k=Kp ky p (m-1))->
  (∀a b g,Pm n a->m<=b->b<=m+f->SD ky a b->g+1<=b->(∀k,b-(g+1)<=k->k<b->Kp ky a k=Kp ky a (b-1))->Q (a,b,g) s)->(kas_desc f p m q).kasWp cmp Q s
 |0,p,m,q,Q,hp,h1,h2,hs,hq,he,h=>h p m q hp (TL _) (by lia) hs hq he
 |f+1,p,m,q,Q,hp,h1,h2,hs,hq,he,h=>by
  have one:∀a,(∀k,Kp ky a k=Kp ky p k)->Kp ky p m<=Kp ky p (m-1)->SD ky a (m+1):=λa w c i j x G=>by
   rw[w,w]
   by_cases e:j=m
   .subst e
    by_cases H:i=j
    .simp_all
    .exact TR c (hs i (j-1) (by lia)<|by lia)
   .exact hs i j x (by lia)
  refine nB v (hp.lt<|by lia) (hp.lt<|by lia) (λc=>?_) λc=>?_
  .have C:=V1 c
   show (if q>0 then _ else _:KasT _).kasWp cmp Q s
   split
   .have w:∀k,Kp ky (kas_rev p (m-(q+1)) m) k=Kp ky p k:=λk=>by
     rw[oE (by rw[hp.size];lia)]
     split
     .rename_i z
      rw[he _ (by lia) (by lia),he k z.1 z.2]
     .rfl
    exact k_ v f _ (m+1) 0 Q hp.rev (by lia) (by lia) (one _ w C) (by lia) Fz λa b g l B A r u o=>h a b g l (by lia) (by lia) r u o
   .exact k_ v f p (m+1) 0 Q hp (by lia) (by lia) (one _ (λ_=>rfl) C) (by lia) Fz λa b g l B A r u o=>h a b g l (by lia) (by lia) r u o
  .refine nB v (hp.lt<|by lia) (hp.lt<|by lia) (λy=>?_) λy=>?_
   .exact h p m q hp (TL _) (by lia) hs hq he
   .have E:Kp ky p m=Kp ky p (m-1):=Nat.le_antisymm (V5 y) (V5 c)
    refine k_ v f p (m+1) (q+1) Q hp (by lia) (by lia) (by simp_all) (by lia) (λk F I=>?_) λa b g l B A r u o=>h a b g l (by lia) (by lia) r u o
    show Kp ky p k=Kp ky p m
    by_cases e:k=m
    .rw[e]
    .rw[he k (by lia) (by lia),E]
theorem og{t:KasT α}{Q:b->ca->Prop}(h:t.kasWp cmp (λa s'=>(f a).kasWp cmp Q s') s):(t.bind f).kasWp cmp Q s:=by
 rw[KasT.kasWp_bind];exact h
theorem uI(g:pG n ky cmp s)(b:Pm n p)(l:1<=m)(w:m<=n)(o:SD ky p m)(h:∀a c,Pm n c->1<=a->a<=n->SU ky c a->Q (a,c) s):(kas_tail3 m n p).kasWp cmp Q s:=by
 refine og (xU g b.rev _ m _ l (by lia) (λi j f r=>?_) λa u v e _=>h a _ b.rev (by lia) (by lia) e)
 rw[oE (by rw[b.size];lia),oE (by rw[b.size];lia),if_pos (by lia),if_pos (by lia)]
 exact o _ _ (by lia) (by lia)
theorem kE(f:pG n ky cmp s)(w:Pm n p)(B:1<=m)(C:m+1<=n)(v:SD ky p (m+1))(h:∀a b,Pm n b->1<=a->a<=n->SU ky b a->Q (a,b) s):(kas_descPart m n p).kasWp cmp Q s:=by
 refine og (k_ f _ p _ 0 _ w (by lia) (by lia) v (by lia) Fz λb a r c A x l y o=>?_)
 dsimp only
 split
 .refine uI f c.rev (by lia) (by lia) (λi j e u=>?_) h
  have g:∀k,Kp ky (kas_rev b (a-(r+1)) a) k=Kp ky b k:=λk=>by
   rw[oE (by rw[c.size];lia)]
   split
   .rename_i z
    rw[o _ (by lia) (by lia),o k z.1 z.2]
   rfl
  rw[g,g];exact l i j e u
 exact uI f c (by lia) (by lia) l h
theorem FN(o:pG n ky cmp s)(a:Pm n p)(I:1<=n)(h:∀r w,Pm n w->1<=r->r<=n->SU ky w r->Q (r,w) s):(kas_count n p).kasWp cmp Q s:=by
 refine og (xU o a _ 1 _ (by lia) (by lia) SU1 λm f F b C=>?_)
 by_cases e:m=n
 .subst e
  rw[if_pos (by simp)]
  exact h m p a f (by lia) b
 rw[if_neg (by simpa using e)]
 have lt:=C (by lia)
 by_cases g:m>1
 .rw[if_pos g]
  refine nB o (a.lt<|by lia) (a.lt<|by lia) (λc=>?_) λc=>?_
  .exact h m p a f (by lia) b
  have eq:∀k,k<m->Kp ky p k=Kp ky p (m-1):=λk l=>by
   have H:=b k (m-1) (by lia) (by lia)
   have G:=b 0 k (by lia) l
   have E:Kp ky p (m-1)<=Kp ky p 0:=V5 c;lia
  have l:∀k,Kp ky (kas_rev p 0 m) k=Kp ky p k:=λk=>by
   rw[oE (by rw[a.size];lia)]
   split
   .rename_i z
    rw[eq _ (by lia),eq k z.2]
   .rfl
  refine kE o a.rev f (by lia) (λi j u x=>?_) h
  rw[l,l]
  by_cases y:j=m
  .subst y
   by_cases B:i=j
   .rw[B];exact TL _
   .rw[eq i (by lia)];lia
  .rw[eq i (by lia),eq j (by lia)];exact TL _
 .have:m=1:=by lia
  subst this;refine kE o a f (by lia) (λi j u x=>?_) h
  have:Kp ky p 1<Kp ky p 0:=lt;have A:i=0\/i=1:=by lia
  have v:j=0\/j=1:=by lia
  rcases A with rfl|rfl<;>rcases v with rfl|rfl<;>lia
theorem mH(v:pG n ky cmp s)(u:Pm n p)(w:k<n)(o:SU ky p k):∀(f l r:Nat)(Q:Nat->ca->Prop),l<=r->r<=k->r-l<=f->(∀i,i<l->Kp ky p i<=Kp ky p k)->(∀i,r<=i->i<k->Kp ky p k<Kp ky p i)->
  (∀e,e<=k->(∀i,i<e->Kp ky p i<=Kp ky p k)->(∀i,e<=i->i<k->Kp ky p k<Kp ky p i)->Q e s)->(kas_place p k f l r).kasWp cmp Q s
 |0,l,r,Q,h1,h2,h3,a,b,h=>h l (by lia) a λi i1=>b i (by lia)
 |f+1,l,r,Q,h1,h2,h3,a,b,h=>by
  unfold kas_place
  by_cases c:l>=r
  .rw[if_pos c]
   exact h l (by lia) a λi i1=>b i (by lia)
  .rw[if_neg c]
   exact nB v (u.lt w) (u.lt<|by lia) (λg=>(mH v u w o f l _ Q (by lia) (by lia) (by lia) a (λi i1 i2=>Uc g (o _ i i1 i2)) h)) λg=>(mH v u w o f _ r Q (by lia) (by lia) (by lia) (λi i1=>TR (o i _ (by lia)<|by lia) (V5 g)) b h)
theorem Ez(u:pG n ky cmp s):∀(f:Nat)(p:Array Nat)(k:Nat)(Q:Array Nat->ca->Prop),Pm n p->1<=k->k+f=n->SU ky p k->(∀o,Pm n o->SU ky o n->Q o s)->(kas_bin f p k).kasWp cmp Q s
 |0,p,k,Q,hp,h1,h2,hs,h=>h p hp (by simp_all)
 |f+1,p,k,Q,hp,h1,h2,hs,h=>by
  refine og (mH u hp (by lia) hs k 0 k _ (by lia) (by lia) (by lia) (by lia) (by lia) λl w a b=>?_)
  refine Ez u f _ _ Q (hp.of<|bubble_perm ..) (by lia) (by lia) (λi j g v=>?_) h
  have sz:k<p.size:=by rw[hp.size];lia
  have e:k-(k-l)=l:=by lia
  rw[Gg sz (by lia),Gg sz (by lia),e]
  by_cases i1:i=l
  .rw[if_pos i1]
   by_cases c:j=l
   .simp_all
   .rw[if_neg c,if_pos (by lia)]
    exact V1 (b _ (by lia)<|by lia)
  rw[if_neg i1]
  by_cases i2:l<i/\i<=k
  .rw[if_pos i2,if_neg (by lia),if_pos (by lia)]
   exact hs (i-1) (j-1) (by lia) (by lia)
  .rw[if_neg i2]
   by_cases c:j=l
   .rw[if_pos c];exact a i (by lia)
   .rw[if_neg c]
    by_cases r:l<j/\j<=k
    .rw[if_pos r];exact hs i (j-1) (by lia) (by lia)
    .rw[if_neg r];exact hs i j g (by lia)
theorem vN:Pm n (VD<|Ub n):=by unfold Pm;simp
theorem KJ(e:pG n ky cmp s)(f:1<=n)(h:∀p,Pm n p->SU ky p n->Q p s):(kas_sort n).kasWp cmp Q s:=by
 refine og (FN e vN f λm p c b g a=>?_)
 split
 .rw[Nat.max_eq_left b]
  exact Ez e _ p m Q c b (by lia) a h
 have:m=n:=by lia
 subst this;exact h p c a
end
def g9:List Int->List Int->Bool
 |[],[]=>cp
 |[],_::_=>true
 |_::_,[]=>cp
 |x::xs,y::ys=>if x=y then g9 xs ys else decide (x<y)
theorem zU:∀x:List Int,g9 x x=cp
 |[]=>rfl
 |x::xs=>by simp[g9,zU xs]
theorem vo:∀x y:List Int,g9 x y=cp->g9 y x=cp->x=y
 |[],[],_,_=>rfl
 |[],_::_,h,_=>by trivial
 |_::_,[],_,h=>by trivial
 |x::xs,y::ys,h1,h2=>by
  unfold g9 at h1 h2
  by_cases c:x=y
  .subst c
   rw[if_pos rfl]at h1 h2;rw[vo xs ys h1 h2]
  rw[if_neg c]at h1;rw[if_neg (by lia)]at h2
  simp at h1 h2;lia
theorem sF:∀x y z:List Int,g9 y x=cp->g9 z y=cp->g9 z x=cp
 |[],[],[],_,_=>rfl
 |[],[],_::_,_,h=>rfl
 |[],_::_,[],_,h=>by rfl
 |[],_::_,_::_,_,_=>rfl
 |_::_,[],_,h,_=>by trivial
 |_::_,_::_,[],_,h=>by assumption
 |x::xs,y::ys,z::zs,h1,h2=>by
  unfold g9 at h1 h2 ⊢
  by_cases c:y=x
  .rw[if_pos c]at h1
   subst c
   by_cases d:z=y
   .rw[if_pos d]at h2 ⊢;exact sF xs ys zs h1 h2
   simp_all
  rw[if_neg c]at h1
  by_cases d:z=y
  .simp_all
  rw[if_neg d]at h2;simp at h1 h2;rw[if_neg (by lia)]
  simp;lia
theorem mF:∀x y:List Int,g9 x y=true->g9 y x=cp
 |[],[],h=>by rfl
 |[],_::_,_=>rfl
 |_::_,[],h=>by trivial
 |x::xs,y::ys,h=>by
  unfold g9 at h ⊢
  by_cases c:x=y
  .subst c
   rw[if_pos rfl]at h ⊢;exact mF xs ys h
  rw[if_neg c]at h;rw[if_neg (by lia)]
  simp at h ⊢;lia
def oTup:Ord (List Int):=#[g9,vo,sF,mF]
theorem AZ{α:Type}{p q:α->Bool}:∀{l:List α},(∀x∈l,p x=true->q x=true)->(∃y∈l,q y=true/\p y=cp)->l.countP p<l.countP q
 |[],_,⟨_,h,_⟩=>by cases h
 |x::l,h,⟨y,hy,hq,hp⟩=>by
  have mono:l.countP p<=l.countP q:=YA (by simp_all)
  rw[List.countP_cons,List.countP_cons];rcases TK.mp hy with e|hy
  .subst e
   rw[if_pos hq,hp];simp;lia
  have:=AZ (by simp_all) #[y,hy,hq,hp]
  cases c:p x with
  |false=>simp;split<;>lia
  |true=>simp_all
def rk(ks:aaV)(i:Nat):Nat:=ks.countP λx=>g9 x (ks.getD i [])
theorem Lz(g:i<ks.length):decide (rk ks i<rk ks j)=g9 (ks.getD i []) (ks.getD j []):=by
 unfold rk;have e:ks.getD i []∈ks:=by simp[g]
 generalize ks.getD i []=a at e;generalize ks.getD j []=b;cases c:g9 a b with
 |true=>
  refine decide_eq_true (AZ (λx f h=>?_) #[a,e,c,zU a]);cases d:g9 x b with
  |true=>rfl
  |false=>
   have:=sF a b x (mF a b c) d
   simp_all
 |false=>
  refine decide_eq_false (W4.mpr (YA λx f h=>?_));cases d:g9 x a with
  |true=>rfl
  |false=>
   have:=sF b a x c d
   simp_all
end _S
namespace _3
open PySem _2 _S
theorem Pc(a:Pm ks.length p)(n:SU (rk ks) p ks.length):p.toList.map (λi=>ks.getD i [])=Ik oTup ks:=by
 refine N6 _ ?_ ?_
 .refine VH.mpr λi j g b f=>?_
  have sz:=a.size;simp at g b;simp only[Xz,Array.getElem_toList];have c:=n i j (by lia) (by lia)
  unfold Kp at c;have h:p.getD j 0=p[j]:=by simp[b]
  have m:p[j]<ks.length:=by
   have:=a.lt (i:=j) (by lia)
   rw[h]at this;exact this
  show g9 _ _=cp;rw[<- Lz m]
  simp_all
 have:=List.Perm.map (λi=>ks.getD i []) a;have e:(Ub ks.length).map (λi=>ks.getD i [])=ks:=by
  refine XA (by simp) λi c l=>?_
  simp[l]
 rw[e]at this;exact this
theorem qt(r:Vals vs aaT):∀l:List Nat,(∀i∈l,i<vs.length)->Vals (l.map λi=>vs.getD i .non) (l.map λi=>aaT.getD i UU)
 |[],_=>.nil
 |i::l,h=>by
  have a:=h i (by simp)
  obtain⟨v,f,b⟩:=r.get (Tx a);have c:vs.getD i .non=vs[i]:=by simp[a]
  have e:aaT.getD i UU=v:=by simp_all
  rw[TB,TB,c,e];exact .cons b (qt r l<|by simp_all)
end _3
namespace _3
open PySem _2
variable{x:Str}
structure GF(K:TH)(mg:aa4)(x:Str)(st:rc)(f:cb)(fd:kc)(ps:aaX):Prop where
 F:Fun K x x st f fd
 b:Binds K fd ps []
 k:U8 K (.ref f)=true
 m:mg x=ap (.ref f)
structure GA(K:TH)(mg:aa4)(x y:Str)(st:rc)(f:cb)(fd:kc)(ps:aaX):Prop where
 F:Fun K y y st f fd
 b:Binds K fd ps []
 k:U8 K (.ref f)=true
 m:mg x=ap (.ref f)
structure FunV(K:TH)(x aaO:Str)(st:rc)(f:cb)(fd:kc):Prop where
 ex:∃(oc:ay)(od:Option cb)(kV doc pm:ay)(an:Option cb)(cdv ct:ay)(osl:Array (Option ay))(T:cb),
  fd=Wd x aaO (cz st) (bE st) (aQ st) (.ref T) kV doc pm an cdv ct/\K.lookup f=ap #[oc,od,.func fd,osl]/\XB K cdv aaO=true
 kp:U8 K (.ref f)=true
structure GV(K:TH)(mg:aa4)(x:Str)(st:rc)(f:cb)(fd:kc)(ps:aaX)(dv:Int):Prop where
 F:FunV K x x st f fd
 b:Binds K fd ps []
 d:∃t,Binds K fd ps [.int dv t]
 k:U8 K (.ref f)=true
 m:mg x=ap (.ref f)
inductive GC(K:TH)(mg:aa4)(x:Str)(st:rc)(f:cb)(fd:kc)(ps:aaX):Prop
 |g (h:GF K mg x st f fd ps):GC K mg x st f fd ps
 |a {y:Str} (h:GA K mg x y st f fd ps):GC K mg x st f fd ps
 |v {dv:Int} (h:GV K mg x st f fd ps dv):GC K mg x st f fd ps
structure GM(K:TH)(C:cb)(x aaO:Str)(st:rc)(f:cb)(fd:kc)(ps:aaX):Prop where
 F:Fun K x aaO st f fd
 b:Binds K fd ps []
 m:Meth K C x f
structure GI(K:TH)(C:cb)(x aaO:Str)(st:rc)(f:cb)(fd:kc)(ps:aaX):Prop where
 F:Fun K x aaO st f fd
 b:Binds K fd ps []
 m:Mk K C f
theorem Gz(h:GC X.K X.mg x st f fd ps)(F:FnOk X.prog X.w X.K X.mg X.base CX k f fd ps (bG X.K n T))(u:Room k X.A)(l:Gl X x)(j:bV CX X E)(ux:uT X.K B EE E)(s:DA X B (e::es) t)(c:(x==("__debug__":Str))=cp)(q:eH (e::es) X.env=(cp,g3 e X.env)::eH es X.env)(i:(j0 pos<|starEach es X.env).any (·.1)=cp):
  DE X B (.Call (.Name x p) (e::es) [] pos) (aj T EE n t):=by
 cases h with
 |g h=>exact sg F u l h.m h.k h.b j ux s c q i
 |a h=>exact sg F u l h.m h.k h.b j ux s c q i
 |v h=>exact sg F u l h.m h.k h.b j ux s c q i
def Px(X:Cx)(B:Bd)(x:Str)(T:Sd)(EE:DX)(n:Nat):Prop:=∃(st:rc)(f:cb)(fd:kc)(ps:aaX)(k:Nat)(CX:pv)(E:XK),GC X.K X.mg x st f fd ps/\FnOk X.prog X.w X.K X.mg X.base CX k f fd ps (bG X.K n T)/\Room k X.A/\bV CX X E/\uT X.K B EE E
theorem G7(h:Px X B x T EE n)(i:Gl X x)(l:DA X B (e::es) t)(a:(x==("__debug__":Str))=cp)(j:eH (e::es) X.env=(cp,g3 e X.env)::eH es X.env)(b:(j0 pos<|starEach es X.env).any (·.1)=cp):
  DE X B (.Call (.Name x p) (e::es) [] pos) (aj T EE n t):=by
 obtain⟨_,_,_,_,_,_,_,h,F,c,g,ux⟩:=h;exact Gz h F c i g ux l a j b
theorem G5(h:GI X.K C aaO x st f fd ps)(F:FnOk X.prog X.w X.K X.mg X.base CX k f fd ps (bG X.K n T))(q:Room (k+1) X.A)(i:Gl X y)(s:X.mg y=ap (.ref C))(g:bV CX X E)(ux:uT X.K B EE E)(l:DA X B (e::es) t)(a:(y==("__debug__":Str))=cp)(j:eH (e::es) X.env=(cp,g3 e X.env)::eH es X.env)(c:(j0 pos<|starEach es X.env).any (·.1)=cp):
  DE X B (.Call (.Name y p) (e::es) [] pos) (gQ C T EE n t):=IF h.m F q i s h.b g ux l a j c
theorem Gi(j:DE X B o ta)(c:Cls X.K C)(h:GM X.K C m aaO st f fd ps)(F:FnOk X.prog X.w X.K X.mg X.base CX k f fd ps (bG X.K n T))(q:Room k X.A)(i:bV CX X E)(ux:uT X.K B EE E)(l:DA X B (e::es) t)(a:eH (e::es) X.env=(cp,g3 e X.env)::eH es X.env)(g:(j0 pos<|starEach es X.env).any (·.1)=cp)(s:g3 (.Call (.Attribute o m aaS) (e::es) [] pos) X.env=(do
   let ov <- g3 o X.env
   V_ aaS.atName
   let (f,first) <- vb [ov] (UV ov m pl)
   Z4 pos f first (j0 pos<|starEach (e::es) X.env) (y' pos<|keywordEach [] X.env))):
  DE X B (.Call (.Attribute o m aaS) (e::es) [] pos) (dw C m T EE n ta t):=JB j c h.m F q h.b i ux l a g s
theorem CZ(j:DE X B o ta)(c:Cls X.K C)(h:GM X.K C m aaO st f fd ps)(F:FnOk X.prog X.w X.K X.mg X.base CX k f fd ps (bG X.K n T))(g:Room k X.A)(a:bV CX X E)(ux:uT X.K B EE E)(i:g3 (.Call (.Attribute o m aaS) [] [] pos) X.env=(do
   let ov <- g3 o X.env
   V_ aaS.atName
   let (f,first) <- vb [ov] (UV ov m pl)
   Z4 pos f first (j0 pos<|starEach [] X.env) (y' pos<|keywordEach [] X.env))):
  DE X B (.Call (.Attribute o m aaS) [] [] pos) (dw C m T EE n ta af):=FE j c h.m F g h.b a ux i
inductive FC(X:Cx)(scope:B'):List Str->List Nat->List (Str×cb)->Prop
 |nil:FC X scope [] [] []
 |cons {x:Str} {j:Nat} {c:cb} {fs:aaX} {js:List Nat} {cl:List (Str×cb)}:X.N[j]?=ap x->X.env.cells.lookup x=ap c->(X.env.kindOf x=ap .cell\/X.env.kindOf x=ap .free)->
   ((Wp scope X.env).names.lookup x=ap .cell\/(Wp scope X.env).names.lookup x=ap .free)->FC X scope fs js cl->FC X scope (x::fs) (j::js) ((x,c)::cl)
theorem FC.ok(h:FC X g fs l j):Frees X g fs l/\∃i:List cb,fs.length=i.length/\j=fs.zip i/\∀p∈j,X.env.cells.lookup p.1=ap p.2:=by
 induction h with
 |nil=>exact#[.nil,[],rfl,rfl,memZ]
 |cons a b c d _ ih=>
  obtain⟨m,i,s,q,u⟩:=ih;exact#[.cons a c d m,_::i,congrArg _ s,by rw[q];rfl,memC b u]
theorem nodC(h:N.Nodup):(a_ X N scope cl C a H₀ b pl).N.Nodup:=h
theorem Cb(h:FC X scope fs js cl)(q:scope.kind=.function)(s:∀y∈scope.names,y.2≠.cell/\(y.2=.free->y.1∈fs))(m:∀x∈scope.names,x.2=.local->scope.names.lookup x.1=ap .local)(a:Z0 scope X.env=pure cl):CompOk X scope cl ls fs js:=by
 obtain⟨b,u,j,c,l⟩:=h.ok;subst c;exact J5 q s m j a l b
theorem Ia(q:X.calm=true)(h:FC X scope fs js cl)(s:scope.kind=.function)(G:∀y∈scope.names,y.2≠.cell/\(y.2=.free->y.1∈fs))(v:∀x∈scope.names,x.2=.local->scope.names.lookup x.1=ap .local)(m:Z0 scope X.env=pure cl)(F:DI X B tg iter wi)(w:∀(C:cb)(j:ca)(H₀:Hp)(l:aaZ)(pl:aa3),DG (a_ X (ls++fs) scope cl C j H₀ l pl) yu tg g)(z:∀(C:cb)(j:ca)(H₀:Hp)(l:aaZ)(pl:aa3),P1 (a_ X (ls++fs) scope cl C j H₀ l pl) yu ifs tt)(u:∀(C:cb)(j:ca)(H₀:Hp)(l:aaZ)(pl:aa3),DE (a_ X (ls++fs) scope cl C j H₀ l pl) yu elt te)(A:∀x,qa iter X.env x=pure x):DE X B (.ListComp elt [#[tg,iter,ifs,0]] scope pos) (aN wi ls js g tt te):=
 Jy q (Cb h s G v m) F (λa b c d e=>#[w a b c d e,z a b c d e,u a b c d e]) A
theorem Fq(z:X.N.Nodup)(q:X.N[i]?=ap x)(I:Ej X.env.scope x)(K:X.calm=true)(h:FC X scope fs js cl)(F:scope.kind=.function)(v:∀y∈scope.names,y.2≠.cell/\(y.2=.free->y.1∈fs))(w:∀x∈scope.names,x.2=.local->scope.names.lookup x.1=ap .local)(m:Z0 scope X.env=pure cl)(s:DI X B tg iter wi)(G:∀(C:cb)(j:ca)(H₀:Hp)(l:aaZ)(pl:aa3),DG (a_ X (ls++fs) scope cl C j H₀ l pl) yu tg g)(L:∀(C:cb)(j:ca)(H₀:Hp)(l:aaZ)(pl:aa3),P1 (a_ X (ls++fs) scope cl C j H₀ l pl) yu ifs tt)(J:∀(C:cb)(j:ca)(H₀:Hp)(l:aaZ)(pl:aa3),DE (a_ X (ls++fs) scope cl C j H₀ l pl) yu elt te)(A:X.env.blockKind=.function)(O:X.env.scope.names.lookup x=ap .local)(P:px.line=pos.line)(u:(scope.names.any λ(n,k)=>n==x&&(k==.local||k==.cell))=cp)(H:∀x,qa iter X.env x=pure x)(M:X.fn x=true\/X.env.scope.names.lookup x=ap .local):
  DS X B (.Assign [.Name x px] (.ListComp elt [#[tg,iter,ifs,0]] scope pos) spos) (cV i<|aN wi ls js g tt te):=
 KL z q I K (Cb h F v w m) s (λa b c d e=>#[G a b c d e,L a b c d e,J a b c d e]) (Ld A O P u) H M
theorem IL(h:GF X.K X.mg x st f fd ps)(F:FnOk X.prog X.w X.K X.mg X.base (qI X.prog X.w) k f fd ps (bG X.K n T))(J:X.stack=X.env::X.outer)(u:X.env.frame=ap X.env.locals)(R:Room k X.A)(P:Gl X x)(O:DA X.nox B (e::es) t)(EX:ExcAt X.K C)(G:Gl X l)(v:X.mg l=ap (.ref C))(I:∀S:cb,zf (X.marked<|.ref S) B (c::a) M)(z:(x==("__debug__":Str))=cp)(s:(l==("__debug__":Str))=cp)(Q:eH (e::es) X.env=(cp,g3 e X.env)::eH es X.env)(H:(j0 q<|starEach es X.env).any (·.1)=cp)(y:vr (.Call (.Name x p) (e::es) [] q) bb L.line X.env=pure cp):
  DS X B (.Try [.Expr (.Call (.Name x p) (e::es) [] q) L] [.ExceptHandler (ap<|.Name l U) bb (c::a) j] [] [] pos) (OB C T n t M):=yq J u F R P h.m h.k h.b O EX G v I z s Q H y
section
variable{id:String}
theorem cu(c:bu X (.builtin id) (liftC X r))(j:fv x=ap (.builtin id))(f:Gl X x)(i:X.mg x=bb)(h:DA X B (e::es) t)(l:x≠"__name__")(a:(x==("__debug__":Str))=cp)(g:eH (e::es) X.env=(cp,g3 e X.env)::eH es X.env)(b:(j0 pos<|starEach es X.env).any (·.1)=cp):DE X B (.Call (.Name x p) (e::es) [] pos) (bc r t):=EZ c f i j h l a g b
theorem fQ(c:bu X (.type T) (liftC X r))(j:fv x=ap (.type T))(f:Gl X x)(i:X.mg x=bb)(h:DA X B (e::es) t)(l:x≠"__name__")(a:(x==("__debug__":Str))=cp)(g:eH (e::es) X.env=(cp,g3 e X.env)::eH es X.env)(b:(j0 pos<|starEach es X.env).any (·.1)=cp):DE X B (.Call (.Name x p) (e::es) [] pos) (bc r t):=CS c f i j h l a g b
theorem oq(c:fv x=ap (.type T))(a:Gl X x)(b:X.mg x=bb)(f:x≠"__name__")(g:(x==("__debug__":Str))=cp):DE X B (.Name x pos) (dC<|.ty T):=Tk a b c f g
theorem Fh(j:W' Ty)(f:Slot Ty name id)(h:ZY (.builtin id)=pure (.type "method_descriptor"))(m:xz X id (liftM X r))(l:Ty="list"\/Ty="str"\/Ty="int"\/Ty="dict")(i:DE X B o to)(n:DA X B (e::es) t)(b:k' o name X.env (g3 o X.env)=g3 o X.env)(g:((j0 aaR<|starEach (e::es) X.env).all (λx=>!x.1)&&(y' aaR<|keywordEach [] X.env).all (λx=>x.1.isSome)
   && decide ((e::es).length+([]:List wh).length+(if ([]:List wh).isEmpty then 0 else 1)<30))=true)(c:(aaS.endLine==aaR.line)=true)(q:eH (e::es) X.env=(cp,g3 e X.env)::eH es X.env)(a:(j0 aaR<|starEach es X.env).any (·.1)=cp):
  DE X B (.Call (.Attribute o name aaS) (e::es) [] aaR) (kH Ty r to t):=Ss l j f h m i n b g c q a
theorem CH(g:W' Ty)(c:Slot Ty name id)(f:ZY (.builtin id)=pure (.type "method_descriptor"))(i:xz X id (liftM X r))(h:Ty="list"\/Ty="str"\/Ty="int"\/Ty="dict")(j:DE X B o to)(a:k' o name X.env (g3 o X.env)=g3 o X.env)(b:(aaS.endLine==aaR.line)=true):DE X B (.Call (.Attribute o name aaS) [] [] aaR) (kH Ty r to af):=PV h g c f i j a b
theorem GQ(f:Slot "tuple" name id)(h:ZY (.builtin id)=pure (.type "method_descriptor"))(l:xz X id (liftM X r))(i:DE X B o to)(j:DA X B (e::es) t)(b:k' o name X.env (g3 o X.env)=g3 o X.env)(g:((j0 aaR<|starEach (e::es) X.env).all (λx=>!x.1)&&(y' aaR<|keywordEach [] X.env).all (λx=>x.1.isSome)
   && decide ((e::es).length+([]:List wh).length+(if ([]:List wh).isEmpty then 0 else 1)<30))=true)(c:(aaS.endLine==aaR.line)=true)(m:eH (e::es) X.env=(cp,g3 e X.env)::eH es X.env)(a:(j0 aaR<|starEach es X.env).any (·.1)=cp):
  DE X B (.Call (.Attribute o name aaS) (e::es) [] aaR) (Iq r to t):=Rf f h l i j b g c m a
theorem Ki(c:Oa X a (liftR2 X r))(b:X.N.Nodup)(j:X.N[i]?=ap x)(h:Ej X.env.scope x)(f:DE X B e te)(g:X.fn x=true\/X.env.scope.names.lookup x=ap .local):
  DS X B (.AugAssign (.Name x pos') a e pos) (Ii i te r):=OP b j h f c g
end
structure Nf(K:TH)(x:Str)(st:rc)(f:cb)(fd:kc):Prop where
 a:U7 K ff x=ap (ap<|.ref f)
 F:Fun K x x st f fd
structure Af(K:TH)(x y:Str)(st:rc)(f:cb)(fd:kc):Prop where
 a:U7 K ff x=ap (ap<|.ref f)
 F:Fun K y y st f fd
structure Mf(K:TH)(C:cb)(x q:Str)(st:rc)(f:cb)(fd:kc):Prop where
 a:UI K (.ref C) x=ap (ap<|.ref f)
 i:W.isFn K (.ref f)=true
 F:Fun K x q st f fd
theorem us1{α:Type}{P:List α->Prop}(h:∀a,P [a]):∀us:List α,us.length=1->P us
 |[a],_=>h a
theorem us2{α:Type}{P:List α->Prop}(h:∀b a,P [b,a]):∀us:List α,us.length=2->P us
 |[b,a],_=>h b a
theorem us3{α:Type}{P:List α->Prop}(h:∀c b a,P [c,b,a]):∀us:List α,us.length=3->P us
 |[c,b,a],_=>h c b a
theorem us4{α:Type}{P:List α->Prop}(h:∀f c a b,P [f,c,a,b]):∀us:List α,us.length=4->P us
 |[f,c,a,b],_=>h f c a b
theorem us5{α:Type}{P:List α->Prop}(h:∀g c f a b,P [g,c,f,a,b]):∀us:List α,us.length=5->P us
 |[g,c,f,a,b],_=>h g c f a b
theorem us6{α:Type}{P:List α->Prop}(h:∀i c g a b f,P [i,c,g,a,b,f]):∀us:List α,us.length=6->P us
 |[i,c,g,a,b,f],_=>h i c g a b f
abbrev Bnd(ps:aaX)(x aaO:Str)(st:rc):Prop:=∀(kV doc pm:ay)(an:Option cb)(cdv ct:ay)(us:aaY),us.length=ps.length->aai (Wd x aaO (cz st) (bE st) (aQ st) .none kV doc pm an cdv ct) #[us,[]]=pure (ps.zip us)
section
variable{K:TH}{f:cb}{fd:kc}{ps:aaX}{aaO:Str}{st:rc}
theorem gf(X:K.In h)(G:h.Ns ff mg)(l:Nf K x st f fd)(b:Bnd ps x x st:=by ac_rfl):GF K mg x st f fd ps:=#[l.F,l.F.binds b,l.F.kp,Wz X G l.a]
theorem ga(X:K.In h)(G:h.Ns ff mg)(l:Af K x y st f fd)(b:Bnd ps y y st:=by ac_rfl):GA K mg x y st f fd ps:=#[l.F,l.F.binds b,l.F.kp,Wz X G l.a]
theorem gm(l:Mf K C x aaO st f fd)(b:Bnd ps x aaO st:=by ac_rfl):GM K C x aaO st f fd ps:=#[l.F,l.F.binds b,l.a,l.i,l.F.kp]
theorem gi(mk:W2 K C=true)(b:U8 K (.ref C)=true)(l:Mf K C "__init__" aaO st f fd)(c:Bnd ps "__init__" aaO st:=by ac_rfl):GI K C "__init__" aaO st f fd ps:=#[l.F,l.F.binds c,mk,l.a,l.i,b]
abbrev cF(P:fx)(w:hG)(mg:aa4)(base:g4)(_:Fun K x aaO st f fd)(_:Binds K fd ps [])(k:Nat)(S:Sd):Prop:=FnOk P w K mg base (qI P w) k f fd ps (bG K ps.length S)
theorem fnS(i:S=aK N T)(F:Fun K x aaO st f fd)(b:Binds K fd ps [])(g:FnScope N ps (aQ st))(j:FnScope N ps (aQ st)->∀(c:ay)(A:h7)(a:List Env)(s:ca)(H:Hp)(E:XK)(B:Bd)(EE:DX),Room k (A.deeper<|VY aaO (aQ st) s.heap.objs.size f c)->uT K B EE E->
   zf (eY (qI P w) P w K mg base N aaO (aQ st) f c A a s H E) B (bE st) (T EE)):cF P w mg base F b (k+1) S:=by
 subst i;exact fnD F g (j g)
end
end _3
namespace _3
open PySem _2 _S
def QE(M:Mem):D->Bool
 |.ref a=>match M a with
  |some (.dK _)=>true
  |_=>cp
 |_=>cp
def GH(td ty:ba):ba:=λU M Q=>td U M λx M1=>QE M1 x=true/\ty U M1 λy M2=>onR x λa=>mK (M2 a) λb=>so (cN y) λk=>so (cJ b k) λv=>Q v (M2.upd a<|.dK<|qH b k)
def ER(td ty tx:ba):ba:=λU M Q=>td U M λx M1=>QE M1 x=true/\ty U M1 λy M2=>tx U M2 λz M3=>onR x λa=>mK (M3 a) λb=>so (cN y) λk=>oe (cJ b k) (λv=>Q v (M3.upd a<|.dK<|qH b k)) (Q z M3)
theorem Hf(f:RepH K H M)(r:Rp K H x v)(e:QE M x=true):∃a,x=.ref a/\v=.ref a/\IsD H a:=by
 cases x with
 |ref a=>
  cases r;refine#[a,rfl,rfl,?_];simp[QE]at e
  split at e
  .rename_i q;obtain⟨c,b,_⟩:=f _ _ q;exact .inl #[c,.inl b]
  cases e
 |_=>cases e
theorem Kl(ho:DE X B o to)(he:DE X B e te)(m:M1 X o "pop" aaS e aaR):DE X B (.Call (.Attribute o "pop" aaS) [e] [] aaR) (GH to te):=by
 refine aT (Hk ho he m) ?_
 rintro Z H Q ⟨U,M,QQ,s,h,u⟩
 refine#[U,M,_,s,h,λx M1 h1 v1 H1 rh1 i1 r1=>?_];obtain⟨a,rfl,rfl,hd⟩:=Hf rh1 r1 h1.1;refine#[a,rfl,hd,U,M1,_,s.go rh1 i1,h1.2,λy M2 h2 v2 H2 rh2 i2 r2=>?_];obtain⟨_,e,h2⟩:=h2.inv;cases e;obtain⟨aaP,hM,h2⟩:=h2.inv;obtain⟨k,ek,h2⟩:=h2.inv;obtain⟨ws,g1,g2⟩:=rh2 _ _ hM;have im:Imm H2 (upd H2 a<|.dK<|iu ws k):=Imm.upd (by rw[g1];trivial)
 rcases g2.val k with⟨q,_⟩|⟨d,w,q,qw,rw'⟩
 .rw[q]at h2;exact h2.elim
 rw[q]at h2;exact#[ws,k,w,g1,(gW r2 ek),qw,u _ _ h2 _ _ (rh2.put (by rw[g1];trivial) #[_,upd_same,(g2.drop k).mono im]) ((i1.trans i2).trans<|Frm.put<|.inr #[_,hM])<|rw'.mono im]
theorem Kr(ho:DE X B o to)(he:DE X B e te)(hf:DE X B f tf)(m:M2 X o "pop" aaS e f aaR):DE X B (.Call (.Attribute o "pop" aaS) [e,f] [] aaR) (ER to te tf):=by
 refine aT (EF ho he hf m) ?_
 rintro Z H Q ⟨U,M,QQ,s,h,u⟩
 refine#[U,M,_,s,h,λx M1 h1 v1 H1 rh1 i1 r1=>?_];obtain⟨a,rfl,rfl,hd⟩:=Hf rh1 r1 h1.1;refine#[a,rfl,hd,U,M1,_,s.go rh1 i1,h1.2,λy M2 h2 v2 H2 rh2 i2 r2=>?_];refine#[U,M2,_,(s.go rh1 i1).go rh2 i2,h2,λz M3 h3 v3 H3 rh3 i3 r3=>?_];obtain⟨_,e,h3⟩:=h3.inv;cases e;obtain⟨aaP,hM,h3⟩:=h3.inv;obtain⟨k,ek,h3⟩:=h3.inv;obtain⟨ws,g1,g2⟩:=rh3 _ _ hM;have ey:=gW (r2.mf rh2 i3) ek;have im:Imm H3 (upd H3 a<|.dK<|iu ws k):=Imm.upd (by rw[g1];trivial)
 rcases g2.val k with⟨q,qn⟩|⟨d,w,q,qw,rw'⟩
 .rw[q]at h3
  exact#[ws,k,g1,ey,by lia,λ_=>u _ _ h3 _ _ rh3 ((i1.trans i2).trans i3) r3]
 rw[q]at h3;refine#[ws,k,g1,ey,λv ev=>?_,by lia]
 rw[qw]at ev;cases ev;exact u _ _ h3 _ _ (rh3.put (by rw[g1];trivial) #[_,upd_same,(g2.drop k).mono im]) (((i1.trans i2).trans i3).trans<|Frm.put<|by simp_all) (rw'.mono im)
def iG:nc:=λe M Q=>one e λb=>onR b λa=>mK (M a) λc=>∀p,M p=bb->Q (.ref p) (M.upd p<|.dK c)
theorem wx:bu X (.type "dict") (liftC X iG):=by
 rintro aaN s Z H xs us Q I r ⟨ds,M,QQ,rh,rp,h,up⟩
 unfold iG at h
 replace h:=h.inv;obtain⟨w24,rfl,h⟩:=h
 replace h:=h.inv;obtain⟨a,rfl,h⟩:=h
 obtain⟨v,rfl,rv⟩:=fX (ds:=[]) rp;cases rv;obtain⟨aaP,e,h⟩:=h.inv;obtain⟨u,rfl,ru⟩:=r.one;cases ru;obtain⟨ws,h1,h2⟩:=rh _ _ e;exact Ge I (.inl h1) λp s' hp I'=>#[.ref p,_,I',rfl,up _ _ (h p<|rh.fresh hp) _ _ (rh.put (by rw[hp];trivial) #[_,upd_same,h2.mono<|Imm.new hp]) (Frm.put<|.inl hp) rfl]
end _3
namespace _2
open PySem PySem.W PySem.Calls PyProof.Rows PyProof.V PySem.Spec
def isO:Option aC->ay->Bool
 |some k,v=>pc k v
 |none,.none=>true
 |none,_=>cp
theorem dQ(h:isO bb v=true):v=.none:=by cases v<;>first|rfl|cases h
theorem vK(h:Q 4238894112 { s with toks:=s.toks+1 }):cT (eX prog w) A (pyHash .none) Q E s:=by
 have a:s.TypeIs .none "NoneType":=rfl;refine ax ?_;refine cx ?_;refine ax (UF a rfl ?_);refine ax (UF a rfl ?_)
 refine ax (wpAny_callSpecialIfBoundUnlessNone?_slot a XE
  (n7 XE a rfl
   (wpAny_ret_mkInt ?_) rfl))
 exact cx h
theorem wl(h:Q true s):cT (eX prog w) A (eqBool .none .none) Q E s:=by
 exact ax (WP<|wpAny_pure h)
def G8(prog:fx)(w:hG):PySem.KeyKind prog w (Option aC) where
 is:=isO
 hash:=λk=>match k with
  |some k=>Te w k
  |none=>4238894112
 inj:=λv a b g j=>by
  cases a with
  |some a=>
   cases b with
   |some b=>rw[(aU prog w).inj v a b g j]
   |none=>
    cases dQ j;rcases aX g with⟨i,t,_,e⟩|⟨x,t,_,e⟩<;>exact nomatch e
  |none=>
   cases dQ g;cases b with
   |some b=>rcases aX j with⟨i,t,_,e⟩|⟨x,t,_,e⟩<;>exact nomatch e
   |none=>rfl
 byValue:=λk v h=>by
  cases k with
  |some k=>exact(aU prog w).byValue k v h
  |none=>cases dQ h;rfl
 pyHash:=λ{A E s k v Q} c h=>by
  cases k with
  |some k=>exact(aU prog w).pyHash c h
  |none=>cases dQ c;exact vK h
 eqBool:=λ{A E s a b u v Q} f c h=>by
  cases a with
  |some a=>
   cases b with
   |some b=>
    refine (aU prog w).eqBool f c ?_;have:decide (ap a=ap b)=decide (a=b):=decide_eq_decide.mpr #[λe=>by injection e,λe=>by rw[e]]
    rw[this]at h;exact h
   |none=>
    cases dQ c;have e:decide (ap a=bb)=false:=decide_eq_false (λz=>nomatch z);rw[e]at h;rcases aX f with⟨i,t,rfl,rfl⟩|⟨x,t,rfl,rfl⟩
    .exact X7 i t _ _ _ _ h
    .exact X4 x t _ _ _ _ h
  |none=>
   cases dQ f;cases b with
   |some b=>
    have e:decide (bb=ap b)=false:=decide_eq_false (λz=>nomatch z);rw[e]at h;rcases aX c with⟨i,t,rfl,rfl⟩|⟨x,t,rfl,rfl⟩
    .exact X6 i t _ _ _ _ h
    .exact X5 x t _ _ _ _ h
   |none=>
    cases dQ c;exact wl h
 «strs»:=λk x t v h=>by
  cases k with
  |some k=>exact(aU prog w).strs k x t v h
  |none=>cases h
theorem map_none{h:g4}(m:h.MapOf (aU b w) a f):h.MapOf (G8 b w) a (λk=>match k with|some k=>f k|none=>bb):=by
 obtain⟨o,j,r,n,v,y,l,u⟩:=m;refine#[o,j,r,n,v,y,λe g=>?_,λk=>?_]
 .obtain⟨k,c,z⟩:=l e g
  exact#[ap k,c,z]
 cases k with
 |some k=>exact u k
 |none=>
  have:∀e∈j,isO bb e.key=false:=λe g=>by
   obtain⟨k,c,_⟩:=l e g;rcases aX c with⟨i,t,_,q⟩|⟨x,t,_,q⟩<;>rw[q]<;>rfl
  have e:j.find? (λe=>(G8 b w).is bb e.key)=none:=by
   rw[Array.find?_eq_none];intro x p;exact Xq.mp (this x p)
  unfold findBy;rw[e];rfl
theorem Th(I:Inv X aaN Z H s)(e:Rd H a (.dK aaP))(h:∀b,Inv X aaN Z H b->Q (.bool cp) b):cT (eX X.prog X.w) A (kB .In .none<|.ref a) Q E s:=by
 obtain⟨z,f,i,c,g⟩:=iY I.hok e;refine wpAny_in_of (knd:=G8 X.prog X.w) (k:=bb) rfl f (map_none g.mapOf) ?_;exact h _ (I.tok _)
end _2
namespace _3
open PySem _2 _S
def AD(M:Mem)(x y:D):Option Bool:=match x,y with
 |.non,.ref a=>match M a with
  |some (.dK _)=>ap cp
  |_=>bb
 |_,_=>jO M x y
def FY:gh:=λx y M Q=>so (AD M x y) λk=>Q (.bl k) M
theorem JU(q:X.A.units+64<ol):cW X (kB .In) (liftR2 X FY):=by
 rintro f s Z H x y v u Q I b c ⟨n,p,M,QQ,a,j,i,h,g⟩
 unfold FY at h;obtain⟨k,e,h⟩:=h.inv;unfold AD at e
 split at e
 .cases j
  cases i;cases b;cases c
  split at e
  .rename_i m o
   cases e;obtain⟨w,l,z⟩:=a _ _ o;exact Th I (.inl l) λr I'=>#[.bl _,H,I',rfl,g _ M h _ H a Frm.refl rfl]
  cases e
 refine Ie q _ s Z H x y v u Q I b c #[n,p,M,QQ,a,j,i,?_,g];unfold w8;rw[e];exact h
end _3
namespace _2
open PySem PySem.Spec PyProof.Rows
theorem ph:Slot "reversed" "__init__" "object.__init__":=
 .of (owner:="object") (n:="__init__") (by rfl) (by rfl) (by rfl) (by rfl)
  (by trivial) (by kernel_rfl)
theorem ip:Slot "reversed" "__iter__" "reversed.__iter__":=
 .of (owner:="reversed") (n:="__iter__") (by rfl) (by rfl) (by rfl) (by rfl)
  (by trivial) (by kernel_rfl)
theorem di:Slot "reversed" "__next__" "reversed.__next__":=
 .of (owner:="reversed") (n:="__next__") (by rfl) (by rfl) (by rfl) (by rfl)
  (by trivial) (by kernel_rfl)
theorem QG:Manifest.owners.lookup (String.ofList ['d','e','s','r','e','v','e','r'].reverse)=ap Manifest.sig_reversed:=by kernel_rfl
theorem gj:ZB table "reversed.__next__"=ap Builtin.«reversed.__next__»:=PySem.entryFor_of_tree (by kernel_rfl)
theorem pB:ZB table "reversed.__new__"=ap Builtin.«reversed.__new__»:=entryFor_of_tree (by kernel_rfl)
theorem oh:ZB table "reversed.__iter__"=ap Builtin.«dict_keyiterator.__iter__»:=
 entryFor_alias (id':="dict_keyiterator.__iter__") (by kernel_rfl) (by rfl) (by decide +kernel) (by kernel_rfl)
theorem pI(a:ay):ZQ "reversed.__iter__" #[[a],[]]:=by
 kernel_rfl
theorem io(a:ay):ZQ "reversed.__next__" #[[a],[]]:=by
 kernel_rfl
theorem C9:mroOf (.type "reversed")=pure [.type "reversed",.type "object"]:=by rfl
theorem nC:T_ (.type "reversed") "__new__"=pure (ap<|.builtin "reversed.__new__"):=by rfl
theorem xS:TypeCalled "reversed" "reversed.__new__" "object.__init__":=
 #[by rfl,by rfl,#[_,_,C9],madeBy_type C9 nC (by decide +kernel),by decide +kernel,by rfl,ph]
theorem sZ(a:ay):ZW "reversed" #[[a],[]]=pure ():=by kernel_rfl
theorem vh(a:ay):Uf "reversed.__new__" #[[.type "reversed",a],[]]=pure ():=by kernel_rfl
theorem ik(a b:ay):ZQ "object.__init__" #[[a,b],[]]:=by
 kernel_rfl
theorem KG:isSubtype (.type "reversed") (.type "reversed")=pure true:=by rfl
theorem Nx:T_ (.type "tuple") "__reversed__"=pure none:=by rfl
theorem F8:isSubtype (.type "tuple") (.type "dict")=pure false:=by rfl
abbrev qF(h:g4)(z l:cb)(j:Int):Prop:=h.get? z=ap { cls:=.type "reversed",dict:=bb,data:=.fields (Tw [.ref l,.int j 0]),slots:=(Tw []) }
theorem GB{k:Nat}(b:qF s.heap z l k)(n:IsTup s.heap l a)(i:a[k]?=ap x)(o:(k:Int)<2 ^ 63)(hQ:∀h',qF h' z l ((k:Int)-1)->U0 z s.heap h'->Q (ap x) { s with heap:=h',toks:=s.toks+1 }):
  cT (eX prog w) A (G'<|.ref z) Q E s:=by
 have m:s.TypeIs (.ref z) _:=#[_,b,rfl]
 refine ax (J' (wpAny_callSpecial?_slot m di
  (n7 di m gj ?_<|io _)))
 show cT _ _ (field _ 0 >>= _) _ _ s;refine ax (l' b rfl rfl ?_);refine ax (l' b rfl rfl ?_);show cT _ _ (if (k:Int)<0 then _ else _) _ _ _
 refine ax (UF n.typeIs rfl ?_);refine ax (wpAny_mkInt ?_);have g:k<a.size:=by
  rcases Vt k _ with h|h
  .exact h
  .rw[Yp h]at i;cases i
 refine ax (J'<|getItem_tuple n (by lia) o ?_ i ?_)
 .have e:¬((k:Int)<0):=by lia
  simp[aar,g,if_neg e]
 refine ax (l' b rfl rfl ?_);refine ax (ot b (by simp) λj c f=>?_)
 exact cx #[_,rfl,cx<|hQ _ c f]
theorem J2(B:A.handled=bb)(h:qF s.heap z l j)(y:j<0)(C:∀h',WH z s.heap h'->Q bb { s with heap:=h' }):cT (eX prog w) A (G'<|.ref z) Q E s:=by
 have u:s.TypeIs (.ref z) "reversed":=#[_,h,rfl];unfold G'
 refine ax (J' (wpAny_callSpecial?_slot u di
  (n7 di u gj ?_<|io _)))
 show cT _ _ (field (.ref z) 0 >>= _) _ _ s;refine ax (l' h rfl (x:=.ref l) rfl ?_);refine ax (l' h rfl (x:=.int j 0) rfl ?_);show cT _ _ (if j<0 then _ else _) _ _ _
 rw[if_pos y];refine ax (WP ?_);refine ax (ax (ot h (by simp) λp i n=>?_))
 refine ot i (by simp) λg v f=>?_
 refine ax ?_;refine ax ?_;refine ax (m:=aah _ _) (P' (a:=UU) (by rfl) ?_)
 refine p6 ?_ (by size_fits)
 simp only[raiseNew];refine ax (aal ?_);rw[show A.in1.handled=bb from B];refine ax (cx<|wpAny_throw ?_);refine ax (TW (T:="StopIteration") (b:=true) #[_,TF _ rfl,rfl] Y' ?_);refine cx (C _ ?_);have q:WH z s.heap g:=λc o r e=>f.extBut _ _ r (n.extBut _ _ r e);exact(q.push _).push _
theorem vZ(b:qF s.heap z l j)(h:Q (.ref z) s):cT (eX prog w) A (W_<|.ref z) Q E s:=by
 have a:s.TypeIs (.ref z) _:=#[_,b,rfl];exact wpAny_pyIter_slot a ip (n7 ip a oh (cx #[_,rfl,_,_,a,rfl,h])<|pI _)
theorem EG(n:IsTup s.heap l b)(j:(b.size:Int)<2 ^ 63)(h:∀f h',h'.objs.size=s.heap.objs.size+1->qF h' s.heap.objs.size l ((b.size:Int)-1)->(∀c o,s.heap.get? c=ap o->h'.get? c=ap o)->Q (.ref s.heap.objs.size) { s with heap:=h',toks:=f }):
  cT (eX prog w) A (call (.type "reversed") [.ref l]) Q E s:=by
 refine aaB (S:=λ_ R s=>IsTup s.heap l b/\∀f,R (.ok<|.ret<|.ref s.heap.objs.size) { s with heap:=s.heap.push { cls:=.type "reversed",data:=.fields (Tw [.ref l,.int ((b.size:Int)-1) 0]) },toks:=f })
  xS (by decide) (sZ _) (vh _) (λobj=>ik obj _) pB ?_ #[n,λf=>?_]
 .refine .of_wp λprog w A R s h=>?_
  obtain⟨n,h⟩:=h;obtain⟨q,g,d,f,r⟩:=s;have i:=KG;have p:=n.typeIs;unfold Builtin.«reversed.__new__»;refine ax ?_;unfold Builtin.SmallTypes.newClass;refine ax (P' (a:=true) rfl ?_);rw[if_neg (by simp)]
  refine ax (P' i ?_);rw[if_neg (by simp)]
  refine cx ?_;refine ax (m:=specialOf _ _) (UF p Nx ?_);refine ax ?_;refine ax (TW p F8 ?_);rw[if_neg (by simp)]
  refine ax (UF (T:="tuple") p slot_tuple_getitem.lookup ?_);show cT _ _ (if (["tuple.__getitem__","str.__getitem__","bytes.__getitem__","bytearray.__getitem__","memoryview.__getitem__","numpy.ndarray.__getitem__","sqlite3.Row.__getitem__"].contains "tuple.__getitem__")=true then _ else _) _ _ _
  rw[if_pos (by decide)]
  refine cx ?_;refine ax (len_tuple n j ?_);show cT _ _ (newObj (.type "reversed") (.fields (Tw [.ref l,.int ((b.size:Int)-1) 0])) >>= _) _ _ _;refine ax (p6 ?_<|by size_fits)
  exact cx #[_,rfl,h _]
 .exact#[#[_,TF _ rfl,rfl],h f _ (UZ ..) (TF _ rfl) λc o e=>Tv _ e]
noncomputable def Itv(K:TH)(a:cb)(n:Nat):It:=
 #[λi H=>i<n/\∃xs x,ke K H a xs/\xs[n-1-i]?=ap x,λi H x H'=>H'=H/\∀xs,ke K H a xs->xs[n-1-i]?=ap x,λi _=>n<=i]
theorem EM{K:TH}(a f:cb)(n:Nat)(hn:n<2 ^ 63):Turn P w K tg (Itv K a n) [f] f (λi h=>qF h f a ((n:Int)-1-i)) where
 mem:=by simp
 obj:=λi h c b L=>by
  simp_all
 keep:=λi h v c k=>k f (by simp) _ c
 item:=by
  intro X N G C M i g s Z H E I B c q;subst N G C;obtain⟨hi,xs,x,F,J⟩:=q;obtain⟨R,O,p,hz⟩:=I.tuple F;obtain⟨u,Q,S⟩:=O.get J;obtain⟨r,y,T,m,j,A⟩:=B f (by simp)
  have U:n-1-i=((n-1-i:Nat):Int):=by lia
  refine GB (by rw[<- U];exact c) (p) (by simpa using Q) (by lia) λv e Y=>?_
  have I1:Inv X _ Z H { s with heap:=v,toks:=s.toks+1 }:=I.turned (λb o L=>(Y.2 b L).trans) r y m j A;have e2:(((n-1-i:Nat):Int))-1=n-1-(i+1:Nat):=by lia
  rw[e2]at e;exact#[u,rfl,vX e rfl rfl (by decide) #[x,H,I1,S,#[rfl,λys W=>by rw[I.tuple_inj W F];exact J],e,by simp_all]]
 done:=by
  intro X N G C M i g s Z H E I B c q;obtain⟨r,y,T,m,j,A⟩:=B f (by simp)
  have hg':n<=i:=q;exact J2 (I.ok.hd M) c (by lia) λv eb=>#[rfl,I.turned (eb) r y m j A]
 self:=λ_ _ _ _ _ c h=>vZ c h
def iRev(K:TH)(t:TA):TI:=λZ H R=>t Z H λa H1=>∃l xs,a=[.ref l]/\ke K H1 l xs/\R (Itv K l xs.length) H1
theorem Pf:fv "reversed"=ap (.type "reversed"):=by rfl
theorem Ou(F:Gl X "reversed")(L:X.mg "reversed"=bb)(G:PA X [a] o)(J:eH [a] X.env=[(cp,g3 a X.env)]:=by rfl):
  PI X tg (.Call (.Name "reversed" p) [a] [] pos) (iRev X.K o):=by
 intro n s Z H R I h;refine Call_ (df I F L Pf<|UA (bz (G _ _ s Z H _ I h) λP B y=>?_) J rfl);obtain⟨N,H1,I1,C,c⟩:=y;obtain⟨l,j,e,c,q⟩:=c;subst e;obtain⟨Q,rfl,i⟩:=C.one;cases i;obtain⟨g,r,x,w⟩:=I1.tuple c;have m:=r.length;have A:j.length<2 ^ 63:=Nat.lt_of_le_of_lt w (by decide)
 refine EG x (by simp;lia) λu M E f v=>?_
 have I2:Inv X _ Z H1 _:=I1.kept (t':=u) v;refine vZ f ?_;refine#[_,_,_,_,H1,rfl,I2,EM l _ _ (by lia),?_,λb O=>?_,q]
 .have e:g.toArray.size-1=j.length-1-(0:Int):=by simp;lia
  rw[e]at f;exact f
 have e:b=B.heap.objs.size:=by simp_all
 subst e;exact I1.fpOk (TL _) (I1.hok.fresh<|TL _)
end _2
namespace _3
open PySem _2 _S
def OG(t:eJ):wT:=λU M R=>t U M λc M1=>one c λa=>onT a λb=>R #[b.reverse,[]] M1
theorem Qr(G:Gl X "reversed")(L:X.mg "reversed"=bb)(I:DA X B [a] o)(J:eH [a] X.env=[(cp,g3 a X.env)]:=by rfl):
  DI X B tg (.Call (.Name "reversed" p) [a] [] pos) (OG o):=by
 refine gZ (Ou G L I J) ?_
 rintro Z H R ⟨U,M,RR,s,h,E⟩
 refine#[U,M,_,s,h,λds M1 b N H1 l i1 z=>?_]
 replace b:=b.inv;obtain⟨C,rfl,b⟩:=b
 replace b:=b.inv;obtain⟨r,rfl,b⟩:=b
 obtain⟨v,rfl,q,c,rfl,e,n⟩:=fX (ds:=[]) z;have A:=n.length;refine#[q,c,rfl,e.sq,E _ M1 b _ H1 l i1 λi H2 M2 i2 j _=>#[λd m=>?_,λy=>?_]]
 .have u:i<r.length:=by
   rcases Vt i _ with h|h
   .exact h
   simp_all
  rw[List.getElem?_reverse u]at m;obtain⟨w,g,f⟩:=(n.mono i2).get m;rw[A]at g;refine#[#[by simp_all,c,w,(e.mono i2).sq,g],?_]
  rintro x H3 ⟨rfl,F⟩
  have:=F c (e.mono i2).sq;rw[g]at this;cases this;exact#[Frm.refl,j,f]
 show c.length<=i
 simp_all
end _3
namespace _3
open PySem _2
def rf(C:cb)(ta tv:ba)(f:Str):ar:=λD U M=>ta U M λx M1=>onR x λa=>mN (M1 a) λC' fs=>C'=C/\fs.length<1000/\so (fs.lookup f) λb=>onI b λi=>tv U M1 λy M2=>onI y λj=>M2 a=ap (.ins C fs)/\D.nx U (M2.upd a<|.ins C<|bR f (.int (i-j)) fs)
theorem DM(c:Cls X.K C)(n:NoAttr X.K C f)(ha:DE X B o ta)(hv:DE X B value tv):DS X B (.AugAssign (.Attribute o f tpos) .Sub value pos) (rf C ta tv f):=by
 refine ck (qp ha hv On) ?_
 rintro D Z H ⟨U,M,DD,s,h,up⟩
 refine#[U,M,_,s,h,λx M1 h1 v1 H1 rh1 i1 r1=>?_]
 replace h1:=h1.inv;obtain⟨a,rfl,h1⟩:=h1
 cases r1;obtain⟨C',fs,hM,h1⟩:=h1.inv;obtain⟨rfl,hl,h1⟩:=h1;obtain⟨w26,hf,h1⟩:=h1.inv
 replace h1:=h1.inv;obtain⟨i,rfl,h1⟩:=h1
 obtain⟨dx,ws,e1,e2⟩:=rh1 _ _ hM;obtain⟨z,_⟩|⟨d,w,hd,hw,rw1⟩:=e2.lookup f
 .simp_all
 rw[hf]at hd;cases hd;cases rw1;refine#[a,C',dx,ws,_,rfl,e1,c,n,hw,U,M1,_,s.go rh1 i1,h1,λy M2 h2 v2 H2 rh2 i2 r2=>?_]
 replace h2:=h2.inv;obtain⟨j,rfl,h2⟩:=h2
 cases r2;obtain⟨hM2,h2⟩:=h2;obtain⟨dx2,ws2,e3,e4⟩:=rh2 _ _ hM2;have i3:Frm M2 H2 (M2.upd a<|.ins C'<|bR f (.int (i-j)) fs) (upd H2 a<|.ins C' dx2<|_2.dG f (.int (i-j)) ws2):=Frm.put (by simp_all)
 exact#[i,j,rfl,rfl,_,_,e3,by rw[<- e4.length];exact hl,up.nx _ _ h2 Z _ ((i1.trans i2).trans i3)<|s.go (rh2.put (by rw[e3];trivial) #[_,_,upd_same,(jy (by trivial) e4).mono<|i3.imm rh2])<|(i1.trans i2).trans i3]
def m8:A8:=λx a M Q=>onI x λi=>nil0 a (Q (.int ((U5 i:Nat):Int)) M)
theorem xw:xz X "int.bit_length" (liftM X m8):=by
 rintro a s Z H x j v m Q I b c ⟨d,l,M,QQ,e,r,f,h,g⟩
 unfold m8 at h
 replace h:=h.inv;obtain⟨i,rfl,h⟩:=h
 replace h:=h.inv;obtain⟨rfl,h⟩:=h
 cases r;cases f;obtain⟨t,rfl⟩:=b;cases c;exact PyProof.Rows.call_int_bit_length #[.int _,H,I.tok _,#[_,rfl],g _ M h _ H e Frm.refl rfl]
end _3
namespace _3
open PySem _2
section
variable{K:TH}{f:cb}{fd:kc}{ps:aaX}{x aaO:Str}{st:rc}{dv:Int}
theorem fnDV(F:FunV K x aaO st f fd)(S:FnScope N ps (aQ st))
  (p:∀(b:ay)(A:h7)(a:List Env)(s:ca)(H:Hp)(E:XK)(B:Bd)(EE:DX),Room k (A.deeper<|VY aaO (aQ st) s.heap.objs.size f b)->uT K B EE E->
   zf (eY (qI P w) P w K mg base N aaO (aQ st) f b A a s H E) B (bE st) (T EE)):
  FnOk P w K mg base (qI P w) (k+1) f fd ps (bG K ps.length<|aK N T):=by
 obtain⟨v,I,kV,i,z,L,b,y,g,_,rfl,lk,c⟩:=F.ex;refine MJ lk c S (λl H Q E h=>h.1) λA a s H l Q E j e=>?_;obtain⟨G,J,M,QQ,EE,rh,r,o,u,ux⟩:=e;exact#[_,p _ A _ s H E (Bd.of M H) _ j ux.drp,_,M,_,#[Frm.refl,rh,.startN N r],o,#[λU M' q Z H' f m=>u.drp _ M' q _ H' m.rh f rfl,u.drp,λU M' q=>q.elim,λU M' q=>q.elim]]
abbrev OkV(P:fx)(w:hG)(mg:aa4)(base:g4)(_:FunV K x aaO st f fd)(_:Binds K fd ps [])(k:Nat)(S:Sd):Prop:=FnOk P w K mg base (qI P w) k f fd ps (bG K ps.length S)
theorem Ru(g:S=aK N T)(F:FunV K x aaO st f fd)(b:Binds K fd ps [])(e:FnScope N ps (aQ st))
  (i:FnScope N ps (aQ st)->∀(c:ay)(A:h7)(a:List Env)(s:ca)(H:Hp)(E:XK)(B:Bd)(EE:DX),Room k (A.deeper<|VY aaO (aQ st) s.heap.objs.size f c)->uT K B EE E->
   zf (eY (qI P w) P w K mg base N aaO (aQ st) f c A a s H E) B (bE st) (T EE)):OkV P w mg base F b (k+1) S:=by
 subst g;exact fnDV F e (i e)
structure NV(K:TH)(x:Str)(st:rc)(f:cb)(fd:kc)(dv:Int):Prop where
 a:U7 K ff x=ap (ap<|.ref f)
 F:∃(oc:ay)(od:Option cb)(kV doc pm:ay)(an:Option cb)(cdv ct:ay)(osl:Array (Option ay))(T:cb)(ob:Obj)(m:Nat)(t:Tok),
  fd=Wd x x (cz st) (bE st) (aQ st) (.ref T) kV doc pm an cdv ct/\K.lookup f=ap #[oc,od,.func fd,osl]/\XB K cdv x=true/\K.lookup T=ap ob/\ob.data=.seq (Tw [.int dv t]) m
 kp:U8 K (.ref f)=true
theorem SQ{kV:ay}(a:U7 K ff x=ap (ap<|.ref f))
  (l:K.lookup f=ap #[u,s,.func (Wd x x (cz st) (bE st) (aQ st) (.ref T) kV g q r b i),p]) (c:XB K b x=true) (k:U8 K (.ref f)=true)
  (lt:K.lookup T=ap #[j,o,.seq (Tw [.int dv t]) m,e]):NV K x st f (Wd x x (cz st) (bE st) (aQ st) (.ref T) kV g q r b i) dv:=
 #[a,#[u,s,kV,_,q,r,_,i,_,T,_,m,t,rfl,l,c,lt,rfl],k]
abbrev BndV(ps:aaX)(x:Str)(st:rc)(dv:Int):Prop:=∀(kV doc pm:ay)(an:Option cb)(cdv ct:ay)(T:cb)(t:Tok),
 (∀u:ay,∃k,aai (Wd x x (cz st) (bE st) (aQ st) (.ref T) kV doc pm an cdv ct) #[[u],[]]=aaq (.ref T) >>= k/\k (ap (Tw [.int dv t]))=pure (ps.zip [u,.int dv t]))/\
 ∀u v:ay,∃k,aai (Wd x x (cz st) (bE st) (aQ st) (.ref T) kV doc pm an cdv ct) #[[u,v],[]]=aaq (.ref T) >>= k/\k (ap (Tw [.int dv t]))=pure (ps.zip [u,v])
theorem gv(X:K.In h)(G:h.Ns ff mg)(l:NV K x st f fd dv)(H:ps.length=2)(r:BndV ps x st dv):GV K mg x st f fd ps dv:=by
 obtain⟨a,⟨A,y,kV,E,i,p,F,e,z,T,I,m,t,rfl,B,c,lt,q⟩,kp⟩:=l;refine#[#[#[A,y,kV,_,i,p,_,e,_,T,rfl,B,c],kp],λs g KX o=>?_,#[t,λs g KX o=>?_],kp,Wz X G a]
 .rcases g with _|⟨u,_|⟨v,_|_⟩⟩<;>try simp_all
  obtain⟨k,b,j⟩:=(r kV _ i p _ e T t).2 u v;exact W.binds_K KX rfl lt q b j
 rw[Ui,H]at o;rcases g with _|⟨u,_|_⟩<;>try cases o
 obtain⟨k,b,j⟩:=(r kV _ i p _ e T t).1 u;exact W.binds_K KX rfl lt q b j
end
section
variable{dv:Int}
def xD(T:Sd)(EE:DX)(n:Nat)(dv:Int)(t:eJ):ba:=λU M Q=>t U M λa M1=>a.length+1=n/\calls T EE (a++[.int dv]) M1 Q #[]
def JS(X:Cx)(B:Bd)(x:Str)(T:Sd)(EE:DX)(n:Nat)(dv:Int):Prop:=∃(st:rc)(f:cb)(fd:kc)(ps:aaX)(k:Nat)(CX:pv)(E:XK),GV X.K X.mg x st f fd ps dv/\FnOk X.prog X.w X.K X.mg X.base CX k f fd ps (bG X.K n T)/\Room k X.A/\bV CX X E/\uT X.K B EE E
theorem Hz(h:JS X B x T EE n dv)(r:Gl X x)(w:DA X B (e::es) t)(b:(x==("__debug__":Str))=cp)(v:eH (e::es) X.env=(cp,g3 e X.env)::eH es X.env)(c:(j0 pos<|starEach es X.env).any (·.1)=cp):
  DE X B (.Call (.Name x p) (e::es) [] pos) (xD T EE n dv t):=by
 obtain⟨_,_,_,_,_,_,_,h,F,l,o,ux⟩:=h;obtain⟨j,q⟩:=h.d;refine aT (yX F l r h.m h.k q (dvs:=[.int dv]) (.cons #[j,rfl] .nil) o w b v c) ?_
 rintro Z H Q ⟨U,M,QQ,s,h,u⟩
 exact#[U,M,_,s,h,λz M1 g y H1 a i1 i=>de g.2 a (i.append<|.cons rfl .nil) (by rw[Ui,<- i.length];exact g.1) (u.go i1) ((s.ux ux).go i1)]
end
end _3
namespace _2
open PySem PySem.Spec PyProof.Rows
section
variable{id:String}
def yK(X:Cx)(f:ay)(kn:Str)(k:ay)(r:List V->Hp->VK->Prop):Prop:=
 ∀(aaN:aa3)(s:ca)(Z:St)(H:Hp)(xs:List V)(us:aaY)(Q:VK),Inv X aaN Z H s->Vals xs us->r xs H Q->
  cT (eX X.prog X.w) X.A (call f us [(kn,k)]) (EP X aaN Z Q) X.xe s
theorem Dd(hc:yK X (.builtin id) kn k r)(n:Gl X x)(q:X.mg x=bb)(u:fv x=ap (.builtin id))(b:Gl X y)(a:X.mg y=bb)(c:fv y=ap k)(o:PA X (e::es) t)(v:x≠"__name__":=by decide)(hdb:(x==("__debug__":Str))=false:=by decide)
  (hn2:y≠"__name__":=by decide) (hdb2:(y==("__debug__":Str))=false:=by decide)
  (he:j0 pos (eH (e::es) X.env)=(cp,g3 e X.env)::j0 pos (eH es X.env):=by rfl) (hpl:(j0 pos<|starEach (e::es) X.env).any (·.1)=false:=by rfl):PE X (.Call (.Name x p) (e::es) [#[ap kn,.Name y yp,kp]] pos) (tCB r t):=by
 intro f s Z H Q I h;exact pa (df I n q u (callWith_kw (bz (o _ _ s Z H _ I h)<|by rintro g l ⟨j,H1,I1,m,i⟩;exact(kws_cons<|df I1 b a c (kws_nil<|hc _ l Z H1 j g Q I1 m i) hn2 hdb2)) he hpl) v hdb)
end
end _2
namespace _3
open PySem _2 PyProof.Rows
section
variable{id:String}
theorem Eb(f:yK X (.builtin id) kn k (liftC X r))(g:Gl X x)(j:X.mg x=bb)(l:fv x=ap (.builtin id))(b:Gl X y)(a:X.mg y=bb)(c:fv y=ap k)(i:DA X B (e::es) t)(m:x≠"__name__":=by decide)(hdb:(x==("__debug__":Str))=false:=by decide)
  (hn2:y≠"__name__":=by decide) (hdb2:(y==("__debug__":Str))=false:=by decide)
  (he:j0 pos (eH (e::es) X.env)=(cp,g3 e X.env)::j0 pos (eH es X.env):=by rfl) (hpl:(j0 pos<|starEach (e::es) X.env).any (·.1)=false:=by rfl):DE X B (.Call (.Name x p) (e::es) [#[ap kn,.Name y yp,kp]] pos) (bc r t):=
 aT (Dd f g j l b a c i m hdb hn2 hdb2 he hpl) λ_ _ _ h=>uq h
end
end _3
namespace _S
open PySem PySem.W PySem.Calls PyProof.Rows PyProof.V PySem.Spec
theorem E9(b:s.TypeIs (.ref d) "dict")(e:(d==q0)=cp)(c:s.heap.get? d=ap od)(a:od.data=.dict es ep)
  (f:Q (.ref s.heap.objs.size) { s with heap:=s.heap.push { cls:=.type "dict_keyiterator",data:=.fields (Tw [.ref d,.int 0 0,.int es.size 0,.int ep 0]) } }):cT (eX prog w) A (W_<|.ref d) Q E s:=by
 refine wpAny_pyIter_slot b F.slot_dict_iter (n7 F.slot_dict_iter b F.entry_dict_iter ?_<|F.args_dict_iter_1 _);refine ax ?_;refine ax (wpAny_notOrdered_dict b ?_);refine cx ?_;show cT _ _ (XG d >>= _) _ _ s;unfold XG;rw[if_neg (by rw[e];exact Wx)]
 refine ax (cx ?_);refine ax (wpAny_dictEntries c a ?_);refine ax (wpAny_dictEpoch c a ?_);refine ax (p6<|wpAny_pure #[_,rfl,_,_,#[_,TF _ rfl,rfl],rfl,?_])
 assumption
theorem DF(a:s.heap.IsKeyIter it d i n ep)(c:s.heap.get? d=ap od)(e:od.data=.dict es ep)(l:es.size=n)(h:i<es.size)
  (hQ:∀h',h'.IsKeyIter it d (i+1) n ep->U0 it s.heap h'->Q (ap es[i].key) { s with heap:=h' }):cT (eX prog w) A (G'<|.ref it) Q E s:=by
 obtain⟨o,g,j,f⟩:=id a;unfold G';refine ax (J'<|wpAny_callSpecial?_slot a.typeIs Vx<|wpAny_call_entry Vx a.typeIs XW (ax<|wpAny_pure<|wpAny_bind<|wpAny_bind ?_)<|XR _);refine ax (aaa a.typeIs<|wpAny_pure<|wpAny_bind<|wpAny_fieldsOf g f ?_);refine ax (cx<|wpAny_bind<|wpAny_dictEntries c e ?_);rw[if_neg (by rw[l];simp)]
 refine ax (cx<|wpAny_bind<|wpAny_dictEpoch c e ?_);rw[if_neg (by simp)]
 refine cx ?_;simp only[if_false,Ua,X3 h];refine ax (ax<|wpAny_typeNameOfWhole_keyiter a.typeIs<|wpAny_pure ?_);refine ax (aaD a.typeIs ?_);show cT _ _ (setField (.ref it) 1 (z4 ((i:Int)+1)) >>= _) _ _ s;refine ax (aae g f (by simp) ?_)
 have b:(s.heap.update it<|Obj.mapFields (·.setIfInBounds 1 (z4 ((i:Int)+1)))).IsKeyIter it d (i+1) n ep:=
  #[_,US _ g (YB<|WA f _),(Obj.cls_mapFields ..).trans j,by rw[WA f];simp[z4]]
 refine ax (kL ?_);refine ax (aaD b.typeIs ?_);exact cx (cx #[_,rfl,cx<|hQ _ b<|U4 ..])
theorem Eu(l:A.handled=bb)(c:s.heap.IsKeyIter it d i n ep)(e:s.heap.get? d=ap od)(f:od.data=.dict es ep)(p:es.size=n)(g:es.size<=i)
  (q:∀h',WH it s.heap h'->Q bb { s with heap:=h' }):cT (eX prog w) A (G'<|.ref it) Q E s:=by
 obtain⟨o,h,r,j⟩:=id c;unfold G';refine ax (J'<|wpAny_callSpecial?_slot (name:=VW "__next__") c.typeIs Vx<|wpAny_call_entry Vx c.typeIs XW (ax<|wpAny_pure<|wpAny_bind<|wpAny_bind ?_)<|XR _);refine ax (aaa c.typeIs<|wpAny_pure<|wpAny_bind<|wpAny_fieldsOf h j ?_);refine ax (cx<|wpAny_bind<|wpAny_dictEntries e f ?_);rw[if_neg (by rw[p];simp)]
 refine ax (cx<|wpAny_bind<|wpAny_dictEpoch e f ?_);rw[if_neg (by simp)]
 refine cx ?_;simp only[show ¬((i:Int)<0) from by lia,if_false,Ua,Yp g]
 refine ax (ax<|wpAny_typeNameOfWhole_keyiter c.typeIs<|wpAny_pure ?_);show cT _ _ (setField (.ref it) 0 .none >>= _) _ _ s;refine ax (aae h j (by simp) ?_)
 simp only[newExc,newTuple];refine ax (ax<|wpAny_newObj_type ?_<|by size_fits)
 refine ax (m:=aah _ _) (P' (a:=UU) (by rfl)<|wpAny_newObj_type ?_<|by size_fits)
 simp only[raiseNew];refine ax (aal ?_);rw[show A.in1.handled=bb from l];refine ax (cx<|wpAny_throw<|wpAny_bind ?_);refine TW (T:="StopIteration") (b:=true) #[_,TF _ rfl,rfl] Y' (cx ?_);exact q _ (((U4 ..).extBut.push _).push _)
end _S
namespace _2
open PySem PySem.Spec PyProof.Rows _S
noncomputable def Itf(d:cb)(od:Obj)(aaP:List (List aC×V)):It:=
 #[λi H=>H d=ap (.frz od<|.dT aaP)/\i<aaP.length,
  λi H v H'=>H'=H/\∃ks x b,aaP[i]?=ap (ks,x)/\H b=ap (.tup<|ks.map kV)/\v=.ref b,
  λi H=>H d=ap (.frz od<|.dT aaP)/\aaP.length<=i]
theorem Da{K:TH}(d f:cb)(hd:J.data=.dict es M)(L:es.size=aaP.length):
  Turn P w K tg (Itf d J aaP) [f] f (λi h=>h.IsKeyIter f d i aaP.length M) where
 mem:=by simp
 obj:=λi h a b F=>by
  have e:b=f:=by simp_all
  obtain⟨o,e,c,d⟩:=a
  simp_all
 keep:=λi h A a k=>a.at λo e=>k f (by simp) o e
 item:=by
  intro X U T O G i g s Z H E I z a p;obtain⟨e,R⟩:=p;obtain⟨v,Q,r,B⟩:=I.frzT e hd;have C:aaP[i]?=ap (aaP[i].1,aaP[i].2):=by simp_all
  obtain⟨b,u,e1,Y,e3⟩:=r.at C;have l:i<es.size:=by simp_all
  have ee:es[i]=entryOfKey (Z7<|aU X.prog X.w) (aaP[i].1,b,u):=by
   have:=entry_at B i;rw[X3 l]at this
   simp_all
  have N:es[i].key=.ref b:=by rw[ee];rfl
  obtain⟨q,x,S,n,m,y⟩:=z f (by simp)
  refine DF a v hd L l λA j W=>?_;rw[N];have I1:Inv X _ Z H _:=I.turned (t':=s.toks) (λb o F=>(W.2 b F).trans) q x n m y;obtain⟨o,e,c,d⟩:=id j;exact#[_,rfl,vX e c d (by decide) #[.ref b,H,I1,rfl,#[rfl,_,_,b,C,Y,rfl],j,by simp_all]]
 done:=by
  intro X U T O G i g s Z H E I z a p;obtain⟨e,R⟩:=p;obtain⟨v,Q,r,B⟩:=I.frzT e hd;obtain⟨q,x,S,n,m,y⟩:=z f (by simp)
  exact Eu (I.ok.hd G) a v hd L (by simp_all) λA eb=>#[rfl,I.turned (eb) q x n m y]
 self:=λ_ _ _ _ _ a h=>wpAny_pyIter_keyiter a h
def Rj(to:TE):TI:=λZ H R=>to Z H λx H1=>∃a od aaP,x=.ref a/\H1 a=ap (.frz od<|.dT aaP)/\R (Itf a od aaP) H1
theorem Jb(C:PE X o to):PI X E o (Rj to):=by
 intro g s Z H R I h;refine bz (C _ s Z H _ I h) λv w m=>?_;obtain⟨x,H1,I1,u,a,F,f,A,e,q⟩:=m;subst A;cases u;obtain⟨c,z,y,G,r,J,p,L,j,B,i,n,M⟩:=(I1.hok a _ e);rw[c]at j;cases j;have l:p.size=f.length:=by rw[<- Ve,n,Tz,<- Vk r]
 refine E9 #[_,c,B.1] y c i ?_;refine#[_,_,_,_,H1,rfl,I1.kept λb o=>Tv _,Da a _ i l,#[_,TF _ rfl,rfl,by rw[l];rfl],λb K=>?_,q]
 have e:b=w.heap.objs.size:=by simp_all
 exact I1.fpOk (by lia) (I1.hok.fresh<|by lia)
end _2
namespace _3
open PySem _2 _S
noncomputable def Gb(ks:List aC):D:=.tup (ks.map λk=>match k with|.inl i=>D.int i|.inr x=>D.str x)
def C8(to:ba):wT:=λU M R=>to U M λd M1=>onF d λa _=>R #[a.map Gb,[]] M1
theorem JY(E:DE X B o to):DI X B F o (C8 to):=by
 refine gZ (Jb E) ?_
 rintro Z H R ⟨U,M,RR,s,h,C⟩
 refine#[U,M,_,s,h,λd M1 l v H1 n i1 u=>?_];obtain⟨f,I,rfl,l⟩:=l.inv;obtain⟨a,A,rfl,⟨J,x,e⟩,G⟩:=u;have p:(f.zip A).length=f.length:=by simp_all
 refine#[a,x,_,rfl,e,C _ _ l _ _ n i1 λi H2 M2 i2 m _=>#[λd q=>?_,λg=>?_]]
 .rw[TJ]at q
  obtain⟨k,r,rfl⟩:=UR.mp q;refine#[#[i2.frz _ _ _ e,by rw[p];exact(UC.mp r).1],?_]
  rintro y H3 ⟨rfl,j,K,b,z,w,rfl⟩
  have c:f[i]?=ap j:=(VI.mp z).1;rw[r]at c;cases c;exact#[Frm.refl,m,b,_,rfl,w,qU k]
 exact#[i2.frz _ _ _ e,by rw[p];simpa using g]
def Hc(d:D)(M:Mem)(Q:DK):Prop:=onR d λa=>mT (M a) λaaP=>Q (.fd (aaP.map (·.1))<|aaP.map (·.2)) (M.del a)
def G6(t:ba):ba:=λU M Q=>t U M λd M'=>Hc d M' Q
theorem BE:∀{aaP:List (List aC×D)}{ws:List (List aC×V)},Rkv K H aaP ws->ws=(aaP.map (·.1)).zip (ws.map (·.2))/\Rps K H (aaP.map (·.2)) (ws.map (·.2))/\aaP.length=ws.length
 |_,_,.nil=>#[rfl,rfl,rfl]
 |_,_,.cons h t=>by
  obtain⟨b,c,a⟩:=BE t;refine#[?_,.cons h.2 c,by simp[a]]
  simp only[TB,YW];rw[<- b,h.1]
theorem B8:∀{ks:List (List aC)}{xs:List D}{vs:List V},Rps K H xs vs->Rkv K H (ks.zip xs) (ks.zip vs)
 |[],_,_,_=>by exact .nil
 |k::ks,[],_,h=>by cases h;exact .nil
 |k::ks,x::xs,_,h=>by
  obtain⟨v,r,rfl,a,b⟩:=h;exact .cons #[rfl,a] (B8 b)
theorem IQ(h:DE X B e te):DE X B e (G6 te):=by
 rintro f s Z H Q I ⟨U,M,QQ,n,x,u⟩
 refine bz (h _ s Z H (λv H'=>∃d M',RepH _ H' M'/\Frm M H M' H'/\Rp _ H' d v/\Hc d M' QQ) I #[U,M,_,n,x,λd M' q v H' b i r=>#[d,M',b,i,r,q]]) ?_
 rintro w A ⟨v,H',I',g,d,M',b,i,r,q⟩
 unfold Hc at q
 replace q:=q.inv;obtain⟨a,rfl,q⟩:=q
 obtain⟨m,e,q⟩:=q.inv;obtain⟨C,c,y⟩:=b _ _ e;obtain⟨o,E,z,_,_,_,_,I2⟩:=I'.freezeT c;refine#[v,_,I2,g,u _ _ q v _ (b.freezeT c) (i.trans<|Frm.del #[_,e]) ?_];obtain⟨p,j,l⟩:=BE y;exact#[a,_,r,#[by simp[l],o,by rw[<- p];exact upd_same],j.mono<|Imm.upd<|by rw[c];trivial]
def vW:gh:=λx y M Q=>onF x λb a=>so (Dz y) λk=>so (cJ (b.zip a) k) λd=>Q d M
theorem RF(G:X.A.units+1<ol):IxR X (liftR2 X vW):=by
 intro f g i s Z H x y v u Q I n r h z;obtain⟨N,O,M,QQ,o,m,F,h,C⟩:=h;unfold vW at h
 replace h:=h.inv;obtain⟨ks,J,rfl,h⟩:=h
 obtain⟨k,l,h⟩:=h.inv;obtain⟨d,p,h⟩:=h.inv;obtain⟨a,L,rfl,⟨K,q,e⟩,j⟩:=m;obtain⟨b,rfl,E⟩:=nT F l;rcases (B8 (ks:=ks) j).val k with⟨c,_⟩|⟨d',w,c,e2,r'⟩
 .simp_all
 rw[p]at c;cases c;exact Bu G _ _ _ s Z H _ _ v u Q I n r #[a,w,rfl,.inr #[_,k,b,.inr #[q,e],rfl,E,e2.symm],C _ M h _ H o Frm.refl r'] z
end _3
namespace _3
open PySem _2
theorem dJ:∀{c:aaW}{aaT:aaY},Vals (c.map V.int) aaT->∀(m:Nat)(e:m<aaT.length),∃i t,c[m]?=ap i/\aaT[m]=.int i t
 |[],_,r,m,e=>by cases r;simp at e
 |i::c,_,r,m,e=>by
  cases r with
  |cons a b=>
   obtain⟨t,rfl⟩:=a;cases m with
   |zero=>simp_all
   |succ m=>
    obtain⟨j,g,f,h⟩:=dJ b m (by simp_all)
    simp_all
def iU:A8:=λx e M Q=>onT x λc=>one e λa=>onI a λz=>so (fh c) λb=>b.length<=1000/\so (b.findIdx? λy=>decide (y=z)) λj=>Q (.int (j:Nat)) M
theorem xP:xz X "tuple.index" (liftM X iU):=by
 rintro l s Z H x vs v us Q I L C ⟨d,ds,M,QQ,N,r,G,h,R⟩
 unfold iU at h
 replace h:=h.inv;obtain⟨Y,rfl,h⟩:=h
 replace h:=h.inv;obtain⟨P,rfl,h⟩:=h
 replace h:=h.inv;obtain⟨z,rfl,h⟩:=h
 obtain⟨p,ws,rfl,U,r⟩:=r;obtain⟨w,rfl,b⟩:=fX (ds:=[]) G;cases b;obtain⟨W,K,h⟩:=h.inv;obtain⟨q,h⟩:=h;obtain⟨j,i,h⟩:=h.inv;have:=jf r K;subst this;rw[Xl]at i;obtain⟨E,e1,S⟩:=i;cases L;obtain⟨u,rfl,J⟩:=C.one;obtain⟨t,rfl⟩:=J;obtain⟨F,n,T,r,e⟩:=I.tupD U;have q:=r.length;rw[Tz]at q
 refine ra VG #[_,e,rfl] XI (XF _ _)
  (k9 p _ n _ T _ (λv=>match v with|.int y _=>y==z|_=>cp) (λy O=>?_) j (by rw[TZ];lia) ?_ λm f c=>?_) #[e,?_]
 .obtain⟨m,f,rfl⟩:=Wl (by simpa using O)
  obtain⟨o,A,a,g⟩:=dJ r m f;rw[g];exact YC _ _ _ _
 .obtain⟨o,A,a,g⟩:=dJ r j (by lia)
  rw[Tx E]at a
  simp_all
 .obtain⟨o,A,a,g⟩:=dJ r m (by exact f)
  have h3:=S m c;rw[Tx (by lia)]at a
  simp_all
 exact#[.int j,H,I.tok _,#[_,rfl],R _ M h _ H N Frm.refl rfl]
end _3
namespace _S
open PySem PySem.W PyProof.Rows
open PySem.AutoSeq1 (wpAny_loadPart')
open PySem.MeetsSeq PySem.MeetsSeq2 PySem.MeetsSeq3
variable{h:g4}{vs:aaY}
theorem g_{us:aaY}(h:L' (us.drop i) (x::xs)):∃(hi:i<us.length)(t:Tok),us[i]=.int x t/\L' (us.drop (i+1)) xs:=by
 have hi:i<us.length:=by
  rcases Vt i _ with z|z
  .exact z
  rw[VU z]at h;cases h
 rw[VJ hi]at h;generalize a:us[i]=v at h;cases h with
 |cons _ t r=>exact#[hi,t,a,r]
theorem jT{us:aaY}(h:L' (us.drop i) []):us.length<=i:=by
 generalize e:us.drop i=l at h;cases h
 simp_all
theorem zD(l b:cb)(us vs:aaY)(n F:Nat)(dd p:Option cb)(G q:Array (Option ay)):∀(xs ys:aaW)(i:Nat),i<=us.length->i<=vs.length->L' (us.drop i) xs->L' (vs.drop i) ys->aab (Builtin.«list.__eq__.loop» #[[.ref l,.ref b,z4 i,z4 0],[]])
   (λA R s=>s.heap.get? l=ap { cls:=.type "list",dict:=dd,data:=.seq us.toArray n,slots:=G }/\s.heap.get? b=ap { cls:=.type "list",dict:=p,data:=.seq vs.toArray F,slots:=q }/\R (.ok<|.ret<|.bool<|g9 xs ys) s)
 |[],ys,i,hi,hj,h1,h2=>by
  intro f w A R s h;obtain⟨B,g,d,v,C⟩:=s;obtain⟨o,j,h⟩:=h;have K:=jT h1
  wp_walk using f' o,f' j
  have a:us.toArray[((i:Nat):Int).toNat]?=none:=by simp;lia
  rw[a]
  wp_walk using f' o,f' j
  show R (.ok<|.ret<|.bool<|decide (us.toArray.size<vs.toArray.size)) _;have e:decide (us.toArray.size<vs.toArray.size)=g9 [] ys:=by
   cases ys with
   |nil=>
    have:=jT h2;simp[g9];lia
   |cons y ys=>
    obtain⟨u,_⟩:=g_ h2;simp[g9];lia
  rw[e];exact h
 |x::xs,[],i,hi,hj,h1,h2=>by
  intro f w A R s h;obtain⟨B,g,d,v,C⟩:=s;obtain⟨o,j,h⟩:=h;have L:=jT h2;obtain⟨r,t,z,E⟩:=g_ h1
  wp_walk using f' o,f' j
  have a:us.toArray[((i:Nat):Int).toNat]?=ap us[i]:=by simp[r]
  have m:vs.toArray[((i:Nat):Int).toNat]?=none:=by simp;lia
  rw[a,m]
  wp_walk using f' o,f' j
  show R (.ok<|.ret<|.bool<|decide (us.toArray.size<vs.toArray.size)) _;have e:decide (us.toArray.size<vs.toArray.size)=g9 (x::xs) []:=by simp[g9];lia
  rw[e];exact h
 |x::xs,y::ys,i,hi,hj,h1,h2=>by
  intro f w A R s h;obtain⟨B,g,d,v,C⟩:=s;obtain⟨o,j,h⟩:=h;obtain⟨r,t,z,E⟩:=g_ h1;obtain⟨u,t2,H,J⟩:=g_ h2
  wp_walk using f' o,f' j
  have a:us.toArray[((i:Nat):Int).toNat]?=ap (.int x t):=by simp[r,z]
  have m:vs.toArray[((i:Nat):Int).toNat]?=ap (.int y t2):=by simp[u,H]
  have I:((i:Int)+1)=((i+1:Nat):Int):=by push_cast;rfl
  rw[a,m];refine ax (wpAny_eqBool_int ?_);unfold g9 at h
  by_cases c:x=y
  .rw[if_pos c]at h
   rw[show (x==y)=true from by simp[c]]
   wp_walk
   rw[I];exact#[pt plain_eq_loop _,om entry_eq_loop (by
    rw[UW plain_eq_loop _];exact zD l b us vs n F dd p G q xs ys (i+1) r u E J f w A R _ #[o,j,h])]
  .rw[if_neg c]at h
   rw[show (x==y)=cp from by simp[c]]
   wp_walk using f' o,f' j
   rw[a,m];refine ax (wpAny_lt_int ?_)
   wp_walk
   exact h
theorem zX(l b:cb)(us vs:aaY)(n i:Nat)(dd e:Option cb)(j c:Array (Option ay))(xs ys:aaW)(m:L' us xs)(o:L' vs ys):aab (Builtin.«list.__lt__» #[[.ref l,.ref b],[]])
   (λA R s=>s.heap.get? l=ap { cls:=.type "list",dict:=dd,data:=.seq us.toArray n,slots:=j }/\s.heap.get? b=ap { cls:=.type "list",dict:=e,data:=.seq vs.toArray i,slots:=c }/\R (.ok<|.ret<|.bool<|g9 xs ys) s):=by
 intro a w A R s h;obtain⟨f,g,h⟩:=h;have p:=PySem.AutoSeq1.sub_list_list
 wp_walk using f' f,f' g
 exact#[pt plain_eq_loop _,om entry_eq_loop (by
  exact zD l b us vs n i dd e j c xs ys 0 (U2 _) (U2 _) m o a w A R _ #[f,g,h])]
inductive LstsAt(h:g4):List ay->List (List Int)->Prop
 |nil:LstsAt h [] []
 |cons {a:cb} {o:Obj} {us:aaY} {n:Nat} {k:aaW} {vs:aaY} {ks:aaV} (ho:h.get? a=ap o) (hc:o.cls=.type "list") (hd:o.data=.seq us.toArray n) (hi:L' us k) (r:LstsAt h vs ks):LstsAt h (.ref a::vs) (k::ks)
theorem LstsAt.keep(t:LstsAt h vs ks)(k:∀b o,.ref b∈vs->h.get? b=ap o->h'.get? b=ap o):LstsAt h' vs ks:=by
 induction t with
 |nil=>exact .nil
 |cons ho hc hd hi r ih=>exact .cons (k _ _ (by simp) ho) hc hd hi (ih λb o a=>k b o (TV _ a))
theorem LstsAt.len(t:LstsAt h vs ks):ks.length=vs.length:=by
 induction t<;>simp_all
theorem LstsAt.at{h:g4}{vs:aaY}(t:LstsAt h vs ks):∀i,i<vs.length->∃a o us n,vs.getD i UU=.ref a/\h.get? a=ap o/\o.cls=.type "list"/\o.data=.seq (VD us) n/\L' us (ks.getD i []):=by
 induction t with
 |nil=>intro i b;simp at b
 |@cons a o us n k vs ks ho hc hd b r ih=>
  intro i l;cases i with
  |zero=>exact#[a,o,us,n,rfl,ho,hc,hd,b]
  |succ i=>
   obtain⟨j,g,c,f,e,q⟩:=ih i (by simp_all)
   exact#[j,g,_,f,by simpa using e,by simpa using q]
theorem LstsAt.there(t:LstsAt h vs ks):∀v∈vs,∃a o,v=.ref a/\h.get? a=ap o/\o.cls=.type "list":=by
 induction t with
 |nil=>simp_all
 |cons ho hc hd hi r ih=>
  intro v hv;rcases TK.mp hv with rfl|hv
  .exact#[_,_,rfl,ho,hc]
  exact ih v hv
theorem DC(K:A.units<ol)(t:LstsAt s.heap vs ks):pG vs.length (rk ks) (kas_ask prog w A oneType' vs) s:=by
 intro i j g l C h;obtain⟨a,o,x,n,m,e,v,r,J⟩:=t.at i g;obtain⟨u,p,y,G,B,b,f,c,F⟩:=t.at j l;rw[Lz (by rw[t.len];exact g)]at h
 unfold kas_ask;rw[m,B];obtain⟨N,M,L,O⟩:=o;obtain⟨q,z,I,H⟩:=p;subst v r f c;refine ax (wpAny_cRoomFor K ?_);refine ax (wpAny_callSpecialIfBound?_slot #[_,e,rfl] V2<|call_meets V2 #[_,e,rfl] Yi (Ya _ _) (zX a u x _ n G _ _ _ _ _ _ J F) #[e,b,?_]);exact z5 h
theorem mS(H:s.heap.get? a=ap (aag "list" vs.toArray n))(X:A.units<ol)(Y:LstsAt s.heap vs ks)(I:∀b,Ul b∈vs->b≠a)(F:vs.length<64)(h:∀p:Array Nat,Pm vs.length p->SU (rk ks) p vs.length->P (.done<|.ret .none) { s with heap:=sortedHeap s.heap a vs (VD (p.toList.map λi=>vs.getD i UU)) }):
  cT (eX prog w) A (Builtin.«list.sort» #[[.ref a],[]]) P E s:=by
 rw[list_sort_plain];refine ax (listItems_at H rfl ?_);refine ax (aao H rfl ?_ (by rw[TZ,z6];lia)<|U2 _)
 obtain⟨y,r⟩:∃y,(s.heap.update a (Vc λ_=>(Tw []))).get? a=ap (aag "list" (Tw []) y):=#[_,get?_update_seq H λ_=>(Tw [])];refine ax (seqEpoch_at r rfl ?_);refine ax (S' ?_<|by show vs.length<=_;rw[z6];lia)
 refine ax (wpAny_newList ?_<|U2 _);refine kL ?_;have N:∀b o,b≠a->s.heap.get? b=ap o->(((s.heap.update a (Vc λ_=>(Tw []))).push<|seqObj "tuple" vs.toArray 0).push<|seqObj "list" (Tw []) 0).get? b=ap o:=λb o B e=>
  Tv _ (Tv _<|(U4 ..).extBut b o B e)
 have f:(((s.heap.update a (Vc λ_=>(Tw []))).push<|seqObj "tuple" vs.toArray 0).push<|seqObj "list" (Tw []) 0).get? a=ap (aag "list" (Tw []) y):=Tv _ (Tv _ r);have q:=Y.keep λb o B e=>N b o (I b B) e;show cT (eX prog w) A _ P E { s with heap:=((s.heap.update a (Vc λ_=>(Tw []))).push<|seqObj "tuple" vs.toArray 0).push (aag "list" (Tw []) 0) };dsimp only;have W:vs.toArray.size=vs.length:=by simp
 by_cases g:vs.toArray.size<2
 .rw[if_pos g,if_pos g]
  refine ax (cx ?_);rw[StateT.run_pure];refine ax (cx ?_);dsimp only;refine ax (seqEpoch_at f rfl ?_);have K:(arrOf<|SortSt.mk' general' (vs.toArray.zip vs.toArray) (Tw []) 7 bb).map (·.2)=VD ((VD<|Ub vs.length).toList.map λi=>vs.getD i UU):=by
   apply Array.toList_inj.mp;rw[Array.toList_map,Array.toList_zip,List.map_snd_zip (TL _)];refine XA (by simp) λi J g=>?_
   simp at J;simp[J]
  refine ax (aao f rfl ?_ (U2 _)<|by rw[K];simp;rw[z6];lia)
  simp only[bne_self_eq_false,Ue,if_false];refine cx ?_;rw[K];refine h _ vN λi j M Z=>?_;have:i=j:=by lia
  rw[this];exact TL _
 .rw[if_neg g,if_neg g]
  refine ax (kas_kind (T:=.type "list") (by simpa using g) (λv O=>?_) (by decide) rfl ?_)
  .obtain⟨a',o,rfl,x,S⟩:=q.there v O
   rw[<- S];exact(Looks.ld x).andThen .now
  refine ax (k6 (kat_run (Q:=λc l=>∃p:Array Nat,arrOf c=p.map _/\failedOf c=bb/\l={ s with heap:=((s.heap.update a (Vc λ_=>(Tw []))).push<|seqObj "tuple" vs.toArray 0).push (aag "list" (Tw []) 0) }/\Pm vs.length p/\SU (rk ks) p vs.length)
   (G:=λp l=>l={ s with heap:=((s.heap.update a (Vc λ_=>(Tw []))).push<|seqObj "tuple" vs.toArray 0).push (aag "list" (Tw []) 0) }/\Pm vs.length p/\SU (rk ks) p vs.length) rfl (by lia) F
   (λU c l a1 R L C=>#[U,R,L,C.1,C.2.1,C.2.2]) (KJ (DC X q) (by lia) λp u z=>#[rfl,u,z])) ?_ λ_ _ e=>e)
  rintro⟨⟨⟩,c⟩ l ⟨p,har,hf,rfl,u,z⟩
  dsimp only;have m:=kat_snds rfl har;rw[m];refine ax (seqEpoch_at f rfl ?_);refine ax (aao f rfl ?_ (U2 _)<|by have:=u.size;simp;rw[this,z6];lia)
  rw[hf];simp only[bne_self_eq_false,Ue,if_false];exact cx (h p u z)
theorem wC(v:s.heap.IsList l vs.toArray)(y:A.units+2<ol)(m:LstsAt s.heap vs ks)(j:vs.length<64)(h:∀p:Array Nat,Pm vs.length p->SU (rk ks) p vs.length->Q (.ref (s.heap.objs.size+1)) { s with heap:=sortedAll s.heap vs (VD (p.toList.map λi=>vs.getD i UU)) }):
  cT (eX prog w) A (call (.builtin "sorted") [.ref l]) Q E s:=by
 refine Calls.call_function_entry kind_sorted plain_sorted entry_sorted (args_sorted1 _) ?_;refine ax (cx ?_);refine ax (collect_list v ?_<|by rw[z6];lia)
 refine ax (wpAny_newList ?_<|by rw[z6];lia)
 have c:((s.heap.push<|seqObj "list" (Tw []) 0).update s.heap.objs.size<|Vc (·++vs.toArray)).objs.size=s.heap.objs.size+1:=by
  simp_all
 have a:(((s.heap.push<|seqObj "list" (Tw []) 0).update s.heap.objs.size<|Vc (·++vs.toArray)).push<|seqObj "list" vs.toArray 0).get? (s.heap.objs.size+1)=ap (aag "list" vs.toArray 0):=by
  rw[<- c];exact TF _ rfl
 have q:LstsAt (((s.heap.push<|seqObj "list" (Tw []) 0).update _<|Vc (·++vs.toArray)).push<|seqObj "list" vs.toArray 0) vs ks:=m.keep λb o _ e=>
  Tv _ ((U4 ..).extBut b o (TX<|TC e)<|Tv _ e)
 rw[c];have g:∀b,Ul b∈vs->b≠s.heap.objs.size+1:=λb u=>by
  obtain⟨x,o,e,f,_⟩:=m.there _ u;cases e;exact TX (WO<|TC f)
 exact ax (kL<|wpAny_call_entry slot_list_sort #[_,a,rfl] entry_list_sort (mS a (by lia) q g j λp n r=>#[_,rfl,cx #[_,rfl,h p n r]])<|args_list_sort _)
end _S
namespace _3
open PySem _2 _S
def gS(M:Mem):List D->Option (List<|List Int)
 |[]=>ap []
 |d::ds=>match c_ M d with
  |some xs=>match fh xs,gS M ds with
   |some k,ap ks=>ap (k::ks)
   |_,_=>bb
  |none=>bb
theorem sO(I:Inv X c Z H s)(g:RepH X.K H M):∀{ds:List D}{ks:aaV}{vs:List V}{aaT:aaY},gS M ds=ap ks->Rps X.K H ds vs->Vals vs aaT->LstsAt s.heap aaT ks
 |[],_,_,_,e,r,v=>by
  cases e;cases r;cases v;exact .nil
 |d::ds,ks,_,_,e,r,v=>by
  obtain⟨x,z,rfl,a,b⟩:=r;simp[gS]at e
  split at e
  .rename_i E j
   split at e
   .rename_i k y h u
    cases e;cases v with
    |cons rx v=>
     obtain⟨p,C,rfl,i,f⟩:=dj g a j;cases rx;obtain⟨F,m,pl,A⟩:=I.list (.inl i);obtain⟨o,e,q,n,l⟩:=pl.isList;have w:=jf f h;subst w;exact .cons e q l (HY m) (sO I g u b v)
   cases e
  cases e
theorem pU(r:Rps K H ds vs):∀l:List Nat,(∀i∈l,i<ds.length)->Rps K H (l.map λi=>ds.getD i .non) (l.map λi=>vs.getD i .non)
 |[],_=>rfl
 |i::l,h=>by
  have e:ds[i]?=ap (ds.getD i .non):=by simp_all
  obtain⟨v,c,a⟩:=r.get e;have b:vs.getD i .non=v:=by simp_all
  rw[TB,TB,b];exact .cons a (pU r l<|by simp_all)
def dL:nc:=λc M Q=>one c λd=>so (c_ M d) λb=>so (gS M b) λa=>a.length<64/\∀l:List Nat,l.Perm (Ub a.length)->l.map (λi=>a.getD i [])=Ik oTup a->∀p,M p=bb->Q (.ref p) (M.upd p<|.lst (l.map λi=>b.getD i .non))
theorem pJ(hu:X.A.units+2<ol):bu X (.builtin "sorted") (liftC X dL):=by
 rintro aaN s Z H xs us Q I r ⟨ds,M,QQ,rh,rp,h,up⟩
 unfold dL at h
 replace h:=h.inv;obtain⟨_,rfl,h⟩:=h
 obtain⟨v,rfl,rv⟩:=fX (ds:=[]) rp;obtain⟨ys,e,h⟩:=h.inv;obtain⟨q,vs,rfl,hq,rr⟩:=dj rh rv e;obtain⟨ks,es,h⟩:=h.inv;obtain⟨h64,h⟩:=h;obtain⟨u,rfl,ru⟩:=gT r;cases ru;obtain⟨aaT,r',pl,hz⟩:=I.list (.inl hq);have hlen:=r'.length;have hl2:=rr.length;have ta:=sO I rh es rr r';have tl:=ta.len;refine wC pl.isList hu ta (by lia) λp hp hs=>?_
 rw[<- tl]at hp hs;have ea:=Pc hp hs;obtain⟨k,hk⟩:=PyProof.Rows.sortedAll_at _ _ _;have hn:=I.hok.fresh (WQ _);have hin:∀i∈p.toList,i<ks.length:=λi hi=>UE.mp ((Xb hp).mp hi);refine#[.ref _,_,I.laid (λb o=>PyProof.Rows.sortedAll_old) (WQ _) (show ObjOk _ _ _ _ _ (.lst _) from #[?_,_,k,(qt r' _ λi hi=>by have:=hin i hi;lia),hk]),rfl,?_]
 .rw[Tz,Ve,hp.size];exact TR (V1 h64) (by decide)
 exact up _ _ (h _ hp ea _<|rh.fresh hn) _ _ (rh.put (by rw[hn];trivial) #[_,upd_same,(pU rr _ λi hi=>by have:=hin i hi;lia).mono<|Imm.new hn]) (Frm.put<|.inl hn) rfl
theorem eV:∀ks:List (List Int),gS M (ks.map λk=>D.lst (k.map D.int))=ap ks
 |[]=>rfl
 |k::ks=>by
  rw[TB,gS];simp only[c_,iN,eV ks]
theorem kQ(e:c_ M d=ap (ks.map λk=>D.lst (k.map D.int)))(a:ks.length<64)
  (h:∀p,M p=bb->Q (.ref p) (M.upd p<|.lst ((Ik oTup ks).map λk=>D.lst (k.map D.int)))):dL [d] M Q:=by
 unfold dL;simp only[wt,FH,e,eV];refine#[a,λl f b p g=>?_];have:(l.map λi=>(ks.map λk=>D.lst (k.map D.int)).getD i .non)=(Ik oTup ks).map λk=>D.lst (k.map D.int):=by
  rw[<- b,Ud];refine Uw λi c=>?_;simp[(UE.mp<|(Xb f).mp c)]
 rw[this];exact h p g
end _3
namespace _S
open PySem PyProof PyProof.Rows
theorem PQ(a k:ay):ZQ "min" #[[a],[("key",k)]]:=by rfl
theorem sU{id:String}(i:builtinKind id=bb)(l:plainId id=true)(m:ZB table id=ap b)(j:ZQ id #[args,c])(g:cT (eX prog w) A.in1 (b #[args,c]) (λfin s'=>match fin with
   |.done f=>(match (Except.ok f:Z_) with|.ok (.ret v)=>Q v s'|.ok _=>False|.error e=>E e s')
   |.again c'=>c'.quiet=true/\F' (eX prog w) A c' (λr s'=>match r with|.ok (.ret v)=>Q v s'|.ok _=>False|.error e=>E e s') s') E s):
  cT (eX prog w) A (call (.builtin id) args c) Q E s:=by
 refine aaf (aaK l m ?_);simp[Uf,i];cases a:Manifest.signature? id with
 |none=>exact cx g
 |some sig=>
  have h:Bind.checkArgs id sig #[args,c]=pure ():=by simpa [ZQ,a] using j
  show cT _ _ (Bind.checkArgs id _ _) _ _ s;rw[h];exact cx g
def A4(prog:fx)(w:hG)(A:h7)(P:Nat->ay->Prop)(F:g4->Prop)(kv:Nat->Int):Prop:=
 ∀i v (s:ca)(Q:aa2)(E:aa2),P i v->F s.heap->(∀t tk,Q (.int (kv i) t) { s with toks:=tk })->cT (eX prog w) A (call (.builtin "len") [v]) Q E s
section
variable{St:Nat->g4->Prop}
theorem rC(W:Walks prog w A.in1 I fp wr n P St)(a:Nat->Int)(F:g4->Prop)(M:A4 prog w A.in1 P F a)(S:cb)(L:S∉fp)(Y:∀h h':g4,F h->(∀b o,b∉wr->b≠S->h.get? b=ap o->h'.get? b=ap o)->F h'):
  ∀(k j:Nat)(s:ca)(E:ay)(t:Tok)(c:Nat),n-(j+1)=k->j+1<=n->St (j+1) s.heap->F s.heap->P (mu (λi j=>decide (a i<a j)) j) E->
  s.heap.get? S=ap { cls:=.type "list",dict:=bb,data:=.seq (Tw [E,.int (a<|argBest (λi j=>decide (a i<a j)) j) t]) c,slots:=(Tw []) }->
  (∀v h' N,P (mu (λi j=>decide (a i<a j)) (n-1)) v->(∀b o,b∉wr->b≠S->s.heap.get? b=ap o->h'.get? b=ap o)->R (.ok<|.ret v) { s with heap:=h',toks:=N })->
  F' (eX prog w) A (.builtin "min.loop" #[[.ref I,.builtin "len",.ref S],[]]) R s:=by
 have J:S∉wr:=λh=>L (W.sub _ h);have q:(toString "min"++toString ".loop":String)="min.loop":=by decide
 intro k
 induction k with
 |zero=>
  intro j s E t c hk Z B X y H hR;have G:j+1=n:=by lia
  refine om Vd ?_;rw[UW Uv _];show cT _ A.in1 (aaq (.ref S) >>= _) _ _ s;refine ax (mo H rfl ?_);show cT _ A.in1 (tryCatch (G'<|.ref I) _ >>= _) _ _ s;refine ax (py (W.done s _ _ (G▸B) λh' N hk'=>?_));have l:=hk' S _ J H;show cT _ A.in1 (updateSeq S (λ_=>(Tw [])) >>= _) _ _ _;refine ax ?_;refine w6 l rfl (ax<|wpAny_letGo<|wpAny_pure ?_);refine hR E _ N (by rw[<- G];exact y) λb o f g e=>(Uj _ _<|Uk g).trans (hk' b o f e)
 |succ k ih=>
  intro j s E t c hk Z B X y H hR;have x:j+1<n:=by lia
  refine om Vd ?_;rw[UW Uv _];show cT _ A.in1 (aaq (.ref S) >>= _) _ _ s;refine ax (mo H rfl ?_);show cT _ A.in1 (tryCatch (G'<|.ref I) _ >>= _) _ _ s;refine ax (py (W.item (j+1) s _ _ x B λv h' N U r hk'=>?_));have l:=hk' S _ J H;have C:=Y _ _ X λb o f _ e=>hk' b o f e;show cT _ A.in1 (tryCatch (vb [v]<|call (.builtin "len") [v]) _ >>= _) _ _ _;refine ax (py<|wpAny_holding (M _ v _ _ _ U C λt2 tk2=>?_));show cT _ A.in1 (tryCatch (vb [v,.int (a (j+1)) t2] (richCompare .Lt (.int (a (j+1)) t2) (.int (a<|argBest (λi j=>decide (a i<a j)) j) t) >>= _)) _ >>= _) _ _ _;refine ax (py<|wpAny_holding<|wpAny_bind<|wpAny_lt_int ?_);refine ax (kL<|wpAny_truthy_bool ?_);refine ax (Y_<|wpAny_pure ?_);cases T:decide (a (j+1)<a (mu (λi j=>decide (a i<a j)) j)) with
  |true=>
   simp only[if_true];refine ax ?_;refine w6 l rfl (ax<|wpAny_letGo ?_);rw[q];have K:mu (λi j=>decide (a i<a j)) (j+1)=j+1:=by simp only[mu,T,if_true]
   refine cx #[pt Uv _,ih (j+1) _ v t2 _ (by lia) x (W.frame _ _ _ r λb Q o e=>?_) (Y _ _ C λb o _ g e=>(Uj _ _<|Uk g).trans e) (by rw[K];exact U) (by rw[K];exact US _ l rfl)
    λO z m u p=>?_]
   .exact(Uj _ _ (λh:S=b=>L (by rw[h];exact Q))).trans e
   .exact hR O z m u λb o f g e=>p b o f g ((Uj _ _<|Uk g).trans<|hk' b o f e)
  |false=>
   simp only[Ue,if_false];refine ax (Y_ ?_);rw[q];have K:mu (λi j=>decide (a i<a j)) (j+1)=mu (λi j=>decide (a i<a j)) j:=by simp only[mu,T,Ue,if_false]
   refine cx #[pt Uv _,ih (j+1) _ E t c (by lia) x r C (by rw[K];exact y) (by rw[K];exact l) λO z m u p=>?_]
   exact hR O z m u λb o f g e=>p b o f g (hk' b o f e)
theorem iz(W:Walks prog w A.in1 I fp wr n P St)(y:Nat->Int)(F:g4->Prop)(g:A4 prog w A.in1 P F y)(S:cb)(x:S∉fp)(G:∀h h':g4,F h->(∀b o,b∉wr->b≠S->h.get? b=ap o->h'.get? b=ap o)->F h')(L:0<n)(E:St 0 s.heap)(Q:F s.heap)(K:s.heap.get? S=ap { cls:=.type "list",dict:=bb,data:=.seq (Tw []) c,slots:=(Tw []) })(hR:∀v h' H,P (mu (λi j=>decide (y i<y j)) (n-1)) v->(∀b o,b∉wr->b≠S->s.heap.get? b=ap o->h'.get? b=ap o)->R (.ok<|.ret v) { s with heap:=h',toks:=H }):
  F' (eX prog w) A (.builtin "min.loop" #[[.ref I,.builtin "len",.ref S],[]]) R s:=by
 have B:S∉wr:=λh=>x (W.sub _ h);have l:(toString "min"++toString ".loop":String)="min.loop":=by decide
 refine om Vd ?_;refine ax (mo K rfl ?_);refine ax (py (W.item 0 s _ _ L E λv h' H J r hk'=>?_));have p:=hk' S _ B K;have m:=G _ _ Q λb o a _ e=>hk' b o a e;refine ax (py<|wpAny_holding (g _ v _ _ _ J m λt2 N=>?_));refine ax ?_;refine w6 p rfl ?_;rw[l];refine cx #[rfl,rC W y F g S x G _ 0 _ v t2 _ rfl L (W.frame _ _ _ r λb M o e=>?_) (G _ _ m λb o _ f e=>(Uj _ _<|Uk f).trans e) J (US _ p rfl) λO C u z q=>?_]
 .exact(Uj _ _<|by lia).trans e
 .exact hR O C u z λb o a f e=>q b o a f ((Uj _ _<|Uk f).trans<|hk' b o a e)
end
theorem s_(h:cT (eX prog w) A.in1 (W_ x) (λit s₂=>∃I r l n P St g F,it=.ref I/\Walks prog w A.in1 I r l n P St/\St 0 s₂.heap/\(∀b∈r,b<s₂.heap.objs.size)/\0<n/\A4 prog w A.in1 P F g/\F s₂.heap/\
   (∀h h':g4,F h->(∀b o,b∉l->b≠s₂.heap.objs.size->h.get? b=ap o->h'.get? b=ap o)->F h')/\
   ∀v h' u,P (mu (λi j=>decide (g i<g j)) (n-1)) v->(∀b o,b∉l->s₂.heap.get? b=ap o->h'.get? b=ap o)->Q v { s₂ with heap:=h',toks:=u }) E s):
  cT (eX prog w) A (call (.builtin "min") [x] [("key",.builtin "len")]) Q E s:=by
 have a:(toString "min"++toString ".loop")="min.loop":=by decide
 refine sU rfl rfl YD rfl ?_;show cT _ _ (W6 _ _ 0 #[[],[("key",.builtin _)]] >>= _) _ _ s;refine ax (P' (rfl) ?_);refine ax (cx ?_);refine ax (k6 h (λit s₂ c=>?_) λ_ _ e=>e);obtain⟨I,r,l,n,P,St,g,F,rfl,W,q,p,J,f,H,y,C⟩:=c;refine ax (p6 ?_);rw[a];refine cx #[pt Uv _,iz W g F f s₂.heap.objs.size (λB=>UB _ (p _ B)) y J (W.frame _ _ _ q λb _ o e=>Tv _ e) (y _ _ H λb o _ _ e=>Tv _ e) (TF _ rfl) λv h' u G z=>?_];exact C v h' u G λb o m e=>z b o m (TX<|TC e) (Tv _ e)
end _S
namespace _S
open PySem PyProof PyProof.Rows
def PK(prog:fx)(w:hG)(A:h7)(P:Nat->ay->Prop)(F:g4->Prop)(bt:Nat->Nat->Bool):Prop:=
 ∀i j vi vj (s:ca)(Q:aa2)(E:aa2),P i vi->P j vj->F s.heap->Q (.bool<|bt i j) s->cT (eX prog w) A (richCompare .Lt vi vj) Q E s
section
variable{St:Nat->g4->Prop}
theorem yc(W:Walks prog w A.in1 I fp wr n P St)(C:Nat->Nat->Bool)(F:g4->Prop)(hcmp:PK prog w A.in1 P F C)(S:cb)(J:S∉fp)
  (T:∀h h':g4,F h->(∀b o,b∉wr->b≠S->h.get? b=ap o->h'.get? b=ap o)->F h'):
  ∀(k j:Nat)(s:ca)(p:ay)(c:Nat),n-(j+1)=k->j+1<=n->St (j+1) s.heap->F s.heap->P (mu C j) p->
  s.heap.get? S=ap { cls:=.type "list",dict:=bb,data:=.seq (Tw [p,p]) c,slots:=(Tw []) }->
  (∀v h' K,P (mu C (n-1)) v->(∀b o,b∉wr->b≠S->s.heap.get? b=ap o->h'.get? b=ap o)->R (.ok<|.ret v) { s with heap:=h',toks:=K })->
  F' (eX prog w) A (.builtin "min.loop" #[[.ref I,.none,.ref S],[]]) R s:=by
 have H:S∉wr:=λh=>J (W.sub _ h);have l:(toString "min"++toString ".loop":String)="min.loop":=by decide
 intro k
 induction k with
 |zero=>
  intro j s p c X U z Q m G hR;have E:j+1=n:=by lia
  refine om Vd ?_;rw[UW Uv _];refine ax (mo G rfl ?_);refine ax (py (W.done s _ _ (E▸z) λh' K hk'=>?_));refine ax (w6 (hk' S _ H G) rfl<|wpAny_bind<|wpAny_letGo<|wpAny_pure ?_);exact hR p _ K (by rw[<- E];exact m) λb o a f e=>(Uj _ _<|Uk f).trans (hk' b o a e)
 |succ k ih=>
  intro j s p c X U z Q m G hR;have x:j+1<n:=by lia
  refine om Vd ?_;rw[UW Uv _];refine ax (mo G rfl ?_);refine ax (py (W.item (j+1) s _ _ x z λv h' K O q hk'=>?_));have u:=hk' S _ H G;have B:=T _ _ Q λb o a _ e=>hk' b o a e;show cT _ A.in1 (tryCatch (vb [v,v] (richCompare .Lt v p >>= _)) _ >>= _) _ _ _;refine ax (py<|wpAny_holding<|wpAny_bind<|hcmp (j+1) (mu C j) v p _ _ _ O m B ?_);refine ax (kL<|wpAny_truthy_bool ?_);refine ax (Y_<|wpAny_pure ?_);cases N:C (j+1) (mu C j) with
  |true=>
   simp only[if_true];refine ax (w6 u rfl<|wpAny_bind<|wpAny_letGo ?_);rw[l]
   refine cx #[pt Uv _,ih (j+1) _ v _ (by lia) x (W.frame _ _ _ q λb M o e=>(Uj _ _ (λh:S=b=>J (by rw[h];exact M))).trans e) (T _ _ B λb o _ f e=>(Uj _ _<|Uk f).trans e) (by simp only[mu,N,if_true];exact O) (US _ u rfl)
    λL y g r i=>?_]
   exact hR L y g r λb o a f e=>i b o a f ((Uj _ _<|Uk f).trans<|hk' b o a e)
  |false=>
   simp only[Ue,if_false];refine ax (Y_ ?_);rw[l];exact cx #[pt Uv _,ih (j+1) _ p c (by lia) x q B (by simp only[mu,N,Ue,if_false];exact m) u λL y g r i=>
    hR L y g r λb o a f e=>i b o a f (hk' b o a e)]
end
theorem xp
  (h:cT (eX prog w) A.in1 (W_ x) (λit s₂=>∃I r q n P St u F,it=.ref I/\Walks prog w A.in1 I r q n P St/\St 0 s₂.heap/\(∀b∈r,b<s₂.heap.objs.size)/\0<n/\PK prog w A.in1 P F u/\F s₂.heap/\
   (∀h h':g4,F h->(∀b o,b∉q->b≠s₂.heap.objs.size->h.get? b=ap o->h'.get? b=ap o)->F h')/\
   ∀v h' M,P (mu u (n-1)) v->(∀b o,b∉q->s₂.heap.get? b=ap o->h'.get? b=ap o)->Q v { s₂ with heap:=h',toks:=M }) E s):
  cT (eX prog w) A (call (.builtin "min") [x]) Q E s:=by
 have a:(toString "min"++toString ".loop":String)="min.loop":=by decide
 refine call_function_tree PySem.F.kind_min PySem.F.plain_min YD (PySem.F.args_min1 _) ?_;refine ax (P' (show W6 "min" ["key","default"] 0 #[[],[]]=pure [bb,bb] from rfl) ?_);refine ax (cx ?_);refine ax (k6 h (λit s₂ f=>?_) λ_ _ e=>e);obtain⟨I,r,q,n,P,St,u,F,rfl,W,J,H,L,m,U,C,N⟩:=f;refine ax (p6 ?_);have l:s₂.heap.objs.size∉r:=λS=>UB _ (H _ S);have B:s₂.heap.objs.size∉q:=λh=>l (W.sub _ h);rw[a];refine cx #[pt Uv _,om Vd ?_];rw[UW Uv _];refine ax (mo (TF _ rfl) rfl ?_);refine ax (py (W.item 0 _ _ _ L (W.frame _ _ _ J λb _ o e=>Tv _ e) λv h' M T i hk'=>?_));have g:=hk' _ _ B (TF _ rfl);have K:=C _ _ U λb o c _ e=>hk' b o c (Tv _ e);show cT _ A.in1 (updateSeq _ (λ_=>(Tw [v,v])) >>= _) _ _ _;refine ax (w6 g rfl ?_);rw[a];refine cx #[pt Uv _,yc W u F m _ l C _ 0 _ v _ rfl L (W.frame _ _ _ i λb R o e=>(Uj _ _<|by lia).trans e) (C _ _ K λb o _ z e=>(Uj _ _<|Uk z).trans e) T (US _ g rfl) λO G j y p=>?_]
 exact N O G j y λb o c e=>p b o c (TX<|TC e) ((Uj _ _<|Uk<|TX<|TC e).trans<|hk' b o c<|Tv _ e)
end _S
namespace _S
open PySem PyProof.Rows
section
variable{lt:Nat->Nat->Bool}
theorem lP:∀n,mu lt n<=n
 |0=>TL _
 |n+1=>by
  have:=lP n;unfold mu
  split<;>lia
theorem wL(o:Ord (List Int))(ks:aaV):∀n,∀i,i<=n->o.lt (ks.getD i []) (ks.getD (mu (λi j=>o.lt (ks.getD i []) (ks.getD j [])) n) [])=cp
 |0,i,h=>by
  have:i=0:=by lia
  subst this;cases e:o.lt _ (ks.getD 0 []) with
  |false=>exact e
  |true=>exact o.asym _ _ e
 |n+1,i,h=>by
  have a:=wL o ks n;unfold mu
  split
  .rename_i c
   by_cases e:i=n+1
   .subst e
    cases e:o.lt _ _ with
    |false=>rfl
    |true=>rw[<- e];exact o.asym _ _ e
   exact o.tr _ _ _ (o.asym _ _ c) (a i<|by lia)
  by_cases e:i=n+1
  .simp_all
  exact a i (by lia)
theorem oW(a:Nat->Int):∀n,(∀i,i<=n->a (mu (λi j=>decide (a i<a j)) n)<=a i)/\∀i,i<mu (λi j=>decide (a i<a j)) n->a (mu (λi j=>decide (a i<a j)) n)<a i
 |0=>#[λi h=>(by rw[Nat.le_zero.mp h];exact We _),λi h=>absurd h (W5 _)]
 |n+1=>by
  obtain⟨f,l⟩:=oW a n;have m:=lP (lt:=λi j=>decide (a i<a j)) n;unfold mu;generalize mu (λi j=>decide (a i<a j)) n=b at*
  split
  .rename_i c
   have c:=of_decide_eq_true c;refine#[λi g=>?_,λi g=>?_]
   .by_cases e:i=n+1
    .subst e;exact We _
    .have:=f i (by lia);lia
   .have:=f i (by lia);lia
  .rename_i c
   have c:¬a (n+1)<a b:=λz=>c (decide_eq_true z);refine#[λi g=>?_,l]
   by_cases e:i=n+1
   .subst e;lia
   .exact f i (by lia)
end
theorem FF(O:A.units<ol):PK prog w A (λi v=>vs.toArray[i]?=ap v) (λh=>LstsAt h vs ks) (λi j=>g9 (ks.getD i []) (ks.getD j [])):=by
 intro i j C H s Q E F B t h;have y:i<vs.length:=by
  simpa using ((Wq.mp F).1)
 have p:j<vs.length:=by
  simpa using ((Wq.mp B).1)
 obtain⟨a,o,L,n,U,f,m,g,I⟩:=t.at i y;obtain⟨l,J,x,r,P,c,e,b,z⟩:=t.at j p;have K:C=.ref a:=by simp_all
 have G:H=.ref l:=by simp_all
 subst K G;obtain⟨T,W,S,R⟩:=o;obtain⟨u,q,N,M⟩:=J;simp only at m g e b;subst m g e b;exact wpAny_richCompare_same_room #[_,f,rfl] #[_,c,rfl] V2 (ra V2 #[_,f,rfl] Yi (Ya _ _) (zX a l L _ n r _ _ _ _ _ _ I z) #[f,c,by lia]) O
theorem F2(r:∀k∈ks,(k.length:Int)<2 ^ 63):A4 prog w A (λi v=>vs.toArray[i]?=ap v) (λh=>LstsAt h vs ks) (λi=>((ks.getD i []).length:Int)):=by
 intro i v s Q E b t h;have c:i<vs.length:=by
  simpa using ((Wq.mp b).1)
 obtain⟨a,o,q,n,l,f,p,g,j⟩:=t.at i c;have m:v=.ref a:=by rw[<- l];simp at b;rw[Ur,b];rfl
 subst m;have u:=j.length;have x:ks.getD i []∈ks:=by
  have:i<ks.length:=by rw[t.len];exact c
  simp_all
 refine YE #[o,f,p,n,g] (by simp_all) ?_
 have e:q.toArray.size=((ks.getD i []).length):=by simp_all
 rw[e];exact(h _ _)
end _S
namespace _3
open PySem _2 _S
variable{s:ca}
theorem vf:∀{ds:List D}{ks:aaV},gS M ds=ap ks->ks.length=ds.length
 |[],_,e=>by cases e;rfl
 |d::ds,ks,e=>by
  simp[gS]at e
  split at e
  .split at e
   .rename_i a
    cases e;rw[Ug,vf a,Ug]
   cases e
  cases e
def uk:nc:=λc M Q=>one c λd=>so (c_ M d) λb=>so (gS M b) λa=>a≠[]/\∀i,i<a.length->(∀j,j<a.length->g9 (a.getD j []) (a.getD i [])=cp)->Q (b.getD i .non) M
def mr:nc:=λc M Q=>one c λd=>so (c_ M d) λb=>so (gS M b) λa=>(a≠[]/\∀k∈a,k.length<=100000)/\∀i,i<a.length->(∀j,j<a.length->(a.getD i []).length<=(a.getD j []).length)->(∀j,j<i->(a.getD i []).length<(a.getD j []).length)->Q (b.getD i .non) M
theorem qc(I:Inv X a Z H s)(f:RepH X.K H M)(g:SqL X.K H q vs)(h:Rps X.K H ys vs)(es:gS M ys=ap ks)(i:ks≠[]):
  ∃aaT:List ay,Vals vs aaT/\s.heap.IsList q aaT.toArray/\LstsAt s.heap aaT ks/\aaT.length=ks.length/\ys.length=ks.length/\0<ks.length/\q<s.heap.objs.size/\q≠s.heap.objs.size:=by
 obtain⟨aaT,c,p,j⟩:=I.list g;have t:=sO I f es h c;have b:q<s.heap.objs.size:=by obtain⟨o,e,_⟩:=p.isList;exact TC e
 exact#[_,c,p.isList,t,t.len.symm,(vf es).symm,Xd.mpr i,b,by lia]
theorem nU{c:aaZ}(t:LstsAt s.heap aaT ks)(hw:∀b∈c,s.heap.objs.size<=b):∀h h':g4,LstsAt h aaT ks->(∀b o,b∉c->b≠(s.heap.push l).objs.size->h.get? b=ap o->h'.get? b=ap o)->LstsAt h' aaT ks:=λh h' f k=>f.keep λb o j e=>by
 obtain⟨a,m,i,g,_⟩:=t.there _ j;cases i;have lt:=TC g;exact k b o (λz=>UB _ (Uc lt<|hw b z)) (by show b≠(s.heap.objs.push _).size;rw[XH];exact TX (by lia)) e
theorem pZ(I:Inv X a Z H s)(p:RepH X.K H M)(r:Rps X.K H ys vs)(x:Vals vs aaT)(j:i<ys.length)(z:aaT.toArray[i]?=ap v)(h:QQ (ys.getD i .non) M)(y:Up X.K M H QQ Q)(q:∀b o,s.heap.get? b=ap o->h'.get? b=ap o):EP X a Z Q v { s with heap:=h',toks:=g }:=by
 have e:ys[i]?=ap (ys.getD i .non):=by rw[Tx j];simp[j]
 obtain⟨w,l,f⟩:=r.get e;obtain⟨u,m,n⟩:=x.get l;have c:aaT[i]?=ap v:=by simpa using z
 rw[m]at c;cases c;exact#[w,H,I.kept (t':=g) q,n,y _ M h _ H p Frm.refl f]
theorem Mp{h:g4}(c:q<h.objs.size)(a:b∈[h.objs.size,q]):b<(h.push o).objs.size:=by
 show b<(h.objs.push o).size;rw[XH];simp at a;lia
theorem xZ(N:X.calm=true)(O:X.A.units+1<ol):bu X (.builtin "min") (liftC X uk):=by
 rintro l s Z H R us Q I r ⟨ds,M,QQ,f,G,h,J⟩
 unfold uk at h
 replace h:=h.inv;obtain⟨_,rfl,h⟩:=h
 obtain⟨v,rfl,w⟩:=fX (ds:=[]) G;obtain⟨S,e,h⟩:=h.inv;obtain⟨q,vs,rfl,y,n⟩:=dj f w e;obtain⟨a,K,h⟩:=h.inv;obtain⟨E,h⟩:=h;obtain⟨u,rfl,C⟩:=gT r;cases C;obtain⟨z,L,p,t,x,W,U,g,c⟩:=qc I f (.inl y) n K E;refine xp (re p #[_,_,_,_,_,_,_,λh=>LstsAt h _ a,rfl,XN (A:=X.A.in1) (I.ok.hd N) _ q c _,#[#[_,TF _ rfl,rfl,rfl],p.push _],?_,by simp_all,FF O,?_,?_,λv Y T m F=>?_])
 .exact λb=>Mp g
 .exact t.keep λb o _ e=>Tv _ e
 .exact nU t (by simp)
 rw[TZ,x]at m;have hb:=lP (lt:=λi j=>g9 (a.getD i []) (a.getD j [])) (a.length-1);exact pZ (s:=s) I f n L (by lia) m (h _ (by lia) λj P=>wL oTup a _ j (by lia)) J λb o e=>F b o (by simp;exact TX (TC e)) (Tv _ e)
theorem uc(S:X.calm=true):yK X (.builtin "min") "key" (.builtin "len") (liftC X mr):=by
 rintro n s Z H T us Q I r ⟨ds,M,QQ,f,K,h,L⟩
 unfold mr at h
 replace h:=h.inv;obtain⟨_,rfl,h⟩:=h
 obtain⟨v,rfl,y⟩:=fX (ds:=[]) K;obtain⟨U,e,h⟩:=h.inv;obtain⟨q,vs,rfl,C,x⟩:=dj f y e;obtain⟨a,N,h⟩:=h.inv;obtain⟨⟨J,F⟩,h⟩:=h;obtain⟨u,rfl,G⟩:=gT r;cases G;obtain⟨E,O,p,t,z,l2,Y,l,c⟩:=qc I f (.inl C) x N J;refine s_ (re p #[_,_,_,_,_,_,λi=>((a.getD i []).length),_,rfl,XN (A:=X.A.in1) (I.ok.hd S) _ q c _,#[#[_,TF _ rfl,rfl,rfl],p.push _],?_,by simp_all,F2 λk g=>by have:=F k g;lia,?_,?_,λv h' W w g=>?_])
 .exact λb=>Mp l
 .exact t.keep λb o _ e=>Tv _ e
 .exact nU t (by simp)
 rw[TZ,z]at w;have hb:=lP (lt:=λi j=>decide ((λi=>((a.getD i []).length:Int)) i<(λi=>((a.getD i []).length:Int)) j)) (a.length-1);obtain⟨P,R⟩:=oW _ _;exact pZ (s:=s) I f x O (by lia) w (h _ (by lia) (λj m=>Int.ofNat_le.mp (P j<|by lia)) λj m=>Int.ofNat_lt.mp (R j m)) L λb o e=>g b o (by simp;exact TX (TC e)) (Tv _ e)
end _3
namespace _3
open PySem _2 _S PyProof.Rows
section
variable{id:String}
theorem y9(j:yK X (.builtin id) kn k (liftC X r))(q:fv x=ap (.builtin id))(h:fv y=ap k)(l:Gl X x)(o:X.mg x=bb)(g:Gl X y)(f:X.mg y=bb)(n:DA X B (e::es) t)(s:x≠"__name__")(c:(x==("__debug__":Str))=cp)
  (b:y≠"__name__") (a:(y==("__debug__":Str))=cp)
  (m:j0 pos (eH (e::es) X.env)=(cp,g3 e X.env)::j0 pos (eH es X.env)) (i:(j0 pos<|starEach (e::es) X.env).any (·.1)=cp):DE X B (.Call (.Name x p) (e::es) [#[ap kn,.Name y yp,kp]] pos) (bc r t):=
 Eb j l o q g f h n s c b a m i
theorem o7(a:X.A.units+64<ol):bu X (.builtin "sorted") (liftC X dL):=pJ (by lia)
end
end _3
namespace _T
open PySem _2 _3
noncomputable def cB(i:Nat):Stmt:=PySem.Challenge.pw_twinstride_k40_the_fewest_cause.main.body.getD i (.Pass #[0,0,0,0])
abbrev QK:Stmt:=eQ (cB 6) 0
abbrev Se:Stmt:=eQ (cB 6) 1
abbrev Mz:Stmt:=eQ (cB 6) 2
abbrev Mm:Stmt:=cB 7
abbrev My:Stmt:=cB 8
abbrev LU:Stmt:=cB 9
abbrev LR:Stmt:=cB 10
abbrev MG:Stmt:=cB 12
abbrev Lw:Stmt:=cB 13
abbrev LK:Stmt:=cB 14
abbrev Lu:Stmt:=cB 15
abbrev MC:Stmt:=cB 16
abbrev LI:Stmt:=cB 18
abbrev Lh:Stmt:=cB 19
abbrev Mn:Stmt:=cB 20
abbrev ML:Stmt:=cB 22
abbrev L_:Stmt:=cB 24
abbrev MX:Stmt:=cB 26
abbrev MF:Stmt:=cB 27
abbrev LG:Stmt:=cB 28
abbrev Td:Stmt:=eQ (cB 30) 0
abbrev Re:Stmt:=eQ (cB 30) 1
abbrev R7:Stmt:=eQ (cB 31) 0
abbrev Ri:Stmt:=eQ (cB 31) 1
abbrev LN:Stmt:=cB 32
abbrev Mb:Stmt:=cB 33
abbrev Mu:Stmt:=cB 34
abbrev Mj:Stmt:=cB 35
abbrev LH:Stmt:=cB 36
abbrev LA:Stmt:=cB 38
abbrev Lj:Stmt:=cB 39
abbrev LL:Stmt:=cB 40
abbrev MA:Stmt:=cB 41
abbrev SV:Stmt:=eQ (cB 43) 0
abbrev Mg:Stmt:=cB 44
abbrev Mr:Stmt:=cB 45
abbrev Mq:Stmt:=cB 47
abbrev MQ:Stmt:=cB 48
abbrev Lv:Stmt:=cB 50
abbrev LW:Stmt:=cB 51
abbrev MV:Stmt:=cB 52
abbrev LV:Stmt:=cB 53
abbrev Mo:Stmt:=cB 54
abbrev Ma:Stmt:=cB 55
abbrev Ln:Stmt:=cB 56
abbrev MW:Stmt:=cB 57
abbrev LZ:Stmt:=cB 58
abbrev MR:Stmt:=cB 59
abbrev QN:Stmt:=cB 60
abbrev Lq:Stmt:=cB 61
abbrev Lm:Stmt:=cB 62
abbrev Ll:Stmt:=cB 63
abbrev Ly:Stmt:=cB 64
abbrev MD:Stmt:=cB 65
abbrev Ls:Stmt:=cB 66
abbrev N3:Stmt:=cB 67
abbrev R6:Stmt:=cB 68
abbrev MB:Stmt:=cB 69
abbrev MT:Stmt:=cB 70
abbrev LQ:Stmt:=cB 71
abbrev MP:Stmt:=cB 72
abbrev Ra:Stmt:=cB 73
abbrev MI:Stmt:=cB 76
abbrev Mx:Stmt:=cB 77
abbrev kC:Stmt:=cB 78
set_option genInjectivity false in
structure Ad where
 C_Ends:cb
 C_Going:cb
 C_Outcome:cb
 C_Walk:cb
 C_Dry:cb
 C_NoCase:cb
 C_TooMany:cb
 (a1 a2 a3 a4 a5 a6 a7 a8 a9 a10 a11 a12 a13 a14 a15 a16 a17 a18 a19 a20 a21 a22 a23 a24 a25 a26 a27 a28 a29 a30 a31 a32 a33 a34 a35 a36 a37 a38 a39 a40 a41 a42 a43 a44 a45 a46 a47 a48 a49 a50 a51 a52 a53 a54 a55 a56 a57 a58 a59 a60 a61 a62 a63 a64 a65:cb)
 (d1 d2 d3 d4 d5 d6 d7 d8 d9 d10 d11 d12 d13 d14 d15 d16 d17 d18 d19 d20 d21 d22 d23 d24 d25 d26 d27 d28 d29 d30 d31 d32 d33 d34 d35 d36 d37 d38 d39 d40 d41 d42 d43 d44 d45 d46 d47 d48 d49 d50 d51 d52 d53 d54 d55 d56 d57 d58 d59 d60 d61 d62 d63 d64 d65:kc)
section
variable{ad:Ad}{M:Mem}{Q:DK}{E:DX}{a b c e f g:D}
local macro_rules|`($q⁻¹)=>`({ nx:=λ_ x=>drp $q .non x,rt:=drp $q })
local macro_rules|`(¬$k:num)=>`(dC (.int $k))|`(¬$k:str)=>`(dC (.str $k))
def GZ(w:Ad)(y:DX):ar:=ah (cH w.C_Walk (ac 0) (ac 3) "most") (cH w.C_Walk (ac 0) (bQ af) "steps")
def Fc(w:Ad)(y:DX):ar:=ah (cH w.C_Walk (ac 0) (ai av (ac 2) ¬1) "pieces") (GZ w y)
def F7(w:Ad)(y:DX):ar:=ah (cH w.C_Walk (ac 0) (gE<|aa (ai av (ac 1) ¬1)<|aa (ai av (ac 2) ¬0) af) "numbers") (Fc w y)
def KH(w:Ad)(y:DX):ar:=ah (cH w.C_Walk (ac 0) (ac 1) "plan") (F7 w y)
def KO(ad:Ad):Sd:=aK ["self","plan","stand","most"] (KH ad)
theorem u_q6:KO ad [b,a,c,e] M Q E=KH ad (aJ E) Q⁻¹ [ap b,ap a,ap c,ap e] M:=rfl
def GG(w:Ad)(y:DX):ar:=bh (kH "list" bC (aV w.C_Walk (ac 0) "steps")<|aa (aS<|aa (ac 1)<|aa (ac 2) af) af)
def JK(w:Ad)(y:DX):ar:=ah (aG (al<|ai oGe (bc cq<|aa (aV w.C_Walk (ac 0) "steps") af)<|aV w.C_Walk (ac 0) "most") (nH w.C_Dry y) aB) (GG w y)
def yH(ad:Ad):Sd:=aK ["self","place","number"] (JK ad)
theorem u_q1:yH ad [b,a,c] M Q E=JK ad (aJ E) Q⁻¹ [ap b,ap a,ap c] M:=rfl
def Bl(w:Ad)(y:DX):ar:=ah (bh<|dw w.C_Walk "note_step" (yH w) y 3 (ac 0)<|aa (ac 1)<|aa (ac 3) af) (aA<|ac 3)
def AW(w:Ad)(y:DX):ar:=ah (aq (nv (al<|ai cc (ai av (aV w.C_Walk (ac 0) "numbers")<|ac 2) ¬0) (¬0) ¬1)<|ag 3) (Bl w y)
def qQ(ad:Ad):Sd:=aK ["self","place","name","seen"] (AW ad)
theorem RN:qQ ad [b,a,c] M Q E=AW ad (aJ E) Q⁻¹ [ap b,ap a,ap c,bb] M:=rfl
def Bv(w:Ad)(y:DX):ar:=aA (ai gb (am<|ai b6 (ac 1)<|ac 2)<|ac 3)
def zE(w:Ad)(y:DX):ar:=aA (nv (al<|ai Ed (ac 1)<|ac 2) (¬1) ¬0)
def CL(w:Ad)(y:DX):ar:=aA (nv (al<|ai cc (ac 1)<|ac 2) (¬1) ¬0)
def AJ(w:Ad)(y:DX):ar:=ah (aG (al<|ai cc (ac 0) ¬"less") (zE w y) aB) (CL w y)
def Av(w:Ad)(y:DX):ar:=ah (aG (al<|ai cc (ac 0) ¬"by") (aA<|ai gb (ai jb (ac 1)<|ac 2)<|ac 3) aB) (AJ w y)
def CI(w:Ad)(y:DX):ar:=ah (aG (al<|ai cc (ac 0) ¬"sum") (Bv w y) aB) (Av w y)
def C6(ad:Ad):Sd:=aK ["word","y","z","wheel"] (CI ad)
theorem QO:C6 ad [b,a,c,e] M Q E=CI ad (aJ E) Q⁻¹ [ap b,ap a,ap c,ap e] M:=rfl
def AY(w:Ad)(y:DX):ar:=aA (ai gb (ai av (ac 1)<|ai av (ac 2) ¬2)<|ai av (ac 0) ¬2)
def zP(w:Ad)(y:DX):ar:=ah (aG (al<|ai cc (ai av (ac 2) ¬0) ¬"pick") (AY w y) aB) (aA<|dC .non)
def i_(w:Ad)(y:DX):ar:=ah (aG (al<|ai cc (ai av (ac 2) ¬0) ¬"take") (aA<|ai av (ac 2) ¬2) aB) (zP w y)
def ow(ad:Ad):Sd:=aK ["plan","numbers","row"] (i_ ad)
theorem qE:ow ad [b,a,c] M Q E=i_ ad (aJ E) Q⁻¹ [ap b,ap a,ap c] M:=rfl
def Bn(w:Ad)(y:DX):ar:=aA (aj (C6 w) y 4<|aa (ai av (ac 3) ¬0)<|aa (ai av (ac 1)<|ai av (ac 3) ¬2)<|aa (ai av (ac 1)<|ai av (ac 3) ¬3)<|aa (ai av (ac 0) ¬0) af)
def yZ(w:Ad)(y:DX):ar:=ah (aG (al<|ai fD (ac 4)<|dC .non) (aA<|ai av (ac 2)<|ac 4) aB) (Bn w y)
def CK(w:Ad)(y:DX):ar:=ah (aq (am<|aj (ow w) y 3<|aa (ac 0)<|aa (ac 1)<|aa (ac 3) af)<|ag 4) (yZ w y)
def gB(w:Ad)(y:DX):ar:=ah (aG (al<|ai cc (ai av (ac 3) ¬0) ¬"put") (aA<|ai av (ac 3) ¬2) aB) (CK w y)
def on(ad:Ad):Sd:=aK ["plan","numbers","pieces","row","piece"] (gB ad)
theorem kj:on ad [b,a,c,e] M Q E=gB ad (aJ E) Q⁻¹ [ap b,ap a,ap c,ap e,bb] M:=rfl
def BP(w:Ad)(Y2 Y4 Y5 Y6:Sd)(y:DX):ar:=bh (aj Y4 y 3<|aa (ac 0)<|aa (ac 4)<|aa (ai b6 (ac 2)<|aS<|aa (ac 3) af) af)
def zb(w:Ad)(Y2 Y4 Y5 Y6:Sd)(y:DX):ar:=eE (qG<|aa (ac 1) af) (dq 2<|aM (ag 3)<|aM (ag 4) dg) (BP w Y2 Y4 Y5 Y6 y)
def An(w:Ad)(Y2 Y4 Y5 Y6:Sd)(y:DX):ar:=bh (aj Y5 y 3<|aa (ac 0)<|aa (ac 1)<|aa (ac 2) af)
def Cp(w:Ad)(Y2 Y4 Y5 Y6:Sd)(y:DX):ar:=bh (aj Y6 y 3<|aa (ac 0)<|aa (ac 1)<|aa (ac 2) af)
def B7(w:Ad)(Y2 Y4 Y5 Y6:Sd)(y:DX):ar:=aq (ac 3) (cZ (aV w.C_Walk (ac 0) "numbers")<|ai av (ac 1) ¬1)
def A9(w:Ad)(Y2 Y4 Y5 Y6:Sd)(y:DX):ar:=ah (bh<|dw w.C_Walk "note_step" (yH w) y 3 (ac 0)<|aa (ac 2)<|aa (ac 3) af) (B7 w Y2 Y4 Y5 Y6 y)
def AQ(w:Ad)(Y2 Y4 Y5 Y6:Sd)(y:DX):ar:=ah (aq (am<|aj (on w) y 4<|aa (aV w.C_Walk (ac 0) "plan")<|aa (aV w.C_Walk (ac 0) "numbers")<|aa (aV w.C_Walk (ac 0) "pieces")<|aa (ac 1) af)<|ag 3) (A9 w Y2 Y4 Y5 Y6 y)
def BG(w:Ad)(Y2 Y4 Y5 Y6:Sd)(y:DX):ar:=aG (al<|ai cc (ai av (ac 1) ¬0) ¬"again") (Cp w Y2 Y4 Y5 Y6 y) (AQ w Y2 Y4 Y5 Y6 y)
def qO(w:Ad)(Y2 Y4 Y5 Y6:Sd)(y:DX):ar:=aG (al<|ai cc (ai av (ac 1) ¬0) ¬"if") (An w Y2 Y4 Y5 Y6 y) (BG w Y2 Y4 Y5 Y6 y)
def B4(w:Ad)(Y2 Y4 Y5 Y6:Sd)(y:DX):ar:=bh (aj Y2 y 3<|aa (ac 0)<|aa (nv (al<|ai cc (ac 3) ¬1) (ai av (ac 1) ¬2)<|ai av (ac 1) ¬3)<|aa (ai b6 (ac 2)<|aS<|aa (ac 3) af) af)
def BB(w:Ad)(Y2 Y4 Y5 Y6:Sd)(y:DX):ar:=ah (aq (am<|dw w.C_Walk "look" (qQ w) y 3 (ac 0)<|aa (ac 2)<|aa (ai av (ac 1) ¬1) af)<|ag 3) (B4 w Y2 Y4 Y5 Y6 y)
def BZ(w:Ad)(Y2 Y4 Y5 Y6:Sd)(y:DX):ar:=ah (bh<|aj Y2 y 3<|aa (ac 0)<|aa (ai av (ac 1) ¬2)<|aa (ai b6 (ac 2)<|aS<|aa (ac 3) af) af) (Ii 3 (¬1) Gq)
def z9(w:Ad)(Y2 Y4 Y5 Y6:Sd)(y:DX):ar:=jS (al<|ai cc (am<|dw w.C_Walk "look" (qQ w) y 3 (ac 0)<|aa (ai b6 (ac 2)<|aS<|aa (ac 3) af)<|aa (ai av (ac 1) ¬1) af) ¬1) (BZ w Y2 Y4 Y5 Y6 y)
def GL(w:Ad)(Y2 Y4 Y5 Y6:Sd)(y:DX):ar:=ah (aq (¬0)<|ag 3) (z9 w Y2 Y4 Y5 Y6 y)
mutual
noncomputable def Y2(ad:Ad):Nat->Sd
 |0=>λ_ _ _ _=>False
 |n+1=>aK ["walk","rows","place","j","row"] (zb ad (Y2 ad n) (Y4 ad n) (Y5 ad n)<|Y6 ad n)
noncomputable def Y4(ad:Ad):Nat->Sd
 |0=>λ_ _ _ _=>False
 |n+1=>aK ["walk","row","place","number"] (qO ad (Y2 ad n) (Y4 ad n) (Y5 ad n)<|Y6 ad n)
noncomputable def Y5(ad:Ad):Nat->Sd
 |0=>λ_ _ _ _=>False
 |n+1=>aK ["walk","row","place","seen"] (BB ad (Y2 ad n) (Y4 ad n) (Y5 ad n)<|Y6 ad n)
noncomputable def Y6(ad:Ad):Nat->Sd
 |0=>λ_ _ _ _=>False
 |n+1=>aK ["walk","row","place","turn"] (GL ad (Y2 ad n) (Y4 ad n) (Y5 ad n)<|Y6 ad n)
end
theorem Sy{n:Nat}:Y2 ad (n+1) [b,a,c] M Q E=zb ad (Y2 ad n) (Y4 ad n) (Y5 ad n) (Y6 ad n) (aJ E) Q⁻¹ [ap b,ap a,ap c,bb,bb] M:=rfl
theorem FR{n:Nat}:Y4 ad (n+1) [b,a,c] M Q E=qO ad (Y2 ad n) (Y4 ad n) (Y5 ad n) (Y6 ad n) (aJ E) Q⁻¹ [ap b,ap a,ap c,bb] M:=rfl
theorem Ti{n:Nat}:Y5 ad (n+1) [b,a,c] M Q E=BB ad (Y2 ad n) (Y4 ad n) (Y5 ad n) (Y6 ad n) (aJ E) Q⁻¹ [ap b,ap a,ap c,bb] M:=rfl
theorem u_q47{n:Nat}:Y6 ad (n+1) [b,a,c] M Q E=GL ad (Y2 ad n) (Y4 ad n) (Y5 ad n) (Y6 ad n) (aJ E) Q⁻¹ [ap b,ap a,ap c,bb] M:=rfl
def Bf(w:Ad)(y:DX):ar:=aA (aS<|aa (aV w.C_Walk (ac 3) "steps")<|aa (bc bW<|aa (am<|aN (bM<|ai av (ac 0) ¬1) ["name"] [3] (ag 0) cX<|ai av (aV w.C_Walk (ac 1) "numbers")<|ac 0) af) af)
def zK(w:Ad)(y:DX):ar:=ah (OB w.C_Dry (Y2 w 24) 3 (aa (ac 3)<|aa (ai av (ac 0) ¬3)<|aa (aS af) af)<|aA<|aS<|aa (aV w.C_Walk (ac 3) "steps")<|aa (dC .non) af) (Bf w y)
def zW(w:Ad)(y:DX):ar:=ah (aq (gQ w.C_Walk (KO w) y 4<|aa (ac 0)<|aa (ac 1)<|aa (ac 2) af)<|ag 3) (zK w y)
def vD(ad:Ad):Sd:=aK ["plan","stand","most","walk"] (zW ad)
theorem RD:vD ad [b,a,c] M Q E=zW ad (aJ E) Q⁻¹ [ap b,ap a,ap c,bb] M:=rfl
def zd(w:Ad)(y:DX):ar:=aA (ai av (ac 3)<|Iq iA (ai av (ac 0) ¬1)<|aa (ai av (ac 0) ¬4) af)
def CN(w:Ad)(y:DX):ar:=ah (aG (al<|ai iC (ac 3)<|dC .non) (aA<|dC .non) aB) (zd w y)
def yU(w:Ad)(y:DX):ar:=ah (aq (ai av (kg<|aj (vD w) y 3<|aa (ac 0)<|aa (ac 1)<|aa (ac 2) af) ¬1)<|ag 3) (CN w y)
def qA(ad:Ad):Sd:=aK ["plan","stand","most","end"] (yU ad)
theorem T4:qA ad [b,a,c] M Q E=yU ad (aJ E) Q⁻¹ [ap b,ap a,ap c,bb] M:=rfl
def Ap(w:Ad)(y:DX):ar:=aA (ai b6 (am<|bc dS<|aa (ai av (ac 0) ¬1) af)<|am<|wF<|aa (ai av (ac 0) ¬2) af)
def vO(ad:Ad):Sd:=aK ["plan"] (Ap ad)
theorem SH:vO ad [a] M Q E=Ap ad (aJ E) Q⁻¹ [ap a] M:=rfl
def kZ(w:Ad)(y:DX):ar:=aA (aN (bM<|am<|aj (vO w) y 1<|aa (ac 0) af) ["thing"] [2] (ag 0) (al<|ai w8 (ac 0)<|ac 1)<|ac 0)
def AG(w:Ad)(y:DX):ar:=ah (aq (bc gk<|aa (am<|aN (bM<|ac 1) ["thing"] [] (ag 0) cX<|aS<|aa (ac 0)<|aa (dC<|.bl true) af) af)<|ag 2) (kZ w y)
def zm(ad:Ad):Sd:=aK ["plan","things","wanted"] (AG ad)
theorem Rg:zm ad [b,a] M Q E=AG ad (aJ E) Q⁻¹ [ap b,ap a,bb] M:=rfl
def Ax(w:Ad)(y:DX):ar:=aA (ai av (ai av (ac 1) ¬0)<|Iq iA (ai av (ac 0) ¬1)<|aa (ac 2) af)
def wB(w:Ad)(y:DX):ar:=ah (aG (cO<|bc d_<|aa (ac 2)<|aa (dC<|.ty "str") af) (Ax w y) aB) (aA<|ai av (ai av (ac 1) ¬1)<|ac 2)
def k8(ad:Ad):Sd:=aK ["plan","stand","thing"] (wB ad)
theorem Lx:k8 ad [b,a,c] M Q E=wB ad (aJ E) Q⁻¹ [ap b,ap a,ap c] M:=rfl
def BA(w:Ad)(y:DX):ar:=aA (bc dS<|aa (am<|wS (ac 0) (dk ¬2) cm) af)
def Ah(w:Ad)(y:DX):ar:=ah (aG (P6 (al<|ai cc (ai av (ac 0) ¬0) ¬"put")<|al<|ai cc (ai av (ac 0) ¬0) ¬"take") (aA<|bQ af) aB) (BA w y)
def jh(w:Ad)(y:DX):ar:=ah (aG (P6 (al<|ai cc (ai av (ac 0) ¬0) ¬"if")<|al<|ai cc (ai av (ac 0) ¬0) ¬"again") (aA<|bQ<|aa (ai av (ac 0) ¬1) af) aB) (Ah w y)
def z_(ad:Ad):Sd:=aK ["row"] (jh ad)
theorem pO:z_ ad [a] M Q E=jh ad (aJ E) Q⁻¹ [ap a] M:=rfl
def zp(w:Ad)(y:DX):ar:=aA (aN (bM<|am<|aj (vO w) y 1<|aa (ac 0) af) ["thing"] [0,2,1] (ag 0) (al<|ai qP (am<|aj (k8 w) jP 3<|aa (ac 1)<|aa (ac 3)<|aa (ac 0) af)<|am<|aj (k8 w) jP 3<|aa (ac 1)<|aa (ac 2)<|aa (ac 0) af)<|ac 0)
def yY(ad:Ad):Sd:=aK ["plan","one","other"] (zp ad)
theorem T6:yY ad [b,a,c] M Q E=zp ad (aJ E) Q⁻¹ [ap b,ap a,ap c] M:=rfl
def ut(w:Ad)(y:DX):ar:=ah (aG (al<|ai cc (ac 1)<|ac 2) (nH w.C_NoCase y) aB) (aA<|aS<|aa (ac 1)<|aa (ac 2) af)
def lN(w:Ad)(y:DX):ar:=ah (aG (P6 (al<|ai iC (ac 1)<|dC .non)<|al<|ai iC (ac 2)<|dC .non) (nH w.C_NoCase y) aB) (ut w y)
def ui(w:Ad)(y:DX):ar:=ah (aq (am<|aj (qA w) y 3<|aa (ai av (ac 0) ¬0)<|aa (ai av (ac 0) ¬2)<|aa (ai av (ac 0) ¬3) af)<|ag 2) (lN w y)
def CA(w:Ad)(y:DX):ar:=ah (aq (am<|aj (qA w) y 3<|aa (ai av (ac 0) ¬0)<|aa (ai av (ac 0) ¬1)<|aa (ai av (ac 0) ¬3) af)<|ag 1) (ui w y)
def uL(ad:Ad):Sd:=aK ["case","sound","faulty"] (CA ad)
theorem RW:uL ad [a] M Q E=CA ad (aJ E) Q⁻¹ [ap a,bb,bb] M:=rfl
def Cj(w:Ad)(y:DX):ar:=aA (aj (yY w) y 3<|aa (ai av (ac 0) ¬0)<|aa (ai av (ac 0) ¬1)<|aa (ai av (ac 0) ¬2) af)
def qN(ad:Ad):Sd:=aK ["case"] (Cj ad)
theorem RA:qN ad [a] M Q E=Cj ad (aJ E) Q⁻¹ [ap a] M:=rfl
def BL(w:Ad)(y:DX):ar:=ah (aG (al<|ai cc (ac 1)<|ai av (ac 0) ¬1) (aA ¬"faulty") aB) (aA ¬"other")
def wm(w:Ad)(y:DX):ar:=ah (aG (al<|ai cc (ac 1)<|ai av (ac 0) ¬0) (aA ¬"sound") aB) (BL w y)
def AC(ad:Ad):Sd:=aK ["two","one"] (wm ad)
theorem Lk:AC ad [b,a] M Q E=wm ad (aJ E) Q⁻¹ [ap b,ap a] M:=rfl
def Ig(w:Ad)(y:DX):ar:=ah (cH w.C_Going (ac 0) (ac 4) "todo") (cH w.C_Going (ac 0) (ac 5) "left")
def Ih(w:Ad)(y:DX):ar:=ah (cH w.C_Going (ac 0) (ac 3) "unsettled") (Ig w y)
def HQ(w:Ad)(y:DX):ar:=ah (cH w.C_Going (ac 0) (ac 2) "pieces") (Ih w y)
def K_(w:Ad)(y:DX):ar:=ah (cH w.C_Going (ac 0) (ac 1) "numbers") (HQ w y)
def EU(ad:Ad):Sd:=aK ["self","numbers","pieces","unsettled","todo","left"] (K_ ad)
theorem u_q2:EU ad [a,c,e,g,f,b] M Q E=K_ ad (aJ E) Q⁻¹ [ap a,ap c,ap e,ap g,ap f,ap b] M:=rfl
def xf(w:Ad)(y:DX):ar:=aq (ac 2) (cZ (aV w.C_Going (ac 3) "numbers")<|ac 1)
def y8(w:Ad)(y:DX):ar:=aq (ac 2) (cZ (aV w.C_Going (ac 3) "pieces")<|ac 1)
def yz(w:Ad)(y:DX):ar:=ah (aG (cO<|bc d_<|aa (ac 1)<|aa (dC<|.ty "str") af) (xf w y)<|y8 w y) (aA<|ac 3)
def xQ(w:Ad)(y:DX):ar:=ah (bh<|GH (aV w.C_Going (ac 3) "unsettled")<|ac 1) (yz w y)
def JH(w:Ad)(y:DX):ar:=ah (aq (gQ w.C_Going (EU w) y 6<|aa (bc iG<|aa (aV w.C_Going (ac 0) "numbers") af)<|aa (bc dS<|aa (aV w.C_Going (ac 0) "pieces") af)<|aa (bc iG<|aa (aV w.C_Going (ac 0) "unsettled") af)<|aa (aV w.C_Going (ac 0) "todo")<|aa (aV w.C_Going (ac 0) "left") af)<|ag 3) (xQ w y)
def E7(ad:Ad):Sd:=aK ["self","thing","number","other"] (JH ad)
theorem u_q8:E7 ad [b,a,c] M Q E=JH ad (aJ E) Q⁻¹ [ap b,ap a,ap c,bb] M:=rfl
def Je(w:Ad)(y:DX):ar:=ah (cH w.C_Ends (ac 0) (ac 1) "limit") (cH w.C_Ends (ac 0) (¬0) "count")
def NC(ad:Ad):Sd:=aK ["self","limit"] (Je ad)
theorem u_q5:NC ad [b,a] M Q E=Je ad (aJ E) Q⁻¹ [ap b,ap a] M:=rfl
def y6(w:Ad)(y:DX):ar:=aG (al<|ai Ir (aV w.C_Ends (ac 0) "count")<|aV w.C_Ends (ac 0) "limit") (nH w.C_TooMany y) aB
def L8(w:Ad)(y:DX):ar:=ah (tW w.C_Ends (ac 0) (¬1) "count") (y6 w y)
def G_(ad:Ad):Sd:=aK ["self"] (L8 ad)
theorem u_q4:G_ ad [a] M Q E=L8 ad (aJ E) Q⁻¹ [ap a] M:=rfl
def uw(w:Ad)(y:DX):ar:=aq (aS<|aa (ac 2)<|aa (ac 1) af) (ag 1)
def Cg(w:Ad)(y:DX):ar:=ah (eE (OG<|aa (ac 0) af) (ag 2)<|uw w y) (aA<|ac 1)
def nQ(ad:Ad):Sd:=aK ["rows","todo","row"] (Cg ad)
theorem QP:nQ ad [b,a] M Q E=Cg ad (aJ E) Q⁻¹ [ap b,ap a,bb] M:=rfl
def t9(w:Ad)(y:DX):ar:=aA (gQ w.C_Going (EU w) y 6<|aa (gE<|aa (ai av (ac 1) ¬1)<|aa (ai av (ac 2) ¬0) af)<|aa (bc dS<|aa (ai av (ac 2) ¬1) af)<|aa (ac 3)<|aa (am<|aj (nQ w) y 2<|aa (ai av (ac 1) ¬3)<|aa (dC .non) af)<|aa (ai av (ac 0) ¬3) af)
def uu(w:Ad)(y:DX):ar:=ah (aq (bc gk<|aa (am<|aN (bM<|am<|aj (qN w) y 1<|aa (ac 0) af) ["thing"] [] (ag 0) cX<|aS<|aa (ac 0)<|aa (dC<|.bl true) af) af)<|ag 3) (t9 w y)
def tM(w:Ad)(y:DX):ar:=ah (aq (ai av (ac 0) ¬1)<|ag 2) (uu w y)
def Aj(w:Ad)(y:DX):ar:=ah (aq (ai av (ac 0) ¬0)<|ag 1) (tM w y)
def ze(ad:Ad):Sd:=aK ["case","plan","sound","unsettled"] (Aj ad)
theorem RM:ze ad [a] M Q E=Aj ad (aJ E) Q⁻¹ [ap a,bb,bb,bb] M:=rfl
def rg(w:Ad)(y:DX):ar:=aA (ai av (am<|aj (zm w) y 2<|aa (ac 0)<|aa (ac 3) af) ¬0)
def tz(w:Ad)(y:DX):ar:=aA (nv (al<|ai FY (ac 4)<|aV w.C_Going (ac 1) "unsettled") (ac 4)<|dC .non)
def rG(w:Ad)(y:DX):ar:=ah (aq (am<|aj (ow w) y 3<|aa (ac 0)<|aa (aV w.C_Going (ac 1) "numbers")<|aa (ac 2) af)<|ag 4) (tz w y)
def lV(w:Ad)(y:DX):ar:=ah (aG (cO<|ac 3) (rg w y) aB) (rG w y)
def tI(w:Ad)(y:DX):ar:=ah (bO (cV 3<|aN (bM<|am<|aj (z_ w) y 1<|aa (ac 2) af) ["name"] [1] (ag 0) (al<|ai w8 (ac 0)<|aV w.C_Going (ac 1) "unsettled")<|ac 0) 3) (lV w y)
def zL(w:Ad)(y:DX):ar:=ah (aG (gu<|cO<|aV w.C_Going (ac 1) "unsettled") (aA<|dC .non) aB) (tI w y)
def AE(ad:Ad):Sd:=aK ["plan","going","row","found","piece"] (zL ad)
theorem So:AE ad [b,a,c] M Q E=zL ad (aJ E) Q⁻¹ [ap b,ap a,ap c,bb,bb] M:=rfl
def sV(w:Ad)(y:DX):ar:=cH w.C_Going (ac 1) (am<|aj (nQ w) y 2<|aa (nv (al<|ai cc (ai av (aV w.C_Going (ac 1) "numbers")<|ai av (ac 2) ¬1) ¬0) (ai av (ac 2) ¬3)<|ai av (ac 2) ¬2)<|aa (aV w.C_Going (ac 1) "todo") af) "todo"
def BQ(w:Ad)(y:DX):ar:=cH w.C_Going (ac 1) (am<|aj (nQ w) y 2<|aa (ai av (ac 2) ¬2)<|aa (aS<|aa (ac 2)<|aa (aV w.C_Going (ac 1) "todo") af) af) "todo"
def sS(w:Ad)(y:DX):ar:=aG (al<|ai qP (ai av (aV w.C_Going (ac 1) "numbers")<|ai av (ac 2) ¬1) ¬0) (BQ w y) aB
def tP(w:Ad)(y:DX):ar:=bh (ER (aV w.C_Going (ac 1) "unsettled") (ai av (ac 2) ¬1)<|dC .non)
def ie(w:Ad)(y:DX):ar:=ah (aq (am<|aj (on w) y 4<|aa (ac 0)<|aa (aV w.C_Going (ac 1) "numbers")<|aa (aV w.C_Going (ac 1) "pieces")<|aa (ac 2) af)<|cZ (aV w.C_Going (ac 1) "numbers")<|ai av (ac 2) ¬1) (tP w y)
def li(w:Ad)(y:DX):ar:=aG (al<|ai cc (ai av (ac 2) ¬0) ¬"again") (sS w y) (ie w y)
def iP(w:Ad)(y:DX):ar:=aG (al<|ai cc (ai av (ac 2) ¬0) ¬"if") (sV w y) (li w y)
def rb(w:Ad)(y:DX):ar:=ah (cH w.C_Going (ac 1) (ai av (aV w.C_Going (ac 1) "todo") ¬1) "todo") (iP w y)
def Cy(w:Ad)(y:DX):ar:=ah (rf w.C_Going (ac 1) (¬1) "left") (rb w y)
def zR(ad:Ad):Sd:=aK ["plan","going","row"] (Cy ad)
theorem QL:zR ad [b,a,c] M Q E=Cy ad (aJ E) Q⁻¹ [ap b,ap a,ap c] M:=rfl
def sR(w:Ad)(y:DX):ar:=bh (aj (zR w) y 3<|aa (ac 0)<|aa (ac 1)<|aa (ac 2) af)
def ua(w:Ad)(y:DX):ar:=ah (aG (al<|ai fD (ac 3)<|dC .non) (aA<|ac 3) aB) (sR w y)
def rS(w:Ad)(y:DX):ar:=ah (aq (am<|aj (AE w) y 3<|aa (ac 0)<|aa (ac 1)<|aa (ac 2) af)<|ag 3) (ua w y)
def ue(w:Ad)(y:DX):ar:=ah (aq (ai av (aV w.C_Going (ac 1) "todo") ¬0)<|ag 2) (rS w y)
def ic(w:Ad)(y:DX):ar:=ah (aG (al<|ai oLe (aV w.C_Going (ac 1) "left") ¬0) (aA<|dC .non) aB) (ue w y)
def qY(w:Ad)(y:DX):ar:=aA (nv (al<|ai w8 (ai av (ac 0) ¬4)<|aV w.C_Going (ac 1) "unsettled") (ai av (ac 0) ¬4)<|dC .non)
def BC(w:Ad)(y:DX):ar:=ah (jS (al<|ai fD (aV w.C_Going (ac 1) "todo")<|dC .non)<|ic w y) (qY w y)
def C3(ad:Ad):Sd:=aK ["plan","going","row","asked"] (BC ad)
theorem QS:C3 ad [b,a] M Q E=BC ad (aJ E) Q⁻¹ [ap b,ap a,bb,bb] M:=rfl
def BR(w:Ad)(y:DX):ar:=aA (nv (al<|ai iC (aV w.C_Going (ac 1) "todo")<|dC .non) (ai av (aV w.C_Going (ac 1) "numbers")<|ai av (ac 0) ¬4)<|dC .non)
def C7(ad:Ad):Sd:=aK ["plan","going"] (BR ad)
theorem S8:C7 ad [b,a] M Q E=BR ad (aJ E) Q⁻¹ [ap b,ap a] M:=rfl
def Cq(w:Ad)(y:DX):ar:=aA (aN (bM<|am<|wS (ac 0) (dk ¬1)<|dk ¬3) ["stand"] [2,1,0] (ag 0) cX<|am<|dw w.C_Going "settled" (E7 w) jP 3 (ac 2)<|aa (ac 1)<|aa (am<|aj (k8 w) jP 3<|aa (ai av (ac 3) ¬0)<|aa (ac 0)<|aa (ac 1) af) af)
def B_(ad:Ad):Sd:=aK ["case","going","thing"] (Cq ad)
theorem Sz:B_ ad [b,a,c] M Q E=Cq ad (aJ E) Q⁻¹ [ap b,ap a,ap c] M:=rfl
def sI(w:Ad)(Y8:Sd)(y:DX):ar:=aA (aS<|aa (¬"end")<|aa (aj (C7 w) y 2<|aa (ai av (ac 0) ¬0)<|aa (ac 1) af) af)
def sH(w:Ad)(Y8:Sd)(y:DX):ar:=aA (aS<|aa (¬"ask")<|aa (ac 3)<|aa (aj Y8 y 3<|aa (ac 0)<|aa (ai av (ac 4) ¬0)<|aa (ac 2) af)<|aa (aj Y8 y 3<|aa (ac 0)<|aa (ai av (ac 4) ¬1)<|aa (ac 2) af) af)
def rM(w:Ad)(Y8:Sd)(y:DX):ar:=ah (aq (am<|aj (B_ w) y 3<|aa (ac 0)<|aa (ac 1)<|aa (ac 3) af)<|ag 4) (sH w Y8 y)
def sK(w:Ad)(Y8:Sd)(y:DX):ar:=ah (bh<|dw w.C_Ends "one_more" (G_ w) y 1 (ac 2) af) (rM w Y8 y)
def rH(w:Ad)(Y8:Sd)(y:DX):ar:=ah (aG (al<|ai iC (ac 3)<|dC .non) (sI w Y8 y) aB) (sK w Y8 y)
def zC(w:Ad)(Y8:Sd)(y:DX):ar:=ah (aq (am<|aj (C3 w) y 2<|aa (ai av (ac 0) ¬0)<|aa (ac 1) af)<|ag 3) (rH w Y8 y)
def Y8(ad:Ad):Nat->Sd
 |0=>λ_ _ _ _=>False
 |n+1=>aK ["case","going","ends","asked","ways"] (zC ad<|Y8 ad n)
theorem Rs{n:Nat}:Y8 ad (n+1) [b,a,c] M Q E=zC ad (Y8 ad n) (aJ E) Q⁻¹ [ap b,ap a,ap c,bb,bb] M:=rfl
def sj(w:Ad)(y:DX):ar:=aA (aj (Y8 w 24) y 3<|aa (ac 0)<|aa (am<|aj (ze w) y 1<|aa (ac 0) af)<|aa (ac 2) af)
def rl(w:Ad)(y:DX):ar:=ah (bh<|dw w.C_Ends "one_more" (G_ w) y 1 (ac 2) af) (sj w y)
def r_(w:Ad)(y:DX):ar:=ah (aq (gQ w.C_Ends (NC w) y 2<|aa (ac 1) af)<|ag 2) (rl w y)
def Ck(w:Ad)(y:DX):ar:=ah (bh<|aj (uL w) y 1<|aa (ac 0) af) (r_ w y)
def zT(ad:Ad):Sd:=aK ["case","limit","ends"] (Ck ad)
theorem T7:zT ad [b,a] M Q E=Ck ad (aJ E) Q⁻¹ [ap b,ap a,bb] M:=rfl
def HZ(w:Ad)(y:DX):ar:=ah (cH w.C_Outcome (ac 0) (ac 2) "sound") (cH w.C_Outcome (ac 0) (ac 3) "faulty")
def L7(w:Ad)(y:DX):ar:=ah (cH w.C_Outcome (ac 0) (ac 1) "verdict") (HZ w y)
def JG(ad:Ad):Sd:=aK ["self","verdict","sound","faulty"] (L7 ad)
theorem u_q0:JG ad [b,a,c,e] M Q E=L7 ad (aJ E) Q⁻¹ [ap b,ap a,ap c,ap e] M:=rfl
def tu(w:Ad)(y:DX):ar:=bh (kH "list" bC (ac 4)<|aa (gQ w.C_Outcome (JG w) y 4<|aa (am<|aj (AC w) y 2<|aa (ac 2)<|aa (ai av (ai av (ac 6) ¬0) ¬1) af)<|aa (ac 7)<|aa (ac 8) af) af)
def rN(w:Ad)(y:DX):ar:=bh (kH "list" bC (ac 5)<|aa (aS<|aa (ai av (ai av (ac 6) ¬0) ¬3)<|aa (ac 7)<|aa (ai oOr (ac 8)<|ac 9) af) af)
def tS(w:Ad)(y:DX):ar:=ah (bh<|kH "list" bC (ac 5)<|aa (aS<|aa (ai av (ai av (ac 6) ¬0) ¬2)<|aa (ai oOr (ac 7)<|ac 9)<|aa (ac 8) af) af) (rN w y)
def rq(w:Ad)(y:DX):ar:=ah (aq (ai av (ac 3)<|ai av (ai av (ac 6) ¬0) ¬1)<|ag 9) (tS w y)
def rJ(w:Ad)(y:DX):ar:=aG (al<|ai cc (ai av (ai av (ac 6) ¬0) ¬0) ¬"end") (tu w y) (rq w y)
def tj(w:Ad)(y:DX):ar:=ah (aq (ai av (ac 6) ¬2)<|ag 8) (rJ w y)
def si(w:Ad)(y:DX):ar:=ah (aq (ai av (ac 6) ¬1)<|ag 7) (tj w y)
def ia(w:Ad)(y:DX):ar:=ah (aq (kH "list" D8 (ac 5) af)<|ag 6) (si w y)
def tV(w:Ad)(y:DX):ar:=ah (jS (cO<|ac 5)<|ia w y) (aA<|ac 4)
def oi(w:Ad)(y:DX):ar:=ah (aq (bQ<|aa (aS<|aa (aj (zT w) y 2<|aa (ac 0)<|aa (ac 1) af)<|aa (¬0)<|aa (¬0) af) af)<|ag 5) (tV w y)
def nR(w:Ad)(y:DX):ar:=ah (aq (bc gk<|aa (am<|aN (qG<|aa (am<|aj (qN w) y 1<|aa (ac 0) af) af) ["number","thing"] [] (dq 2<|aM (ag 0)<|aM (ag 1) dg) cX<|aS<|aa (ac 1)<|aa (ai OH (¬1)<|ac 0) af) af)<|ag 3) (ah (aq (bQ af)<|ag 4)<|oi w y)
def z8(w:Ad)(y:DX):ar:=ah (aq (am<|aj (uL w) y 1<|aa (ac 0) af)<|ag 2) (nR w y)
def AV(ad:Ad):Sd:=aK ["case","limit","two","bit_of","found","waiting","here","sound","faulty","bit"] (z8 ad)
theorem RC:AV ad [b,a] M Q E=z8 ad (aJ E) Q⁻¹ [ap b,ap a,bb,bb,bb,bb,bb,bb,bb,bb] M:=rfl
def zJ(w:Ad)(y:DX):ar:=aA (aN (dW<|aa (kH "int" m8 (ac 0) af) af) ["number"] [0] (ag 0) (al<|ai cc (ai Oc (ai Qa (ac 1)<|ac 0) ¬1) ¬1)<|ac 0)
def BM(ad:Ad):Sd:=aK ["bits"] (zJ ad)
theorem SS:BM ad [a] M Q E=zJ ad (aJ E) Q⁻¹ [ap a] M:=rfl
def Go(w:Ad)(y:DX):ar:=aA (aN (bM<|am<|aj (AV w) y 2<|aa (ac 0)<|aa (ac 1) af) ["one"] [] (ag 0) (al<|ai cc (aV w.C_Outcome (ac 0) "verdict") ¬"faulty")<|aV w.C_Outcome (ac 0) "faulty")
def AB(ad:Ad):Sd:=aK ["case","limit"] (Go ad)
theorem u_q30:AB ad [b,a] M Q E=Go ad (aJ E) Q⁻¹ [ap b,ap a] M:=rfl
def kY(w:Ad)(y:DX):ar:=aA (aN (bM<|bc mr<|aa (ac 2) af) ["number"] [3] (ag 0) cX<|ai av (ac 1)<|ac 0)
def lG(w:Ad)(y:DX):ar:=ah (aq (am<|aj (qN w) y 1<|aa (ac 0) af)<|ag 3) (kY w y)
def BS(w:Ad)(y:DX):ar:=ah (aq (am<|bc dL<|aa (am<|aN (bM<|am<|aj (AB w) y 2<|aa (ac 0)<|aa (ac 1) af) ["bits"] [] (ag 0) cX<|am<|aj (BM w) jP 1<|aa (ac 0) af) af)<|ag 2) (lG w y)
def qo(ad:Ad):Sd:=aK ["case","limit","found","things"] (BS ad)
theorem Sc:qo ad [b,a] M Q E=BS ad (aJ E) Q⁻¹ [ap b,ap a,bb,bb] M:=rfl
def BF(w:Ad)(y:DX):ar:=ah (aq (ai gb (ai jb (ai QT (ac 2)<|ai vQ (ac 2) ¬2147483648) ¬2685821657736338717) ¬18446744073709551616)<|ag 2) (aA<|ai vQ (ac 2) ¬1048576)
def AS(w:Ad)(y:DX):ar:=ah (aq (ai gb (ai b6 (ai b6 (ai jb (ac 0) ¬6364136223846793005)<|ai jb (ac 1) ¬1442695040888963407) ¬97) ¬18446744073709551616)<|ag 2) (BF w y)
def oH(ad:Ad):Sd:=aK ["cell","turn","one"] (AS ad)
theorem Rc:oH ad [b,a] M Q E=AS ad (aJ E) Q⁻¹ [ap b,ap a,bb] M:=rfl
def Ae(w:Ad)(y:DX):ar:=aq (ai gb (ai b6 (ai jb (ac 1) ¬1000003)<|ac 2) ¬18446744073709551616) (ag 1)
def Bo(w:Ad)(y:DX):ar:=aA (bQ<|aa (bc dS<|aa (am<|wS (ac 0) cm<|dk ¬63) af)<|aa (¬0)<|aa (¬0)<|aa (ac 1) af)
def BY(w:Ad)(y:DX):ar:=ah (eE (bM<|am<|wS (ac 0) cm<|dk ¬63) (ag 2)<|Ae w y) (Bo w y)
def Ar(w:Ad)(y:DX):ar:=ah (aq (¬7)<|ag 1) (BY w y)
def zG(ad:Ad):Sd:=aK ["script","seed","cell"] (Ar ad)
theorem S7:zG ad [a] M Q E=Ar ad (aJ E) Q⁻¹ [ap a,bb,bb] M:=rfl
def Al(w:Ad)(y:DX):ar:=aA (ai gb (am<|aj (oH w) y 2<|aa (ac 2)<|aa (ai av (ac 0) ¬1) af)<|ac 1)
def A0(w:Ad)(y:DX):ar:=ah (aG (al<|ai Ed (ac 2)<|ai Op (¬10) ¬18) (Al w y) aB) (aq (ac 2)<|cZ (ac 0) ¬2)
def Ab(w:Ad)(y:DX):ar:=ah (aq (kH "list" D8 (ai av (ac 0) ¬0)<|aa (¬0) af)<|ag 2) (A0 w y)
def AF(w:Ad)(y:DX):ar:=aA (ai gb (am<|aj (oH w) y 2<|aa (ai av (ac 0) ¬3)<|aa (ai av (ac 0) ¬1) af)<|ac 1)
def Bg(w:Ad)(y:DX):ar:=ah (aq (ai vQ (ai av (ac 0) ¬2)<|ac 1)<|cZ (ac 0) ¬2) (aA<|ac 3)
def zq(w:Ad)(y:DX):ar:=ah (aq (ai gb (ai av (ac 0) ¬2)<|ac 1)<|ag 3) (Bg w y)
def AM(w:Ad)(y:DX):ar:=ah (aG (al<|ai cc (ai av (ac 0) ¬2) ¬0) (AF w y) aB) (zq w y)
def Cu(w:Ad)(y:DX):ar:=ah (aG (pj (al<|ai cc (ai av (ac 0) ¬2) ¬0)<|al<|ai qP (ai av (ac 0) ¬0)<|am<|bQ af) (Ab w y) aB) (AM w y)
def Ep(w:Ad)(y:DX):ar:=ah (aq (ai b6 (ai av (ac 0) ¬1) ¬1)<|cZ (ac 0) ¬1) (Cu w y)
def aZ(ad:Ad):Sd:=aK ["pot","many","cell","found"] (Ep ad)
theorem u_q36:aZ ad [b,a] M Q E=Ep ad (aJ E) Q⁻¹ [ap b,ap a,bb,bb] M:=rfl
def zi(w:Ad)(y:DX):ar:=bh (kH "list" bC (ac 3)<|aa (ai jb (ac 5)<|ai b6 (¬1)<|am<|aj (aZ w) y 2<|aa (ac 0)<|aa (¬8) af) af)
def zA(w:Ad)(y:DX):ar:=ah (aq (ai av (¬"abcdefghijklmnopqrstuvwxyz")<|ai gb (ai b6 (ac 2)<|ai jb (¬7)<|ac 4) ¬26)<|ag 5) (zi w y)
def Bc(w:Ad)(y:DX):ar:=ah (eE (dW<|aa (ac 1) af) (ag 4)<|zA w y) (aA<|bc bW<|aa (ac 3) af)
def A5(w:Ad)(y:DX):ar:=ah (aq (am<|aj (aZ w) y 2<|aa (ac 0)<|aa (¬26) af)<|ag 2) (ah (aq (bQ af)<|ag 3)<|Bc w y)
def A2(ad:Ad):Sd:=aK ["pot","many","turn","names","k","sign"] (A5 ad)
theorem T0:A2 ad [b,a] M Q E=A5 ad (aJ E) Q⁻¹ [ap b,ap a,bb,bb,bb,bb] M:=rfl
def zx(w:Ad)(y:DX):ar:=aA (aS<|aa (ac 6)<|aa (ac 7)<|aa (aj (aZ w) y 2<|aa (ac 0)<|aa (ac 2) af) af)
def yS(w:Ad)(y:DX):ar:=aA (aS<|aa (ac 6)<|aa (ac 7)<|aa (aj (aZ w) y 2<|aa (ac 0)<|aa (ac 4) af) af)
def zY(w:Ad)(y:DX):ar:=aA (aS<|aa (ac 6)<|aa (ac 7)<|aa (ac 8) af)
def Cr(w:Ad)(y:DX):ar:=aA (aS<|aa (ac 6)<|aa (ac 7)<|aa (ac 8)<|aa (ai av (ac 3)<|am<|aj (aZ w) y 2<|aa (ac 0)<|aa (bc cq<|aa (ac 3) af) af) af)
def zO(w:Ad)(y:DX):ar:=ah (aG (al<|ai cc (ac 6) ¬"pick") (zY w y) aB) (Cr w y)
def BV(w:Ad)(y:DX):ar:=ah (aq (ai av (ac 3)<|am<|aj (aZ w) y 2<|aa (ac 0)<|aa (bc cq<|aa (ac 3) af) af)<|ag 8) (zO w y)
def Am(w:Ad)(y:DX):ar:=ah (aG (al<|ai cc (ac 6) ¬"take") (yS w y) aB) (BV w y)
def BU(w:Ad)(y:DX):ar:=ah (aG (al<|ai cc (ac 6) ¬"put") (zx w y) aB) (Am w y)
def Bq(w:Ad)(y:DX):ar:=ah (aq (ai av (ac 3)<|am<|aj (aZ w) y 2<|aa (ac 0)<|aa (bc cq<|aa (ac 3) af) af)<|ag 7) (BU w y)
def uB(w:Ad)(y:DX):ar:=ah (aq (ai av (ac 5)<|am<|aj (aZ w) y 2<|aa (ac 0)<|aa (nv (al<|ai Ir (ac 4) ¬0) (¬9) ¬7) af)<|ag 6) (Bq w y)
def vA(w:Ad)(y:DX):ar:=ah (aq (am<|bQ<|aa (¬"put")<|aa (¬"sum")<|aa (¬"by")<|aa (¬"less")<|aa (¬"same")<|aa (¬"sum")<|aa (¬"put")<|aa (¬"take")<|aa (¬"pick") af)<|ag 5) (uB w y)
def y_(w:Ad)(y:DX):ar:=ah (aq (ac 1)<|dq 3<|aM (ag 2)<|aM (ag 3)<|aM (ag 4) dg) (vA w y)
def uV(ad:Ad):Sd:=aK ["pot","told","m","names","many","ways","way","x","y"] (y_ ad)
theorem Rn:uV ad [b,a] M Q E=y_ ad (aJ E) Q⁻¹ [ap b,ap a,bb,bb,bb,bb,bb,bb,bb] M:=rfl
def AN(w:Ad)(Y1 Y0:Sd)(y:DX):ar:=aA (bQ<|aa (aS<|aa (¬"if")<|aa (ac 7)<|aa (ac 8)<|aa (aj Y0 y 5<|aa (ac 0)<|aa (ac 1)<|aa (ac 2)<|aa (ai b6 (ac 3) ¬1)<|aa (¬5) af) af) af)
def zr(w:Ad)(Y1 Y0:Sd)(y:DX):ar:=aA (bQ<|aa (aS<|aa (¬"again")<|aa (ac 7)<|aa (ac 8) af) af)
def AO(w:Ad)(Y1 Y0:Sd)(y:DX):ar:=aA (bQ<|aa (aS<|aa (¬"put")<|aa (ac 7)<|aa (aj (aZ w) y 2<|aa (ac 0)<|aa (bc FJ<|aa (ac 4)<|aa (¬9) af) af) af)<|aa (aS<|aa (¬"put")<|aa (ac 10)<|aa (ai kM (ac 4) ¬1) af)<|aa (aS<|aa (¬"again")<|aa (ac 7)<|aa (ai b6 (ac 8)<|aS<|aa (aS<|aa (¬"sum")<|aa (ac 7)<|aa (ac 7)<|aa (ac 10) af) af) af) af)
def C5(w:Ad)(Y1 Y0:Sd)(y:DX):ar:=ah (aq (ai av (ac 5)<|am<|aj (aZ w) y 2<|aa (ac 0)<|aa (bc cq<|aa (ac 5) af) af)<|ag 10) (AO w Y1 Y0 y)
def Ct(w:Ad)(Y1 Y0:Sd)(y:DX):ar:=ah (aG (al<|ai cc (ac 9) ¬2) (zr w Y1 Y0 y) aB) (C5 w Y1 Y0 y)
def z0(w:Ad)(Y1 Y0:Sd)(y:DX):ar:=ah (aG (al<|ai Ed (ac 9) ¬2) (AN w Y1 Y0 y) aB) (Ct w Y1 Y0 y)
def As(w:Ad)(Y1 Y0:Sd)(y:DX):ar:=ah (aq (am<|aj (aZ w) y 2<|aa (ac 0)<|aa (¬5) af)<|ag 9) (z0 w Y1 Y0 y)
def Ak(w:Ad)(Y1 Y0:Sd)(y:DX):ar:=ah (aq (am<|aj Y0 y 5<|aa (ac 0)<|aa (ac 1)<|aa (ac 2)<|aa (ai b6 (ac 3) ¬1)<|aa (¬5) af)<|ag 8) (As w Y1 Y0 y)
def zu(w:Ad)(Y1 Y0:Sd)(y:DX):ar:=ah (aq (ai av (ac 5)<|am<|aj (aZ w) y 2<|aa (ac 0)<|aa (bc cq<|aa (ac 5) af) af)<|ag 7) (Ak w Y1 Y0 y)
def Ba(w:Ad)(Y1 Y0:Sd)(y:DX):ar:=ah (aq (ac 1)<|dq 3<|aM (ag 4)<|aM (ag 5)<|aM (ag 6) dg) (zu w Y1 Y0 y)
def zZ(w:Ad)(Y1 Y0:Sd)(y:DX):ar:=aq (ai b6 (ac 5)<|am<|aj Y1 y 4<|aa (ac 0)<|aa (ac 1)<|aa (ac 2)<|aa (ac 3) af) (ag 5)
def Br(w:Ad)(Y1 Y0:Sd)(y:DX):ar:=ah (aq (ai kM (ai av (ac 2) ¬0) ¬4)<|cZ (ac 2) ¬0) (zZ w Y1 Y0 y)
def Bm(w:Ad)(Y1 Y0:Sd)(y:DX):ar:=bh (kH "list" bC (ac 5)<|aa (am<|aj (uV w) y 2<|aa (ac 0)<|aa (ac 1) af) af)
def zH(w:Ad)(Y1 Y0:Sd)(y:DX):ar:=ah (aq (ai kM (ai av (ac 2) ¬0) ¬1)<|cZ (ac 2) ¬0) (Bm w Y1 Y0 y)
def yV(w:Ad)(Y1 Y0:Sd)(y:DX):ar:=aG (al<|ai Ir (ai av (ac 2) ¬0) ¬0) (zH w Y1 Y0 y) aB
def yO(w:Ad)(Y1 Y0:Sd)(y:DX):ar:=aG (pj (al<|ai Ir (ai av (ac 2) ¬0) ¬4)<|pj (al<|ai Ed (ac 3) ¬4)<|al<|ai cc (am<|aj (aZ w) y 2<|aa (ac 0)<|aa (¬4) af) ¬0) (Br w Y1 Y0 y) (yV w Y1 Y0 y)
def zI(w:Ad)(Y1 Y0:Sd)(y:DX):ar:=ah (eE (dW<|aa (am<|aj (aZ w) y 2<|aa (ac 0)<|aa (ac 4) af) af) (ag 6)<|yO w Y1 Y0 y) (aA<|bc bW<|aa (ac 5) af)
def zc(w:Ad)(Y1 Y0:Sd)(y:DX):ar:=ah (aq (bQ af)<|ag 5) (zI w Y1 Y0 y)
mutual
noncomputable def Y1(ad:Ad):Nat->Sd
 |0=>λ_ _ _ _=>False
 |n+1=>aK ["pot","told","room","deep","m","names","many","x","first","way","y"] (Ba ad (Y1 ad n)<|Y0 ad n)
noncomputable def Y0(ad:Ad):Nat->Sd
 |0=>λ_ _ _ _=>False
 |n+1=>aK ["pot","told","room","deep","most","rows","k"] (zc ad (Y1 ad n)<|Y0 ad n)
end
theorem RU{n:Nat}:Y1 ad (n+1) [b,a,c,e] M Q E=Ba ad (Y1 ad n) (Y0 ad n) (aJ E) Q⁻¹ [ap b,ap a,ap c,ap e,bb,bb,bb,bb,bb,bb,bb] M:=rfl
theorem RI{n:Nat}:Y0 ad (n+1) [a,b,c,f,e] M Q E=zc ad (Y1 ad n) (Y0 ad n) (aJ E) Q⁻¹ [ap a,ap b,ap c,ap f,ap e,bb,bb] M:=rfl
def AT(w:Ad)(y:DX):ar:=aA (aS<|aa (ac 2)<|aa (ac 3)<|aa (ac 4)<|aa (ac 5)<|aa (ai av (ac 3)<|am<|aj (aZ w) y 2<|aa (ac 0)<|aa (bc cq<|aa (ac 3) af) af) af)
def CP(w:Ad)(y:DX):ar:=ah (aq (am<|aj (Y0 w 24) y 5<|aa (ac 0)<|aa (aS<|aa (ac 2)<|aa (ac 3)<|aa (ac 4) af)<|aa (bQ<|aa (ac 1) af)<|aa (¬0)<|aa (ai av (am<|bQ<|aa (¬6)<|aa (¬12)<|aa (¬30) af)<|am<|aj (aZ w) y 2<|aa (ac 0)<|aa (¬3) af) af)<|ag 5) (AT w y)
def za(w:Ad)(y:DX):ar:=ah (aq (ai av (am<|bQ<|aa (¬0)<|aa (ai b6 (¬1)<|am<|aj (aZ w) y 2<|aa (ac 0)<|aa (¬4) af)<|aa (am<|aj (aZ w) y 2<|aa (ac 0)<|aa (¬41) af) af)<|am<|aj (aZ w) y 2<|aa (ac 0)<|aa (¬3) af)<|ag 4) (CP w y)
def Cd(w:Ad)(y:DX):ar:=ah (aq (am<|aj (A2 w) y 2<|aa (ac 0)<|aa (ai b6 (¬1)<|am<|aj (aZ w) y 2<|aa (ac 0)<|aa (ai av (am<|bQ<|aa (¬3)<|aa (¬5)<|aa (¬12) af)<|am<|aj (aZ w) y 2<|aa (ac 0)<|aa (¬3) af) af) af)<|ag 3) (za w y)
def Ai(w:Ad)(y:DX):ar:=ah (aq (ai av (am<|bQ<|aa (¬2)<|aa (¬3)<|aa (ai b6 (¬2)<|am<|aj (aZ w) y 2<|aa (ac 0)<|aa (¬9) af)<|aa (ai b6 (¬2)<|am<|aj (aZ w) y 2<|aa (ac 0)<|aa (¬996) af) af)<|am<|aj (aZ w) y 2<|aa (ac 0)<|aa (¬4) af)<|ag 2) (Cd w y)
def zM(ad:Ad):Sd:=aK ["pot","most","m","names","many","rows"] (Ai ad)
theorem Sg:zM ad [b,a] M Q E=Ai ad (aJ E) Q⁻¹ [ap b,ap a,bb,bb,bb,bb] M:=rfl
def B9(w:Ad)(y:DX):ar:=aA (aS<|aa (ac 2)<|aa (bc bW<|aa (am<|aN (dW<|aa (ai av (ac 1) ¬2) af) ["k"] [0,1] (ag 0) cX<|am<|aj (aZ w) jP 2<|aa (ac 1)<|aa (ai av (ac 2) ¬0) af) af) af)
def HG(w:Ad)(y:DX):ar:=ah (aq (bc bW<|aa (am<|aN (bM<|ai av (ac 1) ¬1) ["name"] [0,1] (ag 0) cX<|am<|aj (aZ w) jP 2<|aa (ac 1)<|aa (ai av (ac 2) ¬0) af) af)<|ag 2) (B9 w y)
def AU(ad:Ad):Sd:=aK ["pot","plan","numbers"] (HG ad)
theorem u_q25:AU ad [b,a] M Q E=HG ad (aJ E) Q⁻¹ [ap b,ap a,bb] M:=rfl
def BJ(w:Ad)(y:DX):ar:=aA (ai av (ac 3)<|ai gb (ai av (ac 2)<|ai av (ac 1) ¬2)<|bc cq<|aa (ac 3) af)
def Bw(w:Ad)(y:DX):ar:=aA (ai gb (am<|ai b6 (ac 7)<|ac 8)<|ac 6)
def zN(w:Ad)(y:DX):ar:=aA (nv (al<|ai Ed (ac 7)<|ac 8) (¬1) ¬0)
def yR(w:Ad)(y:DX):ar:=aA (nv (al<|ai cc (ac 7)<|ac 8) (¬1) ¬0)
def zo(w:Ad)(y:DX):ar:=ah (aG (al<|ai cc (ai av (ac 1) ¬0) ¬"less") (zN w y) aB) (yR w y)
def Ao(w:Ad)(y:DX):ar:=ah (aG (al<|ai cc (ai av (ac 1) ¬0) ¬"by") (aA<|ai gb (ai jb (ac 7)<|ac 8)<|ac 6) aB) (zo w y)
def Bh(w:Ad)(y:DX):ar:=ah (aG (al<|ai cc (ai av (ac 1) ¬0) ¬"sum") (Bw w y) aB) (Ao w y)
def AI(w:Ad)(y:DX):ar:=ah (aq (ai av (ac 2)<|ai av (ac 1) ¬3)<|ag 8) (Bh w y)
def BH(w:Ad)(y:DX):ar:=ah (aq (ai av (ac 2)<|ai av (ac 1) ¬2)<|ag 7) (AI w y)
def wq(w:Ad)(y:DX):ar:=ah (aG (al<|ai cc (ai av (ac 1) ¬0) ¬"pick") (BJ w y) aB) (BH w y)
def uX(w:Ad)(y:DX):ar:=ah (aG (al<|ai cc (ai av (ac 1) ¬0) ¬"take") (aA<|ai av (ac 3)<|ai av (ac 1) ¬2) aB) (wq w y)
def vH(w:Ad)(y:DX):ar:=ah (aG (al<|ai cc (ai av (ac 1) ¬0) ¬"put") (aA<|ai av (ac 1) ¬2) aB) (uX w y)
def oY(w:Ad)(y:DX):ar:=ah (aq (ac 0)<|Ee 5<|aM (ag 2)<|aM (ag 3)<|aM (ag 4)<|aM (ag 5)<|aM (ag 6) dg) (vH w y)
def uP(ad:Ad):Sd:=aK ["gone","row","numbers","pieces","steps","most","m","one","other"] (oY ad)
theorem Ci:uP ad [b,a] M Q E=oY ad (aJ E) Q⁻¹ [ap b,ap a,bb,bb,bb,bb,bb,bb,bb] M:=rfl
def HU(w:Ad)(y:DX):ar:=ah (bh<|kH "list" bC (ai av (ac 0) ¬2)<|aa (aS<|aa (ac 1)<|aa (ac 2) af) af) (aA<|dC<|.bl true)
def Jk(w:Ad)(y:DX):ar:=ah (aG (al<|ai cc (bc cq<|aa (ai av (ac 0) ¬2) af)<|ai av (ac 0) ¬3) (aA<|dC<|.bl cp) aB) (HU w y)
def vU(ad:Ad):Sd:=aK ["gone","place","number"] (Jk ad)
theorem u_q9:vU ad [b,a,c] M Q E=Jk ad (aJ E) Q⁻¹ [ap b,ap a,ap c] M:=rfl
def sh(w:Ad)(Y3 YZ:Sd)(y:DX):ar:=aG (gu<|cO<|am<|aj YZ y 3<|aa (ac 0)<|aa (ai av (ac 1) ¬2)<|aa (ai b6 (ac 2)<|aS<|aa (ac 3) af) af) (aA<|dC<|.bl cp) aB
def zS(w:Ad)(Y3 YZ:Sd)(y:DX):ar:=ah (aG (al<|ai cc (ac 4) ¬0) (aA<|dC<|.bl true) aB) (sh w Y3 YZ y)
def r9(w:Ad)(Y3 YZ:Sd)(y:DX):ar:=ah (aG (gu<|cO<|am<|aj (vU w) y 3<|aa (ac 0)<|aa (ai b6 (ac 2)<|aS<|aa (ac 3) af)<|aa (ac 4) af) (aA<|dC<|.bl cp) aB) (zS w Y3 YZ y)
def lQ(w:Ad)(Y3 YZ:Sd)(y:DX):ar:=ah (aq (nv (al<|ai cc (ai av (ai av (ac 0) ¬0)<|ai av (ac 1) ¬1) ¬0) (¬0) ¬1)<|ag 4) (r9 w Y3 YZ y)
def A1(w:Ad)(Y3 YZ:Sd)(y:DX):ar:=ah (eE (dW<|aa (ai b6 (ai av (ac 0) ¬3) ¬1) af) (ag 3)<|lQ w Y3 YZ y) (aA<|dC<|.bl cp)
def r8(w:Ad)(Y3 YZ:Sd)(y:DX):ar:=aG (gu<|cO<|am<|aj Y3 y 3<|aa (ac 0)<|aa (ac 4)<|aa (ac 5) af) (aA<|dC<|.bl cp) aB
def q_(w:Ad)(Y3 YZ:Sd)(y:DX):ar:=aG (P6 (gu<|cO<|am<|aj (vU w) y 3<|aa (ac 0)<|aa (ac 5)<|aa (ac 6) af)<|gu<|cO<|am<|aj YZ y 3<|aa (ac 0)<|aa (ac 7)<|aa (ai b6 (ac 5)<|aS<|aa (ac 6) af) af) (aA<|dC<|.bl cp) aB
def rE(w:Ad)(Y3 YZ:Sd)(y:DX):ar:=ah (aq (ai av (am<|bQ<|aa (ai av (ac 4) ¬3)<|aa (ai av (ac 4) ¬2) af)<|ac 6)<|ag 7) (q_ w Y3 YZ y)
def tT(w:Ad)(Y3 YZ:Sd)(y:DX):ar:=ah (aq (nv (al<|ai cc (ai av (ai av (ac 0) ¬0)<|ai av (ac 4) ¬1) ¬0) (¬0) ¬1)<|ag 6) (rE w Y3 YZ y)
def C0(w:Ad)(Y3 YZ:Sd)(y:DX):ar:=aq (ac 8) (cZ (ai av (ac 0) ¬0)<|ai av (ac 4) ¬1)
def m9(w:Ad)(Y3 YZ:Sd)(y:DX):ar:=ah (aG (gu<|cO<|am<|aj (vU w) y 3<|aa (ac 0)<|aa (ac 5)<|aa (ac 8) af) (aA<|dC<|.bl cp) aB) (C0 w Y3 YZ y)
def lh(w:Ad)(Y3 YZ:Sd)(y:DX):ar:=ah (aq (am<|aj (uP w) y 2<|aa (ac 0)<|aa (ac 4) af)<|ag 8) (m9 w Y3 YZ y)
def lT(w:Ad)(Y3 YZ:Sd)(y:DX):ar:=aG (al<|ai cc (ai av (ac 4) ¬0) ¬"if") (tT w Y3 YZ y) (lh w Y3 YZ y)
def tq(w:Ad)(Y3 YZ:Sd)(y:DX):ar:=aG (al<|ai cc (ai av (ac 4) ¬0) ¬"again") (r8 w Y3 YZ y) (lT w Y3 YZ y)
def o9(w:Ad)(Y3 YZ:Sd)(y:DX):ar:=ah (aq (ai b6 (ac 2)<|aS<|aa (ac 3) af)<|ag 5) (tq w Y3 YZ y)
def Aa(w:Ad)(Y3 YZ:Sd)(y:DX):ar:=ah (eE (qG<|aa (ac 1) af) (dq 2<|aM (ag 3)<|aM (ag 4) dg)<|o9 w Y3 YZ y) (aA<|dC<|.bl true)
mutual
noncomputable def Y3(ad:Ad):Nat->Sd
 |0=>λ_ _ _ _=>False
 |n+1=>aK ["gone","row","place","turn","look"] (A1 ad (Y3 ad n)<|YZ ad n)
noncomputable def YZ(ad:Ad):Nat->Sd
 |0=>λ_ _ _ _=>False
 |n+1=>aK ["gone","rows","place","at","row","here","look","inner","number"] (Aa ad (Y3 ad n)<|YZ ad n)
end
theorem SG{n:Nat}:Y3 ad (n+1) [b,a,c] M Q E=A1 ad (Y3 ad n) (YZ ad n) (aJ E) Q⁻¹ [ap b,ap a,ap c,bb,bb] M:=rfl
theorem Sf{n:Nat}:YZ ad (n+1) [b,a,c] M Q E=Aa ad (Y3 ad n) (YZ ad n) (aJ E) Q⁻¹ [ap b,ap a,ap c,bb,bb,bb,bb,bb,bb] M:=rfl
def zy(w:Ad)(y:DX):ar:=aA (aS<|aa (ai av (ac 3) ¬2)<|aa (dC .non) af)
def BK(w:Ad)(y:DX):ar:=aA (aS<|aa (ai av (ac 3) ¬2)<|aa (bc bW<|aa (am<|aN (bM<|ai av (ac 0) ¬1) ["name"] [3] (ag 0) cX<|ai av (ai av (ac 1) ¬0)<|ac 0) af) af)
def AX(w:Ad)(y:DX):ar:=ah (aG (gu<|cO<|am<|aj (YZ w 24) y 3<|aa (ac 3)<|aa (ai av (ac 0) ¬3)<|aa (aS af) af) (zy w y) aB) (BK w y)
def B3(w:Ad)(y:DX):ar:=ah (aq (bQ<|aa (gE<|aa (ai av (ac 0) ¬1)<|aa (ai av (ac 1) ¬0) af)<|aa (ai av (ac 1) ¬1)<|aa (bQ af)<|aa (ac 2)<|aa (ai av (ac 0) ¬0) af)<|ag 3) (AX w y)
def kf(ad:Ad):Sd:=aK ["plan","stand","most","gone"] (B3 ad)
theorem QJ:kf ad [b,a,c] M Q E=B3 ad (aJ E) Q⁻¹ [ap b,ap a,ap c,bb] M:=rfl
def At(w:Ad)(y:DX):ar:=aA (bc bW<|aa (am<|aN (bM<|ac 0) ["row"] [] (ag 0) (al<|ai yb (ai av (ac 0) ¬0)<|am<|bQ<|aa (¬"if")<|aa (¬"again") af)<|ac 0) af)
def wc(ad:Ad):Sd:=aK ["rows"] (At ad)
theorem S_:wc ad [a] M Q E=At ad (aJ E) Q⁻¹ [ap a] M:=rfl
def lI(w:Ad)(y:DX):ar:=aA (aS<|aa (ai av (ai av (ac 4) ¬0)<|ac 5)<|aa (ai av (ai av (ac 4) ¬1)<|ac 5) af)
def lR(w:Ad)(y:DX):ar:=ah (aq (Iq iA (ai av (ac 0) ¬1)<|aa (ai av (ac 0) ¬4) af)<|ag 5) (lI w y)
def lg(w:Ad)(y:DX):ar:=ah (aG (al<|ai w8 (dC .non)<|ac 4) (aA<|dC .non) aB) (lR w y)
def Bz(w:Ad)(y:DX):ar:=ah (bO (cV 4<|aN (bM<|am<|bQ<|aa (ac 1)<|aa (ac 2) af) ["stand"] [0,3] (ag 0) cX<|ai av (kg<|aj (kf w) jP 3<|aa (ac 1)<|aa (ac 0)<|aa (ac 2) af) ¬1) 4) (lg w y)
def mR(ad:Ad):Sd:=aK ["plan","sound","faulty","most","last","at"] (Bz ad)
theorem QM:mR ad [b,a,c,e] M Q E=Bz ad (aJ E) Q⁻¹ [ap b,ap a,ap c,ap e,bb,bb] M:=rfl
def Ch(w:Ad)(y:DX):ar:=aA (ai gb (am<|ai b6 (ai b6 (ac 2) ¬1)<|am<|aj (aZ w) y 2<|aa (ac 0)<|aa (ai kM (ac 1) ¬1) af)<|ac 1)
def oa(ad:Ad):Sd:=aK ["pot","m","number"] (Ch ad)
theorem Tb:oa ad [b,a,c] M Q E=Ch ad (aJ E) Q⁻¹ [ap b,ap a,ap c] M:=rfl
def lU(w:Ad)(y:DX):ar:=aq (ai b6 (am<|wS (ac 0) cm<|dk ¬3)<|aS<|aa (ai b6 (ac 5)<|aS<|aa (ac 7) af)<|aa (ai av (ac 0) ¬4) af) (ag 0)
def lY(w:Ad)(y:DX):ar:=ah (aq (aS<|aa (¬"sum")<|aa (ai av (ac 0) ¬4)<|aa (ai av (ac 0) ¬4)<|aa (ac 4) af)<|ag 7) (lU w y)
def lK(w:Ad)(y:DX):ar:=ah (aG (al<|ai cc (ai av (ac 6) ¬0)<|ai av (ac 6) ¬1) (lY w y) aB) (aA<|ac 0)
def m3(w:Ad)(y:DX):ar:=ah (aq (am<|aj (mR w) y 4<|aa (ac 0)<|aa (ac 1)<|aa (ac 2)<|aa (ac 3) af)<|ag 6) (lK w y)
def lA(w:Ad)(y:DX):ar:=ah (aq (ai b6 (am<|wS (ac 0) cm<|dk ¬3)<|aS<|aa (ac 5)<|aa (ai av (ac 0) ¬4) af)<|ag 0) (m3 w y)
def Co(w:Ad)(y:DX):ar:=ah (aq (bc bW<|aa (am<|aN (bM<|am<|aj (wc w) y 1<|aa (ai av (ac 0) ¬3) af) ["row"] [4] (ag 0) (al<|ai qP (ai av (ac 0) ¬1)<|ac 1)<|ac 0) af)<|ag 5) (lA w y)
def Cz(ad:Ad):Sd:=aK ["plan","sound","faulty","most","name","rows","both","more"] (Co ad)
theorem Sq:Cz ad [a,b,c,f,e] M Q E=Co ad (aJ E) Q⁻¹ [ap a,ap b,ap c,ap f,ap e,bb,bb,bb] M:=rfl
def rT(w:Ad)(y:DX):ar:=aq (aS<|aa (aS<|aa (¬"take")<|aa (ai av (ac 2) ¬0)<|aa (¬0) af)<|aa (aS<|aa (¬"sum")<|aa (ai av (ac 0) ¬4)<|aa (ai av (ac 0) ¬4)<|aa (ai av (ac 2) ¬0) af) af) (ag 1)
def oz(w:Ad)(y:DX):ar:=aA (ai b6 (am<|wS (ac 0) cm<|dk ¬3)<|aS<|aa (am<|ai b6 (ai av (ac 0) ¬3)<|ac 1)<|aa (ai av (ac 0) ¬4) af)
def t6(w:Ad)(y:DX):ar:=ah (aG (al<|ai qP (ac 2)<|am<|bQ af) (rT w y) aB) (oz w y)
def rZ(w:Ad)(y:DX):ar:=ah (bO (cV 2<|aN (bM<|ai av (ac 0) ¬1) ["one"] [0] (ag 0) (al<|ai qP (ac 0)<|ai av (ac 1) ¬4)<|ac 0) 2) (t6 w y)
def JT(w:Ad)(y:DX):ar:=ah (aq (aS<|aa (aS<|aa (¬"take")<|aa (ai av (ac 0) ¬4)<|aa (¬0) af) af)<|ag 1) (rZ w y)
def Kz(ad:Ad):Sd:=aK ["plan","more","rest"] (JT ad)
theorem u_q7:Kz ad [a] M Q E=JT ad (aJ E) Q⁻¹ [ap a,bb,bb] M:=rfl
def sG(w:Ad)(y:DX):ar:=aq (am<|aj (oa w) y 3<|aa (ac 0)<|aa (ai av (ac 3) ¬0)<|aa (ai av (ac 5)<|ac 7) af) (cZ (ac 5)<|ac 7)
def tK(w:Ad)(y:DX):ar:=aq (am<|ai b6 (ac 8)<|bc FJ<|aa (bc cq<|aa (ac 6) af)<|aa (ai jb (¬2)<|ac 2) af) (ag 8)
def sB(w:Ad)(y:DX):ar:=ah (aq (am<|aj (oa w) y 3<|aa (ac 0)<|aa (ai av (ac 3) ¬0)<|aa (ai av (ac 6) ¬0) af)<|cZ (ac 6) ¬0) (tK w y)
def qS(w:Ad)(y:DX):ar:=aq (am<|aj (oa w) y 3<|aa (ac 0)<|aa (ai av (ac 3) ¬0)<|aa (ai av (ai av (ac 4) ¬0)<|ac 10) af) (cZ (ac 5)<|ac 10)
def rV(w:Ad)(y:DX):ar:=aq (am<|aj (oa w) y 3<|aa (ac 0)<|aa (ai av (ac 3) ¬0)<|aa (ai av (ai av (ac 4) ¬1)<|ac 10) af) (cZ (ac 6)<|ac 10)
def t7(w:Ad)(y:DX):ar:=ah (aq (ai kM (ac 10)<|bc cq<|aa (ac 5) af)<|ag 10) (rV w y)
def sC(w:Ad)(y:DX):ar:=aG (al<|ai Ed (ac 10)<|bc cq<|aa (ac 5) af) (qS w y) (t7 w y)
def lF(w:Ad)(y:DX):ar:=ah (aq (am<|aj (aZ w) y 2<|aa (ac 0)<|aa (ac 8) af)<|ag 10) (sC w y)
def t_(w:Ad)(y:DX):ar:=aq (ai b6 (am<|wS (ac 3) cm<|dk ¬3)<|aS<|aa (am<|aj (wc w) y 1<|aa (ai av (ac 3) ¬3) af)<|aa (ai av (ac 3) ¬4) af) (ag 3)
def p5(w:Ad)(y:DX):ar:=aq (am<|aj (Cz w) y 5<|aa (ac 3)<|aa (ac 4)<|aa (ac 11)<|aa (ac 12)<|aa (ai av (ai av (ac 3) ¬1)<|ac 7) af) (ag 3)
def vT(w:Ad)(y:DX):ar:=aq (am<|aj (Kz w) y 1<|aa (ac 3) af) (ag 3)
def iS(w:Ad)(y:DX):ar:=aG (al<|ai Ed (ac 7)<|bc cq<|aa (ac 5) af) (p5 w y) (vT w y)
def iR(w:Ad)(y:DX):ar:=aA (aS<|aa (ac 3)<|aa (ac 4)<|aa (ac 11)<|aa (ac 12) af)
def oJ(w:Ad)(y:DX):ar:=ah (aG (al<|ai cc (ai av (ac 13) ¬0)<|ai av (ac 13) ¬1) (iS w y) aB) (iR w y)
def je(w:Ad)(y:DX):ar:=ah (aq (am<|aj (mR w) y 4<|aa (ac 3)<|aa (ac 4)<|aa (ac 11)<|aa (ac 12) af)<|ag 13) (oJ w y)
def ji(w:Ad)(y:DX):ar:=ah (aG (al<|ai iC (am<|aj (mR w) y 4<|aa (ac 3)<|aa (ac 4)<|aa (ac 11)<|aa (ai kM (ac 12) ¬4) af)<|dC .non) (t_ w y) aB) (je w y)
def oS(w:Ad)(y:DX):ar:=ah (aq (ai b6 (¬30)<|am<|aj (aZ w) y 2<|aa (ac 0)<|aa (¬20) af)<|ag 12) (ji w y)
def nN(w:Ad)(y:DX):ar:=ah (aq (aS<|aa (bc bW<|aa (ac 5) af)<|aa (bc bW<|aa (ac 6) af) af)<|ag 11) (oS w y)
def j6(w:Ad)(y:DX):ar:=ah (eE (dW<|aa (ai kM (ac 2) ¬1) af) (ag 9)<|lF w y) (nN w y)
def mU(w:Ad)(y:DX):ar:=ah (aG (al<|ai Ed (ac 7)<|bc cq<|aa (ac 5) af) (sG w y)<|sB w y) (j6 w y)
def nV(w:Ad)(y:DX):ar:=ah (aq (bc cq<|aa (ac 5) af)<|ag 8) (mU w y)
def nX(w:Ad)(y:DX):ar:=ah (aq (am<|aj (aZ w) y 2<|aa (ac 0)<|aa (ai jb (¬4)<|bc cq<|aa (ac 5) af) af)<|ag 7) (nV w y)
def ou(w:Ad)(y:DX):ar:=ah (aq (bc dS<|aa (ai av (ac 4) ¬1) af)<|ag 6) (nX w y)
def mP(w:Ad)(y:DX):ar:=ah (aq (bc dS<|aa (ai av (ac 4) ¬0) af)<|ag 5) (ou w y)
def o5(w:Ad)(y:DX):ar:=ah (aq (am<|aj (AU w) y 2<|aa (ac 0)<|aa (ac 3) af)<|ag 4) (mP w y)
def n8(w:Ad)(y:DX):ar:=ah (aq (am<|ai b6 (ai b6 (am<|wS (ac 3) cm<|dk ¬2)<|aS<|aa (bc J4<|aa (¬1)<|aa (ai av (ac 3) ¬2) af) af)<|am<|wS (ac 3) (dk ¬3) cm)<|ag 3) (o5 w y)
def Bk(w:Ad)(y:DX):ar:=ah (aq (am<|aj (zM w) y 2<|aa (ac 0)<|aa (ac 1) af)<|ag 3) (n8 w y)
def BX(ad:Ad):Sd:=aK ["pot","most_rows","few","plan","sound","numbers","pieces","first","some","k","at","faulty","most","both"] (Bk ad)
theorem Sr:BX ad [b,a,c] M Q E=Bk ad (aJ E) Q⁻¹ [ap b,ap a,ap c,bb,bb,bb,bb,bb,bb,bb,bb,bb,bb,bb] M:=rfl
def tX(w:Ad)(y:DX):ar:=aA (ai b6 (ac 5)<|am<|aN (dW<|aa (ai av (ac 1) ¬2) af) ["k"] [2,3] (ag 0) (al<|ai qP (ai av (ai av (ac 1) ¬1)<|ac 0)<|ai av (ai av (ac 2) ¬1)<|ac 0)<|ac 0)
def tQ(w:Ad)(y:DX):ar:=ah (bO (cV 5<|aN (uC<|aa (ai av (ac 1) ¬1)<|aa (ai av (ac 2) ¬0)<|aa (ai av (ac 3) ¬0) af) ["name","one","other"] [] (dq 3<|aM (ag 0)<|aM (ag 1)<|aM (ag 2) dg) (al<|ai qP (ac 1)<|ac 2)<|ac 0) 5) (tX w y)
def C1(w:Ad)(y:DX):ar:=ah (aq (ac 0)<|dq 4<|aM (ag 1)<|aM (ag 2)<|aM (ag 3)<|aM (ag 4) dg) (tQ w y)
def wg(ad:Ad):Sd:=aK ["case","plan","sound","faulty","most","found"] (C1 ad)
theorem RQ:wg ad [a] M Q E=C1 ad (aJ E) Q⁻¹ [ap a,bb,bb,bb,bb,bb] M:=rfl
def jm(w:Ad)(y:DX):ar:=bh (kH "list" bC (ac 6)<|aa (nv (al<|ai w8 (ac 7)<|ac 1) (ac 9)<|ac 8) af)
def rK(w:Ad)(y:DX):ar:=aA (aS<|aa (bc bW<|aa (ac 6) af)<|aa (bc bW<|aa (ac 10) af) af)
def rA(w:Ad)(y:DX):ar:=ah (bO (cV 10<|aN (dW<|aa (ai av (ac 2) ¬2) af) ["k"] [3,1,4] (ag 0) cX<|nv (al<|ai w8 (ac 0)<|ac 2) (ai av (ai av (ac 3) ¬1)<|ac 0)<|ai av (ai av (ac 1) ¬1)<|ac 0) 10) (rK w y)
def sx(w:Ad)(y:DX):ar:=ah (eE (uC<|aa (ai av (ac 2) ¬1)<|aa (ai av (ac 3) ¬0)<|aa (ai av (ac 4) ¬0) af) (dq 3<|aM (ag 7)<|aM (ag 8)<|aM (ag 9) dg)<|jm w y) (rA w y)
def Ay(w:Ad)(y:DX):ar:=ah (aq (ac 0)<|dq 4<|aM (ag 2)<|aM (ag 3)<|aM (ag 4)<|aM (ag 5) dg) (ah (aq (bQ af)<|ag 6)<|sx w y)
def CF(ad:Ad):Sd:=aK ["case","mix","plan","sound","faulty","most","numbers","name","one","other","pieces"] (Ay ad)
theorem QW:CF ad [b,a] M Q E=Ay ad (aJ E) Q⁻¹ [ap b,ap a,bb,bb,bb,bb,bb,bb,bb,bb,bb] M:=rfl
def m4(w:Ad)(y:DX):ar:=aq (am<|ai b6 (ac 1)<|am<|aN (bM<|ac 1) ["one"] [2] (ag 0) cX<|am<|ai b6 (ac 0)<|am<|bQ<|aa (ac 1) af) (ag 1)
def Aq(w:Ad)(y:DX):ar:=ah (eE (dW<|aa (ac 0) af) (ag 2)<|m4 w y) (aA<|ac 1)
def Gx(w:Ad)(y:DX):ar:=ah (aq (am<|bQ<|aa (am<|bQ af) af)<|ag 1) (Aq w y)
def Bb(ad:Ad):Sd:=aK ["many","found","k"] (Gx ad)
theorem u_q10:Bb ad [a] M Q E=Gx ad (aJ E) Q⁻¹ [ap a,bb,bb] M:=rfl
def tE(w:Ad)(y:DX):ar:=aq (ai av (am<|bQ<|aa (¬"sound")<|aa (¬"faulty") af)<|Iq iU (ac 7)<|aa (ai av (ac 10)<|ac 6) af) (ag 11)
def mB(w:Ad)(y:DX):ar:=aq (ac 11) (cZ (ac 8)<|bc bW<|aa (ac 9) af)
def y4(w:Ad)(y:DX):ar:=ah (aG (pj (al<|ai fD (ac 10)<|dC .non)<|al<|ai w8 (ai av (ac 10)<|ac 6)<|ac 7) (tE w y) aB) (mB w y)
def yh(w:Ad)(y:DX):ar:=ah (aq (¬"other")<|ag 11) (y4 w y)
def jX(w:Ad)(y:DX):ar:=ah (aq (ai av (kg<|aj (kf w) y 3<|aa (ac 1)<|aa (am<|aj (CF w) y 2<|aa (ac 0)<|aa (am<|aN (bM<|ac 9) ["k"] [5] (ag 0) cX<|ai av (ac 1)<|ac 0) af)<|aa (ac 4) af) ¬1)<|ag 10) (yh w y)
def yI(w:Ad)(y:DX):ar:=ah (eE (bM<|am<|aj (Bb w) y 1<|aa (bc cq<|aa (ac 5) af) af) (ag 9)<|jX w y) (aA<|ac 8)
def wZ(w:Ad)(y:DX):ar:=ah (aq (am<|aj (mR w) y 4<|aa (ac 1)<|aa (ac 2)<|aa (ac 3)<|aa (ac 4) af)<|ag 7) (ah (aq Fv<|ag 8)<|yI w y)
def xu(w:Ad)(y:DX):ar:=ah (aq (Iq iA (ai av (ac 1) ¬1)<|aa (ai av (ac 1) ¬4) af)<|ag 6) (wZ w y)
def xX(w:Ad)(y:DX):ar:=ah (aq (am<|aj (wg w) y 1<|aa (ac 0) af)<|ag 5) (xu w y)
def Jr(w:Ad)(y:DX):ar:=ah (aq (ac 0)<|dq 4<|aM (ag 1)<|aM (ag 2)<|aM (ag 3)<|aM (ag 4) dg) (xX w y)
def L0(ad:Ad):Sd:=aK ["case","plan","sound","faulty","most","some","at","both","found","numbers","end","word"] (Jr ad)
theorem u_q3:L0 ad [a] M Q E=Jr ad (aJ E) Q⁻¹ [ap a,bb,bb,bb,bb,bb,bb,bb,bb,bb,bb,bb] M:=rfl
def lC(w:Ad)(y:DX):ar:=aA (aN (bM<|ac 1) ["one"] [2] (ag 0) cX<|am<|aN (bM<|ac 0) ["k"] [1] (ag 0) cX<|ai av (ac 1)<|ac 0)
def Aw(w:Ad)(y:DX):ar:=ah (aq (am<|aj (wg w) y 1<|aa (ac 0) af)<|ag 2) (lC w y)
def yL(ad:Ad):Sd:=aK ["case","lists","some"] (Aw ad)
theorem Tn:yL ad [b,a] M Q E=Aw ad (aJ E) Q⁻¹ [ap b,ap a,bb] M:=rfl
def BW(w:Ad)(Y7:Sd)(y:DX):ar:=aA (oQ (bc d_<|aa (ac 0)<|aa (dC<|.ty "bool") af)<|ai cc (ac 0)<|ac 1)
def Bj(w:Ad)(Y7:Sd)(y:DX):ar:=aA (oQ (bc d_<|aa (ac 0)<|aa (dC<|.ty "int") af)<|oQ (MS<|bc d_<|aa (ac 0)<|aa (dC<|.ty "bool") af)<|ai cc (ac 0)<|ac 1)
def CC(w:Ad)(Y7:Sd)(y:DX):ar:=aA (oQ (bc d_<|aa (ac 0)<|aa (dC<|.ty "str") af)<|ai cc (ac 0)<|ac 1)
def Bt(w:Ad)(Y7:Sd)(y:DX):ar:=aA (bc O_<|aa (am<|aN (RV<|aa (ac 0)<|aa (ac 1) af) ["one","other"] [] (dq 2<|aM (ag 0)<|aM (ag 1) dg) cX<|am<|aj Y7 jP 2<|aa (ac 0)<|aa (ac 1) af) af)
def Ac(w:Ad)(Y7:Sd)(y:DX):ar:=ah (aG (al<|ai qP (bc cq<|aa (ac 0) af)<|bc cq<|aa (ac 1) af) (aA<|dC<|.bl cp) aB) (Bt w Y7 y)
def BD(w:Ad)(Y7:Sd)(y:DX):ar:=ah (aG (P6 (al<|ai qP (bc d_<|aa (ac 1)<|aa (dC<|.ty "tuple") af)<|bc d_<|aa (ac 0)<|aa (dC<|.ty "tuple") af)<|al<|ai qP (bc d_<|aa (ac 1)<|aa (dC<|.ty "list") af)<|bc d_<|aa (ac 0)<|aa (dC<|.ty "list") af) (aA<|dC<|.bl cp) aB) (Ac w Y7 y)
def CD(w:Ad)(Y7:Sd)(y:DX):ar:=ah (aG (cO<|bc d_<|aa (ac 1)<|aa (dC<|.ty "str") af) (CC w Y7 y) aB) (BD w Y7 y)
def A7(w:Ad)(Y7:Sd)(y:DX):ar:=ah (aG (cO<|bc d_<|aa (ac 1)<|aa (dC<|.ty "int") af) (Bj w Y7 y) aB) (CD w Y7 y)
def Bi(w:Ad)(Y7:Sd)(y:DX):ar:=ah (aG (cO<|bc d_<|aa (ac 1)<|aa (dC<|.ty "bool") af) (BW w Y7 y) aB) (A7 w Y7 y)
def ix(w:Ad)(Y7:Sd)(y:DX):ar:=ah (aG (al<|ai iC (ac 1)<|dC .non) (aA<|ai iC (ac 0)<|dC .non) aB) (Bi w Y7 y)
def Y7(ad:Ad):Nat->Sd
 |0=>λ_ _ _ _=>False
 |n+1=>aK ["found","due"] (ix ad<|Y7 ad n)
theorem nz{n:Nat}:Y7 ad (n+1) [b,a] M Q E=ix ad (Y7 ad n) (aJ E) Q⁻¹ [ap b,ap a] M:=rfl
def mj(w:Ad)(y:DX):ar:=aA (oQ (am<|aj (Y7 w 24) y 2<|aa (am<|aj (qo w) y 2<|aa (ac 2)<|aa (¬64) af)<|aa (ac 7) af)<|ai cc (bc jJ<|aa (ac 2) af)<|ac 3)
def lj(w:Ad)(y:DX):ar:=ah (bh<|kH "list" bC (ac 8)<|aa (¬"a") af) (mj w y)
def lc(w:Ad)(y:DX):ar:=ah (aG (gu<|cO<|am<|aj (Y7 w 24) y 2<|aa (ac 8)<|aa (ac 7) af) (aA<|dC<|.bl cp) aB) (lj w y)
def ma(w:Ad)(y:DX):ar:=ah (aq (xD (qo w) y 2 (500)<|aa (ac 2) af)<|ag 8) (lc w y)
def lJ(w:Ad)(y:DX):ar:=ah (aq (ai av (am<|aj (yL w) y 2<|aa (ac 2)<|aa (am<|bQ<|aa (bc uk<|aa (am<|aN (bM<|ac 5) ["one"] [6] (ag 0) (al<|ai cc (bc cq<|aa (ac 0) af)<|ac 1)<|ac 0) af) af) af) ¬0)<|ag 7) (ma w y)
def kR(w:Ad)(y:DX):ar:=ah (aq (bc yT<|aa (am<|aN (bM<|ac 5) ["one"] [] (ag 0) cX<|bc cq<|aa (ac 0) af) af)<|ag 6) (lJ w y)
def lH(w:Ad)(y:DX):ar:=ah (bO (cV 5<|aN (C8<|ac 4) ["one"] [4] (ag 0) (al<|ai cc (ai vW (ac 1)<|ac 0) ¬"faulty")<|am<|bc dS<|aa (ac 0) af) 5) (kR w y)
def lX(w:Ad)(y:DX):ar:=ah (aq (G6<|aj (L0 w) y 1<|aa (ac 2) af)<|ag 4) (lH w y)
def lL(w:Ad)(y:DX):ar:=ah (aq (bc jJ<|aa (ac 2) af)<|ag 3) (lX w y)
def ja(w:Ad)(y:DX):ar:=ah (aq (am<|aj (BX w) y 3<|aa (ac 1)<|aa (¬24)<|aa (ai b6 (¬1)<|am<|aj (aZ w) y 2<|aa (ac 1)<|aa (¬5) af) af)<|ag 2) (lL w y)
def Ce(w:Ad)(y:DX):ar:=ah (aq (aj (zG w) y 1<|aa (ac 0) af)<|ag 1) (ja w y)
def Fa(ad:Ad):Sd:=aK ["script","pot","case","before","verdicts","causes","few","due","found"] (Ce ad)
theorem RB:Fa ad [a] M Q E=Ce ad (aJ E) Q⁻¹ [ap a,bb,bb,bb,bb,bb,bb,bb,bb] M:=rfl
end
set_option genInjectivity false in
structure En(P:fx)(w:hG)(K:TH)(mg:aa4)(base:g4)(ad:Ad):Prop where
 u0:Cls K ad.C_Ends
 u1:mg "Ends"=ap (.ref ad.C_Ends)
 u2:Cls K ad.C_Going
 u3:mg "Going"=ap (.ref ad.C_Going)
 u4:Cls K ad.C_Outcome
 u5:mg "Outcome"=ap (.ref ad.C_Outcome)
 u6:Cls K ad.C_Walk
 u7:mg "Walk"=ap (.ref ad.C_Walk)
 u8:NoAttr K ad.C_Ends "count"
 u9:NoAttr K ad.C_Ends "limit"
 u10:NoAttr K ad.C_Going "left"
 u11:NoAttr K ad.C_Going "numbers"
 u12:NoAttr K ad.C_Going "pieces"
 u13:NoAttr K ad.C_Going "todo"
 u14:NoAttr K ad.C_Going "unsettled"
 u15:NoAttr K ad.C_Outcome "faulty"
 u16:NoAttr K ad.C_Outcome "sound"
 u17:NoAttr K ad.C_Outcome "verdict"
 u18:NoAttr K ad.C_Walk "most"
 u19:NoAttr K ad.C_Walk "numbers"
 u20:NoAttr K ad.C_Walk "pieces"
 u21:NoAttr K ad.C_Walk "plan"
 u22:NoAttr K ad.C_Walk "steps"
 u23:ExcAt K ad.C_Dry
 u24:mg "Dry"=ap (.ref ad.C_Dry)
 u25:ExcAt K ad.C_NoCase
 u26:mg "NoCase"=ap (.ref ad.C_NoCase)
 u27:ExcAt K ad.C_TooMany
 u28:mg "TooMany"=ap (.ref ad.C_TooMany)
 u29:mg "all"=bb
 u30:mg "bool"=bb
 u31:mg "dict"=bb
 u32:mg "enumerate"=bb
 u33:mg "int"=bb
 u34:mg "isinstance"=bb
 u35:mg "len"=bb
 u36:mg "list"=bb
 u37:mg "max"=bb
 u38:mg "min"=bb
 u39:mg "range"=bb
 u40:mg "repr"=bb
 u41:mg "reversed"=bb
 u42:mg "sorted"=bb
 u43:mg "str"=bb
 u44:mg "tuple"=bb
 u45:mg "zip"=bb
 f1:GI K ad.C_Walk "__init__" "Walk.__init__" QK ad.a1 ad.d1 ["self","plan","stand","most"]
 f2:GM K ad.C_Walk "note_step" "Walk.note_step" Se ad.a2 ad.d2 ["self","place","number"]
 f3:GM K ad.C_Walk "look" "Walk.look" Mz ad.a3 ad.d3 ["self","place","name"]
 f4:GF K mg "run" Mm ad.a4 ad.d4 ["plan","stand","most"]
 f5:GF K mg "mark" My ad.a5 ad.d5 ["plan","stand","most"]
 f6:GF K mg "do_rows" LU ad.a6 ad.d6 ["walk","rows","place"]
 f7:GA K mg "do_row_runs" "do_row" LR ad.a7 ad.d7 ["walk","row","place"]
 f8:GF K mg "do_if" MG ad.a8 ad.d8 ["walk","row","place"]
 f9:GF K mg "do_again" Lw ad.a9 ad.d9 ["walk","row","place"]
 f10:GF K mg "number_of" LK ad.a10 ad.d10 ["plan","numbers","pieces","row"]
 f11:GF K mg "piece_read" Lu ad.a11 ad.d11 ["plan","numbers","row"]
 f12:GF K mg "joined" MC ad.a12 ad.d12 ["word","y","z","wheel"]
 f13:GF K mg "all_things" LI ad.a13 ad.d13 ["plan"]
 f14:GF K mg "in_order" Lh ad.a14 ad.d14 ["plan","things"]
 f15:GF K mg "number_in" Mn ad.a15 ad.d15 ["plan","stand","thing"]
 f16:GF K mg "names_read" ML ad.a16 ad.d16 ["row"]
 f17:GF K mg "unlike" L_ ad.a17 ad.d17 ["plan","one","other"]
 f18:GF K mg "marks" MX ad.a18 ad.d18 ["case"]
 f19:GF K mg "unlike_of" MF ad.a19 ad.d19 ["case"]
 f20:GF K mg "verdict_of" LG ad.a20 ad.d20 ["two","one"]
 f21:GI K ad.C_Going "__init__" "Going.__init__" Td ad.a21 ad.d21 ["self","numbers","pieces","unsettled","todo","left"]
 f22:GM K ad.C_Going "settled" "Going.settled" Re ad.a22 ad.d22 ["self","thing","number"]
 f23:GI K ad.C_Ends "__init__" "Ends.__init__" R7 ad.a23 ad.d23 ["self","limit"]
 f24:GM K ad.C_Ends "one_more" "Ends.one_more" Ri ad.a24 ad.d24 ["self"]
 f25:GF K mg "start" LN ad.a25 ad.d25 ["case"]
 f26:GF K mg "put_ahead" Mb ad.a26 ad.d26 ["rows","todo"]
 f27:GF K mg "go_on" Mu ad.a27 ad.d27 ["plan","going"]
 f28:GF K mg "asked_by" Mj ad.a28 ad.d28 ["plan","going","row"]
 f29:GA K mg "do_row_trees" "do_row" LH ad.a29 ad.d29 ["plan","going","row"]
 f30:GF K mg "mark_of" LA ad.a30 ad.d30 ["plan","going"]
 f31:GF K mg "both_ways" Lj ad.a31 ad.d31 ["case","going","thing"]
 f32:GV K mg "tree" LL ad.a32 ad.d32 ["case","limit"] (500)
 f33:GF K mg "grown" MA ad.a33 ad.d33 ["case","going","ends"]
 f34:GI K ad.C_Outcome "__init__" "Outcome.__init__" SV ad.a34 ad.d34 ["self","verdict","sound","faulty"]
 f35:GF K mg "outcomes" Mg ad.a35 ad.d35 ["case","limit"]
 f36:GF K mg "numbers_of" Mr ad.a36 ad.d36 ["bits"]
 f37:GV K mg "fewest" Mq ad.a37 ad.d37 ["case","limit"] (500)
 f38:GF K mg "causes_met" MQ ad.a38 ad.d38 ["case","limit"]
 f39:GF K mg "_law_stirred" Lv ad.a39 ad.d39 ["cell","turn"]
 f40:GF K mg "_law_pot" LW ad.a40 ad.d40 ["script"]
 f41:GF K mg "_law_draw" MV ad.a41 ad.d41 ["pot","many"]
 f42:GF K mg "_law_names" LV ad.a42 ad.d42 ["pot","many"]
 f43:GF K mg "_law_row" Mo ad.a43 ad.d43 ["pot","told"]
 f44:GF K mg "_law_block" Ma ad.a44 ad.d44 ["pot","told","room","deep"]
 f45:GF K mg "_law_rows" Ln ad.a45 ad.d45 ["pot","told","room","deep","most"]
 f46:GF K mg "_law_plan" MW ad.a46 ad.d46 ["pot","most"]
 f47:GF K mg "_law_stand" LZ ad.a47 ad.d47 ["pot","plan"]
 f48:GF K mg "_law_becomes" MR ad.a48 ad.d48 ["gone","row"]
 f49:GF K mg "_law_stepped" QN ad.a49 ad.d49 ["gone","place","number"]
 f50:GF K mg "_law_rounds" Lq ad.a50 ad.d50 ["gone","row","place"]
 f51:GF K mg "_law_done" Lm ad.a51 ad.d51 ["gone","rows","place"]
 f52:GF K mg "_law_run" Ll ad.a52 ad.d52 ["plan","stand","most"]
 f53:GF K mg "_law_flat" Ly ad.a53 ad.d53 ["rows"]
 f54:GF K mg "_law_marks" MD ad.a54 ad.d54 ["plan","sound","faulty","most"]
 f55:GF K mg "_law_other" Ls ad.a55 ad.d55 ["pot","m","number"]
 f56:GF K mg "_law_by_name" N3 ad.a56 ad.d56 ["plan","sound","faulty","most","name"]
 f57:GF K mg "_law_by_piece" R6 ad.a57 ad.d57 ["plan"]
 f58:GF K mg "_law_case" MB ad.a58 ad.d58 ["pot","most_rows","few"]
 f59:GF K mg "_law_things" MT ad.a59 ad.d59 ["case"]
 f60:GF K mg "_law_mixed" LQ ad.a60 ad.d60 ["case","mix"]
 f61:GF K mg "_law_subsets" MP ad.a61 ad.d61 ["many"]
 f62:GF K mg "_law_verdicts" Ra ad.a62 ad.d62 ["case"]
 f63:GF K mg "_law_told" MI ad.a63 ad.d63 ["case","lists"]
 f64:GF K mg "_law_alike" Mx ad.a64 ad.d64 ["found","due"]
 f65:GF K mg "law" kC ad.a65 ad.d65 ["script"]
section
section
variable{X:Cx}{B:Bd}{a b o e:fy}{es:aa0}{ta tb to:ba}{t:eJ}{i:Nat}{x:Str}{pos p aaS aaR:Pos}(hU:X.A.units+64<ol)(hu:X.A.units+1<ol)(hg:X.A.guards=ap [])(hc:X.calm=true)(ha:DE X B a ta)(hb:DE X B b tb)(hd:DE X B c tc)
def v0:=gR (pos:=pos) IT ha hb
def v1:=gR (pos:=pos) KM ha hb
def v2:=gR (pos:=pos) IK ha hb
def v3:=gR (pos:=pos) Jo ha hb
def v4:=gR (pos:=pos) Nl ha hb
def v5:=gR (pos:=pos) JN ha hb
def v6:=gR (pos:=pos) Kn ha hb
def v7:=gR (pos:=pos) KZ ha hb
def v8:=gR (pos:=pos) F_ ha hb
def v9:=gR (pos:=pos) JO ha hb
def v10:=gR (pos:=pos) Kd ha hb
def v11:=Hs (pos:=pos) BI ha hb
def v12:=Hs (pos:=pos) (HF hU) ha hb
def v13:=cu (X:=X) (B:=B) (p:=p) (pos:=pos) (e:=e) (es:=es) (t:=t) E6 yQ
def v14:=fQ (X:=X) (B:=B) (p:=p) (pos:=pos) (e:=e) (es:=es) (t:=t) uK pS
def v15:=fQ (X:=X) (B:=B) (p:=p) (pos:=pos) (e:=e) (es:=es) (t:=t) xb p8
def v16:=fQ (X:=X) (B:=B) (p:=p) (pos:=pos) (e:=e) (es:=es) (t:=t) (vq hc) vy
def v17:=cu (X:=X) (B:=B) (p:=p) (pos:=pos) (e:=e) (es:=es) (t:=t) tH o6
def v18:=fQ (X:=X) (B:=B) (p:=p) (pos:=pos) (e:=e) (es:=es) (t:=t) wx vy
def v19:=cu (X:=X) (B:=B) (p:=p) (pos:=pos) (e:=e) (es:=es) (t:=t) (o7 hU) xJ
def v20:=cu (X:=X) (B:=B) (p:=p) (pos:=pos) (e:=e) (es:=es) (t:=t) (Dw hc) lW
def v21:=cu (X:=X) (B:=B) (p:=p) (pos:=pos) (e:=e) (es:=es) (t:=t) (DQ hc) IH
def v22:=cu (X:=X) (B:=B) (p:=p) (pos:=pos) (e:=e) (es:=es) (t:=t) (E8 hc) KB
def v23:=cu (X:=X) (B:=B) (p:=p) (pos:=pos) (e:=e) (es:=es) (t:=t) (xy hg hU) GR
def v24:=cu (X:=X) (B:=B) (p:=p) (pos:=pos) (e:=e) (es:=es) (t:=t) (DJ hc) lW
def v25:=cu (X:=X) (B:=B) (p:=p) (pos:=pos) (e:=e) (es:=es) (t:=t) (xZ hc hu) lW
def v26:=y9 (X:=X) (B:=B) (p:=p) (pos:=pos) (yp:=aaS) (kp:=aaR) (e:=e) (es:=es) (t:=t) (uc hc) lW yQ
def v27:=oq (X:=X) (B:=B) (pos:=pos) IS
def v28:=oq (X:=X) (B:=B) (pos:=pos) Fk
def v29:=oq (X:=X) (B:=B) (pos:=pos) Ja
def v30:=oq (X:=X) (B:=B) (pos:=pos) pS
def v31:=oq (X:=X) (B:=B) (pos:=pos) p8
def v32:=Fh (X:=X) (B:=B) (aaS:=aaS) (aaR:=aaR) (o:=o) (e:=e) (es:=es) (t:=t) (to:=to) WI Xa PySem.F.type_list_append xN
def v33:=CH (X:=X) (B:=B) (aaS:=aaS) (aaR:=aaR) (o:=o) (to:=to) WI Ws Ye CG
def v34:=CH (X:=X) (B:=B) (aaS:=aaS) (aaR:=aaR) (o:=o) (to:=to) PySem.F.plainAttrs_int PySem.F.slot_int_bit_length PySem.F.type_int_bit_length xw
def v35:=Fh (X:=X) (B:=B) (aaS:=aaS) (aaR:=aaR) (o:=o) (e:=e) (es:=es) (t:=t) (to:=to) WI Ws Ye CG
def v36:=GQ (X:=X) (B:=B) (aaS:=aaS) (aaR:=aaR) (o:=o) (e:=e) (es:=es) (to:=to) (t:=t) VG XQ xF
def v37:=GQ (X:=X) (B:=B) (aaS:=aaS) (aaR:=aaR) (o:=o) (e:=e) (es:=es) (to:=to) (t:=t) VG XQ xP
def v38:=Ki (X:=X) (B:=B) (x:=x) (pos:=pos) (e:=e) (i:=i) (te:=ta) (pos':=p) Kt
def v39:=dN (pos:=pos) Od ha hb
def v40:=dN (pos:=pos) (HF hU) ha hb
def v41:=dN (pos:=pos) Ov ha hb
def v42:=dN (pos:=pos) HE ha hb
def v43:=dN (pos:=pos) BI ha hb
def v44:=dN (pos:=pos) (Ie hU) ha hb
def v45:=dN (pos:=pos) (NL hU) ha hb
def v46:=dN (pos:=pos) Nb ha hb
def v47:=dN (pos:=pos) (JU hU) ha hb
def v48:=dN (pos:=pos) P3 ha hb
def v49:=dN (pos:=pos) (DN hU) ha hb
end
local macro_rules|`(tactic|exists $n:num)=>do
 let h<-`(?_);let u<-`(_);let I:=λs:String=>Lean.mkIdent s.toName;let p:=λa k=>Lean.Syntax.mkApp (I a) (Array.replicate k h)
 let t<-((["","dnm:u Nm:0 NM:1 MY:g:Pk Nv:0 G7:6 Hz:6 DE:ai:3:2 DE:bc:2:3 Pb:1 NY:1 Q0:4 Ga:3 R5:0 PR:0 DE:dC:1:4 DE:kH:4:5 v36:7 v37:7 MY:g:RF IQ:1 EC:3 OS:2 PJ:1 OD:1 JM:1 KP:0 wW:9 xn:8 Ia:a Kl:3 Kr:4 Gi:a CZ:a G5:a","v0:2 v1:2 v2:2 v3:2 v4:2 v5:2 v6:2 v7:2 v8:2 v9:2 v10:2 v11:3 v12:4","v13:7 v14:7 v15:7 v16:8 v17:7 v18:7 v19:8 v20:8 v21:8 v22:8 v23:9 v24:8 v25:9 v26:12","v27:4 v28:4 v29:4 v30:4 v31:4","v32:8 v33:4 v34:4 v35:8","Rk:3 NZ:6 OI:5 Ng:1 J6:2 PU:5 Di:4 DM:4 N4:6 GU:3 Fs:6 Po:2 v38:5 Fq:a IL:a","DT:al:1:8 Ql:1 Q9:2 Tt:1","v39:3 v40:4 v41:3 v42:3 v43:3 v44:4 v45:4 v46:3 v47:4 v48:3 v49:4","fC:2 h_:1 Ka:0 KI:1 Of:1 Nr:2 SY:2 Kf:0 Jx:1 Jw:4 PD:4 Q3:4 Oq:4 F0:3 Ix:0 Lb:4 D2:4 IG:5 P2:5 Qr:4 JY:1 Pq:1 FC.nil:a FC.cons:a JR:0 Iu:1"].getD n.getNat "").splitOn " ").toArray.mapM λs=>match s.splitOn ":" with
  |[a,"a"]=>`(Lean.Parser.Tactic.tacticSeq|apply $(I a))
  |[a,"d"]=>`(Lean.Parser.Tactic.tacticSeq|(apply $(I a);focus decide))
  |[a,"u"]=>`(Lean.Parser.Tactic.tacticSeq|refine $(I a) _ ?_ ?_ ?_ ?_)
  |[a,k]=>`(Lean.Parser.Tactic.tacticSeq|refine $(p a k.toNat!))
  |[a,_,b]=>`(Lean.Parser.Tactic.tacticSeq|refine $(I a) ($(p b 1)) ?_ ?_ ?_)
  |[d,a,k,m]=>`(Lean.Parser.Tactic.tacticSeq|(show $(I d) _ _ _ $(Lean.Syntax.mkApp (I a) (Array.replicate k.toNat! u));exists $(Lean.Syntax.mkNumLit m)))
  |_=>Lean.Macro.throwUnsupported
 `(tactic|first $[|$t]*)
local macro_rules | `(tactic| exists 0) => `(tactic| first
 |exact Or.inl rfl
 |exact⟨_,_,_,_,_,_,_,by assumption,by assumption,Room.mono (by assumption) (by first|decide|lia),Gn,by assumption⟩
 |exact⟨_,_,_,_,_,_,_,by assumption,by assumption,Room.mono (by assumption) (by first|decide|lia),xK,uxN⟩
 |exact⟨_,_,_,_,_,_,_,by first|exact .g (by assumption)|exact .a (by assumption)|exact .v (by assumption),by assumption,Room.mono (by assumption) (by first|decide|lia),Gn,by assumption⟩
 |exact⟨_,_,_,_,_,_,_,by first|exact .g (by assumption)|exact .a (by assumption)|exact .v (by assumption),by assumption,Room.mono (by assumption) (by first|decide|lia),xK,uxN⟩
 |assumption
 |exact Room.mono (by assumption) (by first|decide|lia)
 |with_reducible exact Gn
 |with_reducible exact xK
 |with_reducible exact uxN
 |exact FnScope.nd (by assumption)
 |(apply nomark;decide)
 |(apply nodC;decide)
 |exact PassesOwn.leaving
 |exact λ_ _=>rfl
 |exact Or.inr (Or.inl rfl)
 |exact Or.inr rfl
 |exact Or.inr (Or.inr rfl)
 |rfl
 |exact λ_=>rfl
 |decide
 |exact⟨rfl,rfl,rfl,rfl⟩
 |with_reducible intro _)
local macro_rules | `(tactic| trivial) => `(tactic| first
 |eq_refl
 |(with_reducible first
 |(show DE _ _ _ _;exists 1)
 |refine da_c ?_ ?_ ?_
 |exact P7
 |(show DT _ _ _ _;exists 7)
 |(show DS _ _ _ _;exists 6)
 |exists 9)
 |exists 0)
set_option hygiene false in
local macro_rules | `(tactic| exists $t:ident, $g, [$fs,*]) => do let hs <- fs.getElems.mapM fun f => `(tactic| have := $f); `(tactic| exact fnS rfl ($g).F ($g).b #[rfl, rfl, rfl, by decide +kernel, rfl, by decide +kernel, by decide +kernel] fun hS _ A _ s _ _ _ _ hr ux => (by have hU := hr.units; have hu := vc hr; have hg := hr.gd; ($[$hs];*); unfold $t:ident; (first | refine fC ?_ ?_ | refine h_ ?_); repeat' trivial))
set_option hygiene false in
local macro_rules | `(tactic| exists $t:ident, $g, [$fs,*], $[$ps:ident],*) => `(tactic| exists (_), $t:ident, $g, [$fs,*], $[$ps:ident],*)
set_option hygiene false in
local macro_rules | `(tactic| exists ($k), $t:ident, $g, [$fs,*], $[$ps:ident],*) => do let hs <- fs.getElems.mapM fun f => `(tactic| have := $f); `(tactic| exact fnS (k := $k) rfl ($g).F ($g).b #[rfl, rfl, rfl, by decide +kernel, rfl, by decide +kernel, by decide +kernel] fun hS _ A _ s _ _ _ _ hr ux => (by have hU := hr.units; have hu := vc hr; have hg := hr.gd; ($[$hs];*); unfold $t:ident $[$ps:ident]*; (first | refine fC ?_ ?_ | refine h_ ?_); repeat' trivial))
variable{P:fx}{w:hG}{K:TH}{mg:aa4}{base:g4}{ad:Ad}(E:En P w K mg base ad)
include E
theorem S6:cF P w mg base E.f1.F E.f1.b 1 (KO ad):=by
 exists KH,E.f1,[E.u6,E.u21,E.u19,E.u45,E.u31,E.u20,E.u18,E.u22],F7,Fc,GZ
theorem LM:cF P w mg base E.f2.F E.f2.b 1 (yH ad):=by
 exists JK,E.f2,[E.u35,E.u6,E.u22,E.u18,E.u23,E.u24],GG
theorem NF:cF P w mg base E.f3.F E.f3.b 2 (qQ ad):=by
 have:=LM E
 exists AW,E.f3,[E.u6,E.u19,E.f2],Bl
theorem O9:cF P w mg base E.f12.F E.f12.b 1 (C6 ad):=by
 exists CI,E.f12,[],Av,AJ,CL,zE,Bv
theorem HR:cF P w mg base E.f11.F E.f11.b 1 (ow ad):=by
 exists i_,E.f11,[],zP,AY
theorem HC:cF P w mg base E.f10.F E.f10.b 2 (on ad):=by
 have:=O9 E;have:=HR E
 exists gB,E.f10,[E.f11,E.f12],CK,yZ,Bn
theorem uy:∀n:Nat,cF P w mg base E.f6.F E.f6.b (2+n) (Y2 ad n)/\cF P w mg base E.f7.F E.f7.b (2+n) (Y4 ad n)/\cF P w mg base E.f8.F E.f8.b (2+n) (Y5 ad n)/\cF P w mg base E.f9.F E.f9.b (2+n) (Y6 ad n):=by
 have:=NF E;have:=LM E;have:=HC E;intro n
 induction n with
 |zero=>exact#[e_,e_,e_,e_]
 |succ n ih=>
  obtain⟨_,_,_,_⟩:=ih;refine#[?_,?_,?_,?_]
  .exists (2+n),zb,E.f6,[E.u32,E.f7],BP
  .exists (2+n),qO,E.f7,[E.f8,E.f9,E.f10,E.u6,E.u21,E.u19,E.u20,E.f2],BG,AQ,A9,B7,Cp,An
  .exists (2+n),BB,E.f8,[E.u6,E.f3,E.f6],B4
  .exists (2+n),GL,E.f9,[E.u6,E.f3,E.f6],z9,BZ
theorem Qz:cF P w mg base E.f4.F E.f4.b 27 (vD ad):=by
 have:=S6 E;obtain⟨_,_,_,_⟩:=uy E 24
 exists zW,E.f4,[E.f1,E.u7,E.u6,E.f6,E.u23,E.u24,E.u22,E.u44,E.u19],zK,Bf
theorem Pz:cF P w mg base E.f5.F E.f5.b 28 (qA ad):=by
 have:=Qz E
 exists yU,E.f5,[E.f4],CN,zd
theorem FV:cF P w mg base E.f13.F E.f13.b 1 (vO ad):=by
 exists Ap,E.f13,[E.u36,E.u39]
theorem Oz:cF P w mg base E.f14.F E.f14.b 2 (zm ad):=by
 have:=FV E
 exists AG,E.f14,[E.u31,E.f13],kZ
theorem Ex:cF P w mg base E.f15.F E.f15.b 1 (k8 ad):=by
 exists wB,E.f15,[E.u34,E.u43],Ax
theorem NW:cF P w mg base E.f16.F E.f16.b 1 (z_ ad):=by
 exists jh,E.f16,[E.u36],Ah,BA
theorem Ps:cF P w mg base E.f17.F E.f17.b 2 (yY ad):=by
 have:=FV E;have:=Ex E
 exists zp,E.f17,[E.f13,E.f15]
theorem Hm:cF P w mg base E.f18.F E.f18.b 29 (uL ad):=by
 have:=Pz E
 exists CA,E.f18,[E.f5,E.u25,E.u26],ui,lN,ut
theorem w_:cF P w mg base E.f19.F E.f19.b 3 (qN ad):=by
 have:=Ps E
 exists Cj,E.f19,[E.f17]
theorem O4:cF P w mg base E.f20.F E.f20.b 1 (AC ad):=by
 exists wm,E.f20,[],BL
theorem LF:cF P w mg base E.f21.F E.f21.b 1 (EU ad):=by
 exists K_,E.f21,[E.u2,E.u11,E.u12,E.u14,E.u13,E.u10],HQ,Ih,Ig
theorem RP:cF P w mg base E.f22.F E.f22.b 3 (E7 ad):=by
 have:=LF E
 exists JH,E.f22,[E.f21,E.u3,E.u2,E.u31,E.u11,E.u36,E.u12,E.u14,E.u13,E.u10,E.u34,E.u43],xQ,yz,y8,xf
theorem Ro:cF P w mg base E.f23.F E.f23.b 1 (NC ad):=by
 exists Je,E.f23,[E.u0,E.u9,E.u8]
theorem LO:cF P w mg base E.f24.F E.f24.b 1 (G_ ad):=by
 exists L8,E.f24,[E.u0,E.u8,E.u9,E.u27,E.u28],y6
theorem Em:cF P w mg base E.f26.F E.f26.b 1 (nQ ad):=by
 exists Cg,E.f26,[E.u41],uw
theorem NN:cF P w mg base E.f25.F E.f25.b 4 (ze ad):=by
 have:=LF E;have:=Em E;have:=w_ E
 exists Aj,E.f25,[E.u31,E.f19,E.f21,E.u3,E.u2,E.u45,E.u36,E.f26],tM,uu,t9
theorem Nu:cF P w mg base E.f28.F E.f28.b 3 (AE ad):=by
 have:=Oz E;have:=NW E;have:=HR E
 exists zL,E.f28,[E.u2,E.u14,E.f16,E.f14,E.f11,E.u11],tI,lV,rG,tz,rg
theorem PH:cF P w mg base E.f29.F E.f29.b 3 (zR ad):=by
 have:=HC E;have:=Em E
 exists Cy,E.f29,[E.u2,E.u10,E.u13,E.f26,E.u11,E.f10,E.u12,E.u14],rb,iP,li,ie,tP,sS,BQ,sV
theorem O8:cF P w mg base E.f27.F E.f27.b 4 (C3 ad):=by
 have:=Nu E;have:=PH E
 exists BC,E.f27,[E.u2,E.u13,E.u10,E.f28,E.f29,E.u14],qY,ic,ue,rS,ua,sR
theorem ND:cF P w mg base E.f30.F E.f30.b 1 (C7 ad):=by
 exists BR,E.f30,[E.u2,E.u13,E.u11]
theorem Nq:cF P w mg base E.f31.F E.f31.b 4 (B_ ad):=by
 have:=RP E;have:=Ex E
 exists Cq,E.f31,[E.u2,E.f22,E.f15]
theorem DZ:∀n:Nat,cF P w mg base E.f33.F E.f33.b (4+n) (Y8 ad n):=by
 have:=LO E;have:=Nq E;have:=O8 E;have:=ND E;intro n
 induction n with
 |zero=>exact e_
 |succ n ih=>
  exists (4+n),zC,E.f33,[E.f33,E.f27,E.f30,E.u0,E.f24,E.f31],rH,sK,rM,sH,sI
theorem Ph:OkV P w mg base E.f32.F E.f32.b 30 (zT ad):=by
 have:=Ro E;have:=LO E;have:=DZ E 24;have:=Hm E;have:=NN E;exact Ru rfl E.f32.F E.f32.b #[rfl,rfl,rfl,by decide +kernel,rfl,by decide +kernel,by decide +kernel] λhS _ A _ s _ _ _ _ hr ux=>(by have hU:=hr.units;have hu:=vc hr;have hg:=hr.gd;have:=E.f18;have:=E.f23;have:=E.u1;have:=E.u0;have:=E.f24;have:=E.f33;have:=E.f25;unfold Ck r_ rl sj;(first|refine fC ?_ ?_|refine h_ ?_);repeat' trivial)
theorem S9:cF P w mg base E.f34.F E.f34.b 1 (JG ad):=by
 exists L7,E.f34,[E.u4,E.u17,E.u16,E.u15],HZ
theorem Pw:cF P w mg base E.f35.F E.f35.b 31 (AV ad):=by
 have:=S9 E;have:=Hm E;have:=Ph E;have:=w_ E;have:=O4 E
 exists z8,E.f35,[E.f18,E.u31,E.u32,E.f19,E.f32,E.f34,E.u5,E.u4,E.f20],nR,oi,tV,ia,si,tj,rJ,rq,tS,rN,tu
theorem No:cF P w mg base E.f36.F E.f36.b 1 (BM ad):=by
 exists zJ,E.f36,[E.u39]
theorem Pv:cF P w mg base E.f38.F E.f38.b 32 (AB ad):=by
 have:=Pw E
 exists Go,E.f38,[E.f35,E.u4,E.u17,E.u15]
theorem Qp:OkV P w mg base E.f37.F E.f37.b 33 (qo ad):=by
 have:=Pv E;have:=No E;have:=w_ E;exact Ru rfl E.f37.F E.f37.b #[rfl,rfl,rfl,by decide +kernel,rfl,by decide +kernel,by decide +kernel] λhS _ A _ s _ _ _ _ hr ux=>(by have hU:=hr.units;have hu:=vc hr;have hg:=hr.gd;have:=E.u42;have:=E.f38;have:=E.f36;have:=E.f19;have:=E.u38;have:=E.u35;unfold BS lG kY;(first|refine fC ?_ ?_|refine h_ ?_);repeat' trivial)
theorem Nj:cF P w mg base E.f39.F E.f39.b 1 (oH ad):=by
 exists AS,E.f39,[],BF
theorem Qe:cF P w mg base E.f40.F E.f40.b 1 (zG ad):=by
 exists Ar,E.f40,[E.u36],BY,Bo,Ae
theorem gO:cF P w mg base E.f41.F E.f41.b 2 (aZ ad):=by
 have:=Nj E
 exists Ep,E.f41,[E.f39],Cu,AM,zq,Bg,AF,Ab,A0,Al
theorem NO:cF P w mg base E.f42.F E.f42.b 3 (A2 ad):=by
 have:=gO E
 exists A5,E.f42,[E.f41,E.u39,E.u44],Bc,zA,zi
theorem OE:cF P w mg base E.f43.F E.f43.b 3 (uV ad):=by
 have:=gO E
 exists y_,E.f43,[E.f41,E.u35],vA,uB,Bq,BU,Am,BV,zO,Cr,zY,yS,zx
theorem my:∀n:Nat,cF P w mg base E.f44.F E.f44.b (3+n) (Y1 ad n)/\cF P w mg base E.f45.F E.f45.b (3+n) (Y0 ad n):=by
 have:=gO E;have:=OE E;intro n
 induction n with
 |zero=>exact#[e_,e_]
 |succ n ih=>
  obtain⟨_,_⟩:=ih;refine#[?_,?_]
  .exists (3+n),Ba,E.f44,[E.f41,E.u35,E.f45,E.u38],zu,Ak,As,z0,Ct,C5,AO,zr,AN
  .exists (3+n),zc,E.f45,[E.u39,E.f41,E.f44,E.f43,E.u44],zI,yO,yV,zH,Bm,Br,zZ
theorem NJ:cF P w mg base E.f46.F E.f46.b 28 (zM ad):=by
 have:=gO E;have:=NO E;obtain⟨_,_⟩:=my E 24
 exists Ai,E.f46,[E.f41,E.f42,E.f45,E.u35],Cd,za,CP,AT
theorem OT:cF P w mg base E.f47.F E.f47.b 3 (AU ad):=by
 have:=gO E
 exists HG,E.f47,[E.u44,E.f41,E.u39],B9
theorem Pl:cF P w mg base E.f48.F E.f48.b 1 (uP ad):=by
 exists oY,E.f48,[E.u35],vH,uX,wq,BH,AI,Bh,Ao,zo,yR,zN,Bw,BJ
theorem RL:cF P w mg base E.f49.F E.f49.b 1 (vU ad):=by
 exists Jk,E.f49,[E.u35],HU
theorem kG:∀n:Nat,cF P w mg base E.f50.F E.f50.b (1+n) (Y3 ad n)/\cF P w mg base E.f51.F E.f51.b (1+n) (YZ ad n):=by
 have:=Pl E;have:=RL E;intro n
 induction n with
 |zero=>exact#[e_,e_]
 |succ n ih=>
  obtain⟨_,_⟩:=ih;refine#[?_,?_]
  .exists (1+n),A1,E.f50,[E.u39,E.f49,E.f51],lQ,r9,zS,sh
  .exists (1+n),Aa,E.f51,[E.f51,E.u32,E.f50,E.f49,E.f48],o9,tq,lT,lh,m9,C0,tT,rE,q_,r8
theorem EJ:cF P w mg base E.f52.F E.f52.b 26 (kf ad):=by
 obtain⟨_,_⟩:=kG E 24
 exists B3,E.f52,[E.u45,E.u31,E.f51,E.u44],AX,BK,zy
theorem FP:cF P w mg base E.f53.F E.f53.b 1 (wc ad):=by
 exists At,E.f53,[E.u44]
theorem yJ:cF P w mg base E.f54.F E.f54.b 27 (mR ad):=by
 have:=EJ E
 exists Bz,E.f54,[E.f52],lg,lR,lI
theorem NX:cF P w mg base E.f55.F E.f55.b 3 (oa ad):=by
 have:=gO E
 exists Ch,E.f55,[E.f41]
theorem O5:cF P w mg base E.f56.F E.f56.b 28 (Cz ad):=by
 have:=FP E;have:=yJ E
 exists Co,E.f56,[E.u44,E.f53,E.f54],lA,m3,lK,lY,lU
theorem R0:cF P w mg base E.f57.F E.f57.b 1 (Kz ad):=by
 exists JT,E.f57,[],rZ,t6,oz,rT
theorem NK:cF P w mg base E.f58.F E.f58.b 29 (BX ad):=by
 have:=O5 E;have:=R0 E;have:=gO E;have:=FP E;have:=yJ E;have:=NX E;have:=NJ E;have:=OT E
 exists Bk,E.f58,[E.f46,E.u37,E.f47,E.u36,E.f41,E.u35,E.f55,E.u38,E.u39,E.u44,E.f54,E.f53,E.f56,E.f57],n8,o5,mP,ou,nX,nV,mU,j6,nN,oS,ji,je,oJ,iR,iS,vT,p5,t_,lF,sC,t7,rV,qS,sB,tK,sG
theorem Hu:cF P w mg base E.f59.F E.f59.b 1 (wg ad):=by
 exists C1,E.f59,[E.u45,E.u39],tQ,tX
theorem NU:cF P w mg base E.f60.F E.f60.b 1 (CF ad):=by
 exists Ay,E.f60,[E.u45,E.u39,E.u44],sx,rA,rK,jm
theorem Qd:cF P w mg base E.f61.F E.f61.b 1 (Bb ad):=by
 exists Gx,E.f61,[E.u39],Aq,m4
theorem SJ:cF P w mg base E.f62.F E.f62.b 28 (L0 ad):=by
 have:=yJ E;have:=NU E;have:=EJ E;have:=Qd E;have:=Hu E
 exists Jr,E.f62,[E.f59,E.f54,E.f61,E.u35,E.f52,E.f60,E.u44],xX,xu,wZ,yI,jX,yh,y4,mB,tE
theorem PB:cF P w mg base E.f63.F E.f63.b 2 (yL ad):=by
 have:=Hu E
 exists Aw,E.f63,[E.f59],lC
theorem oj:∀n:Nat,cF P w mg base E.f64.F E.f64.b (0+n) (Y7 ad n):=by
 intro n
 induction n with
 |zero=>exact e_
 |succ n ih=>
  exists (0+n),ix,E.f64,[E.f64,E.u34,E.u30,E.u33,E.u43,E.u44,E.u36,E.u35,E.u29,E.u45],Bi,A7,CD,BD,Ac,Bt,CC,Bj,BW
theorem OW:cF P w mg base E.f65.F E.f65.b 34 (Fa ad):=by
 have:=oj E 24;have:=NK E;have:=gO E;have:=Qe E;have:=PB E;have:=SJ E;have:=Qp E
 exists Ce,E.f65,[E.f40,E.f58,E.f41,E.u40,E.f62,E.u36,E.u38,E.u35,E.f63,E.f64,E.f37],ja,lL,lX,lH,kR,lJ,ma,lc,lj,mj
end
end _T
namespace _3
open PySem _2
theorem aL(c:∀Q' E',Q' d M->T ds M Q' E')(h:Q d M):calls T EE ds M Q b:=
 ao λQ' E' a _=>c Q' E' (a d M h)
theorem bw(h:0<=i):fE xs i=xs[i.toNat]?:=by
 cases i with
 |ofNat k=>rfl
 |negSucc k=>exact absurd h (by lia)
@[simp] theorem atI_0:fE xs 0=xs[0]?:=rfl
@[simp] theorem atI_1:fE xs 1=xs[1]?:=rfl
@[simp] theorem atI_2:fE xs 2=xs[2]?:=rfl
@[simp] theorem atI_3:fE xs 3=xs[3]?:=rfl
@[simp] theorem atI_4:fE xs 4=xs[4]?:=rfl
theorem cS(I:List D->Dl->Mem->Prop)(c:∀xs U M,I xs U M->ok M)(f:∀U M,I [] U M->DD.nx U M)
  (i:∀x xs U M,I (x::xs) U M->∀D':DEnds,(∀a M',I xs a M'->D'.nx a M')->(∀a M',I xs a M'->D'.ct a M')->D'.rt=DD.rt->D'.bk=DD.nx->g x U M λδ2 M2=>j D' δ2 M2):∀xs U M,I xs U M->nG g j DD ok b xs U M
 |[],U,M,h=>#[c _ _ _ h,f U M h]
 |x::xs,U,M,h=>#[c _ _ _ h,i x xs U M h _ (λa M' e=>cS I c f i xs a M' e) (λa M' e=>cS I c f i xs a M' e) rfl rfl]
theorem ce(I:List D->List D->Dl->Mem->Prop)(e:∀xs aaQ U M,I xs aaQ U M->ok M)(j:∀aaQ U M,I [] aaQ U M->Q aaQ M)
  (l:∀x xs aaQ U M,I (x::xs) aaQ U M->∀N:Bool->D->Dl->Mem->Prop,(∀y a M',aaQ.length<sizeLine->I xs (aaQ++[y]) a M'->N true y a M')->(∀y a M',I xs aaQ a M'->N cp y a M')->g x U M λδ2 M2=>tt δ2 M2 λc M3=>if c=true then te δ2 M3 λy M4=>N true y δ2 M4 else N cp .non δ2 M3)
  (m:∀x xs aaQ U M,I (x::xs) aaQ U M->aaQ.length<sizeLine):∀xs aaQ U M,I xs aaQ U M->cA g tt te ok Q b xs aaQ U M
 |[],aaQ,U,M,h=>#[e _ _ _ _ h,j aaQ U M h]
 |x::xs,aaQ,U,M,h=>#[e _ _ _ _ h,l x xs aaQ U M h (λk y a M'=>if k=true then aaQ.length<sizeLine/\cA g tt te ok Q b xs (aaQ++[y]) a M' else cA g tt te ok Q b xs aaQ a M')
   (λy a M' f i=>by rw[if_pos rfl];exact#[f,ce I e j l m xs _ a M' i]) (λy a M' i=>by rw[if_neg (by simp)];exact ce I e j l m xs _ a M' i) |> λz=>by simpa using z]
theorem bj(h:n<=1000000):n<=sizeLine:=TR h (by decide)
theorem g7(h:n<1000000):n<sizeLine:=Uc h (by decide)
end _3
namespace _T
open PySem _2 _3
variable{x:Str}
inductive Rw where
 |put (x:Str) (k:Int)|take (x:Str) (i:Int)|pick (x y:Str)|two (w x y z:Str)|ifr (x:Str) (a b:List Rw)|again (x:Str) (a:List Rw)
mutual
noncomputable def Rw.d:Rw->D
 |.put x k=>.tup [.str "put",.str x,.int k]
 |.take x i=>.tup [.str "take",.str x,.int i]
 |.pick x y=>.tup [.str "pick",.str x,.str y]
 |.two w x y z=>.tup [.str w,.str x,.str y,.str z]
 |.ifr x a b=>.tup [.str "if",.str x,.tup (aE a),.tup (aE b)]
 |.again x a=>.tup [.str "again",.str x,.tup (aE a)]
noncomputable def aE:List Rw->List D
 |[]=>[]
 |r::rs=>r.d::aE rs
end
theorem hV:∀rs:List Rw,aE rs=rs.map Rw.d
 |[]=>rfl
 |r::rs=>by rw[aE,hV rs];rfl
abbrev cM:=List (Str×Int)
noncomputable def gN(n:cM)(x:Str):Option Int:=(n.find? λp=>decide (p.1=x)).map (·.2)
def nm(n:cM)(x:Str):Int:=(gN n x).getD 0
noncomputable def sN(n:cM)(x:Str)(v:Int):cM:=n.map λp=>if p.1=x then (p.1,v) else p
noncomputable def eI(n:cM):List (aC×D):=n.map λp=>(Us p.1,D.int p.2)
theorem LB:∀{n:cM}{x:Str},x∈n.map (·.1)->gN n x=ap (nm n x)
 |[],_,h=>by simp at h
 |(y,v)::n,x,h=>by
  by_cases e:y=x
  .simp[gN,nm,e]
  simpa [gN,nm,e] using (LB<|by simpa [eq_comm,e] using h)
theorem cy:∀{n:cM}{x:Str},cJ (eI n) (Us x)=(gN n x).map D.int
 |[],x=>rfl
 |(y,v)::n,x=>by
  by_cases e:y=x
  .simp[cJ,eI,gN,e]
  simpa [cJ,eI,gN,e] using (cy)
theorem HA:∀{n:cM}{x:Str},x∈n.map (·.1)->((eI n).any λkv=>decide (kv.1=Us x))=true
 |[],_,h=>by simp at h
 |(y,v)::n,x,h=>by
  by_cases e:y=x
  .simp[eI,e]
  .have:=HA (by simpa [eq_comm,e] using h)
   simp[eI]at this ⊢
   simp_all
theorem lx(h:x∈n.map (·.1)):dU (eI n) (Us x) (.int v)=eI (sN n x v):=by
 unfold dU;rw[HA h];simp only[eI,sN,Ud];apply Uw;intro p _
 by_cases e:p.1=x
 .simp[e]
 simp[e]
theorem jg:(sN n x v).map (·.1)=n.map (·.1):=by
 simp only[sN,Ud];apply Uw;intro p _
 by_cases e:p.1=x<;>simp[e]
theorem Rr(h:x∈n.map (·.1)):gN (sN n x v) y=if y=x then ap v else gN n y:=by
 induction n with
 |nil=>simp at h
 |cons p n ih=>
  obtain⟨k,u⟩:=p
  by_cases e:k=x
  .subst e
   by_cases a:y=k
   .subst a;simp[gN,sN]
   simp[if_neg a];have b:¬k=y:=λz=>a z.symm
   by_cases c:k∈n.map (·.1)
   .simpa [gN,sN,b,if_neg a] using (ih c)
   simp only[gN,sN,TB,if_pos,Vv,b,decide_false];have:n.map (λp=>if p.1=k then (p.1,v) else p)=n:=by
    conv=>rhs;rw[<- U6 n]
    apply Uw;intro p g;have:p.1≠k:=λz=>c (by rw[<- z];exact Uq g)
    simp[this]
   rw[this]
  have:=ih (by simpa [Uk e,e] using h)
  by_cases a:y=x
  .subst a;simpa [gN,sN,e] using this
  by_cases f:k=y
  .subst f;simp[gN,sN,e]
  .simpa [gN,sN,e,f,a] using this
structure Cf where
 m:Int
 pieces:List Int
 most:Nat
structure Sx where
 nums:cM
 steps:List (List Int×Int)
noncomputable def zw(w:Str)(y z m:Int):Int:=if w="sum" then (y+z) % m else if w="by" then y*z % m else if w="less" then (if y<z then 1 else 0) else if y=z then 1 else 0
def num(c:Cf)(n:cM):Rw->Int
 |.put _ k=>k
 |.take _ i=>(c.pieces[i.toNat]?).getD 0
 |.pick _ y=>(c.pieces[(nm n y % (c.pieces.length:Int)).toNat]?).getD 0
 |.two w _ y z=>zw w (nm n y) (nm n z) c.m
 |_=>0
noncomputable def iF:Rw->Str
 |.put x _=>x
 |.take x _=>x
 |.pick x _=>x
 |.two _ x _ _=>x
 |.ifr x _ _=>x
 |.again x _=>x
noncomputable def nt(c:Cf)(pl:aaW)(v:Int)(s:Sx):Bool×Sx:=if s.steps.length<c.most then (true,#[s.nums,s.steps++[(pl,v)]]) else (cp,s)
def lk(n:cM)(x:Str):Int:=if nm n x=0 then 0 else 1
def fK(c:Cf)(x:Str)(pl:aaW)(body:Nat->Sx->Bool×Sx):Nat->Nat->Sx->Bool×Sx
 |0,_,s=>(cp,s)
 |f+1,t,s=>if (nt c (pl++[(t:Int)]) (lk s.nums x) s).1=true then
   (if lk s.nums x=1 then
    (if (body t (nt c (pl++[(t:Int)]) (lk s.nums x) s).2).1=true then fK c x pl body f (t+1) (body t (nt c (pl++[(t:Int)]) (lk s.nums x) s).2).2 else body t (nt c (pl++[(t:Int)]) (lk s.nums x) s).2)
   else nt c (pl++[(t:Int)]) (lk s.nums x) s)
  else nt c (pl++[(t:Int)]) (lk s.nums x) s
mutual
noncomputable def iO(c:Cf):Rw->List Int->Sx->Bool×Sx
 |.ifr x a b,pl,s=>if (nt c pl (lk s.nums x) s).1=true then (if lk s.nums x=1 then cg c a (pl++[lk s.nums x]) 0 (nt c pl (lk s.nums x) s).2 else cg c b (pl++[lk s.nums x]) 0 (nt c pl (lk s.nums x) s).2) else nt c pl (lk s.nums x) s
 |.again x a,pl,s=>fK c x pl (λt s=>cg c a (pl++[(t:Int)]) 0 s) (c.most+1) 0 s
 |.put x k,pl,s=>if (nt c pl (num c s.nums<|.put x k) s).1=true then (true,#[sN s.nums x (num c s.nums<|.put x k),(nt c pl (num c s.nums<|.put x k) s).2.steps]) else nt c pl (num c s.nums<|.put x k) s
 |.take x i,pl,s=>if (nt c pl (num c s.nums<|.take x i) s).1=true then (true,#[sN s.nums x (num c s.nums<|.take x i),(nt c pl (num c s.nums<|.take x i) s).2.steps]) else nt c pl (num c s.nums<|.take x i) s
 |.pick x y,pl,s=>if (nt c pl (num c s.nums<|.pick x y) s).1=true then (true,#[sN s.nums x (num c s.nums<|.pick x y),(nt c pl (num c s.nums<|.pick x y) s).2.steps]) else nt c pl (num c s.nums<|.pick x y) s
 |.two w x y z,pl,s=>if (nt c pl (num c s.nums<|.two w x y z) s).1=true then (true,#[sN s.nums x (num c s.nums<|.two w x y z),(nt c pl (num c s.nums<|.two w x y z) s).2.steps]) else nt c pl (num c s.nums<|.two w x y z) s
noncomputable def cg(c:Cf):List Rw->List Int->Nat->Sx->Bool×Sx
 |[],_,_,s=>(true,s)
 |r::rs,pl,j,s=>if (iO c r (pl++[(j:Int)]) s).1=true then cg c rs pl (j+1) (iO c r (pl++[(j:Int)]) s).2 else iO c r (pl++[(j:Int)]) s
end
def kJ(c:Cf)(r:Rw)(pl:aaW)(s:Sx):Bool×Sx:=if s.steps.length<c.most then (true,#[sN s.nums (iF r) (num c s.nums r),s.steps++[(pl,num c s.nums r)]]) else (cp,s)
noncomputable def bo:Rw->Bool
 |.ifr _ _ _=>cp
 |.again _ _=>cp
 |_=>true
theorem cQ(h:bo r=true):iO c r pl s=kJ c r pl s:=by
 cases r with
 |ifr x a b=>trivial
 |again x a=>trivial
 |_=>simp[iO,kJ,nt,iF];lia
theorem ofs_inj(a b:String):(VW a=VW b)=(a=b):=by
 refine propext #[λh=>?_,by lia]
 rw[Str.ofString_eq_byList]at h;exact String.toList_inj.mp ((List.map_inj_right λx y=>Char.toNat_inj.mp).mp<|congrArg (λx:Str=>x.cps.toList) h)
end _T
open PySem _2 _3 _T
local macro_rules | `(tactic| simp! [$a,*]) => do let p <- ("GZ Fc F7 GG Bl Bv zE CL AJ Av AY zP Bn yZ CK BP An Cp B7 A9 AQ BG B4 BZ z9 Bf zK zd CN kZ Ax BA Ah ut lN ui BL Ig Ih HQ xf y8 yz xQ y6 uw t9 uu tM rg tz rG lV tI sV BQ sS tP ie li iP rb sR ua rS ue ic qY sI sH rM sK rH sj rl r_ HZ tu rN tS rq rJ tj si ia tV oi nR kY lG BF Ae Bo BY Al A0 Ab AF Bg zq AM Cu zi zA Bc zx yS zY Cr zO BV Am BU Bq uB vA AN zr AO C5 Ct z0 As Ak zu zZ Br Bm zH yV yO zI AT CP za Cd B9 BJ Bw zN yR zo Ao Bh AI BH wq uX vH HU sh zS r9 lQ r8 q_ rE tT C0 m9 lh lT tq o9 zy BK AX lI lR lg lU lY lK m3 lA rT oz t6 rZ sG tK sB qS rV t7 sC lF t_ p5 vT iS iR oJ je ji oS nN j6 mU nV nX ou mP o5 n8 tX tQ jm rK rA sx m4 Aq tE mB y4 yh jX yI wZ xu xX lC BW Bj CC Bt Ac BD CD A7 Bi mj lj lc ma lJ kR lH lX lL ja iG GH ER QE FY AD OG xD m8 rf wF jJ iU dL uk mr yT fh aK startN ah aG al cO Hd ai cc qP dv bX fits aR jd ac dC aA nv aB gu pj P6 oQ MS oI oo jb av aI c_ am frz b6 iC fD gw aq ag dq aM dg cZ sW aa af aS bQ bc cq dS bW d_ eh O_ pW FJ J4 aV cH bh kH bC D8 Iq iA jK gE fc cN Dz wa nH Ii OL wS dk cm aj dw gQ bM dW qG RV br cV cX bO dF kg frzT frzs OB jO w8 yb".splitOn " ").toArray.mapM (fun s => `(Lean.Parser.Tactic.simpLemma| ↓$(Lean.mkIdent s.toName):ident)); let q <- ("List.map_cons List.map_nil List.cons_append List.nil_append List.length_cons List.length_nil List.getElem?_cons_succ List.getElem?_cons_zero List.set_cons_succ List.set_cons_zero Nat.zero_add Nat.reduceAdd Nat.reduceSub List.replicate_succ List.replicate_zero List.append_nil true_and and_true if_true if_false Bool.false_eq_true decide_eq_true_eq decide_eq_false_iff_not Bool.not_true Bool.not_false Bool.and_true Bool.true_and Bool.and_false Bool.false_and Mem.upd_same Option.isSome_some Option.isSome_none FH Hw s2e_s GW Jz wt two_2 nil_0 cns_c no_0 no_1 wo Ag pP onS_s onTy_t onT_t onF_f RS onBB_t onBB_f onIST_i onIST_s onIST_t onIST_r onIST_l onSR_s onSR_r onLR_l onLR_r onTM_t onTM_m onTM_r onTM_l onTe_t onTe_r onTe_l onRe_r onRe_n onRe_b onRe_i onRe_s onRe_t onRe_l onRe_f onRe_m onRe_ml mL_l mK_k mT_t mN_n mLe_l mLe_k mLe_t mLe_n mLe_0 mSet_l mSet_k mSet_t ofs_inj String.reduceEq".splitOn " ").toArray.mapM (fun s => `(Lean.Parser.Tactic.simpLemma| $(Lean.mkIdent s.toName):ident)); let r : Lean.TSyntaxArray [`Lean.Parser.Tactic.simpStar, `Lean.Parser.Tactic.simpErase, `Lean.Parser.Tactic.simpLemma] := (p.map (⟨·.raw⟩)) ++ (q.map (⟨·.raw⟩)) ++ a.getElems; `(tactic| simp -dsimp only [$r,*])
local macro_rules | `(tactic| simp_arith! only [$a,*]) => do let q <- ("FH Hw s2e_s GW Jz wt two_2 nil_0 cns_c no_0 no_1 wo Ag pP onS_s onTy_t onT_t onF_f RS onBB_t onBB_f onIST_i onIST_s onIST_t onIST_r onIST_l onSR_s onSR_r onLR_l onLR_r onTM_t onTM_m onTM_r onTM_l onTe_t onTe_r onTe_l onRe_r onRe_n onRe_b onRe_i onRe_s onRe_t onRe_l onRe_f onRe_m onRe_ml mL_l mK_k mT_t mN_n mLe_l mLe_k mLe_t mLe_n mLe_0 mSet_l mSet_k mSet_t af".splitOn " ").toArray.mapM (fun s => `(Lean.Parser.Tactic.simpLemma| $(Lean.mkIdent s.toName):ident)); let r : Lean.TSyntaxArray [`Lean.Parser.Tactic.simpStar, `Lean.Parser.Tactic.simpErase, `Lean.Parser.Tactic.simpLemma] := (q.map (⟨·.raw⟩)) ++ a.getElems; `(tactic| simp -dsimp only [$r,*])
namespace _T
open PySem _2 _3
variable{names:aaX}
theorem km(b:0<m)(i:0<=y)(g:y<1000)(h:Q (.int<|zw w y z m) M):C6 ad [.str w,.int y,.int z,.int m] M Q E:=by
 have f:CMul y z:=.inl #[by lia,by lia]
 unfold zw at h;simp![QO,CI]
 split
 .rename_i e;rw[if_pos e]at h;exact#[b,ak h]
 rename_i e;rw[if_neg e]at h
 split
 .rename_i e;rw[if_pos e]at h;exact#[f,b,ak h]
 rename_i e;rw[if_neg e]at h
 split
 .rename_i e;rw[if_pos e]at h
  split<;>rename_i a
  .rw[if_pos a]at h;exact ak h
  .rw[if_neg a]at h;exact ak h
 .rename_i e;rw[if_neg e]at h
  split<;>rename_i a
  .rw[if_pos a]at h;exact ak h
  .rw[if_neg a]at h;exact ak h
def cK(names:aaX)(m many:Int):Rw->Prop
 |.put x k=>x∈names/\0<=k/\k<m
 |.take x i=>x∈names/\0<=i/\i<many
 |.pick x y=>x∈names/\y∈names/\0<many
 |.two w x y z=>(w="sum"\/w="by"\/w="less"\/w="same")/\x∈names/\y∈names/\z∈names
 |_=>False
structure NOk(names:aaX)(m:Int)(n:cM):Prop where
 keys:n.map (·.1)=names
 rng:∀p∈n,0<=p.2/\p.2<m
theorem NOk.at(h:NOk names m n)(f:x∈names):gN n x=ap (nm n x)/\0<=nm n x/\nm n x<m:=by
 have e:=LB (by rw[h.keys];exact f)
 refine#[e,?_];obtain⟨p,b,a⟩:=UR.mp e;rw[<- a];exact h.rng p (List.mem_of_find?_eq_some b)
theorem KS(g:2<=m):0<=zw w y z m/\zw w y z m<m:=by
 unfold zw;have e:=Vm (y+z) (show m≠0 by lia)
 have b:=U3 (y+z) (show 0<m by lia)
 have f:=Vm (y*z) (show m≠0 by lia)
 have a:=U3 (y*z) (show 0<m by lia)
 lia
structure COk(c:Cf):Prop where
 m2:2<=c.m
 m1:c.m<=997
 rng:∀v∈c.pieces,0<=v/\v<c.m
 few:c.pieces.length<=1000
 most:c.most<=10000
theorem COk.piece(h:COk c)(a:i<c.pieces.length):c.pieces[i]?=ap ((c.pieces[i]?).getD 0)/\0<=(c.pieces[i]?).getD 0/\(c.pieces[i]?).getD 0<c.m:=by
 rw[Tx a];exact#[rfl,h.rng _<|by simp_all]
theorem Cw(h:COk c)(f:NOk names c.m n)(a:cK names c.m c.pieces.length r):0<=num c n r/\num c n r<c.m:=by
 cases r with
 |put x k=>exact a.2
 |take x i=>exact(h.piece<|by have:=a.2;lia).2
 |pick x y=>
  have b:=a.2.2;have e:=U3 (nm n y) b;exact(h.piece<|by lia).2
 |two w x y z=>exact KS h.m2
 |ifr=>exact a.elim
 |again=>exact a.elim
def aW(c:Cf)(names:aaX)(rows:List Rw)(mk:Str):D:=.tup [.int c.m,.tup (names.map D.str),.int (c.pieces.length:Nat),.tup (aE rows),.str mk]
theorem cE(f:NOk names c.m n)(a:cK names c.m c.pieces.length r)(g:M b=ap (.dK<|eI n))(h:Q (match r with|.take _ i=>.int i|.pick _ y=>.int (nm n y % (c.pieces.length:Int))|_=>.non) M):ow ad [aW c names rows mk,.ref b,r.d] M Q E:=by
 cases r with
 |put x k=>(simp![qE,i_,Rw.d,atI_0];exact ak h)
 |take x i=>(simp![qE,i_,Rw.d,atI_0];exact ak h)
 |pick x y=>
  simp![qE,i_,Rw.d,atI_0,atI_2,g,cy,(f.at a.2.1).1];exact#[a.2.2,ak h]
 |two w x y z=>
  obtain⟨e,_⟩:=a;rcases e with rfl|rfl|rfl|rfl<;>(simp![qE,i_,aW,Rw.d,atI_0];exact ak h)
 |ifr=>exact a.elim
 |again=>exact a.elim
theorem oZ(o:COk c)(e:NOk names c.m n)(b:cK names c.m c.pieces.length r)(f:M u=ap (.dK<|eI n))(h:Q (.int<|num c n r) M):on ad [aW c names rows mk,.ref u,.tup (c.pieces.map D.int),r.d] M Q E:=by
 have C:=o.m1;cases r with
 |put x k=>
  simp![kj,gB,Rw.d,atI_0];exact ak h
 |take x i=>
  have a:=b;obtain⟨s,j,G⟩:=a;have g:(c.pieces.map D.int)[i.toNat]?=ap (.int<|num c n<|.take x i):=by rw[TJ,(o.piece (i:=i.toNat)<|by lia).1];rfl
  simp![kj,gB,aW,Rw.d,atI_0,atI_2];refine aL (d:=.int i) (λ_ _ q=>cE (c:=c) (names:=names) (rows:=rows) (mk:=mk) (r:=.take x i) e b f q) ?_;simp![bw j,g];exact ak h
 |pick x y=>
  have a:=b;obtain⟨s,p,j⟩:=a;have F:=U3 (nm n y) j;have g:(c.pieces.map D.int)[(nm n y % (c.pieces.length:Int)).toNat]?=ap (.int<|num c n<|.pick x y):=by rw[TJ,(o.piece (i:=(nm n y % (c.pieces.length:Int)).toNat)<|by lia).1];rfl
  simp![kj,gB,aW,Rw.d,atI_0,atI_2];refine aL (d:=.int (nm n y % (c.pieces.length:Int))) (λ_ _ q=>cE (c:=c) (names:=names) (rows:=rows) (mk:=mk) (r:=.pick x y) e b f q) ?_;simp![bw (Vm (nm n y) (show (c.pieces.length:Int)≠0 by lia)),g]
  exact ak h
 |two w x y z=>
  have a:=b;obtain⟨A,s,p,B⟩:=a;have v:=e.at p;have l:((w=VW "put")=False):=by rcases A with rfl|rfl|rfl|rfl<;>exact eq_false (by decide +kernel)
  simp![kj,gB,aW,Rw.d,atI_0,atI_2,l];refine aL (d:=.non) (λ_ _ q=>cE (c:=c) (names:=names) (rows:=rows) (mk:=mk) e b f q) ?_;simp![atI_0,atI_2,atI_3,f,cy,v.1,(e.at B).1,UK];exact aL (λ_ _ q=>km (by lia) (by lia) (by lia) q) (ak h)
 |ifr=>exact b.elim
 |again=>exact b.elim
structure Wk where
 a:cb
 dn:cb
 ls:cb
 h1:a≠dn
 h2:a≠ls
 h3:dn≠ls
noncomputable def ir(l:aaW):D:=.tup (l.map D.int)
def yl(l:List (List Int×Int)):List D:=l.map λp=>.tup [ir p.1,.int p.2]
def wM(ad:Ad)(k:Wk)(c:Cf)(pD:D)(s:Sx)(M:Mem):Mem:=
 ((M.upd k.a<|.ins ad.C_Walk [("plan",pD),("numbers",.ref k.dn),("pieces",.tup (c.pieces.map D.int)),("most",.int (c.most:Nat)),("steps",.ref k.ls)]).upd k.dn<|.dK<|eI s.nums).upd k.ls (.lst<|yl s.steps)
theorem pE:wM ad k c pD s M k.a=ap (.ins ad.C_Walk [("plan",pD),("numbers",.ref k.dn),("pieces",.tup (c.pieces.map D.int)),("most",.int (c.most:Nat)),("steps",.ref k.ls)]):=by
 unfold wM;rw[ae k.h2,ae k.h1,Mem.upd_same]
theorem CB:wM ad k c pD s M k.dn=ap (.dK<|eI s.nums):=by unfold wM;rw[ae k.h3,Mem.upd_same]
theorem Mi:wM ad k c pD s M k.ls=ap (.lst<|yl s.steps):=by unfold wM;simp_all
theorem I0:(wM ad k c pD s M).upd k.ls (.lst<|yl x)=wM ad k c pD #[s.nums,x] M:=by unfold wM;simp_all
theorem KC:(wM ad k c pD s M).upd k.dn (.dK<|eI x)=wM ad k c pD #[x,s.steps] M:=by
 unfold wM;rw[aw (Uk k.h3),Mem.upd_upd]
theorem lf0:Ux ("plan":Str) [(("plan":Str),x0),(("numbers":Str),x1),(("pieces":Str),x2),(("most":Str),x3),(("steps":Str),x4)]=ap (x0:D):=rfl
theorem Im:Ux ("numbers":Str) [(("plan":Str),x0),(("numbers":Str),x1),(("pieces":Str),x2),(("most":Str),x3),(("steps":Str),x4)]=ap (x1:D):=rfl
theorem lf2:Ux ("pieces":Str) [(("plan":Str),x0),(("numbers":Str),x1),(("pieces":Str),x2),(("most":Str),x3),(("steps":Str),x4)]=ap (x2:D):=rfl
theorem lf3:Ux ("most":Str) [(("plan":Str),x0),(("numbers":Str),x1),(("pieces":Str),x2),(("most":Str),x3),(("steps":Str),x4)]=ap (x3:D):=rfl
theorem lf4:Ux ("steps":Str) [(("plan":Str),x0),(("numbers":Str),x1),(("pieces":Str),x2),(("most":Str),x3),(("steps":Str),x4)]=ap (x4:D):=rfl
theorem lfm:Ux ("note_step":Str) [(("plan":Str),x0),(("numbers":Str),x1),(("pieces":Str),x2),(("most":Str),x3),(("steps":Str),x4)]=(none:Option D):=rfl
theorem lfl:Ux ("look":Str) [(("plan":Str),x0),(("numbers":Str),x1),(("pieces":Str),x2),(("most":Str),x3),(("steps":Str),x4)]=(none:Option D):=rfl
theorem gC(g:c.most<=10000)(b:(nt c pl v s).1=true->Q .non (wM ad k c pD (nt c pl v s).2 M))(e:(nt c pl v s).1=cp->E ad.C_Dry (wM ad k c pD (nt c pl v s).2 M)):
  yH ad [.ref k.a,ir pl,.int v] (wM ad k c pD s M) Q E:=by
 unfold nt at b e;simp![u_q1,JK,pE,Mi,lf3,lf4,yl,Tz]
 split
 .have:¬s.steps.length<c.most:=by lia
  rw[if_neg this]at e;exact eP (e rfl)
 have f:s.steps.length<c.most:=by lia
 rw[if_pos f]at b;refine#[bj (by decide),g7 (by lia),ak ?_]
 have:=b rfl;rw[<- I0]at this;simpa [yl] using this
end _T
namespace _3
open PySem _2
def g6:Nat->List D->List D
 |_,[]=>[]
 |k,x::xs=>.tup [.int (k:Nat),x]::g6 (k+1) xs
theorem va:∀(xs:List D)(k:Nat),(xs.zipIdx k).map (λp=>D.tup [.int (p.2:Nat),p.1])=g6 k xs
 |[],_=>rfl
 |x::xs,k=>by rw[WV,TB,va xs _];rfl
theorem ox(xs:List D):wN xs=g6 0 xs:=va xs 0
theorem aO:DIt.ok #[xs,[]] M:=λ_ h=>by cases h
end _3
namespace _T
open PySem _2 _3
variable{ad:Ad}{b l:cb}{c:Cf}{C:Cse}{g:Gs}{a m many v:Int}{ns nums xs:aaW}{aaQ rest rs:List Rw}{names:aaX}{ks u us:List aC}{M M':Mem}{fi i j n:Nat}{r:Rw}{z:Sta}{w x y:Str}{s:Sx}{q:aC}
mutual
def eK(names:aaX)(m many:Int):Rw->Prop
 |.ifr x a b=>x∈names/\bf names m many a/\bf names m many b
 |.again x a=>x∈names/\bf names m many a
 |.put x k=>cK names m many (.put x k)
 |.take x k=>cK names m many (.take x k)
 |.pick x k=>cK names m many (.pick x k)
 |.two w x y z=>cK names m many (.two w x y z)
def bf(names:aaX)(m many:Int):List Rw->Prop
 |[]=>True
 |r::rs=>eK names m many r/\bf names m many rs
end
mutual
noncomputable def hR:Rw->Nat
 |.ifr _ a b=>1+max (dD a) (dD b)
 |.again _ a=>1+dD a
 |_=>0
noncomputable def dD:List Rw->Nat
 |[]=>0
 |r::rs=>max (hR r) (dD rs)
end
theorem HK{n:cM}(f:NOk names c.m n)(B:0<=v/\v<c.m):NOk names c.m (sN n x v):=by
 refine#[by rw[jg];exact f.keys,λp e=>?_]
 simp only[sN,TM]at e;obtain⟨q,h,rfl⟩:=e
 split
 .exact B
 exact f.rng q h
theorem fP:(nt c pl v s).2.nums=s.nums:=by unfold nt;split<;>rfl
theorem kU(h:COk c)(f:cK names c.m c.pieces.length r)(e:NOk names c.m s.nums):NOk names c.m (kJ c r pl s).2.nums:=by
 unfold kJ
 split
 .exact HK e (Cw h e f)
 exact e
theorem BO{x:Str}(B:∀t s,NOk names c.m s.nums->NOk names c.m (e t s).2.nums):∀(f t:Nat)(s:Sx),NOk names c.m s.nums->NOk names c.m (fK c x pl e f t s).2.nums
 |0,_,s,h=>h
 |f+1,t,s,h=>by
  have p:NOk names c.m (nt c (pl++[(t:Int)]) (lk s.nums x) s).2.nums:=by rw[fP];exact h
  unfold fK
  split
  .split
   .split
    .exact BO B f _ _ (B t _ p)
    simp_all
   exact p
  exact p
mutual
theorem tG(e:COk c):∀(r:Rw),eK names c.m c.pieces.length r->∀(pl:aaW)(s:Sx),NOk names c.m s.nums->NOk names c.m (iO c r pl s).2.nums
 |.ifr x a b,h,pl,s,hn=>by
  have f:NOk names c.m (nt c pl (lk s.nums x) s).2.nums:=by rw[fP];exact hn
  simp only[eK]at h;unfold iO
  split
  .split
   .exact dH e a h.2.1 _ _ _ f
   .exact dH e b h.2.2 _ _ _ f
  .exact f
 |.again x a,h,pl,s,hn=>by
  simp only[eK]at h;unfold iO;exact BO (λt s p=>dH e a h.2 _ _ _ p) _ _ _ hn
 |.put x k,h,pl,s,hn=>by rw[cQ rfl];exact kU e (by simpa only[eK] using h) hn
 |.take x k,h,pl,s,hn=>by rw[cQ rfl];exact kU e (by simpa only[eK] using h) hn
 |.pick x k,h,pl,s,hn=>by rw[cQ rfl];exact kU e (by simpa only[eK] using h) hn
 |.two w x y z,h,pl,s,hn=>by rw[cQ rfl];exact kU e (by simpa only[eK] using h) hn
theorem dH(e:COk c):∀(rs:List Rw),bf names c.m c.pieces.length rs->∀(pl:aaW)(j:Nat)(s:Sx),NOk names c.m s.nums->NOk names c.m (cg c rs pl j s).2.nums
 |[],_,_,_,s,hn=>by simpa only[cg] using hn
 |r::rs,h,pl,j,s,hn=>by
  simp only[bf]at h;unfold cg
  split
  .exact dH e rs h.2 _ _ _ (tG e r h.1 _ _ hn)
  .exact tG e r h.1 _ _ hn
end
def Post(ad:Ad)(k:Wk)(c:Cf)(pD:D)(r:Bool×Sx)(M:Mem)(d:D)(Q:DK)(E:DX):Prop:=(r.1=true->Q d (wM ad k c pD r.2 M))/\(r.1=cp->E ad.C_Dry (wM ad k c pD r.2 M))
theorem bH{r:Bool×Sx}(F:∀Q' E',Post ad k c f r M d Q' E'->T ds M0 Q' E'){b:BxQ E Q}(h:Post ad k c f r M d Q E):calls T E ds M0 Q b:=
 ao λQ' E' p B=>F Q' E' #[λe=>p _ _ (h.1 e),λe=>B _ _ (h.2 e)]
theorem Post.drp{r:Bool×Sx}(h:Post ad k c f r M d Q E):Post ad k c f r M d (_3.drp Q) (aJ E):=#[λe=>ak (h.1 e),λe=>eP (h.2 e)]
theorem pV(B:COk c)(F:NOk names c.m s.nums)(p:x∈names)(h:Post ad k c (aW c names aaU mk) (nt c pl (lk s.nums x) s) M (.int<|lk s.nums x) Q E):
  qQ ad [.ref k.a,ir pl,.str x] (wM ad k c (aW c names aaU mk) s M) Q E:=by
 have f:∀v:Int,v=lk s.nums x->calls (yH ad) (aJ E) [.ref k.a,ir pl,.int v] (wM ad k c (aW c names aaU mk) s M) (λ_ M1=>_3.drp Q (.int v) M1) #[]:=by
  rintro v rfl
  exact bH (λQ' E' z=>gC B.most z.1 z.2) #[λe=>ak (h.1 e),λe=>eP (h.2 e)]
 simp![RN,AW,pE,CB,Im,lfm,cy,(F.at p).1,UK]
 split
 .rename_i e
  exact f 0 (by unfold lk;rw[if_pos e])
 rename_i e
 exact f 1 (by unfold lk;rw[if_neg e])
theorem jR(h:cK names m many r):∃w rest,r.d=.tup (.str w::.str (iF r)::rest)/\(w="again")=False/\(w="if")=False:=by
 cases r with
 |two w x y z=>
  refine#[_,_,rfl,?_];rcases h.1 with rfl|rfl|rfl|rfl
  .exact#[by trivial,(eq_false<|by decide +kernel)]
  .exact#[(eq_false<|by decide +kernel),(eq_false<|by decide +kernel)]
  .exact#[(eq_false<|by decide +kernel),(eq_false<|by decide +kernel)]
  exact#[(eq_false<|by decide +kernel),(eq_false<|by decide +kernel)]
 |ifr=>exact h.elim
 |again=>exact h.elim
 |_=>exact#[_,_,rfl,(eq_false<|by decide +kernel),(eq_false<|by decide +kernel)]
theorem qT(R:names.length<=1000)(O:COk c)(H:NOk names c.m s.nums)(f:cK names c.m c.pieces.length r)(h:Post ad k c (aW c names aaU mk) (kJ c r pl s) M .non Q E):
  Y4 ad (n+1) [.ref k.a,r.d,ir pl] (wM ad k c (aW c names aaU mk) s M) Q E:=by
 obtain⟨w,rest,I,B,G⟩:=jR f;have fin:calls (on ad) (aJ E) [aW c names aaU mk,.ref k.dn,.tup (c.pieces.map D.int),r.d] (wM ad k c (aW c names aaU mk) s M) (λd M'=>frz d M' λx M1=>
   ag 3 x [ap (.ref k.a),ap r.d,ap (ir pl),bb] M1 λU M2=>ah (bh<|dw ad.C_Walk "note_step" (yH ad) (aJ E) 3 (ac 0)<|aa (ac 2)<|aa (ac 3) af)
    (aq (ac 3)<|cZ (aV ad.C_Walk (ac 0) "numbers")<|ai av (ac 1)<|dC<|.int 1) { nx:=λ_ M'=>_3.drp Q .non M',rt:=_3.drp Q } U M2) #[]:=by
  refine aL (λ_ _ q=>oZ O H f CB q) ?_;simp![pE,lfm];refine bH (λQ' E' z=>gC O.most z.1 z.2) ?_;unfold kJ at h;unfold nt;have e:iF r∈s.nums.map (·.1):=by
   rw[H.keys];cases r with
   |two w x y z=>exact f.2.1
   |ifr=>exact f.elim
   |again=>exact f.elim
   |_=>exact f.1
  split
  .rename_i F
   rw[if_pos F]at h;refine#[λ_=>?_,by lia]
   have J:=h.1 rfl;have P:wM ad k c (aW c names aaU mk) #[sN s.nums (iF r) (num c s.nums r),s.steps++[(pl,num c s.nums r)]] M=(wM ad k c (aW c names aaU mk) #[s.nums,s.steps++[(pl,num c s.nums r)]] M).upd k.dn (.dK<|dU (eI s.nums) (Us<|iF r)<|.int<|num c s.nums r):=by
    rw[lx e,KC]
   rw[P]at J;have p:(eI s.nums).length<sizeLine:=by rw[eI,Tz,<- Tz,H.keys];exact g7 (by lia)
   rw[I];simp![pE,CB,Im,atI_1];exact#[p,ak J]
  .rename_i F
   rw[if_neg F]at h;exact#[by lia,λ_=>eP (h.2 rfl)]
 rw[I]at fin ⊢;simp![FR,qO,pE,lf0,Im,lf2,atI_0,B,G];exact fin
def Gr(c:Cf)(s s':Sx):Prop:=s.steps.length<=s'.steps.length/\(s.steps.length<=c.most->s'.steps.length<=c.most)
theorem Gr.refl:Gr c s s:=#[by lia,id]
theorem Gr.trans{s2:Sx}(a:Gr c s e)(b:Gr c e s2):Gr c s s2:=#[TR a.1 b.1,λh=>b.2 (a.2 h)]
theorem nt_gr:Gr c s (nt c pl v s).2:=by
 unfold nt
 split
 .refine#[by simp,λ_=>?_];simp;lia
 exact Gr.refl
theorem ly:Gr c s (kJ c r pl s).2:=by
 unfold kJ
 split
 .refine#[by simp,λ_=>?_];simp;lia
 exact Gr.refl
theorem CJ{x:Str}(h:∀t s,Gr c s (e t s).2):∀(f t:Nat)(s:Sx),Gr c s (fK c x pl e f t s).2
 |0,_,s=>Gr.refl
 |f+1,t,s=>by
  unfold fK
  split
  .split
   .split
    .exact nt_gr.trans ((h t _).trans<|CJ h f _ _)
    exact nt_gr.trans (h t _)
   exact nt_gr
  exact nt_gr
mutual
theorem sY:∀(r:Rw)(pl:aaW)(s:Sx),Gr c s (iO c r pl s).2
 |.ifr x a b,pl,s=>by
  unfold iO
  split
  .split
   .exact nt_gr.trans (fM a _ _ _)
   .exact nt_gr.trans (fM b _ _ _)
  .exact nt_gr
 |.again x a,pl,s=>by
  unfold iO;exact CJ (λt s=>fM a _ _ _) _ _ _
 |.put x k,pl,s=>by rw[cQ rfl];exact ly
 |.take x k,pl,s=>by rw[cQ rfl];exact ly
 |.pick x k,pl,s=>by rw[cQ rfl];exact ly
 |.two w x y z,pl,s=>by rw[cQ rfl];exact ly
theorem fM:∀(rs:List Rw)(pl:aaW)(j:Nat)(s:Sx),Gr c s (cg c rs pl j s).2
 |[],_,_,s=>by unfold cg;exact Gr.refl
 |r::rs,pl,j,s=>by
  unfold cg
  split
  .exact(sY r _ _).trans (fM rs _ _ _)
  .exact sY r _ _
end
theorem gl:D.tup (pl.map D.int++[D.int v])=ir (pl++[v]):=by simp[ir]
def C2(ad:Ad)(k:Wk)(c:Cf)(names:aaX)(aaU:List Rw)(mk:Str)(n:Nat):Prop:=∀(rs:List Rw)(pl:aaW)(s:Sx)(M:Mem)(Q:DK)(E:DX),bf names c.m c.pieces.length rs->3*dD rs+2<=n->pl.length+2*dD rs+2<=1000->NOk names c.m s.nums->s.steps.length<=c.most->
 Post ad k c (aW c names aaU mk) (cg c rs pl 0 s) M .non Q E->Y2 ad n [.ref k.a,.tup (aE rs),ir pl] (wM ad k c (aW c names aaU mk) s M) Q E
def NP(ad:Ad)(k:Wk)(c:Cf)(names:aaX)(aaU:List Rw)(mk:Str)(n:Nat):Prop:=∀(r:Rw)(pl:aaW)(s:Sx)(M:Mem)(Q:DK)(E:DX),eK names c.m c.pieces.length r->3*hR r+1<=n->pl.length+2*hR r+1<=1000->NOk names c.m s.nums->s.steps.length<=c.most->
 Post ad k c (aW c names aaU mk) (iO c r pl s) M .non Q E->Y4 ad n [.ref k.a,r.d,ir pl] (wM ad k c (aW c names aaU mk) s M) Q E
def PIf(ad:Ad)(k:Wk)(c:Cf)(names:aaX)(aaU:List Rw)(mk:Str)(n:Nat):Prop:=∀(x:Str)(a b:List Rw)(pl:aaW)(s:Sx)(M:Mem)(Q:DK)(E:DX),eK names c.m c.pieces.length (.ifr x a b)->3*hR (.ifr x a b)<=n->pl.length+2*hR (.ifr x a b)+1<=1000->NOk names c.m s.nums->s.steps.length<=c.most->
 Post ad k c (aW c names aaU mk) (iO c (.ifr x a b) pl s) M .non Q E->Y5 ad n [.ref k.a,(Rw.ifr x a b).d,ir pl] (wM ad k c (aW c names aaU mk) s M) Q E
def PAg(ad:Ad)(k:Wk)(c:Cf)(names:aaX)(aaU:List Rw)(mk:Str)(n:Nat):Prop:=∀(x:Str)(a:List Rw)(pl:aaW)(s:Sx)(M:Mem)(Q:DK)(E:DX),eK names c.m c.pieces.length (.again x a)->3*hR (.again x a)<=n->pl.length+2*hR (.again x a)+1<=1000->NOk names c.m s.nums->s.steps.length<=c.most->
 Post ad k c (aW c names aaU mk) (iO c (.again x a) pl s) M .non Q E->Y6 ad n [.ref k.a,(Rw.again x a).d,ir pl] (wM ad k c (aW c names aaU mk) s M) Q E
theorem D7(T:COk c)(W:NP ad k c names aaU mk n):C2 ad k c names aaU mk (n+1):=by
 intro rs pl s M Q E p P H B F h;simp![Sy,zb,eE,ox]
 refine cS (λxs U M'=>∃(f:List Rw)(j:Nat)(G:Sx)(S O:Option D),xs=g6 j (aE f)/\U=[ap _,ap _,ap _,S,O]/\M'=wM ad k c _ G M/\bf _ c.m _ f/\3*dD f+2<=n+1/\pl.length+2*dD f+2<=1000/\NOk _ _ G.nums/\G.steps.length<=c.most/\
  Post ad k c _ (cg c f pl j G) M _ Q E) (λ_ _ _ _=>aO) ?_ ?_ _ _ _ #[rs,0,s,_,_,rfl,rfl,rfl,p,P,H,B,F,h]
 .rintro U M' ⟨f,j,G,S,O,J,rfl,rfl,p,P,H,B,F,h⟩
  cases f with
  |nil=>exact ak (by simpa [cg] using h.1 (by simp[cg]))
  |cons r rs=>trivial
 rintro x xs U M' ⟨f,j,G,S,O,J,rfl,rfl,p,P,H,B,F,h⟩ D' R _ _ _
 cases f with
 |nil=>simp[aE,g6]at J
 |cons r f=>
  simp only[aE,g6,UY]at J;obtain⟨rfl,rfl⟩:=J;simp only[bf]at p;have X:hR r<=dD (r::f)/\dD f<=dD (r::f):=by simp only[dD];lia
  simp![ir,Ui,Tz];refine#[bj (by decide),bj (by lia),?_]
  rw[gl];refine bH (r:=iO c r (pl++[(j:Int)]) G) (d:=.non) (λQ' E' z=>W r (pl++[(j:Int)]) G M Q' E' p.1 (by lia) (by simp;lia) B F z) ?_
  simp only[cg]at h;cases I:(iO c r (pl++[(j:Int)]) G).1 with
  |true=>
   rw[if_pos I]at h;refine#[λ_=>R _ _ #[f,j+1,_,_,_,rfl,rfl,rfl,p.2,by lia,by lia,tG T r p.1 _ _ B,(sY r _ _).2 F,h],λe=>by rw[I]at e;cases e]
  |false=>
   rw[if_neg (by rw[I];simp)]at h
   exact#[λe=>(by rw[I]at e;cases e),λ_=>eP (h.2 I)]
theorem FX(F:names.length<=1000)(I:COk c)(G:PIf ad k c names aaU mk n)(H:PAg ad k c names aaU mk n):NP ad k c names aaU mk (n+1):=by
 intro r pl s M Q E B J p e f h;cases r with
 |ifr x a b=>
  simp![FR,qO,Rw.d,atI_0];exact bH (λQ' E'=>G x a b pl s M Q' E' B (by lia) p e f) h.drp
 |again x a=>
  simp![FR,qO,Rw.d,atI_0];exact bH (λQ' E'=>H x a pl s M Q' E' B (by lia) p e f) h.drp
 |_=>rw[cQ rfl]at h;exact qT F I e (by assumption) h
theorem Ko(O:COk c)(I:C2 ad k c names aaU mk n):PIf ad k c names aaU mk (n+1):=by
 intro x a b pl s M Q E p J F B H h;simp only[hR]at J F;simp![Ti,BB,Rw.d,pE,lfl,atI_1,atI_2,atI_3];refine bH (λQ' E' z=>pV O B p.1 z) ?_;have hl:lk s.nums x=0\/lk s.nums x=1:=by unfold lk;split<;>simp
 have f:NOk names c.m (nt c pl (lk s.nums x) s).2.nums:=by rw[fP];exact B
 have e:=(nt_gr (pl:=pl) (v:=lk s.nums x)).2 H;unfold iO at h;cases G:(nt c pl _ s).1 with
 |false=>
  rw[if_neg (by rw[G];simp)]at h
  exact#[by lia,λ_=>eP (h.2 G)]
 |true=>
  rw[if_pos G]at h;refine#[λ_=>?_,by lia]
  rcases hl with hl|hl
  .rw[hl]at h f e ⊢
   simp![atI_2,atI_3,ir,Tz];refine#[bj (by decide),bj (by lia),?_]
   rw[gl];exact bH (λQ' E' z=>I b _ _ M Q' E' p.2.2 (by lia) (by simp;lia) f e z) h.drp
  .rw[hl]at h f e ⊢
   simp![atI_2,atI_3,ir,Tz];refine#[bj (by decide),bj (by lia),?_]
   rw[gl];exact bH (λQ' E' z=>I a _ _ M Q' E' p.2.1 (by lia) (by simp;lia) f e z) h.drp
theorem xk(hc:COk c)(ih:C2 ad k c names aaU mk n):PAg ad k c names aaU mk (n+1):=by
 intro x a pl s M Q E I hn Y G J h;simp only[eK]at I;simp only[hR]at hn Y;refine#[c.most+1,?_];unfold iO at h
 have X:∀(f t:Nat)(s:Sx)(S:fH)(P:ar)(DD:DEnds)(b:BxW S P DD),NOk names c.m s.nums->s.steps.length<=c.most->c.most<s.steps.length+f->
   S=al (ai cc (am<|dw ad.C_Walk "look" (qQ ad) (aJ E) 3 (ac 0)<|aa (ai b6 (ac 2)<|aS<|aa (ac 3) af)<|aa (ai av (ac 1)<|dC<|.int 1) af)<|dC<|.int 1)->
   P=ah (bh<|aj (Y2 ad n) (aJ E) 3<|aa (ac 0)<|aa (ai av (ac 1)<|dC<|.int 2)<|aa (ai b6 (ac 2)<|aS<|aa (ac 3) af) af) (Ii 3 (dC<|.int 1) Gq)->
   DD.nx=(λ_ M'=>_3.drp Q .non M')->
   Post ad k c (aW c names aaU mk) (fK c x pl (λt s=>cg c a (pl++[(t:Int)]) 0 s) f t s) M .non Q E->
   cU S P DD b f [ap (.ref k.a),ap (.tup [.str "again",.str x,.tup (aE a)]),ap (ir pl),ap (.int (t:Int))] (wM ad k c (aW c names aaU mk) s M):=by
  intro f
  induction f with
  |zero=>intro t s S P DD b G J hf;lia
  |succ f ihf=>
   intro t s S P DD b G J hf W T O h;unfold cU;subst W;simp![pE,lfl,atI_1,ir,Ui,Tz];refine#[bj (by decide),bj (by lia),?_]
   rw[gl];refine bH (d:=.int (lk s.nums x)) (λQ' E' z=>pV hc G I.1 z) ?_;have hl:lk s.nums x=0\/lk s.nums x=1:=by unfold lk;split<;>simp
   have p:NOk names c.m (nt c (pl++[(t:Int)]) (lk s.nums x) s).2.nums:=by rw[fP];exact G
   have F:=(nt_gr (c:=c) (pl:=pl++[(t:Int)]) (v:=lk s.nums x) (s:=s)).2 J;unfold fK at h;cases H:(nt c (pl++[(t:Int)]) (lk s.nums x) s).1 with
   |false=>
    rw[if_neg (by rw[H];simp)]at h
    exact#[λe=>(by rw[H]at e;cases e),λ_=>eP (h.2 H)]
   |true=>
    rw[if_pos H]at h;refine#[λ_=>?_,λe=>by rw[H]at e;cases e]
    have R:(nt c (pl++[(t:Int)]) (lk s.nums x) s).2.steps.length=s.steps.length+1:=by
     unfold nt at H ⊢
     split at H
     .rename_i q;rw[if_pos q];simp
     .cases H
    rcases hl with hl|hl
    .rw[hl]at h ⊢
     simp![show ((0:Int)=1)=False from eq_false (by decide)]
     rw[O];rw[hl]at H;exact ak (h.1 H)
    .rw[if_pos hl]at h
     rw[hl]at h p F R ⊢;simp![];subst T;simp![atI_2,ir,Ui,Tz];refine#[bj (by decide),bj (by lia),?_]
     rw[gl];refine bH (λQ' E' z=>ih a (pl++[(t:Int)]) _ M Q' E' I.2 (by lia) (by simp;lia) p F z) ?_
     have Z:=fM (c:=c) a (pl++[(t:Int)]) 0 (nt c (pl++[(t:Int)]) 1 s).2;cases B:(cg c a (pl++[(t:Int)]) 0 (nt c (pl++[(t:Int)]) 1 s).2).1 with
     |true=>
      rw[if_pos B]at h;refine#[λ_=>?_,λe=>by rw[B]at e;cases e]
      simp![];exact ihf (t+1) _ _ _ _ _ (dH hc a I.2 _ _ _ p) (Z.2 F) (by have:=Z.1;lia) rfl rfl O h
     |false=>
      rw[if_neg (by rw[B];simp)]at h
      exact#[λe=>(by rw[B]at e;cases e),λ_=>eP (h.2 B)]
 exact X (c.most+1) 0 s _ _ _ _ G J (by lia) rfl rfl rfl h
theorem uU(e:names.length<=1000)(f:COk c):∀n:Nat,C2 ad k c names aaU mk n/\NP ad k c names aaU mk n/\PIf ad k c names aaU mk n/\PAg ad k c names aaU mk n
 |0=>#[λrs pl s M Q E _ h=>by lia,λr pl s M Q E _ h=>by lia,λx a b pl s M Q E _ h=>by simp[hR]at h;lia,λx a pl s M Q E _ h=>by simp[hR]at h;lia]
 |n+1=>by
  obtain⟨p,F,B,G⟩:=uU e f n;exact#[D7 f F,FX e f B G,Ko f p,xk f p]
theorem uQ:∀(names:aaX)(nums:aaW)(aaQ:cM),names.length=nums.length->(aaQ.map (·.1)++names).Nodup->
  ((names.map λx=>(Us x:aC)).zip<|nums.map D.int).foldl (λa p=>dU a p.1 p.2) (eI aaQ)=eI (aaQ++names.zip nums)
 |[],nums,aaQ,_,_=>by simp
 |x::names,[],aaQ,h,_=>by simp at h
 |x::names,v::nums,aaQ,h,nd=>by
  have J:x∉aaQ.map (·.1):=by
   exact λI=>((WL.mp nd).2.2) x I x (by simp) rfl
  have f:((eI aaQ).any λG=>decide (G.1=Us x))=false:=by
   rw[List.any_eq_false];intro p B;simp only[eI,TM]at B;obtain⟨q,H,rfl⟩:=B;simp only[decide_eq_true_eq];intro e;exact J (by rw[<- (Sum.inr.inj e)];exact Uq H)
  simp;have F:dU (eI aaQ) (Us x) (.int v)=eI (aaQ++[(x,v)]):=by
   unfold dU;rw[f];simp[eI]
  rw[F,uQ _ _ _ (by simpa using h) (by simp_all)]
  simp
theorem eL:∀names:List Str,fc (names.map D.str)=ap (names.map λx=>(Us x:aC))
 |[]=>rfl
 |x::names=>by simp[fc,cN,eL names,FH,Hw,GW,Jz,wt,wo,Ag,pP]
theorem cG(h:names.length=nums.length)(nd:names.Nodup):Ms (names.map λx=>(Us x:aC)) (nums.map D.int)=eI (names.zip nums):=by
 have:=uQ _ _ [] h (by trivial)
 assumption
theorem SE:bR "plan" d []=[(("plan":Str),d)]:=rfl
theorem dp2{a:D}:bR "numbers" d [(("plan":Str),a)]=[(("plan":Str),a),(("numbers":Str),d)]:=rfl
theorem dp3{a b:D}:bR "pieces" d [(("plan":Str),a),(("numbers":Str),b)]=[(("plan":Str),a),(("numbers":Str),b),(("pieces":Str),d)]:=rfl
theorem dp4{a b:D}:bR "most" d [(("plan":Str),a),(("numbers":Str),b),(("pieces":Str),e)]=[(("plan":Str),a),(("numbers":Str),b),(("pieces":Str),e),(("most":Str),d)]:=rfl
theorem dp5{a b g:D}:bR "steps" d [(("plan":Str),a),(("numbers":Str),b),(("pieces":Str),e),(("most":Str),g)]=[(("plan":Str),a),(("numbers":Str),b),(("pieces":Str),e),(("most":Str),g),(("steps":Str),d)]:=rfl
noncomputable def bJ(nums pieces:aaW):D:=.tup [.tup (nums.map D.int),.tup (pieces.map D.int)]
theorem Dg{a:cb}(P:M a=bb)(G:names.length=nums.length)(H:names.Nodup)(O:0<names.length)(J:names.length<=1000)(h:∀(k:Wk),k.a=a->M k.dn=bb->M k.ls=bb->Q .non (wM ad k c (aW c names rows mk) #[names.zip nums,[]] M)):
  KO ad [.ref a,aW c names rows mk,bJ nums c.pieces,.int (c.most:Nat)] (M.upd a<|.ins ad.C_Walk []) Q E:=by
 simp![u_q6,KH,aW,bJ,Mem.upd_upd,atI_0,atI_1,eL,Tz,SE];refine#[by decide,G,O,J,λdn p=>?_]
 have n1:a≠dn:=Mem.ne Mem.upd_same p;have B:M dn=none:=by rw[ae (Uk n1)]at p;exact p
 simp![ae n1,Mem.upd_same,atI_0,atI_1,SE,dp2,aw (Uk n1),Mem.upd_upd,cG G H];refine#[by simp,?_]
 simp![ae n1,Mem.upd_same,atI_0,atI_1,SE,dp2,dp3,cG G H,aw (Uk n1),Mem.upd_upd];refine#[by simp,?_]
 simp![ae n1,Mem.upd_same,atI_0,atI_1,SE,dp2,dp3,dp4,cG G H,aw (Uk n1),Mem.upd_upd];refine#[by simp,bj (by simp),λls f=>?_]
 have n2:a≠ls:=by
  intro e;subst e;rw[ae n1,Mem.upd_same]at f;cases f
 have I:dn≠ls:=by
  intro e;subst e;rw[Mem.upd_same]at f;cases f
 have F:M ls=none:=by rw[ae (Uk I),ae (Uk n2)]at f;exact f
 simp![atI_0,atI_1,ae n2,ae n1,Mem.upd_same,SE,dp2,dp3,dp4,dp5,aw (Uk n1),Mem.upd_upd,cG G H];refine#[by simp,ak ?_]
 have:=h #[a,dn,ls,n1,n2,I] rfl B F;have e:wM ad #[a,dn,ls,n1,n2,I] c (aW c names rows mk) #[names.zip nums,[]] M=(((M.upd a<|.ins ad.C_Walk [("plan",aW c names rows mk),("numbers",.ref dn),("pieces",.tup (c.pieces.map D.int)),("most",.int (c.most:Nat))]).upd dn<|.dK<|eI<|names.zip nums).upd ls<|.lst []).upd a (.ins ad.C_Walk [("plan",aW c names rows mk),("numbers",.ref dn),("pieces",.tup (c.pieces.map D.int)),("most",.int (c.most:Nat)),("steps",.ref ls)]):=by
  unfold wM;rw[aw (Uk n2),aw (Uk n1),Mem.upd_upd];rfl
 rw[e]at this;exact this
def dB(c:Cf)(names:aaX)(rows:List Rw)(nums:aaW):Bool×Sx:=cg c rows [] 0 #[names.zip nums,[]]
def dA(names:aaX)(r:Bool×Sx):D:=if r.1=true then .tup (names.map λx=>.int (nm r.2.nums x)) else .non
structure PlOk(c:Cf)(names:aaX)(rows:List Rw)(nums:aaW):Prop where
 co:COk c
 ln:names.length=nums.length
 nd:names.Nodup
 l0:0<names.length
 l1:names.length<=1000
 rng:∀v∈nums,0<=v/\v<c.m
 ok:bf names c.m c.pieces.length rows
 h:dD rows<=7
theorem gs:∀{names:aaX}{nums:aaW},names.length=nums.length->(names.zip nums).map (·.1)=names
 |[],[],_=>rfl
 |[],_::_,h=>by simp at h
 |_::_,[],h=>by simp at h
 |x::xs,v::vs,h=>by simp[gs (by simpa using h)]
theorem PlOk.nok(p:PlOk c names rows nums):NOk names c.m (names.zip nums):=#[gs p.ln,λq e=>p.rng _ (Wg e).2]
theorem F4(p:PlOk c names rows nums)(h:∀l,M l=bb->Q (.tup [.ref l,dA names (dB c names rows nums)]) (M.upd l<|.lst<|yl (dB c names rows nums).2.steps)):
  vD ad [aW c names rows mk,bJ nums c.pieces,.int (c.most:Nat)] M Q E:=by
 simp![RD,zW];intro a X;refine ao λQ' E' I _=>Dg X p.ln p.nd p.l0 p.l1 λk hk O G=>I _ _ ?_;subst hk;have f:∀(T:Sx),∀b o,(M.upd k.ls<|.lst<|yl T.steps) b=ap o->wM ad k c (aW c names rows mk) T M b=ap o:=by
  intro T b o e
  by_cases P:b=k.ls
  .subst P;rw[Mem.upd_same]at e;rw[Mi];exact e
  .rw[ae P]at e
   have h2:b≠k.dn:=by rintro rfl;rw[O]at e;cases e
   have h3:b≠k.a:=by rintro rfl;rw[X]at e;cases e
   unfold wM;rw[ae P,ae h2,ae h3];exact e
 have Y:=(uU (ad:=ad) (k:=k) (aaU:=rows) (mk:=mk) p.l1 p.co 24).1 rows [] #[names.zip nums,[]] M;unfold aW at Y;simp![aW,atI_3];refine#[bj (by decide),?_]
 refine ao λQ2 E2 W R=>Y Q2 E2 p.ok (by have:=p.h;lia) (by have:=p.h;simp;lia) p.nok (U2 _) #[λe=>W _ _ ?_,λe=>R _ _ #[rfl,?_]]
 .have hn:NOk names c.m (dB c names rows nums).2.nums:=dH p.co rows p.ok [] 0 #[names.zip nums,[]] p.nok
  have S:(dB c names rows nums).1=true:=e;simp![pE,lf4,atI_1,aN]
  refine ce (λxs aaQ U M'=>∃n1 n2 H,names=n1++n2/\xs=n2.map D.str/\aaQ=n1.map (λx=>D.int (nm (dB c names rows nums).2.nums x))/\U=[H,ap (.ref k.a)]/\M'=wM ad k c (aW c names rows mk) (dB c names rows nums).2 M)
   (λ_ _ _ _ _=>aO) ?_ ?_ ?_ _ _ _ _ #[[],names,bb,rfl,rfl,rfl,rfl,rfl]
  .rintro aaQ U M' ⟨n1,n2,H,B,F,rfl,rfl,rfl⟩
   have:n2=[]:=by cases n2 with|nil=>rfl|cons _ _=>simp at F
   subst this;intro q I;simp![Mem.upd_upd,Mem.upd_del,au I];refine#[bj (by decide),#[_,f _,?_]]
   have:=h k.ls G;unfold dA at this;rw[if_pos S]at this;have Z:n1=names:=by simpa using B.symm
   rw[Z];exact this
  .rintro x xs aaQ U M' ⟨n1,n2,H,B,F,rfl,rfl,rfl⟩ N hN _
   cases n2 with
   |nil=>simp at F
   |cons y n2=>
    simp only[TB,UY]at F;obtain⟨rfl,rfl⟩:=F;have hy:y∈names:=by rw[B];simp
    simp![pE,CB,Im,cy,(hn.at hy).1,UK];refine hN _ _ _ ?_ #[n1++[y],n2,_,by simp[B],rfl,by simp,rfl,rfl]
    have J:=congrArg Vr B;have:=p.l1;simp at J ⊢;exact g7 (by lia)
  .rintro x xs aaQ U M' ⟨n1,n2,H,B,F,rfl,rfl,rfl⟩
   have J:=congrArg Vr B;have:=p.l1;simp at J ⊢;exact g7 (by lia)
 .have S:(dB c names rows nums).1=false:=e
  simp![pE,lf4];refine#[bj (by decide),#[_,f _,?_]]
  have:=h k.ls G;unfold dA at this;rw[if_neg (by rw[S];simp)]at this
  exact this
structure Pt where
 p:cb
 q:cb
 ne:p≠q
def Has(k:Pt)(M:Mem):Prop:=∃(cells:aaW)(t h sd:Int),cells.length<=63/\M k.p=ap (.lst [.ref k.q,.int t,.int h,.int sd])/\M k.q=ap (.lst<|cells.map D.int)
def Dr(k:Pt)(M M':Mem):Prop:=Has k M'/\∀b,b≠k.p->b≠k.q->M' b=M b
theorem Has.refl(h:Has k M):Dr k M M:=#[h,by lia]
theorem Dr.trans{M1 M2:Mem}(a:Dr k M M1)(b:Dr k M1 M2):Dr k M M2:=#[b.1,λx e f=>(b.2 x e f).trans (a.2 x e f)]
theorem Has.nep(h:Has k M)(F:M l=bb):l≠k.p/\l≠k.q:=by
 obtain⟨e,t,hh,sd,_,f,B⟩:=h;exact#[by lia,by lia]
theorem Has.upd(h:Has k M)(f:l≠k.p/\l≠k.q):Has k (M.upd l o):=by
 obtain⟨e,t,hh,sd,B,F,G⟩:=h;exact#[_,t,hh,sd,B,by rw[ae (Uk f.1)];exact F,by rw[ae (Uk f.2)];exact G]
theorem Has.del(h:Has k M)(f:l≠k.p/\l≠k.q):Has k (M.del l):=by
 obtain⟨e,t,hh,sd,B,F,G⟩:=h;exact#[_,t,hh,sd,B,by unfold Mem.del;rw[if_neg (Uk f.1)];exact F,by unfold Mem.del;rw[if_neg (Uk f.2)];exact G]
theorem Dr.none{k:Pt}(f:Has k M)(h:Dr k M M')(e:M l=bb):M' l=none:=by
 have:=f.nep e;rw[h.2 l this.1 this.2];exact e
theorem jI:∀(n:Nat)(e:aaW),fits n (e.map D.int)=true
 |_,[]=>by rfl
 |n,c::e=>by
  rw[TB];unfold fits;rw[jI n e];rfl
theorem jv{b:Int}(h:∀r,Q (.int r) M):oH ad [.int a,.int b] M Q E:=by
 simp![Rc,AS];refine#[.inr (by decide),.inr (by decide),by decide,by trivial,.inr (by decide),by decide,by trivial,ak<|h _]
theorem Gm{x:α}{xs:List α}:fE (x::xs) 0=ap x:=by rw[atI_0];rfl
theorem wA(h:0<m):0<=a % m/\a % m<m:=#[Vm _ (by lia),U3 _ h]
theorem jU{i:Int}(h:0<=i)(e:i<n):yD n i=ap i.toNat:=by unfold yD;simp_all
theorem ix0:yD (n+1) 0=ap 0:=jU (by decide) (by lia)
theorem Mv:yD 4 2=ap 2:=rfl
theorem cD{s u:ar}(h:s { D0 with nx:=u D0 } U M):ah s u D0 U M:=h
theorem Km{k:Pt}(e:U[0]?=ap (ap<|.ref k.p))(f:M k.p=ap (.lst [.ref k.q,.int t,.int hh,.int sd]))(h:D0.nx U (M.upd k.p<|.lst [.ref k.q,.int (t+1),.int hh,.int sd])):
  aq (ai b6 (ai av (ac 0)<|dC<|.int 1)<|dC<|.int 1) (cZ (ac 0)<|dC<|.int 1) D0 U M:=by
 simp![e,f,atI_1];exact h
theorem B2{k:Pt}(e:0<many)(I:many<2 ^ 62)(h:M k.p=ap (.lst [.ref k.q,.int t,.int hh,.int sd]))(G:∀r,D0.rt (.int<|r % many) M)(H:D0.rt (.int<|hh % many) (M.upd k.p<|.lst [.ref k.q,.int t,.int (hh / many),.int sd])):
  (ah (aG (al<|ai cc (ai av (ac 0)<|dC<|.int 2)<|dC<|.int 0) (aA<|ai gb (am<|aj (oH ad) EE 2<|aa (ai av (ac 0)<|dC<|.int 3)<|aa (ai av (ac 0)<|dC<|.int 1) af)<|ac 1) aB)
  (ah (aq (ai gb (ai av (ac 0)<|dC<|.int 2)<|ac 1)<|ag 3)
  (ah (aq (ai vQ (ai av (ac 0)<|dC<|.int 2)<|ac 1)<|cZ (ac 0)<|dC<|.int 2)
  (aA<|ac 3)))) D0 [ap (.ref k.p),ap (.int many),F,bb] M:=by
 simp![h,atI_1,atI_2,atI_3]
 by_cases f:hh=0
 .rw[if_pos f]
  refine ao λQ' E' B _=>jv λr=>B _ _ ?_;simp![];exact#[e,G r]
 .rw[if_neg f]
  simp![h,Mv];exact#[e,#[e,by lia],H]
theorem KW{k:Pt}(P:0<many)(B:M k.p=ap (.lst [.ref k.q,.int t,.int hh,.int sd]))(H:M k.q=ap (.lst<|cells.map D.int))(I:D0.nx [ap (.ref k.p),ap (.int many),bb,bb] M)(R:∀c cs,hh=0->cells=c::cs->∀r,D0.rt (.int<|r % many) (M.upd k.q<|.lst<|cs.map D.int))(S:∀c cs,hh=0->cells=c::cs->¬c<10 ^ V7 18->D0.nx [ap (.ref k.p),ap (.int many),ap (.int c),bb] ((M.upd k.q<|.lst<|cs.map D.int).upd k.p<|.lst [.ref k.q,.int t,.int c,.int sd])):
  aG (pj (al<|ai cc (ai av (ac 0)<|dC<|.int 2)<|dC<|.int 0)<|al<|ai qP (ai av (ac 0)<|dC<|.int 0)<|am<|bQ af) (ah (aq (kH "list" D8 (ai av (ac 0)<|dC<|.int 0)<|aa (dC<|.int 0) af)<|ag 2)
   (ah (aG (al<|ai Ed (ac 2)<|ai Op (dC<|.int 10)<|dC<|.int 18) (aA<|ai gb (am<|aj (oH ad) EE 2<|aa (ac 2)<|aa (ai av (ac 0)<|dC<|.int 1) af)<|ac 1) aB)
   (aq (ac 2)<|cZ (ac 0)<|dC<|.int 2))) aB D0 [ap (.ref k.p),ap (.int many),bb,bb] M:=by
 have h:=k.ne;simp![B,atI_2,Gm]
 by_cases e:hh=0
 .rw[if_pos e]
  refine#[bj (by decide),λp G=>?_]
  simp only[Mem.upd_del,au G,H];cases cells with
  |nil=>
   simp![];exact I
  |cons c cs=>
   have O:∀F,(M.upd k.q F) k.p=ap (.lst [.ref k.q,.int t,.int hh,.int sd]):=λF=>by rw[ae h,B]
   simp![Mem.upd_del,au G,Gm,B,H,O,jI,ix0,Mv,List.eraseIdx_zero,List.tail_cons,atI_1,atI_2,atI_3];refine#[#[by decide,by decide,by decide],?_]
   by_cases f:c<10 ^ V7 18
   .rw[if_pos f]
    refine ao λQ' E' J _=>jv λr=>J _ _ ?_;simp![];exact#[P,R c cs e rfl r]
   .rw[if_neg f]
    exact S c cs e rfl f
 .rw[if_neg e]
  exact I
theorem jY(hp:Has k M)(J:0<many)(S:many<2 ^ 62)(h:∀r M',0<=r->r<many->Dr k M M'->Q (.int r) M'):
  aZ ad [.ref k.p,.int many] M Q E:=by
 obtain⟨B,t,hh,sd,I,W,Z⟩:=hp;have e:=k.ne;have fin:∀(r:Int)(M':Mem)(cells':List _)(R H G:Int),cells'.length<=63->(∀b,b≠k.p->b≠k.q->M' b=M b)->M' k.p=ap (.lst [.ref k.q,.int R,.int H,.int G])->M' k.q=ap (.lst<|cells'.map D.int)->drp Q (.int<|r % many) M':=by
  intro r M' cells' R H G X Y T a4;exact ak (h _ _ (wA J).1 (wA J).2 #[#[_,R,_,_,X,T,a4],Y])
 have g1:∀o,(M.upd _ o) _=ap _:=λo=>by rw[ae (Uk e)];exact Z
 refine cD (Km rfl W ?_);refine cD (KW J Mem.upd_same (g1 _) ?_ (λc O ez P r=>?_) λc O ez P hb=>?_)
 .exact B2 J S Mem.upd_same (λr=>(fin _ _ B _ _ _ I (λb f F=>ae f) Mem.upd_same<|g1 _)) (fin _ _ B _ _ _ I (λb f F=>by rw[ae f,ae f]) Mem.upd_same<|by rw[ae (Uk e),g1])
 .subst P
  exact fin _ _ O _ _ _ (by simp at I;lia) (λb f F=>by rw[ae F,ae f]) (by rw[ae e,Mem.upd_same]) Mem.upd_same
 .subst P
  exact B2 J S Mem.upd_same (λr=>(fin _ _ O _ _ _ (by simp at I;lia) (λb f F=>by rw[ae f,ae F,ae f]) Mem.upd_same<|by rw[ae (Uk e),Mem.upd_same])) (fin _ _ O _ _ _ (by simp at I;lia) (λb f F=>by rw[ae f,ae f,ae F,ae f]) Mem.upd_same<|by rw[ae (Uk e),ae (Uk e),Mem.upd_same])
theorem J7{xs:List D}{k:Nat}:kP xs bb (ap (k:Int))=xs.take k:=by
 unfold kP;rw[HT.Ic,HT.IU]
 simp_all
theorem Fw(h:∀(k:Pt) M',Has k M'->(∀b,b≠k.p->b≠k.q->M' b=M b)->Q (.ref k.p) M'):zG ad [.ml (ns.map D.int)] M Q E:=by
 have B:kP (ns.map D.int) bb (ap 63)=(ns.take 63).map D.int:=by rw[List.map_take];exact J7
 simp![S7,Ar,eE,B];intro a I;refine cS (λxs U M'=>∃(f:List _)(sd:Int)(F:Option D),xs=f.map _/\U=[ap _,ap (.int sd),F]/\M'=M) (λ_ _ _ _=>aO) ?_ ?_ _ _ _ #[_,7,_,rfl,rfl,by rw[Mem.upd_del,au I]]
 .rintro U M' ⟨f,sd,F,_,rfl,rfl⟩
  simp![B];intro b J;rw[Mem.upd_del,au J];intro q R;refine#[by trivial,λp S=>?_]
  have ne:p≠q:=by intro e;simp_all
  refine ak (h #[p,q,ne] _ #[ns.take 63,0,0,sd,by simp;lia,Mem.upd_same,?_] λb O P=>?_)
  .rw[ae (Uk ne),Mem.upd_same]
  rw[ae O,ae P]
 rintro x xs U M' ⟨f,sd,F,G,rfl,rfl⟩ D' H _ _ _
 cases f with
 |nil=>simp at G
 |cons c f=>
  simp at G;obtain⟨rfl,rfl⟩:=G;simp![];exact#[.inr (by decide),by decide,H _ _<|by lia]
noncomputable def alpha:Str:="abcdefghijklmnopqrstuvwxyz"
theorem Ew:∀i<26,alpha.cps.toList[i]?=ap (97+i):=by decide +kernel
theorem Dn:alpha.length<=sizeLine:=TR (show alpha.length<=100 by trivial) (by decide)
theorem vR(F:names.length<=12)(h:∀(j:Nat)(p:j<names.length),names[j].cps[0]?=ap (97+(t+7*j) % 26)):names.Nodup:=by
 refine VH.mpr λi j B p f e=>?_
 grind
def vM(x:Str):Prop:=∃(n c:Nat),1<=n/\n<=8/\97<=c/\c<=122/\x=#[Vu n c]
theorem yC{many:Nat}(hp:Has k M)(h1:many<=12)(h:∀(names:aaX)(M':Mem),names.length=many->names.Nodup->(∀x∈names,vM x)->Dr k M M'->Q (.tup<|names.map D.str) M'):A2 ad [.ref k.p,.int many] M Q E:=by
 simp![T0,A5,eE];refine ao λQ' E' S _=>jY hp (by decide) (by decide) λturn M1 t0 t1 R=>S _ _ ?_
 simp![];refine#[bj (by decide),λl hl=>?_]
 have B:=R.1.nep hl;refine#[by lia,by lia,?_]
 obtain⟨t,rfl⟩:=Yu t0
 refine cS (λxs U M'=>∃(j:Nat)(aaQ:aaX)(X T:Option D),j<=many/\xs=(VR j (many-j)).map (λ(i:Nat)=>D.int (0+(i:Int)))/\U=[ap (.ref k.p),ap (.int (many:Nat)),ap (.int (t:Nat)),ap (.ref l),X,T]/\aaQ.length=j/\(∀(i:Nat)(O:i<aaQ.length),aaQ[i].cps[0]?=ap (97+(t+7*i) % 26))/\(∀x∈aaQ,vM x)/\
  Has k M'/\M' l=ap (.lst<|aaQ.map D.str)/\∀b,b≠k.p->b≠k.q->b≠l->M' b=M1 b) (λ_ _ _ _=>aO) ?_ ?_ _ _ _ #[0,[],bb,bb,U2 _,?_,rfl,rfl,?_,by simp,R.1.upd B,Mem.upd_same,λb _ _ hb=>ae hb]
 .rintro U M' ⟨j,aaQ,X,T,hj,e,rfl,J,hf,f,hh,P,Y⟩
  have:j=many:=by
   have:=congrArg Vr e;simp at this;lia
  subst this;simp![P];refine#[M'.del l,λb o e=>?_,h aaQ _ J (vR (by lia) hf) f #[hh.del B,λb G H=>?_]]
  .unfold Mem.del at e;split at e
   .cases e
   .exact e
  .unfold Mem.del
   split
   .rename_i e;subst e;rw[<- R.2 b G H];exact hl.symm
   .rename_i e;rw[Y b G H e,R.2 b G H]
 .rintro x xs U M' ⟨j,aaQ,X,T,hj,e,rfl,J,hf,f,hh,P,Y⟩ D' Z _ _ _
  have hjl:j<many:=by
   have:=congrArg Vr e;simp at this;lia
  obtain⟨n,hn⟩:∃n,many-j=n+1:=#[many-j-1,by lia]
  rw[hn,List.range'_succ,TB,UY]at e;obtain⟨rfl,rfl⟩:=e;have F:fE alpha.cps.toList (((t:Nat)+7*(0+(j:Int))) % 26)=ap (97+(t+7*j) % 26):=by
   have:(((t:Nat):Int)+7*(0+(j:Int))) % 26=(((t+7*j) % 26:Nat):Int):=by lia
   rw[this,bw (by lia),Ua,Ew _ (by lia)]
  simp only[alpha]at F;simp![F,P];refine#[.inl (by decide),by decide,Dn,?_]
  refine ao λQ' E' S _=>jY hh (by decide) (by decide) λr M2 r0 r1 d2=>S _ _ ?_
  have W:M2 l=ap (.lst<|aaQ.map D.str):=by rw[d2.2 l B.1 B.2];exact P
  simp![W];refine#[by lia,by lia,by simp;exact g7 (by lia),Z _ _ #[j+1,aaQ++[#[Vu (1+r).toNat (97+(t+7*j) % 26)]],_,_,by lia,?_,rfl,by simp[J],?_,?_,d2.1.upd B,?_,?_]]
  .rw[show many-(j+1)=n by lia]
  .intro i O
   by_cases I:i<aaQ.length
   .rw[List.getElem_append_left I];exact hf i I
   .have:i=aaQ.length:=by simp at O;lia
    subst this;rw[List.getElem_append_right (TL _)]
    simp_arith! only[Nat.sub_self,List.getElem_cons_zero]
    rw[Array.getElem?_replicate,if_pos (by lia),J]
  .intro x hx
   rcases Uo.mp hx with hx|hx
   .exact f x hx
   .simp at hx;subst hx
    exact#[(1+r).toNat,97+(t+7*j) % 26,by lia,by lia,by lia,by lia,rfl]
  .rw[Mem.upd_same];simp
  .intro b G H b3
   rw[ae b3,d2.2 b G H,Y b G H b3]
 .simp[cY,VC]
 .intro i O;simp at O
@[simp] theorem atI_5{xs:List α}:fE xs 5=xs[5]?:=bw (by decide)
@[simp] theorem atI_6{xs:List α}:fE xs 6=xs[6]?:=bw (by decide)
@[simp] theorem atI_7{xs:List α}:fE xs 7=xs[7]?:=bw (by decide)
@[simp] theorem atI_8{xs:List α}:fE xs 8=xs[8]?:=bw (by decide)
theorem l_{r:Int}(f:0<=r)(h:r<names.length):∃y,y∈names/\fE (names.map D.str) r=ap (.str y):=by
 have e:r.toNat<names.length:=by lia
 refine#[names[r.toNat],V3 e,?_];rw[bw f,TJ,Tx e];rfl
structure ToldOk(names:aaX)(m many:Int):Prop where
 m2:2<=m
 m1:m<=997
 n0:0<names.length
 n1:names.length<=12
 k0:0<=many
 k1:many<=40
noncomputable def kF(names:aaX)(m many:Int):D:=.tup [.int m,.tup (names.map D.str),.int many]
theorem aP{b:BxQ EE Q}(F:Has k M)(f:0<many)(B:many<2 ^ 62)(h:∀r M',0<=r->r<many->Dr k M M'->Q (.int r) M'):calls (aZ ad) EE [.ref k.p,.int many] M Q b:=
 ao λQ' E' e _=>jY F f B λr M' G H d=>e _ _ (by simp_all)
theorem Pi(h:te U M λd M1=>D0.nx (U.set i<|some d) M1):aq te (ag i) D0 U M:=h
theorem Fd(h:U[i]?=ap (ap d))(e:K d M):ac i U M K:=by simp_arith! only[ac,h];exact e
theorem xR{c:Str}(f:U[i]?=ap (ap<|.str w))(h:w=c->A D0 U M)(p:w≠c->B D0 U M):aG (al<|ai cc (ac i)<|dC<|.str c) A B D0 U M:=by
 have e:aG (al<|ai cc (ac i)<|dC<|.str c) A B D0 U M=(if w=c then A D0 U M else B D0 U M):=by
  simp[aG,al,ai,ac,dC,cc,bX,dv,aR,f,Hw,pP]
 rw[e]
 by_cases q:w=c
 .rw[if_pos q];exact h q
 .rw[if_neg q];exact p q
theorem P5(e:U[0]?=ap (ap<|.ref k.p))(B:∀K:DK,K (.int v) M->te U M K)(f:Has k M)(v0:0<v)(v1:v<2 ^ 62)(h:∀r M',0<=r->r<v->Dr k M M'->K (.int r) M'):
  aj (aZ ad) EE 2 (aa (ac 0)<|aa te af) U M K:=by
 simp_arith! only[aj,aa,ac,af,e]
 refine B _ ?_;exact#[rfl,aP f v0 v1 h]
theorem Kg(h:te U M λd M'=>frz d M' K):am te U M K:=h
theorem ME(e:U[0]?=ap (ap<|.ref k.p))(B:∀K:DK,K (.int v) M->te U M K)(f:Has k M)(v0:0<v)(v1:v<2 ^ 62)(h:∀r M',0<=r->r<v->Dr k M M'->K (.int r) M'):
  am (aj (aZ ad) EE 2<|aa (ac 0)<|aa te af) U M K:=
 Kg (P5 e B f v0 v1 λr M' a b d=>by simp_arith! only[frz];exact h r M' a b d)
theorem OO(H:U[0]?=ap (ap<|.ref k.p))(e:U[i]?=ap (ap<|.tup<|names.map D.str))(I:Has k M)(J:0<names.length)(n1:names.length<=12)(h:∀x M',x∈names->Dr k M M'->K (.str x) M'):
  ai av (ac i) (am<|aj (aZ ad) EE 2<|aa (ac 0)<|aa (bc cq<|aa (ac i) af) af) U M K:=by
 have G:∀K:DK,K (.int names.length) M->bc cq (aa (ac i) af) U M K:=λK f=>by
  simp![e,Tz];exact f
 simp only[ai];refine Fd e (ME H G I (by lia) (by lia) λr M' a b d=>?_)
 obtain⟨x,F,B⟩:=l_ a b;simp![B];exact h x M' F d
theorem NG{a b:D}(e:U[i]?=ap (ap a))(f:U[j]?=ap (ap b))(h:te U M λd M'=>3<=sizeLine/\D0.rt (.tup [a,b,d]) M'):aA (aS<|aa (ac i)<|aa (ac j)<|aa te af) D0 U M:=by
 simp_arith! only[aA,aS,aa,af,ac,e,f]
 exact h
theorem ret4{a b c:D}{l:Nat}(p:U[i]?=ap (ap a))(f:U[j]?=ap (ap b))(e:U[l]?=ap (ap c))(h:te U M λd M'=>4<=sizeLine/\D0.rt (.tup [a,b,c,d]) M'):aA (aS<|aa (ac i)<|aa (ac j)<|aa (ac l)<|aa te af) D0 U M:=by
 simp_arith! only[aA,aS,aa,af,ac,p,f,e]
 exact h
theorem IP{a:Option D}{s:Dl}(h:D0.nx (a::ap (kF names m many)::ap (.int m)::ap (.tup<|names.map D.str)::ap (.int many)::s) M){b c:Option D}:
  aq (ac 1) (dq 3<|aM (ag 2)<|aM (ag 3)<|aM (ag 4) dg) D0 (a::ap (kF names m many)::b::c::d::s) M:=by
 trivial
noncomputable def waysL:List Str:=["put","sum","by","less","same","sum","put","take","pick"]
def M_(many:Int)(w:Str):Prop:=w="put"\/(w="sum"\/w="by"\/w="less"\/w="same")\/(0<many/\(w="take"\/w="pick"))
theorem Jf(h:D0.nx (U.set 5<|some<|.lst<|waysL.map D.str) M):
  aq (am<|bQ<|aa (dC<|.str "put")<|aa (dC<|.str "sum")<|aa (dC<|.str "by")<|aa (dC<|.str "less")<|aa (dC<|.str "same")<|aa (dC<|.str "sum")<|aa (dC<|.str "put")<|aa (dC<|.str "take")<|aa (dC<|.str "pick") af) (ag 5) D0 U M:=by
 simp![];refine#[by trivial,λp e=>?_]
 rw[Mem.upd_del,au e];exact h
theorem Q8(r:Nat)(h:r<if 0<many then 9 else 7):∃w,fE (waysL.map D.str) (r:Int)=ap (.str w)/\M_ many w:=by
 rw[bw (by lia),Ua]
 have B:r<9:=by split at h<;>lia
 have p:¬0<many->r<7:=λc=>by rwa [if_neg c]at h
 have e:r=0\/r=1\/r=2\/r=3\/r=4\/r=5\/r=6\/r=7\/r=8:=by lia
 have f:7<=r->0<many:=λc=>Vz λz=>by have:=p z;lia
 rcases e with rfl|rfl|rfl|rfl|rfl|rfl|rfl|rfl|rfl
 .exact#[_,rfl,.inl rfl]
 .exact#[_,rfl,.inr<|.inl<|.inl rfl]
 .exact#[_,rfl,.inr<|.inl<|.inr<|.inl rfl]
 .exact#[_,rfl,.inr<|.inl<|.inr<|.inr<|.inl rfl]
 .exact#[_,rfl,.inr<|.inl<|.inr<|.inr<|.inr rfl]
 .exact#[_,rfl,.inr<|.inl<|.inl rfl]
 .exact#[_,rfl,.inl rfl]
 .exact#[_,rfl,.inr<|.inr #[f (by decide),.inl rfl]]
 .exact#[_,rfl,.inr<|.inr #[f (by decide),.inr rfl]]
theorem wayE(F:U[0]?=ap (ap<|.ref k.p))(B:U[4]?=ap (ap<|.int many))(H:U[5]?=ap (ap<|.lst<|waysL.map D.str))(G:Has k M)(h:∀w M',M_ many w->Dr k M M'->K (.str w) M'):
  ai av (ac 5) (am<|aj (aZ ad) EE 2<|aa (ac 0)<|aa (nv (al<|ai Ir (ac 4)<|dC<|.int 0) (dC<|.int 9)<|dC<|.int 7) af) U M K:=by
 have f:∀K:DK,K (.int (if 0<many then 9 else 7)) M->nv (al<|ai Ir (ac 4)<|dC<|.int 0) (dC<|.int 9) (dC<|.int 7) U M K:=λK I=>by
  simp![B];lia
 refine Fd H (ME F f G (by lia) (by split<;>decide) λr M' a b d=>?_)
 obtain⟨r,rfl⟩:=Yu a;obtain⟨w,e,J⟩:=Q8 (many:=many) r (by split at b<;>(split<;>lia))
 simp![e]
 simp_all
theorem GS(T:Has k M)(W:ToldOk names m many)(h:∀(r:Rw) M',cK names m many r->Dr k M M'->Q r.d M'):uV ad [.ref k.p,kF names m many] M Q E:=by
 obtain⟨X,m1,G,n1,Z,Y⟩:=W;rw[Rn];unfold y_;refine cD (IP ?_);dsimp only;refine cD (Jf ?_);dsimp only;refine cD (Pi (wayE rfl rfl rfl T λw M1 F d1=>?_));dsimp only;refine cD (Pi (OO rfl rfl d1.1 G n1 λx M2 f d2=>?_));dsimp only;refine cD (xR rfl (λe=>?_) λB=>?_)
 .subst e
  refine NG rfl rfl (P5 rfl (λK q=>Fd rfl q) d2.1 (by lia) (by lia) λr M3 a b d3=>?_)
  exact#[bj (by decide),ak<|h (.put x r) M3 #[f,a,b]<|d1.trans<|d2.trans d3]
 dsimp only[aB];refine cD (xR rfl (λe=>?_) λP=>?_)
 .subst e
  have I:0<many:=by
   rcases F with e|(e|e|e|e)|e
   .exact(B e).elim
   .exact absurd e (by decide +kernel)
   .exact absurd e (by decide +kernel)
   .exact absurd e (by decide +kernel)
   .exact absurd e (by decide +kernel)
   .exact e.1
  refine NG rfl rfl (P5 rfl (λK q=>Fd rfl q) d2.1 (by lia) (by lia) λr M3 a b d3=>?_)
  exact#[bj (by decide),ak<|h (.take x r) M3 #[f,a,b]<|d1.trans<|d2.trans d3]
 dsimp only[aB];refine cD (Pi (OO rfl rfl d2.1 G n1 λy M3 H d3=>?_));dsimp only;refine cD (xR rfl (λe=>?_) λS=>?_)
 .subst e
  have I:0<many:=by
   rcases F with e|(e|e|e|e)|e
   .exact(B e).elim
   .exact absurd e (by decide +kernel)
   .exact absurd e (by decide +kernel)
   .exact absurd e (by decide +kernel)
   .exact absurd e (by decide +kernel)
   .exact e.1
  exact NG rfl rfl (Fd rfl #[bj (by decide),ak<|h (.pick x y) M3 #[f,H,I]<|d1.trans<|d2.trans d3])
 dsimp only[aB];have R:w="sum"\/w="by"\/w="less"\/w="same":=by
  rcases F with e|e|⟨_,e|e⟩
  .exact(B e).elim
  .exact e
  .exact(P e).elim
  .exact(S e).elim
 refine ret4 rfl rfl rfl (OO rfl rfl d3.1 G n1 λz M4 J O=>?_);exact#[bj (by decide),ak<|h (.two w x y z) M4 #[R,f,H,J]<|d1.trans<|d2.trans<|d3.trans O]
mutual
def LnR:Rw->Prop
 |.ifr _ a b=>(a.length<=200/\gP a)/\b.length<=200/\gP b
 |.again _ a=>a.length<=200/\gP a
 |_=>True
def gP:List Rw->Prop
 |[]=>True
 |r::rs=>LnR r/\gP rs
end
theorem LnRs_append:∀{a b:List Rw},gP (a++b)↔gP a/\gP b
 |[],b=>by simp[gP]
 |r::a,b=>by simp[gP,LnRs_append,and_assoc]
mutual
noncomputable def cR:Rw->Nat
 |.ifr _ a b=>1+cRs a+cRs b
 |.again _ a=>1+cRs a
 |.put _ _=>1
 |.take _ _=>1
 |.pick _ _=>1
 |.two _ _ _ _=>1
noncomputable def cRs:List Rw->Nat
 |[]=>0
 |r::rs=>cR r+cRs rs
end
theorem dO:∀{a b:List Rw},cRs (a++b)=cRs a+cRs b
 |[],b=>by simp[cRs]
 |r::a,b=>by simp[cRs,dO];lia
theorem T9(h:cK names m many r):cR r=1:=by
 cases r<;>trivial
def Rv(rm:cb)(M:Mem)(v:Int):Prop:=M rm=ap (.lst [.int v])/\0<=v
def Kp(k:Pt)(rm:cb)(M M':Mem):Prop:=Has k M'/\(∃v:Int,M' rm=ap (.lst [.int v]))/\∀b o,b≠k.p->b≠k.q->b≠rm->M b=ap o->M' b=ap o
theorem Kp.trans{M1 M2:Mem}(a:Kp k rm M M1)(b:Kp k rm M1 M2):Kp k rm M M2:=#[b.1,b.2.1,λx o e p f h=>b.2.2 x o e p f (a.2.2 x o e p f h)]
structure Rm(k:Pt)(rm:cb)(M:Mem):Prop where
 h:Has k M
 n1:rm≠k.p
 n2:rm≠k.q
 v:∃v:Int,M rm=ap (.lst [.int v])
theorem Rm.kp(r:Rm k rm M):Kp k rm M M:=#[r.h,r.v,by lia]
theorem Rm.go(r:Rm k rm M)(d:Kp k rm M M'):Rm k rm M':=#[d.1,r.n1,r.n2,d.2.1]
theorem Rm.dr(r:Rm k rm M)(d:Dr k M M'):Kp k rm M M':=#[d.1,by obtain⟨v,e⟩:=r.v;exact#[v,by rw[d.2 rm r.n1 r.n2];exact e],λb o f h _ e=>by rw[d.2 b f h];exact e]
theorem Rm.new(r:Rm k rm M)(f:M l=bb)(o:MO):Kp k rm M (M.upd l o):=by
 obtain⟨v,e⟩:=r.v;have b:=Mem.ne e f;exact#[r.h.upd (r.h.nep f),#[v,by rw[ae b];exact e],λc o _ _ _ e=>by rw[ae (Mem.ne e f)];exact e]
theorem Rm.set(r:Rm k rm M)(v:Int):Kp k rm M (M.upd rm<|.lst [.int v]):=
 #[r.h.upd #[r.n1,r.n2],#[v,Mem.upd_same],λc o _ _ h e=>by rw[ae h];exact e]
def PRo(ad:Ad)(k:Pt)(rm:cb)(names:aaX)(m many:Int)(n:Nat):Prop:=∀(deep:Nat)(most:Int)(M:Mem)(Q:DK)(E:DX),deep<=4->2*(4-deep)+1<=n->0<most->most<=30->Rm k rm M->∀v:Int,Rv rm M v->
 (∀(rs:List Rw)(M':Mem),(∃v',Rv rm M' v'/\(cRs rs:Int)+v'<=v)->bf names m many rs/\gP rs->dD rs+deep<=4->rs.length<=100->Kp k rm M M'->Q (.tup<|aE rs) M')->Y0 ad n [.ref k.p,kF names m many,.ref rm,.int deep,.int most] M Q E
def PBl(ad:Ad)(k:Pt)(rm:cb)(names:aaX)(m many:Int)(n:Nat):Prop:=∀(deep:Nat)(M:Mem)(Q:DK)(E:DX),deep<4->2*(4-deep)<=n->Rm k rm M->∀v:Int,Rv rm M v->
 (∀(rs:List Rw)(l:cb)(M':Mem),(∃v',Rv rm M' v'/\(cRs rs:Int)+v'<=v+4)->bf names m many rs/\gP rs->dD rs+deep<=4->rs.length<=3->Kp k rm M M'->M' l=bb->Q (.ref l) (M'.upd l<|.lst<|aE rs))->Y1 ad n [.ref k.p,kF names m many,.ref rm,.int deep] M Q E
theorem OkRs_append:∀{a b:List Rw},bf names m many (a++b)↔bf names m many a/\bf names m many b
 |[],b=>by simp[bf]
 |r::a,b=>by simp[bf,OkRs_append,and_assoc]
theorem dR:∀{a b:List Rw},dD (a++b)=max (dD a) (dD b)
 |[],b=>by simp[dD]
 |r::a,b=>by simp[dD,dR]
theorem bU:∀{a b:List Rw},aE (a++b)=aE a++aE b
 |[],b=>rfl
 |r::a,b=>by simp[aE,bU]
theorem b_:∀{a:List Rw},(aE a).length=a.length
 |[]=>rfl
 |r::a=>by simp[aE,b_]
theorem O3(h:cK names m many r):eK names m many r:=by
 cases r<;>trivial
theorem RX(h:cK names m many r):hR r=0:=by
 cases r<;>trivial
theorem Ot(h:cK names m many r):LnR r:=by
 cases r with
 |ifr=>exact h.elim
 |again=>exact h.elim
 |_=>trivial
theorem xr(ht:ToldOk names m many)(ih:PRo ad k rm names m many n):PBl ad k rm names m many (n+1):=by
 intro e M Q E hd hn r v X h;obtain⟨m2,m1,n0,n1,k0,k1⟩:=ht;have dd:e+1=(e+1:Nat):=by lia
 simp![RU,Ba,kF,Tz];refine aP r.h (by lia) (by lia) λr1 M1 a1 b1 O=>?_
 have R1:=r.go (r.dr O);have W:Rv rm M1 v:=#[by rw[O.2 rm r.n1 r.n2];exact X.1,X.2]
 obtain⟨x,B,ex⟩:=l_ a1 b1;simp![ex];refine ao λQ' E' S _=>ih (e+1) 5 M1 Q' E' (by lia) (by lia) (by decide) (by decide) R1 v W λfirst M2 c2 p h2 l2 d2=>S _ _ ?_
 obtain⟨v2,H,c2⟩:=c2;have R2:=R1.go d2;simp![];refine aP R2.h (by decide) (by decide) λw M3 a3 b3 F=>?_
 have R3:=R2.go (R2.dr F);have f:Rv rm M3 v2:=#[by rw[F.2 rm r.n1 r.n2];exact H.1,H.2]
 simp![dd]
 by_cases hw:w<2
 .rw[if_pos hw]
  refine ao λQ' E' S _=>ih (e+1) 5 M3 Q' E' (by lia) (by lia) (by decide) (by decide) R3 v2 f λP M4 Z o4 h4 l4 J=>S _ _ ?_
  obtain⟨v4,R,Z⟩:=Z;simp![];refine#[bj (by decide),bj (by decide),λl G=>ak (h [.ifr x _ _] l M4 #[v4,R,by simp[cRs,cR];lia] ?_ ?_ (by simp) ((r.dr O).trans<|d2.trans<|(R2.dr F).trans J) G)]
  .exact#[#[#[B,p.1,o4.1],trivial],#[#[by lia,p.2],by lia,o4.2],trivial]
  simp only[dD,hR];lia
 rw[if_neg hw]
 by_cases I:w=2
 .rw[if_pos I]
  refine#[bj (by decide),bj (by decide),λl G=>ak (h [.again x first] l M3 #[v2,f,by simp only[cRs,cR];lia] ?_ ?_ (by simp) ((r.dr O).trans<|d2.trans<|R2.dr F) G)]
  .simp only[bf,eK,gP,LnR];exact#[#[#[B,p.1],trivial],#[by lia,p.2],trivial]
  .simp only[dD,hR];lia
 .rw[if_neg I]
  simp only[Tz];refine aP R3.h (by lia) (by lia) λr4 M4 a4 b4 J=>?_
  have R4:=R3.go (R3.dr J);obtain⟨y,hy,ey⟩:=l_ a4 b4;simp![ey];refine aP R4.h (by split<;>lia) (by split<;>lia) λY M5 a5 b5 d5=>?_
  have T:Y<m:=by split at b5<;>lia
  simp![];refine#[bj (by decide),bj (by decide),bj (by decide),bj (by decide),bj (by rw[b_];lia),bj (by decide),bj (by decide),λl G=>ak ?_]
  have:=h [.put x Y,.put y (m-1),.again x (first++[.two "sum" x x y])] l M5 #[v2,#[by rw[d5.2 rm r.n1 r.n2,J.2 rm r.n1 r.n2];exact f.1,f.2],by simp only[cRs,cR,dO];lia] ?_ ?_ (by simp) ((r.dr O).trans<|d2.trans<|(R2.dr F).trans<|(R3.dr J).trans<|R4.dr d5) G
  .simp only[aE,Rw.d,bU]at this
   exact this
  .simp only[bf,eK,cK,OkRs_append,gP,LnR,LnRs_append]
   exact#[#[#[B,a5,T],#[hy,by lia,by lia],#[B,p.1,#[.inl trivial,B,B,hy],trivial],trivial],trivial,trivial,#[by simp;lia,p.2,trivial,trivial],trivial]
  .simp only[dD,hR,dR];lia
theorem SM:frz r.d M Q=Q r.d M:=by cases r<;>rfl
theorem Be{c:Int}(f:U[2]?=ap (ap<|.ref rm))(e:M rm=ap (.lst [.int v]))(h:D0.nx U (M.upd rm<|.lst [.int (v-c)])):
  aq (ai kM (ai av (ac 2)<|dC<|.int 0)<|dC<|.int c) (cZ (ac 2)<|dC<|.int 0) D0 U M:=by
 simp![f,e,Gm];exact h
theorem O6(I:U[0]?=ap (ap<|.ref k.p))(O:U[2]?=ap (ap<|.ref rm))(J:U[3]?=ap (ap<|.int deep))(F:Has k M)(P:M rm=ap (.lst [.int v]))(R:∀M',4<v->deep<4->Dr k M M'->A D0 U M')(h:∀M',Dr k M M'->B D0 U M'):
  aG (pj (al<|ai Ir (ai av (ac 2)<|dC<|.int 0)<|dC<|.int 4)<|pj (al<|ai Ed (ac 3)<|dC<|.int 4)<|al<|ai cc (am<|aj (aZ ad) EE 2<|aa (ac 0)<|aa (dC<|.int 4) af)<|dC<|.int 0) A B D0 U M:=by
 simp![I,O,J,P,Gm]
 by_cases f:4<v
 .rw[if_pos f]
  by_cases e:deep<4
  .rw[if_pos e]
   refine aP F (by decide) (by decide) λw M2 S T G=>?_
   simp![]
   by_cases H:w=0
   .rw[if_pos H];exact R _ f e G
   rw[if_neg H];exact h _ G
  rw[if_neg e];exact h _ F.refl
 rw[if_neg f];exact h _ F.refl
theorem JX(f:U[2]?=ap (ap<|.ref rm))(e:M rm=ap (.lst [.int v]))(p:0<v->A D0 U M)(h:D0.nx U M):
  aG (al<|ai Ir (ai av (ac 2)<|dC<|.int 0)<|dC<|.int 0) A aB D0 U M:=by
 simp![f,e,Gm]
 simp_all
theorem Jv(O:U[0]?=ap (ap<|.ref k.p))(J:U[1]?=ap (ap<|kF names m many))(R:U[5]?=ap (ap<|.ref l))(P:Has k M)(I:ToldOk names m many)(n1:l≠k.p)(n2:l≠k.q)(F:M l=ap (.lst<|aE aaQ))(S:aaQ.length<=1000)(h:∀(r:Rw) M',cK names m many r->Dr k M M'->D0.nx U (M'.upd l<|.lst (aE aaQ++[r.d]))):
  bh (kH "list" bC (ac 5)<|aa (am<|aj (uV ad) EE 2<|aa (ac 0)<|aa (ac 1) af) af) D0 U M:=by
 simp![O,J,R,F];refine ao λQ' E' G _=>GS P I λH M3 f B=>G _ _ ?_;have e:M3 l=ap (.lst<|aE aaQ):=by rw[B.2 l n1 n2];exact F
 have sz:(aE aaQ).length+1<=sizeLine:=by rw[b_];exact g7 (by lia)
 rw[SM];simp![e];exact#[sz,(h _ M3 f B)]
theorem KA(X:PBl ad k rm names m many n)(S:U[0]?=ap (ap<|.ref k.p))(P:U[1]?=ap (ap<|kF names m many))(Y:U[2]?=ap (ap<|.ref rm))(Z:U[3]?=ap (ap<|.int deep))(h5:U[5]?=ap (ap<|.ref l))(hd:deep<4)(T:2*(4-deep)<=n)(R:Rm k rm M)(n1:l≠k.p)(n2:l≠k.q)(W:l≠rm)(hl:M l=ap (.lst<|aE aaQ))(ha:aaQ.length<=1000)(O:Rv rm M v)(h:∀(rs:List Rw)(e:cb)(M':Mem),(∃H,Rv rm M' H/\(cRs rs:Int)+H<=v+4)->bf names m many rs/\gP rs->dD rs+deep<=4->rs.length<=3->Kp k rm M M'->M' e=bb->D0.nx (U.set 5<|some<|.ref e) (M'.upd e<|.lst (aE aaQ++aE rs))):
  aq (ai b6 (ac 5)<|am<|aj (Y1 ad n) EE 4<|aa (ac 0)<|aa (ac 1)<|aa (ac 2)<|aa (ac 3) af) (ag 5) D0 U M:=by
 simp![S,P,Y,Z,h5];refine ao λQ' E' J _=>X _ M Q' E' hd T R v O λbl l2 M3 I F hh len3 G B=>J _ _ ?_;simp![Mem.upd_del,au B,(G.2.2 l _ n1 n2 W hl)];exact#[by rw[b_,b_];exact bj (by lia),λe f=>h bl e M3 I F hh len3 G f]
structure RInv(k:Pt)(rm:cb)(names:aaX)(m many:Int)(M:Mem)(v:Int)(deep:Nat)(n j:Nat)(aaQ:List Rw)(l:cb)(M':Mem):Prop where
 cv:∃v',Rv rm M' v'/\(cRs aaQ:Int)+v'<=v
 hj:n+j<=30
 ha:aaQ.length<=3*j
 ok:bf names m many aaQ
 ln:gP aaQ
 hh:dD aaQ+deep<=4
 kp:Kp k rm M M'
 hm:M' l=ap (.lst<|aE aaQ)
 n1:l≠k.p
 n2:l≠k.q
 n3:l≠rm
 h0:M l=bb
theorem RInv.len(I:RInv k rm names m many M v deep n j aaQ l M'):aaQ.length<=100:=by
 have:=I.hj;have:=I.ha;lia
theorem mz(ht:ToldOk names m many)(ih:PBl ad k rm names m many n):PRo ad k rm names m many (n+1):=by
 intro deep most M Q E hd hn h0 h1 r v0 S h;simp![RI,zc,eE];refine#[bj (by decide),λl O=>?_]
 have R1:=r.go (r.new O<|.lst []);refine aP R1.h h0 (by lia) λcnt M1 a1 b1 d1=>?_
 have G:=r.h.nep O;refine#[by lia,by lia,?_]
 refine cS (λxs U M'=>∃(j:Nat)(aaQ:List Rw)(l:cb)(c6:Option D),RInv k rm names m many M v0 deep xs.length j aaQ l M'/\U=[ap (.ref k.p),ap _,ap (.ref rm),ap (.int deep),ap (.int most),ap (.ref l),c6]) (λ_ _ _ _=>aO) ?_ ?_ _ _ _ #[0,[],l,bb,#[#[v0,#[?_,S.2],by simp[cRs]],?_,by simp,by trivial,by trivial,by simp only[dD];lia,(r.new O _).trans (R1.dr d1),?_,G.1,G.2,?_,O],rfl]
 .rintro U M' ⟨j,aaQ,l,c6,I,rfl⟩
  simp![I.hm];exact ak (h aaQ M' I.cv #[I.ok,I.ln] I.hh I.len I.kp)
 .rintro x xs U M' ⟨j,aaQ,l,c6,I,rfl⟩ D' T _ _ _
  have R:=r.go I.kp;have hj:=I.hj;have ha:=I.ha;simp at hj;obtain⟨v,⟨Y,hv0⟩,hcv⟩:=I.cv;refine O6 rfl rfl rfl R.h Y (λM2 h4 h5 F=>?_) λM2 F=>?_
  .have W:=I.kp.trans (R.dr F)
   have R2:=r.go W;refine cD (Be rfl (by rw[F.2 rm r.n1 r.n2];exact Y) ?_)
   have X:=R2.set (v-4);dsimp only;refine KA (deep:=deep) (aaQ:=aaQ) ih rfl rfl rfl rfl rfl (by lia) (by lia) (R2.go X) I.n1 I.n2 I.n3 (by rw[ae I.n3,F.2 l I.n1 I.n2];exact I.hm) (by lia) (v:=v-4) #[Mem.upd_same,by lia] λbl Z M3 c3 B hh3 len3 k3 J=>?_
   have f:=(W.trans X).trans k3;have R3:=r.go f;have H:=R3.h.nep J;have P:Z≠rm:=by
    obtain⟨u,eu⟩:=R3.v;exact λe=>by simp_all
   have hM3:M Z=none:=by
    cases e:M Z with
    |none=>rfl
    |some o=>rw[f.2.2 Z o H.1 H.2 P e]at J;cases J
   obtain⟨v3,rv3,c3⟩:=c3;exact T _ _ #[j+1,aaQ++bl,Z,_,#[#[v3,#[by rw[ae (Uk P)];exact rv3.1,rv3.2],by rw[dO];lia],by lia,by rw[Ui];lia,OkRs_append.mpr #[I.ok,B.1],LnRs_append.mpr #[I.ln,B.2],by rw[dR];exact TR (Yy (Nat.add_max_add_right ..).symm) (Nat.max_le.mpr #[I.hh,hh3]),f.trans (R3.new J _),by rw[Mem.upd_same,bU],H.1,H.2,P,hM3],rfl]
  have W:=I.kp.trans (R.dr F);have R2:=r.go W;have hm2:M2 l=ap (.lst<|aE aaQ):=by rw[F.2 l I.n1 I.n2];exact I.hm
  refine JX rfl (by rw[F.2 rm r.n1 r.n2];exact Y) (λhz=>?_) ?_
  .refine cD (Be rfl (by rw[F.2 rm r.n1 r.n2];exact Y) ?_)
   have X:=R2.set (v-1);dsimp only;refine Jv (aaQ:=aaQ) rfl rfl rfl X.1 ht I.n1 I.n2 (by rw[ae I.n3];exact hm2) (by lia) λrw1 M3 B d3=>?_
   have f:=(W.trans X).trans ((R2.go X).dr d3);refine T _ _ #[j+1,aaQ++[rw1],l,_,#[#[v-1,#[by rw[ae (Uk I.n3),d3.2 rm r.n1 r.n2,Mem.upd_same],by lia],by rw[dO];simp only[cRs,T9 B];lia],by lia,by rw[Ui,Vh];lia,OkRs_append.mpr #[I.ok,by simp only[bf];exact#[O3 B,trivial]],LnRs_append.mpr #[I.ln,by simp only[gP];exact#[Ot B,trivial]],by rw[dR];simp only[dD,RX B,Nat.max_zero,Nat.max_self];exact I.hh,?_,by rw[Mem.upd_same,bU];rfl,I.n1,I.n2,I.n3,I.h0],rfl]
   refine#[f.1.upd #[I.n1,I.n2],?_,λb o h1 h2 h3 e=>?_]
   .obtain⟨u,eu⟩:=f.2.1
    exact#[u,by rw[ae (Uk I.n3)];exact eu]
   .rw[ae (Mem.ne e I.h0)];exact f.2.2 b o h1 h2 h3 e
  .exact T _ _ #[j,aaQ,l,_,#[#[v,#[by rw[F.2 rm r.n1 r.n2];exact Y,hv0],hcv],by lia,ha,I.ok,I.ln,I.hh,W,hm2,I.n1,I.n2,I.n3,I.h0],rfl]
 .rw[d1.2 rm r.n1 r.n2,ae (λz=>by rw[<- z,S.1]at O;cases O)];exact S.1
 .simp[cY];lia
 .rw[d1.2 l G.1 G.2,Mem.upd_same];rfl
 obtain⟨v,e⟩:=r.v;exact λe'=>by rw[e',e]at O;cases O
theorem jZ(f:ToldOk names m many):∀n:Nat,PRo ad k rm names m many n/\PBl ad k rm names m many n
 |0=>#[λe p M Q E _ h=>by lia,λe M Q E _ h=>by lia]
 |n+1=>#[mz f (jZ f n).2,xr f (jZ f n).1]
def Kq(k:Pt)(M M':Mem):Prop:=Has k M'/\∀b o,b≠k.p->b≠k.q->M b=ap o->M' b=ap o
theorem Kq.trans{M1 M2:Mem}(a:Kq k M M1)(b:Kq k M1 M2):Kq k M M2:=#[b.1,λx o e f h=>b.2 x o e f (a.2 x o e f h)]
theorem Dr.kq(d:Dr k M M'):Kq k M M':=#[d.1,λb o f h e=>by rw[d.2 b f h];exact e]
structure PlG(m many:Int)(names:aaX)(rows:List Rw)(mk:Str):Prop where
 t:ToldOk names m many
 nd:names.Nodup
 ok:bf names m many rows
 h:dD rows<=4
 cn:cRs rows<=60
 l:rows.length<=100
 ln:gP rows
 mkm:mk∈names
 one:∀x∈names,vM x
def jL(m many:Int)(names:aaX)(rows:List Rw)(mk:Str):D:=.tup [.int m,.tup (names.map D.str),.int many,.tup (aE rows),.str mk]
theorem DR(v0:0<=v)(v60:v<=60)(hp:Has k M)(h:∀(m many:Int)(names:aaX)(rows:List Rw)(mk:Str)(M':Mem),PlG m many names rows mk->(cRs rows:Int)<=v->Kq k M M'->Q (jL m many names rows mk) M'):zM ad [.ref k.p,.int v] M Q E:=by
 simp![Sg,Ai];refine aP hp (by decide) (by decide) λx1 M1 a1 b1 d1=>?_
 simp![];refine aP d1.1 (by decide) (by decide) λx2 M2 a2 b2 d2=>?_
 simp![];refine#[bj (by decide),λp f=>?_]
 rw[Mem.upd_del,au f];refine aP d2.1 (by decide) (by decide) λP M3 a3 b3 d3=>?_
 obtain⟨m,em,m2,m1⟩:∃m:Int,fE [D.int 2,.int 3,.int (2+x1),.int (2+x2)] P=ap (.int m)/\2<=m/\m<=997:=by
  have:P=0\/P=1\/P=2\/P=3:=by lia
  rcases this with rfl|rfl|rfl|rfl
  .exact#[2,by simp,by lia,by lia]
  .exact#[3,by simp,by lia,by lia]
  .exact#[2+x1,by simp,by lia,by lia]
  .exact#[2+x2,by simp,by lia,by lia]
 simp![em];refine#[bj (by decide),λp f=>?_]
 rw[Mem.upd_del,au f];refine aP d3.1 (by decide) (by decide) λW M4 a4 b4 d4=>?_
 obtain⟨w,ew,w2,w1⟩:∃m:Int,fE [D.int 3,.int 5,.int 12] W=ap (.int m)/\0<m/\m<=12:=by
  have:W=0\/W=1\/W=2:=by lia
  rcases this with rfl|rfl|rfl
  .exact#[3,by simp,by lia,by lia]
  .exact#[5,by simp,by lia,by lia]
  .exact#[12,by simp,by lia,by lia]
 simp![ew];refine aP d4.1 w2 (by lia) λx5 M5 a5 b5 d5=>?_
 simp![];obtain⟨nn,Z⟩:∃nn:Nat,(1:Int)+x5=nn:=#[(1+x5).toNat,by lia]
 rw[Z];refine ao λQ' E' hq _=>yC d5.1 (by lia) λnames M6 n6 nd6 on6 d6=>hq _ _ ?_
 simp![];refine aP d6.1 (by decide) (by decide) λx7 M7 a7 b7 d7=>?_
 simp![];refine aP d7.1 (by decide) (by decide) λx8 M8 a8 b8 d8=>?_
 simp![];refine#[bj (by decide),λp f=>?_]
 rw[Mem.upd_del,au f];refine aP d8.1 (by decide) (by decide) λT M9 a9 b9 d9=>?_
 obtain⟨many,ek,k0,k1⟩:∃m:Int,fE [D.int 0,.int (1+x7),.int x8] T=ap (.int m)/\0<=m/\m<=40:=by
  have:T=0\/T=1\/T=2:=by lia
  rcases this with rfl|rfl|rfl
  .exact#[0,by simp,by lia,by lia]
  .exact#[1+x7,by simp,by lia,by lia]
  .exact#[x8,by simp,by lia,by lia]
 simp![ek];refine#[bj (by decide),bj (by decide),λrm S=>#[bj (by decide),λp f=>?_]]
 rw[Mem.upd_del,au f];have D9:=d1.trans (d2.trans<|d3.trans<|d4.trans<|d5.trans<|d6.trans<|d7.trans<|d8.trans d9);have B:=d9.1.nep S;have R9:Rm k rm (M9.upd rm<|.lst [.int v]):=#[d9.1.upd B,B.1,B.2,v,Mem.upd_same];refine aP R9.h (by decide) (by decide) λF M10 a10 b10 I=>?_
 have R10:=R9.go (R9.dr I);obtain⟨J,eo,o0,o1⟩:∃m:Int,fE [D.int 6,.int 12,.int 30] F=ap (.int m)/\0<m/\m<=30:=by
  have:F=0\/F=1\/F=2:=by lia
  rcases this with rfl|rfl|rfl
  .exact#[6,by simp,by lia,by lia]
  .exact#[12,by simp,by lia,by lia]
  .exact#[30,by simp,by lia,by lia]
 simp![eo];have ht:ToldOk names m many:=#[m2,m1,by lia,by lia,k0,k1]
 refine ao λQ' E' hq _=>(jZ ht 24).1 0 J M10 Q' E' (by decide) (by decide) o0 o1 R10 v #[by rw[I.2 rm B.1 B.2,Mem.upd_same],v0] λrows M11 O G h11 l11 H=>hq _ _ ?_
 obtain⟨v11,R,O⟩:=O;have v110:=R.2;simp![Tz];refine aP H.1 (by lia) (by lia) λx12 M12 a12 b12 X=>?_
 obtain⟨mk,hmk,Y⟩:=l_ a12 b12;simp![Y];refine#[bj (by decide),ak<|h m many names rows mk M12 #[ht,nd6,G.1,by lia,by lia,l11,G.2,hmk,on6] (by lia) ?_]
 refine D9.kq.trans (Kq.trans ?_ X.kq);refine#[H.1,λb o h1 h2 e=>?_];have hb:b≠rm:=Mem.ne e S;have:=(R9.dr I).2.2 b o h1 h2 hb (by rw[ae hb];exact e)
 exact H.2.2 b o h1 h2 hb this
theorem yd(T:Has k M)(pl:PlG m many names rows mk)(h:∀(nums e:aaW)(M':Mem),nums.length=names.length->(e.length:Int)=many->(∀v∈nums,0<=v/\v<m)->(∀v∈e,0<=v/\v<m)->Kq k M M'->Q (bJ nums e) M'):AU ad [.ref k.p,jL m many names rows mk] M Q E:=by
 have t1:=pl.t.m1;have t2:=pl.t.m2;have t3:=pl.t.n1;have t4:=pl.t.k0;have t5:=pl.t.k1;refine ce (λxs aaQ U M'=>∃(nums:aaW)(F:Option D),xs.length+nums.length=names.length/\aaQ=nums.map D.int/\U=[F,ap (.ref k.p),ap (jL m many names rows mk)]/\Dr k M M'/\∀v∈nums,0<=v/\v<m) (λ_ _ _ _ _=>aO) ?_ ?_ ?_ _ _ _ _ #[[],bb,by simp,rfl,rfl,T.refl,by simp]
 .rintro aaQ U M' ⟨nums,F,R,rfl,rfl,S,hv⟩
  intro p H;simp![Mem.upd_del,au H,atI_2];refine#[by lia,by lia,?_]
  refine ce (λxs aaQ U M'=>∃(ps:aaW)(F:Option D),xs.length+ps.length=many.toNat/\aaQ=ps.map D.int/\U=[F,ap (.ref k.p),ap (jL m many names rows mk)]/\Dr k M M'/\∀v∈ps,0<=v/\v<m) (λ_ _ _ _ _=>aO) ?_ ?_ ?_ _ _ _ _ #[[],bb,by simp[cY],rfl,rfl,S,by simp]
  .rintro aaQ U M' ⟨ps,F,B,rfl,rfl,G,f⟩
   intro p H;simp![Mem.upd_del,au H];refine#[bj (by decide),ak<|h nums ps M' (by simpa using R) (by simp at B;lia) hv f G.kq]
  .rintro x xs aaQ U M' ⟨ps,F,B,rfl,rfl,G,f⟩ N P _
   simp![jL,atI_0];refine aP G.1 (by lia) (by lia) λr M3 I O J=>?_
   simp![];simp only[Ug]at B;refine P _ _ _ (by simp;exact g7 (by lia)) #[ps++[r],_,by simp;lia,by simp,rfl,G.trans J,λv hv=>?_]
   rcases Uo.mp hv with hv|hv
   .exact f v hv
   .simp at hv;subst hv;exact#[I,O]
  .rintro x xs aaQ U M' ⟨ps,F,B,rfl,rfl,G,f⟩
   simp at B ⊢;exact g7 (by lia)
 .rintro x xs aaQ U M' ⟨ps,F,B,rfl,rfl,G,f⟩ N P _
  simp![jL,atI_0];refine aP G.1 (by lia) (by lia) λr M3 I O J=>?_
  simp![];simp only[Ug]at B;refine P _ _ _ (by simp;exact g7 (by lia)) #[ps++[r],_,by simp;lia,by simp,rfl,G.trans J,λv hv=>?_]
  rcases Uo.mp hv with hv|hv
  .exact f v hv
  .simp at hv;subst hv;exact#[I,O]
 .rintro x xs aaQ U M' ⟨ps,F,B,rfl,rfl,G,f⟩
  simp at B ⊢;exact g7 (by lia)
theorem dh{b:BxC (ag 0) tt te ok Q}{rest:Dl}{c:Option D}{xs:List D}(p:D->Bool)(f:D->D)(W:ok M)(T:xs.length<=100000)(R:∀x∈xs,∀K:Bool->Mem->Prop,K (p x) M->tt (ap x::rest) M K)(S:∀x∈xs,p x=true->∀K:DK,K (f x) M->te (ap x::rest) M K)(h:Q ((xs.filter p).map f) M):
  cA (ag 0) tt te ok Q b xs [] (c::rest) M:=by
 refine ce (λI aaQ U N=>∃(us:List D)(B:Option D),xs=us++I/\aaQ=(us.filter p).map f/\U=B::rest/\M=N) (by lia) ?_ ?_ ?_ _ _ _ _ #[[],c,rfl,rfl,rfl,rfl]
 .rintro aaQ U N ⟨us,B,e,rfl,rfl,rfl⟩
  simp_all
 .rintro y I aaQ U N ⟨us,B,e,rfl,rfl,rfl⟩ N' H F
  have O:y∈xs:=by rw[e];simp
  have J:=congrArg Vr e;simp at J;have P:=Uy p us;refine R y O _ ?_;cases G:p y with
  |true=>
   exact S y O G _ (H _ _ _ (by rw[Tz];exact g7 (by lia)) #[us++[y],_,by simp[e],by simp[G],rfl,rfl])
  |false=>
   exact F _ _ _ #[us++[y],_,by simp[e],by simp[G],rfl,rfl]
 rintro y I aaQ U N ⟨us,B,e,rfl,rfl,rfl⟩
 have J:=congrArg Vr e;simp at J;have P:=Uy p us;rw[Tz];exact g7 (by lia)
theorem cC{b:BxC (ag 0) cX te ok Q}{rest:Dl}{c:Option D}{xs:List D}(f:D->D)(B:ok M)(p:xs.length<=100000)(F:∀x∈xs,∀K:DK,K (f x) M->te (ap x::rest) M K)(h:Q (xs.map f) M):cA (ag 0) cX te ok Q b xs [] (c::rest) M:=by
 refine dh _ f B p (λx _ K q=>q) (λx e _=>F x e) ?_;rw[YQ.mpr λ_ _=>rfl];exact h
instance lawKey:LawfulBEq aC where
 eq_of_beq {a b} h:=by
  cases a<;>cases b
  .exact congrArg Vi (eq_of_beq (α:=Int) h)
  .cases h
  .cases h
  .exact congrArg Us (eq_of_beq (α:=Str) h)
 rfl {a}:=by
  cases a
  .exact beq_self_eq_true (α:=Int) _
  .exact beq_self_eq_true (α:=Str) _
noncomputable def kD:aC->D
 |.inl i=>.int i
 |.inr x=>.str x
theorem Qk(a b:aC):aR (kD a) (kD b)=decide (a=b):=by
 cases a<;>cases b<;>simp[kD,aR]
theorem Es(n:Nat)(a:aC):bX n (kD a)=true:=by cases a<;>cases n<;>rfl
theorem zg(n:Nat):∀ks:List aC,fits n (ks.map kD)=true
 |[]=>by rfl
 |k::ks=>by simp[fits,Es,zg n ks]
theorem qK:∀ks:List aC,fc (ks.map kD)=ap ks
 |[]=>rfl
 |k::ks=>by
  have:=qK ks;cases k<;>simp[fc,kD,cN,this,FH,Hw,GW,Jz,wt,wo,Ag,pP]
theorem Py:((ks.map kD).any λd=>aR d (kD k))=decide (k∈ks):=by
 induction ks with
 |nil=>rfl
 |cons a ks ih=>
  rw[TB,V6,Qk]
  by_cases h:a=k
  .simp[h]
  have:¬k=a:=λe=>h e.symm
  simp_all
def zn(ks:List aC):D:=.lst (ks.map kD)
theorem Sv:dv M (kD k)=kD k:=by cases k<;>rfl
theorem Lc:jO M (kD k) (zn ks)=ap (decide (k∈ks)):=by
 unfold jO zn
 simp_arith! only[aI,Sv,Es,zg,and_self,if_true,Py]
structure Cse where
 w:Int
 many:Nat
 names:List Str
 rows:List Rw
 mn:Str
 most:Nat
structure Sta where
 nums:List Int
 pieces:List Int
def Sta.d(s:Sta):D:=bJ s.nums s.pieces
noncomputable def Cse.cf(C:Cse)(s:Sta):Cf:=#[C.w,s.pieces,C.most]
def Cse.d(C:Cse):D:=.tup [.int C.w,.tup (C.names.map D.str),.int (C.many:Nat),.tup (aE C.rows),.str C.mn]
structure Cse.Ok(C:Cse):Prop where
 m2:2<=C.w
 m1:C.w<=997
 few:C.many<=100
 most:C.most<=10000
 nd:C.names.Nodup
 l0:0<C.names.length
 l1:C.names.length<=100
 ok:bf C.names C.w C.many C.rows
 h:dD C.rows<=7
 mn:C.mn∈C.names
structure SOk(C:Cse)(s:Sta):Prop where
 ln:s.nums.length=C.names.length
 lp:s.pieces.length=C.many
 rn:∀v∈s.nums,0<=v/\v<C.w
 rp:∀v∈s.pieces,0<=v/\v<C.w
def vg(mk:Str)(r:Bool×Sx):D:=if r.1=true then .int (nm r.2.nums mk) else .non
def Cse.run(C:Cse)(s:Sta):Bool×Sx:=dB (C.cf s) C.names C.rows s.nums
def Cse.mark(C:Cse)(s:Sta):D:=vg C.mn (C.run s)
section
variable{s:Sta}
theorem Cse.Ok.pl(o:C.Ok)(k:SOk C s):PlOk (C.cf s) C.names C.rows s.nums:=
 #[#[o.m2,o.m1,k.rp,by show s.pieces.length<=1000;rw[k.lp];have:=o.few;lia,o.most],k.ln.symm,o.nd,o.l0,by have:=o.l1;lia,k.rn,by show bf _ _ s.pieces.length _;rw[k.lp];exact o.ok,o.h]
theorem SOk.pd(k:SOk C s):C.d=aW (C.cf s) C.names C.rows C.mn:=by unfold Cse.d aW Cse.cf;rw[k.lp]
theorem xE(C:Cse)(s:Sta):C.mark s=.non\/∃v,C.mark s=.int v:=by
 unfold Cse.mark vg
 split
 .exact .inr #[_,rfl]
 exact .inl rfl
theorem vY(h:Q (C.mark s) M):frz (C.mark s) M Q:=by rcases xE C s with e|⟨v,e⟩<;>rw[e]at h ⊢<;>exact h
theorem oC:∀{names:aaX},mk∈names->∃j,names.findIdx? (λy=>decide (y=mk))=ap j/\names[j]?=ap mk
 |[],h=>by simp at h
 |x::names,h=>by
  by_cases e:x=mk
  .subst e;exact#[0,by simp[Wv],rfl]
  have p:mk∈names:=by
   rcases TK.mp h with z|z
   .simp_all
   exact z
  obtain⟨j,f,B⟩:=oC p;exact#[j+1,by simp[Wv,e,f],by trivial]
theorem dP:∀names:List Str,jK (names.map D.str)=ap names
 |[]=>rfl
 |x::names=>by rw[TB,jK,dP _]
def xm(names:aaX)(r:Bool×Sx):D:=.tup [.lst (yl r.2.steps),dA names r]
theorem Ft{b:BxQ EE λd M'=>frzT d M' Q}(p:PlOk c names rows nums)(h:Q (xm names<|dB c names rows nums) M):
  calls (vD ad) EE [aW c names rows mk,bJ nums c.pieces,.int (c.most:Nat)] M (λd M'=>frzT d M' Q) b:=by
 refine ao λQ' E' B _=>F4 p λl f=>B _ _ ?_;unfold xm dA at h;unfold dA;cases e:(dB c _ _ _).1 with
 |true=>
  rw[e]at h;rw[if_pos rfl];simp![Mem.upd_del,au f];exact h
 |false=>
  rw[e]at h;rw[if_neg (by simp)]
  simp![Mem.upd_del,au f];exact h
theorem DY(p:PlOk c names rows nums)(G:mk∈names)(h:Q (vg mk<|dB c names rows nums) M):qA ad [aW c names rows mk,bJ nums c.pieces,.int (c.most:Nat)] M Q E:=by
 have l1:=p.l1;obtain⟨j,f,B⟩:=oC G;simp![T4,yU];refine Ft p ?_;simp![xm,atI_1];unfold vg at h;unfold dA;cases e:(dB c names rows nums).1 with
 |true=>
  rw[e,if_pos rfl]at h;rw[if_pos rfl];simp![aW,atI_1,atI_4,dP,f];refine#[l1,?_];have F:fE (names.map λx=>D.int (nm (dB c names rows nums).2.nums x)) (j:Nat)=ap (.int<|nm (dB c names rows nums).2.nums mk):=by
   rw[bw (by lia),Ua,TJ,B];rfl
  simp![F];exact ak h
 |false=>
  rw[e,if_neg (by simp)]at h
  simp![];exact ak h
theorem qB{b:BxQ EE Q}(o:C.Ok)(k:SOk C s)(h:Q (C.mark s) M):calls (qA ad) EE [C.d,s.d,.int (C.most:Nat)] M Q b:=by
 refine aL (λQ' E' q=>?_) h;rw[k.pd];exact DY (o.pl k) o.mn q
def bg(C:Cse)(s t:Sta):D:=.tup [C.d,s.d,t.d,.int (C.most:Nat)]
theorem H_{C:Cse}{s t:Sta}:bg C s t=.tup [C.d,s.d,t.d,.int (C.most:Nat)]:=rfl
theorem xM{C:Cse}:C.d=.tup [.int C.w,.tup (C.names.map D.str),.int (C.many:Nat),.tup (aE C.rows),.str C.mn]:=rfl
noncomputable def eD(C:Cse):List aC:=C.names.map Us++(Ub C.many).map λ(i:Nat)=>Vi (i:Int)
def aH(C:Cse)(s:Sta):aC->Int
 |.inl i=>(s.pieces[i.toNat]?).getD 0
 |.inr x=>nm (C.names.zip s.nums) x
theorem jG:∀{names:aaX}{nums:aaW}{j:Nat}{x:Str},names.Nodup->names.length=nums.length->names[j]?=ap x->nums[j]?=ap (nm (names.zip nums) x)
 |[],_,j,x,_,_,h=>by simp at h
 |y::names,[],j,x,_,h,_=>by simp at h
 |y::names,v::nums,0,x,nd,hl,h=>by
  simp at h;subst h;simp[nm,gN]
 |y::names,v::nums,j+1,x,nd,hl,h=>by
  simp only[Tu,FH,Hw,GW,Jz,wt,wo,Ag,pP]at h ⊢;have f:=U9.mp nd;have p:¬y=x:=λe=>f.1 (e▸UQ h);rw[jG f.2 (by simpa using hl) h]
  simp[nm,gN,p]
theorem hZ(h:k∈eD C):(∃x,x∈C.names/\k=.inr x)\/∃i:Nat,i<C.many/\k=.inl (i:Int):=by
 rcases Uo.mp h with q|q
 .obtain⟨x,e,rfl⟩:=TM.mp q
  exact .inl (by lia)
 obtain⟨i,f,rfl⟩:=TM.mp q;exact .inr #[i,by simp_all,rfl]
theorem bP(o:C.Ok)(k:SOk C s)(f:t∈eD C):0<=aH C s t/\aH C s t<C.w:=by
 rcases hZ f with⟨x,e,rfl⟩|⟨i,hi,rfl⟩
 .exact((o.pl k).nok.at e).2
 exact((o.pl k).co.piece<|by show _<s.pieces.length;rw[k.lp];lia).2
theorem eA(o:C.Ok)(k:SOk C s)(F:t∈eD C)(h:Q (.int<|aH C s t) M):k8 ad [C.d,s.d,kD t] M Q E:=by
 have l1:=o.l1;rcases hZ F with⟨x,B,rfl⟩|⟨i,hi,rfl⟩
 .obtain⟨j,p,f⟩:=oC B
  have e:fE (s.nums.map D.int) (j:Nat)=ap (.int<|nm (C.names.zip s.nums) x):=by
   rw[bw (by lia),Ua,TJ,jG o.nd k.ln.symm f];rfl
  simp![Lx,wB,kD,Cse.d,Sta.d,bJ,bv,mM,atI_0,atI_1,dP,p,WN,Xp,Vw,V8,W0];refine#[by lia,?_]
  simp![e];exact ak h
 .have e:fE (s.pieces.map D.int) (i:Nat)=ap (.int<|(s.pieces[(i:Int).toNat]?).getD 0):=by
   rw[bw (by lia),Ua,TJ,Tx (by rw[k.lp];exact hi)];rfl
  simp![Lx,wB,kD,Cse.d,Sta.d,bJ,bv,mM,atI_0,atI_1,e,WN,Xp,Vw,V8,W0,X2,VV];exact ak h
end
def lM(k:Wk)(c:Cf)(s:Sx)(M:Mem):Mem:=
 ((M.upd k.a<|.lst [.ref k.dn,.tup (c.pieces.map D.int),.ref k.ls,.int (c.most:Nat),.int c.m]).upd k.dn<|.dK<|eI s.nums).upd k.ls (.lst<|yl s.steps)
theorem oN:lM k c s M k.a=ap (.lst [.ref k.dn,.tup (c.pieces.map D.int),.ref k.ls,.int (c.most:Nat),.int c.m]):=by
 unfold lM;rw[ae k.h2,ae k.h1,Mem.upd_same]
theorem nr:lM k c s M k.dn=ap (.dK<|eI s.nums):=by unfold lM;rw[ae k.h3,Mem.upd_same]
theorem MU:lM k c s M k.ls=ap (.lst<|yl s.steps):=by unfold lM;simp_all
theorem Ht{x:List (List Int×Int)}:(lM k c s M).upd k.ls (.lst<|yl x)=lM k c #[s.nums,x] M:=by unfold lM;simp_all
theorem JZ{x:cM}:(lM k c s M).upd k.dn (.dK<|eI x)=lM k c #[x,s.steps] M:=by
 unfold lM;rw[aw (Uk k.h3),Mem.upd_upd]
theorem sE(f:c.most<=10000)(e:s.steps.length<=c.most)(h:Q (.bl (nt c pl v s).1) (lM k c (nt c pl v s).2 M)):
  vU ad [.ref k.a,ir pl,.int v] (lM k c s M) Q E:=by
 unfold nt at h;simp![u_q9,Jk,oN,MU,atI_2,atI_3,yl,Tz]
 by_cases q:s.steps.length<c.most
 .rw[if_pos q]at h
  rw[if_neg (by lia)]
  refine#[by trivial,g7 (by lia),ak ?_]
  rw[<- Ht]at h;simpa [yl] using h
 rw[if_neg q]at h;rw[if_pos (by lia)]
 exact ak h
theorem ug{b:BxQ EE Q}(p:c.most<=10000)(e:s.steps.length<=c.most)(h:Q (.bl (nt c pl v s).1) (lM k c (nt c pl v s).2 M)):
  calls (vU ad) EE [.ref k.a,ir pl,.int v] (lM k c s M) Q b:=
 ao λ_ _ f _=>sE p e (f _ _ h)
theorem wk(p:COk c){i:Int}(f:0<=i)(h:i<c.pieces.length):fE (c.pieces.map D.int) i=ap (.int<|(c.pieces[i.toNat]?).getD 0):=by
 have e:i.toNat<c.pieces.length:=by lia
 rw[bw f,TJ,Tx e];rfl
theorem tm(B:COk c)(p:NOk names c.m s.nums)(f:cK names c.m c.pieces.length r)(h:Q (.int<|num c s.nums r) (lM k c s M)):
  uP ad [.ref k.a,r.d] (lM k c s M) Q E:=by
 have m2:=B.m2;have m1:=B.m1;cases r with
 |put x kk=>
  simp![Ci,oY,Rw.d,↓Ee,oN,nr,atI_0,atI_2,atI_3,Xo];exact ak h
 |take x i=>
  simp![Ci,oY,Rw.d,↓Ee,oN,nr,atI_0,atI_2,atI_3,Xo,wk B f.2.1 f.2.2];exact ak h
 |pick x y=>
  have F:=(p.at f.2.1).1;have H:=f.2.2;have W:=Vm (nm s.nums y) (show (c.pieces.length:Int)≠0 by lia)
  have T:=U3 (nm s.nums y) H;simp![Ci,oY,Rw.d,↓Ee,oN,nr,atI_0,atI_2,atI_3,Xo,cy,F,UK,Tz,wk B W T];exact#[H,ak h]
 |two w x y z=>
  obtain⟨R,Z,I,S⟩:=f;have F:=(p.at I).1;have X:=(p.at S).1;have Y:=(p.at I).2;have G:(w="put")=False/\(w="take")=False/\(w="pick")=False:=by
   rcases R with rfl|rfl|rfl|rfl
   .exact#[(eq_false<|by decide +kernel),(eq_false<|by decide +kernel),(eq_false<|by decide +kernel)]
   .exact#[(eq_false<|by decide +kernel),(eq_false<|by decide +kernel),(eq_false<|by decide +kernel)]
   .exact#[(eq_false<|by decide +kernel),(eq_false<|by decide +kernel),(eq_false<|by decide +kernel)]
   .exact#[(eq_false<|by decide +kernel),(eq_false<|by decide +kernel),(eq_false<|by decide +kernel)]
  simp![Ci,oY,Rw.d,↓Ee,oN,nr,atI_0,atI_2,atI_3,cy,F,X,UK,G.1,G.2.1,G.2.2];have e:Q (.int<|zw w (nm s.nums y) (nm s.nums z) c.m) (lM k c s M):=h;unfold zw at e
  by_cases J:w="sum"
  .rw[if_pos J]at e ⊢;exact#[by lia,ak e]
  .rw[if_neg J]at e ⊢
   by_cases O:w="by"
   .rw[if_pos O]at e ⊢;exact#[(.inl #[by lia,by lia]),by lia,ak e]
   .rw[if_neg O]at e ⊢
    by_cases P:w="less"
    .rw[if_pos P]at e ⊢
     split<;>rename_i q
     .rw[if_pos q]at e;exact ak e
     .rw[if_neg q]at e;exact ak e
    .rw[if_neg P]at e ⊢
     split<;>rename_i q
     .rw[if_pos q]at e;exact ak e
     .rw[if_neg q]at e;exact ak e
 |ifr=>exact f.elim
 |again=>exact f.elim
theorem um{b:BxQ EE Q}(e:d=r.d)(B:COk c)(p:NOk names c.m s.nums)(F:cK names c.m c.pieces.length r)(h:Q (.int<|num c s.nums r) (lM k c s M)):
  calls (uP ad) EE [.ref k.a,d] (lM k c s M) Q b:=
 e▸ao λ_ _ f _=>tm B p F (f _ _ h)
section
variable{k:Wk}
def p9(ad:Ad)(k:Wk)(c:Cf)(names:aaX)(n:Nat):Prop:=∀(rs:List Rw)(pl:aaW)(s:Sx)(M:Mem)(Q:DK)(E:DX),bf names c.m c.pieces.length rs->2*dD rs+1<=n->pl.length+2*dD rs+2<=1000->NOk names c.m s.nums->s.steps.length<=c.most->
 Q (.bl (cg c rs pl 0 s).1) (lM k c (cg c rs pl 0 s).2 M)->YZ ad n [.ref k.a,.tup (aE rs),ir pl] (lM k c s M) Q E
def NI(ad:Ad)(k:Wk)(c:Cf)(names:aaX)(n:Nat):Prop:=∀(x:Str)(a:List Rw)(pl:aaW)(s:Sx)(M:Mem)(Q:DK)(E:DX),eK names c.m c.pieces.length (.again x a)->2*hR (.again x a)<=n->pl.length+2*hR (.again x a)+1<=1000->NOk names c.m s.nums->s.steps.length<=c.most->
 Q (.bl (iO c (.again x a) pl s).1) (lM k c (iO c (.again x a) pl s).2 M)->Y3 ad n [.ref k.a,(Rw.again x a).d,ir pl] (lM k c s M) Q E
theorem IV:kJ c r pl s=if (nt c pl (num c s.nums r) s).1=true then (true,#[sN s.nums (iF r) (num c s.nums r),(nt c pl (num c s.nums r) s).2.steps]) else nt c pl (num c s.nums r) s:=by
 unfold kJ nt;lia
theorem NQ(f:NOk names c.m s.nums)(e:cK names c.m c.pieces.length r):iF r∈s.nums.map (·.1):=by
 rw[f.keys];cases r with
 |two w x y z=>exact e.2.1
 |ifr=>exact e.elim
 |again=>exact e.elim
 |_=>exact e.1
theorem xL(p:COk c)(e:s.steps.length<=c.most)(B:U[0]?=ap (ap<|.ref k.a))(G:∀N K,K (ir pl) N->f U N K)(F:∀N K,K (.int v) N->h U N K)(q:K (!(nt c pl v s).1) (lM k c (nt c pl v s).2 M)):gu (cO<|am<|aj (vU ad) EE 3<|aa (ac 0)<|aa f<|aa h af) U (lM k c s M) K:=by
 simp_arith! only[gu,cO,am,aj,aa,ac,B]
 exact G _ _ (F _ _ #[rfl,ug p.most e q])
theorem ES{rest:List D}{w:D}(f:gN s.nums x=ap (nm s.nums x))(e:U[0]?=ap (ap<|.ref k.a))(h:U[i]?=ap (ap<|.tup (w::.str x::rest)))(q:K (.int<|lk s.nums x) (lM k c s M)):
  nv (al<|ai cc (ai av (ai av (ac 0)<|dC<|.int 0)<|ai av (ac i)<|dC<|.int 1)<|dC<|.int 0) (dC<|.int 0) (dC<|.int 1) U (lM k c s M) K:=by
 simp![e,h,oN,nr,atI_0,atI_1,cy,f,UK];unfold lk at q;lia
theorem rL(p:pl.length<=1000)(f:U[i]?=ap (ap<|ir pl))(h:U[j]?=ap (ap<|.int v))(q:K (ir (pl++[v])) M):ai b6 (ac i) (aS<|aa (ac j) af) U M K:=by
 simp_arith! only[ai,ac,aS,aa,f,h,ir,b6,Tz,Ug,VO]
 refine#[by trivial,bj (by lia),?_]
 have e:pl.map D.int++[.int v]=(pl++[v]).map D.int:=by simp
 rw[e];exact q
theorem HB(H:p9 ad k c names n)(G:U[0]?=ap (ap<|.ref k.a))(I:∀N K,K (.tup<|aE rs) N->p U N K)(O:∀N K,K (ir pl) N->B U N K)(ok:bf names c.m c.pieces.length rs)(J:2*dD rs+1<=n)(h:pl.length+2*dD rs+2<=1000)(e:NOk names c.m s.nums)(f:s.steps.length<=c.most)(q:K (!(cg c rs pl 0 s).1) (lM k c (cg c rs pl 0 s).2 M)):
  gu (cO<|am<|aj (YZ ad n) EE 3<|aa (ac 0)<|aa p<|aa B af) U (lM k c s M) K:=by
 simp_arith! only[gu,cO,am,aj,aa,ac,G]
 refine I _ _ (O _ _ #[rfl,ao λQ' E' F _=>H rs pl _ M Q' E' ok J h e f (F _ _ q)])
theorem JF(h:eK names m many r)(e:bo r=true):cK names m many r:=by
 cases r<;>first|assumption|cases e
theorem wK{n:cM}:lk n x=0\/lk n x=1:=by unfold lk;split<;>simp
theorem kt{EE:DX}{S0:Sd}{n:Nat}{x:Str}{a:List Rw}{pl:aaW}{M:Mem}{Q:DK}{D':DEnds}{ok:Mem->Prop}{Z:BxF (ag 3) (lQ ad S0 (YZ ad n) EE) D' ok}(J:COk c)(W:p9 ad k c names n)(X:x∈names)(F:bf names c.m c.pieces.length a)(T:2*dD a+1<=n)(R:pl.length+2*dD a+3<=1000)
  (S:∀M,ok M) (e:D'.rt=_3.drp Q) (H:∀U M',_3.drp Q (.bl cp) M'->D'.nx U M'):∀(f t:Nat)(s:Sx)(O P:Option D),NOk names c.m s.nums->s.steps.length<=c.most->
  Q (.bl (fK c x pl (λt s=>cg c a (pl++[(t:Int)]) 0 s) f t s).1) (lM k c (fK c x pl (λt s=>cg c a (pl++[(t:Int)]) 0 s) f t s).2 M)->
  nG (ag 3) (lQ ad S0 (YZ ad n) EE) D' ok Z ((VR t f).map λ(i:Nat)=>D.int (i:Int)) [ap (.ref k.a),ap (.tup [.str "again",.str x,.tup (aE a)]),ap (ir pl),O,P] (lM k c s M)
 |0,t,s,O,P,hno,hst,h=>#[S _,H _ _<|ak h]
 |f+1,t,s,O,P,hno,hst,h=>by
  refine#[S _,?_];unfold fK at h;have p:=(nt_gr (pl:=pl++[(t:Int)]) (v:=lk s.nums x)).2 hst;have B:NOk names c.m (nt c (pl++[(t:Int)]) (lk s.nums x) s).2.nums:=by rw[fP];exact hno
  refine ES (hno.at X).1 rfl rfl ?_;simp[ag];unfold r9 ah aG;refine xL J hst rfl (λN K=>rL (by lia) rfl rfl) (λN K q=>q) ?_
  cases I:(nt c _ _ s).1 with
  |false=>
   rw[if_neg (by rw[I];simp),I]at h
   simp[e];exact ak h
  |true=>
   rw[if_pos I]at h;simp[aB];have Y:∀K:Bool->Mem->Prop,K (decide _) (lM k c (nt c (pl++[(t:Int)]) (lk s.nums x) s).2 M)->al (ai cc (ac 4)<|dC<|.int 0) [ap (.ref k.a),ap (.tup [.str "again",.str x,.tup (aE a)]),ap (ir pl),ap (.int t),ap (.int<|lk s.nums x)] _ K:=λK q=>by
    trivial
   refine Y _ ?_;rcases wK with hl|hl
   .rw[hl,if_neg (by decide),<- hl,I]at h
    simp[hl,e];rw[<- hl];exact ak h
   rw[hl,if_pos rfl,<- hl]at h;have n1:decide (lk s.nums x=0)=false:=by rw[hl];rfl
   simp[n1,aB];unfold sh aG;refine HB W rfl (λN K q=>?_) (λN K=>rL (by lia) rfl rfl) F T (by simp;lia) B p ?_
   .exact q
   cases G:(cg c a _ 0 _).1 with
   |false=>
    rw[if_neg (by simp_all),G]at h
    simp[e];exact ak h
   |true=>
    rw[if_pos G]at h;exact kt J W X F T R S e H f _ _ _ _ (dH J a F _ _ _ B) ((fM a _ 0 _).2 p) h
theorem vE(G:COk c)(J:p9 ad k c names n):NI ad k c names (n+1):=by
 intro x a pl s M Q E f I F p B h;simp only[hR]at I F;have H:=G.most;rw[SG];unfold A1
 simp_arith! only[ah,eE,dW,aa,ai,ac,dC,dt,av,aI,oN]
 refine#[by lia,by lia,?_]
 have e:cY 0 ((c.most:Int)+1).toNat=(VR 0 (c.most+1)).map λ(i:Nat)=>D.int i:=by
  unfold cY;rw[VC]
  simp_all
 rw[e];exact kt G J f.1 f.2 (by lia) (by lia) (λ_=>aO) rfl (λ_ _ z=>z) _ 0 s _ _ p B h
theorem nK{rest:List D}(f:U[4]?=ap (ap<|.tup (.str w::rest)))(q:K (decide (w=e)) M):al (ai cc (ai av (ac 4)<|dC<|.int 0)<|dC<|.str e) U M K:=by
 simp_arith! only[al,ai,ac,f]
 trivial
def RGo(D':DEnds)(k:Wk)(c:Cf)(M:Mem)(d1 d2:Option D)(r:Bool×Sx):Prop:=(r.1=true->∀c3 c4 c5 c6 c7 c8,D'.nx [ap (.ref k.a),d1,d2,c3,c4,c5,c6,c7,c8] (lM k c r.2 M))/\(r.1=cp->D'.rt (.bl cp) (lM k c r.2 M))
theorem Gv(F:COk c)(e:NOk names c.m s.nums)(p:s.steps.length<=c.most)(H:names.length<=1000)(B:cK names c.m c.pieces.length r)(g:RGo D' k c M d1 d2 (kJ c r pl s)):lh ad S0 S1 EE D' [ap (.ref k.a),d1,d2,d3,ap r.d,ap (ir pl),d6,d7,d8] (lM k c s M):=by
 obtain⟨w,rest,G,_,_⟩:=jR B;rw[IV]at g;unfold lh;generalize f:m9 ad S0 S1 EE=K6;refine#[rfl,um rfl F e B ?_];show ag 8 _ _ _ _;simp[ag];rw[<- f];unfold m9 ah aG;refine xL F p rfl (λ_ _ q=>q) (λ_ _ q=>q) ?_;cases h:(nt c pl _ s).1 with
 |false=>
  rw[if_neg (by rw[h];simp)]at g
  exact g.2 h
 |true=>
  rw[if_pos h]at g;rw[G];simp![oN,nr,atI_0,atI_1,fP];refine#[(by rw[eI,Tz,<- Tz,e.keys];exact g7 (by lia)),?_]
  rw[lx (NQ e B),(JZ (k:=k) (c:=c) (s:=(nt c pl (num c s.nums r) s).2) (M:=M) (x:=sN s.nums (iF r) (num c s.nums r)))];exact g.1 rfl _ _ _ _ _ _
theorem KR{a b:List Rw}(P:COk c)(f:NOk names c.m s.nums)(h:s.steps.length<=c.most)(R:p9 ad k c names n)(ok:eK names c.m c.pieces.length (.ifr x a b))(B:2*dD a+1<=n/\2*dD b+1<=n/\pl.length+2*dD a+3<=1000/\pl.length+2*dD b+3<=1000)(g:RGo D' k c M d1 d2 (iO c (.ifr x a b) pl s)):
  tT ad S0 (YZ ad n) EE D' [ap (.ref k.a),d1,d2,d3,ap (.tup [.str "if",.str x,.tup (aE a),.tup (aE b)]),ap (ir pl),d6,d7,d8] (lM k c s M):=by
 refine ES (f.at ok.1).1 rfl rfl ?_;obtain⟨rs,G,J,I,H,S⟩:∃rs,fE [D.tup (aE b),.tup (aE a)] (lk s.nums x)=ap (.tup _)/\(iO c (.ifr x a b) pl s=if (nt c pl (lk s.nums x) s).1=true then cg c rs (pl++[lk s.nums x]) 0 (nt c pl (lk s.nums x) s).2 else nt c pl (lk s.nums x) s)/\bf _ _ _ rs/\2*dD rs+1<=n/\pl.length+2*dD rs+3<=1000:=by
  unfold iO;rcases wK with hl|hl<;>rw[hl]
  .exact#[b,rfl,rfl,ok.2.2,B.2.1,B.2.2.2]
  exact#[a,rfl,rfl,ok.2.1,B.1,B.2.2.1]
 rw[J]at g;unfold rE
 simp_arith! only[ag,TQ,ah,aq,ai,ac,dt,Tu,av,aI]
 refine#[bj (by simp),λp O=>?_]
 simp_arith! only[frz,Mem.upd_same,Mem.upd_del,au O,G,ag]
 unfold q_ aG P6;refine xL P h rfl (λ_ _ q=>q) (λ_ _ q=>q) ?_;cases F:(nt c pl _ s).1 with
 |false=>
  rw[if_neg (by rw[F];simp)]at g
  exact g.2 F
 |true=>
  rw[if_pos F]at g;simp;refine HB R rfl (λN K q=>q) (λN K=>rL (by lia) rfl rfl) I H (by simp;lia) (by rw[fP];exact f) (nt_gr.2 h) ?_
  cases e:(cg c rs _ 0 _).1 with
  |false=>
   exact g.2 e
  |true=>
   exact g.1 e _ _ _ _ _ _
theorem Dy(hnl:names.length<=1000)(hc:COk c)(ihd:p9 ad k c names n)(ihr:NI ad k c names n):p9 ad k c names (n+1):=by
 intro rs pl s M Q E f hn H p B h;rw[Sf];unfold Aa
 simp_arith! only[ah,eE,qG,aa,ac,dt,Tu,aI,ox]
 refine cS (λxs U M'=>∃(e:List Rw)(j:Nat)(G:Sx)(X T R O P J:Option D),xs=g6 j (aE e)/\U=[ap _,ap _,ap _,X,T,R,O,P,J]/\M'=lM k c G M/\bf _ _ _ e/\2*dD e+1<=n+1/\pl.length+2*dD e+2<=1000/\NOk _ _ G.nums/\G.steps.length<=c.most/\
  Q (.bl (cg c e pl j G).1) (lM k c (cg c e pl j G).2 M)) (λ_ _ _ _=>aO) ?_ ?_ _ _ _ #[rs,0,s,_,_,_,_,_,_,rfl,rfl,rfl,f,hn,H,p,B,h]
 .rintro U M' ⟨e,j,G,X,T,R,O,P,J,Y,rfl,rfl,f,hn,H,p,B,h⟩
  cases e with
  |nil=>
   exact ak h
  |cons r rs=>trivial
 rintro x xs U M' ⟨e,j,G,X,T,R,O,P,J,Y,rfl,rfl,f,hn,H,p,B,h⟩ D' W _ hrt _
 cases e with
 |nil=>simp[aE,g6]at Y
 |cons r e=>
  simp only[aE,g6,UY]at Y;obtain⟨rfl,rfl⟩:=Y;simp only[bf]at f;have h1:hR r<=dD (r::e)/\dD e<=dD (r::e):=by simp only[dD];lia
  simp only[cg]at h;have g:RGo D' k c M (ap<|.tup<|aE rs) (ap<|ir pl) (iO c r (pl++[(j:Int)]) G):=#[λI X T R O P J=>by
   rw[if_pos I]at h;exact W _ _ #[e,j+1,_,X,T,R,O,P,J,rfl,rfl,rfl,f.2,by lia,by lia,tG hc r f.1 _ _ p,(sY r _ _).2 B,h],λI=>by
   rw[if_neg (by rw[I];simp),I]at h
   rw[show D'.rt=_3.drp Q from hrt];exact ak h]
  clear W h
  simp_arith! only[dq,aM,dg,ag,TQ]
  refine#[rfl,?_];unfold o9 ah aq;refine rL (by lia) rfl rfl ?_
  simp only[ag,TQ];unfold tq aG
  by_cases F:bo r=true
  .have S:=JF f.1 F
   rw[cQ F]at g;have ds:=Gv (ad:=ad) (S0:=Y3 ad n) (S1:=YZ ad n) (EE:=aJ E) (d3:=ap (.int (j:Int))) (d6:=O) (d7:=P) (d8:=J) hc p B hnl S g;obtain⟨w,rest,er,Z,hw2⟩:=jR S;rw[er]at ds ⊢;have n1:decide (w=("again":Str))=false:=decide_eq_false λz=>by rw[Z]at z;exact z
   have n2:decide (w=("if":Str))=false:=decide_eq_false λz=>by rw[hw2]at z;exact z
   refine nK rfl ?_;simp only[n1,Ue,if_false];unfold lT aG;refine nK rfl ?_;simp only[n2,Ue,if_false];exact ds
  cases r with
  |again x a=>
   simp only[Rw.d];refine nK rfl ?_;simp only[decide_true,if_true];unfold r8 aG
   simp_arith! only[gu,cO,am,aj,aa,af,ac,dt,Tu]
   refine#[rfl,ao λQ' E' hq _=>ihr x a (pl++[(j:Int)]) G M Q' E' f.1 (by lia) (by simp;lia) p B (hq _ _ ?_)]
   cases I:(iO c (.again x a) (pl++[(j:Int)]) G).1 with
   |true=>
    simp_arith! only[frz,Hd,VN,Ue,if_false,aB]
    exact g.1 I _ _ _ _ _ _
   |false=>
    simp_arith! only[frz,Hd,W9,if_true,aA,dC]
    exact g.2 I
  |ifr x a b=>
   simp only[hR]at h1;simp only[Rw.d];have n1:decide (("if":Str)=("again":Str))=false:=by decide +kernel
   refine nK rfl ?_;simp only[n1,Ue,if_false];unfold lT aG;refine nK rfl ?_;simp only[decide_true,if_true];exact KR hc p B ihd f.1 #[by lia,by lia,by simp;lia,by simp;lia] g
  |_=>exact absurd rfl F
theorem vP(e:names.length<=1000)(f:COk c):∀n:Nat,p9 ad k c names n/\NI ad k c names n
 |0=>#[λrs pl s M Q E _ h=>by lia,λx a pl s M Q E _ h=>by simp[hR]at h;lia]
 |n+1=>by
  obtain⟨p,B⟩:=vP e f n;exact#[Dy e f p B,vE f p]
end
theorem OY(h:M k.a=bb)(p:M k.dn=bb):∀b o,(M.upd k.ls<|.lst<|yl s.steps) b=ap o->lM k c s M b=ap o:=by
 intro b o e
 by_cases f:b=k.ls
 .subst f;rw[Mem.upd_same]at e;rw[MU];exact e
 rw[ae f]at e;unfold lM;rw[ae f,ae (Mem.ne e p),ae (Mem.ne e h)];exact e
theorem uW(p:PlOk c names rows nums)(h:∀l,M l=bb->Q (.tup [.ref l,dA names (dB c names rows nums)]) (M.upd l<|.lst<|yl (dB c names rows nums).2.steps)):
  kf ad [aW c names rows mk,bJ nums c.pieces,.int (c.most:Nat)] M Q E:=by
 have hl1:=p.l1;simp![QJ,B3,aW,bJ,atI_0,atI_1,atI_3,eL,Tz];refine#[p.ln,p.l0,p.l1,λdn T=>?_];simp![cG p.ln p.nd];refine#[bj (by decide),λls e=>#[bj (by decide),λa F=>#[bj (by decide),?_]]]
 have W:dn≠ls:=by rintro rfl;rw[Mem.upd_same]at e;cases e
 have J:M ls=none:=by rw[ae (Uk W)]at e;exact e
 have n2:a≠ls:=by rintro rfl;rw[Mem.upd_same]at F;cases F
 have n1:a≠dn:=by rintro rfl;rw[ae W,Mem.upd_same]at F;cases F
 have Y:M a=none:=by rw[ae n2,ae n1]at F;exact F
 obtain⟨k,H,O,R⟩:∃k:Wk,k.a=a/\k.dn=dn/\k.ls=ls:=#[#[a,dn,ls,n1,n2,W],rfl,rfl,rfl];have e0:((M.upd dn<|.dK<|eI<|names.zip nums).upd ls<|.lst []).upd a (.lst [.ref dn,.tup (c.pieces.map D.int),.ref ls,.int (c.most:Nat),.int c.m])=lM k c #[names.zip nums,[]] M:=by
  unfold lM;rw[H,O,R,aw (Uk n2),aw (Uk n1)];rfl
 rw[e0];have hD:=(vP (ad:=ad) (k:=k) p.l1 p.co 24).1 rows [] #[names.zip nums,[]] M;have hn:NOk names c.m (dB c names rows nums).2.nums:=dH p.co rows p.ok [] 0 #[names.zip nums,[]] p.nok;have I:=h ls J;subst H O R;have f:=OY (c:=c) (k:=k) (s:=(dB c names rows nums).2) Y T;refine ao λQ' E' X _=>hD Q' E' p.ok (by have:=p.h;lia) (by have:=p.h;simp;lia) p.nok (U2 _) (X _ _ ?_)
 have er:cg c rows [] 0 #[names.zip nums,[]]=dB c names rows nums:=rfl;rw[er];unfold dA at I;cases Z:(dB c names rows nums).1 with
 |false=>
  rw[Z,if_neg (by simp)]at I
  simp![oN,atI_2];exact#[bj (by decide),#[_,f,I]]
 |true=>
  rw[Z,if_pos rfl]at I;simp![oN,atI_1,atI_2,↓aN]
  refine ce (λxs aaQ U M'=>∃n1 n2 S,names=n1++n2/\xs=n2.map D.str/\aaQ=n1.map (λx=>D.int (nm (dB c names rows nums).2.nums x))/\U=[S,ap (.ref k.a)]/\M'=lM k c (dB c names rows nums).2 M)
   (λ_ _ _ _ _=>aO) ?_ ?_ ?_ _ _ _ _ #[[],names,bb,rfl,rfl,rfl,rfl,rfl]
  .rintro aaQ U M' ⟨n1,n2,S,B,G,rfl,rfl,rfl⟩ q X
   have:n2=[]:=by cases n2 with|nil=>rfl|cons _ _=>simp at G
   subst this;have en:n1=names:=by simpa using B.symm
   subst en;simp![Mem.upd_del,au X];exact#[bj (by decide),#[_,f,I]]
  .rintro x xs aaQ U M' ⟨n1,n2,S,B,G,rfl,rfl,rfl⟩ N hN _
   cases n2 with
   |nil=>simp at G
   |cons y n2=>
    simp only[TB,UY]at G;obtain⟨rfl,rfl⟩:=G;have hy:=(hn.at (x:=y)<|by rw[B];simp).1
    have P:n1.length+n2.length+1=names.length:=by rw[B];simp;lia
    simp![oN,nr,atI_0,cy,hy,UK];exact hN _ _ _ (by rw[Tz];exact g7 (by lia)) #[n1++[y],n2,_,by rw[B];simp,rfl,by simp,rfl,rfl]
  .rintro x xs aaQ U M' ⟨n1,n2,S,B,G,rfl,rfl,rfl⟩
   have P:n1.length+n2.length=names.length:=by rw[B];simp
   rw[Tz];exact g7 (by lia)
theorem ka{b:BxQ EE λd M'=>frzT d M' Q}(p:PlOk c names rows nums)(h:Q (xm names<|dB c names rows nums) M):
  calls (kf ad) EE [aW c names rows mk,bJ nums c.pieces,.int (c.most:Nat)] M (λd M'=>frzT d M' Q) b:=by
 refine ao λQ' E' B _=>uW p λl f=>B _ _ ?_;unfold xm dA at h;unfold dA;cases e:(dB c _ _ _).1 with
 |true=>
  rw[e]at h;rw[if_pos rfl];simp![Mem.upd_del,au f];exact h
 |false=>
  rw[e]at h;rw[if_neg (by simp)]
  simp![Mem.upd_del,au f];exact h
theorem whT(B:∀K:Bool->Mem->Prop,K true M->e U M K)(h:f { D' with nx:=cU e f D' p n,ct:=cU e f D' p n,bk:=D'.nx } U M):cU e f D' p (n+1) U M:=by
 unfold cU
 simp_all
theorem whF(B:∀K:Bool->Mem->Prop,K cp M->e U M K)(h:D'.nx U M):cU e f D' p (n+1) U M:=by
 unfold cU
 simp_all
theorem bZ{xs:List D}(e:M p=bb)(h:Q (.lst xs) M):frz (.ref p) (M.upd p<|.lst xs) Q:=by
 simp_arith! only[frz,Mem.upd_same,Mem.upd_del,au e]
 exact h
section
variable{s:Sta}
def aF(C:Cse)(s t:Sta):List aC:=(eD C).filter λk=>decide (aH C s k≠aH C t k)
theorem wJ(o:C.Ok)(h:∀p,M p=bb->Q (.ref p) (M.upd p<|.lst<|(eD C).map kD)):vO ad [C.d] M Q E:=by
 have l1:=o.l1;have few:=o.few;rw[SH];unfold Ap Cse.d;simp![atI_1,atI_2];intro H f;simp only[Mem.upd_del,au f];refine#[by lia,λI G=>?_]
 simp[au G];refine#[bj (by simp[cY];lia),λB F=>ak ?_]
 have:=h B F;have e:(eD C).map kD=C.names.map D.str++cY 0 (V7 C.many):=by simp[eD];congr 1;exact Uw λi _=>by simp[kD]
 rw[e]at this;exact this
theorem Fe(o:C.Ok)(H:SOk C s)(I:SOk C t)(h:∀p,M p=bb->Q (.ref p) (M.upd p<|.lst<|(aF C s t).map kD)):yY ad [C.d,s.d,t.d] M Q E:=by
 have l1:=o.l1;have few:=o.few;have J:(eD C).length=C.names.length+C.many:=by simp[eD]
 rw[T6];unfold zp
 simp_arith! only[aA,aN,bM,am,aj,aa,ac,af,Tu,dt]
 refine#[rfl,ao λQ' E' G _=>wJ o λp f=>G _ _ (bZ f ?_)]
 simp_arith! only[aI,br,bi,TB,Ut,TY,TU,Tu,dt,UD]
 refine dh (λd=>match cN d with|some k=>decide (aH C s k≠aH C t k)|none=>cp) id aO (by simp;lia) (λx F K q=>?_) (λx F _ K q=>q) ?_
 .obtain⟨k,B,rfl⟩:=TM.mp F
  simp_arith! only[al,ai,am,aj,aa,ac,af,Tu,dt]
  refine#[rfl,aL (λ_ _ q=>eA o H B q) ?_];refine#[rfl,aL (λ_ _ q=>eA o I B q) ?_];show bX 60 (.int _)=true/\bX 60 (.int _)=true/\_;refine#[rfl,rfl,?_];have e:cN (kD k)=ap k:=by cases k<;>rfl
  simp only[e]at q;simpa [pP,dv,aR] using q
 .intro p f
  have e:(((eD C).map kD).filter λd=>match cN d with|some k=>decide (aH C s k≠aH C t k)|none=>cp).map id=(aF C s t).map kD:=by
   rw[U6,UM];congr 1;refine Vl λk _=>?_;cases k<;>rfl
  rw[e];exact ak (h p f)
theorem oO{b:Int}(o:C.Ok)(p:SOk C s)(G:SOk C t)(B:C.mark s=.int a)(F:C.mark t=.int b)(e:a≠b)(h:Q (.tup [.int a,.int b]) M):uL ad [bg C s t] M Q E:=by
 rw[RW];unfold CA ui;generalize f:lN ad (aJ E)=K;simp![bg,atI_0,atI_1,atI_2,atI_3];refine qB o p (vY ?_);rw[B];simp![bg,atI_0,atI_1,atI_2,atI_3];refine qB o G (vY ?_);rw[F];simp![TQ];rw[<- f];unfold lN ut;simp![e,decide_false];exact#[bj (by decide),ak h]
theorem kO{b:Int}{m:D}(e:m=.non\/∃v,m=.int v)(h:Q (.str (if aR m (.int a)=true then "sound" else if aR m (.int b)=true then "faulty" else "other")) M):AC ad [.tup [.int a,.int b],m] M Q E:=by
 rcases e with rfl|⟨v,rfl⟩
 .simp![Lk,wm,atI_0,atI_1]
  exact ak h
 simp![Lk,wm,atI_0,atI_1];simp[aR]at h
 split
 .rename_i q;rw[if_pos q]at h;exact ak h
 rename_i q;rw[if_neg q]at h
 split
 .rename_i q;rw[if_pos q]at h;exact ak h
 rename_i q;rw[if_neg q]at h;exact ak h
end
section
variable{κ:Type}[DecidableEq κ]
theorem Kx{aaP:List (κ×D)}{k j:κ}{v:D}:(cJ (dU aaP k v) j).isSome=(decide (j=k)||(cJ aaP j).isSome):=by
 unfold dU
 split
 .rename_i h
  induction aaP with
  |nil=>simp at h
  |cons p r ih=>
   obtain⟨f,J⟩:=p;simp only[TB,cJ,Vv] at*
   by_cases e:f=k
   .subst e
    by_cases B:f=j
    .simp_all
    have G:¬j=f:=λz=>B z.symm;simp only[if_pos,B,decide_false,G,V8]
    by_cases H:(r.any λF=>decide (F.1=f))=true
    .have:=ih H
     simp only[G]at this;exact this
    have:r.map (λF=>if F.1=f then (F.1,v) else F)=r:=by
     conv=>rhs;rw[<- U6 r]
     refine Uw λq I=>?_;have:¬q.1=f:=λz=>H (List.any_eq_true.mpr #[q,I,by simp[z]])
     simp[this]
    rw[this]
   rw[if_neg e]
   by_cases B:f=j
   .simp_all
   simp only[B];exact ih (by simp_all)
 unfold cJ;rw[List.find?_append];cases q:aaP.find? _ with
 |some x=>simp
 |none=>
  by_cases e:j=k
  .subst e;simp
  have B:¬k=j:=λz=>e z.symm;simp[e,B]
theorem mO{aaP:List (κ×D)}{j:κ}:∀{a0:List (κ×D)},(cJ (aaP.foldl (λa p=>dU a p.1 p.2) a0) j).isSome=(decide (j∈aaP.map (·.1))||(cJ a0 j).isSome):=by
 induction aaP with
 |nil=>simp
 |cons p r ih=>
  intro a0;rw[Va,ih,Kx,TB]
  by_cases e:j=p.1
  .simp[e]
  simp only[TK,e,false_or,decide_false,V8]
theorem qX{aaP:List (κ×D)}:∀{a0:List (κ×D)},(a0.map (·.1)++aaP.map (·.1)).Nodup->aaP.foldl (λa p=>dU a p.1 p.2) a0=a0++aaP:=by
 induction aaP with
 |nil=>simp
 |cons p r ih=>
  intro a0 h;have e:dU a0 p.1 p.2=a0++[p]:=by
   unfold dU;rw[if_neg];intro z;obtain⟨q,f,e⟩:=List.any_eq_true.mp z;exact(WL.mp h).2.2 _ (Uq f) _ Uu (by lia)
  simp_all
end
noncomputable def uD(u:List aC):List (aC×D):=u.map λk=>(k,D.bl true)
theorem rW:(uD u).map (·.1)=u:=by
 unfold uD;rw[Ud];exact U6 u
theorem lD:(cJ (uD u) k).isSome=decide (k∈u):=by
 have:=@mO _ _ (uD u) k []
 induction u with
 |nil=>rfl
 |cons a r ih=>
  unfold uD cJ;rw[TB,Vv]
  by_cases e:a=k
  .subst e;simp
  have f:¬k=a:=λz=>e z.symm;simp only[e,TK,f,false_or];exact ih (@mO _ _ _ k [] |>.trans (by rw[rW]))
theorem uO:qH (uD u) k=uD (u.filter λx=>decide (x≠k)):=by
 unfold qH uD;rw[UM];rfl
theorem j_:∀ks:List aC,vF (ks.map λk=>D.tup [kD k,.bl true])=ap (uD ks)
 |[]=>rfl
 |k::ks=>by
  have e:cN (kD k)=ap k:=by cases k<;>rfl
  simp[vF,e,j_ ks];rfl
theorem fG:cN (kD k)=ap k:=by cases k<;>rfl
theorem sf{a:cb}(h:M a=ap (.dK aaP)):jO M (kD k) (.ref a)=ap (cJ aaP k).isSome:=by
 unfold jO;have:aI M (.ref a)=none:=by simp_arith! only[aI,h]
 rw[this];unfold wa;simp only[h,fG]
theorem sk(o:C.Ok)(S:ks.length<=1000)(h:∀p,M p=bb->Q (.ref p) (M.upd p<|.lst<|((eD C).filter λk=>decide (k∈ks)).map kD)):zm ad [C.d,zn ks] M Q E:=by
 have l1:=o.l1;have few:=o.few;have X:(eD C).length=C.names.length+C.many:=by simp[eD]
 rw[Rg];unfold AG;generalize I:kZ ad (aJ E)=K;unfold zn
 simp_arith! only[ah,aq,bc,aa,am,aN,bM,ac,af,Tu,dt,aI,br,bi,TB,Ut,TY,TU]
 refine cC (λd=>.tup [d,.bl true]) aO (by simp;lia) (λx F K q=>?_) ?_
 .simp_arith! only[aS,aa,ac,dC,af,Tu,dt]
  exact#[bj (by simp),q]
 .intro p P
  refine bZ P ?_;have e:(ks.map kD).map (λd=>D.tup [d,.bl true])=ks.map λk=>D.tup [kD k,.bl true]:=by simp
  rw[e]
  simp_arith! only[af,gk,G2,c_,j_]
  refine#[trivial,by simp[uD];lia,λO H=>?_]
  simp only[ag,TQ];rw[<- I];unfold kZ
  simp_arith! only[aA,aN,bM,am,aj,aa,ac,af,Tu,dt]
  refine#[rfl,ao λQ' E' J _=>wJ o λW R=>J _ _ (bZ R ?_)]
  simp_arith! only[aI,br,bi,TB,Ut,TY,TU,Tu,dt,UD]
  refine dh (λd=>match cN d with|some k=>decide (k∈ks)|none=>cp) id aO (by simp;lia) (λx F K q=>?_) (λx F _ K q=>q) ?_
  .obtain⟨k,S,rfl⟩:=TM.mp F
   simp only[fG]at q
   simp_arith! only[al,ai,ac,Tu,dt,w8,sf (Mem.upd_same),mO,rW]
   simpa [cJ] using q
  .intro f B
   have e:(((eD C).map kD).filter λd=>match cN d with|some k=>decide (k∈ks)|none=>cp).map id=((eD C).filter λk=>decide (k∈ks)).map kD:=by
    rw[U6,UM];congr 1;refine Vl λk _=>?_;simp only[Function.comp,fG]
   rw[e];have n1:f≠O:=λz=>by rw[z,Mem.upd_same]at B;cases B
   rw[ae n1]at B;refine#[M.upd f (.lst<|((eD C).filter λk=>decide (k∈ks)).map kD),λb T e=>?_,h f B]
   by_cases G:b=f
   .subst G;rw[Mem.upd_same]at e ⊢;exact e
   .rw[ae G]at e ⊢
    rw[ae (λz=>by rw[z,H]at e;cases e)]
    exact e
noncomputable def fm:Rw->List Str
 |.pick _ y=>[y]
 |.two _ _ y z=>[y,z]
 |.ifr x _ _=>[x]
 |.again x _=>[x]
 |_=>[]
theorem mZ(B:eK names m many r)(h:∀p,M p=bb->Q (.ref p) (M.upd p<|.lst<|(fm r).map D.str)):z_ ad [r.d] M Q E:=by
 cases r with
 |put x k=>simp![pO,jh,Rw.d,atI_0];exact#[bj (by decide),λp e=>ak (h p e)]
 |take x i=>simp![pO,jh,Rw.d,atI_0];exact#[bj (by decide),λp e=>ak (h p e)]
 |pick x y=>simp![pO,jh,Rw.d,atI_0];exact λp e=>ak (h p e)
 |two w x y z=>
  obtain⟨f,_⟩:=B;rcases f with rfl|rfl|rfl|rfl<;>(simp![pO,jh,Rw.d,atI_0];exact λp e=>ak (h p e))
 |ifr x a b=>simp![pO,jh,Rw.d,atI_0,atI_1];exact#[bj (by decide),λp e=>ak (h p e)]
 |again x a=>simp![pO,jh,Rw.d,atI_0,atI_1];exact#[bj (by decide),λp e=>ak (h p e)]
structure Gk where
 a:cb
 dn:cb
 lp:cb
 du:cb
 h1:a≠dn
 h2:a≠lp
 h3:a≠du
 h4:dn≠lp
 h5:dn≠du
 h6:lp≠du
structure Gs where
 n:cM
 ps:List Int
 u:List aC
 td:List Rw
 left:Int
def pe:List Rw->D
 |[]=>.non
 |r::rs=>.tup [r.d,pe rs]
noncomputable def gF(k:Gk)(td:D)(left:Int):List (Str×D):=[("numbers",.ref k.dn),("pieces",.ref k.lp),("unsettled",.ref k.du),("todo",td),("left",.int left)]
def gM(ad:Ad)(k:Gk)(g:Gs)(M:Mem):Mem:=(((M.upd k.a<|.ins ad.C_Going<|gF k (pe g.td) g.left).upd k.dn<|.dK<|eI g.n).upd k.lp<|.lst<|g.ps.map D.int).upd k.du (.dK<|uD g.u)
theorem gJ:gM ad k g M k.du=ap (.dK<|uD g.u):=by unfold gM;simp_all
theorem qu:gM ad k g M k.lp=ap (.lst<|g.ps.map D.int):=by unfold gM;rw[ae k.h6,Mem.upd_same]
theorem gH:gM ad k g M k.dn=ap (.dK<|eI g.n):=by unfold gM;rw[ae k.h5,ae k.h4,Mem.upd_same]
theorem cP:gM ad k g M k.a=ap (.ins ad.C_Going<|gF k (pe g.td) g.left):=by unfold gM;rw[ae k.h3,ae k.h2,ae k.h1,Mem.upd_same]
theorem mV(f:b≠k.a)(p:b≠k.dn)(h:b≠k.lp)(e:b≠k.du):gM ad k g M b=M b:=by
 unfold gM;rw[ae e,ae h,ae p,ae f]
structure Gk.Fr(k:Gk)(M:Mem):Prop where
 a:M k.a=bb
 dn:M k.dn=bb
 lp:M k.lp=bb
 du:M k.du=bb
theorem cw(h:gM ad k g M b=bb):b≠k.a/\b≠k.dn/\b≠k.lp/\b≠k.du/\M b=none:=by
 have e:b≠k.a:=λz=>by rw[z,cP]at h;cases h
 have p:b≠k.dn:=λz=>by rw[z,gH]at h;cases h
 have f:b≠k.lp:=λz=>by rw[z,qu]at h;cases h
 have B:b≠k.du:=λz=>by rw[z,gJ]at h;cases h
 rw[mV e p f B]at h;trivial
theorem eB(f:k.Fr M)(e:M b=ap o):gM ad k g M b=ap o:=by
 rw[mV (λz=>by rw[z,f.a]at e;cases e) (λz=>by rw[z,f.dn]at e;cases e) (λz=>by rw[z,f.lp]at e;cases e) (λz=>by rw[z,f.du]at e;cases e)]
 exact e
theorem uf(f:k.Fr M)(e:M b=ap o):(gM ad k g M).upd b h=gM ad k g (M.upd b h):=by
 have n1:k.a≠b:=λz=>by rw[<- z,f.a]at e;cases e
 have n2:k.dn≠b:=λz=>by rw[<- z,f.dn]at e;cases e
 have p:k.lp≠b:=λz=>by rw[<- z,f.lp]at e;cases e
 unfold gM;rw[aw (λz=>by rw[<- z,f.du]at e;cases e),aw p,aw n2,aw n1]
theorem uM:(gM ad k g M).upd k.a (.ins ad.C_Going<|gF k (pe td) left)=gM ad k { g with td:=td,left:=left } M:=by
 unfold gM;rw[aw (Uk k.h3),aw (Uk k.h2),aw (Uk k.h1),Mem.upd_upd]
theorem LC{n:cM}:(gM ad k g M).upd k.dn (.dK<|eI n)=gM ad k { g with n:=n } M:=by
 unfold gM;rw[aw (Uk k.h5),aw (Uk k.h4),Mem.upd_upd]
theorem SL:(gM ad k g M).upd k.lp (.lst<|ps.map D.int)=gM ad k { g with ps:=ps } M:=by
 unfold gM;rw[aw (Uk k.h6),Mem.upd_upd]
theorem MZ:(gM ad k g M).upd k.du (.dK<|uD u)=gM ad k { g with u:=u } M:=by
 unfold gM
 simp_all
theorem Mw:Ux ("numbers":Str) (gF k td left)=ap (.ref k.dn):=rfl
theorem gf1:Ux ("pieces":Str) (gF k td left)=ap (.ref k.lp):=rfl
theorem MH:Ux ("unsettled":Str) (gF k td left)=ap (.ref k.du):=rfl
theorem Ow:Ux ("todo":Str) (gF k td left)=ap td:=rfl
theorem gf4:Ux ("left":Str) (gF k td left)=ap (.int left):=rfl
theorem gfs:Ux ("settled":Str) (gF k td left)=none:=rfl
theorem OU:bR "todo" d (gF k td left)=gF k d left:=rfl
theorem Q_:bR "left" (.int v) (gF k td left)=gF k td v:=rfl
theorem gfl:(gF k td left).length=5:=rfl
theorem fg(h:Q (pe (rs++td)) M):nQ ad [.tup (aE rs),pe td] M Q E:=by
 rw[QP];unfold Cg
 simp_arith! only[ah,eE,OG,aa,ac,af,Tu,dt]
 refine cS (λF U N=>∃(c:Option D)(us p:List Rw),rs=us++p/\F=(aE us).reverse/\U=[ap (.tup<|aE rs),ap (pe (p++td)),c]/\N=M) (λ_ _ _ _=>aO) ?_ ?_ _ _ _ #[bb,rs,[],by simp,rfl,rfl,rfl]
 .rintro U N ⟨c,us,p,B,f,rfl,rfl⟩
  have:us=[]:=by
   cases us with
   |nil=>rfl
   |cons a b=>rw[aE]at f;simp at f
  subst this;rw[TU]at B;subst B
  simp_arith! only[aA,ac,Tu,dt]
  exact ak h
 .rintro y F U N ⟨c,us,p,B,f,rfl,rfl⟩ D' G _ _ _
  obtain⟨e,r,rfl⟩:∃e r,us=e++[r]:=by
   rcases List.eq_nil_or_concat us with z|⟨e,r,z⟩
   .subst z;rw[aE]at f;simp at f
   .exact#[e,r,by simpa using z]
  rw[hV,Wh,List.reverse_append]at f;simp only[TB,Ut,List.reverse_cons,List.reverse_nil,TU,TY,UY]at f;obtain⟨rfl,rfl⟩:=f;simp only[ag,TQ];unfold uw
  simp_arith! only[aq,aS,aa,ac,af,ag,TQ,Tu,dt]
  exact#[bj (by simp),G _ _ #[_,e,r::p,by simp[B],by rw[hV],rfl,rfl]]
structure GOk(C:Cse)(g:Gs):Prop where
 n:NOk C.names C.w g.n
 lp:g.ps.length=C.many
 rp:∀v∈g.ps,0<=v/\v<C.w
 td:bf C.names C.w C.many g.td
noncomputable def Gs.cf(C:Cse)(g:Gs):Cf:=#[C.w,g.ps,C.most]
theorem GOk.pd(k:GOk C g):C.d=aW (g.cf C) C.names C.rows C.mn:=by unfold Cse.d aW Gs.cf;rw[k.lp]
theorem GOk.co(k:GOk C g)(o:C.Ok):COk (g.cf C):=#[o.m2,o.m1,k.rp,by show g.ps.length<=_;rw[k.lp];have:=o.few;lia,o.most]
def Md(C:Cse)(n:cM):Rw->Option Int
 |.take _ i=>ap i
 |.pick _ y=>ap (nm n y % (C.many:Int))
 |_=>bb
noncomputable def N9(o:Option Int):D:=match o with
 |some i=>.int i
 |none=>.non
theorem gY(h:eK names m many r)(e:bo r=true):cK names m many r:=by
 cases r<;>first|exact h|cases e
theorem kx(k:GOk C g)(F:eK C.names C.w C.many r)(B:M p=ap (.dK<|eI g.n))(h:Q (N9<|Md C g.n r) M):ow ad [C.d,.ref p,r.d] M Q E:=by
 cases f:bo r with
 |true=>
  rw[k.pd];refine cE k.n (by have:=gY F f;rw[<- k.lp]at this;exact this) B ?_
  have e:((g.cf C).pieces.length:Int)=C.many:=by show (g.ps.length:Int)=_;rw[k.lp]
  cases r with
  |pick x y=>
   show Q (.int _) M;rw[e];exact h
  |_=>exact h
 |false=>
  cases r with
  |ifr x a b=>simp![qE,i_,Cse.d,Rw.d,atI_0];exact ak h
  |again x a=>simp![qE,i_,Rw.d,atI_0];exact ak h
  |_=>cases f
theorem xC(o:C.Ok)(k:GOk C g)(T:eK C.names C.w C.many r)(P:bo r=true)(X:M O=ap (.dK<|eI g.n))(W:M lp=ap (.lst<|g.ps.map D.int))(h:Q (.int<|num (g.cf C) g.n r) M):
  on ad [C.d,.ref O,.ref lp,r.d] M Q E:=by
 have hm1:=o.m1;have hm2:=o.m2;have hc:=k.co o;have f:=gY T P;have H:=k.lp;have B:∀i:Nat,i<C.many->(g.ps.map D.int)[i]?=ap (.int<|(g.ps[i]?).getD 0):=λi hi=>by
  rw[TJ,Tx (by lia)];rfl
 have p:∀{K:DK},K (N9<|Md C g.n r) M->∀Q' E',(∀d M,K d M->Q' d M)->ow ad [C.d,.ref O,r.d] M Q' E':=λ{K} q Q' E' e=>kx k T X (e _ _ q);have F:=@xM C;cases r with
 |put x v=>
  simp![kj,gB,F,Rw.d,atI_0,atI_2];exact ak h
 |take x i=>
  obtain⟨S,J,h1⟩:=f;have I:=B i.toNat (by lia)
  rw[Rw.d]at p ⊢;simp![kj,gB,atI_0,atI_2];refine ao λQ' E' e _=>p (K:=λd M=>_) ?_ Q' E' e;simp![Md,N9,W,bw J,I];exact ak h
 |pick x y=>
  obtain⟨S,R,J⟩:=f;have g0:=Vm (nm g.n y) (show (C.many:Int)≠0 by lia)
  have g1:=U3 (nm g.n y) J;have I:=B (nm g.n y % (C.many:Int)).toNat (by lia)
  have e2:num (g.cf C) g.n (.pick x y)=(g.ps[(nm g.n y % (C.many:Int)).toNat]?).getD 0:=by show (g.ps[(nm g.n y % (g.ps.length:Int)).toNat]?).getD 0=_;rw[H]
  rw[e2]at h;rw[Rw.d]at p ⊢;simp![kj,gB,atI_0,atI_2];refine ao λQ' E' e _=>p (K:=λd M=>_) ?_ Q' E' e;simp![Md,N9,W,bw g0,I];exact ak h
 |two w x y z=>
  obtain⟨hw,S,R,Z⟩:=f;have Y:=k.n.at R;have a2:=k.n.at Z;have G:((w=VW "put")=False):=by rcases hw with rfl|rfl|rfl|rfl<;>exact eq_false (by decide +kernel)
  rw[Rw.d]at p ⊢;simp![kj,gB,atI_0,atI_2,G];refine ao λQ' E' e _=>p (K:=λd M=>_) ?_ Q' E' e;simp![Md,N9,F,atI_0,atI_2,atI_3,X,cy,Y.1,a2.1,UK];exact aL (d:=.int (num (g.cf C) g.n<|.two w x y z)) (λ_ _ q=>km (by lia) (by lia) (by lia) q) (ak h)
 |ifr=>cases P
 |again=>cases P
def fU(C:Cse)(g:Gs)(r:Rw):Option aC:=
 if g.u=[] then bb else match (eD C).filter λk=>decide (k∈((fm r).filter λx=>decide ((Us x:aC)∈g.u)).map Us) with
  |k::_=>ap k
  |[]=>match Md C g.n r with
   |some i=>if (Vi i:aC)∈g.u then ap (.inl i) else bb
   |none=>bb
def El:Option aC->D
 |some k=>kD k
 |none=>.non
theorem zQ(h:eK names m many r):∀x∈fm r,x∈names:=by
 cases r with
 |pick x y=>intro z e;simp[fm]at e;subst e;exact h.2.1
 |two w x y z=>intro v f;simp[fm]at f;rcases f with rfl|rfl;exact h.2.2.1;exact h.2.2.2
 |ifr x a b=>intro z e;simp[fm]at e;subst e;exact h.1
 |again x a=>intro z e;simp[fm]at e;subst e;exact h.1
 |_=>simp[fm]
theorem FA:(fm r).length<=2:=by cases r<;>simp[fm]
theorem Oj:(uD u).isEmpty=u.isEmpty:=by cases u<;>rfl
theorem Ey:jO (gM ad k g M) (.str x) (.ref k.du)=ap (decide ((Us x:aC)∈g.u)):=by
 have:=sf (k:=.inr x) (gJ (ad:=ad) (k:=k) (g:=g) (M:=M));rw[lD]at this;exact this
theorem tZ(o:C.Ok)(ok:GOk C g)(R:eK C.names C.w C.many r)(h:Q (El<|fU C g r) (gM ad k g M)):AE ad [C.d,.ref k.a,r.d] (gM ad k g M) Q E:=by
 have H:=zQ R;have P:=FA (r:=r);rw[So];unfold zL
 simp_arith! only[ah,aG,gu,cO,aV,ac,Tu,dt,cP,MH,Hd,gJ,Oj]
 refine#[trivial,?_];unfold fU at h;cases S:g.u with
 |nil=>
  rw[if_pos S]at h;simp only[Xy,VN,W9,if_true,aA,dC];exact ak h
 |cons u0 ur=>
  rw[if_neg (by rw[S];simp)]at h
  rw[if_neg (by simp)]
  simp only[aB];unfold tI
  simp_arith! only[ah,bO,cV,aN,bM,am,aj,aa,ac,af,Tu,dt]
  refine#[rfl,ao λQ' E' I _=>mZ R λp f=>I _ _ (bZ f ?_)]
  simp_arith! only[aI,br,bi,TB,Ut,TY,TU,Tu,dt,UD]
  refine dh (λd=>match d with|.str x=>decide ((Us x:aC)∈g.u)|_=>cp) id aO (by simp;lia) (λx B K q=>?_) (λx B _ K q=>q) ?_
  .obtain⟨y,hy,rfl⟩:=TM.mp B
   simp_arith! only[al,ai,ac,aV,Tu,dt,cP,MH,w8,Ey]
   exact#[trivial,q]
  .intro p f
   generalize O:((fm r).filter λx=>decide ((Us x:aC)∈g.u))=fnd at h;have e:(((fm r).map D.str).filter λd=>match d with|.str x=>decide ((Us x:aC)∈g.u)|_=>cp).map id=(fnd.map Us).map kD:=by
    rw[U6,UM,<- O,Ud];rfl
   have hfn:∀x∈fnd,x∈C.names:=λx B=>by rw[<- O]at B;exact H x (TN.mp B).1
   have Y:fnd.length<=2:=by rw[<- O];exact TR (Uy _ _) P
   rw[e]
   simp_arith! only[dF,TQ,Tu,dt]
   refine bZ (Q:=λd M'=>(lV ad<|aJ E) _ [ap C.d,ap (.ref k.a),ap r.d,ap d,bb] M') f ?_;unfold lV
   simp_arith! only[ah,aG,cO,ac,Tu,dt,Hd]
   cases F:fnd with
   |nil=>
    have Z:((eD C).filter λk=>decide (k∈(fnd.map Us:List aC)))=[]:=by rw[F];simp
    rw[Z]at h;simp only[Ut,Xy,VN];rw[if_neg (by simp)]
    simp only[aB];unfold rG tz
    simp_arith! only[ah,aq,am,aj,aa,ac,af,aV,Tu,dt,cP,Mw]
    refine#[trivial,rfl,aL (λ_ _ q=>kx ok R gH q) ?_];cases f:Md C g.n r with
    |none=>
     simp only[f]at h
     simp_arith! only[N9,frz,ag,TQ,aA,nv,al,ai,ac,dC,aV,Tu,dt,cP,MH,FY,AD,gJ]
     refine#[trivial,?_];rw[if_neg (by simp)]
     exact ak h
    |some i=>
     simp only[f]at h;have J:=sf (k:=.inl i) (gJ (ad:=ad) (k:=k) (g:=g) (M:=M));rw[lD]at J;simp only[kD]at J
     simp_arith! only[N9,frz,ag,TQ,aA,nv,al,ai,ac,dC,aV,Tu,dt,cP,MH,FY,AD,J]
     refine#[trivial,?_]
     by_cases c:(Vi i:aC)∈g.u
     .rw[if_pos c]at h
      rw[if_pos (by simpa using c)]
      exact ak h
     .rw[if_neg c]at h
      rw[if_neg (by simpa using c)]
      exact ak h
   |cons f0 fr=>
    have G:∃T W,((eD C).filter λk=>decide (k∈(fnd.map Us:List aC)))=T::W:=by
     have:(Us f0:aC)∈(eD C).filter λk=>decide (k∈(fnd.map Us:List aC)):=by
      refine TN.mpr #[Wb _ (Uq<|hfn f0<|by rw[F];simp),?_]
      rw[F];simp
     cases q:(eD C).filter λk=>decide (k∈(fnd.map Us:List aC)) with
     |nil=>rw[q]at this;cases this
     |cons a b=>exact#[a,b,rfl]
    obtain⟨T,W,X⟩:=G;rw[X]at h;simp only at h;have hne:((f0::fr).map (Us:Str->aC)).map kD≠[]:=by simp
    rw[if_pos (by simp)]
    unfold rg
    simp_arith! only[aA,ai,am,aj,aa,ac,af,dC,Tu,dt]
    refine#[rfl,ao λQ' E' I _=>sk (ks:=(f0::fr).map Us) o (by rw[<- F,Tz];lia) λp f=>I _ _ (bZ f ?_)]
    rw[<- F,X]
    simp_arith! only[av,aI,TB,atI_0,dt]
    exact ak h
theorem okRs_app{names:aaX}{m many:Int}:∀{a b:List Rw},bf names m many (a++b)↔bf names m many a/\bf names m many b
 |[],b=>by simp[bf]
 |r::a,b=>by simp[bf,okRs_app,and_assoc]
def pC(C:Cse)(g:Gs)(rest:List Rw):Rw->Gs
 |.ifr x a b=>{ g with left:=g.left-1,td:=(if nm g.n x=0 then b else a)++rest }
 |.again x a=>{ g with left:=g.left-1,td:=if nm g.n x=0 then rest else a++(.again x a::rest) }
 |r=>{ g with left:=g.left-1,td:=rest,n:=sN g.n (iF r) (num (g.cf C) g.n r),u:=g.u.filter λk=>decide (k≠.inr (iF r)) }
theorem nS:(pC C g rest r).left=g.left-1:=by cases r<;>rfl
theorem EB(o:C.Ok)(ok:GOk C g)(f:eK C.names C.w C.many r)(e:bo r=true):0<=num (g.cf C) g.n r/\num (g.cf C) g.n r<C.w:=
 Cw (ok.co o) ok.n (by have:=gY f e;rw[<- ok.lp]at this;exact this)
theorem xa(o:C.Ok)(ok:GOk C g)(e:g.td=r::rest):GOk C (pC C g rest r):=by
 have h:=ok.td;rw[e]at h;obtain⟨p,f⟩:=h;have B:bo r=true->GOk C { g with left:=g.left-1,td:=rest,n:=sN _ (iF r) _,u:=g.u.filter λk=>decide (k≠.inr (iF r)) }:=λF=>
  #[HK (c:=g.cf C) ok.n (EB o ok p F),ok.lp,ok.rp,f]
 cases r with
 |ifr x a b=>
  refine#[ok.n,ok.lp,ok.rp,okRs_app.mpr #[?_,f]]
  split
  .exact p.2.2
  exact p.2.1
 |again x a=>
  refine#[ok.n,ok.lp,ok.rp,?_];show bf _ _ _ (if nm _ x=0 then rest else a++(.again x a::rest))
  split
  .exact f
  exact okRs_app.mpr #[p.2,p,f]
 |_=>exact B rfl
theorem ye(h:cK names m many r):iF r∈names:=by
 cases r with
 |two w x y z=>exact h.2.1
 |ifr=>exact h.elim
 |again=>exact h.elim
 |_=>exact h.1
theorem Fi:QE (gM ad k g M) (.ref k.du)=true:=by simp[QE,gJ]
theorem Ks(h:k∉u):u.filter (λx=>decide (x≠k))=u:=YQ.mpr (by lia)
theorem Om(o:C.Ok)(ok:GOk C g)(p:eK C.names C.w C.many r)(f:bo r=true)(h:D'.nx [ap C.d,ap (.ref k.a),ap r.d] (gM ad k { g with n:=sN g.n (iF r) (num (g.cf C) g.n r),u:=g.u.filter λk=>decide (k≠.inr (iF r)) } M)):
  ie ad EE D' [ap C.d,ap (.ref k.a),ap r.d] (gM ad k g M):=by
 have e:∀{M:Mem}{K:DK},K (.str<|iF r) M->av r.d (.int 1) M K:=λq=>by
  cases r<;>assumption
 unfold ie tP
 simp_arith! only[ah,aq,am,aj,aa,ac,aV,Tu,dt,cP,Mw]
 refine#[trivial,trivial,rfl,aL (λ_ _ q=>xC o ok p f gH qu q) ?_]
 simp_arith! only[frz,cZ,aV,ai,ac,dC,Tu,dt,cP,Mw]
 refine#[trivial,e ?_];have B:(eI g.n).length<sizeLine:=by
  have G:(eI g.n).length=C.names.length:=by rw[<- ok.n.keys];simp[eI]
  have:=o.l1;exact g7 (by lia)
 simp_arith! only[sW,gH,cN,lx (by rw[ok.n.keys];exact(ye<|gY p f)),LC]
 refine#[B,?_]
 simp_arith! only[bh,ER,aV,ai,ac,dC,Tu,dt,cP,MH,Fi]
 refine#[trivial,trivial,e ?_]
 simp_arith! only[gJ,cN]
 cases H:cJ (uD _) _ with
 |some v=>simp only[GW,uO,MZ];exact h
 |none=>
  have F:(Us<|iF r)∉g.u:=λz=>by
   have:=lD (u:=g.u) (k:=.inr (iF r))
   simp_all
  rw[Ks F]at h;exact h
theorem n_{rest:List D}(f:U[2]?=ap (ap<|.tup (.str w::rest)))(q:K (decide (w=e)) M):al (ai cc (ai av (ac 2)<|dC<|.int 0)<|dC<|.str e) U M K:=by
 simp_arith! only[al,ai,ac,f]
 trivial
theorem Du(h:eK C.names C.w C.many r)(e:bo r=true):∃w rest,r.d=.tup (.str w::rest)/\decide (w=("if":Str))=cp/\decide (w=("again":Str))=false:=by
 cases r with
 |ifr=>cases e
 |again=>cases e
 |two w x y z=>
  obtain⟨f,_⟩:=h;refine#[_,_,rfl,?_];rcases f with rfl|rfl|rfl|rfl<;>exact#[by rfl,by rfl]
 |_=>exact#[_,_,rfl,by rfl,by rfl]
theorem xG(o:C.Ok)(ok:GOk C g)(e:g.td=r::rest)(h:Q .non (gM ad k (pC C g rest r) M)):zR ad [C.d,.ref k.a,r.d] (gM ad k g M) Q E:=by
 have I:=ok.td;rw[e]at I;obtain⟨J,F⟩:=I;have B:GOk C { g with td:=rest,left:=g.left-1 }:=#[ok.n,ok.lp,ok.rp,F];rw[QL];unfold Cy rb;have P:pe g.td=.tup [r.d,pe rest]:=by rw[e];rfl
 have X:=uM (ad:=ad) (k:=k) (g:=g) (M:=M) (td:=g.td) (left:=g.left-1)
 simp_arith! only[ah,rf,cH,aV,ai,ac,dC,Tu,dt,cP,gf4,gfl,Q_,X]
 refine#[trivial,by decide,trivial,trivial,?_]
 have Y:=uM (ad:=ad) (k:=k) (g:={ g with left:=g.left-1 }) (M:=M) (td:=rest) (left:=g.left-1);have G:=uM (ad:=ad) (k:=k) (g:=g) (M:=M) (td:=rest) (left:=g.left-1)
 simp_arith! only[Ow,gf4,Q_,Mem.upd_same,Mem.upd_upd,G,P,dC,ac,av,aI,atI_1,Tu,dt,cP,gfl,OU,Y]
 refine#[trivial,by decide,?_]
 have H:bo r=true->∀{D':DEnds}{EE:DX},D'.nx [ap C.d,ap (.ref k.a),ap r.d] (gM ad k (pC C g rest r) M)->ie ad EE D' [ap C.d,ap (.ref k.a),ap r.d] (gM ad k { g with td:=rest,left:=g.left-1 } M):=λf D' EE q=>Om o B J f (by
  cases r with
  |ifr=>cases f
  |again=>cases f
  |_=>exact q)
 have p:bo r=true->(ie ad<|aJ E) { nx:=λ_ M'=>drp Q .non M',rt:=drp Q } [ap C.d,ap (.ref k.a),ap r.d] (gM ad k { g with td:=rest,left:=g.left-1 } M):=λf=>by
  exact H f (ak h)
 by_cases f:bo r=true
 .obtain⟨w,Z,W,n1,n2⟩:=Du J f
  have:=p f;rw[W]at this ⊢;unfold iP aG;refine n_ rfl ?_;simp only[n1,Ue,if_false];unfold li aG;refine n_ rfl ?_;simp only[n2,Ue,if_false];exact this
 cases r with
 |ifr x a b=>
  have R:x∈C.names:=J.1;have O:=(B.n.at R).1;have G:=λl=>uM (ad:=ad) (k:=k) (g:={ g with td:=rest,left:=g.left-1 }) (M:=M) (td:=l) (left:=g.left-1);have fin:∀l:List Rw,(pC C g rest<|.ifr x a b).td=l++rest->calls (nQ ad) (aJ E) [.tup (aE l),pe rest] (gM ad k { g with td:=rest,left:=g.left-1 } M) (λd M'=>frz d M' λy M1=>match M1 k.a with
    |some (MO.ins C' fs)=>C'=ad.C_Going/\fs.length<1000/\drp Q D.non (M1.upd k.a<|MO.ins ad.C_Going<|bR (VW "todo") y fs)
    |_=>False) #[]:=λl T=>by
   refine aL (λ_ _ q=>fg q) ?_;have S:∀{l:List Rw}{M:Mem}{Q:DK},Q (pe l) M->frz (pe l) M Q:=λ{l} {M} {Q} q=>by cases l<;>exact q
   refine S ?_;simp only[cP,gfl,OU,G];rw[<- T];exact#[trivial,by decide,ak h]
  simp only[Rw.d];unfold iP aG;refine n_ rfl ?_;simp only[decide_true,if_true];unfold sV;simp![atI_1,atI_2,atI_3,cP,Mw,Ow,gH,cy,O,UK]
  by_cases c:nm g.n x=0
  .simp only[c,decide_true,if_true]
   exact fin b (by simp only[pC,c,if_true])
  .simp only[c,decide_false]
   exact fin a (by simp only[pC,c,if_false])
 |again x a=>
  have R:x∈C.names:=J.1;have O:=(B.n.at R).1;have G:=λl=>uM (ad:=ad) (k:=k) (g:={ g with td:=rest,left:=g.left-1 }) (M:=M) (td:=l) (left:=g.left-1);have n1:decide (("again":Str)=("if":Str))=false:=by decide +kernel
  simp only[Rw.d];unfold iP aG;refine n_ rfl ?_;simp only[n1,Ue,if_false];unfold li aG;refine n_ rfl ?_;simp only[decide_true,if_true];unfold sS;simp![atI_1,atI_2,cP,Mw,Ow,gH,cy,O,UK]
  by_cases c:nm g.n x=0
  .simp only[c,decide_true,VN]
   refine ak ?_;have:pC C g rest (.again x a)={ g with td:=rest,left:=g.left-1 }:=by simp only[pC,c,if_true]
   rw[<- this];exact h
  .simp only[c,decide_false,W9,if_true]
   refine#[bj (by decide),?_]
   refine aL (λ_ _ q=>fg (td:=.again x a::rest) q) ?_;have S:∀{l:List Rw}{M:Mem}{Q:DK},Q (pe l) M->frz (pe l) M Q:=λ{l} {M} {Q} q=>by cases l<;>exact q
   refine S ?_
   simp_arith! only[ac,Tu,dt,cP,gfl,OU,G]
   have:pC C g rest (.again x a)={ g with td:=a++(.again x a::rest),left:=g.left-1 }:=by simp only[pC,c,if_false]
   rw[<- this];exact#[trivial,by decide,ak h]
 |_=>exact absurd rfl f
def ci(C:Cse):Nat->Gs->Option aC×Gs
 |0,g=>(bb,g)
 |f+1,g=>match g.td with
  |[]=>(if (Us C.mn:aC)∈g.u then ap (.inr C.mn) else bb,g)
  |r::rest=>if g.left<=0 then (bb,g) else match fU C g r with
   |some k=>(ap k,g)
   |none=>ci C f (pC C g rest r)
section
variable{k:Gk}
theorem HD:gw (pe td)=td.isEmpty:=by cases td<;>rfl
theorem tR(o:C.Ok):∀(f:Nat)(g:Gs),GOk C g->GOk C (ci C f g).2
 |0,g,h=>h
 |f+1,g,h=>by
  unfold ci;cases e:g.td with
  |nil=>exact h
  |cons r rest=>
   dsimp only
   split
   .exact h
   cases a:fU C g r with
   |some k=>exact h
   |none=>exact tR o f _ (xa o h e)
theorem IE(o:C.Ok)(ok:GOk C g)(e:g.td=r::rest)(R:g.left<=0->D'.rt .non (gM ad k g M))(S:¬g.left<=0->∀q,fU C g r=ap q->D'.rt (kD q) (gM ad k g M))(h3:¬g.left<=0->fU C g r=bb->∀F G,D'.nx [ap C.d,ap (.ref k.a),F,G] (gM ad k (pC C g rest r) M)):ic ad EE D' [ap C.d,ap (.ref k.a),F,G] (gM ad k g M):=by
 have h:=ok.td;rw[e]at h;obtain⟨O,B⟩:=h;have p:pe g.td=.tup [r.d,pe rest]:=by rw[e];rfl
 unfold ic
 simp_arith! only[ah,aG,al,ai,aV,ac,dC,oLe,oo,Tu,dt,cP,gf4]
 refine#[trivial,?_]
 by_cases f:g.left<=0
 .rw[if_pos (by simpa using f)]
  exact R f
 .rw[if_neg (by simpa using f)]
  simp only[aB];unfold ue rS
  simp_arith! only[ah,aq,ai,aV,ac,dC,Tu,dt,cP,Ow,p,av,aI,atI_0,ag,TQ,am,aj,aa,af]
  refine#[trivial,rfl,aL (λ_ _ q=>tZ o ok O q) ?_];have I:∀{q:Option aC}{M:Mem}{Q:DK},Q (El q) M->frz (El q) M Q:=λ{q} {M} {Q} z=>by
   cases q with
   |none=>exact z
   |some k=>cases k<;>exact z
  refine I ?_;unfold ua sR;have P:gw (El<|fU C g r)=(fU C g r).isNone:=by
   cases fU C g r with
   |none=>rfl
   |some k=>cases k<;>rfl
  simp_arith! only[ag,TQ,ah,aG,al,ai,ac,dC,fD,Tu,dt,P]
  cases H:fU C g r with
  |some q=>
   rw[if_pos (by simp)]
   exact S f q H
  |none=>
   rw[if_neg (by simp)]
   simp_arith! only[aB,bh,aj,aa,ac,af,Tu,dt]
   exact#[rfl,ao λQ' E' J _=>xG o ok e (J _ _<|h3 f H _ _)]
theorem qf{EE:DX}{D':DEnds}{J:BxW (al<|ai fD (aV ad.C_Going (ac 1) "todo")<|dC .non) (ic ad EE) D'}(o:C.Ok):∀(f:Nat)(g:Gs)(h p:Option D),GOk C g->g.left<f->
  (∀h p g',(ci C f g)=(if (Us C.mn:aC)∈g'.u then ap (.inr C.mn) else bb,g')->g'.td=[]->D'.nx [ap C.d,ap (.ref k.a),h,p] (gM ad k g' M))->
  (∀g' q,ci C f g=(q,g')->D'.rt (El q) (gM ad k g' M))->0<=g.left->
  cU (al<|ai fD (aV ad.C_Going (ac 1) "todo")<|dC .non) (ic ad EE) D' J (f+1) [ap C.d,ap (.ref k.a),h,p] (gM ad k g M)
 |0,g,h,p,ok,hf,h1,h2,h0=>by lia
 |f+1,g,h,p,ok,hf,h1,h2,h0=>by
  have F:∀K:Bool->Mem->Prop,K (!g.td.isEmpty) (gM ad k g M)->al (ai fD (aV ad.C_Going (ac 1) "todo")<|dC .non) [ap C.d,ap (.ref k.a),h,p] (gM ad k g M) K:=λK q=>by
   simp_arith! only[al,ai,aV,ac,dC,Tu,dt,cP,Ow,fD,HD]
   exact#[trivial,q]
  cases e:g.td with
  |nil=>
   refine whF (λK q=>F K (by rw[e];exact q)) (h1 h p g ?_ e)
   unfold ci;rw[e]
  |cons r rest=>
   have B:ci C (f+1) g=if g.left<=0 then (bb,g) else match fU C g r with
    |some k=>(ap k,g)
    |none=>ci C f (pC C g rest r):=by conv=>lhs;unfold ci;rw[e]
   have I:(pC C g rest r).left=g.left-1:=nS;refine whT (λK q=>F K (by rw[e];exact q)) (IE o ok e (λG=>?_) (λG q H=>?_) λG H h p=>?_)
   .rw[if_pos G]at B
    exact h2 g bb B
   .rw[if_neg G,H]at B
    exact h2 g (ap q) B
   .rw[if_neg G,H]at B
    exact qf o f _ _ _ (xa o ok e) (by lia) (λh p g' q=>h1 h p g' (B.trans q)) (λg' q z=>h2 g' q (B.trans z)) (by lia)
theorem Db{f:Nat}(o:C.Ok)(ok:GOk C g)(F:0<=g.left)(G:g.left<f)(h:Q (El (ci C f g).1) (gM ad k (ci C f g).2 M)):C3 ad [C.d,.ref k.a] (gM ad k g M) Q E:=by
 rw[QS];unfold BC;simp only[ah,jS];refine#[f+1,qf o f g _ _ ok G (λH I B e _=>?_) (λB q e=>?_) F]
 .unfold qY
  rw[e]at h;have p:=@xM C
  simp_arith! only[p,aA,nv,al,ai,aV,ac,dC,Tu,dt,av,aI,atI_4,cP,MH,w8,Ey]
  refine#[trivial,?_]
  by_cases c:(Us C.mn:aC)∈B.u
  .simp only[if_pos c,El,kD]at h
   rw[if_pos (by simpa using c)]
   exact ak h
  .simp only[if_neg c,El]at h
   rw[if_neg (by simpa using c)]
   exact ak h
 .rw[e]at h
  exact ak h
def QA(C:Cse)(g:Gs):D:=if g.td=[] then .int (nm g.n C.mn) else .non
theorem vS(o:C.Ok)(ok:GOk C g)(h:Q (QA C g) (gM ad k g M)):C7 ad [C.d,.ref k.a] (gM ad k g M) Q E:=by
 have p:=(ok.n.at o.mn).1;have f:=@xM C;rw[S8];unfold BR
 simp_arith! only[f,aA,nv,al,ai,aV,ac,dC,Tu,dt,cP,Ow,iC,HD]
 refine#[trivial,?_];unfold QA at h;cases e:g.td with
 |nil=>
  rw[if_pos e]at h
  simp_arith! only[Xy,if_true,f,ai,aV,ac,dC,cP,Mw,av,aI,atI_4,Tu,dt,gH,wa,cN,cy,p,UK]
  exact#[trivial,ak h]
 |cons r rest=>
  rw[if_neg (by rw[e];simp)]at h
  simp only[List.isEmpty_cons,Ue,if_false];exact ak h
end
def eF(g:Gs)(q:aC)(v:Int):Gs:=match q with
 |.inl i=>{ g with u:=g.u.filter λk=>decide (k≠q),ps:=g.ps.set i.toNat v }
 |.inr x=>{ g with u:=g.u.filter λk=>decide (k≠q),n:=sN g.n x v }
theorem sM(ok:GOk C g)(e:0<=v/\v<C.w):GOk C (eF g q v):=by
 cases q with
 |inl i=>
  refine#[ok.n,by show (g.ps.set _ _).length=_;rw[Vj];exact ok.lp,λz f=>?_,ok.td]
  rcases List.mem_or_eq_of_mem_set f with h|h
  .exact ok.rp z h
  rw[h];exact e
 |inr x=>exact#[HK (c:=g.cf C) ok.n e,ok.lp,ok.rp,ok.td]
theorem eZ:(eF g q v).u=g.u.filter λk=>decide (k≠q):=by cases q<;>rfl
theorem fw:(eF g q v).left=g.left:=by cases q<;>rfl
theorem oP{x:cb}(h:Q .non (M.upd x<|.ins ad.C_Going [("numbers",e),("pieces",f),("unsettled",d3),("todo",td),("left",.int left)])):
  EU ad [.ref x,e,f,d3,td,.int left] (M.upd x<|.ins ad.C_Going []) Q E:=by
 have B:bR _ e []=[(("numbers":Str),e)]:=rfl;have p:bR "pieces" f [("numbers",e)]=[(("numbers":Str),e),("pieces",f)]:=rfl;have G:bR "unsettled" d3 [("numbers",e),("pieces",f)]=[(("numbers":Str),e),("pieces",f),("unsettled",d3)]:=rfl;have F:bR "todo" td [("numbers",e),("pieces",f),("unsettled",d3)]=[(("numbers":Str),e),("pieces",f),("unsettled",d3),("todo",td)]:=rfl;rw[u_q2];unfold K_;simp![Mem.upd_upd,B,p,G,F];exact#[by decide,by decide,by decide,by decide,by decide,ak h]
structure Gat(ad:Ad)(k:Gk)(g:Gs)(N:Mem):Prop where
 a:N k.a=ap (.ins ad.C_Going<|gF k (pe g.td) g.left)
 dn:N k.dn=ap (.dK<|eI g.n)
 lp:N k.lp=ap (.lst<|g.ps.map D.int)
 du:N k.du=ap (.dK<|uD g.u)
theorem Gat.of:Gat ad k g (gM ad k g M):=#[cP,gH,qu,gJ]
theorem Gat.more(h:Gat ad k g M)(f:k1.Fr M):Gat ad k g (gM ad k1 e M):=#[eB f h.a,eB f h.dn,eB f h.lp,eB f h.du]
theorem uv(at':Gat ad k g N)(o:C.Ok)(ok:GOk C g)(hk:q∈eD C)(hu:q∈g.u)(h:∀Y:Gk,Y.Fr N->Q (.ref Y.a) (gM ad Y (eF g q v) N)):
  E7 ad [.ref k.a,kD q,.int v] N Q E:=by
 obtain⟨O,hdn,X,R⟩:=at';rw[u_q8];unfold JH
 simp_arith! only[ah,aq,gQ,aa,af,bc,aV,ac,Tu,dt,O,Mw,iG,hdn]
 refine#[trivial,λf T=>?_];have Z:k.a≠f:=Mem.ne O T;have l1:k.lp≠f:=Mem.ne X T;have u1:k.du≠f:=Mem.ne R T
 simp_arith! only[aa,af,bc,aV,ac,Tu,dt,ae Z,O,gf1,dS,aI,ae l1,X]
 refine#[trivial,λF W=>?_];have H:f≠F:=Mem.ne Mem.upd_same W;rw[ae H.symm]at W;have a2:k.a≠F:=Mem.ne O W;have u2:k.du≠F:=Mem.ne R W
 simp_arith! only[aa,af,bc,iG,aV,ac,Tu,dt,ae a2,ae Z,O,MH,ae u2,ae u1,R]
 refine#[trivial,λJ S=>?_];have I:F≠J:=Mem.ne Mem.upd_same S;rw[ae I.symm]at S;have G:f≠J:=Mem.ne Mem.upd_same S;rw[ae G.symm]at S;have a3:k.a≠J:=Mem.ne O S
 simp_arith! only[aa,af,bc,iG,aV,ac,Tu,dt,ae a3,ae a2,ae Z,O,Ow,gf4]
 refine#[trivial,trivial,rfl,λx P=>?_];have e:J≠x:=Mem.ne Mem.upd_same P;rw[ae e.symm]at P;have B:F≠x:=Mem.ne Mem.upd_same P;rw[ae B.symm]at P;have p:f≠x:=Mem.ne Mem.upd_same P;rw[ae p.symm]at P;refine ao λQ' E' hq _=>oP (hq _ _ ?_);have key:((((N.upd f<|.dK<|eI g.n).upd F<|.lst<|g.ps.map D.int).upd J<|.dK<|uD g.u).upd x<|.ins ad.C_Going [("numbers",.ref f),("pieces",.ref F),("unsettled",.ref J),("todo",pe g.td),("left",.int g.left)])=gM ad #[x,f,F,J,p.symm,B.symm,e.symm,H,G,I] g N:=by
  unfold gM gF;rw[aw e,aw B,aw p]
 rw[key];have hfr:Gk.Fr #[x,f,F,J,p.symm,B.symm,e.symm,H,G,I] N:=#[P,T,W,S];have hh:=h _ hfr;generalize hk':(#[x,f,F,J,p.symm,B.symm,e.symm,H,G,I]:Gk)=Y at *;have ex:x=Y.a:=by rw[<- hk']
 rw[ex];simp only[ag,TQ];unfold xQ;have hv:∃w,cJ (uD g.u) q=ap w:=XY.mp (by rw[lD];simpa using hu)
 obtain⟨w,hv⟩:=hv
 simp_arith! only[ah,bh,GH,aV,ac,Tu,dt,cP,MH,Fi,gJ,fG,hv,uO,MZ]
 refine#[trivial,trivial,?_];unfold yz xf y8;rcases hZ hk with⟨y,hy,rfl⟩|⟨i,hi,rfl⟩
 .have keys:y∈g.n.map (·.1):=by rw[ok.n.keys];exact hy
  have nl:(eI g.n).length<sizeLine:=by
   have T:(eI g.n).length=C.names.length:=by rw[<- ok.n.keys];simp[eI]
   have:=o.l1;exact g7 (by lia)
  simp only[kD]at hh ⊢;simp![bv,mM,WN,Xp,Vw,V8,W0,cP,Mw,gH,lx keys,LC];exact#[nl,ak hh]
 .have e3:yD (g.ps.map D.int).length (i:Nat)=ap i:=by
   rw[jU (by lia) (by rw[Tz,ok.lp];lia),Ua]
  have e4:(g.ps.map D.int).set i (.int v)=(g.ps.set i v).map D.int:=by rw[List.map_set]
  simp only[kD]at hh ⊢;simp![bv,mM,WN,Xp,Vw,V8,W0,X2,VV,cP,gf1,qu,e3,e4,SL];exact ak hh
noncomputable def eO(ad:Ad)(L c:Nat):MO:=.ins ad.C_Ends [("limit",.int (L:Nat)),("count",.int (c:Nat))]
inductive Tr where
 |e (m:D)|a (q:aC) (x y:Tr)
def Tr.d:Tr->D
 |.e m=>.tup [.str "end",m]
 |.a q x y=>.tup [.str "ask",kD q,x.d,y.d]
def Tr.asks:Tr->Nat
 |.e _=>0
 |.a _ x y=>1+x.asks+y.asks
def dz(C:Cse)(s t:Sta):Nat->Gs->Tr
 |0,_=>.e .non
 |n+1,g=>match (ci C (C.most+1) g).1 with
  |none=>.e (QA C (ci C (C.most+1) g).2)
  |some q=>.a q (dz C s t n<|eF (ci C (C.most+1) g).2 q<|aH C s q) (dz C s t n<|eF (ci C (C.most+1) g).2 q<|aH C t q)
section
variable{s:Sta}
theorem iV{c:Nat}(f:M e=ap (eO ad L c))(I:c+1<=L)(h:Q .non (M.upd e<|eO ad L (c+1))):G_ ad [.ref e] M Q E:=by
 have B:Ux ("count":Str) [(("limit":Str),D.int (L:Nat)),(("count":Str),D.int (c:Nat))]=ap (.int (c:Nat)):=rfl;have F:∀v,bR ("count":Str) (.int v) [(("limit":Str),D.int (L:Nat)),(("count":Str),D.int (c:Nat))]=[(("limit":Str),D.int (L:Nat)),(("count":Str),D.int v)]:=λ_=>rfl;have p:∀v,Ux ("count":Str) [(("limit":Str),D.int (L:Nat)),(("count":Str),D.int v)]=ap (.int v):=λ_=>rfl;have H:∀v,Ux ("limit":Str) [(("limit":Str),D.int (L:Nat)),(("count":Str),D.int v)]=ap (.int (L:Nat)):=λ_=>rfl;have G:decide (((L:Nat):Int)<((c:Nat):Int)+1)=false:=decide_eq_false (by lia)
 unfold eO at f h;rw[u_q4];unfold L8 y6
 simp_arith! only[ah,tW,aG,al,ai,aV,ac,dC,aB,dt,f,B,F,p,H,Mem.upd_same,Ir,oo,G]
 refine#[trivial,by simp,trivial,trivial,trivial,?_]
 rw[if_neg (by simp)]
 refine ak ?_;have e:(((c:Nat):Int)+1)=((c+1:Nat):Int):=by lia
 rw[e];exact h
theorem FZ{a:cb}{m:Str}(f:∀K:DK,K (.ref a) M->e U M K)(p:M a=ap (.ins Cl fs))(B:fs.lookup m=bb)(h:t U M λds M2=>ds.length+1=n/\calls T EE (.ref a::ds) M2 Q #[]):dw Cl m T EE n e t U M Q:=by
 unfold dw;refine f _ ?_;simp only[wo,mN_n,p];exact#[trivial,B,h]
theorem Ry(f:Gat ad k g N)(o:C.Ok)(H:SOk C z)(ok:GOk C g)(B:q∈eD C)(I:q∈g.u)(h:∀k1:Gk,k1.Fr N->K (.ref k1.a) (gM ad k1 (eF g q<|aH C z q) N)):
  am (dw ad.C_Going "settled" (E7 ad) jP 3 (ac 2)<|aa (ac 1)<|aa (am<|aj (k8 ad) jP 3<|aa (ai av (ac 3)<|dC<|.int 0)<|aa (ac 0)<|aa (ac 1) af) af) [ap z.d,ap (kD q),ap (.ref k.a),ap (bg C s t)] N K:=by
 have fi:∀{v:Int}{M:Mem}{Q:DK},Q (.int v) M->frz (.int v) M Q:=λz=>z;have G:∀{a:cb}{M:Mem}{Q:DK}{fs:List (Str×D)},M a=ap (.ins ad.C_Going fs)->Q (.ref a) M->frz (.ref a) M Q:=λ{a M Q fs} e z=>by simp_arith! only[frz,e];exact z
 unfold am;refine FZ (λK q=>q) f.a gfs ?_;unfold bg
 simp_arith! only[aa,ac,aj,af,ai,dC,Tu,dt,av,aI,atI_0]
 refine#[rfl,aL (λ_ _ z=>eA o H B z)<|fi ?_];exact#[rfl,ao λQ' E' F _=>uv f o ok B I λk1 p=>F _ _ (G cP<|h k1 p)]
theorem pL(B:Gat ad k g N)(o:C.Ok)(T:SOk C s)(W:SOk C t)(ok:GOk C g)(R:q∈eD C)(S:q∈g.u)(h:∀(k1 k2:Gk)(p:cb),k1.Fr N->k2.Fr (gM ad k1 (eF g q<|aH C s q) N)->gM ad k2 (eF g q<|aH C t q) (gM ad k1 (eF g q<|aH C s q) N) p=bb->
   Q (.ref p) ((gM ad k2 (eF g q<|aH C t q)<|gM ad k1 (eF g q<|aH C s q) N).upd p<|.lst [.ref k1.a,.ref k2.a])):
  B_ ad [bg C s t,.ref k.a,kD q] N Q E:=by
 have e:=@H_ C s t;rw[Sz];unfold Cq
 simp_arith! only[aA,aN,bM,wS,dk,cm,ac,dC,Tu,dt,bi,TB,Ut,TY,TU,UD]
 have I:kP [C.d,s.d,t.d,D.int (C.most:Nat)] (ap 1) (ap 3)=[s.d,t.d]:=rfl;generalize F:am (dw ad.C_Going "settled" (E7 ad) jP 3 (ac 2)<|aa (ac 1)<|aa (am<|aj (k8 ad) jP 3<|aa (ai av (ac 3)<|dC<|.int 0)<|aa (ac 0)<|aa (ac 1) af) af)=te;have H:∀{N:Mem}{z:Sta}{K:DK},Gat ad k g N->SOk C z->(∀k1:Gk,k1.Fr N->K (.ref k1.a) (gM ad k1 (eF g q<|aH C z q) N))->te [ap z.d,ap (kD q),ap (.ref k.a),ap (bg C s t)] N K:=λ{N z K} J O hh=>by
  rw[<- F];exact Ry J o O ok R S hh
 simp_arith! only[e,am,wS,dk,ac,dC,dt,Tu,OL,I,frz,aI,br,bi,TB,Ut,TY,TU,UD]
 rw[<- e];unfold cA;refine#[aO,?_];simp only[ag,TQ,cX,if_true];refine H B T λk1 f=>#[g7 (by simp),?_]
 unfold cA;refine#[aO,?_];simp only[ag,TQ,cX,if_true];refine H (B.more f) W λk2 G=>#[g7 (by simp),?_]
 unfold cA;exact#[aO,λp P=>ak (h k1 k2 p f G P)]
end
theorem EN(h:M b=ap o):M.upd b o=M:=by
 funext c;unfold Mem.upd
 simp_all
theorem Iw(h:k2.Fr (gM ad k1 e N)):gM ad k2 G (gM ad k1 e N)=gM ad k1 e (gM ad k2 G N):=by
 obtain⟨J,O,H,a4,_⟩:=cw h.a;obtain⟨b1,b2,S,P,_⟩:=cw h.dn;obtain⟨W,T,Z,R,_⟩:=cw h.lp;obtain⟨Y,d2,I,X,_⟩:=cw h.du;funext b
 by_cases f:b=k2.a
 .subst f;rw[cP,mV J O H a4,cP]
 by_cases B:b=k2.dn
 .subst B;rw[gH,mV b1 b2 S P,gH]
 by_cases F:b=k2.lp
 .subst F;rw[qu,mV W T Z R,qu]
 by_cases p:b=k2.du
 .subst p;rw[gJ,mV Y d2 I X,gJ]
 unfold gM;simp[Mem.upd,f,B,F,p]
section
variable{s:Sta}
theorem Qm(h:fU C g r=ap q):q∈g.u:=by
 unfold fU at h
 split at h
 .cases h
 split at h
 .rename_i p f e
  cases h;have:q∈(eD C).filter λk=>decide (k∈((fm r).filter λx=>decide ((Us x)∈g.u)).map Us):=by rw[e];simp
  obtain⟨x,B,rfl⟩:=TM.mp (of_decide_eq_true<|(TN.mp this).2)
  simp_all
 split at h
 .split at h
  .simp_all
  cases h
 cases h
theorem QZ:(pC C g rest r).u.length<=g.u.length/\∀x∈(pC C g rest r).u,x∈g.u:=by
 have e:∀z:aC,(g.u.filter λk=>decide (k≠z)).length<=g.u.length/\∀x∈g.u.filter (λk=>decide (k≠z)),x∈g.u:=λz=>#[Uy _ _,λx f=>(TN.mp f).1];cases r with
 |ifr=>exact#[TL _,λ_ h=>h]
 |again=>exact#[TL _,λ_ h=>h]
 |_=>exact e _
theorem jF:∀(f:Nat)(g:Gs),((ci C f g).2.u.length<=g.u.length/\∀x∈(ci C f g).2.u,x∈g.u)/\(0<=g.left->0<=(ci C f g).2.left/\(ci C f g).2.left<=g.left)/\∀q,(ci C f g).1=ap q->q∈(ci C f g).2.u
 |0,g=>#[#[TL _,λ_ h=>h],λh=>#[h,We _],λq h=>by cases h]
 |f+1,g=>by
  unfold ci;cases e:g.td with
  |nil=>
   simp_all
  |cons r rest=>
   dsimp only
   split
   .simp_all
   cases a:fU C g r with
   |some k=>
    refine#[by lia,by lia,λq h=>?_]
    cases h;exact Qm a
   |none=>
    obtain⟨⟨p,I⟩,B,F⟩:=jF f _;obtain⟨G,J⟩:=QZ;have H:(pC C g rest r).left=g.left-1:=nS;exact#[#[TR p G,by simp_all],λh=>#[(B<|by lia).1,by dsimp only;lia],F]
theorem rD(h:q∈u):(u.filter λk=>decide (k≠q)).length<u.length:=by
 rw[List.length_filter_lt_length_iff_exists]
 simp_all
theorem iB(o:C.Ok)(hs:SOk C s)(ht:SOk C t):∀(n:Nat)(g:Gs)(k:Gk)(M:Mem)(c:Nat)(Q:DK)(E:DX),GOk C g->0<=g.left->g.left<=C.most->(∀x∈g.u,x∈eD C)->g.u.length<n->M e=ap (eO ad L c)->k.Fr M->
  c+(dz C s t n g).asks<=L->Q (dz C s t n g).d (M.upd e<|eO ad L (c+(dz C s t n g).asks))->Y8 ad n [bg C s t,.ref k.a,.ref e] (gM ad k g M) Q E
 |0,g,k,M,c,Q,E,ok,h0,hm,hu,hn,he,hf,hc,h=>by lia
 |n+1,g,k,M,c,Q,E,ok,h0,hm,hu,hn,he,hf,hc,h=>by
  have hcs:=@H_ C s t;have J:=tR o (C.most+1) g ok;obtain⟨⟨hlen,F⟩,hlft,hask⟩:=jF (C:=C) (C.most+1) g;rw[Rs];unfold zC
  simp_arith! only[ah,aq,am,aj,aa,af,ai,ac,dC,Tu,dt,hcs,av,aI,atI_0]
  refine#[rfl,ao λQ' E' I _=>Db (f:=C.most+1) o ok h0 (by lia) (I _ _ ?_)]
  have fo:∀{q:Option aC}{M:Mem}{Q:DK},Q (El q) M->frz (El q) M Q:=λ{q} {M} {Q} z=>by
   cases q with
   |none=>exact z
   |some k=>cases k<;>exact z
  refine fo ?_;simp only[ag,TQ];unfold dz at h hc;generalize hgo:ci C (C.most+1) g=go at *;obtain⟨a,H⟩:=go;dsimp only at *;unfold rH;cases a with
  |none=>
   unfold sI
   simp_arith! only[ah,aG,al,ai,ac,dC,El,iC,gw,if_true,aA,aS,aa,af,aj,Tu,dt,av,aI,atI_0]
   refine#[rfl,aL (λ_ _ z=>vS o J z) #[bj (by simp),?_]]
   simp only[Tr.asks,Tr.d,Nat.add_zero,EN he]at h;exact#[M,λb ob eb=>eB hf eb,h]
  |some q=>
   have P:=hask q rfl;have S:=hu q (F q P);have fl:=rD P;simp only[Tr.asks,Tr.d]at h hc;have nn:gw (kD q)=false:=by cases q<;>rfl
   simp_arith! only[ah,aG,al,ai,ac,dC,El,iC,nn,aB,Tu,dt]
   rw[if_neg (by simp)]
   unfold sK;simp only[ah,bh];have lo:Ux ("one_more":Str) [(("limit":Str),D.int (L:Nat)),(("count":Str),D.int (c:Nat))]=none:=rfl;refine FZ (a:=e) (fs:=[("limit",.int (L:Nat)),("count",.int (c:Nat))]) (λK q=>q) (eB hf he) lo ?_;simp only[af];refine#[rfl,ao λQ' E' I _=>iV (eB hf he) (by lia) (I _ _ ?_)]
   rw[uf hf he];have X:(M.upd e<|eO ad L (c+1)) e=ap (eO ad L (c+1)):=Mem.upd_same;have G:∀{o':MO},k.Fr (M.upd e o'):=λ{o'}=>#[by rw[ae (λz=>by rw[<- z,hf.a]at he;cases he)];exact hf.a,by rw[ae (λz=>by rw[<- z,hf.dn]at he;cases he)];exact hf.dn,by rw[ae (λz=>by rw[<- z,hf.lp]at he;cases he)];exact hf.lp,by rw[ae (λz=>by rw[<- z,hf.du]at he;cases he)];exact hf.du]
   unfold rM
   simp_arith! only[ah,aq,am,aj,aa,af,ac,Tu,dt]
   refine#[rfl,ao λQ' E' I _=>pL .of o hs ht J S P λk1 k2 p h1 O hp=>I _ _ (bZ hp ?_)];simp only[ag,TQ];unfold sH
   simp_arith! only[aA,aS,aa,af,aj,ac,dC,ai,Tu,dt,av,aI,atI_0,atI_1]
   generalize hg1:eF H q (aH C s q)=g1 at *;generalize hg2:eF H q (aH C t q)=g2 at *;have T:g1.u.length<n/\(∀x∈g1.u,x∈eD C)/\g1.left=H.left/\GOk C g1:=by
    rw[<- hg1];exact#[by rw[eZ];lia,λx Y=>by rw[eZ]at Y;exact hu x (F x (TN.mp Y).1),fw,sM J<|bP o hs S]
   have R:g2.u.length<n/\(∀x∈g2.u,x∈eD C)/\g2.left=H.left/\GOk C g2:=by
    rw[<- hg2];exact#[by rw[eZ];lia,λx Y=>by rw[eZ]at Y;exact hu x (F x (TN.mp Y).1),fw,sM J<|bP o ht S]
   have hll:=hlft h0;rw[Iw O];have B:k2.Fr (gM ad k H<|M.upd e<|eO ad L (c+1)):=#[(cw O.a).2.2.2.2,(cw O.dn).2.2.2.2,(cw O.lp).2.2.2.2,(cw O.du).2.2.2.2];obtain⟨a1,a2,a3,a4,_⟩:=cw O.a;obtain⟨b1,b2,b3,b4,_⟩:=cw O.dn;obtain⟨c1,c2,c3,c4,_⟩:=cw O.lp;obtain⟨d1,d2,d3,d4,_⟩:=cw O.du;have h1N:k1.Fr (gM ad k2 g2<|gM ad k H<|M.upd e<|eO ad L (c+1)):=#[by rw[mV a1.symm b1.symm c1.symm d1.symm];exact h1.a,by rw[mV a2.symm b2.symm c2.symm d2.symm];exact h1.dn,by rw[mV a3.symm b3.symm c3.symm d3.symm];exact h1.lp,by rw[mV a4.symm b4.symm c4.symm d4.symm];exact h1.du]
   have Z:gM ad k H (M.upd e<|eO ad L (c+1)) e=ap (eO ad L (c+1)):=eB G X;refine#[rfl,ao λQ' E' I _=>iB o hs ht n g1 k1 _ (c+1) _ _ T.2.2.2 (by lia) (by lia) T.2.1 T.1 (eB B Z) h1N (by lia) (I _ _ ?_)]
   rw[uf B Z,uf G X,Mem.upd_upd];have W:k2.Fr (gM ad k H<|M.upd e<|eO ad L (c+1+(dz C s t n g1).asks)):=by
    have z:∀{b:cb},gM ad k H (M.upd e<|eO ad L (c+1)) b=bb->gM ad k H (M.upd e<|eO ad L (c+1+(dz C s t n g1).asks)) b=none:=λ{b} hb=>by
     obtain⟨n1,n2,n3,n4,n5⟩:=cw hb;rw[mV n1 n2 n3 n4];have:b≠e:=λz=>by rw[z,Mem.upd_same]at n5;cases n5
     rw[ae this]at n5 ⊢;exact n5
    exact#[z B.a,z B.dn,z B.lp,z B.du]
   refine#[rfl,ao λQ' E' I _=>iB o hs ht n g2 k2 _ (c+1+(dz C s t n g1).asks) _ _ R.2.2.2 (by lia) (by lia) R.2.1 R.1 (eB G Mem.upd_same) W (by lia) (I _ _ ?_)]
   rw[uf G Mem.upd_same,Mem.upd_upd];refine#[bj (by simp),M.upd e (eO ad L (c+(1+(dz C s t n g1).asks+(dz C s t n g2).asks))),λb ob eb=>?_,h]
   have ec:c+1+(dz C s t n g1).asks+(dz C s t n g2).asks=c+(1+(dz C s t n g1).asks+(dz C s t n g2).asks):=by lia
   rw[ec];exact eB G eb
end
def g0(C:Cse)(s t:Sta):Gs:=#[C.names.zip s.nums,s.pieces,aF C s t,C.rows,(C.most:Nat)]
section
variable{s:Sta}
theorem sw(o:C.Ok):(aF C s t).Nodup:=by
 refine List.Pairwise.filter _ ?_;show (eD C).Nodup;unfold eD;rw[WL];refine#[?_,?_,?_]
 .exact X1 _ (by lia) o.nd
 .exact X1 _ (by lia) Xw
 intro a e b f z;obtain⟨x,_,rfl⟩:=TM.mp e;obtain⟨y,_,rfl⟩:=TM.mp f;cases z
theorem rY:∀x∈aF C s t,x∈eD C:=λx e=>(TN.mp e).1
theorem jr(o:C.Ok):(aF C s t).length<=200:=by
 have e:(aF C s t).length<=(eD C).length:=Uy _ _;have f:(eD C).length=C.names.length+C.many:=by simp[eD]
 have:=o.l1;have:=o.few;lia
theorem eW(o:C.Ok)(B:SOk C s)(F:SOk C t)(h:∀p,M p=bb->Q (.ref p) (M.upd p<|.lst<|(aF C s t).map kD)):qN ad [bg C s t] M Q E:=by
 rw[RA];unfold Cj bg
 simp_arith! only[aA,aj,aa,ai,ac,dC,af,dt,Tu,av,aI,atI_0,atI_1,atI_2]
 exact#[rfl,ao λQ' E' e _=>Fe o B F λp f=>e _ _ (ak<|h p f)]
theorem LP(o:C.Ok)(e:SOk C s):GOk C (g0 C s t):=#[(o.pl e).nok,e.lp,e.rp,o.ok]
theorem sdE:s.d=.tup [.tup (s.nums.map D.int),.tup (s.pieces.map D.int)]:=rfl
theorem yf(o:C.Ok)(hs:SOk C s)(ht:SOk C t)(h:∀k:Gk,k.Fr M->Q (.ref k.a) (gM ad k (g0 C s t) M)):ze ad [bg C s t] M Q E:=by
 have ul:=jr (s:=s) (t:=t) o;have Z:=@H_ C s t;have hcd:=@xM C;have hsd:s.d=.tup [.tup (s.nums.map D.int),.tup (s.pieces.map D.int)]:=rfl;rw[RM];unfold Aj tM
 simp_arith! only[ah,aq,ai,ac,dC,ag,TQ,dt,Tu,H_,av,aI,atI_0,atI_1]
 rw[<- Z];unfold uu
 simp_arith! only[ah,aq,bc,aa,af,am,aN,bM,aj,ac,bi,TB,Ut,TY,TU,dt,Tu]
 refine#[rfl,ao λQ' E' W _=>eW o hs ht λp X=>W _ _ (bZ X ?_)]
 simp_arith! only[aI,br]
 refine cC (λd=>.tup [d,.bl true]) aO (by simp;lia) (λx O K q=>?_) ?_
 .simp_arith! only[aS,aa,ac,dC,af,Tu,dt]
  exact#[bj (by simp),q]
 intro p X;refine bZ X ?_;have e:((aF C s t).map kD).map (λd=>D.tup [d,.bl true])=(aF C s t).map λk=>D.tup [kD k,.bl true]:=by simp
 rw[e];have hnd:(([]:List (aC×D)).map (·.1)++(uD<|aF C s t).map (·.1)).Nodup:=by rw[rW];exact sw o
 simp_arith! only[af,gk,G2,c_,j_,qX hnd,TU]
 refine#[trivial,by simp[uD];lia,λG h3=>?_]
 simp only[ag,TQ];unfold t9
 simp_arith! only[aA,gQ,aa,gE,ai,ac,dC,af,bc,aj,am,dt,Tu,xM,sdE,av,aI,atI_0,atI_1,eL,Tz]
 refine#[hs.ln.symm,o.l0,TR o.l1 (by decide),λJ T=>?_]
 have I:G≠J:=Mem.ne Mem.upd_same T;rw[ae I.symm]at T
 simp_arith! only[dS,aI]
 intro P S;have R:J≠P:=Mem.ne Mem.upd_same S;rw[ae R.symm]at S;have F:G≠P:=Mem.ne Mem.upd_same S;rw[ae F.symm]at S
 simp_arith! only[H_,atI_3,dt,Tu]
 refine#[rfl,aL (λ_ _ q=>fg (td:=[]) q) ?_];have ft:∀{l:List Rw}{M:Mem}{Q:DK},Q (pe l) M->frz (pe l) M Q:=λ{l} {M} {Q} q=>by cases l<;>exact q
 rw[UH];refine ft ?_;refine#[rfl,λx O=>?_];have f:P≠x:=Mem.ne Mem.upd_same O;rw[ae f.symm]at O;have B:J≠x:=Mem.ne Mem.upd_same O;rw[ae B.symm]at O;have H:G≠x:=Mem.ne Mem.upd_same O;rw[ae H.symm]at O;refine ao λQ' E' W _=>oP (W _ _ ?_);rw[cG hs.ln.symm o.nd];have Y:((((M.upd G<|.dK<|uD<|aF C s t).upd J<|.dK<|eI<|C.names.zip s.nums).upd P<|.lst<|s.pieces.map D.int).upd x<|.ins ad.C_Going [("numbers",.ref J),("pieces",.ref P),("unsettled",.ref G),("todo",pe C.rows),("left",.int (C.most:Nat))])=gM ad #[x,J,P,G,B.symm,f.symm,H.symm,R,I.symm,F.symm] (g0 C s t) M:=by
  unfold gM gF g0;rw[aw f,aw B,aw H,aw (a:=G) (b:=J) I,aw (a:=G) (b:=P) F]
 rw[Y];exact ak (h #[x,J,P,G,B.symm,f.symm,H.symm,R,I.symm,F.symm] #[O,T,S,h3])
def Cse.tree(C:Cse)(s t:Sta):Tr:=dz C s t 24 (g0 C s t)
theorem D1{b:Int}(o:C.Ok)(f:SOk C s)(F:SOk C t)(T:C.mark s=.int a)(p:C.mark t=.int b)(B:a≠b)(S:(aF C s t).length<24)(R:1+(C.tree s t).asks<=L)(h:Q (C.tree s t).d M):
  zT ad [bg C s t,.int (L:Nat)] M Q E:=by
 rw[T7];unfold Ck r_
 simp_arith! only[ah,bh,aj,aa,ac,af,aq,gQ,dt,Tu]
 refine#[rfl,aL (λ_ _ q=>oO o f F T p B q) #[rfl,λe J=>?_]];have G:bR ("limit":Str) (.int (L:Nat)) []=[(("limit":Str),D.int (L:Nat))]:=rfl;have P:bR ("count":Str) (.int 0) [(("limit":Str),D.int (L:Nat))]=[(("limit":Str),D.int (L:Nat)),(("count":Str),D.int 0)]:=rfl;refine ao λQ' E' hq _=>?_;rw[u_q5];unfold Je;simp![Mem.upd_same,Mem.upd_upd,G,P,VO,Ug];refine#[by decide,by decide,ak<|hq _ _ ?_]
 simp only[RS,ag,TQ];unfold rl sj;simp only[ah,bh];have H:Ux ("one_more":Str) [(("limit":Str),D.int (L:Nat)),(("count":Str),D.int 0)]=none:=rfl;refine FZ (a:=e) (λK q=>q) Mem.upd_same H ?_;simp only[af];refine#[rfl,ao λQ' E' hq _=>iV (L:=L) (c:=0) Mem.upd_same (by lia) (hq _ _ ?_)]
 rw[Mem.upd_upd]
 simp_arith! only[aA,aj,aa,ac,af,am,dt,Tu]
 refine#[rfl,ao λQ' E' hq _=>yf o f F λk I=>hq _ _ ?_];have O:∀{M:Mem}{Q:DK}{fs:List (Str×D)},M k.a=ap (.ins ad.C_Going fs)->Q (.ref k.a) M->frz (.ref k.a) M Q:=λ{M Q fs} e z=>by simp_arith! only[frz,e];exact z
 refine O cP #[rfl,ao λQ' E' hq _=>iB o f F 24 _ k _ 1 _ _ (LP o f) (by show (0:Int)<=((C.most:Nat):Int);lia) (We _) rY S Mem.upd_same I R (hq _ _ ?_)]
 rw[Mem.upd_upd];refine#[M,λb W p=>?_,h];rw[ae (Mem.ne p J)];exact p
end
theorem CU(a b:Nat):W7 (a:Int) (b:Int)=((a ||| b:Nat):Int):=by
 have f:(-(-(a:Int)-1)-1).toNat=a:=by lia
 have e:(-(-(b:Int)-1)-1).toNat=b:=by lia
 unfold W7 Wj Builtin.bitNot;rw[(decide_eq_false<|by lia),(decide_eq_false<|by lia)]
 simp only[f,e];lia
theorem Gw(a:Nat):Wj (a:Int) 1=((a % 2:Nat):Int):=by
 unfold Wj
 simp_all
noncomputable def Ip(b:Nat):Nat:=U5 (b:Int)
def az(b:Nat):List Nat:=(Ub<|Ip b).filter λi=>b.testBit i
theorem Hh{b m:Nat}(h:b<2 ^ m):Ip b<=m:=by
 unfold Ip U5
 split
 .lia
 rw[Int.natAbs_natCast];have:=(YM<|by lia).mpr h
 lia
theorem cI{b m:Nat}(h:b<2 ^ m):az b=(Ub m).filter λi=>b.testBit i:=by
 obtain⟨d,rfl⟩:∃d,m=Ip b+d:=#[m-Ip b,by have:=Hh h;lia]
 unfold az;rw[List.range_add,Ww];have:((Ub d).map (Ip b+·)).filter b.testBit=[]:=by
  rw[Yt];intro i f;obtain⟨j,_,rfl⟩:=TM.mp f;have e:b<2 ^ Ip b:=by
   unfold Ip U5
   split
   .simp_all
   exact Nat.lt_log2_self
  rw[VZ (Uc e<|UJ (by decide)<|by lia)]
  simp
 rw[this,UH]
theorem oX{b:Nat}(J:b<2 ^ 200)(h:∀p,M p=bb->Q (.ref p) (M.upd p<|.lst ((az b).map λ(i:Nat)=>D.int (i:Int)))):BM ad [.int (b:Nat)] M Q E:=by
 have H:=Hh J;rw[SS];unfold zJ
 simp_arith! only[aA,aN,dW,aa,kH,ac,af,m8,dt,Tu,bi,TB,Ut,TY,TU,UD]
 have I:((U5 (b:Int):Nat):Int)<=200:=by have:U5 (b:Int)<=200:=H;lia
 refine#[rfl,by lia,by lia,?_]
 refine dh (λd=>match d with|.int i=>b.testBit i.toNat|_=>cp) id aO ?_ (λx f K q=>?_) (λx f _ K q=>q) ?_
 .simp only[cY,Tz,Xm,Ua];show Ip b<=_;lia
 .simp only[cY,TM,UE]at f
  obtain⟨i,O,rfl⟩:=f;rw[Int.zero_add]at q ⊢;have B:((b:Nat):Int) / 2 ^ (((i:Nat):Int)).toNat=((b / 2 ^ i:Nat):Int):=by rw[Ua];simp
  simp_arith! only[al,ai,ac,dC,dt,Tu,Qa,Oc,oI,oo,B,Gw,cc,dv,bX,aR]
  refine#[by lia,trivial,trivial,?_]
  simp only[Ua,Nat.testBit_eq_decide_div_mod_eq]at q;have F:decide (((b / 2 ^ i % 2:Nat):Int)=1)=decide (b / 2 ^ i % 2=1):=by congr 1;exact propext (by lia)
  rw[F];exact q
 .intro p G
  have e:((cY 0<|V7 ((U5 (b:Int):Nat):Int)).filter λd=>match d with|.int i=>b.testBit i.toNat|_=>cp).map id=(az b).map λ(i:Nat)=>D.int (i:Int):=by
   rw[U6];unfold cY az Ip;rw[UM,Ua];have:∀l:List Nat,l.map (λ(i:Nat)=>D.int (0+(i:Int)))=l.map λ(i:Nat)=>D.int (i:Int):=λl=>Uw λi _=>by simp
   rw[this];congr 1;refine Vl λi _=>?_;simp
  rw[e];exact ak (h p G)
theorem zB{b:BxC (dq 2<|aM (ag 0)<|aM (ag 1) dg) cX te ok Q}{rest:Dl}(f:Nat->D->D)(e:ok M):∀(xs:List D)(j:Nat)(aaQ:List D)(B F:Option D),aaQ.length+xs.length<=100000->
  (∀(i:Nat) x,xs[i]?=ap x->∀K:DK,K (f (j+i) x) M->te (ap (.int ((j+i:Nat):Int))::ap x::rest) M K)->Q (aaQ++(xs.zipIdx j).map λp=>f p.2 p.1) M->
  cA (dq 2<|aM (ag 0)<|aM (ag 1) dg) cX te ok Q b (g6 j xs) aaQ (B::F::rest) M
 |[],j,aaQ,B,F,hl,he,h=>by
  unfold g6 cA;exact#[e,by simpa using h]
 |x::xs,j,aaQ,B,F,hl,he,h=>by
  simp only[Ug]at hl;unfold g6 cA;refine#[e,?_]
  simp_arith! only[dq,aM,dg,ag,TQ,cX,if_true]
  refine#[rfl,he 0 x rfl _ #[g7 (by lia),?_]]
  refine zB f e xs (j+1) _ _ _ (by simp;lia) (λi y G K q=>?_) ?_
  .have:=he (i+1) y (by simpa using G) K (by rw[show j+(i+1)=j+1+i by lia];exact q)
   rw[show j+(i+1)=j+1+i by lia]at this
   exact this
  .simpa [WV] using h
structure Out where
 v:Str
 s:Nat
 f:Nat
noncomputable def B6(ad:Ad)(x:Out):MO:=.ins ad.C_Outcome [("verdict",.str x.v),("sound",.int (x.s:Nat)),("faulty",.int (x.f:Nat))]
def Ext(M M':Mem):Prop:=∀b o,M b=ap o->M' b=ap o
theorem Ext.refl:Ext M M:=λ_ _ e=>e
theorem Ext.trans{M1 M2:Mem}(a:Ext M M1)(b:Ext M1 M2):Ext M M2:=λx o e=>b x o (a x o e)
theorem Ext.no(h:Ext M M')(e:M' b=bb):M b=none:=by
 cases q:M b with
 |none=>rfl
 |some o=>rw[h b o q]at e;cases e
theorem Ext.new(h:M b=bb):Ext M (M.upd b o):=λx u e=>by rw[ae (Mem.ne e h)];exact e
theorem Ext.upd(x:Ext M M')(h:M b=bb):Ext M (M'.upd b o):=λc u e=>by rw[ae (Mem.ne e h)];exact x c u e
theorem Ext.del(x:Ext M M')(h:M b=bb):Ext M (M'.del b):=λc u e=>by unfold Mem.del;rw[if_neg (Mem.ne e h)];exact x c u e
inductive Lay(ad:Ad)(M:Mem):List cb->List Out->Prop
 |nil:Lay ad M [] []
 |cons {a:cb} {x:Out} {as:aaZ} {xs:List Out} (h:M a=ap (B6 ad x)) (t:Lay ad M as xs):Lay ad M (a::as) (x::xs)
theorem Lay.go{ad:Ad}{M M':Mem}:∀{as:aaZ}{xs:List Out},Lay ad M as xs->(∀a x,M a=ap (B6 ad x)->M' a=ap (B6 ad x))->Lay ad M' as xs
 |_,_,.nil,_=>.nil
 |_,_,.cons h t,g=>.cons (g _ _ h) (t.go g)
theorem Lay.snoc{ad:Ad}{M:Mem}{a:cb}{x:Out}(h:M a=ap (B6 ad x)):∀{as:aaZ}{xs:List Out},Lay ad M as xs->Lay ad M (as++[a]) (xs++[x])
 |_,_,.nil=>.cons h .nil
 |_,_,.cons h' t=>.cons h' (t.snoc h)
theorem Lay.length{ad:Ad}{M:Mem}:∀{as:aaZ}{xs:List Out},Lay ad M as xs->as.length=xs.length
 |_,_,.nil=>rfl
 |_,_,.cons _ t=>congrArg _ t.length
theorem Hl{xs:List D}(h:M l=ap (.lst xs))(a:cb)(x:Out)(e:M a=ap (B6 ad x)):(M.upd l<|.lst ys) a=ap (B6 ad x):=by
 rw[ae (λz=>by rw[z,h]at e;cases e)];exact e
noncomputable def iJ(a b:Int)(m:D):Str:=if aR m (.int a)=true then "sound" else if aR m (.int b)=true then "faulty" else "other"
noncomputable def bitK(us:List aC)(q:aC):Nat:=2 ^ us.idxOf q
def g8(a b:Int)(us:List aC):Tr->Nat->Nat->List Out
 |.e m,S,F=>[#[iJ a b m,S,F]]
 |.a q x y,S,F=>g8 a b us y S (F ||| bitK us q)++g8 a b us x (S ||| bitK us q) F
def Kj(us:List aC):Tr->Prop
 |.e m=>m=.non\/∃v,m=.int v
 |.a q x y=>q∈us/\Kj us x/\Kj us y
def eU:Tr->Nat
 |.e _=>1
 |.a _ x y=>1+eU x+eU y
def wD(w:Tr×Nat×Nat):D:=.tup [w.1.d,.int (w.2.1:Nat),.int (w.2.2:Nat)]
def xW(a b:Int)(us:List aC)(ws:List (Tr×Nat×Nat)):List Out:=(ws.map λw=>g8 a b us w.1 w.2.1 w.2.2).flatten
def da(ws:List (Tr×Nat×Nat)):Nat:=(ws.map λw=>eU w.1).sum
theorem qC:∀t:Tr,1<=eU t
 |.e _=>TL _
 |.a _ x y=>by unfold eU;lia
theorem RT:∀e:List (Tr×Nat×Nat),e.length<=da e
 |[]=>TL _
 |w::e=>by
  have:=RT e;have:=qC w.1;simp[da]at *;lia
noncomputable def bD(us:List aC):List (aC×D):=us.zipIdx.map λp=>(p.1,D.int ((2 ^ p.2:Nat):Int))
theorem Jc:(bD us).map (·.1)=us:=by
 unfold bD;rw[Ud];exact List.zipIdx_map_fst 0 us
theorem Qw(h:q∈us):cJ (bD us) q=ap (.int ((bitK us q:Nat):Int)):=by
 have f:∀(l:List _)(j:Nat),q∈l->cJ ((l.zipIdx j).map λp=>(p.1,D.int (2 ^ p.2))) q=ap (.int (2 ^ (j+l.idxOf q):Nat)):=by
  intro l
  induction l with
  |nil=>simp_all
  |cons a r ih=>
   intro j h;rw[WV,TB];unfold cJ;rw[Vv]
   by_cases e:a=q
   .simp_all
   have B:(a==q)=false:=by simpa using e
   simp only[e,decide_false];have:=ih (j+1) (by rcases TK.mp h with z|z;exact absurd z.symm e;exact z)
   unfold cJ at this;rw[this,List.idxOf_cons,B];congr 4;simp;lia
 have:=f us 0 h;rw[Wo]at this;exact this
theorem xH{x:cb}{y:Out}(h:Q .non (M.upd x<|B6 ad y)):JG ad [.ref x,.str y.v,.int (y.s:Nat),.int (y.f:Nat)] (M.upd x<|.ins ad.C_Outcome []) Q E:=by
 have p:bR _ _ []=[(("verdict":Str),D.str y.v)]:=rfl;have e:bR "sound" _ [("verdict",D.str y.v)]=[(("verdict":Str),D.str _),("sound",D.int y.s)]:=rfl;rw[u_q0];unfold L7;simp![Mem.upd_upd,p,e];exact#[by decide,by decide,by decide,ak h]
structure OK(ad:Ad)(M0:Mem)(us:List aC)(db lf lw:cb)(as:aaZ)(ds:List Out)(ws:List (Tr×Nat×Nat))(N:Mem):Prop where
 x:Ext M0 N
 f:M0 lf=bb
 w:M0 lw=bb
 b:M0 db=bb
 bd:N db=ap (.dK<|bD us)
 lf':N lf=ap (.lst<|as.map D.ref)
 lw':N lw=ap (.lst (ws.map wD).reverse)
 ne:lf≠lw
 nb:lf≠db
 ny:Lay ad N as ds
 few:as.length+da ws<=100000
 tr:∀w∈ws,Kj us w.1
theorem wDE:wD (e,S,F)=.tup [e.d,.int (S:Nat),.int (F:Nat)]:=rfl
theorem Gf{b:Int}{w:Tr×Nat×Nat}(I:OK ad M0 us O R G as ds (w::p) N)(h:∀as' ds' P N' c6 c7 c8 c9,OK ad M0 us O R G as' ds' P N'->da P<da (w::p)->ds'++xW a b us P=ds++xW a b us (w::p)->D'.nx [ap cs,ap ld,ap (.tup [.int a,.int b]),ap (.ref O),ap (.ref R),ap (.ref G),c6,c7,c8,c9] N'):
  ia ad EE D' [ap cs,ap ld,ap (.tup [.int a,.int b]),ap (.ref O),ap (.ref R),ap (.ref G),c6,c7,c8,c9] N:=by
 obtain⟨tr,S,F⟩:=w;have ew:((((tr,S,F)::p).map wD).reverse)=(p.map wD).reverse++[wD (tr,S,F)]:=by simp
 have J:=I.lw';rw[ew]at J;have Z:((p.map wD).reverse++[wD (tr,S,F)])[((p.map wD).reverse++[wD (tr,S,F)]).length-1]?=ap (wD (tr,S,F)):=by simp
 have T:=I.tr _ Uu;have few:=I.few;have len:=RT p;simp only[da,TB,WR]at few len;unfold ia
 simp_arith! only[ah,aq,kH,ac,af,dt,Tu,eh,J,D8,Z,List.dropLast_concat]
 refine#[trivial,?_];simp only[ag,TQ];have wr:wD (tr,S,F)=.tup [tr.d,.int (S:Nat),.int (F:Nat)]:=rfl;unfold si tj
 simp_arith! only[ah,aq,ai,ac,dC,wDE,av,aI,atI_1,atI_2,ag,TQ,dt,Tu]
 have I1:∀{u:D},(N.upd G<|.lst (p.map wD).reverse) R=ap (.lst<|as.map D.ref):=λ{u}=>by rw[ae I.ne];exact I.lf'
 have ex1:Ext M0 (N.upd G<|.lst (p.map wD).reverse):=I.x.upd I.w;have Y:Lay ad (N.upd G<|.lst (p.map wD).reverse) as ds:=I.ny.go λa x=>Hl J a x;have W:O≠G:=λz=>by have:=I.bd;rw[z,J]at this;cases this
 have B:(N.upd G<|.lst (p.map wD).reverse) O=ap (.dK<|bD us):=by rw[ae W];exact I.bd
 generalize hN1:N.upd G (.lst (p.map wD).reverse)=N1 at *;have H:N1 G=ap (.lst (p.map wD).reverse):=by rw[<- hN1,Mem.upd_same]
 have Im:N1 R=ap (.lst<|as.map D.ref):=I1 (u:=.non);unfold rJ;cases tr with
 |e m=>
  have ed:Tr.d (.e m)=.tup [.str "end",m]:=rfl;unfold tu
  simp_arith! only[aG,al,ai,ac,dC,av,aI,atI_0,atI_1,Tr.d,cc,dv,bX,aR,decide_true,if_true,dt,Tu,bh,kH,eh,Im,aa,gQ,am,aj,af]
  refine#[trivial,trivial,trivial,rfl,aL (λ_ _ q=>kO T q) ?_];have fs:∀{x:Str}{M:Mem}{Q:DK},Q (.str x) M->frz (.str x) M Q:=λz=>z;refine fs #[rfl,λx X=>ao λQ' E' hq _=>xH (y:=#[iJ a b m,S,F]) (hq _ _ ?_)];have nx:R≠x:=Mem.ne Im X;have nw:G≠x:=Mem.ne H X;have nd:O≠x:=Mem.ne B X
  simp_arith! only[af,bC,ae nx,Im]
  refine#[by simp[eU]at *;exact g7 (by lia),?_]
  refine h (as++[x]) (ds++[#[iJ a b m,S,F]]) p _ _ _ _ _ #[(ex1.upd<|ex1.no X).upd I.f,I.f,I.w,I.b,?_,?_,?_,I.ne,I.nb,?_,?_,λw hw=>I.tr w (TV _ hw)] ?_ ?_
  .rw[ae (Uk I.nb),ae nd];exact B
  .rw[Mem.upd_same];simp
  .rw[ae (Uk I.ne),ae nw];exact H
  .refine Lay.snoc ?_ (Y.go λa y e=>?_)
   .rw[ae (Uk nx),Mem.upd_same]
   .rw[ae (λz=>by rw[z,Im]at e;cases e),ae (Mem.ne e X)];exact e
  .simp only[da,Ui,Vh,eU]at few ⊢;lia
  .simp[da,eU]
  .simp[xW,g8]
 |a q x y=>
  obtain⟨hq,htx,hty⟩:=T;have ed:Tr.d (.a q x y)=.tup [.str "ask",kD q,x.d,y.d]:=rfl;have hne:decide (("ask":Str)=("end":Str))=false:=by decide +kernel
  have gd:wa N1 O (kD q)=ap (ap<|.int ((bitK us q:Nat):Int)):=by simp_arith! only[wa,B,fG,Qw hq]
  have sq:aI N1 (.ref O)=none:=by simp_arith! only[aI,B]
  unfold rq tS rN
  simp_arith! only[aG,al,ai,ac,dC,av,atI_0,atI_1,atI_2,atI_3,Tr.d,cc,dv,bX,aR,hne,dt,Tu,ah,aq,aI,B,gd,ag,TQ,bh,kH,eh,H,aa,aS,af,oOr,oo,CU,bC,Mem.upd_same,Mem.upd_upd]
  refine#[trivial,trivial,?_];rw[if_neg (by simp)]
  have hr:(p.map wD).reverse.length=p.length:=by simp
  refine#[trivial,bj (by simp),by rw[hr];exact g7 (by simp[eU]at few;lia),trivial,bj (by simp),by rw[Ui,hr];simp[eU]at few;exact g7 (by simp;lia),?_]
  have er:((p.map wD).reverse++[D.tup [x.d,.int ((S ||| bitK us q:Nat):Int),.int (F:Nat)]])++[D.tup [y.d,.int (S:Nat),.int ((F ||| bitK us q:Nat):Int)]]=(((y,S,F ||| bitK us q)::(x,S ||| bitK us q,F)::p).map wD).reverse:=by simp[wD]
  rw[er];refine h as ds ((y,S,F ||| bitK us q)::(x,S ||| bitK us q,F)::p) _ _ _ _ _ #[ex1.upd I.w,I.f,I.w,I.b,by rw[ae W];exact B,by rw[ae I.ne];exact Im,Mem.upd_same,I.ne,I.nb,Y.go λa x=>Hl H a x,?_,?_] ?_ ?_
  .simp only[da,TB,WR,eU]at few ⊢;lia
  .intro w hw
   rcases TK.mp hw with z|hw
   .rw[z];exact hty
   .rcases TK.mp hw with z|hw
    .rw[z];exact htx
    .exact I.tr w (TV _ hw)
  .simp only[da,TB,WR,eU];lia
  .simp[xW,g8]
section
variable{s t:Sta}
theorem v_{us:List aC}{a b:Int}:∀(n:Nat)(as:aaZ)(ds:List Out)(ws:List (Tr×Nat×Nat))(N:Mem)(e f B p:Option D),da ws<=n->OK ad M0 us G H J as ds ws N->
  (∀F N' e f B p,OK ad M0 us G H J F (ds++xW a b us ws) [] N'->D'.nx [ap T,ap S,ap (.tup [.int a,.int b]),ap (.ref G),ap (.ref H),ap (.ref J),e,f,B,p] N')->
  cU (cO<|ac 5) (ia ad EE) D' bx (n+1) [ap T,ap S,ap (.tup [.int a,.int b]),ap (.ref G),ap (.ref H),ap (.ref J),e,f,B,p] N
 |n,as,ds,[],N,e,f,B,p,hn,I,h=>by
  refine whF (λK q=>?_) (h as N e f B p<|by simpa [xW] using I)
  simp_arith! only[cO,ac,dt,Tu,Hd,I.lw']
  exact q
 |0,as,ds,w::ws,N,e,f,B,p,hn,I,h=>by
  have:=qC w.1;simp only[da,TB,WR]at hn;lia
 |n+1,as,ds,w::ws,N,e,f,B,p,hn,I,h=>by
  refine whT (λK q=>?_) (Gf I λF R O N' d6 W d8 X I' hlt Y=>?_)
  .have:((((w::ws).map wD).reverse).isEmpty)=false:=by simp
   simp_arith! only[cO,ac,dt,Tu,Hd,I.lw',this]
   exact q
  .exact v_ n F R O N' d6 W d8 X (by lia) I' λP N2 e6 Z e8 e9 I2=>h P N2 e6 Z e8 e9 (by rw[<- Y];exact I2)
theorem sX{us:List aC}:∀(n:Nat)(g:Gs),(∀x∈g.u,x∈us)->Kj us (dz C s t n g)
 |0,g,h=>.inl rfl
 |n+1,g,h=>by
  obtain⟨⟨f,p⟩,B,F⟩:=jF (C:=C) (C.most+1) g;unfold dz;cases e:(ci C _ g).1 with
  |none=>
   show QA C _=.non\/_;unfold QA
   split
   .simp_all
   simp_all
  |some q=>
   have hs:∀v,∀x∈(eF (ci C (C.most+1) g).2 q v).u,x∈us:=λv x G=>by rw[eZ]at G;simp_all
   exact#[by simp_all,sX n _ (hs _),sX n _<|hs _]
theorem mY:∀t:Tr,eU t=2*t.asks+1
 |.e _=>rfl
 |.a _ x y=>by unfold eU Tr.asks;rw[mY x,mY y];lia
theorem qJ:∀(us:List aC)(j:Nat),vF ((us.zipIdx j).map λp=>D.tup [kD p.1,.int ((2 ^ p.2:Nat):Int)])=ap ((us.zipIdx j).map λp=>(p.1,D.int ((2 ^ p.2:Nat):Int)))
 |[],_=>rfl
 |k::ks,j=>by simp only[WV,TB,vF,fG,qJ ks _]
theorem pq{b:Int}(o:C.Ok)(Y:SOk C s)(Z:SOk C t)(ea:C.mark s=.int a)(eb:C.mark t=.int b)(O:a≠b)(hu:(aF C s t).length<24)(hc:1+(C.tree s t).asks<=L)(hL:L<=10000)(h:∀p as N,Ext M N->N p=ap (.lst<|as.map D.ref)->M p=bb->Lay ad N as (g8 a b (aF C s t) (C.tree s t) 0 0)->Q (.ref p) N):AV ad [bg C s t,.int (L:Nat)] M Q E:=by
 have ul:=jr (s:=s) (t:=t) o;have hcs:=@H_ C s t;rw[RC];unfold z8
 simp_arith! only[ah,aq,am,aj,aa,ac,af,dt]
 have ft:∀{xs:List D}{M:Mem}{Q:DK},Q (.tup xs) M->frz (.tup xs) M Q:=λz=>z;refine#[rfl,aL (λ_ _ q=>oO o Y Z ea eb O q)<|ft ?_];simp only[ag,TQ];unfold nR
 simp_arith! only[ah,aq,bc,am,aN,qG,aj,aa,ac,af,bi,TB,Ut,TY,TU,dt,Tu]
 refine#[rfl,ao λQ' E' hq _=>eW o Y Z λp T=>hq _ _ (bZ T ?_)]
 simp_arith! only[aI,br,ox]
 refine zB (λi d=>.tup [d,.int ((2 ^ i:Nat):Int)]) aO _ 0 [] _ _ (by simp;lia) (λi x P K q=>?_) ?_
 .have hi:i<200:=by
   have h1:i<((aF C s t).map kD).length:=by
    rcases Vt i ((aF C s t).map kD).length with z|z
    .exact z
    .rw[UT z]at P;cases P
   rw[Tz]at h1;lia
  simp_arith! only[aS,aa,ai,ac,dC,af,OH,oI,dt,Tu]
  refine#[#[by lia,by lia,by decide],bj (by simp),?_]
  have:(1:Int)*2 ^ (((0+i:Nat):Int)).toNat=((2 ^ (0+i):Nat):Int):=by rw[Ua];simp
  rw[this];exact q
 intro p T;refine bZ T ?_;have e:([]:List D)++(((aF C s t).map kD).zipIdx 0).map (λp=>D.tup [p.1,.int ((2 ^ p.2:Nat):Int)])=((aF C s t).zipIdx 0).map λp=>D.tup [kD p.1,.int ((2 ^ p.2:Nat):Int)]:=by
  rw[TU,List.zipIdx_map,Ud];rfl
 rw[e];have W:(([]:List (aC×D)).map (·.1)++(bD<|aF C s t).map (·.1)).Nodup:=by rw[Jc];exact sw o
 have B:=qX W;rw[TU]at B
 simp_arith! only[gk,G2,c_,qJ]
 refine#[trivial,by simp;lia,λR J=>?_]
 have G:(List.foldl (λa p=>dU a p.fst p.snd) []<|List.map (λp=>(p.1,D.int ((2 ^ p.2:Nat):Int)))<|List.zipIdx<|aF C s t)=bD (aF C s t):=B;rw[G];simp only[bQ,af,ag,TQ];refine#[bj (by simp),λH F=>?_]
 have n1:R≠H:=Mem.ne Mem.upd_same F;rw[ae n1.symm]at F;unfold oi tV
 simp_arith! only[ah,aq,bQ,aa,aS,aj,ac,dC,af,dt,Tu]
 refine#[rfl,aL (λ_ _ q=>D1 o Y Z ea eb O hu hc q) #[bj (by simp),bj (by simp),λS f=>?_]]
 have n2:H≠S:=Mem.ne Mem.upd_same f;rw[ae n2.symm]at f;have n3:R≠S:=Mem.ne Mem.upd_same f;rw[ae n3.symm]at f;simp only[ag,TQ,jS];have I:OK ad M (aF C s t) R H S [] [] [(C.tree s t,0,0)] (((M.upd R<|.dK<|bD<|aF C s t).upd H<|.lst []).upd S<|.lst [D.tup [(C.tree s t).d,.int 0,.int 0]]):=
  #[((Ext.new J).upd F).upd f,F,f,J,by rw[ae n3,ae n1,Mem.upd_same],by rw[ae n2,Mem.upd_same];rfl,Mem.upd_same,n2,n1.symm,.nil,by simp only[da,TB,Ut,WR,List.sum_nil,VO,mY];lia,λw hw=>by
   rcases TK.mp hw with z|z
   .rw[z];exact sX 24 _ λx P=>P
   .cases z]
 refine#[_,v_ _ _ _ _ _ _ _ _ _ (TL _) I λX N' c6 c7 c8 c9 I'=>?_]
 simp_arith! only[aA,ac,dt,Tu]
 refine ak (h H X N' I'.x I'.lf' F ?_);have:=I'.ny;simpa [xW] using this
end
def ud(cf:Cf)(n:cM)(rest:List Rw):Rw->cM×List Rw
 |.ifr x a b=>(n,(if nm n x=0 then b else a)++rest)
 |.again x a=>(n,if nm n x=0 then rest else a++(.again x a::rest))
 |r=>(sN n (iF r) (num cf n r),rest)
def fin(cf:Cf):Nat->cM->List Rw->Option cM
 |_,n,[]=>ap n
 |0,_,_::_=>bb
 |k+1,n,r::rest=>fin cf k (ud cf n rest r).1 (ud cf n rest r).2
theorem dE{n:cM}:fin cf k n []=ap n:=by cases k<;>rfl
def Ec(cf:Cf)(b:Bool×Sx)(rest:List Rw):Option cM:=if b.1=true then fin cf (cf.most-b.2.steps.length) b.2.nums rest else bb
section
variable{cf:Cf}
theorem Bp:Ec cf (true,s) rest=fin cf (cf.most-s.steps.length) s.nums rest:=by rfl
theorem ET:Ec cf (cp,s) rest=none:=by rfl
theorem SX(h:s.steps.length<cf.most):nt cf pl v s=(true,#[s.nums,s.steps++[(pl,v)]]):=by unfold nt;rw[if_pos h]
theorem T5(h:¬s.steps.length<cf.most):nt cf pl v s=(cp,s):=by unfold nt;rw[if_neg h]
theorem qZ{n:cM}(h:¬s.steps.length<cf.most):fin cf (cf.most-s.steps.length) n (r::rest)=none:=by
 have:cf.most-s.steps.length=0:=by lia
 rw[this];rfl
theorem yr{n:cM}(h:s.steps.length<cf.most):fin cf (cf.most-s.steps.length) n (r::rest)=fin cf (cf.most-(s.steps++[p]).length) (ud cf n rest r).1 (ud cf n rest r).2:=by
 have:cf.most-s.steps.length=(cf.most-(s.steps++[p]).length)+1:=by simp;lia
 rw[this];rfl
theorem ww{x:Str}{a:List Rw}(F:∀pl s rest,fin cf (cf.most-s.steps.length) s.nums (a++rest)=Ec cf (cg cf a pl 0 s) rest):∀(f t:Nat)(s:Sx)(rest:List Rw),cf.most-s.steps.length<f->
  fin cf (cf.most-s.steps.length) s.nums (.again x a::rest)=Ec cf (fK cf x pl (λt s=>cg cf a (pl++[(t:Int)]) 0 s) f t s) rest
 |0,t,s,rest,h=>by lia
 |f+1,t,s,rest,h=>by
  unfold fK
  by_cases c:s.steps.length<cf.most
  .rw[SX c,if_pos rfl,yr c]
   by_cases e:nm s.nums x=0
   .have p:lk s.nums x=0:=by unfold lk;rw[if_pos e]
    rw[p,if_neg (by decide),Bp]
    simp[ud,if_pos e]
   have p:lk s.nums x=1:=by unfold lk;rw[if_neg e]
   rw[p];simp only[ud,if_neg e];have i1:=F (pl++[(t:Int)]) #[s.nums,s.steps++[(pl++[(t:Int)],1)]] (.again x a::rest);generalize G:cg cf a _ 0 _=ex at *;obtain⟨b,s2⟩:=ex;rw[i1];cases b with
   |true=>
    have B:s.steps.length+1<=s2.steps.length:=by
     have:=(fM (c:=cf) a (pl++[(t:Int)]) 0 #[s.nums,s.steps++[(pl++[(t:Int)],1)]]).1
     simp_all
    exact ww F f _ s2 _ (by lia)
   |false=>rfl
  rw[T5 c];exact qZ c
theorem m5(f:bo r=true):fin cf (cf.most-s.steps.length) s.nums (r::rest)=Ec cf (iO cf r pl s) rest:=by
 rw[cQ f];unfold kJ;have e:ud cf s.nums rest r=(sN s.nums (iF r) (num cf s.nums r),rest):=by
  cases r<;>trivial
 by_cases c:s.steps.length<cf.most
 .rw[if_pos c,Bp,yr c,e]
 rw[if_neg c];exact qZ c
mutual
theorem Sn:∀(r:Rw)(pl:aaW)(s:Sx)(rest:List Rw),fin cf (cf.most-s.steps.length) s.nums (r::rest)=Ec cf (iO cf r pl s) rest
 |.ifr x a b,pl,s,rest=>by
  unfold iO
  by_cases c:s.steps.length<cf.most
  .rw[SX c,if_pos rfl,yr (p:=(pl,lk s.nums x)) c]
   by_cases e:nm s.nums x=0
   .have f:lk s.nums x=0:=by unfold lk;rw[if_pos e]
    rw[f,if_neg (by decide)]
    simp only[ud,if_pos e];exact iM b (pl++[0]) 0 #[s.nums,s.steps++[(pl,0)]] rest
   .have f:lk s.nums x=1:=by unfold lk;rw[if_neg e]
    rw[f,if_pos rfl];simp only[ud,if_neg e];exact iM a (pl++[1]) 0 #[s.nums,s.steps++[(pl,1)]] rest
  .rw[T5 c,if_neg (by simp),ET]
   exact qZ c
 |.again x a,pl,s,rest=>by
  unfold iO;exact ww (λpl s rest=>iM a pl 0 s rest) _ _ _ _ (by lia)
 |.put x k,pl,s,rest=>m5 rfl
 |.take x k,pl,s,rest=>m5 rfl
 |.pick x y,pl,s,rest=>m5 rfl
 |.two w x y z,pl,s,rest=>m5 rfl
theorem iM:∀(rs:List Rw)(pl:aaW)(j:Nat)(s:Sx)(rest:List Rw),fin cf (cf.most-s.steps.length) s.nums (rs++rest)=Ec cf (cg cf rs pl j s) rest
 |[],pl,j,s,rest=>by unfold cg;rw[Bp];rfl
 |r::rs,pl,j,s,rest=>by
  unfold cg;rw[TY,Sn r (pl++[(j:Int)]) s (rs++rest)];generalize iO cf r (pl++[(j:Int)]) s=ex;obtain⟨b,s2⟩:=ex;cases b with
  |true=>rw[Bp,if_pos rfl];exact iM rs pl (j+1) s2 rest
  |false=>rw[ET,if_neg (by simp),ET]
end
end
def mkO(mn:Str):Option cM->D
 |some n=>.int (nm n mn)
 |none=>.non
theorem vz:C.mark z=mkO C.mn (fin (C.cf z) C.most (C.names.zip z.nums) C.rows):=by
 have h:=iM (cf:=C.cf z) C.rows [] 0 #[C.names.zip z.nums,[]] [];rw[UH]at h;have e:fin _ C.most _ _=Ec _ (C.run z) []:=h;rw[e];unfold Cse.mark vg Ec
 split
 .rw[dE];rfl
 rfl
def N0(p:aC->Bool):Tr->D
 |.e m=>m
 |.a q x y=>if p q=true then N0 p y else N0 p x
theorem iy{n:cM}(h:x∈n.map (·.1)):nm (sN n x v) y=if y=x then v else nm n y:=by
 unfold nm;rw[Rr h]
 split<;>rfl
structure Rl(C:Cse)(z:Sta)(g:Gs)(n:cM):Prop where
 nk:∀x,(Us x:aC)∉g.u->nm g.n x=nm n x
 nu:∀x,(Us x:aC)∈g.u->nm n x=aH C z (.inr x)
 pk:∀i:Nat,(Vi (i:Int):aC)∉g.u->(g.ps[i]?).getD 0=(z.pieces[i]?).getD 0
 k:n.map (·.1)=C.names
section
variable{s t:Sta}{n:cM}{p:aC->Bool}
theorem Ib(F:eK C.names C.w C.many r)(h:fU C g r=bb):(∀x∈fm r,(Us x:aC)∉g.u)/\∀i,Md C g.n r=ap i->(Vi i:aC)∉g.u:=by
 unfold fU at h
 split at h
 .simp_all
 split at h
 .cases h
 rename_i e
 refine#[λx f B=>?_,λi G B=>?_]
 .have:(Us x)∈(eD C).filter λk=>decide (k∈((fm r).filter λx=>decide ((Us x)∈g.u)).map Us):=by
   rw[TN];refine#[Uo.mpr (.inl<|TM.mpr #[x,zQ F x f,rfl]),decide_eq_true ?_]
   simp_all
  rw[e]at this;cases this
 simp_all
theorem Rl.num(R:Rl C z g n)(ok:GOk C g)(J:SOk C z)(f:cK C.names C.w C.many r)(h:fU C g r=bb):num (g.cf C) g.n r=num (C.cf z) n r:=by
 have F:eK C.names C.w C.many r:=by
  cases r with
  |ifr=>exact f.elim
  |again=>exact f.elim
  |_=>exact f
 obtain⟨B,G⟩:=Ib F h;have I:g.ps.length=z.pieces.length:=by rw[ok.lp,J.lp]
 cases r with
 |put x k=>rfl
 |take x i=>
  exact(R.pk _<|by rw[YY f.2.1];exact G i rfl)
 |pick x y=>
  have e:=R.nk y (B y<|by simp[fm])
  have H:=G _ rfl;have O:=f.2.2;rw[<- YY (Vm _<|by lia)]at H
  show (g.ps[(nm g.n y % (g.ps.length:Int)).toNat]?).getD 0=(z.pieces[(nm n y % (z.pieces.length:Int)).toNat]?).getD 0;rw[<- e,<- I,ok.lp];exact(R.pk _ H)
 |two w x y u=>
  show zw w _ _ C.w=zw w _ _ C.w;rw[R.nk y (B y<|by simp[fm]),R.nk u (B u<|by simp[fm])]
 |_=>exact f.elim
theorem Rl.step(R:Rl C z g n)(ok:GOk C g)(S:SOk C z)(J:eK C.names C.w C.many r)(h:fU C g r=bb):Rl C z (pC C g rest r) (ud (C.cf z) n rest r).1/\(pC C g rest r).td=(ud (C.cf z) n rest r).2:=by
 have look:=λx B=>R.nk x ((Ib J h).1 x B);have set:∀I,r=I->bo r=true->Rl C z { g with left:=g.left-1,td:=rest,n:=sN g.n _ (_T.num _ _ r),u:=g.u.filter λk=>decide (k≠.inr _) } (sN n _ _):=λI _ O=>by
  have e:=gY J O;have B:=ye e;have f:iF r∈n.map (·.1):=by rw[R.k];exact B
  rw[R.num ok S e h];refine#[λy G=>?_,λy G=>?_,λi P=>?_,by rw[jg];exact R.k]
  .rw[iy (by rw[ok.n.keys];exact B),iy f]
   split
   .rfl
   rename_i c
   refine R.nk y λH=>G ?_;rw[TN];exact#[H,decide_eq_true λz=>c (Sum.inr.inj z)]
  .have F:=TN.mp G
   rw[iy f,if_neg (by lia)]
   exact R.nu y F.1
  refine R.pk i λH=>P ?_;rw[TN];trivial
 cases r with
 |ifr x a b=>
  refine#[#[R.nk,R.nu,R.pk,R.k],?_];show (if nm _ x=0 then b else a)++rest=(if nm n x=0 then b else a)++rest
  rw[look x (by simp[fm])]
 |again x a=>
  refine#[#[R.nk,R.nu,R.pk,R.k],?_];show (if nm _ x=0 then rest else a++(.again x a::rest))=(if nm n x=0 then rest else a++(.again x a::rest))
  rw[look x (by simp[fm])]
 |_=>exact#[set _ rfl rfl,rfl]
theorem CM(o:C.Ok)(F:SOk C z):∀(f:Nat)(g:Gs)(n:cM),Rl C z g n->GOk C g->0<=g.left->g.left<f->∃B,Rl C z (ci C f g).2 B/\fin (C.cf z) g.left.toNat n g.td=fin (C.cf z) (ci C f g).2.left.toNat B (ci C f g).2.td/\
  ((ci C f g).1=bb->((ci C f g).2.td=[]/\(Us C.mn:aC)∉(ci C f g).2.u)\/((ci C f g).2.td≠[]/\(ci C f g).2.left<=0))
 |0,g,n,R,ok,h0,hf=>by lia
 |f+1,g,n,R,ok,h0,hf=>by
  unfold ci;cases e:g.td with
  |nil=>
   refine#[n,R,by rw[e],λh=>.inl #[e,?_]]
   simp_all
  |cons r rest=>
   dsimp only;have H:eK C.names C.w C.many r:=by
    have:=ok.td;rw[e]at this;exact this.1
   split
   .exact#[n,R,by rw[e],by lia]
   cases a:fU C g r with
   |some k=>exact#[n,R,by rw[e],by lia]
   |none=>
    obtain⟨R1,G⟩:=R.step ok F H a;have I:(pC C g rest r).left=g.left-1:=nS;obtain⟨B,R2,J,O⟩:=CM o F f _ _ R1 (xa o ok e) (by lia) (by lia)
    refine#[B,R2,?_,O];rw[<- J,I,G];have:g.left.toNat=(g.left-1).toNat+1:=by lia
    rw[this];rfl
theorem Rl.set(R:Rl C z g n)(ok:GOk C g)(hq:q∈eD C)(hu:q∈g.u):Rl C z (eF g q<|aH C z q) n:=by
 cases q with
 |inr x=>
  have hx:x∈C.names:=by
   rcases hZ hq with⟨y,hy,e⟩|⟨i,_,e⟩
   .simp_all
   cases e
  refine#[λy hy=>?_,λy hy=>R.nu y (TN.mp hy).1,λi hi=>R.pk i λhu=>hi (TN.mpr<|by trivial),R.k]
  show nm (sN _ x _) y=_;rw[iy (by rw[ok.n.keys];exact hx)]
  split
  .rename_i c;subst c;exact(R.nu _ hu).symm
  exact R.nk y λhu=>hy (TN.mpr<|by lia)
 |inl j=>
  obtain⟨i,hi,e⟩:∃i:Nat,i<C.many/\j=i:=by
   rcases hZ hq with⟨y,hy,e⟩|⟨i,h,e⟩
   .cases e
   exact#[i,h,by lia]
  subst e;refine#[λy hy=>R.nk y λhu=>hy (TN.mpr<|by trivial),λy hy=>R.nu y (TN.mp hy).1,λk hk=>?_,R.k]
  show ((g.ps.set _ _)[k]?).getD 0=_;rw[Xn]
  split
  .rename_i c
   subst c;rw[if_pos (by rw[ok.lp];exact hi)]
   rfl
  exact R.pk k λhu=>hk (TN.mpr<|by lia)
theorem Cc(o:C.Ok)(hs:SOk C s)(ht:SOk C t)(P:SOk C z):∀(f:Nat)(g:Gs)(n:cM),(∀q∈g.u,aH C z q=aH C (if p q=true then t else s) q)->Rl C z g n->GOk C g->0<=g.left->g.left<=C.most->(∀x∈g.u,x∈eD C)->g.u.length<f->
  N0 p (dz C s t f g)=mkO C.mn (fin (C.cf z) g.left.toNat n g.td)
 |0,g,n,hp,R,ok,h0,hm,hu,hf=>by lia
 |f+1,g,n,hp,R,ok,h0,hm,hu,hf=>by
  obtain⟨n',R',e,O⟩:=CM o P (C.most+1) g n R ok h0 (by lia)
  have H:=tR o (C.most+1) g ok;obtain⟨⟨T,F⟩,X,I⟩:=jF _ g;unfold dz;rw[e];generalize ci C _ g=go at *;obtain⟨a,B⟩:=go;dsimp only at *;cases a with
  |none=>
   unfold QA;rcases O rfl with⟨S,W⟩|⟨S,W⟩
   .rw[S,dE]
    show D.int _=D.int _;rw[R'.nk _ W]
   .have:B.left.toNat=0:=by lia
    rw[this];cases e3:B.td<;>trivial
  |some q=>
   have h:=I q rfl;have G:=hu q (F q h);have fl:=rD h;have way:∀y:Sta,aH C z q=aH C y q->SOk C y->N0 p (dz C s t f<|eF B q<|aH C y q)=mkO _ _:=λy Z ky=>by
    rw[<- Z]
    have:=Cc o hs ht P f _ n' (λk Y=>by rw[eZ]at Y;simp_all) (R'.set H G h) (sM H<|bP o P G) (by rw[fw];lia) (by rw[fw];lia)
     (λx hx=>by rw[eZ]at hx;simp_all) (by rw[eZ];lia)
    rw[fw]at this;have J:(eF B q<|aH C z q).td=B.td:=by cases q<;>rfl
    rw[J]at this;exact this
   show (if p q=true then N0 p _ else N0 p _)=_
   simp_all
theorem qr(f:C.names.length=nums.length)(h:x∉C.names):nm (C.names.zip nums) x=0:=by
 unfold nm gN;rw[List.find?_eq_none.mpr]
 .rfl
 intro q e;have:=(Wg e).1;lia
theorem ms(o:C.Ok)(F:SOk C s)(P:SOk C t)(B:SOk C z)(O:(aF C s t).length<24)(G:∀q∈eD C,aH C z q=aH C (if p q=true then t else s) q):N0 p (C.tree s t)=C.mark z:=by
 rw[vz];have f:∀q∈eD C,q∉aF C s t->aH C z q=aH C s q:=λq h J=>by
  rw[G q h];have:aH C s q=aH C t q:=Vz λc=>J (TN.mpr #[h,decide_eq_true c])
  split
  .exact this.symm
  .rfl
 have:=Cc (p:=p) o F P B 24 (g0 C s t) (C.names.zip z.nums) (λq h=>G q (rY q h)) #[λx I=>?_,λx _=>rfl,λi H=>?_,gs B.ln.symm] (LP o F) (by show (0:Int)<=((C.most:Nat):Int);lia) (We _) rY O
 .have e:(g0 C s t).left.toNat=C.most:=rfl
  rw[e]at this;exact this
 .by_cases c:x∈C.names
  .exact(f (.inr x) (Uo.mpr<|.inl<|TM.mpr #[x,c,rfl]) I).symm
  .show nm (C.names.zip s.nums) x=_
   rw[qr F.ln.symm c,qr B.ln.symm c]
 .show (s.pieces[i]?).getD 0=_
  by_cases c:i<C.many
  .have:=f (.inl (i:Int)) (Uo.mpr<|.inr<|TM.mpr #[i,UE.mpr c,rfl]) H
   exact this.symm
  .rw[UT (by rw[F.lp];lia),UT (by rw[B.lp];lia)]
theorem jM:∀(f:Nat)(g:Gs),(dz C s t f g).asks+1<=2 ^ g.u.length
 |0,g=>Nat.one_le_two_pow
 |f+1,g=>by
  obtain⟨⟨F,G⟩,_,h⟩:=jF (C:=C) (C.most+1) g;unfold dz;generalize ci C (C.most+1) g=go at *;obtain⟨a,B⟩:=go;dsimp only at *;cases a with
  |none=>exact Nat.one_le_two_pow
  |some q=>
   have J:=rD (h q rfl);have H:=jM f (eF B q<|aH C s q);have I:=jM f (eF B q<|aH C t q);rw[eZ]at H I;have e:2 ^ ((B.u.filter λk=>decide (k≠q)).length+1)<=2 ^ g.u.length:=UJ (by decide) (by lia)
   rw[Nat.pow_succ]at e;show 1+_+_+1<=_;lia
theorem qh:1+(C.tree s t).asks<=2 ^ (aF C s t).length:=by
 have:=jM (C:=C) (s:=s) (t:=t) 24 (g0 C s t);have e:(g0 C s t).u=aF C s t:=rfl;rw[e]at this;show 1+(dz C s t 24 _).asks<=_;lia
end
structure OutOk(n:Nat)(x:Out):Prop where
 s:x.s<2 ^ n
 f:x.f<2 ^ n
 l:(az x.f).length+(az x.s).length<=n
theorem dy{b:Nat}(h:b<2 ^ n):i∈az b↔i<n/\b.testBit i=true:=by
 rw[cI h,TN,UE]
def TrN:Tr->List aC->Prop
 |.e _,_=>True
 |.a q x y,u=>q∈u/\TrN x (u.filter λk=>decide (k≠q))/\TrN y (u.filter λk=>decide (k≠q))
theorem TrN.mono:∀{t:Tr}{u v:List aC},TrN t u->(∀k∈u,k∈v)->TrN t v
 |.e _,_,_,_,_=>trivial
 |.a q x y,u,v,h,s=>#[s q h.1,h.2.1.mono (by simp_all),h.2.2.mono<|by simp_all]
theorem vm{C:Cse}{s:Sta}:∀(f:Nat)(g:Gs),TrN (dz C s t f g) g.u
 |0,_=>trivial
 |f+1,g=>by
  obtain⟨⟨_,e⟩,_,h⟩:=jF _ g;unfold dz;generalize ci C _ g=go at *;obtain⟨a,p⟩:=go;cases a with
  |none=>trivial
  |some q=>
   have w:∀v,TrN _ (g.u.filter λk=>decide (k≠q)):=λv=>by
    have:=vm (C:=C) (s:=s) (t:=t) f (eF p q v);rw[eZ]at this;exact this.mono (by simp_all)
   exact#[by simp_all,w _,w _]
structure Wy(us:List aC)(u:List aC)(S F:Nat):Prop where
 s:S<2 ^ us.length
 f:F<2 ^ us.length
 sub:∀q∈u,q∈us
 no:∀q∈u,S.testBit (us.idxOf q)=cp/\F.testBit (us.idxOf q)=cp
 dis:∀i,¬(S.testBit i=true/\F.testBit i=true)
section
variable{b:Int}
theorem OQ(e:q∈us):bitK us q<2 ^ us.length:=Nat.pow_lt_pow_right (by decide) (Vy e)
theorem xV:(bitK us q).testBit i=decide (us.idxOf q=i):=by unfold bitK;grind
theorem Jh(p:k∈us)(e:q∈us)(h:us.idxOf q=us.idxOf k):k=q:=by
 have f:=List.getElem_idxOf (Vy e)
 simp_all
theorem Wy.swap(w:Wy us u S F):Wy us u F S:=#[w.f,w.s,w.sub,λq e=>(w.no q e).symm,λi h=>w.dis i h.symm]
theorem Wy.fa(w:Wy us u S F)(G:q∈u):Wy us (u.filter λk=>decide (k≠q)) S (F ||| bitK us q):=by
 have e:=w.sub q G;refine#[w.s,Nat.or_lt_two_pow w.f (OQ e),λk B=>w.sub k (TN.mp B).1,λk B=>?_,λi h=>?_]
 .obtain⟨p,H⟩:=TN.mp B
  refine#[(w.no k p).1,?_];rw[Yb,(w.no k p).2,xV];exact decide_eq_false λz=>(of_decide_eq_true H) (Jh (w.sub k p) e z)
 rw[Yb,xV]at h
 by_cases c:us.idxOf q=i
 .subst c;rw[(w.no q G).1]at h;exact absurd h.1 (by simp)
 rw[decide_eq_false c,Vw]at h;exact w.dis i h
theorem Wy.so(w:Wy us u S F)(e:q∈u):Wy us (u.filter λk=>decide (k≠q)) (S ||| bitK us q) F:=(w.swap.fa e).swap
theorem uF{r:Nat->Bool}:∀(l:List Nat),(∀i,¬(p i=true/\r i=true))->(l.filter p).length+(l.filter r).length<=l.length
 |[],_=>by simp
 |i::l,h=>by
  have:=uF l h;rw[Uh,Uh]
  split<;>split<;>simp_all<;>lia
theorem Wy.ok(w:Wy us u S F){v:Str}:OutOk us.length #[v,S,F]:=by
 refine#[w.s,w.f,?_];rw[cI w.f,cI w.s];have:=uF (Ub us.length) λi h=>w.dis i h.symm
 simp_all
theorem su:∀(t:Tr)(u:List aC)(S F:Nat),TrN t u->Wy us u S F->∀x∈g8 a b us t S F,OutOk us.length x
 |.e m,u,S,F,_,w,x,hx=>by
  have:x=#[iJ a b m,S,F]:=by simpa [g8] using hx
  subst this;exact w.ok
 |.a q x y,u,S,F,h,w,o,ho=>by
  rcases Uo.mp ho with h1|h1
  .exact su y _ _ _ h.2.2 (w.fa h.1) o h1
  exact su x _ _ _ h.2.1 (w.so h.1) o h1
theorem Wy.zero(h:∀q∈u,q∈us):Wy us u 0 0:=#[XT _,XT _,h,λq _=>#[Nat.zero_testBit _,Nat.zero_testBit _],by simp_all]
end
section
variable{s:Sta}
theorem u_:TrN (C.tree s t) (aF C s t):=vm 24 _
end
theorem jq{a b:Int}{us:List aC}:∀(t:Tr){S F:Nat},(g8 a b us t S F).length=t.asks+1
 |.e m,S,F=>rfl
 |.a q x y,S,F=>by unfold g8 Tr.asks;rw[Ui,jq x,jq y];lia
def flt(rs:List Rw):List Rw:=rs.filter bo
noncomputable def Fu(d:D):Bool:=match d with
 |.tup (.str w::_)=>!(decide (w=("if":Str))||decide (w=("again":Str)))
 |_=>true
theorem P9(h:eK names m many r):Fu r.d=bo r:=by
 have e:∀w rest,Fu (.tup (.str w::rest))=!(decide _||decide _):=λ_ _=>rfl
 cases r with
 |two w x y z=>
  simp[Rw.d,e,bo];rcases h.1 with rfl|rfl|rfl|rfl<;>decide +kernel
 |_=>rfl
theorem zk{names:aaX}{m many:Int}:∀{rs:List Rw},bf names m many rs->(aE rs).filter Fu=aE (flt rs)
 |[],_=>rfl
 |r::rs,h=>by
  have e:=zk h.2;unfold flt at e ⊢;rw[aE,Uh,Uh,P9 h.1,e]
  split<;>rfl
theorem yt{names:aaX}{m many:Int}:∀{rs:List Rw},bf names m many rs->bf names m many (flt rs)
 |[],_=>trivial
 |r::rs,h=>by
  have e:=yt h.2;unfold flt at e ⊢;rw[Uh]
  split
  .exact#[h.1,e]
  exact e
theorem rU(h:eK names m many r):∃(w:Str)(rest:List D),r.d=.tup (.str w::.str (iF r)::rest):=by
 cases r<;>exact#[_,_,rfl]
theorem wz(h:d∈aE rs):∃r∈rs,d=r.d:=by
 rw[hV]at h;obtain⟨r,e,rfl⟩:=TM.mp h;exact#[r,e,rfl]
theorem iX{names:aaX}{m many:Int}:∀{rs:List Rw}{r:Rw},bf names m many rs->r∈rs->eK names m many r
 |r::rs,q,h,hq=>by
  rcases TK.mp hq with rfl|hq
  .exact h.1
  exact iX h.2 hq
theorem qx(J:rs.length<=1000)(ok:bf names m many rs)(h:Q (.tup<|aE<|flt rs) M):wc ad [.tup (aE rs)] M Q E:=by
 rw[S_];unfold At
 simp_arith! only[aA,bc,aa,af,am,aN,bM,ac,dt,aI,br,bi,Ut,TY,TU,TB]
 refine dh Fu id aO (by rw[b_];lia) (λx G K q=>?_) (λx G _ K q=>q) ?_
 .obtain⟨r,I,rfl⟩:=wz G
  obtain⟨w,rest,e⟩:=rU (iX ok I);have H:Fu r.d=!(decide (w=("if":Str))||decide (w=("again":Str))):=by rw[e];rfl
  rw[H]at q;rw[e];simp![atI_0];refine#[bj (by decide),λp B=>?_]
  rw[Mem.upd_del,au B];rcases Decidable.em (w=("if":Str)) with c1|c1
  .subst c1
   simpa [aR] using q
  .rcases Decidable.em (w=("again":Str)) with c2|c2
   .subst c2
    simpa [aR] using q
   .have F:¬("if":Str)=w:=λz=>c1 z.symm
    have f:¬("again":Str)=w:=λz=>c2 z.symm;simpa [aR,c1,c2,F,f] using q
 intro p B;rw[U6,zk ok];refine bZ B ?_;exact ak h
theorem fW(B:Has k M)(G:2<=m)(f:m<=997)(F:0<=v/\v<m)(h:∀w M',0<=w->w<m->w≠v->Dr k M M'->Q (.int w) M'):oa ad [.ref k.p,.int m,.int v] M Q E:=by
 rw[Tb];unfold Ch;simp![];refine aP B (by lia) (by lia) λr M' a b d=>?_
 refine#[by lia,ak<|h _ _ (Vm _<|by lia) (U3 _<|by lia) ?_ d]
 intro z
 by_cases c:v+1+r<m
 .rw[Int.emod_eq_of_lt (by lia) c]at z;lia
 have e:(v+1+r) % m=v+1+r-m:=by
  rw[<- Int.sub_emod_right,Int.emod_eq_of_lt (by lia) (by lia)]
 lia
def Io(C:Cse)(s t:Sta):D:=if (C.run s).1=true/\(C.run t).1=true then .tup [.int (nm (C.run s).2.nums C.mn),.int (nm (C.run t).2.nums C.mn)] else .non
theorem pY:∀(n:Nat)(f:Str->Int)(xs:aaX),fits n (xs.map λx=>D.int (f x))=true
 |n,f,[]=>by rfl
 |n,f,x::xs=>by
  have:=pY n f xs
  assumption
theorem KD{r:Bool×Sx}:bX 60 (dA names r)=true:=by
 unfold dA
 split
 .simp[bX,(pY 59 _ _)]
 rfl
theorem Le{r:Bool×Sx}:aR (dA names r) .non=!r.1:=by
 unfold dA;cases r.1<;>rfl
theorem yE{r:Bool×Sx}(f:r.1=true)(e:names[j]?=ap mk):∃xs,dA names r=.tup xs/\fE xs (j:Int)=ap (.int<|nm r.2.nums mk):=by
 refine#[names.map λx=>.int (nm r.2.nums x),by unfold dA;rw[if_pos f],?_]
 rw[bw (by lia),Ua,TJ,e];rfl
section
variable{s:Sta}
theorem SW(o:C.Ok)(e:SOk C z)(h:K (dA C.names<|C.run z) M):
  ai av (kg<|aj (kf ad) EE 3<|aa (ac 1)<|aa (ac 0)<|aa (ac 2) af) (dC<|.int 1) [ap z.d,ap C.d,ap (.int (C.most:Nat))] M K:=by
 rw[e.pd]
 simp_arith! only[ai,kg,aj,aa,ac,af,dC,Tu,dt]
 refine#[rfl,ka (o.pl e) ?_];unfold xm
 simp_arith! only[av,aI,atI_1,Tu,dt]
 exact h
theorem eM(o:C.Ok)(Y:SOk C s)(Z:SOk C t)(h:Q (Io C s t) M):mR ad [C.d,s.d,t.d,.int (C.most:Nat)] M Q E:=by
 have I:=@xM C;rw[QM];unfold Bz;generalize B:lg ad (aJ E)=K3;generalize G:(ai av (kg<|aj (kf ad) jP 3<|aa (ac 1)<|aa (ac 0)<|aa (ac 2) af)<|dC<|.int 1)=te;have J:∀{z:Sta}{K:DK},SOk C z->K (dA C.names<|C.run z) M->te [ap z.d,ap C.d,ap (.int (C.most:Nat))] M K:=λ{z K} R q=>by
  rw[<- G];exact SW o R q
 simp_arith! only[ah,bO,cV,aN,bM,am,bQ,aa,ac,af,dt,Tu,bi,TB,Ut,TY,TU]
 refine#[bj (by simp),λp H=>bZ H ?_]
 simp_arith! only[aI,br]
 unfold cA;refine#[aO,?_];simp only[ag,TQ,cX,if_true,UD];refine J Y #[g7 (by simp),?_]
 unfold cA;refine#[aO,?_];simp only[ag,TQ,cX,if_true];refine J Z #[g7 (by simp),?_]
 unfold cA;refine#[aO,λp H=>?_]
 simp_arith! only[TU,TY,TQ,dt,Tu,dF,Mem.upd_same,Mem.upd_del,au H]
 rw[<- B];unfold lg;generalize f:lR ad (aJ E)=K2;unfold Io at h;have S:fits 60 [dA C.names (C.run s),dA C.names (C.run t)]=true:=by simp[fits,KD]
 simp_arith! only[ah,aG,al,ai,dC,ac,dt,Tu,w8,jO,aI,dv,S,(show bX 60 D.non=true from rfl),and_self,if_true,V6,List.any_nil,Le,Vw]
 by_cases c:(C.run s).1=true/\(C.run t).1=true
 .rw[if_pos c]at h
  simp only[c.1,c.2,VN,Bool.or_self,Ue,if_false,aB];rw[<- f];unfold lR;generalize F:lI ad (aJ E)=K1;obtain⟨j,O,e⟩:=oC o.mn;obtain⟨xs,X,T⟩:=yE c.1 e;obtain⟨ys,W,P⟩:=yE c.2 e;rw[I];simp![atI_1,atI_4,dP,O];rw[<- F];unfold lI;simp![atI_0,atI_1,X,W,T,P];exact#[TR o.l1 (by decide),bj (by simp),ak h]
 .rw[if_neg c]at h
  have:(!(C.run s).1||!(C.run t).1)=true:=by
   cases h1:(C.run s).1<;>cases h2:(C.run t).1<;>simp_all
  simp only[this,if_true,aA,dC];exact ak h
theorem lm(h:Q (Io C s t) M):frz (Io C s t) M Q:=by
 unfold Io at h ⊢
 split at h
 .rename_i c;rw[if_pos c];exact h
 rename_i c;rw[if_neg c];exact h
end
theorem IW{n:cM}:ud cf n (rs++rest) r=((ud cf n rs r).1,(ud cf n rs r).2++rest):=by
 cases r with
 |ifr x a b=>simp[ud]
 |again x a=>
  simp only[ud]
  split<;>simp
 |_=>rfl
theorem lE:∀(k:Nat)(n:cM)(rs:List Rw)(f:cM),fin cf k n rs=ap f->∀(e:Nat)(rest:List Rw),∃j,e<=j/\fin cf (k+e) n (rs++rest)=fin cf j f rest
 |k,n,[],f,h,e,rest=>by
  rw[dE]at h;cases h;exact#[_,by lia,rfl]
 |0,n,r::rs,f,h,e,rest=>by cases h
 |k+1,n,r::rs,f,h,e,rest=>by
  obtain⟨j,B,p⟩:=lE k _ _ _ h e _;refine#[j,B,?_];have:k+1+e=(k+e)+1:=by lia
  rw[this,TY];show fin cf (k+e) _ _=_;rw[IW];exact p
theorem stp_cf{n:cM}:ud #[m,ps,k1] n rest r=ud #[m,ps,k2] n rest r:=by rfl
theorem Hy{m:Int}:∀(k:Nat)(n:cM)(rs:List Rw),fin #[m,ps,k1] k n rs=fin #[m,ps,k2] k n rs
 |k,n,[]=>by rw[dE,dE]
 |0,n,r::rs=>rfl
 |k+1,n,r::rs=>by
  exact Hy k _ _
def fz(cf:Cf)(n:cM)(rs:List Rw):cM:=rs.foldl (λn r=>sN n (iF r) (num cf n r)) n
theorem mh:∀(rs:List Rw)(k:Nat)(n:cM),(∀r∈rs,bo r=true)->rs.length<=k->fin cf k n rs=ap (fz cf n rs)
 |[],k,n,_,_=>dE
 |r::rs,0,n,_,h=>by simp at h
 |r::rs,k+1,n,hs,h=>by
  have f:=hs r (by simp_all)
  have e:ud cf n rs r=(sN n (iF r) (num cf n r),rs):=by
   cases r<;>trivial
  show fin cf k _ _=_;rw[e];exact mh rs k _ (by simp_all) (by simpa using h)
theorem L1{n:cM}:∀(rs:List Rw),(fz cf n rs).map (·.1)=n.map (·.1):=by
 intro rs
 induction rs generalizing n with
 |nil=>rfl
 |cons r rs ih=>
  show (fz cf _ rs).map _=_;rw[ih,jg]
theorem Me{y:Str}:∀(rs:List Rw)(n:cM),(∀r∈rs,iF r∈n.map (·.1))->(∀r∈rs,iF r≠y)->nm (fz cf n rs) y=nm n y
 |[],n,_,_=>rfl
 |r::rs,n,hk,hn=>by
  show nm (fz cf _ rs) y=_;rw[Me rs _ (λq e=>by rw[jg];simp_all) (by simp_all),iy (by simp_all),if_neg λz=>hn r (by simp_all) z.symm]
theorem EL{q:Int}(hp:0<=p/\p<m)(hq:0<=q/\q<m)(h:p≠q):(a+p) % m≠(a+q) % m:=by
 intro z;obtain⟨c,hc⟩:=(Int.dvd_of_emod_eq_zero<|Int.emod_eq_emod_iff_emod_sub_eq_zero.mp z);have:c=0:=by
  rcases Int.lt_trichotomy c 0 with g|g|g
  .have:=XM (show c<=-1 by lia) (show 0<=m by lia)
   lia
  .exact g
  .have:=XM (by trivial) (show 0<=m by lia)
   lia
 subst this;lia
noncomputable def Cse.rw(C:Cse)(rs:List Rw):Cse:={ C with rows:=rs }
def Cse.two(C:Cse)(s t:Sta):Prop:=∃a b,C.mark s=.int a/\C.mark t=.int b/\a≠b
section
variable{n:cM}
theorem yP(o:C.Ok)(e:SOk C z):NOk C.names C.w (C.run z).2.nums:=dH (o.pl e).co _ (o.pl e).ok [] 0 _ (o.pl e).nok
theorem zj(h:(C.run z).1=true):fin (C.cf z) C.most (C.names.zip z.nums) C.rows=ap (C.run z).2.nums:=by
 have e:=iM (cf:=C.cf z) C.rows [] 0 #[C.names.zip z.nums,[]] [];rw[UH]at e;have f:fin _ C.most _ _=Ec _ (C.run z) []:=e;rw[f];unfold Ec;rw[if_pos h,dE]
theorem lO{n:cM}(h:fin (C.cf z) C.most (C.names.zip z.nums) C.rows=ap n):(C.run z).1=true/\(C.run z).2.nums=n:=by
 have e:=iM (cf:=C.cf z) C.rows [] 0 #[C.names.zip z.nums,[]] [];rw[UH]at e;have f:fin _ C.most _ _=Ec _ (C.run z) []:=e;rw[f]at h;unfold Ec at h
 split at h
 .rw[dE]at h
  simp_all
 cases h
theorem fk{n:cM}(h:fin (C.cf z) C.most (C.names.zip z.nums) C.rows=ap n):C.mark z=.int (nm n C.mn):=by
 rw[vz,h];rfl
theorem pT(h:fin (C.cf z) (C.most-4) (C.names.zip z.nums) C.rows=ap n)(F:4<=C.most)(p:∀r∈more,bo r=true)(G:more.length<=4):(C.rw (C.rows++more)).mark z=.int (nm (fz (C.cf z) n more) C.mn):=by
 obtain⟨j,B,e⟩:=lE _ _ _ _ h 4 more;have f:C.most-4+4=C.most:=by lia
 rw[f,mh more j n p (by lia)]at e
 exact fk (C:=C.rw (C.rows++more)) e
end
def kX(y:Str)(rs:List Rw):List Rw:=rs.filter λr=>decide (iF r≠y)
noncomputable def Kh(y:Str)(d:D):Bool:=match d with
 |.tup (_::.str x::_)=>decide (x≠y)
 |_=>true
theorem vJ{names:aaX}{m many:Int}{y:Str}:∀{rs:List Rw},bf names m many rs->(aE rs).filter (Kh y)=aE (kX y rs)
 |[],_=>rfl
 |r::rs,h=>by
  have f:=vJ (y:=y) h.2;obtain⟨w,rest,e⟩:=rU h.1;have p:Kh y r.d=decide (iF r≠y):=by rw[e];rfl
  unfold kX at f ⊢;rw[aE,Uh,Uh,p,f]
  split<;>rfl
theorem Cn{names:aaX}{m many:Int}:∀{rs:List Rw},bf names m many rs->bf names m many (rs.filter p)
 |[],_=>trivial
 |r::rs,h=>by
  have e:=Cn (p:=p) h.2;rw[Uh]
  split
  .exact#[h.1,e]
  exact e
theorem E4:∀{rs:List Rw},bf names m many rs->(∀r∈rs,bo r=true)->∀r∈rs,cK names m many r:=λh f r e=>gY (iX h e) (f r e)
theorem gq:∀{rs:List Rw},(∀r∈rs,bo r=true)->dD rs=0
 |[],_=>rfl
 |r::rs,h=>by
  have f:=h r (by simp_all)
  have p:=gq λq e=>h q (TV _ e);cases r<;>trivial
theorem uj:∀r∈flt rs,bo r=true:=λr e=>(TN.mp e).2
theorem ig:∀r∈kX y (flt rs),bo r=true:=λr e=>uj r (TN.mp e).1
theorem Dk{a b c:D}:kP [a,b,c,d,e] bb (ap 3)=[a,b,c]:=rfl
section
variable{s:Sta}
theorem Cse.Ok.rw(o:C.Ok)(e:bf C.names C.w C.many rs)(f:dD rs<=7):(C.rw rs).Ok:=#[o.m2,o.m1,o.few,o.most,o.nd,o.l0,o.l1,e,f,o.mn]
theorem SOk.rw(k:SOk C s):SOk (C.rw rs) s:=#[k.ln,k.lp,k.rn,k.rp]
theorem oK(o:C.Ok)(f:∀r∈rs,bo r=true)(e:rs.length<=C.most):fin ((C.rw rs).cf z) (C.rw rs).most (C.names.zip z.nums) (C.rw rs).rows=ap (fz (C.cf z) (C.names.zip z.nums) rs):=mh rs _ _ f e
theorem Ds(o:C.Ok)(f:∀r∈rs,bo r=true)(e:rs.length<=C.most):(C.rw rs).mark z=.int (nm (fz (C.cf z) (C.names.zip z.nums) rs) C.mn):=fk (oK o f e)
theorem HI{n:cM}(F:fin (C.cf s) C.most (C.names.zip s.nums) C.rows=ap n)(G:fin (C.cf t) C.most (C.names.zip t.nums) C.rows=ap e):Io C s t=.tup [.int (nm n C.mn),.int (nm e C.mn)]:=by
 obtain⟨p,f⟩:=lO F;obtain⟨h,B⟩:=lO G;unfold Io;rw[if_pos #[p,h],f,B]
theorem ne_e{w:D}{rest:List D}(q:K (!decide (x=y)) M):al (ai qP (ai av (ac 0)<|dC<|.int 1)<|ac 1) [ap (.tup (w::.str x::rest)),ap (.str y)] M K:=by
 simp_arith! only[al,ai,ac,dC,av,qP,dv,bX,aR,aI,atI_1,dt,Tu]
 exact#[trivial,trivial,q]
theorem wG(o:C.Ok)(hs:SOk C s)(ht:SOk C t)(hy:y∈C.names)(hn:aH C s (.inr y)≠aH C t (.inr y))(hrl:C.rows.length<=1000)(hl:(flt C.rows).length+1<=C.most)(h:∀rs,(C.rw rs).Ok->(C.rw rs).two s t->(∀r∈rs,bo r=true)->rs.length<=(flt C.rows).length+1->Q (C.rw rs).d M):Cz ad [C.d,s.d,t.d,.int (C.most:Nat),.str y] M Q E:=by
 have hcd:=@xM C;have G:∀rs,(C.rw rs).d=.tup [.int C.w,.tup (C.names.map D.str),.int (C.many:Nat),.tup (aE rs),.str C.mn]:=λ_=>rfl;have B:=yt o.ok;have F:bf C.names C.w C.many (kX y<|flt C.rows):=Cn B;have ln:(kX y<|flt C.rows).length<=(flt C.rows).length:=Uy _ _;have lf:(flt C.rows).length<=C.rows.length:=Uy _ _;have o1:=o.rw F (by rw[gq ig];decide)
 have f1:=oK (z:=s) o ig (show (kX y<|flt C.rows).length<=C.most by lia)
 have f2:=oK (z:=t) o ig (show (kX y<|flt C.rows).length<=C.most by lia)
 have em:=HI (C:=C.rw (kX y<|flt C.rows)) f1 f2;have rk:∀(z:Sta),SOk C z->∀r∈kX y (flt C.rows),iF r∈(C.names.zip z.nums).map (·.1):=λz I r H=>by
  rw[gs I.ln.symm];exact ye (E4 F ig r H)
 have ny:∀(z:Sta),SOk C z->nm (fz (C.cf z) (C.names.zip z.nums)<|kX y<|flt C.rows) y=aH C z (.inr y):=λz I=>Me _ _ (rk z I) λr H=>of_decide_eq_true (TN.mp H).2;rw[Sq];unfold Co;generalize Z:lA ad (aJ E)=K5;rw[hcd]
 simp_arith! only[ah,aq,bc,aa,af,am,aN,bM,aj,ai,ac,dC,av,aI,atI_3,dt,Tu,bi,Ut,TB,TY,TU]
 refine#[rfl,aL (λ_ _ q=>qx hrl o.ok q) ?_]
 simp_arith! only[frz,br,aI,UD]
 refine dh (Kh y) id aO (by rw[b_];lia) (λx hx K q=>?_) (λx hx _ K q=>q) ?_
 .obtain⟨r,H,rfl⟩:=wz hx
  obtain⟨w,rest,e⟩:=rU (iX B H);have e2:Kh y r.d=decide (iF r≠y):=by rw[e];rfl
  rw[e2]at q;rw[e];exact ne_e (by simpa [aR] using q)
 intro p hp;rw[U6,vJ B]
 simp_arith! only[Mem.upd_same,Mem.upd_del,au hp,bW,aI,ag,TQ]
 rw[<- Z];unfold lA;generalize Y:m3 ad (aJ E)=K4;simp![Mem.upd_del,au hp,Dk,atI_4];refine#[bj (by decide),bj (by decide),?_]
 rw[<- Y];unfold m3;generalize R:lK ad (aJ E)=K3
 simp_arith! only[ah,aq,am,aj,aa,ac,af,dt,Tu]
 rw[<- G];refine#[rfl,aL (λ_ _ q=>eM (C:=C.rw (kX y<|flt C.rows)) o1 hs.rw ht.rw q)<|lm ?_];rw[em];simp only[ag,TQ];rw[<- R];unfold lK;generalize P:lY ad (aJ E)=K2;simp![atI_0,atI_1];generalize X:fz (C.cf s) (C.names.zip s.nums) (kX y<|flt C.rows)=ns at *;generalize O:fz (C.cf t) (C.names.zip t.nums) (kX y<|flt C.rows)=nt' at *;have T:(C.rw<|kX y<|flt C.rows).mn=C.mn:=rfl;rw[T]
 by_cases c:nm ns C.mn=nm nt' C.mn
 .simp only[if_pos c]
  rw[<- P];unfold lY;generalize S:lU ad (aJ E)=K1;rw[G];simp![atI_4];refine#[bj (by decide),?_]
  rw[<- S];unfold lU;simp![Dk,atI_4,b_];refine#[bj (by decide),bj (by lia),bj (by decide),bj (by decide),ak ?_]
  have er:aE (kX y<|flt C.rows)++[D.tup [.str "sum",.str C.mn,.str C.mn,.str y]]=aE (kX y (flt C.rows)++[.two "sum" C.mn C.mn y]):=by
   rw[bU];rfl
  rw[er,<- G];have f:∀r∈kX y (flt C.rows)++[.two "sum" C.mn C.mn y],bo r=true:=λr H=>by
   rcases Uo.mp H with h|h
   .exact ig r h
   .simp only[Wu]at h;subst h;rfl
  have W:bf C.names C.w C.many (kX y (flt C.rows)++[.two "sum" C.mn C.mn y]):=OkRs_append.mpr #[F,#[#[.inl rfl,o.mn,o.mn,hy],trivial]];refine h _ (o.rw W<|by rw[gq f];decide) ?_ f (by rw[Ui,Vh];lia)
  have g:∀(z:Sta),SOk C z->(C.rw (kX y (flt C.rows)++[.two "sum" C.mn C.mn y])).mark z=.int ((nm (fz (C.cf z) (C.names.zip z.nums)<|kX y<|flt C.rows) C.mn+aH C z (.inr y)) % C.w):=λz I=>by
   refine (Ds o f<|by rw[Ui,Vh];lia).trans ?_
   have e:fz (C.cf z) (C.names.zip z.nums) (kX y (flt C.rows)++[.two "sum" C.mn C.mn y])=sN (fz (C.cf z) (C.names.zip z.nums)<|kX y<|flt C.rows) C.mn (num (C.cf z) (fz (C.cf z) (C.names.zip z.nums)<|kX y<|flt C.rows)<|.two "sum" C.mn C.mn y):=by
    unfold fz;rw[List.foldl_append];rfl
   have ek:C.mn∈(fz (C.cf z) (C.names.zip z.nums)<|kX y<|flt C.rows).map (·.1):=by rw[L1,gs I.ln.symm];exact o.mn
   rw[e];rw[iy ek,if_pos rfl];show D.int (zw "sum" _ _ _)=_;unfold zw;rw[if_pos rfl,ny z I];rfl
  refine#[_,_,g s hs,g t ht,?_];rw[X,O,c];have J:(Us y:aC)∈eD C:=Uo.mpr (.inl<|TM.mpr #[y,hy,rfl]);exact EL (bP o hs J) (bP o ht J) hn
 .simp only[if_neg c]
  refine ak (h _ o1 #[_,_,?_,?_,c] ig<|by lia)
  .exact fk f1
  .exact fk f2
end
theorem qi:∀(n:Nat)(xs:aaX),fits n (xs.map D.str)=true
 |n,[]=>by rfl
 |n,x::xs=>by
  have:=qi n xs
  assumption
section
variable{s:Sta}
theorem ne_m(q:K (!decide (x=e)) M):al (ai qP (ac 0)<|ai av (ac 1)<|dC<|.int 4) [ap (.str x),ap (.tup [B,p,f,h,.str e])] M K:=by
 trivial
theorem Lp{xs:aaX}{b:Bool}(F:b=!xs.isEmpty)(q:K b M):al (ai qP (ac 2)<|am<|bQ af) [f,e,ap (.lst<|xs.map D.str)] M K:=by
 refine#[by trivial,λp B=>bZ B ?_]
 have h:fits 59 []=true:=rfl;simp only[qP,dv,bX,(qi 59 xs),h];refine#[trivial,trivial,?_];rw[F]at q;cases xs<;>assumption
theorem wU:∀r∈[Rw.take f 0,.two "sum" h h f],bo r=true:=by
 intro r e;simp at e;rcases e with rfl|rfl<;>rfl
theorem rO(o:C.Ok)(hs:SOk C s)(ht:SOk C t)(h0:0<C.many)(hn:aH C s (.inl 0)≠aH C t (.inl 0))(hrl:C.rows.length<=1000)(h4:4<=C.most)(f1:fin (C.cf s) (C.most-4) (C.names.zip s.nums) C.rows=ap n1)(Z:fin (C.cf t) (C.most-4) (C.names.zip t.nums) C.rows=ap n2)(k1:n1.map (·.1)=C.names)(k2:n2.map (·.1)=C.names)(he:nm n1 C.mn=nm n2 C.mn)(h:∀more,(C.rw (C.rows++more)).Ok->(C.rw (C.rows++more)).two s t->(∀r∈more,bo r=true)->more.length<=2->Q (C.rw (C.rows++more)).d M):Kz ad [C.d] M Q E:=by
 have W:=@xM C;have F:∀rs,(C.rw rs).d=.tup [.int C.w,.tup (C.names.map D.str),.int (C.many:Nat),.tup (aE rs),.str C.mn]:=λ_=>rfl;have l1:=o.l1;have G:(Vi 0:aC)∈eD C:=Uo.mpr (.inr<|TM.mpr #[0,UE.mpr h0,rfl]);have Y:∀more:List Rw,(∀r∈more,bo r=true)->bf C.names C.w C.many more->(C.rw (C.rows++more)).Ok:=λmore e P=>o.rw (OkRs_append.mpr #[o.ok,P]) (by rw[dR,gq e];have:=o.h;lia)
 rw[u_q7];unfold JT;generalize T:rZ ad (aJ E)=K4;rw[W];simp![atI_4];refine#[bj (by decide),bj (by decide),?_]
 rw[<- T];unfold rZ;generalize R:t6 ad (aJ E)=K3
 simp_arith! only[ah,bO,cV,aN,bM,ai,ac,dC,av,aI,atI_1,dt,Tu,bi,Ut,TB,TY,TU,br,UD]
 refine dh (λd=>match d with|.str x=>!decide (x=C.mn)|_=>true) id aO (by rw[Tz];lia) (λx I K q=>?_) (λx I _ K q=>q) ?_
 .obtain⟨y,hy,rfl⟩:=TM.mp I
  exact ne_m q
 intro p hp;have ef:((C.names.map D.str).filter λd=>match d with|.str x=>!decide (x=C.mn)|_=>true)=(C.names.filter λx=>!decide (x=C.mn)).map D.str:=by
  rw[UM];rfl
 rw[U6,ef]
 simp_arith! only[dF,TQ,dt,Tu,Mem.upd_same,Mem.upd_del,au hp]
 rw[<- R];unfold t6;generalize H:oz ad (aJ E)=K2;generalize S:rT ad (aJ E)=K1;cases hf:C.names.filter λx=>!decide (x=C.mn) with
 |nil=>
  unfold ah aG;refine Lp (b:=cp) rfl ?_;rw[if_neg (by simp),<- H]
  unfold oz;simp![Dk,atI_3,atI_4,b_];refine#[bj (by lia),bj (by decide),bj (by decide),ak ?_]
  have O:aE C.rows++[D.tup [.str "take",.str C.mn,.int 0]]=aE (C.rows++[.take C.mn 0]):=by rw[bU];rfl
  rw[O,<- F];have e:∀r∈[Rw.take C.mn 0],bo r=true:=λr X=>by simp only[Wu]at X;subst X;rfl
  have g:∀(z:Sta)(n:cM),fin (C.cf z) (C.most-4) (C.names.zip z.nums) C.rows=ap n->n.map (·.1)=C.names->(C.rw (C.rows++[.take C.mn 0])).mark z=.int (aH C z<|.inl 0):=λz n f k=>by
   refine (pT f h4 e<|by simp).trans ?_
   have:nm (fz (C.cf z) n [.take C.mn 0]) C.mn=aH C z (.inl 0):=by
    show nm (sN n C.mn _) C.mn=_;rw[iy (by rw[k];exact o.mn),if_pos rfl];rfl
   rw[this]
  exact h _ (Y _ e #[#[o.mn,We _,by lia],trivial]) #[_,_,g s n1 f1 k1,g t n2 Z k2,hn] e (by simp)
 |cons x0 xs=>
  have I:x0∈C.names.filter λx=>!decide (x=C.mn):=by rw[hf];exact Uu
  have B:=(TN.mp I).1;have J:¬x0=C.mn:=by simpa using (TN.mp I).2
  unfold ah aG;refine Lp (b:=true) rfl ?_;rw[if_pos rfl,<- S];unfold rT;rw[TB];simp![atI_0,atI_4];refine#[bj (by decide),bj (by decide),bj (by decide),?_]
  rw[<- H];unfold oz;simp![Dk,atI_3,atI_4,b_];refine#[bj (by lia),bj (by decide),bj (by decide),ak ?_]
  have O:aE C.rows++[D.tup [.str "take",.str x0,.int 0],D.tup [.str "sum",.str C.mn,.str C.mn,.str x0]]=aE (C.rows++[.take x0 0,.two "sum" C.mn C.mn x0]):=by rw[bU];rfl
  rw[O,<- F];have g:∀(z:Sta)(n:cM),fin (C.cf z) (C.most-4) (C.names.zip z.nums) C.rows=ap n->n.map (·.1)=C.names->(C.rw (C.rows++[.take x0 0,.two "sum" C.mn C.mn x0])).mark z=.int ((nm n C.mn+aH C z (.inl 0)) % C.w):=λz n f k=>by
   refine (pT f h4 wU<|by simp).trans ?_
   have:nm (fz (C.cf z) n [.take x0 0,.two "sum" C.mn C.mn x0]) C.mn=(nm n C.mn+aH C z (.inl 0)) % C.w:=by
    show nm (sN (sN n x0<|aH C z<|.inl 0) C.mn<|zw "sum" (nm (sN n x0<|aH C z<|.inl 0) C.mn) (nm (sN n x0<|aH C z<|.inl 0) x0) C.w) C.mn=_;rw[iy (by rw[jg,k];exact o.mn),if_pos rfl,iy (by rw[k];exact B),iy (by rw[k];exact B),if_neg λz=>J z.symm,if_pos rfl]
    unfold zw;rw[if_pos rfl]
   rw[this]
  refine h _ (Y _ wU #[#[B,We _,by lia],#[.inl rfl,o.mn,o.mn,B],trivial]) #[_,_,g s n1 f1 k1,g t n2 Z k2,?_] wU (by simp)
  rw[he];exact EL (bP o hs G) (bP o ht G) hn
end
theorem uZ:∀(rs:List Rw),cRs (rs.filter p)<=cRs rs
 |[]=>TL _
 |r::rs=>by
  have:=uZ (p:=p) rs;rw[Uh]
  split
  .simp[cRs];lia
  simp[cRs];lia
theorem tU:∀(rs:List Rw),rs.length<=cRs rs
 |[]=>TL _
 |r::rs=>by
  have:=tU rs;have:1<=cR r:=by cases r<;>simp[cR]<;>lia
  simp[cRs];lia
theorem rQ:∀{rs:List Rw},(∀r∈rs,bo r=true)->cRs rs=rs.length
 |[],_=>rfl
 |r::rs,h=>by
  have f:=h r (by simp_all)
  have p:=rQ λq e=>h q (TV _ e);cases r with
  |ifr=>trivial
  |again=>trivial
  |_=>simp[cRs,cR];lia
section
variable{s:Sta}
def S2(C:Cse)(s t:Sta)(fi:Nat):Prop:=if fi<C.names.length then ∀y,C.names[fi]?=ap y->aH C s (.inr y)≠aH C t (.inr y) else aH C s (.inl 0)≠aH C t (.inl 0)
theorem Q4(o:C.Ok)(O:SOk C s)(J:SOk C t)(T:0<C.many)(hc:cRs C.rows<=24)(W:30<=C.most)(f:S2 C s t fi)(I:M ln=ap (.lst<|t.nums.map D.int))(Y:fin (C.cf s) (C.most-4) (C.names.zip s.nums) C.rows=ap n1)(S:fin (C.cf t) (C.most-4) (C.names.zip t.nums) C.rows=ap n2)(k1:n1.map (·.1)=C.names)(k2:n2.map (·.1)=C.names)(X:nm n1 C.mn=nm n2 C.mn)(h:∀rs,(C.rw rs).Ok->(C.rw rs).two s t->cRs rs<=26->∀e,D'.nx [d0,d1,d2,ap (C.rw rs).d,ap s.d,ap (.ref ln),d6,ap (.int (fi:Nat)),d8,d9,d10,ap t.d,ap (.int (C.most:Nat)),e] M):
  ∀e,iS ad EE D' [d0,d1,d2,ap C.d,ap s.d,ap (.ref ln),d6,ap (.int (fi:Nat)),d8,d9,d10,ap t.d,ap (.int (C.most:Nat)),e] M:=by
 intro e;have Z:=tU C.rows;have lf:(flt _).length<=C.rows.length:=Uy _ _;have fd:∀{rs:List Rw}{M:Mem}{Q:DK},Q _ M->frz (C.rw rs).d M Q:=λq=>q;unfold iS;have hl:=J.ln
 simp_arith! only[aG,al,ai,ac,bc,aa,dt,Tu,cq,aI,I,oo]
 unfold S2 at f
 by_cases c:fi<C.names.length
 .rw[if_pos c]at f
  rw[if_pos (by simp;lia)]
  obtain⟨y,G⟩:∃y,C.names[fi]?=ap y:=#[_,Tx c];have R:fE (C.names.map D.str) fi=ap (.str y):=by rw[bw (by lia),Ua,TJ,G];rfl
  unfold p5
  simp_arith! only[aq,am,aj,aa,ac,ai,dC,dt,Tu,(@xM C),av,aI,atI_1,R]
  refine#[rfl,ao λQ' E' p _=>wG o O J (UQ G) (f y G) (by lia) (by lia) λrs H B F P=>p _ _ (fd ?_)]
  exact h rs H B (by rw[rQ F];lia) _
 .rw[if_neg c]at f
  rw[if_neg (by simp;lia)]
  exact#[rfl,ao λQ' E' p _=>rO o O J T f (by lia) (by lia) Y S k1 k2 X λmore H B F P=>p _ _ (fd<|h _ H B (by rw[dO,rQ F];lia) _)]
theorem EV(o:C.Ok)(G:SOk C s)(I:SOk C t)(Z:0<C.many)(Y:cRs C.rows<=24)(F:30<=C.most)(hf:S2 C s t fi)(H:M ln=ap (.lst<|t.nums.map D.int))(O:fin (C.cf s) (C.most-4) (C.names.zip s.nums) C.rows=ap n1)(J:fin (C.cf t) (C.most-4) (C.names.zip t.nums) C.rows=ap n2)(h:∀rs,(C.rw rs).Ok->(C.rw rs).two s t->cRs rs<=26->D'.rt (bg (C.rw rs) s t) M):
  je ad EE D' [d0,d1,d2,ap C.d,ap s.d,ap (.ref ln),d6,ap (.int (fi:Nat)),d8,d9,d10,ap t.d,ap (.int (C.most:Nat)),bb] M:=by
 obtain⟨j1,_,p⟩:=lE _ _ _ _ O 4 [];obtain⟨j2,_,B⟩:=lE _ _ _ _ J 4 [];have R:C.most-4+4=C.most:=by lia
 rw[R,UH,dE]at p B;have T:=HI p B;have W:=lO p;have S:=lO B;have P:n1.map (·.1)=C.names:=by rw[<- W.2];exact(yP o G).keys
 have X:n2.map (·.1)=C.names:=by rw[<- S.2];exact(yP o I).keys
 have e:∀rs,(C.rw rs).Ok->(C.rw rs).two s t->cRs rs<=26->∀f,iR ad EE D' [d0,d1,d2,ap (C.rw rs).d,ap s.d,ap (.ref ln),d6,ap (.int (fi:Nat)),d8,d9,d10,ap t.d,ap (.int (C.most:Nat)),f] M:=λrs a b c f=>by
  unfold iR
  simp_arith! only[aA,aS,aa,ac,af,dt,Tu]
  exact#[bj (by simp),h rs a b c]
 unfold je
 simp_arith! only[ah,aq,am,aj,aa,af,ac,dt,Tu]
 refine#[rfl,aL (λ_ _ q=>eM o G I q)<|lm ?_];rw[T];simp only[ag,TQ];unfold oJ
 simp_arith! only[ah,aG,al,ai,ac,dC,dt,Tu,av,aI,atI_0,atI_1,cc,dv,bX,aR]
 refine#[trivial,trivial,?_]
 by_cases c:nm n1 C.mn=nm n2 C.mn
 .rw[if_pos (by simpa using c)]
  exact Q4 o G I Z Y F hf H O J P X c e _
 .rw[if_neg (by simpa using c)]
  simp only[aB];exact e C.rows o #[_,_,fk p,fk B,c] (by lia) _
theorem Qj(o:C.Ok)(f:SOk C s)(p:SOk C t)(S:0<C.many)(R:cRs C.rows<=24)(B:30<=C.most)(T:S2 C s t fi)(F:M ln=ap (.lst<|t.nums.map D.int))(h:∀rs,(C.rw rs).Ok->(C.rw rs).two s t->cRs rs<=26->D'.rt (bg (C.rw rs) s t) M):
  ji ad EE D' [d0,d1,d2,ap C.d,ap s.d,ap (.ref ln),d6,ap (.int (fi:Nat)),d8,d9,d10,ap t.d,ap (.int (C.most:Nat)),bb] M:=by
 have H:=@xM C;have lr:=tU C.rows;have lf:(flt C.rows).length<=C.rows.length:=Uy _ _;generalize e:({ C with most:=C.most-4 }:Cse)=C4;have Y:C4.Ok:=by subst e;exact#[o.m2,o.m1,o.few,by show C.most-4<=_;have:=o.most;lia,o.nd,o.l0,o.l1,o.ok,o.h,o.mn]
 have Z:SOk C4 s:=by subst e;exact#[f.ln,f.lp,f.rn,f.rp]
 have t4:SOk C4 t:=by subst e;exact#[p.ln,p.lp,p.rn,p.rp]
 have I:C4.d=C.d:=by subst e;rfl
 have X:((C.most:Nat):Int)-4=(C4.most:Nat):=by subst e;show _=((C.most-4:Nat):Int);lia
 have W:∀z,fin (C4.cf z) C4.most (C4.names.zip z.nums) C4.rows=fin (C.cf z) (C.most-4) (C.names.zip z.nums) C.rows:=λz=>by
  subst e;exact Hy (k1:=C.most-4) (k2:=C.most) (C.most-4) _ _
 have G:=yt o.ok;have of:=o.rw G (by rw[gq uj];decide)
 unfold ji
 simp_arith! only[ah,aG,al,ai,am,aj,aa,af,ac,dC,dt,Tu,kM,oo,X]
 rw[<- I];refine#[rfl,aL (λ_ _ q=>eM Y Z t4 q)<|lm ?_];rw[I];unfold Io
 by_cases c:(C4.run s).1=true/\(C4.run t).1=true
 .rw[if_pos c]
  have J:=zj c.1;have O:=zj c.2;rw[W]at J O
  simp_arith! only[iC,gw,Ue,if_false,aB]
  exact EV o f p S R B T F J O h
 .rw[if_neg c]
  simp_arith! only[iC,gw,if_true]
  unfold t_;rw[H]
  simp_arith! only[aq,ai,am,wS,cm,dk,aS,aa,af,aj,ac,dC,dt,Tu,OL,Dk,frz,av,aI,atI_3,atI_4]
  refine#[rfl,aL (λ_ _ q=>qx (by lia) o.ok q) ?_]
  simp_arith! only[ai,am,wS,cm,dk,aS,aa,af,ac,dC,dt,Tu,OL,Dk,frz,av,aI,atI_3,atI_4,b6,ag,TQ,TY,TU]
  refine#[bj (by simp),bj (by simp),?_]
  have eq:D.tup [.int C.w,.tup (C.names.map D.str),.int (C.many:Nat),.tup (aE<|flt C.rows),.str C.mn]=(C.rw<|flt C.rows).d:=rfl;simp only[TY,TU,eq];have P:∀z,fin ((C.rw<|flt C.rows).cf z) ((C.rw<|flt C.rows).most-4) (C.names.zip z.nums) (flt C.rows)=ap (fz (C.cf z) (C.names.zip z.nums)<|flt C.rows):=λz=>mh (cf:=C.cf z) _ _ _ uj (by show _<=C.most-4;lia)
  exact EV (C:=C.rw (flt C.rows)) of f.rw p.rw S (TR (uZ C.rows) R) B T F (P s) (P t) h
end
noncomputable def gA(xs:aaW)(i:Nat):Int:=(xs[i]?).getD 0
def GX(xs ys:aaW):Nat:=((Ub xs.length).filter λi=>decide (gA xs i≠gA ys i)).length
theorem vI{q:Nat->Bool}{j:Nat}:∀(l:List Nat),l.Nodup->(∀i∈l,i≠j->p i=true->q i=true)->(l.filter p).length<=(l.filter q).length+if j∈l then 1 else 0
 |[],_,_=>by simp
 |i::l,nd,h=>by
  have f:=U9.mp nd;have B:=vI (p:=p) (q:=q) (j:=j) l f.2 (by simp_all)
  by_cases e:i=j
  .subst e
   rw[if_neg f.1]at B;rw[Uh,Uh]
   split<;>split<;>(try simp)<;>lia
  have G:(if j∈i::l then 1 else 0)=if j∈l then 1 else 0:=by
   have:j∈i::l↔j∈l:=by simp[Uk e,e]
   simp only[this]
  rw[G,Uh,Uh]
  by_cases F:p i=true
  .rw[if_pos F,if_pos (by simp_all),Ug,Ug];lia
  rw[if_neg F]
  split
  .rw[Ug];lia
  .exact B
theorem nL(e:j<xs.length):gA (xs.set j v) i=if i=j then v else gA xs i:=by
 unfold gA
 grind
theorem lb(h:j<ys.length):GX xs (ys.set j v)<=GX xs ys+1:=by
 unfold GX;have:=vI (p:=λi=>decide (gA xs i≠gA (ys.set j v) i)) (q:=λi=>decide _) (Ub xs.length) Xw λi _ e f=>by
  rw[nL h,if_neg e]at f;exact f
 split at this<;>lia
theorem jn:GX xs xs=0:=by
 unfold GX;rw[Yt.mpr (by lia)];rfl
theorem rF(h:i<xs.length):gA xs i∈xs:=by
 unfold gA
 simp_all
theorem A_(h:i<xs.length):fE (xs.map D.int) (i:Int)=ap (.int<|gA xs i):=by
 rw[bw (by lia),Ua,TJ]
 unfold gA;rw[Tx h];rfl
structure Cm(k:Pt)(ln lp:cb)(ns ps:aaW)(M0 M:Mem):Prop where
 has:Has k M
 a:ln≠k.p/\ln≠k.q
 b:lp≠k.p/\lp≠k.q
 ab:ln≠lp
 en:M ln=ap (.lst<|ns.map D.int)
 ep:M lp=ap (.lst<|ps.map D.int)
 n0:M0 ln=bb
 p0:M0 lp=bb
 keep:∀b o,b≠k.p->b≠k.q->M0 b=ap o->M b=ap o
structure Df(m:Int)(nums pieces ns ps:aaW)(fi cnt:Nat):Prop where
 ln:ns.length=nums.length
 lp:ps.length=pieces.length
 rn:∀v∈ns,0<=v/\v<m
 rp:∀v∈ps,0<=v/\v<m
 few:GX nums ns+GX pieces ps<=cnt
 fi:if fi<nums.length then gA nums fi≠gA ns fi else gA pieces 0≠gA ps 0
theorem Cm.dr(c:Cm k ln lp ns ps M0 M)(d:Dr k M M'):Cm k ln lp ns ps M0 M':=
 #[d.1,c.a,c.b,c.ab,by rw[d.2 ln c.a.1 c.a.2];exact c.en,by rw[d.2 lp c.b.1 c.b.2];exact c.ep,c.n0,c.p0,λb o f e=>by rw[d.2 b f e];exact c.keep b o f e]
theorem gX:(xs.map D.int).set j (.int v)=(xs.set j v).map D.int:=by simp_all
theorem Cm.sN(c:Cm k ln lp ns ps M0 M):Cm k ln lp (ns.set j v) ps M0 (M.upd ln<|.lst<|(ns.set j v).map D.int):=
 #[c.has.upd c.a,c.a,c.b,c.ab,Mem.upd_same,by rw[ae c.ab.symm];exact c.ep,c.n0,c.p0,λb o f h e=>by rw[ae (Mem.ne e c.n0)];exact c.keep b o f h e]
theorem Cm.sP(c:Cm k ln lp ns ps M0 M):Cm k ln lp ns (ps.set j v) M0 (M.upd lp<|.lst<|(ps.set j v).map D.int):=
 #[c.has.upd c.b,c.a,c.b,c.ab,by rw[ae c.ab];exact c.en,Mem.upd_same,c.n0,c.p0,λb o f h e=>by rw[ae (Mem.ne e c.p0)];exact c.keep b o f h e]
theorem md(h:∀v∈xs,0<=v/\v<m)(f:0<=v/\v<m):∀w∈xs.set j v,0<=w/\w<m:=λw e=>by
 grind
theorem Df.sN(d:Df m nums pieces ns ps fi cnt)(B:j<nums.length)(h:0<=v/\v<m)(p:v≠gA nums j):Df m nums pieces (ns.set j v) ps fi (cnt+1):=by
 have f:j<ns.length:=by rw[d.ln];exact B
 refine#[by rw[Vj];exact d.ln,d.lp,md d.rn h,d.rp,?_,?_]
 .have:=lb (xs:=nums) (v:=v) f
  have:=d.few;lia
 have:=d.fi
 split at this
 .rename_i c
  rw[if_pos c,nL f]
  split
  .rename_i e;rw[e];exact λz=>p z.symm
  exact this
 rename_i c;rw[if_neg c];exact this
theorem Df.sP(d:Df m nums pieces ns ps fi cnt)(B:j<pieces.length)(h:0<=v/\v<m)(p:v≠gA pieces j):Df m nums pieces ns (ps.set j v) fi (cnt+1):=by
 have f:j<ps.length:=by rw[d.lp];exact B
 refine#[d.ln,by rw[Vj];exact d.lp,d.rn,md d.rp h,?_,?_]
 .have:=lb (xs:=pieces) (v:=v) f
  have:=d.few;lia
 have:=d.fi
 split at this
 .rename_i c;rw[if_pos c];exact this
 rename_i c
 rw[if_neg c,nL f]
 split
 .rename_i e;rw[e];exact λz=>p z.symm
 exact this
theorem T2(c:Cm k ln lp ns ps M0 M)(d:Df m nums pieces ns ps fi cnt)(T:2<=m)(W:m<=997)(rn:∀v∈nums,0<=v/\v<m)(rp:∀v∈pieces,0<=v/\v<m)(X:fE pl 0=ap (.int m))(s0:0<sm)(s1:sm<=(nums.length:Int)+pieces.length)(hb:nums.length+pieces.length<=1000)(h:∀H J M' I,Cm k ln lp H J M0 M'->Df m nums pieces H J fi (cnt+1)->D'.nx [ap (.ref k.p),d1,d2,ap (.tup pl),ap (bJ nums pieces),ap (.ref ln),ap (.ref lp),d7,ap (.int sm),d9,I,d11,d12,d13] M'):
  lF ad EE D' [ap (.ref k.p),d1,d2,ap (.tup pl),ap (bJ nums pieces),ap (.ref ln),ap (.ref lp),d7,ap (.int sm),d9,d10,d11,d12,d13] M:=by
 have f:∀{v:Int}{M:Mem}{Q:DK},Q (.int v) M->frz (.int v) M Q:=λz=>z;unfold lF
 simp_arith! only[ah,aq,am,aj,aa,af,ac,dt,Tu]
 refine#[rfl,aP c.has s0 (by lia) λr M1 a1 b1 dr=>f ?_]
 have F:=c.dr dr;simp only[ag,TQ];unfold sC
 simp_arith! only[aG,al,ai,bc,aa,af,ac,dt,Tu,cq,aI,F.en,Tz,Ed,oo,d.ln]
 obtain⟨j,Y⟩:∃j:Nat,r=(j:Int):=#[r.toNat,by lia]
 subst Y
 by_cases q:j<nums.length
 .rw[if_pos (by simp;lia)]
  unfold qS
  simp_arith! only[aq,am,aj,aa,af,ac,ai,dC,bJ,dt,Tu,av,aI,X,atI_0,A_ q]
  refine#[rfl,ao λQ' E' P _=>fW F.has T W (rn _<|rF q) λw M2 R S O e=>P _ _ (f ?_)];have G:=F.dr e
  simp_arith! only[cZ,ac,dt,Tu,sW,G.en,Tz,jU (show (0:Int)<=(j:Int) by lia) (show (j:Int)<(ns.length:Nat) by rw[d.ln];lia),Ua,gX]
  exact h _ _ _ _ G.sN (d.sN q #[R,S] O)
 .rw[if_neg (by simp;lia)]
  unfold t7
  simp_arith! only[ah,aq,ai,bc,aa,af,ac,dt,Tu,cq,aI,F.en,Tz,kM,oo,d.ln,ag,TQ]
  obtain⟨i,Z,B⟩:∃i:Nat,(j:Int)-(nums.length:Int)=(i:Int)/\i<pieces.length:=#[j-nums.length,by lia,by lia]
  rw[Z];unfold rV
  simp_arith! only[aq,am,aj,aa,af,ac,ai,dC,bJ,dt,Tu,av,aI,X,atI_0,atI_1,A_ B]
  refine#[rfl,ao λQ' E' P _=>fW F.has T W (rp _<|rF B) λw M2 R S O e=>P _ _ (f ?_)];have G:=F.dr e
  simp_arith! only[cZ,ac,dt,Tu,sW,G.ep,Tz,jU (show (0:Int)<=(i:Int) by lia) (show (i:Int)<(ps.length:Nat) by rw[d.lp];lia),Ua,gX]
  exact h _ _ _ _ G.sP (d.sP B #[R,S] O)
mutual
theorem OX{names:aaX}{m a b:Int}(h:a<=b):∀(r:Rw),eK names m a r->eK names m b r
 |.put x k,h1=>h1
 |.take x i,h1=>#[h1.1,h1.2.1,Int.lt_of_lt_of_le h1.2.2 h]
 |.pick x y,h1=>#[h1.1,h1.2.1,Int.lt_of_lt_of_le h1.2.2 h]
 |.two w x y z,h1=>h1
 |.ifr x c d,h1=>by
  simp only[eK]at h1 ⊢;exact#[h1.1,j5 h c h1.2.1,j5 h d h1.2.2]
 |.again x c,h1=>by
  simp only[eK]at h1 ⊢;exact#[h1.1,j5 h c h1.2]
theorem j5{names:aaX}{m a b:Int}(h:a<=b):∀(rs:List Rw),bf names m a rs->bf names m b rs
 |[],_=>trivial
 |r::rs,h1=>#[OX h r h1.1,j5 h rs h1.2]
end
theorem JQ(l:aaX)(p:aC->Bool):((l.map Us).filter p).length=((Ub l.length).filter λi=>p (.inr<|(l[i]?).getD ("":Str))).length:=by
 have e:l=(Ub l.length).map λi=>l[i]?.getD ("":Str):=XA (by simp) λi h f=>by simp_all
 conv=>lhs;rw[e]
 rw[Ud,UM,Tz];rfl
structure CaOk(C:Cse)(s t:Sta)(few:Nat):Prop where
 o:C.Ok
 hs:SOk C s
 ht:SOk C t
 two:C.two s t
 un:(aF C s t).length<=few
 h0:0<C.many
 h1:C.many<=40
 cn:cRs C.rows<=26
 one:∀x∈C.names,vM x
section
variable{s:Sta}
theorem qW(o:C.Ok)(e:SOk C s)(h:C.names[i]?=ap y):aH C s (.inr y)=gA s.nums i:=by
 unfold gA;rw[(jG o.nd e.ln.symm h)];rfl
theorem ID(o:C.Ok)(f:SOk C s)(h:SOk C t):(aF C s t).length=GX s.nums t.nums+GX s.pieces t.pieces:=by
 unfold aF eD;rw[Ww,Ui,JQ];congr 1
 .unfold GX
  rw[f.ln];congr 1;refine Vl λi p=>?_;have e:C.names[i]?=ap (C.names[i]?.getD ""):=by rw[Tx (by simp_all)];rfl
  rw[qW o f e,qW o h e]
 unfold GX;rw[UM,Tz,f.lp];rfl
theorem Pg:aF (C.rw rs) s t=aF C s t:=rfl
end
theorem cut2{a b c:D}:kP [a,b,c,d,e] bb (ap 2)=[a,b]:=rfl
theorem RZ{a b c:D}:kP [a,b,c,d,e] (ap 3) bb=[d,e]:=rfl
theorem Dj(f1:1<=few)(f5:few<=5)(hp:Has k M)(h:∀C s t M',CaOk C s t few->Kq k M M'->Q (bg C s t) M'):BX ad [.ref k.p,.int 24,.int (few:Nat)] M Q E:=by
 have ft:∀{xs:List D}{M:Mem}{Q:DK},Q (.tup xs) M->frz (.tup xs) M Q:=λz=>z;have I:∀{v:Int}{M:Mem}{Q:DK},Q (.int v) M->frz (.int v) M Q:=λz=>z;rw[Sr];unfold Bk
 simp_arith! only[ah,aq,am,aj,aa,af,ac,dt,Tu]
 refine#[rfl,ao λQ' E' hq _=>DR (v:=24) (by decide) (by decide) hp λm many names rows mk M1 pl hc q1=>hq _ _ (ft ?_)]
 simp only[ag,TQ];unfold n8;have t4:=pl.t.k0;have t5:=pl.t.k1;have m2:=pl.t.m2;have m1:=pl.t.m1;have l0:=pl.t.n0;have l1:=pl.t.n1;obtain⟨f,hmn,mn1,mn40,mle⟩:∃f:Nat,(if many>1 then many else 1)=(f:Int)/\1<=f/\f<=40/\many<=(f:Int):=by
  refine#[(if many>1 then many else 1).toNat,?_,?_,?_,?_]<;>split<;>lia
 simp_arith! only[ah,aq,ai,am,wS,cm,dk,aS,aa,af,bc,ac,dC,jL,dt,Tu,OL,cut2,RZ,frz,av,aI,atI_2,J4,hmn,b6,Ug,VO]
 refine#[bj (by simp),bj (by simp),bj (by simp),?_]
 simp only[TY,TU,ag,TQ];have pl':PlG m (f:Int) names rows mk:=#[#[pl.t.m2,pl.t.m1,pl.t.n0,pl.t.n1,by lia,by lia],pl.nd,j5 mle _ pl.ok,pl.h,pl.cn,pl.l,pl.ln,pl.mkm,pl.one]
 have X:D.tup [.int m,.tup (names.map D.str),.int (f:Int),.tup (aE rows),.str mk]=jL m (f:Int) names rows mk:=rfl
 try rw[X]
 unfold o5
 simp_arith! only[ah,aq,am,aj,aa,af,ac,dt,Tu]
 refine#[rfl,ao λQ' E' hq _=>yd q1.1 pl' λnums pieces M2 ln lp rn rp q2=>hq _ _ (ft ?_)];simp only[ag,TQ];unfold mP
 simp_arith! only[ah,aq,bc,ai,aa,af,ac,dC,bJ,dt,Tu,av,aI,atI_0,dS]
 intro O Z;simp only[ag,TQ];unfold ou
 simp_arith! only[ah,aq,bc,ai,aa,af,ac,dC,dt,Tu,av,aI,atI_1,dS]
 intro J B;simp only[ag,TQ];have Y:O≠J:=Mem.ne Mem.upd_same B;rw[ae Y.symm]at B;have hlN:nums.length=names.length:=ln;have hlP:pieces.length=f:=by lia
 have c0:Cm k O J nums pieces M2 ((M2.upd O<|.lst<|nums.map D.int).upd J<|.lst<|pieces.map D.int):=by
  have a:=q2.1.nep Z;have b:=q2.1.nep B;exact#[(q2.1.upd a).upd b,a,b,Y,by rw[ae Y,Mem.upd_same],Mem.upd_same,Z,B,λb' o _ _ e=>by rw[ae (Mem.ne e B),ae (Mem.ne e Z)];exact e]
 generalize (M2.upd O<|.lst<|nums.map D.int).upd J (.lst<|pieces.map D.int)=M3 at c0 ⊢;have es:D.tup [.tup (nums.map D.int),.tup (pieces.map D.int)]=bJ nums pieces:=rfl;rw[es];unfold nX
 simp_arith! only[ah,aq,am,aj,ai,bc,aa,af,ac,dC,dt,Tu,cq,aI,c0.en,Tz,jb]
 refine#[.inl #[by decide,by decide],rfl,aP c0.has (by lia) (by lia) λr M4 a4 b4 d4=>I ?_]
 have P:=c0.dr d4;obtain⟨fi,hfi⟩:∃fi:Nat,r=(fi:Int):=#[r.toNat,by lia]
 subst hfi;simp only[ag,TQ];unfold nV
 simp_arith! only[ah,aq,bc,aa,af,ac,dt,Tu,cq,aI,P.en,Tz,ag,TQ]
 unfold mU
 have rest:∀(ns ps:aaW)(M5:Mem)(sm:Int),Cm k O J ns ps M2 M5->Df m nums pieces ns ps fi 1->0<sm->sm<=(nums.length:Int)+pieces.length->
   (j6 ad<|aJ E) { nx:=λx M'=>drp Q D.non M',rt:=drp Q } [ap (.ref k.p),ap (.int 24),ap (.int (few:Nat)),ap (jL m (f:Int) names rows mk),ap (bJ nums pieces),ap (.ref O),ap (.ref J),ap (.int (fi:Nat)),ap (.int sm),bb,bb,bb,bb,bb] M5:=by
  intro ns ps M5 sm R d5 s0 s1;unfold j6
  simp_arith! only[ah,eE,dW,aa,af,ai,ac,dC,dt,Tu,kM,oo]
  refine#[by lia,by lia,?_]
  refine cS (λxs U N=>∃(ns ps:aaW)(c9 c10:Option D)(j:Nat),xs.length+j=few-1/\U=[ap (.ref k.p),ap (.int 24),ap (.int (few:Nat)),ap (jL m (f:Int) names rows mk),ap (bJ nums pieces),ap (.ref O),ap (.ref J),ap (.int (fi:Nat)),ap (.int sm),c9,c10,bb,bb,bb]/\Cm k O J ns ps M2 N/\Df m nums pieces ns ps fi (1+j))
   (λ_ _ _ _=>aO) ?_ ?_ _ _ _ #[ns,ps,bb,bb,0,by simp[cY],rfl,R,d5]
  .rintro U N ⟨ns,ps,c9,c10,j,e1,rfl,G,H⟩
   have ej:1+j=few:=by simp at e1;lia
   rw[ej]at H;unfold nN
   simp_arith! only[ah,aq,aS,bc,aa,af,ac,dt,Tu,bW,c_,aI,G.en,G.ep]
   refine#[bj (by simp),?_]
   have et:D.tup [.tup (ns.map D.int),.tup (ps.map D.int)]=(Sta.mk ns ps).d:=rfl;simp only[ag,TQ,et];unfold oS
   simp_arith! only[ah,aq,am,aj,ai,aa,af,ac,dC,dt,Tu]
   refine#[rfl,aP G.has (by decide) (by decide) λr2 M7 a7 b7 d7=>I ?_]
   have c7:=G.dr d7
   simp_arith! only[b6,ag,TQ]
   obtain⟨T,hmo,mo1,mo2⟩:∃T:Nat,30+r2=(T:Int)/\30<=T/\T<50:=#[(30+r2).toNat,by lia,by lia,by lia]
   rw[hmo];generalize F:(#[m,f,names,rows,mk,T]:Cse)=C;have o:C.Ok:=by subst F;exact#[m2,m1,by show f<=100;lia,by show T<=10000;lia,pl.nd,by show 0<names.length;lia,by show names.length<=100;lia,pl'.ok,TR pl.h (by decide),pl.mkm]
   have hs:SOk C #[nums,pieces]:=by subst F;exact#[hlN,hlP,rn,rp]
   have ht:SOk C #[ns,ps]:=by subst F;exact#[H.ln.trans hlN,H.lp.trans hlP,H.rn,H.rp]
   have eN:C.names.length=nums.length:=by subst F;exact hlN.symm
   have ed:jL m (f:Int) names rows mk=C.d:=by subst F;rfl
   have es2:bJ nums pieces=(Sta.mk nums pieces).d:=rfl;have em:(T:Nat)=C.most:=by subst F;rfl
   rw[ed,es2,em];refine Qj (s:=#[nums,pieces]) (t:=#[ns,ps]) o hs ht (by subst F;show 0<f;lia) (by subst F;show cRs rows<=24;lia) (by rw[<- em];lia) ?_ c7.en λrs o1 tw cr=>ak (h _ _ _ _ #[o1,hs.rw,ht.rw,tw,?_,by subst F;show 0<f;lia,by subst F;exact mn40,cr,by subst F;exact pl.one] ?_)
   .unfold S2
    rw[eN];have hd:=H.fi
    split
    .rename_i c
     rw[if_pos c]at hd;intro y hy;rw[qW o hs hy,qW o ht hy];exact hd
    .rename_i c
     rw[if_neg c]at hd;exact hd
   .rw[Pg,ID o hs ht]
    exact H.few
   .exact q1.trans (q2.trans #[c7.has,c7.keep])
  .rintro x xs U N ⟨ns,ps,c9,c10,j,e1,rfl,G,H⟩ D' hD _ _ _
   simp only[Ug]at e1;simp only[ag,TQ];refine T2 G H m2 m1 rn rp (by simp) s0 s1 (by lia) λns' ps' M' d10' c' d'=>hD _ _ #[ns',ps',_,_,j+1,by lia,rfl,c',?_]
   rw[<- Nat.add_assoc];exact d'
 simp_arith! only[ah,aG,al,ai,bc,aa,af,ac,dt,Tu,cq,aI,P.en,Tz,Ed,oo]
 have d0:∀{j:Nat}{v:Int}(hj:j<nums.length),fi=j->0<=v->v<m->v≠gA nums j->Df m nums pieces (nums.set j v) pieces fi 1:=λ{j v} hj e v0 v1 vn=>by
  subst e;refine#[Vj,rfl,md rn #[v0,v1],rp,?_,?_]
  .have h1:=lb (xs:=nums) (ys:=nums) (v:=v) hj
   have h2:=jn (xs:=nums);have h3:=jn (xs:=pieces);lia
  .rw[if_pos hj,nL hj,if_pos rfl];exact λz=>vn z.symm
 by_cases q:fi<nums.length
 .rw[if_pos (by simp;lia)]
  unfold sG;have W:fE [D.int m,.tup (names.map D.str),.int (f:Int),.tup (aE rows),.str mk] 0=ap (.int m):=by simp
  simp_arith! only[aq,am,aj,aa,af,ac,ai,dC,jL,dt,Tu,av,aI,W,P.en,A_ q]
  refine#[rfl,ao λQ' E' hq _=>fW P.has m2 m1 (rn _<|rF q) λw M5 w0 w1 wn S=>hq _ _ (I ?_)];have R:=P.dr S
  simp_arith! only[cZ,ac,dt,Tu,sW,R.en,Tz,jU (show (0:Int)<=(fi:Int) by lia) (show (fi:Int)<(nums.length:Nat) by lia),Ua,gX]
  try rw[X]
  exact rest _ _ _ _ R.sN (d0 q rfl w0 w1 wn) (by lia) (by lia)
 .rw[if_neg (by simp;lia)]
  unfold sB;have hP:0<pieces.length:=by lia
  have W:fE [D.int m,.tup (names.map D.str),.int (f:Int),.tup (aE rows),.str mk] 0=ap (.int m):=by simp
  have ga0:=A_ (xs:=pieces) hP;have ga0':fE (pieces.map D.int) 0=ap (.int<|gA pieces 0):=ga0
  simp_arith! only[ah,aq,am,aj,aa,af,ac,ai,dC,jL,dt,Tu,av,aI,W,P.ep,ga0']
  refine#[rfl,ao λQ' E' hq _=>fW P.has m2 m1 (rp _<|rF hP) λw M5 w0 w1 wn S=>hq _ _ (I ?_)];have R:=P.dr S;have ix0':yD pieces.length 0=ap 0:=jU (by decide) (by lia)
  simp_arith! only[cZ,ac,dC,dt,Tu,sW,R.ep,Tz,ix0',gX]
  have G:=R.sP (j:=0) (v:=w);generalize M5.upd J (.lst<|(pieces.set 0 w).map D.int)=M6 at G ⊢;unfold tK
  simp_arith! only[aq,am,ai,bc,aa,af,ac,dC,dt,Tu,cq,aI,G.ep,Tz,Vj,jb,FJ,b6,frz,ag,TQ]
  refine#[.inl #[by decide,by decide],?_]
  try rw[X]
  refine rest _ _ _ _ G #[rfl,Vj,rn,md rp #[w0,w1],?_,?_] (by split<;>lia) (by split<;>lia)
  .have h1:=lb (xs:=pieces) (ys:=pieces) (v:=w) hP
   have h2:=jn (xs:=nums);have h3:=jn (xs:=pieces);lia
  .rw[if_neg q,nL hP,if_pos rfl];exact λz=>wn z.symm
theorem GY{s:Sta}(h:Q (bg C s t) M):frz (bg C s t) M Q:=h
end _T
namespace _3
open PySem _2
mutual
def rj:D->Prop
 |.non=>True
 |.int i=>i.natAbs<10 ^ 6
 |.str x=>x.length<=100/\∀c∈x.cps.toList,c<16 ^ 8
 |.tup xs=>kb xs
 |_=>False
def kb:List D->Prop
 |[]=>True
 |x::xs=>rj x/\kb xs
end
mutual
noncomputable def sz:D->Nat
 |.tup xs=>5+qD xs
 |_=>2000
noncomputable def qD:List D->Nat
 |[]=>0
 |x::xs=>sz x+2+qD xs
end
theorem He{i:Int}(h:i.natAbs<10 ^ 6):i.natAbs.log2<1920:=by
 by_cases a:i.natAbs=0
 .rw[a];decide
 exact(YM a).mpr (Uc h<|TR (by decide:10 ^ 6<=2 ^ 20)<|UJ (by decide)<|by decide)
mutual
theorem Ca:∀d:D,rj d->(gg d).showable=true
 |.non,_=>by simp only[gg,V9]
 |.int i,h=>by simp only[gg,V9,decide_eq_true_eq];exact He h
 |.str x,_=>by simp only[gg,V9]
 |.tup xs,h=>by simp only[gg,V9];exact wO xs h
 |.bl _,h=>h.elim
 |.lst _,h=>h.elim
 |.ty _,h=>h.elim
 |.ref _,h=>h.elim
 |.mt _,h=>h.elim
 |.ml _,h=>h.elim
theorem wO:∀xs:List D,kb xs->Xc (gI xs)=true
 |[],_=>by simp only[gI,Xc]
 |x::xs,h=>by simp only[gI,Xc,Ca x h.1,wO xs h.2,Bool.and_self]
end
theorem IM(a:aaX):(tupleText a).length<=piled a+5:=by
 unfold tupleText;rw[strLen_append,strLen_append];have c:("(":Str).length=1:=rfl;have b:((if a.length==1 then ",)" else ")":String):Str).length<=2:=by split<;>decide
 by_cases h:a=[]
 .subst h
  trivial
 have:=join_length_add a h;lia
mutual
theorem pX:∀d:D,rj d->(gg d).shown.length<=sz d
 |.non,_=>by simp only[gg,Xh,sz];decide
 |.int i,h=>by simp only[gg,Xh,sz];exact TR (PyProof.Rows.int_text_len_1921<|He h) (by decide)
 |.str x,h=>by
  simp only[gg,Xh,sz];have:=StrLaws.reprText_len x h.2;have:=h.1;lia
 |.tup xs,h=>by
  simp only[gg,Xh,sz];have:=IM (WZ<|gI xs);have:=mG xs h;lia
 |.bl _,h=>h.elim
 |.lst _,h=>h.elim
 |.ty _,h=>h.elim
 |.ref _,h=>h.elim
 |.mt _,h=>h.elim
 |.ml _,h=>h.elim
theorem mG:∀xs:List D,kb xs->piled (WZ<|gI xs)<=qD xs
 |[],_=>by simp[gI,WZ,piled,qD]
 |x::xs,h=>by
  have b:=pX x h.1;have a:=mG xs h.2;simp only[gI,WZ,qD];simp[piled]at a ⊢;lia
end
end _3
namespace _T
open PySem _2 _3
variable{ad:Ad}{C:Cse}{a b:Int}{M:Mem}{i n:Nat}{v:Nat->Str}{x:Out}
section
variable{names:aaX}{m many:Int}
mutual
theorem sz_R:∀r:Rw,sz r.d+2<=9000*cR r
 |.put _ _=>by simp[Rw.d,sz,qD,cR]
 |.take _ _=>by simp[Rw.d,sz,qD,cR]
 |.pick _ _=>by simp[Rw.d,sz,qD,cR]
 |.two _ _ _ _=>by simp[Rw.d,sz,qD,cR]
 |.ifr _ a b=>by
  have:=vC a;have:=vC b;simp only[Rw.d,sz,qD,cR];lia
 |.again _ a=>by
  have:=vC a;simp only[Rw.d,sz,qD,cR];lia
theorem vC:∀rs:List Rw,qD (aE rs)<=9000*cRs rs
 |[]=>by simp[aE,qD,cRs]
 |r::rs=>by
  have:=sz_R r;have:=vC rs;simp only[aE,qD,cRs];lia
end
theorem aY{x:Str}(h:vM x):rj (.str x):=by
 obtain⟨n,c,f,j,g,l,rfl⟩:=h;refine#[?_,λd e=>?_]
 .show (Vu n c).size<=100
  rw[Array.size_replicate];lia
 simp at e;lia
theorem fV(h:w∈["put","take","pick","sum","by","less","same","if","again"]):rj (.str<|VW w):=by
 simp at h;rcases h with rfl|rfl|rfl|rfl|rfl|rfl|rfl|rfl|rfl<;>exact#[by decide +kernel,by decide +kernel]
theorem mD{i:Int}(c:0<=i)(e:i<1000):rj (.int i):=by
 show i.natAbs<10 ^ 6;lia
mutual
theorem Ob(c:∀x∈names,vM x)(j:m<=997)(k1:many<=40):∀r:Rw,eK names m many r->rj r.d
 |.put x k,h=>by
  simp only[eK,cK]at h;exact#[fV (w:="put") (by simp),aY (c _ h.1),mD h.2.1 (by lia),trivial]
 |.take x k,h=>by
  simp only[eK,cK]at h;exact#[fV (w:="take") (by simp),aY (c _ h.1),mD h.2.1 (by lia),trivial]
 |.pick x y,h=>by
  simp only[eK,cK]at h;exact#[fV (w:="pick") (by simp),aY (c _ h.1),aY (c _ h.2.1),trivial]
 |.two w x y z,h=>by
  simp only[eK,cK]at h;obtain⟨l,e,g,f⟩:=h;rcases l with rfl|rfl|rfl|rfl
  .exact#[fV (w:="sum") (by simp),aY (c _ e),aY (c _ g),aY (c _ f),trivial]
  .exact#[fV (w:="by") (by simp),aY (c _ e),aY (c _ g),aY (c _ f),trivial]
  .exact#[fV (w:="less") (by simp),aY (c _ e),aY (c _ g),aY (c _ f),trivial]
  .exact#[fV (w:="same") (by simp),aY (c _ e),aY (c _ g),aY (c _ f),trivial]
 |.ifr x a b,h=>by
  simp only[eK]at h;exact#[fV (w:="if") (by simp),aY (c _ h.1),jw c j k1 a h.2.1,jw c j k1 b h.2.2,trivial]
 |.again x a,h=>by
  simp only[eK]at h;exact#[fV (w:="again") (by simp),aY (c _ h.1),jw c j k1 a h.2,trivial]
theorem jw(e:∀x∈names,vM x)(c:m<=997)(k1:many<=40):∀rs:List Rw,bf names m many rs->kb (aE rs)
 |[],_=>trivial
 |r::rs,h=>by
  simp only[bf]at h;exact#[Ob e c k1 r h.1,jw e c k1 rs h.2]
end
end
def Pa(us:List aC)(t:Tr)(B:Nat):D:=N0 (λq=>B.testBit (us.idxOf q)) t
structure Cms(x:Out)(B:Nat):Prop where
 f:∀i,x.f.testBit i=true->B.testBit i=true
 s:∀i,x.s.testBit i=true->B.testBit i=cp
theorem zh:(F ||| bitK us q).testBit i=(F.testBit i||decide (us.idxOf q=i)):=by rw[Yb,xV]
theorem MK{t1 t2:Tr}:Pa us (.a q t1 t2) B=if B.testBit (us.idxOf q)=true then Pa us t2 B else Pa us t1 B:=rfl
theorem mQ:∀(t:Tr)(S F:Nat),(∀i,F.testBit i=true->B.testBit i=true)->(∀i,S.testBit i=true->B.testBit i=cp)->∃x∈g8 a b us t S F,Cms x B/\x.v=iJ a b (Pa us t B)
 |.e m,S,F,hF,hS=>#[_,Wu.mpr rfl,#[hF,hS],rfl]
 |.a q t1 t2,S,F,hF,hS=>by
  rw[MK]
  by_cases c:B.testBit (us.idxOf q)=true
  .rw[if_pos c]
   obtain⟨x,f,g⟩:=mQ t2 S (F ||| bitK us q) (λi hi=>by
    rw[zh,Bool.or_eq_true]at hi;rcases hi with hi|hi
    .exact hF i hi
    simp_all) hS
   exact#[x,Uo.mpr (.inl f),g]
  rw[if_neg c];obtain⟨x,f,g⟩:=mQ t1 (S ||| bitK us q) F hF (λi hi=>by
   rw[zh,Bool.or_eq_true]at hi;rcases hi with hi|hi
   .exact hS i hi
   simp_all)
  exact#[x,Uo.mpr (.inr f),g]
theorem kW:∀(t:Tr)(S F:Nat),x∈g8 a b us t S F->(∀i,F.testBit i=true->x.f.testBit i=true)/\∀i,S.testBit i=true->x.s.testBit i=true
 |.e m,S,F,h=>by
  have:x=#[iJ a b m,S,F]:=by simpa [g8] using h
  simp_all
 |.a q t1 t2,S,F,h=>by
  rcases Uo.mp h with h1|h1
  .obtain⟨p,r⟩:=kW t2 _ _ h1
   simp_all
  obtain⟨p,r⟩:=kW t1 _ _ h1
  simp_all
theorem jW:∀(t:Tr)(S F:Nat),x∈g8 a b us t S F->Cms x B->x.v=iJ a b (Pa us t B)
 |.e m,S,F,h,_=>by
  have:x=#[iJ a b m,S,F]:=by simpa [g8] using h
  subst this;rfl
 |.a q t1 t2,S,F,h,c=>by
  rw[MK];rcases Uo.mp h with h1|h1
  .rw[if_pos (c.f _<|(kW t2 _ _ h1).1 _<|by rw[zh];simp)]
   exact jW t2 _ _ h1 c
  rw[if_neg (by rw[c.s _ ((kW t1 _ _ h1).2 _<|by rw[zh];simp)];simp)]
  exact jW t1 _ _ h1 c
theorem tF:∀(t:Tr)(u:List aC)(S F:Nat),TrN t u->Wy us u S F->x∈g8 a b us t S F->∀i,x.f.testBit i=true->x.s.testBit i=cp
 |.e m,u,S,F,_,w,h=>by
  have:x=#[iJ a b m,S,F]:=by simpa [g8] using h
  subst this;exact λi c=>Xq.mpr λz=>w.dis i #[z,c]
 |.a q t1 t2,u,S,F,hn,w,h=>by
  rcases Uo.mp h with h1|h1
  .exact tF t2 _ _ _ hn.2.2 (w.fa hn.1) h1
  exact tF t1 _ _ _ hn.2.1 (w.so hn.1) h1
def vB(C:Cse)(s t:Sta)(a b:Int)(B:Nat):Str:=iJ a b (Pa (aF C s t) (C.tree s t) B)
def kN(C:Cse)(s t:Sta)(a b:Int):List Out:=g8 a b (aF C s t) (C.tree s t) 0 0
theorem FI:∃x∈kN C s t a b,Cms x B/\x.v=vB C s t a b B:=mQ _ _ _ (by simp_all) (by simp_all)
theorem L9(h:x∈kN C s t a b)(c:Cms x B):x.v=vB C s t a b B:=jW _ _ _ h c
theorem Gu(h:x∈kN C s t a b):∀i,x.f.testBit i=true->x.s.testBit i=false:=tF _ _ _ _ u_ (Wy.zero λ_ h=>h) h
theorem tJ(h:x∈kN C s t a b):OutOk (aF C s t).length x:=su _ _ _ _ u_ (Wy.zero λ_ h=>h) x h
theorem HX(h:x∈kN C s t a b):Cms x x.f:=#[λ_ h=>h,λi c=>Xq.mpr λz=>by rw[Gu h i z]at c;cases c]
theorem P_(h:x∈kN C s t a b):vB C s t a b x.f=x.v:=(L9 h<|HX h).symm
theorem EY:(kN C s t a b).length<=2 ^ (aF C s t).length:=by
 unfold kN;rw[jq];have:=qh (C:=C) (s:=s) (t:=t);lia
theorem GO(f:A<2 ^ n)(e:B<2 ^ n)(h:az A=az B):A=B:=by
 refine Nat.eq_of_testBit_eq λi=>?_
 by_cases c:i<n
 .have j:=dy (i:=i) f
  have g:=dy (i:=i) e
  simp_all
 rw[VZ (Uc f<|UJ (by decide)<|by lia),VZ (Uc e<|UJ (by decide)<|by lia)]
def iT:Nat->List (List Nat)
 |0=>[[]]
 |n+1=>iT n++(iT n).map (·++[n])
theorem EI(h:B<2 ^ n):az (2 ^ n+B)=az B++[n]:=by
 have c:2 ^ n+B<2 ^ (n+1):=by lia
 rw[cI c,cI h,List.range_succ,Ww];congr 1
 .refine Vl λi e=>?_
  rw[Nat.testBit_two_pow_add_gt (by simp_all)]
 rw[Uh,Nat.testBit_two_pow_add_eq,VZ h];rfl
theorem la:∀n:Nat,iT n=(Ub<|2 ^ n).map az
 |0=>rfl
 |n+1=>by
  rw[iT,la n,Nat.pow_succ,Nat.mul_two,List.range_add,Wh,Ud,Ud];congr 1;exact Uw λB c=>(EI<|by simp_all).symm
theorem Eo:(iT n).length=2 ^ n:=by rw[la,Tz,Xm]
abbrev Ny:=Str×Int×Int
noncomputable def EO(p:Ny):D:=.tup [.str p.1,.int p.2.1,.int p.2.2]
theorem nO:∀(c:aaX)(xs ys:aaW),iw (c.map D.str) (xs.map D.int) (ys.map D.int)=(c.zip<|xs.zip ys).map EO
 |[],_,_=>by simp[iw]
 |_::_,[],_=>by simp[iw]
 |_::_,_::_,[]=>by simp[iw]
 |n::c,x::xs,y::ys=>by
  have:=nO c xs ys;simp at this ⊢;rw[<- this];rfl
theorem HH{c:aaX}(e:c.Nodup)(f:c.length=xs.length)(g:c.length=ys.length):c.zip (xs.zip ys)=c.map λx=>(x,nm (c.zip xs) x,nm (c.zip ys) x):=by
 refine WM λi=>?_;rw[TJ];cases h:c[i]? with
 |none=>
  rw[Option.map_none,UT];rw[XJ];have:=WE.mp h;lia
 |some x=>
  rw[UK,VI];exact#[h,VI.mpr #[jG e f h,jG e g h]]
theorem oU{M:Mem}{b:BxC (dq 3<|aM (ag 0)<|aM (ag 1)<|aM (ag 2) dg) tt te ok Q}(p:Ny->Bool)(f:Ny->D)(g:ok M):∀(xs:List Ny)(aaQ:List D)(l m j:Option D),aaQ.length+xs.length<=100000->
  (∀x∈xs,∀K:Bool->Mem->Prop,K (p x) M->tt (ap (.str x.1)::ap (.int x.2.1)::ap (.int x.2.2)::c) M K)->(∀x∈xs,∀K:DK,K (f x) M->te (ap (.str x.1)::ap (.int x.2.1)::ap (.int x.2.2)::c) M K)->Q (aaQ++(xs.filter p).map f) M->
  cA (dq 3<|aM (ag 0)<|aM (ag 1)<|aM (ag 2) dg) tt te ok Q b (xs.map EO) aaQ (l::m::j::c) M
 |[],aaQ,l,m,j,hl,ht,he,h=>#[g,by simpa using h]
 |x::xs,aaQ,l,m,j,hl,ht,he,h=>by
  simp only[Ug]at hl;rw[TB];refine#[g,?_]
  simp_arith! only[EO,dq,aM,dg,ag,TQ]
  refine#[rfl,ht x Uu _ ?_];cases o:p x with
  |true=>
   rw[if_pos rfl];refine he x Uu _ #[g7 (by lia),oU p f g xs _ _ _ _ (by simp;lia) (λy e=>ht y (TV _ e)) (λy e=>he y (TV _ e)) ?_]
   rw[Uh,if_pos o]at h;simpa using h
  |false=>
   rw[if_neg (by simp)]
   refine oU p f g xs _ _ _ _ (by lia) (λy e=>ht y (TV _ e)) (λy e=>he y (TV _ e)) ?_
   rw[Uh,if_neg (by simp[o])]at h
   exact h
theorem A3(f:SOk C s)(e:i<C.many):fE (s.pieces.map D.int) (i:Nat)=ap (.int<|aH C s<|.inl (i:Int)):=by
 have c:i<s.pieces.length:=by rw[f.lp];exact e
 have:fE (s.pieces.map D.int) (i:Nat)=(s.pieces.map D.int)[i]?:=by rw[bw (by lia),Ua]
 rw[this,TJ,Tx c,UK];show _=ap (D.int<|(s.pieces[(V7 (i:Nat))]?).getD 0);rw[Ua,Tx c];rfl
theorem kz(o:C.Ok)(y:SOk C s)(A:SOk C t)(h:∀p,M p=bb->Q (.ref p) (M.upd p<|.lst<|(aF C s t).map kD)):wg ad [bg C s t] M Q E:=by
 have l1:=o.l1;have few:=o.few;have l:=@H_ C s t;have r:=@xM C;have c:∀z:Sta,z.d=.tup [.tup (z.nums.map D.int),.tup (z.pieces.map D.int)]:=λ_=>rfl;rw[RQ];unfold C1
 simp_arith! only[ah,aq,ac,dt,l,dq,aM,ag,dg,TQ]
 refine#[rfl,?_];unfold tQ;rw[r,c s,c t]
 simp_arith! only[ah,bO,cV,aN,uC,aa,af,ai,ac,dC,av,aI,atI_0,atI_1,dt,Tu,bi,Ut,TB,TY,TU,br,UH]
 rw[nO,HH o.nd y.ln.symm A.ln.symm];refine oU (λx=>decide (x.2.1≠x.2.2)) (λx=>.str x.1) aO _ _ _ _ _ (by simp;lia) (λx _ K q=>?_) (λx _ K q=>q) ?_
 .simp_arith! only[al,ai,ac,dt,Tu,qP,dv,bX,aR]
  refine#[trivial,trivial,?_];simpa using q
 intro p I;have H:(((C.names.map λx=>(x,nm (C.names.zip s.nums) x,nm (C.names.zip t.nums) x)).filter λx=>decide (x.2.1≠x.2.2)).map λx:Ny=>D.str x.1)=((C.names.map Us).filter λk=>decide (aH C s k≠aH C t k)).map kD:=by
  rw[UM,UM,Ud,Ud];rfl
 simp only[TU];rw[H]
 simp_arith! only[dF,TQ,dt,Tu,Mem.upd_same,Mem.upd_del,au I]
 unfold tX
 simp_arith! only[aA,ai,ac,am,aN,dW,aa,af,dC,av,aI,atI_2,dt,Tu,bi,Ut,TB,TY,TU,UD]
 refine#[by lia,by lia,?_]
 rw[Ua];refine dh (λd=>match d with|.int i=>decide (aH C s (.inl i)≠aH C t (.inl i))|_=>true) id aO (by simp[cY];lia) (λx u K q=>?_) (λx u _ K q=>q) ?_
 .obtain⟨i,f,rfl⟩:=TM.mp u
  have f:=UE.mp f;have m:(0:Int)+(i:Nat)=(i:Nat):=by lia
  rw[m]at q ⊢
  simp_arith! only[al,ai,ac,dC,av,aI,atI_1,dt,Tu,A3 y f,A3 A f,qP,dv,bX,aR]
  refine#[trivial,trivial,?_];simpa using q
 intro L j;refine bZ j ?_;have J:((cY 0 C.many).filter λd=>match d with|.int i=>decide (aH C s (.inl i)≠aH C t (.inl i))|_=>true).map id=(((Ub C.many).map λ(i:Nat)=>(Vi (i:Int):aC)).filter λk=>decide (aH C s k≠aH C t k)).map kD:=by
  unfold cY;rw[U6,UM,UM,Ud];have m:∀i:Nat,(0:Int)+(i:Nat)=(i:Nat):=λi=>by lia
  simp only[Xe,m];rfl
 rw[J];have w:((C.names.map Us).filter λk=>decide (aH C s k≠aH C t k)).map kD++(((Ub C.many).map λ(i:Nat)=>(Vi (i:Int):aC)).filter λk=>decide (aH C s k≠aH C t k)).map kD=(aF C s t).map kD:=by
  unfold aF eD;rw[Ww,Wh]
 have e:=congrArg Vr w;have F:=jr (C:=C) (s:=s) (t:=t) o;rw[Ui,Tz (as:=aF C s t)]at e
 simp_arith! only[b6,c_]
 refine#[bj (by lia),?_]
 rw[w];exact λG g=>ak (h G g)
noncomputable def k4(ks:List Nat):List D:=ks.map λ(i:Nat)=>D.int (i:Int)
def Ei(ks:List Nat):D:=.lst (k4 ks)
def I_:Nat->Nat->List D
 |_,0=>[]
 |j,n+1=>.int ((j:Nat):Int)::I_ (j+1) n
theorem CO:∀(n j:Nat),(VR j n).map (λ(i:Nat)=>D.int ((i:Nat):Int))=I_ j n
 |0,_=>rfl
 |n+1,j=>by rw[List.range'_succ,TB,CO n _];rfl
theorem Nc(n:Nat):cY 0 n=I_ 0 n:=by
 rw[<- CO,<- VC];unfold cY
 simp_all
theorem Gd(h:ks∈iT n):∃B,B<2 ^ n/\ks=az B:=by
 rw[la]at h;obtain⟨B,c,rfl⟩:=TM.mp h;exact#[B,by simp_all,rfl]
theorem gx(h:B<2 ^ n):(az B).length<=n:=by
 rw[cI h]
 grind
section
theorem wf{n:Nat}(l:ok M):∀(m j:Nat)(c:Option D),j+m<=10->(∀c,D'.nx [ap (.int (n:Nat)),ap (.lst<|(iT (j+m)).map Ei),c] M)->
  nG (ag 2) (m4 ad EE) D' ok z (I_ j m) [ap (.int (n:Nat)),ap (.lst<|(iT j).map Ei),c] M
 |0,j,c,hl,h=>#[l,h c]
 |m+1,j,c,hl,h=>by
  have A:2 ^ j<=1024:=(UJ (by decide) (show j<=10 by lia))
  have r:=Eo (n:=j);refine#[l,?_];refine cC (λd=>match d with|.lst xs=>.lst (xs++[.int j])|_=>.non) aO (by rw[Tz];lia) (λx y K q=>?_) ?_
  .obtain⟨F,o,rfl⟩:=TM.mp y
   obtain⟨B,p,rfl⟩:=Gd o;have:=gx p;exact#[bj (by simp),λu f=>bZ f #[bj (by simp[k4];lia),λw g=>bZ g q]]
  intro u f;refine bZ f ?_;refine#[bj (by simp;lia),λw g=>bZ g ?_]
  have e:(iT j).map Ei++((iT j).map Ei).map (λd=>match d with|.lst xs=>.lst (xs++[.int j])|_=>.non)=(iT (j+1)).map Ei:=by
   rw[iT];simp[Ei,k4]
  rw[e];exact wf l m _ _ (by lia) λc=>by
   rw[show j+1+m=j+(m+1) by lia]
   exact(h c)
theorem tB(l:n<=10)(h:Q (.lst<|(iT n).map Ei) M):Bb ad [.int (n:Nat)] M Q E:=by
 refine#[by trivial,λj c=>bZ c #[by trivial,λg e=>bZ e ?_]]
 refine#[by lia,by lia,?_]
 rw[Nc];refine wf aO n 0 _ (by lia) λf=>?_
 simp_arith! only[Wo]
 exact ak h
def gc(C:Cse)(s t:Sta)(ks:List aC):Sta:=
 #[C.names.map λx=>aH C (if Us x∈ks then t else s) (.inr x),(Ub C.many).map λ(i:Nat)=>aH C (if Vi (i:Int)∈ks then t else s) (.inl (i:Int))]
variable{ks:List aC}
theorem z7(o:C.Ok)(f:SOk C s)(g:SOk C t):SOk C (gc C s t ks):=by
 refine#[by simp[gc],by simp[gc],λv e=>?_,λv e=>?_]
 .simp[gc]at e
  obtain⟨x,h,rfl⟩:=e;have c:Us x∈eD C:=Uo.mpr (.inl<|by simp_all)
  split
  .exact bP o g c
  exact bP o f c
 simp only[gc,TM]at e;obtain⟨i,j,rfl⟩:=e;have c:(Vi i:aC)∈eD C:=Uo.mpr (.inr<|TM.mpr<|by lia)
 split
 .exact bP o g c
 exact bP o f c
theorem Ml(f:∀K,K (kD k) M->e U M K)(g:∀K,K (zn ks) M->c U M K)(h:K (decide (k∈ks)) M):al (ai w8 e c) U M K:=by
 refine f _ (g _ ?_);unfold w8;rw[Lc];exact h
noncomputable def QF(ks:List aC)(x:Ny):Int:=if Us x.1∈ks then x.2.2 else x.2.1
theorem uR{D':DEnds}{EE:DX}{ok:Mem->Prop}{y:BxF (dq 3<|aM (ag 7)<|aM (ag 8)<|aM (ag 9) dg) (jm ad EE) D' ok}{l:cb}{o p d3 w r f:Option D}(u:∀xs,ok (M.upd l xs)):∀(xs:List Ny)(aaQ:aaW)(g m j:Option D),aaQ.length+xs.length<=1000->
  (∀g m j,D'.nx [o,ap (zn ks),p,d3,w,r,ap (.ref l),g,m,j,f] (M.upd l<|.lst<|(aaQ++xs.map (QF ks)).map D.int))->
  nG (dq 3<|aM (ag 7)<|aM (ag 8)<|aM (ag 9) dg) (jm ad EE) D' ok y (xs.map EO) [o,ap (zn ks),p,d3,w,r,ap (.ref l),g,m,j,f] (M.upd l<|.lst<|aaQ.map D.int)
 |[],aaQ,g,m,j,hl,h=>#[u _,by simp_all]
 |x::xs,aaQ,g,m,j,hl,h=>by
  simp at hl;refine#[u _,?_]
  simp_arith! only[EO,dq,aM,dg,ag,TQ]
  refine#[rfl,?_];unfold jm;have fin:∀v:Int,v=QF ks x->bC (.ref l) [.int v] (M.upd l<|.lst<|aaQ.map _) λ_ M1=>nG _ _ D' ok y _ [o,ap _,p,d3,w,r,ap _,ap (.str x.1),ap (.int x.2.1),ap (.int x.2.2),f] M1:=λv z=>by
   simp_arith! only[bC,Mem.upd_same,Mem.upd_upd]
   refine#[by rw[Tz];exact g7 (by lia),?_]
   have e:aaQ.map D.int++[.int v]=(aaQ++[v]).map D.int:=by simp
   rw[e];refine uR u xs _ _ _ _ (by simp;lia) λg m j=>?_
   simp_all
  simp_arith! only[bh,kH,ac,dt,Tu,eh,Mem.upd_same,true_and]
  refine Ml (k:=.inr _) (λK q=>q) (λK q=>q) ?_
  by_cases c:(Us x.1)∈ks
  .rw[if_pos (by simpa using c)]
   exact fin _ (by unfold QF;rw[if_pos c])
  rw[if_neg (by simpa using c)]
  exact fin _ (by unfold QF;rw[if_neg c])
theorem ya(o:C.Ok)(r:SOk C s)(u:SOk C t)(h:Q (gc C s t ks).d M):CF ad [bg C s t,zn ks] M Q E:=by
 have l1:=o.l1;have few:=o.few;have m:=@H_ C s t;have j:=@xM C;have f:∀z:Sta,z.d=.tup _:=λ_=>rfl;rw[QW];unfold Ay
 simp_arith! only[ah,aq,ac,dt,m,dq,aM,ag,dg,TQ,bQ]
 refine#[rfl,by trivial,λl A=>?_]
 unfold sx;rw[j,f s,f t]
 simp_arith! only[ah,eE,uC,aa,ai,ac,dC,av,aI,atI_0,atI_1,dt,Tu,br]
 rw[nO,HH o.nd r.ln.symm u.ln.symm];refine uR (aaQ:=[]) (λ_=>aO) _ _ _ _ (by simp;lia) λG I J=>?_
 unfold rA
 simp_arith! only[ah,bO,cV,aN,dW,aa,ai,ac,dC,av,aI,atI_2,dt,Tu,bi,Ut,TB,TY,TU,UD]
 refine#[by lia,by lia,?_]
 refine cC (λd=>match d with|.int i=>.int (aH C (if Vi i∈ks then t else s)<|.inl i)|_=>.non) aO (by simp[cY];lia) (λx w K q=>?_) ?_
 .obtain⟨i,g,rfl⟩:=TM.mp w
  have g:=UE.mp g;have F:(0:Int)+i=i:=by lia
  rw[F]at q ⊢;refine Ml (k:=.inl _) (λK q=>q) (λK q=>q) ?_
  by_cases c:(Vi i:aC)∈ks
  .rw[if_pos (by simpa using c)]
   simp_arith! only[ai,ac,dC,av,aI,atI_1,dt,Tu,A3 u g]
   simp_all
  .simp_arith! only[ai,ac,dC,av,aI,atI_1,dt,Tu,A3 r g]
   simp_all
 intro p y
 simp_arith! only[dF,TQ,dt,Tu,Mem.upd_same,Mem.upd_del,au y]
 unfold rK
 simp_arith! only[aA,aS,bc,aa,ac,dt,Tu,bW,c_,Mem.upd_same]
 refine#[bj (by simp),M,λb o e=>by rw[ae (Mem.ne e A)];exact e,?_]
 have H:(C.names.map λx=>(x,nm (C.names.zip s.nums) x,nm (C.names.zip t.nums) x)).map (QF ks)=(gc C s t ks).nums:=by
  rw[Ud];refine Uw λx _=>?_;simp[QF]
  split<;>rfl
 have L:(cY 0 C.many).map (λd=>match d with|.int i=>.int (aH C (if Vi i∈ks then t else s)<|.inl i)|_=>.non)=(gc C s t ks).pieces.map D.int:=by
  unfold cY gc
  simp_all
 simp_all
theorem DP(o:C.Ok)(g:q∈eD C):aH C (gc C s t ks) q=aH C (if q∈ks then t else s) q:=by
 rcases hZ g with⟨x,f,rfl⟩|⟨i,hi,rfl⟩
 .obtain⟨j,e⟩:=List.getElem?_of_mem f
  have c:(gc C s t ks).nums[j]?=ap (aH C (if Us x∈ks then t else s)<|.inr x):=by
   unfold gc
   simp_all
  rw[(jG o.nd (by simp[gc]) e)]at c
  exact UP c
 show (((gc C s t ks).pieces[(V7 i)]?).getD 0)=_;rw[Ua];unfold gc;rw[TJ,YO hi];rfl
end
def Pr(us:List aC)(B:Nat):List aC:=(az B).map λi=>(us[i]?).getD (.inl 0)
theorem IY(o:us.Nodup)(g:B<2 ^ us.length)(m:q∈us):q∈Pr us B↔B.testBit (us.idxOf q)=true:=by
 have l:=Vy m;constructor
 .intro h
  obtain⟨i,c,e⟩:=TM.mp h;obtain⟨f,j⟩:=(dy g).mp c;rw[Tx f]at e;have:us.idxOf q=i:=by rw[<- e];exact o.idxOf_getElem i f
  rw[this];exact j
 intro h;refine TM.mpr #[_,(dy g).mpr #[l,h],?_]
 simp_all
theorem Na(g:B<2 ^ us.length)(h:q∈Pr us B):q∈us:=by
 obtain⟨i,c,e⟩:=TM.mp h;obtain⟨f,_⟩:=(dy g).mp c;rw[Tx f]at e;rw[<- e];exact V3 f
def jD(B:Nat):List aC:=(az B).map λ(i:Nat)=>Vi (i:Int)
theorem vL:fc (k4<|az B)=ap (jD B):=by
 have:k4 (az B)=(jD B).map kD:=by unfold k4 jD;rw[Ud];rfl
 rw[this,qK]
theorem sv(f:A<2 ^ n)(e:B<2 ^ n)(h:jD A=jD B):A=B:=by
 refine GO f e ?_;have c:=congrArg (List.map λk:aC=>match k with|.inl i=>i.toNat|.inr _=>0) h
 unfold jD at c;simpa [Xe] using c
def ym(v:Nat->Str)(Bs:List Nat):List (List aC×D):=Bs.map λB=>(jD B,D.str (v B))
theorem G9(o:C.Ok)(g:SOk C s)(e:SOk C t)(j:(aF C s t).length<24)(f:B<2 ^ (aF C s t).length):C.mark (gc C s t<|Pr (aF C s t) B)=Pa (aF C s t) (C.tree s t) B:=by
 refine (ms o g e (z7 o g e) j λq h=>?_).symm;rw[DP o h]
 by_cases c:q∈aF C s t
 .have:=IY (sw o) f c
  simp_all
 rw[if_neg (λz=>c (Na f z))]
 split
 .exact(Vz λz=>c (TN.mpr<|by lia))
 rfl
theorem Jm(f:m=vg C.mn r)(c:w=iJ a b m):(r.1=cp/\w=("other":Str))\/(r.1=true/\w=if nm r.2.nums C.mn=a then ("sound":Str) else if nm r.2.nums C.mn=b then ("faulty":Str) else ("other":Str)):=by
 subst f;unfold vg at c;cases e:r.1 with
 |false=>
  rw[e]at c;exact .inl #[rfl,c]
 |true=>
  rw[e,if_pos rfl]at c;refine .inr #[rfl,?_];unfold iJ at c;rw[c];simp[aR]
theorem Gh(o:C.Ok)(S:SOk C s)(T:SOk C t)(hu:(aF C s t).length<24)(P:B<2 ^ (aF C s t).length)(R:a≠b)(hj:C.names[j]?=ap C.mn)(hl:M l=bb)(hk:aaP.length<100000)(h:∀u g,D'.nx [ap (bg C s t),ap C.d,ap s.d,ap t.d,ap (.int (C.most:Nat)),ap (zn<|aF C s t),ap (.int (j:Nat)),ap (.tup [.int a,.int b]),ap (.ref l),O,u,g] (M.upd l<|.dT<|dU aaP (jD B)<|.str<|vB C s t a b B))(h9:O=ap (Ei<|az B)):
  jX ad EE D' [ap (bg C s t),ap C.d,ap s.d,ap t.d,ap (.int (C.most:Nat)),ap (zn<|aF C s t),ap (.int (j:Nat)),ap (.tup [.int a,.int b]),ap (.ref l),O,u,g] (M.upd l<|.dT aaP):=by
 subst h9;have ul:=jr (C:=C) (s:=s) (t:=t) o;have nl:=gx P;have mm:=G9 o S T hu P;have lu:(M.upd l<|.dT aaP) l=ap (.dT aaP):=Mem.upd_same;generalize hN:M.upd l (.dT aaP)=N at *;unfold jX
 simp_arith! only[ah,aq,ai,kg,aj,aa,af,ac,dC,dt,Tu,am,aN,bM,aI,br,bi,TB,Ut,TY,TU,UD,Ei]
 refine cC (λd=>match d with|.int i=>kD (((aF C s t)[i.toNat]?).getD<|.inl 0)|_=>.non) aO (by simp[k4];lia) (λx W K q=>?_) ?_
 .obtain⟨i,I,rfl⟩:=TM.mp W
  have I:=((dy P).mp I).1;have e:fE ((aF C s t).map kD) ((i:Nat):Int)=ap (kD<|((aF C s t)[i]?).getD<|.inl 0):=by
   rw[bw (by lia),Ua,TJ,Tx I];rfl
  simp_arith! only[ai,ac,dt,Tu,zn,av,aI,e]
  simpa using q
 intro p A;refine bZ A ?_;have e1:(k4<|az B).map (λd=>match d with|.int i=>kD (((aF C s t)[i.toNat]?).getD<|.inl 0)|_=>.non)=(Pr (aF C s t) B).map kD:=by
  unfold k4 Pr;rw[Ud,Ud];exact Uw λi _=>by simp
 rw[e1];refine#[rfl,aL (λ_ _ q=>ya o S T q) ?_];show frz (gc C s t<|Pr (aF C s t) B).d N _;generalize hz:gc C s t (Pr (aF C s t) B)=z at *;have c:SOk C z:=by rw[<- hz];exact z7 o S T
 have fz:∀{Q:DK},Q z.d N->frz z.d N Q:=λq=>q;refine fz ?_;rw[c.pd];refine#[rfl,ka (o.pl c) ?_];unfold xm;have er:dB (C.cf z) C.names C.rows z.nums=C.run z:=rfl;rw[er]
 simp_arith! only[av,aI,atI_1,Tu,dt,ag,TQ]
 rw[<- c.pd];unfold yh;simp only[ah,aq,dC,ag,TQ];unfold y4;have fin:∀w:Str,w=vB C s t a b B->mB ad EE D' [ap (bg C s t),ap C.d,ap s.d,ap t.d,ap (.int (C.most:Nat)),ap (zn<|aF C s t),ap (.int (j:Nat)),ap (.tup [.int a,.int b]),ap (.ref l),ap (.lst<|k4<|az B),ap (dA C.names<|C.run z),ap (.str w)] N:=λw hw=>by
  unfold mB
  simp_arith! only[aq,ac,dt,Tu,cZ,bc,aa,af,bW,c_,sW,lu,Dz,vL]
  refine#[g7 (by lia),?_]
  have:=h (ap<|dA C.names<|C.run z) (ap<|.str w);subst hw;rw[<- hN,Mem.upd_upd];exact this
 generalize mB ad EE=K2 at *;have vw:vB C s t a b B=iJ a b (C.mark z):=by rw[mm];rfl
 rcases Jm (C:=C) (r:=C.run z) (a:=a) (b:=b) (m:=C.mark z) rfl vw with⟨Z,U⟩|⟨r1,w1⟩
 .have X:dA C.names (C.run z)=.non:=by unfold dA;rw[Z,if_neg (by simp)]
  rw[X]at fin ⊢
  simp_arith! only[ah,aG,pj,al,ai,ac,dC,dt,Tu,fD,gw,VN,Ue,if_false,aB]
  exact fin _ U.symm
 .obtain⟨xs,Y,J⟩:=yE r1 hj
  rw[Y]at fin ⊢;generalize nm (C.run z).2.nums C.mn=v at *;have L:jO N (.int v) (.tup [.int a,.int b])=ap (decide (v=a)||decide (v=b)):=by
   simp_arith! only[jO,aI,dv,fits,bX,Bool.and_self,and_self,if_true,V6,List.any_nil,aR,Vw]
   congr 2<;>exact decide_eq_decide.mpr #[Eq.symm,Eq.symm]
  simp_arith! only[ah,aG,pj,al,ai,ac,dC,dt,Tu,fD,gw,W9,if_true,av,aI,atI_1,J,w8,L]
  by_cases f:v=a
  .rw[if_pos (by simp[f])]
   unfold tE;have G:[a,b].findIdx? (λy=>decide (y=v))=ap 0:=by simp[Wv,f]
   simp_arith! only[aq,ai,am,bQ,aa,af,dC,Iq,ac,dt,Tu]
   refine#[bj (by simp),λp A=>bZ A ?_]
   simp_arith! only[av,aI,J,iU,fh,G]
   refine#[by simp,?_]
   simp_arith! only[Int.natCast_zero,atI_0,dt,ag,TQ,aB]
   exact fin _ (by rw[w1,if_pos f])
  .by_cases F:v=b
   .rw[if_pos (by simp[F])]
    unfold tE;have G:[a,b].findIdx? (λy=>decide (y=v))=ap 1:=by
     have:¬a=v:=λz=>f z.symm;simp[Wv,F,this,R]
    simp_arith! only[aq,ai,am,bQ,aa,af,dC,Iq,ac,dt,Tu]
    refine#[bj (by simp),λp A=>bZ A ?_]
    simp_arith! only[av,aI,J,iU,fh,G]
    refine#[by simp,?_]
    have H:fE [D.str "sound",.str "faulty"] ((1:Nat):Int)=ap (.str "faulty"):=rfl;simp only[H,ag,TQ,aB];exact fin _ (by rw[w1,if_neg f,if_pos F])
   .rw[if_neg (by simp[f,F])]
    simp only[aB];exact fin _ (by rw[w1,if_neg f,if_neg F])
theorem PF{k:List aC}(h:k∉aaP.map (·.1))(c:(aaP.map (·.1)).Nodup):dU aaP k d=aaP++[(k,d)]:=by
 have:=qX (aaP:=[(k,d)]) (by
  rw[WL];refine#[c,by simp,λx e y f=>?_]
  have:y=k:=by simp_all
  subst this;exact λz=>h (by simp_all))
 assumption
theorem mJ:(ym v Bs).map (·.1)=Bs.map jD:=by unfold ym;rw[Ud];rfl
theorem RH(h:j<=2 ^ n):((Ub j).map jD).Nodup:=by
 rw[List.nodup_iff_pairwise_ne,List.pairwise_map];refine List.Pairwise.imp_of_mem (λ{x y} c e f z=>f ?_) Xw;have c:=UE.mp c;have e:=UE.mp e;exact sv (n:=n) (by lia) (by lia) z
theorem PC(f:C.mark s=.int a)(c:C.mark t=.int b):Io C s t=.tup [.int a,.int b]:=by
 have g:∀{z:Sta}{v:Int},C.mark z=.int v->(C.run z).1=true/\nm (C.run z).2.nums C.mn=v:=λ{z v} e=>by
  unfold Cse.mark vg at e;lia
 unfold Io
 simp_all
theorem vp{i:Nat}(o:C.Ok)(y:SOk C s)(G:SOk C t)(w:(aF C s t).length<=10)(p:a≠b)(A:C.names[i]?=ap C.mn)(F:M l=bb)(r:∀N,ok N):∀(m j:Nat)(g f c:Option D),j+m=2 ^ (aF C s t).length->
  (∀g f c,D'.nx [ap (bg C s t),ap C.d,ap s.d,ap t.d,ap (.int (C.most:Nat)),ap (zn<|aF C s t),ap (.int (i:Nat)),ap (.tup [.int a,.int b]),ap (.ref l),g,f,c] (M.upd l<|.dT<|ym (vB C s t a b)<|Ub<|2 ^ (aF C s t).length))->
  nG (ag 9) (jX ad EE) D' ok L ((VR j m).map λB=>Ei (az B)) [ap (bg C s t),ap C.d,ap s.d,ap t.d,ap (.int (C.most:Nat)),ap (zn<|aF C s t),ap (.int (i:Nat)),ap (.tup [.int a,.int b]),ap (.ref l),g,f,c] (M.upd l<|.dT<|ym (vB C s t a b)<|Ub j)
 |0,j,g,f,c,e,h=>#[r _,by simp_all]
 |m+1,j,g,f,c,e,h=>by
  have O:2 ^ (aF C s t).length<=2 ^ 10:=UJ (by decide) w
  refine#[r _,?_];refine Gh o y G (by lia) (by lia) p A F (by simp[ym];lia) (λf c=>?_) rfl
  have H:jD j∉(ym (vB C s t a b)<|Ub j).map (·.1):=by
   rw[mJ];intro z;obtain⟨B,u,J⟩:=TM.mp z;have u:=UE.mp u;have:=sv (n:=(aF C s t).length) (by lia) (by lia) J
   lia
  rw[PF H (by rw[mJ];exact RH (n:=(aF C s t).length) (by lia))]
  have I:ym (vB C s t a b) (Ub j)++[(jD j,.str (vB C s t a b j))]=ym (vB C s t a b) (Ub (j+1)):=by unfold ym;rw[List.range_succ,Wh];rfl
  rw[I];exact vp o y G w p A F r m _ _ _ _ (by lia) h
theorem pA(o:C.Ok)(m:SOk C s)(r:SOk C t)(J:C.mark s=.int a)(L:C.mark t=.int b)(w:(aF C s t).length<=10)(j:a≠b)(h:∀p,M p=bb->Q (.ref p) (M.upd p<|.dT<|ym (vB C s t a b)<|Ub<|2 ^ (aF C s t).length)):L0 ad [bg C s t] M Q E:=by
 have c:=@H_ C s t;have e:=@xM C;obtain⟨i,y,g⟩:=oC o.mn;have l1:=o.l1;rw[u_q3];unfold Jr
 simp_arith! only[ah,aq,ac,dt,c,dq,aM,ag,dg,TQ]
 refine#[rfl,?_];rw[<- c];unfold xX
 simp_arith! only[ah,aq,am,aj,aa,af,ac,dt]
 refine#[rfl,ao λQ' E' f _=>kz o m r λp F=>f _ _ (bZ F ?_)];simp only[ag,TQ];unfold xu;rw[e]
 simp_arith! only[ah,aq,Iq,ai,aa,af,ac,dC,dt,Tu,av,aI,atI_1,atI_4,iA,dP,y]
 refine#[by lia,?_]
 simp only[ag,TQ];rw[<- e];unfold wZ
 simp_arith! only[ah,aq,am,aj,aa,af,ac,dt,Tu]
 refine#[rfl,ao λQ' E' f _=>eM o m r (f _ _<|lm ?_)];rw[PC J L];simp only[ag,TQ,Fv];intro l u;unfold yI
 simp_arith! only[ah,eE,bM,am,aj,bc,aa,af,ac,dt,Tu,cq,aI,Tz]
 refine#[rfl,aL (λ_ _ q=>tB (by rw[Tz];exact w) q) ?_]
 show frz (.lst _) _ _;have z:∀{xs:List D}{N:Mem}{Q:DK},Q (.lst xs) N->frz (.lst xs) N Q:=λq=>q;refine z ?_
 simp_arith! only[aI,br]
 have G:(iT ((aF C s t).map kD).length).map Ei=(VR 0<|2 ^ (aF C s t).length).map λB=>Ei (az B):=by rw[Tz,la,Ud,VC];rfl
 rw[G];have I:M.upd l (.dT [])=M.upd l (.dT<|ym (vB C s t a b)<|Ub 0):=rfl;rw[I];dsimp only[TQ];refine vp o m r w j g u (λ_=>aO) _ 0 _ _ _ (by lia) λO A H=>?_
 simp_arith! only[aA,ac,dt,Tu]
 exact ak (h l u)
def Qo(v:Nat->Str)(n:Nat):D:=.fd ((Ub<|2 ^ n).map jD) ((Ub<|2 ^ n).map λB=>D.str (v B))
theorem KQ(f:M p=bb)(h:Q (Qo v n) M):Hc (.ref p) (M.upd p<|.dT<|ym v<|Ub<|2 ^ n) Q:=by
 simp_arith! only[Hc,Mem.upd_same,Mem.upd_del,au f]
 have e:(ym v<|Ub<|2 ^ n).map (·.1)=(Ub<|2 ^ n).map jD:=mJ;have c:(ym v<|Ub<|2 ^ n).map (·.2)=(Ub<|2 ^ n).map λB=>D.str (v B):=by unfold ym;rw[Ud];rfl
 rw[e,c];exact h
def JL(B:Nat):D:=.tup (k4<|az B)
theorem IR:Gb (jD B)=JL B:=by
 unfold Gb jD JL k4;rw[Ud];rfl
theorem NT(m:B<2 ^ n):cJ (((Ub<|2 ^ n).map jD).zip ((Ub<|2 ^ n).map λB=>D.str (v B))) (jD B)=ap (.str<|v B):=by
 have e:((Ub<|2 ^ n).map jD).zip ((Ub<|2 ^ n).map λB=>D.str (v B))=(Ub<|2 ^ n).map λB=>(jD B,D.str (v B)):=by grind
 rw[e];unfold cJ;have f:∀l:List _,(∀A∈l,A<2 ^ n)->B∈l->(l.map λB=>(jD B,D.str (v B))).find? (λh=>decide (h.1=jD B))=ap (jD B,.str (v B)):=by
  intro l
  induction l with
  |nil=>simp_all
  |cons A l ih=>
   intro g j;rw[TB,Vv]
   by_cases c:A=B
   .subst c;simp
   have:¬jD A=jD B:=λz=>c (sv (g A Uu) m z);simp only[this];exact ih (λx o=>g x (by simp_all)) ((TK.mp j).resolve_left<|by lia)
 rw[f _ (λA=>UE.mp) (by simp_all)]
 rfl
theorem QH(c:B<2 ^ n)(h:K (.str<|v B) M):vW (Qo v n) (JL B) M K:=by
 unfold vW Qo JL
 simp_arith! only[Dz,vL,NT c]
 exact h
def LJ:Nat->D->Prop
 |_,.non=>True
 |_,.bl _=>True
 |_,.int _=>True
 |_,.str _=>True
 |n+1,.tup xs=>xs.length<=100000/\∀x∈xs,LJ n x
 |n+1,.lst xs=>xs.length<=100000/\∀x∈xs,LJ n x
 |_,_=>False
theorem fZ:∀n:Nat,pW (Um n<|.bl true)=ap (Um n true)
 |0=>rfl
 |n+1=>by rw[Vo,pW,fZ n];rfl
theorem nY:(Um n true).all id=true:=by simp
theorem i1:bv "tuple" "bool"=false:=by rfl
theorem i2:bv "tuple" "int"=false:=by rfl
theorem i3:bv "tuple" "str"=false:=by rfl
theorem i4:bv "tuple" "tuple"=true:=by rfl
theorem i5:bv "tuple" "list"=false:=by rfl
theorem i6:bv "list" "bool"=false:=by rfl
theorem i7:bv "list" "int"=false:=by rfl
theorem i8:bv "list" "str"=false:=by rfl
theorem i9:bv "list" "tuple"=false:=by rfl
theorem i10:bv "list" "list"=true:=by rfl
theorem i11:bv "bool" "bool"=true:=by rfl
theorem i12:bv "int" "bool"=false:=by rfl
theorem i13:bv "int" "int"=true:=by rfl
theorem i14:bv "str" "bool"=false:=by rfl
theorem i15:bv "str" "int"=false:=by rfl
theorem i16:bv "str" "str"=true:=by rfl
theorem t1:mM "bool"=true:=by rfl
theorem t2:mM "int"=true:=by rfl
theorem t3:mM "str"=true:=by rfl
theorem t4:mM "tuple"=true:=by rfl
theorem t5:mM "list"=true:=by rfl
theorem j8:∀xs:List D,y0 xs xs=xs.map (λz=>D.tup [z,z])
 |[]=>rfl
 |x::xs=>by
  have:=j8 xs;simp[y0]at this ⊢;simp[this]
theorem f_{ad:Ad}:∀(n:Nat)(x:D)(M:Mem)(Q:DK)(E:DX),LJ n x->Q (.bl true) M->Y7 ad (n+1) [x,x] M Q E
 |n,x,M,Q,E,l,h=>by
  cases x with
  |non=>simp![nz,ix];exact ak h
  |bl b=>simp![nz,ix,i11,t1,beq_self_eq_true];exact ak h
  |int i=>simp![nz,ix,i12,i13,t1,t2];exact ak h
  |str i=>simp![nz,ix,i14,i15,i16,t1,t2,t3];exact ak h
  |tup xs=>
   cases n with
   |zero=>exact l.elim
   |succ n=>
    obtain⟨H,l⟩:=l;simp![nz,ix,i1,i2,i3,i4,i5,t1,t2,t3,t4,t5,aN];rw[if_neg (by decide),if_neg (by decide),if_neg (by decide)]
    refine ce (λr c U M'=>∃(e:List D)(j:Nat)(o g:Option D),r=e.map (λz=>D.tup [z,z])/\(∀z∈e,LJ n z)/\e.length+j<=100000/\c=Um j (.bl true)/\U=[o,g]/\M'=M) (λ_ _ _ _ _=>aO) ?_ ?_ ?_ _ _ _ _ #[xs,0,bb,bb,j8 xs,l,by omega,rfl,rfl,rfl]
    .rintro c U M' ⟨e,j,o,g,f,m,A,rfl,rfl,rfl⟩ p u
     simp![Mem.upd_del,au u,fZ,nY];exact ak h
    .rintro y r c U M' ⟨e,j,o,g,f,m,A,rfl,rfl,rfl⟩ N F _
     cases e with
     |nil=>simp at f
     |cons z e=>
      simp only[TB,UY]at f;obtain⟨rfl,rfl⟩:=f;simp only[Ug]at A;simp![];refine aL (d:=.bl true) (λQ' E' q=>f_ n z M' Q' E' (m z<|Uu ..) q) ?_;simp![];exact F _ _ _ (by simp;exact g7 (by omega)) #[e,j+1,_,_,rfl,λw G=>m w (TV _ G),by omega,by rw[W8],rfl,rfl]
    .rintro y r c U M' ⟨e,j,o,g,f,m,A,rfl,rfl,rfl⟩
     simp;exact g7 (by omega)
  |lst xs=>
   cases n with
   |zero=>exact l.elim
   |succ n=>
    obtain⟨H,l⟩:=l;simp![nz,ix,i6,i7,i8,i9,i10,t1,t2,t3,t4,t5,aN];rw[if_neg (by decide),if_neg (by decide),if_neg (by decide)]
    refine ce (λr c U M'=>∃(e:List D)(j:Nat)(o g:Option D),r=e.map (λz=>D.tup [z,z])/\(∀z∈e,LJ n z)/\e.length+j<=100000/\c=Um j (.bl true)/\U=[o,g]/\M'=M) (λ_ _ _ _ _=>aO) ?_ ?_ ?_ _ _ _ _ #[xs,0,bb,bb,j8 xs,l,by omega,rfl,rfl,rfl]
    .rintro c U M' ⟨e,j,o,g,f,m,A,rfl,rfl,rfl⟩ p u
     simp![Mem.upd_del,au u,fZ,nY];exact ak h
    .rintro y r c U M' ⟨e,j,o,g,f,m,A,rfl,rfl,rfl⟩ N F _
     cases e with
     |nil=>simp at f
     |cons z e=>
      simp only[TB,UY]at f;obtain⟨rfl,rfl⟩:=f;simp only[Ug]at A;simp![];refine aL (d:=.bl true) (λQ' E' q=>f_ n z M' Q' E' (m z<|Uu ..) q) ?_;simp![];exact F _ _ _ (by simp;exact g7 (by omega)) #[e,j+1,_,_,rfl,λw G=>m w (TV _ G),by omega,by rw[W8],rfl,rfl]
    .rintro y r c U M' ⟨e,j,o,g,f,m,A,rfl,rfl,rfl⟩
     simp;exact g7 (by omega)
  |_=>cases n<;>exact l.elim
section
variable{b:BxC (ag 0) tt te ok Q'}
theorem uh(p:Out->Bool)(f:Out->D)(e:ok N)(g:∀a x,N a=ap (B6 ad x)->∀K:Bool->Mem->Prop,K (p x) N->tt (ap (.ref a)::rest) N K)(j:∀a x,N a=ap (B6 ad x)->∀K:DK,K (f x) N->te (ap (.ref a)::rest) N K):
  ∀{as:aaZ}{xs:List Out},Lay ad N as xs->∀(aaQ:List D)(c:Option D),aaQ.length+xs.length<=100000->Q' (aaQ++(xs.filter p).map f) N->cA (ag 0) tt te ok Q' b (as.map D.ref) aaQ (c::rest) N
 |_,_,.nil,aaQ,c,hl,h=>#[e,by simpa using h]
 |_,_,.cons (a:=a) (x:=x) (as:=as) (xs:=xs) hx t,aaQ,c,hl,h=>by
  simp only[Ug]at hl;rw[TB];refine#[e,?_];simp only[ag,TQ];refine g a x hx _ ?_;cases l:p x with
  |true=>
   rw[if_pos rfl];refine j a x hx _ #[g7 (by lia),uh p f e g j t _ _ (by simp;lia) ?_]
   rw[Uh,if_pos l]at h;simpa using h
  |false=>
   rw[if_neg (by simp)]
   refine uh p f e g j t _ _ (by lia) ?_
   rw[Uh,if_neg (by simp[l])]at h
   exact h
theorem R_{a:cb}(h:N a=ap (B6 ad x))(q:K (.str x.v) N):aV ad.C_Outcome (ac 0) "verdict" (ap (.ref a)::rest) N K:=by
 have c:Ux ("verdict":Str) [(("verdict":Str),D.str x.v),(("sound":Str),D.int (x.s:Nat)),(("faulty":Str),D.int (x.f:Nat))]=ap (.str x.v):=rfl;unfold B6 at h
 simp_arith! only[aV,ac,dt,h,c]
 exact#[trivial,q]
theorem Sb{a:cb}(e:U[i]?=ap (ap<|.ref a))(h:N a=ap (B6 ad x))(q:K (.int (x.f:Nat)) N):aV ad.C_Outcome (ac i) "faulty" U N K:=by
 have c:Ux ("faulty":Str) [(("verdict":Str),D.str x.v),(("sound":Str),D.int (x.s:Nat)),(("faulty":Str),D.int (x.f:Nat))]=ap (.int (x.f:Nat)):=rfl;unfold B6 at h
 simp_arith! only[aV,ac,e,h,c]
 exact#[trivial,q]
theorem is_v{a:cb}(h:N a=ap (B6 ad x))(q:K (decide (x.v=w)) N):al (ai cc (aV ad.C_Outcome (ac 0) "verdict")<|dC<|.str w) (ap (.ref a)::rest) N K:=by
 unfold al ai;refine R_ h ?_;simp only[dC,cc,dv,bX,aR];exact#[trivial,trivial,q]
end
end _T
namespace _T
open PySem _2 _3 _S
variable{ad:Ad}{C:Cse}{Q:DK}{E:DX}{M:Mem}{B:Nat}{s:Sta}
def nI(B:Nat):List Int:=(az B).map λ(i:Nat)=>(i:Int)
theorem Jj:(nI B).map D.int=k4 (az B):=by unfold nI k4;rw[Ud];rfl
theorem nA:(nI B).length=(az B).length:=by simp[nI]
def dX(C:Cse)(s t:Sta)(a b:Int):List Out:=(kN C s t a b).filter λx=>decide (x.v=("faulty":Str))
theorem oM(o:C.Ok)(P:SOk C s)(T:SOk C t)(S:C.mark s=.int a)(g:C.mark t=.int b)(n:a≠b)(O:(aF C s t).length<24)(J:1+(C.tree s t).asks<=L)(R:L<=10000)(h:∀p,M p=bb->Q (.ref p) (M.upd p<|.lst ((dX C s t a b).map λx=>D.int (x.f:Nat)))):AB ad [bg C s t,.int (L:Nat)] M Q E:=by
 refine#[rfl,ao λQ' E' A _=>pq o P T S g n O J R λp F N I r m G=>A _ _ ?_];have l:Lay ad (N.del p) F (kN C s t a b):=G.go λc y e=>by unfold Mem.del;rw[if_neg (λz=>by rw[z,r]at e;cases e)];exact e
 have ex1:=I.del m;have w:(kN C s t a b).length<=10000:=by unfold kN;rw[jq];lia
 simp_arith! only[frz,r]
 refine uh _ _ aO (λa x i K=>is_v i) (λa x i K=>Sb rfl i) l [] _ (by simp;lia) ?_
 intro u j;refine#[_,λq H g=>?_,h u<|ex1.no j]
 by_cases v:q=u
 .subst v;rw[Mem.upd_same]at g ⊢;exact g
 rw[ae v]at g ⊢;exact ex1 q H g
def uY(us:List aC)(B:Nat):List D:=(az B).map λi=>kD ((us[i]?).getD<|.inl 0)
theorem vk(o:C.Ok)(hs:SOk C s)(ht:SOk C t)(ea:C.mark s=.int a)(eb:C.mark t=.int b)(X:a≠b)(hu:(aF C s t).length<=5)(hL0:64<=L)(hL:L<=10000)(Y:dX C s t a b≠[])(h:∀x0∈dX C s t a b,(∀x∈dX C s t a b,(az x0.f).length<=(az x.f).length)->(∀x∈dX C s t a b,(az x.f).length=(az x0.f).length->g9 (nI x.f) (nI x0.f)=cp)->∀p,M p=bb->Q (.ref p) (M.upd p<|.lst<|uY (aF C s t) x0.f)):
  qo ad [bg C s t,.int (L:Nat)] M Q E:=by
 have O:2 ^ (aF C s t).length<=32:=(UJ (by decide) hu:2 ^ (aF C s t).length<=2 ^ 5)
 have I:=qh (C:=C) (s:=s) (t:=t);have hlo:(dX C s t a b).length<=32:=TR (Uy _ _) (TR EY O);have u:∀x∈dX C s t a b,OutOk (aF C s t).length x:=λx c=>tJ (TN.mp c).1;rw[Sc];unfold BS;generalize H:lG ad (aJ E)=K2;refine#[rfl,ao λQ' E' w _=>oM o hs ht ea eb X (by lia) (by lia) hL λp U=>w _ _ (bZ U ?_)]
 refine cC (λd=>match d with|.int i=>.lst ((nI i.toNat).map D.int)|_=>.non) aO (by simp;lia) (λx c K q=>?_) ?_
 .obtain⟨y,hy,rfl⟩:=TM.mp c
  have oy:=u y hy;refine#[rfl,ao λQ' E' w _=>oX (Uc oy.f<|UJ (by decide)<|by lia) λp U=>w _ _ (bZ U ?_)]
  simp only[Ua]at q;rw[Jj]at q;exact q
 intro p1 W;refine bZ W ?_;have e1:((dX C s t a b).map λx=>D.int (x.f:Nat)).map (λd=>match d with|.int i=>.lst ((nI i.toNat).map D.int)|_=>.non)=((dX C s t a b).map λx=>nI x.f).map λk=>D.lst (k.map D.int):=by
  simp_all
 rw[e1];simp only[af];generalize r:(dX C s t a b).map (λx=>nI x.f)=ks;have kl:ks.length=(dX C s t a b).length:=by rw[<- r,Tz]
 refine kQ (ks:=ks) rfl (by lia) λp2 P=>bZ P ?_
 have J:=rR oTup ks;have n:=nh oTup ks;have Z:(Ik oTup ks).length=ks.length:=n.length_eq;generalize hss:Ik oTup ks=ss at *;simp only[ag,TQ];rw[<- H];unfold lG;generalize N:kY ad (aJ E)=K1;refine#[rfl,ao λQ' E' w _=>eW o hs ht λp4 R=>w _ _ (bZ R ?_)];simp only[ag,TQ];rw[<- N];unfold kY
 simp_arith! only[aA,aN,bM,bc,aa,af,ac,dt,Tu,mr,c_,eV]
 have n0:0<ks.length:=by rw[kl];exact Xd.mpr Y
 have A:∀k∈ss,∃x∈dX C s t a b,nI x.f=k:=λk T=>by
  have:=n.mem_iff.mp T;rw[<- r]at this;exact TM.mp this
 have l5:=λx c=>TR (gx (u x c).f) hu;refine#[#[λz=>by rw[z]at Z;simp at Z;lia,λk T=>?_],λi G h1 h2=>?_]
 .obtain⟨x,c,rfl⟩:=A k T
  have:=l5 x c;rw[nA];lia
 obtain⟨x0,v,g⟩:=A (ss.getD i []) (by simp_all)
 have F:∀x∈dX C s t a b,∃j,∃l:j<ss.length,ss.getD j []=nI x.f:=λx c=>by
  have:nI x.f∈ss:=n.mem_iff.mpr (by rw[<- r];exact TM.mpr #[x,c,rfl])
  obtain⟨j,l,m⟩:=Wa.mp this;exact#[j,l,by rw[Ur,Tx l];exact m]
 have eg:(ss.map λk=>D.lst (k.map D.int)).getD i .non=.lst ((nI x0.f).map D.int):=by
  rw[Ur,TJ,Tx G];show D.lst _=_;rw[g,Ur,Tx G];rfl
 rw[eg,Jj]
 simp_arith! only[aI,br,bi,TB,Ut,TY,TU,UD,dt,Tu]
 refine cC (λd=>match d with|.int i=>kD (((aF C s t)[i.toNat]?).getD<|.inl 0)|_=>.non) aO (by simp[k4];have:=l5 x0 v;lia) (λx c K q=>?_) ?_
 .obtain⟨j,l,rfl⟩:=TM.mp c
  have l:=((dy (u x0 v).f).mp l).1;have e:fE ((aF C s t).map kD) ((j:Nat):Int)=ap (kD<|((aF C s t)[j]?).getD<|.inl 0):=by
   rw[bw (by lia),Ua,TJ,Tx l];rfl
  simp_arith! only[ai,ac,dt,Tu,av,aI,e]
  simpa using q
 intro p7 S;have ef:(k4<|az x0.f).map (λd=>match d with|.int i=>kD (((aF C s t)[i.toNat]?).getD<|.inl 0)|_=>.non)=uY (aF C s t) x0.f:=by
  unfold k4 uY
  simp_all
 rw[ef];refine ak (h x0 v (λx c=>?_) (λx c el=>?_) p7 S)
 .obtain⟨j,l,m⟩:=F x c
  have:=h1 j l;rw[<- g,m,nA,nA]at this;exact this
 .obtain⟨j,l,m⟩:=F x c
  rcases Nat.lt_trichotomy j i with z|z|z
  .have:=h2 j z
   rw[<- g,m,nA,nA]at this;lia
  .subst z
   rw[m]at g;rw[g];cases e:g9 (nI x.f) (nI x.f) with
   |false=>rfl
   |true=>rw[<- e];exact oTup.asym _ _ e
  .have:=VH.mp J i j G l z
   have e3:ss[i]=nI x0.f:=by rw[g,Ur,Tx G];rfl
   have e4:ss[j]=nI x.f:=by rw[<- m,Ur,Tx l];rfl
   rw[e3,e4]at this;exact this
mutual
theorem Sj:∀(r:Rw)(n:Nat),2*hR r+1<=n->bX n r.d=true
 |.put _ _,n+1,_=>by simp[Rw.d,bX,fits]
 |.take _ _,n+1,_=>by simp[Rw.d,bX,fits]
 |.pick _ _,n+1,_=>by simp[Rw.d,bX,fits]
 |.two _ _ _ _,n+1,_=>by simp[Rw.d,bX,fits]
 |.ifr _ a b,n+2,h=>by
  simp only[hR]at h;have c:=oF a n (by lia)
  have e:=oF b n (by lia)
  simp[Rw.d,bX,fits,c,e]
 |.again _ a,n+2,h=>by
  simp only[hR]at h;have c:=oF a n (by lia)
  simp[Rw.d,bX,fits,c]
 |.ifr _ _ _,0,h=>by lia
 |.ifr _ _ _,1,h=>by simp only[hR]at h;lia
 |.again _ _,0,h=>by lia
 |.again _ _,1,h=>by simp only[hR]at h;lia
theorem oF:∀(rs:List Rw)(n:Nat),2*dD rs+1<=n->fits n (aE rs)=true
 |[],n,_=>by simp[aE,fits]
 |r::rs,n,h=>by
  simp only[dD]at h;simp[aE,fits,Sj r n (by lia),oF rs n (by lia)]
end
theorem uA:∀(n:Nat)(xs:aaX),fits n (xs.map D.str)=true
 |n,[]=>by simp[fits]
 |n,x::xs=>by
  rw[TB];unfold fits;rw[uA n xs];rfl
theorem F3(A:M p=ap (.lst xs))(v:xs.length<=100000/\∀x∈xs,LJ n x)(h:Q (.bl true) M):Y7 ad (n+2) [.ref p,.lst xs] M Q E:=by
 obtain⟨H,v⟩:=v;simp![nz,ix,i6,i7,i8,i9,i10,t1,t2,t3,t4,t5,A,↓aN];rw[if_neg (by decide),if_neg (by decide),if_neg (by decide)]
 refine ce (λl a U M'=>∃(b:List D)(j:Nat)(i f:Option D),l=b.map (λz=>D.tup [z,z])/\(∀z∈b,LJ n z)/\b.length+j<=100000/\a=Um j (.bl true)/\U=[i,f]/\M'=M) (λ_ _ _ _ ⟨_,_,_,_,_,_,_,_,_,e⟩=>by subst e;intro r o;simp only[br,UH,TY,TU,TK,WW,or_false,FH,Hw,GW,Jz,wt,wo,Ag,pP]at o;first|(subst o;exact A)|(rcases o with rfl|rfl<;>assumption)) ?_ ?_ ?_ _ _ _ _ #[xs,0,bb,bb,j8 xs,v,by lia,rfl,rfl,rfl]
 .rintro a U M' ⟨b,j,i,f,c,g,u,rfl,rfl,rfl⟩ p m
  simp![Mem.upd_del,au m,fZ,nY];exact ak h
 .rintro y l a U M' ⟨b,j,i,f,c,g,u,rfl,rfl,rfl⟩ N F _
  cases b with
  |nil=>simp at c
  |cons z b=>
   simp only[TB,UY]at c;obtain⟨rfl,rfl⟩:=c;simp only[Ug]at u;simp![];refine aL (d:=.bl true) (λQ' E' q=>f_ n z M' Q' E' (g z<|Uu ..) q) ?_;simp![];exact F _ _ _ (by simp;exact g7 (by lia)) #[b,j+1,_,_,rfl,λw G=>g w (TV _ G),by lia,by rw[W8],rfl,rfl]
 .rintro y l a U M' ⟨b,j,i,f,c,g,u,rfl,rfl,rfl⟩
  simp;exact g7 (by lia)
theorem m_:∀{l:List D},(∀x∈l,rj x)->kb l
 |[],_=>trivial
 |x::l,h=>#[by simp_all,m_<|by simp_all]
theorem xg:∀{l:List D},(∀x∈l,sz x<=k)->qD l<=l.length*(k+2)
 |[],_=>by simp[qD]
 |x::l,h=>by
  have b:=h x (by simp_all)
  have c:=xg λy a=>h y (TV _ a);simp[qD,Nat.succ_mul];lia
theorem h8{l:aaW}(c:m<=997)(h:∀v∈l,0<=v/\v<m):kb (l.map D.int):=m_ λx a=>by
 obtain⟨v,b,rfl⟩:=TM.mp a;have:=h v b;exact mD this.1 (by lia)
theorem me{l:aaW}:qD (l.map D.int)<=l.length*2002:=by
 simpa using (xg (l  := l.map _) λx a=>by
  obtain⟨v,b,rfl⟩  := TM.mp a;simp only[sz];lia)
theorem Ev(c:CaOk C s t few)(one:∀x∈C.names,vM x):bX 60 (bg C s t)=true/\(gg<|bg C s t).showable=true/\(gg<|bg C s t).shown.length<=sizeLine:=by
 have o:=c.o;have hs:=c.hs;have ht:=c.ht;have w:=o.most;have m1:=o.m1;have m2:=o.m2;have m:=c.h1;have cn:=c.cn;have A:=o.l1;have f:kb _:=m_ λx a=>by obtain⟨v,b,rfl⟩:=TM.mp a;exact aY (one v b)
 have i:=jw one m1 (by lia) _ o.ok
 have H:qD (C.names.map D.str)<=C.names.length*2002:=by
  simpa using (xg (k  := 2000) (l  := C.names.map D.str) λx a=>by
   obtain⟨v,b,rfl⟩  := TM.mp a;simp only[sz];lia)
 have p:=vC C.rows;have y:=me (l:=s.nums);have n:=me (l:=s.pieces);have u:=me (l:=t.nums);have q:=me (l:=t.pieces);have l1:=hs.ln;have G:=hs.lp;have r:=ht.ln;have F:=ht.lp;have e:∀z:Sta,z.d=.tup _:=λ_=>rfl;have g:rj (bg C s t):=#[#[mD (by lia) (by lia),f,mD (by lia) (by lia),i,aY (one _ o.mn),trivial],#[h8 m1 hs.rn,h8 m1 hs.rp,trivial],#[h8 m1 ht.rn,h8 m1 ht.rp,trivial],by show (C.most:Int).natAbs<10 ^ 6;lia,trivial]
 have z:sz (bg C s t)<=2000000:=by
  rw[H_,xM,e s,e t];simp[sz,qD];lia
 refine#[?_,Ca _ g,TR (TR (pX _ g) z)<|by decide]
 have h1:=oF C.rows 57 (by have:=o.h;lia)
 have j:=λl=>jI 57 l;rw[H_,xM,e,e];simp[bX,fits,h1,(uA 57 C.names),j]
section
variable{t:Sta}{a b:Int}
noncomputable def sy(v:Nat->Str)(n:Nat):List Nat:=(Ub<|2 ^ n).filter λB=>decide (v B=("faulty":Str))
theorem cau_in:B∈sy v n↔B<2 ^ n/\v B=("faulty":Str):=by unfold sy;simp_all
theorem N8(c:n<=5):2 ^ n<=32:=(UJ (by decide) c)
theorem Ju{l:List Nat}:(l.map jD).map Gb=l.map JL:=by rw[Ud];exact Uw λB _=>IR
theorem L6(c:U[i]?=ap (ap<|Qo v n))(h:R #[((Ub<|2 ^ n).map jD).map Gb,[]] M):C8 (ac i) U M R:=by
 simp_arith! only[C8,ac,c]
 exact h
theorem QU(c:B<2 ^ n)(q:K (decide (v B=("faulty":Str))) M):al (ai cc (ai vW (ac 1)<|ac 0)<|dC<|.str "faulty") [ap (JL B),ap (Qo v n)] M K:=by
 simp_arith! only[al,ai,ac,dt,Tu]
 refine QH c ?_;trivial
theorem mw(e:ok M)(g:∀B,B<2 ^ n->∀K:DK,K (.lst<|k4<|az B) M->te [ap (JL B),ap (Qo v n)] M K):∀(Bs:List Nat)(aaQ:List D)(c:Option D),(∀B∈Bs,B<2 ^ n)->aaQ.length+Bs.length<=100000->Q' (aaQ++((Bs.filter λB=>decide (v B=("faulty":Str))).map λB=>D.lst (k4<|az B))) M->
  cA (ag 0) (al<|ai cc (ai vW (ac 1)<|ac 0)<|dC<|.str "faulty") te ok Q' l (Bs.map JL) aaQ [c,ap (Qo v n)] M
 |[],aaQ,c,_,hl,h=>#[e,by simpa using h]
 |B::Bs,aaQ,c,hB,hl,h=>by
  simp only[Ug]at hl;have j:=hB B Uu;rw[TB];refine#[e,?_];simp only[ag,TQ];refine QU j ?_;cases i:decide (v B=("faulty":Str)) with
  |true=>
   rw[if_pos rfl];refine g B j _ #[g7 (by lia),mw e g Bs _ _ (λA f=>hB A (TV _ f)) (by simp;lia) ?_]
   rw[Uh,if_pos i]at h;simpa using h
  |false=>
   rw[if_neg (by simp)]
   refine mw e g Bs _ _ (λA f=>hB A (TV _ f)) (by lia) ?_
   rw[Uh,if_neg (by simp[i])]at h
   exact h
theorem Ef(o:C.Ok)(A:SOk C s)(z:SOk C t)(m:B<2 ^ (aF C s t).length)(I:(aF C s t).length<=5)(h:∀p,M p=bb->Q (.ref p) (M.upd p<|.lst [.lst (uY (aF C s t) B)])):yL ad [bg C s t,.lst [.lst (k4<|az B)]] M Q E:=by
 have F:=gx m;rw[Tn];unfold Aw;generalize c:lC ad _=K1;refine#[rfl,ao λQ' E' u _=>kz o A z λp y=>u _ _ (bZ y ?_)];simp[ag];rw[<- c];unfold lC
 simp_arith! only[aA,aN,bM,ac,dt,Tu,aI,bi,TB,Ut,TY,TU,UD]
 refine cC (λ_=>.lst (uY (aF C s t) B)) aO (by simp) (λx l K q=>?_) ?_
 .have:x=.lst (k4<|az B):=by simpa using l
  subst this
  simp_arith! only[am,aN,bM,ac,dt,Tu,aI,bi,TB,Ut,TY,TU,UD]
  refine cC (λd=>match d with|.int i=>kD (((aF C s t)[i.toNat]?).getD<|.inl 0)|_=>.non) aO (by simp[k4];lia) (λx l K q=>?_) ?_
  .obtain⟨j,r,rfl⟩:=TM.mp l
   have e:fE ((aF C s t).map kD) j=ap (kD<|((aF C s t)[j]?).getD<|.inl 0):=by
    rw[bw (by lia),Ua,TJ,Tx (((dy m).mp r).1)];rfl
   simp_arith! only[ai,ac,dt,Tu,av,aI,e]
   simpa using q
  intro H g;refine bZ g ?_;have G:(k4<|az B).map (λd=>match d with|.int i=>kD (((aF C s t)[i.toNat]?).getD<|.inl 0)|_=>.non)=uY (aF C s t) B:=by
   unfold k4 uY
   simp_all
  simp_all
 intro w f;exact ak (h w f)
theorem KU{l:List Nat}(h:∀i,p i=true->q i=true)(e:(l.filter q).length<=(l.filter p).length):l.filter p=l.filter q:=by
 have:l.filter p=(l.filter q).filter p:=by
  rw[List.filter_filter];exact Vl (by simp_all)
 rw[this]at e ⊢;exact List.filter_sublist.eq_of_length_le e
theorem G0{B0:Nat}{c:Out}(o:c∈dX C s t a b)(K:∀x∈dX C s t a b,(az c.f).length<=(az x.f).length)(L:∀x∈dX C s t a b,(az x.f).length=(az c.f).length->g9 (nI x.f) (nI c.f)=cp)
  (J:B0∈sy (vB C s t a b) (aF C s t).length) (m:∀B∈sy (vB C s t a b) (aF C s t).length,(az B0).length<=(az B).length) (w:∀B∈sy (vB C s t a b) (aF C s t).length,(az B).length=(az B0).length->g9 (nI B) (nI B0)=cp):az c.f=az B0:=by
 have own:∀x∈dX C s t a b,x.f∈sy (vB C s t a b) (aF C s t).length:=λx p=>by
  obtain⟨h,q⟩:=TN.mp p;exact cau_in.mpr #[(tJ h).f,by rw[P_ h];exact of_decide_eq_true q]
 obtain⟨H,I⟩:=cau_in.mp J;obtain⟨x,p,A,z⟩:=FI (C:=C) (s:=s) (t:=t) (a:=a) (b:=b) (B:=B0);have e:x∈dX C s t a b:=TN.mpr #[p,decide_eq_true<|by rw[z,I]]
 have u:az x.f=az B0:=by
  have h:=m _ (own x e);rw[cI H,cI (tJ p).f]at h ⊢;exact KU A.f h
 have q:=K x e;have N:=m _ (own c o);have y:=L x e (by rw[u]at q ⊢;lia)
 have F:=w _ (own c o) (by rw[u]at q;lia)
 have G:nI x.f=nI B0:=by unfold nI;rw[u]
 rw[G]at y;have:=oTup.anti _ _ y F;have r:(nI B0).map V7=(nI c.f).map V7:=by rw[this]
 unfold nI at r;rw[Ud,Ud]at r;have j:∀l:List Nat,l.map (V7 ∘ λ(i:Nat)=>(i:Int))=l:=λl=>by rw[Uw (g:=id) λi _=>by simp,U6]
 rw[j,j]at r;exact r.symm
theorem Hq(o:C.Ok)(l:SOk C s)(g:SOk C t)(m:C.mark t=.int b)(f:a≠b)(j:(aF C s t).length<24):2 ^ (aF C s t).length-1∈sy (vB C s t a b) (aF C s t).length:=by
 have i:=XT (aF C s t).length;have e:vB C s t a b (2 ^ (aF C s t).length-1)=iJ a b (.int b):=by
  refine (congrArg _ (ms o l g g j λq h=>?_)).trans (by rw[m])
  by_cases c:q∈aF C s t
  .rw[if_pos (by rw[Nat.testBit_two_pow_sub_one];exact decide_eq_true (Vy c))]
  split
  .rfl
  exact(Vz λz=>c (TN.mpr #[h,decide_eq_true z])).symm
 refine cau_in.mpr #[by lia,e.trans ?_]
 unfold iJ;have:¬b=a:=λz=>f z.symm;rw[if_neg (by simp[aR,this]),if_pos (by simp[aR])]
theorem Qs(h:(az B).length<=100000):(uY us B).length<=100000/\∀x∈uY us B,LJ 22 x:=by
 unfold uY;refine#[by simp_all,λx c=>?_]
 obtain⟨i,_,rfl⟩:=TM.mp c;cases us[i]?.getD _<;>trivial
end
theorem Dx(ad:Ad)(ns:aaW)(hl:ns.length<=63):Fa ad [.ml (ns.map D.int)] (λ_=>bb) (λd _=>d=.bl true) jP:=by
 have fi':∀{v:Int}{M:Mem}{Q:DK},Q (.int v) M->frz (.int v) M Q:=λz=>z;have fb':∀{v:Bool}{M:Mem}{Q:DK},Q (.bl v) M->frz (.bl v) M Q:=λz=>z;rw[RB];unfold Ce;generalize Z:ja ad (aJ jP)=K10
 simp_arith! only[ah,aq,aj,aa,af,ac,dt]
 refine#[rfl,ao λQ' E' u _=>Fw λk M1 hk _=>u _ _ ?_];simp only[ag,TQ];rw[<- Z];unfold ja;generalize hK9:lL ad (aJ jP)=K9
 simp_arith! only[ah,aq,am,aj,aa,af,ai,ac,dC,dt,Tu]
 refine#[rfl,aP hk (by decide) (by decide) λr M2 a2 b2 d2=>fi' ?_]
 simp_arith! only[b6]
 obtain⟨y,Y,f1,f5⟩:∃y:Nat,1+r=(y:Int)/\1<=y/\y<=5:=#[(1+r).toNat,by lia,by lia,by lia]
 rw[Y];refine#[rfl,ao λQ' E' u _=>Dj f1 f5 d2.1 λC s t M3 c q3=>u _ _ (GY ?_)];obtain⟨a,b,ea,eb,O⟩:=c.two;have hu:=c.un;have hn:(aF C s t).length<=5:=by lia
 have hp5:=N8 hn;obtain⟨x1,x2,x3⟩:=Ev c c.one;simp only[ag,TQ];rw[<- hK9];unfold lL;generalize hK8:lX ad (aJ jP)=K8
 simp_arith! only[ah,aq,bc,jJ,aa,af,ac,dt,Tu]
 refine#[x1,x2,x3,?_];simp only[ag,TQ];rw[<- hK8];unfold lX;generalize hK7:lH ad (aJ jP)=K7
 simp_arith! only[ah,aq,G6,aj,aa,af,ac,dt,Tu]
 refine#[rfl,ao λQ' E' u _=>pA c.o c.hs c.ht ea eb (by lia) O λp H=>u _ _ (KQ H ?_)]
 have w:=Hq (a:=a) c.o c.hs c.ht eb O (by lia)
 have X:=@G0 C s t a b;have okB:∀B∈sy (vB C s t a b) (aF C s t).length,B<2 ^ (aF C s t).length:=λB g=>(cau_in.mp g).1;have F:=λ(L:Nat)(M:Mem)(Q:DK)(E:DX)=>vk (L:=L) (ad:=ad) (M:=M) (Q:=Q) (E:=E) c.o c.hs c.ht ea eb O hn;have ne:dX C s t a b≠[]:=λz=>by
  obtain⟨x,T,_,vx⟩:=FI (C:=C) (s:=s) (t:=t) (a:=a) (b:=b) (B:=2 ^ (aF C s t).length-1);have:x∈dX C s t a b:=TN.mpr #[T,decide_eq_true<|by rw[vx,(cau_in.mp w).2]]
  rw[z]at this;cases this
 generalize hv:vB C s t a b=v at *;generalize hcl:sy v (aF C s t).length=cl at *;have cll:cl.length<=32:=by rw[<- hcl];exact TR (TR (Uy _ _)<|by simp) hp5
 simp only[ag,TQ];rw[<- hK7];unfold lH;generalize hK6:kR ad (aJ jP)=K6;simp only[ah,bO,cV];unfold aN;refine L6 (v:=v) (n:=(aF C s t).length) rfl ?_;rw[Ju];refine mw (v:=v) (n:=(aF C s t).length) aO (λB g K q=>?_) _ [] _ (λB g=>UE.mp g) (by simp;lia) ?_
 .simp_arith! only[am,bc,dS,aa,af,ac,dt,JL,aI]
  exact λp H=>bZ H q
 intro p1 hp1;rw[TU];have ecl:(Ub<|2 ^ (aF C s t).length).filter (λB=>decide (v B=("faulty":Str)))=cl:=hcl;rw[ecl]
 simp_arith! only[dF,TQ,dt,Tu,Mem.upd_same,Mem.upd_del,au hp1]
 have e1:(cl.map λB=>D.lst (k4<|az B))=(cl.map nI).map λk=>D.lst (k.map D.int):=by
  rw[Ud];exact Uw λB _=>by show _=D.lst ((nI B).map D.int);rw[Jj]
 rw[e1];rw[<- hK6];unfold kR;generalize hK5:lJ ad (aJ jP)=K5;simp only[ah,aq,bc,aa,af,am];unfold aN
 simp_arith! only[bM,ac,dt,Tu,aI,br,bi,TB,Ut,TY,TU]
 refine cC (λd=>match d with|.lst xs=>.int (xs.length:Nat)|_=>.non) aO (by simp;lia) (λx T K q=>?_) ?_
 .obtain⟨k,hk,rfl⟩:=TM.mp T
  simp_arith! only[bc,cq,aa,af,ac,dt,aI]
  exact q
 intro p2 I;refine bZ I ?_;have e2:((cl.map nI).map λk=>D.lst (k.map D.int)).map (λd=>match d with|.lst xs=>D.int (xs.length:Nat)|_=>.non)=(cl.map λB=>(((az B).length:Nat):Int)).map D.int:=by
  rw[Ud,Ud,Ud];exact Uw λB _=>by simp[nI]
 rw[e2]
 simp_arith! only[yT,c_,iN]
 refine#[λz=>(by rw[YN.mp z]at w;cases w),λm hm hmin=>?_]
 obtain⟨B1,hB1,rfl⟩:=TM.mp hm;have N:∀B∈cl,(az B1).length<=(az B).length:=λB g=>by
  have:=hmin _ (TM.mpr #[B,g,rfl]);lia
 simp only[ag,TQ];rw[<- hK5];unfold lJ;generalize hK4:ma ad (aJ jP)=K4;simp only[ah,aq,ai,am,aj,bc,bQ,aa,af,dC];unfold aN
 simp_arith! only[bM,ac,dt,Tu,aI,br,bi,TB,Ut,TY,TU]
 refine dh (λd=>match d with|.lst xs=>decide (xs.length=(az B1).length)|_=>cp) id aO (by simp;lia) (λx T K q=>?_) (λx T _ K q=>q) ?_
 .obtain⟨k,hk,rfl⟩:=TM.mp T
  simp_arith! only[al,ai,bc,cq,aa,af,ac,dt,Tu,aI,cc]
  refine#[rfl,rfl,?_];show K (decide ((((k.map D.int).length:Nat):Int)=(((az B1).length:Nat):Int))) M3;have:decide ((((k.map D.int).length:Nat):Int)=(((az B1).length:Nat):Int))=decide ((k.map D.int).length=(az B1).length):=decide_eq_decide.mpr Int.ofNat_inj;rw[this];exact q
 intro p3 hp3;refine bZ hp3 ?_;have e3:(((cl.map nI).map λk=>D.lst (k.map D.int)).filter λd=>match d with|.lst xs=>decide (xs.length=(az B1).length)|_=>cp).map id=((cl.filter λB=>decide ((az B).length=(az B1).length)).map nI).map λk=>D.lst (k.map D.int):=by
  rw[U6,Ud,UM,Ud];congr 1;exact Vl λB _=>by simp[nI]
 rw[e3];generalize R:(cl.filter λB=>decide ((az B).length=(az B1).length))=fl;have m1:B1∈fl:=by rw[<- R];exact TN.mpr #[hB1,decide_eq_true rfl]
 simp_arith! only[uk,c_,eV]
 refine#[λz=>(by rw[YN.mp z]at m1;cases m1),λi hi J=>?_]
 have S:i<fl.length:=by simpa using hi
 have gi:∀j,∀U:j<fl.length,(fl.map nI).getD j []=nI fl[j]:=λj U=>by
  rw[Ur,TJ,Tx U];rfl
 have gd:((fl.map nI).map λk=>D.lst (k.map D.int)).getD i .non=.lst (k4<|az fl[i]):=by
  rw[Ur,TJ,TJ,Tx S,<- Jj];rfl
 rw[gd];have m0:fl[i]∈fl:=V3 S;have A:∀B∈fl,g9 (nI B) (nI fl[i])=false:=λB g=>by
  obtain⟨j,U,rfl⟩:=Wa.mp g;have:=J j (by simpa using U)
  rw[gi j U,gi i S]at this;exact this
 generalize fl[i]=B0 at *;rw[<- R]at m0;obtain⟨c0,l0⟩:=TN.mp m0;have l0:=of_decide_eq_true l0;have G:=okB B0 c0;have l5:(az B0).length<=5:=TR (gx G) hn;have eqx:∀P∈dX C s t a b,(∀x∈dX C s t a b,(az P.f).length<=(az x.f).length)->(∀x∈dX C s t a b,(az x.f).length=(az P.f).length->g9 (nI x.f) (nI P.f)=cp)->uY (aF C s t) P.f=uY (aF C s t) B0:=λP h1 h2 h3=>by
  unfold uY;rw[X h1 h2 h3 c0 (λB g=>by have:=N B g;lia) λB g e=>A B (by rw[<- R];exact TN.mpr #[g,decide_eq_true<|by lia])]
 refine#[bj (by simp),λl hl=>bZ hl ?_]
 refine#[rfl,ao λQ' E' u _=>Ef c.o c.hs c.ht G hn λp H=>u _ _ (bZ H ?_)];have ea0:fE [D.lst (uY (aF C s t) B0)] 0=ap (.lst<|uY (aF C s t) B0):=rfl
 simp_arith! only[av,aI,ea0]
 have ok:=Qs (us:=aF C s t) (B:=B0) (by lia)
 have go:∀(L:Nat)(M:Mem)(Q:DK)(E:DX),64<=L->L<=10000->(∀p,M p=bb->Q (.ref p) (M.upd p<|.lst<|uY (aF C s t) B0))->qo ad [bg C s t,.int (L:Nat)] M Q E:=λL M Q E h1 h2 h=>F L M Q E h1 h2 ne λP y1 y2 y3 p H=>by rw[eqx P y1 y2 y3];exact h p H
 generalize uY (aF C s t) B0=W at *;simp only[ag,TQ];rw[<- hK4];unfold ma;generalize hK3:lc ad (aJ jP)=K3
 simp_arith! only[ah,aq,xD,aa,af,ac,dt,Tu]
 refine#[rfl,ao λQ' E' u _=>go 500 _ _ _ (by decide) (by decide) λp H=>u _ _ ?_]
 simp only[ag,TQ];rw[<- hK3];unfold lc;generalize hK2:lj ad (aJ jP)=K2
 simp_arith! only[ah,aG,gu,cO,am,aj,aa,af,ac,dt,Tu]
 refine#[rfl,aL (λ_ _ q=>F3 (n:=22) (p:=p) (xs:=W) Mem.upd_same ok q)<|fb' ?_]
 simp_arith! only[Hd,VN]
 rw[if_neg (by simp)]
 simp only[aB];rw[<- hK2];unfold lj;generalize hK1:mj ad (aJ jP)=K1
 simp_arith! only[ah,bh,kH,aa,af,dC,ac,dt,Tu,eh,Mem.upd_same,true_and,bC,Mem.upd_upd]
 refine#[g7 (by have:=ok.1;lia),?_]
 rw[<- hK1];unfold mj;unfold aA oQ
 simp_arith! only[am,aj,aa,af,ac,dC,dt,Tu]
 refine#[rfl,ao λQ' E' u _=>go 64 _ _ _ (by decide) (by decide) λp2 I=>u _ _ (bZ I ?_)]
 refine#[rfl,aL (λQ' E' q=>f_ 23 (.lst W) _ Q' E' ok q)<|fb' ?_]
 simp_arith! only[ai,bc,jJ,aa,af,ac,dt,Tu]
 refine#[x1,x2,x3,?_];simp only[cc,dv,bX,aR,decide_true];exact#[trivial,trivial,ak rfl]
end _T
namespace _T
open PySem _2 _3
def FT(K:TH):Sp:=λb H Q _=>∃(a:cb)(ns:aaW),b=[.ref a]/\GP H/\SqL K H a (ns.map V.int)/\ns.length<=63/\∀H',Q (.bl true) H'
theorem Qu{l:W.OpenLaw}{f8 f9 f10 f11 Y f13 f14 f15 f16 f17 f18 f19 f20 f21 S f23 f24 f25 f26 f27 f28 f29 f30 f31 f32 f33 f34 f35 f36 f37 f38 f39 f40 f41 f42 f43 f44 f45 f46 f47 f48 f49 f50 f51 f52 f53 f54 f55 f56 f57 f58 f59 f60 f61 f62 f63 f64 f65:cb}(X:K.In h)(G:h.Ns ff mg)(hfa:mg "law"=ap (.ref fa))
  {e1 e2 e3 e4 e5 e6 e7 e8 e9 e10 e11 e12 e13 e14 e15 e16 e17 e18 R e20 Z e22 e23 e24 e25 e26 e27 e28 e29 e30 e31 e32 e33 e34 e35 e36 e37 e38 e39 e40 e41 e42 e43 e44 e45 e46 e47 e48 e49 e50 e51 e52 e53 e54 e55 e56 e57 e58 e59 U e61 e62 e63 e64 e65:kc}
  (u:U7 K ff "Ends"=ap (ap<|.ref C_Ends))
  (n:U7 K ff "Going"=ap (ap<|.ref C_Going))
  (g:U7 K ff "Outcome"=ap (ap<|.ref C_Outcome))
  (p:U7 K ff "Walk"=ap (ap<|.ref C_Walk))
  (B:U7 K ff "Dry"=ap (ap<|.ref C_Dry))
  (m:U7 K ff "NoCase"=ap (ap<|.ref C_NoCase))
  (i:U7 K ff "TooMany"=ap (ap<|.ref C_TooMany))
  (l1:Mf K C_Walk "__init__" "Walk.__init__" QK f1 e1)
  (l2:Mf K C_Walk "note_step" "Walk.note_step" Se f2 e2)
  (l3:Mf K C_Walk "look" "Walk.look" Mz f3 e3)
  (l4:Nf K "run" Mm f4 e4)
  (l5:Nf K "mark" My f5 e5)
  (l6:Nf K "do_rows" LU f6 e6)
  (l7:Af K "do_row_runs" "do_row" LR f7 e7)
  (l8:Nf K "do_if" MG f8 e8)
  (l9:Nf K "do_again" Lw f9 e9)
  (l10:Nf K "number_of" LK f10 e10)
  (l11:Nf K "piece_read" Lu f11 e11)
  (l12:Nf K "joined" MC Y e12)
  (l13:Nf K "all_things" LI f13 e13)
  (l14:Nf K "in_order" Lh f14 e14)
  (l15:Nf K "number_in" Mn f15 e15)
  (l16:Nf K "names_read" ML f16 e16)
  (l17:Nf K "unlike" L_ f17 e17)
  (l18:Nf K "marks" MX f18 e18)
  (l19:Nf K "unlike_of" MF f19 R)
  (l20:Nf K "verdict_of" LG f20 e20)
  (l21:Mf K C_Going "__init__" "Going.__init__" Td f21 Z)
  (l22:Mf K C_Going "settled" "Going.settled" Re S e22)
  (l23:Mf K C_Ends "__init__" "Ends.__init__" R7 f23 e23)
  (l24:Mf K C_Ends "one_more" "Ends.one_more" Ri f24 e24)
  (l25:Nf K "start" LN f25 e25)
  (l26:Nf K "put_ahead" Mb f26 e26)
  (l27:Nf K "go_on" Mu f27 e27)
  (l28:Nf K "asked_by" Mj f28 e28)
  (l29:Af K "do_row_trees" "do_row" LH f29 e29)
  (l30:Nf K "mark_of" LA f30 e30)
  (l31:Nf K "both_ways" Lj f31 e31)
  (l32:NV K "tree" LL f32 e32 (500))
  (l33:Nf K "grown" MA f33 e33)
  (l34:Mf K C_Outcome "__init__" "Outcome.__init__" SV f34 e34)
  (l35:Nf K "outcomes" Mg f35 e35)
  (l36:Nf K "numbers_of" Mr f36 e36)
  (l37:NV K "fewest" Mq f37 e37 (500))
  (l38:Nf K "causes_met" MQ f38 e38)
  (l39:Nf K "_law_stirred" Lv f39 e39)
  (l40:Nf K "_law_pot" LW f40 e40)
  (l41:Nf K "_law_draw" MV f41 e41)
  (l42:Nf K "_law_names" LV f42 e42)
  (l43:Nf K "_law_row" Mo f43 e43)
  (l44:Nf K "_law_block" Ma f44 e44)
  (l45:Nf K "_law_rows" Ln f45 e45)
  (l46:Nf K "_law_plan" MW f46 e46)
  (l47:Nf K "_law_stand" LZ f47 e47)
  (l48:Nf K "_law_becomes" MR f48 e48)
  (l49:Nf K "_law_stepped" QN f49 e49)
  (l50:Nf K "_law_rounds" Lq f50 e50)
  (l51:Nf K "_law_done" Lm f51 e51)
  (l52:Nf K "_law_run" Ll f52 e52)
  (l53:Nf K "_law_flat" Ly f53 e53)
  (l54:Nf K "_law_marks" MD f54 e54)
  (l55:Nf K "_law_other" Ls f55 e55)
  (l56:Nf K "_law_by_name" N3 f56 e56)
  (l57:Nf K "_law_by_piece" R6 f57 e57)
  (l58:Nf K "_law_case" MB f58 e58)
  (l59:Nf K "_law_things" MT f59 e59)
  (l60:Nf K "_law_mixed" LQ f60 U)
  (l61:Nf K "_law_subsets" MP f61 e61)
  (l62:Nf K "_law_verdicts" Ra f62 e62)
  (l63:Nf K "_law_told" MI f63 e63)
  (l64:Nf K "_law_alike" Mx f64 e64)
  (N:Nf K "law" kC f65 e65)
  (ZP:YI K C_Dry [.type "ValueError",.type "Exception",.type "BaseException",.type "object"] "ValueError.__new__"=true)
  (Zv:YI K C_NoCase [.type "ValueError",.type "Exception",.type "BaseException",.type "object"] "ValueError.__new__"=true)
  (Zu:YI K C_TooMany [.type "ValueError",.type "Exception",.type "BaseException",.type "object"] "ValueError.__new__"=true)
  (ZD:Wc K C_Ends XD=true)
  (ZE:Wi K C_Ends=true)
  (ZF:WU K C_Ends=true)
  (ZG:UI K (.ref C_Ends) "__setattr__"=ap (ap<|.builtin "object.__setattr__"))
  (ZH:W2 K C_Ends=true)
  (ZI:U8 K (.ref C_Ends)=true)
  (Zw:Wc K C_Going XD=true)
  (Zx:Wi K C_Going=true)
  (Zy:WU K C_Going=true)
  (Zz:UI K (.ref C_Going) "__setattr__"=ap (ap<|.builtin "object.__setattr__"))
  (ZA:W2 K C_Going=true)
  (ZC:U8 K (.ref C_Going)=true)
  (Zo:Wc K C_Outcome XD=true)
  (Zp:Wi K C_Outcome=true)
  (Zq:WU K C_Outcome=true)
  (Zr:UI K (.ref C_Outcome) "__setattr__"=ap (ap<|.builtin "object.__setattr__"))
  (Zs:W2 K C_Outcome=true)
  (Zt:U8 K (.ref C_Outcome)=true)
  (ZJ:Wc K C_Walk XD=true)
  (ZK:Wi K C_Walk=true)
  (ZL:WU K C_Walk=true)
  (ZM:UI K (.ref C_Walk) "__setattr__"=ap (ap<|.builtin "object.__setattr__"))
  (ZN:W2 K C_Walk=true)
  (ZO:U8 K (.ref C_Walk)=true)
  (Zh:UI K (.ref C_Ends) "count"=ap bb)
  (Zi:UI K (.ref C_Ends) "limit"=ap bb)
  (Zj:UI K (.ref C_Going) "left"=ap bb)
  (Zc:UI K (.ref C_Going) "numbers"=ap bb)
  (Ze:UI K (.ref C_Going) "pieces"=ap bb)
  (Zk:UI K (.ref C_Going) "todo"=ap bb)
  (Y9:UI K (.ref C_Going) "unsettled"=ap bb)
  (Zb:UI K (.ref C_Outcome) "faulty"=ap bb)
  (Zd:UI K (.ref C_Outcome) "sound"=ap bb)
  (Za:UI K (.ref C_Outcome) "verdict"=ap bb)
  (Zm:UI K (.ref C_Walk) "most"=ap bb)
  (Zf:UI K (.ref C_Walk) "numbers"=ap bb)
  (Zg:UI K (.ref C_Walk) "pieces"=ap bb)
  (Zn:UI K (.ref C_Walk) "plan"=ap bb)
  (Zl:UI K (.ref C_Walk) "steps"=ap bb)
  (L:U7 K ff "all"=ap bb)
  (z:U7 K ff "bool"=ap bb)
  (x:U7 K ff "dict"=ap bb)
  (c:U7 K ff "enumerate"=ap bb)
  (O:U7 K ff "int"=ap bb)
  (b:U7 K ff "isinstance"=ap bb)
  (P:U7 K ff "len"=ap bb)
  (A:U7 K ff "list"=ap bb)
  (C:U7 K ff "max"=ap bb)
  (J:U7 K ff "min"=ap bb)
  (r:U7 K ff "range"=ap bb)
  (y:U7 K ff "repr"=ap bb)
  (f:U7 K ff "reversed"=ap bb)
  (o:U7 K ff "sorted"=ap bb)
  (M:U7 K ff "str"=ap bb)
  (q:U7 K ff "tuple"=ap bb)
  (I:U7 K ff "zip"=ap bb):
  ∃fd:kc,(∀(s:ca)(v:ay),aad s fd #[[v],[]] [("script",v)])/\∀j:g4,K.In j->j.Ns ff mg->FnOk l.prog w K mg j CX0 34 fa fd ["script"] (FT K):=by
 have e:=hfa.symm.trans (Wz X G N.a);cases e;obtain⟨_,_,kV,dc,pm,an,cd,ct,_,rfl,_⟩:=N.F.ex;refine#[Wd "law" "law" (cz kC) (bE kC) (aQ kC) .none kV dc pm an cd ct,λs v=>.of_eq rfl,λj _ _=>?_]
 let ad:Ad:=#[C_Ends,C_Going,C_Outcome,C_Walk,C_Dry,C_NoCase,C_TooMany,f1,f2,f3,f4,f5,f6,f7,f8,f9,f10,f11,Y,f13,f14,f15,f16,f17,f18,f19,f20,f21,S,f23,f24,f25,f26,f27,f28,f29,f30,f31,f32,f33,f34,f35,f36,f37,f38,f39,f40,f41,f42,f43,f44,f45,f46,f47,f48,f49,f50,f51,f52,f53,f54,f55,f56,f57,f58,f59,f60,f61,f62,f63,f64,fa,e1,e2,e3,e4,e5,e6,e7,e8,e9,e10,e11,e12,e13,e14,e15,e16,e17,e18,R,e20,Z,e22,e23,e24,e25,e26,e27,e28,e29,e30,e31,e32,e33,e34,e35,e36,e37,e38,e39,e40,e41,e42,e43,e44,e45,e46,e47,e48,e49,e50,e51,e52,e53,e54,e55,e56,e57,e58,e59,U,e61,e62,e63,e64,Wd "law" "law" (cz kC) (bE kC) (aQ kC) .none kV dc pm an cd ct]
 have T:En l.prog w K mg j ad:=#[#[ZD,ZE,ZF,ZG],
  Wz X G u,
  #[Zw,Zx,Zy,Zz],
  Wz X G n,
  #[Zo,Zp,Zq,Zr],
  Wz X G g,
  #[ZJ,ZK,ZL,ZM],
  Wz X G p,
  Zh,
  Zi,
  Zj,
  Zc,
  Ze,
  Zk,
  Y9,
  Zb,
  Zd,
  Za,
  Zm,
  Zf,
  Zg,
  Zn,
  Zl,
  iE X ZP,
  Wz X G B,
  iE X Zv,
  Wz X G m,
  iE X Zu,
  Wz X G i,
  UL X G L,
  UL X G z,
  UL X G x,
  UL X G c,
  UL X G O,
  UL X G b,
  UL X G P,
  UL X G A,
  UL X G C,
  UL X G J,
  UL X G r,
  UL X G y,
  UL X G f,
  UL X G o,
  UL X G M,
  UL X G q,
  UL X G I,
  gi ZN ZO l1,
  gm l2,
  gm l3,
  gf X G l4,
  gf X G l5,
  gf X G l6,
  ga X G l7,
  gf X G l8,
  gf X G l9,
  gf X G l10,
  gf X G l11,
  gf X G l12,
  gf X G l13,
  gf X G l14,
  gf X G l15,
  gf X G l16,
  gf X G l17,
  gf X G l18,
  gf X G l19,
  gf X G l20,
  gi ZA ZC l21,
  gm l22,
  gi ZH ZI l23,
  gm l24,
  gf X G l25,
  gf X G l26,
  gf X G l27,
  gf X G l28,
  ga X G l29,
  gf X G l30,
  gf X G l31,
  gv X G l32 rfl λ_ _ _ _ _ _ _ _=>#[λ_=>#[_,rfl,rfl],λ_ _=>#[_,rfl,rfl]],
  gf X G l33,
  gi Zs Zt l34,
  gf X G l35,
  gf X G l36,
  gv X G l37 rfl λ_ _ _ _ _ _ _ _=>#[λ_=>#[_,rfl,rfl],λ_ _=>#[_,rfl,rfl]],
  gf X G l38,
  gf X G l39,
  gf X G l40,
  gf X G l41,
  gf X G l42,
  gf X G l43,
  gf X G l44,
  gf X G l45,
  gf X G l46,
  gf X G l47,
  gf X G l48,
  gf X G l49,
  gf X G l50,
  gf X G l51,
  gf X G l52,
  gf X G l53,
  gf X G l54,
  gf X G l55,
  gf X G l56,
  gf X G l57,
  gf X G l58,
  gf X G l59,
  gf X G l60,
  gf X G l61,
  gf X G l62,
  gf X G l63,
  gf X G l64,
  gf X G N]
 exact(Np<|OW T).imp λvs H Q E ⟨a,ns,e,hO,hS,hl,k⟩=>by subst e;exact Jq hO hS (Dx ad ns hl) k
theorem walk{l:W.OpenLaw}{K:Params->TH}(p:l.most=ap 63)(e:d.params.defaults=[])
  (o:∀(w:hG)(h:g4),YP w h->(K w.params).In h)
  (F:∀(w:hG)(c:aa4)(fa:cb)(h:g4),(K w.params).In h->h.Ns ff c->c d.name=ap (.ref fa)->
   ∃fd:kc,(∀(s:ca)(u:ay),aad s fd #[[u],[]] [("script",u)])/\∀b:g4,(K w.params).In b->b.Ns ff c->FnOk l.prog w (K w.params) c b CX0 34 fa fd ["script"] (FT<|K w.params)):
  W.WalkO q loose XP YP l.row.toRowW d [] (λf vs=>YH f vs):=
 _2.Jd (n:=63) (k:=34) (x:="script") (CX:=λ_=>CX0) (sp:=λw=>FT (K w.params)) p (by decide) e #[rfl,by decide,by decide,rfl] o F (λ_ _ a m i j g=>#[a,m,rfl,j,g,i,λ_=>rfl]) λ_ _ _ _ _ z=>z
end _T
open PySem PySem.W PyProof.Rows
structure PySem.W.Fast:Prop where
 (tw15080136972240902263 tw11351344629084041984 tw10028057994606366056 tw13386839569887445052 tw17857719903956943515 tw8960322228743061540 tw9605124119651481224 tw4644505558669551442 tw14278346885358127435 tw4240641583943338484 tw5075033636922063744 tw8719311646925400544 tw15589199828117998003 tw14145428086473751377 tw9652709067335285345 tw5818866202668410101 tw3822462143570175596 tw10444361271918281524 tw10817175960051995788 tw2435583428037494422 tw12367892578185068012 tw4056497700268737282 tw7045740768235668543 tw7571442371565674614 tw16735197461997511611 tw15043277169746446061 tw8073041385072552909 tw3679600251771675810 tw6986806997231512600 tw13035574966342447080 tw1587420904504278512 tw14398007642389340705 tw14061808979313082495 tw12608691150397313648 tw8733805417078726031 tw17824686180054405796 tw14546179639645597171 tw6324857932483520941 tw4459318233774193773 tw3656039307788272207 tw11458833672815402061 tw15134381511431652248 tw16868439259566136348 tw14024626043223759076 tw16527944866340523793 tw6376116822820762622 tw13882195106202651635 tw17015993404793687318 tw12915291969030909256 tw3254247869706042217 tw18136859755910561166 tw18103958144735671790 tw384601559573014685 tw6522553050748633945 tw9474027869591403164 tw2984665036713933317 tw17234356870241254091 tw16595016410587941018 tw7389600790287241539 tw4328639833214943338 tw10589286061712292039 tw8508095636639246844 tw13734250648948574059 tw5277438785296580784 tw7345196112661996643 tw12333311389263890992 tw16173024737816962367 tw18390035222778731491 tw16370564979736677167 tw8495644698495476697 tw7644281363538208444 tw12218152570697041866 tw1247480747149652627 tw1723747469801522261 tw12376278326956393086 tw3952253037790845446 tw5998936737606026812 tw8285559755325661959 tw12182972117365389522 tw7244223004019148902 tw5152758657933472589 tw12359078185051796592 tw10960851839936440714 tw6598148607485206704 tw72272529418255928 tw12655743531294482327 tw2744975431941712070 tw18277175654086529101 tw12114827687107780160 tw16299055395456771231 tw11706584110004508496 tw10243080969453699442 tw13259204890519407114 tw17985946541752848633 tw16190991236559754438 tw15645467107996389123 tw10081403424100662223 tw3347188431392148276 tw10963089129673272588 tw11944175923972287955 tw9744533314854205933 tw160958814732645151 tw10977598710592035133 tw12112498760577496942 tw10920333903626018048 tw13149152330176159187 tw10950446240850416862 tw3824015284101796968 tw4825751048682811900 tw17633666197651792352 tw1135774345320513253 tw9407809208284779704 tw15723633657172288401 tw8864002692846960396 tw9786733573713161739 tw15293665593310070101 tw17170317220953880757 tw9382062479864334749 tw14991782093891220062 tw7967225825612614007 tw12044771318308348051 tw14046047084252573962 tw932957017418313753 tw6948820961252473401 tw1555129550047768657 tw9060437944221801674 tw7780494330170908480 tw16806531056704929892 tw6631215119644548018 tw2283324691303853765 tw13649944835701947399 tw18346850098908121221 tw6539467564284335898 tw2098684160128474365 tw9582759848134936069 tw4595466783631469392 tw13193715931617526191 tw15143084680761928856 tw11543573131276191841 tw17999307554808445210 tw14961287691648717659 tw11147892660947688604 tw9429136585372041765 tw11464847095118516503 tw8532395840565854357 tw1226306137369646593 tw13570506044265517125 tw14561277735654681549 tw13688733318312070495 tw8685765454857839186 tw6058133150503978070 tw5554074791953464657 tw8159392671878138726 tw9011414694637931496 tw3785022640009496033 tw5732288327782478581 tw4176868101742458519 tw349144122091037807 tw814962261161531387 tw368831655726258453 tw4683323907202138465 tw9994380263367386806 tw6369764215079969546 tw953068239719715769 tw9838003970273808918 tw13090417192315171588 tw790860796427715561 tw9217908734871399404 tw406140500741607106 tw7345699424923026769 tw9271867797130561568 tw4261960461744091039 tw17863576531970292541 tw15662940623279749650 tw2379156072919341011 tw13259294821561300541 tw8018353611559073478 tw6594189167515060104 tw14873461324950070692 tw14724499743293215281 tw13137982566854390789 tw17531272902684401539 tw15353724222329185608 tw1091785476732930284 tw9149156288608804926 tw15425282060904979069 tw17916275284117830083 tw18203525405068318816 tw9825842424450120728 tw6137127645159296781 tw11261383136466495000 tw7395845376960797576 tw16514605825405154028 tw6895954390312904968 tw8597605388657471602 tw6430545887647685141 tw12496279588415389126 tw12955550380653572651 tw8149210484560747950 tw15165957003888866637 tw16498306300499912476 tw16093038029263729097 tw4725465740392481110 tw794641415611994491 tw6344020778638739489 tw6962882783390149117 tw13143854665857631480 tw7066458872717386113 tw17596464826172057301 tw975223271325200425 tw9615435795274869215 tw15023295774781728148 tw7240092706433305395 tw13371595619109169469 tw316045922473468206 tw8536075425004177291 tw8865562830114488269 tw17851239033686827674 tw13921113389320537623 tw16608320100022351224 tw17148009475749242034 tw18194225186450770132 tw12074029437370356357 tw6346696094359307361 tw5220979771222559487 tw5961753171219101322 tw11665867455518586529 tw11385818600715673630 tw14368110229509507263 tw7748712765721045921 tw13266262028453320822 tw17824345646204831658 tw16009823512208247003 tw17449032548560686701 tw9433564215468526093 tw17871940266702352468 tw17146433655709900509 tw3579397514313308921 tw12498035812022117806 tw17769838385309543346 tw7950302382803716427 tw6235736829929872122 tw17915415079790524036 tw17247187032054144692 tw3762455498856085491 tw15272591175620589322 tw13835903278714269264 tw14750179128793491181 tw7670025403110572182 tw5687598800691207684 tw4747991705208911823 tw17615363823461706293 tw2315751277185779381 tw16733471907154404930 tw8096825786909327148 tw3342559832599740392 tw4721815008665501947 tw12337420277713747674 tw11360295918092412989 tw1978613395615337304 tw2249518163964252145 tw9247526032047598144 tw18297515435497002200 tw1336285935879291749 tw15258120032004988715 tw13118537901301488225 tw15245143201047084330 tw5013101774684513785 tw7556332265887749551 tw15866813050613858797 tw16595065031172116643 tw16480878740496754513 tw10687138148091853921 tw4767194015333416365 tw14639466622373898610 tw11679874906259523834 tw11684204545286547167 tw4514686259560980470 tw1750861851268075379 tw11299509424192017661 tw18293563145380199770 tw16041273502577357151 tw4072977131713417418 tw4917498104723777230 tw13058911594164981582 tw17831885536380701769 tw16404349228976424280 tw6242718165939235352 tw3720328696387124620 tw1091181226501077143 tw9666328344915491052 tw10451579805148435128 tw15209736064836843564 tw4520504090813711004 tw15453556783550332245 tw13654012362104113793 tw16078832234287550552 tw14226635457197485278 tw11983294377213833092 tw1056130966678096249 tw6593736163051423156 tw12180599056910024639 tw1355032086644617519 tw16353389858663866332 tw2797532066440926805 tw8416180833340615682 tw1056804715132429090 tw6220521157607919463 tw4135279373351959499 tw13011285343401847965 tw14117668988135926306 tw6553949863057926647 tw5139992000880496524 tw7871698842046775995 tw13003170038156113802 tw6476796608024858179 tw7144487341435865141 tw16516547323660000420 tw11497293153263989663 tw4756174264295007299 tw13731404551733660554 tw11932576179944090467 tw2185818775318458196 tw5181405343668884791 tw18230861187642283396 tw12024507913144052687 tw12545609352988193856 tw15925197543523094569 tw10543313044926340158 tw9401133780827481261 tw12452796664122154453 tw5528182020535272488 tw5640432392877312146 tw8688289062469796199 tw5106647937774045996 tw11154155640616440986 tw4125317269379368089 tw4160683172649649227 tw3774839988257578830 tw7226003124006052408 tw16563571172045592888 tw12077722426152518071 tw190418173655799371 tw12661648620555438475 tw4085326558196050085 tw16596679718515613069 tw14869683112402472694 tw3967140551253180708 tw1738137619596463468 tw7618333794095322716 tw15488392941583998268 tw1267066952712273477 tw8686596130570050568 tw11886723199879367137 tw16168928143392770887 tw10671778590280418221 tw16257197551823996283 tw9612849694728255280 tw7492121238884916429 tw3349169792475968758 tw3042911849188105903 tw9905704200992631092 tw16298048848631526059 tw10067220367446009754 tw18334273252518580540 tw3937849085020940347 tw5877320296677677532 tw1844193970849502200 tw13376347508897520584 tw17956794393401545174 tw15687858736421863088 tw1917127065118913940 tw107162130383521860 tw14715377391340438957 tw2355968872878689764 tw1957750770312210439 tw12302643791044055890 tw2156463635312951222 tw1961711408223738374 tw15395323818840092862 tw11540504367806354913 tw7901072994334127734 tw3487537507413587632 tw17529582321654773989 tw11845456059013166060 tw4115045726380820557 tw11809234112604104636 tw13808711963650073582 tw9728244184582350067 tw7814466382939277367 tw17651092286153393843 tw12088912657753575480 tw13789955361135831903 tw2944576441691108654 tw17003513555319546526 tw6899565127603488083 tw10212004316618158555 tw12684136330862595066 tw4307637990765996596 tw4724939201040656907 tw6466396433474129763 tw16689668100672689300 tw4180552970549303462 tw2671808396697834815 tw12393607473358872423 tw2600817897554648556 tw16660425065948636578 tw10067816268336195299 tw13121623375971808208 tw18405547088752455547 tw14602805174170412547 tw10606161449236181316 tw16818834566413396125 tw14006934800691299393 tw8374480649830933409 tw17055082465253307003 tw14915583943113055938 tw5561194983229776654 tw9602163764600467899 tw2467536103921834808 tw15599835973458849636 tw13504613770267090389 tw14893553819696934196 tw14956869683303341663 tw12575352930408687288 tw1814097579846069012 tw1784780396765510235 tw13678561976780686986 tw11251408068062739019 tw12913609289568129505 tw13875142376703611445 tw1044119828009176614 tw7332510564516711633 tw9844815318800794418 tw14522704914951772347 tw4392771446556942174 tw15442256784517737478 tw17422967285653312190 tw14694077730587022020 tw7298957437182525736 tw113892673580802348 tw3959774343156903389 tw5783509660331228367 tw12733028749844623611 tw9761850747991989793 tw4731970999066478732 tw11013964594108673693 tw8543253135425513638 tw17955870245577718377 tw3453363445364258034 tw8027476543707678412 tw14953579318044333720 tw4508992453731446755 tw4039077205295813500 tw2777754565419706875 tw6361483795177193392 tw8792263216171157194 tw9980265998395351347 tw1907291205432322874 tw6411134049206694688 tw15082746252237253914 tw12835611034115762979 tw14912034928539593857 tw11442414430476306586 tw4643449667490803237 tw14410750903154589537 tw14013535992264221594 tw16221005654898809344 tw14911619916472692016 tw18012868809351111531 tw14006000957748186451 tw18011623372840548390 tw10402247069147244917 tw1680704403146197242 tw6207002215777744056 tw8858149023171432958 tw4873053788736711728 tw8263554318575194857 tw1212720418017902567 tw5520893584147450253 tw2627140692962035715 tw12457096317634280743 tw8467967083871015449 tw7448130054728624400 tw11091775952256140520 tw9249505618677659846 tw17199411356984469646 tw4940758576193656635 tw3103677028543363753 tw10930643921596000365 tw7382741479899123956 tw13975037928781005478 tw3615491632712071113 tw15024673603767533960 tw11303256068401090113 tw8757895534666251029 tw16775684527173728376 tw11328809442495142318 tw17980260521915137325 tw15637588237983641317 tw4884159615655759295:True)
set_option maxRecDepth 100000 in
set_option maxHeartbeats 0 in
theorem PySem.Challenge.cw_twinstride_k40_the_fewest_cause_holds : PySem.Challenge.rw_twinstride_k40_the_fewest_cause.Holds := by
 w_on;o_law;k_head;(case hw=>w_witness2)
 k_fill
 refine _T.walk (l:=PySem.Challenge.rw_twinstride_k40_the_fewest_cause) rfl rfl (λw h Y=>W.kIn_of Y) ?F
 case F=>
  intro w b fa h KX G a;refine' _T.Qu KX G a ..
  any_goals k_is
  any_goals (first|refine' _3.Nf.mk ?_ (_2.xI ?_ ?_ ?_)|refine' _3.Mf.mk ?_ ?_ (_2.xI ?_ ?_ ?_)|refine' _3.Af.mk ?_ (_2.xI ?_ ?_ ?_)|refine' _3.SQ ?_ ?_ ?_ ?_ ?_)
  any_goals k_is
  any_goals k_exc
