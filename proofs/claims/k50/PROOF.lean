import PyProof.Rows.All
import Wide.All
import OpenK.AllK
import Wide.FinOn
import Lean
import PyProof.EqAt
import PyProof.EqKinds
import PyProof.TupleCall
import PySem.Challenge.RW_twinstride_k50_shares_of_blame
set_option Elab.async false
set_option linter.all false
set_option maxRecDepth 100000
set_option maxHeartbeats 4000000
set_option compiler.extract_closed false
set_option Elab.async false
set_option linter.all false
set_option maxRecDepth 100000
open Array renaming length_toList->Wm,replicate->Wv,toList->Xr,getElem?_eq_getElem->Y8,getElem?_eq_none->Zy,append_assoc->aaa
open Bool renaming beq_eq_decide_eq->Vv,and_eq_true->VM,false_eq_true->VS,eq_false_iff->WD,eq_iff_iff->WW,or_false->XT,not_true->XU,true_or->X6,and_false->Ye,and_true->Yl,false_ne_true->Yq,or_true->Yx,or_eq_true->YV,not_false->Y7,false_or->Zp,and_self->Zq
open Decidable renaming byContradiction->YH
open False renaming elim->Wl
open ForInStep renaming yield->XS
open Function renaming comp_def->ZR
open Int renaming toNat_natCast->Vj,emod_nonneg->VW,emod_lt_of_pos->VX,natCast_dvd_natCast->W3,toNat_of_nonneg->Xs,le_refl->Yg,toNat->Yi,zero_add->YC,add_zero->YD,mul_le_mul_of_nonneg_left->YU,eq_of_mul_eq_mul_right->Zi,eq_ofNat_of_zero_le->ZI,dvd_mul_of_dvd_left->ZJ,sub_zero->ZP,mul_zero->ZQ,mul_one->Z8,add_mul->Z9
open List renaming getElem?_cons_zero->dt,getElem?_cons_succ->UL,length_map->UM,getElem?_eq_getElem->UO,map_cons->UR,getElem?_map->UT,mem_cons->UU,mem_cons_of_mem->UY,mem_map->UZ,set->Va,range->Vc,mem_filter->Vd,size_toArray->Ve,map_map->Vf,length_cons->Vh,length_append->Vi,cons_append->Vk,replicate->Vl,nil_append->Vm,filter_cons->Vo,mem_cons_self->Vp,mem_map_of_mem->Vq,mem_append->Vs,lookup->Vw,getElem?_eq_some_iff->Vx,map_congr_left->Vy,mem_append_right->Vz,length_filter_le->VA,append_nil->VD,map_nil->VG,mem_range->VI,filter_map->VJ,mem_of_getElem?->VR,getElem?_eq_none->VU,getElem?_append_right->V0,nodup_cons->V2,sum_cons->V5,map_append->V9,foldl_cons->Wa,getElem?_range->Wb,map_id->Wd,length->We,length_set->Wg,filter_congr->Wj,replicate_succ->Wn,filter_append->Wu,length_nil->Ww,find?_cons->Wx,length_singleton->WA,idxOf_lt_length_of_mem->WC,range_eq_range'->WH,not_mem_nil->WI,lookup_cons->WJ,getElem?_zip_eq_some->WQ,getElem?_append_left->WR,filterMap_cons->WS,of_mem_zip->WV,pairwise_cons->WX,range'->W0,nodup_append->W6,ext_getElem?->W7,any_cons->Xg,replicate_succ'->Xi,mem_append_left->Xj,getElem_of_mem->Xq,mem_singleton->Xx,getD_eq_getElem?_getD->Xy,findIdx?_cons->Xz,getElem?_eq_none_iff->XH,drop_eq_getElem_cons->XI,getElem?_set->XO,zipIdx_cons->XY,nodup_range->XZ,length_take->X0,getElem_mem->X1,take_of_length_le->X4,drop_eq_nil_of_le->X5,range_succ->Ya,take_succ->Yd,findIdx?_eq_some_iff_getElem->Ys,take_succ_eq_append_getElem->Yt,reverse_cons->Yu,length_range->Yv,getElem?_nil->Yw,all_eq_true->YG,sum_append->YS,length_zip->YT,range_add->Y4,pairwise_iff_getElem->Zh,getElem?_replicate->Zv,filter_cons_of_pos->Zw,filter_cons_of_neg->Zx,range_succ_eq_map->ZF,getElem?_set_self->ZG,filter_eq_nil_iff->ZH,dropLast_eq_take->ZO,getElem?_zipIdx->ZV,getElem?_set_ne->ZW,length_pos_iff->Z4,filter_eq_self->Z5,zip_cons_cons->aad,mem_filterMap->aae
open List.Pairwise renaming filter->YO,nil->Y5,map->Y6
open List.Perm renaming refl->Z6,cons->Z7
open List.cons renaming injEq->VQ
open Nat renaming lt_of_lt_of_le->UW,le_refl->UX,le_trans->Vb,ne_of_lt->Vg,lt_irrefl->VC,pow_le_pow_right->VF,testBit_lt_two_pow->V1,lt_or_ge->Wc,le_add_right->Wf,ne_of_gt->WN,gcd->WO,lt_of_le_of_lt->WZ,zero_le->W2,zero_add->Xb,lt_succ_of_lt->Xc,le_of_lt->Xu,testBit_two_pow_add_gt->XE,mul_le_mul->XF,le_succ->XR,lt_trans->X9,not_lt->Yr,le_of_succ_le->YB,not_lt_zero->Y0,testBit_two_pow_add_eq->Zf,testBit_or->Zg,gcd_pos_of_pos_left->ZE,pow_succ->ZL,min_self->ZM,le_of_eq->ZN,pow_lt_pow_right->Z2,log2_lt->Z3
open Ne renaming symm->Vu
open Option renaming map_eq_some_iff->VT,map_some->VV,join_some->V3,isSome_iff_exists->Wi,isSome_map->Yp
open Option.some renaming inj->VP
open PyProof.Rows renaming callWith_type1->Vt,slot_tuple_getitem->VN,envOfC->Xa,IntsAre->YR
open PySem renaming mem_of_lookup->VL,Within->Zr,call->ZX,list_append->aab
open PySem.Around renaming under_plainId->ZD
open PySem.Builtin renaming bitAnd->Xp,bitOr->Yc
open PySem.Builtin.Dict renaming updateFrom->YA,showsAll->YN
open PySem.Builtin.Int renaming intBits->V7
open PySem.Builtin.Slice renaming slicePlaces->Xf,sliceAdjust->Yo
open PySem.Builtin.SmallTypes renaming nextOf->VO,ownedTupleIsFree->Wt,ownedTupleHandOut->Xw
open PySem.Builtin.Tuple renaming tupleTooMany->Yj,tupleItemsOf->Yk
open PySem.Calls renaming spliced_cons->Wq,callWith_builtin->Ws,evalArgs_plain->WE,spliced_nil->W4,Name_function_global->YZ
open PySem.Expr renaming Call->Zu
open PySem.F renaming slot_dict_keyiterator_next->WB,slot_tuple_iterator_next->WL,slot_tuple_index->WM,plainAttrs_list->WU,slot_tuple_mul->WY,slot_dict_pop->W5,slot_list_getattribute->W9,slot_list_pop->Xv,args_tuple_mul_2->XC,args_tuple_add_2->XD,entry_tuple_mul->XM,entry_tuple_add->XN,slot_tuple_add->XW,slot_zip_getattribute->X8,slot_list_append->Yf,slot_NoneType_hash->YL,args_tuple_index_2->YM,entry_tuple_index->YQ,type_tuple_index->YX,args_dict_keyiterator_next_1->YY,plainAttrs_dict->Y1,entry_dict_keyiterator_next->Y2,args_dict_pop_3->Y3,entry_dict_pop->Zd,args_tuple_iterator_next_1->Ze,type_list_pop->Zl,type_dict_pop->Zm,slot_int_rmul->Zn,entry_tuple_iterator_next->Zo,slot_list_reverse->ZC,slot_enumerate_next->aac
open PySem.Heap renaming get?_push_of_some->UN,lt_size->UQ,get?_push_size->US,size_push->VH,SameBut->VZ,get?_update_self->Xd,ExtBut->XJ,get?_update_other->ZA
open PySem.Heap.SameBut renaming update->Wz
open PySem.MeetsSeq.EqGives renaming int->ZU
open PySem.NameKind renaming cell->Yb
open PySem.Obj renaming mapSeq->Xe,data_mapFields->XB,isFreed_of_fields->ZT
open PySem.Paired renaming length->Wh
open PySem.PyData renaming hasDict->VY,showable->Xh,depth->Xn,shownAll->X3,showableAll->Yh,shown->Ym,hasDictAll->Yn,depthAll->YF,noDict_hsm->Z1
open PySem.SeqAt renaming EqAt->X2,RcNeAt->Zs,RcAt->Z0
open PySem.SeqAt.EqAt renaming str_none->Y9,none_str->Za,none_int->Zb,int_none->Zc,str_int->Zj,int_str->Zk
open PySem.SeqAt.RcAt renaming lists_lengths->YE,tuples->Zt,lists->Zz
open PySem.Str renaming ofString->W8,empty->YK
open PySem.Value renaming ref->Vn,none->Wo,type->Xt,str->Yy,int->Yz,bool->ZZ
open PySem.W renaming Frag->UP,mg_none_of->VB,findIn->VE,nsIn->V4,keepIn->V8,emptyDict->WK,kia_one->WT,plainGet->Xk,fnOf->Xl,cellsFrom_some->Xm,hasDictIn->Xo,mg_of->XA,instObj->XG,plainOver->XX,makesIn->X7,codeIn->YI,callWith_K->YJ,hideAll->YW,plainGet_of->ZK,excIn->ZY
open String renaming reduceBEq->XQ
open Sum renaming inr->Vr,inl->V6
open True renaming intro->WG
open Bool renaming false->cx
open Option renaming some->ap,none->ca
open PyProof.Rows renaming AllBare->L',IntsAre->aa8,subscriptTail_builtinR->abC
open PySem renaming Value->ax,wpAny_bind->ay,Shared->cb,Addr->cp,starEach->cT,wpAny->eg,wpAny_pure->eC,model->eH,mainGlobals->eT,Program->eX,bootBuiltins->ff,Expr->fv,eval->fx,Around->f',World->gl,FuncData->gp,Heap->g3,binaryOp->hG,backTo->ix,compareOp->iA,attributeBase->iB,wpAny_field->j0,wpAny_mono->kc,wpAny_call_entry->kl,wpAny_holding->kr,wpAny_loadPart'->kB,wpAny_setField_rec->k',assignEach->lW,cLine->l',wpAny_Call_Name_kw->mm,sysModules->mu,call_meets->n7,Stmt->ol,cellsFrom->om,holding->o4,Keyword->pa,wpAny_passesOwn->pb,backToKw->pt,swapsWith->py,wpAny_newObj_type->p3,foldedSetIterable->qa,Scope->q0,rawInt->ra,wpAny_attempt->rc,wpAny_execs_nil->re,wpAny_truthy_bool->sg,wpAny_seqItems->s9,wpAny_pyIter_list->vr,pyNext->vw,codeAny_mono->wb,wpAny_isInstance->wh,typeLookup->w6,wpAny_specialOf->w8,codeAny->x9,pushCells->y',getMethod->z4,wpAny_newTuple->z5,tupleKind_room_in1->z6,getattributeRaised->B',wpAny_of_eq->F',standAt->G',sliceBounds->J',relabel->K',checkBuiltinCall->P',Operator->S',wpAny_typeOf->UV,wpAny_rule->U_,valueAt->U',getItem->V_,PlainAttrs->V',Paired->Wp,pushCells_keeps->WF,letOwnedTupleGo->WP,isSubtype_stop->W1,NameKind->W_,IsPart->W',wpAny_standAt->XV,checkTypeCall->X_,behindInMarks->Y_,typeOf->Y',stored->ZB,pyIter->Z_,getAttr?->Z',entryFor->aa5,callerA->aa6,callWith->aa7,wpAny_pyIter_zip->aa9,wpAny_execs_cons->aa_,tupleKind->aa',noFill_tuple_add->aba,assign->abb,DictEntry->abc,wpAny_typeNameOfWhole_keyiter->abd,sizeLine_eq->abe,IsZip->abf,codeAny_builtin->abg,setItem->abh,BindsTo->abi,wpAny_setField->abj,firstArgMember->abk,closureFor->abl,builtinsNs->abm,bindArgs->abn,argsOk->abp,Result->abq,wpAny_handled->abr,wpAny_comprehension_free->abt,seq_tuple_add->abu,seqIndex?->abw,PassesOwn->abx,wpAny_pyNext_list_item->abA,wpAny_Call_method_late->abB,seqIndex_neg->abD,concat_meets->abF,callType_new->abG,wpAny_pyNext_list_end->abH,wpAny_isOneOf_keyiter->abI,wpAny_loadName_local->abJ
abbrev abX:=List Int
abbrev abY:=List PySem.Str
abbrev abZ:=List ax
abbrev ab0:=List cp
abbrev ab1:=List fv
abbrev ab2:=List ol
abbrev ab3:=ax->cb->Prop
abbrev ab4:=List (cp×PySem.Obj)
abbrev ab5:=PySem.Str->Option ax
abbrev ab6:=Array ax
set_option hygiene false in
local macro_rules|`(tactic|and_intros)=>`(tactic|(intro _ _ _ _ _ _;first|exact us1 λ_=>rfl|exact us2 λ_ _=>rfl|exact us3 λ_ _ _=>rfl|exact us4 λ_ _ _ _=>rfl|exact us5 λ_ _ _ _ _=>rfl|exact us6 λ_ _ _ _ _ _=>rfl|exact us7 λ_ _ _ _ _ _ _=>rfl|exact us8 λ_ _ _ _ _ _ _ _=>rfl))
set_option hygiene false in
local macro_rules|`(tactic|ac_nf)=>`(tactic|(first|exact .inl rfl|exact .inr rfl|assumption))
local macro_rules|`(tactic|lia)=>`(tactic|first|(with_reducible first|assumption|exact Nat.le_add_right _ _|exact Nat.le_trans (by assumption) (by decide +kernel)|exact Nat.lt_of_le_of_lt (by assumption) (by decide +kernel)|exact Int.le_of_lt (by assumption))|decide +kernel|lia -abstractProof)
noncomputable section
open List renaming toArray->Tw
local macro_rules|`(#[$xs,*])=>`(⟨$xs,*⟩)
namespace _2
open PySem PySem.Spec PyProof.Rows
variable{a b f:cp}{A:f'}{X:Cx}{e:fv}{h:g3}{H:Hp}{ch:ab0}{N:abY}{i:Nat}{P:eX}{r:R2}{m x:Str}{K:UP}{w:gl}
abbrev aD:=Sum Int Str
noncomputable def oU:aD->ax->Bool
 |.inl k,v=>Value.isInt k v
 |.inr x,v=>Value.isStrOf x v
noncomputable def Tn(w:gl):aD->Int
 |.inl k=>hashInt k
 |.inr x=>hashStr w x
theorem aY:∀{k:aD}{v:ax},oU k v=true->(∃i t,k=V6 i/\v=Yz i t)\/(∃x t,k=Vr x/\v=Yy x t)
 |.inl i,v,h=>by
  obtain⟨t,e⟩:=Value.isInt_shape h;exact .inl #[i,t,rfl,e]
 |.inr x,v,h=>by
  obtain⟨t,e⟩:=Value.isStrOf_shape h;exact .inr #[x,t,rfl,e]
theorem EK(i:Int)(t:Tok):oU (.inl i) (.int i t)=true:=by simp[oU,Value.isInt]
theorem EO(x:Str)(t:Tok):oU (.inr x) (.str x t)=true:=by simp[oU,Value.isStrOf]
theorem PB(a b:Int):decide ((V6 a:aD)=V6 b)=(a==b):=by
 by_cases e:a=b
 .subst e;simp
 simp_all
theorem OO(a b:Str):decide ((Vr a:aD)=Vr b)=decide (a=b):=by
 simp_all
theorem Qy(a:Int)(b:Str):decide ((V6 a:aD)=Vr b)=false:=decide_eq_false (λq=>nomatch q)
theorem Pq(a:Str)(b:Int):decide ((Vr a:aD)=V6 b)=false:=decide_eq_false (λq=>nomatch q)
def aU(prog:eX)(w:gl):PySem.KeyKind prog w aD where
 is:=oU
 hash:=Tn w
 inj:=λv a b q l=>by
  rcases aY q with⟨i,t,rfl,rfl⟩|⟨x,t,rfl,rfl⟩
  .rcases aY l with⟨j,u,rfl,e⟩|⟨y,u,rfl,e⟩
   .injection e with e1 _;rw[e1]
   .exact nomatch e
  .rcases aY l with⟨j,u,rfl,e⟩|⟨y,u,rfl,e⟩
   .exact nomatch e
   .injection e with e1 _;rw[e1]
 byValue:=λk v h=>by
  rcases aY h with⟨i,t,rfl,rfl⟩|⟨x,t,rfl,rfl⟩<;>rfl
 pyHash:=λg h=>by
  rcases aY g with⟨i,t,rfl,rfl⟩|⟨x,t,rfl,rfl⟩
  .exact wpAny_pyHash_int h
  .exact wpAny_pyHash_str h
 eqBool:=λn g h=>by
  rcases aY n with⟨i,t,rfl,rfl⟩|⟨x,t,rfl,rfl⟩
  .rcases aY g with⟨j,u,rfl,rfl⟩|⟨y,u,rfl,rfl⟩
   .rw[PB]at h;exact wpAny_eqBool_int h
   .rw[Qy]at h;exact Zk i t y u _ _ _ _ h
  .rcases aY g with⟨j,u,rfl,rfl⟩|⟨y,u,rfl,rfl⟩
   .rw[Pq]at h;exact Zj x t j u _ _ _ _ h
   .rw[OO]at h;exact wpAny_eqBool_str h
 «strs»:=λk x t v h=>by
  rcases aY h with⟨i,u,rfl,e⟩|⟨y,u,rfl,e⟩
  .exact nomatch e
  .injection e with e1 _
   subst e1;cases v<;>rfl
theorem xh(g:eX)(w:gl)(i:Int)(t:Tok):(aU g w).is (.inl i) (.int i t)=true:=EK i t
theorem wL(g:eX)(w:gl)(x:Str)(t:Tok):(aU g w).is (.inr x) (.str x t)=true:=EO x t
inductive V where
 |non|bl (b:Bool)|int (i:Int)|str (x:Str)|byt (b:Array UInt8)|flt (b:UInt64)|ref (a:cp)|ty (n:String)
 deriving DecidableEq
def RelV:V->ax->Prop
 |.non,u=>u=Wo
 |.bl b,u=>u=ZZ b
 |.int i,u=>∃t,u=Yz i t
 |.str x,u=>∃t,u=Yy x t
 |.byt b,u=>∃t,u=Value.bytes b t
 |.flt b,u=>∃t,u=Value.float b t
 |.ref a,u=>u=Vn a
 |.ty n,u=>u=Xt n
abbrev Vals:List V->List ax->Prop:=Wp RelV
theorem Vals.length(r:Vals xs us):xs.length=us.length:=Wh r
theorem Vals.get:∀{xs:List V}{us:abZ}{i:Nat}{x:V},Vals xs us->xs[i]?=ap x->∃u,us[i]?=ap u/\RelV x u
 |_,_,_,_,.nil,e=>by simp at e
 |_,_,0,_,.cons r _,e=>by simp_all
 |_,_,i+1,x,.cons _ t,e=>by
  obtain⟨u,g,j⟩:=Vals.get t (by simpa using e)
  simp_all
theorem Vals.set{x:V}(r:RelV x u):∀{xs:List V}{us:abZ}(i:Nat),Vals xs us->Vals (xs.set i x) (us.set i u)
 |_,_,_,.nil=>.nil
 |_,_,0,.cons _ t=>.cons r t
 |_,_,i+1,.cons q t=>.cons q (Vals.set r i t)
theorem Vals.append:∀{xs ys:List V}{us g:abZ},Vals xs us->Vals ys g->Vals (xs++ys) (us++g):=by
 intro xs ys us g h s
 induction h with
 |nil=>exact s
 |cons r _ ih=>exact .cons r ih
theorem Vals.take:∀{xs:List V}{us:abZ}(n:Nat),Vals xs us->Vals (xs.take n) (us.take n)
 |_,_,0,_=>.nil
 |_,_,_+1,.nil=>.nil
 |_,_,n+1,.cons r t=>.cons r (Vals.take n t)
theorem Vals.drop:∀{xs:List V}{us:abZ}(n:Nat),Vals xs us->Vals (xs.drop n) (us.drop n)
 |_,_,0,r=>r
 |_,_,_+1,.nil=>.nil
 |_,_,n+1,.cons _ t=>Vals.drop n t
def RelO:Option V->Option ax->Prop
 |some v,ap u=>RelV v u
 |none,ca=>True
 |_,_=>False
def KV{κ:Type}:List (κ×V)->List (κ×ax)->Prop:=Wp λ(p:κ×V)(q:κ×ax)=>p.1=q.1/\RelV p.2 q.2
def kV:aD->V
 |.inl i=>.int i
 |.inr x=>.str x
inductive HO where
  |lst (xs:List V)
  |tup (xs:List V)
  |dK (abR:List (aD×V))|dT (abR:List (List aD×V))
  |set (S:Int->Bool) (n:Nat)
  |ins (C dx:cp) (fs:List (Str×V))
  |own (x:cp)
  |xd (fs:List (Str×V))
  |met (f x:cp)
  |rng (lo hi:Int)
  |frz (o:Obj) (u:HO)
  |tbl (ps:ab6)
  |ext (φ:g3->Prop)
abbrev Hp:=cp->Option HO
noncomputable def upd(H:Hp)(a:cp)(o:HO):Hp:=λb=>if b=a then ap o else H b
theorem upd_same:upd H a o a=ap o:=by unfold upd;simp_all
theorem aF(h:b≠a):upd H a o b=H b:=by unfold upd;rw[if_neg h]
theorem RT(h:H a=ap o)(h':H b=ap u)(d:o≠u):a≠b:=by
 intro e;subst e;rw[h]at h';exact d (VP h')
theorem br(h:H a=ap o)(h':H b=ca):a≠b:=by
 intro e;simp_all
section
variable(P:eX)(w:gl)
def ObjOk(H:Hp)(h:g3)(a:cp):HO->Prop
 |.lst xs=>xs.length<=sizeLine/\∃(abV:abZ)(n:Nat),Vals xs abV/\h.get? a=ap { cls:=.type "list",data:=.seq abV.toArray n }
 |.tup xs=>xs.length<=sizeLine/\∃abV:List ax,Vals xs abV/\∃o,h.get? a=ap o/\(o.cls=.type "tuple"/\∃n,o.data=.seq abV.toArray n)/\o.dict=ca
 |.dK abR=>abR.length<=sizeLine/\(a==mu)=cx/\∃vs,KV abR vs/\h.DictOf (aU P w) a vs
 |.dT abR=>abR.length<=sizeLine/\(a==mu)=cx/\∃xs:List (List aD×cp×ax),
   Wp (λ(p:List aD×V)(q:List aD×cp×ax)=>p.1=q.1/\H q.2.1=ap (.tup<|p.1.map kV)/\RelV p.2 q.2.2) abR xs/\
   ∃o es ep,h.get? a=ap o/\o.ExactDict/\o.data=.dict es ep/\es.toList=xs.map (entryOfKey<|tupleKind<|aU P w)/\(xs.map (·.1)).Nodup
 |.set S n=>h.SetOf (intKind P w) a S n
 |.ins C dx fs=>H dx=ap (.own a)/\fs.length<=1000/\dx≠a/\h.get? a=ap (XG C dx)/\
   ∃mA,h.Ns1 dx mA/\(∀f,RelO (fs.lookup f) (mA f))/\Zr mA (fs.map (·.1))
 |.own _=>∃o,h.get? a=ap o
 |.xd fs=>∃mA,h.Ns1 a mA/\∀f,RelO (fs.lookup f) (mA f)
 |.rng lo hi=>∃t u v,h.get? a=ap { cls:=.type "range",data:=.fields (Tw [.int lo t,.int hi u,.int 1 v]) }
 |.frz o u=>h.get? a=ap o/\ObjOk H h a u
 |.tbl ps=>h.get? a=ap { cls:=.none,data:=.fields ps }
 |.met f x=>h.get? a=ap (W.methodObj (.ref f)<|.ref x)
 |.ext φ=>φ h/\(∃o,h.get? a=ap o)/\∀h1 h2:g3,φ h1->(∀o,h1.get? a=ap o->h2.get? a=ap o)->φ h2
def HOk(H:Hp)(h:g3):Prop:=∀a o,H a=ap o->ObjOk P w H h a o
end
theorem ObjOk.lt(x:ObjOk P w H h a o):a<h.objs.size:=by
 cases o with
 |lst xs=>obtain⟨_,_,_,_,e⟩:=x;exact UQ e
 |tup xs=>obtain⟨_,_,_,_,e,_⟩:=x;exact UQ e
 |dK abR=>obtain⟨_,_,_,_,o,_,_,e,_⟩:=x;exact UQ e
 |dT abR=>obtain⟨_,_,_,_,o,_,_,e,_⟩:=x;exact UQ e
 |set S n=>obtain⟨o,_,_,_,e,_⟩:=x;exact UQ e
 |ins C dx fs=>obtain⟨_,_,_,e,_⟩:=x;exact UQ e
 |own y=>obtain⟨_,e⟩:=x;exact UQ e
 |xd fs=>obtain⟨_,⟨_,_,_,e,_⟩,_⟩:=x;exact UQ e
 |rng lo hi=>obtain⟨_,_,_,e⟩:=x;exact UQ e
 |frz ob u=>obtain⟨e,_⟩:=x;exact UQ e
 |tbl ps=>exact UQ x
 |met f y=>exact UQ x
 |ext φ=>obtain⟨_,⟨_,e⟩,_⟩:=x;exact UQ e
theorem ib:∀{j:List α}{g:List l},Wp F j g->(∀a b,F a b->G a b)->Wp G j g:=by
 intro j g h f
 induction h with
 |nil=>exact .nil
 |cons r _ ih=>exact .cons (f _ _ r) ih
theorem ObjOk.stay(x:ObjOk P w H h a o)(k:∀b u,(b=a\/H b=ap (.own a))->h.get? b=ap u->h'.get? b=ap u)(L:∀b,H b=ap (.own a)->H' b=ap (.own a))(J:∀b xs,H b=ap (.tup xs)->H' b=ap (.tup xs)):ObjOk P w H' h' a o:=by
 induction o with
 |lst xs=>obtain⟨z,l,n,r,e⟩:=x;exact#[z,l,n,r,k _ _ (.inl rfl) e]
 |tup xs=>obtain⟨z,l,r,g,e,c⟩:=x;exact#[z,l,r,g,k _ _ (.inl rfl) e,c]
 |dK abR=>obtain⟨z,y,I,r,g,es,j,e,c⟩:=x;exact#[z,y,I,r,g,es,j,k _ _ (.inl rfl) e,c]
 |dT abR=>
  obtain⟨z,y,xs,r,g,es,j,e,c⟩:=x;exact#[z,y,xs,ib r λp q z=>#[z.1,J _ _ z.2.1,z.2.2],g,es,j,k _ _ (.inl rfl) e,c]
 |set S n=>obtain⟨g,es,j,t,e,c⟩:=x;exact#[g,es,j,t,k _ _ (.inl rfl) e,c]
 |ins C dx fs=>
  obtain⟨d,z,ne,e,mA,⟨B,es,j,G,c⟩,r⟩:=x;exact#[L _ d,z,ne,k _ _ (.inl rfl) e,mA,#[B,es,j,k _ _ (.inr d) G,c],r]
 |own y=>obtain⟨g,e⟩:=x;exact#[g,k _ _ (.inl rfl) e]
 |xd fs=>obtain⟨mA,⟨B,es,j,e,c⟩,r⟩:=x;exact#[mA,#[B,es,j,k _ _ (.inl rfl) e,c],r]
 |rng lo hi=>obtain⟨t,u,v,e⟩:=x;exact#[t,u,v,k _ _ (.inl rfl) e]
 |frz g u ih=>obtain⟨e,q⟩:=x;exact#[k _ _ (.inl rfl) e,ih q]
 |tbl ps=>
  have e:h.get? a=ap { cls:=.none,data:=.fields ps }:=x;show h'.get? a=ap { cls:=.none,data:=.fields ps };exact k a _ (.inl rfl) e
 |met f y=>
  have e:h.get? a=ap (W.methodObj (.ref f)<|.ref y):=x;show h'.get? a=ap (W.methodObj (.ref f)<|.ref y);exact k a _ (.inl rfl) e
 |ext φ=>obtain⟨p,⟨o,e⟩,F⟩:=x;exact#[F _ _ p λo q=>k _ _ (.inl rfl) q,#[o,k _ _ (.inl rfl) e],F]
theorem HOk.lt(x:HOk P w H h)(e:H a=ap o):a<h.objs.size:=(x a o e).lt
theorem HOk.fresh(x:HOk P w H h)(e:h.objs.size<=a):H a=none:=by
 cases q:H a with
 |none=>rfl
 |some u=>exact absurd (UW (x.lt q) e) (VC _)
theorem HOk.kept(x:HOk P w H h)(k:∀b u,h.get? b=ap u->h'.get? b=ap u):HOk P w H h':=λa o e=>
 (x a o e).stay (λb u _ q=>k b u q) (λ_ q=>q) λ_ _ q=>q
theorem HOk.laid(x:HOk P w H h)(k:∀b u,h.get? b=ap u->h'.get? b=ap u)(l:h.objs.size<=a)(new:ObjOk P w (upd H a o) h' a o):HOk P w (upd H a o) h':=λb u e=>by
 have g:=x.fresh l
 by_cases j:b=a
 .subst j;rw[upd_same]at e;cases e;exact new
 .rw[aF j]at e
  exact(x b u e).stay (λc v _ q=>k c v q) (λc q=>by rw[aF (br q g)];exact q) λc n q=>by rw[aF (br q g)];exact q
def Rd(H:Hp)(a:cp)(u:HO):Prop:=H a=ap u\/∃o,H a=ap (.frz o u)
theorem Rd.ok(r:Rd H a u)(x:HOk P w H h):ObjOk P w H h a u:=by
 rcases r with r|⟨o,r⟩
 .exact x a u r
 obtain⟨_,q⟩:=x a _ r;exact q
def UG:Option HO->Prop
 |some (.lst _)=>True
 |some (.dK _)=>True
 |some (.dT _)=>True
 |some (.set _ _)=>True
 |some (.ins _ _ _)=>True
 |some (.ext _)=>True
 |_=>False
section
variable{x e:cp}
theorem HOk.write(ok:HOk P w H h)(F:UG (H x))(J:e=x\/H e=ap (.own x))(k:∀b u,b≠e->h.get? b=ap u->h'.get? b=ap u)(G:∃u,h'.get? e=ap u)(new:ObjOk P w (upd H x o') h' x o'):HOk P w (upd H x o') h':=λb u q=>by
 have j:∀c y,H c=ap (.own y)->c≠x:=λc y r z=>by subst z;rw[r]at F;exact F
 have l:∀c n,H c=ap (.tup n)->c≠x:=λc n r z=>by subst z;rw[r]at F;exact F
 by_cases B:b=x
 .subst B;rw[upd_same]at q;cases q;exact new
 .rw[aF B]at q
  by_cases g:b=e
  .have I:H b=ap (.own x):=by
    rcases J with z|z
    .exact absurd (g.trans z) B
    .rw[g];exact z
   rw[q]at I;cases I;obtain⟨v,L⟩:=G;exact#[v,by rw[g];exact L]
  .refine (ok b u q).stay (λc v hc r=>k c v ?_ r) (λc r=>by rw[aF (j c b r)];exact r) λc n r=>by rw[aF (l c n r)];exact r
   rcases hc with rfl|hc
   .exact g
   .rintro rfl
    rcases J with z|z
    .exact j c b hc z
    .rw[hc]at z;cases z;exact B rfl
end
structure Un(fs ex:ab0)(H H':Hp)(h h':g3):Prop where
 keep:∀b o,h.get? b=ap o->H b=ca->b∉fs->b∉ex->h'.get? b=ap o
 slot:∀b o,h.get? b=ap o->H b=ca->b∈fs->b∉ex->∃sl,h'.get? b=ap { o with slots:=sl }
 free:∀b o,h.get? b=ap o->H b=ca->b∉ex->H' b=ca
 there:∀b o,h.get? b=ap o->b∉ex->∃o',h'.get? b=ap o'
 tups:∀b xs,H b=ap (.tup xs)->H' b=ap (.tup xs)
 frzs:∀b o u,H b=ap (.frz o u)->H' b=ap (.frz o u)
 tbls:∀b ps,H b=ap (.tbl ps)->∃more,H' b=ap (.tbl (ps++more))
section
variable{x e:cp}
theorem Un.any(u:Un fs ex H H1 h h1)(q:h.get? b=ap g)(n:H b=ca)(l:b∉ex):∃v,h1.get? b=ap { g with slots:=v }:=by
 by_cases j:b∈fs
 .exact u.slot b g q n j l
 exact#[_,u.keep b g q n j l]
theorem Un.kept(k:∀b u,h.get? b=ap u->h'.get? b=ap u):Un fs ex H H h h':=
 #[λb g q _ _ _=>k b g q,λb g q _ _ _=>#[_,k b g q],λ_ _ _ n _=>n,λb g q _=>#[g,k b g q],λ_ _ q=>q,λ_ _ _ q=>q,λ_ ps q=>#[(Tw []),by rw[q];simp]]
theorem Un.refl:Un fs ex H H h h:=Un.kept λ_ _ q=>q
theorem Un.laid(k:∀b u,h.get? b=ap u->h'.get? b=ap u)(l:h.objs.size<=a)(g:H a=ca):Un fs ex H (upd H a o) h h' where
 keep:=λb u q _ _ _=>k b u q
 slot:=λb u q _ _ _=>#[_,k b u q]
 free:=λb u q n _=>by rw[aF (Vg<|UW (UQ q) l)];exact n
 there:=λb u q _=>#[u,k b u q]
 tups:=λb j q=>by rw[aF (br q g)];exact q
 frzs:=λb u j q=>by rw[aF (br q g)];exact q
 tbls:=λb ps q=>#[(Tw []),by rw[aF (br q g),q];simp]
theorem Un.write(v:UG (H x))(G:e=x\/H e=ap (.own x))(k:∀b u,b≠e->h.get? b=ap u->h'.get? b=ap u)(F:∃u,h'.get? e=ap u):Un fs ex H (upd H x o) h h':=by
 have B:∀b,H b=ca->b≠x:=λb n z=>by subst z;rw[n]at v;exact v
 have l:∀b,H b=ca->b≠e:=λb n z=>by
  simp_all
 have g:∀b u,H b=ap u->¬UG (ap u)->b≠x:=λb u q nm z=>by simp_all
 refine#[λb u q n _ _=>k b u (l b n) q,λb u q n _ _=>#[_,k b u (l b n) q],λb u q n _=>by rw[aF (B b n)];exact n,λb u q _=>?_,
  λb y q=>by rw[aF (g b _ q λz=>z)];exact q,λb u y q=>by rw[aF (g b _ q λz=>z)];exact q,λb ps q=>#[(Tw []),by rw[aF (g b _ q λz=>z),q];simp]]
 by_cases j:b=e
 .simp_all
 exact#[u,k b u j q]
end
noncomputable def trk(h:g3)(H:Hp):List Addr:=(Vc h.objs.size).filter λa=>(H a).isSome
def ui(h:g3)(H:Hp):Heap:=YW h (trk h H)
theorem DJ(h:g3)(H:Hp):(ui h H).objs.size=h.objs.size:=W.hideAll_size _ _
theorem J1(e:h.get? b=ap o)(n:H b=ca):(ui h H).get? b=ap o:=
 W.hideAll_get _ e λg=>by
  have q:=(Vd.mp g).2
  simp_all
theorem JY(e:(ui h H).get? b=ap o):h.get? b=ap o/\H b=none:=by
 have g:=W.of_hideAll _ e;refine#[g,?_];cases q:H b with
 |none=>rfl
 |some x=>
  have j:b∈trk h H:=Vd.mpr #[VI.mpr (UQ g),by simp[q]]
  have z:(ui h H).get? b=none:=W.hideAll_none _ j
  simp_all
structure Mod(K:UP)(mg:ab5)(base:g3):Prop where
 kin:K.In base
 glob:base.Ns eT mg
 blt:∃mb,base.Ns abm mb/\∀x:Str,x≠"__name__"->mb x=ff x
 nolimit:base.NoLimit
structure Cx where
 prog:eX
 w:gl
 K:UP
 mg:Str->Option ax
 base:g3
 A:f'
 N:List Str
 s₀:cb
 H₀:Hp
 env:Env
 outer:List Env
 stack:List Env
 ex:List cp
 fn:Str->Bool
 calm:Bool
 pn:List (cp×Obj)
 xe:ax->cb->Prop
noncomputable def iZ(l:List Env):List Addr:=l.filterMap (·.frame)
abbrev Cx.fs(X:Cx):List Addr:=iZ X.outer
def RH(sc:q0)(x:Str):Prop:=sc.names.lookup x=ap .local\/sc.names.lookup x=ap .cell\/sc.names.lookup x=ap .free
def Ii(sc:q0)(x:Str):Prop:=sc.names.lookup x=ap .local\/sc.names.lookup x=ap .cell
def Look(env:Env)(h:g3)(m:ab5)(x:Str)(u:ax):Prop:=
 (env.kindOf x=ap .local/\m x=ap u)\/((env.kindOf x=ap .cell\/env.kindOf x=ap .free)/\∃c,env.cells.lookup x=ap c/\h.IsCell c (ap u))
structure Cx.Ok(X:Cx):Prop where
 mod:Mod X.K X.mg X.base
 kind:X.env.scope.kind=.function
 glob:X.env.globals=eT
 blt:X.env.builtins=abm
 above:X.s₀.heap.objs.size<=X.env.locals
 inj:∀x y c,X.env.cells.lookup x=ap c->X.env.cells.lookup y=ap c->x=y
 has:∀x,(X.env.kindOf x=ap .cell\/X.env.kindOf x=ap .free)->∃c,X.env.cells.lookup x=ap c
 cab:∀x c,X.fn x=true->X.env.cells.lookup x=ap c->X.s₀.heap.objs.size<=c
 hd:X.calm=true->X.A.handled=ca
 frames:X.A.frames=ap X.stack
 stk:X.stack=X.outer\/(X.stack=X.env::X.outer/\X.env.frame=ap X.env.locals)
 exf:∀b∈X.ex,b≠X.env.locals/\∀x c,X.env.cells.lookup x=ap c->c≠b
 bs:∀b o,X.base.get? b=ap o->X.s₀.heap.get? b=ap o/\X.H₀ b=ca
 bsz:X.base.objs.size<=X.s₀.heap.objs.size
 noex:∀b o,X.base.get? b=ap o->b∉X.ex
 exfs:∀b∈X.ex,b∉X.fs
 funs:X.s₀.heap.FunFrames X.base X.outer
 frf:∀b∈X.fs,X.H₀ b=ca
structure Inv(X:Cx)(abP:ab4)(Z:List (Option V))(H:Hp)(s:cb):Prop where
 ok:X.Ok
 os:s.os=X.s₀.os
 bare:L' s.gens
 base:Un X.fs X.ex X.H₀ H X.s₀.heap s.heap
 loc:∃m,s.heap.Ns X.env.locals m/\∀(i:Nat)(x:Str)(v:V),X.N[i]?=ap x->Z[i]?=ap (ap v)->RH X.env.scope x->∃u,RelV v u/\Look X.env s.heap m x u
 cell:∀x c,X.env.cells.lookup x=ap c->∃v,s.heap.IsCell c v
 free:H X.env.locals=ca
 freeC:∀x c,X.env.cells.lookup x=ap c->H c=ca
 pin:∀p∈X.pn++abP,s.heap.get? p.1=ap p.2/\H p.1=ca/\p.1≠X.env.locals/\p.1∉X.fs/\∀v,p.2.data≠.cell v
 hok:HOk X.prog X.w H s.heap
 len:Z.length=X.N.length
theorem Cx.Ok.nofr(ok:X.Ok)(e:X.base.get? b=ap o):b∉X.fs:=λg=>by
 have:=(ok.funs.mem g).1
 simp_all
theorem Inv.bs(I:Inv X abP Z H s):∀b o,X.base.get? b=ap o->s.heap.get? b=ap o/\H b=none:=λb o e=>
 #[I.base.keep b o (I.ok.bs b o e).1 (I.ok.bs b o e).2 (I.ok.nofr e) (I.ok.noex b o e),I.base.free b o (I.ok.bs b o e).1 (I.ok.bs b o e).2<|I.ok.noex b o e]
theorem Inv.bk(I:Inv X abP Z H s):∀b o,X.base.get? b=ap o->s.heap.get? b=ap o:=λb o e=>(I.bs b o e).1
theorem Inv.mod(I:Inv X abP Z H s):Mod X.K X.mg X.base:=I.ok.mod
theorem Inv.kIn(I:Inv X abP Z H s):X.K.In s.heap:=I.ok.mod.kin.keeps I.bk
theorem Inv.lt(I:Inv X abP Z H s):X.env.locals<s.heap.objs.size:=let ⟨_,hn,_⟩:=I.loc;hn.lt
theorem Inv.sz(I:Inv X abP Z H s):X.s₀.heap.objs.size<=s.heap.objs.size:=Vb I.ok.above (Xu I.lt)
theorem Inv.nofs(I:Inv X abP Z H s)(h:s.heap.objs.size<=a):a∉X.fs:=λj=>by
 obtain⟨_,o,g,_⟩:=I.ok.funs.mem j;exact absurd (UW (UQ g)<|Vb I.sz h) (VC _)
theorem Inv.cne(I:Inv X abP Z H s):∀x c,X.env.cells.lookup x=ap c->c≠X.env.locals:=λx c e z=>by
 obtain⟨v,o,l,q⟩:=I.cell x c e;obtain⟨m,⟨n,es,y,g,j,_⟩,_⟩:=I.loc
 simp_all
theorem Inv.funs(I:Inv X abP Z H s):s.heap.FunFrames X.base X.outer:=by
 have all:∀(l:List _),(∀b∈iZ l,b∈X.fs)->X.s₀.heap.FunFrames X.base l->s.heap.FunFrames X.base l:=by
  intro l
  induction l with
  |nil=>intro _ _;trivial
  |cons env r ih=>
   rintro q ⟨G,⟨L,o,j,v,y,F⟩,B⟩
   have g:=q L (by unfold iZ;rw[WS,j];exact Vp)
   obtain⟨J,e⟩:=I.base.slot L o y (I.ok.frf L g) g λz=>I.ok.exfs L z g;exact#[G,#[L,_,j,v,e,F],ih (λb n=>q b (by unfold iZ;rw[WS,j];exact UY _ n)) B]
 exact all _ (λ_ n=>n) I.ok.funs
theorem Inv.stack(I:Inv X abP Z H s):s.heap.FunFrames X.base X.stack:=by
 rcases I.ok.stk with e|⟨e,hf⟩
 .rw[e];exact I.funs
 .rw[e]
  obtain⟨m,g,_⟩:=I.loc;refine .cons (by rw[I.ok.kind];decide) hf g ?_ I.funs
  exact Heap.get?_none_of_le (Vb I.ok.bsz I.ok.above)
theorem Inv.stkSub(I:Inv X abP Z H s):∀b∈iZ X.stack,b∈X.env.locals::X.fs:=λb g=>by
 rcases I.ok.stk with e|⟨e,hf⟩
 .rw[e]at g;exact UY _ g
 rw[e]at g;unfold iZ at g;rw[WS,hf]at g;exact g
theorem Inv.stkFree(I:Inv X abP Z H s):∀b∈iZ X.stack,H b=none:=λb hb=>by
 rcases UU.mp (I.stkSub b hb) with e|hb
 .rw[e];exact I.free
 obtain⟨_,o,g,_⟩:=I.ok.funs.mem hb;exact I.base.free b o g (I.ok.frf b hb) λz=>I.ok.exfs b z hb
theorem Inv.step(I:Inv X abP Z H s)(B:∀b∈ch,(b∈X.ex\/X.s₀.heap.objs.size<=b)/\b≠X.env.locals/\(∀x c,X.env.cells.lookup x=ap c->c≠b)/\∀p∈X.pn++abP,p.1≠b)(keep:∀b o,b≠X.env.locals->b∉X.fs->b∉ch->s.heap.get? b=ap o->H b=ca->h'.get? b=ap o)(slot:∀b o,b≠X.env.locals->b∈X.fs->b∉ch->s.heap.get? b=ap o->H b=ca->∃Y,h'.get? b=ap { o with slots:=Y })(free:∀b o,b∉ch->s.heap.get? b=ap o->H b=ca->H' b=ca)(there:∀b o,b∉ch->s.heap.get? b=ap o->∃T,h'.get? b=ap T)(tups:∀b J,H b=ap (.tup J)->H' b=ap (.tup J))(frzs:∀b o u,H b=ap (.frz o u)->H' b=ap (.frz o u))(tbls:∀b ps,H b=ap (.tbl ps)->∃more,H' b=ap (.tbl (ps++more)))(ns:∀m,s.heap.Ns X.env.locals m->h'.Ns X.env.locals m)(hok:HOk X.prog X.w H' h')(hg:L' g'):
  Inv X abP Z H' { s with heap:=h',gens:=g',drawn:=d',toks:=t' }:=by
 have S:∀b o,X.s₀.heap.get? b=ap o->b≠X.env.locals:=λb o e=>Vg (UW (UQ e) I.ok.above);have F:∀b o,X.s₀.heap.get? b=ap o->b∉X.ex->b∉ch:=λb o e g L=>by
  rcases (B b L).1 with z|z
  .exact g z
  .exact absurd (UW (UQ e) z) (VC _)
 have y:∀x c,X.env.cells.lookup x=ap c->∀v,s.heap.IsCell c v->h'.IsCell c v:=λx c e v ⟨o,O,U⟩=>by
  have j:c∉ch:=λz=>(B c z).2.2.1 x c e rfl
  by_cases hc:c∈X.fs
  .obtain⟨Y,q⟩:=slot c o (I.cne x c e) hc j O (I.freeC x c e)
   exact#[_,q,U]
  .exact#[o,keep c o (I.cne x c e) hc j O (I.freeC x c e),U]
 refine#[I.ok,I.os,hg,#[λb o e n L g=>?_,λb o e n L g=>?_,λb o e n g=>?_,λb o e g=>?_,λb J e=>tups b J (I.base.tups b J e),λb o J e=>frzs b o J (I.base.frzs b o J e),λb ps e=>?_],?_,λx c e=>?_,?_,λx c e=>?_,λp hp=>?_,hok,I.len]
 .exact keep b o (S b o e) L (F b o e g) (I.base.keep b o e n L g) (I.base.free b o e n g)
 .obtain⟨Y,G⟩:=I.base.slot b o e n L g
  obtain⟨W,R⟩:=slot b _ (S b o e) L (F b o e g) G (I.base.free b o e n g);exact#[W,R]
 .obtain⟨T,G⟩:=I.base.there b o e g
  exact free b T (F b o e g) G (I.base.free b o e n g)
 .obtain⟨T,G⟩:=I.base.there b o e g
  exact there b T (F b o e g) G
 .obtain⟨m1,G⟩:=I.base.tbls b ps e
  obtain⟨m2,R⟩:=tbls b _ G;exact#[m1++m2,by rw[R,aaa]]
 .obtain⟨m,hn,hl⟩:=I.loc
  refine#[m,ns m hn,λi x v G R e3=>?_];obtain⟨u,r,l⟩:=hl i x v G R e3;refine#[u,r,?_];rcases l with l|⟨k,c,e,z⟩
  .exact .inl l
  .exact .inr #[k,c,e,y x c e _ z]
 .obtain⟨v,z⟩:=I.cell x c e
  exact#[v,y x c e v z]
 .obtain⟨m,⟨o,_,_,O,_⟩,_⟩:=I.loc
  exact free _ o (λz=>(B _ z).2.1 rfl) O I.free
 .obtain⟨v,o,O,U⟩:=I.cell x c e
  exact free c o (λz=>(B c z).2.2.1 x c e rfl) O (I.freeC x c e)
 .obtain⟨e,n,ne,nf,d⟩:=I.pin p hp
  have j:p.1∉ch:=λz=>(B p.1 z).2.2.2 p hp rfl;exact#[keep p.1 p.2 ne nf j e n,free p.1 p.2 j e n,ne,nf,d]
theorem Inv.un(I:Inv X abP Z H s)(u:Un X.fs [] H H' s.heap h')(v:HOk X.prog X.w H' h'):Inv X abP Z H' { s with heap:=h',toks:=t' }:=by
 obtain⟨m,⟨o,es,J,y,r⟩,_⟩:=id I.loc;obtain⟨L,B⟩:=u.any y I.free (by simp)
 exact I.step (g':=s.gens) (d':=s.drawn) (ch:=[]) (λ_ z=>nomatch z) (λb o _ q _ e n=>u.keep b o e n q (by simp)) (λb o _ q _ e n=>u.slot b o e n q (by simp)) (λb o _ e n=>u.free b o e n (by simp)) (λb o _ e=>u.there b o e (by simp)) u.tups u.frzs u.tbls (λR F=>by
  obtain⟨O,j,l,g,G⟩:=F;rw[y]at g;cases g;exact#[_,j,l,B,G]) v I.bare
theorem Inv.call(I:Inv X abP Z H s)(u:Un (iZ X.stack) ch H H' s.heap h')(B:HOk X.prog X.w H' h')(O:L' g')(l:∀b∈ch,(b∈X.ex\/X.s₀.heap.objs.size<=b)/\b≠X.env.locals/\(∀x c,X.env.cells.lookup x=ap c->c≠b)/\∀p∈X.pn++abP,p.1≠b):
  Inv X abP Z H' { s with heap:=h',gens:=g',drawn:=d',toks:=t' }:=by
 obtain⟨m,⟨o,es,R,F,r⟩,_⟩:=id I.loc;obtain⟨S,q⟩:=u.any F I.free λz=>(l _ z).2.1 rfl;exact I.step (ch:=ch) l (λb o q L g e n=>u.keep b o e n (λz=>(UU.mp<|I.stkSub b z).elim q L) g) (λb o _ _ g e n=>u.any e n g) (λb o g e n=>u.free b o e n g) (λb o g e=>u.there b o e g) u.tups u.frzs u.tbls (λU G=>by
  obtain⟨T,v,y,j,J⟩:=G;rw[F]at j;cases j;exact#[_,v,y,q,J]) B O
theorem Inv.turned(I:Inv X abP Z H s)(k:∀b o,b≠g->s.heap.get? b=ap o->h'.get? b=ap o)(L:H g=ca)(y:g≠X.env.locals)(O:g∈X.ex\/X.s₀.heap.objs.size<=g)(S:∀x c,X.env.cells.lookup x=ap c->c≠g)(R:∀p∈X.pn++abP,p.1≠g):Inv X abP Z H { s with heap:=h',toks:=t' }:=by
 have l:∀b u,H b=ap u->b≠g:=λb u e z=>by rw[z,L]at e;cases e
 refine I.step (g':=s.gens) (d':=s.drawn) (ch:=[g]) (λb J=>?_) (λb o _ _ j e _=>k b o (λz=>j (by simp[z])) e) (λb o _ _ j e _=>#[o.slots,k b o (λz=>j (by simp[z])) e]) (λ_ _ _ _ n=>n)
  (λb o j e=>#[o,k b o (λz=>j (by simp[z])) e]) (λ_ _ e=>e) (λ_ _ _ e=>e) (λb ps e=>#[(Tw []),by rw[e];simp]) (λm B=>?_) (λb u e=>?_) I.bare
 .have e:b=g:=by simpa using J
  subst e;exact#[O,y,S,R]
 .obtain⟨o,es,G,F,r⟩:=B
  exact#[o,es,G,k _ o (Vu y) F,r]
 .refine (I.hok b u e).stay (λc v j q=>k c v ?_ q) (λ_ q=>q) λ_ _ q=>q
  rcases j with z|z
  .rw[z];exact l b u e
  .exact l c _ z
theorem Inv.tok(I:Inv X abP Z H s)(t:Nat):Inv X abP Z H { s with toks:=t }:=I.un Un.refl I.hok
theorem Inv.kept(I:Inv X abP Z H s)(k:∀b u,s.heap.get? b=ap u->h'.get? b=ap u):Inv X abP Z H { s with heap:=h',toks:=t' }:=I.un (Un.kept k) (I.hok.kept k)
theorem Inv.laid(I:Inv X abP Z H s)(k:∀b u,s.heap.get? b=ap u->h'.get? b=ap u)(g:s.heap.objs.size<=a)(new:ObjOk X.prog X.w (upd H a o) h' a o):
  Inv X abP Z (upd H a o) { s with heap:=h',toks:=t' }:=I.un (Un.laid k g<|I.hok.fresh g) (I.hok.laid k g new)
theorem Inv.write{x e:cp}(I:Inv X abP Z H s)(l:UG (H x))(j:e=x\/H e=ap (.own x))(k:∀b u,b≠e->s.heap.get? b=ap u->h'.get? b=ap u)(g:∃u,h'.get? e=ap u)(new:ObjOk X.prog X.w (upd H x o) h' x o):Inv X abP Z (upd H x o) { s with heap:=h',toks:=t' }:=I.un (Un.write l j k g) (I.hok.write l j k g new)
theorem Inv.pins_of(I:Inv X abP Z H s)(h:∀p∈g,s.heap.get? p.1=ap p.2/\H p.1=ca/\p.1≠X.env.locals/\p.1∉X.fs/\∀v,p.2.data≠.cell v):Inv X g Z H s:=
 #[I.ok,I.os,I.bare,I.base,I.loc,I.cell,I.free,I.freeC,λp j=>(Vs.mp j).elim (λz=>I.pin p (Xj _ z)) (h p),I.hok,I.len]
theorem vd(n:N.Nodup){j:Nat}(a:N[i]?=ap x)(b:N[j]?=ap x):i=j:=by
 obtain⟨q,l⟩:=Vx.mp a;obtain⟨v,g⟩:=Vx.mp b;exact(List.getElem_inj n).mp (l.trans g.symm)
theorem qj(I:Inv X abP Z H s)(hN:X.N.Nodup)(hi:X.N[i]?=ap x)(F:Ii X.env.scope x)(r:RelV v u)(h:∀s',Inv X abP (Z.set i<|some v) H s'->(∃a,VZ a s.heap s'.heap/\(a=X.env.locals\/X.env.cells.lookup x=ap a))->Q () s')(hf:X.fn x=true\/X.env.scope.names.lookup x=ap .local:=by ac_nf):eg M A (storeName X.env x u) Q E s:=by
 obtain⟨m,hn,hl⟩:=id I.loc;have U:(X.env.scope.kind==.class||(X.env.scope.kind==.module&&X.env.locals != X.env.globals))=false:=by rw[I.ok.kind];rfl
 have L:i<Z.length:=by rw[I.len];exact(Vx.mp hi).1
 have cne:=I.cne;have l:∀{a:cp}{h':g3},(∃o,s.heap.get? a=ap o/\H a=ca)->VZ a s.heap h'->HOk X.prog X.w H h':=λ{a h'} ha g b ob e=>by
  obtain⟨_,_,G⟩:=ha;refine (I.hok b ob e).stay (λc w' hc q=>(g.2 c ?_).trans q) (λ_ q=>q) λ_ _ q=>q
  rintro rfl
  rcases hc with rfl|hc
  .rw[G]at e;cases e
  .rw[G]at hc;cases hc
 rcases F with hk|hk
 .refine wpAny_storeName_local hk hn (λh' hn' g=>?_) U
  obtain⟨oL,_,_,hoL,_⟩:=id hn;refine h _ #[I.ok,I.os,I.bare,#[λb o e n S F=>?_,λb o e n S F=>?_,I.base.free,λb o e F=>?_,I.base.tups,I.base.frzs,I.base.tbls],#[_,hn',λj y v' B J e3=>?_],λy c e=>?_,I.free,I.freeC,λp hp=>?_,l #[oL,hoL,I.free] g,by simpa using I.len] #[_,g,.inl rfl]
  .exact(g.2 b<|Vg<|UW (UQ e) I.ok.above).trans (I.base.keep b o e n S F)
  .obtain⟨sl,B⟩:=I.base.slot b o e n S F
   exact#[sl,(g.2 b<|Vg<|UW (UQ e) I.ok.above).trans B]
  .obtain⟨o',B⟩:=I.base.there b o e F
   exact#[o',(g.2 b<|Vg<|UW (UQ e) I.ok.above).trans B]
  .by_cases O:j=i
   .subst O
    rw[hi]at B;cases B;rw[ZG L]at J;cases J;exact#[u,r,.inl #[hk,by simp]]
   .rw[ZW (Vu O)]at J
    obtain⟨u',r',q⟩:=hl j y v' B J e3;refine#[u',r',?_];rcases q with⟨k,e⟩|⟨k,c,e,z⟩
    .refine .inl #[k,?_]
     have:y≠x:=λe=>O (vd hN B (e▸hi));simp[this,e]
    .exact .inr #[k,c,e,z.sameBut g<|cne y c e]
  .obtain⟨w',z⟩:=I.cell y c e
   exact#[w',z.sameBut g<|cne y c e]
  .obtain⟨e,n,ne,nf,d⟩:=I.pin p hp
   exact#[(g.2 p.1 ne).trans e,n,ne,nf,d]
 .have R:X.fn x=true:=by
   rcases hf with z|z
   .exact z
   .rw[z]at hk;cases hk
  obtain⟨c,hc⟩:=I.ok.has x (.inl hk);obtain⟨w',z⟩:=I.cell x c hc;refine wpAny_storeName_cell I.ok.kind hk hc z (λh' hc' g=>?_);obtain⟨oc,Y,W⟩:=id z;refine h { s with heap:=h' } #[I.ok,I.os,I.bare,#[λb o e n S F=>?_,λb o e n S F=>?_,I.base.free,λb o e F=>?_,I.base.tups,I.base.frzs,I.base.tbls],#[m,hn.sameBut g (Vu<|cne x c hc),λj y v' B J e3=>?_],λy c' e=>?_,I.free,I.freeC,λp hp=>?_,l #[oc,Y,I.freeC x c hc] g,by simpa using I.len] #[c,g,.inr hc]
  .exact(g.2 b<|Vg<|UW (UQ e)<|I.ok.cab x c R hc).trans (I.base.keep b o e n S F)
  .obtain⟨sl,B⟩:=I.base.slot b o e n S F
   exact#[sl,(g.2 b<|Vg<|UW (UQ e)<|I.ok.cab x c R hc).trans B]
  .obtain⟨o',B⟩:=I.base.there b o e F
   exact#[o',(g.2 b<|Vg<|UW (UQ e)<|I.ok.cab x c R hc).trans B]
  .by_cases O:j=i
   .subst O
    rw[hi]at B;cases B;rw[ZG L]at J;cases J;exact#[u,r,.inr #[.inl hk,c,hc,hc']]
   .rw[ZW (Vu O)]at J
    obtain⟨u',r',q⟩:=hl j y v' B J e3;refine#[u',r',?_];rcases q with q|⟨k,c',e,z'⟩
    .exact .inl q
    .refine .inr #[k,c',e,z'.sameBut g ?_]
     rintro rfl
     exact O (vd hN B (I.ok.inj _ _ _ e hc▸hi))
  .by_cases T:c'=c
   .subst T;exact#[_,hc']
   .obtain⟨w2,z2⟩:=I.cell y c' e
    exact#[w2,z2.sameBut g T]
  .obtain⟨e,n,ne,nf,d⟩:=I.pin p hp
   refine#[(g.2 p.1 ?_).trans e,n,ne,nf,d];intro q;rw[q,Y]at e;have q':oc=p.2:=VP e;exact d w' (by rw[<- q'];exact W)
theorem pH(I:Inv X abP Z H s)(l:X.N.Nodup)(n:X.N[i]?=ap x)(j:Ii X.env.scope x)(r:RelV v u)(h:∀g,Inv X abP (Z.set i<|some v) H g->Q () g)(q:X.fn x=true\/X.env.scope.names.lookup x=ap .local:=by ac_nf):eg M A (storeName X.env x u) Q E s:=
 qj I l n j r (λg I' _=>h g I') q
theorem Inv.call'(I:Inv X abP Z H s)(q:g.os=s.os)(u:Un (iZ X.stack) ch H H' s.heap g.heap)(l:HOk X.prog X.w H' g.heap)(v:L' g.gens)(j:∀b∈ch,(b∈X.ex\/X.s₀.heap.objs.size<=b)/\b≠X.env.locals/\(∀x c,X.env.cells.lookup x=ap c->c≠b)/\∀p∈X.pn++abP,p.1≠b):Inv X abP Z H' g:=by
 obtain⟨h',g',d',t',n⟩:=g;have e:n=s.os:=q;subst e;exact I.call (g':=g') (t':=t') (d':=d') u l v j
abbrev XK:=ax->Option cp->Hp->Prop
abbrev St:=List (Option V)
abbrev VK:=V->Hp->Prop
abbrev TE:=St->Hp->VK->Prop
abbrev TT:=St->Hp->(Bool->Hp->Prop)->Prop
abbrev TA:=St->Hp->(List V->Hp->Prop)->Prop
structure Ends where
 nx:St->Hp->Prop
 rt:VK
 bk:St->Hp->Prop:=λ_ _=>False
 ct:St->Hp->Prop:=λ_ _=>False
abbrev TS:=Ends->St->Hp->Prop
inductive EP(X:Cx)(abP:ab4)(Z:St)(Q:VK)(u:ax)(s':cb):Prop
 |mk (v:V) (H':Hp) (h0:Inv X abP Z H' s') (h1:RelV v u) (h2:Q v H'):EP X abP Z Q u s'
inductive TP(X:Cx)(abP:ab4)(Z:St)(Q:Bool->Hp->Prop)(b:Bool)(s':cb):Prop
 |mk (H':Hp) (h0:Inv X abP Z H' s') (h1:Q b H'):TP X abP Z Q b s'
inductive AP(X:Cx)(abP:ab4)(Z:St)(Q:List V->Hp->Prop)(us:abZ)(s':cb):Prop
 |mk (vs:List V) (H':Hp) (h0:Inv X abP Z H' s') (h1:Vals vs us) (h2:Q vs H'):AP X abP Z Q us s'
def SP(X:Cx)(abP:ab4)(D:Ends)(f:Flow)(s':cb):Prop:=
 match f with
 |.next=>∃σ' H',Inv X abP σ' H' s'/\D.nx σ' H'
 |.brk=>∃σ' H',Inv X abP σ' H' s'/\D.bk σ' H'
 |.cont=>∃σ' H',Inv X abP σ' H' s'/\D.ct σ' H'
 |.ret u=>∃v σ' H',Inv X abP σ' H' s'/\RelV v u/\D.rt v H'
def PE(X:Cx)(e:fv)(t:TE):Prop:=
 ∀(abP:ab4)(s:cb)(Z:St)(H:Hp)(Q:VK),Inv X abP Z H s->t Z H Q->eg (eH X.prog X.w) X.A (fx e X.env) (EP X abP Z Q) X.xe s
def PT(X:Cx)(e:fv)(t:TT):Prop:=
 ∀(abP:ab4)(s:cb)(Z:St)(H:Hp)(Q:Bool->Hp->Prop),Inv X abP Z H s->t Z H Q->eg (eH X.prog X.w) X.A (isTrue e X.env<|eval e X.env) (TP X abP Z Q) X.xe s
def PW(X:Cx)(e:fv)(t:TT):Prop:=
 ∀(whole:Sem ax)(abP:ab4)(s:cb)(Z:St)(H:Hp)(Q:Bool->Hp->Prop),Inv X abP Z H s->t Z H Q->eg (eH X.prog X.w) X.A (isTrue e X.env whole) (TP X abP Z Q) X.xe s
theorem UJ(h:PW X e t):PT X e t:=h _
def PA(X:Cx)(es:ab1)(t:TA):Prop:=
 ∀(pos:Pos)(abP:ab4)(s:cb)(Z:St)(H:Hp)(Q:List V->Hp->Prop),Inv X abP Z H s->t Z H Q->eg (eH X.prog X.w) X.A (spliced<|backTo pos<|starEach es X.env) (AP X abP Z Q) X.xe s
def PS(X:Cx)(st:ol)(t:TS):Prop:=
 ∀(abP:ab4)(s:cb)(Z:St)(H:Hp)(D:Ends),Inv X abP Z H s->t D Z H->eg (eH X.prog X.w) X.A (exec st X.env) (SP X abP D) X.xe s
def CG(X:Cx)(st:ab2)(t:TS):Prop:=
 ∀(abP:ab4)(s:cb)(Z:St)(H:Hp)(D:Ends),Inv X abP Z H s->t D Z H->eg (eH X.prog X.w) X.A (execs st X.env) (SP X abP D) X.xe s
theorem bv(h:eg M A t Q E s)(g:∀a s,Q a s->Q' a s):eg M A t Q' E s:=kc h g λ_ _ x=>x
section
def tVar(i:Nat):TE:=λZ H Q=>∃v,Z[i]?=ap (ap v)/\Q v H
def tC(v:V):TE:=λ_ H Q=>Q v H
theorem Of(y:X.N[i]?=ap x)(z:RH X.env.scope x)(g:(x==("__debug__":Str))=false:=by decide)(hcd:(x==("__classdict__":Str))=false:=by decide):PE X (.Name x pos) (tVar i):=by
 rintro abP s Z H Q I ⟨v,e,h⟩
 obtain⟨m,j,q⟩:=I.loc;obtain⟨u,r,l⟩:=q i x v y e z;have fin:EP X _ Z Q u s:=#[v,H,I,r,h];rcases l with⟨hk,n⟩|⟨hk,c,hc,hcell⟩
 .exact wpAny_Name (abJ I.ok.kind hk j n fin) g
 rcases hk with hk|hk
 .exact wpAny_Name (wpAny_loadName_cell I.ok.kind hk hc hcell fin) g
 exact wpAny_Name (wpAny_loadName_free I.ok.kind hk hc hcell fin hcd) g
theorem Og{i j pos}:PE X (.Constant (.int i) j pos) (tC<|.int i):=λ_ _ _ H _ I h=>wpAny_Constant_int #[.int i,H,I.tok _,#[_,rfl],h]
theorem T_{b j pos}:PE X (.Constant (.bool b) j pos) (tC<|.bl b):=λ_ _ _ H _ I h=>Constant_bool #[.bl b,H,I,rfl,h]
theorem O8{j pos}:PE X (.Constant .none j pos) (tC .non):=λ_ _ _ H _ I h=>Constant_none #[.non,H,I,rfl,h]
theorem Fc{x j pos}:PE X (.Constant (.str x) j pos) (tC<|.str x):=λ_ _ _ H _ I h=>Calls.Constant_str #[.str x,H,I.tok _,#[_,rfl],h]
def Gl(X:Cx)(x:Str):Prop:=X.env.kindOf x=ap .globalImplicit
theorem je(I:Inv X abP Z H s)(g:Gl X x)(j:X.mg x=ap u)(h:Q u s)(l:(x==("__debug__":Str))=false:=by decide):eg (eH X.prog X.w) X.A (fx (.Name x pos) X.env) Q E s:=
 YZ I.ok.kind g (Calls.loadGlobal_global (by rw[I.ok.glob];exact I.mod.glob.keeps I.bk) j h) l
theorem dy(I:Inv X abP Z H s)(n:Gl X x)(v:X.mg x=ca)(q:ff x=ap u)(h:Q u s)(l:x≠"__name__":=by decide)(hd:(x==("__debug__":Str))=false:=by decide):eg (eH X.prog X.w) X.A (fx (.Name x pos) X.env) Q E s:=by
 obtain⟨y,g,j⟩:=I.mod.blt;exact YZ I.ok.kind n (Calls.loadGlobal_builtin (by rw[I.ok.glob];exact I.mod.glob.keeps I.bk) v (by rw[I.ok.blt];exact g.keeps I.bk) ((j x l).trans q) h) hd
theorem JP(j:Gl X x)(n:X.mg x=ca)(l:ff x=ap u)(r:RelV v u)(g:x≠"__name__":=by decide)(hd:(x==("__debug__":Str))=false:=by decide):PE X (.Name x pos) (tC v):=
 λ_ _ _ H _ I h=>dy I j n l #[v,H,I,r,h] g hd
variable{a b:fv}
def tAnd(t u:TT):TT:=λZ H Q=>t Z H λc H1=>if c=true then u Z H1 Q else Q cx H1
def tOr(t u:TT):TT:=λZ H Q=>t Z H λc H1=>if c=true then Q true H1 else u Z H1 Q
def tNot(t:TT):TT:=λZ H Q=>t Z H λc H1=>Q (!c) H1
theorem KO(g:PT X a tA):PW X (.BoolOp .And [a] pos) tA:=by
 intro j abP s Z H Q I h;refine isTrue_and (bv (g _ s Z H Q I h) λc l e=>?_);cases c with
 |true=>exact isTrue_and_nil e
 |false=>exact e
theorem RC(g:PT X a tA):PW X (.BoolOp .Or [a] pos) tA:=by
 intro j abP s Z H Q I h;refine isTrue_or (bv (g _ s Z H Q I h) λc l e=>?_);cases c with
 |false=>exact isTrue_or_nil e
 |true=>exact e
theorem Q3(q:PT X a tA)(v:PW X (.BoolOp .And (b::rest) pos) tB'):PW X (.BoolOp .And (a::b::rest) pos) (tAnd tA tB'):=by
 intro j abP s Z H Q I h;refine isTrue_and (bv (q _ s Z H _ I h) λc n l=>?_);obtain⟨H1,I1,g⟩:=l;cases c with
 |true=>exact v j _ n Z H1 Q I1 g
 |false=>exact#[H1,I1,g]
theorem Ss(q:PT X a tA)(v:PW X (.BoolOp .Or (b::rest) pos) tB'):PW X (.BoolOp .Or (a::b::rest) pos) (tOr tA tB'):=by
 intro j abP s Z H Q I h;refine isTrue_or (bv (q _ s Z H _ I h) λc n l=>?_);obtain⟨H1,I1,g⟩:=l;cases c with
 |true=>exact#[H1,I1,g]
 |false=>exact v j _ n Z H1 Q I1 g
theorem Pz(g:PT X a tA):PT X (.UnaryOp .Not a pos) (tNot tA):=by
 intro abP s Z H Q I h;exact isTrue_not (kc (g _ s Z H _ I h) (λc j z=>by cases z with|mk a b d=>exact#[a,b,d]) λ_ _ e=>e)
def TY(ta tb:TE):TE:=λZ H Q=>ta Z H λx H1=>∃c,x=.bl c/\if c=true then tb Z H1 Q else Q (.bl cx) H1
def SO(ta:TE):TE:=λZ H Q=>ta Z H λx H1=>∃c,x=.bl c/\Q (.bl<|!c) H1
theorem P6{op}(h:PE X a t):PE X (.BoolOp op [a] pos) t:=λabP s Z H Q I g=>BoolOp_one (h _ s Z H Q I g)
theorem P8(q:PE X a ta)(y:PE X (.BoolOp .And (b::rest) pos) tb):PE X (.BoolOp .And (a::b::rest) pos) (TY ta tb):=by
 intro abP s Z H Q I h;refine BoolOp_and (bv (q _ s Z H _ I h) λv n j=>?_);obtain⟨x,H1,I1,l,g⟩:=j;obtain⟨c,rfl,g⟩:=g;cases l;refine sg ?_;cases c with
 |true=>exact y _ n Z H1 Q I1 g
 |false=>exact#[.bl _,H1,I1,rfl,g]
theorem QL(n:PE X a ta):PE X (.UnaryOp .Not a pos) (SO ta):=by
 intro abP s Z H Q I h;refine UnaryOp_ (bv (n _ s Z H _ I h) λv q j=>?_);obtain⟨x,H1,I1,l,g⟩:=j;obtain⟨c,rfl,g⟩:=g;cases l;exact not_of (sg #[.bl !c,H1,I1,rfl,g])
def tIf(t:TT)(ta tb:TE):TE:=λZ H Q=>t Z H λc H1=>if c=true then ta Z H1 Q else tb Z H1 Q
theorem FS(q:PT X c tA)(n:PE X a ta)(v:PE X b tb):PE X (.IfExp c a b pos) (tIf tA ta tb):=by
 intro abP s Z H Q I h;refine wpAny_IfExp (bv (q _ s Z H _ I h) λd j l=>?_);obtain⟨H1,I1,g⟩:=l;cases d with
 |true=>exact n _ j Z H1 Q I1 g
 |false=>exact v _ j Z H1 Q I1 g
end
def SqL(K:UP)(H:Hp)(a:cp)(xs:List V):Prop:=
 Rd H a (.lst xs)\/
  ∃(o:Obj)(abV:ab6)(n:Nat),K.lookup a=ap o/\o.cls=.type "list"/\o.dict=ca/\o.data=.seq abV n/\abV.size<=sizeLine/\Vals xs abV.toList
def kU(K:UP)(H:Hp)(a:cp)(xs:List V):Prop:=
 Rd H a (.tup xs)\/
  ∃(o:Obj)(abV:ab6)(n:Nat),K.lookup a=ap o/\o.cls=.type "tuple"/\o.data=.seq abV n/\abV.size<=sizeLine/\Vals xs abV.toList
noncomputable def absV:ax->Option V
 |.none=>ap .non
 |.bool b=>ap (.bl b)
 |.int i _=>ap (.int i)
 |.str x _=>ap (.str x)
 |.bytes b _=>ap (.byt b)
 |.float b _=>ap (.flt b)
 |.ref a=>ap (.ref a)
 |.type n=>ap (.ty n)
 |_=>ca
theorem RelV.abs{x:V}(r:RelV x u):absV u=ap x:=by
 cases x with
 |non=>cases r;rfl
 |bl _=>cases r;rfl
 |int _=>obtain⟨t,rfl⟩:=r;rfl
 |str _=>obtain⟨t,rfl⟩:=r;rfl
 |byt _=>obtain⟨t,rfl⟩:=r;rfl
 |flt _=>obtain⟨t,rfl⟩:=r;rfl
 |ref _=>cases r;rfl
 |ty _=>cases r;rfl
theorem RelV.inj{x:V}(r:RelV x u)(q:RelV y u):x=y:=VP (r.abs.symm.trans q.abs)
theorem Vals.inj:∀{xs ys:List V}{us:abZ},Vals xs us->Vals ys us->xs=ys:=by
 intro xs ys us h
 induction h generalizing ys with
 |nil=>intro h';cases h';rfl
 |cons r _ ih=>intro h';cases h' with|cons r' t'=>rw[r.inj r',ih t']
theorem SqL.of(h:H a=ap (.lst xs)):SqL K H a xs:=.inl (.inl h)
theorem Inv.list(I:Inv X abP Z H s)(h:SqL X.K H a xs):∃abV:List ax,Vals xs abV/\PlainL s.heap a abV.toArray/\xs.length<=sizeLine:=by
 rcases h with h|⟨o,abV,n,hk,hc,hd,hs,hz,r⟩
 .obtain⟨z,abV,n,r,e⟩:=h.ok I.hok
  exact#[_,r,#[_,n,e,rfl,rfl,rfl],z]
 refine#[_,r,#[o,n,I.kIn a o hk,hc,hd,by simpa using hs],?_]
 have e:=r.length;simp only[Wm]at e;lia
theorem Inv.tuple(I:Inv X abP Z H s)(h:kU X.K H a xs):∃abV:List ax,Vals xs abV/\IsTup s.heap a abV.toArray/\xs.length<=sizeLine:=by
 rcases h with h|⟨o,abV,n,hk,hc,hs,hz,r⟩
 .obtain⟨z,abV,r,g,e,c,_⟩:=h.ok I.hok
  exact#[_,r,#[g,e,c],z]
 refine#[_,r,#[o,I.kIn a o hk,hc,n,by simpa using hs],?_]
 have e:=r.length;simp only[Wm]at e;lia
theorem Inv.list_inj(I:Inv X abP Z H s)(h:SqL X.K H a xs)(h':SqL X.K H a ys):xs=ys:=by
 obtain⟨j,r,⟨o,n,e,_,_,d⟩,_⟩:=I.list h;obtain⟨g,v,⟨y,z,l,_,_,q⟩,_⟩:=I.list h';rw[e]at l;cases l;rw[d]at q
 injection q with d1 _
 have:j=g:=by simpa using congrArg Xr d1
 subst this;exact r.inj v
theorem Inv.tuple_inj(I:Inv X abP Z H s)(h:kU X.K H a xs)(h':kU X.K H a ys):xs=ys:=by
 obtain⟨j,r,⟨o,e,_,n,d⟩,_⟩:=I.tuple h;obtain⟨g,v,⟨y,l,_,z,q⟩,_⟩:=I.tuple h';rw[e]at l;cases l;rw[d]at q
 injection q with d1 _
 have:j=g:=by simpa using congrArg Xr d1
 subst this;exact r.inj v
noncomputable abbrev Cx.wish(X:Cx)(E:ab3):Cx:={ X with xe:=E }
abbrev Cx.nox(X:Cx):Cx:=X.wish λ_ _=>False
theorem Cx.Ok.wish(ok:X.Ok)(E:ab3):(X.wish E).Ok:=
 #[ok.mod,ok.kind,ok.glob,ok.blt,ok.above,ok.inj,ok.has,ok.cab,ok.hd,ok.frames,ok.stk,ok.exf,ok.bs,ok.bsz,ok.noex,ok.exfs,ok.funs,ok.frf]
theorem Cx.Ok.unwish(ok:(X.wish E).Ok):X.Ok:=
 #[ok.mod,ok.kind,ok.glob,ok.blt,ok.above,ok.inj,ok.has,ok.cab,ok.hd,ok.frames,ok.stk,ok.exf,ok.bs,ok.bsz,ok.noex,ok.exfs,ok.funs,ok.frf]
theorem Inv.wish(I:Inv X abP Z H s)(E:ab3):Inv (X.wish E) abP Z H s:=#[I.ok.wish E,I.os,I.bare,I.base,I.loc,I.cell,I.free,I.freeC,I.pin,I.hok,I.len]
theorem Inv.unwish(I:Inv (X.wish E) abP Z H s):Inv X abP Z H s:=#[I.ok.unwish,I.os,I.bare,I.base,I.loc,I.cell,I.free,I.freeC,I.pin,I.hok,I.len]
section
variable{st:ol}
def Uq:TS:=λD Z H=>D.nx Z H
def tSeq(t u:TS):TS:=λD Z H=>t { D with nx:=u D } Z H
theorem Ln:CG X [] Uq:=λ_ _ Z H _ I h=>re #[Z,H,I,h]
theorem Gc(l:PS X st t)(n:CG X rest u):CG X (st::rest) (tSeq t u):=by
 intro abP s Z H D I h;refine aa_ (bv (l _ s Z H _ I h) λf j q=>?_);cases f with
 |next=>
  obtain⟨g,H',I',q⟩:=q;exact n _ j _ H' D I' q
 |ret v=>exact q
 |brk=>exact q
 |cont=>exact q
theorem KD(g:PS X st t):CG X [st] t:=by
 intro abP s Z H D I h;refine aa_ (bv (g _ s Z H D I h) λf j q=>?_);cases f with
 |next=>exact re q
 |ret v=>exact q
 |brk=>exact q
 |cont=>exact q
theorem Inv.quiet(I:Inv X abP Z H s):interactive X.env=false:=by simp[interactive,I.ok.kind]
def U9(te:TE):TS:=λD Z H=>te Z H λ_ H1=>D.nx Z H1
theorem JE(j:PE X e te)(l:py e ca pos.line X.env=pure false:=by rfl):PS X (.Expr e pos) (U9 te):=by
 intro abP s Z H D I h;exact wpAny_Expr_any (bv (j _ s Z H _ I h)<|by rintro v q ⟨x,H1,I1,n,g⟩;exact#[Z,H1,I1,g]) I.quiet l
def tRet(te:TE):TS:=λD Z H=>te Z H D.rt
theorem Qj(l:PE X e te):PS X (.Return (ap e) pos) (tRet te):=by
 intro abP s Z H D I h;exact wpAny_Return_some (bv (l _ s Z H _ I h)<|by rintro v n ⟨x,H1,I1,g,j⟩;exact#[x,Z,H1,I1,g,j])
def tIfS(c:TT)(t u:TS):TS:=λD Z H=>c Z H λb H1=>if b=true then t D Z H1 else u D Z H1
theorem Sl{a b:ab2}(q:PT X c l)(v:CG X a t)(y:CG X b u):PS X (.If c a b pos) (tIfS l t u):=by
 intro abP s Z H D I h;refine wpAny_If (bv (q _ s Z H _ I h) λd g n=>?_);obtain⟨H1,I1,j⟩:=n;cases d with
 |true=>exact v _ g Z H1 D I1 j
 |false=>exact y _ g Z H1 D I1 j
end
abbrev TG:=V->St->Hp->(St->Hp->Prop)->Prop
abbrev MJ:=List V->St->Hp->(St->Hp->Prop)->Prop
def PG(X:Cx)(target:fv)(t:TG):Prop:=
 ∀(abP:ab4)(s:cb)(Z:St)(H:Hp)(v:V)(u:ax)(Q:St->Hp->Prop),Inv X abP Z H s->RelV v u->t v Z H Q->
  eg (eH X.prog X.w) X.A (abb target X.env u) (λ_ g=>∃σ' H',Inv X abP σ' H' g/\Q σ' H') X.xe s
def QM(X:Cx)(ts:ab1)(t:MJ):Prop:=
 ∀(abP:ab4)(s:cb)(Z:St)(H:Hp)(vs:List V)(us:abZ)(Q:St->Hp->Prop),Inv X abP Z H s->Vals vs us->t vs Z H Q->
  eg (eH X.prog X.w) X.A (assignInOrder ((lW ts X.env).map (·.2)) us) (λ_ g=>∃σ' H',Inv X abP σ' H' g/\Q σ' H') X.xe s
abbrev Hn:=V->V->V->Hp->(Hp->Prop)->Prop
def Le(X:Cx)(t:Hn):Prop:=
 ∀(abP:ab4)(s:cb)(Z:St)(H:Hp)(o i v:V)(ov iv u:ax)(Q:Hp->Prop),Inv X abP Z H s->RelV o ov->RelV i iv->RelV v u->t o i v H Q->
  eg (eH X.prog X.w) X.A (abh ov iv u) (λ_ g=>∃H',Inv X abP Z H' g/\Q H') X.xe s
abbrev RL:=V->V->Hp->VK->Prop
def Ih(X:Cx)(op:S')(t:RL):Prop:=
 ∀(abP:ab4)(s:cb)(Z:St)(H:Hp)(x y:V)(v u:ax)(Q:VK),Inv X abP Z H s->RelV x v->RelV y u->t x y H Q->
  eg (eH X.prog X.w) X.A (inplaceOp op v u) (EP X abP Z Q) X.xe s
def MY(i:Nat):TG:=λv Z H Q=>Q (Z.set i<|some v) H
theorem KP(g:X.N.Nodup)(n:X.N[i]?=ap x)(j:Ii X.env.scope x)(l:X.fn x=true\/X.env.scope.names.lookup x=ap .local:=by ac_nf):PG X (.Name x pos) (MY i):=by
 intro abP s Z H v u Q I r h;exact wpAny_assign_Name (pH I g n j r (λq I'=>#[_,H,I',h]) l)
def gNil:MJ:=λg Z H Q=>g=[]/\Q Z H
def SN(t:TG)(u:MJ):MJ:=λj Z H Q=>∃v r,j=v::r/\t v Z H λg H'=>u r g H' Q
theorem JI:QM X [] gNil:=by
 rintro abP s Z H g us Q I r ⟨e,h⟩
 exact assignInOrder_nil #[Z,H,I,h]
theorem IZ(n:PG X e t)(y:QM X es u)(q:(lW (e::es) X.env).map (·.2)=abb e X.env::(lW es X.env).map (·.2):=by rfl):QM X (e::es) (SN t u):=by
 rintro abP s Z H B us Q I r ⟨v,z,j,h⟩
 subst j;cases r with
 |cons r rr=>
  rw[q];exact assignInOrder_cons (bv (n _ s Z H _ _ _ I r h)<|by rintro _ l ⟨_,H1,I1,g⟩;exact(y _ l _ H1 _ _ Q I1 rr g))
def gTup(K:UP)(n:Nat)(t:MJ):TG:=λv Z H Q=>∃a xs,v=.ref a/\kU K H a xs/\xs.length=n/\t xs Z H Q
theorem O_(hc:X.calm=true)(h:QM X es t)(hn:(lW es X.env).length=n:=by rfl)(hst:(lW es X.env).findIdx? (·.1)=none:=by rfl):PG X (.Tuple es k pos) (gTup X.K n t):=by
 rintro abP s Z H v u Q I r ⟨a,xs,e1,hq,hl,hw⟩
 subst e1;cases r;obtain⟨abV,rv,ht,hz⟩:=I.tuple hq;refine assign_Tuple_tuple (I.ok.hd hc) ht (by simp[hn,<- hl,rv.length]) hst λh' hx=>?_
 have I1:Inv X _ Z H _:=I.kept (t':=s.toks) λb o e=>hx b o (Vg<|UQ e) e;exact h _ _ Z H xs _ Q I1 (by trivial) hw
def gSub(to ti:TE)(t:Hn):TG:=λv Z H Q=>to Z H λo H1=>ti Z H1 λi H2=>t o i v H2 λH3=>Q Z H3
theorem PV{i:fv}(L:PE X o to)(F:PE X i ti)(J:Le X t)(G:∀v,abb (.Subscript o i pos) X.env v=(do
   let ov <- o4 [v] (fx o X.env)
   let iv <- o4 [v,ov] (fx i X.env)
   G' pos
   o4 [v,ov,iv] (abh ov iv v)
   release [v,ov,iv] []):=by intro _;rfl):PG X (.Subscript o i pos) (gSub to ti t):=by
 intro abP s Z H v u Q I r h;rw[G];refine ay (kr (bv (L _ s Z H _ I h) λov B g=>?_));obtain⟨x,H1,I1,n,l⟩:=g;exact ay (kr<|bv (F _ B Z H1 _ I1 l)<|by rintro iv s2 ⟨y,H2,I2,j,z⟩;exact(ay<|wpAny_standAt<|wpAny_bind<|wpAny_holding<|bv (J abP s2 Z H2 x y v ov iv u _ I2 n j r z)<|by rintro _ O ⟨H3,I3,q⟩;exact(wpAny_release #[Z,H3,I3,q])))
def RW(te:TE)(g:TG):TS:=λD Z H=>te Z H λx H1=>g x Z H1 D.nx
theorem Pk(B:PE X e te)(z:PG X tg g)(F:swapsWithSole [tg] e pos.line X.env=pure false:=by rfl)(hw:swappedStores [tg] e X.env=pure none:=by rfl)(h1:(lW [tg] X.env).map (·.2)=[abb tg X.env]:=by rfl):PS X (.Assign [tg] e pos) (RW te g):=by
 intro abP s Z H D I h;refine wpAny_Assign_stores (bv (B _ s Z H _ I h) λv n j=>?_) F hw;obtain⟨x,H1,I1,l,y⟩:=j;rw[h1];exact bv (z _ n Z H1 x v _ I1 l y) λ_ s2 q=>q
theorem Qq(q:X.N.Nodup)(z:X.N[i]?=ap x)(l:Ii X.env.scope x)(n:PE X e te)(B:py e (ap<|.Name x pos') pos.line X.env=pure false:=by rfl)(hf:X.fn x=true\/X.env.scope.names.lookup x=ap .local:=by ac_nf):
  PS X (.Assign [.Name x pos'] e pos) (RW te<|MY i):=by
 intro abP s Z H D I h;refine wpAny_Assign_Name (bv (n abP s Z H _ I h) λv F ⟨y,H1,I1,j,g⟩=>?_) B;exact pH I1 q z l j (λs2 I2=>#[_,H1,I2,g]) hf
def tAug(i:Nat)(te:TE)(ti:RL):TS:=λD Z H=>∃x,Z[i]?=ap (ap x)/\te Z H λy H1=>ti x y H1 λz H2=>D.nx (Z.set i<|some z) H2
theorem RE(hN:X.N.Nodup)(B:X.N[i]?=ap x)(q:Ii X.env.scope x)(Y:PE X e te)(W:Ih X op ti)(hf:X.fn x=true\/X.env.scope.names.lookup x=ap .local:=by ac_nf):
  PS X (.AugAssign (.Name x pos') op e pos) (tAug i te ti):=by
 rintro abP s Z H D I ⟨v,R,h⟩
 obtain⟨m,L,T⟩:=I.loc;have n:RH X.env.scope x:=by rcases q with k|k;exact .inl k;exact .inr (.inl k)
 obtain⟨u,r,l⟩:=T i x v B R n;refine wpAny_AugAssign_Name ?_;have go:eg (eH X.prog X.w) X.A (fx e X.env) (λw j=>eg (eH X.prog X.w) X.A (inplaceOp op u w) (λr g=>eg (eH X.prog X.w) X.A (storeName X.env x r) (λ_=>SP X abP D .next) X.xe g) X.xe j) X.xe s:=by
  exact bv (Y _ s Z H _ I h) (by rintro w G ⟨y,H1,I1,O,S⟩;exact bv (W abP G Z H1 v y u w _ I1 r O S) (by rintro z s2 ⟨zv,H2,I2,J,U⟩;exact pH I2 hN B q J (λs3 I3=>#[_,H2,I3,U]) hf))
 rcases l with⟨hk,F⟩|⟨hk,c,hc,hcell⟩
 .exact abJ I.ok.kind hk L F go
 rcases hk with hk|hk
 .exact wpAny_loadName_cell I.ok.kind hk hc hcell go
 rcases q with k|k
 .have:X.env.scope.names.lookup x=ap .free:=hk
  rw[k]at this;cases this
 .have:X.env.scope.names.lookup x=ap .free:=hk
  rw[k]at this;cases this
def T5(to ti te:TE)(tget:V->V->Hp->VK->Prop)(tip:RL)(tset:Hn):TS:=λD Z H=>to Z H λo H1=>ti Z H1 λi H2=>tget o i H2 λx H3=>te Z H3 λy H4=>tip x y H4 λz H5=>tset o i z H5 λH6=>D.nx Z H6
def T6(X:Cx)(t:V->V->Hp->VK->Prop):Prop:=
 ∀(abP:ab4)(s:cb)(Z:St)(H:Hp)(o i:V)(ov iv:ax)(Q:VK),Inv X abP Z H s->RelV o ov->RelV i iv->t o i H Q->
  eg (eH X.prog X.w) X.A (V_ ov iv) (EP X abP Z Q) X.xe s
theorem Lx{i:fv}(ho:PE X o to)(hi:PE X i ti)(hg:T6 X j)(he:PE X e te)(hp:Ih X op y)(hs:Le X g)(ha:∀n l new,augStore i n l new=(do o4 [new,n,l] (abh n l new);release [new,n,l] [];pure .next):=by intros;rfl):PS X (.AugAssign (.Subscript o i tpos) op e pos) (T5 to ti te j y g):=by
 intro abP s Z H D I h;refine wpAny_AugAssign_SubscriptAny (bv (ho _ s Z H _ I h) λn U q=>?_) ha;obtain⟨B,H1,I1,J,O⟩:=q;refine bv (hi _ U Z H1 _ I1 O) λl s2 q=>?_;obtain⟨F,H2,I2,G,q2⟩:=q;refine bv (hg _ s2 Z H2 B F n l _ I2 J G q2) λz s3 q=>?_;obtain⟨S,H3,I3,r3,q3⟩:=q;exact bv (he _ s3 Z H3 _ I3 q3) λv R ⟨x4,H4,I4,L,T⟩=>bv (hp abP R Z H4 S x4 z v _ I4 r3 L T) (by rintro new s5 ⟨Y,H5,I5,r5,q5⟩;exact bv (hs abP s5 Z H5 B F Y n l new _ I5 J G r5 q5) (by rintro _ s6 ⟨H6,I6,W⟩;exact#[Z,H6,I6,W]))
def ipI(f:Int->Int->Int):RL:=λx y H Q=>∃i j,x=.int i/\y=.int j/\Q (.int<|f i j) H
theorem Pg:Ih X .Add (ipI λi j=>i+j):=by
 rintro abP s Z H x y v u Q I n l ⟨i,j,z,g,q⟩
 subst z g;obtain⟨t,rfl⟩:=n;obtain⟨t',rfl⟩:=l;exact iadd_int #[.int _,H,I.tok _,#[_,rfl],q]
theorem P1:Ih X .Sub (ipI λi j=>i-j):=by
 rintro abP s Z H x y v u Q I n l ⟨i,j,z,g,q⟩
 subst z g;obtain⟨t,rfl⟩:=n;obtain⟨t',rfl⟩:=l;exact isub_int #[.int _,H,I.tok _,#[_,rfl],q]
def Rb(c:TT)(tb:TS):TS:=λD Z H=>∃W:Nat->St->Hp->Prop,(∃m,W m Z H)/\∀m Z H,W m Z H->
 c Z H λb H1=>if b=true then ∃N:St->Hp->Prop,(∀σ' H',N σ' H'->∃m',m'<m/\W m' σ' H')/\tb { D with nx:=N,ct:=N,bk:=D.nx } Z H1 else D.nx Z H1
theorem FU(J:abx (eH X.prog X.w) X.A X.env X.xe)(hc:PT X c G)(hb:CG X body tb):PS X (.While c body [] pos) (Rb G tb):=by
 rintro abP s Z H D I ⟨W,⟨O,Y⟩,turn⟩
 refine wpAny_While (codeAny_whileLoop (λn U=>∃σ' H',Inv X _ σ' H' U/\W n σ' H') ?_ O #[Z,H,I,Y])
 rintro n T ⟨R,H1,I1,S⟩
 refine pb J (bv (hc _ T _ H1 _ I1<|turn n _ H1 S) λb s2 L=>?_);obtain⟨H2,I2,j⟩:=L;cases b with
 |true=>
  obtain⟨N,F,j⟩:=j;refine pb J (bv (hb _ s2 _ H2 _ I2 j) λf s3 g=>?_);cases f with
  |next=>
   obtain⟨z,H3,I3,l⟩:=g;obtain⟨y,q,B⟩:=F _ H3 l;exact#[y,q,_,H3,I3,B]
  |cont=>
   obtain⟨z,H3,I3,l⟩:=g;obtain⟨y,q,B⟩:=F _ H3 l;exact#[y,q,_,H3,I3,B]
  |brk=>exact g
  |ret v=>exact g
 |false=>
  exact re #[_,H2,I2,j]
structure It where
 go:Nat->Hp->Prop
 yld:Nat->Hp->V->Hp->Prop
 stop:Nat->Hp->Prop
def kj(X:Cx)(abP:ab4)(H:Hp)(b:cp):Prop:=
 H b=ca/\b≠X.env.locals/\b∉X.fs/\(b∈X.ex\/X.s₀.heap.objs.size<=b)/\(∀x c,X.env.cells.lookup x=ap c->c≠b)/\∀p∈X.pn++abP,p.1≠b
theorem Inv.fpOk(I:Inv X abP Z H s)(g:s.heap.objs.size<=b)(l:H' b=ca):kj X abP H' b:=by
 refine#[l,WN (UW I.lt g),I.nofs g,.inr (Vb I.sz g),λx c e z=>?_,λp j z=>?_]
 .obtain⟨v,q⟩:=I.cell x c e
  exact absurd (UW q.lt<|by simp_all) (VC _)
 exact absurd (UW (UQ (I.pin p j).1)<|by rw[z];exact g) (VC _)
structure Turn(P:eX)(w:gl)(K:UP)(tg:fv)(J:It)(fp:ab0)(it:cp)(tn:Nat->g3->Prop):Prop where
 mem:it∈fp
 obj:∀i h,tn i h->∀b∈fp,∃o,h.get? b=ap o/\∀v,o.data≠.cell v
 keep:∀i h h',tn i h->(∀b∈fp,∀o,h.get? b=ap o->h'.get? b=ap o)->tn i h'
 item:∀(X:Cx),X.prog=P->X.w=w->X.K=K->X.calm=true->∀(i:Nat)(abP:ab4)(s:cb)(Z:St)(H:Hp)(E:ab3),Inv X abP Z H s->(∀b∈fp,kj X abP H b)->tn i s.heap->J.go i H->
  eg (eH P w) X.A (vw<|.ref it) (λr s1=>∃u,r=ap u/\
   eg (eH P w) X.A (WP tg (.ref it) u) (λ_ s2=>∃x H',Inv X abP Z H' s2/\RelV x u/\J.yld i H x H'/\tn (i+1) s2.heap/\∀b∈fp,H' b=ca) E s1) E s
 done:∀(X:Cx),X.prog=P->X.w=w->X.K=K->X.calm=true->∀(i:Nat)(abP:ab4)(s:cb)(Z:St)(H:Hp)(E:ab3),Inv X abP Z H s->(∀b∈fp,kj X abP H b)->tn i s.heap->J.stop i H->
  eg (eH P w) X.A (vw<|.ref it) (λr s1=>r=ca/\Inv X abP Z H s1) E s
 self:∀(A:f')(i:Nat)(s:cb)(Q:ab3)(E:ab3),tn i s.heap->Q (.ref it) s->eg (eH P w) A (Z_<|.ref it) Q E s
abbrev TI:=St->Hp->(It->Hp->Prop)->Prop
def PIE(X:Cx)(abP:ab4)(Z:St)(tg:fv)(R:It->Hp->Prop)(itv:ax)(s2:cb):Prop:=
 ∃(it:cp)(fp:ab0)(tn:Nat->g3->Prop)(J:It)(H':Hp),itv=.ref it/\Inv X abP Z H' s2/\Turn X.prog X.w X.K tg J fp it tn/\tn 0 s2.heap/\(∀b∈fp,kj X abP H' b)/\R J H'
def PI(X:Cx)(tg iter:fv)(wi:TI):Prop:=
 ∀(abP:ab4)(s:cb)(Z:St)(H:Hp)(R:It->Hp->Prop),Inv X abP Z H s->wi Z H R->
  eg (eH X.prog X.w) X.A (fx iter X.env) (λv g=>eg (eH X.prog X.w) X.A (Z_ v) (PIE X abP Z tg R) X.xe g) X.xe s
theorem vb(q:s.heap.get? j=ap o)(y:o.cls=.type n)(v:o.data=.fields vs)(l:["enumerate","zip","dict_itemiterator","dict_reverseitemiterator","odict_iterator","itertools.zip_longest","itertools.pairwise"].contains n=cx)(g:Q () s):eg M A (WP tg (.ref j) u) Q E s:=by
 unfold WP
 cases tg<;>first
  |exact eC g
  |(cases u<;>first
    |exact eC g
    |(refine ay (wpAny_load q ?_)
      rw[y,v];show eg M A (if (["enumerate","zip","dict_itemiterator","dict_reverseitemiterator","odict_iterator","itertools.zip_longest","itertools.pairwise"].contains n&&vs[0]?==ap (ra _))=true then _ else _) Q E s
      rw[if_neg (by intro h;rw[l,Bool.false_and]at h;cases h)]
      exact eC g))
noncomputable def Itl(K:UP)(a:cp):It:=
 #[λi H=>∃xs x,SqL K H a xs/\xs[i]?=ap x,λi H x H'=>H'=H/\∀xs,SqL K H a xs->xs[i]?=ap x,λi H=>∃xs,SqL K H a xs/\xs.length<=i]
noncomputable def Itt(K:UP)(a:cp):It:=
 #[λi H=>∃xs x,kU K H a xs/\xs[i]?=ap x,λi H x H'=>H'=H/\∀xs,kU K H a xs->xs[i]?=ap x,λi H=>∃xs,kU K H a xs/\xs.length<=i]
noncomputable def Tp(lo:Int)(n:Nat):It:=#[λi _=>i<n,λi H x H'=>H'=H/\x=.int (lo+i),λi _=>n<=i]
theorem EG(a l:cp):Turn P w K tg (Itl K a) [l] l (λi h=>h.IsListIter l a i) where
 mem:=by simp
 obj:=λi h g b j=>by
  obtain⟨o,e,c,d⟩:=g
  simp_all
 keep:=λi h h' g k=>g.at λo e=>k l (by simp) o e
 item:=by
  intro X U J L W i abP s Z H E I q g G;subst U J L;obtain⟨xs,x,v,z⟩:=G;obtain⟨y,T,p,Y⟩:=I.list v;obtain⟨u,hu,ru⟩:=T.get z;obtain⟨F,B,f2,O,S,R⟩:=q l (by simp)
  refine abA g p.isList (x:=u) (by simp_all) λh' n sb=>?_
  have I1:Inv X _ Z H _:=I.turned (t':=s.toks) (λb o j e=>(sb.2 b j).trans e) F B O S R;obtain⟨o,e,c,d⟩:=id n;exact#[u,rfl,vb e c d (by decide) #[x,H,I1,ru,#[rfl,λys hy=>by rw[I.list_inj hy v];exact z],n,λb j=>(q b j).1]]
 done:=by
  intro X U J L W i abP s Z H E I q g G;subst U J L;obtain⟨xs,v,z⟩:=G;obtain⟨y,T,p,Y⟩:=I.list v;obtain⟨F,B,f2,O,S,R⟩:=q l (by simp)
  have hl:=T.length;exact abH (I.ok.hd W) g p.isList (by simp;lia) λh' eb=>#[rfl,I.turned (λb o j e=>eb b o j e) F B O S R]
 self:=λ_ _ _ _ _ g h=>wpAny_pyIter_listiter g h
theorem xA(a l:cp):Turn P w K tg (Itt K a) [l] l (λi h=>h.IsTupleIter l a i) where
 mem:=by simp
 obj:=λi h g b j=>by
  obtain⟨o,e,c,d⟩:=g
  simp_all
 keep:=λi h h' g k=>g.at λo e=>k l (by simp) o e
 item:=by
  intro X U J L W i abP s Z H E I q g G;subst U J L;obtain⟨xs,x,v,z⟩:=G;obtain⟨y,T,p,Y⟩:=I.tuple v;obtain⟨u,hu,ru⟩:=T.get z;obtain⟨F,B,f2,O,S,R⟩:=q l (by simp)
  refine wpAny_pyNext_tuple_item g p (x:=u) (by simp_all) λh' n sb=>?_
  have I1:Inv X _ Z H _:=I.turned (t':=s.toks) (λb o j e=>(sb.2 b j).trans e) F B O S R;obtain⟨o,e,c,d⟩:=id n;exact#[u,rfl,vb e c d (by decide) #[x,H,I1,ru,#[rfl,λys hy=>by rw[I.tuple_inj hy v];exact z],n,λb j=>(q b j).1]]
 done:=by
  intro X U J L W i abP s Z H E I q g G;subst U J L;obtain⟨xs,v,z⟩:=G;obtain⟨y,T,p,Y⟩:=I.tuple v;obtain⟨F,B,f2,O,S,R⟩:=q l (by simp)
  have hl:=T.length;exact wpAny_pyNext_tuple_end (I.ok.hd W) g p (by simp;lia) λh' eb=>#[rfl,I.turned (λb o j e=>eb b o j e) F B O S R]
 self:=λ_ _ _ _ _ g h=>wpAny_pyIter_tupleiter g h
theorem yw(j:cp)(R:Int)(n:Nat):Turn P w K tg (Tp R n) [j] j (λi h=>IsRangeIter h j (R+(i:Nat)*1) ((n:Int)-(i:Nat)) 1) where
 mem:=by simp
 obj:=λi h g b l=>by
  simp_all
 keep:=λi h h' g k=>k j (by simp) _ g
 item:=by
  intro X U S T G i abP s Z H E I y g F;subst U S T;obtain⟨B,z,W,J,O,L⟩:=y j (by simp)
  refine (Walks.range (I.ok.hd G) j R 1 n).item i s _ _ F g λv h' tk hv q kk=>?_;obtain⟨t,rfl⟩:=hv;have I1:Inv X _ Z H { s with heap:=h',toks:=tk }:=I.turned (λb o l e=>kk b o (by simpa using l) e) B z J O L
  refine#[_,rfl,vb q rfl rfl (by decide) #[.int _,H,I1,#[t,?_],#[rfl,rfl],q,λb l=>(y b l).1]]
  rw[Z8]
 done:=by
  intro X U S T G i abP s Z H E I y g F;obtain⟨B,z,W,J,O,L⟩:=y j (by simp)
  exact wpAny_pyNext_range_end (I.ok.hd G) g (by have:n<=i:=F;lia) λh' Y=>#[rfl,I.turned (λb o l e=>Y b o l e) B z J O L]
 self:=λ_ _ _ _ _ g h=>wpAny_pyIter_rangeiter g h
theorem vc(I:Inv X abP Z H s)(B:-(2 ^ 62)<=g)(J:g<2 ^ 62)(G:-(2 ^ 62)<=j)(F:j<2 ^ 62)(q:R (Tp g (j-g).toNat) H):eg (eH X.prog X.w) X.A (Z_<|.ref s.heap.objs.size) (PIE X abP Z tg R) E { s with heap:=s.heap.push { cls:=.type "range",data:=.fields (Tw [.int g t,.int j u,.int 1 v]) },toks:=l }:=by
 refine wpAny_pyIter_range (IsRange.new ..) (small_one B J G F) ?_;have I1:Inv X abP Z H { s with heap:=s.heap.push { cls:=.type "range",data:=.fields (Tw [.int g t,.int j u,.int 1 v]) },toks:=l }:=I.kept λb o e=>UN _ e;refine#[(s.heap.push { cls:=.type "range",data:=.fields (Tw [.int g t,.int j u,.int 1 v]) }).objs.size,[(s.heap.push { cls:=.type "range",data:=.fields (Tw [.int g t,.int j u,.int 1 v]) }).objs.size],_,_,H,rfl,
  I1.kept (t':=l) λb o e=>UN _ e,yw _ g (j-g).toNat,?_,λb z=>?_,q]
 .have n:g+((0:Nat):Int)*1=g:=by simp
  have y:(((j-g).toNat:Nat):Int)-((0:Nat):Int)=Builtin.Range.rangeSize g j 1:=by rw[rangeSize_one];split<;>lia
  show IsRangeIter _ _ (g+((0:Nat):Int)*1) ((((j-g).toNat:Nat):Int)-((0:Nat):Int)) 1;rw[n,y];exact US _ rfl
 .have e:b=(s.heap.push { cls:=.type "range",data:=.fields (Tw [.int g t,.int j u,.int 1 v]) }).objs.size:=by simpa using z
  subst e;exact I1.fpOk (UX _) (I1.hok.fresh<|UX _)
def Sv(ta:TA):TI:=λZ H R=>ta Z H λg H1=>∃j:Int,g=[.int j]/\-(2 ^ 62)<=j/\j<2 ^ 62/\R (Tp 0 j.toNat) H1
def U8(ta:TA):TI:=λZ H R=>ta Z H λg H1=>∃i j:Int,g=[.int i,.int j]/\(-(2 ^ 62)<=i/\i<2 ^ 62/\-(2 ^ 62)<=j/\j<2 ^ 62)/\R (Tp i (j-i).toNat) H1
theorem Eb{a:fv}(y:Gl X "range")(B:X.mg "range"=ca)(z:PA X [a] ta)(F:cT [a] X.env=[(cx,fx a X.env)]:=by rfl):PI X tg (.Call (.Name "range" p) [a] [] pos) (Sv ta):=by
 intro abP s Z H R I h;refine Call_ (dy I y B boot_range<|Vt (bv (z _ _ s Z H _ I h) λus J l=>?_) F rfl);obtain⟨G,H1,I1,n,g⟩:=l;obtain⟨j,e,g,v,q⟩:=g;subst e;cases n with
 |cons r rr=>
  cases rr;obtain⟨t,rfl⟩:=r;exact call_range_1 (vc I1 (by lia) (by lia) g v<|by simpa using q)
theorem E1{a b:fv}(B:Gl X "range")(G:X.mg "range"=ca)(F:PA X [a,b] ta)(J:cT [a,b] X.env=[(cx,fx a X.env),(cx,fx b X.env)]:=by rfl)(hs2:cT [b] X.env=[(cx,fx b X.env)]:=by rfl):
  PI X tg (.Call (.Name "range" p) [a,b] [] pos) (U8 ta):=by
 intro abP s Z H R I h;refine Call_ (dy I B G boot_range<|Vt (bv (F _ _ s Z H _ I h) λus O l=>?_) (by rw[J,hs2])<|by rw[hs2];rfl)
 obtain⟨L,H1,I1,n,g⟩:=l;obtain⟨i,j,e,⟨g,z,y,v⟩,q⟩:=g;subst e;cases n with
 |cons r rr=>
  cases rr with
  |cons r' rr=>
   cases rr;obtain⟨t,rfl⟩:=r;obtain⟨t',rfl⟩:=r';exact call_range_2 (vc I1 g z y v q)
def tFor(wi:TI)(g:TG)(tb:TS):TS:=λD Z H=>wi Z H λJ H1=>∃W:Nat->Nat->St->Hp->Prop,(∃m,W 0 m Z H1)/\∀i m Z H,W i m Z H->
 (J.stop i H/\D.nx Z H)\/(J.go i H/\∃N:St->Hp->Prop,(∀σ' H',N σ' H'->∃m',m'<m/\W (i+1) m' σ' H')/\∀x H',J.yld i H x H'->g x Z H' λj H2=>tb { D with nx:=N,ct:=N,bk:=D.nx } j H2)
noncomputable def nY(fp:ab0)(h:g3):List (cp×Obj):=fp.filterMap λb=>(h.get? b).map λo=>(b,o)
theorem g6(g:b∈fp)(e:h.get? b=ap o):(b,o)∈nY fp h:=aae.mpr #[b,g,by rw[e];rfl]
theorem EI(j:p∈nY fp h):p.1∈fp/\h.get? p.1=ap p.2:=by
 obtain⟨b,l,e⟩:=aae.mp j;cases q:h.get? b with
 |none=>simp_all
 |some o=>
  rw[q]at e;have g:=VP e;subst g;trivial
theorem Inv.pinned(I:Inv X abP Z H s)(l:∀b∈fp,kj X abP H b)(n:∀b∈fp,∃o,s.heap.get? b=ap o/\∀v,o.data≠.cell v):Inv X (abP++nY fp s.heap) Z H s:=
 I.pins_of λp j=>(Vs.mp j).elim (λz=>I.pin p (Vz _ z)) λz=>by
  obtain⟨g,e⟩:=EI z;obtain⟨y,q,B,_⟩:=l _ g;obtain⟨o,F,d⟩:=n _ g
  simp_all
theorem Inv.unpinned(I:Inv X (abP++pl) Z H s):Inv X abP Z H s:=I.pins_of λp g=>I.pin p (Vz _<|Xj _ g)
theorem OE(U:abx (eH X.prog X.w) X.A X.env X.xe)(hc:X.calm=true)(hi:PI X tg q wi)(hg:PG X tg g)(y:CG X body tb)(hs:∀x,qa q X.env x=pure x:=by intro _;rfl):PS X (.For tg q body [] pos) (tFor wi g tb):=by
 intro abP s Z H D I h;refine wpAny_For (bv (hi _ s Z H _ I h) λv s1 h1=>bv h1 λitv s2 h2=>?_) hs;obtain⟨it,fp,tn,J,H2,e,I2,T,st2,f2,W,⟨m0,w0⟩,L⟩:=h2;subst e
 -- what stays true of the iterator's objects through the loop
 have l:∀{H':Hp},(∀b∈fp,H' b=ca)->∀b∈fp,kj X _ H' b:=λhn b y=>#[hn b y,(f2 b y).2];refine codeAny_forLoop_any (λn s'=>∃i σ' H',Inv X _ σ' H' s'/\tn i s'.heap/\(∀b∈fp,H' b=ca)/\W i n σ' H') ?_ m0 #[0,Z,H2,I2,st2,λb y=>(f2 b y).1,w0]
 rintro n s3 ⟨i,σ3,H3,I3,O,R,w3⟩
 rcases L i n _ H3 w3 with⟨S,qn⟩|⟨go,N,hN,step⟩
 .refine pb U (bv (T.done X rfl rfl rfl hc i _ s3 _ H3 _ I3 (l R) O S) λr s4 F=>?_)
  obtain⟨hr,I4⟩:=F;subst hr;exact re #[_,H3,I4,qn]
 refine pb U (bv (T.item X rfl rfl rfl hc i _ s3 _ H3 _ I3 (l R) O go) λr s4 F=>?_);obtain⟨u,hr,h4⟩:=F;subst hr;refine pb U (bv h4 λ_ s5 F=>?_);obtain⟨x,H5,I5,r5,y5,B,Y⟩:=F;refine pb U (bv (hg _ s5 σ3 H5 x u _ (I5.pinned (l Y)<|T.obj _ _ B) r5<|step x H5 y5) λ_ s6 F=>?_);obtain⟨σ6,H6,I6,q6⟩:=F;refine pb U (bv (y _ s6 σ6 H6 _ I6 q6) λf s7 z=>?_);have again:∀{j:St}{H7:Hp},Inv X (abP++nY fp s5.heap) j H7 s7->N j H7->∃m,m<n/\∃i σ' H',Inv X abP σ' H' s7/\tn i s7.heap/\(∀b∈fp,H' b=ca)/\W i m σ' H':=λ{j H7} I7 G=>by
  obtain⟨m',hm,w7⟩:=hN j H7 G;refine#[m',hm,i+1,j,H7,I7.unpinned,T.keep _ _ _ B λb y o e=>(I7.pin (b,o)<|Vz _<|Vz _<|g6 y e).1,λb y=>?_,w7];obtain⟨o,e,d⟩:=T.obj _ _ B b y;exact(I7.pin (b,o)<|Vz _<|Vz _<|g6 y e).2.1
 cases f with
 |next=>obtain⟨j,H7,I7,G⟩:=z;exact again I7 G
 |cont=>obtain⟨j,H7,I7,G⟩:=z;exact again I7 G
 |brk=>obtain⟨j,H7,I7,z⟩:=z;exact#[j,H7,I7.unpinned,z]
 |ret v=>obtain⟨x7,j,H7,I7,r7,z⟩:=z;exact#[x7,j,H7,I7.unpinned,r7,z]
abbrev R2:=V->V->Hp->VK->Prop
def cX(X:Cx)(f:ax->ax->Sem ax)(r:R2):Prop:=
 ∀(abP:ab4)(s:cb)(Z:St)(H:Hp)(x y:V)(v u:ax)(Q:VK),Inv X abP Z H s->RelV x v->RelV y u->r x y H Q->
  eg (eH X.prog X.w) X.A (f v u) (EP X abP Z Q) X.xe s
def UnR(X:Cx)(f:ax->Sem ax)(r:V->Hp->VK->Prop):Prop:=
 ∀(abP:ab4)(s:cb)(Z:St)(H:Hp)(x:V)(v:ax)(Q:VK),Inv X abP Z H s->RelV x v->r x H Q->
  eg (eH X.prog X.w) X.A (f v) (EP X abP Z Q) X.xe s
def bw(X:Cx)(f:ax)(r:List V->Hp->VK->Prop):Prop:=
 ∀(abP:ab4)(s:cb)(Z:St)(H:Hp)(xs:List V)(us:abZ)(Q:VK),Inv X abP Z H s->Vals xs us->r xs H Q->
  eg (eH X.prog X.w) X.A (call f us) (EP X abP Z Q) X.xe s
def TruR(X:Cx)(r:V->Hp->(Bool->Hp->Prop)->Prop):Prop:=
 ∀(abP:ab4)(s:cb)(Z:St)(H:Hp)(x:V)(v:ax)(Q:Bool->Hp->Prop),Inv X abP Z H s->RelV x v->r x H Q->
  eg (eH X.prog X.w) X.A (truthy v) (TP X abP Z Q) X.xe s
def SI(r:R2)(ta tb:TE):TE:=λZ H Q=>ta Z H λx H1=>tb Z H1 λy H2=>r x y H2 Q
def tUn(r:V->Hp->VK->Prop)(ta:TE):TE:=λZ H Q=>ta Z H λx H1=>r x H1 Q
def rI(C:Int->Int->Prop)(g:Int->Int->V):R2:=λx y H Q=>∃i j,x=.int i/\y=.int j/\C i j/\Q (g i j) H
def E_(g:Int->Int->V):R2:=λx y H Q=>∃i j,x=.int i/\y=.int j/\Q (g i j) H
def rU(g:Int->V):V->Hp->VK->Prop:=λx H Q=>∃i,x=.int i/\Q (g i) H
section
variable{a b:fv}
theorem P3(z:PE X a ta)(F:PE X b tb){R:V->V->Hp->Prop}(I:Inv X abP Z H s)(h:ta Z H λx H1=>tb Z H1 λy H2=>R x y H2){f:ax->ax->Sem ax}(B:∀v u s2 x y H2,Inv X abP Z H2 s2->RelV x v->RelV y u->R x y H2->eg (eH X.prog X.w) X.A (f v u) Q X.xe s2):
  eg (eH X.prog X.w) X.A (fx a X.env) (λv s₁=>eg (eH X.prog X.w) X.A (fx b X.env) (λu s₂=>eg (eH X.prog X.w) X.A (f v u) Q X.xe s₂) X.xe s₁) X.xe s:=by
 exact bv (z _ s Z H _ I h) λv j ⟨x,H1,I1,q,l⟩=>bv (F abP j Z H1 _ I1 l) λu s2 ⟨y,H2,I2,n,g⟩=>B v u s2 x y H2 I2 q n g
theorem TJ(l:cX X (hG op) r)(n:PE X a ta)(z:PE X b tb):PE X (.BinOp a op b pos) (SI r ta tb):=by
 intro abP s Z H Q I h;exact wpAny_BinOp (P3 n z I h λv u s2 x y H2 I2 g j q=>l _ s2 Z H2 x y v u Q I2 g j q)
theorem U1{r:V->Hp->VK->Prop}(q:UnR X (unaryOp op) r)(n:PE X a ta):PE X (.UnaryOp op a pos) (tUn r ta):=by
 intro abP s Z H Q I h;exact UnaryOp_ (bv (n _ s Z H _ I h)<|by rintro v l ⟨x,H1,I1,j,g⟩;exact q _ l Z H1 x v Q I1 j g)
theorem RK{f:ax->ax->Sem ax}{g:Int->Int->Int}(l:∀(i j:Int)(t u:Tok)(s:cb)(Q:ab3)(E:ab3),C i j->Q (.int (g i j) s.toks) { s with toks:=s.toks+1 }->eg (eH X.prog X.w) X.A (f (.int i t)<|.int j u) Q E s):
  cX X f (rI C λi j=>.int (g i j)):=by
 rintro abP s Z H x y v u Q I n B ⟨i,j,rfl,rfl,z,q⟩
 obtain⟨t,rfl⟩:=n;obtain⟨t',rfl⟩:=B;exact l i j t t' s _ _ z #[.int _,H,I.tok _,#[_,rfl],q]
theorem Fz{f:ax->ax->Sem ax}{g:Int->Int->Int}(l:∀(i j:Int)(t u:Tok)(s:cb)(Q:ab3)(E:ab3),Q (.int (g i j) s.toks) { s with toks:=s.toks+1 }->eg (eH X.prog X.w) X.A (f (.int i t)<|.int j u) Q E s):
  cX X f (E_ λi j=>.int (g i j)):=by
 rintro abP s Z H x y v u Q I n z ⟨i,j,rfl,rfl,q⟩
 obtain⟨t,rfl⟩:=n;obtain⟨t',rfl⟩:=z;exact l i j t t' s _ _ #[.int _,H,I.tok _,#[_,rfl],q]
theorem Mq{f:ax->ax->Sem ax}{g:Int->Int->Bool}(l:∀(i j:Int)(t u:Tok)(s:cb)(Q:ab3)(E:ab3),Q (.bool<|g i j) s->eg (eH X.prog X.w) X.A (f (.int i t)<|.int j u) Q E s):
  cX X f (E_ λi j=>.bl (g i j)):=by
 rintro abP s Z H x y v u Q I n z ⟨i,j,rfl,rfl,q⟩
 obtain⟨t,rfl⟩:=n;obtain⟨t',rfl⟩:=z;exact l i j t t' s _ _ #[.bl _,H,I,rfl,q]
def LK(i j:Int):Prop:=0<=j/\j<=1000000/\i.natAbs<2 ^ 64
def CMul(i j:Int):Prop:=(-(2 ^ 64)<i/\i<2 ^ 64)\/(-(2 ^ 64)<j/\j<2 ^ 64)
theorem CMul.ok{i:Int}(h:CMul i j):IntMulOk i j:=by
 rcases h with⟨g,l⟩|⟨g,l⟩
 .exact .of_left (intBits_le_64 g l)
 exact .of_right (intBits_le_64 g l)
theorem Ob(k:Nat):(0:Int)<=2 ^ k:=by
 lia
theorem Pv:cX X (hG .Add) (E_ λi j=>.int (i+j)):=Fz λ_ _ _ _ _ _ _ q=>add_int q
theorem Qc:cX X (hG .Sub) (E_ λi j=>.int (i-j)):=Fz λ_ _ _ _ _ _ _ q=>sub_int q
theorem PF:cX X (hG .Mult) (rI CMul λi j=>.int (i*j)):=RK λ_ _ _ _ _ _ _ g q=>mul_int q g.ok
theorem PR:cX X (hG .Mod) (rI (λ_ j=>0<j) λi j=>.int (i % j)):=RK λi j _ _ _ _ _ g q=>by
 have l:(0:Int)<j:=g;exact mod_int' (by lia) (by rw[Int.fmod_eq_emod_of_nonneg i (by lia)];exact q)
theorem Pj:cX X (hG .Pow) (rI LK λi j=>.int (i ^ j.toNat)):=RK λ_ _ _ _ _ _ _ g q=>pow_int_small g.1 g.2.1 g.2.2 q
theorem Oc:cX X (hG .LShift) (rI LK λi j=>.int (i*2 ^ j.toNat)):=RK λ_ _ _ _ _ _ _ g q=>lshift_int_small g.1 g.2.1 g.2.2 q
theorem Qz:cX X (hG .RShift) (rI (λ_ j=>0<=j) λi j=>.int (i / 2 ^ j.toNat)):=RK λi j _ _ _ _ _ g q=>
 rshift_int g (by grind)
theorem QK:cX X (hG .BitAnd) (E_ λi j=>.int (Xp i j)):=Fz λ_ _ _ _ _ _ _ q=>and_int q
theorem Te:cX X (hG .BitOr) (E_ λi j=>.int (Yc i j)):=Fz λ_ _ _ _ _ _ _ q=>or_int q
theorem Ox:cX X (hG .BitXor) (E_ λi j=>.int (Builtin.bitXor i j)):=Fz λ_ _ _ _ _ _ _ q=>xor_int q
theorem unI{f:ax->Sem ax}{g:Int->Int}(j:∀(i:Int)(t:Tok)(s:cb)(Q:ab3)(E:ab3),Q (.int (g i) s.toks) { s with toks:=s.toks+1 }->eg (eH X.prog X.w) X.A (f<|.int i t) Q E s):
  UnR X f (rU λi=>.int (g i)):=by
 rintro abP s Z H x v Q I l ⟨i,rfl,q⟩
 obtain⟨t,rfl⟩:=l;exact j i t s _ _ #[.int _,H,I.tok _,#[_,rfl],q]
theorem Rz:UnR X (unaryOp .USub) (rU λi=>.int (-i)):=unI λ_ _ _ _ _ q=>neg_int q
end
section
variable{a b:fv}
theorem GS(I:Inv X abP Z H s)(q:Q (.bl k) H)(e:k=g):EP X abP Z Q (.bool g) s:=by
 subst e;exact#[.bl k,H,I,rfl,q]
theorem UF:cX X (iA .Lt) (E_ λi j=>.bl (decide (i<j))):=Mq λ_ _ _ _ _ _ _ q=>lt_int q
theorem Ui:cX X (iA .LtE) (E_ λi j=>.bl (decide (i<=j))):=Mq λ_ _ _ _ _ _ _ q=>le_int q
theorem TH:cX X (iA .Gt) (E_ λi j=>.bl (decide (j<i))):=Mq λ_ _ _ _ _ _ _ q=>gt_int q
theorem Uv:cX X (iA .GtE) (E_ λi j=>.bl (decide (j<=i))):=Mq λ_ _ _ _ _ _ _ q=>ge_int q
theorem Po:cX X (iA .Is) (λx y H Q=>y=.non/\Q (.bl<|decide (x=.non)) H):=by
 intro abP s Z H x y v u Q I g j h;obtain⟨rfl,q⟩:=h;cases j;refine is_none_gen (GS I q ?_)
 cases x<;>first
  |(cases g;rfl)
  |(obtain⟨t,rfl⟩:=g;rfl)
theorem JR:cX X (iA .IsNot) (λx y H Q=>y=.non/\Q (.bl<|!decide (x=.non)) H):=by
 rintro abP s Z H x y v u Q I g j ⟨rfl,q⟩
 cases j;refine isnot_none_gen (GS I q ?_)
 cases x<;>first
  |(rfl)
  |(obtain⟨t,rfl⟩:=g;rfl)
theorem JB(B:cX X (iA op) r)(n:PE X a ta)(l:PE X b tb)(z:Y_ op b=cx):PE X (.Compare a [op] [b] pos) (SI r ta tb):=by
 intro abP s Z H Q I h;exact wpAny_Compare1 (P3 n l I h λv u s2 x y H2 I2 g j q=>B abP s2 Z H2 x y v u Q I2 g j q) z
def Ug(t:TE):TT:=λZ H Q=>t Z H λx H'=>∃k,x=.bl k/\Q k H'
theorem JM(R:cX X (iA op) r)(L:PE X a ta)(J:PE X b tb)(O:Y_ op b=cx):PT X (.Compare a [op] [b] pos) (Ug<|SI r ta tb):=by
 intro abP s Z H Q I h;refine wpAny_isTrue_Compare1 (bv (L _ s Z H _ I h) λv B ⟨x,H1,I1,l,j⟩=>bv (J _ B Z H1 _ I1 j) λu s2 ⟨y,H2,I2,G,q⟩=>
  bv (R _ s2 Z H2 x y v u _ I2 l G q) λc S g=>?_) O
 obtain⟨z,H3,I3,F,k,e,n⟩:=g;subst e;cases F;exact sg #[H3,I3,n]
def RG(K:UP)(x:V)(H:Hp)(k:Bool):Prop:=
 match x with
 |.non=>k=cx
 |.bl b=>k=b
 |.int i=>k=(i != 0)
 |.str y=>y.length<=sizeLine/\k=((y.length:Int) != 0)
 |.byt y=>y.size<=sizeLine/\k=((y.size:Int) != 0)
 |.ref p=>(∃xs,SqL K H p xs/\k=!xs.isEmpty)\/(∃xs,kU K H p xs/\k=!xs.isEmpty)\/∃abR,H p=ap (.dK abR)/\k=!abR.isEmpty
 |_=>False
theorem yT(r:KV abR vs):(!vs.isEmpty)=!abR.isEmpty:=by
 cases r<;>rfl
theorem oi(r:Vals xs abV):(!abV.toArray.isEmpty)=!xs.isEmpty:=by
 cases r<;>simp
theorem gx:(sizeLine:Nat)<2 ^ 63:=by trivial
theorem Qw:TruR X (λx H Q=>∃k,RG X.K x H k/\Q k H):=by
 rintro abP s Z H x v Q I l ⟨k,e,q⟩
 have R:=gx;have O:sizeLine=16777216:=abe;cases x with
 |non=>
  cases l;have g:k=false:=e;subst g;exact truthy_none #[H,I,q]
 |bl b=>
  cases l;have g:k=b:=e;subst g;exact sg #[H,I,q]
 |int i=>
  obtain⟨t,rfl⟩:=l;have g:k=(i != 0):=e;subst g;exact PySem.P.truthy_int #[H,I,q]
 |str y=>
  obtain⟨t,rfl⟩:=l;obtain⟨G,g⟩:y.length<=sizeLine/\k=((y.length:Int) != 0):=e;subst g;exact PySem.P.truthy_str (by lia) #[H,I.tok _,q]
 |byt y=>
  obtain⟨t,rfl⟩:=l;obtain⟨G,g⟩:y.size<=sizeLine/\k=((y.size:Int) != 0):=e;subst g;exact W.truthy_bytes (by lia) #[H,I.tok _,q]
 |ref p=>
  cases l;have g:=e;rcases g with⟨L,n,g⟩|⟨L,n,g⟩|⟨abR,n,g⟩
  .subst g
   obtain⟨B,r,pl,F⟩:=I.list n;have j:=r.length;exact wpAny_truthy_list pl.isList (by simp;lia) #[H,I.tok _,by rw[oi r];exact q]
  .subst g
   obtain⟨B,r,pl,F⟩:=I.tuple n;have j:=r.length;exact truthy_tuple pl (by simp;lia) #[H,I.tok _,by rw[oi r];exact q]
  subst g;obtain⟨F,J,z,r,m⟩:abR.length<=sizeLine/\(p==mu)=cx/\∃z,KV abR z/\s.heap.DictOf (aU X.prog X.w) p z:=I.hok p _ n;have j:abR.length=z.length:=Wh r;exact wpAny_truthy_dict J m (by lia) #[H,I.tok _,by rw[yT r];exact q]
 |_=>trivial
theorem G8(y:PE X a ta)(q:∀g,isTrue a X.env g=(do let v <- g;G' a.pos;o4 [v] (truthy v))):
  PT X a (λZ H Q=>ta Z H λx H'=>∃k,RG X.K x H' k/\Q k H'):=by
 intro abP s Z H Q I h;exact isTrue_plain (bv (y abP s Z H _ I h) λv j ⟨x,H1,I1,n,l⟩=>Qw abP j Z H1 x v Q I1 n l) (q _)
theorem yC:cX X (hG .Add) (λx y H Q=>∃i j,x=.str i/\y=.str j/\i.length+j.length<=sizeLine/\Q (.str (i++j)) H):=by
 rintro abP s Z H x y v u Q I g n ⟨i,j,rfl,rfl,l,q⟩
 obtain⟨t,rfl⟩:=g;obtain⟨t',rfl⟩:=n;exact add_str (λt' z=>#[.str _,H,I.tok _,#[_,rfl],q]) l
theorem hZ{x:V}(r:Vals [x] us):∃u,us=[u]/\RelV x u:=by
 cases r with
 |cons r1 r2=>cases r2;exact#[_,rfl,r1]
theorem NC{x:V}(r:Vals [x,y] us):∃u g,us=[u,g]/\RelV x u/\RelV y g:=by
 cases r with
 |cons r1 r2=>
  cases r2 with
  |cons r3 r4=>cases r4;exact#[_,_,rfl,r1,r3]
theorem Dw(l:X.calm=true):bw X (.builtin "max") (λxs H Q=>∃i j,xs=[.int i,.int j]/\Q (.int (if j>i then j else i)) H):=by
 rintro abP s Z H xs us Q I r ⟨i,j,rfl,q⟩
 obtain⟨u,n,rfl,⟨t,rfl⟩,⟨t',rfl⟩⟩:=NC r;refine max_two_ints (I.ok.hd l) λh' v k=>#[_,H,I.kept k,?_,q]
 by_cases g:j>i
 .rw[if_pos g,if_pos g];exact#[_,rfl]
 rw[if_neg g,if_neg g];exact#[_,rfl]
theorem Ev(l:X.calm=true):bw X (.builtin "min") (λxs H Q=>∃i j,xs=[.int i,.int j]/\Q (.int (if j<i then j else i)) H):=by
 rintro abP s Z H xs us Q I r ⟨i,j,rfl,q⟩
 obtain⟨u,n,rfl,⟨t,rfl⟩,⟨t',rfl⟩⟩:=NC r;refine min_two_ints (I.ok.hd l) λh' v k=>#[_,H,I.kept k,?_,q]
 by_cases g:j<i
 .rw[if_pos g,if_pos g];exact#[_,rfl]
 rw[if_neg g,if_neg g];exact#[_,rfl]
end
structure ObjM(h:g3)(x dx C:cp)(mA:ab5):Prop where
 obj:h.get? x=ap (XG C dx)
 ns:h.Ns1 dx mA
 ne:dx≠x
theorem E4(n:h.Ns1 dx mA):∃j,h.get? dx=ap j/\∀name,W.lookIn name j=ap (mA name):=by
 obtain⟨o,es,J,v,F,I,_,l⟩:=n;refine#[o,v,λname=>?_];have e:=l name;unfold nsFind findBy at e;rw[<- Array.find?_toList]at e;unfold W.lookIn;rw[F];dsimp only
 split
 .rename_i y q
  rw[q]at e;exact congrArg _ e
 rename_i q
 rw[q]at e;have a:es.toList.any (·.refKey)=false:=by
  rw[List.any_eq_false];intro y G;obtain⟨z,t,g⟩:=I y (Array.mem_toList_iff.mp G);simp[DictEntry.refKey,g]
 have B:¬es.toList.any (·.refKey)=true:=by rw[a];exact Yq
 rw[if_neg B];exact congrArg _ e
theorem ObjM.look{x:cp}(I:ObjM h x dx C mA):∃g,W.InstAt h x (XG C dx) C (ap g)/\∀name,W.lookIn name g=ap (mA name):=
 let ⟨g,ho,hl⟩:=E4 I.ns
 #[g,#[I.obj,rfl,rfl,ho],hl]
section
variable{x:cp}
theorem Ko(X:K.In s.heap)(I:ObjM s.heap x dx C mA)(n:Xk K C name=true)(y:Xo K C=true)(q:VE K (.ref C) name=ap ca)(z:mA name=ap v)(j:W.handedIn v=true)(h:Q v { s with toks:=s.toks+1 }):
  eg (eH prog w) A (getAttr (.ref x) name g) Q E s:=by
 obtain⟨B,J,l⟩:=I.look;exact W.get_value X J (ZK n).1 (W.findObj_own y q rfl<|by rw[l,z]) j h
theorem Fe(X:K.In s.heap)(I:ObjM s.heap x dx C mA)(g:Xk K C name=true)(n:VE K (.ref C) name=ap (ap<|.ref f))(l:W.isFn K (.ref f)=true)(y:mA name=ca)(h:Q (.ref f,[.ref x]) s):
  eg (eH prog w) A (z4 (.ref x) name pl) Q E s:=by
 obtain⟨j,J,q⟩:=I.look;exact W.method_fn X J (ZK g).1 (ZK g).2 n (beq_iff_eq.mp l) (by show (W.lookIn _ j).map _=ap _;simp_all) h
theorem iG(X:K.In s.heap)(I:ObjM s.heap x dx C mA)(T:VE K (.ref C) "__setattr__"=ap (ap<|.builtin "object.__setattr__"))(S:XX K C=true)(L:W.takerIn K C name=ap ca)(O:Xo K C=true)(R:Zr mA ns)(hsz:ns.length<=sizeLine)(h:∀h',ObjM h' x dx C (λy=>if y=name then ap v else mA y)->VZ dx s.heap h'->Q () { s with heap:=h',toks:=s.toks+2 }):
  eg (eH prog w) A (setAttr (.ref x) name v) Q E s:=by
 obtain⟨od,J,U⟩:=I.look;refine W.set_plain X J T (W.osa_open X J S L λb=>?_);obtain⟨Y,G,z⟩:=W.any_some O;refine ay (eC<|wpAny_bind<|wpAny_bind<|wpAny_loadPart I.obj<|wpAny_bind<|W.Looks.here (W.looks_clsIn X G) ?_);rw[z];refine eC (ay<|wpAny_pure<|wpAny_bind ?_);refine wpAny_nsSet1 I.ns λh' j g=>?_;obtain⟨oD,B,F,l,n,q⟩:=j.count (PySem.Within.cons _ v R);exact ay (wpAny_lookBehind l (by rw[n];exact pastItsLine_dict (Vb q<|by rw[Vh];lia))<|wpAny_pure<|h _ #[(g.2 _<|Vu I.ne).trans I.obj,j,I.ne] g)
theorem FN(X:K.In s.heap)(n:X7 K C=true)(l:VE K (.ref C) "__init__"=ap (ap<|.ref f))(q:W.typeIn K (.ref f)=ap (.type "function"))(h:x9 (eH prog w) (A.under<|.builtin "type.__call__" #[.ref C::vs,kw]) (.call (.ref f) #[.ref (s.heap.objs.size+1)::vs,kw]) (W.InitBack (s.heap.objs.size+1) R)
   { s with heap:=(s.heap.push WK).push (XG C s.heap.objs.size) }):
  x9 (eH prog w) A (.call (.ref C) #[vs,kw]) R s:=by
 obtain⟨z,g,d,t,y⟩:=s;exact W.make_core (W.makes_of X n) (W.looks_findIn X l) (λj=>W.bind_fn X j q) (.inl rfl) h
end
def dJ(f:Str)(v:V):List (Str×V)->List (Str×V)
 |[]=>[(f,v)]
 |(g,x)::r=>if g=f then (g,v)::r else (g,x)::dJ f v r
theorem kO(f g:Str)(v:V):∀fs:List (Str×V),(dJ f v fs).lookup g=if g=f then ap v else fs.lookup g
 |[]=>by
  show Vw g [(f,v)]=_
  by_cases h:g=f
  .simp_all
  simp_all
 |(k,x)::r=>by
  rw[show dJ f v _=(if k=f then (k,v)::r else (k,x)::dJ f v r) from rfl]
  by_cases l:k=f
  .rw[if_pos l]
   by_cases h:g=k
   .have j:=beq_iff_eq.mpr h
    simp only[Vw,j,if_pos (h.trans l)]
   have j:(g==k)=false:=beq_eq_false_iff_ne.mpr h;simp only[Vw,j,if_neg (λe:g=f=>h (e.trans l.symm))]
  rw[if_neg l]
  by_cases h:g=k
  .have j:(g==k)=true:=beq_iff_eq.mpr h
   simp only[Vw,j,if_neg (λe:g=f=>l (h.symm.trans e))]
  .have j:(g==k)=false:=beq_eq_false_iff_ne.mpr h
   simp only[Vw,j];exact(kO f g v r)
theorem k9(f:Str)(v:V):∀fs:List (Str×V),f∈(dJ f v fs).map (·.1)/\∀g,g∈fs.map (·.1)->g∈(dJ f v fs).map (·.1)
 |[]=>#[by simp[dJ],λg h=>by simp at h]
 |(k,x)::r=>by
  obtain⟨i1,i2⟩:=k9 f v r;rw[show dJ f v _=(if k=f then (k,v)::r else (k,x)::dJ f v r) from rfl]
  by_cases j:k=f
  .simp_all
  rw[if_neg j];refine#[?_,λg h=>?_]
  .exact UY _ i1
  rw[UR]at h ⊢;rcases UU.mp h with e|e
  .exact UU.mpr (.inl e)
  .exact UY _ (i2 g e)
theorem kQ(f:Str)(v:V):∀fs:List (Str×V),(dJ f v fs).length<=fs.length+1
 |[]=>by simp[dJ]
 |(k,x)::r=>by
  have g:=kQ f v r;rw[show dJ f v _=(if k=f then (k,v)::r else (k,x)::dJ f v r) from rfl]
  by_cases j:k=f
  .simp_all
  simp_all
theorem dM(r:RelO (ap v) o):∃u,o=ap u/\RelV v u:=by
 cases o with
 |none=>trivial
 |some u=>exact#[u,rfl,r]
theorem jZ(r:RelO ca o):o=none:=by
 cases o<;>trivial
theorem EC(r:RelV v u):W.handedIn u=true:=by
 cases v with
 |non=>cases r;rfl
 |bl b=>cases r;rfl
 |int i=>obtain⟨t,e⟩:=r;cases e;rfl
 |str x=>obtain⟨t,e⟩:=r;cases e;rfl
 |byt b=>obtain⟨t,e⟩:=r;cases e;rfl
 |flt b=>obtain⟨t,e⟩:=r;cases e;rfl
 |ref a=>cases r;rfl
 |ty n=>cases r;rfl
theorem mJ(g:HOk P w H h)(e:H a=ap (.ins C dx fs)):∃mA,ObjM h a dx C mA/\(∀f,RelO (fs.lookup f) (mA f))/\Zr mA (fs.map (·.1))/\fs.length<=1000/\H dx=ap (.own a):=by
 obtain⟨d,z,ne,j,mA,n,r,q⟩:=(g a _ e);exact#[mA,#[j,n,ne],r,q,z,d]
structure Cls(K:UP)(C:cp):Prop where
 pg:Xk K C YK=true
 hd:Xo K C=true
 po:XX K C=true
 sa:VE K (.ref C) "__setattr__"=ap (ap<|.builtin "object.__setattr__")
theorem Cls.get(c:Cls K C)(f:Str):Xk K C f=true:=c.pg
def NoAttr(K:UP)(C:cp)(f:Str):Prop:=VE K (.ref C) f=ap ca
theorem NoAttr.taker{f:Str}(n:NoAttr K C f):W.takerIn K C f=ap none:=by
 unfold W.takerIn;rw[n];rfl
structure Meth(K:UP)(C:cp)(m:Str)(f:cp):Prop where
 at_:VE K (.ref C) m=ap (ap<|.ref f)
 fn:W.isFn K (.ref f)=true
 kp:V8 K (.ref f)=true
section
variable{f:Str}
theorem nA{b:Bool}(I:Inv X abP Z H s)(e:H a=ap (.ins C dx fs))(c:Cls X.K C)(n:NoAttr X.K C f)(l:fs.lookup f=ap v)(h:∀u j,Inv X abP Z H j->RelV v u->Q u j):eg (eH X.prog X.w) A (getAttr (.ref a) f b) Q E s:=by
 obtain⟨mA,O,r,_,_,_⟩:=mJ I.hok e;obtain⟨u,q,g⟩:=dM (v:=v) (o:=mA f) (by grind)
 exact Ko I.kIn O (c.get f) c.hd n q (EC g) (h u _ (I.tok _) g)
theorem oa(I:Inv X abP Z H s)(e:H a=ap (.ins C dx fs))(c:Cls X.K C)(k:Meth X.K C m g)(l:fs.lookup m=ca)(h:Q (.ref g,[.ref a]) s):eg (eH X.prog X.w) A (z4 (.ref a) m pl) Q E s:=by
 obtain⟨mA,O,r,_,_,_⟩:=mJ I.hok e;exact Fe I.kIn O (c.get m) k.at_ k.fn (jZ<|by rw[<- l];exact r m) h
theorem oy(I:Inv X abP Z H s)(e:H a=ap (.ins C dx fs))(c:Cls X.K C)(n:NoAttr X.K C f)(hl:fs.length<1000)(ry:RelV y u)(h:∀s',Inv X abP Z (upd H a<|.ins C dx<|dJ f y fs) s'->Q () s'):eg (eH X.prog X.w) A (setAttr (.ref a) f u) Q E s:=by
 obtain⟨mA,O,r,wi,_,ho⟩:=mJ I.hok e;have hz:(fs.map (·.1)).length<=sizeLine:=by rw[UM,abe];lia
 refine iG I.kIn O c.sa c.po n.taker c.hd wi hz λh' O' sb=>h _ ?_;have hd:∃o,h'.get? dx=ap o:=let ⟨o,_,_,e',_⟩:=O'.ns;#[o,e'];refine I.write (by rw[e];trivial) (.inr ho) (λb q hb z=>(sb.2 b hb).trans z) hd ?_
 refine#[by rw[aF O.ne];exact ho,?_,O.ne,O'.obj,_,O'.ns,λg=>?_,λg hg=>?_]
 .have:=kQ f y fs;lia
 .rw[kO]
  by_cases q:g=f
  .rw[if_pos q,if_pos q];exact ry
  simp_all
 by_cases q:g=f
 .rw[q];exact(k9 f y fs).1
 refine (k9 f y fs).2 g (wi g λz=>hg ?_);show (if g=f then ap u else mA g)=ca
 rw[if_neg q];exact z
theorem Jh(I:Inv X abP Z H s):Inv X abP Z (upd (upd H s.heap.objs.size<|.own (s.heap.objs.size+1)) (s.heap.objs.size+1)<|.ins C s.heap.objs.size [])
  { s with heap:=(s.heap.push WK).push (XG C s.heap.objs.size) }:=by
 have g:(s.heap.push WK).get? s.heap.objs.size=ap WK:=US s.heap rfl;have j:((s.heap.push WK).push<|XG C s.heap.objs.size).get? (s.heap.objs.size+1)=ap (XG C s.heap.objs.size):=by
  have:=US (s.heap.push WK) (o:=XG C s.heap.objs.size) rfl
  rwa [VH]at this
 have z:(s.heap.push WK).Ns s.heap.objs.size (λ_=>ca):=#[WK,(Tw []),_,g,rfl,(λe l=>absurd l (by simp)),λ_=>rfl]
 have I1:=I.laid (a:=s.heap.objs.size) (o:=.own (s.heap.objs.size+1)) (h':=s.heap.push WK) (t':=s.toks) (λb u q=>UN _ q) (UX _) #[_,g];refine I1.laid (a:=s.heap.objs.size+1) (o:=.ins C s.heap.objs.size []) (t':=s.toks) (λb u q=>UN _ q) (ZN<|VH _ _) ?_;have ne:s.heap.objs.size≠s.heap.objs.size+1:=Vg (Nat.lt_succ_self _);refine#[by rw[aF ne,upd_same],W2 _,ne,j,λ_=>ca,(Heap.Ns1.of_empty z).at λo q=>UN _ q,λ_=>WG,λy n=>absurd rfl n]
theorem Kv{f:Str}(j:iB e f env (fx e env)=fx e env)(h:eg (eH g w) A (fx e env) (λo s₁=>eg (eH g w) A (getAttr o f true) Q E s₁) E s):eg (eH g w) A (fx (.Attribute e f pos) env) Q E s:=
 Attribute_any_ h (by rw[arm_eval_Attribute,j])
end
def tFld(K:UP)(ta:TE)(f:Str):TE:=λZ H Q=>ta Z H λx H1=>∃a C dx fs v,x=.ref a/\H1 a=ap (.ins C dx fs)/\Cls K C/\NoAttr K C f/\fs.lookup f=ap v/\Q v H1
def sFld(K:UP)(ta tv:TE)(f:Str):TS:=λD Z H=>tv Z H λy H1=>ta Z H1 λx H2=>∃a C dx fs,x=.ref a/\H2 a=ap (.ins C dx fs)/\Cls K C/\NoAttr K C f/\fs.length<1000/\
 D.nx Z (upd H2 a<|.ins C dx<|dJ f y fs)
def Rt(X:Cx)(op:S')(rd:V->V->Hp->VK->Prop):Prop:=
 ∀(abP:ab4)(s:cb)(Z:St)(H:Hp)(x y:V)(u v:ax)(Q:VK),Inv X abP Z H s->RelV x u->RelV y v->rd x y H Q->eg (eH X.prog X.w) X.A (inplaceOp op u v) (EP X abP Z Q) X.xe s
def Ki(K:UP)(ta tv:TE)(rd:V->V->Hp->VK->Prop)(f:Str):TS:=λD Z H=>ta Z H λx H1=>∃a C dx fs v,x=.ref a/\H1 a=ap (.ins C dx fs)/\Cls K C/\NoAttr K C f/\fs.lookup f=ap v/\
 tv Z H1 λy H2=>rd v y H2 λz H3=>∃dx' fs',H3 a=ap (.ins C dx' fs')/\fs'.length<1000/\D.nx Z (upd H3 a<|.ins C dx'<|dJ f z fs')
section
variable{f:Str}
theorem Ro(F:PE X e ta)(G:iB e f X.env (fx e X.env)=fx e X.env):PE X (.Attribute e f pos) (tFld X.K ta f):=by
 intro abP s Z H Q I h;refine Kv G (bv (F _ s Z H _ I h) λu L y=>?_);obtain⟨x,H1,I1,j,a,C,dx,fs,v,B,z,c,n,l,q⟩:=y;subst B;obtain rfl:u=Vn a:=j;exact nA I1 z c n l λJ s2 I2 g=>#[v,H1,I2,g,q]
theorem Ry(O:PE X o ta)(L:PE X value tv)(R:py value (ap<|.Attribute o f pos') pos.line X.env=pure cx):PS X (.Assign [.Attribute o f pos'] value pos) (sFld X.K ta tv f):=by
 intro abP s Z H D I h;refine plainObj_wpAny_Assign_Attribute (bv (L _ s Z H _ I h) λu J ⟨y,H1,I1,F,q⟩=>bv (O _ J Z H1 _ I1 q) λz s2 j=>?_) R;obtain⟨x,H2,I2,g,a,C,dx,fs,B,v,c,n,l,G⟩:=j;subst B;obtain rfl:z=Vn a:=g;exact oy I2 v c n l F λS I3=>#[Z,_,I3,G]
theorem rA(ha:PE X o ta)(hv:PE X value tv)(j:Rt X op B):PS X (.AugAssign (.Attribute o f tpos) op value pos) (Ki X.K ta tv B f):=by
 intro abP s Z H D I h;refine wpAny_AugAssign_AttributeAny (bv (ha _ s Z H _ I h) λU s1 F=>?_);obtain⟨x,H1,I1,R,a,C,dx,fs,v,G,S,c,n,l,q⟩:=F;subst G;obtain rfl:U=Vn a:=R;exact nA I1 S c n l λu s2 I2 L=>bv (hv _ s2 Z H1 _ I2 q) (by rintro w3 T ⟨y,H2,I3,ry,Y⟩;exact bv (j _ T Z H2 v y u w3 _ I3 L ry Y) (by rintro w4 s4 ⟨z,H3,I4,W,_,_,g,O,J⟩;exact oy I4 g c n O W λs5 I5=>#[Z,_,I5,J]))
def rAdd:V->V->Hp->VK->Prop:=λx y H Q=>∃i j,x=.int i/\y=.int j/\Q (.int (i+j)) H
def rSub:V->V->Hp->VK->Prop:=λx y H Q=>∃i j,x=.int i/\y=.int j/\Q (.int (i-j)) H
theorem Rh:Rt X .Add rAdd:=by
 rintro abP s Z H x y u v Q I g l ⟨i,j,rfl,rfl,q⟩
 obtain⟨t,rfl⟩:=g;obtain⟨t',rfl⟩:=l;exact PyProof.Rows.iadd_int #[.int _,H,I.tok _,#[_,rfl],q]
theorem QA:Rt X .Sub rSub:=by
 rintro abP s Z H x y u v Q I g l ⟨i,j,rfl,rfl,q⟩
 obtain⟨t,rfl⟩:=g;obtain⟨t',rfl⟩:=l;exact PyProof.Rows.isub_int #[.int _,H,I.tok _,#[_,rfl],q]
end
section
variable{b:Bool}
inductive TyOf(K:UP)(H:Hp):V->ax->Prop where
 |non:TyOf K H .non (.type "NoneType")
 |bl (x:Bool):TyOf K H (.bl x) (.type "bool")
 |int (i:Int):TyOf K H (.int i) (.type "int")
 |str (x:Str):TyOf K H (.str x) (.type "str")
 |flt (x:UInt64):TyOf K H (.flt x) (.type "float")
 |lst {a:cp} {xs:List V} (e:H a=ap (.lst xs)):TyOf K H (.ref a) (.type "list")
 |frz {a:cp} {o:Obj} {xs:List V} (e:H a=ap (.frz o<|.lst xs)):TyOf K H (.ref a) (.type "list")
 |tup {a:cp} {xs:List V} (e:H a=ap (.tup xs)):TyOf K H (.ref a) (.type "tuple")
 |dK {a:cp} {abR:List (aD×V)} (e:H a=ap (.dK abR)):TyOf K H (.ref a) (.type "dict")
 |dT {a:cp} {abR:List (List aD×V)} (e:H a=ap (.dT abR)):TyOf K H (.ref a) (.type "dict")
 |ins {a C dx:cp} {fs:List (Str×V)} (e:H a=ap (.ins C dx fs)) (cl:Cls K C) (ha:VE K (.ref C) "__class__"=ap (ap<|.builtin "object.__class__"))
   (hn:W.specialIn K (.builtin "object.__class__") "__get__"=ap (ap<|.builtin "getset_descriptor.__get__")) (htk:W.takesIn K (.builtin "object.__class__")=ap true)
   (hm:W.mroIn K C (.type "object")=ap true):TyOf K H (.ref a) (.ref C)
theorem E5{x:V}(I:Inv X abP Z H s)(g:RelV x u)(ty:TyOf X.K H x t)(e:W.kitOne X.K t c=ap b)(h:∀F,Q (.bool b) { s with toks:=F }):
  eg (eH X.prog X.w) A (call (.builtin "isinstance") [u,c]) Q E s:=by
 cases ty with
 |non=>cases (show u=Wo from g);exact WT W.kitx_none I.kIn WG e (λz=>nomatch z) h
 |bl y=>cases (show u=ZZ y from g);exact WT W.kitx_bool I.kIn WG e (λz=>nomatch z) h
 |int i=>obtain⟨t,q⟩:=(show ∃t,u=Yz i t from g);cases q;exact WT W.kitx_int I.kIn WG e (λz=>nomatch z) h
 |str y=>obtain⟨t,q⟩:=(show ∃t,u=Yy y t from g);cases q;exact WT W.kitx_str I.kIn WG e (λz=>nomatch z) h
 |flt y=>obtain⟨t,q⟩:=(show ∃t,u=Value.float y t from g);cases q;exact WT W.kitx_float I.kIn WG e (λz=>nomatch z) h
 |@lst a l ea=>
  cases (show u=Vn a from g);obtain⟨_,_,n,_,j⟩:=(show ObjOk X.prog X.w H s.heap a (.lst l) from I.hok a _ ea);exact WT W.kitx_list I.kIn #[_,j,rfl] e (λz=>nomatch z) h
 |@frz a ob l ea=>
  cases (show u=Vn a from g);obtain⟨_,_,_,n,_,j⟩:=(show ObjOk X.prog X.w H s.heap a (.frz ob<|.lst l) from I.hok a _ ea);exact WT W.kitx_list I.kIn #[_,j,rfl] e (λz=>nomatch z) h
 |@tup a l ea=>
  cases (show u=Vn a from g);obtain⟨_,_,_,p⟩:=(show ObjOk X.prog X.w H s.heap a (.tup l) from I.hok a _ ea);obtain⟨o,j,⟨v,_⟩,_⟩:=p;exact WT W.kitx_tuple I.kIn #[o,j,v] e (λz=>nomatch z) h
 |@dK a abR ea=>
  cases (show u=Vn a from g);obtain⟨_,_,L,_,p⟩:=(show ObjOk X.prog X.w H s.heap a (.dK abR) from I.hok a _ ea);obtain⟨o,es,B,j,v,_⟩:=p;exact WT W.kitx_dict I.kIn #[o,j,v.1] e (λz=>nomatch z) h
 |@dT a abR ea=>
  cases (show u=Vn a from g);obtain⟨_,_,l,_,o,es,B,j,v,_⟩:=(show ObjOk X.prog X.w H s.heap a (.dT abR) from I.hok a _ ea);exact WT W.kitx_dict I.kIn #[o,j,v.1] e (λz=>nomatch z) h
 |@ins a C dx fs ea cl ha hn htk hm=>
  cases (show u=Vn a from g);obtain⟨mA,O,_⟩:=mJ I.hok ea;obtain⟨G,J,_⟩:=O.look;exact WT (W.kitx_own (cl.get _) cl.hd ha hn htk hm) I.kIn J e (λz=>nomatch z) h
end
structure Room(k:Nat)(A:f'):Prop where
 hd:A.handled=ca
 dp:A.depth+3*k+5<recursionLimit
 un:A.units+16*k+200<l'
 gd:A.guards=ap []
theorem Room.mono(r:Room k A)(h:j<=k):Room j A:=#[r.hd,by have:=r.dp;lia,by have:=r.un;lia,r.gd]
theorem Room.deeper(r:Room (k+1) A)(env:Env):Room k (A.deeper env):=
 #[r.hd,by have:=r.dp;show A.depth+1+3*k+5<_;lia,by have:=r.un;show A.units+3+16*k+200<_;lia,r.gd]
theorem y0:(A.under<|.builtin "type.__call__" #[.ref C::us,kw]).depth=A.depth+1:=by
 rfl
theorem xy:(A.under<|.builtin "type.__call__" #[.ref C::us,kw]).units=A.units+1:=by
 rfl
theorem NH:(A.under<|.builtin "type.__call__" #[.ref C::us,kw]).guards=A.guards:=by
 rfl
theorem Room.make(r:Room (k+1) A)(C:cp)(us:abZ)(kw:List (Str×ax)):Room k (A.under<|.builtin "type.__call__" #[.ref C::us,kw]):=
 #[r.hd,by have:=r.dp;rw[y0];lia,by have:=r.un;rw[xy];lia,by exact r.gd]
theorem Room.depth(r:Room k A):A.depth<recursionLimit:=by have:=r.dp;lia
theorem Room.units(r:Room k A):A.units+64<cLine:=by have:=r.un;lia
def TC:TA:=λ_ H Q=>Q [] H
def RX(ta:TE)(tr:TA):TA:=λZ H Q=>ta Z H λx H1=>tr Z H1 λg H2=>Q (x::g) H2
theorem Hv:PA X [] TC:=λ_ _ _ _ H Q I h=>W4 #[[],H,I,.nil,h]
theorem zO(v:PE X e te)(z:PA X es t)(y:cT (e::es) X.env=(cx,fx e X.env)::cT es X.env:=by rfl):PA X (e::es) (RX te t):=by
 intro pos abP s Z H Q I h;rw[y];show eg _ _ (spliced ((cx,fx e _)::ix _ _)) _ _ s;exact Wq (bv (v _ s Z H _ I h)<|by rintro u q ⟨x,H1,I1,l,j⟩;exact(bv (z _ _ q Z H1 _ I1 j)<|by rintro us s2 ⟨B,H2,I2,g,n⟩;exact#[_,H2,I2,.cons l g,n]))
def tTup(t:TA):TE:=λZ H Q=>t Z H λg H1=>g.length<=sizeLine/\∀p,H1 p=ca->Q (.ref p) (upd H1 p<|.tup g)
def tLst(t:TA):TE:=λZ H Q=>t Z H λg H1=>g.length<=sizeLine/\∀p,H1 p=ca->Q (.ref p) (upd H1 p<|.lst g)
theorem OU{x1}(h:PA X es t):PE X (.Tuple es x1 pos) (tTup t):=by
 intro abP s Z H Q I g;refine wpAny_Tuple_spliced (bv (h _ _ s Z H _ I g) λus l ⟨j,H1,I1,r,z,q⟩=>#[by rw[<- r.length];exact z,?_])
 refine#[.ref _,_,I1.laid (λb u e=>UN _ e) (UX _) ?_,rfl,q _<|I1.hok.fresh<|UX _];exact#[z,us,r,#[_,US _ rfl,#[rfl,_,rfl],rfl]]
theorem QD(h:PA X es t):PE X (.List es pos) (tLst t):=by
 intro abP s Z H Q I g;refine wpAny_List_spliced (bv (h _ _ s Z H _ I g) λus l ⟨j,H1,I1,r,z,q⟩=>#[by rw[<- r.length];exact z,?_])
 refine#[.ref _,_,I1.laid (λb u e=>UN _ e) (UX _) ?_,rfl,q _<|I1.hok.fresh<|UX _];exact#[z,us,0,r,US _ rfl]
abbrev Sp:=List V->Hp->VK->XK->Prop
abbrev qd:=List Env->Hp->cb->XK->ax->cb->Prop
structure Env0(P:eX)(w:gl)(K:UP)(mg:ab5)(base:g3)(A:f')(outer:List Env)(s:cb)(H:Hp):Prop where
 frames:A.frames=ap outer
 mod:Mod K mg base
 bs:∀b o,base.get? b=ap o->s.heap.get? b=ap o/\H b=ca
 bsz:base.objs.size<=s.heap.objs.size
 funs:s.heap.FunFrames base outer
 frf:∀b∈iZ outer,H b=ca
 hok:HOk P w H s.heap
 bare:L' s.gens
def CE(outer:List Env)(P:eX)(w:gl)(H:Hp)(s:cb)(Q:VK)(u:ax)(s':cb):Prop:=
 ∃v H',s'.os=s.os/\L' s'.gens/\Un (iZ outer) [] H H' s.heap s'.heap/\HOk P w H' s'.heap/\RelV v u/\Q v H'
def CR(CX:qd)(outer:List Env)(P:eX)(w:gl)(H:Hp)(s:cb)(Q:VK)(E:XK)(r:abq)(s':cb):Prop:=
 match r with
 |.ok (.ret u)=>CE outer P w H s Q u s'
 |.ok _=>False
 |.error e=>CX outer H s E e s'
structure FnOk(P:eX)(w:gl)(K:UP)(mg:ab5)(base:g3)(CX:qd)(k:Nat)(f:cp)(fd:gp)(ps:abY)(sp:Sp):Prop where
 len:∀vs H Q E,sp vs H Q E->vs.length=ps.length
 run:∀(A:f')(outer:List Env)(s:cb)(H:Hp)(args:Args)(us:abZ)(vs:List V)(Q:VK)(E:XK),Room k A->Env0 P w K mg base A outer s H->abi s fd args (ps.zip us)->Vals vs us->sp vs H Q E->
  x9 (eH P w) A (.call (.ref f) args) (CR CX outer P w H s Q E) s
theorem FnOk.imp(F:FnOk P w K mg base CX k f fd ps sp)(h:∀vs H Q E,l vs H Q E->sp vs H Q E):FnOk P w K mg base CX k f fd ps l:=
 #[λvs H Q E q=>F.len vs H Q E (h _ _ _ _ q),λA g s H j us vs Q E y n B z v=>F.run A g s H j us vs Q E y n B z (h _ _ _ _ v)]
theorem Env0.make(e:Env0 P w K mg base A g s H)(C:cp)(us:abZ)(kw:List (Str×ax)):
  Env0 P w K mg base (A.under<|.builtin "type.__call__" #[.ref C::us,kw]) g s H:=#[by first|exact e.frames|rfl,e.mod,e.bs,e.bsz,e.funs,e.frf,e.hok,e.bare]
theorem Inv.env0(I:Inv X abP Z H s):Env0 X.prog X.w X.K X.mg X.base X.A X.stack s H:=
 #[I.ok.frames,I.ok.mod,I.bs,Vb I.ok.bsz I.sz,I.stack,I.stkFree,I.hok,I.bare]
theorem Inv.after(I:Inv X abP Z H s)(h:CE X.stack X.prog X.w H s Q u s'):EP X abP Z Q u s':=by
 obtain⟨v,H',os,j,un,l,r,q⟩:=h;obtain⟨y,g,d,t,n⟩:=s';obtain rfl:n=s.os:=os;exact#[v,H',I.call (h':=y) (g':=g) (d':=d) (t':=t) (ch:=[]) un l j (λb z=>absurd z (by simp)),r,q]
def TR(sp:Sp)(dvs:List V)(E:XK)(t:TA):TE:=λZ H Q=>t Z H λg H1=>sp (g++dvs) H1 Q E
def O0(C:cp)(m:Str)(sp:Sp)(dvs:List V)(E:XK)(ta:TE)(t:TA):TE:=λZ H Q=>ta Z H λx H1=>∃a dx fs,x=.ref a/\H1 a=ap (.ins C dx fs)/\fs.lookup m=ca/\
 t Z H1 λg H2=>sp (x::(g++dvs)) H2 Q E
def T1(C:cp)(sp:Sp)(dvs:List V)(E:XK)(t:TA):TE:=λZ H Q=>t Z H λg H1=>∀x dx,H1 x=ca->H1 dx=ca->dx≠x->
 sp (.ref x::(g++dvs)) (upd (upd H1 dx<|.own x) x<|.ins C dx []) (λv H2=>v=.non/\Q (.ref x) H2) E
def Binds(K:UP)(fd:gp)(ps:abY)(ds:abZ):Prop:=
 ∀(s:cb)(us:abZ),K.In s.heap->(us++ds).length=ps.length->abi s fd #[us,[]] (ps.zip (us++ds))
theorem Binds.all(h:∀us:List ax,us.length=ps.length->abn fd #[us,[]]=pure (ps.zip us)):Binds K fd ps []:=λs us _ g=>by
 rw[VD]at g ⊢;exact .of_eq (h us g)
def bX(CX:qd)(X:Cx)(E:XK):Prop:=∀(abP:ab4)(Z:St)(H:Hp)(s:cb)(e:ax)(s':cb),Inv X abP Z H s->CX X.stack H s E e s'->X.xe e s'
theorem xx(F:FnOk X.prog X.w X.K X.mg X.base CX k f fd ps sp)(z:Room k X.A)(v:Binds X.K fd ps ds)(q:Vals dvs ds)(y:bX CX X E)(I:Inv X abP Z H s)(r:Vals vs us)(h:sp (vs++dvs) H Q E):eg (eH X.prog X.w) X.A (call (.ref f) us) (EP X abP Z Q) X.xe s:=by
 have j:Vals (vs++dvs) (us++ds):=r.append q;have n:(us++ds).length=ps.length:=by rw[<- j.length];exact F.len _ _ _ _ h
 refine wpAny_call (wb (F.run X.A X.stack s H #[us,[]] (us++ds) (vs++dvs) Q E z I.env0 (v s us I.kIn n) j h) λr l g=>?_);cases r with
 |error e=>exact y abP Z H s e l I g
 |ok fl=>
  cases fl with
  |ret u=>exact I.after g
  |next=>exact Wl g
  |brk=>exact Wl g
  |cont=>exact Wl g
theorem BK(F:FnOk X.prog X.w X.K X.mg X.base CX k f fd ps sp)(n:Room k X.A)(y:Gl X x)(l:X.mg x=ap (.ref f))(z:V8 X.K (.ref f)=true)(G:Binds X.K fd ps ds)(v:Vals dvs ds)(j:bX CX X E)(B:PA X (e::es) t)(g:(x==("__debug__":Str))=false:=by decide)(he:cT (e::es) X.env=(cx,fx e X.env)::cT es X.env:=by rfl)(hpl:(ix pos<|starEach es X.env).any (·.1)=false:=by rfl):
  PE X (.Call (.Name x p) (e::es) [] pos) (TR sp dvs E t):=by
 intro abP s Z H Q I h;exact mm (je I y l (YJ (h₀:=X.base) I.ok.mod.kin z (bv (B pos abP s Z H _ I h)<|by rintro us L ⟨J,H1,I1,r,q⟩;exact#[I1.kIn,xx F n G v j I1 r q]) he hpl) g)
theorem JA(R:PE X o ta)(c:Cls X.K C)(j:Meth X.K C m f)(F:FnOk X.prog X.w X.K X.mg X.base CX k f fd ps sp)(L:Room k X.A)(T:Binds X.K fd ps ds)(O:Vals dvs ds)(J:bX CX X E)(S:PA X (e::es) t)(g:cT (e::es) X.env=(cx,fx e X.env)::cT es X.env:=by rfl)(hpl:(ix pos<|starEach es X.env).any (·.1)=false:=by rfl)(ht:fx (.Call (.Attribute o m abU) (e::es) [] pos) X.env=(do
   let ov <- fx o X.env
   G' abU.atName
   let (f,first) <- o4 [ov] (z4 ov m pl)
   aa7 pos f first (ix pos<|starEach (e::es) X.env) (pt pos<|keywordEach [] X.env)):=by rfl):
  PE X (.Call (.Attribute o m abU) (e::es) [] pos) (O0 C m sp dvs E ta t):=by
 intro abP s Z H Q I h;refine W.methodCall_KW (pl:=pl) (bv (R abP s Z H _ I h) λu B v=>?_) ht;obtain⟨x,H1,I1,n,a,dx,fs,G,y,l,q⟩:=v;subst G;obtain rfl:u=Vn a:=n;refine oa I1 y c j l ?_;refine YJ (first:=[.ref a]) (h₀:=X.base) I.ok.mod.kin j.kp (bv (S pos abP B Z H1 _ I1 q) λus s2 ⟨vs,H2,I2,r,z⟩=>#[I2.kIn,?_]) g hpl
 exact xx (us:=.ref a::us) (vs:=.ref a::vs) F L T O J I2 (.cons rfl r) z
theorem Ic(L:PE X o ta)(c:Cls X.K C)(g:Meth X.K C m f)(F:FnOk X.prog X.w X.K X.mg X.base CX k f fd ps sp)(G:Room k X.A)(O:Binds X.K fd ps ds)(J:Vals dvs ds)(B:bX CX X E)(z:fx (.Call (.Attribute o m abU) [] [] pos) X.env=(do
   let ov <- fx o X.env
   G' abU.atName
   let (f,first) <- o4 [ov] (z4 ov m pl)
   aa7 pos f first (ix pos<|starEach [] X.env) (pt pos<|keywordEach [] X.env)):=by rfl):
  PE X (.Call (.Attribute o m abU) [] [] pos) (O0 C m sp dvs E ta TC):=by
 intro abP s Z H Q I h;refine W.methodCall_KW (pl:=pl) (bv (L abP s Z H _ I h) λu R n=>?_) z;obtain⟨x,H1,I1,j,a,dx,fs,y,v,l,q⟩:=n;subst y;obtain rfl:u=Vn a:=j;refine oa I1 v c g l ?_;exact W.callWith_K0 (first:=[.ref a]) I1.kIn g.kp (xx (us:=[.ref a]) (vs:=[.ref a]) F G O J B I1 (.cons rfl .nil) q)
structure Mk(K:UP)(C f:cp):Prop where
 makes:X7 K C=true
 init:VE K (.ref C) "__init__"=ap (ap<|.ref f)
 fn:W.isFn K (.ref f)=true
 kp:V8 K (.ref C)=true
theorem Jg(M:Mk X.K C f)(F:FnOk X.prog X.w X.K X.mg X.base CX k f fd ps sp)(O:Room (k+1) X.A)(J:Binds X.K fd ps ds)(G:Vals dvs ds)(L:bX CX X E)(I:Inv X abP Z H s)(r:Vals vs us)(h:∀x dx,H x=ca->H dx=ca->dx≠x->sp (.ref x::(vs++dvs)) (upd (upd H dx<|.own x) x<|.ins C dx []) (λv H2=>v=.non/\Q (.ref x) H2) E):
  eg (eH X.prog X.w) X.A (call (.ref C) us) (EP X abP Z Q) X.xe s:=by
 have j:=h _ _ (I.hok.fresh<|XR _) (I.hok.fresh<|UX _) (Vg<|Nat.lt_succ_self _);have I2:=Jh (C:=C) I;have l:Vals (V.ref (s.heap.objs.size+1)::(vs++dvs)) _:=.cons rfl (r.append G);have y:(Vn (s.heap.objs.size+1)::us++ds).length=ps.length:=by
  have e:=l.length;rw[F.len _ _ _ _ j]at e;exact e.symm
 refine wpAny_call (FN I.kIn M.makes M.init (beq_iff_eq.mp M.fn) (wb (F.run _ _ _ _ _ _ _ _ E (O.make C us [])
  (I2.env0.make C us []) (J _ _ I2.kIn y) l j) λr n g=>?_))
 cases r with
 |error e=>exact L _ Z _ _ e n I2 g
 |ok fl=>
  cases fl with
  |ret u=>
   obtain⟨v,H',I3,B,z,q⟩:=I2.after g;subst z;exact#[B,#[V.ref _,H',I3,rfl,q]]
  |next=>assumption
  |brk=>assumption
  |cont=>assumption
theorem L_(M:Mk X.K C f)(F:FnOk X.prog X.w X.K X.mg X.base CX k f fd ps sp)(n:Room (k+1) X.A)(y:Gl X x)(l:X.mg x=ap (.ref C))(B:Binds X.K fd ps ds)(v:Vals dvs ds)(j:bX CX X E)(z:PA X (e::es) t)(g:(x==("__debug__":Str))=false:=by decide)(he:cT (e::es) X.env=(cx,fx e X.env)::cT es X.env:=by rfl)(hpl:(ix pos<|starEach es X.env).any (·.1)=false:=by rfl):
  PE X (.Call (.Name x p) (e::es) [] pos) (T1 C sp dvs E t):=by
 intro abP s Z H Q I h;exact mm (je I y l (YJ (h₀:=X.base) I.ok.mod.kin M.kp (bv (z pos abP s Z H _ I h)<|by rintro us J ⟨G,H1,I1,r,q⟩;exact#[I1.kIn,Jg M F n B v j I1 r q]) he hpl) g)
structure FnScope(N P:abY)(sc:q0):Prop where
 kind:sc.kind=.function
 co:sc.isCoroutine=cx
 gen:sc.isGenerator=cx
 nd:N.Nodup
 pre:N.take P.length=P
 par:∀x∈P,sc.names.lookup x=ap .local\/sc.names.lookup x=ap .cell
 nofree:∀y∈sc.names,y.2≠.free
theorem qL{x:Str}:∀{binds:List (Str×ax)}{m:ab5},(∀v,(x,v)∉binds)->bindL g binds m x=m x
 |[],_,_=>rfl
 |(n,v)::r,m,h=>by
  unfold bindL;rw[qL λw j=>h w (UY _ j)]
  split
  .have:x≠n:=by rintro rfl;exact h v Vp
   simp[this]
  rfl
theorem qJ{x:Str}:∀{binds:List (Str×ax)}{m:ab5},(∀v,(x,v)∉binds)->bindC g binds m x=m x
 |[],_,_=>rfl
 |(n,v)::r,m,h=>by
  unfold bindC;rw[qJ λw j=>h w (UY _ j)]
  split
  .rfl
  have:x≠n:=by rintro rfl;exact h v Vp
  simp[this]
theorem rb{kindOf:Str->Option W_}{x:Str}{v:ax}:∀{P:abY}{vs:abZ}{i:Nat}{m:ab5},P.Nodup->P[i]?=ap x->vs[i]?=ap v->kindOf x=ap .local->
  bindL kindOf (P.zip vs) m x=ap v
 |[],_,_,_,_,h,_,_=>by simp at h
 |_::_,[],_,_,_,_,h,_=>by simp at h
 |p::P,w::vs,0,m,nd,h1,h2,hk=>by
  simp at h1 h2;subst h1 h2;show bindL _ ((p,w)::P.zip vs) m p=_;unfold bindL;rw[qL λv hv=>(V2.mp nd).1 (WV hv).1,if_pos hk];simp
 |p::P,w::vs,i+1,m,nd,h1,h2,hk=>by
  unfold bindL;exact rb (V2.mp nd).2 (by trivial) (by trivial) hk
theorem r8{kindOf:Str->Option W_}{x:Str}{v:ax}:∀{P:abY}{vs:abZ}{i:Nat}{m:ab5},P.Nodup->P[i]?=ap x->vs[i]?=ap v->kindOf x≠ap .local->
  bindC kindOf (P.zip vs) m x=ap v
 |[],_,_,_,_,h,_,_=>by simp at h
 |_::_,[],_,_,_,_,h,_=>by simp at h
 |p::P,w::vs,0,m,nd,h1,h2,hk=>by
  simp at h1 h2;subst h1 h2;show bindC _ ((p,w)::P.zip vs) m p=_;unfold bindC;rw[qJ λv hv=>(V2.mp nd).1 (WV hv).1,if_neg hk];simp
 |p::P,w::vs,i+1,m,nd,h1,h2,hk=>by
  unfold bindC;exact r8 (V2.mp nd).2 (by trivial) (by trivial) hk
noncomputable def start(N:abY)(vs:List V):St:=vs.map ap++Vl (N.length-vs.length) ca
noncomputable def eZ(CX:qd)(P:eX)(w:gl)(K:UP)(mg:ab5)(base:g3)(N:abY)(abQ:Str)(scope:q0)(f:cp)(cd:ax)(A:f')(outer:List Env)(s:cb)(H:Hp)(E:XK):Cx where
 prog:=P
 w:=w
 K:=K
 mg:=mg
 base:=base
 A:=A.deeper (envOfC abQ scope s.heap.objs.size f cd)
 N:=N
 s₀:=s
 H₀:=H
 env:=envOfC abQ scope s.heap.objs.size f cd
 outer:=outer
 stack:=envOfC abQ scope s.heap.objs.size f cd::outer
 ex:=[]
 calm:=true
 fn:=λ_=>true
 pn:=[]
 xe:=λe l=>eg (eH P w) (A.deeper<|envOfC abQ scope s.heap.objs.size f cd) (leaving (envOfC abQ scope s.heap.objs.size f cd) e) (λ_ g=>CX outer H s E e g) (λj g=>CX outer H s E j g) l
theorem wd{g:q0}(h:g.names.lookup x=ap .cell):∃c,(om n g.names []).lookup x=ap c:=by
 exact Wi.mp (Xm _ n []<|.inl h)
theorem EB(S:FnScope N ps g)(hd:A.handled=ca)(n:Env0 P w K mg base A j s H)(hl:vs.length=ps.length)(r:Vals vs us)(x:InCallC s s.heap.objs.size (bindL (envOfC l g s.heap.objs.size f L).kindOf (ps.zip us) λ_=>ca) (om (s.heap.objs.size+1) g.names []) (bindC (envOfC l g s.heap.objs.size f L).kindOf (ps.zip us) λ_=>ca) U):
  Inv (eZ CX P w K mg base N l g f L A j s H E) [] (start N vs) H U:=by
 have Y:ps.length<=N.length:=by have:=congrArg We S.pre;rw[X0]at this;lia
 obtain⟨J,tk,rfl,R⟩:=x.done;have F:∀b:cp,b∉(eZ CX P w K mg base N l g f L A j s H E).ex:=λb z=>absurd (show b∈[] from z) (by simp)
 refine#[#[n.mod,S.kind,rfl,rfl,UX _,λy z c J B=>?_,λy hy=>?_,λy c _ h=>?_,λ_=>hd,Around.frames_deeper n.frames,.inr #[rfl,rfl],λb z=>absurd z (F b),n.bs,n.bsz,λb _ _=>F b,λb z=>absurd z (F b),n.funs,n.frf],
  rfl,n.bare,Un.kept R,#[_,x.toInCall.ns,λi y v J B h3=>?_],λy c h=>#[_,x.cell y c h],n.hok.fresh (UX _),λy c h=>?_,λp G=>absurd (show p∈[] from G) (by simp),n.hok.kept R,?_]
 .exact name_of_addr x.apart (VL J) (VL B)
 .rcases hy with hy|hy
  .exact wd hy
  exact absurd rfl (S.nofree _<|VL hy)
 .exact Xu (x.above y c<|VL h)
 .have O:i<vs.length:=by
   unfold start at B
   by_cases O:i<vs.length
   .exact O
   rw[V0 (by simpa using O)]at B
   rw[Zv]at B
   split at B<;>cases B
  have ha:vs[i]?=ap v:=by
   unfold start at B;rw[WR (by simp_all)]at B
   cases e:vs[i]?<;>simp_all
  obtain⟨u,T,W⟩:=r.get ha;have G:ps[i]?=ap y:=by
   rw[<- S.pre,List.getElem?_take_of_lt (by lia)];exact J
  have I:ps.Nodup:=by rw[<- S.pre];exact S.nd.sublist (List.take_sublist _ _)
  refine#[u,W,?_];rcases S.par y (VR G) with k|k
  .exact .inl #[k,rb I G T k]
  obtain⟨c,e⟩:=wd k;refine .inr #[.inl k,c,e,?_];have q:=x.cell y c e;rw[r8 I G T (by show g.names.lookup y≠_;rw[k];decide)]at q
  exact q
 .exact n.hok.fresh (Xu<|x.above y c<|VL h)
 unfold start;show _=N.length;rw[Vi,UM,List.length_replicate];lia
theorem Nc{kV:ax}(lk:K.lookup f=ap #[oc,od,.func (Xl name l B body g dV kV U pm an z ct),osl])(hcd:YI K z l=true)(S:FnScope N ps g)(len:∀vs H Q E,sp vs H Q E->vs.length=ps.length)(L:∀(A:f')(j:List Env)(s:cb)(H:Hp)(vs:List V)(Q:VK)(E:XK),Room k (A.deeper<|envOfC l g s.heap.objs.size f z)->sp vs H Q E->
   ∃t,CG (eZ CX P w K mg base N l g f z A j s H E) body t/\t { nx:=λ_ H'=>Q .non H',rt:=Q } (start N vs) H):
  FnOk P w K mg base CX (k+1) f (Xl name l B body g dV kV U pm an z ct) ps sp:=by
 refine#[len,λA j s H args us vs Q E hr R hb r T=>?_];have hl:=len _ _ _ _ T;have KX:K.In s.heap:=R.mod.kin.keeps λb o e=>(R.bs b o e).1;have Y:s.heap.NoLimit:=R.mod.nolimit.keeps λb o e=>(R.bs b o e).1;have G:∀y∈ps.zip us,g.names.lookup y.1=ap .local\/(g.names.lookup y.1=ap .cell/\((om (s.heap.objs.size+1) g.names []).lookup y.1).isSome=true):=λ⟨n,v⟩ hy=>by
  rcases S.par n (WV hy).1 with q|q
  .exact .inl q
  .exact .inr #[q,Xm _ _ _<|.inl q]
 refine codeAny_call_function hr.depth (KX _ _ lk) rfl S.co S.gen rfl (W.codeRec_of KX hcd) (hb _ _ _ _ ?_);refine wpAny_newFunctionEnv_cells S.kind G λenv he s1 x=>?_;subst he;refine#[Y.keeps x.toInCall.keep,codeAny_func ?_];obtain⟨t,ht,hq⟩:=L A j s H vs Q E (hr.deeper _) T;have I:Inv (eZ CX P w K mg base N l g f z A j s H E) [] (start N vs) H s1:=EB S hr.hd R hl r x;refine kc (ht [] s1 (start N vs) H _ I hq) (λfl s' O=>?_) λe s' O=>O;have fin:∀{F:St}{H':Hp}{v:V}{u:ax},Inv (eZ CX P w K mg base N l g f z A j s H E) [] F H' s'->RelV v u->Q v H'->CE j P w H s Q u s':=
  λ{F H' v u} J rv q=>#[v,H',J.os,J.bare,J.base,J.hok,rv,q]
 cases fl with
 |ret u=>
  obtain⟨v,F,H',J,rv,q⟩:=O;exact fin J rv q
 |next=>
  obtain⟨F,H',J,q⟩:=O;exact fin (v:=V.non) (u:=Wo) J rfl q
 |brk=>
  obtain⟨_,_,_,q⟩:=O;exact Wl q
 |cont=>
  obtain⟨_,_,_,q⟩:=O;exact Wl q
section
variable{id:String}{r:List V->Hp->VK->Prop}
def tCB(r:List V->Hp->VK->Prop)(t:TA):TE:=λZ H Q=>t Z H λg H1=>r g H1 Q
theorem IG(F:bw X (.builtin id) r)(y:Gl X x)(v:X.mg x=ca)(B:ff x=ap (.builtin id))(z:PA X (e::es) t)(q:x≠"__name__":=by decide)(hdb:(x==("__debug__":Str))=false:=by decide)(he:cT (e::es) X.env=(cx,fx e X.env)::cT es X.env:=by rfl)(hpl:(ix pos<|starEach es X.env).any (·.1)=false:=by rfl):PE X (.Call (.Name x p) (e::es) [] pos) (tCB r t):=by
 intro abP s Z H Q I h;refine mm (dy I y v B ?_ q hdb);exact PyProof.Rows.callWith_builtin1 (bv (z pos abP s Z H _ I h) λus j ⟨g,H1,I1,n,l⟩=>F abP j Z H1 g us Q I1 n l) he hpl
theorem ED(F:bw X (.type T) r)(y:Gl X x)(v:X.mg x=ca)(B:ff x=ap (.type T))(z:PA X (e::es) t)(q:x≠"__name__":=by decide)(hdb:(x==("__debug__":Str))=false:=by decide)(he:cT (e::es) X.env=(cx,fx e X.env)::cT es X.env:=by rfl)(hpl:(ix pos<|starEach es X.env).any (·.1)=false:=by rfl):PE X (.Call (.Name x p) (e::es) [] pos) (tCB r t):=by
 intro abP s Z H Q I h;refine mm (dy I y v B ?_ q hdb);exact Vt (bv (z pos abP s Z H _ I h) λus j ⟨g,H1,I1,n,l⟩=>F abP j Z H1 g us Q I1 n l) he hpl
end
end _2
namespace HT
open PySem PyProof.Rows
theorem LO(y:IsTup s.heap t vs.toArray)(B:IsTup s.heap b a.toArray)(x:vs≠[])
  (z:a=[]->Q (.ref t) s) (C:a≠[]->Q (.ref s.heap.objs.size) { s with heap:=s.heap.push { cls:=.type "tuple",data:=.seq (vs++a).toArray } })
  (hsz:vs.length+a.length<=sizeLine):eg (eH prog w) A (hG .Add (.ref t)<|.ref b) Q E s:=by
 obtain⟨⟨cls,p,data,o⟩,j,v,n,q⟩:=id y;obtain⟨⟨r,h,m,g⟩,c,i,u,f⟩:=id B;simp only at v q i f;subst v q i f;have e:vs.toArray++a.toArray=(vs++a).toArray:=by simp
 by_cases l:a=[]
 .exact abF #[_,j,rfl] #[_,c,rfl] aba abu XW XN (XD _ _)
   (tuple_addW1 t b vs.toArray a.toArray n u p h o g (by simpa using x)<|by simp[l]) #[j,c,z l]
 .refine abF #[_,j,rfl] #[_,c,rfl] aba abu XW XN (XD _ _)
   (tuple_addW2 t b vs.toArray a.toArray n u p h o g (by simpa using x) (by simpa using l)<|by rw[Ve,Ve];exact hsz) #[j,c,?_]
  rw[e];exact C l
noncomputable def sIx(n d:Nat):Option Int->Nat
 |none=>d
 |some v=>if v<0 then (v+(n:Int)).toNat else min v.toNat n
theorem Iu(n d:Nat):sIx n d ca=d:=rfl
theorem KW(n d k:Nat):sIx n d (ap (k:Int))=min k n:=by
 rfl
theorem sIx_le(n d:Nat)(a:d<=n)(o:Option Int):sIx n d o<=n:=by
 cases o with
 |none=>exact a
 |some v=>
  show (if v<0 then (v+n).toNat else min _ n)<=n
  lia
theorem Ba(v:Int)(n d:Nat):(if v<0 then max (v+(n:Int)) 0 else min v (n:Int))=((sIx n d (ap v):Nat):Int):=by
 show (if v<0 then max _ 0 else min v _)=(if v<0 then (v+(n:Int)).toNat else min v.toNat n)
 lia
theorem xH(b a:Option Int)(n:Nat):Yo b a 1 (n:Int)=(((sIx n 0 b:Nat):Int),((sIx n n a:Nat):Int)):=by
 refine Prod.ext ?_ ?_
 .cases b with
  |none=>rfl
  |some v=>exact Ba v n 0
 cases a with
 |none=>rfl
 |some v=>exact Ba v n n
theorem xX(i j:Nat):Xf (i:Int) (j:Int) 1=j-i:=by
 unfold Xf
 split<;>lia
theorem oH(p:W' v o)(h:Q o s):eg (eH prog w) A (Builtin.Slice.slicePartIndex v) Q E s:=by
 cases p with
 |none=>exact slicePart_none h
 |int i t=>exact slicePart_int h
theorem fg{Q:Int×Int×Nat->cb->Prop}(m:s.heap.IsSliceOf f g i .none)(pl:W' g a)(l:W' i e)
  (h:Q (((sIx n 0 a:Nat):Int),1,sIx n n e-sIx n 0 a) s):eg (eH prog w) A (Builtin.Slice.sliceApplied (.ref f)<|pure (n:Int)) Q E s:=by
 obtain⟨o,c,j,b⟩:=id m;refine ay (ay<|wpAny_field c b rfl<|wpAny_bind<|wpAny_field c b rfl<|wpAny_bind<|wpAny_field c b rfl<|wpAny_pure ?_);refine ay (slicePart_none ?_);refine ay (oH pl<|wpAny_bind<|oH l<|wpAny_bind<|wpAny_pure ?_);show eg _ _ (match Yo a e 1 _ with|(a,e)=>pure (a,(1:Int),Xf a e 1)) _ _ s
 rw[xH a e n];show eg _ _ (pure _) _ _ s;rw[xX];exact eC h
theorem Ij(xs:ab6)(i k:Nat):((Vc k).filterMap λ(m:Nat)=>xs[((i:Int)+(m:Int)*1).toNat]?).toArray=((xs.toList.drop i).take k).toArray:=by
 have e:(λ(m:Nat)=>xs[(i+(m:Int)*1).toNat]?)=λm=>xs[i+m]?:=by
  funext m;have:(i+(m:Int)*1).toNat=i+m:=by lia
  rw[this]
 rw[e];have:=pick_run xs i k;have a:((λx=>xs[x]?) ∘ λx=>i+x)=λm=>xs[i+m]?:=rfl
 simp_all
theorem jG(f:IsTup s.heap t a)(p:s.heap.IsSliceOf m n o .none)(pl:W' n b)(v:W' o e)
  (x:¬(sIx a.size 0 b=0/\sIx a.size a.size e=a.size))
  (h:Q (.ref s.heap.objs.size) { s with heap:=s.heap.push { cls:=.type "tuple",data:=.seq ((a.toList.drop<|sIx a.size 0 b).take (sIx a.size a.size e-sIx a.size 0 b)).toArray } })
  (hsz:a.size<=sizeLine):eg (eH prog w) A (V_ (.ref t)<|.ref m) Q E s:=by
 have c:sizeOk (.seq ((a.toList.drop<|sIx a.size 0 b).take (sIx a.size a.size e-sIx a.size 0 b)).toArray):=by
  show ((a.toList.drop _).take _).toArray.size<=sizeLine;rw[Ve,X0,List.length_drop,Wm];lia
 obtain⟨r,g,l,u⟩:=id p;have j:s.TypeIs (.ref m) _:=#[r,g,l];unfold V_
 try with_reducible refine kr ?_
 refine ay (wpAny_sequenceKey f.typeIs (by decide) ?_)
 refine ay (wpAny_callSpecial?_slot f.typeIs VN
  (kl VN f.typeIs entry_tuple_getitem ?_<|args_tuple_getitem _ _))
 show eg _ _ (Yk _ >>= _) _ _ s;refine ay (tupleItemsOf_ f ?_);refine ay (UV j ?_);refine ay (fg p pl v ?_);have i:¬((((sIx a.size 0 b):Int)==0&&(1:Int)==1&&(sIx a.size a.size e-sIx a.size 0 b)==a.size)=true):=by
  intro q;rw[VM,VM]at q;have y:=eq_of_beq q.1.1;have z:=eq_of_beq q.2;exact x #[by lia,by lia]
 show eg _ _ (if (((sIx _ 0 b):Int)==0&&1==1&&(sIx _ _ e-sIx _ 0 b)==a.size)=true then _ else _) _ _ s
 rw[if_neg i,Ij]
 first
  |exact ay (p3 (eC #[_,rfl,eC h]) c)
  |rfl
  |rfl
  |rfl
end HT
namespace _2
open PySem PySem.Spec PyProof.Rows
variable{xs:List (List aD×cp×ax)}{abV:abZ}{n:Nat}{α:Type}{u:ax}
abbrev TO:=St->Hp->(Option Int->Hp->Prop)->Prop
def PO(X:Cx)(e:Option fv)(t:TO):Prop:=
 ∀(abP:ab4)(s:cb)(Z:St)(H:Hp)(Q:Option Int->Hp->Prop),Inv X abP Z H s->t Z H Q->
  eg (eH X.prog X.w) X.A (evalPart e X.env) (λu c=>∃o H',Inv X abP Z H' c/\W' u o/\Q o H') X.xe s
def Jv:TO:=λ_ H Q=>Q ca H
def TX(t:TE):TO:=λZ H Q=>t Z H λx H1=>∃i,x=.int i/\Q (ap i) H1
section
variable{lo hi:Option fv}
theorem J_:PO X ca Jv:=by
 intro abP s Z H Q I h;exact eC #[_,H,I,.none,h]
theorem Kg(h:PE X e te):PO X (ap e) (TX te):=by
 intro abP s Z H Q I f;refine bv (h _ s Z H _ I f) λu l c=>?_;obtain⟨x,H1,I1,j,g⟩:=c;obtain⟨i,rfl,q⟩:=g;obtain⟨t,rfl⟩:=j;exact#[_,H1,I1,.int i t,q]
def Sk(X:Cx)(r:V->Option Int->Option Int->Hp->VK->Prop):Prop:=
 ∀(abP:ab4)(s:cb)(Z:St)(H:Hp)(x:V)(v vl vu:ax)(lo hi:Option Int)(sl:cp)(Q:VK),Inv X abP Z H s->RelV x v->s.heap.IsSliceOf sl vl vu .none->W' vl lo->W' vu hi->r x lo hi H Q->
  ∃T id,w6 (.type T) "__getitem__"=pure (ap<|.builtin id)/\s.TypeIs v T/\eg (eH X.prog X.w) X.A (V_ v<|.ref sl) (EP X abP Z Q) X.xe s
def tSl(r:V->Option Int->Option Int->Hp->VK->Prop)(te:TE)(tl th:TO):TE:=λZ H Q=>te Z H λx H1=>tl Z H1 λl H2=>th Z H2 λu H3=>r x l u H3 Q
theorem IC(L:Sk X r)(J:PE X e te)(K:PO X lo tl)(G:PO X hi th):PE X (.Subscript e (.Slice lo hi ca p2) pos) (tSl r te tl th):=by
 intro abP s Z H Q I h;refine Subscript_ (bv (J abP s Z H _ I h) λv F ⟨x,H1,I1,y,p⟩=>?_);refine wpAny_Slice (bv (K abP F Z H1 _ I1 p) λf s2 ⟨l,H2,I2,pl,C⟩=>bv (G abP s2 Z H2 _ I2 C) λg c ⟨u,H3,I3,j,B⟩=>?_);rw[evalPart_none];refine eC ?_;have I4:Inv X abP Z H3 { c with heap:=c.heap.push { cls:=.type "slice",data:=.fields (Tw [f,g,.none]) } }:=I3.kept (t':=c.toks) λb M q=>UN _ q;obtain⟨T,id,z,i,m⟩:=L abP { c with heap:=c.heap.push { cls:=.type "slice",data:=.fields (Tw [f,g,.none]) } } Z H3 x v f g l u c.heap.objs.size Q I4 y (Heap.IsSliceOf.new ..) pl j B;show eg (eH X.prog X.w) X.A (subscriptTail e (.Slice lo hi ca p2) v<|.ref c.heap.objs.size) (EP X abP Z Q) X.xe { c with heap:=c.heap.push { cls:=.type "slice",data:=.fields (Tw [f,g,.none]) } };exact tail_any (ops:=[.ref c.heap.objs.size,v]) i z m (by with_unfolding_all rfl)
def pY(xs:List V)(lo hi:Option Int):List V:=(xs.drop<|HT.sIx xs.length 0 lo).take (HT.sIx xs.length xs.length hi-HT.sIx xs.length 0 lo)
theorem lm(xs:List V)(lo hi:Option Int):(pY xs lo hi).length<=xs.length:=by
 unfold pY;rw[X0,List.length_drop];lia
def rSlT(K:UP):V->Option Int->Option Int->Hp->VK->Prop:=λx lo hi H Q=>∃a xs,x=.ref a/\kU K H a xs/\
 ¬(HT.sIx xs.length 0 lo=0/\HT.sIx xs.length xs.length hi=xs.length)/\∀p,H p=ca->Q (.ref p) (upd H p<|.tup<|pY xs lo hi)
theorem Qr:Sk X (rSlT X.K):=by
 rintro abP s Z H x v p y lo hi B Q I h m pl i ⟨a,xs,rfl,g,l,q⟩
 cases h;obtain⟨abV,r,f,j⟩:=I.tuple g;have c:abV.toArray.size=xs.length:=by exact r.length.symm
 refine#[_,_,VN.lookup,f.typeIs,?_];refine HT.jG f m pl i (by rw[c];exact l) ?_ (by simp_all)
 rw[c];refine#[.ref _,_,I.laid (λb z q=>UN _ q) (UX _) ?_,rfl,q _<|I.hok.fresh<|UX _];exact#[Vb (lm xs lo hi) j,_,(r.drop _).take _,#[_,US _ rfl,#[rfl,_,rfl],rfl]]
def U4(K:UP):R2:=λx y H Q=>∃a b xs ys,x=.ref a/\y=.ref b/\kU K H a xs/\kU K H b ys/\xs≠[]/\xs.length+ys.length<=sizeLine/\
 (ys=[]->Q (.ref a) H)/\(ys≠[]->∀p,H p=ca->Q (.ref p) (upd H p<|.tup (xs++ys)))
theorem Vals.nil_iff{xs:List V}(r:Vals xs us):us=[]↔xs=[]:=by
 cases r<;>simp_all
theorem LN:cX X (hG .Add) (U4 X.K):=by
 rintro abP s Z H x y v u Q I h m ⟨a,b,xs,F,rfl,rfl,B,C,g,j,l,p⟩
 cases h;cases m;obtain⟨abV,c,i,_⟩:=I.tuple B;obtain⟨f,r2,p2,_⟩:=I.tuple C;refine HT.LO i p2 (λz=>g (c.nil_iff.mp z)) (λz=>#[.ref a,H,I,rfl,l<|r2.nil_iff.mp z]) (λz=>?_) (by rw[<- c.length,<- r2.length];exact j)
 refine#[.ref _,_,I.laid (λb G q=>UN _ q) (UX _) ?_,rfl,p (λw=>z (r2.nil_iff.mpr w)) _<|I.hok.fresh<|UX _];exact#[by simp_all,_,c.append r2,#[_,US _ rfl,#[rfl,_,rfl],rfl]]
end
noncomputable def uR(n:Nat)(i:Int):Option Nat:=if 0<=i then (if i<n then ap i.toNat else ca) else if -(n:Int)<=i then ap (i+n).toNat else ca
def atI{α:Type}(xs:List α)(i:Int):Option α:=(uR xs.length i).bind λj=>xs[j]?
theorem sD(h:uR n i=ap j):abw i n=ap j/\j<n/\-(n:Int)<=i/\i<n:=by
 unfold uR at h
 by_cases f:0<=i
 .rw[if_pos f]at h
  by_cases c:i<n
  .rw[if_pos c]at h
   have e:=VP h;exact#[by rw[seqIndex_of f c,e],by lia,by lia,c]
  simp_all
 rw[if_neg f]at h
 by_cases c:-n<=i
 .rw[if_pos c]at h
  have e:=VP h;exact#[by rw[abD (by lia) c,e],by lia,c,by lia]
 rw[if_neg c]at h;cases h
theorem sY{xs:List α}(h:atI xs i=ap v):∃j,abw i xs.length=ap j/\xs[j]?=ap v/\j<xs.length/\-(xs.length:Int)<=i/\i<xs.length:=by
 unfold atI at h;cases e:uR xs.length i with
 |none=>simp_all
 |some j=>
  rw[e]at h;obtain⟨c,l,g,f⟩:=sD e;exact#[j,c,h,l,g,f]
def Bo(b:fv):Prop:=∀o i,subscripted b cx o i=operate [o,i] (V_ o i)
def IxR(X:Cx)(r:R2):Prop:=
 ∀(value slice:fv)(abP:ab4)(s:cb)(Z:St)(H:Hp)(x y:V)(v u:ax)(Q:VK),Inv X abP Z H s->RelV x v->RelV y u->r x y H Q->
  subscripted slice cx v u=operate [v,u] (V_ v u)->eg (eH X.prog X.w) X.A (subscriptTail value slice v u) (EP X abP Z Q) X.xe s
def xu(X:Cx)(id:String)(r:V->List V->Hp->VK->Prop):Prop:=
 ∀(abP:ab4)(s:cb)(Z:St)(H:Hp)(x:V)(xs:List V)(v:ax)(us:abZ)(Q:VK),Inv X abP Z H s->RelV x v->Vals xs us->r x xs H Q->
  eg (eH X.prog X.w) X.A (call (.builtin id) (v::us)) (EP X abP Z Q) X.xe s
section
theorem IxR.or(h:IxR X r)(h':IxR X l):IxR X (λx y H Q=>r x y H Q\/l x y H Q):=by
 intro c f abP s Z H x y v u Q I g j q i;rcases q with q|q
 .exact h _ _ _ s Z H x y v u Q I g j q i
 exact h' _ _ _ s Z H x y v u Q I g j q i
theorem Tv(l:IxR X r)(i:PE X a ta)(g:PE X b tb)(j:Bo b):PE X (.Subscript a b pos) (SI r ta tb):=by
 intro abP s Z H Q I h;exact Subscript_ (P3 i g I h λv u s2 x y H2 I2 c f q=>l a b abP s2 Z H2 x y v u Q I2 c f q (j _ _))
def T2(K:UP):R2:=λx y H Q=>∃p xs i v,x=.ref p/\y=.int i/\SqL K H p xs/\atI xs i=ap v/\Q v H
def Sa(K:UP):R2:=λx y H Q=>∃p xs i v,x=.ref p/\y=.int i/\kU K H p xs/\atI xs i=ap v/\Q v H
def Uo:R2:=λx y H Q=>∃z i c,x=.str z/\y=.int i/\z.length<=sizeLine/\atI z.cps.toList i=ap c/\Q (.str #[(Tw [c])]) H
theorem ix_list:IxR X (T2 X.K):=by
 intro m g abP s Z H x y v u Q I M S h B;obtain⟨p,xs,i,z,rfl,rfl,R,N,q⟩:=h;cases M;obtain⟨t,rfl⟩:=S;obtain⟨abV,r,pl,T⟩:=I.list R;obtain⟨j,c,O,W,L,G⟩:=sY N;obtain⟨w,C,f⟩:=r.get O;have J:=r.length;have U:=gx;have fin:EP X _ Z Q w s:=#[z,H,I,f,q]
 by_cases F:0<=i
 .have l:i.toNat=j:=by
   rw[seqIndex_of F G]at c;exact VP c
  exact item_listR pl.isList F (by lia) (by rw[l];simpa using C) fin B
 have l:(i+abV.toArray.size).toNat=j:=by
  rw[abD (by lia) L]at c
  rw[Ve,<- J];exact VP c
 exact abC pl.isList.typeIs slot_list_getitem.lookup
  (wpAny_getItem_list_neg pl.isList (by lia) (by rw[Ve]<;>lia) (by lia) (by rw[l];simpa using C) #[rfl,fin]) B
theorem ix_tup:IxR X (Sa X.K):=by
 intro g f abP s Z H x y v u Q I m L h C;obtain⟨p,xs,i,z,rfl,rfl,J,B,q⟩:=h;cases m;obtain⟨t,rfl⟩:=L;obtain⟨abV,r,pl,N⟩:=I.tuple J;obtain⟨j,l,F,S,O,M⟩:=sY B;obtain⟨w,G,c⟩:=r.get F;have R:=gx;have fin:EP X _ Z Q w s:=#[z,H,I,c,q]
 exact abC pl.typeIs slot_tuple_getitem.lookup
  (getItem_tuple pl (by lia) (by lia) (by rw[Ve,<- r.length];exact l) (by simpa using G) #[rfl,fin]) C
theorem FT:IxR X Uo:=by
 intro f g abP s Z H x y v u Q I p L h G;obtain⟨z,i,c,rfl,rfl,O,C,q⟩:=h;obtain⟨t,rfl⟩:=p;obtain⟨t',rfl⟩:=L;obtain⟨j,l,J,R,M,m⟩:=sY C;have K:z.cps.toList.length=z.length:=by rfl
 rw[K]at l M m;have N:=gx;exact tail_any (typeIs_str s z t) slot_str_getitem.lookup (getItem_str (by
  have F:decide (i < -(2 ^ 63))=false:=decide_eq_false (by lia)
  have B:decide (i>=2 ^ 63)=false:=decide_eq_false (by lia)
  rw[F,B,XT]) (by rw[l];simpa using J) #[.str _,H,I.tok _,#[_,rfl],q]) G
def rIx(K:UP):R2:=λx y H Q=>T2 K x y H Q\/Sa K x y H Q\/Uo x y H Q
theorem OF:IxR X (rIx X.K):=ix_list.or (ix_tup.or FT)
theorem yg(abV:abZ)(n j:Nat)(u:ax):Xe (·.setIfInBounds j u) { cls:=.type "list",data:=.seq abV.toArray n }={ cls:=.type "list",data:=.seq (abV.set j u).toArray n }:=by
 simp[Xe]
theorem Inv.lst{xs:List V}(I:Inv X abP Z H s)(h:H p=ap (.lst xs)):
  ∃(abV:abZ)(n:Nat),Vals xs abV/\s.heap.get? p=ap { cls:=.type "list",data:=.seq abV.toArray n }/\xs.length<=sizeLine:=by
 obtain⟨z,abV,n,r,e⟩:=I.hok p _ h;exact#[_,n,r,e,z]
theorem Inv.lstUpd{xs:List V}(I:Inv X abP Z H s)(h:H p=ap (.lst xs))(ho:s.heap.get? p=ap { cls:=.type "list",data:=.seq abV.toArray n })(hf:f { cls:=.type "list",data:=.seq abV.toArray n }={ cls:=.type "list",data:=.seq its'.toArray n' })(r:Vals ys its')(hz:ys.length<=sizeLine)(t:Nat):
  Inv X abP Z (upd H p<|.lst ys) { s with heap:=s.heap.update p f,toks:=t }:=by
 have e:(s.heap.update p f).get? p=ap { cls:=.type "list",data:=.seq its'.toArray n' }:=by
  rw[Xd f ho (by rw[hf]<;>rfl),hf]
 refine I.write (x:=p) (e:=p) (by rw[h];trivial) (.inl rfl) (λb u hb q=>(ZA _ _<|Vu hb).trans q) #[_,e] ?_
 exact#[hz,its',n',r,e]
def TQ:V->V->V->Hp->(Hp->Prop)->Prop:=λo i v H Q=>∃p xs k j,o=.ref p/\i=.int k/\H p=ap (.lst xs)/\uR xs.length k=ap j/\Q (upd H p<|.lst<|xs.set j v)
theorem FO:Le X TQ:=by
 rintro abP s Z H o i v L K u Q I z C B ⟨p,xs,k,j,rfl,rfl,m,G,q⟩
 cases z;obtain⟨t,rfl⟩:=C;obtain⟨abV,n,r,f,F⟩:=I.lst m;obtain⟨c,M,h,y⟩:=sD G;have x:=r.length;have J:=gx;have I':Inv X _ Z _ _:=
  I.lstUpd m f (yg _ n j u) (r.set B j) (by rw[Wg];exact F) s.toks
 by_cases l:0<=k
 .have g:k.toNat=j:=by
   rw[seqIndex_of l y]at c;exact VP c
  exact W.ki_setAt f l (by lia) (by simp_all) (by rw[g];exact#[_,I',q])
 have g:(k+abV.toArray.size).toNat=j:=by
  rw[abD (by lia) h]at c
  rw[Ve,<- x];exact VP c
 exact W.ki_setBack f (by lia) (by rw[Ve,<- x];exact h) (by lia) (by rw[g];exact#[_,I',q])
theorem rV(f c:Option Int)(n:Nat):(J' f c ca n).1=((HT.sIx n 0 f:Nat):Int)/\(J' f c ca n).2.1=((HT.sIx n n c:Nat):Int)/\(J' f c ca n).2.2=1:=by
 refine#[?_,?_,rfl]
 .cases f with
  |none=>rfl
  |some i=>
   simp[J',HT.sIx,if_true];lia
 cases c with
 |none=>simp[J',HT.sIx]
 |some i=>
  simp only[J',HT.sIx,Option.getD_none,if_true]
  by_cases h:i<0
  .simp only[h,if_true]<;>lia
  simp only[h,if_false]<;>lia
theorem pZ(abV:abZ)(c f:Option Int):slicePick abV.toArray c f ca=((abV.drop<|HT.sIx abV.length 0 c).take (HT.sIx abV.length abV.length f-HT.sIx abV.length 0 c)).toArray:=by
 obtain⟨g,i,h⟩:=rV c f _;unfold slicePick;rw[g,i,h];simp only[sliceRange_one,pick_run]<;>rfl
def rSlL(K:UP):V->Option Int->Option Int->Hp->VK->Prop:=λx c f H Q=>∃a xs,x=.ref a/\SqL K H a xs/\∀p,H p=ca->Q (.ref p) (upd H p<|.lst<|pY xs c f)
theorem CD:Sk X (rSlL X.K):=by
 rintro abP s Z H x v y z l p C Q I h m pl i ⟨a,xs,rfl,g,q⟩
 cases h;obtain⟨abV,r,f,j⟩:=I.list g;have c:=r.length;refine#[_,_,slot_list_getitem.lookup,f.isList.typeIs,?_];refine wpAny_getItem_list_slice f.isList m pl i .none (by simp) ?_ (by simp_all)
 rw[pZ,<- c];refine#[.ref _,_,I.laid (λb B q=>UN _ q) (UX _) ?_,rfl,q _<|I.hok.fresh<|UX _];exact#[Vb (lm xs l p) j,_,0,(r.drop _).take _,US _ rfl]
noncomputable def HN:V->Bool
 |.non=>true
 |.bl _=>true
 |.int _=>true
 |.str _=>true
 |_=>cx
noncomputable def xt:V->V->Bool
 |.non,.non=>true
 |.bl a,.bl b=>a==b
 |.bl a,.int b=>(if a then 1 else 0)==b
 |.int a,.bl b=>a==(if b then 1 else 0)
 |.int a,.int b=>a==b
 |.str a,.str b=>a==b
 |_,_=>cx
theorem Il(f:RelV y u)(c:RelV x v)(fy:HN y=true)(g:HN x=true):X2 A s u v (xt y x):=by
 cases y with
 |non=>
  cases f;cases x with
  |non=>cases c;exact SeqAt.EqAt.same _
  |bl b=>cases c;exact SeqAt.EqAt.none_bool b
  |int b=>obtain⟨t,rfl⟩:=c;exact Zb b t
  |str b=>obtain⟨t,rfl⟩:=c;exact Za b t
  |_=>trivial
 |bl a=>
  cases f;cases x with
  |non=>cases c;exact SeqAt.EqAt.bool_none a
  |bl b=>cases c;exact SeqAt.EqAt.bool_bool a b
  |int b=>obtain⟨t,rfl⟩:=c;exact SeqAt.EqAt.bool_int a b t
  |str b=>obtain⟨t,rfl⟩:=c;exact SeqAt.EqAt.bool_str a b t
  |_=>trivial
 |int a=>
  obtain⟨t',rfl⟩:=f;cases x with
  |non=>cases c;exact Zc a t'
  |bl b=>cases c;exact SeqAt.EqAt.int_bool a t' b
  |int b=>obtain⟨t,rfl⟩:=c;exact SeqAt.EqAt.int_int a t' b t
  |str b=>obtain⟨t,rfl⟩:=c;exact Zk a t' b t
  |_=>trivial
 |str a=>
  obtain⟨t',rfl⟩:=f;cases x with
  |non=>cases c;exact Y9 a t'
  |bl b=>cases c;exact SeqAt.EqAt.str_bool a t' b
  |int b=>obtain⟨t,rfl⟩:=c;exact Zj a t' b t
  |str b=>obtain⟨t,rfl⟩:=c;exact SeqAt.EqAt.str_str a t' b t
  |_=>trivial
 |_=>trivial
theorem sX:bw X (.builtin "len") (λxs H Q=>∃p ys,xs=[.ref p]/\(SqL X.K H p ys\/kU X.K H p ys)/\Q (.int ys.length) H):=by
 rintro abP s Z H xs us Q I r ⟨p,ys,rfl,hq,q⟩
 obtain⟨u,rfl,g⟩:=hZ r;cases g;have i:=gx;rcases hq with hq|hq
 .obtain⟨abV,f,pl,h⟩:=I.list hq
  have c:=f.length;exact Calls.call_len_list pl.isList (by simp<;>lia) #[.int _,H,I.tok _,#[_,by rw[Ve,c]],q]
 obtain⟨abV,f,pl,h⟩:=I.tuple hq;have c:=f.length;exact len_tuple pl (by simp only[Ve]<;>lia) #[.int _,H,I.tok _,#[_,by rw[Ve,c]],q]
theorem rL:bw X (.builtin "len") (λxs H Q=>∃z,xs=[.str z]/\z.length<=sizeLine/\Q (.int z.length) H):=by
 rintro abP s Z H xs us Q I r ⟨z,rfl,f,q⟩
 obtain⟨u,rfl,t,rfl⟩:=hZ r;have c:=gx;exact len_str (by lia) #[.int _,H,I.tok _,#[_,rfl],q]
theorem uw:bw X (.type "list") (λxs H Q=>∃p ys,xs=[.ref p]/\(SqL X.K H p ys\/kU X.K H p ys)/\∀l,H l=ca->Q (.ref l) (upd H l<|.lst ys)):=by
 rintro abP s Z H xs us Q I r ⟨p,ys,rfl,hq,q⟩
 obtain⟨u,rfl,x⟩:=hZ r;cases x
 have fin:∀(abV:List _),Vals ys _->ys.length<=sizeLine->∀(c:g3)(g:Nat),(∀b o',s.heap.get? b=ap o'->c.get? b=ap o')->
   c.get? _=ap _->EP X _ Z Q _ _:=λabV f h c g kp e=>
  #[.ref _,_,I.laid (t':=s.toks) kp (UX _) (show ObjOk _ _ _ c _ (.lst ys) from #[h,abV,g,f,e]),rfl,q _<|I.hok.fresh<|UX _]
 rcases hq with hq|hq
 .obtain⟨abV,f,pl,h⟩:=I.list hq
  have i:=f.length;obtain⟨o,j,v,n,m⟩:=pl.isList;exact call_list_seq p (.inl rfl) j v m (λc g kp e=>fin _ f h c g kp e) (by simp_all)
 obtain⟨abV,f,pl,h⟩:=I.tuple hq;have i:=f.length;obtain⟨o,j,v,n,m⟩:=pl;exact call_list_seq p (.inr rfl) j v m (λc g kp e=>fin _ f h c g kp e) (by simp only[Ve]<;>lia)
theorem iM:bw X (.type "tuple") (λxs H Q=>∃p ys,xs=[.ref p]/\((SqL X.K H p ys/\∀l,H l=ca->Q (.ref l) (upd H l<|.tup ys))\/(kU X.K H p ys/\Q (.ref p) H))):=by
 rintro abP s Z H xs us Q I r ⟨p,ys,rfl,h⟩
 obtain⟨u,rfl,j⟩:=hZ r;cases j;rcases h with⟨f,q⟩|⟨f,q⟩
 .obtain⟨abV,c,pl,g⟩:=I.list f
  have i:=c.length;refine call_tuple_list pl.isList (λm kp=>?_) (by simp_all)
  have I1:Inv X _ Z H _:=I.kept (t':=s.toks) kp;have I2:Inv X _ Z (upd H _<|.tup ys) { s with heap:=m.push { cls:=.type _,data:=.seq _ } }:=
   I1.laid (λb o e=>UN _ e) (UX _) (#[g,_,c,#[_,US _ rfl,#[rfl,_,rfl],rfl]])
  exact#[.ref _,_,I2,rfl,q _<|I1.hok.fresh<|UX _]
 obtain⟨abV,c,pl,g⟩:=I.tuple f;exact call_tuple_same pl #[.ref p,H,I,rfl,q]
def tyV(K:UP)(T:String)(x:V)(H:Hp):Prop:=match x with
 |.str _=>T="str"
 |.int _=>T="int"
 |.ref p=>(T="list"/\∃xs,SqL K H p xs)\/(T="tuple"/\∃o,K.lookup p=ap o/\o.cls=.type "tuple"/\o.dict=ca)\/
   (T="dict"/\((∃abR,H p=ap (.dK abR))\/∃abR,H p=ap (.dT abR)))\/(T="set"/\∃S n,H p=ap (.set S n))
 |_=>False
theorem GB(I:Inv X abP Z H s)(r:RelV x v)(ty:tyV X.K T x H):
  s.TypeIs v T/\∀a,v=.ref a->∃m,s.heap.get? a=ap m/\m.dict=none:=by
 cases x with
 |str z=>
  obtain⟨t,rfl⟩:=r;cases ty;exact#[typeIs_str s z t,λ_ e=>nomatch e]
 |int i=>
  obtain⟨t,rfl⟩:=r;cases ty;exact#[typeIs_int s i t,λ_ e=>nomatch e]
 |ref p=>
  cases r;rcases ty with⟨rfl,xs,q⟩|⟨rfl,o,f,hc,j⟩|⟨rfl,f⟩|⟨rfl,S,n,f⟩
  .obtain⟨abV,_,pl,_⟩:=I.list q
   refine#[pl.isList.typeIs,λa e=>?_];cases e;obtain⟨o,n,e,c,j,_⟩:=pl;exact#[o,e,j]
  .refine#[#[o,I.kIn p o f,hc],λa e=>?_]
   cases e;exact#[o,I.kIn _ o f,j]
  .have z:∃o,s.heap.get? p=ap o/\o.ExactDict:=by
    rcases f with⟨l,f⟩|⟨l,f⟩
    .obtain⟨_,_,_,_,o,_,_,e,g,_⟩:=I.hok p _ f
     exact#[o,e,g]
    obtain⟨_,_,_,_,o,_,_,e,g,_⟩:=I.hok p _ f;exact#[o,e,g]
   obtain⟨o,e,g⟩:=z;refine#[#[o,e,g.1],λa h=>?_];cases h;exact#[o,e,g.2.1]
  obtain⟨o,_,_,_,e,g,_⟩:=I.hok p _ f;refine#[#[o,e,g.1],λa h=>?_];cases h;exact#[o,e,g.2.1]
 |_=>exact Wl ty
def tBM0(K:UP)(T:String)(r:V->List V->Hp->VK->Prop)(to:TE):TE:=λZ H Q=>to Z H λx H1=>tyV K T x H1/\r x [] H1 Q
def tBM(K:UP)(T:String)(r:V->List V->Hp->VK->Prop)(to:TE)(t:TA):TE:=λZ H Q=>to Z H λx H1=>tyV K T x H1/\t Z H1 λxs H2=>r x xs H2 Q
variable{id:String}
theorem Oe(z:V' T)(f:Slot T name id)(g:Y' (.builtin id)=pure (.type "method_descriptor"))(hm:xu X id r)(y:PE X o to)(c:iB o name X.env (fx o X.env)=fx o X.env:=by rfl)(hline:(abU.endLine==abT.line)=true:=by rfl):PE X (.Call (.Attribute o name abU) [] [] abT) (tBM0 X.K T r to):=by
 intro abP s Z H Q I h;refine wpAny_Call_method0_late c hline (bv (y _ s Z H _ I h) λv q m=>?_);obtain⟨x,H1,I1,i,ty,l⟩:=m;obtain⟨j,p⟩:=GB I1 i ty;exact#[T,id,z,f,g,j,p,Ws rfl<|PySem.evalArgs_none<|hm _ q Z H1 x [] v [] Q I1 i .nil l]
theorem SZ(J:V' T)(f:Slot T name id)(g:Y' (.builtin id)=pure (.type "method_descriptor"))(F:xu X id r)(G:PE X o to)(L:PA X (e::es) t)(c:iB o name X.env (fx o X.env)=fx o X.env:=by rfl)(hfew:((ix abT<|starEach (e::es) X.env).all (λx=>!x.1)&&(pt abT<|keywordEach [] X.env).all (λx=>x.1.isSome)
   && decide ((e::es).length+([]:List pa).length+(if ([]:List pa).isEmpty then 0 else 1)<30))=true:=by rfl)(hline:(abU.endLine==abT.line)=true:=by rfl)(hs:cT (e::es) X.env=(cx,fx e X.env)::cT es X.env:=by rfl)(hplain:(ix abT<|starEach es X.env).any (·.1)=false:=by rfl):
  PE X (.Call (.Attribute o name abU) (e::es) [] abT) (tBM X.K T r to t):=by
 intro abP s Z H Q I h;refine abB c hfew hline rfl (bv (G _ s Z H _ I h) λv C m=>?_);obtain⟨x,H1,I1,j,ty,y⟩:=m;obtain⟨l,z⟩:=GB I1 j ty;refine#[T,id,J,f,g,l,z,?_];have i:=L abT _ C Z H1 _ I1 y;rw[hs]at i ⊢;exact Ws (by show (cx||(ix _ _).any _)=cx;rw[hplain]<;>rfl) (WE<|bv i<|by rintro us s2 ⟨p,H2,I2,q,B⟩;exact F _ s2 Z H2 x p v us Q I2 j q B)
end
def MtM(X:Cx)(id:String)(r:V->List V->Hp->VK->Prop):Prop:=
 ∀(abP:ab4)(s:cb)(Z:St)(H:Hp)(x:V)(xs:List V)(v:ax)(us:abZ)(Q:VK),Inv X abP Z H s->RelV x v->Vals xs us->r x xs H Q->
  eg (eH X.prog X.w) X.A (call (.builtin id) (v::us)) (EP X abP Z Q) X.xe s
theorem Vals.one:∀{x:V}{us:abZ},Vals [x] us->∃u,us=[u]/\RelV x u
 |_,_,h=>by cases h with|cons r q=>cases q;exact#[_,rfl,r]
theorem Vals.two:∀{x y:V}{us:abZ},Vals [x,y] us->∃u v,us=[u,v]/\RelV x u/\RelV y v
 |_,_,_,h=>by cases h with|cons r q=>cases q with|cons q z=>cases z;exact#[_,_,rfl,r,q]
theorem Vals.zero:∀{us:abZ},Vals [] us->us=[]
 |_,.nil=>rfl
theorem Vals.dropLast{xs:List V}(h:Vals xs us):Vals xs.dropLast us.dropLast:=by
 induction h with
 |nil=>exact .nil
 |cons r t ih=>
  cases t with
  |nil=>exact .nil
  |cons q t'=>exact .cons r ih
theorem Vals.eraseIdx:∀{xs:List V}{us:abZ}(i:Nat),Vals xs us->Vals (xs.eraseIdx i) (us.eraseIdx i)
 |_,_,_,.nil=>.nil
 |_,_,0,.cons _ t=>t
 |_,_,i+1,.cons r t=>.cons r (Vals.eraseIdx i t)
theorem Vals.reverse{xs:List V}(h:Vals xs us):Vals xs.reverse us.reverse:=by
 induction h with
 |nil=>exact .nil
 |cons r t ih=>rw[Yu,Yu];exact Vals.append ih (.cons r .nil)
theorem Vals.rep{xs:List V}(h:Vals xs us):∀k:Nat,Vals (Vl k xs).flatten (Vl k us).flatten
 |0=>.nil
 |k+1=>by
  exact Vals.append h (Vals.rep h k)
theorem R7(l:List α):l.eraseIdx (l.length-1)=l.dropLast:=by
 simp_all
theorem rl{α:Type}:∀(l:List α)(i:Nat),(l.eraseIdx i).length<=l.length
 |[],_=>UX _
 |_::_,0=>XR _
 |_::r,i+1=>Nat.succ_le_succ (rl r i)
section
variable{xs:List V}
theorem Inv.lset(I:Inv X abP Z H s)(hH:H l=ap (.lst xs))(e:s.heap.get? l=ap { cls:=.type "list",data:=.seq abV.toArray n })(hf:f abV.toArray=its'.toArray)(hv:Vals ys its')(hz:ys.length<=sizeLine):
  Inv X abP Z (upd H l<|.lst ys) { s with heap:=s.heap.update l (Xe f),toks:=t' }:=by
 have q:=PySem.IsL.update e f;rw[hf]at q;refine I.write (by rw[hH];exact trivial) (.inl rfl) (λb' u hb hu=>(ZA _ _<|Vu hb).trans hu) #[_,q] ?_
 exact#[hz,_,_,hv,q]
theorem Inv.lnew(I:Inv X abP Z H s)(c:Vals ys abV)(f:ys.length<=sizeLine):
  Inv X abP Z (upd H s.heap.objs.size<|.lst ys) { s with heap:=s.heap.push { cls:=.type "list",data:=.seq abV.toArray },toks:=t' }:=
 I.laid (λ_ _ q=>UN _ q) (UX _) #[f,_,0,c,US _ rfl]
theorem Inv.fresh(I:Inv X abP Z H s):H s.heap.objs.size=none:=I.hok.fresh (UX _)
theorem Inv.lstM(I:Inv X abP Z H s)(c:H l=ap (.lst xs)):xs.length<=sizeLine/\∃(abV:abZ)(n:Nat),Vals xs abV/\xs.length=abV.length/\s.heap.get? l=ap { cls:=.type "list",data:=.seq abV.toArray n }:=by
 obtain⟨z,abV,n,r,e⟩:=I.hok l _ c;exact#[z,_,n,r,r.length,e]
end
def Ls:V->List V->Hp->VK->Prop:=λx c H Q=>∃l xs y,x=.ref l/\c=[y]/\H l=ap (.lst xs)/\xs.length<sizeLine/\Q .non (upd H l<|.lst (xs++[y]))
theorem EM:MtM X "list.append" Ls:=by
 rintro abP s Z H x j v us Q I f h ⟨l,xs,y,rfl,rfl,c,i,q⟩
 cases f;obtain⟨u,rfl,g⟩:=h.one;obtain⟨z,abV,n,r,m,e⟩:=I.lstM c;refine n7 Yf #[_,e,rfl] F.entry_list_append (F.args_list_append_2 _ _) (aab l _ n u<|by simp_all) #[e,?_]
 refine#[.non,_,I.lset c e (by simp) (r.append<|.cons g .nil) ?_,rfl,q]
 rw[Vi,WA];lia
def rPop:V->List V->Hp->VK->Prop:=λx c H Q=>∃l xs y,x=.ref l/\c=[]/\H l=ap (.lst xs)/\xs[xs.length-1]?=ap y/\Q y (upd H l<|.lst xs.dropLast)
theorem Oz:MtM X "list.pop" rPop:=by
 rintro abP s Z H x p v us Q I h j ⟨l,xs,y,rfl,rfl,g,m,q⟩
 cases h;have f:=j.zero;subst f;obtain⟨z,abV,n,r,B,e⟩:=I.lstM g;obtain⟨u,C,i⟩:=r.get m;have c:abV.toArray[abV.toArray.size-1]?=ap u:=by
  simp_all
 refine n7 Xv #[_,e,rfl] F.entry_list_pop (F.args_list_pop_1 _) (MeetsSeq.list_pop_last l _ n u c<|by rw[Ve];lia) #[e,?_]
 refine#[y,_,I.lset g e ?_ r.dropLast ?_,i,q]
 .simp_all
 rw[List.length_dropLast];lia
def Pm:V->List V->Hp->VK->Prop:=λx c H Q=>∃l xs i k y,x=.ref l/\c=[.int i]/\H l=ap (.lst xs)/\-(2 ^ 63)<=i/\i<2 ^ 63/\abw i xs.length=ap k/\xs[k]?=ap y/\Q y (upd H l<|.lst<|xs.eraseIdx k)
theorem Fx:MtM X "list.pop" Pm:=by
 rintro abP s Z H x G v us Q I g m ⟨l,xs,i,k,y,rfl,rfl,f,j,C,J,p,q⟩
 cases g;obtain⟨u,rfl,h⟩:=m.one;obtain⟨t,rfl⟩:=h;obtain⟨z,abV,n,r,K,e⟩:=I.lstM f;obtain⟨w,B,c⟩:=r.get p
 refine n7 Xv #[_,e,rfl] F.entry_list_pop (F.args_list_pop_2 _ _)
  (MeetsSeq.list_pop_at l _ n i t k w (fitsIndex_both j C) (by simp_all) (by rw[<- Array.getElem?_toList];exact B)<|by rw[Ve];lia) #[e,?_]
 refine#[y,_,I.lset f e ?_ (r.eraseIdx k) ?_,c,q]
 .simp_all
 have:=rl xs k;lia
def J6:V->List V->Hp->VK->Prop:=λx c H Q=>∃l xs,x=.ref l/\c=[]/\H l=ap (.lst xs)/\Q .non (upd H l<|.lst xs.reverse)
theorem yV:MtM X "list.reverse" J6:=by
 rintro abP s Z H x i v us Q I g h ⟨l,xs,rfl,rfl,f,q⟩
 cases g;have c:=h.zero;subst c;obtain⟨z,abV,n,r,j,e⟩:=I.lstM f;refine n7 ZC #[_,e,rfl] F.entry_list_reverse (F.args_list_reverse_1 _) (AutoSeq1.list_reverse_list_0 l _ n<|by simp_all) #[e,?_]
 refine#[.non,_,I.lset f e (by simp) r.reverse ?_,rfl,q]
 rw[List.length_reverse];lia
theorem JU(xs:List α)(k:Nat):(Vl k xs).flatten.length=k*xs.length:=by
 induction k<;>simp_all
section
variable{κ:Type}[DecidableEq κ]
noncomputable def eE(abR:List (κ×V))(k:κ):Option V:=(abR.find? λc=>decide (c.1=k)).map (·.2)
noncomputable def fD(abR:List (κ×V))(k:κ)(v:V):List (κ×V):=
 if (abR.any λc=>decide (c.1=k))=true then abR.map (λc=>if c.1=k then (c.1,v) else c) else abR++[(k,v)]
noncomputable def iT(abR:List (κ×V))(k:κ):List (κ×V):=abR.filter λc=>decide (c.1≠k)
theorem o9{p:κ×V}{r:List (κ×V)}{k:κ}(e:p.1=k):eE (p::r) k=ap p.2:=by simp[eE,e]
theorem pG{p:κ×V}{r:List (κ×V)}{k:κ}(e:¬p.1=k):eE (p::r) k=eE r k:=by simp[eE,e]
theorem xl(k:κ):∀abR:List (κ×V),(abR.any λkv=>decide (kv.1=k))=(eE abR k).isSome
 |[]=>rfl
 |p::r=>by
  rw[Xg]
  by_cases e:p.1=k
  .simp[o9 e,decide_eq_true e,X6]
  rw[pG e,decide_eq_false e];exact xl k r
theorem kN(abR:List (κ×V))(k:κ)(v:V):(fD abR k v).length<=abR.length+1:=by
 unfold fD
 split
 .rw[UM];lia
 simp_all
theorem RelO.isSome_eq{u:Option ax}(r:RelO o u):o.isSome=u.isSome:=by
 cases o with
 |none=>cases u<;>trivial
 |some _=>cases u<;>trivial
theorem KV.val{abR:List (κ×V)}{vs:List (κ×ax)}(r:KV abR vs)(k:κ):RelO (eE abR k) (U' vs k):=by
 unfold KV at r
 induction r with
 |nil=>exact WG
 |@cons p q ps qs h t ih=>
  obtain⟨f,g⟩:=h
  by_cases e:p.1=k
  .have c:q.1=k:=f.symm.trans e
   have b:U' (q::qs) k=ap q.2:=by simp[U',Wx,c]
   rw[o9 e,b];exact g
  .have c:¬q.1=k:=λz=>e (f.trans z)
   have b:U' (q::qs) k=U' qs k:=by simp[U',Wx,c]
   rw[pG e,b];exact ih
theorem KV.any{abR:List (κ×V)}{vs:List (κ×ax)}(r:KV abR vs)(k:κ):(abR.any λkv=>decide (kv.1=k))=vs.any λkv=>decide (kv.1=k):=by
 induction r<;>simp_all
theorem KV.repl{abR:List (κ×V)}{vs:List (κ×ax)}(r:KV abR vs)(k:κ){y:V}(g:RelV y u):
  KV (abR.map λkv=>if kv.1=k then (kv.1,y) else kv) (vs.map λkv=>if kv.1=k then (kv.1,u) else kv):=by
 induction r with
 |nil=>exact .nil
 |@cons p q ps qs h t ih=>
  rw[UR,UR];refine .cons ?_ ih;obtain⟨c,f⟩:=h
  by_cases e:p.1=k
  .rw[if_pos e,if_pos (c.symm.trans e)];trivial
  rw[if_neg e,if_neg (λz=>e (c.trans z))];exact#[c,f]
theorem KV.put{abR:List (κ×V)}{vs:List (κ×ax)}(r:KV abR vs)(k:κ){y:V}(c:RelV y u):KV (fD abR k y) (ZB vs k u):=by
 unfold fD ZB;rw[r.any k]
 by_cases e:(vs.any λf=>decide (f.1=k))=true
 .rw[if_pos e,if_pos e];exact r.repl k c
 rw[if_neg e,if_neg e];exact Paired.snoc r #[rfl,c]
theorem KV.drop{abR:List (κ×V)}{vs:List (κ×ax)}(r:KV abR vs)(k:κ):KV (iT abR k) (without vs k):=by
 unfold iT without
 induction r with
 |nil=>exact .nil
 |@cons p q ps qs h t ih=>
  obtain⟨c,g⟩:=h;rw[Vo,Vo]
  by_cases e:p.1=k
  .have a:¬decide (p.1≠k)=true:=by simp[e]
   have b:¬decide (q.1≠k)=true:=by simp_all
   rw[if_neg a,if_neg b];exact ih
  have f:¬q.1=k:=λz=>e (c.trans z);have a:decide (p.1≠k)=true:=by simp[e]
  have b:decide (q.1≠k)=true:=by simp[f]
  rw[if_pos a,if_pos b];exact .cons #[c,g] ih
theorem KV.length{abR:List (κ×V)}{vs:List (κ×ax)}(r:KV abR vs):abR.length=vs.length:=Wh r
theorem HL(abR:List (κ×V))(k:κ):(iT abR k).length<=abR.length:=VA _ _
end
theorem jp(r:RelV (kV k) u):(aU P w).is k u=true:=by
 cases k with
 |inl i=>obtain⟨t,e⟩:=r;subst e;exact xh P w i t
 |inr x=>obtain⟨t,e⟩:=r;subst e;exact wL P w x t
theorem qU:∀{ks:List aD}{us:abZ},Vals (ks.map kV) us->ItemsAre (aU P w) ks us
 |[],_,r=>by cases r;exact .nil
 |k::ks,_,r=>by
  cases r with
  |cons h t=>exact .cons (jp h) (qU t)
abbrev KT(H:Hp):List (List aD×V)->List (List aD×cp×ax)->Prop:=Wp λp q=>p.1=q.1/\H q.2.1=ap (.tup<|p.1.map kV)/\RelV p.2 q.2.2
theorem KT.val(r:KT H abR xs)(k:List aD):RelO (eE abR k) ((atKey xs k).map (·.2)):=by
 induction r with
 |nil=>trivial
 |@cons p q ps qs h t ih=>
  obtain⟨f,_,g⟩:=h
  by_cases e:p.1=k
  .have c:=f.symm.trans e
   have b:atKey (q::qs) k=ap q.2:=by simp[atKey,c]
   rw[o9 e,b];exact g
  have c:¬q.1=k:=λz=>e (f.trans z);have b:atKey (q::qs) k=atKey qs k:=by simp[atKey,c]
  rw[pG e,b];exact ih
theorem KT.repl(r:KT H abR xs)(k:List aD)(i:RelV y u):
  KT H (abR.map λkv=>if kv.1=k then (kv.1,y) else kv) (xs.map<|putAt k u):=by
 induction r with
 |nil=>exact .nil
 |@cons p q ps qs h t ih=>
  rw[UR];refine .cons ?_ ih;obtain⟨c,g,f⟩:=h;unfold putAt
  by_cases e:p.1=k
  .rw[if_pos e,if_pos (c.symm.trans e)];trivial
  rw[if_neg e,if_neg (λz=>e (c.trans z))];exact#[c,g,f]
theorem KT.put(r:KT H abR xs)(k:List aD)(g:H b=ap (.tup<|k.map kV))(c:RelV y u):
  KT H (fD abR k y) (storedH xs k b u):=by
 have e:(abR.any λf=>decide (f.1=k))=(atKey xs k).isSome:=by
  rw[xl,(r.val k).isSome_eq,Yp]
 unfold fD storedH;rw[e]
 by_cases q:(atKey xs k).isSome=true
 .rw[if_pos q,if_pos q];exact r.repl k c
 rw[if_neg q,if_neg q];exact Paired.snoc r #[rfl,g,c]
theorem KT.keeps(r:KT H abR xs)(c:∀b ys,H b=ap (.tup ys)->H' b=ap (.tup ys)):KT H' abR xs:=
 ib r λ_ _ z=>#[z.1,c _ _ z.2.1,z.2.2]
theorem Nv{u:HO}(ok:HOk P w H h)(e:Rd H a u):ObjOk P w H h a u:=e.ok ok
theorem jc(ok:HOk P w H h)(e:Rd H a (.dK abR)):abR.length<=sizeLine/\(a==mu)=cx/\∃vs,KV abR vs/\h.DictOf (aU P w) a vs:=
 Nv ok e
theorem FK(ok:HOk P w H h)(e:H a=ap (.dK abR)):abR.length<=sizeLine/\(a==mu)=cx/\∃vs,KV abR vs/\h.DictOf (aU P w) a vs:=jc ok (.inl e)
theorem nU(ok:HOk P w H h)(e:H a=ap (.tup<|ks.map kV)):(aa'<|aU P w).is h ks a:=by
 obtain⟨_,abV,r,o,c,⟨g,n,f⟩,_⟩:=(show ObjOk P w H h a (.tup<|ks.map kV) from ok a _ e);exact#[o,abV.toArray,n,c,g,f,by simpa using qU r]
theorem rC(ok:HOk P w H h)(e:Rd H a (.dT abR)):abR.length<=sizeLine/\(a==mu)=cx/\
  ∃xs,KT H abR xs/\h.DictOfH (aa'<|aU P w) a xs:=by
 obtain⟨z,y,xs,r,o,f,i,g,j,B,v,c⟩:=(Nv ok e);refine#[z,y,xs,r,o,f,i,g,j,B,v,λx hx=>?_,c];have all:∀{l:List _}{m:List _},KT H l m->∀x∈m,(aa'<|aU P w).is h x.1 x.2.1:=by
  intro l m q
  induction q with
  |nil=>intro x hx;exact nomatch hx
  |@cons p q ps qs hq t ih=>
   intro x hx;rcases UU.mp hx with e|hx
   .exact nU ok (by simp_all)
   exact ih x hx
 exact all r x hx
theorem TF(ok:HOk P w H h)(e:H a=ap (.dT abR)):abR.length<=sizeLine/\(a==mu)=cx/\
  ∃xs,KT H abR xs/\h.DictOfH (aa'<|aU P w) a xs:=rC ok (.inl e)
def DGet(H:Hp)(a:cp)(y:V)(r:Option V):Prop:=
 (∃abR k,Rd H a (.dK abR)/\y=kV k/\r=eE abR k)\/∃abR k b,Rd H a (.dT abR)/\y=.ref b/\H b=ap (.tup<|k.map kV)/\r=eE abR k
def DPut(H:Hp)(a:cp)(y v:V)(H':Hp):Prop:=
 (∃abR k,H a=ap (.dK abR)/\y=kV k/\abR.length<sizeLine/\H'=upd H a (.dK<|fD abR k v))\/
 ∃abR k b,H a=ap (.dT abR)/\y=.ref b/\H b=ap (.tup<|k.map kV)/\abR.length<sizeLine/\H'=upd H a (.dT<|fD abR k v)
theorem DGet.k{k:aD}(e:H a=ap (.dK abR)):DGet H a (kV k) (eE abR k):=.inl #[_,k,.inl e,rfl,rfl]
theorem DGet.t{k:List aD}(e:H a=ap (.dT abR))(c:H b=ap (.tup<|k.map kV)):DGet H a (.ref b) (eE abR k):=.inr #[_,k,b,.inl e,rfl,c,rfl]
theorem DPut.k{k:aD}(e:H a=ap (.dK abR))(c:abR.length<sizeLine):DPut H a (kV k) v (upd H a<|.dK<|fD abR k v):=.inl #[_,k,e,rfl,c,rfl]
theorem DPut.t{k:List aD}(e:H a=ap (.dT abR))(f:H b=ap (.tup<|k.map kV))(c:abR.length<sizeLine):
  DPut H a (.ref b) v (upd H a<|.dT<|fD abR k v):=.inr #[_,k,b,e,rfl,f,c,rfl]
theorem Inv.big(I:Inv X abP Z H s):mu<s.heap.objs.size:=by
 exact X9 (by decide) ((I.mod.glob.keeps I.bk).lt)
theorem qu(L:A.units+1<l')(I:Inv X abP Z H s)(g:DGet H a y (ap v))(C:RelV y u)(h:∀i F,Inv X abP Z H F->RelV v i->Q i F):
  eg (eH X.prog X.w) A (V_ (.ref a) u) Q E s:=by
 rcases g with⟨j,k,e,x,l⟩|⟨j,k,b,e,x,eb,l⟩
 .subst x
  obtain⟨z,G,J,c,m⟩:=jc I.hok e;obtain⟨i,B,f⟩:=dM (v:=v) (o:=U' J k) (by rw[l];exact c.val k)
  exact wpAny_getItem_of (jp C) m.mapOf B (h i _ (I.tok _) f)
 .subst x
  cases (show u=Vn b from C);obtain⟨z,G,xs,c,m⟩:=rC I.hok e;obtain⟨i,B,f⟩:=dM (v:=v) (o:=(atKey xs k).map (·.2)) (by rw[l];exact c.val k)
  obtain⟨p,K,q⟩:=VT.mp B;refine wpAny_getItem_heap (z6 L) (nU I.hok eb) m K ?_;rw[q];exact h i _ (I.tok _) f
theorem SL(B:A.units+1<l')(I:Inv X abP Z H s)(g:DGet H a y o)(x:RelV y u)(h:∀p,Inv X abP Z H p->Q (.bool o.isSome) p):
  eg (eH X.prog X.w) A (iA .In u<|.ref a) Q E s:=by
 rcases g with⟨f,k,e,m,l⟩|⟨f,k,b,e,m,eb,l⟩
 .subst m
  obtain⟨z,j,C,c,i⟩:=jc I.hok e;refine wpAny_in_of (jp x) j i.mapOf ?_;rw[<- (c.val k).isSome_eq,<- l];exact h _ (I.tok _)
 .subst m
  cases (show u=Vn b from x);obtain⟨z,j,xs,c,i⟩:=rC I.hok e;refine wpAny_in_heap (z6 B) (nU I.hok eb) j i ?_;have q:=(c.val k).isSome_eq;rw[Yp]at q;rw[<- q,<- l];exact h _ (I.tok _)
theorem As(B:A.units+1<l')(I:Inv X abP Z H s)(g:DGet H a y o)(x:RelV y u)(h:∀p,Inv X abP Z H p->Q (.bool<|!o.isSome) p):
  eg (eH X.prog X.w) A (iA .NotIn u<|.ref a) Q E s:=by
 rcases g with⟨f,k,e,m,l⟩|⟨f,k,b,e,m,eb,l⟩
 .subst m
  obtain⟨z,j,C,c,i⟩:=jc I.hok e;refine wpAny_notIn_of (jp x) j i.mapOf ?_;rw[<- (c.val k).isSome_eq,<- l];exact h _ (I.tok _)
 subst m;cases (x);obtain⟨z,j,xs,c,i⟩:=rC I.hok e;refine wpAny_notIn_heap (z6 B) (nU I.hok eb) j i ?_;have q:=(c.val k).isSome_eq;rw[Yp]at q;rw[<- q,<- l];exact h _ (I.tok _)
theorem rN(I:Inv X abP Z H s)(h:UG (H a))(i:VZ a s.heap h')(g:∃q,h'.get? a=ap q)(new:ObjOk X.prog X.w (upd H a c) h' a c):
  Inv X abP Z (upd H a c) { s with heap:=h',toks:=t' }:=
 I.write (x:=a) (e:=a) h (.inl rfl) (λb q f z=>(i.2 b f).trans z) g new
theorem tW(z:abR.length<=sizeLine)(f:(a==mu)=cx)(c:KV abR vs)(dd:h'.DictOf (aU P w) a vs):
  ObjOk P w H' h' a (.dK abR):=#[z,f,vs,c,dd]
theorem qq(hu:A.units+1<l')(I:Inv X abP Z H s)(g:DPut H a y v H')(O:RelV y u)(N:RelV v r)(h:∀M,Inv X abP Z H' M->Q () M):
  eg (eH X.prog X.w) A (abh (.ref a) u r) Q E s:=by
 rcases g with⟨i,k,e,F,l,B⟩|⟨i,k,b,e,F,eb,l,B⟩
 .subst F B
  obtain⟨z,x,W,f,p⟩:=FK I.hok e;have C:W.length<=sizeLine:=by rw[<- f.length];exact z
  have J:(fD i k v).length<=sizeLine:=by have:=kN i k v;lia
  refine wpAny_setItem_pairs (hsz:=C) (jp O) p λL j G=>h _ ?_;have U:∃q,L.get? a=ap q:=let ⟨q,_,_,m,_⟩:=j;#[q,m];exact rN I (by rw[e];exact WG) G U (tW J x (f.put k N) j)
 .subst F B
  cases (show u=Vn b from O);obtain⟨z,x,xs,f,p⟩:=TF I.hok e;have C:xs.length<=sizeLine:=by rw[<- Wh f];exact z
  have J:(fD i k v).length<=sizeLine:=by have:=kN i k v;lia
  refine wpAny_setItem_heap (hsz:=C) (z6 hu) (nU I.hok eb) p λL j G=>h _ ?_;obtain⟨q,S,T,m,Y,h3,h4,_,R⟩:=j;refine rN I (by rw[e];exact WG) G #[q,m] #[J,x,_,(f.put k eb N).keeps λc ys K=>?_,q,S,T,m,Y,h3,h4,R]
  rw[aF (RT K e λz=>nomatch z)];exact K
theorem MW(I:Inv X abP Z H s)(e:H a=ap (.dK abR))(m:RelV (kV k) u)(l:eE abR k=ap v)(B:more=[]\/∃x,more=[x])(h:∀g C,Inv X abP Z (upd H a<|.dK<|iT abR k) C->RelV v g->Q g C):eg (eH X.prog X.w) A (call (.builtin "dict.pop") (.ref a::u::more)) Q E s:=by
 obtain⟨z,J,y,c,p⟩:=FK I.hok e;obtain⟨g,N,j⟩:=dM (v:=v) (o:=U' y k) (by rw[<- l];exact c.val k)
 have G:(keyPart u).isSome=true:=by
  cases k with
  |inl i=>obtain⟨t,q⟩:=(show ∃t,u=Yz i t from m);subst q;rfl
  |inr x=>obtain⟨t,q⟩:=(show ∃t,u=Yy x t from m);subst q;rfl
 have M:abp "dict.pop" #[.ref a::u::more,[]]:=by
  rcases B with q|⟨x,q⟩
  .subst q;exact PySem.F.args_dict_pop_2 _ _
  .subst q;exact Y3 _ _ _
 refine call_meetsIn W5 p.typeIs Zd M (meets_dict_pop_there (aU X.prog X.w) a (jp m) more B G)
  #[y,g,p,by rw[<- c.length];exact z,N,λL f O=>h g _ ?_ j]
 have K:∃q,L.get? a=ap q:=let ⟨q,_,_,hq,_⟩:=f;#[q,hq];exact rN I (by rw[e];exact WG) O K (tW (Vb (HL abR k) z) J (c.drop k) f)
theorem R8(I:Inv X abP Z H s)(e:H a=ap (.dK abR))(f:RelV (kV k) u)(l:eE abR k=ca)(h:∀m,Inv X abP Z H m->Q r m):
  eg (eH X.prog X.w) A (call (.builtin "dict.pop") [.ref a,u,r]) Q E s:=by
 obtain⟨z,v,j,c,g⟩:=FK I.hok e;have p:U' j k=none:=jZ (by rw[<- l];exact c.val k)
 have y:(keyPart u).isSome=true:=by
  cases k with
  |inl i=>obtain⟨t,q⟩:=(show ∃t,u=Yz i t from f);subst q;rfl
  |inr x=>obtain⟨t,q⟩:=(show ∃t,u=Yy x t from f);subst q;rfl
 exact call_meetsIn W5 g.typeIs Zd (Y3 _ _ _) (meets_dict_pop_default (aU X.prog X.w) a (jp f) v y r) #[j,g,p,h _<|I.tok _]
theorem Uf(I:Inv X abP Z H s)(e:Rd H a (.dK abR))(h:∀t f,Inv X abP Z H f->Q (.int abR.length t) f):eg (eH X.prog X.w) A (call (.builtin "len") [.ref a]) Q E s:=by
 obtain⟨z,i,j,c,g⟩:=jc I.hok e;refine call_len_dict i g (by rw[<- c.length];rw[abe]at z;lia) ?_
 rw[<- c.length];exact h _ _ (I.tok _)
theorem wG(I:Inv X abP Z H s)(g:DGet H a y o):s.TypeIs (.ref a) "dict":=by
 rcases g with⟨c,k,e,_,_⟩|⟨c,k,b,e,_,_,_⟩
 .obtain⟨_,_,h,_,f⟩:=jc I.hok e
  exact f.typeIs
 obtain⟨_,_,xs,_,f⟩:=rC I.hok e;exact f.typeIs
theorem GG(h:g3)(c:mu<h.objs.size):ObjOk P w H (h.push { cls:=.type "dict",data:=.dict (Tw []) }) h.objs.size (.dT []):=
 #[W2 _,beq_eq_false_iff_ne.mpr (Vu<|Vg c),[],.nil,_,_,0,US _ rfl,#[rfl,rfl,rfl],rfl,rfl,List.nodup_nil]
def QS:TE:=λ_ H Q=>∀p,H p=ca->Q (.ref p) (upd H p<|.dT [])
theorem HJ:PE X (.Dict [] [] pos) QS:=λabP s Z H Q I h=>
 wpAny_Dict_empty #[.ref _,_,I.laid (λ_ _ q=>UN _ q) (UX _) (GG _ I.big),rfl,h _<|I.hok.fresh<|UX _]
structure M1(X:Cx)(o:fv)(m:Str)(abU:Pos)(e:fv)(abT:Pos):Prop where
 base:iB o m X.env (fx o X.env)=fx o X.env
 few:((ix abT<|starEach [e] X.env).all (λx=>!x.1)&&(pt abT<|keywordEach [] X.env).all (λx=>x.1.isSome)
  && decide (([e]:ab1).length+([]:List pa).length+(if ([]:List pa).isEmpty then 0 else 1)<30))=true
 line:(abU.endLine==abT.line)=true
 trees:ix abT (cT [e] X.env)=[(cx,fx e X.env)]
structure M2(X:Cx)(o:fv)(m:Str)(abU:Pos)(e f:fv)(abT:Pos):Prop where
 base:iB o m X.env (fx o X.env)=fx o X.env
 few:((ix abT<|starEach [e,f] X.env).all (λx=>!x.1)&&(pt abT<|keywordEach [] X.env).all (λx=>x.1.isSome)
  && decide (([e,f]:ab1).length+([]:List pa).length+(if ([]:List pa).isEmpty then 0 else 1)<30))=true
 line:(abU.endLine==abT.line)=true
 trees:ix abT (cT [e,f] X.env)=[(cx,fx e X.env),(cx,fx f X.env)]
def IsD(H:Hp)(a:cp):Prop:=(∃abR,Rd H a (.dK abR))\/∃abR,Rd H a (.dT abR)
theorem Fu(I:Inv X abP Z H s)(d:IsD H a):
  s.TypeIs (.ref a) "dict"/\(∀b,Vn a=.ref b->∃c,s.heap.get? b=ap c/\c.dict=ca)/\(a==mu)=false:=by
 rcases d with⟨h,e⟩|⟨h,e⟩
 .obtain⟨_,i,l,_,f⟩:=jc I.hok e
  refine#[f.typeIs,λb q=>?_,i];cases q;obtain⟨c,_,_,g,j,_⟩:=f;exact#[c,g,j.2.1]
 obtain⟨_,i,xs,_,f⟩:=rC I.hok e;refine#[f.typeIs,λb q=>?_,i];cases q;obtain⟨c,_,_,g,j,_⟩:=f;exact#[c,g,j.2.1]
def Ov(td ty:TE):TE:=λZ H Q=>td Z H λx H1=>∃a,x=.ref a/\IsD H1 a/\ty Z H1 λy H2=>∃abR k v,H2 a=ap (.dK abR)/\y=kV k/\eE abR k=ap v/\Q v (upd H2 a<|.dK<|iT abR k)
def Qx(td ty tx:TE):TE:=λZ H Q=>td Z H λx H1=>∃a,x=.ref a/\IsD H1 a/\ty Z H1 λy H2=>tx Z H2 λz H3=>∃abR k,H3 a=ap (.dK abR)/\y=kV k/\
 (∀v,eE abR k=ap v->Q v (upd H3 a<|.dK<|iT abR k))/\(eE abR k=ca->Q z H3)
theorem Gh(J:PE X o td)(G:PE X e ty)(m:M1 X o "pop" abU e abT):PE X (.Call (.Attribute o "pop" abU) [e] [] abT) (Ov td ty):=by
 intro abP s Z H Q I h;refine wpAny_Call_method m.base m.few m.line Y1 W5 Zm (bv (J _ s Z H _ I h) λu j g=>?_);obtain⟨x,H1,I1,p,a,F,d,i⟩:=g;subst F;obtain rfl:u=Vn a:=p;obtain⟨t1,t2,_⟩:=Fu I1 d;refine#[t1,t2,?_];rw[m.trees];refine Ws rfl (WE<|Wq (bv (G _ j Z H1 _ I1 i) λL s2 ⟨y,H2,I2,B,_,k,v,q,z,l,C⟩=>W4 ?_));subst z;exact MW I2 q B l (.inl rfl) λK M I3 c=>#[v,_,I3,c,C]
theorem J4(S:PE X o td)(O:PE X e ty)(R:PE X f tx)(m:M2 X o "pop" abU e f abT):PE X (.Call (.Attribute o "pop" abU) [e,f] [] abT) (Qx td ty tx):=by
 intro abP s Z H Q I h;refine wpAny_Call_method m.base m.few m.line Y1 W5 Zm (bv (S _ s Z H _ I h) λu F p=>?_);obtain⟨x,H1,I1,G,a,N,d,q⟩:=p;subst N;obtain rfl:u=Vn a:=G;obtain⟨t1,t2,_⟩:=Fu I1 d;refine#[t1,t2,?_];rw[m.trees];refine Ws rfl (WE<|Wq (bv (O _ F Z H1 _ I1 q) λU s2 ⟨y,H2,I2,i,M⟩=>
  Wq (bv (R _ s2 Z H2 _ I2 M) λj W ⟨z,H3,I3,K,_,k,g,J,L,C⟩=>W4 ?_)))
 subst J;cases l:eE _ k with
 |some v=>exact MW I3 g i l (.inr #[j,rfl]) λT B I4 c=>#[v,_,I4,c,L v l]
 |none=>exact R8 I3 g i l λB I4=>#[z,H3,I4,K,C l]
theorem I0(I:Inv X abP Z H s)(e:Rd H a (.dK abR))(h:∀p i,H p=ca->Inv X abP Z (upd H p<|.dK abR) i->Q (.ref p) i):eg (eH X.prog X.w) A (call (.type "dict") [.ref a]) Q E s:=by
 obtain⟨z,l,x,c,j⟩:=jc I.hok e;exact kt_call_dict l j (by rw[<- c.length];exact z) λv f m=>h _ _ (I.hok.fresh<|UX _) (I.laid (a:=s.heap.objs.size) (o:=.dK abR) (t':=s.toks) (λb q g=>(m.2 b<|Vg<|UQ g).trans (UN _ g)) (UX _)<|tW z (beq_eq_false_iff_ne.mpr<|Vu<|Vg I.big) c f)
end _2
namespace Att
open PySem PySem.W PySem.Calls PyProof.Rows
theorem lC:∀(c:abX)(vs:abZ),WellAll P h vs (c.map WData.int)->aa8 vs c:=by
 intro c
 induction c with
 |nil=>
  rintro vs ⟨⟩
  exact .nil
 |cons n c ih=>
  intro vs w;cases w with
  |cons a b=>
   cases a;exact .cons _ _ (ih _ b)
theorem Ea{l:OpenLaw}(s:l.most=ap n)
  (c:l.row.toRowW.claim.pre args=true) (j:WellAll P h b args):
  ∃a vs e,b=[Vn a]/\args=[WData.list (e.map WData.int)]/\h.get? a=ap { cls:=.type "list",data:=.seq vs.toArray }/\aa8 vs e/\e.length<=n:=by
 have i:WShape.hasAll [] _ _=true:=(pre_splitW c).1;have o:l.pre.holds [] _=true:=(pre_splitW c).2;obtain⟨d,r,rfl,m,q⟩:=hasAllW_cons i;obtain rfl:=hasAllW_nil q;obtain⟨u,rfl,p⟩:=hasW_list m;obtain⟨e,rfl⟩:=items_int p;have f:e.length<=n:=by
  have g:(WTm.not<|.lt (.lit<|.int n)<|.len<|.arg 0).holds [] { args:=[.list (e.map .int)] }=true:=by
   have g:=(holds_andW o).1;rw[s]at g;exact g
  have v:=condW_of g (w_not<|w_lt w_lit<|w_len_list<|w_arg rfl)
  simp_all
 cases j with
 |cons w1 w2=>
  cases w2;cases w1 with
  |list ho hall=>exact#[_,_,e,rfl,rfl,ho,lC e _ hall,f]
theorem D_(l:OpenLaw)(args:List WData):l.row.toRowW.claim.post args (.bool true) args=true:=
 postW_of
  (show WShape.has [] _ _=true by rfl)
  (w_eq_bool (w_res rfl) w_lit) rfl
theorem vK{l:OpenLaw}
  (T:l.most=ap n) (z:d.params.defaults=[])
  (call:∀(w:gl)(c b:cb)(u A:ab5)(fa:cp)(o:Obj)(B s g:ax)(a:cp)(vs:abZ)(p:abX),
   Ground q loose [] XP w c u A b.heap->YP w b.heap->
   b.heap.get? fa=ap o->o.data=.func (docDef d.name d.params d.body d.scope B s g)->b.heap.CodeRec s d.name->u d.name=ap (.ref fa)->
   b.heap.get? a=ap { cls:=.type "list",data:=.seq vs.toArray }->aa8 vs p->p.length<=n->b.gens=(Tw [])->
   x9 (eH l.prog w) aa6 (.call (.ref fa) #[[.ref a],[]]) (λr m=>r=.ok (.ret<|.bool true)/\OldK b.heap m.heap/\m.os=b.os/\L' m.gens) b):
  WalkO q loose XP YP l.row.toRowW d [] (λf vs=>ZX f vs):=by
 intro w c b u A G Y fa o B s g O kV J N v F x L E C U h H K y P;obtain rfl:O=.none:=Dflts.none F z;obtain rfl:kV=.none:=Dflts.noKw F;obtain⟨a,vs,p,rfl,rfl,j,e,i⟩:=Ea T h y;refine enter_call (wb (call w c b u A fa o B s g a vs p G Y J (fd_plain N) v x j e i L) λr m R=>?_);obtain⟨rfl,Q,S,M⟩:=R;exact#[.inl #[.bool true,.bool true,[],rfl,λ_=>rfl,.bool true,D_ l _,λ_=>#[Y5,λ_ I=>(nomatch I)]],Q,S,M]
end Att
namespace _2
open PySem PySem.Spec PyProof.Rows
variable{a l:cp}{A:f'}{items:ab6}{b f1:Bool}{h h':g3}{args:List (Bool×cp)}{fp:ab0}{i j n:Nat}{s:cb}{x:Str}{α:Type}{K:UP}{f0:ax}{w:gl}{F:ZS->Option ax}
theorem dN:∀{vs:abZ}{c:abX},aa8 vs c->Vals (c.map V.int) vs:=by
 intro vs c h
 induction h with
 |nil=>exact .nil
 |cons n t _ ih=>exact .cons #[t,rfl] ih
def FG(H:Hp):Prop:=∀b,H b=ca\/∃o xs,H b=ap (.frz o<|.lst xs)
theorem Jf(KX:K.In c.heap)(O:c.heap.Ns eT R)(g:c.heap.Ns abm mb)(hbb:∀x:Str,x≠"__name__"->mb x=ff x)(T:c.heap.NoLimit)(hg:c.gens=(Tw []))(U:c.heap.get? a=ap { cls:=.type "list",data:=.seq vs.toArray })(hi:aa8 vs ns)(hl:ns.length<=sizeLine)(hr:Room k aa6)(F:∀base:g3,K.In base->base.Ns eT R->FnOk P w K R base CX k fa fd [x] sp)(hbind:∀(s:cb)(u:ax),abi s fd #[[u],[]] [(x,u)])(hsp:∀H:Hp,FG H->SqL K H a (ns.map V.int)->sp [.ref a] H (λv _=>v=.bl true) λ_ _ _=>False)(hCX:∀H e p,CX [] H c (λ_ _ _=>False) e p->False):
  x9 (eH P w) aa6 (.call (.ref fa) #[[.ref a],[]]) (λr p=>r=.ok (.ret<|.bool true)/\OldK c.heap p.heap/\p.os=c.os/\L' p.gens) c:=by
 have rv:=dN hi;have I:=hi.length
 -- from an abstract heap in which nothing but the script may be tracked
 have y:∀H:Hp,FG H->SqL K H a (ns.map V.int)->HOk P w H c.heap->(∀b,H b≠ca->b=a)->(H a≠ca->K.lookup a=ca)->
   x9 (eH P w) aa6 (.call (.ref fa) #[[.ref a],[]]) (λr p=>r=.ok (.ret<|.bool true)/\OldK c.heap p.heap/\p.os=c.os/\L' p.gens) c:=by
  intro H hO hS N hA hK;have f:∀{b:cp}{o:Obj},c.heap.get? b=ap o->H b=ca->(ui c.heap H).get? b=ap o:=λe n=>J1 e n;have Y:∀{b:cp}{o:Obj}{C:Array abc}{L:Nat},c.heap.get? b=ap o->o.data=.dict C L->H b=none:=λ{b o C L} e d=>by
   cases q:H b with
   |none=>rfl
   |some u=>
    have W:b=a:=hA b (by rw[q];simp)
    subst W;rw[U]at e;cases e;have d':Data.seq vs.toArray _=Data.dict C L:=d;cases d'
  have nsK:∀{b:cp}{m:ab5},c.heap.Ns b m->(ui c.heap H).Ns b m:=λ{b m} ⟨o,C,L,e,d,r⟩=>#[o,C,L,f e (Y e d),d,r];have J:K.In (ui c.heap H):=λb o e=>f (KX b o e) (by
   cases q:H b with
   |none=>rfl
   |some u=>
    have W:b=a:=hA b (by rw[q];simp)
    subst W;rw[hK (by rw[q];simp)]at e;cases e)
  have hM:Mod K R (ui c.heap H):=#[J,nsK O,#[mb,nsK g,hbb],let ⟨mc,h1,h2⟩:=T;#[mc,nsK h1,h2]];have e0:Env0 P w K R (ui c.heap H) aa6 [] c H:=#[rfl,hM,λb o e=>JY e,ZN (DJ _ _),trivial,λb g=>absurd (show b∈([]:ab0) from g) (by simp),N,.of_eq hg]
  refine wb ((F _ J<|nsK O).run aa6 [] c H #[[.ref a],[]] [.ref a] [.ref a] _ _ hr e0 (hbind c<|.ref a) (.cons rfl .nil)<|hsp H hO hS) λr p h=>?_;cases r with
  |error e=>exact(hCX H e p h).elim
  |ok fl=>
   cases fl with
   |next=>exact Wl h
   |brk=>exact Wl h
   |cont=>exact Wl h
   |ret u=>
    obtain⟨v,H',os,G,un,B,r',q⟩:=h;have q':v=.bl true:=q;subst q';obtain rfl:u=ZZ true:=r';refine#[rfl,OldK.of_keep λb o e=>?_,os,G];cases q:H b with
    |none=>exact un.keep b o e q (by intro z;exact absurd (show b∈([]:ab0) from z) (by simp)) (by simp)
    |some u=>
     rcases hO b with z|⟨ob,xs,z⟩
     .rw[q]at z;cases z
     .have z2:=un.frzs b ob _ z
      obtain⟨e1,_⟩:=N b _ z;obtain⟨e2,_⟩:=B b _ z2;rw[e]at e1;cases e1;exact e2
 cases hk:K.lookup a with
 |some o=>
  -- the script is one of the module's own objects
  have e:=KX a o hk;rw[U]at e;cases e;refine y (λ_=>ca) (λ_=>.inl rfl) (.inr #[_,vs.toArray,_,hk,rfl,rfl,rfl,by rw[Ve,I];exact hl,by simpa using rv]) (λb u z=>by have M:(none:Option HO)=ap u:=z;cases M) (λb z=>absurd rfl z) λz=>absurd rfl z
 |none=>
  refine y (λb=>if b=a then ap (.frz { cls:=.type "list",data:=.seq vs.toArray }<|.lst<|ns.map V.int) else ca) (λb=>?_) (.inl<|.inr #[{ cls:=.type "list",data:=.seq vs.toArray },if_pos rfl]) (λb u z=>?_) (λb z=>?_) λ_=>hk
  .by_cases g:b=a
   .exact .inr #[_,_,if_pos g]
   .exact .inl (if_neg g)
  .by_cases g:b=a
   .have M:=(if_pos g).symm.trans z
    cases M;subst g;exact#[U,by rw[UM];exact hl,vs,_,rv,U]
   .have M:=(if_neg g).symm.trans z
    cases M
  .by_cases g:b=a
   .exact g
   .exact absurd (if_neg g) z
theorem LU{l:W.OpenLaw}{K:Params->UP}{CX:gl->qd}{sp:gl->Sp}(hn:l.most=ap n)(O:n<=sizeLine)(J:d.params.defaults=[])(hr:Room k aa6)(hY:∀(w:gl)(h:g3),YP w h->(K w.params).In h)(F:∀(w:gl)(r:ab5)(fa:cp)(h:g3),(K w.params).In h->h.Ns eT r->r d.name=ap (.ref fa)->
   ∃fd:gp,(∀(s:cb)(u:ax),abi s fd #[[u],[]] [(x,u)])/\
    ∀c:g3,(K w.params).In c->c.Ns eT r->FnOk l.prog w (K w.params) r c (CX w) k fa fd [x] (sp w))(M:∀(w:gl)(H:Hp)(a:cp)(C:abX),C.length<=n->FG H->SqL (K w.params) H a (C.map V.int)->sp w [.ref a] H (λv _=>v=.bl true) λ_ _ _=>False)(N:∀(w:gl)(H:Hp)(s:cb)(e:ax)(L:cb),CX w [] H s (λ_ _ _=>False) e L->False):
  W.WalkO q loose XP YP l.row.toRowW d [] (λf vs=>ZX f vs):=by
 refine Att.vK hn J λw R y r mb fa o pm cd U a vs C G Y ho hd hcd I B p m hg=>?_;have KX:=hY w _ Y;obtain⟨fd,hb,hF⟩:=F w r fa _ KX G.T.g I;exact Jf KX G.T.g G.T.b G.T.builtins G.T.nolimit hg B p (Vb m O) hr hF hb (λH hO hS=>M w H a C m hO hS) λH e L=>N w H y e L
noncomputable def eR(s:ol)(j:Nat):Stmt:=match s with
 |.ClassDef _ _ _ body _ _ _ _ _ _ _=>body.getD j (.Pass #[0,0,0,0])
 |_=>.Pass #[0,0,0,0]
def cq(s:ol):Arguments:=match s with
 |.FunctionDef _ a _ _ _ _ _ _ _ _=>a
 |_=>{ posonlyargs:=[],args:=[],vararg:=ca,kwonlyargs:=[],kw_defaults:=[],kwarg:=ca,defaults:=[] }
def bC(s:ol):List Stmt:=match s with
 |.FunctionDef _ _ b _ _ _ _ _ _ _=>b
 |_=>[]
def aR(s:ol):Scope:=match s with
 |.FunctionDef _ _ _ _ _ _ sc _ _ _=>sc
 |_=>{ kind:=.function,names:=[],isGenerator:=cx,isCoroutine:=cx }
abbrev CX0:qd:=λ_ _ _ _ _ _=>False
abbrev E0:XK:=λ_ _ _=>False
structure Fun(K:UP)(x abQ:Str)(st:ol)(f:cp)(fd:gp):Prop where
 ex:∃(oc:ax)(od:Option cp)(kV doc pm:ax)(an:Option cp)(cdv ct:ax)(osl:Array (Option ax)),
  fd=Xl x abQ (cq st) (bC st) (aR st) .none kV doc pm an cdv ct/\K.lookup f=ap #[oc,od,.func fd,osl]/\YI K cdv abQ=true
 kp:V8 K (.ref f)=true
theorem Fun.binds(F:Fun K x c m f fd)(h:∀(kV e p:ax)(o:Option cp)(g r:ax)(us:abZ),us.length=q.length->abn (Xl x c (cq m) (bC m) (aR m) .none kV e p o g r) #[us,[]]=pure (q.zip us)):Binds K fd q []:=by
 obtain⟨B,y,kV,e,p,o,g,r,u,rfl,lk,v⟩:=F.ex;exact .all (h kV e p o g r)
theorem ye{kV:ax}(l:K.lookup f=ap #[y,v,.func (Xl x e (cq m) (bC m) (aR m) .none kV o r p g u),q])(c:YI K g e=true)(k:V8 K (.ref f)=true):Fun K x e m f (Xl x e (cq m) (bC m) (aR m) .none kV o r p g u):=#[#[y,v,kV,_,r,p,_,u,_,rfl,l,c],k]
theorem wm(c:Room k A):A.units+1<cLine:=WZ (Nat.add_le_add_left (by decide) _) c.units
theorem DF:bw X (.builtin "len") (λxs H Q=>∃a abR,xs=[V.ref a]/\H a=ap (.dK abR)/\Q (.int abR.length) H):=by
 intro abP s Z H xs g Q I r h;obtain⟨a,abR,rfl,e,q⟩:=h;obtain⟨u,rfl,c⟩:=hZ r;cases c;exact Uf I (.inl e) λt f I'=>#[.int abR.length,H,I',#[t,rfl],q]
theorem rE(I:Nat->cb->Prop)(turn:∀n s,I n s->eg (eH prog w) A (vw it) (λr s₁=>match r with
   |none=>R (.ok .next) s₁
   |some v=>eg (eH prog w) A (WP target it v) (λ_ s₂=>eg (eH prog w) A (abb target env v) (λ_ s₃=>
     eg (eH prog w) A (forIn ifs true λc r=>if r=true then do let ok <- isTrue c env (fx c env);pure (XS ok) else pure (XS r)) (λok s₄=>
      if ok=true then eg (eH prog w) A (fx elt env) (λx s₅=>
       eg (eH prog w) A (call (.builtin "list.append") [abS,x]) (λ_ s₆=>∃m,m<n/\I m s₆) (λ_ _=>False) s₅) (λ_ _=>False) s₄
      else ∃m,m<n/\I m s₄) (λ_ _=>False) s₃) (λ_ _=>False) s₂) (λ_ _=>False) s₁) (λ_ _=>False) s)(n:Nat)(h:I n s):
  x9 (eH prog w) A (.compLoop (.ListComp elt [#[target,iter,ifs,0]] scope pos) 0 it abS env) R s:=by
 refine codeAny_loop rfl I (λn s hI=>?_) n h;show eg _ A _ _ _ s;refine wpAny_noted ?_;rw[compTurn_list];refine ay (XV<|wpAny_bind<|wpAny_mono (turn n s hI) (λr s₁ h₁=>?_)<|by lia)
 cases r with
 |none=>exact eC h₁
 |some v=>
  refine ay (kc h₁ (λ_ s₂ h₂=>ay (kc h₂ (λ_ s₃ h₃=>ay (kc h₃ (λok s₄ h₄=>?_)<|by lia))<|by lia))<|by lia)
  cases ok with
  |false=>exact eC (by trivial)
  |true=>
   exact ay (ay<|wpAny_mono h₄ (λx s₅ h₅=>ay (kc h₅ (λ_ s₆ h₆=>eC (eC<|by trivial))<|by lia))<|by lia)
noncomputable def Rg(X:Cx)(N:abY)(scope:q0)(cl:List (Str×cp))(C:cp)(s₀:cb)(H₀:Hp)(fp:ab0)(pl:ab4):Cx where
 prog:=X.prog
 w:=X.w
 K:=X.K
 mg:=X.mg
 base:=X.base
 A:=X.A
 N:=N
 s₀:=s₀
 H₀:=H₀
 env:=compEnvC scope cl C X.env
 outer:=X.stack
 stack:=X.stack
 ex:=fp
 fn:=λ_=>cx
 calm:=X.calm
 pn:=X.pn++pl
 xe:=λ_ _=>False
inductive Frees(X:Cx)(scope:q0):List Str->List Nat->Prop where
 |nil:Frees X scope [] []
 |cons {x:Str} {j:Nat} {xs:abY} {js:List Nat}:X.N[j]?=ap x->(X.env.kindOf x=ap .cell\/X.env.kindOf x=ap .free)->
   ((K' scope X.env).names.lookup x=ap .cell\/(K' scope X.env).names.lookup x=ap .free)->Frees X scope xs js->Frees X scope (x::xs) (j::js)
theorem Frees.length:∀{xs:abY}{e:List Nat},Frees X c xs e->xs.length=e.length
 |_,_,.nil=>rfl
 |_,_,.cons _ _ _ t=>congrArg _ t.length
theorem Frees.get:∀{xs:abY}{f:List Nat},Frees X e xs f->∀{i:Nat}{x:Str},xs[i]?=ap x->∃j,f[i]?=ap j/\X.N[j]?=ap x/\(X.env.kindOf x=ap .cell\/X.env.kindOf x=ap .free)/\
   ((K' e X.env).names.lookup x=ap .cell\/(K' e X.env).names.lookup x=ap .free)
 |_,_,.nil,i,x,h=>by simp at h
 |_,_,.cons a b c _,0,x,h=>by simp at h;subst h;exact#[_,rfl,a,b,c]
 |_,_,.cons _ _ _ t,i+1,x,h=>by
  obtain⟨j,m,g⟩:=t.get (by simpa using h)
  exact#[j,by trivial,g]
noncomputable def dE(ls:abY)(js:List Nat)(Z:St):St:=ls.map (λ_=>ca)++js.map λj=>(Z[j]?).join
def Rc(X:Cx)(ifs:ab1)(t:TT):Prop:=
 ∀(abP:ab4)(s:cb)(Z:St)(H:Hp)(Q:Bool->Hp->Prop),Inv X abP Z H s->t Z H Q->
  eg (eH X.prog X.w) X.A (forIn ifs true λc r=>if r=true then do let ok <- isTrue c X.env (fx c X.env);pure (XS ok) else pure (XS r)) (TP X abP Z Q) X.xe s
def tAll:TT:=λ_ H Q=>Q true H
theorem Jn:Rc X [] tAll:=λ_ _ _ H _ I h=>wpAny_tests_nil #[H,I,h]
theorem L1(h:PT X c t):Rc X [c] t:=λabP s Z H Q I q=>wpAny_tests_one (h _ s Z H Q I q)
def HB(wi:TI)(ls:abY)(js:List Nat)(g:TG)(tt:TT)(te:TE):TE:=λZ H Q=>wi Z H λJ H1=>∀p,H1 p=ca->∃W:Nat->Nat->St->Hp->Prop,(∃m,W 0 m (dE ls js Z) (upd H1 p<|.lst []))/\∀i m σ' H',W i m σ' H'->
 (J.stop i H'/\Q (.ref p) H')\/(J.go i H'/\∃N:St->Hp->Prop,(∀σ2 H2,N σ2 H2->∃m',m'<m/\W (i+1) m' σ2 H2)/\∀x H2,J.yld i H' x H2->g x σ' H2 λe H3=>tt e H3 λc H4=>
  if c=true then te e H4 λy H5=>∃ys,H5 p=ap (.lst ys)/\ys.length<sizeLine/\N e (upd H5 p<|.lst (ys++[y])) else N e H4)
def Qd(i:Nat)(t:TE):TS:=λD Z H=>t Z H λv H1=>D.nx (Z.set i<|some v) H1
def SrcTn(b:Bool)(it a:cp)(i:Nat)(h:g3):Prop:=if b=true then h.IsListIter it a i else h.IsTupleIter it a i
def SrcSq(b:Bool)(h:g3)(a:cp)(items:ab6):Prop:=if b=true then h.IsList a items else h.IsTuple a items
theorem SrcTn.lt(x:SrcTn b it a i h):∃o,h.get? it=ap o/\∀v,o.data≠.cell v:=by
 cases b with
 |true=>obtain⟨o,e,c,d⟩:=x;exact#[o,e,λv z=>by simp_all]
 |false=>obtain⟨o,e,c,d⟩:=x;exact#[o,e,λv z=>by simp_all]
theorem SrcTn.keep(x:SrcTn b it a i h)(k:∀o,h.get? it=ap o->h'.get? it=ap o):SrcTn b it a i h':=by
 cases b with
 |true=>obtain⟨o,e,r⟩:=x;exact(#[o,k o e,r])
 |false=>obtain⟨o,e,r⟩:=x;exact(#[o,k o e,r])
theorem SrcSq.keep(x:SrcSq b h a items)(k:∀o,h.get? a=ap o->h'.get? a=ap o):SrcSq b h' a items:=by
 cases b with
 |true=>obtain⟨o,e,r⟩:=x;exact(#[o,k o e,r])
 |false=>obtain⟨o,e,r⟩:=x;exact(#[o,k o e,r])
theorem jq{x:ax}(c:s.heap.IsTupleIter it l i)(q:s.heap.IsTuple l items)(r:items[i]?=ap x)(hQ:∀h',h'.IsTupleIter it l (i+1)->VZ it s.heap h'->Q x { s with heap:=h' }):eg (eH prog w) A (VO<|.ref it) Q E s:=by
 obtain⟨o,f,p,e⟩:=id c;obtain⟨u,g,_,v,m⟩:=q
 refine ay (wpAny_callSpecial?_slot c.typeIs WL
  (kl WL c.typeIs Zo ?_<|Ze _))
 show eg _ _ (field _ 0 >>= _) _ _ s;refine ay (j0 f e rfl ?_);refine ay (j0 f e rfl ?_);refine ay (s9 g m ?_);simp[r];exact ay (abj f e (by simp)<|wpAny_pure #[x,rfl,eC<|hQ _ #[_,Xd _ f (ZT<|XB e _),(Obj.cls_mapFields ..).trans p,by
  rw[XB e];simp[ra]]<|Wz ..])
theorem k6(r:A.handled=ca)(c:s.heap.IsTupleIter it l i)(u:s.heap.IsTuple l items)(v:items[i]?=ca)(hE:∀h' e,XJ it s.heap h'->(∃o,h'.get? e=ap o/\o.cls=.type "StopIteration")->E (.ref e) { s with heap:=h' }):eg (eH prog w) A (VO<|.ref it) Q E s:=by
 obtain⟨o,g,C,p⟩:=id c;obtain⟨y,f,_,B,q⟩:=u
 refine ay (wpAny_callSpecial?_slot c.typeIs WL
  (kl WL c.typeIs Zo ?_<|Ze _))
 show eg _ _ (field _ 0 >>= _) _ _ s;refine ay (j0 g p rfl ?_);refine ay (j0 g p rfl ?_);refine ay (s9 f q ?_);simp[v];refine ay (U_<|wpAny_bind<|wpAny_setField g p (by simp) ?_)
 refine ay ?_;refine ay (m:=abk _ _) (F' (by rfl) ?_)
 refine p3 ?_ (by size_fits)
 refine ay (abr ?_)
 first|rw[r]|rw[r]
 exact ay (eC<|wpAny_throw<|hE _ _ (((Wz ..).extBut.push _).push _) #[_,US _ rfl,rfl])
theorem gc{x:ax}(c:SrcTn b it l i s.heap)(e:SrcSq b s.heap l items)(f:items[i]?=ap x)(g:∀h',SrcTn b it l (i+1) h'->VZ it s.heap h'->Q x { s with heap:=h' }):eg (eH prog w) A (VO<|.ref it) Q E s:=by
 cases b with
 |true=>exact wpAny_nextOf_list_item c e f g
 |false=>exact jq c e f g
theorem dQ(m:A.handled=ca)(c:SrcTn b it l i s.heap)(g:SrcSq b s.heap l items)(f:items[i]?=ca)(p:∀h' e,XJ it s.heap h'->(∃o,h'.get? e=ap o/\o.cls=.type "StopIteration")->E (.ref e) { s with heap:=h' }):eg (eH prog w) A (VO<|.ref it) Q E s:=by
 cases b with
 |true=>exact wpAny_nextOf_list_end m c g f p
 |false=>exact k6 m c g f p
noncomputable def j5(b:Bool):String:=if b=true then "list_iterator" else "tuple_iterator"
theorem fU(c:SrcSq b s.heap l items)(e:Q (.ref s.heap.objs.size) { s with heap:=s.heap.push { cls:=.type (j5 b),data:=.fields (Tw [.ref l,.int 0 0]) } }):eg (eH prog w) A (Z_<|.ref l) Q E s:=by
 cases b with
 |true=>exact vr c e
 |false=>exact wpAny_pyIter_tuple c e
theorem CH(e:h.get? it=ap { cls:=.type (j5 b),data:=.fields (Tw [.ref l,.int 0 0]) }):SrcTn b it l 0 h:=by
 cases b with
 |true=>exact(#[_,e,rfl,rfl])
 |false=>exact(#[_,e,rfl,rfl])
theorem yG(c:s.heap.get? a=ap o)(h:Q (ap o) s):eg M A (loadIfAlive a) Q E s:=λΓ p _=>by
 show Sem.wp M Γ (.loadIfAlive a _) _ _ p s;rw[Sem.wp_loadIfAlive,c];exact h
structure ZS where
 b:Bool
 i:cp
 l:cp
abbrev iW(h:g3)(T:cp)(vs:abZ):Prop:=h.get? T=ap { cls:=.type "tuple",data:=.seq vs.toArray }
noncomputable abbrev qf(z TI TO:cp)(S:List ZS):List Addr:=z::TI::TO::S.map ZS.i
structure ZOk(z TI TO:cp)(S:List ZS):Prop where
 nd:(qf z TI TO S).Nodup
 off:∀t∈S,t.l∉qf z TI TO S
 ne:S≠[]
 few:S.length<=3
abbrev pR(h:g3)(z TI TO:cp)(f0:ax)(f1:Bool):Prop:=
 h.get? z=ap { cls:=.type "zip",dict:=ca,data:=.fields (Tw [f0,.bool f1,.bool cx,.ref TI,.ref TO]),slots:=(Tw []) }
def Jl(S:List ZS)(k:Nat)(h:g3):Prop:=∀t∈S,SrcTn t.b t.i t.l k h
theorem ic{α:Type}{f:α->g->Sem (ForInStep g)}{xs:List α}(b:Nat->g)(I:Nat->cb->Prop)
  (m:∀i x s,xs[i]?=ap x->I i s->eg M A (f x<|b i) (λr c=>r=.yield (b (i+1))/\I (i+1) c) E s) (o:∀c,I xs.length c->Q (b xs.length) c):
  ∀(n j:Nat)(s:cb),j+n=xs.length->I j s->eg M A (forIn (xs.drop j) (b j) f) Q E s
 |0,j,s,e,h=>by
  rw[X5 (by lia)]
  have:j=xs.length:=by lia
  subst this;exact eC (o s h)
 |n+1,j,s,e,h=>by
  have p:j<xs.length:=by lia
  rw[XI p,List.forIn_cons];refine ay (kc (m j _ s (by simp) h) (λr c q=>?_) λ_ _ q=>q)
  obtain⟨rfl,q⟩:=q;exact ic b I m o n _ c (by lia) q
theorem n8{TI TO:cp}(D:ZOk z TI TO S):z≠TI/\z≠TO/\TI≠TO/\∀t∈S,t.i≠z/\t.i≠TI/\t.i≠TO:=by
 have:=D.nd;simp only[V2,UU,not_or]at this;obtain⟨⟨a,b,c⟩,⟨d,e⟩,f,g⟩:=this;exact#[a,b,d,λt m=>#[λe=>c (e▸Vq m),λq=>e (q▸Vq m),λe=>f (e▸Vq m)]]
theorem A7{TI TO:cp}(D:ZOk z TI TO S)(c:S[i]?=ap t)(f:S[j]?=ap u)(h:i≠j):t.i≠u.i:=by
 have nd:(S.map ZS.i).Nodup:=by have:=D.nd;simp only[V2]at this;exact this.2.2.2
 intro e;exact h ((List.getElem?_inj (by rw[UM];exact(Vx.1 c).1) nd).1<|by simp_all)
theorem vS{t:ZS}(m:A.handled=ca)(f:SrcTn t.b t.i t.l k s.heap)(g:SrcSq t.b s.heap t.l xs)(c:xs[k]?=o)(p:∀x h',o=ap x->SrcTn t.b t.i t.l (k+1) h'->VZ t.i s.heap h'->Q x { s with heap:=h' })(hE:∀h' e,o=ca->XJ t.i s.heap h'->(∃o,h'.get? e=ap o/\o.cls=.type "StopIteration")->E (.ref e) { s with heap:=h' }):
  eg (eH prog w) A (VO<|.ref t.i) Q E s:=by
 cases o with
 |none=>exact dQ m f g c λh' e q r=>hE h' e rfl q r
 |some x=>exact gc f g c λh' q r=>p x h' rfl q r
structure ZMid(S:List ZS)(F:ZS->Option ax)(k:Nat)(fp:ab0)(h₀:g3)(j:Nat)(h:g3):Prop where
 ahead:∀i t,S[i]?=ap t->SrcTn t.b t.i t.l (if i<j then k+1 else k) h
 got:∀i t,i<j->S[i]?=ap t->(F t).isSome=true
 frame:∀c o,c∉fp->h₀.get? c=ap o->h.get? c=ap o
 size:h.objs.size=h₀.objs.size
theorem ZMid.zero(a:Jl S k h)(f:∀c o,c∉fp->h₀.get? c=ap o->h.get? c=ap o)(z:h.objs.size=h₀.objs.size):ZMid S F k fp h₀ 0 h:=
 #[λi t e=>by simpa using a t (VR e),λi t q=>absurd q (Y0 _),f,z]
theorem ZMid.at(m:ZMid S F k fp h₀ j h)(e:S[j]?=ap t):SrcTn t.b t.i t.l k h:=by simpa using m.ahead j t e
theorem ZMid.go(m:ZMid S F k fp h₀ j h)(i1:∀t∈S,∀o,h.get? t.i=ap o->h'.get? t.i=ap o)(f:∀c o,c∉fp->h.get? c=ap o->h'.get? c=ap o)(z:h'.objs.size=h.objs.size):ZMid S F k fp h₀ j h':=
 #[λi t e=>(m.ahead i t e).keep (i1 t<|VR e),m.got,λc o n e=>f c o n (m.frame c o n e),z.trans m.size]
theorem ZMid.step{TI TO:cp}(D:ZOk z TI TO S)(m:ZMid S F k fp h₀ j h)(e:S[j]?=ap t)(r:t.i∈fp)(p:(F t).isSome=true)(v:SrcTn t.b t.i t.l (k+1) h')(b:VZ t.i h h'):ZMid S F k fp h₀ (j+1) h':=by
 refine#[λi u f=>?_,λi u q f=>?_,λc o n q=>b.extBut c o (λx=>n (x▸r)) (m.frame c o n q),b.1.trans m.size]
 .by_cases g:i=j
  .simp_all
  have q:=(m.ahead i u f).keep λo x=>b.extBut _ o (A7 D f e g) x
  by_cases lt:i<j
  .rw[if_pos lt]at q
   rw[if_pos (Xc lt)];exact q
  rw[if_neg lt]at q;rw[if_neg (by lia)]
  exact q
 by_cases g:i=j
 .subst g
  cases e.symm.trans f;exact p
 exact m.got i u (by lia) f
theorem yy{TI TO:cp}(m:pR s.heap z TI TO f0 f1)(h:eg (eH prog w) A.in1 (Builtin.«zip.__next__» #[[.ref z],[]]) (λfin s'=>∃v,fin=.done (.ret v)/\Q (ap v) s') (λe s'=>∃a,e=.ref a/\(∃o,s'.heap.get? a=ap o/\o.cls=.type "StopIteration")/\Q ca s') s):
  eg (eH prog w) A (vw<|.ref z) Q E s:=by
 have c:s.TypeIs (.ref z) _:=#[_,m,rfl];refine ay (rc<|wpAny_callSpecial?_slot c F.slot_zip_next<|wpAny_call_entry F.slot_zip_next c F.entry_zip_next (kc h (λfin s' q=>?_) λe s' q=>?_)<|F.args_zip_next_1 _)
 .obtain⟨v,rfl,q⟩:=q
  exact#[v,rfl,eC q]
 obtain⟨a,rfl,⟨o,f,g⟩,q⟩:=q;exact ay (wh #[o,f,g] W1<|wpAny_pure q)
theorem Dy{TI TO:cp}(c:pR s.heap z TI TO .none f1)(h:Q true s):eg (eH prog w) A (Wt<|.ref z) Q E s:=by
 exact ay (j0 c rfl rfl<|wpAny_pure h)
theorem EL{TI TO T:cp}(hz:pR s.heap z TI TO (ra T) f1)(hT:s.heap.get? T=ap oT)(h:∀h₀,pR h₀ z TI TO (ra T) true->(∀c o,c≠z->s.heap.get? c=ap o->h₀.get? c=ap o)->h₀.objs.size=s.heap.objs.size->Q cx { s with heap:=h₀ }):eg (eH prog w) A (Wt<|.ref z) Q E s:=by
 refine ay (j0 hz rfl rfl ?_);refine ay (yG (by trivial) ?_)
 refine ay (j0 hz rfl rfl ?_);cases f1 with
 |true=>
  exact eC (h _ hz (λ_ _ _ e=>e) rfl)
 |false=>
  exact ay (k' hz (by simp) λh₀ hz0 hs₀=>eC (h _ hz0 hs₀.extBut hs₀.1))
theorem lJ{TI TO:cp}(hh:A.handled=ca)(D:ZOk z TI TO S)(hz:pR s.heap z TI TO f0 f1)(hf:f0=.none/\f1=cx/\(∃vs:List ax,vs.length=S.length/\iW s.heap TO vs)\/∃(T:cp)(oT:Obj),f0=ra T/\s.heap.get? T=ap oT)(hTI:iW s.heap TI (S.map λt=>.ref t.i))(h1:Jl S k s.heap)(hl:∀t∈S,∃xs,SrcSq t.b s.heap t.l xs/\xs[k]?=F t)(hQ:∀h' us,us.map ap=S.map F->(f0=.none/\abf h' z TI TO (ra s.heap.objs.size)/\iW h' TO us\/f0≠.none/\pR h' z TI TO f0 true)->Jl S (k+1) h'->iW h' s.heap.objs.size us->
   (∀c o,c∉z::TO::S.map ZS.i->s.heap.get? c=ap o->h'.get? c=ap o)->Q (ap<|.ref s.heap.objs.size) { s with heap:=h' })(hE:∀h',(∃t∈S,F t=ca)->(∀c o,c∉z::TO::S.map ZS.i->s.heap.get? c=ap o->h'.get? c=ap o)->Q ca { s with heap:=h' }):
  eg (eH prog w) A (vw<|.ref z) Q E s:=by
 obtain⟨zTI,zTO,TITO,U⟩:=n8 D;have few:S.length<=sizeLine:=Vb D.few (by decide)
 refine yy hz ?_;show eg _ _ (field (.ref z) 2 >>= _) _ _ _;refine ay (j0 hz rfl (x:=.bool cx) rfl ?_);show eg _ _ (field (.ref z) 3 >>= _) _ _ _;refine ay (j0 hz rfl (x:=.ref TI) rfl ?_);refine ay (s9 hTI rfl ?_);have hne:¬(S.map λt=>Vn t.i).toArray.isEmpty=true:=by have:=D.ne;simp[this]
 refine (congrArg (eg (eH prog w) A.in1 · _ _ s)<|if_neg hne).mpr ?_;show eg _ _ (Wt (.ref z) >>= _) _ _ _;refine ay ?_;have hnd:∀t∈S,t.l∉z::TO::S.map ZS.i:=λt g q=>D.off t g (by
  simp only[qf,UU]at q ⊢;exact q.imp id .inr)
 have B:∀{h h':g3}{c:cp}(b:cp),b∈z::TO::S.map ZS.i->(∀c o,c≠b->h.get? c=ap o->h'.get? c=ap o)->c∉z::TO::S.map ZS.i->∀o,h.get? c=ap o->h'.get? c=ap o:=λb hb k n o e=>k _ o (λx=>n (x▸hb)) e;have mi:∀{t:ZS},t∈S->t.i∈z::TO::S.map ZS.i:=λg=>by simp[Vq g]
 have fin:∀{us:abZ},us.length=S.length->(∀i t,i<S.length->S[i]?=ap t->us[i]?=F t)->(∀i t,i<S.length->S[i]?=ap t->(F t).isSome=true)->us.map ap=S.map F:=λ{us} hu G hs=>by
  refine W7 λi=>?_;rw[UT,UT];cases y:S[i]? with
  |none=>
   rw[XH]at y;rw[VU (by lia)]
   rfl
  |some t=>
   have il:i<S.length:=(Vx.1 y).1;have hs:=hs i t il y;rw[G i t il y];cases hF:F t with
   |none=>rw[hF]at hs;cases hs
   |some x=>simp[hF]
 have st:∀{h:g3},ZMid S F k (z::TO::S.map ZS.i) s.heap S.length h->Jl S (k+1) h:=λm t g=>by
  obtain⟨i,il,rfl⟩:=Xq g;have q:=m.ahead i S[i] (by simp[il])
  rwa [if_pos il]at q
 rcases hf with⟨rfl,rfl,vs,hv,hTO⟩|⟨T,oT,rfl,hT⟩
 .refine Dy hz ?_
  refine (congrArg (eg (eH prog w) A.in1 · _ _ s)<|if_pos rfl).mpr ?_;refine ay (U_ ?_);refine ay (j0 hz rfl (x:=.ref TO) rfl ?_);refine ay (k' hz (by simp) λW hz1 M=>?_)
  replace hz1:abf W z TI TO .ellipsis:=hz1
  refine ay ?_
  refine ic (xs:=(S.map λt=>Vn t.i).toArray.toList.zipIdx) (λ_=>_)
   (λj s'=>∃h' us,s'={ s with heap:=h' }/\ZMid S F k (z::TO::S.map ZS.i) s.heap j h'/\abf h' z TI TO .ellipsis/\iW h' TO us/\us.length=S.length/\∀i t,i<j->S[i]?=ap t->us[i]?=F t)
   (λj x s' hx hI=>?_) (λs' hI=>?_) _ 0 _ (Xb _) #[W,vs,rfl,.zero (λt g=>(h1 t g).keep λo e=>M.extBut _ o (U t g).1 e) (λc o n e=>B z (.head _) M.extBut n o e) M.1,hz1,M.extBut _ _ zTO.symm hTO,hv,λi t q=>absurd q (Y0 _)]
  .obtain⟨h',us,rfl,m,r,C,hu,G⟩:=hI
   simp only[ZV,UT,VT,Xb]at hx;obtain⟨v,⟨t,y,rfl⟩,rfl⟩:=hx;have g:=VR y;obtain⟨xs,hsq,Y⟩:=hl t g;refine ay (wpAny_onRaise ?_);show eg _ _ (VO (.ref t.i) >>= _) _ _ _;refine ay (vS hh (m.at y) (hsq.keep λo e=>m.frame _ o (hnd t g) e) Y (λx p O h12 f=>eC ?_) λp e O f he=>?_)
   .have jl:j<S.length:=(Vx.1 y).1
    have J:iW p TO us:=f.extBut _ _ (U t g).2.2.symm C;refine ay (s9 J rfl ?_);refine ay (wpAny_updateSeq J rfl ?_ (by show us.toArray.size<=sizeLine;rw[Ve,hu];exact few)<|by rw[Array.size_setIfInBounds,Ve,hu];exact Nat.le_succ_of_le few)
    refine ay (wpAny_letGo<|wpAny_pure #[rfl,_,us.set j x,rfl,?_,?_,?_,by rw[Wg,hu],λi u q eu=>?_])
    all_goals have sb:VZ TO p (p.update TO<|Xe (·.setIfInBounds j x)):=Wz ..
    .exact(m.step D y (mi g) (by rw[O];rfl) h12 f).go (λu hu' o e=>sb.extBut _ o (U u hu').2.2 e) (λc o n e=>B TO (by simp) sb.extBut n o e) sb.1
    .exact sb.extBut _ _ zTO (f.extBut _ _ (U t g).1.symm r)
    .show Heap.get? _ _=_
     rw[Xd _ J rfl];simp[Xe]
    .rw[XO]
     by_cases ij:j=i
     .subst ij
      cases y.symm.trans eu;rw[if_pos rfl,if_pos (by lia),O]
     .rw[if_neg ij]
      exact G i u (by lia) eu
   .obtain⟨oe,hoe,hce⟩:=he
    have hz2:abf p z TI TO .ellipsis:=f _ _ (U t g).1.symm r;have hez:e≠z:=λx=>by subst x;rw[hz2]at hoe;cases hoe;simp at hce
    exact k' hz2 (by simp) λh₃ _ I=>#[e,rfl,#[oe,I.extBut _ _ hez hoe,hce],hE h₃ #[t,g,O] λc o n q=>B z (.head _) I.extBut n o (B _ (mi g) f n o<|m.frame c o n q)]
  .obtain⟨h',us,rfl,m,r,C,hu,G⟩:=hI
   rw[show (S.map λt=>Vn t.i).toArray.toList.zipIdx.length=S.length by simp]at m G
   refine ay (s9 C rfl ?_);refine ay (z5 ?_<|by simpa [hu] using few)
   have R:z<h'.objs.size:=UQ r;show eg _ _ (Xw (.ref z) (.ref h'.objs.size) >>= _) _ _ _;refine ay ?_;unfold Xw;have hz8:abf (h'.push { cls:=.type "tuple",data:=.seq us.toArray }) z TI TO .ellipsis:=UN _ r;refine ay (k' hz8 (by simp) λh₉ hz9 hs9=>?_)
   replace hz9:abf h₉ z TI TO (ra h'.objs.size):=hz9
   refine k' hz9 (by simp) λhA N hsA=>?_
   replace N:abf hA z TI TO (ra h'.objs.size):=N
   have up:∀c o,c≠z->h'.get? c=ap o->hA.get? c=ap o:=λc o c1 e=>hsA.extBut _ _ c1 (hs9.extBut _ _ c1<|UN _ e);have hTA:iW hA h'.objs.size us:=hsA.extBut _ _ (WN R) (hs9.extBut _ _ (WN R)<|US _ rfl);rw[m.size]at N hTA;refine eC #[_,rfl,?_];show Q (ap<|.ref h'.objs.size) _;rw[m.size];exact hQ hA us (fin hu G m.got) (.inl #[rfl,N,up _ _ zTO.symm C]) (λt g=>(st m t g).keep λo e=>up _ o (U _ g).1 e) hTA λc o n e=>B z (.head _) up n o (m.frame c o n e)
 .refine EL hz hT λh₀ hz0 L hs₀=>?_
  refine (congrArg (eg (eH prog w) A.in1 · _ _ _)<|if_neg Yq).mpr ?_;show eg _ _ (forIn (S.map λt=>Vn t.i).toArray _ _ >>= _) _ _ _;rw[<- Array.forIn_toList];refine ay ?_
  refine ic (xs:=(S.map λt=>Vn t.i).toArray.toList) (λj=>(ca,((S.map λt=>(F t).getD .none).take j).toArray))
   (λj s'=>∃h',s'={ s with heap:=h' }/\ZMid S F k (z::TO::S.map ZS.i) s.heap j h'/\pR h' z TI TO (ra T) true)
   (λj x s' hx hI=>?_) (λs' hI=>?_) _ 0 _ (Xb _) #[h₀,rfl,.zero (λt g=>(h1 t g).keep λo e=>L _ o (U t g).1 e) (λc o n e=>B z (.head _) L n o e) hs₀,hz0]
  .obtain⟨h',rfl,m,r⟩:=hI
   simp only[UT,VT]at hx;obtain⟨t,y,rfl⟩:=hx;have g:=VR y;obtain⟨xs,hsq,Y⟩:=hl t g;refine ay (kr ?_);show eg _ _ (VO (.ref t.i) >>= _) _ _ _;refine ay (vS hh (m.at y) (hsq.keep λo e=>m.frame _ o (hnd t g) e) Y (λx p O h12 f=>eC (eC #[?_,_,rfl,m.step D y (mi g) (by rw[O];rfl) h12 f,f.extBut _ _ (U t g).1.symm r])) λp e O f he=>#[e,rfl,he,hE p #[t,g,O] λc o n q=>B _ (mi g) f n o (m.frame c o n q)])
   rw[Yd,show (S.map λt=>(F t).getD .none)[j]?=ap x by rw[UT,y];simp[O]]
   simp
  .obtain⟨h',rfl,m,r⟩:=hI
   rw[show (S.map λt=>Vn t.i).toArray.toList.length=S.length by simp]at m ⊢
   rw[X4 (by simp)]
   refine ay (z5 (eC #[_,rfl,?_])<|by simpa using few)
   have up:∀c o,h'.get? c=ap o->(h'.push { cls:=.type "tuple",data:=.seq (S.map λt=>(F t).getD .none).toArray }).get? c=ap o:=λc o e=>UN _ e;have hn:=US h' (o:={ cls:=.type "tuple",data:=.seq (S.map λt=>(F t).getD .none).toArray }) rfl;show Q (ap<|.ref h'.objs.size) _;rw[m.size]at hn ⊢;refine hQ _ (S.map λt=>(F t).getD .none) (fin (by simp) (λi t il y=>?_) m.got) (.inr #[by simp[ra],up _ _ r]) (λt g=>(st m t g).keep λo e=>up _ o e) (by simpa using hn) λc o n e=>up _ _ (m.frame c o n e)
   have hs:=m.got i t il y;cases hF:F t with
   |none=>rw[hF]at hs;cases hs
   |some x=>simp[y,hF]
theorem Ph{l:List α}(h:l.length=2):∃a b,l=[a,b]:=by
 cases l with
 |nil=>cases h
 |cons a l=>
  cases l<;>simp_all
theorem len3{l:List α}(h:l.length=3):∃a b c,l=[a,b,c]:=by
 cases l with
 |nil=>cases h
 |cons a l=>
  obtain⟨b,c,rfl⟩:=Ph (by simpa using h)
  exact#[a,b,c,rfl]
theorem oY(a b c:ax):X_ "zip" #[[a,b,c],[]]=pure ():=by kernel_rfl
theorem pO(a b c:ax):P' "zip.__new__" #[[.type "zip",a,b,c],[]]=pure ():=by kernel_rfl
theorem iY(a b c d:ax):abp "object.__init__" #[[a,b,c,d],[]]:=by
 unfold abp;rw[signature?_of (id:="object.__init__") (n:=['_','_','t','i','n','i','_','_']) (o:=['t','c','e','j','b','o']) (by kernel_rfl) F.owner_object];kernel_rfl
noncomputable def dq(n:Nat)(args:List (Bool×cp)):List ZS:=args.zipIdx.map λp=>#[p.1.1,n+p.2,p.1.2]
theorem gE:(dq n args)[i]?=(args[i]?).map λp=>#[p.1,n+i,p.2]:=by
 simp[dq,ZR]
theorem vj(B:∀p∈args,∃xs,SrcSq p.1 s.heap p.2 xs)(C:∀h',Jl (dq s.heap.objs.size args) 0 h'->(∀c o,s.heap.get? c=ap o->h'.get? c=ap o)->h'.objs.size=s.heap.objs.size+args.length->Q ((dq s.heap.objs.size args).map λt=>.ref t.i) { s with heap:=h' }):
  eg (eH prog w) A (Builtin.SmallTypes.iterAll (args.map λp=>.ref p.2)) Q E s:=by
 refine ay ?_
 refine ic (λj=>(((dq s.heap.objs.size args).take j).map λt=>Vn t.i).toArray)
  (λj m=>∃h',m={ s with heap:=h' }/\Jl ((dq s.heap.objs.size args).take j) 0 h'/\(∀c o,s.heap.get? c=ap o->h'.get? c=ap o)/\h'.objs.size=s.heap.objs.size+j)
  (λj x m r q=>?_) (λm q=>?_) _ 0 _ (Xb _) #[_,rfl,λt ht=>by simp at ht,λ_ _ e=>e,rfl]
 .obtain⟨h',rfl,g,k,f⟩:=q
  simp only[UT,VT]at r;obtain⟨p,u,rfl⟩:=r;obtain⟨xs,y⟩:=B p (VR u);have v:(dq s.heap.objs.size args)[j]?=ap #[p.1,s.heap.objs.size+j,p.2]:=by rw[gE,u];rfl
  refine ay (kr<|fU (y.keep λo e=>k _ o e)<|wpAny_pure #[?_,_,rfl,λt ht=>?_,λc o e=>UN _ (k c o e),by rw[VH,f];rfl])
  .rw[Yd,v]
   simp[f]
  rw[Yd,v]at ht;rcases Vs.1 ht with ht|ht
  .exact(g t ht).keep λo e=>UN _ e
  have:=Xx.1 ht;subst this;refine CH ?_;rw[<- f];exact US _ rfl
 obtain⟨h',rfl,g,k,f⟩:=q;have e:(dq _ _).take (args.map λp=>Vn p.2).length=dq s.heap.objs.size args:=X4 (by simp[dq])
 rw[e]at g ⊢;refine eC (C h' g k<|by simpa using f)
theorem y6(args:List (Bool×cp))(g:args.length<=3):
  Meets (Builtin.«zip.__new__» #[.type "zip"::args.map λp=>.ref p.2,[]]) (λ_ R s=>(∀p∈args,∃xs,SrcSq p.1 s.heap p.2 xs)/\
   ∀h',abf h' (s.heap.objs.size+args.length+2) (s.heap.objs.size+args.length) (s.heap.objs.size+args.length+1) .none->iW h' (s.heap.objs.size+args.length) ((dq s.heap.objs.size args).map λt=>.ref t.i)->iW h' (s.heap.objs.size+args.length+1) (args.map λ_=>.none)->
    Jl (dq s.heap.objs.size args) 0 h'->(∀c o,s.heap.get? c=ap o->h'.get? c=ap o)->R (.ok<|.ret<|.ref (s.heap.objs.size+args.length+2)) { s with heap:=h' }):=
 .of_wp λprog w A R s h=>by
  obtain⟨r,B⟩:=h;have m:=sub_zip;have v:=r;unfold Builtin.«zip.__new__»
  wp_walk using vj r
  intro h' y k f;have len:(dq s.heap.objs.size args).length<=3:=by simpa [dq] using g
  refine ay (z5 ?_<|by rw[UM];exact Vb len (by decide))
  refine ay (z5 ?_<|by rw[UM,UM];exact Vb len (by decide))
  unfold Builtin.SmallTypes.newRecord Builtin.SmallTypes.ownedTupleFields
  wp_walk
  refine#[_,rfl,?_];simp only[VH,f];refine B _ ?_ ?_ ?_ (λt u=>(y t u).keep λo e=>UN _ (UN _<|UN _ e)) λc o e=>UN _ (UN _<|UN _<|k c o e)
  .have q:=US ((h'.push { cls:=.type "tuple",data:=.seq ((dq s.heap.objs.size args).map λt=>Vn t.i).toArray }).push { cls:=.type "tuple",data:=.seq (((dq s.heap.objs.size args).map λt=>Vn t.i).map λ_=>Wo).toArray }) (o:={ cls:=.type "zip",data:=.fields (Tw [.none,.bool cx,.bool cx,.ref (s.heap.objs.size+args.length),.ref (s.heap.objs.size+args.length+1)]) }) rfl
   simp only[VH,f]at q;exact q
  .refine UN _ (UN _ ?_)
   rw[<- f];exact US _ rfl
  refine UN _ ?_;have q:=US (h'.push { cls:=.type "tuple",data:=.seq ((dq s.heap.objs.size args).map λt=>Vn t.i).toArray }) (o:={ cls:=.type "tuple",data:=.seq (((dq s.heap.objs.size args).map λt=>Vn t.i).map λ_=>Wo).toArray }) rfl;simp only[VH,f]at q;rw[show (args.map λ_=>Wo)=(((dq s.heap.objs.size args).map λt=>Vn t.i).map λ_=>Wo) from ?_]
  .exact q
  .rw[Vf,dq,Vf]
   exact W7 λi=>by simp[UT,ZV];rfl
theorem qQ(hn:args.length=2\/args.length=3)(hl:∀p∈args,∃xs,SrcSq p.1 s.heap p.2 xs)(h:∀h' z TI TO S,S.map (λt=>(t.b,t.l))=args->ZOk z TI TO S->abf h' z TI TO .none->iW h' TI (S.map λt=>.ref t.i)->iW h' TO (S.map λ_=>.none)->Jl S 0 h'->(∀b∈qf z TI TO S,s.heap.objs.size<=b)->
   (∀c o,s.heap.get? c=ap o->h'.get? c=ap o)->Q (.ref z) { s with heap:=h' }):
  eg (eH prog w) A (call (.type "zip") (args.map λp=>.ref p.2)) Q E s:=by
 have few:args.length<=3:=by lia
 have checks:X_ "zip" #[args.map λp=>.ref p.2,[]]=pure ()/\P' "zip.__new__" #[.type "zip"::args.map λp=>.ref p.2,[]]=pure ()/\∀obj,abp "object.__init__" #[obj::args.map λp=>.ref p.2,[]]:=by
  rcases hn with hn|hn
  .obtain⟨a,b,rfl⟩:=Ph hn
   exact#[F.typeCall_zip_2 _ _,F.newCall_zip_2 _ _,λobj=>F.args_object_init_3 obj _ _]
  .obtain⟨a,b,c,rfl⟩:=len3 hn
   exact#[oY _ _ _,pO _ _ _,λobj=>iY obj _ _ _]
 refine abG F.called_zip (by decide) checks.1 checks.2.1 checks.2.2 F.entry_zip_new (y6 args few) #[hl,λh' hz hTI hTO st k=>?_]
 have em:(dq s.heap.objs.size args).map (λt=>(t.b,t.l))=args:=W7 λi=>by
  rw[UT,gE];cases args[i]?<;>rfl
 have hlen:(dq s.heap.objs.size args).length=args.length:=by rw[<- em,UM,em]
 have hi:∀t∈dq s.heap.objs.size args,s.heap.objs.size<=t.i/\t.i<s.heap.objs.size+args.length:=λt ht=>by
  obtain⟨i,il,rfl⟩:=Xq ht;have q:=gE (n:=s.heap.objs.size) (args:=args) (i:=i);rw[hlen]at il;simp[il,hlen]at q;rw[q];exact#[Wf _ _,Nat.add_lt_add_left il _]
 have hb:∀b∈qf (s.heap.objs.size+args.length+2) (s.heap.objs.size+args.length) (s.heap.objs.size+args.length+1) (dq s.heap.objs.size args),s.heap.objs.size<=b:=λb hb=>by
  simp only[qf,UU,UZ]at hb;rcases hb with e|e|e|⟨t,ht,e⟩
  .rw[e];exact Vb (Wf _ _) (Wf _ _)
  .rw[e];exact Wf _ _
  .rw[e];exact Vb (Wf _ _) (Wf _ _)
  .rw[<- e];exact(hi t ht).1
 have D:ZOk (s.heap.objs.size+args.length+2) (s.heap.objs.size+args.length) (s.heap.objs.size+args.length+1) (dq s.heap.objs.size args):=by
  refine#[?_,λt ht q=>?_,λe=>?_,by lia]
  .simp only[V2,UU,UZ,not_or,not_exists,not_and]
   refine#[#[(show (_:Nat)≠(_:Nat) by lia),(show (_:Nat)≠(_:Nat) by lia),λt ht e=>?_],#[(show (_:Nat)≠(_:Nat) by lia),λt ht e=>?_],λt ht e=>?_,?_]
   all_goals try exact absurd (show (t.i:Nat)<s.heap.objs.size+args.length from (hi t ht).2) (by rw[e];first|exact VC _|exact Yr.2 (Wf _ _))
   refine Zh.2 λi j il jl ij=>?_;have ei:=gE (n:=s.heap.objs.size) (args:=args) (i:=i);have ej:=gE (n:=s.heap.objs.size) (args:=args) (i:=j);simp only[UM,hlen]at il jl;simp[il,hlen]at ei;simp[jl,hlen]at ej;rw[List.getElem_map,List.getElem_map,ei,ej];exact(show (_:Nat)≠(_:Nat) by simp;lia)
  .have:(t.b,t.l)∈args:=em▸Vq (f:=λt:ZS=>(t.b,t.l)) ht
   obtain⟨xs,sq⟩:=hl _ this;obtain⟨b,i,l⟩:=t;have lt:l<s.heap.objs.size:=by
    cases b with
    |true=>obtain⟨o,e,_⟩:=(show s.heap.IsList l xs from sq);exact UQ e
    |false=>obtain⟨o,e,_⟩:=(show s.heap.IsTuple l xs from sq);exact UQ e
   exact absurd lt (Yr.2<|hb _ q)
  .rw[e]at hlen
   simp at hlen;lia
 show _/\_;refine#[#[_,hz,rfl],h h' _ _ _ _ em D hz hTI ?_ st hb k];rw[show ((dq s.heap.objs.size args).map λ_=>Wo)=args.map λ_=>Wo by rw[<- em,Vf,em];rfl]
 exact hTO
def oZ(K:UP)(b:Bool)(H:Hp)(a:cp)(xs:List V):Prop:=if b=true then SqL K H a xs else kU K H a xs
theorem Inv.src(I:Inv X abP Z H s)(h:oZ X.K b H a xs):∃abV:List ax,Vals xs abV/\SrcSq b s.heap a abV.toArray/\xs.length<=sizeLine:=by
 cases b with
 |true=>obtain⟨abV,r,p,z⟩:=I.list h;exact#[_,r,p.isList,z]
 |false=>obtain⟨abV,r,p,z⟩:=I.tuple h;exact#[_,r,p,z]
theorem Inv.src_inj(I:Inv X abP Z H s)(h:oZ X.K b H a xs)(h':oZ X.K b H a ys):xs=ys:=by
 cases b with
 |true=>exact I.list_inj h h'
 |false=>exact I.tuple_inj h h'
theorem Inv.src_ne(I:Inv X abP Z H s)(h:oZ X.K b H a xs)(f:kj X abP H it):a≠it:=by
 obtain⟨f0,f1,r,p,q,u⟩:=f;intro e;subst e;have c:∀o,X.K.lookup a=ap o->False:=λo g=>by
  have m:=I.ok.mod.kin a o g;rcases p with z|z
  .exact I.ok.noex a o m z
  .exact absurd (UW (UQ (I.ok.bs a o m).1) z) (VC _)
 cases b with
 |true=>
  rcases (show SqL X.K H a xs from h) with (z|⟨o,z⟩)|⟨o,_,_,g,_⟩
  .rw[f0]at z;cases z
  .rw[f0]at z;cases z
  .exact c o g
 |false=>
  rcases (show kU X.K H a xs from h) with (z|⟨o,z⟩)|⟨o,_,_,g,_⟩
  .rw[f0]at z;cases z
  .rw[f0]at z;cases z
  .exact c o g
theorem Inv.turned4(I:Inv X abP Z H s)(p:∀b∈fp,kj X abP H b)(k:∀b o,b∉fp->s.heap.get? b=ap o->h'.get? b=ap o):Inv X abP Z H { s with heap:=h',toks:=t' }:=by
 have g:∀b u,H b=ap u->b∉fp:=λb u e z=>by have:=(p b z).1;simp_all
 refine I.step (λb J=>?_) (λb o _ _ f e _=>k b o f e) (λb o _ _ f e _=>#[_,k b o f e]) (λ_ _ _ _ n=>n)
  (λb o f e=>#[o,k b o f e]) (λ_ _ e=>e) (λ_ _ _ e=>e) (λb N e=>#[(Tw []),by rw[e];simp]) (λm y=>?_) (λb u e=>?_) I.bare
 .obtain⟨f0,f1,M,O,L,R⟩:=p b J
  trivial
 .obtain⟨o,B,G,C,r⟩:=y
  exact#[o,B,G,k _ o (λz=>(p _ z).2.1 rfl) C,r]
 refine (I.hok b u e).stay (λc v f q=>k c v ?_ q) (λ_ q=>q) λ_ _ q=>q;rcases f with z|z
 .rw[z];exact g b u e
 exact g c _ z
theorem Inv.turnedNew(I:Inv X abP Z H s)(M:∀b∈fp,kj X abP H b)(k:∀b o,b∉fp->s.heap.get? b=ap o->h'.get? b=ap o)(hlt:∀b∈fp,∃o,s.heap.get? b=ap o)(hlv:∀b∈fp,∃o,h'.get? b=ap o)(hT:h'.get? s.heap.objs.size=ap y)(G:y.cls=.type "tuple")(L:∃n,y.data=.seq us.toArray n)(r:Vals zs us)(J:y.dict=ca)(hz:zs.length<=sizeLine):Inv X abP Z (upd H s.heap.objs.size<|.tup zs) { s with heap:=h',toks:=t' }:=by
 have f:H s.heap.objs.size=none:=I.hok.fresh (UX _);have p:∀b u,H b=ap u->b∉fp:=λb u e z=>by have:=(M b z).1;rw[e]at this;cases this
 refine I.step (g':=s.gens) (d':=s.drawn) (ch:=fp) (λb B=>?_) (λb o _ _ g e _=>k b o g e) (λb o _ _ g e _=>#[o.slots,k b o g e]) (λb o _ e n=>by rw[aF (Vg<|UQ e)];exact n)
  (λb o g e=>#[o,k b o g e]) (λb C e=>by rw[aF (br e f)];exact e) (λb o u e=>by rw[aF (br e f)];exact e) (λb ps e=>#[(Tw []),by rw[aF (br e f),e];simp]) (λm N=>?_) (λb u e=>?_) I.bare
 .obtain⟨f0,f1,f2,Y,T,f5⟩:=M b B
  exact#[Y,f1,T,f5]
 .obtain⟨o,O,U,R,r⟩:=N
  exact#[o,O,U,k _ o (λz=>(M _ z).2.1 rfl) R,r]
 .by_cases B:b=s.heap.objs.size
  .subst B
   rw[upd_same]at e;cases e;obtain⟨n,W⟩:=L;exact#[hz,us,r,#[y,hT,#[G,n,W],J]]
  .rw[aF B]at e
   refine (I.hok b u e).stay (λc v g q=>k c v ?_ q) (λc q=>by rw[aF (br q f)];exact q) λc C q=>by rw[aF (br q f)];exact q
   rcases g with z|z
   .rw[z];exact p b u e
   .exact p c _ z
noncomputable def yh(h:g3)(l:cp)(k:Nat):Option Value:=match h.get? l with
 |some o=>match o.data with
  |.seq xs _=>xs[k]?
  |_=>ca
 |_=>ca
theorem jy(q:SrcSq b h l xs)(k:Nat):xs[k]?=yh h l k:=by
 have:∃o n,h.get? l=ap o/\o.data=.seq xs n:=by
  cases b with
  |true=>obtain⟨o,e,c,n,d⟩:=q;exact#[o,n,e,d]
  |false=>obtain⟨o,e,c,n,d⟩:=q;exact#[o,n,e,d]
 obtain⟨o,n,e,d⟩:=this;simp[yh,e,d]
noncomputable def Ur(K:UP)(L:List (Bool×cp)):It:=
 #[λi H=>∀p∈L,∃xs x,oZ K p.1 H p.2 xs/\xs[i]?=ap x,
  λi H v H'=>∃T zs,H T=ca/\v=.ref T/\H'=upd H T (.tup zs)/\zs.length=L.length/\∀(j:Nat)(p:Bool×cp),L[j]?=ap p->∀xs,oZ K p.1 H p.2 xs->xs[i]?=zs[j]?,
  λi H=>(∀p∈L,∃xs,oZ K p.1 H p.2 xs)/\∃p∈L,∃xs,oZ K p.1 H p.2 xs/\xs.length<=i]
structure ZTn(z TI TO:cp)(S:List ZS)(i:Nat)(h:g3):Prop where
 hz:abf h z TI TO .none
 hTI:iW h TI (S.map λt=>.ref t.i)
 hTO:∃vs:List ax,vs.length=S.length/\iW h TO vs
 st:Jl S i h
theorem ZTn.obj{TI TO:cp}(q:ZTn z TI TO S i h):∀b∈qf z TI TO S,∃o,h.get? b=ap o/\∀v,o.data≠.cell v:=λb c=>by
 obtain⟨f,_,e⟩:=q.hTO;simp at c;rcases c with rfl|rfl|rfl|⟨t,ht,rfl⟩
 .exact#[_,q.hz,λv q=>nomatch q]
 .exact#[_,q.hTI,λv q=>nomatch q]
 .exact#[_,e,λv q=>nomatch q]
 exact(q.st t ht).lt
theorem ZTn.keep{TI TO:cp}(q:ZTn z TI TO S i h)(k:∀b∈qf z TI TO S,∀o,h.get? b=ap o->h'.get? b=ap o):ZTn z TI TO S i h':=by
 obtain⟨f,l,e⟩:=q.hTO;exact#[k z (by simp) _ q.hz,k TI (by simp) _ q.hTI,#[f,l,k TO (by simp) _ e],λt c=>(q.st t c).keep λo e=>k _ (by simp[Vq c]) o e]
theorem wu{s:cb}{i:Nat}(I:Inv X abP Z H s):∀(S:List ZS)(us:abZ),us.map ap=S.map (λt=>yh s.heap t.l i)->(∀t∈S,∃xs x,oZ X.K t.b H t.l xs/\xs[i]?=ap x)->
  ∃zs,Vals zs us/\zs.length=S.length/\∀(j:Nat)(p:Bool×cp),(S.map λt=>(t.b,t.l))[j]?=ap p->∀xs,oZ X.K p.1 H p.2 xs->xs[i]?=zs[j]?
 |[],[],_,_=>#[[],.nil,rfl,λj p e=>by simp at e]
 |[],_::_,e,_=>by simp at e
 |_::_,[],e,_=>by simp at e
 |t::S,u::us,e,h=>by
  simp at e;obtain⟨zs,r,l,g⟩:=wu I S us e.2 λt' ht=>h t' (.tail _ ht);obtain⟨xs,x,q,hx⟩:=h t (.head _);obtain⟨abV,rv,sq,z⟩:=I.src q;obtain⟨u',hu,ru⟩:=rv.get hx;have e1:ap u=ap u':=by rw[e.1,<- jy sq i];simp_all
  cases e1;refine#[_,.cons ru r,by simp[l],λj p ej ys hy=>?_]
  cases j with
  |zero=>
   simp at ej;subst ej;rw[I.src_inj hy q];trivial
  |succ j=>exact g j p (by trivial) ys hy
theorem qx{f:α->cp}:∀{L:List α}{us:abZ},Vals (L.map λp=>.ref (f p)) us->us=L.map λp=>.ref (f p):=by
 intro L
 induction L with
 |nil=>intro us h;cases h;rfl
 |cons p L ih=>
  intro us h;cases h with
  |cons r t=>cases r;rw[UR,ih t]
theorem DZ{TI TO:cp}(D:ZOk z TI TO S):
  Turn P w K (.Tuple elts x1 tp) (Ur K (S.map λt=>(t.b,t.l))) (qf z TI TO S) z (ZTn z TI TO S) where
 mem:=.head _
 obj:=λi h st=>st.obj
 keep:=λi h h' st k=>st.keep k
 item:=by
  intro X hP U W Y i abP s Z H E I T st y;subst hP U W
  replace y:∀t∈S,∃C x,oZ X.K t.b H t.l C/\C[i]?=ap x:=λt m=>y _ (Vq m)
  have fits:∀t∈S,∃c x,SrcSq t.b _ t.l c/\c[i]?=ap x:=λt m=>by
   obtain⟨C,x,q,N⟩:=y t m;obtain⟨c,R,sq,_⟩:=I.src q;obtain⟨u,hu,_⟩:=R.get N;exact#[_,u,sq,by simp_all]
  refine lJ (F:=λt=>yh s.heap t.l i) (I.ok.hd Y) D st.hz (.inl #[rfl,rfl,st.hTO]) st.hTI st.st (λt m=>?_) (λh' O v hzz a3 a4 J=>?_) λh' ⟨t,m,eo⟩ _=>?_
  .obtain⟨c,x,sq,_⟩:=fits t m
   exact#[c,sq,jy sq i]
  .obtain⟨_,a1,a2⟩|⟨n,_⟩:=hzz
   case inr=>trivial
   refine#[_,rfl,wpAny_letOwnedTupleGo_zip a1 λB M g=>?_];obtain⟨zs,rz,lz,gz⟩:=wu I S O v y;have zl:=UQ st.hz;have kk:∀b o,b∉qf z TI TO S->s.heap.get? b=ap o->B.get? b=ap o:=λb o r e=>by
    simp only[UU,not_or]at r;exact g.extBut b o r.1 (J b o (by simp only[UU,not_or];exact#[r.1,r.2.2.1,r.2.2.2]) e)
   obtain⟨L,zTO,TITO,ni⟩:=n8 D;have hT:B.get? _=ap _:=g.extBut _ _ (WN zl) a4;have G:ZTn z TI TO S (i+1) B:=by
    refine#[M,g.extBut _ _ L.symm (J _ _ ?_ st.hTI),#[O,?_,g.extBut _ _ zTO.symm a2],λt m=>(a3 t m).keep λo e=>g.extBut _ o (ni t m).1 e]
    .simp
     exact#[L.symm,TITO,λt m=>(ni t m).2.1]
    have:=congrArg We v;simpa using this
   refine#[.ref _,_,I.turnedNew T kk (λb r=>let ⟨o,e,_⟩:=st.obj b r;#[o,e]) (λb r=>let ⟨o,e,_⟩:=G.obj b r;#[o,e]) hT rfl #[_,rfl] rz rfl (by rw[lz];exact Vb D.few (by decide)),rfl,#[_,zs,I.hok.fresh (UX _),rfl,rfl,by simp_all,gz],G,λb r=>?_]
   obtain⟨o,e,_⟩:=st.obj b r;rw[aF (Vg<|UQ e)];exact(T b r).1
  obtain⟨c,x,sq,N⟩:=fits t m;rw[jy sq i]at N;rw[N]at eo;cases eo
 done:=by
  intro X hP U W Y i abP s Z H E I T st y;subst hP U W;refine lJ (F:=λt=>yh s.heap t.l i) (I.ok.hd Y) D st.hz (.inl #[rfl,rfl,st.hTO]) st.hTI st.st (λt m=>?_) (λh' O v _ a3 a4 J=>?_) λh' _ J=>#[rfl,I.turned4 T λb o r e=>J b o (λx=>r ?_) e]
  .obtain⟨C,q⟩:=y.1 _ (Vq m)
   obtain⟨c,R,sq,_⟩:=I.src q;exact#[_,sq,jy sq i]
  .obtain⟨p,hp,C,q,hle⟩:=y.2
   obtain⟨t,m,rfl⟩:=UZ.1 hp;obtain⟨c,R,sq,_⟩:=I.src q;have hl:=R.length;have:yh s.heap t.l i∈O.map some:=by rw[v];exact Vq (f:=λt:ZS=>yh s.heap t.l i) m
   rw[<- (jy sq i),List.getElem?_toArray,VU (by lia)]at this
   simp at this
  simp only[qf,UU]at x ⊢;rcases x with x|x|x
  .exact .inl x
  .exact .inr (.inr<|.inl x)
  .exact .inr (.inr<|.inr x)
 self:=λ_ _ _ _ _ st h=>aa9 st.hz h
def Tl(K:UP)(t:TA):TI:=λZ H R=>t Z H λc H1=>∃L:List (Bool×cp),(L.length=2\/L.length=3)/\c=L.map (λp=>.ref p.2)/\(∀p∈L,∃xs,oZ K p.1 H1 p.2 xs)/\R (Ur K L) H1
theorem Ke{a:fv}(O:Gl X "zip")(N:X.mg "zip"=ca)(T:PA X (a::as) m)(U:cT (a::as) X.env=(cx,fx a X.env)::cT as X.env:=by rfl)(hs2:(PySem.backTo pos<|starEach as X.env).any (·.1)=false:=by rfl):
  PI X (.Tuple elts x1 tp) (.Call (.Name "zip" p) (a::as) [] pos) (Tl X.K m):=by
 intro abP s Z H R I h;refine Call_ (dy I O N (by rfl)<|Vt (bv (T _ _ s Z H _ I h) λY s1 u=>?_) U hs2)
 obtain⟨vs,H1,I1,J,v⟩:=u;obtain⟨L,C,rfl,M,q⟩:=v;cases qx J;refine qQ C (λp y=>?_) λh' z TI TO S o D g e f B hb G=>?_
 .obtain⟨W,q⟩:=M p y
  obtain⟨r,_,sq,_⟩:=I1.src q;exact#[_,sq]
 refine aa9 g ?_;subst o;exact#[z,_,_,_,H1,rfl,I1.kept G,DZ D,#[g,e,#[_,by rw[UM],f],B],λb c=>I1.fpOk (hb b c) (I1.hok.fresh<|hb b c),q]
noncomputable def Ite(K:UP)(b:Bool)(l:cp):It:=
 #[λi H=>∃xs x,oZ K b H l xs/\xs[i]?=ap x,
  λi H v H'=>∃T x,H T=ca/\v=.ref T/\H'=upd H T (.tup [.int i,x])/\(∀xs,oZ K b H l xs->xs[i]?=ap x),
  λi H=>∃xs,oZ K b H l xs/\xs.length<=i]
theorem Draws.src(y:A.handled=ca)(b:Bool)(it l:cp)(m:l≠it)(items:ab6):
  Draws prog w A it [it,l] items.size (λi v=>items[i]?=ap v) (λi h=>SrcTn b it l i h/\SrcSq b h l items) where
 live:=λ_ _ c=>let ⟨o,ho,_⟩:=c.1.lt;#[o,ho]
 frame:=λ_ _ _ c p=>#[c.1.keep λo e=>p it (by simp) o e,c.2.keep λo e=>p l (by simp) o e]
 item:=λi s Q E q c u=>by
  exact gc c.1 c.2 (x:=items[i]) (by simp[q]) λh' f g=>u _ h' _ (by simp[q]) #[f,c.2.keep λo e=>g.extBut _ o m e] g
 done:=λs Q E c r=>dQ y c.1 c.2 (by simp) r
theorem yJ(b:Bool)(l:cp)(items:ab6):
  Meets (Builtin.«enumerate.__new__» #[[.type "enumerate",.ref l],[]]) (λ_ R s=>SrcSq b s.heap l items/\
   R (.ok<|.ret<|.ref (s.heap.push { cls:=.type (j5 b),data:=.fields (Tw [.ref l,.int 0 0]) }).objs.size)
    { s with heap:=(s.heap.push { cls:=.type (j5 b),data:=.fields (Tw [.ref l,.int 0 0]) }).push { cls:=.type "enumerate",data:=.fields (Tw [.none,.bool cx,.ref s.heap.objs.size,ra 0,.none,.none]) } }):=
 .of_wp λprog w A R s h=>by
  obtain⟨q,g,d,p,m⟩:=s;obtain⟨o,h⟩:=h;have f:=sub_enumerate;have e:SrcSq b (Shared.heap #[q,g,d,p,m]) l items:=o
  wp_walk
  refine wpAny_stack_any λr=>eC ?_
  split
  .rename_i c _ _ _ _ _
   cases (c==Xt "enumerate")
   .wp_walk using fU e
    exact#[_,rfl,h]
   .wp_walk using fU e
    exact#[_,rfl,h]
  .wp_walk using fU e
   exact#[_,rfl,h]
theorem DH(f:SrcSq b s.heap l items)(h:∀h',IsEnum h' (s.heap.objs.size+1) s.heap.objs.size 0 .none->SrcTn b s.heap.objs.size l 0 h'->h'.objs.size=s.heap.objs.size+2->
   (∀b o,s.heap.get? b=ap o->h'.get? b=ap o)->Q (.ref (s.heap.objs.size+1)) { s with heap:=h' }):
  eg (eH prog w) A (call (.type "enumerate") [.ref l]) Q E s:=by
 refine abG F.called_enumerate (by decide) (F.typeCall_enumerate_1 _) (F.newCall_enumerate_1 _) (λobj=>F.args_object_init_2 _ _) F.entry_enumerate_new (yJ b l _) #[f,?_]
 have c:(s.heap.push { cls:=.type (j5 b),data:=.fields (Tw [.ref l,.int 0 0]) }).objs.size=s.heap.objs.size+1:=VH ..;rw[c]
 have e:IsEnum ((s.heap.push { cls:=.type (j5 b),data:=.fields (Tw [.ref l,.int 0 0]) }).push
   { cls:=.type "enumerate",data:=.fields (Tw [.none,.bool cx,.ref s.heap.objs.size,ra 0,.none,.none]) }) (s.heap.objs.size+1) s.heap.objs.size 0 .none:=by
  have:=US (s.heap.push { cls:=.type (j5 b),data:=.fields (Tw [.ref l,.int 0 0]) })
   (o:={ cls:=.type "enumerate",data:=.fields (Tw [.none,.bool cx,.ref s.heap.objs.size,ra 0,.none,.none]) }) rfl
  rw[c]at this;exact this
 refine#[#[_,e,rfl],h _ e (CH<|UN _<|US _ rfl) (by rw[VH,c]) λb o x=>UN _ (UN _ x)]
theorem Dt(b:Bool)(l e it:cp)(L:e≠it):
  Turn P w K (.Tuple elts x1 tp) (Ite K b l) [e,it] e (λi h=>(∃m,IsEnum h e it i m)/\SrcTn b it l i h) where
 mem:=by simp
 obj:=λi h C c g=>by
  obtain⟨⟨m,y⟩,G⟩:=C;have f:c=e\/c=it:=by simp_all
  rcases f with q|q<;>subst q
  .simp_all
  exact G.lt
 keep:=λi h h' C k=>by
  obtain⟨⟨m,y⟩,G⟩:=C;exact#[#[m,k e (by simp) _ y],G.keep λo q=>k it (by simp) o q]
 item:=by
  intro X hP hw hK g i abP s Z H E I N C hg;subst hP hw hK;obtain⟨xs,x,M,U⟩:=hg;obtain⟨⟨m,y⟩,G⟩:=C;obtain⟨B,r,sq,z1⟩:=I.src M;obtain⟨u,hu,ru⟩:=r.get U;have hle:=I.src_ne M (N e<|by simp)
  have hli:=I.src_ne M (N it<|by simp)
  have hil:i<B.toArray.size:=by
   rw[Ve,<- r.length];exact(Vx.mp U).1
  have D:Draws X.prog X.w X.A.in1 it [it,l] _ _ _:=Draws.src (A:=X.A.in1) (I.ok.hd g) b it l hli B.toArray;refine wpAny_pyNext_enum_itemD D y #[G,sq] hil L (by simp[L,Vu hle]) λv h' tk hv ho hs' W hsz hk=>?_
  have ev:v=u:=by
   have hu':B.toArray[i]?=ap u:=by simpa using hu
   rw[hu']at hv;exact(VP hv).symm
  subst ev;refine#[_,rfl,wpAny_letOwnedTupleGo_enum ho λJ R p=>?_];have hes:=Vg (UQ y);have n1:=hs'.1.keep λo q=>p.extBut _ o L.symm q;have kk:∀c o,c∉[e,it]->s.heap.get? c=ap o->J.get? c=ap o:=λc o g q=>
   p.extBut c o (λz=>g (by simp[z])) (hk c o (λz=>g (by simp[z])) (λz=>g (by simp[z])) q)
  have hT':J.get? _=ap _:=p.extBut _ _ hes.symm W;have lv:∀c∈[e,it],∃o,s.heap.get? c=ap o:=λc g=>by
   have f:c=e\/c=it:=by simp_all
   rcases f with q|q<;>subst q
   .exact#[_,y]
   obtain⟨o,q,_⟩:=G.lt;exact#[o,q]
  have lv':∀c∈[e,it],∃o,J.get? c=ap o:=λc g=>by
   have f:c=e\/c=it:=by simp_all
   rcases f with q|q<;>subst q
   .exact#[_,R]
   obtain⟨o,q,_⟩:=n1.lt;exact#[o,q]
  have hTn:=I.hok.fresh (UX _);refine#[.ref _,_,I.turnedNew (s:=s) (zs:=[.int i,x]) N kk lv lv' hT' rfl #[_,rfl] (.cons #[tk,rfl]<|.cons ru .nil) rfl (by show 2<=sizeLine;decide),rfl,#[_,x,hTn,rfl,rfl,λzs O=>?_],#[#[v,by assumption],n1],λc g=>?_]
  .rw[I.src_inj O M];exact U
  obtain⟨o,q⟩:=lv c g;rw[aF (Vg<|UQ q)];exact(N c g).1
 done:=by
  intro X hP hw hK g i abP s Z H E I N C hg;subst hP hw hK;obtain⟨xs,M,U⟩:=hg;obtain⟨⟨m,y⟩,G⟩:=C;obtain⟨B,r,sq,z1⟩:=I.src M;have W:s.TypeIs (.ref e) _:=#[_,y,rfl];have hl:=r.length
  refine ay (rc (wpAny_callSpecial?_slot W aac
   (kl aac W F.entry_enumerate_next ?_<|F.args_enumerate_next_1 _)))
  show eg _ _ (field (.ref e) 2 >>= _) _ _ _;refine ay (j0 y rfl rfl ?_);refine ay (dQ (I.ok.hd g) G sq (by simp;lia) λh' x he' hx'=>?_)
  obtain⟨o,ho,Y⟩:=hx';exact ay (wh (T:="StopIteration") (b:=true) #[o,ho,Y] W1<|wpAny_pure #[rfl,I.turned4 (t':=s.toks) N λc o' f q=>he' c o' (λz=>f (by simp[z])) q])
 self:=λ_ _ _ _ _ C h=>let ⟨⟨_,y⟩,_⟩:=C;wpAny_pyIter_enum y h
theorem wz:bw X (.builtin "isinstance") (λxs H Q=>∃x T t b,xs=[x,.ty T]/\TyOf X.K H x t/\W.kitOne X.K t (.type T)=ap b/\Q (.bl b) H):=by
 rintro abP s Z H xs o Q I r ⟨x,T,t,b,rfl,ty,e,q⟩
 obtain⟨u,c,rfl,f,g⟩:=r.two;obtain rfl:c=Xt T:=g;exact E5 I f ty e λm=>#[.bl b,H,I.tok m,rfl,q]
theorem GW(Y:X.calm=true):bw X (.builtin "all") (λxs H Q=>∃(l:cp)(bs:List Bool),xs=[.ref l]/\SqL X.K H l (bs.map V.bl)/\Q (.bl<|bs.all id) H):=by
 rintro abP s Z H xs us Q I r ⟨l,bs,rfl,U,q⟩
 obtain⟨u,rfl,O⟩:=r.one;cases O;obtain⟨f,M,p,hz⟩:=I.list U;have hl:=M.length;have J:l<s.heap.objs.size:=by obtain⟨o,e,_⟩:=p.isList;exact UQ e
 have val:∀(i:Nat)(v:ax),f.toArray[i]?=ap v->∃c,bs[i]?=ap c/\v=.bool c:=λi v L=>by
  have m:f[i]?=ap v:=by simp_all
  have g:i<bs.length:=by
   have:=(Vx.mp m).1
   simp_all
  obtain⟨w',C,T⟩:=M.get (by rw[UT,UO g];rfl)
  rw[m]at C;cases C;exact#[_,UO g,T]
 have G:f.toArray.size=bs.length:=by simp_all
 refine call_all_walk (vr p.isList #[_,_,_,_,_,_,λi=>bs.getD i cx,rfl,Walks.list (A:=X.A.in1) (I.ok.hd Y) _ l (Vg J) _,#[#[_,US _ rfl,rfl,rfl],p.isList.push _],λi v s' Q' E' L N=>?_,λh' W R=>?_])
 .obtain⟨c,C,rfl⟩:=val i v L
  refine sg ?_
  simp_all
 have e:(Vc f.toArray.size).all (λi=>bs.getD i cx)=bs.all id:=by
  rw[G,WW,YG,YG];constructor
  .intro h b B
   obtain⟨i,g,rfl⟩:=List.mem_iff_getElem.mp B;have:=h i (VI.mpr g)
   rwa [Xy,UO g]at this
  .intro h i g
   have y:=VI.mp g;rw[Xy,UO y];exact h _ (X1 y)
 rw[e];refine#[.bl (bs.all id),H,?_,rfl,q];exact I.kept (t':=W) λb o B=>R b o (by simp;exact Vg (UQ B)) (UN _ B)
theorem f_:aa5 table "zip.__getattribute__"=ap Builtin.«object.__getattribute__»:=
 entryFor_alias (id':="object.__getattribute__") (by kernel_rfl) (by decide +kernel) (by decide +kernel) (by kernel_rfl)
theorem kg:w6 (.type "zip") "__getattr__"=pure none:=by rfl
theorem wC:w6 (.type "zip") "keys"=pure none:=by rfl
theorem eJ:aa5 table "dict.update.loop"=ap Builtin.«dict.update.loop»:=entryFor_of_fast (by kernel_rfl)
theorem ci:plainId "dict.update.loop"=true:=by decide +kernel
theorem nC(a TI TO:cp)(f0:ax)(f1:Bool)(name:Str)(u:Tok)(f:w6 (.type "zip") name=pure ca)(c:(["__module__","__name__","__qualname__","__doc__","__annotations__"]:abY).contains name=cx)(hsz:name.length+100<=sizeLine:=by size_fits):
  Meets (Builtin.«object.__getattribute__» #[[.ref a,.str name u],[]]) (λA R s=>pR s.heap a TI TO f0 f1/\raisesAttr (.ref a) name A R s):=
 Meets.of_wp λprog w A R s e=>by
  obtain⟨q,g,d,p,m⟩:=s;obtain⟨o,e⟩:=e;have r:(#[q,g,d,p,m]:cb).TypeIs (.ref a) "zip":=#[_,o,rfl]
  repeat (any_goals (first|assumption|wp_step))
  simp only[c,VS,if_false]
  repeat (any_goals (first|assumption|wp_step))
  exact wpAny_raiseAttrError e.1 e.2 (attrMsg_fits (by decide +kernel) hsz)
theorem qc{TI TO:cp}(q:pR s.heap a TI TO f0 f1)(y:A.handled=ca)(h:∀h' p,(∀b o,s.heap.get? b=ap o->h'.get? b=ap o)->Q ca { s with heap:=h',toks:=p }):eg (eH prog w) A (Z' (.ref a) "keys") Q E s:=by
 obtain⟨v,g,d,p,r⟩:=s;have m:∀f,(#[v,g,d,f,r]:cb).TypeIs (.ref a) "zip":=λ_=>#[_,q,rfl];have u:=sub_AttributeError;have C:=X8.lookup;have G:=X8.bind (.ref a);have J:=kg;unfold Z' getAttrBy? getAttrBy
 repeat (any_goals (first|assumption|exact m _|((with_reducible show eg _ _ (call (Value.builtin "zip.__getattribute__") _ _) _ _ _);refine n7 X8 (m _) f_ (F.args_zip_getattribute_2 _ _) (nC a TI TO f0 f1 "keys" _ wC (by decide +kernel)<|by decide +kernel) #[q,y,λh' f e c=>?_])|wp_step))
 obtain⟨B,L,I⟩:=c.there;show eg _ _ (B' _ _ _ _ _ _ _) _ _ _;unfold B'
 repeat (any_goals (first|assumption|wp_step))
 exact h _ _ c.keeps
def yq(h:g3)(T:cp)(k v:ax):Prop:=∃o n,h.get? T=ap o/\o.cls=.type "tuple"/\o.data=.seq (Tw [k,v]) n
structure PSrc(prog:eX)(w:gl)(d it:cp)(ps:List (ax×ax))(fp:ab0)(St:Nat->g3->Prop):Prop where
 off:d∉fp
 stay:∀i h h',St i h->(∀b o,b≠d->h.get? b=ap o->h'.get? b=ap o)->St i h'
 item:∀(A:f')(i:Nat)(hi:i<ps.length)(s:cb)(Q:Option ax->cb->Prop)(E:ab3),A.handled=ca->d<s.heap.objs.size->St i s.heap->
  (∀h' T,St (i+1) h'->yq h' T ps[i].1 ps[i].2->(∀c o,c∉fp->s.heap.get? c=ap o->h'.get? c=ap o)->Q (ap<|.ref T) { s with heap:=h' })->eg (eH prog w) A (vw<|.ref it) Q E s
 done:∀(A:f')(s:cb)(Q:Option ax->cb->Prop)(E:ab3),A.handled=ca->St ps.length s.heap->(∀h',(∀c o,c∉fp->s.heap.get? c=ap o->h'.get? c=ap o)->Q ca { s with heap:=h' })->eg (eH prog w) A (vw<|.ref it) Q E s
theorem xJ{St:Nat->g3->Prop}(Y:A.handled=ca)(C:PSrc prog w d it f fp St)(P:Nat->g3->Prop)(Pd:∀i h,P i h->∃o,h.get? d=ap o)(stay:∀i h h',P i h->(∀b o,b∉fp->h.get? b=ap o->h'.get? b=ap o)->P i h')(step:∀(i:Nat)(W:i<f.length)(s:cb)(Q:Unit->cb->Prop)(E:ab3),P i s.heap->(∀h' u,P (i+1) h'->VZ d s.heap h'->Q () { s with heap:=h',toks:=u })->eg (eH prog w) A.in1 (dictSet d f[i].1 f[i].2) Q E s):
  ∀(n i:Nat)(s:cb),n=f.length-i->i<=f.length->St i s.heap->P i s.heap->
   (∀p:cb,p.os=s.os->p.gens=s.gens->p.drawn=s.drawn->P f.length p.heap->(∀c o,c∉fp->c≠d->s.heap.get? c=ap o->p.heap.get? c=ap o)->R (.ok<|.ret .none) p)->
   ∀u:Nat,x9 (eH prog w) A (.builtin "dict.update.loop" #[[.ref d,.ref it,ra u,.none],[]]) R s:=by
 intro n
 induction n with
 |zero=>
  intro i s hn W q G hR u;have N:i=f.length:=by lia
  subst N;refine abg eJ ?_;rw[ZD ci _];show eg _ A.in1 (vw (.ref it) >>= _) _ _ s;refine ay (C.done A.in1 s _ _ Y q λh' v=>?_);exact ay (m:=Builtin.Dict.addKeywords d []) (eC<|wpAny_pure (hR _ rfl rfl rfl (stay _ _ _ G v) λc o B I e=>v c o B e))
 |succ n ih=>
  intro i s hn W q G hR u;have r:i<f.length:=by lia
  obtain⟨od,hd⟩:=Pd _ _ G;refine abg eJ ?_;rw[ZD ci _];show eg _ A.in1 (vw (.ref it) >>= _) _ _ s;refine ay (C.item A.in1 i r s _ _ Y (UQ hd) q λh' T y ⟨oT,m,U,e2,e3⟩ k1=>?_);have J:({ s with heap:=h' }:cb).TypeIs (.ref T) "tuple":=#[_,U,e2];refine ay (kr<|wpAny_bind<|wpAny_tryCatch ?_);unfold Builtin.Dict.pairItems;refine ay (UV J ?_);rw[if_pos (by decide)]
  refine ay (s9 (s:={ s with heap:=h' }) U e3<|wpAny_pure ?_);show eg _ _ (o4 [f[i].1,f[i].2]<|dictSet d f[i].1 f[i].2) _ _ _;refine kr (step i r { s with heap:=h' } _ _ (stay i _ _ G k1) λO L M g=>eC #[plainId_quiet ci _,?_]);exact ih (i+1) { s with heap:=O,toks:=L } (by lia) r (C.stay _ _ _ y λb o hb e=>g.extBut b o hb e) M (λp q1 q2 q3 q4 q5=>hR p q1 q2 q3 q4 λc o B I e=>q5 c o B I (g.extBut c o I<|k1 c o B e)) (u+1)
namespace F
theorem vR:mroOf (.type "dict")=pure [.type "dict",.type "object"]:=by rfl
theorem ET:w6 (.type "dict") "__new__"=pure (ap<|.builtin "dict.__new__"):=by rfl
theorem called_dict:TypeCalled "dict" "dict.__new__" "dict.__init__":=
 #[by rfl,by rfl,#[_,_,vR],madeBy_type vR (by trivial) (by decide +kernel),by decide +kernel,by rfl,PySem.F.slot_dict_init]
theorem typeCall_dict_1(a:ax):X_ "dict" #[[a],[]]=pure ():=by kernel_rfl
theorem newCall_dict_1(a:ax):P' "dict.__new__" #[[.type "dict",a],[]]=pure ():=by kernel_rfl
theorem entry_dict_new:aa5 table "dict.__new__"=ap Builtin.«dict.__new__»:=entryFor_of_tree (by kernel_rfl)
theorem plain_dict_new:plainId "dict.__new__"=true:=by decide +kernel
theorem sub_dict:isSubtype (.type "dict") (.type "dict")=pure true:=by rfl
end F
theorem pV(a:ax)(h:Q₁ (.ref s.heap.objs.size) { s with heap:=s.heap.push { cls:=.type "dict",data:=.dict (Tw []) } }):
  x9 (eH prog w) A (.call (.builtin "dict.__new__") #[[.type "dict",a],[]]) (wants Q₁ E) s:=by
 refine codeAny_call_builtin F.plain_dict_new F.entry_dict_new (F' (F.newCall_dict_1 a) ?_);have c:=F.sub_dict
 wp_walk
 exact h
theorem yx{fq:ab0}(J:A.handled=ca)(P:Nat->g3->Prop)(hT:∃o,s.heap.get? l=ap o/\o.cls=.type T)(ht:(Xt T != Xt "dict")=true)(keys:∀(A':f')(f:cb)(Q:Option ax->cb->Prop)(E:ab3),A'.handled=ca->(∀b o,s.heap.get? b=ap o->f.heap.get? b=ap o)->(∀h' G,(∀b o,f.heap.get? b=ap o->h'.get? b=ap o)->Q ca { f with heap:=h',toks:=G })->eg (eH prog w) A' (Z' (.ref l) "keys") Q E f)(iter:∀(A':f')(f:cb)(Q:ab3)(E:ab3),(∀b o,s.heap.get? b=ap o->f.heap.get? b=ap o)->s.heap.objs.size<f.heap.objs.size->
   (∀h' it fp St,(∀b o,f.heap.get? b=ap o->h'.get? b=ap o)->PSrc prog w s.heap.objs.size it p fp St->St 0 h'->(∀b∈fp,b∈fq\/s.heap.objs.size<b)->Q (.ref it) { f with heap:=h' })->eg (eH prog w) A' (Z_<|.ref l) Q E f)(Pd:∀i h,P i h->∃o,h.get? s.heap.objs.size=ap o)(h0:∀h',(∀b o,s.heap.get? b=ap o->h'.get? b=ap o)->h'.get? s.heap.objs.size=ap { cls:=.type "dict",data:=.dict (Tw []) }->P 0 h')(stay:∀i h h',P i h->(∀b o,b∉fq->b<=s.heap.objs.size->h.get? b=ap o->h'.get? b=ap o)->P i h')(step:∀(i:Nat)(hi:i<p.length)(f:cb)(Q:Unit->cb->Prop)(E:ab3),P i f.heap->(∀h' G,P (i+1) h'->VZ s.heap.objs.size f.heap h'->Q () { f with heap:=h',toks:=G })->eg (eH prog w) A.in1.in1 (dictSet s.heap.objs.size p[i].1 p[i].2) Q E f)(h:∀f:cb,f.os=s.os->f.gens=s.gens->f.drawn=s.drawn->P p.length f.heap->(∀c o,c∉fq->s.heap.get? c=ap o->f.heap.get? c=ap o)->Q (.ref s.heap.objs.size) f):
  eg (eH prog w) A (call (.type "dict") [.ref l]) Q E s:=by
 refine callType_codes (Q₁:=λobj m=>obj=.ref s.heap.objs.size/\m={ s with heap:=s.heap.push { cls:=.type "dict",data:=.dict (Tw []) } }) F.called_dict (F.typeCall_dict_1 _) PySem.F.entry_dict_init (pV _ #[rfl,rfl]) ?_
 rintro obj m ⟨rfl,rfl⟩
 have up:∀c o,s.heap.get? c=ap o->(s.heap.push { cls:=.type "dict",data:=.dict (Tw []) }).get? c=ap o:=λc o e=>UN _ e;have g:(s.heap.push { cls:=.type "dict",data:=.dict (Tw []) }).get? s.heap.objs.size=ap { cls:=.type "dict",data:=.dict (Tw []) }:=US _ rfl;have y:({ s with heap:=s.heap.push { cls:=.type "dict",data:=.dict (Tw []) } }:cb).TypeIs (.ref s.heap.objs.size) "dict":=#[_,g,rfl];refine#[y,PySem.F.args_dict_init_2 _ _,?_];unfold Builtin.«dict.__init__» Builtin.Dict.selfAndRest;refine ay (ay<|wpAny_notOrdered_dict y<|wpAny_pure ?_);show eg _ _ (YA "dict.__init__" s.heap.objs.size (.ref l) [] .none) _ _ _;unfold YA;obtain⟨L,R,N⟩:=hT;refine ay (UV (T:=T) #[L,up _ _ R,N] ?_);rw[if_pos ht];refine ay (keys _ _ _ _ J up λu q hk₁=>?_);rw[if_pos (show (none:Option ax).isNone=true from rfl)];have r:=hk₁ _ _ g;refine ay (U_<|wpAny_bind (iter _ { s with heap:=u,toks:=q } _ _ (λc o e=>hk₁ c o (up c o e)) (UQ r) λv it fp St k₂ C B I=>eC #[plainId_quiet ci _,?_]))
 exact xJ (A:=A.in1) J C P Pd (λi h h' O Y=>stay i h h' O λb o n le e=>Y b o (λz=>(I b z).elim n λlt=>Yr.2 le lt) e) step p.length 0 { s with heap:=v,toks:=q } (by simp) (W2 _) B (h0 _ (λb o e=>k₂ b o (hk₁ b o<|up b o e))<|k₂ _ _ r)
  (λf U q2 q3 M W=>#[rfl,h f U q2 q3 M λc o n e=>W c o (λz=>(I c z).elim n λlt=>Nat.lt_asymm lt (UQ e)) (Vg<|UQ e) (k₂ c o<|hk₁ c o<|up c o e)]) 0
structure ZPr(z TI TO d:cp)(S:List ZS)(F:ZS->List ax)(i:Nat)(h:g3):Prop where
 hz:∃f0 f1,pR h z TI TO f0 f1/\(f0=.none/\f1=cx/\(∃vs:List ax,vs.length=S.length/\iW h TO vs)\/∃(T:cp)(oT:Obj),f0=ra T/\h.get? T=ap oT/\T≠d/\T∉qf z TI TO S)
 hTI:iW h TI (S.map λt=>.ref t.i)
 st:Jl S i h
 sq:∀t∈S,SrcSq t.b h t.l (F t).toArray
theorem JF{TI TO:cp}{F:ZS->List ax}(D:ZOk z TI TO S)(U:S.map F=[xs,ys])(hd:d∉qf z TI TO S)(W:∀t∈S,t.l≠d)(len:xs.length=ys.length):
  PSrc prog w d z (xs.zip ys) (qf z TI TO S) (ZPr z TI TO d S F) where
 off:=hd
 stay:=λi h h' p k=>by
  have ne:∀b∈qf z TI TO S,b≠d:=λb B e=>hd (e▸B);obtain⟨⟨f0,f1,q,r⟩,g,p,sq⟩:=p;refine#[#[f0,f1,k _ _ (ne z<|by simp) q,?_],k _ _ (ne TI<|by simp) g,λt f=>(p t f).keep λo e=>k _ o (ne t.i<|by simp[Vq f]) e,λt f=>(sq t f).keep λo e=>k _ o (W t f) e]
  rcases r with⟨a,b,Y,l,e⟩|⟨T,y,a,b,c,e⟩
  .exact .inl #[a,b,Y,l,k _ _ (ne TO<|by simp) e]
  .exact .inr #[T,y,a,k _ _ c b,c,e]
 item:=by
  intro A i hi s Q E I dl p R;obtain⟨⟨f0,f1,q,r⟩,g,p,sq⟩:=p;have hx:i<xs.length:=by rw[YT]at hi;lia
  have hy:i<ys.length:=by lia
  obtain⟨N,zTO,TITO,ni⟩:=n8 D;have pr:∀m:List ax,m.map ap=S.map (λt=>(F t)[i]?)->m=[xs[i],ys[i]]:=λm e=>by
   have:S.map (λt=>(F t)[i]?)=(S.map F).map (·[i]?):=by rw[Vf];rfl
   rw[this,U]at e;rcases m with _|⟨u,_|⟨v,_|⟨_,_⟩⟩⟩<;>simp[hx,hy]at e ⊢
   exact e
  have no:∀t∈S,(F t)[i]?≠none:=λt f e=>by
   have:F t∈S.map F:=Vq f;rw[U]at this;have W:(F t).length<=i:=XH.1 e;simp at this;rcases this with e|e<;>rw[e]at W<;>lia
  have G:∀b∈qf z TI TO S,b<s.heap.objs.size\/b=TO:=λb B=>by
   simp at B;rcases B with rfl|rfl|rfl|⟨t,f,rfl⟩
   .exact .inl (UQ q)
   .exact .inl (UQ g)
   .exact .inr rfl
   .obtain⟨o,e,_⟩:=(p t f).lt
    exact .inl (UQ e)
  have up:∀{c:cp},c∉qf z TI TO S->c∉z::TO::S.map ZS.i:=λn x=>n (by
   simp only[qf,UU]at x ⊢;exact x.imp id .inr)
  refine lJ (F:=λt=>(F t)[i]?) I D q (r.imp id λ⟨T,y,a,b,_⟩=>#[T,y,a,b]) g p (λt f=>#[_,sq t f,by simp]) (λh' m e a L hT C=>?_) (by rintro h' ⟨t,f,eo⟩ _;exact absurd eo (no t f))
  have O:=λc o n=>C c o (up n);refine R h' _ #[?_,C _ _ ?_ g,L,λt f=>(sq t f).keep λo e=>O _ o (D.off t f) e] #[_,0,hT,rfl,by rw[pr m e];simp] O
  .rcases r with⟨rfl,rfl,Y,hv,M⟩|⟨T,y,rfl,hT',nd,nf⟩
   .obtain⟨_,J,_⟩|⟨n,_⟩:=a
    case inr=>exact absurd rfl n
    refine#[_,_,J,.inr #[_,_,rfl,hT,WN dl,λB=>?_]];rcases G _ B with lt|e
    .exact VC _ lt
    .exact VC _ (e▸UQ M)
   .obtain⟨n,_⟩|⟨_,J⟩:=a
    .cases n
    .exact#[_,_,J,.inr #[_,_,rfl,O _ _ nf hT',nd,nf]]
  .simp
   exact#[N.symm,TITO,λt f=>(ni t f).2.1]
 done:=by
  intro A s Q E I p R;obtain⟨⟨f0,f1,q,r⟩,g,p,sq⟩:=p;have no:∀m:List ax,m.map ap≠S.map (λt=>(F t)[(xs.zip ys).length]?):=λm e=>by
   have:S.map (λt=>(F t)[(xs.zip ys).length]?)=(S.map F).map (·[(xs.zip ys).length]?):=by rw[Vf];rfl
   rw[this,U]at e;rcases m with _|⟨u,m⟩<;>simp[len]at e
  refine lJ I D q (r.imp id λ⟨T,y,a,b,_⟩=>#[T,y,a,b]) g p (λt f=>#[_,sq t f,by simp]) (λh' m e=>absurd e (no m)) λh' _ C=>R h' λc o n=>C c o λx=>n ?_
  simp only[qf,UU]at x ⊢;exact x.imp id .inr
theorem kd:fillsNumberSlot (.type "tuple") "mul"=pure false:=
 PySem.fillsNumberSlot_seq WY.lookup (by decide +kernel) rfl (by decide +kernel)
theorem uI:seqRepeat? (.type "tuple")=pure (ap<|.builtin "tuple.__mul__"):=by
 rfl
theorem pe(a:Int)(t:Tok)(l:cp)(items:ab6)(n:Nat)(dd:Option cp)(c:Array (Option ax)):
  Meets (Builtin.«int.__rmul__» #[[.int a t,.ref l],[]]) (λ_ R s=>s.heap.get? l=ap { cls:=.type "tuple",dict:=dd,data:=.seq items n,slots:=c }/\R (.ok<|.ret Value.notImplemented) s):=
 .of_wp λprog w A R s h=>by obtain⟨e,h⟩:=h;wp_walk;simp_all
theorem nV(l:cp)(items:ab6)(n:Nat)(dd:Option cp)(B:Array (Option ax))(x:Int)(u:Tok)(U:1<x)(C:x<=1000)(G:items.size<=1000)(q:items.isEmpty=cx):
  Meets (Builtin.«tuple.__mul__» #[[.ref l,.int x u],[]]) (λ_ R s=>s.heap.get? l=ap { cls:=.type "tuple",dict:=dd,data:=.seq items n,slots:=B }/\
   R (.ok<|.ret<|.ref s.heap.objs.size) { s with heap:=s.heap.push { cls:=.type "tuple",data:=.seq ((Vl x.toNat items).foldl (·++·) (Tw [])) } }):=
 .of_wp λprog w A R s h=>by
  obtain⟨M,g,d,T,N⟩:=s;obtain⟨m,h⟩:=h;have f1:=AutoSeq1.idx_int;have J:=AutoSeq1.sub_tuple_tuple;have r:(decide (x < -(2 ^ 63))||decide (x>=2 ^ 63))=false:=by simp;lia
  have y:(items.isEmpty||x==1)=false:=by rw[q];simp;lia
  have v:(decide (x<=0)||items.isEmpty)=false:=by rw[q];simp;lia
  have I:(items.size:Int)*x<=1000000:=by
   have L:(items.size:Int)*x<=1000*x:=Int.mul_le_mul_of_nonneg_right (by lia) (by lia)
   lia
  have p:¬((items.size:Int)*x>(2 ^ 63-1) / 8):=by lia
  have o:Yj ((items.size:Int)*x)=false:=by
   unfold Yj;have:(1000000:Int)<=(sizeLine:Int):=by decide
   exact decide_eq_false (by lia)
  wp_walk using kB m
  try simp only[r,VS,if_false]
  wp_walk using kB m
  try simp only[y,VS,if_false]
  wp_walk using kB m
  try simp only[v,VS,if_false]
  wp_walk using kB m
  rw[if_neg p];simp only[o,VS,if_false];unfold Builtin.Tuple.tupleExact;have f:((Vl x.toNat items).foldl (·++·) (Tw [])).toList.length<=sizeLine:=by
   have e:∀(k:Nat)(c:ab6),((Vl k items).foldl (·++·) c).size=c.size+k*items.size:=by
    intro k
    induction k with
    |zero=>intro c;simp
    |succ k ih=>intro c;rw[Wn,Wa,ih,Array.size_append,Nat.succ_mul];lia
   rw[Wm,e];have:x.toNat*items.size<=1000*1000:=XF (by lia) G
   have O:(1000*1000:Nat)<=sizeLine:=by decide
   simp only[Ve,Ww]at *;lia
  refine ay (z5 (eC #[_,rfl,?_]) f);simpa using h
theorem pX(l:cp)(items:ab6)(n:Nat)(dd:Option cp)(e:Array (Option ax))(u:Tok):
  Meets (Builtin.«tuple.__mul__» #[[.ref l,.int 1 u],[]]) (λ_ R s=>s.heap.get? l=ap { cls:=.type "tuple",dict:=dd,data:=.seq items n,slots:=e }/\R (.ok<|.ret<|.ref l) s):=
 .of_wp λprog w A R s h=>by
  obtain⟨c,h⟩:=h
  wp_walk using kB c
  simp_all
theorem nO(l:cp)(items:ab6)(n:Nat)(dd:Option cp)(f:Array (Option ax))(x:Int)(u:Tok)(p:x<=0)(m:-1000<=x)(g:items.isEmpty=cx):
  Meets (Builtin.«tuple.__mul__» #[[.ref l,.int x u],[]]) (λ_ R s=>s.heap.get? l=ap { cls:=.type "tuple",dict:=dd,data:=.seq items n,slots:=f }/\
   R (.ok<|.ret<|.ref s.heap.objs.size) { s with heap:=s.heap.push { cls:=.type "tuple",data:=.seq (Tw []) } }):=
 .of_wp λprog w A R s h=>by
  obtain⟨c,h⟩:=h;have o:(decide (x < -(2 ^ 63))||decide (x>=2 ^ 63))=false:=by simp;lia
  have e:(items.isEmpty||x==1)=false:=by rw[g];simp;lia
  wp_walk using kB c
  try simp_all
  wp_walk using kB c
  try simp only[e,if_false]
  wp_walk using kB c
  simp_all
theorem DC(I:s.heap.IsTuple l abV.toArray)(U:abV≠[])(L:0<=k)(M:k<=1000)(T:abV.length<=1000)(J:k=1->Q (.ref l) s)(N:k≠1->Q (.ref s.heap.objs.size) { s with heap:=s.heap.push { cls:=.type "tuple",data:=.seq (Vl k.toNat abV).flatten.toArray } }):
  eg (eH prog w) A (hG .Mult (.ref l)<|.int k u) Q E s:=by
 obtain⟨⟨cls,o,data,g⟩,e,r,n,B⟩:=I;subst r B;have q:abV.toArray.isEmpty=false:=by simp_all
 refine wpAny_binaryOp_repeat_ref (by decide) #[_,e,rfl] (λy=>typeIs_int y k u) kd PySem.F.fills_int_mul Zn uI rfl
  (n7 Zn rfl PySem.F.entry_int_rmul (PySem.F.args_int_rmul_2 _ _) (pe k u l _ n o g) #[e,rfl,#[_,e,rfl],?_])
 by_cases f:k=1
 .subst f
  exact n7 WY #[_,e,rfl] XM (XC _ _) (pX l _ n o g u) #[e,J rfl]
 .have C:=N f
  by_cases p:k<=0
  .refine n7 WY #[_,e,rfl] XM (XC _ _) (nO l _ n o g k u p (by lia) q) #[e,?_]
   have O:k.toNat=0:=by lia
   simp_all
  .refine n7 WY #[_,e,rfl] XM (XC _ _) (nV l _ n o g k u (by lia) M (by assumption) q) #[e,?_]
   have R:∀(m:Nat)(c:List _),List.foldl (λx1 v=>x1++v) c.toArray (Vl m abV.toArray)=(c++(Vl m abV).flatten).toArray:=by
    intro m
    induction m with
    |zero=>simp
    |succ m ih=>
     intro c;have G:c.toArray++abV.toArray=(c++abV).toArray:=by simp
     rw[Wn,Wa,G,ih,Wn,List.flatten_cons,List.append_assoc]
   simp_all
theorem GY:cX X (hG .Add) (λx y H Q=>∃a b ys,x=.ref a/\y=.ref b/\kU X.K H a []/\kU X.K H b ys/\Q (.ref b) H):=by
 intro abP s Z H x y v u Q I O ry h;obtain⟨a,b,ys,rfl,rfl,ha,hb,q⟩:=h;cases O;cases ry;obtain⟨m,Y,T,_⟩:=I.tuple ha;obtain⟨f,r2,W,_⟩:=I.tuple hb;obtain rfl:m=[]:=Y.zero;obtain⟨⟨R,U,C,M⟩,B,J,n,L⟩:=id T;obtain⟨⟨G,r,o,p⟩,e,g,N,c⟩:=id W;simp only at J L g c;subst J L g c
 exact abF #[_,B,rfl] #[_,e,rfl] aba abu XW XN (XD _ _)
  (tuple_addW0 a b (Tw []) f.toArray n N U r M p rfl) #[B,e,#[.ref b,H,I,rfl,q]]
theorem GX(e:n.log2<2000)(f:0<n):cX X (hG .FloorDiv) (rI (λ_ j=>j=(n:Int)) λi j=>.int (i / j)):=RK λi j _ _ _ _ _ c q=>by
 subst c;refine floordiv_int (by lia) ?_ (.inl<|PyProof.noPylong_of_log2<|by simpa using X9 e (by decide))
 rw[Int.fdiv_eq_ediv_of_nonneg _ (by lia)]
 exact q
def FL(K:UP)(b1 b2:Bool)(t:TA):TE:=λZ H Q=>t Z H λc H1=>∃(l1 l2:cp)(ks:List aD)(ys:List V),c=[.ref l1,.ref l2]/\oZ K b1 H1 l1 (ks.map kV)/\oZ K b2 H1 l2 ys/\ks.length=ys.length/\0<ks.length/\ks.length<=1000/\
 ∀d,H1 d=ca->Q (.ref d) (upd H1 d<|.dK<|(ks.zip ys).foldl (λa p=>fD a p.1 p.2) [])
theorem xE{k:aD}:(ZB xs k u).length<=xs.length+1:=by
 unfold ZB
 split
 .rw[UM];lia
 simp
theorem kC:∀(rs xs:List (aD×ax)),(rs.foldl (λa r=>ZB a r.1 r.2) xs).length<=xs.length+rs.length
 |[],xs=>by simp
 |r::rs,xs=>by
  have:=kC rs (ZB xs r.1 r.2);have:=xE (xs:=xs) (k:=r.1) (u:=r.2);rw[Wa,Vh];lia
theorem Do:∀{abR:List (aD×V)}{rs:List (aD×ax)},KV abR rs->∀{a:List (aD×V)}{xs:List (aD×ax)},KV a xs->KV (abR.foldl (λa p=>fD a p.1 p.2) a) (rs.foldl (λa r=>ZB a r.1 r.2) xs)
 |_,_,.nil,a,xs,h=>h
 |_,_,.cons h t,a,xs,h0=>by
  rw[Wa,Wa];refine Do t ?_;rw[<- h.1];exact h0.put _ h.2
theorem nL{rs:List (aD×ax×ax)}{fq:ab0}(hc:X.calm=true)(I:Inv X abP Z H g)(o1:s.os=g.os)(o2:s.gens=g.gens)(o3:s.drawn=g.drawn)(k0:∀c o,g.heap.get? c=ap o->s.heap.get? c=ap o)(sz:g.heap.objs.size<=s.heap.objs.size)(B:∀b∈fq,g.heap.objs.size<=b/\b<s.heap.objs.size)(kv:KV abR (rs.map λr=>(r.1,r.2.2)))(u:∀r∈rs,(aU X.prog X.w).is r.1 r.2.1=true)(hz:rs.length<=1000000)(hT:∃o,s.heap.get? l=ap o/\o.cls=.type T)(ht:(Xt T != Xt "dict")=true)(keys:∀(A':f')(f:cb)(Q:Option ax->cb->Prop)(E:ab3),A'.handled=ca->(∀b o,s.heap.get? b=ap o->f.heap.get? b=ap o)->(∀h' tk,(∀b o,f.heap.get? b=ap o->h'.get? b=ap o)->Q ca { f with heap:=h',toks:=tk })->eg (eH X.prog X.w) A' (Z' (.ref l) "keys") Q E f)(iter:∀(A':f')(f:cb)(Q:ab3)(E:ab3),(∀b o,s.heap.get? b=ap o->f.heap.get? b=ap o)->s.heap.objs.size<f.heap.objs.size->
   (∀h' it fp St,(∀b o,f.heap.get? b=ap o->h'.get? b=ap o)->PSrc X.prog X.w s.heap.objs.size it (rs.map λr=>(r.2.1,r.2.2)) fp St->St 0 h'->(∀b∈fp,b∈fq\/s.heap.objs.size<b)->Q (.ref it) { f with heap:=h' })->eg (eH X.prog X.w) A' (Z_<|.ref l) Q E f)(q:∀p,H p=ca->Q (.ref p) (upd H p<|.dK<|abR.foldl (λa p=>fD a p.1 p.2) [])):
  eg (eH X.prog X.w) X.A (call (.type "dict") [.ref l]) (EP X abP Z Q) X.xe s:=by
 refine yx (I.ok.hd hc) (λi h=>h.DictOf (aU X.prog X.w) _ (((rs.take i).map λr=>(r.1,r.2.2)).foldl (λa r=>ZB a r.1 r.2) [])) hT ht keys iter (by rintro i h ⟨o,C,J,e,_⟩;exact#[o,e]) ?_ ?_ ?_ ?_
 .intro h' R hd
  obtain⟨o,C,J,G,r⟩:=Heap.DictOf.new (knd:=aU X.prog X.w) s.heap;rw[US _ rfl]at G;cases G;exact#[_,C,J,hd,r]
 .rintro i h h' ⟨o,C,J,G,r⟩ L
  exact#[o,C,J,L _ o (λz=>VC _ (B _ z).2) (UX _) G,r]
 .rintro i W f Q' E' hd hQ
  have y:i<rs.length:=by simpa using W
  simp;have m:(((rs.take i).map λr=>(r.1,r.2.2)).foldl (λa r=>ZB a r.1 r.2) []).length<=sizeLine:=by
   have:=kC ((rs.take i).map λr=>(r.1,r.2.2)) [];have h2:(1000000:Nat)<=sizeLine:=by decide
   simp only[Ww,UM,X0]at this;lia
  refine wpAny_dictSet_pairs (u rs[i] (X1 y)) hd (λh' N sb=>hQ h' _ ?_ sb) m;rw[Yt y,V9,List.foldl_append];exact N
 .rintro f p1 p2 U hd R
  simp at hd;have O:=I.big;have Y:=I.hok.fresh sz;obtain⟨hh',g',d',t',M⟩:=f;obtain rfl:M=g.os:=p1.trans o1;obtain rfl:g'=g.gens:=p2.trans o2;obtain rfl:d'=g.drawn:=U.trans o3;refine#[.ref _,_,I.laid (t':=t') (λc o e=>R c o (λz=>Yr.2 (B c z).1 (UQ e)) (k0 c o e)) sz ?_,rfl,q _ Y];have v:=Do kv (a:=[]) (xs:=[]) .nil;refine tW ?_ (by lia) v hd
  rw[Wh v];have:=kC (rs.map λr=>(r.1,r.2.2)) [];have h2:(1000000:Nat)<=sizeLine:=by decide
  simp at this;lia
theorem Hw:∀{ks:List aD}{abV:abZ}{ys:List V}{us:abZ},Vals (ks.map kV) abV->Vals ys us->ks.length=ys.length->
  KV (ks.zip ys) ((ks.zip<|abV.zip us).map λr=>(r.1,r.2.2))/\(∀r∈ks.zip (abV.zip us),(aU P w).is r.1 r.2.1=true)/\(ks.zip<|abV.zip us).map (λr=>(r.2.1,r.2.2))=abV.zip us
 |[],_,_,_,.nil,.nil,_=>#[.nil,by simp_all,rfl]
 |[],_,_::_,_,_,_,h=>by simp at h
 |_::_,_,[],_,_,_,h=>by simp at h
 |k::ks,_,y::ys,_,.cons r t,.cons r' t',h=>by
  obtain⟨a,b,c⟩:=Hw t t' (by simpa using h)
  exact#[.cons #[rfl,r'] a,λq f=>(UU.1 f).elim (λe=>by subst e;exact jp r) (b q),by simpa using c]
theorem yH{a b:fv}(b1 b2:Bool)(hc:X.calm=true)(hg:Gl X "zip")(hm:X.mg "zip"=ca)(hg2:Gl X "dict")(hm2:X.mg "dict"=ca)(ha:PA X [a,b] ta)(hs:cT [a,b] X.env=[(cx,fx a X.env),(cx,fx b X.env)]:=by rfl)(hs2:cT [b] X.env=[(cx,fx b X.env)]:=by rfl)(hs3:cT [Zu (.Name "zip" p2) [a,b] [] c] X.env=[(cx,fx (.Call (.Name "zip" p2) [a,b] [] c) X.env)]:=by rfl):
  PE X (.Call (.Name "dict" p) [.Call (.Name "zip" p2) [a,b] [] c] [] pos) (FL X.K b1 b2 ta):=by
 intro abP s Z H Q I h;refine Call_ (dy I hg2 hm2 (by decide +kernel:ff "dict"=ap (.type "dict"))<|Vt ?_ hs3 rfl)
 rw[hs3];show eg _ _ (spliced ((cx,_)::ix pos [])) _ _ s;refine Wq ?_;refine Call_ (dy I hg hm (by decide +kernel:ff "zip"=ap (.type "zip"))<|Vt (bv (ha c abP s Z H _ I h) λus L zz=>?_) (by rw[hs,hs2])<|by rw[hs2];rfl)
 obtain⟨vs,H1,I1,r1,q1⟩:=zz;obtain⟨l1,l2,ks,ys,e,q1,q2,hl,h0,hz,q⟩:=q1;subst e;obtain⟨u1,u2,rfl,ru1,ru2⟩:=r1.two;cases ru1;cases ru2;obtain⟨r,U,J,z1⟩:=I1.src q1;obtain⟨y,R,C,z2⟩:=I1.src q2;refine qQ (args:=[(b1,l1),(b2,l2)]) (.inl rfl) (λp hp=>?_) λh' z TI TO S eS D g N O st Y W=>?_
 .simp only[UU,WI,or_false]at hp
  rcases hp with rfl|rfl
  .exact#[_,J]
  .exact#[_,C]
 refine W4 ?_;have e1:=U.length;have e2:=R.length;rw[UM]at e1;obtain⟨kv,B,eps⟩:=Hw (P:=X.prog) (w:=X.w) U R hl;have zt:ZTn z TI TO S 0 h':=#[g,N,#[_,by rw[UM],O],st]
 have G:∀b∈qf z TI TO S,b<h'.objs.size:=λb Y=>let ⟨o,e,_⟩:=zt.obj b Y;UQ e;have ll:∀t∈S,∃u,SrcSq t.b L.heap t.l u/\t.l<h'.objs.size:=λt ht=>by
  have:(t.b,t.l)∈[(b1,l1),(b2,l2)]:=eS▸Vq (f:=λt:ZS=>(t.b,t.l)) ht;have h:∃u,SrcSq t.b L.heap t.l u:=by
   simp only[UU,WI,or_false,Prod.mk.injEq]at this;rcases this with⟨e,e'⟩|⟨e,e'⟩<;>rw[e,e']
   .exact#[_,J]
   .exact#[_,C]
  obtain⟨u,q⟩:=h;refine#[u,q,?_];obtain⟨b,i,l⟩:=t;cases b with
  |true=>obtain⟨o,e,_⟩:=(show L.heap.IsList l u from q);exact UQ (W _ _ e)
  |false=>obtain⟨o,e,_⟩:=(show L.heap.IsTuple l u from q);exact UQ (W _ _ e)
 refine nL (s:={ L with heap:=h' }) (T:="zip") (rs:=ks.zip (r.zip y)) (abR:=ks.zip ys) (fq:=qf z TI TO S) hc I1 rfl rfl rfl W ?_ (λb h=>#[Y b h,G b h]) kv B (by simp only[YT];lia) #[_,g,rfl] (by decide) (λA' s' Q' E' hh m k=>qc (m _ _ g) hh k) (λA' s' Q' E' m lt k=>aa9 (m _ _ g) ?_) q
 .rcases Wc h'.objs.size L.heap.objs.size with lt|ge
  .have:=Y z (by simp);exact absurd (G z<|by simp) (Yr.2<|Vb (Xu lt) this)
  .exact ge
 .obtain⟨t,u,rfl⟩:=Ph (by have:=congrArg We eS;simpa using this)
  simp only[UR,VG,VQ,Prod.mk.injEq,and_true]at eS;obtain⟨⟨eb,el⟩,eb',el'⟩:=eS;have ne:u.i≠t.i:=A7 D (i:=1) (j:=0) rfl rfl (by decide)
  rw[eps]at k;refine k s'.heap z _ (ZPr z TI TO h'.objs.size [t,u] λv=>if v.i=t.i then r else y) (λ_ _ e=>e) (JF D (by simp[ne]) (λh=>VC _ (G _ h)) (λv M=>let ⟨_,_,h⟩:=ll v M;Vg h)<|by lia) ?_ λb h=>.inl h
  refine#[#[_,_,m _ _ g,.inl #[rfl,rfl,_,by rw[UM],m _ _ O]],m _ _ N,λv M=>(st v M).keep λo e=>m _ o e,λv M=>?_]
  simp only[UU,WI,or_false]at M;rcases M with rfl|rfl
  .rw[if_pos rfl,eb,el]
   exact J.keep λo e=>m _ o (W _ o e)
  .rw[if_neg ne,eb',el']
   exact C.keep λo e=>m _ o (W _ o e)
end _2
namespace _2
open PySem PySem.Spec PyProof.Rows
variable{h:g3}{s:cb}{w:gl}
theorem pA(f:Nat->g->Sem (ForInStep g))(I:Nat->g->cb->Prop)(Q:g->cb->Prop)(a:∀i b s,i<n->I i b s->eg M A (f i b) (λr s'=>match r with|.yield b'=>I (i+1) b' s'|.done b'=>Q b' s') E s)(fin:∀b s,I n b s->Q b s)(b:g)(h:I 0 b s):eg M A (forIn [0:n] b f) Q E s:=by
 rw[Std.Legacy.Range.forIn_eq_forIn_range'];have m:[0:n].size=n:=by simp
 rw[m];refine wpAny_forIn_list f (λl c s=>∃i,i<=n/\l=W0 i (n-i) 1/\I i c s) Q ?_ ?_ _ b #[0,by lia,rfl,h]
 .rintro x p c s ⟨i,v,o,q⟩
  have j:i<n:=by
   rcases Wc i n with h'|h'
   .exact h'
   simp_all
  obtain⟨k,u⟩:∃k,n-i=k+1:=#[n-i-1,by lia]
  rw[u]at o;obtain⟨rfl,rfl⟩:=List.cons.inj o;refine kc (a x c s j q) (λr s' h'=>?_) λ_ _ e=>e;cases r with
  |done c'=>exact h'
  |yield c'=>exact#[_,by lia,by congr 1;lia,h']
 rintro c s ⟨i,v,o,q⟩
 have:i=n:=by
  rcases Wc i n with h'|h'
  .obtain⟨k,u⟩:∃k,n-i=k+1:=#[n-i-1,by lia]
   simp_all
  lia
 simp_all
theorem kW(l:cp)(a:ab6)(n:Nat)(dd:Option cp)(G:Array (Option ax))(x:ax)(e:ax->Bool)(I:∀y,y∈a->MeetsSeq.EqGives y x (e y))(j:Nat)(M:j<a.size)(u:e a[j]=true)(r:∀m (hm:m<a.size),m<j->e a[m]=cx):
  Meets (Builtin.«tuple.index» #[[.ref l,x],[]]) (λ_ R s=>s.heap.get? l=ap { cls:=.type "tuple",dict:=dd,data:=.seq a n,slots:=G }/\R (.ok<|.ret<|.int j s.toks) { s with toks:=s.toks+1 }):=
 .of_wp λf w A R s h=>by
  obtain⟨B,g,d,E,v⟩:=s;obtain⟨C,h⟩:=h
  wp_walk using AutoSeq1.wpAny_loadPart' C
  refine pA (n:=min a.size a.size) _ (λi (b:Option _×_) o=>b.1=ca/\i<=j/\o=#[B,g,d,E,v]) _ ?turn ?fin _ ?strt
  case turn=>
   rintro i b o L ⟨F,q,rfl⟩
   have c:i<a.size:=by lia
   have p:a[i]?=ap a[i]:=by simp[c]
   simp only[p];refine ay (I _ (Array.getElem_mem c) f w _ _ _ _ ?_)
   by_cases z:i=j
   .subst z
    rw[u]
    wp_walk
    exact#[_,rfl,h]
   .rw[r i c (by lia)]
    wp_walk
    exact#[rfl,by lia,rfl]
  case fin=>
   rintro⟨J,K⟩ o ⟨F,q,rfl⟩
   lia
  case strt=>
   exact#[rfl,W2 _,rfl]
theorem Inv.tupD(I:Inv X b Z H s)(h:H a=ap (.tup xs)):
  ∃(abV:abZ)(n:Nat)(sl:Array (Option ax)),Vals xs abV/\s.heap.get? a=ap { cls:=.type "tuple",dict:=ca,data:=.seq abV.toArray n,slots:=sl }:=by
 obtain⟨z,abV,r,⟨cls,g,data,slots⟩,e,⟨c,n,d⟩,f⟩:=I.hok a _ h;simp only at c d f;subst c d f;exact#[abV,n,slots,r,e]
theorem io:∀{names:abY}{us:abZ},Vals (names.map V.str) us->∀(j:Nat)(h:j<us.length),∃(y:Str)(t:Tok),names[j]?=ap y/\us[j]=.str y t
 |[],us,r,j,h=>by cases r;trivial
 |x::names,us,r,j,h=>by
  cases r with
  |cons r1 r2=>
   cases j with
   |zero=>obtain⟨t,rfl⟩:=r1;simp_all
   |succ j=>obtain⟨y,t,a,b⟩:=io r2 j (by simpa using h);simp_all
def SV:V->List V->Hp->VK->Prop:=λx b H Q=>∃(a:cp)(names:abY)(z:Str)(j:Nat),x=.ref a/\b=[.str z]/\H a=ap (.tup<|names.map V.str)/\names.length<=1000/\names[j]?=ap z/\(∀m,m<j->names[m]?≠ap z)/\Q (.int (j:Int)) H
theorem Dv:xu X "tuple.index" SV:=by
 intro F s Z H x U v T Q I M O h;obtain⟨a,b,z,j,rfl,rfl,R,S,B,p,q⟩:=h;cases M;obtain⟨u,rfl,N⟩:=O.one;obtain⟨t,rfl⟩:=N;obtain⟨c,n,K,r,e⟩:=I.tupD R;have L:=r.length;rw[UM]at L;have G:j<b.length:=by
  rcases Wc j b.length with z'|z'
  .exact z'
  .rw[VU z']at B;cases B
 have A:j<c.toArray.size:=by rw[Ve];lia
 refine n7 WM #[_,e,rfl] YQ (YM _ _)
  (kW a c.toArray n ca K (.str z t) (λv=>match v with|.str y _=>y==z|_=>cx) (λy J=>?_) j A ?_ λm i C=>?_) #[e,?_]
 .obtain⟨m,i,rfl⟩:=Xq (by simpa using J:y∈c)
  obtain⟨l,o,f,g⟩:=io r m i;rw[g];exact eqGives_str l z o t
 .obtain⟨l,o,f,g⟩:=io r j (by lia)
  rw[B]at f;cases f;simp[g]
 .obtain⟨l,o,f,g⟩:=io r m (by rw[Ve]at i;exact i)
  have E:=p m C;rw[f]at E;have ne:¬l=z:=λe=>E (by rw[e])
  simp[g,ne]
 .exact#[.int (j:Int),H,I.tok _,#[_,rfl],q]
def tTM(r:V->List V->Hp->VK->Prop)(to:TE)(t:TA):TE:=λZ H Q=>to Z H λx H1=>(∃a b,x=.ref a/\H1 a=ap (.tup b))/\t Z H1 λb H2=>r x b H2 Q
theorem Ti{id:String}(c:Slot "tuple" name id)(f:Y' (.builtin id)=pure (.type "method_descriptor"))(G:xu X id r)(J:PE X o to)(K:PA X (e::es) t)(b:iB o name X.env (fx o X.env)=fx o X.env:=by rfl)(hfew:((ix abT<|starEach (e::es) X.env).all (λx=>!x.1)&&(pt abT<|keywordEach [] X.env).all (λx=>x.1.isSome)
   && decide ((e::es).length+([]:List pa).length+(if ([]:List pa).isEmpty then 0 else 1)<30))=true:=by rfl)(hline:(abU.endLine==abT.line)=true:=by rfl)(hs:cT (e::es) X.env=(cx,fx e X.env)::cT es X.env:=by rfl)(hplain:(ix abT<|starEach es X.env).any (·.1)=false:=by rfl):
  PE X (.Call (.Attribute o name abU) (e::es) [] abT) (tTM r to t):=by
 intro i s Z H Q I h;refine abB b hfew hline rfl (bv (J _ s Z H _ I h) λv C m=>?_);obtain⟨x,H1,I1,z,⟨a,M,E,p⟩,y⟩:=m;subst E;cases z;obtain⟨l,n,N,L,j⟩:=I1.tupD p;refine#[_,id,PySem.F.plainAttrs_tuple,c,f,#[_,j,rfl],by simp_all,?_]
 have g:=K abT _ C Z H1 _ I1 y;rw[hs]at g ⊢;exact Ws (by assumption) (WE<|bv g<|by rintro B s2 ⟨q,H2,I2,u,A⟩;exact G _ s2 Z H2 (.ref a) q _ B Q I2 rfl u A)
theorem gr{h:g3}:∀{l:List Env},h.FunFrames a l->(∀b∈iZ l,b∈S)->h.FunFrames (YW h S) l
 |[],_,_=>trivial
 |env::r,hl,hs=>by
  obtain⟨j,⟨L,o,c,n,f,i⟩,g⟩:=hl;have e:L∈S:=hs L (by unfold iZ;rw[WS,c];exact Vp)
  exact#[j,#[L,o,c,W.hideAll_none S e,f,i],gr g λb m=>hs b (by unfold iZ;rw[WS,c];exact UY _ m)]
def EY(P:eX)(w:gl)(C:cp):qd:=λa H s E e c=>∃(ea:cp)(H':Hp)(B:g3)(a0:ax),e=.ref ea/\c.os=s.os/\L' c.gens/\Un (iZ a) [] H H' s.heap c.heap/\HOk P w H' c.heap/\
 Heap.FlyingW B a ea (.ref C) a0 c.heap/\(∀b u,H' b=ap u->∃o,B.get? b=ap o)/\(∀b o,s.heap.get? b=ap o->b∉iZ a->∃o',B.get? b=ap o')/\E (.ref C) ca H'
theorem rZ{B:g3}(c:HOk P w H h)(k:B.StaysIn h)(j:B.StaysIn h')(g:∀b u,H b=ap u->∃o,B.get? b=ap o):HOk P w H h':=λa o e=>
 (c a o e).stay (λb u i q=>by
  obtain⟨v,f⟩:∃v,B.get? b=ap v:=by
   rcases i with rfl|z
   .exact g _ _ e
   .exact g _ _ z
  have:=k b v f;rw[q]at this;cases this;exact j b _ f) (λ_ q=>q) λ_ _ q=>q
theorem xM{B:g3}(un:Un fs [] H H' h l)(k1:B.StaysIn l)(k2:B.StaysIn m)(u:l.UpToSlots m)(p:∀b o,h.get? b=ap o->b∉fs->∃e,B.get? b=ap e)(r:∀b∈fs,∀o,h.get? b=ap o->∀vs,o.data≠.fields vs)(x:∀b∈fs,H b=ca):Un fs [] H H' h m where
 keep:=λb o q n a f=>by
  have g:=un.keep b o q n a f;obtain⟨e,c⟩:=p b o q a;have:=k1 b e c;rw[g]at this;cases this;exact k2 b _ c
 slot:=λb o q n a f=>by
  obtain⟨v,g⟩:=un.slot b o q n a f;obtain⟨i,j⟩:=u b _ g (r b a o q);exact#[_,j]
 free:=un.free
 there:=λb o q f=>by
  by_cases a:b∈fs
  .obtain⟨v,g⟩:=un.slot b o q (x b a) a f
   obtain⟨i,j⟩:=u b _ g (r b a o q);exact#[_,j]
  obtain⟨e,c⟩:=p b o q a;exact#[e,k2 b e c]
 tups:=un.tups
 frzs:=un.frzs
 tbls:=un.tbls
section
variable{K:UP}
theorem x6(h:env.frame=ap L):iZ (env::l)=L::iZ l:=by unfold iZ;simp_all
theorem S4:bX (EY P w C) (eZ (EY P w C) P w K mg base N abQ scope f cd A outer s0 H0 E) E:=by
 intro T Z H s e s' I a;obtain⟨J,H',B,W,rfl,F,g,un,L,l,R,M,hE⟩:=a;have O:(eZ (EY P w C) P w K mg base N abQ scope f cd A outer s0 H0 E).stack=envOfC abQ scope s0.heap.objs.size f cd::outer:=rfl;have y:(envOfC abQ scope s0.heap.objs.size f cd).frame=ap s0.heap.objs.size:=rfl;have x:iZ (envOfC abQ scope s0.heap.objs.size f cd::outer)=s0.heap.objs.size::iZ outer:=x6 y;rw[O]at un l M;show eg (eH P w) (A.deeper<|envOfC abQ scope s0.heap.objs.size f cd) (leaving (envOfC abQ scope s0.heap.objs.size f cd)<|.ref J) (λ_ p=>EY P w C outer H0 s0 E (.ref J) p) (λY p=>EY P w C outer H0 s0 E Y p) s';refine wpAny_leaves_onW I.ok.frames y l λh' j Q=>?_;have i:Un (iZ outer) [] H0 H s0.heap s.heap:=I.base;have nofr:∀{b:cp}{o:Obj},s0.heap.get? b=ap o->b∉iZ outer->b∉iZ (envOfC abQ scope s0.heap.objs.size f cd::outer):=λ{b o} q g z=>by
  rw[x]at z;rcases UU.mp z with e|z
  .exact VC _ (e▸UQ q)
  .exact g z
 have c:Un (iZ (envOfC abQ scope s0.heap.objs.size f cd::outer)) [] H H' s.heap h':=by
  refine xM un l.1 j.1 Q M (λb g o q vs=>?_) λb g=>?_
  .obtain⟨_,o',v,hd⟩:=I.stack.mem (show b∈_ from g)
   rw[q]at v;cases v;exact hd vs
  .exact I.stkFree b g
 refine#[J,H',B,W,rfl,F.trans I.os,g,?_,rZ L l.1 j.1 R,j,R,λb o q g=>?_,hE]
 .refine#[λb o q n g a=>?_,λb o q n g a=>?_,λb o q n a=>?_,λb o q a=>?_,λb S q=>c.tups b S (i.tups b S q),λb o u q=>c.frzs b o u (i.frzs b o u q),λb ps q=>?_]
  .exact c.keep b o (i.keep b o q n g a) (i.free b o q n a) (nofr q g) a
  .obtain⟨sl,m⟩:=i.slot b o q n g a
   obtain⟨G,q2⟩:=c.slot b _ m (i.free b o q n a) (by rw[x];exact UY _ g) a
   exact#[G,q2]
  .obtain⟨r,m⟩:=i.there b o q a
   exact c.free b r m (i.free b o q n a) a
  .obtain⟨r,m⟩:=i.there b o q a
   exact c.there b r m a
  .obtain⟨m1,e1⟩:=i.tbls b ps q
   obtain⟨U,X⟩:=c.tbls b _ e1;exact#[m1++U,by rw[X,aaa]]
 .obtain⟨r,m⟩:=i.there b o q (by simp)
  exact M b r m (nofr q g)
structure ExcAt(K:UP)(C:cp):Prop where
 at_:∃(nm q:Str)(Nn:cp)(bs bm bmB:abZ)(hdct:Bool)(sn:abY)(sub:abZ)(ab:Bool)(col:Option Bool)(dd:Option cp)(k0 k1 k2 k3 k5:Option ax)(newId initId Bs:String)(mN:ab5),
  (∀h:g3,K.In h->h.get? C=ap (excClassObj nm q C Nn bs bm hdct sn sub ab col dd k0 k1 k2 k3 k5 newId)/\h.Ns Nn mN/\OwnTail h bmB bm)/\mN "__init__"=ca/\ExcBaseFacts Bs newId initId bmB/\bmB.contains (.type Bs)=true/\bm.contains (.type "BaseException")=true
theorem ObjOk.obj(x:ObjOk P w H h a o):∃v,h.get? a=ap v:=by
 cases o with
 |lst xs=>obtain⟨_,_,_,_,e⟩:=x;exact#[_,e]
 |tup xs=>obtain⟨_,_,_,_,e,_⟩:=x;exact#[_,e]
 |set S n=>obtain⟨o,_,_,_,e,_⟩:=x;exact#[_,e]
 |ins C dx fs=>obtain⟨_,_,_,e,_⟩:=x;exact#[_,e]
 |own y=>assumption
 |xd fs=>obtain⟨_,⟨_,_,_,e,_⟩,_⟩:=x;exact#[_,e]
 |rng lo hi=>obtain⟨_,_,_,e⟩:=x;exact#[_,e]
 |frz ob u=>obtain⟨e,_⟩:=x;exact#[_,e]
 |tbl ps=>exact#[_,x]
 |met f y=>exact#[_,x]
 |ext φ=>obtain⟨_,⟨_,e⟩,_⟩:=x;exact#[_,e]
 |_=>obtain⟨_,_,_,_,o,_,_,e,_⟩:=x;exact#[_,e]
theorem LV(g:Un fs [] H0 H l h)(a:Un (L::fs) [] H H' h h')(G:l.objs.size<=L):Un fs [] H0 H' l h':=by
 have nofr:∀{b:cp}{o:Obj},l.get? b=ap o->b∉fs->b∉L::fs:=λ{b o} q i z=>by
  rcases UU.mp z with e|z
  .exact VC _ (UW (e▸UQ q) G)
  exact i z
 refine#[λb o q n i c=>a.keep b o (g.keep b o q n i c) (g.free b o q n c) (nofr q i) c,λb o q n i c=>?_,λb o q n c=>?_,λb o q c=>?_,λb p q=>a.tups b p (g.tups b p q),λb o u q=>a.frzs b o u (g.frzs b o u q),λb x q=>?_]
 .obtain⟨J,j⟩:=g.slot b o q n i c
  obtain⟨v,B⟩:=a.slot b _ j (g.free b o q n c) (UY _ i) c;exact#[_,B]
 .obtain⟨m,j⟩:=g.there b o q c
  exact a.free b m j (g.free b o q n c) c
 .obtain⟨m,j⟩:=g.there b o q c
  exact a.there b m j c
 obtain⟨y,F⟩:=g.tbls b x q;obtain⟨r,I⟩:=a.tbls b _ F;exact#[y++r,by simp_all]
def R6(E:XK)(C:cp):TS:=λ_ _ H=>E (.ref C) ca H
theorem Fo{jj}(X:ExcAt K C)(hm:mg x=ap (.ref C))(hg:Gl (eZ (EY P w C) P w K mg base N abQ scope f cd A outer s0 H0 E) x)(hd:(x==("__debug__":Str))=false:=by decide)(hs:cT [.Constant (.str l) jj abU] (eZ (EY P w C) P w K mg base N abQ scope f cd A outer s0 H0 E).env=[(cx,fx (.Constant (.str l) jj abU) (eZ (EY P w C) P w K mg base N abQ scope f cd A outer s0 H0 E).env)]:=by rfl):
  PS (eZ (EY P w C) P w K mg base N abQ scope f cd A outer s0 H0 E) (.Raise (ap<|.Call (.Name x np) [.Constant (.str l) jj abU] [] abT) ca pos) (R6 E C):=by
 intro J s Z H D I h;obtain⟨nm,q,Nn,bs,bm,bmB,hdct,sn,sub,ab,col,dd,k0,k1,k2,k3,k5,R,L,Bs,mN,hX,Q,FB,M,i⟩:=X.at_
 refine wpAny_Raise_call_subU (C:=C) (nm:=nm) (q:=q) (N:=Nn) (bs:=bs) (bm:=bm) (hdct:=hdct) (sn:=sn) (sub:=sub) (ab:=ab) (col:=col) (dd:=dd) (k0:=k0) (k1:=k1) (k2:=k2) (k3:=k3) (k5:=k5) FB M FB (mN:=mN) i (I.ok.hd rfl) (by rw[hs];rfl) Q
  (je I hg hm #[rfl,?_] hd)
 have hA:=(zO Fc Hv hs) abT J s Z H (λxs H1=>xs.length=1/\E (.ref C) ca H1) I #[rfl,h];rw[hs]at hA ⊢;refine WE (kc hA (λvs a m=>?_) λ_ _ y=>y);obtain⟨vv,H1,I1,r,B,hE⟩:=m;obtain⟨hC,hN,T⟩:=hX a.heap I1.kIn;refine#[rfl,?_,hC,hN,T,λh' e hx=>?_]
 .rw[<- r.length,B]
  decide
 have G:(envOfC abQ scope s0.heap.objs.size f cd).frame=ap s0.heap.objs.size:=rfl;have F:iZ _=s0.heap.objs.size::iZ outer:=x6 G;have S:(YW a.heap<|iZ (envOfC abQ scope s0.heap.objs.size f cd::outer)).StaysIn a.heap:=λb o e=>W.of_hideAll _ e;refine wpAny_leaves_madeW I1.ok.frames G S (gr I1.stack λb c=>c) hx λU t g _ _ Y=>?_;have O:=(Heap.UpToSlots.of_keeps hx.keeps).trans Y;have j:∀{b:cp}{o:Obj},a.heap.get? b=ap o->b∉iZ (envOfC abQ scope s0.heap.objs.size f cd::outer)->(YW a.heap _).get? b=ap o:=λe n=>W.hideAll_get _ e n;have sT:∀b u,H1 b=ap u->∃o,(YW a.heap _).get? b=ap o:=λb u e=>by
  obtain⟨v,hv⟩:=ObjOk.obj (I1.hok b u e);exact#[v,j hv λz=>by rw[I1.stkFree b z]at e;cases e]
 have p:Un (iZ (envOfC abQ scope s0.heap.objs.size f cd::outer)) [] H1 H1 a.heap U:=by
  refine xM Un.refl S g.1 O (λb o q c=>#[o,j q c]) (λb c o q vs=>?_) λb c=>I1.stkFree b c;obtain⟨_,o',ho',hd'⟩:=I1.stack.mem (show b∈_ from c)
  simp_all
 rw[F]at p;refine#[e,H1,_,.ref t,rfl,I1.os,I1.bare,LV I1.base p (UX _),rZ I1.hok S g.1 sT,g,sT,λb o q c=>?_,hE];obtain⟨o1,q1⟩:=I1.base.there b o q (λz=>absurd (show b∈([]:ab0) from z) (by simp))
 refine#[o1,j q1 λz=>?_];rw[F]at z;rcases UU.mp z with e'|z
 .exact VC _ (e'▸UQ q)
 .exact c z
end
noncomputable abbrev Cx.marked(X:Cx)(e:ax):Cx:={ X with A:=X.A.mark (ap e),calm:=cx,xe:=λ_ _=>False }
section
variable{X:Cx}
theorem Cx.Ok.mark(ok:X.Ok)(e:ax):(X.marked e).Ok:=
 #[ok.mod,ok.kind,ok.glob,ok.blt,ok.above,ok.inj,ok.has,ok.cab,by lia,ok.frames,ok.stk,ok.exf,ok.bs,ok.bsz,ok.noex,ok.exfs,ok.funs,ok.frf]
theorem Inv.mark(I:Inv X abP Z H s)(e:ax):Inv (X.marked e) abP Z H s:=#[I.ok.mark e,I.os,I.bare,I.base,I.loc,I.cell,I.free,I.freeC,I.pin,I.hok,I.len]
theorem Inv.unmark(ok:X.Ok)(I:Inv (X.marked e) abP Z H s):Inv X abP Z H s:=#[ok,I.os,I.bare,I.base,I.loc,I.cell,I.free,I.freeC,I.pin,I.hok,I.len]
theorem SP.unmark(ok:X.Ok)(h:SP (X.marked e) abP D f b):SP X abP D f b:=by
 cases f with
 |ret u=>obtain⟨v,a,H',I,r,q⟩:=h;exact#[v,_,H',I.unmark ok,r,q]
 |_=>obtain⟨a,H',I,q⟩:=h;exact#[_,H',I.unmark ok,q]
def IU(C:cp)(sp:Sp)(dvs:List V)(ta:TA)(ts:TS):TS:=λD Z H=>ta Z H λa H1=>sp (a++dvs) H1 (λ_ H2=>D.nx Z H2) (λ_ _ H2=>ts D Z H2)
theorem yU(J:X.stack=X.env::X.outer)(hfL:X.env.frame=ap X.env.locals)(F:FnOk X.prog X.w X.K X.mg X.base (EY X.prog X.w C) k f fd ps sp)(hr:Room k X.A)(hg:Gl X x)(hm:X.mg x=ap (.ref f))(hk:V8 X.K (.ref f)=true)(hb:Binds X.K fd ps ds)(hd:Vals dvs ds)(ha:PA X.nox (e::es) ta)(EX:ExcAt X.K C)(hgC:Gl X S)(hmC:X.mg S=ap (.ref C))(hsu:∀M:cp,CG (X.marked<|.ref M) (j::g) ts)(hdb:(x==("__debug__":Str))=false:=by decide)(hdC:(S==("__debug__":Str))=false:=by decide)(he:cT (e::es) X.env=(cx,fx e X.env)::cT es X.env:=by rfl)(hpl:(ix T<|starEach es X.env).any (·.1)=false:=by rfl)(hsw:py (.Call (.Name x p) (e::es) [] T) ca ep.line X.env=pure false:=by rfl):
  PS X (.Try [.Expr (.Call (.Name x p) (e::es) [] T) ep] [.ExceptHandler (ap<|.Name S np) ca (j::g) L] [] [] pos) (IU C sp dvs ta ts):=by
 intro abP s Z H D I h;refine wpAny_Try_except (aa_<|wpAny_Expr_any ?_ I.quiet hsw);refine mm (je I hg hm ?_ hdb);refine YJ (h₀:=X.base) I.ok.mod.kin hk (kc (ha T abP s Z H _ (I.wish _) h) (λO W zz=>?_) λ_ _ z=>Wl z) he hpl;obtain⟨Q,H1,I1',r,q⟩:=zz;have I1:=I1'.unwish;refine#[I1.kIn,?_];have r2:=r.append hd;have hl:(O++ds).length=ps.length:=by rw[<- r2.length];exact F.len _ _ _ _ q
 refine wpAny_call (wb (F.run X.A X.stack W H1 #[O,[]] (O++ds) (Q++dvs) _ _ hr I1.env0 (hb W O I1.kIn hl) r2 q) λrr s' hq=>?_);cases rr with
 |ok fl=>
  cases fl with
  |ret u=>
   obtain⟨x',H2,I2,_,q2⟩:=I1.after hq;exact re (re #[Z,H2,I2,q2])
  |_=>exact Wl hq
 |error er=>
  obtain⟨M,H',B,a0,rfl,Y,v,un,hok,i,sT,sA,hE⟩:=hq;obtain⟨nm,qn,Nn,bs,bm,bmB,hdct,sn,sub,ab,col,dd,k0,k1,k2,k3,k5,newId,N,Bs,mN,hX,hni,FB,hBs,l⟩:=EX.at_;have nf:∀b∈iZ X.stack,∀o,W.heap.get? b=ap o->∀Q,o.data≠.fields Q:=λb n o q' Q=>by
   obtain⟨_,o',ho',hd'⟩:=I1.stack.mem (show b∈_ from n)
   simp_all
  have c:∀R:g3,B.StaysIn R->s'.heap.UpToSlots R->Inv X abP Z H' { s' with heap:=R }:=λR k up=>
   I1.call' Y (xM un i.1 k up sA nf λb n=>I1.stkFree b n) (rZ hok i.1 k sT) v λb z=>absurd (z) (by simp)
  rw[J]at i;refine wpAny_looks_onW (by rw[<- J];exact I1.ok.frames) hfL i λh4 m up4=>?_
  refine wpAny_landsW m λh5 a E=>?_;have I5:=(c h5 a.1<|up4.trans E).mark (.ref M);obtain⟨hC,_,_⟩:=hX h5 I5.kIn;obtain⟨ob,U,G⟩:=a.there;refine wpAny_handleBy_cons (codeAny_handlers_test<|je I5 hgC hmC ?_ hdC) (by intro q';cases q')
  refine wpAny_excMatches_sub_self hC U G l (codeAny_handlers_suite ?_);refine lands_againW a λh6 y up6=>?_;have I6:=(c h6 y.1<|(up4.trans E).trans up6).mark (.ref M);exact kc (hsu M abP _ Z H' D I6 hE) (λfl s7 q7=>q7.unmark I.ok) λ_ _ z=>Wl z
end
end _2
namespace _3
open PySem _2
variable{a p:cp}{e:fv}{H H':Hp}{M:Mem}{K:UP}{r:fQ}
inductive D where
 |non|bl (b:Bool)|int (i:Int)|str (x:Str)|ty (n:String)|ref (a:cp)|tup (xs:List D)|lst (xs:List D)|mt (xs:List D)|ml (xs:List D)|fd (ks:List (List aD)) (xs:List D)
def TpD(_:UP)(H:Hp)(p:cp)(vs:List V):Prop:=H p=ap (.tup vs)
def TpM(K:UP)(p:cp)(vs:List V):Prop:=∃(o:Obj)(abV:ab6)(n:Nat),K.lookup p=ap o/\o.cls=.type "tuple"/\o.data=.seq abV n/\abV.size<=sizeLine/\Vals vs abV.toList
def FzD(K:UP)(H:Hp)(p:cp)(vs:List V):Prop:=
 ∃o,H p=ap (.frz o<|.lst vs)
def FzK(K:UP)(H:Hp)(p:cp)(vs:List V):Prop:=(∃o,H p=ap (.frz o<|.lst vs))\/∃(o:Obj)(abV:ab6)(n:Nat),K.lookup p=ap o/\o.cls=.type "list"/\o.dict=ca/\o.data=.seq abV n/\abV.size<=sizeLine/\Vals vs abV.toList
theorem FzK.sq(h:FzK K H p vs):SqL K H p vs:=h.imp (by rintro⟨o,e⟩;exact .inr #[o,e]) λx=>x
theorem TpD.sq(h:TpD K H p vs):kU K H p vs:=.inl (.inl h)
theorem TpM.sq(h:TpM K p vs):kU K H p vs:=.inr h
theorem FzD.sq(h:FzD K H p vs):SqL K H p vs:=by
 obtain⟨o,h⟩:=h;exact .inl (.inr #[o,h])
def FdD(H:Hp)(p:cp)(ks:List (List aD))(vs:List V):Prop:=ks.length=vs.length/\∃o,H p=ap (.frz o<|.dT<|ks.zip vs)
mutual
def Rp(K:UP)(H:Hp):D->V->Prop
 |.non,v=>v=.non
 |.bl b,v=>v=.bl b
 |.int i,v=>v=.int i
 |.str x,v=>v=.str x
 |.ty n,v=>v=.ty n
 |.ref a,v=>v=.ref a
 |.tup xs,v=>∃p vs,v=.ref p/\TpD K H p vs/\Rps K H xs vs
 |.lst xs,v=>∃p vs,v=.ref p/\FzD K H p vs/\Rps K H xs vs
 |.mt xs,v=>∃p vs,v=.ref p/\TpM K p vs/\Rps K H xs vs
 |.ml xs,v=>∃p vs,v=.ref p/\FzK K H p vs/\Rps K H xs vs
 |.fd ks xs,v=>∃p vs,v=.ref p/\FdD H p ks vs/\Rps K H xs vs
def Rps(K:UP)(H:Hp):List D->List V->Prop
 |[],vs=>vs=[]
 |x::xs,vs=>∃v r,vs=v::r/\Rp K H x v/\Rps K H xs r
end
structure Imm(H H':Hp):Prop where
 tup:∀p vs,H p=ap (.tup vs)->H' p=ap (.tup vs)
 frz:∀p o u,H p=ap (.frz o u)->H' p=ap (.frz o u)
theorem Imm.refl:Imm H H:=#[by lia,by lia]
theorem TpD.mono(i:Imm H H')(h:TpD K H p vs):TpD K H' p vs:=i.tup _ _ h
theorem FzK.mono(i:Imm H H')(h:FzK K H p vs):FzK K H' p vs:=h.imp (λ⟨o,e⟩=>#[o,i.frz _ _ _ e]) λx=>x
theorem FzD.mono(i:Imm H H')(h:FzD K H p vs):FzD K H' p vs:=let ⟨o,e⟩:=h;#[o,i.frz _ _ _ e]
mutual
theorem Rp.mono{K:UP}{H H':Hp}(i:Imm H H'):∀{d:D}{v:V},Rp K H d v->Rp K H' d v
 |.non,_,h=>h
 |.bl _,_,h=>h
 |.int _,_,h=>h
 |.str _,_,h=>h
 |.ty _,_,h=>h
 |.ref _,_,h=>h
 |.tup _,_,h=>by
  obtain⟨p,b,e,t,r⟩:=h;exact#[p,b,e,t.mono i,Rps.mono i r]
 |.lst _,_,h=>by
  obtain⟨p,b,e,t,r⟩:=h;exact#[p,b,e,t.mono i,Rps.mono i r]
 |.mt _,_,h=>by
  obtain⟨p,b,e,t,r⟩:=h;exact#[p,b,e,t,Rps.mono i r]
 |.ml _,_,h=>by
  obtain⟨p,b,e,t,r⟩:=h;exact#[p,b,e,t.mono i,Rps.mono i r]
 |.fd _ _,_,h=>by
  obtain⟨p,b,e,⟨t,o,f⟩,r⟩:=h;exact#[p,b,e,#[t,o,i.frz _ _ _ f],Rps.mono i r]
theorem Rps.mono{K:UP}{H H':Hp}(i:Imm H H'):∀{ds:List D}{vs:List V},Rps K H ds vs->Rps K H' ds vs
 |[],_,h=>h
 |_::_,_,h=>by
  obtain⟨v,r,e,a,b⟩:=h;exact#[v,r,e,Rp.mono i a,Rps.mono i b]
end
theorem Rps.nil:Rps K H [] []:=rfl
theorem Rps.cons(a:Rp K H d v)(b:Rps K H ds vs):Rps K H (d::ds) (v::vs):=#[v,vs,rfl,a,b]
theorem Rps.length:∀{ds:List D}{vs:List V},Rps K H ds vs->ds.length=vs.length
 |[],_,h=>by cases h;rfl
 |_::_,_,h=>by obtain⟨v,r,rfl,_,b⟩:=h;simp[b.length]
theorem Rps.get:∀{ds:List D}{vs:List V},Rps K H ds vs->∀{i:Nat}{d:D},ds[i]?=ap d->∃v,vs[i]?=ap v/\Rp K H d v
 |[],_,_,i,d,e=>by simp at e
 |x::xs,_,h,i,d,e=>by
  obtain⟨v,r,rfl,a,b⟩:=h;cases i with
  |zero=>simp_all
  |succ i=>simpa using b.get (by simpa using e)
theorem Rps.append:∀{ds es:List D}{vs f:List V},Rps K H ds vs->Rps K H es f->Rps K H (ds++es) (vs++f)
 |[],_,_,_,h,g=>by cases h;exact g
 |_::_,_,_,_,h,g=>by
  obtain⟨v,r,rfl,a,b⟩:=h;exact#[v,_,rfl,a,b.append g]
theorem Rps.take:∀{ds:List D}{vs:List V}(n:Nat),Rps K H ds vs->Rps K H (ds.take n) (vs.take n)
 |[],_,n,h=>by cases h;simp[Rps]
 |_::_,_,0,h=>rfl
 |_::_,_,n+1,h=>by
  obtain⟨v,r,rfl,a,b⟩:=h;exact#[v,_,rfl,a,b.take n]
theorem Rps.drop:∀{ds:List D}{vs:List V}(n:Nat),Rps K H ds vs->Rps K H (ds.drop n) (vs.drop n)
 |[],_,n,h=>by cases h;simp[Rps]
 |_::_,_,0,h=>h
 |_::_,_,n+1,h=>by
  obtain⟨v,r,rfl,a,b⟩:=h;exact b.drop n
theorem Rps.set(a:Rp K H d v):∀{ds:List D}{vs:List V}(i:Nat),Rps K H ds vs->Rps K H (ds.set i d) (vs.set i v)
 |[],_,_,h=>by cases h;rfl
 |_::_,_,0,h=>by obtain⟨w,r,rfl,_,b⟩:=h;exact#[v,r,rfl,a,b]
 |_::_,_,i+1,h=>by obtain⟨w,r,rfl,c,b⟩:=h;exact#[w,_,rfl,c,b.set a i]
theorem Rps.reverse:∀{ds:List D}{vs:List V},Rps K H ds vs->Rps K H ds.reverse vs.reverse
 |[],_,h=>by cases h;rfl
 |_::_,_,h=>by
  obtain⟨v,r,rfl,a,b⟩:=h;simp;exact b.reverse.append (.cons a .nil)
theorem Rps.dropLast(h:Rps K H ds vs):Rps K H ds.dropLast vs.dropLast:=by
 rw[ZO,ZO,h.length];exact h.take _
theorem Rps.eraseIdx:∀{ds:List D}{vs:List V}(i:Nat),Rps K H ds vs->Rps K H (ds.eraseIdx i) (vs.eraseIdx i)
 |[],_,_,h=>by cases h;rfl
 |_::_,_,0,h=>by obtain⟨w,r,rfl,_,b⟩:=h;exact b
 |_::_,_,i+1,h=>by obtain⟨w,r,rfl,c,b⟩:=h;exact#[w,_,rfl,c,b.eraseIdx i]
theorem xp:∀{b:abX}{vs:List V},vs=b.map V.int->Rps K H (b.map D.int) vs
 |[],_,e=>e
 |i::b,_,e=>by subst e;exact#[_,_,rfl,rfl,xp rfl]
inductive MO where
 |lst (xs:List D)
 |dK (abR:List (aD×D))
 |dT (abR:List (List aD×D))
 |ins (C:cp) (fs:List (Str×D))
abbrev Mem:=cp->Option MO
noncomputable def Mem.upd(M:Mem)(a:cp)(o:MO):Mem:=λb=>if b=a then ap o else M b
noncomputable def Mem.del(M:Mem)(a:cp):Mem:=λb=>if b=a then ca else M b
abbrev Bx.{u}{α:Sort u}(_:α):Type:=Unit
structure Wr.{u}(α:Sort u) where
 v:α
section
variable{α:Type}
noncomputable def so_:Wr (∀{α:Type},(Option α)->(α->Prop)->Prop):=#[λo f=>match o with
 |some a=>f a
 |none=>False]
abbrev so{α:Type}(o:Option α)(f:α->Prop)(_:Bx f:=()):Prop:=so_.v o f
noncomputable def s2_:Wr (∀{α:Type},(Option<|Option α)->(α->Prop)->Prop):=#[λo f=>match o with
 |some (ap a)=>f a
 |_=>False]
abbrev s2{α:Type}(o:Option (Option α))(f:α->Prop)(_:Bx f:=()):Prop:=s2_.v o f
noncomputable def s2e_:Wr (∀{α:Type},(Option<|Option α)->(α->Prop)->(Prop)->Prop):=#[λo f p=>match o with
 |some (ap a)=>f a
 |_=>p]
abbrev s2e{α:Type}(o:Option (Option α))(f:α->Prop)(p:Prop)(_:Bx f:=())(_:Bx p:=()):Prop:=s2e_.v o f p
noncomputable def oe_:Wr (∀{α:Type},(Option α)->(α->Prop)->(Prop)->Prop):=#[λo f p=>match o with
 |some a=>f a
 |none=>p]
abbrev oe{α:Type}(o:Option α)(f:α->Prop)(p:Prop)(_:Bx f:=())(_:Bx p:=()):Prop:=oe_.v o f p
noncomputable def one_:Wr (∀{α:Type},(List α)->(α->Prop)->Prop):=#[λds f=>match ds with
 |[d]=>f d
 |_=>False]
abbrev one{α:Type}(ds:List α)(f:α->Prop)(_:Bx f:=()):Prop:=one_.v ds f
noncomputable def two_:Wr (∀{α:Type},(List α)->(α->α->Prop)->Prop):=#[λds f=>match ds with
 |[d,e]=>f d e
 |_=>False]
abbrev two{α:Type}(ds:List α)(f:α->α->Prop)(_:Bx f:=()):Prop:=two_.v ds f
noncomputable def nil0_:Wr (∀{α:Type},(List α)->(Prop)->Prop):=#[λds p=>match ds with
 |[]=>p
 |_=>False]
abbrev nil0{α:Type}(ds:List α)(p:Prop)(_:Bx p:=()):Prop:=nil0_.v ds p
noncomputable def cns_:Wr (∀{α:Type},(List α)->(α->List α->Prop)->Prop):=#[λds f=>match ds with
 |d::r=>f d r
 |_=>False]
abbrev cns{α:Type}(ds:List α)(f:α->List α->Prop)(_:Bx f:=()):Prop:=cns_.v ds f
noncomputable def nilOr_:Wr (∀{α:Type},(List α)->(Prop)->(α->Prop)->Prop):=#[λds p f=>match ds with
 |[]=>p
 |[d]=>f d
 |_=>False]
abbrev nilOr{α:Type}(ds:List α)(p:Prop)(f:α->Prop)(_:Bx p:=())(_:Bx f:=()):Prop:=nilOr_.v ds p f
noncomputable def onR_:Wr ((D)->(cp->Prop)->Prop):=#[λd f=>match d with
 |.ref a=>f a
 |_=>False]
abbrev onR(d:D)(f:cp->Prop)(_:Bx f:=()):Prop:=onR_.v d f
noncomputable def onI_:Wr ((D)->(Int->Prop)->Prop):=#[λd f=>match d with
 |.int a=>f a
 |_=>False]
abbrev onI(d:D)(f:Int->Prop)(_:Bx f:=()):Prop:=onI_.v d f
noncomputable def onB_:Wr ((D)->(Bool->Prop)->Prop):=#[λd f=>match d with
 |.bl a=>f a
 |_=>False]
abbrev onB(d:D)(f:Bool->Prop)(_:Bx f:=()):Prop:=onB_.v d f
noncomputable def onS_:Wr ((D)->(Str->Prop)->Prop):=#[λd f=>match d with
 |.str a=>f a
 |_=>False]
abbrev onS(d:D)(f:Str->Prop)(_:Bx f:=()):Prop:=onS_.v d f
noncomputable def onTy_:Wr ((D)->(String->Prop)->Prop):=#[λd f=>match d with
 |.ty a=>f a
 |_=>False]
abbrev onTy(d:D)(f:String->Prop)(_:Bx f:=()):Prop:=onTy_.v d f
noncomputable def onT_:Wr ((D)->(List D->Prop)->Prop):=#[λd f=>match d with
 |.tup a=>f a
 |_=>False]
abbrev onT(d:D)(f:List D->Prop)(_:Bx f:=()):Prop:=onT_.v d f
noncomputable def onF_:Wr ((D)->(List (List aD)->List D->Prop)->Prop):=#[λd f=>match d with
 |.fd a b=>f a b
 |_=>False]
abbrev onF(d:D)(f:List (List aD)->List D->Prop)(_:Bx f:=()):Prop:=onF_.v d f
noncomputable def onN_:Wr ((D)->(Prop)->Prop):=#[λd p=>match d with
 |.non=>p
 |_=>False]
abbrev onN(d:D)(p:Prop)(_:Bx p:=()):Prop:=onN_.v d p
noncomputable def onBB_:Wr ((D)->(Prop)->(Prop)->Prop):=#[λd p q=>match d with
 |.bl true=>p
 |.bl cx=>q
 |_=>False]
abbrev Pc(d:D)(p q:Prop)(_:Bx p:=())(_:Bx q:=()):Prop:=onBB_.v d p q
noncomputable def onIST_:Wr ((D)->(Int->Prop)->(Str->Prop)->(List D->Prop)->(Prop)->Prop):=#[λd f g h p=>match d with
 |.int a=>f a
 |.str a=>g a
 |.tup a=>h a
 |_=>p]
abbrev onIST(d:D)(f:Int->Prop)(g:Str->Prop)(h:List D->Prop)(p:Prop)(_:Bx f:=())(_:Bx g:=())(_:Bx h:=())(_:Bx p:=()):Prop:=onIST_.v d f g h p
noncomputable def onSR_:Wr ((D)->(Str->Prop)->(cp->Prop)->Prop):=#[λd g f=>match d with
 |.str a=>g a
 |.ref a=>f a
 |_=>False]
abbrev onSR(d:D)(g:Str->Prop)(f:cp->Prop)(_:Bx g:=())(_:Bx f:=()):Prop:=onSR_.v d g f
noncomputable def onLR_:Wr ((D)->(List D->Prop)->(cp->Prop)->Prop):=#[λd g f=>match d with
 |.lst a=>g a
 |.ref a=>f a
 |_=>False]
abbrev Ql(d:D)(g:List D->Prop)(f:cp->Prop)(_:Bx g:=())(_:Bx f:=()):Prop:=onLR_.v d g f
noncomputable def onTM_:Wr ((D)->(List D->Prop)->(List D->Prop)->(Prop)->Prop):=#[λd f g p=>match d with
 |.tup a=>f a
 |.ml a=>g a
 |_=>p]
abbrev onTM(d:D)(f g:List D->Prop)(p:Prop)(_:Bx f:=())(_:Bx g:=())(_:Bx p:=()):Prop:=onTM_.v d f g p
noncomputable def onTe_:Wr ((D)->(List D->Prop)->(Prop)->Prop):=#[λd f p=>match d with
 |.tup a=>f a
 |_=>p]
abbrev onTe(d:D)(f:List D->Prop)(p:Prop)(_:Bx f:=())(_:Bx p:=()):Prop:=onTe_.v d f p
noncomputable def onRe_:Wr ((D)->(cp->Prop)->(Prop)->Prop):=#[λd f p=>match d with
 |.ref a=>f a
 |_=>p]
abbrev onRe(d:D)(f:cp->Prop)(p:Prop)(_:Bx f:=())(_:Bx p:=()):Prop:=onRe_.v d f p
noncomputable def mL_:Wr ((Option MO)->(List D->Prop)->Prop):=#[λm f=>match m with
 |some (.lst a)=>f a
 |_=>False]
abbrev mL(m:Option MO)(f:List D->Prop)(_:Bx f:=()):Prop:=mL_.v m f
noncomputable def mK_:Wr ((Option MO)->(List (aD×D)->Prop)->Prop):=#[λm f=>match m with
 |some (.dK a)=>f a
 |_=>False]
abbrev mK(m:Option MO)(f:List (aD×D)->Prop)(_:Bx f:=()):Prop:=mK_.v m f
noncomputable def mT_:Wr ((Option MO)->(List (List aD×D)->Prop)->Prop):=#[λm f=>match m with
 |some (.dT a)=>f a
 |_=>False]
abbrev mT(m:Option MO)(f:List (List aD×D)->Prop)(_:Bx f:=()):Prop:=mT_.v m f
noncomputable def mN_:Wr ((Option MO)->(cp->List (Str×D)->Prop)->Prop):=#[λm f=>match m with
 |some (.ins a b)=>f a b
 |_=>False]
abbrev mN(m:Option MO)(f:cp->List (Str×D)->Prop)(_:Bx f:=()):Prop:=mN_.v m f
noncomputable def mLe_:Wr ((Option MO)->(List D->Prop)->(Prop)->Prop):=#[λm f p=>match m with
 |some (.lst a)=>f a
 |_=>p]
abbrev mLe(m:Option MO)(f:List D->Prop)(p:Prop)(_:Bx f:=())(_:Bx p:=()):Prop:=mLe_.v m f p
noncomputable def mSet_:Wr ((Option MO)->(List D->Prop)->(List (aD×D)->Prop)->(List (List aD×D)->Prop)->Prop):=#[λm f g h=>match m with
 |some (.lst a)=>f a
 |some (.dK a)=>g a
 |some (.dT a)=>h a
 |_=>False]
abbrev mSet(m:Option MO)(f:List D->Prop)(g:List (aD×D)->Prop)(h:List (List aD×D)->Prop)(_:Bx f:=())(_:Bx g:=())(_:Bx h:=()):Prop:=mSet_.v m f g h
section
variable{p:Prop}
theorem Dp:so (ap x) f b=f x:=rfl
theorem Qu:s2 (ap<|some x) f b=f x:=rfl
theorem s2e_s:s2e (ap<|some x) f p b bp=f x:=rfl
theorem PM:oe (ap x) f p b bp=f x:=rfl
theorem RS:oe ca f p b bp=p:=rfl
theorem IA:one [x] f b=f x:=rfl
theorem two_2:two [y,z] f2 b2=f2 y z:=rfl
theorem nil_0:nil0 (α:=α) [] p bp=p:=rfl
theorem cns_c:cns (x::xs) fl bl=fl x xs:=rfl
theorem no_0:nilOr [] p f bp b=p:=rfl
theorem no_1:nilOr [x] p f bp b=f x:=rfl
theorem s2e.inv(h:s2e u f p b bp):(∃a,u=ap (ap a)/\f a)\/p:=by rcases u with _|_|a;exact .inr h;exact .inr h;exact .inl #[a,rfl,h]
theorem so.inv(h:so o f b):∃a,o=ap a/\f a:=by cases o with|none=>exact h.elim|some a=>exact#[a,rfl,h]
theorem s2.inv(h:s2 u f b):∃a,u=ap (ap a)/\f a:=by rcases u with _|_|a;exact h.elim;exact h.elim;exact#[a,rfl,h]
theorem oe.inv(h:oe o f p b bp):(∃a,o=ap a/\f a)\/o=ca/\p:=by cases o with|none=>exact .inr #[rfl,h]|some a=>exact .inl #[a,rfl,h]
theorem one.inv(h:one ds f b):∃a,ds=[a]/\f a:=by rcases ds with _|⟨a,_|_⟩;exact h.elim;exact#[a,rfl,h];trivial
theorem two.inv(h:two ds f2 b2):∃a c,ds=[a,c]/\f2 a c:=by rcases ds with _|⟨a,_|⟨c,_|_⟩⟩;exact h.elim;exact h.elim;exact#[a,c,rfl,h];trivial
theorem nil0.inv(h:nil0 ds p bp):ds=[]/\p:=by cases ds with|nil=>exact#[rfl,h]|cons=>trivial
theorem cns.inv(h:cns ds fl bl):∃a r,ds=a::r/\fl a r:=by cases ds with|nil=>exact h.elim|cons a r=>exact#[a,r,rfl,h]
theorem nilOr.inv(h:nilOr ds p f bp b):ds=[]/\p\/∃a,ds=[a]/\f a:=by rcases ds with _|⟨a,_|_⟩;exact .inl #[rfl,h];exact .inr #[a,rfl,h];trivial
end
section
variable{p:Prop}
theorem FY:onR (.ref a) fA bA=fA a:=rfl
theorem N6:onI (.int i) fI bI=fI i:=rfl
theorem qy:onB (.bl k) fB bB=fB k:=rfl
theorem onS_s:onS (.str s) fS bS=fS s:=rfl
theorem onTy_t:onTy (.ty t) fY bY=fY t:=rfl
theorem onT_t:onT (.tup l) fL bL=fL l:=rfl
theorem onF_f:onF (.fd ks l) fF bF=fF ks l:=rfl
theorem Td:onN .non p bp=p:=rfl
theorem onBB_t:Pc (.bl true) p q bp bq=p:=rfl
theorem onBB_f:Pc (.bl cx) p q bp bq=q:=rfl
theorem onIST_i:onIST (.int i) fI fS fL p bI bS bL bp=fI i:=rfl
theorem onIST_s:onIST (.str s) fI fS fL p bI bS bL bp=fS s:=rfl
theorem onIST_t:onIST (.tup l) fI fS fL p bI bS bL bp=fL l:=rfl
theorem onIST_r:onIST (.ref a) fI fS fL p bI bS bL bp=p:=rfl
theorem onIST_l:onIST (.lst l) fI fS fL p bI bS bL bp=p:=rfl
theorem onSR_s:onSR (.str s) fS fA bS bA=fS s:=rfl
theorem onSR_r:onSR (.ref a) fS fA bS bA=fA a:=rfl
theorem onLR_l:Ql (.lst l) fL fA bL bA=fL l:=rfl
theorem onLR_r:Ql (.ref a) fL fA bL bA=fA a:=rfl
theorem onTM_t:onTM (.tup l) fL gL p bL cL bp=fL l:=rfl
theorem onTM_m:onTM (.ml l) fL gL p bL cL bp=gL l:=rfl
theorem onTM_r:onTM (.ref a) fL gL p bL cL bp=p:=rfl
theorem onTM_l:onTM (.lst l) fL gL p bL cL bp=p:=rfl
theorem onTe_t:onTe (.tup l) fL p bL bp=fL l:=rfl
theorem onTe_r:onTe (.ref a) fL p bL bp=p:=rfl
theorem onTe_l:onTe (.lst l) fL p bL bp=p:=rfl
theorem onRe_r:onRe (.ref a) fA p bA bp=fA a:=rfl
theorem onRe_n:onRe .non fA p bA bp=p:=rfl
theorem onRe_b:onRe (.bl k) fA p bA bp=p:=rfl
theorem onRe_i:onRe (.int i) fA p bA bp=p:=rfl
theorem onRe_s:onRe (.str s) fA p bA bp=p:=rfl
theorem onRe_t:onRe (.tup l) fA p bA bp=p:=rfl
theorem onRe_l:onRe (.lst l) fA p bA bp=p:=rfl
theorem onRe_f:onRe (.fd ks l) fA p bA bp=p:=rfl
theorem onRe_m:onRe (.mt l) fA p bA bp=p:=rfl
theorem onRe_ml:onRe (.ml l) fA p bA bp=p:=rfl
theorem onR.inv(h:onR d fA bA):∃a,d=.ref a/\fA a:=by cases d<;>first|exact#[_,rfl,h]|exact h.elim
theorem onI.inv(h:onI d fI bI):∃a,d=.int a/\fI a:=by cases d<;>first|exact#[_,rfl,h]|exact h.elim
theorem onB.inv(h:onB d fB bB):∃a,d=.bl a/\fB a:=by cases d<;>first|exact#[_,rfl,h]|exact h.elim
theorem onS.inv(h:onS d fS bS):∃a,d=.str a/\fS a:=by cases d<;>first|exact#[_,rfl,h]|exact h.elim
theorem onTy.inv(h:onTy d fY bY):∃a,d=.ty a/\fY a:=by cases d<;>first|exact#[_,rfl,h]|exact h.elim
theorem onT.inv(h:onT d fL bL):∃a,d=.tup a/\fL a:=by cases d<;>first|exact#[_,rfl,h]|exact h.elim
theorem onF.inv(h:onF d fF bF):∃a b,d=.fd a b/\fF a b:=by cases d<;>first|exact#[_,_,rfl,h]|exact h.elim
theorem onRe.inv(h:onRe d fA p bA bp):(∃a,d=.ref a/\fA a)\/p:=by cases d<;>first|exact .inl #[_,rfl,h]|exact .inr h
theorem onTe.inv(h:onTe d fL p bL bp):(∃a,d=.tup a/\fL a)\/p:=by cases d<;>first|exact .inl #[_,rfl,h]|exact .inr h
theorem onTM.inv(h:onTM d fL gL p bL cL bp):(∃a,d=.tup a/\fL a)\/(∃a,d=.ml a/\gL a)\/p:=by cases d<;>first|exact .inl #[_,rfl,h]|exact .inr (.inl #[_,rfl,h])|exact .inr (.inr h)
theorem onIST.inv(h:onIST d fI fS fL p bI bS bL bp):(∃a,d=.int a/\fI a)\/(∃a,d=.str a/\fS a)\/(∃a,d=.tup a/\fL a)\/p:=by cases d<;>first|exact .inl #[_,rfl,h]|exact .inr (.inl #[_,rfl,h])|exact .inr (.inr<|.inl #[_,rfl,h])|exact .inr (.inr<|.inr h)
theorem onSR.inv(h:onSR d fS fA bS bA):(∃a,d=.str a/\fS a)\/∃a,d=.ref a/\fA a:=by cases d<;>first|exact .inl #[_,rfl,h]|exact .inr #[_,rfl,h]|exact h.elim
theorem onN.inv(h:onN d p bp):d=.non/\p:=by cases d<;>first|exact#[rfl,h]|exact h.elim
end
section
variable{p:Prop}
theorem mL_l:mL (ap<|.lst l) fL bL=fL l:=rfl
theorem mK_k:mK (ap<|.dK abR) gK bK=gK abR:=rfl
theorem mT_t:mT (ap<|.dT tvs) hT bT=hT tvs:=rfl
theorem mN_n:mN (ap<|.ins a fs) fN bN=fN a fs:=rfl
theorem mLe_l:mLe (ap<|.lst l) fL p bL bp=fL l:=rfl
theorem mLe_k:mLe (ap<|.dK abR) fL p bL bp=p:=rfl
theorem mLe_t:mLe (ap<|.dT tvs) fL p bL bp=p:=rfl
theorem mLe_n:mLe (ap<|.ins a fs) fL p bL bp=p:=rfl
theorem mLe_0:mLe ca fL p bL bp=p:=rfl
theorem mSet_l:mSet (ap<|.lst l) fL gK hT bL bK bT=fL l:=rfl
theorem mSet_k:mSet (ap<|.dK abR) fL gK hT bL bK bT=gK abR:=rfl
theorem mSet_t:mSet (ap<|.dT tvs) fL gK hT bL bK bT=hT tvs:=rfl
theorem mL.inv(h:mL m fL bL):∃a,m=ap (.lst a)/\fL a:=by rcases m with _|⟨_⟩|_|_|_<;>first|exact#[_,rfl,h]|trivial
theorem mK.inv(h:mK m gK bK):∃a,m=ap (.dK a)/\gK a:=by rcases m with _|⟨_⟩|_|_|_<;>first|exact#[_,rfl,h]|trivial
theorem mT.inv(h:mT m hT bT):∃a,m=ap (.dT a)/\hT a:=by rcases m with _|⟨_⟩|_|_|_<;>first|exact#[_,rfl,h]|trivial
theorem mLe.inv(h:mLe m fL p bL bp):(∃a,m=ap (.lst a)/\fL a)\/p:=by rcases m with _|⟨_⟩|_|_|_<;>first|exact .inl #[_,rfl,h]|exact .inr h
theorem mSet.inv(h:mSet m fL gK hT bL bK bT):(∃a,m=ap (.lst a)/\fL a)\/(∃a,m=ap (.dK a)/\gK a)\/∃a,m=ap (.dT a)/\hT a:=by rcases m with _|⟨_⟩|_|_|_<;>first|exact .inl #[_,rfl,h]|exact .inr (.inl #[_,rfl,h])|exact .inr (.inr #[_,rfl,h])|trivial
theorem mN.inv(h:mN m fN bN):∃a b,m=ap (.ins a b)/\fN a b:=by rcases m with _|⟨_⟩|_|_|_<;>first|exact#[_,_,rfl,h]|trivial
end
end
def Rkv{κ:Type}(K:UP)(H:Hp):List (κ×D)->List (κ×V)->Prop:=Wp λp q=>p.1=q.1/\Rp K H p.2 q.2
def RepO(K:UP)(H:Hp)(a:cp):MO->Prop
 |.lst xs=>∃vs,H a=ap (.lst vs)/\Rps K H xs vs
 |.dK abR=>∃ws,H a=ap (.dK ws)/\Rkv K H abR ws
 |.dT abR=>∃ws,H a=ap (.dT ws)/\Rkv K H abR ws
 |.ins C fs=>∃dx ws,H a=ap (.ins C dx ws)/\Rkv K H fs ws
def RepH(K:UP)(H:Hp)(M:Mem):Prop:=∀a o,M a=ap o->RepO K H a o
section
variable{u:HO}
@[simp] theorem Mem.upd_same:(M.upd a o) a=ap o:=by simp[Mem.upd]
theorem ae(h:b≠a):(M.upd a o) b=M b:=by simp[Mem.upd,h]
@[simp] theorem Mem.upd_upd:(M.upd a o).upd a o'=M.upd a o':=by funext c;simp[Mem.upd];split<;>rfl
@[simp] theorem Mem.upd_del:(M.upd a o).del a=M.del a:=by funext c;simp[Mem.upd,Mem.del];split<;>rfl
theorem aw(h:M a=ca):M.del a=M:=by
 funext c;simp[Mem.del];simp_all
theorem aC(h:a≠b):(M.upd a o).upd b f=(M.upd b f).upd a o:=by
 funext c;simp[Mem.upd];split
 .rename_i e;rw[e,if_neg (Vu h)]
 rfl
theorem Mem.ne(h:M a=ap o)(h':M b=ca):a≠b:=by intro e;simp_all
theorem Rkv.mono(i:Imm H H')(h:Rkv K H abR f):Rkv K H' abR f:=ib h λ_ _ z=>#[z.1,z.2.mono i]
theorem RepO.obj(r:RepO K H a o):∃u,H a=ap u:=by
 cases o with
 |ins C fs=>obtain⟨g,f,e,_⟩:=r;exact#[_,e]
 |_=>obtain⟨f,e,_⟩:=r;exact#[_,e]
theorem RepO.keep(r:RepO K H a o)(i:Imm H H')(e:H' a=H a):RepO K H' a o:=by
 cases o with
 |ins C fs=>obtain⟨g,f,q,z⟩:=r;exact#[g,f,e.trans q,z.mono i]
 |_=>obtain⟨f,q,z⟩:=r;exact#[f,e.trans q,z.mono i]
theorem RepH.fresh(r:RepH K H M)(h:H a=ca):M a=none:=by
 cases e:M a with
 |none=>rfl
 |some o=>obtain⟨u,q⟩:=(r a o e).obj;simp_all
def zI:Option HO->Prop
 |some (.tup _)=>False
 |some (.frz _ _)=>False
 |_=>True
theorem Imm.upd(h:zI (H a)):Imm H (upd H a u):=by
 refine#[λp f e=>?_,λp o v e=>?_]
 .rw[aF];exact e
  rintro rfl;rw[e]at h;exact h
 rw[aF];exact e
 rintro rfl;rw[e]at h;exact h
theorem Imm.new(h:H a=ca):Imm H (_2.upd H a u):=Imm.upd (by rw[h];trivial)
theorem RepO.loose(r:RepO K H a o):zI (H a):=by
 cases o with
 |ins C fs=>obtain⟨g,f,e,_⟩:=r;rw[e];trivial
 |_=>obtain⟨f,e,_⟩:=r;rw[e];trivial
theorem RepH.new(r:RepH K H M)(h:H a=ca):RepH K (_2.upd H a u) M:=λb o e=>by
 obtain⟨v,q⟩:=(r b o e).obj;exact(r b o e).keep (Imm.new h) (aF<|br q h)
theorem RepH.put(r:RepH K H M)(h:zI (H a))(n:RepO K (_2.upd H a u) a o):RepH K (_2.upd H a u) (M.upd a o):=λb p e=>by
 by_cases f:b=a
 .subst f;rw[Mem.upd_same]at e;cases e;exact n
 .rw[ae f]at e
  exact(r b p e).keep (Imm.upd h) (aF f)
theorem RepH.keep(r:RepH K H M)(i:Imm H H')(e:∀b o,M b=ap o->H' b=H b):RepH K H' M:=λb o q=>(r b o q).keep i (e b o q)
structure Frm(M:Mem)(H:Hp)(M':Mem)(H':Hp):Prop where
 keep:∀b u,H b=ap u->M b=ca->H' b=ap u/\M' b=ca
theorem Frm.refl:Frm M H M H:=#[by lia]
theorem Frm.trans{M1 M2:Mem}(x:Frm M H M1 H1)(y:Frm M1 H1 M2 H2):Frm M H M2 H2:=#[λb u e n=>let ⟨e1,n1⟩:=x.keep b u e n;y.keep b u e1 n1]
theorem Frm.imm(f:Frm M H M' H')(r:RepH K H M):Imm H H':=by
 have g:∀b u,H b=ap u->¬zI (ap u)->H' b=ap u:=λb u e n=>(f.keep b u e (by
  cases q:M b with
  |none=>rfl
  |some o=>exact absurd (by rw[<- e];exact(r b o q).loose) n)).1
 exact#[λp h e=>g p _ e (λz=>z),λp o u e=>g p _ e (λz=>z)]
theorem Frm.new(h:H a=ca):Frm M H M (_2.upd H a u):=#[λb v e n=>#[by rw[aF (by lia)];exact e,n]]
theorem Frm.put(h:H a=ca\/∃o,M a=ap o):Frm M H (M.upd a o) (_2.upd H a u):=#[λb v e n=>by
 have f:b≠a:=by
  rintro rfl
  simp_all
 exact#[by rw[_2.aF f];exact e,by rw[ae f];exact n]]
theorem Frm.del(h:∃o,M a=ap o):Frm M H (M.del a) (_2.upd H a u):=#[λb v e n=>by
 have f:b≠a:=by
  rintro rfl
  simp_all
 refine#[by rw[_2.aF f];exact e,?_]
 unfold Mem.del
 simp_all]
theorem Rp.mf(x:Rp K H d v)(r:RepH K H M)(f:Frm M H M' H'):Rp K H' d v:=x.mono (f.imm r)
theorem Rps.mf(x:Rps K H d v)(r:RepH K H M)(f:Frm M H M' H'):Rps K H' d v:=x.mono (f.imm r)
end
abbrev Dl:=List (Option D)
abbrev DK:=D->Mem->Prop
abbrev bb:=Dl->Mem->DK->Prop
abbrev fP:=Dl->Mem->(Bool->Mem->Prop)->Prop
abbrev eh:=Dl->Mem->(List D->Mem->Prop)->Prop
structure RepS(K:UP)(H:Hp)(U:Dl)(Z:St):Prop where
 len:U.length=Z.length
 get:∀(i:Nat)(d:D),U[i]?=ap (ap d)->∃v,Z[i]?=ap (ap v)/\Rp K H d v
theorem RepS.mono(r:RepS K H U Z)(i:Imm H H'):RepS K H' U Z:=
 #[r.len,λj d e=>by obtain⟨v,b,f⟩:=r.get j d e;exact#[v,b,f.mono i]]
theorem RepS.set(r:RepS K H U Z)(h:Rp K H d v):RepS K H (U.set i<|some d) (Z.set i<|some v):=by
 refine#[by simp[r.len],λj e q=>?_]
 rw[XO]at q ⊢
 by_cases b:i=j
 .rw[if_pos b]at q ⊢
  by_cases f:i<U.length
  .rw[if_pos (by rw[<- r.len];assumption)]
   simp_all
  simp_all
 rw[if_neg b]at q ⊢;exact r.get j e q
structure Bd where
 p:Mem->Hp->Prop
 go:∀{M M':Mem}{H H':Hp},p M H->Frm M H M' H'->p M' H'
noncomputable def Bd.of(M:Mem)(H:Hp):Bd:=#[λM' H'=>Frm M H M' H',λa b=>a.trans b]
structure SR(X:Cx)(B:Bd)(U:Dl)(M:Mem)(Z:St)(H:Hp):Prop where
 i0:B.p M H
 rh:RepH X.K H M
 rs:RepS X.K H U Z
theorem SR.go(s:SR X B U M Z H)(rh:RepH X.K H' M')(i:Frm M H M' H'):SR X B U M' Z H':=#[B.go s.i0 i,rh,s.rs.mono<|i.imm s.rh]
def Up(K:UP)(M:Mem)(H:Hp)(QQ:DK)(Q:VK):Prop:=∀d M',QQ d M'->∀v H',RepH K H' M'->Frm M H M' H'->Rp K H' d v->Q v H'
def UpT(K:UP)(M:Mem)(H:Hp)(QQ:Bool->Mem->Prop)(Q:Bool->Hp->Prop):Prop:=∀b M',QQ b M'->∀H',RepH K H' M'->Frm M H M' H'->Q b H'
def UpA(K:UP)(M:Mem)(H:Hp)(QQ:List D->Mem->Prop)(Q:List V->Hp->Prop):Prop:=∀ds M',QQ ds M'->∀vs H',RepH K H' M'->Frm M H M' H'->Rps K H' ds vs->Q vs H'
theorem Up.go{M1:Mem}(u:Up K M H QQ Q)(i:Frm M H M1 H1):Up K M1 H1 QQ Q:=λd M' q v H' a b=>u d M' q v H' a (i.trans b)
theorem UpT.go{M1:Mem}(u:UpT K M H QQ Q)(i:Frm M H M1 H1):UpT K M1 H1 QQ Q:=λd M' q H' a b=>u d M' q H' a (i.trans b)
inductive liftE(X:Cx)(B:Bd)(T:bb)(Z:St)(H:Hp)(Q:VK):Prop
 |mk (U:Dl) (M:Mem) (QQ:DK) (s:SR X B U M Z H) (h:T U M QQ) (u:Up X.K M H QQ Q):liftE X B T Z H Q
inductive liftT(X:Cx)(B:Bd)(T:fP)(Z:St)(H:Hp)(Q:Bool->Hp->Prop):Prop
 |mk (U:Dl) (M:Mem) (QQ:Bool->Mem->Prop) (s:SR X B U M Z H) (h:T U M QQ) (u:UpT X.K M H QQ Q):liftT X B T Z H Q
inductive liftA(X:Cx)(B:Bd)(T:eh)(Z:St)(H:Hp)(Q:List V->Hp->Prop):Prop
 |mk (U:Dl) (M:Mem) (QQ:List D->Mem->Prop) (s:SR X B U M Z H) (h:T U M QQ) (u:UpA X.K M H QQ Q):liftA X B T Z H Q
def DE(X:Cx)(B:Bd)(e:fv)(T:bb):Prop:=PE X e (liftE X B T)
def DT(X:Cx)(B:Bd)(e:fv)(T:fP):Prop:=PT X e (liftT X B T)
def DA(X:Cx)(B:Bd)(es:ab1)(T:eh):Prop:=PA X es (liftA X B T)
theorem aT(h:PE X e t)(w:∀Z H Q,t' Z H Q->t Z H Q):PE X e t':=λb s Z H Q I q=>h _ s Z H Q I (w Z H Q q)
theorem t_(h:PT X e t)(w:∀Z H Q,t' Z H Q->t Z H Q):PT X e t':=λb s Z H Q I q=>h _ s Z H Q I (w Z H Q q)
theorem A5{e:ab1}(h:PA X e t)(w:∀Z H Q,t' Z H Q->t Z H Q):PA X e t':=λpos b s Z H Q I q=>h _ _ s Z H Q I (w Z H Q q)
theorem bV{e:ol}(h:PS X e t)(w:∀D Z H,t' D Z H->t D Z H):PS X e t':=λb s Z H D I q=>h _ s Z H D I (w D Z H q)
theorem oX{e:ab2}(h:CG X e t)(w:∀D Z H,t' D Z H->t D Z H):CG X e t':=λb s Z H D I q=>h _ s Z H D I (w D Z H q)
def ac(i:Nat):bb:=λU M Q=>s2 (U[i]?) λd=>Q d M
def dC(d:D):bb:=λ_ M Q=>Q d M
section
variable{a:fv}
theorem Pa(j:X.N[i]?=ap x)(l:RH X.env.scope x)(m:(x==("__debug__":Str))=false:=by decide)(hcd:(x==("__classdict__":Str))=false:=by decide):DE X B (.Name x pos) (ac i):=by
 refine aT (Of j l m hcd) ?_
 rintro Z H Q ⟨U,M,QQ,s,h,u⟩
 unfold ac at h;obtain⟨d,e,h⟩:=h.inv;obtain⟨v,f,g⟩:=s.rs.get i d e;exact#[v,f,u d M h v H s.rh Frm.refl g]
theorem GN(h:PE X e (tC v))(r:∀H,Rp X.K H d v):DE X B e (dC d):=by
 refine aT h ?_
 rintro Z H Q ⟨U,M,QQ,s,h,u⟩
 exact u d M h v H s.rh Frm.refl (r H)
theorem Oy{i j pos}:DE X B (.Constant (.int i) j pos) (dC<|.int i):=GN Og λ_=>rfl
theorem SW{i j pos}:DE X B (.Constant (.bool i) j pos) (dC<|.bl i):=GN T_ λ_=>rfl
theorem P_{j pos}:DE X B (.Constant .none j pos) (dC .non):=GN O8 λ_=>rfl
theorem Oo{i j pos}:DE X B (.Constant (.str i) j pos) (dC<|.str i):=GN Fc λ_=>rfl
abbrev fQ:=D->D->Mem->DK->Prop
inductive liftR2(X:Cx)(r:fQ)(x y:V)(H:Hp)(Q:VK):Prop
 |mk (d1 d2:D) (M:Mem) (QQ:DK) (rh:RepH X.K H M) (r1:Rp X.K H d1 x) (r2:Rp X.K H d2 y) (h:r d1 d2 M QQ) (u:Up X.K M H QQ Q):liftR2 X r x y H Q
def ai(r:fQ)(ta tb:bb):bb:=λU M Q=>ta U M λx M1=>tb U M1 λy M2=>r x y M2 Q
theorem mD(h:liftE X B (ai r ta tb) Z H Q):SI (liftR2 X r) (liftE X B ta) (liftE X B tb) Z H Q:=by
 obtain⟨U,M,QQ,s,h,u⟩:=h;exact#[U,M,_,s,h,λx M1 i v1 H1 f i1 l=>#[U,M1,_,s.go f i1,i,λy M2 j v2 H2 g i2 m=>#[x,y,M2,QQ,g,l.mf f i2,m,j,u.go<|i1.trans i2]]]
theorem h_(i:cX X (hG f) (liftR2 X r))(g:DE X B a ta)(j:DE X B b tb):DE X B (.BinOp a f b pos) (ai r ta tb):=aT (TJ i g j) λ_ _ _ h=>mD h
theorem GR(i:cX X (iA f) (liftR2 X r))(j:DE X B a ta)(l:DE X B b tb)(g:Y_ f b=cx):DE X B (.Compare a [f] [b] pos) (ai r ta tb):=aT (JB i j l g) λ_ _ _ h=>mD h
theorem Nx(f:IxR X (liftR2 X r))(g:DE X B a ta)(j:DE X B b tb)(i:Bo b):DE X B (.Subscript a b pos) (ai r ta tb):=aT (Tv f g j i) λ_ _ _ h=>mD h
def am(t:bb):fP:=λU M Q=>t U M λd M'=>onB d λk=>Q k M'
theorem eA(n:cX X (iA f) (liftR2 X r))(o:DE X B a ta)(w:DE X B b tb)(m:Y_ f b=cx):DT X B (.Compare a [f] [b] pos) (am<|ai r ta tb):=by
 refine t_ (JM n o w m) ?_
 rintro Z H Q ⟨U,M,QQ,s,h,u⟩
 have l:liftE X B (ai r ta tb) Z H (λx H'=>∃k,x=.bl k/\Q k H'):=by
  refine#[U,M,_,s,h,λd M' q v H' j i g=>?_];cases d with
  |bl k=>exact#[k,g,u k M' q H' j i]
  |_=>exact q.elim
 exact mD l
def Ig(M:Mem):D->Option Bool
 |.non=>ap cx
 |.bl b=>ap b
 |.int i=>ap (i != 0)
 |.str y=>if y.length<=sizeLine then ap ((y.length:Int) != 0) else ca
 |.tup xs=>ap (!xs.isEmpty)
 |.lst xs=>ap (!xs.isEmpty)
 |.ref a=>match M a with
  |some (.lst xs)=>ap (!xs.isEmpty)
  |some (.dK xs)=>ap (!xs.isEmpty)
  |_=>ca
 |_=>ca
def cW(t:bb):fP:=λU M Q=>t U M λd M'=>so (Ig M' d) λk=>Q k M'
theorem gX(r:Rps K H ds vs):vs.isEmpty=ds.isEmpty:=by
 have:=r.length;cases ds<;>cases vs<;>simp_all
theorem Q5(l:RepH K H M)(r:Rp K H d v)(e:Ig M d=ap k):RG K v H k:=by
 cases d with
 |non=>cases r;cases e;rfl
 |bl b=>cases r;cases e;rfl
 |int i=>cases r;cases e;rfl
 |str y=>
  cases r;simp only[Ig]at e
  split at e
  .cases e;trivial
  cases e
 |tup g=>
  obtain⟨p,f,rfl,t,r⟩:=r;cases e;exact .inr (.inl #[f,t.sq,by rw[gX r]])
 |lst g=>
  obtain⟨p,f,rfl,t,r⟩:=r;cases e;exact .inl #[f,t.sq,by rw[gX r]]
 |ref a=>
  cases r;simp[Ig]at e
  split at e
  .rename_i g q
   obtain⟨f,h,j⟩:=l _ _ q;cases e;exact .inl #[f,SqL.of h,by rw[gX j]]
  .rename_i g q
   obtain⟨f,h,j⟩:=l _ _ q;cases e;refine .inr (.inr #[f,h,?_]);cases j<;>rfl
  cases e
 |_=>cases e
theorem Qf(h:DE X B e ta)(l:∀f,isTrue e X.env f=(do let v <- f;G' e.pos;o4 [v] (truthy v)):=by intro _;rfl):DT X B e (cW ta):=by
 refine t_ (G8 h l) ?_
 rintro Z H Q ⟨U,M,QQ,s,h,u⟩
 refine#[U,M,_,s,h,λd M' q v H' g i j=>?_];obtain⟨k,e,q⟩:=q.inv;exact#[k,Q5 g j e,u k M' q H' g i]
def gI(t:fP):fP:=λU M Q=>t U M λc M1=>Q (!c) M1
theorem Re(g:DT X B a f):DT X B (.UnaryOp .Not a pos) (gI f):=by
 refine t_ (Pz g) ?_
 rintro Z H Q ⟨U,M,QQ,s,h,u⟩
 exact#[U,M,_,s,h,λc=>u _]
end
section
variable{a:fv}
def DW(X:Cx)(B:Bd)(e:fv)(T:fP):Prop:=PW X e (liftT X B T)
theorem UK(h:DW X B e T):DT X B e T:=UJ h
theorem AW(h:PW X e t)(w:∀Z H Q,t' Z H Q->t Z H Q):PW X e t':=λg f s Z H Q I q=>h g _ s Z H Q I (w Z H Q q)
def p_(t u:fP):fP:=λU M Q=>t U M λc M1=>if c=true then u U M1 Q else Q cx M1
def Lv(t u:fP):fP:=λU M Q=>t U M λc M1=>if c=true then Q true M1 else u U M1 Q
theorem Jy(f:DT X B a tA):DW X B (.BoolOp .And [a] pos) tA:=KO f
theorem Rk(f:DT X B a tA):DW X B (.BoolOp .Or [a] pos) tA:=RC f
theorem Pl(g:DT X B a tA)(j:DW X B (.BoolOp .And (b::rest) pos) tB'):DW X B (.BoolOp .And (a::b::rest) pos) (p_ tA tB'):=by
 refine AW (Q3 g j) ?_
 rintro Z H Q ⟨U,M,QQ,s,h,u⟩
 refine#[U,M,_,s,h,λc M' q H' f i=>?_];cases c with
 |true=>exact#[U,M',QQ,s.go f i,q,u.go i]
 |false=>exact u _ M' q H' f i
theorem Uy(g:DT X B a tA)(j:DW X B (.BoolOp .Or (b::rest) pos) tB'):DW X B (.BoolOp .Or (a::b::rest) pos) (Lv tA tB'):=by
 refine AW (Ss g j) ?_
 rintro Z H Q ⟨U,M,QQ,s,h,u⟩
 refine#[U,M,_,s,h,λc M' q H' f i=>?_];cases c with
 |false=>exact#[U,M',QQ,s.go f i,q,u.go i]
 |true=>exact u _ M' q H' f i
def pc(ta tb:bb):bb:=λU M Q=>ta U M λx M1=>Pc x (tb U M1 Q) (Q (.bl cx) M1)
def Mx(ta:bb):bb:=λU M Q=>ta U M λx M1=>onB x λc=>Q (.bl<|!c) M1
theorem Om{op}(h:DE X B a t):DE X B (.BoolOp op [a] pos) t:=P6 h
theorem QR(g:DE X B a ta)(j:DE X B (.BoolOp .And (b::rest) pos) tb):DE X B (.BoolOp .And (a::b::rest) pos) (pc ta tb):=by
 refine aT (P8 g j) ?_
 rintro Z H Q ⟨U,M,QQ,s,h,u⟩
 refine#[U,M,_,s,h,λd M' q v H' f i r=>?_];cases d with
 |bl c=>
  cases c with
  |true=>exact#[_,r,by exact#[U,M',QQ,s.go f i,q,u.go i]]
  |false=>exact#[_,r,by exact u _ M' q _ H' f i rfl]
 |_=>exact q.elim
theorem OV(g:DE X B a ta):DE X B (.UnaryOp .Not a pos) (Mx ta):=by
 refine aT (QL g) ?_
 rintro Z H Q ⟨U,M,QQ,s,h,u⟩
 refine#[U,M,_,s,h,λd M' q v H' f i r=>?_];cases d with
 |bl c=>exact#[c,r,u _ M' q _ H' f i rfl]
 |_=>exact q.elim
def pq(t:fP)(ta tb:bb):bb:=λU M Q=>t U M λc M1=>if c=true then ta U M1 Q else tb U M1 Q
theorem Gu(j:DT X B c tA)(g:DE X B a ta)(l:DE X B b tb):DE X B (.IfExp c a b pos) (pq tA ta tb):=by
 refine aT (FS j g l) ?_
 rintro Z H Q ⟨U,M,QQ,s,h,u⟩
 refine#[U,M,_,s,h,λc M' q H' f i=>?_];cases c with
 |_=>exact#[U,M',QQ,s.go f i,q,u.go i]
def ag:eh:=λ_ M Q=>Q [] M
def aa(ta:bb)(tr:eh):eh:=λU M Q=>ta U M λx M1=>tr U M1 λf M2=>Q (x::f) M2
theorem Qb:DA X B [] ag:=by
 refine A5 Hv ?_
 rintro Z H Q ⟨U,M,QQ,s,h,u⟩
 exact u [] M h [] H s.rh Frm.refl .nil
theorem JN(n:DE X B e te)(q:DA X B es t)(o:cT (e::es) X.env=(cx,fx e X.env)::cT es X.env:=by rfl):DA X B (e::es) (aa te t):=by
 refine A5 (zO n q o) ?_
 rintro Z H Q ⟨U,M,QQ,s,h,u⟩
 exact#[U,M,_,s,h,λx M1 i v1 H1 f i1 l=>#[U,M1,_,s.go f i1,i,λv M2 j v2 H2 g i2 m=>u _ M2 j _ H2 g (i1.trans i2) (.cons (l.mf f i2) m)]]
def aS(t:eh):bb:=λU M Q=>t U M λf M1=>f.length<=sizeLine/\Q (.tup f) M1
def bO(t:eh):bb:=λU M Q=>t U M λf M1=>f.length<=sizeLine/\∀p,M1 p=ca->Q (.ref p) (M1.upd p<|.lst f)
theorem Qh{x1}(h:DA X B es t):DE X B (.Tuple es x1 pos) (aS t):=by
 refine aT (OU h) ?_
 rintro Z H Q ⟨U,M,QQ,s,h,u⟩
 exact#[U,M,_,s,h,λl M1 i v1 H1 f i1 j=>#[by rw[<- j.length];exact i.1,λp g=>u _ M1 i.2 _ _ (f.new g) (i1.trans<|Frm.new g) #[p,v1,rfl,upd_same,j.mono<|Imm.new g]]]
theorem OG(h:DA X B es t):DE X B (.List es pos) (bO t):=by
 refine aT (QD h) ?_
 rintro Z H Q ⟨U,M,QQ,s,h,u⟩
 exact#[U,M,_,s,h,λxs M1 h1 v1 H1 rh1 i1 r1=>#[by rw[<- r1.length];exact h1.1,λp hp=>u _ _ (h1.2 p<|rh1.fresh hp) _ _ (rh1.put (by rw[hp];trivial) #[v1,upd_same,r1.mono<|Imm.new hp]) (i1.trans<|Frm.put<|.inl hp) rfl]]
theorem Inv.freeze(I:Inv X g Z H s)(h:H p=ap (.lst vs)):∃o,Inv X g Z (upd H p<|.frz o<|.lst vs) s:=by
 obtain⟨i,n,r,e,z⟩:=I.lst h;have ne:∀{b:cp}{u:Option HO},H b=u->u≠ap (.lst vs)->b≠p:=λ{b u} q J z=>by subst z;rw[h]at q;exact J q.symm
 refine#[{ cls:=.type "list",data:=.seq i.toArray n },I.ok,I.os,I.bare,#[I.base.keep,I.base.slot,λb o q v w=>?_,I.base.there,λb j q=>?_,λb o u q=>?_,λb C q=>?_],I.loc,I.cell,?_,λx c q=>?_,λG F=>?_,λb o q=>?_,I.len]
 .have f:=I.base.free b o q v w
  rw[aF (ne f<|by simp)];exact f
 .have f:=I.base.tups b j q
  rw[aF (ne f<|by simp)];exact f
 .have f:=I.base.frzs b o u q
  rw[aF (ne f<|by simp)];exact f
 .obtain⟨more,f⟩:=I.base.tbls b C q
  exact#[more,by rw[aF (ne f<|by simp)];exact f]
 .rw[aF (ne I.free<|by simp)];exact I.free
 .have f:=I.freeC x c q
  rw[aF (ne f<|by simp)];exact f
 .obtain⟨A,l,E⟩:=I.pin G F
  exact#[A,by rw[aF (ne l<|by simp)];exact l,E]
 .by_cases m:b=p
  .subst m
   rw[upd_same]at q;cases q;refine#[e,?_];exact#[z,i,n,r,e]
  .rw[aF m]at q
   refine (I.hok b o q).stay (λ_ _ _ y=>y) (λc y=>?_) λc j y=>?_
   .rw[aF (ne y<|by simp)];exact y
   .rw[aF (ne y<|by simp)];exact y
def frz(d:D)(M:Mem)(Q:DK):Prop:=onRe d (λa=>mLe (M a) (λf=>Q (.lst f) (M.del a)) (Q d M)) (Q d M)
def aq(t:bb):bb:=λU M Q=>t U M λd M'=>frz d M' Q
theorem RepH.freeze(r:RepH K H M)(h:H p=ap (.lst vs)):RepH K (upd H p<|.frz o<|.lst vs) (M.del p):=λb u e=>by
 unfold Mem.del at e
 split at e
 .cases e
 rename_i hb
 exact(r b u e).keep (Imm.upd<|by rw[h];trivial) (aF hb)
theorem QG(h:DE X B e te):DE X B e (aq te):=by
 rintro l s Z H Q I ⟨U,M,QQ,y,x,u⟩
 refine bv (h _ s Z H (λv H'=>∃d M',RepH _ H' M'/\Frm M H M' H'/\Rp _ H' d v/\frz d M' QQ) I #[U,M,_,y,x,λd M' q v H' f i r=>#[d,M',f,i,r,q]]) ?_
 rintro w z ⟨v,H',I',j,d,M',f,i,r,q⟩
 unfold frz at q;rcases q.inv with⟨a,rfl,q⟩|q
 .rcases q.inv with⟨A,e,q⟩|q
  .obtain⟨m,g,n⟩:=f _ _ e
   obtain⟨o,I2⟩:=Inv.freeze I' g;exact#[v,_,I2,j,u _ _ q v _ (f.freeze g) (i.trans<|Frm.del #[_,e]) #[a,m,r,#[o,upd_same],n.mono<|Imm.upd<|by rw[g];trivial]]
  exact#[v,H',I',j,u _ _ q v H' f i r]
 exact#[v,H',I',j,u _ _ q v H' f i r]
end
def g4(M:Mem):D->Option (List D)
 |.lst xs=>ap xs
 |.ref a=>match M a with
  |some (.lst xs)=>ap xs
  |_=>ca
 |_=>ca
def aO(M:Mem):D->Option (List D)
 |.tup xs=>ap xs
 |.lst xs=>ap xs
 |.mt xs=>ap xs
 |.ml xs=>ap xs
 |.ref a=>match M a with
  |some (.lst xs)=>ap xs
  |_=>ca
 |_=>ca
theorem iI(i:RepH K H M)(r:Rp K H d v)(e:g4 M d=ap xs):∃p vs,v=.ref p/\Rd H p (.lst vs)/\Rps K H xs vs:=by
 cases d with
 |lst f=>
  cases e;obtain⟨p,vs,rfl,⟨o,h⟩,r⟩:=r;exact#[p,vs,rfl,.inr #[o,h],r]
 |ref a=>
  simp[g4]at e
  split at e
  .rename_i f q
   cases e;obtain⟨vs,b,g⟩:=i _ _ q;exact#[a,vs,r,.inl b,g]
  cases e
 |_=>cases e
theorem jQ(i:RepH K H M)(r:Rp K H d v)(e:aO M d=ap xs):∃p vs,v=.ref p/\(SqL K H p vs\/kU K H p vs)/\Rps K H xs vs:=by
 cases d with
 |tup b=>
  cases e;obtain⟨p,vs,rfl,h,r⟩:=r;exact#[p,vs,rfl,.inr h.sq,r]
 |lst b=>
  cases e;obtain⟨p,vs,rfl,h,r⟩:=r;exact#[p,vs,rfl,.inl h.sq,r]
 |mt b=>
  cases e;obtain⟨p,vs,rfl,h,r⟩:=r;exact#[p,vs,rfl,.inr h.sq,r]
 |ml b=>
  cases e;obtain⟨p,vs,rfl,h,r⟩:=r;exact#[p,vs,rfl,.inl h.sq,r]
 |ref a=>
  simp[aO]at e
  split at e
  .rename_i b q
   cases e;obtain⟨vs,f,g⟩:=i _ _ q;exact#[a,vs,r,.inl (SqL.of f),g]
  cases e
 |_=>cases e
theorem Jz:cX X (hG .Add) (λx y H Q=>∃l b xs zs,x=.ref l/\y=.ref b/\Rd H l (.lst xs)/\Rd H b (.lst zs)/\xs.length+zs.length<=sizeLine/\∀p,H p=ca->Q (.ref p) (upd H p<|.lst (xs++zs))):=by
 rintro h s Z H x y v u Q I j A ⟨l,b,xs,zs,rfl,rfl,C,E,F,q⟩
 cases j;cases A;obtain⟨z,g,n,r,e⟩:=C.ok I.hok;obtain⟨J,f,L,i,o⟩:=E.ok I.hok;have G:=r.length;have m:=i.length;refine PySem.P.add_list e o ?_ (by simp_all)
 have w:g.toArray++f.toArray=(g++f).toArray:=by simp
 rw[w];exact#[.ref _,_,I.lnew (r.append i) (by rw[Vi];lia),rfl,q _ I.fresh]
def aZ:fQ:=λx y M Q=>onIST x (λi=>onI y λj=>Q (.int (i+j)) M) (λa=>onS y λb=>a.length+b.length<=sizeLine/\Q (.str (a++b)) M) (λxs=>onT y λf=>xs.length+f.length<=sizeLine/\Q (.tup (xs++f)) M) (so (g4 M x) λxs=>so (g4 M y) λf=>xs.length+f.length<=sizeLine/\∀p,M p=ca->Q (.ref p) (M.upd p<|.lst (xs++f)))
theorem Kw:cX X (hG .Add) (liftR2 X aZ):=by
 rintro abP s Z H x y v u Q I rx ry ⟨d1,d2,M,QQ,rh,r1,r2,h,up⟩
 unfold aZ at h
 replace h:=h.inv
 rcases h with⟨i,rfl,h⟩|⟨a,rfl,h⟩|⟨xs,rfl,h⟩|h
 .obtain⟨_,rfl,h⟩:=h.inv
  cases r1;cases r2;exact Pv _ s Z H _ _ v u Q I rx ry #[_,_,rfl,rfl,up _ M h _ H rh Frm.refl rfl]
 .obtain⟨_,rfl,h⟩:=h.inv
  cases r1;cases r2;exact yC _ s Z H _ _ v u Q I rx ry #[_,_,rfl,rfl,h.1,up _ M h.2 _ H rh Frm.refl rfl]
 .obtain⟨_,rfl,h⟩:=h.inv
  obtain⟨p,vs,rfl,t1,r1⟩:=r1;obtain⟨p',vs',rfl,t2,r2⟩:=r2;have l1:=r1.length;have l2:=r2.length;have r12:=r1.append r2
  by_cases hx:vs=[]
  .subst hx
   exact GY _ s Z H _ _ v u Q I rx ry #[p,p',_,rfl,rfl,t1.sq,t2.sq,(up _ M h.2 _ H rh Frm.refl #[p',_,rfl,t2,r12])]
  refine LN _ s Z H _ _ v u Q I rx ry #[p,p',vs,_,rfl,rfl,t1.sq,t2.sq,hx,by lia,λe=>?_,λ_ q hq=>?_]
  .subst e
   rw[VD]at r12;exact up _ M h.2 _ H rh Frm.refl #[p,vs,rfl,t1,r12]
  exact up _ M h.2 _ _ (rh.new hq) (Frm.new hq) #[q,_,rfl,upd_same,r12.mono<|Imm.new hq]
 obtain⟨xs,e1,h⟩:=h.inv;obtain⟨ys,e2,h⟩:=h.inv;obtain⟨p,vs,rfl,t1,r1⟩:=iI rh r1 e1;obtain⟨p',vs',rfl,t2,r2⟩:=iI rh r2 e2;have l1:=r1.length;have l2:=r2.length;exact Jz _ s Z H _ _ v u Q I rx ry #[p,p',vs,_,rfl,rfl,t1,t2,by lia,λq hq=>up _ _ (h.2 q<|rh.fresh hq) _ _ (rh.put (by rw[hq];trivial) #[_,upd_same,(r1.append r2).mono<|Imm.new hq]) (Frm.put<|.inl hq) rfl]
def oI(C:Int->Int->Prop)(g:Int->Int->D):fQ:=λx y M Q=>onI x λi=>onI y λj=>C i j/\Q (g i j) M
theorem FW(h:cX X f (rI C g))(e:∀i j K H,Rp K H (g' i j) (g i j)):cX X f (liftR2 X<|oI C g'):=by
 rintro l s Z H x y v u Q I m w ⟨E,A,M,QQ,n,q,z,b,o⟩
 unfold oI at b
 replace b:=b.inv;obtain⟨_,rfl,b⟩:=b
 replace b:=b.inv;obtain⟨_,rfl,b⟩:=b
 cases q;cases z;exact h _ s Z H _ _ v u Q I m w #[_,_,rfl,rfl,b.1,o _ M b.2 _ H n Frm.refl<|e _ _ _ _]
def k4(g:Int->Int->D):fQ:=λx y M Q=>onI x λi=>onI y λj=>Q (g i j) M
theorem kX(h:cX X f (E_ g))(e:∀i j K H,Rp K H (g' i j) (g i j)):cX X f (liftR2 X<|k4 g'):=by
 rintro l s Z H x y v u Q I m w ⟨C,A,M,QQ,n,q,z,b,o⟩
 unfold k4 at b
 replace b:=b.inv;obtain⟨_,rfl,b⟩:=b
 replace b:=b.inv;obtain⟨_,rfl,b⟩:=b
 cases q;cases z;exact h _ s Z H _ _ v u Q I m w #[_,_,rfl,rfl,o _ M b _ H n Frm.refl<|e _ _ _ _]
abbrev fc:fQ:=k4 λi j=>.int (i-j)
theorem LZ:cX X (hG .Sub) (liftR2 X fc):=kX Qc λ_ _ _ _=>rfl
abbrev dH:fQ:=oI (λ_ j=>0<j) λi j=>.int (i % j)
theorem Ml:cX X (hG .Mod) (liftR2 X dH):=FW PR λ_ _ _ _=>rfl
def wT(_ j:Int):Prop:=0<j/\j<2 ^ 200
theorem FR:cX X (hG .FloorDiv) (rI wT λi j=>.int (i / j)):=by
 rintro f s Z H x y v u Q I h m ⟨i,j,rfl,rfl,l,q⟩
 obtain⟨n,o⟩:=l;have g:j.toNat=j:=by lia
 refine GX ?_ (by lia) _ s Z H _ _ v u Q I h m #[i,j,rfl,rfl,g.symm,q]
 have b:j.toNat<2 ^ 200:=by
  simp_all
 have:=(Z3<|by lia).mpr b
 lia
abbrev fG:fQ:=oI wT λi j=>.int (i / j)
theorem FI:cX X (hG .FloorDiv) (liftR2 X fG):=FW FR λ_ _ _ _=>rfl
abbrev Pu:fQ:=oI LK λi j=>.int (i ^ j.toNat)
theorem LP:cX X (hG .Pow) (liftR2 X Pu):=FW Pj λ_ _ _ _=>rfl
abbrev SU:fQ:=k4 λi j=>.int (Builtin.bitXor i j)
theorem Mo:cX X (hG .BitXor) (liftR2 X SU):=kX Ox λ_ _ _ _=>rfl
abbrev ON:fQ:=k4 λi j=>.int (Xp i j)
theorem JQ:cX X (hG .BitAnd) (liftR2 X ON):=kX QK λ_ _ _ _=>rfl
abbrev oOr:fQ:=k4 λi j=>.int (Yc i j)
theorem Qn:cX X (hG .BitOr) (liftR2 X oOr):=kX Te λ_ _ _ _=>rfl
abbrev UC:fQ:=oI LK λi j=>.int (i*2 ^ j.toNat)
theorem La:cX X (hG .LShift) (liftR2 X UC):=FW Oc λ_ _ _ _=>rfl
abbrev SM:fQ:=oI (λ_ j=>0<=j) λi j=>.int (i / 2 ^ j.toNat)
theorem KJ:cX X (hG .RShift) (liftR2 X SM):=FW Qz λ_ _ _ _=>rfl
abbrev EU:fQ:=k4 λi j=>.bl (decide (i<j))
theorem Q8:cX X (iA .Lt) (liftR2 X EU):=kX UF λ_ _ _ _=>rfl
abbrev oLe:fQ:=k4 λi j=>.bl (decide (i<=j))
theorem QH:cX X (iA .LtE) (liftR2 X oLe):=kX Ui λ_ _ _ _=>rfl
abbrev BY:fQ:=k4 λi j=>.bl (decide (j<i))
theorem Qs:cX X (iA .Gt) (liftR2 X BY):=kX TH λ_ _ _ _=>rfl
abbrev oGe:fQ:=k4 λi j=>.bl (decide (j<=i))
theorem Os:cX X (iA .GtE) (liftR2 X oGe):=kX Uv λ_ _ _ _=>rfl
theorem Ho:∀(k:Nat)(abS:Array Nat),(Vl k (Tw [c])).foldl (·++·) abS=abS++Wv k c
 |0,abS=>by simp
 |k+1,abS=>by
  rw[Wn,Wa,Ho k _];apply Array.ext';simp[Wn]
theorem F9:cX X (hG .Mult) (λx y H Q=>∃c k,x=.str #[(Tw [c])]/\y=.int k/\1<=k/\k<=1000/\Q (.str #[Wv k.toNat c]) H):=by
 intro i s Z H x y v u Q I j n h;obtain⟨c,k,rfl,rfl,w,z,q⟩:=h;obtain⟨t,rfl⟩:=j;obtain⟨o,rfl⟩:=n;have b:(#[(Tw [c])]:Str).length=1:=rfl;have m:sizeLine=16777216:=rfl;refine PySem.P.mul_str ?_ ?_ ?_ ?_
 .rw[decide_eq_false (by lia),decide_eq_false (by lia)];rfl
 .intro _ _ l
  rw[b]at l;have:(1:Int)<=(2 ^ 63-1) / k:=Int.le_ediv_of_mul_le (by lia) (by lia)
  lia
 .intro _ _
  rw[b];exact decide_eq_false (by lia)
 .rw[if_neg (by lia)]
  by_cases g:k=1
  .subst g
   exact#[.str #[(Tw [c])],H,I,#[_,rfl],q]
  .rw[if_neg (by simp[b,g])]
   have f:(Vl k.toNat (Tw [c])).foldl (·++·) (Tw [])=Wv k.toNat c:=by rw[Ho];simp
   refine#[?_,.str _,H,I.tok _,#[_,rfl],by rw[f];exact q]
   show ((Vl k.toNat (Tw [c])).foldl (·++·) (Tw [])).size<=sizeLine;rw[f];simp;lia
def cD:fQ:=λx y M Q=>onI y λk=>onIST x (λi=>CMul i k/\Q (.int (i*k)) M) (λz=>one z.cps.toList λc=>1<=k/\k<=1000/\Q (.str #[Wv k.toNat c]) M) (λxs=>xs≠[]/\0<=k/\k<=1000/\xs.length<=1000/\Q (.tup (Vl k.toNat xs).flatten) M) False
theorem Rps.rep(h:Rps K H ds vs):∀k:Nat,Rps K H (Vl k ds).flatten (Vl k vs).flatten
 |0=>rfl
 |k+1=>by
  exact h.append (Rps.rep h k)
theorem KH:cX X (hG .Mult) (liftR2 X cD):=by
 rintro F s Z H x y v u Q I q C ⟨O,S,M,QQ,g,f,n,h,j⟩
 unfold cD at h;obtain⟨k,rfl,h⟩:=h.inv;cases O with
 |int i=>
  cases f;cases n;exact PF _ s Z H _ _ v u Q I q C #[_,_,rfl,rfl,h.1,j _ M h.2 _ H g Frm.refl rfl]
 |str z=>
   cases f;cases n
   replace h:one _ _:=h
   obtain⟨c,e,h⟩:=h.inv;have L:z=#[(Tw [c])]:=by
    obtain⟨⟨l⟩⟩:=z
    simp_all
   subst L;exact F9 _ s Z H _ _ v u Q I q C #[_,_,rfl,rfl,h.1,h.2.1,j _ M h.2.2 _ H g Frm.refl rfl]
 |tup xs=>
   obtain⟨p,w,rfl,t1,f⟩:=f;cases n;obtain⟨m,N,R,Y,E⟩:=h;have l1:=f.length;obtain⟨t,rfl⟩:=C;cases q;obtain⟨G,r,P,_⟩:=I.tuple t1.sq;have W:=r.length;refine DC P (λz=>m ?_) N R (by lia) (λe=>?_) λe=>?_
   .simp_all
   .refine#[.ref p,H,I,rfl,j _ M E _ H g Frm.refl #[p,w,rfl,t1,?_]]
    simp_all
   have A:=I.hok.fresh (UX _);have J:(Vl k.toNat w).flatten.length<=sizeLine:=by
    rw[JU];have m:k.toNat*w.length<=1000*1000:=XF (by lia) (by lia)
    exact Vb m (by decide)
   exact#[.ref _,_,I.laid (o:=.tup _) (λb T=>UN _) (by lia) #[J,_,r.rep _,#[_,US _ rfl,by lia,rfl]],rfl,
    j _ M E _ _ (g.new A) (Frm.new A) #[_,_,rfl,upd_same,(f.rep _).mono<|Imm.new A]]
 |_=>exact h.elim
def k_:D->Bool
 |.non=>true
 |_=>cx
def lB:fQ:=λx y M Q=>onN y (Q (.bl<|k_ x) M)
def fK:fQ:=λx y M Q=>onN y (Q (.bl<|!k_ x) M)
theorem IH(r:Rp K H d v):decide (v=V.non)=k_ d:=by
 cases d with
 |non=>cases r;rfl
 |tup xs=>obtain⟨p,b,rfl,_⟩:=r;rfl
 |lst xs=>obtain⟨p,b,rfl,_⟩:=r;rfl
 |mt xs=>obtain⟨p,b,rfl,_⟩:=r;rfl
 |ml xs=>obtain⟨p,b,rfl,_⟩:=r;rfl
 |fd ks xs=>obtain⟨p,b,rfl,_⟩:=r;rfl
 |_=>cases r;rfl
theorem AH:cX X (iA .Is) (liftR2 X lB):=by
 rintro b s Z H x y v u Q I f l ⟨o,n,M,QQ,g,j,m,h,i⟩
 unfold lB at h;obtain⟨rfl,h⟩:=h.inv;cases m;exact Po _ s Z H _ _ v u Q I f l #[rfl,by rw[IH j];exact i _ M h _ H g Frm.refl rfl]
theorem IB:cX X (iA .IsNot) (liftR2 X fK):=by
 rintro b s Z H x y v u Q I f l ⟨o,n,M,QQ,g,j,m,h,i⟩
 unfold fK at h;obtain⟨rfl,h⟩:=h.inv;cases m;refine JR _ s Z H _ _ v u Q I f l #[rfl,i _ M h _ H g Frm.refl ?_];show _=V.bl _;rw[IH j]
section
variable{κ:Type}[DecidableEq κ]
noncomputable def cV(abR:List (κ×D))(k:κ):Option D:=(abR.find? λb=>decide (b.1=k)).map (·.2)
noncomputable def eG(abR:List (κ×D))(k:κ)(v:D):List (κ×D):=
 if (abR.any λb=>decide (b.1=k))=true then abR.map (λb=>if b.1=k then (b.1,v) else b) else abR++[(k,v)]
noncomputable def qr(abR:List (κ×D))(k:κ):List (κ×D):=abR.filter λb=>decide (b.1≠k)
theorem Rkv.val{abR:List (κ×D)}{f:List (κ×V)}(h:Rkv K H abR f)(k:κ):(cV abR k=ca/\eE f k=ca)\/∃d v,cV abR k=ap d/\eE f k=ap v/\Rp K H d v:=by
 induction h with
 |nil=>exact .inl #[rfl,rfl]
 |@cons p q ps qs r t ih=>
  obtain⟨g,d⟩:=p;obtain⟨i,v⟩:=q;obtain⟨e,r⟩:=r;dsimp only at e r;subst e
  by_cases b:g=k
  .exact .inr #[d,v,by simp[cV,b],by simp[eE,b],r]
  simpa [cV,eE,b] using ih
theorem Rkv.any{abR:List (κ×D)}{b:List (κ×V)}(h:Rkv K H abR b)(k:κ):(abR.any λkv=>decide (kv.1=k))=(b.any λkv=>decide (kv.1=k)):=by
 induction h<;>simp_all
theorem Rkv.put{abR:List (κ×D)}{f:List (κ×V)}(h:Rkv K H abR f)(k:κ){d:D}{v:V}(r:Rp K H d v):Rkv K H (eG abR k d) (fD f k v):=by
 unfold eG fD;rw[h.any k]
 split
 .rename_i q;clear q
  induction h with
  |nil=>exact .nil
  |@cons p q ps qs rr t ih=>
   obtain⟨i,m⟩:=p;obtain⟨l,j⟩:=q;obtain⟨e,g⟩:=rr;dsimp only at e g;subst e;rw[UR,UR];refine .cons ?_ ih
   by_cases b:i=k
   .rw[if_pos b,if_pos b];trivial
   rw[if_neg b,if_neg b];trivial
 rename_i q;clear q
 induction h with
 |nil=>exact .cons #[rfl,r] .nil
 |cons rr t ih=>exact .cons rr ih
theorem Rkv.drop{abR:List (κ×D)}{b:List (κ×V)}(h:Rkv K H abR b)(k:κ):Rkv K H (qr abR k) (iT b k):=by
 unfold qr iT
 induction h with
 |nil=>exact .nil
 |@cons p q ps qs rr t ih=>
  obtain⟨g,m⟩:=p;obtain⟨l,j⟩:=q;obtain⟨e,f⟩:=rr;subst e
  by_cases i:g=k
  .simp_all
  simp only[Vo,ne_eq,i];exact .cons #[rfl,f] ih
theorem Rkv.length{abR:List (κ×D)}{b:List (κ×V)}(h:Rkv K H abR b):abR.length=b.length:=Wh h
end
def cP:D->Option aD
 |.int i=>ap (.inl i)
 |.str x=>ap (.inr x)
 |_=>ca
def eV:List D->Option (List aD)
 |[]=>ap []
 |d::ds=>match cP d,eV ds with
  |some k,ap ks=>ap (k::ks)
  |_,_=>ca
def Ec:D->Option (List aD)
 |.tup xs=>eV xs
 |_=>ca
theorem iy(r:Rp K H d v)(e:cP d=ap k):v=kV k:=by
 cases d with
 |int i=>cases e;exact r
 |str x=>cases e;exact r
 |_=>cases e
theorem nj:∀{ds:List D}{vs:List V}{ks:List aD},Rps K H ds vs->eV ds=ap ks->vs=ks.map kV
 |[],vs,ks,r,e=>by cases e;exact r
 |d::ds,vs,ks,r,e=>by
  obtain⟨v,i,rfl,a,b⟩:=r;simp[eV]at e
  split at e
  .rename_i k f h g
   cases e;rw[iy a h,nj b g];rfl
  cases e
def rO(M:Mem)(a:cp)(y:D):Option (Option D):=match M a with
 |some (.dK abR)=>match cP y with
  |some k=>ap (cV abR k)
  |none=>ca
 |some (.dT abR)=>match Ec y with
  |some k=>ap (cV abR k)
  |none=>ca
 |_=>ca
theorem oK(r:Rp K H d v)(e:Ec d=ap ks):∃b,v=.ref b/\H b=ap (.tup<|ks.map kV):=by
 cases d with
 |tup xs=>
  obtain⟨p,f,rfl,t,r⟩:=r;exact#[p,rfl,by rw[<- nj r e];exact t]
 |_=>cases e
theorem lZ(q:RepH K H M)(r:Rp K H y v)(e:rO M a y=ap o):
  (o=ca/\DGet H a v ca)\/∃d w,o=ap d/\DGet H a v (ap w)/\Rp K H d w:=by
 unfold rO at e
 split at e
 .rename_i i l
  obtain⟨s,h,m⟩:=q _ _ l
  split at e
  .rename_i k j
   cases e;have u:=iy r j;subst u;rcases m.val k with⟨g,f⟩|⟨d,w,g,f,r'⟩
   .exact .inl #[g,by rw[<- f];exact DGet.k h]
   exact .inr #[d,w,g,by rw[<- f];exact DGet.k h,r']
  cases e
 .rename_i i l
  obtain⟨s,h,m⟩:=q _ _ l
  split at e
  .rename_i k j
   cases e;obtain⟨b,rfl,n⟩:=oK r j;rcases m.val k with⟨g,f⟩|⟨d,w,g,f,r'⟩
   .exact .inl #[g,by rw[<- f];exact DGet.t h n]
   exact .inr #[d,w,g,by rw[<- f];exact DGet.t h n,r']
  cases e
 cases e
end _3
namespace HT
open PySem PyProof.Rows
theorem iL(e:IsTup s.heap t a)(n:s.heap.IsSliceOf j l m .none)(pl:W' l b)(q:W' m f)
  (r:sIx a.size 0 b=0/\sIx a.size a.size f=a.size) (h:Q (.ref t) s):eg (eH prog w) A (V_ (.ref t)<|.ref j) Q E s:=by
 obtain⟨o,g,i,p⟩:=id n;unfold V_
 try with_reducible refine kr ?_
 refine ay (wpAny_sequenceKey e.typeIs (by decide) ?_)
 refine ay (wpAny_callSpecial?_slot e.typeIs VN
  (kl VN e.typeIs entry_tuple_getitem ?_<|args_tuple_getitem _ _))
 show eg _ _ (Yk _ >>= _) _ _ s;refine ay (tupleItemsOf_ e ?_);refine ay (UV #[o,g,i] ?_);refine ay (fg n pl q ?_);have c:((((sIx a.size 0 b):Int)==0&&(1:Int)==1&&(sIx a.size a.size f-sIx a.size 0 b)==a.size)=true):=by
  simp_all
 show eg _ _ (if (((sIx _ 0 b:Nat):Int)==0&&1==1&&(sIx _ _ f-sIx _ 0 b)==a.size)=true then _ else _) _ _ s
 rw[if_pos c];refine ay (ay<|wpAny_typeOf e.typeIs<|wpAny_pure ?_)
 first
  |exact ay _
  |exact ay (U_<|wpAny_pure #[_,rfl,eC h])
  |rfl
  |trace_state
end HT
namespace _3
open PySem _2
variable{p p':cp}{a b:ab6}{X:Cx}{c e:fv}{H:Hp}{Z:_2.St}{es:ab1}{abV its':abZ}{i n:Nat}{s:cb}{x:Str}{K:UP}{u:ax}{g:ki}{r:oz}
def fH{α:Type}(xs:List α):Int->Option α
 |.ofNat k=>xs[k]?
 |.negSucc k=>_2.atI xs (.negSucc k)
theorem yE:∀{i:Int},fH xs i=_2.atI xs i
 |.negSucc _=>rfl
 |.ofNat k=>by
  unfold _2.atI uR;rw[if_pos (by lia)]
  by_cases f:k<xs.length
  .rw[if_pos (by simp_all)];rfl
  rw[if_neg (by simp_all)];exact VU (by lia)
def az:fQ:=λx y M Q=>oe (aO M x) (λf=>onI y λi=>so (fH f i) λd=>Q d M) (onSR x (λz=>onI y λi=>z.length<=sizeLine/\so (fH z.cps.toList i) λc=>Q (.str #[(Tw [c])]) M) λa=>s2 (rO M a y) λd=>Q d M)
theorem Rps.atI{i:Int}(r:Rps K H ds vs)(e:fH ds i=ap d):∃v,_2.atI vs i=ap v/\Rp K H d v:=by
 rw[yE]at e;unfold _2.atI at e ⊢;rw[<- r.length];cases q:uR _ i with
 |none=>simp_all
 |some j=>
  rw[q]at e;exact r.get e
theorem Cg(E:X.A.units+1<l'):IxR X (λx y H Q=>∃a v,x=.ref a/\DGet H a y (ap v)/\Q v H):=by
 intro f l m s Z H x y v u Q I o C h z;obtain⟨a,w,rfl,g,q⟩:=h;cases o;exact PyProof.Rows.tail_any (wG I g) rfl (qu E I g C λF G I3 j=>#[w,H,I3,j,q]) z
theorem PU(U:X.A.units+1<l'):IxR X (liftR2 X az):=by
 intro l j q s Z H x y v u Q I F N h J;obtain⟨d1,W,M,QQ,o,L,C,h,G⟩:=h;unfold az at h
 replace h:=h.inv;rcases h with⟨Y,e,h⟩|⟨_,h⟩
 .replace h:=h.inv;obtain⟨i,rfl,h⟩:=h
  obtain⟨d,E,h⟩:=h.inv;cases C;obtain⟨p,P,rfl,hq,r⟩:=jQ o L e;obtain⟨w,R,f⟩:=r.atI E;refine OF _ _ _ s Z H _ _ v u Q I F N ?_ J;have m:=G _ M h _ H o Frm.refl f;rcases hq with hq|hq
  .exact .inl #[p,P,i,w,rfl,rfl,hq,R,m]
  exact .inr (.inl #[p,P,i,w,rfl,rfl,hq,R,m])
 replace h:=h.inv;rcases h with⟨z,rfl,h⟩|⟨a,rfl,h⟩
 .replace h:=h.inv;obtain⟨i,rfl,S,h⟩:=h
  obtain⟨T,O,h⟩:=h.inv;rw[yE]at O;cases L;cases C;exact FT _ _ _ s Z H _ _ v u Q I F N #[_,_,T,rfl,rfl,S,O,G _ M h _ H o Frm.refl rfl] J
 obtain⟨d,E,h⟩:=h.inv;cases L;rcases lZ o C E with⟨z,_⟩|⟨d',w,z,g,f⟩
 .cases z
 cases z;exact Cg U l j q s Z H _ _ v u Q I F N #[_,w,rfl,g,G _ M h _ H o Frm.refl f] J
abbrev NY:=Dl->Mem->(Option Int->Mem->Prop)->Prop
inductive liftO(X:Cx)(B:Bd)(T:NY)(Z:St)(H:Hp)(Q:Option Int->Hp->Prop):Prop
 |mk (U:Dl) (M:Mem) (QQ:Option Int->Mem->Prop) (s:SR X B U M Z H) (h:T U M QQ) (u:∀o M',QQ o M'->∀H',RepH X.K H' M'->Frm M H M' H'->Q o H'):liftO X B T Z H Q
def DO(X:Cx)(B:Bd)(e:Option fv)(T:NY):Prop:=PO X e (liftO X B T)
theorem zd{e:Option fv}(h:PO X e t)(w:∀Z H Q,t' Z H Q->t Z H Q):PO X e t':=λf s Z H Q I q=>h _ s Z H Q I (w Z H Q q)
def cS:NY:=λ_ M Q=>Q ca M
def fj(t:bb):NY:=λU M Q=>t U M λx M1=>onI x λi=>Q (ap i) M1
theorem Kj:DO X B ca cS:=zd J_ (by rintro Z H Q ⟨U,M,QQ,s,h,u⟩;exact u _ M h H s.rh Frm.refl)
theorem JD(h:DE X B e te):DO X B (ap e) (fj te):=by
 refine zd (Kg h) ?_
 rintro Z H Q ⟨U,M,QQ,s,h,u⟩
 refine#[U,M,_,s,h,λd M' q v H' f i r=>?_];cases d with
 |int j=>exact#[j,r,u _ M' q H' f i]
 |_=>exact q.elim
def nM(xs:List D)(lo hi:Option Int):List D:=(xs.drop<|HT.sIx xs.length 0 lo).take (HT.sIx xs.length xs.length hi-HT.sIx xs.length 0 lo)
theorem Rps.cut(r:Rps K H ds vs)(h f:Option Int):Rps K H (nM ds h f) (pY vs h f):=by
 unfold nM pY;rw[<- r.length];exact(r.drop _).take _
def oSl(x:D)(lo hi:Option Int)(M:Mem)(Q:DK):Prop:=onTM x (λf=>Q (.tup<|nM f lo hi) M) (λf=>∀p,M p=ca->Q (.ref p) (M.upd p<|.lst<|nM f lo hi)) (so (g4 M x) λf=>∀p,M p=ca->Q (.ref p) (M.upd p<|.lst<|nM f lo hi))
inductive liftSl(X:Cx)(x:V)(lo hi:Option Int)(H:Hp)(Q:VK):Prop
 |mk (d:D) (M:Mem) (QQ:DK) (rh:RepH X.K H M) (r:Rp X.K H d x) (h:oSl d lo hi M QQ) (u:Up X.K M H QQ Q):liftSl X x lo hi H Q
theorem y4(h:HT.sIx vs.length 0 j=0/\HT.sIx vs.length vs.length f=vs.length):pY vs j f=vs:=by
 unfold pY
 simp_all
theorem Ka:Sk X (λx lo hi H Q=>∃a xs,x=.ref a/\kU X.K H a xs/\(pY xs lo hi=xs->Q (.ref a) H)/\∀p,H p=ca->Q (.ref p) (upd H p<|.tup<|pY xs lo hi)):=by
 intro j s Z H x v C E lo hi G Q I w z pl y h;obtain⟨a,xs,rfl,o,F,q⟩:=h
 by_cases l:HT.sIx xs.length 0 lo=0/\HT.sIx xs.length xs.length hi=xs.length
 .cases w
  obtain⟨abV,r,m,J⟩:=I.tuple o;have f:abV.toArray.size=xs.length:=by rw[Ve];exact r.length.symm
  refine#["tuple",_,VN.lookup,m.typeIs,?_];exact HT.iL m z pl y (by rw[f];exact l) #[.ref a,H,I,rfl,F<|y4 l]
 .exact Qr j s Z H _ v C E lo hi G Q I w z pl y #[a,xs,rfl,o,l,q]
section
variable{p:Pos}{t:eh}
theorem Oq:Sk X (liftSl X):=by
 rintro abP s Z H x v vl vu lo hi sl Q I rx hs pl pu ⟨d,M,QQ,rh,r,h,up⟩
 unfold oSl at h
 replace h:=h.inv;rcases h with⟨xs,rfl,h⟩|⟨xs,rfl,h⟩|h
 .obtain⟨a,vs,rfl,ht,r⟩:=r
  exact Ka _ s Z H _ v vl vu lo hi sl Q I rx hs pl pu #[a,vs,rfl,ht.sq,λe=>up _ M h _ H rh Frm.refl #[a,vs,rfl,ht,by rw[<- e];exact r.cut lo hi],λp hp=>up _ M h _ _ (rh.new hp) (Frm.new hp) #[p,_,rfl,upd_same,(r.cut lo hi).mono<|Imm.new hp]]
 .obtain⟨a,vs,rfl,hq,r⟩:=r
  exact CD _ s Z H _ v vl vu lo hi sl Q I rx hs pl pu #[a,vs,rfl,hq.sq,λp hp=>up _ _ (h p<|rh.fresh hp) _ _ (rh.put (by rw[hp];trivial) #[_,upd_same,(r.cut lo hi).mono<|Imm.new hp]) (Frm.put<|.inl hp) rfl]
 obtain⟨xs,e,h⟩:=h.inv;obtain⟨a,vs,rfl,hq,r⟩:=iI rh r e;exact CD _ s Z H _ v vl vu lo hi sl Q I rx hs pl pu #[a,vs,rfl,.inl hq,λp hp=>up _ _ (h p<|rh.fresh hp) _ _ (rh.put (by rw[hp];trivial) #[_,upd_same,(r.cut lo hi).mono<|Imm.new hp]) (Frm.put<|.inl hp) rfl]
def ES(te:bb)(tl th:NY):bb:=λU M Q=>te U M λx M1=>tl U M1 λl M2=>th U M2 λu M3=>oSl x l u M3 Q
theorem GK(z:DE X B e te)(C:DO X B lo tl)(E:DO X B hi th):DE X B (.Subscript e (.Slice lo hi ca p2) pos) (ES te tl th):=by
 refine aT (IC Oq z C E) ?_
 rintro Z H Q ⟨U,M,QQ,s,h,u⟩
 exact#[U,M,_,s,h,λx M1 o v1 H1 f i1 v=>#[U,M1,_,s.go f i1,o,λl M2 q H2 m i2=>#[U,M2,_,s.go m (i1.trans i2),q,λw M3 y H3 j i3=>#[x,M3,QQ,j,v.mf f (i2.trans i3),y,u.go<|(i1.trans i2).trans i3]]]]
abbrev oz:=List D->Mem->DK->Prop
inductive liftC(X:Cx)(r:oz)(xs:List V)(H:Hp)(Q:VK):Prop
 |mk (ds:List D) (M:Mem) (QQ:DK) (rh:RepH X.K H M) (rp:Rps X.K H ds xs) (h:r ds M QQ) (u:Up X.K M H QQ Q):liftC X r xs H Q
def b6(r:oz)(t:eh):bb:=λU M Q=>t U M λf M1=>r f M1 Q
theorem Aj(h:liftE X B (b6 r t) Z H Q):tCB (liftC X r) (liftA X B t) Z H Q:=by
 obtain⟨U,M,QQ,s,h,u⟩:=h;exact#[U,M,_,s,h,λl M1 j o H1 f i1 m=>#[l,M1,QQ,f,m,j,u.go i1]]
theorem I_{id:String}(q:bw X (.builtin id) (liftC X r))(l:Gl X x)(j:X.mg x=ca)(o:ff x=ap (.builtin id))(m:DA X B (e::es) t)(f:x≠"__name__":=by decide)(hdb:(x==("__debug__":Str))=false:=by decide)(he:cT (e::es) X.env=(cx,fx e X.env)::cT es X.env:=by rfl)(hpl:(ix pos<|starEach es X.env).any (·.1)=false:=by rfl):DE X B (.Call (.Name x p) (e::es) [] pos) (b6 r t):=
 aT (IG q l j o m f hdb he hpl) λ_ _ _ h=>Aj h
theorem DN(q:bw X (.type T) (liftC X r))(l:Gl X x)(j:X.mg x=ca)(o:ff x=ap (.type T))(m:DA X B (e::es) t)(f:x≠"__name__":=by decide)(hdb:(x==("__debug__":Str))=false:=by decide)(he:cT (e::es) X.env=(cx,fx e X.env)::cT es X.env:=by rfl)(hpl:(ix pos<|starEach es X.env).any (·.1)=false:=by rfl):DE X B (.Call (.Name x p) (e::es) [] pos) (b6 r t):=
 aT (ED q l j o m f hdb he hpl) λ_ _ _ h=>Aj h
theorem fZ{ds:List D}{vs:List V}{d:D}(r:Rps K H [d] vs):∃v,vs=[v]/\Rp K H d v:=by
 obtain⟨v,w,rfl,a,b⟩:=r;cases b;exact#[v,rfl,a]
theorem GH{e:D}(r:Rps K H [d,e] vs):∃v w,vs=[v,w]/\Rp K H d v/\Rp K H e w:=by
 obtain⟨v,w,rfl,a,b⟩:=r;obtain⟨f,j,rfl,h,b⟩:=b;cases b;exact#[v,f,rfl,a,h]
def bh:oz:=λj M Q=>one j λd=>oe (aO M d) (λh=>Q (.int h.length) M) (onSR d (λz=>z.length<=sizeLine/\Q (.int z.length) M) λa=>mK (M a) λf=>Q (.int f.length) M)
theorem DP:bw X (.builtin "len") (liftC X bh):=by
 rintro o s Z H O m Q I r ⟨ds,M,QQ,f,L,h,l⟩
 unfold bh at h
 replace h:=h.inv;obtain⟨d,rfl,h⟩:=h
 obtain⟨v,rfl,j⟩:=fZ (ds:=[]) L
 replace h:=h.inv;rcases h with⟨N,e,h⟩|⟨_,h⟩
 .obtain⟨q,y,rfl,G,E⟩:=jQ f j e
  exact sX _ s Z H _ m Q I r #[q,y,rfl,G,by rw[<- E.length];exact l _ M h _ H f Frm.refl rfl]
 replace h:=h.inv;rcases h with⟨z,rfl,h⟩|⟨a,rfl,h⟩
 .cases j
  exact rL _ s Z H _ m Q I r #[_,rfl,h.1,l _ M h.2 _ H f Frm.refl rfl]
 obtain⟨J,e,h⟩:=h.inv;cases j;obtain⟨F,w,C⟩:=f _ _ e;exact DF _ s Z H _ m Q I r #[_,F,rfl,w,by rw[<- C.length];exact l _ M h _ H f Frm.refl rfl]
def gb:oz:=λh M Q=>one h λd=>so (aO M d) λf=>∀p,M p=ca->Q (.ref p) (M.upd p<|.lst f)
theorem ya:bw X (.type "list") (liftC X gb):=by
 rintro abP s Z H xs us Q I r ⟨ds,M,QQ,rh,rp,h,up⟩
 unfold gb at h
 replace h:=h.inv;obtain⟨_,rfl,h⟩:=h
 obtain⟨v,rfl,rv⟩:=fZ (ds:=[]) rp;obtain⟨ys,e,h⟩:=h.inv;obtain⟨q,vs,rfl,hq,rr⟩:=jQ rh rv e;exact uw _ s Z H _ us Q I r #[q,vs,rfl,hq,λp hp=>up _ _ (h p<|rh.fresh hp) _ _ (rh.put (by rw[hp];trivial) #[_,upd_same,rr.mono<|Imm.new hp]) (Frm.put<|.inl hp) rfl]
def bP:oz:=λh M Q=>one h λd=>onTe d (λf=>Q (.tup f) M) (so (g4 M d) λf=>Q (.tup f) M)
theorem vJ:bw X (.type "tuple") (liftC X bP):=by
 rintro C s Z H E z Q I r ⟨ds,M,QQ,j,G,h,y⟩
 unfold bP at h
 replace h:=h.inv;obtain⟨d,rfl,h⟩:=h
 obtain⟨v,rfl,w⟩:=fZ (ds:=[]) G
 replace h:=h.inv;rcases h with⟨E,rfl,h⟩|h
 .obtain⟨q,f,rfl,o,m⟩:=w
  exact iM _ s Z H _ z Q I r #[q,f,rfl,.inr #[o.sq,y _ M h _ H j Frm.refl #[q,f,rfl,o,m]]]
 obtain⟨J,e,h⟩:=h.inv;obtain⟨q,f,rfl,F,m⟩:=iI j w e;exact iM _ s Z H _ z Q I r #[q,f,rfl,.inl #[.inl F,λp l=>y _ M h _ _ (j.new l) (Frm.new l) #[p,_,rfl,upd_same,m.mono<|Imm.new l]]]
def df(M:Mem):D->Option String
 |.non=>ap "NoneType"
 |.bl _=>ap "bool"
 |.int _=>ap "int"
 |.str _=>ap "str"
 |.tup _=>ap "tuple"
 |.lst _=>ap "list"
 |.ref a=>match M a with
  |some (.lst _)=>ap "list"
  |some (.dK _)=>ap "dict"
  |some (.dT _)=>ap "dict"
  |_=>ca
 |_=>ca
noncomputable def bW(t T:String):Bool:=t==T||(t=="bool"&&T=="int")
noncomputable def nP(T:String):Bool:=T=="bool"||T=="int"||T=="str"||T=="tuple"||T=="list"||T=="dict"
theorem JJ:(∀K:UP,∀t∈["NoneType","bool","int","str","tuple","list","dict"],∀T∈["bool","int","str","tuple","list","dict"],W.kitOne K (.type t) (.type T)=ap (bW t T)):=by
 intro K t f T h;simp at f h;rcases f with rfl|rfl|rfl|rfl|rfl|rfl|rfl<;>rcases h with rfl|rfl|rfl|rfl|rfl|rfl<;>kernel_rfl
theorem KN{t:String}(j:RepH K H M)(r:Rp K H d v)(e:df M d=ap t):TyOf K H v (.type t)/\t∈["NoneType","bool","int","str","tuple","list","dict"]:=by
 cases d with
 |non=>cases r;cases e;exact#[.non,by simp]
 |bl b=>cases r;cases e;exact#[.bl b,by simp]
 |int i=>cases r;cases e;exact#[.int i,by simp]
 |str x=>cases r;cases e;exact#[.str x,by simp]
 |tup xs=>
  cases e;obtain⟨q,y,rfl,h,w⟩:=r;exact#[.tup h,by simp]
 |lst xs=>
  cases e;obtain⟨q,y,rfl,⟨o,h⟩,w⟩:=r;exact#[.frz h,by simp]
 |ref a=>
  cases r;simp[df]at e
  split at e
  .rename_i q;cases e;obtain⟨l,f,m⟩:=j _ _ q;exact#[.lst f,by simp]
  .rename_i q;cases e;obtain⟨l,f,m⟩:=j _ _ q;exact#[.dK f,by simp]
  .rename_i q;cases e;obtain⟨l,f,m⟩:=j _ _ q;exact#[.dT f,by simp]
  cases e
 |_=>cases e
def dZ:oz:=λf M Q=>two f λd e=>onTy e λT=>nP T=true/\so (df M d) λt=>Q (.bl<|bW t T) M
theorem sF:bw X (.builtin "isinstance") (liftC X dZ):=by
 rintro m s Z H F C Q I r ⟨E,M,QQ,j,z,h,y⟩
 unfold dZ at h
 replace h:=h.inv;obtain⟨d,T',rfl,h⟩:=h
 replace h:=h.inv;obtain⟨T,rfl,l,h⟩:=h
 obtain⟨v,w,rfl,q,f⟩:=GH z;cases f;obtain⟨t,e,h⟩:=h.inv;obtain⟨ty,o⟩:=KN j q e;refine wz _ s Z H _ C Q I r #[v,T,_,_,rfl,ty,JJ _ t o T ?_,y _ M h _ H j Frm.refl rfl];simp[nP]at l;simp;rcases l with ((((h|h)|h)|h)|h)|h<;>simp[h]
def qo:List D->Option (List Bool)
 |[]=>ap []
 |.bl b::ds=>match qo ds with
  |some bs=>ap (b::bs)
  |none=>ca
 |_=>ca
theorem qH:∀{ds:List D}{vs:List V}{bs:List Bool},Rps K H ds vs->qo ds=ap bs->vs=bs.map V.bl
 |[],vs,bs,r,e=>by cases e;exact r
 |d::ds,vs,bs,r,e=>by
  obtain⟨v,j,rfl,a,b⟩:=r;cases d with
  |bl c=>
   simp[qo]at e
   split at e
   .rename_i f h
    cases e;cases a;rw[qH b h];rfl
   cases e
  |_=>cases e
def Q_:oz:=λh M Q=>one h λd=>so (g4 M d) λf=>so (qo f) λbs=>Q (.bl<|bs.all id) M
theorem DL(F:X.calm=true):bw X (.builtin "all") (liftC X Q_):=by
 rintro j s Z H L E Q I r ⟨ds,M,QQ,f,C,h,o⟩
 unfold Q_ at h
 replace h:=h.inv;obtain⟨_,rfl,h⟩:=h
 obtain⟨v,rfl,l⟩:=fZ (ds:=[]) C;obtain⟨G,e,h⟩:=h.inv;obtain⟨bs,m,h⟩:=h.inv;obtain⟨q,J,rfl,y,w⟩:=iI f l e;have z:=qH w m;subst z;exact GW F _ s Z H _ E Q I r #[q,bs,rfl,.inl y,o _ M h _ H f Frm.refl rfl]
def Ix:oz:=λl M Q=>two l λf h=>onI f λi=>onI h λj=>Q (.int (if j<i then j else i)) M
theorem Ee(z:X.calm=true):bw X (.builtin "min") (liftC X Ix):=by
 rintro j s Z H F y Q I r ⟨C,M,QQ,l,q,h,o⟩
 unfold Ix at h
 replace h:=h.inv;obtain⟨G,E,rfl,h⟩:=h
 replace h:=h.inv;obtain⟨_,rfl,h⟩:=h
 replace h:=h.inv;obtain⟨_,rfl,h⟩:=h
 obtain⟨v,w,rfl,m,f⟩:=GH q;cases m;cases f;exact Ev z _ s Z H _ y Q I r #[_,_,rfl,o _ M h _ H l Frm.refl rfl]
def Lc:oz:=λl M Q=>two l λh f=>onI h λi=>onI f λj=>Q (.int (if j>i then j else i)) M
theorem Eu(z:X.calm=true):bw X (.builtin "max") (liftC X Lc):=by
 rintro j s Z H F y Q I r ⟨C,M,QQ,l,q,h,o⟩
 unfold Lc at h
 replace h:=h.inv;obtain⟨E,G,rfl,h⟩:=h
 replace h:=h.inv;obtain⟨_,rfl,h⟩:=h
 replace h:=h.inv;obtain⟨_,rfl,h⟩:=h
 obtain⟨v,w,rfl,m,f⟩:=GH q;cases m;cases f;exact Dw z _ s Z H _ y Q I r #[_,_,rfl,o _ M h _ H l Frm.refl rfl]
end
mutual
def aQ:D->D->Bool
 |.non,.non=>true
 |.bl a,.bl b=>a==b
 |.bl a,.int b=>(if a then 1 else 0)==b
 |.int a,.bl b=>a==(if b then 1 else 0)
 |.int a,.int b=>decide (a=b)
 |.str a,.str b=>decide (a=b)
 |.tup xs,.tup ys=>gS xs ys
 |.lst xs,.lst ys=>gS xs ys
 |_,_=>cx
def gS:List D->List D->Bool
 |[],[]=>true
 |x::xs,y::ys=>aQ x y&&gS xs ys
 |_,_=>cx
end
mutual
def bz:Nat->D->Bool
 |_,.non=>true
 |_,.bl _=>true
 |_,.int _=>true
 |_,.str _=>true
 |n+1,.tup xs=>fits n xs
 |n+1,.lst xs=>fits n xs
 |_,_=>cx
def fits:Nat->List D->Bool
 |_,[]=>true
 |n,x::xs=>bz n x&&fits n xs
end
mutual
def Hr(h:g3):D->ax->Prop
 |.non,u=>u=.none
 |.bl b,u=>u=.bool b
 |.int i,u=>∃t,u=.int i t
 |.str x,u=>∃t,u=.str x t
 |.tup xs,u=>∃p abV,u=.ref p/\h.IsTuple p (List.toArray abV)/\Hrs h xs abV
 |.lst xs,u=>∃p abV,u=.ref p/\h.IsList p (List.toArray abV)/\Hrs h xs abV
 |_,_=>False
def Hrs(h:g3):List D->List ax->Prop
 |[],us=>us=[]
 |x::xs,us=>∃u r,us=u::r/\Hr h x u/\Hrs h xs r
end
section
variable{h:g3}
theorem Hrs.length:∀{ds:List D}{us:abZ},Hrs h ds us->ds.length=us.length
 |[],_,q=>by cases q;rfl
 |_::_,_,q=>by obtain⟨v,r,rfl,_,b⟩:=q;simp[b.length]
theorem Hrs.get:∀{ds:List D}{us:abZ},Hrs h ds us->∀(i:Nat)(h1:i<ds.length)(h2:i<us.length),Hr h ds[i] us[i]
 |[],_,_,i,h1,_=>absurd h1 (by trivial)
 |x::xs,_,q,i,h1,h2=>by
  obtain⟨v,r,rfl,a,b⟩:=q;cases i with
  |zero=>exact a
  |succ i=>exact b.get i _ _
theorem BP(x:h.IsTuple p a)(y:h.IsTuple p b):a=b:=by
 obtain⟨o,m,_,n,v⟩:=x;obtain⟨l,j,_,q,f⟩:=y
 simp_all
theorem De(x:h.IsList p a)(y:h.IsList p b):a=b:=by
 obtain⟨o,m,_,n,v⟩:=x;obtain⟨l,j,_,q,f⟩:=y
 simp_all
theorem S_(x:h.IsList p a)(y:h.IsTuple p b):False:=by
 obtain⟨o,l,c,_⟩:=x;obtain⟨j,f,m,_⟩:=y
 simp_all
mutual
theorem GP:∀{d e:D}{u:ax},Hr h d u->Hr h e u->d=e
 |.non,e,u,a,b=>by
  cases a;cases e with
  |non=>rfl
  |bl _=>cases b
  |int _=>obtain⟨t,q⟩:=b;cases q
  |str _=>obtain⟨t,q⟩:=b;cases q
  |tup _=>obtain⟨p,i,q,_⟩:=b;cases q
  |lst _=>obtain⟨p,i,q,_⟩:=b;cases q
  |_=>exact(show False from b).elim
 |.bl c,e,u,a,b=>by
  cases a;cases e with
  |non=>cases b
  |bl _=>cases b;rfl
  |int _=>obtain⟨t,q⟩:=b;cases q
  |str _=>obtain⟨t,q⟩:=b;cases q
  |tup _=>obtain⟨p,i,q,_⟩:=b;cases q
  |lst _=>obtain⟨p,i,q,_⟩:=b;cases q
  |_=>exact(show False from b).elim
 |.int c,e,u,a,b=>by
  obtain⟨t,rfl⟩:=a;cases e with
  |non=>cases b
  |bl _=>cases b
  |int _=>obtain⟨t,q⟩:=b;cases q;rfl
  |str _=>obtain⟨t,q⟩:=b;cases q
  |tup _=>obtain⟨p,i,q,_⟩:=b;cases q
  |lst _=>obtain⟨p,i,q,_⟩:=b;cases q
  |_=>exact(show False from b).elim
 |.str c,e,u,a,b=>by
  obtain⟨t,rfl⟩:=a;cases e with
  |non=>cases b
  |bl _=>cases b
  |int _=>obtain⟨t,q⟩:=b;cases q
  |str _=>obtain⟨t,q⟩:=b;cases q;rfl
  |tup _=>obtain⟨p,i,q,_⟩:=b;cases q
  |lst _=>obtain⟨p,i,q,_⟩:=b;cases q
  |_=>exact(show False from b).elim
 |.tup xs,e,u,a,b=>by
  obtain⟨p,abV,rfl,t1,l⟩:=a;cases e with
  |non=>cases b
  |bl _=>cases b
  |int _=>obtain⟨t,q⟩:=b;cases q
  |str _=>obtain⟨t,q⟩:=b;cases q
  |tup ys=>
   obtain⟨p',its',q,t2,f⟩:=b;cases q;have e:=BP t1 t2;have j:abV=its':=by simpa using congrArg Xr e
   subst j;rw[jw l f]
  |lst ys=>obtain⟨p',its',q,t2,f⟩:=b;cases q;exact(S_ t2 t1).elim
  |_=>exact(show False from b).elim
 |.lst xs,e,u,a,b=>by
  obtain⟨p,abV,rfl,t1,l⟩:=a;cases e with
  |non=>cases b
  |bl _=>cases b
  |int _=>obtain⟨t,q⟩:=b;cases q
  |str _=>obtain⟨t,q⟩:=b;cases q
  |lst ys=>
   obtain⟨p',its',q,t2,f⟩:=b;cases q;have e:=De t1 t2;have j:abV=its':=by simpa using congrArg Xr e
   subst j;rw[jw l f]
  |tup ys=>obtain⟨p',its',q,t2,f⟩:=b;cases q;exact(S_ t1 t2).elim
  |_=>exact(show False from b).elim
 |.ty _,_,_,a,_=>(show False from a).elim
 |.ref _,_,_,a,_=>(show False from a).elim
 |.mt _,_,_,a,_=>(show False from a).elim
 |.ml _,_,_,a,_=>(show False from a).elim
 |.fd _ _,_,_,a,_=>(show False from a).elim
theorem jw:∀{ds es:List D}{us:abZ},Hrs h ds us->Hrs h es us->ds=es
 |[],es,us,a,b=>by
  cases a;cases es with
  |nil=>rfl
  |cons _ _=>obtain⟨v,r,q,_⟩:=b;cases q
 |d::ds,es,us,a,b=>by
  obtain⟨v,r,rfl,m,j⟩:=a;cases es with
  |nil=>cases b
  |cons e es=>
   obtain⟨o,w,q,f,l⟩:=b;cases q;rw[GP m f,jw j l]
end
mutual
theorem HE:∀{n:Nat}{d:D},bz n d=true->aQ d d=true
 |_,.non,_=>by simp[aQ]
 |_,.bl _,_=>by simp[aQ]
 |_,.int _,_=>by simp[aQ]
 |_,.str _,_=>by simp[aQ]
 |0,.tup _,f=>by simp[bz]at f
 |0,.lst _,f=>by simp[bz]at f
 |n+1,.tup xs,f=>by rw[aQ];exact fJ (n:=n) f
 |n+1,.lst xs,f=>by rw[aQ];exact fJ (n:=n) f
 |_,.ty _,f=>by simp[bz]at f
 |_,.ref _,f=>by simp[bz]at f
 |_,.mt _,f=>by simp[bz]at f
 |_,.ml _,f=>by simp[bz]at f
 |_,.fd _ _,f=>by simp[bz]at f
theorem fJ:∀{n:Nat}{ds:List D},fits n ds=true->gS ds ds=true
 |_,[],_=>by simp[gS]
 |n,x::xs,f=>by
  rw[fits,VM]at f;rw[gS,HE f.1,fJ f.2];rfl
end
theorem dS:∀{xs ys:List D},xs.length≠ys.length->gS xs ys=cx
 |[],[],h=>absurd rfl h
 |[],_::_,_=>by simp[gS]
 |_::_,[],_=>by simp[gS]
 |x::xs,y::ys,h=>by rw[gS,dS (by simpa using h),Ye]
theorem jv:∀(xs ys:List D)(f:Nat->Bool),xs.length=ys.length->(∀j (h1:j<xs.length)(h2:j<ys.length),f j=aQ xs[j] ys[j])->(Vc xs.length).all f=gS xs ys
 |[],[],f,_,_=>by simp[gS]
 |[],_::_,_,h,_=>by simp at h
 |_::_,[],_,h,_=>by simp at h
 |x::xs,y::ys,f,h,hf=>by
  rw[Vh,ZF,List.all_cons,List.all_map,gS,<- (jv xs ys (λj=>f (j+1)) (by simpa using h)<|by simp_all)]
  rw[(hf 0 (by simp)<|by simp)]
  rfl
theorem dR:∀{n:Nat}{xs:List D},fits n xs=true->∀(j:Nat)(h1:j<xs.length),bz n xs[j]=true
 |_,[],_,j,h1=>absurd h1 (by trivial)
 |n,x::xs,f,j,h1=>by
  rw[fits,VM]at f;cases j with
  |zero=>exact f.1
  |succ j=>exact dR f.2 j _
noncomputable def nW:D->Option V
 |.non=>ap .non
 |.bl b=>ap (.bl b)
 |.int i=>ap (.int i)
 |.str x=>ap (.str x)
 |_=>ca
theorem l_(e:nW d=ap v)(r:Hr h d u):RelV v u/\HN v=true:=by
 cases d with
 |non=>cases e;trivial
 |bl b=>cases e;trivial
 |int b=>cases e;trivial
 |str b=>cases e;trivial
 |_=>cases e
theorem wQ{e:D}(j:nW d=ap v)(f:nW e=ap w):xt v w=aQ d e:=by
 cases d with
 |non=>cases j;cases e with|non=>cases f;simp[xt,aQ]|bl b=>cases f;simp[xt,aQ]|int b=>cases f;simp[xt,aQ]|str b=>cases f;simp[xt,aQ]|_=>cases f
 |bl a=>cases j;cases e with|non=>cases f;simp[xt,aQ]|bl b=>cases f;simp[xt,aQ]|int b=>cases f;simp[xt,aQ]|str b=>cases f;simp[xt,aQ]|_=>cases f
 |int a=>cases j;cases e with|non=>cases f;simp[xt,aQ]|bl b=>cases f;simp[xt,aQ]|int b=>cases f;rfl|str b=>cases f;simp[xt,aQ]|_=>cases f
 |str a=>cases j;cases e with|non=>cases f;simp[xt,aQ]|bl b=>cases f;simp[xt,aQ]|int b=>cases f;simp[xt,aQ]|str b=>cases f;rfl|_=>cases f
 |_=>cases j
end
theorem Nz:∀(n:Nat){A:f'}{s:cb}{d e:D}{u w:ax},Hr s.heap d u->Hr s.heap e w->bz n d=true->bz n e=true->A.units+n<l'->X2 A s u w (aQ d e):=by
 intro n
 induction n with
 |zero=>
  intro A s d e u w l h fd N hu;have S:∃v,nW d=ap v:=by cases d<;>first|exact#[_,rfl]|(simp[bz]at fd)
  have T:∃v,nW e=ap v:=by cases e<;>first|exact#[_,rfl]|(simp[bz]at N)
  obtain⟨v1,L⟩:=S;obtain⟨v2,P⟩:=T;obtain⟨Y,b1⟩:=l_ L l;obtain⟨a2,U⟩:=l_ P h;rw[<- wQ L P];exact Il Y a2 b1 U
 |succ n ih=>
  intro A s d e u w l h fd N hu;have f:A.units<cLine:=by lia
  have O:A.in1.units+n<cLine:=by show A.units+1+n<l';lia
  by_cases S:∃v,nW d=ap v
  .obtain⟨v1,L⟩:=S
   obtain⟨Y,b1⟩:=l_ L l
   by_cases T:∃v,nW e=ap v
   .obtain⟨v2,P⟩:=T
    obtain⟨a2,U⟩:=l_ P h;rw[<- wQ L P];exact Il Y a2 b1 U
   .cases e with
    |tup ys=>
     obtain⟨p,abV,rfl,t,_⟩:=h;cases d with
     |non=>cases l;simp only[aQ];exact .none_tuple t f
     |bl b=>cases l;simp only[aQ];exact .bool_tuple b t f
     |int b=>obtain⟨q,rfl⟩:=l;simp only[aQ];exact .int_tuple b q t f
     |str b=>obtain⟨q,rfl⟩:=l;simp only[aQ];exact .str_tuple b q t f
     |_=>cases L
    |lst ys=>
     obtain⟨p,abV,rfl,t,_⟩:=h;cases d with
     |non=>cases l;simp only[aQ];exact .none_list t f
     |bl b=>cases l;simp only[aQ];exact .bool_list b t f
     |int b=>obtain⟨q,rfl⟩:=l;simp only[aQ];exact .int_list b q t f
     |str b=>obtain⟨q,rfl⟩:=l;simp only[aQ];exact .str_list b q t f
     |_=>cases L
    |ty _=>exact(show False from h).elim
    |ref _=>exact(show False from h).elim
    |mt _=>exact(show False from h).elim
    |ml _=>exact(show False from h).elim
    |fd _ _=>exact(show False from h).elim
    |_=>exact absurd #[_,rfl] T
  .cases d with
   |tup xs=>
    obtain⟨p,abV,rfl,t1,J⟩:=l;cases e with
    |non=>cases h;simp only[aQ];exact .tuple_none t1 f
    |bl b=>cases h;simp only[aQ];exact .tuple_bool b t1 f
    |int b=>obtain⟨q,rfl⟩:=h;simp only[aQ];exact .tuple_int b q t1 f
    |str b=>obtain⟨q,rfl⟩:=h;simp only[aQ];exact .tuple_str b q t1 f
    |tup ys=>
     obtain⟨p',its',rfl,t2,E⟩:=h;rw[aQ]
     by_cases Q:p=p'
     .subst Q
      have W:abV=its':=by simpa using congrArg Xr (BP t1 t2)
      subst W;rw[jw J E,fJ (n:=n) N];exact .same _
     .refine .of_refs Q ?_
      have l1:=J.length;have l2:=E.length;have I:∀j (z:j<abV.toArray.size)(C:j<its'.toArray.size),X2 A.in1 s abV.toArray[j] its'.toArray[j] (match xs[j]?,ys[j]? with|some x,ap y=>aQ x y|_,_=>cx):=λj z C=>by
       have m:j<xs.length:=by rw[l1];simpa using z
       have o:j<ys.length:=by rw[l2];simpa using C
       rw[UO m,UO o];exact ih (J.get j m<|by simpa using z) (E.get j o<|by simpa using C) (dR fd j m) (dR N j o) O
      have:=Zt (e:=λj=>match xs[j]?,ys[j]? with|some x,ap y=>aQ x y|_,_=>cx) t1 t2 f I
      by_cases R:xs.length=ys.length
      .have G:abV.toArray.size=its'.toArray.size:=by simp;lia
       rw[G]at this;simp only[ZM,beq_self_eq_true,Yl]at this;have F:its'.toArray.size=xs.length:=by simp;lia
       rw[F,jv xs ys _ R (λj z C=>by rw[UO z,UO C])]at this
       exact this
      .have G:(abV.toArray.size==its'.toArray.size)=false:=by simp;lia
       rw[G,Ye]at this;rw[dS R];exact this
    |lst ys=>obtain⟨p',its',rfl,t2,E⟩:=h;simp only[aQ];exact .tuple_list t1 t2 f
    |_=>exact(show False from h).elim
   |lst xs=>
    obtain⟨p,abV,rfl,t1,J⟩:=l;cases e with
    |non=>cases h;simp only[aQ];exact .list_none t1 f
    |bl b=>cases h;simp only[aQ];exact .list_bool b t1 f
    |int b=>obtain⟨q,rfl⟩:=h;simp only[aQ];exact .list_int b q t1 f
    |str b=>obtain⟨q,rfl⟩:=h;simp only[aQ];exact .list_str b q t1 f
    |lst ys=>
     obtain⟨p',its',rfl,t2,E⟩:=h;rw[aQ]
     by_cases Q:p=p'
     .subst Q
      have W:abV=its':=by simpa using congrArg Xr (De t1 t2)
      subst W;rw[jw J E,fJ (n:=n) N];exact .same _
     .refine .of_refs Q ?_
      have l1:=J.length;have l2:=E.length
      by_cases R:xs.length=ys.length
      .have I:∀j (z:j<abV.toArray.size)(C:j<its'.toArray.size),X2 A.in1 s abV.toArray[j] its'.toArray[j] (match xs[j]?,ys[j]? with|some x,ap y=>aQ x y|_,_=>cx):=λj z C=>by
        have m:j<xs.length:=by rw[l1];simpa using z
        have o:j<ys.length:=by rw[l2];simpa using C
        rw[UO m,UO o];exact ih (J.get j m<|by simpa using z) (E.get j o<|by simpa using C) (dR fd j m) (dR N j o) O
       have:=Zz (e:=λj=>match xs[j]?,ys[j]? with|some x,ap y=>aQ x y|_,_=>cx) t1 t2 (by simp;lia) f I
       have F:abV.toArray.size=xs.length:=by simp;lia
       rw[F,jv xs ys _ R (λj z C=>by rw[UO z,UO C])]at this
       exact this
      .rw[dS R]
       exact YE t1 t2 (by simp;lia) f
    |tup ys=>obtain⟨p',its',rfl,t2,E⟩:=h;simp only[aQ];exact .list_tuple t1 t2 f
    |_=>exact(show False from h).elim
   |ty _=>exact(show False from l).elim
   |ref _=>exact(show False from l).elim
   |mt _=>exact(show False from l).elim
   |ml _=>exact(show False from l).elim
   |fd _ _=>exact(show False from l).elim
   |_=>exact absurd #[_,rfl] S
theorem lO(r1:Hrs s.heap xs abV)(r2:Hrs s.heap ys its')(fd:fits n xs=true)(fe:fits n ys=true)(hu:A.units+n<l'):
  ∀j (h1:j<abV.toArray.size)(h2:j<its'.toArray.size),X2 A s abV.toArray[j] its'.toArray[j] (match xs[j]?,ys[j]? with|some x,ap y=>aQ x y|_,_=>cx):=λj h1 h2=>by
 rw[UO (by rw[r1.length];trivial),UO (by rw[r2.length];trivial)]
 exact Nz n (r1.get j _ _) (r2.get j _ _) (dR fd j _) (dR fe j _) hu
theorem lN(l:xs.length=ys.length):(Vc xs.length).all (λj=>match xs[j]?,ys[j]? with|some x,ap y=>aQ x y|_,_=>cx)=gS xs ys:=
 jv xs ys _ l (λj f h=>by rw[UO f,UO h])
theorem QU(t1:s.heap.IsTuple p abV.toArray)(t2:s.heap.IsTuple p' its'.toArray)(m:Hrs s.heap xs abV)(l:Hrs s.heap ys its')(fd:bz n (.tup xs)=true)(o:bz n (.tup ys)=true)(w:A.units+n<l'):
  Z0 A s (.ref p) (.ref p') (aQ (.tup xs)<|.tup ys):=by
 cases n with
 |zero=>trivial
 |succ n=>
  have q:=m.length;have v:=l.length;have:=Zt (A:=A) t1 t2 (by lia) (lO m l fd o<|by show A.units+1+n<l';lia)
  rw[aQ]
  by_cases j:xs.length=ys.length
  .have f:abV.toArray.size=its'.toArray.size:=by simp;lia
   rw[f]at this;simp only[ZM,beq_self_eq_true,Yl]at this;have h:its'.toArray.size=xs.length:=by simp;lia
   rw[h,lN j]at this;exact this
  have f:(abV.toArray.size==its'.toArray.size)=false:=by simp;lia
  rw[f,Ye]at this;rw[dS j];exact this
theorem Q4(t1:s.heap.IsList p abV.toArray)(t2:s.heap.IsList p' its'.toArray)(l:Hrs s.heap xs abV)(j:Hrs s.heap ys its')(fd:bz n (.lst xs)=true)(m:bz n (.lst ys)=true)(v:A.units+n<l'):
  Z0 A s (.ref p) (.ref p') (aQ (.lst xs)<|.lst ys):=by
 cases n with
 |zero=>trivial
 |succ n=>
  have o:=l.length;have q:=j.length;rw[aQ]
  by_cases h:xs.length=ys.length
  .have:=Zz (A:=A) t1 t2 (by simp;lia) (by lia) (lO l j fd m<|by show A.units+1+n<l';lia)
   have f:abV.toArray.size=xs.length:=by simp;lia
   rw[f,lN h]at this;exact this
  rw[dS h];exact YE t1 t2 (by simp;lia) (by lia)
theorem FX(t1:s.heap.IsTuple p abV.toArray)(t2:s.heap.IsTuple p' its'.toArray)(m:Hrs s.heap xs abV)(l:Hrs s.heap ys its')(fd:bz n (.tup xs)=true)(o:bz n (.tup ys)=true)(w:A.units+n<l'):
  Zs A s (.ref p) (.ref p') (!aQ (.tup xs) (.tup ys)):=by
 cases n with
 |zero=>trivial
 |succ n=>
  have q:=m.length;have v:=l.length;have:=SeqAt.RcNeAt.tuples (A:=A) t1 t2 (by lia) (lO m l fd o<|by show A.units+1+n<l';lia)
  rw[aQ]
  by_cases j:xs.length=ys.length
  .have f:abV.toArray.size=its'.toArray.size:=by simp;lia
   rw[f]at this;simp only[ZM,beq_self_eq_true,Yl]at this;have h:its'.toArray.size=xs.length:=by simp;lia
   rw[h,lN j]at this;exact this
  have f:(abV.toArray.size==its'.toArray.size)=false:=by simp;lia
  rw[f,Ye]at this;rw[dS j];exact this
theorem F7(t1:s.heap.IsList p abV.toArray)(t2:s.heap.IsList p' its'.toArray)(l:Hrs s.heap xs abV)(j:Hrs s.heap ys its')(fd:bz n (.lst xs)=true)(m:bz n (.lst ys)=true)(v:A.units+n<l'):
  Zs A s (.ref p) (.ref p') (!aQ (.lst xs) (.lst ys)):=by
 cases n with
 |zero=>trivial
 |succ n=>
  have o:=l.length;have q:=j.length;rw[aQ]
  by_cases h:xs.length=ys.length
  .have:=SeqAt.RcNeAt.lists (A:=A) t1 t2 (by simp;lia) (by lia) (lO l j fd m<|by show A.units+1+n<l';lia)
   have f:abV.toArray.size=xs.length:=by simp;lia
   rw[f,lN h]at this;exact this
  rw[dS h];exact SeqAt.RcNeAt.lists_lengths t1 t2 (by simp;lia) (by lia)
theorem SA{e:D}(z:Hr s.heap d u)(h:Hr s.heap e w)(fd:bz n d=true)(G:bz n e=true)(F:A.units+n<l'):Z0 A s u w (aQ d e):=by
 have j:A.units<cLine:=by lia
 cases d with
 |non=>
  cases z;cases e with
  |non=>
   cases h;simpa [aQ,Vv] using SeqAt.RcAt.none_none
  |bl y=>
   cases h;simpa [aQ] using SeqAt.RcAt.none_bool y
  |int y=>
   obtain⟨f,rfl⟩:=h;simpa [aQ] using SeqAt.RcAt.none_int y f
  |str y=>
   obtain⟨f,rfl⟩:=h;simpa [aQ] using SeqAt.RcAt.none_str y f
  |tup y=>
   obtain⟨v,l,rfl,ty,o⟩:=h;simpa [aQ] using SeqAt.RcAt.none_tuple ty j
  |lst y=>
   obtain⟨v,l,rfl,ty,o⟩:=h;simpa [aQ] using SeqAt.RcAt.none_list ty j
  |_=>exact(show False from h).elim
 |bl x=>
  cases z;cases e with
  |non=>
   cases h;simpa [aQ] using SeqAt.RcAt.bool_none x
  |bl y=>
   cases h;simpa [aQ,Vv] using SeqAt.RcAt.bool_bool x y
  |int y=>
   obtain⟨f,rfl⟩:=h;simpa [aQ,Vv] using SeqAt.RcAt.bool_int x y f
  |str y=>
   obtain⟨f,rfl⟩:=h;simpa [aQ] using SeqAt.RcAt.bool_str x y f
  |tup y=>
   obtain⟨v,l,rfl,ty,o⟩:=h;simpa [aQ] using SeqAt.RcAt.bool_tuple x ty j
  |lst y=>
   obtain⟨v,l,rfl,ty,o⟩:=h;simpa [aQ] using SeqAt.RcAt.bool_list x ty j
  |_=>exact(show False from h).elim
 |int x=>
  obtain⟨m,rfl⟩:=z;cases e with
  |non=>
   cases h;simpa [aQ] using SeqAt.RcAt.int_none x m
  |bl y=>
   cases h;simpa [aQ,Vv] using SeqAt.RcAt.int_bool x m y
  |int y=>
   obtain⟨f,rfl⟩:=h;simpa [aQ,Vv] using SeqAt.RcAt.int_int x m y f
  |str y=>
   obtain⟨f,rfl⟩:=h;simpa [aQ] using SeqAt.RcAt.int_str x m y f
  |tup y=>
   obtain⟨v,l,rfl,ty,o⟩:=h;simpa [aQ] using SeqAt.RcAt.int_tuple x m ty j
  |lst y=>
   obtain⟨v,l,rfl,ty,o⟩:=h;simpa [aQ] using SeqAt.RcAt.int_list x m ty j
  |_=>exact(show False from h).elim
 |str x=>
  obtain⟨m,rfl⟩:=z;cases e with
  |non=>
   cases h;simpa [aQ] using SeqAt.RcAt.str_none x m
  |bl y=>
   cases h;simpa [aQ] using SeqAt.RcAt.str_bool x m y
  |int y=>
   obtain⟨f,rfl⟩:=h;simpa [aQ] using SeqAt.RcAt.str_int x m y f
  |str y=>
   obtain⟨f,rfl⟩:=h;simpa [aQ,Vv] using SeqAt.RcAt.str_str x m y f
  |tup y=>
   obtain⟨v,l,rfl,ty,o⟩:=h;simpa [aQ] using SeqAt.RcAt.str_tuple x m ty j
  |lst y=>
   obtain⟨v,l,rfl,ty,o⟩:=h;simpa [aQ] using SeqAt.RcAt.str_list x m ty j
  |_=>exact(show False from h).elim
 |tup x=>
  obtain⟨I,C,rfl,q,E⟩:=z;cases e with
  |non=>
   cases h;simpa [aQ] using SeqAt.RcAt.tuple_none q j
  |bl y=>
   cases h;simpa [aQ] using SeqAt.RcAt.tuple_bool y q j
  |int y=>
   obtain⟨f,rfl⟩:=h;simpa [aQ] using SeqAt.RcAt.tuple_int y f q j
  |str y=>
   obtain⟨f,rfl⟩:=h;simpa [aQ] using SeqAt.RcAt.tuple_str y f q j
  |tup y=>
   obtain⟨v,l,rfl,ty,o⟩:=h;exact QU q ty E o fd G F
  |lst y=>
   obtain⟨v,l,rfl,ty,o⟩:=h;simpa [aQ] using SeqAt.RcAt.tuple_list q ty j
  |_=>exact(show False from h).elim
 |lst x=>
  obtain⟨I,C,rfl,q,E⟩:=z;cases e with
  |non=>
   cases h;simpa [aQ] using SeqAt.RcAt.list_none q j
  |bl y=>
   cases h;simpa [aQ] using SeqAt.RcAt.list_bool y q j
  |int y=>
   obtain⟨f,rfl⟩:=h;simpa [aQ] using SeqAt.RcAt.list_int y f q j
  |str y=>
   obtain⟨f,rfl⟩:=h;simpa [aQ] using SeqAt.RcAt.list_str y f q j
  |tup y=>
   obtain⟨v,l,rfl,ty,o⟩:=h;simpa [aQ] using SeqAt.RcAt.list_tuple q ty j
  |lst y=>
   obtain⟨v,l,rfl,ty,o⟩:=h;exact Q4 q ty E o fd G F
  |_=>exact(show False from h).elim
 |_=>exact(show False from z).elim
theorem Ky{e:D}(z:Hr s.heap d u)(h:Hr s.heap e w)(fd:bz n d=true)(G:bz n e=true)(F:A.units+n<l'):Zs A s u w (!aQ d e):=by
 have j:A.units<cLine:=by lia
 cases d with
 |non=>
  cases z;cases e with
  |non=>
   cases h;simpa [aQ,Vv] using SeqAt.RcNeAt.none_none
  |bl y=>
   cases h;simpa [aQ] using SeqAt.RcNeAt.none_bool y
  |int y=>
   obtain⟨f,rfl⟩:=h;simpa [aQ] using SeqAt.RcNeAt.none_int y f
  |str y=>
   obtain⟨f,rfl⟩:=h;simpa [aQ] using SeqAt.RcNeAt.none_str y f
  |tup y=>
   obtain⟨v,l,rfl,ty,o⟩:=h;simpa [aQ] using SeqAt.RcNeAt.none_tuple ty j
  |lst y=>
   obtain⟨v,l,rfl,ty,o⟩:=h;simpa [aQ] using SeqAt.RcNeAt.none_list ty j
  |_=>exact(show False from h).elim
 |bl x=>
  cases z;cases e with
  |non=>
   cases h;simpa [aQ] using SeqAt.RcNeAt.bool_none x
  |bl y=>
   cases h;simpa [aQ,Vv] using SeqAt.RcNeAt.bool_bool x y
  |int y=>
   obtain⟨f,rfl⟩:=h;simpa [aQ,Vv] using SeqAt.RcNeAt.bool_int x y f
  |str y=>
   obtain⟨f,rfl⟩:=h;simpa [aQ] using SeqAt.RcNeAt.bool_str x y f
  |tup y=>
   obtain⟨v,l,rfl,ty,o⟩:=h;simpa [aQ] using SeqAt.RcNeAt.bool_tuple x ty j
  |lst y=>
   obtain⟨v,l,rfl,ty,o⟩:=h;simpa [aQ] using SeqAt.RcNeAt.bool_list x ty j
  |_=>exact(show False from h).elim
 |int x=>
  obtain⟨m,rfl⟩:=z;cases e with
  |non=>
   cases h;simpa [aQ] using SeqAt.RcNeAt.int_none x m
  |bl y=>
   cases h;simpa [aQ,Vv] using SeqAt.RcNeAt.int_bool x m y
  |int y=>
   obtain⟨f,rfl⟩:=h;simpa [aQ,Vv] using SeqAt.RcNeAt.int_int x m y f
  |str y=>
   obtain⟨f,rfl⟩:=h;simpa [aQ] using SeqAt.RcNeAt.int_str x m y f
  |tup y=>
   obtain⟨v,l,rfl,ty,o⟩:=h;simpa [aQ] using SeqAt.RcNeAt.int_tuple x m ty j
  |lst y=>
   obtain⟨v,l,rfl,ty,o⟩:=h;simpa [aQ] using SeqAt.RcNeAt.int_list x m ty j
  |_=>exact(show False from h).elim
 |str x=>
  obtain⟨m,rfl⟩:=z;cases e with
  |non=>
   cases h;simpa [aQ] using SeqAt.RcNeAt.str_none x m
  |bl y=>
   cases h;simpa [aQ] using SeqAt.RcNeAt.str_bool x m y
  |int y=>
   obtain⟨f,rfl⟩:=h;simpa [aQ] using SeqAt.RcNeAt.str_int x m y f
  |str y=>
   obtain⟨f,rfl⟩:=h;simpa [aQ,Vv] using SeqAt.RcNeAt.str_str x m y f
  |tup y=>
   obtain⟨v,l,rfl,ty,o⟩:=h;simpa [aQ] using SeqAt.RcNeAt.str_tuple x m ty j
  |lst y=>
   obtain⟨v,l,rfl,ty,o⟩:=h;simpa [aQ] using SeqAt.RcNeAt.str_list x m ty j
  |_=>exact(show False from h).elim
 |tup x=>
  obtain⟨I,C,rfl,q,E⟩:=z;cases e with
  |non=>
   cases h;simpa [aQ] using SeqAt.RcNeAt.tuple_none q j
  |bl y=>
   cases h;simpa [aQ] using SeqAt.RcNeAt.tuple_bool y q j
  |int y=>
   obtain⟨f,rfl⟩:=h;simpa [aQ] using SeqAt.RcNeAt.tuple_int y f q j
  |str y=>
   obtain⟨f,rfl⟩:=h;simpa [aQ] using SeqAt.RcNeAt.tuple_str y f q j
  |tup y=>
   obtain⟨v,l,rfl,ty,o⟩:=h;exact FX q ty E o fd G F
  |lst y=>
   obtain⟨v,l,rfl,ty,o⟩:=h;simpa [aQ] using SeqAt.RcNeAt.tuple_list q ty j
  |_=>exact(show False from h).elim
 |lst x=>
  obtain⟨I,C,rfl,q,E⟩:=z;cases e with
  |non=>
   cases h;simpa [aQ] using SeqAt.RcNeAt.list_none q j
  |bl y=>
   cases h;simpa [aQ] using SeqAt.RcNeAt.list_bool y q j
  |int y=>
   obtain⟨f,rfl⟩:=h;simpa [aQ] using SeqAt.RcNeAt.list_int y f q j
  |str y=>
   obtain⟨f,rfl⟩:=h;simpa [aQ] using SeqAt.RcNeAt.list_str y f q j
  |tup y=>
   obtain⟨v,l,rfl,ty,o⟩:=h;simpa [aQ] using SeqAt.RcNeAt.list_tuple q ty j
  |lst y=>
   obtain⟨v,l,rfl,ty,o⟩:=h;exact F7 q ty E o fd G F
  |_=>exact(show False from h).elim
 |_=>exact(show False from z).elim
section
variable{abP:ab4}
mutual
theorem Fj(I:Inv X abP Z H s):∀{n:Nat}{d:D}{v:V}{u:ax},bz n d=true->Rp X.K H d v->RelV v u->Hr s.heap d u
 |_,.non,v,u,_,r,q=>by cases r;exact q
 |_,.bl _,v,u,_,r,q=>by cases r;exact q
 |_,.int _,v,u,_,r,q=>by cases r;exact q
 |_,.str _,v,u,_,r,q=>by cases r;exact q
 |n+1,.tup xs,v,u,f,r,q=>by
  obtain⟨p,l,rfl,t,r⟩:=r;cases q;obtain⟨abV,j,h,_⟩:=I.tuple t.sq;exact#[p,abV,rfl,h,gD I (n:=n) f r j]
 |n+1,.lst xs,v,u,f,r,q=>by
  obtain⟨p,l,rfl,t,r⟩:=r;cases q;obtain⟨abV,j,h,_⟩:=I.list t.sq;exact#[p,abV,rfl,h.isList,gD I (n:=n) f r j]
 |0,.tup _,_,_,f,_,_=>by simp[bz]at f
 |0,.lst _,_,_,f,_,_=>by simp[bz]at f
 |_,.ty _,_,_,f,_,_=>by simp[bz]at f
 |_,.ref _,_,_,f,_,_=>by simp[bz]at f
 |_,.mt _,_,_,f,_,_=>by simp[bz]at f
 |_,.ml _,_,_,f,_,_=>by simp[bz]at f
 |_,.fd _ _,_,_,f,_,_=>by simp[bz]at f
theorem gD(I:Inv X abP Z H s):∀{n:Nat}{ds:List D}{vs:List V}{us:abZ},fits n ds=true->Rps X.K H ds vs->Vals vs us->Hrs s.heap ds us
 |_,[],vs,us,_,r,q=>by cases r;cases q;rfl
 |n,d::ds,vs,us,f,r,q=>by
  obtain⟨v,h,rfl,a,b⟩:=r;rw[fits,VM]at f;cases q with
  |cons q1 q2=>exact#[_,_,rfl,Fj I f.1 a q1,gD I f.2 b q2]
end
def dv(M:Mem):D->D
 |.ref a=>match M a with
  |some (.lst xs)=>.lst xs
  |_=>.ref a
 |d=>d
theorem qV(I:Inv X abP Z H s)(o:RepH X.K H M)(f:bz n (dv M d)=true)(r:Rp X.K H d v)(q:RelV v u):Hr s.heap (dv M d) u:=by
 cases d with
 |ref a=>
  cases r;simp[dv]at f ⊢
  split at f
  .rename_i w e
   obtain⟨y,j,m⟩:=o _ _ e;obtain⟨abV,l,h,_⟩:=I.list (SqL.of j);cases q;cases n with
   |zero=>trivial
   |succ n=>exact#[a,_,rfl,h.isList,gD I f m l]
  trivial
 |_=>exact Fj I f r q
def ck:fQ:=λx y M Q=>bz 60 (dv M x)=true/\bz 60 (dv M y)=true/\Q (.bl<|aQ (dv M x)<|dv M y) M
def km:fQ:=λx y M Q=>bz 60 (dv M x)=true/\bz 60 (dv M y)=true/\Q (.bl<|!aQ (dv M x) (dv M y)) M
theorem HY(F:X.A.units+64<l'):cX X (iA .Eq) (liftR2 X ck):=by
 rintro abP s Z H x y v u Q I m w ⟨E,C,M,QQ,f,q,z,⟨j,l,h⟩,o⟩
 exact SA (qV I f j q m) (qV I f l z w) j l (by lia) _ _ _ _ #[.bl _,H,I,rfl,o _ M h _ H f Frm.refl rfl]
theorem Oj(F:X.A.units+64<l'):cX X (iA .NotEq) (liftR2 X km):=by
 rintro abP s Z H x y v u Q I m w ⟨E,C,M,QQ,f,q,z,⟨j,l,h⟩,o⟩
 exact Ky (qV I f j q m) (qV I f l z w) j l (by lia) _ _ _ _ #[.bl _,H,I,rfl,o _ M h _ H f Frm.refl rfl]
open Classical in
noncomputable def N_(h:g3)(x:D)(u:ax):Bool:=if q:∃d,Hr h d u then aQ q.choose x else cx
theorem F0{x:D}(r:Hr h d u):N_ h x u=aQ d x:=by
 have q:∃d,Hr h d u:=#[d,r];unfold N_;rw[dif_pos q,GP q.choose_spec r]
theorem jU{x:D}:∀{ds:List D}{us:abZ},Hrs h ds us->us.any (N_ h x)=ds.any λd=>aQ d x
 |[],_,r=>by cases r;rfl
 |d::ds,_,r=>by
  obtain⟨v,f,rfl,a,b⟩:=r;rw[Xg,Xg,F0 a,jU b]
theorem jk{n:Nat}{x:D}(l:Hr s.heap x w)(m:bz n x=true)(j:A.units+n<l'):∀{ds:List D}{us:abZ},Hrs s.heap ds us->fits n ds=true->∀u∈us,X2 A s u w (N_ s.heap x u)
 |[],_,r,_,u,j=>by cases r;cases j
 |d::ds,_,r,f,u,h=>by
  obtain⟨v,o,rfl,a,b⟩:=r;rw[fits,VM]at f;rcases UU.mp h with rfl|h
  .rw[F0 a];exact Nz n a l f.1 m j
  exact jk l m j b f.2 u h
def iJ(M:Mem)(x y:D):Option Bool:=match aO M y with
 |some xs=>if bz 60 (dv M x)=true/\fits 60 xs=true then ap (xs.any λd=>aQ d (dv M x)) else ca
 |none=>match y with
  |.ref a=>match rO M a x with
   |some o=>ap o.isSome
   |none=>ca
  |_=>ca
def wU:fQ:=λx y M Q=>so (iJ M x y) λk=>Q (.bl k) M
def nE:fQ:=λx y M Q=>so (iJ M x y) λk=>Q (.bl<|!k) M
theorem Iw(U:X.A.units+64<l'):cX X (iA .In) (liftR2 X wU):=by
 rintro abP s Z H x y v u Q I m F ⟨G,R,M,QQ,l,E,C,h,O⟩
 unfold wU at h;obtain⟨k,e,h⟩:=h.inv;have fin:=O _ M h _ H l Frm.refl rfl;unfold iJ at e
 split at e
 .rename_i S P
  split at e
  .rename_i f
   cases e;obtain⟨p,T,rfl,hq,r⟩:=jQ l C P;cases F;have z:=qV I l f.1 E m;rcases hq with hq|hq
   .obtain⟨abV,q,pl,_⟩:=I.list hq
    have j:=gD I f.2 r q;refine SeqAt.in_listAt _ pl.isList (λw L=>jk z f.1 (by show X.A.units+1+60<l';lia) j f.2 w (by simp_all)) #[.bl _,H,I,rfl,?_]
    rw[show abV.toArray.any _=abV.any (N_ s.heap<|dv M G) by simp,jU j]
    exact fin
   obtain⟨abV,q,pl,_⟩:=I.tuple hq;have j:=gD I f.2 r q;refine SeqAt.in_tupleAt _ pl (λw L=>jk z f.1 (by show X.A.units+1+60<l';lia) j f.2 w (by simp_all)) #[.bl _,H,I,rfl,?_]
   rw[show abV.toArray.any _=abV.any (N_ s.heap<|dv M G) by simp,jU j]
   exact fin
  cases e
 split at e
 .split at e
  .rename_i o J
   cases e;cases C;cases F;rcases lZ l E J with⟨rfl,g⟩|⟨d,w,rfl,g,_⟩
   .exact SL (by lia) I g m λN I'=>#[.bl _,H,I',rfl,fin]
   exact SL (by lia) I g m λN I'=>#[.bl _,H,I',rfl,fin]
  cases e
 cases e
theorem E6(U:X.A.units+64<l'):cX X (iA .NotIn) (liftR2 X nE):=by
 rintro abP s Z H x y v u Q I m F ⟨G,R,M,QQ,l,E,C,h,O⟩
 unfold nE at h;obtain⟨k,e,h⟩:=h.inv;have fin:=O _ M h _ H l Frm.refl rfl;unfold iJ at e
 split at e
 .rename_i S P
  split at e
  .rename_i f
   cases e;obtain⟨p,T,rfl,hq,r⟩:=jQ l C P;cases F;have z:=qV I l f.1 E m;rcases hq with hq|hq
   .obtain⟨abV,q,pl,_⟩:=I.list hq
    have j:=gD I f.2 r q;refine SeqAt.notIn_listAt _ pl.isList (λw L=>jk z f.1 (by show X.A.units+1+60<l';lia) j f.2 w (by simp_all)) #[.bl _,H,I,rfl,?_]
    rw[show abV.toArray.any _=abV.any (N_ s.heap<|dv M G) by simp,jU j]
    exact fin
   obtain⟨abV,q,pl,_⟩:=I.tuple hq;have j:=gD I f.2 r q;refine SeqAt.notIn_tupleAt _ pl (λw L=>jk z f.1 (by show X.A.units+1+60<l';lia) j f.2 w (by simp_all)) #[.bl _,H,I,rfl,?_]
   rw[show abV.toArray.any _=abV.any (N_ s.heap<|dv M G) by simp,jU j]
   exact fin
  cases e
 split at e
 .split at e
  .rename_i o J
   cases e;cases C;cases F;rcases lZ l E J with⟨rfl,g⟩|⟨d,w,rfl,g,_⟩
   .exact As (by lia) I g m λN I'=>#[.bl _,H,I',rfl,fin]
   exact As (by lia) I g m λN I'=>#[.bl _,H,I',rfl,fin]
  cases e
 cases e
end
structure DEnds where
 nx:Dl->Mem->Prop
 rt:DK
 bk:Dl->Mem->Prop:=λ_ _=>False
 ct:Dl->Mem->Prop:=λ_ _=>False
abbrev au:=DEnds->Dl->Mem->Prop
def UpN(X:Cx)(B:Bd)(M:Mem)(H:Hp)(QQ:Dl->Mem->Prop)(Q:_2.St->Hp->Prop):Prop:=∀U M',QQ U M'->∀Z H',Frm M H M' H'->SR X B U M' Z H'->Q Z H'
theorem UpN.go{M1:Mem}(u:UpN X B M H QQ Q)(i:Frm M H M1 H1):UpN X B M1 H1 QQ Q:=λU M q Z H' a=>u U M q Z H' (i.trans a)
structure UpD(X:Cx)(B:Bd)(M:Mem)(H:Hp)(DD:DEnds)(D:Ends):Prop where
 nx:UpN X B M H DD.nx D.nx
 rt:Up X.K M H DD.rt D.rt
 bk:UpN X B M H DD.bk D.bk
 ct:UpN X B M H DD.ct D.ct
theorem UpD.go{M1:Mem}{D:Ends}(u:UpD X B M H DD D)(i:Frm M H M1 H1):UpD X B M1 H1 DD D:=#[u.nx.go i,u.rt.go i,u.bk.go i,u.ct.go i]
inductive liftS(X:Cx)(B:Bd)(T:au)(D:Ends)(Z:St)(H:Hp):Prop
 |mk (U:Dl) (M:Mem) (DD:DEnds) (s:SR X B U M Z H) (h:T DD U M) (u:UpD X B M H DD D):liftS X B T D Z H
def DS(X:Cx)(B:Bd)(st:ol)(T:au):Prop:=PS X st (liftS X B T)
def B3(X:Cx)(B:Bd)(st:ab2)(T:au):Prop:=CG X st (liftS X B T)
section
variable{u:au}
def aE:au:=λD U M=>D.nx U M
def ah(t u:au):au:=λD U M=>t { D with nx:=u D } U M
theorem LW:B3 X B [] aE:=oX Ln (by rintro D Z H ⟨U,M,DD,s,h,f⟩;exact f.nx U M h Z H Frm.refl s)
theorem fw(o:DS X B st t)(v:B3 X B rest u):B3 X B (st::rest) (ah t u):=by
 refine oX (Gc o v) ?_
 rintro D Z H ⟨U,M,DD,s,h,f⟩
 exact#[U,M,_,s,h,#[λm M' q l H' i j=>#[_,M',DD,j,q,f.go i],f.rt,f.bk,f.ct]]
theorem iD(f:DS X B st t):B3 X B [st] t:=KD f
def bg(te:bb):au:=λD U M=>te U M λ_ M1=>D.nx U M1
theorem Lk(l:DE X B e te)(m:py e ca pos.line X.env=pure false:=by rfl):DS X B (.Expr e pos) (bg te):=by
 refine bV (JE l m) ?_
 rintro D Z H ⟨U,M,DD,s,h,j⟩
 exact#[U,M,_,s,h,λd M' q v H' f i r=>j.nx U M' q Z H' i (s.go f i)]
def aB(te:bb):au:=λD U M=>te U M D.rt
theorem QF(j:DE X B e te):DS X B (.Return (ap e) pos) (aB te):=by
 refine bV (Qj j) ?_
 rintro D Z H ⟨U,M,DD,s,h,f⟩
 exact#[U,M,_,s,h,f.rt]
def aJ(c:fP)(t u:au):au:=λD U M=>c U M λb M1=>if b=true then t D U M1 else u D U M1
theorem Sg{a b:ab2}(m:DT X B c f)(o:B3 X B a t)(v:B3 X B b u):DS X B (.If c a b pos) (aJ f t u):=by
 refine bV (Sl m o v) ?_
 rintro D Z H ⟨U,M,DD,s,h,l⟩
 refine#[U,M,_,s,h,λc M' q H' j i=>?_];cases c with
 |_=>exact#[U,M',DD,s.go j i,q,l.go i]
abbrev ki:=D->Dl->Mem->(Dl->Mem->Prop)->Prop
abbrev pN:=List D->Dl->Mem->(Dl->Mem->Prop)->Prop
inductive liftG(X:Cx)(B:Bd)(g:ki)(v:V)(Z:St)(H:Hp)(Q:St->Hp->Prop):Prop
 |mk (d:_3.D) (U:Dl) (M:Mem) (QQ:Dl->Mem->Prop) (s:SR X B U M Z H) (r:Rp X.K H d v) (h:g d U M QQ) (u:UpN X B M H QQ Q):liftG X B g v Z H Q
inductive liftGs(X:Cx)(B:Bd)(g:pN)(vs:List V)(Z:St)(H:Hp)(Q:St->Hp->Prop):Prop
 |mk (ds:List _3.D) (U:Dl) (M:Mem) (QQ:Dl->Mem->Prop) (s:SR X B U M Z H) (r:Rps X.K H ds vs) (h:g ds U M QQ) (u:UpN X B M H QQ Q):liftGs X B g vs Z H Q
def DG(X:Cx)(B:Bd)(tg:fv)(g:ki):Prop:=PG X tg (liftG X B g)
def SK(X:Cx)(B:Bd)(tgs:ab1)(g:pN):Prop:=QM X tgs (liftGs X B g)
theorem m7(h:PG X tg t)(w:∀v Z H Q,t' v Z H Q->t v Z H Q):PG X tg t':=λf s Z H v u Q I r q=>h _ s Z H v u Q I r (w v Z H Q q)
theorem wg(h:QM X tg t)(w:∀v Z H Q,t' v Z H Q->t v Z H Q):QM X tg t':=λf s Z H v u Q I r q=>h _ s Z H v u Q I r (w v Z H Q q)
theorem SR.set(s:SR X B U M Z H)(r:Rp X.K H d v):SR X B (U.set i<|some d) M (Z.set i<|some v) H:=#[s.i0,s.rh,s.rs.set r]
def af(i:Nat):ki:=λd U M Q=>Q (U.set i<|some d) M
theorem Jp(f:X.N.Nodup)(m:X.N[i]?=ap x)(j:Ii X.env.scope x)(l:X.fn x=true\/X.env.scope.names.lookup x=ap .local:=by ac_nf):DG X B (.Name x pos) (af i):=by
 refine m7 (KP f m j l) ?_
 rintro v Z H Q ⟨d,U,M,QQ,s,r,h,u⟩
 exact u _ M h _ H Frm.refl (s.set r)
def dg:pN:=λf U M Q=>nil0 f (Q U M)
def aN(t:ki)(u:pN):pN:=λh U M Q=>cns h λd r=>t d U M λf M'=>u r f M' Q
theorem Kf:SK X B [] dg:=by
 refine wg JI ?_
 rintro v Z H Q ⟨f,U,M,QQ,s,r,h,u⟩
 cases f with
 |nil=>exact#[r,u U M h Z H Frm.refl s]
 |cons _ _=>trivial
theorem Gy{u:pN}(C:DG X B e t)(F:SK X B es u)(E:(lW (e::es) X.env).map (·.2)=abb e X.env::(lW es X.env).map (·.2):=by rfl):SK X B (e::es) (aN t u):=by
 refine wg (IZ C F E) ?_
 rintro v Z H Q ⟨f,U,M,QQ,s,r,h,o⟩
 cases f with
 |nil=>trivial
 |cons d f=>
  obtain⟨v1,l,rfl,z,w⟩:=r;exact#[v1,l,rfl,d,U,M,_,s,z,h,λy M' q m H' i j=>#[f,_,M',QQ,j,w.mf s.rh i,q,o.go i]]
def dm(n:Nat)(t:pN):ki:=λd U M Q=>onT d λf=>f.length=n/\t f U M Q
theorem Rs(o:X.calm=true)(h:SK X B es t)(m:(lW es X.env).length=n:=by rfl)(hst:(lW es X.env).findIdx? (·.1)=none:=by rfl):DG X B (.Tuple es k pos) (dm n t):=by
 refine m7 (O_ o h m hst) ?_
 rintro v Z H Q ⟨d,U,M,QQ,s,r,h,l⟩
 cases d with
 |tup xs=>
  obtain⟨p,j,rfl,f,r⟩:=r;exact#[p,j,rfl,f.sq,by rw[<- r.length];exact h.1,xs,U,M,QQ,s,r,h.2,l]
 |_=>exact h.elim
def ao(te:bb)(g:ki):au:=λD U M=>te U M λx M1=>g x U M1 D.nx
theorem Q6(m:DE X B e te)(l:DG X B tg g)(o:swapsWithSole [tg] e pos.line X.env=pure false:=by rfl)(hw:swappedStores [tg] e X.env=pure none:=by rfl)(h1:(lW [tg] X.env).map (·.2)=[abb tg X.env]:=by rfl):DS X B (.Assign [tg] e pos) (ao te g):=by
 refine bV (Pk m l o hw h1) ?_
 rintro D Z H ⟨U,M,DD,s,h,j⟩
 exact#[U,M,_,s,h,λd M' q v H' f i r=>#[d,U,M',_,s.go f i,r,q,j.nx.go i]]
theorem OM(o:X.N.Nodup)(w:X.N[i]?=ap x)(l:Ii X.env.scope x)(m:DE X B e te)(y:py e (ap<|.Name x pos') pos.line X.env=pure false:=by rfl)(hf:X.fn x=true\/X.env.scope.names.lookup x=ap .local:=by ac_nf):
  DS X B (.Assign [.Name x pos'] e pos) (ao te<|af i):=by
 refine bV (Qq o w l m y hf) ?_
 rintro D Z H ⟨U,M,DD,s,h,j⟩
 exact#[U,M,_,s,h,λd M' q v H' f i r=>j.nx _ M' q _ H' i ((s.go f i).set r)]
def G4(i:Nat)(te:bb)(r:fQ):au:=λD U M=>s2 (U[i]?) λx=>te U M λy M1=>r x y M1 λz M2=>D.nx (U.set i<|some z) M2
theorem Pe{r:fQ}(Q:X.N.Nodup)(R:X.N[i]?=ap x)(L:Ii X.env.scope x)(P:DE X B e te)(O:Ih X m (liftR2 X r))(S:X.fn x=true\/X.env.scope.names.lookup x=ap .local:=by ac_nf):
  DS X B (.AugAssign (.Name x pos') m e pos) (G4 i te r):=by
 refine bV (RE Q R L P O S) ?_
 rintro D Z H ⟨U,M,DD,s,h,C⟩
 unfold G4 at h;obtain⟨l,J,h⟩:=h.inv;obtain⟨v,G,q⟩:=s.rs.get i l J;exact#[v,G,U,M,_,s,h,λy M1 o w H1 f i1 F=>#[l,y,M1,_,f,q.mf s.rh i1,F,o,λz M2 E T H2 j i2 I=>C.nx _ M2 E _ H2 (i1.trans i2) ((s.go j<|i1.trans i2).set I)]]
theorem ND{g:Int->Int->Int}(h:Ih X m (ipI g)):Ih X m (liftR2 X (k4 λi j=>.int (g i j))):=by
 rintro l s Z H x y v u Q I o C ⟨G,F,M,QQ,q,z,E,f,w⟩
 unfold k4 at f
 replace f:=f.inv;obtain⟨_,rfl,f⟩:=f
 replace f:=f.inv;obtain⟨_,rfl,f⟩:=f
 cases z;cases E;exact h _ s Z H _ _ v u Q I o C #[_,_,rfl,rfl,w _ M f _ H q Frm.refl rfl]
abbrev rq:fQ:=k4 λi j=>.int (i+j)
theorem D5:Ih X .Add (liftR2 X rq):=ND Pg
theorem L6:Ih X .Sub (liftR2 X fc):=ND P1
def lD(o i v:D)(M:Mem)(Q:Mem->Prop):Prop:=onR o λa=>mSet (M a) (λxs=>onI i λk=>so (uR xs.length k) λj=>Q (M.upd a<|.lst<|xs.set j v)) (λf=>so (cP i) λk=>f.length<sizeLine/\Q (M.upd a<|.dK<|eG f k v)) λf=>so (Ec i) λk=>f.length<sizeLine/\Q (M.upd a<|.dT<|eG f k v)
inductive liftSet(X:Cx)(o i v:V)(H:Hp)(Q:Hp->Prop):Prop
 |mk (d1 d2 d3:_3.D) (M:Mem) (QQ:Mem->Prop) (rh:RepH X.K H M) (r1:Rp X.K H d1 o) (r2:Rp X.K H d2 i) (r3:Rp X.K H d3 v) (h:lD d1 d2 d3 M QQ) (u:∀M',QQ M'->∀H',RepH X.K H' M'->Frm M H M' H'->Q H'):liftSet X o i v H Q
theorem zH(hu:X.A.units+1<l'):Le X (liftSet X):=by
 rintro abP s Z H o i v ov iv u Q I ro ri rv ⟨d1,d2,d3,M,QQ,rh,r1,r2,r3,h,up⟩
 unfold lD at h
 replace h:=h.inv;obtain⟨a,rfl,h⟩:=h
 cases r1;cases ro
 replace h:=h.inv;rcases h with⟨xs,hM,h⟩|⟨abR,hM,h⟩|⟨abR,hM,h⟩
 .replace h:=h.inv;obtain⟨k,rfl,h⟩:=h
  cases r2;obtain⟨vs,h1,h2⟩:=rh _ _ hM;obtain⟨j,ej,h⟩:=h.inv;exact FO _ s Z H (.ref a) _ v _ iv u Q I rfl ri rv #[a,vs,k,j,rfl,rfl,h1,by rw[<- h2.length];exact ej,up _ h _ (rh.put (by rw[h1];trivial) #[_,upd_same,(h2.set r3 j).mono<|Imm.upd<|by rw[h1];trivial])<|Frm.put<|.inr #[_,hM]]
 .obtain⟨ws,h1,h2⟩:=rh _ _ hM
  obtain⟨k,ek,h⟩:=h.inv;have ev:=iy r2 ek;subst ev;exact qq hu I (DPut.k h1<|by rw[<- h2.length];exact h.1) ri rv λs' I'=>#[_,I',up _ h.2 _ (rh.put (by rw[h1];trivial) #[_,upd_same,(h2.put k r3).mono<|Imm.upd<|by rw[h1];trivial])<|Frm.put<|.inr #[_,hM]]
 obtain⟨ws,h1,h2⟩:=rh _ _ hM;obtain⟨k,ek,h⟩:=h.inv;obtain⟨b,rfl,hb⟩:=oK r2 ek;exact qq hu I (DPut.t h1 hb<|by rw[<- h2.length];exact h.1) ri rv λs' I'=>#[_,I',up _ h.2 _ (rh.put (by rw[h1];trivial) #[_,upd_same,(h2.put k r3).mono<|Imm.upd<|by rw[h1];trivial])<|Frm.put<|.inr #[_,hM]]
def cZ(to ti:bb):ki:=λv U M Q=>to U M λo M1=>ti U M1 λi M2=>lD o i v M2 λM3=>Q U M3
theorem RA{i:fv}(G:X.A.units+1<l')(J:DE X B o to)(F:DE X B i ti)(I:∀v,abb (.Subscript o i pos) X.env v=(do
   let ov <- o4 [v] (fx o X.env)
   let iv <- o4 [v,ov] (fx i X.env)
   G' pos
   o4 [v,ov,iv] (abh ov iv v)
   release [v,ov,iv] []):=by intro _;rfl):DG X B (.Subscript o i pos) (cZ to ti):=by
 refine m7 (PV J F (zH G) I) ?_
 rintro v Z H Q ⟨d,U,M,QQ,s,r,h,q⟩
 exact#[U,M,_,s,h,λx M1 m v1 H1 f i1 z=>#[U,M1,_,s.go f i1,m,λy M2 w v2 H2 l i2 E=>#[x,y,d,M2,_,l,z.mf f i2,E,r.mf s.rh (i1.trans i2),w,λM3 C H3 j i3=>q U M3 C Z H3 ((i1.trans i2).trans i3) (s.go j<|(i1.trans i2).trans i3)]]]
end
section
variable{f:Str}
def b_(f:Str)(v:D):List (Str×D)->List (Str×D)
 |[]=>[(f,v)]
 |(g,w)::r=>if g=f then (g,v)::r else (g,w)::b_ f v r
theorem Rkv.lookup(h:Rkv K H fs j)(f:Str):(fs.lookup f=ca/\j.lookup f=ca)\/∃d v,fs.lookup f=ap d/\j.lookup f=ap v/\Rp K H d v:=by
 induction h with
 |nil=>exact .inl #[rfl,rfl]
 |@cons p q ps qs r t ih=>
  obtain⟨l,d⟩:=p;obtain⟨m,v⟩:=q;obtain⟨e,r⟩:=r;subst e;rw[WJ,WJ];cases w:f==l with
  |true=>exact .inr (by lia)
  |false=>exact ih
theorem putF_eq(f:Str)(v:V):∀h:List (Str×V),dJ f v h=(match h with|[]=>[(f,v)]|(g,w)::r=>if g=f then (g,v)::r else (g,w)::dJ f v r)
 |[]=>rfl
 |(g,w)::r=>by rw[dJ]
theorem jY{K:UP}{H:Hp}{f:Str}(h:Rp K H d v):∀{fs:List (Str×D)}{ws:List (Str×V)},Rkv K H fs ws->Rkv K H (b_ f d fs) (_2.dJ f v ws)
 |_,_,.nil=>.cons #[rfl,h] .nil
 |(k1,d1)::fs,(k2,v1)::ws,.cons r t=>by
  obtain⟨e,r⟩:=r;subst e;show Rkv K H (if k1=f then (k1,d)::fs else (k1,d1)::b_ f d fs) (if k1=f then (k1,v)::ws else (k1,v1)::_2.dJ f v ws)
  split
  .exact .cons #[rfl,h] t
  exact .cons #[rfl,r] (jY h t)
def aW(C:cp)(ta:bb)(f:Str):bb:=λU M Q=>ta U M λx M1=>onR x λa=>mN (M1 a) λC' fs=>C'=C/\so (fs.lookup f) λd=>Q d M1
theorem OD(c:Cls X.K C)(n:NoAttr X.K C f)(I:DE X B e ta)(J:iB e f X.env (fx e X.env)=fx e X.env:=by rfl):DE X B (.Attribute e f pos) (aW C ta f):=by
 refine aT (Ro I J) ?_
 rintro Z H Q ⟨U,M,QQ,s,h,u⟩
 refine#[U,M,_,s,h,λx M1 j v1 H1 l i1 E=>?_]
 replace j:=j.inv;obtain⟨a,rfl,j⟩:=j
 cases E
 replace j:=j.inv;obtain⟨C',fs,w,j⟩:=j
 obtain⟨rfl,j⟩:=j;obtain⟨y,F,G,q⟩:=l _ _ w
 replace j:=j.inv;obtain⟨d,m,j⟩:=j
 rcases q.lookup f with⟨z,_⟩|⟨d',v,z1,z2,z3⟩
 .simp_all
 rw[m]at z1;cases z1;exact#[a,_,y,F,v,rfl,G,c,n,z2,u _ M1 j _ H1 l i1 z3]
def cK(C:cp)(ta tv:bb)(f:Str):au:=λD U M=>tv U M λy M1=>ta U M1 λx M2=>onR x λa=>mN (M2 a) λC' fs=>C'=C/\fs.length<1000/\D.nx U (M2.upd a<|.ins C<|b_ f y fs)
theorem Px(c:Cls X.K C)(n:NoAttr X.K C f)(ha:DE X B o ta)(hv:DE X B value tv)(hs:py value (ap<|.Attribute o f pos') pos.line X.env=pure false:=by rfl):DS X B (.Assign [.Attribute o f pos'] value pos) (cK C ta tv f):=by
 refine bV (Ry ha hv hs) ?_
 rintro D Z H ⟨U,M,DD,s,h,up⟩
 refine#[U,M,_,s,h,λy M1 h1 v1 H1 rh1 i1 r1=>?_];refine#[U,M1,_,s.go rh1 i1,h1,λx M2 h2 v2 H2 rh2 i2 r2=>?_]
 replace h2:=h2.inv;obtain⟨a,rfl,h2⟩:=h2
 cases r2;obtain⟨C',fs,hM,h2⟩:=h2.inv;obtain⟨rfl,hl,h2⟩:=h2;obtain⟨dx,ws,e1,e2⟩:=rh2 _ _ hM;have i3:Frm M2 H2 (M2.upd a<|.ins C'<|b_ f y fs) (upd H2 a<|.ins C' dx<|_2.dJ f v1 ws):=Frm.put (.inr #[_,hM]);exact#[a,C',dx,ws,rfl,e1,c,n,by rw[<- e2.length];exact hl,up.nx _ _ h2 Z _ ((i1.trans i2).trans i3)<|s.go (rh2.put (by rw[e1];trivial) #[dx,_,upd_same,(jY (r1.mf rh1 i2) e2).mono<|i3.imm rh2])<|(i1.trans i2).trans i3]
structure BxW(c:fP)(tb:au)(D:DEnds):Type
structure BxF(g:ki)(tb:au)(D:DEnds)(ok:Mem->Prop):Type
def cC(c:fP)(tb:au)(D:DEnds)(bx:BxW c tb D):Nat->Dl->Mem->Prop
 |0,_,_=>False
 |n+1,U,M=>c U M λb M1=>if b=true then tb { D with nx:=cC c tb D bx n,ct:=cC c tb D bx n,bk:=D.nx } U M1 else D.nx U M1
def gO(c:fP)(tb:au):au:=λD U M=>∃n,cC c tb D #[] n U M
theorem J0(R:abx (eH X.prog X.w) X.A X.env X.xe)(Q:DT X B c L)(S:B3 X B j tb):DS X B (.While c j [] pos) (gO L tb):=by
 refine bV (FU R Q S) ?_
 rintro D Z H ⟨U,M,DD,s,⟨n,h⟩,E⟩
 refine#[λm l H'=>∃δ' M',SR X B δ' M' l H'/\Frm M H M' H'/\cC L tb DD _ m δ' M',#[n,U,M,s,Frm.refl,h],?_]
 rintro m P H1 ⟨O,M1,I,i1,N⟩
 cases m with
 |zero=>trivial
 |succ m=>
  refine#[_,M1,_,I,N,λb M2 q H2 v i2=>?_];cases b with
  |false=>exact E.nx _ _ q _ H2 (i1.trans i2) (I.go v i2)
  |true=>
   exact#[_,λl H' z=>#[m,by lia,z],#[_,M2,_,I.go v i2,q,#[λJ M3 G F H3 i3 y=>#[_,M3,y,(i1.trans i2).trans i3,G],(E.go<|i1.trans i2).rt,(E.go<|i1.trans i2).nx,λJ M3 G F H3 i3 y=>#[_,M3,y,(i1.trans i2).trans i3,G]]]]
structure DIt where
 items:List D
 src:List (cp×List D)
def DIt.ok(I:DIt)(M:Mem):Prop:=∀p∈I.src,M p.1=ap (.lst p.2)
abbrev vW:=Dl->Mem->(DIt->Mem->Prop)->Prop
def UA(K:UP)(H0:Hp)(it:DIt)(J:It):Prop:=∀(i:Nat)(H:Hp)(M:Mem),Imm H0 H->RepH K H M->it.ok M->
 (∀d,it.items[i]?=ap d->J.go i H/\∀x H',J.yld i H x H'->Frm M H M H'/\RepH K H' M/\Rp K H' d x)/\(it.items.length<=i->J.stop i H)
inductive liftI(X:Cx)(B:Bd)(T:vW)(Z:St)(H:Hp)(R:It->Hp->Prop):Prop
 |mk (U:Dl) (M:Mem) (RR:DIt->Mem->Prop) (s:SR X B U M Z H) (h:T U M RR) (u:∀it M',RR it M'->∀J H',RepH X.K H' M'->Frm M H M' H'->UA X.K H' it J->R J H'):liftI X B T Z H R
def DI(X:Cx)(B:Bd)(tg iter:fv)(T:vW):Prop:=PI X tg iter (liftI X B T)
theorem g5(h:PI X tg j t)(w:∀Z H Q,t' Z H Q->t Z H Q):PI X tg j t':=λl s Z H Q I q=>h _ s Z H Q I (w Z H Q q)
def fh(g:ki)(tb:au)(DD:DEnds)(ok:Mem->Prop)(b:BxF g tb DD ok):List D->Dl->Mem->Prop
 |[],U,M=>ok M/\DD.nx U M
 |x::xs,U,M=>ok M/\g x U M λh M2=>tb { DD with nx:=fh g tb DD ok b xs,ct:=fh g tb DD ok b xs,bk:=DD.nx } h M2
def cj(wi:vW)(g:ki)(tb:au):au:=λD U M=>wi U M λh M1=>fh g tb D h.ok #[] h.items U M1
theorem Mi{b:BxF g tb DD ok}(h:fh g tb DD ok b xs U M):ok M:=by
 cases xs with
 |_=>exact h.1
theorem OT(hp:abx (eH X.prog X.w) X.A X.env X.xe)(hc:X.calm=true)(hi:DI X B tg j S)(hg:DG X B tg g)(hb:B3 X B l tb)(hs:∀x,qa j X.env x=pure x:=by intro _;rfl):DS X B (.For tg j l [] pos) (cj S g tb):=by
 refine bV (OE hp hc hi hg hb hs) ?_
 rintro D Z H ⟨U,M,DD,s,h,O⟩
 refine#[U,M,_,s,h,λF M1 Y J H1 y i1 T=>?_];refine#[λi m v H'=>m=F.items.length-i/\i<=F.items.length/\∃δ' M',SR X B δ' M' v H'/\Frm M1 H1 M' H'/\fh g tb DD _ _ (F.items.drop i) δ' M',#[_,rfl,by lia,U,M1,s.go y i1,Frm.refl,Y],?_]
 rintro i m σ2 H2 ⟨rfl,hi',δ2,M2,s2,i2,E⟩
 obtain⟨G,P⟩:=T i H2 M2 (i2.imm y) s2.rh (Mi E)
 by_cases q:i<F.items.length
 .rw[XI q]at E
  obtain⟨go,hy⟩:=G _ (UO _);refine .inr #[go,_,λv H' z=>#[_,by omega,rfl,q,z],λx H3 W=>?_]
  obtain⟨i3,Q,rx⟩:=hy x H3 W;refine#[_,_,M2,_,s2.go Q i3,rx,E.2,λδ4 M4 h4 σ4 H4 i4 s4=>?_];have i14:=(i2.trans i3).trans i4;exact#[_,M4,_,s4,h4,#[λI M5 L N H5 i5 R=>#[_,M5,R,i14.trans i5,L],(O.go<|i1.trans i14).rt,(O.go<|i1.trans i14).nx,λI M5 L N H5 i5 R=>#[_,M5,R,i14.trans i5,L]]]
 rw[X5 (by omega)]at E
 exact .inl #[by lia,O.nx _ _ E.2 _ H2 (i1.trans i2) s2]
end
end _3
namespace _2
open PySem PySem.Spec PyProof.Rows
def TV(K:UP)(tl:TE):TI:=λZ H R=>tl Z H λx H1=>∃a b xs,x=.ref a/\oZ K b H1 a xs/\R (if b=true then Itl K a else Itt K a) H1
theorem Kd(z:PE X l j):PI X tg l (TV X.K j):=by
 intro f s Z H R I h;refine bv (z _ s Z H _ I h) λv i m=>?_;obtain⟨x,H1,I1,w,u⟩:=m;obtain⟨a,b,A,e,g,q⟩:=u;subst e;cases w;cases b with
 |true=>
  obtain⟨c,n,p,r⟩:=I1.list g;refine vr p.isList ?_;refine#[_,_,_,_,H1,rfl,I1.kept λb o=>UN _,EG a _,#[_,US _ rfl,rfl,rfl],λb y=>?_,q];have e:b=i.heap.objs.size:=by simp_all
  subst e;exact I1.fpOk (by lia) (I1.hok.fresh<|by lia)
 |false=>
  obtain⟨c,n,p,r⟩:=I1.tuple g;refine wpAny_pyIter_tuple p ?_;refine#[_,_,_,_,H1,rfl,I1.kept λb o=>UN _,xA a _,#[_,US _ rfl,rfl,rfl],λb y=>?_,q];have e:b=i.heap.objs.size:=by simp_all
  subst e;exact I1.fpOk (by lia) (I1.hok.fresh<|by lia)
def Ow(K:UP)(t:TA):TI:=λZ H R=>t Z H λa H1=>∃b l xs,a=[.ref l]/\oZ K b H1 l xs/\R (Ite K b l) H1
theorem Fs(G:Gl X "enumerate")(E:X.mg "enumerate"=ca)(L:PA X [a] r)(M:cT [a] X.env=[(cx,fx a X.env)]:=by rfl):
  PI X (.Tuple g F J) (.Call (.Name "enumerate" p) [a] [] pos) (Ow X.K r):=by
 intro n s Z H R I h;refine Call_ (dy I G E (by rfl:ff _=ap (.type "enumerate"))<|Vt (bv (L _ _ s Z H _ I h) λT o w=>?_) M rfl)
 obtain⟨P,H1,I1,A,j⟩:=w;obtain⟨b,l,Q,e,j,q⟩:=j;subst e;obtain⟨O,rfl,i⟩:=A.one;cases i;obtain⟨u,N,sq,z⟩:=I1.src j;refine DH sq λS m v C y=>?_;have I2:Inv X _ Z H1 _:=I1.kept (t':=o.toks) y;refine wpAny_pyIter_enum m ?_;refine#[_,_,_,_,H1,rfl,I2,Dt b l _ _ (by lia),#[#[_,m],v],λc x=>?_,q]
 have f:o.heap.objs.size<=c:=by
  rcases (by simpa using x) with e|e<;>rw[e]<;>first|exact Wf _ _|exact UX _
 exact I1.fpOk f (I1.hok.fresh f)
end _2
namespace _3
open PySem _2
variable{H H':Hp}{M M':Mem}{i:Nat}{x:Str}{K:UP}
def bM(d:D)(xs:List D):List (cp×List D):=match d with
 |.ref a=>[(a,xs)]
 |_=>[]
theorem yo(o:RepH K H M)(r:Rp K H d v)(e:aO M d=ap xs):∃p b,v=.ref p/\∀H' M',Imm H H'->RepH K H' M'->(∀q∈bM d xs,M' q.1=ap (.lst q.2))->∃vs,oZ K b H' p vs/\Rps K H' xs vs:=by
 cases d with
 |tup ys=>
  cases e;obtain⟨p,vs,rfl,h,r⟩:=r;exact#[p,cx,rfl,λH' M' i _ _=>#[vs,(h.mono i).sq,r.mono i]]
 |lst ys=>
  cases e;obtain⟨p,vs,rfl,h,r⟩:=r;exact#[p,true,rfl,λH' M' i _ _=>#[vs,(h.mono i).sq,r.mono i]]
 |mt ys=>
  cases e;obtain⟨p,vs,rfl,h,r⟩:=r;exact#[p,cx,rfl,λH' M' i _ _=>#[vs,h.sq,r.mono i]]
 |ml ys=>
  cases e;obtain⟨p,vs,rfl,h,r⟩:=r;exact#[p,true,rfl,λH' M' i _ _=>#[vs,(h.mono i).sq,r.mono i]]
 |ref a=>
  refine#[a,true,r,λH' M' i c m=>?_];obtain⟨vs,j,l⟩:=c _ _ (m (a,xs)<|by simp[bM])
  exact#[vs,SqL.of j,l]
 |_=>cases e
theorem xV(e:aO M d=ap xs):∀q∈bM d xs,M q.1=ap (.lst q.2):=by
 cases d with
 |ref a=>
  intro q c;have:q=(a,xs):=by simpa [bM] using c
  simp[aO]at e
  split at e
  .simp_all
  cases e
 |_=>intro q c;simp[bM]at c
def cm(te:bb):vW:=λU M R=>te U M λd M1=>so (aO M1 d) λc=>R #[c,bM d c] M1
theorem PP(hl:DE X B l G):DI X B tg l (cm G):=by
 refine g5 (Kd hl) ?_
 rintro Z H R ⟨U,M,RR,s,h,S⟩
 refine#[U,M,_,s,h,λd M1 q v H1 m i1 W=>?_];obtain⟨xs,e,q⟩:=q.inv;obtain⟨p,b,rfl,c⟩:=yo m W e;obtain⟨O,Y,_⟩:=c H1 M1 Imm.refl m (xV e);refine#[p,b,O,rfl,Y,S _ M1 q _ H1 m i1 λi H2 M2 i2 o z=>?_];obtain⟨J,j,F⟩:=c H2 M2 i2 o z;cases b with
 |_=>
  refine#[λd L=>?_,λy=>#[_,j,by rw[<- F.length];exact y]]
  obtain⟨w,A,u⟩:=F.get L;refine#[#[_,w,j,A],?_]
  rintro x H3 ⟨rfl,I⟩
  have:=I _ j;rw[A]at this;cases this;exact#[Frm.refl,o,u]
noncomputable def cG(lo:Int)(n:Nat):List D:=(Vc n).map λ(i:Nat)=>D.int (lo+i)
def dw(t:eh):vW:=λU M R=>t U M λh M1=>one h λc=>onI c λj=>-(2 ^ 62)<=j/\j<2 ^ 62/\R #[cG 0 j.toNat,[]] M1
theorem Fi:UA K H #[cG l n,[]] (Tp l n):=λi H2 M2 i2 m _=>by
 have j:(cG l n).length=n:=by simp[cG]
 refine#[λd s=>?_,λc=>by rw[j]at c;exact c]
 have o:i<n:=by
  rcases Wc i n with h|h
  .exact h
  simp_all
 have q:d=.int (l+i):=by
  simp[cG,Wb o]at s
  simp_all
 subst q;refine#[o,?_]
 rintro x H3 ⟨rfl,rfl⟩
 exact#[Frm.refl,m,rfl]
theorem Ek(q:Gl X "range")(y:X.mg "range"=ca)(u:DA X B [a] ta)(z:cT [a] X.env=[(cx,fx a X.env)]:=by rfl):DI X B tg (.Call (.Name "range" p) [a] [] pos) (dw ta):=by
 refine g5 (Eb q y u z) ?_
 rintro Z H R ⟨U,M,RR,s,h,m⟩
 refine#[U,M,_,s,h,λds M1 c A H1 j i1 o=>?_]
 replace c:=c.inv;obtain⟨F,rfl,c⟩:=c
 replace c:=c.inv;obtain⟨_,rfl,c⟩:=c
 obtain⟨v,rfl,l⟩:=fZ (ds:=[]) o;cases l;exact#[_,rfl,c.1,c.2.1,m _ M1 c.2.2 _ H1 j i1 Fi]
def Fy(t:eh):vW:=λU M R=>t U M λh M1=>two h λc l=>onI c λi=>onI l λj=>(-(2 ^ 62)<=i/\i<2 ^ 62/\-(2 ^ 62)<=j/\j<2 ^ 62)/\R #[cG i (j-i).toNat,[]] M1
theorem DQ(u:Gl X "range")(z:X.mg "range"=ca)(y:DA X B [a,b] ta)(A:cT [a,b] X.env=[(cx,fx a X.env),(cx,fx b X.env)]:=by rfl)(hs2:cT [b] X.env=[(cx,fx b X.env)]:=by rfl):
  DI X B tg (.Call (.Name "range" p) [a,b] [] pos) (Fy ta):=by
 refine g5 (E1 u z y A hs2) ?_
 rintro Z H R ⟨U,M,RR,s,h,o⟩
 refine#[U,M,_,s,h,λF M1 c G H1 l i1 q=>?_]
 replace c:=c.inv;obtain⟨J,I,rfl,c⟩:=c
 replace c:=c.inv;obtain⟨_,rfl,c⟩:=c
 replace c:=c.inv;obtain⟨_,rfl,c⟩:=c
 obtain⟨v,w,rfl,m,j⟩:=GH q;cases m;cases j;exact#[_,_,rfl,c.1,o _ M1 c.2 _ H1 l i1 Fi]
noncomputable def wF(xs:List D):List D:=(xs.zipIdx).map λp=>D.tup [.int (p.2:Nat),p.1]
theorem EH:(wF xs)[i]?=(xs[i]?).map λd=>D.tup [.int (i:Nat),d]:=by
 simp[wF];rfl
def o8(t:eh):vW:=λU M R=>t U M λh M1=>one h λd=>so (aO M1 d) λc=>R #[wF c,bM d c] M1
theorem Mh(hg:Gl X "enumerate")(hm:X.mg "enumerate"=ca)(ha:DA X B [a] ta)(hs:cT [a] X.env=[(cx,fx a X.env)]:=by rfl):
  DI X B (.Tuple elts x1 tp) (.Call (.Name "enumerate" p) [a] [] pos) (o8 ta):=by
 refine g5 (Fs hg hm ha hs) ?_
 rintro Z H R ⟨U,M,RR,s,h,W⟩
 refine#[U,M,_,s,h,λds M1 j J H1 m i1 Y=>?_]
 replace j:=j.inv;obtain⟨_,rfl,j⟩:=j
 obtain⟨v,rfl,S⟩:=fZ (ds:=[]) Y;obtain⟨xs,e,j⟩:=j.inv;obtain⟨p,b,rfl,c⟩:=yo m S e;obtain⟨J,hq,_⟩:=c H1 M1 Imm.refl m (xV e);refine#[b,p,J,rfl,hq,W _ M1 j _ H1 m i1 λi H2 M2 i2 o A=>?_];obtain⟨O,l,G⟩:=c H2 M2 i2 o A;refine#[λd I=>?_,λy=>#[_,l,by rw[<- G.length];simpa [wF] using y]]
 rw[EH]at I;obtain⟨d0,u,rfl⟩:=VT.mp I;obtain⟨w,F,q⟩:=G.get u;refine#[#[_,w,l,F],?_]
 rintro x H3 ⟨T,x',z,rfl,rfl,L⟩
 have:=L _ l;rw[F]at this;cases this;exact#[Frm.new z,o.new z,T,_,rfl,upd_same,.cons rfl<|.cons (q.mono<|Imm.new z) .nil]
noncomputable def xO(xs ys:List D):List D:=(xs.zip ys).map λp=>D.tup [p.1,p.2]
theorem GO(h:(xO xs ys)[i]?=ap d):∃x y,xs[i]?=ap x/\ys[i]?=ap y/\d=.tup [x,y]:=by
 simp only[xO,UT,VT]at h;obtain⟨⟨x,y⟩,c,rfl⟩:=h;rw[WQ]at c;exact#[x,y,c.1,c.2,rfl]
def yN:List D->List (List D)->List (cp×List D)
 |d::ds,xs::xss=>bM d xs++yN ds xss
 |_,_=>[]
abbrev Uc(M:Mem)(ds:List D)(xss:List (List D)):Prop:=Wp (λd xs=>aO M d=ap xs) ds xss
structure Zps(xss:List (List D))(zs:List D):Prop where
 get:∀(i:Nat)(d:D),zs[i]?=ap d->∃ys,d=.tup ys/\xss.map (·[i]?)=ys.map ap
 stop:∀i:Nat,zs.length<=i->∃xs∈xss,xs.length<=i
theorem Kr(u:RepH K H M)(h:Uc M ds c):∀{vs:List V},Rps K H ds vs->(∀q∈yN ds c,M q.1=ap (.lst q.2))/\
  ∃L:List (Bool×cp),vs=L.map (λp=>.ref p.2)/\L.length=c.length/\∀H' M',Imm H H'->RepH K H' M'->(∀q∈yN ds c,M' q.1=ap (.lst q.2))->
   Wp (λ(p:Bool×cp) xs=>∃us,oZ K p.1 H' p.2 us/\Rps K H' xs us) L c:=by
 induction h with
 |nil=>exact λr=>#[λq h=>by simp[yN]at h,[],r,rfl,λ_ _ _ _ _=>.nil]
 |cons h t ih=>
  rintro vs ⟨v,o,rfl,r,s⟩
  obtain⟨a,L,rfl,l,k⟩:=ih s;obtain⟨p,b,rfl,g⟩:=yo u r h;exact#[λq m=>(Vs.1 m).elim (xV h q) (a q),(b,p)::L,rfl,by simp[l],λH' M' i j ok=>.cons (g H' M' i j λq m=>ok q (Xj _ m)) (k H' M' i j λq m=>ok q (Vz _ m))]
theorem Lw(im:Imm H H')(h:Wp (λ(p:Bool×cp) xs=>∃us,oZ K p.1 H p.2 us/\Rps K H xs us) L xss):∀{ys:List D}{zs:List V},xss.map (·[i]?)=ys.map ap->zs.length=L.length->
  (∀(j:Nat)(p:Bool×cp),L[j]?=ap p->∀us,oZ K p.1 H p.2 us->us[i]?=zs[j]?)->Rps K H' ys zs:=by
 induction h with
 |nil=>
  intro ys zs e l _;obtain rfl:=List.eq_nil_of_length_eq_zero l;cases ys<;>trivial
 |cons h t ih=>
  intro ys zs e l g;cases ys with
  |nil=>simp at e
  |cons y ys=>
   cases zs with
   |nil=>simp at l
   |cons z zs=>
    simp at e;obtain⟨us,sq,r⟩:=h;obtain⟨w,hw,rw'⟩:=r.get e.1;have:=g 0 _ rfl us sq;rw[hw]at this;cases this;exact .cons (rw'.mono im) (ih e.2 (by simpa using l) λj p ej=>g (j+1) p (by trivial))
theorem vy:∀{L:List (Bool×cp)}{xss:List (List D)},Wp P L xss->(∀p∈L,∃xs∈xss,P p xs)/\∀xs∈xss,∃p∈L,P p xs:=by
 intro L xss h
 induction h with
 |nil=>exact#[λp h=>by simp at h,λp h=>by simp at h]
 |cons h _ ih=>
  obtain⟨a,b⟩:=ih;refine#[λp c=>?_,λp c=>?_]
  .rcases UU.1 c with rfl|m
   .exact#[_,.head _,h]
   .obtain⟨x,y,z⟩:=a p m;exact#[x,.tail _ y,z]
  .rcases UU.1 c with rfl|m
   .exact#[_,.head _,h]
   .obtain⟨x,y,z⟩:=b p m;exact#[x,.tail _ y,z]
theorem AU{f:List D->Mem->(DIt->Mem->Prop)->Prop}(hf:∀ds M1 R,f ds M1 R->∃c zs,(c.length=2\/c.length=3)/\Uc M1 ds c/\Zps c zs/\R #[zs,yN ds c] M1)(hg:Gl X "zip")(hm:X.mg "zip"=ca)(ha:DA X B (a::as) ta)(hs:cT (a::as) X.env=(cx,fx a X.env)::cT as X.env)(S:(PySem.backTo pos<|starEach as X.env).any (·.1)=cx):
  DI X B (.Tuple elts x1 tp) (.Call (.Name "zip" p) (a::as) [] pos) (λU M R=>ta U M λds M1=>f ds M1 R):=by
 refine g5 (Ke hg hm ha hs S) ?_
 rintro Z H R ⟨U,M,RR,s,h,up⟩
 refine#[U,M,_,s,h,λds M1 G Y H1 o i1 r1=>?_];obtain⟨c,zs,n,sq,z,G⟩:=hf _ _ _ G;obtain⟨ok,L,rfl,l,k⟩:=Kr o sq r1;refine#[L,by lia,rfl,λp j=>?_,up _ M1 G _ H1 o i1 λi H2 M2 i2 A O=>?_]
 .obtain⟨F,_,m,h,_⟩:=(vy<|k H1 M1 Imm.refl o ok).1 p j
  exact#[m,h]
 have q:=k H2 M2 i2 A O;obtain⟨W,qb⟩:=vy q;refine#[λd hd=>?_,λI=>#[λp j=>?_,?_]]
 .obtain⟨ys,rfl,e⟩:=z.get i d hd
  refine#[λp j=>?_,?_]
  .obtain⟨F,u,m,h,r⟩:=W p j
   obtain⟨y,_,e⟩:=UZ.1 (e▸Vq u);obtain⟨v,hv,_⟩:=r.get e.symm;exact#[m,v,h,hv]
  rintro x H3 ⟨T,Y,J,rfl,rfl,hl,u⟩
  exact#[Frm.new J,A.new J,T,Y,rfl,upd_same,Lw (Imm.new J) q e hl u]
 .obtain⟨F,_,m,h,_⟩:=W p j
  exact#[m,h]
 obtain⟨F,u,le⟩:=z.stop i I;obtain⟨p,j,m,h,r⟩:=qb F u;exact#[p,j,m,h,by rw[<- r.length];exact le]
def Uz(t:eh):vW:=λU M R=>t U M λj M1=>two j λd e=>so (aO M1 d) λc=>so (aO M1 e) λh=>R #[xO c h,bM d c++bM e h] M1
theorem QT(v:Gl X "zip")(F:X.mg "zip"=ca)(A:DA X B [a,b] ta)(G:cT [a,b] X.env=[(cx,fx a X.env),(cx,fx b X.env)]:=by rfl)(hs2:cT [b] X.env=[(cx,fx b X.env)]:=by rfl):
  DI X B (.Tuple elts x1 tp) (.Call (.Name "zip" p) [a,b] [] pos) (Uz ta):=by
 refine AU (λI M1 R h=>?_) v F A (by rw[G,hs2]) (by rw[hs2];rfl)
 replace h:=h.inv;obtain⟨d,e,rfl,h⟩:=h
 obtain⟨j,s,h⟩:=h.inv;obtain⟨c,m,h⟩:=h.inv;refine#[_,_,.inl rfl,.cons s (.cons m .nil),#[λi z o=>?_,λi u=>?_],by simpa [yN] using h]
 .obtain⟨x,y,l,q,rfl⟩:=GO o
  exact#[_,rfl,by simp[l,q]]
 have:(xO j c).length=min j.length c.length:=by simp[xO]
 simp;lia
noncomputable def Lq:Bd:=#[λ_ _=>True,λ_ _=>trivial]
inductive liftE0(K:UP)(T:bb)(Z:_2.St)(H:Hp)(Q:VK):Prop
 |mk (U:Dl) (M:Mem) (QQ:DK) (rh:RepH K H M) (rs:RepS K H U Z) (h:T U M QQ) (u:Up K M H QQ Q):liftE0 K T Z H Q
inductive liftT0(K:UP)(T:fP)(Z:_2.St)(H:Hp)(Q:Bool->Hp->Prop):Prop
 |mk (U:Dl) (M:Mem) (QQ:Bool->Mem->Prop) (rh:RepH K H M) (rs:RepS K H U Z) (h:T U M QQ) (u:UpT K M H QQ Q):liftT0 K T Z H Q
inductive liftG0(K:UP)(g:ki)(v:V)(Z:_2.St)(H:Hp)(Q:_2.St->Hp->Prop):Prop
 |mk (d:D) (U:Dl) (M:Mem) (QQ:Dl->Mem->Prop) (rh:RepH K H M) (rs:RepS K H U Z) (r:Rp K H d v) (h:g d U M QQ) (u:∀δ' M',QQ δ' M'->∀σ' H',Frm M H M' H'->RepH K H' M'->RepS K H' δ' σ'->Q σ' H'):liftG0 K g v Z H Q
theorem HA(h:DE X Lq e T):PE X e (liftE0 X.K T):=aT h (by rintro Z H Q ⟨U,M,QQ,j,c,h,u⟩;exact#[U,M,QQ,#[trivial,j,c],h,u])
theorem Gw(h:DG X Lq e g):PG X e (liftG0 X.K g):=m7 h (by rintro v Z H Q ⟨d,U,M,QQ,rh,rs,r,h,u⟩;exact#[d,U,M,QQ,#[trivial,rh,rs],r,h,λj M' q c H' f s=>u _ M' q _ H' f s.rh s.rs])
theorem RepH.add(r:RepH K H M)(n:RepO K H a o):RepH K H (M.upd a o):=λb p e=>by
 by_cases c:b=a
 .simp_all
 rw[ae c]at e;exact r b p e
noncomputable def cB(ls:abY)(js:List Nat)(U:Dl):Dl:=ls.map (λ_=>ca)++js.map λj=>(U[j]?).join
theorem RepS.start(r:RepS K H U Z)(ls:abY)(c:List Nat):RepS K H (cB ls c U) (dE ls c Z):=by
 refine#[by simp[cB,dE],λi d e=>?_]
 unfold cB at e;unfold dE
 by_cases q:i<ls.length
 .grind
 rw[V0 (by simp_all),UT]at e
 rw[V0 (by simp_all)]
 cases l:c[i-ls.length]? with
 |none=>simp_all
 |some j=>
  have h:U[j]?=ap (ap d):=by
   cases z:U[j]?<;>simp_all
  obtain⟨v,m,o⟩:=r.get j d h
  simp_all
structure BxC(g:ki)(tt:fP)(te:bb)(ok:Mem->Prop)(Q:List D->Mem->Prop):Type
def eL(g:ki)(tt:fP)(te:bb)(ok:Mem->Prop)(Q:List D->Mem->Prop)(b:BxC g tt te ok Q):List D->List D->Dl->Mem->Prop
 |[],abS,_,M=>ok M/\Q abS M
 |x::xs,abS,U,M=>ok M/\g x U M λh M2=>tt h M2 λc M3=>if c=true then te h M3 λy M4=>abS.length<sizeLine/\eL g tt te ok Q b xs (abS++[y]) h M4 else eL g tt te ok Q b xs abS h M3
def aV(wi:vW)(ls:abY)(js:List Nat)(g:ki)(tt:fP)(te:bb):bb:=λU M Q=>wi U M λh M1=>eL g tt te h.ok (λc M'=>∀p,M' p=ca->Q (.ref p) (M'.upd p<|.lst c)) #[] h.items [] (cB ls js U) M1
theorem Gj(h:eL g tt te ok Q b xs abS U M):ok M:=by
 cases xs with
 |_=>exact h.1
theorem qZ(h:liftE X B (aV wi ls js g tt te) Z H Q):HB (liftI X B wi) ls js (liftG0 X.K g) (liftT0 X.K tt) (liftE0 X.K te) Z H Q:=by
 obtain⟨U,M,QQ,s,h,u⟩:=h;refine#[U,M,_,s,h,λit M1 h1 J H1 rh1 f1 hJ p hp=>?_];have hMp:=rh1.fresh hp
 refine#[λi m σ' H'=>m=it.items.length-i/\i<=it.items.length/\∃δ' M' abS ys,RepH _ H' M'/\RepS _ H' δ' σ'/\H' p=ap (.lst ys)/\Rps X.K H' abS ys/\M' p=ca/\Frm M1 H1 M' H'/\
   eL g tt te _ _ _ (it.items.drop i) abS δ' M',
  #[_,rfl,by lia,_,M1,[],[],rh1.new hp,((s.rs.mono<|f1.imm s.rh).mono<|Imm.new hp).start ls js,upd_same,.nil,hMp,Frm.new hp,h1],?_]
 rintro i m σ2 H2 ⟨rfl,hi,δ2,M2,abS,ys,rh2,rs2,hp2,ra2,hm2,f2,h2⟩
 have hok:=Gj h2;obtain⟨hgo,hstop⟩:=hJ i H2 M2 (f2.imm rh1) rh2 hok
 by_cases hlt:i<it.items.length
 .rw[XI hlt]at h2
  obtain⟨go,hy⟩:=hgo _ (UO hlt);refine .inr #[go,_,λσ' H' z=>#[_,by omega,rfl,hlt,z],λx H3 hx=>?_]
  obtain⟨f3,rh3,rx⟩:=hy x H3 hx;refine#[_,_,M2,_,rh3,rs2.mono (f3.imm rh2),rx,h2.2,λδ4 M4 h4 σ4 H4 f4 rh4 rs4=>?_];refine#[_,M4,_,rh4,rs4,h4,λc M5 h5 H5 rh5 f5=>?_];have f35:=(f3.trans f4).trans f5;obtain⟨hp5,hm5⟩:=f35.keep p _ hp2 hm2;cases c with
  |false=>
   exact#[_,M5,_,ys,rh5,rs4.mono (f5.imm rh4),hp5,ra2.mf rh2 f35,hm5,f2.trans f35,h5]
  |true=>
   refine#[_,M5,_,rh5,rs4.mono (f5.imm rh4),h5,λy M6 h6 v6 H6 rh6 f6 r6=>?_];obtain⟨hp6,hm6⟩:=f6.keep p _ hp5 hm5;have f26:=f35.trans f6;have ra6:=ra2.mf rh2 f26;refine#[ys,hp6,by rw[<- ra6.length];exact h6.1,?_]
   have im:Imm H6 (upd H6 p<|.lst (ys++[v6])):=Imm.upd (by rw[hp6];trivial)
   refine#[_,M6,_,_,rh6.keep im λb o hb=>aF (by lia),((rs4.mono<|f5.imm rh4).mono<|f6.imm rh5).mono im,upd_same,(ra6.append<|.cons r6 .nil).mono im,hm6,?_,h6.2]
   refine#[λb w e n=>?_];obtain⟨e2,n2⟩:=(f2.trans f26).keep b w e n;exact#[by rw[aF (by lia)];exact e2,n2]
 rw[X5 (by omega)]at h2
 refine .inl #[hstop (by omega),u _ _ (h2.2 p hm2) _ H2 (rh2.add #[ys,hp2,ra2]) ?_ rfl]
 refine#[λb w e n=>?_];obtain⟨e1,n1⟩:=f1.keep b w e n;obtain⟨e2,n2⟩:=f2.keep b w e1 n1;exact#[e2,by rw[ae (br e1 hp)];exact n2]
def RZ(X:Cx)(B:Bd)(ifs:ab1)(T:fP):Prop:=Rc X ifs (liftT X B T)
def dX:fP:=λ_ M Q=>Q true M
theorem KS:RZ X B [] dX:=(by rintro c s Z H Q I ⟨U,M,QQ,j,h,u⟩;exact Jn _ s Z H Q I (u _ M h H j.rh Frm.refl))
theorem KM(h:DT X B c t):RZ X B [c] t:=L1 h
theorem Dn(h:RZ X Lq es T):Rc X es (liftT0 X.K T):=λc s Z H Q I m=>by obtain⟨U,M,QQ,o,l,j,u⟩:=m;exact h _ s Z H Q I #[U,M,QQ,#[trivial,o,l],j,u]
def dB(i:Nat)(t:bb):au:=λD U M=>t U M λd M1=>D.nx (U.set i<|some d) M1
def eP(i:Nat)(U:Dl)(M:Mem)(Q:Dl->Mem->Prop):Prop:=s2e U[i]? (λd=>onRe d (λa=>mLe (M a) (λc=>Q (U.set i<|some<|.lst c) (M.del a)) (Q U M)) (Q U M)) (Q U M)
def cF(t:au)(i:Nat):au:=λD U M=>t { D with nx:=λc M'=>eP i c M' D.nx } U M
theorem wf{α:Type}:∀{l:List α}{i:Nat}{x:α},l[i]?=ap x->l.set i x=l
 |[],_,_,h=>by simp at h
 |_::_,0,_,h=>by simp_all
 |_::_,i+1,_,h=>by rw[List.set_cons_succ,wf (by simpa using h)]
theorem Od(i:Nat)(h:DS X B st t):DS X B st (cF t i):=by
 intro abP s Z H D I ⟨U,M,DD,sr,hT,up⟩;refine bv (h _ s Z H { D with nx:=λσ' H'=>∃δ' M',eP i _ M' _/\Frm M H M' H'/\SR X B _ M' _ H' } I #[U,M,_,sr,hT,#[λδ' M' q σ' H' f s'=>#[δ',M',q,f,s'],up.rt,up.bk,up.ct]]) λf s' q=>?_;cases f with
 |next=>
  obtain⟨σ',H',I',δ',M',q,f,s'⟩:=q;unfold eP at q
  replace q:=q.inv;rcases q with⟨w,ea,q⟩|q
  .replace q:=q.inv;rcases q with⟨a,rfl,q⟩|q
   .replace q:=q.inv;rcases q with⟨xs,e,q⟩|q
    rotate_left
    .exact#[_,H',I',up.nx _ _ q _ H' f s']
    obtain⟨vs,h1,h2⟩:=s'.rh _ _ e;obtain⟨o,I2⟩:=Inv.freeze I' h1;have im:Imm H' (upd H' a<|.frz o<|.lst vs):=Imm.upd (by rw[h1];trivial)
    obtain⟨v,hv,rv⟩:=s'.rs.get i _ ea;cases rv;refine#[_,_,I2,up.nx _ _ q _ _ (f.trans<|Frm.del #[_,e]) #[B.go s'.i0 (Frm.del #[_,e]),s'.rh.freeze h1,?_]];have:=(s'.rs.mono im).set (i:=i) (d:=.lst xs) #[a,vs,rfl,#[o,upd_same],h2.mono im]
    rwa [wf hv]at this
   exact#[_,H',I',up.nx _ _ q _ H' f s']
  exact#[_,H',I',up.nx _ _ q _ H' f s']
 |_=>exact q
abbrev DX:=cp->Mem->Prop
abbrev Sd:=List D->Mem->DK->DX->Prop
def qW(P:eX)(w:gl):qd:=λc H s E e h=>∃C,EY P w C c H s E e h
def UpX(K:UP)(M:Mem)(H:Hp)(EE:DX)(E:XK):Prop:=∀C M',EE C M'->∀H',RepH K H' M'->Frm M H M' H'->E (.ref C) ca H'
def ve(K:UP)(B:Bd)(EE:DX)(E:XK):Prop:=∀C M',EE C M'->∀H',RepH K H' M'->B.p M' H'->E (.ref C) ca H'
theorem UpX.go{M1:Mem}(u:UpX K M H EE E)(i:Frm M H M1 H1):UpX K M1 H1 EE E:=λC M' q H' a b=>u C M' q H' a (i.trans b)
def bG(K:UP)(n:Nat)(T:Sd):Sp:=λc H Q E=>c.length=n/\∃ds M QQ EE,RepH K H M/\Rps K H ds c/\T ds M QQ EE/\Up K M H QQ Q/\UpX K M H EE E
def startN(N:abY)(ds:List D):Dl:=ds.map ap++Vl (N.length-ds.length) ca
theorem RepS.startN(N:abY)(r:Rps K H ds vs):RepS K H (_3.startN N ds) (_2.start N vs):=by
 have m:=r.length;refine#[by simp[_3.startN,_2.start,m],λi d e=>?_]
 unfold _3.startN at e;unfold _2.start
 by_cases c:i<ds.length
 .rw[WR (by simp_all),UT,UO c]at e
  have j:ds[i]=d:=by simpa using e
  obtain⟨v,h,l⟩:=r.get (by rw[UO c,j])
  refine#[v,?_,l];rw[WR (by simp;lia),UT,h]
  rfl
 rw[V0 (by simp_all),Zv]at e
 simp_all
def drp(Q:DK)(d:D)(M':Mem):Prop:=∃M'',(∀b o,M'' b=ap o->M' b=ap o)/\Q d M''
def aI(EE:DX)(C:cp)(M':Mem):Prop:=∃M'',(∀b o,M'' b=ap o->M' b=ap o)/\EE C M''
theorem ak(h:Q d M'):drp Q d M':=#[M',by lia,h]
theorem eK(h:EE C M'):aI EE C M':=#[M',by lia,h]
theorem Frm.less(f:Frm M H M' H')(s:∀b o,M'' b=ap o->M' b=ap o):Frm M H M'' H':=#[λb u e n=>by
 obtain⟨c,h⟩:=f.keep b u e n;refine#[c,?_];cases q:M'' b<;>simp_all]
theorem Up.drp(u:Up K M H Q QV):Up K M H (_3.drp Q) QV:=(by rintro d M' ⟨_,s,q⟩ v H' c f r;exact u d _ q v H' (λb o e=>c b o (s b o e)) (f.less s) r)
theorem UpX.drp(u:UpX K M H EE E):UpX K M H (aI EE) E:=(by rintro C M' ⟨_,s,q⟩ H' c f;exact u C _ q H' (λb o e=>c b o (s b o e)) (f.less s))
def aK(N:abY)(T:DX->au):Sd:=λc M Q EE=>T (aI EE) { nx:=λ_ M'=>drp Q .non M',rt:=drp Q } (startN N c) M
theorem fnD(F:Fun K x abQ st f fd)(S:FnScope N ps (aR st))(J:∀(j:ax)(A:f')(c:List Env)(s:cb)(H:Hp)(E:XK)(B:Bd)(EE:DX),Room k (A.deeper<|Xa abQ (aR st) s.heap.objs.size f j)->ve K B EE E->
   B3 (eZ (qW P w) P w K mg base N abQ (aR st) f j A c s H E) B (bC st) (T EE)):
  FnOk P w K mg base (qW P w) (k+1) f fd ps (bG K ps.length<|aK N T):=by
 obtain⟨oc,O,kV,o,Y,an,j,R,v,rfl,lk,l⟩:=F.ex;refine Nc lk l S (λz H Q E h=>h.1) λA c s H z Q E I m=>?_;obtain⟨W,L,M,QQ,EE,rh,r,G,u,ux⟩:=m;exact#[_,J _ A _ s H E (Bd.of M H) _ I ux.drp,_,M,_,#[Frm.refl,rh,.startN N r],G,#[λU M' q Z H' f y=>u.drp _ M' q _ H' y.rh f rfl,u.drp,λU M' q=>q.elim,λU M' q=>q.elim]]
theorem eU:FnOk P w K mg base CX k f fd ps (bG K n λ_ _ _ _=>False):=
 #[λl H Q E h=>(by obtain⟨_,_,_,_,_,_,_,h,_⟩:=h;exact h.elim),λA c s H j m l Q E _ _ _ _ h=>(by obtain⟨_,_,_,_,_,_,_,h,_⟩:=h;exact h.elim)]
theorem Ib:bX (qW P w) (eZ (qW P w) P w K mg base N abQ scope f m A c o H0 E) E:=by
 intro h Z H s e l I ⟨C,j⟩;exact kc (S4 _ Z H s e l (I.wish _) j) (λ_ _ z=>#[C,z]) λ_ _ z=>#[C,z]
theorem yk:bX (qW P w) X E0:=(by rintro abP Z H s e s' I ⟨C,hx⟩;exact(by
 obtain⟨_,_,_,_,_,_,_,_,_,_,_,_,hE⟩:=hx;trivial))
def Sub(M1 M:Mem):Prop:=∀b o,M1 b=ap o->M b=ap o
def Dis(M1 M M':Mem):Prop:=∀b o,M b=ap o->M1 b=ca->M' b=ca
noncomputable def plus(M' M1 M:Mem):Mem:=λb=>match M' b with
 |some o=>ap o
 |none=>match M1 b with
  |some _=>ca
  |none=>M b
theorem rg:plus M' M M=M':=by
 funext b;simp[plus];lia
structure BxQ(EE:DX)(Q:DK):Type
structure calls(T:Sd)(EE:DX)(ds:List D)(M:Mem)(Q:DK)(_:BxQ EE Q):Prop where
 go:∃M1,Sub M1 M/\T ds M1 (λd M'=>Dis M1 M M'->Q d (plus M' M1 M)) (λC M'=>Dis M1 M M'->EE C (plus M' M1 M))
section
variable{M1:Mem}
theorem RepH.sub(r:RepH K H M)(s:Sub M1 M):RepH K H M1:=λb o e=>r b o (s b o e)
theorem RepH.dis(r:RepH K H M)(f:Frm M1 H M' H'):Dis M1 M M':=λb o e n=>by
 obtain⟨u,q⟩:=(r b o e).obj;exact(f.keep b u q n).2
theorem RepH.plus(r:RepH K H M)(s:Sub M1 M)(h:RepH K H' M')(f:Frm M1 H M' H'):RepH K H' (plus M' M1 M):=λb o e=>by
 simp[_3.plus]at e
 split at e
 .rename_i j q;cases e;exact h b _ q
 split at e
 .cases e
 rename_i q n
 obtain⟨u,c⟩:=(r b o e).obj;exact(r b o e).keep (f.imm<|r.sub s) ((f.keep b u c n).1.trans c.symm)
theorem Frm.plus(s:Sub M1 M)(f:Frm M1 H M' H'):Frm M H (plus M' M1 M) H':=#[λb u e n=>by
 have c:M1 b=none:=by
  cases q:M1 b with
  |none=>rfl
  |some o=>rw[s b o q]at n;cases n
 obtain⟨h,j⟩:=f.keep b u e c;exact#[h,by simp[_3.plus,j,c,n]]]
theorem de(h:calls T EE ds M Q b)(rh:RepH K H M)(r:Rps K H ds vs)(j:vs.length=n)(u:Up K M H Q QV)(ux:UpX K M H EE E):bG K n T vs H QV E:=by
 obtain⟨M1,s,h⟩:=h.go;exact#[j,ds,M1,_,_,rh.sub s,r,h,λd M' q v H' c f=>u d _ (q<|rh.dis f) v H' (rh.plus s c f) (f.plus s),λC M' q H' c f=>ux C _ (q<|rh.dis f) H' (rh.plus s c f) (f.plus s)]
theorem ar(c:∀Q' E',(∀d M,Q d M->Q' d M)->(∀C M,EE C M->E' C M)->T ds M Q' E'):calls T EE ds M Q b:=
 #[M,λ_ _ e=>e,c _ _ (λd M' q _=>by rw[rg];exact q) λC M' q _=>by rw[rg];exact q]
def aj(T:Sd)(EE:DX)(n:Nat)(t:eh):bb:=λU M Q=>t U M λc M1=>c.length=n/\calls T EE c M1 Q #[]
theorem SR.ux(s:SR X B U M Z H)(ux:ve X.K B EE E):UpX X.K M H EE E:=λC M' q H' a b=>ux C M' q H' a (B.go s.i0 b)
theorem rG(F:FnOk X.prog X.w X.K X.mg X.base CX k f fd ps (bG X.K n T))(z:Room k X.A)(G:Gl X x)(y:X.mg x=ap (.ref f))(I:V8 X.K (.ref f)=true)(L:Binds X.K fd ps [])(v:bX CX X E)(ux:ve X.K B EE E)(J:DA X B (e::es) t)(j:(x==("__debug__":Str))=false:=by decide)(he:cT (e::es) X.env=(cx,fx e X.env)::cT es X.env:=by rfl)(hpl:(ix pos<|starEach es X.env).any (·.1)=false:=by rfl):
  DE X B (.Call (.Name x p) (e::es) [] pos) (aj T EE n t):=by
 refine aT (BK F z G y I L .nil v J j he hpl) ?_
 rintro Z H Q ⟨U,M,QQ,s,h,u⟩
 refine#[U,M,_,s,h,λO M1 l R H1 c i1 q=>?_];rw[VD];exact de l.2 c q (by rw[<- q.length];exact l.1) (u.go i1) ((s.ux ux).go i1)
def dF(C:cp)(m:Str)(T:Sd)(EE:DX)(n:Nat)(ta:bb)(t:eh):bb:=λU M Q=>ta U M λx M1=>onR x λa=>mN (M1 a) λC' fs=>C'=C/\fs.lookup m=ca/\t U M1 λc M2=>c.length+1=n/\calls T EE (.ref a::c) M2 Q #[]
theorem KE(he:DE X B o ta)(c:Cls X.K C)(hm:Meth X.K C m f)(F:FnOk X.prog X.w X.K X.mg X.base CX k f fd ps (bG X.K n T))(hr:Room k X.A)(hb:Binds X.K fd ps [])(hx:bX CX X E)(ux:ve X.K B EE E)(ha:DA X B (e::es) t)(G:cT (e::es) X.env=(cx,fx e X.env)::cT es X.env:=by rfl)(hpl:(ix pos<|starEach es X.env).any (·.1)=false:=by rfl)(ht:fx (.Call (.Attribute o m abU) (e::es) [] pos) X.env=(do
   let ov <- fx o X.env
   G' abU.atName
   let (f,first) <- o4 [ov] (z4 ov m pl)
   aa7 pos f first (ix pos<|starEach (e::es) X.env) (pt pos<|keywordEach [] X.env)):=by rfl):
  DE X B (.Call (.Attribute o m abU) (e::es) [] pos) (dF C m T EE n ta t):=by
 refine aT (JA he c hm F hr hb .nil hx ha G hpl ht) ?_
 rintro Z H Q ⟨U,M,QQ,s,h,u⟩
 refine#[U,M,_,s,h,λx M1 j v H1 l i1 O=>?_]
 replace j:=j.inv;obtain⟨a,rfl,j⟩:=j
 cases O;obtain⟨C',fs,W,j⟩:=j.inv;obtain⟨rfl,hl,j⟩:=j;obtain⟨Y,L,R,S⟩:=l _ _ W;have q:L.lookup m=none:=by
  rcases S.lookup m with⟨_,z⟩|⟨d,v,z,_⟩
  .exact z
  simp_all
 refine#[a,Y,L,rfl,R,q,U,M1,_,s.go l i1,j,λds M2 J vs H2 y i2 I=>?_];rw[VD];exact de J.2 y (.cons rfl I) (by rw[Vh,<- I.length];exact J.1) (u.go<|i1.trans i2) ((s.ux ux).go<|i1.trans i2)
theorem IP(he:DE X B o ta)(c:Cls X.K C)(W:Meth X.K C m f)(F:FnOk X.prog X.w X.K X.mg X.base CX k f fd ps (bG X.K n T))(Y:Room k X.A)(hb:Binds X.K fd ps [])(S:bX CX X E)(ux:ve X.K B EE E)(R:fx (.Call (.Attribute o m abU) [] [] pos) X.env=(do
   let ov <- fx o X.env
   G' abU.atName
   let (f,first) <- o4 [ov] (z4 ov m pl)
   aa7 pos f first (ix pos<|starEach [] X.env) (pt pos<|keywordEach [] X.env)):=by rfl):
  DE X B (.Call (.Attribute o m abU) [] [] pos) (dF C m T EE n ta ag):=by
 refine aT (Ic he c W F Y hb .nil S R) ?_
 rintro Z H Q ⟨U,M,QQ,s,h,u⟩
 refine#[U,M,_,s,h,λx M1 j v H1 l i1 L=>?_]
 replace j:=j.inv;obtain⟨a,rfl,j⟩:=j
 cases L;obtain⟨C',fs,I,j⟩:=j.inv;obtain⟨rfl,hl,j⟩:=j;obtain⟨J,y,O,G⟩:=l _ _ I;have q:y.lookup m=none:=by
  rcases G.lookup m with⟨_,z⟩|⟨d,v,z,_⟩
  .exact z
  simp_all
 exact#[a,J,y,rfl,O,q,de j.2 l (.cons rfl .nil) j.1 (u.go i1)<|(s.ux ux).go i1]
def iR(C:cp)(T:Sd)(EE:DX)(n:Nat)(t:eh):bb:=λU M Q=>t U M λc M1=>c.length+1=n/\∀a,M1 a=ca->calls T EE (.ref a::c) (M1.upd a<|.ins C []) (λd M2=>onN d (Q (.ref a) M2)) #[]
theorem LM(Mk':Mk X.K C f)(F:FnOk X.prog X.w X.K X.mg X.base CX k f fd ps (bG X.K n T))(hr:Room (k+1) X.A)(hg:Gl X x)(hm:X.mg x=ap (.ref C))(hb:Binds X.K fd ps [])(hx:bX CX X E)(ux:ve X.K B EE E)(ha:DA X B (e::es) t)(hdb:(x==("__debug__":Str))=false:=by decide)(he:cT (e::es) X.env=(cx,fx e X.env)::cT es X.env:=by rfl)(hpl:(ix pos<|starEach es X.env).any (·.1)=false:=by rfl):
  DE X B (.Call (.Name x p) (e::es) [] pos) (iR C T EE n t):=by
 refine aT (L_ Mk' F hr hg hm hb .nil hx ha hdb he hpl) ?_
 rintro Z H Q ⟨U,M,QQ,s,h,u⟩
 refine#[U,M,_,s,h,λds M1 h1 vs H1 rh1 i1 r1 a dx na ndx nex=>?_];rw[VD];have nx1:upd H1 dx (.own a) a=none:=by rw[aF (Vu nex)];exact na
 have f2:Frm M1 H1 (M1.upd a<|.ins C []) (upd (upd H1 dx<|.own a) a<|.ins C dx []):=(Frm.new ndx).trans (Frm.put<|.inl nx1);refine de (h1.2 a<|rh1.fresh na) ((rh1.new ndx).put (by rw[nx1];trivial) #[dx,[],upd_same,.nil]) (.cons rfl<|(r1.mono<|Imm.new ndx).mono<|Imm.new nx1) (by rw[Vh,<- r1.length];exact h1.1) (λd M2 h2 v H2 rh f r=>?_) ((s.ux ux).go<|i1.trans f2)
 cases d with
 |non=>exact#[r,u _ M2 h2 _ H2 rh ((i1.trans f2).trans f) rfl]
 |_=>exact(show False from h2).elim
end
section
variable{id:String}
abbrev y8:=D->List D->Mem->DK->Prop
inductive liftM(X:Cx)(r:y8)(x:V)(xs:List V)(H:Hp)(Q:VK):Prop
 |mk (d:D) (ds:List D) (M:Mem) (QQ:DK) (rh:RepH X.K H M) (rx:Rp X.K H d x) (rs:Rps X.K H ds xs) (h:r d ds M QQ) (u:Up X.K M H QQ Q):liftM X r x xs H Q
def j_(Ty:String)(r:y8)(to:bb)(t:eh):bb:=λU M Q=>to U M λx M1=>df M1 x=ap Ty/\t U M1 λc M2=>r x c M2 Q
theorem HC(l:RepH K H M)(r:Rp K H d v)(e:df M d=ap Ty)(h:Ty="list"\/Ty="str"\/Ty="int"\/Ty="dict"):tyV K Ty v H:=by
 cases d with
 |non=>cases e;trivial
 |bl b=>cases e;trivial
 |int i=>cases r;cases e;rfl
 |str x=>cases r;cases e;rfl
 |tup xs=>cases e;trivial
 |lst xs=>
  cases e;obtain⟨p,s,rfl,u,r⟩:=r;exact .inl #[rfl,s,u.sq]
 |ref a=>
  cases r;simp[df]at e
  split at e
  .rename_i q;cases e;obtain⟨j,c,m⟩:=l _ _ q;exact .inl #[rfl,j,SqL.of c]
  .rename_i q;cases e;obtain⟨j,c,m⟩:=l _ _ q;exact .inr (.inr<|.inl<|by simp_all)
  .rename_i q;cases e;obtain⟨j,c,m⟩:=l _ _ q;exact .inr (.inr<|.inl<|by simp_all)
  cases e
 |_=>cases e
theorem Tb(I:Ty="list"\/Ty="str"\/Ty="int"\/Ty="dict")(O:V' Ty)(l:Slot Ty name id)(q:Y' (.builtin id)=pure (.type "method_descriptor"))(J:xu X id (liftM X r))(L:DE X B o to)(R:DA X B (e::es) t)(j:iB o name X.env (fx o X.env)=fx o X.env:=by rfl)(hfew:((ix abT<|starEach (e::es) X.env).all (λx=>!x.1)&&(pt abT<|keywordEach [] X.env).all (λx=>x.1.isSome)
   && decide ((e::es).length+([]:List pa).length+(if ([]:List pa).isEmpty then 0 else 1)<30))=true:=by rfl)(hline:(abU.endLine==abT.line)=true:=by rfl)(hs:cT (e::es) X.env=(cx,fx e X.env)::cT es X.env:=by rfl)(hplain:(ix abT<|starEach es X.env).any (·.1)=false:=by rfl):
  DE X B (.Call (.Attribute o name abU) (e::es) [] abT) (j_ Ty r to t):=by
 refine aT (SZ O l q J L R j hfew hline hs hplain) ?_
 rintro Z H Q ⟨U,M,QQ,s,h,u⟩
 exact#[U,M,_,s,h,λx M1 y v H1 c i1 z=>#[HC c z y.1 I,U,M1,_,s.go c i1,y.2,λA M2 F S H2 m i2 G=>#[x,A,M2,QQ,m,z.mf c i2,G,F,u.go<|i1.trans i2]]]
theorem PY(z:Ty="list"\/Ty="str"\/Ty="int"\/Ty="dict")(G:V' Ty)(l:Slot Ty name id)(m:Y' (.builtin id)=pure (.type "method_descriptor"))(A:xu X id (liftM X r))(F:DE X B o to)(c:iB o name X.env (fx o X.env)=fx o X.env:=by rfl)(hline:(abU.endLine==abT.line)=true:=by rfl):DE X B (.Call (.Attribute o name abU) [] [] abT) (j_ Ty r to ag):=by
 refine aT (Oe G l m A F c hline) ?_
 rintro Z H Q ⟨U,M,QQ,s,h,u⟩
 exact#[U,M,_,s,h,λx M1 q v H1 j i1 y=>#[HC j y q.1 z,#[x,[],M1,QQ,j,y,.nil,q.2,u.go i1]]]
def bu:y8:=λx h M Q=>onR x λa=>one h λy=>mL (M a) λc=>c.length<sizeLine/\Q .non (M.upd a<|.lst (c++[y]))
theorem yQ:xu X "list.append" (liftM X bu):=by
 rintro abP s Z H x vs v us Q I rx rv ⟨d,ds,M,QQ,rh,r,rs,h,up⟩
 unfold bu at h
 replace h:=h.inv;obtain⟨a,rfl,h⟩:=h
 replace h:=h.inv;obtain⟨y,rfl,h⟩:=h
 cases r;obtain⟨w,rfl,rw'⟩:=fZ (ds:=[]) rs;obtain⟨xs,hM,h⟩:=h.inv;obtain⟨ws,h1,h2⟩:=rh _ _ hM;exact EM _ s Z H _ _ v us Q I rx rv #[a,ws,w,rfl,rfl,h1,by rw[<- h2.length];exact h.1,up _ _ h.2 _ _ (rh.put (by rw[h1];trivial) #[_,upd_same,(h2.append<|by trivial).mono<|Imm.upd<|by rw[h1];trivial]) (Frm.put<|.inr #[_,hM]) rfl]
def E8:y8:=λx c M Q=>onR x λa=>nilOr c (mL (M a) λxs=>so xs[xs.length-1]? λy=>Q y (M.upd a<|.lst xs.dropLast)) λd=>onI d λi=>mL (M a) λxs=>so (uR xs.length i) λk=>so xs[k]? λy=>Q y (M.upd a<|.lst<|xs.eraseIdx k)
theorem AL:xu X "list.pop" (liftM X E8):=by
 rintro abP s Z H x vs v us Q I rx rv ⟨d,ds,M,QQ,rh,r,rs,h,up⟩
 unfold E8 at h
 replace h:=h.inv;obtain⟨a,rfl,h⟩:=h
 replace h:=h.inv;rcases h with⟨rfl,h⟩|⟨w,rfl,h⟩
 .cases r
  cases rs;obtain⟨xs,hM,h⟩:=h.inv;obtain⟨y,ey,h⟩:=h.inv;obtain⟨ws,h1,h2⟩:=rh _ _ hM;obtain⟨w,hw,rw'⟩:=h2.get ey;have im:Imm H (upd H a<|.lst ws.dropLast):=Imm.upd (by rw[h1];trivial)
  exact Oz _ s Z H _ _ v us Q I rx rv #[a,ws,w,rfl,rfl,h1,by rw[<- h2.length];exact hw,up _ _ h _ _ (rh.put (by rw[h1];trivial) #[_,upd_same,h2.dropLast.mono im]) (Frm.put<|.inr #[_,hM])<|rw'.mono im]
 replace h:=h.inv;obtain⟨i,rfl,h⟩:=h
 cases r;obtain⟨w0,rfl,rw0⟩:=fZ (ds:=[]) rs;cases rw0;obtain⟨xs,hM,h⟩:=h.inv;obtain⟨k,ek,h⟩:=h.inv;obtain⟨y,ey,h⟩:=h.inv;obtain⟨ws,h1,h2⟩:=rh _ _ hM;obtain⟨w,hw,rw'⟩:=h2.get ey;obtain⟨j1,j2,j3,j4⟩:=sD ek;have hz:=(I.lstM h1).1;have hs:sizeLine=16777216:=rfl;have hl:=h2.length;have im:Imm H (upd H a<|.lst<|ws.eraseIdx k):=Imm.upd (by rw[h1];trivial)
 exact Fx _ s Z H _ _ v us Q I rx rv #[a,ws,i,k,w,rfl,rfl,h1,by lia,by lia,by rw[<- hl];exact j1,hw,up _ _ h _ _ (rh.put (by rw[h1];trivial) #[_,upd_same,(h2.eraseIdx k).mono im]) (Frm.put<|.inr #[_,hM])<|rw'.mono im]
def jR:y8:=λx h M Q=>onR x λa=>nil0 h (mL (M a) λc=>Q .non (M.upd a<|.lst c.reverse))
theorem vZ:xu X "list.reverse" (liftM X jR):=by
 rintro abP s Z H x vs v us Q I rx rv ⟨d,ds,M,QQ,rh,r,rs,h,up⟩
 unfold jR at h
 replace h:=h.inv;obtain⟨a,rfl,h⟩:=h
 replace h:=h.inv;obtain⟨rfl,h⟩:=h
 cases r;cases rs;obtain⟨xs,hM,h⟩:=h.inv;obtain⟨ws,h1,h2⟩:=rh _ _ hM;exact yV _ s Z H _ _ v us Q I rx rv #[a,ws,rfl,rfl,h1,up _ _ h _ _ (rh.put (by rw[h1];trivial) #[_,upd_same,h2.reverse.mono<|Imm.upd<|by rw[h1];trivial]) (Frm.put<|.inr #[_,hM]) rfl]
def ko:List D->Option (List Str)
 |[]=>ap []
 |.str x::ds=>match ko ds with
  |some xs=>ap (x::xs)
  |none=>ca
 |_=>ca
theorem w_:∀{ds:List D}{vs:List V}{xs:abY},Rps K H ds vs->ko ds=ap xs->vs=xs.map V.str
 |[],vs,xs,r,e=>by cases e;exact r
 |d::ds,vs,xs,r,e=>by
  obtain⟨v,l,rfl,a,b⟩:=r;cases d with
  |str c=>
   simp[ko]at e
   split at e
   .rename_i h j
    cases e;cases a;rw[w_ b j];rfl
   cases e
  |_=>cases e
def i_:y8:=λx l M Q=>onT x λh=>one l λm=>onS m λz=>so (ko h) λc=>c.length<=1000/\so (c.findIdx? λy=>decide (y=z)) λj=>Q (.int (j:Nat)) M
theorem yR:xu X "tuple.index" (liftM X i_):=by
 rintro u s Z H x vs v J Q I O W ⟨d,ds,M,QQ,S,r,R,h,Y⟩
 unfold i_ at h
 replace h:=h.inv;obtain⟨xs,rfl,h⟩:=h
 replace h:=h.inv;obtain⟨w9,rfl,h⟩:=h
 replace h:=h.inv;obtain⟨z,rfl,h⟩:=h
 obtain⟨p,ws,rfl,L,r⟩:=r;obtain⟨w,rfl,c⟩:=fZ (ds:=[]) R;cases c;obtain⟨l,G,h⟩:=h.inv;obtain⟨F,h⟩:=h;obtain⟨j,q,h⟩:=h.inv;have:=w_ r G;subst this;rw[Ys]at q;obtain⟨hj,e1,A⟩:=q;refine Dv _ s Z H _ _ v J Q I O W #[p,_,z,j,rfl,rfl,L,F,?_,λm y=>?_,Y _ M h _ H S Frm.refl rfl]
 .simp_all
 rw[UO _];simpa using (A m y)
def Jm(r:y8)(to:bb)(t:eh):bb:=λU M Q=>to U M λx M1=>onT x λc=>t U M1 λh M2=>r (.tup c) h M2 Q
theorem Sc(l:Slot "tuple" name id)(y:Y' (.builtin id)=pure (.type "method_descriptor"))(O:xu X id (liftM X r))(R:DE X B o to)(S:DA X B (e::es) t)(c:iB o name X.env (fx o X.env)=fx o X.env:=by rfl)(hfew:((ix abT<|starEach (e::es) X.env).all (λx=>!x.1)&&(pt abT<|keywordEach [] X.env).all (λx=>x.1.isSome)
   && decide ((e::es).length+([]:List pa).length+(if ([]:List pa).isEmpty then 0 else 1)<30))=true:=by rfl)(hline:(abU.endLine==abT.line)=true:=by rfl)(hs:cT (e::es) X.env=(cx,fx e X.env)::cT es X.env:=by rfl)(hplain:(ix abT<|starEach es X.env).any (·.1)=false:=by rfl):
  DE X B (.Call (.Attribute o name abU) (e::es) [] abT) (Jm r to t):=by
 refine aT (Ti l y O R S c hfew hline hs hplain) ?_
 rintro Z H Q ⟨U,M,QQ,s,h,u⟩
 refine#[U,M,_,s,h,λx M1 z v H1 j i1 F=>?_];cases x with
 |tup xs=>
  have m:=F;obtain⟨p,A,rfl,G,W⟩:=m;exact#[#[p,A,rfl,G],U,M1,_,s.go j i1,z,λI M2 J A H2 q i2 L=>#[_,I,M2,QQ,q,F.mf j i2,L,J,u.go<|i1.trans i2]]
 |_=>exact z.elim
def Ng:bb:=λ_ M Q=>∀p,M p=ca->Q (.ref p) (M.upd p<|.dT [])
theorem L0:DE X B (.Dict [] [] pos) Ng:=by
 refine aT HJ ?_
 rintro Z H Q ⟨U,M,QQ,s,h,u⟩ p hp
 exact u _ _ (h p<|s.rh.fresh hp) _ _ (s.rh.put (by rw[hp];trivial) #[[],upd_same,.nil]) (Frm.put<|.inl hp) rfl
def NR(ks:List aD)(ys:List D):List (aD×D):=(ks.zip ys).foldl (λa p=>eG a p.1 p.2) []
theorem xq:∀{ks:List aD}{ds:List D}{vs:List V}{a:List (aD×D)}{b:List (aD×V)},Rps K H ds vs->Rkv K H a b->
  Rkv K H ((ks.zip ds).foldl (λa p=>eG a p.1 p.2) a) ((ks.zip vs).foldl (λa p=>fD a p.1 p.2) b)
 |[],_,_,_,_,_,r=>r
 |_::_,[],_,_,_,h,r=>by cases h;exact r
 |k::ks,d::ds,_,_,_,h,r=>by
  obtain⟨v,vs,rfl,a,b⟩:=h;exact xq (ks:=ks) b (r.put k a)
def hW(t:eh):bb:=λU M Q=>t U M λq M1=>two q λj h=>onT j λm=>onT h λl=>so (eV m) λc=>c.length=l.length/\0<c.length/\c.length<=1000/\∀p,M1 p=ca->Q (.ref p) (M1.upd p<|.dK<|NR c l)
theorem xU(hc:X.calm=true)(hg:Gl X "zip")(hm:X.mg "zip"=ca)(hg2:Gl X "dict")(hm2:X.mg "dict"=ca)(ha:DA X B [a,b] ta)(hs:cT [a,b] X.env=[(cx,fx a X.env),(cx,fx b X.env)]:=by rfl)(hs2:cT [b] X.env=[(cx,fx b X.env)]:=by rfl)(hs3:cT [Zu (.Name "zip" p2) [a,b] [] pos2] X.env=[(cx,fx (.Call (.Name "zip" p2) [a,b] [] pos2) X.env)]:=by rfl):
  DE X B (.Call (.Name "dict" p) [.Call (.Name "zip" p2) [a,b] [] pos2] [] pos) (hW ta):=by
 refine aT (yH cx cx hc hg hm hg2 hm2 ha hs hs2 hs3) ?_
 rintro Z H Q ⟨U,M,QQ,s,h,u⟩
 refine#[U,M,_,s,h,λds M1 h1 vs H1 rh1 i1 r1=>?_]
 replace h1:=h1.inv;obtain⟨w10,w11,rfl,h1⟩:=h1
 replace h1:=h1.inv;obtain⟨_,rfl,h1⟩:=h1
 replace h1:=h1.inv;obtain⟨_,rfl,h1⟩:=h1
 obtain⟨v,w,rfl,rv,rw'⟩:=GH r1;obtain⟨l1,us,rfl,t1,ru⟩:=rv;obtain⟨l2,ws,rfl,t2,rw2⟩:=rw';obtain⟨ks,ek,h1⟩:=h1.inv;obtain⟨e1,e2,e3,h1⟩:=h1;have hk:=nj ru ek;subst hk;exact#[l1,l2,ks,ws,rfl,t1.sq,t2.sq,by rw[<- rw2.length];exact e1,e2,e3,λd hd=>u _ _ (h1 d<|rh1.fresh hd) _ _ (rh1.put (by rw[hd];trivial) #[_,upd_same,(xq rw2 .nil).mono<|Imm.new hd]) (i1.trans<|Frm.put<|.inl hd) rfl]
end
theorem L9(h:PS X st t)(k:∀e s,X.xe e s->E' e s):PS (X.wish E') st t:=λj s Z H D I q=>
 kc (h _ s Z H D I.unwish q) (λf l z=>by
  cases f with
  |ret u=>obtain⟨v,c,H',I,r,q⟩:=z;exact#[v,_,H',I.wish _,r,q]
  |_=>obtain⟨c,H',I,q⟩:=z;exact#[_,H',I.wish _,q]) k
def kK(C:cp)(EE:DX):au:=λ_ _ M=>EE C M
theorem Ik{jj}(X:ExcAt K C)(m:mg x=ap (.ref C))(ux:ve K B EE E)(q:Gl (eZ (qW P w) P w K mg base N abQ scope f cd A outer s0 H0 E) x)(o:(x==("__debug__":Str))=false:=by decide)(hs:cT [.Constant (.str c) jj abU] (eZ (qW P w) P w K mg base N abQ scope f cd A outer s0 H0 E).env=[(cx,fx (.Constant (.str c) jj abU) (eZ (qW P w) P w K mg base N abQ scope f cd A outer s0 H0 E).env)]:=by rfl):
  DS (eZ (qW P w) P w K mg base N abQ scope f cd A outer s0 H0 E) B (.Raise (ap<|.Call (.Name x j) [.Constant (.str c) jj abU] [] abT) ca pos) (kK C EE):=by
 have l:PS (eZ (qW P w) P w K mg base N _ _ f cd A outer s0 H0 E) (.Raise (ap<|.Call (.Name x j) _ [] abT) _ pos) _:=
  L9 (Fo X m q o hs) λe s h=>kc h (λ_ _ z=>#[C,z]) λ_ _ z=>#[C,z]
 refine bV l ?_
 rintro D Z H ⟨U,M,DD,s,h,u⟩
 exact ux C M h H s.rh s.i0
def OH(C:cp)(T:Sd)(n:Nat)(ta:eh)(ts:au):au:=λD U M=>ta U M λc M1=>c.length=n/\calls T (λC' M2=>C'=C/\ts D U M2) c M1 (λ_ M2=>D.nx U M2) #[]
theorem SR.mark(s:SR X B U M Z H):SR (X.marked e) B U M Z H:=#[s.i0,s.rh,s.rs]
theorem SR.unmark(s:SR (X.marked e) B U M Z H):SR X B U M Z H:=#[s.i0,s.rh,s.rs]
theorem UpD.mark{D:Ends}(u:UpD X B M H DD D):UpD (X.marked e) B M H DD D:=
 #[λU M q Z H' f s=>u.nx U M q Z H' f s.unmark,u.rt,λU M q Z H' f s=>u.bk U M q Z H' f s.unmark,λU M q Z H' f s=>u.ct U M q Z H' f s.unmark]
theorem LF(F:FnOk P w K mg base (qW P w) k f fd ps sp):
  FnOk P w K mg base (EY P w C) k f fd ps (λvs H Q E=>sp vs H Q λCv a H'=>Cv=.ref C/\E Cv a H'):=
 #[λvs H Q E=>F.len _ _ _ _,λA c s H l Y vs Q E S G hb hv R=>wb (F.run A _ s H _ Y vs Q _ S G hb hv R) λr s' h=>by
  cases r with
  |ok fl=>cases fl<;>exact h
  |error e=>
   obtain⟨C',z,H',B,v,O,y,J,L,q,o,u,W,I,j⟩:=h;have m:C'=C:=by injection I
   subst m;exact#[z,H',B,v,O,y,J,L,q,o,u,W,j]]
theorem xZ(I:X.stack=X.env::X.outer)(J:X.env.frame=ap X.env.locals)(F:FnOk X.prog X.w X.K X.mg X.base (qW X.prog X.w) k f fd ps (bG X.K n T))(hr:Room k X.A)(hg:Gl X x)(hm:X.mg x=ap (.ref f))(hk:V8 X.K (.ref f)=true)(hb:Binds X.K fd ps [])(ha:DA X.nox B (e::es) ta)(EX:ExcAt X.K C)(R:Gl X y)(S:X.mg y=ap (.ref C))(W:∀z:cp,B3 (X.marked<|.ref z) B (j::c) O)(Y:(x==("__debug__":Str))=false:=by decide)(hdC:(y==("__debug__":Str))=false:=by decide)(he:cT (e::es) X.env=(cx,fx e X.env)::cT es X.env:=by rfl)(hpl:(ix L<|starEach es X.env).any (·.1)=false:=by rfl)(hsw:py (.Call (.Name x p) (e::es) [] L) ca ep.line X.env=pure false:=by rfl):
  DS X B (.Try [.Expr (.Call (.Name x p) (e::es) [] L) ep] [.ExceptHandler (ap<|.Name y np) ca (j::c) q] [] [] pos) (OH C T n ta O):=by
 have m:∀z:cp,CG _ _ (liftS X B O):=λz=>oX (W z) (by rintro D Z H ⟨U,M,DD,s,h,u⟩;exact#[U,M,DD,s.mark,h,u.mark])
 refine bV (yU I J (LF F) hr hg hm hk hb .nil ha EX R S m Y hdC he hpl hsw) ?_
 rintro D Z H ⟨U,M,DD,s,h,up⟩
 refine#[U,M,_,#[s.i0,s.rh,s.rs],h,λds M1 h1 vs H1 G i1 r1=>?_]
 try dsimp only
 rw[VD];refine de h1.2 G r1 (by rw[<- r1.length];exact h1.1) (λd M2 o v H2 l i2 r2=>?_) λC' M2 o H2 l i2=>?_
 .exact up.nx _ _ o Z H2 (i1.trans i2) (s.go l<|i1.trans i2)
 obtain⟨rfl,o⟩:=o;exact#[rfl,U,M2,DD,s.go l (i1.trans i2),o,up.go<|i1.trans i2]
end _3
namespace _2
open PySem PySem.Spec PyProof.Rows
theorem gP(h:(K' scope env).names.lookup x=ap k):∃c,(x,c)∈scope.names/\(k=c\/(c=.free/\k=.cell)):=by
 obtain⟨⟨n,b⟩,e,f⟩:=UZ.mp (VL h)
 by_cases g:(b==NameKind.free&&env.scope.kind==.function&&env.kindOf n==ap .cell)=true
 .have a:(n,Yb)=(x,k):=by rw[<- f];show _=(if _ then _ else _);rw[if_pos g]
  cases a;exact#[b,e,by lia]
 have a:(n,b)=(x,k):=by rw[<- f];show _=(if _ then _ else _);rw[if_neg g]
 cases a;exact#[_,e,.inl rfl]
theorem lc:∀{fs:abY}{a:ab0},fs.length=a.length->x∈fs->∃c,(fs.zip a).lookup x=ap c
 |[],_,_,h=>by cases h
 |_::_,[],h,_=>by simp at h
 |y::fs,c::a,hl,h=>by
  rw[aad,WJ];cases e:x==y with
  |true=>simp_all
  |false=>
   rcases UU.mp h with z|z
   .simp_all
   exact lc (by simp_all) z
theorem memZ{α:Type}{C:α->Prop}:∀p∈([]:List α),C p:=λ_ h=>by cases h
theorem memC{α:Type}{C:α->Prop}{a:α}{l:List α}(c:C a)(e:∀p∈l,C p):∀p∈a::l,C p:=λp b=>by
 rcases UU.mp b with rfl|z
 .exact c
 simp_all
end _2
namespace _3
open PySem _2
theorem dnm(i:Nat)(a:X.N[i]?=ap x:=by rfl)(hv:RH X.env.scope x:=by first|exact Or.inl rfl|exact Or.inr (Or.inl rfl)|exact Or.inr (Or.inr rfl))(hd:(x==("__debug__":Str))=false:=by decide)(hcd:(x==("__classdict__":Str))=false:=by decide):DE X B (.Name x pos) (ac i):=Pa a hv hd hcd
def lG:DX:=λ_ _=>False
theorem uxN:ve K B lG E:=λ_ _ z=>z.elim
theorem nS:ff "list"=ap (.type "list"):=by rfl
theorem qp:ff "tuple"=ap (.type "tuple"):=by rfl
theorem Ll:ff "all"=ap (.builtin "all"):=by rfl
theorem pF:ff "isinstance"=ap (.builtin "isinstance"):=by rfl
theorem Gg:ff "bool"=ap (.type "bool"):=by rfl
theorem BW:ff "int"=ap (.type "int"):=by rfl
theorem Mp:ff "str"=ap (.type "str"):=by rfl
theorem vt:ff "dict"=ap (.type "dict"):=by rfl
theorem Lm:ff "min"=ap (.builtin "min"):=by rfl
theorem JW:ff "max"=ap (.builtin "max"):=by rfl
theorem KU:ff "len"=ap (.builtin "len"):=by rfl
theorem R_(b:Gl X x)(e:X.mg x=ca)(c:ff x=ap (.type T))(a:x≠"__name__":=by decide)(hd:(x==("__debug__":Str))=false:=by decide):DE X B (.Name x pos) (dC<|.ty T):=
 GN (JP (v:=.ty T) b e c rfl a hd) λ_=>rfl
def vO(t:bb):bb:=λU M Q=>t U M λx M1=>onI x λi=>Q (.int (-i)) M1
theorem Pp(e:DE X B a b):DE X B (.UnaryOp .USub a pos) (vO b):=by
 refine aT (U1 Rz e) ?_
 rintro Z H Q ⟨U,M,QQ,s,h,u⟩
 refine#[U,M,_,s,h,λd M' q v H' c i r=>?_];cases d with
 |int j=>exact#[j,r,u _ M' q _ H' c i rfl]
 |_=>exact q.elim
def frzs:List D->Mem->(List D->Mem->Prop)->Prop
 |[],M,Q=>Q [] M
 |d::ds,M,Q=>onRe d (λa=>mLe (M a) (λc=>frzs ds (M.del a) λb M'=>Q (.lst c::b) M') (frzs ds M λb M'=>Q (d::b) M')) (frzs ds M λb M'=>Q (d::b) M')
theorem jE:∀{ds:List D}{vs:List V}{M:Mem}{H:Hp}{Q:List D->Mem->Prop},Inv X abP Z H s->RepH X.K H M->Rps X.K H ds vs->frzs ds M Q->
  ∃H' es M',Inv X abP Z H' s/\RepH X.K H' M'/\Frm M H M' H'/\Rps X.K H' es vs/\Q es M'
 |[],vs,M,H,Q,I,rh,r,h=>#[H,[],M,I,rh,Frm.refl,r,h]
 |d::ds,vs,M,H,Q,I,rh,r,h=>by
  obtain⟨v,vs',rfl,a,b⟩:=r;unfold frzs at h
  replace h:=h.inv;rcases h with⟨a',rfl,h⟩|h
  .cases a
   replace h:=h.inv;rcases h with⟨xs,e,h⟩|h
   .obtain⟨ws,h1,h2⟩:=rh _ _ e
    obtain⟨o,I2⟩:=Inv.freeze I h1;have im:Imm H (upd H a'<|.frz o<|.lst ws):=Imm.upd (by rw[h1];trivial)
    obtain⟨H',es,M',I',rh',f,r',q⟩:=jE I2 (rh.freeze h1) (b.mono im) h;refine#[H',_,M',I',rh',(Frm.del #[_,e]).trans f,.cons ?_ r',q];have z:Rp _ _ (.lst xs) _:=#[a',ws,rfl,#[o,upd_same],h2.mono im];exact z.mf (rh.freeze h1) f
   obtain⟨H',es,M',I',rh',f,r',q⟩:=jE I rh b h;exact#[H',_,M',I',rh',f,.cons (d:=.ref a') rfl r',q]
  obtain⟨H',es,M',I',rh',f,r',q⟩:=jE I rh b h;exact#[H',_,M',I',rh',f,.cons (a.mf rh f) r',q]
def frzT(d:D)(M:Mem)(Q:DK):Prop:=onTe d (λb=>frzs b M λa M'=>Q (.tup a) M') (Q d M)
def qY(t:bb):bb:=λU M Q=>t U M λd M'=>frzT d M' Q
theorem Ks(h:DE X B e te):DE X B e (qY te):=by
 rintro g s Z H Q I ⟨U,M,QQ,o,n,u⟩
 refine bv (h _ s Z H (λv H'=>∃d M',RepH _ H' M'/\Frm M H M' H'/\Rp _ H' d v/\frzT d M' QQ) I #[U,M,_,o,n,λd M' q v H' a i r=>#[d,M',a,i,r,q]]) ?_
 rintro w z ⟨v,H',I',c,d,M',a,i,r,q⟩
 unfold frzT at q
 replace q:=q.inv;rcases q with⟨A,rfl,q⟩|q
 .obtain⟨p,l,rfl,j,r⟩:=r
  obtain⟨H2,y,M2,I2,b,f,m,x⟩:=jE I' a r q;exact#[_,H2,I2,c,u _ _ x _ H2 b (i.trans f) #[p,l,rfl,j.mono (f.imm a),m]]
 exact#[v,H',I',c,u _ _ q v H' a i r]
theorem QO(F:FnOk P w K i a (qW P w) k f fd g (bG K n T)):
  FnOk P w K i a CX0 k f fd g (λvs H Q _=>bG K n T vs H Q E0):=
 #[λvs H Q E h=>F.len _ _ _ _ h,λA b s H c p vs Q E o j u q m=>wb (F.run A b s H c p vs Q E0 o j u q m) λr z h=>by
  cases r with
  |ok fl=>cases fl<;>exact h
  |error e=>
   obtain⟨C',I,H',B,C,M,G,J,L,x,v,y,N,l⟩:=h;exact(show False from l).elim]
theorem KZ{c:abX}(g:FG H)(i:SqL K H a (c.map V.int))(h:T [.ml (c.map D.int)] (λ_=>ca) (λd _=>d=.bl true) lG)(k:∀H',Q (.bl true) H'):bG K 1 T [.ref a] H Q E0:=by
 refine#[rfl,[.ml _],_,_,_,λb o e=>(by cases e),.cons #[a,_,rfl,?_,xp rfl] .nil,h,λd M' q v H' j f r=>?_,λ_ _ z=>z.elim]
 .rcases i with (z|z)|z
  .rcases g a with e|⟨o,xs,e⟩
   .simp_all
   simp_all
  .exact .inl z
  exact .inr z
 subst q;cases r;exact k H'
theorem lA(X:K.In h)(X':K.In h')(e:W.nsOkIn K N=true):h'.nsMap N=h.nsMap N:=by
 unfold W.nsOkIn at e
 split at e
 .rename_i a
  unfold Heap.nsMap;rw[X _ _ a,X' _ _ a]
 cases e
theorem j8(X:K.In h)(q:ZY K C [.type "ValueError",.type "Exception",.type "BaseException",.type "object"] "ValueError.__new__"=true):ExcAt K C:=by
 unfold ZY at q
 split at q
 .rename_i y x p w
  split at q
  .rename_i C' A j o u s n v i m
   simp only[VM,beq_iff_eq,Bool.not_eq_true']at q;obtain⟨⟨⟨⟨⟨rfl,rfl⟩,b⟩,g⟩,a⟩,c⟩:=q;obtain⟨nm,bs,B,r,H,z,G,sub,E,e,del⟩:=x;dsimp only at i b a c;subst i b;have f:p=(Tw [j,o,u,s,ap (.builtin "ValueError.__new__"),v]):=by
    obtain⟨l⟩:=p;simp only at m;rw[m]
   subst f;refine#[#[nm,H,r,bs,A,_,z,G,sub,E,e,y,j,o,u,s,v,"ValueError.__new__","ValueError.__init__","ValueError",h.nsMap r,λI X'=>#[X' _ _ w,?_,W.tail_of_in X' g],W.nsMap_none_of_in X a c,PySem.F.excBase_ValueError,by decide,(W.tail_of_in X g).hasType<|by decide]]
   rw[<- lA X X' a];exact .of_isNs (W.isNs_of_in X' a)
  .cases q
 .cases q
end _3
namespace _2
open PySem
theorem Kb(g:env.blockKind=.function)(j:env.scope.names.lookup x=ap .local)(i:f.line=pos.line)
  (h:(scope.names.any λ(n,k)=>n==x&&(k==.local||k==.cell))=cx):py (.ListComp b a scope pos) (ap<|.Name x f) line env=pure true:=by
 have e:(Expr.ListComp b a scope pos).pos=pos:=rfl;have c:env.kindOf x=ap .local:=j;unfold py
 try dsimp only
 rw[g,c,e,i,h];simp
end _2
namespace _3
open PySem _2
noncomputable def Hk:fv->Bool
 |.Starred ..=>cx
 |_=>true
theorem DB(h:Hk e=true):cT (e::es) env=(cx,fx e env)::cT es env:=by
 cases e<;>first|rfl|trivial
theorem da_c(a:DE X B e te)(c:DA X B es t)(b:Hk e=true:=by rfl):DA X B (e::es) (aa te t):=JN a c (DB b)
def El:oz:=λc M Q=>one c λa=>onB a λb=>Q (.int (if b=true then 1 else 0)) M
theorem DV:bw X (.type "int") (liftC X El):=by
 rintro a s Z H l m Q I r ⟨ds,M,QQ,e,j,h,g⟩
 unfold El at h
 replace h:=h.inv;obtain⟨i,rfl,h⟩:=h
 replace h:=h.inv;obtain⟨b,rfl,h⟩:=h
 obtain⟨v,rfl,f⟩:=fZ (ds:=[]) j;cases f;obtain⟨u,rfl,c⟩:=hZ r;cases c;exact call_int_bool #[.int _,H,I.tok _,#[_,rfl],g _ M h _ H e Frm.refl rfl]
def E3(n:Nat)(t:pN):ki:=λd U M Q=>Ql d (λb=>b.length=n/\t b U M Q) λa=>mL (M a) λb=>b.length=n/\t b U M Q
theorem Ru(y:X.calm=true)(h:SK X B es t)(G:(lW es X.env).length=n:=by rfl)(hst:(lW es X.env).findIdx? (·.1)=none:=by rfl):DG X B (.Tuple es k pos) (E3 n t):=by
 rintro x s Z H v u Q I r ⟨d,U,M,QQ,m,q,hd,w⟩
 cases d with
 |lst j=>
  obtain⟨p,l,rfl,E,g⟩:=q;obtain⟨C,hd⟩:=hd;cases r;obtain⟨a,f,pl,A⟩:=I.list E.sq;have c:(lW es X.env).length=a.toArray.size:=by have:=f.length;have:=g.length;simp_all
  refine ay (XV ?_);unfold unpack;rw[c,hst];refine ay (kr (W.kun_itemsOf (I.ok.hd y) pl.isList λF i=>?_));have I1:Inv X _ Z H _:=I.kept (t':=s.toks) λb o e=>i b o (Vg<|UQ e) e;exact h _ _ Z H l _ Q I1 (by assumption) #[j,U,M,QQ,m,g,hd,w]
 |ref p=>
  cases q
  replace hd:mL _ _:=hd
  obtain⟨j,e,hd⟩:=hd.inv;obtain⟨l,z,g⟩:=m.rh _ _ e;obtain⟨C,hd⟩:=hd;cases r;obtain⟨a,f,pl,A⟩:=I.list (SqL.of z);have c:(lW es X.env).length=a.toArray.size:=by have:=f.length;have:=g.length;simp_all
  refine ay (XV ?_);unfold unpack;rw[c,hst];refine ay (kr (W.kun_itemsOf (I.ok.hd y) pl.isList λF i=>?_));have I1:Inv X _ Z H _:=I.kept (t':=s.toks) λb o e=>i b o (Vg<|UQ e) e;exact h _ _ Z H l _ Q I1 (by assumption) #[j,U,M,QQ,m,g,hd,w]
 |_=>trivial
mutual
noncomputable def gj:D->PyData
 |.non=>.none
 |.bl b=>.bool b
 |.int i=>.int i
 |.str x=>.str x
 |.tup xs=>.tuple (hV xs)
 |.lst xs=>.list (hV xs)
 |_=>.none
noncomputable def hV:List D->List PyData
 |[]=>[]
 |x::xs=>gj x::hV xs
end
mutual
theorem xR:∀d:D,(gj d).hasDict=cx
 |.non=>by simp only[gj,VY]
 |.bl _=>by simp only[gj,VY]
 |.int _=>by simp only[gj,VY]
 |.str _=>by simp only[gj,VY]
 |.tup xs=>by simp only[gj,VY];exact sy xs
 |.lst xs=>by simp only[gj,VY];exact sy xs
 |.ty _=>by simp only[gj,VY]
 |.ref _=>by simp only[gj,VY]
 |.mt _=>by simp only[gj,VY]
 |.ml _=>by simp only[gj,VY]
 |.fd _ _=>by simp only[gj,VY]
theorem sy:∀xs:List D,Yn (hV xs)=cx
 |[]=>by simp only[hV,Yn]
 |x::xs=>by simp only[hV,Yn,xR x,sy xs,Bool.or_self]
end
mutual
theorem xj:∀(n:Nat)(d:D),bz n d=true->(gj d).depth<=n
 |_,.non,_=>by simp[gj,Xn]
 |_,.bl _,_=>by simp[gj,Xn]
 |_,.int _,_=>by simp[gj,Xn]
 |_,.str _,_=>by simp[gj,Xn]
 |n+1,.tup xs,f=>by have:=ke n xs f;simp only[gj,Xn];lia
 |n+1,.lst xs,f=>by have:=ke n xs f;simp only[gj,Xn];lia
 |0,.tup _,f=>by simp[bz]at f
 |0,.lst _,f=>by simp[bz]at f
 |_,.ty _,f=>by simp[bz]at f
 |_,.ref _,f=>by simp[bz]at f
 |_,.mt _,f=>by simp[bz]at f
 |_,.ml _,f=>by simp[bz]at f
 |_,.fd _ _,f=>by simp[bz]at f
theorem ke:∀(n:Nat)(xs:List D),fits n xs=true->YF (hV xs)<=n
 |_,[],_=>by simp[hV,YF]
 |n,x::xs,f=>by
  rw[fits,VM]at f;have:=xj n x f.1;have:=ke n xs f.2;simp only[hV,YF];lia
end
mutual
theorem vk{h:g3}:∀(d:D)(u:ax),Hr h d u->∃as,Reads h u (gj d) as
 |.non,u,q=>by cases q;exact#[_,.none]
 |.bl _,u,q=>by cases q;exact#[_,.bool _]
 |.int _,u,q=>by obtain⟨t,rfl⟩:=q;exact#[_,.int _ _]
 |.str _,u,q=>by obtain⟨t,rfl⟩:=q;exact#[_,.str _ _]
 |.tup xs,u,q=>by
  obtain⟨p,a,rfl,⟨o,b,c,n,f⟩,r⟩:=q;obtain⟨as,e⟩:=kb xs a r;exact#[_,.tuple b c f e]
 |.lst xs,u,q=>by
  obtain⟨p,a,rfl,⟨o,b,c,n,f⟩,r⟩:=q;obtain⟨as,e⟩:=kb xs a r;exact#[_,.list b c f e]
 |.ty _,_,q=>q.elim
 |.ref _,_,q=>q.elim
 |.mt _,_,q=>q.elim
 |.ml _,_,q=>q.elim
 |.fd _ _,_,q=>q.elim
theorem kb{h:g3}:∀(xs:List D)(us:abZ),Hrs h xs us->∃as,ReadsAll h us (hV xs) as
 |[],_,q=>by cases q;exact#[_,.nil]
 |x::xs,_,q=>by
  obtain⟨u,r,rfl,a,b⟩:=q;obtain⟨g,e⟩:=vk x u a;obtain⟨f,c⟩:=kb xs r b;exact#[_,.cons e c]
end
theorem Hb:ff "repr"=ap (.builtin "repr"):=by rfl
end _3
namespace _S
open PySem
structure Ord(K:Type) where
 lt:K->K->Bool
 anti:∀x y,lt x y=cx->lt y x=cx->x=y
 tr:∀x y z,lt y x=cx->lt z y=cx->lt z x=cx
 asym:∀x y,lt x y=true->lt y x=cx
section
variable{K:Type}[DecidableEq K](o:Ord K)
abbrev Ni(l:List K):Prop:=l.Pairwise λa b=>o.lt b a=cx
noncomputable def ins(x:K):List K->List K
 |[]=>[x]
 |y::r=>if o.lt y x=true then y::ins x r else x::y::r
noncomputable def PZ:List K->List K
 |[]=>[]
 |x::r=>ins o x (PZ r)
theorem o6(x:K):∀l:List K,(ins o x l).Perm (x::l)
 |[]=>Z6 _
 |y::r=>by
  unfold ins
  by_cases h:o.lt y x=true
  .rw[if_pos h];exact(Z7 y<|o6 x r).trans (List.Perm.swap ..)
  simp_all
theorem nH:∀l:List K,(PZ o l).Perm l
 |[]=>Z6 _
 |x::r=>(o6 o x _).trans (Z7 x<|nH r)
theorem CL(x:K):∀l:List K,Ni o l->Ni o (ins o x l)
 |[],_=>by simp[ins]
 |y::r,h=>by
  unfold ins;have e:=WX.mp h
  by_cases c:o.lt y x=true
  .rw[if_pos c]
   refine WX.mpr #[λz a=>?_,CL x r e.2];rcases UU.mp ((o6 o x r).mem_iff.mp a) with rfl|q
   .exact o.asym _ _ c
   simp_all
  rw[if_neg c];have b:o.lt y x=false:=by simpa using c
  refine WX.mpr #[λz a=>?_,h];rcases UU.mp a with rfl|q
  .exact b
  exact o.tr _ _ _ b (e.1 z q)
theorem Ax:∀l:List K,Ni o (PZ o l)
 |[]=>Y5
 |x::r=>CL o x _ (Ax r)
theorem Jb:∀(a b:List K),Ni o a->Ni o b->a.Perm b->a=b
 |[],b,_,_,p=>by simp_all
 |x::a,b,ha,hb,p=>by
  cases b with
  |nil=>simp_all
  |cons y b=>
   have c:=WX.mp ha;have f:=WX.mp hb;have e:x=y:=by
    rcases UU.mp (p.mem_iff.mp<|Vp ..) with e|hx
    .exact e
    rcases UU.mp (p.symm.mem_iff.mp<|Vp ..) with e|hy
    .exact e.symm
    exact o.anti _ _ (f.1 x hx) (c.1 y hy)
   subst e;rw[Jb a b c.2 f.2 (by simp_all)]
theorem Gv{a l:List K}(b:Ni o a)(p:a.Perm l):a=PZ o l:=Jb o _ _ b (Ax o l) (p.trans (nH o l).symm)
end
end _S
namespace _3
open PySem _2 _S
theorem xP:ff "sorted"=ap (.builtin "sorted"):=by rfl
end _3
namespace _S
open PySem
noncomputable def y9:Ord Int where
 lt:=λx y=>decide (x<y)
 anti:=λx y a b=>by simp at a b;lia
 tr:=λx y z a b=>by simp at a b ⊢;lia
 asym:=λx y h=>by simp at h ⊢;lia
theorem wH(h:l.Pairwise (·<=·)):Ni y9 l:=h.imp λ{a b} z=>by show decide _=cx;simp;lia
end _S
namespace _3
open PySem _2 _S
def dz:List D->Option (List Int)
 |[]=>ap []
 |.int i::ds=>match dz ds with
  |some is=>ap (i::is)
  |none=>ca
 |_=>ca
theorem pB:∀a:List Int,dz (a.map D.int)=ap a
 |[]=>rfl
 |x::a=>by rw[UR,dz,pB a]
theorem jF:∀{ds:List D}{vs:List V}{xs:abX},Rps K H ds vs->dz ds=ap xs->vs=xs.map V.int
 |[],vs,xs,r,e=>by cases e;exact r
 |d::ds,vs,xs,r,e=>by
  obtain⟨v,h,rfl,a,b⟩:=r;cases d with
  |int c=>
   simp[dz]at e
   split at e
   .rename_i f g
    cases e;cases a;rw[jF b g];rfl
   cases e
  |_=>trivial
theorem FD:∀{a:abX}{us:abZ},Vals (a.map V.int) us->YR us a:=by
 intro a
 induction a with
 |nil=>intro us h;cases h;exact .nil
 |cons x a ih=>intro us h;cases h with|cons r t=>obtain⟨u,rfl⟩:=r;exact .cons _ _ (ih t)
theorem G1:∀{a:abX}{us:abZ},YR us a->Vals (a.map V.int) us:=by
 intro a us h
 induction h with
 |nil=>exact .nil
 |cons x t _ ih=>exact .cons #[t,rfl] ih
theorem vH:∀(a:abX),Rps K H (a.map D.int) (a.map V.int)
 |[]=>rfl
 |_::a=>#[_,_,rfl,rfl,vH a]
end _3
namespace _3
open PySem _2 _S
theorem Em:ff "range"=ap (.type "range"):=by rfl
def u_(t:eh):bb:=λU M Q=>t U M λb M1=>one b λa=>onI a λj=>(-(2 ^ 62)<=j/\j<=1000)/\∀p,M1 p=ca->Q (.ref p) (M1.upd p<|.lst<|cG 0 j.toNat)
noncomputable def yD(n:Nat):List V:=(Vc n).map λ(i:Nat)=>V.int (0+(i:Int))
theorem Ld:Rps K H (cG 0 n) (yD n):=by
 unfold cG yD;generalize Vc n=l
 induction l with
 |nil=>rfl
 |cons i l ih=>exact#[_,_,rfl,rfl,ih]
theorem G9(h:ItemsOf (λi v=>∃t,v=.int (0+i*1) t) abS n):Vals (yD n) abS.toList:=by
 obtain⟨h1,h2⟩:=h;have key:∀(l:List _)(k m:Nat),l.length=m->(∀(j:Nat)(v:ax),l[j]?=ap v->∃t,v=.int (0+(k+j)) t)->Vals ((W0 k m).map λ(i:Nat)=>V.int (0+i)) l:=by
  intro l
  induction l with
  |nil=>intro k m e _;subst e;exact .nil
  |cons x l ih=>
   intro k m e h;subst e;refine .cons ?_ (ih _ _ rfl λj v q=>?_)
   .obtain⟨t,rfl⟩:=h 0 x (by simp)
    exact#[t,rfl]
   obtain⟨t,e⟩:=h (j+1) v (by simpa using q)
   exact#[t,by rw[e];congr 2;lia]
 unfold yD;rw[WH];exact(key _ 0 n (by trivial) λj v q=>by
  simp_all)
def Ga(t:TA):TE:=λZ H Q=>t Z H λa H1=>∃j:Int,a=[.int j]/\(-(2 ^ 62)<=j/\j<=1000)/\∀p,H1 p=ca->Q (.ref p) (upd H1 p<|.lst<|yD j.toNat)
theorem yu(S:X.calm=true)(O:Gl X "range")(N:X.mg "range"=ca)(m:Gl X "list")(r:X.mg "list"=ca)(P:PA X [e] t)
  (R:cT [e] X.env=[(cx,fx e X.env)]:=by rfl) (hs3:cT [Zu (.Name "range" v) [e] [] a] X.env=[(cx,fx (.Call (.Name "range" v) [e] [] a) X.env)]:=by rfl):
  PE X (.Call (.Name "list" p) [.Call (.Name "range" v) [e] [] a] [] pos) (Ga t):=by
 intro x s Z H Q I h;refine mm (dy I m r nS<|Vt ?_ hs3 rfl);show eg _ _ (spliced ((cx,_)::ix _ [])) _ _ s;refine Wq ?_;refine mm (dy I O N Em<|Vt (bv (P _ _ s Z H _ I h) λW c A=>?_) R rfl);obtain⟨U,H1,I1,J,F⟩:=A;obtain⟨j,rfl,⟨K,T⟩,q⟩:=F;obtain⟨u,rfl,y⟩:=hZ J;obtain⟨t',rfl⟩:=y;refine call_range_1 ?_;refine W4 ?_;have C:=I1.ok.hd S;refine call_list_range (n:=j.toNat) C (IsRange.new ..) (small_one (by decide) (by decide) K<|by lia) (by rw[rangeSize_one];split<;>lia) (by lia) λL M f w G E g=>?_
 have i:(c.heap.push { cls:=.type "range",data:=.fields (Tw [.int 0 c.toks,.int j t',.int 1 (c.toks+1)]) }).objs.size=c.heap.objs.size+1:=VH ..;have l:L.get? (c.heap.objs.size+1)=ap { cls:=.type "list",dict:=ca,data:=.seq f w,slots:=(Tw []) }:=by rw[<- i];exact E
 refine#[.ref (c.heap.objs.size+1),_,I1.laid (t':=M) (o:=.lst (yD j.toNat)) (λb o z=>G b o (UN _ z)) (XR _) (#[?_,f.toList,w,G9 g,by rw[Array.toArray_toList];exact l]),?_,q _<|I1.hok.fresh<|XR _]
 .simp only[yD,UM,Yv]
  exact Vb (by lia:j.toNat<=1000) (by decide)
 .show Vn _=Vn _
  rw[<- i]
theorem xz(hc:X.calm=true)(hg:Gl X "range")(hm:X.mg "range"=ca)(hg2:Gl X "list")(hm2:X.mg "list"=ca)(ha:DA X B [e] t)
  (hs:cT [e] X.env=[(cx,fx e X.env)]:=by rfl) (hs3:cT [Zu (.Name "range" p2) [e] [] pos2] X.env=[(cx,fx (.Call (.Name "range" p2) [e] [] pos2) X.env)]:=by rfl):
  DE X B (.Call (.Name "list" p) [.Call (.Name "range" p2) [e] [] pos2] [] pos) (u_ t):=by
 refine aT (yu hc hg hm hg2 hm2 ha hs hs3) ?_
 rintro Z H Q ⟨U,M,QQ,s,h,u⟩
 refine#[U,M,_,s,h,λds M1 h1 vs H1 rh1 i1 r1=>?_]
 replace h1:=h1.inv;obtain⟨_,rfl,h1⟩:=h1
 replace h1:=h1.inv;obtain⟨_,rfl,h1⟩:=h1
 obtain⟨v,rfl,rv⟩:=fZ (ds:=[]) r1;cases rv;exact#[_,rfl,h1.1,λd hd=>u _ _ (h1.2 d<|rh1.fresh hd) _ _ (rh1.put (by rw[hd];trivial) #[_,upd_same,Ld]) (i1.trans<|Frm.put<|.inl hd) rfl]
end _3
namespace _3
open PySem _2
theorem QZ{bs:abX}(e:Vals (bs.map V.int) abV){i:Nat}(j:abV.toArray[i]?=ap v):∃c t,bs[i]?=ap c/\v=.int c t:=by
 have a:abV[i]?=ap v:=by simpa using j
 have f:=e.length;rw[UM]at f;have g:i<bs.length:=by
  have:=(Vx.mp a).1;lia
 obtain⟨l,b,h⟩:=e.get (by rw[UT,UO g];rfl)
 rw[a]at b;cases b;obtain⟨t,rfl⟩:=h;exact#[_,t,by simp_all,rfl]
theorem h8(bs:abX):∀n,n<=bs.length->preSum (λi=>bs.getD i 0) n=(bs.take n).sum
 |0,_=>by simp[preSum]
 |n+1,h=>by
  rw[preSum,h8 bs n (by lia),Yt _,Xy,UO (by lia),YS,List.sum_singleton]
  rfl
theorem qA:∀l:List Int,(∀x∈l,-b<=x/\x<=b)->-(l.length*b)<=l.sum/\l.sum<=l.length*b
 |[],_=>by simp
 |x::l,h=>by
  have a:=h x (by simp_all)
  have f:=qA l λy c=>h y (by simp_all)
  have e:((x::l).length)*b=b+l.length*b:=by
   rw[Vh];push_cast;rw[Z9];lia
  rw[V5];lia
def BJ:oz:=λc M Q=>one c λd=>so (g4 M d) λb=>so (dz b) λa=>(a.length<=1000/\∀x∈a,-1000000000000000<=x/\x<=1000000000000000)/\Q (.int a.sum) M
theorem Ex(R:X.calm=true):bw X (.builtin "sum") (liftC X BJ):=by
 rintro z s Z H Y us Q I r ⟨ds,M,QQ,n,F,h,N⟩
 unfold BJ at h
 replace h:=h.inv;obtain⟨_,rfl,h⟩:=h
 obtain⟨v,rfl,L⟩:=fZ (ds:=[]) F;obtain⟨ys,e,h⟩:=h.inv;obtain⟨q,vs,rfl,P,E⟩:=iI n L e;obtain⟨a,J,h⟩:=h.inv;obtain⟨⟨hl,y⟩,h⟩:=h;have:=jF E J;subst this;obtain⟨u,rfl,K⟩:=hZ r;cases K;obtain⟨g,w,p,W⟩:=I.list (.inl P);have m:=w.length;have f:q<s.heap.objs.size:=by obtain⟨o,e,_⟩:=p.isList;exact UQ e
 have l:g.toArray.size=a.length:=by simp_all
 refine call_sum_walk (vr p.isList #[_,_,_,_,_,_,λi=>a.getD i 0,rfl,Walks.list (A:=X.A.in1) (I.ok.hd R) _ q (Vg f) _,#[#[_,US _ rfl,rfl,rfl],p.isList.push _],?_,λi v G=>?_,λj hj=>?_,λh' tk S O=>?_])
 .intro b hb
  simp at hb;rcases hb with hb|hb
  .simp_all
  show _<(s.heap.objs.push _).size;rw[Array.size_push,hb];exact Xc f
 .obtain⟨c,t,T,rfl⟩:=QZ w G
  simp_all
 .have b1:-1000000000000000<=a.getD j 0/\a.getD j 0<=1000000000000000:=by
   exact y _ (by simp_all)
  have U:=qA (a.take (j+1)) λx C=>y x (List.mem_of_mem_take C);have b3:((a.take (j+1)).length)<=1000:=by simp;lia
  rw[h8 a _ (by lia)]
  show InLong (a.getD j 0)/\_;unfold InLong;lia
 .rw[l,h8 a _ (by lia),List.take_length]
  exact#[.int _,H,I.kept λb o hb=>O b o (by simp;exact Vg (UQ hb)) (UN _ hb),#[_,rfl],N _ M h _ H n Frm.refl rfl]
def kz:oz:=λa M Q=>one a λd=>bz 60 d=true/\(gj d).showable=true/\(gj d).shown.length<=sizeLine/\Q (.str (gj d).shown) M
theorem yI(y:X.A.guards=ap [])(O:X.A.units+64<l'):bw X (.builtin "repr") (liftC X kz):=by
 rintro w s Z H l K Q I r ⟨ds,M,QQ,E,z,h,G⟩
 unfold kz at h;obtain⟨d,rfl,h⟩:=h.inv;obtain⟨n,j,g,h⟩:=h;obtain⟨v,rfl,F⟩:=fZ (ds:=[]) z;obtain⟨u,rfl,C⟩:=hZ r;have q:=Fj I n F C;have N:=xj 60 _ n;obtain⟨L,m⟩:=vk _ _ q;have fin:∀(t:Tok)(c:Nat)(a:g3),(∀b o,s.heap.get? b=ap o->a.get? b=ap o)->EP X _ Z Q (.str _ t) _:=λt c a J=>
  #[.str _,H,I.kept (t':=c) J,#[_,rfl],G _ M h _ H E Frm.refl rfl]
 cases d with
 |non=>cases q;exact PySem.P.repr_of_none (fin _ _ _ λ_ _ e=>e)
 |bl b=>cases q;exact PySem.P.repr_of_bool (fin _ _ _ λ_ _ e=>e)
 |int i=>
  obtain⟨t,rfl⟩:=q;exact PySem.P.repr_of_int (by simpa [gj,Xh] using j) (fin _ _ _ λ_ _ e=>e)
 |str x=>
  obtain⟨t,rfl⟩:=q;exact PySem.P.repr_of_str (fin _ _ _ λ_ _ e=>e) g
 |tup l=>
  obtain⟨p,f,rfl,_⟩:=q;exact repr_of_reads' m j (Z1<|xR _) y (by lia) (by lia) (λa u c=>fin u c a) g
 |lst l=>
  obtain⟨p,f,rfl,_⟩:=q;exact repr_of_reads' m j (Z1<|xR _) y (by lia) (by lia) (λa u c=>fin u c a) g
 |_=>exact q.elim
theorem KY:ff "sum"=ap (.builtin "sum"):=PyProof.Rows.boot_sum
def sI(C:cp)(ta tv:bb)(f:Str):au:=λD U M=>ta U M λx M1=>onR x λa=>mN (M1 a) λC' fs=>C'=C/\fs.length<1000/\so (fs.lookup f) λb=>onI b λi=>tv U M1 λy M2=>onI y λj=>M2 a=ap (.ins C fs)/\D.nx U (M2.upd a<|.ins C<|b_ f (.int (i+j)) fs)
theorem EA(c:Cls X.K C)(n:NoAttr X.K C f)(ha:DE X B o ta)(hv:DE X B value tv):DS X B (.AugAssign (.Attribute o f tpos) .Add value pos) (sI C ta tv f):=by
 refine bV (rA ha hv Rh) ?_
 rintro D Z H ⟨U,M,DD,s,h,up⟩
 refine#[U,M,_,s,h,λx M1 h1 v1 H1 rh1 i1 r1=>?_]
 replace h1:=h1.inv;obtain⟨a,rfl,h1⟩:=h1
 cases r1;obtain⟨C',fs,hM,h1⟩:=h1.inv;obtain⟨rfl,hl,h1⟩:=h1;obtain⟨w21,hf,h1⟩:=h1.inv
 replace h1:=h1.inv;obtain⟨i,rfl,h1⟩:=h1
 obtain⟨dx,ws,e1,e2⟩:=rh1 _ _ hM;obtain⟨z,_⟩|⟨d,w,hd,hw,rw1⟩:=e2.lookup f
 .simp_all
 rw[hf]at hd;cases hd;cases rw1;refine#[a,C',dx,ws,_,rfl,e1,c,n,hw,U,M1,_,s.go rh1 i1,h1,λy M2 h2 v2 H2 rh2 i2 r2=>?_]
 replace h2:=h2.inv;obtain⟨j,rfl,h2⟩:=h2
 cases r2;obtain⟨hM2,h2⟩:=h2;obtain⟨dx2,ws2,e3,e4⟩:=rh2 _ _ hM2;have i3:Frm M2 H2 (M2.upd a<|.ins C'<|b_ f (.int (i+j)) fs) (upd H2 a<|.ins C' dx2<|_2.dJ f (.int (i+j)) ws2):=Frm.put (by simp_all)
 exact#[i,j,rfl,rfl,_,_,e3,by rw[<- e4.length];exact hl,up.nx _ _ h2 Z _ ((i1.trans i2).trans i3)<|s.go (rh2.put (by rw[e3];trivial) #[_,_,upd_same,(jY (by trivial) e4).mono<|i3.imm rh2])<|(i1.trans i2).trans i3]
end _3
namespace _2
open PySem PySem.Spec PyProof.Rows _S
theorem Inv.frzT(I:Inv X a Z H s)(e:H d=ap (.frz b<|.dT abR))(m:b.data=.dict es l):
  s.heap.get? d=ap b/\∃xs:List (List aD×cp×ax),KT H abR xs/\es.toList=xs.map (entryOfKey<|tupleKind<|aU X.prog X.w):=by
 obtain⟨c,_,_,xs,r,o,j,i,g,_,f,h,_⟩:=(I.hok d _ e);rw[c]at g;cases g;rw[m]at f;cases f;exact#[c,xs,r,h]
theorem KT.at:∀{abR:List (List aD×V)}{xs:List (List aD×cp×ax)},KT H abR xs->∀{i:Nat}{ks:List aD}{x:V},abR[i]?=ap (ks,x)->∃b u,xs[i]?=ap (ks,b,u)/\H b=ap (.tup<|ks.map kV)/\RelV x u
 |_,_,.nil,i,ks,x,e=>by simp at e
 |_,_,.cons (b:=q) h t,0,ks,x,e=>by
  simp at e;subst e;obtain⟨f,c,a⟩:=q;exact#[c,a,by simp_all,h.2.1,h.2.2]
 |_,_,.cons h t,i+1,ks,x,e=>by
  simpa using KT.at t e
theorem Inv.freezeT(I:Inv X e Z H s)(h:H p=ap (.dT abR)):
  ∃f es l,f.data=.dict es l/\es.size=abR.length/\s.heap.get? p=ap f/\(p==mu)=cx/\Inv X e Z (upd H p<|.frz f<|.dT abR) s:=by
 obtain⟨z,y,i,r,f,es,l,g,n,j,G,J⟩:=(I.hok p _ h);have ne:∀{b:cp}{u:Option HO},H b=u->u≠ap (.dT abR)->b≠p:=λ{b u} q K z=>by simp_all
 refine#[f,es,l,j,by rw[<- Wm,G,UM,<- Wh r],g,y,I.ok,I.os,I.bare,#[I.base.keep,I.base.slot,λb o q A B=>?_,I.base.there,λb i q=>?_,λb o u q=>?_,λb C q=>?_],I.loc,I.cell,?_,λx c q=>?_,λF E=>?_,λb o q=>?_,I.len]
 .have a:=I.base.free b o q A B
  rw[aF (by lia)];exact a
 .have a:=I.base.tups b i q
  rw[aF (by lia)];exact a
 .have a:=I.base.frzs b o u q
  rw[aF (by lia)];exact a
 .obtain⟨more,a⟩:=I.base.tbls b C q
  exact#[_,by rw[aF (by lia)];exact a]
 .rw[aF (ne I.free<|by simp)];exact I.free
 .have a:=I.freeC x c q
  rw[aF (by lia)];exact a
 .obtain⟨g,n,j⟩:=I.pin F E
  exact#[g,by rw[aF (by lia)];exact n,j]
 have m:∀{u:HO}{b:cp},ObjOk X.prog X.w H s.heap b u->ObjOk X.prog X.w (upd H p<|.frz f<|.dT abR) s.heap b u:=λx=>x.stay (by lia) (λc y=>by rw[aF (by lia)];exact y) λc i y=>by rw[aF (by lia)];exact y
 by_cases v:b=p
 .subst v
  rw[upd_same]at q;cases q;exact#[g,m<|I.hok b _ h]
 .rw[aF v]at q
  exact m (I.hok b o q)
end _2
namespace _3
open PySem _2 _S
theorem tz:∀ks:List aD,Rps K H (ks.map λk=>match k with|.inl i=>D.int i|.inr x=>D.str x) (ks.map kV)
 |[]=>rfl
 |.inl i::ks=>#[_,_,rfl,rfl,tz ks]
 |.inr x::ks=>#[_,_,rfl,rfl,tz ks]
theorem RepH.freezeT(r:RepH K H M)(h:H p=ap (.dT abR)):RepH K (upd H p<|.frz o<|.dT abR) (M.del p):=λb u e=>by
 unfold Mem.del at e
 split at e
 .cases e
 rename_i hb
 exact(r b u e).keep (Imm.upd<|by rw[h];trivial) (aF hb)
end _3
namespace _S
open PySem PySem.W PySem.Calls PyProof.Rows PyProof.V PySem.Spec _2
theorem uN:w6 (.type "list") "keys"=pure none:=by rfl
abbrev Pf(h:g3)(a:cp)(abV:ab6)(n:Nat):Prop:=h.get? a=ap { cls:=.type "list",dict:=ca,data:=.seq abV n,slots:=(Tw []) }
theorem oP(l:Pf s.heap a abV n)(r:A.handled=ca)
  (h:∀h' j,(∀b o,s.heap.get? b=ap o->h'.get? b=ap o)->Q ca { s with heap:=h',toks:=j }):eg (eH prog w) A (Z' (.ref a) "keys") Q E s:=by
 obtain⟨q,g,d,j,m⟩:=s;have i:∀f,(#[q,g,d,f,m]:cb).TypeIs (.ref a) "list":=λ_=>#[_,l,rfl];have p:=sub_AttributeError;have v:=W9.lookup;have x:=W9.bind (.ref a);have z:=am_list_getattr_none;unfold Z' getAttrBy? getAttrBy
 repeat (any_goals (first|assumption|exact i _|((with_reducible show eg _ _ (call (Value.builtin "list.__getattribute__") _ _) _ _ _);refine n7 W9 (i _) am_entry_list_getattribute (PySem.F.args_list_getattribute_2 _ _) (meets_getattribute_miss_list a abV n (Tw []) "keys" _ uN (by decide +kernel) (by decide +kernel)) #[l,r,λh' f e c=>?_])|wp_step))
 obtain⟨u,B,y⟩:=c.there;show eg _ _ (B' _ _ _ _ _ _ _) _ _ _;unfold B'
 repeat (any_goals (first|assumption|wp_step))
 exact h _ _ c.keeps
theorem y1{s:cb}{Ts:ab0}(R:Ts.length=f.length)(C:Pf s.heap l (Ts.map Vn).toArray m)(F:∀(i:Nat)(u:i<Ts.length)(y:i<f.length),yq s.heap Ts[i] f[i].1 f[i].2):
  ∀(A':f')(g:cb)(Q:ab3)(E:ab3),(∀b o,s.heap.get? b=ap o->g.heap.get? b=ap o)->s.heap.objs.size<g.heap.objs.size->
   (∀h' P S St,(∀b o,g.heap.get? b=ap o->h'.get? b=ap o)->PSrc v w s.heap.objs.size P f S St->St 0 h'->(∀b∈S,b∈[]\/s.heap.objs.size<b)->Q (.ref P) { g with heap:=h' })->eg (eH v w) A' (Z_<|.ref l) Q E g:=by
 intro A' g Q E M lt k;have ne:∀{b o},s.heap.get? b=ap o->b≠s.heap.objs.size/\b≠g.heap.objs.size:=λe=>#[Vg (UQ e),Vg<|X9 (UQ e) lt];have z:g.heap.IsList l (Ts.map Vn).toArray:=#[_,M _ _ C,rfl,m,rfl];have J:∀{h h':g3}(b:cp),(∀c o,c≠b->h.get? c=ap o->h'.get? c=ap o)->(∀{c o},s.heap.get? c=ap o->c≠b)->h.IsList l (Ts.map Vn).toArray/\(∀(i:Nat)(u:i<Ts.length)(y:i<f.length),yq h Ts[i] f[i].1 f[i].2)->h'.IsList l (Ts.map Vn).toArray/\∀(i:Nat)(u:i<Ts.length)(y:i<f.length),yq h' Ts[i] f[i].1 f[i].2:=by
  intro h h' b k n q;obtain⟨⟨o,H,G⟩,p⟩:=q;refine#[#[o,k _ _ (n C) H,G],λi u y=>?_];obtain⟨o,x,e,r⟩:=p i u y;obtain⟨_,_,T,_⟩:=F i u y;exact#[o,x,k _ _ (n T) e,r]
 refine vr z (k _ g.heap.objs.size [g.heap.objs.size] (λi h=>h.IsListIter g.heap.objs.size l i/\h.IsList l (Ts.map Vn).toArray/\∀(i:Nat)(u:i<Ts.length)(y:i<f.length),yq h Ts[i] f[i].1 f[i].2) (λb o e=>UN _ e) #[by simp;exact Vg lt,λi h h' j k=>#[j.1.at λo e=>k _ o (WN lt) e,J _ k (λe=>(ne e).1) j.2],?_,?_] #[#[_,US _ rfl,rfl,rfl],?_,λi u y=>?_] λb O=>.inr (by simp at O;subst O;exact lt))
 .intro A i L W Q E K _ j I
  refine abA (x:=.ref Ts[i]) j.1 j.2.1 (by simp[R,L]) λh' B N=>?_
  obtain⟨a,b⟩:=J _ (λc o U e=>N.extBut c o U e) (λe=>(ne e).2) j.2;exact I h' Ts[i] #[B,a,b] (b i (by lia) L) λc o n e=>N.extBut c o (by simpa using n) e
 .exact λA W Q E K j I=>abH K j.1 j.2.1 (by simp[R]) λh' k=>I h' λc o n e=>k c o (by simpa using n) e
 .obtain⟨o,H,G⟩:=z
  exact#[o,UN _ H,G]
 .obtain⟨o,n,e,r⟩:=F i u y
  exact#[o,n,UN _ (M _ _ e),r]
end _S
namespace _2
open PySem PySem.Spec PyProof.Rows _S
inductive PrK(H:Hp):List V->List (aD×V)->Prop
 |nil:PrK H [] []
 |cons {T:cp} {k:aD} {x:V} {vs:List V} {abR:List (aD×V)} (hT:H T=ap (.tup [kV k,x])) (r:PrK H vs abR):PrK H (.ref T::vs) ((k,x)::abR)
theorem Inv.pair(I:Inv X abP Z H s)(h:H T=ap (.tup [y,x])):∃k v,RelV y k/\RelV x v/\yq s.heap T k v:=by
 obtain⟨_,a,r,o,e,⟨c,n,d⟩,_⟩:=(I.hok T _ h);obtain⟨k,v,rfl,f,b⟩:=r.two;exact#[k,v,f,b,o,n,e,c,d]
theorem Inv.prK(I:Inv X abP Z H s):∀{vs:List V}{abR:List (aD×V)},PrK H vs abR->∃(Ts:ab0)(rs:List (aD×ax×ax)),vs=Ts.map V.ref/\KV abR (rs.map λr=>(r.1,r.2.2))/\Ts.length=rs.length/\(∀r∈rs,(aU X.prog X.w).is r.1 r.2.1=true)/\∀(i:Nat)(j:i<Ts.length)(l:i<rs.length),yq s.heap Ts[i] rs[i].2.1 rs[i].2.2
 |_,_,.nil=>#[[],[],rfl,.nil,rfl,by simp,λi h=>absurd h (Y0 _)]
 |_,_,.cons (T:=T) (k:=k) hT r=>by
  obtain⟨Ts,rs,rfl,q,a,c,g⟩:=I.prK r;obtain⟨e,v,b,f,p⟩:=I.pair hT;refine#[T::Ts,(k,e,v)::rs,rfl,.cons #[rfl,f] q,by simp[a],λr hr=>?_,λi j l=>?_]
  .rcases UU.mp hr with rfl|hr
   .exact jp b
   exact c r hr
  cases i with
  |zero=>exact p
  |succ i=>exact g i _ _
theorem Inv.ls(I:Inv X abP Z H s)(e:Rd H l (.lst vs)):∃abV n,Vals vs abV/\Pf s.heap l abV.toArray n:=by
 obtain⟨_,abV,n,r,q⟩:=(e.ok I.hok);exact#[_,n,r,q]
theorem yl(B:X.calm=true):bw X (.type "dict") (λxs H Q=>∃l vs abR,xs=[.ref l]/\Rd H l (.lst vs)/\PrK H vs abR/\abR.length<=1000000/\∀p,H p=ca->Q (.ref p) (upd H p<|.dK<|abR.foldl (λa p=>fD a p.1 p.2) [])):=by
 rintro abP s Z H xs E Q I r ⟨l,vs,abR,rfl,v,A,C,q⟩
 obtain⟨u,rfl,w⟩:=r.one;cases w;obtain⟨Ts,x,rfl,j,e,b,g⟩:=I.prK A;obtain⟨f,n,y,c⟩:=I.ls v;obtain rfl:f=Ts.map _:=qx y;have h:x.length<=1000000:=by have:=Wh j;simp_all
 refine nL B I rfl rfl rfl (by lia) (by lia) (by simp) j b h #[_,c,rfl] (by decide) (λA' F Q' E' o z=>oP (z _ _ c) o) (y1 (by simp[e]) c λi m G=>?_) q
 simp;exact g i m _
end _2
namespace _3
open PySem _2 _S
def xf:List D->Option (List (aD×D))
 |[]=>ap []
 |.tup [k,v]::ds=>match cP k,xf ds with
  |some ks,ap r=>ap ((ks,v)::r)
  |_,_=>ca
 |_=>ca
theorem G_:∀{ds:List D}{vs:List V}{abR:List (aD×D)},Rps K H ds vs->xf ds=ap abR->∃i,PrK H vs i/\Rkv K H abR i
 |[],vs,abR,r,e=>by cases e;cases r;exact#[[],.nil,.nil]
 |d::ds,vs,abR,r,e=>by
  obtain⟨v,y,rfl,a,b⟩:=r;unfold xf at e
  split at e
  .trivial
  .rename_i k x s h
   cases h
   split at e
   .rename_i C q w n
    cases e;obtain⟨i,m,o⟩:=G_ b n;obtain⟨T,E,rfl,p,l⟩:=a;obtain⟨A,u,rfl,g,c⟩:=l;obtain⟨z,j,rfl,c,f⟩:=c;cases f;have:=iy g w;subst this;exact#[_,.cons p m,.cons #[rfl,c] o]
   cases e
  cases e
theorem G3[DecidableEq c](h:Rkv K H a b):∀{a0:List (c×D)}{b0:List (c×V)},Rkv K H a0 b0->Rkv K H (a.foldl (λx p=>eG x p.1 p.2) a0) (b.foldl (λx p=>fD x p.1 p.2) b0):=by
 induction h with
 |nil=>exact λh=>h
 |@cons p q _ _ h t ih=>
  intro a0 b0 e;rw[Wa,Wa];refine ih ?_;rw[<- h.1];exact e.put _ h.2
theorem Kk(f:RepH K H M)(r:Rp K H d v)(e:g4 M d=ap xs)(g:∀ys,d≠.ml ys):∃l vs,v=.ref l/\Rd H l (.lst vs)/\Rps K H xs vs:=by
 cases d with
 |lst ys=>
  cases e;obtain⟨p,vs,rfl,⟨o,h⟩,r⟩:=r;exact#[p,vs,rfl,.inr #[o,h],r]
 |ml ys=>exact absurd rfl (g ys)
 |ref a=>
  simp only[g4]at e
  split at e
  .rename_i ys q
   cases e;cases r;obtain⟨vs,b,c⟩:=f _ _ q;exact#[a,vs,rfl,.inl b,c]
  .cases e
 |_=>cases e
noncomputable def Hx:D->Bool
 |.ml _=>cx
 |_=>true
theorem JX(h:Hx d=true):∀ys,d≠.ml ys:=λys e=>by subst e;cases h
def gR:oz:=λc M Q=>one c λd=>Hx d=true/\so (g4 M d) λb=>so (xf b) λabR=>abR.length<=1000000/\∀p,M p=ca->Q (.ref p) (M.upd p<|.dK<|abR.foldl (λa p=>eG a p.1 p.2) [])
theorem wX(hc:X.calm=true):bw X (.type "dict") (liftC X gR):=by
 rintro abP s Z H xs us Q I r ⟨ds,M,QQ,rh,rp,h,up⟩
 unfold gR at h;obtain⟨_,rfl,h⟩:=h.inv;obtain⟨v,rfl,rv⟩:=fZ (ds:=[]) rp;obtain⟨hm,h⟩:=h;obtain⟨ys,e,h⟩:=h.inv;obtain⟨abR,e2,h⟩:=h.inv;obtain⟨l,vs,rfl,hq,rr⟩:=Kk rh rv e (JX hm);obtain⟨ws,h1,h2⟩:=G_ rr e2;exact yl hc _ s Z H _ us Q I r #[l,vs,ws,rfl,hq,h1,by rw[<- h2.length];exact h.1,λp hp=>up _ _ (h.2 p<|rh.fresh hp) _ _ (rh.put (by rw[hp];trivial) #[_,upd_same,(G3 h2 .nil).mono<|Imm.new hp]) (Frm.put<|.inl hp) rfl]
end _3
namespace _3
open PySem _2
def iP:List D->List D->List D->List D
 |x::xs,y::ys,u::us=>.tup [x,y,u]::iP xs ys us
 |_,_,_=>[]
theorem qO:∀{xs ys us:List D}{i:Nat}{d:D},(iP xs ys us)[i]?=ap d->∃x y u,xs[i]?=ap x/\ys[i]?=ap y/\us[i]?=ap u/\d=.tup [x,y,u]
 |x::xs,y::ys,u::us,0,d,h=>by simp[iP]at h;simp_all
 |x::xs,y::ys,u::us,i+1,d,h=>by simp only[UL]at h ⊢;exact qO h
 |[],_,_,_,_,h=>by trivial
 |_::_,[],_,_,_,h=>by trivial
 |_::_,_::_,[],_,_,h=>by trivial
theorem qI:∀{xs ys us:List D}{i:Nat},(iP xs ys us).length<=i->xs.length<=i\/ys.length<=i\/us.length<=i
 |x::xs,y::ys,u::us,0,h=>by trivial
 |x::xs,y::ys,u::us,i+1,h=>by
  have:=qI (by simpa [iP] using h)
  simp_all
 |[],_,_,_,_=>.inl (by simp)
 |_::_,[],_,_,_=>.inr (by simp_all)
 |_::_,_::_,[],_,_=>.inr (by simp_all)
def wV(t:eh):vW:=λU M R=>t U M λg M1=>cns g λd r=>two r λe f=>so (aO M1 d) λa=>so (aO M1 e) λb=>so (aO M1 f) λc=>R #[iP a b c,bM d a++(bM e b++bM f c)] M1
theorem LB(w:Gl X "zip")(s:X.mg "zip"=ca)(C:DA X B [a,b,c] l)
  (E:cT [a,b,c] X.env=[(cx,fx a X.env),(cx,fx b X.env),(cx,fx c X.env)]:=by rfl) (hs2:cT [b,c] X.env=[(cx,fx b X.env),(cx,fx c X.env)]:=by rfl):
  DI X B (.Tuple g v A) (.Call (.Name "zip" p) [a,b,c] [] pos) (wV l):=by
 refine AU (λI M1 R h=>?_) w s C (by rw[E,hs2]) (by rw[hs2];rfl)
 replace h:=h.inv;obtain⟨d,r,rfl,h⟩:=h
 replace h:=h.inv;obtain⟨e,f,rfl,h⟩:=h
 obtain⟨L,q,h⟩:=h.inv;obtain⟨G,m,h⟩:=h.inv;obtain⟨N,n,h⟩:=h.inv;refine#[_,_,.inr rfl,.cons q (.cons m<|.cons n .nil),#[λi z o=>?_,λi j=>?_],by simpa [yN] using h]
 .obtain⟨x,y,u,F,J,M,rfl⟩:=qO o
  simp_all
 simpa using (qI j)
end _3
namespace _3
open PySem _2
variable{x:Str}
structure GF(K:UP)(mg:ab5)(x:Str)(st:ol)(f:cp)(fd:gp)(ps:abY):Prop where
 F:Fun K x x st f fd
 b:Binds K fd ps []
 k:V8 K (.ref f)=true
 m:mg x=ap (.ref f)
structure GA(K:UP)(mg:ab5)(x y:Str)(st:ol)(f:cp)(fd:gp)(ps:abY):Prop where
 F:Fun K y y st f fd
 b:Binds K fd ps []
 k:V8 K (.ref f)=true
 m:mg x=ap (.ref f)
structure FunV(K:UP)(x abQ:Str)(st:ol)(f:cp)(fd:gp):Prop where
 ex:∃(oc:ax)(od:Option cp)(kV doc pm:ax)(an:Option cp)(cdv ct:ax)(osl:Array (Option ax))(T:cp),
  fd=Xl x abQ (cq st) (bC st) (aR st) (.ref T) kV doc pm an cdv ct/\K.lookup f=ap #[oc,od,.func fd,osl]/\YI K cdv abQ=true
 kp:V8 K (.ref f)=true
structure GV(K:UP)(mg:ab5)(x:Str)(st:ol)(f:cp)(fd:gp)(ps:abY)(dv:Int):Prop where
 F:FunV K x x st f fd
 b:Binds K fd ps []
 d:∃t,Binds K fd ps [.int dv t]
 k:V8 K (.ref f)=true
 m:mg x=ap (.ref f)
inductive GC(K:UP)(mg:ab5)(x:Str)(st:ol)(f:cp)(fd:gp)(ps:abY):Prop
 |g (h:GF K mg x st f fd ps):GC K mg x st f fd ps
 |a {y:Str} (h:GA K mg x y st f fd ps):GC K mg x st f fd ps
 |v {dv:Int} (h:GV K mg x st f fd ps dv):GC K mg x st f fd ps
structure GM(K:UP)(C:cp)(x abQ:Str)(st:ol)(f:cp)(fd:gp)(ps:abY):Prop where
 F:Fun K x abQ st f fd
 b:Binds K fd ps []
 m:Meth K C x f
structure GI(K:UP)(C:cp)(x abQ:Str)(st:ol)(f:cp)(fd:gp)(ps:abY):Prop where
 F:Fun K x abQ st f fd
 b:Binds K fd ps []
 m:Mk K C f
theorem Hd(h:GC X.K X.mg x st f fd ps)(F:FnOk X.prog X.w X.K X.mg X.base CX k f fd ps (bG X.K n T))(l:Room k X.A)(q:Gl X x)(j:bX CX X E)(ux:ve X.K B EE E)(u:DA X B (e::es) t)(i:(x==("__debug__":Str))=cx)(s:cT (e::es) X.env=(cx,fx e X.env)::cT es X.env)(c:(ix pos<|starEach es X.env).any (·.1)=cx):
  DE X B (.Call (.Name x p) (e::es) [] pos) (aj T EE n t):=by
 cases h with
 |g h=>exact rG F l q h.m h.k h.b j ux u i s c
 |a h=>exact rG F l q h.m h.k h.b j ux u i s c
 |v h=>exact rG F l q h.m h.k h.b j ux u i s c
def QN(X:Cx)(B:Bd)(x:Str)(T:Sd)(EE:DX)(n:Nat):Prop:=∃(st:ol)(f:cp)(fd:gp)(ps:abY)(k:Nat)(CX:qd)(E:XK),GC X.K X.mg x st f fd ps/\FnOk X.prog X.w X.K X.mg X.base CX k f fd ps (bG X.K n T)/\Room k X.A/\bX CX X E/\ve X.K B EE E
theorem Gi(h:QN X B x T EE n)(i:Gl X x)(l:DA X B (e::es) t)(b:(x==("__debug__":Str))=cx)(j:cT (e::es) X.env=(cx,fx e X.env)::cT es X.env)(a:(ix pos<|starEach es X.env).any (·.1)=cx):
  DE X B (.Call (.Name x p) (e::es) [] pos) (aj T EE n t):=by
 obtain⟨_,_,_,_,_,_,_,h,F,g,c,ux⟩:=h;exact Hd h F g i c ux l b j a
theorem Fb(h:GI X.K C abQ x st f fd ps)(F:FnOk X.prog X.w X.K X.mg X.base CX k f fd ps (bG X.K n T))(j:Room (k+1) X.A)(l:Gl X y)(i:X.mg y=ap (.ref C))(g:bX CX X E)(ux:ve X.K B EE E)(s:DA X B (e::es) t)(c:(y==("__debug__":Str))=cx)(q:cT (e::es) X.env=(cx,fx e X.env)::cT es X.env)(a:(ix pos<|starEach es X.env).any (·.1)=cx):
  DE X B (.Call (.Name y p) (e::es) [] pos) (iR C T EE n t):=LM h.m F j l i h.b g ux s c q a
theorem Hu(q:DE X B o ta)(c:Cls X.K C)(h:GM X.K C m abQ st f fd ps)(F:FnOk X.prog X.w X.K X.mg X.base CX k f fd ps (bG X.K n T))(l:Room k X.A)(j:bX CX X E)(ux:ve X.K B EE E)(s:DA X B (e::es) t)(a:cT (e::es) X.env=(cx,fx e X.env)::cT es X.env)(g:(ix pos<|starEach es X.env).any (·.1)=cx)(i:fx (.Call (.Attribute o m abU) (e::es) [] pos) X.env=(do
   let ov <- fx o X.env
   G' abU.atName
   let (f,first) <- o4 [ov] (z4 ov m pl)
   aa7 pos f first (ix pos<|starEach (e::es) X.env) (pt pos<|keywordEach [] X.env))):
  DE X B (.Call (.Attribute o m abU) (e::es) [] pos) (dF C m T EE n ta t):=KE q c h.m F l h.b j ux s a g i
theorem DY(a:DE X B o ta)(c:Cls X.K C)(h:GM X.K C m abQ st f fd ps)(F:FnOk X.prog X.w X.K X.mg X.base CX k f fd ps (bG X.K n T))(j:Room k X.A)(i:bX CX X E)(ux:ve X.K B EE E)(g:fx (.Call (.Attribute o m abU) [] [] pos) X.env=(do
   let ov <- fx o X.env
   G' abU.atName
   let (f,first) <- o4 [ov] (z4 ov m pl)
   aa7 pos f first (ix pos<|starEach [] X.env) (pt pos<|keywordEach [] X.env))):
  DE X B (.Call (.Attribute o m abU) [] [] pos) (dF C m T EE n ta ag):=IP a c h.m F j h.b i ux g
inductive FC(X:Cx)(scope:q0):List Str->List Nat->List (Str×cp)->Prop
 |nil:FC X scope [] [] []
 |cons {x:Str} {j:Nat} {c:cp} {fs:abY} {js:List Nat} {cl:List (Str×cp)}:X.N[j]?=ap x->X.env.cells.lookup x=ap c->(X.env.kindOf x=ap .cell\/X.env.kindOf x=ap .free)->
   ((K' scope X.env).names.lookup x=ap .cell\/(K' scope X.env).names.lookup x=ap .free)->FC X scope fs js cl->FC X scope (x::fs) (j::js) ((x,c)::cl)
theorem FC.ok(h:FC X g fs l j):Frees X g fs l/\∃i:List cp,fs.length=i.length/\j=fs.zip i/\∀p∈j,X.env.cells.lookup p.1=ap p.2:=by
 induction h with
 |nil=>exact#[.nil,[],rfl,rfl,memZ]
 |cons a b c d _ ih=>
  obtain⟨s,i,u,q,m⟩:=ih;exact#[.cons a c d s,_::i,congrArg _ u,by rw[q];rfl,memC b m]
theorem LD(h:GF X.K X.mg x st f fd ps)(F:FnOk X.prog X.w X.K X.mg X.base (qW X.prog X.w) k f fd ps (bG X.K n T))(q:X.stack=X.env::X.outer)(s:X.env.frame=ap X.env.locals)(S:Room k X.A)(P:Gl X x)(U:DA X.nox B (e::es) t)(EX:ExcAt X.K C)(y:Gl X l)(G:X.mg l=ap (.ref C))(H:∀Q:cp,B3 (X.marked<|.ref Q) B (c::a) M)(J:(x==("__debug__":Str))=cx)(u:(l==("__debug__":Str))=cx)(R:cT (e::es) X.env=(cx,fx e X.env)::cT es X.env)(I:(ix v<|starEach es X.env).any (·.1)=cx)(z:py (.Call (.Name x p) (e::es) [] v) ca L.line X.env=pure cx):
  DS X B (.Try [.Expr (.Call (.Name x p) (e::es) [] v) L] [.ExceptHandler (ap<|.Name l O) ca (c::a) j] [] [] pos) (OH C T n t M):=xZ q s F S P h.m h.k h.b U EX y G H J u R I z
section
variable{id:String}
theorem cw(l:bw X (.builtin id) (liftC X r))(j:ff x=ap (.builtin id))(g:Gl X x)(f:X.mg x=ca)(i:DA X B (e::es) t)(c:x≠"__name__")(b:(x==("__debug__":Str))=cx)(h:cT (e::es) X.env=(cx,fx e X.env)::cT es X.env)(a:(ix pos<|starEach es X.env).any (·.1)=cx):DE X B (.Call (.Name x p) (e::es) [] pos) (b6 r t):=I_ l g f j i c b h a
theorem eB(l:bw X (.type T) (liftC X r))(j:ff x=ap (.type T))(g:Gl X x)(f:X.mg x=ca)(i:DA X B (e::es) t)(c:x≠"__name__")(b:(x==("__debug__":Str))=cx)(h:cT (e::es) X.env=(cx,fx e X.env)::cT es X.env)(a:(ix pos<|starEach es X.env).any (·.1)=cx):DE X B (.Call (.Name x p) (e::es) [] pos) (b6 r t):=DN l g f j i c b h a
theorem nc(g:ff x=ap (.type T))(f:Gl X x)(b:X.mg x=ca)(a:x≠"__name__")(c:(x==("__debug__":Str))=cx):DE X B (.Name x pos) (dC<|.ty T):=R_ f b g a c
theorem GT(m:V' Ty)(f:Slot Ty name id)(h:Y' (.builtin id)=pure (.type "method_descriptor"))(j:xu X id (liftM X r))(i:Ty="list"\/Ty="str"\/Ty="int"\/Ty="dict")(l:DE X B o to)(n:DA X B (e::es) t)(c:iB o name X.env (fx o X.env)=fx o X.env)(g:((ix abT<|starEach (e::es) X.env).all (λx=>!x.1)&&(pt abT<|keywordEach [] X.env).all (λx=>x.1.isSome)
   && decide ((e::es).length+([]:List pa).length+(if ([]:List pa).isEmpty then 0 else 1)<30))=true)(b:(abU.endLine==abT.line)=true)(q:cT (e::es) X.env=(cx,fx e X.env)::cT es X.env)(a:(ix abT<|starEach es X.env).any (·.1)=cx):
  DE X B (.Call (.Attribute o name abU) (e::es) [] abT) (j_ Ty r to t):=Tb i m f h j l n c g b q a
theorem ud(j:V' Ty)(c:Slot Ty name id)(f:Y' (.builtin id)=pure (.type "method_descriptor"))(h:xu X id (liftM X r))(g:Ty="list"\/Ty="str"\/Ty="int"\/Ty="dict")(i:DE X B o to)(b:iB o name X.env (fx o X.env)=fx o X.env)(a:(abU.endLine==abT.line)=true):DE X B (.Call (.Attribute o name abU) [] [] abT) (j_ Ty r to ag):=PY g j c f h i b a
theorem Ie(f:Slot "tuple" name id)(h:Y' (.builtin id)=pure (.type "method_descriptor"))(i:xu X id (liftM X r))(j:DE X B o to)(l:DA X B (e::es) t)(c:iB o name X.env (fx o X.env)=fx o X.env)(g:((ix abT<|starEach (e::es) X.env).all (λx=>!x.1)&&(pt abT<|keywordEach [] X.env).all (λx=>x.1.isSome)
   && decide ((e::es).length+([]:List pa).length+(if ([]:List pa).isEmpty then 0 else 1)<30))=true)(b:(abU.endLine==abT.line)=true)(m:cT (e::es) X.env=(cx,fx e X.env)::cT es X.env)(a:(ix abT<|starEach es X.env).any (·.1)=cx):
  DE X B (.Call (.Attribute o name abU) (e::es) [] abT) (Jm r to t):=Sc f h i j l c g b m a
theorem Lr(c:Ih X a (liftR2 X r))(h:X.N.Nodup)(g:X.N[i]?=ap x)(b:Ii X.env.scope x)(f:DE X B e te)(j:X.fn x=true\/X.env.scope.names.lookup x=ap .local):
  DS X B (.AugAssign (.Name x pos') a e pos) (G4 i te r):=Pe h g b f c j
end
structure Nf(K:UP)(x:Str)(st:ol)(f:cp)(fd:gp):Prop where
 a:V4 K eT x=ap (ap<|.ref f)
 F:Fun K x x st f fd
structure Af(K:UP)(x y:Str)(st:ol)(f:cp)(fd:gp):Prop where
 a:V4 K eT x=ap (ap<|.ref f)
 F:Fun K y y st f fd
structure Mf(K:UP)(C:cp)(x q:Str)(st:ol)(f:cp)(fd:gp):Prop where
 a:VE K (.ref C) x=ap (ap<|.ref f)
 i:W.isFn K (.ref f)=true
 F:Fun K x q st f fd
theorem us1{α:Type}{P:List α->Prop}(h:∀a,P [a]):∀us:List α,us.length=1->P us
 |[a],_=>h a
theorem us2{α:Type}{P:List α->Prop}(h:∀b a,P [b,a]):∀us:List α,us.length=2->P us
 |[b,a],_=>h b a
theorem us3{α:Type}{P:List α->Prop}(h:∀b a c,P [b,a,c]):∀us:List α,us.length=3->P us
 |[b,a,c],_=>h b a c
theorem us4{α:Type}{P:List α->Prop}(h:∀c b f a,P [c,b,f,a]):∀us:List α,us.length=4->P us
 |[c,b,f,a],_=>h c b f a
theorem us5{α:Type}{P:List α->Prop}(h:∀a f b c g,P [a,f,b,c,g]):∀us:List α,us.length=5->P us
 |[a,f,b,c,g],_=>h a f b c g
theorem us6{α:Type}{P:List α->Prop}(h:∀a g b f i c,P [a,g,b,f,i,c]):∀us:List α,us.length=6->P us
 |[a,g,b,f,i,c],_=>h a g b f i c
abbrev Bnd(ps:abY)(x abQ:Str)(st:ol):Prop:=∀(kV doc pm:ax)(an:Option cp)(cdv ct:ax)(us:abZ),us.length=ps.length->abn (Xl x abQ (cq st) (bC st) (aR st) .none kV doc pm an cdv ct) #[us,[]]=pure (ps.zip us)
section
variable{K:UP}{f:cp}{fd:gp}{ps:abY}{abQ:Str}{st:ol}
theorem gf(X:K.In h)(G:h.Ns eT mg)(l:Nf K x st f fd)(b:Bnd ps x x st:=by and_intros):GF K mg x st f fd ps:=#[l.F,l.F.binds b,l.F.kp,XA X G l.a]
theorem ga(X:K.In h)(G:h.Ns eT mg)(l:Af K x y st f fd)(b:Bnd ps y y st:=by and_intros):GA K mg x y st f fd ps:=#[l.F,l.F.binds b,l.F.kp,XA X G l.a]
theorem gm(l:Mf K C x abQ st f fd)(b:Bnd ps x abQ st:=by and_intros):GM K C x abQ st f fd ps:=#[l.F,l.F.binds b,l.a,l.i,l.F.kp]
theorem gi(mk:X7 K C=true)(b:V8 K (.ref C)=true)(l:Mf K C "__init__" abQ st f fd)(c:Bnd ps "__init__" abQ st:=by and_intros):GI K C "__init__" abQ st f fd ps:=#[l.F,l.F.binds c,mk,l.a,l.i,b]
abbrev cA(P:eX)(w:gl)(mg:ab5)(base:g3)(_:Fun K x abQ st f fd)(_:Binds K fd ps [])(k:Nat)(S:Sd):Prop:=FnOk P w K mg base (qW P w) k f fd ps (bG K ps.length S)
theorem fnS(i:S=aK N T)(F:Fun K x abQ st f fd)(b:Binds K fd ps [])(g:FnScope N ps (aR st))(j:FnScope N ps (aR st)->∀(c:ax)(A:f')(a:List Env)(s:cb)(H:Hp)(E:XK)(B:Bd)(EE:DX),Room k (A.deeper<|Xa abQ (aR st) s.heap.objs.size f c)->ve K B EE E->
   B3 (eZ (qW P w) P w K mg base N abQ (aR st) f c A a s H E) B (bC st) (T EE)):cA P w mg base F b (k+1) S:=by
 subst i;exact fnD F g (j g)
end
end _3
namespace _3
open PySem _2 _S
def RI(M:Mem):D->Bool
 |.ref a=>match M a with
  |some (.dK _)=>true
  |_=>cx
 |_=>cx
def Hm(td ty:bb):bb:=λU M Q=>td U M λx M1=>RI M1 x=true/\ty U M1 λy M2=>onR x λa=>mK (M2 a) λb=>so (cP y) λk=>so (cV b k) λv=>Q v (M2.upd a<|.dK<|qr b k)
def Hi(td ty tx:bb):bb:=λU M Q=>td U M λx M1=>RI M1 x=true/\ty U M1 λy M2=>tx U M2 λz M3=>onR x λa=>mK (M3 a) λb=>so (cP y) λk=>oe (cV b k) (λv=>Q v (M3.upd a<|.dK<|qr b k)) (Q z M3)
theorem Iv(f:RepH K H M)(r:Rp K H x v)(e:RI M x=true):∃a,x=.ref a/\v=.ref a/\IsD H a:=by
 cases x with
 |ref a=>
  cases r;refine#[a,rfl,rfl,?_];simp[RI]at e
  split at e
  .rename_i q;obtain⟨b,c,_⟩:=f _ _ q;exact .inl #[b,.inl c]
  cases e
 |_=>cases e
theorem KR(ho:DE X B o to)(he:DE X B e te)(m:M1 X o "pop" abU e abT):DE X B (.Call (.Attribute o "pop" abU) [e] [] abT) (Hm to te):=by
 refine aT (Gh ho he m) ?_
 rintro Z H Q ⟨U,M,QQ,s,h,u⟩
 refine#[U,M,_,s,h,λx M1 h1 v1 H1 rh1 i1 r1=>?_];obtain⟨a,rfl,rfl,hd⟩:=Iv rh1 r1 h1.1;refine#[a,rfl,hd,U,M1,_,s.go rh1 i1,h1.2,λy M2 h2 v2 H2 rh2 i2 r2=>?_];obtain⟨_,e,h2⟩:=h2.inv;cases e;obtain⟨abR,hM,h2⟩:=h2.inv;obtain⟨k,ek,h2⟩:=h2.inv;obtain⟨ws,g1,g2⟩:=rh2 _ _ hM;have im:Imm H2 (upd H2 a<|.dK<|iT ws k):=Imm.upd (by rw[g1];trivial)
 rcases g2.val k with⟨q,_⟩|⟨d,w,q,qw,rw'⟩
 .rw[q]at h2;exact h2.elim
 rw[q]at h2;exact#[ws,k,w,g1,(iy r2 ek),qw,u _ _ h2 _ _ (rh2.put (by rw[g1];trivial) #[_,upd_same,(g2.drop k).mono im]) ((i1.trans i2).trans<|Frm.put<|.inr #[_,hM])<|rw'.mono im]
theorem KI(ho:DE X B o to)(he:DE X B e te)(hf:DE X B f tf)(m:M2 X o "pop" abU e f abT):DE X B (.Call (.Attribute o "pop" abU) [e,f] [] abT) (Hi to te tf):=by
 refine aT (J4 ho he hf m) ?_
 rintro Z H Q ⟨U,M,QQ,s,h,u⟩
 refine#[U,M,_,s,h,λx M1 h1 v1 H1 rh1 i1 r1=>?_];obtain⟨a,rfl,rfl,hd⟩:=Iv rh1 r1 h1.1;refine#[a,rfl,hd,U,M1,_,s.go rh1 i1,h1.2,λy M2 h2 v2 H2 rh2 i2 r2=>?_];refine#[U,M2,_,(s.go rh1 i1).go rh2 i2,h2,λz M3 h3 v3 H3 rh3 i3 r3=>?_];obtain⟨_,e,h3⟩:=h3.inv;cases e;obtain⟨abR,hM,h3⟩:=h3.inv;obtain⟨k,ek,h3⟩:=h3.inv;obtain⟨ws,g1,g2⟩:=rh3 _ _ hM;have ey:=iy (r2.mf rh2 i3) ek;have im:Imm H3 (upd H3 a<|.dK<|iT ws k):=Imm.upd (by rw[g1];trivial)
 rcases g2.val k with⟨q,qn⟩|⟨d,w,q,qw,rw'⟩
 .rw[q]at h3
  exact#[ws,k,g1,ey,by lia,λ_=>u _ _ h3 _ _ rh3 ((i1.trans i2).trans i3) r3]
 rw[q]at h3;refine#[ws,k,g1,ey,λv ev=>?_,by lia]
 rw[qw]at ev;cases ev;exact u _ _ h3 _ _ (rh3.put (by rw[g1];trivial) #[_,upd_same,(g2.drop k).mono im]) (((i1.trans i2).trans i3).trans<|Frm.put<|by simp_all) (rw'.mono im)
def k7:oz:=λe M Q=>one e λb=>onR b λa=>mK (M a) λc=>∀p,M p=ca->Q (.ref p) (M.upd p<|.dK c)
theorem wl:bw X (.type "dict") (liftC X k7):=by
 rintro abP s Z H xs us Q I r ⟨ds,M,QQ,rh,rp,h,up⟩
 unfold k7 at h
 replace h:=h.inv;obtain⟨w24,rfl,h⟩:=h
 replace h:=h.inv;obtain⟨a,rfl,h⟩:=h
 obtain⟨v,rfl,rv⟩:=fZ (ds:=[]) rp;cases rv;obtain⟨abR,e,h⟩:=h.inv;obtain⟨u,rfl,ru⟩:=r.one;cases ru;obtain⟨ws,h1,h2⟩:=rh _ _ e;exact I0 I (.inl h1) λp s' hp I'=>#[.ref p,_,I',rfl,up _ _ (h p<|rh.fresh hp) _ _ (rh.put (by rw[hp];trivial) #[_,upd_same,h2.mono<|Imm.new hp]) (Frm.put<|.inl hp) rfl]
end _3
namespace _2
open PySem PySem.W PySem.Calls PyProof.Rows PyProof.V PySem.Spec
def isO:Option aD->ax->Bool
 |some k,v=>oU k v
 |none,.none=>true
 |none,_=>cx
theorem dP(h:isO ca v=true):v=.none:=by cases v<;>first|rfl|cases h
theorem xo(h:Q 4238894112 { s with toks:=s.toks+1 }):eg (eH prog w) A (pyHash .none) Q E s:=by
 have a:s.TypeIs .none "NoneType":=rfl;refine ay ?_;refine eC ?_;refine ay (w8 a rfl ?_);refine ay (w8 a rfl ?_)
 refine ay (wpAny_callSpecialIfBoundUnlessNone?_slot a YL
  (kl YL a rfl
   (wpAny_ret_mkInt ?_) rfl))
 exact eC h
theorem wc(h:Q true s):eg (eH prog w) A (eqBool .none .none) Q E s:=by
 exact ay (U_<|wpAny_pure h)
def F4(prog:eX)(w:gl):PySem.KeyKind prog w (Option aD) where
 is:=isO
 hash:=λk=>match k with
  |some k=>Tn w k
  |none=>4238894112
 inj:=λv a b g j=>by
  cases a with
  |some a=>
   cases b with
   |some b=>rw[(aU prog w).inj v a b g j]
   |none=>
    cases dP j;rcases aY g with⟨i,t,_,e⟩|⟨x,t,_,e⟩<;>exact nomatch e
  |none=>
   cases dP g;cases b with
   |some b=>rcases aY j with⟨i,t,_,e⟩|⟨x,t,_,e⟩<;>exact nomatch e
   |none=>rfl
 byValue:=λk v h=>by
  cases k with
  |some k=>exact(aU prog w).byValue k v h
  |none=>cases dP h;rfl
 pyHash:=λ{A E s k v Q} c h=>by
  cases k with
  |some k=>exact(aU prog w).pyHash c h
  |none=>cases dP c;exact xo h
 eqBool:=λ{A E s a b u v Q} f c h=>by
  cases a with
  |some a=>
   cases b with
   |some b=>
    refine (aU prog w).eqBool f c ?_;have:decide (ap a=ap b)=decide (a=b):=decide_eq_decide.mpr #[λe=>by injection e,λe=>by rw[e]]
    rw[this]at h;exact h
   |none=>
    cases dP c;have e:decide (ap a=ca)=false:=decide_eq_false (λz=>nomatch z);rw[e]at h;rcases aY f with⟨i,t,rfl,rfl⟩|⟨x,t,rfl,rfl⟩
    .exact Zc i t _ _ _ _ h
    .exact Y9 x t _ _ _ _ h
  |none=>
   cases dP f;cases b with
   |some b=>
    have e:decide (ca=ap b)=false:=decide_eq_false (λz=>nomatch z);rw[e]at h;rcases aY c with⟨i,t,rfl,rfl⟩|⟨x,t,rfl,rfl⟩
    .exact Zb i t _ _ _ _ h
    .exact Za x t _ _ _ _ h
   |none=>
    cases dP c;exact wc h
 «strs»:=λk x t v h=>by
  cases k with
  |some k=>exact(aU prog w).strs k x t v h
  |none=>cases h
theorem map_none{h:g3}(m:h.MapOf (aU b w) a f):h.MapOf (F4 b w) a (λk=>match k with|some k=>f k|none=>ca):=by
 obtain⟨o,c,u,r,v,z,l,n⟩:=m;refine#[o,c,u,r,v,z,λe g=>?_,λk=>?_]
 .obtain⟨k,j,y⟩:=l e g
  exact#[ap k,j,y]
 cases k with
 |some k=>exact n k
 |none=>
  have:∀e∈c,isO ca e.key=false:=λe g=>by
   obtain⟨k,j,_⟩:=l e g;rcases aY j with⟨i,t,_,q⟩|⟨x,t,_,q⟩<;>rw[q]<;>rfl
  have e:c.find? (λe=>(F4 b w).is ca e.key)=none:=by
   rw[Array.find?_eq_none];intro x p;exact WD.mp (this x p)
  unfold findBy;rw[e];rfl
theorem Th(I:Inv X abP Z H s)(e:Rd H a (.dK abR))(h:∀b,Inv X abP Z H b->Q (.bool cx) b):eg (eH X.prog X.w) A (iA .In .none<|.ref a) Q E s:=by
 obtain⟨z,g,i,c,f⟩:=jc I.hok e;refine wpAny_in_of (knd:=F4 X.prog X.w) (k:=ca) rfl g (map_none f.mapOf) ?_;exact h _ (I.tok _)
end _2
namespace _3
open PySem _2 _S
def A4(M:Mem)(x y:D):Option Bool:=match x,y with
 |.non,.ref a=>match M a with
  |some (.dK _)=>ap cx
  |_=>ca
 |_,_=>iJ M x y
def FV:fQ:=λx y M Q=>so (A4 M x y) λk=>Q (.bl k) M
theorem K_(q:X.A.units+64<l'):cX X (iA .In) (liftR2 X FV):=by
 rintro c s Z H x y v u Q I b i ⟨p,l,M,QQ,a,g,j,h,f⟩
 unfold FV at h;obtain⟨k,e,h⟩:=h.inv;unfold A4 at e
 split at e
 .cases g
  cases j;cases b;cases i
  split at e
  .rename_i o n
   cases e;obtain⟨z,m,w⟩:=a _ _ n;exact Th I (.inl m) λr I'=>#[.bl _,H,I',rfl,f _ M h _ H a Frm.refl rfl]
  cases e
 refine Iw q _ s Z H x y v u Q I b i #[p,l,M,QQ,a,g,j,?_,f];unfold wU;rw[e];exact h
end _3
namespace _2
open PySem PySem.Spec PyProof.Rows
theorem pS:Slot "reversed" "__init__" "object.__init__":=
 .of (owner:="object") (n:="__init__") (by rfl) (by rfl) (by rfl) (by rfl)
  (by trivial) (by kernel_rfl)
theorem iU:Slot "reversed" "__iter__" "reversed.__iter__":=
 .of (owner:="reversed") (n:="__iter__") (by rfl) (by rfl) (by rfl) (by rfl)
  (by trivial) (by kernel_rfl)
theorem di:Slot "reversed" "__next__" "reversed.__next__":=
 .of (owner:="reversed") (n:="__next__") (by rfl) (by rfl) (by rfl) (by rfl)
  (by trivial) (by kernel_rfl)
theorem RN:Manifest.owners.lookup (String.ofList ['d','e','s','r','e','v','e','r'].reverse)=ap Manifest.sig_reversed:=by kernel_rfl
theorem gH:aa5 table "reversed.__next__"=ap Builtin.«reversed.__next__»:=PySem.entryFor_of_tree (by kernel_rfl)
theorem qe:aa5 table "reversed.__new__"=ap Builtin.«reversed.__new__»:=entryFor_of_tree (by kernel_rfl)
theorem n_:aa5 table "reversed.__iter__"=ap Builtin.«dict_keyiterator.__iter__»:=
 entryFor_alias (id':="dict_keyiterator.__iter__") (by kernel_rfl) (by rfl) (by decide +kernel) (by kernel_rfl)
theorem pU(a:ax):abp "reversed.__iter__" #[[a],[]]:=by
 kernel_rfl
theorem iQ(a:ax):abp "reversed.__next__" #[[a],[]]:=by
 kernel_rfl
theorem Dc:mroOf (.type "reversed")=pure [.type "reversed",.type "object"]:=by rfl
theorem nK:w6 (.type "reversed") "__new__"=pure (ap<|.builtin "reversed.__new__"):=by rfl
theorem y2:TypeCalled "reversed" "reversed.__new__" "object.__init__":=
 #[by rfl,by rfl,#[_,_,Dc],madeBy_type Dc nK (by decide +kernel),by decide +kernel,by rfl,pS]
theorem sZ(a:ax):X_ "reversed" #[[a],[]]=pure ():=by kernel_rfl
theorem wZ(a:ax):P' "reversed.__new__" #[[.type "reversed",a],[]]=pure ():=by kernel_rfl
theorem iK(a b:ax):abp "object.__init__" #[[a,b],[]]:=by
 kernel_rfl
theorem LH:isSubtype (.type "reversed") (.type "reversed")=pure true:=by rfl
theorem PH:w6 (.type "tuple") "__reversed__"=pure none:=by rfl
theorem G6:isSubtype (.type "tuple") (.type "dict")=pure false:=by rfl
abbrev qE(h:g3)(z l:cp)(j:Int):Prop:=h.get? z=ap { cls:=.type "reversed",dict:=ca,data:=.fields (Tw [.ref l,.int j 0]),slots:=(Tw []) }
theorem F_{k:Nat}(b:qE s.heap z l k)(n:IsTup s.heap l a)(i:a[k]?=ap x)(o:(k:Int)<2 ^ 63)(hQ:∀h',qE h' z l ((k:Int)-1)->VZ z s.heap h'->Q (ap x) { s with heap:=h',toks:=s.toks+1 }):
  eg (eH prog w) A (vw<|.ref z) Q E s:=by
 have j:s.TypeIs (.ref z) _:=#[_,b,rfl]
 refine ay (rc (wpAny_callSpecial?_slot j di
  (kl di j gH ?_<|iQ _)))
 show eg _ _ (field _ 0 >>= _) _ _ s;refine ay (j0 b rfl rfl ?_);refine ay (j0 b rfl rfl ?_);show eg _ _ (if (k:Int)<0 then _ else _) _ _ _
 refine ay (w8 n.typeIs rfl ?_);refine ay (wpAny_mkInt ?_);have g:k<a.size:=by
  rcases Wc k _ with h|h
  .exact h
  .rw[Zy h]at i;cases i
 refine ay (rc<|getItem_tuple n (by lia) o ?_ i ?_)
 .have e:¬((k:Int)<0):=by lia
  simp[abw,g,if_neg e]
 refine ay (j0 b rfl rfl ?_);refine ay (k' b (by simp) λm f c=>?_)
 exact eC #[_,rfl,eC<|hQ _ f c]
theorem Kz(B:A.handled=ca)(h:qE s.heap z l j)(y:j<0)(C:∀h',XJ z s.heap h'->Q ca { s with heap:=h' }):eg (eH prog w) A (vw<|.ref z) Q E s:=by
 have p:s.TypeIs (.ref z) "reversed":=#[_,h,rfl];unfold vw
 refine ay (rc (wpAny_callSpecial?_slot p di
  (kl di p gH ?_<|iQ _)))
 show eg _ _ (field (.ref z) 0 >>= _) _ _ s;refine ay (j0 h rfl (x:=.ref l) rfl ?_);refine ay (j0 h rfl (x:=.int j 0) rfl ?_);show eg _ _ (if j<0 then _ else _) _ _ _
 rw[if_pos y];refine ay (U_ ?_);refine ay (ay (k' h (by simp) λr n i=>?_))
 refine k' n (by simp) λg v f=>?_
 refine ay ?_;refine ay ?_;refine ay (m:=abk _ _) (F' (a:=Wo) (by rfl) ?_)
 refine p3 ?_ (by size_fits)
 simp only[raiseNew];refine ay (abr ?_);rw[show A.in1.handled=ca from B];refine ay (eC<|wpAny_throw ?_);refine ay (wh (T:="StopIteration") (b:=true) #[_,US _ rfl,rfl] W1 ?_);refine eC (C _ ?_);have q:XJ z s.heap g:=λc o u e=>f.extBut _ _ u (i.extBut _ _ u e);exact(q.push _).push _
theorem vG(b:qE s.heap z l j)(h:Q (.ref z) s):eg (eH prog w) A (Z_<|.ref z) Q E s:=by
 have a:s.TypeIs (.ref z) _:=#[_,b,rfl];exact wpAny_pyIter_slot a iU (kl iU a n_ (eC #[_,rfl,_,_,a,rfl,h])<|pU _)
theorem Iz(n:IsTup s.heap l b)(j:(b.size:Int)<2 ^ 63)(h:∀f h',h'.objs.size=s.heap.objs.size+1->qE h' s.heap.objs.size l ((b.size:Int)-1)->(∀c o,s.heap.get? c=ap o->h'.get? c=ap o)->Q (.ref s.heap.objs.size) { s with heap:=h',toks:=f }):
  eg (eH prog w) A (call (.type "reversed") [.ref l]) Q E s:=by
 refine abG (S:=λ_ R s=>IsTup s.heap l b/\∀f,R (.ok<|.ret<|.ref s.heap.objs.size) { s with heap:=s.heap.push { cls:=.type "reversed",data:=.fields (Tw [.ref l,.int ((b.size:Int)-1) 0]) },toks:=f })
  y2 (by decide) (sZ _) (wZ _) (λobj=>iK obj _) qe ?_ #[n,λf=>?_]
 .refine .of_wp λprog w A R s h=>?_
  obtain⟨n,h⟩:=h;obtain⟨q,g,d,f,r⟩:=s;have i:=LH;have p:=n.typeIs;unfold Builtin.«reversed.__new__»;refine ay ?_;unfold Builtin.SmallTypes.newClass;refine ay (F' (a:=true) rfl ?_);rw[if_neg (by simp)]
  refine ay (F' i ?_);rw[if_neg (by simp)]
  refine eC ?_;refine ay (m:=specialOf _ _) (w8 p PH ?_);refine ay ?_;refine ay (wh p G6 ?_);rw[if_neg (by simp)]
  refine ay (w8 (T:="tuple") p slot_tuple_getitem.lookup ?_);show eg _ _ (if (["tuple.__getitem__","str.__getitem__","bytes.__getitem__","bytearray.__getitem__","memoryview.__getitem__","numpy.ndarray.__getitem__","sqlite3.Row.__getitem__"].contains "tuple.__getitem__")=true then _ else _) _ _ _
  rw[if_pos (by decide)]
  refine eC ?_;refine ay (len_tuple n j ?_);show eg _ _ (newObj (.type "reversed") (.fields (Tw [.ref l,.int ((b.size:Int)-1) 0])) >>= _) _ _ _;refine ay (p3 ?_<|by size_fits)
  exact eC #[_,rfl,h _]
 .exact#[#[_,US _ rfl,rfl],h f _ (VH ..) (US _ rfl) λc o e=>UN _ e]
noncomputable def Itv(K:UP)(a:cp)(n:Nat):It:=
 #[λi H=>i<n/\∃xs x,kU K H a xs/\xs[n-1-i]?=ap x,λi H x H'=>H'=H/\∀xs,kU K H a xs->xs[n-1-i]?=ap x,λi _=>n<=i]
theorem IL{K:UP}(a f:cp)(n:Nat)(hn:n<2 ^ 63):Turn P w K tg (Itv K a n) [f] f (λi h=>qE h f a ((n:Int)-1-i)) where
 mem:=by simp
 obj:=λi h c b N=>by
  simp_all
 keep:=λi h B c k=>k f (by simp) _ c
 item:=by
  intro X L F G J i g s Z H E I A c q;subst L F G;obtain⟨hi,xs,x,M,C⟩:=q;obtain⟨O,rv,p,hz⟩:=I.tuple M;obtain⟨u,hu,Y⟩:=rv.get C;obtain⟨m,j,R,r,y,v⟩:=A f (by simp)
  have W:n-1-i=((n-1-i:Nat):Int):=by lia
  refine F_ (by rw[<- W];exact c) (p) (by simpa using hu) (by lia) λB e sb=>?_
  have I1:Inv X _ Z H { s with heap:=B,toks:=s.toks+1 }:=I.turned (λb o N=>(sb.2 b N).trans) m j r y v;have Q:(((n-1-i:Nat):Int))-1=n-1-(i+1:Nat):=by lia
  rw[Q]at e;exact#[u,rfl,vb e rfl rfl (by decide) #[x,H,I1,Y,#[rfl,λys S=>by rw[I.tuple_inj S M];exact C],e,by simp_all]]
 done:=by
  intro X L F G J i g s Z H E I A c q;obtain⟨m,j,R,r,y,v⟩:=A f (by simp)
  have U:n<=i:=q;exact Kz (I.ok.hd J) c (by lia) λB T=>#[rfl,I.turned (T) m j r y v]
 self:=λ_ _ _ _ _ c h=>vG c h
def iRev(K:UP)(t:TA):TI:=λZ H R=>t Z H λa H1=>∃l xs,a=[.ref l]/\kU K H1 l xs/\R (Itv K l xs.length) H1
theorem OQ:ff "reversed"=ap (.type "reversed"):=by rfl
theorem Ot(G:Gl X "reversed")(F:X.mg "reversed"=ca)(J:PA X [a] o)(L:cT [a] X.env=[(cx,fx a X.env)]:=by rfl):
  PI X tg (.Call (.Name "reversed" p) [a] [] pos) (iRev X.K o):=by
 intro j s Z H R I h;refine Call_ (dy I G F OQ<|Vt (bv (J _ _ s Z H _ I h) λP E r=>?_) L rfl);obtain⟨N,H1,I1,y,g⟩:=r;obtain⟨l,m,e,g,q⟩:=g;subst e;obtain⟨M,rfl,f⟩:=y.one;cases f;obtain⟨c,u,B,v⟩:=I1.tuple g;have n:=u.length;have w:m.length<2 ^ 63:=WZ v (by decide)
 refine Iz B (by simp;lia) λC O A i x=>?_
 have I2:Inv X _ Z H1 _:=I1.kept (t':=C) x;refine vG i ?_;refine#[_,_,_,_,H1,rfl,I2,IL l _ _ (by lia),?_,λb Q=>?_,q]
 .have e:c.toArray.size-1=m.length-1-(0:Int):=by simp;lia
  rw[e]at i;exact i
 have e:b=E.heap.objs.size:=by simp_all
 subst e;exact I1.fpOk (UX _) (I1.hok.fresh<|UX _)
end _2
namespace _3
open PySem _2 _S
def QP(t:eh):vW:=λU M R=>t U M λc M1=>one c λa=>onT a λb=>R #[b.reverse,[]] M1
theorem R5(I:Gl X "reversed")(G:X.mg "reversed"=ca)(J:DA X B [a] o)(L:cT [a] X.env=[(cx,fx a X.env)]:=by rfl):
  DI X B tg (.Call (.Name "reversed" p) [a] [] pos) (QP o):=by
 refine g5 (Ot I G J L) ?_
 rintro Z H R ⟨U,M,RR,s,h,E⟩
 refine#[U,M,_,s,h,λds M1 b N H1 j i1 F=>?_]
 replace b:=b.inv;obtain⟨C,rfl,b⟩:=b
 replace b:=b.inv;obtain⟨u,rfl,b⟩:=b
 obtain⟨v,rfl,q,c,rfl,l,m⟩:=fZ (ds:=[]) F;have z:=m.length;refine#[q,c,rfl,l.sq,E _ M1 b _ H1 j i1 λi H2 M2 i2 g _=>#[λd n=>?_,λy=>?_]]
 .have A:i<u.length:=by
   rcases Wc i _ with h|h
   .exact h
   simp_all
  rw[List.getElem?_reverse A]at n;obtain⟨w,f,e⟩:=(m.mono i2).get n;rw[z]at f;refine#[#[by simp_all,c,w,(l.mono i2).sq,f],?_]
  rintro x H3 ⟨rfl,r⟩
  have:=r c (l.mono i2).sq;rw[f]at this;cases this;exact#[Frm.refl,g,e]
 show c.length<=i
 simp_all
end _3
namespace _3
open PySem _2
def tI(C:cp)(ta tv:bb)(f:Str):au:=λD U M=>ta U M λx M1=>onR x λa=>mN (M1 a) λC' fs=>C'=C/\fs.length<1000/\so (fs.lookup f) λb=>onI b λi=>tv U M1 λy M2=>onI y λj=>M2 a=ap (.ins C fs)/\D.nx U (M2.upd a<|.ins C<|b_ f (.int (i-j)) fs)
theorem Eo(c:Cls X.K C)(n:NoAttr X.K C f)(ha:DE X B o ta)(hv:DE X B value tv):DS X B (.AugAssign (.Attribute o f tpos) .Sub value pos) (tI C ta tv f):=by
 refine bV (rA ha hv QA) ?_
 rintro D Z H ⟨U,M,DD,s,h,up⟩
 refine#[U,M,_,s,h,λx M1 h1 v1 H1 rh1 i1 r1=>?_]
 replace h1:=h1.inv;obtain⟨a,rfl,h1⟩:=h1
 cases r1;obtain⟨C',fs,hM,h1⟩:=h1.inv;obtain⟨rfl,hl,h1⟩:=h1;obtain⟨w26,hf,h1⟩:=h1.inv
 replace h1:=h1.inv;obtain⟨i,rfl,h1⟩:=h1
 obtain⟨dx,ws,e1,e2⟩:=rh1 _ _ hM;obtain⟨z,_⟩|⟨d,w,hd,hw,rw1⟩:=e2.lookup f
 .simp_all
 rw[hf]at hd;cases hd;cases rw1;refine#[a,C',dx,ws,_,rfl,e1,c,n,hw,U,M1,_,s.go rh1 i1,h1,λy M2 h2 v2 H2 rh2 i2 r2=>?_]
 replace h2:=h2.inv;obtain⟨j,rfl,h2⟩:=h2
 cases r2;obtain⟨hM2,h2⟩:=h2;obtain⟨dx2,ws2,e3,e4⟩:=rh2 _ _ hM2;have i3:Frm M2 H2 (M2.upd a<|.ins C'<|b_ f (.int (i-j)) fs) (upd H2 a<|.ins C' dx2<|_2.dJ f (.int (i-j)) ws2):=Frm.put (by simp_all)
 exact#[i,j,rfl,rfl,_,_,e3,by rw[<- e4.length];exact hl,up.nx _ _ h2 Z _ ((i1.trans i2).trans i3)<|s.go (rh2.put (by rw[e3];trivial) #[_,_,upd_same,(jY (by trivial) e4).mono<|i3.imm rh2])<|(i1.trans i2).trans i3]
def uF:y8:=λx a M Q=>onI x λi=>nil0 a (Q (.int ((V7 i:Nat):Int)) M)
theorem yi:xu X "int.bit_length" (liftM X uF):=by
 rintro a s Z H x l v m Q I b f ⟨d,j,M,QQ,e,r,c,h,g⟩
 unfold uF at h
 replace h:=h.inv;obtain⟨i,rfl,h⟩:=h
 replace h:=h.inv;obtain⟨rfl,h⟩:=h
 cases r;cases c;obtain⟨t,rfl⟩:=b;cases f;exact PyProof.Rows.call_int_bit_length #[.int _,H,I.tok _,#[_,rfl],g _ M h _ H e Frm.refl rfl]
end _3
namespace _2
open PySem PySem.Spec PyProof.Rows
theorem G2:∀(names:List (Str×W_))(h:g3)(abS:List (Str×cp)),(om h.objs.size names abS).lookup x=ap c->
  abS.lookup x=ap c\/(h.objs.size<=c/\(y' h names).IsCell c ca/\(x,Yb)∈names)
 |[],_,_,e=>.inl e
 |(n,k)::r,h,abS,e=>by
  unfold om at e;unfold y'
  by_cases a:(k==.cell)=true
  .rw[if_pos a]at e ⊢
   have f:(h.push { cls:=.type "cell",data:=.cell ca }).objs.size=h.objs.size+1:=VH ..;rw[<- f]at e;rcases G2 r _ _ e with z|⟨z1,z2,z3⟩
   .rw[WJ]at z
    cases b:x==n with
    |true=>
     rw[b]at z;cases z;exact .inr #[by lia,#[_,WF _ _ _ _ (US _ rfl),rfl],by simp_all]
    |false=>simp_all
   exact .inr #[by lia,z2,by simp_all]
  rw[if_neg a]at e ⊢;rcases G2 r _ _ e with z|⟨z1,z2,z3⟩
  .exact .inl z
  simp_all
theorem xQ:∀(names:List (Str×W_))(n:Nat)(abS:List (Str×cp)),(∀x y c,abS.lookup x=ap c->abS.lookup y=ap c->x=y)->(∀x c,abS.lookup x=ap c->c<n)->
  ∀x y c,(om n names abS).lookup x=ap c->(om n names abS).lookup y=ap c->x=y
 |[],_,_,h,_=>h
 |(z,k)::r,n,abS,h,hl=>by
  unfold om
  split
  .refine xQ r _ _ (λx y c a b=>?_) λx c e=>?_
   .rw[WJ]at a b
    cases f:x==z<;>cases g:y==z<;>rw[f]at a<;>rw[g]at b
    .exact h x y c a b
    .exact absurd (hl _ _ a) (by lia)
    .exact absurd (hl _ _ b) (by lia)
    simp_all
   rw[WJ]at e;cases f:x==z<;>rw[f]at e
   .exact Xc (hl _ _ e)
   simp_all
  exact xQ r _ _ h hl
theorem wS(h:Q (newEnv scope s.heap.objs.size g (om (s.heap.objs.size+1) scope.names cl) a ca .none (ap env) abm) { s with heap:=y' (s.heap.push { cls:=.type "dict",data:=.dict (Tw []) }) scope.names }):
  eg M A (newFunctionEnv scope g cl [] a ca .none<|some env) Q E s:=by
 refine ay (wpAny_alloc ?_);refine ay (wpAny_layCells _ (by lia) _ _ _ _ ?_)
 rw[VH ..];exact ay (by exact eC (eC h))
abbrev bn(X:Cx)(N:abY)(scope:q0)(cl:List (Str×cp))(C:cp)(s₀:cb)(H₀:Hp)(fp:ab0)(pl:ab4):Cx:=
 { Rg X N scope (om (C+1) scope.names cl) C s₀ H₀ fp pl with fn:=λx=>scope.names.lookup x==ap .cell }
structure CompOkC(X:Cx)(scope:q0)(cl:List (Str×cp))(ls fs:abY)(js:List Nat):Prop where
 kind:scope.kind=.function
 locs:∀x∈scope.names,x.2=.local->scope.names.lookup x.1=ap .local
 clos:abl scope X.env=pure cl
 cells:∀x c,cl.lookup x=ap c->X.env.cells.lookup x=ap c
 has:∀x,((K' scope X.env).names.lookup x=ap .cell\/(K' scope X.env).names.lookup x=ap .free)->scope.names.lookup x=ap .cell\/∃c,cl.lookup x=ap c
 frees:Frees X scope fs js
 own:∀x∈fs,(x,Yb)∉scope.names
 once:∀x∈scope.names,x.2=.cell->∀c,cl.lookup x.1=ap c->False
theorem Ej(I:Inv X a Z H s)(co:CompOkC X scope cl ls fs B)(m:∀b∈fp,kj X a H b/\b<s.heap.objs.size):
  Inv (bn X (ls++fs) scope cl s.heap.objs.size s H fp a) [] (dE ls B Z) H { s with heap:=y' (s.heap.push { cls:=.type "dict",data:=.dict (Tw []) }) scope.names,toks:=t' }:=by
 have A:∀b o,s.heap.get? b=ap o->(y' (s.heap.push { cls:=.type "dict",data:=.dict (Tw []) }) scope.names).get? b=ap o:=λb o e=>WF _ _ _ _ (UN _ e);have lk:∀b o,s.heap.get? b=ap o->b≠s.heap.objs.size:=λb o e=>Vg (UQ e);have g:∀{x:Str}{c:cp},(om (s.heap.objs.size+1) scope.names cl).lookup x=ap c->cl.lookup x=ap c\/(s.heap.objs.size+1<=c/\(y' _ scope.names).IsCell c ca/\(x,Yb)∈scope.names):=λ{x c} e=>by
  have hs:(s.heap.push { cls:=.type "dict",data:=.dict (Tw []) }).objs.size=s.heap.objs.size+1:=VH ..;rw[<- hs]at e ⊢;exact G2 _ _ _ e
 have O:∀{x:Str}{c:cp},cl.lookup x=ap c->c<s.heap.objs.size:=λ{x c} e=>by
  obtain⟨v,z⟩:=I.cell x c (co.cells x c e);exact z.lt
 refine#[#[I.ok.mod,co.kind,I.ok.glob,I.ok.blt,UX _,λx y c G E=>?_,λx F=>?_,λx c h e=>?_,I.ok.hd,I.ok.frames,.inl rfl,λb l=>#[Vg (m b l).2,λx c e=>?_],
   λb o e=>I.bs b o e,Vb I.ok.bsz I.sz,λb o e l=>?_,λb l hf=>?_,I.stack,λb l=>I.stkFree b l],
  rfl,I.bare,Un.kept A,#[λ_=>ca,(Heap.Ns.new s.heap<|.type "dict").keeps (WF _ _),λi x v G E h3=>?_],λx c e=>?_,I.hok.fresh (UX _),λx c e=>?_,λp hp=>?_,I.hok.kept A,?_]
 .refine xQ scope.names _ cl (λx y c e1 e2=>I.ok.inj x y c (co.cells x c e1) (co.cells y c e2)) (λx c e=>Xc (O e)) x y c G E
 .rcases co.has x F with z|⟨c,z⟩
  .exact Wi.mp (Xm _ _ _<|.inl z)
  .exact Wi.mp (Xm _ _ _<|.inr<|by rw[z];rfl)
 .rcases g e with z|⟨z,_,_⟩
  .exact(co.once _ (VL<|beq_iff_eq.mp h) rfl c z).elim
  .exact YB z
 .rcases g e with z|⟨z,_,_⟩
  .exact(m b l).1.2.2.2.2.1 x c (co.cells x c z)
  .exact WN (UW (m b l).2<|YB z)
 .obtain⟨f0,S,T,Y,_⟩:=(m b l).1
  rcases Y with z|z
  .exact I.ok.noex b o e z
  .exact absurd (UW (UQ (I.ok.bs b o e).1) z) (VC _)
 .obtain⟨f0,S,T,Y,_⟩:=(m b l).1
  rcases UU.mp (I.stkSub b hf) with z|z
  .exact S z
  .exact T z
 .have C:¬i<ls.length:=λC=>by
   have f:(dE ls B Z)[i]?=ap (ap v):=E;unfold dE at f;rw[WR (by simpa using C),UT,UO C]at f
   cases f
  have hN:fs[i-ls.length]?=ap x:=by
   have P:(ls++fs)[i]?=ap x:=G
   rwa [V0 (by lia)]at P
  obtain⟨j,hj,F,W,hl⟩:=co.frees.get hN;have Q:Z[j]?=ap (ap v):=by
   have f:(dE ls B Z)[i]?=ap (ap v):=E;unfold dE at f;rw[V0 (by simpa using C),UM,UT,hj]at f
   have q:(Z[j]?).join=ap v:=by simpa using f
   cases e:Z[j]? with
   |none=>rw[e]at q;cases q
   |some o=>rw[e]at q;have q':o=ap v:=q;rw[q']
  obtain⟨mX,_,M⟩:=I.loc;have L:RH X.env.scope x:=by
   rcases W with z|z
   .exact .inr (.inl z)
   .exact .inr (.inr z)
  obtain⟨u,ru,lo⟩:=M j x v F Q L;refine#[u,ru,.inr #[hl,?_]];have w:x∈fs:=VR hN;have r:∃c,(om (s.heap.objs.size+1) scope.names cl).lookup x=ap c:=by
   rcases co.has x hl with z|⟨c,z⟩
   .exact absurd (VL z) (co.own x w)
   .exact Wi.mp (Xm _ _ _<|.inr<|by rw[z];rfl)
  obtain⟨c,R⟩:=r;refine#[c,R,?_];have N:cl.lookup x=ap c:=by
   rcases g R with z|⟨_,_,z⟩
   .exact z
   .exact absurd z (co.own x w)
  rcases lo with⟨U,_⟩|⟨_,c',e',z⟩
  .rcases W with q|q<;>(rw[q]at U;cases U)
  .rw[co.cells x c N]at e'
   cases e';obtain⟨o,J,hd⟩:=z;exact#[o,A _ _ J,hd]
 .rcases g e with z|⟨_,z,_⟩
  .obtain⟨v,o,J,hd⟩:=I.cell x c (co.cells x c z)
   exact#[v,o,A _ _ J,hd]
  .exact#[_,z]
 .rcases g e with z|⟨z,_,_⟩
  .exact I.freeC x c (co.cells x c z)
  .exact I.hok.fresh (YB z)
 .have K:p∈X.pn++a:=by
   have q:p∈(X.pn++a)++[]:=hp;simpa using q
  obtain⟨e,n,ne,nf,d⟩:=I.pin p K;refine#[A _ _ e,n,lk _ _ e,λl=>?_,d];rcases UU.mp (I.stkSub p.1 l) with z|z
  .exact ne z
  .exact nf z
 .show (dE ls B Z).length=(ls++fs).length
  unfold dE;rw[Vi,UM,UM,Vi,co.frees.length]
theorem qB{R:ax->cp->abq->cb->Prop}{Q:VK}(hc:X.calm=true)(co:CompOkC X scope cl ls fs js)(hY:∀(C:cp)(s₀:cb)(H₀:Hp)(h:ab0)(pl:ab4),PG (bn X (ls++fs) scope cl C s₀ H₀ h pl) tg g/\Rc (bn X (ls++fs) scope cl C s₀ H₀ h pl) ifs tt/\PE (bn X (ls++fs) scope cl C s₀ H₀ h pl) elt te)(I:Inv X a Z H1 s2)(T:Turn X.prog X.w X.K tg J h it tn)(st:tn 0 s2.heap)(M:∀b∈h,kj X a H1 b)(q:∀p,H1 p=ca->∃W:Nat->Nat->St->Hp->Prop,(∃m,W 0 m (dE ls js Z) (upd H1 p<|.lst []))/\∀i m j H',W i m j H'->
   (J.stop i H'/\Q (.ref p) H')\/(J.go i H'/\∃N:St->Hp->Prop,(∀σ2 H2,N σ2 H2->∃m',m'<m/\W (i+1) m' σ2 H2)/\∀x H2,J.yld i H' x H2->g x j H2 λσ3 H3=>tt σ3 H3 λc H4=>
    if c=true then te σ3 H4 λy H5=>∃ys,H5 p=ap (.lst ys)/\ys.length<sizeLine/\N σ3 (upd H5 p<|.lst (ys++[y])) else N σ3 H4))(hR:∀(p C:cp)(H':Hp)(S:cb)(m:ab5),S.heap.Ns C m->Inv X a Z H' S->H' C=ca->C≠X.env.locals->X.s₀.heap.objs.size<=C->(∀x c,X.env.cells.lookup x=ap c->c≠C)->(∀pp∈X.pn++a,pp.1≠C)->Q (.ref p) H'->R (.ref p) C (.ok .next) S):
  eg (eH X.prog X.w) X.A (newList []) (λabS s₃=>eg (eH X.prog X.w) X.A (newFunctionEnv scope X.env.globals cl [] X.env.qual ca .none<|some X.env) (λcenv s₄=>
   x9 (eH X.prog X.w) X.A (.compStart (.ListComp elt [#[tg,iter,ifs,0]] scope pos) 0 (.ref it) abS { cenv with scope:=K' scope X.env }) (R abS cenv.locals) s₄) E s₃) E s2:=by
 have hp0:H1 s2.heap.objs.size=none:=I.hok.fresh (UX _);obtain⟨W,⟨m0,w0⟩,turn⟩:=q s2.heap.objs.size hp0;refine p3 (wS ?_);dsimp only;have I3:Inv X a Z (upd H1 s2.heap.objs.size<|.lst []) _:=
  I.lnew (abV:=[]) (t':=s2.toks) .nil (W2 _)
 generalize hs3:({ s2 with heap:=s2.heap.push { cls:=.type "list",dict:=ca,data:=.seq ([]:abZ).toArray } }:cb)=s3 at I3;have L:s2.heap.push { cls:=.type "list",dict:=ca,data:=.seq ([]:abZ).toArray }=s3.heap:=by rw[<- hs3]
 rw[L];have hsz3:s3.heap.objs.size=s2.heap.objs.size+1:=by rw[<- L,VH]
 have hk3:∀b o,s2.heap.get? b=ap o->s3.heap.get? b=ap o:=λb o e=>by rw[<- L];exact UN _ e
 have hlt:∀b∈h,b<s2.heap.objs.size:=λb f=>by
  obtain⟨o,e,_⟩:=T.obj _ _ st b f;exact UQ e
 have hnp:∀b∈h,upd H1 s2.heap.objs.size (.lst []) b=none:=λb f=>by
  rw[aF (Vg<|hlt b f)];exact(M b f).1
 have hf3:∀b∈h,kj X a (upd H1 s2.heap.objs.size<|.lst []) b/\b<s3.heap.objs.size:=λb f=>#[#[hnp b f,(M b f).2],by rw[hsz3];exact Xc (hlt b f)]
 have hk4:∀b o,s3.heap.get? b=ap o->(y' (s3.heap.push { cls:=.type "dict",data:=.dict (Tw []) }) scope.names).get? b=ap o:=λb o e=>WF _ _ _ _ (UN _ e);have I4:=Ej (t':=s3.toks) I3 co hf3;generalize y' (s3.heap.push { cls:=.type "dict",data:=.dict (Tw []) }) scope.names=h₁ at hk4 I4;have st4:tn 0 h₁:=T.keep _ _ _ st λb f o e=>hk4 b o (hk3 b o e);obtain⟨hg,ht,he⟩:=hY s3.heap.objs.size s3 (upd H1 s2.heap.objs.size<|.lst []) h a;have B:∀{H':Hp},(∀b∈h,H' b=ca)->∀b∈h,kj _ [] H' b:=λ{H'} hn b f=>by
  obtain⟨f0,f1,f2,f3,f4,f5⟩:=M b f;refine#[hn b f,Vg (hf3 b f).2,λz=>?_,.inl f,λx c e=>(I4.ok.exf b f).2 x c e,λpp P=>f5 pp ?_]
  .rcases UU.mp (I3.stkSub b z) with y|y
   .exact f1 y
   .exact f2 y
  .have q:pp∈(X.pn++a)++[]:=P
   simpa using q
 have loop:∀s₄:cb,s₄={ s3 with heap:=h₁,toks:=s3.toks }->
   x9 (eH X.prog X.w) X.A (.compLoop (.ListComp elt [#[tg,iter,ifs,0]] scope pos) 0 (.ref it) (.ref s2.heap.objs.size)<|compEnvC scope (om (s3.heap.objs.size+1) scope.names cl) s3.heap.objs.size X.env) (R (.ref s2.heap.objs.size) s3.heap.objs.size) s₄:=by
  rintro s₄ rfl
  refine rE (λn S=>∃i j H',Inv _ [] j H' S/\tn i S.heap/\(∀b∈h,H' b=ca)/\W i n j H') ?_ m0 #[0,_,_,I4,st4,hnp,w0]
  rintro n s5 ⟨i,G,H5,I5,U,Y,w5⟩
  rcases turn i n G H5 w5 with⟨stop,qn⟩|⟨go,N,hN,step⟩
  .refine bv (T.done (bn X (ls++fs) scope cl s3.heap.objs.size s3 (upd H1 s2.heap.objs.size<|.lst []) h a) rfl rfl rfl hc i [] s5 G H5 _ I5 (B Y) U stop) λr s6 l=>?_
   obtain⟨hr,I6⟩:=l;subst hr;obtain⟨m6,hn6,_⟩:=I6.loc;have IX:Inv X a Z H5 s6:=I3.call' I6.os I6.base I6.hok I6.bare λb f=>#[(M b f).2.2.2.1,(M b f).2.1,(M b f).2.2.2.2.1,(M b f).2.2.2.2.2];refine hR _ _ H5 s6 m6 hn6 IX I6.free (WN I3.lt) I3.sz (λx c e z=>?_) (λpp P z=>?_) qn
   .obtain⟨v,l⟩:=I3.cell x c e
    have zl:=l.lt;rw[z]at zl;exact VC _ zl
   .have zl:=UQ (I3.pin pp P).1
    rw[z]at zl;exact VC _ zl
  .refine bv (T.item (bn X (ls++fs) scope cl s3.heap.objs.size s3 (upd H1 s2.heap.objs.size<|.lst []) h a) rfl rfl rfl hc i [] s5 G H5 _ I5 (B Y) U go) λr s6 l=>?_
   obtain⟨u,hr,h6⟩:=l;subst hr;refine bv h6 λ_ s7 l=>?_;obtain⟨x,H7,I7,r7,y7,H,fr7⟩:=l;have I7':=I7.pinned (B fr7) (T.obj _ _ H);refine bv (hg _ s7 G H7 x u _ I7' r7<|step x H7 y7) λ_ s8 l=>?_;obtain⟨σ8,H8,I8,q8⟩:=l
   have again:∀{s:St}{H9:Hp}{O:cb},Inv _ ([]++nY h s7.heap) s H9 O->N s H9->
     ∃m,m<n/\∃i j H',Inv (bn X (ls++fs) scope cl s3.heap.objs.size s3 (upd H1 s2.heap.objs.size<|.lst []) h a) [] j H' O/\tn i O.heap/\(∀b∈h,H' b=ca)/\W i m j H':=λ{s H9 O} I9 n9=>by
    obtain⟨m',hm,w9⟩:=hN s H9 n9;refine#[m',hm,i+1,s,H9,I9.unpinned,T.keep _ _ _ H λb f o e=>(I9.pin (b,o)<|Vz _<|Vz _<|g6 f e).1,λb f=>?_,w9];obtain⟨o,e,d⟩:=T.obj _ _ H b f;exact(I9.pin (b,o)<|Vz _<|Vz _<|g6 f e).2.1
   refine bv (ht _ s8 σ8 H8 _ I8 q8) λok O l=>?_;obtain⟨H9,I9,q9⟩:=l;cases ok with
   |false=>exact again I9 q9
   |true=>
    refine bv (he _ O σ8 H9 _ I9 q9) λxv s10 l=>?_;obtain⟨y,H10,I10,r10,ys,P,hl,n10⟩:=l;obtain⟨z,abV,n',r,hl',e⟩:=I10.lstM P;refine n7 Yf #[_,e,rfl] F.entry_list_append (F.args_list_append_2 _ _) (aab s2.heap.objs.size abV.toArray n' xv<|by rw[Ve];lia) #[e,?_]
    refine again (I10.lset (its':=abV++[xv]) P e (by simp) (r.append<|.cons r10 .nil) ?_) n10
    rw[Vi,WA];lia
 have se:({ s2 with heap:=h₁ }:cb)={ s3 with heap:=h₁,toks:=s3.toks }:=by rw[<- hs3]
 exact codeAny_compStart_list (loop _ se) (T.self _ 0 _ _ _ st4<|loop _ se)
theorem Fh(G:X.calm=true)(co:CompOkC X scope cl ls fs js)(E:PI X tg iter wi)(B:∀(C:cp)(a:cb)(H₀:Hp)(f:ab0)(pl:ab4),PG (bn X (ls++fs) scope cl C a H₀ f pl) tg g/\Rc (bn X (ls++fs) scope cl C a H₀ f pl) ifs tt/\PE (bn X (ls++fs) scope cl C a H₀ f pl) elt te)(F:∀x,qa iter X.env x=pure x):PE X (.ListComp elt [#[tg,iter,ifs,0]] scope pos) (HB wi ls js g tt te):=by
 intro l s Z H Q I h;refine abt rfl F co.clos co.kind co.locs (bv (E _ s Z H _ I h) λM K n=>bv n λz s2 w=>?_);obtain⟨N,f,O,J,H2,e,I2,T,i,o,q⟩:=w;subst e;refine qB G co B I2 T i o q ?_;intro p C H' L m r IX v u j b c y;exact#[m,r,λP A=>#[.ref p,H',IX.turned A.extBut v u (.inr j) b c,rfl,y]]
end _2
namespace _3
open PySem _2
theorem TN(h:N.Nodup):(bn X N scope cl C a H₀ b pl).N.Nodup:=h
theorem AD(h:FC X scope fs js cl)(r:scope.kind=.function)(f:∀y∈scope.names,(y.2=.free->y.1∈fs)/\(y.2=.cell->y.1∉fs/\scope.names.lookup y.1=ap .cell))(q:∀x∈scope.names,x.2=.local->scope.names.lookup x.1=ap .local)
  (l:abl scope X.env=pure cl):CompOkC X scope cl ls fs js:=by
 obtain⟨b,s,a,p,o⟩:=h.ok;subst p;refine#[r,q,l,λy d h=>o _ (VL h),λy h=>?_,b,λx i j=>((f _ j).2 rfl).1 i,λx i j c e=>((f _ i).2 j).1 (WV<|VL e).1];have m:scope.names.lookup y=ap .cell\/y∈fs:=by
  rcases h with h|h
  .obtain⟨n,b,a|⟨a,_⟩⟩:=gP h
   .exact .inl ((f _ b).2 a.symm).2
   exact .inr ((f _ b).1 a)
  obtain⟨n,b,a|⟨a,_⟩⟩:=gP h
  .exact .inr ((f _ b).1 a.symm)
  trivial
 exact m.imp id (lc a)
theorem HI(o:X.calm=true)(h:FC X scope fs js cl)(l:scope.kind=.function)(e:∀y∈scope.names,(y.2=.free->y.1∈fs)/\(y.2=.cell->y.1∉fs/\scope.names.lookup y.1=ap .cell))(i:∀x∈scope.names,x.2=.local->scope.names.lookup x.1=ap .local)
  (c:abl scope X.env=pure cl) (m:DI X B tg iter wi)
  (j:∀(C:cp)(a:cb)(H₀:Hp)(b:ab0)(pl:ab4),DG (bn X (ls++fs) scope cl C a H₀ b pl) Lq tg g)
  (f:∀(C:cp)(a:cb)(H₀:Hp)(b:ab0)(pl:ab4),RZ (bn X (ls++fs) scope cl C a H₀ b pl) Lq ifs tt)
  (hE:∀(C:cp)(a:cb)(H₀:Hp)(b:ab0)(pl:ab4),DE (bn X (ls++fs) scope cl C a H₀ b pl) Lq elt te)
  (n:∀x,qa iter X.env x=pure x):DE X B (.ListComp elt [#[tg,iter,ifs,0]] scope pos) (aV wi ls js g tt te):=
 aT (Fh o (AD h l e i c) m (λC a H₀ b pl=>#[Gw (j C _ _ b pl),Dn (f C _ _ b pl),HA<|hE C _ _ b pl]) n) λ_ _ _ h=>qZ h
section
variable{K:UP}{f:cp}{fd:gp}{ps:abY}{x abQ:Str}{st:ol}{dv:Int}
theorem fnDV(F:FunV K x abQ st f fd)(S:FnScope N ps (aR st))
  (p:∀(b:ax)(A:f')(a:List Env)(s:cb)(H:Hp)(E:XK)(B:Bd)(EE:DX),Room k (A.deeper<|Xa abQ (aR st) s.heap.objs.size f b)->ve K B EE E->
   B3 (eZ (qW P w) P w K mg base N abQ (aR st) f b A a s H E) B (bC st) (T EE)):
  FnOk P w K mg base (qW P w) (k+1) f fd ps (bG K ps.length<|aK N T):=by
 obtain⟨J,y,kV,g,I,L,b,z,i,_,rfl,lk,c⟩:=F.ex;refine Nc lk c S (λl H Q E h=>h.1) λA a s H l Q E o e=>?_;obtain⟨G,v,M,QQ,EE,rh,r,m,u,ux⟩:=e;exact#[_,p _ A _ s H E (Bd.of M H) _ o ux.drp,_,M,_,#[Frm.refl,rh,.startN N r],m,#[λU M' q Z H' f j=>u.drp _ M' q _ H' j.rh f rfl,u.drp,λU M' q=>q.elim,λU M' q=>q.elim]]
abbrev OkV(P:eX)(w:gl)(mg:ab5)(base:g3)(_:FunV K x abQ st f fd)(_:Binds K fd ps [])(k:Nat)(S:Sd):Prop:=FnOk P w K mg base (qW P w) k f fd ps (bG K ps.length S)
theorem Su(g:S=aK N T)(F:FunV K x abQ st f fd)(b:Binds K fd ps [])(e:FnScope N ps (aR st))
  (i:FnScope N ps (aR st)->∀(c:ax)(A:f')(a:List Env)(s:cb)(H:Hp)(E:XK)(B:Bd)(EE:DX),Room k (A.deeper<|Xa abQ (aR st) s.heap.objs.size f c)->ve K B EE E->
   B3 (eZ (qW P w) P w K mg base N abQ (aR st) f c A a s H E) B (bC st) (T EE)):OkV P w mg base F b (k+1) S:=by
 subst g;exact fnDV F e (i e)
structure NV(K:UP)(x:Str)(st:ol)(f:cp)(fd:gp)(dv:Int):Prop where
 a:V4 K eT x=ap (ap<|.ref f)
 F:∃(oc:ax)(od:Option cp)(kV doc pm:ax)(an:Option cp)(cdv ct:ax)(osl:Array (Option ax))(T:cp)(ob:Obj)(m:Nat)(t:Tok),
  fd=Xl x x (cq st) (bC st) (aR st) (.ref T) kV doc pm an cdv ct/\K.lookup f=ap #[oc,od,.func fd,osl]/\YI K cdv x=true/\K.lookup T=ap ob/\ob.data=.seq (Tw [.int dv t]) m
 kp:V8 K (.ref f)=true
theorem Sm{kV:ax}(a:V4 K eT x=ap (ap<|.ref f))
  (l:K.lookup f=ap #[s,u,.func (Xl x x (cq st) (bC st) (aR st) (.ref T) kV e q i b r),j]) (c:YI K b x=true) (k:V8 K (.ref f)=true)
  (lt:K.lookup T=ap #[p,o,.seq (Tw [.int dv t]) m,g]):NV K x st f (Xl x x (cq st) (bC st) (aR st) (.ref T) kV e q i b r) dv:=
 #[a,#[s,u,kV,_,q,i,_,r,_,T,_,m,t,rfl,l,c,lt,rfl],k]
abbrev BndV(ps:abY)(x:Str)(st:ol)(dv:Int):Prop:=∀(kV doc pm:ax)(an:Option cp)(cdv ct:ax)(T:cp)(t:Tok),
 (∀u:ax,∃k,abn (Xl x x (cq st) (bC st) (aR st) (.ref T) kV doc pm an cdv ct) #[[u],[]]=seqItems? (.ref T) >>= k/\k (ap (Tw [.int dv t]))=pure (ps.zip [u,.int dv t]))/\
 ∀u v:ax,∃k,abn (Xl x x (cq st) (bC st) (aR st) (.ref T) kV doc pm an cdv ct) #[[u,v],[]]=seqItems? (.ref T) >>= k/\k (ap (Tw [.int dv t]))=pure (ps.zip [u,v])
theorem gv(X:K.In h)(G:h.Ns eT mg)(l:NV K x st f fd dv)(H:ps.length=2)(r:BndV ps x st dv):GV K mg x st f fd ps dv:=by
 obtain⟨a,⟨F,E,kV,z,e,j,B,g,y,T,I,m,t,rfl,A,c,lt,q⟩,kp⟩:=l;refine#[#[#[F,E,kV,_,e,j,_,g,_,T,rfl,A,c],kp],λs p KX o=>?_,#[t,λs p KX o=>?_],kp,XA X G a]
 .rcases p with _|⟨u,_|⟨v,_|_⟩⟩<;>try simp_all
  obtain⟨k,b,i⟩:=(r kV _ e j _ g T t).2 u v;exact W.binds_K KX rfl lt q b i
 rw[Vi,H]at o;rcases p with _|⟨u,_|_⟩<;>try cases o
 obtain⟨k,b,i⟩:=(r kV _ e j _ g T t).1 u;exact W.binds_K KX rfl lt q b i
end
section
variable{dv:Int}
def yv(T:Sd)(EE:DX)(n:Nat)(dv:Int)(t:eh):bb:=λU M Q=>t U M λa M1=>a.length+1=n/\calls T EE (a++[.int dv]) M1 Q #[]
def LI(X:Cx)(B:Bd)(x:Str)(T:Sd)(EE:DX)(n:Nat)(dv:Int):Prop:=∃(st:ol)(f:cp)(fd:gp)(ps:abY)(k:Nat)(CX:qd)(E:XK),GV X.K X.mg x st f fd ps dv/\FnOk X.prog X.w X.K X.mg X.base CX k f fd ps (bG X.K n T)/\Room k X.A/\bX CX X E/\ve X.K B EE E
theorem Ja(h:LI X B x T EE n dv)(r:Gl X x)(w:DA X B (e::es) t)(c:(x==("__debug__":Str))=cx)(v:cT (e::es) X.env=(cx,fx e X.env)::cT es X.env)(b:(ix pos<|starEach es X.env).any (·.1)=cx):
  DE X B (.Call (.Name x p) (e::es) [] pos) (yv T EE n dv t):=by
 obtain⟨_,_,_,_,_,_,_,h,F,l,j,ux⟩:=h;obtain⟨o,q⟩:=h.d;refine aT (BK F l r h.m h.k q (dvs:=[.int dv]) (.cons #[o,rfl] .nil) j w c v b) ?_
 rintro Z H Q ⟨U,M,QQ,s,h,u⟩
 exact#[U,M,_,s,h,λy M1 g z H1 a i1 i=>de g.2 a (i.append<|.cons rfl .nil) (by rw[Vi,<- i.length];exact g.1) (u.go i1) ((s.ux ux).go i1)]
end
end _3
namespace _3
open PySem _2 PyProof.Rows
def Hf:fQ:=λx y M Q=>onR x λa=>mLe (M a) (λb=>onI y λi=>0<=i/\so b[i.toNat]? λd=>Q d M) (s2 (rO M a y) λd=>Q d M)
theorem Lz(P:X.A.units+1<l'):T6 X (liftR2 X Hf):=by
 rintro o s Z H x y v u Q I l n ⟨d1,S,M,QQ,c,K,j,h,m⟩
 unfold Hf at h
 replace h:=h.inv;obtain⟨a,rfl,h⟩:=h
 cases K
 replace h:=h.inv;rcases h with⟨U,J,h⟩|h
 .replace h:=h.inv;obtain⟨i,rfl,O,h⟩:=h
  obtain⟨d,e,h⟩:=h.inv;cases j;cases l;obtain⟨t,rfl⟩:=n;obtain⟨G,C,L⟩:=c _ _ J;obtain⟨p,r,pl,T⟩:=I.list (SqL.of C);obtain⟨z,E,N⟩:=L.get e;obtain⟨w,ew,b⟩:=r.get E;have W:=gx;have F:i.toNat<G.length:=by
   rcases Wc _ _ with q|q
   .exact q
   simp_all
  exact wpAny_getItem_list pl.isList O (by lia) (by simp_all) #[z,H,I,b,m _ M h _ H c Frm.refl N]
 obtain⟨d,e,h⟩:=h.inv;cases l;rcases lZ c j e with⟨z,_⟩|⟨d',w,z,g,b⟩
 .cases z
 cases z;exact qu P I g n λR Y I3 f=>#[w,H,I3,f,m _ M h _ H c Frm.refl b]
def vD(to ti te:bb)(r:fQ):au:=λD U M=>to U M λo M1=>ti U M1 λi M2=>Hf o i M2 λx M3=>te U M3 λy M4=>r x y M4 λz M5=>lD o i z M5 λM6=>D.nx U M6
theorem C9(E:X.A.units+1<l')(ho:DE X B o to)(hi:DE X B i ti)(he:DE X B e te)(hp:Ih X F (liftR2 X r))
  (ha:∀n m new,augStore i n m new=(do o4 [new,n,m] (abh n m new);release [new,n,m] [];pure .next)):DS X B (.AugAssign (.Subscript o i tpos) F e pos) (vD to ti te r):=by
 refine bV (Lx ho hi (Lz E) he hp (zH E) ha) ?_
 rintro D Z H ⟨U,M,DD,s,h,S⟩
 refine#[U,M,_,s,h,λC M1 J v1 H1 a v z=>?_];refine#[U,M1,_,s.go a v,J,λx M2 T v2 H2 b g y=>?_];refine#[C,x,M2,_,b,z.mf a g,y,T,λY M3 W v3 H3 c j K=>?_];refine#[U,M3,_,s.go c ((v.trans g).trans j),W,λR M4 N v4 H4 q l I=>?_];refine#[Y,R,M4,_,q,K.mf c l,I,N,λL M5 G v5 H5 p w P=>?_];refine#[C,x,L,M5,_,p,z.mf a (((g.trans j).trans l).trans w),y.mf b ((j.trans l).trans w),P,G,λM6 Q H6 u O=>?_];have f:=((((v.trans g).trans j).trans l).trans w).trans O;exact S.nx U M6 Q Z H6 f (s.go u f)
end _3
namespace _3
open PySem _2
def Jo:oz:=λc M Q=>one c λb=>onI b λa=>Q (.int (if a<0 then -a else a)) M
theorem Ed:bw X (.builtin "abs") (liftC X Jo):=by
 rintro a s Z H l m Q I r ⟨ds,M,QQ,e,j,h,g⟩
 unfold Jo at h
 replace h:=h.inv;obtain⟨i,rfl,h⟩:=h
 replace h:=h.inv;obtain⟨b,rfl,h⟩:=h
 obtain⟨v,rfl,f⟩:=fZ (ds:=[]) j;cases f;obtain⟨u,rfl,c⟩:=hZ r;obtain⟨t,rfl⟩:=c;exact PyProof.Rows.call_abs_int λu n=>#[.int _,H,I.tok _,#[_,rfl],g _ M h _ H e Frm.refl rfl]
theorem KF:ff "abs"=ap (.builtin "abs"):=by rfl
end _3
namespace _S
open PySem PySem.W PySem.Calls PyProof.Rows PyProof.V PySem.Spec
theorem Eg(b:s.TypeIs (.ref d) "dict")(e:(d==mu)=cx)(c:s.heap.get? d=ap od)(a:od.data=.dict es ep)
  (f:Q (.ref s.heap.objs.size) { s with heap:=s.heap.push { cls:=.type "dict_keyiterator",data:=.fields (Tw [.ref d,.int 0 0,.int es.size 0,.int ep 0]) } }):eg (eH prog w) A (Z_<|.ref d) Q E s:=by
 refine wpAny_pyIter_slot b F.slot_dict_iter (kl F.slot_dict_iter b F.entry_dict_iter ?_<|F.args_dict_iter_1 _);refine ay ?_;refine ay (wpAny_notOrdered_dict b ?_);refine eC ?_;show eg _ _ (YN d >>= _) _ _ s;unfold YN;rw[if_neg (by rw[e];exact Yq)]
 refine ay (eC ?_);refine ay (wpAny_dictEntries c a ?_);refine ay (wpAny_dictEpoch c a ?_);refine ay (p3<|wpAny_pure #[_,rfl,_,_,#[_,US _ rfl,rfl],rfl,?_])
 assumption
theorem Ey(a:s.heap.IsKeyIter it d i n ep)(c:s.heap.get? d=ap od)(e:od.data=.dict es ep)(l:es.size=n)(h:i<es.size)
  (hQ:∀h',h'.IsKeyIter it d (i+1) n ep->VZ it s.heap h'->Q (ap es[i].key) { s with heap:=h' }):eg (eH prog w) A (vw<|.ref it) Q E s:=by
 obtain⟨o,g,j,f⟩:=id a;unfold vw;refine ay (rc<|wpAny_callSpecial?_slot a.typeIs WB<|wpAny_call_entry WB a.typeIs Y2 (ay<|wpAny_pure<|wpAny_bind<|wpAny_bind ?_)<|YY _);refine ay (abd a.typeIs<|wpAny_pure<|wpAny_bind<|wpAny_fieldsOf g f ?_);refine ay (eC<|wpAny_bind<|wpAny_dictEntries c e ?_);rw[if_neg (by rw[l];simp)]
 refine ay (eC<|wpAny_bind<|wpAny_dictEpoch c e ?_);rw[if_neg (by simp)]
 refine eC ?_;simp only[if_false,Vj,Y8 h];refine ay (ay<|wpAny_typeNameOfWhole_keyiter a.typeIs<|wpAny_pure ?_);refine ay (abI a.typeIs ?_);show eg _ _ (setField (.ref it) 1 (ra ((i:Int)+1)) >>= _) _ _ s;refine ay (abj g f (by simp) ?_)
 have b:(s.heap.update it<|Obj.mapFields (·.setIfInBounds 1 (ra ((i:Int)+1)))).IsKeyIter it d (i+1) n ep:=
  #[_,Xd _ g (ZT<|XB f _),(Obj.cls_mapFields ..).trans j,by rw[XB f];simp[ra]]
 refine ay (kr ?_);refine ay (abI b.typeIs ?_);exact eC (eC #[_,rfl,eC<|hQ _ b<|Wz ..])
theorem J9(p:A.handled=ca)(c:s.heap.IsKeyIter it d i n ep)(e:s.heap.get? d=ap od)(f:od.data=.dict es ep)(l:es.size=n)(g:es.size<=i)
  (q:∀h',XJ it s.heap h'->Q ca { s with heap:=h' }):eg (eH prog w) A (vw<|.ref it) Q E s:=by
 obtain⟨o,j,r,h⟩:=id c;unfold vw;refine ay (rc<|wpAny_callSpecial?_slot (name:=W8 "__next__") c.typeIs WB<|wpAny_call_entry WB c.typeIs Y2 (ay<|wpAny_pure<|wpAny_bind<|wpAny_bind ?_)<|YY _);refine ay (abd c.typeIs<|wpAny_pure<|wpAny_bind<|wpAny_fieldsOf j h ?_);refine ay (eC<|wpAny_bind<|wpAny_dictEntries e f ?_);rw[if_neg (by rw[l];simp)]
 refine ay (eC<|wpAny_bind<|wpAny_dictEpoch e f ?_);rw[if_neg (by simp)]
 refine eC ?_;simp only[show ¬((i:Int)<0) from by lia,if_false,Vj,Zy g]
 refine ay (ay<|wpAny_typeNameOfWhole_keyiter c.typeIs<|wpAny_pure ?_);show eg _ _ (setField (.ref it) 0 .none >>= _) _ _ s;refine ay (abj j h (by simp) ?_)
 simp only[newExc,newTuple];refine ay (ay<|wpAny_newObj_type ?_<|by size_fits)
 refine ay (m:=abk _ _) (F' (a:=Wo) (by rfl)<|wpAny_newObj_type ?_<|by size_fits)
 simp only[raiseNew];refine ay (abr ?_);rw[show A.in1.handled=ca from p];refine ay (eC<|wpAny_throw<|wpAny_bind ?_);refine wh (T:="StopIteration") (b:=true) #[_,US _ rfl,rfl] W1 (eC ?_);exact q _ (((Wz ..).extBut.push _).push _)
end _S
namespace _2
open PySem PySem.Spec PyProof.Rows _S
noncomputable def Itf(d:cp)(od:Obj)(abR:List (List aD×V)):It:=
 #[λi H=>H d=ap (.frz od<|.dT abR)/\i<abR.length,
  λi H v H'=>H'=H/\∃ks x b,abR[i]?=ap (ks,x)/\H b=ap (.tup<|ks.map kV)/\v=.ref b,
  λi H=>H d=ap (.frz od<|.dT abR)/\abR.length<=i]
theorem DR{K:UP}(d f:cp)(hd:M.data=.dict es L)(J:es.size=abR.length):
  Turn P w K tg (Itf d M abR) [f] f (λi h=>h.IsKeyIter f d i abR.length L) where
 mem:=by simp
 obj:=λi h a b G=>by
  have e:b=f:=by simp_all
  obtain⟨o,e,c,d⟩:=a
  simp_all
 keep:=λi h F a k=>a.at λo e=>k f (by simp) o e
 item:=by
  intro X Y R S B i l s Z H E I z a q;obtain⟨e,U⟩:=q;obtain⟨m,T,r,C⟩:=I.frzT e hd;have A:abR[i]?=ap (abR[i].1,abR[i].2):=by simp_all
  obtain⟨b,u,e1,N,e3⟩:=r.at A;have j:i<es.size:=by simp_all
  have ee:es[i]=entryOfKey (aa'<|aU X.prog X.w) (abR[i].1,b,u):=by
   have:=entry_at C i;rw[Y8 j]at this
   simp_all
  have W:es[i].key=.ref b:=by rw[ee];rfl
  obtain⟨p,n,O,v,y,x⟩:=z f (by simp)
  refine Ey a m hd J j λF g sb=>?_;rw[W];have I1:Inv X _ Z H _:=I.turned (t':=s.toks) (λb o G=>(sb.2 b G).trans) p n v y x;obtain⟨o,e,c,d⟩:=id g;exact#[_,rfl,vb e c d (by decide) #[.ref b,H,I1,rfl,#[rfl,_,_,b,A,N,rfl],g,by simp_all]]
 done:=by
  intro X Y R S B i l s Z H E I z a q;obtain⟨e,U⟩:=q;obtain⟨m,T,r,C⟩:=I.frzT e hd;obtain⟨p,n,O,v,y,x⟩:=z f (by simp)
  exact J9 (I.ok.hd B) a m hd J (by simp_all) λF Q=>#[rfl,I.turned (Q) p n v y x]
 self:=λ_ _ _ _ _ a h=>wpAny_pyIter_keyiter a h
def TL(to:TE):TI:=λZ H R=>to Z H λx H1=>∃a od abR,x=.ref a/\H1 a=ap (.frz od<|.dT abR)/\R (Itf a od abR) H1
theorem Lj(E:PE X o to):PI X C o (TL to):=by
 intro i s Z H R I h;refine bv (E _ s Z H _ I h) λv A p=>?_;obtain⟨x,H1,I1,w,a,J,f,B,e,q⟩:=p;subst B;cases w;obtain⟨c,z,y,K,r,L,n,G,j,u,l,m,F⟩:=(I1.hok a _ e);rw[c]at j;cases j;have g:n.size=f.length:=by rw[<- Wm,m,UM,<- Wh r]
 refine Eg #[_,c,u.1] y c l ?_;refine#[_,_,_,_,H1,rfl,I1.kept λb o=>UN _,DR a _ l g,#[_,US _ rfl,rfl,by rw[g];rfl],λb M=>?_,q]
 have e:b=A.heap.objs.size:=by simp_all
 exact I1.fpOk (by lia) (I1.hok.fresh<|by lia)
end _2
namespace _3
open PySem _2 _S
noncomputable def Jc(ks:List aD):D:=.tup (ks.map λk=>match k with|.inl i=>D.int i|.inr x=>D.str x)
def A3(to:bb):vW:=λU M R=>to U M λd M1=>onF d λa _=>R #[a.map Jc,[]] M1
theorem JC(F:DE X B o to):DI X B E o (A3 to):=by
 refine g5 (Lj F) ?_
 rintro Z H R ⟨U,M,RR,s,h,z⟩
 refine#[U,M,_,s,h,λd M1 g v H1 m i1 A=>?_];obtain⟨n,G,rfl,g⟩:=g.inv;obtain⟨a,x,rfl,⟨I,u,e⟩,J⟩:=A;have p:(n.zip x).length=n.length:=by simp_all
 refine#[a,u,_,rfl,e,z _ _ g _ _ m i1 λi H2 M2 i2 l _=>#[λd q=>?_,λj=>?_]]
 .rw[UT]at q
  obtain⟨k,r,rfl⟩:=VT.mp q;refine#[#[i2.frz _ _ _ e,by rw[p];exact(Vx.mp r).1],?_]
  rintro y H3 ⟨rfl,f,K,b,w,C,rfl⟩
  have c:n[i]?=ap f:=(WQ.mp w).1;rw[r]at c;cases c;exact#[Frm.refl,l,b,_,rfl,C,tz k]
 exact#[i2.frz _ _ _ e,by rw[p];simpa using j]
def F8(d:D)(M:Mem)(Q:DK):Prop:=onR d λa=>mT (M a) λabR=>Q (.fd (abR.map (·.1))<|abR.map (·.2)) (M.del a)
def IK(t:bb):bb:=λU M Q=>t U M λd M'=>F8 d M' Q
theorem AG:∀{abR:List (List aD×D)}{ws:List (List aD×V)},Rkv K H abR ws->ws=(abR.map (·.1)).zip (ws.map (·.2))/\Rps K H (abR.map (·.2)) (ws.map (·.2))/\abR.length=ws.length
 |_,_,.nil=>#[rfl,rfl,rfl]
 |_,_,.cons h t=>by
  obtain⟨a,c,b⟩:=AG t;refine#[?_,.cons h.2 c,by simp[b]]
  simp only[UR,aad];rw[<- a,h.1]
theorem Ap:∀{ks:List (List aD)}{xs:List D}{vs:List V},Rps K H xs vs->Rkv K H (ks.zip xs) (ks.zip vs)
 |[],_,_,_=>by exact .nil
 |k::ks,[],_,h=>by cases h;exact .nil
 |k::ks,x::xs,_,h=>by
  obtain⟨v,r,rfl,a,b⟩:=h;exact .cons #[rfl,a] (Ap b)
theorem KB(h:DE X B e te):DE X B e (IK te):=by
 rintro f s Z H Q I ⟨U,M,QQ,y,p,u⟩
 refine bv (h _ s Z H (λv H'=>∃d M',RepH _ H' M'/\Frm M H M' H'/\Rp _ H' d v/\F8 d M' QQ) I #[U,M,_,y,p,λd M' q v H' b i r=>#[d,M',b,i,r,q]]) ?_
 rintro w C ⟨v,H',I',l,d,M',b,i,r,q⟩
 unfold F8 at q
 replace q:=q.inv;obtain⟨a,rfl,q⟩:=q
 obtain⟨x,e,q⟩:=q.inv;obtain⟨E,c,n⟩:=b _ _ e;obtain⟨o,A,z,_,_,_,_,I2⟩:=I'.freezeT c;refine#[v,_,I2,l,u _ _ q v _ (b.freezeT c) (i.trans<|Frm.del #[_,e]) ?_];obtain⟨m,j,g⟩:=AG n;exact#[a,_,r,#[by simp[g],o,by rw[<- m];exact upd_same],j.mono<|Imm.upd<|by rw[c];trivial]
def Ew:fQ:=λx y M Q=>onF x λb a=>so (Ec y) λk=>so (cV (b.zip a) k) λd=>Q d M
theorem Ud(G:X.A.units+1<l'):IxR X (liftR2 X Ew):=by
 intro f c i s Z H x y v u Q I o E h z;obtain⟨O,J,M,QQ,p,C,m,h,r⟩:=h;unfold Ew at h
 replace h:=h.inv;obtain⟨ks,K,rfl,h⟩:=h
 obtain⟨k,l,h⟩:=h.inv;obtain⟨d,n,h⟩:=h.inv;obtain⟨a,N,rfl,⟨L,j,e⟩,q⟩:=C;obtain⟨b,rfl,F⟩:=oK m l;rcases (Ap (ks:=ks) q).val k with⟨g,_⟩|⟨d',w,g,e2,r'⟩
 .simp_all
 rw[n]at g;cases g;exact Cg G _ _ _ s Z H _ _ v u Q I o E #[a,w,rfl,.inr #[_,k,b,.inr #[j,e],rfl,F,e2.symm],r _ M h _ H p Frm.refl r'] z
end _3
namespace _2
open PySem PySem.Spec PyProof.Rows
theorem Fm(hN:X.N.Nodup)(A:X.N[i]?=ap x)(hx:Ii X.env.scope x)(hc:X.calm=true)(co:CompOkC X scope cl ls fs js)(hi:PI X tg iter wi)
  (hY:∀(C:cp)(c:cb)(H₀:Hp)(l:ab0)(pl:ab4),PG (bn X (ls++fs) scope cl C c H₀ l pl) tg g/\Rc (bn X (ls++fs) scope cl C c H₀ l pl) ifs tt/\PE (bn X (ls++fs) scope cl C c H₀ l pl) elt te)
  (B:py (.ListComp elt [#[tg,iter,ifs,0]] scope pos) (ap<|.Name x F) f.line X.env=pure true)
  (hs:∀x,qa iter X.env x=pure x) (hf:X.fn x=true\/X.env.scope.names.lookup x=ap .local):
  PS X (.Assign [.Name x F] (.ListComp elt [#[tg,iter,ifs,0]] scope pos) f) (Qd i<|HB wi ls js g tt te):=by
 intro E s Z H D I h;rw[exec_Assign_Name_used _ _ _ _ B];refine ay (XV<|wpAny_bind ?_)
 refine ay (kc (abt rfl hs co.clos co.kind co.locs
  (bv (hi _ s Z H _ I h) λxv s1 G=>bv G λU s2 S=>?_)) (λ_ P r=>eC (eC r)) λ_ _ e=>e)
 obtain⟨it,l,tn,J,H2,e,I2,T,n,K,q⟩:=S;subst e;refine qB (Q:=λv=>D.nx (Z.set i<|some v)) hc co hY I2 T n K q ?_;intro p C H' P m M IX R O o b j r;refine wpAny_assign_Name (qj IX hN A hx (v:=.ref p) rfl (λL I'' hb=>?_) hf);obtain⟨a,Y,W⟩:=hb;have w:C≠a:=by
  rcases W with z|z
  .simp_all
  exact λy=>b x a z y.symm
 refine#[m,M.sameBut Y w,λh3 u=>?_];exact#[_,H',I''.turned (u.extBut) R O (.inr o) b j,r]
end _2
namespace _3
open PySem _2
theorem FH(F:X.N.Nodup)(e:X.N[i]?=ap x)(m:Ii X.env.scope x)(p:X.calm=true)(h:FC X scope fs js cl)(I:scope.kind=.function)(A:∀y∈scope.names,(y.2=.free->y.1∈fs)/\(y.2=.cell->y.1∉fs/\scope.names.lookup y.1=ap .cell))(u:∀x∈scope.names,x.2=.local->scope.names.lookup x.1=ap .local)
  (c:abl scope X.env=pure cl) (z:DI X B tg iter wi)
  (E:∀(C:cp)(a:cb)(H₀:Hp)(b:ab0)(pl:ab4),DG (bn X (ls++fs) scope cl C a H₀ b pl) Lq tg g)
  (L:∀(C:cp)(a:cb)(H₀:Hp)(b:ab0)(pl:ab4),RZ (bn X (ls++fs) scope cl C a H₀ b pl) Lq ifs tt)
  (hE:∀(C:cp)(a:cb)(H₀:Hp)(b:ab0)(pl:ab4),DE (bn X (ls++fs) scope cl C a H₀ b pl) Lq elt te)
  (o:X.env.blockKind=.function) (J:X.env.scope.names.lookup x=ap .local) (O:px.line=pos.line) (w:(scope.names.any λ(n,k)=>n==x&&(k==.local||k==.cell))=cx) (G:∀x,qa iter X.env x=pure x) (K:X.fn x=true\/X.env.scope.names.lookup x=ap .local):
  DS X B (.Assign [.Name x px] (.ListComp elt [#[tg,iter,ifs,0]] scope pos) spos) (dB i<|aV wi ls js g tt te):=by
 refine bV (Fm (g:=liftG0 _ g) (tt:=liftT0 _ tt) (te:=liftE0 _ te) F e m p (AD h I A u c) z (λC a H₀ b pl=>#[Gw (E C _ _ b pl),Dn (L C _ _ b pl),HA<|hE C _ _ b pl]) (Kb o J O w) G K) ?_
 rintro D Z H ⟨U,M,DD,s,h,l⟩
 exact qZ #[U,M,_,s,h,λd M' q v H' j f r=>l.nx _ M' q _ H' f ((s.go j f).set r)]
theorem dN:∀{c:abX}{abV:abZ},Vals (c.map V.int) abV->∀(m:Nat)(e:m<abV.length),∃i t,c[m]?=ap i/\abV[m]=.int i t
 |[],_,r,m,e=>by cases r;simp at e
 |i::c,_,r,m,e=>by
  cases r with
  |cons a b=>
   obtain⟨t,rfl⟩:=a;cases m with
   |zero=>simp_all
   |succ m=>
    obtain⟨j,f,g,h⟩:=dN b m (by simp_all)
    simp_all
def jV:y8:=λx e M Q=>onT x λc=>one e λa=>onI a λz=>so (dz c) λb=>b.length<=1000/\so (b.findIdx? λy=>decide (y=z)) λj=>Q (.int (j:Nat)) M
theorem ym:xu X "tuple.index" (liftM X jV):=by
 rintro A s Z H x vs v us Q I N S ⟨d,ds,M,QQ,R,r,P,h,U⟩
 unfold jV at h
 replace h:=h.inv;obtain⟨W,rfl,h⟩:=h
 replace h:=h.inv;obtain⟨T,rfl,h⟩:=h
 replace h:=h.inv;obtain⟨z,rfl,h⟩:=h
 obtain⟨p,ws,rfl,L,r⟩:=r;obtain⟨w,rfl,c⟩:=fZ (ds:=[]) P;cases c;obtain⟨Y,J,h⟩:=h.inv;obtain⟨o,h⟩:=h;obtain⟨j,l,h⟩:=h.inv;have:=jF r J;subst this;rw[Ys]at l;obtain⟨K,e1,E⟩:=l;cases N;obtain⟨u,rfl,O⟩:=S.one;obtain⟨t,rfl⟩:=O;obtain⟨C,n,G,r,e⟩:=I.tupD L;have o:=r.length;rw[UM]at o
 refine n7 WM #[_,e,rfl] YQ (YM _ _)
  (kW p _ n _ G _ (λv=>match v with|.int y _=>y==z|_=>cx) (λy F=>?_) j (by rw[Ve];lia) ?_ λm b g=>?_) #[e,?_]
 .obtain⟨m,b,rfl⟩:=Xq (by simpa using F)
  obtain⟨q,i,a,f⟩:=dN r m b;rw[f];exact ZU _ _ _ _
 .obtain⟨q,i,a,f⟩:=dN r j (by lia)
  rw[UO K]at a
  simp_all
 .obtain⟨q,i,a,f⟩:=dN r m (by exact b)
  have h3:=E m g;rw[UO (by lia)]at a
  simp_all
 exact#[.int j,H,I.tok _,#[_,rfl],U _ M h _ H R Frm.refl rfl]
end _3
namespace _S
open PySem PyProof.Rows
theorem vE(hl:s.heap.IsTuple l vs.toArray)(hsz:vs.length<=sizeLine)
  (h:Q vs { s with heap:=(s.heap.push<|seqObj "list" (Tw []) 0).update s.heap.objs.size (Xe (·++vs.toArray)) }):eg (eH prog w) A (collect<|.ref l) Q E s:=by
 obtain⟨o,ho,hc,n,hd⟩:=hl;have ho':(s.heap.push<|seqObj "list" (Tw []) 0).get? l=ap o:=UN _ ho;have hn:(s.heap.push<|seqObj "list" (Tw []) 0).get? _=ap _:=US _ rfl;refine ay (wpAny_runValue<|codeAny_builtin entry_proto_collect'<|wpAny_bind<|wpAny_newList (eC #[Code.quiet_builtin _ (by decide +kernel),abg entry_list_iadd' ?_])<|by trivial)
 show eg _ _ (Builtin.List.listExtendWith _ _ _) _ _ _;refine ay (UV #[o,ho',hc] ?_);rw[if_pos (by simp)]
 refine ay (listItems_at ho' hd<|wpAny_bind<|listItems_at hn rfl ?_);refine ay (listUpdate_at hn rfl (eC ?_) (by trivial)<|by simp;lia)
 refine ay (wpAny_load (get?_update_seq hn _) ?_);show eg _ _ (pure _) Q E _;rw[show (((Tw []):ab6)++vs.toArray).toList=vs by simp]
 exact eC h
theorem yP(n:s.heap.IsTuple l vs.toArray)(o:aa8 vs g)(f:vs.length<64)
  (h:∀(out:ab6)(a:abX),aa8 out.toList a->a.Perm g->a.Pairwise (·<=·)->Q (.ref (s.heap.objs.size+1)) { s with heap:=sortedAll s.heap vs out }):
  eg (eH prog w) A (call (.builtin "sorted") [.ref l]) Q E s:=by
 have b:vs.length<=sizeLine:=by rw[abe];lia
 refine Calls.call_function_entry kind_sorted plain_sorted entry_sorted (args_sorted1 _) ?_;refine ay (eC<|wpAny_bind<|vE n b<|wpAny_bind<|wpAny_newList ?_ b);have c:((s.heap.push<|seqObj "list" (Tw []) 0).update s.heap.objs.size<|Xe (·++vs.toArray)).objs.size=s.heap.objs.size+1:=by
  simp_all
 have e:(((s.heap.push<|seqObj "list" (Tw []) 0).update s.heap.objs.size<|Xe (·++vs.toArray)).push<|seqObj "list" vs.toArray 0).get? (s.heap.objs.size+1)=ap (seqObj "list" vs.toArray 0):=by
  rw[<- c];exact US _ rfl
 rw[c];exact ay (kr<|wpAny_call_entry slot_list_sort #[_,e,rfl] entry_list_sort (list_sort_tree e o f λout a j m i=>#[_,rfl,eC #[_,rfl,h _ _ j m i]])<|args_list_sort _)
end _S
namespace _3
open PySem _2 _S
def ig:oz:=λe M Q=>one e λa=>onT a λc=>so (dz c) λb=>b.length<64/\∀p,M p=ca->Q (.ref p) (M.upd p<|.lst<|(PZ y9 b).map D.int)
theorem pW:bw X (.builtin "sorted") (liftC X ig):=by
 rintro abP s Z H xs us Q I r ⟨ds,M,QQ,rh,rp,h,up⟩
 unfold ig at h
 replace h:=h.inv;obtain⟨w30,rfl,h⟩:=h
 replace h:=h.inv;obtain⟨_,rfl,h⟩:=h
 obtain⟨v,rfl,q,vs,rfl,ht,rr⟩:=fZ (ds:=[]) rp;obtain⟨ss,es,h⟩:=h.inv;obtain⟨h64,h⟩:=h;have:=jF rr es;subst this;obtain⟨u,rfl,ru⟩:=hZ r;cases ru;obtain⟨abV,r',pl,hz⟩:=I.tuple ht.sq;have hlen:=r'.length;rw[UM]at hlen;refine yP pl (FD r') (by lia) λout ss' s1 s2 s3=>?_
 obtain⟨k,hk⟩:=PyProof.Rows.sortedAll_at _ _ _;obtain rfl:=Gv _ (wH s3) s2;have hn:=I.hok.fresh (XR _);refine#[.ref _,_,I.laid (o:=.lst _) (λb o=>PyProof.Rows.sortedAll_old) (XR _) (#[?_,_,k,G1 s1,by exact hk]),rfl,?_]
 .rw[UM,s2.length_eq];exact Vb (Xu h64) (by decide)
 exact up _ _ (h _<|rh.fresh hn) _ _ (rh.put (by rw[hn];trivial) #[_,upd_same,vH _]) (Frm.put<|.inl hn) rfl
end _3
namespace _T
open PySem _2 _3
noncomputable def top(i:Nat):Stmt:=PySem.Challenge.pw_twinstride_k50_shares_of_blame.main.body.getD i (.Pass #[0,0,0,0])
abbrev Ut:Stmt:=eR (top 6) 0
abbrev Uj:Stmt:=eR (top 6) 1
abbrev MG:Stmt:=eR (top 6) 2
abbrev Nj:Stmt:=top 7
abbrev Nu:Stmt:=top 8
abbrev NM:Stmt:=top 9
abbrev N0:Stmt:=top 10
abbrev M_:Stmt:=top 12
abbrev NF:Stmt:=top 13
abbrev MK:Stmt:=top 14
abbrev Nr:Stmt:=top 15
abbrev Mt:Stmt:=top 16
abbrev O6:Stmt:=top 18
abbrev Mu:Stmt:=top 19
abbrev Na:Stmt:=top 20
abbrev NB:Stmt:=top 22
abbrev Nk:Stmt:=top 24
abbrev NG:Stmt:=top 26
abbrev NJ:Stmt:=top 27
abbrev Mr:Stmt:=top 28
abbrev SH:Stmt:=eR (top 30) 0
abbrev SB:Stmt:=eR (top 30) 1
abbrev Ul:Stmt:=eR (top 31) 0
abbrev Sy:Stmt:=eR (top 31) 1
abbrev MD:Stmt:=top 32
abbrev Mv:Stmt:=top 33
abbrev MT:Stmt:=top 34
abbrev NO:Stmt:=top 35
abbrev Mz:Stmt:=top 36
abbrev NQ:Stmt:=top 38
abbrev O2:Stmt:=top 39
abbrev MH:Stmt:=top 40
abbrev Nt:Stmt:=top 41
abbrev U5:Stmt:=eR (top 43) 0
abbrev NA:Stmt:=top 44
abbrev NT:Stmt:=top 45
abbrev O3:Stmt:=top 47
abbrev MQ:Stmt:=top 48
abbrev NE:Stmt:=top 49
abbrev N5:Stmt:=top 50
abbrev Si:Stmt:=top 51
abbrev MX:Stmt:=top 53
abbrev Nd:Stmt:=top 54
abbrev Np:Stmt:=top 55
abbrev Mw:Stmt:=top 56
abbrev MZ:Stmt:=top 57
abbrev Nm:Stmt:=top 58
abbrev MV:Stmt:=top 59
abbrev N9:Stmt:=top 60
abbrev NK:Stmt:=top 61
abbrev NL:Stmt:=top 62
abbrev Ny:Stmt:=top 63
abbrev NU:Stmt:=top 64
abbrev MF:Stmt:=top 65
abbrev NZ:Stmt:=top 66
abbrev Ms:Stmt:=top 67
abbrev MI:Stmt:=top 68
abbrev N4:Stmt:=top 69
abbrev NX:Stmt:=top 70
abbrev Tq:Stmt:=top 71
abbrev MC:Stmt:=top 72
abbrev Nh:Stmt:=top 73
abbrev MS:Stmt:=top 74
abbrev MB:Stmt:=top 75
abbrev No:Stmt:=top 76
abbrev Nq:Stmt:=top 80
abbrev Nw:Stmt:=top 81
abbrev SF:Stmt:=top 82
abbrev lh:Stmt:=top 83
set_option genInjectivity false in
structure Ad where
 C_Ends:cp
 C_Going:cp
 C_Outcome:cp
 C_Walk:cp
 C_Dry:cp
 C_NoCase:cp
 C_TooMany:cp
 (a1 a2 a3 a4 a5 a6 a7 a8 a9 a10 a11 a12 a13 a14 a15 a16 a17 a18 a19 a20 a21 a22 a23 a24 a25 a26 a27 a28 a29 a30 a31 a32 a33 a34 a35 a36 a37 a38 a39 a40 a41 a42 a43 a44 a45 a46 a47 a48 a49 a50 a51 a52 a53 a54 a55 a56 a57 a58 a59 a60 a61 a62 a63 a64 a65 a66 a67 a68 a69:cp)
 (d1 d2 d3 d4 d5 d6 d7 d8 d9 d10 d11 d12 d13 d14 d15 d16 d17 d18 d19 d20 d21 d22 d23 d24 d25 d26 d27 d28 d29 d30 d31 d32 d33 d34 d35 d36 d37 d38 d39 d40 d41 d42 d43 d44 d45 d46 d47 d48 d49 d50 d51 d52 d53 d54 d55 d56 d57 d58 d59 d60 d61 d62 d63 d64 d65 d66 d67 d68 d69:gp)
section
variable{ad:Ad}{M:Mem}{Q:DK}{E:DX}{a b c e f g:D}
local macro_rules|`($q⁻¹)=>`({ nx:=λ_ x=>drp $q .non x,rt:=drp $q })
local macro_rules|`(¬$k:num)=>`(dC (.int $k))|`(¬$k:str)=>`(dC (.str $k))
def HW(w:Ad)(y:DX):au:=ah (cK w.C_Walk (ac 0) (ac 3) "most") (cK w.C_Walk (ac 0) (bO ag) "steps")
def Ge(w:Ad)(y:DX):au:=ah (cK w.C_Walk (ac 0) (ai az (ac 2) ¬1) "pieces") (HW w y)
def Gq(w:Ad)(y:DX):au:=ah (cK w.C_Walk (ac 0) (hW<|aa (ai az (ac 1) ¬1)<|aa (ai az (ac 2) ¬0) ag) "numbers") (Ge w y)
def LR(w:Ad)(y:DX):au:=ah (cK w.C_Walk (ac 0) (ac 1) "plan") (Gq w y)
def KA(ad:Ad):Sd:=aK ["self","plan","stand","most"] (LR ad)
theorem u_q5:KA ad [b,e,a,c] M Q E=LR ad (aI E) Q⁻¹ [ap b,ap e,ap a,ap c] M:=rfl
def Hg(w:Ad)(y:DX):au:=bg (j_ "list" bu (aW w.C_Walk (ac 0) "steps")<|aa (aS<|aa (ac 1)<|aa (ac 2) ag) ag)
def Lu(w:Ad)(y:DX):au:=ah (aJ (am<|ai oGe (b6 bh<|aa (aW w.C_Walk (ac 0) "steps") ag)<|aW w.C_Walk (ac 0) "most") (kK w.C_Dry y) aE) (Hg w y)
def xI(ad:Ad):Sd:=aK ["self","place","number"] (Lu ad)
theorem u_q2:xI ad [b,c,a] M Q E=Lu ad (aI E) Q⁻¹ [ap b,ap c,ap a] M:=rfl
def CM(w:Ad)(y:DX):au:=ah (bg<|dF w.C_Walk "note_step" (xI w) y 3 (ac 0)<|aa (ac 1)<|aa (ac 3) ag) (aB<|ac 3)
def AS(w:Ad)(y:DX):au:=ah (ao (pq (am<|ai ck (ai az (aW w.C_Walk (ac 0) "numbers")<|ac 2) ¬0) (¬0) ¬1)<|af 3) (CM w y)
def qS(ad:Ad):Sd:=aK ["self","place","name","seen"] (AS ad)
theorem Tt:qS ad [b,c,a] M Q E=AS ad (aI E) Q⁻¹ [ap b,ap c,ap a,ca] M:=rfl
def Bv(w:Ad)(y:DX):au:=aB (ai dH (aq<|ai aZ (ac 1)<|ac 2)<|ac 3)
def CT(w:Ad)(y:DX):au:=aB (pq (am<|ai EU (ac 1)<|ac 2) (¬1) ¬0)
def AV(w:Ad)(y:DX):au:=aB (pq (am<|ai ck (ac 1)<|ac 2) (¬1) ¬0)
def yZ(w:Ad)(y:DX):au:=ah (aJ (am<|ai ck (ac 0) ¬"less") (CT w y) aE) (AV w y)
def Cp(w:Ad)(y:DX):au:=ah (aJ (am<|ai ck (ac 0) ¬"by") (aB<|ai dH (ai cD (ac 1)<|ac 2)<|ac 3) aE) (yZ w y)
def AN(w:Ad)(y:DX):au:=ah (aJ (am<|ai ck (ac 0) ¬"sum") (Bv w y) aE) (Cp w y)
def zJ(ad:Ad):Sd:=aK ["word","y","z","wheel"] (AN ad)
theorem U0:zJ ad [b,e,a,c] M Q E=AN ad (aI E) Q⁻¹ [ap b,ap e,ap a,ap c] M:=rfl
def Dm(w:Ad)(y:DX):au:=aB (ai dH (ai az (ac 1)<|ai az (ac 2) ¬2)<|ai az (ac 0) ¬2)
def Cr(w:Ad)(y:DX):au:=ah (aJ (am<|ai ck (ai az (ac 2) ¬0) ¬"pick") (Dm w y) aE) (aB<|dC .non)
def jX(w:Ad)(y:DX):au:=ah (aJ (am<|ai ck (ai az (ac 2) ¬0) ¬"take") (aB<|ai az (ac 2) ¬2) aE) (Cr w y)
def nv(ad:Ad):Sd:=aK ["plan","numbers","row"] (jX ad)
theorem r9:nv ad [b,c,a] M Q E=jX ad (aI E) Q⁻¹ [ap b,ap c,ap a] M:=rfl
def Cd(w:Ad)(y:DX):au:=aB (aj (zJ w) y 4<|aa (ai az (ac 3) ¬0)<|aa (ai az (ac 1)<|ai az (ac 3) ¬2)<|aa (ai az (ac 1)<|ai az (ac 3) ¬3)<|aa (ai az (ac 0) ¬0) ag)
def Co(w:Ad)(y:DX):au:=ah (aJ (am<|ai fK (ac 4)<|dC .non) (aB<|ai az (ac 2)<|ac 4) aE) (Cd w y)
def Ae(w:Ad)(y:DX):au:=ah (ao (aq<|aj (nv w) y 3<|aa (ac 0)<|aa (ac 1)<|aa (ac 3) ag)<|af 4) (Co w y)
def h7(w:Ad)(y:DX):au:=ah (aJ (am<|ai ck (ai az (ac 3) ¬0) ¬"put") (aB<|ai az (ac 3) ¬2) aE) (Ae w y)
def ou(ad:Ad):Sd:=aK ["plan","numbers","pieces","row","piece"] (h7 ad)
theorem kZ:ou ad [b,e,a,c] M Q E=h7 ad (aI E) Q⁻¹ [ap b,ap e,ap a,ap c,ca] M:=rfl
def B9(w:Ad)(aai aak aal aam:Sd)(y:DX):au:=bg (aj aak y 3<|aa (ac 0)<|aa (ac 4)<|aa (ai aZ (ac 2)<|aS<|aa (ac 3) ag) ag)
def zy(w:Ad)(aai aak aal aam:Sd)(y:DX):au:=cj (o8<|aa (ac 1) ag) (dm 2<|aN (af 3)<|aN (af 4) dg) (B9 w aai aak aal aam y)
def zo(w:Ad)(aai aak aal aam:Sd)(y:DX):au:=bg (aj aal y 3<|aa (ac 0)<|aa (ac 1)<|aa (ac 2) ag)
def BE(w:Ad)(aai aak aal aam:Sd)(y:DX):au:=bg (aj aam y 3<|aa (ac 0)<|aa (ac 1)<|aa (ac 2) ag)
def zV(w:Ad)(aai aak aal aam:Sd)(y:DX):au:=ao (ac 3) (cZ (aW w.C_Walk (ac 0) "numbers")<|ai az (ac 1) ¬1)
def Ah(w:Ad)(aai aak aal aam:Sd)(y:DX):au:=ah (bg<|dF w.C_Walk "note_step" (xI w) y 3 (ac 0)<|aa (ac 2)<|aa (ac 3) ag) (zV w aai aak aal aam y)
def zp(w:Ad)(aai aak aal aam:Sd)(y:DX):au:=ah (ao (aq<|aj (ou w) y 4<|aa (aW w.C_Walk (ac 0) "plan")<|aa (aW w.C_Walk (ac 0) "numbers")<|aa (aW w.C_Walk (ac 0) "pieces")<|aa (ac 1) ag)<|af 3) (Ah w aai aak aal aam y)
def BV(w:Ad)(aai aak aal aam:Sd)(y:DX):au:=aJ (am<|ai ck (ai az (ac 1) ¬0) ¬"again") (BE w aai aak aal aam y) (zp w aai aak aal aam y)
def qC(w:Ad)(aai aak aal aam:Sd)(y:DX):au:=aJ (am<|ai ck (ai az (ac 1) ¬0) ¬"if") (zo w aai aak aal aam y) (BV w aai aak aal aam y)
def B0(w:Ad)(aai aak aal aam:Sd)(y:DX):au:=bg (aj aai y 3<|aa (ac 0)<|aa (pq (am<|ai ck (ac 3) ¬1) (ai az (ac 1) ¬2)<|ai az (ac 1) ¬3)<|aa (ai aZ (ac 2)<|aS<|aa (ac 3) ag) ag)
def BA(w:Ad)(aai aak aal aam:Sd)(y:DX):au:=ah (ao (aq<|dF w.C_Walk "look" (qS w) y 3 (ac 0)<|aa (ac 2)<|aa (ai az (ac 1) ¬1) ag)<|af 3) (B0 w aai aak aal aam y)
def Bi(w:Ad)(aai aak aal aam:Sd)(y:DX):au:=ah (bg<|aj aai y 3<|aa (ac 0)<|aa (ai az (ac 1) ¬2)<|aa (ai aZ (ac 2)<|aS<|aa (ac 3) ag) ag) (G4 3 (¬1) rq)
def A1(w:Ad)(aai aak aal aam:Sd)(y:DX):au:=gO (am<|ai ck (aq<|dF w.C_Walk "look" (qS w) y 3 (ac 0)<|aa (ai aZ (ac 2)<|aS<|aa (ac 3) ag)<|aa (ai az (ac 1) ¬1) ag) ¬1) (Bi w aai aak aal aam y)
def Jd(w:Ad)(aai aak aal aam:Sd)(y:DX):au:=ah (ao (¬0)<|af 3) (A1 w aai aak aal aam y)
mutual
noncomputable def aai(ad:Ad):Nat->Sd
 |0=>λ_ _ _ _=>False
 |n+1=>aK ["walk","rows","place","j","row"] (zy ad (aai ad n) (aak ad n) (aal ad n)<|aam ad n)
noncomputable def aak(ad:Ad):Nat->Sd
 |0=>λ_ _ _ _=>False
 |n+1=>aK ["walk","row","place","number"] (qC ad (aai ad n) (aak ad n) (aal ad n)<|aam ad n)
noncomputable def aal(ad:Ad):Nat->Sd
 |0=>λ_ _ _ _=>False
 |n+1=>aK ["walk","row","place","seen"] (BA ad (aai ad n) (aak ad n) (aal ad n)<|aam ad n)
noncomputable def aam(ad:Ad):Nat->Sd
 |0=>λ_ _ _ _=>False
 |n+1=>aK ["walk","row","place","turn"] (Jd ad (aai ad n) (aak ad n) (aal ad n)<|aam ad n)
end
theorem Sr{n:Nat}:aai ad (n+1) [b,c,a] M Q E=zy ad (aai ad n) (aak ad n) (aal ad n) (aam ad n) (aI E) Q⁻¹ [ap b,ap c,ap a,ca,ca] M:=rfl
theorem Fq{n:Nat}:aak ad (n+1) [b,c,a] M Q E=qC ad (aai ad n) (aak ad n) (aal ad n) (aam ad n) (aI E) Q⁻¹ [ap b,ap c,ap a,ca] M:=rfl
theorem S2{n:Nat}:aal ad (n+1) [b,c,a] M Q E=BA ad (aai ad n) (aak ad n) (aal ad n) (aam ad n) (aI E) Q⁻¹ [ap b,ap c,ap a,ca] M:=rfl
theorem u_q49{n:Nat}:aam ad (n+1) [b,c,a] M Q E=Jd ad (aai ad n) (aak ad n) (aal ad n) (aam ad n) (aI E) Q⁻¹ [ap b,ap c,ap a,ca] M:=rfl
def A6(w:Ad)(y:DX):au:=aB (aS<|aa (aW w.C_Walk (ac 3) "steps")<|aa (b6 bP<|aa (aq<|aV (cm<|ai az (ac 0) ¬1) ["name"] [3] (af 0) dX<|ai az (aW w.C_Walk (ac 1) "numbers")<|ac 0) ag) ag)
def z_(w:Ad)(y:DX):au:=ah (OH w.C_Dry (aai w 24) 3 (aa (ac 3)<|aa (ai az (ac 0) ¬3)<|aa (aS ag) ag)<|aB<|aS<|aa (aW w.C_Walk (ac 3) "steps")<|aa (dC .non) ag) (A6 w y)
def CB(w:Ad)(y:DX):au:=ah (ao (iR w.C_Walk (KA w) y 4<|aa (ac 0)<|aa (ac 1)<|aa (ac 2) ag)<|af 3) (z_ w y)
def wq(ad:Ad):Sd:=aK ["plan","stand","most","walk"] (CB ad)
theorem T3:wq ad [b,c,a] M Q E=CB ad (aI E) Q⁻¹ [ap b,ap c,ap a,ca] M:=rfl
def D3(w:Ad)(y:DX):au:=aB (ai az (ac 3)<|Jm i_ (ai az (ac 0) ¬1)<|aa (ai az (ac 0) ¬4) ag)
def zB(w:Ad)(y:DX):au:=ah (aJ (am<|ai lB (ac 3)<|dC .non) (aB<|dC .non) aE) (D3 w y)
def zb(w:Ad)(y:DX):au:=ah (ao (ai az (qY<|aj (wq w) y 3<|aa (ac 0)<|aa (ac 1)<|aa (ac 2) ag) ¬1)<|af 3) (zB w y)
def qi(ad:Ad):Sd:=aK ["plan","stand","most","end"] (zb ad)
theorem Uk:qi ad [b,c,a] M Q E=zb ad (aI E) Q⁻¹ [ap b,ap c,ap a,ca] M:=rfl
def zc(w:Ad)(y:DX):au:=aB (ai aZ (aq<|b6 gb<|aa (ai az (ac 0) ¬1) ag)<|aq<|u_<|aa (ai az (ac 0) ¬2) ag)
def wY(ad:Ad):Sd:=aK ["plan"] (zc ad)
theorem SS:wY ad [a] M Q E=zc ad (aI E) Q⁻¹ [ap a] M:=rfl
def lL(w:Ad)(y:DX):au:=aB (aV (cm<|aq<|aj (wY w) y 1<|aa (ac 0) ag) ["thing"] [2] (af 0) (am<|ai wU (ac 0)<|ac 1)<|ac 0)
def CO(w:Ad)(y:DX):au:=ah (ao (b6 gR<|aa (aq<|aV (cm<|ac 1) ["thing"] [] (af 0) dX<|aS<|aa (ac 0)<|aa (dC<|.bl true) ag) ag)<|af 2) (lL w y)
def zS(ad:Ad):Sd:=aK ["plan","things","wanted"] (CO ad)
theorem Sb:zS ad [a,b] M Q E=CO ad (aI E) Q⁻¹ [ap a,ap b,ca] M:=rfl
def Dg(w:Ad)(y:DX):au:=aB (ai az (ai az (ac 1) ¬0)<|Jm i_ (ai az (ac 0) ¬1)<|aa (ac 2) ag)
def vz(w:Ad)(y:DX):au:=ah (aJ (cW<|b6 dZ<|aa (ac 2)<|aa (dC<|.ty "str") ag) (Dg w y) aE) (aB<|ai az (ai az (ac 1) ¬1)<|ac 2)
def pi(ad:Ad):Sd:=aK ["plan","stand","thing"] (vz ad)
theorem O1:pi ad [b,c,a] M Q E=vz ad (aI E) Q⁻¹ [ap b,ap c,ap a] M:=rfl
def Bz(w:Ad)(y:DX):au:=aB (b6 gb<|aa (aq<|ES (ac 0) (fj ¬2) cS) ag)
def Cu(w:Ad)(y:DX):au:=ah (aJ (Lv (am<|ai ck (ai az (ac 0) ¬0) ¬"put")<|am<|ai ck (ai az (ac 0) ¬0) ¬"take") (aB<|bO ag) aE) (Bz w y)
def jA(w:Ad)(y:DX):au:=ah (aJ (Lv (am<|ai ck (ai az (ac 0) ¬0) ¬"if")<|am<|ai ck (ai az (ac 0) ¬0) ¬"again") (aB<|bO<|aa (ai az (ac 0) ¬1) ag) aE) (Cu w y)
def Dd(ad:Ad):Sd:=aK ["row"] (jA ad)
theorem qR:Dd ad [a] M Q E=jA ad (aI E) Q⁻¹ [ap a] M:=rfl
def Ff(w:Ad)(y:DX):au:=aB (aV (cm<|aq<|aj (wY w) y 1<|aa (ac 0) ag) ["thing"] [0,2,1] (af 0) (am<|ai km (aq<|aj (pi w) lG 3<|aa (ac 1)<|aa (ac 3)<|aa (ac 0) ag)<|aq<|aj (pi w) lG 3<|aa (ac 1)<|aa (ac 2)<|aa (ac 0) ag)<|ac 0)
def zK(ad:Ad):Sd:=aK ["plan","one","other"] (Ff ad)
theorem u_q59:zK ad [b,c,a] M Q E=Ff ad (aI E) Q⁻¹ [ap b,ap c,ap a] M:=rfl
def Br(w:Ad)(y:DX):au:=ah (aJ (am<|ai ck (ac 1)<|ac 2) (kK w.C_NoCase y) aE) (aB<|aS<|aa (ac 1)<|aa (ac 2) ag)
def rT(w:Ad)(y:DX):au:=ah (aJ (Lv (am<|ai lB (ac 1)<|dC .non)<|am<|ai lB (ac 2)<|dC .non) (kK w.C_NoCase y) aE) (Br w y)
def tP(w:Ad)(y:DX):au:=ah (ao (aq<|aj (qi w) y 3<|aa (ai az (ac 0) ¬0)<|aa (ai az (ac 0) ¬2)<|aa (ai az (ac 0) ¬3) ag)<|af 2) (rT w y)
def CZ(w:Ad)(y:DX):au:=ah (ao (aq<|aj (qi w) y 3<|aa (ai az (ac 0) ¬0)<|aa (ai az (ac 0) ¬1)<|aa (ai az (ac 0) ¬3) ag)<|af 1) (tP w y)
def wx(ad:Ad):Sd:=aK ["case","sound","faulty"] (CZ ad)
theorem Ua:wx ad [a] M Q E=CZ ad (aI E) Q⁻¹ [ap a,ca,ca] M:=rfl
def He(w:Ad)(y:DX):au:=aB (aj (zK w) y 3<|aa (ai az (ac 0) ¬0)<|aa (ai az (ac 0) ¬1)<|aa (ai az (ac 0) ¬2) ag)
def li(ad:Ad):Sd:=aK ["case"] (He ad)
theorem u_q34:li ad [a] M Q E=He ad (aI E) Q⁻¹ [ap a] M:=rfl
def AA(w:Ad)(y:DX):au:=ah (aJ (am<|ai ck (ac 1)<|ai az (ac 0) ¬1) (aB ¬"faulty") aE) (aB ¬"other")
def vf(w:Ad)(y:DX):au:=ah (aJ (am<|ai ck (ac 1)<|ai az (ac 0) ¬0) (aB ¬"sound") aE) (AA w y)
def C1(ad:Ad):Sd:=aK ["two","one"] (vf ad)
theorem Nl:C1 ad [a,b] M Q E=vf ad (aI E) Q⁻¹ [ap a,ap b] M:=rfl
def Hc(w:Ad)(y:DX):au:=ah (cK w.C_Going (ac 0) (ac 4) "todo") (cK w.C_Going (ac 0) (ac 5) "left")
def Ip(w:Ad)(y:DX):au:=ah (cK w.C_Going (ac 0) (ac 3) "unsettled") (Hc w y)
def FA(w:Ad)(y:DX):au:=ah (cK w.C_Going (ac 0) (ac 2) "pieces") (Ip w y)
def L5(w:Ad)(y:DX):au:=ah (cK w.C_Going (ac 0) (ac 1) "numbers") (FA w y)
def ID(ad:Ad):Sd:=aK ["self","numbers","pieces","unsettled","todo","left"] (L5 ad)
theorem u_q3:ID ad [b,c,g,f,e,a] M Q E=L5 ad (aI E) Q⁻¹ [ap b,ap c,ap g,ap f,ap e,ap a] M:=rfl
def Ha(w:Ad)(y:DX):au:=ao (ac 2) (cZ (aW w.C_Going (ac 3) "numbers")<|ac 1)
def Gm(w:Ad)(y:DX):au:=ao (ac 2) (cZ (aW w.C_Going (ac 3) "pieces")<|ac 1)
def FP(w:Ad)(y:DX):au:=ah (aJ (cW<|b6 dZ<|aa (ac 1)<|aa (dC<|.ty "str") ag) (Ha w y)<|Gm w y) (aB<|ac 3)
def yn(w:Ad)(y:DX):au:=ah (bg<|Hm (aW w.C_Going (ac 3) "unsettled")<|ac 1) (FP w y)
def Md(w:Ad)(y:DX):au:=ah (ao (iR w.C_Going (ID w) y 6<|aa (b6 k7<|aa (aW w.C_Going (ac 0) "numbers") ag)<|aa (b6 gb<|aa (aW w.C_Going (ac 0) "pieces") ag)<|aa (b6 k7<|aa (aW w.C_Going (ac 0) "unsettled") ag)<|aa (aW w.C_Going (ac 0) "todo")<|aa (aW w.C_Going (ac 0) "left") ag)<|af 3) (yn w y)
def FQ(ad:Ad):Sd:=aK ["self","thing","number","other"] (Md ad)
theorem u_q6:FQ ad [b,c,a] M Q E=Md ad (aI E) Q⁻¹ [ap b,ap c,ap a,ca] M:=rfl
def L8(w:Ad)(y:DX):au:=ah (cK w.C_Ends (ac 0) (ac 1) "limit") (cK w.C_Ends (ac 0) (¬0) "count")
def Qk(ad:Ad):Sd:=aK ["self","limit"] (L8 ad)
theorem u_q8:Qk ad [a,b] M Q E=L8 ad (aI E) Q⁻¹ [ap a,ap b] M:=rfl
def xG(w:Ad)(y:DX):au:=aJ (am<|ai BY (aW w.C_Ends (ac 0) "count")<|aW w.C_Ends (ac 0) "limit") (kK w.C_TooMany y) aE
def Lh(w:Ad)(y:DX):au:=ah (sI w.C_Ends (ac 0) (¬1) "count") (xG w y)
def F6(ad:Ad):Sd:=aK ["self"] (Lh ad)
theorem u_q4:F6 ad [a] M Q E=Lh ad (aI E) Q⁻¹ [ap a] M:=rfl
def tm(w:Ad)(y:DX):au:=ao (aS<|aa (ac 2)<|aa (ac 1) ag) (af 1)
def CW(w:Ad)(y:DX):au:=ah (cj (QP<|aa (ac 0) ag) (af 2)<|tm w y) (aB<|ac 1)
def nD(ad:Ad):Sd:=aK ["rows","todo","row"] (CW ad)
theorem RQ:nD ad [a,b] M Q E=CW ad (aI E) Q⁻¹ [ap a,ap b,ca] M:=rfl
def sC(w:Ad)(y:DX):au:=aB (iR w.C_Going (ID w) y 6<|aa (hW<|aa (ai az (ac 1) ¬1)<|aa (ai az (ac 2) ¬0) ag)<|aa (b6 gb<|aa (ai az (ac 2) ¬1) ag)<|aa (ac 3)<|aa (aq<|aj (nD w) y 2<|aa (ai az (ac 1) ¬3)<|aa (dC .non) ag)<|aa (ai az (ac 0) ¬3) ag)
def zf(w:Ad)(y:DX):au:=ah (ao (b6 gR<|aa (aq<|aV (cm<|aq<|aj (li w) y 1<|aa (ac 0) ag) ["thing"] [] (af 0) dX<|aS<|aa (ac 0)<|aa (dC<|.bl true) ag) ag)<|af 3) (sC w y)
def A8(w:Ad)(y:DX):au:=ah (ao (ai az (ac 0) ¬1)<|af 2) (zf w y)
def Fl(w:Ad)(y:DX):au:=ah (ao (ai az (ac 0) ¬0)<|af 1) (A8 w y)
def zD(ad:Ad):Sd:=aK ["case","plan","sound","unsettled"] (Fl ad)
theorem Sf:zD ad [a] M Q E=Fl ad (aI E) Q⁻¹ [ap a,ca,ca,ca] M:=rfl
def D6(w:Ad)(y:DX):au:=aB (ai az (aq<|aj (zS w) y 2<|aa (ac 0)<|aa (ac 3) ag) ¬0)
def tT(w:Ad)(y:DX):au:=aB (pq (am<|ai FV (ac 4)<|aW w.C_Going (ac 1) "unsettled") (ac 4)<|dC .non)
def sV(w:Ad)(y:DX):au:=ah (ao (aq<|aj (nv w) y 3<|aa (ac 0)<|aa (aW w.C_Going (ac 1) "numbers")<|aa (ac 2) ag)<|af 4) (tT w y)
def mQ(w:Ad)(y:DX):au:=ah (aJ (cW<|ac 3) (D6 w y) aE) (sV w y)
def Ca(w:Ad)(y:DX):au:=ah (cF (dB 3<|aV (cm<|aq<|aj (Dd w) y 1<|aa (ac 2) ag) ["name"] [1] (af 0) (am<|ai wU (ac 0)<|aW w.C_Going (ac 1) "unsettled")<|ac 0) 3) (mQ w y)
def z8(w:Ad)(y:DX):au:=ah (aJ (gI<|cW<|aW w.C_Going (ac 1) "unsettled") (aB<|dC .non) aE) (Ca w y)
def AC(ad:Ad):Sd:=aK ["plan","going","row","found","piece"] (z8 ad)
theorem UD:AC ad [b,c,a] M Q E=z8 ad (aI E) Q⁻¹ [ap b,ap c,ap a,ca,ca] M:=rfl
def AB(w:Ad)(y:DX):au:=cK w.C_Going (ac 1) (aq<|aj (nD w) y 2<|aa (pq (am<|ai ck (ai az (aW w.C_Going (ac 1) "numbers")<|ai az (ac 2) ¬1) ¬0) (ai az (ac 2) ¬3)<|ai az (ac 2) ¬2)<|aa (aW w.C_Going (ac 1) "todo") ag) "todo"
def Bj(w:Ad)(y:DX):au:=cK w.C_Going (ac 1) (aq<|aj (nD w) y 2<|aa (ai az (ac 2) ¬2)<|aa (aS<|aa (ac 2)<|aa (aW w.C_Going (ac 1) "todo") ag) ag) "todo"
def CU(w:Ad)(y:DX):au:=aJ (am<|ai km (ai az (aW w.C_Going (ac 1) "numbers")<|ai az (ac 2) ¬1) ¬0) (Bj w y) aE
def uf(w:Ad)(y:DX):au:=bg (Hi (aW w.C_Going (ac 1) "unsettled") (ai az (ac 2) ¬1)<|dC .non)
def ie(w:Ad)(y:DX):au:=ah (ao (aq<|aj (ou w) y 4<|aa (ac 0)<|aa (aW w.C_Going (ac 1) "numbers")<|aa (aW w.C_Going (ac 1) "pieces")<|aa (ac 2) ag)<|cZ (aW w.C_Going (ac 1) "numbers")<|ai az (ac 2) ¬1) (uf w y)
def AQ(w:Ad)(y:DX):au:=aJ (am<|ai ck (ai az (ac 2) ¬0) ¬"again") (CU w y) (ie w y)
def Bb(w:Ad)(y:DX):au:=aJ (am<|ai ck (ai az (ac 2) ¬0) ¬"if") (AB w y) (AQ w y)
def ug(w:Ad)(y:DX):au:=ah (cK w.C_Going (ac 1) (ai az (aW w.C_Going (ac 1) "todo") ¬1) "todo") (Bb w y)
def BZ(w:Ad)(y:DX):au:=ah (tI w.C_Going (ac 1) (¬1) "left") (ug w y)
def AT(ad:Ad):Sd:=aK ["plan","going","row"] (BZ ad)
theorem TB:AT ad [b,c,a] M Q E=BZ ad (aI E) Q⁻¹ [ap b,ap c,ap a] M:=rfl
def tu(w:Ad)(y:DX):au:=bg (aj (AT w) y 3<|aa (ac 0)<|aa (ac 1)<|aa (ac 2) ag)
def t8(w:Ad)(y:DX):au:=ah (aJ (am<|ai fK (ac 3)<|dC .non) (aB<|ac 3) aE) (tu w y)
def tN(w:Ad)(y:DX):au:=ah (ao (aq<|aj (AC w) y 3<|aa (ac 0)<|aa (ac 1)<|aa (ac 2) ag)<|af 3) (t8 w y)
def t9(w:Ad)(y:DX):au:=ah (ao (ai az (aW w.C_Going (ac 1) "todo") ¬0)<|af 2) (tN w y)
def iw(w:Ad)(y:DX):au:=ah (aJ (am<|ai oLe (aW w.C_Going (ac 1) "left") ¬0) (aB<|dC .non) aE) (t9 w y)
def tZ(w:Ad)(y:DX):au:=aB (pq (am<|ai wU (ai az (ac 0) ¬4)<|aW w.C_Going (ac 1) "unsettled") (ai az (ac 0) ¬4)<|dC .non)
def IM(w:Ad)(y:DX):au:=ah (gO (am<|ai fK (aW w.C_Going (ac 1) "todo")<|dC .non)<|iw w y) (tZ w y)
def B1(ad:Ad):Sd:=aK ["plan","going","row","asked"] (IM ad)
theorem u_q60:B1 ad [a,b] M Q E=IM ad (aI E) Q⁻¹ [ap a,ap b,ca,ca] M:=rfl
def ze(w:Ad)(y:DX):au:=aB (pq (am<|ai lB (aW w.C_Going (ac 1) "todo")<|dC .non) (ai az (aW w.C_Going (ac 1) "numbers")<|ai az (ac 0) ¬4)<|dC .non)
def Dk(ad:Ad):Sd:=aK ["plan","going"] (ze ad)
theorem Sz:Dk ad [a,b] M Q E=ze ad (aI E) Q⁻¹ [ap a,ap b] M:=rfl
def D8(w:Ad)(y:DX):au:=aB (aV (cm<|aq<|ES (ac 0) (fj ¬1)<|fj ¬3) ["stand"] [2,1,0] (af 0) dX<|aq<|dF w.C_Going "settled" (FQ w) lG 3 (ac 2)<|aa (ac 1)<|aa (aq<|aj (pi w) lG 3<|aa (ai az (ac 3) ¬0)<|aa (ac 0)<|aa (ac 1) ag) ag)
def Ar(ad:Ad):Sd:=aK ["case","going","thing"] (D8 ad)
theorem Tg:Ar ad [b,c,a] M Q E=D8 ad (aI E) Q⁻¹ [ap b,ap c,ap a] M:=rfl
def zT(w:Ad)(aao:Sd)(y:DX):au:=aB (aS<|aa (¬"end")<|aa (aj (Dk w) y 2<|aa (ai az (ac 0) ¬0)<|aa (ac 1) ag) ag)
def zF(w:Ad)(aao:Sd)(y:DX):au:=aB (aS<|aa (¬"ask")<|aa (ac 3)<|aa (aj aao y 3<|aa (ac 0)<|aa (ai az (ac 4) ¬0)<|aa (ac 2) ag)<|aa (aj aao y 3<|aa (ac 0)<|aa (ai az (ac 4) ¬1)<|aa (ac 2) ag) ag)
def By(w:Ad)(aao:Sd)(y:DX):au:=ah (ao (aq<|aj (Ar w) y 3<|aa (ac 0)<|aa (ac 1)<|aa (ac 3) ag)<|af 4) (zF w aao y)
def CV(w:Ad)(aao:Sd)(y:DX):au:=ah (bg<|dF w.C_Ends "one_more" (F6 w) y 1 (ac 2) ag) (By w aao y)
def uq(w:Ad)(aao:Sd)(y:DX):au:=ah (aJ (am<|ai lB (ac 3)<|dC .non) (zT w aao y) aE) (CV w aao y)
def z7(w:Ad)(aao:Sd)(y:DX):au:=ah (ao (aq<|aj (B1 w) y 2<|aa (ai az (ac 0) ¬0)<|aa (ac 1) ag)<|af 3) (uq w aao y)
def aao(ad:Ad):Nat->Sd
 |0=>λ_ _ _ _=>False
 |n+1=>aK ["case","going","ends","asked","ways"] (z7 ad<|aao ad n)
theorem T9{n:Nat}:aao ad (n+1) [b,c,a] M Q E=z7 ad (aao ad n) (aI E) Q⁻¹ [ap b,ap c,ap a,ca,ca] M:=rfl
def B4(w:Ad)(y:DX):au:=aB (aj (aao w 24) y 3<|aa (ac 0)<|aa (aq<|aj (zD w) y 1<|aa (ac 0) ag)<|aa (ac 2) ag)
def CK(w:Ad)(y:DX):au:=ah (bg<|dF w.C_Ends "one_more" (F6 w) y 1 (ac 2) ag) (B4 w y)
def C5(w:Ad)(y:DX):au:=ah (ao (iR w.C_Ends (Qk w) y 2<|aa (ac 1) ag)<|af 2) (CK w y)
def GL(w:Ad)(y:DX):au:=ah (bg<|aj (wx w) y 1<|aa (ac 0) ag) (C5 w y)
def AK(ad:Ad):Sd:=aK ["case","limit","ends"] (GL ad)
theorem u_q66:AK ad [a,b] M Q E=GL ad (aI E) Q⁻¹ [ap a,ap b,ca] M:=rfl
def Fv(w:Ad)(y:DX):au:=ah (cK w.C_Outcome (ac 0) (ac 2) "sound") (cK w.C_Outcome (ac 0) (ac 3) "faulty")
def LL(w:Ad)(y:DX):au:=ah (cK w.C_Outcome (ac 0) (ac 1) "verdict") (Fv w y)
def Li(ad:Ad):Sd:=aK ["self","verdict","sound","faulty"] (LL ad)
theorem u_q0:Li ad [b,e,a,c] M Q E=LL ad (aI E) Q⁻¹ [ap b,ap e,ap a,ap c] M:=rfl
def sR(w:Ad)(y:DX):au:=bg (j_ "list" bu (ac 4)<|aa (iR w.C_Outcome (Li w) y 4<|aa (aq<|aj (C1 w) y 2<|aa (ac 2)<|aa (ai az (ai az (ac 6) ¬0) ¬1) ag)<|aa (ac 7)<|aa (ac 8) ag) ag)
def rJ(w:Ad)(y:DX):au:=bg (j_ "list" bu (ac 5)<|aa (aS<|aa (ai az (ai az (ac 6) ¬0) ¬3)<|aa (ac 7)<|aa (ai oOr (ac 8)<|ac 9) ag) ag)
def tL(w:Ad)(y:DX):au:=ah (bg<|j_ "list" bu (ac 5)<|aa (aS<|aa (ai az (ai az (ac 6) ¬0) ¬2)<|aa (ai oOr (ac 7)<|ac 9)<|aa (ac 8) ag) ag) (rJ w y)
def uh(w:Ad)(y:DX):au:=ah (ao (ai az (ac 3)<|ai az (ai az (ac 6) ¬0) ¬1)<|af 9) (tL w y)
def su(w:Ad)(y:DX):au:=aJ (am<|ai ck (ai az (ai az (ac 6) ¬0) ¬0) ¬"end") (sR w y) (uh w y)
def tM(w:Ad)(y:DX):au:=ah (ao (ai az (ac 6) ¬2)<|af 8) (su w y)
def tD(w:Ad)(y:DX):au:=ah (ao (ai az (ac 6) ¬1)<|af 7) (tM w y)
def iu(w:Ad)(y:DX):au:=ah (ao (j_ "list" E8 (ac 5) ag)<|af 6) (tD w y)
def Az(w:Ad)(y:DX):au:=ah (gO (cW<|ac 5)<|iu w y) (aB<|ac 4)
def xb(w:Ad)(y:DX):au:=ah (ao (bO<|aa (aS<|aa (aj (AK w) y 2<|aa (ac 0)<|aa (ac 1) ag)<|aa (¬0)<|aa (¬0) ag) ag)<|af 5) (Az w y)
def wy(w:Ad)(y:DX):au:=ah (ao (b6 gR<|aa (aq<|aV (o8<|aa (aq<|aj (li w) y 1<|aa (ac 0) ag) ag) ["number","thing"] [] (dm 2<|aN (af 0)<|aN (af 1) dg) dX<|aS<|aa (ac 1)<|aa (ai UC (¬1)<|ac 0) ag) ag)<|af 3) (ah (ao (bO ag)<|af 4)<|xb w y)
def IF(w:Ad)(y:DX):au:=ah (ao (aq<|aj (wx w) y 1<|aa (ac 0) ag)<|af 2) (wy w y)
def Bc(ad:Ad):Sd:=aK ["case","limit","two","bit_of","found","waiting","here","sound","faulty","bit"] (IF ad)
theorem u_q47:Bc ad [a,b] M Q E=IF ad (aI E) Q⁻¹ [ap a,ap b,ca,ca,ca,ca,ca,ca,ca,ca] M:=rfl
def Bu(w:Ad)(y:DX):au:=aB (aV (dw<|aa (j_ "int" uF (ac 0) ag) ag) ["number"] [0] (af 0) (am<|ai ck (ai ON (ai SM (ac 1)<|ac 0) ¬1) ¬1)<|ac 0)
def ww(ad:Ad):Sd:=aK ["bits"] (Bu ad)
theorem U2:ww ad [a] M Q E=Bu ad (aI E) Q⁻¹ [ap a] M:=rfl
def yd(w:Ad)(y:DX):au:=ah (ao (ac 3)<|af 2) (ao (ac 4)<|af 3)
def o5(w:Ad)(y:DX):au:=ah (ao (ai dH (ac 2)<|ac 3)<|af 4) (yd w y)
def yK(w:Ad)(y:DX):au:=aB (aS<|aa (ai fG (ac 0)<|ac 2)<|aa (ai fG (ac 1)<|ac 2) ag)
def yt(w:Ad)(y:DX):au:=ah (gO (am<|ai km (ac 3) ¬0)<|o5 w y) (yK w y)
def yM(w:Ad)(y:DX):au:=ah (ao (ai dH (ac 0)<|ac 1)<|af 3) (yt w y)
def Kt(w:Ad)(y:DX):au:=ah (ao (ac 1)<|af 2) (yM w y)
def Lb(ad:Ad):Sd:=aK ["n","d","divisor","rest","behind"] (Kt ad)
theorem u_q1:Lb ad [a,b] M Q E=Kt ad (aI E) Q⁻¹ [ap a,ap b,ca,ca,ca] M:=rfl
def tq(w:Ad)(y:DX):au:=bg (j_ "list" bu (ac 1)<|aa (ai cD (ai az (ac 1)<|vO ¬1)<|ai aZ (ac 2) ¬1) ag)
def tJ(w:Ad)(y:DX):au:=ah (cj (dw<|aa (ac 0) ag) (af 2)<|tq w y) (aB<|ac 1)
def BD(w:Ad)(y:DX):au:=ah (ao (bO<|aa (¬1) ag)<|af 1) (tJ w y)
def vh(ad:Ad):Sd:=aK ["count","told","number"] (BD ad)
theorem SG:vh ad [a] M Q E=BD ad (aI E) Q⁻¹ [ap a,ca,ca] M:=rfl
def sh(w:Ad)(y:DX):au:=vD (ac 3) (ac 10) (ai cD (ai cD (ac 9)<|ai az (ac 5)<|ai fc (b6 bh<|aa (ac 7) ag) ¬1)<|ai az (ac 5)<|b6 bh<|aa (ac 8) ag) rq
def ut(w:Ad)(y:DX):au:=vD (ac 3) (ac 10) (ai cD (ai cD (ac 9)<|ai az (ac 5)<|b6 bh<|aa (ac 7) ag)<|ai az (ac 5)<|ai fc (b6 bh<|aa (ac 8) ag) ¬1) fc
def m3(w:Ad)(y:DX):au:=ah (cj (cm<|ac 7) (af 10)<|sh w y) (cj (cm<|ac 8) (af 10)<|ut w y)
def mh(w:Ad)(y:DX):au:=ah (ao (ai fG (ai az (ac 5)<|vO ¬1)<|ai az (ac 5)<|aq<|ai aZ (b6 bh<|aa (ac 7) ag)<|b6 bh<|aa (ac 8) ag)<|af 9) (m3 w y)
def lP(w:Ad)(y:DX):au:=ah (ao (aq<|aj (ww w) y 1<|aa (aW w.C_Outcome (ac 6) "sound") ag)<|af 8) (mh w y)
def ip(w:Ad)(y:DX):au:=ah (ao (aq<|aj (ww w) y 1<|aa (aW w.C_Outcome (ac 6) "faulty") ag)<|af 7) (lP w y)
def mj(w:Ad)(y:DX):au:=ah (cj (cm<|ac 4) (af 6)<|ip w y) (aB<|ac 3)
def mv(w:Ad)(y:DX):au:=ah (ao (aq<|aj (vh w) y 1<|aa (b6 bh<|aa (ac 2) ag) ag)<|af 5) (mj w y)
def ms(w:Ad)(y:DX):au:=ah (cF (dB 4<|aV (cm<|aq<|aj (Bc w) y 2<|aa (ac 0)<|aa (ac 1) ag) ["one"] [] (af 0) (am<|ai ck (aW w.C_Outcome (ac 0) "verdict") ¬"faulty")<|ac 0) 4) (mv w y)
def jt(w:Ad)(y:DX):au:=ah (dB 3<|aV (cm<|ac 2) ["thing"] [] (af 0) dX ¬0) (ms w y)
def Dh(w:Ad)(y:DX):au:=ah (ao (aq<|aj (li w) y 1<|aa (ac 0) ag)<|af 2) (jt w y)
def vV(ad:Ad):Sd:=aK ["case","limit","things","told","ends","many","end","faulty","sound","each","number"] (Dh ad)
theorem Ta:vV ad [a,b] M Q E=Dh ad (aI E) Q⁻¹ [ap a,ap b,ca,ca,ca,ca,ca,ca,ca,ca,ca] M:=rfl
def rK(w:Ad)(y:DX):au:=aJ (Lv (am<|ai km (ai az (ac 2) ¬0)<|ai az (ai az (ac 0) ¬0) ¬0)<|am<|ai km (aq<|aj (li w) y 1<|aa (ac 2) ag)<|ac 4) (kK w.C_NoCase y) aE
def mM(w:Ad)(y:DX):au:=aB (aV (o8<|aa (ac 4) ag) ["number","thing"] [5,3] (dm 2<|aN (af 0)<|aN (af 1) dg) dX<|aS<|aa (ac 1)<|aa (aq<|aj (Lb w) lG 2<|aa (b6 BJ<|aa (aq<|aV (cm<|ac 3) ["orders"] [0] (af 0) dX<|ai az (ac 0)<|ac 1) ag)<|aa (ac 2) ag) ag)
def lY(w:Ad)(y:DX):au:=ah (ao (ai cD (ai az (aq<|aj (vh w) y 1<|aa (b6 bh<|aa (ac 4) ag) ag)<|vO ¬1)<|b6 bh<|aa (ac 0) ag)<|af 5) (mM w y)
def mq(w:Ad)(y:DX):au:=ah (cj (cm<|ac 0) (af 2)<|rK w y) (lY w y)
def mR(w:Ad)(y:DX):au:=ah (ao (aq<|aj (li w) y 1<|aa (ai az (ac 0) ¬0) ag)<|af 4) (mq w y)
def Bg(w:Ad)(y:DX):au:=ah (ao (aq<|aV (cm<|ac 0) ["case"] [1] (af 0) dX<|aq<|aj (vV w) lG 2<|aa (ac 0)<|aa (ac 1) ag)<|af 3) (mR w y)
def Al(ad:Ad):Sd:=aK ["cases","limit","case","held","things","whole"] (Bg ad)
theorem S7:Al ad [a,b] M Q E=Bg ad (aI E) Q⁻¹ [ap a,ap b,ca,ca,ca,ca] M:=rfl
def zg(w:Ad)(y:DX):au:=aB (aj (Al w) y 2<|aa (aq<|bO<|aa (ac 0) ag)<|aa (ac 1) ag)
def rf(ad:Ad):Sd:=aK ["case","limit"] (zg ad)
theorem Tz:rf ad [a,b] M Q E=zg ad (aI E) Q⁻¹ [ap a,ap b] M:=rfl
def z0(w:Ad)(y:DX):au:=ah (ao (ai dH (ai cD (ai SU (ac 2)<|ai fG (ac 2) ¬2147483648) ¬2685821657736338717) ¬18446744073709551616)<|af 2) (aB<|ai fG (ac 2) ¬1048576)
def BF(w:Ad)(y:DX):au:=ah (ao (ai dH (ai aZ (ai aZ (ai cD (ac 0) ¬6364136223846793005)<|ai cD (ac 1) ¬1442695040888963407) ¬97) ¬18446744073709551616)<|af 2) (z0 w y)
def ot(ad:Ad):Sd:=aK ["cell","turn","one"] (BF ad)
theorem Sq:ot ad [a,b] M Q E=BF ad (aI E) Q⁻¹ [ap a,ap b,ca] M:=rfl
def At(w:Ad)(y:DX):au:=ao (ai dH (ai aZ (ai cD (ac 1) ¬1000003)<|ac 2) ¬18446744073709551616) (af 1)
def Bn(w:Ad)(y:DX):au:=aB (bO<|aa (b6 gb<|aa (aq<|ES (ac 0) cS<|fj ¬63) ag)<|aa (¬0)<|aa (¬0)<|aa (ac 1) ag)
def A_(w:Ad)(y:DX):au:=ah (cj (cm<|aq<|ES (ac 0) cS<|fj ¬63) (af 2)<|At w y) (Bn w y)
def C_(w:Ad)(y:DX):au:=ah (ao (¬7)<|af 1) (A_ w y)
def CA(ad:Ad):Sd:=aK ["script","seed","cell"] (C_ ad)
theorem UB:CA ad [a] M Q E=C_ ad (aI E) Q⁻¹ [ap a,ca,ca] M:=rfl
def Bw(w:Ad)(y:DX):au:=aB (ai dH (aq<|aj (ot w) y 2<|aa (ac 2)<|aa (ai az (ac 0) ¬1) ag)<|ac 1)
def zj(w:Ad)(y:DX):au:=ah (aJ (am<|ai EU (ac 2)<|ai Pu (¬10) ¬18) (Bw w y) aE) (ao (ac 2)<|cZ (ac 0) ¬2)
def zZ(w:Ad)(y:DX):au:=ah (ao (j_ "list" E8 (ai az (ac 0) ¬0)<|aa (¬0) ag)<|af 2) (zj w y)
def Ab(w:Ad)(y:DX):au:=aB (ai dH (aq<|aj (ot w) y 2<|aa (ai az (ac 0) ¬3)<|aa (ai az (ac 0) ¬1) ag)<|ac 1)
def AI(w:Ad)(y:DX):au:=ah (ao (ai fG (ai az (ac 0) ¬2)<|ac 1)<|cZ (ac 0) ¬2) (aB<|ac 3)
def C8(w:Ad)(y:DX):au:=ah (ao (ai dH (ai az (ac 0) ¬2)<|ac 1)<|af 3) (AI w y)
def CF(w:Ad)(y:DX):au:=ah (aJ (am<|ai ck (ai az (ac 0) ¬2) ¬0) (Ab w y) aE) (C8 w y)
def BQ(w:Ad)(y:DX):au:=ah (aJ (p_ (am<|ai ck (ai az (ac 0) ¬2) ¬0)<|am<|ai km (ai az (ac 0) ¬0)<|aq<|bO ag) (zZ w y) aE) (CF w y)
def J7(w:Ad)(y:DX):au:=ah (ao (ai aZ (ai az (ac 0) ¬1) ¬1)<|cZ (ac 0) ¬1) (BQ w y)
def ba(ad:Ad):Sd:=aK ["pot","many","cell","found"] (J7 ad)
theorem u_q37:ba ad [a,b] M Q E=J7 ad (aI E) Q⁻¹ [ap a,ap b,ca,ca] M:=rfl
def BS(w:Ad)(y:DX):au:=bg (j_ "list" bu (ac 3)<|aa (ai cD (ac 5)<|ai aZ (¬1)<|aq<|aj (ba w) y 2<|aa (ac 0)<|aa (¬8) ag) ag)
def AM(w:Ad)(y:DX):au:=ah (ao (ai az (¬"abcdefghijklmnopqrstuvwxyz")<|ai dH (ai aZ (ac 2)<|ai cD (¬7)<|ac 4) ¬26)<|af 5) (BS w y)
def B8(w:Ad)(y:DX):au:=ah (cj (dw<|aa (ac 1) ag) (af 4)<|AM w y) (aB<|b6 bP<|aa (ac 3) ag)
def Ao(w:Ad)(y:DX):au:=ah (ao (aq<|aj (ba w) y 2<|aa (ac 0)<|aa (¬26) ag)<|af 2) (ah (ao (bO ag)<|af 3)<|B8 w y)
def Bt(ad:Ad):Sd:=aK ["pot","many","turn","names","k","sign"] (Ao ad)
theorem UI:Bt ad [a,b] M Q E=Ao ad (aI E) Q⁻¹ [ap a,ap b,ca,ca,ca,ca] M:=rfl
def zN(w:Ad)(y:DX):au:=aB (aS<|aa (ac 6)<|aa (ac 7)<|aa (aj (ba w) y 2<|aa (ac 0)<|aa (ac 2) ag) ag)
def Dj(w:Ad)(y:DX):au:=aB (aS<|aa (ac 6)<|aa (ac 7)<|aa (aj (ba w) y 2<|aa (ac 0)<|aa (ac 4) ag) ag)
def Ay(w:Ad)(y:DX):au:=aB (aS<|aa (ac 6)<|aa (ac 7)<|aa (ac 8) ag)
def zu(w:Ad)(y:DX):au:=aB (aS<|aa (ac 6)<|aa (ac 7)<|aa (ac 8)<|aa (ai az (ac 3)<|aq<|aj (ba w) y 2<|aa (ac 0)<|aa (b6 bh<|aa (ac 3) ag) ag) ag)
def zM(w:Ad)(y:DX):au:=ah (aJ (am<|ai ck (ac 6) ¬"pick") (Ay w y) aE) (zu w y)
def zU(w:Ad)(y:DX):au:=ah (ao (ai az (ac 3)<|aq<|aj (ba w) y 2<|aa (ac 0)<|aa (b6 bh<|aa (ac 3) ag) ag)<|af 8) (zM w y)
def zk(w:Ad)(y:DX):au:=ah (aJ (am<|ai ck (ac 6) ¬"take") (Dj w y) aE) (zU w y)
def An(w:Ad)(y:DX):au:=ah (aJ (am<|ai ck (ac 6) ¬"put") (zN w y) aE) (zk w y)
def BG(w:Ad)(y:DX):au:=ah (ao (ai az (ac 3)<|aq<|aj (ba w) y 2<|aa (ac 0)<|aa (b6 bh<|aa (ac 3) ag) ag)<|af 7) (An w y)
def we(w:Ad)(y:DX):au:=ah (ao (ai az (ac 5)<|aq<|aj (ba w) y 2<|aa (ac 0)<|aa (pq (am<|ai BY (ac 4) ¬0) (¬9) ¬7) ag)<|af 6) (BG w y)
def wR(w:Ad)(y:DX):au:=ah (ao (aq<|bO<|aa (¬"put")<|aa (¬"sum")<|aa (¬"by")<|aa (¬"less")<|aa (¬"same")<|aa (¬"sum")<|aa (¬"put")<|aa (¬"take")<|aa (¬"pick") ag)<|af 5) (we w y)
def D4(w:Ad)(y:DX):au:=ah (ao (ac 1)<|dm 3<|aN (af 2)<|aN (af 3)<|aN (af 4) dg) (wR w y)
def vm(ad:Ad):Sd:=aK ["pot","told","m","names","many","ways","way","x","y"] (D4 ad)
theorem SX:vm ad [a,b] M Q E=D4 ad (aI E) Q⁻¹ [ap a,ap b,ca,ca,ca,ca,ca,ca,ca] M:=rfl
def zC(w:Ad)(aah aag:Sd)(y:DX):au:=aB (bO<|aa (aS<|aa (¬"if")<|aa (ac 7)<|aa (ac 8)<|aa (aj aag y 5<|aa (ac 0)<|aa (ac 1)<|aa (ac 2)<|aa (ai aZ (ac 3) ¬1)<|aa (¬5) ag) ag) ag)
def BO(w:Ad)(aah aag:Sd)(y:DX):au:=aB (bO<|aa (aS<|aa (¬"again")<|aa (ac 7)<|aa (ac 8) ag) ag)
def Cw(w:Ad)(aah aag:Sd)(y:DX):au:=aB (bO<|aa (aS<|aa (¬"put")<|aa (ac 7)<|aa (aj (ba w) y 2<|aa (ac 0)<|aa (b6 Ix<|aa (ac 4)<|aa (¬9) ag) ag) ag)<|aa (aS<|aa (¬"put")<|aa (ac 10)<|aa (ai fc (ac 4) ¬1) ag)<|aa (aS<|aa (¬"again")<|aa (ac 7)<|aa (ai aZ (ac 8)<|aS<|aa (aS<|aa (¬"sum")<|aa (ac 7)<|aa (ac 7)<|aa (ac 10) ag) ag) ag) ag)
def Am(w:Ad)(aah aag:Sd)(y:DX):au:=ah (ao (ai az (ac 5)<|aq<|aj (ba w) y 2<|aa (ac 0)<|aa (b6 bh<|aa (ac 5) ag) ag)<|af 10) (Cw w aah aag y)
def C3(w:Ad)(aah aag:Sd)(y:DX):au:=ah (aJ (am<|ai ck (ac 9) ¬2) (BO w aah aag y) aE) (Am w aah aag y)
def Ck(w:Ad)(aah aag:Sd)(y:DX):au:=ah (aJ (am<|ai EU (ac 9) ¬2) (zC w aah aag y) aE) (C3 w aah aag y)
def za(w:Ad)(aah aag:Sd)(y:DX):au:=ah (ao (aq<|aj (ba w) y 2<|aa (ac 0)<|aa (¬5) ag)<|af 9) (Ck w aah aag y)
def BR(w:Ad)(aah aag:Sd)(y:DX):au:=ah (ao (aq<|aj aag y 5<|aa (ac 0)<|aa (ac 1)<|aa (ac 2)<|aa (ai aZ (ac 3) ¬1)<|aa (¬5) ag)<|af 8) (za w aah aag y)
def Bp(w:Ad)(aah aag:Sd)(y:DX):au:=ah (ao (ai az (ac 5)<|aq<|aj (ba w) y 2<|aa (ac 0)<|aa (b6 bh<|aa (ac 5) ag) ag)<|af 7) (BR w aah aag y)
def zQ(w:Ad)(aah aag:Sd)(y:DX):au:=ah (ao (ac 1)<|dm 3<|aN (af 4)<|aN (af 5)<|aN (af 6) dg) (Bp w aah aag y)
def zh(w:Ad)(aah aag:Sd)(y:DX):au:=ao (ai aZ (ac 5)<|aq<|aj aah y 4<|aa (ac 0)<|aa (ac 1)<|aa (ac 2)<|aa (ac 3) ag) (af 5)
def A2(w:Ad)(aah aag:Sd)(y:DX):au:=ah (ao (ai fc (ai az (ac 2) ¬0) ¬4)<|cZ (ac 2) ¬0) (zh w aah aag y)
def zP(w:Ad)(aah aag:Sd)(y:DX):au:=bg (j_ "list" bu (ac 5)<|aa (aq<|aj (vm w) y 2<|aa (ac 0)<|aa (ac 1) ag) ag)
def AO(w:Ad)(aah aag:Sd)(y:DX):au:=ah (ao (ai fc (ai az (ac 2) ¬0) ¬1)<|cZ (ac 2) ¬0) (zP w aah aag y)
def zE(w:Ad)(aah aag:Sd)(y:DX):au:=aJ (am<|ai BY (ai az (ac 2) ¬0) ¬0) (AO w aah aag y) aE
def Au(w:Ad)(aah aag:Sd)(y:DX):au:=aJ (p_ (am<|ai BY (ai az (ac 2) ¬0) ¬4)<|p_ (am<|ai EU (ac 3) ¬4)<|am<|ai ck (aq<|aj (ba w) y 2<|aa (ac 0)<|aa (¬4) ag) ¬0) (A2 w aah aag y) (zE w aah aag y)
def AX(w:Ad)(aah aag:Sd)(y:DX):au:=ah (cj (dw<|aa (aq<|aj (ba w) y 2<|aa (ac 0)<|aa (ac 4) ag) ag) (af 6)<|Au w aah aag y) (aB<|b6 bP<|aa (ac 5) ag)
def Ct(w:Ad)(aah aag:Sd)(y:DX):au:=ah (ao (bO ag)<|af 5) (AX w aah aag y)
mutual
noncomputable def aah(ad:Ad):Nat->Sd
 |0=>λ_ _ _ _=>False
 |n+1=>aK ["pot","told","room","deep","m","names","many","x","first","way","y"] (zQ ad (aah ad n)<|aag ad n)
noncomputable def aag(ad:Ad):Nat->Sd
 |0=>λ_ _ _ _=>False
 |n+1=>aK ["pot","told","room","deep","most","rows","k"] (Ct ad (aah ad n)<|aag ad n)
end
theorem T0{n:Nat}:aah ad (n+1) [b,e,a,c] M Q E=zQ ad (aah ad n) (aag ad n) (aI E) Q⁻¹ [ap b,ap e,ap a,ap c,ca,ca,ca,ca,ca,ca,ca] M:=rfl
theorem SC{n:Nat}:aag ad (n+1) [a,b,f,e,c] M Q E=Ct ad (aah ad n) (aag ad n) (aI E) Q⁻¹ [ap a,ap b,ap f,ap e,ap c,ca,ca] M:=rfl
def BB(w:Ad)(y:DX):au:=aB (aS<|aa (ac 2)<|aa (ac 3)<|aa (ac 4)<|aa (ac 5)<|aa (ai az (ac 3)<|aq<|aj (ba w) y 2<|aa (ac 0)<|aa (b6 bh<|aa (ac 3) ag) ag) ag)
def Bf(w:Ad)(y:DX):au:=ah (ao (aq<|aj (aag w 24) y 5<|aa (ac 0)<|aa (aS<|aa (ac 2)<|aa (ac 3)<|aa (ac 4) ag)<|aa (bO<|aa (ac 1) ag)<|aa (¬0)<|aa (ai az (aq<|bO<|aa (¬6)<|aa (¬12)<|aa (¬30) ag)<|aq<|aj (ba w) y 2<|aa (ac 0)<|aa (¬3) ag) ag)<|af 5) (BB w y)
def BM(w:Ad)(y:DX):au:=ah (ao (ai az (aq<|bO<|aa (¬0)<|aa (ai aZ (¬1)<|aq<|aj (ba w) y 2<|aa (ac 0)<|aa (¬4) ag)<|aa (aq<|aj (ba w) y 2<|aa (ac 0)<|aa (¬41) ag) ag)<|aq<|aj (ba w) y 2<|aa (ac 0)<|aa (¬3) ag)<|af 4) (Bf w y)
def Bm(w:Ad)(y:DX):au:=ah (ao (aq<|aj (Bt w) y 2<|aa (ac 0)<|aa (ai aZ (¬1)<|aq<|aj (ba w) y 2<|aa (ac 0)<|aa (ai az (aq<|bO<|aa (¬3)<|aa (¬5)<|aa (¬12) ag)<|aq<|aj (ba w) y 2<|aa (ac 0)<|aa (¬3) ag) ag) ag)<|af 3) (BM w y)
def BX(w:Ad)(y:DX):au:=ah (ao (ai az (aq<|bO<|aa (¬2)<|aa (¬3)<|aa (ai aZ (¬2)<|aq<|aj (ba w) y 2<|aa (ac 0)<|aa (¬9) ag)<|aa (ai aZ (¬2)<|aq<|aj (ba w) y 2<|aa (ac 0)<|aa (¬996) ag) ag)<|aq<|aj (ba w) y 2<|aa (ac 0)<|aa (¬4) ag)<|af 2) (Bm w y)
def Aq(ad:Ad):Sd:=aK ["pot","most","m","names","many","rows"] (BX ad)
theorem S6:Aq ad [a,b] M Q E=BX ad (aI E) Q⁻¹ [ap a,ap b,ca,ca,ca,ca] M:=rfl
def A9(w:Ad)(y:DX):au:=aB (aS<|aa (ac 2)<|aa (b6 bP<|aa (aq<|aV (dw<|aa (ai az (ac 1) ¬2) ag) ["k"] [0,1] (af 0) dX<|aq<|aj (ba w) lG 2<|aa (ac 1)<|aa (ai az (ac 2) ¬0) ag) ag) ag)
def IV(w:Ad)(y:DX):au:=ah (ao (b6 bP<|aa (aq<|aV (cm<|ai az (ac 1) ¬1) ["name"] [0,1] (af 0) dX<|aq<|aj (ba w) lG 2<|aa (ac 1)<|aa (ai az (ac 2) ¬0) ag) ag)<|af 2) (A9 w y)
def AR(ad:Ad):Sd:=aK ["pot","plan","numbers"] (IV ad)
theorem u_q22:AR ad [a,b] M Q E=IV ad (aI E) Q⁻¹ [ap a,ap b,ca] M:=rfl
def A0(w:Ad)(y:DX):au:=aB (ai az (ac 3)<|ai dH (ai az (ac 2)<|ai az (ac 1) ¬2)<|b6 bh<|aa (ac 3) ag)
def zx(w:Ad)(y:DX):au:=aB (ai dH (aq<|ai aZ (ac 7)<|ac 8)<|ac 6)
def Av(w:Ad)(y:DX):au:=aB (pq (am<|ai EU (ac 7)<|ac 8) (¬1) ¬0)
def Ai(w:Ad)(y:DX):au:=aB (pq (am<|ai ck (ac 7)<|ac 8) (¬1) ¬0)
def C0(w:Ad)(y:DX):au:=ah (aJ (am<|ai ck (ai az (ac 1) ¬0) ¬"less") (Av w y) aE) (Ai w y)
def CJ(w:Ad)(y:DX):au:=ah (aJ (am<|ai ck (ai az (ac 1) ¬0) ¬"by") (aB<|ai dH (ai cD (ac 7)<|ac 8)<|ac 6) aE) (C0 w y)
def Di(w:Ad)(y:DX):au:=ah (aJ (am<|ai ck (ai az (ac 1) ¬0) ¬"sum") (zx w y) aE) (CJ w y)
def AE(w:Ad)(y:DX):au:=ah (ao (ai az (ac 2)<|ai az (ac 1) ¬3)<|af 8) (Di w y)
def B_(w:Ad)(y:DX):au:=ah (ao (ai az (ac 2)<|ai az (ac 1) ¬2)<|af 7) (AE w y)
def vo(w:Ad)(y:DX):au:=ah (aJ (am<|ai ck (ai az (ac 1) ¬0) ¬"pick") (A0 w y) aE) (B_ w y)
def wa(w:Ad)(y:DX):au:=ah (aJ (am<|ai ck (ai az (ac 1) ¬0) ¬"take") (aB<|ai az (ac 3)<|ai az (ac 1) ¬2) aE) (vo w y)
def uS(w:Ad)(y:DX):au:=ah (aJ (am<|ai ck (ai az (ac 1) ¬0) ¬"put") (aB<|ai az (ac 1) ¬2) aE) (wa w y)
def pE(w:Ad)(y:DX):au:=ah (ao (ac 0)<|E3 5<|aN (af 2)<|aN (af 3)<|aN (af 4)<|aN (af 5)<|aN (af 6) dg) (uS w y)
def wI(ad:Ad):Sd:=aK ["gone","row","numbers","pieces","steps","most","m","one","other"] (pE ad)
theorem Cj:wI ad [a,b] M Q E=pE ad (aI E) Q⁻¹ [ap a,ap b,ca,ca,ca,ca,ca,ca,ca] M:=rfl
def zR(w:Ad)(y:DX):au:=ah (bg<|j_ "list" bu (ai az (ac 0) ¬2)<|aa (aS<|aa (ac 1)<|aa (ac 2) ag) ag) (aB<|dC<|.bl true)
def zn(w:Ad)(y:DX):au:=ah (aJ (am<|ai ck (b6 bh<|aa (ai az (ac 0) ¬2) ag)<|ai az (ac 0) ¬3) (aB<|dC<|.bl cx) aE) (zR w y)
def lj(ad:Ad):Sd:=aK ["gone","place","number"] (zn ad)
theorem RY:lj ad [b,c,a] M Q E=zn ad (aI E) Q⁻¹ [ap b,ap c,ap a] M:=rfl
def uL(w:Ad)(aaj aaf:Sd)(y:DX):au:=aJ (gI<|cW<|aq<|aj aaf y 3<|aa (ac 0)<|aa (ai az (ac 1) ¬2)<|aa (ai aZ (ac 2)<|aS<|aa (ac 3) ag) ag) (aB<|dC<|.bl cx) aE
def BU(w:Ad)(aaj aaf:Sd)(y:DX):au:=ah (aJ (am<|ai ck (ac 4) ¬0) (aB<|dC<|.bl true) aE) (uL w aaj aaf y)
def rS(w:Ad)(aaj aaf:Sd)(y:DX):au:=ah (aJ (gI<|cW<|aq<|aj (lj w) y 3<|aa (ac 0)<|aa (ai aZ (ac 2)<|aS<|aa (ac 3) ag)<|aa (ac 4) ag) (aB<|dC<|.bl cx) aE) (BU w aaj aaf y)
def mz(w:Ad)(aaj aaf:Sd)(y:DX):au:=ah (ao (pq (am<|ai ck (ai az (ai az (ac 0) ¬0)<|ai az (ac 1) ¬1) ¬0) (¬0) ¬1)<|af 4) (rS w aaj aaf y)
def BH(w:Ad)(aaj aaf:Sd)(y:DX):au:=ah (cj (dw<|aa (ai aZ (ai az (ac 0) ¬3) ¬1) ag) (af 3)<|mz w aaj aaf y) (aB<|dC<|.bl cx)
def uE(w:Ad)(aaj aaf:Sd)(y:DX):au:=aJ (gI<|cW<|aq<|aj aaj y 3<|aa (ac 0)<|aa (ac 4)<|aa (ac 5) ag) (aB<|dC<|.bl cx) aE
def uJ(w:Ad)(aaj aaf:Sd)(y:DX):au:=aJ (Lv (gI<|cW<|aq<|aj (lj w) y 3<|aa (ac 0)<|aa (ac 5)<|aa (ac 6) ag)<|gI<|cW<|aq<|aj aaf y 3<|aa (ac 0)<|aa (ac 7)<|aa (ai aZ (ac 5)<|aS<|aa (ac 6) ag) ag) (aB<|dC<|.bl cx) aE
def rW(w:Ad)(aaj aaf:Sd)(y:DX):au:=ah (ao (ai az (aq<|bO<|aa (ai az (ac 4) ¬3)<|aa (ai az (ac 4) ¬2) ag)<|ac 6)<|af 7) (uJ w aaj aaf y)
def uB(w:Ad)(aaj aaf:Sd)(y:DX):au:=ah (ao (pq (am<|ai ck (ai az (ai az (ac 0) ¬0)<|ai az (ac 4) ¬1) ¬0) (¬0) ¬1)<|af 6) (rW w aaj aaf y)
def zA(w:Ad)(aaj aaf:Sd)(y:DX):au:=ao (ac 8) (cZ (ai az (ac 0) ¬0)<|ai az (ac 4) ¬1)
def me(w:Ad)(aaj aaf:Sd)(y:DX):au:=ah (aJ (gI<|cW<|aq<|aj (lj w) y 3<|aa (ac 0)<|aa (ac 5)<|aa (ac 8) ag) (aB<|dC<|.bl cx) aE) (zA w aaj aaf y)
def lK(w:Ad)(aaj aaf:Sd)(y:DX):au:=ah (ao (aq<|aj (wI w) y 2<|aa (ac 0)<|aa (ac 4) ag)<|af 8) (me w aaj aaf y)
def lT(w:Ad)(aaj aaf:Sd)(y:DX):au:=aJ (am<|ai ck (ai az (ac 4) ¬0) ¬"if") (uB w aaj aaf y) (lK w aaj aaf y)
def t7(w:Ad)(aaj aaf:Sd)(y:DX):au:=aJ (am<|ai ck (ai az (ac 4) ¬0) ¬"again") (uE w aaj aaf y) (lT w aaj aaf y)
def pC(w:Ad)(aaj aaf:Sd)(y:DX):au:=ah (ao (ai aZ (ac 2)<|aS<|aa (ac 3) ag)<|af 5) (t7 w aaj aaf y)
def zw(w:Ad)(aaj aaf:Sd)(y:DX):au:=ah (cj (o8<|aa (ac 1) ag) (dm 2<|aN (af 3)<|aN (af 4) dg)<|pC w aaj aaf y) (aB<|dC<|.bl true)
mutual
noncomputable def aaj(ad:Ad):Nat->Sd
 |0=>λ_ _ _ _=>False
 |n+1=>aK ["gone","row","place","turn","look"] (BH ad (aaj ad n)<|aaf ad n)
noncomputable def aaf(ad:Ad):Nat->Sd
 |0=>λ_ _ _ _=>False
 |n+1=>aK ["gone","rows","place","at","row","here","look","inner","number"] (zw ad (aaj ad n)<|aaf ad n)
end
theorem Ux{n:Nat}:aaj ad (n+1) [b,c,a] M Q E=BH ad (aaj ad n) (aaf ad n) (aI E) Q⁻¹ [ap b,ap c,ap a,ca,ca] M:=rfl
theorem Tc{n:Nat}:aaf ad (n+1) [b,c,a] M Q E=zw ad (aaj ad n) (aaf ad n) (aI E) Q⁻¹ [ap b,ap c,ap a,ca,ca,ca,ca,ca,ca] M:=rfl
def B7(w:Ad)(y:DX):au:=aB (aS<|aa (ai az (ac 3) ¬2)<|aa (dC .non) ag)
def AY(w:Ad)(y:DX):au:=aB (aS<|aa (ai az (ac 3) ¬2)<|aa (b6 bP<|aa (aq<|aV (cm<|ai az (ac 0) ¬1) ["name"] [3] (af 0) dX<|ai az (ai az (ac 1) ¬0)<|ac 0) ag) ag)
def Aw(w:Ad)(y:DX):au:=ah (aJ (gI<|cW<|aq<|aj (aaf w 24) y 3<|aa (ac 3)<|aa (ai az (ac 0) ¬3)<|aa (aS ag) ag) (B7 w y) aE) (AY w y)
def zG(w:Ad)(y:DX):au:=ah (ao (bO<|aa (hW<|aa (ai az (ac 0) ¬1)<|aa (ai az (ac 1) ¬0) ag)<|aa (ai az (ac 1) ¬1)<|aa (bO ag)<|aa (ac 2)<|aa (ai az (ac 0) ¬0) ag)<|af 3) (Aw w y)
def nJ(ad:Ad):Sd:=aK ["plan","stand","most","gone"] (zG ad)
theorem Tu:nJ ad [b,c,a] M Q E=zG ad (aI E) Q⁻¹ [ap b,ap c,ap a,ca] M:=rfl
def G0(w:Ad)(y:DX):au:=aB (b6 bP<|aa (aq<|aV (cm<|ac 0) ["row"] [] (af 0) (am<|ai nE (ai az (ac 0) ¬0)<|aq<|bO<|aa (¬"if")<|aa (¬"again") ag)<|ac 0) ag)
def wB(ad:Ad):Sd:=aK ["rows"] (G0 ad)
theorem u_q41:wB ad [a] M Q E=G0 ad (aI E) Q⁻¹ [ap a] M:=rfl
def uC(w:Ad)(y:DX):au:=aB (aS<|aa (ai az (ai az (ac 4) ¬0)<|ac 5)<|aa (ai az (ai az (ac 4) ¬1)<|ac 5) ag)
def mP(w:Ad)(y:DX):au:=ah (ao (Jm i_ (ai az (ac 0) ¬1)<|aa (ai az (ac 0) ¬4) ag)<|af 5) (uC w y)
def ma(w:Ad)(y:DX):au:=ah (aJ (am<|ai wU (dC .non)<|ac 4) (aB<|dC .non) aE) (mP w y)
def Bh(w:Ad)(y:DX):au:=ah (cF (dB 4<|aV (cm<|aq<|bO<|aa (ac 1)<|aa (ac 2) ag) ["stand"] [0,3] (af 0) dX<|ai az (qY<|aj (nJ w) lG 3<|aa (ac 1)<|aa (ac 0)<|aa (ac 2) ag) ¬1) 4) (ma w y)
def oB(ad:Ad):Sd:=aK ["plan","sound","faulty","most","last","at"] (Bh ad)
theorem S3:oB ad [b,e,a,c] M Q E=Bh ad (aI E) Q⁻¹ [ap b,ap e,ap a,ap c,ca,ca] M:=rfl
def BL(w:Ad)(y:DX):au:=aB (ai dH (aq<|ai aZ (ai aZ (ac 2) ¬1)<|aq<|aj (ba w) y 2<|aa (ac 0)<|aa (ai fc (ac 1) ¬1) ag)<|ac 1)
def oS(ad:Ad):Sd:=aK ["pot","m","number"] (BL ad)
theorem TZ:oS ad [b,c,a] M Q E=BL ad (aI E) Q⁻¹ [ap b,ap c,ap a] M:=rfl
def mF(w:Ad)(y:DX):au:=ao (ai aZ (aq<|ES (ac 0) cS<|fj ¬3)<|aS<|aa (ai aZ (ac 5)<|aS<|aa (ac 7) ag)<|aa (ai az (ac 0) ¬4) ag) (af 0)
def mZ(w:Ad)(y:DX):au:=ah (ao (aS<|aa (¬"sum")<|aa (ai az (ac 0) ¬4)<|aa (ai az (ac 0) ¬4)<|aa (ac 4) ag)<|af 7) (mF w y)
def mO(w:Ad)(y:DX):au:=ah (aJ (am<|ai ck (ai az (ac 6) ¬0)<|ai az (ac 6) ¬1) (mZ w y) aE) (aB<|ac 0)
def lX(w:Ad)(y:DX):au:=ah (ao (aq<|aj (oB w) y 4<|aa (ac 0)<|aa (ac 1)<|aa (ac 2)<|aa (ac 3) ag)<|af 6) (mO w y)
def mE(w:Ad)(y:DX):au:=ah (ao (ai aZ (aq<|ES (ac 0) cS<|fj ¬3)<|aS<|aa (ac 5)<|aa (ai az (ac 0) ¬4) ag)<|af 0) (lX w y)
def B2(w:Ad)(y:DX):au:=ah (ao (b6 bP<|aa (aq<|aV (cm<|aq<|aj (wB w) y 1<|aa (ai az (ac 0) ¬3) ag) ["row"] [4] (af 0) (am<|ai km (ai az (ac 0) ¬1)<|ac 1)<|ac 0) ag)<|af 5) (mE w y)
def zr(ad:Ad):Sd:=aK ["plan","sound","faulty","most","name","rows","both","more"] (B2 ad)
theorem Sn:zr ad [a,b,f,e,c] M Q E=B2 ad (aI E) Q⁻¹ [ap a,ap b,ap f,ap e,ap c,ca,ca,ca] M:=rfl
def sH(w:Ad)(y:DX):au:=ao (aS<|aa (aS<|aa (¬"take")<|aa (ai az (ac 2) ¬0)<|aa (¬0) ag)<|aa (aS<|aa (¬"sum")<|aa (ai az (ac 0) ¬4)<|aa (ai az (ac 0) ¬4)<|aa (ai az (ac 2) ¬0) ag) ag) (af 1)
def oG(w:Ad)(y:DX):au:=aB (ai aZ (aq<|ES (ac 0) cS<|fj ¬3)<|aS<|aa (aq<|ai aZ (ai az (ac 0) ¬3)<|ac 1)<|aa (ai az (ac 0) ¬4) ag)
def uA(w:Ad)(y:DX):au:=ah (aJ (am<|ai km (ac 2)<|aq<|bO ag) (sH w y) aE) (oG w y)
def rQ(w:Ad)(y:DX):au:=ah (cF (dB 2<|aV (cm<|ai az (ac 0) ¬1) ["one"] [0] (af 0) (am<|ai km (ac 0)<|ai az (ac 1) ¬4)<|ac 0) 2) (uA w y)
def Jw(w:Ad)(y:DX):au:=ah (ao (aS<|aa (aS<|aa (¬"take")<|aa (ai az (ac 0) ¬4)<|aa (¬0) ag) ag)<|af 1) (rQ w y)
def KC(ad:Ad):Sd:=aK ["plan","more","rest"] (Jw ad)
theorem u_q9:KC ad [a] M Q E=Jw ad (aI E) Q⁻¹ [ap a,ca,ca] M:=rfl
def uu(w:Ad)(y:DX):au:=ao (aq<|aj (oS w) y 3<|aa (ac 0)<|aa (ai az (ac 3) ¬0)<|aa (ai az (ac 5)<|ac 7) ag) (cZ (ac 5)<|ac 7)
def sk(w:Ad)(y:DX):au:=ao (aq<|ai aZ (ac 8)<|b6 Ix<|aa (b6 bh<|aa (ac 6) ag)<|aa (ai cD (¬2)<|ac 2) ag) (af 8)
def tV(w:Ad)(y:DX):au:=ah (ao (aq<|aj (oS w) y 3<|aa (ac 0)<|aa (ai az (ac 3) ¬0)<|aa (ai az (ac 6) ¬0) ag)<|cZ (ac 6) ¬0) (sk w y)
def sL(w:Ad)(y:DX):au:=ao (aq<|aj (oS w) y 3<|aa (ac 0)<|aa (ai az (ac 3) ¬0)<|aa (ai az (ai az (ac 4) ¬0)<|ac 10) ag) (cZ (ac 5)<|ac 10)
def sM(w:Ad)(y:DX):au:=ao (aq<|aj (oS w) y 3<|aa (ac 0)<|aa (ai az (ac 3) ¬0)<|aa (ai az (ai az (ac 4) ¬1)<|ac 10) ag) (cZ (ac 6)<|ac 10)
def sx(w:Ad)(y:DX):au:=ah (ao (ai fc (ac 10)<|b6 bh<|aa (ac 5) ag)<|af 10) (sM w y)
def sE(w:Ad)(y:DX):au:=aJ (am<|ai EU (ac 10)<|b6 bh<|aa (ac 5) ag) (sL w y) (sx w y)
def uc(w:Ad)(y:DX):au:=ah (ao (aq<|aj (ba w) y 2<|aa (ac 0)<|aa (ac 8) ag)<|af 10) (sE w y)
def CY(w:Ad)(y:DX):au:=ao (ai aZ (aq<|ES (ac 3) cS<|fj ¬3)<|aS<|aa (aq<|aj (wB w) y 1<|aa (ai az (ac 3) ¬3) ag)<|aa (ai az (ac 3) ¬4) ag) (af 3)
def oh(w:Ad)(y:DX):au:=ao (aq<|aj (zr w) y 5<|aa (ac 3)<|aa (ac 4)<|aa (ac 11)<|aa (ac 12)<|aa (ai az (ai az (ac 3) ¬1)<|ac 7) ag) (af 3)
def uZ(w:Ad)(y:DX):au:=ao (aq<|aj (KC w) y 1<|aa (ac 3) ag) (af 3)
def jW(w:Ad)(y:DX):au:=aJ (am<|ai EU (ac 7)<|b6 bh<|aa (ac 5) ag) (oh w y) (uZ w y)
def jr(w:Ad)(y:DX):au:=aB (aS<|aa (ac 3)<|aa (ac 4)<|aa (ac 11)<|aa (ac 12) ag)
def oO(w:Ad)(y:DX):au:=ah (aJ (am<|ai ck (ai az (ac 13) ¬0)<|ai az (ac 13) ¬1) (jW w y) aE) (jr w y)
def ju(w:Ad)(y:DX):au:=ah (ao (aq<|aj (oB w) y 4<|aa (ac 3)<|aa (ac 4)<|aa (ac 11)<|aa (ac 12) ag)<|af 13) (oO w y)
def jg(w:Ad)(y:DX):au:=ah (aJ (am<|ai lB (aq<|aj (oB w) y 4<|aa (ac 3)<|aa (ac 4)<|aa (ac 11)<|aa (ai fc (ac 12) ¬4) ag)<|dC .non) (CY w y) aE) (ju w y)
def oo(w:Ad)(y:DX):au:=ah (ao (ai aZ (¬30)<|aq<|aj (ba w) y 2<|aa (ac 0)<|aa (¬20) ag)<|af 12) (jg w y)
def oC(w:Ad)(y:DX):au:=ah (ao (aS<|aa (b6 bP<|aa (ac 5) ag)<|aa (b6 bP<|aa (ac 6) ag) ag)<|af 11) (oo w y)
def jz(w:Ad)(y:DX):au:=ah (cj (dw<|aa (ai fc (ac 2) ¬1) ag) (af 9)<|uc w y) (oC w y)
def og(w:Ad)(y:DX):au:=ah (aJ (am<|ai EU (ac 7)<|b6 bh<|aa (ac 5) ag) (uu w y)<|tV w y) (jz w y)
def ng(w:Ad)(y:DX):au:=ah (ao (b6 bh<|aa (ac 5) ag)<|af 8) (og w y)
def pw(w:Ad)(y:DX):au:=ah (ao (aq<|aj (ba w) y 2<|aa (ac 0)<|aa (ai cD (¬4)<|b6 bh<|aa (ac 5) ag) ag)<|af 7) (ng w y)
def oF(w:Ad)(y:DX):au:=ah (ao (b6 gb<|aa (ai az (ac 4) ¬1) ag)<|af 6) (pw w y)
def o_(w:Ad)(y:DX):au:=ah (ao (b6 gb<|aa (ai az (ac 4) ¬0) ag)<|af 5) (oF w y)
def p8(w:Ad)(y:DX):au:=ah (ao (aq<|aj (AR w) y 2<|aa (ac 0)<|aa (ac 3) ag)<|af 4) (o_ w y)
def oN(w:Ad)(y:DX):au:=ah (ao (aq<|ai aZ (ai aZ (aq<|ES (ac 3) cS<|fj ¬2)<|aS<|aa (b6 Lc<|aa (¬1)<|aa (ai az (ac 3) ¬2) ag) ag)<|aq<|ES (ac 3) (fj ¬3) cS)<|af 3) (p8 w y)
def Bk(w:Ad)(y:DX):au:=ah (ao (aq<|aj (Aq w) y 2<|aa (ac 0)<|aa (ac 1) ag)<|af 3) (oN w y)
def Cz(ad:Ad):Sd:=aK ["pot","most_rows","few","plan","sound","numbers","pieces","first","some","k","at","faulty","most","both"] (Bk ad)
theorem Ue:Cz ad [b,c,a] M Q E=Bk ad (aI E) Q⁻¹ [ap b,ap c,ap a,ca,ca,ca,ca,ca,ca,ca,ca,ca,ca,ca] M:=rfl
def sj(w:Ad)(y:DX):au:=aB (ai aZ (ac 5)<|aq<|aV (dw<|aa (ai az (ac 1) ¬2) ag) ["k"] [2,3] (af 0) (am<|ai km (ai az (ai az (ac 1) ¬1)<|ac 0)<|ai az (ai az (ac 2) ¬1)<|ac 0)<|ac 0)
def sK(w:Ad)(y:DX):au:=ah (cF (dB 5<|aV (wV<|aa (ai az (ac 1) ¬1)<|aa (ai az (ac 2) ¬0)<|aa (ai az (ac 3) ¬0) ag) ["name","one","other"] [] (dm 3<|aN (af 0)<|aN (af 1)<|aN (af 2) dg) (am<|ai km (ac 1)<|ac 2)<|ac 0) 5) (sj w y)
def zW(w:Ad)(y:DX):au:=ah (ao (ac 0)<|dm 4<|aN (af 1)<|aN (af 2)<|aN (af 3)<|aN (af 4) dg) (sK w y)
def v_(ad:Ad):Sd:=aK ["case","plan","sound","faulty","most","found"] (zW ad)
theorem RU:v_ ad [a] M Q E=zW ad (aI E) Q⁻¹ [ap a,ca,ca,ca,ca,ca] M:=rfl
def jD(w:Ad)(y:DX):au:=bg (j_ "list" bu (ac 6)<|aa (pq (am<|ai wU (ac 7)<|ac 1) (ac 9)<|ac 8) ag)
def sU(w:Ad)(y:DX):au:=aB (aS<|aa (b6 bP<|aa (ac 6) ag)<|aa (b6 bP<|aa (ac 10) ag) ag)
def um(w:Ad)(y:DX):au:=ah (cF (dB 10<|aV (dw<|aa (ai az (ac 2) ¬2) ag) ["k"] [3,1,4] (af 0) dX<|pq (am<|ai wU (ac 0)<|ac 2) (ai az (ai az (ac 3) ¬1)<|ac 0)<|ai az (ai az (ac 1) ¬1)<|ac 0) 10) (sU w y)
def tj(w:Ad)(y:DX):au:=ah (cj (wV<|aa (ai az (ac 2) ¬1)<|aa (ai az (ac 3) ¬0)<|aa (ai az (ac 4) ¬0) ag) (dm 3<|aN (af 7)<|aN (af 8)<|aN (af 9) dg)<|jD w y) (um w y)
def Ch(w:Ad)(y:DX):au:=ah (ao (ac 0)<|dm 4<|aN (af 2)<|aN (af 3)<|aN (af 4)<|aN (af 5) dg) (ah (ao (bO ag)<|af 6)<|tj w y)
def Ag(ad:Ad):Sd:=aK ["case","mix","plan","sound","faulty","most","numbers","name","one","other","pieces"] (Ch ad)
theorem Uh:Ag ad [a,b] M Q E=Ch ad (aI E) Q⁻¹ [ap a,ap b,ca,ca,ca,ca,ca,ca,ca,ca,ca] M:=rfl
def mB(w:Ad)(y:DX):au:=ao (aq<|ai aZ (ac 1)<|aq<|aV (cm<|ac 1) ["one"] [2] (af 0) dX<|aq<|ai aZ (ac 0)<|aq<|bO<|aa (ac 1) ag) (af 1)
def BI(w:Ad)(y:DX):au:=ah (cj (dw<|aa (ac 0) ag) (af 2)<|mB w y) (aB<|ac 1)
def IE(w:Ad)(y:DX):au:=ah (ao (aq<|bO<|aa (aq<|bO ag) ag)<|af 1) (BI w y)
def Cs(ad:Ad):Sd:=aK ["many","found","k"] (IE ad)
theorem u_q18:Cs ad [a] M Q E=IE ad (aI E) Q⁻¹ [ap a,ca,ca] M:=rfl
def my(w:Ad)(y:DX):au:=ao (ai az (aq<|bO<|aa (¬"sound")<|aa (¬"faulty") ag)<|Jm jV (ac 7)<|aa (ai az (ac 10)<|ac 6) ag) (af 11)
def jC(w:Ad)(y:DX):au:=ao (ac 11) (cZ (ac 8)<|b6 bP<|aa (ac 9) ag)
def uz(w:Ad)(y:DX):au:=ah (aJ (p_ (am<|ai fK (ac 10)<|dC .non)<|am<|ai wU (ai az (ac 10)<|ac 6)<|ac 7) (my w y) aE) (jC w y)
def tY(w:Ad)(y:DX):au:=ah (ao (¬"other")<|af 11) (uz w y)
def iH(w:Ad)(y:DX):au:=ah (ao (ai az (qY<|aj (nJ w) y 3<|aa (ac 1)<|aa (aq<|aj (Ag w) y 2<|aa (ac 0)<|aa (aq<|aV (cm<|ac 9) ["k"] [5] (af 0) dX<|ai az (ac 1)<|ac 0) ag)<|aa (ac 4) ag) ¬1)<|af 10) (tY w y)
def D7(w:Ad)(y:DX):au:=ah (cj (cm<|aq<|aj (Cs w) y 1<|aa (b6 bh<|aa (ac 5) ag) ag) (af 9)<|iH w y) (aB<|ac 8)
def zY(w:Ad)(y:DX):au:=ah (ao (aq<|aj (oB w) y 4<|aa (ac 1)<|aa (ac 2)<|aa (ac 3)<|aa (ac 4) ag)<|af 7) (ah (ao Ng<|af 8)<|D7 w y)
def t6(w:Ad)(y:DX):au:=ah (ao (Jm i_ (ai az (ac 1) ¬1)<|aa (ai az (ac 1) ¬4) ag)<|af 6) (zY w y)
def AZ(w:Ad)(y:DX):au:=ah (ao (aq<|aj (v_ w) y 1<|aa (ac 0) ag)<|af 5) (t6 w y)
def J5(w:Ad)(y:DX):au:=ah (ao (ac 0)<|dm 4<|aN (af 1)<|aN (af 2)<|aN (af 3)<|aN (af 4) dg) (AZ w y)
def C7(ad:Ad):Sd:=aK ["case","plan","sound","faulty","most","some","at","both","found","numbers","end","word"] (J5 ad)
theorem T4:C7 ad [a] M Q E=J5 ad (aI E) Q⁻¹ [ap a,ca,ca,ca,ca,ca,ca,ca,ca,ca,ca,ca] M:=rfl
def Ce(w:Ad)(aan:Sd)(y:DX):au:=aB (pc (b6 dZ<|aa (ac 0)<|aa (dC<|.ty "bool") ag)<|ai ck (ac 0)<|ac 1)
def Cy(w:Ad)(aan:Sd)(y:DX):au:=aB (pc (b6 dZ<|aa (ac 0)<|aa (dC<|.ty "int") ag)<|pc (Mx<|b6 dZ<|aa (ac 0)<|aa (dC<|.ty "bool") ag)<|ai ck (ac 0)<|ac 1)
def CC(w:Ad)(aan:Sd)(y:DX):au:=aB (pc (b6 dZ<|aa (ac 0)<|aa (dC<|.ty "str") ag)<|ai ck (ac 0)<|ac 1)
def C6(w:Ad)(aan:Sd)(y:DX):au:=aB (b6 Q_<|aa (aq<|aV (Uz<|aa (ac 0)<|aa (ac 1) ag) ["one","other"] [] (dm 2<|aN (af 0)<|aN (af 1) dg) dX<|aq<|aj aan lG 2<|aa (ac 0)<|aa (ac 1) ag) ag)
def Ak(w:Ad)(aan:Sd)(y:DX):au:=ah (aJ (am<|ai km (b6 bh<|aa (ac 0) ag)<|b6 bh<|aa (ac 1) ag) (aB<|dC<|.bl cx) aE) (C6 w aan y)
def Be(w:Ad)(aan:Sd)(y:DX):au:=ah (aJ (Lv (am<|ai km (b6 dZ<|aa (ac 1)<|aa (dC<|.ty "tuple") ag)<|b6 dZ<|aa (ac 0)<|aa (dC<|.ty "tuple") ag)<|am<|ai km (b6 dZ<|aa (ac 1)<|aa (dC<|.ty "list") ag)<|b6 dZ<|aa (ac 0)<|aa (dC<|.ty "list") ag) (aB<|dC<|.bl cx) aE) (Ak w aan y)
def BC(w:Ad)(aan:Sd)(y:DX):au:=ah (aJ (cW<|b6 dZ<|aa (ac 1)<|aa (dC<|.ty "str") ag) (CC w aan y) aE) (Be w aan y)
def CP(w:Ad)(aan:Sd)(y:DX):au:=ah (aJ (cW<|b6 dZ<|aa (ac 1)<|aa (dC<|.ty "int") ag) (Cy w aan y) aE) (BC w aan y)
def B6(w:Ad)(aan:Sd)(y:DX):au:=ah (aJ (cW<|b6 dZ<|aa (ac 1)<|aa (dC<|.ty "bool") ag) (Ce w aan y) aE) (CP w aan y)
def gw(w:Ad)(aan:Sd)(y:DX):au:=ah (aJ (am<|ai lB (ac 1)<|dC .non) (aB<|ai lB (ac 0)<|dC .non) aE) (B6 w aan y)
def aan(ad:Ad):Nat->Sd
 |0=>λ_ _ _ _=>False
 |n+1=>aK ["found","due"] (gw ad<|aan ad n)
theorem lx{n:Nat}:aan ad (n+1) [a,b] M Q E=gw ad (aan ad n) (aI E) Q⁻¹ [ap a,ap b] M:=rfl
def tH(w:Ad)(y:DX):au:=ah (cj (Fy<|aa (¬2)<|aa (ai aZ (ac 0) ¬1) ag) (af 2)<|ao (ai cD (ac 1)<|ac 2)<|af 1) (aB<|ac 1)
def C2(w:Ad)(y:DX):au:=ah (ao (¬1)<|af 1) (tH w y)
def qF(ad:Ad):Sd:=aK ["number","found","one"] (C2 ad)
theorem Us:qF ad [a] M Q E=C2 ad (aI E) Q⁻¹ [ap a,ca,ca] M:=rfl
def yc(w:Ad)(y:DX):au:=ah (ao (ac 2)<|af 3) (ao (ac 4)<|af 2)
def ph(w:Ad)(y:DX):au:=ah (ao (ai dH (ac 3)<|ac 2)<|af 4) (yc w y)
def yA(w:Ad)(y:DX):au:=aB (aS<|aa (ai fG (ac 0)<|ac 3)<|aa (ai fG (ac 1)<|ac 3) ag)
def tK(w:Ad)(y:DX):au:=ah (gO (am<|ai BY (ac 2) ¬0)<|ph w y) (yA w y)
def Kx(w:Ad)(y:DX):au:=ah (ao (b6 Jo<|aa (ac 0) ag)<|af 2) (ah (ao (ac 1)<|af 3)<|tK w y)
def Lp(ad:Ad):Sd:=aK ["top","bottom","one","other","rest"] (Kx ad)
theorem u_q7:Lp ad [a,b] M Q E=Kx ad (aI E) Q⁻¹ [ap a,ap b,ca,ca,ca] M:=rfl
def mW(w:Ad)(y:DX):au:=ao (ai aZ (ac 8)<|ai cD (ac 10)<|ac 11) (af 8)
def mV(w:Ad)(y:DX):au:=ah (ao (ai fc (b6 El<|aa (ai ck (ai Ew (ac 4)<|b6 bP<|aa (aq<|b6 ig<|aa (ai aZ (ac 9)<|aS<|aa (ac 7) ag) ag) ag) ¬"faulty") ag)<|b6 El<|aa (ai ck (ai Ew (ac 4)<|ac 9) ¬"faulty") ag)<|af 11) (mW w y)
def sw(w:Ad)(y:DX):au:=ah (ao (ai cD (aq<|aj (qF w) y 1<|aa (b6 bh<|aa (ac 9) ag) ag)<|aq<|aj (qF w) y 1<|aa (ai fc (ai fc (b6 bh<|aa (ac 5) ag)<|b6 bh<|aa (ac 9) ag) ¬1) ag)<|af 10) (mV w y)
def iF(w:Ad)(y:DX):au:=aJ (am<|ai nE (ac 7)<|ac 9) (sw w y) aE
def lU(w:Ad)(y:DX):au:=bg (j_ "list" bu (ac 6)<|aa (aS<|aa (ai az (ac 5)<|ac 7)<|aa (aq<|aj (Lp w) y 2<|aa (ac 8)<|aa (aq<|aj (qF w) y 1<|aa (b6 bh<|aa (ac 5) ag) ag) ag) ag) ag)
def ii(w:Ad)(y:DX):au:=ah (cj (A3<|ac 4) (af 9)<|iF w y) (lU w y)
def mC(w:Ad)(y:DX):au:=aB (pc (aq<|aj (aan w 24) y 2<|aa (aq<|aj (rf w) y 2<|aa (ac 2)<|aa (¬64) ag)<|aa (ac 6) ag)<|ai ck (b6 kz<|aa (ac 2) ag)<|ac 3)
def lI(w:Ad)(y:DX):au:=ah (bg<|j_ "list" jR (ac 12) ag) (mC w y)
def m9(w:Ad)(y:DX):au:=ah (aJ (gI<|cW<|aq<|aj (aan w 24) y 2<|aa (ac 12)<|aa (ac 6) ag) (aB<|dC<|.bl cx) aE) (lI w y)
def jI(w:Ad)(y:DX):au:=ah (ao (yv (rf w) y 2 (500)<|aa (ac 2) ag)<|af 12) (m9 w y)
def jn(w:Ad)(y:DX):au:=ah (cj (dw<|aa (b6 bh<|aa (ac 5) ag) ag) (af 7)<|ah (ao (¬0)<|af 8)<|ii w y) (jI w y)
def jM(w:Ad)(y:DX):au:=ah (ao (aq<|aj (v_ w) y 1<|aa (ac 2) ag)<|af 5) (ah (ao (bO ag)<|af 6)<|jn w y)
def jH(w:Ad)(y:DX):au:=ah (ao (IK<|aj (C7 w) y 1<|aa (ac 2) ag)<|af 4) (jM w y)
def jm(w:Ad)(y:DX):au:=ah (ao (b6 kz<|aa (ac 2) ag)<|af 3) (jH w y)
def jJ(w:Ad)(y:DX):au:=ah (ao (aq<|aj (Cz w) y 3<|aa (ac 1)<|aa (¬24)<|aa (ai aZ (¬1)<|aq<|aj (ba w) y 2<|aa (ac 1)<|aa (¬5) ag) ag)<|af 2) (jm w y)
def CI(w:Ad)(y:DX):au:=ah (ao (aj (CA w) y 1<|aa (ac 0) ag)<|af 1) (jJ w y)
def Iq(ad:Ad):Sd:=aK ["script","pot","case","before","verdicts","some","due","k","top","one","times","comes","found"] (CI ad)
theorem TD:Iq ad [a] M Q E=CI ad (aI E) Q⁻¹ [ap a,ca,ca,ca,ca,ca,ca,ca,ca,ca,ca,ca,ca] M:=rfl
end
set_option genInjectivity false in
structure En(P:eX)(w:gl)(K:UP)(mg:ab5)(base:g3)(ad:Ad):Prop where
 u0:Cls K ad.C_Ends
 u1:mg "Ends"=ap (.ref ad.C_Ends)
 u2:Cls K ad.C_Going
 u3:mg "Going"=ap (.ref ad.C_Going)
 u4:Cls K ad.C_Outcome
 u5:mg "Outcome"=ap (.ref ad.C_Outcome)
 u6:Cls K ad.C_Walk
 u7:mg "Walk"=ap (.ref ad.C_Walk)
 u8:NoAttr K ad.C_Ends "count"
 u9:NoAttr K ad.C_Ends "limit"
 u10:NoAttr K ad.C_Going "left"
 u11:NoAttr K ad.C_Going "numbers"
 u12:NoAttr K ad.C_Going "pieces"
 u13:NoAttr K ad.C_Going "todo"
 u14:NoAttr K ad.C_Going "unsettled"
 u15:NoAttr K ad.C_Outcome "faulty"
 u16:NoAttr K ad.C_Outcome "sound"
 u17:NoAttr K ad.C_Outcome "verdict"
 u18:NoAttr K ad.C_Walk "most"
 u19:NoAttr K ad.C_Walk "numbers"
 u20:NoAttr K ad.C_Walk "pieces"
 u21:NoAttr K ad.C_Walk "plan"
 u22:NoAttr K ad.C_Walk "steps"
 u23:ExcAt K ad.C_Dry
 u24:mg "Dry"=ap (.ref ad.C_Dry)
 u25:ExcAt K ad.C_NoCase
 u26:mg "NoCase"=ap (.ref ad.C_NoCase)
 u27:ExcAt K ad.C_TooMany
 u28:mg "TooMany"=ap (.ref ad.C_TooMany)
 u29:mg "abs"=ca
 u30:mg "all"=ca
 u31:mg "bool"=ca
 u32:mg "dict"=ca
 u33:mg "enumerate"=ca
 u34:mg "int"=ca
 u35:mg "isinstance"=ca
 u36:mg "len"=ca
 u37:mg "list"=ca
 u38:mg "max"=ca
 u39:mg "min"=ca
 u40:mg "range"=ca
 u41:mg "repr"=ca
 u42:mg "reversed"=ca
 u43:mg "sorted"=ca
 u44:mg "str"=ca
 u45:mg "sum"=ca
 u46:mg "tuple"=ca
 u47:mg "zip"=ca
 f1:GI K ad.C_Walk "__init__" "Walk.__init__" Ut ad.a1 ad.d1 ["self","plan","stand","most"]
 f2:GM K ad.C_Walk "note_step" "Walk.note_step" Uj ad.a2 ad.d2 ["self","place","number"]
 f3:GM K ad.C_Walk "look" "Walk.look" MG ad.a3 ad.d3 ["self","place","name"]
 f4:GF K mg "run" Nj ad.a4 ad.d4 ["plan","stand","most"]
 f5:GF K mg "mark" Nu ad.a5 ad.d5 ["plan","stand","most"]
 f6:GF K mg "do_rows" NM ad.a6 ad.d6 ["walk","rows","place"]
 f7:GA K mg "do_row_runs" "do_row" N0 ad.a7 ad.d7 ["walk","row","place"]
 f8:GF K mg "do_if" M_ ad.a8 ad.d8 ["walk","row","place"]
 f9:GF K mg "do_again" NF ad.a9 ad.d9 ["walk","row","place"]
 f10:GF K mg "number_of" MK ad.a10 ad.d10 ["plan","numbers","pieces","row"]
 f11:GF K mg "piece_read" Nr ad.a11 ad.d11 ["plan","numbers","row"]
 f12:GF K mg "joined" Mt ad.a12 ad.d12 ["word","y","z","wheel"]
 f13:GF K mg "all_things" O6 ad.a13 ad.d13 ["plan"]
 f14:GF K mg "in_order" Mu ad.a14 ad.d14 ["plan","things"]
 f15:GF K mg "number_in" Na ad.a15 ad.d15 ["plan","stand","thing"]
 f16:GF K mg "names_read" NB ad.a16 ad.d16 ["row"]
 f17:GF K mg "unlike" Nk ad.a17 ad.d17 ["plan","one","other"]
 f18:GF K mg "marks" NG ad.a18 ad.d18 ["case"]
 f19:GF K mg "unlike_of" NJ ad.a19 ad.d19 ["case"]
 f20:GF K mg "verdict_of" Mr ad.a20 ad.d20 ["two","one"]
 f21:GI K ad.C_Going "__init__" "Going.__init__" SH ad.a21 ad.d21 ["self","numbers","pieces","unsettled","todo","left"]
 f22:GM K ad.C_Going "settled" "Going.settled" SB ad.a22 ad.d22 ["self","thing","number"]
 f23:GI K ad.C_Ends "__init__" "Ends.__init__" Ul ad.a23 ad.d23 ["self","limit"]
 f24:GM K ad.C_Ends "one_more" "Ends.one_more" Sy ad.a24 ad.d24 ["self"]
 f25:GF K mg "start" MD ad.a25 ad.d25 ["case"]
 f26:GF K mg "put_ahead" Mv ad.a26 ad.d26 ["rows","todo"]
 f27:GF K mg "go_on" MT ad.a27 ad.d27 ["plan","going"]
 f28:GF K mg "asked_by" NO ad.a28 ad.d28 ["plan","going","row"]
 f29:GA K mg "do_row_trees" "do_row" Mz ad.a29 ad.d29 ["plan","going","row"]
 f30:GF K mg "mark_of" NQ ad.a30 ad.d30 ["plan","going"]
 f31:GF K mg "both_ways" O2 ad.a31 ad.d31 ["case","going","thing"]
 f32:GV K mg "tree" MH ad.a32 ad.d32 ["case","limit"] (500)
 f33:GF K mg "grown" Nt ad.a33 ad.d33 ["case","going","ends"]
 f34:GI K ad.C_Outcome "__init__" "Outcome.__init__" U5 ad.a34 ad.d34 ["self","verdict","sound","faulty"]
 f35:GF K mg "outcomes" NA ad.a35 ad.d35 ["case","limit"]
 f36:GF K mg "numbers_of" NT ad.a36 ad.d36 ["bits"]
 f37:GV K mg "shares" O3 ad.a37 ad.d37 ["case","limit"] (500)
 f38:GF K mg "mean_of" MQ ad.a38 ad.d38 ["cases","limit"]
 f39:GF K mg "orders_of" NE ad.a39 ad.d39 ["case","limit"]
 f40:GF K mg "orders_up_to" N5 ad.a40 ad.d40 ["count"]
 f41:GF K mg "in_lowest_terms" Si ad.a41 ad.d41 ["n","d"]
 f42:GF K mg "_law_stirred" MX ad.a42 ad.d42 ["cell","turn"]
 f43:GF K mg "_law_pot" Nd ad.a43 ad.d43 ["script"]
 f44:GF K mg "_law_draw" Np ad.a44 ad.d44 ["pot","many"]
 f45:GF K mg "_law_names" Mw ad.a45 ad.d45 ["pot","many"]
 f46:GF K mg "_law_row" MZ ad.a46 ad.d46 ["pot","told"]
 f47:GF K mg "_law_block" Nm ad.a47 ad.d47 ["pot","told","room","deep"]
 f48:GF K mg "_law_rows" MV ad.a48 ad.d48 ["pot","told","room","deep","most"]
 f49:GF K mg "_law_plan" N9 ad.a49 ad.d49 ["pot","most"]
 f50:GF K mg "_law_stand" NK ad.a50 ad.d50 ["pot","plan"]
 f51:GF K mg "_law_becomes" NL ad.a51 ad.d51 ["gone","row"]
 f52:GF K mg "_law_stepped" Ny ad.a52 ad.d52 ["gone","place","number"]
 f53:GF K mg "_law_rounds" NU ad.a53 ad.d53 ["gone","row","place"]
 f54:GF K mg "_law_done" MF ad.a54 ad.d54 ["gone","rows","place"]
 f55:GF K mg "_law_run" NZ ad.a55 ad.d55 ["plan","stand","most"]
 f56:GF K mg "_law_flat" Ms ad.a56 ad.d56 ["rows"]
 f57:GF K mg "_law_marks" MI ad.a57 ad.d57 ["plan","sound","faulty","most"]
 f58:GF K mg "_law_other" N4 ad.a58 ad.d58 ["pot","m","number"]
 f59:GF K mg "_law_by_name" NX ad.a59 ad.d59 ["plan","sound","faulty","most","name"]
 f60:GF K mg "_law_by_piece" Tq ad.a60 ad.d60 ["plan"]
 f61:GF K mg "_law_case" MC ad.a61 ad.d61 ["pot","most_rows","few"]
 f62:GF K mg "_law_things" Nh ad.a62 ad.d62 ["case"]
 f63:GF K mg "_law_mixed" MS ad.a63 ad.d63 ["case","mix"]
 f64:GF K mg "_law_subsets" MB ad.a64 ad.d64 ["many"]
 f65:GF K mg "_law_verdicts" No ad.a65 ad.d65 ["case"]
 f66:GF K mg "_law_alike" Nq ad.a66 ad.d66 ["found","due"]
 f67:GF K mg "_law_product" Nw ad.a67 ad.d67 ["number"]
 f68:GF K mg "_law_fraction" SF ad.a68 ad.d68 ["top","bottom"]
 f69:GF K mg "law" lh ad.a69 ad.d69 ["script"]
section
section
variable{X:Cx}{B:Bd}{a b c o e:fv}{es:ab1}{ta tb tc to:bb}{t:eh}{i:Nat}{x:Str}{pos p abU abT:Pos}(hU:X.A.units+64<l')(hu:X.A.units+1<l')(hg:X.A.guards=ap [])(hc:X.calm=true)(ha:DE X B a ta)(hb:DE X B b tb)(hd:DE X B c tc)
def v0:=h_ (pos:=pos) Ml ha hb
def v1:=h_ (pos:=pos) Kw ha hb
def v2:=h_ (pos:=pos) KH ha hb
def v3:=h_ (pos:=pos) La ha hb
def v4:=h_ (pos:=pos) Qn ha hb
def v5:=h_ (pos:=pos) JQ ha hb
def v6:=h_ (pos:=pos) KJ ha hb
def v7:=h_ (pos:=pos) FI ha hb
def v8:=h_ (pos:=pos) LZ ha hb
def v9:=h_ (pos:=pos) Mo ha hb
def v10:=h_ (pos:=pos) LP ha hb
def v11:=GR (pos:=pos) AH ha hb
def v12:=GR (pos:=pos) (HY hU) ha hb
def v13:=cw (X:=X) (B:=B) (p:=p) (pos:=pos) (e:=e) (es:=es) (t:=t) DP KU
def v14:=eB (X:=X) (B:=B) (p:=p) (pos:=pos) (e:=e) (es:=es) (t:=t) vJ qp
def v15:=eB (X:=X) (B:=B) (p:=p) (pos:=pos) (e:=e) (es:=es) (t:=t) ya nS
def v16:=eB (X:=X) (B:=B) (p:=p) (pos:=pos) (e:=e) (es:=es) (t:=t) (wX hc) vt
def v17:=cw (X:=X) (B:=B) (p:=p) (pos:=pos) (e:=e) (es:=es) (t:=t) sF pF
def v18:=eB (X:=X) (B:=B) (p:=p) (pos:=pos) (e:=e) (es:=es) (t:=t) wl vt
def v19:=cw (X:=X) (B:=B) (p:=p) (pos:=pos) (e:=e) (es:=es) (t:=t) (Ex hc) KY
def v20:=cw (X:=X) (B:=B) (p:=p) (pos:=pos) (e:=e) (es:=es) (t:=t) (Ee hc) Lm
def v21:=cw (X:=X) (B:=B) (p:=p) (pos:=pos) (e:=e) (es:=es) (t:=t) (Eu hc) JW
def v22:=cw (X:=X) (B:=B) (p:=p) (pos:=pos) (e:=e) (es:=es) (t:=t) (DL hc) Ll
def v23:=cw (X:=X) (B:=B) (p:=p) (pos:=pos) (e:=e) (es:=es) (t:=t) Ed KF
def v24:=cw (X:=X) (B:=B) (p:=p) (pos:=pos) (e:=e) (es:=es) (t:=t) (yI hg hU) Hb
def v25:=eB (X:=X) (B:=B) (p:=p) (pos:=pos) (e:=e) (es:=es) (t:=t) DV BW
def v26:=cw (X:=X) (B:=B) (p:=p) (pos:=pos) (e:=e) (es:=es) (t:=t) pW xP
def v27:=nc (X:=X) (B:=B) (pos:=pos) Mp
def v28:=nc (X:=X) (B:=B) (pos:=pos) Gg
def v29:=nc (X:=X) (B:=B) (pos:=pos) BW
def v30:=nc (X:=X) (B:=B) (pos:=pos) qp
def v31:=nc (X:=X) (B:=B) (pos:=pos) nS
def v32:=GT (X:=X) (B:=B) (abU:=abU) (abT:=abT) (o:=o) (e:=e) (es:=es) (t:=t) (to:=to) WU Yf PySem.F.type_list_append yQ
def v33:=ud (X:=X) (B:=B) (abU:=abU) (abT:=abT) (o:=o) (to:=to) WU Xv Zl AL
def v34:=ud (X:=X) (B:=B) (abU:=abU) (abT:=abT) (o:=o) (to:=to) PySem.F.plainAttrs_int PySem.F.slot_int_bit_length PySem.F.type_int_bit_length yi
def v35:=GT (X:=X) (B:=B) (abU:=abU) (abT:=abT) (o:=o) (e:=e) (es:=es) (t:=t) (to:=to) WU Xv Zl AL
def v36:=ud (X:=X) (B:=B) (abU:=abU) (abT:=abT) (o:=o) (to:=to) WU ZC PySem.F.type_list_reverse vZ
def v37:=Ie (X:=X) (B:=B) (abU:=abU) (abT:=abT) (o:=o) (e:=e) (es:=es) (to:=to) (t:=t) WM YX yR
def v38:=Ie (X:=X) (B:=B) (abU:=abU) (abT:=abT) (o:=o) (e:=e) (es:=es) (to:=to) (t:=t) WM YX ym
def v39:=Lr (X:=X) (B:=B) (x:=x) (pos:=pos) (e:=e) (i:=i) (te:=ta) (pos':=p) D5
def v40:=C9 (X:=X) (B:=B) (pos:=pos) (tpos:=p) (o:=a) (i:=b) (e:=c) (to:=ta) (ti:=tb) (te:=tc) hu ha hb hd D5
def v41:=C9 (X:=X) (B:=B) (pos:=pos) (tpos:=p) (o:=a) (i:=b) (e:=c) (to:=ta) (ti:=tb) (te:=tc) hu ha hb hd L6
def v42:=eA (pos:=pos) Os ha hb
def v43:=eA (pos:=pos) (HY hU) ha hb
def v44:=eA (pos:=pos) Q8 ha hb
def v45:=eA (pos:=pos) IB ha hb
def v46:=eA (pos:=pos) AH ha hb
def v47:=eA (pos:=pos) (Iw hU) ha hb
def v48:=eA (pos:=pos) (Oj hU) ha hb
def v49:=eA (pos:=pos) Qs ha hb
def v50:=eA (pos:=pos) (K_ hU) ha hb
def v51:=eA (pos:=pos) QH ha hb
def v52:=eA (pos:=pos) (E6 hU) ha hb
end
local macro_rules|`(tactic|exists $n:num)=>do
 let h<-`(?_);let u<-`(_);let I:=λs:String=>Lean.mkIdent s.toName;let p:=λa k=>Lean.Syntax.mkApp (I a) (Array.replicate k h)
 let t<-((["","dnm:u Oy:0 QG:1 Nx:g:PU Oo:0 Gi:6 Ja:6 DE:ai:3:2 DE:b6:2:3 Qh:1 OG:1 OD:4 GK:3 SW:0 P_:0 DE:dC:1:4 DE:j_:4:5 v37:7 v38:7 Nx:g:Ud KB:1 Gu:3 Pp:1 QR:2 OV:1 Om:1 Ks:1 L0:0 xU:9 xz:8 HI:a KR:3 KI:4 Hu:a DY:a Fb:a","v0:2 v1:2 v2:2 v3:2 v4:2 v5:2 v6:2 v7:2 v8:2 v9:2 v10:2 v11:3 v12:4","v13:7 v14:7 v15:7 v16:8 v17:7 v18:7 v19:8 v20:8 v21:8 v22:8 v23:7 v24:9 v25:7 v26:7","v27:4 v28:4 v29:4 v30:4 v31:4","v32:8 v33:4 v34:4 v35:8 v36:4","Sg:3 OM:6 Q6:5 QF:1 Lk:2 Px:5 EA:4 Eo:4 OT:6 J0:3 Ik:6 Od:2 v39:5 v40:5 v41:5 FH:a LD:a","DT:am:1:8 Re:1 Qf:2 UK:1","v42:3 v43:4 v44:3 v45:3 v46:3 v47:4 v48:4 v49:3 v50:4 v51:3 v52:4","fw:2 iD:1 LW:0 Jy:1 Rk:1 Pl:2 Uy:2 Kj:0 JD:1 Jp:4 RA:4 Rs:4 Ru:4 Gy:3 Kf:0 Mh:4 Ek:4 DQ:5 LB:5 QT:5 R5:4 JC:1 PP:1 FC.nil:a FC.cons:a KS:0 KM:1"].getD n.getNat "").splitOn " ").toArray.mapM λs=>match s.splitOn ":" with
  |[a,"a"]=>`(Lean.Parser.Tactic.tacticSeq|apply $(I a))
  |[a,"d"]=>`(Lean.Parser.Tactic.tacticSeq|(apply $(I a);focus decide))
  |[a,"u"]=>`(Lean.Parser.Tactic.tacticSeq|refine $(I a) _ ?_ ?_ ?_ ?_)
  |[a,k]=>`(Lean.Parser.Tactic.tacticSeq|refine $(p a k.toNat!))
  |[a,_,b]=>`(Lean.Parser.Tactic.tacticSeq|refine $(I a) ($(p b 1)) ?_ ?_ ?_)
  |[d,a,k,m]=>`(Lean.Parser.Tactic.tacticSeq|(show $(I d) _ _ _ $(Lean.Syntax.mkApp (I a) (Array.replicate k.toNat! u));exists $(Lean.Syntax.mkNumLit m)))
  |_=>Lean.Macro.throwUnsupported
 `(tactic|first $[|$t]*)
local macro_rules | `(tactic| exists 0) => `(tactic| first
 |exact Or.inl rfl
 |exact⟨_,_,_,_,_,_,_,by assumption,by assumption,Room.mono (by assumption) (by first|decide|lia),Ib,by assumption⟩
 |exact⟨_,_,_,_,_,_,_,by assumption,by assumption,Room.mono (by assumption) (by first|decide|lia),yk,uxN⟩
 |exact⟨_,_,_,_,_,_,_,by first|exact .g (by assumption)|exact .a (by assumption)|exact .v (by assumption),by assumption,Room.mono (by assumption) (by first|decide|lia),Ib,by assumption⟩
 |exact⟨_,_,_,_,_,_,_,by first|exact .g (by assumption)|exact .a (by assumption)|exact .v (by assumption),by assumption,Room.mono (by assumption) (by first|decide|lia),yk,uxN⟩
 |assumption
 |exact Room.mono (by assumption) (by first|decide|lia)
 |with_reducible exact Ib
 |with_reducible exact yk
 |with_reducible exact uxN
 |exact FnScope.nd (by assumption)
 |(apply nomark;decide)
 |(apply TN;decide)
 |exact PassesOwn.leaving
 |exact λ_ _=>rfl
 |exact Or.inr (Or.inl rfl)
 |exact Or.inr rfl
 |exact Or.inr (Or.inr rfl)
 |rfl
 |exact λ_=>rfl
 |decide
 |exact λ_ _ _=>rfl
 |exact⟨rfl,rfl,rfl,rfl⟩
 |with_reducible intro _)
local macro_rules | `(tactic| trivial) => `(tactic| first
 |eq_refl
 |(with_reducible first
 |(show DE _ _ _ _;exists 1)
 |refine da_c ?_ ?_ ?_
 |exact Qb
 |(show DT _ _ _ _;exists 7)
 |(show DS _ _ _ _;exists 6)
 |exists 9)
 |exists 0)
set_option hygiene false in
local macro_rules | `(tactic| exists $t:ident, $g, [$fs,*]) => do let hs <- fs.getElems.mapM fun f => `(tactic| have := $f); `(tactic| exact fnS rfl ($g).F ($g).b #[rfl, rfl, rfl, by decide +kernel, rfl, by decide +kernel, by decide +kernel] fun hS _ A _ s _ _ _ _ hr ux => (by have hU := hr.units; have hu := wm hr; have hg := hr.gd; ($[$hs];*); unfold $t:ident; (first | refine fw ?_ ?_ | refine iD ?_); repeat' trivial))
set_option hygiene false in
local macro_rules | `(tactic| exists $t:ident, $g, [$fs,*], $[$ps:ident],*) => `(tactic| exists (_), $t:ident, $g, [$fs,*], $[$ps:ident],*)
set_option hygiene false in
local macro_rules | `(tactic| exists ($k), $t:ident, $g, [$fs,*], $[$ps:ident],*) => do let hs <- fs.getElems.mapM fun f => `(tactic| have := $f); `(tactic| exact fnS (k := $k) rfl ($g).F ($g).b #[rfl, rfl, rfl, by decide +kernel, rfl, by decide +kernel, by decide +kernel] fun hS _ A _ s _ _ _ _ hr ux => (by have hU := hr.units; have hu := wm hr; have hg := hr.gd; ($[$hs];*); unfold $t:ident $[$ps:ident]*; (first | refine fw ?_ ?_ | refine iD ?_); repeat' trivial))
variable{P:eX}{w:gl}{K:UP}{mg:ab5}{base:g3}{ad:Ad}(E:En P w K mg base ad)
include E
theorem SY:cA P w mg base E.f1.F E.f1.b 1 (KA ad):=by
 exists LR,E.f1,[E.u6,E.u21,E.u19,E.u47,E.u32,E.u20,E.u18,E.u22],Gq,Ge,HW
theorem MP:cA P w mg base E.f2.F E.f2.b 1 (xI ad):=by
 exists Lu,E.f2,[E.u36,E.u6,E.u22,E.u18,E.u23,E.u24],Hg
theorem Rr:cA P w mg base E.f3.F E.f3.b 2 (qS ad):=by
 have:=MP E
 exists AS,E.f3,[E.u6,E.u19,E.f2],CM
theorem PQ:cA P w mg base E.f12.F E.f12.b 1 (zJ ad):=by
 exists AN,E.f12,[],Cp,yZ,AV,CT,Bv
theorem J8:cA P w mg base E.f11.F E.f11.b 1 (nv ad):=by
 exists jX,E.f11,[],Cr,Dm
theorem HU:cA P w mg base E.f10.F E.f10.b 2 (ou ad):=by
 have:=PQ E;have:=J8 E
 exists h7,E.f10,[E.f11,E.f12],Ae,Co,Cd
theorem uW:∀n:Nat,cA P w mg base E.f6.F E.f6.b (2+n) (aai ad n)/\cA P w mg base E.f7.F E.f7.b (2+n) (aak ad n)/\cA P w mg base E.f8.F E.f8.b (2+n) (aal ad n)/\cA P w mg base E.f9.F E.f9.b (2+n) (aam ad n):=by
 have:=Rr E;have:=MP E;have:=HU E;intro n
 induction n with
 |zero=>exact#[eU,eU,eU,eU]
 |succ n ih=>
  obtain⟨_,_,_,_⟩:=ih;refine#[?_,?_,?_,?_]
  .exists (2+n),zy,E.f6,[E.u33,E.f7],B9
  .exists (2+n),qC,E.f7,[E.f8,E.f9,E.f10,E.u6,E.u21,E.u19,E.u20,E.f2],BV,zp,Ah,zV,BE,zo
  .exists (2+n),BA,E.f8,[E.u6,E.f3,E.f6],B0
  .exists (2+n),Jd,E.f9,[E.u6,E.f3,E.f6],A1,Bi
theorem Q0:cA P w mg base E.f4.F E.f4.b 27 (wq ad):=by
 have:=SY E;obtain⟨_,_,_,_⟩:=uW E 24
 exists CB,E.f4,[E.f1,E.u7,E.u6,E.f6,E.u23,E.u24,E.u22,E.u46,E.u19],z_,A6
theorem Qt:cA P w mg base E.f5.F E.f5.b 28 (qi ad):=by
 have:=Q0 E
 exists zb,E.f5,[E.f4],zB,D3
theorem Fa:cA P w mg base E.f13.F E.f13.b 1 (wY ad):=by
 exists zc,E.f13,[E.u37,E.u40]
theorem Ra:cA P w mg base E.f14.F E.f14.b 2 (zS ad):=by
 have:=Fa E
 exists CO,E.f14,[E.u32,E.f13],lL
theorem GD:cA P w mg base E.f15.F E.f15.b 1 (pi ad):=by
 exists vz,E.f15,[E.u35,E.u44],Dg
theorem Qo:cA P w mg base E.f16.F E.f16.b 1 (Dd ad):=by
 exists jA,E.f16,[E.u37],Cu,Bz
theorem Qi:cA P w mg base E.f17.F E.f17.b 2 (zK ad):=by
 have:=Fa E;have:=GD E
 exists Ff,E.f17,[E.f13,E.f15]
theorem Ft:cA P w mg base E.f18.F E.f18.b 29 (wx ad):=by
 have:=Qt E
 exists CZ,E.f18,[E.f5,E.u25,E.u26],tP,rT,Br
theorem ub:cA P w mg base E.f19.F E.f19.b 3 (li ad):=by
 have:=Qi E
 exists He,E.f19,[E.f17]
theorem OX:cA P w mg base E.f20.F E.f20.b 1 (C1 ad):=by
 exists vf,E.f20,[],AA
theorem NI:cA P w mg base E.f21.F E.f21.b 1 (ID ad):=by
 exists L5,E.f21,[E.u2,E.u11,E.u12,E.u14,E.u13,E.u10],FA,Ip,Hc
theorem Uw:cA P w mg base E.f22.F E.f22.b 3 (FQ ad):=by
 have:=NI E
 exists Md,E.f22,[E.f21,E.u3,E.u2,E.u32,E.u11,E.u37,E.u12,E.u14,E.u13,E.u10,E.u35,E.u44],yn,FP,Gm,Ha
theorem U7:cA P w mg base E.f23.F E.f23.b 1 (Qk ad):=by
 exists L8,E.f23,[E.u0,E.u9,E.u8]
theorem N8:cA P w mg base E.f24.F E.f24.b 1 (F6 ad):=by
 exists Lh,E.f24,[E.u0,E.u8,E.u9,E.u27,E.u28],xG
theorem FM:cA P w mg base E.f26.F E.f26.b 1 (nD ad):=by
 exists CW,E.f26,[E.u42],tm
theorem RD:cA P w mg base E.f25.F E.f25.b 4 (zD ad):=by
 have:=NI E;have:=FM E;have:=ub E
 exists Fl,E.f25,[E.u32,E.f19,E.f21,E.u3,E.u2,E.u47,E.u37,E.f26],A8,zf,sC
theorem RF:cA P w mg base E.f28.F E.f28.b 3 (AC ad):=by
 have:=Ra E;have:=Qo E;have:=J8 E
 exists z8,E.f28,[E.u2,E.u14,E.f16,E.f14,E.f11,E.u11],Ca,mQ,sV,tT,D6
theorem OL:cA P w mg base E.f29.F E.f29.b 3 (AT ad):=by
 have:=HU E;have:=FM E
 exists BZ,E.f29,[E.u2,E.u10,E.u13,E.f26,E.u11,E.f10,E.u12,E.u14],ug,Bb,AQ,ie,uf,CU,Bj,AB
theorem OY:cA P w mg base E.f27.F E.f27.b 4 (B1 ad):=by
 have:=RF E;have:=OL E
 exists IM,E.f27,[E.u2,E.u13,E.u10,E.f28,E.f29,E.u14],tZ,iw,t9,tN,t8,tu
theorem OR:cA P w mg base E.f30.F E.f30.b 1 (Dk ad):=by
 exists ze,E.f30,[E.u2,E.u13,E.u11]
theorem O7:cA P w mg base E.f31.F E.f31.b 4 (Ar ad):=by
 have:=Uw E;have:=GD E
 exists D8,E.f31,[E.u2,E.f22,E.f15]
theorem Dq:∀n:Nat,cA P w mg base E.f33.F E.f33.b (4+n) (aao ad n):=by
 have:=N8 E;have:=O7 E;have:=OY E;have:=OR E;intro n
 induction n with
 |zero=>exact eU
 |succ n ih=>
  exists (4+n),z7,E.f33,[E.f33,E.f27,E.f30,E.u0,E.f24,E.f31],uq,CV,By,zF,zT
theorem OJ:OkV P w mg base E.f32.F E.f32.b 30 (AK ad):=by
 have:=U7 E;have:=N8 E;have:=Dq E 24;have:=Ft E;have:=RD E;exact Su rfl E.f32.F E.f32.b #[rfl,rfl,rfl,by decide +kernel,rfl,by decide +kernel,by decide +kernel] λhS _ A _ s _ _ _ _ hr ux=>(by have hU:=hr.units;have hu:=wm hr;have hg:=hr.gd;have:=E.f18;have:=E.f23;have:=E.u1;have:=E.u0;have:=E.f24;have:=E.f33;have:=E.f25;unfold GL C5 CK B4;(first|refine fw ?_ ?_|refine iD ?_);repeat' trivial)
theorem TW:cA P w mg base E.f34.F E.f34.b 1 (Li ad):=by
 exists LL,E.f34,[E.u4,E.u17,E.u16,E.u15],Fv
theorem QJ:cA P w mg base E.f35.F E.f35.b 31 (Bc ad):=by
 have:=TW E;have:=Ft E;have:=OJ E;have:=ub E;have:=OX E
 exists IF,E.f35,[E.f18,E.u32,E.u33,E.f19,E.f32,E.f34,E.u5,E.u4,E.f20],wy,xb,Az,iu,tD,tM,su,uh,tL,rJ,sR
theorem QI:cA P w mg base E.f36.F E.f36.b 1 (ww ad):=by
 exists Bu,E.f36,[E.u40]
theorem Um:cA P w mg base E.f41.F E.f41.b 1 (Lb ad):=by
 exists Kt,E.f41,[],yM,yt,yK,o5,yd
theorem Gn:cA P w mg base E.f40.F E.f40.b 1 (vh ad):=by
 exists BD,E.f40,[E.u40],tJ,tq
theorem OW:cA P w mg base E.f39.F E.f39.b 32 (vV ad):=by
 have:=QI E;have:=Gn E;have:=QJ E;have:=ub E
 exists Dh,E.f39,[E.f19,E.f35,E.u4,E.u17,E.f40,E.u36,E.f36,E.u15,E.u16],jt,ms,mv,mj,ip,lP,mh,m3,ut,sh
theorem P7:cA P w mg base E.f38.F E.f38.b 33 (Al ad):=by
 have:=Um E;have:=OW E;have:=Gn E;have:=ub E
 exists Bg,E.f38,[E.f39,E.f19,E.u25,E.u26,E.f40,E.u36,E.u33,E.f41,E.u45],mR,mq,lY,mM,rK
theorem OC:OkV P w mg base E.f37.F E.f37.b 34 (rf ad):=by
 have:=P7 E;exact Su rfl E.f37.F E.f37.b #[rfl,rfl,rfl,by decide +kernel,rfl,by decide +kernel,by decide +kernel] λhS _ A _ s _ _ _ _ hr ux=>(by have hU:=hr.units;have hu:=wm hr;have hg:=hr.gd;have:=E.f38;unfold zg;(first|refine fw ?_ ?_|refine iD ?_);repeat' trivial)
theorem Q1:cA P w mg base E.f42.F E.f42.b 1 (ot ad):=by
 exists BF,E.f42,[],z0
theorem PL:cA P w mg base E.f43.F E.f43.b 1 (CA ad):=by
 exists C_,E.f43,[E.u37],A_,Bn,At
theorem g_:cA P w mg base E.f44.F E.f44.b 2 (ba ad):=by
 have:=Q1 E
 exists J7,E.f44,[E.f42],BQ,CF,C8,AI,Ab,zZ,zj,Bw
theorem Qv:cA P w mg base E.f45.F E.f45.b 3 (Bt ad):=by
 have:=g_ E
 exists Ao,E.f45,[E.f44,E.u40,E.u46],B8,AM,BS
theorem QE:cA P w mg base E.f46.F E.f46.b 3 (vm ad):=by
 have:=g_ E
 exists D4,E.f46,[E.f44,E.u36],wR,we,BG,An,zk,zU,zM,zu,Ay,Dj,zN
theorem oR:∀n:Nat,cA P w mg base E.f47.F E.f47.b (3+n) (aah ad n)/\cA P w mg base E.f48.F E.f48.b (3+n) (aag ad n):=by
 have:=g_ E;have:=QE E;intro n
 induction n with
 |zero=>exact#[eU,eU]
 |succ n ih=>
  obtain⟨_,_⟩:=ih;refine#[?_,?_]
  .exists (3+n),zQ,E.f47,[E.f44,E.u36,E.f48,E.u39],Bp,BR,za,Ck,C3,Am,Cw,BO,zC
  .exists (3+n),Ct,E.f48,[E.u40,E.f44,E.f47,E.f46,E.u46],AX,Au,zE,AO,zP,A2,zh
theorem Ri:cA P w mg base E.f49.F E.f49.b 28 (Aq ad):=by
 have:=g_ E;have:=Qv E;obtain⟨_,_⟩:=oR E 24
 exists BX,E.f49,[E.f44,E.f45,E.f48,E.u36],Bm,BM,Bf,BB
theorem P2:cA P w mg base E.f50.F E.f50.b 3 (AR ad):=by
 have:=g_ E
 exists IV,E.f50,[E.u46,E.f44,E.u40],A9
theorem Qe:cA P w mg base E.f51.F E.f51.b 1 (wI ad):=by
 exists pE,E.f51,[E.u36],uS,wa,vo,B_,AE,Di,CJ,C0,Ai,Av,zx,A0
theorem P4:cA P w mg base E.f52.F E.f52.b 1 (lj ad):=by
 exists zn,E.f52,[E.u36],zR
theorem lH:∀n:Nat,cA P w mg base E.f53.F E.f53.b (1+n) (aaj ad n)/\cA P w mg base E.f54.F E.f54.b (1+n) (aaf ad n):=by
 have:=Qe E;have:=P4 E;intro n
 induction n with
 |zero=>exact#[eU,eU]
 |succ n ih=>
  obtain⟨_,_⟩:=ih;refine#[?_,?_]
  .exists (1+n),BH,E.f53,[E.u40,E.f52,E.f54],mz,rS,BU,uL
  .exists (1+n),zw,E.f54,[E.f54,E.u33,E.f53,E.f52,E.f51],pC,t7,lT,lK,me,zA,uB,rW,uJ,uE
theorem Fw:cA P w mg base E.f55.F E.f55.b 26 (nJ ad):=by
 obtain⟨_,_⟩:=lH E 24
 exists zG,E.f55,[E.u47,E.u32,E.f54,E.u46],Aw,AY,B7
theorem HV:cA P w mg base E.f56.F E.f56.b 1 (wB ad):=by
 exists G0,E.f56,[E.u46]
theorem xN:cA P w mg base E.f57.F E.f57.b 27 (oB ad):=by
 have:=Fw E
 exists Bh,E.f57,[E.f55],ma,mP,uC
theorem Op:cA P w mg base E.f58.F E.f58.b 3 (oS ad):=by
 have:=g_ E
 exists BL,E.f58,[E.f44]
theorem Ps:cA P w mg base E.f59.F E.f59.b 28 (zr ad):=by
 have:=HV E;have:=xN E
 exists B2,E.f59,[E.u46,E.f56,E.f57],mE,lX,mO,mZ,mF
theorem S9:cA P w mg base E.f60.F E.f60.b 1 (KC ad):=by
 exists Jw,E.f60,[],rQ,uA,oG,sH
theorem PC:cA P w mg base E.f61.F E.f61.b 29 (Cz ad):=by
 have:=Ps E;have:=S9 E;have:=g_ E;have:=HV E;have:=xN E;have:=Op E;have:=Ri E;have:=P2 E
 exists Bk,E.f61,[E.f49,E.u38,E.f50,E.u37,E.f44,E.u36,E.f58,E.u39,E.u40,E.u46,E.f57,E.f56,E.f59,E.f60],oN,p8,o_,oF,pw,ng,og,jz,oC,oo,jg,ju,oO,jr,jW,uZ,oh,CY,uc,sE,sx,sM,sL,tV,sk,uu
theorem F2:cA P w mg base E.f62.F E.f62.b 1 (v_ ad):=by
 exists zW,E.f62,[E.u47,E.u40],sK,sj
theorem Oi:cA P w mg base E.f63.F E.f63.b 1 (Ag ad):=by
 exists Ch,E.f63,[E.u47,E.u40,E.u46],tj,um,sU,jD
theorem P5:cA P w mg base E.f64.F E.f64.b 1 (Cs ad):=by
 exists IE,E.f64,[E.u40],BI,mB
theorem PJ:cA P w mg base E.f65.F E.f65.b 28 (C7 ad):=by
 have:=xN E;have:=Oi E;have:=Fw E;have:=P5 E;have:=F2 E
 exists J5,E.f65,[E.f62,E.f57,E.f64,E.u36,E.f55,E.f63,E.u46],AZ,t6,zY,D7,iH,tY,uz,jC,my
theorem nB:∀n:Nat,cA P w mg base E.f66.F E.f66.b (0+n) (aan ad n):=by
 intro n
 induction n with
 |zero=>exact eU
 |succ n ih=>
  exists (0+n),gw,E.f66,[E.f66,E.u35,E.u31,E.u34,E.u44,E.u46,E.u37,E.u36,E.u30,E.u47],B6,CP,BC,Be,Ak,C6,CC,Cy,Ce
theorem OI:cA P w mg base E.f67.F E.f67.b 1 (qF ad):=by
 exists C2,E.f67,[E.u40],tH
theorem To:cA P w mg base E.f68.F E.f68.b 1 (Lp ad):=by
 exists Kx,E.f68,[E.u29],tK,yA,ph,yc
theorem Rx:cA P w mg base E.f69.F E.f69.b 35 (Iq ad):=by
 have:=nB E 24;have:=PC E;have:=g_ E;have:=To E;have:=PL E;have:=OI E;have:=F2 E;have:=PJ E;have:=OC E
 exists CI,E.f69,[E.f43,E.f61,E.f44,E.u41,E.f65,E.f62,E.u40,E.u36,E.f67,E.u34,E.u46,E.u43,E.f68,E.f66,E.f37],jJ,jm,jH,jM,jn,jI,m9,lI,mC,ii,lU,iF,sw,mV,mW
end
end _T
namespace _3
open PySem _2
theorem aG(c:∀Q' E',Q' d M->T ds M Q' E')(h:Q d M):calls T EE ds M Q b:=
 ar λQ' E' a _=>c Q' E' (a d M h)
theorem bE(h:0<=i):fH xs i=xs[i.toNat]?:=by
 cases i with
 |ofNat k=>rfl
 |negSucc k=>exact absurd h (by lia)
@[simp] theorem atI_0:fH xs 0=xs[0]?:=rfl
@[simp] theorem atI_1:fH xs 1=xs[1]?:=rfl
@[simp] theorem atI_2:fH xs 2=xs[2]?:=rfl
@[simp] theorem atI_3:fH xs 3=xs[3]?:=rfl
@[simp] theorem atI_4:fH xs 4=xs[4]?:=rfl
theorem cE(I:List D->Dl->Mem->Prop)(c:∀xs U M,I xs U M->ok M)(i:∀U M,I [] U M->DD.nx U M)
  (j:∀x xs U M,I (x::xs) U M->∀D':DEnds,(∀a M',I xs a M'->D'.nx a M')->(∀a M',I xs a M'->D'.ct a M')->D'.rt=DD.rt->D'.bk=DD.nx->g x U M λδ2 M2=>f D' δ2 M2):∀xs U M,I xs U M->fh g f DD ok b xs U M
 |[],U,M,h=>#[c _ _ _ h,i U M h]
 |x::xs,U,M,h=>#[c _ _ _ h,j x xs U M h _ (λa M' e=>cE I c i j xs a M' e) (λa M' e=>cE I c i j xs a M' e) rfl rfl]
theorem bQ(I:List D->List D->Dl->Mem->Prop)(e:∀xs abS U M,I xs abS U M->ok M)(j:∀abS U M,I [] abS U M->Q abS M)
  (l:∀x xs abS U M,I (x::xs) abS U M->∀N:Bool->D->Dl->Mem->Prop,(∀y a M',abS.length<sizeLine->I xs (abS++[y]) a M'->N true y a M')->(∀y a M',I xs abS a M'->N cx y a M')->g x U M λδ2 M2=>tt δ2 M2 λc M3=>if c=true then te δ2 M3 λy M4=>N true y δ2 M4 else N cx .non δ2 M3)
  (m:∀x xs abS U M,I (x::xs) abS U M->abS.length<sizeLine):∀xs abS U M,I xs abS U M->eL g tt te ok Q b xs abS U M
 |[],abS,U,M,h=>#[e _ _ _ _ h,j abS U M h]
 |x::xs,abS,U,M,h=>#[e _ _ _ _ h,l x xs abS U M h (λk y a M'=>if k=true then abS.length<sizeLine/\eL g tt te ok Q b xs (abS++[y]) a M' else eL g tt te ok Q b xs abS a M')
   (λy a M' f i=>by rw[if_pos rfl];exact#[f,bQ I e j l m xs _ a M' i]) (λy a M' i=>by rw[if_neg (by simp)];exact bQ I e j l m xs _ a M' i) |> λz=>by simpa using z]
theorem bj(h:n<=1000000):n<=sizeLine:=Vb h (by decide)
theorem gn(h:n<1000000):n<sizeLine:=UW h (by decide)
end _3
namespace _T
open PySem _2 _3
variable{x:Str}
inductive Rw where
 |put (x:Str) (k:Int)|take (x:Str) (i:Int)|pick (x y:Str)|two (w x y z:Str)|ifr (x:Str) (a b:List Rw)|again (x:Str) (a:List Rw)
mutual
noncomputable def Rw.d:Rw->D
 |.put x k=>.tup [.str "put",.str x,.int k]
 |.take x i=>.tup [.str "take",.str x,.int i]
 |.pick x y=>.tup [.str "pick",.str x,.str y]
 |.two w x y z=>.tup [.str w,.str x,.str y,.str z]
 |.ifr x a b=>.tup [.str "if",.str x,.tup (aH a),.tup (aH b)]
 |.again x a=>.tup [.str "again",.str x,.tup (aH a)]
noncomputable def aH:List Rw->List D
 |[]=>[]
 |r::rs=>r.d::aH rs
end
theorem iz:∀rs:List Rw,aH rs=rs.map Rw.d
 |[]=>rfl
 |r::rs=>by rw[aH,iz rs];rfl
abbrev cO:=List (Str×Int)
noncomputable def gN(n:cO)(x:Str):Option Int:=(n.find? λp=>decide (p.1=x)).map (·.2)
def nm(n:cO)(x:Str):Int:=(gN n x).getD 0
noncomputable def sN(n:cO)(x:Str)(v:Int):cO:=n.map λp=>if p.1=x then (p.1,v) else p
noncomputable def eI(n:cO):List (aD×D):=n.map λp=>(Vr p.1,D.int p.2)
theorem ME:∀{n:cO}{x:Str},x∈n.map (·.1)->gN n x=ap (nm n x)
 |[],_,h=>by simp at h
 |(y,v)::n,x,h=>by
  by_cases e:y=x
  .simp[gN,nm,e]
  simpa [gN,nm,e] using (ME<|by simpa [eq_comm,e] using h)
theorem cy:∀{n:cO}{x:Str},cV (eI n) (Vr x)=(gN n x).map D.int
 |[],x=>rfl
 |(y,v)::n,x=>by
  by_cases e:y=x
  .simp[cV,eI,gN,e]
  simpa [cV,eI,gN,e] using (cy)
theorem HZ:∀{n:cO}{x:Str},x∈n.map (·.1)->((eI n).any λkv=>decide (kv.1=Vr x))=true
 |[],_,h=>by simp at h
 |(y,v)::n,x,h=>by
  by_cases e:y=x
  .simp[eI,e]
  .have:=HZ (by simpa [eq_comm,e] using h)
   simp[eI]at this ⊢
   simp_all
theorem m8(h:x∈n.map (·.1)):eG (eI n) (Vr x) (.int v)=eI (sN n x v):=by
 unfold eG;rw[HZ h];simp only[eI,sN,Vf];apply Vy;intro p _
 by_cases e:p.1=x
 .simp[e]
 simp[e]
theorem jB:(sN n x v).map (·.1)=n.map (·.1):=by
 simp only[sN,Vf];apply Vy;intro p _
 by_cases e:p.1=x<;>simp[e]
theorem S8(h:x∈n.map (·.1)):gN (sN n x v) y=if y=x then ap v else gN n y:=by
 induction n with
 |nil=>simp at h
 |cons p n ih=>
  obtain⟨k,u⟩:=p
  by_cases e:k=x
  .subst e
   by_cases a:y=k
   .subst a;simp[gN,sN]
   simp[if_neg a];have c:¬k=y:=λz=>a z.symm
   by_cases b:k∈n.map (·.1)
   .simpa [gN,sN,c,if_neg a] using (ih b)
   simp only[gN,sN,UR,if_pos,Wx,c,decide_false];have:n.map (λp=>if p.1=k then (p.1,v) else p)=n:=by
    conv=>rhs;rw[<- Wd n]
    apply Vy;intro p g;have:p.1≠k:=λz=>b (by rw[<- z];exact Vq g)
    simp[this]
   rw[this]
  have:=ih (by simpa [Vu e,e] using h)
  by_cases a:y=x
  .subst a;simpa [gN,sN,e] using this
  by_cases f:k=y
  .subst f;simp[gN,sN,e]
  .simpa [gN,sN,e,f,a] using this
structure Cf where
 m:Int
 pieces:List Int
 most:Nat
structure Sx where
 nums:cO
 steps:List (List Int×Int)
noncomputable def zm(w:Str)(y z m:Int):Int:=if w="sum" then (y+z) % m else if w="by" then y*z % m else if w="less" then (if y<z then 1 else 0) else if y=z then 1 else 0
def num(c:Cf)(n:cO):Rw->Int
 |.put _ k=>k
 |.take _ i=>(c.pieces[i.toNat]?).getD 0
 |.pick _ y=>(c.pieces[(nm n y % (c.pieces.length:Int)).toNat]?).getD 0
 |.two w _ y z=>zm w (nm n y) (nm n z) c.m
 |_=>0
noncomputable def iV:Rw->Str
 |.put x _=>x
 |.take x _=>x
 |.pick x _=>x
 |.two _ x _ _=>x
 |.ifr x _ _=>x
 |.again x _=>x
noncomputable def nt(c:Cf)(pl:abX)(v:Int)(s:Sx):Bool×Sx:=if s.steps.length<c.most then (true,#[s.nums,s.steps++[(pl,v)]]) else (cx,s)
def lk(n:cO)(x:Str):Int:=if nm n x=0 then 0 else 1
def fE(c:Cf)(x:Str)(pl:abX)(body:Nat->Sx->Bool×Sx):Nat->Nat->Sx->Bool×Sx
 |0,_,s=>(cx,s)
 |f+1,t,s=>if (nt c (pl++[(t:Int)]) (lk s.nums x) s).1=true then
   (if lk s.nums x=1 then
    (if (body t (nt c (pl++[(t:Int)]) (lk s.nums x) s).2).1=true then fE c x pl body f (t+1) (body t (nt c (pl++[(t:Int)]) (lk s.nums x) s).2).2 else body t (nt c (pl++[(t:Int)]) (lk s.nums x) s).2)
   else nt c (pl++[(t:Int)]) (lk s.nums x) s)
  else nt c (pl++[(t:Int)]) (lk s.nums x) s
mutual
noncomputable def j9(c:Cf):Rw->List Int->Sx->Bool×Sx
 |.ifr x a b,pl,s=>if (nt c pl (lk s.nums x) s).1=true then (if lk s.nums x=1 then cg c a (pl++[lk s.nums x]) 0 (nt c pl (lk s.nums x) s).2 else cg c b (pl++[lk s.nums x]) 0 (nt c pl (lk s.nums x) s).2) else nt c pl (lk s.nums x) s
 |.again x a,pl,s=>fE c x pl (λt s=>cg c a (pl++[(t:Int)]) 0 s) (c.most+1) 0 s
 |.put x k,pl,s=>if (nt c pl (num c s.nums<|.put x k) s).1=true then (true,#[sN s.nums x (num c s.nums<|.put x k),(nt c pl (num c s.nums<|.put x k) s).2.steps]) else nt c pl (num c s.nums<|.put x k) s
 |.take x i,pl,s=>if (nt c pl (num c s.nums<|.take x i) s).1=true then (true,#[sN s.nums x (num c s.nums<|.take x i),(nt c pl (num c s.nums<|.take x i) s).2.steps]) else nt c pl (num c s.nums<|.take x i) s
 |.pick x y,pl,s=>if (nt c pl (num c s.nums<|.pick x y) s).1=true then (true,#[sN s.nums x (num c s.nums<|.pick x y),(nt c pl (num c s.nums<|.pick x y) s).2.steps]) else nt c pl (num c s.nums<|.pick x y) s
 |.two w x y z,pl,s=>if (nt c pl (num c s.nums<|.two w x y z) s).1=true then (true,#[sN s.nums x (num c s.nums<|.two w x y z),(nt c pl (num c s.nums<|.two w x y z) s).2.steps]) else nt c pl (num c s.nums<|.two w x y z) s
noncomputable def cg(c:Cf):List Rw->List Int->Nat->Sx->Bool×Sx
 |[],_,_,s=>(true,s)
 |r::rs,pl,j,s=>if (j9 c r (pl++[(j:Int)]) s).1=true then cg c rs pl (j+1) (j9 c r (pl++[(j:Int)]) s).2 else j9 c r (pl++[(j:Int)]) s
end
def lF(c:Cf)(r:Rw)(pl:abX)(s:Sx):Bool×Sx:=if s.steps.length<c.most then (true,#[sN s.nums (iV r) (num c s.nums r),s.steps++[(pl,num c s.nums r)]]) else (cx,s)
noncomputable def bt:Rw->Bool
 |.ifr _ _ _=>cx
 |.again _ _=>cx
 |_=>true
theorem cU(h:bt r=true):j9 c r pl s=lF c r pl s:=by
 cases r with
 |ifr x a b=>trivial
 |again x a=>trivial
 |_=>simp[j9,lF,nt,iV];lia
theorem ofs_inj(a b:String):(W8 a=W8 b)=(a=b):=by
 refine propext #[λh=>?_,by lia]
 rw[Str.ofString_eq_byList]at h;exact String.toList_inj.mp ((List.map_inj_right λx y=>Char.toNat_inj.mp).mp<|congrArg (λx:Str=>x.cps.toList) h)
end _T
open PySem _2 _3 _T
local macro_rules | `(tactic| simp! [$a,*]) => do let p <- ("HW Ge Gq Hg CM Bv CT AV yZ Cp Dm Cr Cd Co Ae B9 zo BE zV Ah zp BV B0 Bi A1 A6 z_ D3 zB lL Dg Bz Cu Br rT tP AA Hc Ip FA Ha Gm FP yn xG tm sC zf A8 D6 tT sV mQ Ca AB Bj CU uf ie AQ Bb ug tu t8 tN t9 iw tZ zT zF By CV uq B4 CK C5 Fv sR rJ tL uh su tM tD iu Az xb wy yd o5 yK yt yM tq tJ sh ut m3 mh lP ip mj mv ms jt rK mM lY mq mR z0 At Bn A_ Bw zj zZ Ab AI C8 CF BQ BS AM B8 zN Dj Ay zu zM zU zk An BG we wR zC BO Cw Am C3 Ck za BR Bp zh A2 zP AO zE Au AX BB Bf BM Bm A9 A0 zx Av Ai C0 CJ Di AE B_ vo wa uS zR uL BU rS mz uE uJ rW uB zA me lK lT t7 pC B7 AY Aw uC mP ma mF mZ mO lX mE sH oG uA rQ uu sk tV sL sM sx sE uc CY oh uZ jW jr oO ju jg oo oC jz og ng pw oF o_ p8 oN sj sK jD sU um tj mB BI my jC uz tY iH D7 zY t6 AZ Ce Cy CC C6 Ak Be BC CP B6 tH yc ph yA tK mW mV sw iF lU ii mC lI m9 jI jn jM jH jm jJ k7 Hm Hi RI FV A4 QP yv vD Hf uF tI u_ BJ Jo kz jV ig dz aK startN ah aJ am cW Ig ai ck km dv bz fits aQ gS ac dC aB pq aE gI p_ Lv pc Mx oI k4 cD az aO g4 aq frz aZ lB fK k_ vO ao af dm aN dg cZ lD aa ag aS bO b6 bh gb bP dZ df Q_ qo Ix Lc aW cK bg j_ bu E8 jR Jm i_ ko hW eV cP Ec rO kK G4 oSl ES fj cS aj dF iR cm dw Fy o8 Uz bM dB dX cF eP qY frzT frzs OH iJ wU nE".splitOn " ").toArray.mapM (fun s => `(Lean.Parser.Tactic.simpLemma| ↓$(Lean.mkIdent s.toName):ident)); let q <- ("List.map_cons List.map_nil List.cons_append List.nil_append List.length_cons List.length_nil List.getElem?_cons_succ List.getElem?_cons_zero List.set_cons_succ List.set_cons_zero Nat.zero_add Nat.reduceAdd Nat.reduceSub List.replicate_succ List.replicate_zero List.append_nil true_and and_true if_true if_false Bool.false_eq_true decide_eq_true_eq decide_eq_false_iff_not Bool.not_true Bool.not_false Bool.and_true Bool.true_and Bool.and_false Bool.false_and Mem.upd_same Option.isSome_some Option.isSome_none Dp Qu s2e_s PM RS IA two_2 nil_0 cns_c no_0 no_1 FY N6 qy onS_s onTy_t onT_t onF_f Td onBB_t onBB_f onIST_i onIST_s onIST_t onIST_r onIST_l onSR_s onSR_r onLR_l onLR_r onTM_t onTM_m onTM_r onTM_l onTe_t onTe_r onTe_l onRe_r onRe_n onRe_b onRe_i onRe_s onRe_t onRe_l onRe_f onRe_m onRe_ml mL_l mK_k mT_t mN_n mLe_l mLe_k mLe_t mLe_n mLe_0 mSet_l mSet_k mSet_t ofs_inj String.reduceEq".splitOn " ").toArray.mapM (fun s => `(Lean.Parser.Tactic.simpLemma| $(Lean.mkIdent s.toName):ident)); let r : Lean.TSyntaxArray [`Lean.Parser.Tactic.simpStar, `Lean.Parser.Tactic.simpErase, `Lean.Parser.Tactic.simpLemma] := (p.map (⟨·.raw⟩)) ++ (q.map (⟨·.raw⟩)) ++ a.getElems; `(tactic| simp -dsimp only [$r,*])
local macro_rules | `(tactic| simp_arith! only [$a,*]) => do let q <- ("Dp Qu s2e_s PM RS IA two_2 nil_0 cns_c no_0 no_1 FY N6 qy onS_s onTy_t onT_t onF_f Td onBB_t onBB_f onIST_i onIST_s onIST_t onIST_r onIST_l onSR_s onSR_r onLR_l onLR_r onTM_t onTM_m onTM_r onTM_l onTe_t onTe_r onTe_l onRe_r onRe_n onRe_b onRe_i onRe_s onRe_t onRe_l onRe_f onRe_m onRe_ml mL_l mK_k mT_t mN_n mLe_l mLe_k mLe_t mLe_n mLe_0 mSet_l mSet_k mSet_t ag".splitOn " ").toArray.mapM (fun s => `(Lean.Parser.Tactic.simpLemma| $(Lean.mkIdent s.toName):ident)); let r : Lean.TSyntaxArray [`Lean.Parser.Tactic.simpStar, `Lean.Parser.Tactic.simpErase, `Lean.Parser.Tactic.simpLemma] := (q.map (⟨·.raw⟩)) ++ a.getElems; `(tactic| simp -dsimp only [$r,*])
namespace _T
open PySem _2 _3
variable{names:abY}
theorem kT(b:0<m)(i:0<=y)(g:y<1000)(h:Q (.int<|zm w y z m) M):zJ ad [.str w,.int y,.int z,.int m] M Q E:=by
 have f:CMul y z:=.inl #[by lia,by lia]
 unfold zm at h;simp![U0,AN]
 split
 .rename_i e;rw[if_pos e]at h;exact#[b,ak h]
 rename_i e;rw[if_neg e]at h
 split
 .rename_i e;rw[if_pos e]at h;exact#[f,b,ak h]
 rename_i e;rw[if_neg e]at h
 split
 .rename_i e;rw[if_pos e]at h
  split<;>rename_i a
  .rw[if_pos a]at h;exact ak h
  .rw[if_neg a]at h;exact ak h
 .rename_i e;rw[if_neg e]at h
  split<;>rename_i a
  .rw[if_pos a]at h;exact ak h
  .rw[if_neg a]at h;exact ak h
def cM(names:abY)(m many:Int):Rw->Prop
 |.put x k=>x∈names/\0<=k/\k<m
 |.take x i=>x∈names/\0<=i/\i<many
 |.pick x y=>x∈names/\y∈names/\0<many
 |.two w x y z=>(w="sum"\/w="by"\/w="less"\/w="same")/\x∈names/\y∈names/\z∈names
 |_=>False
structure NOk(names:abY)(m:Int)(n:cO):Prop where
 keys:n.map (·.1)=names
 rng:∀p∈n,0<=p.2/\p.2<m
theorem NOk.at(h:NOk names m n)(f:x∈names):gN n x=ap (nm n x)/\0<=nm n x/\nm n x<m:=by
 have e:=ME (by rw[h.keys];exact f)
 refine#[e,?_];obtain⟨p,b,a⟩:=VT.mp e;rw[<- a];exact h.rng p (List.mem_of_find?_eq_some b)
theorem KG(g:2<=m):0<=zm w y z m/\zm w y z m<m:=by
 unfold zm;have b:=VW (y+z) (show m≠0 by lia)
 have f:=VX (y+z) (show 0<m by lia)
 have a:=VW (y*z) (show m≠0 by lia)
 have e:=VX (y*z) (show 0<m by lia)
 lia
structure COk(c:Cf):Prop where
 m2:2<=c.m
 m1:c.m<=997
 rng:∀v∈c.pieces,0<=v/\v<c.m
 few:c.pieces.length<=1000
 most:c.most<=10000
theorem COk.piece(h:COk c)(a:i<c.pieces.length):c.pieces[i]?=ap ((c.pieces[i]?).getD 0)/\0<=(c.pieces[i]?).getD 0/\(c.pieces[i]?).getD 0<c.m:=by
 rw[UO a];exact#[rfl,h.rng _<|by simp_all]
theorem Aa(h:COk c)(f:NOk names c.m n)(a:cM names c.m c.pieces.length r):0<=num c n r/\num c n r<c.m:=by
 cases r with
 |put x k=>exact a.2
 |take x i=>exact(h.piece<|by have:=a.2;lia).2
 |pick x y=>
  have b:=a.2.2;have e:=VX (nm n y) b;exact(h.piece<|by lia).2
 |two w x y z=>exact KG h.m2
 |ifr=>exact a.elim
 |again=>exact a.elim
def aX(c:Cf)(names:abY)(rows:List Rw)(mk:Str):D:=.tup [.int c.m,.tup (names.map D.str),.int (c.pieces.length:Nat),.tup (aH rows),.str mk]
theorem cJ(f:NOk names c.m n)(a:cM names c.m c.pieces.length r)(g:M b=ap (.dK<|eI n))(h:Q (match r with|.take _ i=>.int i|.pick _ y=>.int (nm n y % (c.pieces.length:Int))|_=>.non) M):nv ad [aX c names rows mk,.ref b,r.d] M Q E:=by
 cases r with
 |put x k=>(simp![r9,jX,Rw.d,atI_0];exact ak h)
 |take x i=>(simp![r9,jX,Rw.d,atI_0];exact ak h)
 |pick x y=>
  simp![r9,jX,Rw.d,atI_0,atI_2,g,cy,(f.at a.2.1).1];exact#[a.2.2,ak h]
 |two w x y z=>
  obtain⟨e,_⟩:=a;rcases e with rfl|rfl|rfl|rfl<;>(simp![r9,jX,aX,Rw.d,atI_0];exact ak h)
 |ifr=>exact a.elim
 |again=>exact a.elim
theorem oA(o:COk c)(e:NOk names c.m n)(b:cM names c.m c.pieces.length r)(f:M u=ap (.dK<|eI n))(h:Q (.int<|num c n r) M):ou ad [aX c names rows mk,.ref u,.tup (c.pieces.map D.int),r.d] M Q E:=by
 have v:=o.m1;cases r with
 |put x k=>
  simp![kZ,h7,Rw.d,atI_0];exact ak h
 |take x i=>
  have a:=b;obtain⟨p,j,G⟩:=a;have l:(c.pieces.map D.int)[i.toNat]?=ap (.int<|num c n<|.take x i):=by rw[UT,(o.piece (i:=i.toNat)<|by lia).1];rfl
  simp![kZ,h7,aX,Rw.d,atI_0,atI_2];refine aG (d:=.int i) (λ_ _ q=>cJ (c:=c) (names:=names) (rows:=rows) (mk:=mk) (r:=.take x i) e b f q) ?_;simp![bE j,l];exact ak h
 |pick x y=>
  have a:=b;obtain⟨p,s,j⟩:=a;have F:=VX (nm n y) j;have l:(c.pieces.map D.int)[(nm n y % (c.pieces.length:Int)).toNat]?=ap (.int<|num c n<|.pick x y):=by rw[UT,(o.piece (i:=(nm n y % (c.pieces.length:Int)).toNat)<|by lia).1];rfl
  simp![kZ,h7,aX,Rw.d,atI_0,atI_2];refine aG (d:=.int (nm n y % (c.pieces.length:Int))) (λ_ _ q=>cJ (c:=c) (names:=names) (rows:=rows) (mk:=mk) (r:=.pick x y) e b f q) ?_;simp![bE (VW (nm n y) (show (c.pieces.length:Int)≠0 by lia)),l]
  exact ak h
 |two w x y z=>
  have a:=b;obtain⟨B,p,s,A⟩:=a;have C:=e.at s;have g:((w=W8 "put")=False):=by rcases B with rfl|rfl|rfl|rfl<;>exact eq_false (by decide +kernel)
  simp![kZ,h7,aX,Rw.d,atI_0,atI_2,g];refine aG (d:=.non) (λ_ _ q=>cJ (c:=c) (names:=names) (rows:=rows) (mk:=mk) e b f q) ?_;simp![atI_0,atI_2,atI_3,f,cy,C.1,(e.at A).1,VV];exact aG (λ_ _ q=>kT (by lia) (by lia) (by lia) q) (ak h)
 |ifr=>exact b.elim
 |again=>exact b.elim
structure Wk where
 a:cp
 dn:cp
 ls:cp
 h1:a≠dn
 h2:a≠ls
 h3:dn≠ls
noncomputable def iN(l:abX):D:=.tup (l.map D.int)
def xS(l:List (List Int×Int)):List D:=l.map λp=>.tup [iN p.1,.int p.2]
def wM(ad:Ad)(k:Wk)(c:Cf)(pD:D)(s:Sx)(M:Mem):Mem:=
 ((M.upd k.a<|.ins ad.C_Walk [("plan",pD),("numbers",.ref k.dn),("pieces",.tup (c.pieces.map D.int)),("most",.int (c.most:Nat)),("steps",.ref k.ls)]).upd k.dn<|.dK<|eI s.nums).upd k.ls (.lst<|xS s.steps)
theorem pP:wM ad k c pD s M k.a=ap (.ins ad.C_Walk [("plan",pD),("numbers",.ref k.dn),("pieces",.tup (c.pieces.map D.int)),("most",.int (c.most:Nat)),("steps",.ref k.ls)]):=by
 unfold wM;rw[ae k.h2,ae k.h1,Mem.upd_same]
theorem Cn:wM ad k c pD s M k.dn=ap (.dK<|eI s.nums):=by unfold wM;rw[ae k.h3,Mem.upd_same]
theorem O4:wM ad k c pD s M k.ls=ap (.lst<|xS s.steps):=by unfold wM;simp_all
theorem GZ:(wM ad k c pD s M).upd k.ls (.lst<|xS x)=wM ad k c pD #[s.nums,x] M:=by unfold wM;simp_all
theorem JL:(wM ad k c pD s M).upd k.dn (.dK<|eI x)=wM ad k c pD #[x,s.steps] M:=by
 unfold wM;rw[aC (Vu k.h3),Mem.upd_upd]
theorem lf0:Vw ("plan":Str) [(("plan":Str),x0),(("numbers":Str),x1),(("pieces":Str),x2),(("most":Str),x3),(("steps":Str),x4)]=ap (x0:D):=rfl
theorem Ji:Vw ("numbers":Str) [(("plan":Str),x0),(("numbers":Str),x1),(("pieces":Str),x2),(("most":Str),x3),(("steps":Str),x4)]=ap (x1:D):=rfl
theorem lf2:Vw ("pieces":Str) [(("plan":Str),x0),(("numbers":Str),x1),(("pieces":Str),x2),(("most":Str),x3),(("steps":Str),x4)]=ap (x2:D):=rfl
theorem lf3:Vw ("most":Str) [(("plan":Str),x0),(("numbers":Str),x1),(("pieces":Str),x2),(("most":Str),x3),(("steps":Str),x4)]=ap (x3:D):=rfl
theorem lf4:Vw ("steps":Str) [(("plan":Str),x0),(("numbers":Str),x1),(("pieces":Str),x2),(("most":Str),x3),(("steps":Str),x4)]=ap (x4:D):=rfl
theorem lfm:Vw ("note_step":Str) [(("plan":Str),x0),(("numbers":Str),x1),(("pieces":Str),x2),(("most":Str),x3),(("steps":Str),x4)]=(none:Option D):=rfl
theorem lfl:Vw ("look":Str) [(("plan":Str),x0),(("numbers":Str),x1),(("pieces":Str),x2),(("most":Str),x3),(("steps":Str),x4)]=(none:Option D):=rfl
theorem gq(g:c.most<=10000)(b:(nt c pl v s).1=true->Q .non (wM ad k c pD (nt c pl v s).2 M))(e:(nt c pl v s).1=cx->E ad.C_Dry (wM ad k c pD (nt c pl v s).2 M)):
  xI ad [.ref k.a,iN pl,.int v] (wM ad k c pD s M) Q E:=by
 unfold nt at b e;simp![u_q2,Lu,pP,O4,lf3,lf4,xS,UM]
 split
 .have:¬s.steps.length<c.most:=by lia
  rw[if_neg this]at e;exact eK (e rfl)
 have f:s.steps.length<c.most:=by lia
 rw[if_pos f]at b;refine#[bj (by decide),gn (by lia),ak ?_]
 have:=b rfl;rw[<- GZ]at this;simpa [xS] using this
end _T
namespace _3
open PySem _2
def gg:Nat->List D->List D
 |_,[]=>[]
 |k,x::xs=>.tup [.int (k:Nat),x]::gg (k+1) xs
theorem wP:∀(xs:List D)(k:Nat),(xs.zipIdx k).map (λp=>D.tup [.int (p.2:Nat),p.1])=gg k xs
 |[],_=>rfl
 |x::xs,k=>by rw[XY,UR,wP xs _];rfl
theorem jT(xs:List D):wF xs=gg 0 xs:=wP xs 0
theorem aM:DIt.ok #[xs,[]] M:=λ_ h=>by cases h
end _3
namespace _T
open PySem _2 _3
variable{ad:Ad}{l:cp}{c:Cf}{C:Cse}{g:Gs}{a b m many v:Int}{ns nums xs:abX}{abS rest rs:List Rw}{names:abY}{ks u us:List aD}{M M':Mem}{fi i j n:Nat}{r:Rw}{s z:Sta}{w x y:Str}{q:aD}
mutual
def eF(names:abY)(m many:Int):Rw->Prop
 |.ifr x a b=>x∈names/\bf names m many a/\bf names m many b
 |.again x a=>x∈names/\bf names m many a
 |.put x k=>cM names m many (.put x k)
 |.take x k=>cM names m many (.take x k)
 |.pick x k=>cM names m many (.pick x k)
 |.two w x y z=>cM names m many (.two w x y z)
def bf(names:abY)(m many:Int):List Rw->Prop
 |[]=>True
 |r::rs=>eF names m many r/\bf names m many rs
end
mutual
noncomputable def hR:Rw->Nat
 |.ifr _ a b=>1+max (dA a) (dA b)
 |.again _ a=>1+dA a
 |_=>0
noncomputable def dA:List Rw->Nat
 |[]=>0
 |r::rs=>max (hR r) (dA rs)
end
theorem Fp{n:cO}(f:NOk names c.m n)(B:0<=v/\v<c.m):NOk names c.m (sN n x v):=by
 refine#[by rw[jB];exact f.keys,λp e=>?_]
 simp only[sN,UZ]at e;obtain⟨q,h,rfl⟩:=e
 split
 .exact B
 exact f.rng q h
theorem fW{s:Sx}:(nt c pl v s).2.nums=s.nums:=by unfold nt;split<;>rfl
theorem mY(f:COk c)(h:cM names c.m c.pieces.length r){s:Sx}(e:NOk names c.m s.nums):NOk names c.m (lF c r pl s).2.nums:=by
 unfold lF
 split
 .exact Fp e (Aa f e h)
 exact e
theorem D1{x:Str}(B:∀t s,NOk names c.m s.nums->NOk names c.m (e t s).2.nums):∀(f t:Nat)(s:Sx),NOk names c.m s.nums->NOk names c.m (fE c x pl e f t s).2.nums
 |0,_,s,h=>h
 |f+1,t,s,h=>by
  have p:NOk names c.m (nt c (pl++[(t:Int)]) (lk s.nums x) s).2.nums:=by rw[fW];exact h
  unfold fE
  split
  .split
   .split
    .exact D1 B f _ _ (B t _ p)
    simp_all
   exact p
  exact p
mutual
theorem rR(e:COk c):∀(r:Rw),eF names c.m c.pieces.length r->∀(pl:abX)(s:Sx),NOk names c.m s.nums->NOk names c.m (j9 c r pl s).2.nums
 |.ifr x a b,h,pl,s,hn=>by
  have f:NOk names c.m (nt c pl (lk s.nums x) s).2.nums:=by rw[fW];exact hn
  simp only[eF]at h;unfold j9
  split
  .split
   .exact dG e a h.2.1 _ _ _ f
   .exact dG e b h.2.2 _ _ _ f
  .exact f
 |.again x a,h,pl,s,hn=>by
  simp only[eF]at h;unfold j9;exact D1 (λt s p=>dG e a h.2 _ _ _ p) _ _ _ hn
 |.put x k,h,pl,s,hn=>by rw[cU rfl];exact mY e (by simpa only[eF] using h) hn
 |.take x k,h,pl,s,hn=>by rw[cU rfl];exact mY e (by simpa only[eF] using h) hn
 |.pick x k,h,pl,s,hn=>by rw[cU rfl];exact mY e (by simpa only[eF] using h) hn
 |.two w x y z,h,pl,s,hn=>by rw[cU rfl];exact mY e (by simpa only[eF] using h) hn
theorem dG(e:COk c):∀(rs:List Rw),bf names c.m c.pieces.length rs->∀(pl:abX)(j:Nat)(s:Sx),NOk names c.m s.nums->NOk names c.m (cg c rs pl j s).2.nums
 |[],_,_,_,s,hn=>by simpa only[cg] using hn
 |r::rs,h,pl,j,s,hn=>by
  simp only[bf]at h;unfold cg
  split
  .exact dG e rs h.2 _ _ _ (rR e r h.1 _ _ hn)
  .exact rR e r h.1 _ _ hn
end
def Post(ad:Ad)(k:Wk)(c:Cf)(pD:D)(r:Bool×Sx)(M:Mem)(d:D)(Q:DK)(E:DX):Prop:=(r.1=true->Q d (wM ad k c pD r.2 M))/\(r.1=cx->E ad.C_Dry (wM ad k c pD r.2 M))
theorem bH{r:Bool×Sx}(F:∀Q' E',Post ad k c f r M d Q' E'->T ds M0 Q' E'){b:BxQ E Q}(h:Post ad k c f r M d Q E):calls T E ds M0 Q b:=
 ar λQ' E' B p=>F Q' E' #[λe=>B _ _ (h.1 e),λe=>p _ _ (h.2 e)]
theorem Post.drp{r:Bool×Sx}(h:Post ad k c f r M d Q E):Post ad k c f r M d (_3.drp Q) (aI E):=#[λe=>ak (h.1 e),λe=>eK (h.2 e)]
section
variable{s:Sx}
theorem qP(F:COk c)(p:NOk names c.m s.nums)(B:x∈names)(h:Post ad k c (aX c names abW mk) (nt c pl (lk s.nums x) s) M (.int<|lk s.nums x) Q E):
  qS ad [.ref k.a,iN pl,.str x] (wM ad k c (aX c names abW mk) s M) Q E:=by
 have f:∀v:Int,v=lk s.nums x->calls (xI ad) (aI E) [.ref k.a,iN pl,.int v] (wM ad k c (aX c names abW mk) s M) (λ_ M1=>_3.drp Q (.int v) M1) #[]:=by
  rintro v rfl
  exact bH (λQ' E' z=>gq F.most z.1 z.2) #[λe=>ak (h.1 e),λe=>eK (h.2 e)]
 simp![Tt,AS,pP,Cn,Ji,lfm,cy,(p.at B).1,VV]
 split
 .rename_i e
  exact f 0 (by unfold lk;rw[if_pos e])
 rename_i e
 exact f 1 (by unfold lk;rw[if_neg e])
theorem kH(h:cM names m many r):∃w rest,r.d=.tup (.str w::.str (iV r)::rest)/\(w="again")=False/\(w="if")=False:=by
 cases r with
 |two w x y z=>
  refine#[_,_,rfl,?_];rcases h.1 with rfl|rfl|rfl|rfl
  .exact#[by trivial,(eq_false<|by decide +kernel)]
  .exact#[(eq_false<|by decide +kernel),(eq_false<|by decide +kernel)]
  .exact#[(eq_false<|by decide +kernel),(eq_false<|by decide +kernel)]
  exact#[(eq_false<|by decide +kernel),(eq_false<|by decide +kernel)]
 |ifr=>exact h.elim
 |again=>exact h.elim
 |_=>exact#[_,_,rfl,(eq_false<|by decide +kernel),(eq_false<|by decide +kernel)]
theorem uG(R:names.length<=1000)(O:COk c)(H:NOk names c.m s.nums)(f:cM names c.m c.pieces.length r)(h:Post ad k c (aX c names abW mk) (lF c r pl s) M .non Q E):
  aak ad (n+1) [.ref k.a,r.d,iN pl] (wM ad k c (aX c names abW mk) s M) Q E:=by
 obtain⟨w,rest,I,F,G⟩:=kH f;have fin:calls (ou ad) (aI E) [aX c names abW mk,.ref k.dn,.tup (c.pieces.map D.int),r.d] (wM ad k c (aX c names abW mk) s M) (λd M'=>frz d M' λx M1=>
   af 3 x [ap (.ref k.a),ap r.d,ap (iN pl),ca] M1 λU M2=>ah (bg<|dF ad.C_Walk "note_step" (xI ad) (aI E) 3 (ac 0)<|aa (ac 2)<|aa (ac 3) ag)
    (ao (ac 3)<|cZ (aW ad.C_Walk (ac 0) "numbers")<|ai az (ac 1)<|dC<|.int 1) { nx:=λ_ M'=>_3.drp Q .non M',rt:=_3.drp Q } U M2) #[]:=by
  refine aG (λ_ _ q=>oA O H f Cn q) ?_;simp![pP,lfm];refine bH (λQ' E' z=>gq O.most z.1 z.2) ?_;unfold lF at h;unfold nt;have e:iV r∈s.nums.map (·.1):=by
   rw[H.keys];cases r with
   |two w x y z=>exact f.2.1
   |ifr=>exact f.elim
   |again=>exact f.elim
   |_=>exact f.1
  split
  .rename_i B
   rw[if_pos B]at h;refine#[λ_=>?_,by lia]
   have J:=h.1 rfl;have P:wM ad k c (aX c names abW mk) #[sN s.nums (iV r) (num c s.nums r),s.steps++[(pl,num c s.nums r)]] M=(wM ad k c (aX c names abW mk) #[s.nums,s.steps++[(pl,num c s.nums r)]] M).upd k.dn (.dK<|eG (eI s.nums) (Vr<|iV r)<|.int<|num c s.nums r):=by
    rw[m8 e,JL]
   rw[P]at J;have p:(eI s.nums).length<sizeLine:=by rw[eI,UM,<- UM,H.keys];exact gn (by lia)
   rw[I];simp![pP,Cn,Ji,atI_1];exact#[p,ak J]
  .rename_i B
   rw[if_neg B]at h;exact#[by lia,λ_=>eK (h.2 rfl)]
 rw[I]at fin ⊢;simp![Fq,qC,pP,lf0,Ji,lf2,atI_0,F,G];exact fin
end
def Gr(c:Cf)(s s':Sx):Prop:=s.steps.length<=s'.steps.length/\(s.steps.length<=c.most->s'.steps.length<=c.most)
theorem Gr.refl{s:Sx}:Gr c s s:=#[by lia,id]
theorem Gr.trans{s s2:Sx}(a:Gr c s e)(b:Gr c e s2):Gr c s s2:=#[Vb a.1 b.1,λh=>b.2 (a.2 h)]
theorem nt_gr{s:Sx}:Gr c s (nt c pl v s).2:=by
 unfold nt
 split
 .refine#[by simp,λ_=>?_];simp;lia
 exact Gr.refl
theorem mS{s:Sx}:Gr c s (lF c r pl s).2:=by
 unfold lF
 split
 .refine#[by simp,λ_=>?_];simp;lia
 exact Gr.refl
theorem y_{x:Str}(h:∀t s,Gr c s (e t s).2):∀(f t:Nat)(s:Sx),Gr c s (fE c x pl e f t s).2
 |0,_,s=>Gr.refl
 |f+1,t,s=>by
  unfold fE
  split
  .split
   .split
    .exact nt_gr.trans ((h t _).trans<|y_ h f _ _)
    exact nt_gr.trans (h t _)
   exact nt_gr
  exact nt_gr
mutual
theorem uv:∀(r:Rw)(pl:abX)(s:Sx),Gr c s (j9 c r pl s).2
 |.ifr x a b,pl,s=>by
  unfold j9
  split
  .split
   .exact nt_gr.trans (fR a _ _ _)
   .exact nt_gr.trans (fR b _ _ _)
  .exact nt_gr
 |.again x a,pl,s=>by
  unfold j9;exact y_ (λt s=>fR a _ _ _) _ _ _
 |.put x k,pl,s=>by rw[cU rfl];exact mS
 |.take x k,pl,s=>by rw[cU rfl];exact mS
 |.pick x k,pl,s=>by rw[cU rfl];exact mS
 |.two w x y z,pl,s=>by rw[cU rfl];exact mS
theorem fR:∀(rs:List Rw)(pl:abX)(j:Nat)(s:Sx),Gr c s (cg c rs pl j s).2
 |[],_,_,s=>by unfold cg;exact Gr.refl
 |r::rs,pl,j,s=>by
  unfold cg
  split
  .exact(uv r _ _).trans (fR rs _ _ _)
  .exact uv r _ _
end
theorem gC:D.tup (pl.map D.int++[D.int v])=iN (pl++[v]):=by simp[iN]
def CQ(ad:Ad)(k:Wk)(c:Cf)(names:abY)(abW:List Rw)(mk:Str)(n:Nat):Prop:=∀(rs:List Rw)(pl:abX)(s:Sx)(M:Mem)(Q:DK)(E:DX),bf names c.m c.pieces.length rs->3*dA rs+2<=n->pl.length+2*dA rs+2<=1000->NOk names c.m s.nums->s.steps.length<=c.most->
 Post ad k c (aX c names abW mk) (cg c rs pl 0 s) M .non Q E->aai ad n [.ref k.a,.tup (aH rs),iN pl] (wM ad k c (aX c names abW mk) s M) Q E
def PD(ad:Ad)(k:Wk)(c:Cf)(names:abY)(abW:List Rw)(mk:Str)(n:Nat):Prop:=∀(r:Rw)(pl:abX)(s:Sx)(M:Mem)(Q:DK)(E:DX),eF names c.m c.pieces.length r->3*hR r+1<=n->pl.length+2*hR r+1<=1000->NOk names c.m s.nums->s.steps.length<=c.most->
 Post ad k c (aX c names abW mk) (j9 c r pl s) M .non Q E->aak ad n [.ref k.a,r.d,iN pl] (wM ad k c (aX c names abW mk) s M) Q E
def PIf(ad:Ad)(k:Wk)(c:Cf)(names:abY)(abW:List Rw)(mk:Str)(n:Nat):Prop:=∀(x:Str)(a b:List Rw)(pl:abX)(s:Sx)(M:Mem)(Q:DK)(E:DX),eF names c.m c.pieces.length (.ifr x a b)->3*hR (.ifr x a b)<=n->pl.length+2*hR (.ifr x a b)+1<=1000->NOk names c.m s.nums->s.steps.length<=c.most->
 Post ad k c (aX c names abW mk) (j9 c (.ifr x a b) pl s) M .non Q E->aal ad n [.ref k.a,(Rw.ifr x a b).d,iN pl] (wM ad k c (aX c names abW mk) s M) Q E
def PAg(ad:Ad)(k:Wk)(c:Cf)(names:abY)(abW:List Rw)(mk:Str)(n:Nat):Prop:=∀(x:Str)(a:List Rw)(pl:abX)(s:Sx)(M:Mem)(Q:DK)(E:DX),eF names c.m c.pieces.length (.again x a)->3*hR (.again x a)<=n->pl.length+2*hR (.again x a)+1<=1000->NOk names c.m s.nums->s.steps.length<=c.most->
 Post ad k c (aX c names abW mk) (j9 c (.again x a) pl s) M .non Q E->aam ad n [.ref k.a,(Rw.again x a).d,iN pl] (wM ad k c (aX c names abW mk) s M) Q E
theorem Ds(X:COk c)(W:PD ad k c names abW mk n):CQ ad k c names abW mk (n+1):=by
 intro rs pl s M Q E p R H F B h;simp![Sr,zy,cj,jT]
 refine cE (λxs U M'=>∃(f:List Rw)(j:Nat)(G:Sx)(S O:Option D),xs=gg j (aH f)/\U=[ap _,ap _,ap _,S,O]/\M'=wM ad k c _ G M/\bf _ c.m _ f/\3*dA f+2<=n+1/\pl.length+2*dA f+2<=1000/\NOk _ _ G.nums/\G.steps.length<=c.most/\
  Post ad k c _ (cg c f pl j G) M _ Q E) (λ_ _ _ _=>aM) ?_ ?_ _ _ _ #[rs,0,s,_,_,rfl,rfl,rfl,p,R,H,F,B,h]
 .rintro U M' ⟨f,j,G,S,O,J,rfl,rfl,p,R,H,F,B,h⟩
  cases f with
  |nil=>exact ak (by simpa [cg] using h.1 (by simp[cg]))
  |cons r rs=>trivial
 rintro x xs U M' ⟨f,j,G,S,O,J,rfl,rfl,p,R,H,F,B,h⟩ D' P _ _ _
 cases f with
 |nil=>simp[aH,gg]at J
 |cons r f=>
  simp only[aH,gg,VQ]at J;obtain⟨rfl,rfl⟩:=J;simp only[bf]at p;have Y:hR r<=dA (r::f)/\dA f<=dA (r::f):=by simp only[dA];lia
  simp![iN,Vi,UM];refine#[bj (by decide),bj (by lia),?_]
  rw[gC];refine bH (r:=j9 c r (pl++[(j:Int)]) G) (d:=.non) (λQ' E' z=>W r (pl++[(j:Int)]) G M Q' E' p.1 (by lia) (by simp;lia) F B z) ?_
  simp only[cg]at h;cases I:(j9 c r (pl++[(j:Int)]) G).1 with
  |true=>
   rw[if_pos I]at h;refine#[λ_=>P _ _ #[f,j+1,_,_,_,rfl,rfl,rfl,p.2,by lia,by lia,rR X r p.1 _ _ F,(uv r _ _).2 B,h],λe=>by rw[I]at e;cases e]
  |false=>
   rw[if_neg (by rw[I];simp)]at h
   exact#[λe=>(by rw[I]at e;cases e),λ_=>eK (h.2 I)]
theorem G5(G:names.length<=1000)(I:COk c)(F:PIf ad k c names abW mk n)(H:PAg ad k c names abW mk n):PD ad k c names abW mk (n+1):=by
 intro r pl s M Q E p J B e f h;cases r with
 |ifr x a b=>
  simp![Fq,qC,Rw.d,atI_0];exact bH (λQ' E'=>F x a b pl s M Q' E' p (by lia) B e f) h.drp
 |again x a=>
  simp![Fq,qC,Rw.d,atI_0];exact bH (λQ' E'=>H x a pl s M Q' E' p (by lia) B e f) h.drp
 |_=>rw[cU rfl]at h;exact uG G I e (by assumption) h
theorem L7(O:COk c)(I:CQ ad k c names abW mk n):PIf ad k c names abW mk (n+1):=by
 intro x a b pl s M Q E p J G B F h;simp only[hR]at J G;simp![S2,BA,Rw.d,pP,lfl,atI_1,atI_2,atI_3];refine bH (λQ' E' z=>qP O B p.1 z) ?_;have hl:lk s.nums x=0\/lk s.nums x=1:=by unfold lk;split<;>simp
 have f:NOk names c.m (nt c pl (lk s.nums x) s).2.nums:=by rw[fW];exact B
 have e:=(nt_gr (pl:=pl) (v:=lk s.nums x)).2 F;unfold j9 at h;cases H:(nt c pl _ s).1 with
 |false=>
  rw[if_neg (by rw[H];simp)]at h
  exact#[by lia,λ_=>eK (h.2 H)]
 |true=>
  rw[if_pos H]at h;refine#[λ_=>?_,by lia]
  rcases hl with hl|hl
  .rw[hl]at h f e ⊢
   simp![atI_2,atI_3,iN,UM];refine#[bj (by decide),bj (by lia),?_]
   rw[gC];exact bH (λQ' E' z=>I b _ _ M Q' E' p.2.2 (by lia) (by simp;lia) f e z) h.drp
  .rw[hl]at h f e ⊢
   simp![atI_2,atI_3,iN,UM];refine#[bj (by decide),bj (by lia),?_]
   rw[gC];exact bH (λQ' E' z=>I a _ _ M Q' E' p.2.1 (by lia) (by simp;lia) f e z) h.drp
theorem xY(hc:COk c)(ih:CQ ad k c names abW mk n):PAg ad k c names abW mk (n+1):=by
 intro x a pl s M Q E J hn Z B I h;simp only[eF]at J;simp only[hR]at hn Z;refine#[c.most+1,?_];unfold j9 at h
 have X:∀(f t:Nat)(s:Sx)(P:fP)(S:au)(DD:DEnds)(b:BxW P S DD),NOk names c.m s.nums->s.steps.length<=c.most->c.most<s.steps.length+f->
   P=am (ai ck (aq<|dF ad.C_Walk "look" (qS ad) (aI E) 3 (ac 0)<|aa (ai aZ (ac 2)<|aS<|aa (ac 3) ag)<|aa (ai az (ac 1)<|dC<|.int 1) ag)<|dC<|.int 1)->
   S=ah (bg<|aj (aai ad n) (aI E) 3<|aa (ac 0)<|aa (ai az (ac 1)<|dC<|.int 2)<|aa (ai aZ (ac 2)<|aS<|aa (ac 3) ag) ag) (G4 3 (dC<|.int 1) rq)->
   DD.nx=(λ_ M'=>_3.drp Q .non M')->
   Post ad k c (aX c names abW mk) (fE c x pl (λt s=>cg c a (pl++[(t:Int)]) 0 s) f t s) M .non Q E->
   cC P S DD b f [ap (.ref k.a),ap (.tup [.str "again",.str x,.tup (aH a)]),ap (iN pl),ap (.int (t:Int))] (wM ad k c (aX c names abW mk) s M):=by
  intro f
  induction f with
  |zero=>intro t s P S DD b B I hf;lia
  |succ f ihf=>
   intro t s P S DD b B I hf Y W O h;unfold cC;subst Y;simp![pP,lfl,atI_1,iN,Vi,UM];refine#[bj (by decide),bj (by lia),?_]
   rw[gC];refine bH (d:=.int (lk s.nums x)) (λQ' E' z=>qP hc B J.1 z) ?_;have hl:lk s.nums x=0\/lk s.nums x=1:=by unfold lk;split<;>simp
   have G:NOk names c.m (nt c (pl++[(t:Int)]) (lk s.nums x) s).2.nums:=by rw[fW];exact B
   have p:=(nt_gr (c:=c) (pl:=pl++[(t:Int)]) (v:=lk s.nums x) (s:=s)).2 I;unfold fE at h;cases H:(nt c (pl++[(t:Int)]) (lk s.nums x) s).1 with
   |false=>
    rw[if_neg (by rw[H];simp)]at h
    exact#[λe=>(by rw[H]at e;cases e),λ_=>eK (h.2 H)]
   |true=>
    rw[if_pos H]at h;refine#[λ_=>?_,λe=>by rw[H]at e;cases e]
    have R:(nt c (pl++[(t:Int)]) (lk s.nums x) s).2.steps.length=s.steps.length+1:=by
     unfold nt at H ⊢
     split at H
     .rename_i q;rw[if_pos q];simp
     .cases H
    rcases hl with hl|hl
    .rw[hl]at h ⊢
     simp![show ((0:Int)=1)=False from eq_false (by decide)]
     rw[O];rw[hl]at H;exact ak (h.1 H)
    .rw[if_pos hl]at h
     rw[hl]at h G p R ⊢;simp![];subst W;simp![atI_2,iN,Vi,UM];refine#[bj (by decide),bj (by lia),?_]
     rw[gC];refine bH (λQ' E' z=>ih a (pl++[(t:Int)]) _ M Q' E' J.2 (by lia) (by simp;lia) G p z) ?_
     have hg:=fR (c:=c) a (pl++[(t:Int)]) 0 (nt c (pl++[(t:Int)]) 1 s).2;cases F:(cg c a (pl++[(t:Int)]) 0 (nt c (pl++[(t:Int)]) 1 s).2).1 with
     |true=>
      rw[if_pos F]at h;refine#[λ_=>?_,λe=>by rw[F]at e;cases e]
      simp![];exact ihf (t+1) _ _ _ _ _ (dG hc a J.2 _ _ _ G) (hg.2 p) (by have:=hg.1;lia) rfl rfl O h
     |false=>
      rw[if_neg (by rw[F];simp)]at h
      exact#[λe=>(by rw[F]at e;cases e),λ_=>eK (h.2 F)]
 exact X (c.most+1) 0 s _ _ _ _ B I (by lia) rfl rfl rfl h
theorem wv(e:names.length<=1000)(f:COk c):∀n:Nat,CQ ad k c names abW mk n/\PD ad k c names abW mk n/\PIf ad k c names abW mk n/\PAg ad k c names abW mk n
 |0=>#[λrs pl s M Q E _ h=>by lia,λr pl s M Q E _ h=>by lia,λx a b pl s M Q E _ h=>by simp[hR]at h;lia,λx a pl s M Q E _ h=>by simp[hR]at h;lia]
 |n+1=>by
  obtain⟨p,B,G,F⟩:=wv e f n;exact#[Ds f B,G5 e f G F,L7 f p,xY f p]
theorem xc:∀(names:abY)(nums:abX)(abS:cO),names.length=nums.length->(abS.map (·.1)++names).Nodup->
  ((names.map λx=>(Vr x:aD)).zip<|nums.map D.int).foldl (λa p=>eG a p.1 p.2) (eI abS)=eI (abS++names.zip nums)
 |[],nums,abS,_,_=>by simp
 |x::names,[],abS,h,_=>by simp at h
 |x::names,v::nums,abS,h,nd=>by
  have F:x∉abS.map (·.1):=by
   exact λG=>((W6.mp nd).2.2) x G x (by simp) rfl
  have f:((eI abS).any λH=>decide (H.1=Vr x))=false:=by
   rw[List.any_eq_false];intro p B;simp only[eI,UZ]at B;obtain⟨q,I,rfl⟩:=B;simp only[decide_eq_true_eq];intro e;exact F (by rw[<- (Sum.inr.inj e)];exact Vq I)
  simp;have J:eG (eI abS) (Vr x) (.int v)=eI (abS++[(x,v)]):=by
   unfold eG;rw[f];simp[eI]
  rw[J,xc _ _ _ (by simpa using h) (by simp_all)]
  simp
theorem eQ:∀names:List Str,eV (names.map D.str)=ap (names.map λx=>(Vr x:aD))
 |[]=>rfl
 |x::names=>by simp[eV,cP,eQ _]
theorem gQ(h:names.length=nums.length)(nd:names.Nodup):NR (names.map λx=>(Vr x:aD)) (nums.map D.int)=eI (names.zip nums):=by
 have:=xc _ _ [] h (by trivial)
 assumption
theorem dp1:b_ "plan" d []=[(("plan":Str),d)]:=rfl
theorem dp2{a:D}:b_ "numbers" d [(("plan":Str),a)]=[(("plan":Str),a),(("numbers":Str),d)]:=rfl
theorem dp3{a b:D}:b_ "pieces" d [(("plan":Str),a),(("numbers":Str),b)]=[(("plan":Str),a),(("numbers":Str),b),(("pieces":Str),d)]:=rfl
theorem dp4{a b:D}:b_ "most" d [(("plan":Str),a),(("numbers":Str),b),(("pieces":Str),e)]=[(("plan":Str),a),(("numbers":Str),b),(("pieces":Str),e),(("most":Str),d)]:=rfl
theorem dp5{a b g:D}:b_ "steps" d [(("plan":Str),a),(("numbers":Str),b),(("pieces":Str),e),(("most":Str),g)]=[(("plan":Str),a),(("numbers":Str),b),(("pieces":Str),e),(("most":Str),g),(("steps":Str),d)]:=rfl
noncomputable def bJ(nums pieces:abX):D:=.tup [.tup (nums.map D.int),.tup (pieces.map D.int)]
theorem DM{a:cp}(J:M a=ca)(F:names.length=nums.length)(H:names.Nodup)(I:0<names.length)(G:names.length<=1000)(h:∀(k:Wk),k.a=a->M k.dn=ca->M k.ls=ca->Q .non (wM ad k c (aX c names rows mk) #[names.zip nums,[]] M)):
  KA ad [.ref a,aX c names rows mk,bJ nums c.pieces,.int (c.most:Nat)] (M.upd a<|.ins ad.C_Walk []) Q E:=by
 simp![u_q5,LR,aX,bJ,Mem.upd_upd,atI_0,atI_1,eQ,UM,dp1];refine#[by decide,F,I,G,λdn p=>?_]
 have n1:=Mem.ne Mem.upd_same p;simp![ae n1,atI_1];refine#[by simp,?_]
 simp![dp2,dp3,aC (Vu n1),Mem.upd_upd];refine#[by simp,?_]
 refine#[by simp,by trivial,λls f=>?_]
 have n2:a≠ls:=by
  rintro rfl
  rw[ae n1,Mem.upd_same]at f;cases f
 have B:dn≠ls:=by
  intro e;simp_all
 simp![ae n2,ae n1,dp4,aC (Vu n1),Mem.upd_upd,gQ F H];refine#[by simp,ak ?_]
 have:=h #[a,dn,ls,n1,n2,B] rfl (by rw[ae (Vu n1)]at p;exact p) (by rw[ae (Vu B),ae (Vu n2)]at f;exact f)
 have e:wM ad #[a,dn,ls,n1,n2,B] c (aX c names rows mk) #[names.zip nums,[]] M=(((M.upd a<|.ins ad.C_Walk [("plan",aX c names rows mk),("numbers",.ref dn),("pieces",.tup (c.pieces.map D.int)),("most",.int c.most)]).upd dn<|.dK<|eI<|names.zip nums).upd ls<|.lst []).upd a (.ins ad.C_Walk [("plan",aX c names rows mk),("numbers",.ref dn),("pieces",.tup (c.pieces.map D.int)),("most",.int c.most),("steps",.ref ls)]):=by
  rw[aC (Vu n2),aC (Vu n1),Mem.upd_upd];rfl
 rw[e]at this;exact this
def dD(c:Cf)(names:abY)(rows:List Rw)(nums:abX):Bool×Sx:=cg c rows [] 0 #[names.zip nums,[]]
def dL(names:abY)(r:Bool×Sx):D:=if r.1=true then .tup (names.map λx=>.int (nm r.2.nums x)) else .non
structure PlOk(c:Cf)(names:abY)(rows:List Rw)(nums:abX):Prop where
 co:COk c
 ln:names.length=nums.length
 nd:names.Nodup
 l0:0<names.length
 l1:names.length<=1000
 rng:∀v∈nums,0<=v/\v<c.m
 ok:bf names c.m c.pieces.length rows
 h:dA rows<=7
theorem gZ:∀{names:abY}{nums:abX},names.length=nums.length->(names.zip nums).map (·.1)=names
 |[],[],_=>rfl
 |[],_::_,h=>by simp at h
 |_::_,[],h=>by simp at h
 |x::xs,v::vs,h=>by simp[gZ (by simpa using h)]
theorem PlOk.nok(p:PlOk c names rows nums):NOk names c.m (names.zip nums):=#[gZ p.ln,λq e=>p.rng _ (WV e).2]
theorem Fg(p:PlOk c names rows nums)(h:∀l,M l=ca->Q (.tup [.ref l,dL names (dD c names rows nums)]) (M.upd l<|.lst<|xS (dD c names rows nums).2.steps)):
  wq ad [aX c names rows mk,bJ nums c.pieces,.int (c.most:Nat)] M Q E:=by
 simp![T3,CB];intro a Z;refine ar λQ' E' W _=>DM Z p.ln p.nd p.l0 p.l1 λk hk J G=>W _ _ ?_;subst hk;have f:∀(S:Sx),∀b o,(M.upd k.ls<|.lst<|xS S.steps) b=ap o->wM ad k c (aX c names rows mk) S M b=ap o:=by
  intro S b o e
  by_cases I:b=k.ls
  .subst I;rw[Mem.upd_same]at e;rw[O4];exact e
  .rw[ae I]at e
   have h2:b≠k.dn:=by rintro rfl;rw[J]at e;cases e
   have h3:b≠k.a:=by rintro rfl;rw[Z]at e;cases e
   unfold wM;rw[ae I,ae h2,ae h3];exact e
 have Y:=(wv (ad:=ad) (k:=k) (abW:=rows) (mk:=mk) p.l1 p.co 24).1 rows [] #[names.zip nums,[]] M;unfold aX at Y;simp![aX,atI_3];refine#[bj (by decide),?_]
 refine ar λQ2 E2 O X=>Y Q2 E2 p.ok (by have:=p.h;lia) (by have:=p.h;simp;lia) p.nok (W2 _) #[λe=>O _ _ ?_,λe=>X _ _ #[rfl,?_]]
 .have hn:NOk names c.m (dD c names rows nums).2.nums:=dG p.co rows p.ok [] 0 #[names.zip nums,[]] p.nok
  have P:(dD c names rows nums).1=true:=e;simp![pP,lf4,atI_1,aV]
  refine bQ (λxs abS U M'=>∃n1 n2 H,names=n1++n2/\xs=n2.map D.str/\abS=n1.map (λx=>D.int (nm (dD c names rows nums).2.nums x))/\U=[H,ap (.ref k.a)]/\M'=wM ad k c (aX c names rows mk) (dD c names rows nums).2 M)
   (λ_ _ _ _ _=>aM) ?_ ?_ ?_ _ _ _ _ #[[],names,ca,rfl,rfl,rfl,rfl,rfl]
  .rintro abS U M' ⟨n1,n2,H,B,F,rfl,rfl,rfl⟩
   have:n2=[]:=by cases n2 with|nil=>rfl|cons _ _=>simp at F
   subst this;intro q W;simp![Mem.upd_upd,Mem.upd_del,aw W];refine#[bj (by decide),#[_,f _,?_]]
   have:=h k.ls G;unfold dL at this;rw[if_pos P]at this;have en:n1=names:=by simpa using B.symm
   rw[en];exact this
  .rintro x xs abS U M' ⟨n1,n2,H,B,F,rfl,rfl,rfl⟩ N hN _
   cases n2 with
   |nil=>simp at F
   |cons y n2=>
    simp only[UR,VQ]at F;obtain⟨rfl,rfl⟩:=F;have hy:y∈names:=by rw[B];simp
    simp![pP,Cn,Ji,cy,(hn.at hy).1,VV];refine hN _ _ _ ?_ #[n1++[y],n2,_,by simp[B],rfl,by simp,rfl,rfl]
    have R:=congrArg We B;have:=p.l1;simp at R ⊢;exact gn (by lia)
  .rintro x xs abS U M' ⟨n1,n2,H,B,F,rfl,rfl,rfl⟩
   have R:=congrArg We B;have:=p.l1;simp at R ⊢;exact gn (by lia)
 .have P:(dD c names rows nums).1=false:=e
  simp![pP,lf4];refine#[bj (by decide),#[_,f _,?_]]
  have:=h k.ls G;unfold dL at this;rw[if_neg (by rw[P];simp)]at this
  exact this
structure Pt where
 p:cp
 q:cp
 ne:p≠q
def Has(k:Pt)(M:Mem):Prop:=∃(cells:abX)(t h sd:Int),cells.length<=63/\M k.p=ap (.lst [.ref k.q,.int t,.int h,.int sd])/\M k.q=ap (.lst<|cells.map D.int)
def Dr(k:Pt)(M M':Mem):Prop:=Has k M'/\∀b,b≠k.p->b≠k.q->M' b=M b
theorem Has.refl(h:Has k M):Dr k M M:=#[h,by lia]
theorem Dr.trans{M1 M2:Mem}(a:Dr k M M1)(b:Dr k M1 M2):Dr k M M2:=#[b.1,λx e f=>(b.2 x e f).trans (a.2 x e f)]
theorem Has.nep(h:Has k M)(F:M l=ca):l≠k.p/\l≠k.q:=by
 obtain⟨e,t,hh,sd,_,f,B⟩:=h;exact#[by lia,by lia]
theorem Has.upd(h:Has k M)(f:l≠k.p/\l≠k.q):Has k (M.upd l o):=by
 obtain⟨e,t,hh,sd,F,B,G⟩:=h;exact#[_,t,hh,sd,F,by rw[ae (Vu f.1)];exact B,by rw[ae (Vu f.2)];exact G]
theorem Has.del(h:Has k M)(f:l≠k.p/\l≠k.q):Has k (M.del l):=by
 obtain⟨e,t,hh,sd,F,B,G⟩:=h;exact#[_,t,hh,sd,F,by unfold Mem.del;rw[if_neg (Vu f.1)];exact B,by unfold Mem.del;rw[if_neg (Vu f.2)];exact G]
theorem Dr.none{k:Pt}(f:Has k M)(h:Dr k M M')(e:M l=ca):M' l=none:=by
 have:=f.nep e;rw[h.2 l this.1 this.2];exact e
theorem kJ:∀(n:Nat)(e:abX),fits n (e.map D.int)=true
 |_,[]=>by rfl
 |n,c::e=>by
  rw[UR];unfold fits;rw[kJ n e];rfl
theorem jS(h:∀r,Q (.int r) M):ot ad [.int a,.int b] M Q E:=by
 simp![Sq,BF];refine#[.inr (by decide),.inr (by decide),by decide,by trivial,.inr (by decide),by decide,by trivial,ak<|h _]
theorem J3{x:α}{xs:List α}:fH (x::xs) 0=ap x:=by rfl
theorem vU(h:0<m):0<=a % m/\a % m<m:=#[VW _ (by lia),VX _ h]
theorem gy{i:Int}(h:0<=i)(e:i<n):uR n i=ap i.toNat:=by unfold uR;simp_all
theorem ix0:uR (n+1) 0=ap 0:=gy (by decide) (by lia)
theorem Ub:uR 4 2=ap 2:=rfl
theorem cI{s u:au}(h:s { D0 with nx:=u D0 } U M):ah s u D0 U M:=h
theorem LY{k:Pt}(e:U[0]?=ap (ap<|.ref k.p))(f:M k.p=ap (.lst [.ref k.q,.int t,.int hh,.int sd]))(h:D0.nx U (M.upd k.p<|.lst [.ref k.q,.int (t+1),.int hh,.int sd])):
  ao (ai aZ (ai az (ac 0)<|dC<|.int 1)<|dC<|.int 1) (cZ (ac 0)<|dC<|.int 1) D0 U M:=by
 simp![e,f,atI_1];exact h
theorem CS{k:Pt}(e:0<many)(I:many<2 ^ 62)(h:M k.p=ap (.lst [.ref k.q,.int t,.int hh,.int sd]))(F:∀r,D0.rt (.int<|r % many) M)(H:D0.rt (.int<|hh % many) (M.upd k.p<|.lst [.ref k.q,.int t,.int (hh / many),.int sd])):
  (ah (aJ (am<|ai ck (ai az (ac 0)<|dC<|.int 2)<|dC<|.int 0) (aB<|ai dH (aq<|aj (ot ad) EE 2<|aa (ai az (ac 0)<|dC<|.int 3)<|aa (ai az (ac 0)<|dC<|.int 1) ag)<|ac 1) aE)
  (ah (ao (ai dH (ai az (ac 0)<|dC<|.int 2)<|ac 1)<|af 3)
  (ah (ao (ai fG (ai az (ac 0)<|dC<|.int 2)<|ac 1)<|cZ (ac 0)<|dC<|.int 2)
  (aB<|ac 3)))) D0 [ap (.ref k.p),ap (.int many),G,ca] M:=by
 simp![h,atI_1,atI_2,atI_3]
 by_cases f:hh=0
 .rw[if_pos f]
  refine ar λQ' E' B _=>jS λr=>B _ _ ?_;simp![];exact#[e,F r]
 .rw[if_neg f]
  simp![h,Ub];exact#[e,#[e,by lia],H]
theorem Mc{k:Pt}(P:0<many)(h:M k.p=ap (.lst [.ref k.q,.int t,.int hh,.int sd]))(G:M k.q=ap (.lst<|cells.map D.int))(R:D0.nx [ap (.ref k.p),ap (.int many),ca,ca] M)(J:∀c cs,hh=0->cells=c::cs->∀r,D0.rt (.int<|r % many) (M.upd k.q<|.lst<|cs.map D.int))(O:∀c cs,hh=0->cells=c::cs->¬c<10 ^ Yi 18->D0.nx [ap (.ref k.p),ap (.int many),ap (.int c),ca] ((M.upd k.q<|.lst<|cs.map D.int).upd k.p<|.lst [.ref k.q,.int t,.int c,.int sd])):
  aJ (p_ (am<|ai ck (ai az (ac 0)<|dC<|.int 2)<|dC<|.int 0)<|am<|ai km (ai az (ac 0)<|dC<|.int 0)<|aq<|bO ag) (ah (ao (j_ "list" E8 (ai az (ac 0)<|dC<|.int 0)<|aa (dC<|.int 0) ag)<|af 2)
   (ah (aJ (am<|ai EU (ac 2)<|ai Pu (dC<|.int 10)<|dC<|.int 18) (aB<|ai dH (aq<|aj (ot ad) EE 2<|aa (ac 2)<|aa (ai az (ac 0)<|dC<|.int 1) ag)<|ac 1) aE)
   (ao (ac 2)<|cZ (ac 0)<|dC<|.int 2))) aE D0 [ap (.ref k.p),ap (.int many),ca,ca] M:=by
 simp![h,atI_2,J3]
 by_cases e:hh=0
 .rw[if_pos e]
  refine#[by trivial,λp B=>?_]
  simp[aw B,G];cases cells with
  |nil=>
   trivial
  |cons c cs=>
   have H:∀F,(M.upd _ F) _=ap _:=λF=>by rw[ae k.ne,h]
   simp![Mem.upd_del,aw B,J3,h,G,H,kJ,ix0,atI_1];refine#[by trivial,?_]
   by_cases f:c<10 ^ Yi 18
   .rw[if_pos f]
    exact ar λQ' E' I _=>jS λr=>I _ _ #[P,J c cs e rfl r]
   rw[if_neg f];exact O c cs e rfl f
 simp_all
theorem kt(hp:Has k M)(J:0<many)(S:many<2 ^ 62)(h:∀r M',0<=r->r<many->Dr k M M'->Q (.int r) M'):
  ba ad [.ref k.p,.int many] M Q E:=by
 obtain⟨B,t,hh,sd,I,e1,X⟩:=hp;have f:=k.ne;have fin:∀(r:Int)(M':Mem)(cells':List _)(P G H:Int),cells'.length<=63->(∀b,b≠k.p->b≠k.q->M' b=M b)->M' k.p=ap (.lst [.ref k.q,.int P,.int G,.int H])->M' k.q=ap (.lst<|cells'.map D.int)->drp Q (.int<|r % many) M':=by
  intro r M' cells' P G H Z W Y a4;exact ak (h _ _ (vU J).1 (vU J).2 #[#[_,P,_,_,Z,Y,a4],W])
 have g1:∀o,(M.upd _ o) _=ap _:=λo=>by rw[ae (Vu f)];exact X
 refine cI (LY rfl e1 ?_);refine cI (Mc J Mem.upd_same (g1 _) ?_ (λc O ez R r=>?_) λc O ez R hb=>?_)
 .exact CS J S Mem.upd_same (λr=>(fin _ _ B _ _ _ I (λb e F=>ae e) Mem.upd_same<|g1 _)) (fin _ _ B _ _ _ I (λb e F=>by rw[ae e,ae e]) Mem.upd_same<|by rw[ae (Vu f),g1])
 .subst R
  exact fin _ _ O _ _ _ (by simp at I;lia) (λb e F=>by rw[ae F,ae e]) (by rw[ae f,Mem.upd_same]) Mem.upd_same
 .subst R
  exact CS J S Mem.upd_same (λr=>(fin _ _ O _ _ _ (by simp at I;lia) (λb e F=>by rw[ae e,ae F,ae e]) Mem.upd_same<|by rw[ae (Vu f),Mem.upd_same])) (fin _ _ O _ _ _ (by simp at I;lia) (λb e F=>by rw[ae e,ae e,ae F,ae e]) Mem.upd_same<|by rw[ae (Vu f),ae (Vu f),Mem.upd_same])
theorem Mn{xs:List D}{k:Nat}:nM xs ca (ap (k:Int))=xs.take k:=by
 unfold nM;rw[HT.Iu,HT.KW]
 simp_all
theorem HP(h:∀(k:Pt) M',Has k M'->(∀b,b≠k.p->b≠k.q->M' b=M b)->Q (.ref k.p) M'):CA ad [.ml (ns.map D.int)] M Q E:=by
 have f:nM (ns.map D.int) ca (ap 63)=(ns.take 63).map D.int:=by rw[List.map_take];exact Mn
 simp![UB,C_,cj,f];intro a O;refine cE (λxs U M'=>∃(B:List _)(sd:Int)(F:Option D),xs=B.map _/\U=[ap _,ap (.int sd),F]/\M'=M) (λ_ _ _ _=>aM) ?_ ?_ _ _ _ #[_,7,_,rfl,rfl,by rw[Mem.upd_del,aw O]]
 .rintro U M' ⟨B,sd,F,_,rfl,rfl⟩
  simp![f];intro b P;rw[Mem.upd_del,aw P];intro q S;refine#[by trivial,λp R=>?_]
  have ne:p≠q:=by intro e;simp_all
  refine ak (h #[p,q,ne] _ #[ns.take 63,0,0,sd,by simp;lia,Mem.upd_same,?_] λb I J=>?_)
  .rw[ae (Vu ne),Mem.upd_same]
  rw[ae I,ae J]
 rintro x xs U M' ⟨B,sd,F,H,rfl,rfl⟩ D' G _ _ _
 cases B with
 |nil=>simp at H
 |cons c B=>
  simp at H;obtain⟨rfl,rfl⟩:=H;simp![];exact#[.inr (by decide),by decide,G _ _<|by lia]
noncomputable def alpha:Str:="abcdefghijklmnopqrstuvwxyz"
theorem Gd:∀i<26,alpha.cps.toList[i]?=ap (97+i):=by decide +kernel
theorem E9:alpha.length<=sizeLine:=Vb (show alpha.length<=100 by trivial) (by decide)
theorem vi(F:names.length<=12)(h:∀(j:Nat)(p:j<names.length),names[j].cps[0]?=ap (97+(t+7*j) % 26)):names.Nodup:=by
 refine Zh.mpr λi j B p f e=>?_
 grind
def vA(x:Str):Prop:=∃(n c:Nat),1<=n/\n<=8/\97<=c/\c<=122/\x=#[Wv n c]
theorem y3{many:Nat}(hp:Has k M)(h1:many<=12)(h:∀(names:abY)(M':Mem),names.length=many->names.Nodup->(∀x∈names,vA x)->Dr k M M'->Q (.tup<|names.map D.str) M'):Bt ad [.ref k.p,.int many] M Q E:=by
 simp![UI,Ao,cj];refine ar λQ' E' hq _=>kt hp (by decide) (by decide) λturn M1 t0 t1 P=>hq _ _ ?_
 simp![];refine#[bj (by decide),λl hl=>?_]
 have f:=P.1.nep hl;refine#[by lia,by lia,?_]
 obtain⟨t,rfl⟩:=ZI t0
 refine cE (λxs U M'=>∃(j:Nat)(abS:abY)(W X:Option D),j<=many/\xs=(W0 j (many-j)).map (λ(i:Nat)=>D.int (0+(i:Int)))/\U=[ap (.ref k.p),ap (.int (many:Nat)),ap (.int (t:Nat)),ap (.ref l),W,X]/\abS.length=j/\(∀(i:Nat)(O:i<abS.length),abS[i].cps[0]?=ap (97+(t+7*i) % 26))/\(∀x∈abS,vA x)/\
  Has k M'/\M' l=ap (.lst<|abS.map D.str)/\∀b,b≠k.p->b≠k.q->b≠l->M' b=M1 b) (λ_ _ _ _=>aM) ?_ ?_ _ _ _ #[0,[],ca,ca,W2 _,?_,rfl,rfl,?_,by simp,P.1.upd f,Mem.upd_same,λb _ _ hb=>ae hb]
 .rintro U M' ⟨j,abS,W,X,hj,e,rfl,R,hf,B,hh,J,hs⟩
  have:j=many:=by
   have:=congrArg We e;simp at this;lia
  subst this;simp![J];refine#[M'.del l,λb o e=>?_,h abS _ R (vi (by lia) hf) B #[hh.del f,λb H G=>?_]]
  .unfold Mem.del at e;split at e
   .cases e
   .exact e
  .unfold Mem.del
   split
   .rename_i e;subst e;rw[<- P.2 b H G];exact hl.symm
   .rename_i e;rw[hs b H G e,P.2 b H G]
 .rintro x xs U M' ⟨j,abS,W,X,hj,e,rfl,R,hf,B,hh,J,hs⟩ D' Y _ _ _
  have hjl:j<many:=by
   have:=congrArg We e;simp at this;lia
  obtain⟨n,hn⟩:∃n,many-j=n+1:=#[many-j-1,by lia]
  rw[hn,List.range'_succ,UR,VQ]at e;obtain⟨rfl,rfl⟩:=e;have F:fH alpha.cps.toList (((t:Nat)+7*(0+(j:Int))) % 26)=ap (97+(t+7*j) % 26):=by
   have:(((t:Nat):Int)+7*(0+(j:Int))) % 26=(((t+7*j) % 26:Nat):Int):=by lia
   rw[this,bE (by lia),Vj,Gd _ (by lia)]
  simp only[alpha]at F;simp![F,J];refine#[.inl (by decide),by decide,E9,?_]
  refine ar λQ' E' hq _=>kt hh (by decide) (by decide) λr M2 r0 r1 S=>hq _ _ ?_
  have Z:M2 l=ap (.lst<|abS.map D.str):=by rw[S.2 l f.1 f.2];exact J
  simp![Z];refine#[by lia,by lia,by simp;exact gn (by lia),Y _ _ #[j+1,abS++[#[Wv (1+r).toNat (97+(t+7*j) % 26)]],_,_,by lia,?_,rfl,by simp[R],?_,?_,S.1.upd f,?_,?_]]
  .rw[show many-(j+1)=n by lia]
  .intro i O
   by_cases I:i<abS.length
   .rw[List.getElem_append_left I];exact hf i I
   .have:i=abS.length:=by simp at O;lia
    subst this;rw[List.getElem_append_right (UX _)]
    simp_arith! only[Nat.sub_self,List.getElem_cons_zero]
    rw[Array.getElem?_replicate,if_pos (by lia),R]
  .intro x hx
   rcases Vs.mp hx with hx|hx
   .exact B x hx
   .simp at hx;subst hx
    exact#[(1+r).toNat,97+(t+7*j) % 26,by lia,by lia,by lia,by lia,rfl]
  .rw[Mem.upd_same];simp
  .intro b H G b3
   rw[ae b3,S.2 b H G,hs b H G b3]
 .simp[cG,WH]
 .intro i O;simp at O
@[simp] theorem atI_5{xs:List α}:fH xs 5=xs[5]?:=bE (by decide)
@[simp] theorem atI_6{xs:List α}:fH xs 6=xs[6]?:=bE (by decide)
@[simp] theorem atI_7{xs:List α}:fH xs 7=xs[7]?:=bE (by decide)
@[simp] theorem atI_8{xs:List α}:fH xs 8=xs[8]?:=bE (by decide)
theorem m4{r:Int}(f:0<=r)(h:r<names.length):∃y,y∈names/\fH (names.map D.str) r=ap (.str y):=by
 have e:r.toNat<names.length:=by lia
 refine#[_,X1 e,?_];rw[bE f,UT,UO e];rfl
structure ToldOk(names:abY)(m many:Int):Prop where
 m2:2<=m
 m1:m<=997
 n0:0<names.length
 n1:names.length<=12
 k0:0<=many
 k1:many<=40
noncomputable def kP(names:abY)(m many:Int):D:=.tup [.int m,.tup (names.map D.str),.int many]
theorem aP{b:BxQ EE Q}(F:Has k M)(B:0<many)(f:many<2 ^ 62)(h:∀r M',0<=r->r<many->Dr k M M'->Q (.int r) M'):calls (ba ad) EE [.ref k.p,.int many] M Q b:=
 ar λQ' E' e _=>kt F B f λr M' G H d=>e _ _ (by simp_all)
theorem Q9(h:te U M λd M1=>D0.nx (U.set i<|some d) M1):ao te (af i) D0 U M:=h
theorem II(h:U[i]?=ap (ap d))(e:K d M):ac i U M K:=by simp_arith! only[ac,h];exact e
theorem yz{c:Str}(h:U[i]?=ap (ap<|.str w))(f:w=c->A D0 U M)(p:w≠c->B D0 U M):aJ (am<|ai ck (ac i)<|dC<|.str c) A B D0 U M:=by
 have e:aJ (am<|ai ck (ac i)<|dC<|.str c) A B D0 U M=(if w=c then A D0 U M else B D0 U M):=by
  simp[aJ,am,ai,ac,dC,ck,bz,dv,aQ,h,Qu,qy]
 rw[e]
 by_cases q:w=c
 .rw[if_pos q];exact f q
 rw[if_neg q];exact p q
theorem Pw(f:U[0]?=ap (ap<|.ref k.p))(e:∀K:DK,K (.int v) M->te U M K)(B:Has k M)(v0:0<v)(v1:v<2 ^ 62)(h:∀r M',0<=r->r<v->Dr k M M'->K (.int r) M'):
  aj (ba ad) EE 2 (aa (ac 0)<|aa te ag) U M K:=by
 simp_arith! only[aj,aa,ac,ag,f]
 refine e _ ?_;exact#[rfl,aP B v0 v1 h]
theorem Mm(h:te U M λd M'=>frz d M' K):aq te U M K:=h
theorem N3(h0:U[0]?=ap (ap<|.ref k.p))(ht:∀K:DK,K (.int v) M->te U M K)(hp:Has k M)(v0:0<v)(v1:v<2 ^ 62)(h:∀r M',0<=r->r<v->Dr k M M'->K (.int r) M'):
  aq (aj (ba ad) EE 2<|aa (ac 0)<|aa te ag) U M K:=
 Mm (Pw h0 ht hp v0 v1<|by trivial)
theorem Qm(H:U[0]?=ap (ap<|.ref k.p))(e:U[i]?=ap (ap<|.tup<|names.map D.str))(I:Has k M)(J:0<names.length)(n1:names.length<=12)(h:∀x M',x∈names->Dr k M M'->K (.str x) M'):
  ai az (ac i) (aq<|aj (ba ad) EE 2<|aa (ac 0)<|aa (b6 bh<|aa (ac i) ag) ag) U M K:=by
 have B:∀K:DK,K (.int names.length) M->b6 bh (aa (ac i) ag) U M K:=λK G=>by
  simp![e,UM];exact G
 simp only[ai];refine II e (N3 H B I (by lia) (by lia) λr M' a b d=>?_)
 obtain⟨x,f,F⟩:=m4 a b;simp![F];exact h x M' f d
theorem Pr{a b:D}(f:U[i]?=ap (ap a))(e:U[j]?=ap (ap b))(h:te U M λd M'=>3<=sizeLine/\D0.rt (.tup [a,b,d]) M'):aB (aS<|aa (ac i)<|aa (ac j)<|aa te ag) D0 U M:=by
 simp_arith! only[aB,aS,aa,ac,f,e]
 exact h
theorem ret4{a b c:D}{l:Nat}(p:U[i]?=ap (ap a))(e:U[j]?=ap (ap b))(f:U[l]?=ap (ap c))(h:te U M λd M'=>4<=sizeLine/\D0.rt (.tup [a,b,c,d]) M'):aB (aS<|aa (ac i)<|aa (ac j)<|aa (ac l)<|aa te ag) D0 U M:=by
 simp_arith! only[aB,aS,aa,ac,p,e,f]
 exact h
theorem Jt{a:Option D}{s:Dl}(h:D0.nx (a::ap (kP names m many)::ap (.int m)::ap (.tup<|names.map D.str)::ap (.int many)::s) M){b c:Option D}:
  ao (ac 1) (dm 3<|aN (af 2)<|aN (af 3)<|aN (af 4) dg) D0 (a::ap (kP names m many)::b::c::d::s) M:=by
 trivial
noncomputable def waysL:List Str:=["put","sum","by","less","same","sum","put","take","pick"]
def NS(many:Int)(w:Str):Prop:=w="put"\/(w="sum"\/w="by"\/w="less"\/w="same")\/(0<many/\(w="take"\/w="pick"))
theorem Kh(h:D0.nx (U.set 5<|some<|.lst<|waysL.map D.str) M):
  ao (aq<|bO<|aa (dC<|.str "put")<|aa (dC<|.str "sum")<|aa (dC<|.str "by")<|aa (dC<|.str "less")<|aa (dC<|.str "same")<|aa (dC<|.str "sum")<|aa (dC<|.str "put")<|aa (dC<|.str "take")<|aa (dC<|.str "pick") ag) (af 5) D0 U M:=by
 simp![];refine#[by trivial,λp e=>?_]
 rw[Mem.upd_del,aw e];exact h
theorem Qg(r:Nat)(h:r<if 0<many then 9 else 7):∃w,fH (waysL.map D.str) (r:Int)=ap (.str w)/\NS many w:=by
 have f:r<9:=by lia
 have e:r=0\/r=1\/r=2\/r=3\/r=4\/r=5\/r=6\/r=7\/r=8:=by lia
 rcases e with rfl|rfl|rfl|rfl|rfl|rfl|rfl|rfl|rfl
 .exact#[_,rfl,.inl rfl]
 .exact#[_,rfl,.inr<|by lia]
 .exact#[_,rfl,.inr<|by lia]
 .exact#[_,rfl,.inr<|by lia]
 .exact#[_,rfl,.inr<|by lia]
 .exact#[_,rfl,.inr<|by lia]
 .exact#[_,rfl,.inl rfl]
 .exact#[_,rfl,.inr<|by lia]
 exact#[_,rfl,.inr<|by lia]
theorem wayE(G:U[0]?=ap (ap<|.ref k.p))(B:U[4]?=ap (ap<|.int many))(F:U[5]?=ap (ap<|.lst<|waysL.map D.str))(H:Has k M)(h:∀w M',NS many w->Dr k M M'->K (.str w) M'):
  ai az (ac 5) (aq<|aj (ba ad) EE 2<|aa (ac 0)<|aa (pq (am<|ai BY (ac 4)<|dC<|.int 0) (dC<|.int 9)<|dC<|.int 7) ag) U M K:=by
 have f:∀K:DK,K (.int (if 0<many then 9 else 7)) M->pq (am<|ai BY (ac 4)<|dC<|.int 0) (dC<|.int 9) (dC<|.int 7) U M K:=λK J=>by
  simp![B];lia
 refine II F (N3 G f H (by lia) (by split<;>decide) λr M' a b d=>?_)
 obtain⟨r,rfl⟩:=ZI a;obtain⟨w,e,I⟩:=Qg (many:=many) r (by split at b<;>(split<;>lia))
 simp![e]
 simp_all
theorem Hl(X:Has k M)(W:ToldOk names m many)(h:∀(r:Rw) M',cM names m many r->Dr k M M'->Q r.d M'):vm ad [.ref k.p,kP names m many] M Q E:=by
 obtain⟨Y,m1,B,n1,Z,k1⟩:=W;rw[SX];unfold D4;refine cI (Jt ?_);dsimp only;refine cI (Kh ?_);dsimp only;refine cI (Q9 (wayE rfl rfl rfl X λw M1 F d1=>?_));dsimp only;refine cI (Q9 (Qm rfl rfl d1.1 B n1 λx M2 f d2=>?_));dsimp only;refine cI (yz rfl (λe=>?_) λG=>?_)
 .subst e
  refine Pr rfl rfl (Pw rfl (λK q=>II rfl q) d2.1 (by lia) (by lia) λr M3 a b d3=>?_)
  exact#[bj (by decide),ak<|h (.put x r) M3 #[f,a,b]<|d1.trans<|d2.trans d3]
 dsimp only[aE];refine cI (yz rfl (λe=>?_) λO=>?_)
 .subst e
  have H:0<many:=by
   rcases F with e|(e|e|e|e)|e
   .exact(G e).elim
   .exact absurd e (by decide +kernel)
   .exact absurd e (by decide +kernel)
   .exact absurd e (by decide +kernel)
   .exact absurd e (by decide +kernel)
   .exact e.1
  refine Pr rfl rfl (Pw rfl (λK q=>II rfl q) d2.1 (by lia) (by lia) λr M3 a b d3=>?_)
  exact#[bj (by decide),ak<|h (.take x r) M3 #[f,a,b]<|d1.trans<|d2.trans d3]
 dsimp only[aE];refine cI (Q9 (Qm rfl rfl d2.1 B n1 λy M3 I d3=>?_));dsimp only;refine cI (yz rfl (λe=>?_) λS=>?_)
 .subst e
  have H:0<many:=by
   rcases F with e|(e|e|e|e)|e
   .exact(G e).elim
   .exact absurd e (by decide +kernel)
   .exact absurd e (by decide +kernel)
   .exact absurd e (by decide +kernel)
   .exact absurd e (by decide +kernel)
   .exact e.1
  exact Pr rfl rfl (II rfl #[bj (by decide),ak<|h (.pick x y) M3 #[f,I,H]<|d1.trans<|d2.trans d3])
 dsimp only[aE];have R:w="sum"\/w="by"\/w="less"\/w="same":=by
  rcases F with e|e|⟨_,e|e⟩
  .exact(G e).elim
  .exact e
  .exact(O e).elim
  .exact(S e).elim
 refine ret4 rfl rfl rfl (Qm rfl rfl d3.1 B n1 λz M4 P J=>?_);exact#[bj (by decide),ak<|h (.two w x y z) M4 #[R,f,I,P]<|d1.trans<|d2.trans<|d3.trans J]
mutual
def LnR:Rw->Prop
 |.ifr _ a b=>(a.length<=200/\gY a)/\b.length<=200/\gY b
 |.again _ a=>a.length<=200/\gY a
 |_=>True
def gY:List Rw->Prop
 |[]=>True
 |r::rs=>LnR r/\gY rs
end
theorem LnRs_append:∀{a b:List Rw},gY (a++b)↔gY a/\gY b
 |[],b=>by simp[gY]
 |r::a,b=>by simp[gY,LnRs_append,and_assoc]
mutual
noncomputable def cR:Rw->Nat
 |.ifr _ a b=>1+cRs a+cRs b
 |.again _ a=>1+cRs a
 |.put _ _=>1
 |.take _ _=>1
 |.pick _ _=>1
 |.two _ _ _ _=>1
noncomputable def cRs:List Rw->Nat
 |[]=>0
 |r::rs=>cR r+cRs rs
end
theorem dU:∀{a b:List Rw},cRs (a++b)=cRs a+cRs b
 |[],b=>by simp[cRs]
 |r::a,b=>by simp[cRs,dU];lia
theorem Tf(h:cM names m many r):cR r=1:=by
 cases r<;>trivial
def Rv(rm:cp)(M:Mem)(v:Int):Prop:=M rm=ap (.lst [.int v])/\0<=v
def Kp(k:Pt)(rm:cp)(M M':Mem):Prop:=Has k M'/\(∃v:Int,M' rm=ap (.lst [.int v]))/\∀b o,b≠k.p->b≠k.q->b≠rm->M b=ap o->M' b=ap o
theorem Kp.trans{M1 M2:Mem}(a:Kp k rm M M1)(b:Kp k rm M1 M2):Kp k rm M M2:=#[b.1,b.2.1,λx o p e f h=>b.2.2 x o p e f (a.2.2 x o p e f h)]
structure Rm(k:Pt)(rm:cp)(M:Mem):Prop where
 h:Has k M
 n1:rm≠k.p
 n2:rm≠k.q
 v:∃v:Int,M rm=ap (.lst [.int v])
theorem Rm.kp(r:Rm k rm M):Kp k rm M M:=#[r.h,r.v,by lia]
theorem Rm.go(r:Rm k rm M)(d:Kp k rm M M'):Rm k rm M':=#[d.1,r.n1,r.n2,d.2.1]
theorem Rm.dr(r:Rm k rm M)(d:Dr k M M'):Kp k rm M M':=#[d.1,by obtain⟨v,e⟩:=r.v;exact#[v,by rw[d.2 rm r.n1 r.n2];exact e],λb o f h _ e=>by rw[d.2 b f h];exact e]
theorem Rm.new(r:Rm k rm M)(f:M l=ca)(o:MO):Kp k rm M (M.upd l o):=by
 obtain⟨v,e⟩:=r.v;have b:=Mem.ne e f;exact#[r.h.upd (r.h.nep f),#[v,by rw[ae b];exact e],λc o _ _ _ e=>by rw[ae (Mem.ne e f)];exact e]
theorem Rm.set(r:Rm k rm M)(v:Int):Kp k rm M (M.upd rm<|.lst [.int v]):=
 #[r.h.upd #[r.n1,r.n2],#[v,Mem.upd_same],λc o _ _ h e=>by rw[ae h];exact e]
def PRo(ad:Ad)(k:Pt)(rm:cp)(names:abY)(m many:Int)(n:Nat):Prop:=∀(deep:Nat)(most:Int)(M:Mem)(Q:DK)(E:DX),deep<=4->2*(4-deep)+1<=n->0<most->most<=30->Rm k rm M->∀v:Int,Rv rm M v->
 (∀(rs:List Rw)(M':Mem),(∃v',Rv rm M' v'/\(cRs rs:Int)+v'<=v)->bf names m many rs/\gY rs->dA rs+deep<=4->rs.length<=100->Kp k rm M M'->Q (.tup<|aH rs) M')->aag ad n [.ref k.p,kP names m many,.ref rm,.int deep,.int most] M Q E
def PBl(ad:Ad)(k:Pt)(rm:cp)(names:abY)(m many:Int)(n:Nat):Prop:=∀(deep:Nat)(M:Mem)(Q:DK)(E:DX),deep<4->2*(4-deep)<=n->Rm k rm M->∀v:Int,Rv rm M v->
 (∀(rs:List Rw)(l:cp)(M':Mem),(∃v',Rv rm M' v'/\(cRs rs:Int)+v'<=v+4)->bf names m many rs/\gY rs->dA rs+deep<=4->rs.length<=3->Kp k rm M M'->M' l=ca->Q (.ref l) (M'.upd l<|.lst<|aH rs))->aah ad n [.ref k.p,kP names m many,.ref rm,.int deep] M Q E
theorem OkRs_append:∀{a b:List Rw},bf names m many (a++b)↔bf names m many a/\bf names m many b
 |[],b=>by simp[bf]
 |r::a,b=>by simp[bf,OkRs_append,and_assoc]
theorem dY:∀{a b:List Rw},dA (a++b)=max (dA a) (dA b)
 |[],b=>by simp[dA]
 |r::a,b=>by simp[dA,dY]
theorem bZ:∀{a b:List Rw},aH (a++b)=aH a++aH b
 |[],b=>rfl
 |r::a,b=>by simp[aH,bZ]
theorem cc:∀{a:List Rw},(aH a).length=a.length
 |[]=>rfl
 |r::a=>by simp[aH,cc]
theorem R0(h:cM names m many r):eF names m many r:=by
 cases r<;>trivial
theorem Sw(h:cM names m many r):hR r=0:=by
 cases r<;>trivial
theorem OZ(h:cM names m many r):LnR r:=by
 cases r with
 |ifr=>exact h.elim
 |again=>exact h.elim
 |_=>trivial
theorem yF(ht:ToldOk names m many)(ih:PRo ad k rm names m many n):PBl ad k rm names m many (n+1):=by
 intro e M Q E hd hn r v rv h;obtain⟨m2,m1,n0,n1,k0,k1⟩:=ht;have dd:e+1=(e+1:Nat):=by lia
 simp![T0,zQ,kP,UM];refine aP r.h (by lia) (by lia) λr1 M1 a1 b1 J=>?_
 have R1:=r.go (r.dr J);have W:Rv rm M1 v:=#[by rw[J.2 rm r.n1 r.n2];exact rv.1,rv.2]
 obtain⟨x,p,ex⟩:=m4 a1 b1;simp![ex];refine ar λQ' E' X _=>ih (e+1) 5 M1 Q' E' (by lia) (by lia) (by decide) (by decide) R1 v W λfirst M2 c2 B h2 l2 d2=>X _ _ ?_
 obtain⟨v2,F,c2⟩:=c2;have R2:=R1.go d2;simp![];refine aP R2.h (by decide) (by decide) λw M3 a3 b3 O=>?_
 have R3:=R2.go (R2.dr O);have f:Rv rm M3 v2:=#[by rw[O.2 rm r.n1 r.n2];exact F.1,F.2]
 simp![dd]
 by_cases hw:w<2
 .rw[if_pos hw]
  refine ar λQ' E' X _=>ih (e+1) 5 M3 Q' E' (by lia) (by lia) (by decide) (by decide) R3 v2 f λP M4 Y Z h4 l4 H=>X _ _ ?_
  obtain⟨v4,R,Y⟩:=Y;simp![];refine#[bj (by decide),bj (by decide),λl G=>ak (h [.ifr x _ _] l M4 #[v4,R,by simp[cRs,cR];lia] ?_ ?_ (by simp) ((r.dr J).trans<|d2.trans<|(R2.dr O).trans H) G)]
  .exact#[#[#[p,B.1,Z.1],trivial],#[#[by lia,B.2],by lia,Z.2],trivial]
  simp only[dA,hR];lia
 rw[if_neg hw]
 by_cases I:w=2
 .rw[if_pos I]
  refine#[bj (by decide),bj (by decide),λl G=>ak (h [.again x first] l M3 #[v2,f,by simp only[cRs,cR];lia] ?_ ?_ (by simp) ((r.dr J).trans<|d2.trans<|R2.dr O) G)]
  .simp only[bf,eF,gY,LnR];exact#[#[#[p,B.1],trivial],#[by lia,B.2],trivial]
  .simp only[dA,hR];lia
 .rw[if_neg I]
  simp only[UM];refine aP R3.h (by lia) (by lia) λr4 M4 a4 b4 H=>?_
  have R4:=R3.go (R3.dr H);obtain⟨y,hy,ey⟩:=m4 a4 b4;simp![ey];refine aP R4.h (by split<;>lia) (by split<;>lia) λr5 M5 a5 b5 d5=>?_
  have S:r5<m:=by split at b5<;>lia
  simp![];refine#[bj (by decide),bj (by decide),bj (by decide),bj (by decide),bj (by rw[cc];lia),bj (by decide),bj (by decide),λl G=>ak ?_]
  have:=h [.put x r5,.put y (m-1),.again x (first++[.two "sum" x x y])] l M5 #[v2,#[by rw[d5.2 rm r.n1 r.n2,H.2 rm r.n1 r.n2];exact f.1,f.2],by simp only[cRs,cR,dU];lia] ?_ ?_ (by simp) ((r.dr J).trans<|d2.trans<|(R2.dr O).trans<|(R3.dr H).trans<|R4.dr d5) G
  .simp only[aH,Rw.d,bZ]at this
   exact this
  .simp only[bf,eF,cM,OkRs_append,gY,LnR,LnRs_append]
   exact#[#[#[p,a5,S],#[hy,by lia,by lia],#[p,B.1,#[.inl trivial,p,p,hy],trivial],trivial],trivial,trivial,#[by simp;lia,B.2,trivial,trivial],trivial]
  .simp only[dA,hR,dY];lia
theorem Tx:frz r.d M Q=Q r.d M:=by cases r<;>rfl
theorem AJ{c:Int}(f:U[2]?=ap (ap<|.ref rm))(e:M rm=ap (.lst [.int v]))(h:D0.nx U (M.upd rm<|.lst [.int (v-c)])):
  ao (ai fc (ai az (ac 2)<|dC<|.int 0)<|dC<|.int c) (cZ (ac 2)<|dC<|.int 0) D0 U M:=by
 simp![f,e,J3];exact h
theorem RB(P:U[0]?=ap (ap<|.ref k.p))(R:U[2]?=ap (ap<|.ref rm))(J:U[3]?=ap (ap<|.int deep))(F:Has k M)(O:M rm=ap (.lst [.int v]))(I:∀M',4<v->deep<4->Dr k M M'->A D0 U M')(h:∀M',Dr k M M'->B D0 U M'):
  aJ (p_ (am<|ai BY (ai az (ac 2)<|dC<|.int 0)<|dC<|.int 4)<|p_ (am<|ai EU (ac 3)<|dC<|.int 4)<|am<|ai ck (aq<|aj (ba ad) EE 2<|aa (ac 0)<|aa (dC<|.int 4) ag)<|dC<|.int 0) A B D0 U M:=by
 simp![P,R,J,O,J3]
 by_cases e:4<v
 .rw[if_pos e]
  by_cases f:deep<4
  .rw[if_pos f]
   refine aP F (by decide) (by decide) λw M2 S W G=>?_
   simp![]
   by_cases H:w=0
   .rw[if_pos H];exact I _ e f G
   rw[if_neg H];exact h _ G
  rw[if_neg f];exact h _ F.refl
 rw[if_neg e];exact h _ F.refl
theorem Ku(f:U[2]?=ap (ap<|.ref rm))(e:M rm=ap (.lst [.int v]))(p:0<v->A D0 U M)(h:D0.nx U M):
  aJ (am<|ai BY (ai az (ac 2)<|dC<|.int 0)<|dC<|.int 0) A aE D0 U M:=by
 simp![f,e,J3]
 simp_all
theorem Ly(P:U[0]?=ap (ap<|.ref k.p))(O:U[1]?=ap (ap<|kP names m many))(I:U[5]?=ap (ap<|.ref l))(R:Has k M)(J:ToldOk names m many)(n1:l≠k.p)(n2:l≠k.q)(F:M l=ap (.lst<|aH abS))(S:abS.length<=1000)(h:∀(r:Rw) M',cM names m many r->Dr k M M'->D0.nx U (M'.upd l<|.lst (aH abS++[r.d]))):
  bg (j_ "list" bu (ac 5)<|aa (aq<|aj (vm ad) EE 2<|aa (ac 0)<|aa (ac 1) ag) ag) D0 U M:=by
 simp![P,O,I,F];refine ar λQ' E' G _=>Hl R J λH M3 e B=>G _ _ ?_;have f:M3 l=ap (.lst<|aH abS):=by rw[B.2 l n1 n2];exact F
 have sz:(aH abS).length+1<=sizeLine:=by rw[cc];exact gn (by lia)
 rw[Tx];simp![f];exact#[sz,(h _ M3 e B)]
theorem L4(ih:PBl ad k rm names m many n)(h0:U[0]?=ap (ap<|.ref k.p))(W:U[1]?=ap (ap<|kP names m many))(h2:U[2]?=ap (ap<|.ref rm))(h3:U[3]?=ap (ap<|.int deep))(P:U[5]?=ap (ap<|.ref l))(Y:deep<4)(O:2*(4-deep)<=n)(R:Rm k rm M)(n1:l≠k.p)(n2:l≠k.q)(S:l≠rm)(X:M l=ap (.lst<|aH abS))(ha:abS.length<=1000)(Z:Rv rm M v)(h:∀(rs:List Rw)(e:cp)(M':Mem),(∃H,Rv rm M' H/\(cRs rs:Int)+H<=v+4)->bf names m many rs/\gY rs->dA rs+deep<=4->rs.length<=3->Kp k rm M M'->M' e=ca->D0.nx (U.set 5<|some<|.ref e) (M'.upd e<|.lst (aH abS++aH rs))):
  ao (ai aZ (ac 5)<|aq<|aj (aah ad n) EE 4<|aa (ac 0)<|aa (ac 1)<|aa (ac 2)<|aa (ac 3) ag) (af 5) D0 U M:=by
 simp![h0,W,h2,h3,P];refine ar λQ' E' I _=>ih _ M Q' E' Y O R v Z λbl l2 M3 J f hh len3 G B=>I _ _ ?_;simp![Mem.upd_del,aw B,(G.2.2 l _ n1 n2 S X)];exact#[by rw[cc,cc];exact bj (by lia),λe F=>h bl e M3 J f hh len3 G F]
structure RInv(k:Pt)(rm:cp)(names:abY)(m many:Int)(M:Mem)(v:Int)(deep:Nat)(n j:Nat)(abS:List Rw)(l:cp)(M':Mem):Prop where
 cv:∃v',Rv rm M' v'/\(cRs abS:Int)+v'<=v
 hj:n+j<=30
 ha:abS.length<=3*j
 ok:bf names m many abS
 ln:gY abS
 hh:dA abS+deep<=4
 kp:Kp k rm M M'
 hm:M' l=ap (.lst<|aH abS)
 n1:l≠k.p
 n2:l≠k.q
 n3:l≠rm
 h0:M l=ca
theorem RInv.len(I:RInv k rm names m many M v deep n j abS l M'):abS.length<=100:=by
 have:=I.hj;have:=I.ha;lia
theorem oq(ht:ToldOk names m many)(ih:PBl ad k rm names m many n):PRo ad k rm names m many (n+1):=by
 intro deep most M Q E hd hn h0 h1 r v0 P h;simp![SC,Ct,cj];refine#[bj (by decide),λl O=>?_]
 have R1:=r.go (r.new O<|.lst []);refine aP R1.h h0 (by lia) λcnt M1 a1 b1 d1=>?_
 have J:=r.h.nep O;refine#[by lia,by lia,?_]
 refine cE (λxs U M'=>∃(j:Nat)(abS:List Rw)(l:cp)(c6:Option D),RInv k rm names m many M v0 deep xs.length j abS l M'/\U=[ap (.ref k.p),ap _,ap (.ref rm),ap (.int deep),ap (.int most),ap (.ref l),c6]) (λ_ _ _ _=>aM) ?_ ?_ _ _ _ #[0,[],l,ca,#[#[v0,#[?_,P.2],by simp[cRs]],?_,by simp,by trivial,by trivial,by simp only[dA];lia,(r.new O _).trans (R1.dr d1),?_,J.1,J.2,?_,O],rfl]
 .rintro U M' ⟨j,abS,l,c6,I,rfl⟩
  simp![I.hm];exact ak (h abS M' I.cv #[I.ok,I.ln] I.hh I.len I.kp)
 .rintro x xs U M' ⟨j,abS,l,c6,I,rfl⟩ D' S _ _ _
  have R:=r.go I.kp;have hj:=I.hj;have ha:=I.ha;simp at hj;obtain⟨v,⟨hv,hv0⟩,hcv⟩:=I.cv;refine RB rfl rfl rfl R.h hv (λM2 h4 h5 H=>?_) λM2 H=>?_
  .have Y:=I.kp.trans (R.dr H)
   have R2:=r.go Y;refine cI (AJ rfl (by rw[H.2 rm r.n1 r.n2];exact hv) ?_)
   have X:=R2.set (v-4);dsimp only;refine L4 (deep:=deep) (abS:=abS) ih rfl rfl rfl rfl rfl (by lia) (by lia) (R2.go X) I.n1 I.n2 I.n3 (by rw[ae I.n3,H.2 l I.n1 I.n2];exact I.hm) (by lia) (v:=v-4) #[Mem.upd_same,by lia] λbl Z M3 c3 B hh3 len3 k3 F=>?_
   have f:=(Y.trans X).trans k3;have R3:=r.go f;have G:=R3.h.nep F;have W:Z≠rm:=by
    obtain⟨u,eu⟩:=R3.v;exact λe=>by simp_all
   have hM3:M Z=none:=by
    cases e:M Z with
    |none=>rfl
    |some o=>rw[f.2.2 Z o G.1 G.2 W e]at F;cases F
   obtain⟨v3,rv3,c3⟩:=c3;exact S _ _ #[j+1,abS++bl,Z,_,#[#[v3,#[by rw[ae (Vu W)];exact rv3.1,rv3.2],by rw[dU];lia],by lia,by rw[Vi];lia,OkRs_append.mpr #[I.ok,B.1],LnRs_append.mpr #[I.ln,B.2],by rw[dY];exact Vb (ZN (Nat.add_max_add_right ..).symm) (Nat.max_le.mpr #[I.hh,hh3]),f.trans (R3.new F _),by rw[Mem.upd_same,bZ],G.1,G.2,W,hM3],rfl]
  have Y:=I.kp.trans (R.dr H);have R2:=r.go Y;have hm2:M2 l=ap (.lst<|aH abS):=by rw[H.2 l I.n1 I.n2];exact I.hm
  refine Ku rfl (by rw[H.2 rm r.n1 r.n2];exact hv) (λhz=>?_) ?_
  .refine cI (AJ rfl (by rw[H.2 rm r.n1 r.n2];exact hv) ?_)
   have X:=R2.set (v-1);dsimp only;refine Ly (abS:=abS) rfl rfl rfl X.1 ht I.n1 I.n2 (by rw[ae I.n3];exact hm2) (by lia) λrw1 M3 B d3=>?_
   have f:=(Y.trans X).trans ((R2.go X).dr d3);refine S _ _ #[j+1,abS++[rw1],l,_,#[#[v-1,#[by rw[ae (Vu I.n3),d3.2 rm r.n1 r.n2,Mem.upd_same],by lia],by rw[dU];simp only[cRs,Tf B];lia],by lia,by rw[Vi,WA];lia,OkRs_append.mpr #[I.ok,by simp only[bf];exact#[R0 B,trivial]],LnRs_append.mpr #[I.ln,by simp only[gY];exact#[OZ B,trivial]],by rw[dY];simp only[dA,Sw B,Nat.max_zero,Nat.max_self];exact I.hh,?_,by rw[Mem.upd_same,bZ];rfl,I.n1,I.n2,I.n3,I.h0],rfl]
   refine#[f.1.upd #[I.n1,I.n2],?_,λb o h1 h2 h3 e=>?_]
   .obtain⟨u,eu⟩:=f.2.1
    exact#[u,by rw[ae (Vu I.n3)];exact eu]
   .rw[ae (Mem.ne e I.h0)];exact f.2.2 b o h1 h2 h3 e
  .exact S _ _ #[j,abS,l,_,#[#[v,#[by rw[H.2 rm r.n1 r.n2];exact hv,hv0],hcv],by lia,ha,I.ok,I.ln,I.hh,Y,hm2,I.n1,I.n2,I.n3,I.h0],rfl]
 .rw[d1.2 rm r.n1 r.n2,ae (λz=>by rw[<- z,P.1]at O;cases O)];exact P.1
 .simp[cG];lia
 .rw[d1.2 l J.1 J.2,Mem.upd_same];rfl
 obtain⟨v,e⟩:=r.v;exact λe'=>by rw[e',e]at O;cases O
theorem kI(f:ToldOk names m many):∀n:Nat,PRo ad k rm names m many n/\PBl ad k rm names m many n
 |0=>#[λe p M Q E _ h=>by lia,λe M Q E _ h=>by lia]
 |n+1=>#[oq f (kI f n).2,yF f (kI f n).1]
def Kq(k:Pt)(M M':Mem):Prop:=Has k M'/\∀b o,b≠k.p->b≠k.q->M b=ap o->M' b=ap o
theorem Kq.trans{M1 M2:Mem}(a:Kq k M M1)(b:Kq k M1 M2):Kq k M M2:=#[b.1,λx o e f h=>b.2 x o e f (a.2 x o e f h)]
theorem Dr.kq(d:Dr k M M'):Kq k M M':=#[d.1,λb o f h e=>by rw[d.2 b f h];exact e]
structure PlG(m many:Int)(names:abY)(rows:List Rw)(mk:Str):Prop where
 t:ToldOk names m many
 nd:names.Nodup
 ok:bf names m many rows
 h:dA rows<=4
 cn:cRs rows<=60
 l:rows.length<=100
 ln:gY rows
 mkm:mk∈names
 one:∀x∈names,vA x
def ka(m many:Int)(names:abY)(rows:List Rw)(mk:Str):D:=.tup [.int m,.tup (names.map D.str),.int many,.tup (aH rows),.str mk]
theorem EN(v0:0<=v)(v60:v<=60)(hp:Has k M)(h:∀(m many:Int)(names:abY)(rows:List Rw)(mk:Str)(M':Mem),PlG m many names rows mk->(cRs rows:Int)<=v->Kq k M M'->Q (ka m many names rows mk) M'):Aq ad [.ref k.p,.int v] M Q E:=by
 simp![S6,BX];refine aP hp (by decide) (by decide) λx1 M1 a1 b1 d1=>?_
 simp![];refine aP d1.1 (by decide) (by decide) λx2 M2 a2 b2 d2=>?_
 simp![];refine#[bj (by decide),λp f=>?_]
 rw[Mem.upd_del,aw f];refine aP d2.1 (by decide) (by decide) λJ M3 a3 b3 d3=>?_
 obtain⟨m,em,m2,m1⟩:∃m:Int,fH [D.int 2,.int 3,.int (2+x1),.int (2+x2)] J=ap (.int m)/\2<=m/\m<=997:=by
  have:J=0\/J=1\/J=2\/J=3:=by lia
  rcases this with rfl|rfl|rfl|rfl
  .exact#[2,by simp,by lia,by lia]
  .exact#[3,by simp,by lia,by lia]
  .exact#[2+x1,by simp,by lia,by lia]
  .exact#[2+x2,by simp,by lia,by lia]
 simp![em];refine#[bj (by decide),λp f=>?_]
 rw[Mem.upd_del,aw f];refine aP d3.1 (by decide) (by decide) λW M4 a4 b4 d4=>?_
 obtain⟨w,ew,w2,w1⟩:∃m:Int,fH [D.int 3,.int 5,.int 12] W=ap (.int m)/\0<m/\m<=12:=by
  have:W=0\/W=1\/W=2:=by lia
  rcases this with rfl|rfl|rfl
  .exact#[3,by simp,by lia,by lia]
  .exact#[5,by simp,by lia,by lia]
  .exact#[12,by simp,by lia,by lia]
 simp![ew];refine aP d4.1 w2 (by lia) λx5 M5 a5 b5 d5=>?_
 simp![];obtain⟨nn,hnn⟩:∃nn:Nat,(1:Int)+x5=nn:=#[(1+x5).toNat,by lia]
 rw[hnn];refine ar λQ' E' hq _=>y3 d5.1 (by lia) λnames M6 n6 nd6 on6 d6=>hq _ _ ?_
 simp![];refine aP d6.1 (by decide) (by decide) λx7 M7 a7 b7 d7=>?_
 simp![];refine aP d7.1 (by decide) (by decide) λx8 M8 a8 b8 d8=>?_
 simp![];refine#[bj (by decide),λp f=>?_]
 rw[Mem.upd_del,aw f];refine aP d8.1 (by decide) (by decide) λX M9 a9 b9 d9=>?_
 obtain⟨many,ek,k0,k1⟩:∃m:Int,fH [D.int 0,.int (1+x7),.int x8] X=ap (.int m)/\0<=m/\m<=40:=by
  have:X=0\/X=1\/X=2:=by lia
  rcases this with rfl|rfl|rfl
  .exact#[0,by simp,by lia,by lia]
  .exact#[1+x7,by simp,by lia,by lia]
  .exact#[x8,by simp,by lia,by lia]
 simp![ek];refine#[bj (by decide),bj (by decide),λrm P=>#[bj (by decide),λp f=>?_]]
 rw[Mem.upd_del,aw f];have D9:=d1.trans (d2.trans<|d3.trans<|d4.trans<|d5.trans<|d6.trans<|d7.trans<|d8.trans d9);have B:=d9.1.nep P;have R9:Rm k rm (M9.upd rm<|.lst [.int v]):=#[d9.1.upd B,B.1,B.2,v,Mem.upd_same];refine aP R9.h (by decide) (by decide) λF M10 a10 b10 H=>?_
 have R10:=R9.go (R9.dr H);obtain⟨R,eo,o0,o1⟩:∃m:Int,fH [D.int 6,.int 12,.int 30] F=ap (.int m)/\0<m/\m<=30:=by
  have:F=0\/F=1\/F=2:=by lia
  rcases this with rfl|rfl|rfl
  .exact#[6,by simp,by lia,by lia]
  .exact#[12,by simp,by lia,by lia]
  .exact#[30,by simp,by lia,by lia]
 simp![eo];have ht:ToldOk names m many:=#[m2,m1,by lia,by lia,k0,k1]
 refine ar λQ' E' hq _=>(kI ht 24).1 0 R M10 Q' E' (by decide) (by decide) o0 o1 R10 v #[by rw[H.2 rm B.1 B.2,Mem.upd_same],v0] λrows M11 O G h11 l11 I=>hq _ _ ?_
 obtain⟨v11,S,O⟩:=O;have v110:=S.2;simp![UM];refine aP I.1 (by lia) (by lia) λx12 M12 a12 Z d12=>?_
 obtain⟨mk,Y,emk⟩:=m4 a12 Z;simp![emk];refine#[bj (by decide),ak<|h m many names rows mk M12 #[ht,nd6,G.1,by lia,by lia,l11,G.2,Y,on6] (by lia) ?_]
 refine D9.kq.trans (Kq.trans ?_ d12.kq);refine#[I.1,λb o h1 h2 e=>?_];have hb:b≠rm:=Mem.ne e P;have:=(R9.dr H).2.2 b o h1 h2 hb (by rw[ae hb];exact e)
 exact I.2.2 b o h1 h2 hb this
theorem yW(W:Has k M)(pl:PlG m many names rows mk)(h:∀(nums e:abX)(M':Mem),nums.length=names.length->(e.length:Int)=many->(∀v∈nums,0<=v/\v<m)->(∀v∈e,0<=v/\v<m)->Kq k M M'->Q (bJ nums e) M'):AR ad [.ref k.p,ka m many names rows mk] M Q E:=by
 have t1:=pl.t.m1;have t2:=pl.t.m2;have t3:=pl.t.n1;have t4:=pl.t.k0;have t5:=pl.t.k1;refine bQ (λxs abS U M'=>∃(nums:abX)(F:Option D),xs.length+nums.length=names.length/\abS=nums.map D.int/\U=[F,ap (.ref k.p),ap (ka m many names rows mk)]/\Dr k M M'/\∀v∈nums,0<=v/\v<m) (λ_ _ _ _ _=>aM) ?_ ?_ ?_ _ _ _ _ #[[],ca,by simp,rfl,rfl,W.refl,by simp]
 .rintro abS U M' ⟨nums,F,S,rfl,rfl,R,hv⟩
  intro p H;simp![Mem.upd_del,aw H,atI_2];refine#[by lia,by lia,?_]
  refine bQ (λxs abS U M'=>∃(ps:abX)(F:Option D),xs.length+ps.length=many.toNat/\abS=ps.map D.int/\U=[F,ap (.ref k.p),ap (ka m many names rows mk)]/\Dr k M M'/\∀v∈ps,0<=v/\v<m) (λ_ _ _ _ _=>aM) ?_ ?_ ?_ _ _ _ _ #[[],ca,by simp[cG],rfl,rfl,R,by simp]
  .rintro abS U M' ⟨ps,F,G,rfl,rfl,B,f⟩
   intro p H;simp![Mem.upd_del,aw H];refine#[bj (by decide),ak<|h nums ps M' (by simpa using S) (by simp at G;lia) hv f B.kq]
  .rintro x xs abS U M' ⟨ps,F,G,rfl,rfl,B,f⟩ N J _
   simp![ka,atI_0];refine aP B.1 (by lia) (by lia) λr M3 I O P=>?_
   simp![];simp only[Vh]at G;refine J _ _ _ (by simp;exact gn (by lia)) #[ps++[r],_,by simp;lia,by simp,rfl,B.trans P,λv hv=>?_]
   rcases Vs.mp hv with hv|hv
   .exact f v hv
   .simp at hv;subst hv;exact#[I,O]
  .rintro x xs abS U M' ⟨ps,F,G,rfl,rfl,B,f⟩
   simp at G ⊢;exact gn (by lia)
 .rintro x xs abS U M' ⟨ps,F,G,rfl,rfl,B,f⟩ N J _
  simp![ka,atI_0];refine aP B.1 (by lia) (by lia) λr M3 I O P=>?_
  simp![];simp only[Vh]at G;refine J _ _ _ (by simp;exact gn (by lia)) #[ps++[r],_,by simp;lia,by simp,rfl,B.trans P,λv hv=>?_]
  rcases Vs.mp hv with hv|hv
  .exact f v hv
  .simp at hv;subst hv;exact#[I,O]
 .rintro x xs abS U M' ⟨ps,F,G,rfl,rfl,B,f⟩
  simp at G ⊢;exact gn (by lia)
theorem dh{b:BxC (af 0) tt te ok Q}{rest:Dl}{c:Option D}{xs:List D}(p:D->Bool)(f:D->D)(X:ok M)(W:xs.length<=100000)(S:∀x∈xs,∀K:Bool->Mem->Prop,K (p x) M->tt (ap x::rest) M K)(R:∀x∈xs,p x=true->∀K:DK,K (f x) M->te (ap x::rest) M K)(h:Q ((xs.filter p).map f) M):
  eL (af 0) tt te ok Q b xs [] (c::rest) M:=by
 refine bQ (λG abS U N=>∃(us:List D)(B:Option D),xs=us++G/\abS=(us.filter p).map f/\U=B::rest/\M=N) (by lia) ?_ ?_ ?_ _ _ _ _ #[[],c,rfl,rfl,rfl,rfl]
 .rintro abS U N ⟨us,B,e,rfl,rfl,rfl⟩
  simp_all
 .rintro y G abS U N ⟨us,B,e,rfl,rfl,rfl⟩ N' F J
  have O:y∈xs:=by rw[e];simp
  have I:=congrArg We e;simp at I;have P:=VA p us;refine S y O _ ?_;cases H:p y with
  |true=>
   exact R y O H _ (F _ _ _ (by rw[UM];exact gn (by lia)) #[us++[y],_,by simp[e],by simp[H],rfl,rfl])
  |false=>
   exact J _ _ _ #[us++[y],_,by simp[e],by simp[H],rfl,rfl]
 rintro y G abS U N ⟨us,B,e,rfl,rfl,rfl⟩
 have I:=congrArg We e;simp at I;have P:=VA p us;rw[UM];exact gn (by lia)
theorem dk{b:BxC (af 0) dX te ok Q}{rest:Dl}{c:Option D}{xs:List D}(f:D->D)(F:ok M)(B:xs.length<=100000)(p:∀x∈xs,∀K:DK,K (f x) M->te (ap x::rest) M K)(h:Q (xs.map f) M):eL (af 0) dX te ok Q b xs [] (c::rest) M:=by
 refine dh _ f F B (λx _ K q=>q) (λx e _=>p x e) ?_;rw[Z5.mpr λ_ _=>rfl];exact h
instance lawKey:LawfulBEq aD where
 eq_of_beq {a b} h:=by
  cases a<;>cases b
  .exact congrArg V6 (eq_of_beq (α:=Int) h)
  .cases h
  .cases h
  .exact congrArg Vr (eq_of_beq (α:=Str) h)
 rfl {a}:=by
  cases a
  .exact beq_self_eq_true (α:=Int) _
  .exact beq_self_eq_true (α:=Str) _
noncomputable def kD:aD->D
 |.inl i=>.int i
 |.inr x=>.str x
theorem Rf(a b:aD):aQ (kD a) (kD b)=decide (a=b):=by
 cases a<;>cases b<;>simp[kD,aQ]
theorem GJ(n:Nat)(a:aD):bz n (kD a)=true:=by cases a<;>cases n<;>rfl
theorem sf(n:Nat):∀ks:List aD,fits n (ks.map kD)=true
 |[]=>by rfl
 |k::ks=>by simp[fits,GJ,sf n ks]
theorem qD:∀ks:List aD,eV (ks.map kD)=ap ks
 |[]=>rfl
 |k::ks=>by
  cases k<;>simp[eV,kD,cP,(qD ks)]
theorem Fn:((ks.map kD).any λd=>aQ d (kD k))=decide (k∈ks):=by
 induction ks with
 |nil=>rfl
 |cons a ks ih=>
  rw[UR,Xg,Rf]
  by_cases h:a=k
  .simp[h]
  have:¬k=a:=λe=>h e.symm
  simp_all
def B5(ks:List aD):D:=.lst (ks.map kD)
theorem S5:dv M (kD k)=kD k:=by cases k<;>rfl
theorem Jq:iJ M (kD k) (B5 ks)=ap (decide (k∈ks)):=by
 unfold iJ B5
 simp_arith! only[aO,S5,GJ,sf,and_self,if_true,Fn]
structure Cse where
 w:Int
 many:Nat
 names:List Str
 rows:List Rw
 mn:Str
 most:Nat
structure Sta where
 nums:List Int
 pieces:List Int
def Sta.d(s:Sta):D:=bJ s.nums s.pieces
noncomputable def Cse.cf(C:Cse)(s:Sta):Cf:=#[C.w,s.pieces,C.most]
def Cse.d(C:Cse):D:=.tup [.int C.w,.tup (C.names.map D.str),.int (C.many:Nat),.tup (aH C.rows),.str C.mn]
structure Cse.Ok(C:Cse):Prop where
 m2:2<=C.w
 m1:C.w<=997
 few:C.many<=100
 most:C.most<=10000
 nd:C.names.Nodup
 l0:0<C.names.length
 l1:C.names.length<=100
 ok:bf C.names C.w C.many C.rows
 h:dA C.rows<=7
 mn:C.mn∈C.names
structure SOk(C:Cse)(s:Sta):Prop where
 ln:s.nums.length=C.names.length
 lp:s.pieces.length=C.many
 rn:∀v∈s.nums,0<=v/\v<C.w
 rp:∀v∈s.pieces,0<=v/\v<C.w
def vN(mk:Str)(r:Bool×Sx):D:=if r.1=true then .int (nm r.2.nums mk) else .non
def Cse.run(C:Cse)(s:Sta):Bool×Sx:=dD (C.cf s) C.names C.rows s.nums
def Cse.mark(C:Cse)(s:Sta):D:=vN C.mn (C.run s)
theorem Cse.Ok.pl(o:C.Ok)(k:SOk C s):PlOk (C.cf s) C.names C.rows s.nums:=
 #[#[o.m2,o.m1,k.rp,by show s.pieces.length<=1000;rw[k.lp];have:=o.few;lia,o.most],k.ln.symm,o.nd,o.l0,by have:=o.l1;lia,k.rn,by show bf _ _ s.pieces.length _;rw[k.lp];exact o.ok,o.h]
theorem SOk.pd(k:SOk C s):C.d=aX (C.cf s) C.names C.rows C.mn:=by unfold Cse.d aX Cse.cf;rw[k.lp]
theorem xW(C:Cse)(s:Sta):C.mark s=.non\/∃v,C.mark s=.int v:=by
 unfold Cse.mark vN
 split
 .exact .inr #[_,rfl]
 exact .inl rfl
theorem wK(h:Q (C.mark s) M):frz (C.mark s) M Q:=by rcases xW C s with e|⟨v,e⟩<;>rw[e]at h ⊢<;>exact h
theorem nq:∀{names:abY},mk∈names->∃j,names.findIdx? (λy=>decide (y=mk))=ap j/\names[j]?=ap mk
 |[],h=>by simp at h
 |x::names,h=>by
  by_cases e:x=mk
  .subst e;exact#[0,by simp[Xz],rfl]
  have p:mk∈names:=by
   rcases UU.mp h with z|z
   .simp_all
   exact z
  obtain⟨j,f,B⟩:=nq p;exact#[j+1,by simp[Xz,e,f],by trivial]
theorem dW:∀names:List Str,ko (names.map D.str)=ap names
 |[]=>rfl
 |x::names=>by rw[UR,ko,dW _]
def Dz(names:abY)(r:Bool×Sx):D:=.tup [.lst (xS r.2.steps),dL names r]
theorem Io{b:BxQ EE λd M'=>frzT d M' Q}(p:PlOk c names rows nums)(h:Q (Dz names<|dD c names rows nums) M):
  calls (wq ad) EE [aX c names rows mk,bJ nums c.pieces,.int (c.most:Nat)] M (λd M'=>frzT d M' Q) b:=by
 refine ar λQ' E' B _=>Fg p λl f=>B _ _ ?_;unfold Dz dL at h;unfold dL;cases e:(dD c _ _ _).1 with
 |true=>
  rw[e]at h;rw[if_pos rfl];simp![Mem.upd_del,aw f];exact h
 |false=>
  rw[e]at h;rw[if_neg (by simp)]
  simp![Mem.upd_del,aw f];exact h
theorem Es(p:PlOk c names rows nums)(G:mk∈names)(h:Q (vN mk<|dD c names rows nums) M):qi ad [aX c names rows mk,bJ nums c.pieces,.int (c.most:Nat)] M Q E:=by
 obtain⟨j,B,f⟩:=nq G;simp![Uk,zb];refine Io p ?_;simp![Dz];unfold vN at h;unfold dL;cases e:(dD c _ _ _).1 with
 |true=>
  rw[e]at h;simp![aX,atI_1,atI_4,dW,B];refine#[p.l1,?_];have F:fH (names.map λx=>D.int (nm (dD c names rows nums).2.nums x)) j=ap (.int<|nm (dD c names rows nums).2.nums mk):=by
   rw[bE (by lia),Vj,UT,f];rfl
  simp![F];exact ak h
 |false=>
  rw[e]at h;exact ak h
theorem qz{b:BxQ EE Q}(o:C.Ok)(k:SOk C s)(h:Q (C.mark s) M):calls (qi ad) EE [C.d,s.d,.int (C.most:Nat)] M Q b:=by
 refine aG (λQ' E' q=>?_) h;rw[k.pd];exact Es (o.pl k) o.mn q
def bc(C:Cse)(s t:Sta):D:=.tup [C.d,s.d,t.d,.int (C.most:Nat)]
theorem TU{C:Cse}{s t:Sta}:bc C s t=.tup [C.d,s.d,t.d,.int (C.most:Nat)]:=rfl
theorem zi{C:Cse}:C.d=.tup [.int C.w,.tup (C.names.map D.str),.int (C.many:Nat),.tup (aH C.rows),.str C.mn]:=rfl
noncomputable def eD(C:Cse):List aD:=C.names.map Vr++(Vc C.many).map λ(i:Nat)=>V6 (i:Int)
def aL(C:Cse)(s:Sta):aD->Int
 |.inl i=>(s.pieces[i.toNat]?).getD 0
 |.inr x=>nm (C.names.zip s.nums) x
theorem k8:∀{names:abY}{nums:abX}{j:Nat}{x:Str},names.Nodup->names.length=nums.length->names[j]?=ap x->nums[j]?=ap (nm (names.zip nums) x)
 |[],_,j,x,_,_,h=>by simp at h
 |y::names,[],j,x,_,h,_=>by simp at h
 |y::names,v::nums,0,x,nd,hl,h=>by
  simp at h;subst h;simp[nm,gN]
 |y::names,v::nums,j+1,x,nd,hl,h=>by
  simp at h ⊢;have f:=V2.mp nd;have p:¬y=x:=λe=>f.1 (e▸VR h);rw[k8 f.2 (by simp_all) h]
  simp[nm,gN,p]
theorem iq(h:k∈eD C):(∃x,x∈C.names/\k=.inr x)\/∃i:Nat,i<C.many/\k=.inl (i:Int):=by
 rcases Vs.mp h with q|q
 .obtain⟨x,e,rfl⟩:=UZ.mp q
  exact .inl (by lia)
 obtain⟨i,f,rfl⟩:=UZ.mp q;exact .inr #[i,by simp_all,rfl]
theorem bR(o:C.Ok)(k:SOk C s)(f:t∈eD C):0<=aL C s t/\aL C s t<C.w:=by
 rcases iq f with⟨x,e,rfl⟩|⟨i,hi,rfl⟩
 .exact((o.pl k).nok.at e).2
 exact((o.pl k).co.piece<|by show _<s.pieces.length;rw[k.lp];lia).2
theorem eq(o:C.Ok)(k:SOk C s)(F:t∈eD C)(h:Q (.int<|aL C s t) M):pi ad [C.d,s.d,kD t] M Q E:=by
 have l1:=o.l1;rcases iq F with⟨x,f,rfl⟩|⟨i,hi,rfl⟩
 .obtain⟨j,p,B⟩:=nq f
  have e:fH (s.nums.map D.int) j=ap (.int<|nm (C.names.zip s.nums) x):=by
   rw[bE (by lia),Vj,UT,k8 o.nd k.ln.symm B];rfl
  simp![O1,vz,kD,Cse.d,Sta.d,bJ,nP,atI_0,atI_1,dW,p,XQ,Yx,X6];refine#[by lia,?_]
  simp![e];exact ak h
 have e:fH (s.pieces.map D.int) i=ap (.int<|(s.pieces[(i:Int).toNat]?).getD 0):=by
  rw[bE (by lia),UT,UO (by rw[k.lp];exact hi)];rfl
 simp![O1,vz,kD,Sta.d,bJ,nP,atI_1,e,XQ,Yx,X6];exact ak h
def lM(k:Wk)(c:Cf)(s:Sx)(M:Mem):Mem:=
 ((M.upd k.a<|.lst [.ref k.dn,.tup (c.pieces.map D.int),.ref k.ls,.int (c.most:Nat),.int c.m]).upd k.dn<|.dK<|eI s.nums).upd k.ls (.lst<|xS s.steps)
section
variable{s:Sx}
theorem o7:lM k c s M k.a=ap (.lst [.ref k.dn,.tup (c.pieces.map D.int),.ref k.ls,.int (c.most:Nat),.int c.m]):=by
 unfold lM;rw[ae k.h2,ae k.h1,Mem.upd_same]
theorem pj:lM k c s M k.dn=ap (.dK<|eI s.nums):=by unfold lM;rw[ae k.h3,Mem.upd_same]
theorem NW:lM k c s M k.ls=ap (.lst<|xS s.steps):=by unfold lM;simp_all
theorem FE{x:List (List Int×Int)}:(lM k c s M).upd k.ls (.lst<|xS x)=lM k c #[s.nums,x] M:=by unfold lM;simp_all
theorem Km{x:cO}:(lM k c s M).upd k.dn (.dK<|eI x)=lM k c #[x,s.steps] M:=by
 unfold lM;rw[aC (Vu k.h3),Mem.upd_upd]
theorem uH(f:c.most<=10000)(e:s.steps.length<=c.most)(h:Q (.bl (nt c pl v s).1) (lM k c (nt c pl v s).2 M)):
  lj ad [.ref k.a,iN pl,.int v] (lM k c s M) Q E:=by
 unfold nt at h;simp![RY,zn,o7,NW,atI_2,atI_3,xS,UM]
 by_cases q:s.steps.length<c.most
 .rw[if_pos q]at h
  rw[if_neg (by lia)]
  refine#[by trivial,gn (by lia),ak ?_]
  rw[<- FE]at h;simpa [xS] using h
 rw[if_neg q]at h;rw[if_pos (by lia)]
 exact ak h
theorem uQ{b:BxQ EE Q}(p:c.most<=10000)(e:s.steps.length<=c.most)(h:Q (.bl (nt c pl v s).1) (lM k c (nt c pl v s).2 M)):
  calls (lj ad) EE [.ref k.a,iN pl,.int v] (lM k c s M) Q b:=
 ar λ_ _ f _=>uH p e (f _ _ h)
theorem va(h:COk c){i:Int}(e:0<=i)(f:i<c.pieces.length):fH (c.pieces.map D.int) i=ap (.int<|(c.pieces[i.toNat]?).getD 0):=by
 rw[bE e,UT,UO (by lia)];rfl
theorem tF(B:COk c)(p:NOk names c.m s.nums)(f:cM names c.m c.pieces.length r)(h:Q (.int<|num c s.nums r) (lM k c s M)):
  wI ad [.ref k.a,r.d] (lM k c s M) Q E:=by
 have m2:=B.m2;have m1:=B.m1;cases r with
 |put x kk=>
  simp![Cj,pE,Rw.d,↓E3,o7,pj,atI_0,atI_2,atI_3,Yw];exact ak h
 |take x i=>
  simp![Cj,pE,Rw.d,↓E3,o7,pj,atI_0,atI_2,atI_3,Yw,va B f.2.1 f.2.2];exact ak h
 |pick x y=>
  have F:=(p.at f.2.1).1;have P:=f.2.2;have Y:=VW (nm s.nums y) (show (c.pieces.length:Int)≠0 by lia)
  have S:=VX (nm s.nums y) P;simp![Cj,pE,Rw.d,↓E3,o7,pj,atI_0,atI_2,atI_3,Yw,cy,F,VV,UM,va B Y S];exact#[P,ak h]
 |two w x y z=>
  obtain⟨W,Z,I,R⟩:=f;have F:=(p.at I).1;have X:=(p.at R).1;have ry:=(p.at I).2;have G:(w="put")=False/\(w="take")=False/\(w="pick")=False:=by
   rcases W with rfl|rfl|rfl|rfl
   .exact#[(eq_false<|by decide +kernel),(eq_false<|by decide +kernel),(eq_false<|by decide +kernel)]
   .exact#[(eq_false<|by decide +kernel),(eq_false<|by decide +kernel),(eq_false<|by decide +kernel)]
   .exact#[(eq_false<|by decide +kernel),(eq_false<|by decide +kernel),(eq_false<|by decide +kernel)]
   .exact#[(eq_false<|by decide +kernel),(eq_false<|by decide +kernel),(eq_false<|by decide +kernel)]
  simp![Cj,pE,Rw.d,↓E3,o7,pj,atI_0,atI_2,atI_3,cy,F,X,VV,G.1,G.2.1,G.2.2];have e:Q (.int<|zm w (nm s.nums y) (nm s.nums z) c.m) (lM k c s M):=h;unfold zm at e
  by_cases O:w="sum"
  .rw[if_pos O]at e ⊢;exact#[by lia,ak e]
  .rw[if_neg O]at e ⊢
   by_cases J:w="by"
   .rw[if_pos J]at e ⊢;exact#[(.inl #[by lia,by lia]),by lia,ak e]
   .rw[if_neg J]at e ⊢
    by_cases H:w="less"
    .rw[if_pos H]at e ⊢
     split<;>rename_i q
     .rw[if_pos q]at e;exact ak e
     .rw[if_neg q]at e;exact ak e
    .rw[if_neg H]at e ⊢
     split<;>rename_i q
     .rw[if_pos q]at e;exact ak e
     .rw[if_neg q]at e;exact ak e
 |ifr=>exact f.elim
 |again=>exact f.elim
theorem uO{b:BxQ EE Q}(e:d=r.d)(B:COk c)(p:NOk names c.m s.nums)(F:cM names c.m c.pieces.length r)(h:Q (.int<|num c s.nums r) (lM k c s M)):
  calls (wI ad) EE [.ref k.a,d] (lM k c s M) Q b:=
 e▸ar λ_ _ f _=>tF B p F (f _ _ h)
end
section
variable{k:Wk}
def nQ(ad:Ad)(k:Wk)(c:Cf)(names:abY)(n:Nat):Prop:=∀(rs:List Rw)(pl:abX)(s:Sx)(M:Mem)(Q:DK)(E:DX),bf names c.m c.pieces.length rs->2*dA rs+1<=n->pl.length+2*dA rs+2<=1000->NOk names c.m s.nums->s.steps.length<=c.most->
 Q (.bl (cg c rs pl 0 s).1) (lM k c (cg c rs pl 0 s).2 M)->aaf ad n [.ref k.a,.tup (aH rs),iN pl] (lM k c s M) Q E
def Oh(ad:Ad)(k:Wk)(c:Cf)(names:abY)(n:Nat):Prop:=∀(x:Str)(a:List Rw)(pl:abX)(s:Sx)(M:Mem)(Q:DK)(E:DX),eF names c.m c.pieces.length (.again x a)->2*hR (.again x a)<=n->pl.length+2*hR (.again x a)+1<=1000->NOk names c.m s.nums->s.steps.length<=c.most->
 Q (.bl (j9 c (.again x a) pl s).1) (lM k c (j9 c (.again x a) pl s).2 M)->aaj ad n [.ref k.a,(Rw.again x a).d,iN pl] (lM k c s M) Q E
theorem Jr{s:Sx}:lF c r pl s=if (nt c pl (num c s.nums r) s).1=true then (true,#[sN s.nums (iV r) (num c s.nums r),(nt c pl (num c s.nums r) s).2.steps]) else nt c pl (num c s.nums r) s:=by
 unfold lF nt;lia
theorem Ol{s:Sx}(f:NOk names c.m s.nums)(e:cM names c.m c.pieces.length r):iV r∈s.nums.map (·.1):=by
 rw[f.keys];cases r with
 |two w x y z=>exact e.2.1
 |ifr=>exact e.elim
 |again=>exact e.elim
 |_=>exact e.1
theorem xD{s:Sx}(G:COk c)(e:s.steps.length<=c.most)(B:U[0]?=ap (ap<|.ref k.a))(F:∀N K,K (iN pl) N->h U N K)(p:∀N K,K (.int v) N->f U N K)(q:K (!(nt c pl v s).1) (lM k c (nt c pl v s).2 M)):gI (cW<|aq<|aj (lj ad) EE 3<|aa (ac 0)<|aa h<|aa f ag) U (lM k c s M) K:=by
 simp_arith! only[gI,cW,aq,aj,aa,ac,B]
 exact F _ _ (p _ _ #[rfl,uQ G.most e q])
theorem Gx{rest:List D}{w:D}{s:Sx}(e:gN s.nums x=ap (nm s.nums x))(h:U[0]?=ap (ap<|.ref k.a))(f:U[i]?=ap (ap<|.tup (w::.str x::rest)))(q:K (.int<|lk s.nums x) (lM k c s M)):
  pq (am<|ai ck (ai az (ai az (ac 0)<|dC<|.int 0)<|ai az (ac i)<|dC<|.int 1)<|dC<|.int 0) (dC<|.int 0) (dC<|.int 1) U (lM k c s M) K:=by
 simp![h,f,o7,pj,atI_0,atI_1,cy,e,VV];unfold lk at q;lia
theorem tU(p:pl.length<=1000)(h:U[i]?=ap (ap<|iN pl))(f:U[j]?=ap (ap<|.int v))(q:K (iN (pl++[v])) M):ai aZ (ac i) (aS<|aa (ac j) ag) U M K:=by
 simp_arith! only[ai,ac,aS,aa,h,f,iN,aZ,UM,Vh,Ww]
 refine#[by trivial,bj (by lia),?_]
 have e:pl.map D.int++[.int v]=(pl++[v]).map D.int:=by simp
 rw[e];exact q
theorem Hq{s:Sx}(I:nQ ad k c names n)(J:U[0]?=ap (ap<|.ref k.a))(H:∀N K,K (.tup<|aH rs) N->p U N K)(O:∀N K,K (iN pl) N->B U N K)(ok:bf names c.m c.pieces.length rs)(G:2*dA rs+1<=n)(h:pl.length+2*dA rs+2<=1000)(e:NOk names c.m s.nums)(f:s.steps.length<=c.most)(q:K (!(cg c rs pl 0 s).1) (lM k c (cg c rs pl 0 s).2 M)):
  gI (cW<|aq<|aj (aaf ad n) EE 3<|aa (ac 0)<|aa p<|aa B ag) U (lM k c s M) K:=by
 simp_arith! only[gI,cW,aq,aj,aa,ac,J]
 refine H _ _ (O _ _ #[rfl,ar λQ' E' F _=>I rs pl _ M Q' E' ok G h e f (F _ _ q)])
theorem JZ(h:eF names m many r)(e:bt r=true):cM names m many r:=by
 cases r<;>first|assumption|cases e
theorem xk{n:cO}:lk n x=0\/lk n x=1:=by unfold lk;split<;>simp
theorem kM{EE:DX}{S0:Sd}{n:Nat}{x:Str}{a:List Rw}{pl:abX}{M:Mem}{Q:DK}{D':DEnds}{ok:Mem->Prop}{bx:BxF (af 3) (mz ad S0 (aaf ad n) EE) D' ok}(S:COk c)(Y:nQ ad k c names n)(X:x∈names)(F:bf names c.m c.pieces.length a)(W:2*dA a+1<=n)(R:pl.length+2*dA a+3<=1000)
  (O:∀M,ok M) (e:D'.rt=_3.drp Q) (H:∀U M',_3.drp Q (.bl cx) M'->D'.nx U M'):∀(f t:Nat)(s:Sx)(J P:Option D),NOk names c.m s.nums->s.steps.length<=c.most->
  Q (.bl (fE c x pl (λt s=>cg c a (pl++[(t:Int)]) 0 s) f t s).1) (lM k c (fE c x pl (λt s=>cg c a (pl++[(t:Int)]) 0 s) f t s).2 M)->
  fh (af 3) (mz ad S0 (aaf ad n) EE) D' ok bx ((W0 t f).map λ(i:Nat)=>D.int (i:Int)) [ap (.ref k.a),ap (.tup [.str "again",.str x,.tup (aH a)]),ap (iN pl),J,P] (lM k c s M)
 |0,t,s,J,P,hno,hst,h=>#[O _,H _ _<|ak h]
 |f+1,t,s,J,P,hno,hst,h=>by
  refine#[O _,?_];unfold fE at h;have p:=(nt_gr (pl:=pl++[(t:Int)]) (v:=lk s.nums x)).2 hst;have B:NOk names c.m (nt c (pl++[(t:Int)]) (lk s.nums x) s).2.nums:=by rw[fW];exact hno
  refine Gx (hno.at X).1 rfl rfl ?_;simp[af];unfold rS ah aJ;refine xD S hst rfl (λN K=>tU (by lia) rfl rfl) (λN K q=>q) ?_
  cases I:(nt c _ _ s).1 with
  |false=>
   rw[if_neg (by rw[I];simp),I]at h
   simp[e];exact ak h
  |true=>
   rw[if_pos I]at h;simp[aE];have Z:∀K:Bool->Mem->Prop,K (decide _) (lM k c (nt c (pl++[(t:Int)]) (lk s.nums x) s).2 M)->am (ai ck (ac 4)<|dC<|.int 0) [ap (.ref k.a),ap (.tup [.str "again",.str x,.tup (aH a)]),ap (iN pl),ap (.int t),ap (.int<|lk s.nums x)] _ K:=λK q=>by
    trivial
   refine Z _ ?_;rcases xk with hl|hl
   .rw[hl,if_neg (by decide),<- hl,I]at h
    simp[hl,e];rw[<- hl];exact ak h
   rw[hl,if_pos rfl,<- hl]at h;have n1:decide (lk s.nums x=0)=false:=by rw[hl];rfl
   simp[n1,aE];unfold uL aJ;refine Hq Y rfl (λN K q=>?_) (λN K=>tU (by lia) rfl rfl) F W (by simp;lia) B p ?_
   .exact q
   cases G:(cg c a _ 0 _).1 with
   |false=>
    rw[if_neg (by simp_all),G]at h
    simp[e];exact ak h
   |true=>
    rw[if_pos G]at h;exact kM S Y X F W R O e H f _ _ _ _ (dG S a F _ _ _ B) ((fR a _ 0 _).2 p) h
theorem uY(G:COk c)(J:nQ ad k c names n):Oh ad k c names (n+1):=by
 intro x a pl s M Q E f H F p B h;simp only[hR]at H F;have I:=G.most;rw[Ux];unfold BH
 simp_arith! only[ah,cj,dw,aa,ai,ac,dC,dt,az,aO,o7]
 refine#[by lia,by lia,?_]
 have e:cG 0 ((c.most:Int)+1).toNat=(W0 0 (c.most+1)).map λ(i:Nat)=>D.int i:=by
  unfold cG;rw[WH]
  simp_all
 rw[e];exact kM G J f.1 f.2 (by lia) (by lia) (λ_=>aM) rfl (λ_ _ z=>z) _ 0 s _ _ p B h
theorem ox{rest:List D}(f:U[4]?=ap (ap<|.tup (.str w::rest)))(q:K (decide (w=e)) M):am (ai ck (ai az (ac 4)<|dC<|.int 0)<|dC<|.str e) U M K:=by
 simp_arith! only[am,ai,ac,f]
 trivial
def RGo(D':DEnds)(k:Wk)(c:Cf)(M:Mem)(d1 d2:Option D)(r:Bool×Sx):Prop:=(r.1=true->∀c3 c4 c5 c6 c7 c8,D'.nx [ap (.ref k.a),d1,d2,c3,c4,c5,c6,c7,c8] (lM k c r.2 M))/\(r.1=cx->D'.rt (.bl cx) (lM k c r.2 M))
section
variable{s:Sx}
theorem GQ(F:COk c)(e:NOk names c.m s.nums)(p:s.steps.length<=c.most)(H:names.length<=1000)(B:cM names c.m c.pieces.length r)(g:RGo D' k c M d1 d2 (lF c r pl s)):lK ad S0 S1 EE D' [ap (.ref k.a),d1,d2,d3,ap r.d,ap (iN pl),d6,d7,d8] (lM k c s M):=by
 obtain⟨w,rest,G,_,_⟩:=kH B;rw[Jr]at g;unfold lK;generalize h:me ad S0 S1 EE=K6;refine#[rfl,uO rfl F e B ?_];show af 8 _ _ _ _;simp[af];rw[<- h];unfold me ah aJ;refine xD F p rfl (λ_ _ q=>q) (λ_ _ q=>q) ?_;cases f:(nt c pl _ s).1 with
 |false=>
  rw[if_neg (by rw[f];simp)]at g
  exact g.2 f
 |true=>
  rw[if_pos f]at g;rw[G];simp![o7,pj,atI_0,atI_1,fW];refine#[(by rw[eI,UM,<- UM,e.keys];exact gn (by lia)),?_]
  rw[m8 (Ol e B),(Km (k:=k) (c:=c) (s:=(nt c pl (num c s.nums r) s).2) (M:=M) (x:=sN s.nums (iV r) (num c s.nums r)))];exact g.1 rfl _ _ _ _ _ _
theorem Lg{a b:List Rw}(R:COk c)(f:NOk names c.m s.nums)(h:s.steps.length<=c.most)(P:nQ ad k c names n)(ok:eF names c.m c.pieces.length (.ifr x a b))(B:2*dA a+1<=n/\2*dA b+1<=n/\pl.length+2*dA a+3<=1000/\pl.length+2*dA b+3<=1000)(g:RGo D' k c M d1 d2 (j9 c (.ifr x a b) pl s)):
  uB ad S0 (aaf ad n) EE D' [ap (.ref k.a),d1,d2,d3,ap (.tup [.str "if",.str x,.tup (aH a),.tup (aH b)]),ap (iN pl),d6,d7,d8] (lM k c s M):=by
 refine Gx (f.at ok.1).1 rfl rfl ?_;obtain⟨rs,F,I,H,J,S⟩:∃rs,fH [D.tup (aH b),.tup (aH a)] (lk s.nums x)=ap (.tup _)/\(j9 c (.ifr x a b) pl s=if (nt c pl (lk s.nums x) s).1=true then cg c rs (pl++[lk s.nums x]) 0 (nt c pl (lk s.nums x) s).2 else nt c pl (lk s.nums x) s)/\bf _ _ _ rs/\2*dA rs+1<=n/\pl.length+2*dA rs+3<=1000:=by
  unfold j9;rcases xk with hl|hl<;>rw[hl]
  .exact#[b,rfl,rfl,ok.2.2,B.2.1,B.2.2.2]
  exact#[a,rfl,rfl,ok.2.1,B.1,B.2.2.1]
 rw[I]at g;unfold rW
 simp_arith! only[af,Va,ah,ao,ai,ac,dt,UL,az,aO]
 refine#[bj (by simp),λp O=>?_]
 simp_arith! only[frz,Mem.upd_same,Mem.upd_del,aw O,F,af]
 unfold uJ aJ Lv;refine xD R h rfl (λ_ _ q=>q) (λ_ _ q=>q) ?_;cases G:(nt c pl _ s).1 with
 |false=>
  rw[if_neg (by rw[G];simp)]at g
  exact g.2 G
 |true=>
  rw[if_pos G]at g;simp;refine Hq P rfl (λN K q=>q) (λN K=>tU (by lia) rfl rfl) H J (by simp;lia) (by rw[fW];exact f) (nt_gr.2 h) ?_
  cases e:(cg c rs _ 0 _).1 with
  |false=>
   exact g.2 e
  |true=>
   exact g.1 e _ _ _ _ _ _
end
theorem Ep(hnl:names.length<=1000)(hc:COk c)(ihd:nQ ad k c names n)(ihr:Oh ad k c names n):nQ ad k c names (n+1):=by
 intro rs pl s M Q E f hn H B p h;rw[Tc];unfold zw
 simp_arith! only[ah,cj,o8,aa,ac,dt,UL,aO,jT]
 refine cE (λxs U M'=>∃(e:List Rw)(j:Nat)(G:Sx)(Y R W O P J:Option D),xs=gg j (aH e)/\U=[ap _,ap _,ap _,Y,R,W,O,P,J]/\M'=lM k c G M/\bf _ _ _ e/\2*dA e+1<=n+1/\pl.length+2*dA e+2<=1000/\NOk _ _ G.nums/\G.steps.length<=c.most/\
  Q (.bl (cg c e pl j G).1) (lM k c (cg c e pl j G).2 M)) (λ_ _ _ _=>aM) ?_ ?_ _ _ _ #[rs,0,s,_,_,_,_,_,_,rfl,rfl,rfl,f,hn,H,B,p,h]
 .rintro U M' ⟨e,j,G,Y,R,W,O,P,J,Z,rfl,rfl,f,hn,H,B,p,h⟩
  cases e with
  |nil=>
   exact ak h
  |cons r rs=>trivial
 rintro x xs U M' ⟨e,j,G,Y,R,W,O,P,J,Z,rfl,rfl,f,hn,H,B,p,h⟩ D' X _ hrt _
 cases e with
 |nil=>simp[aH,gg]at Z
 |cons r e=>
  simp only[aH,gg,VQ]at Z;obtain⟨rfl,rfl⟩:=Z;simp only[bf]at f;have h1:hR r<=dA (r::e)/\dA e<=dA (r::e):=by simp only[dA];lia
  simp only[cg]at h;have g:RGo D' k c M (ap<|.tup<|aH rs) (ap<|iN pl) (j9 c r (pl++[(j:Int)]) G):=#[λI Y R W O P J=>by
   rw[if_pos I]at h;exact X _ _ #[e,j+1,_,Y,R,W,O,P,J,rfl,rfl,rfl,f.2,by lia,by lia,rR hc r f.1 _ _ B,(uv r _ _).2 p,h],λI=>by
   rw[if_neg (by rw[I];simp),I]at h
   rw[show D'.rt=_3.drp Q from hrt];exact ak h]
  clear X h
  simp_arith! only[dm,aN,dg,af,Va]
  refine#[rfl,?_];unfold pC ah ao;refine tU (by lia) rfl rfl ?_
  simp only[af,Va];unfold t7 aJ
  by_cases F:bt r=true
  .have S:=JZ f.1 F
   rw[cU F]at g;have ds:=GQ (ad:=ad) (S0:=aaj ad n) (S1:=aaf ad n) (EE:=aI E) (d3:=ap (.int (j:Int))) (d6:=O) (d7:=P) (d8:=J) hc B p hnl S g;obtain⟨w,rest,er,hw1,hw2⟩:=kH S;rw[er]at ds ⊢;have n1:decide (w=("again":Str))=false:=decide_eq_false λz=>by rw[hw1]at z;exact z
   have n2:decide (w=("if":Str))=false:=decide_eq_false λz=>by rw[hw2]at z;exact z
   refine ox rfl ?_;simp only[n1,VS,if_false];unfold lT aJ;refine ox rfl ?_;simp only[n2,VS,if_false];exact ds
  cases r with
  |again x a=>
   simp only[Rw.d];refine ox rfl ?_;simp only[decide_true,if_true];unfold uE aJ
   simp_arith! only[gI,cW,aq,aj,aa,ag,ac,dt,UL]
   refine#[rfl,ar λQ' E' hq _=>ihr x a (pl++[(j:Int)]) G M Q' E' f.1 (by lia) (by simp;lia) B p (hq _ _ ?_)]
   cases I:(j9 c (.again x a) (pl++[(j:Int)]) G).1 with
   |true=>
    simp_arith! only[frz,Ig,XU,VS,if_false,aE]
    exact g.1 I _ _ _ _ _ _
   |false=>
    simp_arith! only[frz,Ig,Y7,if_true,aB,dC]
    exact g.2 I
  |ifr x a b=>
   simp only[hR]at h1;simp only[Rw.d];have n1:decide (("if":Str)=("again":Str))=false:=by decide +kernel
   refine ox rfl ?_;simp only[n1,VS,if_false];unfold lT aJ;refine ox rfl ?_;simp only[decide_true,if_true];exact Lg hc B p ihd f.1 #[by lia,by lia,by simp;lia,by simp;lia] g
  |_=>exact absurd rfl F
theorem uU(e:names.length<=1000)(f:COk c):∀n:Nat,nQ ad k c names n/\Oh ad k c names n
 |0=>#[λrs pl s M Q E _ h=>by lia,λx a pl s M Q E _ h=>by simp[hR]at h;lia]
 |n+1=>by
  obtain⟨p,B⟩:=uU e f n;exact#[Ep e f p B,uY f p]
end
theorem Oa{s:Sx}(h:M k.a=ca)(p:M k.dn=ca):∀b o,(M.upd k.ls<|.lst<|xS s.steps) b=ap o->lM k c s M b=ap o:=by
 intro b o e
 by_cases f:b=k.ls
 .subst f;rw[Mem.upd_same]at e;rw[NW];exact e
 rw[ae f]at e;unfold lM;rw[ae f,ae (Mem.ne e p),ae (Mem.ne e h)];exact e
theorem xg(p:PlOk c names rows nums)(h:∀l,M l=ca->Q (.tup [.ref l,dL names (dD c names rows nums)]) (M.upd l<|.lst<|xS (dD c names rows nums).2.steps)):
  nJ ad [aX c names rows mk,bJ nums c.pieces,.int (c.most:Nat)] M Q E:=by
 have hl1:=p.l1;simp![Tu,zG,aX,bJ,atI_0,atI_1,atI_3,eQ,UM];refine#[p.ln,p.l0,p.l1,λdn X=>?_];simp![gQ p.ln p.nd];refine#[bj (by decide),λls e=>#[bj (by decide),λa G=>#[bj (by decide),?_]]]
 have W:dn≠ls:=by rintro rfl;rw[Mem.upd_same]at e;cases e
 have H:M ls=none:=by rw[ae (Vu W)]at e;exact e
 have n2:a≠ls:=by rintro rfl;rw[Mem.upd_same]at G;cases G
 have n1:a≠dn:=by rintro rfl;rw[ae W,Mem.upd_same]at G;cases G
 have Z:M a=none:=by rw[ae n2,ae n1]at G;exact G
 obtain⟨k,P,O,J⟩:∃k:Wk,k.a=a/\k.dn=dn/\k.ls=ls:=#[#[a,dn,ls,n1,n2,W],rfl,rfl,rfl];have e0:((M.upd dn<|.dK<|eI<|names.zip nums).upd ls<|.lst []).upd a (.lst [.ref dn,.tup (c.pieces.map D.int),.ref ls,.int (c.most:Nat),.int c.m])=lM k c #[names.zip nums,[]] M:=by
  unfold lM;rw[P,O,J,aC (Vu n2),aC (Vu n1)];rfl
 rw[e0];have hD:=(uU (ad:=ad) (k:=k) p.l1 p.co 24).1 rows [] #[names.zip nums,[]] M;have hn:NOk names c.m (dD c names rows nums).2.nums:=dG p.co rows p.ok [] 0 #[names.zip nums,[]] p.nok;have R:=h ls H;subst P O J;have f:=Oa (c:=c) (k:=k) (s:=(dD c names rows nums).2) Z X;refine ar λQ' E' Y _=>hD Q' E' p.ok (by have:=p.h;lia) (by have:=p.h;simp;lia) p.nok (W2 _) (Y _ _ ?_)
 have er:cg c rows [] 0 #[names.zip nums,[]]=dD c names rows nums:=rfl;rw[er];unfold dL at R;cases hb:(dD c names rows nums).1 with
 |false=>
  rw[hb,if_neg (by simp)]at R
  simp![o7,atI_2];exact#[bj (by decide),#[_,f,R]]
 |true=>
  rw[hb,if_pos rfl]at R;simp![o7,atI_1,atI_2,↓aV]
  refine bQ (λxs abS U M'=>∃n1 n2 S,names=n1++n2/\xs=n2.map D.str/\abS=n1.map (λx=>D.int (nm (dD c names rows nums).2.nums x))/\U=[S,ap (.ref k.a)]/\M'=lM k c (dD c names rows nums).2 M)
   (λ_ _ _ _ _=>aM) ?_ ?_ ?_ _ _ _ _ #[[],names,ca,rfl,rfl,rfl,rfl,rfl]
  .rintro abS U M' ⟨n1,n2,S,B,F,rfl,rfl,rfl⟩ q Y
   have:n2=[]:=by cases n2 with|nil=>rfl|cons _ _=>simp at F
   subst this;have en:n1=names:=by simpa using B.symm
   subst en;simp![Mem.upd_del,aw Y];exact#[bj (by decide),#[_,f,R]]
  .rintro x xs abS U M' ⟨n1,n2,S,B,F,rfl,rfl,rfl⟩ N hN _
   cases n2 with
   |nil=>simp at F
   |cons y n2=>
    simp only[UR,VQ]at F;obtain⟨rfl,rfl⟩:=F;have hy:=(hn.at (x:=y)<|by rw[B];simp).1
    have I:n1.length+n2.length+1=names.length:=by rw[B];simp;lia
    simp![o7,pj,atI_0,cy,hy,VV];exact hN _ _ _ (by rw[UM];exact gn (by lia)) #[n1++[y],n2,_,by rw[B];simp,rfl,by simp,rfl,rfl]
  .rintro x xs abS U M' ⟨n1,n2,S,B,F,rfl,rfl,rfl⟩
   have I:n1.length+n2.length=names.length:=by rw[B];simp
   rw[UM];exact gn (by lia)
theorem lg{b:BxQ EE λd M'=>frzT d M' Q}(p:PlOk c names rows nums)(h:Q (Dz names<|dD c names rows nums) M):
  calls (nJ ad) EE [aX c names rows mk,bJ nums c.pieces,.int (c.most:Nat)] M (λd M'=>frzT d M' Q) b:=by
 refine ar λQ' E' B _=>xg p λl f=>B _ _ ?_;unfold Dz dL at h;unfold dL;cases e:(dD c _ _ _).1 with
 |true=>
  rw[e]at h;rw[if_pos rfl];simp![Mem.upd_del,aw f];exact h
 |false=>
  rw[e]at h;rw[if_neg (by simp)]
  simp![Mem.upd_del,aw f];exact h
theorem whT(B:∀K:Bool->Mem->Prop,K true M->f U M K)(h:e { D' with nx:=cC f e D' p n,ct:=cC f e D' p n,bk:=D'.nx } U M):cC f e D' p (n+1) U M:=by
 unfold cC
 simp_all
theorem whF(B:∀K:Bool->Mem->Prop,K cx M->e U M K)(h:D'.nx U M):cC e f D' p (n+1) U M:=by
 unfold cC
 simp_all
theorem bU{xs:List D}(e:M p=ca)(h:Q (.lst xs) M):frz (.ref p) (M.upd p<|.lst xs) Q:=by
 simp_arith! only[frz,Mem.upd_same,Mem.upd_del,aw e]
 exact h
def aA(C:Cse)(s t:Sta):List aD:=(eD C).filter λk=>decide (aL C s k≠aL C t k)
theorem wE(o:C.Ok)(h:∀p,M p=ca->Q (.ref p) (M.upd p<|.lst<|(eD C).map kD)):wY ad [C.d] M Q E:=by
 have l1:=o.l1;have few:=o.few;rw[SS];unfold zc Cse.d;simp![atI_1,atI_2];intro H B;simp only[Mem.upd_del,aw B];refine#[by lia,λI F=>?_]
 simp[aw F];refine#[bj (by simp[cG];lia),λf G=>ak ?_]
 have:=h f G;have e:(eD C).map kD=C.names.map D.str++cG 0 (Yi C.many):=by simp[eD];congr 1;exact Vy λi _=>by simp[kD]
 rw[e]at this;exact this
theorem HG(o:C.Ok)(I:SOk C s)(H:SOk C t)(h:∀p,M p=ca->Q (.ref p) (M.upd p<|.lst<|(aA C s t).map kD)):zK ad [C.d,s.d,t.d] M Q E:=by
 have l1:=o.l1;have few:=o.few;have J:(eD C).length=C.names.length+C.many:=by simp[eD]
 refine#[rfl,ar λQ' E' G _=>wE o λp f=>G _ _ (bU f ?_)];refine dh (λd=>match cP d with|some k=>decide (aL C s k≠aL C t k)|none=>cx) id aM (by simp;lia) (λx B K q=>?_) (λx B _ K q=>q) ?_
 .obtain⟨k,F,rfl⟩:=UZ.mp B
  refine#[rfl,aG (λ_ _ q=>eq o I F q) ?_];refine#[rfl,aG (λ_ _ q=>eq o H F q) ?_];refine#[rfl,rfl,?_];have e:cP (kD k)=ap k:=by cases k<;>rfl
  simp[e]at q
  assumption
 intro p f;have e:(((eD C).map kD).filter λd=>match cP d with|some k=>decide (aL C s k≠aL C t k)|none=>cx).map id=(aA C s t).map kD:=by
  rw[Wd,VJ];congr 1;refine Wj λk _=>?_;cases k<;>rfl
 rw[e];exact ak (h p f)
theorem oV(o:C.Ok)(G:SOk C s)(p:SOk C t)(B:C.mark s=.int a)(F:C.mark t=.int b)(e:a≠b)(h:Q (.tup [.int a,.int b]) M):wx ad [bc C s t] M Q E:=by
 rw[Ua];unfold CZ tP;generalize f:rT ad _=K;simp![bc,atI_0,atI_1,atI_3];refine qz o G (wK ?_);rw[B];simp![bc,atI_0,atI_2,atI_3];refine qz o p (wK ?_);rw[F,<- f];simp![e];exact#[by trivial,ak h]
theorem lE{m:D}(e:m=.non\/∃v,m=.int v)(h:Q (.str (if aQ m (.int a)=true then "sound" else if aQ m (.int b)=true then "faulty" else "other")) M):C1 ad [.tup [.int a,.int b],m] M Q E:=by
 rcases e with rfl|⟨v,rfl⟩
 .simp![Nl,vf,atI_0,atI_1]
  exact ak h
 simp![Nl,vf,atI_0,atI_1];simp[aQ]at h
 split
 .rename_i q;rw[if_pos q]at h;exact ak h
 rename_i q;rw[if_neg q]at h
 split
 .rename_i q;rw[if_pos q]at h;exact ak h
 rename_i q;rw[if_neg q]at h;exact ak h
section
variable{κ:Type}[DecidableEq κ]
theorem JH{abR:List (κ×D)}{k j:κ}{v:D}:(cV (eG abR k v) j).isSome=(decide (j=k)||(cV abR j).isSome):=by
 unfold eG
 split
 .rename_i h
  induction abR with
  |nil=>simp at h
  |cons p r ih=>
   obtain⟨f,J⟩:=p;simp only[UR,cV,Wx] at*
   by_cases e:f=k
   .subst e
    by_cases B:f=j
    .simp_all
    have H:¬j=f:=λz=>B z.symm;simp only[if_pos,B,decide_false,H,Zp]
    by_cases G:(r.any λF=>decide (F.1=f))=true
    .have:=ih G
     simp only[H]at this;exact this
    have:r.map (λF=>if F.1=f then (F.1,v) else F)=r:=by
     conv=>rhs;rw[<- Wd r]
     refine Vy λq I=>?_;have:¬q.1=f:=λz=>G (List.any_eq_true.mpr #[q,I,by simp[z]])
     simp[this]
    rw[this]
   rw[if_neg e]
   by_cases B:f=j
   .simp_all
   simp only[B];exact ih (by simp_all)
 unfold cV;rw[List.find?_append];cases q:abR.find? _ with
 |some x=>simp
 |none=>
  by_cases e:j=k
  .subst e;simp
  have B:¬k=j:=λz=>e z.symm;simp[e,B]
theorem pv{abR:List (κ×D)}{j:κ}:∀{a0:List (κ×D)},(cV (abR.foldl (λa p=>eG a p.1 p.2) a0) j).isSome=(decide (j∈abR.map (·.1))||(cV a0 j).isSome):=by
 induction abR with
 |nil=>simp
 |cons p r ih=>
  intro a0;rw[Wa,ih,JH,UR]
  by_cases e:j=p.1
  .simp[e]
  simp only[UU,e,false_or,decide_false,Zp]
theorem sS{abR:List (κ×D)}:∀{a0:List (κ×D)},(a0.map (·.1)++abR.map (·.1)).Nodup->abR.foldl (λa p=>eG a p.1 p.2) a0=a0++abR:=by
 induction abR with
 |nil=>simp
 |cons p r ih=>
  intro a0 h;have e:eG a0 p.1 p.2=a0++[p]:=by
   unfold eG;rw[if_neg];intro z;obtain⟨q,f,e⟩:=List.any_eq_true.mp z;exact(W6.mp h).2.2 _ (Vq f) _ Vp (by lia)
  simp_all
end
noncomputable def uD(u:List aD):List (aD×D):=u.map λk=>(k,D.bl true)
theorem rF:(uD u).map (·.1)=u:=by
 unfold uD;rw[Vf];exact Wd u
theorem m5:(cV (uD u) k).isSome=decide (k∈u):=by
 have:=@pv _ _ (uD u) k []
 induction u with
 |nil=>rfl
 |cons a r ih=>
  unfold uD cV;rw[UR,Wx]
  by_cases e:a=k
  .subst e;simp
  have f:¬k=a:=λz=>e z.symm;simp only[e,UU,f,false_or];exact ih (@pv _ _ _ k [] |>.trans (by rw[rF]))
theorem xm:qr (uD u) k=uD (u.filter λx=>decide (x≠k)):=by
 unfold qr uD;rw[VJ];rfl
theorem kx:∀ks:List aD,xf (ks.map λk=>D.tup [kD k,.bl true])=ap (uD ks)
 |[]=>rfl
 |k::ks=>by
  have e:cP (kD k)=ap k:=by cases k<;>rfl
  simp[xf,e,kx ks];rfl
theorem fO:cP (kD k)=ap k:=by cases k<;>rfl
theorem rM{a:cp}(h:M a=ap (.dK abR)):iJ M (kD k) (.ref a)=ap (cV abR k).isSome:=by
 unfold iJ;have:aO M (.ref a)=none:=by simp_arith! only[aO,h]
 rw[this];unfold rO;simp[h,fO]
theorem uP(o:C.Ok)(S:ks.length<=1000)(h:∀p,M p=ca->Q (.ref p) (M.upd p<|.lst<|((eD C).filter λk=>decide (k∈ks)).map kD)):zS ad [C.d,B5 ks] M Q E:=by
 have l1:=o.l1;have few:=o.few;have Y:(eD C).length=C.names.length+C.many:=by simp[eD]
 rw[Sb];unfold CO;generalize J:lL ad (aI E)=K;unfold B5
 simp_arith! only[ah,ao,b6,aa,aq,aV,cm,ac,ag,UL,dt,aO,bM,cB,UR,VG,Vk,Vm]
 refine dk (λd=>.tup [d,.bl true]) aM (by simp;lia) (λx F K q=>?_) ?_
 .simp_arith! only[aS,aa,ac,dC,ag,UL,dt]
  exact#[bj (by simp),q]
 .intro p O
  refine bU O ?_;have e:(ks.map kD).map (λd=>D.tup [d,.bl true])=ks.map λk=>D.tup [kD k,.bl true]:=by simp
  rw[e]
  simp_arith! only[ag,gR,Hx,g4,kx]
  refine#[trivial,by simp[uD];lia,λI H=>?_]
  simp only[af,Va];rw[<- J];unfold lL
  simp_arith! only[aB,aV,cm,aq,aj,aa,ac,ag,UL,dt]
  refine#[rfl,ar λQ' E' R _=>wE o λX P=>R _ _ (bU P ?_)]
  simp_arith! only[aO,bM,cB,UR,VG,Vk,Vm,UL,dt,V3]
  refine dh (λd=>match cP d with|some k=>decide (k∈ks)|none=>cx) id aM (by simp;lia) (λx F K q=>?_) (λx F _ K q=>q) ?_
  .obtain⟨k,S,rfl⟩:=UZ.mp F
   simp only[fO]at q
   simp_arith! only[am,ai,ac,UL,dt,wU,rM (Mem.upd_same),pv,rF]
   simpa [cV] using q
  .intro f B
   have e:(((eD C).map kD).filter λd=>match cP d with|some k=>decide (k∈ks)|none=>cx).map id=((eD C).filter λk=>decide (k∈ks)).map kD:=by
    rw[Wd,VJ];congr 1;refine Wj λk _=>?_;simp only[Function.comp,fO]
   rw[e];have n1:f≠I:=λz=>by rw[z,Mem.upd_same]at B;cases B
   rw[ae n1]at B;refine#[M.upd f (.lst<|((eD C).filter λk=>decide (k∈ks)).map kD),λb W e=>?_,h f B]
   by_cases G:b=f
   .subst G;rw[Mem.upd_same]at e ⊢;exact e
   .rw[ae G]at e ⊢
    rw[ae (λz=>by rw[z,H]at e;cases e)]
    exact e
noncomputable def fk:Rw->List Str
 |.pick _ y=>[y]
 |.two _ _ y z=>[y,z]
 |.ifr x _ _=>[x]
 |.again x _=>[x]
 |_=>[]
theorem nR(B:eF names m many r)(h:∀p,M p=ca->Q (.ref p) (M.upd p<|.lst<|(fk r).map D.str)):Dd ad [r.d] M Q E:=by
 cases r with
 |put x k=>simp![qR,jA,Rw.d,atI_0];exact#[bj (by decide),λp e=>ak (h p e)]
 |take x i=>simp![qR,jA,Rw.d,atI_0];exact#[bj (by decide),λp e=>ak (h p e)]
 |pick x y=>simp![qR,jA,Rw.d,atI_0];exact λp e=>ak (h p e)
 |two w x y z=>
  obtain⟨f,_⟩:=B;rcases f with rfl|rfl|rfl|rfl<;>(simp![qR,jA,Rw.d,atI_0];exact λp e=>ak (h p e))
 |ifr x a b=>simp![qR,jA,Rw.d,atI_0,atI_1];exact#[bj (by decide),λp e=>ak (h p e)]
 |again x a=>simp![qR,jA,Rw.d,atI_0,atI_1];exact#[bj (by decide),λp e=>ak (h p e)]
structure Gk where
 a:cp
 dn:cp
 lp:cp
 du:cp
 h1:a≠dn
 h2:a≠lp
 h3:a≠du
 h4:dn≠lp
 h5:dn≠du
 h6:lp≠du
structure Gs where
 n:cO
 ps:List Int
 u:List aD
 td:List Rw
 left:Int
def pJ:List Rw->D
 |[]=>.non
 |r::rs=>.tup [r.d,pJ rs]
noncomputable def gF(k:Gk)(td:D)(left:Int):List (Str×D):=[("numbers",.ref k.dn),("pieces",.ref k.lp),("unsettled",.ref k.du),("todo",td),("left",.int left)]
def gM(ad:Ad)(k:Gk)(g:Gs)(M:Mem):Mem:=(((M.upd k.a<|.ins ad.C_Going<|gF k (pJ g.td) g.left).upd k.dn<|.dK<|eI g.n).upd k.lp<|.lst<|g.ps.map D.int).upd k.du (.dK<|uD g.u)
theorem ia:gM ad k g M k.du=ap (.dK<|uD g.u):=by unfold gM;simp_all
theorem qv:gM ad k g M k.lp=ap (.lst<|g.ps.map D.int):=by unfold gM;rw[ae k.h6,Mem.upd_same]
theorem gW:gM ad k g M k.dn=ap (.dK<|eI g.n):=by unfold gM;rw[ae k.h5,ae k.h4,Mem.upd_same]
theorem cY:gM ad k g M k.a=ap (.ins ad.C_Going<|gF k (pJ g.td) g.left):=by unfold gM;rw[ae k.h3,ae k.h2,ae k.h1,Mem.upd_same]
theorem oj{b:cp}(e:b≠k.a)(h:b≠k.dn)(p:b≠k.lp)(f:b≠k.du):gM ad k g M b=M b:=by
 unfold gM;rw[ae f,ae p,ae h,ae e]
structure Gk.Fr(k:Gk)(M:Mem):Prop where
 a:M k.a=ca
 dn:M k.dn=ca
 lp:M k.lp=ca
 du:M k.du=ca
theorem cz{b:cp}(h:gM ad k g M b=ca):b≠k.a/\b≠k.dn/\b≠k.lp/\b≠k.du/\M b=none:=by
 have e:b≠k.a:=λz=>by rw[z,cY]at h;cases h
 have B:b≠k.dn:=λz=>by rw[z,gW]at h;cases h
 have p:b≠k.lp:=λz=>by rw[z,qv]at h;cases h
 have f:b≠k.du:=λz=>by rw[z,ia]at h;cases h
 rw[oj e B p f]at h;trivial
theorem dO(f:k.Fr M){b:cp}(e:M b=ap o):gM ad k g M b=ap o:=by
 rw[oj (λz=>by rw[z,f.a]at e;cases e) (λz=>by rw[z,f.dn]at e;cases e) (λz=>by rw[z,f.lp]at e;cases e) (λz=>by rw[z,f.du]at e;cases e)]
 exact e
theorem sv(f:k.Fr M){b:cp}(e:M b=ap o):(gM ad k g M).upd b h=gM ad k g (M.upd b h):=by
 have n1:k.a≠b:=λz=>by rw[<- z,f.a]at e;cases e
 have n2:k.dn≠b:=λz=>by rw[<- z,f.dn]at e;cases e
 have p:k.lp≠b:=λz=>by rw[<- z,f.lp]at e;cases e
 unfold gM;rw[aC (λz=>by rw[<- z,f.du]at e;cases e),aC p,aC n2,aC n1]
theorem uX:(gM ad k g M).upd k.a (.ins ad.C_Going<|gF k (pJ td) left)=gM ad k { g with td:=td,left:=left } M:=by
 unfold gM;rw[aC (Vu k.h3),aC (Vu k.h2),aC (Vu k.h1),Mem.upd_upd]
theorem N7{n:cO}:(gM ad k g M).upd k.dn (.dK<|eI n)=gM ad k { g with n:=n } M:=by
 unfold gM;rw[aC (Vu k.h5),aC (Vu k.h4),Mem.upd_upd]
theorem Sh:(gM ad k g M).upd k.lp (.lst<|ps.map D.int)=gM ad k { g with ps:=ps } M:=by
 unfold gM;rw[aC (Vu k.h6),Mem.upd_upd]
theorem O5:(gM ad k g M).upd k.du (.dK<|uD u)=gM ad k { g with u:=u } M:=by
 unfold gM
 simp_all
theorem MA:Vw ("numbers":Str) (gF k td left)=ap (.ref k.dn):=rfl
theorem gf1:Vw ("pieces":Str) (gF k td left)=ap (.ref k.lp):=rfl
theorem MR:Vw ("unsettled":Str) (gF k td left)=ap (.ref k.du):=rfl
theorem RM:Vw ("todo":Str) (gF k td left)=ap td:=rfl
theorem gf4:Vw ("left":Str) (gF k td left)=ap (.int left):=rfl
theorem gfs:Vw ("settled":Str) (gF k td left)=none:=rfl
theorem PK:b_ "todo" d (gF k td left)=gF k d left:=rfl
theorem Tk:b_ "left" (.int v) (gF k td left)=gF k td v:=rfl
theorem gfl:(gF k td left).length=5:=rfl
theorem eW(h:Q (pJ (rs++td)) M):nD ad [.tup (aH rs),pJ td] M Q E:=by
 rw[RQ];unfold CW
 simp_arith! only[ah,cj,QP,aa,ac,ag,UL,dt]
 refine cE (λF U N=>∃(c:Option D)(us p:List Rw),rs=us++p/\F=(aH us).reverse/\U=[ap (.tup<|aH rs),ap (pJ (p++td)),c]/\N=M) (λ_ _ _ _=>aM) ?_ ?_ _ _ _ #[ca,rs,[],by simp,rfl,rfl,rfl]
 .rintro U N ⟨c,us,p,B,f,rfl,rfl⟩
  have:us=[]:=by
   cases us with
   |nil=>rfl
   |cons a b=>rw[aH]at f;simp at f
  subst this;rw[Vm]at B;subst B
  simp_arith! only[aB,ac,UL,dt]
  exact ak h
 .rintro y F U N ⟨c,us,p,B,f,rfl,rfl⟩ D' G _ _ _
  obtain⟨e,r,rfl⟩:∃e r,us=e++[r]:=by
   rcases List.eq_nil_or_concat us with z|⟨e,r,z⟩
   .subst z;rw[aH]at f;simp at f
   .exact#[e,r,by simpa using z]
  rw[iz,V9,List.reverse_append]at f;simp only[UR,VG,Yu,List.reverse_nil,Vm,Vk,VQ]at f;obtain⟨rfl,rfl⟩:=f;simp only[af,Va];unfold tm
  simp_arith! only[ao,aS,aa,ac,ag,af,Va,UL,dt]
  exact#[bj (by simp),G _ _ #[_,e,r::p,by simp[B],by rw[iz],rfl,rfl]]
structure GOk(C:Cse)(g:Gs):Prop where
 n:NOk C.names C.w g.n
 lp:g.ps.length=C.many
 rp:∀v∈g.ps,0<=v/\v<C.w
 td:bf C.names C.w C.many g.td
noncomputable def Gs.cf(C:Cse)(g:Gs):Cf:=#[C.w,g.ps,C.most]
theorem GOk.pd(k:GOk C g):C.d=aX (g.cf C) C.names C.rows C.mn:=by unfold Cse.d aX Gs.cf;rw[k.lp]
theorem GOk.co(k:GOk C g)(o:C.Ok):COk (g.cf C):=#[o.m2,o.m1,k.rp,by show g.ps.length<=_;rw[k.lp];have:=o.few;lia,o.most]
def ML(C:Cse)(n:cO):Rw->Option Int
 |.take _ i=>ap i
 |.pick _ y=>ap (nm n y % (C.many:Int))
 |_=>ca
noncomputable def Pb(o:Option Int):D:=match o with
 |some i=>.int i
 |none=>.non
theorem ik(h:eF names m many r)(e:bt r=true):cM names m many r:=by
 cases r<;>first|exact h|cases e
theorem ly(k:GOk C g)(F:eF C.names C.w C.many r)(B:M p=ap (.dK<|eI g.n))(h:Q (Pb<|ML C g.n r) M):nv ad [C.d,.ref p,r.d] M Q E:=by
 cases f:bt r with
 |true=>
  rw[k.pd];refine cJ k.n (by have:=ik F f;rw[<- k.lp]at this;exact this) B ?_
  have e:((g.cf C).pieces.length:Int)=C.many:=by show (g.ps.length:Int)=_;rw[k.lp]
  cases r with
  |pick x y=>
   show Q (.int _) M;rw[e];exact h
  |_=>exact h
 |false=>
  cases r with
  |ifr x a b=>simp![r9,jX,Cse.d,Rw.d,atI_0];exact ak h
  |again x a=>simp![r9,jX,Rw.d,atI_0];exact ak h
  |_=>cases f
theorem yj(o:C.Ok)(k:GOk C g)(W:eF C.names C.w C.many r)(P:bt r=true)(Y:M O=ap (.dK<|eI g.n))(X:M lp=ap (.lst<|g.ps.map D.int))(h:Q (.int<|num (g.cf C) g.n r) M):
  ou ad [C.d,.ref O,.ref lp,r.d] M Q E:=by
 have hm1:=o.m1;have hm2:=o.m2;have hc:=k.co o;have f:=ik W P;have H:=k.lp;have F:∀i:Nat,i<C.many->(g.ps.map D.int)[i]?=ap (.int<|(g.ps[i]?).getD 0):=λi hi=>by
  rw[UT,UO (by lia)];rfl
 have p:∀{K:DK},K (Pb<|ML C g.n r) M->∀Q' E',(∀d M,K d M->Q' d M)->nv ad [C.d,.ref O,r.d] M Q' E':=λ{K} q Q' E' e=>ly k W Y (e _ _ q);have B:=@zi C;cases r with
 |put x v=>
  simp![kZ,h7,B,Rw.d,atI_0,atI_2];exact ak h
 |take x i=>
  obtain⟨R,J,h1⟩:=f;have G:=F i.toNat (by lia)
  rw[Rw.d]at p ⊢;simp![kZ,h7,atI_0,atI_2];refine ar λQ' E' e _=>p (K:=λd M=>_) ?_ Q' E' e;simp![ML,Pb,X,bE J,G];exact ak h
 |pick x y=>
  obtain⟨R,S,J⟩:=f;have g0:=VW (nm g.n y) (show (C.many:Int)≠0 by lia)
  have g1:=VX (nm g.n y) J;have G:=F (nm g.n y % (C.many:Int)).toNat (by lia)
  have Z:num (g.cf C) g.n (.pick x y)=(g.ps[(nm g.n y % (C.many:Int)).toNat]?).getD 0:=by show (g.ps[(nm g.n y % (g.ps.length:Int)).toNat]?).getD 0=_;rw[H]
  rw[Z]at h;rw[Rw.d]at p ⊢;simp![kZ,h7,atI_0,atI_2];refine ar λQ' E' e _=>p (K:=λd M=>_) ?_ Q' E' e;simp![ML,Pb,X,bE g0,G];exact ak h
 |two w x y z=>
  obtain⟨hw,R,S,hz⟩:=f;have a1:=k.n.at S;have a2:=k.n.at hz;have I:((w=W8 "put")=False):=by rcases hw with rfl|rfl|rfl|rfl<;>exact eq_false (by decide +kernel)
  rw[Rw.d]at p ⊢;simp![kZ,h7,atI_0,atI_2,I];refine ar λQ' E' e _=>p (K:=λd M=>_) ?_ Q' E' e;simp![ML,Pb,B,atI_0,atI_2,atI_3,Y,cy,a1.1,a2.1,VV];exact aG (d:=.int (num (g.cf C) g.n<|.two w x y z)) (λ_ _ q=>kT (by lia) (by lia) (by lia) q) (ak h)
 |ifr=>cases P
 |again=>cases P
def fX(C:Cse)(g:Gs)(r:Rw):Option aD:=
 if g.u=[] then ca else match (eD C).filter λk=>decide (k∈((fk r).filter λx=>decide ((Vr x:aD)∈g.u)).map Vr) with
  |k::_=>ap k
  |[]=>match ML C g.n r with
   |some i=>if (V6 i:aD)∈g.u then ap (.inl i) else ca
   |none=>ca
def LG:Option aD->D
 |some k=>kD k
 |none=>.non
theorem AF(h:eF names m many r):∀x∈fk r,x∈names:=by
 cases r with
 |pick x y=>intro z e;simp[fk]at e;subst e;exact h.2.1
 |two w x y z=>intro v f;simp[fk]at f;rcases f with rfl|rfl;exact h.2.2.1;exact h.2.2.2
 |ifr x a b=>intro z e;simp[fk]at e;subst e;exact h.1
 |again x a=>intro z e;simp[fk]at e;subst e;exact h.1
 |_=>simp[fk]
theorem Ia:(fk r).length<=2:=by cases r<;>simp[fk]
theorem uD_emp:(uD u).isEmpty=u.isEmpty:=by cases u<;>rfl
theorem HH:iJ (gM ad k g M) (.str x) (.ref k.du)=ap (decide ((Vr x:aD)∈g.u)):=by
 have:=rM (k:=.inr x) (ia (ad:=ad) (k:=k) (g:=g) (M:=M));rw[m5]at this;exact this
theorem rP(o:C.Ok)(ok:GOk C g)(R:eF C.names C.w C.many r)(h:Q (LG<|fX C g r) (gM ad k g M)):AC ad [C.d,.ref k.a,r.d] (gM ad k g M) Q E:=by
 have J:=AF R;have H:=Ia (r:=r);rw[UD];unfold z8
 simp_arith! only[ah,aJ,gI,cW,aW,ac,UL,dt,cY,MR,Ig,ia]
 refine#[trivial,?_];unfold fX at h;cases Y:g.u with
 |nil=>
  rw[if_pos Y]at h;exact ak h
 |cons u0 ur=>
  rw[if_neg (by rw[Y];simp)]at h
  refine#[rfl,ar λQ' E' P _=>nR R λp f=>P _ _ (bU f ?_)]
  simp_arith! only[aO,cB,UR,VG,Vk,Vm,UL,dt,V3]
  refine dh (λd=>match d with|.str x=>decide ((Vr x)∈g.u)|_=>cx) id aM (by simp;lia) (λx B K q=>?_) (λx B _ K q=>q) ?_
  .obtain⟨y,hy,rfl⟩:=UZ.mp B
   simp_arith! only[am,ai,ac,aW,UL,dt,cY,MR,wU,HH]
   trivial
  intro p f;generalize I:((fk r).filter _)=fnd at h;have e:(((fk r).map D.str).filter λd=>match d with|.str x=>decide ((Vr x:aD)∈g.u)|_=>cx).map id=(fnd.map Vr).map kD:=by
   rw[Wd,VJ,<- I,Vf];rfl
  have Z:∀x∈fnd,x∈C.names:=λx B=>by rw[<- I]at B;exact J x (Vd.mp B).1
  have hfl:fnd.length<=2:=by rw[<- I];exact Vb (VA _ _) H
  rw[e];refine bU (Q:=λd M'=>(mQ ad<|aI E) _ [ap C.d,ap (.ref k.a),ap r.d,ap d,ca] M') f ?_;unfold mQ
  simp_arith! only[ah,aJ,cW,ac,UL,dt,Ig]
  cases G:fnd with
  |nil=>
   have hz:((eD C).filter λk=>decide (k∈(fnd.map Vr:List aD)))=[]:=by rw[G];simp
   rw[hz]at h;simp only[aE];unfold sV tT
   simp_arith! only[ah,ao,aq,aj,aa,ac,ag,aW,UL,dt,cY,MA]
   refine#[trivial,rfl,aG (λ_ _ q=>ly ok R gW q) ?_];cases f:ML C g.n r with
   |none=>
    simp only[f]at h
    simp_arith! only[Pb,frz,af,Va,aB,pq,am,ai,ac,dC,aW,UL,dt,cY,MR,FV,A4,ia]
    refine#[trivial,?_];exact ak h
   |some i=>
    simp only[f]at h;have O:=rM (k:=.inl i) (ia (ad:=ad) (k:=k) (g:=g) (M:=M));rw[m5]at O;simp only[kD]at O
    simp_arith! only[Pb,frz,af,Va,aB,pq,am,ai,ac,dC,aW,UL,dt,cY,MR,FV,A4,O]
    refine#[trivial,?_]
    by_cases c:(V6 i:aD)∈g.u
    .rw[if_pos c]at h
     rw[if_pos (by simpa using c)]
     exact ak h
    .rw[if_neg c]at h
     rw[if_neg (by simpa using c)]
     exact ak h
  |cons f0 fr=>
   have F:∃X W,((eD C).filter λk=>decide (k∈(fnd.map Vr:List aD)))=X::W:=by
    have:(Vr f0:aD)∈(eD C).filter λk=>decide (k∈(fnd.map Vr:List aD)):=by
     refine Vd.mpr #[Xj _ (by simp_all),?_]
     rw[G];simp
    cases q:(eD C).filter _ with
    |nil=>rw[q]at this;cases this
    |cons a b=>exact#[a,b,rfl]
   obtain⟨X,W,S⟩:=F;rw[S]at h;simp only at h;refine#[rfl,ar λQ' E' P _=>uP o (by rw[<- G,UM];lia) λp f=>P _ _ (bU f ?_)]
   rw[<- G,S];exact ak h
theorem okRs_app{names:abY}{m many:Int}:∀{a b:List Rw},bf names m many (a++b)↔bf names m many a/\bf names m many b
 |[],b=>by simp[bf]
 |r::a,b=>by simp[bf,okRs_app,and_assoc]
def qg(C:Cse)(g:Gs)(rest:List Rw):Rw->Gs
 |.ifr x a b=>{ g with left:=g.left-1,td:=(if nm g.n x=0 then b else a)++rest }
 |.again x a=>{ g with left:=g.left-1,td:=if nm g.n x=0 then rest else a++(.again x a::rest) }
 |r=>{ g with left:=g.left-1,td:=rest,n:=sN g.n (iV r) (num (g.cf C) g.n r),u:=g.u.filter λk=>decide (k≠.inr (iV r)) }
theorem oW:(qg C g rest r).left=g.left-1:=by cases r<;>rfl
theorem F1(o:C.Ok)(ok:GOk C g)(f:eF C.names C.w C.many r)(e:bt r=true):0<=num (g.cf C) g.n r/\num (g.cf C) g.n r<C.w:=
 Aa (ok.co o) ok.n (by have:=ik f e;rw[<- ok.lp]at this;exact this)
theorem x_(o:C.Ok)(ok:GOk C g)(e:g.td=r::rest):GOk C (qg C g rest r):=by
 have h:=ok.td;rw[e]at h;obtain⟨p,f⟩:=h;have B:bt r=true->GOk C { g with left:=g.left-1,td:=rest,n:=sN _ (iV r) _,u:=g.u.filter λk=>decide (k≠.inr (iV r)) }:=λF=>
  #[Fp (c:=g.cf C) ok.n (F1 o ok p F),ok.lp,ok.rp,f]
 cases r with
 |ifr x a b=>
  refine#[ok.n,ok.lp,ok.rp,okRs_app.mpr #[?_,f]]
  split
  .exact p.2.2
  exact p.2.1
 |again x a=>
  refine#[ok.n,ok.lp,ok.rp,?_];show bf _ _ _ (if nm _ x=0 then rest else a++(.again x a::rest))
  split
  .exact f
  exact okRs_app.mpr #[p.2,p,f]
 |_=>exact B rfl
theorem yO(h:cM names m many r):iV r∈names:=by
 cases r with
 |two w x y z=>exact h.2.1
 |ifr=>exact h.elim
 |again=>exact h.elim
 |_=>exact h.1
theorem Gp:RI (gM ad k g M) (.ref k.du)=true:=by simp[RI,ia]
theorem JO(h:k∉u):u.filter (λx=>decide (x≠k))=u:=Z5.mpr (by lia)
theorem Pn(o:C.Ok)(ok:GOk C g)(p:eF C.names C.w C.many r)(f:bt r=true)(h:D'.nx [ap C.d,ap (.ref k.a),ap r.d] (gM ad k { g with n:=sN g.n (iV r) (num (g.cf C) g.n r),u:=g.u.filter λk=>decide (k≠.inr (iV r)) } M)):
  ie ad EE D' [ap C.d,ap (.ref k.a),ap r.d] (gM ad k g M):=by
 have e:∀{M:Mem}{K:DK},K (.str<|iV r) M->az r.d (.int 1) M K:=λq=>by
  cases r<;>assumption
 unfold ie uf
 simp_arith! only[ah,ao,aq,aj,aa,ac,aW,UL,dt,cY,MA]
 refine#[trivial,trivial,rfl,aG (λ_ _ q=>yj o ok p f gW qv q) ?_]
 simp_arith! only[frz,cZ,aW,ai,ac,dC,UL,dt,cY,MA]
 refine#[trivial,e ?_];have F:(eI g.n).length<sizeLine:=by
  have G:(eI g.n).length=C.names.length:=by rw[<- ok.n.keys];simp[eI]
  have:=o.l1;exact gn (by lia)
 simp_arith! only[lD,gW,cP,m8 (by rw[ok.n.keys];exact(yO<|ik p f)),N7]
 refine#[F,?_]
 simp_arith! only[bg,Hi,aW,ai,ac,dC,UL,dt,cY,MR,Gp]
 refine#[trivial,trivial,e ?_]
 simp_arith! only[ia,cP]
 cases H:cV (uD _) _ with
 |some v=>simp only[PM,xm,O5];exact h
 |none=>
  have B:(Vr<|iV r)∉g.u:=λz=>by
   have:=m5 (u:=g.u) (k:=.inr (iV r))
   simp_all
  rw[JO B]at h;exact h
theorem nr{rest:List D}(f:U[2]?=ap (ap<|.tup (.str w::rest)))(q:K (decide (w=e)) M):am (ai ck (ai az (ac 2)<|dC<|.int 0)<|dC<|.str e) U M K:=by
 simp_arith! only[am,ai,ac,f]
 trivial
theorem E7(h:eF C.names C.w C.many r)(e:bt r=true):∃w rest,r.d=.tup (.str w::rest)/\decide (w=("if":Str))=cx/\decide (w=("again":Str))=false:=by
 cases r with
 |ifr=>cases e
 |again=>cases e
 |two w x y z=>
  obtain⟨f,_⟩:=h;refine#[_,_,rfl,?_];rcases f with rfl|rfl|rfl|rfl<;>exact#[by rfl,by rfl]
 |_=>exact#[_,_,rfl,by rfl,by rfl]
theorem xT(o:C.Ok)(ok:GOk C g)(e:g.td=r::rest)(h:Q .non (gM ad k (qg C g rest r) M)):AT ad [C.d,.ref k.a,r.d] (gM ad k g M) Q E:=by
 have htd:=ok.td;rw[e]at htd;obtain⟨hr,hrest⟩:=htd;have ok1:GOk C { g with td:=rest,left:=g.left-1 }:=#[ok.n,ok.lp,ok.rp,hrest];rw[TB];unfold BZ ug;have etd:pJ g.td=.tup [r.d,pJ rest]:=by rw[e];rfl
 have u1:=uX (ad:=ad) (k:=k) (g:=g) (M:=M) (td:=g.td) (left:=g.left-1)
 simp_arith! only[ah,tI,cK,aW,ai,ac,dC,UL,dt,cY,gf4,gfl,Tk,u1]
 refine#[trivial,by decide,trivial,trivial,?_]
 have u2:=uX (ad:=ad) (k:=k) (g:={ g with left:=g.left-1 }) (M:=M) (td:=rest) (left:=g.left-1);have u3:=uX (ad:=ad) (k:=k) (g:=g) (M:=M) (td:=rest) (left:=g.left-1)
 simp_arith! only[RM,gf4,Tk,Mem.upd_same,Mem.upd_upd,u3,etd,dC,ac,az,aO,atI_1,UL,dt,cY,gfl,PK,u2]
 refine#[trivial,by decide,?_]
 have hset:bt r=true->∀{D':DEnds}{EE:DX},D'.nx [ap C.d,ap (.ref k.a),ap r.d] (gM ad k (qg C g rest r) M)->ie ad EE D' _ (gM ad k _ M):=λhs D' EE q=>Pn o ok1 hr hs (by
  cases r<;>trivial)
 have hset':bt r=true->(ie ad<|aI E) { nx:=λ_ M'=>drp Q .non M',rt:=drp Q } _ _:=λhs=>by
  exact hset hs (ak h)
 by_cases hs:bt r=true
 .obtain⟨w,wr,er,n1,n2⟩:=E7 hr hs
  have:=hset' hs;rw[er]at this ⊢;refine nr rfl ?_;simp only[n1,if_false];refine nr rfl ?_
  simp_all
 cases r with
 |ifr x a b=>
  have hx:=hr.1;have hn:=(ok1.n.at hx).1;have u3:=λl=>uX (ad:=ad) (k:=k) (g:={ g with td:=rest,left:=g.left-1 }) (M:=M) (td:=l) (left:=g.left-1);have fin:∀l:List Rw,(qg C g rest<|.ifr x a b).td=l++rest->calls (nD ad) (aI E) [.tup (aH l),pJ rest] (gM ad k { g with td:=rest,left:=g.left-1 } M) (λd M'=>frz d M' λy M1=>match M1 k.a with
    |some (MO.ins C' fs)=>C'=ad.C_Going/\fs.length<1000/\drp Q D.non (M1.upd k.a<|MO.ins ad.C_Going<|b_ (W8 "todo") y fs)
    |_=>False) #[]:=λl hl=>by
   refine aG (λ_ _ q=>eW q) ?_;have ft:∀{l:List Rw}{M:Mem}{Q:DK},Q (pJ l) M->frz (pJ l) M Q:=λ{l} {M} {Q} q=>by cases l<;>exact q
   refine ft ?_;simp only[cY,gfl,PK,u3];rw[<- hl];exact#[trivial,by decide,ak h]
  simp only[Rw.d];refine nr rfl ?_;simp![atI_1,atI_2,atI_3,cY,MA,RM,gW,cy,hn,VV]
  by_cases c:nm g.n x=0
  .simp only[c,if_true]
   exact fin b (by simp only[qg,c,if_true])
  .simp only[c]
   exact fin a (by simp only[qg,c,if_false])
 |again x a=>
  have hx:=hr.1;have hn:=(ok1.n.at hx).1;have u3:=λl=>uX (ad:=ad) (k:=k) (g:={ g with td:=rest,left:=g.left-1 }) (M:=M) (td:=l) (left:=g.left-1);have n1:decide ("again"="if")=false:=by rfl
  simp only[Rw.d];refine nr rfl ?_;refine nr rfl ?_;simp;simp![atI_1,atI_2,cY,MA,RM,gW,cy,hn,VV]
  by_cases c:nm g.n x=0
  .simp only[c,decide_true]
   refine ak ?_;have:qg C g rest (.again x a)={ g with td:=rest,left:=g.left-1 }:=by simp only[qg,c,if_true]
   simp_all
  simp only[c,decide_false,Y7,if_true];refine#[bj (by decide),?_]
  refine aG (λ_ _ q=>eW (td:=.again x a::rest) q) ?_;have ft:∀{l:List Rw}{M:Mem}{Q:DK},Q (pJ l) M->frz (pJ l) M Q:=λ{l} {M} {Q} q=>by cases l<;>exact q
  refine ft ?_
  simp_arith! only[ac,UL,dt,cY,gfl,PK,u3]
  have:qg C g rest (.again x a)={ g with td:=a++(.again x a::rest),left:=g.left-1 }:=by simp only[qg,c,if_false]
  rw[<- this];exact#[trivial,by decide,ak h]
 |_=>trivial
def ce(C:Cse):Nat->Gs->Option aD×Gs
 |0,g=>(ca,g)
 |f+1,g=>match g.td with
  |[]=>(if (Vr C.mn:aD)∈g.u then ap (.inr C.mn) else ca,g)
  |r::rest=>if g.left<=0 then (ca,g) else match fX C g r with
   |some k=>(ap k,g)
   |none=>ce C f (qg C g rest r)
section
variable{k:Gk}
theorem Ou:k_ (pJ td)=td.isEmpty:=by cases td<;>rfl
theorem tQ(o:C.Ok):∀(f:Nat)(g:Gs),GOk C g->GOk C (ce C f g).2
 |0,g,h=>h
 |f+1,g,h=>by
  unfold ce;cases e:g.td with
  |nil=>exact h
  |cons r rest=>
   dsimp only
   split
   .exact h
   cases a:fX C g r with
   |some k=>exact h
   |none=>exact tQ o f _ (x_ o h e)
theorem KL(o:C.Ok)(ok:GOk C g)(e:g.td=r::rest)(R:g.left<=0->D'.rt .non (gM ad k g M))(S:¬g.left<=0->∀q,fX C g r=ap q->D'.rt (kD q) (gM ad k g M))(h3:¬g.left<=0->fX C g r=ca->∀G F,D'.nx [ap C.d,ap (.ref k.a),G,F] (gM ad k (qg C g rest r) M)):iw ad EE D' [ap C.d,ap (.ref k.a),G,F] (gM ad k g M):=by
 have f:=ok.td;rw[e]at f;obtain⟨I,h⟩:=f;have B:pJ g.td=.tup [r.d,pJ rest]:=by rw[e];rfl
 unfold iw
 simp_arith! only[ah,aJ,am,ai,aW,ac,dC,oLe,k4,UL,dt,cY,gf4]
 refine#[trivial,?_]
 by_cases p:g.left<=0
 .rw[if_pos (by simp_all)]
  exact R p
 rw[if_neg (by simp_all)]
 simp[aE];unfold t9 tN
 simp_arith! only[ah,ao,ai,aW,ac,UL,dt,cY,B]
 refine#[trivial,rfl,aG (λ_ _ q=>rP o ok I q) ?_];have O:∀{q:Option _}{M:Mem}{Q:DK},Q (LG q) M->frz (LG q) M Q:=λ{q} {M} {Q} z=>by
  cases q with
  |none=>exact z
  |some k=>cases k<;>exact z
 refine O ?_;unfold t8 tu;have P:k_ (LG<|fX C g r)=(fX C g r).isNone:=by
  cases fX C g r with
  |none=>rfl
  |some k=>cases k<;>rfl
 simp_arith! only[af,Va,ah,aJ,am,ai,ac,dC,fK,UL,dt,P]
 cases H:fX C g r with
 |some q=>
  exact S p q H
 |none=>
  exact#[rfl,ar λQ' E' J _=>xT o ok e (J _ _<|h3 p H _ _)]
theorem rB{EE:DX}{D':DEnds}{J:BxW (am<|ai fK (aW ad.C_Going (ac 1) "todo")<|dC .non) (iw ad EE) D'}(o:C.Ok):∀(f:Nat)(g:Gs)(h p:Option D),GOk C g->g.left<f->
  (∀h p g',(ce C f g)=(if (Vr C.mn:aD)∈g'.u then ap (.inr C.mn) else ca,g')->g'.td=[]->D'.nx [ap C.d,ap (.ref k.a),h,p] (gM ad k g' M))->
  (∀g' q,ce C f g=(q,g')->D'.rt (LG q) (gM ad k g' M))->0<=g.left->
  cC (am<|ai fK (aW ad.C_Going (ac 1) "todo")<|dC .non) (iw ad EE) D' J (f+1) [ap C.d,ap (.ref k.a),h,p] (gM ad k g M)
 |0,g,h,p,ok,hf,h1,h2,h0=>by lia
 |f+1,g,h,p,ok,hf,h1,h2,h0=>by
  have I:∀K:Bool->Mem->Prop,K _ _->am (ai fK (aW _ (ac 1) "todo")<|dC .non) [ap C.d,ap (.ref k.a),h,p] (gM ad k g M) K:=λK q=>by
   simp_arith! only[am,ai,aW,ac,dC,UL,dt,cY,RM,fK,Ou]
   trivial
  cases e:g.td with
  |nil=>
   refine whF (by simp_all) (h1 h p g ?_ e)
   unfold ce;rw[e]
  |cons r rest=>
   have B:ce C (f+1) g=if g.left<=0 then (ca,g) else match fX C g r with
    |some k=>(ap k,g)
    |none=>ce C f (qg C g rest r):=by conv=>lhs;unfold ce;rw[e]
   have H:(qg C g rest r).left=g.left-1:=oW;refine whT (by simp_all) (KL o ok e (λF=>?_) (λF q G=>?_) λF G h p=>?_)
   .rw[if_pos F]at B
    exact h2 g _ B
   .rw[if_neg F,G]at B
    exact h2 g _ B
   exact rB o f _ _ _ (x_ o ok e) (by lia) (by simp_all) (by lia) (by lia)
theorem EJ{f:Nat}(o:C.Ok)(ok:GOk C g)(B:0<=g.left)(F:g.left<f)(h:Q (LG (ce C f g).1) (gM ad k (ce C f g).2 M)):B1 ad [C.d,.ref k.a] (gM ad k g M) Q E:=by
 refine#[_,rB o f g _ _ ok F (λG H p e _=>?_) (λp q e=>?_) B]
 .unfold tZ
  rw[e]at h
  simp_arith! only[(@zi C),aB,pq,am,ai,aW,ac,dC,UL,dt,az,aO,atI_4,cY,MR,wU,HH]
  refine#[trivial,?_]
  by_cases c:(Vr C.mn)∈p.u
  .simp[if_pos c]at h
   rw[if_pos (by simpa using c)]
   exact ak h
  simp only[if_neg c]at h;rw[if_neg (by simpa using c)]
  exact ak h
 rw[e]at h;exact ak h
def RP(C:Cse)(g:Gs):D:=if g.td=[] then .int (nm g.n C.mn) else .non
theorem wj(o:C.Ok)(ok:GOk C g)(h:Q (RP C g) (gM ad k g M)):Dk ad [C.d,.ref k.a] (gM ad k g M) Q E:=by
 rw[Sz];unfold ze
 simp_arith! only[aB,pq,am,ai,aW,ac,dC,UL,dt,cY,RM,lB]
 refine#[trivial,?_];unfold RP at h;cases e:g.td with
 |nil=>
  rw[if_pos e]at h
  simp_arith! only[(@zi C),ai,ac,dC,MA,az,aO,atI_4,UL,dt,gW,rO,cP,cy,((ok.n.at o.mn).1)]
  exact#[trivial,ak h]
 |cons r rest=>
  rw[if_neg (by rw[e];simp)]at h
  exact ak h
end
def eY(g:Gs)(q:aD)(v:Int):Gs:=match q with
 |.inl i=>{ g with u:=g.u.filter λk=>decide (k≠q),ps:=g.ps.set i.toNat v }
 |.inr x=>{ g with u:=g.u.filter λk=>decide (k≠q),n:=sN g.n x v }
theorem sW(ok:GOk C g)(e:0<=v/\v<C.w):GOk C (eY g q v):=by
 cases q with
 |inl i=>
  refine#[ok.n,by show (g.ps.set _ _).length=_;rw[Wg];exact ok.lp,λz f=>?_,ok.td]
  rcases List.mem_or_eq_of_mem_set f with h|h
  .exact ok.rp z h
  rw[h];exact e
 |inr x=>exact#[Fp (c:=g.cf C) ok.n e,ok.lp,ok.rp,ok.td]
theorem e_:(eY g q v).u=g.u.filter λk=>decide (k≠q):=by cases q<;>rfl
theorem fm:(eY g q v).left=g.left:=by cases q<;>rfl
theorem nT{x:cp}(h:Q .non (M.upd x<|.ins ad.C_Going [("numbers",e),("pieces",f),("unsettled",d3),("todo",td),("left",.int left)])):
  ID ad [.ref x,e,f,d3,td,.int left] (M.upd x<|.ins ad.C_Going []) Q E:=by
 have G:b_ _ e []=[(("numbers":Str),e)]:=rfl;have p:b_ "pieces" f [("numbers",e)]=[(("numbers":Str),e),("pieces",f)]:=rfl;have B:b_ "unsettled" d3 [("numbers",e),("pieces",f)]=[(("numbers":Str),e),("pieces",f),("unsettled",d3)]:=rfl;have F:b_ "todo" td [("numbers",e),("pieces",f),("unsettled",d3)]=[(("numbers":Str),e),("pieces",f),("unsettled",d3),("todo",td)]:=rfl;rw[u_q3];unfold L5;simp![Mem.upd_upd,G,p,B,F];exact#[by decide,by decide,by decide,by decide,by decide,ak h]
structure Gat(ad:Ad)(k:Gk)(g:Gs)(N:Mem):Prop where
 a:N k.a=ap (.ins ad.C_Going<|gF k (pJ g.td) g.left)
 dn:N k.dn=ap (.dK<|eI g.n)
 lp:N k.lp=ap (.lst<|g.ps.map D.int)
 du:N k.du=ap (.dK<|uD g.u)
theorem Gat.of:Gat ad k g (gM ad k g M):=#[cY,gW,qv,ia]
theorem Gat.more(h:Gat ad k g M)(f:k1.Fr M):Gat ad k g (gM ad k1 e M):=#[dO f h.a,dO f h.dn,dO f h.lp,dO f h.du]
theorem tE(at':Gat ad k g N)(o:C.Ok)(ok:GOk C g)(hk:q∈eD C)(hu:q∈g.u)(h:∀Z:Gk,Z.Fr N->Q (.ref Z.a) (gM ad Z (eY g q v) N)):
  FQ ad [.ref k.a,kD q,.int v] N Q E:=by
 obtain⟨J,hdn,R,F⟩:=at';rw[u_q6];unfold Md
 simp_arith! only[ah,ao,iR,aa,b6,aW,ac,dt,J,MA,k7,hdn]
 refine#[trivial,λW S=>?_];have a1:=Mem.ne J S;have l1:=Mem.ne R S;have u1:=Mem.ne F S
 simp_arith! only[ae a1,J,gf1,gb,aO,ae l1,R]
 refine#[trivial,λX Y=>?_];have I:=Mem.ne Mem.upd_same Y;rw[ae I.symm]at Y;have a2:=Mem.ne J Y;have u2:=Mem.ne F Y
 simp_arith! only[aa,b6,k7,aW,ac,dt,ae a2,ae a1,J,MR,ae u2,ae u1,F]
 refine#[trivial,λP O=>?_];have G:=Mem.ne Mem.upd_same O;rw[ae G.symm]at O;have H:=Mem.ne Mem.upd_same O;rw[ae H.symm]at O;have a3:=Mem.ne J O
 simp_arith! only[aa,aW,ac,dt,ae a3,ae a2,ae a1,J,RM]
 refine#[trivial,trivial,rfl,λx B=>?_];have p:=Mem.ne Mem.upd_same B;rw[ae p.symm]at B;have f:=Mem.ne Mem.upd_same B;rw[ae f.symm]at B;have e:=Mem.ne Mem.upd_same B;rw[ae e.symm]at B;refine ar λQ' E' hq _=>nT (hq _ _ ?_);have key:((((N.upd W<|.dK<|eI g.n).upd X<|.lst<|g.ps.map D.int).upd P<|.dK<|uD g.u).upd x<|.ins ad.C_Going [("numbers",.ref W),("pieces",.ref X),("unsettled",.ref P),("todo",pJ g.td),("left",.int g.left)])=gM ad #[x,W,X,P,e.symm,f.symm,p.symm,I,H,G] g N:=by
  unfold gM gF;rw[aC p,aC f,aC e]
 rw[key];have hfr:Gk.Fr #[x,W,X,P,e.symm,f.symm,p.symm,I,H,G] N:=#[B,S,Y,O];have hh:=h _ hfr;generalize hk':(#[x,W,X,P,_,_,_,_,_,_]:Gk)=Z at *;have ex:x=Z.a:=by rw[<- hk']
 rw[ex];simp[af,Va];unfold yn;have hv:=Wi.mp (by rw[m5];simpa using hu)
 obtain⟨w,hv⟩:=hv
 simp_arith! only[ah,bg,Hm,aW,ac,UL,dt,cY,MR,Gp,ia,fO,hv,xm,O5]
 rcases iq hk with⟨y,hy,rfl⟩|⟨i,hi,rfl⟩
 .have nl:(eI g.n).length<sizeLine:=by
   have S:(eI g.n).length=C.names.length:=by rw[<- ok.n.keys];simp[eI]
   have:=o.l1;exact gn (by lia)
  simp only[kD]at hh ⊢;simp![bW,nP,XQ,Yx,XT,Zp,X6,cY,MA,gW,m8 (by rw[ok.n.keys];exact hy),N7]
  exact#[nl,ak hh]
 .have e3:uR (g.ps.map D.int).length i=ap i:=by
   rw[gy (by lia) (by rw[UM,ok.lp];lia),Vj]
  have e4:(g.ps.map D.int).set i (.int v)=(g.ps.set i v).map D.int:=by simp_all
  simp only[kD]at hh ⊢;simp![nP,XQ,Yx,X6,cY,gf1,qv,e3,e4,Sh];exact ak hh
noncomputable def eO(ad:Ad)(L c:Nat):MO:=.ins ad.C_Ends [("limit",.int (L:Nat)),("count",.int (c:Nat))]
inductive Tr where
 |e (m:D)|a (q:aD) (x y:Tr)
def Tr.d:Tr->D
 |.e m=>.tup [.str "end",m]
 |.a q x y=>.tup [.str "ask",kD q,x.d,y.d]
def Tr.asks:Tr->Nat
 |.e _=>0
 |.a _ x y=>1+x.asks+y.asks
def dj(C:Cse)(s t:Sta):Nat->Gs->Tr
 |0,_=>.e .non
 |n+1,g=>match (ce C (C.most+1) g).1 with
  |none=>.e (RP C (ce C (C.most+1) g).2)
  |some q=>.a q (dj C s t n<|eY (ce C (C.most+1) g).2 q<|aL C s q) (dj C s t n<|eY (ce C (C.most+1) g).2 q<|aL C t q)
theorem jd{c:Nat}(f:M e=ap (eO ad L c))(H:c+1<=L)(h:Q .non (M.upd e<|eO ad L (c+1))):F6 ad [.ref e] M Q E:=by
 have F:∀v,b_ "count" _ [("limit",D.int _),("count",D.int c)]=[(("limit":Str),D.int L),("count",D.int v)]:=λ_=>rfl;have G:∀v,Vw ("count":Str) [("limit",D.int L),("count",D.int v)]=ap _:=λ_=>rfl;have B:∀v,Vw ("limit":Str) [("limit",D.int L),("count",D.int v)]=ap _:=λ_=>rfl;have p:decide ((L:Int)<c+1)=false:=decide_eq_false (by lia)
 unfold eO at f h;rw[u_q4];unfold Lh xG
 simp_arith! only[ah,sI,aJ,am,ai,aW,ac,dC,dt,f,F,G,B,Mem.upd_same,k4,p]
 refine#[trivial,by simp,trivial,trivial,trivial,?_]
 refine ak ?_
 assumption
theorem IJ{a:cp}{m:Str}(f:∀K:DK,K (.ref a) M->e U M K)(p:M a=ap (.ins Cl fs))(B:fs.lookup m=ca)(h:t U M λds M2=>ds.length+1=n/\calls T EE (.ref a::ds) M2 Q #[]):dF Cl m T EE n e t U M Q:=by
 refine f _ ?_;simp[FY,p];trivial
theorem Sj(f:Gat ad k g N)(o:C.Ok)(H:SOk C z)(ok:GOk C g)(B:q∈eD C)(I:q∈g.u)(h:∀k1:Gk,k1.Fr N->K (.ref k1.a) (gM ad k1 (eY g q<|aL C z q) N)):
  aq (dF ad.C_Going "settled" (FQ ad) lG 3 (ac 2)<|aa (ac 1)<|aa (aq<|aj (pi ad) lG 3<|aa (ai az (ac 3)<|dC<|.int 0)<|aa (ac 0)<|aa (ac 1) ag) ag) [ap z.d,ap (kD q),ap (.ref k.a),ap (bc C s t)] N K:=by
 have G:∀{a:cp}{M:Mem}{Q:DK}{fs:List _},M a=ap (.ins ad.C_Going fs)->Q _ M->frz (.ref a) M Q:=λ{a M Q fs} e z=>by simp_arith! only[frz,e];exact z
 exact IJ (λK q=>q) f.a gfs #[rfl,aG (λ_ _ z=>eq o H B z)<|(λz=>z) #[rfl,ar λQ' E' F _=>tE f o ok B I λk1 p=>F _ _ (G cY<|h k1 p)]]
theorem pM(e:Gat ad k g N)(o:C.Ok)(P:SOk C s)(J:SOk C t)(ok:GOk C g)(R:q∈eD C)(O:q∈g.u)(h:∀(k1 k2:Gk)(p:cp),k1.Fr N->k2.Fr (gM ad k1 (eY g q<|aL C s q) N)->gM ad k2 (eY g q<|aL C t q) (gM ad k1 (eY g q<|aL C s q) N) p=ca->
   Q (.ref p) ((gM ad k2 (eY g q<|aL C t q)<|gM ad k1 (eY g q<|aL C s q) N).upd p<|.lst [.ref k1.a,.ref k2.a])):
  Ar ad [bc C s t,.ref k.a,kD q] N Q E:=by
 rw[Tg];unfold D8;generalize B:aq (dF _ _ _ _ 3 _ _)=te;have F:∀{N:Mem}{z:Sta}{K:DK},Gat ad k g N->SOk C z->(∀k1:Gk,k1.Fr N->K _ _)->te [ap _,ap _,ap _,ap (bc C s t)] N K:=λ{N z K} I H hh=>by
  rw[<- B];exact Sj I o H ok R O hh
 refine#[aM,?_];refine F e P λk1 f=>#[by trivial,?_]
 exact#[aM,F (e.more f) J λk2 G=>#[gn (by simp),#[aM,λp S=>ak (by simp_all)]]]
theorem nI{b:cp}(h:M b=ap o):M.upd b o=M:=by
 funext c;unfold Mem.upd
 simp_all
theorem LQ(h:k2.Fr (gM ad k1 e N)):gM ad k2 G (gM ad k1 e N)=gM ad k1 e (gM ad k2 G N):=by
 obtain⟨P,Z,a3,S,_⟩:=cz h.a;obtain⟨X,J,b3,b4,_⟩:=cz h.dn;obtain⟨O,R,W,I,_⟩:=cz h.lp;obtain⟨d1,H,d3,Y,_⟩:=cz h.du;funext b
 by_cases F:b=k2.a
 .subst F;rw[cY,oj P Z a3 S,cY]
 by_cases f:b=k2.dn
 .subst f;rw[gW,oj X J b3 b4,gW]
 by_cases p:b=k2.lp
 .subst p;rw[qv,oj O R W I,qv]
 by_cases B:b=k2.du
 .subst B;rw[ia,oj d1 H d3 Y,ia]
 unfold gM;simp[Mem.upd,F,f,p,B]
theorem Rq(h:fX C g r=ap q):q∈g.u:=by
 unfold fX at h
 split at h
 .cases h
 split at h
 .rename_i p B e
  cases h;have:q∈(eD C).filter λk=>decide (k∈((fk r).filter λx=>decide ((Vr x)∈g.u)).map Vr):=by rw[e];simp
  obtain⟨x,f,rfl⟩:=UZ.mp (of_decide_eq_true<|(Vd.mp this).2)
  simp_all
 split at h
 .split at h
  .simp_all
  cases h
 cases h
theorem Tj:(qg C g rest r).u.length<=g.u.length/\∀x∈(qg C g rest r).u,x∈g.u:=by
 have f:∀z:aD,(g.u.filter λk=>decide (k≠z)).length<=g.u.length/\∀x∈g.u.filter (λk=>decide (k≠z)),x∈g.u:=λz=>#[VA _ _,λx e=>(Vd.mp e).1];cases r with
 |ifr=>exact#[UX _,λ_ h=>h]
 |again=>exact#[UX _,λ_ h=>h]
 |_=>exact f _
theorem kG:∀(f:Nat)(g:Gs),((ce C f g).2.u.length<=g.u.length/\∀x∈(ce C f g).2.u,x∈g.u)/\(0<=g.left->0<=(ce C f g).2.left/\(ce C f g).2.left<=g.left)/\∀q,(ce C f g).1=ap q->q∈(ce C f g).2.u
 |0,g=>#[#[UX _,λ_ h=>h],λh=>#[h,Yg _],λq h=>by cases h]
 |f+1,g=>by
  unfold ce;cases e:g.td with
  |nil=>
   simp_all
  |cons r rest=>
   dsimp only
   split
   .simp_all
   cases a:fX C g r with
   |some k=>
    refine#[by lia,by lia,λq h=>?_]
    cases h;exact Rq a
   |none=>
    obtain⟨⟨p,J⟩,G,F⟩:=kG f _;obtain⟨B,H⟩:=Tj;have I:(qg C g rest r).left=g.left-1:=oW;exact#[#[Vb p B,by simp_all],λh=>#[(G<|by lia).1,by dsimp only;lia],F]
theorem rD(h:q∈u):(u.filter λk=>decide (k≠q)).length<u.length:=by
 rw[List.length_filter_lt_length_iff_exists]
 simp_all
theorem j7(o:C.Ok)(hs:SOk C s)(ht:SOk C t):∀(n:Nat)(g:Gs)(k:Gk)(M:Mem)(c:Nat)(Q:DK)(E:DX),GOk C g->0<=g.left->g.left<=C.most->(∀x∈g.u,x∈eD C)->g.u.length<n->M e=ap (eO ad L c)->k.Fr M->
  c+(dj C s t n g).asks<=L->Q (dj C s t n g).d (M.upd e<|eO ad L (c+(dj C s t n g).asks))->aao ad n [bc C s t,.ref k.a,.ref e] (gM ad k g M) Q E
 |0,g,k,M,c,Q,E,ok,h0,hm,hu,hn,he,hf,hc,h=>by lia
 |n+1,g,k,M,c,Q,E,ok,h0,hm,hu,hn,he,hf,hc,h=>by
  have G:=tQ o (C.most+1) g ok;obtain⟨⟨hlen,W⟩,hlft,Z⟩:=kG (C:=C) (C.most+1) g;rw[T9];unfold z7;refine#[rfl,ar λQ' E' I _=>EJ (f:=C.most+1) o ok h0 (by lia) (I _ _ ?_)]
  have fo:∀{q:Option aD}{M:Mem}{Q:DK},Q (LG q) M->frz (LG q) M Q:=λ{q} {M} {Q} z=>by
   cases q with
   |none=>exact z
   |some k=>cases k<;>exact z
  refine fo ?_;simp only[af,Va];unfold dj at h hc;generalize hgo:ce C (C.most+1) g=go at *;obtain⟨a,J⟩:=go;dsimp only at *;unfold uq;cases a with
  |none=>
   refine#[rfl,aG (λ_ _ z=>wj o G z) #[bj (by simp),?_]]
   simp only[Tr.asks,Tr.d,Nat.add_zero,nI he]at h;exact#[M,λb ob eb=>dO hf eb,h]
  |some q=>
   have S:=Z q rfl;have O:=hu q (W q S);have fl:=rD S;simp only[Tr.asks,Tr.d]at h hc;have nn:k_ (kD q)=false:=by cases q<;>rfl
   simp_arith! only[ah,aJ,am,ai,ac,dC,LG,lB,nn,aE,UL,dt]
   rw[if_neg (by simp)]
   have lo:Vw ("one_more":Str) [(("limit":Str),D.int (L:Nat)),(("count":Str),D.int (c:Nat))]=none:=rfl;refine IJ (a:=e) (λK q=>q) (dO hf he) lo ?_;refine#[rfl,ar λQ' E' I _=>jd (dO hf he) (by lia) (I _ _ ?_)]
   rw[sv hf he];have Y:(M.upd e<|eO ad L (c+1)) e=ap (eO ad L (c+1)):=Mem.upd_same;have F:∀{o':MO},k.Fr (M.upd e o'):=λ{o'}=>#[by rw[ae (λz=>by rw[<- z,hf.a]at he;cases he)];exact hf.a,by rw[ae (λz=>by rw[<- z,hf.dn]at he;cases he)];exact hf.dn,by rw[ae (λz=>by rw[<- z,hf.lp]at he;cases he)];exact hf.lp,by rw[ae (λz=>by rw[<- z,hf.du]at he;cases he)];exact hf.du]
   refine#[rfl,ar λQ' E' I _=>pM .of o hs ht G O S λk1 k2 p h1 H hp=>I _ _ (bU hp ?_)];generalize hg1:eY J q (aL C s q)=g1 at *;generalize hg2:eY J q (aL C t q)=g2 at *;have R:g1.u.length<n/\(∀x∈g1.u,x∈eD C)/\g1.left=J.left/\GOk C g1:=by
    rw[<- hg1];exact#[by rw[e_];lia,λx hx=>by rw[e_]at hx;simp_all,fm,sW G<|bR o hs O]
   have P:g2.u.length<n/\(∀x∈g2.u,x∈eD C)/\g2.left=J.left/\GOk C g2:=by
    rw[<- hg2];exact#[by rw[e_];lia,λx hx=>by rw[e_]at hx;simp_all,fm,sW G<|bR o ht O]
   rw[LQ H];have B:k2.Fr _:=#[(cz H.a).2.2.2.2,(cz H.dn).2.2.2.2,(cz H.lp).2.2.2.2,(cz H.du).2.2.2.2];obtain⟨a1,a2,a3,a4,_⟩:=cz H.a;obtain⟨b1,b2,b3,b4,_⟩:=cz H.dn;obtain⟨c1,c2,c3,c4,_⟩:=cz H.lp;obtain⟨d1,d2,d3,d4,_⟩:=cz H.du;have heN:gM ad k J (M.upd e<|eO ad L (c+1)) e=ap (eO ad L (c+1)):=dO F Y;refine#[rfl,ar λQ' E' I _=>j7 o hs ht n g1 k1 _ (c+1) _ _ R.2.2.2 (by lia) (by lia) R.2.1 R.1 (dO B heN) #[by rw[oj a1.symm b1.symm c1.symm d1.symm];exact h1.a,by rw[oj a2.symm b2.symm c2.symm d2.symm];exact h1.dn,by rw[oj a3.symm b3.symm c3.symm d3.symm];exact h1.lp,by rw[oj a4.symm b4.symm c4.symm d4.symm];exact h1.du] (by lia) (I _ _ ?_)]
   rw[sv B heN,sv F Y,Mem.upd_upd];have X:k2.Fr (gM ad k J<|M.upd e<|eO ad L (c+1+(dj C s t n g1).asks)):=by
    have z:∀{b:cp},gM ad k J (M.upd e<|eO ad L (c+1)) b=ca->gM ad k J (M.upd e<|eO ad L (c+1+(dj C s t n g1).asks)) b=none:=λ{b} hb=>by
     obtain⟨n1,n2,n3,n4,n5⟩:=cz hb;rw[oj n1 n2 n3 n4];have:b≠e:=λz=>by rw[z,Mem.upd_same]at n5;cases n5
     rw[ae this]at n5 ⊢;exact n5
    exact#[z B.a,z B.dn,z B.lp,z B.du]
   refine#[rfl,ar λQ' E' I _=>j7 o hs ht n g2 k2 _ (c+1+(dj C s t n g1).asks) _ _ P.2.2.2 (by lia) (by lia) P.2.1 P.1 (dO F Mem.upd_same) X (by lia) (I _ _ ?_)]
   rw[sv F Mem.upd_same,Mem.upd_upd];refine#[bj (by simp),M.upd e (eO ad L (c+(1+(dj C s t n g1).asks+(dj C s t n g2).asks))),λb ob eb=>?_,h]
   have ec:c+1+(dj C s t n g1).asks+(dj C s t n g2).asks=c+(1+(dj C s t n g1).asks+(dj C s t n g2).asks):=by lia
   rw[ec];exact dO F eb
def g0(C:Cse)(s t:Sta):Gs:=#[C.names.zip s.nums,s.pieces,aA C s t,C.rows,(C.most:Nat)]
theorem tR(o:C.Ok):(aA C s t).Nodup:=by
 refine YO _ ?_;show (eD C).Nodup;unfold eD;rw[W6];refine#[?_,?_,?_]
 .exact Y6 _ (by lia) o.nd
 .exact Y6 _ (by lia) XZ
 intro a e b f z;obtain⟨x,_,rfl⟩:=UZ.mp e;obtain⟨y,_,rfl⟩:=UZ.mp f;cases z
theorem uo:∀x∈aA C s t,x∈eD C:=λx e=>(Vd.mp e).1
theorem nG(o:C.Ok):(aA C s t).length<=200:=by
 have e:(aA C s t).length<=(eD C).length:=VA _ _;have f:(eD C).length=C.names.length+C.many:=by simp[eD]
 have:=o.l1;have:=o.few;lia
theorem cH(o:C.Ok)(F:SOk C s)(B:SOk C t)(h:∀p,M p=ca->Q (.ref p) (M.upd p<|.lst<|(aA C s t).map kD)):li ad [bc C s t] M Q E:=by
 exact#[rfl,ar λQ' E' e _=>HG o F B λp f=>e _ _ (ak<|h p f)]
theorem My(o:C.Ok)(e:SOk C s):GOk C (g0 C s t):=#[(o.pl e).nok,e.lp,e.rp,o.ok]
theorem sdE:s.d=.tup [.tup (s.nums.map D.int),.tup (s.pieces.map D.int)]:=rfl
theorem yS(o:C.Ok)(hs:SOk C s)(ht:SOk C t)(h:∀k:Gk,k.Fr M->Q (.ref k.a) (gM ad k (g0 C s t) M)):zD ad [bc C s t] M Q E:=by
 have ul:=nG (s:=s) (t:=t) o;rw[Sf];refine#[rfl,ar λQ' E' Z _=>cH o hs ht λp X=>Z _ _ (bU X ?_)];refine dk (λd=>.tup [d,.bl true]) aM (by simp;lia) (λx f K q=>?_) ?_
 .exact#[bj (by simp),q]
 intro p X;refine bU X ?_;have e:((aA C s t).map kD).map (λd=>D.tup [d,.bl true])=(aA C s t).map λk=>D.tup [kD k,.bl true]:=by simp
 rw[e];have hnd:(([]:List (aD×D)).map (·.1)++(uD<|aA C s t).map (·.1)).Nodup:=by rw[rF];exact tR o
 simp_arith! only[gR,Hx,g4,kx,sS hnd]
 refine#[trivial,by simp[uD];lia,λP h3=>?_]
 simp[af];unfold sC
 simp_arith! only[aB,iR,aa,hW,ai,ac,dC,dt,UL,zi,sdE,az,aO,atI_0,atI_1,eQ,UM]
 refine#[hs.ln.symm,o.l0,Vb o.l1 (by decide),λR W=>?_]
 have I:=Mem.ne Mem.upd_same W;rw[ae I.symm]at W;intro S J;have O:=Mem.ne Mem.upd_same J;rw[ae O.symm]at J;have G:=Mem.ne Mem.upd_same J;rw[ae G.symm]at J;refine#[rfl,aG (λ_ _ q=>eW (td:=[]) q) ?_];have ft:∀{l:List Rw}{M:Mem}{Q:DK},Q (pJ l) M->frz (pJ l) M Q:=λ{l} {M} {Q} q=>by cases l<;>exact q
 rw[VD];refine ft ?_;refine#[rfl,λx f=>?_];have B:=Mem.ne Mem.upd_same f;rw[ae B.symm]at f;have H:=Mem.ne Mem.upd_same f;rw[ae H.symm]at f;have F:=Mem.ne Mem.upd_same f;rw[ae F.symm]at f;refine ar λQ' E' Z _=>nT (Z _ _ ?_);rw[gQ hs.ln.symm o.nd];have Y:((((M.upd P<|.dK<|uD<|aA C s t).upd R<|.dK<|eI<|C.names.zip s.nums).upd S<|.lst<|s.pieces.map D.int).upd x<|.ins ad.C_Going [("numbers",.ref R),("pieces",.ref S),("unsettled",.ref P),("todo",pJ C.rows),("left",.int C.most)])=gM ad #[x,R,S,P,H.symm,B.symm,F.symm,O,I.symm,G.symm] (g0 C s t) M:=by
  unfold gM gF g0;rw[aC B,aC H,aC F,aC I,aC G]
 rw[Y];exact ak (h #[x,R,S,P,_,_,_,_,_,_] #[f,W,J,h3])
def Cse.tree(C:Cse)(s t:Sta):Tr:=dj C s t 24 (g0 C s t)
theorem Ei(o:C.Ok)(p:SOk C s)(B:SOk C t)(P:C.mark s=.int a)(f:C.mark t=.int b)(F:a≠b)(O:(aA C s t).length<24)(R:1+(C.tree s t).asks<=L)(h:Q (C.tree s t).d M):
  AK ad [bc C s t,.int (L:Nat)] M Q E:=by
 refine#[rfl,aG (λ_ _ q=>oV o p B P f F q) #[rfl,λe G=>?_]];have I:b_ _ _ []=[(("limit":Str),D.int L)]:=rfl;refine ar λQ' E' hq _=>?_;rw[u_q8];unfold L8;simp![I];refine#[by decide,by decide,ak<|hq _ _ ?_]
 simp[Td];refine IJ (λK q=>q) Mem.upd_same rfl ?_;refine#[rfl,ar λQ' E' hq _=>jd (c:=0) Mem.upd_same (by lia) (hq _ _ ?_)]
 rw[Mem.upd_upd];refine#[rfl,ar λQ' E' hq _=>yS o p B λk H=>hq _ _ ?_];have J:∀{M:Mem}{Q:DK}{fs:List _},M k.a=ap (.ins ad.C_Going fs)->Q _ M->frz (.ref k.a) M Q:=λ{M Q fs} e z=>by simp_arith! only[frz,e];exact z
 refine J cY #[rfl,ar λQ' E' hq _=>j7 o p B 24 _ k _ 1 _ _ (My o p) (by show (0:Int)<=C.most;lia) (Yg _) uo O Mem.upd_same H R (hq _ _ ?_)]
 rw[Mem.upd_upd];refine#[M,λb S f=>?_,h];rw[ae (Mem.ne f G)];exact f
theorem DU(a b:Nat):Yc (a:Int) (b:Int)=((a ||| b:Nat):Int):=by
 have f:(-(-(a:Int)-1)-1).toNat=a:=by lia
 have e:(-(-(b:Int)-1)-1).toNat=b:=by lia
 unfold Yc Xp Builtin.bitNot;rw[(decide_eq_false<|by lia),(decide_eq_false<|by lia)]
 simp only[f,e];lia
theorem FF(a:Nat):Xp (a:Int) 1=((a % 2:Nat):Int):=by
 unfold Xp
 simp_all
noncomputable def Js(b:Nat):Nat:=V7 (b:Int)
def av(b:Nat):List Nat:=(Vc<|Js b).filter λi=>b.testBit i
theorem Ir{b m:Nat}(h:b<2 ^ m):Js b<=m:=by
 unfold Js V7
 split
 .lia
 rw[Int.natAbs_natCast];have:=(Z3<|by lia).mpr h
 lia
theorem cu{b m:Nat}(h:b<2 ^ m):av b=(Vc m).filter λi=>b.testBit i:=by
 obtain⟨d,rfl⟩:∃d,m=Js b+d:=#[m-Js b,by have:=Ir h;lia]
 unfold av;rw[Y4,Wu];have:((Vc d).map (Js b+·)).filter b.testBit=[]:=by
  rw[ZH];intro i f;obtain⟨j,_,rfl⟩:=UZ.mp f;have e:b<2 ^ Js b:=by
   unfold Js V7
   split
   .simp_all
   exact Nat.lt_log2_self
  rw[V1 (UW e<|VF (by decide)<|by lia)]
  simp
 rw[this,VD]
theorem gB{b:Nat}(I:b<2 ^ 200)(h:∀p,M p=ca->Q (.ref p) (M.upd p<|.lst ((av b).map λ(i:Nat)=>D.int (i:Int)))):ww ad [.int (b:Nat)] M Q E:=by
 have F:=Ir I;rw[U2];unfold Bu
 simp_arith! only[aB,aV,dt,cB,UR,VG,Vk,Vm,V3]
 have B:(V7 b)<=200:=by have:V7 _<=200:=F;lia
 refine#[rfl,by lia,by lia,?_]
 refine dh (λd=>match d with|.int i=>b.testBit i.toNat|_=>cx) id aM ?_ (λx f K q=>?_) (λx f _ K q=>q) ?_
 .simp[cG,UM];lia
 .simp only[cG,UZ]at f
  obtain⟨i,J,rfl⟩:=f;rw[YC]at q ⊢;have H:(b:Int) / 2 ^ ((i:Int)).toNat=(b / 2 ^ i:Nat):=by simp
  simp_arith! only[am,ai,ac,dC,dt,UL,ON,oI,k4,H,FF,ck,dv,bz,aQ]
  simp[Nat.testBit_eq_decide_div_mod_eq]at q;have O:decide (((b / 2 ^ i % 2:Nat):Int)=1)=decide (b / 2 ^ i % 2=1):=by congr 1;exact propext (by lia)
  simp_all
 intro p G;have e:((cG 0<|Yi (V7 b:Nat)).filter λd=>match d with|.int i=>b.testBit i.toNat|_=>cx).map id=(av b).map λ(i:Nat)=>D.int i:=by
  rw[Wd];unfold cG av Js;rw[VJ];have:∀l:List _,l.map (λ(i:Nat)=>D.int (0+i))=l.map λ(i:Nat)=>D.int i:=λl=>Vy (by lia)
  rw[this];congr 1;refine Wj λi _=>?_;simp
 rw[e];exact ak (h p G)
theorem tO{b:BxC (dm 2<|aN (af 0)<|aN (af 1) dg) dX te ok Q}{rest:Dl}(f:Nat->D->D)(F:ok M):∀(xs:List D)(j:Nat)(abS:List D)(e B:Option D),abS.length+xs.length<=100000->
  (∀(i:Nat) x,xs[i]?=ap x->∀K:DK,K (f (j+i) x) M->te (ap (.int ((j+i:Nat):Int))::ap x::rest) M K)->Q (abS++(xs.zipIdx j).map λp=>f p.2 p.1) M->
  eL (dm 2<|aN (af 0)<|aN (af 1) dg) dX te ok Q b (gg j xs) abS (e::B::rest) M
 |[],j,abS,e,B,hl,he,h=>by
  unfold gg eL;exact#[F,by simpa using h]
 |x::xs,j,abS,e,B,hl,he,h=>by
  simp only[Vh]at hl;unfold gg eL;refine#[F,?_]
  simp_arith! only[dm,aN,dg,af,Va,dX,if_true]
  refine#[rfl,he 0 x rfl _ #[gn (by lia),?_]]
  refine tO f F xs (j+1) _ _ _ (by simp;lia) (λi y G K q=>?_) ?_
  .have:=he (i+1) y (by simpa using G) K (by rw[show j+(i+1)=j+1+i by lia];exact q)
   rw[show j+(i+1)=j+1+i by lia]at this
   exact this
  .simpa [XY] using h
structure Out where
 v:Str
 s:Nat
 f:Nat
noncomputable def EV(ad:Ad)(x:Out):MO:=.ins ad.C_Outcome [("verdict",.str x.v),("sound",.int (x.s:Nat)),("faulty",.int (x.f:Nat))]
def Ext(M M':Mem):Prop:=∀b o,M b=ap o->M' b=ap o
theorem Ext.refl:Ext M M:=λ_ _ e=>e
theorem Ext.trans{M1 M2:Mem}(a:Ext M M1)(b:Ext M1 M2):Ext M M2:=λx o e=>b x o (a x o e)
theorem Ext.no(h:Ext M M'){b:cp}(e:M' b=ca):M b=none:=by
 cases q:M b with
 |none=>rfl
 |some o=>rw[h b o q]at e;cases e
theorem Ext.new{b:cp}(h:M b=ca):Ext M (M.upd b o):=λx u e=>by rw[ae (Mem.ne e h)];exact e
theorem Ext.upd{b:cp}(x:Ext M M')(h:M b=ca):Ext M (M'.upd b o):=λc u e=>by rw[ae (Mem.ne e h)];exact x c u e
theorem Ext.del{b:cp}(x:Ext M M')(h:M b=ca):Ext M (M'.del b):=λc u e=>by unfold Mem.del;rw[if_neg (Mem.ne e h)];exact x c u e
inductive Lay(ad:Ad)(M:Mem):List cp->List Out->Prop
 |nil:Lay ad M [] []
 |cons {a:cp} {x:Out} {as:ab0} {xs:List Out} (h:M a=ap (EV ad x)) (t:Lay ad M as xs):Lay ad M (a::as) (x::xs)
theorem Lay.go{ad:Ad}{M M':Mem}:∀{as:ab0}{xs:List Out},Lay ad M as xs->(∀a x,M a=ap (EV ad x)->M' a=ap (EV ad x))->Lay ad M' as xs
 |_,_,.nil,_=>.nil
 |_,_,.cons h t,g=>.cons (g _ _ h) (t.go g)
theorem Lay.snoc{ad:Ad}{M:Mem}{a:cp}{x:Out}(h:M a=ap (EV ad x)):∀{as:ab0}{xs:List Out},Lay ad M as xs->Lay ad M (as++[a]) (xs++[x])
 |_,_,.nil=>.cons h .nil
 |_,_,.cons h' t=>.cons h' (t.snoc h)
theorem Lay.length{ad:Ad}{M:Mem}:∀{as:ab0}{xs:List Out},Lay ad M as xs->as.length=xs.length
 |_,_,.nil=>rfl
 |_,_,.cons _ t=>congrArg _ t.length
theorem yY{xs:List D}(h:M l=ap (.lst xs))(a:cp)(x:Out)(e:M a=ap (EV ad x)):(M.upd l<|.lst ys) a=ap (EV ad x):=by
 rw[ae (λz=>by rw[z,h]at e;cases e)];exact e
noncomputable def ku(a b:Int)(m:D):Str:=if aQ m (.int a)=true then "sound" else if aQ m (.int b)=true then "faulty" else "other"
noncomputable def bitK(us:List aD)(q:aD):Nat:=2 ^ us.idxOf q
def c_(a b:Int)(us:List aD):Tr->Nat->Nat->List Out
 |.e m,S,F=>[#[ku a b m,S,F]]
 |.a q x y,S,F=>c_ a b us y S (F ||| bitK us q)++c_ a b us x (S ||| bitK us q) F
def Kn(us:List aD):Tr->Prop
 |.e m=>m=.non\/∃v,m=.int v
 |.a q x y=>q∈us/\Kn us x/\Kn us y
def g9:Tr->Nat
 |.e _=>1
 |.a _ x y=>1+g9 x+g9 y
def wD(w:Tr×Nat×Nat):D:=.tup [w.1.d,.int (w.2.1:Nat),.int (w.2.2:Nat)]
def xL(a b:Int)(us:List aD)(ws:List (Tr×Nat×Nat)):List Out:=(ws.map λw=>c_ a b us w.1 w.2.1 w.2.2).flatten
def da(ws:List (Tr×Nat×Nat)):Nat:=(ws.map λw=>g9 w.1).sum
theorem qT:∀t:Tr,1<=g9 t
 |.e _=>UX _
 |.a _ x y=>by unfold g9;lia
theorem TK:∀e:List (Tr×Nat×Nat),e.length<=da e
 |[]=>UX _
 |w::e=>by
  have:=TK e;have:=qT w.1;simp[da]at *;lia
noncomputable def bD(us:List aD):List (aD×D):=us.zipIdx.map λp=>(p.1,D.int ((2 ^ p.2:Nat):Int))
theorem Me:(bD us).map (·.1)=us:=by
 unfold bD;rw[Vf];exact List.zipIdx_map_fst 0 us
theorem OP(h:q∈us):cV (bD us) q=ap (.int ((bitK us q:Nat):Int)):=by
 have f:∀(l:List _)(j:Nat),q∈l->cV ((l.zipIdx j).map λp=>(p.1,D.int (2 ^ p.2))) q=ap (.int (2 ^ (j+l.idxOf q):Nat)):=by
  intro l
  induction l with
  |nil=>simp_all
  |cons a r ih=>
   intro j h;rw[XY,UR];unfold cV;rw[Wx]
   by_cases e:a=q
   .simp_all
   have B:(a==q)=false:=by simpa using e
   simp only[e,decide_false];have:=ih (j+1) (by rcases UU.mp h with z|z;exact absurd z.symm e;exact z)
   unfold cV at this;rw[this,List.idxOf_cons,B];congr 4;simp;lia
 have:=f us 0 h;rw[Xb]at this;exact this
theorem yL{x:cp}{y:Out}(h:Q .non (M.upd x<|EV ad y)):Li ad [.ref x,.str y.v,.int (y.s:Nat),.int (y.f:Nat)] (M.upd x<|.ins ad.C_Outcome []) Q E:=by
 have p:b_ _ _ []=[(("verdict":Str),D.str y.v)]:=rfl;have e:b_ "sound" _ [("verdict",D.str y.v)]=[(("verdict":Str),D.str _),("sound",D.int y.s)]:=rfl;rw[u_q0];unfold LL;simp![Mem.upd_upd,p,e];exact#[by decide,by decide,by decide,ak h]
structure OK(ad:Ad)(M0:Mem)(us:List aD)(db lf lw:cp)(as:ab0)(ds:List Out)(ws:List (Tr×Nat×Nat))(N:Mem):Prop where
 x:Ext M0 N
 f:M0 lf=ca
 w:M0 lw=ca
 b:M0 db=ca
 bd:N db=ap (.dK<|bD us)
 lf':N lf=ap (.lst<|as.map D.ref)
 lw':N lw=ap (.lst (ws.map wD).reverse)
 ne:lf≠lw
 nb:lf≠db
 ny:Lay ad N as ds
 few:as.length+da ws<=100000
 tr:∀w∈ws,Kn us w.1
theorem wDE:wD (e,S,F)=.tup [e.d,.int (S:Nat),.int (F:Nat)]:=rfl
theorem GE{w:Tr×Nat×Nat}(I:OK ad M0 us J R B as ds (w::p) N)(h:∀as' ds' P N' c6 c7 c8 c9,OK ad M0 us J R B as' ds' P N'->da P<da (w::p)->ds'++xL a b us P=ds++xL a b us (w::p)->D'.nx [ap cs,ap ld,ap (.tup [.int a,.int b]),ap (.ref J),ap (.ref R),ap (.ref B),c6,c7,c8,c9] N'):
  iu ad EE D' [ap cs,ap ld,ap (.tup [.int a,.int b]),ap (.ref J),ap (.ref R),ap (.ref B),c6,c7,c8,c9] N:=by
 obtain⟨tr,S,F⟩:=w;have ew:((((tr,S,F)::p).map wD).reverse)=(p.map wD).reverse++[wD (tr,S,F)]:=by simp
 have O:=I.lw';rw[ew]at O;have Z:((p.map wD).reverse++[wD (tr,S,F)])[((p.map wD).reverse++[wD (tr,S,F)]).length-1]?=ap (wD (tr,S,F)):=by simp
 have htr:=I.tr _ Vp;have few:=I.few;have len:=TK p;simp only[da,UR,V5]at few len;unfold iu
 simp_arith! only[ah,ao,j_,ac,ag,dt,UL,df,O,E8,Z,List.dropLast_concat]
 refine#[trivial,?_];unfold tD tM
 simp_arith! only[ah,ao,ai,ac,dC,wDE,az,aO,atI_1,atI_2,af,Va,dt,UL]
 have I1:∀{u:D},(N.upd B<|.lst (p.map wD).reverse) R=ap _:=λ{u}=>by rw[ae I.ne];exact I.lf'
 have ex1:Ext M0 (N.upd B<|.lst (p.map wD).reverse):=I.x.upd I.w;have Y:Lay ad (N.upd B<|.lst (p.map wD).reverse) as ds:=I.ny.go λa x=>yY O a x;have X:J≠B:=λz=>by have:=I.bd;simp_all
 have G:(N.upd B<|.lst (p.map wD).reverse) J=ap (.dK<|bD us):=by rw[ae X];exact I.bd
 generalize hN1:N.upd B _=N1 at *;have H:N1 B=ap (.lst (p.map wD).reverse):=by rw[<- hN1,Mem.upd_same]
 have Ji:N1 R=ap _:=I1 (u:=.non);unfold su;cases tr with
 |e m=>
  unfold sR
  simp_arith! only[aJ,am,ai,ac,dC,az,aO,atI_0,atI_1,Tr.d,ck,dv,bz,aQ,if_true,dt,UL,bg,j_,df,Ji,aa,iR,aq,aj,ag]
  refine#[trivial,trivial,trivial,rfl,aG (λ_ _ q=>lE htr q) ?_];refine (λz=>z) #[rfl,λx W=>ar λQ' E' hq _=>yL (y:=#[ku a b m,S,F]) (hq _ _ ?_)];have nx:R≠x:=Mem.ne Ji W;have nw:B≠x:=Mem.ne H W;have nd:J≠x:=Mem.ne G W
  simp_arith! only[ag,bu,ae nx,Ji]
  refine#[by simp[g9]at *;exact gn (by lia),?_]
  refine h (as++[x]) (ds++[#[ku a b m,S,F]]) p _ _ _ _ _ #[(ex1.upd<|ex1.no W).upd I.f,I.f,I.w,I.b,?_,?_,?_,I.ne,I.nb,?_,?_,λw hw=>I.tr w (UY _ hw)] ?_ ?_
  .rw[ae (Vu I.nb),ae nd];exact G
  .rw[Mem.upd_same];simp
  .rw[ae (Vu I.ne),ae nw];exact H
  .refine Lay.snoc ?_ (Y.go λa y e=>?_)
   .rw[ae (Vu nx),Mem.upd_same]
   .rw[ae (λz=>by rw[z,Ji]at e;cases e),ae (Mem.ne e W)];exact e
  .simp only[da,Vi,WA,g9]at few ⊢;lia
  .simp[da,g9]
  .simp[xL,c_]
 |a q x y=>
  obtain⟨hq,htx,hty⟩:=htr;have hne:decide (("ask":Str)=("end":Str))=false:=by decide +kernel
  have gd:rO N1 J (kD q)=ap (ap<|.int ((bitK us q:Nat):Int)):=by simp_arith! only[rO,G,fO,OP hq]
  unfold uh tL rJ
  simp_arith! only[aJ,am,ai,ac,dC,az,atI_0,atI_1,atI_2,atI_3,Tr.d,ck,dv,bz,aQ,hne,dt,UL,ah,ao,aO,G,gd,af,Va,bg,j_,df,H,aa,aS,ag,oOr,k4,DU,bu,Mem.upd_same,Mem.upd_upd]
  refine#[trivial,trivial,?_];have hr:(p.map wD).reverse.length=p.length:=by simp
  refine#[trivial,bj (by simp),by rw[hr];exact gn (by lia),trivial,bj (by simp),by exact gn (by simp;lia),?_]
  have er:((p.map wD).reverse++[D.tup [x.d,.int ((S ||| bitK us q:Nat):Int),.int (F:Nat)]])++[D.tup [y.d,.int (S:Nat),.int ((F ||| bitK us q:Nat):Int)]]=(((y,S,F ||| bitK us q)::(x,S ||| bitK us q,F)::p).map wD).reverse:=by simp[wD]
  rw[er];refine h as ds _ _ _ _ _ _ #[ex1.upd I.w,I.f,I.w,I.b,by rw[ae X];exact G,by rw[ae I.ne];exact Ji,Mem.upd_same,I.ne,I.nb,Y.go λa x=>yY H a x,?_,?_] ?_ ?_
  .simp only[da,UR,V5,g9]at few ⊢;lia
  .intro w hw
   rcases UU.mp hw with z|hw
   .rw[z];exact hty
   .rcases UU.mp hw with z|hw
    .rw[z];exact htx
    .exact I.tr w (by simp_all)
  .simp only[da,UR,V5,g9];lia
  .simp[xL,c_]
section
variable{t:Sta}
theorem xa{us:List aD}{a b:Int}:∀(n:Nat)(as:ab0)(ds:List Out)(ws:List (Tr×Nat×Nat))(N:Mem)(B p f e:Option D),da ws<=n->OK ad M0 us H J G as ds ws N->
  (∀F N' B p f e,OK ad M0 us H J G F (ds++xL a b us ws) [] N'->D'.nx [ap R,ap P,ap (.tup [.int a,.int b]),ap (.ref H),ap (.ref J),ap (.ref G),B,p,f,e] N')->
  cC (cW<|ac 5) (iu ad EE) D' bx (n+1) [ap R,ap P,ap (.tup [.int a,.int b]),ap (.ref H),ap (.ref J),ap (.ref G),B,p,f,e] N
 |n,as,ds,[],N,B,p,f,e,hn,I,h=>by
  refine whF (λK q=>?_) (h as N B p f e<|by simpa [xL] using I)
  simp_arith! only[cW,ac,dt,UL,Ig,I.lw']
  exact q
 |0,as,ds,w::ws,N,B,p,f,e,hn,I,h=>by
  have:=qT w.1;simp[da]at hn;lia
 |n+1,as,ds,w::ws,N,B,p,f,e,hn,I,h=>by
  refine whT (λK q=>?_) (GE I λF ds' Y N' X Z d8 d9 I' hlt he=>?_)
  .have:((((w::ws).map wD).reverse).isEmpty)=false:=by simp
   simp_arith! only[cW,ac,dt,UL,Ig,I.lw',this]
   exact q
  exact xa n _ _ _ N' X Z d8 d9 (by lia) I' λO N2 S W e8 e9 I2=>h O N2 S W e8 e9 (by simp_all)
theorem rY{us:List aD}:∀(n:Nat)(g:Gs),(∀x∈g.u,x∈us)->Kn us (dj C s t n g)
 |0,g,h=>.inl rfl
 |n+1,g,h=>by
  obtain⟨⟨B,f⟩,F,p⟩:=kG (C:=C) (C.most+1) g;unfold dj;cases e:(ce C _ g).1 with
  |none=>
   show RP C _=.non\/_;unfold RP
   split
   .simp_all
   simp_all
  |some q=>
   have hs:∀v,∀x∈(eY (ce C (C.most+1) g).2 q v).u,x∈us:=λv x G=>by rw[e_]at G;simp_all
   exact#[by simp_all,rY n _ (hs _),rY n _<|hs _]
theorem oE:∀t:Tr,g9 t=2*t.asks+1
 |.e _=>rfl
 |.a _ x y=>by unfold g9 Tr.asks;rw[oE x,oE y];lia
theorem q_:∀(us:List aD)(j:Nat),xf ((us.zipIdx j).map λp=>D.tup [kD p.1,.int ((2 ^ p.2:Nat):Int)])=ap ((us.zipIdx j).map λp=>(p.1,D.int ((2 ^ p.2:Nat):Int)))
 |[],_=>rfl
 |k::ks,j=>by simp only[XY,UR,xf,fO,q_ ks _]
theorem pL(o:C.Ok)(W:SOk C s)(S:SOk C t)(ea:C.mark s=.int a)(eb:C.mark t=.int b)(J:a≠b)(hu:(aA C s t).length<24)(hc:1+(C.tree s t).asks<=L)(hL:L<=10000)(h:∀p as N,Ext M N->N p=ap (.lst<|as.map D.ref)->M p=ca->Lay ad N as (c_ a b (aA C s t) (C.tree s t) 0 0)->Q (.ref p) N):Bc ad [bc C s t,.int (L:Nat)] M Q E:=by
 have ft:∀{xs:List D}{M:Mem}{Q:DK},Q _ M->frz (.tup xs) M Q:=λz=>z;refine#[rfl,aG (λ_ _ q=>oV o W S ea eb J q)<|ft ?_];refine#[rfl,ar λQ' E' hq _=>cH o W S λp P=>hq _ _ (bU P ?_)]
 simp_arith! only[aO,jT]
 refine tO (λi d=>.tup [d,.int (2 ^ i:Nat)]) aM _ 0 [] _ _ (by simp;lia) (λi x Y K q=>?_) ?_
 .have hi:i<200:=by
   have h1:i<((aA C s t).map kD).length:=by
    rcases Wc i _ with z|z
    .exact z
    simp_all
   rw[UM]at h1;lia
  refine#[#[by lia,by lia,by decide],bj (by simp),?_]
  simp_all
 intro p P;refine bU P ?_;have e:[]++(((aA C s t).map kD).zipIdx 0).map (λp=>D.tup [p.1,.int (2 ^ p.2:Nat)])=((aA C s t).zipIdx 0).map λp=>D.tup [kD p.1,.int (2 ^ p.2:Nat)]:=by
  rw[List.zipIdx_map,Vf];rfl
 rw[e];have O:(([]:List (aD×D)).map (·.1)++(bD<|aA C s t).map (·.1)).Nodup:=by rw[Me];exact tR o
 have G:=sS O
 simp_arith! only[gR,Hx,g4,q_]
 refine#[trivial,by simp;lia,λdb H=>?_]
 have F:(List.foldl _ []<|List.map (λp=>(p.1,D.int _))<|List.zipIdx _)=bD _:=G;rw[F];refine#[by trivial,λR B=>?_]
 have n1:=Mem.ne Mem.upd_same B;rw[ae n1.symm]at B;refine#[rfl,aG (λ_ _ q=>Ei o W S ea eb J hu hc q) #[bj (by simp),bj (by simp),λZ f=>?_]]
 have n2:=Mem.ne Mem.upd_same f;rw[ae n2.symm]at f;have X:=Mem.ne Mem.upd_same f;rw[ae X.symm]at f;have I:OK ad M (aA C s t) db R Z [] [] [(C.tree s t,0,0)] (((M.upd db _).upd R<|.lst []).upd Z _):=
  #[((Ext.new H).upd B).upd f,B,f,H,by rw[ae X,ae n1,Mem.upd_same],by rw[ae n2,Mem.upd_same];rfl,Mem.upd_same,n2,n1.symm,.nil,by simp[da,UR,VG,V5,List.sum_nil,Ww,oE];lia,λw hw=>by
   rcases UU.mp hw with z|z
   .rw[z];exact rY 24 _ λx Y=>Y
   cases z]
 refine#[_,xa _ _ _ _ _ _ _ _ _ (UX _) I λas' N' c6 c7 c8 c9 I'=>?_];refine ak (h R _ N' I'.x I'.lf' B ?_);simpa [xL] using I'.ny
end
def fct:Nat->Nat
 |0=>1
 |n+1=>fct n*(n+1)
theorem ir:∀n,0<fct n
 |0=>by decide
 |n+1=>Nat.mul_pos (ir n) (by lia)
theorem vY:∀{a b:Nat},a<=b->fct a<=fct b:=by
 intro a b h
 induction b with
 |zero=>
  simp_all
 |succ b ih=>
  by_cases e:a=b+1
  .simp_all
  exact Vb (by lia) (Nat.le_mul_of_pos_right _<|by lia)
theorem j6{a:Nat}(h:a<=20):((fct a:Nat):Int)<2 ^ 64:=by
 have e:=vY h;have f:fct 20<2 ^ 64:=by decide
 exact_mod_cast (by lia)
def gU(n:Nat):List D:=(Vc (n+1)).map λi=>D.int ((fct i:Nat):Int)
theorem jb(h:i<=n):fH (gU n) (i:Int)=ap (.int ((fct i:Nat):Int)):=by
 rw[bE (by lia),Vj,gU,UT,Wb (by lia)];rfl
theorem kh:fH (gU n) (-1)=ap (.int ((fct n:Nat):Int)):=by
 have e:(gU n).length=n+1:=by simp[gU]
 rw[yE];unfold atI uR;rw[if_neg (by decide),e]
 rw[if_pos (by lia)]
 have:((-1:Int)+((n+1:Nat):Int)).toNat=n:=by lia
 rw[this];show (gU n)[n]?=_;rw[gU,UT,Wb (by lia)];rfl
theorem iO(J:n<=20)(h:∀p,M p=ca->Q (.ref p) (M.upd p<|.lst<|gU n)):vh ad [.int (n:Nat)] M Q E:=by
 rw[SG];unfold BD tJ
 simp_arith! only[ah,ao,bO,aa,dC,ag,af,Va,cj,dw,ac,dt,UL]
 refine#[bj (by simp),λp H=>#[by lia,by lia,?_]]
 refine cE (λB U N=>∃(c:Option D)(j:Nat),j<=n/\B=(Vc (n-j)).map (λ(i:Nat)=>D.int ((j+i:Nat):Int))/\U=[ap (.int (n:Nat)),ap (.ref p),c]/\N=M.upd p (.lst<|gU j)) (λ_ _ _ _=>aM) ?_ ?_ _ _ _ #[ca,0,by lia,?_,rfl,rfl]
 .rintro U N ⟨c,j,F,e,rfl,rfl⟩
  have:j=n:=by
   have:=congrArg We e;simp at this;lia
  subst this
  simp_arith! only[aB,ac,dt,UL]
  exact ak (h p H)
 .rintro y B U N ⟨c,j,F,e,rfl,rfl⟩ D' G _ _ _
  have f:j<n:=by
   rcases Wc j n with z|z
   .exact z
   .rw[show n-j=0 by lia]at e;simp at e
  rw[show n-j=(n-(j+1))+1 by lia,ZF]at e
  simp only[UR,Vf,Nat.add_zero,VQ]at e;obtain⟨rfl,rfl⟩:=e;unfold tq
  simp_arith! only[af,Va,bg,j_,ac,aa,ai,dC,ag,vO,dt,UL,df,Mem.upd_same,az,aO,kh,aZ,cD,bu,Mem.upd_upd]
  have I:=j6 (a:=j) (by lia)
  refine#[trivial,.inl #[by lia,I],by simp[gU];exact gn (by lia),G _ _ #[_,j+1,f,?_,rfl,?_]]
  .refine Vy λi _=>?_
   simp only[Function.comp];congr 2;lia
  .congr 2
   unfold gU;rw[Ya (n:=j+1),V9];simp[fct]
 .simp[cG]
theorem vq{n:Int}:∀(f:Nat)(v r:Nat)(p:Option D),r<f->r<v->(∀p,D'.nx [ap (.int n),ap (.int d),ap (.int ((WO v r:Nat):Int)),ap (.int 0),p] M)->
  cC (am<|ai km (ac 3)<|dC<|.int 0) (o5 ad EE) D' G (f+1) [ap (.int n),ap (.int d),ap (.int (v:Nat)),ap (.int (r:Nat)),p] M
 |0,v,r,p,hf,hv,h=>by lia
 |f+1,v,r,p,hf,hv,h=>by
  have B:∀K:Bool->Mem->Prop,K (!decide (((r:Nat):Int)=0)) M->am (ai km (ac 3)<|dC<|.int 0) [ap (.int n),ap (.int d),ap (.int (v:Nat)),ap (.int (r:Nat)),p] M K:=λK q=>by
   simp_arith! only[am,ai,ac,dC,km,dv,bz,aQ,dt,UL]
   exact#[trivial,trivial,q]
  by_cases F:r=0
  .subst F
   refine whF (λK q=>B K (by simpa using q)) ?_
   have:=h p;rw[Nat.gcd_zero_right]at this;exact this
  .refine whT (λK q=>B K (by
    have:¬((r:Nat):Int)=0:=by lia
    rw[decide_eq_false this];exact q)) ?_
   unfold o5 yd;have e:((v:Nat):Int) % ((r:Nat):Int)=((v % r:Nat):Int):=by simp
   simp_arith! only[ah,ao,ai,ac,af,Va,dH,oI,dt,UL,e]
   refine#[by lia,vq f r (v % r) _ ?_ ?_ λp=>?_]
   .have:=Nat.mod_lt v (show r>0 by lia);lia
   .exact Nat.mod_lt v (by lia)
   .have:=h p
    rw[Nat.gcd_comm v r,Nat.gcd_rec,Nat.gcd_comm]at this;exact this
theorem wJ{n:Int}(p:0<d)(e:d<2 ^ 190)(h:Q (.tup [.int (n / ((WO d (n % (d:Int)).toNat:Nat):Int)),.int (((d:Nat):Int) / ((WO d (n % (d:Int)).toNat:Nat):Int))]) M):Lb ad [.int n,.int (d:Nat)] M Q E:=by
 rw[u_q1];unfold Kt yM yt;have J:=VW n (show ((d:Nat):Int)≠0 by lia)
 have G:=VX n (show (0:Int)<((d:Nat):Int) by lia)
 have B:n % ((d:Nat):Int)=(((n % (d:Int)).toNat:Nat):Int):=by lia
 simp_arith! only[ah,ao,ai,ac,af,Va,dH,oI,dt,UL,gO]
 refine#[by lia,(n % (d:Int)).toNat+2,?_]
 rw[B];have I:0<WO d (n % (d:Int)).toNat:=ZE _ p;have F:WO d (n % (d:Int)).toNat<=d:=Nat.gcd_le_left _ p;refine vq _ d _ _ (by lia) (by lia) λH=>?_
 unfold yK;have f:((WO d (n % (d:Int)).toNat:Nat):Int)<2 ^ 200:=by
  have:WO d (n % (d:Int)).toNat<2 ^ 200:=WZ F (X9 e<|by decide)
  exact_mod_cast this
 simp_arith! only[aB,aS,aa,ai,ac,ag,fG,oI,wT,dt,UL]
 exact#[#[by lia,f],#[by lia,f],bj (by simp),ak h]
mutual
theorem HK:∀(d:D)(n:Nat),bz n d=true->aQ d d=true
 |.non,_,_=>rfl
 |.bl b,_,_=>by simp[aQ]
 |.int i,_,_=>by simp[aQ]
 |.str x,_,_=>by simp[aQ]
 |.tup xs,n+1,h=>by simp only[aQ];exact xK xs n (by simpa [bz] using h)
 |.lst xs,n+1,h=>by simp only[aQ];exact xK xs n (by simpa [bz] using h)
 |.tup xs,0,h=>by simp[bz]at h
 |.lst xs,0,h=>by simp[bz]at h
 |.ty x,n,h=>by cases n<;>simp[bz]at h
 |.ref x,n,h=>by cases n<;>simp[bz]at h
 |.mt x,n,h=>by cases n<;>simp[bz]at h
 |.ml x,n,h=>by cases n<;>simp[bz]at h
theorem xK:∀(ds:List D)(n:Nat),fits n ds=true->gS ds ds=true
 |[],_,_=>by simp[gS]
 |d::ds,n,h=>by
  simp only[fits,VM]at h;simp only[gS,HK d n h.1,xK ds n h.2,Zq]
end
def sO(n:Nat)(x:Out)(i:Nat):Int:=
 (if x.f.testBit i=true then ((fct n / fct ((av x.f).length+(av x.s).length)*fct ((av x.f).length-1)*fct (av x.s).length:Nat):Int) else 0)
 - (if x.s.testBit i=true then ((fct n / fct ((av x.f).length+(av x.s).length)*fct (av x.f).length*fct ((av x.s).length-1):Nat):Int) else 0)
def gh(n:Nat)(xs:List Out)(i:Nat):Int:=(xs.map λx=>sO n x i).sum
noncomputable def cQ(n:Nat)(T:Nat->Int):List D:=(Vc n).map λi=>D.int (T i)
structure OutOk(n:Nat)(x:Out):Prop where
 s:x.s<2 ^ n
 f:x.f<2 ^ n
 l:(av x.f).length+(av x.s).length<=n
theorem vI(h:j<n):(cQ n T).set j (.int v)=cQ n λi=>if i=j then v else T i:=by
 unfold cQ;refine W7 λi=>?_;rw[XO]
 by_cases e:j=i
 .subst e
  rw[if_pos rfl,UT,Wb h];simp[h]
 rw[if_neg e,UT,UT]
 by_cases f:i<n
 .rw[Wb f]
  have:¬i=j:=λz=>e z.symm;simp[this]
 simp_all
theorem tS(h:j<n):(cQ n T)[j]?=ap (.int<|T j):=by
 unfold cQ;rw[UT,Wb h];rfl
theorem m_{b:Nat}:(av b).Nodup:=YO _ XZ
theorem bi{b:Nat}(h:b<2 ^ n):i∈av b↔i<n/\b.testBit i=true:=by
 rw[cu h,Vd,VI]
theorem oM{n:Nat}{v:Int}{P:Prop}(p:∀M,ok M)(G:δ0.length=10)
  (F:P->∀(j:Nat)(T:Nat->Int)(N:Mem)(D2:DEnds),j<n->N lt=ap (.lst<|cQ n T)->D2.nx (δ0++[ap (.int (j:Nat))]) (N.upd lt<|.lst (cQ n λi=>if i=j then T i+v else T i))->H D2 (δ0++[ap (.int (j:Nat))]) N):
  ∀(f:List Nat)(T:Nat->Int)(N:Mem)(c:Option D),(f≠[]->P)->(∀j∈f,j<n)->f.Nodup->N lt=ap (.lst<|cQ n T)->(∀c,D'.nx (δ0++[c]) (N.upd lt<|.lst (cQ n λi=>T i+if i∈f then v else 0)))->
  fh (af 10) H D' ok R (f.map λ(j:Nat)=>D.int (j:Int)) (δ0++[c]) N
 |[],T,N,c,hP,hj,nd,hN,h=>by
  unfold fh;refine#[p _,?_];have:=h c;simp only[WI,if_false,YD]at this;rw[nI hN]at this;exact this
 |j::f,T,N,c,hP,hj,nd,hN,h=>by
  unfold fh;refine#[p _,?_];have O:(δ0++[c]).set 10 (ap<|.int (j:Int))=δ0++[ap (.int (j:Int))]:=by
   rw[List.set_append_right _ _ (by lia),G];rfl
  simp only[af,O];have B:=V2.mp nd;refine F (hP<|by simp) j T N _ (hj j Vp) hN ?_
  refine oM p G F f _ _ _ (λ_=>hP (by simp)) (λx J=>hj x (UY _ J)) B.2 Mem.upd_same λc=>?_
  rw[Mem.upd_upd];have e:(λi=>(if i=j then T i+v else T i)+if i∈f then v else 0)=λi=>T i+if i∈j::f then v else 0:=by
   funext i
   by_cases I:i=j
   .subst I
    simp[B.1]
   .simp[I]
  rw[e];exact h c
theorem HQ{x:Out}{a:cp}(hn:n<=20)(G:OutOk n x)(ha:N a=ap (EV ad x))(hl:N lt=ap (.lst<|cQ n T))(h:∀c7 c8 c9 H,D'.nx [ap Y,ap W,ap X,ap (.ref lt),ap B,ap (.lst<|gU n),ap (.ref a),c7,c8,c9,H] (N.upd lt<|.lst (cQ n λi=>T i+sO n x i))):
  ip ad EE D' [ap Y,ap W,ap X,ap (.ref lt),ap B,ap (.lst<|gU n),ap (.ref a),c7,c8,c9,H] N:=by
 have hx1:=G.l;have p1:x.f<2 ^ 200:=UW G.f (VF (by decide)<|Vb hn<|by decide)
 have p2:x.s<2 ^ 200:=UW G.s (VF (by decide)<|Vb hn<|by decide)
 have f1:Vw ("faulty":Str) [(("verdict":Str),D.str x.v),(("sound":Str),D.int (x.s:Nat)),(("faulty":Str),D.int (x.f:Nat))]=ap (.int (x.f:Nat)):=rfl;have f2:Vw ("sound":Str) [(("verdict":Str),D.str x.v),(("sound":Str),D.int (x.s:Nat)),(("faulty":Str),D.int (x.f:Nat))]=ap (.int (x.s:Nat)):=rfl;unfold EV at ha;unfold ip;generalize hK5:lP ad EE=K5
 simp_arith! only[ah,ao,aq,aj,aa,aW,ac,ag,dt,UL,ha,f1]
 refine#[trivial,rfl,ar λQ' E' hq _=>gB p1 λp hp=>hq _ _ (bU hp ?_)];simp only[af,Va];rw[<- hK5];unfold lP;generalize hK4:mh ad EE=K4
 simp_arith! only[ah,ao,aq,aj,aa,aW,ac,ag,dt,UL,ha,f2]
 refine#[trivial,rfl,ar λQ' E' hq _=>gB p2 λp hp=>hq _ _ (bU hp ?_)];simp only[af,Va];rw[<- hK4];unfold mh;generalize hK3:m3 ad EE=K3;generalize R:(av x.f).length=al at *;generalize O:(av x.s).length=zl at *;have la:∀(l:List Nat),(l.map λ(i:Nat)=>D.int (i:Int)).length=l.length:=λl=>by simp
 have eaz:((al:Nat):Int)+((zl:Nat):Int)=((al+zl:Nat):Int):=by lia
 simp_arith! only[ah,ao,ai,ac,b6,aa,ag,dC,aq,vO,dt,UL,bh,aO,az,kh,la,R,O,aZ,frz,eaz,jb (show al+zl<=n by lia),fG,oI,wT,af,Va]
 have fb:=j6 (a:=al+zl) (by lia)
 have fp:=ir (al+zl);refine#[#[by lia,Int.lt_trans fb<|by decide],?_]
 have ee:((fct n:Nat):Int) / ((fct (al+zl):Nat):Int)=((fct n / fct (al+zl):Nat):Int):=by simp
 rw[ee,<- hK3];unfold m3 sh ut
 simp_arith! only[ah,cj,cm,ac,aO,bM,dt,UL]
 have hz:zl<=n:=by lia
 have b1:=j6 (a:=zl) (by lia)
 have b2:=j6 (a:=al) (by lia)
 have b1':(0:Int)<=((fct zl:Nat):Int):=by lia
 refine oM (n:=n) (lt:=lt) (P:=0<al) (δ0:=[ap Y,ap W,ap X,ap (.ref lt),ap B,ap (.lst<|gU n),ap (.ref a),ap (.lst ((av x.f).map λ(i:Nat)=>D.int (i:Int))),ap (.lst ((av x.s).map λ(i:Nat)=>D.int (i:Int))),ap (.int ((fct n / fct (al+zl):Nat):Int))]) (v:=((fct n / fct (al+zl)*fct (al-1)*fct zl:Nat):Int)) (λ_=>aM) rfl (λhP j T N D2 F hN q=>?_) (av x.f) T N H (λz=>?_) (λj F=>((bi G.f).mp F).1) m_ hl λc=>?_
 .have e1:((al:Nat):Int)-1=((al-1:Nat):Int):=by lia
  have b3:=j6 (a:=al-1) (by lia)
  have I:((fct n / fct (al+zl):Nat):Int)*((fct (al-1):Nat):Int)*((fct zl:Nat):Int)=((fct n / fct (al+zl)*fct (al-1)*fct zl:Nat):Int):=by simp
  simp only[Vk,Vm]at q ⊢
  simp_arith! only[vD,ac,ai,b6,aa,ag,dC,dt,UL,Hf,hN,Vj,tS F,bh,aO,az,la,R,O,fc,k4,e1,jb (show al-1<=n by lia),jb hz,cD,rq,I,lD]
  have Z:uR (cQ n T).length ((j:Nat):Int)=ap j:=by rw[gy (by lia) (by simp[cQ];exact F),Vj]
  simp only[Dp,Z,vI F,I];refine#[by lia,.inr #[by lia,b3],.inr #[by lia,b1],?_]
  have J:(λi=>if i=j then T j+((fct n / fct (al+zl)*fct (al-1)*fct zl:Nat):Int) else T i)=λi=>if i=j then T i+((fct n / fct (al+zl)*fct (al-1)*fct zl:Nat):Int) else T i:=by
   funext i
   by_cases e:i=j
   .subst e;rfl
   .simp[e]
  rw[J];exact q
 .rw[<- R];exact Z4.mpr z
 .simp_arith! only[Vk,Vm,dt,UL]
  refine oM (n:=n) (lt:=lt) (P:=0<zl) (δ0:=[ap Y,ap W,ap X,ap (.ref lt),ap B,ap (.lst<|gU n),ap (.ref a),ap (.lst ((av x.f).map λ(i:Nat)=>D.int (i:Int))),ap (.lst ((av x.s).map λ(i:Nat)=>D.int (i:Int))),ap (.int ((fct n / fct (al+zl):Nat):Int))]) (v:=-((fct n / fct (al+zl)*fct al*fct (zl-1):Nat):Int)) (λ_=>aM) rfl (λhP j T N D2 F hN q=>?_) (av x.s) _ _ c (λz=>?_) (λj F=>((bi G.s).mp F).1) m_ Mem.upd_same λc=>?_
  .have e1:((zl:Nat):Int)-1=((zl-1:Nat):Int):=by lia
   have b3:=j6 (a:=zl-1) (by lia)
   have I:((fct n / fct (al+zl):Nat):Int)*((fct al:Nat):Int)*((fct (zl-1):Nat):Int)=((fct n / fct (al+zl)*fct al*fct (zl-1):Nat):Int):=by simp
   simp only[Vk,Vm]at q ⊢
   simp_arith! only[vD,ac,ai,b6,aa,ag,dC,dt,UL,Hf,hN,Vj,tS F,bh,aO,az,la,R,O,fc,k4,e1,jb (show zl-1<=n by lia),jb (show al<=n by lia),cD,rq,I,lD]
   have Z:uR (cQ n T).length ((j:Nat):Int)=ap j:=by rw[gy (by lia) (by simp[cQ];exact F),Vj]
   simp only[Dp,Z,vI F,I];refine#[by lia,.inr #[by lia,b2],.inr #[by lia,b3],?_]
   have J:(λi=>if i=j then T j-((fct n / fct (al+zl)*fct al*fct (zl-1):Nat):Int) else T i)=λi=>if i=j then T i+-((fct n / fct (al+zl)*fct al*fct (zl-1):Nat):Int) else T i:=by
    funext i
    by_cases e:i=j
    .subst e;simp[Int.sub_eq_add_neg]
    .simp[e]
   rw[J];exact q
  .rw[<- O];exact Z4.mpr z
  .rw[Mem.upd_upd]
   have J:cQ n (λi=>(T i+if i∈av x.f then ((fct n / fct (al+zl)*fct (al-1)*fct zl:Nat):Int) else 0)+if i∈av x.s then -((fct n / fct (al+zl)*fct al*fct (zl-1):Nat):Int) else 0)=cQ n λi=>T i+sO n x i:=by
    unfold cQ;refine Vy λi S=>?_;have S:=VI.mp S;congr 1;unfold sO;rw[R,O];have m1:(i∈av x.f)=(x.f.testBit i=true):=propext #[λz=>((bi G.f).mp z).2,λz=>(bi G.f).mpr #[S,z]];have m2:(i∈av x.s)=(x.s.testBit i=true):=propext #[λz=>((bi G.s).mp z).2,λz=>(bi G.s).mpr #[S,z]];simp only[m1,m2]
    split<;>split<;>lia
   rw[J];exact h _ _ _ _
noncomputable def RO(N:Mem)(a:cp):Bool:=match N a with
 |some (.ins _ fs)=>match fs.lookup ("verdict":Str) with
  |some (.str v)=>decide (v=("faulty":Str))
  |_=>cx
 |_=>cx
theorem J2{a:cp}{x:Out}(h:N a=ap (EV ad x)):RO N a=decide (x.v=("faulty":Str)):=by
 unfold RO;rw[h];rfl
theorem Lay.filt{ad:Ad}:∀{as:ab0}{xs:List Out},Lay ad N as xs->Lay ad N (as.filter<|RO N) (xs.filter λx=>decide (x.v=("faulty":Str)))
 |_,_,.nil=>.nil
 |_,_,.cons (x:=x) h t=>by
  have e:=J2 h;have f:=t.filt
  by_cases c:x.v="faulty"
  .rw[Zw (by rw[e];simpa using c),Zw (by simpa using c)]
   exact .cons h f
  rw[Zx (by rw[e];simpa using c),Zx (by simpa using c)]
  exact f
theorem Lay.mem{ad:Ad}{c:cp}:∀{as:ab0}{xs:List Out},Lay ad N as xs->c∈as->∃y,N c=ap (EV ad y)
 |_,_,.nil,h=>by cases h
 |_,_,.cons h t,hc=>by
  rcases UU.mp hc with z|z
  .rw[z];exact#[_,h]
  exact t.mem z
theorem jh{a b:Int}{us:List aD}:∀(t:Tr){S F:Nat},(c_ a b us t S F).length=t.asks+1
 |.e m,S,F=>rfl
 |.a q x y,S,F=>by unfold c_ Tr.asks;rw[Vi,jh x,jh y];lia
theorem vQ{n:Nat}(J:n<=20)(B:∀M,ok M):∀(as:ab0)(xs:List Out)(T:Nat->Int)(N:Mem)(H I G F f:Option D),Lay ad N as xs->(∀x∈xs,OutOk n x)->N lt=ap (.lst<|cQ n T)->
  (∀H I G F f,D'.nx [ap R,ap O,ap P,ap (.ref lt),ap p,ap (.lst<|gU n),H,I,G,F,f] (N.upd lt<|.lst (cQ n λi=>T i+gh n xs i)))->
  fh (af 6) (ip ad EE) D' ok bx (as.map D.ref) [ap R,ap O,ap P,ap (.ref lt),ap p,ap (.lst<|gU n),H,I,G,F,f] N
 |_,_,T,N,H,I,G,F,f,.nil,hx,hl,h=>by
  have:=h H I G F f;simp[gh]at this;rw[nI hl]at this;exact#[B _,this]
 |_,_,T,N,H,I,G,F,f,.cons (xs:=xs) ha ht,hx,hl,h=>by
  refine#[B _,?_];refine HQ J (by simp_all) ha hl λd7 d8 d9 X=>?_
  refine vQ J B _ xs _ _ _ _ _ _ _ (ht.go λb y e=>yY hl b y e) (by simp_all) Mem.upd_same λS W e8 Z Y=>?_
  simp[Int.add_assoc];exact(h S W e8 Z _)
theorem pQ(o:C.Ok)(hs:SOk C s)(ht:SOk C t)(ea:C.mark s=.int a)(eb:C.mark t=.int b)(hab:a≠b)(hu:(aA C s t).length<=20)(hc:1+(C.tree s t).asks<=L)(hL:L<=10000)(J:∀x∈(c_ a b (aA C s t) (C.tree s t) 0 0).filter (λx=>decide (x.v=("faulty":Str))),OutOk (aA C s t).length x)(h:∀p,M p=ca->Q (.ref p) (M.upd p<|.lst<|cQ (aA C s t).length<|gh (aA C s t).length ((c_ a b (aA C s t) (C.tree s t) 0 0).filter λx=>decide (x.v=("faulty":Str))))):vV ad [bc C s t,.int (L:Nat)] M Q E:=by
 rw[Ta];unfold Dh;generalize I:jt ad (aI E)=K10
 simp_arith! only[ah,ao,aq,aj,aa,ac,ag,dt]
 refine#[rfl,ar λQ' E' H _=>cH o hs ht λp O=>H _ _ (bU O ?_)];simp only[af,Va];rw[<- I];unfold jt;generalize hK9:ms ad (aI E)=K9
 simp_arith! only[ah,dB,aV,cm,ac,aO,bM,cB,UR,VG,Vk,Vm,dt,UL]
 refine dk (λ_=>.int 0) aM (by simp;lia) (λx J K q=>q) ?_
 intro lt hlt;have e0:((aA C s t).map kD).map (λ_=>D.int 0)=cQ (aA C s t).length λ_=>0:=by
  unfold cQ;rw[Vf];refine List.ext_getElem (by simp) λi h1 h2=>?_
  simp
 rw[e0];simp only[Va];rw[<- hK9];unfold ms;generalize W:mv ad (aI E)=K8
 simp_arith! only[ah,cF,dB,aV,cm,aq,aj,aa,ac,ag,cB,UR,VG,Vk,Vm,dt,UL]
 refine#[rfl,ar λQ' E' H _=>pL o hs ht ea eb hab (by lia) hc hL λp P N Z O B ny=>H _ _ ?_]
 have nl:lt≠p:=λz=>by rw[<- z,Mem.upd_same]at B;cases B
 have G:N lt=ap (.lst (cQ (aA C s t).length λ_=>0)):=Z _ _ Mem.upd_same
 simp_arith! only[frz,O]
 simp_arith! only[aO,bM]
 have F:Lay ad (N.del p) P (c_ a b (aA C s t) (C.tree s t) 0 0):=ny.go λc y e=>by unfold Mem.del;rw[if_neg (λz=>by rw[z,O]at e;cases e)];exact e
 have hl1:(N.del p) lt=ap (.lst (cQ (aA C s t).length λ_=>0)):=by unfold Mem.del;rw[if_neg nl];exact G
 have ex1:Ext (M.upd lt<|.lst (cQ (aA C s t).length λ_=>0)) (N.del p):=Z.del B;have hno:∀{z:cp},(N.del p) z=ca->M z=ca\/z=p:=λ{z} e=>by
  unfold Mem.del at e
  split at e
  .exact .inr (by assumption)
  .refine .inl ?_
   have:=Z.no e
   by_cases c:z=lt
   .rw[c,Mem.upd_same]at this;cases this
   .rw[ae c]at this;exact this
 generalize N.del p=N1 at *;have al:=F.length;have hal:P.length<=100000:=by rw[al,jh];lia
 refine dh (λd=>match d with|.ref a=>RO N1 a|_=>cx) id aM (by simpa using hal) (λx J K q=>?_) (λx J _ K q=>q) ?_
 .obtain⟨c,R,rfl⟩:=UZ.mp J
  obtain⟨y,S⟩:=F.mem R;have l1:Vw ("verdict":Str) [(("verdict":Str),D.str y.v),(("sound":Str),D.int (y.s:Nat)),(("faulty":Str),D.int (y.f:Nat))]=ap (.str y.v):=rfl;have q':K (decide (y.v=("faulty":Str))) N1:=by rw[<- J2 S];exact q
  unfold EV at S
  simp_arith! only[am,ai,aW,ac,dC,dt,S,l1,ck,dv,bz,aQ]
  exact#[trivial,trivial,trivial,q']
 intro p4 X;have e4:((P.map D.ref).filter λd=>match d with|.ref a=>RO N1 a|_=>cx).map id=(P.filter<|RO N1).map D.ref:=by
  rw[Wd,VJ];rfl
 rw[e4]
 simp_arith! only[eP,Va,dt,UL]
 refine bU (Q:=λd M'=>K8 _ [ap (bc C s t),ap (.int (L:Nat)),ap (.lst<|(aA C s t).map kD),ap (.ref lt),ap d,ca,ca,ca,ca,ca,ca] M') X ?_;rw[<- W];unfold mv;generalize hK7:mj ad (aI E)=K7;have lu:((aA C s t).map kD).length=(aA C s t).length:=by simp
 simp_arith! only[ah,ao,aq,aj,b6,aa,ac,ag,bh,aO,lu,dt,UL]
 refine#[rfl,ar λQ' E' H _=>iO hu λp5 hp5=>H _ _ (bU hp5 ?_)];simp only[af,Va];rw[<- hK7];unfold mj
 simp_arith! only[ah,cj,cm,ac,aO,bM,dt,UL]
 refine vQ hu (λ_=>aM) _ _ _ _ _ _ _ _ _ F.filt J hl1 λc6 c7 c8 c9 c10=>?_
 simp_arith! only[aB,ac,dt,UL,YC]
 have Y:M lt=none:=hlt;refine#[_,λz ob e=>?_,h lt Y]
 by_cases c:z=lt
 .subst c;rw[Mem.upd_same]at e ⊢;exact e
 .rw[ae c]at e ⊢
  exact ex1 z ob (by rw[ae c];exact e)
def OB(n:Nat)(T:Nat->Int)(i:Nat):D:=.tup [.int (T i / ((WO (fct n) (T i % ((fct n:Nat):Int)).toNat:Nat):Int)),.int (((fct n:Nat):Int) / ((WO (fct n) (T i % ((fct n:Nat):Int)).toNat:Nat):Int))]
mutual
theorem Se:∀(r:Rw)(n:Nat),2*hR r+1<=n->bz n r.d=true
 |.put _ _,n+1,_=>by simp[Rw.d,bz,fits]
 |.take _ _,n+1,_=>by simp[Rw.d,bz,fits]
 |.pick _ _,n+1,_=>by simp[Rw.d,bz,fits]
 |.two _ _ _ _,n+1,_=>by simp[Rw.d,bz,fits]
 |.ifr _ a b,n+2,h=>by
  simp only[hR]at h;have e:=kE a n (by lia)
  have f:=kE b n (by lia)
  simp[Rw.d,bz,fits,e,f]
 |.again _ a,n+2,h=>by
  simp only[hR]at h;have e:=kE a n (by lia)
  simp[Rw.d,bz,fits,e]
 |.ifr _ _ _,0,h=>by lia
 |.ifr _ _ _,1,h=>by simp only[hR]at h;lia
 |.again _ _,0,h=>by lia
 |.again _ _,1,h=>by simp only[hR]at h;lia
theorem kE:∀(rs:List Rw)(n:Nat),2*dA rs+1<=n->fits n (aH rs)=true
 |[],n,_=>by simp[aH,fits]
 |r::rs,n,h=>by
  simp only[dA]at h;simp[aH,fits,Se r n (by lia),kE rs n (by lia)]
end
theorem pz:∀(n:Nat)(xs:abY),fits n (xs.map D.str)=true
 |n,[]=>by simp[fits]
 |n,x::xs=>by
  rw[UR];unfold fits;rw[pz n xs];rfl
theorem Im(o:C.Ok):bz 60 C.d=true:=by
 unfold Cse.d;simp[bz,fits,(kE C.rows 58<|by have:=o.h;lia),(pz 58 _)]
theorem vT(o:C.Ok)(hs:SOk C s)(Z:SOk C t)(ea:C.mark s=.int a)(eb:C.mark t=.int b)(hab:a≠b)(hu:(aA C s t).length<=20)(hc:1+(C.tree s t).asks<=L)(hL:L<=10000)(f:∀x∈(c_ a b (aA C s t) (C.tree s t) 0 0).filter (λx=>decide (x.v=("faulty":Str))),OutOk (aA C s t).length x)(hT:gh (aA C s t).length ((c_ a b (aA C s t) (C.tree s t) 0 0).filter λx=>decide (x.v=("faulty":Str)))=T)(hTb:∀i,i<(aA C s t).length->-1000000000000000<=T i/\T i<=1000000000000000)(h:∀p,M p=ca->Q (.ref p) (M.upd p<|.lst (((aA C s t).zipIdx 0).map λp=>D.tup [kD p.1,OB (aA C s t).length T p.2]))):Al ad [.lst [bc C s t],.int (L:Nat)] M Q E:=by
 have G:=@TU C s t;have fp:=ir (aA C s t).length;have H:=j6 hu;rw[S7];unfold Bg;generalize X:mR ad (aI E)=K5
 simp_arith! only[ah,ao,aq,aV,cm,ac,aO,bM,cB,UR,VG,Vk,Vm,dt,UL,V3]
 have te:∀{K:DK}{c:Option D},K (.lst<|cQ (aA C s t).length T) M->(λU M Q=>aj (vV ad) lG 2 (aa (ac 0)<|aa (ac 1) ag) U M λd M'=>frz d M' Q) [ap (bc C s t),ap (.int (L:Nat))] M K:=λ{K c} q=>by
  simp_arith! only[aj,aa,ac,ag,dt,UL]
  refine#[rfl,ar λQ' E' B _=>pQ o hs Z ea eb hab hu hc hL f λp F=>B _ _ (bU F ?_)];rw[hT];exact q
 refine dk (λ_=>.lst (cQ (aA C s t).length T)) aM (by simp) (λx f K q=>?_) ?_
 .have:x=bc C s t:=by simpa using f
  subst this;exact te (c:=ca) q
 intro p F;refine bU F ?_;simp only[UR,VG,af,Va];rw[<- X];unfold mR;generalize R:mq ad (aI E)=K4
 simp_arith! only[ah,ao,aq,aj,aa,ai,ac,dC,ag,az,aO,atI_0,dt,UL]
 refine#[rfl,ar λQ' E' B _=>cH o hs Z λp F=>B _ _ (bU F ?_)];simp only[af,Va];rw[<- R];unfold mq;generalize W:lY ad (aI E)=K3
 simp_arith! only[ah,cj,cm,ac,aO,bM,dt,UL]
 have fu:bz 60 (.lst<|(aA C s t).map kD)=true:=by unfold bz;exact sf 59 _
 have fd:=Im o;have S:∀{M:Mem},dv M C.d=C.d:=rfl;unfold fh;refine#[aM,?_];simp only[af,Va];unfold rK
 simp_arith! only[aJ,Lv,am,ai,ac,dC,az,aO,atI_0,dt,UL,G,km,S,fd,HK _ _ fd,XU]
 refine#[trivial,trivial,?_];rw[if_neg (by simp)]
 simp_arith! only[aq,aj,aa,ac,ag,dt,UL]
 rw[<- G];refine#[rfl,ar λQ' E' B _=>cH o hs Z λp F=>B _ _ (bU F ?_)];have P:∀{M:Mem},dv M (.lst<|(aA C s t).map kD)=.lst ((aA C s t).map kD):=rfl;simp only[P,fu,HK _ _ fu,XU];refine#[trivial,trivial,?_];rw[if_neg (by simp)]
 simp only[aE];unfold fh;refine#[aM,?_];rw[<- W];unfold lY;generalize J:mM ad (aI E)=K2;have lu:((aA C s t).map kD).length=(aA C s t).length:=by simp
 simp_arith! only[ah,ao,ai,aq,aj,b6,aa,ac,ag,dC,vO,bh,aO,lu,dt,UL]
 refine#[rfl,ar λQ' E' B _=>iO hu λp5 Y=>B _ _ (bU Y ?_)]
 simp_arith! only[ai,dC,vO,b6,aa,ac,ag,bh,dt,UL,az,aO,kh,cD,Vh,Ww]
 refine#[.inr #[by decide,by decide],?_]
 have ew:((fct (aA C s t).length:Nat):Int)*(((0+1:Nat)):Int)=((fct (aA C s t).length:Nat):Int):=by simp
 simp only[af,Va,ew];rw[<- J];unfold mM
 simp_arith! only[aB,aV,o8,aa,ac,ag,aO,bM,jT,cB,UR,VG,Vk,Vm,dt,UL,V3]
 refine tO (λi d=>.tup [d,OB (aA C s t).length T i]) aM _ 0 [] _ _ (by simp;lia) (λi x f K q=>?_) ?_
 .have hi:i<(aA C s t).length:=by
   rcases Wc i (aA C s t).length with z|z
   .exact z
   .rw[VU (by simpa using z)]at f;cases f
  rw[Xb]at q ⊢
  simp_arith! only[aS,aa,aq,aj,b6,aV,cm,ac,ag,aO,bM,cB,UR,VG,Vk,Vm,dt,UL,V3]
  refine dk (λ_=>.int (T i)) aM (by simp) (λx f K q=>?_) ?_
  .have:x=.lst (cQ (aA C s t).length T):=by simpa using f
   subst this
   simp_arith! only[ai,ac,dt,UL,az,aO,bE (show (0:Int)<=((i:Nat):Int) by lia),Vj,tS hi]
   exact q
  intro p6 I;refine bU I ?_;have hb:=hTb i hi
  simp_arith! only[UR,VG,BJ,g4,dz,V5,List.sum_nil,YD]
  refine#[#[by simp,λx f=>by simp at f;subst f;exact hb],rfl,aG (λ_ _ z=>wJ fp (UW (show fct (aA C s t).length<2 ^ 64 by exact_mod_cast H)<|by decide) z) ?_]
  exact#[bj (by simp),q]
 .intro p7 O
  have e:([]:List D)++(((aA C s t).map kD).zipIdx 0).map (λp=>D.tup [p.1,OB (aA C s t).length T p.2])=((aA C s t).zipIdx 0).map λp=>D.tup [kD p.1,OB (aA C s t).length T p.2]:=by
   rw[Vm,List.zipIdx_map,Vf];rfl
  rw[e];exact ak (h p7 O)
theorem xn(o:C.Ok)(S:SOk C s)(H:SOk C t)(O:C.mark s=.int a)(R:C.mark t=.int b)(B:a≠b)(P:(aA C s t).length<=20)(W:1+(C.tree s t).asks<=L)(G:L<=10000)(J:∀x∈(c_ a b (aA C s t) (C.tree s t) 0 0).filter (λx=>decide (x.v=("faulty":Str))),OutOk (aA C s t).length x)(I:gh (aA C s t).length ((c_ a b (aA C s t) (C.tree s t) 0 0).filter λx=>decide (x.v=("faulty":Str)))=T)(f:∀i,i<(aA C s t).length->-1000000000000000<=T i/\T i<=1000000000000000)(h:∀p,M p=ca->Q (.ref p) (M.upd p<|.lst (((aA C s t).zipIdx 0).map λp=>D.tup [kD p.1,OB (aA C s t).length T p.2]))):rf ad [bc C s t,.int (L:Nat)] M Q E:=by
 rw[Tz];unfold zg
 simp_arith! only[aB,aj,aa,aq,bO,ac,ag,dt,UL]
 refine#[bj (by simp),λp e=>bU e #[rfl,ar λQ' E' F _=>vT o S H O R B P W G J I f λp e=>F _ _ (ak<|h p e)]]
def sQ(cf:Cf)(n:cO)(rest:List Rw):Rw->cO×List Rw
 |.ifr x a b=>(n,(if nm n x=0 then b else a)++rest)
 |.again x a=>(n,if nm n x=0 then rest else a++(.again x a::rest))
 |r=>(sN n (iV r) (num cf n r),rest)
def fin(cf:Cf):Nat->cO->List Rw->Option cO
 |_,n,[]=>ap n
 |0,_,_::_=>ca
 |k+1,n,r::rest=>fin cf k (sQ cf n rest r).1 (sQ cf n rest r).2
theorem dI{n:cO}:fin cf k n []=ap n:=by cases k<;>rfl
def Ef(cf:Cf)(b:Bool×Sx)(rest:List Rw):Option cO:=if b.1=true then fin cf (cf.most-b.2.steps.length) b.2.nums rest else ca
section
variable{cf:Cf}
theorem z9{s:Sx}:Ef cf (true,s) rest=fin cf (cf.most-s.steps.length) s.nums rest:=by rfl
theorem Ht{s:Sx}:Ef cf (cx,s) rest=none:=by rfl
theorem So{s:Sx}(h:s.steps.length<cf.most):nt cf pl v s=(true,#[s.nums,s.steps++[(pl,v)]]):=by unfold nt;rw[if_pos h]
theorem U3{s:Sx}(h:¬s.steps.length<cf.most):nt cf pl v s=(cx,s):=by unfold nt;rw[if_neg h]
theorem uK{s:Sx}{n:cO}(h:¬s.steps.length<cf.most):fin cf (cf.most-s.steps.length) n (r::rest)=none:=by
 have:cf.most-s.steps.length=0:=by lia
 rw[this];rfl
theorem yr{s:Sx}{n:cO}(h:s.steps.length<cf.most):fin cf (cf.most-s.steps.length) n (r::rest)=fin cf (cf.most-(s.steps++[p]).length) (sQ cf n rest r).1 (sQ cf n rest r).2:=by
 have:cf.most-s.steps.length=(cf.most-(s.steps++[p]).length)+1:=by simp;lia
 rw[this];rfl
theorem vL{x:Str}{a:List Rw}(F:∀pl s rest,fin cf (cf.most-s.steps.length) s.nums (a++rest)=Ef cf (cg cf a pl 0 s) rest):∀(f t:Nat)(s:Sx)(rest:List Rw),cf.most-s.steps.length<f->
  fin cf (cf.most-s.steps.length) s.nums (.again x a::rest)=Ef cf (fE cf x pl (λt s=>cg cf a (pl++[(t:Int)]) 0 s) f t s) rest
 |0,t,s,rest,h=>by lia
 |f+1,t,s,rest,h=>by
  unfold fE
  by_cases c:s.steps.length<cf.most
  .rw[So c,if_pos rfl,yr c]
   by_cases e:nm s.nums x=0
   .have p:lk s.nums x=0:=by unfold lk;rw[if_pos e]
    rw[p,if_neg (by decide),z9]
    simp[sQ,if_pos e]
   have p:lk s.nums x=1:=by unfold lk;rw[if_neg e]
   rw[p];simp only[sQ,if_neg e];have i1:=F (pl++[(t:Int)]) #[s.nums,s.steps++[(pl++[(t:Int)],1)]] (.again x a::rest);generalize G:cg cf a _ 0 _=ex at *;obtain⟨b,s2⟩:=ex;rw[i1];cases b with
   |true=>
    have B:s.steps.length+1<=s2.steps.length:=by
     have:=(fR (c:=cf) a (pl++[(t:Int)]) 0 #[s.nums,s.steps++[(pl++[(t:Int)],1)]]).1
     simp_all
    exact vL F f _ s2 _ (by lia)
   |false=>rfl
  rw[U3 c];exact uK c
theorem mI{s:Sx}(f:bt r=true):fin cf (cf.most-s.steps.length) s.nums (r::rest)=Ef cf (j9 cf r pl s) rest:=by
 rw[cU f];unfold lF;have e:sQ cf s.nums rest r=(sN s.nums (iV r) (num cf s.nums r),rest):=by
  cases r<;>trivial
 by_cases c:s.steps.length<cf.most
 .rw[if_pos c,z9,yr c,e]
 rw[if_neg c];exact uK c
mutual
theorem SD:∀(r:Rw)(pl:abX)(s:Sx)(rest:List Rw),fin cf (cf.most-s.steps.length) s.nums (r::rest)=Ef cf (j9 cf r pl s) rest
 |.ifr x a b,pl,s,rest=>by
  unfold j9
  by_cases c:s.steps.length<cf.most
  .rw[So c,if_pos rfl,yr (p:=(pl,lk s.nums x)) c]
   by_cases e:nm s.nums x=0
   .have f:lk s.nums x=0:=by unfold lk;rw[if_pos e]
    rw[f,if_neg (by decide)]
    simp only[sQ,if_pos e];exact iX b (pl++[0]) 0 #[s.nums,s.steps++[(pl,0)]] rest
   .have f:lk s.nums x=1:=by unfold lk;rw[if_neg e]
    rw[f,if_pos rfl];simp only[sQ,if_neg e];exact iX a (pl++[1]) 0 #[s.nums,s.steps++[(pl,1)]] rest
  .rw[U3 c,if_neg (by simp),Ht]
   exact uK c
 |.again x a,pl,s,rest=>by
  unfold j9;exact vL (λpl s rest=>iX a pl 0 s rest) _ _ _ _ (by lia)
 |.put x k,pl,s,rest=>mI rfl
 |.take x k,pl,s,rest=>mI rfl
 |.pick x y,pl,s,rest=>mI rfl
 |.two w x y z,pl,s,rest=>mI rfl
theorem iX:∀(rs:List Rw)(pl:abX)(j:Nat)(s:Sx)(rest:List Rw),fin cf (cf.most-s.steps.length) s.nums (rs++rest)=Ef cf (cg cf rs pl j s) rest
 |[],pl,j,s,rest=>by unfold cg;rw[z9];rfl
 |r::rs,pl,j,s,rest=>by
  unfold cg;rw[Vk,SD r (pl++[(j:Int)]) s (rs++rest)];generalize j9 cf r (pl++[(j:Int)]) s=ex;obtain⟨b,s2⟩:=ex;cases b with
  |true=>rw[z9,if_pos rfl];exact iX rs pl (j+1) s2 rest
  |false=>rw[Ht,if_neg (by simp),Ht]
end
end
def mkO(mn:Str):Option cO->D
 |some n=>.int (nm n mn)
 |none=>.non
theorem vX:C.mark z=mkO C.mn (fin (C.cf z) C.most (C.names.zip z.nums) C.rows):=by
 have h:=iX (cf:=C.cf z) C.rows [] 0 #[C.names.zip z.nums,[]] [];rw[VD]at h;have e:fin _ C.most _ _=Ef _ (C.run z) []:=h;rw[e];unfold Cse.mark vN Ef
 split
 .rw[dI];rfl
 rfl
def NP(p:aD->Bool):Tr->D
 |.e m=>m
 |.a q x y=>if p q=true then NP p y else NP p x
theorem iS{n:cO}(h:x∈n.map (·.1)):nm (sN n x v) y=if y=x then v else nm n y:=by
 unfold nm;rw[S8 h]
 split<;>rfl
structure Rl(C:Cse)(z:Sta)(g:Gs)(n:cO):Prop where
 nk:∀x,(Vr x:aD)∉g.u->nm g.n x=nm n x
 nu:∀x,(Vr x:aD)∈g.u->nm n x=aL C z (.inr x)
 pk:∀i:Nat,(V6 (i:Int):aD)∉g.u->(g.ps[i]?).getD 0=(z.pieces[i]?).getD 0
 k:n.map (·.1)=C.names
section
variable{t:Sta}{n:cO}{p:aD->Bool}
theorem HR(F:eF C.names C.w C.many r)(h:fX C g r=ca):(∀x∈fk r,(Vr x:aD)∉g.u)/\∀i,ML C g.n r=ap i->(V6 i:aD)∉g.u:=by
 unfold fX at h
 split at h
 .simp_all
 split at h
 .cases h
 rename_i e
 refine#[λx f B=>?_,λi G B=>?_]
 .have:(Vr x)∈(eD C).filter λk=>decide (k∈((fk r).filter λx=>decide ((Vr x)∈g.u)).map Vr):=by
   rw[Vd];refine#[Vs.mpr (.inl<|UZ.mpr #[x,AF F x f,rfl]),decide_eq_true ?_]
   simp_all
  rw[e]at this;cases this
 simp_all
theorem Rl.num(R:Rl C z g n)(ok:GOk C g)(J:SOk C z)(f:cM C.names C.w C.many r)(h:fX C g r=ca):num (g.cf C) g.n r=num (C.cf z) n r:=by
 have F:eF C.names C.w C.many r:=by
  cases r with
  |ifr=>exact f.elim
  |again=>exact f.elim
  |_=>exact f
 obtain⟨B,H⟩:=HR F h;have I:g.ps.length=z.pieces.length:=by rw[ok.lp,J.lp]
 cases r with
 |put x k=>rfl
 |take x i=>
  exact(R.pk _<|by rw[Xs f.2.1];exact H i rfl)
 |pick x y=>
  have e:=R.nk y (B y<|by simp[fk])
  have G:=H _ rfl;have O:=f.2.2;rw[<- Xs (VW _<|by lia)]at G
  show (g.ps[(nm g.n y % (g.ps.length:Int)).toNat]?).getD 0=(z.pieces[(nm n y % (z.pieces.length:Int)).toNat]?).getD 0;rw[<- e,<- I,ok.lp];exact(R.pk _ G)
 |two w x y u=>
  show zm w _ _ C.w=zm w _ _ C.w;rw[R.nk y (B y<|by simp[fk]),R.nk u (B u<|by simp[fk])]
 |_=>exact f.elim
theorem Rl.step(R:Rl C z g n)(ok:GOk C g)(S:SOk C z)(J:eF C.names C.w C.many r)(h:fX C g r=ca):Rl C z (qg C g rest r) (sQ (C.cf z) n rest r).1/\(qg C g rest r).td=(sQ (C.cf z) n rest r).2:=by
 have look:=λx B=>R.nk x ((HR J h).1 x B);have set:∀H,r=H->bt r=true->Rl C z { g with left:=g.left-1,td:=rest,n:=sN g.n _ (_T.num _ _ r),u:=g.u.filter λk=>decide (k≠.inr _) } (sN n _ _):=λH _ P=>by
  have e:=ik J P;have B:=yO e;have f:iV r∈n.map (·.1):=by rw[R.k];exact B
  rw[R.num ok S e h];refine#[λy G=>?_,λy G=>?_,λi O=>?_,by rw[jB];exact R.k]
  .rw[iS (by rw[ok.n.keys];exact B),iS f]
   split
   .rfl
   rename_i c
   refine R.nk y λI=>G ?_;rw[Vd];exact#[I,decide_eq_true λz=>c (Sum.inr.inj z)]
  .have F:=Vd.mp G
   rw[iS f,if_neg (by lia)]
   exact R.nu y F.1
  refine R.pk i λI=>O ?_;rw[Vd];trivial
 cases r with
 |ifr x a b=>
  refine#[#[R.nk,R.nu,R.pk,R.k],?_];show (if nm _ x=0 then b else a)++rest=(if nm n x=0 then b else a)++rest
  rw[look x (by simp[fk])]
 |again x a=>
  refine#[#[R.nk,R.nu,R.pk,R.k],?_];show (if nm _ x=0 then rest else a++(.again x a::rest))=(if nm n x=0 then rest else a++(.again x a::rest))
  rw[look x (by simp[fk])]
 |_=>exact#[set _ rfl rfl,rfl]
theorem Da(o:C.Ok)(F:SOk C z):∀(f:Nat)(g:Gs)(n:cO),Rl C z g n->GOk C g->0<=g.left->g.left<f->∃B,Rl C z (ce C f g).2 B/\fin (C.cf z) g.left.toNat n g.td=fin (C.cf z) (ce C f g).2.left.toNat B (ce C f g).2.td/\
  ((ce C f g).1=ca->((ce C f g).2.td=[]/\(Vr C.mn:aD)∉(ce C f g).2.u)\/((ce C f g).2.td≠[]/\(ce C f g).2.left<=0))
 |0,g,n,R,ok,h0,hf=>by lia
 |f+1,g,n,R,ok,h0,hf=>by
  unfold ce;cases e:g.td with
  |nil=>
   refine#[n,R,by rw[e],λh=>.inl #[e,?_]]
   simp_all
  |cons r rest=>
   dsimp only;have J:eF C.names C.w C.many r:=by
    have:=ok.td;rw[e]at this;exact this.1
   split
   .exact#[n,R,by rw[e],by lia]
   cases a:fX C g r with
   |some k=>exact#[n,R,by rw[e],by lia]
   |none=>
    obtain⟨R1,O⟩:=R.step ok F J a;have H:(qg C g rest r).left=g.left-1:=oW;obtain⟨B,R2,G,I⟩:=Da o F f _ _ R1 (x_ o ok e) (by lia) (by lia)
    refine#[B,R2,?_,I];rw[<- G,H,O];have:g.left.toNat=(g.left-1).toNat+1:=by lia
    rw[this];rfl
theorem Rl.set(R:Rl C z g n)(ok:GOk C g)(hq:q∈eD C)(hu:q∈g.u):Rl C z (eY g q<|aL C z q) n:=by
 cases q with
 |inr x=>
  have hx:x∈C.names:=by
   rcases iq hq with⟨y,hy,e⟩|⟨i,_,e⟩
   .simp_all
   cases e
  refine#[λy hy=>?_,λy hy=>R.nu y (Vd.mp hy).1,λi hi=>R.pk i λhu=>hi (Vd.mpr<|by trivial),R.k]
  show nm (sN _ x _) y=_;rw[iS (by rw[ok.n.keys];exact hx)]
  split
  .rename_i c;subst c;exact(R.nu _ hu).symm
  exact R.nk y λhu=>hy (Vd.mpr<|by lia)
 |inl j=>
  obtain⟨i,hi,e⟩:∃i:Nat,i<C.many/\j=i:=by
   rcases iq hq with⟨y,hy,e⟩|⟨i,h,e⟩
   .cases e
   exact#[i,h,by lia]
  subst e;refine#[λy hy=>R.nk y λhu=>hy (Vd.mpr<|by trivial),λy hy=>R.nu y (Vd.mp hy).1,λk hk=>?_,R.k]
  show ((g.ps.set _ _)[k]?).getD 0=_;rw[XO]
  split
  .rename_i c
   subst c;rw[if_pos (by rw[ok.lp];exact hi)]
   rfl
  exact R.pk k λhu=>hk (Vd.mpr<|by lia)
theorem zq(o:C.Ok)(hs:SOk C s)(ht:SOk C t)(P:SOk C z):∀(f:Nat)(g:Gs)(n:cO),(∀q∈g.u,aL C z q=aL C (if p q=true then t else s) q)->Rl C z g n->GOk C g->0<=g.left->g.left<=C.most->(∀x∈g.u,x∈eD C)->g.u.length<f->
  NP p (dj C s t f g)=mkO C.mn (fin (C.cf z) g.left.toNat n g.td)
 |0,g,n,hp,R,ok,h0,hm,hu,hf=>by lia
 |f+1,g,n,hp,R,ok,h0,hm,hu,hf=>by
  obtain⟨n',R',e,O⟩:=Da o P (C.most+1) g n R ok h0 (by lia)
  have B:=tQ o (C.most+1) g ok;obtain⟨⟨X,F⟩,Y,G⟩:=kG _ g;unfold dj;rw[e];generalize ce C _ g=go at *;obtain⟨a,H⟩:=go;dsimp only at *;cases a with
  |none=>
   unfold RP;rcases O rfl with⟨S,W⟩|⟨S,W⟩
   .rw[S,dI]
    show D.int _=D.int _;rw[R'.nk _ W]
   .have:H.left.toNat=0:=by lia
    rw[this];cases e3:H.td<;>trivial
  |some q=>
   have h:=G q rfl;have I:=hu q (F q h);have fl:=rD h;have Z:∀y:Sta,aL C z q=aL C y q->SOk C y->NP p (dj C s t f<|eY H q<|aL C y q)=mkO _ _:=λy hy ky=>by
    rw[<- hy]
    have:=zq o hs ht P f _ n' (λk hk=>by rw[e_]at hk;simp_all) (R'.set B I h) (sW B<|bR o P I) (by rw[fm];lia) (by rw[fm];lia)
     (λx hx=>by rw[e_]at hx;simp_all) (by rw[e_];lia)
    rw[fm]at this;have J:(eY H q<|aL C z q).td=H.td:=by cases q<;>rfl
    rw[J]at this;exact this
   show (if p q=true then NP p _ else NP p _)=_
   simp_all
theorem qK(f:C.names.length=nums.length)(h:x∉C.names):nm (C.names.zip nums) x=0:=by
 unfold nm gN;rw[List.find?_eq_none.mpr]
 .rfl
 intro q e;have:=(WV e).1;lia
theorem xw(o:C.Ok)(F:SOk C s)(O:SOk C t)(B:SOk C z)(P:(aA C s t).length<24)(G:∀q∈eD C,aL C z q=aL C (if p q=true then t else s) q):NP p (C.tree s t)=C.mark z:=by
 rw[vX];have f:∀q∈eD C,q∉aA C s t->aL C z q=aL C s q:=λq h H=>by
  rw[G q h];have:aL C s q=aL C t q:=YH λc=>H (Vd.mpr #[h,decide_eq_true c])
  split
  .exact this.symm
  .rfl
 have:=zq (p:=p) o F O B 24 (g0 C s t) (C.names.zip z.nums) (λq h=>G q (uo q h)) #[λx I=>?_,λx _=>rfl,λi J=>?_,gZ B.ln.symm] (My o F) (by show (0:Int)<=((C.most:Nat):Int);lia) (Yg _) uo P
 .have e:(g0 C s t).left.toNat=C.most:=rfl
  rw[e]at this;exact this
 .by_cases c:x∈C.names
  .exact(f (.inr x) (Vs.mpr<|.inl<|UZ.mpr #[x,c,rfl]) I).symm
  .show nm (C.names.zip s.nums) x=_
   rw[qK F.ln.symm c,qK B.ln.symm c]
 .show (s.pieces[i]?).getD 0=_
  by_cases c:i<C.many
  .have:=f (.inl (i:Int)) (Vs.mpr<|.inr<|UZ.mpr #[i,VI.mpr c,rfl]) J
   exact this.symm
  .rw[VU (by rw[F.lp];lia),VU (by rw[B.lp];lia)]
theorem kf:∀(f:Nat)(g:Gs),(dj C s t f g).asks+1<=2 ^ g.u.length
 |0,g=>Nat.one_le_two_pow
 |f+1,g=>by
  obtain⟨⟨G,F⟩,_,h⟩:=kG (C:=C) (C.most+1) g;unfold dj;generalize ce C (C.most+1) g=go at *;obtain⟨a,B⟩:=go;dsimp only at *;cases a with
  |none=>exact Nat.one_le_two_pow
  |some q=>
   have J:=rD (h q rfl);have H:=kf f (eY B q<|aL C s q);have I:=kf f (eY B q<|aL C t q);rw[e_]at H I;have e:2 ^ ((B.u.filter λk=>decide (k≠q)).length+1)<=2 ^ g.u.length:=VF (by decide) (by lia)
   rw[ZL]at e;show 1+_+_+1<=_;lia
theorem qk:1+(C.tree s t).asks<=2 ^ (aA C s t).length:=by
 have:=kf (C:=C) (s:=s) (t:=t) 24 (g0 C s t);have e:(g0 C s t).u=aA C s t:=rfl;rw[e]at this;show 1+(dj C s t 24 _).asks<=_;lia
end
def TrN:Tr->List aD->Prop
 |.e _,_=>True
 |.a q x y,u=>q∈u/\TrN x (u.filter λk=>decide (k≠q))/\TrN y (u.filter λk=>decide (k≠q))
theorem TrN.mono:∀{t:Tr}{u v:List aD},TrN t u->(∀k∈u,k∈v)->TrN t v
 |.e _,_,_,_,_=>trivial
 |.a q x y,u,v,h,s=>#[s q h.1,h.2.1.mono (by simp_all),h.2.2.mono<|by simp_all]
theorem wO{C:Cse}{s:Sta}:∀(f:Nat)(g:Gs),TrN (dj C s t f g) g.u
 |0,_=>trivial
 |f+1,g=>by
  obtain⟨⟨_,e⟩,_,h⟩:=kG _ g;unfold dj;generalize ce C _ g=go at *;obtain⟨a,p⟩:=go;cases a with
  |none=>trivial
  |some q=>
   have w:∀v,TrN _ (g.u.filter λk=>decide (k≠q)):=λv=>by
    have:=wO (C:=C) (s:=s) (t:=t) f (eY p q v);rw[e_]at this;exact this.mono (by simp_all)
   exact#[by simp_all,w _,w _]
theorem JG:∀{a b:Nat},a<=b->fct a ∣ fct b:=by
 intro a b h
 induction b with
 |zero=>
  simp_all
 |succ b ih=>
  by_cases e:a=b+1
  .simp_all
  exact Nat.dvd_trans (by lia) (Nat.dvd_mul_right _ _)
structure Wy(us:List aD)(u:List aD)(S F:Nat):Prop where
 s:S<2 ^ us.length
 f:F<2 ^ us.length
 sub:∀q∈u,q∈us
 no:∀q∈u,S.testBit (us.idxOf q)=cx/\F.testBit (us.idxOf q)=cx
 dis:∀i,¬(S.testBit i=true/\F.testBit i=true)
theorem On(e:q∈us):bitK us q<2 ^ us.length:=Z2 (by decide) (WC e)
theorem IT:(bitK us q).testBit i=decide (us.idxOf q=i):=by unfold bitK;grind
theorem LJ(p:k∈us)(e:q∈us)(h:us.idxOf q=us.idxOf k):k=q:=by
 have f:=List.getElem_idxOf (WC e)
 simp_all
theorem Wy.swap(w:Wy us u S F):Wy us u F S:=#[w.f,w.s,w.sub,λq e=>(w.no q e).symm,λi h=>w.dis i h.symm]
theorem Wy.fa(w:Wy us u S F)(G:q∈u):Wy us (u.filter λk=>decide (k≠q)) S (F ||| bitK us q):=by
 have e:=w.sub q G;refine#[w.s,Nat.or_lt_two_pow w.f (On e),λk B=>w.sub k (Vd.mp B).1,λk B=>?_,λi h=>?_]
 .obtain⟨p,H⟩:=Vd.mp B
  refine#[(w.no k p).1,?_];rw[Zg,(w.no k p).2,IT];exact decide_eq_false λz=>(of_decide_eq_true H) (LJ (w.sub k p) e z)
 rw[Zg,IT]at h
 by_cases c:us.idxOf q=i
 .subst c;rw[(w.no q G).1]at h;exact absurd h.1 (by simp)
 rw[decide_eq_false c,XT]at h;exact w.dis i h
theorem Wy.so(w:Wy us u S F)(e:q∈u):Wy us (u.filter λk=>decide (k≠q)) (S ||| bitK us q) F:=(w.swap.fa e).swap
theorem nh{r:Nat->Bool}:∀(l:List Nat),(∀i,¬(p i=true/\r i=true))->(l.filter p).length+(l.filter r).length<=l.length
 |[],_=>by simp
 |i::l,h=>by
  have:=nh l h;rw[Vo,Vo]
  split<;>split<;>simp_all<;>lia
theorem Wy.ok(w:Wy us u S F){v:Str}:OutOk us.length #[v,S,F]:=by
 refine#[w.s,w.f,?_];rw[cu w.f,cu w.s];have:=nh (Vc us.length) λi h=>w.dis i h.symm
 simp_all
theorem sJ:∀(t:Tr)(u:List aD)(S F:Nat),TrN t u->Wy us u S F->∀x∈c_ a b us t S F,OutOk us.length x
 |.e m,u,S,F,_,w,x,hx=>by
  have:x=#[ku a b m,S,F]:=by simpa [c_] using hx
  subst this;exact w.ok
 |.a q x y,u,S,F,h,w,o,ho=>by
  rcases Vs.mp ho with h1|h1
  .exact sJ y _ _ _ h.2.2 (w.fa h.1) o h1
  exact sJ x _ _ _ h.2.1 (w.so h.1) o h1
theorem Wy.zero(h:∀q∈u,q∈us):Wy us u 0 0:=#[Nat.two_pow_pos _,Nat.two_pow_pos _,h,λq _=>#[Nat.zero_testBit _,Nat.zero_testBit _],by simp_all]
def jx(C:Cse)(s t:Sta)(a b:Int):List Out:=(c_ a b (aA C s t) (C.tree s t) 0 0).filter λx=>decide (x.v=("faulty":Str))
theorem ow:TrN (C.tree s t) (aA C s t):=wO 24 _
theorem si:∀x∈jx C s t a b,OutOk (aA C s t).length x:=λx e=>sJ _ _ _ _ ow (Wy.zero λ_ h=>h) x (Vd.mp e).1
noncomputable def gT(d:Nat)(T:Int):Nat:=WO d (T % (d:Int)).toNat
theorem QW(h:0<d):0<gT d T:=ZE _ h
theorem O9:gT d T ∣ d:=Nat.gcd_dvd_left _ _
theorem gT_T(h:0<d):((gT d T:Nat):Int) ∣ T:=by
 have e:gT d T ∣ (T % d).toNat:=Nat.gcd_dvd_right _ _;have f:((gT d T):Int) ∣ T % d:=by
  have:=W3.mpr e
  rwa [Xs (VW T<|by lia)]at this
 have:=Int.dvd_add f (ZJ (c:=T / d)<|W3.mpr O9)
 rwa [Int.emod_add_mul_ediv]at this
theorem OutOk.more{x:Out}(h:OutOk n x):OutOk (n+2) x:=
 #[UW h.s (by lia),UW h.f (by lia),by have:=h.l;lia]
theorem gu(h:n<=7):fct n<=5040:=vY (b:=7) h
theorem Rj{x:Out}(I:n<=7)(h:OutOk n x):-128024064000<=sO n x i/\sO n x i<=128024064000:=by
 have P:=h.l;have e:fct n / fct ((av x.f).length+(av x.s).length)<=5040:=Vb (Nat.div_le_self _ _) (gu I);have p:∀E A B:Nat,E<=5040->A<=5040->B<=5040->E*A*B<=128024064000:=λE A B F G H=>by
  exact(XF (XF F G) H)
 have J:=p _ _ _ e (gu (n:=(av x.f).length-1)<|by lia) (gu (n:=(av x.s).length)<|by lia)
 have O:=p _ _ _ e (gu (n:=(av x.f).length)<|by lia) (gu (n:=(av x.s).length-1)<|by lia)
 unfold sO
 split<;>split<;>lia
theorem zX{n:Nat}{i:Nat}(e:n<=7):∀{xs:List Out},(∀x∈xs,OutOk n x)->-128024064000*(xs.length:Int)<=gh n xs i/\gh n xs i<=128024064000*(xs.length:Int)
 |[],_=>by simp[gh]
 |x::xs,h=>by
  have f:=zX (i:=i) e λy p=>h y (UY _ p);have B:=Rj (i:=i) e (h x<|by simp_all)
  unfold gh at f ⊢;rw[UR,V5,Vh];lia
def flt(rs:List Rw):List Rw:=rs.filter bt
noncomputable def H_(d:D):Bool:=match d with
 |.tup (.str w::_)=>!(decide (w=("if":Str))||decide (w=("again":Str)))
 |_=>true
theorem P0(h:eF names m many r):H_ r.d=bt r:=by
 have e:∀w rest,H_ (.tup (.str w::rest))=!(decide _||decide _):=λ_ _=>rfl
 cases r with
 |two w x y z=>
  simp[Rw.d,e,bt];rcases h.1 with rfl|rfl|rfl|rfl<;>decide +kernel
 |_=>rfl
theorem zL{names:abY}{m many:Int}:∀{rs:List Rw},bf names m many rs->(aH rs).filter H_=aH (flt rs)
 |[],_=>rfl
 |r::rs,h=>by
  have e:=zL h.2;unfold flt at e ⊢;rw[aH,Vo,Vo,P0 h.1,e]
  split<;>rfl
theorem xC{names:abY}{m many:Int}:∀{rs:List Rw},bf names m many rs->bf names m many (flt rs)
 |[],_=>trivial
 |r::rs,h=>by
  have e:=xC h.2;unfold flt at e ⊢;rw[Vo]
  split
  .exact#[h.1,e]
  exact e
theorem tX(h:eF names m many r):∃(w:Str)(rest:List D),r.d=.tup (.str w::.str (iV r)::rest):=by
 cases r<;>exact#[_,_,rfl]
theorem vp(h:d∈aH rs):∃r∈rs,d=r.d:=by
 rw[iz]at h;obtain⟨r,e,rfl⟩:=UZ.mp h;exact#[r,e,rfl]
theorem jf{names:abY}{m many:Int}:∀{rs:List Rw}{r:Rw},bf names m many rs->r∈rs->eF names m many r
 |r::rs,q,h,hq=>by
  rcases UU.mp hq with rfl|hq
  .exact h.1
  exact jf h.2 hq
theorem qN(J:rs.length<=1000)(ok:bf names m many rs)(h:Q (.tup<|aH<|flt rs) M):wB ad [.tup (aH rs)] M Q E:=by
 refine dh H_ id aM (by rw[cc];lia) (λx G K q=>?_) (λx G _ K q=>q) ?_
 .obtain⟨r,H,rfl⟩:=vp G
  obtain⟨w,rest,e⟩:=tX (jf ok H);have I:H_ r.d=!(decide (w="if")||decide (w="again")):=by rw[e];rfl
  rw[I]at q;rw[e];simp![atI_0];refine#[by trivial,λp F=>?_]
  rw[Mem.upd_del,aw F];rcases Decidable.em (w="if") with c1|c1
  .subst c1
   assumption
  rcases Decidable.em (w="again") with c2|c2
  .subst c2
   assumption
  have f:¬"if"=w:=λz=>c1 z.symm;have B:¬"again"=w:=λz=>c2 z.symm;simpa [aQ,c1,c2,f,B] using q
 intro p F;rw[Wd,zL ok];exact bU F (ak h)
theorem g8(B:Has k M)(G:2<=m)(f:m<=997)(F:0<=v/\v<m)(h:∀w M',0<=w->w<m->w≠v->Dr k M M'->Q (.int w) M'):oS ad [.ref k.p,.int m,.int v] M Q E:=by
 rw[TZ];unfold BL;simp![];refine aP B (by lia) (by lia) λr M' a b d=>?_
 refine#[by lia,ak<|h _ _ (VW _<|by lia) (VX _<|by lia) ?_ d]
 intro z
 by_cases c:v+1+r<m
 .rw[Int.emod_eq_of_lt (by lia) c]at z;lia
 have e:(v+1+r) % m=v+1+r-m:=by
  rw[<- Int.sub_emod_right,Int.emod_eq_of_lt (by lia) (by lia)]
 lia
def Jj(C:Cse)(s t:Sta):D:=if (C.run s).1=true/\(C.run t).1=true then .tup [.int (nm (C.run s).2.nums C.mn),.int (nm (C.run t).2.nums C.mn)] else .non
theorem qh:∀(n:Nat)(f:Str->Int)(xs:abY),fits n (xs.map λx=>D.int (f x))=true
 |n,f,[]=>by rfl
 |n,f,x::xs=>by
  have:=qh n f xs
  assumption
theorem Mb{r:Bool×Sx}:bz 60 (dL names r)=true:=by
 unfold dL
 split
 .simp[bz,(qh 59 _ _)]
 rfl
theorem JT{r:Bool×Sx}:aQ (dL names r) .non=!r.1:=by
 unfold dL;cases r.1<;>rfl
theorem yB{r:Bool×Sx}(f:r.1=true)(e:names[j]?=ap mk):∃xs,dL names r=.tup xs/\fH xs (j:Int)=ap (.int<|nm r.2.nums mk):=by
 refine#[_,by unfold dL;rw[if_pos f],?_]
 rw[bE (by lia),Vj,UT,e];rfl
theorem Uu(o:C.Ok)(e:SOk C z)(h:K (dL C.names<|C.run z) M):
  ai az (qY<|aj (nJ ad) EE 3<|aa (ac 1)<|aa (ac 0)<|aa (ac 2) ag) (dC<|.int 1) [ap z.d,ap C.d,ap (.int (C.most:Nat))] M K:=by
 rw[e.pd];refine#[rfl,lg (o.pl e) ?_]
 assumption
theorem eM(o:C.Ok)(Z:SOk C s)(Y:SOk C t)(h:Q (Jj C s t) M):oB ad [C.d,s.d,t.d,.int (C.most:Nat)] M Q E:=by
 rw[S3];unfold Bh;generalize F:ma ad _=K3;generalize f:(ai _ _ _)=te;have I:∀{z:Sta}{K:DK},SOk C z->K _ M->te _ M K:=λ{z K} O q=>by
  rw[<- f];exact Uu o O q
 refine#[bj (by simp),λp B=>bU B ?_]
 refine#[aM,?_];refine I Z #[by trivial,?_]
 refine#[aM,?_];refine I Y #[gn (by simp),?_]
 refine#[aM,λp B=>?_]
 simp_arith! only[Vm,Vk,Va,dt,UL,eP,Mem.upd_same,Mem.upd_del,aw B]
 rw[<- F];unfold ma;generalize G:mP ad _=K2;unfold Jj at h;have J:fits 60 [dL C.names (C.run s),dL C.names (C.run t)]=true:=by simp[fits,Mb]
 simp_arith! only[ah,aJ,am,ai,dC,ac,dt,UL,wU,iJ,aO,dv,J,Xg,List.any_nil,JT,XT]
 by_cases c:(C.run s).1=true/\(C.run t).1=true
 .rw[if_pos c]at h
  simp[c.1,c.2];rw[<- G];unfold mP;generalize H:uC ad _=K1;obtain⟨j,S,e⟩:=nq o.mn;obtain⟨xs,X,R⟩:=yB c.1 e;obtain⟨ys,W,P⟩:=yB c.2 e;rw[(@zi C)];simp![atI_1,atI_4,dW,S];rw[<- H];simp![atI_0,atI_1,X,W,R,P];exact#[Vb o.l1 (by decide),by trivial,ak h]
 rw[if_neg c]at h;have:(!(C.run s).1||!(C.run t).1)=true:=by
  cases h1:(C.run s).1<;>cases h2:(C.run t).1<;>simp_all
 simp[this,dC];exact ak h
theorem lQ(h:Q (Jj C s t) M):frz (Jj C s t) M Q:=by
 unfold Jj at h ⊢
 split at h
 .rename_i c;rw[if_pos c];exact h
 rename_i c;rw[if_neg c];exact h
theorem Lo{n:cO}:sQ cf n (rs++rest) r=((sQ cf n rs r).1,(sQ cf n rs r).2++rest):=by
 cases r with
 |ifr x a b=>simp[sQ]
 |again x a=>
  simp only[sQ]
  split<;>simp
 |_=>rfl
theorem lS:∀(k:Nat)(n:cO)(rs:List Rw)(f:cO),fin cf k n rs=ap f->∀(e:Nat)(rest:List Rw),∃j,e<=j/\fin cf (k+e) n (rs++rest)=fin cf j f rest
 |k,n,[],f,h,e,rest=>by
  rw[dI]at h;cases h;exact#[_,by lia,rfl]
 |0,n,r::rs,f,h,e,rest=>by cases h
 |k+1,n,r::rs,f,h,e,rest=>by
  obtain⟨j,p,B⟩:=lS k _ _ _ h e _;refine#[j,p,?_];have:k+1+e=(k+e)+1:=by lia
  rw[this,Vk];show fin cf (k+e) _ _=_;rw[Lo];exact B
theorem stp_cf{n:cO}:sQ #[m,ps,k1] n rest r=sQ #[m,ps,k2] n rest r:=by rfl
theorem F5{m:Int}:∀(k:Nat)(n:cO)(rs:List Rw),fin #[m,ps,k1] k n rs=fin #[m,ps,k2] k n rs
 |k,n,[]=>by rw[dI,dI]
 |0,n,r::rs=>rfl
 |k+1,n,r::rs=>by
  exact F5 k _ _
def fz(cf:Cf)(n:cO)(rs:List Rw):cO:=rs.foldl (λn r=>sN n (iV r) (num cf n r)) n
theorem mG:∀(rs:List Rw)(k:Nat)(n:cO),(∀r∈rs,bt r=true)->rs.length<=k->fin cf k n rs=ap (fz cf n rs)
 |[],k,n,_,_=>dI
 |r::rs,0,n,_,h=>by simp at h
 |r::rs,k+1,n,hs,h=>by
  have f:=hs r (by simp_all)
  have e:sQ cf n rs r=(sN n (iV r) (num cf n r),rs):=by
   cases r<;>trivial
  show fin cf k _ _=_;rw[e];exact mG rs k _ (by simp_all) (by simpa using h)
theorem Kl{n:cO}:∀(rs:List Rw),(fz cf n rs).map (·.1)=n.map (·.1):=by
 intro rs
 induction rs generalizing n with
 |nil=>rfl
 |cons r rs ih=>
  show (fz cf _ rs).map _=_;rw[ih,jB]
theorem MN{y:Str}:∀(rs:List Rw)(n:cO),(∀r∈rs,iV r∈n.map (·.1))->(∀r∈rs,iV r≠y)->nm (fz cf n rs) y=nm n y
 |[],n,_,_=>rfl
 |r::rs,n,hk,hn=>by
  show nm (fz cf _ rs) y=_;rw[MN rs _ (λq e=>by rw[jB];simp_all) (by simp_all),iS (by simp_all),if_neg λz=>hn r (by simp_all) z.symm]
theorem IR{q:Int}(hp:0<=p/\p<m)(hq:0<=q/\q<m)(h:p≠q):(a+p) % m≠(a+q) % m:=by
 intro z;obtain⟨c,hc⟩:=(Int.dvd_of_emod_eq_zero<|Int.emod_eq_emod_iff_emod_sub_eq_zero.mp z);have:c=0:=by
  rcases Int.lt_trichotomy c 0 with g|g|g
  .have:=YU (show c<=-1 by lia) (show 0<=m by lia)
   lia
  .exact g
  .have:=YU (by trivial) (show 0<=m by lia)
   lia
 subst this;lia
noncomputable def Cse.rw(C:Cse)(rs:List Rw):Cse:={ C with rows:=rs }
def Cse.two(C:Cse)(s t:Sta):Prop:=∃a b,C.mark s=.int a/\C.mark t=.int b/\a≠b
section
variable{n:cO}
theorem Db(o:C.Ok)(e:SOk C z):NOk C.names C.w (C.run z).2.nums:=dG (o.pl e).co _ (o.pl e).ok [] 0 _ (o.pl e).nok
theorem Bl(h:(C.run z).1=true):fin (C.cf z) C.most (C.names.zip z.nums) C.rows=ap (C.run z).2.nums:=by
 have e:=iX (cf:=C.cf z) C.rows [] 0 #[C.names.zip z.nums,[]] [];rw[VD]at e;have f:fin _ C.most _ _=Ef _ (C.run z) []:=e;rw[f];unfold Ef;rw[if_pos h,dI]
theorem mH{n:cO}(h:fin (C.cf z) C.most (C.names.zip z.nums) C.rows=ap n):(C.run z).1=true/\(C.run z).2.nums=n:=by
 have e:=iX (cf:=C.cf z) C.rows [] 0 #[C.names.zip z.nums,[]] [];rw[VD]at e;have f:fin _ C.most _ _=Ef _ (C.run z) []:=e;rw[f]at h;unfold Ef at h
 split at h
 .rw[dI]at h
  simp_all
 cases h
theorem fC{n:cO}(h:fin (C.cf z) C.most (C.names.zip z.nums) C.rows=ap n):C.mark z=.int (nm n C.mn):=by
 rw[vX,h];rfl
theorem qM(h:fin (C.cf z) (C.most-4) (C.names.zip z.nums) C.rows=ap n)(F:4<=C.most)(p:∀r∈more,bt r=true)(G:more.length<=4):(C.rw (C.rows++more)).mark z=.int (nm (fz (C.cf z) n more) C.mn):=by
 obtain⟨j,B,e⟩:=lS _ _ _ _ h 4 more;have f:C.most-4+4=C.most:=by lia
 rw[f,mG more j n p (by lia)]at e
 exact fC (C:=C.rw (C.rows++more)) e
end
def pK(y:Str)(rs:List Rw):List Rw:=rs.filter λr=>decide (iV r≠y)
noncomputable def JS(y:Str)(d:D):Bool:=match d with
 |.tup (_::.str x::_)=>decide (x≠y)
 |_=>true
theorem xi{names:abY}{m many:Int}{y:Str}:∀{rs:List Rw},bf names m many rs->(aH rs).filter (JS y)=aH (pK y rs)
 |[],_=>rfl
 |r::rs,h=>by
  have f:=xi (y:=y) h.2;obtain⟨w,rest,e⟩:=tX h.1;have p:JS y r.d=decide (iV r≠y):=by rw[e];rfl
  unfold pK at f ⊢;rw[aH,Vo,Vo,p,f]
  split<;>rfl
theorem Cq{names:abY}{m many:Int}:∀{rs:List Rw},bf names m many rs->bf names m many (rs.filter p)
 |[],_=>trivial
 |r::rs,h=>by
  have e:=Cq (p:=p) h.2;rw[Vo]
  split
  .exact#[h.1,e]
  exact e
theorem Ez:∀{rs:List Rw},bf names m many rs->(∀r∈rs,bt r=true)->∀r∈rs,cM names m many r:=λh f r e=>ik (jf h e) (f r e)
theorem gG:∀{rs:List Rw},(∀r∈rs,bt r=true)->dA rs=0
 |[],_=>rfl
 |r::rs,h=>by
  have p:=h r (by simp_all)
  have f:=gG λq e=>h q (UY _ e);cases r<;>trivial
theorem rX:∀r∈flt rs,bt r=true:=λr e=>(Vd.mp e).2
theorem iC:∀r∈pK y (flt rs),bt r=true:=λr e=>rX r (Vd.mp e).1
theorem Gz{a b c:D}:nM [a,b,c,d,e] ca (ap 3)=[a,b,c]:=rfl
theorem Cse.Ok.rw(o:C.Ok)(e:bf C.names C.w C.many rs)(f:dA rs<=7):(C.rw rs).Ok:=#[o.m2,o.m1,o.few,o.most,o.nd,o.l0,o.l1,e,f,o.mn]
theorem SOk.rw(k:SOk C s):SOk (C.rw rs) s:=#[k.ln,k.lp,k.rn,k.rp]
theorem nz(o:C.Ok)(f:∀r∈rs,bt r=true)(e:rs.length<=C.most):fin ((C.rw rs).cf z) (C.rw rs).most (C.names.zip z.nums) (C.rw rs).rows=ap (fz (C.cf z) (C.names.zip z.nums) rs):=mG rs _ _ f e
theorem Et(o:C.Ok)(f:∀r∈rs,bt r=true)(e:rs.length<=C.most):(C.rw rs).mark z=.int (nm (fz (C.cf z) (C.names.zip z.nums) rs) C.mn):=fC (nz o f e)
theorem IS{n:cO}(F:fin (C.cf s) C.most (C.names.zip s.nums) C.rows=ap n)(G:fin (C.cf t) C.most (C.names.zip t.nums) C.rows=ap e):Jj C s t=.tup [.int (nm n C.mn),.int (nm e C.mn)]:=by
 obtain⟨p,B⟩:=mH F;obtain⟨h,f⟩:=mH G;unfold Jj;rw[if_pos #[p,h],B,f]
theorem ne_e{w:D}{rest:List D}(q:K (!decide (x=y)) M):am (ai km (ai az (ac 0)<|dC<|.int 1)<|ac 1) [ap (.tup (w::.str x::rest)),ap (.str y)] M K:=by
 trivial
theorem vg(o:C.Ok)(hs:SOk C s)(ht:SOk C t)(hy:y∈C.names)(hn:aL C s (.inr y)≠aL C t (.inr y))(hrl:C.rows.length<=1000)(hl:(flt C.rows).length+1<=C.most)(h:∀rs,(C.rw rs).Ok->(C.rw rs).two s t->(∀r∈rs,bt r=true)->rs.length<=(flt C.rows).length+1->Q (C.rw rs).d M):zr ad [C.d,s.d,t.d,.int (C.most:Nat),.str y] M Q E:=by
 have O:=@zi C;have B:∀rs,(C.rw rs).d=.tup [.int C.w,.tup (C.names.map D.str),.int (C.many:Nat),.tup (aH rs),.str C.mn]:=λ_=>rfl;have F:=xC o.ok;have G:bf C.names C.w C.many (pK y<|flt C.rows):=Cq F;have ln:(pK y<|flt C.rows).length<=(flt C.rows).length:=VA _ _;have lf:(flt C.rows).length<=C.rows.length:=VA _ _;have o1:=o.rw G (by rw[gG iC];decide)
 have f1:=nz (z:=s) o iC (show (pK y<|flt C.rows).length<=C.most by lia)
 have f2:=nz (z:=t) o iC (show (pK y<|flt C.rows).length<=C.most by lia)
 have em:=IS (C:=C.rw (pK y<|flt C.rows)) f1 f2;have rk:∀(z:Sta),SOk C z->∀r∈pK y (flt C.rows),iV r∈(C.names.zip z.nums).map (·.1):=λz I r H=>by
  rw[gZ I.ln.symm];exact yO (Ez G iC r H)
 have ny:∀(z:Sta),SOk C z->nm (fz (C.cf z) (C.names.zip z.nums)<|pK y<|flt C.rows) y=aL C z (.inr y):=λz I=>MN _ _ (rk z I) λr H=>of_decide_eq_true (Vd.mp H).2;rw[Sn];unfold B2;generalize S:mE ad (aI E)=K5;rw[O];refine#[rfl,aG (λ_ _ q=>qN hrl o.ok q) ?_];refine dh (JS y) id aM (by rw[cc];lia) (λx hx K q=>?_) (λx hx _ K q=>q) ?_
 .obtain⟨r,H,rfl⟩:=vp hx
  obtain⟨w,rest,e⟩:=tX (jf F H);have e2:JS y r.d=decide (iV r≠y):=by rw[e];rfl
  rw[e2]at q;rw[e];exact ne_e (by simpa [aQ] using q)
 intro p hp;rw[Wd,xi F];rw[<- S];unfold mE;generalize hK4:lX ad (aI E)=K4;simp![Mem.upd_del,aw hp,Gz,atI_4];refine#[bj (by decide),bj (by decide),?_]
 rw[<- hK4];unfold lX;generalize R:mO ad (aI E)=K3;rw[<- B];refine#[rfl,aG (λ_ _ q=>eM (C:=C.rw (pK y<|flt C.rows)) o1 hs.rw ht.rw q)<|lQ ?_];rw[em];simp only[af,Va];rw[<- R];unfold mO;generalize X:mZ ad (aI E)=K2;simp![atI_0,atI_1];generalize W:fz (C.cf s) (C.names.zip s.nums) (pK y<|flt C.rows)=ns at *;generalize P:fz (C.cf t) (C.names.zip t.nums) (pK y<|flt C.rows)=nt' at *;have Y:(C.rw<|pK y<|flt C.rows).mn=C.mn:=rfl;rw[Y]
 by_cases c:nm ns C.mn=nm nt' C.mn
 .simp only[if_pos c]
  rw[<- X];unfold mZ;generalize Z:mF ad (aI E)=K1;rw[B];simp![atI_4];refine#[bj (by decide),?_]
  rw[<- Z];unfold mF;simp![Gz,atI_4,cc];refine#[bj (by decide),bj (by lia),bj (by decide),bj (by decide),ak ?_]
  have er:aH (pK y<|flt C.rows)++[D.tup [.str "sum",.str C.mn,.str C.mn,.str y]]=aH (pK y (flt C.rows)++[.two "sum" C.mn C.mn y]):=by
   rw[bZ];rfl
  rw[er,<- B];have f:∀r∈pK y (flt C.rows)++[.two "sum" C.mn C.mn y],bt r=true:=λr H=>by
   rcases Vs.mp H with h|h
   .exact iC r h
   .simp only[Xx]at h;subst h;rfl
  have ok2:bf C.names C.w C.many (pK y (flt C.rows)++[.two "sum" C.mn C.mn y]):=OkRs_append.mpr #[G,#[#[.inl rfl,o.mn,o.mn,hy],trivial]];refine h _ (o.rw ok2<|by rw[gG f];decide) ?_ f (by simp_all)
  have g:∀(z:Sta),SOk C z->(C.rw _).mark z=.int ((nm (fz (C.cf z) (C.names.zip z.nums)<|pK y<|flt C.rows) C.mn+aL C z (.inr y)) % C.w):=λz I=>by
   refine (Et o f<|by rw[Vi,WA];lia).trans ?_
   have e:fz (C.cf z) (C.names.zip z.nums) (pK y (flt C.rows)++[.two "sum" C.mn C.mn y])=sN (fz (C.cf z) (C.names.zip z.nums)<|pK y<|flt C.rows) C.mn (num (C.cf z) (fz (C.cf z) (C.names.zip z.nums)<|pK y<|flt C.rows)<|.two "sum" C.mn C.mn y):=by
    unfold fz;rw[List.foldl_append];rfl
   rw[e];rw[iS (by rw[Kl,gZ I.ln.symm];exact o.mn),if_pos rfl]
   show D.int (zm "sum" _ _ _)=_;unfold zm;rw[if_pos rfl,ny z I];rfl
  refine#[_,_,g s hs,g t ht,?_];rw[W,P,c];have J:(Vr y:aD)∈eD C:=Vs.mpr (.inl<|UZ.mpr #[y,hy,rfl]);exact IR (bR o hs J) (bR o ht J) hn
 .simp only[if_neg c]
  refine ak (h _ o1 #[_,_,?_,?_,c] iC<|by lia)
  .exact fC f1
  .exact fC f2
theorem qX:∀(n:Nat)(xs:abY),fits n (xs.map D.str)=true
 |n,[]=>by rfl
 |n,x::xs=>by
  have:=qX n xs
  assumption
theorem ne_m(q:K (!decide (x=e)) M):am (ai km (ac 0)<|ai az (ac 1)<|dC<|.int 4) [ap (.str x),ap (.tup [p,B,h,f,.str e])] M K:=by
 trivial
theorem MM{xs:abY}{b:Bool}(B:b=!xs.isEmpty)(q:K b M):am (ai km (ac 2)<|aq<|bO ag) [δ0,e,ap (.lst<|xs.map D.str)] M K:=by
 refine#[by trivial,λp h=>bU h ?_]
 have f:fits 59 []=true:=rfl;simp only[km,dv,bz,(qX 59 xs),f];refine#[trivial,trivial,?_];rw[B]at q;cases xs<;>assumption
theorem xF:∀r∈[Rw.take f 0,.two "sum" h h f],bt r=true:=by
 intro r e;simp at e;rcases e with rfl|rfl<;>rfl
theorem sG(o:C.Ok)(hs:SOk C s)(ht:SOk C t)(h0:0<C.many)(hn:aL C s (.inl 0)≠aL C t (.inl 0))(hrl:C.rows.length<=1000)(h4:4<=C.most)(f1:fin (C.cf s) (C.most-4) (C.names.zip s.nums) C.rows=ap n1)(f2:fin (C.cf t) (C.most-4) (C.names.zip t.nums) C.rows=ap n2)(k1:n1.map (·.1)=C.names)(k2:n2.map (·.1)=C.names)(he:nm n1 C.mn=nm n2 C.mn)(h:∀more,(C.rw (C.rows++more)).Ok->(C.rw (C.rows++more)).two s t->(∀r∈more,bt r=true)->more.length<=2->Q (C.rw (C.rows++more)).d M):KC ad [C.d] M Q E:=by
 have O:=@zi C;have H:∀rs,(C.rw rs).d=.tup [.int C.w,.tup (C.names.map D.str),.int (C.many:Nat),.tup (aH rs),.str C.mn]:=λ_=>rfl;have l1:=o.l1;have I:(V6 0:aD)∈eD C:=Vs.mpr (.inr<|by simp_all)
 have Y:∀more:List Rw,(∀r∈more,bt r=true)->bf C.names C.w C.many more->(C.rw (C.rows++more)).Ok:=λmore e R=>o.rw (OkRs_append.mpr #[o.ok,R]) (by rw[dY,gG e];have:=o.h;lia)
 rw[u_q9];unfold Jw;generalize X:rQ ad (aI E)=K4;rw[O];simp![atI_4];refine#[bj (by decide),bj (by decide),?_]
 rw[<- X];unfold rQ;generalize S:uA ad (aI E)=K3;refine dh (λd=>match d with|.str x=>!decide (x=C.mn)|_=>true) id aM (by rw[UM];lia) (λx F K q=>?_) (λx F _ K q=>q) ?_
 .obtain⟨y,hy,rfl⟩:=UZ.mp F
  exact ne_m q
 intro p hp;have ef:((C.names.map D.str).filter λd=>match d with|.str x=>!decide (x=C.mn)|_=>true)=(C.names.filter λx=>!decide (x=C.mn)).map D.str:=by
  rw[VJ];rfl
 rw[Wd,ef]
 simp_arith! only[eP,Va,dt,UL,Mem.upd_same,Mem.upd_del,aw hp]
 rw[<- S];unfold uA;generalize G:oG ad (aI E)=K2;generalize W:sH ad (aI E)=K1;cases hf:C.names.filter λx=>!decide (x=C.mn) with
 |nil=>
  unfold ah aJ;refine MM (b:=cx) rfl ?_;rw[if_neg (by simp),<- G]
  unfold oG;simp![Gz,atI_3,atI_4,cc];refine#[bj (by lia),bj (by decide),bj (by decide),ak ?_]
  have J:aH C.rows++[D.tup [.str "take",.str C.mn,.int 0]]=aH (C.rows++[.take C.mn 0]):=by rw[bZ];rfl
  rw[J,<- H];have e:∀r∈[Rw.take C.mn 0],bt r=true:=λr Z=>by simp only[Xx]at Z;subst Z;rfl
  have g:∀(z:Sta)(n:cO),fin (C.cf z) (C.most-4) (C.names.zip z.nums) C.rows=ap n->n.map (·.1)=C.names->(C.rw (C.rows++[.take C.mn 0])).mark z=.int (aL C z<|.inl 0):=λz n f k=>by
   refine (qM f h4 e<|by simp).trans ?_
   have:nm (fz (C.cf z) n [.take C.mn 0]) C.mn=aL C z (.inl 0):=by
    show nm (sN n C.mn _) C.mn=_;rw[iS (by rw[k];exact o.mn),if_pos rfl];rfl
   rw[this]
  exact h _ (Y _ e #[#[o.mn,Yg _,by lia],trivial]) #[_,_,g s n1 f1 k1,g t n2 f2 k2,hn] e (by simp)
 |cons x0 xs=>
  have F:x0∈C.names.filter λx=>!decide (x=C.mn):=by rw[hf];exact Vp
  have B:=(Vd.mp F).1;have P:¬x0=C.mn:=by simpa using (Vd.mp F).2
  unfold ah aJ;refine MM (b:=true) rfl ?_;rw[if_pos rfl,<- W];unfold sH;rw[UR];simp![atI_0,atI_4];refine#[bj (by decide),bj (by decide),bj (by decide),?_]
  rw[<- G];unfold oG;simp![Gz,atI_3,atI_4,cc];refine#[bj (by lia),bj (by decide),bj (by decide),ak ?_]
  have J:aH C.rows++[D.tup [.str "take",.str x0,.int 0],D.tup [.str "sum",.str C.mn,.str C.mn,.str x0]]=aH (C.rows++[.take x0 0,.two "sum" C.mn C.mn x0]):=by rw[bZ];rfl
  rw[J,<- H];have g:∀(z:Sta)(n:cO),fin (C.cf z) (C.most-4) (C.names.zip z.nums) C.rows=ap n->n.map (·.1)=C.names->(C.rw (C.rows++[.take x0 0,.two "sum" C.mn C.mn x0])).mark z=.int _:=λz n f k=>by
   refine (qM f h4 xF<|by simp).trans ?_
   have:nm (fz (C.cf z) n [.take x0 0,.two "sum" C.mn C.mn x0]) C.mn=(nm n C.mn+aL C z (.inl 0)) % C.w:=by
    show nm (sN (sN n x0<|aL C z<|.inl 0) C.mn<|zm "sum" _ (nm (sN n x0<|aL C z<|.inl 0) x0) C.w) C.mn=_;rw[iS (by rw[jB,k];exact o.mn),if_pos rfl,iS (by rw[k];exact B),iS (by rw[k];exact B),if_neg λz=>P z.symm,if_pos rfl]
    unfold zm;rw[if_pos rfl]
   rw[this]
  refine h _ (Y _ xF #[#[B,Yg _,by lia],#[.inl rfl,o.mn,o.mn,B],trivial]) #[_,_,g s n1 f1 k1,g t n2 f2 k2,?_] xF (by simp)
  rw[he];exact IR (bR o hs I) (bR o ht I) hn
theorem vP:∀(rs:List Rw),cRs (rs.filter p)<=cRs rs
 |[]=>UX _
 |r::rs=>by
  have:=vP (p:=p) rs;rw[Vo]
  split
  .simp[cRs];lia
  simp[cRs];lia
theorem tB:∀(rs:List Rw),rs.length<=cRs rs
 |[]=>UX _
 |r::rs=>by
  have:=tB rs;have:1<=cR r:=by cases r<;>simp[cR]<;>lia
  simp[cRs];lia
theorem s_:∀{rs:List Rw},(∀r∈rs,bt r=true)->cRs rs=rs.length
 |[],_=>rfl
 |r::rs,h=>by
  have p:=h r (by simp_all)
  have f:=s_ λq e=>h q (UY _ e);cases r with
  |ifr=>trivial
  |again=>trivial
  |_=>simp[cRs,cR];lia
def UH(C:Cse)(s t:Sta)(fi:Nat):Prop:=if fi<C.names.length then ∀y,C.names[fi]?=ap y->aL C s (.inr y)≠aL C t (.inr y) else aL C s (.inl 0)≠aL C t (.inl 0)
theorem Pi(o:C.Ok)(O:SOk C s)(I:SOk C t)(Z:0<C.many)(hc:cRs C.rows<=24)(Y:30<=C.most)(f:UH C s t fi)(J:M ln=ap (.lst<|t.nums.map D.int))(S:fin (C.cf s) (C.most-4) (C.names.zip s.nums) C.rows=ap n1)(X:fin (C.cf t) (C.most-4) (C.names.zip t.nums) C.rows=ap n2)(k1:n1.map (·.1)=C.names)(k2:n2.map (·.1)=C.names)(W:nm n1 C.mn=nm n2 C.mn)(h:∀rs,(C.rw rs).Ok->(C.rw rs).two s t->cRs rs<=26->∀e,D'.nx [d0,d1,d2,ap (C.rw rs).d,ap s.d,ap (.ref ln),d6,ap (.int (fi:Nat)),d8,d9,d10,ap t.d,ap (.int (C.most:Nat)),e] M):
  ∀e,jW ad EE D' [d0,d1,d2,ap C.d,ap s.d,ap (.ref ln),d6,ap (.int (fi:Nat)),d8,d9,d10,ap t.d,ap (.int (C.most:Nat)),e] M:=by
 intro e;have lr:=tB C.rows;have lf:(flt _).length<=C.rows.length:=VA _ _;have fd:∀{rs:List Rw}{M:Mem}{Q:DK},Q _ M->frz (C.rw rs).d M Q:=λq=>q;unfold jW;have hl:=I.ln
 simp_arith! only[aJ,am,ai,ac,b6,aa,dt,UL,bh,aO,J,k4]
 unfold UH at f
 by_cases c:fi<C.names.length
 .rw[if_pos c]at f
  rw[if_pos (by simp;lia)]
  obtain⟨y,F⟩:∃y,C.names[fi]?=ap y:=#[_,UO c];have R:fH (C.names.map D.str) fi=ap (.str y):=by rw[bE (by lia),Vj,UT,F];rfl
  unfold oh
  simp_arith! only[ao,aq,aj,aa,ac,ai,dC,dt,UL,(@zi C),az,aO,atI_1,R]
  refine#[rfl,ar λQ' E' H _=>vg o O I (VR F) (f y F) (by lia) (by lia) λrs p B G P=>H _ _ (fd ?_)]
  exact h rs p B (by rw[s_ G];lia) _
 .rw[if_neg c]at f
  rw[if_neg (by simp;lia)]
  exact#[rfl,ar λQ' E' H _=>sG o O I Z f (by lia) (by lia) S X k1 k2 W λmore p B G P=>H _ _ (fd<|h _ p B (by rw[dU,s_ G];lia) _)]
theorem IY(o:C.Ok)(H:SOk C s)(F:SOk C t)(Z:0<C.many)(hc:cRs C.rows<=24)(I:30<=C.most)(hf:UH C s t fi)(G:M ln=ap (.lst<|t.nums.map D.int))(J:fin (C.cf s) (C.most-4) (C.names.zip s.nums) C.rows=ap n1)(O:fin (C.cf t) (C.most-4) (C.names.zip t.nums) C.rows=ap n2)(h:∀rs,(C.rw rs).Ok->(C.rw rs).two s t->cRs rs<=26->D'.rt (bc (C.rw rs) s t) M):
  ju ad EE D' [d0,d1,d2,ap C.d,ap s.d,ap (.ref ln),d6,ap (.int (fi:Nat)),d8,d9,d10,ap t.d,ap (.int (C.most:Nat)),ca] M:=by
 obtain⟨j1,_,B⟩:=lS _ _ _ _ J 4 [];obtain⟨j2,_,p⟩:=lS _ _ _ _ O 4 [];have S:C.most-4+4=C.most:=by lia
 rw[S,VD,dI]at B p;have P:=IS B p;have R:=mH B;have Y:=mH p;have W:n1.map (·.1)=C.names:=by rw[<- R.2];exact(Db o H).keys
 have X:n2.map (·.1)=C.names:=by rw[<- Y.2];exact(Db o F).keys
 have e:∀rs,(C.rw rs).Ok->(C.rw rs).two s t->cRs rs<=26->∀f,jr ad EE D' [d0,d1,d2,ap (C.rw rs).d,ap s.d,ap (.ref ln),d6,ap (.int (fi:Nat)),d8,d9,d10,ap t.d,ap (.int (C.most:Nat)),f] M:=λrs a b c f=>by
  unfold jr
  simp_arith! only[aB,aS,aa,ac,ag,dt,UL]
  exact#[bj (by simp),h rs a b c]
 unfold ju
 simp_arith! only[ah,ao,aq,aj,aa,ag,ac,dt,UL]
 refine#[rfl,aG (λ_ _ q=>eM o H F q)<|lQ ?_];rw[P];simp only[af,Va];unfold oO
 simp_arith! only[ah,aJ,am,ai,ac,dC,dt,UL,az,aO,atI_0,atI_1,ck,dv,bz,aQ]
 refine#[trivial,trivial,?_]
 by_cases c:nm n1 C.mn=nm n2 C.mn
 .rw[if_pos (by simpa using c)]
  exact Pi o H F Z hc I hf G J O W X c e _
 .rw[if_neg (by simpa using c)]
  simp only[aE];exact e C.rows o #[_,_,fC B,fC p,c] (by lia) _
theorem OS(o:C.Ok)(p:SOk C s)(f:SOk C t)(R:0<C.many)(S:cRs C.rows<=24)(F:30<=C.most)(P:UH C s t fi)(B:M ln=ap (.lst<|t.nums.map D.int))(h:∀rs,(C.rw rs).Ok->(C.rw rs).two s t->cRs rs<=26->D'.rt (bc (C.rw rs) s t) M):
  jg ad EE D' [d0,d1,d2,ap C.d,ap s.d,ap (.ref ln),d6,ap (.int (fi:Nat)),d8,d9,d10,ap t.d,ap (.int (C.most:Nat)),ca] M:=by
 have Y:=@zi C;have lr:=tB C.rows;have lf:(flt _).length<=C.rows.length:=VA _ _;generalize e:({ C with most:=C.most-4 })=C4;have X:C4.Ok:=by subst e;exact#[o.m2,o.m1,o.few,by show C.most-4<=_;have:=o.most;lia,o.nd,o.l0,o.l1,o.ok,o.h,o.mn]
 have s4:SOk C4 s:=by subst e;exact#[p.ln,p.lp,p.rn,p.rp]
 have t4:SOk C4 t:=by subst e;exact#[f.ln,f.lp,f.rn,f.rp]
 have H:C4.d=C.d:=by subst e;rfl
 have W:(C.most:Int)-4=C4.most:=by subst e;show _=((C.most-4:Nat):Int);lia
 have Z:∀z,fin (C4.cf z) C4.most (C4.names.zip z.nums) C4.rows=fin (C.cf z) _ (C.names.zip z.nums) _:=λz=>by
  subst e;exact F5 _ _ _
 have G:=xC o.ok;have of:=o.rw G (by rw[gG rX];decide)
 unfold jg
 simp_arith! only[ah,aJ,am,ai,aq,aj,aa,ac,dC,dt,UL,k4,W]
 rw[<- H];refine#[rfl,aG (λ_ _ q=>eM X s4 t4 q)<|lQ ?_];rw[H];unfold Jj
 by_cases c:(C4.run s).1=true/\(C4.run t).1=true
 .rw[if_pos c]
  have O:=Bl c.1;have J:=Bl c.2;rw[Z]at O J;exact IY o p f R S F P B O J h
 .rw[if_neg c]
  refine#[rfl,aG (λ_ _ q=>qN (by lia) o.ok q) ?_]
  simp_arith! only[Gz]
  refine#[bj (by simp),bj (by simp),?_]
  have I:∀z,fin ((C.rw<|flt C.rows).cf z) _ (C.names.zip z.nums) (flt C.rows)=ap _:=λz=>mG _ _ _ rX (by show _<=C.most-4;lia)
  exact IY of p.rw f.rw R (Vb (vP _) S) F P B (I s) (I t) h
noncomputable def gA(xs:abX)(i:Nat):Int:=(xs[i]?).getD 0
def HX(xs ys:abX):Nat:=((Vc xs.length).filter λi=>decide (gA xs i≠gA ys i)).length
theorem wW{q:Nat->Bool}{j:Nat}:∀(l:List Nat),l.Nodup->(∀i∈l,i≠j->p i=true->q i=true)->(l.filter p).length<=(l.filter q).length+if j∈l then 1 else 0
 |[],_,_=>by simp
 |i::l,nd,h=>by
  have f:=V2.mp nd;have B:=wW (p:=p) (q:=q) (j:=j) l f.2 (by simp_all)
  by_cases e:i=j
  .subst e
   rw[if_neg f.1]at B;rw[Vo,Vo]
   split<;>split<;>(try simp)<;>lia
  have G:(if j∈i::l then 1 else 0)=if j∈l then 1 else 0:=by
   have:j∈i::l↔j∈l:=by simp[Vu e,e]
   simp only[this]
  rw[G,Vo,Vo]
  by_cases F:p i=true
  .rw[if_pos F,if_pos (by simp_all),Vh,Vh];lia
  rw[if_neg F]
  split
  .rw[Vh];lia
  .exact B
theorem pI(e:j<xs.length):gA (xs.set j v) i=if i=j then v else gA xs i:=by
 unfold gA
 grind
theorem mU(h:j<ys.length):HX xs (ys.set j v)<=HX xs ys+1:=by
 unfold HX;have:=wW (p:=λi=>decide (gA xs i≠gA (ys.set j v) i)) (q:=λi=>decide _) (Vc xs.length) XZ λi _ e f=>by
  rw[pI h,if_neg e]at f;exact f
 split at this<;>lia
theorem jO:HX xs xs=0:=by
 unfold HX;rw[ZH.mpr (by lia)];rfl
theorem uk(h:i<xs.length):gA xs i∈xs:=by
 unfold gA
 simp_all
theorem Cb(h:i<xs.length):fH (xs.map D.int) (i:Int)=ap (.int<|gA xs i):=by
 rw[bE (by lia),Vj,UT]
 unfold gA;rw[UO h];rfl
structure Cm(k:Pt)(ln lp:cp)(ns ps:abX)(M0 M:Mem):Prop where
 has:Has k M
 a:ln≠k.p/\ln≠k.q
 b:lp≠k.p/\lp≠k.q
 ab:ln≠lp
 en:M ln=ap (.lst<|ns.map D.int)
 ep:M lp=ap (.lst<|ps.map D.int)
 n0:M0 ln=ca
 p0:M0 lp=ca
 keep:∀b o,b≠k.p->b≠k.q->M0 b=ap o->M b=ap o
structure Df(m:Int)(nums pieces ns ps:abX)(fi cnt:Nat):Prop where
 ln:ns.length=nums.length
 lp:ps.length=pieces.length
 rn:∀v∈ns,0<=v/\v<m
 rp:∀v∈ps,0<=v/\v<m
 few:HX nums ns+HX pieces ps<=cnt
 fi:if fi<nums.length then gA nums fi≠gA ns fi else gA pieces 0≠gA ps 0
theorem Cm.dr(c:Cm k ln lp ns ps M0 M)(d:Dr k M M'):Cm k ln lp ns ps M0 M':=
 #[d.1,c.a,c.b,c.ab,by rw[d.2 ln c.a.1 c.a.2];exact c.en,by rw[d.2 lp c.b.1 c.b.2];exact c.ep,c.n0,c.p0,λb o e f=>by rw[d.2 b e f];exact c.keep b o e f]
theorem iG:(xs.map D.int).set j (.int v)=(xs.set j v).map D.int:=by simp_all
theorem Cm.sN(c:Cm k ln lp ns ps M0 M):Cm k ln lp (ns.set j v) ps M0 (M.upd ln<|.lst<|(ns.set j v).map D.int):=
 #[c.has.upd c.a,c.a,c.b,c.ab,Mem.upd_same,by rw[ae c.ab.symm];exact c.ep,c.n0,c.p0,λb o f h e=>by rw[ae (Mem.ne e c.n0)];exact c.keep b o f h e]
theorem Cm.sP(c:Cm k ln lp ns ps M0 M):Cm k ln lp ns (ps.set j v) M0 (M.upd lp<|.lst<|(ps.set j v).map D.int):=
 #[c.has.upd c.b,c.a,c.b,c.ab,by rw[ae c.ab];exact c.en,Mem.upd_same,c.n0,c.p0,λb o f h e=>by rw[ae (Mem.ne e c.p0)];exact c.keep b o f h e]
theorem mx(h:∀v∈xs,0<=v/\v<m)(f:0<=v/\v<m):∀w∈xs.set j v,0<=w/\w<m:=λw e=>by
 grind
theorem Df.sN(d:Df m nums pieces ns ps fi cnt)(B:j<nums.length)(p:0<=v/\v<m)(h:v≠gA nums j):Df m nums pieces (ns.set j v) ps fi (cnt+1):=by
 have f:j<ns.length:=by rw[d.ln];exact B
 refine#[by rw[Wg];exact d.ln,d.lp,mx d.rn p,d.rp,?_,?_]
 .have:=mU (xs:=nums) (v:=v) f
  have:=d.few;lia
 have:=d.fi
 split at this
 .rename_i c
  rw[if_pos c,pI f]
  split
  .rename_i e;rw[e];exact λz=>h z.symm
  exact this
 rename_i c;rw[if_neg c];exact this
theorem Df.sP(d:Df m nums pieces ns ps fi cnt)(B:j<pieces.length)(p:0<=v/\v<m)(h:v≠gA pieces j):Df m nums pieces ns (ps.set j v) fi (cnt+1):=by
 have f:j<ps.length:=by rw[d.lp];exact B
 refine#[d.ln,by rw[Wg];exact d.lp,d.rn,mx d.rp p,?_,?_]
 .have:=mU (xs:=pieces) (v:=v) f
  have:=d.few;lia
 have:=d.fi
 split at this
 .rename_i c;rw[if_pos c];exact this
 rename_i c
 rw[if_neg c,pI f]
 split
 .rename_i e;rw[e];exact λz=>h z.symm
 exact this
theorem SJ(c:Cm k ln lp ns ps M0 M)(d:Df m nums pieces ns ps fi cnt)(m2:2<=m)(m1:m<=997)(rn:∀v∈nums,0<=v/\v<m)(rp:∀v∈pieces,0<=v/\v<m)(hp:fH pl 0=ap (.int m))(s0:0<sm)(s1:sm<=(nums.length:Int)+pieces.length)(hb:nums.length+pieces.length<=1000)(h:∀ns' ps' M' d10',Cm k ln lp ns' ps' M0 M'->Df m nums pieces ns' ps' fi (cnt+1)->D'.nx [ap (.ref k.p),d1,d2,ap (.tup pl),ap (bJ nums pieces),ap (.ref ln),ap (.ref lp),d7,ap (.int sm),d9,d10',d11,d12,d13] M'):
  uc ad EE D' [ap (.ref k.p),d1,d2,ap (.tup pl),ap (bJ nums pieces),ap (.ref ln),ap (.ref lp),d7,ap (.int sm),d9,d10,d11,d12,d13] M:=by
 have fi':∀{v:Int}{M:Mem}{Q:DK},Q _ M->frz (.int v) M Q:=λz=>z;refine#[rfl,aP c.has s0 (by lia) λr M1 a1 b1 dr=>fi' ?_]
 have c1:=c.dr dr;simp[af];unfold sE
 simp_arith! only[aJ,am,ai,b6,aa,ac,dt,UL,bh,aO,c1.en,UM,k4,d.ln]
 obtain⟨j,hj⟩:∃j:Nat,r=j:=#[r.toNat,by lia]
 subst hj
 by_cases q:j<nums.length
 .rw[if_pos (by simp;lia)]
  unfold sL
  simp_arith! only[ao,aq,aj,aa,ac,ai,dC,bJ,dt,UL,az,aO,hp,atI_0,Cb q]
  refine#[rfl,ar λQ' E' hq _=>g8 c1.has m2 m1 (rn _<|uk q) λw M2 w0 w1 wn dr2=>hq _ _ (fi' ?_)];have c2:=c1.dr dr2
  simp_arith! only[cZ,ac,dt,UL,lD,c2.en,UM,gy (by trivial) (show (j:Int)<ns.length by rw[d.ln];lia),iG]
  exact h _ _ _ _ c2.sN (d.sN q #[w0,w1] wn)
 rw[if_neg (by simp;lia)]
 unfold sx
 simp_arith! only[ah,ao,ai,b6,aa,ac,dt,UL,bh,aO,c1.en,UM,k4,d.ln,af,Va]
 obtain⟨i,hi,hi2⟩:∃i:Nat,j-nums.length=(i:Int)/\i<pieces.length:=#[j-nums.length,by lia,by lia]
 rw[hi];unfold sM
 simp_arith! only[ao,aq,aj,aa,ac,ai,dC,bJ,dt,UL,az,aO,hp,atI_1,Cb hi2]
 refine#[rfl,ar λQ' E' hq _=>g8 c1.has m2 m1 (rp _<|uk hi2) λw M2 w0 w1 wn dr2=>hq _ _ (fi' ?_)];have c2:=c1.dr dr2
 simp_arith! only[cZ,ac,dt,UL,lD,c2.ep,UM,gy (by lia) (show (i:Int)<ps.length by rw[d.lp];lia),iG]
 exact h _ _ _ _ c2.sP (d.sP hi2 #[w0,w1] wn)
mutual
theorem Py{names:abY}{m a b:Int}(h:a<=b):∀(r:Rw),eF names m a r->eF names m b r
 |.put x k,h1=>h1
 |.take x i,h1=>#[h1.1,h1.2.1,Int.lt_of_lt_of_le h1.2.2 h]
 |.pick x y,h1=>#[h1.1,h1.2.1,Int.lt_of_lt_of_le h1.2.2 h]
 |.two w x y z,h1=>h1
 |.ifr x c d,h1=>by
  simp only[eF]at h1 ⊢;exact#[h1.1,ji h c h1.2.1,ji h d h1.2.2]
 |.again x c,h1=>by
  simp only[eF]at h1 ⊢;exact#[h1.1,ji h c h1.2]
theorem ji{names:abY}{m a b:Int}(h:a<=b):∀(rs:List Rw),bf names m a rs->bf names m b rs
 |[],_=>trivial
 |r::rs,h1=>#[Py h r h1.1,ji h rs h1.2]
end
theorem Lf(l:abY)(p:aD->Bool):((l.map Vr).filter p).length=((Vc l.length).filter λi=>p (.inr<|(l[i]?).getD ("":Str))).length:=by
 have e:l=(Vc l.length).map λi=>l[i]?.getD ("":Str):=List.ext_getElem (by simp) λi f h=>by simp_all
 conv=>lhs;rw[e]
 rw[Vf,VJ,UM];rfl
structure CaOk(C:Cse)(s t:Sta)(few:Nat):Prop where
 o:C.Ok
 hs:SOk C s
 ht:SOk C t
 two:C.two s t
 un:(aA C s t).length<=few
 h0:0<C.many
 h1:C.many<=40
 cn:cRs C.rows<=26
 one:∀x∈C.names,vA x
theorem ua(o:C.Ok)(e:SOk C s)(h:C.names[i]?=ap y):aL C s (.inr y)=gA s.nums i:=by
 unfold gA;rw[(k8 o.nd e.ln.symm h)];rfl
theorem K0(o:C.Ok)(f:SOk C s)(h:SOk C t):(aA C s t).length=HX s.nums t.nums+HX s.pieces t.pieces:=by
 unfold aA eD;rw[Wu,Vi,Lf];congr 1
 .unfold HX
  rw[f.ln];congr 1;refine Wj λi p=>?_;have e:C.names[i]?=ap (C.names[i]?.getD ""):=by rw[UO (by simp_all)];rfl
  rw[ua o f e,ua o h e]
 unfold HX;rw[VJ,UM,f.lp];rfl
theorem PN:aA (C.rw rs) s t=aA C s t:=rfl
theorem cut2{a b c:D}:nM [a,b,c,d,e] ca (ap 2)=[a,b]:=rfl
theorem SQ{a b c:D}:nM [a,b,c,d,e] (ap 3) ca=[d,e]:=rfl
theorem Er(f1:1<=few)(f5:few<=5)(hp:Has k M)(h:∀C s t M',CaOk C s t few->Kq k M M'->Q (bc C s t) M'):Cz ad [.ref k.p,.int 24,.int (few:Nat)] M Q E:=by
 have ft:∀{xs:List D}{M:Mem}{Q:DK},Q (.tup xs) M->frz (.tup xs) M Q:=λz=>z;have J:∀{v:Int}{M:Mem}{Q:DK},Q (.int v) M->frz (.int v) M Q:=λz=>z;rw[Ue];unfold Bk
 simp_arith! only[ah,ao,aq,aj,aa,ag,ac,dt,UL]
 refine#[rfl,ar λQ' E' W _=>EN (v:=24) (by decide) (by decide) hp λm many names rows mk M1 pl hc q1=>W _ _ (ft ?_)]
 simp only[af,Va];unfold oN;have t4:=pl.t.k0;have t5:=pl.t.k1;have m2:=pl.t.m2;have m1:=pl.t.m1;have l0:=pl.t.n0;have l1:=pl.t.n1;obtain⟨f,hmn,mn1,mn40,mle⟩:∃f:Nat,(if many>1 then many else 1)=(f:Int)/\1<=f/\f<=40/\many<=(f:Int):=by
  refine#[(if many>1 then many else 1).toNat,?_,?_,?_,?_]<;>split<;>lia
 simp_arith! only[ah,ao,ai,aq,ES,cS,fj,aS,aa,ag,b6,ac,dC,ka,dt,UL,oSl,cut2,SQ,frz,az,aO,atI_2,Lc,hmn,aZ,Vh,Ww]
 refine#[bj (by simp),bj (by simp),bj (by simp),?_]
 simp only[Vk,Vm,af,Va];have pl':PlG m (f:Int) names rows mk:=#[#[pl.t.m2,pl.t.m1,pl.t.n0,pl.t.n1,by lia,by lia],pl.nd,ji mle _ pl.ok,pl.h,pl.cn,pl.l,pl.ln,pl.mkm,pl.one]
 have epl:D.tup [.int m,.tup (names.map D.str),.int (f:Int),.tup (aH rows),.str mk]=ka m (f:Int) names rows mk:=rfl
 try rw[epl]
 unfold p8
 simp_arith! only[ah,ao,aq,aj,aa,ag,ac,dt,UL]
 refine#[rfl,ar λQ' E' W _=>yW q1.1 pl' λnums pieces M2 ln lp rn rp q2=>W _ _ (ft ?_)];simp only[af,Va];unfold o_
 simp_arith! only[ah,ao,b6,ai,aa,ag,ac,dC,bJ,dt,UL,az,aO,atI_0,gb]
 intro O Y;simp only[af,Va];unfold oF
 simp_arith! only[ah,ao,b6,ai,aa,ag,ac,dC,dt,UL,az,aO,atI_1,gb]
 intro I B;simp only[af,Va];have nap:O≠I:=Mem.ne Mem.upd_same B;rw[ae nap.symm]at B;have hlN:nums.length=names.length:=ln;have hlP:pieces.length=f:=by lia
 have c0:Cm k O I nums pieces M2 ((M2.upd O<|.lst<|nums.map D.int).upd I<|.lst<|pieces.map D.int):=by
  have a:=q2.1.nep Y;have b:=q2.1.nep B;exact#[(q2.1.upd a).upd b,a,b,nap,by rw[ae nap,Mem.upd_same],Mem.upd_same,Y,B,λb' o _ _ e=>by rw[ae (Mem.ne e B),ae (Mem.ne e Y)];exact e]
 generalize (M2.upd O<|.lst<|nums.map D.int).upd I (.lst<|pieces.map D.int)=M3 at c0 ⊢;have es:D.tup [.tup (nums.map D.int),.tup (pieces.map D.int)]=bJ nums pieces:=rfl;rw[es];unfold pw
 simp_arith! only[ah,ao,aq,aj,ai,b6,aa,ag,ac,dC,dt,UL,bh,aO,c0.en,UM,cD]
 refine#[.inl #[by decide,by decide],rfl,aP c0.has (by lia) (by lia) λr M4 a4 b4 d4=>J ?_]
 have P:=c0.dr d4;obtain⟨fi,hfi⟩:∃fi:Nat,r=(fi:Int):=#[r.toNat,by lia]
 subst hfi;simp only[af,Va];unfold ng
 simp_arith! only[ah,ao,b6,aa,ag,ac,dt,UL,bh,aO,P.en,UM,af,Va]
 unfold og
 have rest:∀(ns ps:abX)(M5:Mem)(sm:Int),Cm k O I ns ps M2 M5->Df m nums pieces ns ps fi 1->0<sm->sm<=(nums.length:Int)+pieces.length->
   (jz ad<|aI E) { nx:=λx M'=>drp Q D.non M',rt:=drp Q } [ap (.ref k.p),ap (.int 24),ap (.int (few:Nat)),ap (ka m (f:Int) names rows mk),ap (bJ nums pieces),ap (.ref O),ap (.ref I),ap (.int (fi:Nat)),ap (.int sm),ca,ca,ca,ca,ca] M5:=by
  intro ns ps M5 sm Z d5 s0 s1;unfold jz
  simp_arith! only[ah,cj,dw,aa,ag,ai,ac,dC,dt,UL,fc,k4]
  refine#[by lia,by lia,?_]
  refine cE (λxs U N=>∃(ns ps:abX)(c9 S:Option D)(j:Nat),xs.length+j=few-1/\U=[ap (.ref k.p),ap (.int 24),ap (.int (few:Nat)),ap (ka m (f:Int) names rows mk),ap (bJ nums pieces),ap (.ref O),ap (.ref I),ap (.int (fi:Nat)),ap (.int sm),c9,S,ca,ca,ca]/\Cm k O I ns ps M2 N/\Df m nums pieces ns ps fi (1+j))
   (λ_ _ _ _=>aM) ?_ ?_ _ _ _ #[ns,ps,ca,ca,0,by simp[cG],rfl,Z,d5]
  .rintro U N ⟨ns,ps,c9,S,j,e1,rfl,G,H⟩
   have ej:1+j=few:=by simp at e1;lia
   rw[ej]at H;unfold oC
   simp_arith! only[ah,ao,aS,b6,aa,ag,ac,dt,UL,bP,g4,aO,G.en,G.ep]
   refine#[bj (by simp),?_]
   have et:D.tup [.tup (ns.map D.int),.tup (ps.map D.int)]=(Sta.mk ns ps).d:=rfl;simp only[af,Va,et];unfold oo
   simp_arith! only[ah,ao,aq,aj,ai,aa,ag,ac,dC,dt,UL]
   refine#[rfl,aP G.has (by decide) (by decide) λr2 M7 a7 b7 d7=>J ?_]
   have c7:=G.dr d7
   simp_arith! only[aZ,af,Va]
   obtain⟨mo,hmo,mo1,mo2⟩:∃mo:Nat,30+r2=(mo:Int)/\30<=mo/\mo<50:=#[(30+r2).toNat,by lia,by lia,by lia]
   rw[hmo];generalize F:(#[m,f,names,rows,mk,mo]:Cse)=C;have o:C.Ok:=by subst F;exact#[m2,m1,by show f<=100;lia,by show mo<=10000;lia,pl.nd,by show 0<names.length;lia,by show names.length<=100;lia,pl'.ok,Vb pl.h (by decide),pl.mkm]
   have hs:SOk C #[nums,pieces]:=by subst F;exact#[hlN,hlP,rn,rp]
   have ht:SOk C #[ns,ps]:=by subst F;exact#[H.ln.trans hlN,H.lp.trans hlP,H.rn,H.rp]
   have eN:C.names.length=nums.length:=by subst F;exact hlN.symm
   have ed:ka m (f:Int) names rows mk=C.d:=by subst F;rfl
   have es2:bJ nums pieces=(Sta.mk nums pieces).d:=rfl;have em:(mo:Nat)=C.most:=by subst F;rfl
   rw[ed,es2,em];refine OS (s:=#[nums,pieces]) (t:=#[ns,ps]) o hs ht (by subst F;show 0<f;lia) (by subst F;show cRs rows<=24;lia) (by rw[<- em];lia) ?_ c7.en λrs o1 tw cr=>ak (h _ _ _ _ #[o1,hs.rw,ht.rw,tw,?_,by subst F;show 0<f;lia,by subst F;exact mn40,cr,by subst F;exact pl.one] ?_)
   .unfold UH
    rw[eN];have hd:=H.fi
    split
    .rename_i c
     rw[if_pos c]at hd;intro y hy;rw[ua o hs hy,ua o ht hy];exact hd
    .rename_i c
     rw[if_neg c]at hd;exact hd
   .rw[PN,K0 o hs ht]
    exact H.few
   .exact q1.trans (q2.trans #[c7.has,c7.keep])
  .rintro x xs U N ⟨ns,ps,c9,S,j,e1,rfl,G,H⟩ D' hD _ _ _
   simp only[Vh]at e1;simp only[af,Va];refine SJ G H m2 m1 rn rp (by simp) s0 s1 (by lia) λns' ps' M' d10' c' d'=>hD _ _ #[ns',ps',_,_,j+1,by lia,rfl,c',?_]
   rw[<- Nat.add_assoc];exact d'
 simp_arith! only[ah,aJ,am,ai,b6,aa,ag,ac,dt,UL,bh,aO,P.en,UM,EU,k4]
 have d0:∀{j:Nat}{v:Int}(hj:j<nums.length),fi=j->0<=v->v<m->v≠gA nums j->Df m nums pieces (nums.set j v) pieces fi 1:=λ{j v} hj e v0 v1 vn=>by
  subst e;refine#[Wg,rfl,mx rn #[v0,v1],rp,?_,?_]
  .have h1:=mU (xs:=nums) (ys:=nums) (v:=v) hj
   have h2:=jO (xs:=nums);have h3:=jO (xs:=pieces);lia
  .rw[if_pos hj,pI hj,if_pos rfl];exact λz=>vn z.symm
 by_cases q:fi<nums.length
 .rw[if_pos (by simp;lia)]
  unfold uu;have R:fH [D.int m,.tup (names.map D.str),.int (f:Int),.tup (aH rows),.str mk] 0=ap (.int m):=by simp
  simp_arith! only[ao,aq,aj,aa,ag,ac,ai,dC,ka,dt,UL,az,aO,R,P.en,Cb q]
  refine#[rfl,ar λQ' E' W _=>g8 P.has m2 m1 (rn _<|uk q) λw M5 w0 w1 wn X=>W _ _ (J ?_)];have Z:=P.dr X
  simp_arith! only[cZ,ac,dt,UL,lD,Z.en,UM,gy (show (0:Int)<=(fi:Int) by lia) (show (fi:Int)<(nums.length:Nat) by lia),Vj,iG]
  try rw[epl]
  exact rest _ _ _ _ Z.sN (d0 q rfl w0 w1 wn) (by lia) (by lia)
 .rw[if_neg (by simp;lia)]
  unfold tV;have hP:0<pieces.length:=by lia
  have R:fH [D.int m,.tup (names.map D.str),.int (f:Int),.tup (aH rows),.str mk] 0=ap (.int m):=by simp
  have ga0:=Cb (xs:=pieces) hP;have ga0':fH (pieces.map D.int) 0=ap (.int<|gA pieces 0):=ga0
  simp_arith! only[ah,ao,aq,aj,aa,ag,ac,ai,dC,ka,dt,UL,az,aO,R,P.ep,ga0']
  refine#[rfl,ar λQ' E' W _=>g8 P.has m2 m1 (rp _<|uk hP) λw M5 w0 w1 wn X=>W _ _ (J ?_)];have Z:=P.dr X;have ix0':uR pieces.length 0=ap 0:=gy (by decide) (by lia)
  simp_arith! only[cZ,ac,dC,dt,UL,lD,Z.ep,UM,ix0',iG]
  have G:=Z.sP (j:=0) (v:=w);generalize M5.upd I (.lst<|(pieces.set 0 w).map D.int)=M6 at G ⊢;unfold sk
  simp_arith! only[ao,aq,ai,b6,aa,ag,ac,dC,dt,UL,bh,aO,G.ep,UM,Wg,cD,Ix,aZ,frz,af,Va]
  refine#[.inl #[by decide,by decide],?_]
  try rw[epl]
  refine rest _ _ _ _ G #[rfl,Wg,rn,mx rp #[w0,w1],?_,?_] (by split<;>lia) (by split<;>lia)
  .have h1:=mU (xs:=pieces) (ys:=pieces) (v:=w) hP
   have h2:=jO (xs:=nums);have h3:=jO (xs:=pieces);lia
  .rw[if_neg q,pI hP,if_pos rfl];exact λz=>wn z.symm
theorem HS(h:Q (bc C s t) M):frz (bc C s t) M Q:=h
end _T
namespace _3
open PySem _2
mutual
def uj:D->Prop
 |.non=>True
 |.int i=>i.natAbs<10 ^ 6
 |.str x=>x.length<=100/\∀c∈x.cps.toList,c<16 ^ 8
 |.tup xs=>kR xs
 |_=>False
def kR:List D->Prop
 |[]=>True
 |x::xs=>uj x/\kR xs
end
mutual
noncomputable def sz:D->Nat
 |.tup xs=>5+qG xs
 |_=>2000
noncomputable def qG:List D->Nat
 |[]=>0
 |x::xs=>sz x+2+qG xs
end
theorem Hy{i:Int}(h:i.natAbs<10 ^ 6):i.natAbs.log2<1920:=by
 by_cases a:i.natAbs=0
 .rw[a];decide
 exact(Z3 a).mpr (UW h<|Vb (by decide:10 ^ 6<=2 ^ 20)<|VF (by decide)<|by decide)
mutual
theorem CN:∀d:D,uj d->(gj d).showable=true
 |.non,_=>by simp only[gj,Xh]
 |.int i,h=>by simp only[gj,Xh,decide_eq_true_eq];exact Hy h
 |.str x,_=>by simp only[gj,Xh]
 |.tup xs,h=>by simp only[gj,Xh];exact vF xs h
 |.bl _,h=>h.elim
 |.lst _,h=>h.elim
 |.ty _,h=>h.elim
 |.ref _,h=>h.elim
 |.mt _,h=>h.elim
 |.ml _,h=>h.elim
theorem vF:∀xs:List D,kR xs->Yh (hV xs)=true
 |[],_=>by simp only[hV,Yh]
 |x::xs,h=>by simp only[hV,Yh,CN x h.1,vF xs h.2,Zq]
end
theorem Kc(a:abY):(tupleText a).length<=piled a+5:=by
 unfold tupleText;rw[strLen_append,strLen_append];have c:("(":Str).length=1:=rfl;have b:((if a.length==1 then ",)" else ")":String):Str).length<=2:=by split<;>decide
 by_cases h:a=[]
 .subst h
  trivial
 have:=join_length_add a h;lia
mutual
theorem qt:∀d:D,uj d->(gj d).shown.length<=sz d
 |.non,_=>by simp only[gj,Ym,sz];decide
 |.int i,h=>by simp only[gj,Ym,sz];exact Vb (PyProof.Rows.int_text_len_1921<|Hy h) (by decide)
 |.str x,h=>by
  simp only[gj,Ym,sz];have:=StrLaws.reprText_len x h.2;have:=h.1;lia
 |.tup xs,h=>by
  simp only[gj,Ym,sz];have:=Kc (X3<|hV xs);have:=on xs h;lia
 |.bl _,h=>h.elim
 |.lst _,h=>h.elim
 |.ty _,h=>h.elim
 |.ref _,h=>h.elim
 |.mt _,h=>h.elim
 |.ml _,h=>h.elim
theorem on:∀xs:List D,kR xs->piled (X3<|hV xs)<=qG xs
 |[],_=>by simp[hV,X3,piled,qG]
 |x::xs,h=>by
  have b:=qt x h.1;have a:=on xs h.2;simp only[hV,X3,qG];simp[piled]at a ⊢;lia
end
end _3
namespace _T
open PySem _2 _3
variable{ad:Ad}{C:Cse}{a b:Int}{M:Mem}{B i n:Nat}{v:Nat->Str}{x:Out}
section
variable{names:abY}{m many:Int}
mutual
theorem sz_R:∀r:Rw,sz r.d+2<=9000*cR r
 |.put _ _=>by simp[Rw.d,sz,qG,cR]
 |.take _ _=>by simp[Rw.d,sz,qG,cR]
 |.pick _ _=>by simp[Rw.d,sz,qG,cR]
 |.two _ _ _ _=>by simp[Rw.d,sz,qG,cR]
 |.ifr _ a b=>by
  have:=wt a;have:=wt b;simp only[Rw.d,sz,qG,cR];lia
 |.again _ a=>by
  have:=wt a;simp only[Rw.d,sz,qG,cR];lia
theorem wt:∀rs:List Rw,qG (aH rs)<=9000*cRs rs
 |[]=>by simp[aH,qG,cRs]
 |r::rs=>by
  have:=sz_R r;have:=wt rs;simp only[aH,qG,cRs];lia
end
theorem a_{x:Str}(h:vA x):uj (.str x):=by
 obtain⟨n,c,f,l,j,g,rfl⟩:=h;refine#[?_,λd e=>?_]
 .show (Wv n c).size<=100
  rw[Array.size_replicate];lia
 simp at e;lia
theorem g7(h:w∈["put","take","pick","sum","by","less","same","if","again"]):uj (.str<|W8 w):=by
 simp at h;rcases h with rfl|rfl|rfl|rfl|rfl|rfl|rfl|rfl|rfl<;>exact#[by decide +kernel,by decide +kernel]
theorem p9{i:Int}(e:0<=i)(c:i<1000):uj (.int i):=by
 show i.natAbs<10 ^ 6;lia
mutual
theorem QB(c:∀x∈names,vA x)(j:m<=997)(k1:many<=40):∀r:Rw,eF names m many r->uj r.d
 |.put x k,h=>by
  simp only[eF,cM]at h;exact#[g7 (w:="put") (by simp),a_ (c _ h.1),p9 h.2.1 (by lia),trivial]
 |.take x k,h=>by
  simp only[eF,cM]at h;exact#[g7 (w:="take") (by simp),a_ (c _ h.1),p9 h.2.1 (by lia),trivial]
 |.pick x y,h=>by
  simp only[eF,cM]at h;exact#[g7 (w:="pick") (by simp),a_ (c _ h.1),a_ (c _ h.2.1),trivial]
 |.two w x y z,h=>by
  simp only[eF,cM]at h;obtain⟨l,f,g,e⟩:=h;rcases l with rfl|rfl|rfl|rfl
  .exact#[g7 (w:="sum") (by simp),a_ (c _ f),a_ (c _ g),a_ (c _ e),trivial]
  .exact#[g7 (w:="by") (by simp),a_ (c _ f),a_ (c _ g),a_ (c _ e),trivial]
  .exact#[g7 (w:="less") (by simp),a_ (c _ f),a_ (c _ g),a_ (c _ e),trivial]
  .exact#[g7 (w:="same") (by simp),a_ (c _ f),a_ (c _ g),a_ (c _ e),trivial]
 |.ifr x a b,h=>by
  simp only[eF]at h;exact#[g7 (w:="if") (by simp),a_ (c _ h.1),ja c j k1 a h.2.1,ja c j k1 b h.2.2,trivial]
 |.again x a,h=>by
  simp only[eF]at h;exact#[g7 (w:="again") (by simp),a_ (c _ h.1),ja c j k1 a h.2,trivial]
theorem ja(c:∀x∈names,vA x)(e:m<=997)(k1:many<=40):∀rs:List Rw,bf names m many rs->kR (aH rs)
 |[],_=>trivial
 |r::rs,h=>by
  simp only[bf]at h;exact#[QB c e k1 r h.1,ja c e k1 rs h.2]
end
end
def OA(us:List aD)(t:Tr)(B:Nat):D:=NP (λq=>B.testBit (us.idxOf q)) t
theorem U6{t1 t2:Tr}:OA us (.a q t1 t2) B=if B.testBit (us.idxOf q)=true then OA us t2 B else OA us t1 B:=rfl
theorem uy:∀(t:Tr)(u:List aD)(S F:Nat),TrN t u->Wy us u S F->x∈c_ a b us t S F->∀i,x.f.testBit i=true->x.s.testBit i=cx
 |.e m,u,S,F,_,w,h=>by
  have:x=#[ku a b m,S,F]:=by simpa [c_] using h
  subst this;exact λi c=>WD.mpr λz=>w.dis i #[z,c]
 |.a q t1 t2,u,S,F,hn,w,h=>by
  rcases Vs.mp h with h1|h1
  .exact uy t2 _ _ _ hn.2.2 (w.fa hn.1) h1
  exact uy t1 _ _ _ hn.2.1 (w.so hn.1) h1
def vB(C:Cse)(s t:Sta)(a b:Int)(B:Nat):Str:=ku a b (OA (aA C s t) (C.tree s t) B)
def outs(C:Cse)(s t:Sta)(a b:Int):List Out:=c_ a b (aA C s t) (C.tree s t) 0 0
theorem Je(h:x∈outs C s t a b):∀i,x.f.testBit i=true->x.s.testBit i=false:=uy _ _ _ _ ow (Wy.zero λ_ h=>h) h
theorem Iy(e:A<2 ^ n)(f:B<2 ^ n)(h:av A=av B):A=B:=by
 refine Nat.eq_of_testBit_eq λi=>?_
 by_cases c:i<n
 .have g:=bi (i:=i) e
  have j:=bi (i:=i) f
  simp_all
 rw[V1 (UW e<|VF (by decide)<|by lia),V1 (UW f<|VF (by decide)<|by lia)]
def jo:Nat->List (List Nat)
 |0=>[[]]
 |n+1=>jo n++(jo n).map (·++[n])
theorem vM(h:B<2 ^ n):av (2 ^ n+B)=av B++[n]:=by
 have c:2 ^ n+B<2 ^ (n+1):=by lia
 rw[cu c,cu h,Ya,Wu];congr 1
 .refine Wj λi e=>?_
  rw[XE (by simp_all)]
 rw[Vo,Zf,V1 h];rfl
theorem mr:∀n:Nat,jo n=(Vc<|2 ^ n).map av
 |0=>rfl
 |n+1=>by
  rw[jo,mr n,ZL,Nat.mul_two,Y4,V9,Vf,Vf];congr 1;exact Vy λB c=>(vM<|by simp_all).symm
theorem GU:(jo n).length=2 ^ n:=by rw[mr,UM,Yv]
def cN:Nat->(Nat->Int)->Int
 |0,f=>f 0
 |n+1,f=>cN n f+cN n λB=>f (2 ^ n+B)
theorem oJ:∀(n:Nat)(f:Nat->Int),((Vc<|2 ^ n).map f).sum=cN n f
 |0,f=>by simp[cN]
 |n+1,f=>by
  rw[cN,<- oJ n,<- oJ n,ZL,Nat.mul_two,Y4,V9,YS,Vf];rfl
theorem bo:∀(n:Nat){f g:Nat->Int},(∀B,B<2 ^ n->f B=g B)->cN n f=cN n g
 |0,_,_,h=>h 0 (by decide)
 |n+1,_,_,h=>by
  rw[cN,cN,bo n λB c=>h B (by lia),bo n λB c=>h _ (by lia)]
theorem fM:∀n:Nat,cN n (λ_=>0)=0
 |0=>rfl
 |n+1=>by rw[cN,fM n];rfl
theorem oQ:∀(n:Nat)(f g:Nat->Int),cN n (λB=>f B+g B)=cN n f+cN n g
 |0,_,_=>rfl
 |n+1,f,g=>by
  rw[cN,oQ n f g,oQ n _ _,cN,cN];lia
theorem nX:∀(n:Nat)(f:Nat->Int),cN n (λB=>-f B)=-cN n f
 |0,_=>rfl
 |n+1,f=>by
  rw[cN,nX n f,nX n _,cN];lia
noncomputable def lq(p r:Nat->Bool)(n B:Nat):Bool:=(Vc n).all λi=>(!p i||B.testBit i)&&(!r i||!B.testBit i)
noncomputable def cn(p:Nat->Bool)(n:Nat):Nat:=((Vc n).filter p).length
def gs:Nat->Nat->(Nat->Int)->Int
 |0,a,h=>h a
 |m+1,a,h=>gs m a h+gs m (a+1) h
theorem rH:∀(m a:Nat),gs m a (λb=>h (b+1))=gs m (a+1) h
 |0,_=>rfl
 |m+1,a=>by rw[gs,rH m a,rH m _,gs]
theorem okB_iff:lq p r n B=true↔∀i,i<n->(p i=true->B.testBit i=true)/\(r i=true->B.testBit i=cx):=by
 unfold lq;rw[YG];constructor
 .intro h i e
  have:=h i (by simp_all)
  cases g:p i<;>cases f:r i<;>cases c:B.testBit i<;>simp_all
 intro h i e;have:=h i (by simp_all)
 cases g:p i<;>cases f:r i<;>cases c:B.testBit i<;>simp_all
theorem jK:lq p r (n+1) B=(lq p r n B&&((!p n||B.testBit n)&&(!r n||!B.testBit n))):=by
 unfold lq
 grind
theorem LA:lq p r n (2 ^ n+B)=lq p r n B:=by
 rw[WW,okB_iff,okB_iff];constructor
 .intro h i c
  have:=h i c
  rwa [XE c]at this
 intro h i c;rw[XE c];exact h i c
theorem md:cn p (n+1)=cn p n+if p n=true then 1 else 0:=by
 unfold cn;rw[Ya,Wu,Vi,Vo]
 split<;>rfl
theorem HD(c:∀i,¬(p i=true/\r i=true)):cn p n+cn r n<=n:=by
 have:=nh (Vc n) c
 rwa [Yv]at this
theorem jP:∀{n:Nat},k<n->p k=true->cn p n=cn (λi=>p i&&decide (i≠k)) n+1
 |0,h,_=>by lia
 |n+1,h,hp=>by
  rw[md,md]
  by_cases e:k=n
  .have:cn (λi=>p i&&decide (i≠k)) k=cn p k:=by
    unfold cn;congr 1;refine Wj λi f=>?_;have:=VI.mp f;have:i≠k:=by lia
    simp[this]
   simp_all
  have c:=jP (show k<n by lia) hp
  simp only[decide_eq_true (show n≠k from (λz=>e z.symm)),Yl]at c ⊢;lia
theorem lV(l:∀i,¬(p i=true/\r i=true)):∀(n:Nat)(h:Nat->Int),cN n (λB=>if lq p r n B=true then h (av B).length else 0)=gs (n-cn p n-cn r n) (cn p n) h
 |0,h=>by
  simp[cN,lq,cn,gs];rfl
 |n+1,h=>by
  have u:cN n (λB=>if lq p r (n+1) B=true then h (av B).length else 0)=if p n=true then 0 else cN n λB=>if lq p r n B=true then h (av B).length else 0:=by
   split
   .rename_i c
    refine (bo n λB f=>?_).trans (fM n);rw[jK,V1 f,c];simp
   .rename_i c
    refine bo n λB f=>?_;rw[jK,V1 f];simp[c]
  have o:cN n (λB=>if lq p r (n+1) (2 ^ n+B)=true then h (av (2 ^ n+B)).length else 0)=if r n=true then 0 else cN n λB=>if lq p r n B=true then h ((av B).length+1) else 0:=by
   have m:∀B,B<2 ^ n->(2 ^ n+B).testBit n=true:=λB f=>by rw[Zf,V1 f];rfl
   split
   .rename_i c
    refine (bo n λB f=>?_).trans (fM n);rw[jK,m B f,c];simp
   .rename_i c
    refine bo n λB f=>?_;rw[jK,LA,m B f,vM f,Vi];simp[c]
  have d:=HD (p:=p) (r:=r) (n:=n) l;rw[cN,u,o,lV l n h,lV l n λb=>h (b+1),rH,md,md];have:=l n
  by_cases g:p n=true
  .have j:¬r n=true:=λz=>l n #[g,z]
   rw[if_pos g,if_neg j,if_pos g,if_neg j,YC];congr 1;lia
  .by_cases j:r n=true
   .rw[if_neg g,if_pos j,if_neg g,if_pos j,YD]
    congr 1;lia
   .rw[if_neg g,if_neg j,if_neg g,if_neg j]
    have e:n+1-(cn p n+0)-(cn r n+0)=(n-cn p n-cn r n)+1:=by lia
    rw[e,gs];rfl
def wN(n b:Nat):Int:=((fct b*fct (n-b-1):Nat):Int)
theorem yb:∀(m a c:Nat),N=a+m+c+1->gs m a (wN N)*((fct (a+c+1):Nat):Int)=((fct a*fct c*fct N:Nat):Int)
 |0,a,c,e=>by
  have:N-a-1=c:=by lia
  have h:a+c+1=N:=by lia
  rw[gs,wN,this,h];rfl
 |m+1,a,c,e=>by
  have f:=yb (N:=N) m a (c+1) (by lia)
  have g:=yb (N:=N) m (a+1) c (by lia)
  have u:a+(c+1)+1=(a+c+1)+1:=by lia
  have h:a+1+c+1=(a+c+1)+1:=by lia
  rw[u]at f;rw[h]at g;have j:fct ((a+c+1)+1)=fct _*(a+c+2):=rfl;have p:fct (c+1)=fct c*(c+1):=rfl;have l:fct (a+1)=fct a*(a+1):=rfl;rw[j,p]at f;rw[j,l]at g;rw[gs];generalize gs m a _=x at *;generalize gs m _ _=y at *;generalize fct (a+c+1)=F at *;generalize fct a=A at *;generalize fct c=Cc at *;generalize fct N=NN at *;have o:((a:Int)+c+2)≠0:=by lia
  refine Zi o ?_
  push_cast at f g ⊢
  have k:(x+y)*F*(a+c+2)=x*(F*(a+c+2))+y*(F*(a+c+2)):=by rw[Z9,Z9,Int.mul_assoc,Int.mul_assoc]
  have z:(a:Int)+c+1+1=a+c+2:=by lia
  rw[z]at f g;rw[k,f,g];have w:(A:Int)*(Cc*(c+1))*NN=A*Cc*NN*(c+1):=by ac_rfl
  have r:(A:Int)*(a+1)*Cc*NN=A*Cc*NN*(a+1):=by ac_rfl
  rw[w,r,<- Int.mul_add];congr 1;lia
theorem FZ{a:Nat}(e:n=a+m+c+1):gs m a (wN n)=((fct n / fct (a+c+1)*fct a*fct c:Nat):Int):=by
 have g:=ir (a+c+1);have f:fct n / fct _*fct (a+c+1)=fct n:=Nat.div_mul_cancel (JG<|by lia)
 refine Zi (show ((fct (a+c+1)):Int)≠0 by lia) ?_
 rw[(yb m a c e)]
 conv=>lhs;rw[<- f]
 push_cast
 ac_rfl
noncomputable def fB(x:Out)(i:Nat):Bool:=x.f.testBit i
noncomputable def sB(x:Out)(i:Nat):Bool:=x.s.testBit i
def ER(n:Nat)(x:Out)(B:Nat):Int:=if lq (fB x) (sB x) n B=true then 1 else 0
theorem kF:(B ||| 2 ^ k).testBit i=(B.testBit i||decide (k=i)):=by rw[Zg,Nat.testBit_two_pow]
theorem Fk(I:OutOk n x)(H:∀i,x.f.testBit i=true->x.s.testBit i=cx)(o:k<n):
  cN n (λB=>if B.testBit k=true then 0 else wN n (av B).length*(ER n x (B ||| 2 ^ k)-ER n x B))=sO n x k:=by
 have P:(av x.f).length=cn (fB x) n:=by rw[cu I.f];rfl
 have ls:(av x.s).length=cn (sB x) n:=by rw[cu I.s];rfl
 have m:∀i,¬(fB x i=true/\sB x i=true):=λi z=>by have:=H i z.1;unfold sB at z;rw[this]at z;exact absurd z.2 (by simp)
 have T:=HD (n:=n) m;unfold sO;rw[P,ls]
 by_cases r:x.f.testBit k=true
 .have l:=H k r
  rw[if_pos r,if_neg (by rw[l];simp),ZP]
  have K:∀i,¬((fB x i&&decide (i≠k))=true/\(sB x i||decide (i=k))=true):=λi z=>by
   obtain⟨F,z2⟩:=z;rw[VM]at F;rw[YV]at z2;rcases z2 with z2|z2
   .exact m i #[F.1,z2]
   .exact of_decide_eq_true F.2 (of_decide_eq_true z2)
  have S:=jP (p:=fB x) o r;have N:=jP (n:=n) (k:=k) (p:=λi=>sB x i||decide (i=k)) o (by simp)
  have J:cn (λi=>(sB x i||decide (i=k))&&decide (i≠k)) n=cn (sB x) n:=by
   unfold cn;congr 1;refine Wj λi _=>?_
   by_cases e:i=k
   .subst e
    have:sB x i=false:=l;simp[this]
   .simp[e]
  rw[J]at N;have g:=lV K n (wN n);rw[FZ (c:=cn (sB x) n) (by lia)]at g
  have O:cn (λi=>fB x i&&decide (i≠k)) n=cn (fB x) n-1:=by lia
  have y:cn (fB x) n-1+cn (sB x) n+1=cn (fB x) n+cn (sB x) n:=by lia
  rw[O,y]at g;rw[<- g];refine bo n λB G=>?_;have z:ER n x B=0\/B.testBit k=true:=by
   by_cases j:B.testBit k=true
   .exact .inr j
   .refine .inl (if_neg λq=>j ((okB_iff.mp q k o).1 r))
  by_cases j:B.testBit k=true
  .rw[if_pos j,if_neg λq=>by have:=(okB_iff.mp q k o).2 (by simp);rw[j]at this;cases this]
  .rw[if_neg j,z.resolve_right j,ZP]
   have:lq (fB x) (sB x) n (B ||| 2 ^ k)=lq (λi=>fB x i&&decide (i≠k)) (λi=>sB x i||decide (i=k)) n B:=by
    rw[WW,okB_iff,okB_iff];constructor
    .intro h i w
     have:=h i w;rw[kF]at this
     by_cases e:i=k
     .subst e;simp[WD.mpr j]
     .have u:¬k=i:=λz=>e z.symm
      simpa [e,u] using this
    .intro h i w
     have:=h i w;rw[kF]
     by_cases e:i=k
     .subst e
      have A:sB x i=false:=l;simp[A]
     .have u:¬k=i:=λz=>e z.symm
      simpa [e,u] using this
   unfold ER;rw[this]
   split
   .rw[Z8]
   .rw[ZQ]
 .rw[if_neg r]
  by_cases l:x.s.testBit k=true
  .rw[if_pos l,Int.zero_sub]
   have R:0<cn (sB x) n:=by have:=jP (p:=sB x) o l;lia
   have g:=lV m n (wN n);rw[FZ (c:=cn (sB x) n-1) (by lia)]at g
   have y:cn (fB x) n+(cn (sB x) n-1)+1=cn (fB x) n+cn (sB x) n:=by lia
   rw[y]at g;rw[<- g,<- nX];refine bo n λB G=>?_
   by_cases j:B.testBit k=true
   .rw[if_pos j,if_neg λq=>by have:=(okB_iff.mp q k o).2 l;rw[j]at this;cases this];rfl
   .have z:ER n x (B ||| 2 ^ k)=0:=if_neg λq=>by
     have:=(okB_iff.mp q k o).2 l;rw[kF]at this;simp at this
    rw[if_neg j,z];unfold ER
    split
    .rw[Int.zero_sub,Int.mul_neg,Z8]
    .rw[ZP,ZQ];rfl
  .rw[if_neg l]
   refine (bo n λB G=>?_).trans (fM n)
   split
   .rfl
   .rename_i j
    have:lq (fB x) (sB x) n (B ||| 2 ^ k)=lq (fB x) (sB x) n B:=by
     rw[WW,okB_iff,okB_iff];refine forall_congr' λi=>imp_congr_right λw=>?_;rw[kF]
     by_cases e:i=k
     .subst e
      have A:fB x i=false:=WD.mpr r;have L:sB x i=false:=WD.mpr l;simp[A,L]
     .have u:¬k=i:=λz=>e z.symm
      simp[u]
    unfold ER;rw[this,Int.sub_self,ZQ]
theorem qm(e:k<n):∀{xs:List Out},(∀x∈xs,OutOk n x/\∀i,x.f.testBit i=true->x.s.testBit i=cx)->
  cN n (λB=>if B.testBit k=true then 0 else wN n (av B).length*((xs.map λx=>ER n x (B ||| 2 ^ k)).sum-(xs.map λx=>ER n x B).sum))=gh n xs k
 |[],_=>by
  refine (bo n λB _=>?_).trans (fM n);simp
 |x::xs,h=>by
  have c:=qm e λy g=>h y (UY _ g);obtain⟨j,l⟩:=h x (by simp_all)
  unfold gh at c ⊢;rw[UR,V5,<- c,<- (Fk j l e),<- oQ];refine bo n λB _=>?_
  split
  .rfl
  rw[UR,V5,UR,V5,<- Int.mul_add];congr 1;lia
section
variable{S F:Nat}
theorem UE(e:i<n):lq (F ||| 2 ^ i).testBit S.testBit n B=(lq F.testBit S.testBit n B&&B.testBit i):=by
 rw[WW,VM,okB_iff,okB_iff];constructor
 .intro h
  refine#[λj c=>#[by simp_all,(h j c).2],(h i e).1<|by simp]
 .grind
theorem SE(e:i<n):lq F.testBit (S ||| 2 ^ i).testBit n B=(lq F.testBit S.testBit n B&&!B.testBit i):=by
 rw[WW,VM,okB_iff,okB_iff];constructor
 .intro h
  refine#[λj c=>#[(h j c).1,λz=>(h j c).2 (by simp_all)],?_]
  rw[(h i e).2 (by simp)];rfl
 rintro⟨h,f⟩ j c
 refine#[(h j c).1,λz=>?_];rw[kF,YV,decide_eq_true_eq]at z;rcases z with z|rfl
 .simp_all
 simp_all
theorem uM:∀(t:Tr)(u:List aD)(S F:Nat),TrN t u->(∀q∈u,q∈us)->
  (((c_ a b us t S F).filter λx=>decide (x.v=("faulty":Str))).map λx=>ER us.length x B).sum=if lq F.testBit S.testBit us.length B=true/\ku a b (OA us t B)=("faulty":Str) then 1 else 0
 |.e m,u,S,F,_,_=>by
  have e:c_ a b us (.e m) S F=[#[_,S,F]]:=rfl;have l:OA us (.e m) B=m:=rfl
  by_cases c:ku a b m="faulty"
  .unfold ER
   have:lq (fB #[ku a b m,S,F]) (sB #[ku a b m,S,F]) us.length B=lq F.testBit S.testBit _ B:=rfl
   simp_all
  simp_all
 |.a q x y,u,S,F,h,hu=>by
  have g:=WC (hu q h.1);have f:∀r∈u.filter (λk=>decide (k≠q)),r∈us:=λr j=>hu r (by simp_all)
  have e:c_ a b us (.a q x y) S F=c_ a b us y S _++c_ a b us x _ F:=rfl;rw[e,Wu,V9,YS,uM y _ _ _ h.2.2 f,uM x _ _ _ h.2.1 f,U6];unfold bitK;rw[UE g,SE g]
  by_cases c:B.testBit (us.idxOf q)=true
  .simp_all
  simp_all
theorem TM:lq (Nat.testBit 0) (Nat.testBit 0) n B=true:=okB_iff.mpr λi _=>by simp
noncomputable def fy(v:Nat->Str)(B:Nat):Int:=if v B=("faulty":Str) then 1 else 0
theorem Hh:((jx C s t a b).map λx=>ER (aA C s t).length x B).sum=fy (vB C s t a b) B:=by
 unfold jx fy vB;rw[(uM _ _ 0 0 ow λ_ h=>h)];simp[TM]
def uV(v:Nat->Str)(n k B:Nat):Int:=if B.testBit k=true then 0 else wN n (av B).length*(fy v (B ||| 2 ^ k)-fy v B)
theorem LC(e:k<(aA C s t).length):((Vc<|2 ^ (aA C s t).length).map<|uV (vB C s t a b) (aA C s t).length k).sum=gh (aA C s t).length (jx C s t a b) k:=by
 rw[oJ,<- qm e λx c=>#[si x c,Je (Vd.mp c).1]];refine bo _ λB _=>?_;unfold uV;rw[Hh,Hh]
end
abbrev QY:=Str×Int×Int
noncomputable def HF(p:QY):D:=.tup [.str p.1,.int p.2.1,.int p.2.2]
theorem nN:∀(c:abY)(xs ys:abX),iP (c.map D.str) (xs.map D.int) (ys.map D.int)=(c.zip<|xs.zip ys).map HF
 |[],_,_=>by simp[iP]
 |_::_,[],_=>by simp[iP]
 |_::_,_::_,[]=>by simp[iP]
 |n::c,x::xs,y::ys=>by
  have:=nN c xs ys;simp at this ⊢;rw[<- this];rfl
theorem Hs{c:abY}(e:c.Nodup)(f:c.length=xs.length)(g:c.length=ys.length):c.zip (xs.zip ys)=c.map λx=>(x,nm (c.zip xs) x,nm (c.zip ys) x):=by
 refine W7 λi=>?_;rw[UT];cases h:c[i]? with
 |none=>
  rw[Option.map_none,VU];rw[YT];have:=XH.mp h;lia
 |some x=>
  rw[VV,WQ];exact#[h,WQ.mpr #[k8 e f h,k8 e g h]]
theorem nF{M:Mem}{b:BxC (dm 3<|aN (af 0)<|aN (af 1)<|aN (af 2) dg) tt te ok Q}(p:QY->Bool)(f:QY->D)(g:ok M):∀(xs:List QY)(abS:List D)(j l m:Option D),abS.length+xs.length<=100000->
  (∀x∈xs,∀K:Bool->Mem->Prop,K (p x) M->tt (ap (.str x.1)::ap (.int x.2.1)::ap (.int x.2.2)::c) M K)->(∀x∈xs,∀K:DK,K (f x) M->te (ap (.str x.1)::ap (.int x.2.1)::ap (.int x.2.2)::c) M K)->Q (abS++(xs.filter p).map f) M->
  eL (dm 3<|aN (af 0)<|aN (af 1)<|aN (af 2) dg) tt te ok Q b (xs.map HF) abS (j::l::m::c) M
 |[],abS,j,l,m,hl,ht,he,h=>#[g,by simpa using h]
 |x::xs,abS,j,l,m,hl,ht,he,h=>by
  simp only[Vh]at hl;rw[UR];refine#[g,?_]
  simp_arith! only[HF,dm,aN,dg,af,Va]
  refine#[rfl,ht x Vp _ ?_];cases o:p x with
  |true=>
   rw[if_pos rfl];refine he x Vp _ #[gn (by lia),nF p f g xs _ _ _ _ (by simp;lia) (λy e=>ht y (UY _ e)) (λy e=>he y (UY _ e)) ?_]
   rw[Vo,if_pos o]at h;simpa using h
  |false=>
   rw[if_neg (by simp)]
   refine nF p f g xs _ _ _ _ (by lia) (λy e=>ht y (UY _ e)) (λy e=>he y (UY _ e)) ?_
   rw[Vo,if_neg (by simp[o])]at h
   exact h
theorem Ac(e:SOk C s)(c:i<C.many):fH (s.pieces.map D.int) (i:Nat)=ap (.int<|aL C s<|.inl (i:Int)):=by
 have f:i<s.pieces.length:=by rw[e.lp];exact c
 have:fH (s.pieces.map D.int) i=(s.pieces.map D.int)[i]?:=by rfl
 show _=ap (D.int<|(s.pieces[(Yi i)]?).getD 0)
 simp_all
theorem lb(o:C.Ok)(A:SOk C s)(y:SOk C t)(h:∀p,M p=ca->Q (.ref p) (M.upd p<|.lst<|(aA C s t).map kD)):v_ ad [bc C s t] M Q E:=by
 have l1:=o.l1;have few:=o.few;have m:=@TU C s t;have j:=@zi C;have c:∀z:Sta,z.d=.tup _:=λ_=>rfl;rw[RU];unfold zW
 simp_arith! only[ah,ao,ac,dt,m,dm,aN,af,dg,Va]
 refine#[rfl,?_];unfold sK;rw[j,c s,c t]
 simp_arith! only[ah,cF,dB,aV,wV,aa,ai,ac,dC,az,aO,atI_0,atI_1,dt,UL,bM]
 rw[nN,Hs o.nd A.ln.symm y.ln.symm];refine nF (λx=>decide (x.2.1≠x.2.2)) _ aM _ _ _ _ _ (by simp;lia) (λx _ K q=>?_) (λx _ K q=>q) ?_
 .simp_arith! only[am,ai,ac,dt,UL,km,dv,bz,aQ]
  simp_all
 intro p I;have J:(((C.names.map λx=>(x,nm (C.names.zip s.nums) x,nm (C.names.zip t.nums) x)).filter λx=>decide (x.2.1≠x.2.2)).map λx:QY=>D.str x.1)=((C.names.map Vr).filter λk=>decide (aL C s k≠aL C t k)).map kD:=by
  rw[VJ,VJ,Vf,Vf];rfl
 simp only[Vm];rw[J]
 simp_arith! only[eP,Va,dt,UL,Mem.upd_same,Mem.upd_del,aw I]
 unfold sj
 simp_arith! only[aB,ai,ac,aq,aV,dt,UL,cB,VG,UR,Vk,Vm,V3]
 refine#[by lia,by lia,?_]
 rw[Vj];refine dh (λd=>match d with|.int i=>decide (aL C s (.inl i)≠aL C t (.inl i))|_=>true) id aM (by simp[cG];lia) (λx u K q=>?_) (λx u _ K q=>q) ?_
 .obtain⟨i,f,rfl⟩:=UZ.mp u
  have f:=VI.mp f;have g:(0:Int)+i=i:=by lia
  rw[g]at q ⊢
  simp_arith! only[am,ai,ac,dC,az,aO,atI_1,dt,UL,Ac A f,Ac y f,km,dv,bz,aQ]
  refine#[trivial,trivial,?_];simpa using q
 intro L l;refine bU l ?_;have H:((cG 0 C.many).filter λd=>match d with|.int i=>decide (aL C s (.inl i)≠aL C t (.inl i))|_=>true).map id=(((Vc C.many).map λ(i:Nat)=>(V6 i:aD)).filter λk=>decide (aL C s k≠aL C t k)).map kD:=by
  unfold cG;rw[Wd,VJ,VJ,Vf];have g:∀i:Nat,(0:Int)+i=i:=λi=>by lia
  simp only[g];rfl
 rw[H];have w:((C.names.map Vr).filter λk=>decide (aL C s k≠aL C t k)).map kD++(((Vc C.many).map λ(i:Nat)=>(V6 i:aD)).filter λk=>decide (aL C s k≠aL C t k)).map kD=(aA C s t).map kD:=by
  unfold aA eD;rw[Wu,V9]
 have e:=congrArg We w;have G:=nG (s:=s) (t:=t) o;rw[Vi,UM (as:=aA C s t)]at e;refine#[bj (by lia),?_]
 rw[w];exact λF r=>ak (h F r)
noncomputable def mw(ks:List Nat):List D:=ks.map λ(i:Nat)=>D.int (i:Int)
def EZ(ks:List Nat):D:=.lst (mw ks)
def yX:Nat->Nat->List D
 |_,0=>[]
 |j,n+1=>.int ((j:Nat):Int)::yX (j+1) n
theorem ue:∀(n j:Nat),(W0 j n).map (λ(i:Nat)=>D.int ((i:Nat):Int))=yX j n
 |0,_=>rfl
 |n+1,j=>by rw[List.range'_succ,UR,ue n _];rfl
theorem Gb(n:Nat):cG 0 n=yX 0 n:=by
 rw[<- ue,<- WH];unfold cG
 simp_all
theorem IN(h:ks∈jo n):∃B,B<2 ^ n/\ks=av B:=by
 rw[mr]at h;obtain⟨B,c,rfl⟩:=UZ.mp h;exact#[B,by simp_all,rfl]
theorem jL(h:B<2 ^ n):(av B).length<=n:=by
 rw[cu h]
 grind
section
theorem vx{n:Nat}(l:ok M):∀(m j:Nat)(c:Option D),j+m<=10->(∀c,D'.nx [ap (.int (n:Nat)),ap (.lst<|(jo (j+m)).map EZ),c] M)->
  fh (af 2) (mB ad EE) D' ok z (yX j m) [ap (.int (n:Nat)),ap (.lst<|(jo j).map EZ),c] M
 |0,j,c,hl,h=>#[l,h c]
 |m+1,j,c,hl,h=>by
  have F:2 ^ j<=1024:=(VF (by decide) (show j<=10 by lia))
  have p:=GU (n:=j);refine#[l,?_];refine dk (λd=>match d with|.lst xs=>.lst (xs++[.int j])|_=>.non) aM (by rw[UM];lia) (λx o K q=>?_) ?_
  .obtain⟨A,u,rfl⟩:=UZ.mp o
   obtain⟨B,w,rfl⟩:=IN u;have:=jL w;exact#[bj (by simp),λr f=>bU f #[bj (by simp[mw];lia),λy g=>bU g q]]
  intro r f;refine bU f ?_;refine#[bj (by simp;lia),λy g=>bU g ?_]
  have e:(jo j).map EZ++((jo j).map EZ).map (λd=>match d with|.lst xs=>.lst (xs++[.int j])|_=>.non)=(jo (j+1)).map EZ:=by
   rw[jo];simp[EZ,mw]
  rw[e];exact vx l m _ _ (by lia) λc=>by
   rw[show j+1+m=j+(m+1) by lia]
   exact(h c)
theorem tG(l:n<=10)(h:Q (.lst<|(jo n).map EZ) M):Cs ad [.int (n:Nat)] M Q E:=by
 refine#[by trivial,λg c=>bU c #[by trivial,λj e=>bU e ?_]]
 refine#[by lia,by lia,?_]
 rw[Gb];refine vx aM n 0 _ (by lia) λf=>?_
 simp_arith! only[Xb]
 exact ak h
def gk(C:Cse)(s t:Sta)(ks:List aD):Sta:=
 #[C.names.map λx=>aL C (if Vr x∈ks then t else s) (.inr x),(Vc C.many).map λ(i:Nat)=>aL C (if V6 (i:Int)∈ks then t else s) (.inl (i:Int))]
variable{ks:List aD}
theorem Bq(o:C.Ok)(g:SOk C s)(f:SOk C t):SOk C (gk C s t ks):=by
 refine#[by simp[gk],by simp[gk],λv e=>?_,λv e=>?_]
 .simp[gk]at e
  obtain⟨x,h,rfl⟩:=e;have c:Vr x∈eD C:=Vs.mpr (.inl<|by simp_all)
  split
  .exact bR o f c
  exact bR o g c
 simp only[gk,UZ]at e;obtain⟨i,j,rfl⟩:=e;have c:(V6 i:aD)∈eD C:=Vs.mpr (.inr<|UZ.mpr<|by lia)
 split
 .exact bR o f c
 exact bR o g c
theorem MU(g:∀K,K (kD k) M->c U M K)(f:∀K,K (B5 ks) M->e U M K)(h:K (decide (k∈ks)) M):am (ai wU c e) U M K:=by
 refine g _ (f _ ?_);unfold wU;rw[Jq];exact h
noncomputable def RJ(ks:List aD)(x:QY):Int:=if Vr x.1∈ks then x.2.2 else x.2.1
theorem uT{D':DEnds}{EE:DX}{ok:Mem->Prop}{y:BxF (dm 3<|aN (af 7)<|aN (af 8)<|aN (af 9) dg) (jD ad EE) D' ok}{l:cp}{w o d3 r p f:Option D}(u:∀xs,ok (M.upd l xs)):∀(xs:List QY)(abS:abX)(m j g:Option D),abS.length+xs.length<=1000->
  (∀m j g,D'.nx [w,ap (B5 ks),o,d3,r,p,ap (.ref l),m,j,g,f] (M.upd l<|.lst<|(abS++xs.map (RJ ks)).map D.int))->
  fh (dm 3<|aN (af 7)<|aN (af 8)<|aN (af 9) dg) (jD ad EE) D' ok y (xs.map HF) [w,ap (B5 ks),o,d3,r,p,ap (.ref l),m,j,g,f] (M.upd l<|.lst<|abS.map D.int)
 |[],abS,m,j,g,hl,h=>#[u _,by simp_all]
 |x::xs,abS,m,j,g,hl,h=>by
  simp at hl;refine#[u _,?_]
  simp_arith! only[HF,dm,aN,dg,af,Va]
  refine#[rfl,?_];unfold jD;have fin:∀v:Int,v=RJ ks x->bu (.ref l) [.int v] (M.upd l<|.lst<|abS.map _) λ_ M1=>fh _ _ D' ok y _ [w,ap _,o,d3,r,p,ap _,ap (.str x.1),ap (.int x.2.1),ap (.int x.2.2),f] M1:=λv z=>by
   simp_arith! only[bu,Mem.upd_same,Mem.upd_upd]
   refine#[by rw[UM];exact gn (by lia),?_]
   have e:abS.map D.int++[.int v]=(abS++[v]).map D.int:=by simp
   rw[e];refine uT u xs _ _ _ _ (by simp;lia) λm j g=>?_
   simp_all
  simp_arith! only[bg,j_,ac,dt,UL,df,Mem.upd_same,true_and]
  refine MU (k:=.inr _) (λK q=>q) (λK q=>q) ?_
  by_cases c:(Vr x.1)∈ks
  .rw[if_pos (by simpa using c)]
   exact fin _ (by unfold RJ;rw[if_pos c])
  rw[if_neg (by simpa using c)]
  exact fin _ (by unfold RJ;rw[if_neg c])
theorem xB(o:C.Ok)(u:SOk C s)(r:SOk C t)(h:Q (gk C s t ks).d M):Ag ad [bc C s t,B5 ks] M Q E:=by
 have l1:=o.l1;have few:=o.few;have m:=@TU C s t;have j:=@zi C;have f:∀z:Sta,z.d=.tup _:=λ_=>rfl;rw[Uh];unfold Ch
 simp_arith! only[ah,ao,ac,dt,m,dm,aN,af,dg,Va,bO]
 refine#[rfl,by trivial,λl F=>?_]
 unfold tj;rw[j,f s,f t]
 simp_arith! only[ah,cj,wV,aa,ai,ac,dC,az,aO,atI_0,atI_1,dt,UL,bM]
 rw[nN,Hs o.nd u.ln.symm r.ln.symm];refine uT (abS:=[]) (λ_=>aM) _ _ _ _ (by simp;lia) λL G J=>?_
 unfold um
 simp_arith! only[ah,cF,dB,aV,dw,aa,ai,ac,dC,az,aO,atI_2,dt,UL,cB,VG,UR,Vk,Vm,V3]
 refine#[by lia,by lia,?_]
 refine dk (λd=>match d with|.int i=>.int (aL C (if V6 i∈ks then t else s)<|.inl i)|_=>.non) aM (by simp[cG];lia) (λx w K q=>?_) ?_
 .obtain⟨i,g,rfl⟩:=UZ.mp w
  have g:=VI.mp g;have y:(0:Int)+i=i:=by lia
  rw[y]at q ⊢;refine MU (k:=.inl _) (λK q=>q) (λK q=>q) ?_
  by_cases c:(V6 i:aD)∈ks
  .rw[if_pos (by simpa using c)]
   simp_arith! only[ai,ac,dC,az,aO,atI_1,dt,UL,Ac r g]
   simp_all
  .simp_arith! only[ai,ac,dC,az,aO,atI_1,dt,UL,Ac u g]
   simp_all
 intro p A
 simp_arith! only[eP,Va,dt,UL,Mem.upd_same,Mem.upd_del,aw A]
 unfold sU
 simp_arith! only[aB,aS,b6,aa,ac,dt,UL,bP,g4,Mem.upd_same]
 refine#[bj (by simp),M,λb o e=>by rw[ae (Mem.ne e F)];exact e,?_]
 have I:(C.names.map λx=>(x,nm (C.names.zip s.nums) x,nm (C.names.zip t.nums) x)).map (RJ ks)=(gk C s t ks).nums:=by
  rw[Vf];refine Vy λx _=>?_;simp[RJ]
  split<;>rfl
 have H:(cG 0 C.many).map (λd=>match d with|.int i=>.int (aL C (if V6 i∈ks then t else s)<|.inl i)|_=>.non)=(gk C s t ks).pieces.map D.int:=by
  unfold cG gk
  simp_all
 simp_all
theorem EF(o:C.Ok)(g:q∈eD C):aL C (gk C s t ks) q=aL C (if q∈ks then t else s) q:=by
 rcases iq g with⟨x,f,rfl⟩|⟨i,hi,rfl⟩
 .obtain⟨j,e⟩:=List.getElem?_of_mem f
  have c:(gk C s t ks).nums[j]?=ap (aL C (if Vr x∈ks then t else s)<|.inr x):=by
   unfold gk
   simp_all
  rw[(k8 o.nd (by simp[gk]) e)]at c
  exact VP c
 show (((gk C s t ks).pieces[(Yi i)]?).getD 0)=_;rw[Vj];unfold gk;rw[UT,Wb hi];rfl
end
def Qp(us:List aD)(B:Nat):List aD:=(av B).map λi=>(us[i]?).getD (.inl 0)
theorem Jx(m:us.Nodup)(g:B<2 ^ us.length)(o:q∈us):q∈Qp us B↔B.testBit (us.idxOf q)=true:=by
 have l:=WC o;constructor
 .intro h
  obtain⟨i,c,e⟩:=UZ.mp h;obtain⟨f,j⟩:=(bi g).mp c;rw[UO f]at e;have:us.idxOf q=i:=by rw[<- e];exact m.idxOf_getElem i f
  rw[this];exact j
 intro h;refine UZ.mpr #[_,(bi g).mpr #[l,h],?_]
 simp_all
theorem P9(g:B<2 ^ us.length)(h:q∈Qp us B):q∈us:=by
 obtain⟨i,c,e⟩:=UZ.mp h;obtain⟨f,_⟩:=(bi g).mp c;rw[UO f]at e;rw[<- e];exact X1 f
def kY(B:Nat):List aD:=(av B).map λ(i:Nat)=>V6 (i:Int)
theorem wo:eV (mw<|av B)=ap (kY B):=by
 have:mw (av B)=(kY B).map kD:=by unfold mw kY;rw[Vf];rfl
 rw[this,qD]
theorem r_(e:A<2 ^ n)(f:B<2 ^ n)(h:kY A=kY B):A=B:=by
 refine Iy e f ?_;have c:=congrArg (List.map λk:aD=>match k with|.inl i=>i.toNat|.inr _=>0) h
 unfold kY at c;simpa [ZR] using c
def Dx(v:Nat->Str)(Bs:List Nat):List (List aD×D):=Bs.map λB=>(kY B,D.str (v B))
theorem F3(o:C.Ok)(g:SOk C s)(e:SOk C t)(j:(aA C s t).length<24)(f:B<2 ^ (aA C s t).length):C.mark (gk C s t<|Qp (aA C s t) B)=OA (aA C s t) (C.tree s t) B:=by
 refine (xw o g e (Bq o g e) j λq h=>?_).symm;rw[EF o h]
 by_cases c:q∈aA C s t
 .have:=Jx (tR o) f c
  simp_all
 rw[if_neg (λz=>c (P9 f z))]
 split
 .exact(YH λz=>c (Vd.mpr<|by lia))
 rfl
theorem Ju(f:m=vN C.mn r)(c:w=ku a b m):(r.1=cx/\w=("other":Str))\/(r.1=true/\w=if nm r.2.nums C.mn=a then ("sound":Str) else if nm r.2.nums C.mn=b then ("faulty":Str) else ("other":Str)):=by
 subst f;unfold vN at c;cases e:r.1 with
 |false=>
  rw[e]at c;exact .inl #[rfl,c]
 |true=>
  rw[e,if_pos rfl]at c;refine .inr #[rfl,?_];unfold ku at c;rw[c];simp[aQ]
theorem G7(o:C.Ok)(T:SOk C s)(O:SOk C t)(hu:(aA C s t).length<24)(R:B<2 ^ (aA C s t).length)(P:a≠b)(hj:C.names[j]?=ap C.mn)(hl:M l=ca)(hk:abR.length<100000)(h:∀g u,D'.nx [ap (bc C s t),ap C.d,ap s.d,ap t.d,ap (.int (C.most:Nat)),ap (B5<|aA C s t),ap (.int (j:Nat)),ap (.tup [.int a,.int b]),ap (.ref l),S,g,u] (M.upd l<|.dT<|eG abR (kY B)<|.str<|vB C s t a b B))(h9:S=ap (EZ<|av B)):
  iH ad EE D' [ap (bc C s t),ap C.d,ap s.d,ap t.d,ap (.int (C.most:Nat)),ap (B5<|aA C s t),ap (.int (j:Nat)),ap (.tup [.int a,.int b]),ap (.ref l),S,g,u] (M.upd l<|.dT abR):=by
 subst h9;have ul:=nG (C:=C) (s:=s) (t:=t) o;have nl:=jL R;have Y:=F3 o T O hu R;have Z:(M.upd l<|.dT abR) l=ap (.dT abR):=Mem.upd_same;generalize hN:M.upd l (.dT abR)=N at *;unfold iH
 simp_arith! only[ah,ao,ai,qY,aj,aa,ag,ac,dC,dt,UL,aq,aV,cm,aO,bM,cB,UR,VG,Vk,Vm,V3,EZ]
 refine dk (λd=>match d with|.int i=>kD (((aA C s t)[i.toNat]?).getD<|.inl 0)|_=>.non) aM (by simp[mw];lia) (λx U K q=>?_) ?_
 .obtain⟨i,I,rfl⟩:=UZ.mp U
  have I:=((bi R).mp I).1;have e:fH ((aA C s t).map kD) ((i:Nat):Int)=ap (kD<|((aA C s t)[i]?).getD<|.inl 0):=by
   rw[bE (by lia),Vj,UT,UO I];rfl
  simp_arith! only[ai,ac,dt,UL,B5,az,aO,e]
  simpa using q
 intro p A;refine bU A ?_;have e1:(mw<|av B).map (λd=>match d with|.int i=>kD (((aA C s t)[i.toNat]?).getD<|.inl 0)|_=>.non)=(Qp (aA C s t) B).map kD:=by
  unfold mw Qp;rw[Vf,Vf];exact Vy λi _=>by simp
 rw[e1];refine#[rfl,aG (λ_ _ q=>xB o T O q) ?_];show frz (gk C s t<|Qp (aA C s t) B).d N _;generalize hz:gk C s t (Qp (aA C s t) B)=z at *;have f:SOk C z:=by rw[<- hz];exact Bq o T O
 have fz:∀{Q:DK},Q z.d N->frz z.d N Q:=λq=>q;refine fz ?_;rw[f.pd];refine#[rfl,lg (o.pl f) ?_];unfold Dz;have er:dD (C.cf z) C.names C.rows z.nums=C.run z:=rfl;rw[er]
 simp_arith! only[az,aO,atI_1,UL,dt,af,Va]
 rw[<- f.pd];unfold tY;simp only[ah,ao,dC,af,Va];unfold uz;have fin:∀w:Str,w=vB C s t a b B->jC ad EE D' [ap (bc C s t),ap C.d,ap s.d,ap t.d,ap (.int (C.most:Nat)),ap (B5<|aA C s t),ap (.int (j:Nat)),ap (.tup [.int a,.int b]),ap (.ref l),ap (.lst<|mw<|av B),ap (dL C.names<|C.run z),ap (.str w)] N:=λw X=>by
  unfold jC
  simp_arith! only[ao,ac,dt,UL,cZ,b6,aa,ag,bP,g4,lD,Z,Ec,wo]
  refine#[gn (by lia),?_]
  have:=h (ap<|dL C.names<|C.run z) (ap<|.str w);subst X;rw[<- hN,Mem.upd_upd];exact this
 generalize jC ad EE=K2 at *;have W:vB C s t a b B=ku a b (C.mark z):=by rw[Y];rfl
 rcases Ju (C:=C) (r:=C.run z) (a:=a) (b:=b) (m:=C.mark z) rfl W with⟨r0,w0⟩|⟨r1,w1⟩
 .have ee:dL C.names (C.run z)=.non:=by unfold dL;rw[r0,if_neg (by simp)]
  rw[ee]at fin ⊢
  simp_arith! only[ah,aJ,p_,am,ai,ac,dC,dt,UL,fK,k_,XU,VS,if_false,aE]
  exact fin _ w0.symm
 .obtain⟨xs,ex,J⟩:=yB r1 hj
  rw[ex]at fin ⊢;generalize nm (C.run z).2.nums C.mn=v at *;have L:iJ N (.int v) (.tup [.int a,.int b])=ap (decide (v=a)||decide (v=b)):=by
   simp_arith! only[iJ,aO,dv,fits,bz,Zq,and_self,if_true,Xg,List.any_nil,aQ,XT]
   congr 2<;>exact decide_eq_decide.mpr #[Eq.symm,Eq.symm]
  simp_arith! only[ah,aJ,p_,am,ai,ac,dC,dt,UL,fK,k_,Y7,if_true,az,aO,atI_1,J,wU,L]
  by_cases c:v=a
  .rw[if_pos (by simp[c])]
   unfold my;have H:[a,b].findIdx? (λy=>decide (y=v))=ap 0:=by simp[Xz,c]
   simp_arith! only[ao,ai,aq,bO,aa,ag,dC,Jm,ac,dt,UL]
   refine#[bj (by simp),λp A=>bU A ?_]
   simp_arith! only[az,aO,J,jV,dz,H]
   refine#[by simp,?_]
   simp_arith! only[Int.natCast_zero,atI_0,dt,af,Va,aE]
   exact fin _ (by rw[w1,if_pos c])
  .by_cases F:v=b
   .rw[if_pos (by simp[F])]
    unfold my;have H:[a,b].findIdx? (λy=>decide (y=v))=ap 1:=by
     have:¬a=v:=λz=>c z.symm;simp[Xz,F,this,P]
    simp_arith! only[ao,ai,aq,bO,aa,ag,dC,Jm,ac,dt,UL]
    refine#[bj (by simp),λp A=>bU A ?_]
    simp_arith! only[az,aO,J,jV,dz,H]
    refine#[by simp,?_]
    have G:fH [D.str "sound",.str "faulty"] ((1:Nat):Int)=ap (.str "faulty"):=rfl;simp only[G,af,Va,aE];exact fin _ (by rw[w1,if_neg c,if_pos F])
   .rw[if_neg (by simp[c,F])]
    simp only[aE];exact fin _ (by rw[w1,if_neg c,if_neg F])
theorem QC{k:List aD}(h:k∉abR.map (·.1))(c:(abR.map (·.1)).Nodup):eG abR k d=abR++[(k,d)]:=by
 have:=sS (abR:=[(k,d)]) (by
  rw[W6];refine#[c,by simp,λx e y f=>?_]
  have:y=k:=by simp_all
  subst this;exact λz=>h (by simp_all))
 assumption
theorem nZ:(Dx v Bs).map (·.1)=Bs.map kY:=by unfold Dx;rw[Vf];rfl
theorem RV(h:j<=2 ^ n):((Vc j).map kY).Nodup:=by
 rw[List.nodup_iff_pairwise_ne,List.pairwise_map];refine List.Pairwise.imp_of_mem (λ{x y} c e f z=>f ?_) XZ;have c:=VI.mp c;have e:=VI.mp e;exact r_ (n:=n) (by lia) (by lia) z
theorem QX(c:C.mark s=.int a)(f:C.mark t=.int b):Jj C s t=.tup [.int a,.int b]:=by
 have g:∀{z:Sta}{v:Int},C.mark z=.int v->(C.run z).1=true/\nm (C.run z).2.nums C.mn=v:=λ{z v} e=>by
  unfold Cse.mark vN at e;lia
 unfold Jj
 simp_all
theorem vC{i:Nat}(o:C.Ok)(G:SOk C s)(w:SOk C t)(A:(aA C s t).length<=10)(g:a≠b)(F:C.names[i]?=ap C.mn)(y:M l=ca)(r:∀N,ok N):∀(m j:Nat)(p c f:Option D),j+m=2 ^ (aA C s t).length->
  (∀p c f,D'.nx [ap (bc C s t),ap C.d,ap s.d,ap t.d,ap (.int (C.most:Nat)),ap (B5<|aA C s t),ap (.int (i:Nat)),ap (.tup [.int a,.int b]),ap (.ref l),p,c,f] (M.upd l<|.dT<|Dx (vB C s t a b)<|Vc<|2 ^ (aA C s t).length))->
  fh (af 9) (iH ad EE) D' ok K ((W0 j m).map λB=>EZ (av B)) [ap (bc C s t),ap C.d,ap s.d,ap t.d,ap (.int (C.most:Nat)),ap (B5<|aA C s t),ap (.int (i:Nat)),ap (.tup [.int a,.int b]),ap (.ref l),p,c,f] (M.upd l<|.dT<|Dx (vB C s t a b)<|Vc j)
 |0,j,p,c,f,e,h=>#[r _,by simp_all]
 |m+1,j,p,c,f,e,h=>by
  have L:2 ^ (aA C s t).length<=2 ^ 10:=VF (by decide) A
  refine#[r _,?_];refine G7 o G w (by lia) (by lia) g F y (by simp[Dx];lia) (λc f=>?_) rfl
  have I:kY j∉(Dx (vB C s t a b)<|Vc j).map (·.1):=by
   rw[nZ];intro z;obtain⟨B,u,H⟩:=UZ.mp z;have u:=VI.mp u;have:=r_ (n:=(aA C s t).length) (by lia) (by lia) H
   lia
  rw[QC I (by rw[nZ];exact RV (n:=(aA C s t).length) (by lia))]
  have J:Dx (vB C s t a b) (Vc j)++[(kY j,.str (vB C s t a b j))]=Dx (vB C s t a b) (Vc (j+1)):=by unfold Dx;rw[Ya,V9];rfl
  rw[J];exact vC o G w A g F y r m _ _ _ _ (by lia) h
theorem pT(o:C.Ok)(m:SOk C s)(g:SOk C t)(F:C.mark s=.int a)(H:C.mark t=.int b)(G:(aA C s t).length<=10)(j:a≠b)(h:∀p,M p=ca->Q (.ref p) (M.upd p<|.dT<|Dx (vB C s t a b)<|Vc<|2 ^ (aA C s t).length)):C7 ad [bc C s t] M Q E:=by
 have c:=@zi C;obtain⟨i,y,e⟩:=nq o.mn;have l1:=o.l1;rw[T4];refine#[rfl,?_];refine#[rfl,ar λQ' E' f _=>lb o m g λp w=>f _ _ (bU w ?_)];simp[af];unfold t6;rw[c]
 simp_arith! only[ah,ao,Jm,ai,aa,ac,dC,dt,UL,az,aO,atI_1,atI_4,i_,dW,y]
 refine#[by lia,?_]
 refine#[rfl,ar λQ' E' f _=>eM o m g (f _ _<|lQ ?_)];rw[QX F H];intro l r;refine#[rfl,aG (λ_ _ q=>tG (by simp_all) q) ?_]
 have z:(jo ((aA C s t).map kD).length).map EZ=(W0 0<|2 ^ (aA C s t).length).map λB=>EZ (av B):=by rw[UM,mr,Vf,WH];rfl
 rw[z];exact vC o m g G j e r (λ_=>aM) _ 0 _ _ _ (by lia) λI u A=>ak (h l r)
def EQ(v:Nat->Str)(n:Nat):D:=.fd ((Vc<|2 ^ n).map kY) ((Vc<|2 ^ n).map λB=>D.str (v B))
theorem Ma(e:M p=ca)(h:Q (EQ v n) M):F8 (.ref p) (M.upd p<|.dT<|Dx v<|Vc<|2 ^ n) Q:=by
 simp_arith! only[F8,Mem.upd_same,Mem.upd_del,aw e]
 have c:(Dx v<|Vc<|2 ^ n).map (·.2)=(Vc<|2 ^ n).map λB=>D.str (v B):=by unfold Dx;rw[Vf];rfl
 rw[nZ,c];exact h
def EW(B:Nat):D:=.tup (mw<|av B)
theorem JK:Jc (kY B)=EW B:=by
 unfold Jc kY EW mw;rw[Vf];rfl
theorem PX(m:B<2 ^ n):cV (((Vc<|2 ^ n).map kY).zip ((Vc<|2 ^ n).map λB=>D.str (v B))) (kY B)=ap (.str<|v B):=by
 have e:((Vc<|2 ^ n).map kY).zip ((Vc<|2 ^ n).map λB=>D.str (v B))=(Vc<|2 ^ n).map λB=>(kY B,D.str (v B)):=by grind
 rw[e];unfold cV;have f:∀l:List _,(∀A∈l,A<2 ^ n)->B∈l->(l.map λB=>(kY B,D.str (v B))).find? (λj=>decide (j.1=kY B))=ap (kY B,.str (v B)):=by
  intro l
  induction l with
  |nil=>simp_all
  |cons A l ih=>
   intro g h;rw[UR,Wx]
   by_cases c:A=B
   .subst c;simp
   have:¬kY A=kY B:=λz=>c (r_ (g A Vp) m z);simp only[this];exact ih (λx o=>g x (by simp_all)) ((UU.mp h).resolve_left<|by lia)
 rw[f _ (λA=>VI.mp) (by simp_all)]
 rfl
theorem Nb(c:B<2 ^ n)(h:K (.str<|v B) M):Ew (EQ v n) (EW B) M K:=by
 unfold Ew EQ EW
 simp_arith! only[Ec,wo,PX c]
 exact h
def Jk:Nat->D->Prop
 |_,.non=>True
 |_,.bl _=>True
 |_,.int _=>True
 |_,.str _=>True
 |n+1,.tup xs=>xs.length<=100000/\∀x∈xs,Jk n x
 |n+1,.lst xs=>xs.length<=100000/\∀x∈xs,Jk n x
 |_,_=>False
theorem d_:∀n:Nat,qo (Vl n<|.bl true)=ap (Vl n true)
 |0=>rfl
 |n+1=>by rw[Wn,qo,d_ n];rfl
theorem jN:(Vl n true).all id=true:=by simp
theorem i1:bW "tuple" "bool"=false:=by rfl
theorem i2:bW "tuple" "int"=false:=by rfl
theorem i3:bW "tuple" "str"=false:=by rfl
theorem i4:bW "tuple" "tuple"=true:=by rfl
theorem i5:bW "tuple" "list"=false:=by rfl
theorem i6:bW "list" "bool"=false:=by rfl
theorem i7:bW "list" "int"=false:=by rfl
theorem i8:bW "list" "str"=false:=by rfl
theorem i9:bW "list" "tuple"=false:=by rfl
theorem i10:bW "list" "list"=true:=by rfl
theorem i11:bW "bool" "bool"=true:=by rfl
theorem i12:bW "int" "bool"=false:=by rfl
theorem i13:bW "int" "int"=true:=by rfl
theorem i14:bW "str" "bool"=false:=by rfl
theorem i15:bW "str" "int"=false:=by rfl
theorem i16:bW "str" "str"=true:=by rfl
theorem t1:nP "bool"=true:=by rfl
theorem t2:nP "int"=true:=by rfl
theorem t3:nP "str"=true:=by rfl
theorem t4:nP "tuple"=true:=by rfl
theorem t5:nP "list"=true:=by rfl
theorem gJ:∀xs:List D,xO xs xs=xs.map (λz=>D.tup [z,z])
 |[]=>rfl
 |x::xs=>by
  have:=gJ xs;simp[xO]at this ⊢;simp[this]
theorem fV{ad:Ad}:∀(n:Nat)(x:D)(M:Mem)(Q:DK)(E:DX),Jk n x->Q (.bl true) M->aan ad (n+1) [x,x] M Q E
 |n,x,M,Q,E,g,h=>by
  cases x with
  |non=>simp![lx,gw];exact ak h
  |bl b=>simp![lx,gw,i11,t1,beq_self_eq_true];exact ak h
  |int i=>simp![lx,gw,i12,i13,t1,t2];exact ak h
  |str i=>simp![lx,gw,i14,i15,i16,t1,t2,t3];exact ak h
  |tup xs=>
   cases n with
   |zero=>exact g.elim
   |succ n=>
    obtain⟨H,g⟩:=g;simp![lx,gw,i1,i2,i3,i4,i5,t1,t2,t3,t4,t5,aV];rw[if_neg (by decide),if_neg (by decide),if_neg (by decide)]
    refine bQ (λA c U M'=>∃(e:List D)(j:Nat)(l o:Option D),A=e.map (λz=>D.tup [z,z])/\(∀z∈e,Jk n z)/\e.length+j<=100000/\c=Vl j (.bl true)/\U=[l,o]/\M'=M) (λ_ _ _ _ _=>aM) ?_ ?_ ?_ _ _ _ _ #[xs,0,ca,ca,gJ xs,g,by omega,rfl,rfl,rfl]
    .rintro c U M' ⟨e,j,l,o,f,m,u,rfl,rfl,rfl⟩ p r
     simp![Mem.upd_del,aw r,d_,jN];exact ak h
    .rintro y A c U M' ⟨e,j,l,o,f,m,u,rfl,rfl,rfl⟩ N G _
     cases e with
     |nil=>simp at f
     |cons z e=>
      simp only[UR,VQ]at f;obtain⟨rfl,rfl⟩:=f;simp only[Vh]at u;simp![];refine aG (d:=.bl true) (λQ' E' q=>fV n z M' Q' E' (m z<|Vp ..) q) ?_;simp![];exact G _ _ _ (by simp;exact gn (by omega)) #[e,j+1,_,_,rfl,λw F=>m w (UY _ F),by omega,by rw[Xi],rfl,rfl]
    .rintro y A c U M' ⟨e,j,l,o,f,m,u,rfl,rfl,rfl⟩
     simp;exact gn (by omega)
  |lst xs=>
   cases n with
   |zero=>exact g.elim
   |succ n=>
    obtain⟨H,g⟩:=g;simp![lx,gw,i6,i7,i8,i9,i10,t1,t2,t3,t4,t5,aV];rw[if_neg (by decide),if_neg (by decide),if_neg (by decide)]
    refine bQ (λA c U M'=>∃(e:List D)(j:Nat)(l o:Option D),A=e.map (λz=>D.tup [z,z])/\(∀z∈e,Jk n z)/\e.length+j<=100000/\c=Vl j (.bl true)/\U=[l,o]/\M'=M) (λ_ _ _ _ _=>aM) ?_ ?_ ?_ _ _ _ _ #[xs,0,ca,ca,gJ xs,g,by omega,rfl,rfl,rfl]
    .rintro c U M' ⟨e,j,l,o,f,m,u,rfl,rfl,rfl⟩ p r
     simp![Mem.upd_del,aw r,d_,jN];exact ak h
    .rintro y A c U M' ⟨e,j,l,o,f,m,u,rfl,rfl,rfl⟩ N G _
     cases e with
     |nil=>simp at f
     |cons z e=>
      simp only[UR,VQ]at f;obtain⟨rfl,rfl⟩:=f;simp only[Vh]at u;simp![];refine aG (d:=.bl true) (λQ' E' q=>fV n z M' Q' E' (m z<|Vp ..) q) ?_;simp![];exact G _ _ _ (by simp;exact gn (by omega)) #[e,j+1,_,_,rfl,λw F=>m w (UY _ F),by omega,by rw[Xi],rfl,rfl]
    .rintro y A c U M' ⟨e,j,l,o,f,m,u,rfl,rfl,rfl⟩
     simp;exact gn (by omega)
  |_=>cases n<;>exact g.elim
end _T
namespace _T
open PySem _2 _3 _S
variable{n:Nat}
theorem HM(G:M p=ap (.lst xs))(A:M q=ap (.lst xs))(v:xs.length<=100000/\∀x∈xs,Jk n x)(h:Q (.bl true) M):aan ad (n+2) [.ref p,.ref q] M Q E:=by
 obtain⟨H,v⟩:=v;simp![lx,gw,i6,i7,i8,i9,i10,t1,t2,t3,t4,t5,G,A,↓aV];rw[if_neg (by decide),if_neg (by decide),if_neg (by decide)]
 refine bQ (λo a U M'=>∃(b:List D)(j:Nat)(f i:Option D),o=b.map (λz=>D.tup [z,z])/\(∀z∈b,Jk n z)/\b.length+j<=100000/\a=Vl j (.bl true)/\U=[f,i]/\M'=M) (λ_ _ _ _ ⟨_,_,_,_,_,_,_,_,_,e⟩=>by subst e;intro r u;simp only[bM,VD,Vk,Vm,UU,WI,or_false,Dp,Qu,PM,RS,IA,FY,N6,qy]at u;first|(subst u;exact A)|(rcases u with rfl|rfl<;>assumption)) ?_ ?_ ?_ _ _ _ _ #[xs,0,ca,ca,gJ xs,v,by lia,rfl,rfl,rfl]
 .rintro a U M' ⟨b,j,f,i,c,g,m,rfl,rfl,rfl⟩ p l
  simp![Mem.upd_del,aw l,d_,jN];exact ak h
 .rintro y o a U M' ⟨b,j,f,i,c,g,m,rfl,rfl,rfl⟩ N F _
  cases b with
  |nil=>simp at c
  |cons z b=>
   simp only[UR,VQ]at c;obtain⟨rfl,rfl⟩:=c;simp only[Vh]at m;simp![];refine aG (d:=.bl true) (λQ' E' q=>fV n z M' Q' E' (g z<|Vp ..) q) ?_;simp![];exact F _ _ _ (by simp;exact gn (by lia)) #[b,j+1,_,_,rfl,λw B=>g w (UY _ B),by lia,by rw[Xi],rfl,rfl]
 .rintro y o a U M' ⟨b,j,f,i,c,g,m,rfl,rfl,rfl⟩
  simp;exact gn (by lia)
theorem Gf(A:M q=ap (.lst xs))(v:xs.length<=100000/\∀x∈xs,Jk n x)(h:Q (.bl true) M):aan ad (n+2) [.lst xs,.ref q] M Q E:=by
 obtain⟨G,v⟩:=v;simp![lx,gw,i6,i7,i8,i9,i10,t1,t2,t3,t4,t5,A,↓aV];rw[if_neg (by decide),if_neg (by decide),if_neg (by decide)]
 refine bQ (λo a U M'=>∃(b:List D)(j:Nat)(f i:Option D),o=b.map (λz=>D.tup [z,z])/\(∀z∈b,Jk n z)/\b.length+j<=100000/\a=Vl j (.bl true)/\U=[f,i]/\M'=M) (λ_ _ _ _ ⟨_,_,_,_,_,_,_,_,_,e⟩=>by subst e;intro r u;simp only[bM,VD,Vk,Vm,UU,WI,or_false,Dp,Qu,PM,RS,IA,FY,N6,qy]at u;first|(subst u;exact A)|(rcases u with rfl|rfl<;>assumption)) ?_ ?_ ?_ _ _ _ _ #[xs,0,ca,ca,gJ xs,v,by lia,rfl,rfl,rfl]
 .rintro a U M' ⟨b,j,f,i,c,g,m,rfl,rfl,rfl⟩ p l
  simp![Mem.upd_del,aw l,d_,jN];exact ak h
 .rintro y o a U M' ⟨b,j,f,i,c,g,m,rfl,rfl,rfl⟩ N F _
  cases b with
  |nil=>simp at c
  |cons z b=>
   simp only[UR,VQ]at c;obtain⟨rfl,rfl⟩:=c;simp only[Vh]at m;simp![];refine aG (d:=.bl true) (λQ' E' q=>fV n z M' Q' E' (g z<|Vp ..) q) ?_;simp![];exact F _ _ _ (by simp;exact gn (by lia)) #[b,j+1,_,_,rfl,λw B=>g w (UY _ B),by lia,by rw[Xi],rfl,rfl]
 .rintro y o a U M' ⟨b,j,f,i,c,g,m,rfl,rfl,rfl⟩
  simp;exact gn (by lia)
theorem pf:∀{l:List D},(∀x∈l,uj x)->kR l
 |[],_=>trivial
 |x::l,h=>#[by simp_all,pf<|by simp_all]
theorem yf:∀{l:List D},(∀x∈l,sz x<=k)->qG l<=l.length*(k+2)
 |[],_=>by simp[qG]
 |x::l,h=>by
  have b:=h x (by simp_all)
  have c:=yf λy a=>h y (UY _ a);simp[qG,Nat.succ_mul];lia
theorem iE{l:abX}(c:m<=997)(h:∀v∈l,0<=v/\v<m):kR (l.map D.int):=pf λx a=>by
 obtain⟨v,b,rfl⟩:=UZ.mp a;have:=h v b;exact p9 this.1 (by lia)
theorem lR{l:abX}:qG (l.map D.int)<=l.length*2002:=by
 simpa using (yf (l  := l.map _) λx a=>by
  obtain⟨v,b,rfl⟩  := UZ.mp a;simp only[sz];lia)
theorem Hj(c:CaOk C s t few)(one:∀x∈C.names,vA x):bz 60 (bc C s t)=true/\(gj<|bc C s t).showable=true/\(gj<|bc C s t).shown.length<=sizeLine:=by
 have o:=c.o;have hs:=c.hs;have ht:=c.ht;have p:=o.most;have m1:=o.m1;have m2:=o.m2;have G:=c.h1;have cn:=c.cn;have y:=o.l1;have f:kR _:=pf λx a=>by obtain⟨v,b,rfl⟩:=UZ.mp a;exact a_ (one v b)
 have i:=ja one m1 (by lia) _ o.ok
 have F:qG (C.names.map D.str)<=C.names.length*2002:=by
  simpa using (yf (k  := 2000) (l  := C.names.map D.str) λx a=>by
   obtain⟨v,b,rfl⟩  := UZ.mp a;simp only[sz];lia)
 have r:=wt C.rows;have q:=lR (l:=s.nums);have H:=lR (l:=s.pieces);have A:=lR (l:=t.nums);have u:=lR (l:=t.pieces);have l1:=hs.ln;have B:=hs.lp;have m:=ht.ln;have w:=ht.lp;have e:∀z:Sta,z.d=.tup _:=λ_=>rfl;have g:uj (bc C s t):=#[#[p9 (by lia) (by lia),f,p9 (by lia) (by lia),i,a_ (one _ o.mn),trivial],#[iE m1 hs.rn,iE m1 hs.rp,trivial],#[iE m1 ht.rn,iE m1 ht.rp,trivial],by show (C.most:Int).natAbs<10 ^ 6;lia,trivial]
 have z:sz (bc C s t)<=2000000:=by
  rw[TU,zi,e s,e t];simp[sz,qG];lia
 refine#[?_,CN _ g,Vb (Vb (qt _ g) z)<|by decide]
 have h1:=kE C.rows 57 (by have:=o.h;lia)
 have j:=λl=>kJ 57 l;rw[TU,zi,e,e];simp[bz,fits,h1,(pz 57 C.names),j]
theorem ql{n:Nat}(b:ok M):∀(m j:Nat)(a:Option D),2<=j->j+m<=1000->(∀a,D'.nx [ap (.int (n:Nat)),ap (.int ((fct (j+m-1):Nat):Int)),a] M)->
  fh (af 2) (ao (ai cD (ac 1)<|ac 2)<|af 1) D' ok c (yX j m) [ap (.int (n:Nat)),ap (.int ((fct (j-1):Nat):Int)),a] M
 |0,j,a,_,_,h=>#[b,h a]
 |m+1,j,a,hj,hl,h=>by
  refine#[b,?_]
  simp_arith! only[af,Va,ao,ai,ac,dt,UL,cD]
  refine#[.inr #[by lia,by lia],?_]
  have e:((fct (j-1):Nat):Int)*((j:Nat):Int)=((fct (j+1-1):Nat):Int):=by
   rw[<- Int.natCast_mul];congr 1;show _=fct j;obtain⟨i,rfl⟩:∃i,j=i+1:=#[j-1,by lia]
   rfl
  rw[e];exact ql b m (j+1) _ (by lia) (by lia) λa=>by
   have:=h a;rw[show j+1+m-1=j+(m+1)-1 by lia]
   exact this
theorem fT(e:n<=900)(h:Q (.int ((fct n:Nat):Int)) M):qF ad [.int (n:Nat)] M Q E:=by
 rw[Us];unfold C2;simp only[ah,ao,dC,af,Va];unfold tH
 simp_arith! only[ah,cj,Fy,aa,ag,ai,aZ,ac,dC,dt,UL]
 refine#[#[by lia,by lia,by lia,by lia],?_]
 have fin:∀a:Option D,aB (ac 1) { nx:=λ_ M'=>drp Q .non M',rt:=drp Q } [ap (.int (n:Nat)),ap (.int ((fct n:Nat):Int)),a] M:=λa=>by
  simp_arith! only[aB,ac,dt,UL]
  exact ak h
 have c:cG 2 (((n:Nat):Int)+1-2).toNat=yX 2 (((n:Nat):Int)+1-2).toNat:=by
  rw[<- ue];unfold cG;rw[List.range'_eq_map_range,Vf];exact Vy λi _=>by simp
 rw[c];have b:fct (2+(((n:Nat):Int)+1-2).toNat-1)=fct n:=by
  rcases Nat.eq_zero_or_pos n with z|z
  .subst z;rfl
  .congr 1;lia
 refine ql (n:=n) aM (((n:Nat):Int)+1-2).toNat 2 ca (by lia) (by lia) λa=>?_
 rw[b];exact fin a
theorem Qa(h:0<d):WO T.natAbs d=gT d T:=by
 refine Nat.dvd_antisymm ?_ (Nat.dvd_gcd ?_ O9)
 .have b:WO T.natAbs d ∣ d:=Nat.gcd_dvd_right _ _
  have c:((WO _ d):Int) ∣ T:=Int.ofNat_dvd_left.mpr (Nat.gcd_dvd_left _ _);generalize WO _ d=g at *;have a:(g:Int) ∣ T % d:=by
   rw[Int.emod_def];exact Int.dvd_sub c (ZJ<|W3.mpr b)
  rw[<- Xs (VW T<|by lia)]at a
  exact Nat.dvd_gcd b (W3.mp a)
 exact Int.ofNat_dvd_left.mp (gT_T h)
theorem BN:∀(f a b:Nat)(c:Option D),a<f->(∀c,D'.nx [ap (.int v),ap (.int d),ap (.int 0),ap (.int ((WO a b:Nat):Int)),c] M)->
  cC (am<|ai BY (ac 2)<|dC<|.int 0) (ph ad EE) D' j (f+1) [ap (.int v),ap (.int d),ap (.int (a:Nat)),ap (.int (b:Nat)),c] M
 |0,a,b,c,hf,h=>by lia
 |f+1,a,b,c,hf,h=>by
  have g:∀K:Bool->Mem->Prop,K (decide ((0:Int)<((a:Nat):Int))) M->am (ai BY (ac 2)<|dC<|.int 0) [ap (.int v),ap (.int d),ap (.int (a:Nat)),ap (.int (b:Nat)),c] M K:=λK q=>by
   simp_arith! only[am,ai,ac,dC,BY,k4,dt,UL]
   exact q
  by_cases i:a=0
  .subst i
   refine whF (λK q=>g K (by simpa using q)) ?_
   have:=h c;rw[Nat.gcd_zero_left]at this;exact this
  .refine whT (λK q=>g K (by rw[decide_eq_true (by lia)];exact q)) ?_
   unfold ph yc;have e:((b:Nat):Int) % ((a:Nat):Int)=((b % a:Nat):Int):=by simp
   simp_arith! only[ah,ao,ai,ac,af,Va,dH,oI,dt,UL,e]
   refine#[by lia,BN f (b % a) a _ ?_ λc=>?_]
   .have:=Nat.mod_lt b (show a>0 by lia);lia
   .have:=h c;rw[Nat.gcd_rec]at this;exact this
theorem Mg:(if x<0 then -x else x)=((x.natAbs:Nat):Int):=by lia
theorem kL(b:0<d)(c:d<2 ^ 190)(h:Q (.tup [.int (v / ((gT d v:Nat):Int)),.int ((d:Int) / ((gT d v:Nat):Int))]) M):Lp ad [.int v,.int (d:Nat)] M Q E:=by
 rw[u_q7];unfold Kx;generalize a:tK ad (aI E)=K4
 simp_arith! only[ah,ao,b6,aa,ag,ac,Jo,Mg,af,Va,dt,UL]
 rw[<- a];unfold tK;simp only[ah,gO];refine#[v.natAbs+2,BN _ v.natAbs d ca (by lia) λg=>?_]
 rw[Qa b];have i:=QW (T:=v) b;have f:gT d v<=d:=Nat.le_of_dvd b O9;have e:((gT d v:Nat):Int)<2 ^ 200:=by
  have:gT d v<2 ^ 200:=WZ f (X9 c<|by decide)
  exact_mod_cast this
 unfold yA
 simp_arith! only[aB,aS,aa,ai,ac,ag,fG,oI,wT,dt,UL]
 exact#[#[by lia,e],#[by lia,e],bj (by simp),ak h]
theorem Ci(n:Nat):∀ks:List Nat,fits n (mw ks)=true
 |[]=>by rfl
 |k::ks=>by
  have:=Ci n ks
  assumption
theorem T8{i:Nat}:iJ M (.int (i:Int)) (.tup<|mw ks)=ap (decide (i∈ks)):=by
 have e:mw ks=(ks.map λ(i:Nat)=>(V6 (i:Int):aD)).map kD:=by unfold mw;rw[Vf];rfl
 have c:=Ci 60 ks
 simp_arith! only[iJ,aO,dv,bz,c,and_self,if_true]
 congr 1;rw[e];have:=Fn (ks:=ks.map λ(i:Nat)=>(V6 (i:Int):aD)) (k:=.inl (i:Int));show (((ks.map λ(i:Nat)=>(V6 (i:Int):aD)).map kD).any λd=>aQ d (kD<|.inl (i:Int)))=_;rw[this];refine decide_eq_decide.mpr ?_;constructor
 .intro h
  obtain⟨j,a,b⟩:=UZ.mp h;have:(j:Int)=(i:Int):=Sum.inl.inj b;have:j=i:=by lia
  rw[<- this];exact a
 .intro h
  exact UZ.mpr #[i,h,rfl]
section
variable{B:Nat}
theorem Mj{l:List Nat}:(l.map kY).map Jc=l.map EW:=by rw[Vf];exact Vy λB _=>JK
theorem JV(a:U[i]?=ap (ap<|EQ v n))(h:R #[((Vc<|2 ^ n).map kY).map Jc,[]] M):A3 (ac i) U M R:=by
 simp_arith! only[A3,ac,a]
 exact h
theorem Hz(a:B<2 ^ n)(b:k<n):B ||| 2 ^ k<2 ^ n:=Nat.or_lt_two_pow a (Z2 (by decide) b)
theorem rj(f:B<2 ^ n)(g:k<n)(h:B.testBit k=cx):(PZ y9 ((av B).map (λ(i:Nat)=>(i:Int))++[(k:Int)])).map D.int=mw (av (B ||| 2 ^ k)):=by
 have b:=Hz f g;have e:((av B).map (λ(i:Nat)=>(i:Int))++[(k:Int)])=(av B++[k]).map λ(i:Nat)=>(i:Int):=by simp
 have p:((av (B ||| 2 ^ k)).map λ(i:Nat)=>(i:Int)).Perm ((av B++[k]).map λ(i:Nat)=>(i:Int)):=by
  refine List.Perm.map _ ((List.perm_ext_iff_of_nodup m_ ?_).mpr λi=>?_)
  .rw[W6]
   refine#[m_,by simp,λx j y l z=>?_]
   have:y=k:=by simpa using l
   subst this;subst z;rw[((bi f).mp j).2]at h;cases h
  .rw[bi b,Vs,bi f,kF,YV,decide_eq_true_eq,Xx]
   constructor
   .rintro⟨c,h2|h2⟩
    .exact .inl #[c,h2]
    .exact .inr h2.symm
   .rintro (⟨c,h2⟩|rfl)
    .exact#[c,.inl h2]
    .exact#[g,.inr rfl]
 have a:Ni y9 ((av (B ||| 2 ^ k)).map λ(i:Nat)=>(i:Int)):=by
  refine wH ?_;rw[cu b,List.pairwise_map];exact((List.pairwise_le_range (n:=n)).filter _).imp λ{x y} z=>Int.ofNat_le.mpr z
 rw[e,<- Gv y9 a p];unfold mw;rw[Vf];rfl
theorem T7(q:K (.int<|fy w A) M):El [.bl (decide (w A=("faulty":Str)))] M K:=by
 unfold El fy at *;simpa [IA,qy] using q
theorem IQ{us:List aD}{top:Int}(W:us.length=n)(U:n<=5)(j:k<n)(f:B<2 ^ n)(h:∀b a,D'.nx [A,y,x,d3,ap (EQ v n),ap (.lst<|us.map kD),d6,ap (.int (k:Nat)),ap (.int (top+uV v n k B)),ap (EW B),b,a,g] M):
  iF ad EE D' [A,y,x,d3,ap (EQ v n),ap (.lst<|us.map kD),d6,ap (.int (k:Nat)),ap (.int top),ap (EW B),b,a,g] M:=by
 have fi':∀{v:Int}{M:Mem}{Q:DK},Q (.int v) M->frz (.int v) M Q:=λz=>z;have T:=jL f;have o:(mw<|av B).length=(av B).length:=by simp[mw]
 unfold iF
 simp_arith! only[aJ,am,ai,ac,dt,UL,nE]
 have r:iJ M (.int (k:Int)) (EW B)=ap (decide (k∈av B)):=T8;rw[r]
 by_cases c:B.testBit k=true
 .have l:k∈av B:=(bi f).mpr #[j,c]
  simp only[Dp,qy];rw[decide_eq_true l,if_neg (by simp)]
  have:=h b a;have z:uV v n k B=0:=if_pos c;rw[z,YD]at this;exact this
 .have l:¬k∈av B:=λz=>c ((bi f).mp z).2
  have u:=WD.mpr c;simp only[Dp,qy];rw[decide_eq_false l,if_pos (by simp)]
  have J:(av B).length+1<=n:=by
   have:=jL (Hz f j);have e:=congrArg We (rj f j u);have P:(PZ y9 ((av B).map (λ(i:Nat)=>(i:Int))++[(k:Int)])).length=(av B).length+1:=by rw[(nH y9 _).length_eq];simp
   rw[UM,P]at e;simp[mw]at e;lia
  unfold sw;generalize m:mV ad EE=K2
  simp_arith! only[ah,ao,ai,aq,aj,b6,aa,ag,ac,dC,dt,UL,EW,bh,aO,o]
  refine#[rfl,aG (λ_ _ q=>fT (by lia) q)<|fi' ?_]
  simp_arith! only[ai,aq,aj,b6,aa,ag,ac,dC,dt,UL,EW,bh,aO,UM,fc,k4,o]
  have O:((us.length:Nat):Int)-((av B).length:Nat)-1=((n-(av B).length-1:Nat):Int):=by lia
  rw[O];refine#[rfl,aG (λ_ _ q=>fT (by lia) q)<|fi' ?_]
  have E:=gu (n:=(av B).length) (by lia)
  have S:=ir (av B).length;have L:=gu (n:=n-(av B).length-1) (by lia)
  simp_arith! only[cD]
  refine#[.inl #[by lia,by lia],?_]
  have H:((fct (av B).length:Nat):Int)*((fct (n-(av B).length-1):Nat):Int)=wN n (av B).length:=by unfold wN;push_cast;rfl
  rw[H];have N:0<=wN n (av B).length/\wN n (av B).length<2 ^ 64:=by
   unfold wN;have:=XF E L;refine#[by lia,?_]
   lia
  simp only[af,Va];rw[<- m];unfold mV;generalize s:mW ad EE=K1;have R:=λ(K:DK) (q:K (.str<|v (B ||| 2 ^ k)) M)=>Nb (v:=v) (n:=n) (Hz f j) q
  have C:=λ(K:DK)(q:K (.str<|v B) M)=>Nb (v:=v) (n:=n) f q;have F:dz (mw (av B)++[.int (k:Int)])=ap ((av B).map (λ(i:Nat)=>(i:Int))++[(k:Int)]):=by
   have e:mw (av B)++[.int (k:Int)]=((av B).map (λ(i:Nat)=>(i:Int))++[(k:Int)]).map D.int:=by unfold mw;rw[V9,Vf];rfl
   rw[e,pB]
  simp_arith! only[ah,ao,ai,b6,aq,aS,aa,ag,ac,dC,dt,UL,EW,aZ,Vh,Ww,o]
  refine#[bj (by lia),bj (by lia),?_]
  simp_arith! only[ig,F]
  refine#[by simp;lia,λp G=>bU G ?_]
  simp_arith! only[bP,g4,rj f j u]
  refine R _ ?_;simp only[ck,dv,bz,aQ];refine#[trivial,trivial,T7 (w:=v) ?_];refine C _ ?_;simp only[ck,dv,bz,aQ];refine#[trivial,trivial,T7 (w:=v) ?_]
  simp_arith! only[fc,k4,af,Va]
  rw[<- s];unfold mW;have I:uV v n k B=wN n (av B).length*(fy v (B ||| 2 ^ k)-fy v B):=if_neg c
  simp_arith! only[ao,ai,ac,dt,UL,cD,aZ,af,Va]
  refine#[.inl #[by lia,N.2],?_]
  rw[<- I];exact h _ _
theorem wk{us:List aD}(l:us.length=n)(g:n<=5)(o:k<n)(f:ok M):∀(Bs:List Nat)(top:Int)(c b a:Option D),(∀B∈Bs,B<2 ^ n)->
  (∀c b a,D'.nx [m,j,i,d3,ap (EQ v n),ap (.lst<|us.map kD),d6,ap (.int (k:Nat)),ap (.int (top+(Bs.map<|uV v n k).sum)),c,b,a,e] M)->
  fh (af 9) (iF ad EE) D' ok p (Bs.map EW) [m,j,i,d3,ap (EQ v n),ap (.lst<|us.map kD),d6,ap (.int (k:Nat)),ap (.int top),c,b,a,e] M
 |[],top,c,b,a,_,h=>#[f,by simp_all]
 |B::Bs,top,c,b,a,hB,h=>by
  exact#[f,IQ l g o (by simp_all) λb a=>wk l g o f Bs _ _ _ _ (by simp_all) λc b a=>by
   have:=h c b a;rw[UR,V5,<- Int.add_assoc]at this;exact this]
end
end _T
namespace _T
open PySem _2 _3
variable{us:List aD}{n:Nat}{T:Nat->Int}
section
variable{M:Mem}
def xr(us:List aD)(n:Nat)(T:Nat->Int):List D:=(us.zipIdx 0).map λp=>D.tup [kD p.1,OB n T p.2]
theorem FJ:(jx C s t a b).length<=2 ^ (aA C s t).length:=by
 have c:(jx C s t a b).length<=(c_ a b _ _ 0 0).length:=VA _ _;rw[jh]at c;have:=qk (C:=C) (s:=s) (t:=t);lia
theorem KQ(c:n<=7)(e:(jx C s t a b).length<=128)(ok:∀x∈jx C s t a b,OutOk n x):-1000000000000000<=gh n (jx C s t a b) i/\gh n (jx C s t a b) i<=1000000000000000:=by
 have:=zX (i:=i) c ok;lia
theorem Du(o:C.Ok)(m:SOk C s)(f:SOk C t)(g:C.mark s=.int a)(l:C.mark t=.int b)(e:a≠b)(j:(aA C s t).length<=5)(u:64<=L)(c:L<=10000)(h:∀p,M p=ca->Q (.ref p) (M.upd p<|.lst<|xr (aA C s t) (aA C s t).length<|gh (aA C s t).length<|jx C s t a b)):rf ad [bc C s t,.int (L:Nat)] M Q E:=by
 have r:2 ^ (aA C s t).length<=32:=VF (by decide) j
 have q:=qk (C:=C) (s:=s) (t:=t);exact xn o m f g l e (by lia) (by lia) c si rfl (λi _=>KQ (by lia) (Vb FJ<|by lia) si) h
theorem Fd(c:j<us.length):xr (us.take (j+1)) n T=xr (us.take j) n T++[D.tup [kD us[j],OB n T j]]:=by
 unfold xr;rw[Yd,UO c,List.zipIdx_append];simp[Nat.min_eq_left (Xu c)]
theorem Q7(h:us.length<=1000):(xr us n T).length<=100000/\∀x∈xr us n T,Jk 22 x:=by
 unfold xr;refine#[by rw[UM,List.length_zipIdx];lia,λx e=>?_]
 obtain⟨p,_,rfl⟩:=UZ.mp e;refine#[by simp,λy c=>?_]
 simp at c;rcases c with rfl|rfl
 .cases p.1<;>trivial
 refine#[by simp,λy c=>?_]
 simp at c;rcases c with rfl|rfl<;>trivial
theorem Go(w:us.length=n)(I:n<=5)(J:((Vc<|2 ^ n).map<|uV v n j).sum=T j)(o:j<us.length)(h:∀m g e c,D'.nx [x,u,p,d3,ap (EQ v n),ap (.lst<|us.map kD),ap (.ref l),ap (.int (j:Nat)),m,g,e,c,f] (M.upd l<|.lst<|xr (us.take (j+1)) n T)):
  ah (ao (dC<|.int 0)<|af 8) (ii ad EE) D' [x,u,p,d3,ap (EQ v n),ap (.lst<|us.map kD),ap (.ref l),ap (.int (j:Nat)),m,g,e,c,f] (M.upd l<|.lst<|xr (us.take j) n T):=by
 have ft':∀{xs:List D}{M:Mem}{Q:DK},Q (.tup xs) M->frz (.tup xs) M Q:=λz=>z;have fi':∀{v:Int}{M:Mem}{Q:DK},Q (.int v) M->frz (.int v) M Q:=λz=>z;simp only[af,Va,ah,ao,dC];unfold ii;generalize i:lU ad EE=K5;simp only[ah];unfold cj;refine JV rfl ?_;rw[Mj];refine wk (v:=v) w I (by lia) (by intro r E;cases E) _ 0 _ _ _ (λB G=>VI.mp G) λg e c=>?_
 rw[YC,J,<- i];unfold lU;have F:fH (us.map kD) ((j:Nat):Int)=ap (kD us[j]):=by rw[bE (by lia),Vj,UT,UO o];rfl
 have H:(us.map kD).length=n:=by simp[w]
 simp_arith! only[bg,j_,aS,aa,ag,ai,ac,dt,UL,df,Mem.upd_same,true_and,az,aO,F,aq,aj,b6,bh,H]
 refine#[rfl,aG (λ_ _ q=>fT (by lia) q)<|fi' #[rfl,aG (λ_ _ q=>kL (ir n) ?_ q)<|ft' #[bj (by simp),?_]]]
 .exact WZ (gu<|by lia) (by decide)
 have y:(xr (us.take j) n T).length<=1000:=by unfold xr;simp;lia
 simp_arith! only[bu,Mem.upd_same,Mem.upd_upd]
 refine#[gn (by lia),?_]
 have A:xr (us.take j) n T++[D.tup [kD us[j],.tup [.int (T j / ((gT (fct n) (T j):Nat):Int)),.int (((fct n:Nat):Int) / ((gT (fct n) (T j):Nat):Int))]]]=xr (us.take (j+1)) n T:=by rw[Fd o];rfl
 rw[A];exact h _ _ _ _
theorem wA{us:List aD}{n:Nat}{T:Nat->Int}(z:us.length=n)(r:n<=5)(w:∀k,k<n->((Vc<|2 ^ n).map<|uV v n k).sum=T k)(q:∀x,ok (M.upd l x)):∀(m j:Nat)(p i g f c:Option D),j+m=n->
  (∀p i g f c,D'.nx [A,y,u,d3,ap (EQ v n),ap (.lst<|us.map kD),ap (.ref l),p,i,g,f,c,o] (M.upd l<|.lst<|xr us n T))->
  fh (af 7) (ah (ao (dC<|.int 0)<|af 8)<|ii ad EE) D' ok B (yX j m) [A,y,u,d3,ap (EQ v n),ap (.lst<|us.map kD),ap (.ref l),p,i,g,f,c,o] (M.upd l<|.lst<|xr (us.take j) n T)
 |0,j,p,i,g,f,c,e,h=>#[q _,by
   rw[X4 (by lia)]
   simp_all]
 |m+1,j,p,i,g,f,c,e,h=>by
  exact#[q _,Go z r (w j<|by lia) (by lia) λi g f c=>wA z r w q m _ _ _ _ _ _ (by lia) h]
end
theorem Eh(ad:Ad)(ns:abX)(hl:ns.length<=63):Iq ad [.ml (ns.map D.int)] (λ_=>ca) (λd _=>d=.bl true) lG:=by
 have J:∀{v:Int}{M:Mem}{Q:DK},Q (.int v) M->frz (.int v) M Q:=λz=>z;have fb':∀{v:Bool}{M:Mem}{Q:DK},Q (.bl v) M->frz (.bl v) M Q:=λz=>z;rw[TD];unfold CI;generalize i:jJ ad (aI lG)=K15
 simp_arith! only[ah,ao,aj,aa,ag,ac,dt]
 refine#[rfl,ar λQ' E' e _=>HP λk M1 K _=>e _ _ ?_];simp only[af,Va];rw[<- i];unfold jJ;generalize h:jm ad (aI lG)=K14
 simp_arith! only[ah,ao,aq,aj,aa,ag,ai,ac,dC,dt,UL]
 refine#[rfl,aP K (by decide) (by decide) λr M2 a2 b2 d2=>J ?_]
 simp_arith! only[aZ]
 obtain⟨f,A,f1,f5⟩:∃f:Nat,1+r=(f:Int)/\1<=f/\f<=5:=#[(1+r).toNat,by lia,by lia,by lia]
 rw[A];refine#[rfl,ar λQ' E' e _=>Er f1 f5 d2.1 λC s t M3 c q3=>e _ _ (HS ?_)];obtain⟨a,b,Y,P,u⟩:=c.two;have hu:=c.un;have X:(aA C s t).length<=5:=by lia
 obtain⟨R,U,S⟩:=Hj c c.one;simp only[af,Va];rw[<- h];unfold jm;generalize m:jH ad (aI lG)=K13
 simp_arith! only[ah,ao,b6,kz,aa,ag,ac,dt,UL]
 refine#[R,U,S,?_];simp only[af,Va];rw[<- m];unfold jH;generalize x:jM ad (aI lG)=K12
 simp_arith! only[ah,ao,IK,aj,aa,ag,ac,dt,UL]
 refine#[rfl,ar λQ' E' e _=>pT c.o c.hs c.ht Y P (by lia) u λp g=>e _ _ (Ma g ?_)]
 simp only[af,Va];rw[<- x];unfold jM;generalize j:jn ad (aI lG)=K11
 simp_arith! only[ah,ao,aq,aj,aa,ag,ac,dt,UL]
 refine#[rfl,ar λQ' E' e _=>lb c.o c.hs c.ht λp g=>e _ _ (bU g ?_)];simp only[af,Va,bO,ag];refine#[bj (by simp),λl hl=>?_]
 rw[<- j];unfold jn;generalize y:jI ad (aI lG)=K10;have lu:((aA C s t).map kD).length=(aA C s t).length:=by simp
 simp_arith! only[ah,cj,dw,aa,ag,b6,bh,aO,ac,dt,UL,lu]
 refine#[by lia,by lia,?_]
 rw[Vj,Gb];refine wA (M:=M3) (n:=(aA C s t).length) (T:=gh (aA C s t).length (jx C s t a b)) rfl X (λk K=>LC K) (λ_=>by intro r hr;cases hr) _ 0 _ _ _ _ _ (by lia) λc7 c8 c9 c10 c11=>?_
 have ok:=Q7 (us:=aA C s t) (n:=(aA C s t).length) (T:=gh (aA C s t).length (jx C s t a b)) (by lia)
 have Z:=λ(L:Nat)(M:Mem)(Q:DK)(E:DX)=>Du (L:=L) (ad:=ad) (M:=M) (Q:=Q) (E:=E) c.o c.hs c.ht Y P u X;generalize xr (aA C s t) (aA C s t).length (gh (aA C s t).length<|jx C s t a b)=W at *;rw[<- y];unfold jI;generalize O:m9 ad (aI lG)=K9;have B:(M3.upd l<|.lst W) l=ap (.lst W):=Mem.upd_same;generalize hN:M3.upd l (.lst W)=N at*
 simp_arith! only[ah,ao,yv,aa,ag,ac,dt,UL]
 refine#[rfl,ar λQ' E' e _=>Z 500 _ _ _ (by decide) (by decide) λp g=>e _ _ ?_]
 have w:l≠p:=λz=>by rw[<- z,B]at g;cases g
 simp only[af,Va];rw[<- O];unfold m9;generalize F:lI ad (aI lG)=K8
 simp_arith! only[ah,aJ,gI,cW,aq,aj,aa,ag,ac,dt,UL]
 refine#[rfl,aG (λ_ _ q=>HM (n:=22) (p:=p) (q:=l) (xs:=W) Mem.upd_same (by rw[ae w];exact B) ok q)<|fb' ?_]
 simp_arith! only[Ig,XU]
 rw[if_neg (by simp)]
 simp only[aE];rw[<- F];unfold lI;generalize I:mC ad (aI lG)=K7
 simp_arith! only[ah,bg,j_,ag,ac,dt,UL,df,Mem.upd_same,true_and,jR,Mem.upd_upd]
 rw[<- I];unfold mC;have G:(N.upd p<|.lst W.reverse) l=ap (.lst W):=by rw[ae w];exact B
 unfold aB pc
 simp_arith! only[aq,aj,aa,ag,ac,dC,dt,UL]
 refine#[rfl,ar λQ' E' e _=>Z 64 _ _ _ (by decide) (by decide) λp2 H=>e _ _ (bU H ?_)]
 refine#[rfl,aG (λ_ _ q=>Gf (n:=22) (q:=l) (xs:=W) G ok q)<|fb' ?_]
 simp_arith! only[ai,b6,kz,aa,ag,ac,dt,UL]
 refine#[R,U,S,?_];simp only[ck,dv,bz,aQ,decide_true];exact#[trivial,trivial,ak rfl]
def IW(K:UP):Sp:=λb H Q _=>∃(a:cp)(ns:abX),b=[.ref a]/\FG H/\SqL K H a (ns.map V.int)/\ns.length<=63/\∀H',Q (.bl true) H'
theorem Rn{l:W.OpenLaw}{f6 f7 f8 f9 f10 f11 Z f13 f14 f15 f16 f17 f18 f19 f20 f21 f22 f23 f24 f25 f26 f27 f28 f29 f30 f31 f32 f33 f34 f35 f36 f37 f38 f39 f40 f41 f42 f43 f44 f45 f46 f47 f48 f49 f50 f51 f52 f53 f54 f55 f56 f57 f58 f59 f60 f61 f62 f63 f64 f65 f66 f67 f68 f69:cp}(X:K.In h)(G:h.Ns eT mg)(hfa:mg "law"=ap (.ref fa)){e1 e2 e3 e4 e5 e6 e7 e8 e9 e10 e11 e12 e13 e14 e15 e16 e17 e18 e19 e20 e21 e22 e23 e24 e25 e26 e27 e28 e29 e30 e31 e32 e33 e34 e35 e36 e37 e38 e39 e40 e41 e42 e43 e44 e45 e46 e47 e48 e49 e50 e51 e52 e53 e54 e55 e56 e57 e58 e59 e60 Y e62 e63 e64 e65 e66 e67 e68 e69:gp}(x:V4 K eT "Ends"=ap (ap<|.ref C_Ends))(o:V4 K eT "Going"=ap (ap<|.ref C_Going))(j:V4 K eT "Outcome"=ap (ap<|.ref C_Outcome))(r:V4 K eT "Walk"=ap (ap<|.ref C_Walk))(z:V4 K eT "Dry"=ap (ap<|.ref C_Dry))(m:V4 K eT "NoCase"=ap (ap<|.ref C_NoCase))(f:V4 K eT "TooMany"=ap (ap<|.ref C_TooMany))(l1:Mf K C_Walk "__init__" "Walk.__init__" Ut f1 e1)(l2:Mf K C_Walk "note_step" "Walk.note_step" Uj f2 e2)(l3:Mf K C_Walk "look" "Walk.look" MG f3 e3)(l4:Nf K "run" Nj f4 e4)(l5:Nf K "mark" Nu f5 e5)(l6:Nf K "do_rows" NM f6 e6)(l7:Af K "do_row_runs" "do_row" N0 f7 e7)(l8:Nf K "do_if" M_ f8 e8)(l9:Nf K "do_again" NF f9 e9)(l10:Nf K "number_of" MK f10 e10)(l11:Nf K "piece_read" Nr f11 e11)(l12:Nf K "joined" Mt Z e12)(l13:Nf K "all_things" O6 f13 e13)(l14:Nf K "in_order" Mu f14 e14)(l15:Nf K "number_in" Na f15 e15)(l16:Nf K "names_read" NB f16 e16)(l17:Nf K "unlike" Nk f17 e17)(l18:Nf K "marks" NG f18 e18)(l19:Nf K "unlike_of" NJ f19 e19)(l20:Nf K "verdict_of" Mr f20 e20)(l21:Mf K C_Going "__init__" "Going.__init__" SH f21 e21)(l22:Mf K C_Going "settled" "Going.settled" SB f22 e22)(l23:Mf K C_Ends "__init__" "Ends.__init__" Ul f23 e23)(l24:Mf K C_Ends "one_more" "Ends.one_more" Sy f24 e24)(l25:Nf K "start" MD f25 e25)(l26:Nf K "put_ahead" Mv f26 e26)(l27:Nf K "go_on" MT f27 e27)(l28:Nf K "asked_by" NO f28 e28)(l29:Af K "do_row_trees" "do_row" Mz f29 e29)(l30:Nf K "mark_of" NQ f30 e30)(l31:Nf K "both_ways" O2 f31 e31)(l32:NV K "tree" MH f32 e32 (500))(l33:Nf K "grown" Nt f33 e33)(l34:Mf K C_Outcome "__init__" "Outcome.__init__" U5 f34 e34)(l35:Nf K "outcomes" NA f35 e35)(l36:Nf K "numbers_of" NT f36 e36)(l37:NV K "shares" O3 f37 e37 (500))(l38:Nf K "mean_of" MQ f38 e38)(l39:Nf K "orders_of" NE f39 e39)(l40:Nf K "orders_up_to" N5 f40 e40)(l41:Nf K "in_lowest_terms" Si f41 e41)(l42:Nf K "_law_stirred" MX f42 e42)(l43:Nf K "_law_pot" Nd f43 e43)(l44:Nf K "_law_draw" Np f44 e44)(l45:Nf K "_law_names" Mw f45 e45)(l46:Nf K "_law_row" MZ f46 e46)(l47:Nf K "_law_block" Nm f47 e47)(l48:Nf K "_law_rows" MV f48 e48)(l49:Nf K "_law_plan" N9 f49 e49)(l50:Nf K "_law_stand" NK f50 e50)(l51:Nf K "_law_becomes" NL f51 e51)(l52:Nf K "_law_stepped" Ny f52 e52)(l53:Nf K "_law_rounds" NU f53 e53)(l54:Nf K "_law_done" MF f54 e54)(l55:Nf K "_law_run" NZ f55 e55)(l56:Nf K "_law_flat" Ms f56 e56)(l57:Nf K "_law_marks" MI f57 e57)(l58:Nf K "_law_other" N4 f58 e58)(l59:Nf K "_law_by_name" NX f59 e59)(l60:Nf K "_law_by_piece" Tq f60 e60)(l61:Nf K "_law_case" MC f61 Y)(l62:Nf K "_law_things" Nh f62 e62)(l63:Nf K "_law_mixed" MS f63 e63)(l64:Nf K "_law_subsets" MB f64 e64)(l65:Nf K "_law_verdicts" No f65 e65)(l66:Nf K "_law_alike" Nq f66 e66)(l67:Nf K "_law_product" Nw f67 e67)(l68:Nf K "_law_fraction" SF f68 e68)(J:Nf K "law" lh f69 e69)(aa4:ZY K C_Dry [.type "ValueError",.type "Exception",.type "BaseException",.type "object"] "ValueError.__new__"=true)(aaL:ZY K C_NoCase [.type "ValueError",.type "Exception",.type "BaseException",.type "object"] "ValueError.__new__"=true)(aaK:ZY K C_TooMany [.type "ValueError",.type "Exception",.type "BaseException",.type "object"] "ValueError.__new__"=true)(aaS:Xk K C_Ends YK=true)(aaT:Xo K C_Ends=true)(aaU:XX K C_Ends=true)(aaV:VE K (.ref C_Ends) "__setattr__"=ap (ap<|.builtin "object.__setattr__"))(aaW:X7 K C_Ends=true)(aaX:V8 K (.ref C_Ends)=true)(aaM:Xk K C_Going YK=true)(aaN:Xo K C_Going=true)(aaO:XX K C_Going=true)(aaP:VE K (.ref C_Going) "__setattr__"=ap (ap<|.builtin "object.__setattr__"))(aaQ:X7 K C_Going=true)(aaR:V8 K (.ref C_Going)=true)(aaE:Xk K C_Outcome YK=true)(aaF:Xo K C_Outcome=true)(aaG:XX K C_Outcome=true)(aaH:VE K (.ref C_Outcome) "__setattr__"=ap (ap<|.builtin "object.__setattr__"))(aaI:X7 K C_Outcome=true)(aaJ:V8 K (.ref C_Outcome)=true)(aaY:Xk K C_Walk YK=true)(aaZ:Xo K C_Walk=true)(aa0:XX K C_Walk=true)(aa1:VE K (.ref C_Walk) "__setattr__"=ap (ap<|.builtin "object.__setattr__"))(aa2:X7 K C_Walk=true)(aa3:V8 K (.ref C_Walk)=true)(aax:VE K (.ref C_Ends) "count"=ap ca)(aay:VE K (.ref C_Ends) "limit"=ap ca)(aaz:VE K (.ref C_Going) "left"=ap ca)(aas:VE K (.ref C_Going) "numbers"=ap ca)(aau:VE K (.ref C_Going) "pieces"=ap ca)(aaA:VE K (.ref C_Going) "todo"=ap ca)(aap:VE K (.ref C_Going) "unsettled"=ap ca)(aar:VE K (.ref C_Outcome) "faulty"=ap ca)(aat:VE K (.ref C_Outcome) "sound"=ap ca)(aaq:VE K (.ref C_Outcome) "verdict"=ap ca)(aaC:VE K (.ref C_Walk) "most"=ap ca)(aav:VE K (.ref C_Walk) "numbers"=ap ca)(aaw:VE K (.ref C_Walk) "pieces"=ap ca)(aaD:VE K (.ref C_Walk) "plan"=ap ca)(aaB:VE K (.ref C_Walk) "steps"=ap ca)(S:V4 K eT "abs"=ap ca)(U:V4 K eT "all"=ap ca)(B:V4 K eT "bool"=ap ca)(C:V4 K eT "dict"=ap ca)(c:V4 K eT "enumerate"=ap ca)(N:V4 K eT "int"=ap ca)(b:V4 K eT "isinstance"=ap ca)(M:V4 K eT "len"=ap ca)(y:V4 K eT "list"=ap ca)(R:V4 K eT "max"=ap ca)(L:V4 K eT "min"=ap ca)(q:V4 K eT "range"=ap ca)(A:V4 K eT "repr"=ap ca)(i:V4 K eT "reversed"=ap ca)(p:V4 K eT "sorted"=ap ca)(O:V4 K eT "str"=ap ca)(I:V4 K eT "sum"=ap ca)(u:V4 K eT "tuple"=ap ca)(P:V4 K eT "zip"=ap ca):
  ∃fd:gp,(∀(s:cb)(v:ax),abi s fd #[[v],[]] [("script",v)])/\∀g:g3,K.In g->g.Ns eT mg->FnOk l.prog w K mg g CX0 35 fa fd ["script"] (IW K):=by
 have e:=hfa.symm.trans (XA X G J.a);cases e;obtain⟨_,_,kV,dc,pm,an,cd,ct,_,rfl,_⟩:=J.F.ex;refine#[Xl "law" "law" (cq lh) (bC lh) (aR lh) .none kV dc pm an cd ct,λs v=>.of_eq rfl,λg _ _=>?_]
 let ad:Ad:=#[C_Ends,C_Going,C_Outcome,C_Walk,C_Dry,C_NoCase,C_TooMany,f1,f2,f3,f4,f5,f6,f7,f8,f9,f10,f11,Z,f13,f14,f15,f16,f17,f18,f19,f20,f21,f22,f23,f24,f25,f26,f27,f28,f29,f30,f31,f32,f33,f34,f35,f36,f37,f38,f39,f40,f41,f42,f43,f44,f45,f46,f47,f48,f49,f50,f51,f52,f53,f54,f55,f56,f57,f58,f59,f60,f61,f62,f63,f64,f65,f66,f67,f68,fa,e1,e2,e3,e4,e5,e6,e7,e8,e9,e10,e11,e12,e13,e14,e15,e16,e17,e18,e19,e20,e21,e22,e23,e24,e25,e26,e27,e28,e29,e30,e31,e32,e33,e34,e35,e36,e37,e38,e39,e40,e41,e42,e43,e44,e45,e46,e47,e48,e49,e50,e51,e52,e53,e54,e55,e56,e57,e58,e59,e60,Y,e62,e63,e64,e65,e66,e67,e68,Xl "law" "law" (cq lh) (bC lh) (aR lh) .none kV dc pm an cd ct]
 have T:En l.prog w K mg g ad:=#[#[aaS,aaT,aaU,aaV],
  XA X G x,
  #[aaM,aaN,aaO,aaP],
  XA X G o,
  #[aaE,aaF,aaG,aaH],
  XA X G j,
  #[aaY,aaZ,aa0,aa1],
  XA X G r,
  aax,
  aay,
  aaz,
  aas,
  aau,
  aaA,
  aap,
  aar,
  aat,
  aaq,
  aaC,
  aav,
  aaw,
  aaD,
  aaB,
  j8 X aa4,
  XA X G z,
  j8 X aaL,
  XA X G m,
  j8 X aaK,
  XA X G f,
  VB X G S,
  VB X G U,
  VB X G B,
  VB X G C,
  VB X G c,
  VB X G N,
  VB X G b,
  VB X G M,
  VB X G y,
  VB X G R,
  VB X G L,
  VB X G q,
  VB X G A,
  VB X G i,
  VB X G p,
  VB X G O,
  VB X G I,
  VB X G u,
  VB X G P,
  gi aa2 aa3 l1,
  gm l2,
  gm l3,
  gf X G l4,
  gf X G l5,
  gf X G l6,
  ga X G l7,
  gf X G l8,
  gf X G l9,
  gf X G l10,
  gf X G l11,
  gf X G l12,
  gf X G l13,
  gf X G l14,
  gf X G l15,
  gf X G l16,
  gf X G l17,
  gf X G l18,
  gf X G l19,
  gf X G l20,
  gi aaQ aaR l21,
  gm l22,
  gi aaW aaX l23,
  gm l24,
  gf X G l25,
  gf X G l26,
  gf X G l27,
  gf X G l28,
  ga X G l29,
  gf X G l30,
  gf X G l31,
  gv X G l32 rfl λ_ _ _ _ _ _ _ _=>#[λ_=>#[_,rfl,rfl],λ_ _=>#[_,rfl,rfl]],
  gf X G l33,
  gi aaI aaJ l34,
  gf X G l35,
  gf X G l36,
  gv X G l37 rfl λ_ _ _ _ _ _ _ _=>#[λ_=>#[_,rfl,rfl],λ_ _=>#[_,rfl,rfl]],
  gf X G l38,
  gf X G l39,
  gf X G l40,
  gf X G l41,
  gf X G l42,
  gf X G l43,
  gf X G l44,
  gf X G l45,
  gf X G l46,
  gf X G l47,
  gf X G l48,
  gf X G l49,
  gf X G l50,
  gf X G l51,
  gf X G l52,
  gf X G l53,
  gf X G l54,
  gf X G l55,
  gf X G l56,
  gf X G l57,
  gf X G l58,
  gf X G l59,
  gf X G l60,
  gf X G l61,
  gf X G l62,
  gf X G l63,
  gf X G l64,
  gf X G l65,
  gf X G l66,
  gf X G l67,
  gf X G l68,
  gf X G J]
 exact(QO<|Rx T).imp λvs H Q E ⟨a,ns,e,hO,hS,hl,k⟩=>by subst e;exact KZ hO hS (Eh ad ns hl) k
theorem walk{l:W.OpenLaw}{K:Params->UP}(o:l.most=ap 63)(e:d.params.defaults=[])(p:∀(w:gl)(h:g3),YP w h->(K w.params).In h)(F:∀(w:gl)(c:ab5)(fa:cp)(h:g3),(K w.params).In h->h.Ns eT c->c d.name=ap (.ref fa)->
   ∃fd:gp,(∀(s:cb)(u:ax),abi s fd #[[u],[]] [("script",u)])/\∀b:g3,(K w.params).In b->b.Ns eT c->FnOk l.prog w (K w.params) c b CX0 35 fa fd ["script"] (IW<|K w.params)):
  W.WalkO q loose XP YP l.row.toRowW d [] (λf vs=>ZX f vs):=
 _2.LU (n:=63) (k:=35) (x:="script") (CX:=λ_=>CX0) (sp:=λw=>IW (K w.params)) o (by decide) e #[rfl,by decide,by decide,rfl] p F (λ_ _ a i j g m=>#[a,i,rfl,g,m,j,λ_=>rfl]) λ_ _ _ _ _ z=>z
end _T
open PySem PySem.W PyProof.Rows
structure PySem.W.Fast:Prop where
 (tw11223606270694900598 tw1615926862949039634 tw3617525899532189293 tw1598193625495387571 tw15071479676512506968 tw1256854124185961053 tw4525978199180544023 tw5174713275955313641 tw7429699645153144544 tw12472243174375960554 tw8390825212145439813 tw2260250778607678245 tw60393349898578472 tw8816538008799313037 tw12971907080394093692 tw9246212262322242049 tw6105419955169959015 tw10787316917010432826 tw13200063092014840145 tw7537342808731899520 tw17519850776866852580 tw4544105988237661683 tw13654176563045153617 tw13375430772426978082 tw12560267437939204878 tw12628809965520804954 tw5960691967668903234 tw5727160899143114436 tw12374832719782213635 tw14324962494376503810 tw14510220603742320485 tw12783809750339128908 tw16548945739278231929 tw6163099693877201710 tw16366178005461961011 tw8158060899792981906 tw7284084039355225370 tw15999612475441031650 tw4192805090542354329 tw5543731804192931681 tw2535721739924109009 tw15361277462882975387 tw3530916565519250147 tw13789667309241164834 tw15391693620214297324 tw13263002627139670813 tw12632224023154738559 tw2688427054921870428 tw6210370063758492712 tw7438851251164628089 tw14837958118927420466 tw15439913720096302413 tw17772191457645196458 tw6718322658246803342 tw15443556802801807485 tw8066287611427481761 tw1172693103886832518 tw3238329396522193725 tw14230342672582388215 tw11737375715698229763 tw5568390077258081457 tw5196266990840653572 tw13306096904424209125 tw14922831561735700145 tw12954929238867724597 tw17124493357966888079 tw2589134545466132253 tw1431892914151681184 tw11187148826969151474 tw7977933926179937675 tw3990131748272397886 tw10403563785451848876 tw10936351635456802368 tw1619611235446040541 tw5833967156685653337 tw1821800094136650526 tw11665415745574918898 tw12147805729222521396 tw17603650044102501032 tw6212574990843215499 tw11127794515593844502 tw3040119762459352024 tw4183019560481101712 tw16960039777803703758 tw1317857849931689292 tw17615282010414809929 tw8267296987447893395 tw1884179249829973983 tw5020071642301303814 tw16494115740079308584 tw8204628012148813679 tw4283472605275459420 tw17507765222320924949 tw11963473027220467993 tw2020575850524991304 tw6867128274191830501 tw8443335969975145265 tw17969477168545178952 tw5943079685441653577 tw657499083375219384 tw9679824551901750716 tw16939937027962822943 tw6896916656945102825 tw2048275412847732535 tw1252693956871038081 tw2616104398792069084 tw4578681200243070711 tw2001155269353274223 tw16463134263192313426 tw16757490902985035818 tw12142318766513177666 tw17225827763036536738 tw6791165707160271560 tw8425040987904413988 tw6828687394607771584 tw11135406318067258467 tw12321599315719602798 tw7089243346808242213 tw1563308461239884983 tw18171716290048659128 tw4093894642277326827 tw1446321125838458748 tw10636135905060806721 tw17663136769437513505 tw12687029949187525710 tw14496067249741356508 tw3951511335756076779 tw8716279233689878981 tw4403290533971832900 tw1116787763260830582 tw5419469187315232062 tw5727853889386033724 tw735925120423574880 tw3871335007130341791 tw14212267300936362288 tw2343044257558387259 tw12080128032093083368 tw17348130531490858923 tw9619353430304995596 tw1254010848194608282 tw5414209701337048811 tw7192420957949827752 tw18428508784419763091 tw7257042402427121045 tw18375818621356846851 tw17627365373193616527 tw12897114814231586967 tw2702396268999540922 tw17938527366677145651 tw1383304621922871985 tw13855443780000940776 tw9919567562073256780 tw16091009347179633613 tw11701813330673399597 tw14722951762517211362 tw2964285480583535335 tw14698059734760706844 tw2067375220305650638 tw11646478331279261468 tw13207641238811684284 tw3967530213462698726 tw7605856192772826834 tw6427626900773194150 tw2204006429033306713 tw17925410823863001857 tw9156628770826280129 tw14223264656772207241 tw11544219921230693367 tw3378754956996676005 tw16415868778381339912 tw9006507856127875205 tw10821408248444505636 tw16565429225917302558 tw10107243389996226459 tw6532037450378736271 tw4403617588784822553 tw4362469857908805617 tw8467621440930403602 tw8531523791154063768 tw6346843339803206740 tw5339430797708197918 tw13752331578980174194 tw11778331942465903903 tw9401783734802971980 tw5976967774470175831 tw10205753961161891986 tw5115581376199642641 tw13436304088334361518 tw6760073639186493282 tw2077794143237373239 tw10605005824679138360 tw6310678018978645876 tw1512513343530736738 tw5386360744679128594 tw15586736565423774753 tw9364059771337625430 tw13079662181159057742 tw16613555838697753208 tw2521521765388049668 tw8816021434438778152 tw13211841103302442922 tw990132181776314573 tw8477752803203028282 tw13277515179976840266 tw9033002476625617751 tw1514944918514700716 tw9243203774366153024 tw12153682823022511834 tw15999536075361782556 tw12330861789914690513 tw9031642564518637401 tw2421521494947028474 tw10900578336877702946 tw3266031152860702551 tw17507864053320635569 tw4856896544893724693 tw12358235925804037012 tw3750590473734233808 tw2528541969851548299 tw317098845873035529 tw17793569519054633674 tw5450766737004730175 tw4366328180700103917 tw3412606137324851222 tw17779887270362797643 tw8493904411898243664 tw14994335520988499650 tw13090930718330814622 tw1146236666016024434 tw7129616904756380132 tw69398342610919347 tw14302656814808535919 tw12990929232157630940 tw17631975318204657055 tw13758859496666568892 tw15535662741604276551 tw14792494789103475619 tw15089981840846616029 tw18278923034267741049 tw11586478243285285189 tw16965993007250163971 tw4192621961474752855 tw13774038442062647592 tw1219601335625920718 tw9780533190517065651 tw6270451408049433698 tw5820156364269097326 tw13389908257143256541 tw9384948456963855524 tw12616509184354370484 tw7491662602507761002 tw4060447944038895653 tw4230427180172468937 tw13598983569583992115 tw2416909456572682914 tw15222331083600085047 tw3111375089179517872 tw1413245390302248667 tw14130654356943933611 tw16410853389542070794 tw16288443091408510183 tw2506186135118167903 tw15601963935741160576 tw3050869953761124456 tw488714203476695992 tw12746868240420096369 tw17811616441795101531 tw17694936568344038246 tw563128430995769913 tw4515899864931201459 tw13312752385099245556 tw14746312994797474105 tw13710122199133390759 tw17930246663156562161 tw3398890373180519095 tw6429826013123418031 tw4909213941269473941 tw11926601073111759612 tw8449211498468901348 tw11501832632046462922 tw650942229880346747 tw13041028722992362806 tw15994260474225642232 tw3104209164304836942 tw3476605511315706827 tw6417644529028645569 tw6532256773423044217 tw15496163865087399389 tw15207233885009171508 tw15113848665213742378 tw1215472999598207019 tw11075475392375679185 tw6755817917558170908 tw6409806684758799737 tw8100905794040232265 tw11843633183259211825 tw11005896202736393955 tw3745508663130027362 tw17437886806121865539 tw4568851890455850340 tw15058577017400010033 tw13893231729801293173 tw4780427288678430052 tw9792402153827986658 tw5967561700610032478 tw1026005435544641708 tw15174638160186387585 tw10760574793070193441 tw2329152022920278143 tw5748407220675565244 tw208982576500468390 tw3595060884735701850 tw4540749054478527985 tw60234928500482269 tw16860177315884627856 tw13092500757746929965 tw4501625190029220693 tw17995109070283389595 tw12545826752625096994 tw15053873332019175015 tw10438280522110113489 tw3692186057639849610 tw15649451296705223025 tw15342916694586901613 tw4290051993786015958 tw14342213313558693299 tw6795057790187551622 tw2178890280932248892 tw271880518812508611 tw2981816190936758339 tw8765134115632620456 tw18440201253403815437 tw16548194852249910959 tw10835542774770476294 tw11999652358042306535 tw2784298918326688942 tw9650238575395971037 tw17652503036741966310 tw16435132771062362819 tw3116731209813711348 tw856178121940163100 tw14577288498022635787 tw11552396344142780765 tw9784066014950278975 tw18415844107191901831 tw17966745800120408164 tw424762888304884431 tw6815972713697718456 tw4264058608699238121 tw1067646154791851831 tw12689582724886685686 tw9232289003833074089 tw13025969395478174796 tw15700407876858173537 tw79072579785634558 tw16920221613946990980 tw15585063761031098024 tw10834565978497539390 tw8509945463696003775 tw5653063544264636962 tw8466778565338485802 tw17641098533041907956 tw9623214731583464145 tw16210290149724931213 tw17645674825664659100 tw4375494044806532945 tw11237021500693504769 tw16645599076516319954 tw10412503960429275537 tw14852251615233254612 tw8151778594509837975 tw6255284571981148392 tw11137199785131411387 tw3101710442826529545 tw8469717542242856251 tw15421356871070977741 tw14975639433937473839 tw17771280225675839658 tw17731304133738938523 tw7548478290677206645 tw13557942987942798916 tw2556587974948101699 tw10688522545920476526 tw9662709904245551882 tw3559693229977146045 tw5919704692791925010 tw7276811689086526166 tw7333060946127081512 tw7129428240277919716 tw15571309070542132308 tw14017849182180299558 tw1045124707592224449 tw2836031253005047008 tw3332447016766946753 tw3241073598035944240 tw15392579135051541811 tw3680761506195625793 tw15309890448521717864 tw9391521075410557524 tw14008222278798692007 tw6094055068832546077 tw15400627395775930130 tw17265704958860937983 tw12768886678980763236 tw14713586211126384499 tw11506066375256580178 tw16235555969102065932 tw6856141088001961764 tw8403468269312998069 tw18235358254667639668 tw16549026413435587719 tw14295920000893915835 tw10096345454890327773 tw2316913707582145683 tw14093403297944701423 tw2619023087727305831 tw6413366932542787489 tw13968651625904213308 tw10171921009005057046 tw11606255675861299092 tw11091586312810766019 tw17510290878360211136 tw9167909936473186832 tw10383469985348233307 tw14325472551561780309 tw15254419844570922603 tw12128409772083017914 tw18142207709345038407 tw6634287386687250060 tw4951689544217180309 tw12400791268020601261 tw14404342971002226465 tw13188502092191475019 tw9385311446153077522 tw12994405158314888700 tw14194849617928441368 tw14682581409885166046 tw14011455146057750522 tw1691666148065622397 tw10486369254137575872 tw9967701748031400310 tw8566810096109278471 tw914472130842230986 tw6204443233613212533 tw10112646230504985456 tw3827760642620270743 tw4810563919482048336 tw12862220121357763244 tw5043586730395533189 tw16870457986661203624 tw9285220797808631592 tw8092990400609767157 tw6583247372619592124 tw145932526283554738 tw14411559519787060316 tw14328022223057000749 tw3950751216023834350 tw15540112207926895298 tw8014974481248947305 tw7665224647907342077 tw29161914522952204 tw6610969689834441673 tw859013152594576161 tw456214790443121141 tw12146018683701629787 tw18128332745393166478 tw5694596265730809098 tw16579806494367348793 tw5635838778123133981 tw15178833257573795676 tw6128829798999267912 tw9961022964795945181 tw10543786891019986266 tw8587570395970248774 tw8325590659359725372 tw12801397661913924352 tw11051318442669545801 tw1825089586303253299 tw12007826850198738640 tw2072105651195595437 tw4510702443417103751 tw4002118320177269811 tw7052928622230234426 tw13736477417969976331 tw966696441373785607 tw1552414687421083701 tw18128200555309211079 tw235873297034938202 tw9795452394185800467 tw7137672164729540557 tw9298509846263912121 tw3706008360456844142 tw7320550567586445230 tw12005011222864123075 tw2055990571743825476 tw11252873322326197712 tw16991272767296223416 tw12650392019303555343 tw12390167330142798494 tw3405015641047030498 tw13405573666501149992 tw12183408755585759403 tw15846775316551913348 tw12466046533873279752 tw7799729835106530459 tw14525307087660680405 tw11984309753222922441 tw8806625022183803133 tw9374131844144819396 tw11029662753700501841 tw8171286266787827452 tw14521465752971140561 tw4349881707159752754 tw10448546923191777733 tw8541378154570220632 tw5519939121269390059 tw6474588707734952133 tw11165049536279900495 tw14229267001163859590 tw11832292247448507470 tw8779114661758167887 tw14813813764977297281 tw11770698106242611669 tw16778419880177508668 tw10225491963328136195 tw8920958528383667325 tw7868256441866746174 tw14492371750850928913 tw3412062110971511742 tw14230657202180479712 tw11146943064274848600 tw13918952861327317137 tw17168389846654043077:True)
set_option maxRecDepth 100000 in
set_option maxHeartbeats 0 in
theorem PySem.Challenge.cw_twinstride_k50_shares_of_blame_holds : PySem.Challenge.rw_twinstride_k50_shares_of_blame.Holds := by
 w_on;o_law;k_head;(case hw=>w_witness2)
 k_fill
 refine _T.walk (l:=PySem.Challenge.rw_twinstride_k50_shares_of_blame) rfl rfl (λw h Y=>W.kIn_of Y) ?F
 case F=>
  intro w b fa h KX G a;refine' _T.Rn KX G a ..
  any_goals k_is
  any_goals (first|refine' _3.Nf.mk ?_ (_2.ye ?_ ?_ ?_)|refine' _3.Mf.mk ?_ ?_ (_2.ye ?_ ?_ ?_)|refine' _3.Af.mk ?_ (_2.ye ?_ ?_ ?_)|refine' _3.Sm ?_ ?_ ?_ ?_ ?_)
  any_goals k_is
  any_goals k_exc
