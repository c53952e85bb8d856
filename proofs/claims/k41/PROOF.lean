import PyProof.Rows.All
import Wide.All
import OpenK.AllK
import Wide.FinOn
import Lean
import PyProof.EqAt
import PyProof.EqKinds
import PyProof.TupleCall
import PySem.Challenge.RW_twinstride_k41_all_least_causes
set_option Elab.async false
set_option linter.all false
set_option maxRecDepth 100000
set_option maxHeartbeats 4000000
set_option compiler.extract_closed false
set_option Elab.async false
set_option linter.all false
set_option maxRecDepth 100000
open Array renaming length_toList->Vd,replicate->V5,toList->WA,getElem?_eq_getElem->Yd,getElem?_eq_none->YA,forIn_toList->Y0,append_assoc->Y1
open Bool renaming beq_eq_decide_eq->UQ,false_eq_true->US,and_eq_true->Vl,false_ne_true->WL,or_false->W3,true_or->Xd,and_false->Xj,or_true->XA,eq_false_iff->XB,eq_iff_iff->XX,not_false->Yc,not_true->Yr,false_or->Ys,and_true->Yt
open Decidable renaming byContradiction->Vw
open False renaming elim->Vk
open ForInStep renaming yield->W2
open Function renaming comp_def->YM
open Int renaming toNat_natCast->UM,emod_lt_of_pos->Vm,emod_nonneg->VE,toNat->VO,le_refl->Xm,mul_le_mul_of_nonneg_left->XW,eq_ofNat_of_zero_le->YF,toNat_of_nonneg->Y6
open List renaming getElem?_cons_zero->dt,getElem?_cons_succ->TZ,length_map->Ub,getElem?_eq_getElem->Uc,map_cons->Ud,mem_cons_of_mem->Ui,mem_cons->Uj,mem_map->Ul,getElem?_map->Um,size_toArray->Uo,map_map->Uq,mem_filter->Ur,range->Ut,mem_cons_self->Uw,mem_append->Ux,set->Uy,length_cons->Uz,filter_cons->UA,nil_append->UB,length_append->UC,map_congr_left->UD,replicate->UG,cons_append->UH,mem_map_of_mem->UI,mem_range->UJ,length_filter_le->UK,getElem?_eq_some_iff->UO,mem_append_right->UP,lookup->UW,append_nil->U0,map_nil->U2,mem_append_left->U9,filter_map->Vb,mem_of_getElem?->Vf,getElem?_append_right->Vi,getElem?_eq_none->Vj,toArray->Vn,nodup_cons->Vr,foldl_cons->Vs,map_id->Vu,getD_eq_getElem?_getD->Vx,length_singleton->Vy,drop_eq_getElem_cons->VA,length_set->VB,length->VD,replicate_succ->VF,map_append->VM,find?_cons->VN,range_eq_range'->VT,not_mem_nil->VV,getElem_mem->VW,getElem?_zip_eq_some->V1,filterMap_cons->V2,pairwise_cons->V6,range'->V8,nodup_append->Wb,filter_eq_nil_iff->Wc,filter_congr->Wd,drop_eq_nil_of_le->We,any_eq_true->Wl,any_cons->Wo,replicate_succ'->Wq,of_mem_zip->Wu,length_nil->Wv,getElem_of_mem->Wx,filter_eq_self->Wz,idxOf_lt_length_of_mem->WB,mem_singleton->WI,findIdx?_cons->WJ,filter_append->WK,pairwise_iff_getElem->WS,getElem?_eq_none_iff->WT,getElem?_append_left->WU,length_range->WY,ext_getElem?->WZ,zipIdx_cons->W6,nodup_range->W7,length_take->W8,isEmpty_map->W9,ext_getElem->Xa,filter_sublist->Xn,sum_cons->Xq,findIdx?_eq_some_iff_getElem->Xv,reverse_cons->Xw,getElem?_set->Xx,getElem?_nil->Xy,any_eq_false->Xz,lookup_cons->XH,getElem_map->XI,length_zip->XU,take_succ->X8,perm_ext_iff_of_nodup->X9,getElem?_replicate->Yz,take_of_length_le->YD,getElem?_set_self->YE,dropLast_eq_take->YK,countP_mono_left->YL,mem_iff_getElem->YQ,getElem?_zipIdx->YR,getElem?_set_ne->YS,getElem?_range->YX,zip_cons_cons->Y4,mem_filterMap->Y5
open List.Pairwise renaming nil->Ya,map->Yb
open List.Perm renaming mem_iff->WC,refl->YY,cons->YZ
open List.cons renaming injEq->U7
open Nat renaming le_refl->Uk,lt_of_lt_of_le->Us,le_trans->Uu,ne_of_lt->Uv,pow_le_pow_right->UT,lt_irrefl->UY,zero_le->Va,le_add_right->Vv,testBit_lt_two_pow->VJ,lt_or_ge->VL,le_succ->VU,le_of_lt->V0,zero_add->Wh,ne_of_gt->Wi,le_of_not_lt->Wn,not_lt->Xg,eq_of_testBit_eq->Xl,lt_succ_of_lt->XF,testBit_and->X2,not_lt_zero->X3,testBit_or->Yk,min_self->YH,lt_trans->YI,le_of_eq->YJ
open Ne renaming symm->UN
open Option renaming join_some->UZ,map_eq_some_iff->Vc,map_some->Ve,isSome_map->Xt,isSome_iff_exists->X7
open Option.some renaming inj->U6
open PyProof.Rows renaming callWith_type1->UR,slot_tuple_getitem->U4,envOfC->Wg,sortedAll_old->Xs,sortedAll_at->Xu,IntsAre->XT
open PySem renaming mem_of_lookup->Vt,Within->Yu,call->YT,list_append->Y2
open PySem.Around renaming under_plainId->Xh
open PySem.Builtin renaming bitAnd->VQ,bitOr->Xi
open PySem.Builtin.Dict renaming updateFrom->XE,showsAll->XR
open PySem.Builtin.Int renaming intBits->Vo
open PySem.Builtin.Slice renaming slicePlaces->Wm,sliceAdjust->Xr
open PySem.Builtin.SmallTypes renaming nextOf->U5,ownedTupleIsFree->VI,ownedTupleHandOut->WH
open PySem.Builtin.Tuple renaming tupleTooMany->Xo,tupleItemsOf->Xp
open PySem.Calls renaming spliced_cons->VG,callWith_builtin->VH,evalArgs_plain->VR,spliced_nil->V9,Name_function_global->X1
open PySem.Expr renaming Call->Yy
open PySem.F renaming slot_dict_keyiterator_next->VP,slot_tuple_iterator_next->VY,slot_tuple_index->VZ,plainAttrs_list->V4,slot_tuple_mul->V7,slot_dict_pop->Wa,slot_list_getattribute->Wf,slot_list_pop->WG,args_tuple_mul_2->WO,args_tuple_add_2->WQ,entry_tuple_mul->WW,entry_tuple_add->WX,slot_tuple_add->W4,slot_zip_getattribute->Xf,slot_list_append->Xk,slot_NoneType_hash->XO,args_tuple_index_2->XQ,entry_tuple_index->XS,type_tuple_index->XZ,args_dict_keyiterator_next_1->X0,plainAttrs_dict->X4,entry_dict_keyiterator_next->X5,args_dict_pop_3->X6,entry_dict_pop->Yi,args_tuple_iterator_next_1->Yj,type_list_pop->Yn,type_dict_pop->Yo,slot_int_rmul->Yp,entry_tuple_iterator_next->Yq,slot_list_lt->Yx,slot_list_reverse->YC,slot_enumerate_next->Y3
open PySem.Heap renaming get?_push_of_some->Ua,lt_size->Ue,get?_push_size->Uh,size_push->Vg,SameBut->Vh,get?_update_self->Wj,ExtBut->WV,get?_update_other->Xc
open PySem.Heap.SameBut renaming update->UX
open PySem.MeetsSeq.EqGives renaming int->YO
open PySem.Obj renaming mapSeq->UU,data_mapFields->WN,isFreed_of_fields->YN
open PySem.Paired renaming length->VC
open PySem.SeqAt renaming EqAt->Xb,RcNeAt->Yv,RcAt->YW
open PySem.SeqAt.EqAt renaming str_none->Ye,none_str->Yf,none_int->Yg,int_none->Yh,str_int->Yl,int_str->Ym
open PySem.SeqAt.RcAt renaming lists_lengths->XG,tuples->Yw,lists->YB
open PySem.Str renaming ofString->WE,empty->XN
open PySem.Value renaming ref->UE,none->U8,type->WD,str->XC,int->XD,bool->YV
open PySem.W renaming Frag->Ug,findIn->U1,mg_none_of->U3,nsIn->Vp,keepIn->Vq,emptyDict->VX,kia_one->V3,plainGet->Ws,fnOf->Wt,hasDictIn->Ww,mg_of->WM,instObj->WR,plainOver->W5,makesIn->Xe,codeIn->XJ,callWith_K->XM,hideAll->XY,plainGet_of->YG,excIn->YU
open String renaming reduceBEq->W0
open Sum renaming inr->UL,inl->Vz
open True renaming intro->VS
open Bool renaming false->cp
open Option renaming some->ap,none->bb
open PyProof.Rows renaming IntsAre->re,seqObj->w6,AllBare->Uf,listUpdate_at->UF,subscriptTail_builtinR->aaw,listItems_at->aay
open PySem renaming wpAny_bind->ax,Value->ay,Shared->ca,Addr->cb,wpAny_pure->cx,starEach->eg,wpAny->ez,model->eC,mainGlobals->eH,Program->eS,bootBuiltins->eT,Expr->eX,wpAny_loadPart'->ff,eval->fv,World->fx,Around->fy,FuncData->f',backTo->g3,Heap->g4,binaryOp->hG,compareOp->hW,wpAny_mono->j0,wpAny_holding->kc,attributeBase->kr,wpAny_field->kB,wpAny_call_entry->kL,cLine->k6,sizeLine_eq->k',wpAny_setField_rec->mm,wpAny_Call_Name_kw->mo,assignEach->mu,foldedSetIterable->n7,Stmt->ol,sysModules->ot,call_meets->oD,wpAny_truthy_bool->pa,swapsWith->pb,Keyword->pt,wpAny_passesOwn->py,backToKw->p1,wpAny_attempt->p4,rawInt->p6,wpAny_newObj_type->p7,Scope->qa,holding->qb,codeAny_mono->q0,wpAny_execs_nil->rc,wpAny_seqItems->vr,wpAny_pyIter_list->vx,wpAny_newTuple->wh,pyNext->x9,wpAny_isInstance->yl,typeLookup->y1,wpAny_specialOf->y2,codeAny->y',getMethod->B',wpAny_rule->F',tupleKind_room_in1->G',getattributeRaised->J',wpAny_of_eq->K',standAt->L',sliceBounds->S',relabel->T_,checkBuiltinCall->UV,valueAt->U_,PlainAttrs->U',Paired->V_,letOwnedTupleGo->V',codeAny_builtin->Wp,isSubtype_stop->WF,Operator->WP,IsPart->W1,getItem->W_,wpAny_standAt->W',plainId_quiet->XV,checkTypeCall->X_,behindInMarks->Y_,typeOf->Y',stored->ZB,pyIter->ZZ,closureFor->Z0,wpAny_typeOf->Z1,getAttr?->Z2,entryFor->Z3,callerA->Z4,callWith->Z5,wpAny_pyIter_zip->Z6,wpAny_execs_cons->Z7,tupleKind->Z8,noFill_tuple_add->Z9,assign->Z_,DictEntry->Z',wpAny_typeNameOfWhole_keyiter->aaa,Meets->aab,IsZip->aac,BindsTo->aad,wpAny_setField->aae,wpAny_call->aaf,firstArgMember->aag,bindArgs->aah,argsOk->aaj,Result->aak,NameKind->aal,wpAny_newList->aam,wpAny_handled->aan,wpAny_comprehension_free->aao,seq_tuple_add->aap,seqIndex?->aar,PassesOwn->aas,wpAny_pyNext_list_item->aau,wpAny_Call_method_late->aav,seqIndex_neg->aax,concat_meets->aaB,callType_new->aaC,wpAny_pyNext_list_end->aaD,wpAny_isOneOf_keyiter->aaE,wpAny_loadName_local->aaF
abbrev aaT:=List (List Int)
abbrev aaU:=List Int
abbrev aaV:=List PySem.Str
abbrev aaW:=List ay
abbrev aaX:=List cb
abbrev aaY:=List eX
abbrev aaZ:=List ol
abbrev aa0:=ay->ca->Prop
abbrev aa1:=List (cb×PySem.Obj)
abbrev aa2:=PySem.Str->Option ay
abbrev aa3:=Array ay
set_option hygiene false in
local macro_rules|`(tactic|ac_rfl)=>`(tactic|(intro _ _ _ _ _ _;first|exact us1 λ_=>rfl|exact us2 λ_ _=>rfl|exact us3 λ_ _ _=>rfl|exact us4 λ_ _ _ _=>rfl|exact us5 λ_ _ _ _ _=>rfl|exact us6 λ_ _ _ _ _ _=>rfl|exact us7 λ_ _ _ _ _ _ _=>rfl|exact us8 λ_ _ _ _ _ _ _ _=>rfl))
set_option hygiene false in
local macro_rules|`(tactic|and_intros)=>`(tactic|(first|exact .inl rfl|exact .inr rfl|assumption))
local macro_rules|`(tactic|lia)=>`(tactic|first|(with_reducible first|assumption|exact Nat.le_add_right _ _|exact Nat.le_trans (by assumption) (by decide +kernel)|exact Nat.lt_of_le_of_lt (by assumption) (by decide +kernel)|exact Int.le_of_lt (by assumption))|decide +kernel|lia -abstractProof)
noncomputable section
open List renaming toArray->Tw
local macro_rules|`(#[$xs,*])=>`(⟨$xs,*⟩)
namespace _2
open PySem PySem.Spec PyProof.Rows
variable{a b f:cb}{A:fy}{X:Cx}{e:eX}{h:g4}{H:Hp}{ch:aaX}{N:aaV}{i:Nat}{P:eS}{r:R2}{m x:Str}{K:Ug}{w:fx}
abbrev aC:=Sum Int Str
noncomputable def oF:aC->ay->Bool
 |.inl k,v=>Value.isInt k v
 |.inr x,v=>Value.isStrOf x v
noncomputable def TM(w:fx):aC->Int
 |.inl k=>hashInt k
 |.inr x=>hashStr w x
theorem aY:∀{k:aC}{v:ay},oF k v=true->(∃i t,k=Vz i/\v=XD i t)\/(∃x t,k=UL x/\v=XC x t)
 |.inl i,v,h=>by
  obtain⟨t,e⟩:=Value.isInt_shape h;exact .inl #[i,t,rfl,e]
 |.inr x,v,h=>by
  obtain⟨t,e⟩:=Value.isStrOf_shape h;exact .inr #[x,t,rfl,e]
theorem CK(i:Int)(t:Tok):oF (.inl i) (.int i t)=true:=by simp[oF,Value.isInt]
theorem D7(x:Str)(t:Tok):oF (.inr x) (.str x t)=true:=by simp[oF,Value.isStrOf]
theorem Ql(a b:Int):decide ((Vz a:aC)=Vz b)=(a==b):=by
 by_cases e:a=b
 .subst e;simp
 simp_all
theorem OL(a b:Str):decide ((UL a:aC)=UL b)=decide (a=b):=by
 simp_all
theorem QF(a:Int)(b:Str):decide ((Vz a:aC)=UL b)=false:=decide_eq_false (λq=>nomatch q)
theorem QA(a:Str)(b:Int):decide ((UL a:aC)=Vz b)=false:=decide_eq_false (λq=>nomatch q)
def aT(prog:eS)(w:fx):PySem.KeyKind prog w aC where
 is:=oF
 hash:=TM w
 inj:=λv a b q l=>by
  rcases aY q with⟨i,t,rfl,rfl⟩|⟨x,t,rfl,rfl⟩
  .rcases aY l with⟨j,u,rfl,e⟩|⟨y,u,rfl,e⟩
   .injection e with e1 _;rw[e1]
   .exact nomatch e
  .rcases aY l with⟨j,u,rfl,e⟩|⟨y,u,rfl,e⟩
   .exact nomatch e
   .injection e with e1 _;rw[e1]
 byValue:=λk v h=>by
  rcases aY h with⟨i,t,rfl,rfl⟩|⟨x,t,rfl,rfl⟩<;>rfl
 pyHash:=λg h=>by
  rcases aY g with⟨i,t,rfl,rfl⟩|⟨x,t,rfl,rfl⟩
  .exact wpAny_pyHash_int h
  .exact wpAny_pyHash_str h
 eqBool:=λn g h=>by
  rcases aY n with⟨i,t,rfl,rfl⟩|⟨x,t,rfl,rfl⟩
  .rcases aY g with⟨j,u,rfl,rfl⟩|⟨y,u,rfl,rfl⟩
   .rw[Ql]at h;exact wpAny_eqBool_int h
   .rw[QF]at h;exact Ym i t y u _ _ _ _ h
  .rcases aY g with⟨j,u,rfl,rfl⟩|⟨y,u,rfl,rfl⟩
   .rw[QA]at h;exact Yl x t j u _ _ _ _ h
   .rw[OL]at h;exact wpAny_eqBool_str h
 «strs»:=λk x t v h=>by
  rcases aY h with⟨i,u,rfl,e⟩|⟨y,u,rfl,e⟩
  .exact nomatch e
  .injection e with e1 _
   subst e1;cases v<;>rfl
theorem vC(g:eS)(w:fx)(i:Int)(t:Tok):(aT g w).is (.inl i) (.int i t)=true:=CK i t
theorem wb(g:eS)(w:fx)(x:Str)(t:Tok):(aT g w).is (.inr x) (.str x t)=true:=D7 x t
inductive V where
 |non|bl (b:Bool)|int (i:Int)|str (x:Str)|byt (b:Array UInt8)|flt (b:UInt64)|ref (a:cb)|ty (n:String)
 deriving DecidableEq
def RelV:V->ay->Prop
 |.non,u=>u=U8
 |.bl b,u=>u=YV b
 |.int i,u=>∃t,u=XD i t
 |.str x,u=>∃t,u=XC x t
 |.byt b,u=>∃t,u=Value.bytes b t
 |.flt b,u=>∃t,u=Value.float b t
 |.ref a,u=>u=UE a
 |.ty n,u=>u=WD n
abbrev Vals:List V->List ay->Prop:=V_ RelV
theorem Vals.length(r:Vals xs us):xs.length=us.length:=VC r
theorem Vals.get:∀{xs:List V}{us:aaW}{i:Nat}{x:V},Vals xs us->xs[i]?=ap x->∃u,us[i]?=ap u/\RelV x u
 |_,_,_,_,.nil,e=>by simp at e
 |_,_,0,_,.cons r _,e=>by simp_all
 |_,_,i+1,x,.cons _ t,e=>by
  obtain⟨u,j,g⟩:=Vals.get t (by simpa using e)
  simp_all
theorem Vals.set{x:V}(r:RelV x u):∀{xs:List V}{us:aaW}(i:Nat),Vals xs us->Vals (xs.set i x) (us.set i u)
 |_,_,_,.nil=>.nil
 |_,_,0,.cons _ t=>.cons r t
 |_,_,i+1,.cons q t=>.cons q (Vals.set r i t)
theorem Vals.append:∀{xs ys:List V}{us g:aaW},Vals xs us->Vals ys g->Vals (xs++ys) (us++g):=by
 intro xs ys us g h s
 induction h with
 |nil=>exact s
 |cons r _ ih=>exact .cons r ih
theorem Vals.take:∀{xs:List V}{us:aaW}(n:Nat),Vals xs us->Vals (xs.take n) (us.take n)
 |_,_,0,_=>.nil
 |_,_,_+1,.nil=>.nil
 |_,_,n+1,.cons r t=>.cons r (Vals.take n t)
theorem Vals.drop:∀{xs:List V}{us:aaW}(n:Nat),Vals xs us->Vals (xs.drop n) (us.drop n)
 |_,_,0,r=>r
 |_,_,_+1,.nil=>.nil
 |_,_,n+1,.cons _ t=>Vals.drop n t
def RelO:Option V->Option ay->Prop
 |some v,ap u=>RelV v u
 |none,bb=>True
 |_,_=>False
def KV{κ:Type}:List (κ×V)->List (κ×ay)->Prop:=V_ λ(p:κ×V)(q:κ×ay)=>p.1=q.1/\RelV p.2 q.2
def kV:aC->V
 |.inl i=>.int i
 |.inr x=>.str x
inductive HO where
  |lst (xs:List V)
  |tup (xs:List V)
  |dK (aaN:List (aC×V))|dT (aaN:List (List aC×V))
  |set (S:Int->Bool) (n:Nat)
  |ins (C dx:cb) (fs:List (Str×V))
  |own (x:cb)
  |xd (fs:List (Str×V))
  |met (f x:cb)
  |rng (lo hi:Int)
  |frz (o:Obj) (u:HO)
  |tbl (ps:aa3)
  |ext (φ:g4->Prop)
abbrev Hp:=cb->Option HO
noncomputable def upd(H:Hp)(a:cb)(o:HO):Hp:=λb=>if b=a then ap o else H b
theorem upd_same:upd H a o a=ap o:=by unfold upd;simp_all
theorem aw(h:b≠a):upd H a o b=H b:=by unfold upd;rw[if_neg h]
theorem SW(h:H a=ap o)(h':H b=ap u)(d:o≠u):a≠b:=by
 intro e;subst e;rw[h]at h';exact d (U6 h')
theorem aX(h:H a=ap o)(h':H b=bb):a≠b:=by
 intro e;simp_all
section
variable(P:eS)(w:fx)
def ObjOk(H:Hp)(h:g4)(a:cb):HO->Prop
 |.lst xs=>xs.length<=sizeLine/\∃(aaR:aaW)(n:Nat),Vals xs aaR/\h.get? a=ap { cls:=.type "list",data:=.seq aaR.toArray n }
 |.tup xs=>xs.length<=sizeLine/\∃aaR:List ay,Vals xs aaR/\∃o,h.get? a=ap o/\(o.cls=.type "tuple"/\∃n,o.data=.seq aaR.toArray n)/\o.dict=bb
 |.dK aaN=>aaN.length<=sizeLine/\(a==ot)=cp/\∃vs,KV aaN vs/\h.DictOf (aT P w) a vs
 |.dT aaN=>aaN.length<=sizeLine/\(a==ot)=cp/\∃xs:List (List aC×cb×ay),
   V_ (λ(p:List aC×V)(q:List aC×cb×ay)=>p.1=q.1/\H q.2.1=ap (.tup<|p.1.map kV)/\RelV p.2 q.2.2) aaN xs/\
   ∃o es ep,h.get? a=ap o/\o.ExactDict/\o.data=.dict es ep/\es.toList=xs.map (entryOfKey<|tupleKind<|aT P w)/\(xs.map (·.1)).Nodup
 |.set S n=>h.SetOf (intKind P w) a S n
 |.ins C dx fs=>H dx=ap (.own a)/\fs.length<=1000/\dx≠a/\h.get? a=ap (WR C dx)/\
   ∃mA,h.Ns1 dx mA/\(∀f,RelO (fs.lookup f) (mA f))/\Yu mA (fs.map (·.1))
 |.own _=>∃o,h.get? a=ap o
 |.xd fs=>∃mA,h.Ns1 a mA/\∀f,RelO (fs.lookup f) (mA f)
 |.rng lo hi=>∃t u v,h.get? a=ap { cls:=.type "range",data:=.fields (Tw [.int lo t,.int hi u,.int 1 v]) }
 |.frz o u=>h.get? a=ap o/\ObjOk H h a u
 |.tbl ps=>h.get? a=ap { cls:=.none,data:=.fields ps }
 |.met f x=>h.get? a=ap (W.methodObj (.ref f)<|.ref x)
 |.ext φ=>φ h/\(∃o,h.get? a=ap o)/\∀h1 h2:g4,φ h1->(∀o,h1.get? a=ap o->h2.get? a=ap o)->φ h2
def HOk(H:Hp)(h:g4):Prop:=∀a o,H a=ap o->ObjOk P w H h a o
end
theorem ObjOk.lt(x:ObjOk P w H h a o):a<h.objs.size:=by
 cases o with
 |lst xs=>obtain⟨_,_,_,_,e⟩:=x;exact Ue e
 |tup xs=>obtain⟨_,_,_,_,e,_⟩:=x;exact Ue e
 |dK aaN=>obtain⟨_,_,_,_,o,_,_,e,_⟩:=x;exact Ue e
 |dT aaN=>obtain⟨_,_,_,_,o,_,_,e,_⟩:=x;exact Ue e
 |set S n=>obtain⟨o,_,_,_,e,_⟩:=x;exact Ue e
 |ins C dx fs=>obtain⟨_,_,_,e,_⟩:=x;exact Ue e
 |own y=>obtain⟨_,e⟩:=x;exact Ue e
 |xd fs=>obtain⟨_,⟨_,_,_,e,_⟩,_⟩:=x;exact Ue e
 |rng lo hi=>obtain⟨_,_,_,e⟩:=x;exact Ue e
 |frz ob u=>obtain⟨e,_⟩:=x;exact Ue e
 |tbl ps=>exact Ue x
 |met f y=>exact Ue x
 |ext φ=>obtain⟨_,⟨_,e⟩,_⟩:=x;exact Ue e
theorem gQ:∀{j:List α}{g:List l},V_ F j g->(∀a b,F a b->G a b)->V_ G j g:=by
 intro j g h f
 induction h with
 |nil=>exact .nil
 |cons r _ ih=>exact .cons (f _ _ r) ih
theorem ObjOk.stay(x:ObjOk P w H h a o)(k:∀b u,(b=a\/H b=ap (.own a))->h.get? b=ap u->h'.get? b=ap u)(J:∀b,H b=ap (.own a)->H' b=ap (.own a))(L:∀b xs,H b=ap (.tup xs)->H' b=ap (.tup xs)):ObjOk P w H' h' a o:=by
 induction o with
 |lst xs=>obtain⟨z,l,n,r,e⟩:=x;exact#[z,l,n,r,k _ _ (.inl rfl) e]
 |tup xs=>obtain⟨z,l,r,g,e,c⟩:=x;exact#[z,l,r,g,k _ _ (.inl rfl) e,c]
 |dK aaN=>obtain⟨z,y,I,r,g,es,j,e,c⟩:=x;exact#[z,y,I,r,g,es,j,k _ _ (.inl rfl) e,c]
 |dT aaN=>
  obtain⟨z,y,xs,r,g,es,j,e,c⟩:=x;exact#[z,y,xs,gQ r λp q z=>#[z.1,L _ _ z.2.1,z.2.2],g,es,j,k _ _ (.inl rfl) e,c]
 |set S n=>obtain⟨g,es,j,t,e,c⟩:=x;exact#[g,es,j,t,k _ _ (.inl rfl) e,c]
 |ins C dx fs=>
  obtain⟨d,z,ne,e,mA,⟨B,es,j,G,c⟩,r⟩:=x;exact#[J _ d,z,ne,k _ _ (.inl rfl) e,mA,#[B,es,j,k _ _ (.inr d) G,c],r]
 |own y=>obtain⟨g,e⟩:=x;exact#[g,k _ _ (.inl rfl) e]
 |xd fs=>obtain⟨mA,⟨B,es,j,e,c⟩,r⟩:=x;exact#[mA,#[B,es,j,k _ _ (.inl rfl) e,c],r]
 |rng lo hi=>obtain⟨t,u,v,e⟩:=x;exact#[t,u,v,k _ _ (.inl rfl) e]
 |frz g u ih=>obtain⟨e,q⟩:=x;exact#[k _ _ (.inl rfl) e,ih q]
 |tbl ps=>
  have e:h.get? a=ap { cls:=.none,data:=.fields ps }:=x;show h'.get? a=ap { cls:=.none,data:=.fields ps };exact k a _ (.inl rfl) e
 |met f y=>
  have e:h.get? a=ap (W.methodObj (.ref f)<|.ref y):=x;show h'.get? a=ap (W.methodObj (.ref f)<|.ref y);exact k a _ (.inl rfl) e
 |ext φ=>obtain⟨p,⟨o,e⟩,F⟩:=x;exact#[F _ _ p λo q=>k _ _ (.inl rfl) q,#[o,k _ _ (.inl rfl) e],F]
theorem HOk.lt(x:HOk P w H h)(e:H a=ap o):a<h.objs.size:=(x a o e).lt
theorem HOk.fresh(x:HOk P w H h)(e:h.objs.size<=a):H a=none:=by
 cases q:H a with
 |none=>rfl
 |some u=>exact absurd (Us (x.lt q) e) (UY _)
theorem HOk.kept(x:HOk P w H h)(k:∀b u,h.get? b=ap u->h'.get? b=ap u):HOk P w H h':=λa o e=>
 (x a o e).stay (λb u _ q=>k b u q) (λ_ q=>q) λ_ _ q=>q
theorem HOk.laid(x:HOk P w H h)(k:∀b u,h.get? b=ap u->h'.get? b=ap u)(l:h.objs.size<=a)(new:ObjOk P w (upd H a o) h' a o):HOk P w (upd H a o) h':=λb u e=>by
 have j:=x.fresh l
 by_cases g:b=a
 .subst g;rw[upd_same]at e;cases e;exact new
 .rw[aw g]at e
  exact(x b u e).stay (λc v _ q=>k c v q) (λc q=>by rw[aw (aX q j)];exact q) λc n q=>by rw[aw (aX q j)];exact q
def Rd(H:Hp)(a:cb)(u:HO):Prop:=H a=ap u\/∃o,H a=ap (.frz o u)
theorem Rd.ok(r:Rd H a u)(x:HOk P w H h):ObjOk P w H h a u:=by
 rcases r with r|⟨o,r⟩
 .exact x a u r
 obtain⟨_,q⟩:=x a _ r;exact q
def Sn:Option HO->Prop
 |some (.lst _)=>True
 |some (.dK _)=>True
 |some (.dT _)=>True
 |some (.set _ _)=>True
 |some (.ins _ _ _)=>True
 |some (.ext _)=>True
 |_=>False
section
variable{x e:cb}
theorem HOk.write(ok:HOk P w H h)(F:Sn (H x))(J:e=x\/H e=ap (.own x))(k:∀b u,b≠e->h.get? b=ap u->h'.get? b=ap u)(G:∃u,h'.get? e=ap u)(new:ObjOk P w (upd H x o') h' x o'):HOk P w (upd H x o') h':=λb u q=>by
 have j:∀c y,H c=ap (.own y)->c≠x:=λc y r z=>by subst z;rw[r]at F;exact F
 have l:∀c B,H c=ap (.tup B)->c≠x:=λc B r z=>by subst z;rw[r]at F;exact F
 by_cases n:b=x
 .subst n;rw[upd_same]at q;cases q;exact new
 .rw[aw n]at q
  by_cases g:b=e
  .have I:H b=ap (.own x):=by
    rcases J with z|z
    .exact absurd (g.trans z) n
    .rw[g];exact z
   rw[q]at I;cases I;obtain⟨v,L⟩:=G;exact#[v,by rw[g];exact L]
  .refine (ok b u q).stay (λc v hc r=>k c v ?_ r) (λc r=>by rw[aw (j c b r)];exact r) λc B r=>by rw[aw (l c B r)];exact r
   rcases hc with rfl|hc
   .exact g
   .rintro rfl
    rcases J with z|z
    .exact j c b hc z
    .rw[hc]at z;cases z;exact n rfl
end
structure Un(fs ex:aaX)(H H':Hp)(h h':g4):Prop where
 keep:∀b o,h.get? b=ap o->H b=bb->b∉fs->b∉ex->h'.get? b=ap o
 slot:∀b o,h.get? b=ap o->H b=bb->b∈fs->b∉ex->∃sl,h'.get? b=ap { o with slots:=sl }
 free:∀b o,h.get? b=ap o->H b=bb->b∉ex->H' b=bb
 there:∀b o,h.get? b=ap o->b∉ex->∃o',h'.get? b=ap o'
 tups:∀b xs,H b=ap (.tup xs)->H' b=ap (.tup xs)
 frzs:∀b o u,H b=ap (.frz o u)->H' b=ap (.frz o u)
 tbls:∀b ps,H b=ap (.tbl ps)->∃more,H' b=ap (.tbl (ps++more))
section
variable{x e:cb}
theorem Un.any(u:Un fs ex H H1 h h1)(q:h.get? b=ap g)(n:H b=bb)(l:b∉ex):∃v,h1.get? b=ap { g with slots:=v }:=by
 by_cases j:b∈fs
 .exact u.slot b g q n j l
 exact#[_,u.keep b g q n j l]
theorem Un.kept(k:∀b u,h.get? b=ap u->h'.get? b=ap u):Un fs ex H H h h':=
 #[λb g q _ _ _=>k b g q,λb g q _ _ _=>#[_,k b g q],λ_ _ _ n _=>n,λb g q _=>#[g,k b g q],λ_ _ q=>q,λ_ _ _ q=>q,λ_ ps q=>#[(Tw []),by rw[q];simp]]
theorem Un.refl:Un fs ex H H h h:=Un.kept λ_ _ q=>q
theorem Un.laid(k:∀b u,h.get? b=ap u->h'.get? b=ap u)(l:h.objs.size<=a)(g:H a=bb):Un fs ex H (upd H a o) h h' where
 keep:=λb u q _ _ _=>k b u q
 slot:=λb u q _ _ _=>#[_,k b u q]
 free:=λb u q n _=>by rw[aw (Uv<|Us (Ue q) l)];exact n
 there:=λb u q _=>#[u,k b u q]
 tups:=λb j q=>by rw[aw (aX q g)];exact q
 frzs:=λb u j q=>by rw[aw (aX q g)];exact q
 tbls:=λb ps q=>#[(Tw []),by rw[aw (aX q g),q];simp]
theorem Un.write(v:Sn (H x))(G:e=x\/H e=ap (.own x))(k:∀b u,b≠e->h.get? b=ap u->h'.get? b=ap u)(F:∃u,h'.get? e=ap u):Un fs ex H (upd H x o) h h':=by
 have y:∀b,H b=bb->b≠x:=λb n z=>by subst z;rw[n]at v;exact v
 have l:∀b,H b=bb->b≠e:=λb n z=>by
  simp_all
 have g:∀b u,H b=ap u->¬Sn (ap u)->b≠x:=λb u q nm z=>by simp_all
 refine#[λb u q n _ _=>k b u (l b n) q,λb u q n _ _=>#[_,k b u (l b n) q],λb u q n _=>by rw[aw (y b n)];exact n,λb u q _=>?_,
  λb B q=>by rw[aw (g b _ q λz=>z)];exact q,λb u B q=>by rw[aw (g b _ q λz=>z)];exact q,λb ps q=>#[(Tw []),by rw[aw (g b _ q λz=>z),q];simp]]
 by_cases j:b=e
 .simp_all
 exact#[u,k b u j q]
end
noncomputable def trk(h:g4)(H:Hp):List Addr:=(Ut h.objs.size).filter λa=>(H a).isSome
def sv(h:g4)(H:Hp):Heap:=XY h (trk h H)
theorem De(h:g4)(H:Hp):(sv h H).objs.size=h.objs.size:=W.hideAll_size _ _
theorem FU(e:h.get? b=ap o)(n:H b=bb):(sv h H).get? b=ap o:=
 W.hideAll_get _ e λg=>by
  have q:=(Ur.mp g).2
  simp_all
theorem JV(e:(sv h H).get? b=ap o):h.get? b=ap o/\H b=none:=by
 have g:=W.of_hideAll _ e;refine#[g,?_];cases q:H b with
 |none=>rfl
 |some x=>
  have j:b∈trk h H:=Ur.mpr #[UJ.mpr (Ue g),by simp[q]]
  have z:(sv h H).get? b=none:=W.hideAll_none _ j
  simp_all
structure Mod(K:Ug)(mg:aa2)(base:g4):Prop where
 kin:K.In base
 glob:base.Ns eH mg
 blt:∃mb,base.Ns builtinsNs mb/\∀x:Str,x≠"__name__"->mb x=eT x
 nolimit:base.NoLimit
structure Cx where
 prog:eS
 w:fx
 K:Ug
 mg:Str->Option ay
 base:g4
 A:fy
 N:List Str
 s₀:ca
 H₀:Hp
 env:Env
 outer:List Env
 stack:List Env
 ex:List cb
 fn:Str->Bool
 calm:Bool
 pn:List (cb×Obj)
 xe:ay->ca->Prop
noncomputable def iM(l:List Env):List Addr:=l.filterMap (·.frame)
abbrev Cx.fs(X:Cx):List Addr:=iM X.outer
def QU(sc:qa)(x:Str):Prop:=sc.names.lookup x=ap .local\/sc.names.lookup x=ap .cell\/sc.names.lookup x=ap .free
def DR(sc:qa)(x:Str):Prop:=sc.names.lookup x=ap .local\/sc.names.lookup x=ap .cell
def Look(env:Env)(h:g4)(m:aa2)(x:Str)(u:ay):Prop:=
 (env.kindOf x=ap .local/\m x=ap u)\/((env.kindOf x=ap .cell\/env.kindOf x=ap .free)/\∃c,env.cells.lookup x=ap c/\h.IsCell c (ap u))
structure Cx.Ok(X:Cx):Prop where
 mod:Mod X.K X.mg X.base
 kind:X.env.scope.kind=.function
 glob:X.env.globals=eH
 blt:X.env.builtins=builtinsNs
 above:X.s₀.heap.objs.size<=X.env.locals
 inj:∀x y c,X.env.cells.lookup x=ap c->X.env.cells.lookup y=ap c->x=y
 has:∀x,(X.env.kindOf x=ap .cell\/X.env.kindOf x=ap .free)->∃c,X.env.cells.lookup x=ap c
 cab:∀x c,X.fn x=true->X.env.cells.lookup x=ap c->X.s₀.heap.objs.size<=c
 hd:X.calm=true->X.A.handled=bb
 frames:X.A.frames=ap X.stack
 stk:X.stack=X.outer\/(X.stack=X.env::X.outer/\X.env.frame=ap X.env.locals)
 exf:∀b∈X.ex,b≠X.env.locals/\∀x c,X.env.cells.lookup x=ap c->c≠b
 bs:∀b o,X.base.get? b=ap o->X.s₀.heap.get? b=ap o/\X.H₀ b=bb
 bsz:X.base.objs.size<=X.s₀.heap.objs.size
 noex:∀b o,X.base.get? b=ap o->b∉X.ex
 exfs:∀b∈X.ex,b∉X.fs
 funs:X.s₀.heap.FunFrames X.base X.outer
 frf:∀b∈X.fs,X.H₀ b=bb
structure Inv(X:Cx)(aaL:aa1)(Z:List (Option V))(H:Hp)(s:ca):Prop where
 ok:X.Ok
 os:s.os=X.s₀.os
 bare:Uf s.gens
 base:Un X.fs X.ex X.H₀ H X.s₀.heap s.heap
 loc:∃m,s.heap.Ns X.env.locals m/\∀(i:Nat)(x:Str)(v:V),X.N[i]?=ap x->Z[i]?=ap (ap v)->QU X.env.scope x->∃u,RelV v u/\Look X.env s.heap m x u
 cell:∀x c,X.env.cells.lookup x=ap c->∃v,s.heap.IsCell c v
 free:H X.env.locals=bb
 freeC:∀x c,X.env.cells.lookup x=ap c->H c=bb
 pin:∀p∈X.pn++aaL,s.heap.get? p.1=ap p.2/\H p.1=bb/\p.1≠X.env.locals/\p.1∉X.fs/\∀v,p.2.data≠.cell v
 hok:HOk X.prog X.w H s.heap
 len:Z.length=X.N.length
theorem Cx.Ok.nofr(ok:X.Ok)(e:X.base.get? b=ap o):b∉X.fs:=λg=>by
 have:=(ok.funs.mem g).1
 simp_all
theorem Inv.bs(I:Inv X aaL Z H s):∀b o,X.base.get? b=ap o->s.heap.get? b=ap o/\H b=none:=λb o e=>
 #[I.base.keep b o (I.ok.bs b o e).1 (I.ok.bs b o e).2 (I.ok.nofr e) (I.ok.noex b o e),I.base.free b o (I.ok.bs b o e).1 (I.ok.bs b o e).2<|I.ok.noex b o e]
theorem Inv.bk(I:Inv X aaL Z H s):∀b o,X.base.get? b=ap o->s.heap.get? b=ap o:=λb o e=>(I.bs b o e).1
theorem Inv.mod(I:Inv X aaL Z H s):Mod X.K X.mg X.base:=I.ok.mod
theorem Inv.kIn(I:Inv X aaL Z H s):X.K.In s.heap:=I.ok.mod.kin.keeps I.bk
theorem Inv.lt(I:Inv X aaL Z H s):X.env.locals<s.heap.objs.size:=let ⟨_,hn,_⟩:=I.loc;hn.lt
theorem Inv.sz(I:Inv X aaL Z H s):X.s₀.heap.objs.size<=s.heap.objs.size:=Uu I.ok.above (V0 I.lt)
theorem Inv.nofs(I:Inv X aaL Z H s)(h:s.heap.objs.size<=a):a∉X.fs:=λg=>by
 obtain⟨_,o,j,_⟩:=I.ok.funs.mem g;exact absurd (Us (Ue j)<|Uu I.sz h) (UY _)
theorem Inv.cne(I:Inv X aaL Z H s):∀x c,X.env.cells.lookup x=ap c->c≠X.env.locals:=λx c e z=>by
 obtain⟨v,o,y,q⟩:=I.cell x c e;obtain⟨m,⟨n,es,l,j,g,_⟩,_⟩:=I.loc
 simp_all
theorem Inv.funs(I:Inv X aaL Z H s):s.heap.FunFrames X.base X.outer:=by
 have all:∀(l:List _),(∀b∈iM l,b∈X.fs)->X.s₀.heap.FunFrames X.base l->s.heap.FunFrames X.base l:=by
  intro l
  induction l with
  |nil=>intro _ _;trivial
  |cons env r ih=>
   rintro q ⟨B,⟨L,o,j,F,G,v⟩,y⟩
   have g:=q L (by unfold iM;rw[V2,j];exact Uw)
   obtain⟨J,e⟩:=I.base.slot L o G (I.ok.frf L g) g λz=>I.ok.exfs L z g;exact#[B,#[L,_,j,F,e,v],ih (λb n=>q b (by unfold iM;rw[V2,j];exact Ui _ n)) y]
 exact all _ (λ_ n=>n) I.ok.funs
theorem Inv.stack(I:Inv X aaL Z H s):s.heap.FunFrames X.base X.stack:=by
 rcases I.ok.stk with e|⟨e,hf⟩
 .rw[e];exact I.funs
 .rw[e]
  obtain⟨m,g,_⟩:=I.loc;refine .cons (by rw[I.ok.kind];decide) hf g ?_ I.funs
  exact Heap.get?_none_of_le (Uu I.ok.bsz I.ok.above)
theorem Inv.stkSub(I:Inv X aaL Z H s):∀b∈iM X.stack,b∈X.env.locals::X.fs:=λb g=>by
 rcases I.ok.stk with e|⟨e,hf⟩
 .rw[e]at g;exact Ui _ g
 rw[e]at g;unfold iM at g;rw[V2,hf]at g;exact g
theorem Inv.stkFree(I:Inv X aaL Z H s):∀b∈iM X.stack,H b=none:=λb hb=>by
 rcases Uj.mp (I.stkSub b hb) with e|hb
 .rw[e];exact I.free
 obtain⟨_,o,g,_⟩:=I.ok.funs.mem hb;exact I.base.free b o g (I.ok.frf b hb) λz=>I.ok.exfs b z hb
theorem Inv.step(I:Inv X aaL Z H s)(B:∀b∈ch,(b∈X.ex\/X.s₀.heap.objs.size<=b)/\b≠X.env.locals/\(∀x c,X.env.cells.lookup x=ap c->c≠b)/\∀p∈X.pn++aaL,p.1≠b)(keep:∀b o,b≠X.env.locals->b∉X.fs->b∉ch->s.heap.get? b=ap o->H b=bb->h'.get? b=ap o)(slot:∀b o,b≠X.env.locals->b∈X.fs->b∉ch->s.heap.get? b=ap o->H b=bb->∃Y,h'.get? b=ap { o with slots:=Y })(free:∀b o,b∉ch->s.heap.get? b=ap o->H b=bb->H' b=bb)(there:∀b o,b∉ch->s.heap.get? b=ap o->∃T,h'.get? b=ap T)(tups:∀b J,H b=ap (.tup J)->H' b=ap (.tup J))(frzs:∀b o u,H b=ap (.frz o u)->H' b=ap (.frz o u))(tbls:∀b ps,H b=ap (.tbl ps)->∃more,H' b=ap (.tbl (ps++more)))(ns:∀m,s.heap.Ns X.env.locals m->h'.Ns X.env.locals m)(hok:HOk X.prog X.w H' h')(hg:Uf g'):
  Inv X aaL Z H' { s with heap:=h',gens:=g',drawn:=d',toks:=t' }:=by
 have S:∀b o,X.s₀.heap.get? b=ap o->b≠X.env.locals:=λb o e=>Uv (Us (Ue e) I.ok.above);have G:∀b o,X.s₀.heap.get? b=ap o->b∉X.ex->b∉ch:=λb o e g L=>by
  rcases (B b L).1 with z|z
  .exact g z
  .exact absurd (Us (Ue e) z) (UY _)
 have y:∀x c,X.env.cells.lookup x=ap c->∀v,s.heap.IsCell c v->h'.IsCell c v:=λx c e v ⟨o,O,U⟩=>by
  have j:c∉ch:=λz=>(B c z).2.2.1 x c e rfl
  by_cases hc:c∈X.fs
  .obtain⟨Y,q⟩:=slot c o (I.cne x c e) hc j O (I.freeC x c e)
   exact#[_,q,U]
  .exact#[o,keep c o (I.cne x c e) hc j O (I.freeC x c e),U]
 refine#[I.ok,I.os,hg,#[λb o e n L g=>?_,λb o e n L g=>?_,λb o e n g=>?_,λb o e g=>?_,λb J e=>tups b J (I.base.tups b J e),λb o J e=>frzs b o J (I.base.frzs b o J e),λb ps e=>?_],?_,λx c e=>?_,?_,λx c e=>?_,λp hp=>?_,hok,I.len]
 .exact keep b o (S b o e) L (G b o e g) (I.base.keep b o e n L g) (I.base.free b o e n g)
 .obtain⟨Y,F⟩:=I.base.slot b o e n L g
  obtain⟨W,R⟩:=slot b _ (S b o e) L (G b o e g) F (I.base.free b o e n g);exact#[W,R]
 .obtain⟨T,F⟩:=I.base.there b o e g
  exact free b T (G b o e g) F (I.base.free b o e n g)
 .obtain⟨T,F⟩:=I.base.there b o e g
  exact there b T (G b o e g) F
 .obtain⟨m1,F⟩:=I.base.tbls b ps e
  obtain⟨m2,R⟩:=tbls b _ F;exact#[m1++m2,by rw[R,Y1]]
 .obtain⟨m,hn,hl⟩:=I.loc
  refine#[m,ns m hn,λi x v F R e3=>?_];obtain⟨u,r,l⟩:=hl i x v F R e3;refine#[u,r,?_];rcases l with l|⟨k,c,e,z⟩
  .exact .inl l
  .exact .inr #[k,c,e,y x c e _ z]
 .obtain⟨v,z⟩:=I.cell x c e
  exact#[v,y x c e v z]
 .obtain⟨m,⟨o,_,_,O,_⟩,_⟩:=I.loc
  exact free _ o (λz=>(B _ z).2.1 rfl) O I.free
 .obtain⟨v,o,O,U⟩:=I.cell x c e
  exact free c o (λz=>(B c z).2.2.1 x c e rfl) O (I.freeC x c e)
 .obtain⟨e,n,ne,nf,d⟩:=I.pin p hp
  have j:p.1∉ch:=λz=>(B p.1 z).2.2.2 p hp rfl;exact#[keep p.1 p.2 ne nf j e n,free p.1 p.2 j e n,ne,nf,d]
theorem Inv.un(I:Inv X aaL Z H s)(u:Un X.fs [] H H' s.heap h')(v:HOk X.prog X.w H' h'):Inv X aaL Z H' { s with heap:=h',toks:=t' }:=by
 obtain⟨m,⟨o,es,O,y,r⟩,_⟩:=id I.loc;obtain⟨L,F⟩:=u.any y I.free (by simp)
 exact I.step (g':=s.gens) (d':=s.drawn) (ch:=[]) (λ_ z=>nomatch z) (λb o _ l _ e n=>u.keep b o e n l (by simp)) (λb o _ l _ e n=>u.slot b o e n l (by simp)) (λb o _ e n=>u.free b o e n (by simp)) (λb o _ e=>u.there b o e (by simp)) u.tups u.frzs u.tbls (λR G=>by
  obtain⟨J,j,q,g,B⟩:=G;rw[y]at g;cases g;exact#[_,j,q,F,B]) v I.bare
theorem Inv.call(I:Inv X aaL Z H s)(u:Un (iM X.stack) ch H H' s.heap h')(B:HOk X.prog X.w H' h')(O:Uf g')(l:∀b∈ch,(b∈X.ex\/X.s₀.heap.objs.size<=b)/\b≠X.env.locals/\(∀x c,X.env.cells.lookup x=ap c->c≠b)/\∀p∈X.pn++aaL,p.1≠b):
  Inv X aaL Z H' { s with heap:=h',gens:=g',drawn:=d',toks:=t' }:=by
 obtain⟨m,⟨o,es,T,F,r⟩,_⟩:=id I.loc;obtain⟨S,v⟩:=u.any F I.free λz=>(l _ z).2.1 rfl;exact I.step (ch:=ch) l (λb o v L g e n=>u.keep b o e n (λz=>(Uj.mp<|I.stkSub b z).elim v L) g) (λb o _ _ g e n=>u.any e n g) (λb o g e n=>u.free b o e n g) (λb o g e=>u.there b o e g) u.tups u.frzs u.tbls (λU J=>by
  obtain⟨R,q,y,j,G⟩:=J;rw[F]at j;cases j;exact#[_,q,y,v,G]) B O
theorem Inv.turned(I:Inv X aaL Z H s)(k:∀b o,b≠g->s.heap.get? b=ap o->h'.get? b=ap o)(O:H g=bb)(y:g≠X.env.locals)(S:g∈X.ex\/X.s₀.heap.objs.size<=g)(L:∀x c,X.env.cells.lookup x=ap c->c≠g)(R:∀p∈X.pn++aaL,p.1≠g):Inv X aaL Z H { s with heap:=h',toks:=t' }:=by
 have l:∀b u,H b=ap u->b≠g:=λb u e z=>by rw[z,O]at e;cases e
 refine I.step (g':=s.gens) (d':=s.drawn) (ch:=[g]) (λb G=>?_) (λb o _ _ j e _=>k b o (λz=>j (by simp[z])) e) (λb o _ _ j e _=>#[o.slots,k b o (λz=>j (by simp[z])) e]) (λ_ _ _ _ n=>n)
  (λb o j e=>#[o,k b o (λz=>j (by simp[z])) e]) (λ_ _ e=>e) (λ_ _ _ e=>e) (λb ps e=>#[(Tw []),by rw[e];simp]) (λm F=>?_) (λb u e=>?_) I.bare
 .have e:b=g:=by simpa using G
  subst e;exact#[S,y,L,R]
 .obtain⟨o,es,B,J,r⟩:=F
  exact#[o,es,B,k _ o (UN y) J,r]
 .refine (I.hok b u e).stay (λc v j q=>k c v ?_ q) (λ_ q=>q) λ_ _ q=>q
  rcases j with z|z
  .rw[z];exact l b u e
  .exact l c _ z
theorem Inv.tok(I:Inv X aaL Z H s)(t:Nat):Inv X aaL Z H { s with toks:=t }:=I.un Un.refl I.hok
theorem Inv.kept(I:Inv X aaL Z H s)(k:∀b u,s.heap.get? b=ap u->h'.get? b=ap u):Inv X aaL Z H { s with heap:=h',toks:=t' }:=I.un (Un.kept k) (I.hok.kept k)
theorem Inv.laid(I:Inv X aaL Z H s)(k:∀b u,s.heap.get? b=ap u->h'.get? b=ap u)(g:s.heap.objs.size<=a)(new:ObjOk X.prog X.w (upd H a o) h' a o):
  Inv X aaL Z (upd H a o) { s with heap:=h',toks:=t' }:=I.un (Un.laid k g<|I.hok.fresh g) (I.hok.laid k g new)
theorem Inv.write{x e:cb}(I:Inv X aaL Z H s)(l:Sn (H x))(j:e=x\/H e=ap (.own x))(k:∀b u,b≠e->s.heap.get? b=ap u->h'.get? b=ap u)(g:∃u,h'.get? e=ap u)(new:ObjOk X.prog X.w (upd H x o) h' x o):Inv X aaL Z (upd H x o) { s with heap:=h',toks:=t' }:=I.un (Un.write l j k g) (I.hok.write l j k g new)
theorem Inv.pins_of(I:Inv X aaL Z H s)(h:∀p∈g,s.heap.get? p.1=ap p.2/\H p.1=bb/\p.1≠X.env.locals/\p.1∉X.fs/\∀v,p.2.data≠.cell v):Inv X g Z H s:=
 #[I.ok,I.os,I.bare,I.base,I.loc,I.cell,I.free,I.freeC,λp j=>(Ux.mp j).elim (λz=>I.pin p (U9 _ z)) (h p),I.hok,I.len]
theorem uI(n:N.Nodup){j:Nat}(a:N[i]?=ap x)(b:N[j]?=ap x):i=j:=by
 obtain⟨v,g⟩:=UO.mp a;obtain⟨q,l⟩:=UO.mp b;exact(List.getElem_inj n).mp (g.trans l.symm)
theorem pS(I:Inv X aaL Z H s)(hN:X.N.Nodup)(hi:X.N[i]?=ap x)(F:DR X.env.scope x)(r:RelV v u)(h:∀s',Inv X aaL (Z.set i<|some v) H s'->(∃a,Vh a s.heap s'.heap/\(a=X.env.locals\/X.env.cells.lookup x=ap a))->Q () s')(hf:X.fn x=true\/X.env.scope.names.lookup x=ap .local:=by and_intros):ez M A (storeName X.env x u) Q E s:=by
 obtain⟨m,hn,hl⟩:=id I.loc;have W:(X.env.scope.kind==.class||(X.env.scope.kind==.module&&X.env.locals != X.env.globals))=false:=by rw[I.ok.kind];rfl
 have L:i<Z.length:=by rw[I.len];exact(UO.mp hi).1
 have cne:=I.cne;have l:∀{a:cb}{h':g4},(∃o,s.heap.get? a=ap o/\H a=bb)->Vh a s.heap h'->HOk X.prog X.w H h':=λ{a h'} ha g b ob e=>by
  obtain⟨_,_,G⟩:=ha;refine (I.hok b ob e).stay (λc w' hc q=>(g.2 c ?_).trans q) (λ_ q=>q) λ_ _ q=>q
  rintro rfl
  rcases hc with rfl|hc
  .rw[G]at e;cases e
  .rw[G]at hc;cases hc
 rcases F with hk|hk
 .refine wpAny_storeName_local hk hn (λh' hn' g=>?_) W
  obtain⟨oL,_,_,hoL,_⟩:=id hn;refine h _ #[I.ok,I.os,I.bare,#[λb o e n S F=>?_,λb o e n S F=>?_,I.base.free,λb o e F=>?_,I.base.tups,I.base.frzs,I.base.tbls],#[_,hn',λj y v' B J e3=>?_],λy c e=>?_,I.free,I.freeC,λp hp=>?_,l #[oL,hoL,I.free] g,by simpa using I.len] #[_,g,.inl rfl]
  .exact(g.2 b<|Uv<|Us (Ue e) I.ok.above).trans (I.base.keep b o e n S F)
  .obtain⟨sl,B⟩:=I.base.slot b o e n S F
   exact#[sl,(g.2 b<|Uv<|Us (Ue e) I.ok.above).trans B]
  .obtain⟨o',B⟩:=I.base.there b o e F
   exact#[o',(g.2 b<|Uv<|Us (Ue e) I.ok.above).trans B]
  .by_cases R:j=i
   .subst R
    rw[hi]at B;cases B;rw[YE L]at J;cases J;exact#[u,r,.inl #[hk,by simp]]
   .rw[YS (UN R)]at J
    obtain⟨u',r',q⟩:=hl j y v' B J e3;refine#[u',r',?_];rcases q with⟨k,e⟩|⟨k,c,e,z⟩
    .refine .inl #[k,?_]
     have:y≠x:=λe=>R (uI hN B (e▸hi));simp[this,e]
    .exact .inr #[k,c,e,z.sameBut g<|cne y c e]
  .obtain⟨w',z⟩:=I.cell y c e
   exact#[w',z.sameBut g<|cne y c e]
  .obtain⟨e,n,ne,nf,d⟩:=I.pin p hp
   exact#[(g.2 p.1 ne).trans e,n,ne,nf,d]
 .have O:X.fn x=true:=by
   rcases hf with z|z
   .exact z
   .rw[z]at hk;cases hk
  obtain⟨c,hc⟩:=I.ok.has x (.inl hk);obtain⟨w',z⟩:=I.cell x c hc;refine wpAny_storeName_cell I.ok.kind hk hc z (λh' U g=>?_);obtain⟨oc,hoc,T⟩:=id z;refine h { s with heap:=h' } #[I.ok,I.os,I.bare,#[λb o e n S F=>?_,λb o e n S F=>?_,I.base.free,λb o e F=>?_,I.base.tups,I.base.frzs,I.base.tbls],#[m,hn.sameBut g (UN<|cne x c hc),λj y v' B J e3=>?_],λy c' e=>?_,I.free,I.freeC,λp hp=>?_,l #[oc,hoc,I.freeC x c hc] g,by simpa using I.len] #[c,g,.inr hc]
  .exact(g.2 b<|Uv<|Us (Ue e)<|I.ok.cab x c O hc).trans (I.base.keep b o e n S F)
  .obtain⟨sl,B⟩:=I.base.slot b o e n S F
   exact#[sl,(g.2 b<|Uv<|Us (Ue e)<|I.ok.cab x c O hc).trans B]
  .obtain⟨o',B⟩:=I.base.there b o e F
   exact#[o',(g.2 b<|Uv<|Us (Ue e)<|I.ok.cab x c O hc).trans B]
  .by_cases R:j=i
   .subst R
    rw[hi]at B;cases B;rw[YE L]at J;cases J;exact#[u,r,.inr #[.inl hk,c,hc,U]]
   .rw[YS (UN R)]at J
    obtain⟨u',r',q⟩:=hl j y v' B J e3;refine#[u',r',?_];rcases q with q|⟨k,c',e,z'⟩
    .exact .inl q
    .refine .inr #[k,c',e,z'.sameBut g ?_]
     rintro rfl
     exact R (uI hN B (I.ok.inj _ _ _ e hc▸hi))
  .by_cases Y:c'=c
   .subst Y;exact#[_,U]
   .obtain⟨w2,z2⟩:=I.cell y c' e
    exact#[w2,z2.sameBut g Y]
  .obtain⟨e,n,ne,nf,d⟩:=I.pin p hp
   refine#[(g.2 p.1 ?_).trans e,n,ne,nf,d];intro q;rw[q,hoc]at e;have q':oc=p.2:=U6 e;exact d w' (by rw[<- q'];exact T)
theorem nv(I:Inv X aaL Z H s)(l:X.N.Nodup)(n:X.N[i]?=ap x)(j:DR X.env.scope x)(r:RelV v u)(h:∀g,Inv X aaL (Z.set i<|some v) H g->Q () g)(q:X.fn x=true\/X.env.scope.names.lookup x=ap .local:=by and_intros):ez M A (storeName X.env x u) Q E s:=
 pS I l n j r (λg I' _=>h g I') q
theorem Inv.call'(I:Inv X aaL Z H s)(v:g.os=s.os)(u:Un (iM X.stack) ch H H' s.heap g.heap)(l:HOk X.prog X.w H' g.heap)(q:Uf g.gens)(j:∀b∈ch,(b∈X.ex\/X.s₀.heap.objs.size<=b)/\b≠X.env.locals/\(∀x c,X.env.cells.lookup x=ap c->c≠b)/\∀p∈X.pn++aaL,p.1≠b):Inv X aaL Z H' g:=by
 obtain⟨h',g',d',t',n⟩:=g;have e:n=s.os:=v;subst e;exact I.call (g':=g') (t':=t') (d':=d') u l q j
abbrev XK:=ay->Option cb->Hp->Prop
abbrev St:=List (Option V)
abbrev VK:=V->Hp->Prop
abbrev TE:=St->Hp->VK->Prop
abbrev TT:=St->Hp->(Bool->Hp->Prop)->Prop
abbrev TA:=St->Hp->(List V->Hp->Prop)->Prop
structure Ends where
 nx:St->Hp->Prop
 rt:VK
 bk:St->Hp->Prop:=λ_ _=>False
 ct:St->Hp->Prop:=λ_ _=>False
abbrev TS:=Ends->St->Hp->Prop
inductive EP(X:Cx)(aaL:aa1)(Z:St)(Q:VK)(u:ay)(s':ca):Prop
 |mk (v:V) (H':Hp) (h0:Inv X aaL Z H' s') (h1:RelV v u) (h2:Q v H'):EP X aaL Z Q u s'
inductive TP(X:Cx)(aaL:aa1)(Z:St)(Q:Bool->Hp->Prop)(b:Bool)(s':ca):Prop
 |mk (H':Hp) (h0:Inv X aaL Z H' s') (h1:Q b H'):TP X aaL Z Q b s'
inductive AP(X:Cx)(aaL:aa1)(Z:St)(Q:List V->Hp->Prop)(us:aaW)(s':ca):Prop
 |mk (vs:List V) (H':Hp) (h0:Inv X aaL Z H' s') (h1:Vals vs us) (h2:Q vs H'):AP X aaL Z Q us s'
def SP(X:Cx)(aaL:aa1)(D:Ends)(f:Flow)(s':ca):Prop:=
 match f with
 |.next=>∃σ' H',Inv X aaL σ' H' s'/\D.nx σ' H'
 |.brk=>∃σ' H',Inv X aaL σ' H' s'/\D.bk σ' H'
 |.cont=>∃σ' H',Inv X aaL σ' H' s'/\D.ct σ' H'
 |.ret u=>∃v σ' H',Inv X aaL σ' H' s'/\RelV v u/\D.rt v H'
def PE(X:Cx)(e:eX)(t:TE):Prop:=
 ∀(aaL:aa1)(s:ca)(Z:St)(H:Hp)(Q:VK),Inv X aaL Z H s->t Z H Q->ez (eC X.prog X.w) X.A (fv e X.env) (EP X aaL Z Q) X.xe s
def PT(X:Cx)(e:eX)(t:TT):Prop:=
 ∀(aaL:aa1)(s:ca)(Z:St)(H:Hp)(Q:Bool->Hp->Prop),Inv X aaL Z H s->t Z H Q->ez (eC X.prog X.w) X.A (isTrue e X.env<|eval e X.env) (TP X aaL Z Q) X.xe s
def PW(X:Cx)(e:eX)(t:TT):Prop:=
 ∀(whole:Sem ay)(aaL:aa1)(s:ca)(Z:St)(H:Hp)(Q:Bool->Hp->Prop),Inv X aaL Z H s->t Z H Q->ez (eC X.prog X.w) X.A (isTrue e X.env whole) (TP X aaL Z Q) X.xe s
theorem TY(h:PW X e t):PT X e t:=h _
def PA(X:Cx)(es:aaY)(t:TA):Prop:=
 ∀(pos:Pos)(aaL:aa1)(s:ca)(Z:St)(H:Hp)(Q:List V->Hp->Prop),Inv X aaL Z H s->t Z H Q->ez (eC X.prog X.w) X.A (spliced<|backTo pos<|starEach es X.env) (AP X aaL Z Q) X.xe s
def PS(X:Cx)(st:ol)(t:TS):Prop:=
 ∀(aaL:aa1)(s:ca)(Z:St)(H:Hp)(D:Ends),Inv X aaL Z H s->t D Z H->ez (eC X.prog X.w) X.A (exec st X.env) (SP X aaL D) X.xe s
def C1(X:Cx)(st:aaZ)(t:TS):Prop:=
 ∀(aaL:aa1)(s:ca)(Z:St)(H:Hp)(D:Ends),Inv X aaL Z H s->t D Z H->ez (eC X.prog X.w) X.A (execs st X.env) (SP X aaL D) X.xe s
theorem bu(h:ez M A t Q E s)(g:∀a s,Q a s->Q' a s):ez M A t Q' E s:=j0 h g λ_ _ x=>x
section
def tVar(i:Nat):TE:=λZ H Q=>∃v,Z[i]?=ap (ap v)/\Q v H
def tC(v:V):TE:=λ_ H Q=>Q v H
theorem PP(z:X.N[i]?=ap x)(y:QU X.env.scope x)(g:(x==("__debug__":Str))=false:=by decide)(hcd:(x==("__classdict__":Str))=false:=by decide):PE X (.Name x pos) (tVar i):=by
 rintro aaL s Z H Q I ⟨v,e,h⟩
 obtain⟨m,q,n⟩:=I.loc;obtain⟨u,r,l⟩:=n i x v z e y;have fin:EP X _ Z Q u s:=#[v,H,I,r,h];rcases l with⟨hk,j⟩|⟨hk,c,hc,hcell⟩
 .exact wpAny_Name (aaF I.ok.kind hk q j fin) g
 rcases hk with hk|hk
 .exact wpAny_Name (wpAny_loadName_cell I.ok.kind hk hc hcell fin) g
 exact wpAny_Name (wpAny_loadName_free I.ok.kind hk hc hcell fin hcd) g
theorem OC{i j pos}:PE X (.Constant (.int i) j pos) (tC<|.int i):=λ_ _ _ H _ I h=>wpAny_Constant_int #[.int i,H,I.tok _,#[_,rfl],h]
theorem RI{b j pos}:PE X (.Constant (.bool b) j pos) (tC<|.bl b):=λ_ _ _ H _ I h=>Constant_bool #[.bl b,H,I,rfl,h]
theorem Qe{j pos}:PE X (.Constant .none j pos) (tC .non):=λ_ _ _ H _ I h=>Constant_none #[.non,H,I,rfl,h]
theorem HR{x j pos}:PE X (.Constant (.str x) j pos) (tC<|.str x):=λ_ _ _ H _ I h=>Calls.Constant_str #[.str x,H,I.tok _,#[_,rfl],h]
def Gl(X:Cx)(x:Str):Prop:=X.env.kindOf x=ap .globalImplicit
theorem gX(I:Inv X aaL Z H s)(l:Gl X x)(j:X.mg x=ap u)(h:Q u s)(g:(x==("__debug__":Str))=false:=by decide):ez (eC X.prog X.w) X.A (fv (.Name x pos) X.env) Q E s:=
 X1 I.ok.kind l (Calls.loadGlobal_global (by rw[I.ok.glob];exact I.mod.glob.keeps I.bk) j h) g
theorem di(I:Inv X aaL Z H s)(v:Gl X x)(n:X.mg x=bb)(l:eT x=ap u)(h:Q u s)(q:x≠"__name__":=by decide)(hd:(x==("__debug__":Str))=false:=by decide):ez (eC X.prog X.w) X.A (fv (.Name x pos) X.env) Q E s:=by
 obtain⟨y,j,g⟩:=I.mod.blt;exact X1 I.ok.kind v (Calls.loadGlobal_builtin (by rw[I.ok.glob];exact I.mod.glob.keeps I.bk) n (by rw[I.ok.blt];exact j.keeps I.bk) ((g x q).trans l) h) hd
theorem JX(n:Gl X x)(j:X.mg x=bb)(g:eT x=ap u)(r:RelV v u)(l:x≠"__name__":=by decide)(hd:(x==("__debug__":Str))=false:=by decide):PE X (.Name x pos) (tC v):=
 λ_ _ _ H _ I h=>di I n j g #[v,H,I,r,h] l hd
variable{a b:eX}
def tAnd(t u:TT):TT:=λZ H Q=>t Z H λc H1=>if c=true then u Z H1 Q else Q cp H1
def tOr(t u:TT):TT:=λZ H Q=>t Z H λc H1=>if c=true then Q true H1 else u Z H1 Q
def tNot(t:TT):TT:=λZ H Q=>t Z H λc H1=>Q (!c) H1
theorem Im(g:PT X a tA):PW X (.BoolOp .And [a] pos) tA:=by
 intro j aaL s Z H Q I h;refine isTrue_and (bu (g _ s Z H Q I h) λc l e=>?_);cases c with
 |true=>exact isTrue_and_nil e
 |false=>exact e
theorem OF(g:PT X a tA):PW X (.BoolOp .Or [a] pos) tA:=by
 intro j aaL s Z H Q I h;refine isTrue_or (bu (g _ s Z H Q I h) λc l e=>?_);cases c with
 |false=>exact isTrue_or_nil e
 |true=>exact e
theorem PM(v:PT X a tA)(q:PW X (.BoolOp .And (b::rest) pos) tB'):PW X (.BoolOp .And (a::b::rest) pos) (tAnd tA tB'):=by
 intro l aaL s Z H Q I h;refine isTrue_and (bu (v _ s Z H _ I h) λc n j=>?_);obtain⟨H1,I1,g⟩:=j;cases c with
 |true=>exact q l _ n Z H1 Q I1 g
 |false=>exact#[H1,I1,g]
theorem Rh(v:PT X a tA)(q:PW X (.BoolOp .Or (b::rest) pos) tB'):PW X (.BoolOp .Or (a::b::rest) pos) (tOr tA tB'):=by
 intro l aaL s Z H Q I h;refine isTrue_or (bu (v _ s Z H _ I h) λc n j=>?_);obtain⟨H1,I1,g⟩:=j;cases c with
 |true=>exact#[H1,I1,g]
 |false=>exact q l _ n Z H1 Q I1 g
theorem Qz(g:PT X a tA):PT X (.UnaryOp .Not a pos) (tNot tA):=by
 intro aaL s Z H Q I h;exact isTrue_not (j0 (g _ s Z H _ I h) (λc j z=>by cases z with|mk a b d=>exact#[a,b,d]) λ_ _ e=>e)
def RC(ta tb:TE):TE:=λZ H Q=>ta Z H λx H1=>∃c,x=.bl c/\if c=true then tb Z H1 Q else Q (.bl cp) H1
def S_(ta:TE):TE:=λZ H Q=>ta Z H λx H1=>∃c,x=.bl c/\Q (.bl<|!c) H1
theorem P1{op}(h:PE X a t):PE X (.BoolOp op [a] pos) t:=λaaL s Z H Q I g=>BoolOp_one (h _ s Z H Q I g)
theorem Nq(y:PE X a ta)(q:PE X (.BoolOp .And (b::rest) pos) tb):PE X (.BoolOp .And (a::b::rest) pos) (RC ta tb):=by
 intro aaL s Z H Q I h;refine BoolOp_and (bu (y _ s Z H _ I h) λv l n=>?_);obtain⟨x,H1,I1,j,g⟩:=n;obtain⟨c,rfl,g⟩:=g;cases j;refine pa ?_;cases c with
 |true=>exact q _ l Z H1 Q I1 g
 |false=>exact#[.bl _,H1,I1,rfl,g]
theorem PQ(n:PE X a ta):PE X (.UnaryOp .Not a pos) (S_ ta):=by
 intro aaL s Z H Q I h;refine UnaryOp_ (bu (n _ s Z H _ I h) λv q l=>?_);obtain⟨x,H1,I1,j,g⟩:=l;obtain⟨c,rfl,g⟩:=g;cases j;exact not_of (pa #[.bl !c,H1,I1,rfl,g])
def tIf(t:TT)(ta tb:TE):TE:=λZ H Q=>t Z H λc H1=>if c=true then ta Z H1 Q else tb Z H1 Q
theorem Fa(n:PT X c tA)(q:PE X a ta)(v:PE X b tb):PE X (.IfExp c a b pos) (tIf tA ta tb):=by
 intro aaL s Z H Q I h;refine wpAny_IfExp (bu (n _ s Z H _ I h) λd j l=>?_);obtain⟨H1,I1,g⟩:=l;cases d with
 |true=>exact q _ j Z H1 Q I1 g
 |false=>exact v _ j Z H1 Q I1 g
end
def SqL(K:Ug)(H:Hp)(a:cb)(xs:List V):Prop:=
 Rd H a (.lst xs)\/
  ∃(o:Obj)(aaR:aa3)(n:Nat),K.lookup a=ap o/\o.cls=.type "list"/\o.dict=bb/\o.data=.seq aaR n/\aaR.size<=sizeLine/\Vals xs aaR.toList
def ku(K:Ug)(H:Hp)(a:cb)(xs:List V):Prop:=
 Rd H a (.tup xs)\/
  ∃(o:Obj)(aaR:aa3)(n:Nat),K.lookup a=ap o/\o.cls=.type "tuple"/\o.data=.seq aaR n/\aaR.size<=sizeLine/\Vals xs aaR.toList
noncomputable def absV:ay->Option V
 |.none=>ap .non
 |.bool b=>ap (.bl b)
 |.int i _=>ap (.int i)
 |.str x _=>ap (.str x)
 |.bytes b _=>ap (.byt b)
 |.float b _=>ap (.flt b)
 |.ref a=>ap (.ref a)
 |.type n=>ap (.ty n)
 |_=>bb
theorem RelV.abs{x:V}(r:RelV x u):absV u=ap x:=by
 cases x with
 |non=>cases r;rfl
 |bl _=>cases r;rfl
 |int _=>obtain⟨t,rfl⟩:=r;rfl
 |str _=>obtain⟨t,rfl⟩:=r;rfl
 |byt _=>obtain⟨t,rfl⟩:=r;rfl
 |flt _=>obtain⟨t,rfl⟩:=r;rfl
 |ref _=>cases r;rfl
 |ty _=>cases r;rfl
theorem RelV.inj{x:V}(r:RelV x u)(q:RelV y u):x=y:=U6 (r.abs.symm.trans q.abs)
theorem Vals.inj:∀{xs ys:List V}{us:aaW},Vals xs us->Vals ys us->xs=ys:=by
 intro xs ys us h
 induction h generalizing ys with
 |nil=>intro h';cases h';rfl
 |cons r _ ih=>intro h';cases h' with|cons r' t'=>rw[r.inj r',ih t']
theorem SqL.of(h:H a=ap (.lst xs)):SqL K H a xs:=.inl (.inl h)
theorem Inv.list(I:Inv X aaL Z H s)(h:SqL X.K H a xs):∃aaR:List ay,Vals xs aaR/\PlainL s.heap a aaR.toArray/\xs.length<=sizeLine:=by
 rcases h with h|⟨o,aaR,n,hk,hc,hd,hs,hz,r⟩
 .obtain⟨z,aaR,n,r,e⟩:=h.ok I.hok
  exact#[_,r,#[_,n,e,rfl,rfl,rfl],z]
 refine#[_,r,#[o,n,I.kIn a o hk,hc,hd,by simpa using hs],?_]
 have e:=r.length;simp only[Vd]at e;lia
theorem Inv.tuple(I:Inv X aaL Z H s)(h:ku X.K H a xs):∃aaR:List ay,Vals xs aaR/\IsTup s.heap a aaR.toArray/\xs.length<=sizeLine:=by
 rcases h with h|⟨o,aaR,n,hk,hc,hs,hz,r⟩
 .obtain⟨z,aaR,r,g,e,c,_⟩:=h.ok I.hok
  exact#[_,r,#[g,e,c],z]
 refine#[_,r,#[o,I.kIn a o hk,hc,n,by simpa using hs],?_]
 have e:=r.length;simp only[Vd]at e;lia
theorem Inv.list_inj(I:Inv X aaL Z H s)(h:SqL X.K H a xs)(h':SqL X.K H a ys):xs=ys:=by
 obtain⟨j,r,⟨o,n,e,_,_,d⟩,_⟩:=I.list h;obtain⟨g,v,⟨y,z,l,_,_,q⟩,_⟩:=I.list h';rw[e]at l;cases l;rw[d]at q
 injection q with d1 _
 have:j=g:=by simpa using congrArg WA d1
 subst this;exact r.inj v
theorem Inv.tuple_inj(I:Inv X aaL Z H s)(h:ku X.K H a xs)(h':ku X.K H a ys):xs=ys:=by
 obtain⟨j,r,⟨o,e,_,n,d⟩,_⟩:=I.tuple h;obtain⟨g,v,⟨y,l,_,z,q⟩,_⟩:=I.tuple h';rw[e]at l;cases l;rw[d]at q
 injection q with d1 _
 have:j=g:=by simpa using congrArg WA d1
 subst this;exact r.inj v
noncomputable abbrev Cx.wish(X:Cx)(E:aa0):Cx:={ X with xe:=E }
abbrev Cx.nox(X:Cx):Cx:=X.wish λ_ _=>False
theorem Cx.Ok.wish(ok:X.Ok)(E:aa0):(X.wish E).Ok:=
 #[ok.mod,ok.kind,ok.glob,ok.blt,ok.above,ok.inj,ok.has,ok.cab,ok.hd,ok.frames,ok.stk,ok.exf,ok.bs,ok.bsz,ok.noex,ok.exfs,ok.funs,ok.frf]
theorem Cx.Ok.unwish(ok:(X.wish E).Ok):X.Ok:=
 #[ok.mod,ok.kind,ok.glob,ok.blt,ok.above,ok.inj,ok.has,ok.cab,ok.hd,ok.frames,ok.stk,ok.exf,ok.bs,ok.bsz,ok.noex,ok.exfs,ok.funs,ok.frf]
theorem Inv.wish(I:Inv X aaL Z H s)(E:aa0):Inv (X.wish E) aaL Z H s:=#[I.ok.wish E,I.os,I.bare,I.base,I.loc,I.cell,I.free,I.freeC,I.pin,I.hok,I.len]
theorem Inv.unwish(I:Inv (X.wish E) aaL Z H s):Inv X aaL Z H s:=#[I.ok.unwish,I.os,I.bare,I.base,I.loc,I.cell,I.free,I.freeC,I.pin,I.hok,I.len]
section
variable{st:ol}
def Tz:TS:=λD Z H=>D.nx Z H
def tSeq(t u:TS):TS:=λD Z H=>t { D with nx:=u D } Z H
theorem IV:C1 X [] Tz:=λ_ _ Z H _ I h=>rc #[Z,H,I,h]
theorem FE(n:PS X st t)(l:C1 X rest u):C1 X (st::rest) (tSeq t u):=by
 intro aaL s Z H D I h;refine Z7 (bu (n _ s Z H _ I h) λf j q=>?_);cases f with
 |next=>
  obtain⟨g,H',I',q⟩:=q;exact l _ j _ H' D I' q
 |ret v=>exact q
 |brk=>exact q
 |cont=>exact q
theorem IY(g:PS X st t):C1 X [st] t:=by
 intro aaL s Z H D I h;refine Z7 (bu (g _ s Z H D I h) λf j q=>?_);cases f with
 |next=>exact rc q
 |ret v=>exact q
 |brk=>exact q
 |cont=>exact q
theorem Inv.quiet(I:Inv X aaL Z H s):interactive X.env=false:=by simp[interactive,I.ok.kind]
def Rs(te:TE):TS:=λD Z H=>te Z H λ_ H1=>D.nx Z H1
theorem Lr(j:PE X e te)(l:pb e bb pos.line X.env=pure false:=by rfl):PS X (.Expr e pos) (Rs te):=by
 intro aaL s Z H D I h;exact wpAny_Expr_any (bu (j _ s Z H _ I h)<|by rintro v q ⟨x,H1,I1,n,g⟩;exact#[Z,H1,I1,g]) I.quiet l
def tRet(te:TE):TS:=λD Z H=>te Z H D.rt
theorem Qj(l:PE X e te):PS X (.Return (ap e) pos) (tRet te):=by
 intro aaL s Z H D I h;exact wpAny_Return_some (bu (l _ s Z H _ I h)<|by rintro v n ⟨x,H1,I1,g,j⟩;exact#[x,Z,H1,I1,g,j])
def tIfS(c:TT)(t u:TS):TS:=λD Z H=>c Z H λb H1=>if b=true then t D Z H1 else u D Z H1
theorem TQ{a b:aaZ}(y:PT X c l)(v:C1 X a t)(q:C1 X b u):PS X (.If c a b pos) (tIfS l t u):=by
 intro aaL s Z H D I h;refine wpAny_If (bu (y _ s Z H _ I h) λd j n=>?_);obtain⟨H1,I1,g⟩:=n;cases d with
 |true=>exact v _ j Z H1 D I1 g
 |false=>exact q _ j Z H1 D I1 g
end
abbrev TG:=V->St->Hp->(St->Hp->Prop)->Prop
abbrev MR:=List V->St->Hp->(St->Hp->Prop)->Prop
def PG(X:Cx)(target:eX)(t:TG):Prop:=
 ∀(aaL:aa1)(s:ca)(Z:St)(H:Hp)(v:V)(u:ay)(Q:St->Hp->Prop),Inv X aaL Z H s->RelV v u->t v Z H Q->
  ez (eC X.prog X.w) X.A (Z_ target X.env u) (λ_ g=>∃σ' H',Inv X aaL σ' H' g/\Q σ' H') X.xe s
def Pe(X:Cx)(ts:aaY)(t:MR):Prop:=
 ∀(aaL:aa1)(s:ca)(Z:St)(H:Hp)(vs:List V)(us:aaW)(Q:St->Hp->Prop),Inv X aaL Z H s->Vals vs us->t vs Z H Q->
  ez (eC X.prog X.w) X.A (assignInOrder ((mu ts X.env).map (·.2)) us) (λ_ g=>∃σ' H',Inv X aaL σ' H' g/\Q σ' H') X.xe s
abbrev Qm:=V->V->V->Hp->(Hp->Prop)->Prop
def Nu(X:Cx)(t:Qm):Prop:=
 ∀(aaL:aa1)(s:ca)(Z:St)(H:Hp)(o i v:V)(ov iv u:ay)(Q:Hp->Prop),Inv X aaL Z H s->RelV o ov->RelV i iv->RelV v u->t o i v H Q->
  ez (eC X.prog X.w) X.A (setItem ov iv u) (λ_ g=>∃H',Inv X aaL Z H' g/\Q H') X.xe s
abbrev TIp:=V->V->Hp->VK->Prop
def Nx(X:Cx)(op:WP)(t:TIp):Prop:=
 ∀(aaL:aa1)(s:ca)(Z:St)(H:Hp)(x y:V)(v u:ay)(Q:VK),Inv X aaL Z H s->RelV x v->RelV y u->t x y H Q->
  ez (eC X.prog X.w) X.A (inplaceOp op v u) (EP X aaL Z Q) X.xe s
def MJ(i:Nat):TG:=λv Z H Q=>Q (Z.set i<|some v) H
theorem Li(j:X.N.Nodup)(n:X.N[i]?=ap x)(g:DR X.env.scope x)(l:X.fn x=true\/X.env.scope.names.lookup x=ap .local:=by and_intros):PG X (.Name x pos) (MJ i):=by
 intro aaL s Z H v u Q I r h;exact wpAny_assign_Name (nv I j n g r (λq I'=>#[_,H,I',h]) l)
def gNil:MR:=λg Z H Q=>g=[]/\Q Z H
def RO(t:TG)(u:MR):MR:=λj Z H Q=>∃v r,j=v::r/\t v Z H λg H'=>u r g H' Q
theorem La:Pe X [] gNil:=by
 rintro aaL s Z H g us Q I r ⟨e,h⟩
 exact assignInOrder_nil #[Z,H,I,h]
theorem FG(q:PG X e t)(n:Pe X es u)(y:(mu (e::es) X.env).map (·.2)=Z_ e X.env::(mu es X.env).map (·.2):=by rfl):Pe X (e::es) (RO t u):=by
 rintro aaL s Z H z us Q I r ⟨v,B,j,h⟩
 subst j;cases r with
 |cons r rr=>
  rw[y];exact assignInOrder_cons (bu (q _ s Z H _ _ _ I r h)<|by rintro _ l ⟨_,H1,I1,g⟩;exact(n _ l _ H1 _ _ Q I1 rr g))
def gTup(K:Ug)(n:Nat)(t:MR):TG:=λv Z H Q=>∃a xs,v=.ref a/\ku K H a xs/\xs.length=n/\t xs Z H Q
theorem Qk(hc:X.calm=true)(h:Pe X es t)(hn:(mu es X.env).length=n:=by rfl)(hst:(mu es X.env).findIdx? (·.1)=none:=by rfl):PG X (.Tuple es k pos) (gTup X.K n t):=by
 rintro aaL s Z H v u Q I r ⟨a,xs,e1,hq,hl,hw⟩
 subst e1;cases r;obtain⟨aaR,rv,ht,hz⟩:=I.tuple hq;refine assign_Tuple_tuple (I.ok.hd hc) ht (by simp[hn,<- hl,rv.length]) hst λh' hx=>?_
 have I1:Inv X _ Z H _:=I.kept (t':=s.toks) λb o e=>hx b o (Uv<|Ue e) e;exact h _ _ Z H xs _ Q I1 (by trivial) hw
def gSub(to ti:TE)(t:Qm):TG:=λv Z H Q=>to Z H λo H1=>ti Z H1 λi H2=>t o i v H2 λH3=>Q Z H3
theorem O2{i:eX}(O:PE X o to)(L:PE X i g)(J:Nu X t)(G:∀v,Z_ (.Subscript o i pos) X.env v=(do
   let ov <- qb [v] (fv o X.env)
   let iv <- qb [v,ov] (fv i X.env)
   L' pos
   qb [v,ov,iv] (setItem ov iv v)
   release [v,ov,iv] []):=by intro _;rfl):PG X (.Subscript o i pos) (gSub to g t):=by
 intro aaL s Z H v u Q I r h;rw[G];refine ax (kc (bu (O _ s Z H _ I h) λov F l=>?_));obtain⟨x,H1,I1,q,z⟩:=l;exact ax (kc<|bu (L _ F Z H1 _ I1 z)<|by rintro iv s2 ⟨y,H2,I2,j,B⟩;exact(ax<|wpAny_standAt<|wpAny_bind<|wpAny_holding<|bu (J aaL s2 Z H2 x y v ov iv u _ I2 q j r B)<|by rintro _ R ⟨H3,I3,n⟩;exact(wpAny_release #[Z,H3,I3,n])))
def T8(te:TE)(g:TG):TS:=λD Z H=>te Z H λx H1=>g x Z H1 D.nx
theorem OB(z:PE X e te)(B:PG X tg g)(F:swapsWithSole [tg] e pos.line X.env=pure false:=by rfl)(hw:swappedStores [tg] e X.env=pure none:=by rfl)(h1:(mu [tg] X.env).map (·.2)=[Z_ tg X.env]:=by rfl):PS X (.Assign [tg] e pos) (T8 te g):=by
 intro aaL s Z H D I h;refine wpAny_Assign_stores (bu (z _ s Z H _ I h) λv y n=>?_) F hw;obtain⟨x,H1,I1,j,l⟩:=n;rw[h1];exact bu (B _ y Z H1 x v _ I1 j l) λ_ s2 q=>q
theorem Qt(q:X.N.Nodup)(z:X.N[i]?=ap x)(l:DR X.env.scope x)(n:PE X e te)(B:pb e (ap<|.Name x pos') pos.line X.env=pure false:=by rfl)(hf:X.fn x=true\/X.env.scope.names.lookup x=ap .local:=by and_intros):
  PS X (.Assign [.Name x pos'] e pos) (T8 te<|MJ i):=by
 intro aaL s Z H D I h;refine wpAny_Assign_Name (bu (n aaL s Z H _ I h) λv F ⟨y,H1,I1,g,j⟩=>?_) B;exact nv I1 q z l g (λs2 I2=>#[_,H1,I2,j]) hf
def tAug(i:Nat)(te:TE)(ti:TIp):TS:=λD Z H=>∃x,Z[i]?=ap (ap x)/\te Z H λy H1=>ti x y H1 λz H2=>D.nx (Z.set i<|some z) H2
theorem Qh(hN:X.N.Nodup)(B:X.N[i]?=ap x)(q:DR X.env.scope x)(Y:PE X e te)(ho:Nx X op F)(hf:X.fn x=true\/X.env.scope.names.lookup x=ap .local:=by and_intros):
  PS X (.AugAssign (.Name x pos') op e pos) (tAug i te F):=by
 rintro aaL s Z H D I ⟨v,L,h⟩
 obtain⟨m,W,U⟩:=I.loc;have n:QU X.env.scope x:=by rcases q with k|k;exact .inl k;exact .inr (.inl k)
 obtain⟨u,r,l⟩:=U i x v B L n;refine wpAny_AugAssign_Name ?_;have go:ez (eC X.prog X.w) X.A (fv e X.env) (λw j=>ez (eC X.prog X.w) X.A (inplaceOp op u w) (λr g=>ez (eC X.prog X.w) X.A (storeName X.env x r) (λ_=>SP X aaL D .next) X.xe g) X.xe j) X.xe s:=by
  exact bu (Y _ s Z H _ I h) (by rintro w R ⟨y,H1,I1,S,G⟩;exact bu (ho aaL R Z H1 v y u w _ I1 r S G) (by rintro z s2 ⟨zv,H2,I2,J,T⟩;exact nv I2 hN B q J (λs3 I3=>#[_,H2,I3,T]) hf))
 rcases l with⟨hk,O⟩|⟨hk,c,hc,hcell⟩
 .exact aaF I.ok.kind hk W O go
 rcases hk with hk|hk
 .exact wpAny_loadName_cell I.ok.kind hk hc hcell go
 rcases q with k|k
 .have:X.env.scope.names.lookup x=ap .free:=hk
  rw[k]at this;cases this
 .have:X.env.scope.names.lookup x=ap .free:=hk
  rw[k]at this;cases this
def ipI(f:Int->Int->Int):TIp:=λx y H Q=>∃i j,x=.int i/\y=.int j/\Q (.int<|f i j) H
theorem Qq:Nx X .Add (ipI λi j=>i+j):=by
 rintro aaL s Z H x y v u Q I z l ⟨i,j,n,g,q⟩
 subst n g;obtain⟨t,rfl⟩:=z;obtain⟨t',rfl⟩:=l;exact iadd_int #[.int _,H,I.tok _,#[_,rfl],q]
def Nw(c:TT)(tb:TS):TS:=λD Z H=>∃W:Nat->St->Hp->Prop,(∃m,W m Z H)/\∀m Z H,W m Z H->
 c Z H λb H1=>if b=true then ∃N:St->Hp->Prop,(∀σ' H',N σ' H'->∃m',m'<m/\W m' σ' H')/\tb { D with nx:=N,ct:=N,bk:=D.nx } Z H1 else D.nx Z H1
theorem Gx(J:aas (eC X.prog X.w) X.A X.env X.xe)(hc:PT X c G)(hb:C1 X body tb):PS X (.While c body [] pos) (Nw G tb):=by
 rintro aaL s Z H D I ⟨W,⟨L,R⟩,turn⟩
 refine wpAny_While (codeAny_whileLoop (λn T=>∃σ' H',Inv X _ σ' H' T/\W n σ' H') ?_ L #[Z,H,I,R])
 rintro n O ⟨U,H1,I1,Y⟩
 refine py J (bu (hc _ O _ H1 _ I1<|turn n _ H1 Y) λb s2 S=>?_);obtain⟨H2,I2,g⟩:=S;cases b with
 |true=>
  obtain⟨N,F,g⟩:=g;refine py J (bu (hb _ s2 _ H2 _ I2 g) λf s3 j=>?_);cases f with
  |next=>
   obtain⟨q,H3,I3,l⟩:=j;obtain⟨z,y,B⟩:=F _ H3 l;exact#[z,y,_,H3,I3,B]
  |cont=>
   obtain⟨q,H3,I3,l⟩:=j;obtain⟨z,y,B⟩:=F _ H3 l;exact#[z,y,_,H3,I3,B]
  |brk=>exact j
  |ret v=>exact j
 |false=>
  exact rc #[_,H2,I2,g]
structure It where
 go:Nat->Hp->Prop
 yld:Nat->Hp->V->Hp->Prop
 stop:Nat->Hp->Prop
def jV(X:Cx)(aaL:aa1)(H:Hp)(b:cb):Prop:=
 H b=bb/\b≠X.env.locals/\b∉X.fs/\(b∈X.ex\/X.s₀.heap.objs.size<=b)/\(∀x c,X.env.cells.lookup x=ap c->c≠b)/\∀p∈X.pn++aaL,p.1≠b
theorem Inv.fpOk(I:Inv X aaL Z H s)(g:s.heap.objs.size<=b)(l:H' b=bb):jV X aaL H' b:=by
 refine#[l,Wi (Us I.lt g),I.nofs g,.inr (Uu I.sz g),λx c e z=>?_,λp j z=>?_]
 .obtain⟨v,q⟩:=I.cell x c e
  exact absurd (Us q.lt<|by simp_all) (UY _)
 exact absurd (Us (Ue (I.pin p j).1)<|by rw[z];exact g) (UY _)
structure Turn(P:eS)(w:fx)(K:Ug)(tg:eX)(J:It)(fp:aaX)(it:cb)(tn:Nat->g4->Prop):Prop where
 mem:it∈fp
 obj:∀i h,tn i h->∀b∈fp,∃o,h.get? b=ap o/\∀v,o.data≠.cell v
 keep:∀i h h',tn i h->(∀b∈fp,∀o,h.get? b=ap o->h'.get? b=ap o)->tn i h'
 item:∀(X:Cx),X.prog=P->X.w=w->X.K=K->X.calm=true->∀(i:Nat)(aaL:aa1)(s:ca)(Z:St)(H:Hp)(E:aa0),Inv X aaL Z H s->(∀b∈fp,jV X aaL H b)->tn i s.heap->J.go i H->
  ez (eC P w) X.A (x9<|.ref it) (λr s1=>∃u,r=ap u/\
   ez (eC P w) X.A (V' tg (.ref it) u) (λ_ s2=>∃x H',Inv X aaL Z H' s2/\RelV x u/\J.yld i H x H'/\tn (i+1) s2.heap/\∀b∈fp,H' b=bb) E s1) E s
 done:∀(X:Cx),X.prog=P->X.w=w->X.K=K->X.calm=true->∀(i:Nat)(aaL:aa1)(s:ca)(Z:St)(H:Hp)(E:aa0),Inv X aaL Z H s->(∀b∈fp,jV X aaL H b)->tn i s.heap->J.stop i H->
  ez (eC P w) X.A (x9<|.ref it) (λr s1=>r=bb/\Inv X aaL Z H s1) E s
 self:∀(A:fy)(i:Nat)(s:ca)(Q:aa0)(E:aa0),tn i s.heap->Q (.ref it) s->ez (eC P w) A (ZZ<|.ref it) Q E s
abbrev TI:=St->Hp->(It->Hp->Prop)->Prop
def PIE(X:Cx)(aaL:aa1)(Z:St)(tg:eX)(R:It->Hp->Prop)(itv:ay)(s2:ca):Prop:=
 ∃(it:cb)(fp:aaX)(tn:Nat->g4->Prop)(J:It)(H':Hp),itv=.ref it/\Inv X aaL Z H' s2/\Turn X.prog X.w X.K tg J fp it tn/\tn 0 s2.heap/\(∀b∈fp,jV X aaL H' b)/\R J H'
def PI(X:Cx)(tg iter:eX)(wi:TI):Prop:=
 ∀(aaL:aa1)(s:ca)(Z:St)(H:Hp)(R:It->Hp->Prop),Inv X aaL Z H s->wi Z H R->
  ez (eC X.prog X.w) X.A (fv iter X.env) (λv g=>ez (eC X.prog X.w) X.A (ZZ v) (PIE X aaL Z tg R) X.xe g) X.xe s
theorem vO(y:s.heap.get? j=ap o)(q:o.cls=.type n)(l:o.data=.fields vs)(v:["enumerate","zip","dict_itemiterator","dict_reverseitemiterator","odict_iterator","itertools.zip_longest","itertools.pairwise"].contains n=cp)(g:Q () s):ez M A (V' tg (.ref j) u) Q E s:=by
 unfold V'
 cases tg<;>first
  |exact cx g
  |(cases u<;>first
    |exact cx g
    |(refine ax (wpAny_load y ?_)
      rw[q,l];show ez M A (if (["enumerate","zip","dict_itemiterator","dict_reverseitemiterator","odict_iterator","itertools.zip_longest","itertools.pairwise"].contains n&&vs[0]?==ap (p6 _))=true then _ else _) Q E s
      rw[if_neg (by intro h;rw[v,Bool.false_and]at h;cases h)]
      exact cx g))
noncomputable def Itl(K:Ug)(a:cb):It:=
 #[λi H=>∃xs x,SqL K H a xs/\xs[i]?=ap x,λi H x H'=>H'=H/\∀xs,SqL K H a xs->xs[i]?=ap x,λi H=>∃xs,SqL K H a xs/\xs.length<=i]
noncomputable def Itt(K:Ug)(a:cb):It:=
 #[λi H=>∃xs x,ku K H a xs/\xs[i]?=ap x,λi H x H'=>H'=H/\∀xs,ku K H a xs->xs[i]?=ap x,λi H=>∃xs,ku K H a xs/\xs.length<=i]
noncomputable def Itr(lo:Int)(n:Nat):It:=#[λi _=>i<n,λi H x H'=>H'=H/\x=.int (lo+i),λi _=>n<=i]
theorem Dt(a l:cb):Turn P w K tg (Itl K a) [l] l (λi h=>h.IsListIter l a i) where
 mem:=by simp
 obj:=λi h g b j=>by
  obtain⟨o,e,c,d⟩:=g
  simp_all
 keep:=λi h h' g k=>g.at λo e=>k l (by simp) o e
 item:=by
  intro X z B y W i aaL s Z H E I q g F;subst z B y;obtain⟨xs,x,v,L⟩:=F;obtain⟨G,T,p,hz⟩:=I.list v;obtain⟨u,hu,ru⟩:=T.get L;obtain⟨J,O,f2,U,R,S⟩:=q l (by simp)
  refine aau g p.isList (x:=u) (by simp_all) λh' n sb=>?_
  have I1:Inv X _ Z H _:=I.turned (t':=s.toks) (λb o j e=>(sb.2 b j).trans e) J O U R S;obtain⟨o,e,c,d⟩:=id n;exact#[u,rfl,vO e c d (by decide) #[x,H,I1,ru,#[rfl,λys hy=>by rw[I.list_inj hy v];exact L],n,λb j=>(q b j).1]]
 done:=by
  intro X z B y W i aaL s Z H E I q g F;subst z B y;obtain⟨xs,v,L⟩:=F;obtain⟨G,T,p,hz⟩:=I.list v;obtain⟨J,O,f2,U,R,S⟩:=q l (by simp)
  have hl:=T.length;exact aaD (I.ok.hd W) g p.isList (by simp;lia) λh' Y=>#[rfl,I.turned (λb o j e=>Y b o j e) J O U R S]
 self:=λ_ _ _ _ _ g h=>wpAny_pyIter_listiter g h
theorem x6(a l:cb):Turn P w K tg (Itt K a) [l] l (λi h=>h.IsTupleIter l a i) where
 mem:=by simp
 obj:=λi h g b j=>by
  obtain⟨o,e,c,d⟩:=g
  simp_all
 keep:=λi h h' g k=>g.at λo e=>k l (by simp) o e
 item:=by
  intro X z B y W i aaL s Z H E I q g F;subst z B y;obtain⟨xs,x,v,L⟩:=F;obtain⟨G,T,p,hz⟩:=I.tuple v;obtain⟨u,hu,ru⟩:=T.get L;obtain⟨J,O,f2,U,R,S⟩:=q l (by simp)
  refine wpAny_pyNext_tuple_item g p (x:=u) (by simp_all) λh' n sb=>?_
  have I1:Inv X _ Z H _:=I.turned (t':=s.toks) (λb o j e=>(sb.2 b j).trans e) J O U R S;obtain⟨o,e,c,d⟩:=id n;exact#[u,rfl,vO e c d (by decide) #[x,H,I1,ru,#[rfl,λys hy=>by rw[I.tuple_inj hy v];exact L],n,λb j=>(q b j).1]]
 done:=by
  intro X z B y W i aaL s Z H E I q g F;subst z B y;obtain⟨xs,v,L⟩:=F;obtain⟨G,T,p,hz⟩:=I.tuple v;obtain⟨J,O,f2,U,R,S⟩:=q l (by simp)
  have hl:=T.length;exact wpAny_pyNext_tuple_end (I.ok.hd W) g p (by simp;lia) λh' Y=>#[rfl,I.turned (λb o j e=>Y b o j e) J O U R S]
 self:=λ_ _ _ _ _ g h=>wpAny_pyIter_tupleiter g h
theorem xx(j:cb)(R:Int)(n:Nat):Turn P w K tg (Itr R n) [j] j (λi h=>IsRangeIter h j (R+(i:Nat)*1) ((n:Int)-(i:Nat)) 1) where
 mem:=by simp
 obj:=λi h g b l=>by
  simp_all
 keep:=λi h h' g k=>k j (by simp) _ g
 item:=by
  intro X T U S B i aaL s Z H E I y g z;subst T U S;obtain⟨F,G,f2,O,J,L⟩:=y j (by simp)
  refine (Walks.range (I.ok.hd B) j R 1 n).item i s _ _ z g λv h' W hv q kk=>?_;obtain⟨t,rfl⟩:=hv;have I1:Inv X _ Z H { s with heap:=h',toks:=W }:=I.turned (λb o l e=>kk b o (by simpa using l) e) F G O J L
  refine#[_,rfl,vO q rfl rfl (by decide) #[.int _,H,I1,#[t,?_],#[rfl,rfl],q,λb l=>(y b l).1]]
  rw[Int.mul_one]
 done:=by
  intro X T U S B i aaL s Z H E I y g z;obtain⟨F,G,f2,O,J,L⟩:=y j (by simp)
  exact wpAny_pyNext_range_end (I.ok.hd B) g (by have:n<=i:=z;lia) λh' Y=>#[rfl,I.turned (λb o l e=>Y b o l e) F G O J L]
 self:=λ_ _ _ _ _ g h=>wpAny_pyIter_rangeiter g h
theorem FK(I:Inv X aaL Z H s)(G:-(2 ^ 62)<=g)(B:g<2 ^ 62)(F:-(2 ^ 62)<=j)(J:j<2 ^ 62)(q:R (Itr g (j-g).toNat) H):ez (eC X.prog X.w) X.A (ZZ<|.ref s.heap.objs.size) (PIE X aaL Z tg R) E { s with heap:=s.heap.push { cls:=.type "range",data:=.fields (Tw [.int g t,.int j u,.int 1 v]) },toks:=l }:=by
 refine wpAny_pyIter_range (IsRange.new ..) (small_one G B F J) ?_;have I1:Inv X aaL Z H { s with heap:=s.heap.push { cls:=.type "range",data:=.fields (Tw [.int g t,.int j u,.int 1 v]) },toks:=l }:=I.kept λb o e=>Ua _ e;refine#[(s.heap.push { cls:=.type "range",data:=.fields (Tw [.int g t,.int j u,.int 1 v]) }).objs.size,[(s.heap.push { cls:=.type "range",data:=.fields (Tw [.int g t,.int j u,.int 1 v]) }).objs.size],_,_,H,rfl,
  I1.kept (t':=l) λb o e=>Ua _ e,xx _ g (j-g).toNat,?_,λb n=>?_,q]
 .have y:g+((0:Nat):Int)*1=g:=by simp
  have z:(((j-g).toNat:Nat):Int)-((0:Nat):Int)=Builtin.Range.rangeSize g j 1:=by rw[rangeSize_one];split<;>lia
  show IsRangeIter _ _ (g+((0:Nat):Int)*1) ((((j-g).toNat:Nat):Int)-((0:Nat):Int)) 1;rw[y,z];exact Uh _ rfl
 .have e:b=(s.heap.push { cls:=.type "range",data:=.fields (Tw [.int g t,.int j u,.int 1 v]) }).objs.size:=by simpa using n
  subst e;exact I1.fpOk (Uk _) (I1.hok.fresh<|Uk _)
def Tv(ta:TA):TI:=λZ H R=>ta Z H λg H1=>∃j:Int,g=[.int j]/\-(2 ^ 62)<=j/\j<2 ^ 62/\R (Itr 0 j.toNat) H1
theorem CY{a:eX}(B:Gl X "range")(y:X.mg "range"=bb)(z:PA X [a] ta)(F:eg [a] X.env=[(cp,fv a X.env)]:=by rfl):PI X tg (.Call (.Name "range" p) [a] [] pos) (Tv ta):=by
 intro aaL s Z H R I h;refine Call_ (di I B y boot_range<|UR (bu (z _ _ s Z H _ I h) λus J l=>?_) F rfl);obtain⟨G,H1,I1,n,g⟩:=l;obtain⟨j,e,g,v,q⟩:=g;subst e;cases n with
 |cons r rr=>
  cases rr;obtain⟨t,rfl⟩:=r;exact call_range_1 (FK I1 (by lia) (by lia) g v<|by simpa using q)
def tFor(wi:TI)(g:TG)(tb:TS):TS:=λD Z H=>wi Z H λJ H1=>∃W:Nat->Nat->St->Hp->Prop,(∃m,W 0 m Z H1)/\∀i m Z H,W i m Z H->
 (J.stop i H/\D.nx Z H)\/(J.go i H/\∃N:St->Hp->Prop,(∀σ' H',N σ' H'->∃m',m'<m/\W (i+1) m' σ' H')/\∀x H',J.yld i H x H'->g x Z H' λj H2=>tb { D with nx:=N,ct:=N,bk:=D.nx } j H2)
noncomputable def mQ(fp:aaX)(h:g4):List (cb×Obj):=fp.filterMap λb=>(h.get? b).map λo=>(b,o)
theorem fT(g:b∈fp)(e:h.get? b=ap o):(b,o)∈mQ fp h:=Y5.mpr #[b,g,by rw[e];rfl]
theorem CO(j:p∈mQ fp h):p.1∈fp/\h.get? p.1=ap p.2:=by
 obtain⟨b,l,e⟩:=Y5.mp j;cases q:h.get? b with
 |none=>simp_all
 |some o=>
  rw[q]at e;have g:=U6 e;subst g;trivial
theorem Inv.pinned(I:Inv X aaL Z H s)(n:∀b∈fp,jV X aaL H b)(l:∀b∈fp,∃o,s.heap.get? b=ap o/\∀v,o.data≠.cell v):Inv X (aaL++mQ fp s.heap) Z H s:=
 I.pins_of λp j=>(Ux.mp j).elim (λz=>I.pin p (UP _ z)) λz=>by
  obtain⟨g,e⟩:=CO z;obtain⟨F,q,B,_⟩:=n _ g;obtain⟨o,y,d⟩:=l _ g
  simp_all
theorem Inv.unpinned(I:Inv X (aaL++pl) Z H s):Inv X aaL Z H s:=I.pins_of λp g=>I.pin p (UP _<|U9 _ g)
theorem Oc(U:aas (eC X.prog X.w) X.A X.env X.xe)(hc:X.calm=true)(hi:PI X tg y wi)(hg:PG X tg g)(q:C1 X body tb)(hs:∀x,n7 y X.env x=pure x:=by intro _;rfl):PS X (.For tg y body [] pos) (tFor wi g tb):=by
 intro aaL s Z H D I h;refine wpAny_For (bu (hi _ s Z H _ I h) λv s1 h1=>bu h1 λitv s2 h2=>?_) hs;obtain⟨it,fp,tn,J,H2,e,I2,T,st2,f2,W,⟨m0,w0⟩,S⟩:=h2;subst e
 -- what stays true of the iterator's objects through the loop
 have l:∀{H':Hp},(∀b∈fp,H' b=bb)->∀b∈fp,jV X _ H' b:=λhn b q=>#[hn b q,(f2 b q).2];refine codeAny_forLoop_any (λn s'=>∃i σ' H',Inv X _ σ' H' s'/\tn i s'.heap/\(∀b∈fp,H' b=bb)/\W i n σ' H') ?_ m0 #[0,Z,H2,I2,st2,λb q=>(f2 b q).1,w0]
 rintro n s3 ⟨i,σ3,H3,I3,R,O,w3⟩
 rcases S i n _ H3 w3 with⟨G,qn⟩|⟨go,N,hN,step⟩
 .refine py U (bu (T.done X rfl rfl rfl hc i _ s3 _ H3 _ I3 (l O) R G) λr s4 B=>?_)
  obtain⟨hr,I4⟩:=B;subst hr;exact rc #[_,H3,I4,qn]
 refine py U (bu (T.item X rfl rfl rfl hc i _ s3 _ H3 _ I3 (l O) R go) λr s4 B=>?_);obtain⟨u,hr,h4⟩:=B;subst hr;refine py U (bu h4 λ_ s5 B=>?_);obtain⟨x,H5,I5,r5,y5,F,fr5⟩:=B;refine py U (bu (hg _ s5 σ3 H5 x u _ (I5.pinned (l fr5)<|T.obj _ _ F) r5<|step x H5 y5) λ_ s6 B=>?_);obtain⟨Y,H6,I6,q6⟩:=B;refine py U (bu (q _ s6 Y H6 _ I6 q6) λf s7 z=>?_);have again:∀{j:St}{H7:Hp},Inv X (aaL++mQ fp s5.heap) j H7 s7->N j H7->∃m,m<n/\∃i σ' H',Inv X aaL σ' H' s7/\tn i s7.heap/\(∀b∈fp,H' b=bb)/\W i m σ' H':=λ{j H7} I7 L=>by
  obtain⟨m',hm,w7⟩:=hN j H7 L;refine#[m',hm,i+1,j,H7,I7.unpinned,T.keep _ _ _ F λb q o e=>(I7.pin (b,o)<|UP _<|UP _<|fT q e).1,λb q=>?_,w7];obtain⟨o,e,d⟩:=T.obj _ _ F b q;exact(I7.pin (b,o)<|UP _<|UP _<|fT q e).2.1
 cases f with
 |next=>obtain⟨j,H7,I7,L⟩:=z;exact again I7 L
 |cont=>obtain⟨j,H7,I7,L⟩:=z;exact again I7 L
 |brk=>obtain⟨j,H7,I7,z⟩:=z;exact#[j,H7,I7.unpinned,z]
 |ret v=>obtain⟨x7,j,H7,I7,r7,z⟩:=z;exact#[x7,j,H7,I7.unpinned,r7,z]
abbrev R2:=V->V->Hp->VK->Prop
def cM(X:Cx)(f:ay->ay->Sem ay)(r:R2):Prop:=
 ∀(aaL:aa1)(s:ca)(Z:St)(H:Hp)(x y:V)(v u:ay)(Q:VK),Inv X aaL Z H s->RelV x v->RelV y u->r x y H Q->
  ez (eC X.prog X.w) X.A (f v u) (EP X aaL Z Q) X.xe s
def bt(X:Cx)(f:ay)(r:List V->Hp->VK->Prop):Prop:=
 ∀(aaL:aa1)(s:ca)(Z:St)(H:Hp)(xs:List V)(us:aaW)(Q:VK),Inv X aaL Z H s->Vals xs us->r xs H Q->
  ez (eC X.prog X.w) X.A (call f us) (EP X aaL Z Q) X.xe s
def TruR(X:Cx)(r:V->Hp->(Bool->Hp->Prop)->Prop):Prop:=
 ∀(aaL:aa1)(s:ca)(Z:St)(H:Hp)(x:V)(v:ay)(Q:Bool->Hp->Prop),Inv X aaL Z H s->RelV x v->r x H Q->
  ez (eC X.prog X.w) X.A (truthy v) (TP X aaL Z Q) X.xe s
def Te(r:R2)(ta tb:TE):TE:=λZ H Q=>ta Z H λx H1=>tb Z H1 λy H2=>r x y H2 Q
def rI(C:Int->Int->Prop)(g:Int->Int->V):R2:=λx y H Q=>∃i j,x=.int i/\y=.int j/\C i j/\Q (g i j) H
def DJ(g:Int->Int->V):R2:=λx y H Q=>∃i j,x=.int i/\y=.int j/\Q (g i j) H
section
variable{a b:eX}
theorem Ot(B:PE X a ta)(z:PE X b tb){R:V->V->Hp->Prop}(I:Inv X aaL Z H s)(h:ta Z H λx H1=>tb Z H1 λy H2=>R x y H2){f:ay->ay->Sem ay}(F:∀v u s2 x y H2,Inv X aaL Z H2 s2->RelV x v->RelV y u->R x y H2->ez (eC X.prog X.w) X.A (f v u) Q X.xe s2):
  ez (eC X.prog X.w) X.A (fv a X.env) (λv s₁=>ez (eC X.prog X.w) X.A (fv b X.env) (λu s₂=>ez (eC X.prog X.w) X.A (f v u) Q X.xe s₂) X.xe s₁) X.xe s:=by
 exact bu (B _ s Z H _ I h) λv q ⟨x,H1,I1,g,j⟩=>bu (z aaL q Z H1 _ I1 j) λu s2 ⟨y,H2,I2,l,n⟩=>F v u s2 x y H2 I2 g l n
theorem Tj(z:cM X (hG op) r)(n:PE X a ta)(l:PE X b tb):PE X (.BinOp a op b pos) (Te r ta tb):=by
 intro aaL s Z H Q I h;exact wpAny_BinOp (Ot n l I h λv u s2 x y H2 I2 g j q=>z _ s2 Z H2 x y v u Q I2 g j q)
theorem Q_{f:ay->ay->Sem ay}{g:Int->Int->Int}(l:∀(i j:Int)(t u:Tok)(s:ca)(Q:aa0)(E:aa0),C i j->Q (.int (g i j) s.toks) { s with toks:=s.toks+1 }->ez (eC X.prog X.w) X.A (f (.int i t)<|.int j u) Q E s):
  cM X f (rI C λi j=>.int (g i j)):=by
 rintro aaL s Z H x y v u Q I n B ⟨i,j,rfl,rfl,z,q⟩
 obtain⟨t,rfl⟩:=n;obtain⟨t',rfl⟩:=B;exact l i j t t' s _ _ z #[.int _,H,I.tok _,#[_,rfl],q]
theorem Fo{f:ay->ay->Sem ay}{g:Int->Int->Int}(l:∀(i j:Int)(t u:Tok)(s:ca)(Q:aa0)(E:aa0),Q (.int (g i j) s.toks) { s with toks:=s.toks+1 }->ez (eC X.prog X.w) X.A (f (.int i t)<|.int j u) Q E s):
  cM X f (DJ λi j=>.int (g i j)):=by
 rintro aaL s Z H x y v u Q I n z ⟨i,j,rfl,rfl,q⟩
 obtain⟨t,rfl⟩:=n;obtain⟨t',rfl⟩:=z;exact l i j t t' s _ _ #[.int _,H,I.tok _,#[_,rfl],q]
theorem Iw{f:ay->ay->Sem ay}{g:Int->Int->Bool}(l:∀(i j:Int)(t u:Tok)(s:ca)(Q:aa0)(E:aa0),Q (.bool<|g i j) s->ez (eC X.prog X.w) X.A (f (.int i t)<|.int j u) Q E s):
  cM X f (DJ λi j=>.bl (g i j)):=by
 rintro aaL s Z H x y v u Q I n z ⟨i,j,rfl,rfl,q⟩
 obtain⟨t,rfl⟩:=n;obtain⟨t',rfl⟩:=z;exact l i j t t' s _ _ #[.bl _,H,I,rfl,q]
def JE(i j:Int):Prop:=0<=j/\j<=1000000/\i.natAbs<2 ^ 64
def CMul(i j:Int):Prop:=(-(2 ^ 64)<i/\i<2 ^ 64)\/(-(2 ^ 64)<j/\j<2 ^ 64)
theorem CMul.ok{i:Int}(h:CMul i j):IntMulOk i j:=by
 rcases h with⟨l,g⟩|⟨l,g⟩
 .exact .of_left (intBits_le_64 l g)
 exact .of_right (intBits_le_64 l g)
theorem Qx(k:Nat):(0:Int)<=2 ^ k:=by
 lia
theorem PL:cM X (hG .Add) (DJ λi j=>.int (i+j)):=Fo λ_ _ _ _ _ _ _ q=>add_int q
theorem NI:cM X (hG .Sub) (DJ λi j=>.int (i-j)):=Fo λ_ _ _ _ _ _ _ q=>sub_int q
theorem Pr:cM X (hG .Mult) (rI CMul λi j=>.int (i*j)):=Q_ λ_ _ _ _ _ _ _ g q=>mul_int q g.ok
theorem Qb:cM X (hG .Mod) (rI (λ_ j=>0<j) λi j=>.int (i % j)):=Q_ λi j _ _ _ _ _ g q=>by
 have l:(0:Int)<j:=g;exact mod_int' (by lia) (by rw[Int.fmod_eq_emod_of_nonneg i (by lia)];exact q)
theorem OH:cM X (hG .Pow) (rI JE λi j=>.int (i ^ j.toNat)):=Q_ λ_ _ _ _ _ _ _ g q=>pow_int_small g.1 g.2.1 g.2.2 q
theorem Op:cM X (hG .LShift) (rI JE λi j=>.int (i*2 ^ j.toNat)):=Q_ λ_ _ _ _ _ _ _ g q=>lshift_int_small g.1 g.2.1 g.2.2 q
theorem Qi:cM X (hG .RShift) (rI (λ_ j=>0<=j) λi j=>.int (i / 2 ^ j.toNat)):=Q_ λi j _ _ _ _ _ g q=>
 rshift_int g (by grind)
theorem Pj:cM X (hG .BitAnd) (DJ λi j=>.int (VQ i j)):=Fo λ_ _ _ _ _ _ _ q=>and_int q
theorem Tl:cM X (hG .BitOr) (DJ λi j=>.int (Xi i j)):=Fo λ_ _ _ _ _ _ _ q=>or_int q
theorem Q7:cM X (hG .BitXor) (DJ λi j=>.int (Builtin.bitXor i j)):=Fo λ_ _ _ _ _ _ _ q=>xor_int q
end
section
variable{a b:eX}
theorem G6(I:Inv X aaL Z H s)(q:Q (.bl k) H)(e:k=g):EP X aaL Z Q (.bool g) s:=by
 subst e;exact#[.bl k,H,I,rfl,q]
theorem Sq:cM X (hW .Lt) (DJ λi j=>.bl (decide (i<j))):=Iw λ_ _ _ _ _ _ _ q=>lt_int q
theorem Rn:cM X (hW .LtE) (DJ λi j=>.bl (decide (i<=j))):=Iw λ_ _ _ _ _ _ _ q=>le_int q
theorem Sg:cM X (hW .Gt) (DJ λi j=>.bl (decide (j<i))):=Iw λ_ _ _ _ _ _ _ q=>gt_int q
theorem TH:cM X (hW .GtE) (DJ λi j=>.bl (decide (j<=i))):=Iw λ_ _ _ _ _ _ _ q=>ge_int q
theorem PN:cM X (hW .Is) (λx y H Q=>y=.non/\Q (.bl<|decide (x=.non)) H):=by
 intro aaL s Z H x y v u Q I g j h;obtain⟨rfl,q⟩:=h;cases j;refine is_none_gen (G6 I q ?_)
 cases x<;>first
  |(cases g;rfl)
  |(obtain⟨t,rfl⟩:=g;rfl)
theorem KH:cM X (hW .IsNot) (λx y H Q=>y=.non/\Q (.bl<|!decide (x=.non)) H):=by
 rintro aaL s Z H x y v u Q I g j ⟨rfl,q⟩
 cases j;refine isnot_none_gen (G6 I q ?_)
 cases x<;>first
  |(rfl)
  |(obtain⟨t,rfl⟩:=g;rfl)
theorem Kz(B:cM X (hW op) r)(z:PE X a ta)(l:PE X b tb)(n:Y_ op b=cp):PE X (.Compare a [op] [b] pos) (Te r ta tb):=by
 intro aaL s Z H Q I h;exact wpAny_Compare1 (Ot z l I h λv u s2 x y H2 I2 g j q=>B aaL s2 Z H2 x y v u Q I2 g j q) n
def Ss(t:TE):TT:=λZ H Q=>t Z H λx H'=>∃k,x=.bl k/\Q k H'
theorem Kj(R:cM X (hW op) r)(O:PE X a ta)(J:PE X b tb)(L:Y_ op b=cp):PT X (.Compare a [op] [b] pos) (Ss<|Te r ta tb):=by
 intro aaL s Z H Q I h;refine wpAny_isTrue_Compare1 (bu (O _ s Z H _ I h) λv F ⟨x,H1,I1,l,n⟩=>bu (J _ F Z H1 _ I1 n) λu s2 ⟨y,H2,I2,g,B⟩=>
  bu (R _ s2 Z H2 x y v u _ I2 l g B) λc S j=>?_) L
 obtain⟨z,H3,I3,q,k,e,G⟩:=j;subst e;cases q;exact pa #[H3,I3,G]
def O3(K:Ug)(x:V)(H:Hp)(k:Bool):Prop:=
 match x with
 |.non=>k=cp
 |.bl b=>k=b
 |.int i=>k=(i != 0)
 |.str y=>y.length<=sizeLine/\k=((y.length:Int) != 0)
 |.byt y=>y.size<=sizeLine/\k=((y.size:Int) != 0)
 |.ref p=>(∃xs,SqL K H p xs/\k=!xs.isEmpty)\/(∃xs,ku K H p xs/\k=!xs.isEmpty)\/∃aaN,H p=ap (.dK aaN)/\k=!aaN.isEmpty
 |_=>False
theorem xX(r:KV aaN vs):(!vs.isEmpty)=!aaN.isEmpty:=by
 cases r<;>rfl
theorem oh(r:Vals xs aaR):(!aaR.toArray.isEmpty)=!xs.isEmpty:=by
 cases r<;>simp
theorem iC:(sizeLine:Nat)<2 ^ 63:=by trivial
theorem O4:TruR X (λx H Q=>∃k,O3 X.K x H k/\Q k H):=by
 rintro aaL s Z H x v Q I l ⟨k,e,q⟩
 have R:=iC;have O:sizeLine=16777216:=k';cases x with
 |non=>
  cases l;have g:k=false:=e;subst g;exact truthy_none #[H,I,q]
 |bl b=>
  cases l;have g:k=b:=e;subst g;exact pa #[H,I,q]
 |int i=>
  obtain⟨t,rfl⟩:=l;have g:k=(i != 0):=e;subst g;exact PySem.P.truthy_int #[H,I,q]
 |str y=>
  obtain⟨t,rfl⟩:=l;obtain⟨G,g⟩:y.length<=sizeLine/\k=((y.length:Int) != 0):=e;subst g;exact PySem.P.truthy_str (by lia) #[H,I.tok _,q]
 |byt y=>
  obtain⟨t,rfl⟩:=l;obtain⟨G,g⟩:y.size<=sizeLine/\k=((y.size:Int) != 0):=e;subst g;exact W.truthy_bytes (by lia) #[H,I.tok _,q]
 |ref p=>
  cases l;have g:=e;rcases g with⟨J,n,g⟩|⟨J,n,g⟩|⟨aaN,n,g⟩
  .subst g
   obtain⟨B,r,pl,F⟩:=I.list n;have j:=r.length;exact wpAny_truthy_list pl.isList (by simp;lia) #[H,I.tok _,by rw[oh r];exact q]
  .subst g
   obtain⟨B,r,pl,F⟩:=I.tuple n;have j:=r.length;exact truthy_tuple pl (by simp;lia) #[H,I.tok _,by rw[oh r];exact q]
  subst g;obtain⟨F,L,z,r,m⟩:aaN.length<=sizeLine/\(p==ot)=cp/\∃z,KV aaN z/\s.heap.DictOf (aT X.prog X.w) p z:=I.hok p _ n;have j:aaN.length=z.length:=VC r;exact wpAny_truthy_dict L m (by lia) #[H,I.tok _,by rw[xX r];exact q]
 |_=>trivial
theorem Gg(q:PE X a ta)(y:∀g,isTrue a X.env g=(do let v <- g;L' a.pos;qb [v] (truthy v))):
  PT X a (λZ H Q=>ta Z H λx H'=>∃k,O3 X.K x H' k/\Q k H'):=by
 intro aaL s Z H Q I h;exact isTrue_plain (bu (q aaL s Z H _ I h) λv n ⟨x,H1,I1,j,l⟩=>O4 aaL n Z H1 x v Q I1 j l) (y _)
theorem wX:cM X (hG .Add) (λx y H Q=>∃i j,x=.str i/\y=.str j/\i.length+j.length<=sizeLine/\Q (.str (i++j)) H):=by
 rintro aaL s Z H x y v u Q I g n ⟨i,j,rfl,rfl,l,q⟩
 obtain⟨t,rfl⟩:=g;obtain⟨t',rfl⟩:=n;exact add_str (λt' z=>#[.str _,H,I.tok _,#[_,rfl],q]) l
theorem iT{x:V}(r:Vals [x] us):∃u,us=[u]/\RelV x u:=by
 cases r with
 |cons r1 r2=>cases r2;exact#[_,rfl,r1]
theorem Md{x:V}(r:Vals [x,y] us):∃u g,us=[u,g]/\RelV x u/\RelV y g:=by
 cases r with
 |cons r1 r2=>
  cases r2 with
  |cons r3 r4=>cases r4;exact#[_,_,rfl,r1,r3]
theorem CJ(l:X.calm=true):bt X (.builtin "max") (λxs H Q=>∃i j,xs=[.int i,.int j]/\Q (.int (if j>i then j else i)) H):=by
 rintro aaL s Z H xs us Q I r ⟨i,j,rfl,q⟩
 obtain⟨u,v,rfl,⟨t,rfl⟩,⟨t',rfl⟩⟩:=Md r;refine max_two_ints (I.ok.hd l) λh' n k=>#[_,H,I.kept k,?_,q]
 by_cases g:j>i
 .rw[if_pos g,if_pos g];exact#[_,rfl]
 rw[if_neg g,if_neg g];exact#[_,rfl]
theorem D4(l:X.calm=true):bt X (.builtin "min") (λxs H Q=>∃i j,xs=[.int i,.int j]/\Q (.int (if j<i then j else i)) H):=by
 rintro aaL s Z H xs us Q I r ⟨i,j,rfl,q⟩
 obtain⟨u,v,rfl,⟨t,rfl⟩,⟨t',rfl⟩⟩:=Md r;refine min_two_ints (I.ok.hd l) λh' n k=>#[_,H,I.kept k,?_,q]
 by_cases g:j<i
 .rw[if_pos g,if_pos g];exact#[_,rfl]
 rw[if_neg g,if_neg g];exact#[_,rfl]
end
structure ObjM(h:g4)(x dx C:cb)(mA:aa2):Prop where
 obj:h.get? x=ap (WR C dx)
 ns:h.Ns1 dx mA
 ne:dx≠x
theorem Du(n:h.Ns1 dx mA):∃j,h.get? dx=ap j/\∀name,W.lookIn name j=ap (mA name):=by
 obtain⟨o,es,J,I,G,v,_,l⟩:=n;refine#[o,I,λname=>?_];have e:=l name;unfold nsFind findBy at e;rw[<- Array.find?_toList]at e;unfold W.lookIn;rw[G];dsimp only
 split
 .rename_i y q
  rw[q]at e;exact congrArg _ e
 rename_i q
 rw[q]at e;have a:es.toList.any (·.refKey)=false:=by
  rw[Xz];intro y B;obtain⟨z,t,g⟩:=v y (Array.mem_toList_iff.mp B);simp[DictEntry.refKey,g]
 have F:¬es.toList.any (·.refKey)=true:=by rw[a];exact WL
 rw[if_neg F];exact congrArg _ e
theorem ObjM.look{x:cb}(I:ObjM h x dx C mA):∃g,W.InstAt h x (WR C dx) C (ap g)/\∀name,W.lookIn name g=ap (mA name):=
 let ⟨g,ho,hl⟩:=Du I.ns
 #[g,#[I.obj,rfl,rfl,ho],hl]
section
variable{x:cb}
theorem Kg(X:K.In s.heap)(I:ObjM s.heap x dx C mA)(z:Ws K C name=true)(y:Ww K C=true)(q:U1 K (.ref C) name=ap bb)(n:mA name=ap v)(j:W.handedIn v=true)(h:Q v { s with toks:=s.toks+1 }):
  ez (eC prog w) A (getAttr (.ref x) name g) Q E s:=by
 obtain⟨B,J,l⟩:=I.look;exact W.get_value X J (YG z).1 (W.findObj_own y q rfl<|by rw[l,n]) j h
theorem HB(X:K.In s.heap)(I:ObjM s.heap x dx C mA)(g:Ws K C name=true)(l:U1 K (.ref C) name=ap (ap<|.ref f))(n:W.isFn K (.ref f)=true)(y:mA name=bb)(h:Q (.ref f,[.ref x]) s):
  ez (eC prog w) A (B' (.ref x) name pl) Q E s:=by
 obtain⟨j,J,q⟩:=I.look;exact W.method_fn X J (YG g).1 (YG g).2 l (beq_iff_eq.mp n) (by show (W.lookIn _ j).map _=ap _;simp_all) h
theorem gU(X:K.In s.heap)(I:ObjM s.heap x dx C mA)(S:U1 K (.ref C) "__setattr__"=ap (ap<|.builtin "object.__setattr__"))(T:W5 K C=true)(L:W.takerIn K C name=ap bb)(R:Ww K C=true)(O:Yu mA ns)(hsz:ns.length<=sizeLine)(h:∀h',ObjM h' x dx C (λy=>if y=name then ap v else mA y)->Vh dx s.heap h'->Q () { s with heap:=h',toks:=s.toks+2 }):
  ez (eC prog w) A (setAttr (.ref x) name v) Q E s:=by
 obtain⟨od,J,hl⟩:=I.look;refine W.set_plain X J S (W.osa_open X J T L λb=>?_);obtain⟨Y,F,l⟩:=W.any_some R;refine ax (cx<|wpAny_bind<|wpAny_bind<|wpAny_loadPart I.obj<|wpAny_bind<|W.Looks.here (W.looks_clsIn X F) ?_);rw[l];refine cx (ax<|wpAny_pure<|wpAny_bind ?_);refine wpAny_nsSet1 I.ns λh' j g=>?_;obtain⟨U,G,B,z,n,q⟩:=j.count (PySem.Within.cons _ v O);exact ax (wpAny_lookBehind z (by rw[n];exact pastItsLine_dict (Uu q<|by rw[Uz];lia))<|wpAny_pure<|h _ #[(g.2 _<|UN I.ne).trans I.obj,j,I.ne] g)
theorem FL(X:K.In s.heap)(l:Xe K C=true)(q:U1 K (.ref C) "__init__"=ap (ap<|.ref f))(n:W.typeIn K (.ref f)=ap (.type "function"))(h:y' (eC prog w) (A.under<|.builtin "type.__call__" #[.ref C::vs,kw]) (.call (.ref f) #[.ref (s.heap.objs.size+1)::vs,kw]) (W.InitBack (s.heap.objs.size+1) R)
   { s with heap:=(s.heap.push VX).push (WR C s.heap.objs.size) }):
  y' (eC prog w) A (.call (.ref C) #[vs,kw]) R s:=by
 obtain⟨z,g,d,t,y⟩:=s;exact W.make_core (W.makes_of X l) (W.looks_findIn X q) (λj=>W.bind_fn X j n) (.inl rfl) h
end
def dB(f:Str)(v:V):List (Str×V)->List (Str×V)
 |[]=>[(f,v)]
 |(g,x)::r=>if g=f then (g,v)::r else (g,x)::dB f v r
theorem kh(f g:Str)(v:V):∀fs:List (Str×V),(dB f v fs).lookup g=if g=f then ap v else fs.lookup g
 |[]=>by
  show UW g [(f,v)]=_
  by_cases h:g=f
  .simp_all
  simp_all
 |(k,x)::r=>by
  rw[show dB f v _=(if k=f then (k,v)::r else (k,x)::dB f v r) from rfl]
  by_cases l:k=f
  .rw[if_pos l]
   by_cases h:g=k
   .have j:=beq_iff_eq.mpr h
    simp only[UW,j,if_pos (h.trans l)]
   have j:(g==k)=false:=beq_eq_false_iff_ne.mpr h;simp only[UW,j,if_neg (λe:g=f=>h (e.trans l.symm))]
  rw[if_neg l]
  by_cases h:g=k
  .have j:(g==k)=true:=beq_iff_eq.mpr h
   simp only[UW,j,if_neg (λe:g=f=>l (h.symm.trans e))]
  .have j:(g==k)=false:=beq_eq_false_iff_ne.mpr h
   simp only[UW,j];exact(kh f g v r)
theorem jU(f:Str)(v:V):∀fs:List (Str×V),f∈(dB f v fs).map (·.1)/\∀g,g∈fs.map (·.1)->g∈(dB f v fs).map (·.1)
 |[]=>#[by simp[dB],λg h=>by simp at h]
 |(k,x)::r=>by
  obtain⟨i1,i2⟩:=jU f v r;rw[show dB f v _=(if k=f then (k,v)::r else (k,x)::dB f v r) from rfl]
  by_cases j:k=f
  .simp_all
  rw[if_neg j];refine#[?_,λg h=>?_]
  .exact Ui _ i1
  rw[Ud]at h ⊢;rcases Uj.mp h with e|e
  .exact Uj.mpr (.inl e)
  .exact Ui _ (i2 g e)
theorem kb(f:Str)(v:V):∀fs:List (Str×V),(dB f v fs).length<=fs.length+1
 |[]=>by simp[dB]
 |(k,x)::r=>by
  have g:=kb f v r;rw[show dB f v _=(if k=f then (k,v)::r else (k,x)::dB f v r) from rfl]
  by_cases j:k=f
  .simp_all
  simp_all
theorem dD(r:RelO (ap v) o):∃u,o=ap u/\RelV v u:=by
 cases o with
 |none=>trivial
 |some u=>exact#[u,rfl,r]
theorem jC(r:RelO bb o):o=none:=by
 cases o<;>trivial
theorem CT(r:RelV v u):W.handedIn u=true:=by
 cases v with
 |non=>cases r;rfl
 |bl b=>cases r;rfl
 |int i=>obtain⟨t,e⟩:=r;cases e;rfl
 |str x=>obtain⟨t,e⟩:=r;cases e;rfl
 |byt b=>obtain⟨t,e⟩:=r;cases e;rfl
 |flt b=>obtain⟨t,e⟩:=r;cases e;rfl
 |ref a=>cases r;rfl
 |ty n=>cases r;rfl
theorem kY(g:HOk P w H h)(e:H a=ap (.ins C dx fs)):∃mA,ObjM h a dx C mA/\(∀f,RelO (fs.lookup f) (mA f))/\Yu mA (fs.map (·.1))/\fs.length<=1000/\H dx=ap (.own a):=by
 obtain⟨d,z,ne,j,mA,n,r,q⟩:=(g a _ e);exact#[mA,#[j,n,ne],r,q,z,d]
structure Cls(K:Ug)(C:cb):Prop where
 pg:Ws K C XN=true
 hd:Ww K C=true
 po:W5 K C=true
 sa:U1 K (.ref C) "__setattr__"=ap (ap<|.builtin "object.__setattr__")
theorem Cls.get(c:Cls K C)(f:Str):Ws K C f=true:=c.pg
def NoAttr(K:Ug)(C:cb)(f:Str):Prop:=U1 K (.ref C) f=ap bb
theorem NoAttr.taker{f:Str}(n:NoAttr K C f):W.takerIn K C f=ap none:=by
 unfold W.takerIn;rw[n];rfl
structure Meth(K:Ug)(C:cb)(m:Str)(f:cb):Prop where
 at_:U1 K (.ref C) m=ap (ap<|.ref f)
 fn:W.isFn K (.ref f)=true
 kp:Vq K (.ref f)=true
section
variable{f:Str}
theorem o5{b:Bool}(I:Inv X aaL Z H s)(e:H a=ap (.ins C dx fs))(c:Cls X.K C)(n:NoAttr X.K C f)(l:fs.lookup f=ap v)(h:∀u j,Inv X aaL Z H j->RelV v u->Q u j):ez (eC X.prog X.w) A (getAttr (.ref a) f b) Q E s:=by
 obtain⟨mA,O,r,_,_,_⟩:=kY I.hok e;obtain⟨u,q,g⟩:=dD (v:=v) (o:=mA f) (by grind)
 exact Kg I.kIn O (c.get f) c.hd n q (CT g) (h u _ (I.tok _) g)
theorem oO(I:Inv X aaL Z H s)(e:H a=ap (.ins C dx fs))(c:Cls X.K C)(k:Meth X.K C m g)(l:fs.lookup m=bb)(h:Q (.ref g,[.ref a]) s):ez (eC X.prog X.w) A (B' (.ref a) m pl) Q E s:=by
 obtain⟨mA,O,r,_,_,_⟩:=kY I.hok e;exact HB I.kIn O (c.get m) k.at_ k.fn (jC<|by rw[<- l];exact r m) h
theorem mP(I:Inv X aaL Z H s)(e:H a=ap (.ins C dx fs))(c:Cls X.K C)(n:NoAttr X.K C f)(hl:fs.length<1000)(ry:RelV y u)(h:∀s',Inv X aaL Z (upd H a<|.ins C dx<|dB f y fs) s'->Q () s'):ez (eC X.prog X.w) A (setAttr (.ref a) f u) Q E s:=by
 obtain⟨mA,O,r,wi,_,ho⟩:=kY I.hok e;have hz:(fs.map (·.1)).length<=sizeLine:=by rw[Ub,k'];lia
 refine gU I.kIn O c.sa c.po n.taker c.hd wi hz λh' O' sb=>h _ ?_;have hd:∃o,h'.get? dx=ap o:=let ⟨o,_,_,e',_⟩:=O'.ns;#[o,e'];refine I.write (by rw[e];trivial) (.inr ho) (λb q hb z=>(sb.2 b hb).trans z) hd ?_
 refine#[by rw[aw O.ne];exact ho,?_,O.ne,O'.obj,_,O'.ns,λg=>?_,λg hg=>?_]
 .have:=kb f y fs;lia
 .rw[kh]
  by_cases q:g=f
  .rw[if_pos q,if_pos q];exact ry
  simp_all
 by_cases q:g=f
 .rw[q];exact(jU f y fs).1
 refine (jU f y fs).2 g (wi g λz=>hg ?_);show (if g=f then ap u else mA g)=bb
 rw[if_neg q];exact z
theorem Ig(I:Inv X aaL Z H s):Inv X aaL Z (upd (upd H s.heap.objs.size<|.own (s.heap.objs.size+1)) (s.heap.objs.size+1)<|.ins C s.heap.objs.size [])
  { s with heap:=(s.heap.push VX).push (WR C s.heap.objs.size) }:=by
 have g:(s.heap.push VX).get? s.heap.objs.size=ap VX:=Uh s.heap rfl;have l:((s.heap.push VX).push<|WR C s.heap.objs.size).get? (s.heap.objs.size+1)=ap (WR C s.heap.objs.size):=by
  have:=Uh (s.heap.push VX) (o:=WR C s.heap.objs.size) rfl
  rwa [Vg]at this
 have z:(s.heap.push VX).Ns s.heap.objs.size (λ_=>bb):=#[VX,(Tw []),_,g,rfl,(λe j=>absurd j (by simp)),λ_=>rfl]
 have I1:=I.laid (a:=s.heap.objs.size) (o:=.own (s.heap.objs.size+1)) (h':=s.heap.push VX) (t':=s.toks) (λb u q=>Ua _ q) (Uk _) #[_,g];refine I1.laid (a:=s.heap.objs.size+1) (o:=.ins C s.heap.objs.size []) (t':=s.toks) (λb u q=>Ua _ q) (YJ<|Vg _ _) ?_;have ne:s.heap.objs.size≠s.heap.objs.size+1:=Uv (Nat.lt_succ_self _);refine#[by rw[aw ne,upd_same],Va _,ne,l,λ_=>bb,(Heap.Ns1.of_empty z).at λo q=>Ua _ q,λ_=>VS,λy n=>absurd rfl n]
theorem Iv{f:Str}(j:kr e f env (fv e env)=fv e env)(h:ez (eC g w) A (fv e env) (λo s₁=>ez (eC g w) A (getAttr o f true) Q E s₁) E s):ez (eC g w) A (fv (.Attribute e f pos) env) Q E s:=
 Attribute_any_ h (by rw[arm_eval_Attribute,j])
end
def tFld(K:Ug)(ta:TE)(f:Str):TE:=λZ H Q=>ta Z H λx H1=>∃a C dx fs v,x=.ref a/\H1 a=ap (.ins C dx fs)/\Cls K C/\NoAttr K C f/\fs.lookup f=ap v/\Q v H1
def sFld(K:Ug)(ta tv:TE)(f:Str):TS:=λD Z H=>tv Z H λy H1=>ta Z H1 λx H2=>∃a C dx fs,x=.ref a/\H2 a=ap (.ins C dx fs)/\Cls K C/\NoAttr K C f/\fs.length<1000/\
 D.nx Z (upd H2 a<|.ins C dx<|dB f y fs)
def Pl(X:Cx)(op:WP)(rd:V->V->Hp->VK->Prop):Prop:=
 ∀(aaL:aa1)(s:ca)(Z:St)(H:Hp)(x y:V)(u v:ay)(Q:VK),Inv X aaL Z H s->RelV x u->RelV y v->rd x y H Q->ez (eC X.prog X.w) X.A (inplaceOp op u v) (EP X aaL Z Q) X.xe s
def K_(K:Ug)(ta tv:TE)(rd:V->V->Hp->VK->Prop)(f:Str):TS:=λD Z H=>ta Z H λx H1=>∃a C dx fs v,x=.ref a/\H1 a=ap (.ins C dx fs)/\Cls K C/\NoAttr K C f/\fs.lookup f=ap v/\
 tv Z H1 λy H2=>rd v y H2 λz H3=>∃dx' fs',H3 a=ap (.ins C dx' fs')/\fs'.length<1000/\D.nx Z (upd H3 a<|.ins C dx'<|dB f z fs')
section
variable{f:Str}
theorem OM(G:PE X e ta)(F:kr e f X.env (fv e X.env)=fv e X.env):PE X (.Attribute e f pos) (tFld X.K ta f):=by
 intro aaL s Z H Q I h;refine Iv F (bu (G _ s Z H _ I h) λu L z=>?_);obtain⟨x,H1,I1,g,a,C,dx,fs,v,y,j,c,n,l,q⟩:=z;subst y;obtain rfl:u=UE a:=g;exact o5 I1 j c n l λJ s2 I2 B=>#[v,H1,I2,B,q]
theorem Qp(O:PE X o ta)(L:PE X value tv)(R:pb value (ap<|.Attribute o f pos') pos.line X.env=pure cp):PS X (.Assign [.Attribute o f pos'] value pos) (sFld X.K ta tv f):=by
 intro aaL s Z H D I h;refine plainObj_wpAny_Assign_Attribute (bu (L _ s Z H _ I h) λu G ⟨y,H1,I1,B,q⟩=>bu (O _ G Z H1 _ I1 q) λJ s2 z=>?_) R;obtain⟨x,H2,I2,g,a,C,dx,fs,v,j,c,n,l,F⟩:=z;subst v;obtain rfl:J=UE a:=g;exact mP I2 j c n l B λS I3=>#[Z,_,I3,F]
theorem qf(ha:PE X o ta)(hv:PE X value tv)(j:Pl X op B):PS X (.AugAssign (.Attribute o f tpos) op value pos) (K_ X.K ta tv B f):=by
 intro aaL s Z H D I h;refine wpAny_AugAssign_AttributeAny (bu (ha _ s Z H _ I h) λov s1 U=>?_);obtain⟨x,H1,I1,F,a,C,dx,fs,v,T,S,c,n,l,q⟩:=U;subst T;obtain rfl:ov=UE a:=F;exact o5 I1 S c n l λu s2 I2 Y=>bu (hv _ s2 Z H1 _ I2 q) (by rintro w3 G ⟨y,H2,I3,R,O⟩;exact bu (j _ G Z H2 v y u w3 _ I3 Y R O) (by rintro w4 s4 ⟨z,H3,I4,J,_,_,g,W,L⟩;exact mP I4 g c n W J λs5 I5=>#[Z,_,I5,L]))
def rAdd:V->V->Hp->VK->Prop:=λx y H Q=>∃i j,x=.int i/\y=.int j/\Q (.int (i+j)) H
def rSub:V->V->Hp->VK->Prop:=λx y H Q=>∃i j,x=.int i/\y=.int j/\Q (.int (i-j)) H
theorem Q6:Pl X .Add rAdd:=by
 rintro aaL s Z H x y u v Q I g l ⟨i,j,rfl,rfl,q⟩
 obtain⟨t,rfl⟩:=g;obtain⟨t',rfl⟩:=l;exact PyProof.Rows.iadd_int #[.int _,H,I.tok _,#[_,rfl],q]
theorem NW:Pl X .Sub rSub:=by
 rintro aaL s Z H x y u v Q I g l ⟨i,j,rfl,rfl,q⟩
 obtain⟨t,rfl⟩:=g;obtain⟨t',rfl⟩:=l;exact PyProof.Rows.isub_int #[.int _,H,I.tok _,#[_,rfl],q]
end
section
variable{b:Bool}
inductive TyOf(K:Ug)(H:Hp):V->ay->Prop where
 |non:TyOf K H .non (.type "NoneType")
 |bl (x:Bool):TyOf K H (.bl x) (.type "bool")
 |int (i:Int):TyOf K H (.int i) (.type "int")
 |str (x:Str):TyOf K H (.str x) (.type "str")
 |flt (x:UInt64):TyOf K H (.flt x) (.type "float")
 |lst {a:cb} {xs:List V} (e:H a=ap (.lst xs)):TyOf K H (.ref a) (.type "list")
 |frz {a:cb} {o:Obj} {xs:List V} (e:H a=ap (.frz o<|.lst xs)):TyOf K H (.ref a) (.type "list")
 |tup {a:cb} {xs:List V} (e:H a=ap (.tup xs)):TyOf K H (.ref a) (.type "tuple")
 |dK {a:cb} {aaN:List (aC×V)} (e:H a=ap (.dK aaN)):TyOf K H (.ref a) (.type "dict")
 |dT {a:cb} {aaN:List (List aC×V)} (e:H a=ap (.dT aaN)):TyOf K H (.ref a) (.type "dict")
 |ins {a C dx:cb} {fs:List (Str×V)} (e:H a=ap (.ins C dx fs)) (cl:Cls K C) (ha:U1 K (.ref C) "__class__"=ap (ap<|.builtin "object.__class__"))
   (hn:W.specialIn K (.builtin "object.__class__") "__get__"=ap (ap<|.builtin "getset_descriptor.__get__")) (htk:W.takesIn K (.builtin "object.__class__")=ap true)
   (hm:W.mroIn K C (.type "object")=ap true):TyOf K H (.ref a) (.ref C)
theorem Cq{x:V}(I:Inv X aaL Z H s)(g:RelV x u)(ty:TyOf X.K H x t)(e:W.kitOne X.K t c=ap b)(h:∀F,Q (.bool b) { s with toks:=F }):
  ez (eC X.prog X.w) A (call (.builtin "isinstance") [u,c]) Q E s:=by
 cases ty with
 |non=>cases (show u=U8 from g);exact V3 W.kitx_none I.kIn VS e (λz=>nomatch z) h
 |bl y=>cases (show u=YV y from g);exact V3 W.kitx_bool I.kIn VS e (λz=>nomatch z) h
 |int i=>obtain⟨t,q⟩:=(show ∃t,u=XD i t from g);cases q;exact V3 W.kitx_int I.kIn VS e (λz=>nomatch z) h
 |str y=>obtain⟨t,q⟩:=(show ∃t,u=XC y t from g);cases q;exact V3 W.kitx_str I.kIn VS e (λz=>nomatch z) h
 |flt y=>obtain⟨t,q⟩:=(show ∃t,u=Value.float y t from g);cases q;exact V3 W.kitx_float I.kIn VS e (λz=>nomatch z) h
 |@lst a l ea=>
  cases (show u=UE a from g);obtain⟨_,_,n,_,j⟩:=(show ObjOk X.prog X.w H s.heap a (.lst l) from I.hok a _ ea);exact V3 W.kitx_list I.kIn #[_,j,rfl] e (λz=>nomatch z) h
 |@frz a ob l ea=>
  cases (show u=UE a from g);obtain⟨_,_,_,n,_,j⟩:=(show ObjOk X.prog X.w H s.heap a (.frz ob<|.lst l) from I.hok a _ ea);exact V3 W.kitx_list I.kIn #[_,j,rfl] e (λz=>nomatch z) h
 |@tup a l ea=>
  cases (show u=UE a from g);obtain⟨_,_,_,p⟩:=(show ObjOk X.prog X.w H s.heap a (.tup l) from I.hok a _ ea);obtain⟨o,j,⟨v,_⟩,_⟩:=p;exact V3 W.kitx_tuple I.kIn #[o,j,v] e (λz=>nomatch z) h
 |@dK a aaN ea=>
  cases (show u=UE a from g);obtain⟨_,_,G,_,p⟩:=(show ObjOk X.prog X.w H s.heap a (.dK aaN) from I.hok a _ ea);obtain⟨o,es,B,j,v,_⟩:=p;exact V3 W.kitx_dict I.kIn #[o,j,v.1] e (λz=>nomatch z) h
 |@dT a aaN ea=>
  cases (show u=UE a from g);obtain⟨_,_,l,_,o,es,B,j,v,_⟩:=(show ObjOk X.prog X.w H s.heap a (.dT aaN) from I.hok a _ ea);exact V3 W.kitx_dict I.kIn #[o,j,v.1] e (λz=>nomatch z) h
 |@ins a C dx fs ea cl ha hn htk hm=>
  cases (show u=UE a from g);obtain⟨mA,O,_⟩:=kY I.hok ea;obtain⟨L,J,_⟩:=O.look;exact V3 (W.kitx_own (cl.get _) cl.hd ha hn htk hm) I.kIn J e (λz=>nomatch z) h
end
structure Room(k:Nat)(A:fy):Prop where
 hd:A.handled=bb
 dp:A.depth+3*k+5<recursionLimit
 un:A.units+16*k+200<k6
 gd:A.guards=ap []
theorem Room.mono(r:Room k A)(h:j<=k):Room j A:=#[r.hd,by have:=r.dp;lia,by have:=r.un;lia,r.gd]
theorem Room.deeper(r:Room (k+1) A)(env:Env):Room k (A.deeper env):=
 #[r.hd,by have:=r.dp;show A.depth+1+3*k+5<_;lia,by have:=r.un;show A.units+3+16*k+200<_;lia,r.gd]
theorem Room.in1(r:Room (k+1) A):Room k A.in1:=
 #[r.hd,by have:=r.dp;show A.depth+3*k+5<_;lia,by have:=r.un;show A.units+1+16*k+200<_;lia,r.gd]
theorem x_:(A.under<|.builtin "type.__call__" #[.ref C::us,kw]).depth=A.depth+1:=by
 rfl
theorem wC:(A.under<|.builtin "type.__call__" #[.ref C::us,kw]).units=A.units+1:=by
 rfl
theorem Mq:(A.under<|.builtin "type.__call__" #[.ref C::us,kw]).guards=A.guards:=by
 rfl
theorem Room.make(r:Room (k+1) A)(C:cb)(us:aaW)(kw:List (Str×ay)):Room k (A.under<|.builtin "type.__call__" #[.ref C::us,kw]):=
 #[r.hd,by have:=r.dp;rw[x_];lia,by have:=r.un;rw[wC];lia,by exact r.gd]
theorem Room.depth(r:Room k A):A.depth<recursionLimit:=by have:=r.dp;lia
theorem Room.units(r:Room k A):A.units+64<cLine:=by have:=r.un;lia
theorem Room.units0(r:Room k A):A.units<cLine:=by have:=r.un;lia
def SH:TA:=λ_ H Q=>Q [] H
def Tx(ta:TE)(tr:TA):TA:=λZ H Q=>ta Z H λx H1=>tr Z H1 λg H2=>Q (x::g) H2
theorem FP:PA X [] SH:=λ_ _ _ _ H Q I h=>V9 #[[],H,I,.nil,h]
theorem zc(y:PE X e te)(v:PA X es t)(z:eg (e::es) X.env=(cp,fv e X.env)::eg es X.env:=by rfl):PA X (e::es) (Tx te t):=by
 intro pos aaL s Z H Q I h;rw[z];show ez _ _ (spliced ((cp,fv e _)::g3 _ _)) _ _ s;exact VG (bu (y _ s Z H _ I h)<|by rintro u q ⟨x,H1,I1,j,l⟩;exact(bu (v _ _ q Z H1 _ I1 l)<|by rintro us s2 ⟨B,H2,I2,g,n⟩;exact#[_,H2,I2,.cons j g,n]))
def tTup(t:TA):TE:=λZ H Q=>t Z H λg H1=>g.length<=sizeLine/\∀p,H1 p=bb->Q (.ref p) (upd H1 p<|.tup g)
def tLst(t:TA):TE:=λZ H Q=>t Z H λg H1=>g.length<=sizeLine/\∀p,H1 p=bb->Q (.ref p) (upd H1 p<|.lst g)
theorem PX{x1}(h:PA X es t):PE X (.Tuple es x1 pos) (tTup t):=by
 intro aaL s Z H Q I g;refine wpAny_Tuple_spliced (bu (h _ _ s Z H _ I g) λus j ⟨l,H1,I1,r,z,q⟩=>#[by rw[<- r.length];exact z,?_])
 refine#[.ref _,_,I1.laid (λb u e=>Ua _ e) (Uk _) ?_,rfl,q _<|I1.hok.fresh<|Uk _];exact#[z,us,r,#[_,Uh _ rfl,#[rfl,_,rfl],rfl]]
theorem Ny(h:PA X es t):PE X (.List es pos) (tLst t):=by
 intro aaL s Z H Q I g;refine wpAny_List_spliced (bu (h _ _ s Z H _ I g) λus j ⟨l,H1,I1,r,z,q⟩=>#[by rw[<- r.length];exact z,?_])
 refine#[.ref _,_,I1.laid (λb u e=>Ua _ e) (Uk _) ?_,rfl,q _<|I1.hok.fresh<|Uk _];exact#[z,us,0,r,Uh _ rfl]
abbrev Sp:=List V->Hp->VK->XK->Prop
abbrev pE:=List Env->Hp->ca->XK->ay->ca->Prop
structure Env0(P:eS)(w:fx)(K:Ug)(mg:aa2)(base:g4)(A:fy)(outer:List Env)(s:ca)(H:Hp):Prop where
 frames:A.frames=ap outer
 mod:Mod K mg base
 bs:∀b o,base.get? b=ap o->s.heap.get? b=ap o/\H b=bb
 bsz:base.objs.size<=s.heap.objs.size
 funs:s.heap.FunFrames base outer
 frf:∀b∈iM outer,H b=bb
 hok:HOk P w H s.heap
 bare:Uf s.gens
def CE(outer:List Env)(P:eS)(w:fx)(H:Hp)(s:ca)(Q:VK)(u:ay)(s':ca):Prop:=
 ∃v H',s'.os=s.os/\Uf s'.gens/\Un (iM outer) [] H H' s.heap s'.heap/\HOk P w H' s'.heap/\RelV v u/\Q v H'
def CR(CX:pE)(outer:List Env)(P:eS)(w:fx)(H:Hp)(s:ca)(Q:VK)(E:XK)(r:aak)(s':ca):Prop:=
 match r with
 |.ok (.ret u)=>CE outer P w H s Q u s'
 |.ok _=>False
 |.error e=>CX outer H s E e s'
structure FnOk(P:eS)(w:fx)(K:Ug)(mg:aa2)(base:g4)(CX:pE)(k:Nat)(f:cb)(fd:f')(ps:aaV)(sp:Sp):Prop where
 len:∀vs H Q E,sp vs H Q E->vs.length=ps.length
 run:∀(A:fy)(outer:List Env)(s:ca)(H:Hp)(args:Args)(us:aaW)(vs:List V)(Q:VK)(E:XK),Room k A->Env0 P w K mg base A outer s H->aad s fd args (ps.zip us)->Vals vs us->sp vs H Q E->
  y' (eC P w) A (.call (.ref f) args) (CR CX outer P w H s Q E) s
theorem FnOk.imp(F:FnOk P w K mg base CX k f fd ps sp)(h:∀vs H Q E,j vs H Q E->sp vs H Q E):FnOk P w K mg base CX k f fd ps j:=
 #[λvs H Q E q=>F.len vs H Q E (h _ _ _ _ q),λA outer s H g us vs Q E n l z y v=>F.run A outer s H g us vs Q E n l z y (h _ _ _ _ v)]
theorem Env0.make(e:Env0 P w K mg base A outer s H)(C:cb)(us:aaW)(kw:List (Str×ay)):
  Env0 P w K mg base (A.under<|.builtin "type.__call__" #[.ref C::us,kw]) outer s H:=#[by first|exact e.frames|rfl,e.mod,e.bs,e.bsz,e.funs,e.frf,e.hok,e.bare]
theorem Env0.in1(e:Env0 P w K mg base A outer s H):
  Env0 P w K mg base A.in1 outer s H:=#[e.frames,e.mod,e.bs,e.bsz,e.funs,e.frf,e.hok,e.bare]
theorem Inv.env0(I:Inv X aaL Z H s):Env0 X.prog X.w X.K X.mg X.base X.A X.stack s H:=
 #[I.ok.frames,I.ok.mod,I.bs,Uu I.ok.bsz I.sz,I.stack,I.stkFree,I.hok,I.bare]
theorem Inv.after(I:Inv X aaL Z H s)(h:CE X.stack X.prog X.w H s Q u s'):EP X aaL Z Q u s':=by
 obtain⟨v,H',os,j,un,l,r,q⟩:=h;obtain⟨y,g,d,t,n⟩:=s';obtain rfl:n=s.os:=os;exact#[v,H',I.call (h':=y) (g':=g) (d':=d) (t':=t) (ch:=[]) un l j (λb z=>absurd z (by simp)),r,q]
def RB(sp:Sp)(dvs:List V)(E:XK)(t:TA):TE:=λZ H Q=>t Z H λg H1=>sp (g++dvs) H1 Q E
def Mc(C:cb)(m:Str)(sp:Sp)(dvs:List V)(E:XK)(ta:TE)(t:TA):TE:=λZ H Q=>ta Z H λx H1=>∃a dx fs,x=.ref a/\H1 a=ap (.ins C dx fs)/\fs.lookup m=bb/\
 t Z H1 λg H2=>sp (x::(g++dvs)) H2 Q E
def Rj(C:cb)(sp:Sp)(dvs:List V)(E:XK)(t:TA):TE:=λZ H Q=>t Z H λg H1=>∀x dx,H1 x=bb->H1 dx=bb->dx≠x->
 sp (.ref x::(g++dvs)) (upd (upd H1 dx<|.own x) x<|.ins C dx []) (λv H2=>v=.non/\Q (.ref x) H2) E
def Binds(K:Ug)(fd:f')(ps:aaV)(ds:aaW):Prop:=
 ∀(s:ca)(us:aaW),K.In s.heap->(us++ds).length=ps.length->aad s fd #[us,[]] (ps.zip (us++ds))
theorem Binds.all(h:∀us:List ay,us.length=ps.length->aah fd #[us,[]]=pure (ps.zip us)):Binds K fd ps []:=λs us _ g=>by
 rw[U0]at g ⊢;exact .of_eq (h us g)
def bO(CX:pE)(X:Cx)(E:XK):Prop:=∀(aaL:aa1)(Z:St)(H:Hp)(s:ca)(e:ay)(s':ca),Inv X aaL Z H s->CX X.stack H s E e s'->X.xe e s'
theorem xf(F:FnOk X.prog X.w X.K X.mg X.base CX k f fd ps sp)(z:Room k X.A)(q:Binds X.K fd ps ds)(y:Vals dvs ds)(v:bO CX X E)(I:Inv X aaL Z H s)(r:Vals vs us)(h:sp (vs++dvs) H Q E):ez (eC X.prog X.w) X.A (call (.ref f) us) (EP X aaL Z Q) X.xe s:=by
 have j:Vals (vs++dvs) (us++ds):=r.append y;have n:(us++ds).length=ps.length:=by rw[<- j.length];exact F.len _ _ _ _ h
 refine aaf (q0 (F.run X.A X.stack s H #[us,[]] (us++ds) (vs++dvs) Q E z I.env0 (q s us I.kIn n) j h) λr l g=>?_);cases r with
 |error e=>exact v aaL Z H s e l I g
 |ok fl=>
  cases fl with
  |ret u=>exact I.after g
  |next=>exact Vk g
  |brk=>exact Vk g
  |cont=>exact Vk g
theorem Aa(F:FnOk X.prog X.w X.K X.mg X.base CX k f fd ps sp)(v:Room k X.A)(z:Gl X x)(l:X.mg x=ap (.ref f))(y:Vq X.K (.ref f)=true)(B:Binds X.K fd ps ds)(G:Vals dvs ds)(j:bO CX X E)(n:PA X (e::es) t)(g:(x==("__debug__":Str))=false:=by decide)(he:eg (e::es) X.env=(cp,fv e X.env)::eg es X.env:=by rfl)(hpl:(g3 pos<|starEach es X.env).any (·.1)=false:=by rfl):
  PE X (.Call (.Name x p) (e::es) [] pos) (RB sp dvs E t):=by
 intro aaL s Z H Q I h;exact mo (gX I z l (XM (h₀:=X.base) I.ok.mod.kin y (bu (n pos aaL s Z H _ I h)<|by rintro us L ⟨J,H1,I1,r,q⟩;exact#[I1.kIn,xf F v B G j I1 r q]) he hpl) g)
theorem KA(L:PE X o ta)(c:Cls X.K C)(j:Meth X.K C m f)(F:FnOk X.prog X.w X.K X.mg X.base CX k f fd ps sp)(R:Room k X.A)(S:Binds X.K fd ps ds)(T:Vals dvs ds)(J:bO CX X E)(O:PA X (e::es) t)(g:eg (e::es) X.env=(cp,fv e X.env)::eg es X.env:=by rfl)(hpl:(g3 pos<|starEach es X.env).any (·.1)=false:=by rfl)(ht:fv (.Call (.Attribute o m aaQ) (e::es) [] pos) X.env=(do
   let ov <- fv o X.env
   L' aaQ.atName
   let (f,first) <- qb [ov] (B' ov m pl)
   Z5 pos f first (g3 pos<|starEach (e::es) X.env) (p1 pos<|keywordEach [] X.env)):=by rfl):
  PE X (.Call (.Attribute o m aaQ) (e::es) [] pos) (Mc C m sp dvs E ta t):=by
 intro aaL s Z H Q I h;refine W.methodCall_KW (pl:=pl) (bu (L aaL s Z H _ I h) λu G z=>?_) ht;obtain⟨x,H1,I1,n,a,dx,fs,y,v,l,q⟩:=z;subst y;obtain rfl:u=UE a:=n;refine oO I1 v c j l ?_;refine XM (first:=[.ref a]) (h₀:=X.base) I.ok.mod.kin j.kp (bu (O pos aaL G Z H1 _ I1 q) λus s2 ⟨vs,H2,I2,r,B⟩=>#[I2.kIn,?_]) g hpl
 exact xf (us:=.ref a::us) (vs:=.ref a::vs) F R S T J I2 (.cons rfl r) B
theorem E9(B:PE X o ta)(c:Cls X.K C)(g:Meth X.K C m f)(F:FnOk X.prog X.w X.K X.mg X.base CX k f fd ps sp)(J:Room k X.A)(L:Binds X.K fd ps ds)(O:Vals dvs ds)(z:bO CX X E)(G:fv (.Call (.Attribute o m aaQ) [] [] pos) X.env=(do
   let ov <- fv o X.env
   L' aaQ.atName
   let (f,first) <- qb [ov] (B' ov m pl)
   Z5 pos f first (g3 pos<|starEach [] X.env) (p1 pos<|keywordEach [] X.env)):=by rfl):
  PE X (.Call (.Attribute o m aaQ) [] [] pos) (Mc C m sp dvs E ta SH):=by
 intro aaL s Z H Q I h;refine W.methodCall_KW (pl:=pl) (bu (B aaL s Z H _ I h) λu R y=>?_) G;obtain⟨x,H1,I1,j,a,dx,fs,v,n,l,q⟩:=y;subst v;obtain rfl:u=UE a:=j;refine oO I1 n c g l ?_;exact W.callWith_K0 (first:=[.ref a]) I1.kIn g.kp (xf (us:=[.ref a]) (vs:=[.ref a]) F J L O z I1 (.cons rfl .nil) q)
structure Mk(K:Ug)(C f:cb):Prop where
 makes:Xe K C=true
 init:U1 K (.ref C) "__init__"=ap (ap<|.ref f)
 fn:W.isFn K (.ref f)=true
 kp:Vq K (.ref C)=true
theorem Eb(M:Mk X.K C f)(F:FnOk X.prog X.w X.K X.mg X.base CX k f fd ps sp)(O:Room (k+1) X.A)(G:Binds X.K fd ps ds)(L:Vals dvs ds)(J:bO CX X E)(I:Inv X aaL Z H s)(r:Vals vs us)(h:∀x dx,H x=bb->H dx=bb->dx≠x->sp (.ref x::(vs++dvs)) (upd (upd H dx<|.own x) x<|.ins C dx []) (λv H2=>v=.non/\Q (.ref x) H2) E):
  ez (eC X.prog X.w) X.A (call (.ref C) us) (EP X aaL Z Q) X.xe s:=by
 have j:=h _ _ (I.hok.fresh<|VU _) (I.hok.fresh<|Uk _) (Uv<|Nat.lt_succ_self _);have I2:=Ig (C:=C) I;have l:Vals (V.ref (s.heap.objs.size+1)::(vs++dvs)) _:=.cons rfl (r.append L);have z:(UE (s.heap.objs.size+1)::us++ds).length=ps.length:=by
  have e:=l.length;rw[F.len _ _ _ _ j]at e;exact e.symm
 refine aaf (FL I.kIn M.makes M.init (beq_iff_eq.mp M.fn) (q0 (F.run _ _ _ _ _ _ _ _ E (O.make C us [])
  (I2.env0.make C us []) (G _ _ I2.kIn z) l j) λr n g=>?_))
 cases r with
 |error e=>exact J _ Z _ _ e n I2 g
 |ok fl=>
  cases fl with
  |ret u=>
   obtain⟨v,H',I3,y,q,B⟩:=I2.after g;subst q;exact#[y,#[V.ref _,H',I3,rfl,B]]
  |next=>assumption
  |brk=>assumption
  |cont=>assumption
theorem JP(M:Mk X.K C f)(F:FnOk X.prog X.w X.K X.mg X.base CX k f fd ps sp)(v:Room (k+1) X.A)(y:Gl X x)(l:X.mg x=ap (.ref C))(z:Binds X.K fd ps ds)(B:Vals dvs ds)(j:bO CX X E)(n:PA X (e::es) t)(g:(x==("__debug__":Str))=false:=by decide)(he:eg (e::es) X.env=(cp,fv e X.env)::eg es X.env:=by rfl)(hpl:(g3 pos<|starEach es X.env).any (·.1)=false:=by rfl):
  PE X (.Call (.Name x p) (e::es) [] pos) (Rj C sp dvs E t):=by
 intro aaL s Z H Q I h;exact mo (gX I y l (XM (h₀:=X.base) I.ok.mod.kin M.kp (bu (n pos aaL s Z H _ I h)<|by rintro us J ⟨G,H1,I1,r,q⟩;exact#[I1.kIn,Eb M F v z B j I1 r q]) he hpl) g)
structure FnScope(N P:aaV)(sc:qa):Prop where
 kind:sc.kind=.function
 co:sc.isCoroutine=cp
 gen:sc.isGenerator=cp
 nd:N.Nodup
 pre:N.take P.length=P
 par:∀x∈P,sc.names.lookup x=ap .local\/sc.names.lookup x=ap .cell
 nofree:∀y∈sc.names,y.2≠.free
theorem qz{x:Str}:∀{binds:List (Str×ay)}{m:aa2},(∀v,(x,v)∉binds)->bindL g binds m x=m x
 |[],_,_=>rfl
 |(n,v)::r,m,h=>by
  unfold bindL;rw[qz λw j=>h w (Ui _ j)]
  split
  .have:x≠n:=by rintro rfl;exact h v Uw
   simp[this]
  rfl
theorem qm{x:Str}:∀{binds:List (Str×ay)}{m:aa2},(∀v,(x,v)∉binds)->bindC g binds m x=m x
 |[],_,_=>rfl
 |(n,v)::r,m,h=>by
  unfold bindC;rw[qm λw j=>h w (Ui _ j)]
  split
  .rfl
  have:x≠n:=by rintro rfl;exact h v Uw
  simp[this]
theorem pQ{kindOf:Str->Option aal}{x:Str}{v:ay}:∀{P:aaV}{vs:aaW}{i:Nat}{m:aa2},P.Nodup->P[i]?=ap x->vs[i]?=ap v->kindOf x=ap .local->
  bindL kindOf (P.zip vs) m x=ap v
 |[],_,_,_,_,h,_,_=>by simp at h
 |_::_,[],_,_,_,_,h,_=>by simp at h
 |p::P,w::vs,0,m,nd,h1,h2,hk=>by
  simp at h1 h2;subst h1 h2;show bindL _ ((p,w)::P.zip vs) m p=_;unfold bindL;rw[qz λv hv=>(Vr.mp nd).1 (Wu hv).1,if_pos hk];simp
 |p::P,w::vs,i+1,m,nd,h1,h2,hk=>by
  unfold bindL;exact pQ (Vr.mp nd).2 (by trivial) (by trivial) hk
theorem pZ{kindOf:Str->Option aal}{x:Str}{v:ay}:∀{P:aaV}{vs:aaW}{i:Nat}{m:aa2},P.Nodup->P[i]?=ap x->vs[i]?=ap v->kindOf x≠ap .local->
  bindC kindOf (P.zip vs) m x=ap v
 |[],_,_,_,_,h,_,_=>by simp at h
 |_::_,[],_,_,_,_,h,_=>by simp at h
 |p::P,w::vs,0,m,nd,h1,h2,hk=>by
  simp at h1 h2;subst h1 h2;show bindC _ ((p,w)::P.zip vs) m p=_;unfold bindC;rw[qm λv hv=>(Vr.mp nd).1 (Wu hv).1,if_neg hk];simp
 |p::P,w::vs,i+1,m,nd,h1,h2,hk=>by
  unfold bindC;exact pZ (Vr.mp nd).2 (by trivial) (by trivial) hk
noncomputable def start(N:aaV)(vs:List V):St:=vs.map ap++UG (N.length-vs.length) bb
noncomputable def eM(CX:pE)(P:eS)(w:fx)(K:Ug)(mg:aa2)(base:g4)(N:aaV)(aaM:Str)(scope:qa)(f:cb)(cd:ay)(A:fy)(outer:List Env)(s:ca)(H:Hp)(E:XK):Cx where
 prog:=P
 w:=w
 K:=K
 mg:=mg
 base:=base
 A:=A.deeper (envOfC aaM scope s.heap.objs.size f cd)
 N:=N
 s₀:=s
 H₀:=H
 env:=envOfC aaM scope s.heap.objs.size f cd
 outer:=outer
 stack:=envOfC aaM scope s.heap.objs.size f cd::outer
 ex:=[]
 calm:=true
 fn:=λ_=>true
 pn:=[]
 xe:=λe j=>ez (eC P w) (A.deeper<|envOfC aaM scope s.heap.objs.size f cd) (leaving (envOfC aaM scope s.heap.objs.size f cd) e) (λ_ g=>CX outer H s E e g) (λl g=>CX outer H s E l g) j
theorem vZ{g:qa}(h:g.names.lookup x=ap .cell):∃c,(cellsFrom n g.names []).lookup x=ap c:=by
 exact X7.mp (W.cellsFrom_some _ n []<|.inl h)
theorem Cz(S:FnScope N ps g)(hd:A.handled=bb)(l:Env0 P w K mg base A outer s H)(hl:vs.length=ps.length)(r:Vals vs us)(x:InCallC s s.heap.objs.size (bindL (envOfC j g s.heap.objs.size f J).kindOf (ps.zip us) λ_=>bb) (cellsFrom (s.heap.objs.size+1) g.names []) (bindC (envOfC j g s.heap.objs.size f J).kindOf (ps.zip us) λ_=>bb) T):
  Inv (eM CX P w K mg base N j g f J A outer s H E) [] (start N vs) H T:=by
 have U:ps.length<=N.length:=by have:=congrArg VD S.pre;rw[W8]at this;lia
 obtain⟨I,tk,rfl,R⟩:=x.done;have B:∀b:cb,b∉(eM CX P w K mg base N j g f J A outer s H E).ex:=λb z=>absurd (show b∈[] from z) (by simp)
 refine#[#[l.mod,S.kind,rfl,rfl,Uk _,λy z c I n=>?_,λy hy=>?_,λy c _ h=>?_,λ_=>hd,Around.frames_deeper l.frames,.inr #[rfl,rfl],λb z=>absurd z (B b),l.bs,l.bsz,λb _ _=>B b,λb z=>absurd z (B b),l.funs,l.frf],
  rfl,l.bare,Un.kept R,#[_,x.toInCall.ns,λi y v I n h3=>?_],λy c h=>#[_,x.cell y c h],l.hok.fresh (Uk _),λy c h=>?_,λp G=>absurd (show p∈[] from G) (by simp),l.hok.kept R,?_]
 .exact name_of_addr x.apart (Vt I) (Vt n)
 .rcases hy with hy|hy
  .exact vZ hy
  exact absurd rfl (S.nofree _<|Vt hy)
 .exact V0 (x.above y c<|Vt h)
 .have L:i<vs.length:=by
   unfold start at n
   by_cases L:i<vs.length
   .exact L
   rw[Vi (by simpa using L)]at n
   rw[Yz]at n
   split at n<;>cases n
  have W:vs[i]?=ap v:=by
   unfold start at n;rw[WU (by simp_all)]at n
   cases e:vs[i]?<;>simp_all
  obtain⟨u,O,Y⟩:=r.get W;have G:ps[i]?=ap y:=by
   rw[<- S.pre,List.getElem?_take_of_lt (by lia)];exact I
  have F:ps.Nodup:=by rw[<- S.pre];exact S.nd.sublist (List.take_sublist _ _)
  refine#[u,Y,?_];rcases S.par y (Vf G) with k|k
  .exact .inl #[k,pQ F G O k]
  obtain⟨c,e⟩:=vZ k;refine .inr #[.inl k,c,e,?_];have q:=x.cell y c e;rw[pZ F G O (by show g.names.lookup y≠_;rw[k];decide)]at q
  exact q
 .exact l.hok.fresh (V0<|x.above y c<|Vt h)
 unfold start;show _=N.length;rw[UC,Ub,List.length_replicate];lia
theorem Nb{kV:ay}(lk:K.lookup f=ap #[oc,od,.func (Wt name j z body g dV kV T pm an l ct),osl])(hcd:XJ K l j=true)(S:FnScope N ps g)(len:∀vs H Q E,sp vs H Q E->vs.length=ps.length)(G:∀(A:fy)(outer:List Env)(s:ca)(H:Hp)(vs:List V)(Q:VK)(E:XK),Room k (A.deeper<|envOfC j g s.heap.objs.size f l)->sp vs H Q E->
   ∃t,C1 (eM CX P w K mg base N j g f l A outer s H E) body t/\t { nx:=λ_ H'=>Q .non H',rt:=Q } (start N vs) H):
  FnOk P w K mg base CX (k+1) f (Wt name j z body g dV kV T pm an l ct) ps sp:=by
 refine#[len,λA outer s H args us vs Q E U O hb r R=>?_];have hl:=len _ _ _ _ R;have KX:K.In s.heap:=O.mod.kin.keeps λb o e=>(O.bs b o e).1;have Y:s.heap.NoLimit:=O.mod.nolimit.keeps λb o e=>(O.bs b o e).1;have F:∀y∈ps.zip us,g.names.lookup y.1=ap .local\/(g.names.lookup y.1=ap .cell/\((cellsFrom (s.heap.objs.size+1) g.names []).lookup y.1).isSome=true):=λ⟨n,v⟩ hy=>by
  rcases S.par n (Wu hy).1 with q|q
  .exact .inl q
  .exact .inr #[q,W.cellsFrom_some _ _ _<|.inl q]
 refine codeAny_call_function U.depth (KX _ _ lk) rfl S.co S.gen rfl (W.codeRec_of KX hcd) (hb _ _ _ _ ?_);refine wpAny_newFunctionEnv_cells S.kind F λenv he s1 x=>?_;subst he;refine#[Y.keeps x.toInCall.keep,codeAny_func ?_];obtain⟨t,ht,hq⟩:=G A outer s H vs Q E (U.deeper _) R;have I:Inv (eM CX P w K mg base N j g f l A outer s H E) [] (start N vs) H s1:=Cz S U.hd O hl r x;refine j0 (ht [] s1 (start N vs) H _ I hq) (λfl s' L=>?_) λe s' L=>L;have fin:∀{B:St}{H':Hp}{v:V}{u:ay},Inv (eM CX P w K mg base N j g f l A outer s H E) [] B H' s'->RelV v u->Q v H'->CE outer P w H s Q u s':=
  λ{B H' v u} J rv q=>#[v,H',J.os,J.bare,J.base,J.hok,rv,q]
 cases fl with
 |ret u=>
  obtain⟨v,B,H',J,rv,q⟩:=L;exact fin J rv q
 |next=>
  obtain⟨B,H',J,q⟩:=L;exact fin (v:=V.non) (u:=U8) J rfl q
 |brk=>
  obtain⟨_,_,_,q⟩:=L;exact Vk q
 |cont=>
  obtain⟨_,_,_,q⟩:=L;exact Vk q
section
variable{id:String}{r:List V->Hp->VK->Prop}
def tCB(r:List V->Hp->VK->Prop)(t:TA):TE:=λZ H Q=>t Z H λg H1=>r g H1 Q
theorem Fu(B:bt X (.builtin id) r)(z:Gl X x)(y:X.mg x=bb)(q:eT x=ap (.builtin id))(v:PA X (e::es) t)(F:x≠"__name__":=by decide)(hdb:(x==("__debug__":Str))=false:=by decide)(he:eg (e::es) X.env=(cp,fv e X.env)::eg es X.env:=by rfl)(hpl:(g3 pos<|starEach es X.env).any (·.1)=false:=by rfl):PE X (.Call (.Name x p) (e::es) [] pos) (tCB r t):=by
 intro aaL s Z H Q I h;refine mo (di I z y q ?_ F hdb);exact PyProof.Rows.callWith_builtin1 (bu (v pos aaL s Z H _ I h) λus n ⟨l,H1,I1,g,j⟩=>B aaL n Z H1 l us Q I1 g j) he hpl
theorem D5(B:bt X (.type T) r)(z:Gl X x)(y:X.mg x=bb)(q:eT x=ap (.type T))(v:PA X (e::es) t)(F:x≠"__name__":=by decide)(hdb:(x==("__debug__":Str))=false:=by decide)(he:eg (e::es) X.env=(cp,fv e X.env)::eg es X.env:=by rfl)(hpl:(g3 pos<|starEach es X.env).any (·.1)=false:=by rfl):PE X (.Call (.Name x p) (e::es) [] pos) (tCB r t):=by
 intro aaL s Z H Q I h;refine mo (di I z y q ?_ F hdb);exact UR (bu (v pos aaL s Z H _ I h) λus n ⟨l,H1,I1,g,j⟩=>B aaL n Z H1 l us Q I1 g j) he hpl
end
end _2
namespace HT
open PySem PyProof.Rows
theorem Kc(y:IsTup s.heap t vs.toArray)(z:IsTup s.heap b a.toArray)(x:vs≠[])
  (C:a=[]->Q (.ref t) s) (B:a≠[]->Q (.ref s.heap.objs.size) { s with heap:=s.heap.push { cls:=.type "tuple",data:=.seq (vs++a).toArray } })
  (hsz:vs.length+a.length<=sizeLine):ez (eC prog w) A (hG .Add (.ref t)<|.ref b) Q E s:=by
 obtain⟨⟨cls,o,data,u⟩,l,r,n,q⟩:=id y;obtain⟨⟨p,i,m,g⟩,c,f,v,h⟩:=id z;simp only at r q f h;subst r q f h;have e:vs.toArray++a.toArray=(vs++a).toArray:=by simp
 by_cases j:a=[]
 .exact aaB #[_,l,rfl] #[_,c,rfl] Z9 aap W4 WX (WQ _ _)
   (tuple_addW1 t b vs.toArray a.toArray n v o i u g (by simpa using x)<|by simp[j]) #[l,c,C j]
 .refine aaB #[_,l,rfl] #[_,c,rfl] Z9 aap W4 WX (WQ _ _)
   (tuple_addW2 t b vs.toArray a.toArray n v o i u g (by simpa using x) (by simpa using j)<|by rw[Uo,Uo];exact hsz) #[l,c,?_]
  rw[e];exact B j
noncomputable def sIx(n d:Nat):Option Int->Nat
 |none=>d
 |some v=>if v<0 then (v+(n:Int)).toNat else min v.toNat n
theorem Gc(n d:Nat):sIx n d bb=d:=rfl
theorem JB(n d k:Nat):sIx n d (ap (k:Int))=min k n:=by
 rfl
theorem sIx_le(n d:Nat)(a:d<=n)(o:Option Int):sIx n d o<=n:=by
 cases o with
 |none=>exact a
 |some v=>
  show (if v<0 then (v+n).toNat else min _ n)<=n
  lia
theorem zY(v:Int)(n d:Nat):(if v<0 then max (v+(n:Int)) 0 else min v (n:Int))=((sIx n d (ap v):Nat):Int):=by
 show (if v<0 then max _ 0 else min v _)=(if v<0 then (v+(n:Int)).toNat else min v.toNat n)
 lia
theorem y6(a b:Option Int)(n:Nat):Xr a b 1 (n:Int)=(((sIx n 0 a:Nat):Int),((sIx n n b:Nat):Int)):=by
 refine Prod.ext ?_ ?_
 .cases a with
  |none=>rfl
  |some v=>exact zY v n 0
 cases b with
 |none=>rfl
 |some v=>exact zY v n n
theorem xE(i j:Nat):Wm (i:Int) (j:Int) 1=j-i:=by
 unfold Wm
 split<;>lia
theorem oR(p:W1 v o)(h:Q o s):ez (eC prog w) A (Builtin.Slice.slicePartIndex v) Q E s:=by
 cases p with
 |none=>exact slicePart_none h
 |int i t=>exact slicePart_int h
theorem eZ{Q:Int×Int×Nat->ca->Prop}(l:s.heap.IsSliceOf i g f .none)(pl:W1 g a)(m:W1 f e)
  (h:Q (((sIx n 0 a:Nat):Int),1,sIx n n e-sIx n 0 a) s):ez (eC prog w) A (Builtin.Slice.sliceApplied (.ref i)<|pure (n:Int)) Q E s:=by
 obtain⟨o,c,j,b⟩:=id l;refine ax (ax<|wpAny_field c b rfl<|wpAny_bind<|wpAny_field c b rfl<|wpAny_bind<|wpAny_field c b rfl<|wpAny_pure ?_);refine ax (slicePart_none ?_);refine ax (oR pl<|wpAny_bind<|oR m<|wpAny_bind<|wpAny_pure ?_);show ez _ _ (match Xr a e 1 _ with|(a,e)=>pure (a,(1:Int),Wm a e 1)) _ _ s
 rw[y6 a e n];show ez _ _ (pure _) _ _ s;rw[xE];exact cx h
theorem I0(xs:aa3)(i k:Nat):((Ut k).filterMap λ(m:Nat)=>xs[((i:Int)+(m:Int)*1).toNat]?).toArray=((xs.toList.drop i).take k).toArray:=by
 have e:(λ(m:Nat)=>xs[(i+(m:Int)*1).toNat]?)=λm=>xs[i+m]?:=by
  funext m;have:(i+(m:Int)*1).toNat=i+m:=by lia
  rw[this]
 rw[e];have:=pick_run xs i k;have a:((λx=>xs[x]?) ∘ λx=>i+x)=λm=>xs[i+m]?:=rfl
 simp_all
theorem j5(f:IsTup s.heap t a)(o:s.heap.IsSliceOf m p n .none)(pl:W1 p b)(x:W1 n e)
  (v:¬(sIx a.size 0 b=0/\sIx a.size a.size e=a.size))
  (h:Q (.ref s.heap.objs.size) { s with heap:=s.heap.push { cls:=.type "tuple",data:=.seq ((a.toList.drop<|sIx a.size 0 b).take (sIx a.size a.size e-sIx a.size 0 b)).toArray } })
  (hsz:a.size<=sizeLine):ez (eC prog w) A (W_ (.ref t)<|.ref m) Q E s:=by
 have c:sizeOk (.seq ((a.toList.drop<|sIx a.size 0 b).take (sIx a.size a.size e-sIx a.size 0 b)).toArray):=by
  show ((a.toList.drop _).take _).toArray.size<=sizeLine;rw[Uo,W8,List.length_drop,Vd];lia
 obtain⟨r,g,l,u⟩:=id o;have j:s.TypeIs (.ref m) _:=#[r,g,l];unfold W_
 try with_reducible refine kc ?_
 refine ax (wpAny_sequenceKey f.typeIs (by decide) ?_)
 refine ax (wpAny_callSpecial?_slot f.typeIs U4
  (kL U4 f.typeIs entry_tuple_getitem ?_<|args_tuple_getitem _ _))
 show ez _ _ (Xp _ >>= _) _ _ s;refine ax (tupleItemsOf_ f ?_);refine ax (Z1 j ?_);refine ax (eZ o pl x ?_);have i:¬((((sIx a.size 0 b):Int)==0&&(1:Int)==1&&(sIx a.size a.size e-sIx a.size 0 b)==a.size)=true):=by
  intro q;rw[Vl,Vl]at q;have y:=eq_of_beq q.1.1;have z:=eq_of_beq q.2;exact v #[by lia,by lia]
 show ez _ _ (if (((sIx _ 0 b):Int)==0&&1==1&&(sIx _ _ e-sIx _ 0 b)==a.size)=true then _ else _) _ _ s
 rw[if_neg i,I0]
 first
  |exact ax (p7 (cx #[_,rfl,cx h]) c)
  |rfl
  |rfl
  |rfl
end HT
namespace _2
open PySem PySem.Spec PyProof.Rows
variable{xs:List (List aC×cb×ay)}{aaR:aaW}{n:Nat}{α:Type}{u:ay}
abbrev TO:=St->Hp->(Option Int->Hp->Prop)->Prop
def PO(X:Cx)(e:Option eX)(t:TO):Prop:=
 ∀(aaL:aa1)(s:ca)(Z:St)(H:Hp)(Q:Option Int->Hp->Prop),Inv X aaL Z H s->t Z H Q->
  ez (eC X.prog X.w) X.A (evalPart e X.env) (λu c=>∃o H',Inv X aaL Z H' c/\W1 u o/\Q o H') X.xe s
def L8:TO:=λ_ H Q=>Q bb H
def RP(t:TE):TO:=λZ H Q=>t Z H λx H1=>∃i,x=.int i/\Q (ap i) H1
section
variable{lo hi:Option eX}
theorem Js:PO X bb L8:=by
 intro aaL s Z H Q I h;exact cx #[_,H,I,.none,h]
theorem Jx(h:PE X e te):PO X (ap e) (RP te):=by
 intro aaL s Z H Q I j;refine bu (h _ s Z H _ I j) λu l c=>?_;obtain⟨x,H1,I1,f,g⟩:=c;obtain⟨i,rfl,q⟩:=g;obtain⟨t,rfl⟩:=f;exact#[_,H1,I1,.int i t,q]
def SI(X:Cx)(r:V->Option Int->Option Int->Hp->VK->Prop):Prop:=
 ∀(aaL:aa1)(s:ca)(Z:St)(H:Hp)(x:V)(v vl vu:ay)(lo hi:Option Int)(sl:cb)(Q:VK),Inv X aaL Z H s->RelV x v->s.heap.IsSliceOf sl vl vu .none->W1 vl lo->W1 vu hi->r x lo hi H Q->
  ∃T id,y1 (.type T) "__getitem__"=pure (ap<|.builtin id)/\s.TypeIs v T/\ez (eC X.prog X.w) X.A (W_ v<|.ref sl) (EP X aaL Z Q) X.xe s
def tSl(r:V->Option Int->Option Int->Hp->VK->Prop)(te:TE)(tl th:TO):TE:=λZ H Q=>te Z H λx H1=>tl Z H1 λl H2=>th Z H2 λu H3=>r x l u H3 Q
theorem Ex(L:SI X r)(K:PE X e te)(G:PO X lo tl)(J:PO X hi th):PE X (.Subscript e (.Slice lo hi bb p2) pos) (tSl r te tl th):=by
 intro aaL s Z H Q I h;refine Subscript_ (bu (K aaL s Z H _ I h) λv C ⟨x,H1,I1,p,y⟩=>?_);refine wpAny_Slice (bu (G aaL C Z H1 _ I1 y) λg s2 ⟨l,H2,I2,pl,B⟩=>bu (J aaL s2 Z H2 _ I2 B) λf c ⟨u,H3,I3,m,F⟩=>?_);rw[evalPart_none];refine cx ?_;have I4:Inv X aaL Z H3 { c with heap:=c.heap.push { cls:=.type "slice",data:=.fields (Tw [g,f,.none]) } }:=I3.kept (t':=c.toks) λb M q=>Ua _ q;obtain⟨T,id,j,i,z⟩:=L aaL { c with heap:=c.heap.push { cls:=.type "slice",data:=.fields (Tw [g,f,.none]) } } Z H3 x v g f l u c.heap.objs.size Q I4 p (Heap.IsSliceOf.new ..) pl m F;show ez (eC X.prog X.w) X.A (subscriptTail e (.Slice lo hi bb p2) v<|.ref c.heap.objs.size) (EP X aaL Z Q) X.xe { c with heap:=c.heap.push { cls:=.type "slice",data:=.fields (Tw [g,f,.none]) } };exact tail_any (ops:=[.ref c.heap.objs.size,v]) i j z (by with_unfolding_all rfl)
def pA(xs:List V)(lo hi:Option Int):List V:=(xs.drop<|HT.sIx xs.length 0 lo).take (HT.sIx xs.length xs.length hi-HT.sIx xs.length 0 lo)
theorem kz(xs:List V)(lo hi:Option Int):(pA xs lo hi).length<=xs.length:=by
 unfold pA;rw[W8,List.length_drop];lia
def rSlT(K:Ug):V->Option Int->Option Int->Hp->VK->Prop:=λx lo hi H Q=>∃a xs,x=.ref a/\ku K H a xs/\
 ¬(HT.sIx xs.length 0 lo=0/\HT.sIx xs.length xs.length hi=xs.length)/\∀p,H p=bb->Q (.ref p) (upd H p<|.tup<|pA xs lo hi)
theorem Od:SI X (rSlT X.K):=by
 rintro aaL s Z H x v B z lo hi y Q I g i pl j ⟨a,xs,rfl,h,m,q⟩
 cases g;obtain⟨aaR,r,f,l⟩:=I.tuple h;have c:aaR.toArray.size=xs.length:=by exact r.length.symm
 refine#[_,_,U4.lookup,f.typeIs,?_];refine HT.j5 f i pl j (by rw[c];exact m) ?_ (by simp_all)
 rw[c];refine#[.ref _,_,I.laid (λb p q=>Ua _ q) (Uk _) ?_,rfl,q _<|I.hok.fresh<|Uk _];exact#[Uu (kz xs lo hi) l,_,(r.drop _).take _,#[_,Uh _ rfl,#[rfl,_,rfl],rfl]]
def SX(K:Ug):R2:=λx y H Q=>∃a b xs ys,x=.ref a/\y=.ref b/\ku K H a xs/\ku K H b ys/\xs≠[]/\xs.length+ys.length<=sizeLine/\
 (ys=[]->Q (.ref a) H)/\(ys≠[]->∀p,H p=bb->Q (.ref p) (upd H p<|.tup (xs++ys)))
theorem Vals.nil_iff{xs:List V}(r:Vals xs us):us=[]↔xs=[]:=by
 cases r<;>simp_all
theorem Jl:cM X (hG .Add) (SX X.K):=by
 rintro aaL s Z H x y v u Q I g C ⟨a,b,xs,G,rfl,rfl,i,m,h,l,j,p⟩
 cases g;cases C;obtain⟨aaR,c,B,_⟩:=I.tuple i;obtain⟨f,r2,p2,_⟩:=I.tuple m;refine HT.Kc B p2 (λz=>h (c.nil_iff.mp z)) (λz=>#[.ref a,H,I,rfl,j<|r2.nil_iff.mp z]) (λz=>?_) (by rw[<- c.length,<- r2.length];exact l)
 refine#[.ref _,_,I.laid (λb F q=>Ua _ q) (Uk _) ?_,rfl,p (λw=>z (r2.nil_iff.mpr w)) _<|I.hok.fresh<|Uk _];exact#[by simp_all,_,c.append r2,#[_,Uh _ rfl,#[rfl,_,rfl],rfl]]
end
noncomputable def wQ(n:Nat)(i:Int):Option Nat:=if 0<=i then (if i<n then ap i.toNat else bb) else if -(n:Int)<=i then ap (i+n).toNat else bb
def atI{α:Type}(xs:List α)(i:Int):Option α:=(wQ xs.length i).bind λj=>xs[j]?
theorem qH(h:wQ n i=ap j):aar i n=ap j/\j<n/\-(n:Int)<=i/\i<n:=by
 unfold wQ at h
 by_cases f:0<=i
 .rw[if_pos f]at h
  by_cases c:i<n
  .rw[if_pos c]at h
   have e:=U6 h;exact#[by rw[seqIndex_of f c,e],by lia,by lia,c]
  simp_all
 rw[if_neg f]at h
 by_cases c:-n<=i
 .rw[if_pos c]at h
  have e:=U6 h;exact#[by rw[aax (by lia) c,e],by lia,c,by lia]
 rw[if_neg c]at h;cases h
theorem r_{xs:List α}(h:atI xs i=ap v):∃j,aar i xs.length=ap j/\xs[j]?=ap v/\j<xs.length/\-(xs.length:Int)<=i/\i<xs.length:=by
 unfold atI at h;cases e:wQ xs.length i with
 |none=>simp_all
 |some j=>
  rw[e]at h;obtain⟨g,c,f,l⟩:=qH e;exact#[j,g,h,c,f,l]
def An(b:eX):Prop:=∀o i,subscripted b cp o i=operate [o,i] (W_ o i)
def IxR(X:Cx)(r:R2):Prop:=
 ∀(value slice:eX)(aaL:aa1)(s:ca)(Z:St)(H:Hp)(x y:V)(v u:ay)(Q:VK),Inv X aaL Z H s->RelV x v->RelV y u->r x y H Q->
  subscripted slice cp v u=operate [v,u] (W_ v u)->ez (eC X.prog X.w) X.A (subscriptTail value slice v u) (EP X aaL Z Q) X.xe s
def wq(X:Cx)(id:String)(r:V->List V->Hp->VK->Prop):Prop:=
 ∀(aaL:aa1)(s:ca)(Z:St)(H:Hp)(x:V)(xs:List V)(v:ay)(us:aaW)(Q:VK),Inv X aaL Z H s->RelV x v->Vals xs us->r x xs H Q->
  ez (eC X.prog X.w) X.A (call (.builtin id) (v::us)) (EP X aaL Z Q) X.xe s
section
theorem IxR.or(h:IxR X r)(h':IxR X l):IxR X (λx y H Q=>r x y H Q\/l x y H Q):=by
 intro c f aaL s Z H x y v u Q I g j q i;rcases q with q|q
 .exact h _ _ _ s Z H x y v u Q I g j q i
 exact h' _ _ _ s Z H x y v u Q I g j q i
theorem T3(g:IxR X r)(i:PE X a ta)(j:PE X b tb)(l:An b):PE X (.Subscript a b pos) (Te r ta tb):=by
 intro aaL s Z H Q I h;exact Subscript_ (Ot i j I h λv u s2 x y H2 I2 c f q=>g a b aaL s2 Z H2 x y v u Q I2 c f q (l _ _))
def Rb(K:Ug):R2:=λx y H Q=>∃p xs i v,x=.ref p/\y=.int i/\SqL K H p xs/\atI xs i=ap v/\Q v H
def R_(K:Ug):R2:=λx y H Q=>∃p xs i v,x=.ref p/\y=.int i/\ku K H p xs/\atI xs i=ap v/\Q v H
def SJ:R2:=λx y H Q=>∃z i c,x=.str z/\y=.int i/\z.length<=sizeLine/\atI z.cps.toList i=ap c/\Q (.str #[(Tw [c])]) H
theorem ix_list:IxR X (Rb X.K):=by
 intro f g aaL s Z H x y v u Q I G L h F;obtain⟨p,xs,i,z,rfl,rfl,J,M,q⟩:=h;cases G;obtain⟨t,rfl⟩:=L;obtain⟨aaR,r,pl,T⟩:=I.list J;obtain⟨j,c,S,U,O,N⟩:=r_ M;obtain⟨w,B,m⟩:=r.get S;have R:=r.length;have W:=iC;have fin:EP X _ Z Q w s:=#[z,H,I,m,q]
 by_cases C:0<=i
 .have l:i.toNat=j:=by
   rw[seqIndex_of C N]at c;exact U6 c
  exact item_listR pl.isList C (by lia) (by rw[l];simpa using B) fin F
 have l:(i+aaR.toArray.size).toNat=j:=by
  rw[aax (by lia) O]at c
  rw[Uo,<- R];exact U6 c
 exact aaw pl.isList.typeIs slot_list_getitem.lookup
  (wpAny_getItem_list_neg pl.isList (by lia) (by rw[Uo]<;>lia) (by lia) (by rw[l];simpa using B) #[rfl,fin]) F
theorem ix_tup:IxR X (R_ X.K):=by
 intro c f aaL s Z H x y v u Q I l C h G;obtain⟨p,xs,i,z,rfl,rfl,B,F,q⟩:=h;cases l;obtain⟨t,rfl⟩:=C;obtain⟨aaR,r,pl,M⟩:=I.tuple B;obtain⟨j,J,L,N,R,O⟩:=r_ F;obtain⟨w,m,g⟩:=r.get L;have S:=iC;have fin:EP X _ Z Q w s:=#[z,H,I,g,q]
 exact aaw pl.typeIs slot_tuple_getitem.lookup
  (getItem_tuple pl (by lia) (by lia) (by rw[Uo,<- r.length];exact J) (by simpa using m) #[rfl,fin]) G
theorem ET:IxR X SJ:=by
 intro f g aaL s Z H x y v u Q I m M h B;obtain⟨z,i,c,rfl,rfl,R,p,q⟩:=h;obtain⟨t,rfl⟩:=m;obtain⟨t',rfl⟩:=M;obtain⟨j,l,L,N,J,G⟩:=r_ p;have K:z.cps.toList.length=z.length:=by rfl
 rw[K]at l J G;have O:=iC;exact tail_any (typeIs_str s z t) slot_str_getitem.lookup (getItem_str (by
  have F:decide (i < -(2 ^ 63))=false:=decide_eq_false (by lia)
  have C:decide (i>=2 ^ 63)=false:=decide_eq_false (by lia)
  rw[F,C,W3]) (by rw[l];simpa using L) #[.str _,H,I.tok _,#[_,rfl],q]) B
def rIx(K:Ug):R2:=λx y H Q=>Rb K x y H Q\/R_ K x y H Q\/SJ x y H Q
theorem QO:IxR X (rIx X.K):=ix_list.or (ix_tup.or ET)
theorem wR(aaR:aaW)(n j:Nat)(u:ay):UU (·.setIfInBounds j u) { cls:=.type "list",data:=.seq aaR.toArray n }={ cls:=.type "list",data:=.seq (aaR.set j u).toArray n }:=by
 simp[UU]
theorem Inv.lst{xs:List V}(I:Inv X aaL Z H s)(h:H p=ap (.lst xs)):
  ∃(aaR:aaW)(n:Nat),Vals xs aaR/\s.heap.get? p=ap { cls:=.type "list",data:=.seq aaR.toArray n }/\xs.length<=sizeLine:=by
 obtain⟨z,aaR,n,r,e⟩:=I.hok p _ h;exact#[_,n,r,e,z]
theorem Inv.lstUpd{xs:List V}(I:Inv X aaL Z H s)(h:H p=ap (.lst xs))(ho:s.heap.get? p=ap { cls:=.type "list",data:=.seq aaR.toArray n })(hf:f { cls:=.type "list",data:=.seq aaR.toArray n }={ cls:=.type "list",data:=.seq its'.toArray n' })(r:Vals ys its')(hz:ys.length<=sizeLine)(t:Nat):
  Inv X aaL Z (upd H p<|.lst ys) { s with heap:=s.heap.update p f,toks:=t }:=by
 have e:(s.heap.update p f).get? p=ap { cls:=.type "list",data:=.seq its'.toArray n' }:=by
  rw[Wj f ho (by rw[hf]<;>rfl),hf]
 refine I.write (x:=p) (e:=p) (by rw[h];trivial) (.inl rfl) (λb u hb q=>(Xc _ _<|UN hb).trans q) #[_,e] ?_
 exact#[hz,its',n',r,e]
def Ta:V->V->V->Hp->(Hp->Prop)->Prop:=λo i v H Q=>∃p xs k j,o=.ref p/\i=.int k/\H p=ap (.lst xs)/\wQ xs.length k=ap j/\Q (upd H p<|.lst<|xs.set j v)
theorem Fm:Nu X Ta:=by
 rintro aaL s Z H o i v K J u Q I B G C ⟨p,xs,k,j,rfl,rfl,m,z,q⟩
 cases B;obtain⟨t,rfl⟩:=G;obtain⟨aaR,n,r,f,y⟩:=I.lst m;obtain⟨c,M,l,F⟩:=qH z;have x:=r.length;have L:=iC;have I':Inv X _ Z _ _:=
  I.lstUpd m f (wR _ n j u) (r.set C j) (by rw[VB];exact y) s.toks
 by_cases h:0<=k
 .have g:k.toNat=j:=by
   rw[seqIndex_of h F]at c;exact U6 c
  exact W.ki_setAt f h (by lia) (by simp_all) (by rw[g];exact#[_,I',q])
 have g:(k+aaR.toArray.size).toNat=j:=by
  rw[aax (by lia) l]at c
  rw[Uo,<- x];exact U6 c
 exact W.ki_setBack f (by lia) (by rw[Uo,<- x];exact l) (by lia) (by rw[g];exact#[_,I',q])
theorem sJ(c f:Option Int)(n:Nat):(S' c f bb n).1=((HT.sIx n 0 c:Nat):Int)/\(S' c f bb n).2.1=((HT.sIx n n f:Nat):Int)/\(S' c f bb n).2.2=1:=by
 refine#[?_,?_,rfl]
 .cases c with
  |none=>rfl
  |some i=>
   simp[S',HT.sIx,if_true];lia
 cases f with
 |none=>simp[S',HT.sIx]
 |some i=>
  simp only[S',HT.sIx,Option.getD_none,if_true]
  by_cases h:i<0
  .simp only[h,if_true]<;>lia
  simp only[h,if_false]<;>lia
theorem pz(aaR:aaW)(c f:Option Int):slicePick aaR.toArray c f bb=((aaR.drop<|HT.sIx aaR.length 0 c).take (HT.sIx aaR.length aaR.length f-HT.sIx aaR.length 0 c)).toArray:=by
 obtain⟨h,g,i⟩:=sJ c f _;unfold slicePick;rw[h,g,i];simp only[sliceRange_one,pick_run]<;>rfl
def rSlL(K:Ug):V->Option Int->Option Int->Hp->VK->Prop:=λx c f H Q=>∃a xs,x=.ref a/\SqL K H a xs/\∀p,H p=bb->Q (.ref p) (upd H p<|.lst<|pA xs c f)
theorem Bn:SI X (rSlL X.K):=by
 rintro aaL s Z H x v C B j p z Q I g i pl l ⟨a,xs,rfl,h,q⟩
 cases g;obtain⟨aaR,r,f,m⟩:=I.list h;have c:=r.length;refine#[_,_,slot_list_getitem.lookup,f.isList.typeIs,?_];refine wpAny_getItem_list_slice f.isList i pl l .none (by simp) ?_ (by simp_all)
 rw[pz,<- c];refine#[.ref _,_,I.laid (λb y q=>Ua _ q) (Uk _) ?_,rfl,q _<|I.hok.fresh<|Uk _];exact#[Uu (kz xs j p) m,_,0,(r.drop _).take _,Uh _ rfl]
noncomputable def HY:V->Bool
 |.non=>true
 |.bl _=>true
 |.int _=>true
 |.str _=>true
 |_=>cp
noncomputable def wo:V->V->Bool
 |.non,.non=>true
 |.bl a,.bl b=>a==b
 |.bl a,.int b=>(if a then 1 else 0)==b
 |.int a,.bl b=>a==(if b then 1 else 0)
 |.int a,.int b=>a==b
 |.str a,.str b=>a==b
 |_,_=>cp
theorem HH(f:RelV y u)(c:RelV x v)(g:HY y=true)(h:HY x=true):Xb A s u v (wo y x):=by
 cases y with
 |non=>
  cases f;cases x with
  |non=>cases c;exact SeqAt.EqAt.same _
  |bl b=>cases c;exact SeqAt.EqAt.none_bool b
  |int b=>obtain⟨t,rfl⟩:=c;exact Yg b t
  |str b=>obtain⟨t,rfl⟩:=c;exact Yf b t
  |_=>trivial
 |bl a=>
  cases f;cases x with
  |non=>cases c;exact SeqAt.EqAt.bool_none a
  |bl b=>cases c;exact SeqAt.EqAt.bool_bool a b
  |int b=>obtain⟨t,rfl⟩:=c;exact SeqAt.EqAt.bool_int a b t
  |str b=>obtain⟨t,rfl⟩:=c;exact SeqAt.EqAt.bool_str a b t
  |_=>trivial
 |int a=>
  obtain⟨t',rfl⟩:=f;cases x with
  |non=>cases c;exact Yh a t'
  |bl b=>cases c;exact SeqAt.EqAt.int_bool a t' b
  |int b=>obtain⟨t,rfl⟩:=c;exact SeqAt.EqAt.int_int a t' b t
  |str b=>obtain⟨t,rfl⟩:=c;exact Ym a t' b t
  |_=>trivial
 |str a=>
  obtain⟨t',rfl⟩:=f;cases x with
  |non=>cases c;exact Ye a t'
  |bl b=>cases c;exact SeqAt.EqAt.str_bool a t' b
  |int b=>obtain⟨t,rfl⟩:=c;exact Yl a t' b t
  |str b=>obtain⟨t,rfl⟩:=c;exact SeqAt.EqAt.str_str a t' b t
  |_=>trivial
 |_=>trivial
theorem sQ:bt X (.builtin "len") (λxs H Q=>∃p ys,xs=[.ref p]/\(SqL X.K H p ys\/ku X.K H p ys)/\Q (.int ys.length) H):=by
 rintro aaL s Z H xs us Q I r ⟨p,ys,rfl,hq,q⟩
 obtain⟨u,rfl,g⟩:=iT r;cases g;have i:=iC;rcases hq with hq|hq
 .obtain⟨aaR,f,pl,h⟩:=I.list hq
  have c:=f.length;exact Calls.call_len_list pl.isList (by simp<;>lia) #[.int _,H,I.tok _,#[_,by rw[Uo,c]],q]
 obtain⟨aaR,f,pl,h⟩:=I.tuple hq;have c:=f.length;exact len_tuple pl (by simp only[Uo]<;>lia) #[.int _,H,I.tok _,#[_,by rw[Uo,c]],q]
theorem tB:bt X (.builtin "len") (λxs H Q=>∃z,xs=[.str z]/\z.length<=sizeLine/\Q (.int z.length) H):=by
 rintro aaL s Z H xs us Q I r ⟨z,rfl,c,q⟩
 obtain⟨u,rfl,t,rfl⟩:=iT r;have f:=iC;exact len_str (by lia) #[.int _,H,I.tok _,#[_,rfl],q]
theorem qN:bt X (.type "list") (λxs H Q=>∃p ys,xs=[.ref p]/\(SqL X.K H p ys\/ku X.K H p ys)/\∀l,H l=bb->Q (.ref l) (upd H l<|.lst ys)):=by
 rintro aaL s Z H xs us Q I r ⟨p,ys,rfl,hq,q⟩
 obtain⟨u,rfl,x⟩:=iT r;cases x
 have fin:∀(aaR:List _),Vals ys _->ys.length<=sizeLine->∀(c:g4)(g:Nat),(∀b o',s.heap.get? b=ap o'->c.get? b=ap o')->
   c.get? _=ap _->EP X _ Z Q _ _:=λaaR f i c g kp e=>
  #[.ref _,_,I.laid (t':=s.toks) kp (Uk _) (show ObjOk _ _ _ c _ (.lst ys) from #[i,aaR,g,f,e]),rfl,q _<|I.hok.fresh<|Uk _]
 rcases hq with hq|hq
 .obtain⟨aaR,f,pl,i⟩:=I.list hq
  have h:=f.length;obtain⟨o,m,v,n,j⟩:=pl.isList;exact call_list_seq p (.inl rfl) m v j (λc g kp e=>fin _ f i c g kp e) (by simp_all)
 obtain⟨aaR,f,pl,i⟩:=I.tuple hq;have h:=f.length;obtain⟨o,m,v,n,j⟩:=pl;exact call_list_seq p (.inr rfl) m v j (λc g kp e=>fin _ f i c g kp e) (by simp only[Uo]<;>lia)
theorem ix:bt X (.type "tuple") (λxs H Q=>∃p ys,xs=[.ref p]/\((SqL X.K H p ys/\∀l,H l=bb->Q (.ref l) (upd H l<|.tup ys))\/(ku X.K H p ys/\Q (.ref p) H))):=by
 rintro aaL s Z H xs us Q I r ⟨p,ys,rfl,h⟩
 obtain⟨u,rfl,j⟩:=iT r;cases j;rcases h with⟨c,q⟩|⟨c,q⟩
 .obtain⟨aaR,f,pl,i⟩:=I.list c
  have g:=f.length;refine call_tuple_list pl.isList (λm kp=>?_) (by simp_all)
  have I1:Inv X _ Z H _:=I.kept (t':=s.toks) kp;have I2:Inv X _ Z (upd H _<|.tup ys) { s with heap:=m.push { cls:=.type _,data:=.seq _ } }:=
   I1.laid (λb o e=>Ua _ e) (Uk _) (#[i,_,f,#[_,Uh _ rfl,#[rfl,_,rfl],rfl]])
  exact#[.ref _,_,I2,rfl,q _<|I1.hok.fresh<|Uk _]
 obtain⟨aaR,f,pl,i⟩:=I.tuple c;exact call_tuple_same pl #[.ref p,H,I,rfl,q]
def tyV(K:Ug)(T:String)(x:V)(H:Hp):Prop:=match x with
 |.str _=>T="str"
 |.int _=>T="int"
 |.ref p=>(T="list"/\∃xs,SqL K H p xs)\/(T="tuple"/\∃o,K.lookup p=ap o/\o.cls=.type "tuple"/\o.dict=bb)\/
   (T="dict"/\((∃aaN,H p=ap (.dK aaN))\/∃aaN,H p=ap (.dT aaN)))\/(T="set"/\∃S n,H p=ap (.set S n))
 |_=>False
theorem HG(I:Inv X aaL Z H s)(r:RelV x v)(ty:tyV X.K T x H):
  s.TypeIs v T/\∀a,v=.ref a->∃m,s.heap.get? a=ap m/\m.dict=none:=by
 cases x with
 |str z=>
  obtain⟨t,rfl⟩:=r;cases ty;exact#[typeIs_str s z t,λ_ e=>nomatch e]
 |int i=>
  obtain⟨t,rfl⟩:=r;cases ty;exact#[typeIs_int s i t,λ_ e=>nomatch e]
 |ref p=>
  cases r;rcases ty with⟨rfl,xs,q⟩|⟨rfl,o,f,hc,l⟩|⟨rfl,f⟩|⟨rfl,S,n,f⟩
  .obtain⟨aaR,_,pl,_⟩:=I.list q
   refine#[pl.isList.typeIs,λa e=>?_];cases e;obtain⟨o,n,e,c,l,_⟩:=pl;exact#[o,e,l]
  .refine#[#[o,I.kIn p o f,hc],λa e=>?_]
   cases e;exact#[o,I.kIn _ o f,l]
  .have z:∃o,s.heap.get? p=ap o/\o.ExactDict:=by
    rcases f with⟨h,f⟩|⟨h,f⟩
    .obtain⟨_,_,_,_,o,_,_,e,g,_⟩:=I.hok p _ f
     exact#[o,e,g]
    obtain⟨_,_,_,_,o,_,_,e,g,_⟩:=I.hok p _ f;exact#[o,e,g]
   obtain⟨o,e,g⟩:=z;refine#[#[o,e,g.1],λa j=>?_];cases j;exact#[o,e,g.2.1]
  obtain⟨o,_,_,_,e,g,_⟩:=I.hok p _ f;refine#[#[o,e,g.1],λa j=>?_];cases j;exact#[o,e,g.2.1]
 |_=>exact Vk ty
def tBM0(K:Ug)(T:String)(r:V->List V->Hp->VK->Prop)(to:TE):TE:=λZ H Q=>to Z H λx H1=>tyV K T x H1/\r x [] H1 Q
def tBM(K:Ug)(T:String)(r:V->List V->Hp->VK->Prop)(to:TE)(t:TA):TE:=λZ H Q=>to Z H λx H1=>tyV K T x H1/\t Z H1 λxs H2=>r x xs H2 Q
variable{id:String}
theorem Oi(z:U' T)(f:Slot T name id)(g:Y' (.builtin id)=pure (.type "method_descriptor"))(hm:wq X id r)(y:PE X o to)(c:kr o name X.env (fv o X.env)=fv o X.env:=by rfl)(hline:(aaQ.endLine==aaP.line)=true:=by rfl):PE X (.Call (.Attribute o name aaQ) [] [] aaP) (tBM0 X.K T r to):=by
 intro aaL s Z H Q I h;refine wpAny_Call_method0_late c hline (bu (y _ s Z H _ I h) λv p q=>?_);obtain⟨x,H1,I1,i,ty,j⟩:=q;obtain⟨l,m⟩:=HG I1 i ty;exact#[T,id,z,f,g,l,m,VH rfl<|PySem.evalArgs_none<|hm _ p Z H1 x [] v [] Q I1 i .nil j]
theorem SF(L:U' T)(f:Slot T name id)(g:Y' (.builtin id)=pure (.type "method_descriptor"))(F:wq X id r)(J:PE X o to)(G:PA X (e::es) t)(c:kr o name X.env (fv o X.env)=fv o X.env:=by rfl)(hfew:((g3 aaP<|starEach (e::es) X.env).all (λx=>!x.1)&&(p1 aaP<|keywordEach [] X.env).all (λx=>x.1.isSome)
   && decide ((e::es).length+([]:List pt).length+(if ([]:List pt).isEmpty then 0 else 1)<30))=true:=by rfl)(hline:(aaQ.endLine==aaP.line)=true:=by rfl)(hs:eg (e::es) X.env=(cp,fv e X.env)::eg es X.env:=by rfl)(hplain:(g3 aaP<|starEach es X.env).any (·.1)=false:=by rfl):
  PE X (.Call (.Attribute o name aaQ) (e::es) [] aaP) (tBM X.K T r to t):=by
 intro aaL s Z H Q I h;refine aav c hfew hline rfl (bu (J _ s Z H _ I h) λv C m=>?_);obtain⟨x,H1,I1,j,ty,q⟩:=m;obtain⟨p,B⟩:=HG I1 j ty;refine#[T,id,L,f,g,p,B,?_];have i:=G aaP _ C Z H1 _ I1 q;rw[hs]at i ⊢;exact VH (by show (cp||(g3 _ _).any _)=cp;rw[hplain]<;>rfl) (VR<|bu i<|by rintro us s2 ⟨y,H2,I2,l,z⟩;exact F _ s2 Z H2 x y v us Q I2 j l z)
end
def MtM(X:Cx)(id:String)(r:V->List V->Hp->VK->Prop):Prop:=
 ∀(aaL:aa1)(s:ca)(Z:St)(H:Hp)(x:V)(xs:List V)(v:ay)(us:aaW)(Q:VK),Inv X aaL Z H s->RelV x v->Vals xs us->r x xs H Q->
  ez (eC X.prog X.w) X.A (call (.builtin id) (v::us)) (EP X aaL Z Q) X.xe s
theorem Vals.one:∀{x:V}{us:aaW},Vals [x] us->∃u,us=[u]/\RelV x u
 |_,_,h=>by cases h with|cons r q=>cases q;exact#[_,rfl,r]
theorem Vals.two:∀{x y:V}{us:aaW},Vals [x,y] us->∃u v,us=[u,v]/\RelV x u/\RelV y v
 |_,_,_,h=>by cases h with|cons r q=>cases q with|cons q z=>cases z;exact#[_,_,rfl,r,q]
theorem Vals.zero:∀{us:aaW},Vals [] us->us=[]
 |_,.nil=>rfl
theorem Vals.dropLast{xs:List V}(h:Vals xs us):Vals xs.dropLast us.dropLast:=by
 induction h with
 |nil=>exact .nil
 |cons r t ih=>
  cases t with
  |nil=>exact .nil
  |cons q t'=>exact .cons r ih
theorem Vals.eraseIdx:∀{xs:List V}{us:aaW}(i:Nat),Vals xs us->Vals (xs.eraseIdx i) (us.eraseIdx i)
 |_,_,_,.nil=>.nil
 |_,_,0,.cons _ t=>t
 |_,_,i+1,.cons r t=>.cons r (Vals.eraseIdx i t)
theorem Vals.reverse{xs:List V}(h:Vals xs us):Vals xs.reverse us.reverse:=by
 induction h with
 |nil=>exact .nil
 |cons r t ih=>rw[Xw,Xw];exact Vals.append ih (.cons r .nil)
theorem Vals.rep{xs:List V}(h:Vals xs us):∀k:Nat,Vals (UG k xs).flatten (UG k us).flatten
 |0=>.nil
 |k+1=>by
  exact Vals.append h (Vals.rep h k)
theorem Po(l:List α):l.eraseIdx (l.length-1)=l.dropLast:=by
 simp_all
theorem pY{α:Type}:∀(l:List α)(i:Nat),(l.eraseIdx i).length<=l.length
 |[],_=>Uk _
 |_::_,0=>VU _
 |_::r,i+1=>Nat.succ_le_succ (pY r i)
section
variable{xs:List V}
theorem Inv.lset(I:Inv X aaL Z H s)(hH:H l=ap (.lst xs))(e:s.heap.get? l=ap { cls:=.type "list",data:=.seq aaR.toArray n })(hf:f aaR.toArray=its'.toArray)(hv:Vals ys its')(hz:ys.length<=sizeLine):
  Inv X aaL Z (upd H l<|.lst ys) { s with heap:=s.heap.update l (UU f),toks:=t' }:=by
 have q:=PySem.IsL.update e f;rw[hf]at q;refine I.write (by rw[hH];exact trivial) (.inl rfl) (λb' u hb hu=>(Xc _ _<|UN hb).trans hu) #[_,q] ?_
 exact#[hz,_,_,hv,q]
theorem Inv.lnew(I:Inv X aaL Z H s)(c:Vals ys aaR)(f:ys.length<=sizeLine):
  Inv X aaL Z (upd H s.heap.objs.size<|.lst ys) { s with heap:=s.heap.push { cls:=.type "list",data:=.seq aaR.toArray },toks:=t' }:=
 I.laid (λ_ _ q=>Ua _ q) (Uk _) #[f,_,0,c,Uh _ rfl]
theorem Inv.fresh(I:Inv X aaL Z H s):H s.heap.objs.size=none:=I.hok.fresh (Uk _)
theorem Inv.lstM(I:Inv X aaL Z H s)(c:H l=ap (.lst xs)):xs.length<=sizeLine/\∃(aaR:aaW)(n:Nat),Vals xs aaR/\xs.length=aaR.length/\s.heap.get? l=ap { cls:=.type "list",data:=.seq aaR.toArray n }:=by
 obtain⟨z,aaR,n,r,e⟩:=I.hok l _ c;exact#[z,_,n,r,r.length,e]
end
def Jy:V->List V->Hp->VK->Prop:=λx c H Q=>∃l xs y,x=.ref l/\c=[y]/\H l=ap (.lst xs)/\xs.length<sizeLine/\Q .non (upd H l<|.lst (xs++[y]))
theorem CC:MtM X "list.append" Jy:=by
 rintro aaL s Z H x m v us Q I f h ⟨l,xs,y,rfl,rfl,c,j,q⟩
 cases f;obtain⟨u,rfl,g⟩:=h.one;obtain⟨z,aaR,n,r,i,e⟩:=I.lstM c;refine oD Xk #[_,e,rfl] F.entry_list_append (F.args_list_append_2 _ _) (Y2 l _ n u<|by simp_all) #[e,?_]
 refine#[.non,_,I.lset c e (by simp) (r.append<|.cons g .nil) ?_,rfl,q]
 rw[UC,Vy];lia
def rPop:V->List V->Hp->VK->Prop:=λx c H Q=>∃l xs y,x=.ref l/\c=[]/\H l=ap (.lst xs)/\xs[xs.length-1]?=ap y/\Q y (upd H l<|.lst xs.dropLast)
theorem Pk:MtM X "list.pop" rPop:=by
 rintro aaL s Z H x C v us Q I h m ⟨l,xs,y,rfl,rfl,g,i,q⟩
 cases h;have f:=m.zero;subst f;obtain⟨z,aaR,n,r,B,e⟩:=I.lstM g;obtain⟨u,p,j⟩:=r.get i;have c:aaR.toArray[aaR.toArray.size-1]?=ap u:=by
  simp_all
 refine oD WG #[_,e,rfl] F.entry_list_pop (F.args_list_pop_1 _) (MeetsSeq.list_pop_last l _ n u c<|by rw[Uo];lia) #[e,?_]
 refine#[y,_,I.lset g e ?_ r.dropLast ?_,j,q]
 .simp_all
 rw[List.length_dropLast];lia
def OE:V->List V->Hp->VK->Prop:=λx c H Q=>∃l xs i k y,x=.ref l/\c=[.int i]/\H l=ap (.lst xs)/\-(2 ^ 63)<=i/\i<2 ^ 63/\aar i xs.length=ap k/\xs[k]?=ap y/\Q y (upd H l<|.lst<|xs.eraseIdx k)
theorem Hv:MtM X "list.pop" OE:=by
 rintro aaL s Z H x K v us Q I g C ⟨l,xs,i,k,y,rfl,rfl,f,j,B,G,h,q⟩
 cases g;obtain⟨u,rfl,p⟩:=C.one;obtain⟨t,rfl⟩:=p;obtain⟨z,aaR,n,r,J,e⟩:=I.lstM f;obtain⟨w,m,c⟩:=r.get h
 refine oD WG #[_,e,rfl] F.entry_list_pop (F.args_list_pop_2 _ _)
  (MeetsSeq.list_pop_at l _ n i t k w (fitsIndex_both j B) (by simp_all) (by rw[<- Array.getElem?_toList];exact m)<|by rw[Uo];lia) #[e,?_]
 refine#[y,_,I.lset f e ?_ (r.eraseIdx k) ?_,c,q]
 .simp_all
 have:=pY xs k;lia
def HP:V->List V->Hp->VK->Prop:=λx c H Q=>∃l xs,x=.ref l/\c=[]/\H l=ap (.lst xs)/\Q .non (upd H l<|.lst xs.reverse)
theorem wO:MtM X "list.reverse" HP:=by
 rintro aaL s Z H x j v us Q I g h ⟨l,xs,rfl,rfl,f,q⟩
 cases g;have c:=h.zero;subst c;obtain⟨z,aaR,n,r,i,e⟩:=I.lstM f;refine oD YC #[_,e,rfl] F.entry_list_reverse (F.args_list_reverse_1 _) (AutoSeq1.list_reverse_list_0 l _ n<|by simp_all) #[e,?_]
 refine#[.non,_,I.lset f e (by simp) r.reverse ?_,rfl,q]
 rw[List.length_reverse];lia
theorem L0(xs:List α)(k:Nat):(UG k xs).flatten.length=k*xs.length:=by
 induction k<;>simp_all
section
variable{κ:Type}[DecidableEq κ]
noncomputable def eB(aaN:List (κ×V))(k:κ):Option V:=(aaN.find? λc=>decide (c.1=k)).map (·.2)
noncomputable def fu(aaN:List (κ×V))(k:κ)(v:V):List (κ×V):=
 if (aaN.any λc=>decide (c.1=k))=true then aaN.map (λc=>if c.1=k then (c.1,v) else c) else aaN++[(k,v)]
noncomputable def ir(aaN:List (κ×V))(k:κ):List (κ×V):=aaN.filter λc=>decide (c.1≠k)
theorem nj{p:κ×V}{r:List (κ×V)}{k:κ}(e:p.1=k):eB (p::r) k=ap p.2:=by simp[eB,e]
theorem mR{p:κ×V}{r:List (κ×V)}{k:κ}(e:¬p.1=k):eB (p::r) k=eB r k:=by simp[eB,e]
theorem wj(k:κ):∀aaN:List (κ×V),(aaN.any λkv=>decide (kv.1=k))=(eB aaN k).isSome
 |[]=>rfl
 |p::r=>by
  rw[Wo]
  by_cases e:p.1=k
  .simp[nj e,decide_eq_true e,Xd]
  rw[mR e,decide_eq_false e];exact wj k r
theorem ke(aaN:List (κ×V))(k:κ)(v:V):(fu aaN k v).length<=aaN.length+1:=by
 unfold fu
 split
 .rw[Ub];lia
 simp_all
theorem RelO.isSome_eq{u:Option ay}(r:RelO o u):o.isSome=u.isSome:=by
 cases o with
 |none=>cases u<;>trivial
 |some _=>cases u<;>trivial
theorem KV.val{aaN:List (κ×V)}{vs:List (κ×ay)}(r:KV aaN vs)(k:κ):RelO (eB aaN k) (U_ vs k):=by
 unfold KV at r
 induction r with
 |nil=>exact VS
 |@cons p q ps qs h t ih=>
  obtain⟨f,g⟩:=h
  by_cases e:p.1=k
  .have c:q.1=k:=f.symm.trans e
   have b:U_ (q::qs) k=ap q.2:=by simp[U_,VN,c]
   rw[nj e,b];exact g
  .have c:¬q.1=k:=λz=>e (f.trans z)
   have b:U_ (q::qs) k=U_ qs k:=by simp[U_,VN,c]
   rw[mR e,b];exact ih
theorem KV.any{aaN:List (κ×V)}{vs:List (κ×ay)}(r:KV aaN vs)(k:κ):(aaN.any λkv=>decide (kv.1=k))=vs.any λkv=>decide (kv.1=k):=by
 induction r<;>simp_all
theorem KV.repl{aaN:List (κ×V)}{vs:List (κ×ay)}(r:KV aaN vs)(k:κ){y:V}(g:RelV y u):
  KV (aaN.map λkv=>if kv.1=k then (kv.1,y) else kv) (vs.map λkv=>if kv.1=k then (kv.1,u) else kv):=by
 induction r with
 |nil=>exact .nil
 |@cons p q ps qs h t ih=>
  rw[Ud,Ud];refine .cons ?_ ih;obtain⟨c,f⟩:=h
  by_cases e:p.1=k
  .rw[if_pos e,if_pos (c.symm.trans e)];trivial
  rw[if_neg e,if_neg (λz=>e (c.trans z))];exact#[c,f]
theorem KV.put{aaN:List (κ×V)}{vs:List (κ×ay)}(r:KV aaN vs)(k:κ){y:V}(c:RelV y u):KV (fu aaN k y) (ZB vs k u):=by
 unfold fu ZB;rw[r.any k]
 by_cases e:(vs.any λf=>decide (f.1=k))=true
 .rw[if_pos e,if_pos e];exact r.repl k c
 rw[if_neg e,if_neg e];exact Paired.snoc r #[rfl,c]
theorem KV.drop{aaN:List (κ×V)}{vs:List (κ×ay)}(r:KV aaN vs)(k:κ):KV (ir aaN k) (without vs k):=by
 unfold ir without
 induction r with
 |nil=>exact .nil
 |@cons p q ps qs h t ih=>
  obtain⟨c,g⟩:=h;rw[UA,UA]
  by_cases e:p.1=k
  .have a:¬decide (p.1≠k)=true:=by simp[e]
   have b:¬decide (q.1≠k)=true:=by simp_all
   rw[if_neg a,if_neg b];exact ih
  have f:¬q.1=k:=λz=>e (c.trans z);have a:decide (p.1≠k)=true:=by simp[e]
  have b:decide (q.1≠k)=true:=by simp[f]
  rw[if_pos a,if_pos b];exact .cons #[c,g] ih
theorem KV.length{aaN:List (κ×V)}{vs:List (κ×ay)}(r:KV aaN vs):aaN.length=vs.length:=VC r
theorem HN(aaN:List (κ×V))(k:κ):(ir aaN k).length<=aaN.length:=UK _ _
end
theorem jx(r:RelV (kV k) u):(aT P w).is k u=true:=by
 cases k with
 |inl i=>obtain⟨t,e⟩:=r;subst e;exact vC P w i t
 |inr x=>obtain⟨t,e⟩:=r;subst e;exact wb P w x t
theorem qE:∀{ks:List aC}{us:aaW},Vals (ks.map kV) us->ItemsAre (aT P w) ks us
 |[],_,r=>by cases r;exact .nil
 |k::ks,_,r=>by
  cases r with
  |cons h t=>exact .cons (jx h) (qE t)
abbrev KT(H:Hp):List (List aC×V)->List (List aC×cb×ay)->Prop:=V_ λp q=>p.1=q.1/\H q.2.1=ap (.tup<|p.1.map kV)/\RelV p.2 q.2.2
theorem KT.val(r:KT H aaN xs)(k:List aC):RelO (eB aaN k) ((atKey xs k).map (·.2)):=by
 induction r with
 |nil=>trivial
 |@cons p q ps qs h t ih=>
  obtain⟨f,_,g⟩:=h
  by_cases e:p.1=k
  .have c:=f.symm.trans e
   have b:atKey (q::qs) k=ap q.2:=by simp[atKey,c]
   rw[nj e,b];exact g
  have c:¬q.1=k:=λz=>e (f.trans z);have b:atKey (q::qs) k=atKey qs k:=by simp[atKey,c]
  rw[mR e,b];exact ih
theorem KT.repl(r:KT H aaN xs)(k:List aC)(i:RelV y u):
  KT H (aaN.map λkv=>if kv.1=k then (kv.1,y) else kv) (xs.map<|putAt k u):=by
 induction r with
 |nil=>exact .nil
 |@cons p q ps qs h t ih=>
  rw[Ud];refine .cons ?_ ih;obtain⟨c,f,g⟩:=h;unfold putAt
  by_cases e:p.1=k
  .rw[if_pos e,if_pos (c.symm.trans e)];trivial
  rw[if_neg e,if_neg (λz=>e (c.trans z))];exact#[c,f,g]
theorem KT.put(r:KT H aaN xs)(k:List aC)(g:H b=ap (.tup<|k.map kV))(c:RelV y u):
  KT H (fu aaN k y) (storedH xs k b u):=by
 have e:(aaN.any λf=>decide (f.1=k))=(atKey xs k).isSome:=by
  rw[wj,(r.val k).isSome_eq,Xt]
 unfold fu storedH;rw[e]
 by_cases q:(atKey xs k).isSome=true
 .rw[if_pos q,if_pos q];exact r.repl k c
 rw[if_neg q,if_neg q];exact Paired.snoc r #[rfl,g,c]
theorem KT.keeps(r:KT H aaN xs)(c:∀b ys,H b=ap (.tup ys)->H' b=ap (.tup ys)):KT H' aaN xs:=
 gQ r λ_ _ z=>#[z.1,c _ _ z.2.1,z.2.2]
theorem L_{u:HO}(ok:HOk P w H h)(e:Rd H a u):ObjOk P w H h a u:=e.ok ok
theorem j6(ok:HOk P w H h)(e:Rd H a (.dK aaN)):aaN.length<=sizeLine/\(a==ot)=cp/\∃vs,KV aaN vs/\h.DictOf (aT P w) a vs:=
 L_ ok e
theorem HM(ok:HOk P w H h)(e:H a=ap (.dK aaN)):aaN.length<=sizeLine/\(a==ot)=cp/\∃vs,KV aaN vs/\h.DictOf (aT P w) a vs:=j6 ok (.inl e)
theorem ms(ok:HOk P w H h)(e:H a=ap (.tup<|ks.map kV)):(Z8<|aT P w).is h ks a:=by
 obtain⟨_,aaR,r,o,g,⟨c,n,f⟩,_⟩:=(show ObjOk P w H h a (.tup<|ks.map kV) from ok a _ e);exact#[o,aaR.toArray,n,g,c,f,by simpa using qE r]
theorem pP(ok:HOk P w H h)(e:Rd H a (.dT aaN)):aaN.length<=sizeLine/\(a==ot)=cp/\
  ∃xs,KT H aaN xs/\h.DictOfH (Z8<|aT P w) a xs:=by
 obtain⟨z,y,xs,r,o,v,j,i,B,c,g,f⟩:=(L_ ok e);refine#[z,y,xs,r,o,v,j,i,B,c,g,λx hx=>?_,f];have all:∀{l:List _}{m:List _},KT H l m->∀x∈m,(Z8<|aT P w).is h x.1 x.2.1:=by
  intro l m q
  induction q with
  |nil=>intro x hx;exact nomatch hx
  |@cons p q ps qs hq t ih=>
   intro x hx;rcases Uj.mp hx with e|hx
   .exact ms ok (by simp_all)
   exact ih x hx
 exact all r x hx
theorem SG(ok:HOk P w H h)(e:H a=ap (.dT aaN)):aaN.length<=sizeLine/\(a==ot)=cp/\
  ∃xs,KT H aaN xs/\h.DictOfH (Z8<|aT P w) a xs:=pP ok (.inl e)
def DGet(H:Hp)(a:cb)(y:V)(r:Option V):Prop:=
 (∃aaN k,Rd H a (.dK aaN)/\y=kV k/\r=eB aaN k)\/∃aaN k b,Rd H a (.dT aaN)/\y=.ref b/\H b=ap (.tup<|k.map kV)/\r=eB aaN k
def DPut(H:Hp)(a:cb)(y v:V)(H':Hp):Prop:=
 (∃aaN k,H a=ap (.dK aaN)/\y=kV k/\aaN.length<sizeLine/\H'=upd H a (.dK<|fu aaN k v))\/
 ∃aaN k b,H a=ap (.dT aaN)/\y=.ref b/\H b=ap (.tup<|k.map kV)/\aaN.length<sizeLine/\H'=upd H a (.dT<|fu aaN k v)
theorem DGet.k{k:aC}(e:H a=ap (.dK aaN)):DGet H a (kV k) (eB aaN k):=.inl #[_,k,.inl e,rfl,rfl]
theorem DGet.t{k:List aC}(e:H a=ap (.dT aaN))(c:H b=ap (.tup<|k.map kV)):DGet H a (.ref b) (eB aaN k):=.inr #[_,k,b,.inl e,rfl,c,rfl]
theorem DPut.k{k:aC}(e:H a=ap (.dK aaN))(c:aaN.length<sizeLine):DPut H a (kV k) v (upd H a<|.dK<|fu aaN k v):=.inl #[_,k,e,rfl,c,rfl]
theorem DPut.t{k:List aC}(e:H a=ap (.dT aaN))(c:H b=ap (.tup<|k.map kV))(f:aaN.length<sizeLine):
  DPut H a (.ref b) v (upd H a<|.dT<|fu aaN k v):=.inr #[_,k,b,e,rfl,c,f,rfl]
theorem Inv.big(I:Inv X aaL Z H s):ot<s.heap.objs.size:=by
 exact YI (by decide) ((I.mod.glob.keeps I.bk).lt)
theorem Dd(L:A.units+1<k6)(I:Inv X aaL Z H s)(g:DGet H a y (ap v))(F:RelV y u)(h:∀i C,Inv X aaL Z H C->RelV v i->Q i C):
  ez (eC X.prog X.w) A (W_ (.ref a) u) Q E s:=by
 rcases g with⟨m,k,e,x,l⟩|⟨m,k,b,e,x,eb,l⟩
 .subst x
  obtain⟨z,G,J,c,j⟩:=j6 I.hok e;obtain⟨i,q,f⟩:=dD (v:=v) (o:=U_ J k) (by rw[l];exact c.val k)
  exact wpAny_getItem_of (jx F) j.mapOf q (h i _ (I.tok _) f)
 .subst x
  cases (show u=UE b from F);obtain⟨z,G,xs,c,j⟩:=pP I.hok e;obtain⟨i,q,f⟩:=dD (v:=v) (o:=(atKey xs k).map (·.2)) (by rw[l];exact c.val k)
  obtain⟨p,K,B⟩:=Vc.mp q;refine wpAny_getItem_heap (G' L) (ms I.hok eb) j K ?_;rw[B];exact h i _ (I.tok _) f
theorem Tu(B:A.units+1<k6)(I:Inv X aaL Z H s)(g:DGet H a y o)(x:RelV y u)(h:∀p,Inv X aaL Z H p->Q (.bool o.isSome) p):
  ez (eC X.prog X.w) A (hW .In u<|.ref a) Q E s:=by
 rcases g with⟨j,k,e,m,l⟩|⟨j,k,b,e,m,eb,l⟩
 .subst m
  obtain⟨z,f,C,c,i⟩:=j6 I.hok e;refine wpAny_in_of (jx x) f i.mapOf ?_;rw[<- (c.val k).isSome_eq,<- l];exact h _ (I.tok _)
 .subst m
  cases (show u=UE b from x);obtain⟨z,f,xs,c,i⟩:=pP I.hok e;refine wpAny_in_heap (G' B) (ms I.hok eb) f i ?_;have q:=(c.val k).isSome_eq;rw[Xt]at q;rw[<- q,<- l];exact h _ (I.tok _)
theorem zL(B:A.units+1<k6)(I:Inv X aaL Z H s)(g:DGet H a y o)(x:RelV y u)(h:∀p,Inv X aaL Z H p->Q (.bool<|!o.isSome) p):
  ez (eC X.prog X.w) A (hW .NotIn u<|.ref a) Q E s:=by
 rcases g with⟨j,k,e,m,l⟩|⟨j,k,b,e,m,eb,l⟩
 .subst m
  obtain⟨z,f,C,c,i⟩:=j6 I.hok e;refine wpAny_notIn_of (jx x) f i.mapOf ?_;rw[<- (c.val k).isSome_eq,<- l];exact h _ (I.tok _)
 subst m;cases (x);obtain⟨z,f,xs,c,i⟩:=pP I.hok e;refine wpAny_notIn_heap (G' B) (ms I.hok eb) f i ?_;have q:=(c.val k).isSome_eq;rw[Xt]at q;rw[<- q,<- l];exact h _ (I.tok _)
theorem rS(I:Inv X aaL Z H s)(h:Sn (H a))(i:Vh a s.heap h')(g:∃q,h'.get? a=ap q)(new:ObjOk X.prog X.w (upd H a c) h' a c):
  Inv X aaL Z (upd H a c) { s with heap:=h',toks:=t' }:=
 I.write (x:=a) (e:=a) h (.inl rfl) (λb q f z=>(i.2 b f).trans z) g new
theorem tG(z:aaN.length<=sizeLine)(f:(a==ot)=cp)(c:KV aaN vs)(dd:h'.DictOf (aT P w) a vs):
  ObjOk P w H' h' a (.dK aaN):=#[z,f,vs,c,dd]
theorem qk(hu:A.units+1<k6)(I:Inv X aaL Z H s)(g:DPut H a y v H')(O:RelV y u)(N:RelV v r)(h:∀M,Inv X aaL Z H' M->Q () M):
  ez (eC X.prog X.w) A (setItem (.ref a) u r) Q E s:=by
 rcases g with⟨f,k,e,J,l,G⟩|⟨f,k,b,e,J,eb,l,G⟩
 .subst J G
  obtain⟨z,x,vs,i,C⟩:=HM I.hok e;have F:vs.length<=sizeLine:=by rw[<- i.length];exact z
  have B:(fu f k v).length<=sizeLine:=by have:=ke f k v;lia
  refine wpAny_setItem_pairs (hsz:=F) (jx O) C λL j p=>h _ ?_;have R:∃q,L.get? a=ap q:=let ⟨q,_,_,m,_⟩:=j;#[q,m];exact rS I (by rw[e];exact VS) p R (tG B x (i.put k N) j)
 .subst J G
  cases (show u=UE b from O);obtain⟨z,x,xs,i,C⟩:=SG I.hok e;have F:xs.length<=sizeLine:=by rw[<- VC i];exact z
  have B:(fu f k v).length<=sizeLine:=by have:=ke f k v;lia
  refine wpAny_setItem_heap (hsz:=F) (G' hu) (ms I.hok eb) C λL j p=>h _ ?_;obtain⟨q,W,Y,m,h2,S,U,_,T⟩:=j;refine rS I (by rw[e];exact VS) p #[q,m] #[B,x,_,(i.put k eb N).keeps λc ys K=>?_,q,W,Y,m,h2,S,U,T]
  rw[aw (SW K e λz=>nomatch z)];exact K
theorem Mr(I:Inv X aaL Z H s)(e:H a=ap (.dK aaN))(m:RelV (kV k) u)(l:eB aaN k=ap v)(C:more=[]\/∃x,more=[x])(h:∀g B,Inv X aaL Z (upd H a<|.dK<|ir aaN k) B->RelV v g->Q g B):ez (eC X.prog X.w) A (call (.builtin "dict.pop") (.ref a::u::more)) Q E s:=by
 obtain⟨z,O,y,c,p⟩:=HM I.hok e;obtain⟨g,M,j⟩:=dD (v:=v) (o:=U_ y k) (by rw[<- l];exact c.val k)
 have N:(keyPart u).isSome=true:=by
  cases k with
  |inl i=>obtain⟨t,q⟩:=(show ∃t,u=XD i t from m);subst q;rfl
  |inr x=>obtain⟨t,q⟩:=(show ∃t,u=XC x t from m);subst q;rfl
 have J:aaj "dict.pop" #[.ref a::u::more,[]]:=by
  rcases C with q|⟨x,q⟩
  .subst q;exact PySem.F.args_dict_pop_2 _ _
  .subst q;exact X6 _ _ _
 refine call_meetsIn Wa p.typeIs Yi J (meets_dict_pop_there (aT X.prog X.w) a (jx m) more C N)
  #[y,g,p,by rw[<- c.length];exact z,M,λG f L=>h g _ ?_ j]
 have K:∃q,G.get? a=ap q:=let ⟨q,_,_,hq,_⟩:=f;#[q,hq];exact rS I (by rw[e];exact VS) L K (tG (Uu (HN aaN k) z) O (c.drop k) f)
theorem Qd(I:Inv X aaL Z H s)(e:H a=ap (.dK aaN))(f:RelV (kV k) u)(l:eB aaN k=bb)(h:∀m,Inv X aaL Z H m->Q r m):
  ez (eC X.prog X.w) A (call (.builtin "dict.pop") [.ref a,u,r]) Q E s:=by
 obtain⟨z,v,j,c,g⟩:=HM I.hok e;have y:U_ j k=none:=jC (by rw[<- l];exact c.val k)
 have p:(keyPart u).isSome=true:=by
  cases k with
  |inl i=>obtain⟨t,q⟩:=(show ∃t,u=XD i t from f);subst q;rfl
  |inr x=>obtain⟨t,q⟩:=(show ∃t,u=XC x t from f);subst q;rfl
 exact call_meetsIn Wa g.typeIs Yi (X6 _ _ _) (meets_dict_pop_default (aT X.prog X.w) a (jx f) v p r) #[j,g,y,h _<|I.tok _]
theorem S9(I:Inv X aaL Z H s)(e:Rd H a (.dK aaN))(h:∀t f,Inv X aaL Z H f->Q (.int aaN.length t) f):ez (eC X.prog X.w) A (call (.builtin "len") [.ref a]) Q E s:=by
 obtain⟨z,g,j,c,i⟩:=j6 I.hok e;refine call_len_dict g i (by rw[<- c.length];rw[k']at z;lia) ?_
 rw[<- c.length];exact h _ _ (I.tok _)
theorem vM(I:Inv X aaL Z H s)(g:DGet H a y o):s.TypeIs (.ref a) "dict":=by
 rcases g with⟨f,k,e,_,_⟩|⟨f,k,b,e,_,_,_⟩
 .obtain⟨_,_,h,_,c⟩:=j6 I.hok e
  exact c.typeIs
 obtain⟨_,_,xs,_,c⟩:=pP I.hok e;exact c.typeIs
theorem Fq(h:g4)(c:ot<h.objs.size):ObjOk P w H (h.push { cls:=.type "dict",data:=.dict (Tw []) }) h.objs.size (.dT []):=
 #[Va _,beq_eq_false_iff_ne.mpr (UN<|Uv c),[],.nil,_,_,0,Uh _ rfl,#[rfl,rfl,rfl],rfl,rfl,List.nodup_nil]
def QK:TE:=λ_ H Q=>∀p,H p=bb->Q (.ref p) (upd H p<|.dT [])
theorem Fj:PE X (.Dict [] [] pos) QK:=λaaL s Z H Q I h=>
 wpAny_Dict_empty #[.ref _,_,I.laid (λ_ _ q=>Ua _ q) (Uk _) (Fq _ I.big),rfl,h _<|I.hok.fresh<|Uk _]
structure M1(X:Cx)(o:eX)(m:Str)(aaQ:Pos)(e:eX)(aaP:Pos):Prop where
 base:kr o m X.env (fv o X.env)=fv o X.env
 few:((g3 aaP<|starEach [e] X.env).all (λx=>!x.1)&&(p1 aaP<|keywordEach [] X.env).all (λx=>x.1.isSome)
  && decide (([e]:aaY).length+([]:List pt).length+(if ([]:List pt).isEmpty then 0 else 1)<30))=true
 line:(aaQ.endLine==aaP.line)=true
 trees:g3 aaP (eg [e] X.env)=[(cp,fv e X.env)]
structure M2(X:Cx)(o:eX)(m:Str)(aaQ:Pos)(e f:eX)(aaP:Pos):Prop where
 base:kr o m X.env (fv o X.env)=fv o X.env
 few:((g3 aaP<|starEach [e,f] X.env).all (λx=>!x.1)&&(p1 aaP<|keywordEach [] X.env).all (λx=>x.1.isSome)
  && decide (([e,f]:aaY).length+([]:List pt).length+(if ([]:List pt).isEmpty then 0 else 1)<30))=true
 line:(aaQ.endLine==aaP.line)=true
 trees:g3 aaP (eg [e,f] X.env)=[(cp,fv e X.env),(cp,fv f X.env)]
def IsD(H:Hp)(a:cb):Prop:=(∃aaN,Rd H a (.dK aaN))\/∃aaN,Rd H a (.dT aaN)
theorem Ec(I:Inv X aaL Z H s)(d:IsD H a):
  s.TypeIs (.ref a) "dict"/\(∀b,UE a=.ref b->∃c,s.heap.get? b=ap c/\c.dict=bb)/\(a==ot)=false:=by
 rcases d with⟨g,e⟩|⟨g,e⟩
 .obtain⟨_,i,l,_,f⟩:=j6 I.hok e
  refine#[f.typeIs,λb q=>?_,i];cases q;obtain⟨c,_,_,j,h,_⟩:=f;exact#[c,j,h.2.1]
 obtain⟨_,i,xs,_,f⟩:=pP I.hok e;refine#[f.typeIs,λb q=>?_,i];cases q;obtain⟨c,_,_,j,h,_⟩:=f;exact#[c,j,h.2.1]
def OV(td ty:TE):TE:=λZ H Q=>td Z H λx H1=>∃a,x=.ref a/\IsD H1 a/\ty Z H1 λy H2=>∃aaN k v,H2 a=ap (.dK aaN)/\y=kV k/\eB aaN k=ap v/\Q v (upd H2 a<|.dK<|ir aaN k)
def Pw(td ty tx:TE):TE:=λZ H Q=>td Z H λx H1=>∃a,x=.ref a/\IsD H1 a/\ty Z H1 λy H2=>tx Z H2 λz H3=>∃aaN k,H3 a=ap (.dK aaN)/\y=kV k/\
 (∀v,eB aaN k=ap v->Q v (upd H3 a<|.dK<|ir aaN k))/\(eB aaN k=bb->Q z H3)
theorem HV(J:PE X o td)(G:PE X e ty)(m:M1 X o "pop" aaQ e aaP):PE X (.Call (.Attribute o "pop" aaQ) [e] [] aaP) (OV td ty):=by
 intro aaL s Z H Q I h;refine wpAny_Call_method m.base m.few m.line X4 Wa Yo (bu (J _ s Z H _ I h) λu p F=>?_);obtain⟨x,H1,I1,g,a,C,d,i⟩:=F;subst C;obtain rfl:u=UE a:=g;obtain⟨t1,t2,_⟩:=Ec I1 d;refine#[t1,t2,?_];rw[m.trees];refine VH rfl (VR<|VG (bu (G _ p Z H1 _ I1 i) λL s2 ⟨y,H2,I2,z,_,k,v,B,q,l,j⟩=>V9 ?_));subst q;exact Mr I2 B z l (.inl rfl) λM K I3 c=>#[v,_,I3,c,j]
theorem Er(R:PE X o td)(O:PE X e ty)(S:PE X f tx)(m:M2 X o "pop" aaQ e f aaP):PE X (.Call (.Attribute o "pop" aaQ) [e,f] [] aaP) (Pw td ty tx):=by
 intro aaL s Z H Q I h;refine wpAny_Call_method m.base m.few m.line X4 Wa Yo (bu (R _ s Z H _ I h) λu N M=>?_);obtain⟨x,H1,I1,j,a,L,d,C⟩:=M;subst L;obtain rfl:u=UE a:=j;obtain⟨t1,t2,_⟩:=Ec I1 d;refine#[t1,t2,?_];rw[m.trees];refine VH rfl (VR<|VG (bu (O _ N Z H1 _ I1 C) λU s2 ⟨y,H2,I2,g,G⟩=>
  VG (bu (S _ s2 Z H2 _ I2 G) λq T ⟨z,H3,I3,B,_,k,i,J,K,F⟩=>V9 ?_)))
 subst J;cases l:eB _ k with
 |some v=>exact Mr I3 i g l (.inr #[q,rfl]) λW p I4 c=>#[v,_,I4,c,K v l]
 |none=>exact Qd I3 i g l λp I4=>#[z,H3,I4,B,F l]
theorem HQ(I:Inv X aaL Z H s)(e:Rd H a (.dK aaN))(h:∀p i,H p=bb->Inv X aaL Z (upd H p<|.dK aaN) i->Q (.ref p) i):ez (eC X.prog X.w) A (call (.type "dict") [.ref a]) Q E s:=by
 obtain⟨z,m,x,c,j⟩:=j6 I.hok e;exact kt_call_dict m j (by rw[<- c.length];exact z) λv f l=>h _ _ (I.hok.fresh<|Uk _) (I.laid (a:=s.heap.objs.size) (o:=.dK aaN) (t':=s.toks) (λb q g=>(l.2 b<|Uv<|Ue g).trans (Ua _ g)) (Uk _)<|tG z (beq_eq_false_iff_ne.mpr<|UN<|Uv I.big) c f)
end _2
namespace Att
open PySem PySem.W PySem.Calls PyProof.Rows
theorem kU:∀(c:aaU)(vs:aaW),WellAll P h vs (c.map WData.int)->re vs c:=by
 intro c
 induction c with
 |nil=>
  rintro vs ⟨⟩
  exact .nil
 |cons n c ih=>
  intro vs w;cases w with
  |cons a b=>
   cases a;exact .cons _ _ (ih _ b)
theorem Cs{l:OpenLaw}(s:l.most=ap n)
  (e:l.row.toRowW.claim.pre args=true) (j:WellAll P h b args):
  ∃a vs c,b=[UE a]/\args=[WData.list (c.map WData.int)]/\h.get? a=ap { cls:=.type "list",data:=.seq vs.toArray }/\re vs c/\c.length<=n:=by
 have i:WShape.hasAll [] _ _=true:=(pre_splitW e).1;have p:l.pre.holds [] _=true:=(pre_splitW e).2;obtain⟨d,r,rfl,q,m⟩:=hasAllW_cons i;obtain rfl:=hasAllW_nil m;obtain⟨v,rfl,o⟩:=hasW_list q;obtain⟨c,rfl⟩:=items_int o;have f:c.length<=n:=by
  have g:(WTm.not<|.lt (.lit<|.int n)<|.len<|.arg 0).holds [] { args:=[.list (c.map .int)] }=true:=by
   have g:=(holds_andW p).1;rw[s]at g;exact g
  have u:=condW_of g (w_not<|w_lt w_lit<|w_len_list<|w_arg rfl)
  simp_all
 cases j with
 |cons w1 w2=>
  cases w2;cases w1 with
  |list ho hall=>exact#[_,_,c,rfl,rfl,ho,kU c _ hall,f]
theorem CL(l:OpenLaw)(args:List WData):l.row.toRowW.claim.post args (.bool true) args=true:=
 postW_of
  (show WShape.has [] _ _=true by rfl)
  (w_eq_bool (w_res rfl) w_lit) rfl
theorem vy{l:OpenLaw}
  (T:l.most=ap n) (z:d.params.defaults=[])
  (call:∀(w:fx)(c b:ca)(p B:aa2)(fa:cb)(o:Obj)(A s g:ay)(a:cb)(vs:aaW)(u:aaU),
   Ground q loose [] XP w c p B b.heap->YP w b.heap->
   b.heap.get? fa=ap o->o.data=.func (docDef d.name d.params d.body d.scope A s g)->b.heap.CodeRec s d.name->p d.name=ap (.ref fa)->
   b.heap.get? a=ap { cls:=.type "list",data:=.seq vs.toArray }->re vs u->u.length<=n->b.gens=(Tw [])->
   y' (eC l.prog w) Z4 (.call (.ref fa) #[[.ref a],[]]) (λr m=>r=.ok (.ret<|.bool true)/\OldK b.heap m.heap/\m.os=b.os/\Uf m.gens) b):
  WalkO q loose XP YP l.row.toRowW d [] (λf vs=>YT f vs):=by
 intro w c b p B G Y fa o A s g J kV M I v F x K H E U j C N y O;obtain rfl:J=.none:=Dflts.none F z;obtain rfl:kV=.none:=Dflts.noKw F;obtain⟨a,vs,u,rfl,rfl,i,e,h⟩:=Cs T j y;refine enter_call (q0 (call w c b p B fa o A s g a vs u G Y M (fd_plain I) v x i e h K) λr m L=>?_);obtain⟨rfl,S,P,Q⟩:=L;exact#[.inl #[.bool true,.bool true,[],rfl,λ_=>rfl,.bool true,CL l _,λ_=>#[Ya,λ_ R=>(nomatch R)]],S,P,Q]
end Att
namespace _2
open PySem PySem.Spec PyProof.Rows
variable{a l:cb}{A:fy}{items:aa3}{b f1:Bool}{h h':g4}{args:List (Bool×cb)}{fp:aaX}{i j n t':Nat}{s:ca}{x:Str}{α:Type}{K:Ug}{f0:ay}{w:fx}{F:ZS->Option ay}
theorem dE:∀{vs:aaW}{c:aaU},re vs c->Vals (c.map V.int) vs:=by
 intro vs c h
 induction h with
 |nil=>exact .nil
 |cons n t _ ih=>exact .cons #[t,rfl] ih
def Ey(H:Hp):Prop:=∀b,H b=bb\/∃o xs,H b=ap (.frz o<|.lst xs)
theorem FX(KX:K.In c.heap)(R:c.heap.Ns eH O)(g:c.heap.Ns builtinsNs mb)(hbb:∀x:Str,x≠"__name__"->mb x=eT x)(T:c.heap.NoLimit)(hg:c.gens=(Tw []))(U:c.heap.get? a=ap { cls:=.type "list",data:=.seq vs.toArray })(hi:re vs ns)(hl:ns.length<=sizeLine)(hr:Room k Z4)(F:∀base:g4,K.In base->base.Ns eH O->FnOk P w K O base CX k fa fd [x] sp)(hbind:∀(s:ca)(u:ay),aad s fd #[[u],[]] [(x,u)])(hsp:∀H:Hp,Ey H->SqL K H a (ns.map V.int)->sp [.ref a] H (λv _=>v=.bl true) λ_ _ _=>False)(hCX:∀H e p,CX [] H c (λ_ _ _=>False) e p->False):
  y' (eC P w) Z4 (.call (.ref fa) #[[.ref a],[]]) (λr p=>r=.ok (.ret<|.bool true)/\OldK c.heap p.heap/\p.os=c.os/\Uf p.gens) c:=by
 have rv:=dE hi;have C:=hi.length
 -- from an abstract heap in which nothing but the script may be tracked
 have y:∀H:Hp,Ey H->SqL K H a (ns.map V.int)->HOk P w H c.heap->(∀b,H b≠bb->b=a)->(H a≠bb->K.lookup a=bb)->
   y' (eC P w) Z4 (.call (.ref fa) #[[.ref a],[]]) (λr p=>r=.ok (.ret<|.bool true)/\OldK c.heap p.heap/\p.os=c.os/\Uf p.gens) c:=by
  intro H hO hS M hA hK;have f:∀{b:cb}{o:Obj},c.heap.get? b=ap o->H b=bb->(sv c.heap H).get? b=ap o:=λe n=>FU e n;have Y:∀{b:cb}{o:Obj}{B:Array Z'}{L:Nat},c.heap.get? b=ap o->o.data=.dict B L->H b=none:=λ{b o B L} e d=>by
   cases q:H b with
   |none=>rfl
   |some u=>
    have W:b=a:=hA b (by rw[q];simp)
    subst W;rw[U]at e;cases e;have d':Data.seq vs.toArray _=Data.dict B L:=d;cases d'
  have nsK:∀{b:cb}{m:aa2},c.heap.Ns b m->(sv c.heap H).Ns b m:=λ{b m} ⟨o,B,L,e,d,r⟩=>#[o,B,L,f e (Y e d),d,r];have G:K.In (sv c.heap H):=λb o e=>f (KX b o e) (by
   cases q:H b with
   |none=>rfl
   |some u=>
    have W:b=a:=hA b (by rw[q];simp)
    subst W;rw[hK (by rw[q];simp)]at e;cases e)
  have hM:Mod K O (sv c.heap H):=#[G,nsK R,#[mb,nsK g,hbb],let ⟨mc,h1,h2⟩:=T;#[mc,nsK h1,h2]];have e0:Env0 P w K O (sv c.heap H) Z4 [] c H:=#[rfl,hM,λb o e=>JV e,YJ (De _ _),trivial,λb g=>absurd (show b∈([]:aaX) from g) (by simp),M,.of_eq hg]
  refine q0 ((F _ G<|nsK R).run Z4 [] c H #[[.ref a],[]] [.ref a] [.ref a] _ _ hr e0 (hbind c<|.ref a) (.cons rfl .nil)<|hsp H hO hS) λr p h=>?_;cases r with
  |error e=>exact(hCX H e p h).elim
  |ok fl=>
   cases fl with
   |next=>exact Vk h
   |brk=>exact Vk h
   |cont=>exact Vk h
   |ret u=>
    obtain⟨v,H',os,N,un,I,r',q⟩:=h;have q':v=.bl true:=q;subst q';obtain rfl:u=YV true:=r';refine#[rfl,OldK.of_keep λb o e=>?_,os,N];cases q:H b with
    |none=>exact un.keep b o e q (by intro z;exact absurd (show b∈([]:aaX) from z) (by simp)) (by simp)
    |some u=>
     rcases hO b with z|⟨ob,xs,z⟩
     .rw[q]at z;cases z
     .have z2:=un.frzs b ob _ z
      obtain⟨e1,_⟩:=M b _ z;obtain⟨e2,_⟩:=I b _ z2;rw[e]at e1;cases e1;exact e2
 cases hk:K.lookup a with
 |some o=>
  -- the script is one of the module's own objects
  have e:=KX a o hk;rw[U]at e;cases e;refine y (λ_=>bb) (λ_=>.inl rfl) (.inr #[_,vs.toArray,_,hk,rfl,rfl,rfl,by rw[Uo,C];exact hl,by simpa using rv]) (λb u z=>by have J:(none:Option HO)=ap u:=z;cases J) (λb z=>absurd rfl z) λz=>absurd rfl z
 |none=>
  refine y (λb=>if b=a then ap (.frz { cls:=.type "list",data:=.seq vs.toArray }<|.lst<|ns.map V.int) else bb) (λb=>?_) (.inl<|.inr #[{ cls:=.type "list",data:=.seq vs.toArray },if_pos rfl]) (λb u z=>?_) (λb z=>?_) λ_=>hk
  .by_cases g:b=a
   .exact .inr #[_,_,if_pos g]
   .exact .inl (if_neg g)
  .by_cases g:b=a
   .have J:=(if_pos g).symm.trans z
    cases J;subst g;exact#[U,by rw[Ub];exact hl,vs,_,rv,U]
   .have J:=(if_neg g).symm.trans z
    cases J
  .by_cases g:b=a
   .exact g
   .exact absurd (if_neg g) z
theorem JL{l:W.OpenLaw}{K:Params->Ug}{CX:fx->pE}{sp:fx->Sp}(hn:l.most=ap n)(O:n<=sizeLine)(L:d.params.defaults=[])(hr:Room k Z4)(hY:∀(w:fx)(h:g4),YP w h->(K w.params).In h)(F:∀(w:fx)(r:aa2)(fa:cb)(h:g4),(K w.params).In h->h.Ns eH r->r d.name=ap (.ref fa)->
   ∃fd:f',(∀(s:ca)(u:ay),aad s fd #[[u],[]] [(x,u)])/\
    ∀c:g4,(K w.params).In c->c.Ns eH r->FnOk l.prog w (K w.params) r c (CX w) k fa fd [x] (sp w))(N:∀(w:fx)(H:Hp)(a:cb)(C:aaU),C.length<=n->Ey H->SqL (K w.params) H a (C.map V.int)->sp w [.ref a] H (λv _=>v=.bl true) λ_ _ _=>False)(J:∀(w:fx)(H:Hp)(s:ca)(e:ay)(M:ca),CX w [] H s (λ_ _ _=>False) e M->False):
  W.WalkO q loose XP YP l.row.toRowW d [] (λf vs=>YT f vs):=by
 refine Att.vy hn L λw R B r mb fa o pm cd doc a vs C G Y ho hd hcd I y p m hg=>?_;have KX:=hY w _ Y;obtain⟨fd,hb,U⟩:=F w r fa _ KX G.T.g I;exact FX KX G.T.g G.T.b G.T.builtins G.T.nolimit hg y p (Uu m O) hr U hb (λH hO hS=>N w H a C m hO hS) λH e M=>J w H B e M
noncomputable def eE(s:ol)(j:Nat):Stmt:=match s with
 |.ClassDef _ _ _ body _ _ _ _ _ _ _=>body.getD j (.Pass #[0,0,0,0])
 |_=>.Pass #[0,0,0,0]
def ck(s:ol):Arguments:=match s with
 |.FunctionDef _ a _ _ _ _ _ _ _ _=>a
 |_=>{ posonlyargs:=[],args:=[],vararg:=bb,kwonlyargs:=[],kw_defaults:=[],kwarg:=bb,defaults:=[] }
def bv(s:ol):List Stmt:=match s with
 |.FunctionDef _ _ b _ _ _ _ _ _ _=>b
 |_=>[]
def aP(s:ol):Scope:=match s with
 |.FunctionDef _ _ _ _ _ _ sc _ _ _=>sc
 |_=>{ kind:=.function,names:=[],isGenerator:=cp,isCoroutine:=cp }
abbrev CX0:pE:=λ_ _ _ _ _ _=>False
abbrev E0:XK:=λ_ _ _=>False
structure Fun(K:Ug)(x aaM:Str)(st:ol)(f:cb)(fd:f'):Prop where
 ex:∃(oc:ay)(od:Option cb)(kV doc pm:ay)(an:Option cb)(cdv ct:ay)(osl:Array (Option ay)),
  fd=Wt x aaM (ck st) (bv st) (aP st) .none kV doc pm an cdv ct/\K.lookup f=ap #[oc,od,.func fd,osl]/\XJ K cdv aaM=true
 kp:Vq K (.ref f)=true
theorem Fun.binds(F:Fun K x c m f fd)(h:∀(kV e o:ay)(q:Option cb)(g p:ay)(us:aaW),us.length=ps.length->aah (Wt x c (ck m) (bv m) (aP m) .none kV e o q g p) #[us,[]]=pure (ps.zip us)):Binds K fd ps []:=by
 obtain⟨v,y,kV,e,o,q,g,p,u,rfl,lk,r⟩:=F.ex;exact .all (h kV e o q g p)
theorem xr{kV:ay}(l:K.lookup f=ap #[y,v,.func (Wt x e (ck g) (bv g) (aP g) .none kV o p r m q),u])(c:XJ K m e=true)(k:Vq K (.ref f)=true):Fun K x e g f (Wt x e (ck g) (bv g) (aP g) .none kV o p r m q):=#[#[y,v,kV,_,p,r,_,q,_,rfl,l,c],k]
theorem vD(c:Room k A):A.units+1<cLine:=Nat.lt_of_le_of_lt (Nat.add_le_add_left (by decide) _) c.units
theorem Ds:bt X (.builtin "len") (λxs H Q=>∃a aaN,xs=[V.ref a]/\H a=ap (.dK aaN)/\Q (.int aaN.length) H):=by
 intro aaL s Z H xs f Q I r h;obtain⟨a,aaN,rfl,c,q⟩:=h;obtain⟨u,rfl,e⟩:=iT r;cases e;exact S9 I (.inl c) λt g I'=>#[.int aaN.length,H,I',#[t,rfl],q]
theorem tI(I:Nat->ca->Prop)(turn:∀n s,I n s->ez (eC prog w) A (x9 it) (λr s₁=>match r with
   |none=>R (.ok .next) s₁
   |some v=>ez (eC prog w) A (V' target it v) (λ_ s₂=>ez (eC prog w) A (Z_ target env v) (λ_ s₃=>
     ez (eC prog w) A (forIn ifs true λc r=>if r=true then do let ok <- isTrue c env (fv c env);pure (W2 ok) else pure (W2 r)) (λok s₄=>
      if ok=true then ez (eC prog w) A (fv elt env) (λx s₅=>
       ez (eC prog w) A (call (.builtin "list.append") [aaO,x]) (λ_ s₆=>∃m,m<n/\I m s₆) (λ_ _=>False) s₅) (λ_ _=>False) s₄
      else ∃m,m<n/\I m s₄) (λ_ _=>False) s₃) (λ_ _=>False) s₂) (λ_ _=>False) s₁) (λ_ _=>False) s)(n:Nat)(h:I n s):
  y' (eC prog w) A (.compLoop (.ListComp elt [#[target,iter,ifs,0]] scope pos) 0 it aaO env) R s:=by
 refine codeAny_loop rfl I (λn s hI=>?_) n h;show ez _ A _ _ _ s;refine wpAny_noted ?_;rw[compTurn_list];refine ax (W'<|wpAny_bind<|wpAny_mono (turn n s hI) (λr s₁ h₁=>?_)<|by lia)
 cases r with
 |none=>exact cx h₁
 |some v=>
  refine ax (j0 h₁ (λ_ s₂ h₂=>ax (j0 h₂ (λ_ s₃ h₃=>ax (j0 h₃ (λok s₄ h₄=>?_)<|by lia))<|by lia))<|by lia)
  cases ok with
  |false=>exact cx (by trivial)
  |true=>
   exact ax (ax<|wpAny_mono h₄ (λx s₅ h₅=>ax (j0 h₅ (λ_ s₆ h₆=>cx (cx<|by trivial))<|by lia))<|by lia)
noncomputable def a_(X:Cx)(N:aaV)(scope:qa)(cl:List (Str×cb))(C:cb)(s₀:ca)(H₀:Hp)(fp:aaX)(pl:aa1):Cx where
 prog:=X.prog
 w:=X.w
 K:=X.K
 mg:=X.mg
 base:=X.base
 A:=X.A
 N:=N
 s₀:=s₀
 H₀:=H₀
 env:=compEnvC scope cl C X.env
 outer:=X.stack
 stack:=X.stack
 ex:=fp
 fn:=λ_=>cp
 calm:=X.calm
 pn:=X.pn++pl
 xe:=λ_ _=>False
inductive Frees(X:Cx)(scope:qa):List Str->List Nat->Prop where
 |nil:Frees X scope [] []
 |cons {x:Str} {j:Nat} {xs:aaV} {js:List Nat}:X.N[j]?=ap x->(X.env.kindOf x=ap .cell\/X.env.kindOf x=ap .free)->
   ((T_ scope X.env).names.lookup x=ap .cell\/(T_ scope X.env).names.lookup x=ap .free)->Frees X scope xs js->Frees X scope (x::xs) (j::js)
theorem Frees.length:∀{xs:aaV}{c:List Nat},Frees X scope xs c->xs.length=c.length
 |_,_,.nil=>rfl
 |_,_,.cons _ _ _ t=>congrArg _ t.length
theorem Frees.get:∀{xs:aaV}{e:List Nat},Frees X scope xs e->∀{i:Nat}{x:Str},xs[i]?=ap x->∃j,e[i]?=ap j/\X.N[j]?=ap x/\(X.env.kindOf x=ap .cell\/X.env.kindOf x=ap .free)/\
   ((T_ scope X.env).names.lookup x=ap .cell\/(T_ scope X.env).names.lookup x=ap .free)
 |_,_,.nil,i,x,h=>by simp at h
 |_,_,.cons a b c _,0,x,h=>by simp at h;subst h;exact#[_,rfl,a,b,c]
 |_,_,.cons _ _ _ t,i+1,x,h=>by
  obtain⟨j,g,f⟩:=t.get (by simpa using h)
  exact#[j,by trivial,f]
noncomputable def eU(ls:aaV)(js:List Nat)(Z:St):St:=ls.map (λ_=>bb)++js.map λj=>(Z[j]?).join
structure CompOk(X:Cx)(scope:qa)(cl:List (Str×cb))(ls fs:aaV)(js:List Nat):Prop where
 kind:scope.kind=.function
 nocell:∀y∈scope.names,y.2≠.cell
 locs:∀x∈scope.names,x.2=.local->scope.names.lookup x.1=ap .local
 clos:Z0 scope X.env=pure cl
 cells:∀x c,cl.lookup x=ap c->X.env.cells.lookup x=ap c
 has:∀x,((T_ scope X.env).names.lookup x=ap .cell\/(T_ scope X.env).names.lookup x=ap .free)->∃c,cl.lookup x=ap c
 frees:Frees X scope fs js
theorem Gj{t':Nat}(I:Inv X aaL Z H s)(co:CompOk X scope cl ls fs W)(B:∀b∈fp,jV X aaL H b/\b<s.heap.objs.size)(Y:g.Ns s.heap.objs.size m)(C:∀b o,s.heap.get? b=ap o->g.get? b=ap o):
  Inv (a_ X (ls++fs) scope cl s.heap.objs.size s H fp aaL) [] (eU ls W Z) H { s with heap:=g,toks:=t' }:=by
 refine#[#[I.ok.mod,co.kind,I.ok.glob,I.ok.blt,Uk _,λx y c T G=>?_,λx O=>co.has x O,λx c h _=>absurd (show cp=true from h) WL,I.ok.hd,I.ok.frames,.inl rfl,λb r=>#[Uv (B b r).2,λx c e=>?_],
   λb o e=>I.bs b o e,Uu I.ok.bsz I.sz,λb o e r=>?_,λb r hf=>?_,I.stack,λb r=>I.stkFree b r],
  rfl,I.bare,Un.kept C,#[m,Y,λi x v T G h3=>?_],λx c e=>?_,I.hok.fresh (Uk _),λx c e=>I.freeC x c (co.cells x c e),λp hp=>?_,I.hok.kept C,?_]
 .exact I.ok.inj x y c (co.cells x c T) (co.cells y c G)
 .exact(B b r).1.2.2.2.2.1 x c (co.cells x c e)
 .obtain⟨f0,f1,f2,f3,_⟩:=(B b r).1
  rcases f3 with z|z
  .exact I.ok.noex b o e z
  .exact absurd (Us (Ue (I.ok.bs b o e).1) z) (UY _)
 .obtain⟨f0,f1,f2,f3,_⟩:=(B b r).1
  rcases Uj.mp (I.stkSub b hf) with z|z
  .exact f1 z
  .exact f2 z
 .have hi:¬i<ls.length:=λhi=>by
   have f:=G;unfold eU at f
   grind
  have hN:fs[i-ls.length]?=ap x:=by
   have U:(ls++fs)[i]?=ap x:=T
   rwa [Vi (by lia)]at U
  obtain⟨j,hj,O,hc,hl⟩:=co.frees.get hN;have L:Z[j]?=ap (ap v):=by
   have f:=G;unfold eU at f;rw[Vi (by simpa using hi),Ub,Um,hj]at f
   have q:(Z[j]?).join=ap v:=by simpa using f
   cases e:Z[j]? with
   |none=>rw[e]at q;cases q
   |some o=>simp_all
  obtain⟨mX,_,R⟩:=I.loc;have J:QU X.env.scope x:=by
   rcases hc with z|z
   .exact .inr (.inl z)
   .exact .inr (.inr z)
  obtain⟨u,ru,lo⟩:=R j x v O L J;refine#[u,ru,.inr #[hl,?_]];obtain⟨c,ec⟩:=co.has x hl;refine#[c,ec,?_];rcases lo with⟨kl,_⟩|⟨_,c',e',z⟩
  .simp_all
  .rw[co.cells x c ec]at e'
   cases e';obtain⟨o,N,hd⟩:=z;exact#[o,C _ _ N,hd]
 .obtain⟨v,o,N,hd⟩:=I.cell x c (co.cells x c e)
  exact#[v,o,C _ _ N,hd]
 .have M:p∈X.pn++aaL:=by
   have q:p∈(X.pn++aaL)++[]:=hp;simpa using q
  obtain⟨e,n,ne,nf,d⟩:=I.pin p M;refine#[C _ _ e,n,(λb o e=>Uv (Ue e)) _ _ e,λr=>?_,d];rcases Uj.mp (I.stkSub p.1 r) with z|z
  .exact ne z
  .exact nf z
 .show (eU ls W Z).length=(ls++fs).length
  unfold eU;rw[UC,Ub,Ub,UC,co.frees.length]
def Pz(X:Cx)(ifs:aaY)(t:TT):Prop:=
 ∀(aaL:aa1)(s:ca)(Z:St)(H:Hp)(Q:Bool->Hp->Prop),Inv X aaL Z H s->t Z H Q->
  ez (eC X.prog X.w) X.A (forIn ifs true λc r=>if r=true then do let ok <- isTrue c X.env (fv c X.env);pure (W2 ok) else pure (W2 r)) (TP X aaL Z Q) X.xe s
def tAll:TT:=λ_ H Q=>Q true H
theorem JO:Pz X [] tAll:=λ_ _ _ H _ I h=>wpAny_tests_nil #[H,I,h]
theorem Ki(h:PT X c t):Pz X [c] t:=λaaL s Z H Q I q=>wpAny_tests_one (h _ s Z H Q I q)
def Ee(wi:TI)(ls:aaV)(js:List Nat)(g:TG)(tt:TT)(te:TE):TE:=λZ H Q=>wi Z H λJ H1=>∀p,H1 p=bb->∃W:Nat->Nat->St->Hp->Prop,(∃m,W 0 m (eU ls js Z) (upd H1 p<|.lst []))/\∀i m σ' H',W i m σ' H'->
 (J.stop i H'/\Q (.ref p) H')\/(J.go i H'/\∃N:St->Hp->Prop,(∀σ2 H2,N σ2 H2->∃m',m'<m/\W (i+1) m' σ2 H2)/\∀x H2,J.yld i H' x H2->g x σ' H2 λe H3=>tt e H3 λc H4=>
  if c=true then te e H4 λy H5=>∃ys,H5 p=ap (.lst ys)/\ys.length<sizeLine/\N e (upd H5 p<|.lst (ys++[y])) else N e H4)
theorem uW{R:ay->cb->aak->ca->Prop}{Q:VK}(hc:X.calm=true)(co:CompOk X scope cl ls fs js)(hY:∀(C:cb)(s₀:ca)(H₀:Hp)(fp:aaX)(pl:aa1),PG (a_ X (ls++fs) scope cl C s₀ H₀ fp pl) tg g/\Pz (a_ X (ls++fs) scope cl C s₀ H₀ fp pl) ifs tt/\PE (a_ X (ls++fs) scope cl C s₀ H₀ fp pl) elt te)(I:Inv X aaL Z H1 s2)(T:Turn X.prog X.w X.K tg J fp it tn)(st:tn 0 s2.heap)(hf:∀b∈fp,jV X aaL H1 b)(q:∀p,H1 p=bb->∃W:Nat->Nat->St->Hp->Prop,(∃m,W 0 m (eU ls js Z) (upd H1 p<|.lst []))/\∀i m G H',W i m G H'->
   (J.stop i H'/\Q (.ref p) H')\/(J.go i H'/\∃N:St->Hp->Prop,(∀σ2 H2,N σ2 H2->∃m',m'<m/\W (i+1) m' σ2 H2)/\∀x H2,J.yld i H' x H2->g x G H2 λσ3 H3=>tt σ3 H3 λc H4=>
    if c=true then te σ3 H4 λy H5=>∃ys,H5 p=ap (.lst ys)/\ys.length<sizeLine/\N σ3 (upd H5 p<|.lst (ys++[y])) else N σ3 H4))(hR:∀(p C:cb)(H':Hp)(s':ca)(m:aa2),s'.heap.Ns C m->Inv X aaL Z H' s'->H' C=bb->C≠X.env.locals->X.s₀.heap.objs.size<=C->(∀x c,X.env.cells.lookup x=ap c->c≠C)->(∀pp∈X.pn++aaL,pp.1≠C)->Q (.ref p) H'->R (.ref p) C (.ok .next) s'):
  ez (eC X.prog X.w) X.A (newList []) (λaaO s₃=>ez (eC X.prog X.w) X.A (newFunctionEnv scope X.env.globals cl [] X.env.qual bb .none<|some X.env) (λcenv s₄=>
   y' (eC X.prog X.w) X.A (.compStart (.ListComp elt [#[tg,iter,ifs,0]] scope pos) 0 (.ref it) aaO { cenv with scope:=T_ scope X.env }) (R aaO cenv.locals) s₄) E s₃) E s2:=by
 have hp0:H1 s2.heap.objs.size=none:=I.hok.fresh (Uk _);obtain⟨W,⟨m0,w0⟩,turn⟩:=q s2.heap.objs.size hp0;refine p7 (wpAny_newFunctionEnv co.nocell (by intro y hy;simp at hy) (λB M U=>?_) co.kind)
 dsimp only at M U ⊢;have I3:Inv X aaL Z (upd H1 s2.heap.objs.size<|.lst []) { s2 with heap:=s2.heap.push { cls:=.type "list",dict:=bb,data:=.seq ([]:aaW).toArray } }:=
  I.lnew (aaR:=[]) (t':=s2.toks) .nil (Va _)
 generalize hs3:({ s2 with heap:=s2.heap.push { cls:=.type "list",dict:=bb,data:=.seq ([]:aaW).toArray } }:ca)=s3 at I3;have hh3:s2.heap.push { cls:=.type "list",dict:=bb,data:=.seq ([]:aaW).toArray }=s3.heap:=by rw[<- hs3]
 rw[hh3]at M U ⊢;have hsz3:s3.heap.objs.size=s2.heap.objs.size+1:=by rw[<- hh3,Vg]
 have hk3:∀b o,s2.heap.get? b=ap o->s3.heap.get? b=ap o:=λb o e=>by rw[<- hh3];exact Ua _ e
 have hlt:∀b∈fp,b<s2.heap.objs.size:=λb f=>by
  obtain⟨o,e,_⟩:=T.obj _ _ st b f;exact Ue e
 have hnp:∀b∈fp,upd H1 s2.heap.objs.size (.lst []) b=none:=λb f=>by
  rw[aw (Uv<|hlt b f)];exact(hf b f).1
 have hf3:∀b∈fp,jV X aaL (upd H1 s2.heap.objs.size<|.lst []) b/\b<s3.heap.objs.size:=λb f=>#[#[hnp b f,(hf b f).2],by rw[hsz3];exact XF (hlt b f)]
 have hk4:∀b o,s3.heap.get? b=ap o->B.get? b=ap o:=λb o e=>U.extBut b o (Uv<|Ue e) (Ua _ e);have st4:tn 0 B:=T.keep _ _ _ st λb f o e=>hk4 b o (hk3 b o e);have I4:=Gj (t':=s3.toks) I3 co hf3 M hk4;obtain⟨hg,ht,he⟩:=hY s3.heap.objs.size s3 (upd H1 s2.heap.objs.size<|.lst []) fp aaL;have O:∀{H':Hp},(∀b∈fp,H' b=bb)->∀b∈fp,jV (a_ X (ls++fs) scope cl s3.heap.objs.size s3 (upd H1 s2.heap.objs.size<|.lst []) fp aaL) [] H' b:=λ{H'} hn b f=>by
  obtain⟨f0,f1,f2,f3,f4,f5⟩:=hf b f;refine#[hn b f,Uv (hf3 b f).2,λz=>?_,.inl f,λx c e=>f4 x c (co.cells x c e),λpp hp=>f5 pp ?_]
  .rcases Uj.mp (I3.stkSub b z) with y|y
   .exact f1 y
   .exact f2 y
  .have q:pp∈(X.pn++aaL)++[]:=hp
   simpa using q
 have loop:∀s₄:ca,s₄={ s3 with heap:=B,toks:=s3.toks }->
   y' (eC X.prog X.w) X.A (.compLoop (.ListComp elt [#[tg,iter,ifs,0]] scope pos) 0 (.ref it) (.ref s2.heap.objs.size)<|compEnvC scope cl s3.heap.objs.size X.env) (R (.ref s2.heap.objs.size) s3.heap.objs.size) s₄:=by
  rintro s₄ rfl
  refine tI (λn s'=>∃i G H',Inv (a_ X (ls++fs) scope cl s3.heap.objs.size s3 (upd H1 s2.heap.objs.size<|.lst []) fp aaL) [] G H' s'/\tn i s'.heap/\(∀b∈fp,H' b=bb)/\W i n G H') ?_ m0 #[0,_,_,I4,st4,hnp,w0]
  rintro n s5 ⟨i,σ5,H5,I5,st5,fr5,w5⟩
  rcases turn i n σ5 H5 w5 with⟨stop,qn⟩|⟨go,N,hN,step⟩
  .refine bu (T.done (a_ X (ls++fs) scope cl s3.heap.objs.size s3 (upd H1 s2.heap.objs.size<|.lst []) fp aaL) rfl rfl rfl hc i [] s5 σ5 H5 _ I5 (O fr5) st5 stop) λr s6 L=>?_
   obtain⟨hr,I6⟩:=L;subst hr;obtain⟨m6,hn6,_⟩:=I6.loc;have IX:Inv X aaL Z H5 s6:=I3.call' I6.os I6.base I6.hok I6.bare λb f=>#[(hf b f).2.2.2.1,(hf b f).2.1,(hf b f).2.2.2.2.1,(hf b f).2.2.2.2.2];refine hR _ _ H5 s6 m6 hn6 IX I6.free (Wi I3.lt) I3.sz (λx c e z=>?_) (λpp hp z=>?_) qn
   .obtain⟨v,L⟩:=I3.cell x c e
    have zl:=L.lt;rw[z]at zl;exact UY _ zl
   .have zl:=Ue (I3.pin pp hp).1
    rw[z]at zl;exact UY _ zl
  .refine bu (T.item (a_ X (ls++fs) scope cl s3.heap.objs.size s3 (upd H1 s2.heap.objs.size<|.lst []) fp aaL) rfl rfl rfl hc i [] s5 σ5 H5 _ I5 (O fr5) st5 go) λr s6 L=>?_
   obtain⟨u,hr,h6⟩:=L;subst hr;refine bu h6 λ_ s7 L=>?_;obtain⟨x,H7,I7,r7,y7,st7,fr7⟩:=L;have I7':=I7.pinned (O fr7) (T.obj _ _ st7);refine bu (hg _ s7 σ5 H7 x u _ I7' r7<|step x H7 y7) λ_ s8 L=>?_;obtain⟨σ8,H8,I8,q8⟩:=L
   have again:∀{Y:St}{H9:Hp}{s9:ca},Inv (a_ X (ls++fs) scope cl s3.heap.objs.size s3 (upd H1 s2.heap.objs.size<|.lst []) fp aaL) ([]++mQ fp s7.heap) Y H9 s9->N Y H9->
     ∃m,m<n/\∃i G H',Inv (a_ X (ls++fs) scope cl s3.heap.objs.size s3 (upd H1 s2.heap.objs.size<|.lst []) fp aaL) [] G H' s9/\tn i s9.heap/\(∀b∈fp,H' b=bb)/\W i m G H':=λ{Y H9 s9} I9 n9=>by
    obtain⟨m',hm,w9⟩:=hN Y H9 n9;refine#[m',hm,i+1,Y,H9,I9.unpinned,T.keep _ _ _ st7 λb f o e=>(I9.pin (b,o)<|UP _<|UP _<|fT f e).1,λb f=>?_,w9];obtain⟨o,e,d⟩:=T.obj _ _ st7 b f;exact(I9.pin (b,o)<|UP _<|UP _<|fT f e).2.1
   refine bu (ht _ s8 σ8 H8 _ I8 q8) λok s9 L=>?_;obtain⟨H9,I9,q9⟩:=L;cases ok with
   |false=>exact again I9 q9
   |true=>
    refine bu (he _ s9 σ8 H9 _ I9 q9) λxv s10 L=>?_;obtain⟨y,H10,I10,r10,ys,hp,hl,n10⟩:=L;obtain⟨z,aaR,n',r,hl',e⟩:=I10.lstM hp;refine oD Xk #[_,e,rfl] F.entry_list_append (F.args_list_append_2 _ _) (Y2 s2.heap.objs.size aaR.toArray n' xv<|by rw[Uo];lia) #[e,?_]
    refine again (I10.lset (its':=aaR++[xv]) hp e (by simp) (r.append<|.cons r10 .nil) ?_) n10
    rw[UC,Vy];lia
 have se:({ s2 with heap:=B,toks:=s2.toks+([]:List (Str×ay)).length }:ca)={ s3 with heap:=B,toks:=s3.toks }:=by rw[<- hs3];rfl
 exact codeAny_compStart_list (loop _ se) (T.self _ 0 _ _ _ st4<|loop _ se)
theorem IS(hc:X.calm=true)(co:CompOk X scope cl ls fs js)(hi:PI X tg iter wi)(hY:∀(C:cb)(c:ca)(H₀:Hp)(fp:aaX)(pl:aa1),PG (a_ X (ls++fs) scope cl C c H₀ fp pl) tg g/\Pz (a_ X (ls++fs) scope cl C c H₀ fp pl) ifs tt/\PE (a_ X (ls++fs) scope cl C c H₀ fp pl) elt te)(hs:∀x,n7 iter X.env x=pure x:=by intro _;rfl):PE X (.ListComp elt [#[tg,iter,ifs,0]] scope pos) (Ee wi ls js g tt te):=by
 intro aaL s Z H Q I h;rw[eval_ListComp];refine aao (use:=bb) rfl hs co.clos co.kind co.locs (bu (hi aaL s Z H _ I h) λxv s1 N=>bu N λY s2 h2=>?_);obtain⟨it,fp,tn,J,H2,e,I2,T,y,G,q⟩:=h2;subst e;refine uW (R:=λv C=>compPost (eC X.prog X.w) X.A X.xe bb (EP X aaL Z Q) v C) (Q:=Q) hc co hY I2 T y G q ?_;intro p C H' U m O IX M W u f r L;exact#[m,O,λh' B=>#[.ref p,H',IX.turned (t':=U.toks) (λb o hb e=>B.extBut b o hb e) M W (.inr u) f r,rfl,L]]
def NO(i:Nat)(t:TE):TS:=λD Z H=>t Z H λv H1=>D.nx (Z.set i<|some v) H1
theorem Jb(hN:X.N.Nodup)(O:X.N[i]?=ap x)(hx:DR X.env.scope x)(hc:X.calm=true)(co:CompOk X scope cl ls fs js)(hi:PI X tg iter wi)(hY:∀(C:cb)(f:ca)(H₀:Hp)(fp:aaX)(pl:aa1),PG (a_ X (ls++fs) scope cl C f H₀ fp pl) tg g/\Pz (a_ X (ls++fs) scope cl C f H₀ fp pl) ifs tt/\PE (a_ X (ls++fs) scope cl C f H₀ fp pl) elt te)(R:pb (.ListComp elt [#[tg,iter,ifs,0]] scope pos) (ap<|.Name x U) o.line X.env=pure true:=by rfl)(hs:∀x,n7 iter X.env x=pure x:=by intro _;rfl)(hf:X.fn x=true\/X.env.scope.names.lookup x=ap .local:=by and_intros):
  PS X (.Assign [.Name x U] (.ListComp elt [#[tg,iter,ifs,0]] scope pos) o) (NO i<|Ee wi ls js g tt te):=by
 intro aaL s Z H D I h;rw[exec_Assign_Name_used _ _ _ _ R];refine ax (W'<|wpAny_bind ?_)
 refine ax (j0 (aao rfl hs co.clos co.kind co.locs
  (bu (hi _ s Z H _ I h) λxv s1 h1=>bu h1 λitv s2 h2=>?_)) (λ_ s' L=>cx (cx L)) λ_ _ e=>e)
 obtain⟨it,fp,tn,J,H2,e,I2,T,G,f2,q⟩:=h2;subst e;refine uW (Q:=λv=>D.nx (Z.set i<|some v)) hc co hY I2 T G f2 q ?_;intro p C H' s' m hn IX hC hL u c r L;refine wpAny_assign_Name (pS IX hN O hx (v:=.ref p) rfl (λs'' I'' hb=>?_) hf);obtain⟨a,W,Y⟩:=hb;have B:C≠a:=by
  rcases Y with z|z
  .simp_all
  exact λy=>c x a z y.symm
 refine#[m,hn.sameBut W B,λh3 M=>?_];exact#[_,H',I''.turned (M.extBut) hC hL (.inr u) c r,L]
def SrcTn(b:Bool)(it a:cb)(i:Nat)(h:g4):Prop:=if b=true then h.IsListIter it a i else h.IsTupleIter it a i
def SrcSq(b:Bool)(h:g4)(a:cb)(items:aa3):Prop:=if b=true then h.IsList a items else h.IsTuple a items
theorem SrcTn.lt(x:SrcTn b it a i h):∃o,h.get? it=ap o/\∀v,o.data≠.cell v:=by
 cases b with
 |true=>obtain⟨o,e,c,d⟩:=x;exact#[o,e,λv z=>by simp_all]
 |false=>obtain⟨o,e,c,d⟩:=x;exact#[o,e,λv z=>by simp_all]
theorem SrcTn.keep(x:SrcTn b it a i h)(k:∀o,h.get? it=ap o->h'.get? it=ap o):SrcTn b it a i h':=by
 cases b with
 |true=>obtain⟨o,e,r⟩:=x;exact(#[o,k o e,r])
 |false=>obtain⟨o,e,r⟩:=x;exact(#[o,k o e,r])
theorem SrcSq.keep(x:SrcSq b h a items)(k:∀o,h.get? a=ap o->h'.get? a=ap o):SrcSq b h' a items:=by
 cases b with
 |true=>obtain⟨o,e,r⟩:=x;exact(#[o,k o e,r])
 |false=>obtain⟨o,e,r⟩:=x;exact(#[o,k o e,r])
theorem jh{x:ay}(c:s.heap.IsTupleIter it l i)(r:s.heap.IsTuple l items)(q:items[i]?=ap x)(hQ:∀h',h'.IsTupleIter it l (i+1)->Vh it s.heap h'->Q x { s with heap:=h' }):ez (eC prog w) A (U5<|.ref it) Q E s:=by
 obtain⟨o,f,p,e⟩:=id c;obtain⟨u,g,_,v,m⟩:=r
 refine ax (wpAny_callSpecial?_slot c.typeIs VY
  (kL VY c.typeIs Yq ?_<|Yj _))
 show ez _ _ (field _ 0 >>= _) _ _ s;refine ax (kB f e rfl ?_);refine ax (kB f e rfl ?_);refine ax (vr g m ?_);simp[q];exact ax (aae f e (by simp)<|wpAny_pure #[x,rfl,cx<|hQ _ #[_,Wj _ f (YN<|WN e _),(Obj.cls_mapFields ..).trans p,by
  rw[WN e];simp[p6]]<|UX ..])
theorem jG(r:A.handled=bb)(c:s.heap.IsTupleIter it l i)(v:s.heap.IsTuple l items)(u:items[i]?=bb)(hE:∀h' e,WV it s.heap h'->(∃o,h'.get? e=ap o/\o.cls=.type "StopIteration")->E (.ref e) { s with heap:=h' }):ez (eC prog w) A (U5<|.ref it) Q E s:=by
 obtain⟨o,q,B,p⟩:=id c;obtain⟨y,f,_,C,g⟩:=v
 refine ax (wpAny_callSpecial?_slot c.typeIs VY
  (kL VY c.typeIs Yq ?_<|Yj _))
 show ez _ _ (field _ 0 >>= _) _ _ s;refine ax (kB q p rfl ?_);refine ax (kB q p rfl ?_);refine ax (vr f g ?_);simp[u];refine ax (F'<|wpAny_bind<|wpAny_setField q p (by simp) ?_)
 refine ax ?_;refine ax (m:=aag _ _) (K' (by rfl) ?_)
 refine p7 ?_ (by size_fits)
 refine ax (aan ?_)
 first|rw[r]|rw[r]
 exact ax (cx<|wpAny_throw<|hE _ _ (((UX ..).extBut.push _).push _) #[_,Uh _ rfl,rfl])
theorem fZ{x:ay}(c:SrcTn b it l i s.heap)(f:SrcSq b s.heap l items)(e:items[i]?=ap x)(g:∀h',SrcTn b it l (i+1) h'->Vh it s.heap h'->Q x { s with heap:=h' }):ez (eC prog w) A (U5<|.ref it) Q E s:=by
 cases b with
 |true=>exact wpAny_nextOf_list_item c f e g
 |false=>exact jh c f e g
theorem dH(g:A.handled=bb)(c:SrcTn b it l i s.heap)(m:SrcSq b s.heap l items)(f:items[i]?=bb)(p:∀h' e,WV it s.heap h'->(∃o,h'.get? e=ap o/\o.cls=.type "StopIteration")->E (.ref e) { s with heap:=h' }):ez (eC prog w) A (U5<|.ref it) Q E s:=by
 cases b with
 |true=>exact wpAny_nextOf_list_end g c m f p
 |false=>exact jG g c m f p
noncomputable def iB(b:Bool):String:=if b=true then "list_iterator" else "tuple_iterator"
theorem fR(e:SrcSq b s.heap l items)(c:Q (.ref s.heap.objs.size) { s with heap:=s.heap.push { cls:=.type (iB b),data:=.fields (Tw [.ref l,.int 0 0]) } }):ez (eC prog w) A (ZZ<|.ref l) Q E s:=by
 cases b with
 |true=>exact vx e c
 |false=>exact wpAny_pyIter_tuple e c
theorem BI(e:h.get? it=ap { cls:=.type (iB b),data:=.fields (Tw [.ref l,.int 0 0]) }):SrcTn b it l 0 h:=by
 cases b with
 |true=>exact(#[_,e,rfl,rfl])
 |false=>exact(#[_,e,rfl,rfl])
theorem xo(c:s.heap.get? a=ap o)(h:Q (ap o) s):ez M A (loadIfAlive a) Q E s:=λΓ p _=>by
 show Sem.wp M Γ (.loadIfAlive a _) _ _ p s;rw[Sem.wp_loadIfAlive,c];exact h
structure ZS where
 b:Bool
 i:cb
 l:cb
abbrev iL(h:g4)(T:cb)(vs:aaW):Prop:=h.get? T=ap { cls:=.type "tuple",data:=.seq vs.toArray }
noncomputable abbrev pI(z TI TO:cb)(S:List ZS):List Addr:=z::TI::TO::S.map ZS.i
structure ZOk(z TI TO:cb)(S:List ZS):Prop where
 nd:(pI z TI TO S).Nodup
 off:∀t∈S,t.l∉pI z TI TO S
 ne:S≠[]
 few:S.length<=3
abbrev pf(h:g4)(z TI TO:cb)(f0:ay)(f1:Bool):Prop:=
 h.get? z=ap { cls:=.type "zip",dict:=bb,data:=.fields (Tw [f0,.bool f1,.bool cp,.ref TI,.ref TO]),slots:=(Tw []) }
def Ii(S:List ZS)(k:Nat)(h:g4):Prop:=∀t∈S,SrcTn t.b t.i t.l k h
theorem gT{α:Type}{f:α->g->Sem (ForInStep g)}{xs:List α}(b:Nat->g)(I:Nat->ca->Prop)
  (o:∀i x s,xs[i]?=ap x->I i s->ez M A (f x<|b i) (λr c=>r=.yield (b (i+1))/\I (i+1) c) E s) (m:∀c,I xs.length c->Q (b xs.length) c):
  ∀(n j:Nat)(s:ca),j+n=xs.length->I j s->ez M A (forIn (xs.drop j) (b j) f) Q E s
 |0,j,s,e,h=>by
  rw[We (by lia)]
  have:j=xs.length:=by lia
  subst this;exact cx (m s h)
 |n+1,j,s,e,h=>by
  have p:j<xs.length:=by lia
  rw[VA p,List.forIn_cons];refine ax (j0 (o j _ s (by simp) h) (λr c q=>?_) λ_ _ q=>q)
  obtain⟨rfl,q⟩:=q;exact gT b I o m n _ c (by lia) q
theorem nS{TI TO:cb}(D:ZOk z TI TO S):z≠TI/\z≠TO/\TI≠TO/\∀t∈S,t.i≠z/\t.i≠TI/\t.i≠TO:=by
 have:=D.nd;simp only[Vr,Uj,not_or]at this;obtain⟨⟨a,b,c⟩,⟨d,e⟩,f,g⟩:=this;exact#[a,b,d,λt m=>#[λe=>c (e▸UI m),λq=>e (q▸UI m),λe=>f (e▸UI m)]]
theorem yM{TI TO:cb}(D:ZOk z TI TO S)(c:S[i]?=ap t)(f:S[j]?=ap u)(h:i≠j):t.i≠u.i:=by
 have nd:(S.map ZS.i).Nodup:=by have:=D.nd;simp only[Vr]at this;exact this.2.2.2
 intro e;exact h ((List.getElem?_inj (by rw[Ub];exact(UO.1 c).1) nd).1<|by simp_all)
theorem ub{t:ZS}(m:A.handled=bb)(g:SrcTn t.b t.i t.l k s.heap)(f:SrcSq t.b s.heap t.l xs)(c:xs[k]?=o)(p:∀x h',o=ap x->SrcTn t.b t.i t.l (k+1) h'->Vh t.i s.heap h'->Q x { s with heap:=h' })(hE:∀h' e,o=bb->WV t.i s.heap h'->(∃o,h'.get? e=ap o/\o.cls=.type "StopIteration")->E (.ref e) { s with heap:=h' }):
  ez (eC prog w) A (U5<|.ref t.i) Q E s:=by
 cases o with
 |none=>exact dH m g f c λh' e q r=>hE h' e rfl q r
 |some x=>exact fZ g f c λh' q r=>p x h' rfl q r
structure ZMid(S:List ZS)(F:ZS->Option ay)(k:Nat)(fp:aaX)(h₀:g4)(j:Nat)(h:g4):Prop where
 ahead:∀i t,S[i]?=ap t->SrcTn t.b t.i t.l (if i<j then k+1 else k) h
 got:∀i t,i<j->S[i]?=ap t->(F t).isSome=true
 frame:∀c o,c∉fp->h₀.get? c=ap o->h.get? c=ap o
 size:h.objs.size=h₀.objs.size
theorem ZMid.zero(a:Ii S k h)(f:∀c o,c∉fp->h₀.get? c=ap o->h.get? c=ap o)(z:h.objs.size=h₀.objs.size):ZMid S F k fp h₀ 0 h:=
 #[λi t e=>by simpa using a t (Vf e),λi t q=>absurd q (X3 _),f,z]
theorem ZMid.at(m:ZMid S F k fp h₀ j h)(e:S[j]?=ap t):SrcTn t.b t.i t.l k h:=by simpa using m.ahead j t e
theorem ZMid.go(m:ZMid S F k fp h₀ j h)(i1:∀t∈S,∀o,h.get? t.i=ap o->h'.get? t.i=ap o)(f:∀c o,c∉fp->h.get? c=ap o->h'.get? c=ap o)(z:h'.objs.size=h.objs.size):ZMid S F k fp h₀ j h':=
 #[λi t e=>(m.ahead i t e).keep (i1 t<|Vf e),m.got,λc o n e=>f c o n (m.frame c o n e),z.trans m.size]
theorem ZMid.step{TI TO:cb}(D:ZOk z TI TO S)(m:ZMid S F k fp h₀ j h)(e:S[j]?=ap t)(r:t.i∈fp)(p:(F t).isSome=true)(v:SrcTn t.b t.i t.l (k+1) h')(b:Vh t.i h h'):ZMid S F k fp h₀ (j+1) h':=by
 refine#[λi u f=>?_,λi u q f=>?_,λc o n q=>b.extBut c o (λx=>n (x▸r)) (m.frame c o n q),b.1.trans m.size]
 .by_cases g:i=j
  .simp_all
  have q:=(m.ahead i u f).keep λo x=>b.extBut _ o (yM D f e g) x
  by_cases lt:i<j
  .rw[if_pos lt]at q
   rw[if_pos (XF lt)];exact q
  rw[if_neg lt]at q;rw[if_neg (by lia)]
  exact q
 by_cases g:i=j
 .subst g
  cases e.symm.trans f;exact p
 exact m.got i u (by lia) f
theorem xa{TI TO:cb}(m:pf s.heap z TI TO f0 f1)(h:ez (eC prog w) A.in1 (Builtin.«zip.__next__» #[[.ref z],[]]) (λfin s'=>∃v,fin=.done (.ret v)/\Q (ap v) s') (λe s'=>∃a,e=.ref a/\(∃o,s'.heap.get? a=ap o/\o.cls=.type "StopIteration")/\Q bb s') s):
  ez (eC prog w) A (x9<|.ref z) Q E s:=by
 have c:s.TypeIs (.ref z) _:=#[_,m,rfl];refine ax (p4<|wpAny_callSpecial?_slot c F.slot_zip_next<|wpAny_call_entry F.slot_zip_next c F.entry_zip_next (j0 h (λfin s' q=>?_) λe s' q=>?_)<|F.args_zip_next_1 _)
 .obtain⟨v,rfl,q⟩:=q
  exact#[v,rfl,cx q]
 obtain⟨a,rfl,⟨o,g,f⟩,q⟩:=q;exact ax (yl #[o,g,f] WF<|wpAny_pure q)
theorem Do{TI TO:cb}(c:pf s.heap z TI TO .none f1)(h:Q true s):ez (eC prog w) A (VI<|.ref z) Q E s:=by
 exact ax (kB c rfl rfl<|wpAny_pure h)
theorem CZ{TI TO T:cb}(hz:pf s.heap z TI TO (p6 T) f1)(hT:s.heap.get? T=ap oT)(h:∀h₀,pf h₀ z TI TO (p6 T) true->(∀c o,c≠z->s.heap.get? c=ap o->h₀.get? c=ap o)->h₀.objs.size=s.heap.objs.size->Q cp { s with heap:=h₀ }):ez (eC prog w) A (VI<|.ref z) Q E s:=by
 refine ax (kB hz rfl rfl ?_);refine ax (xo (by trivial) ?_)
 refine ax (kB hz rfl rfl ?_);cases f1 with
 |true=>
  exact cx (h _ hz (λ_ _ _ e=>e) rfl)
 |false=>
  exact ax (mm hz (by simp) λh₀ hz0 hs0=>cx (h _ hz0 hs0.extBut hs0.1))
theorem lL{TI TO:cb}(hh:A.handled=bb)(D:ZOk z TI TO S)(hz:pf s.heap z TI TO f0 f1)(hf:f0=.none/\f1=cp/\(∃vs:List ay,vs.length=S.length/\iL s.heap TO vs)\/∃(T:cb)(oT:Obj),f0=p6 T/\s.heap.get? T=ap oT)(hTI:iL s.heap TI (S.map λt=>.ref t.i))(h1:Ii S k s.heap)(hl:∀t∈S,∃xs,SrcSq t.b s.heap t.l xs/\xs[k]?=F t)(hQ:∀h' us,us.map ap=S.map F->(f0=.none/\aac h' z TI TO (p6 s.heap.objs.size)/\iL h' TO us\/f0≠.none/\pf h' z TI TO f0 true)->Ii S (k+1) h'->iL h' s.heap.objs.size us->
   (∀c o,c∉z::TO::S.map ZS.i->s.heap.get? c=ap o->h'.get? c=ap o)->Q (ap<|.ref s.heap.objs.size) { s with heap:=h' })(hE:∀h',(∃t∈S,F t=bb)->(∀c o,c∉z::TO::S.map ZS.i->s.heap.get? c=ap o->h'.get? c=ap o)->Q bb { s with heap:=h' }):
  ez (eC prog w) A (x9<|.ref z) Q E s:=by
 obtain⟨zTI,zTO,TITO,R⟩:=nS D;have few:S.length<=sizeLine:=Uu D.few (by decide)
 refine xa hz ?_;show ez _ _ (field (.ref z) 2 >>= _) _ _ _;refine ax (kB hz rfl (x:=.bool cp) rfl ?_);show ez _ _ (field (.ref z) 3 >>= _) _ _ _;refine ax (kB hz rfl (x:=.ref TI) rfl ?_);refine ax (vr hTI rfl ?_);have hne:¬(S.map λt=>UE t.i).toArray.isEmpty=true:=by have:=D.ne;simp[this]
 refine (congrArg (ez (eC prog w) A.in1 · _ _ s)<|if_neg hne).mpr ?_;show ez _ _ (VI (.ref z) >>= _) _ _ _;refine ax ?_;have hnd:∀t∈S,t.l∉z::TO::S.map ZS.i:=λt g q=>D.off t g (by
  simp only[pI,Uj]at q ⊢;exact q.imp id .inr)
 have C:∀{h h':g4}{c:cb}(b:cb),b∈z::TO::S.map ZS.i->(∀c o,c≠b->h.get? c=ap o->h'.get? c=ap o)->c∉z::TO::S.map ZS.i->∀o,h.get? c=ap o->h'.get? c=ap o:=λb hb k n o e=>k _ o (λx=>n (x▸hb)) e;have mi:∀{t:ZS},t∈S->t.i∈z::TO::S.map ZS.i:=λg=>by simp[UI g]
 have fin:∀{us:aaW},us.length=S.length->(∀i t,i<S.length->S[i]?=ap t->us[i]?=F t)->(∀i t,i<S.length->S[i]?=ap t->(F t).isSome=true)->us.map ap=S.map F:=λ{us} Y I hs=>by
  refine WZ λi=>?_;rw[Um,Um];cases B:S[i]? with
  |none=>
   rw[WT]at B;rw[Vj (by lia)]
   rfl
  |some t=>
   have il:i<S.length:=(UO.1 B).1;have hs:=hs i t il B;rw[I i t il B];cases hF:F t with
   |none=>rw[hF]at hs;cases hs
   |some x=>simp[hF]
 have st:∀{h:g4},ZMid S F k (z::TO::S.map ZS.i) s.heap S.length h->Ii S (k+1) h:=λm t g=>by
  obtain⟨i,il,rfl⟩:=Wx g;have q:=m.ahead i S[i] (by simp[il])
  rwa [if_pos il]at q
 rcases hf with⟨rfl,rfl,vs,hv,hTO⟩|⟨T,oT,rfl,hT⟩
 .refine Do hz ?_
  refine (congrArg (ez (eC prog w) A.in1 · _ _ s)<|if_pos rfl).mpr ?_;refine ax (F' ?_);refine ax (kB hz rfl (x:=.ref TO) rfl ?_);refine ax (mm hz (by simp) λW hz1 r=>?_)
  replace hz1:aac W z TI TO .ellipsis:=hz1
  refine ax ?_
  refine gT (xs:=(S.map λt=>UE t.i).toArray.toList.zipIdx) (λ_=>_)
   (λj s'=>∃h' us,s'={ s with heap:=h' }/\ZMid S F k (z::TO::S.map ZS.i) s.heap j h'/\aac h' z TI TO .ellipsis/\iL h' TO us/\us.length=S.length/\∀i t,i<j->S[i]?=ap t->us[i]?=F t)
   (λj x s' hx hI=>?_) (λs' hI=>?_) _ 0 _ (Wh _) #[W,vs,rfl,.zero (λt g=>(h1 t g).keep λo e=>r.extBut _ o (R t g).1 e) (λc o n e=>C z (.head _) r.extBut n o e) r.1,hz1,r.extBut _ _ zTO.symm hTO,hv,λi t q=>absurd q (X3 _)]
  .obtain⟨h',us,rfl,m,y,G,Y,I⟩:=hI
   simp only[YR,Um,Vc,Wh]at hx;obtain⟨v,⟨t,B,rfl⟩,rfl⟩:=hx;have g:=Vf B;obtain⟨xs,hsq,hxs⟩:=hl t g;refine ax (wpAny_onRaise ?_);show ez _ _ (U5 (.ref t.i) >>= _) _ _ _;refine ax (ub hh (m.at B) (hsq.keep λo e=>m.frame _ o (hnd t g) e) hxs (λx p O h12 f=>cx ?_) λp e O f he=>?_)
   .have jl:j<S.length:=(UO.1 B).1
    have M:iL p TO us:=f.extBut _ _ (R t g).2.2.symm G;refine ax (vr M rfl ?_);refine ax (wpAny_updateSeq M rfl ?_ (by show us.toArray.size<=sizeLine;rw[Uo,Y];exact few)<|by rw[Array.size_setIfInBounds,Uo,Y];exact Nat.le_succ_of_le few)
    refine ax (wpAny_letGo<|wpAny_pure #[rfl,_,us.set j x,rfl,?_,?_,?_,by rw[VB,Y],λi u q eu=>?_])
    all_goals have sb:Vh TO p (p.update TO<|UU (·.setIfInBounds j x)):=UX ..
    .exact(m.step D B (mi g) (by rw[O];rfl) h12 f).go (λu hu' o e=>sb.extBut _ o (R u hu').2.2 e) (λc o n e=>C TO (by simp) sb.extBut n o e) sb.1
    .exact sb.extBut _ _ zTO (f.extBut _ _ (R t g).1.symm y)
    .show Heap.get? _ _=_
     rw[Wj _ M rfl];simp[UU]
    .rw[Xx]
     by_cases ij:j=i
     .subst ij
      cases B.symm.trans eu;rw[if_pos rfl,if_pos (by lia),O]
     .rw[if_neg ij]
      exact I i u (by lia) eu
   .obtain⟨oe,hoe,hce⟩:=he
    have hz2:aac p z TI TO .ellipsis:=f _ _ (R t g).1.symm y;have hez:e≠z:=λx=>by subst x;rw[hz2]at hoe;cases hoe;simp at hce
    exact mm hz2 (by simp) λh₃ _ J=>#[e,rfl,#[oe,J.extBut _ _ hez hoe,hce],hE h₃ #[t,g,O] λc o n q=>C z (.head _) J.extBut n o (C _ (mi g) f n o<|m.frame c o n q)]
  .obtain⟨h',us,rfl,m,y,G,Y,I⟩:=hI
   rw[show (S.map λt=>UE t.i).toArray.toList.zipIdx.length=S.length by simp]at m I
   refine ax (vr G rfl ?_);refine ax (wh ?_<|by simpa [Y] using few)
   have U:z<h'.objs.size:=Ue y;show ez _ _ (WH (.ref z) (.ref h'.objs.size) >>= _) _ _ _;refine ax ?_;unfold WH;have hz8:aac (h'.push { cls:=.type "tuple",data:=.seq us.toArray }) z TI TO .ellipsis:=Ua _ y;refine ax (mm hz8 (by simp) λh₉ hz9 hs9=>?_)
   replace hz9:aac h₉ z TI TO (p6 h'.objs.size):=hz9
   refine mm hz9 (by simp) λhA N hsA=>?_
   replace N:aac hA z TI TO (p6 h'.objs.size):=N
   have up:∀c o,c≠z->h'.get? c=ap o->hA.get? c=ap o:=λc o c1 e=>hsA.extBut _ _ c1 (hs9.extBut _ _ c1<|Ua _ e);have hTA:iL hA h'.objs.size us:=hsA.extBut _ _ (Wi U) (hs9.extBut _ _ (Wi U)<|Uh _ rfl);rw[m.size]at N hTA;refine cx #[_,rfl,?_];show Q (ap<|.ref h'.objs.size) _;rw[m.size];exact hQ hA us (fin Y I m.got) (.inl #[rfl,N,up _ _ zTO.symm G]) (λt g=>(st m t g).keep λo e=>up _ o (R _ g).1 e) hTA λc o n e=>C z (.head _) up n o (m.frame c o n e)
 .refine CZ hz hT λh₀ hz0 L hs0=>?_
  refine (congrArg (ez (eC prog w) A.in1 · _ _ _)<|if_neg WL).mpr ?_;show ez _ _ (forIn (S.map λt=>UE t.i).toArray _ _ >>= _) _ _ _;rw[<- Y0];refine ax ?_
  refine gT (xs:=(S.map λt=>UE t.i).toArray.toList) (λj=>(bb,((S.map λt=>(F t).getD .none).take j).toArray))
   (λj s'=>∃h',s'={ s with heap:=h' }/\ZMid S F k (z::TO::S.map ZS.i) s.heap j h'/\pf h' z TI TO (p6 T) true)
   (λj x s' hx hI=>?_) (λs' hI=>?_) _ 0 _ (Wh _) #[h₀,rfl,.zero (λt g=>(h1 t g).keep λo e=>L _ o (R t g).1 e) (λc o n e=>C z (.head _) L n o e) hs0,hz0]
  .obtain⟨h',rfl,m,y⟩:=hI
   simp only[Um,Vc]at hx;obtain⟨t,B,rfl⟩:=hx;have g:=Vf B;obtain⟨xs,hsq,hxs⟩:=hl t g;refine ax (kc ?_);show ez _ _ (U5 (.ref t.i) >>= _) _ _ _;refine ax (ub hh (m.at B) (hsq.keep λo e=>m.frame _ o (hnd t g) e) hxs (λx p O h12 f=>cx (cx #[?_,_,rfl,m.step D B (mi g) (by rw[O];rfl) h12 f,f.extBut _ _ (R t g).1.symm y])) λp e O f he=>#[e,rfl,he,hE p #[t,g,O] λc o n q=>C _ (mi g) f n o (m.frame c o n q)])
   rw[X8,show (S.map λt=>(F t).getD .none)[j]?=ap x by rw[Um,B];simp[O]]
   simp
  .obtain⟨h',rfl,m,y⟩:=hI
   rw[show (S.map λt=>UE t.i).toArray.toList.length=S.length by simp]at m ⊢
   rw[YD (by simp)]
   refine ax (wh (cx #[_,rfl,?_])<|by simpa using few)
   have up:∀c o,h'.get? c=ap o->(h'.push { cls:=.type "tuple",data:=.seq (S.map λt=>(F t).getD .none).toArray }).get? c=ap o:=λc o e=>Ua _ e;have hn:=Uh h' (o:={ cls:=.type "tuple",data:=.seq (S.map λt=>(F t).getD .none).toArray }) rfl;show Q (ap<|.ref h'.objs.size) _;rw[m.size]at hn ⊢;refine hQ _ (S.map λt=>(F t).getD .none) (fin (by simp) (λi t il B=>?_) m.got) (.inr #[by simp[p6],up _ _ y]) (λt g=>(st m t g).keep λo e=>up _ o e) (by simpa using hn) λc o n e=>up _ _ (m.frame c o n e)
   have hs:=m.got i t il B;cases hF:F t with
   |none=>rw[hF]at hs;cases hs
   |some x=>simp[B,hF]
theorem QB{l:List α}(h:l.length=2):∃a b,l=[a,b]:=by
 cases l with
 |nil=>cases h
 |cons a l=>
  cases l<;>simp_all
theorem len3{l:List α}(h:l.length=3):∃a b c,l=[a,b,c]:=by
 cases l with
 |nil=>cases h
 |cons a l=>
  obtain⟨b,c,rfl⟩:=QB (by simpa using h)
  exact#[a,b,c,rfl]
theorem oP(a b c:ay):X_ "zip" #[[a,b,c],[]]=pure ():=by kernel_rfl
theorem oZ(a b c:ay):UV "zip.__new__" #[[.type "zip",a,b,c],[]]=pure ():=by kernel_rfl
theorem iA(a b c d:ay):aaj "object.__init__" #[[a,b,c,d],[]]:=by
 unfold aaj;rw[signature?_of (id:="object.__init__") (n:=['_','_','t','i','n','i','_','_']) (o:=['t','c','e','j','b','o']) (by kernel_rfl) F.owner_object];kernel_rfl
noncomputable def c_(n:Nat)(args:List (Bool×cb)):List ZS:=args.zipIdx.map λp=>#[p.1.1,n+p.2,p.1.2]
theorem gI:(c_ n args)[i]?=(args[i]?).map λp=>#[p.1,n+i,p.2]:=by
 simp[c_,YM]
theorem vL(C:∀p∈args,∃xs,SrcSq p.1 s.heap p.2 xs)(B:∀h',Ii (c_ s.heap.objs.size args) 0 h'->(∀c o,s.heap.get? c=ap o->h'.get? c=ap o)->h'.objs.size=s.heap.objs.size+args.length->Q ((c_ s.heap.objs.size args).map λt=>.ref t.i) { s with heap:=h' }):
  ez (eC prog w) A (Builtin.SmallTypes.iterAll (args.map λp=>.ref p.2)) Q E s:=by
 refine ax ?_
 refine gT (λj=>(((c_ s.heap.objs.size args).take j).map λt=>UE t.i).toArray)
  (λj m=>∃h',m={ s with heap:=h' }/\Ii ((c_ s.heap.objs.size args).take j) 0 h'/\(∀c o,s.heap.get? c=ap o->h'.get? c=ap o)/\h'.objs.size=s.heap.objs.size+j)
  (λj x m r q=>?_) (λm q=>?_) _ 0 _ (Wh _) #[_,rfl,λt ht=>by simp at ht,λ_ _ e=>e,rfl]
 .obtain⟨h',rfl,g,k,f⟩:=q
  simp only[Um,Vc]at r;obtain⟨p,u,rfl⟩:=r;obtain⟨xs,y⟩:=C p (Vf u);have v:(c_ s.heap.objs.size args)[j]?=ap #[p.1,s.heap.objs.size+j,p.2]:=by rw[gI,u];rfl
  refine ax (kc<|fR (y.keep λo e=>k _ o e)<|wpAny_pure #[?_,_,rfl,λt ht=>?_,λc o e=>Ua _ (k c o e),by rw[Vg,f];rfl])
  .rw[X8,v]
   simp[f]
  rw[X8,v]at ht;rcases Ux.1 ht with ht|ht
  .exact(g t ht).keep λo e=>Ua _ e
  have:=WI.1 ht;subst this;refine BI ?_;rw[<- f];exact Uh _ rfl
 obtain⟨h',rfl,g,k,f⟩:=q;have e:(c_ _ _).take (args.map λp=>UE p.2).length=c_ s.heap.objs.size args:=YD (by simp[c_])
 rw[e]at g ⊢;refine cx (B h' g k<|by simpa using f)
theorem wS(args:List (Bool×cb))(g:args.length<=3):
  aab (Builtin.«zip.__new__» #[.type "zip"::args.map λp=>.ref p.2,[]]) (λ_ R s=>(∀p∈args,∃xs,SrcSq p.1 s.heap p.2 xs)/\
   ∀h',aac h' (s.heap.objs.size+args.length+2) (s.heap.objs.size+args.length) (s.heap.objs.size+args.length+1) .none->iL h' (s.heap.objs.size+args.length) ((c_ s.heap.objs.size args).map λt=>.ref t.i)->iL h' (s.heap.objs.size+args.length+1) (args.map λ_=>.none)->
    Ii (c_ s.heap.objs.size args) 0 h'->(∀c o,s.heap.get? c=ap o->h'.get? c=ap o)->R (.ok<|.ret<|.ref (s.heap.objs.size+args.length+2)) { s with heap:=h' }):=
 .of_wp λprog w A R s h=>by
  obtain⟨r,B⟩:=h;have m:=sub_zip;have y:=r;unfold Builtin.«zip.__new__»
  wp_walk using vL r
  intro h' u k f;have len:(c_ s.heap.objs.size args).length<=3:=by simpa [c_] using g
  refine ax (wh ?_<|by rw[Ub];exact Uu len (by decide))
  refine ax (wh ?_<|by rw[Ub,Ub];exact Uu len (by decide))
  unfold Builtin.SmallTypes.newRecord Builtin.SmallTypes.ownedTupleFields
  wp_walk
  refine#[_,rfl,?_];simp only[Vg,f];refine B _ ?_ ?_ ?_ (λt v=>(u t v).keep λo e=>Ua _ (Ua _<|Ua _ e)) λc o e=>Ua _ (Ua _<|Ua _<|k c o e)
  .have q:=Uh ((h'.push { cls:=.type "tuple",data:=.seq ((c_ s.heap.objs.size args).map λt=>UE t.i).toArray }).push { cls:=.type "tuple",data:=.seq (((c_ s.heap.objs.size args).map λt=>UE t.i).map λ_=>U8).toArray }) (o:={ cls:=.type "zip",data:=.fields (Tw [.none,.bool cp,.bool cp,.ref (s.heap.objs.size+args.length),.ref (s.heap.objs.size+args.length+1)]) }) rfl
   simp only[Vg,f]at q;exact q
  .refine Ua _ (Ua _ ?_)
   rw[<- f];exact Uh _ rfl
  refine Ua _ ?_;have q:=Uh (h'.push { cls:=.type "tuple",data:=.seq ((c_ s.heap.objs.size args).map λt=>UE t.i).toArray }) (o:={ cls:=.type "tuple",data:=.seq (((c_ s.heap.objs.size args).map λt=>UE t.i).map λ_=>U8).toArray }) rfl;simp only[Vg,f]at q;rw[show (args.map λ_=>U8)=(((c_ s.heap.objs.size args).map λt=>UE t.i).map λ_=>U8) from ?_]
  .exact q
  .rw[Uq,c_,Uq]
   exact WZ λi=>by simp[Um,YR];rfl
theorem p_(hn:args.length=2\/args.length=3)(hl:∀p∈args,∃xs,SrcSq p.1 s.heap p.2 xs)(h:∀h' z TI TO S,S.map (λt=>(t.b,t.l))=args->ZOk z TI TO S->aac h' z TI TO .none->iL h' TI (S.map λt=>.ref t.i)->iL h' TO (S.map λ_=>.none)->Ii S 0 h'->(∀b∈pI z TI TO S,s.heap.objs.size<=b)->
   (∀c o,s.heap.get? c=ap o->h'.get? c=ap o)->Q (.ref z) { s with heap:=h' }):
  ez (eC prog w) A (call (.type "zip") (args.map λp=>.ref p.2)) Q E s:=by
 have few:args.length<=3:=by lia
 have checks:X_ "zip" #[args.map λp=>.ref p.2,[]]=pure ()/\UV "zip.__new__" #[.type "zip"::args.map λp=>.ref p.2,[]]=pure ()/\∀obj,aaj "object.__init__" #[obj::args.map λp=>.ref p.2,[]]:=by
  rcases hn with hn|hn
  .obtain⟨a,b,rfl⟩:=QB hn
   exact#[F.typeCall_zip_2 _ _,F.newCall_zip_2 _ _,λobj=>F.args_object_init_3 obj _ _]
  .obtain⟨a,b,c,rfl⟩:=len3 hn
   exact#[oP _ _ _,oZ _ _ _,λobj=>iA obj _ _ _]
 refine aaC F.called_zip (by decide) checks.1 checks.2.1 checks.2.2 F.entry_zip_new (wS args few) #[hl,λh' hz hTI hTO st k=>?_]
 have em:(c_ s.heap.objs.size args).map (λt=>(t.b,t.l))=args:=WZ λi=>by
  rw[Um,gI];cases args[i]?<;>rfl
 have hlen:(c_ s.heap.objs.size args).length=args.length:=by rw[<- em,Ub,em]
 have hi:∀t∈c_ s.heap.objs.size args,s.heap.objs.size<=t.i/\t.i<s.heap.objs.size+args.length:=λt ht=>by
  obtain⟨i,il,rfl⟩:=Wx ht;have q:=gI (n:=s.heap.objs.size) (args:=args) (i:=i);rw[hlen]at il;simp[il,hlen]at q;rw[q];exact#[Vv _ _,Nat.add_lt_add_left il _]
 have hb:∀b∈pI (s.heap.objs.size+args.length+2) (s.heap.objs.size+args.length) (s.heap.objs.size+args.length+1) (c_ s.heap.objs.size args),s.heap.objs.size<=b:=λb hb=>by
  simp only[pI,Uj,Ul]at hb;rcases hb with e|e|e|⟨t,ht,e⟩
  .rw[e];exact Uu (Vv _ _) (Vv _ _)
  .rw[e];exact Vv _ _
  .rw[e];exact Uu (Vv _ _) (Vv _ _)
  .rw[<- e];exact(hi t ht).1
 have D:ZOk (s.heap.objs.size+args.length+2) (s.heap.objs.size+args.length) (s.heap.objs.size+args.length+1) (c_ s.heap.objs.size args):=by
  refine#[?_,λt ht q=>?_,λe=>?_,by lia]
  .simp only[Vr,Uj,Ul,not_or,not_exists,not_and]
   refine#[#[(show (_:Nat)≠(_:Nat) by lia),(show (_:Nat)≠(_:Nat) by lia),λt ht e=>?_],#[(show (_:Nat)≠(_:Nat) by lia),λt ht e=>?_],λt ht e=>?_,?_]
   all_goals try exact absurd (show (t.i:Nat)<s.heap.objs.size+args.length from (hi t ht).2) (by rw[e];first|exact UY _|exact Xg.2 (Vv _ _))
   refine WS.2 λi j il jl ij=>?_;have ei:=gI (n:=s.heap.objs.size) (args:=args) (i:=i);have ej:=gI (n:=s.heap.objs.size) (args:=args) (i:=j);simp only[Ub,hlen]at il jl;simp[il,hlen]at ei;simp[jl,hlen]at ej;rw[XI,XI,ei,ej];exact(show (_:Nat)≠(_:Nat) by simp;lia)
  .have:(t.b,t.l)∈args:=em▸UI (f:=λt:ZS=>(t.b,t.l)) ht
   obtain⟨xs,sq⟩:=hl _ this;obtain⟨b,i,l⟩:=t;have lt:l<s.heap.objs.size:=by
    cases b with
    |true=>obtain⟨o,e,_⟩:=(show s.heap.IsList l xs from sq);exact Ue e
    |false=>obtain⟨o,e,_⟩:=(show s.heap.IsTuple l xs from sq);exact Ue e
   exact absurd lt (Xg.2<|hb _ q)
  .rw[e]at hlen
   simp at hlen;lia
 show _/\_;refine#[#[_,hz,rfl],h h' _ _ _ _ em D hz hTI ?_ st hb k];rw[show ((c_ s.heap.objs.size args).map λ_=>U8)=args.map λ_=>U8 by rw[<- em,Uq,em];rfl]
 exact hTO
def m_(K:Ug)(b:Bool)(H:Hp)(a:cb)(xs:List V):Prop:=if b=true then SqL K H a xs else ku K H a xs
theorem Inv.src(I:Inv X aaL Z H s)(h:m_ X.K b H a xs):∃aaR:List ay,Vals xs aaR/\SrcSq b s.heap a aaR.toArray/\xs.length<=sizeLine:=by
 cases b with
 |true=>obtain⟨aaR,r,p,z⟩:=I.list h;exact#[_,r,p.isList,z]
 |false=>obtain⟨aaR,r,p,z⟩:=I.tuple h;exact#[_,r,p,z]
theorem Inv.src_inj(I:Inv X aaL Z H s)(h:m_ X.K b H a xs)(h':m_ X.K b H a ys):xs=ys:=by
 cases b with
 |true=>exact I.list_inj h h'
 |false=>exact I.tuple_inj h h'
theorem Inv.src_ne(I:Inv X aaL Z H s)(h:m_ X.K b H a xs)(f:jV X aaL H it):a≠it:=by
 obtain⟨f0,f1,r,p,q,u⟩:=f;intro e;subst e;have c:∀o,X.K.lookup a=ap o->False:=λo g=>by
  have m:=I.ok.mod.kin a o g;rcases p with z|z
  .exact I.ok.noex a o m z
  .exact absurd (Us (Ue (I.ok.bs a o m).1) z) (UY _)
 cases b with
 |true=>
  rcases (show SqL X.K H a xs from h) with (z|⟨o,z⟩)|⟨o,_,_,g,_⟩
  .rw[f0]at z;cases z
  .rw[f0]at z;cases z
  .exact c o g
 |false=>
  rcases (show ku X.K H a xs from h) with (z|⟨o,z⟩)|⟨o,_,_,g,_⟩
  .rw[f0]at z;cases z
  .rw[f0]at z;cases z
  .exact c o g
theorem Inv.turned4{t':Nat}(I:Inv X aaL Z H s)(p:∀b∈fp,jV X aaL H b)(k:∀b o,b∉fp->s.heap.get? b=ap o->h'.get? b=ap o):Inv X aaL Z H { s with heap:=h',toks:=t' }:=by
 have g:∀b u,H b=ap u->b∉fp:=λb u e z=>by have:=(p b z).1;simp_all
 refine I.step (λb J=>?_) (λb o _ _ f e _=>k b o f e) (λb o _ _ f e _=>#[_,k b o f e]) (λ_ _ _ _ n=>n)
  (λb o f e=>#[o,k b o f e]) (λ_ _ e=>e) (λ_ _ _ e=>e) (λb M e=>#[(Tw []),by rw[e];simp]) (λm C=>?_) (λb u e=>?_) I.bare
 .obtain⟨f0,f1,O,R,N,L⟩:=p b J
  trivial
 .obtain⟨o,y,B,G,r⟩:=C
  exact#[o,y,B,k _ o (λz=>(p _ z).2.1 rfl) G,r]
 refine (I.hok b u e).stay (λc v f q=>k c v ?_ q) (λ_ q=>q) λ_ _ q=>q;rcases f with z|z
 .rw[z];exact g b u e
 exact g c _ z
theorem Inv.turnedNew{t':Nat}(I:Inv X aaL Z H s)(J:∀b∈fp,jV X aaL H b)(k:∀b o,b∉fp->s.heap.get? b=ap o->h'.get? b=ap o)(hlt:∀b∈fp,∃o,s.heap.get? b=ap o)(hlv:∀b∈fp,∃o,h'.get? b=ap o)(hT:h'.get? s.heap.objs.size=ap y)(M:y.cls=.type "tuple")(L:∃n,y.data=.seq us.toArray n)(r:Vals zs us)(G:y.dict=bb)(hz:zs.length<=sizeLine):Inv X aaL Z (upd H s.heap.objs.size<|.tup zs) { s with heap:=h',toks:=t' }:=by
 have f:H s.heap.objs.size=none:=I.hok.fresh (Uk _);have p:∀b u,H b=ap u->b∉fp:=λb u e z=>by have:=(J b z).1;rw[e]at this;cases this
 refine I.step (g':=s.gens) (d':=s.drawn) (ch:=fp) (λb B=>?_) (λb o _ _ g e _=>k b o g e) (λb o _ _ g e _=>#[o.slots,k b o g e]) (λb o _ e n=>by rw[aw (Uv<|Ue e)];exact n)
  (λb o g e=>#[o,k b o g e]) (λb C e=>by rw[aw (aX e f)];exact e) (λb o u e=>by rw[aw (aX e f)];exact e) (λb ps e=>#[(Tw []),by rw[aw (aX e f),e];simp]) (λm U=>?_) (λb u e=>?_) I.bare
 .obtain⟨f0,f1,f2,f3,Y,N⟩:=J b B
  exact#[f3,f1,Y,N]
 .obtain⟨o,R,T,W,r⟩:=U
  exact#[o,R,T,k _ o (λz=>(J _ z).2.1 rfl) W,r]
 .by_cases B:b=s.heap.objs.size
  .subst B
   rw[upd_same]at e;cases e;obtain⟨n,O⟩:=L;exact#[hz,us,r,#[y,hT,#[M,n,O],G]]
  .rw[aw B]at e
   refine (I.hok b u e).stay (λc v g q=>k c v ?_ q) (λc q=>by rw[aw (aX q f)];exact q) λc C q=>by rw[aw (aX q f)];exact q
   rcases g with z|z
   .rw[z];exact p b u e
   .exact p c _ z
noncomputable def wP(h:g4)(l:cb)(k:Nat):Option Value:=match h.get? l with
 |some o=>match o.data with
  |.seq xs _=>xs[k]?
  |_=>bb
 |_=>bb
theorem jb(q:SrcSq b h l xs)(k:Nat):xs[k]?=wP h l k:=by
 have:∃o n,h.get? l=ap o/\o.data=.seq xs n:=by
  cases b with
  |true=>obtain⟨o,e,c,n,d⟩:=q;exact#[o,n,e,d]
  |false=>obtain⟨o,e,c,n,d⟩:=q;exact#[o,n,e,d]
 obtain⟨o,n,e,d⟩:=this;simp[wP,e,d]
noncomputable def RN(K:Ug)(L:List (Bool×cb)):It:=
 #[λi H=>∀p∈L,∃xs x,m_ K p.1 H p.2 xs/\xs[i]?=ap x,
  λi H v H'=>∃T zs,H T=bb/\v=.ref T/\H'=upd H T (.tup zs)/\zs.length=L.length/\∀(j:Nat)(p:Bool×cb),L[j]?=ap p->∀xs,m_ K p.1 H p.2 xs->xs[i]?=zs[j]?,
  λi H=>(∀p∈L,∃xs,m_ K p.1 H p.2 xs)/\∃p∈L,∃xs,m_ K p.1 H p.2 xs/\xs.length<=i]
structure ZTn(z TI TO:cb)(S:List ZS)(i:Nat)(h:g4):Prop where
 hz:aac h z TI TO .none
 hTI:iL h TI (S.map λt=>.ref t.i)
 hTO:∃vs:List ay,vs.length=S.length/\iL h TO vs
 st:Ii S i h
theorem ZTn.obj{TI TO:cb}(q:ZTn z TI TO S i h):∀b∈pI z TI TO S,∃o,h.get? b=ap o/\∀v,o.data≠.cell v:=λb c=>by
 obtain⟨f,_,e⟩:=q.hTO;simp at c;rcases c with rfl|rfl|rfl|⟨t,ht,rfl⟩
 .exact#[_,q.hz,λv q=>nomatch q]
 .exact#[_,q.hTI,λv q=>nomatch q]
 .exact#[_,e,λv q=>nomatch q]
 exact(q.st t ht).lt
theorem ZTn.keep{TI TO:cb}(q:ZTn z TI TO S i h)(k:∀b∈pI z TI TO S,∀o,h.get? b=ap o->h'.get? b=ap o):ZTn z TI TO S i h':=by
 obtain⟨f,l,e⟩:=q.hTO;exact#[k z (by simp) _ q.hz,k TI (by simp) _ q.hTI,#[f,l,k TO (by simp) _ e],λt c=>(q.st t c).keep λo e=>k _ (by simp[UI c]) o e]
theorem wg{s:ca}{i:Nat}(I:Inv X aaL Z H s):∀(S:List ZS)(us:aaW),us.map ap=S.map (λt=>wP s.heap t.l i)->(∀t∈S,∃xs x,m_ X.K t.b H t.l xs/\xs[i]?=ap x)->
  ∃zs,Vals zs us/\zs.length=S.length/\∀(j:Nat)(p:Bool×cb),(S.map λt=>(t.b,t.l))[j]?=ap p->∀xs,m_ X.K p.1 H p.2 xs->xs[i]?=zs[j]?
 |[],[],_,_=>#[[],.nil,rfl,λj p e=>by simp at e]
 |[],_::_,e,_=>by simp at e
 |_::_,[],e,_=>by simp at e
 |t::S,u::us,e,h=>by
  simp at e;obtain⟨zs,r,l,g⟩:=wg I S us e.2 λt' ht=>h t' (.tail _ ht);obtain⟨xs,x,q,hx⟩:=h t (.head _);obtain⟨aaR,rv,sq,z⟩:=I.src q;obtain⟨u',hu,ru⟩:=rv.get hx;have e1:ap u=ap u':=by rw[e.1,<- jb sq i];simp_all
  cases e1;refine#[_,.cons ru r,by simp[l],λj p ej ys hy=>?_]
  cases j with
  |zero=>
   simp at ej;subst ej;rw[I.src_inj hy q];trivial
  |succ j=>exact g j p (by trivial) ys hy
theorem pN{f:α->cb}:∀{L:List α}{us:aaW},Vals (L.map λp=>.ref (f p)) us->us=L.map λp=>.ref (f p):=by
 intro L
 induction L with
 |nil=>intro us h;cases h;rfl
 |cons p L ih=>
  intro us h;cases h with
  |cons r t=>cases r;rw[Ud,ih t]
theorem DF{TI TO:cb}(D:ZOk z TI TO S):
  Turn P w K (.Tuple elts x1 tp) (RN K (S.map λt=>(t.b,t.l))) (pI z TI TO S) z (ZTn z TI TO S) where
 mem:=.head _
 obj:=λi h st=>st.obj
 keep:=λi h h' st k=>st.keep k
 item:=by
  intro X Y hw U hc i aaL s Z H E I O st y;subst Y hw U
  replace y:∀t∈S,∃C x,m_ X.K t.b H t.l C/\C[i]?=ap x:=λt m=>y _ (UI m)
  have fits:∀t∈S,∃g x,SrcSq t.b _ t.l g/\g[i]?=ap x:=λt m=>by
   obtain⟨C,x,q,R⟩:=y t m;obtain⟨g,T,sq,_⟩:=I.src q;obtain⟨u,hu,_⟩:=T.get R;exact#[_,u,sq,by simp_all]
  refine lL (F:=λt=>wP s.heap t.l i) (I.ok.hd hc) D st.hz (.inl #[rfl,rfl,st.hTO]) st.hTI st.st (λt m=>?_) (λh' N v hzz a3 a4 J=>?_) λh' ⟨t,m,eo⟩ _=>?_
  .obtain⟨g,x,sq,_⟩:=fits t m
   exact#[g,sq,jb sq i]
  .obtain⟨_,a1,a2⟩|⟨n,_⟩:=hzz
   case inr=>trivial
   refine#[_,rfl,wpAny_letOwnedTupleGo_zip a1 λB G c=>?_];obtain⟨zs,rz,lz,gz⟩:=wg I S N v y;have zl:=Ue st.hz;have kk:∀b o,b∉pI z TI TO S->s.heap.get? b=ap o->B.get? b=ap o:=λb o r e=>by
    simp only[Uj,not_or]at r;exact c.extBut b o r.1 (J b o (by simp only[Uj,not_or];exact#[r.1,r.2.2.1,r.2.2.2]) e)
   obtain⟨L,W,TITO,ni⟩:=nS D;have hT:B.get? _=ap _:=c.extBut _ _ (Wi zl) a4;have M:ZTn z TI TO S (i+1) B:=by
    refine#[G,c.extBut _ _ L.symm (J _ _ ?_ st.hTI),#[N,?_,c.extBut _ _ W.symm a2],λt m=>(a3 t m).keep λo e=>c.extBut _ o (ni t m).1 e]
    .simp
     exact#[L.symm,TITO,λt m=>(ni t m).2.1]
    have:=congrArg VD v;simpa using this
   refine#[.ref _,_,I.turnedNew O kk (λb r=>let ⟨o,e,_⟩:=st.obj b r;#[o,e]) (λb r=>let ⟨o,e,_⟩:=M.obj b r;#[o,e]) hT rfl #[_,rfl] rz rfl (by rw[lz];exact Uu D.few (by decide)),rfl,#[_,zs,I.hok.fresh (Uk _),rfl,rfl,by simp_all,gz],M,λb r=>?_]
   obtain⟨o,e,_⟩:=st.obj b r;rw[aw (Uv<|Ue e)];exact(O b r).1
  obtain⟨g,x,sq,R⟩:=fits t m;rw[jb sq i]at R;rw[R]at eo;cases eo
 done:=by
  intro X Y hw U hc i aaL s Z H E I O st y;subst Y hw U;refine lL (F:=λt=>wP s.heap t.l i) (I.ok.hd hc) D st.hz (.inl #[rfl,rfl,st.hTO]) st.hTI st.st (λt m=>?_) (λh' N v _ a3 a4 J=>?_) λh' _ J=>#[rfl,I.turned4 O λb o r e=>J b o (λx=>r ?_) e]
  .obtain⟨C,q⟩:=y.1 _ (UI m)
   obtain⟨g,T,sq,_⟩:=I.src q;exact#[_,sq,jb sq i]
  .obtain⟨p,hp,C,q,hle⟩:=y.2
   obtain⟨t,m,rfl⟩:=Ul.1 hp;obtain⟨g,T,sq,_⟩:=I.src q;have hl:=T.length;have:wP s.heap t.l i∈N.map some:=by rw[v];exact UI (f:=λt:ZS=>wP s.heap t.l i) m
   rw[<- (jb sq i),List.getElem?_toArray,Vj (by lia)]at this
   simp at this
  simp only[pI,Uj]at x ⊢;rcases x with x|x|x
  .exact .inl x
  .exact .inr (.inr<|.inl x)
  .exact .inr (.inr<|.inr x)
 self:=λ_ _ _ _ _ st h=>Z6 st.hz h
def Sa(K:Ug)(t:TA):TI:=λZ H R=>t Z H λc H1=>∃L:List (Bool×cb),(L.length=2\/L.length=3)/\c=L.map (λp=>.ref p.2)/\(∀p∈L,∃xs,m_ K p.1 H1 p.2 xs)/\R (RN K L) H1
theorem L6{a:eX}(U:Gl X "zip")(N:X.mg "zip"=bb)(O:PA X (a::as) m)(T:eg (a::as) X.env=(cp,fv a X.env)::eg as X.env:=by rfl)(hs2:(PySem.backTo pos<|starEach as X.env).any (·.1)=false:=by rfl):
  PI X (.Tuple elts x1 tp) (.Call (.Name "zip" p) (a::as) [] pos) (Sa X.K m):=by
 intro aaL s Z H R I h;refine Call_ (di I U N (by rfl)<|UR (bu (O _ _ s Z H _ I h) λW s1 C=>?_) T hs2)
 obtain⟨vs,H1,I1,r,u⟩:=C;obtain⟨L,G,rfl,y,q⟩:=u;cases pN r;refine p_ G (λp J=>?_) λh' z TI TO S M D g f e o hb B=>?_
 .obtain⟨Y,q⟩:=y p J
  obtain⟨v,_,sq,_⟩:=I1.src q;exact#[_,sq]
 refine Z6 g ?_;subst M;exact#[z,_,_,_,H1,rfl,I1.kept B,DF D,#[g,f,#[_,by rw[Ub],e],o],λb c=>I1.fpOk (hb b c) (I1.hok.fresh<|hb b c),q]
noncomputable def Ite(K:Ug)(b:Bool)(l:cb):It:=
 #[λi H=>∃xs x,m_ K b H l xs/\xs[i]?=ap x,
  λi H v H'=>∃T x,H T=bb/\v=.ref T/\H'=upd H T (.tup [.int i,x])/\(∀xs,m_ K b H l xs->xs[i]?=ap x),
  λi H=>∃xs,m_ K b H l xs/\xs.length<=i]
theorem Draws.src(y:A.handled=bb)(b:Bool)(it l:cb)(m:l≠it)(items:aa3):
  Draws prog w A it [it,l] items.size (λi v=>items[i]?=ap v) (λi h=>SrcTn b it l i h/\SrcSq b h l items) where
 live:=λ_ _ c=>let ⟨o,ho,_⟩:=c.1.lt;#[o,ho]
 frame:=λ_ _ _ c p=>#[c.1.keep λo e=>p it (by simp) o e,c.2.keep λo e=>p l (by simp) o e]
 item:=λi s Q E q c r=>by
  exact fZ c.1 c.2 (x:=items[i]) (by simp[q]) λh' f g=>r _ h' _ (by simp[q]) #[f,c.2.keep λo e=>g.extBut _ o m e] g
 done:=λs Q E c u=>dH y c.1 c.2 (by simp) u
theorem wz(b:Bool)(l:cb)(items:aa3):
  aab (Builtin.«enumerate.__new__» #[[.type "enumerate",.ref l],[]]) (λ_ R s=>SrcSq b s.heap l items/\
   R (.ok<|.ret<|.ref (s.heap.push { cls:=.type (iB b),data:=.fields (Tw [.ref l,.int 0 0]) }).objs.size)
    { s with heap:=(s.heap.push { cls:=.type (iB b),data:=.fields (Tw [.ref l,.int 0 0]) }).push { cls:=.type "enumerate",data:=.fields (Tw [.none,.bool cp,.ref s.heap.objs.size,p6 0,.none,.none]) } }):=
 .of_wp λprog w A R s h=>by
  obtain⟨p,g,d,o,m⟩:=s;obtain⟨q,h⟩:=h;have f:=sub_enumerate;have e:SrcSq b (Shared.heap #[p,g,d,o,m]) l items:=q
  wp_walk
  refine wpAny_stack_any λr=>cx ?_
  split
  .rename_i c _ _ _ _ _
   cases (c==WD "enumerate")
   .wp_walk using fR e
    exact#[_,rfl,h]
   .wp_walk using fR e
    exact#[_,rfl,h]
  .wp_walk using fR e
   exact#[_,rfl,h]
theorem Dx(f:SrcSq b s.heap l items)(h:∀h',IsEnum h' (s.heap.objs.size+1) s.heap.objs.size 0 .none->SrcTn b s.heap.objs.size l 0 h'->h'.objs.size=s.heap.objs.size+2->
   (∀b o,s.heap.get? b=ap o->h'.get? b=ap o)->Q (.ref (s.heap.objs.size+1)) { s with heap:=h' }):
  ez (eC prog w) A (call (.type "enumerate") [.ref l]) Q E s:=by
 refine aaC F.called_enumerate (by decide) (F.typeCall_enumerate_1 _) (F.newCall_enumerate_1 _) (λobj=>F.args_object_init_2 _ _) F.entry_enumerate_new (wz b l _) #[f,?_]
 have c:(s.heap.push { cls:=.type (iB b),data:=.fields (Tw [.ref l,.int 0 0]) }).objs.size=s.heap.objs.size+1:=Vg ..;rw[c]
 have e:IsEnum ((s.heap.push { cls:=.type (iB b),data:=.fields (Tw [.ref l,.int 0 0]) }).push
   { cls:=.type "enumerate",data:=.fields (Tw [.none,.bool cp,.ref s.heap.objs.size,p6 0,.none,.none]) }) (s.heap.objs.size+1) s.heap.objs.size 0 .none:=by
  have:=Uh (s.heap.push { cls:=.type (iB b),data:=.fields (Tw [.ref l,.int 0 0]) })
   (o:={ cls:=.type "enumerate",data:=.fields (Tw [.none,.bool cp,.ref s.heap.objs.size,p6 0,.none,.none]) }) rfl
  rw[c]at this;exact this
 refine#[#[_,e,rfl],h _ e (BI<|Ua _<|Uh _ rfl) (by rw[Vg,c]) λb o x=>Ua _ (Ua _ x)]
theorem Dk(b:Bool)(l e it:cb)(J:e≠it):
  Turn P w K (.Tuple elts x1 tp) (Ite K b l) [e,it] e (λi h=>(∃old,IsEnum h e it i old)/\SrcTn b it l i h) where
 mem:=by simp
 obj:=λi h y c g=>by
  obtain⟨⟨old,p⟩,C⟩:=y;have f:c=e\/c=it:=by simp_all
  rcases f with q|q<;>subst q
  .simp_all
  exact C.lt
 keep:=λi h h' y k=>by
  obtain⟨⟨old,p⟩,C⟩:=y;exact#[#[old,k e (by simp) _ p],C.keep λo q=>k it (by simp) o q]
 item:=by
  intro X hP hw W g i aaL s Z H E I M y hg;subst hP hw W;obtain⟨xs,x,L,U⟩:=hg;obtain⟨⟨old,p⟩,C⟩:=y;obtain⟨B,r,sq,z1⟩:=I.src L;obtain⟨u,hu,ru⟩:=r.get U;have hle:=I.src_ne L (M e<|by simp)
  have hli:=I.src_ne L (M it<|by simp)
  have Y:i<B.toArray.size:=by
   rw[Uo,<- r.length];exact(UO.mp U).1
  have D:Draws X.prog X.w X.A.in1 it [it,l] _ _ _:=Draws.src (A:=X.A.in1) (I.ok.hd g) b it l hli B.toArray;refine wpAny_pyNext_enum_itemD D p #[C,sq] Y J (by simp[J,UN hle]) λv h' tk hv ho hs' R hsz hk=>?_
  have ev:v=u:=by
   have hu':B.toArray[i]?=ap u:=by simpa using hu
   rw[hu']at hv;exact(U6 hv).symm
  subst ev;refine#[_,rfl,wpAny_letOwnedTupleGo_enum ho λG O m=>?_];have hes:=Uv (Ue p);have n1:=hs'.1.keep λo q=>m.extBut _ o J.symm q;have kk:∀c o,c∉[e,it]->s.heap.get? c=ap o->G.get? c=ap o:=λc o g q=>
   m.extBut c o (λz=>g (by simp[z])) (hk c o (λz=>g (by simp[z])) (λz=>g (by simp[z])) q)
  have hT':G.get? _=ap _:=m.extBut _ _ hes.symm R;have lv:∀c∈[e,it],∃o,s.heap.get? c=ap o:=λc g=>by
   have f:c=e\/c=it:=by simp_all
   rcases f with q|q<;>subst q
   .exact#[_,p]
   obtain⟨o,q,_⟩:=C.lt;exact#[o,q]
  have lv':∀c∈[e,it],∃o,G.get? c=ap o:=λc g=>by
   have f:c=e\/c=it:=by simp_all
   rcases f with q|q<;>subst q
   .exact#[_,O]
   obtain⟨o,q,_⟩:=n1.lt;exact#[o,q]
  have hTn:=I.hok.fresh (Uk _);refine#[.ref _,_,I.turnedNew (s:=s) (zs:=[.int i,x]) M kk lv lv' hT' rfl #[_,rfl] (.cons #[tk,rfl]<|.cons ru .nil) rfl (by show 2<=sizeLine;decide),rfl,#[_,x,hTn,rfl,rfl,λzs N=>?_],#[#[v,by assumption],n1],λc g=>?_]
  .rw[I.src_inj N L];exact U
  obtain⟨o,q⟩:=lv c g;rw[aw (Uv<|Ue q)];exact(M c g).1
 done:=by
  intro X hP hw W g i aaL s Z H E I M y hg;subst hP hw W;obtain⟨xs,L,U⟩:=hg;obtain⟨⟨old,p⟩,C⟩:=y;obtain⟨B,r,sq,z1⟩:=I.src L;have R:s.TypeIs (.ref e) _:=#[_,p,rfl];have hl:=r.length
  refine ax (p4 (wpAny_callSpecial?_slot R Y3
   (kL Y3 R F.entry_enumerate_next ?_<|F.args_enumerate_next_1 _)))
  show ez _ _ (field (.ref e) 2 >>= _) _ _ _;refine ax (kB p rfl rfl ?_);refine ax (dH (I.ok.hd g) C sq (by simp;lia) λh' x he' hx'=>?_)
  obtain⟨o,ho,hcl⟩:=hx';exact ax (yl (T:="StopIteration") (b:=true) #[o,ho,hcl] WF<|wpAny_pure #[rfl,I.turned4 (t':=s.toks) M λc o' f q=>he' c o' (λz=>f (by simp[z])) q])
 self:=λ_ _ _ _ _ y h=>let ⟨⟨_,p⟩,_⟩:=y;wpAny_pyIter_enum p h
theorem we:bt X (.builtin "isinstance") (λxs H Q=>∃x T t b,xs=[x,.ty T]/\TyOf X.K H x t/\W.kitOne X.K t (.type T)=ap b/\Q (.bl b) H):=by
 rintro aaL s Z H xs o Q I r ⟨x,T,t,b,rfl,ty,e,q⟩
 obtain⟨u,c,rfl,f,m⟩:=r.two;obtain rfl:c=WD T:=m;exact Cq I f ty e λg=>#[.bl b,H,I.tok g,rfl,q]
theorem HK(Y:X.calm=true):bt X (.builtin "all") (λxs H Q=>∃(l:cb)(bs:List Bool),xs=[.ref l]/\SqL X.K H l (bs.map V.bl)/\Q (.bl<|bs.all id) H):=by
 rintro aaL s Z H xs us Q I r ⟨l,bs,rfl,R,q⟩
 obtain⟨u,rfl,U⟩:=r.one;cases U;obtain⟨f,M,p,hz⟩:=I.list R;have hl:=M.length;have G:l<s.heap.objs.size:=by obtain⟨o,e,_⟩:=p.isList;exact Ue e
 have val:∀(i:Nat)(v:ay),f.toArray[i]?=ap v->∃c,bs[i]?=ap c/\v=.bool c:=λi v L=>by
  have m:f[i]?=ap v:=by simp_all
  have g:i<bs.length:=by
   have:=(UO.mp m).1
   simp_all
  obtain⟨w',J,W⟩:=M.get (by rw[Um,Uc g];rfl)
  rw[m]at J;cases J;exact#[_,Uc g,W]
 have C:f.toArray.size=bs.length:=by simp_all
 refine call_all_walk (vx p.isList #[_,_,_,_,_,_,λi=>bs.getD i cp,rfl,Walks.list (A:=X.A.in1) (I.ok.hd Y) _ l (Uv G) _,#[#[_,Uh _ rfl,rfl,rfl],p.isList.push _],λi v s' Q' E' L O=>?_,λh' N T=>?_])
 .obtain⟨c,J,rfl⟩:=val i v L
  refine pa ?_
  simp_all
 have e:(Ut f.toArray.size).all (λi=>bs.getD i cp)=bs.all id:=by
  rw[C,XX,List.all_eq_true,List.all_eq_true];constructor
  .intro h b B
   obtain⟨i,g,rfl⟩:=YQ.mp B;have:=h i (UJ.mpr g)
   rwa [Vx,Uc g]at this
  .intro h i g
   have y:=UJ.mp g;rw[Vx,Uc y];exact h _ (VW y)
 rw[e];refine#[.bl (bs.all id),H,?_,rfl,q];exact I.kept (t':=N) λb o B=>T b o (by simp;exact Uv (Ue B)) (Ua _ B)
theorem fU:Z3 table "zip.__getattribute__"=ap Builtin.«object.__getattribute__»:=
 entryFor_alias (id':="object.__getattribute__") (by kernel_rfl) (by decide +kernel) (by decide +kernel) (by kernel_rfl)
theorem jM:y1 (.type "zip") "__getattr__"=pure none:=by rfl
theorem vH:y1 (.type "zip") "keys"=pure none:=by rfl
theorem eF:Z3 table "dict.update.loop"=ap Builtin.«dict.update.loop»:=entryFor_of_fast (by kernel_rfl)
theorem cg:plainId "dict.update.loop"=true:=by decide +kernel
theorem oA(a TI TO:cb)(f0:ay)(f1:Bool)(name:Str)(u:Tok)(f:y1 (.type "zip") name=pure bb)(c:(["__module__","__name__","__qualname__","__doc__","__annotations__"]:aaV).contains name=cp)(hsz:name.length+100<=sizeLine:=by size_fits):
  aab (Builtin.«object.__getattribute__» #[[.ref a,.str name u],[]]) (λA R s=>pf s.heap a TI TO f0 f1/\raisesAttr (.ref a) name A R s):=
 Meets.of_wp λprog w A R s e=>by
  obtain⟨q,g,d,p,o⟩:=s;obtain⟨m,e⟩:=e;have r:(#[q,g,d,p,o]:ca).TypeIs (.ref a) "zip":=#[_,m,rfl]
  repeat (any_goals (first|assumption|wp_step))
  simp only[c,US,if_false]
  repeat (any_goals (first|assumption|wp_step))
  exact wpAny_raiseAttrError e.1 e.2 (attrMsg_fits (by decide +kernel) hsz)
theorem pc{TI TO:cb}(p:pf s.heap a TI TO f0 f1)(y:A.handled=bb)(h:∀h' q,(∀b o,s.heap.get? b=ap o->h'.get? b=ap o)->Q bb { s with heap:=h',toks:=q }):ez (eC prog w) A (Z2 (.ref a) "keys") Q E s:=by
 obtain⟨u,g,d,q,r⟩:=s;have m:∀f,(#[u,g,d,f,r]:ca).TypeIs (.ref a) "zip":=λ_=>#[_,p,rfl];have v:=sub_AttributeError;have J:=Xf.lookup;have I:=Xf.bind (.ref a);have C:=jM;unfold Z2 getAttrBy? getAttrBy
 repeat (any_goals (first|assumption|exact m _|((with_reducible show ez _ _ (call (Value.builtin "zip.__getattribute__") _ _) _ _ _);refine oD Xf (m _) fU (F.args_zip_getattribute_2 _ _) (oA a TI TO f0 f1 "keys" _ vH (by decide +kernel)<|by decide +kernel) #[p,y,λh' f e c=>?_])|wp_step))
 obtain⟨t',G,B⟩:=c.there;show ez _ _ (J' _ _ _ _ _ _ _) _ _ _;unfold J'
 repeat (any_goals (first|assumption|wp_step))
 exact h _ _ c.keeps
def xi(h:g4)(T:cb)(k v:ay):Prop:=∃o n,h.get? T=ap o/\o.cls=.type "tuple"/\o.data=.seq (Tw [k,v]) n
structure PSrc(prog:eS)(w:fx)(d it:cb)(ps:List (ay×ay))(fp:aaX)(St:Nat->g4->Prop):Prop where
 off:d∉fp
 stay:∀i h h',St i h->(∀b o,b≠d->h.get? b=ap o->h'.get? b=ap o)->St i h'
 item:∀(A:fy)(i:Nat)(hi:i<ps.length)(s:ca)(Q:Option ay->ca->Prop)(E:aa0),A.handled=bb->d<s.heap.objs.size->St i s.heap->
  (∀h' T,St (i+1) h'->xi h' T ps[i].1 ps[i].2->(∀c o,c∉fp->s.heap.get? c=ap o->h'.get? c=ap o)->Q (ap<|.ref T) { s with heap:=h' })->ez (eC prog w) A (x9<|.ref it) Q E s
 done:∀(A:fy)(s:ca)(Q:Option ay->ca->Prop)(E:aa0),A.handled=bb->St ps.length s.heap->(∀h',(∀c o,c∉fp->s.heap.get? c=ap o->h'.get? c=ap o)->Q bb { s with heap:=h' })->ez (eC prog w) A (x9<|.ref it) Q E s
theorem wU{St:Nat->g4->Prop}(U:A.handled=bb)(C:PSrc prog w d it ps fp St)(P:Nat->g4->Prop)(Pd:∀i h,P i h->∃o,h.get? d=ap o)(stay:∀i h h',P i h->(∀b o,b∉fp->h.get? b=ap o->h'.get? b=ap o)->P i h')(step:∀(i:Nat)(W:i<ps.length)(s:ca)(Q:Unit->ca->Prop)(E:aa0),P i s.heap->(∀h' r,P (i+1) h'->Vh d s.heap h'->Q () { s with heap:=h',toks:=r })->ez (eC prog w) A.in1 (dictSet d ps[i].1 ps[i].2) Q E s):
  ∀(n i:Nat)(s:ca),n=ps.length-i->i<=ps.length->St i s.heap->P i s.heap->
   (∀g:ca,g.os=s.os->g.gens=s.gens->g.drawn=s.drawn->P ps.length g.heap->(∀c o,c∉fp->c≠d->s.heap.get? c=ap o->g.heap.get? c=ap o)->R (.ok<|.ret .none) g)->
   ∀r:Nat,y' (eC prog w) A (.builtin "dict.update.loop" #[[.ref d,.ref it,p6 r,.none],[]]) R s:=by
 intro n
 induction n with
 |zero=>
  intro i s hn W q y hR r;have L:i=ps.length:=by lia
  subst L;refine Wp eF ?_;rw[Xh cg _];show ez _ A.in1 (x9 (.ref it) >>= _) _ _ s;refine ax (C.done A.in1 s _ _ U q λh' v=>?_);exact ax (m:=Builtin.Dict.addKeywords d []) (cx<|wpAny_pure (hR _ rfl rfl rfl (stay _ _ _ y v) λc o B G e=>v c o B e))
 |succ n ih=>
  intro i s hn W q y hR r;have p:i<ps.length:=by lia
  obtain⟨od,hd⟩:=Pd _ _ y;refine Wp eF ?_;rw[Xh cg _];show ez _ A.in1 (x9 (.ref it) >>= _) _ _ s;refine ax (C.item A.in1 i p s _ _ U (Ue hd) q λh' T u ⟨oT,m,O,Y,e3⟩ k1=>?_);have N:({ s with heap:=h' }:ca).TypeIs (.ref T) "tuple":=#[_,O,Y];refine ax (kc<|wpAny_bind<|wpAny_tryCatch ?_);unfold Builtin.Dict.pairItems;refine ax (Z1 N ?_);rw[if_pos (by decide)]
  refine ax (vr (s:={ s with heap:=h' }) O e3<|wpAny_pure ?_);show ez _ _ (qb [ps[i].1,ps[i].2]<|dictSet d ps[i].1 ps[i].2) _ _ _;refine kc (step i p { s with heap:=h' } _ _ (stay i _ _ y k1) λJ I M f=>cx #[XV cg _,?_]);exact ih (i+1) { s with heap:=J,toks:=I } (by lia) p (C.stay _ _ _ u λb o hb e=>f.extBut b o hb e) M (λg q1 q2 q3 q4 q5=>hR g q1 q2 q3 q4 λc o B G e=>q5 c o B G (f.extBut c o G<|k1 c o B e)) (r+1)
namespace F
theorem uh:mroOf (.type "dict")=pure [.type "dict",.type "object"]:=by rfl
theorem DP:y1 (.type "dict") "__new__"=pure (ap<|.builtin "dict.__new__"):=by rfl
theorem called_dict:TypeCalled "dict" "dict.__new__" "dict.__init__":=
 #[by rfl,by rfl,#[_,_,uh],madeBy_type uh (by trivial) (by decide +kernel),by decide +kernel,by rfl,PySem.F.slot_dict_init]
theorem typeCall_dict_1(a:ay):X_ "dict" #[[a],[]]=pure ():=by kernel_rfl
theorem newCall_dict_1(a:ay):UV "dict.__new__" #[[.type "dict",a],[]]=pure ():=by kernel_rfl
theorem entry_dict_new:Z3 table "dict.__new__"=ap Builtin.«dict.__new__»:=entryFor_of_tree (by kernel_rfl)
theorem plain_dict_new:plainId "dict.__new__"=true:=by decide +kernel
theorem sub_dict:isSubtype (.type "dict") (.type "dict")=pure true:=by rfl
end F
theorem o_(a:ay)(h:Q₁ (.ref s.heap.objs.size) { s with heap:=s.heap.push { cls:=.type "dict",data:=.dict (Tw []) } }):
  y' (eC prog w) A (.call (.builtin "dict.__new__") #[[.type "dict",a],[]]) (wants Q₁ E) s:=by
 refine codeAny_call_builtin F.plain_dict_new F.entry_dict_new (K' (F.newCall_dict_1 a) ?_);have c:=F.sub_dict
 wp_walk
 exact h
theorem wu{fq:aaX}(I:A.handled=bb)(P:Nat->g4->Prop)(hT:∃o,s.heap.get? l=ap o/\o.cls=.type T)(ht:(WD T != WD "dict")=true)(keys:∀(A':fy)(f:ca)(Q:Option ay->ca->Prop)(E:aa0),A'.handled=bb->(∀b o,s.heap.get? b=ap o->f.heap.get? b=ap o)->(∀h' B,(∀b o,f.heap.get? b=ap o->h'.get? b=ap o)->Q bb { f with heap:=h',toks:=B })->ez (eC prog w) A' (Z2 (.ref l) "keys") Q E f)(iter:∀(A':fy)(f:ca)(Q:aa0)(E:aa0),(∀b o,s.heap.get? b=ap o->f.heap.get? b=ap o)->s.heap.objs.size<f.heap.objs.size->
   (∀h' it fp St,(∀b o,f.heap.get? b=ap o->h'.get? b=ap o)->PSrc prog w s.heap.objs.size it ps fp St->St 0 h'->(∀b∈fp,b∈fq\/s.heap.objs.size<b)->Q (.ref it) { f with heap:=h' })->ez (eC prog w) A' (ZZ<|.ref l) Q E f)(Pd:∀i h,P i h->∃o,h.get? s.heap.objs.size=ap o)(h0:∀h',(∀b o,s.heap.get? b=ap o->h'.get? b=ap o)->h'.get? s.heap.objs.size=ap { cls:=.type "dict",data:=.dict (Tw []) }->P 0 h')(stay:∀i h h',P i h->(∀b o,b∉fq->b<=s.heap.objs.size->h.get? b=ap o->h'.get? b=ap o)->P i h')(step:∀(i:Nat)(hi:i<ps.length)(f:ca)(Q:Unit->ca->Prop)(E:aa0),P i f.heap->(∀h' B,P (i+1) h'->Vh s.heap.objs.size f.heap h'->Q () { f with heap:=h',toks:=B })->ez (eC prog w) A.in1.in1 (dictSet s.heap.objs.size ps[i].1 ps[i].2) Q E f)(h:∀f:ca,f.os=s.os->f.gens=s.gens->f.drawn=s.drawn->P ps.length f.heap->(∀c o,c∉fq->s.heap.get? c=ap o->f.heap.get? c=ap o)->Q (.ref s.heap.objs.size) f):
  ez (eC prog w) A (call (.type "dict") [.ref l]) Q E s:=by
 refine callType_codes (Q₁:=λobj m=>obj=.ref s.heap.objs.size/\m={ s with heap:=s.heap.push { cls:=.type "dict",data:=.dict (Tw []) } }) F.called_dict (F.typeCall_dict_1 _) PySem.F.entry_dict_init (o_ _ #[rfl,rfl]) ?_
 rintro obj m ⟨rfl,rfl⟩
 have up:∀c o,s.heap.get? c=ap o->(s.heap.push { cls:=.type "dict",data:=.dict (Tw []) }).get? c=ap o:=λc o e=>Ua _ e;have g:(s.heap.push { cls:=.type "dict",data:=.dict (Tw []) }).get? s.heap.objs.size=ap { cls:=.type "dict",data:=.dict (Tw []) }:=Uh _ rfl;have q:({ s with heap:=s.heap.push { cls:=.type "dict",data:=.dict (Tw []) } }:ca).TypeIs (.ref s.heap.objs.size) "dict":=#[_,g,rfl];refine#[q,PySem.F.args_dict_init_2 _ _,?_];unfold Builtin.«dict.__init__» Builtin.Dict.selfAndRest;refine ax (ax<|wpAny_notOrdered_dict q<|wpAny_pure ?_);show ez _ _ (XE "dict.__init__" s.heap.objs.size (.ref l) [] .none) _ _ _;unfold XE;obtain⟨L,R,cT⟩:=hT;refine ax (Z1 (T:=T) #[L,up _ _ R,cT] ?_);rw[if_pos ht];refine ax (keys _ _ _ _ I up λp v hk₁=>?_);rw[if_pos (show (none:Option ay).isNone=true from rfl)];have u:=hk₁ _ _ g;refine ax (F'<|wpAny_bind (iter _ { s with heap:=p,toks:=v } _ _ (λc o e=>hk₁ c o (up c o e)) (Ue u) λr it fp St k₂ C y G=>cx #[XV cg _,?_]))
 exact wU (A:=A.in1) I C P Pd (λi h h' J Y=>stay i h h' J λb o n le e=>Y b o (λz=>(G b z).elim n λlt=>Xg.2 le lt) e) step ps.length 0 { s with heap:=r,toks:=v } (by simp) (Va _) y (h0 _ (λb o e=>k₂ b o (hk₁ b o<|up b o e))<|k₂ _ _ u)
  (λf M U W N O=>#[rfl,h f M U W N λc o n e=>O c o (λz=>(G c z).elim n λlt=>Nat.lt_asymm lt (Ue e)) (Uv<|Ue e) (k₂ c o<|hk₁ c o<|up c o e)]) 0
structure ZPr(z TI TO d:cb)(S:List ZS)(F:ZS->List ay)(i:Nat)(h:g4):Prop where
 hz:∃f0 f1,pf h z TI TO f0 f1/\(f0=.none/\f1=cp/\(∃vs:List ay,vs.length=S.length/\iL h TO vs)\/∃(T:cb)(oT:Obj),f0=p6 T/\h.get? T=ap oT/\T≠d/\T∉pI z TI TO S)
 hTI:iL h TI (S.map λt=>.ref t.i)
 st:Ii S i h
 sq:∀t∈S,SrcSq t.b h t.l (F t).toArray
theorem JK{TI TO:cb}{F:ZS->List ay}(D:ZOk z TI TO S)(U:S.map F=[xs,ys])(hd:d∉pI z TI TO S)(W:∀t∈S,t.l≠d)(len:xs.length=ys.length):
  PSrc prog w d z (xs.zip ys) (pI z TI TO S) (ZPr z TI TO d S F) where
 off:=hd
 stay:=λi h h' p k=>by
  have ne:∀b∈pI z TI TO S,b≠d:=λb B e=>hd (e▸B);obtain⟨⟨f0,f1,y,r⟩,g,p,sq⟩:=p;refine#[#[f0,f1,k _ _ (ne z<|by simp) y,?_],k _ _ (ne TI<|by simp) g,λt f=>(p t f).keep λo e=>k _ o (ne t.i<|by simp[UI f]) e,λt f=>(sq t f).keep λo e=>k _ o (W t f) e]
  rcases r with⟨a,b,vs,l,e⟩|⟨T,q,a,b,c,e⟩
  .exact .inl #[a,b,vs,l,k _ _ (ne TO<|by simp) e]
  .exact .inr #[T,q,a,k _ _ c b,c,e]
 item:=by
  intro A i hi s Q E G dl p I;obtain⟨⟨f0,f1,y,r⟩,g,p,sq⟩:=p;have hx:i<xs.length:=by rw[XU]at hi;lia
  have hy:i<ys.length:=by lia
  obtain⟨M,zTO,TITO,ni⟩:=nS D;have pr:∀m:List ay,m.map ap=S.map (λt=>(F t)[i]?)->m=[xs[i],ys[i]]:=λm e=>by
   have:S.map (λt=>(F t)[i]?)=(S.map F).map (·[i]?):=by rw[Uq];rfl
   rw[this,U]at e;rcases m with _|⟨u,_|⟨v,_|⟨_,_⟩⟩⟩<;>simp[hx,hy]at e ⊢
   exact e
  have no:∀t∈S,(F t)[i]?≠none:=λt f e=>by
   have:F t∈S.map F:=UI f;rw[U]at this;have W:(F t).length<=i:=WT.1 e;simp at this;rcases this with e|e<;>rw[e]at W<;>lia
  have R:∀b∈pI z TI TO S,b<s.heap.objs.size\/b=TO:=λb B=>by
   simp at B;rcases B with rfl|rfl|rfl|⟨t,f,rfl⟩
   .exact .inl (Ue y)
   .exact .inl (Ue g)
   .exact .inr rfl
   .obtain⟨o,e,_⟩:=(p t f).lt
    exact .inl (Ue e)
  have up:∀{c:cb},c∉pI z TI TO S->c∉z::TO::S.map ZS.i:=λn x=>n (by
   simp only[pI,Uj]at x ⊢;exact x.imp id .inr)
  refine lL (F:=λt=>(F t)[i]?) G D y (r.imp id λ⟨T,q,a,b,_⟩=>#[T,q,a,b]) g p (λt f=>#[_,sq t f,by simp]) (λh' m e a O Y C=>?_) (by rintro h' ⟨t,f,eo⟩ _;exact absurd eo (no t f))
  have N:=λc o n=>C c o (up n);refine I h' _ #[?_,C _ _ ?_ g,O,λt f=>(sq t f).keep λo e=>N _ o (D.off t f) e] #[_,0,Y,rfl,by rw[pr m e];simp] N
  .rcases r with⟨rfl,rfl,vs,hv,J⟩|⟨T,q,rfl,hT',nd,nf⟩
   .obtain⟨_,L,_⟩|⟨n,_⟩:=a
    case inr=>exact absurd rfl n
    refine#[_,_,L,.inr #[_,_,rfl,Y,Wi dl,λB=>?_]];rcases R _ B with lt|e
    .exact UY _ lt
    .exact UY _ (e▸Ue J)
   .obtain⟨n,_⟩|⟨_,L⟩:=a
    .cases n
    .exact#[_,_,L,.inr #[_,_,rfl,N _ _ nf hT',nd,nf]]
  .simp
   exact#[M.symm,TITO,λt f=>(ni t f).2.1]
 done:=by
  intro A s Q E G p I;obtain⟨⟨f0,f1,y,r⟩,g,p,sq⟩:=p;have no:∀m:List ay,m.map ap≠S.map (λt=>(F t)[(xs.zip ys).length]?):=λm e=>by
   have:S.map (λt=>(F t)[(xs.zip ys).length]?)=(S.map F).map (·[(xs.zip ys).length]?):=by rw[Uq];rfl
   rw[this,U]at e;rcases m with _|⟨u,m⟩<;>simp[len]at e
  refine lL G D y (r.imp id λ⟨T,q,a,b,_⟩=>#[T,q,a,b]) g p (λt f=>#[_,sq t f,by simp]) (λh' m e=>absurd e (no m)) λh' _ C=>I h' λc o n=>C c o λx=>n ?_
  simp only[pI,Uj]at x ⊢;exact x.imp id .inr
theorem jN:fillsNumberSlot (.type "tuple") "mul"=pure false:=
 PySem.fillsNumberSlot_seq V7.lookup (by decide +kernel) rfl (by decide +kernel)
theorem rl:seqRepeat? (.type "tuple")=pure (ap<|.builtin "tuple.__mul__"):=by
 rfl
theorem nV(a:Int)(t:Tok)(l:cb)(items:aa3)(n:Nat)(dd:Option cb)(c:Array (Option ay)):
  aab (Builtin.«int.__rmul__» #[[.int a t,.ref l],[]]) (λ_ R s=>s.heap.get? l=ap { cls:=.type "tuple",dict:=dd,data:=.seq items n,slots:=c }/\R (.ok<|.ret Value.notImplemented) s):=
 .of_wp λprog w A R s h=>by obtain⟨e,h⟩:=h;wp_walk;simp_all
theorem nQ(l:cb)(items:aa3)(n:Nat)(dd:Option cb)(G:Array (Option ay))(x:Int)(u:Tok)(U:1<x)(C:x<=1000)(B:items.size<=1000)(q:items.isEmpty=cp):
  aab (Builtin.«tuple.__mul__» #[[.ref l,.int x u],[]]) (λ_ R s=>s.heap.get? l=ap { cls:=.type "tuple",dict:=dd,data:=.seq items n,slots:=G }/\
   R (.ok<|.ret<|.ref s.heap.objs.size) { s with heap:=s.heap.push { cls:=.type "tuple",data:=.seq ((UG x.toNat items).foldl (·++·) (Tw [])) } }):=
 .of_wp λprog w A R s h=>by
  obtain⟨O,g,d,I,J⟩:=s;obtain⟨m,h⟩:=h;have f1:=AutoSeq1.idx_int;have M:=AutoSeq1.sub_tuple_tuple;have y:(decide (x < -(2 ^ 63))||decide (x>=2 ^ 63))=false:=by simp;lia
  have v:(items.isEmpty||x==1)=false:=by rw[q];simp;lia
  have r:(decide (x<=0)||items.isEmpty)=false:=by rw[q];simp;lia
  have N:(items.size:Int)*x<=1000000:=by
   have L:(items.size:Int)*x<=1000*x:=Int.mul_le_mul_of_nonneg_right (by lia) (by lia)
   lia
  have o:¬((items.size:Int)*x>(2 ^ 63-1) / 8):=by lia
  have p:Xo ((items.size:Int)*x)=false:=by
   unfold Xo;have:(1000000:Int)<=(sizeLine:Int):=by decide
   exact decide_eq_false (by lia)
  wp_walk using ff m
  try simp only[y,US,if_false]
  wp_walk using ff m
  try simp only[v,US,if_false]
  wp_walk using ff m
  try simp only[r,US,if_false]
  wp_walk using ff m
  rw[if_neg o];simp only[p,US,if_false];unfold Builtin.Tuple.tupleExact;have f:((UG x.toNat items).foldl (·++·) (Tw [])).toList.length<=sizeLine:=by
   have e:∀(k:Nat)(c:aa3),((UG k items).foldl (·++·) c).size=c.size+k*items.size:=by
    intro k
    induction k with
    |zero=>intro c;simp
    |succ k ih=>intro c;rw[VF,Vs,ih,Array.size_append,Nat.succ_mul];lia
   rw[Vd,e];have:x.toNat*items.size<=1000*1000:=Nat.mul_le_mul (by lia) B
   have T:(1000*1000:Nat)<=sizeLine:=by decide
   simp only[Uo,Wv]at *;lia
  refine ax (wh (cx #[_,rfl,?_]) f);simpa using h
theorem p5(l:cb)(items:aa3)(n:Nat)(dd:Option cb)(e:Array (Option ay))(u:Tok):
  aab (Builtin.«tuple.__mul__» #[[.ref l,.int 1 u],[]]) (λ_ R s=>s.heap.get? l=ap { cls:=.type "tuple",dict:=dd,data:=.seq items n,slots:=e }/\R (.ok<|.ret<|.ref l) s):=
 .of_wp λprog w A R s h=>by
  obtain⟨c,h⟩:=h
  wp_walk using ff c
  simp_all
theorem mO(l:cb)(items:aa3)(n:Nat)(dd:Option cb)(g:Array (Option ay))(x:Int)(u:Tok)(p:x<=0)(m:-1000<=x)(f:items.isEmpty=cp):
  aab (Builtin.«tuple.__mul__» #[[.ref l,.int x u],[]]) (λ_ R s=>s.heap.get? l=ap { cls:=.type "tuple",dict:=dd,data:=.seq items n,slots:=g }/\
   R (.ok<|.ret<|.ref s.heap.objs.size) { s with heap:=s.heap.push { cls:=.type "tuple",data:=.seq (Tw []) } }):=
 .of_wp λprog w A R s h=>by
  obtain⟨c,h⟩:=h;have o:(decide (x < -(2 ^ 63))||decide (x>=2 ^ 63))=false:=by simp;lia
  have e:(items.isEmpty||x==1)=false:=by rw[f];simp;lia
  wp_walk using ff c
  try simp_all
  wp_walk using ff c
  try simp only[e,if_false]
  wp_walk using ff c
  simp_all
theorem C_(I:s.heap.IsTuple l aaR.toArray)(T:aaR≠[])(M:0<=k)(J:k<=1000)(U:aaR.length<=1000)(N:k=1->Q (.ref l) s)(L:k≠1->Q (.ref s.heap.objs.size) { s with heap:=s.heap.push { cls:=.type "tuple",data:=.seq (UG k.toNat aaR).flatten.toArray } }):
  ez (eC prog w) A (hG .Mult (.ref l)<|.int k u) Q E s:=by
 obtain⟨⟨cls,o,data,g⟩,e,y,n,r⟩:=I;subst y r;have q:aaR.toArray.isEmpty=false:=by simp_all
 refine wpAny_binaryOp_repeat_ref (by decide) #[_,e,rfl] (λC=>typeIs_int C k u) jN PySem.F.fills_int_mul Yp rl rfl
  (oD Yp rfl PySem.F.entry_int_rmul (PySem.F.args_int_rmul_2 _ _) (nV k u l _ n o g) #[e,rfl,#[_,e,rfl],?_])
 by_cases f:k=1
 .subst f
  exact oD V7 #[_,e,rfl] WW (WO _ _) (p5 l _ n o g u) #[e,N rfl]
 .have v:=L f
  by_cases p:k<=0
  .refine oD V7 #[_,e,rfl] WW (WO _ _) (mO l _ n o g k u p (by lia) q) #[e,?_]
   have R:k.toNat=0:=by lia
   simp_all
  .refine oD V7 #[_,e,rfl] WW (WO _ _) (nQ l _ n o g k u (by lia) J (by assumption) q) #[e,?_]
   have O:∀(m:Nat)(c:List _),List.foldl (λx1 G=>x1++G) c.toArray (UG m aaR.toArray)=(c++(UG m aaR).flatten).toArray:=by
    intro m
    induction m with
    |zero=>simp
    |succ m ih=>
     intro c;have B:c.toArray++aaR.toArray=(c++aaR).toArray:=by simp
     rw[VF,Vs,B,ih,VF,List.flatten_cons,List.append_assoc]
   simp_all
theorem Ie:cM X (hG .Add) (λx y H Q=>∃a b ys,x=.ref a/\y=.ref b/\ku X.K H a []/\ku X.K H b ys/\Q (.ref b) H):=by
 intro aaL s Z H x y v u Q I M W h;obtain⟨a,b,ys,rfl,rfl,T,hb,q⟩:=h;cases M;cases W;obtain⟨p,R,U,_⟩:=I.tuple T;obtain⟨e,r2,p2,_⟩:=I.tuple hb;obtain rfl:p=[]:=R.zero;obtain⟨⟨N,Y,G,O⟩,L,J,n,C⟩:=id U;obtain⟨⟨B,o,r,m⟩,f,c,n2,g⟩:=id p2;simp only at J C c g;subst J C c g
 exact aaB #[_,L,rfl] #[_,f,rfl] Z9 aap W4 WX (WQ _ _)
  (tuple_addW0 a b (Tw []) e.toArray n n2 Y o O m rfl) #[L,f,#[.ref b,H,I,rfl,q]]
theorem Fx(e:n.log2<2000)(f:0<n):cM X (hG .FloorDiv) (rI (λ_ j=>j=(n:Int)) λi j=>.int (i / j)):=Q_ λi j _ _ _ _ _ c q=>by
 subst c;refine floordiv_int (by lia) ?_ (.inl<|PyProof.noPylong_of_log2<|by simpa using YI e (by decide))
 rw[Int.fdiv_eq_ediv_of_nonneg _ (by lia)]
 exact q
def Gu(K:Ug)(b1 b2:Bool)(t:TA):TE:=λZ H Q=>t Z H λc H1=>∃(l1 l2:cb)(ks:List aC)(ys:List V),c=[.ref l1,.ref l2]/\m_ K b1 H1 l1 (ks.map kV)/\m_ K b2 H1 l2 ys/\ks.length=ys.length/\0<ks.length/\ks.length<=1000/\
 ∀d,H1 d=bb->Q (.ref d) (upd H1 d<|.dK<|(ks.zip ys).foldl (λa p=>fu a p.1 p.2) [])
theorem xt{k:aC}:(ZB xs k u).length<=xs.length+1:=by
 unfold ZB
 split
 .rw[Ub];lia
 simp
theorem jJ:∀(rs xs:List (aC×ay)),(rs.foldl (λa r=>ZB a r.1 r.2) xs).length<=xs.length+rs.length
 |[],xs=>by simp
 |r::rs,xs=>by
  have:=jJ rs (ZB xs r.1 r.2);have:=xt (xs:=xs) (k:=r.1) (u:=r.2);rw[Vs,Uz];lia
theorem Co:∀{aaN:List (aC×V)}{rs:List (aC×ay)},KV aaN rs->∀{a:List (aC×V)}{xs:List (aC×ay)},KV a xs->KV (aaN.foldl (λa p=>fu a p.1 p.2) a) (rs.foldl (λa r=>ZB a r.1 r.2) xs)
 |_,_,.nil,a,xs,h=>h
 |_,_,.cons h t,a,xs,h0=>by
  rw[Vs,Vs];refine Co t ?_;rw[<- h.1];exact h0.put _ h.2
theorem nh{rs:List (aC×ay×ay)}{fq:aaX}(hc:X.calm=true)(I:Inv X aaL Z H g)(o1:s.os=g.os)(o2:s.gens=g.gens)(o3:s.drawn=g.drawn)(k0:∀c o,g.heap.get? c=ap o->s.heap.get? c=ap o)(sz:g.heap.objs.size<=s.heap.objs.size)(B:∀b∈fq,g.heap.objs.size<=b/\b<s.heap.objs.size)(kv:KV aaN (rs.map λr=>(r.1,r.2.2)))(u:∀r∈rs,(aT X.prog X.w).is r.1 r.2.1=true)(hz:rs.length<=1000000)(hT:∃o,s.heap.get? l=ap o/\o.cls=.type T)(ht:(WD T != WD "dict")=true)(keys:∀(A':fy)(f:ca)(Q:Option ay->ca->Prop)(E:aa0),A'.handled=bb->(∀b o,s.heap.get? b=ap o->f.heap.get? b=ap o)->(∀h' tk,(∀b o,f.heap.get? b=ap o->h'.get? b=ap o)->Q bb { f with heap:=h',toks:=tk })->ez (eC X.prog X.w) A' (Z2 (.ref l) "keys") Q E f)(iter:∀(A':fy)(f:ca)(Q:aa0)(E:aa0),(∀b o,s.heap.get? b=ap o->f.heap.get? b=ap o)->s.heap.objs.size<f.heap.objs.size->
   (∀h' it fp St,(∀b o,f.heap.get? b=ap o->h'.get? b=ap o)->PSrc X.prog X.w s.heap.objs.size it (rs.map λr=>(r.2.1,r.2.2)) fp St->St 0 h'->(∀b∈fp,b∈fq\/s.heap.objs.size<b)->Q (.ref it) { f with heap:=h' })->ez (eC X.prog X.w) A' (ZZ<|.ref l) Q E f)(q:∀p,H p=bb->Q (.ref p) (upd H p<|.dK<|aaN.foldl (λa p=>fu a p.1 p.2) [])):
  ez (eC X.prog X.w) X.A (call (.type "dict") [.ref l]) (EP X aaL Z Q) X.xe s:=by
 refine wu (I.ok.hd hc) (λi h=>h.DictOf (aT X.prog X.w) _ (((rs.take i).map λr=>(r.1,r.2.2)).foldl (λa r=>ZB a r.1 r.2) [])) hT ht keys iter (by rintro i h ⟨o,C,J,e,_⟩;exact#[o,e]) ?_ ?_ ?_ ?_
 .intro h' R hd
  obtain⟨o,C,J,G,r⟩:=Heap.DictOf.new (knd:=aT X.prog X.w) s.heap;rw[Uh _ rfl]at G;cases G;exact#[_,C,J,hd,r]
 .rintro i h h' ⟨o,C,J,G,r⟩ N
  exact#[o,C,J,N _ o (λz=>UY _ (B _ z).2) (Uk _) G,r]
 .rintro i hi f Q' E' hd hQ
  have y:i<rs.length:=by simpa using hi
  simp;have m:(((rs.take i).map λr=>(r.1,r.2.2)).foldl (λa r=>ZB a r.1 r.2) []).length<=sizeLine:=by
   have:=jJ ((rs.take i).map λr=>(r.1,r.2.2)) [];have h2:(1000000:Nat)<=sizeLine:=by decide
   simp only[Wv,Ub,W8]at this;lia
  refine wpAny_dictSet_pairs (u rs[i] (VW y)) hd (λh' M U=>hQ h' _ ?_ U) m;rw[List.take_succ_eq_append_getElem y,VM,List.foldl_append];exact M
 .rintro f W p2 p3 hd R
  simp at hd;have O:=I.big;have hn:=I.hok.fresh sz;obtain⟨hh',g',Y,t',L⟩:=f;obtain rfl:L=g.os:=W.trans o1;obtain rfl:g'=g.gens:=p2.trans o2;obtain rfl:Y=g.drawn:=p3.trans o3;refine#[.ref _,_,I.laid (t':=t') (λc o e=>R c o (λz=>Xg.2 (B c z).1 (Ue e)) (k0 c o e)) sz ?_,rfl,q _ hn];have v:=Co kv (a:=[]) (xs:=[]) .nil;refine tG ?_ (by lia) v hd
  rw[VC v];have:=jJ (rs.map λr=>(r.1,r.2.2)) [];have h2:(1000000:Nat)<=sizeLine:=by decide
  simp at this;lia
theorem Hm:∀{ks:List aC}{aaR:aaW}{ys:List V}{us:aaW},Vals (ks.map kV) aaR->Vals ys us->ks.length=ys.length->
  KV (ks.zip ys) ((ks.zip<|aaR.zip us).map λr=>(r.1,r.2.2))/\(∀r∈ks.zip (aaR.zip us),(aT P w).is r.1 r.2.1=true)/\(ks.zip<|aaR.zip us).map (λr=>(r.2.1,r.2.2))=aaR.zip us
 |[],_,_,_,.nil,.nil,_=>#[.nil,by simp_all,rfl]
 |[],_,_::_,_,_,_,h=>by simp at h
 |_::_,_,[],_,_,_,h=>by simp at h
 |k::ks,_,y::ys,_,.cons r t,.cons r' t',h=>by
  obtain⟨a,b,c⟩:=Hm t t' (by simpa using h)
  exact#[.cons #[rfl,r'] a,λq f=>(Uj.1 f).elim (λe=>by subst e;exact jx r) (b q),by simpa using c]
theorem wT{a b:eX}(b1 b2:Bool)(hc:X.calm=true)(hg:Gl X "zip")(hm:X.mg "zip"=bb)(hg2:Gl X "dict")(hm2:X.mg "dict"=bb)(ha:PA X [a,b] ta)(hs:eg [a,b] X.env=[(cp,fv a X.env),(cp,fv b X.env)]:=by rfl)(hs2:eg [b] X.env=[(cp,fv b X.env)]:=by rfl)(hs3:eg [Yy (.Name "zip" p2) [a,b] [] c] X.env=[(cp,fv (.Call (.Name "zip" p2) [a,b] [] c) X.env)]:=by rfl):
  PE X (.Call (.Name "dict" p) [.Call (.Name "zip" p2) [a,b] [] c] [] pos) (Gu X.K b1 b2 ta):=by
 intro aaL s Z H Q I h;refine Call_ (di I hg2 hm2 (by decide +kernel:eT "dict"=ap (.type "dict"))<|UR ?_ hs3 rfl)
 rw[hs3];show ez _ _ (spliced ((cp,_)::g3 pos [])) _ _ s;refine VG ?_;refine Call_ (di I hg hm (by decide +kernel:eT "zip"=ap (.type "zip"))<|UR (bu (ha c aaL s Z H _ I h) λus L zz=>?_) (by rw[hs,hs2])<|by rw[hs2];rfl)
 obtain⟨vs,H1,I1,r1,q1⟩:=zz;obtain⟨l1,l2,ks,ys,e,q1,q2,hl,h0,hz,q⟩:=q1;subst e;obtain⟨u1,u2,rfl,ru1,ru2⟩:=r1.two;cases ru1;cases ru2;obtain⟨y,U,G,z1⟩:=I1.src q1;obtain⟨r,W,J,z2⟩:=I1.src q2;refine p_ (args:=[(b1,l1),(b2,l2)]) (.inl rfl) (λp hp=>?_) λh' z TI TO S Y D g N O st hb R=>?_
 .simp only[Uj,VV,or_false]at hp
  rcases hp with rfl|rfl
  .exact#[_,G]
  .exact#[_,J]
 refine V9 ?_;have e1:=U.length;have e2:=W.length;rw[Ub]at e1;obtain⟨kv,C,eps⟩:=Hm (P:=X.prog) (w:=X.w) U W hl;have zt:ZTn z TI TO S 0 h':=#[g,N,#[_,by rw[Ub],O],st]
 have B:∀b∈pI z TI TO S,b<h'.objs.size:=λb hb=>let ⟨o,e,_⟩:=zt.obj b hb;Ue e;have ll:∀t∈S,∃u,SrcSq t.b L.heap t.l u/\t.l<h'.objs.size:=λt ht=>by
  have:(t.b,t.l)∈[(b1,l1),(b2,l2)]:=Y▸UI (f:=λt:ZS=>(t.b,t.l)) ht;have h:∃u,SrcSq t.b L.heap t.l u:=by
   simp only[Uj,VV,or_false,Prod.mk.injEq]at this;rcases this with⟨e,e'⟩|⟨e,e'⟩<;>rw[e,e']
   .exact#[_,G]
   .exact#[_,J]
  obtain⟨u,q⟩:=h;refine#[u,q,?_];obtain⟨b,i,l⟩:=t;cases b with
  |true=>obtain⟨o,e,_⟩:=(show L.heap.IsList l u from q);exact Ue (R _ _ e)
  |false=>obtain⟨o,e,_⟩:=(show L.heap.IsTuple l u from q);exact Ue (R _ _ e)
 refine nh (s:={ L with heap:=h' }) (T:="zip") (rs:=ks.zip (y.zip r)) (aaN:=ks.zip ys) (fq:=pI z TI TO S) hc I1 rfl rfl rfl R ?_ (λb h=>#[hb b h,B b h]) kv C (by simp only[XU];lia) #[_,g,rfl] (by decide) (λA' s' Q' E' hh m k=>pc (m _ _ g) hh k) (λA' s' Q' E' m lt k=>Z6 (m _ _ g) ?_) q
 .rcases VL h'.objs.size L.heap.objs.size with lt|ge
  .have:=hb z (by simp);exact absurd (B z<|by simp) (Xg.2<|Uu (V0 lt) this)
  .exact ge
 .obtain⟨t,u,rfl⟩:=QB (by have:=congrArg VD Y;simpa using this)
  simp only[Ud,U2,U7,Prod.mk.injEq,and_true]at Y;obtain⟨⟨eb,el⟩,eb',el'⟩:=Y;have ne:u.i≠t.i:=yM D (i:=1) (j:=0) rfl rfl (by decide)
  rw[eps]at k;refine k s'.heap z _ (ZPr z TI TO h'.objs.size [t,u] λv=>if v.i=t.i then y else r) (λ_ _ e=>e) (JK D (by simp[ne]) (λh=>UY _ (B _ h)) (λv M=>let ⟨_,_,h⟩:=ll v M;Uv h)<|by lia) ?_ λb h=>.inl h
  refine#[#[_,_,m _ _ g,.inl #[rfl,rfl,_,by rw[Ub],m _ _ O]],m _ _ N,λv M=>(st v M).keep λo e=>m _ o e,λv M=>?_]
  simp only[Uj,VV,or_false]at M;rcases M with rfl|rfl
  .rw[if_pos rfl,eb,el]
   exact G.keep λo e=>m _ o (R _ o e)
  .rw[if_neg ne,eb',el']
   exact J.keep λo e=>m _ o (R _ o e)
end _2
namespace _2
open PySem PySem.Spec PyProof.Rows
variable{h:g4}{s:ca}{w:fx}
theorem mD(f:Nat->a->Sem (ForInStep a))(I:Nat->a->ca->Prop)(Q:a->ca->Prop)(g:∀i b s,i<n->I i b s->ez M A (f i b) (λr s'=>match r with|.yield b'=>I (i+1) b' s'|.done b'=>Q b' s') E s)(fin:∀b s,I n b s->Q b s)(b:a)(h:I 0 b s):ez M A (forIn [0:n] b f) Q E s:=by
 rw[Std.Legacy.Range.forIn_eq_forIn_range'];have m:[0:n].size=n:=by simp
 rw[m];refine wpAny_forIn_list f (λl c s=>∃i,i<=n/\l=V8 i (n-i) 1/\I i c s) Q ?_ ?_ _ b #[0,by lia,rfl,h]
 .rintro x u c s ⟨i,v,j,q⟩
  have o:i<n:=by
   rcases VL i n with h'|h'
   .exact h'
   simp_all
  obtain⟨k,p⟩:∃k,n-i=k+1:=#[n-i-1,by lia]
  rw[p]at j;obtain⟨rfl,rfl⟩:=List.cons.inj j;refine j0 (g x c s o q) (λr s' h'=>?_) λ_ _ e=>e;cases r with
  |done c'=>exact h'
  |yield c'=>exact#[_,by lia,by congr 1;lia,h']
 rintro c s ⟨i,v,j,q⟩
 have:i=n:=by
  rcases VL i n with h'|h'
  .obtain⟨k,p⟩:∃k,n-i=k+1:=#[n-i-1,by lia]
   simp_all
  lia
 simp_all
theorem kj(l:cb)(a:aa3)(n:Nat)(dd:Option cb)(I:Array (Option ay))(x:ay)(e:ay->Bool)(G:∀y,y∈a->MeetsSeq.EqGives y x (e y))(j:Nat)(M:j<a.size)(r:e a[j]=true)(u:∀m (hm:m<a.size),m<j->e a[m]=cp):
  aab (Builtin.«tuple.index» #[[.ref l,x],[]]) (λ_ R s=>s.heap.get? l=ap { cls:=.type "tuple",dict:=dd,data:=.seq a n,slots:=I }/\R (.ok<|.ret<|.int j s.toks) { s with toks:=s.toks+1 }):=
 .of_wp λf w A R s h=>by
  obtain⟨F,g,d,z,C⟩:=s;obtain⟨B,h⟩:=h
  wp_walk using AutoSeq1.wpAny_loadPart' B
  refine mD (n:=min a.size a.size) _ (λi (b:Option _×_) p=>b.1=bb/\i<=j/\p=#[F,g,d,z,C]) _ ?turn ?fin _ ?strt
  case turn=>
   rintro i b p J ⟨E,o,rfl⟩
   have c:i<a.size:=by lia
   have q:a[i]?=ap a[i]:=by simp[c]
   simp only[q];refine ax (G _ (Array.getElem_mem c) f w _ _ _ _ ?_)
   by_cases v:i=j
   .subst v
    rw[r]
    wp_walk
    exact#[_,rfl,h]
   .rw[u i c (by lia)]
    wp_walk
    exact#[rfl,by lia,rfl]
  case fin=>
   rintro⟨K,L⟩ p ⟨E,o,rfl⟩
   lia
  case strt=>
   exact#[rfl,Va _,rfl]
theorem Inv.tupD(I:Inv X b Z H s)(h:H a=ap (.tup xs)):
  ∃(aaR:aaW)(n:Nat)(sl:Array (Option ay)),Vals xs aaR/\s.heap.get? a=ap { cls:=.type "tuple",dict:=bb,data:=.seq aaR.toArray n,slots:=sl }:=by
 obtain⟨z,aaR,r,⟨cls,g,data,slots⟩,e,⟨c,n,d⟩,f⟩:=I.hok a _ h;simp only at c d f;subst c d f;exact#[aaR,n,slots,r,e]
theorem hV:∀{names:aaV}{us:aaW},Vals (names.map V.str) us->∀(j:Nat)(h:j<us.length),∃(y:Str)(t:Tok),names[j]?=ap y/\us[j]=.str y t
 |[],us,r,j,h=>by cases r;trivial
 |x::names,us,r,j,h=>by
  cases r with
  |cons r1 r2=>
   cases j with
   |zero=>obtain⟨t,rfl⟩:=r1;simp_all
   |succ j=>obtain⟨y,t,b,a⟩:=hV r2 j (by simpa using h);simp_all
def R7:V->List V->Hp->VK->Prop:=λx b H Q=>∃(a:cb)(names:aaV)(z:Str)(j:Nat),x=.ref a/\b=[.str z]/\H a=ap (.tup<|names.map V.str)/\names.length<=1000/\names[j]?=ap z/\(∀m,m<j->names[m]?≠ap z)/\Q (.int (j:Int)) H
theorem Ct:wq X "tuple.index" R7:=by
 intro E s Z H x U v S Q I G R h;obtain⟨a,b,z,j,rfl,rfl,L,T,B,C,q⟩:=h;cases G;obtain⟨u,rfl,O⟩:=R.one;obtain⟨t,rfl⟩:=O;obtain⟨c,n,K,r,e⟩:=I.tupD L;have N:=r.length;rw[Ub]at N;have M:j<b.length:=by
  rcases VL j b.length with z'|z'
  .exact z'
  .rw[Vj z']at B;cases B
 have A:j<c.toArray.size:=by rw[Uo];lia
 refine oD VZ #[_,e,rfl] XS (XQ _ _)
  (kj a c.toArray n bb K (.str z t) (λv=>match v with|.str y _=>y==z|_=>cp) (λy J=>?_) j A ?_ λm l o=>?_) #[e,?_]
 .obtain⟨m,l,rfl⟩:=Wx (by simpa using J:y∈c)
  obtain⟨i,p,f,g⟩:=hV r m l;rw[g];exact eqGives_str i z p t
 .obtain⟨i,p,f,g⟩:=hV r j (by lia)
  rw[B]at f;cases f;simp[g]
 .obtain⟨i,p,f,g⟩:=hV r m (by rw[Uo]at l;exact l)
  have F:=C m o;rw[f]at F;have ne:¬i=z:=λe=>F (by rw[e])
  simp[g,ne]
 .exact#[.int (j:Int),H,I.tok _,#[_,rfl],q]
def tTM(r:V->List V->Hp->VK->Prop)(to:TE)(t:TA):TE:=λZ H Q=>to Z H λx H1=>(∃a b,x=.ref a/\H1 a=ap (.tup b))/\t Z H1 λb H2=>r x b H2 Q
theorem Sy{id:String}(c:Slot "tuple" name id)(f:Y' (.builtin id)=pure (.type "method_descriptor"))(G:wq X id r)(K:PE X o to)(J:PA X (e::es) t)(b:kr o name X.env (fv o X.env)=fv o X.env:=by rfl)(hfew:((g3 aaP<|starEach (e::es) X.env).all (λx=>!x.1)&&(p1 aaP<|keywordEach [] X.env).all (λx=>x.1.isSome)
   && decide ((e::es).length+([]:List pt).length+(if ([]:List pt).isEmpty then 0 else 1)<30))=true:=by rfl)(hline:(aaQ.endLine==aaP.line)=true:=by rfl)(hs:eg (e::es) X.env=(cp,fv e X.env)::eg es X.env:=by rfl)(hplain:(g3 aaP<|starEach es X.env).any (·.1)=false:=by rfl):
  PE X (.Call (.Attribute o name aaQ) (e::es) [] aaP) (tTM r to t):=by
 intro i s Z H Q I h;refine aav b hfew hline rfl (bu (K _ s Z H _ I h) λv C q=>?_);obtain⟨x,H1,I1,u,⟨a,L,p,j⟩,y⟩:=q;subst p;cases u;obtain⟨B,n,M,N,E⟩:=I1.tupD j;refine#[_,id,PySem.F.plainAttrs_tuple,c,f,#[_,E,rfl],by simp_all,?_]
 have g:=J aaP _ C Z H1 _ I1 y;rw[hs]at g ⊢;exact VH (by assumption) (VR<|bu g<|by rintro l s2 ⟨z,H2,I2,m,A⟩;exact G _ s2 Z H2 (.ref a) z _ l Q I2 rfl m A)
theorem gH{h:g4}:∀{l:List Env},h.FunFrames a l->(∀b∈iM l,b∈S)->h.FunFrames (XY h S) l
 |[],_,_=>trivial
 |env::r,hl,hs=>by
  obtain⟨g,⟨L,o,c,n,m,j⟩,f⟩:=hl;have e:L∈S:=hs L (by unfold iM;rw[V2,c];exact Uw)
  exact#[g,#[L,o,c,W.hideAll_none S e,m,j],gH f λb i=>hs b (by unfold iM;rw[V2,c];exact Ui _ i)]
def DN(P:eS)(w:fx)(C:cb):pE:=λa H s E e c=>∃(ea:cb)(H':Hp)(B:g4)(a0:ay),e=.ref ea/\c.os=s.os/\Uf c.gens/\Un (iM a) [] H H' s.heap c.heap/\HOk P w H' c.heap/\
 Heap.FlyingW B a ea (.ref C) a0 c.heap/\(∀b u,H' b=ap u->∃o,B.get? b=ap o)/\(∀b o,s.heap.get? b=ap o->b∉iM a->∃o',B.get? b=ap o')/\E (.ref C) bb H'
theorem qT{B:g4}(c:HOk P w H h)(k:B.StaysIn h)(j:B.StaysIn h')(g:∀b u,H b=ap u->∃o,B.get? b=ap o):HOk P w H h':=λa o e=>
 (c a o e).stay (λb u i q=>by
  obtain⟨v,f⟩:∃v,B.get? b=ap v:=by
   rcases i with rfl|z
   .exact g _ _ e
   .exact g _ _ z
  have:=k b v f;rw[q]at this;cases this;exact j b _ f) (λ_ q=>q) λ_ _ q=>q
theorem xC{B:g4}(un:Un fs [] H H' h m)(k1:B.StaysIn m)(k2:B.StaysIn l)(r:m.UpToSlots l)(u:∀b o,h.get? b=ap o->b∉fs->∃e,B.get? b=ap e)(p:∀b∈fs,∀o,h.get? b=ap o->∀vs,o.data≠.fields vs)(x:∀b∈fs,H b=bb):Un fs [] H H' h l where
 keep:=λb o q n a f=>by
  have g:=un.keep b o q n a f;obtain⟨e,c⟩:=u b o q a;have:=k1 b e c;rw[g]at this;cases this;exact k2 b _ c
 slot:=λb o q n a f=>by
  obtain⟨v,g⟩:=un.slot b o q n a f;obtain⟨i,j⟩:=r b _ g (p b a o q);exact#[_,j]
 free:=un.free
 there:=λb o q f=>by
  by_cases a:b∈fs
  .obtain⟨v,g⟩:=un.slot b o q (x b a) a f
   obtain⟨i,j⟩:=r b _ g (p b a o q);exact#[_,j]
  obtain⟨e,c⟩:=u b o q a;exact#[e,k2 b e c]
 tups:=un.tups
 frzs:=un.frzs
 tbls:=un.tbls
section
variable{K:Ug}
theorem uL(h:env.frame=ap L):iM (env::l)=L::iM l:=by unfold iM;simp_all
theorem SL:bO (DN P w C) (eM (DN P w C) P w K mg base N aaM scope f cd A outer s0 H0 E) E:=by
 intro S Z H s e s' I a;obtain⟨O,H',B,a0,rfl,F,g,un,Q,l,T,M,hE⟩:=a;have J:(eM (DN P w C) P w K mg base N aaM scope f cd A outer s0 H0 E).stack=envOfC aaM scope s0.heap.objs.size f cd::outer:=rfl;have x:(envOfC aaM scope s0.heap.objs.size f cd).frame=ap s0.heap.objs.size:=rfl;have v:iM (envOfC aaM scope s0.heap.objs.size f cd::outer)=s0.heap.objs.size::iM outer:=uL x;rw[J]at un l M;show ez (eC P w) (A.deeper<|envOfC aaM scope s0.heap.objs.size f cd) (leaving (envOfC aaM scope s0.heap.objs.size f cd)<|.ref O) (λ_ p=>DN P w C outer H0 s0 E (.ref O) p) (λe' p=>DN P w C outer H0 s0 E e' p) s';refine wpAny_leaves_onW I.ok.frames x l λY i L=>?_;have j:Un (iM outer) [] H0 H s0.heap s.heap:=I.base;have nofr:∀{b:cb}{o:Obj},s0.heap.get? b=ap o->b∉iM outer->b∉iM (envOfC aaM scope s0.heap.objs.size f cd::outer):=λ{b o} q g z=>by
  rw[v]at z;rcases Uj.mp z with e|z
  .exact UY _ (e▸Ue q)
  .exact g z
 have c:Un (iM (envOfC aaM scope s0.heap.objs.size f cd::outer)) [] H H' s.heap Y:=by
  refine xC un l.1 i.1 L M (λb g o q vs=>?_) λb g=>?_
  .obtain⟨_,o',y,W⟩:=I.stack.mem (show b∈_ from g)
   rw[q]at y;cases y;exact W vs
  .exact I.stkFree b g
 refine#[O,H',B,a0,rfl,F.trans I.os,g,?_,qT Q l.1 i.1 T,i,T,λb o q g=>?_,hE]
 .refine#[λb o q n g a=>?_,λb o q n g a=>?_,λb o q n a=>?_,λb o q a=>?_,λb R q=>c.tups b R (j.tups b R q),λb o u q=>c.frzs b o u (j.frzs b o u q),λb ps q=>?_]
  .exact c.keep b o (j.keep b o q n g a) (j.free b o q n a) (nofr q g) a
  .obtain⟨sl,m⟩:=j.slot b o q n g a
   obtain⟨G,q2⟩:=c.slot b _ m (j.free b o q n a) (by rw[v];exact Ui _ g) a
   exact#[G,q2]
  .obtain⟨r,m⟩:=j.there b o q a
   exact c.free b r m (j.free b o q n a) a
  .obtain⟨r,m⟩:=j.there b o q a
   exact c.there b r m a
  .obtain⟨m1,e1⟩:=j.tbls b ps q
   obtain⟨X,U⟩:=c.tbls b _ e1;exact#[m1++X,by rw[U,Y1]]
 .obtain⟨r,m⟩:=j.there b o q (by simp)
  exact M b r m (nofr q g)
structure ExcAt(K:Ug)(C:cb):Prop where
 at_:∃(nm q:Str)(Nn:cb)(bs bm bmB:aaW)(hdct:Bool)(sn:aaV)(sub:aaW)(ab:Bool)(col:Option Bool)(dd:Option cb)(k0 k1 k2 k3 k5:Option ay)(newId initId Bs:String)(mN:aa2),
  (∀h:g4,K.In h->h.get? C=ap (excClassObj nm q C Nn bs bm hdct sn sub ab col dd k0 k1 k2 k3 k5 newId)/\h.Ns Nn mN/\OwnTail h bmB bm)/\mN "__init__"=bb/\ExcBaseFacts Bs newId initId bmB/\bmB.contains (.type Bs)=true/\bm.contains (.type "BaseException")=true
theorem ObjOk.obj(x:ObjOk P w H h a o):∃v,h.get? a=ap v:=by
 cases o with
 |lst xs=>obtain⟨_,_,_,_,e⟩:=x;exact#[_,e]
 |tup xs=>obtain⟨_,_,_,_,e,_⟩:=x;exact#[_,e]
 |set S n=>obtain⟨o,_,_,_,e,_⟩:=x;exact#[_,e]
 |ins C dx fs=>obtain⟨_,_,_,e,_⟩:=x;exact#[_,e]
 |own y=>assumption
 |xd fs=>obtain⟨_,⟨_,_,_,e,_⟩,_⟩:=x;exact#[_,e]
 |rng lo hi=>obtain⟨_,_,_,e⟩:=x;exact#[_,e]
 |frz ob u=>obtain⟨e,_⟩:=x;exact#[_,e]
 |tbl ps=>exact#[_,x]
 |met f y=>exact#[_,x]
 |ext φ=>obtain⟨_,⟨_,e⟩,_⟩:=x;exact#[_,e]
 |_=>obtain⟨_,_,_,_,o,_,_,e,_⟩:=x;exact#[_,e]
theorem Kf(g:Un fs [] H0 H l h)(a:Un (L::fs) [] H H' h h')(G:l.objs.size<=L):Un fs [] H0 H' l h':=by
 have nofr:∀{b:cb}{o:Obj},l.get? b=ap o->b∉fs->b∉L::fs:=λ{b o} q i z=>by
  rcases Uj.mp z with e|z
  .exact UY _ (Us (e▸Ue q) G)
  exact i z
 refine#[λb o q n i c=>a.keep b o (g.keep b o q n i c) (g.free b o q n c) (nofr q i) c,λb o q n i c=>?_,λb o q n c=>?_,λb o q c=>?_,λb p q=>a.tups b p (g.tups b p q),λb o u q=>a.frzs b o u (g.frzs b o u q),λb x q=>?_]
 .obtain⟨J,j⟩:=g.slot b o q n i c
  obtain⟨r,F⟩:=a.slot b _ j (g.free b o q n c) (Ui _ i) c;exact#[_,F]
 .obtain⟨m,j⟩:=g.there b o q c
  exact a.free b m j (g.free b o q n c) c
 .obtain⟨m,j⟩:=g.there b o q c
  exact a.there b m j c
 obtain⟨y,v⟩:=g.tbls b x q;obtain⟨B,I⟩:=a.tbls b _ v;exact#[y++B,by simp_all]
def PC(E:XK)(C:cb):TS:=λ_ _ H=>E (.ref C) bb H
theorem GN{jj}(X:ExcAt K C)(hm:mg x=ap (.ref C))(hg:Gl (eM (DN P w C) P w K mg base N aaM scope f cd A outer s0 H0 E) x)(hd:(x==("__debug__":Str))=false:=by decide)(hs:eg [.Constant (.str l) jj aaQ] (eM (DN P w C) P w K mg base N aaM scope f cd A outer s0 H0 E).env=[(cp,fv (.Constant (.str l) jj aaQ) (eM (DN P w C) P w K mg base N aaM scope f cd A outer s0 H0 E).env)]:=by rfl):
  PS (eM (DN P w C) P w K mg base N aaM scope f cd A outer s0 H0 E) (.Raise (ap<|.Call (.Name x np) [.Constant (.str l) jj aaQ] [] aaP) bb pos) (PC E C):=by
 intro G s Z H D I h;obtain⟨nm,q,Nn,bs,bm,bmB,hdct,sn,sub,ab,col,dd,k0,k1,k2,k3,k5,Y,L,Bs,mN,hX,M,FB,U,i⟩:=X.at_
 refine wpAny_Raise_call_subU (C:=C) (nm:=nm) (q:=q) (N:=Nn) (bs:=bs) (bm:=bm) (hdct:=hdct) (sn:=sn) (sub:=sub) (ab:=ab) (col:=col) (dd:=dd) (k0:=k0) (k1:=k1) (k2:=k2) (k3:=k3) (k5:=k5) FB U FB (mN:=mN) i (I.ok.hd rfl) (by rw[hs];rfl) M
  (gX I hg hm #[rfl,?_] hd)
 have hA:=(zc HR FP hs) aaP G s Z H (λxs H1=>xs.length=1/\E (.ref C) bb H1) I #[rfl,h];rw[hs]at hA ⊢;refine VR (j0 hA (λvs a J=>?_) λ_ _ y=>y);obtain⟨vv,H1,I1,r,m,hE⟩:=J;obtain⟨hC,hN,T⟩:=hX a.heap I1.kIn;refine#[rfl,?_,hC,hN,T,λh' e hx=>?_]
 .rw[<- r.length,m]
  decide
 have B:(envOfC aaM scope s0.heap.objs.size f cd).frame=ap s0.heap.objs.size:=rfl;have p:iM _=s0.heap.objs.size::iM outer:=uL B;have S:(XY a.heap<|iM (envOfC aaM scope s0.heap.objs.size f cd::outer)).StaysIn a.heap:=λb o e=>W.of_hideAll _ e;refine wpAny_leaves_madeW I1.ok.frames B S (gH I1.stack λb c=>c) hx λR t g _ _ Q=>?_;have O:=(Heap.UpToSlots.of_keeps hx.keeps).trans Q;have j:∀{b:cb}{o:Obj},a.heap.get? b=ap o->b∉iM (envOfC aaM scope s0.heap.objs.size f cd::outer)->(XY a.heap _).get? b=ap o:=λe n=>W.hideAll_get _ e n;have sT:∀b u,H1 b=ap u->∃o,(XY a.heap _).get? b=ap o:=λb u e=>by
  obtain⟨v,hv⟩:=ObjOk.obj (I1.hok b u e);exact#[v,j hv λz=>by rw[I1.stkFree b z]at e;cases e]
 have F:Un (iM (envOfC aaM scope s0.heap.objs.size f cd::outer)) [] H1 H1 a.heap R:=by
  refine xC Un.refl S g.1 O (λb o q c=>#[o,j q c]) (λb c o q vs=>?_) λb c=>I1.stkFree b c;obtain⟨_,o',ho',hd'⟩:=I1.stack.mem (show b∈_ from c)
  simp_all
 rw[p]at F;refine#[e,H1,_,.ref t,rfl,I1.os,I1.bare,Kf I1.base F (Uk _),qT I1.hok S g.1 sT,g,sT,λb o q c=>?_,hE];obtain⟨o1,q1⟩:=I1.base.there b o q (λz=>absurd (show b∈([]:aaX) from z) (by simp))
 refine#[o1,j q1 λz=>?_];rw[p]at z;rcases Uj.mp z with e'|z
 .exact UY _ (e'▸Ue q)
 .exact c z
end
noncomputable abbrev Cx.marked(X:Cx)(e:ay):Cx:={ X with A:=X.A.mark (ap e),calm:=cp,xe:=λ_ _=>False }
section
variable{X:Cx}
theorem Cx.Ok.mark(ok:X.Ok)(e:ay):(X.marked e).Ok:=
 #[ok.mod,ok.kind,ok.glob,ok.blt,ok.above,ok.inj,ok.has,ok.cab,by lia,ok.frames,ok.stk,ok.exf,ok.bs,ok.bsz,ok.noex,ok.exfs,ok.funs,ok.frf]
theorem Inv.mark(I:Inv X aaL Z H s)(e:ay):Inv (X.marked e) aaL Z H s:=#[I.ok.mark e,I.os,I.bare,I.base,I.loc,I.cell,I.free,I.freeC,I.pin,I.hok,I.len]
theorem Inv.unmark(ok:X.Ok)(I:Inv (X.marked e) aaL Z H s):Inv X aaL Z H s:=#[ok,I.os,I.bare,I.base,I.loc,I.cell,I.free,I.freeC,I.pin,I.hok,I.len]
theorem SP.unmark(ok:X.Ok)(h:SP (X.marked e) aaL D f b):SP X aaL D f b:=by
 cases f with
 |ret u=>obtain⟨v,a,H',I,r,q⟩:=h;exact#[v,_,H',I.unmark ok,r,q]
 |_=>obtain⟨a,H',I,q⟩:=h;exact#[_,H',I.unmark ok,q]
def Fw(C:cb)(sp:Sp)(dvs:List V)(ta:TA)(ts:TS):TS:=λD Z H=>ta Z H λa H1=>sp (a++dvs) H1 (λ_ H2=>D.nx Z H2) (λ_ _ H2=>ts D Z H2)
theorem wG(M:X.stack=X.env::X.outer)(hfL:X.env.frame=ap X.env.locals)(F:FnOk X.prog X.w X.K X.mg X.base (DN X.prog X.w C) k f fd ps sp)(hr:Room k X.A)(hg:Gl X x)(hm:X.mg x=ap (.ref f))(hk:Vq X.K (.ref f)=true)(hb:Binds X.K fd ps ds)(hd:Vals dvs ds)(ha:PA X.nox (e::es) ta)(EX:ExcAt X.K C)(hgC:Gl X T)(hmC:X.mg T=ap (.ref C))(hsu:∀L:cb,C1 (X.marked<|.ref L) (j::g) ts)(hdb:(x==("__debug__":Str))=false:=by decide)(hdC:(T==("__debug__":Str))=false:=by decide)(he:eg (e::es) X.env=(cp,fv e X.env)::eg es X.env:=by rfl)(hpl:(g3 S<|starEach es X.env).any (·.1)=false:=by rfl)(hsw:pb (.Call (.Name x p) (e::es) [] S) bb ep.line X.env=pure false:=by rfl):
  PS X (.Try [.Expr (.Call (.Name x p) (e::es) [] S) ep] [.ExceptHandler (ap<|.Name T np) bb (j::g) J] [] [] pos) (Fw C sp dvs ta ts):=by
 intro aaL s Z H D I h;refine wpAny_Try_except (Z7<|wpAny_Expr_any ?_ I.quiet hsw);refine mo (gX I hg hm ?_ hdb);refine XM (h₀:=X.base) I.ok.mod.kin hk (j0 (ha S aaL s Z H _ (I.wish _) h) (λN Y zz=>?_) λ_ _ z=>Vk z) he hpl;obtain⟨O,H1,I1',r,q⟩:=zz;have I1:=I1'.unwish;refine#[I1.kIn,?_];have r2:=r.append hd;have hl:(N++ds).length=ps.length:=by rw[<- r2.length];exact F.len _ _ _ _ q
 refine aaf (q0 (F.run X.A X.stack Y H1 #[N,[]] (N++ds) (O++dvs) _ _ hr I1.env0 (hb Y N I1.kIn hl) r2 q) λrr s' W=>?_);cases rr with
 |ok fl=>
  cases fl with
  |ret u=>
   obtain⟨x',H2,I2,_,q2⟩:=I1.after W;exact rc (rc #[Z,H2,I2,q2])
  |_=>exact Vk W
 |error er=>
  obtain⟨L,H',B,a0,rfl,U,v,un,hok,i,sT,sA,hE⟩:=W;obtain⟨nm,qn,Nn,bs,bm,bmB,hdct,sn,sub,ab,col,dd,k0,k1,k2,k3,k5,newId,Q,Bs,mN,hX,hni,FB,hBs,n⟩:=EX.at_;have nf:∀b∈iM X.stack,∀o,Y.heap.get? b=ap o->∀O,o.data≠.fields O:=λb m o q' O=>by
   obtain⟨_,o',ho',hd'⟩:=I1.stack.mem (show b∈_ from m)
   simp_all
  have c:∀R:g4,B.StaysIn R->s'.heap.UpToSlots R->Inv X aaL Z H' { s' with heap:=R }:=λR k up=>
   I1.call' U (xC un i.1 k up sA nf λb m=>I1.stkFree b m) (qT hok i.1 k sT) v λb z=>absurd (z) (by simp)
  rw[M]at i;refine wpAny_looks_onW (by rw[<- M];exact I1.ok.frames) hfL i λh4 l up4=>?_
  refine wpAny_landsW l λh5 a y=>?_;have I5:=(c h5 a.1<|up4.trans y).mark (.ref L);obtain⟨hC,_,_⟩:=hX h5 I5.kIn;obtain⟨ob,hob,G⟩:=a.there;refine wpAny_handleBy_cons (codeAny_handlers_test<|gX I5 hgC hmC ?_ hdC) (by intro q';cases q')
  refine wpAny_excMatches_sub_self hC hob G n (codeAny_handlers_suite ?_);refine lands_againW a λh6 E up6=>?_;have I6:=(c h6 E.1<|(up4.trans y).trans up6).mark (.ref L);exact j0 (hsu L aaL _ Z H' D I6 hE) (λfl s7 q7=>q7.unmark I.ok) λ_ _ z=>Vk z
end
end _2
namespace _3
open PySem _2
variable{a p:cb}{e:eX}{H H':Hp}{M:Mem}{K:Ug}{r:g8}
inductive D where
 |non|bl (b:Bool)|int (i:Int)|str (x:Str)|ty (n:String)|ref (a:cb)|tup (xs:List D)|lst (xs:List D)|mt (xs:List D)|ml (xs:List D)|fd (ks:List (List aC)) (xs:List D)
def TpD(_:Ug)(H:Hp)(p:cb)(vs:List V):Prop:=H p=ap (.tup vs)
def TpM(K:Ug)(p:cb)(vs:List V):Prop:=∃(o:Obj)(aaR:aa3)(n:Nat),K.lookup p=ap o/\o.cls=.type "tuple"/\o.data=.seq aaR n/\aaR.size<=sizeLine/\Vals vs aaR.toList
def FzD(K:Ug)(H:Hp)(p:cb)(vs:List V):Prop:=
 ∃o,H p=ap (.frz o<|.lst vs)
def FzK(K:Ug)(H:Hp)(p:cb)(vs:List V):Prop:=(∃o,H p=ap (.frz o<|.lst vs))\/∃(o:Obj)(aaR:aa3)(n:Nat),K.lookup p=ap o/\o.cls=.type "list"/\o.dict=bb/\o.data=.seq aaR n/\aaR.size<=sizeLine/\Vals vs aaR.toList
theorem FzK.sq(h:FzK K H p vs):SqL K H p vs:=h.imp (by rintro⟨o,e⟩;exact .inr #[o,e]) λx=>x
theorem TpD.sq(h:TpD K H p vs):ku K H p vs:=.inl (.inl h)
theorem TpM.sq(h:TpM K p vs):ku K H p vs:=.inr h
theorem FzD.sq(h:FzD K H p vs):SqL K H p vs:=by
 obtain⟨o,h⟩:=h;exact .inl (.inr #[o,h])
def FdD(H:Hp)(p:cb)(ks:List (List aC))(vs:List V):Prop:=ks.length=vs.length/\∃o,H p=ap (.frz o<|.dT<|ks.zip vs)
mutual
def Rp(K:Ug)(H:Hp):D->V->Prop
 |.non,v=>v=.non
 |.bl b,v=>v=.bl b
 |.int i,v=>v=.int i
 |.str x,v=>v=.str x
 |.ty n,v=>v=.ty n
 |.ref a,v=>v=.ref a
 |.tup xs,v=>∃p vs,v=.ref p/\TpD K H p vs/\Rps K H xs vs
 |.lst xs,v=>∃p vs,v=.ref p/\FzD K H p vs/\Rps K H xs vs
 |.mt xs,v=>∃p vs,v=.ref p/\TpM K p vs/\Rps K H xs vs
 |.ml xs,v=>∃p vs,v=.ref p/\FzK K H p vs/\Rps K H xs vs
 |.fd ks xs,v=>∃p vs,v=.ref p/\FdD H p ks vs/\Rps K H xs vs
def Rps(K:Ug)(H:Hp):List D->List V->Prop
 |[],vs=>vs=[]
 |x::xs,vs=>∃v r,vs=v::r/\Rp K H x v/\Rps K H xs r
end
structure Imm(H H':Hp):Prop where
 tup:∀p vs,H p=ap (.tup vs)->H' p=ap (.tup vs)
 frz:∀p o u,H p=ap (.frz o u)->H' p=ap (.frz o u)
theorem Imm.refl:Imm H H:=#[by lia,by lia]
theorem Imm.trans(a:Imm H H1)(b:Imm H1 H2):Imm H H2:=#[λp f e=>b.tup _ _ (a.tup _ _ e),λp o u e=>b.frz _ _ _ (a.frz _ _ _ e)]
theorem TpD.mono(i:Imm H H')(h:TpD K H p vs):TpD K H' p vs:=i.tup _ _ h
theorem FzK.mono(i:Imm H H')(h:FzK K H p vs):FzK K H' p vs:=h.imp (λ⟨o,e⟩=>#[o,i.frz _ _ _ e]) λx=>x
theorem FzD.mono(i:Imm H H')(h:FzD K H p vs):FzD K H' p vs:=let ⟨o,e⟩:=h;#[o,i.frz _ _ _ e]
mutual
theorem Rp.mono{K:Ug}{H H':Hp}(i:Imm H H'):∀{d:D}{v:V},Rp K H d v->Rp K H' d v
 |.non,_,h=>h
 |.bl _,_,h=>h
 |.int _,_,h=>h
 |.str _,_,h=>h
 |.ty _,_,h=>h
 |.ref _,_,h=>h
 |.tup _,_,h=>by
  obtain⟨p,b,e,t,r⟩:=h;exact#[p,b,e,t.mono i,Rps.mono i r]
 |.lst _,_,h=>by
  obtain⟨p,b,e,t,r⟩:=h;exact#[p,b,e,t.mono i,Rps.mono i r]
 |.mt _,_,h=>by
  obtain⟨p,b,e,t,r⟩:=h;exact#[p,b,e,t,Rps.mono i r]
 |.ml _,_,h=>by
  obtain⟨p,b,e,t,r⟩:=h;exact#[p,b,e,t.mono i,Rps.mono i r]
 |.fd _ _,_,h=>by
  obtain⟨p,b,e,⟨t,o,f⟩,r⟩:=h;exact#[p,b,e,#[t,o,i.frz _ _ _ f],Rps.mono i r]
theorem Rps.mono{K:Ug}{H H':Hp}(i:Imm H H'):∀{ds:List D}{vs:List V},Rps K H ds vs->Rps K H' ds vs
 |[],_,h=>h
 |_::_,_,h=>by
  obtain⟨v,r,e,a,b⟩:=h;exact#[v,r,e,Rp.mono i a,Rps.mono i b]
end
theorem Rps.nil:Rps K H [] []:=rfl
theorem Rps.cons(a:Rp K H d v)(b:Rps K H ds vs):Rps K H (d::ds) (v::vs):=#[v,vs,rfl,a,b]
theorem Rps.length:∀{ds:List D}{vs:List V},Rps K H ds vs->ds.length=vs.length
 |[],_,h=>by cases h;rfl
 |_::_,_,h=>by obtain⟨v,r,rfl,_,b⟩:=h;simp[b.length]
theorem Rps.get:∀{ds:List D}{vs:List V},Rps K H ds vs->∀{i:Nat}{d:D},ds[i]?=ap d->∃v,vs[i]?=ap v/\Rp K H d v
 |[],_,_,i,d,e=>by simp at e
 |x::xs,_,h,i,d,e=>by
  obtain⟨v,r,rfl,a,b⟩:=h;cases i with
  |zero=>simp_all
  |succ i=>simpa using b.get (by simpa using e)
theorem Rps.append:∀{ds es:List D}{vs f:List V},Rps K H ds vs->Rps K H es f->Rps K H (ds++es) (vs++f)
 |[],_,_,_,h,g=>by cases h;exact g
 |_::_,_,_,_,h,g=>by
  obtain⟨v,r,rfl,a,b⟩:=h;exact#[v,_,rfl,a,b.append g]
theorem Rps.take:∀{ds:List D}{vs:List V}(n:Nat),Rps K H ds vs->Rps K H (ds.take n) (vs.take n)
 |[],_,n,h=>by cases h;simp[Rps]
 |_::_,_,0,h=>rfl
 |_::_,_,n+1,h=>by
  obtain⟨v,r,rfl,a,b⟩:=h;exact#[v,_,rfl,a,b.take n]
theorem Rps.drop:∀{ds:List D}{vs:List V}(n:Nat),Rps K H ds vs->Rps K H (ds.drop n) (vs.drop n)
 |[],_,n,h=>by cases h;simp[Rps]
 |_::_,_,0,h=>h
 |_::_,_,n+1,h=>by
  obtain⟨v,r,rfl,a,b⟩:=h;exact b.drop n
theorem Rps.set(a:Rp K H d v):∀{ds:List D}{vs:List V}(i:Nat),Rps K H ds vs->Rps K H (ds.set i d) (vs.set i v)
 |[],_,_,h=>by cases h;rfl
 |_::_,_,0,h=>by obtain⟨w,r,rfl,_,b⟩:=h;exact#[v,r,rfl,a,b]
 |_::_,_,i+1,h=>by obtain⟨w,r,rfl,c,b⟩:=h;exact#[w,_,rfl,c,b.set a i]
theorem Rps.reverse:∀{ds:List D}{vs:List V},Rps K H ds vs->Rps K H ds.reverse vs.reverse
 |[],_,h=>by cases h;rfl
 |_::_,_,h=>by
  obtain⟨v,r,rfl,a,b⟩:=h;simp;exact b.reverse.append (.cons a .nil)
theorem Rps.dropLast(h:Rps K H ds vs):Rps K H ds.dropLast vs.dropLast:=by
 rw[YK,YK,h.length];exact h.take _
theorem Rps.eraseIdx:∀{ds:List D}{vs:List V}(i:Nat),Rps K H ds vs->Rps K H (ds.eraseIdx i) (vs.eraseIdx i)
 |[],_,_,h=>by cases h;rfl
 |_::_,_,0,h=>by obtain⟨w,r,rfl,_,b⟩:=h;exact b
 |_::_,_,i+1,h=>by obtain⟨w,r,rfl,c,b⟩:=h;exact#[w,_,rfl,c,b.eraseIdx i]
theorem wl:∀{b:aaU}{vs:List V},vs=b.map V.int->Rps K H (b.map D.int) vs
 |[],_,e=>e
 |i::b,_,e=>by subst e;exact#[_,_,rfl,rfl,wl rfl]
inductive MO where
 |lst (xs:List D)
 |dK (aaN:List (aC×D))
 |dT (aaN:List (List aC×D))
 |ins (C:cb) (fs:List (Str×D))
abbrev Mem:=cb->Option MO
noncomputable def Mem.upd(M:Mem)(a:cb)(o:MO):Mem:=λb=>if b=a then ap o else M b
noncomputable def Mem.del(M:Mem)(a:cb):Mem:=λb=>if b=a then bb else M b
abbrev Bx.{u}{α:Sort u}(_:α):Type:=Unit
structure Wr.{u}(α:Sort u) where
 v:α
section
variable{α:Type}
noncomputable def so_:Wr (∀{α:Type},(Option α)->(α->Prop)->Prop):=#[λo f=>match o with
 |some a=>f a
 |none=>False]
abbrev so{α:Type}(o:Option α)(f:α->Prop)(_:Bx f:=()):Prop:=so_.v o f
noncomputable def s2_:Wr (∀{α:Type},(Option<|Option α)->(α->Prop)->Prop):=#[λo f=>match o with
 |some (ap a)=>f a
 |_=>False]
abbrev s2{α:Type}(o:Option (Option α))(f:α->Prop)(_:Bx f:=()):Prop:=s2_.v o f
noncomputable def s2e_:Wr (∀{α:Type},(Option<|Option α)->(α->Prop)->(Prop)->Prop):=#[λo f p=>match o with
 |some (ap a)=>f a
 |_=>p]
abbrev s2e{α:Type}(o:Option (Option α))(f:α->Prop)(p:Prop)(_:Bx f:=())(_:Bx p:=()):Prop:=s2e_.v o f p
noncomputable def oe_:Wr (∀{α:Type},(Option α)->(α->Prop)->(Prop)->Prop):=#[λo f p=>match o with
 |some a=>f a
 |none=>p]
abbrev oe{α:Type}(o:Option α)(f:α->Prop)(p:Prop)(_:Bx f:=())(_:Bx p:=()):Prop:=oe_.v o f p
noncomputable def one_:Wr (∀{α:Type},(List α)->(α->Prop)->Prop):=#[λds f=>match ds with
 |[d]=>f d
 |_=>False]
abbrev one{α:Type}(ds:List α)(f:α->Prop)(_:Bx f:=()):Prop:=one_.v ds f
noncomputable def two_:Wr (∀{α:Type},(List α)->(α->α->Prop)->Prop):=#[λds f=>match ds with
 |[d,e]=>f d e
 |_=>False]
abbrev two{α:Type}(ds:List α)(f:α->α->Prop)(_:Bx f:=()):Prop:=two_.v ds f
noncomputable def nil0_:Wr (∀{α:Type},(List α)->(Prop)->Prop):=#[λds p=>match ds with
 |[]=>p
 |_=>False]
abbrev nil0{α:Type}(ds:List α)(p:Prop)(_:Bx p:=()):Prop:=nil0_.v ds p
noncomputable def cns_:Wr (∀{α:Type},(List α)->(α->List α->Prop)->Prop):=#[λds f=>match ds with
 |d::r=>f d r
 |_=>False]
abbrev cns{α:Type}(ds:List α)(f:α->List α->Prop)(_:Bx f:=()):Prop:=cns_.v ds f
noncomputable def nilOr_:Wr (∀{α:Type},(List α)->(Prop)->(α->Prop)->Prop):=#[λds p f=>match ds with
 |[]=>p
 |[d]=>f d
 |_=>False]
abbrev nilOr{α:Type}(ds:List α)(p:Prop)(f:α->Prop)(_:Bx p:=())(_:Bx f:=()):Prop:=nilOr_.v ds p f
noncomputable def onR_:Wr ((D)->(cb->Prop)->Prop):=#[λd f=>match d with
 |.ref a=>f a
 |_=>False]
abbrev onR(d:D)(f:cb->Prop)(_:Bx f:=()):Prop:=onR_.v d f
noncomputable def onI_:Wr ((D)->(Int->Prop)->Prop):=#[λd f=>match d with
 |.int a=>f a
 |_=>False]
abbrev onI(d:D)(f:Int->Prop)(_:Bx f:=()):Prop:=onI_.v d f
noncomputable def onB_:Wr ((D)->(Bool->Prop)->Prop):=#[λd f=>match d with
 |.bl a=>f a
 |_=>False]
abbrev onB(d:D)(f:Bool->Prop)(_:Bx f:=()):Prop:=onB_.v d f
noncomputable def onS_:Wr ((D)->(Str->Prop)->Prop):=#[λd f=>match d with
 |.str a=>f a
 |_=>False]
abbrev onS(d:D)(f:Str->Prop)(_:Bx f:=()):Prop:=onS_.v d f
noncomputable def onTy_:Wr ((D)->(String->Prop)->Prop):=#[λd f=>match d with
 |.ty a=>f a
 |_=>False]
abbrev onTy(d:D)(f:String->Prop)(_:Bx f:=()):Prop:=onTy_.v d f
noncomputable def onT_:Wr ((D)->(List D->Prop)->Prop):=#[λd f=>match d with
 |.tup a=>f a
 |_=>False]
abbrev onT(d:D)(f:List D->Prop)(_:Bx f:=()):Prop:=onT_.v d f
noncomputable def onF_:Wr ((D)->(List (List aC)->List D->Prop)->Prop):=#[λd f=>match d with
 |.fd a b=>f a b
 |_=>False]
abbrev onF(d:D)(f:List (List aC)->List D->Prop)(_:Bx f:=()):Prop:=onF_.v d f
noncomputable def onN_:Wr ((D)->(Prop)->Prop):=#[λd p=>match d with
 |.non=>p
 |_=>False]
abbrev onN(d:D)(p:Prop)(_:Bx p:=()):Prop:=onN_.v d p
noncomputable def onBB_:Wr ((D)->(Prop)->(Prop)->Prop):=#[λd p q=>match d with
 |.bl true=>p
 |.bl cp=>q
 |_=>False]
abbrev QL(d:D)(p q:Prop)(_:Bx p:=())(_:Bx q:=()):Prop:=onBB_.v d p q
noncomputable def onIST_:Wr ((D)->(Int->Prop)->(Str->Prop)->(List D->Prop)->(Prop)->Prop):=#[λd f g h p=>match d with
 |.int a=>f a
 |.str a=>g a
 |.tup a=>h a
 |_=>p]
abbrev onIST(d:D)(f:Int->Prop)(g:Str->Prop)(h:List D->Prop)(p:Prop)(_:Bx f:=())(_:Bx g:=())(_:Bx h:=())(_:Bx p:=()):Prop:=onIST_.v d f g h p
noncomputable def onSR_:Wr ((D)->(Str->Prop)->(cb->Prop)->Prop):=#[λd g f=>match d with
 |.str a=>g a
 |.ref a=>f a
 |_=>False]
abbrev onSR(d:D)(g:Str->Prop)(f:cb->Prop)(_:Bx g:=())(_:Bx f:=()):Prop:=onSR_.v d g f
noncomputable def onLR_:Wr ((D)->(List D->Prop)->(cb->Prop)->Prop):=#[λd g f=>match d with
 |.lst a=>g a
 |.ref a=>f a
 |_=>False]
abbrev Pu(d:D)(g:List D->Prop)(f:cb->Prop)(_:Bx g:=())(_:Bx f:=()):Prop:=onLR_.v d g f
noncomputable def onTM_:Wr ((D)->(List D->Prop)->(List D->Prop)->(Prop)->Prop):=#[λd f g p=>match d with
 |.tup a=>f a
 |.ml a=>g a
 |_=>p]
abbrev onTM(d:D)(f g:List D->Prop)(p:Prop)(_:Bx f:=())(_:Bx g:=())(_:Bx p:=()):Prop:=onTM_.v d f g p
noncomputable def onTe_:Wr ((D)->(List D->Prop)->(Prop)->Prop):=#[λd f p=>match d with
 |.tup a=>f a
 |_=>p]
abbrev onTe(d:D)(f:List D->Prop)(p:Prop)(_:Bx f:=())(_:Bx p:=()):Prop:=onTe_.v d f p
noncomputable def onRe_:Wr ((D)->(cb->Prop)->(Prop)->Prop):=#[λd f p=>match d with
 |.ref a=>f a
 |_=>p]
abbrev onRe(d:D)(f:cb->Prop)(p:Prop)(_:Bx f:=())(_:Bx p:=()):Prop:=onRe_.v d f p
noncomputable def mL_:Wr ((Option MO)->(List D->Prop)->Prop):=#[λm f=>match m with
 |some (.lst a)=>f a
 |_=>False]
abbrev mL(m:Option MO)(f:List D->Prop)(_:Bx f:=()):Prop:=mL_.v m f
noncomputable def mK_:Wr ((Option MO)->(List (aC×D)->Prop)->Prop):=#[λm f=>match m with
 |some (.dK a)=>f a
 |_=>False]
abbrev mK(m:Option MO)(f:List (aC×D)->Prop)(_:Bx f:=()):Prop:=mK_.v m f
noncomputable def mT_:Wr ((Option MO)->(List (List aC×D)->Prop)->Prop):=#[λm f=>match m with
 |some (.dT a)=>f a
 |_=>False]
abbrev mT(m:Option MO)(f:List (List aC×D)->Prop)(_:Bx f:=()):Prop:=mT_.v m f
noncomputable def mN_:Wr ((Option MO)->(cb->List (Str×D)->Prop)->Prop):=#[λm f=>match m with
 |some (.ins a b)=>f a b
 |_=>False]
abbrev mN(m:Option MO)(f:cb->List (Str×D)->Prop)(_:Bx f:=()):Prop:=mN_.v m f
noncomputable def mLe_:Wr ((Option MO)->(List D->Prop)->(Prop)->Prop):=#[λm f p=>match m with
 |some (.lst a)=>f a
 |_=>p]
abbrev mLe(m:Option MO)(f:List D->Prop)(p:Prop)(_:Bx f:=())(_:Bx p:=()):Prop:=mLe_.v m f p
noncomputable def mSet_:Wr ((Option MO)->(List D->Prop)->(List (aC×D)->Prop)->(List (List aC×D)->Prop)->Prop):=#[λm f g h=>match m with
 |some (.lst a)=>f a
 |some (.dK a)=>g a
 |some (.dT a)=>h a
 |_=>False]
abbrev mSet(m:Option MO)(f:List D->Prop)(g:List (aC×D)->Prop)(h:List (List aC×D)->Prop)(_:Bx f:=())(_:Bx g:=())(_:Bx h:=()):Prop:=mSet_.v m f g h
section
variable{p:Prop}
theorem y9:so (ap x) f b=f x:=rfl
theorem Ll:s2 (ap<|some x) f b=f x:=rfl
theorem s2e_s:s2e (ap<|some x) f p b bp=f x:=rfl
theorem Jm:oe (ap x) f p b bp=f x:=rfl
theorem P3:oe bb f p b bp=p:=rfl
theorem t_:one [x] f b=f x:=rfl
theorem two_2:two [y,z] f2 b2=f2 y z:=rfl
theorem nil_0:nil0 (α:=α) [] p bp=p:=rfl
theorem cns_c:cns (x::xs) fl bl=fl x xs:=rfl
theorem no_0:nilOr [] p f bp b=p:=rfl
theorem no_1:nilOr [x] p f bp b=f x:=rfl
theorem s2e.inv(h:s2e u f p b bp):(∃a,u=ap (ap a)/\f a)\/p:=by rcases u with _|_|a;exact .inr h;exact .inr h;exact .inl #[a,rfl,h]
theorem so.inv(h:so o f b):∃a,o=ap a/\f a:=by cases o with|none=>exact h.elim|some a=>exact#[a,rfl,h]
theorem s2.inv(h:s2 u f b):∃a,u=ap (ap a)/\f a:=by rcases u with _|_|a;exact h.elim;exact h.elim;exact#[a,rfl,h]
theorem oe.inv(h:oe o f p b bp):(∃a,o=ap a/\f a)\/o=bb/\p:=by cases o with|none=>exact .inr #[rfl,h]|some a=>exact .inl #[a,rfl,h]
theorem one.inv(h:one ds f b):∃a,ds=[a]/\f a:=by rcases ds with _|⟨a,_|_⟩;exact h.elim;exact#[a,rfl,h];trivial
theorem two.inv(h:two ds f2 b2):∃a c,ds=[a,c]/\f2 a c:=by rcases ds with _|⟨a,_|⟨c,_|_⟩⟩;exact h.elim;exact h.elim;exact#[a,c,rfl,h];trivial
theorem nil0.inv(h:nil0 ds p bp):ds=[]/\p:=by cases ds with|nil=>exact#[rfl,h]|cons=>trivial
theorem cns.inv(h:cns ds fl bl):∃a r,ds=a::r/\fl a r:=by cases ds with|nil=>exact h.elim|cons a r=>exact#[a,r,rfl,h]
theorem nilOr.inv(h:nilOr ds p f bp b):ds=[]/\p\/∃a,ds=[a]/\f a:=by rcases ds with _|⟨a,_|_⟩;exact .inl #[rfl,h];exact .inr #[a,rfl,h];trivial
end
section
variable{p:Prop}
theorem C8:onR (.ref a) fA bA=fA a:=rfl
theorem GS:onI (.int i) fI bI=fI i:=rfl
theorem uz:onB (.bl k) fB bB=fB k:=rfl
theorem onS_s:onS (.str s) fS bS=fS s:=rfl
theorem onTy_t:onTy (.ty t) fY bY=fY t:=rfl
theorem onT_t:onT (.tup l) fL bL=fL l:=rfl
theorem onF_f:onF (.fd ks l) fF bF=fF ks l:=rfl
theorem T6:onN .non p bp=p:=rfl
theorem onBB_t:QL (.bl true) p q bp bq=p:=rfl
theorem onBB_f:QL (.bl cp) p q bp bq=q:=rfl
theorem onIST_i:onIST (.int i) fI fS fL p bI bS bL bp=fI i:=rfl
theorem onIST_s:onIST (.str s) fI fS fL p bI bS bL bp=fS s:=rfl
theorem onIST_t:onIST (.tup l) fI fS fL p bI bS bL bp=fL l:=rfl
theorem onIST_r:onIST (.ref a) fI fS fL p bI bS bL bp=p:=rfl
theorem onIST_l:onIST (.lst l) fI fS fL p bI bS bL bp=p:=rfl
theorem onSR_s:onSR (.str s) fS fA bS bA=fS s:=rfl
theorem onSR_r:onSR (.ref a) fS fA bS bA=fA a:=rfl
theorem onLR_l:Pu (.lst l) fL fA bL bA=fL l:=rfl
theorem onLR_r:Pu (.ref a) fL fA bL bA=fA a:=rfl
theorem onTM_t:onTM (.tup l) fL gL p bL cL bp=fL l:=rfl
theorem onTM_m:onTM (.ml l) fL gL p bL cL bp=gL l:=rfl
theorem onTM_r:onTM (.ref a) fL gL p bL cL bp=p:=rfl
theorem onTM_l:onTM (.lst l) fL gL p bL cL bp=p:=rfl
theorem onTe_t:onTe (.tup l) fL p bL bp=fL l:=rfl
theorem onTe_r:onTe (.ref a) fL p bL bp=p:=rfl
theorem onTe_l:onTe (.lst l) fL p bL bp=p:=rfl
theorem onRe_r:onRe (.ref a) fA p bA bp=fA a:=rfl
theorem onRe_n:onRe .non fA p bA bp=p:=rfl
theorem onRe_b:onRe (.bl k) fA p bA bp=p:=rfl
theorem onRe_i:onRe (.int i) fA p bA bp=p:=rfl
theorem onRe_s:onRe (.str s) fA p bA bp=p:=rfl
theorem onRe_t:onRe (.tup l) fA p bA bp=p:=rfl
theorem onRe_l:onRe (.lst l) fA p bA bp=p:=rfl
theorem onRe_f:onRe (.fd ks l) fA p bA bp=p:=rfl
theorem onRe_m:onRe (.mt l) fA p bA bp=p:=rfl
theorem onRe_ml:onRe (.ml l) fA p bA bp=p:=rfl
theorem onR.inv(h:onR d fA bA):∃a,d=.ref a/\fA a:=by cases d<;>first|exact#[_,rfl,h]|exact h.elim
theorem onI.inv(h:onI d fI bI):∃a,d=.int a/\fI a:=by cases d<;>first|exact#[_,rfl,h]|exact h.elim
theorem onS.inv(h:onS d fS bS):∃a,d=.str a/\fS a:=by cases d<;>first|exact#[_,rfl,h]|exact h.elim
theorem onTy.inv(h:onTy d fY bY):∃a,d=.ty a/\fY a:=by cases d<;>first|exact#[_,rfl,h]|exact h.elim
theorem onT.inv(h:onT d fL bL):∃a,d=.tup a/\fL a:=by cases d<;>first|exact#[_,rfl,h]|exact h.elim
theorem onF.inv(h:onF d fF bF):∃a b,d=.fd a b/\fF a b:=by cases d<;>first|exact#[_,_,rfl,h]|exact h.elim
theorem onRe.inv(h:onRe d fA p bA bp):(∃a,d=.ref a/\fA a)\/p:=by cases d<;>first|exact .inl #[_,rfl,h]|exact .inr h
theorem onTe.inv(h:onTe d fL p bL bp):(∃a,d=.tup a/\fL a)\/p:=by cases d<;>first|exact .inl #[_,rfl,h]|exact .inr h
theorem onTM.inv(h:onTM d fL gL p bL cL bp):(∃a,d=.tup a/\fL a)\/(∃a,d=.ml a/\gL a)\/p:=by cases d<;>first|exact .inl #[_,rfl,h]|exact .inr (.inl #[_,rfl,h])|exact .inr (.inr h)
theorem onIST.inv(h:onIST d fI fS fL p bI bS bL bp):(∃a,d=.int a/\fI a)\/(∃a,d=.str a/\fS a)\/(∃a,d=.tup a/\fL a)\/p:=by cases d<;>first|exact .inl #[_,rfl,h]|exact .inr (.inl #[_,rfl,h])|exact .inr (.inr<|.inl #[_,rfl,h])|exact .inr (.inr<|.inr h)
theorem onSR.inv(h:onSR d fS fA bS bA):(∃a,d=.str a/\fS a)\/∃a,d=.ref a/\fA a:=by cases d<;>first|exact .inl #[_,rfl,h]|exact .inr #[_,rfl,h]|exact h.elim
theorem onN.inv(h:onN d p bp):d=.non/\p:=by cases d<;>first|exact#[rfl,h]|exact h.elim
end
section
variable{p:Prop}
theorem mL_l:mL (ap<|.lst l) fL bL=fL l:=rfl
theorem mK_k:mK (ap<|.dK aaN) gK bK=gK aaN:=rfl
theorem mT_t:mT (ap<|.dT tvs) hT bT=hT tvs:=rfl
theorem mN_n:mN (ap<|.ins a fs) fN bN=fN a fs:=rfl
theorem mLe_l:mLe (ap<|.lst l) fL p bL bp=fL l:=rfl
theorem mLe_k:mLe (ap<|.dK aaN) fL p bL bp=p:=rfl
theorem mLe_t:mLe (ap<|.dT tvs) fL p bL bp=p:=rfl
theorem mLe_n:mLe (ap<|.ins a fs) fL p bL bp=p:=rfl
theorem mLe_0:mLe bb fL p bL bp=p:=rfl
theorem mSet_l:mSet (ap<|.lst l) fL gK hT bL bK bT=fL l:=rfl
theorem mSet_k:mSet (ap<|.dK aaN) fL gK hT bL bK bT=gK aaN:=rfl
theorem mSet_t:mSet (ap<|.dT tvs) fL gK hT bL bK bT=hT tvs:=rfl
theorem mL.inv(h:mL m fL bL):∃a,m=ap (.lst a)/\fL a:=by rcases m with _|⟨_⟩|_|_|_<;>first|exact#[_,rfl,h]|trivial
theorem mK.inv(h:mK m gK bK):∃a,m=ap (.dK a)/\gK a:=by rcases m with _|⟨_⟩|_|_|_<;>first|exact#[_,rfl,h]|trivial
theorem mT.inv(h:mT m hT bT):∃a,m=ap (.dT a)/\hT a:=by rcases m with _|⟨_⟩|_|_|_<;>first|exact#[_,rfl,h]|trivial
theorem mLe.inv(h:mLe m fL p bL bp):(∃a,m=ap (.lst a)/\fL a)\/p:=by rcases m with _|⟨_⟩|_|_|_<;>first|exact .inl #[_,rfl,h]|exact .inr h
theorem mSet.inv(h:mSet m fL gK hT bL bK bT):(∃a,m=ap (.lst a)/\fL a)\/(∃a,m=ap (.dK a)/\gK a)\/∃a,m=ap (.dT a)/\hT a:=by rcases m with _|⟨_⟩|_|_|_<;>first|exact .inl #[_,rfl,h]|exact .inr (.inl #[_,rfl,h])|exact .inr (.inr #[_,rfl,h])|trivial
theorem mN.inv(h:mN m fN bN):∃a b,m=ap (.ins a b)/\fN a b:=by rcases m with _|⟨_⟩|_|_|_<;>first|exact#[_,_,rfl,h]|trivial
end
end
def Rkv{κ:Type}(K:Ug)(H:Hp):List (κ×D)->List (κ×V)->Prop:=V_ λp q=>p.1=q.1/\Rp K H p.2 q.2
def RepO(K:Ug)(H:Hp)(a:cb):MO->Prop
 |.lst xs=>∃vs,H a=ap (.lst vs)/\Rps K H xs vs
 |.dK aaN=>∃ws,H a=ap (.dK ws)/\Rkv K H aaN ws
 |.dT aaN=>∃ws,H a=ap (.dT ws)/\Rkv K H aaN ws
 |.ins C fs=>∃dx ws,H a=ap (.ins C dx ws)/\Rkv K H fs ws
def RepH(K:Ug)(H:Hp)(M:Mem):Prop:=∀a o,M a=ap o->RepO K H a o
section
variable{u:HO}
@[simp] theorem Mem.upd_same:(M.upd a o) a=ap o:=by simp[Mem.upd]
theorem ae(h:b≠a):(M.upd a o) b=M b:=by simp[Mem.upd,h]
@[simp] theorem Mem.upd_upd:(M.upd a o).upd a o'=M.upd a o':=by funext c;simp[Mem.upd];split<;>rfl
@[simp] theorem Mem.upd_del:(M.upd a o).del a=M.del a:=by funext c;simp[Mem.upd,Mem.del];split<;>rfl
theorem au(h:M a=bb):M.del a=M:=by
 funext c;simp[Mem.del];simp_all
theorem aA(h:a≠b):(M.upd a o).upd b f=(M.upd b f).upd a o:=by
 funext c;simp[Mem.upd];split
 .rename_i e;rw[e,if_neg (UN h)]
 rfl
theorem Mem.ne(h:M a=ap o)(h':M b=bb):a≠b:=by intro e;simp_all
theorem Rkv.mono(i:Imm H H')(h:Rkv K H aaN g):Rkv K H' aaN g:=gQ h λ_ _ z=>#[z.1,z.2.mono i]
theorem RepO.obj(r:RepO K H a o):∃u,H a=ap u:=by
 cases o with
 |ins C fs=>obtain⟨g,f,e,_⟩:=r;exact#[_,e]
 |_=>obtain⟨f,e,_⟩:=r;exact#[_,e]
theorem RepO.keep(r:RepO K H a o)(i:Imm H H')(e:H' a=H a):RepO K H' a o:=by
 cases o with
 |ins C fs=>obtain⟨g,f,q,z⟩:=r;exact#[g,f,e.trans q,z.mono i]
 |_=>obtain⟨f,q,z⟩:=r;exact#[f,e.trans q,z.mono i]
theorem RepH.fresh(r:RepH K H M)(h:H a=bb):M a=none:=by
 cases e:M a with
 |none=>rfl
 |some o=>obtain⟨u,q⟩:=(r a o e).obj;simp_all
def ut:Option HO->Prop
 |some (.tup _)=>False
 |some (.frz _ _)=>False
 |_=>True
theorem Imm.upd(h:ut (H a)):Imm H (upd H a u):=by
 refine#[λp f e=>?_,λp o v e=>?_]
 .rw[aw];exact e
  rintro rfl;rw[e]at h;exact h
 rw[aw];exact e
 rintro rfl;rw[e]at h;exact h
theorem Imm.new(h:H a=bb):Imm H (_2.upd H a u):=Imm.upd (by rw[h];trivial)
theorem RepO.loose(r:RepO K H a o):ut (H a):=by
 cases o with
 |ins C fs=>obtain⟨g,f,e,_⟩:=r;rw[e];trivial
 |_=>obtain⟨f,e,_⟩:=r;rw[e];trivial
theorem RepH.new(r:RepH K H M)(h:H a=bb):RepH K (_2.upd H a u) M:=λb o e=>by
 obtain⟨v,q⟩:=(r b o e).obj;exact(r b o e).keep (Imm.new h) (aw<|aX q h)
theorem RepH.put(r:RepH K H M)(h:ut (H a))(n:RepO K (_2.upd H a u) a o):RepH K (_2.upd H a u) (M.upd a o):=λb p e=>by
 by_cases f:b=a
 .subst f;rw[Mem.upd_same]at e;cases e;exact n
 .rw[ae f]at e
  exact(r b p e).keep (Imm.upd h) (aw f)
theorem RepH.keep(r:RepH K H M)(i:Imm H H')(e:∀b o,M b=ap o->H' b=H b):RepH K H' M:=λb o q=>(r b o q).keep i (e b o q)
structure Frm(M:Mem)(H:Hp)(M':Mem)(H':Hp):Prop where
 keep:∀b u,H b=ap u->M b=bb->H' b=ap u/\M' b=bb
theorem Frm.refl:Frm M H M H:=#[by lia]
theorem Frm.trans{M1 M2:Mem}(x:Frm M H M1 H1)(y:Frm M1 H1 M2 H2):Frm M H M2 H2:=#[λb u e n=>let ⟨e1,n1⟩:=x.keep b u e n;y.keep b u e1 n1]
theorem Frm.imm(f:Frm M H M' H')(r:RepH K H M):Imm H H':=by
 have g:∀b u,H b=ap u->¬ut (ap u)->H' b=ap u:=λb u e n=>(f.keep b u e (by
  cases q:M b with
  |none=>rfl
  |some o=>exact absurd (by rw[<- e];exact(r b o q).loose) n)).1
 exact#[λp h e=>g p _ e (λz=>z),λp o u e=>g p _ e (λz=>z)]
theorem Frm.new(h:H a=bb):Frm M H M (_2.upd H a u):=#[λb v e n=>#[by rw[aw (by lia)];exact e,n]]
theorem Frm.put(h:H a=bb\/∃o,M a=ap o):Frm M H (M.upd a o) (_2.upd H a u):=#[λb v e n=>by
 have f:b≠a:=by
  rintro rfl
  simp_all
 exact#[by rw[_2.aw f];exact e,by rw[ae f];exact n]]
theorem Frm.del(h:∃o,M a=ap o):Frm M H (M.del a) (_2.upd H a u):=#[λb v e n=>by
 have f:b≠a:=by
  rintro rfl
  simp_all
 refine#[by rw[_2.aw f];exact e,?_]
 unfold Mem.del
 simp_all]
theorem Rp.mf(x:Rp K H d v)(r:RepH K H M)(f:Frm M H M' H'):Rp K H' d v:=x.mono (f.imm r)
theorem Rps.mf(x:Rps K H d v)(r:RepH K H M)(f:Frm M H M' H'):Rps K H' d v:=x.mono (f.imm r)
end
abbrev Dl:=List (Option D)
abbrev DK:=D->Mem->Prop
abbrev ba:=Dl->Mem->DK->Prop
abbrev eW:=Dl->Mem->(Bool->Mem->Prop)->Prop
abbrev eA:=Dl->Mem->(List D->Mem->Prop)->Prop
structure RepS(K:Ug)(H:Hp)(U:Dl)(Z:St):Prop where
 len:U.length=Z.length
 get:∀(i:Nat)(d:D),U[i]?=ap (ap d)->∃v,Z[i]?=ap (ap v)/\Rp K H d v
theorem RepS.mono(r:RepS K H U Z)(i:Imm H H'):RepS K H' U Z:=
 #[r.len,λj d e=>by obtain⟨v,f,b⟩:=r.get j d e;exact#[v,f,b.mono i]]
theorem RepS.set(r:RepS K H U Z)(h:Rp K H d v):RepS K H (U.set i<|some d) (Z.set i<|some v):=by
 refine#[by simp[r.len],λj e q=>?_]
 rw[Xx]at q ⊢
 by_cases b:i=j
 .rw[if_pos b]at q ⊢
  by_cases f:i<U.length
  .rw[if_pos (by rw[<- r.len];assumption)]
   simp_all
  simp_all
 rw[if_neg b]at q ⊢;exact r.get j e q
structure Bd where
 p:Mem->Hp->Prop
 go:∀{M M':Mem}{H H':Hp},p M H->Frm M H M' H'->p M' H'
noncomputable def Bd.of(M:Mem)(H:Hp):Bd:=#[λM' H'=>Frm M H M' H',λa b=>a.trans b]
structure SR(X:Cx)(B:Bd)(U:Dl)(M:Mem)(Z:St)(H:Hp):Prop where
 i0:B.p M H
 rh:RepH X.K H M
 rs:RepS X.K H U Z
theorem SR.go(s:SR X B U M Z H)(rh:RepH X.K H' M')(i:Frm M H M' H'):SR X B U M' Z H':=#[B.go s.i0 i,rh,s.rs.mono<|i.imm s.rh]
def Up(K:Ug)(M:Mem)(H:Hp)(QQ:DK)(Q:VK):Prop:=∀d M',QQ d M'->∀v H',RepH K H' M'->Frm M H M' H'->Rp K H' d v->Q v H'
def UpT(K:Ug)(M:Mem)(H:Hp)(QQ:Bool->Mem->Prop)(Q:Bool->Hp->Prop):Prop:=∀b M',QQ b M'->∀H',RepH K H' M'->Frm M H M' H'->Q b H'
def UpA(K:Ug)(M:Mem)(H:Hp)(QQ:List D->Mem->Prop)(Q:List V->Hp->Prop):Prop:=∀ds M',QQ ds M'->∀vs H',RepH K H' M'->Frm M H M' H'->Rps K H' ds vs->Q vs H'
theorem Up.go{M1:Mem}(u:Up K M H QQ Q)(i:Frm M H M1 H1):Up K M1 H1 QQ Q:=λd M' q v H' a b=>u d M' q v H' a (i.trans b)
theorem UpT.go{M1:Mem}(u:UpT K M H QQ Q)(i:Frm M H M1 H1):UpT K M1 H1 QQ Q:=λd M' q H' a b=>u d M' q H' a (i.trans b)
inductive liftE(X:Cx)(B:Bd)(T:ba)(Z:St)(H:Hp)(Q:VK):Prop
 |mk (U:Dl) (M:Mem) (QQ:DK) (s:SR X B U M Z H) (h:T U M QQ) (u:Up X.K M H QQ Q):liftE X B T Z H Q
inductive liftT(X:Cx)(B:Bd)(T:eW)(Z:St)(H:Hp)(Q:Bool->Hp->Prop):Prop
 |mk (U:Dl) (M:Mem) (QQ:Bool->Mem->Prop) (s:SR X B U M Z H) (h:T U M QQ) (u:UpT X.K M H QQ Q):liftT X B T Z H Q
inductive liftA(X:Cx)(B:Bd)(T:eA)(Z:St)(H:Hp)(Q:List V->Hp->Prop):Prop
 |mk (U:Dl) (M:Mem) (QQ:List D->Mem->Prop) (s:SR X B U M Z H) (h:T U M QQ) (u:UpA X.K M H QQ Q):liftA X B T Z H Q
def DE(X:Cx)(B:Bd)(e:eX)(T:ba):Prop:=PE X e (liftE X B T)
def DT(X:Cx)(B:Bd)(e:eX)(T:eW):Prop:=PT X e (liftT X B T)
def DA(X:Cx)(B:Bd)(es:aaY)(T:eA):Prop:=PA X es (liftA X B T)
theorem aS(h:PE X e t)(w:∀Z H Q,t' Z H Q->t Z H Q):PE X e t':=λb s Z H Q I q=>h _ s Z H Q I (w Z H Q q)
theorem rV(h:PT X e t)(w:∀Z H Q,t' Z H Q->t Z H Q):PT X e t':=λb s Z H Q I q=>h _ s Z H Q I (w Z H Q q)
theorem zX{e:aaY}(h:PA X e t)(w:∀Z H Q,t' Z H Q->t Z H Q):PA X e t':=λpos b s Z H Q I q=>h _ _ s Z H Q I (w Z H Q q)
theorem ce{e:ol}(h:PS X e t)(w:∀D Z H,t' D Z H->t D Z H):PS X e t':=λb s Z H D I q=>h _ s Z H D I (w D Z H q)
theorem nX{e:aaZ}(h:C1 X e t)(w:∀D Z H,t' D Z H->t D Z H):C1 X e t':=λb s Z H D I q=>h _ s Z H D I (w D Z H q)
def ac(i:Nat):ba:=λU M Q=>s2 (U[i]?) λd=>Q d M
def dC(d:D):ba:=λ_ M Q=>Q d M
section
variable{a:eX}
theorem OY(l:X.N[i]?=ap x)(j:QU X.env.scope x)(m:(x==("__debug__":Str))=false:=by decide)(hcd:(x==("__classdict__":Str))=false:=by decide):DE X B (.Name x pos) (ac i):=by
 refine aS (PP l j m hcd) ?_
 rintro Z H Q ⟨U,M,QQ,s,h,u⟩
 unfold ac at h;obtain⟨d,e,h⟩:=h.inv;obtain⟨v,g,f⟩:=s.rs.get i d e;exact#[v,g,u d M h v H s.rh Frm.refl f]
theorem HZ(h:PE X e (tC v))(r:∀H,Rp X.K H d v):DE X B e (dC d):=by
 refine aS h ?_
 rintro Z H Q ⟨U,M,QQ,s,h,u⟩
 exact u d M h v H s.rh Frm.refl (r H)
theorem QR{i j pos}:DE X B (.Constant (.int i) j pos) (dC<|.int i):=HZ OC λ_=>rfl
theorem RY{i j pos}:DE X B (.Constant (.bool i) j pos) (dC<|.bl i):=HZ RI λ_=>rfl
theorem Ov{j pos}:DE X B (.Constant .none j pos) (dC .non):=HZ Qe λ_=>rfl
theorem QG{i j pos}:DE X B (.Constant (.str i) j pos) (dC<|.str i):=HZ HR λ_=>rfl
abbrev g8:=D->D->Mem->DK->Prop
inductive liftR2(X:Cx)(r:g8)(x y:V)(H:Hp)(Q:VK):Prop
 |mk (d1 d2:D) (M:Mem) (QQ:DK) (rh:RepH X.K H M) (r1:Rp X.K H d1 x) (r2:Rp X.K H d2 y) (h:r d1 d2 M QQ) (u:Up X.K M H QQ Q):liftR2 X r x y H Q
def ah(r:g8)(ta tb:ba):ba:=λU M Q=>ta U M λx M1=>tb U M1 λy M2=>r x y M2 Q
theorem lg(h:liftE X B (ah r ta tb) Z H Q):Te (liftR2 X r) (liftE X B ta) (liftE X B tb) Z H Q:=by
 obtain⟨U,M,QQ,s,h,u⟩:=h;exact#[U,M,_,s,h,λx M1 j v1 H1 f i1 l=>#[U,M1,_,s.go f i1,j,λy M2 m v2 H2 g i2 i=>#[x,y,M2,QQ,g,l.mf f i2,i,m,u.go<|i1.trans i2]]]
theorem gn(j:cM X (hG f) (liftR2 X r))(i:DE X B a ta)(g:DE X B b tb):DE X B (.BinOp a f b pos) (ah r ta tb):=aS (Tj j i g) λ_ _ _ h=>lg h
theorem EL(l:cM X (hW f) (liftR2 X r))(i:DE X B a ta)(j:DE X B b tb)(g:Y_ f b=cp):DE X B (.Compare a [f] [b] pos) (ah r ta tb):=aS (Kz l i j g) λ_ _ _ h=>lg h
theorem Ng(i:IxR X (liftR2 X r))(g:DE X B a ta)(f:DE X B b tb)(j:An b):DE X B (.Subscript a b pos) (ah r ta tb):=aS (T3 i g f j) λ_ _ _ h=>lg h
def al(t:ba):eW:=λU M Q=>t U M λd M'=>onB d λk=>Q k M'
theorem dR(w:cM X (hW f) (liftR2 X r))(n:DE X B a ta)(o:DE X B b tb)(m:Y_ f b=cp):DT X B (.Compare a [f] [b] pos) (al<|ah r ta tb):=by
 refine rV (Kj w n o m) ?_
 rintro Z H Q ⟨U,M,QQ,s,h,u⟩
 have j:liftE X B (ah r ta tb) Z H (λx H'=>∃k,x=.bl k/\Q k H'):=by
  refine#[U,M,_,s,h,λd M' q v H' g i l=>?_];cases d with
  |bl k=>exact#[k,l,u k M' q H' g i]
  |_=>exact q.elim
 exact lg j
def DM(M:Mem):D->Option Bool
 |.non=>ap cp
 |.bl b=>ap b
 |.int i=>ap (i != 0)
 |.str y=>if y.length<=sizeLine then ap ((y.length:Int) != 0) else bb
 |.tup xs=>ap (!xs.isEmpty)
 |.lst xs=>ap (!xs.isEmpty)
 |.ref a=>match M a with
  |some (.lst xs)=>ap (!xs.isEmpty)
  |some (.dK xs)=>ap (!xs.isEmpty)
  |_=>bb
 |_=>bb
def cq(t:ba):eW:=λU M Q=>t U M λd M'=>so (DM M' d) λk=>Q k M'
theorem gp(r:Rps K H ds vs):vs.isEmpty=ds.isEmpty:=by
 have:=r.length;cases ds<;>cases vs<;>simp_all
theorem Nt(l:RepH K H M)(r:Rp K H d v)(e:DM M d=ap k):O3 K v H k:=by
 cases d with
 |non=>cases r;cases e;rfl
 |bl b=>cases r;cases e;rfl
 |int i=>cases r;cases e;rfl
 |str y=>
  cases r;simp only[DM]at e
  split at e
  .cases e;trivial
  cases e
 |tup j=>
  obtain⟨p,f,rfl,t,r⟩:=r;cases e;exact .inr (.inl #[f,t.sq,by rw[gp r]])
 |lst j=>
  obtain⟨p,f,rfl,t,r⟩:=r;cases e;exact .inl #[f,t.sq,by rw[gp r]]
 |ref a=>
  cases r;simp[DM]at e
  split at e
  .rename_i j q
   obtain⟨f,h,g⟩:=l _ _ q;cases e;exact .inl #[f,SqL.of h,by rw[gp g]]
  .rename_i j q
   obtain⟨f,h,g⟩:=l _ _ q;cases e;refine .inr (.inr #[f,h,?_]);cases g<;>rfl
  cases e
 |_=>cases e
theorem QH(h:DE X B e ta)(l:∀f,isTrue e X.env f=(do let v <- f;L' e.pos;qb [v] (truthy v)):=by intro _;rfl):DT X B e (cq ta):=by
 refine rV (Gg h l) ?_
 rintro Z H Q ⟨U,M,QQ,s,h,u⟩
 refine#[U,M,_,s,h,λd M' q v H' g i j=>?_];obtain⟨k,e,q⟩:=q.inv;exact#[k,Nt g j e,u k M' q H' g i]
def fH(t:eW):eW:=λU M Q=>t U M λc M1=>Q (!c) M1
theorem Nv(g:DT X B a f):DT X B (.UnaryOp .Not a pos) (fH f):=by
 refine rV (Qz g) ?_
 rintro Z H Q ⟨U,M,QQ,s,h,u⟩
 exact#[U,M,_,s,h,λc=>u _]
end
section
variable{a:eX}
def DW(X:Cx)(B:Bd)(e:eX)(T:eW):Prop:=PW X e (liftT X B T)
theorem TX(h:DW X B e T):DT X B e T:=TY h
theorem zQ(h:PW X e t)(w:∀Z H Q,t' Z H Q->t Z H Q):PW X e t':=λg f s Z H Q I q=>h g _ s Z H Q I (w Z H Q q)
def kQ(t u:eW):eW:=λU M Q=>t U M λc M1=>if c=true then u U M1 Q else Q cp M1
def QN(t u:eW):eW:=λU M Q=>t U M λc M1=>if c=true then Q true M1 else u U M1 Q
theorem Kt(f:DT X B a tA):DW X B (.BoolOp .And [a] pos) tA:=Im f
theorem OP(f:DT X B a tA):DW X B (.BoolOp .Or [a] pos) tA:=OF f
theorem N_(j:DT X B a tA)(g:DW X B (.BoolOp .And (b::rest) pos) tB'):DW X B (.BoolOp .And (a::b::rest) pos) (kQ tA tB'):=by
 refine zQ (PM j g) ?_
 rintro Z H Q ⟨U,M,QQ,s,h,u⟩
 refine#[U,M,_,s,h,λc M' q H' f i=>?_];cases c with
 |true=>exact#[U,M',QQ,s.go f i,q,u.go i]
 |false=>exact u _ M' q H' f i
theorem Rk(j:DT X B a tA)(g:DW X B (.BoolOp .Or (b::rest) pos) tB'):DW X B (.BoolOp .Or (a::b::rest) pos) (QN tA tB'):=by
 refine zQ (Rh j g) ?_
 rintro Z H Q ⟨U,M,QQ,s,h,u⟩
 refine#[U,M,_,s,h,λc M' q H' f i=>?_];cases c with
 |false=>exact#[U,M',QQ,s.go f i,q,u.go i]
 |true=>exact u _ M' q H' f i
def uu(ta tb:ba):ba:=λU M Q=>ta U M λx M1=>QL x (tb U M1 Q) (Q (.bl cp) M1)
def Nj(ta:ba):ba:=λU M Q=>ta U M λx M1=>onB x λc=>Q (.bl<|!c) M1
theorem NT{op}(h:DE X B a t):DE X B (.BoolOp op [a] pos) t:=P1 h
theorem O7(j:DE X B a ta)(g:DE X B (.BoolOp .And (b::rest) pos) tb):DE X B (.BoolOp .And (a::b::rest) pos) (uu ta tb):=by
 refine aS (Nq j g) ?_
 rintro Z H Q ⟨U,M,QQ,s,h,u⟩
 refine#[U,M,_,s,h,λd M' q v H' f i r=>?_];cases d with
 |bl c=>
  cases c with
  |true=>exact#[_,r,by exact#[U,M',QQ,s.go f i,q,u.go i]]
  |false=>exact#[_,r,by exact u _ M' q _ H' f i rfl]
 |_=>exact q.elim
theorem Q5(g:DE X B a ta):DE X B (.UnaryOp .Not a pos) (Nj ta):=by
 refine aS (PQ g) ?_
 rintro Z H Q ⟨U,M,QQ,s,h,u⟩
 refine#[U,M,_,s,h,λd M' q v H' f i r=>?_];cases d with
 |bl c=>exact#[c,r,u _ M' q _ H' f i rfl]
 |_=>exact q.elim
def oi(t:eW)(ta tb:ba):ba:=λU M Q=>t U M λc M1=>if c=true then ta U M1 Q else tb U M1 Q
theorem EG(g:DT X B c tA)(j:DE X B a ta)(l:DE X B b tb):DE X B (.IfExp c a b pos) (oi tA ta tb):=by
 refine aS (Fa g j l) ?_
 rintro Z H Q ⟨U,M,QQ,s,h,u⟩
 refine#[U,M,_,s,h,λc M' q H' f i=>?_];cases c with
 |_=>exact#[U,M',QQ,s.go f i,q,u.go i]
def ag:eA:=λ_ M Q=>Q [] M
def aa(ta:ba)(tr:eA):eA:=λU M Q=>ta U M λx M1=>tr U M1 λf M2=>Q (x::f) M2
theorem QS:DA X B [] ag:=by
 refine zX FP ?_
 rintro Z H Q ⟨U,M,QQ,s,h,u⟩
 exact u [] M h [] H s.rh Frm.refl .nil
theorem IZ(o:DE X B e te)(n:DA X B es t)(q:eg (e::es) X.env=(cp,fv e X.env)::eg es X.env:=by rfl):DA X B (e::es) (aa te t):=by
 refine zX (zc o n q) ?_
 rintro Z H Q ⟨U,M,QQ,s,h,u⟩
 exact#[U,M,_,s,h,λx M1 j v1 H1 f i1 l=>#[U,M1,_,s.go f i1,j,λv M2 m v2 H2 g i2 i=>u _ M2 m _ H2 g (i1.trans i2) (.cons (l.mf f i2) i)]]
def aU(t:eA):ba:=λU M Q=>t U M λf M1=>f.length<=sizeLine/\Q (.tup f) M1
def bw(t:eA):ba:=λU M Q=>t U M λf M1=>f.length<=sizeLine/\∀p,M1 p=bb->Q (.ref p) (M1.upd p<|.lst f)
theorem No{x1}(h:DA X B es t):DE X B (.Tuple es x1 pos) (aU t):=by
 refine aS (PX h) ?_
 rintro Z H Q ⟨U,M,QQ,s,h,u⟩
 exact#[U,M,_,s,h,λl M1 i v1 H1 f i1 j=>#[by rw[<- j.length];exact i.1,λp g=>u _ M1 i.2 _ _ (f.new g) (i1.trans<|Frm.new g) #[p,v1,rfl,upd_same,j.mono<|Imm.new g]]]
theorem OQ(h:DA X B es t):DE X B (.List es pos) (bw t):=by
 refine aS (Ny h) ?_
 rintro Z H Q ⟨U,M,QQ,s,h,u⟩
 exact#[U,M,_,s,h,λxs M1 h1 v1 H1 rh1 i1 r1=>#[by rw[<- r1.length];exact h1.1,λp hp=>u _ _ (h1.2 p<|rh1.fresh hp) _ _ (rh1.put (by rw[hp];trivial) #[v1,upd_same,r1.mono<|Imm.new hp]) (i1.trans<|Frm.put<|.inl hp) rfl]]
theorem Inv.freeze(I:Inv X g Z H s)(h:H p=ap (.lst vs)):∃o,Inv X g Z (upd H p<|.frz o<|.lst vs) s:=by
 obtain⟨i,n,r,e,z⟩:=I.lst h;have ne:∀{b:cb}{u:Option HO},H b=u->u≠ap (.lst vs)->b≠p:=λ{b u} q w z=>by subst z;rw[h]at q;exact w q.symm
 refine#[{ cls:=.type "list",data:=.seq i.toArray n },I.ok,I.os,I.bare,#[I.base.keep,I.base.slot,λb o q E v=>?_,I.base.there,λb j q=>?_,λb o u q=>?_,λb C q=>?_],I.loc,I.cell,?_,λx c q=>?_,λF J=>?_,λb o q=>?_,I.len]
 .have f:=I.base.free b o q E v
  rw[aw (ne f<|by simp)];exact f
 .have f:=I.base.tups b j q
  rw[aw (ne f<|by simp)];exact f
 .have f:=I.base.frzs b o u q
  rw[aw (ne f<|by simp)];exact f
 .obtain⟨more,f⟩:=I.base.tbls b C q
  exact#[more,by rw[aw (ne f<|by simp)];exact f]
 .rw[aw (ne I.free<|by simp)];exact I.free
 .have f:=I.freeC x c q
  rw[aw (ne f<|by simp)];exact f
 .obtain⟨G,m,A⟩:=I.pin F J
  exact#[G,by rw[aw (ne m<|by simp)];exact m,A]
 .by_cases l:b=p
  .subst l
   rw[upd_same]at q;cases q;refine#[e,?_];exact#[z,i,n,r,e]
  .rw[aw l]at q
   refine (I.hok b o q).stay (λ_ _ _ y=>y) (λc y=>?_) λc j y=>?_
   .rw[aw (ne y<|by simp)];exact y
   .rw[aw (ne y<|by simp)];exact y
def frz(d:D)(M:Mem)(Q:DK):Prop:=onRe d (λa=>mLe (M a) (λf=>Q (.lst f) (M.del a)) (Q d M)) (Q d M)
def ao(t:ba):ba:=λU M Q=>t U M λd M'=>frz d M' Q
theorem RepH.freeze{vs:List V}{o:Obj}(r:RepH K H M)(h:H p=ap (.lst vs)):RepH K (upd H p<|.frz o<|.lst vs) (M.del p):=λb u e=>by
 unfold Mem.del at e
 split at e
 .cases e
 rename_i hb
 exact(r b u e).keep (Imm.upd<|by rw[h];trivial) (aw hb)
theorem NM(h:DE X B e te):DE X B e (ao te):=by
 rintro l s Z H Q I ⟨U,M,QQ,n,m,u⟩
 refine bu (h _ s Z H (λv H'=>∃d M',RepH _ H' M'/\Frm M H M' H'/\Rp _ H' d v/\frz d M' QQ) I #[U,M,_,n,m,λd M' q v H' f i r=>#[d,M',f,i,r,q]]) ?_
 rintro w A ⟨v,H',I',j,d,M',f,i,r,q⟩
 unfold frz at q;rcases q.inv with⟨a,rfl,q⟩|q
 .rcases q.inv with⟨z,e,q⟩|q
  .obtain⟨x,g,y⟩:=f _ _ e
   obtain⟨o,I2⟩:=Inv.freeze I' g;exact#[v,_,I2,j,u _ _ q v _ (f.freeze g) (i.trans<|Frm.del #[_,e]) #[a,x,r,#[o,upd_same],y.mono<|Imm.upd<|by rw[g];trivial]]
  exact#[v,H',I',j,u _ _ q v H' f i r]
 exact#[v,H',I',j,u _ _ q v H' f i r]
end
def cG(M:Mem):D->Option (List D)
 |.lst xs=>ap xs
 |.ref a=>match M a with
  |some (.lst xs)=>ap xs
  |_=>bb
 |_=>bb
def aQ(M:Mem):D->Option (List D)
 |.tup xs=>ap xs
 |.lst xs=>ap xs
 |.mt xs=>ap xs
 |.ml xs=>ap xs
 |.ref a=>match M a with
  |some (.lst xs)=>ap xs
  |_=>bb
 |_=>bb
theorem cY(i:RepH K H M)(r:Rp K H d v)(e:cG M d=ap xs):∃p vs,v=.ref p/\Rd H p (.lst vs)/\Rps K H xs vs:=by
 cases d with
 |lst b=>
  cases e;obtain⟨p,vs,rfl,⟨o,h⟩,r⟩:=r;exact#[p,vs,rfl,.inr #[o,h],r]
 |ref a=>
  simp[cG]at e
  split at e
  .rename_i b q
   cases e;obtain⟨vs,g,f⟩:=i _ _ q;exact#[a,vs,r,.inl g,f]
  cases e
 |_=>cases e
theorem jn(i:RepH K H M)(r:Rp K H d v)(e:aQ M d=ap xs):∃p vs,v=.ref p/\(SqL K H p vs\/ku K H p vs)/\Rps K H xs vs:=by
 cases d with
 |tup b=>
  cases e;obtain⟨p,vs,rfl,h,r⟩:=r;exact#[p,vs,rfl,.inr h.sq,r]
 |lst b=>
  cases e;obtain⟨p,vs,rfl,h,r⟩:=r;exact#[p,vs,rfl,.inl h.sq,r]
 |mt b=>
  cases e;obtain⟨p,vs,rfl,h,r⟩:=r;exact#[p,vs,rfl,.inr h.sq,r]
 |ml b=>
  cases e;obtain⟨p,vs,rfl,h,r⟩:=r;exact#[p,vs,rfl,.inl h.sq,r]
 |ref a=>
  simp[aQ]at e
  split at e
  .rename_i b q
   cases e;obtain⟨vs,g,f⟩:=i _ _ q;exact#[a,vs,r,.inl (SqL.of g),f]
  cases e
 |_=>cases e
theorem Jv:cM X (hG .Add) (λx y H Q=>∃l b xs zs,x=.ref l/\y=.ref b/\Rd H l (.lst xs)/\Rd H b (.lst zs)/\xs.length+zs.length<=sizeLine/\∀p,H p=bb->Q (.ref p) (upd H p<|.lst (xs++zs))):=by
 rintro i s Z H x y v u Q I j E ⟨l,b,xs,zs,rfl,rfl,w,A,G,q⟩
 cases j;cases E;obtain⟨z,g,n,r,e⟩:=w.ok I.hok;obtain⟨J,f,L,h,o⟩:=A.ok I.hok;have F:=r.length;have C:=h.length;refine PySem.P.add_list e o ?_ (by simp_all)
 have m:g.toArray++f.toArray=(g++f).toArray:=by simp
 rw[m];exact#[.ref _,_,I.lnew (r.append h) (by rw[UC];lia),rfl,q _ I.fresh]
def bc:g8:=λx y M Q=>onIST x (λi=>onI y λj=>Q (.int (i+j)) M) (λa=>onS y λb=>a.length+b.length<=sizeLine/\Q (.str (a++b)) M) (λxs=>onT y λf=>xs.length+f.length<=sizeLine/\Q (.tup (xs++f)) M) (so (cG M x) λxs=>so (cG M y) λf=>xs.length+f.length<=sizeLine/\∀p,M p=bb->Q (.ref p) (M.upd p<|.lst (xs++f)))
theorem IT:cM X (hG .Add) (liftR2 X bc):=by
 rintro aaL s Z H x y v u Q I rx ry ⟨d1,d2,M,QQ,rh,r1,r2,h,up⟩
 unfold bc at h
 replace h:=h.inv
 rcases h with⟨i,rfl,h⟩|⟨a,rfl,h⟩|⟨xs,rfl,h⟩|h
 .obtain⟨_,rfl,h⟩:=h.inv
  cases r1;cases r2;exact PL _ s Z H _ _ v u Q I rx ry #[_,_,rfl,rfl,up _ M h _ H rh Frm.refl rfl]
 .obtain⟨_,rfl,h⟩:=h.inv
  cases r1;cases r2;exact wX _ s Z H _ _ v u Q I rx ry #[_,_,rfl,rfl,h.1,up _ M h.2 _ H rh Frm.refl rfl]
 .obtain⟨_,rfl,h⟩:=h.inv
  obtain⟨p,vs,rfl,t1,r1⟩:=r1;obtain⟨p',vs',rfl,t2,r2⟩:=r2;have l1:=r1.length;have l2:=r2.length;have r12:=r1.append r2
  by_cases hx:vs=[]
  .subst hx
   exact Ie _ s Z H _ _ v u Q I rx ry #[p,p',_,rfl,rfl,t1.sq,t2.sq,(up _ M h.2 _ H rh Frm.refl #[p',_,rfl,t2,r12])]
  refine Jl _ s Z H _ _ v u Q I rx ry #[p,p',vs,_,rfl,rfl,t1.sq,t2.sq,hx,by lia,λe=>?_,λ_ q hq=>?_]
  .subst e
   rw[U0]at r12;exact up _ M h.2 _ H rh Frm.refl #[p,vs,rfl,t1,r12]
  exact up _ M h.2 _ _ (rh.new hq) (Frm.new hq) #[q,_,rfl,upd_same,r12.mono<|Imm.new hq]
 obtain⟨xs,e1,h⟩:=h.inv;obtain⟨ys,e2,h⟩:=h.inv;obtain⟨p,vs,rfl,t1,r1⟩:=cY rh r1 e1;obtain⟨p',vs',rfl,t2,r2⟩:=cY rh r2 e2;have l1:=r1.length;have l2:=r2.length;exact Jv _ s Z H _ _ v u Q I rx ry #[p,p',vs,_,rfl,rfl,t1,t2,by lia,λq hq=>up _ _ (h.2 q<|rh.fresh hq) _ _ (rh.put (by rw[hq];trivial) #[_,upd_same,(r1.append r2).mono<|Imm.new hq]) (Frm.put<|.inl hq) rfl]
def oI(C:Int->Int->Prop)(g:Int->Int->D):g8:=λx y M Q=>onI x λi=>onI y λj=>C i j/\Q (g i j) M
theorem G1(h:cM X f (rI C g))(e:∀i j K H,Rp K H (g' i j) (g i j)):cM X f (liftR2 X<|oI C g'):=by
 rintro l s Z H x y v u Q I m z ⟨A,E,M,QQ,n,q,o,b,w⟩
 unfold oI at b
 replace b:=b.inv;obtain⟨_,rfl,b⟩:=b
 replace b:=b.inv;obtain⟨_,rfl,b⟩:=b
 cases q;cases o;exact h _ s Z H _ _ v u Q I m z #[_,_,rfl,rfl,b.1,w _ M b.2 _ H n Frm.refl<|e _ _ _ _]
def lj(g:Int->Int->D):g8:=λx y M Q=>onI x λi=>onI y λj=>Q (g i j) M
theorem kE(h:cM X f (DJ g))(e:∀i j K H,Rp K H (g' i j) (g i j)):cM X f (liftR2 X<|lj g'):=by
 rintro l s Z H x y v u Q I m z ⟨A,C,M,QQ,n,q,o,b,w⟩
 unfold lj at b
 replace b:=b.inv;obtain⟨_,rfl,b⟩:=b
 replace b:=b.inv;obtain⟨_,rfl,b⟩:=b
 cases q;cases o;exact h _ s Z H _ _ v u Q I m z #[_,_,rfl,rfl,w _ M b _ H n Frm.refl<|e _ _ _ _]
abbrev ph:g8:=lj λi j=>.int (i-j)
theorem KL:cM X (hG .Sub) (liftR2 X ph):=kE NI λ_ _ _ _=>rfl
abbrev g7:g8:=oI (λ_ j=>0<j) λi j=>.int (i % j)
theorem Lg:cM X (hG .Mod) (liftR2 X g7):=G1 Qb λ_ _ _ _=>rfl
def LP(_ j:Int):Prop:=0<j/\j<2 ^ 200
theorem Fb:cM X (hG .FloorDiv) (rI LP λi j=>.int (i / j)):=by
 rintro f s Z H x y v u Q I g m ⟨i,j,rfl,rfl,l,q⟩
 obtain⟨o,n⟩:=l;have h:j.toNat=j:=by lia
 refine Fx ?_ (by lia) _ s Z H _ _ v u Q I g m #[i,j,rfl,rfl,h.symm,q]
 have b:j.toNat<2 ^ 200:=by
  simp_all
 have:=(Nat.log2_lt<|by lia).mpr b
 lia
abbrev vK:g8:=oI LP λi j=>.int (i / j)
theorem EJ:cM X (hG .FloorDiv) (liftR2 X vK):=G1 Fb λ_ _ _ _=>rfl
abbrev Q0:g8:=oI JE λi j=>.int (i ^ j.toNat)
theorem Kw:cM X (hG .Pow) (liftR2 X Q0):=G1 OH λ_ _ _ _=>rfl
abbrev Tt:g8:=lj λi j=>.int (Builtin.bitXor i j)
theorem Lf:cM X (hG .BitXor) (liftR2 X Tt):=kE Q7 λ_ _ _ _=>rfl
abbrev F5:g8:=lj λi j=>.int (VQ i j)
theorem JA:cM X (hG .BitAnd) (liftR2 X F5):=kE Pj λ_ _ _ _=>rfl
abbrev oOr:g8:=lj λi j=>.int (Xi i j)
theorem NH:cM X (hG .BitOr) (liftR2 X oOr):=kE Tl λ_ _ _ _=>rfl
abbrev Rf:g8:=oI JE λi j=>.int (i*2 ^ j.toNat)
theorem Jk:cM X (hG .LShift) (liftR2 X Rf):=G1 Op λ_ _ _ _=>rfl
abbrev Sh:g8:=oI (λ_ j=>0<=j) λi j=>.int (i / 2 ^ j.toNat)
theorem Jd:cM X (hG .RShift) (liftR2 X Sh):=G1 Qi λ_ _ _ _=>rfl
abbrev DL:g8:=lj λi j=>.bl (decide (i<j))
theorem NL:cM X (hW .Lt) (liftR2 X DL):=kE Sq λ_ _ _ _=>rfl
abbrev oLe:g8:=lj λi j=>.bl (decide (i<=j))
theorem QJ:cM X (hW .LtE) (liftR2 X oLe):=kE Rn λ_ _ _ _=>rfl
abbrev JN:g8:=lj λi j=>.bl (decide (j<i))
theorem OT:cM X (hW .Gt) (liftR2 X JN):=kE Sg λ_ _ _ _=>rfl
abbrev oGe:g8:=lj λi j=>.bl (decide (j<=i))
theorem NA:cM X (hW .GtE) (liftR2 X oGe):=kE TH λ_ _ _ _=>rfl
theorem Ho:∀(k:Nat)(aaO:Array Nat),(UG k (Tw [c])).foldl (·++·) aaO=aaO++V5 k c
 |0,aaO=>by simp
 |k+1,aaO=>by
  rw[VF,Vs,Ho k _];apply Array.ext';simp[VF]
theorem Fg:cM X (hG .Mult) (λx y H Q=>∃c k,x=.str #[(Tw [c])]/\y=.int k/\1<=k/\k<=1000/\Q (.str #[V5 k.toNat c]) H):=by
 intro i s Z H x y v u Q I j n h;obtain⟨c,k,rfl,rfl,w,z,q⟩:=h;obtain⟨t,rfl⟩:=j;obtain⟨o,rfl⟩:=n;have b:(#[(Tw [c])]:Str).length=1:=rfl;have m:sizeLine=16777216:=rfl;refine PySem.P.mul_str ?_ ?_ ?_ ?_
 .rw[decide_eq_false (by lia),decide_eq_false (by lia)];rfl
 .intro _ _ l
  rw[b]at l;have:(1:Int)<=(2 ^ 63-1) / k:=Int.le_ediv_of_mul_le (by lia) (by lia)
  lia
 .intro _ _
  rw[b];exact decide_eq_false (by lia)
 .rw[if_neg (by lia)]
  by_cases g:k=1
  .subst g
   exact#[.str #[(Tw [c])],H,I,#[_,rfl],q]
  .rw[if_neg (by simp[b,g])]
   have f:(UG k.toNat (Tw [c])).foldl (·++·) (Tw [])=V5 k.toNat c:=by rw[Ho];simp
   refine#[?_,.str _,H,I.tok _,#[_,rfl],by rw[f];exact q]
   show ((UG k.toNat (Tw [c])).foldl (·++·) (Tw [])).size<=sizeLine;rw[f];simp;lia
def jA:g8:=λx y M Q=>onI y λk=>onIST x (λi=>CMul i k/\Q (.int (i*k)) M) (λz=>one z.cps.toList λc=>1<=k/\k<=1000/\Q (.str #[V5 k.toNat c]) M) (λxs=>xs≠[]/\0<=k/\k<=1000/\xs.length<=1000/\Q (.tup (UG k.toNat xs).flatten) M) False
theorem Rps.rep(h:Rps K H ds vs):∀k:Nat,Rps K H (UG k ds).flatten (UG k vs).flatten
 |0=>rfl
 |k+1=>by
  exact h.append (Rps.rep h k)
theorem KE:cM X (hG .Mult) (liftR2 X jA):=by
 rintro E s Z H x y v u Q I m q ⟨J,S,M,QQ,g,f,w,h,j⟩
 unfold jA at h;obtain⟨k,rfl,h⟩:=h.inv;cases J with
 |int i=>
  cases f;cases w;exact Pr _ s Z H _ _ v u Q I m q #[_,_,rfl,rfl,h.1,j _ M h.2 _ H g Frm.refl rfl]
 |str z=>
   cases f;cases w
   replace h:one _ _:=h
   obtain⟨c,e,h⟩:=h.inv;have P:z=#[(Tw [c])]:=by
    obtain⟨⟨l⟩⟩:=z
    simp_all
   subst P;exact Fg _ s Z H _ _ v u Q I m q #[_,_,rfl,rfl,h.1,h.2.1,j _ M h.2.2 _ H g Frm.refl rfl]
 |tup xs=>
   obtain⟨p,C,rfl,t1,f⟩:=f;cases w;obtain⟨A,R,N,Y,F⟩:=h;have l1:=f.length;obtain⟨t,rfl⟩:=q;cases m;obtain⟨L,r,O,_⟩:=I.tuple t1.sq;have W:=r.length;refine C_ O (λz=>A ?_) R N (by lia) (λe=>?_) λe=>?_
   .simp_all
   .refine#[.ref p,H,I,rfl,j _ M F _ H g Frm.refl #[p,C,rfl,t1,?_]]
    simp_all
   have n:=I.hok.fresh (Uk _);have G:(UG k.toNat C).flatten.length<=sizeLine:=by
    rw[L0];have A:k.toNat*C.length<=1000*1000:=Nat.mul_le_mul (by lia) (by lia)
    exact Uu A (by decide)
   exact#[.ref _,_,I.laid (o:=.tup _) (λb T=>Ua _) (by lia) #[G,_,r.rep _,#[_,Uh _ rfl,by lia,rfl]],rfl,
    j _ M F _ _ (g.new n) (Frm.new n) #[_,_,rfl,upd_same,(f.rep _).mono<|Imm.new n]]
 |_=>exact h.elim
def kC:D->Bool
 |.non=>true
 |_=>cp
def kX:g8:=λx y M Q=>onN y (Q (.bl<|kC x) M)
def fk:g8:=λx y M Q=>onN y (Q (.bl<|!kC x) M)
theorem G5(r:Rp K H d v):decide (v=V.non)=kC d:=by
 cases d with
 |non=>cases r;rfl
 |tup xs=>obtain⟨p,b,rfl,_⟩:=r;rfl
 |lst xs=>obtain⟨p,b,rfl,_⟩:=r;rfl
 |mt xs=>obtain⟨p,b,rfl,_⟩:=r;rfl
 |ml xs=>obtain⟨p,b,rfl,_⟩:=r;rfl
 |fd ks xs=>obtain⟨p,b,rfl,_⟩:=r;rfl
 |_=>cases r;rfl
theorem AM:cM X (hW .Is) (liftR2 X kX):=by
 rintro b s Z H x y v u Q I f m ⟨n,o,M,QQ,g,j,i,h,l⟩
 unfold kX at h;obtain⟨rfl,h⟩:=h.inv;cases i;exact PN _ s Z H _ _ v u Q I f m #[rfl,by rw[G5 j];exact l _ M h _ H g Frm.refl rfl]
theorem El:cM X (hW .IsNot) (liftR2 X fk):=by
 rintro b s Z H x y v u Q I f m ⟨n,o,M,QQ,g,j,i,h,l⟩
 unfold fk at h;obtain⟨rfl,h⟩:=h.inv;cases i;refine KH _ s Z H _ _ v u Q I f m #[rfl,l _ M h _ H g Frm.refl ?_];show _=V.bl _;rw[G5 j]
section
variable{κ:Type}[DecidableEq κ]
noncomputable def cI(aaN:List (κ×D))(k:κ):Option D:=(aaN.find? λb=>decide (b.1=k)).map (·.2)
noncomputable def eh(aaN:List (κ×D))(k:κ)(v:D):List (κ×D):=
 if (aaN.any λb=>decide (b.1=k))=true then aaN.map (λb=>if b.1=k then (b.1,v) else b) else aaN++[(k,v)]
noncomputable def pR(aaN:List (κ×D))(k:κ):List (κ×D):=aaN.filter λb=>decide (b.1≠k)
theorem Rkv.val{aaN:List (κ×D)}{f:List (κ×V)}(h:Rkv K H aaN f)(k:κ):(cI aaN k=bb/\eB f k=bb)\/∃d v,cI aaN k=ap d/\eB f k=ap v/\Rp K H d v:=by
 induction h with
 |nil=>exact .inl #[rfl,rfl]
 |@cons p q ps qs r t ih=>
  obtain⟨g,d⟩:=p;obtain⟨i,v⟩:=q;obtain⟨e,r⟩:=r;dsimp only at e r;subst e
  by_cases b:g=k
  .exact .inr #[d,v,by simp[cI,b],by simp[eB,b],r]
  simpa [cI,eB,b] using ih
theorem Rkv.any{aaN:List (κ×D)}{b:List (κ×V)}(h:Rkv K H aaN b)(k:κ):(aaN.any λkv=>decide (kv.1=k))=(b.any λkv=>decide (kv.1=k)):=by
 induction h<;>simp_all
theorem Rkv.put{aaN:List (κ×D)}{f:List (κ×V)}(h:Rkv K H aaN f)(k:κ){d:D}{v:V}(r:Rp K H d v):Rkv K H (eh aaN k d) (fu f k v):=by
 unfold eh fu;rw[h.any k]
 split
 .rename_i q;clear q
  induction h with
  |nil=>exact .nil
  |@cons p q ps qs rr t ih=>
   obtain⟨i,m⟩:=p;obtain⟨l,j⟩:=q;obtain⟨e,g⟩:=rr;dsimp only at e g;subst e;rw[Ud,Ud];refine .cons ?_ ih
   by_cases b:i=k
   .rw[if_pos b,if_pos b];trivial
   rw[if_neg b,if_neg b];trivial
 rename_i q;clear q
 induction h with
 |nil=>exact .cons #[rfl,r] .nil
 |cons rr t ih=>exact .cons rr ih
theorem Rkv.drop{aaN:List (κ×D)}{b:List (κ×V)}(h:Rkv K H aaN b)(k:κ):Rkv K H (pR aaN k) (ir b k):=by
 unfold pR ir
 induction h with
 |nil=>exact .nil
 |@cons p q ps qs rr t ih=>
  obtain⟨g,j⟩:=p;obtain⟨l,m⟩:=q;obtain⟨e,f⟩:=rr;subst e
  by_cases i:g=k
  .simp_all
  simp only[UA,ne_eq,i];exact .cons #[rfl,f] ih
theorem Rkv.length{aaN:List (κ×D)}{b:List (κ×V)}(h:Rkv K H aaN b):aaN.length=b.length:=VC h
end
def cE:D->Option aC
 |.int i=>ap (.inl i)
 |.str x=>ap (.inr x)
 |_=>bb
def eV:List D->Option (List aC)
 |[]=>ap []
 |d::ds=>match cE d,eV ds with
  |some k,ap ks=>ap (k::ks)
  |_,_=>bb
def Dz:D->Option (List aC)
 |.tup xs=>eV xs
 |_=>bb
theorem gS(r:Rp K H d v)(e:cE d=ap k):v=kV k:=by
 cases d with
 |int i=>cases e;exact r
 |str x=>cases e;exact r
 |_=>cases e
theorem o8:∀{ds:List D}{vs:List V}{ks:List aC},Rps K H ds vs->eV ds=ap ks->vs=ks.map kV
 |[],vs,ks,r,e=>by cases e;exact r
 |d::ds,vs,ks,r,e=>by
  obtain⟨v,i,rfl,a,b⟩:=r;simp[eV]at e
  split at e
  .rename_i k g h f
   cases e;rw[gS a h,o8 b f];rfl
  cases e
def vb(M:Mem)(a:cb)(y:D):Option (Option D):=match M a with
 |some (.dK aaN)=>match cE y with
  |some k=>ap (cI aaN k)
  |none=>bb
 |some (.dT aaN)=>match Dz y with
  |some k=>ap (cI aaN k)
  |none=>bb
 |_=>bb
theorem oM(r:Rp K H d v)(e:Dz d=ap ks):∃b,v=.ref b/\H b=ap (.tup<|ks.map kV):=by
 cases d with
 |tup xs=>
  obtain⟨p,f,rfl,t,r⟩:=r;exact#[p,rfl,by rw[<- o8 r e];exact t]
 |_=>cases e
theorem rb(q:RepH K H M)(r:Rp K H y v)(e:vb M a y=ap o):
  (o=bb/\DGet H a v bb)\/∃d w,o=ap d/\DGet H a v (ap w)/\Rp K H d w:=by
 unfold vb at e
 split at e
 .rename_i i j
  obtain⟨u,h,m⟩:=q _ _ j
  split at e
  .rename_i k l
   cases e;have s:=gS r l;subst s;rcases m.val k with⟨g,f⟩|⟨d,w,g,f,r'⟩
   .exact .inl #[g,by rw[<- f];exact DGet.k h]
   exact .inr #[d,w,g,by rw[<- f];exact DGet.k h,r']
  cases e
 .rename_i i j
  obtain⟨u,h,m⟩:=q _ _ j
  split at e
  .rename_i k l
   cases e;obtain⟨b,rfl,n⟩:=oM r l;rcases m.val k with⟨g,f⟩|⟨d,w,g,f,r'⟩
   .exact .inl #[g,by rw[<- f];exact DGet.t h n]
   exact .inr #[d,w,g,by rw[<- f];exact DGet.t h n,r']
  cases e
 cases e
end _3
namespace HT
open PySem PyProof.Rows
theorem ig(e:IsTup s.heap t a)(l:s.heap.IsSliceOf n m j .none)(pl:W1 m b)(q:W1 j f)
  (r:sIx a.size 0 b=0/\sIx a.size a.size f=a.size) (h:Q (.ref t) s):ez (eC prog w) A (W_ (.ref t)<|.ref n) Q E s:=by
 obtain⟨o,g,i,p⟩:=id l;unfold W_
 try with_reducible refine kc ?_
 refine ax (wpAny_sequenceKey e.typeIs (by decide) ?_)
 refine ax (wpAny_callSpecial?_slot e.typeIs U4
  (kL U4 e.typeIs entry_tuple_getitem ?_<|args_tuple_getitem _ _))
 show ez _ _ (Xp _ >>= _) _ _ s;refine ax (tupleItemsOf_ e ?_);refine ax (Z1 #[o,g,i] ?_);refine ax (eZ l pl q ?_);have c:((((sIx a.size 0 b):Int)==0&&(1:Int)==1&&(sIx a.size a.size f-sIx a.size 0 b)==a.size)=true):=by
  simp_all
 show ez _ _ (if (((sIx _ 0 b:Nat):Int)==0&&1==1&&(sIx _ _ f-sIx _ 0 b)==a.size)=true then _ else _) _ _ s
 rw[if_pos c];refine ax (ax<|wpAny_typeOf e.typeIs<|wpAny_pure ?_)
 first
  |exact ax _
  |exact ax (F'<|wpAny_pure #[_,rfl,cx h])
  |rfl
  |trace_state
end HT
namespace _3
open PySem _2
variable{p p':cb}{a b:aa3}{X:Cx}{c e:eX}{H:Hp}{Z:_2.St}{es:aaY}{aaR its':aaW}{i n:Nat}{s:ca}{x:Str}{K:Ug}{u:ay}{g:k4}{r:oU}
def fE{α:Type}(xs:List α):Int->Option α
 |.ofNat k=>xs[k]?
 |.negSucc k=>_2.atI xs (.negSucc k)
theorem HC:∀{i:Int},fE xs i=_2.atI xs i
 |.negSucc _=>rfl
 |.ofNat k=>by
  unfold _2.atI wQ;rw[if_pos (by lia)]
  by_cases f:k<xs.length
  .rw[if_pos (by simp_all)];rfl
  rw[if_neg (by simp_all)];exact Vj (by lia)
def av:g8:=λx y M Q=>oe (aQ M x) (λf=>onI y λi=>so (fE f i) λd=>Q d M) (onSR x (λz=>onI y λi=>z.length<=sizeLine/\so (fE z.cps.toList i) λc=>Q (.str #[(Tw [c])]) M) λa=>s2 (vb M a y) λd=>Q d M)
theorem Rps.atI{i:Int}(r:Rps K H ds vs)(e:fE ds i=ap d):∃v,_2.atI vs i=ap v/\Rp K H d v:=by
 rw[HC]at e;unfold _2.atI at e ⊢;rw[<- r.length];cases q:wQ _ i with
 |none=>simp_all
 |some j=>
  rw[q]at e;exact r.get e
theorem zR(E:X.A.units+1<k6):IxR X (λx y H Q=>∃a v,x=.ref a/\DGet H a y (ap v)/\Q v H):=by
 intro f l m s Z H x y v u Q I o C h z;obtain⟨a,w,rfl,g,q⟩:=h;cases o;exact PyProof.Rows.tail_any (vM I g) rfl (Dd E I g C λG F I3 j=>#[w,H,I3,j,q]) z
theorem Pc(U:X.A.units+1<k6):IxR X (liftR2 X av):=by
 intro f j q s Z H x y v u Q I C G h J;obtain⟨Y,d2,M,QQ,m,E,L,h,F⟩:=h;unfold av at h
 replace h:=h.inv;rcases h with⟨W,e,h⟩|⟨_,h⟩
 .replace h:=h.inv;obtain⟨i,rfl,h⟩:=h
  obtain⟨d,N,h⟩:=h.inv;cases L;obtain⟨p,R,rfl,hq,r⟩:=jn m E e;obtain⟨w,O,l⟩:=r.atI N;refine QO _ _ _ s Z H _ _ v u Q I C G ?_ J;have o:=F _ M h _ H m Frm.refl l;rcases hq with hq|hq
  .exact .inl #[p,R,i,w,rfl,rfl,hq,O,o]
  exact .inr (.inl #[p,R,i,w,rfl,rfl,hq,O,o])
 replace h:=h.inv;rcases h with⟨z,rfl,h⟩|⟨a,rfl,h⟩
 .replace h:=h.inv;obtain⟨i,rfl,T,h⟩:=h
  obtain⟨S,P,h⟩:=h.inv;rw[HC]at P;cases E;cases L;exact ET _ _ _ s Z H _ _ v u Q I C G #[_,_,S,rfl,rfl,T,P,F _ M h _ H m Frm.refl rfl] J
 obtain⟨d,N,h⟩:=h.inv;cases E;rcases rb m L N with⟨z,_⟩|⟨d',w,z,g,l⟩
 .cases z
 cases z;exact zR U f j q s Z H _ _ v u Q I C G #[_,w,rfl,g,F _ M h _ H m Frm.refl l] J
abbrev MX:=Dl->Mem->(Option Int->Mem->Prop)->Prop
inductive liftO(X:Cx)(B:Bd)(T:MX)(Z:St)(H:Hp)(Q:Option Int->Hp->Prop):Prop
 |mk (U:Dl) (M:Mem) (QQ:Option Int->Mem->Prop) (s:SR X B U M Z H) (h:T U M QQ) (u:∀o M',QQ o M'->∀H',RepH X.K H' M'->Frm M H M' H'->Q o H'):liftO X B T Z H Q
def DO(X:Cx)(B:Bd)(e:Option eX)(T:MX):Prop:=PO X e (liftO X B T)
theorem Bz{e:Option eX}(h:PO X e t)(w:∀Z H Q,t' Z H Q->t Z H Q):PO X e t':=λf s Z H Q I q=>h _ s Z H Q I (w Z H Q q)
def cJ:MX:=λ_ M Q=>Q bb M
def fg(t:ba):MX:=λU M Q=>t U M λx M1=>onI x λi=>Q (ap i) M1
theorem Je:DO X B bb cJ:=Bz Js (by rintro Z H Q ⟨U,M,QQ,s,h,u⟩;exact u _ M h H s.rh Frm.refl)
theorem L1(h:DE X B e te):DO X B (ap e) (fg te):=by
 refine Bz (Jx h) ?_
 rintro Z H Q ⟨U,M,QQ,s,h,u⟩
 refine#[U,M,_,s,h,λd M' q v H' f i r=>?_];cases d with
 |int j=>exact#[j,r,u _ M' q H' f i]
 |_=>exact q.elim
def oC(xs:List D)(lo hi:Option Int):List D:=(xs.drop<|HT.sIx xs.length 0 lo).take (HT.sIx xs.length xs.length hi-HT.sIx xs.length 0 lo)
theorem Rps.cut(r:Rps K H ds vs)(f h:Option Int):Rps K H (oC ds f h) (pA vs f h):=by
 unfold oC pA;rw[<- r.length];exact(r.drop _).take _
def oSl(x:D)(lo hi:Option Int)(M:Mem)(Q:DK):Prop:=onTM x (λf=>Q (.tup<|oC f lo hi) M) (λf=>∀p,M p=bb->Q (.ref p) (M.upd p<|.lst<|oC f lo hi)) (so (cG M x) λf=>∀p,M p=bb->Q (.ref p) (M.upd p<|.lst<|oC f lo hi))
inductive liftSl(X:Cx)(x:V)(lo hi:Option Int)(H:Hp)(Q:VK):Prop
 |mk (d:D) (M:Mem) (QQ:DK) (rh:RepH X.K H M) (r:Rp X.K H d x) (h:oSl d lo hi M QQ) (u:Up X.K M H QQ Q):liftSl X x lo hi H Q
theorem xU(h:HT.sIx vs.length 0 f=0/\HT.sIx vs.length vs.length j=vs.length):pA vs f j=vs:=by
 unfold pA
 simp_all
theorem Ix:SI X (λx lo hi H Q=>∃a xs,x=.ref a/\ku X.K H a xs/\(pA xs lo hi=xs->Q (.ref a) H)/\∀p,H p=bb->Q (.ref p) (upd H p<|.tup<|pA xs lo hi)):=by
 intro f s Z H x v F E lo hi C Q I o w pl z h;obtain⟨a,xs,rfl,m,G,q⟩:=h
 by_cases l:HT.sIx xs.length 0 lo=0/\HT.sIx xs.length xs.length hi=xs.length
 .cases o
  obtain⟨aaR,r,y,J⟩:=I.tuple m;have j:aaR.toArray.size=xs.length:=by rw[Uo];exact r.length.symm
  refine#["tuple",_,U4.lookup,y.typeIs,?_];exact HT.ig y w pl z (by rw[j];exact l) #[.ref a,H,I,rfl,G<|xU l]
 .exact Od f s Z H _ v F E lo hi C Q I o w pl z #[a,xs,rfl,m,l,q]
section
variable{p:Pos}{t:eA}
theorem Qa:SI X (liftSl X):=by
 rintro aaL s Z H x v vl vu lo hi sl Q I rx hs pl pu ⟨d,M,QQ,rh,r,h,up⟩
 unfold oSl at h
 replace h:=h.inv;rcases h with⟨xs,rfl,h⟩|⟨xs,rfl,h⟩|h
 .obtain⟨a,vs,rfl,ht,r⟩:=r
  exact Ix _ s Z H _ v vl vu lo hi sl Q I rx hs pl pu #[a,vs,rfl,ht.sq,λe=>up _ M h _ H rh Frm.refl #[a,vs,rfl,ht,by rw[<- e];exact r.cut lo hi],λp hp=>up _ M h _ _ (rh.new hp) (Frm.new hp) #[p,_,rfl,upd_same,(r.cut lo hi).mono<|Imm.new hp]]
 .obtain⟨a,vs,rfl,hq,r⟩:=r
  exact Bn _ s Z H _ v vl vu lo hi sl Q I rx hs pl pu #[a,vs,rfl,hq.sq,λp hp=>up _ _ (h p<|rh.fresh hp) _ _ (rh.put (by rw[hp];trivial) #[_,upd_same,(r.cut lo hi).mono<|Imm.new hp]) (Frm.put<|.inl hp) rfl]
 obtain⟨xs,e,h⟩:=h.inv;obtain⟨a,vs,rfl,hq,r⟩:=cY rh r e;exact Bn _ s Z H _ v vl vu lo hi sl Q I rx hs pl pu #[a,vs,rfl,.inl hq,λp hp=>up _ _ (h p<|rh.fresh hp) _ _ (rh.put (by rw[hp];trivial) #[_,upd_same,(r.cut lo hi).mono<|Imm.new hp]) (Frm.put<|.inl hp) rfl]
def DY(te:ba)(tl th:MX):ba:=λU M Q=>te U M λx M1=>tl U M1 λl M2=>th U M2 λu M3=>oSl x l u M3 Q
theorem Fn(E:DE X B e te)(z:DO X B lo tl)(C:DO X B hi th):DE X B (.Subscript e (.Slice lo hi bb p2) pos) (DY te tl th):=by
 refine aS (Ex Qa E z C) ?_
 rintro Z H Q ⟨U,M,QQ,s,h,u⟩
 exact#[U,M,_,s,h,λx M1 q v1 H1 f i1 v=>#[U,M1,_,s.go f i1,q,λl M2 y H2 m i2=>#[U,M2,_,s.go m (i1.trans i2),y,λw M3 o H3 j i3=>#[x,M3,QQ,j,v.mf f (i2.trans i3),o,u.go<|(i1.trans i2).trans i3]]]]
abbrev oU:=List D->Mem->DK->Prop
inductive liftC(X:Cx)(r:oU)(xs:List V)(H:Hp)(Q:VK):Prop
 |mk (ds:List D) (M:Mem) (QQ:DK) (rh:RepH X.K H M) (rp:Rps X.K H ds xs) (h:r ds M QQ) (u:Up X.K M H QQ Q):liftC X r xs H Q
def bn(r:oU)(t:eA):ba:=λU M Q=>t U M λf M1=>r f M1 Q
theorem rK(h:liftE X B (bn r t) Z H Q):tCB (liftC X r) (liftA X B t) Z H Q:=by
 obtain⟨U,M,QQ,s,h,u⟩:=h;exact#[U,M,_,s,h,λm M1 l o H1 f i1 j=>#[m,M1,QQ,f,j,l,u.go i1]]
theorem Hb{id:String}(o:bt X (.builtin id) (liftC X r))(m:Gl X x)(j:X.mg x=bb)(f:eT x=ap (.builtin id))(l:DA X B (e::es) t)(q:x≠"__name__":=by decide)(hdb:(x==("__debug__":Str))=false:=by decide)(he:eg (e::es) X.env=(cp,fv e X.env)::eg es X.env:=by rfl)(hpl:(g3 pos<|starEach es X.env).any (·.1)=false:=by rfl):DE X B (.Call (.Name x p) (e::es) [] pos) (bn r t):=
 aS (Fu o m j f l q hdb he hpl) λ_ _ _ h=>rK h
theorem CI(o:bt X (.type T) (liftC X r))(m:Gl X x)(j:X.mg x=bb)(f:eT x=ap (.type T))(l:DA X B (e::es) t)(q:x≠"__name__":=by decide)(hdb:(x==("__debug__":Str))=false:=by decide)(he:eg (e::es) X.env=(cp,fv e X.env)::eg es X.env:=by rfl)(hpl:(g3 pos<|starEach es X.env).any (·.1)=false:=by rfl):DE X B (.Call (.Name x p) (e::es) [] pos) (bn r t):=
 aS (D5 o m j f l q hdb he hpl) λ_ _ _ h=>rK h
theorem g6{ds:List D}{vs:List V}{d:D}(r:Rps K H [d] vs):∃v,vs=[v]/\Rp K H d v:=by
 obtain⟨v,w,rfl,a,b⟩:=r;cases b;exact#[v,rfl,a]
theorem Ks{e:D}(r:Rps K H [d,e] vs):∃v w,vs=[v,w]/\Rp K H d v/\Rp K H e w:=by
 obtain⟨v,w,rfl,a,b⟩:=r;obtain⟨h,j,rfl,f,b⟩:=b;cases b;exact#[v,h,rfl,a,f]
def cC:oU:=λh M Q=>one h λd=>oe (aQ M d) (λj=>Q (.int j.length) M) (onSR d (λz=>z.length<=sizeLine/\Q (.int z.length) M) λa=>mK (M a) λf=>Q (.int f.length) M)
theorem CB:bt X (.builtin "len") (liftC X cC):=by
 rintro o s Z H O j Q I r ⟨ds,M,QQ,f,L,h,l⟩
 unfold cC at h
 replace h:=h.inv;obtain⟨d,rfl,h⟩:=h
 obtain⟨v,rfl,m⟩:=g6 (ds:=[]) L
 replace h:=h.inv;rcases h with⟨N,e,h⟩|⟨_,h⟩
 .obtain⟨q,G,rfl,F,y⟩:=jn f m e
  exact sQ _ s Z H _ j Q I r #[q,G,rfl,F,by rw[<- y.length];exact l _ M h _ H f Frm.refl rfl]
 replace h:=h.inv;rcases h with⟨z,rfl,h⟩|⟨a,rfl,h⟩
 .cases m
  exact tB _ s Z H _ j Q I r #[_,rfl,h.1,l _ M h.2 _ H f Frm.refl rfl]
 obtain⟨w,e,h⟩:=h.inv;cases m;obtain⟨C,E,J⟩:=f _ _ e;exact Ds _ s Z H _ j Q I r #[_,C,rfl,E,by rw[<- J.length];exact l _ M h _ H f Frm.refl rfl]
def eG:oU:=λf M Q=>one f λd=>so (aQ M d) λh=>∀p,M p=bb->Q (.ref p) (M.upd p<|.lst h)
theorem wA:bt X (.type "list") (liftC X eG):=by
 rintro aaL s Z H xs us Q I r ⟨ds,M,QQ,rh,rp,h,up⟩
 unfold eG at h
 replace h:=h.inv;obtain⟨_,rfl,h⟩:=h
 obtain⟨v,rfl,rv⟩:=g6 (ds:=[]) rp;obtain⟨ys,e,h⟩:=h.inv;obtain⟨q,vs,rfl,hq,rr⟩:=jn rh rv e;exact qN _ s Z H _ us Q I r #[q,vs,rfl,hq,λp hp=>up _ _ (h p<|rh.fresh hp) _ _ (rh.put (by rw[hp];trivial) #[_,upd_same,rr.mono<|Imm.new hp]) (Frm.put<|.inl hp) rfl]
def b_:oU:=λh M Q=>one h λd=>onTe d (λf=>Q (.tup f) M) (so (cG M d) λf=>Q (.tup f) M)
theorem uH:bt X (.type "tuple") (liftC X b_):=by
 rintro y s Z H E o Q I r ⟨ds,M,QQ,j,G,h,z⟩
 unfold b_ at h
 replace h:=h.inv;obtain⟨d,rfl,h⟩:=h
 obtain⟨v,rfl,C⟩:=g6 (ds:=[]) G
 replace h:=h.inv;rcases h with⟨E,rfl,h⟩|h
 .obtain⟨q,f,rfl,w,l⟩:=C
  exact ix _ s Z H _ o Q I r #[q,f,rfl,.inr #[w.sq,z _ M h _ H j Frm.refl #[q,f,rfl,w,l]]]
 obtain⟨J,e,h⟩:=h.inv;obtain⟨q,f,rfl,F,l⟩:=cY j C e;exact ix _ s Z H _ o Q I r #[q,f,rfl,.inl #[.inl F,λp m=>z _ M h _ _ (j.new m) (Frm.new m) #[p,_,rfl,upd_same,l.mono<|Imm.new m]]]
def cH(M:Mem):D->Option String
 |.non=>ap "NoneType"
 |.bl _=>ap "bool"
 |.int _=>ap "int"
 |.str _=>ap "str"
 |.tup _=>ap "tuple"
 |.lst _=>ap "list"
 |.ref a=>match M a with
  |some (.lst _)=>ap "list"
  |some (.dK _)=>ap "dict"
  |some (.dT _)=>ap "dict"
  |_=>bb
 |_=>bb
noncomputable def bQ(t T:String):Bool:=t==T||(t=="bool"&&T=="int")
noncomputable def nr(T:String):Bool:=T=="bool"||T=="int"||T=="str"||T=="tuple"||T=="list"||T=="dict"
theorem IG:(∀K:Ug,∀t∈["NoneType","bool","int","str","tuple","list","dict"],∀T∈["bool","int","str","tuple","list","dict"],W.kitOne K (.type t) (.type T)=ap (bQ t T)):=by
 intro K t f T h;simp at f h;rcases f with rfl|rfl|rfl|rfl|rfl|rfl|rfl<;>rcases h with rfl|rfl|rfl|rfl|rfl|rfl<;>kernel_rfl
theorem Ku{t:String}(j:RepH K H M)(r:Rp K H d v)(e:cH M d=ap t):TyOf K H v (.type t)/\t∈["NoneType","bool","int","str","tuple","list","dict"]:=by
 cases d with
 |non=>cases r;cases e;exact#[.non,by simp]
 |bl b=>cases r;cases e;exact#[.bl b,by simp]
 |int i=>cases r;cases e;exact#[.int i,by simp]
 |str x=>cases r;cases e;exact#[.str x,by simp]
 |tup xs=>
  cases e;obtain⟨q,w,rfl,h,y⟩:=r;exact#[.tup h,by simp]
 |lst xs=>
  cases e;obtain⟨q,w,rfl,⟨o,h⟩,y⟩:=r;exact#[.frz h,by simp]
 |ref a=>
  cases r;simp[cH]at e
  split at e
  .rename_i q;cases e;obtain⟨m,f,l⟩:=j _ _ q;exact#[.lst f,by simp]
  .rename_i q;cases e;obtain⟨m,f,l⟩:=j _ _ q;exact#[.dK f,by simp]
  .rename_i q;cases e;obtain⟨m,f,l⟩:=j _ _ q;exact#[.dT f,by simp]
  cases e
 |_=>cases e
def dJ:oU:=λf M Q=>two f λd e=>onTy e λT=>nr T=true/\so (cH M d) λt=>Q (.bl<|bQ t T) M
theorem tP:bt X (.builtin "isinstance") (liftC X dJ):=by
 rintro m s Z H F o Q I r ⟨E,M,QQ,j,z,h,y⟩
 unfold dJ at h
 replace h:=h.inv;obtain⟨d,T',rfl,h⟩:=h
 replace h:=h.inv;obtain⟨T,rfl,l,h⟩:=h
 obtain⟨v,w,rfl,C,f⟩:=Ks z;cases f;obtain⟨t,e,h⟩:=h.inv;obtain⟨ty,q⟩:=Ku j C e;refine we _ s Z H _ o Q I r #[v,T,_,_,rfl,ty,IG _ t q T ?_,y _ M h _ H j Frm.refl rfl];simp[nr]at l;simp;rcases l with ((((h|h)|h)|h)|h)|h<;>simp[h]
def jc:List D->Option (List Bool)
 |[]=>ap []
 |.bl b::ds=>match jc ds with
  |some bs=>ap (b::bs)
  |none=>bb
 |_=>bb
theorem jS:∀{ds:List D}{vs:List V}{bs:List Bool},Rps K H ds vs->jc ds=ap bs->vs=bs.map V.bl
 |[],vs,bs,r,e=>by cases e;exact r
 |d::ds,vs,bs,r,e=>by
  obtain⟨v,j,rfl,a,b⟩:=r;cases d with
  |bl c=>
   simp[jc]at e
   split at e
   .rename_i h f
    cases e;cases a;rw[jS b f];rfl
   cases e
  |_=>cases e
def Oa:oU:=λf M Q=>one f λd=>so (cG M d) λh=>so (jc h) λbs=>Q (.bl<|bs.all id) M
theorem D1(F:X.calm=true):bt X (.builtin "all") (liftC X Oa):=by
 rintro j s Z H J m Q I r ⟨ds,M,QQ,f,C,h,y⟩
 unfold Oa at h
 replace h:=h.inv;obtain⟨_,rfl,h⟩:=h
 obtain⟨v,rfl,E⟩:=g6 (ds:=[]) C;obtain⟨G,e,h⟩:=h.inv;obtain⟨bs,o,h⟩:=h.inv;obtain⟨q,L,rfl,z,w⟩:=cY f E e;have l:=jS w o;subst l;exact HK F _ s Z H _ m Q I r #[q,bs,rfl,.inl z,y _ M h _ H f Frm.refl rfl]
def F9:oU:=λl M Q=>two l λf h=>onI f λi=>onI h λj=>Q (.int (if j<i then j else i)) M
theorem CN(z:X.calm=true):bt X (.builtin "min") (liftC X F9):=by
 rintro j s Z H G l Q I r ⟨F,M,QQ,m,q,h,o⟩
 unfold F9 at h
 replace h:=h.inv;obtain⟨C,E,rfl,h⟩:=h
 replace h:=h.inv;obtain⟨_,rfl,h⟩:=h
 replace h:=h.inv;obtain⟨_,rfl,h⟩:=h
 obtain⟨v,w,rfl,y,f⟩:=Ks q;cases y;cases f;exact D4 z _ s Z H _ l Q I r #[_,_,rfl,o _ M h _ H m Frm.refl rfl]
def IH:oU:=λh M Q=>two h λl f=>onI l λi=>onI f λj=>Q (.int (if j>i then j else i)) M
theorem Cp(z:X.calm=true):bt X (.builtin "max") (liftC X IH):=by
 rintro j s Z H F l Q I r ⟨E,M,QQ,m,q,h,o⟩
 unfold IH at h
 replace h:=h.inv;obtain⟨G,C,rfl,h⟩:=h
 replace h:=h.inv;obtain⟨_,rfl,h⟩:=h
 replace h:=h.inv;obtain⟨_,rfl,h⟩:=h
 obtain⟨v,w,rfl,y,f⟩:=Ks q;cases y;cases f;exact CJ z _ s Z H _ l Q I r #[_,_,rfl,o _ M h _ H m Frm.refl rfl]
end
mutual
def aR:D->D->Bool
 |.non,.non=>true
 |.bl a,.bl b=>a==b
 |.bl a,.int b=>(if a then 1 else 0)==b
 |.int a,.bl b=>a==(if b then 1 else 0)
 |.int a,.int b=>decide (a=b)
 |.str a,.str b=>decide (a=b)
 |.tup xs,.tup ys=>gj xs ys
 |.lst xs,.lst ys=>gj xs ys
 |_,_=>cp
def gj:List D->List D->Bool
 |[],[]=>true
 |x::xs,y::ys=>aR x y&&gj xs ys
 |_,_=>cp
end
mutual
def cN:Nat->D->Bool
 |_,.non=>true
 |_,.bl _=>true
 |_,.int _=>true
 |_,.str _=>true
 |n+1,.tup xs=>fits n xs
 |n+1,.lst xs=>fits n xs
 |_,_=>cp
def fits:Nat->List D->Bool
 |_,[]=>true
 |n,x::xs=>cN n x&&fits n xs
end
mutual
def Hr(h:g4):D->ay->Prop
 |.non,u=>u=.none
 |.bl b,u=>u=.bool b
 |.int i,u=>∃t,u=.int i t
 |.str x,u=>∃t,u=.str x t
 |.tup xs,u=>∃p aaR,u=.ref p/\h.IsTuple p (Vn aaR)/\Hrs h xs aaR
 |.lst xs,u=>∃p aaR,u=.ref p/\h.IsList p (Vn aaR)/\Hrs h xs aaR
 |_,_=>False
def Hrs(h:g4):List D->List ay->Prop
 |[],us=>us=[]
 |x::xs,us=>∃u r,us=u::r/\Hr h x u/\Hrs h xs r
end
section
variable{h:g4}
theorem Hrs.length:∀{ds:List D}{us:aaW},Hrs h ds us->ds.length=us.length
 |[],_,q=>by cases q;rfl
 |_::_,_,q=>by obtain⟨v,r,rfl,_,b⟩:=q;simp[b.length]
theorem Hrs.get:∀{ds:List D}{us:aaW},Hrs h ds us->∀(i:Nat)(h1:i<ds.length)(h2:i<us.length),Hr h ds[i] us[i]
 |[],_,_,i,h1,_=>absurd h1 (by trivial)
 |x::xs,_,q,i,h1,h2=>by
  obtain⟨v,r,rfl,a,b⟩:=q;cases i with
  |zero=>exact a
  |succ i=>exact b.get i _ _
theorem zk(x:h.IsTuple p a)(y:h.IsTuple p b):a=b:=by
 obtain⟨o,v,_,n,m⟩:=x;obtain⟨l,j,_,q,f⟩:=y
 simp_all
theorem B1(x:h.IsList p a)(y:h.IsList p b):a=b:=by
 obtain⟨o,v,_,n,m⟩:=x;obtain⟨l,j,_,q,f⟩:=y
 simp_all
theorem Sv(x:h.IsList p a)(y:h.IsTuple p b):False:=by
 obtain⟨o,m,c,_⟩:=x;obtain⟨l,f,j,_⟩:=y
 simp_all
mutual
theorem F2:∀{d e:D}{u:ay},Hr h d u->Hr h e u->d=e
 |.non,e,u,a,b=>by
  cases a;cases e with
  |non=>rfl
  |bl _=>cases b
  |int _=>obtain⟨t,q⟩:=b;cases q
  |str _=>obtain⟨t,q⟩:=b;cases q
  |tup _=>obtain⟨p,i,q,_⟩:=b;cases q
  |lst _=>obtain⟨p,i,q,_⟩:=b;cases q
  |_=>exact(show False from b).elim
 |.bl c,e,u,a,b=>by
  cases a;cases e with
  |non=>cases b
  |bl _=>cases b;rfl
  |int _=>obtain⟨t,q⟩:=b;cases q
  |str _=>obtain⟨t,q⟩:=b;cases q
  |tup _=>obtain⟨p,i,q,_⟩:=b;cases q
  |lst _=>obtain⟨p,i,q,_⟩:=b;cases q
  |_=>exact(show False from b).elim
 |.int c,e,u,a,b=>by
  obtain⟨t,rfl⟩:=a;cases e with
  |non=>cases b
  |bl _=>cases b
  |int _=>obtain⟨t,q⟩:=b;cases q;rfl
  |str _=>obtain⟨t,q⟩:=b;cases q
  |tup _=>obtain⟨p,i,q,_⟩:=b;cases q
  |lst _=>obtain⟨p,i,q,_⟩:=b;cases q
  |_=>exact(show False from b).elim
 |.str c,e,u,a,b=>by
  obtain⟨t,rfl⟩:=a;cases e with
  |non=>cases b
  |bl _=>cases b
  |int _=>obtain⟨t,q⟩:=b;cases q
  |str _=>obtain⟨t,q⟩:=b;cases q;rfl
  |tup _=>obtain⟨p,i,q,_⟩:=b;cases q
  |lst _=>obtain⟨p,i,q,_⟩:=b;cases q
  |_=>exact(show False from b).elim
 |.tup xs,e,u,a,b=>by
  obtain⟨p,aaR,rfl,t1,j⟩:=a;cases e with
  |non=>cases b
  |bl _=>cases b
  |int _=>obtain⟨t,q⟩:=b;cases q
  |str _=>obtain⟨t,q⟩:=b;cases q
  |tup ys=>
   obtain⟨p',its',q,t2,f⟩:=b;cases q;have e:=zk t1 t2;have l:aaR=its':=by simpa using congrArg WA e
   subst l;rw[j8 j f]
  |lst ys=>obtain⟨p',its',q,t2,f⟩:=b;cases q;exact(Sv t2 t1).elim
  |_=>exact(show False from b).elim
 |.lst xs,e,u,a,b=>by
  obtain⟨p,aaR,rfl,t1,j⟩:=a;cases e with
  |non=>cases b
  |bl _=>cases b
  |int _=>obtain⟨t,q⟩:=b;cases q
  |str _=>obtain⟨t,q⟩:=b;cases q
  |lst ys=>
   obtain⟨p',its',q,t2,f⟩:=b;cases q;have e:=B1 t1 t2;have l:aaR=its':=by simpa using congrArg WA e
   subst l;rw[j8 j f]
  |tup ys=>obtain⟨p',its',q,t2,f⟩:=b;cases q;exact(Sv t1 t2).elim
  |_=>exact(show False from b).elim
 |.ty _,_,_,a,_=>(show False from a).elim
 |.ref _,_,_,a,_=>(show False from a).elim
 |.mt _,_,_,a,_=>(show False from a).elim
 |.ml _,_,_,a,_=>(show False from a).elim
 |.fd _ _,_,_,a,_=>(show False from a).elim
theorem j8:∀{ds es:List D}{us:aaW},Hrs h ds us->Hrs h es us->ds=es
 |[],es,us,a,b=>by
  cases a;cases es with
  |nil=>rfl
  |cons _ _=>obtain⟨v,r,q,_⟩:=b;cases q
 |d::ds,es,us,a,b=>by
  obtain⟨v,r,rfl,l,f⟩:=a;cases es with
  |nil=>cases b
  |cons e es=>
   obtain⟨w,o,q,j,m⟩:=b;cases q;rw[F2 l j,j8 f m]
end
mutual
theorem EI:∀{n:Nat}{d:D},cN n d=true->aR d d=true
 |_,.non,_=>by simp[aR]
 |_,.bl _,_=>by simp[aR]
 |_,.int _,_=>by simp[aR]
 |_,.str _,_=>by simp[aR]
 |0,.tup _,f=>by simp[cN]at f
 |0,.lst _,f=>by simp[cN]at f
 |n+1,.tup xs,f=>by rw[aR];exact eY (n:=n) f
 |n+1,.lst xs,f=>by rw[aR];exact eY (n:=n) f
 |_,.ty _,f=>by simp[cN]at f
 |_,.ref _,f=>by simp[cN]at f
 |_,.mt _,f=>by simp[cN]at f
 |_,.ml _,f=>by simp[cN]at f
 |_,.fd _ _,f=>by simp[cN]at f
theorem eY:∀{n:Nat}{ds:List D},fits n ds=true->gj ds ds=true
 |_,[],_=>by simp[gj]
 |n,x::xs,f=>by
  rw[fits,Vl]at f;rw[gj,EI f.1,eY f.2];rfl
end
theorem dQ:∀{xs ys:List D},xs.length≠ys.length->gj xs ys=cp
 |[],[],h=>absurd rfl h
 |[],_::_,_=>by simp[gj]
 |_::_,[],_=>by simp[gj]
 |x::xs,y::ys,h=>by rw[gj,dQ (by simpa using h),Xj]
theorem ji:∀(xs ys:List D)(f:Nat->Bool),xs.length=ys.length->(∀j (h1:j<xs.length)(h2:j<ys.length),f j=aR xs[j] ys[j])->(Ut xs.length).all f=gj xs ys
 |[],[],f,_,_=>by simp[gj]
 |[],_::_,_,h,_=>by simp at h
 |_::_,[],_,h,_=>by simp at h
 |x::xs,y::ys,f,h,hf=>by
  rw[Uz,List.range_succ_eq_map,List.all_cons,List.all_map,gj,<- (ji xs ys (λj=>f (j+1)) (by simpa using h)<|by simp_all)]
  rw[(hf 0 (by simp)<|by simp)]
  rfl
theorem dW:∀{n:Nat}{xs:List D},fits n xs=true->∀(j:Nat)(h1:j<xs.length),cN n xs[j]=true
 |_,[],_,j,h1=>absurd h1 (by trivial)
 |n,x::xs,f,j,h1=>by
  rw[fits,Vl]at f;cases j with
  |zero=>exact f.1
  |succ j=>exact dW f.2 j _
noncomputable def nK:D->Option V
 |.non=>ap .non
 |.bl b=>ap (.bl b)
 |.int i=>ap (.int i)
 |.str x=>ap (.str x)
 |_=>bb
theorem m8(e:nK d=ap v)(r:Hr h d u):RelV v u/\HY v=true:=by
 cases d with
 |non=>cases e;trivial
 |bl b=>cases e;trivial
 |int b=>cases e;trivial
 |str b=>cases e;trivial
 |_=>cases e
theorem uU{e:D}(j:nK d=ap v)(f:nK e=ap w):wo v w=aR d e:=by
 cases d with
 |non=>cases j;cases e with|non=>cases f;simp[wo,aR]|bl b=>cases f;simp[wo,aR]|int b=>cases f;simp[wo,aR]|str b=>cases f;simp[wo,aR]|_=>cases f
 |bl a=>cases j;cases e with|non=>cases f;simp[wo,aR]|bl b=>cases f;simp[wo,aR]|int b=>cases f;simp[wo,aR]|str b=>cases f;simp[wo,aR]|_=>cases f
 |int a=>cases j;cases e with|non=>cases f;simp[wo,aR]|bl b=>cases f;simp[wo,aR]|int b=>cases f;rfl|str b=>cases f;simp[wo,aR]|_=>cases f
 |str a=>cases j;cases e with|non=>cases f;simp[wo,aR]|bl b=>cases f;simp[wo,aR]|int b=>cases f;simp[wo,aR]|str b=>cases f;rfl|_=>cases f
 |_=>cases j
end
theorem M_:∀(n:Nat){A:fy}{s:ca}{d e:D}{u w:ay},Hr s.heap d u->Hr s.heap e w->cN n d=true->cN n e=true->A.units+n<k6->Xb A s u w (aR d e):=by
 intro n
 induction n with
 |zero=>
  intro A s d e u w l h fd N hu;have T:∃v,nK d=ap v:=by cases d<;>first|exact#[_,rfl]|(simp[cN]at fd)
  have S:∃v,nK e=ap v:=by cases e<;>first|exact#[_,rfl]|(simp[cN]at N)
  obtain⟨v1,J⟩:=T;obtain⟨v2,O⟩:=S;obtain⟨Y,W⟩:=m8 J l;obtain⟨a2,b2⟩:=m8 O h;rw[<- uU J O];exact HH Y a2 W b2
 |succ n ih=>
  intro A s d e u w l h fd N hu;have f:A.units<cLine:=by lia
  have Q:A.in1.units+n<cLine:=by show A.units+1+n<k6;lia
  by_cases T:∃v,nK d=ap v
  .obtain⟨v1,J⟩:=T
   obtain⟨Y,W⟩:=m8 J l
   by_cases S:∃v,nK e=ap v
   .obtain⟨v2,O⟩:=S
    obtain⟨a2,b2⟩:=m8 O h;rw[<- uU J O];exact HH Y a2 W b2
   .cases e with
    |tup ys=>
     obtain⟨p,aaR,rfl,t,_⟩:=h;cases d with
     |non=>cases l;simp only[aR];exact .none_tuple t f
     |bl b=>cases l;simp only[aR];exact .bool_tuple b t f
     |int b=>obtain⟨m,rfl⟩:=l;simp only[aR];exact .int_tuple b m t f
     |str b=>obtain⟨m,rfl⟩:=l;simp only[aR];exact .str_tuple b m t f
     |_=>cases J
    |lst ys=>
     obtain⟨p,aaR,rfl,t,_⟩:=h;cases d with
     |non=>cases l;simp only[aR];exact .none_list t f
     |bl b=>cases l;simp only[aR];exact .bool_list b t f
     |int b=>obtain⟨m,rfl⟩:=l;simp only[aR];exact .int_list b m t f
     |str b=>obtain⟨m,rfl⟩:=l;simp only[aR];exact .str_list b m t f
     |_=>cases J
    |ty _=>exact(show False from h).elim
    |ref _=>exact(show False from h).elim
    |mt _=>exact(show False from h).elim
    |ml _=>exact(show False from h).elim
    |fd _ _=>exact(show False from h).elim
    |_=>exact absurd #[_,rfl] S
  .cases d with
   |tup xs=>
    obtain⟨p,aaR,rfl,t1,G⟩:=l;cases e with
    |non=>cases h;simp only[aR];exact .tuple_none t1 f
    |bl b=>cases h;simp only[aR];exact .tuple_bool b t1 f
    |int b=>obtain⟨m,rfl⟩:=h;simp only[aR];exact .tuple_int b m t1 f
    |str b=>obtain⟨m,rfl⟩:=h;simp only[aR];exact .tuple_str b m t1 f
    |tup ys=>
     obtain⟨p',its',rfl,t2,E⟩:=h;rw[aR]
     by_cases R:p=p'
     .subst R
      have e':aaR=its':=by simpa using congrArg WA (zk t1 t2)
      subst e';rw[j8 G E,eY (n:=n) N];exact .same _
     .refine .of_refs R ?_
      have l1:=G.length;have U:=E.length;have I:∀j (z:j<aaR.toArray.size)(C:j<its'.toArray.size),Xb A.in1 s aaR.toArray[j] its'.toArray[j] (match xs[j]?,ys[j]? with|some x,ap y=>aR x y|_,_=>cp):=λj z C=>by
       have q:j<xs.length:=by rw[l1];simpa using z
       have o:j<ys.length:=by rw[U];simpa using C
       rw[Uc q,Uc o];exact ih (G.get j q<|by simpa using z) (E.get j o<|by simpa using C) (dW fd j q) (dW N j o) Q
      have:=Yw (e:=λj=>match xs[j]?,ys[j]? with|some x,ap y=>aR x y|_,_=>cp) t1 t2 f I
      by_cases P:xs.length=ys.length
      .have F:aaR.toArray.size=its'.toArray.size:=by simp;lia
       rw[F]at this;simp only[YH,beq_self_eq_true,Yt]at this;have L:its'.toArray.size=xs.length:=by simp;lia
       rw[L,ji xs ys _ P (λj z C=>by rw[Uc z,Uc C])]at this
       exact this
      .have F:(aaR.toArray.size==its'.toArray.size)=false:=by simp;lia
       rw[F,Xj]at this;rw[dQ P];exact this
    |lst ys=>obtain⟨p',its',rfl,t2,E⟩:=h;simp only[aR];exact .tuple_list t1 t2 f
    |_=>exact(show False from h).elim
   |lst xs=>
    obtain⟨p,aaR,rfl,t1,G⟩:=l;cases e with
    |non=>cases h;simp only[aR];exact .list_none t1 f
    |bl b=>cases h;simp only[aR];exact .list_bool b t1 f
    |int b=>obtain⟨m,rfl⟩:=h;simp only[aR];exact .list_int b m t1 f
    |str b=>obtain⟨m,rfl⟩:=h;simp only[aR];exact .list_str b m t1 f
    |lst ys=>
     obtain⟨p',its',rfl,t2,E⟩:=h;rw[aR]
     by_cases R:p=p'
     .subst R
      have e':aaR=its':=by simpa using congrArg WA (B1 t1 t2)
      subst e';rw[j8 G E,eY (n:=n) N];exact .same _
     .refine .of_refs R ?_
      have l1:=G.length;have U:=E.length
      by_cases P:xs.length=ys.length
      .have I:∀j (z:j<aaR.toArray.size)(C:j<its'.toArray.size),Xb A.in1 s aaR.toArray[j] its'.toArray[j] (match xs[j]?,ys[j]? with|some x,ap y=>aR x y|_,_=>cp):=λj z C=>by
        have q:j<xs.length:=by rw[l1];simpa using z
        have o:j<ys.length:=by rw[U];simpa using C
        rw[Uc q,Uc o];exact ih (G.get j q<|by simpa using z) (E.get j o<|by simpa using C) (dW fd j q) (dW N j o) Q
       have:=YB (e:=λj=>match xs[j]?,ys[j]? with|some x,ap y=>aR x y|_,_=>cp) t1 t2 (by simp;lia) f I
       have L:aaR.toArray.size=xs.length:=by simp;lia
       rw[L,ji xs ys _ P (λj z C=>by rw[Uc z,Uc C])]at this
       exact this
      .rw[dQ P]
       exact XG t1 t2 (by simp;lia) f
    |tup ys=>obtain⟨p',its',rfl,t2,E⟩:=h;simp only[aR];exact .list_tuple t1 t2 f
    |_=>exact(show False from h).elim
   |ty _=>exact(show False from l).elim
   |ref _=>exact(show False from l).elim
   |mt _=>exact(show False from l).elim
   |ml _=>exact(show False from l).elim
   |fd _ _=>exact(show False from l).elim
   |_=>exact absurd #[_,rfl] T
theorem lF(r1:Hrs s.heap xs aaR)(r2:Hrs s.heap ys its')(fd:fits n xs=true)(fe:fits n ys=true)(hu:A.units+n<k6):
  ∀j (h1:j<aaR.toArray.size)(h2:j<its'.toArray.size),Xb A s aaR.toArray[j] its'.toArray[j] (match xs[j]?,ys[j]? with|some x,ap y=>aR x y|_,_=>cp):=λj h1 h2=>by
 rw[Uc (by rw[r1.length];trivial),Uc (by rw[r2.length];trivial)]
 exact M_ n (r1.get j _ _) (r2.get j _ _) (dW fd j _) (dW fe j _) hu
theorem lm(l:xs.length=ys.length):(Ut xs.length).all (λj=>match xs[j]?,ys[j]? with|some x,ap y=>aR x y|_,_=>cp)=gj xs ys:=
 ji xs ys _ l (λj h f=>by rw[Uc h,Uc f])
theorem Oy(t1:s.heap.IsTuple p aaR.toArray)(t2:s.heap.IsTuple p' its'.toArray)(l:Hrs s.heap xs aaR)(m:Hrs s.heap ys its')(fd:cN n (.tup xs)=true)(o:cN n (.tup ys)=true)(w:A.units+n<k6):
  YW A s (.ref p) (.ref p') (aR (.tup xs)<|.tup ys):=by
 cases n with
 |zero=>trivial
 |succ n=>
  have v:=l.length;have q:=m.length;have:=Yw (A:=A) t1 t2 (by lia) (lF l m fd o<|by show A.units+1+n<k6;lia)
  rw[aR]
  by_cases j:xs.length=ys.length
  .have f:aaR.toArray.size=its'.toArray.size:=by simp;lia
   rw[f]at this;simp only[YH,beq_self_eq_true,Yt]at this;have h:its'.toArray.size=xs.length:=by simp;lia
   rw[h,lm j]at this;exact this
  have f:(aaR.toArray.size==its'.toArray.size)=false:=by simp;lia
  rw[f,Xj]at this;rw[dQ j];exact this
theorem NQ(t1:s.heap.IsList p aaR.toArray)(t2:s.heap.IsList p' its'.toArray)(j:Hrs s.heap xs aaR)(l:Hrs s.heap ys its')(fd:cN n (.lst xs)=true)(m:cN n (.lst ys)=true)(v:A.units+n<k6):
  YW A s (.ref p) (.ref p') (aR (.lst xs)<|.lst ys):=by
 cases n with
 |zero=>trivial
 |succ n=>
  have o:=j.length;have q:=l.length;rw[aR]
  by_cases h:xs.length=ys.length
  .have:=YB (A:=A) t1 t2 (by simp;lia) (by lia) (lF j l fd m<|by show A.units+1+n<k6;lia)
   have f:aaR.toArray.size=xs.length:=by simp;lia
   rw[f,lm h]at this;exact this
  rw[dQ h];exact XG t1 t2 (by simp;lia) (by lia)
theorem Ic(t1:s.heap.IsTuple p aaR.toArray)(t2:s.heap.IsTuple p' its'.toArray)(l:Hrs s.heap xs aaR)(m:Hrs s.heap ys its')(fd:cN n (.tup xs)=true)(o:cN n (.tup ys)=true)(w:A.units+n<k6):
  Yv A s (.ref p) (.ref p') (!aR (.tup xs) (.tup ys)):=by
 cases n with
 |zero=>trivial
 |succ n=>
  have v:=l.length;have q:=m.length;have:=SeqAt.RcNeAt.tuples (A:=A) t1 t2 (by lia) (lF l m fd o<|by show A.units+1+n<k6;lia)
  rw[aR]
  by_cases j:xs.length=ys.length
  .have f:aaR.toArray.size=its'.toArray.size:=by simp;lia
   rw[f]at this;simp only[YH,beq_self_eq_true,Yt]at this;have h:its'.toArray.size=xs.length:=by simp;lia
   rw[h,lm j]at this;exact this
  have f:(aaR.toArray.size==its'.toArray.size)=false:=by simp;lia
  rw[f,Xj]at this;rw[dQ j];exact this
theorem G4(t1:s.heap.IsList p aaR.toArray)(t2:s.heap.IsList p' its'.toArray)(j:Hrs s.heap xs aaR)(l:Hrs s.heap ys its')(fd:cN n (.lst xs)=true)(m:cN n (.lst ys)=true)(v:A.units+n<k6):
  Yv A s (.ref p) (.ref p') (!aR (.lst xs) (.lst ys)):=by
 cases n with
 |zero=>trivial
 |succ n=>
  have o:=j.length;have q:=l.length;rw[aR]
  by_cases h:xs.length=ys.length
  .have:=SeqAt.RcNeAt.lists (A:=A) t1 t2 (by simp;lia) (by lia) (lF j l fd m<|by show A.units+1+n<k6;lia)
   have f:aaR.toArray.size=xs.length:=by simp;lia
   rw[f,lm h]at this;exact this
  rw[dQ h];exact SeqAt.RcNeAt.lists_lengths t1 t2 (by simp;lia) (by lia)
theorem SM{e:D}(z:Hr s.heap d u)(h:Hr s.heap e w)(fd:cN n d=true)(G:cN n e=true)(F:A.units+n<k6):YW A s u w (aR d e):=by
 have j:A.units<cLine:=by lia
 cases d with
 |non=>
  cases z;cases e with
  |non=>
   cases h;simpa [aR,UQ] using SeqAt.RcAt.none_none
  |bl y=>
   cases h;simpa [aR] using SeqAt.RcAt.none_bool y
  |int y=>
   obtain⟨f,rfl⟩:=h;simpa [aR] using SeqAt.RcAt.none_int y f
  |str y=>
   obtain⟨f,rfl⟩:=h;simpa [aR] using SeqAt.RcAt.none_str y f
  |tup y=>
   obtain⟨v,l,rfl,ty,q⟩:=h;simpa [aR] using SeqAt.RcAt.none_tuple ty j
  |lst y=>
   obtain⟨v,l,rfl,ty,q⟩:=h;simpa [aR] using SeqAt.RcAt.none_list ty j
  |_=>exact(show False from h).elim
 |bl x=>
  cases z;cases e with
  |non=>
   cases h;simpa [aR] using SeqAt.RcAt.bool_none x
  |bl y=>
   cases h;simpa [aR,UQ] using SeqAt.RcAt.bool_bool x y
  |int y=>
   obtain⟨f,rfl⟩:=h;simpa [aR,UQ] using SeqAt.RcAt.bool_int x y f
  |str y=>
   obtain⟨f,rfl⟩:=h;simpa [aR] using SeqAt.RcAt.bool_str x y f
  |tup y=>
   obtain⟨v,l,rfl,ty,q⟩:=h;simpa [aR] using SeqAt.RcAt.bool_tuple x ty j
  |lst y=>
   obtain⟨v,l,rfl,ty,q⟩:=h;simpa [aR] using SeqAt.RcAt.bool_list x ty j
  |_=>exact(show False from h).elim
 |int x=>
  obtain⟨m,rfl⟩:=z;cases e with
  |non=>
   cases h;simpa [aR] using SeqAt.RcAt.int_none x m
  |bl y=>
   cases h;simpa [aR,UQ] using SeqAt.RcAt.int_bool x m y
  |int y=>
   obtain⟨f,rfl⟩:=h;simpa [aR,UQ] using SeqAt.RcAt.int_int x m y f
  |str y=>
   obtain⟨f,rfl⟩:=h;simpa [aR] using SeqAt.RcAt.int_str x m y f
  |tup y=>
   obtain⟨v,l,rfl,ty,q⟩:=h;simpa [aR] using SeqAt.RcAt.int_tuple x m ty j
  |lst y=>
   obtain⟨v,l,rfl,ty,q⟩:=h;simpa [aR] using SeqAt.RcAt.int_list x m ty j
  |_=>exact(show False from h).elim
 |str x=>
  obtain⟨m,rfl⟩:=z;cases e with
  |non=>
   cases h;simpa [aR] using SeqAt.RcAt.str_none x m
  |bl y=>
   cases h;simpa [aR] using SeqAt.RcAt.str_bool x m y
  |int y=>
   obtain⟨f,rfl⟩:=h;simpa [aR] using SeqAt.RcAt.str_int x m y f
  |str y=>
   obtain⟨f,rfl⟩:=h;simpa [aR,UQ] using SeqAt.RcAt.str_str x m y f
  |tup y=>
   obtain⟨v,l,rfl,ty,q⟩:=h;simpa [aR] using SeqAt.RcAt.str_tuple x m ty j
  |lst y=>
   obtain⟨v,l,rfl,ty,q⟩:=h;simpa [aR] using SeqAt.RcAt.str_list x m ty j
  |_=>exact(show False from h).elim
 |tup x=>
  obtain⟨I,C,rfl,o,E⟩:=z;cases e with
  |non=>
   cases h;simpa [aR] using SeqAt.RcAt.tuple_none o j
  |bl y=>
   cases h;simpa [aR] using SeqAt.RcAt.tuple_bool y o j
  |int y=>
   obtain⟨f,rfl⟩:=h;simpa [aR] using SeqAt.RcAt.tuple_int y f o j
  |str y=>
   obtain⟨f,rfl⟩:=h;simpa [aR] using SeqAt.RcAt.tuple_str y f o j
  |tup y=>
   obtain⟨v,l,rfl,ty,q⟩:=h;exact Oy o ty E q fd G F
  |lst y=>
   obtain⟨v,l,rfl,ty,q⟩:=h;simpa [aR] using SeqAt.RcAt.tuple_list o ty j
  |_=>exact(show False from h).elim
 |lst x=>
  obtain⟨I,C,rfl,o,E⟩:=z;cases e with
  |non=>
   cases h;simpa [aR] using SeqAt.RcAt.list_none o j
  |bl y=>
   cases h;simpa [aR] using SeqAt.RcAt.list_bool y o j
  |int y=>
   obtain⟨f,rfl⟩:=h;simpa [aR] using SeqAt.RcAt.list_int y f o j
  |str y=>
   obtain⟨f,rfl⟩:=h;simpa [aR] using SeqAt.RcAt.list_str y f o j
  |tup y=>
   obtain⟨v,l,rfl,ty,q⟩:=h;simpa [aR] using SeqAt.RcAt.list_tuple o ty j
  |lst y=>
   obtain⟨v,l,rfl,ty,q⟩:=h;exact NQ o ty E q fd G F
  |_=>exact(show False from h).elim
 |_=>exact(show False from z).elim
theorem Jg{e:D}(z:Hr s.heap d u)(h:Hr s.heap e w)(fd:cN n d=true)(G:cN n e=true)(F:A.units+n<k6):Yv A s u w (!aR d e):=by
 have j:A.units<cLine:=by lia
 cases d with
 |non=>
  cases z;cases e with
  |non=>
   cases h;simpa [aR,UQ] using SeqAt.RcNeAt.none_none
  |bl y=>
   cases h;simpa [aR] using SeqAt.RcNeAt.none_bool y
  |int y=>
   obtain⟨f,rfl⟩:=h;simpa [aR] using SeqAt.RcNeAt.none_int y f
  |str y=>
   obtain⟨f,rfl⟩:=h;simpa [aR] using SeqAt.RcNeAt.none_str y f
  |tup y=>
   obtain⟨v,l,rfl,ty,q⟩:=h;simpa [aR] using SeqAt.RcNeAt.none_tuple ty j
  |lst y=>
   obtain⟨v,l,rfl,ty,q⟩:=h;simpa [aR] using SeqAt.RcNeAt.none_list ty j
  |_=>exact(show False from h).elim
 |bl x=>
  cases z;cases e with
  |non=>
   cases h;simpa [aR] using SeqAt.RcNeAt.bool_none x
  |bl y=>
   cases h;simpa [aR,UQ] using SeqAt.RcNeAt.bool_bool x y
  |int y=>
   obtain⟨f,rfl⟩:=h;simpa [aR,UQ] using SeqAt.RcNeAt.bool_int x y f
  |str y=>
   obtain⟨f,rfl⟩:=h;simpa [aR] using SeqAt.RcNeAt.bool_str x y f
  |tup y=>
   obtain⟨v,l,rfl,ty,q⟩:=h;simpa [aR] using SeqAt.RcNeAt.bool_tuple x ty j
  |lst y=>
   obtain⟨v,l,rfl,ty,q⟩:=h;simpa [aR] using SeqAt.RcNeAt.bool_list x ty j
  |_=>exact(show False from h).elim
 |int x=>
  obtain⟨m,rfl⟩:=z;cases e with
  |non=>
   cases h;simpa [aR] using SeqAt.RcNeAt.int_none x m
  |bl y=>
   cases h;simpa [aR,UQ] using SeqAt.RcNeAt.int_bool x m y
  |int y=>
   obtain⟨f,rfl⟩:=h;simpa [aR,UQ] using SeqAt.RcNeAt.int_int x m y f
  |str y=>
   obtain⟨f,rfl⟩:=h;simpa [aR] using SeqAt.RcNeAt.int_str x m y f
  |tup y=>
   obtain⟨v,l,rfl,ty,q⟩:=h;simpa [aR] using SeqAt.RcNeAt.int_tuple x m ty j
  |lst y=>
   obtain⟨v,l,rfl,ty,q⟩:=h;simpa [aR] using SeqAt.RcNeAt.int_list x m ty j
  |_=>exact(show False from h).elim
 |str x=>
  obtain⟨m,rfl⟩:=z;cases e with
  |non=>
   cases h;simpa [aR] using SeqAt.RcNeAt.str_none x m
  |bl y=>
   cases h;simpa [aR] using SeqAt.RcNeAt.str_bool x m y
  |int y=>
   obtain⟨f,rfl⟩:=h;simpa [aR] using SeqAt.RcNeAt.str_int x m y f
  |str y=>
   obtain⟨f,rfl⟩:=h;simpa [aR,UQ] using SeqAt.RcNeAt.str_str x m y f
  |tup y=>
   obtain⟨v,l,rfl,ty,q⟩:=h;simpa [aR] using SeqAt.RcNeAt.str_tuple x m ty j
  |lst y=>
   obtain⟨v,l,rfl,ty,q⟩:=h;simpa [aR] using SeqAt.RcNeAt.str_list x m ty j
  |_=>exact(show False from h).elim
 |tup x=>
  obtain⟨I,C,rfl,o,E⟩:=z;cases e with
  |non=>
   cases h;simpa [aR] using SeqAt.RcNeAt.tuple_none o j
  |bl y=>
   cases h;simpa [aR] using SeqAt.RcNeAt.tuple_bool y o j
  |int y=>
   obtain⟨f,rfl⟩:=h;simpa [aR] using SeqAt.RcNeAt.tuple_int y f o j
  |str y=>
   obtain⟨f,rfl⟩:=h;simpa [aR] using SeqAt.RcNeAt.tuple_str y f o j
  |tup y=>
   obtain⟨v,l,rfl,ty,q⟩:=h;exact Ic o ty E q fd G F
  |lst y=>
   obtain⟨v,l,rfl,ty,q⟩:=h;simpa [aR] using SeqAt.RcNeAt.tuple_list o ty j
  |_=>exact(show False from h).elim
 |lst x=>
  obtain⟨I,C,rfl,o,E⟩:=z;cases e with
  |non=>
   cases h;simpa [aR] using SeqAt.RcNeAt.list_none o j
  |bl y=>
   cases h;simpa [aR] using SeqAt.RcNeAt.list_bool y o j
  |int y=>
   obtain⟨f,rfl⟩:=h;simpa [aR] using SeqAt.RcNeAt.list_int y f o j
  |str y=>
   obtain⟨f,rfl⟩:=h;simpa [aR] using SeqAt.RcNeAt.list_str y f o j
  |tup y=>
   obtain⟨v,l,rfl,ty,q⟩:=h;simpa [aR] using SeqAt.RcNeAt.list_tuple o ty j
  |lst y=>
   obtain⟨v,l,rfl,ty,q⟩:=h;exact G4 o ty E q fd G F
  |_=>exact(show False from h).elim
 |_=>exact(show False from z).elim
section
variable{aaL:aa1}
mutual
theorem LO(I:Inv X aaL Z H s):∀{n:Nat}{d:D}{v:V}{u:ay},cN n d=true->Rp X.K H d v->RelV v u->Hr s.heap d u
 |_,.non,v,u,_,r,q=>by cases r;exact q
 |_,.bl _,v,u,_,r,q=>by cases r;exact q
 |_,.int _,v,u,_,r,q=>by cases r;exact q
 |_,.str _,v,u,_,r,q=>by cases r;exact q
 |n+1,.tup xs,v,u,f,r,q=>by
  obtain⟨p,l,rfl,t,r⟩:=r;cases q;obtain⟨aaR,j,h,_⟩:=I.tuple t.sq;exact#[p,aaR,rfl,h,gw I (n:=n) f r j]
 |n+1,.lst xs,v,u,f,r,q=>by
  obtain⟨p,l,rfl,t,r⟩:=r;cases q;obtain⟨aaR,j,h,_⟩:=I.list t.sq;exact#[p,aaR,rfl,h.isList,gw I (n:=n) f r j]
 |0,.tup _,_,_,f,_,_=>by simp[cN]at f
 |0,.lst _,_,_,f,_,_=>by simp[cN]at f
 |_,.ty _,_,_,f,_,_=>by simp[cN]at f
 |_,.ref _,_,_,f,_,_=>by simp[cN]at f
 |_,.mt _,_,_,f,_,_=>by simp[cN]at f
 |_,.ml _,_,_,f,_,_=>by simp[cN]at f
 |_,.fd _ _,_,_,f,_,_=>by simp[cN]at f
theorem gw(I:Inv X aaL Z H s):∀{n:Nat}{ds:List D}{vs:List V}{us:aaW},fits n ds=true->Rps X.K H ds vs->Vals vs us->Hrs s.heap ds us
 |_,[],vs,us,_,r,q=>by cases r;cases q;rfl
 |n,d::ds,vs,us,f,r,q=>by
  obtain⟨v,h,rfl,a,b⟩:=r;rw[fits,Vl]at f;cases q with
  |cons q1 q2=>exact#[_,_,rfl,LO I f.1 a q1,gw I f.2 b q2]
end
def dv(M:Mem):D->D
 |.ref a=>match M a with
  |some (.lst xs)=>.lst xs
  |_=>.ref a
 |d=>d
theorem qC(I:Inv X aaL Z H s)(o:RepH X.K H M)(f:cN n (dv M d)=true)(r:Rp X.K H d v)(q:RelV v u):Hr s.heap (dv M d) u:=by
 cases d with
 |ref a=>
  cases r;simp[dv]at f ⊢
  split at f
  .rename_i y e
   obtain⟨w,l,j⟩:=o _ _ e;obtain⟨aaR,m,h,_⟩:=I.list (SqL.of l);cases q;cases n with
   |zero=>trivial
   |succ n=>exact#[a,_,rfl,h.isList,gw I f j m]
  trivial
 |_=>exact LO I f r q
def bR:g8:=λx y M Q=>cN 60 (dv M x)=true/\cN 60 (dv M y)=true/\Q (.bl<|aR (dv M x)<|dv M y) M
def pG:g8:=λx y M Q=>cN 60 (dv M x)=true/\cN 60 (dv M y)=true/\Q (.bl<|!aR (dv M x) (dv M y)) M
theorem F_(F:X.A.units+64<k6):cM X (hW .Eq) (liftR2 X bR):=by
 rintro aaL s Z H x y v u Q I m z ⟨C,E,M,QQ,f,q,o,⟨j,l,h⟩,w⟩
 exact SM (qC I f j q m) (qC I f l o z) j l (by lia) _ _ _ _ #[.bl _,H,I,rfl,w _ M h _ H f Frm.refl rfl]
theorem NG(F:X.A.units+64<k6):cM X (hW .NotEq) (liftR2 X pG):=by
 rintro aaL s Z H x y v u Q I m z ⟨C,E,M,QQ,f,q,o,⟨j,l,h⟩,w⟩
 exact Jg (qC I f j q m) (qC I f l o z) j l (by lia) _ _ _ _ #[.bl _,H,I,rfl,w _ M h _ H f Frm.refl rfl]
open Classical in
noncomputable def MZ(h:g4)(x:D)(u:ay):Bool:=if q:∃d,Hr h d u then aR q.choose x else cp
theorem Ia{x:D}(r:Hr h d u):MZ h x u=aR d x:=by
 have q:∃d,Hr h d u:=#[d,r];unfold MZ;rw[dif_pos q,F2 q.choose_spec r]
theorem jz{x:D}:∀{ds:List D}{us:aaW},Hrs h ds us->us.any (MZ h x)=ds.any λd=>aR d x
 |[],_,r=>by cases r;rfl
 |d::ds,_,r=>by
  obtain⟨v,f,rfl,a,b⟩:=r;rw[Wo,Wo,Ia a,jz b]
theorem iR{n:Nat}{x:D}(m:Hr s.heap x w)(l:cN n x=true)(j:A.units+n<k6):∀{ds:List D}{us:aaW},Hrs s.heap ds us->fits n ds=true->∀u∈us,Xb A s u w (MZ s.heap x u)
 |[],_,r,_,u,j=>by cases r;cases j
 |d::ds,_,r,f,u,h=>by
  obtain⟨v,o,rfl,a,b⟩:=r;rw[fits,Vl]at f;rcases Uj.mp h with rfl|h
  .rw[Ia a];exact M_ n a m f.1 l j
  exact iR m l j b f.2 u h
def iD(M:Mem)(x y:D):Option Bool:=match aQ M y with
 |some xs=>if cN 60 (dv M x)=true/\fits 60 xs=true then ap (xs.any λd=>aR d (dv M x)) else bb
 |none=>match y with
  |.ref a=>match vb M a x with
   |some o=>ap o.isSome
   |none=>bb
  |_=>bb
def vI:g8:=λx y M Q=>so (iD M x y) λk=>Q (.bl k) M
def nU:g8:=λx y M Q=>so (iD M x y) λk=>Q (.bl<|!k) M
theorem FW(U:X.A.units+64<k6):cM X (hW .In) (liftR2 X vI):=by
 rintro aaL s Z H x y v u Q I m E ⟨C,S,M,QQ,l,z,G,h,J⟩
 unfold vI at h;obtain⟨k,e,h⟩:=h.inv;have fin:=J _ M h _ H l Frm.refl rfl;unfold iD at e
 split at e
 .rename_i R N
  split at e
  .rename_i f
   cases e;obtain⟨p,T,rfl,hq,r⟩:=jn l G N;cases E;have F:=qC I l f.1 z m;rcases hq with hq|hq
   .obtain⟨aaR,q,pl,_⟩:=I.list hq
    have j:=gw I f.2 r q;refine SeqAt.in_listAt _ pl.isList (λw L=>iR F f.1 (by show X.A.units+1+60<k6;lia) j f.2 w (by simp_all)) #[.bl _,H,I,rfl,?_]
    rw[show aaR.toArray.any _=aaR.any (MZ s.heap<|dv M C) by simp,jz j]
    exact fin
   obtain⟨aaR,q,pl,_⟩:=I.tuple hq;have j:=gw I f.2 r q;refine SeqAt.in_tupleAt _ pl (λw L=>iR F f.1 (by show X.A.units+1+60<k6;lia) j f.2 w (by simp_all)) #[.bl _,H,I,rfl,?_]
   rw[show aaR.toArray.any _=aaR.any (MZ s.heap<|dv M C) by simp,jz j]
   exact fin
  cases e
 split at e
 .split at e
  .rename_i o P
   cases e;cases G;cases E;rcases rb l z P with⟨rfl,g⟩|⟨d,w,rfl,g,_⟩
   .exact Tu (by lia) I g m λO I'=>#[.bl _,H,I',rfl,fin]
   exact Tu (by lia) I g m λO I'=>#[.bl _,H,I',rfl,fin]
  cases e
 cases e
theorem Dj(U:X.A.units+64<k6):cM X (hW .NotIn) (liftR2 X nU):=by
 rintro aaL s Z H x y v u Q I m E ⟨C,S,M,QQ,l,z,G,h,J⟩
 unfold nU at h;obtain⟨k,e,h⟩:=h.inv;have fin:=J _ M h _ H l Frm.refl rfl;unfold iD at e
 split at e
 .rename_i R N
  split at e
  .rename_i f
   cases e;obtain⟨p,T,rfl,hq,r⟩:=jn l G N;cases E;have F:=qC I l f.1 z m;rcases hq with hq|hq
   .obtain⟨aaR,q,pl,_⟩:=I.list hq
    have j:=gw I f.2 r q;refine SeqAt.notIn_listAt _ pl.isList (λw L=>iR F f.1 (by show X.A.units+1+60<k6;lia) j f.2 w (by simp_all)) #[.bl _,H,I,rfl,?_]
    rw[show aaR.toArray.any _=aaR.any (MZ s.heap<|dv M C) by simp,jz j]
    exact fin
   obtain⟨aaR,q,pl,_⟩:=I.tuple hq;have j:=gw I f.2 r q;refine SeqAt.notIn_tupleAt _ pl (λw L=>iR F f.1 (by show X.A.units+1+60<k6;lia) j f.2 w (by simp_all)) #[.bl _,H,I,rfl,?_]
   rw[show aaR.toArray.any _=aaR.any (MZ s.heap<|dv M C) by simp,jz j]
   exact fin
  cases e
 split at e
 .split at e
  .rename_i o P
   cases e;cases G;cases E;rcases rb l z P with⟨rfl,g⟩|⟨d,w,rfl,g,_⟩
   .exact zL (by lia) I g m λO I'=>#[.bl _,H,I',rfl,fin]
   exact zL (by lia) I g m λO I'=>#[.bl _,H,I',rfl,fin]
  cases e
 cases e
end
structure DEnds where
 nx:Dl->Mem->Prop
 rt:DK
 bk:Dl->Mem->Prop:=λ_ _=>False
 ct:Dl->Mem->Prop:=λ_ _=>False
abbrev ar:=DEnds->Dl->Mem->Prop
def UpN(X:Cx)(B:Bd)(M:Mem)(H:Hp)(QQ:Dl->Mem->Prop)(Q:_2.St->Hp->Prop):Prop:=∀U M',QQ U M'->∀Z H',Frm M H M' H'->SR X B U M' Z H'->Q Z H'
theorem UpN.go{M1:Mem}(u:UpN X B M H QQ Q)(i:Frm M H M1 H1):UpN X B M1 H1 QQ Q:=λU M q Z H' a=>u U M q Z H' (i.trans a)
structure UpD(X:Cx)(B:Bd)(M:Mem)(H:Hp)(DD:DEnds)(D:Ends):Prop where
 nx:UpN X B M H DD.nx D.nx
 rt:Up X.K M H DD.rt D.rt
 bk:UpN X B M H DD.bk D.bk
 ct:UpN X B M H DD.ct D.ct
theorem UpD.go{M1:Mem}{D:Ends}(u:UpD X B M H DD D)(i:Frm M H M1 H1):UpD X B M1 H1 DD D:=#[u.nx.go i,u.rt.go i,u.bk.go i,u.ct.go i]
inductive liftS(X:Cx)(B:Bd)(T:ar)(D:Ends)(Z:St)(H:Hp):Prop
 |mk (U:Dl) (M:Mem) (DD:DEnds) (s:SR X B U M Z H) (h:T DD U M) (u:UpD X B M H DD D):liftS X B T D Z H
def DS(X:Cx)(B:Bd)(st:ol)(T:ar):Prop:=PS X st (liftS X B T)
def A0(X:Cx)(B:Bd)(st:aaZ)(T:ar):Prop:=C1 X st (liftS X B T)
section
variable{u:ar}
def aB:ar:=λD U M=>D.nx U M
def ai(t u:ar):ar:=λD U M=>t { D with nx:=u D } U M
theorem J5:A0 X B [] aB:=nX IV (by rintro D Z H ⟨U,M,DD,s,h,f⟩;exact f.nx U M h Z H Frm.refl s)
theorem e_(v:DS X B st t)(o:A0 X B rest u):A0 X B (st::rest) (ai t u):=by
 refine nX (FE v o) ?_
 rintro D Z H ⟨U,M,DD,s,h,f⟩
 exact#[U,M,_,s,h,#[λj M' q l H' i m=>#[_,M',DD,m,q,f.go i],f.rt,f.bk,f.ct]]
theorem h_(f:DS X B st t):A0 X B [st] t:=IY f
def b6(te:ba):ar:=λD U M=>te U M λ_ M1=>D.nx U M1
theorem JM(l:DE X B e te)(m:pb e bb pos.line X.env=pure false:=by rfl):DS X B (.Expr e pos) (b6 te):=by
 refine ce (Lr l m) ?_
 rintro D Z H ⟨U,M,DD,s,h,f⟩
 exact#[U,M,_,s,h,λd M' q v H' j i r=>f.nx U M' q Z H' i (s.go j i)]
def az(te:ba):ar:=λD U M=>te U M D.rt
theorem Qc(j:DE X B e te):DS X B (.Return (ap e) pos) (az te):=by
 refine ce (Qj j) ?_
 rintro D Z H ⟨U,M,DD,s,h,f⟩
 exact#[U,M,_,s,h,f.rt]
def aE(c:eW)(t u:ar):ar:=λD U M=>c U M λb M1=>if b=true then t D U M1 else u D U M1
theorem TV{a b:aaZ}(v:DT X B c f)(o:A0 X B a t)(m:A0 X B b u):DS X B (.If c a b pos) (aE f t u):=by
 refine ce (TQ v o m) ?_
 rintro D Z H ⟨U,M,DD,s,h,j⟩
 refine#[U,M,_,s,h,λc M' q H' l i=>?_];cases c with
 |_=>exact#[U,M',DD,s.go l i,q,j.go i]
abbrev k4:=D->Dl->Mem->(Dl->Mem->Prop)->Prop
abbrev pC:=List D->Dl->Mem->(Dl->Mem->Prop)->Prop
inductive liftG(X:Cx)(B:Bd)(g:k4)(v:V)(Z:St)(H:Hp)(Q:St->Hp->Prop):Prop
 |mk (d:_3.D) (U:Dl) (M:Mem) (QQ:Dl->Mem->Prop) (s:SR X B U M Z H) (r:Rp X.K H d v) (h:g d U M QQ) (u:UpN X B M H QQ Q):liftG X B g v Z H Q
inductive liftGs(X:Cx)(B:Bd)(g:pC)(vs:List V)(Z:St)(H:Hp)(Q:St->Hp->Prop):Prop
 |mk (ds:List _3.D) (U:Dl) (M:Mem) (QQ:Dl->Mem->Prop) (s:SR X B U M Z H) (r:Rps X.K H ds vs) (h:g ds U M QQ) (u:UpN X B M H QQ Q):liftGs X B g vs Z H Q
def DG(X:Cx)(B:Bd)(tg:eX)(g:k4):Prop:=PG X tg (liftG X B g)
def Tn(X:Cx)(B:Bd)(tgs:aaY)(g:pC):Prop:=Pe X tgs (liftGs X B g)
theorem md(h:PG X tg t)(w:∀v Z H Q,t' v Z H Q->t v Z H Q):PG X tg t':=λf s Z H v u Q I r q=>h _ s Z H v u Q I r (w v Z H Q q)
theorem uZ(h:Pe X tg t)(w:∀v Z H Q,t' v Z H Q->t v Z H Q):Pe X tg t':=λf s Z H v u Q I r q=>h _ s Z H v u Q I r (w v Z H Q q)
theorem SR.set(s:SR X B U M Z H)(r:Rp X.K H d v):SR X B (U.set i<|some d) M (Z.set i<|some v) H:=#[s.i0,s.rh,s.rs.set r]
def af(i:Nat):k4:=λd U M Q=>Q (U.set i<|some d) M
theorem K0(j:X.N.Nodup)(m:X.N[i]?=ap x)(f:DR X.env.scope x)(l:X.fn x=true\/X.env.scope.names.lookup x=ap .local:=by and_intros):DG X B (.Name x pos) (af i):=by
 refine md (Li j m f l) ?_
 rintro v Z H Q ⟨d,U,M,QQ,s,r,h,u⟩
 exact u _ M h _ H Frm.refl (s.set r)
def da:pC:=λf U M Q=>nil0 f (Q U M)
def aM(t:k4)(u:pC):pC:=λh U M Q=>cns h λd r=>t d U M λf M'=>u r f M' Q
theorem JI:Tn X B [] da:=by
 refine uZ La ?_
 rintro v Z H Q ⟨f,U,M,QQ,s,r,h,u⟩
 cases f with
 |nil=>exact#[r,u U M h Z H Frm.refl s]
 |cons _ _=>trivial
theorem GH{u:pC}(E:DG X B e t)(C:Tn X B es u)(F:(mu (e::es) X.env).map (·.2)=Z_ e X.env::(mu es X.env).map (·.2):=by rfl):Tn X B (e::es) (aM t u):=by
 refine uZ (FG E C F) ?_
 rintro v Z H Q ⟨f,U,M,QQ,s,r,h,z⟩
 cases f with
 |nil=>trivial
 |cons d f=>
  obtain⟨v1,o,rfl,y,m⟩:=r;exact#[v1,o,rfl,d,U,M,_,s,y,h,λj M' q l H' i w=>#[f,_,M',QQ,w,m.mf s.rh i,q,z.go i]]
def dk(n:Nat)(t:pC):k4:=λd U M Q=>onT d λf=>f.length=n/\t f U M Q
theorem NP(m:X.calm=true)(h:Tn X B es t)(o:(mu es X.env).length=n:=by rfl)(hst:(mu es X.env).findIdx? (·.1)=none:=by rfl):DG X B (.Tuple es k pos) (dk n t):=by
 refine md (Qk m h o hst) ?_
 rintro v Z H Q ⟨d,U,M,QQ,s,r,h,f⟩
 cases d with
 |tup xs=>
  obtain⟨p,l,rfl,j,r⟩:=r;exact#[p,l,rfl,j.sq,by rw[<- r.length];exact h.1,xs,U,M,QQ,s,r,h.2,f]
 |_=>exact h.elim
def aq(te:ba)(g:k4):ar:=λD U M=>te U M λx M1=>g x U M1 D.nx
theorem NZ(l:DE X B e te)(m:DG X B tg g)(o:swapsWithSole [tg] e pos.line X.env=pure false:=by rfl)(hw:swappedStores [tg] e X.env=pure none:=by rfl)(h1:(mu [tg] X.env).map (·.2)=[Z_ tg X.env]:=by rfl):DS X B (.Assign [tg] e pos) (aq te g):=by
 refine ce (OB l m o hw h1) ?_
 rintro D Z H ⟨U,M,DD,s,h,f⟩
 exact#[U,M,_,s,h,λd M' q v H' j i r=>#[d,U,M',_,s.go j i,r,q,f.nx.go i]]
theorem OS(o:X.N.Nodup)(w:X.N[i]?=ap x)(l:DR X.env.scope x)(m:DE X B e te)(y:pb e (ap<|.Name x pos') pos.line X.env=pure false:=by rfl)(hf:X.fn x=true\/X.env.scope.names.lookup x=ap .local:=by and_intros):
  DS X B (.Assign [.Name x pos'] e pos) (aq te<|af i):=by
 refine ce (Qt o w l m y hf) ?_
 rintro D Z H ⟨U,M,DD,s,h,f⟩
 exact#[U,M,_,s,h,λd M' q v H' j i r=>f.nx _ M' q _ H' i ((s.go j i).set r)]
def Fi(i:Nat)(te:ba)(r:g8):ar:=λD U M=>s2 (U[i]?) λx=>te U M λy M1=>r x y M1 λz M2=>D.nx (U.set i<|some z) M2
theorem PV{r:g8}(P:X.N.Nodup)(Q:X.N[i]?=ap x)(L:DR X.env.scope x)(O:DE X B e te)(S:Nx X m (liftR2 X r))(R:X.fn x=true\/X.env.scope.names.lookup x=ap .local:=by and_intros):
  DS X B (.AugAssign (.Name x pos') m e pos) (Fi i te r):=by
 refine ce (Qh P Q L O S R) ?_
 rintro D Z H ⟨U,M,DD,s,h,F⟩
 unfold Fi at h;obtain⟨l,q,h⟩:=h.inv;obtain⟨v,G,J⟩:=s.rs.get i l q;exact#[v,G,U,M,_,s,h,λy M1 C w H1 f i1 E=>#[l,y,M1,_,f,J.mf s.rh i1,E,C,λz M2 I T H2 j i2 o=>F.nx _ M2 I _ H2 (i1.trans i2) ((s.go j<|i1.trans i2).set o)]]
theorem Rc{g:Int->Int->Int}(h:Nx X m (ipI g)):Nx X m (liftR2 X (lj λi j=>.int (g i j))):=by
 rintro l s Z H x y v u Q I o E ⟨F,G,M,QQ,q,z,w,f,C⟩
 unfold lj at f
 replace f:=f.inv;obtain⟨_,rfl,f⟩:=f
 replace f:=f.inv;obtain⟨_,rfl,f⟩:=f
 cases z;cases w;exact h _ s Z H _ _ v u Q I o E #[_,_,rfl,rfl,C _ M f _ H q Frm.refl rfl]
abbrev HJ:g8:=lj λi j=>.int (i+j)
theorem Kb:Nx X .Add (liftR2 X HJ):=Rc Qq
def qS(o i v:D)(M:Mem)(Q:Mem->Prop):Prop:=onR o λa=>mSet (M a) (λxs=>onI i λk=>so (wQ xs.length k) λj=>Q (M.upd a<|.lst<|xs.set j v)) (λf=>so (cE i) λk=>f.length<sizeLine/\Q (M.upd a<|.dK<|eh f k v)) λf=>so (Dz i) λk=>f.length<sizeLine/\Q (M.upd a<|.dT<|eh f k v)
inductive liftSet(X:Cx)(o i v:V)(H:Hp)(Q:Hp->Prop):Prop
 |mk (d1 d2 d3:_3.D) (M:Mem) (QQ:Mem->Prop) (rh:RepH X.K H M) (r1:Rp X.K H d1 o) (r2:Rp X.K H d2 i) (r3:Rp X.K H d3 v) (h:qS d1 d2 d3 M QQ) (u:∀M',QQ M'->∀H',RepH X.K H' M'->Frm M H M' H'->Q H'):liftSet X o i v H Q
theorem Ip(hu:X.A.units+1<k6):Nu X (liftSet X):=by
 rintro aaL s Z H o i v ov iv u Q I ro ri rv ⟨d1,d2,d3,M,QQ,rh,r1,r2,r3,h,up⟩
 unfold qS at h
 replace h:=h.inv;obtain⟨a,rfl,h⟩:=h
 cases r1;cases ro
 replace h:=h.inv;rcases h with⟨xs,hM,h⟩|⟨aaN,hM,h⟩|⟨aaN,hM,h⟩
 .replace h:=h.inv;obtain⟨k,rfl,h⟩:=h
  cases r2;obtain⟨vs,h1,h2⟩:=rh _ _ hM;obtain⟨j,ej,h⟩:=h.inv;exact Fm _ s Z H (.ref a) _ v _ iv u Q I rfl ri rv #[a,vs,k,j,rfl,rfl,h1,by rw[<- h2.length];exact ej,up _ h _ (rh.put (by rw[h1];trivial) #[_,upd_same,(h2.set r3 j).mono<|Imm.upd<|by rw[h1];trivial])<|Frm.put<|.inr #[_,hM]]
 .obtain⟨ws,h1,h2⟩:=rh _ _ hM
  obtain⟨k,ek,h⟩:=h.inv;have ev:=gS r2 ek;subst ev;exact qk hu I (DPut.k h1<|by rw[<- h2.length];exact h.1) ri rv λs' I'=>#[_,I',up _ h.2 _ (rh.put (by rw[h1];trivial) #[_,upd_same,(h2.put k r3).mono<|Imm.upd<|by rw[h1];trivial])<|Frm.put<|.inr #[_,hM]]
 obtain⟨ws,h1,h2⟩:=rh _ _ hM;obtain⟨k,ek,h⟩:=h.inv;obtain⟨b,rfl,hb⟩:=oM r2 ek;exact qk hu I (DPut.t h1 hb<|by rw[<- h2.length];exact h.1) ri rv λs' I'=>#[_,I',up _ h.2 _ (rh.put (by rw[h1];trivial) #[_,upd_same,(h2.put k r3).mono<|Imm.upd<|by rw[h1];trivial])<|Frm.put<|.inr #[_,hM]]
def cW(to ti:ba):k4:=λv U M Q=>to U M λo M1=>ti U M1 λi M2=>qS o i v M2 λM3=>Q U M3
theorem Of{i:eX}(I:X.A.units+1<k6)(L:DE X B o to)(J:DE X B i m)(G:∀v,Z_ (.Subscript o i pos) X.env v=(do
   let ov <- qb [v] (fv o X.env)
   let iv <- qb [v,ov] (fv i X.env)
   L' pos
   qb [v,ov,iv] (setItem ov iv v)
   release [v,ov,iv] []):=by intro _;rfl):DG X B (.Subscript o i pos) (cW to m):=by
 refine md (O2 L J (Ip I) G) ?_
 rintro v Z H Q ⟨d,U,M,QQ,s,r,h,E⟩
 exact#[U,M,_,s,h,λx M1 z v1 H1 f i1 C=>#[U,M1,_,s.go f i1,z,λy M2 F v2 H2 l i2 q=>#[x,y,d,M2,_,l,C.mf f i2,q,r.mf s.rh (i1.trans i2),F,λM3 w H3 j i3=>E U M3 w Z H3 ((i1.trans i2).trans i3) (s.go j<|(i1.trans i2).trans i3)]]]
end
section
variable{f:Str}
def bV(f:Str)(v:D):List (Str×D)->List (Str×D)
 |[]=>[(f,v)]
 |(g,w)::r=>if g=f then (g,v)::r else (g,w)::bV f v r
theorem Rkv.lookup(h:Rkv K H fs j)(f:Str):(fs.lookup f=bb/\j.lookup f=bb)\/∃d v,fs.lookup f=ap d/\j.lookup f=ap v/\Rp K H d v:=by
 induction h with
 |nil=>exact .inl #[rfl,rfl]
 |@cons p q ps qs r t ih=>
  obtain⟨l,d⟩:=p;obtain⟨m,v⟩:=q;obtain⟨e,r⟩:=r;subst e;rw[XH,XH];cases w:f==l with
  |true=>exact .inr (by lia)
  |false=>exact ih
theorem putF_eq(f:Str)(v:V):∀h:List (Str×V),dB f v h=(match h with|[]=>[(f,v)]|(g,w)::r=>if g=f then (g,v)::r else (g,w)::dB f v r)
 |[]=>rfl
 |(g,w)::r=>by rw[dB]
theorem jB{K:Ug}{H:Hp}{f:Str}(h:Rp K H d v):∀{fs:List (Str×D)}{ws:List (Str×V)},Rkv K H fs ws->Rkv K H (bV f d fs) (_2.dB f v ws)
 |_,_,.nil=>.cons #[rfl,h] .nil
 |(k1,d1)::fs,(k2,v1)::ws,.cons r t=>by
  obtain⟨e,r⟩:=r;subst e;show Rkv K H (if k1=f then (k1,d)::fs else (k1,d1)::bV f d fs) (if k1=f then (k1,v)::ws else (k1,v1)::_2.dB f v ws)
  split
  .exact .cons #[rfl,h] t
  exact .cons #[rfl,r] (jB h t)
def aV(C:cb)(ta:ba)(f:Str):ba:=λU M Q=>ta U M λx M1=>onR x λa=>mN (M1 a) λC' fs=>C'=C/\so (fs.lookup f) λd=>Q d M1
theorem NR(c:Cls X.K C)(n:NoAttr X.K C f)(J:DE X B e ta)(I:kr e f X.env (fv e X.env)=fv e X.env:=by rfl):DE X B (.Attribute e f pos) (aV C ta f):=by
 refine aS (OM J I) ?_
 rintro Z H Q ⟨U,M,QQ,s,h,u⟩
 refine#[U,M,_,s,h,λx M1 j v1 H1 l i1 G=>?_]
 replace j:=j.inv;obtain⟨a,rfl,j⟩:=j
 cases G
 replace j:=j.inv;obtain⟨C',fs,q,j⟩:=j
 obtain⟨rfl,j⟩:=j;obtain⟨w,F,E,m⟩:=l _ _ q
 replace j:=j.inv;obtain⟨d,y,j⟩:=j
 rcases m.lookup f with⟨z,_⟩|⟨d',v,z1,z2,z3⟩
 .simp_all
 rw[y]at z1;cases z1;exact#[a,_,w,F,v,rfl,E,c,n,z2,u _ M1 j _ H1 l i1 z3]
def cA(C:cb)(ta tv:ba)(f:Str):ar:=λD U M=>tv U M λy M1=>ta U M1 λx M2=>onR x λa=>mN (M2 a) λC' fs=>C'=C/\fs.length<1000/\D.nx U (M2.upd a<|.ins C<|bV f y fs)
theorem Pn(c:Cls X.K C)(n:NoAttr X.K C f)(ha:DE X B o ta)(hv:DE X B value tv)(hs:pb value (ap<|.Attribute o f pos') pos.line X.env=pure false:=by rfl):DS X B (.Assign [.Attribute o f pos'] value pos) (cA C ta tv f):=by
 refine ce (Qp ha hv hs) ?_
 rintro D Z H ⟨U,M,DD,s,h,up⟩
 refine#[U,M,_,s,h,λy M1 h1 v1 H1 rh1 i1 r1=>?_];refine#[U,M1,_,s.go rh1 i1,h1,λx M2 h2 v2 H2 rh2 i2 r2=>?_]
 replace h2:=h2.inv;obtain⟨a,rfl,h2⟩:=h2
 cases r2;obtain⟨C',fs,hM,h2⟩:=h2.inv;obtain⟨rfl,hl,h2⟩:=h2;obtain⟨dx,ws,e1,e2⟩:=rh2 _ _ hM;have i3:Frm M2 H2 (M2.upd a<|.ins C'<|bV f y fs) (upd H2 a<|.ins C' dx<|_2.dB f v1 ws):=Frm.put (.inr #[_,hM]);exact#[a,C',dx,ws,rfl,e1,c,n,by rw[<- e2.length];exact hl,up.nx _ _ h2 Z _ ((i1.trans i2).trans i3)<|s.go (rh2.put (by rw[e1];trivial) #[dx,_,upd_same,(jB (r1.mf rh1 i2) e2).mono<|i3.imm rh2])<|(i1.trans i2).trans i3]
structure BxW(c:eW)(tb:ar)(D:DEnds):Type
structure BxF(g:k4)(tb:ar)(D:DEnds)(ok:Mem->Prop):Type
def cK(c:eW)(tb:ar)(D:DEnds)(bx:BxW c tb D):Nat->Dl->Mem->Prop
 |0,_,_=>False
 |n+1,U,M=>c U M λb M1=>if b=true then tb { D with nx:=cK c tb D bx n,ct:=cK c tb D bx n,bk:=D.nx } U M1 else D.nx U M1
def qI(c:eW)(tb:ar):ar:=λD U M=>∃n,cK c tb D #[] n U M
theorem HA(R:aas (eC X.prog X.w) X.A X.env X.xe)(S:DT X B c L)(Q:A0 X B j tb):DS X B (.While c j [] pos) (qI L tb):=by
 refine ce (Gx R S Q) ?_
 rintro D Z H ⟨U,M,DD,s,⟨n,h⟩,F⟩
 refine#[λm l H'=>∃δ' M',SR X B δ' M' l H'/\Frm M H M' H'/\cK L tb DD _ m δ' M',#[n,U,M,s,Frm.refl,h],?_]
 rintro m P H1 ⟨O,M1,I,i1,N⟩
 cases m with
 |zero=>trivial
 |succ m=>
  refine#[_,M1,_,I,N,λb M2 q H2 v i2=>?_];cases b with
  |false=>exact F.nx _ _ q _ H2 (i1.trans i2) (I.go v i2)
  |true=>
   exact#[_,λl H' z=>#[m,by lia,z],#[_,M2,_,I.go v i2,q,#[λG M3 J y H3 i3 E=>#[_,M3,E,(i1.trans i2).trans i3,J],(F.go<|i1.trans i2).rt,(F.go<|i1.trans i2).nx,λG M3 J y H3 i3 E=>#[_,M3,E,(i1.trans i2).trans i3,J]]]]
structure DIt where
 items:List D
 src:List (cb×List D)
def DIt.ok(I:DIt)(M:Mem):Prop:=∀p∈I.src,M p.1=ap (.lst p.2)
abbrev wt:=Dl->Mem->(DIt->Mem->Prop)->Prop
def SK(K:Ug)(H0:Hp)(it:DIt)(J:It):Prop:=∀(i:Nat)(H:Hp)(M:Mem),Imm H0 H->RepH K H M->it.ok M->
 (∀d,it.items[i]?=ap d->J.go i H/\∀x H',J.yld i H x H'->Frm M H M H'/\RepH K H' M/\Rp K H' d x)/\(it.items.length<=i->J.stop i H)
inductive liftI(X:Cx)(B:Bd)(T:wt)(Z:St)(H:Hp)(R:It->Hp->Prop):Prop
 |mk (U:Dl) (M:Mem) (RR:DIt->Mem->Prop) (s:SR X B U M Z H) (h:T U M RR) (u:∀it M',RR it M'->∀J H',RepH X.K H' M'->Frm M H M' H'->SK X.K H' it J->R J H'):liftI X B T Z H R
def DI(X:Cx)(B:Bd)(tg iter:eX)(T:wt):Prop:=PI X tg iter (liftI X B T)
theorem gR(h:PI X tg j t)(w:∀Z H Q,t' Z H Q->t Z H Q):PI X tg j t':=λl s Z H Q I q=>h _ s Z H Q I (w Z H Q q)
def jr(g:k4)(tb:ar)(DD:DEnds)(ok:Mem->Prop)(b:BxF g tb DD ok):List D->Dl->Mem->Prop
 |[],U,M=>ok M/\DD.nx U M
 |x::xs,U,M=>ok M/\g x U M λh M2=>tb { DD with nx:=jr g tb DD ok b xs,ct:=jr g tb DD ok b xs,bk:=DD.nx } h M2
def cV(wi:wt)(g:k4)(tb:ar):ar:=λD U M=>wi U M λh M1=>jr g tb D h.ok #[] h.items U M1
theorem KU{b:BxF g tb DD ok}(h:jr g tb DD ok b xs U M):ok M:=by
 cases xs with
 |_=>exact h.1
theorem QE(hp:aas (eC X.prog X.w) X.A X.env X.xe)(hc:X.calm=true)(hi:DI X B tg j S)(hg:DG X B tg g)(hb:A0 X B l tb)(hs:∀x,n7 j X.env x=pure x:=by intro _;rfl):DS X B (.For tg j l [] pos) (cV S g tb):=by
 refine ce (Oc hp hc hi hg hb hs) ?_
 rintro D Z H ⟨U,M,DD,s,h,L⟩
 refine#[U,M,_,s,h,λF M1 h1 J H1 y i1 hJ=>?_];refine#[λi m v H'=>m=F.items.length-i/\i<=F.items.length/\∃δ' M',SR X B δ' M' v H'/\Frm M1 H1 M' H'/\jr g tb DD _ _ (F.items.drop i) δ' M',#[_,rfl,by lia,U,M1,s.go y i1,Frm.refl,h1],?_]
 rintro i m σ2 H2 ⟨rfl,hi',T,M2,s2,i2,E⟩
 obtain⟨I,Q⟩:=hJ i H2 M2 (i2.imm y) s2.rh (KU E)
 by_cases q:i<F.items.length
 .rw[VA q]at E
  obtain⟨go,hy⟩:=I _ (Uc _);refine .inr #[go,_,λv H' z=>#[_,by omega,rfl,q,z],λx H3 hx=>?_]
  obtain⟨i3,G,W⟩:=hy x H3 hx;refine#[_,_,M2,_,s2.go G i3,W,E.2,λδ4 M4 h4 σ4 H4 i4 Y=>?_];have i14:=(i2.trans i3).trans i4;exact#[_,M4,_,Y,h4,#[λN M5 O R H5 i5 P=>#[_,M5,P,i14.trans i5,O],(L.go<|i1.trans i14).rt,(L.go<|i1.trans i14).nx,λN M5 O R H5 i5 P=>#[_,M5,P,i14.trans i5,O]]]
 rw[We (by omega)]at E
 exact .inl #[by lia,L.nx _ _ E.2 _ H2 (i1.trans i2) s2]
end
end _3
namespace _2
open PySem PySem.Spec PyProof.Rows
def Tg(K:Ug)(tl:TE):TI:=λZ H R=>tl Z H λx H1=>∃a b xs,x=.ref a/\m_ K b H1 a xs/\R (if b=true then Itl K a else Itt K a) H1
theorem JJ(z:PE X l j):PI X tg l (Tg X.K j):=by
 intro f s Z H R I h;refine bu (z _ s Z H _ I h) λv i m=>?_;obtain⟨x,H1,I1,n,r⟩:=m;obtain⟨a,b,A,e,g,q⟩:=r;subst e;cases n;cases b with
 |true=>
  obtain⟨c,w,p,u⟩:=I1.list g;refine vx p.isList ?_;refine#[_,_,_,_,H1,rfl,I1.kept λb o=>Ua _,Dt a _,#[_,Uh _ rfl,rfl,rfl],λb y=>?_,q];have e:b=i.heap.objs.size:=by simp_all
  subst e;exact I1.fpOk (by lia) (I1.hok.fresh<|by lia)
 |false=>
  obtain⟨c,w,p,u⟩:=I1.tuple g;refine wpAny_pyIter_tuple p ?_;refine#[_,_,_,_,H1,rfl,I1.kept λb o=>Ua _,x6 a _,#[_,Uh _ rfl,rfl,rfl],λb y=>?_,q];have e:b=i.heap.objs.size:=by simp_all
  subst e;exact I1.fpOk (by lia) (I1.hok.fresh<|by lia)
def NF(K:Ug)(t:TA):TI:=λZ H R=>t Z H λa H1=>∃b l xs,a=[.ref l]/\m_ K b H1 l xs/\R (Ite K b l) H1
theorem EN(L:Gl X "enumerate")(F:X.mg "enumerate"=bb)(E:PA X [a] r)(G:eg [a] X.env=[(cp,fv a X.env)]:=by rfl):
  PI X (.Tuple g M J) (.Call (.Name "enumerate" p) [a] [] pos) (NF X.K r):=by
 intro n s Z H R I h;refine Call_ (di I L F (by rfl:eT _=ap (.type "enumerate"))<|UR (bu (E _ _ s Z H _ I h) λN o v=>?_) G rfl)
 obtain⟨Q,H1,I1,y,i⟩:=v;obtain⟨b,l,O,e,i,q⟩:=i;subst e;obtain⟨S,rfl,j⟩:=y.one;cases j;obtain⟨A,T,sq,z⟩:=I1.src i;refine Dx sq λP m w x u=>?_;have I2:Inv X _ Z H1 _:=I1.kept (t':=o.toks) u;refine wpAny_pyIter_enum m ?_;refine#[_,_,_,_,H1,rfl,I2,Dk b l _ _ (by lia),#[#[_,m],w],λc C=>?_,q]
 have f:o.heap.objs.size<=c:=by
  rcases (by simpa using C) with e|e<;>rw[e]<;>first|exact Vv _ _|exact Uk _
 exact I1.fpOk f (I1.hok.fresh f)
end _2
namespace _3
open PySem _2
variable{H H':Hp}{M M':Mem}{i:Nat}{x:Str}{K:Ug}
def br(d:D)(xs:List D):List (cb×List D):=match d with
 |.ref a=>[(a,xs)]
 |_=>[]
theorem xA(o:RepH K H M)(r:Rp K H d v)(e:aQ M d=ap xs):∃p b,v=.ref p/\∀H' M',Imm H H'->RepH K H' M'->(∀q∈br d xs,M' q.1=ap (.lst q.2))->∃vs,m_ K b H' p vs/\Rps K H' xs vs:=by
 cases d with
 |tup ys=>
  cases e;obtain⟨p,vs,rfl,h,r⟩:=r;exact#[p,cp,rfl,λH' M' i _ _=>#[vs,(h.mono i).sq,r.mono i]]
 |lst ys=>
  cases e;obtain⟨p,vs,rfl,h,r⟩:=r;exact#[p,true,rfl,λH' M' i _ _=>#[vs,(h.mono i).sq,r.mono i]]
 |mt ys=>
  cases e;obtain⟨p,vs,rfl,h,r⟩:=r;exact#[p,cp,rfl,λH' M' i _ _=>#[vs,h.sq,r.mono i]]
 |ml ys=>
  cases e;obtain⟨p,vs,rfl,h,r⟩:=r;exact#[p,true,rfl,λH' M' i _ _=>#[vs,(h.mono i).sq,r.mono i]]
 |ref a=>
  refine#[a,true,r,λH' M' i c j=>?_];obtain⟨vs,m,l⟩:=c _ _ (j (a,xs)<|by simp[br])
  exact#[vs,SqL.of m,l]
 |_=>cases e
theorem xl(e:aQ M d=ap xs):∀q∈br d xs,M q.1=ap (.lst q.2):=by
 cases d with
 |ref a=>
  intro q b;have:q=(a,xs):=by simpa [br] using b
  simp[aQ]at e
  split at e
  .simp_all
  cases e
 |_=>intro q b;simp[br]at b
def bE(te:ba):wt:=λU M R=>te U M λd M1=>so (aQ M1 d) λb=>R #[b,br d b] M1
theorem P2(hl:DE X B l G):DI X B tg l (bE G):=by
 refine gR (JJ hl) ?_
 rintro Z H R ⟨U,M,RR,s,h,L⟩
 refine#[U,M,_,s,h,λd M1 y v H1 j i1 J=>?_];obtain⟨xs,e,y⟩:=y.inv;obtain⟨p,b,rfl,c⟩:=xA j J e;obtain⟨Y,S,_⟩:=c H1 M1 Imm.refl j (xl e);refine#[p,b,Y,rfl,S,L _ M1 y _ H1 j i1 λi H2 M2 i2 o z=>?_];obtain⟨O,m,F⟩:=c H2 M2 i2 o z;cases b with
 |_=>
  refine#[λd I=>?_,λq=>#[_,m,by rw[<- F.length];exact q]]
  obtain⟨w,A,u⟩:=F.get I;refine#[#[_,w,m,A],?_]
  rintro x H3 ⟨rfl,W⟩
  have:=W _ m;rw[A]at this;cases this;exact#[Frm.refl,o,u]
noncomputable def cQ(lo:Int)(n:Nat):List D:=(Ut n).map λ(i:Nat)=>D.int (lo+i)
def fb(t:eA):wt:=λU M R=>t U M λb M1=>one b λc=>onI c λj=>-(2 ^ 62)<=j/\j<2 ^ 62/\R #[cQ 0 j.toNat,[]] M1
theorem O5:SK K H #[cQ j n,[]] (Itr j n):=λi H2 M2 i2 l _=>by
 have c:(cQ j n).length=n:=by simp[cQ]
 refine#[λd q=>?_,λb=>by rw[c]at b;exact b]
 have m:i<n:=by
  rcases VL i n with h|h
  .exact h
  simp_all
 have o:d=.int (j+i):=by
  simp[cQ,YX m]at q
  simp_all
 subst o;refine#[m,?_]
 rintro x H3 ⟨rfl,rfl⟩
 exact#[Frm.refl,l,rfl]
theorem Cy(u:Gl X "range")(o:X.mg "range"=bb)(q:DA X B [a] ta)(y:eg [a] X.env=[(cp,fv a X.env)]:=by rfl):DI X B tg (.Call (.Name "range" p) [a] [] pos) (fb ta):=by
 refine gR (CY u o q y) ?_
 rintro Z H R ⟨U,M,RR,s,h,l⟩
 refine#[U,M,_,s,h,λds M1 b A H1 c i1 j=>?_]
 replace b:=b.inv;obtain⟨z,rfl,b⟩:=b
 replace b:=b.inv;obtain⟨_,rfl,b⟩:=b
 obtain⟨v,rfl,m⟩:=g6 (ds:=[]) j;cases m;exact#[_,rfl,b.1,b.2.1,l _ M1 b.2.2 _ H1 c i1 O5]
noncomputable def uV(xs:List D):List D:=(xs.zipIdx).map λp=>D.tup [.int (p.2:Nat),p.1]
theorem DB:(uV xs)[i]?=(xs[i]?).map λd=>D.tup [.int (i:Nat),d]:=by
 simp[uV];rfl
def vA(t:eA):wt:=λU M R=>t U M λc M1=>one c λd=>so (aQ M1 d) λb=>R #[uV b,br d b] M1
theorem Kk(hg:Gl X "enumerate")(hm:X.mg "enumerate"=bb)(ha:DA X B [a] ta)(hs:eg [a] X.env=[(cp,fv a X.env)]:=by rfl):
  DI X B (.Tuple elts x1 tp) (.Call (.Name "enumerate" p) [a] [] pos) (vA ta):=by
 refine gR (EN hg hm ha hs) ?_
 rintro Z H R ⟨U,M,RR,s,h,O⟩
 refine#[U,M,_,s,h,λds M1 j J H1 l i1 L=>?_]
 replace j:=j.inv;obtain⟨_,rfl,j⟩:=j
 obtain⟨v,rfl,rv⟩:=g6 (ds:=[]) L;obtain⟨xs,e,j⟩:=j.inv;obtain⟨p,b,rfl,c⟩:=xA l rv e;obtain⟨J,W,_⟩:=c H1 M1 Imm.refl l (xl e);refine#[b,p,J,rfl,W,O _ M1 j _ H1 l i1 λi H2 M2 i2 o A=>?_];obtain⟨S,m,I⟩:=c H2 M2 i2 o A;refine#[λd F=>?_,λy=>#[_,m,by rw[<- I.length];simpa [uV] using y]]
 rw[DB]at F;obtain⟨d0,u,rfl⟩:=Vc.mp F;obtain⟨w,G,z⟩:=I.get u;refine#[#[_,w,m,G],?_]
 rintro x H3 ⟨T,x',q,rfl,rfl,Y⟩
 have:=Y _ m;rw[G]at this;cases this;exact#[Frm.new q,o.new q,T,_,rfl,upd_same,.cons rfl<|.cons (z.mono<|Imm.new q) .nil]
noncomputable def sE(xs ys:List D):List D:=(xs.zip ys).map λp=>D.tup [p.1,p.2]
theorem Hn(h:(sE xs ys)[i]?=ap d):∃x y,xs[i]?=ap x/\ys[i]?=ap y/\d=.tup [x,y]:=by
 simp only[sE,Um,Vc]at h;obtain⟨⟨x,y⟩,b,rfl⟩:=h;rw[V1]at b;exact#[x,y,b.1,b.2,rfl]
def xS:List D->List (List D)->List (cb×List D)
 |d::ds,xs::xss=>br d xs++xS ds xss
 |_,_=>[]
abbrev SQ(M:Mem)(ds:List D)(xss:List (List D)):Prop:=V_ (λd xs=>aQ M d=ap xs) ds xss
structure Zps(xss:List (List D))(zs:List D):Prop where
 get:∀(i:Nat)(d:D),zs[i]?=ap d->∃ys,d=.tup ys/\xss.map (·[i]?)=ys.map ap
 stop:∀i:Nat,zs.length<=i->∃xs∈xss,xs.length<=i
theorem IP(u:RepH K H M)(h:SQ M ds c):∀{vs:List V},Rps K H ds vs->(∀q∈xS ds c,M q.1=ap (.lst q.2))/\
  ∃L:List (Bool×cb),vs=L.map (λp=>.ref p.2)/\L.length=c.length/\∀H' M',Imm H H'->RepH K H' M'->(∀q∈xS ds c,M' q.1=ap (.lst q.2))->
   V_ (λ(p:Bool×cb) xs=>∃us,m_ K p.1 H' p.2 us/\Rps K H' xs us) L c:=by
 induction h with
 |nil=>exact λr=>#[λq h=>by simp[xS]at h,[],r,rfl,λ_ _ _ _ _=>.nil]
 |cons h t ih=>
  rintro vs ⟨v,o,rfl,r,s⟩
  obtain⟨a,L,rfl,l,k⟩:=ih s;obtain⟨p,b,rfl,g⟩:=xA u r h;exact#[λq m=>(Ux.1 m).elim (xl h q) (a q),(b,p)::L,rfl,by simp[l],λH' M' i j ok=>.cons (g H' M' i j λq m=>ok q (U9 _ m)) (k H' M' i j λq m=>ok q (UP _ m))]
theorem Kh(im:Imm H H')(h:V_ (λ(p:Bool×cb) xs=>∃us,m_ K p.1 H p.2 us/\Rps K H xs us) L xss):∀{ys:List D}{zs:List V},xss.map (·[i]?)=ys.map ap->zs.length=L.length->
  (∀(j:Nat)(p:Bool×cb),L[j]?=ap p->∀us,m_ K p.1 H p.2 us->us[i]?=zs[j]?)->Rps K H' ys zs:=by
 induction h with
 |nil=>
  intro ys zs e l _;obtain rfl:=List.eq_nil_of_length_eq_zero l;cases ys<;>trivial
 |cons h t ih=>
  intro ys zs e l g;cases ys with
  |nil=>simp at e
  |cons y ys=>
   cases zs with
   |nil=>simp at l
   |cons z zs=>
    simp at e;obtain⟨us,sq,r⟩:=h;obtain⟨w,hw,rw'⟩:=r.get e.1;have:=g 0 _ rfl us sq;rw[hw]at this;cases this;exact .cons (rw'.mono im) (ih e.2 (by simpa using l) λj p ej=>g (j+1) p (by trivial))
theorem uY:∀{L:List (Bool×cb)}{xss:List (List D)},V_ P L xss->(∀p∈L,∃xs∈xss,P p xs)/\∀xs∈xss,∃p∈L,P p xs:=by
 intro L xss h
 induction h with
 |nil=>exact#[λp h=>by simp at h,λp h=>by simp at h]
 |cons h _ ih=>
  obtain⟨a,b⟩:=ih;refine#[λp c=>?_,λp c=>?_]
  .rcases Uj.1 c with rfl|m
   .exact#[_,.head _,h]
   .obtain⟨x,y,z⟩:=a p m;exact#[x,.tail _ y,z]
  .rcases Uj.1 c with rfl|m
   .exact#[_,.head _,h]
   .obtain⟨x,y,z⟩:=b p m;exact#[x,.tail _ y,z]
theorem Cg{f:List D->Mem->(DIt->Mem->Prop)->Prop}(hf:∀ds M1 R,f ds M1 R->∃b zs,(b.length=2\/b.length=3)/\SQ M1 ds b/\Zps b zs/\R #[zs,xS ds b] M1)(hg:Gl X "zip")(hm:X.mg "zip"=bb)(ha:DA X B (a::as) ta)(hs:eg (a::as) X.env=(cp,fv a X.env)::eg as X.env)(O:(PySem.backTo pos<|starEach as X.env).any (·.1)=cp):
  DI X B (.Tuple elts x1 tp) (.Call (.Name "zip" p) (a::as) [] pos) (λU M R=>ta U M λds M1=>f ds M1 R):=by
 refine gR (L6 hg hm ha hs O) ?_
 rintro Z H R ⟨U,M,RR,s,h,up⟩
 refine#[U,M,_,s,h,λds M1 I W H1 j i1 r1=>?_];obtain⟨b,zs,n,sq,z,I⟩:=hf _ _ _ I;obtain⟨ok,L,rfl,l,k⟩:=IP j sq r1;refine#[L,by lia,rfl,λp m=>?_,up _ M1 I _ H1 j i1 λi H2 M2 i2 o J=>?_]
 .obtain⟨A,_,c,h,_⟩:=(uY<|k H1 M1 Imm.refl j ok).1 p m
  exact#[c,h]
 have q:=k H2 M2 i2 o J;obtain⟨S,Y⟩:=uY q;refine#[λd hd=>?_,λG=>#[λp m=>?_,?_]]
 .obtain⟨ys,rfl,e⟩:=z.get i d hd
  refine#[λp m=>?_,?_]
  .obtain⟨A,u,c,h,r⟩:=S p m
   obtain⟨y,_,e⟩:=Ul.1 (e▸UI u);obtain⟨v,hv,_⟩:=r.get e.symm;exact#[c,v,h,hv]
  rintro x H3 ⟨T,W,F,rfl,rfl,hl,u⟩
  exact#[Frm.new F,o.new F,T,W,rfl,upd_same,Kh (Imm.new F) q e hl u]
 .obtain⟨A,_,c,h,_⟩:=S p m
  exact#[c,h]
 obtain⟨A,u,le⟩:=z.stop i G;obtain⟨p,m,c,h,r⟩:=Y A u;exact#[p,m,c,h,by rw[<- r.length];exact le]
def So(t:eA):wt:=λU M R=>t U M λh M1=>two h λd e=>so (aQ M1 d) λc=>so (aQ M1 e) λb=>R #[sE c b,br d c++br e b] M1
theorem Nz(F:Gl X "zip")(v:X.mg "zip"=bb)(A:DA X B [a,b] ta)(G:eg [a,b] X.env=[(cp,fv a X.env),(cp,fv b X.env)]:=by rfl)(hs2:eg [b] X.env=[(cp,fv b X.env)]:=by rfl):
  DI X B (.Tuple elts x1 tp) (.Call (.Name "zip" p) [a,b] [] pos) (So ta):=by
 refine Cg (λI M1 R h=>?_) F v A (by rw[G,hs2]) (by rw[hs2];rfl)
 replace h:=h.inv;obtain⟨d,e,rfl,h⟩:=h
 obtain⟨j,q,h⟩:=h.inv;obtain⟨c,m,h⟩:=h.inv;refine#[_,_,.inl rfl,.cons q (.cons m .nil),#[λi z s=>?_,λi u=>?_],by simpa [xS] using h]
 .obtain⟨x,y,l,o,rfl⟩:=Hn s
  exact#[_,rfl,by simp[l,o]]
 have:(sE j c).length=min j.length c.length:=by simp[sE]
 simp;lia
noncomputable def xN:Bd:=#[λ_ _=>True,λ_ _=>trivial]
inductive liftE0(K:Ug)(T:ba)(Z:_2.St)(H:Hp)(Q:VK):Prop
 |mk (U:Dl) (M:Mem) (QQ:DK) (rh:RepH K H M) (rs:RepS K H U Z) (h:T U M QQ) (u:Up K M H QQ Q):liftE0 K T Z H Q
inductive liftT0(K:Ug)(T:eW)(Z:_2.St)(H:Hp)(Q:Bool->Hp->Prop):Prop
 |mk (U:Dl) (M:Mem) (QQ:Bool->Mem->Prop) (rh:RepH K H M) (rs:RepS K H U Z) (h:T U M QQ) (u:UpT K M H QQ Q):liftT0 K T Z H Q
inductive liftG0(K:Ug)(g:k4)(v:V)(Z:_2.St)(H:Hp)(Q:_2.St->Hp->Prop):Prop
 |mk (d:D) (U:Dl) (M:Mem) (QQ:Dl->Mem->Prop) (rh:RepH K H M) (rs:RepS K H U Z) (r:Rp K H d v) (h:g d U M QQ) (u:∀δ' M',QQ δ' M'->∀σ' H',Frm M H M' H'->RepH K H' M'->RepS K H' δ' σ'->Q σ' H'):liftG0 K g v Z H Q
theorem HL(h:DE X xN e T):PE X e (liftE0 X.K T):=aS h (by rintro Z H Q ⟨U,M,QQ,b,c,h,u⟩;exact#[U,M,QQ,#[trivial,b,c],h,u])
theorem EZ(h:DG X xN e g):PG X e (liftG0 X.K g):=md h (by rintro v Z H Q ⟨d,U,M,QQ,rh,rs,r,h,u⟩;exact#[d,U,M,QQ,#[trivial,rh,rs],r,h,λb M' q c H' f s=>u _ M' q _ H' f s.rh s.rs])
theorem RepH.add(r:RepH K H M)(n:RepO K H a o):RepH K H (M.upd a o):=λb p e=>by
 by_cases c:b=a
 .simp_all
 rw[ae c]at e;exact r b p e
noncomputable def bX(ls:aaV)(js:List Nat)(U:Dl):Dl:=ls.map (λ_=>bb)++js.map λj=>(U[j]?).join
theorem RepS.start(r:RepS K H U Z)(ls:aaV)(b:List Nat):RepS K H (bX ls b U) (eU ls b Z):=by
 refine#[by simp[bX,eU],λi d e=>?_]
 unfold bX at e;unfold eU
 by_cases m:i<ls.length
 .grind
 rw[Vi (by simp_all),Um]at e
 rw[Vi (by simp_all)]
 cases h:b[i-ls.length]? with
 |none=>simp_all
 |some j=>
  have c:U[j]?=ap (ap d):=by
   cases z:U[j]?<;>simp_all
  obtain⟨v,l,o⟩:=r.get j d c
  simp_all
structure BxC(g:k4)(tt:eW)(te:ba)(ok:Mem->Prop)(Q:List D->Mem->Prop):Type
def cU(g:k4)(tt:eW)(te:ba)(ok:Mem->Prop)(Q:List D->Mem->Prop)(b:BxC g tt te ok Q):List D->List D->Dl->Mem->Prop
 |[],aaO,_,M=>ok M/\Q aaO M
 |x::xs,aaO,U,M=>ok M/\g x U M λh M2=>tt h M2 λc M3=>if c=true then te h M3 λy M4=>aaO.length<sizeLine/\cU g tt te ok Q b xs (aaO++[y]) h M4 else cU g tt te ok Q b xs aaO h M3
def aO(wi:wt)(ls:aaV)(js:List Nat)(g:k4)(tt:eW)(te:ba):ba:=λU M Q=>wi U M λc M1=>cU g tt te c.ok (λb M'=>∀p,M' p=bb->Q (.ref p) (M'.upd p<|.lst b)) #[] c.items [] (bX ls js U) M1
theorem Eh(h:cU g tt te ok Q b xs aaO U M):ok M:=by
 cases xs with
 |_=>exact h.1
theorem pU(h:liftE X B (aO wi ls js g tt te) Z H Q):Ee (liftI X B wi) ls js (liftG0 X.K g) (liftT0 X.K tt) (liftE0 X.K te) Z H Q:=by
 obtain⟨U,M,QQ,s,h,u⟩:=h;refine#[U,M,_,s,h,λit M1 h1 J H1 rh1 f1 hJ p hp=>?_];have hMp:=rh1.fresh hp
 refine#[λi m σ' H'=>m=it.items.length-i/\i<=it.items.length/\∃δ' M' aaO ys,RepH _ H' M'/\RepS _ H' δ' σ'/\H' p=ap (.lst ys)/\Rps X.K H' aaO ys/\M' p=bb/\Frm M1 H1 M' H'/\
   cU g tt te _ _ _ (it.items.drop i) aaO δ' M',
  #[_,rfl,by lia,_,M1,[],[],rh1.new hp,((s.rs.mono<|f1.imm s.rh).mono<|Imm.new hp).start ls js,upd_same,.nil,hMp,Frm.new hp,h1],?_]
 rintro i m σ2 H2 ⟨rfl,hi,δ2,M2,aaO,ys,rh2,rs2,hp2,ra2,hm2,f2,h2⟩
 have hok:=Eh h2;obtain⟨hgo,hstop⟩:=hJ i H2 M2 (f2.imm rh1) rh2 hok
 by_cases hlt:i<it.items.length
 .rw[VA hlt]at h2
  obtain⟨go,hy⟩:=hgo _ (Uc hlt);refine .inr #[go,_,λσ' H' z=>#[_,by omega,rfl,hlt,z],λx H3 hx=>?_]
  obtain⟨f3,rh3,rx⟩:=hy x H3 hx;refine#[_,_,M2,_,rh3,rs2.mono (f3.imm rh2),rx,h2.2,λδ4 M4 h4 σ4 H4 f4 rh4 rs4=>?_];refine#[_,M4,_,rh4,rs4,h4,λc M5 h5 H5 rh5 f5=>?_];have f35:=(f3.trans f4).trans f5;obtain⟨hp5,hm5⟩:=f35.keep p _ hp2 hm2;cases c with
  |false=>
   exact#[_,M5,_,ys,rh5,rs4.mono (f5.imm rh4),hp5,ra2.mf rh2 f35,hm5,f2.trans f35,h5]
  |true=>
   refine#[_,M5,_,rh5,rs4.mono (f5.imm rh4),h5,λy M6 h6 v6 H6 rh6 f6 r6=>?_];obtain⟨hp6,hm6⟩:=f6.keep p _ hp5 hm5;have f26:=f35.trans f6;have ra6:=ra2.mf rh2 f26;refine#[ys,hp6,by rw[<- ra6.length];exact h6.1,?_]
   have im:Imm H6 (upd H6 p<|.lst (ys++[v6])):=Imm.upd (by rw[hp6];trivial)
   refine#[_,M6,_,_,rh6.keep im λb o hb=>aw (by lia),((rs4.mono<|f5.imm rh4).mono<|f6.imm rh5).mono im,upd_same,(ra6.append<|.cons r6 .nil).mono im,hm6,?_,h6.2]
   refine#[λb w e n=>?_];obtain⟨e2,n2⟩:=(f2.trans f26).keep b w e n;exact#[by rw[aw (by lia)];exact e2,n2]
 rw[We (by omega)]at h2
 refine .inl #[hstop (by omega),u _ _ (h2.2 p hm2) _ H2 (rh2.add #[ys,hp2,ra2]) ?_ rfl]
 refine#[λb w e n=>?_];obtain⟨e1,n1⟩:=f1.keep b w e n;obtain⟨e2,n2⟩:=f2.keep b w e1 n1;exact#[e2,by rw[ae (aX e1 hp)];exact n2]
def OO(X:Cx)(B:Bd)(ifs:aaY)(T:eW):Prop:=Pz X ifs (liftT X B T)
def cP:eW:=λ_ M Q=>Q true M
theorem JU:OO X B [] cP:=(by rintro b s Z H Q I ⟨U,M,QQ,c,h,u⟩;exact JO _ s Z H Q I (u _ M h H c.rh Frm.refl))
theorem Lc(h:DT X B c t):OO X B [c] t:=Ki h
theorem ym(h:OO X xN es T):Pz X es (liftT0 X.K T):=λb s Z H Q I m=>by obtain⟨U,M,QQ,c,l,j,u⟩:=m;exact h _ s Z H Q I #[U,M,QQ,#[trivial,c,l],j,u]
theorem IL(o:X.calm=true)(co:CompOk X scope cl ls fs js)(m:DI X B tg iter wi)(j:∀(C:cb)(b:ca)(H₀:Hp)(c:aaX)(pl:aa1),DG (a_ X (ls++fs) scope cl C b H₀ c pl) xN tg g/\OO (a_ X (ls++fs) scope cl C b H₀ c pl) xN ifs tt/\DE (a_ X (ls++fs) scope cl C b H₀ c pl) xN elt te)(l:∀x,n7 iter X.env x=pure x:=by intro _;rfl):DE X B (.ListComp elt [#[tg,iter,ifs,0]] scope pos) (aO wi ls js g tt te):=
 aS (IS o co m (λC b H₀ c pl=>#[EZ (j C _ _ c pl).1,ym (j C _ _ c pl).2.1,HL (j C _ _ c pl).2.2]) l) λ_ _ _ h=>pU h
def fG(i:Nat)(t:ba):ar:=λD U M=>t U M λd M1=>D.nx (U.set i<|some d) M1
theorem IC(F:X.N.Nodup)(l:X.N[i]?=ap x)(A:DR X.env.scope x)(I:X.calm=true)(co:CompOk X scope cl ls fs js)(G:DI X B tg iter wi)(o:∀(C:cb)(b:ca)(H₀:Hp)(j:aaX)(pl:aa1),DG (a_ X (ls++fs) scope cl C b H₀ j pl) xN tg g/\OO (a_ X (ls++fs) scope cl C b H₀ j pl) xN ifs tt/\DE (a_ X (ls++fs) scope cl C b H₀ j pl) xN elt te)(m:pb (.ListComp elt [#[tg,iter,ifs,0]] scope pos) (ap<|.Name x u) c.line X.env=pure true:=by rfl)(hs:∀x,n7 iter X.env x=pure x:=by intro _;rfl)(hf:X.fn x=true\/X.env.scope.names.lookup x=ap .local:=by and_intros):
  DS X B (.Assign [.Name x u] (.ListComp elt [#[tg,iter,ifs,0]] scope pos) c) (fG i<|aO wi ls js g tt te):=by
 refine ce (Jb (g:=liftG0 _ g) (tt:=liftT0 _ tt) (te:=liftE0 _ te) F l A I co G (λC b H₀ j pl=>#[EZ (o C _ _ j pl).1,ym (o C _ _ j pl).2.1,HL (o C _ _ j pl).2.2]) m hs hf) ?_
 rintro D Z H ⟨U,M,DD,s,h,z⟩
 exact pU #[U,M,_,s,h,λd M' q v H' y f r=>z.nx _ M' q _ H' f ((s.go y f).set r)]
def fJ(i:Nat)(U:Dl)(M:Mem)(Q:Dl->Mem->Prop):Prop:=s2e U[i]? (λd=>onRe d (λa=>mLe (M a) (λb=>Q (U.set i<|some<|.lst b) (M.del a)) (Q U M)) (Q U M)) (Q U M)
def dg(t:ar)(i:Nat):ar:=λD U M=>t { D with nx:=λb M'=>fJ i b M' D.nx } U M
theorem tZ{α:Type}:∀{l:List α}{i:Nat}{x:α},l[i]?=ap x->l.set i x=l
 |[],_,_,h=>by simp at h
 |_::_,0,_,h=>by simp_all
 |_::_,i+1,_,h=>by rw[List.set_cons_succ,tZ (by simpa using h)]
theorem O9(i:Nat)(h:DS X B st t):DS X B st (dg t i):=by
 intro aaL s Z H D I ⟨U,M,DD,sr,hT,up⟩;refine bu (h _ s Z H { D with nx:=λσ' H'=>∃δ' M',fJ i _ M' _/\Frm M H M' H'/\SR X B _ M' _ H' } I #[U,M,_,sr,hT,#[λδ' M' q σ' H' f s'=>#[δ',M',q,f,s'],up.rt,up.bk,up.ct]]) λf s' q=>?_;cases f with
 |next=>
  obtain⟨σ',H',I',δ',M',q,f,s'⟩:=q;unfold fJ at q
  replace q:=q.inv;rcases q with⟨w,ea,q⟩|q
  .replace q:=q.inv;rcases q with⟨a,rfl,q⟩|q
   .replace q:=q.inv;rcases q with⟨xs,e,q⟩|q
    rotate_left
    .exact#[_,H',I',up.nx _ _ q _ H' f s']
    obtain⟨vs,h1,h2⟩:=s'.rh _ _ e;obtain⟨o,I2⟩:=Inv.freeze I' h1;have im:Imm H' (upd H' a<|.frz o<|.lst vs):=Imm.upd (by rw[h1];trivial)
    obtain⟨v,hv,rv⟩:=s'.rs.get i _ ea;cases rv;refine#[_,_,I2,up.nx _ _ q _ _ (f.trans<|Frm.del #[_,e]) #[B.go s'.i0 (Frm.del #[_,e]),s'.rh.freeze h1,?_]];have:=(s'.rs.mono im).set (i:=i) (d:=.lst xs) #[a,vs,rfl,#[o,upd_same],h2.mono im]
    rwa [tZ hv]at this
   exact#[_,H',I',up.nx _ _ q _ H' f s']
  exact#[_,H',I',up.nx _ _ q _ H' f s']
 |_=>exact q
abbrev DX:=cb->Mem->Prop
abbrev Sd:=List D->Mem->DK->DX->Prop
def m7(P:eS)(w:fx):pE:=λb H s E e c=>∃C,DN P w C b H s E e c
def UpX(K:Ug)(M:Mem)(H:Hp)(EE:DX)(E:XK):Prop:=∀C M',EE C M'->∀H',RepH K H' M'->Frm M H M' H'->E (.ref C) bb H'
def vo(K:Ug)(B:Bd)(EE:DX)(E:XK):Prop:=∀C M',EE C M'->∀H',RepH K H' M'->B.p M' H'->E (.ref C) bb H'
theorem UpX.go{M1:Mem}(u:UpX K M H EE E)(i:Frm M H M1 H1):UpX K M1 H1 EE E:=λC M' q H' a b=>u C M' q H' a (i.trans b)
def bh(K:Ug)(n:Nat)(T:Sd):Sp:=λb H Q E=>b.length=n/\∃ds M QQ EE,RepH K H M/\Rps K H ds b/\T ds M QQ EE/\Up K M H QQ Q/\UpX K M H EE E
def startN(N:aaV)(ds:List D):Dl:=ds.map ap++UG (N.length-ds.length) bb
theorem RepS.startN(N:aaV)(r:Rps K H ds vs):RepS K H (_3.startN N ds) (_2.start N vs):=by
 have h:=r.length;refine#[by simp[_3.startN,_2.start,h],λi d e=>?_]
 unfold _3.startN at e;unfold _2.start
 by_cases b:i<ds.length
 .rw[WU (by simp_all),Um,Uc b]at e
  have c:ds[i]=d:=by simpa using e
  obtain⟨v,j,l⟩:=r.get (by rw[Uc b,c])
  refine#[v,?_,l];rw[WU (by simp;lia),Um,j]
  rfl
 rw[Vi (by simp_all),Yz]at e
 simp_all
def drp(Q:DK)(d:D)(M':Mem):Prop:=∃M'',(∀b o,M'' b=ap o->M' b=ap o)/\Q d M''
def aJ(EE:DX)(C:cb)(M':Mem):Prop:=∃M'',(∀b o,M'' b=ap o->M' b=ap o)/\EE C M''
theorem ak(h:Q d M'):drp Q d M':=#[M',by lia,h]
theorem eI(h:EE C M'):aJ EE C M':=#[M',by lia,h]
theorem Frm.less(f:Frm M H M' H')(s:∀b o,M'' b=ap o->M' b=ap o):Frm M H M'' H':=#[λb u e n=>by
 obtain⟨c,h⟩:=f.keep b u e n;refine#[c,?_];cases q:M'' b<;>simp_all]
theorem Up.drp(u:Up K M H Q QV):Up K M H (_3.drp Q) QV:=(by rintro d M' ⟨_,s,q⟩ v H' c f r;exact u d _ q v H' (λb o e=>c b o (s b o e)) (f.less s) r)
theorem UpX.drp(u:UpX K M H EE E):UpX K M H (aJ EE) E:=(by rintro C M' ⟨_,s,q⟩ H' c f;exact u C _ q H' (λb o e=>c b o (s b o e)) (f.less s))
def aD(N:aaV)(T:DX->ar):Sd:=λb M Q EE=>T (aJ EE) { nx:=λ_ M'=>drp Q .non M',rt:=drp Q } (startN N b) M
theorem fnD(F:Fun K x aaM st f fd)(S:FnScope N ps (aP st))(I:∀(c:ay)(A:fy)(b:List Env)(s:ca)(H:Hp)(E:XK)(B:Bd)(EE:DX),Room k (A.deeper<|Wg aaM (aP st) s.heap.objs.size f c)->vo K B EE E->
   A0 (eM (m7 P w) P w K mg base N aaM (aP st) f c A b s H E) B (bv st) (T EE)):
  FnOk P w K mg base (m7 P w) (k+1) f fd ps (bh K ps.length<|aD N T):=by
 obtain⟨Y,L,kV,v,J,O,c,ct,G,rfl,lk,l⟩:=F.ex;refine Nb lk l S (λz H Q E h=>h.1) λA b s H z Q E o j=>?_;obtain⟨W,R,M,QQ,EE,rh,r,m,u,ux⟩:=j;exact#[_,I _ A _ s H E (Bd.of M H) _ o ux.drp,_,M,_,#[Frm.refl,rh,.startN N r],m,#[λU M' q Z H' f y=>u.drp _ M' q _ H' y.rh f rfl,u.drp,λU M' q=>q.elim,λU M' q=>q.elim]]
theorem eL:FnOk P w K mg base CX k f fd ps (bh K n λ_ _ _ _=>False):=
 #[λj H Q E h=>(by obtain⟨_,_,_,_,_,_,_,h,_⟩:=h;exact h.elim),λA b s H c l j Q E _ _ _ _ h=>(by obtain⟨_,_,_,_,_,_,_,h,_⟩:=h;exact h.elim)]
theorem Eg:bO (m7 P w) (eM (m7 P w) P w K mg base N aaM scope f l A b m H0 E) E:=by
 intro c Z H s e h I ⟨C,j⟩;exact j0 (SL _ Z H s e h (I.wish _) j) (λ_ _ z=>#[C,z]) λ_ _ z=>#[C,z]
theorem y8:bO (m7 P w) X E0:=(by rintro aaL Z H s e s' I ⟨C,hx⟩;exact(by
 obtain⟨_,_,_,_,_,_,_,_,_,_,_,_,hE⟩:=hx;trivial))
def Sub(M1 M:Mem):Prop:=∀b o,M1 b=ap o->M b=ap o
def Dis(M1 M M':Mem):Prop:=∀b o,M b=ap o->M1 b=bb->M' b=bb
noncomputable def plus(M' M1 M:Mem):Mem:=λb=>match M' b with
 |some o=>ap o
 |none=>match M1 b with
  |some _=>bb
  |none=>M b
theorem pX:plus M' M M=M':=by
 funext b;simp[plus];lia
structure BxQ(EE:DX)(Q:DK):Type
structure calls(T:Sd)(EE:DX)(ds:List D)(M:Mem)(Q:DK)(_:BxQ EE Q):Prop where
 go:∃M1,Sub M1 M/\T ds M1 (λd M'=>Dis M1 M M'->Q d (plus M' M1 M)) (λC M'=>Dis M1 M M'->EE C (plus M' M1 M))
section
variable{M1:Mem}
theorem RepH.sub(r:RepH K H M)(s:Sub M1 M):RepH K H M1:=λb o e=>r b o (s b o e)
theorem RepH.dis(r:RepH K H M)(f:Frm M1 H M' H'):Dis M1 M M':=λb o e n=>by
 obtain⟨u,q⟩:=(r b o e).obj;exact(f.keep b u q n).2
theorem RepH.plus(r:RepH K H M)(s:Sub M1 M)(h:RepH K H' M')(f:Frm M1 H M' H'):RepH K H' (plus M' M1 M):=λb o e=>by
 simp[_3.plus]at e
 split at e
 .rename_i j q;cases e;exact h b _ q
 split at e
 .cases e
 rename_i q n
 obtain⟨u,c⟩:=(r b o e).obj;exact(r b o e).keep (f.imm<|r.sub s) ((f.keep b u c n).1.trans c.symm)
theorem Frm.plus(s:Sub M1 M)(f:Frm M1 H M' H'):Frm M H (plus M' M1 M) H':=#[λb u e n=>by
 have c:M1 b=none:=by
  cases q:M1 b with
  |none=>rfl
  |some o=>rw[s b o q]at n;cases n
 obtain⟨h,j⟩:=f.keep b u e c;exact#[h,by simp[_3.plus,j,c,n]]]
theorem cz(h:calls T EE ds M Q b)(rh:RepH K H M)(r:Rps K H ds vs)(j:vs.length=n)(u:Up K M H Q QV)(ux:UpX K M H EE E):bh K n T vs H QV E:=by
 obtain⟨M1,s,h⟩:=h.go;exact#[j,ds,M1,_,_,rh.sub s,r,h,λd M' q v H' c f=>u d _ (q<|rh.dis f) v H' (rh.plus s c f) (f.plus s),λC M' q H' c f=>ux C _ (q<|rh.dis f) H' (rh.plus s c f) (f.plus s)]
theorem am(c:∀Q' E',(∀d M,Q d M->Q' d M)->(∀C M,EE C M->E' C M)->T ds M Q' E'):calls T EE ds M Q b:=
 #[M,λ_ _ e=>e,c _ _ (λd M' q _=>by rw[pX];exact q) λC M' q _=>by rw[pX];exact q]
def aj(T:Sd)(EE:DX)(n:Nat)(t:eA):ba:=λU M Q=>t U M λb M1=>b.length=n/\calls T EE b M1 Q #[]
theorem SR.ux(s:SR X B U M Z H)(ux:vo X.K B EE E):UpX X.K M H EE E:=λC M' q H' a b=>ux C M' q H' a (B.go s.i0 b)
theorem tW(F:FnOk X.prog X.w X.K X.mg X.base CX k f fd ps (bh X.K n T))(z:Room k X.A)(I:Gl X x)(v:X.mg x=ap (.ref f))(G:Vq X.K (.ref f)=true)(J:Binds X.K fd ps [])(q:bO CX X E)(ux:vo X.K B EE E)(y:DA X B (e::es) t)(c:(x==("__debug__":Str))=false:=by decide)(he:eg (e::es) X.env=(cp,fv e X.env)::eg es X.env:=by rfl)(hpl:(g3 pos<|starEach es X.env).any (·.1)=false:=by rfl):
  DE X B (.Call (.Name x p) (e::es) [] pos) (aj T EE n t):=by
 refine aS (Aa F z I v G J .nil q y c he hpl) ?_
 rintro Z H Q ⟨U,M,QQ,s,h,u⟩
 refine#[U,M,_,s,h,λO M1 l L H1 b i1 j=>?_];rw[U0];exact cz l.2 b j (by rw[<- j.length];exact l.1) (u.go i1) ((s.ux ux).go i1)
def dm(C:cb)(m:Str)(T:Sd)(EE:DX)(n:Nat)(ta:ba)(t:eA):ba:=λU M Q=>ta U M λx M1=>onR x λa=>mN (M1 a) λC' fs=>C'=C/\fs.lookup m=bb/\t U M1 λb M2=>b.length+1=n/\calls T EE (.ref a::b) M2 Q #[]
theorem Ka(he:DE X B o ta)(c:Cls X.K C)(hm:Meth X.K C m f)(F:FnOk X.prog X.w X.K X.mg X.base CX k f fd ps (bh X.K n T))(hr:Room k X.A)(hb:Binds X.K fd ps [])(Y:bO CX X E)(ux:vo X.K B EE E)(ha:DA X B (e::es) t)(y:eg (e::es) X.env=(cp,fv e X.env)::eg es X.env:=by rfl)(hpl:(g3 pos<|starEach es X.env).any (·.1)=false:=by rfl)(ht:fv (.Call (.Attribute o m aaQ) (e::es) [] pos) X.env=(do
   let ov <- fv o X.env
   L' aaQ.atName
   let (f,first) <- qb [ov] (B' ov m pl)
   Z5 pos f first (g3 pos<|starEach (e::es) X.env) (p1 pos<|keywordEach [] X.env)):=by rfl):
  DE X B (.Call (.Attribute o m aaQ) (e::es) [] pos) (dm C m T EE n ta t):=by
 refine aS (KA he c hm F hr hb .nil Y ha y hpl ht) ?_
 rintro Z H Q ⟨U,M,QQ,s,h,u⟩
 refine#[U,M,_,s,h,λx M1 b v H1 j i1 S=>?_]
 replace b:=b.inv;obtain⟨a,rfl,b⟩:=b
 cases S;obtain⟨C',fs,W,b⟩:=b.inv;obtain⟨rfl,hl,b⟩:=b;obtain⟨R,I,O,L⟩:=j _ _ W;have l:I.lookup m=none:=by
  rcases L.lookup m with⟨_,z⟩|⟨d,v,z,_⟩
  .exact z
  simp_all
 refine#[a,R,I,rfl,O,l,U,M1,_,s.go j i1,b,λds M2 J vs H2 q i2 G=>?_];rw[U0];exact cz J.2 q (.cons rfl G) (by rw[Uz,<- G.length];exact J.1) (u.go<|i1.trans i2) ((s.ux ux).go<|i1.trans i2)
theorem Ei(S:DE X B o ta)(c:Cls X.K C)(R:Meth X.K C m f)(F:FnOk X.prog X.w X.K X.mg X.base CX k f fd ps (bh X.K n T))(Y:Room k X.A)(hb:Binds X.K fd ps [])(O:bO CX X E)(ux:vo X.K B EE E)(W:fv (.Call (.Attribute o m aaQ) [] [] pos) X.env=(do
   let ov <- fv o X.env
   L' aaQ.atName
   let (f,first) <- qb [ov] (B' ov m pl)
   Z5 pos f first (g3 pos<|starEach [] X.env) (p1 pos<|keywordEach [] X.env)):=by rfl):
  DE X B (.Call (.Attribute o m aaQ) [] [] pos) (dm C m T EE n ta ag):=by
 refine aS (E9 S c R F Y hb .nil O W) ?_
 rintro Z H Q ⟨U,M,QQ,s,h,u⟩
 refine#[U,M,_,s,h,λx M1 b v H1 j i1 L=>?_]
 replace b:=b.inv;obtain⟨a,rfl,b⟩:=b
 cases L;obtain⟨C',fs,G,b⟩:=b.inv;obtain⟨rfl,hl,b⟩:=b;obtain⟨I,q,J,y⟩:=j _ _ G;have l:q.lookup m=none:=by
  rcases y.lookup m with⟨_,z⟩|⟨d,v,z,_⟩
  .exact z
  simp_all
 exact#[a,I,q,rfl,J,l,cz b.2 j (.cons rfl .nil) b.1 (u.go i1)<|(s.ux ux).go i1]
def iq(C:cb)(T:Sd)(EE:DX)(n:Nat)(t:eA):ba:=λU M Q=>t U M λb M1=>b.length+1=n/\∀a,M1 a=bb->calls T EE (.ref a::b) (M1.upd a<|.ins C []) (λd M2=>onN d (Q (.ref a) M2)) #[]
theorem KG(Mk':Mk X.K C f)(F:FnOk X.prog X.w X.K X.mg X.base CX k f fd ps (bh X.K n T))(hr:Room (k+1) X.A)(hg:Gl X x)(hm:X.mg x=ap (.ref C))(hb:Binds X.K fd ps [])(hx:bO CX X E)(ux:vo X.K B EE E)(ha:DA X B (e::es) t)(hdb:(x==("__debug__":Str))=false:=by decide)(he:eg (e::es) X.env=(cp,fv e X.env)::eg es X.env:=by rfl)(hpl:(g3 pos<|starEach es X.env).any (·.1)=false:=by rfl):
  DE X B (.Call (.Name x p) (e::es) [] pos) (iq C T EE n t):=by
 refine aS (JP Mk' F hr hg hm hb .nil hx ha hdb he hpl) ?_
 rintro Z H Q ⟨U,M,QQ,s,h,u⟩
 refine#[U,M,_,s,h,λds M1 h1 vs H1 rh1 i1 r1 a dx na ndx nex=>?_];rw[U0];have nx1:upd H1 dx (.own a) a=none:=by rw[aw (UN nex)];exact na
 have f2:Frm M1 H1 (M1.upd a<|.ins C []) (upd (upd H1 dx<|.own a) a<|.ins C dx []):=(Frm.new ndx).trans (Frm.put<|.inl nx1);refine cz (h1.2 a<|rh1.fresh na) ((rh1.new ndx).put (by rw[nx1];trivial) #[dx,[],upd_same,.nil]) (.cons rfl<|(r1.mono<|Imm.new ndx).mono<|Imm.new nx1) (by rw[Uz,<- r1.length];exact h1.1) (λd M2 h2 v H2 rh f r=>?_) ((s.ux ux).go<|i1.trans f2)
 cases d with
 |non=>exact#[r,u _ M2 h2 _ H2 rh ((i1.trans f2).trans f) rfl]
 |_=>exact(show False from h2).elim
end
section
variable{id:String}
abbrev wN:=D->List D->Mem->DK->Prop
inductive liftM(X:Cx)(r:wN)(x:V)(xs:List V)(H:Hp)(Q:VK):Prop
 |mk (d:D) (ds:List D) (M:Mem) (QQ:DK) (rh:RepH X.K H M) (rx:Rp X.K H d x) (rs:Rps X.K H ds xs) (h:r d ds M QQ) (u:Up X.K M H QQ Q):liftM X r x xs H Q
def iN(Ty:String)(r:wN)(to:ba)(t:eA):ba:=λU M Q=>to U M λx M1=>cH M1 x=ap Ty/\t U M1 λb M2=>r x b M2 Q
theorem Fe(l:RepH K H M)(r:Rp K H d v)(e:cH M d=ap Ty)(h:Ty="list"\/Ty="str"\/Ty="int"\/Ty="dict"):tyV K Ty v H:=by
 cases d with
 |non=>cases e;trivial
 |bl b=>cases e;trivial
 |int i=>cases r;cases e;rfl
 |str x=>cases r;cases e;rfl
 |tup xs=>cases e;trivial
 |lst xs=>
  cases e;obtain⟨p,s,rfl,u,r⟩:=r;exact .inl #[rfl,s,u.sq]
 |ref a=>
  cases r;simp[cH]at e
  split at e
  .rename_i q;cases e;obtain⟨c,j,m⟩:=l _ _ q;exact .inl #[rfl,c,SqL.of j]
  .rename_i q;cases e;obtain⟨c,j,m⟩:=l _ _ q;exact .inr (.inr<|.inl<|by simp_all)
  .rename_i q;cases e;obtain⟨c,j,m⟩:=l _ _ q;exact .inr (.inr<|.inl<|by simp_all)
  cases e
 |_=>cases e
theorem S6(J:Ty="list"\/Ty="str"\/Ty="int"\/Ty="dict")(O:U' Ty)(j:Slot Ty name id)(m:Y' (.builtin id)=pure (.type "method_descriptor"))(G:wq X id (liftM X r))(L:DE X B o to)(I:DA X B (e::es) t)(c:kr o name X.env (fv o X.env)=fv o X.env:=by rfl)(hfew:((g3 aaP<|starEach (e::es) X.env).all (λx=>!x.1)&&(p1 aaP<|keywordEach [] X.env).all (λx=>x.1.isSome)
   && decide ((e::es).length+([]:List pt).length+(if ([]:List pt).isEmpty then 0 else 1)<30))=true:=by rfl)(hline:(aaQ.endLine==aaP.line)=true:=by rfl)(hs:eg (e::es) X.env=(cp,fv e X.env)::eg es X.env:=by rfl)(hplain:(g3 aaP<|starEach es X.env).any (·.1)=false:=by rfl):
  DE X B (.Call (.Attribute o name aaQ) (e::es) [] aaP) (iN Ty r to t):=by
 refine aS (SF O j m G L I c hfew hline hs hplain) ?_
 rintro Z H Q ⟨U,M,QQ,s,h,u⟩
 exact#[U,M,_,s,h,λx M1 q v H1 b i1 y=>#[Fe b y q.1 J,U,M1,_,s.go b i1,q.2,λA M2 F R H2 l i2 z=>#[x,A,M2,QQ,l,y.mf b i2,z,F,u.go<|i1.trans i2]]]
theorem Pp(z:Ty="list"\/Ty="str"\/Ty="int"\/Ty="dict")(F:U' Ty)(j:Slot Ty name id)(l:Y' (.builtin id)=pure (.type "method_descriptor"))(y:wq X id (liftM X r))(A:DE X B o to)(b:kr o name X.env (fv o X.env)=fv o X.env:=by rfl)(hline:(aaQ.endLine==aaP.line)=true:=by rfl):DE X B (.Call (.Attribute o name aaQ) [] [] aaP) (iN Ty r to ag):=by
 refine aS (Oi F j l y A b hline) ?_
 rintro Z H Q ⟨U,M,QQ,s,h,u⟩
 exact#[U,M,_,s,h,λx M1 q v H1 c i1 m=>#[Fe c m q.1 z,#[x,[],M1,QQ,c,m,.nil,q.2,u.go i1]]]
def bf:wN:=λx c M Q=>onR x λa=>one c λy=>mL (M a) λb=>b.length<sizeLine/\Q .non (M.upd a<|.lst (b++[y]))
theorem xO:wq X "list.append" (liftM X bf):=by
 rintro aaL s Z H x vs v us Q I rx rv ⟨d,ds,M,QQ,rh,r,rs,h,up⟩
 unfold bf at h
 replace h:=h.inv;obtain⟨a,rfl,h⟩:=h
 replace h:=h.inv;obtain⟨y,rfl,h⟩:=h
 cases r;obtain⟨w,rfl,rw'⟩:=g6 (ds:=[]) rs;obtain⟨xs,hM,h⟩:=h.inv;obtain⟨ws,h1,h2⟩:=rh _ _ hM;exact CC _ s Z H _ _ v us Q I rx rv #[a,ws,w,rfl,rfl,h1,by rw[<- h2.length];exact h.1,up _ _ h.2 _ _ (rh.put (by rw[h1];trivial) #[_,upd_same,(h2.append<|by trivial).mono<|Imm.upd<|by rw[h1];trivial]) (Frm.put<|.inr #[_,hM]) rfl]
def DC:wN:=λx b M Q=>onR x λa=>nilOr b (mL (M a) λxs=>so xs[xs.length-1]? λy=>Q y (M.upd a<|.lst xs.dropLast)) λd=>onI d λi=>mL (M a) λxs=>so (wQ xs.length i) λk=>so xs[k]? λy=>Q y (M.upd a<|.lst<|xs.eraseIdx k)
theorem zJ:wq X "list.pop" (liftM X DC):=by
 rintro aaL s Z H x vs v us Q I rx rv ⟨d,ds,M,QQ,rh,r,rs,h,up⟩
 unfold DC at h
 replace h:=h.inv;obtain⟨a,rfl,h⟩:=h
 replace h:=h.inv;rcases h with⟨rfl,h⟩|⟨w,rfl,h⟩
 .cases r
  cases rs;obtain⟨xs,hM,h⟩:=h.inv;obtain⟨y,ey,h⟩:=h.inv;obtain⟨ws,h1,h2⟩:=rh _ _ hM;obtain⟨w,hw,rw'⟩:=h2.get ey;have im:Imm H (upd H a<|.lst ws.dropLast):=Imm.upd (by rw[h1];trivial)
  exact Pk _ s Z H _ _ v us Q I rx rv #[a,ws,w,rfl,rfl,h1,by rw[<- h2.length];exact hw,up _ _ h _ _ (rh.put (by rw[h1];trivial) #[_,upd_same,h2.dropLast.mono im]) (Frm.put<|.inr #[_,hM])<|rw'.mono im]
 replace h:=h.inv;obtain⟨i,rfl,h⟩:=h
 cases r;obtain⟨w0,rfl,rw0⟩:=g6 (ds:=[]) rs;cases rw0;obtain⟨xs,hM,h⟩:=h.inv;obtain⟨k,ek,h⟩:=h.inv;obtain⟨y,ey,h⟩:=h.inv;obtain⟨ws,h1,h2⟩:=rh _ _ hM;obtain⟨w,hw,rw'⟩:=h2.get ey;obtain⟨j1,j2,j3,j4⟩:=qH ek;have hz:=(I.lstM h1).1;have hs:sizeLine=16777216:=rfl;have hl:=h2.length;have im:Imm H (upd H a<|.lst<|ws.eraseIdx k):=Imm.upd (by rw[h1];trivial)
 exact Hv _ s Z H _ _ v us Q I rx rv #[a,ws,i,k,w,rfl,rfl,h1,by lia,by lia,by rw[<- hl];exact j1,hw,up _ _ h _ _ (rh.put (by rw[h1];trivial) #[_,upd_same,(h2.eraseIdx k).mono im]) (Frm.put<|.inr #[_,hM])<|rw'.mono im]
def iY:wN:=λx b M Q=>onR x λa=>nil0 b (mL (M a) λc=>Q .non (M.upd a<|.lst c.reverse))
theorem uF:wq X "list.reverse" (liftM X iY):=by
 rintro aaL s Z H x vs v us Q I rx rv ⟨d,ds,M,QQ,rh,r,rs,h,up⟩
 unfold iY at h
 replace h:=h.inv;obtain⟨a,rfl,h⟩:=h
 replace h:=h.inv;obtain⟨rfl,h⟩:=h
 cases r;cases rs;obtain⟨xs,hM,h⟩:=h.inv;obtain⟨ws,h1,h2⟩:=rh _ _ hM;exact wO _ s Z H _ _ v us Q I rx rv #[a,ws,rfl,rfl,h1,up _ _ h _ _ (rh.put (by rw[h1];trivial) #[_,upd_same,h2.reverse.mono<|Imm.upd<|by rw[h1];trivial]) (Frm.put<|.inr #[_,hM]) rfl]
def k9:List D->Option (List Str)
 |[]=>ap []
 |.str x::ds=>match k9 ds with
  |some xs=>ap (x::xs)
  |none=>bb
 |_=>bb
theorem uO:∀{ds:List D}{vs:List V}{xs:aaV},Rps K H ds vs->k9 ds=ap xs->vs=xs.map V.str
 |[],vs,xs,r,e=>by cases e;exact r
 |d::ds,vs,xs,r,e=>by
  obtain⟨v,l,rfl,a,b⟩:=r;cases d with
  |str c=>
   simp[k9]at e
   split at e
   .rename_i j h
    cases e;cases a;rw[uO b h];rfl
   cases e
  |_=>cases e
def iE:wN:=λx h M Q=>onT x λl=>one h λc=>onS c λz=>so (k9 l) λb=>b.length<=1000/\so (b.findIdx? λy=>decide (y=z)) λj=>Q (.int (j:Nat)) M
theorem xg:wq X "tuple.index" (liftM X iE):=by
 rintro l s Z H x vs v A Q I y W ⟨d,ds,M,QQ,G,r,L,h,O⟩
 unfold iE at h
 replace h:=h.inv;obtain⟨Y,rfl,h⟩:=h
 replace h:=h.inv;obtain⟨w9,rfl,h⟩:=h
 replace h:=h.inv;obtain⟨z,rfl,h⟩:=h
 obtain⟨p,ws,rfl,F,r⟩:=r;obtain⟨w,rfl,c⟩:=g6 (ds:=[]) L;cases c;obtain⟨b,u,h⟩:=h.inv;obtain⟨R,h⟩:=h;obtain⟨j,q,h⟩:=h.inv;have:=uO r u;subst this;rw[Xv]at q;obtain⟨hj,e1,J⟩:=q;refine Ct _ s Z H _ _ v A Q I y W #[p,_,z,j,rfl,rfl,F,R,?_,λm S=>?_,O _ M h _ H G Frm.refl rfl]
 .simp_all
 rw[Uc _];simpa using (J m S)
def Ik(r:wN)(to:ba)(t:eA):ba:=λU M Q=>to U M λx M1=>onT x λc=>t U M1 λb M2=>r (.tup c) b M2 Q
theorem R5(j:Slot "tuple" name id)(q:Y' (.builtin id)=pure (.type "method_descriptor"))(L:wq X id (liftM X r))(R:DE X B o to)(O:DA X B (e::es) t)(b:kr o name X.env (fv o X.env)=fv o X.env:=by rfl)(hfew:((g3 aaP<|starEach (e::es) X.env).all (λx=>!x.1)&&(p1 aaP<|keywordEach [] X.env).all (λx=>x.1.isSome)
   && decide ((e::es).length+([]:List pt).length+(if ([]:List pt).isEmpty then 0 else 1)<30))=true:=by rfl)(hline:(aaQ.endLine==aaP.line)=true:=by rfl)(hs:eg (e::es) X.env=(cp,fv e X.env)::eg es X.env:=by rfl)(hplain:(g3 aaP<|starEach es X.env).any (·.1)=false:=by rfl):
  DE X B (.Call (.Attribute o name aaQ) (e::es) [] aaP) (Ik r to t):=by
 refine aS (Sy j q L R O b hfew hline hs hplain) ?_
 rintro Z H Q ⟨U,M,QQ,s,h,u⟩
 refine#[U,M,_,s,h,λx M1 y v H1 c i1 z=>?_];cases x with
 |tup xs=>
  have l:=z;obtain⟨p,A,rfl,F,S⟩:=l;exact#[#[p,A,rfl,F],U,M1,_,s.go c i1,y,λI M2 J A H2 m i2 G=>#[_,I,M2,QQ,m,z.mf c i2,G,J,u.go<|i1.trans i2]]
 |_=>exact y.elim
def Nd:ba:=λ_ M Q=>∀p,M p=bb->Q (.ref p) (M.upd p<|.dT [])
theorem KW:DE X B (.Dict [] [] pos) Nd:=by
 refine aS Fj ?_
 rintro Z H Q ⟨U,M,QQ,s,h,u⟩ p hp
 exact u _ _ (h p<|s.rh.fresh hp) _ _ (s.rh.put (by rw[hp];trivial) #[[],upd_same,.nil]) (Frm.put<|.inl hp) rfl
def LL(ks:List aC)(ys:List D):List (aC×D):=(ks.zip ys).foldl (λa p=>eh a p.1 p.2) []
theorem wm:∀{ks:List aC}{ds:List D}{vs:List V}{a:List (aC×D)}{b:List (aC×V)},Rps K H ds vs->Rkv K H a b->
  Rkv K H ((ks.zip ds).foldl (λa p=>eh a p.1 p.2) a) ((ks.zip vs).foldl (λa p=>fu a p.1 p.2) b)
 |[],_,_,_,_,_,r=>r
 |_::_,[],_,_,_,h,r=>by cases h;exact r
 |k::ks,d::ds,_,_,_,h,r=>by
  obtain⟨v,vs,rfl,a,b⟩:=h;exact wm (ks:=ks) b (r.put k a)
def gB(t:eA):ba:=λU M Q=>t U M λl M1=>two l λh c=>onT h λm=>onT c λj=>so (eV m) λb=>b.length=j.length/\0<b.length/\b.length<=1000/\∀p,M1 p=bb->Q (.ref p) (M1.upd p<|.dK<|LL b j)
theorem xK(hc:X.calm=true)(hg:Gl X "zip")(hm:X.mg "zip"=bb)(hg2:Gl X "dict")(hm2:X.mg "dict"=bb)(ha:DA X B [a,b] ta)(hs:eg [a,b] X.env=[(cp,fv a X.env),(cp,fv b X.env)]:=by rfl)(hs2:eg [b] X.env=[(cp,fv b X.env)]:=by rfl)(hs3:eg [Yy (.Name "zip" p2) [a,b] [] pos2] X.env=[(cp,fv (.Call (.Name "zip" p2) [a,b] [] pos2) X.env)]:=by rfl):
  DE X B (.Call (.Name "dict" p) [.Call (.Name "zip" p2) [a,b] [] pos2] [] pos) (gB ta):=by
 refine aS (wT cp cp hc hg hm hg2 hm2 ha hs hs2 hs3) ?_
 rintro Z H Q ⟨U,M,QQ,s,h,u⟩
 refine#[U,M,_,s,h,λds M1 h1 vs H1 rh1 i1 r1=>?_]
 replace h1:=h1.inv;obtain⟨w10,w11,rfl,h1⟩:=h1
 replace h1:=h1.inv;obtain⟨_,rfl,h1⟩:=h1
 replace h1:=h1.inv;obtain⟨_,rfl,h1⟩:=h1
 obtain⟨v,w,rfl,rv,rw'⟩:=Ks r1;obtain⟨l1,us,rfl,t1,ru⟩:=rv;obtain⟨l2,ws,rfl,t2,rw2⟩:=rw';obtain⟨ks,ek,h1⟩:=h1.inv;obtain⟨e1,e2,e3,h1⟩:=h1;have hk:=o8 ru ek;subst hk;exact#[l1,l2,ks,ws,rfl,t1.sq,t2.sq,by rw[<- rw2.length];exact e1,e2,e3,λd hd=>u _ _ (h1 d<|rh1.fresh hd) _ _ (rh1.put (by rw[hd];trivial) #[_,upd_same,(wm rw2 .nil).mono<|Imm.new hd]) (i1.trans<|Frm.put<|.inl hd) rfl]
end
theorem Lo(h:PS X st t)(k:∀e s,X.xe e s->E' e s):PS (X.wish E') st t:=λc s Z H D I q=>
 j0 (h _ s Z H D I.unwish q) (λf j z=>by
  cases f with
  |ret u=>obtain⟨v,b,H',I,r,q⟩:=z;exact#[v,_,H',I.wish _,r,q]
  |_=>obtain⟨b,H',I,q⟩:=z;exact#[_,H',I.wish _,q]) k
def nE(C:cb)(EE:DX):ar:=λ_ _ M=>EE C M
theorem FI{jj}(X:ExcAt K C)(l:mg x=ap (.ref C))(ux:vo K B EE E)(m:Gl (eM (m7 P w) P w K mg base N aaM scope f cd A outer s0 H0 E) x)(o:(x==("__debug__":Str))=false:=by decide)(hs:eg [.Constant (.str b) jj aaQ] (eM (m7 P w) P w K mg base N aaM scope f cd A outer s0 H0 E).env=[(cp,fv (.Constant (.str b) jj aaQ) (eM (m7 P w) P w K mg base N aaM scope f cd A outer s0 H0 E).env)]:=by rfl):
  DS (eM (m7 P w) P w K mg base N aaM scope f cd A outer s0 H0 E) B (.Raise (ap<|.Call (.Name x c) [.Constant (.str b) jj aaQ] [] aaP) bb pos) (nE C EE):=by
 have j:PS (eM (m7 P w) P w K mg base N _ _ f cd A outer s0 H0 E) (.Raise (ap<|.Call (.Name x c) _ [] aaP) _ pos) _:=
  Lo (GN X l m o hs) λe s h=>j0 h (λ_ _ z=>#[C,z]) λ_ _ z=>#[C,z]
 refine ce j ?_
 rintro D Z H ⟨U,M,DD,s,h,q⟩
 exact ux C M h H s.rh s.i0
def Pf(C:cb)(T:Sd)(n:Nat)(ta:eA)(ts:ar):ar:=λD U M=>ta U M λb M1=>b.length=n/\calls T (λC' M2=>C'=C/\ts D U M2) b M1 (λ_ M2=>D.nx U M2) #[]
theorem SR.mark(s:SR X B U M Z H):SR (X.marked e) B U M Z H:=#[s.i0,s.rh,s.rs]
theorem SR.unmark(s:SR (X.marked e) B U M Z H):SR X B U M Z H:=#[s.i0,s.rh,s.rs]
theorem UpD.mark{D:Ends}(u:UpD X B M H DD D):UpD (X.marked e) B M H DD D:=
 #[λU M q Z H' f s=>u.nx U M q Z H' f s.unmark,u.rt,λU M q Z H' f s=>u.bk U M q Z H' f s.unmark,λU M q Z H' f s=>u.ct U M q Z H' f s.unmark]
theorem IU(F:FnOk P w K mg base (m7 P w) k f fd ps sp):
  FnOk P w K mg base (DN P w C) k f fd ps (λvs H Q E=>sp vs H Q λCv a H'=>Cv=.ref C/\E Cv a H'):=
 #[λvs H Q E=>F.len _ _ _ _,λA b s H j q vs Q E u m Y R v=>q0 (F.run A _ s H _ q vs Q _ u m Y R v) λr s' h=>by
  cases r with
  |ok fl=>cases fl<;>exact h
  |error e=>
   obtain⟨C',y,H',B,L,O,z,e3,S,J,G,I,l,o,c⟩:=h;have W:C'=C:=by injection o
   subst W;exact#[y,H',B,L,O,z,e3,S,J,G,I,l,c]]
theorem xz(R:X.stack=X.env::X.outer)(J:X.env.frame=ap X.env.locals)(F:FnOk X.prog X.w X.K X.mg X.base (m7 X.prog X.w) k f fd ps (bh X.K n T))(hr:Room k X.A)(hg:Gl X x)(hm:X.mg x=ap (.ref f))(hk:Vq X.K (.ref f)=true)(hb:Binds X.K fd ps [])(ha:DA X.nox B (e::es) ta)(EX:ExcAt X.K C)(G:Gl X y)(O:X.mg y=ap (.ref C))(S:∀q:cb,A0 (X.marked<|.ref q) B (c::b) L)(W:(x==("__debug__":Str))=false:=by decide)(hdC:(y==("__debug__":Str))=false:=by decide)(he:eg (e::es) X.env=(cp,fv e X.env)::eg es X.env:=by rfl)(hpl:(g3 I<|starEach es X.env).any (·.1)=false:=by rfl)(hsw:pb (.Call (.Name x p) (e::es) [] I) bb ep.line X.env=pure false:=by rfl):
  DS X B (.Try [.Expr (.Call (.Name x p) (e::es) [] I) ep] [.ExceptHandler (ap<|.Name y np) bb (c::b) o] [] [] pos) (Pf C T n ta L):=by
 have m:∀q:cb,C1 _ _ (liftS X B L):=λq=>nX (S q) (by rintro D Z H ⟨U,M,DD,s,h,u⟩;exact#[U,M,DD,s.mark,h,u.mark])
 refine ce (wG R J (IU F) hr hg hm hk hb .nil ha EX G O m W hdC he hpl hsw) ?_
 rintro D Z H ⟨U,M,DD,s,h,up⟩
 refine#[U,M,_,#[s.i0,s.rh,s.rs],h,λds M1 Y vs H1 z i1 r1=>?_]
 try dsimp only
 rw[U0];refine cz Y.2 z r1 (by rw[<- r1.length];exact Y.1) (λd M2 l v H2 j i2 r2=>?_) λC' M2 l H2 j i2=>?_
 .exact up.nx _ _ l Z H2 (i1.trans i2) (s.go j<|i1.trans i2)
 obtain⟨rfl,l⟩:=l;exact#[rfl,U,M2,DD,s.go j (i1.trans i2),l,up.go<|i1.trans i2]
end _3
namespace _2
open PySem PySem.Spec PyProof.Rows
theorem gJ(h:(T_ scope env).names.lookup x=ap k):∃c,(x,c)∈scope.names/\(k=c\/(c=.free/\k=.cell)):=by
 obtain⟨⟨n,b⟩,g,e⟩:=Ul.mp (Vt h)
 by_cases f:(b==NameKind.free&&env.scope.kind==.function&&env.kindOf n==ap .cell)=true
 .have a:(n,NameKind.cell)=(x,k):=by rw[<- e];show _=(if _ then _ else _);rw[if_pos f]
  cases a;exact#[b,g,by lia]
 have a:(n,b)=(x,k):=by rw[<- e];show _=(if _ then _ else _);rw[if_neg f]
 cases a;exact#[_,g,.inl rfl]
theorem kg:∀{fs:aaV}{a:aaX},fs.length=a.length->x∈fs->∃c,(fs.zip a).lookup x=ap c
 |[],_,_,h=>by cases h
 |_::_,[],h,_=>by simp at h
 |y::fs,c::a,hl,h=>by
  rw[Y4,XH];cases e:x==y with
  |true=>simp_all
  |false=>
   rcases Uj.mp h with z|z
   .simp_all
   exact kg (by simp_all) z
theorem Ld(n:a.kind=.function)(f:∀y∈a.names,y.2≠.cell/\(y.2=.free->y.1∈fs))(r:∀x∈a.names,x.2=.local->a.names.lookup x.1=ap .local)
  (e:fs.length=g.length) (j:Z0 a X.env=pure (fs.zip g)) (q:∀p∈fs.zip g,X.env.cells.lookup p.1=ap p.2) (o:Frees X a fs l):CompOk X a (fs.zip g) ls fs l where
 kind:=n
 nocell:=λy i=>(f y i).1
 locs:=r
 clos:=j
 cells:=λy d h=>q (y,d) (Vt h)
 has:=λy h=>by
  have i:y∈fs:=by
   rcases h with h|h
   .obtain⟨m,c,b|⟨b,_⟩⟩:=gJ h
    .exact absurd b.symm (f _ c).1
    .exact(f _ c).2 b
   .obtain⟨m,c,b|⟨b,_⟩⟩:=gJ h
    .exact(f _ c).2 b.symm
    .exact(f _ c).2 b
  exact kg e i
 frees:=o
theorem memZ{α:Type}{C:α->Prop}:∀p∈([]:List α),C p:=λ_ h=>by cases h
theorem memC{α:Type}{C:α->Prop}{a:α}{l:List α}(c:C a)(e:∀p∈l,C p):∀p∈a::l,C p:=λp b=>by
 rcases Uj.mp b with rfl|z
 .exact c
 simp_all
end _2
namespace _3
open PySem _2
theorem dnm(i:Nat)(a:X.N[i]?=ap x:=by rfl)(hv:QU X.env.scope x:=by first|exact Or.inl rfl|exact Or.inr (Or.inl rfl)|exact Or.inr (Or.inr rfl))(hd:(x==("__debug__":Str))=false:=by decide)(hcd:(x==("__classdict__":Str))=false:=by decide):DE X B (.Name x pos) (ac i):=OY a hv hd hcd
def iS:DX:=λ_ _=>False
theorem uxN:vo K B iS E:=λ_ _ z=>z.elim
theorem nY:eT "list"=ap (.type "list"):=by rfl
theorem ql:eT "tuple"=ap (.type "tuple"):=by rfl
theorem KF:eT "all"=ap (.builtin "all"):=by rfl
theorem nH:eT "isinstance"=ap (.builtin "isinstance"):=by rfl
theorem GY:eT "bool"=ap (.type "bool"):=by rfl
theorem J6:eT "int"=ap (.type "int"):=by rfl
theorem JC:eT "str"=ap (.type "str"):=by rfl
theorem vj:eT "dict"=ap (.type "dict"):=by rfl
theorem KP:eT "min"=ap (.builtin "min"):=by rfl
theorem Kl:eT "max"=ap (.builtin "max"):=by rfl
theorem Jz:eT "len"=ap (.builtin "len"):=by rfl
theorem Sk(e:Gl X x)(b:X.mg x=bb)(a:eT x=ap (.type T))(c:x≠"__name__":=by decide)(hd:(x==("__debug__":Str))=false:=by decide):DE X B (.Name x pos) (dC<|.ty T):=
 HZ (JX (v:=.ty T) e b a rfl c hd) λ_=>rfl
def frzs:List D->Mem->(List D->Mem->Prop)->Prop
 |[],M,Q=>Q [] M
 |d::ds,M,Q=>onRe d (λa=>mLe (M a) (λc=>frzs ds (M.del a) λb M'=>Q (.lst c::b) M') (frzs ds M λb M'=>Q (d::b) M')) (frzs ds M λb M'=>Q (d::b) M')
theorem je:∀{ds:List D}{vs:List V}{M:Mem}{H:Hp}{Q:List D->Mem->Prop},Inv X aaL Z H s->RepH X.K H M->Rps X.K H ds vs->frzs ds M Q->
  ∃H' es M',Inv X aaL Z H' s/\RepH X.K H' M'/\Frm M H M' H'/\Rps X.K H' es vs/\Q es M'
 |[],vs,M,H,Q,I,rh,r,h=>#[H,[],M,I,rh,Frm.refl,r,h]
 |d::ds,vs,M,H,Q,I,rh,r,h=>by
  obtain⟨v,vs',rfl,a,b⟩:=r;unfold frzs at h
  replace h:=h.inv;rcases h with⟨a',rfl,h⟩|h
  .cases a
   replace h:=h.inv;rcases h with⟨xs,e,h⟩|h
   .obtain⟨ws,h1,h2⟩:=rh _ _ e
    obtain⟨o,I2⟩:=Inv.freeze I h1;have im:Imm H (upd H a'<|.frz o<|.lst ws):=Imm.upd (by rw[h1];trivial)
    obtain⟨H',es,M',I',rh',f,r',q⟩:=je I2 (rh.freeze h1) (b.mono im) h;refine#[H',_,M',I',rh',(Frm.del #[_,e]).trans f,.cons ?_ r',q];have z:Rp _ _ (.lst xs) _:=#[a',ws,rfl,#[o,upd_same],h2.mono im];exact z.mf (rh.freeze h1) f
   obtain⟨H',es,M',I',rh',f,r',q⟩:=je I rh b h;exact#[H',_,M',I',rh',f,.cons (d:=.ref a') rfl r',q]
  obtain⟨H',es,M',I',rh',f,r',q⟩:=je I rh b h;exact#[H',_,M',I',rh',f,.cons (a.mf rh f) r',q]
def frzT(d:D)(M:Mem)(Q:DK):Prop:=onTe d (λa=>frzs a M λb M'=>Q (.tup b) M') (Q d M)
def qd(t:ba):ba:=λU M Q=>t U M λd M'=>frzT d M' Q
theorem Iy(h:DE X B e te):DE X B e (qd te):=by
 rintro c s Z H Q I ⟨U,M,QQ,n,l,u⟩
 refine bu (h _ s Z H (λv H'=>∃d M',RepH _ H' M'/\Frm M H M' H'/\Rp _ H' d v/\frzT d M' QQ) I #[U,M,_,n,l,λd M' q v H' a i r=>#[d,M',a,i,r,q]]) ?_
 rintro w z ⟨v,H',I',g,d,M',a,i,r,q⟩
 unfold frzT at q
 replace q:=q.inv;rcases q with⟨y,rfl,q⟩|q
 .obtain⟨p,o,rfl,j,r⟩:=r
  obtain⟨H2,A,M2,I2,b,f,m,x⟩:=je I' a r q;exact#[_,H2,I2,g,u _ _ x _ H2 b (i.trans f) #[p,o,rfl,j.mono (f.imm a),m]]
 exact#[v,H',I',g,u _ _ q v H' a i r]
theorem ND(F:FnOk P w K g a (m7 P w) k f fd ps (bh K n T)):
  FnOk P w K g a CX0 k f fd ps (λvs H Q _=>bh K n T vs H Q E0):=
 #[λvs H Q E h=>F.len _ _ _ _ h,λA b s H c l vs Q E m i q p o=>q0 (F.run A b s H c l vs Q E0 m i q p o) λr J h=>by
  cases r with
  |ok fl=>cases fl<;>exact h
  |error e=>
   obtain⟨C',v,H',B,G,I,x,M,L,C,y,z,u,j⟩:=h;exact(show False from j).elim]
theorem IF{c:aaU}(i:Ey H)(g:SqL K H a (c.map V.int))(h:T [.ml (c.map D.int)] (λ_=>bb) (λd _=>d=.bl true) iS)(k:∀H',Q (.bl true) H'):bh K 1 T [.ref a] H Q E0:=by
 refine#[rfl,[.ml _],_,_,_,λb o e=>(by cases e),.cons #[a,_,rfl,?_,wl rfl] .nil,h,λd M' q v H' j f r=>?_,λ_ _ z=>z.elim]
 .rcases g with (z|z)|z
  .rcases i a with e|⟨o,xs,e⟩
   .simp_all
   simp_all
  .exact .inl z
  exact .inr z
 subst q;cases r;exact k H'
theorem kR(X:K.In h)(X':K.In h')(e:W.nsOkIn K N=true):h'.nsMap N=h.nsMap N:=by
 unfold W.nsOkIn at e
 split at e
 .rename_i a
  unfold Heap.nsMap;rw[X _ _ a,X' _ _ a]
 cases e
theorem iG(X:K.In h)(q:YU K C [.type "ValueError",.type "Exception",.type "BaseException",.type "object"] "ValueError.__new__"=true):ExcAt K C:=by
 unfold YU at q
 split at q
 .rename_i E x r H
  split at q
  .rename_i C' B o p u m n g s i
   simp only[Vl,beq_iff_eq,Bool.not_eq_true']at q;obtain⟨⟨⟨⟨⟨rfl,rfl⟩,b⟩,j⟩,a⟩,c⟩:=q;obtain⟨nm,bs,G,v,w,A,z,sub,y,f,del⟩:=x;dsimp only at s b a c;subst s b;have e:r=(Tw [o,p,u,m,ap (.builtin "ValueError.__new__"),g]):=by
    obtain⟨l⟩:=r;simp only at i;rw[i]
   subst e;refine#[#[nm,w,v,bs,B,_,A,z,sub,y,f,E,o,p,u,m,g,"ValueError.__new__","ValueError.__init__","ValueError",h.nsMap v,λI X'=>#[X' _ _ H,?_,W.tail_of_in X' j],W.nsMap_none_of_in X a c,PySem.F.excBase_ValueError,by decide,(W.tail_of_in X j).hasType<|by decide]]
   rw[<- kR X X' a];exact .of_isNs (W.isNs_of_in X' a)
  .cases q
 .cases q
end _3
namespace _2
open PySem
theorem JH(i:env.blockKind=.function)(g:env.scope.names.lookup x=ap .local)(h:f.line=pos.line)
  (j:(scope.names.any λ(n,k)=>n==x&&(k==.local||k==.cell))=cp):pb (.ListComp b a scope pos) (ap<|.Name x f) line env=pure true:=by
 have e:(Expr.ListComp b a scope pos).pos=pos:=rfl;have c:env.kindOf x=ap .local:=g;unfold pb
 try dsimp only
 rw[i,c,e,h,j];simp
end _2
namespace _3
open PySem _2
noncomputable def Gf:eX->Bool
 |.Starred ..=>cp
 |_=>true
theorem CM(h:Gf e=true):eg (e::es) env=(cp,fv e env)::eg es env:=by
 cases e<;>first|rfl|trivial
theorem da_c(a:DE X B e te)(c:DA X B es t)(b:Gf e=true:=by rfl):DA X B (e::es) (aa te t):=IZ a c (CM b)
def Dh(n:Nat)(t:pC):k4:=λd U M Q=>Pu d (λb=>b.length=n/\t b U M Q) λa=>mL (M a) λb=>b.length=n/\t b U M Q
theorem Py(y:X.calm=true)(h:Tn X B es t)(G:(mu es X.env).length=n:=by rfl)(hst:(mu es X.env).findIdx? (·.1)=none:=by rfl):DG X B (.Tuple es k pos) (Dh n t):=by
 rintro w s Z H v u Q I r ⟨d,U,M,QQ,i,x,hd,q⟩
 cases d with
 |lst j=>
  obtain⟨p,m,rfl,z,g⟩:=x;obtain⟨E,hd⟩:=hd;cases r;obtain⟨f,c,pl,C⟩:=I.list z.sq;have a:(mu es X.env).length=f.toArray.size:=by have:=c.length;have:=g.length;simp_all
  refine ax (W' ?_);unfold unpack;rw[a,hst];refine ax (kc (W.kun_itemsOf (I.ok.hd y) pl.isList λA l=>?_));have I1:Inv X _ Z H _:=I.kept (t':=s.toks) λb o e=>l b o (Uv<|Ue e) e;exact h _ _ Z H m _ Q I1 (by assumption) #[j,U,M,QQ,i,g,hd,q]
 |ref p=>
  cases x
  replace hd:mL _ _:=hd
  obtain⟨j,e,hd⟩:=hd.inv;obtain⟨m,F,g⟩:=i.rh _ _ e;obtain⟨E,hd⟩:=hd;cases r;obtain⟨f,c,pl,C⟩:=I.list (SqL.of F);have a:(mu es X.env).length=f.toArray.size:=by have:=c.length;have:=g.length;simp_all
  refine ax (W' ?_);unfold unpack;rw[a,hst];refine ax (kc (W.kun_itemsOf (I.ok.hd y) pl.isList λA l=>?_));have I1:Inv X _ Z H _:=I.kept (t':=s.toks) λb o e=>l b o (Uv<|Ue e) e;exact h _ _ Z H m _ Q I1 (by assumption) #[j,U,M,QQ,i,g,hd,q]
 |_=>trivial
end _3
namespace _S
open PySem
structure Ord(K:Type) where
 lt:K->K->Bool
 anti:∀x y,lt x y=cp->lt y x=cp->x=y
 tr:∀x y z,lt y x=cp->lt z y=cp->lt z x=cp
 asym:∀x y,lt x y=true->lt y x=cp
section
variable{K:Type}[DecidableEq K](o:Ord K)
abbrev OD(l:List K):Prop:=l.Pairwise λa b=>o.lt b a=cp
noncomputable def ins(x:K):List K->List K
 |[]=>[x]
 |y::r=>if o.lt y x=true then y::ins x r else x::y::r
noncomputable def kT:List K->List K
 |[]=>[]
 |x::r=>ins o x (kT r)
theorem oE(x:K):∀l:List K,(ins o x l).Perm (x::l)
 |[]=>YY _
 |y::r=>by
  unfold ins
  by_cases h:o.lt y x=true
  .rw[if_pos h];exact(YZ y<|oE x r).trans (List.Perm.swap ..)
  simp_all
theorem dN:∀l:List K,(kT o l).Perm l
 |[]=>YY _
 |x::r=>(oE o x _).trans (YZ x<|dN r)
theorem A4(x:K):∀l:List K,OD o l->OD o (ins o x l)
 |[],_=>by simp[ins]
 |y::r,h=>by
  unfold ins;have e:=V6.mp h
  by_cases c:o.lt y x=true
  .rw[if_pos c]
   refine V6.mpr #[λz a=>?_,A4 x r e.2];rcases Uj.mp ((oE o x r).mem_iff.mp a) with rfl|q
   .exact o.asym _ _ c
   simp_all
  rw[if_neg c];have b:o.lt y x=false:=by simpa using c
  refine V6.mpr #[λz a=>?_,h];rcases Uj.mp a with rfl|q
  .exact b
  exact o.tr _ _ _ b (e.1 z q)
theorem jf:∀l:List K,OD o (kT o l)
 |[]=>Ya
 |x::r=>A4 o x _ (jf r)
theorem xq:∀(a b:List K),OD o a->OD o b->a.Perm b->a=b
 |[],b,_,_,p=>by simp_all
 |x::a,b,ha,hb,p=>by
  cases b with
  |nil=>simp_all
  |cons y b=>
   have f:=V6.mp ha;have c:=V6.mp hb;have e:x=y:=by
    rcases Uj.mp (p.mem_iff.mp<|Uw ..) with e|hx
    .exact e
    rcases Uj.mp (p.symm.mem_iff.mp<|Uw ..) with e|hy
    .exact e.symm
    exact o.anti _ _ (c.1 x hx) (f.1 y hy)
   subst e;rw[xq a b f.2 c.2 (by simp_all)]
theorem GE{a l:List K}(b:OD o a)(p:a.Perm l):a=kT o l:=xq o _ _ b (jf o l) (p.trans (dN o l).symm)
end
end _S
namespace _3
open PySem _2 _S
theorem iK:eT "sorted"=ap (.builtin "sorted"):=by rfl
end _3
namespace _S
open PySem
noncomputable def Ez:Ord Int where
 lt:=λx y=>decide (x<y)
 anti:=λx y a b=>by simp at a b;lia
 tr:=λx y z a b=>by simp at a b ⊢;lia
 asym:=λx y h=>by simp at h ⊢;lia
theorem FR(h:l.Pairwise (·<=·)):OD Ez l:=h.imp λ{a b} z=>by show decide _=cp;simp;lia
end _S
namespace _3
open PySem _2 _S
def dS:List D->Option (List Int)
 |[]=>ap []
 |.int i::ds=>match dS ds with
  |some is=>ap (i::is)
  |none=>bb
 |_=>bb
theorem fO:∀a:List Int,dS (a.map D.int)=ap a
 |[]=>rfl
 |x::a=>by rw[Ud,dS,fO a]
theorem jv:∀{ds:List D}{vs:List V}{xs:aaU},Rps K H ds vs->dS ds=ap xs->vs=xs.map V.int
 |[],vs,xs,r,e=>by cases e;exact r
 |d::ds,vs,xs,r,e=>by
  obtain⟨v,h,rfl,a,b⟩:=r;cases d with
  |int c=>
   simp[dS]at e
   split at e
   .rename_i g f
    cases e;cases a;rw[jv b f];rfl
   cases e
  |_=>trivial
theorem uP:∀{a:aaU}{us:aaW},Vals (a.map V.int) us->XT us a:=by
 intro a
 induction a with
 |nil=>intro us h;cases h;exact .nil
 |cons x a ih=>intro us h;cases h with|cons r t=>obtain⟨u,rfl⟩:=r;exact .cons _ _ (ih t)
theorem GX:∀{a:aaU}{us:aaW},XT us a->Vals (a.map V.int) us:=by
 intro a us h
 induction h with
 |nil=>exact .nil
 |cons x t _ ih=>exact .cons #[t,rfl] ih
theorem um:∀(a:aaU),Rps K H (a.map D.int) (a.map V.int)
 |[]=>rfl
 |_::a=>#[_,_,rfl,rfl,um a]
def iQ:oU:=λb M Q=>one b λd=>so (cG M d) λc=>so (dS c) λa=>a.length<64/\∀p,M p=bb->Q (.ref p) (M.upd p<|.lst<|(kT Ez a).map D.int)
theorem t9:bt X (.builtin "sorted") (liftC X iQ):=by
 rintro aaL s Z H xs us Q I r ⟨ds,M,QQ,rh,rp,h,up⟩
 unfold iQ at h
 replace h:=h.inv;obtain⟨_,rfl,h⟩:=h
 obtain⟨v,rfl,rv⟩:=g6 (ds:=[]) rp;obtain⟨ys,e,h⟩:=h.inv;obtain⟨q,vs,rfl,hq,rr⟩:=cY rh rv e;obtain⟨ss,es,h⟩:=h.inv;obtain⟨h64,h⟩:=h;have:=jv rr es;subst this;obtain⟨u,rfl,ru⟩:=iT r;cases ru;obtain⟨aaR,r',pl,hz⟩:=I.list (.inl hq);have hlen:=r'.length;rw[Ub]at hlen;refine PyProof.Rows.sorted_ints pl.isList (uP r') (by lia) λout ss' s1 s2 s3=>?_
 obtain⟨k,hk⟩:=Xu _ _ _;obtain rfl:=GE _ (FR s3) s2;have hn:=I.hok.fresh (VU _);refine#[.ref _,_,I.laid (o:=.lst _) (λb o=>Xs) (VU _) (#[?_,_,k,GX s1,by exact hk]),rfl,?_]
 .rw[Ub,s2.length_eq];exact Uu (V0 h64) (by decide)
 exact up _ _ (h _<|rh.fresh hn) _ _ (rh.put (by rw[hn];trivial) #[_,upd_same,um _]) (Frm.put<|.inl hn) rfl
end _3
namespace _2
open PySem
theorem G9(N:X.calm=true):bt X (.builtin "any") (λxs H Q=>∃(l:cb)(bs:List Bool),xs=[.ref l]/\SqL X.K H l (bs.map V.bl)/\Q (.bl<|bs.any id) H):=by
 rintro z s Z H xs O Q I r ⟨l,bs,rfl,G,q⟩
 obtain⟨u,rfl,L⟩:=r.one;cases L;obtain⟨a,C,p,R⟩:=I.list G;have T:=C.length;have w:l<s.heap.objs.size:=by obtain⟨o,e,_⟩:=p.isList;exact Ue e
 have x:=Uv w;have val:∀(i:Nat)(v:ay),a.toArray[i]?=ap v->∃c,bs[i]?=ap c/\v=.bool c:=λi v B=>by
  have g:a[i]?=ap v:=by simp_all
  have f:i<bs.length:=by
   have:=(UO.mp g).1
   simp_all
  obtain⟨S,y,M⟩:=C.get (by rw[Um,Uc f];rfl)
  rw[g]at y;cases y;exact#[_,by simp_all,M]
 have n:a.toArray.size=bs.length:=by simp_all
 refine call_any_walk (vx p.isList #[_,_,_,_,_,_,λi=>bs.getD i cp,rfl,Walks.list (A:=X.A.in1) (I.ok.hd N) _ l x _,#[#[_,Uh _ rfl,rfl,rfl],p.isList.push _],λi v U Q' E' B F=>?_,λP E J=>?_])
 .obtain⟨c,y,rfl⟩:=val i v B
  refine pa ?_
  simp_all
 have e:(Ut a.toArray.size).any (λi=>bs.getD i cp)=bs.any id:=by
  rw[n,XX,Wl,Wl];constructor
  .rintro⟨i,f,h⟩
   have j:=UJ.mp f;rw[Vx,Uc j]at h;exact#[_,VW j,h]
  .rintro⟨b,m,h⟩
   obtain⟨i,f,rfl⟩:=YQ.mp m;exact#[i,UJ.mpr f,by rw[Vx,Uc f];exact h]
 rw[e];refine#[.bl (bs.any id),H,?_,rfl,q];exact I.kept (t':=E) λb o m=>J b o (by simp;exact Uv (Ue m)) (Ua _ m)
end _2
namespace _3
open PySem _2 _S
def Jc:oU:=λa M Q=>one a λd=>so (cG M d) λb=>so (jc b) λbs=>Q (.bl<|bs.any id) M
theorem D3(o:X.calm=true):bt X (.builtin "any") (liftC X Jc):=by
 rintro b s Z H u f Q I r ⟨ds,M,QQ,a,m,h,j⟩
 unfold Jc at h
 replace h:=h.inv;obtain⟨_,rfl,h⟩:=h
 obtain⟨v,rfl,n⟩:=g6 (ds:=[]) m;obtain⟨p,e,h⟩:=h.inv;obtain⟨bs,g,h⟩:=h.inv;obtain⟨q,w,rfl,l,i⟩:=cY a n e;have c:=jS i g;subst c;exact G9 o _ s Z H _ f Q I r #[q,bs,rfl,.inl l,j _ M h _ H a Frm.refl rfl]
theorem KI:eT "any"=ap (.builtin "any"):=by rfl
theorem DH:eT "range"=ap (.type "range"):=by rfl
def vt(t:eA):ba:=λU M Q=>t U M λb M1=>one b λa=>onI a λj=>(-(2 ^ 62)<=j/\j<=1000)/\∀p,M1 p=bb->Q (.ref p) (M1.upd p<|.lst<|cQ 0 j.toNat)
noncomputable def xh(n:Nat):List V:=(Ut n).map λ(i:Nat)=>V.int (0+(i:Int))
theorem IW:Rps K H (cQ 0 n) (xh n):=by
 unfold cQ xh;generalize Ut n=l
 induction l with
 |nil=>rfl
 |cons i l ih=>exact#[_,_,rfl,rfl,ih]
theorem EB(h:ItemsOf (λi v=>∃t,v=.int (0+i*1) t) aaO n):Vals (xh n) aaO.toList:=by
 obtain⟨h1,h2⟩:=h;have key:∀(l:List _)(k m:Nat),l.length=m->(∀(j:Nat)(v:ay),l[j]?=ap v->∃t,v=.int (0+(k+j)) t)->Vals ((V8 k m).map λ(i:Nat)=>V.int (0+i)) l:=by
  intro l
  induction l with
  |nil=>intro k m e _;subst e;exact .nil
  |cons x l ih=>
   intro k m e h;subst e;refine .cons ?_ (ih _ _ rfl λj v q=>?_)
   .obtain⟨t,rfl⟩:=h 0 x (by simp)
    exact#[t,rfl]
   obtain⟨t,e⟩:=h (j+1) v (by simpa using q)
   exact#[t,by rw[e];congr 2;lia]
 unfold xh;rw[VT];exact(key _ 0 n (by trivial) λj v q=>by
  simp_all)
def Eo(t:TA):TE:=λZ H Q=>t Z H λa H1=>∃j:Int,a=[.int j]/\(-(2 ^ 62)<=j/\j<=1000)/\∀p,H1 p=bb->Q (.ref p) (upd H1 p<|.lst<|xh j.toNat)
theorem wW(S:X.calm=true)(R:Gl X "range")(N:X.mg "range"=bb)(m:Gl X "list")(r:X.mg "list"=bb)(O:PA X [e] t)
  (P:eg [e] X.env=[(cp,fv e X.env)]:=by rfl) (hs3:eg [Yy (.Name "range" v) [e] [] a] X.env=[(cp,fv (.Call (.Name "range" v) [e] [] a) X.env)]:=by rfl):
  PE X (.Call (.Name "list" p) [.Call (.Name "range" v) [e] [] a] [] pos) (Eo t):=by
 intro w s Z H Q I h;refine mo (di I m r nY<|UR ?_ hs3 rfl);show ez _ _ (spliced ((cp,_)::g3 _ [])) _ _ s;refine VG ?_;refine mo (di I R N DH<|UR (bu (O _ _ s Z H _ I h) λT c E=>?_) P rfl);obtain⟨W,H1,I1,G,J⟩:=E;obtain⟨j,rfl,⟨y,U⟩,q⟩:=J;obtain⟨u,rfl,L⟩:=iT G;obtain⟨t',rfl⟩:=L;refine call_range_1 ?_;refine V9 ?_;have K:=I1.ok.hd S;refine call_list_range (n:=j.toNat) K (IsRange.new ..) (small_one (by decide) (by decide) y<|by lia) (by rw[rangeSize_one];split<;>lia) (by lia) λF A g x C M i=>?_
 have f:(c.heap.push { cls:=.type "range",data:=.fields (Tw [.int 0 c.toks,.int j t',.int 1 (c.toks+1)]) }).objs.size=c.heap.objs.size+1:=Vg ..;have l:F.get? (c.heap.objs.size+1)=ap { cls:=.type "list",dict:=bb,data:=.seq g x,slots:=(Tw []) }:=by rw[<- f];exact M
 refine#[.ref (c.heap.objs.size+1),_,I1.laid (t':=A) (o:=.lst (xh j.toNat)) (λb o z=>C b o (Ua _ z)) (VU _) (#[?_,g.toList,x,EB i,by rw[Array.toArray_toList];exact l]),?_,q _<|I1.hok.fresh<|VU _]
 .simp only[xh,Ub,WY]
  exact Uu (by lia:j.toNat<=1000) (by decide)
 .show UE _=UE _
  rw[<- f]
theorem xL(hc:X.calm=true)(hg:Gl X "range")(hm:X.mg "range"=bb)(hg2:Gl X "list")(hm2:X.mg "list"=bb)(ha:DA X B [e] t)
  (hs:eg [e] X.env=[(cp,fv e X.env)]:=by rfl) (hs3:eg [Yy (.Name "range" p2) [e] [] pos2] X.env=[(cp,fv (.Call (.Name "range" p2) [e] [] pos2) X.env)]:=by rfl):
  DE X B (.Call (.Name "list" p) [.Call (.Name "range" p2) [e] [] pos2] [] pos) (vt t):=by
 refine aS (wW hc hg hm hg2 hm2 ha hs hs3) ?_
 rintro Z H Q ⟨U,M,QQ,s,h,u⟩
 refine#[U,M,_,s,h,λds M1 h1 vs H1 rh1 i1 r1=>?_]
 replace h1:=h1.inv;obtain⟨_,rfl,h1⟩:=h1
 replace h1:=h1.inv;obtain⟨_,rfl,h1⟩:=h1
 obtain⟨v,rfl,rv⟩:=g6 (ds:=[]) r1;cases rv;exact#[_,rfl,h1.1,λd hd=>u _ _ (h1.2 d<|rh1.fresh hd) _ _ (rh1.put (by rw[hd];trivial) #[_,upd_same,IW]) (i1.trans<|Frm.put<|.inl hd) rfl]
end _3
namespace _3
open PySem _2
def rL(C:cb)(ta tv:ba)(f:Str):ar:=λD U M=>ta U M λx M1=>onR x λa=>mN (M1 a) λC' fs=>C'=C/\fs.length<1000/\so (fs.lookup f) λb=>onI b λi=>tv U M1 λy M2=>onI y λj=>M2 a=ap (.ins C fs)/\D.nx U (M2.upd a<|.ins C<|bV f (.int (i+j)) fs)
theorem CG(c:Cls X.K C)(n:NoAttr X.K C f)(ha:DE X B o ta)(hv:DE X B value tv):DS X B (.AugAssign (.Attribute o f tpos) .Add value pos) (rL C ta tv f):=by
 refine ce (qf ha hv Q6) ?_
 rintro D Z H ⟨U,M,DD,s,h,up⟩
 refine#[U,M,_,s,h,λx M1 h1 v1 H1 rh1 i1 r1=>?_]
 replace h1:=h1.inv;obtain⟨a,rfl,h1⟩:=h1
 cases r1;obtain⟨C',fs,hM,h1⟩:=h1.inv;obtain⟨rfl,hl,h1⟩:=h1;obtain⟨w21,hf,h1⟩:=h1.inv
 replace h1:=h1.inv;obtain⟨i,rfl,h1⟩:=h1
 obtain⟨dx,ws,e1,e2⟩:=rh1 _ _ hM;obtain⟨z,_⟩|⟨d,w,hd,hw,rw1⟩:=e2.lookup f
 .simp_all
 rw[hf]at hd;cases hd;cases rw1;refine#[a,C',dx,ws,_,rfl,e1,c,n,hw,U,M1,_,s.go rh1 i1,h1,λy M2 h2 v2 H2 rh2 i2 r2=>?_]
 replace h2:=h2.inv;obtain⟨j,rfl,h2⟩:=h2
 cases r2;obtain⟨hM2,h2⟩:=h2;obtain⟨dx2,ws2,e3,e4⟩:=rh2 _ _ hM2;have i3:Frm M2 H2 (M2.upd a<|.ins C'<|bV f (.int (i+j)) fs) (upd H2 a<|.ins C' dx2<|_2.dB f (.int (i+j)) ws2):=Frm.put (by simp_all)
 exact#[i,j,rfl,rfl,_,_,e3,by rw[<- e4.length];exact hl,up.nx _ _ h2 Z _ ((i1.trans i2).trans i3)<|s.go (rh2.put (by rw[e3];trivial) #[_,_,upd_same,(jB (by trivial) e4).mono<|i3.imm rh2])<|(i1.trans i2).trans i3]
end _3
namespace _2
open PySem PySem.Spec PyProof.Rows _S
theorem Inv.frzT(I:Inv X a Z H s)(e:H d=ap (.frz b<|.dT aaN))(l:b.data=.dict es m):
  s.heap.get? d=ap b/\∃xs:List (List aC×cb×ay),KT H aaN xs/\es.toList=xs.map (entryOfKey<|tupleKind<|aT X.prog X.w):=by
 obtain⟨f,_,_,xs,r,o,j,h,c,_,g,i,_⟩:=(I.hok d _ e);rw[f]at c;cases c;rw[l]at g;cases g;exact#[f,xs,r,i]
theorem KT.at:∀{aaN:List (List aC×V)}{xs:List (List aC×cb×ay)},KT H aaN xs->∀{i:Nat}{ks:List aC}{x:V},aaN[i]?=ap (ks,x)->∃b u,xs[i]?=ap (ks,b,u)/\H b=ap (.tup<|ks.map kV)/\RelV x u
 |_,_,.nil,i,ks,x,e=>by simp at e
 |_,_,.cons (b:=q) h t,0,ks,x,e=>by
  simp at e;subst e;obtain⟨f,a,c⟩:=q;exact#[a,c,by simp_all,h.2.1,h.2.2]
 |_,_,.cons h t,i+1,ks,x,e=>by
  simpa using KT.at t e
theorem Inv.freezeT(I:Inv X e Z H s)(h:H p=ap (.dT aaN)):
  ∃f es l,f.data=.dict es l/\es.size=aaN.length/\s.heap.get? p=ap f/\(p==ot)=cp/\Inv X e Z (upd H p<|.frz f<|.dT aaN) s:=by
 obtain⟨z,y,j,r,f,es,l,g,v,i,F,K⟩:=(I.hok p _ h);have ne:∀{b:cb}{u:Option HO},H b=u->u≠ap (.dT aaN)->b≠p:=λ{b u} q J z=>by simp_all
 refine#[f,es,l,i,by rw[<- Vd,F,Ub,<- VC r],g,y,I.ok,I.os,I.bare,#[I.base.keep,I.base.slot,λb o q C A=>?_,I.base.there,λb j q=>?_,λb o u q=>?_,λb B q=>?_],I.loc,I.cell,?_,λx c q=>?_,λE G=>?_,λb o q=>?_,I.len]
 .have a:=I.base.free b o q C A
  rw[aw (by lia)];exact a
 .have a:=I.base.tups b j q
  rw[aw (by lia)];exact a
 .have a:=I.base.frzs b o u q
  rw[aw (by lia)];exact a
 .obtain⟨more,a⟩:=I.base.tbls b B q
  exact#[_,by rw[aw (by lia)];exact a]
 .rw[aw (ne I.free<|by simp)];exact I.free
 .have a:=I.freeC x c q
  rw[aw (by lia)];exact a
 .obtain⟨g,v,i⟩:=I.pin E G
  exact#[g,by rw[aw (by lia)];exact v,i]
 have m:∀{u:HO}{b:cb},ObjOk X.prog X.w H s.heap b u->ObjOk X.prog X.w (upd H p<|.frz f<|.dT aaN) s.heap b u:=λx=>x.stay (by lia) (λc y=>by rw[aw (by lia)];exact y) λc j y=>by rw[aw (by lia)];exact y
 by_cases n:b=p
 .subst n
  rw[upd_same]at q;cases q;exact#[g,m<|I.hok b _ h]
 .rw[aw n]at q
  exact m (I.hok b o q)
end _2
namespace _3
open PySem _2 _S
theorem qY:∀ks:List aC,Rps K H (ks.map λk=>match k with|.inl i=>D.int i|.inr x=>D.str x) (ks.map kV)
 |[]=>rfl
 |.inl i::ks=>#[_,_,rfl,rfl,qY ks]
 |.inr x::ks=>#[_,_,rfl,rfl,qY ks]
theorem RepH.freezeT{K:Ug}{H:Hp}{M:Mem}{p:cb}{aaN:List (List aC×V)}{o:Obj}(r:RepH K H M)(h:H p=ap (.dT aaN)):RepH K (upd H p<|.frz o<|.dT aaN) (M.del p):=λb u e=>by
 unfold Mem.del at e
 split at e
 .cases e
 rename_i hb
 exact(r b u e).keep (Imm.upd<|by rw[h];trivial) (aw hb)
end _3
namespace _S
open PySem PySem.W PySem.Calls PyProof.Rows PyProof.V PySem.Spec _2
theorem qX:y1 (.type "list") "keys"=pure none:=by rfl
abbrev Om(h:g4)(a:cb)(aaR:aa3)(n:Nat):Prop:=h.get? a=ap { cls:=.type "list",dict:=bb,data:=.seq aaR n,slots:=(Tw []) }
theorem oH(j:Om s.heap a aaR n)(r:A.handled=bb)
  (h:∀h' l,(∀b o,s.heap.get? b=ap o->h'.get? b=ap o)->Q bb { s with heap:=h',toks:=l }):ez (eC prog w) A (Z2 (.ref a) "keys") Q E s:=by
 obtain⟨p,g,d,l,m⟩:=s;have i:∀f,(#[p,g,d,f,m]:ca).TypeIs (.ref a) "list":=λ_=>#[_,j,rfl];have q:=sub_AttributeError;have B:=Wf.lookup;have y:=Wf.bind (.ref a);have v:=am_list_getattr_none;unfold Z2 getAttrBy? getAttrBy
 repeat (any_goals (first|assumption|exact i _|((with_reducible show ez _ _ (call (Value.builtin "list.__getattribute__") _ _) _ _ _);refine oD Wf (i _) am_entry_list_getattribute (PySem.F.args_list_getattribute_2 _ _) (meets_getattribute_miss_list a aaR n (Tw []) "keys" _ qX (by decide +kernel) (by decide +kernel)) #[j,r,λh' f e c=>?_])|wp_step))
 obtain⟨z,x,u⟩:=c.there;show ez _ _ (J' _ _ _ _ _ _ _) _ _ _;unfold J'
 repeat (any_goals (first|assumption|wp_step))
 exact h _ _ c.keeps
theorem xn{s:ca}{Ts:aaX}(R:Ts.length=ps.length)(B:Om s.heap l (Ts.map UE).toArray m)(C:∀(i:Nat)(v:i<Ts.length)(u:i<ps.length),xi s.heap Ts[i] ps[i].1 ps[i].2):
  ∀(A':fy)(f:ca)(Q:aa0)(E:aa0),(∀b o,s.heap.get? b=ap o->f.heap.get? b=ap o)->s.heap.objs.size<f.heap.objs.size->
   (∀h' O P St,(∀b o,f.heap.get? b=ap o->h'.get? b=ap o)->PSrc j w s.heap.objs.size O ps P St->St 0 h'->(∀b∈P,b∈[]\/s.heap.objs.size<b)->Q (.ref O) { f with heap:=h' })->ez (eC j w) A' (ZZ<|.ref l) Q E f:=by
 intro A' f Q E K lt k;have ne:∀{b o},s.heap.get? b=ap o->b≠s.heap.objs.size/\b≠f.heap.objs.size:=λe=>#[Uv (Ue e),Uv<|YI (Ue e) lt];have z:f.heap.IsList l (Ts.map UE).toArray:=#[_,K _ _ B,rfl,m,rfl];have J:∀{h h':g4}(b:cb),(∀c o,c≠b->h.get? c=ap o->h'.get? c=ap o)->(∀{c o},s.heap.get? c=ap o->c≠b)->h.IsList l (Ts.map UE).toArray/\(∀(i:Nat)(v:i<Ts.length)(u:i<ps.length),xi h Ts[i] ps[i].1 ps[i].2)->h'.IsList l (Ts.map UE).toArray/\∀(i:Nat)(v:i<Ts.length)(u:i<ps.length),xi h' Ts[i] ps[i].1 ps[i].2:=by
  intro h h' b k n q;obtain⟨⟨o,G,H⟩,p⟩:=q;refine#[#[o,k _ _ (n B) G,H],λi v u=>?_];obtain⟨o,x,e,r⟩:=p i v u;obtain⟨_,_,T,_⟩:=C i v u;exact#[o,x,k _ _ (n T) e,r]
 refine vx z (k _ f.heap.objs.size [f.heap.objs.size] (λi h=>h.IsListIter f.heap.objs.size l i/\h.IsList l (Ts.map UE).toArray/\∀(i:Nat)(v:i<Ts.length)(u:i<ps.length),xi h Ts[i] ps[i].1 ps[i].2) (λb o e=>Ua _ e) #[by simp;exact Uv lt,λi h h' g k=>#[g.1.at λo e=>k _ o (Wi lt) e,J _ k (λe=>(ne e).1) g.2],?_,?_] #[#[_,Uh _ rfl,rfl,rfl],?_,λi v u=>?_] λb N=>.inr (by simp at N;subst N;exact lt))
 .intro A i L U Q E M _ g F
  refine aau (x:=.ref Ts[i]) g.1 g.2.1 (by simp[R,L]) λh' y I=>?_
  obtain⟨a,b⟩:=J _ (λc o S e=>I.extBut c o S e) (λe=>(ne e).2) g.2;exact F h' Ts[i] #[y,a,b] (b i (by lia) L) λc o n e=>I.extBut c o (by simpa using n) e
 .exact λA U Q E M g F=>aaD M g.1 g.2.1 (by simp[R]) λh' k=>F h' λc o n e=>k c o (by simpa using n) e
 .obtain⟨o,G,H⟩:=z
  exact#[o,Ua _ G,H]
 .obtain⟨o,n,e,r⟩:=C i v u
  exact#[o,n,Ua _ (K _ _ e),r]
end _S
namespace _2
open PySem PySem.Spec PyProof.Rows _S
inductive PrK(H:Hp):List V->List (aC×V)->Prop
 |nil:PrK H [] []
 |cons {T:cb} {k:aC} {x:V} {vs:List V} {aaN:List (aC×V)} (hT:H T=ap (.tup [kV k,x])) (r:PrK H vs aaN):PrK H (.ref T::vs) ((k,x)::aaN)
theorem Inv.pair(I:Inv X aaL Z H s)(h:H T=ap (.tup [y,x])):∃k v,RelV y k/\RelV x v/\xi s.heap T k v:=by
 obtain⟨_,f,r,o,e,⟨c,n,d⟩,_⟩:=(I.hok T _ h);obtain⟨k,v,rfl,a,b⟩:=r.two;exact#[k,v,a,b,o,n,e,c,d]
theorem Inv.prK(I:Inv X aaL Z H s):∀{vs:List V}{aaN:List (aC×V)},PrK H vs aaN->∃(Ts:aaX)(rs:List (aC×ay×ay)),vs=Ts.map V.ref/\KV aaN (rs.map λr=>(r.1,r.2.2))/\Ts.length=rs.length/\(∀r∈rs,(aT X.prog X.w).is r.1 r.2.1=true)/\∀(i:Nat)(l:i<Ts.length)(j:i<rs.length),xi s.heap Ts[i] rs[i].2.1 rs[i].2.2
 |_,_,.nil=>#[[],[],rfl,.nil,rfl,by simp,λi h=>absurd h (X3 _)]
 |_,_,.cons (T:=T) (k:=k) hT r=>by
  obtain⟨Ts,rs,rfl,q,g,c,f⟩:=I.prK r;obtain⟨e,v,a,b,p⟩:=I.pair hT;refine#[T::Ts,(k,e,v)::rs,rfl,.cons #[rfl,b] q,by simp[g],λr hr=>?_,λi l j=>?_]
  .rcases Uj.mp hr with rfl|hr
   .exact jx a
   exact c r hr
  cases i with
  |zero=>exact p
  |succ i=>exact f i _ _
theorem Inv.ls(I:Inv X aaL Z H s)(e:Rd H l (.lst vs)):∃aaR n,Vals vs aaR/\Om s.heap l aaR.toArray n:=by
 obtain⟨_,aaR,n,r,q⟩:=(e.ok I.hok);exact#[_,n,r,q]
theorem xQ(B:X.calm=true):bt X (.type "dict") (λxs H Q=>∃l vs aaN,xs=[.ref l]/\Rd H l (.lst vs)/\PrK H vs aaN/\aaN.length<=1000000/\∀p,H p=bb->Q (.ref p) (upd H p<|.dK<|aaN.foldl (λa p=>fu a p.1 p.2) [])):=by
 rintro aaL s Z H xs C Q I r ⟨l,vs,aaN,rfl,x,w,E,q⟩
 obtain⟨u,rfl,z⟩:=r.one;cases z;obtain⟨Ts,m,rfl,j,e,c,h⟩:=I.prK w;obtain⟨f,n,A,b⟩:=I.ls x;obtain rfl:f=Ts.map _:=pN A;have g:m.length<=1000000:=by have:=VC j;simp_all
 refine nh B I rfl rfl rfl (by lia) (by lia) (by simp) j c g #[_,b,rfl] (by decide) (λA' F Q' E' v o=>oH (o _ _ b) v) (xn (by simp[e]) b λi y G=>?_) q
 simp;exact h i y _
end _2
namespace _3
open PySem _2 _S
def uR:List D->Option (List (aC×D))
 |[]=>ap []
 |.tup [k,v]::ds=>match cE k,uR ds with
  |some ks,ap r=>ap ((ks,v)::r)
  |_,_=>bb
 |_=>bb
theorem FO:∀{ds:List D}{vs:List V}{aaN:List (aC×D)},Rps K H ds vs->uR ds=ap aaN->∃i,PrK H vs i/\Rkv K H aaN i
 |[],vs,aaN,r,e=>by cases e;cases r;exact#[[],.nil,.nil]
 |d::ds,vs,aaN,r,e=>by
  obtain⟨v,E,rfl,a,b⟩:=r;unfold uR at e
  split at e
  .trivial
  .rename_i k x n h
   cases h
   split at e
   .rename_i z q o l
    cases e;obtain⟨i,p,w⟩:=FO b l;obtain⟨T,y,rfl,m,u⟩:=a;obtain⟨A,s,rfl,f,c⟩:=u;obtain⟨C,j,rfl,c,g⟩:=c;cases g;have:=gS f o;subst this;exact#[_,.cons m p,.cons #[rfl,c] w]
   cases e
  cases e
theorem ED[DecidableEq c](h:Rkv K H a b):∀{a0:List (c×D)}{b0:List (c×V)},Rkv K H a0 b0->Rkv K H (a.foldl (λx p=>eh x p.1 p.2) a0) (b.foldl (λx p=>fu x p.1 p.2) b0):=by
 induction h with
 |nil=>exact λh=>h
 |@cons p q _ _ h t ih=>
  intro a0 b0 e;rw[Vs,Vs];refine ih ?_;rw[<- h.1];exact e.put _ h.2
theorem L5(f:RepH K H M)(r:Rp K H d v)(e:cG M d=ap xs)(g:∀ys,d≠.ml ys):∃l vs,v=.ref l/\Rd H l (.lst vs)/\Rps K H xs vs:=by
 cases d with
 |lst ys=>
  cases e;obtain⟨p,vs,rfl,⟨o,h⟩,r⟩:=r;exact#[p,vs,rfl,.inr #[o,h],r]
 |ml ys=>exact absurd rfl (g ys)
 |ref a=>
  simp only[cG]at e
  split at e
  .rename_i ys q
   cases e;cases r;obtain⟨vs,c,b⟩:=f _ _ q;exact#[a,vs,rfl,.inl c,b]
  .cases e
 |_=>cases e
noncomputable def Ek:D->Bool
 |.ml _=>cp
 |_=>true
theorem Jn(h:Ek d=true):∀ys,d≠.ml ys:=λys e=>by subst e;cases h
def gl:oU:=λb M Q=>one b λd=>Ek d=true/\so (cG M d) λc=>so (uR c) λaaN=>aaN.length<=1000000/\∀p,M p=bb->Q (.ref p) (M.upd p<|.dK<|aaN.foldl (λa p=>eh a p.1 p.2) [])
theorem vk(hc:X.calm=true):bt X (.type "dict") (liftC X gl):=by
 rintro aaL s Z H xs us Q I r ⟨ds,M,QQ,rh,rp,h,up⟩
 unfold gl at h;obtain⟨_,rfl,h⟩:=h.inv;obtain⟨v,rfl,rv⟩:=g6 (ds:=[]) rp;obtain⟨hm,h⟩:=h;obtain⟨ys,e,h⟩:=h.inv;obtain⟨aaN,e2,h⟩:=h.inv;obtain⟨l,vs,rfl,hq,rr⟩:=L5 rh rv e (Jn hm);obtain⟨ws,h1,h2⟩:=FO rr e2;exact xQ hc _ s Z H _ us Q I r #[l,vs,ws,rfl,hq,h1,by rw[<- h2.length];exact h.1,λp hp=>up _ _ (h.2 p<|rh.fresh hp) _ _ (rh.put (by rw[hp];trivial) #[_,upd_same,(ED h2 .nil).mono<|Imm.new hp]) (Frm.put<|.inl hp) rfl]
end _3
namespace _3
open PySem _2
def iy:List D->List D->List D->List D
 |x::xs,y::ys,u::us=>.tup [x,y,u]::iy xs ys us
 |_,_,_=>[]
theorem qh:∀{xs ys us:List D}{i:Nat}{d:D},(iy xs ys us)[i]?=ap d->∃x y u,xs[i]?=ap x/\ys[i]?=ap y/\us[i]?=ap u/\d=.tup [x,y,u]
 |x::xs,y::ys,u::us,0,d,h=>by simp[iy]at h;simp_all
 |x::xs,y::ys,u::us,i+1,d,h=>by simp only[TZ]at h ⊢;exact qh h
 |[],_,_,_,_,h=>by trivial
 |_::_,[],_,_,_,h=>by trivial
 |_::_,_::_,[],_,_,h=>by trivial
theorem pT:∀{xs ys us:List D}{i:Nat},(iy xs ys us).length<=i->xs.length<=i\/ys.length<=i\/us.length<=i
 |x::xs,y::ys,u::us,0,h=>by trivial
 |x::xs,y::ys,u::us,i+1,h=>by
  have:=pT (by simpa [iy] using h)
  simp_all
 |[],_,_,_,_=>.inl (by simp)
 |_::_,[],_,_,_=>.inr (by simp_all)
 |_::_,_::_,[],_,_=>.inr (by simp_all)
def ui(t:eA):wt:=λU M R=>t U M λg M1=>cns g λd r=>two r λe f=>so (aQ M1 d) λc=>so (aQ M1 e) λb=>so (aQ M1 f) λa=>R #[iy c b a,br d c++(br e b++br f a)] M1
theorem IJ(C:Gl X "zip")(v:X.mg "zip"=bb)(s:DA X B [a,b,c] l)
  (w:eg [a,b,c] X.env=[(cp,fv a X.env),(cp,fv b X.env),(cp,fv c X.env)]:=by rfl) (hs2:eg [b,c] X.env=[(cp,fv b X.env),(cp,fv c X.env)]:=by rfl):
  DI X B (.Tuple g E A) (.Call (.Name "zip" p) [a,b,c] [] pos) (ui l):=by
 refine Cg (λM M1 R h=>?_) C v s (by rw[w,hs2]) (by rw[hs2];rfl)
 replace h:=h.inv;obtain⟨d,r,rfl,h⟩:=h
 replace h:=h.inv;obtain⟨e,f,rfl,h⟩:=h
 obtain⟨N,n,h⟩:=h.inv;obtain⟨J,m,h⟩:=h.inv;obtain⟨I,q,h⟩:=h.inv;refine#[_,_,.inr rfl,.cons n (.cons m<|.cons q .nil),#[λi z o=>?_,λi j=>?_],by simpa [xS] using h]
 .obtain⟨x,y,u,F,L,G,rfl⟩:=qh o
  simp_all
 simpa using (pT j)
end _3
namespace _S
open PySem PySem.W PyProof.Rows
variable{q:Array Nat}
noncomputable def Kp(ky:Nat->Nat)(p:Array Nat)(i:Nat):Nat:=ky (p.getD i 0)
def Pm(n:Nat)(p:Array Nat):Prop:=p.toList.Perm (Ut n)
def SU(ky:Nat->Nat)(p:Array Nat)(k:Nat):Prop:=∀i j,i<=j->j<k->Kp ky p i<=Kp ky p j
def SD(ky:Nat->Nat)(p:Array Nat)(k:Nat):Prop:=∀i j,i<=j->j<k->Kp ky p j<=Kp ky p i
def oY(n:Nat)(ky:Nat->Nat)(cmp:Nat->Nat->(Bool->ca->Prop)->ca->Prop)(s:ca):Prop:=∀i j,i<n->j<n->∀C:Bool->ca->Prop,C (decide (ky i<ky j)) s->cmp i j C s
section
variable{p:Array Nat}
theorem Pm.size(h:Pm n p):p.size=n:=by
 simpa using (List.Perm.length_eq h)
theorem Pm.lt(h:Pm n p)(b:i<n):p.getD i 0<n:=by
 have a:i<p.size:=by rw[Pm.size h];exact b
 have e:p.getD i 0=p[i]:=by simp[a]
 rw[e];exact UJ.mp (WC h |>.mp (by simp))
theorem Pm.of(h:Pm n p)(e:q.Perm p):Pm n q:=(Array.perm_iff_toList_perm.mp e).trans h
theorem xJ(h:q[i]?=p[j]?):q.getD i 0=p.getD j 0:=by
 simp_all
theorem gs(h:q[i]?=p[j]?):Kp ky q i=Kp ky p j:=congrArg ky (xJ h)
theorem nW(a:j<=p.size)(k:Nat):Kp ky (kas_rev p i j) k=if i<=k/\k<j then Kp ky p (i+j-1-k) else Kp ky p k:=by
 have e:=getElem?_mirror_all (i:=i) a k
 by_cases h:i<=k/\k<j
 .rw[if_pos h]at e ⊢
  exact gs e
 rw[if_neg h]at e ⊢;exact gs e
theorem EQ(c:src<p.size)(b:d<=src)(k:Nat):Kp ky (bubble p src d) k=if k=src-d then Kp ky p src else if src-d<k/\k<=src then Kp ky p (k-1) else Kp ky p k:=by
 have e:=getElem?_bubble c d b k
 by_cases h:k=src-d
 .rw[if_pos h]at e ⊢
  exact gs e
 rw[if_neg h]at e ⊢
 by_cases a:src-d<k/\k<=src
 .rw[if_pos a]at e ⊢
  exact gs e
 rw[if_neg a]at e ⊢;exact gs e
theorem Hw{p:Array Nat}:∀k,m+1-(0+1)<=k->k<m+1->Kp ky p k=Kp ky p (m+1-1):=λk b a=>by
 have e:k=m:=by lia
 subst e;rfl
theorem SU1:SU ky p 1:=λi j a b=>by
 have e:i=j:=by lia
 rw[e];exact Uk _
theorem Pm.rev(h:Pm n p):Pm n (kas_rev p i j):=h.of (mirror_perm ..)
theorem nR(f:oY n ky cmp s)(a:i<n)(b:j<n)(g:ky i<ky j->(k true).kasWp cmp Q s)(e:¬ky i<ky j->(k cp).kasWp cmp Q s):(KasT.ask i j k).kasWp cmp Q s:=by
 refine f i j a b _ ?_
 by_cases c:ky i<ky j
 .rw[decide_eq_true c];exact g c
 rw[decide_eq_false c];exact e c
theorem xb(l:oY n ky cmp s)(g:Pm n p):∀(f a:Nat)(Q:Nat->ca->Prop),1<=a->a+f<=n->SU ky p a->(∀m,a<=m->m<=a+f->SU ky p m->(m<a+f->Kp ky p m<Kp ky p (m-1))->Q m s)->(kas_asc p f a).kasWp cmp Q s
 |0,a,Q,h1,h2,hs,h=>h a (by lia) (by lia) hs (by lia)
 |f+1,a,Q,h1,h2,hs,h=>by
  refine nR l (g.lt<|by lia) (g.lt<|by lia) (λc=>?_) λc=>?_
  .exact h a (by lia) (by lia) hs λ_=>c
  refine xb l g f _ Q (by lia) (by lia) (λi j b v=>?_) λm x w o r=>h m (by lia) (by lia) o (by lia)
  by_cases e:j=a
  .subst e
   by_cases u:i=j
   .simp_all
   .exact Uu (hs i _ (by lia)<|by lia) (Wn c)
  exact hs i j b (by lia)
theorem lB(v:oY n ky cmp s):∀(f:Nat)(p:Array Nat)(m q:Nat)(Q:Array Nat×Nat×Nat->ca->Prop),Pm n p->1<=m->m+f<=n->SD ky p m->q+1<=m->(∀k,m-(q+1)<=k->k<m->Kp ky p k=Kp ky p (m-1))->
  (∀a b g,Pm n a->m<=b->b<=m+f->SD ky a b->g+1<=b->(∀k,b-(g+1)<=k->k<b->Kp ky a k=Kp ky a (b-1))->Q (a,b,g) s)->(kas_desc f p m q).kasWp cmp Q s
 |0,p,m,q,Q,hp,h1,h2,hs,hq,he,h=>h p m q hp (Uk _) (by lia) hs hq he
 |f+1,p,m,q,Q,hp,h1,h2,hs,hq,he,h=>by
  have one:∀a,(∀k,Kp ky a k=Kp ky p k)->Kp ky p m<=Kp ky p (m-1)->SD ky a (m+1):=λa w c i j x G=>by
   rw[w,w]
   by_cases e:j=m
   .subst e
    by_cases F:i=j
    .simp_all
    .exact Uu c (hs i (j-1) (by lia)<|by lia)
   .exact hs i j x (by lia)
  refine nR v (hp.lt<|by lia) (hp.lt<|by lia) (λc=>?_) λc=>?_
  .have B:=V0 c
   show (if q>0 then _ else _:KasT _).kasWp cmp Q s
   split
   .have w:∀k,Kp ky (kas_rev p (m-(q+1)) m) k=Kp ky p k:=λk=>by
     rw[nW (by rw[hp.size];lia)]
     split
     .rename_i z
      rw[he _ (by lia) (by lia),he k z.1 z.2]
     .rfl
    exact lB v f _ (m+1) 0 Q hp.rev (by lia) (by lia) (one _ w B) (by lia) Hw λa b g o y A r u l=>h a b g o (by lia) (by lia) r u l
   .exact lB v f p (m+1) 0 Q hp (by lia) (by lia) (one _ (λ_=>rfl) B) (by lia) Hw λa b g o y A r u l=>h a b g o (by lia) (by lia) r u l
  .refine nR v (hp.lt<|by lia) (hp.lt<|by lia) (λC=>?_) λC=>?_
   .exact h p m q hp (Uk _) (by lia) hs hq he
   .have E:Kp ky p m=Kp ky p (m-1):=Nat.le_antisymm (Wn C) (Wn c)
    refine lB v f p (m+1) (q+1) Q hp (by lia) (by lia) (by simp_all) (by lia) (λk H I=>?_) λa b g o y A r u l=>h a b g o (by lia) (by lia) r u l
    show Kp ky p k=Kp ky p m
    by_cases e:k=m
    .rw[e]
    .rw[he k (by lia) (by lia),E]
theorem nZ{t:KasT α}{Q:b->ca->Prop}(h:t.kasWp cmp (λa s'=>(f a).kasWp cmp Q s') s):(t.bind f).kasWp cmp Q s:=by
 rw[KasT.kasWp_bind];exact h
theorem vi(l:oY n ky cmp s)(b:Pm n p)(o:1<=m)(w:m<=n)(g:SD ky p m)(h:∀a c,Pm n c->1<=a->a<=n->SU ky c a->Q (a,c) s):(kas_tail3 m n p).kasWp cmp Q s:=by
 refine nZ (xb l b.rev _ m _ o (by lia) (λi j e u=>?_) λa v r f _=>h a _ b.rev (by lia) (by lia) f)
 rw[nW (by rw[b.size];lia),nW (by rw[b.size];lia),if_pos (by lia),if_pos (by lia)]
 exact g _ _ (by lia) (by lia)
theorem kG(f:oY n ky cmp s)(w:Pm n p)(C:1<=m)(B:m+1<=n)(v:SD ky p (m+1))(h:∀a b,Pm n b->1<=a->a<=n->SU ky b a->Q (a,b) s):(kas_descPart m n p).kasWp cmp Q s:=by
 refine nZ (lB f _ p _ 0 _ w (by lia) (by lia) v (by lia) Hw λb a u e x A o y g=>?_)
 dsimp only
 split
 .refine vi f e.rev (by lia) (by lia) (λi j c r=>?_) h
  have l:∀k,Kp ky (kas_rev b (a-(u+1)) a) k=Kp ky b k:=λk=>by
   rw[nW (by rw[e.size];lia)]
   split
   .rename_i z
    rw[g _ (by lia) (by lia),g k z.1 z.2]
   rfl
  rw[l,l];exact o i j c r
 exact vi f e (by lia) (by lia) o h
theorem Gz(r:oY n ky cmp s)(a:Pm n p)(I:1<=n)(h:∀o w,Pm n w->1<=o->o<=n->SU ky w o->Q (o,w) s):(kas_count n p).kasWp cmp Q s:=by
 refine nZ (xb r a _ 1 _ (by lia) (by lia) SU1 λm b H l y=>?_)
 by_cases e:m=n
 .subst e
  rw[if_pos (by simp)]
  exact h m p a b (by lia) l
 rw[if_neg (by simpa using e)]
 have lt:=y (by lia)
 by_cases g:m>1
 .rw[if_pos g]
  refine nR r (a.lt<|by lia) (a.lt<|by lia) (λc=>?_) λc=>?_
  .exact h m p a b (by lia) l
  have eq:∀k,k<m->Kp ky p k=Kp ky p (m-1):=λk f=>by
   have E:=l k (m-1) (by lia) (by lia)
   have F:=l 0 k (by lia) f
   have G:Kp ky p (m-1)<=Kp ky p 0:=Wn c;lia
  have f:∀k,Kp ky (kas_rev p 0 m) k=Kp ky p k:=λk=>by
   rw[nW (by rw[a.size];lia)]
   split
   .rename_i z
    rw[eq _ (by lia),eq k z.2]
   .rfl
  refine kG r a.rev b (by lia) (λi j v B=>?_) h
  rw[f,f]
  by_cases C:j=m
  .subst C
   by_cases A:i=j
   .rw[A];exact Uk _
   .rw[eq i (by lia)];lia
  .rw[eq i (by lia),eq j (by lia)];exact Uk _
 .have:m=1:=by lia
  subst this;refine kG r a b (by lia) (λi j v B=>?_) h
  have:Kp ky p 1<Kp ky p 0:=lt;have x:i=0\/i=1:=by lia
  have u:j=0\/j=1:=by lia
  rcases x with rfl|rfl<;>rcases u with rfl|rfl<;>lia
theorem o9(w:oY n ky cmp s)(o:Pm n p)(v:k<n)(e:SU ky p k):∀(f l r:Nat)(Q:Nat->ca->Prop),l<=r->r<=k->r-l<=f->(∀i,i<l->Kp ky p i<=Kp ky p k)->(∀i,r<=i->i<k->Kp ky p k<Kp ky p i)->
  (∀u,u<=k->(∀i,i<u->Kp ky p i<=Kp ky p k)->(∀i,u<=i->i<k->Kp ky p k<Kp ky p i)->Q u s)->(kas_place p k f l r).kasWp cmp Q s
 |0,l,r,Q,h1,h2,h3,a,b,h=>h l (by lia) a λi i1=>b i (by lia)
 |f+1,l,r,Q,h1,h2,h3,a,b,h=>by
  unfold kas_place
  by_cases c:l>=r
  .rw[if_pos c]
   exact h l (by lia) a λi i1=>b i (by lia)
  .rw[if_neg c]
   exact nR w (o.lt v) (o.lt<|by lia) (λg=>(o9 w o v e f l _ Q (by lia) (by lia) (by lia) a (λi i1 i2=>Us g (e _ i i1 i2)) h)) λg=>(o9 w o v e f _ r Q (by lia) (by lia) (by lia) (λi i1=>Uu (e i _ (by lia)<|by lia) (Wn g)) b h)
theorem Ib(u:oY n ky cmp s):∀(f:Nat)(p:Array Nat)(k:Nat)(Q:Array Nat->ca->Prop),Pm n p->1<=k->k+f=n->SU ky p k->(∀o,Pm n o->SU ky o n->Q o s)->(kas_bin f p k).kasWp cmp Q s
 |0,p,k,Q,hp,h1,h2,hs,h=>h p hp (by simp_all)
 |f+1,p,k,Q,hp,h1,h2,hs,h=>by
  refine nZ (o9 u hp (by lia) hs k 0 k _ (by lia) (by lia) (by lia) (by lia) (by lia) λl w a b=>?_)
  refine Ib u f _ _ Q (hp.of<|bubble_perm ..) (by lia) (by lia) (λi j g v=>?_) h
  have sz:k<p.size:=by rw[hp.size];lia
  have e:k-(k-l)=l:=by lia
  rw[EQ sz (by lia),EQ sz (by lia),e]
  by_cases i1:i=l
  .rw[if_pos i1]
   by_cases c:j=l
   .simp_all
   .rw[if_neg c,if_pos (by lia)]
    exact V0 (b _ (by lia)<|by lia)
  rw[if_neg i1]
  by_cases i2:l<i/\i<=k
  .rw[if_pos i2,if_neg (by lia),if_pos (by lia)]
   exact hs (i-1) (j-1) (by lia) (by lia)
  .rw[if_neg i2]
   by_cases c:j=l
   .rw[if_pos c];exact a i (by lia)
   .rw[if_neg c]
    by_cases r:l<j/\j<=k
    .rw[if_pos r];exact hs i (j-1) (by lia) (by lia)
    .rw[if_neg r];exact hs i j g (by lia)
theorem nB:Pm n (Vn<|Ut n):=by unfold Pm;simp
theorem yU(e:oY n ky cmp s)(f:1<=n)(h:∀p,Pm n p->SU ky p n->Q p s):(kas_sort n).kasWp cmp Q s:=by
 refine nZ (Gz e nB f λm p a c g b=>?_)
 split
 .rw[Nat.max_eq_left c]
  exact Ib e _ p m Q a c (by lia) b h
 have:m=n:=by lia
 subst this;exact h p a b
end
def jD:List Int->List Int->Bool
 |[],[]=>cp
 |[],_::_=>true
 |_::_,[]=>cp
 |x::xs,y::ys=>if x=y then jD xs ys else decide (x<y)
theorem At:∀x:List Int,jD x x=cp
 |[]=>rfl
 |x::xs=>by simp[jD,At xs]
theorem v_:∀x y:List Int,jD x y=cp->jD y x=cp->x=y
 |[],[],_,_=>rfl
 |[],_::_,h,_=>by trivial
 |_::_,[],_,h=>by trivial
 |x::xs,y::ys,h1,h2=>by
  unfold jD at h1 h2
  by_cases c:x=y
  .subst c
   rw[if_pos rfl]at h1 h2;rw[v_ xs ys h1 h2]
  rw[if_neg c]at h1;rw[if_neg (by lia)]at h2
  simp at h1 h2;lia
theorem tm:∀x y z:List Int,jD y x=cp->jD z y=cp->jD z x=cp
 |[],[],[],_,_=>rfl
 |[],[],_::_,_,h=>rfl
 |[],_::_,[],_,h=>by rfl
 |[],_::_,_::_,_,_=>rfl
 |_::_,[],_,h,_=>by trivial
 |_::_,_::_,[],_,h=>by assumption
 |x::xs,y::ys,z::zs,h1,h2=>by
  unfold jD at h1 h2 ⊢
  by_cases c:y=x
  .rw[if_pos c]at h1
   subst c
   by_cases d:z=y
   .rw[if_pos d]at h2 ⊢;exact tm xs ys zs h1 h2
   simp_all
  rw[if_neg c]at h1
  by_cases d:z=y
  .simp_all
  rw[if_neg d]at h2;simp at h1 h2;rw[if_neg (by lia)]
  simp;lia
theorem mE:∀x y:List Int,jD x y=true->jD y x=cp
 |[],[],h=>by rfl
 |[],_::_,_=>rfl
 |_::_,[],h=>by trivial
 |x::xs,y::ys,h=>by
  unfold jD at h ⊢
  by_cases c:x=y
  .subst c
   rw[if_pos rfl]at h ⊢;exact mE xs ys h
  rw[if_neg c]at h;rw[if_neg (by lia)]
  simp at h ⊢;lia
def dh:Ord (List Int):=#[jD,v_,tm,mE]
theorem yZ{α:Type}{p q:α->Bool}:∀{l:List α},(∀x∈l,p x=true->q x=true)->(∃y∈l,q y=true/\p y=cp)->l.countP p<l.countP q
 |[],_,⟨_,h,_⟩=>by cases h
 |x::l,h,⟨y,hy,hq,hp⟩=>by
  have mono:l.countP p<=l.countP q:=YL (by simp_all)
  rw[List.countP_cons,List.countP_cons];rcases Uj.mp hy with e|hy
  .subst e
   rw[if_pos hq,hp];simp;lia
  have:=yZ (by simp_all) #[y,hy,hq,hp]
  cases c:p x with
  |false=>simp;split<;>lia
  |true=>simp_all
def rk(ks:aaT)(i:Nat):Nat:=ks.countP λx=>jD x (ks.getD i [])
theorem ML(g:i<ks.length):decide (rk ks i<rk ks j)=jD (ks.getD i []) (ks.getD j []):=by
 unfold rk;have e:ks.getD i []∈ks:=by simp[g]
 generalize ks.getD i []=a at e;generalize ks.getD j []=b;cases c:jD a b with
 |true=>
  refine decide_eq_true (yZ (λx f h=>?_) #[a,e,c,At a]);cases d:jD x b with
  |true=>rfl
  |false=>
   have:=tm a b x (mE a b c) d
   simp_all
 |false=>
  refine decide_eq_false (Xg.mpr (YL λx f h=>?_));cases d:jD x a with
  |true=>rfl
  |false=>
   have:=tm b a x c d
   simp_all
end _S
namespace _3
open PySem _2 _S
theorem EF(a:Pm ks.length p)(n:SU (rk ks) p ks.length):p.toList.map (λi=>ks.getD i [])=kT dh ks:=by
 refine GE _ ?_ ?_
 .refine WS.mpr λi j l b g=>?_
  have sz:=a.size;simp at l b;simp only[XI,Array.getElem_toList];have c:=n i j (by lia) (by lia)
  unfold Kp at c;have f:p.getD j 0=p[j]:=by simp[b]
  have h:p[j]<ks.length:=by
   have:=a.lt (i:=j) (by lia)
   rw[f]at this;exact this
  show jD _ _=cp;rw[<- ML h]
  simp_all
 have:=List.Perm.map (λi=>ks.getD i []) a;have e:(Ut ks.length).map (λi=>ks.getD i [])=ks:=by
  refine Xa (by simp) λi c m=>?_
  simp[m]
 rw[e]at this;exact this
theorem j_(r:Vals vs aaR):∀l:List Nat,(∀i∈l,i<vs.length)->Vals (l.map λi=>vs.getD i .non) (l.map λi=>aaR.getD i U8)
 |[],_=>.nil
 |i::l,h=>by
  have a:=h i (by simp)
  obtain⟨v,f,e⟩:=r.get (Uc a);have c:vs.getD i .non=vs[i]:=by simp[a]
  have b:aaR.getD i U8=v:=by simp_all
  rw[Ud,Ud,c,b];exact .cons e (j_ r l<|by simp_all)
end _3
namespace _3
open PySem _2
variable{x:Str}
structure GF(K:Ug)(mg:aa2)(x:Str)(st:ol)(f:cb)(fd:f')(ps:aaV):Prop where
 F:Fun K x x st f fd
 b:Binds K fd ps []
 k:Vq K (.ref f)=true
 m:mg x=ap (.ref f)
structure GA(K:Ug)(mg:aa2)(x y:Str)(st:ol)(f:cb)(fd:f')(ps:aaV):Prop where
 F:Fun K y y st f fd
 b:Binds K fd ps []
 k:Vq K (.ref f)=true
 m:mg x=ap (.ref f)
structure FunV(K:Ug)(x aaM:Str)(st:ol)(f:cb)(fd:f'):Prop where
 ex:∃(oc:ay)(od:Option cb)(kV doc pm:ay)(an:Option cb)(cdv ct:ay)(osl:Array (Option ay))(T:cb),
  fd=Wt x aaM (ck st) (bv st) (aP st) (.ref T) kV doc pm an cdv ct/\K.lookup f=ap #[oc,od,.func fd,osl]/\XJ K cdv aaM=true
 kp:Vq K (.ref f)=true
structure GV(K:Ug)(mg:aa2)(x:Str)(st:ol)(f:cb)(fd:f')(ps:aaV)(dv:Int):Prop where
 F:FunV K x x st f fd
 b:Binds K fd ps []
 d:∃t,Binds K fd ps [.int dv t]
 k:Vq K (.ref f)=true
 m:mg x=ap (.ref f)
inductive GC(K:Ug)(mg:aa2)(x:Str)(st:ol)(f:cb)(fd:f')(ps:aaV):Prop
 |g (h:GF K mg x st f fd ps):GC K mg x st f fd ps
 |a {y:Str} (h:GA K mg x y st f fd ps):GC K mg x st f fd ps
 |v {dv:Int} (h:GV K mg x st f fd ps dv):GC K mg x st f fd ps
structure GM(K:Ug)(C:cb)(x aaM:Str)(st:ol)(f:cb)(fd:f')(ps:aaV):Prop where
 F:Fun K x aaM st f fd
 b:Binds K fd ps []
 m:Meth K C x f
structure GI(K:Ug)(C:cb)(x aaM:Str)(st:ol)(f:cb)(fd:f')(ps:aaV):Prop where
 F:Fun K x aaM st f fd
 b:Binds K fd ps []
 m:Mk K C f
theorem E6(h:GC X.K X.mg x st f fd ps)(F:FnOk X.prog X.w X.K X.mg X.base CX k f fd ps (bh X.K n T))(s:Room k X.A)(u:Gl X x)(j:bO CX X E)(ux:vo X.K B EE E)(l:DA X B (e::es) t)(i:(x==("__debug__":Str))=cp)(q:eg (e::es) X.env=(cp,fv e X.env)::eg es X.env)(c:(g3 pos<|starEach es X.env).any (·.1)=cp):
  DE X B (.Call (.Name x p) (e::es) [] pos) (aj T EE n t):=by
 cases h with
 |g h=>exact tW F s u h.m h.k h.b j ux l i q c
 |a h=>exact tW F s u h.m h.k h.b j ux l i q c
 |v h=>exact tW F s u h.m h.k h.b j ux l i q c
def Ou(X:Cx)(B:Bd)(x:Str)(T:Sd)(EE:DX)(n:Nat):Prop:=∃(st:ol)(f:cb)(fd:f')(ps:aaV)(k:Nat)(CX:pE)(E:XK),GC X.K X.mg x st f fd ps/\FnOk X.prog X.w X.K X.mg X.base CX k f fd ps (bh X.K n T)/\Room k X.A/\bO CX X E/\vo X.K B EE E
theorem Hg(h:Ou X B x T EE n)(l:Gl X x)(i:DA X B (e::es) t)(b:(x==("__debug__":Str))=cp)(j:eg (e::es) X.env=(cp,fv e X.env)::eg es X.env)(a:(g3 pos<|starEach es X.env).any (·.1)=cp):
  DE X B (.Call (.Name x p) (e::es) [] pos) (aj T EE n t):=by
 obtain⟨_,_,_,_,_,_,_,h,F,g,c,ux⟩:=h;exact E6 h F g l c ux i b j a
theorem E7(h:GI X.K C aaM x st f fd ps)(F:FnOk X.prog X.w X.K X.mg X.base CX k f fd ps (bh X.K n T))(q:Room (k+1) X.A)(s:Gl X y)(i:X.mg y=ap (.ref C))(g:bO CX X E)(ux:vo X.K B EE E)(l:DA X B (e::es) t)(c:(y==("__debug__":Str))=cp)(j:eg (e::es) X.env=(cp,fv e X.env)::eg es X.env)(a:(g3 pos<|starEach es X.env).any (·.1)=cp):
  DE X B (.Call (.Name y p) (e::es) [] pos) (iq C T EE n t):=KG h.m F q s i h.b g ux l c j a
theorem Fz(l:DE X B o ta)(c:Cls X.K C)(h:GM X.K C m aaM st f fd ps)(F:FnOk X.prog X.w X.K X.mg X.base CX k f fd ps (bh X.K n T))(q:Room k X.A)(i:bO CX X E)(ux:vo X.K B EE E)(j:DA X B (e::es) t)(a:eg (e::es) X.env=(cp,fv e X.env)::eg es X.env)(g:(g3 pos<|starEach es X.env).any (·.1)=cp)(s:fv (.Call (.Attribute o m aaQ) (e::es) [] pos) X.env=(do
   let ov <- fv o X.env
   L' aaQ.atName
   let (f,first) <- qb [ov] (B' ov m pl)
   Z5 pos f first (g3 pos<|starEach (e::es) X.env) (p1 pos<|keywordEach [] X.env))):
  DE X B (.Call (.Attribute o m aaQ) (e::es) [] pos) (dm C m T EE n ta t):=Ka l c h.m F q h.b i ux j a g s
theorem Dc(g:DE X B o ta)(c:Cls X.K C)(h:GM X.K C m aaM st f fd ps)(F:FnOk X.prog X.w X.K X.mg X.base CX k f fd ps (bh X.K n T))(j:Room k X.A)(a:bO CX X E)(ux:vo X.K B EE E)(i:fv (.Call (.Attribute o m aaQ) [] [] pos) X.env=(do
   let ov <- fv o X.env
   L' aaQ.atName
   let (f,first) <- qb [ov] (B' ov m pl)
   Z5 pos f first (g3 pos<|starEach [] X.env) (p1 pos<|keywordEach [] X.env))):
  DE X B (.Call (.Attribute o m aaQ) [] [] pos) (dm C m T EE n ta ag):=Ei g c h.m F j h.b a ux i
inductive FC(X:Cx)(scope:qa):List Str->List Nat->List (Str×cb)->Prop
 |nil:FC X scope [] [] []
 |cons {x:Str} {j:Nat} {c:cb} {fs:aaV} {js:List Nat} {cl:List (Str×cb)}:X.N[j]?=ap x->X.env.cells.lookup x=ap c->(X.env.kindOf x=ap .cell\/X.env.kindOf x=ap .free)->
   ((T_ scope X.env).names.lookup x=ap .cell\/(T_ scope X.env).names.lookup x=ap .free)->FC X scope fs js cl->FC X scope (x::fs) (j::js) ((x,c)::cl)
theorem FC.ok(h:FC X g fs j cl):Frees X g fs j/\∃i:List cb,fs.length=i.length/\cl=fs.zip i/\∀p∈cl,X.env.cells.lookup p.1=ap p.2:=by
 induction h with
 |nil=>exact#[.nil,[],rfl,rfl,memZ]
 |cons a b c d _ ih=>
  obtain⟨q,i,l,m,s⟩:=ih;exact#[.cons a c d q,_::i,congrArg _ l,by rw[m];rfl,memC b s]
theorem nodC(h:N.Nodup):(a_ X N scope cl C a H₀ b pl).N.Nodup:=h
theorem Cb(h:FC X scope fs js cl)(s:scope.kind=.function)(q:∀y∈scope.names,y.2≠.cell/\(y.2=.free->y.1∈fs))(m:∀x∈scope.names,x.2=.local->scope.names.lookup x.1=ap .local)(a:Z0 scope X.env=pure cl):CompOk X scope cl ls fs js:=by
 obtain⟨j,u,b,c,l⟩:=h.ok;subst c;exact Ld s q m b a l j
theorem Gn(z:X.calm=true)(h:FC X scope fs js cl)(w:scope.kind=.function)(F:∀y∈scope.names,y.2≠.cell/\(y.2=.free->y.1∈fs))(A:∀x∈scope.names,x.2=.local->scope.names.lookup x.1=ap .local)(m:Z0 scope X.env=pure cl)(u:DI X B tg iter wi)(q:∀(C:cb)(j:ca)(H₀:Hp)(l:aaX)(pl:aa1),DG (a_ X (ls++fs) scope cl C j H₀ l pl) xN tg g)(v:∀(C:cb)(j:ca)(H₀:Hp)(l:aaX)(pl:aa1),OO (a_ X (ls++fs) scope cl C j H₀ l pl) xN ifs tt)(G:∀(C:cb)(j:ca)(H₀:Hp)(l:aaX)(pl:aa1),DE (a_ X (ls++fs) scope cl C j H₀ l pl) xN elt te)(s:∀x,n7 iter X.env x=pure x):DE X B (.ListComp elt [#[tg,iter,ifs,0]] scope pos) (aO wi ls js g tt te):=
 IL z (Cb h w F A m) u (λa b c d e=>#[q a b c d e,v a b c d e,G a b c d e]) s
theorem Fd(s:X.N.Nodup)(q:X.N[i]?=ap x)(A:DR X.env.scope x)(z:X.calm=true)(h:FC X scope fs js cl)(H:scope.kind=.function)(K:∀y∈scope.names,y.2≠.cell/\(y.2=.free->y.1∈fs))(J:∀x∈scope.names,x.2=.local->scope.names.lookup x.1=ap .local)(m:Z0 scope X.env=pure cl)(v:DI X B tg iter wi)(F:∀(C:cb)(j:ca)(H₀:Hp)(l:aaX)(pl:aa1),DG (a_ X (ls++fs) scope cl C j H₀ l pl) xN tg g)(u:∀(C:cb)(j:ca)(H₀:Hp)(l:aaX)(pl:aa1),OO (a_ X (ls++fs) scope cl C j H₀ l pl) xN ifs tt)(P:∀(C:cb)(j:ca)(H₀:Hp)(l:aaX)(pl:aa1),DE (a_ X (ls++fs) scope cl C j H₀ l pl) xN elt te)(L:X.env.blockKind=.function)(O:X.env.scope.names.lookup x=ap .local)(I:px.line=pos.line)(M:(scope.names.any λ(n,k)=>n==x&&(k==.local||k==.cell))=cp)(G:∀x,n7 iter X.env x=pure x)(w:X.fn x=true\/X.env.scope.names.lookup x=ap .local):
  DS X B (.Assign [.Name x px] (.ListComp elt [#[tg,iter,ifs,0]] scope pos) spos) (fG i<|aO wi ls js g tt te):=
 IC s q A z (Cb h H K J m) v (λa b c d e=>#[F a b c d e,u a b c d e,P a b c d e]) (JH L O I M) G w
theorem Iq(h:GF X.K X.mg x st f fd ps)(F:FnOk X.prog X.w X.K X.mg X.base (m7 X.prog X.w) k f fd ps (bh X.K n T))(H:X.stack=X.env::X.outer)(z:X.env.frame=ap X.env.locals)(U:Room k X.A)(Q:Gl X x)(O:DA X.nox B (e::es) t)(EX:ExcAt X.K C)(q:Gl X l)(G:X.mg l=ap (.ref C))(I:∀S:cb,A0 (X.marked<|.ref S) B (c::a) M)(J:(x==("__debug__":Str))=cp)(s:(l==("__debug__":Str))=cp)(R:eg (e::es) X.env=(cp,fv e X.env)::eg es X.env)(v:(g3 u<|starEach es X.env).any (·.1)=cp)(y:pb (.Call (.Name x p) (e::es) [] u) bb L.line X.env=pure cp):
  DS X B (.Try [.Expr (.Call (.Name x p) (e::es) [] u) L] [.ExceptHandler (ap<|.Name l P) bb (c::a) j] [] [] pos) (Pf C T n t M):=xz H z F U Q h.m h.k h.b O EX q G I J s R v y
section
variable{id:String}
theorem cB(j:bt X (.builtin id) (liftC X r))(c:eT x=ap (.builtin id))(i:Gl X x)(f:X.mg x=bb)(h:DA X B (e::es) t)(l:x≠"__name__")(b:(x==("__debug__":Str))=cp)(g:eg (e::es) X.env=(cp,fv e X.env)::eg es X.env)(a:(g3 pos<|starEach es X.env).any (·.1)=cp):DE X B (.Call (.Name x p) (e::es) [] pos) (bn r t):=Hb j i f c h l b g a
theorem fQ(j:bt X (.type T) (liftC X r))(c:eT x=ap (.type T))(i:Gl X x)(f:X.mg x=bb)(h:DA X B (e::es) t)(l:x≠"__name__")(b:(x==("__debug__":Str))=cp)(g:eg (e::es) X.env=(cp,fv e X.env)::eg es X.env)(a:(g3 pos<|starEach es X.env).any (·.1)=cp):DE X B (.Call (.Name x p) (e::es) [] pos) (bn r t):=CI j i f c h l b g a
theorem on(a:eT x=ap (.type T))(c:Gl X x)(b:X.mg x=bb)(g:x≠"__name__")(f:(x==("__debug__":Str))=cp):DE X B (.Name x pos) (dC<|.ty T):=Sk c b a g f
theorem F8(q:U' Ty)(f:Slot Ty name id)(h:Y' (.builtin id)=pure (.type "method_descriptor"))(i:wq X id (liftM X r))(m:Ty="list"\/Ty="str"\/Ty="int"\/Ty="dict")(n:DE X B o to)(j:DA X B (e::es) t)(b:kr o name X.env (fv o X.env)=fv o X.env)(g:((g3 aaP<|starEach (e::es) X.env).all (λx=>!x.1)&&(p1 aaP<|keywordEach [] X.env).all (λx=>x.1.isSome)
   && decide ((e::es).length+([]:List pt).length+(if ([]:List pt).isEmpty then 0 else 1)<30))=true)(c:(aaQ.endLine==aaP.line)=true)(l:eg (e::es) X.env=(cp,fv e X.env)::eg es X.env)(a:(g3 aaP<|starEach es X.env).any (·.1)=cp):
  DE X B (.Call (.Attribute o name aaQ) (e::es) [] aaP) (iN Ty r to t):=S6 m q f h i n j b g c l a
theorem t6(j:U' Ty)(c:Slot Ty name id)(f:Y' (.builtin id)=pure (.type "method_descriptor"))(g:wq X id (liftM X r))(h:Ty="list"\/Ty="str"\/Ty="int"\/Ty="dict")(i:DE X B o to)(a:kr o name X.env (fv o X.env)=fv o X.env)(b:(aaQ.endLine==aaP.line)=true):DE X B (.Call (.Attribute o name aaQ) [] [] aaP) (iN Ty r to ag):=Pp h j c f g i a b
theorem EH(f:Slot "tuple" name id)(h:Y' (.builtin id)=pure (.type "method_descriptor"))(i:wq X id (liftM X r))(m:DE X B o to)(j:DA X B (e::es) t)(b:kr o name X.env (fv o X.env)=fv o X.env)(g:((g3 aaP<|starEach (e::es) X.env).all (λx=>!x.1)&&(p1 aaP<|keywordEach [] X.env).all (λx=>x.1.isSome)
   && decide ((e::es).length+([]:List pt).length+(if ([]:List pt).isEmpty then 0 else 1)<30))=true)(c:(aaQ.endLine==aaP.line)=true)(l:eg (e::es) X.env=(cp,fv e X.env)::eg es X.env)(a:(g3 aaP<|starEach es X.env).any (·.1)=cp):
  DE X B (.Call (.Attribute o name aaQ) (e::es) [] aaP) (Ik r to t):=R5 f h i m j b g c l a
theorem IM(j:Nx X a (liftR2 X r))(f:X.N.Nodup)(g:X.N[i]?=ap x)(b:DR X.env.scope x)(c:DE X B e te)(h:X.fn x=true\/X.env.scope.names.lookup x=ap .local):
  DS X B (.AugAssign (.Name x pos') a e pos) (Fi i te r):=PV f g b c j h
end
structure Nf(K:Ug)(x:Str)(st:ol)(f:cb)(fd:f'):Prop where
 a:Vp K eH x=ap (ap<|.ref f)
 F:Fun K x x st f fd
structure Af(K:Ug)(x y:Str)(st:ol)(f:cb)(fd:f'):Prop where
 a:Vp K eH x=ap (ap<|.ref f)
 F:Fun K y y st f fd
structure Mf(K:Ug)(C:cb)(x q:Str)(st:ol)(f:cb)(fd:f'):Prop where
 a:U1 K (.ref C) x=ap (ap<|.ref f)
 i:W.isFn K (.ref f)=true
 F:Fun K x q st f fd
theorem us1{α:Type}{P:List α->Prop}(h:∀a,P [a]):∀us:List α,us.length=1->P us
 |[a],_=>h a
theorem us2{α:Type}{P:List α->Prop}(h:∀b a,P [b,a]):∀us:List α,us.length=2->P us
 |[b,a],_=>h b a
theorem us3{α:Type}{P:List α->Prop}(h:∀a c b,P [a,c,b]):∀us:List α,us.length=3->P us
 |[a,c,b],_=>h a c b
theorem us4{α:Type}{P:List α->Prop}(h:∀a c b f,P [a,c,b,f]):∀us:List α,us.length=4->P us
 |[a,c,b,f],_=>h a c b f
theorem us5{α:Type}{P:List α->Prop}(h:∀c b a g f,P [c,b,a,g,f]):∀us:List α,us.length=5->P us
 |[c,b,a,g,f],_=>h c b a g f
theorem us6{α:Type}{P:List α->Prop}(h:∀c b a i f g,P [c,b,a,i,f,g]):∀us:List α,us.length=6->P us
 |[c,b,a,i,f,g],_=>h c b a i f g
abbrev Bnd(ps:aaV)(x aaM:Str)(st:ol):Prop:=∀(kV doc pm:ay)(an:Option cb)(cdv ct:ay)(us:aaW),us.length=ps.length->aah (Wt x aaM (ck st) (bv st) (aP st) .none kV doc pm an cdv ct) #[us,[]]=pure (ps.zip us)
section
variable{K:Ug}{f:cb}{fd:f'}{ps:aaV}{aaM:Str}{st:ol}
theorem gf(X:K.In h)(G:h.Ns eH mg)(l:Nf K x st f fd)(b:Bnd ps x x st:=by ac_rfl):GF K mg x st f fd ps:=#[l.F,l.F.binds b,l.F.kp,WM X G l.a]
theorem ga(X:K.In h)(G:h.Ns eH mg)(l:Af K x y st f fd)(b:Bnd ps y y st:=by ac_rfl):GA K mg x y st f fd ps:=#[l.F,l.F.binds b,l.F.kp,WM X G l.a]
theorem gm(l:Mf K C x aaM st f fd)(b:Bnd ps x aaM st:=by ac_rfl):GM K C x aaM st f fd ps:=#[l.F,l.F.binds b,l.a,l.i,l.F.kp]
theorem gi(mk:Xe K C=true)(c:Vq K (.ref C)=true)(l:Mf K C "__init__" aaM st f fd)(b:Bnd ps "__init__" aaM st:=by ac_rfl):GI K C "__init__" aaM st f fd ps:=#[l.F,l.F.binds b,mk,l.a,l.i,c]
abbrev cm(P:eS)(w:fx)(mg:aa2)(base:g4)(_:Fun K x aaM st f fd)(_:Binds K fd ps [])(k:Nat)(S:Sd):Prop:=FnOk P w K mg base (m7 P w) k f fd ps (bh K ps.length S)
theorem fnS(j:S=aD N T)(F:Fun K x aaM st f fd)(b:Binds K fd ps [])(g:FnScope N ps (aP st))(i:FnScope N ps (aP st)->∀(c:ay)(A:fy)(a:List Env)(s:ca)(H:Hp)(E:XK)(B:Bd)(EE:DX),Room k (A.deeper<|Wg aaM (aP st) s.heap.objs.size f c)->vo K B EE E->
   A0 (eM (m7 P w) P w K mg base N aaM (aP st) f c A a s H E) B (bv st) (T EE)):cm P w mg base F b (k+1) S:=by
 subst j;exact fnD F g (i g)
end
end _3
namespace _3
open PySem _2 _S
def QZ(M:Mem):D->Bool
 |.ref a=>match M a with
  |some (.dK _)=>true
  |_=>cp
 |_=>cp
def Hy(td ty:ba):ba:=λU M Q=>td U M λx M1=>QZ M1 x=true/\ty U M1 λy M2=>onR x λa=>mK (M2 a) λb=>so (cE y) λk=>so (cI b k) λv=>Q v (M2.upd a<|.dK<|pR b k)
def GQ(td ty tx:ba):ba:=λU M Q=>td U M λx M1=>QZ M1 x=true/\ty U M1 λy M2=>tx U M2 λz M3=>onR x λa=>mK (M3 a) λb=>so (cE y) λk=>oe (cI b k) (λv=>Q v (M3.upd a<|.dK<|pR b k)) (Q z M3)
theorem Ht(f:RepH K H M)(r:Rp K H x v)(e:QZ M x=true):∃a,x=.ref a/\v=.ref a/\IsD H a:=by
 cases x with
 |ref a=>
  cases r;refine#[a,rfl,rfl,?_];simp[QZ]at e
  split at e
  .rename_i q;obtain⟨c,b,_⟩:=f _ _ q;exact .inl #[c,.inl b]
  cases e
 |_=>cases e
theorem Kd(ho:DE X B o to)(he:DE X B e te)(m:M1 X o "pop" aaQ e aaP):DE X B (.Call (.Attribute o "pop" aaQ) [e] [] aaP) (Hy to te):=by
 refine aS (HV ho he m) ?_
 rintro Z H Q ⟨U,M,QQ,s,h,u⟩
 refine#[U,M,_,s,h,λx M1 h1 v1 H1 rh1 i1 r1=>?_];obtain⟨a,rfl,rfl,hd⟩:=Ht rh1 r1 h1.1;refine#[a,rfl,hd,U,M1,_,s.go rh1 i1,h1.2,λy M2 h2 v2 H2 rh2 i2 r2=>?_];obtain⟨_,e,h2⟩:=h2.inv;cases e;obtain⟨aaN,hM,h2⟩:=h2.inv;obtain⟨k,ek,h2⟩:=h2.inv;obtain⟨ws,g1,g2⟩:=rh2 _ _ hM;have im:Imm H2 (upd H2 a<|.dK<|ir ws k):=Imm.upd (by rw[g1];trivial)
 rcases g2.val k with⟨q,_⟩|⟨d,w,q,qw,rw'⟩
 .rw[q]at h2;exact h2.elim
 rw[q]at h2;exact#[ws,k,w,g1,(gS r2 ek),qw,u _ _ h2 _ _ (rh2.put (by rw[g1];trivial) #[_,upd_same,(g2.drop k).mono im]) ((i1.trans i2).trans<|Frm.put<|.inr #[_,hM])<|rw'.mono im]
theorem JF(ho:DE X B o to)(he:DE X B e te)(hf:DE X B f tf)(m:M2 X o "pop" aaQ e f aaP):DE X B (.Call (.Attribute o "pop" aaQ) [e,f] [] aaP) (GQ to te tf):=by
 refine aS (Er ho he hf m) ?_
 rintro Z H Q ⟨U,M,QQ,s,h,u⟩
 refine#[U,M,_,s,h,λx M1 h1 v1 H1 rh1 i1 r1=>?_];obtain⟨a,rfl,rfl,hd⟩:=Ht rh1 r1 h1.1;refine#[a,rfl,hd,U,M1,_,s.go rh1 i1,h1.2,λy M2 h2 v2 H2 rh2 i2 r2=>?_];refine#[U,M2,_,(s.go rh1 i1).go rh2 i2,h2,λz M3 h3 v3 H3 rh3 i3 r3=>?_];obtain⟨_,e,h3⟩:=h3.inv;cases e;obtain⟨aaN,hM,h3⟩:=h3.inv;obtain⟨k,ek,h3⟩:=h3.inv;obtain⟨ws,g1,g2⟩:=rh3 _ _ hM;have ey:=gS (r2.mf rh2 i3) ek;have im:Imm H3 (upd H3 a<|.dK<|ir ws k):=Imm.upd (by rw[g1];trivial)
 rcases g2.val k with⟨q,qn⟩|⟨d,w,q,qw,rw'⟩
 .rw[q]at h3
  exact#[ws,k,g1,ey,by lia,λ_=>u _ _ h3 _ _ rh3 ((i1.trans i2).trans i3) r3]
 rw[q]at h3;refine#[ws,k,g1,ey,λv ev=>?_,by lia]
 rw[qw]at ev;cases ev;exact u _ _ h3 _ _ (rh3.put (by rw[g1];trivial) #[_,upd_same,(g2.drop k).mono im]) (((i1.trans i2).trans i3).trans<|Frm.put<|by simp_all) (rw'.mono im)
def jH:oU:=λe M Q=>one e λc=>onR c λa=>mK (M a) λb=>∀p,M p=bb->Q (.ref p) (M.upd p<|.dK b)
theorem vG:bt X (.type "dict") (liftC X jH):=by
 rintro aaL s Z H xs us Q I r ⟨ds,M,QQ,rh,rp,h,up⟩
 unfold jH at h
 replace h:=h.inv;obtain⟨w24,rfl,h⟩:=h
 replace h:=h.inv;obtain⟨a,rfl,h⟩:=h
 obtain⟨v,rfl,rv⟩:=g6 (ds:=[]) rp;cases rv;obtain⟨aaN,e,h⟩:=h.inv;obtain⟨u,rfl,ru⟩:=r.one;cases ru;obtain⟨ws,h1,h2⟩:=rh _ _ e;exact HQ I (.inl h1) λp s' hp I'=>#[.ref p,_,I',rfl,up _ _ (h p<|rh.fresh hp) _ _ (rh.put (by rw[hp];trivial) #[_,upd_same,h2.mono<|Imm.new hp]) (Frm.put<|.inl hp) rfl]
end _3
namespace _2
open PySem PySem.W PySem.Calls PyProof.Rows PyProof.V PySem.Spec
def isO:Option aC->ay->Bool
 |some k,v=>oF k v
 |none,.none=>true
 |none,_=>cp
theorem dL(h:isO bb v=true):v=.none:=by cases v<;>first|rfl|cases h
theorem vh(h:Q 4238894112 { s with toks:=s.toks+1 }):ez (eC prog w) A (pyHash .none) Q E s:=by
 have a:s.TypeIs .none "NoneType":=rfl;refine ax ?_;refine cx ?_;refine ax (y2 a rfl ?_);refine ax (y2 a rfl ?_)
 refine ax (wpAny_callSpecialIfBoundUnlessNone?_slot a XO
  (kL XO a rfl
   (wpAny_ret_mkInt ?_) rfl))
 exact cx h
theorem vJ(h:Q true s):ez (eC prog w) A (eqBool .none .none) Q E s:=by
 exact ax (F'<|wpAny_pure h)
def GK(prog:eS)(w:fx):PySem.KeyKind prog w (Option aC) where
 is:=isO
 hash:=λk=>match k with
  |some k=>TM w k
  |none=>4238894112
 inj:=λv a b g j=>by
  cases a with
  |some a=>
   cases b with
   |some b=>rw[(aT prog w).inj v a b g j]
   |none=>
    cases dL j;rcases aY g with⟨i,t,_,e⟩|⟨x,t,_,e⟩<;>exact nomatch e
  |none=>
   cases dL g;cases b with
   |some b=>rcases aY j with⟨i,t,_,e⟩|⟨x,t,_,e⟩<;>exact nomatch e
   |none=>rfl
 byValue:=λk v h=>by
  cases k with
  |some k=>exact(aT prog w).byValue k v h
  |none=>cases dL h;rfl
 pyHash:=λ{A E s k v Q} c h=>by
  cases k with
  |some k=>exact(aT prog w).pyHash c h
  |none=>cases dL c;exact vh h
 eqBool:=λ{A E s a b u v Q} f c h=>by
  cases a with
  |some a=>
   cases b with
   |some b=>
    refine (aT prog w).eqBool f c ?_;have:decide (ap a=ap b)=decide (a=b):=decide_eq_decide.mpr #[λe=>by injection e,λe=>by rw[e]]
    rw[this]at h;exact h
   |none=>
    cases dL c;have e:decide (ap a=bb)=false:=decide_eq_false (λz=>nomatch z);rw[e]at h;rcases aY f with⟨i,t,rfl,rfl⟩|⟨x,t,rfl,rfl⟩
    .exact Yh i t _ _ _ _ h
    .exact Ye x t _ _ _ _ h
  |none=>
   cases dL f;cases b with
   |some b=>
    have e:decide (bb=ap b)=false:=decide_eq_false (λz=>nomatch z);rw[e]at h;rcases aY c with⟨i,t,rfl,rfl⟩|⟨x,t,rfl,rfl⟩
    .exact Yg i t _ _ _ _ h
    .exact Yf x t _ _ _ _ h
   |none=>
    cases dL c;exact vJ h
 «strs»:=λk x t v h=>by
  cases k with
  |some k=>exact(aT prog w).strs k x t v h
  |none=>cases h
theorem map_none{h:g4}(m:h.MapOf (aT b w) a f):h.MapOf (GK b w) a (λk=>match k with|some k=>f k|none=>bb):=by
 obtain⟨o,g,v,r,y,p,l,u⟩:=m;refine#[o,g,v,r,y,p,λe c=>?_,λk=>?_]
 .obtain⟨k,j,z⟩:=l e c
  exact#[ap k,j,z]
 cases k with
 |some k=>exact u k
 |none=>
  have:∀e∈g,isO bb e.key=false:=λe c=>by
   obtain⟨k,j,_⟩:=l e c;rcases aY j with⟨i,t,_,q⟩|⟨x,t,_,q⟩<;>rw[q]<;>rfl
  have e:g.find? (λe=>(GK b w).is bb e.key)=none:=by
   rw[Array.find?_eq_none];intro x n;exact XB.mp (this x n)
  unfold findBy;rw[e];rfl
theorem Th(I:Inv X aaL Z H s)(e:Rd H a (.dK aaN))(h:∀b,Inv X aaL Z H b->Q (.bool cp) b):ez (eC X.prog X.w) A (hW .In .none<|.ref a) Q E s:=by
 obtain⟨z,c,i,g,f⟩:=j6 I.hok e;refine wpAny_in_of (knd:=GK X.prog X.w) (k:=bb) rfl c (map_none f.mapOf) ?_;exact h _ (I.tok _)
end _2
namespace _3
open PySem _2 _S
def Ck(M:Mem)(x y:D):Option Bool:=match x,y with
 |.non,.ref a=>match M a with
  |some (.dK _)=>ap cp
  |_=>bb
 |_,_=>iD M x y
def Fl:g8:=λx y M Q=>so (Ck M x y) λk=>Q (.bl k) M
theorem Kn(q:X.A.units+64<k6):cM X (hW .In) (liftR2 X Fl):=by
 rintro f s Z H x y v u Q I b j ⟨o,p,M,QQ,a,g,c,h,i⟩
 unfold Fl at h;obtain⟨k,e,h⟩:=h.inv;unfold Ck at e
 split at e
 .cases g
  cases c;cases b;cases j
  split at e
  .rename_i l m
   cases e;obtain⟨r,n,z⟩:=a _ _ m;exact Th I (.inl n) λw I'=>#[.bl _,H,I',rfl,i _ M h _ H a Frm.refl rfl]
  cases e
 refine FW q _ s Z H x y v u Q I b j #[o,p,M,QQ,a,g,c,?_,i];unfold vI;rw[e];exact h
end _3
namespace _2
open PySem PySem.Spec PyProof.Rows
theorem p8:Slot "reversed" "__init__" "object.__init__":=
 .of (owner:="object") (n:="__init__") (by rfl) (by rfl) (by rfl) (by rfl)
  (by trivial) (by kernel_rfl)
theorem ik:Slot "reversed" "__iter__" "reversed.__iter__":=
 .of (owner:="reversed") (n:="__iter__") (by rfl) (by rfl) (by rfl) (by rfl)
  (by trivial) (by kernel_rfl)
theorem cZ:Slot "reversed" "__next__" "reversed.__next__":=
 .of (owner:="reversed") (n:="__next__") (by rfl) (by rfl) (by rfl) (by rfl)
  (by trivial) (by kernel_rfl)
theorem QT:Manifest.owners.lookup (String.ofList ['d','e','s','r','e','v','e','r'].reverse)=ap Manifest.sig_reversed:=by kernel_rfl
theorem gc:Z3 table "reversed.__next__"=ap Builtin.«reversed.__next__»:=PySem.entryFor_of_tree (by kernel_rfl)
theorem pF:Z3 table "reversed.__new__"=ap Builtin.«reversed.__new__»:=entryFor_of_tree (by kernel_rfl)
theorem nF:Z3 table "reversed.__iter__"=ap Builtin.«dict_keyiterator.__iter__»:=
 entryFor_alias (id':="dict_keyiterator.__iter__") (by kernel_rfl) (by rfl) (by decide +kernel) (by kernel_rfl)
theorem p9(a:ay):aaj "reversed.__iter__" #[[a],[]]:=by
 kernel_rfl
theorem iu(a:ay):aaj "reversed.__next__" #[[a],[]]:=by
 kernel_rfl
theorem yA:mroOf (.type "reversed")=pure [.type "reversed",.type "object"]:=by rfl
theorem ox:y1 (.type "reversed") "__new__"=pure (ap<|.builtin "reversed.__new__"):=by rfl
theorem y4:TypeCalled "reversed" "reversed.__new__" "object.__init__":=
 #[by rfl,by rfl,#[_,_,yA],madeBy_type yA ox (by decide +kernel),by decide +kernel,by rfl,p8]
theorem qO(a:ay):X_ "reversed" #[[a],[]]=pure ():=by kernel_rfl
theorem vz(a:ay):UV "reversed.__new__" #[[.type "reversed",a],[]]=pure ():=by kernel_rfl
theorem ii(a b:ay):aaj "object.__init__" #[[a,b],[]]:=by
 kernel_rfl
theorem KY:isSubtype (.type "reversed") (.type "reversed")=pure true:=by rfl
theorem Q8:y1 (.type "tuple") "__reversed__"=pure none:=by rfl
theorem Fk:isSubtype (.type "tuple") (.type "dict")=pure false:=by rfl
abbrev qA(h:g4)(z l:cb)(j:Int):Prop:=h.get? z=ap { cls:=.type "reversed",dict:=bb,data:=.fields (Tw [.ref l,.int j 0]),slots:=(Tw []) }
theorem H_{k:Nat}(c:qA s.heap z l k)(n:IsTup s.heap l a)(i:a[k]?=ap x)(o:(k:Int)<2 ^ 63)(hQ:∀h',qA h' z l ((k:Int)-1)->Vh z s.heap h'->Q (ap x) { s with heap:=h',toks:=s.toks+1 }):
  ez (eC prog w) A (x9<|.ref z) Q E s:=by
 have m:s.TypeIs (.ref z) _:=#[_,c,rfl]
 refine ax (p4 (wpAny_callSpecial?_slot m cZ
  (kL cZ m gc ?_<|iu _)))
 show ez _ _ (field _ 0 >>= _) _ _ s;refine ax (kB c rfl rfl ?_);refine ax (kB c rfl rfl ?_);show ez _ _ (if (k:Int)<0 then _ else _) _ _ _
 refine ax (y2 n.typeIs rfl ?_);refine ax (wpAny_mkInt ?_);have g:k<a.size:=by
  rcases VL k _ with h|h
  .exact h
  .rw[YA h]at i;cases i
 refine ax (p4<|getItem_tuple n (by lia) o ?_ i ?_)
 .have e:¬((k:Int)<0):=by lia
  simp[aar,g,if_neg e]
 refine ax (kB c rfl rfl ?_);refine ax (mm c (by simp) λj f b=>?_)
 exact cx #[_,rfl,cx<|hQ _ f b]
theorem Jq(y:A.handled=bb)(i:qA s.heap z l j)(C:j<0)(B:∀h',WV z s.heap h'->Q bb { s with heap:=h' }):ez (eC prog w) A (x9<|.ref z) Q E s:=by
 have r:s.TypeIs (.ref z) "reversed":=#[_,i,rfl];unfold x9
 refine ax (p4 (wpAny_callSpecial?_slot r cZ
  (kL cZ r gc ?_<|iu _)))
 show ez _ _ (field (.ref z) 0 >>= _) _ _ s;refine ax (kB i rfl (x:=.ref l) rfl ?_);refine ax (kB i rfl (x:=.int j 0) rfl ?_);show ez _ _ (if j<0 then _ else _) _ _ _
 rw[if_pos C];refine ax (F' ?_);refine ax (ax (mm i (by simp) λp n f=>?_))
 refine mm n (by simp) λh v g=>?_
 refine ax ?_;refine ax ?_;refine ax (m:=aag _ _) (K' (a:=U8) (by rfl) ?_)
 refine p7 ?_ (by size_fits)
 simp only[raiseNew];refine ax (aan ?_);rw[show A.in1.handled=bb from y];refine ax (cx<|wpAny_throw ?_);refine ax (yl (T:="StopIteration") (b:=true) #[_,Uh _ rfl,rfl] WF ?_);refine cx (B _ ?_);have q:WV z s.heap h:=λc o u e=>g.extBut _ _ u (f.extBut _ _ u e);exact(q.push _).push _
theorem vg(b:qA s.heap z l j)(h:Q (.ref z) s):ez (eC prog w) A (ZZ<|.ref z) Q E s:=by
 have a:s.TypeIs (.ref z) _:=#[_,b,rfl];exact wpAny_pyIter_slot a ik (kL ik a nF (cx #[_,rfl,_,_,a,rfl,h])<|p9 _)
theorem G_(n:IsTup s.heap l b)(j:(b.size:Int)<2 ^ 63)(h:∀f h',h'.objs.size=s.heap.objs.size+1->qA h' s.heap.objs.size l ((b.size:Int)-1)->(∀c o,s.heap.get? c=ap o->h'.get? c=ap o)->Q (.ref s.heap.objs.size) { s with heap:=h',toks:=f }):
  ez (eC prog w) A (call (.type "reversed") [.ref l]) Q E s:=by
 refine aaC (S:=λ_ R s=>IsTup s.heap l b/\∀f,R (.ok<|.ret<|.ref s.heap.objs.size) { s with heap:=s.heap.push { cls:=.type "reversed",data:=.fields (Tw [.ref l,.int ((b.size:Int)-1) 0]) },toks:=f })
  y4 (by decide) (qO _) (vz _) (λobj=>ii obj _) pF ?_ #[n,λf=>?_]
 .refine .of_wp λprog w A R s h=>?_
  obtain⟨n,h⟩:=h;obtain⟨r,g,d,f,q⟩:=s;have i:=KY;have p:=n.typeIs;unfold Builtin.«reversed.__new__»;refine ax ?_;unfold Builtin.SmallTypes.newClass;refine ax (K' (a:=true) rfl ?_);rw[if_neg (by simp)]
  refine ax (K' i ?_);rw[if_neg (by simp)]
  refine cx ?_;refine ax (m:=specialOf _ _) (y2 p Q8 ?_);refine ax ?_;refine ax (yl p Fk ?_);rw[if_neg (by simp)]
  refine ax (y2 (T:="tuple") p slot_tuple_getitem.lookup ?_);show ez _ _ (if (["tuple.__getitem__","str.__getitem__","bytes.__getitem__","bytearray.__getitem__","memoryview.__getitem__","numpy.ndarray.__getitem__","sqlite3.Row.__getitem__"].contains "tuple.__getitem__")=true then _ else _) _ _ _
  rw[if_pos (by decide)]
  refine cx ?_;refine ax (len_tuple n j ?_);show ez _ _ (newObj (.type "reversed") (.fields (Tw [.ref l,.int ((b.size:Int)-1) 0])) >>= _) _ _ _;refine ax (p7 ?_<|by size_fits)
  exact cx #[_,rfl,h _]
 .exact#[#[_,Uh _ rfl,rfl],h f _ (Vg ..) (Uh _ rfl) λc o e=>Ua _ e]
noncomputable def Itv(K:Ug)(a:cb)(n:Nat):It:=
 #[λi H=>i<n/\∃xs x,ku K H a xs/\xs[n-1-i]?=ap x,λi H x H'=>H'=H/\∀xs,ku K H a xs->xs[n-1-i]?=ap x,λi _=>n<=i]
theorem Eu{K:Ug}(a f:cb)(n:Nat)(hn:n<2 ^ 63):Turn P w K tg (Itv K a n) [f] f (λi h=>qA h f a ((n:Int)-1-i)) where
 mem:=by simp
 obj:=λi h c b N=>by
  simp_all
 keep:=λi h j c k=>k f (by simp) _ c
 item:=by
  intro X F G C J i g s Z H E I m c q;subst F G C;obtain⟨hi,xs,x,L,M⟩:=q;obtain⟨Y,rv,p,hz⟩:=I.tuple L;obtain⟨u,O,ru⟩:=rv.get M;obtain⟨r,v,W,B,y,A⟩:=m f (by simp)
  have e1:n-1-i=((n-1-i:Nat):Int):=by lia
  refine H_ (by rw[<- e1];exact c) (p) (by simpa using O) (by lia) λj e U=>?_
  have I1:Inv X _ Z H { s with heap:=j,toks:=s.toks+1 }:=I.turned (λb o N=>(U.2 b N).trans) r v B y A;have Q:(((n-1-i:Nat):Int))-1=n-1-(i+1:Nat):=by lia
  rw[Q]at e;exact#[u,rfl,vO e rfl rfl (by decide) #[x,H,I1,ru,#[rfl,λys T=>by rw[I.tuple_inj T L];exact M],e,by simp_all]]
 done:=by
  intro X F G C J i g s Z H E I m c q;obtain⟨r,v,W,B,y,A⟩:=m f (by simp)
  have S:n<=i:=q;exact Jq (I.ok.hd J) c (by lia) λj R=>#[rfl,I.turned (R) r v B y A]
 self:=λ_ _ _ _ _ c h=>vg c h
def iRev(K:Ug)(t:TA):TI:=λZ H R=>t Z H λa H1=>∃l xs,a=[.ref l]/\ku K H1 l xs/\R (Itv K l xs.length) H1
theorem OA:eT "reversed"=ap (.type "reversed"):=by rfl
theorem NN(L:Gl X "reversed")(F:X.mg "reversed"=bb)(G:PA X [a] o)(J:eg [a] X.env=[(cp,fv a X.env)]:=by rfl):
  PI X tg (.Call (.Name "reversed" p) [a] [] pos) (iRev X.K o):=by
 intro j s Z H R I h;refine Call_ (di I L F OA<|UR (bu (G _ _ s Z H _ I h) λM E w=>?_) J rfl);obtain⟨P,H1,I1,A,f⟩:=w;obtain⟨l,m,e,f,q⟩:=f;subst e;obtain⟨O,rfl,g⟩:=A.one;cases g;obtain⟨i,C,y,B⟩:=I1.tuple f;have n:=C.length;have r:m.length<2 ^ 63:=Nat.lt_of_le_of_lt B (by decide)
 refine G_ y (by simp;lia) λu N x c v=>?_
 have I2:Inv X _ Z H1 _:=I1.kept (t':=u) v;refine vg c ?_;refine#[_,_,_,_,H1,rfl,I2,Eu l _ _ (by lia),?_,λb Q=>?_,q]
 .have e:i.toArray.size-1=m.length-1-(0:Int):=by simp;lia
  rw[e]at c;exact c
 have e:b=E.heap.objs.size:=by simp_all
 subst e;exact I1.fpOk (Uk _) (I1.hok.fresh<|Uk _)
end _2
namespace _3
open PySem _2 _S
def NE(t:eA):wt:=λU M R=>t U M λb M1=>one b λa=>onT a λc=>R #[c.reverse,[]] M1
theorem Os(L:Gl X "reversed")(G:X.mg "reversed"=bb)(I:DA X B [a] o)(J:eg [a] X.env=[(cp,fv a X.env)]:=by rfl):
  DI X B tg (.Call (.Name "reversed" p) [a] [] pos) (NE o):=by
 refine gR (NN L G I J) ?_
 rintro Z H R ⟨U,M,RR,s,h,z⟩
 refine#[U,M,_,s,h,λds M1 b N H1 l i1 y=>?_]
 replace b:=b.inv;obtain⟨u,rfl,b⟩:=b
 replace b:=b.inv;obtain⟨r,rfl,b⟩:=b
 obtain⟨v,rfl,q,c,rfl,g,m⟩:=g6 (ds:=[]) y;have F:=m.length;refine#[q,c,rfl,g.sq,z _ M1 b _ H1 l i1 λi H2 M2 i2 f _=>#[λd n=>?_,λC=>?_]]
 .have A:i<r.length:=by
   rcases VL i _ with h|h
   .exact h
   simp_all
  rw[List.getElem?_reverse A]at n;obtain⟨w,e,j⟩:=(m.mono i2).get n;rw[F]at e;refine#[#[by simp_all,c,w,(g.mono i2).sq,e],?_]
  rintro x H3 ⟨rfl,E⟩
  have:=E c (g.mono i2).sq;rw[e]at this;cases this;exact#[Frm.refl,f,j]
 show c.length<=i
 simp_all
end _3
namespace _3
open PySem _2
def rY(C:cb)(ta tv:ba)(f:Str):ar:=λD U M=>ta U M λx M1=>onR x λa=>mN (M1 a) λC' fs=>C'=C/\fs.length<1000/\so (fs.lookup f) λb=>onI b λi=>tv U M1 λy M2=>onI y λj=>M2 a=ap (.ins C fs)/\D.nx U (M2.upd a<|.ins C<|bV f (.int (i-j)) fs)
theorem CA(c:Cls X.K C)(n:NoAttr X.K C f)(ha:DE X B o ta)(hv:DE X B value tv):DS X B (.AugAssign (.Attribute o f tpos) .Sub value pos) (rY C ta tv f):=by
 refine ce (qf ha hv NW) ?_
 rintro D Z H ⟨U,M,DD,s,h,up⟩
 refine#[U,M,_,s,h,λx M1 h1 v1 H1 rh1 i1 r1=>?_]
 replace h1:=h1.inv;obtain⟨a,rfl,h1⟩:=h1
 cases r1;obtain⟨C',fs,hM,h1⟩:=h1.inv;obtain⟨rfl,hl,h1⟩:=h1;obtain⟨w26,hf,h1⟩:=h1.inv
 replace h1:=h1.inv;obtain⟨i,rfl,h1⟩:=h1
 obtain⟨dx,ws,e1,e2⟩:=rh1 _ _ hM;obtain⟨z,_⟩|⟨d,w,hd,hw,rw1⟩:=e2.lookup f
 .simp_all
 rw[hf]at hd;cases hd;cases rw1;refine#[a,C',dx,ws,_,rfl,e1,c,n,hw,U,M1,_,s.go rh1 i1,h1,λy M2 h2 v2 H2 rh2 i2 r2=>?_]
 replace h2:=h2.inv;obtain⟨j,rfl,h2⟩:=h2
 cases r2;obtain⟨hM2,h2⟩:=h2;obtain⟨dx2,ws2,e3,e4⟩:=rh2 _ _ hM2;have i3:Frm M2 H2 (M2.upd a<|.ins C'<|bV f (.int (i-j)) fs) (upd H2 a<|.ins C' dx2<|_2.dB f (.int (i-j)) ws2):=Frm.put (by simp_all)
 exact#[i,j,rfl,rfl,_,_,e3,by rw[<- e4.length];exact hl,up.nx _ _ h2 Z _ ((i1.trans i2).trans i3)<|s.go (rh2.put (by rw[e3];trivial) #[_,_,upd_same,(jB (by trivial) e4).mono<|i3.imm rh2])<|(i1.trans i2).trans i3]
def tK:wN:=λx a M Q=>onI x λi=>nil0 a (Q (.int ((Vo i:Nat):Int)) M)
theorem wH:wq X "int.bit_length" (liftM X tK):=by
 rintro a s Z H x m v j Q I b g ⟨d,l,M,QQ,c,r,e,h,f⟩
 unfold tK at h
 replace h:=h.inv;obtain⟨i,rfl,h⟩:=h
 replace h:=h.inv;obtain⟨rfl,h⟩:=h
 cases r;cases e;obtain⟨t,rfl⟩:=b;cases g;exact PyProof.Rows.call_int_bit_length #[.int _,H,I.tok _,#[_,rfl],f _ M h _ H c Frm.refl rfl]
end _3
namespace _3
open PySem _2
section
variable{K:Ug}{f:cb}{fd:f'}{ps:aaV}{x aaM:Str}{st:ol}{dv:Int}
theorem fnDV(F:FunV K x aaM st f fd)(S:FnScope N ps (aP st))
  (p:∀(b:ay)(A:fy)(a:List Env)(s:ca)(H:Hp)(E:XK)(B:Bd)(EE:DX),Room k (A.deeper<|Wg aaM (aP st) s.heap.objs.size f b)->vo K B EE E->
   A0 (eM (m7 P w) P w K mg base N aaM (aP st) f b A a s H E) B (bv st) (T EE)):
  FnOk P w K mg base (m7 P w) (k+1) f fd ps (bh K ps.length<|aD N T):=by
 obtain⟨J,y,kV,j,v,z,b,L,o,_,rfl,lk,e⟩:=F.ex;refine Nb lk e S (λm H Q E h=>h.1) λA a s H m Q E i c=>?_;obtain⟨I,G,M,QQ,EE,rh,r,g,u,ux⟩:=c;exact#[_,p _ A _ s H E (Bd.of M H) _ i ux.drp,_,M,_,#[Frm.refl,rh,.startN N r],g,#[λU M' q Z H' f l=>u.drp _ M' q _ H' l.rh f rfl,u.drp,λU M' q=>q.elim,λU M' q=>q.elim]]
abbrev OkV(P:eS)(w:fx)(mg:aa2)(base:g4)(_:FunV K x aaM st f fd)(_:Binds K fd ps [])(k:Nat)(S:Sd):Prop:=FnOk P w K mg base (m7 P w) k f fd ps (bh K ps.length S)
theorem Tp(i:S=aD N T)(F:FunV K x aaM st f fd)(b:Binds K fd ps [])(e:FnScope N ps (aP st))
  (g:FnScope N ps (aP st)->∀(c:ay)(A:fy)(a:List Env)(s:ca)(H:Hp)(E:XK)(B:Bd)(EE:DX),Room k (A.deeper<|Wg aaM (aP st) s.heap.objs.size f c)->vo K B EE E->
   A0 (eM (m7 P w) P w K mg base N aaM (aP st) f c A a s H E) B (bv st) (T EE)):OkV P w mg base F b (k+1) S:=by
 subst i;exact fnDV F e (g e)
structure NV(K:Ug)(x:Str)(st:ol)(f:cb)(fd:f')(dv:Int):Prop where
 a:Vp K eH x=ap (ap<|.ref f)
 F:∃(oc:ay)(od:Option cb)(kV doc pm:ay)(an:Option cb)(cdv ct:ay)(osl:Array (Option ay))(T:cb)(ob:Obj)(m:Nat)(t:Tok),
  fd=Wt x x (ck st) (bv st) (aP st) (.ref T) kV doc pm an cdv ct/\K.lookup f=ap #[oc,od,.func fd,osl]/\XJ K cdv x=true/\K.lookup T=ap ob/\ob.data=.seq (Tw [.int dv t]) m
 kp:Vq K (.ref f)=true
theorem TC{kV:ay}(a:Vp K eH x=ap (ap<|.ref f))
  (l:K.lookup f=ap #[u,s,.func (Wt x x (ck st) (bv st) (aP st) (.ref T) kV e j q b o),r]) (c:XJ K b x=true) (k:Vq K (.ref f)=true)
  (lt:K.lookup T=ap #[i,p,.seq (Tw [.int dv t]) m,g]):NV K x st f (Wt x x (ck st) (bv st) (aP st) (.ref T) kV e j q b o) dv:=
 #[a,#[u,s,kV,_,j,q,_,o,_,T,_,m,t,rfl,l,c,lt,rfl],k]
abbrev BndV(ps:aaV)(x:Str)(st:ol)(dv:Int):Prop:=∀(kV doc pm:ay)(an:Option cb)(cdv ct:ay)(T:cb)(t:Tok),
 (∀u:ay,∃k,aah (Wt x x (ck st) (bv st) (aP st) (.ref T) kV doc pm an cdv ct) #[[u],[]]=seqItems? (.ref T) >>= k/\k (ap (Tw [.int dv t]))=pure (ps.zip [u,.int dv t]))/\
 ∀u v:ay,∃k,aah (Wt x x (ck st) (bv st) (aP st) (.ref T) kV doc pm an cdv ct) #[[u,v],[]]=seqItems? (.ref T) >>= k/\k (ap (Tw [.int dv t]))=pure (ps.zip [u,v])
theorem gv(X:K.In h)(G:h.Ns eH mg)(l:NV K x st f fd dv)(H:ps.length=2)(r:BndV ps x st dv):GV K mg x st f fd ps dv:=by
 obtain⟨a,⟨A,E,kV,y,j,e,B,o,z,T,I,m,t,rfl,F,c,lt,q⟩,kp⟩:=l;refine#[#[#[A,E,kV,_,j,e,_,o,_,T,rfl,F,c],kp],λs b KX g=>?_,#[t,λs b KX g=>?_],kp,WM X G a]
 .rcases b with _|⟨u,_|⟨v,_|_⟩⟩<;>try simp_all
  obtain⟨k,i,p⟩:=(r kV _ j e _ o T t).2 u v;exact W.binds_K KX rfl lt q i p
 rw[UC,H]at g;rcases b with _|⟨u,_|_⟩<;>try cases g
 obtain⟨k,i,p⟩:=(r kV _ j e _ o T t).1 u;exact W.binds_K KX rfl lt q i p
end
section
variable{dv:Int}
def y3(T:Sd)(EE:DX)(n:Nat)(dv:Int)(t:eA):ba:=λU M Q=>t U M λa M1=>a.length+1=n/\calls T EE (a++[.int dv]) M1 Q #[]
def JS(X:Cx)(B:Bd)(x:Str)(T:Sd)(EE:DX)(n:Nat)(dv:Int):Prop:=∃(st:ol)(f:cb)(fd:f')(ps:aaV)(k:Nat)(CX:pE)(E:XK),GV X.K X.mg x st f fd ps dv/\FnOk X.prog X.w X.K X.mg X.base CX k f fd ps (bh X.K n T)/\Room k X.A/\bO CX X E/\vo X.K B EE E
theorem DZ(h:JS X B x T EE n dv)(w:Gl X x)(r:DA X B (e::es) t)(c:(x==("__debug__":Str))=cp)(v:eg (e::es) X.env=(cp,fv e X.env)::eg es X.env)(b:(g3 pos<|starEach es X.env).any (·.1)=cp):
  DE X B (.Call (.Name x p) (e::es) [] pos) (y3 T EE n dv t):=by
 obtain⟨_,_,_,_,_,_,_,h,F,l,j,ux⟩:=h;obtain⟨o,q⟩:=h.d;refine aS (Aa F l w h.m h.k q (dvs:=[.int dv]) (.cons #[o,rfl] .nil) j r c v b) ?_
 rintro Z H Q ⟨U,M,QQ,s,h,u⟩
 exact#[U,M,_,s,h,λy M1 g z H1 a i1 i=>cz g.2 a (i.append<|.cons rfl .nil) (by rw[UC,<- i.length];exact g.1) (u.go i1) ((s.ux ux).go i1)]
end
end _3
namespace _2
open PySem PySem.Spec PyProof.Rows
def N9(X:Cx)(f:ay)(kn:Str)(k:ay)(r:List V->Hp->VK->Prop):Prop:=
 ∀(aaL:aa1)(s:ca)(Z:St)(H:Hp)(xs:List V)(us:aaW)(Q:VK),Inv X aaL Z H s->Vals xs us->r xs H Q->
  ez (eC X.prog X.w) X.A (call f us [(kn,k)]) (EP X aaL Z Q) X.xe s
end _2
namespace _S
open PySem PySem.W PySem.Calls PyProof.Rows PyProof.V PySem.Spec
theorem Dv(b:s.TypeIs (.ref d) "dict")(e:(d==ot)=cp)(c:s.heap.get? d=ap od)(a:od.data=.dict es ep)
  (f:Q (.ref s.heap.objs.size) { s with heap:=s.heap.push { cls:=.type "dict_keyiterator",data:=.fields (Tw [.ref d,.int 0 0,.int es.size 0,.int ep 0]) } }):ez (eC prog w) A (ZZ<|.ref d) Q E s:=by
 refine wpAny_pyIter_slot b F.slot_dict_iter (kL F.slot_dict_iter b F.entry_dict_iter ?_<|F.args_dict_iter_1 _);refine ax ?_;refine ax (wpAny_notOrdered_dict b ?_);refine cx ?_;show ez _ _ (XR d >>= _) _ _ s;unfold XR;rw[if_neg (by rw[e];exact WL)]
 refine ax (cx ?_);refine ax (wpAny_dictEntries c a ?_);refine ax (wpAny_dictEpoch c a ?_);refine ax (p7<|wpAny_pure #[_,rfl,_,_,#[_,Uh _ rfl,rfl],rfl,?_])
 assumption
theorem Dp(a:s.heap.IsKeyIter it d i n ep)(e:s.heap.get? d=ap od)(c:od.data=.dict es ep)(l:es.size=n)(h:i<es.size)
  (hQ:∀h',h'.IsKeyIter it d (i+1) n ep->Vh it s.heap h'->Q (ap es[i].key) { s with heap:=h' }):ez (eC prog w) A (x9<|.ref it) Q E s:=by
 obtain⟨o,g,j,f⟩:=id a;unfold x9;refine ax (p4<|wpAny_callSpecial?_slot a.typeIs VP<|wpAny_call_entry VP a.typeIs X5 (ax<|wpAny_pure<|wpAny_bind<|wpAny_bind ?_)<|X0 _);refine ax (aaa a.typeIs<|wpAny_pure<|wpAny_bind<|wpAny_fieldsOf g f ?_);refine ax (cx<|wpAny_bind<|wpAny_dictEntries e c ?_);rw[if_neg (by rw[l];simp)]
 refine ax (cx<|wpAny_bind<|wpAny_dictEpoch e c ?_);rw[if_neg (by simp)]
 refine cx ?_;simp only[if_false,UM,Yd h];refine ax (ax<|wpAny_typeNameOfWhole_keyiter a.typeIs<|wpAny_pure ?_);refine ax (aaE a.typeIs ?_);show ez _ _ (setField (.ref it) 1 (p6 ((i:Int)+1)) >>= _) _ _ s;refine ax (aae g f (by simp) ?_)
 have b:(s.heap.update it<|Obj.mapFields (·.setIfInBounds 1 (p6 ((i:Int)+1)))).IsKeyIter it d (i+1) n ep:=
  #[_,Wj _ g (YN<|WN f _),(Obj.cls_mapFields ..).trans j,by rw[WN f];simp[p6]]
 refine ax (kc ?_);refine ax (aaE b.typeIs ?_);exact cx (cx #[_,rfl,cx<|hQ _ b<|UX ..])
theorem Fy(l:A.handled=bb)(c:s.heap.IsKeyIter it d i n ep)(f:s.heap.get? d=ap od)(e:od.data=.dict es ep)(q:es.size=n)(g:es.size<=i)
  (p:∀h',WV it s.heap h'->Q bb { s with heap:=h' }):ez (eC prog w) A (x9<|.ref it) Q E s:=by
 obtain⟨o,h,r,j⟩:=id c;unfold x9;refine ax (p4<|wpAny_callSpecial?_slot (name:=WE "__next__") c.typeIs VP<|wpAny_call_entry VP c.typeIs X5 (ax<|wpAny_pure<|wpAny_bind<|wpAny_bind ?_)<|X0 _);refine ax (aaa c.typeIs<|wpAny_pure<|wpAny_bind<|wpAny_fieldsOf h j ?_);refine ax (cx<|wpAny_bind<|wpAny_dictEntries f e ?_);rw[if_neg (by rw[q];simp)]
 refine ax (cx<|wpAny_bind<|wpAny_dictEpoch f e ?_);rw[if_neg (by simp)]
 refine cx ?_;simp only[show ¬((i:Int)<0) from by lia,if_false,UM,YA g]
 refine ax (ax<|wpAny_typeNameOfWhole_keyiter c.typeIs<|wpAny_pure ?_);show ez _ _ (setField (.ref it) 0 .none >>= _) _ _ s;refine ax (aae h j (by simp) ?_)
 simp only[newExc,newTuple];refine ax (ax<|wpAny_newObj_type ?_<|by size_fits)
 refine ax (m:=aag _ _) (K' (a:=U8) (by rfl)<|wpAny_newObj_type ?_<|by size_fits)
 simp only[raiseNew];refine ax (aan ?_);rw[show A.in1.handled=bb from l];refine ax (cx<|wpAny_throw<|wpAny_bind ?_);refine yl (T:="StopIteration") (b:=true) #[_,Uh _ rfl,rfl] WF (cx ?_);exact p _ (((UX ..).extBut.push _).push _)
end _S
namespace _2
open PySem PySem.Spec PyProof.Rows _S
noncomputable def Itf(d:cb)(od:Obj)(aaN:List (List aC×V)):It:=
 #[λi H=>H d=ap (.frz od<|.dT aaN)/\i<aaN.length,
  λi H v H'=>H'=H/\∃ks x b,aaN[i]?=ap (ks,x)/\H b=ap (.tup<|ks.map kV)/\v=.ref b,
  λi H=>H d=ap (.frz od<|.dT aaN)/\aaN.length<=i]
theorem CQ{K:Ug}(d f:cb)(hd:L.data=.dict es J)(M:es.size=aaN.length):
  Turn P w K tg (Itf d L aaN) [f] f (λi h=>h.IsKeyIter f d i aaN.length J) where
 mem:=by simp
 obj:=λi h a b G=>by
  have e:b=f:=by simp_all
  obtain⟨o,e,c,d⟩:=a
  simp_all
 keep:=λi h A a k=>a.at λo e=>k f (by simp) o e
 item:=by
  intro X S W N B i g s Z H E I m a n;obtain⟨e,U⟩:=n;obtain⟨q,T,r,F⟩:=I.frzT e hd;have C:aaN[i]?=ap (aaN[i].1,aaN[i].2):=by simp_all
  obtain⟨b,u,e1,O,e3⟩:=r.at C;have j:i<es.size:=by simp_all
  have ee:es[i]=entryOfKey (Z8<|aT X.prog X.w) (aaN[i].1,b,u):=by
   have:=entry_at F i;rw[Yd j]at this
   simp_all
  have k1:es[i].key=.ref b:=by rw[ee];rfl
  obtain⟨p,v,Y,z,x,y⟩:=m f (by simp)
  refine Dp a q hd M j λA l R=>?_;rw[k1];have I1:Inv X _ Z H _:=I.turned (t':=s.toks) (λb o G=>(R.2 b G).trans) p v z x y;obtain⟨o,e,c,d⟩:=id l;exact#[_,rfl,vO e c d (by decide) #[.ref b,H,I1,rfl,#[rfl,_,_,b,C,O,rfl],l,by simp_all]]
 done:=by
  intro X S W N B i g s Z H E I m a n;obtain⟨e,U⟩:=n;obtain⟨q,T,r,F⟩:=I.frzT e hd;obtain⟨p,v,Y,z,x,y⟩:=m f (by simp)
  exact Fy (I.ok.hd B) a q hd M (by simp_all) λA Q=>#[rfl,I.turned (Q) p v z x y]
 self:=λ_ _ _ _ _ a h=>wpAny_pyIter_keyiter a h
def RA(to:TE):TI:=λZ H R=>to Z H λx H1=>∃a od aaN,x=.ref a/\H1 a=ap (.frz od<|.dT aaN)/\R (Itf a od aaN) H1
theorem KR(E:PE X o to):PI X C o (RA to):=by
 intro g s Z H R I h;refine bu (E _ s Z H _ I h) λv B p=>?_;obtain⟨x,H1,I1,u,a,M,c,m,e,q⟩:=p;subst m;cases u;obtain⟨f,z,y,J,r,G,A,K,j,n,i,w,F⟩:=(I1.hok a _ e);rw[f]at j;cases j;have l:A.size=c.length:=by rw[<- Vd,w,Ub,<- VC r]
 refine Dv #[_,f,n.1] y f i ?_;refine#[_,_,_,_,H1,rfl,I1.kept λb o=>Ua _,CQ a _ i l,#[_,Uh _ rfl,rfl,by rw[l];rfl],λb L=>?_,q]
 have e:b=B.heap.objs.size:=by simp_all
 exact I1.fpOk (by lia) (I1.hok.fresh<|by lia)
end _2
namespace _3
open PySem _2 _S
noncomputable def Hc(ks:List aC):D:=.tup (ks.map λk=>match k with|.inl i=>D.int i|.inr x=>D.str x)
def zm(to:ba):wt:=λU M R=>to U M λd M1=>onF d λa _=>R #[a.map Hc,[]] M1
theorem Jw(F:DE X B o to):DI X B E o (zm to):=by
 refine gR (KR F) ?_
 rintro Z H R ⟨U,M,RR,s,h,w⟩
 refine#[U,M,_,s,h,λd M1 m v H1 n i1 u=>?_];obtain⟨j,G,rfl,m⟩:=m.inv;obtain⟨a,C,rfl,⟨J,A,e⟩,K⟩:=u;have q:(j.zip C).length=j.length:=by simp_all
 refine#[a,A,_,rfl,e,w _ _ m _ _ n i1 λi H2 M2 i2 g _=>#[λd p=>?_,λf=>?_]]
 .rw[Um]at p
  obtain⟨k,r,rfl⟩:=Vc.mp p;refine#[#[i2.frz _ _ _ e,by rw[q];exact(UO.mp r).1],?_]
  rintro y H3 ⟨rfl,l,I,b,x,z,rfl⟩
  have c:j[i]?=ap l:=(V1.mp x).1;rw[r]at c;cases c;exact#[Frm.refl,g,b,_,rfl,z,qY k]
 exact#[i2.frz _ _ _ e,by rw[q];simpa using f]
def FA(d:D)(M:Mem)(Q:DK):Prop:=onR d λa=>mT (M a) λaaN=>Q (.fd (aaN.map (·.1))<|aaN.map (·.2)) (M.del a)
def Ep(t:ba):ba:=λU M Q=>t U M λd M'=>FA d M' Q
theorem A2:∀{aaN:List (List aC×D)}{ws:List (List aC×V)},Rkv K H aaN ws->ws=(aaN.map (·.1)).zip (ws.map (·.2))/\Rps K H (aaN.map (·.2)) (ws.map (·.2))/\aaN.length=ws.length
 |_,_,.nil=>#[rfl,rfl,rfl]
 |_,_,.cons h t=>by
  obtain⟨b,a,c⟩:=A2 t;refine#[?_,.cons h.2 a,by simp[c]]
  simp only[Ud,Y4];rw[<- b,h.1]
theorem yw:∀{ks:List (List aC)}{xs:List D}{vs:List V},Rps K H xs vs->Rkv K H (ks.zip xs) (ks.zip vs)
 |[],_,_,_=>by exact .nil
 |k::ks,[],_,h=>by cases h;exact .nil
 |k::ks,x::xs,_,h=>by
  obtain⟨v,r,rfl,a,b⟩:=h;exact .cons #[rfl,a] (yw b)
theorem JR(h:DE X B e te):DE X B e (Ep te):=by
 rintro f s Z H Q I ⟨U,M,QQ,j,g,u⟩
 refine bu (h _ s Z H (λv H'=>∃d M',RepH _ H' M'/\Frm M H M' H'/\Rp _ H' d v/\FA d M' QQ) I #[U,M,_,j,g,λd M' q v H' b i r=>#[d,M',b,i,r,q]]) ?_
 rintro w E ⟨v,H',I',y,d,M',b,i,r,q⟩
 unfold FA at q
 replace q:=q.inv;obtain⟨a,rfl,q⟩:=q
 obtain⟨n,e,q⟩:=q.inv;obtain⟨C,c,p⟩:=b _ _ e;obtain⟨o,z,A,_,_,_,_,I2⟩:=I'.freezeT c;refine#[v,_,I2,y,u _ _ q v _ (b.freezeT c) (i.trans<|Frm.del #[_,e]) ?_];obtain⟨m,x,l⟩:=A2 p;exact#[a,_,r,#[by simp[l],o,by rw[<- m];exact upd_same],x.mono<|Imm.upd<|by rw[c];trivial]
def CP:g8:=λx y M Q=>onF x λb a=>so (Dz y) λk=>so (cI (b.zip a) k) λd=>Q d M
theorem S5(G:X.A.units+1<k6):IxR X (liftR2 X CP):=by
 intro c f i s Z H x y v u Q I j q h r;obtain⟨K,L,M,QQ,l,m,z,h,n⟩:=h;unfold CP at h
 replace h:=h.inv;obtain⟨ks,J,rfl,h⟩:=h
 obtain⟨k,o,h⟩:=h.inv;obtain⟨d,C,h⟩:=h.inv;obtain⟨a,O,rfl,⟨N,p,e⟩,F⟩:=m;obtain⟨b,rfl,E⟩:=oM z o;rcases (yw (ks:=ks) F).val k with⟨g,_⟩|⟨d',w,g,e2,r'⟩
 .simp_all
 rw[C]at g;cases g;exact zR G _ _ _ s Z H _ _ v u Q I j q #[a,w,rfl,.inr #[_,k,b,.inr #[p,e],rfl,E,e2.symm],n _ M h _ H l Frm.refl r'] r
end _3
namespace _3
open PySem _2
theorem dE:∀{e:aaU}{aaR:aaW},Vals (e.map V.int) aaR->∀(m:Nat)(c:m<aaR.length),∃i t,e[m]?=ap i/\aaR[m]=.int i t
 |[],_,r,m,c=>by cases r;simp at c
 |i::e,_,r,m,c=>by
  cases r with
  |cons a b=>
   obtain⟨t,rfl⟩:=a;cases m with
   |zero=>simp_all
   |succ m=>
    obtain⟨j,g,h,f⟩:=dE b m (by simp_all)
    simp_all
def iV:wN:=λx c M Q=>onT x λe=>one c λa=>onI a λz=>so (dS e) λb=>b.length<=1000/\so (b.findIdx? λy=>decide (y=z)) λj=>Q (.int (j:Nat)) M
theorem xj:wq X "tuple.index" (liftM X iV):=by
 rintro o s Z H x vs v W Q I E U ⟨d,ds,M,QQ,G,r,L,h,O⟩
 unfold iV at h
 replace h:=h.inv;obtain⟨xs,rfl,h⟩:=h
 replace h:=h.inv;obtain⟨P,rfl,h⟩:=h
 replace h:=h.inv;obtain⟨z,rfl,h⟩:=h
 obtain⟨p,ws,rfl,F,r⟩:=r;obtain⟨w,rfl,c⟩:=g6 (ds:=[]) L;cases c;obtain⟨Y,C,h⟩:=h.inv;obtain⟨q,h⟩:=h;obtain⟨j,A,h⟩:=h.inv;have:=jv r C;subst this;rw[Xv]at A;obtain⟨S,e1,J⟩:=A;cases E;obtain⟨u,rfl,T⟩:=U.one;obtain⟨t,rfl⟩:=T;obtain⟨R,n,N,r,e⟩:=I.tupD F;have q:=r.length;rw[Ub]at q
 refine oD VZ #[_,e,rfl] XS (XQ _ _)
  (kj p _ n _ N _ (λv=>match v with|.int y _=>y==z|_=>cp) (λy K=>?_) j (by rw[Uo];lia) ?_ λm f b=>?_) #[e,?_]
 .obtain⟨m,f,rfl⟩:=Wx (by simpa using K)
  obtain⟨l,i,a,g⟩:=dE r m f;rw[g];exact YO _ _ _ _
 .obtain⟨l,i,a,g⟩:=dE r j (by lia)
  rw[Uc S]at a
  simp_all
 .obtain⟨l,i,a,g⟩:=dE r m (by exact f)
  have h3:=J m b;rw[Uc (by lia)]at a
  simp_all
 exact#[.int j,H,I.tok _,#[_,rfl],O _ M h _ H G Frm.refl rfl]
end _3
namespace _S
open PySem PySem.W PyProof.Rows
open PySem.AutoSeq1 (wpAny_loadPart')
open PySem.MeetsSeq PySem.MeetsSeq2 PySem.MeetsSeq3
variable{h:g4}{vs:aaW}
theorem g_{us:aaW}(h:re (us.drop i) (x::xs)):∃(hi:i<us.length)(t:Tok),us[i]=.int x t/\re (us.drop (i+1)) xs:=by
 have hi:i<us.length:=by
  rcases VL i _ with z|z
  .exact z
  rw[We z]at h;cases h
 rw[VA hi]at h;generalize a:us[i]=v at h;cases h with
 |cons _ t r=>exact#[hi,t,a,r]
theorem jX{us:aaW}(h:re (us.drop i) []):us.length<=i:=by
 generalize e:us.drop i=l at h;cases h
 simp_all
theorem B2(l b:cb)(us vs:aaW)(n G:Nat)(dd q:Option cb)(F p:Array (Option ay)):∀(xs ys:aaU)(i:Nat),i<=us.length->i<=vs.length->re (us.drop i) xs->re (vs.drop i) ys->aab (Builtin.«list.__eq__.loop» #[[.ref l,.ref b,p6 i,p6 0],[]])
   (λA R s=>s.heap.get? l=ap { cls:=.type "list",dict:=dd,data:=.seq us.toArray n,slots:=F }/\s.heap.get? b=ap { cls:=.type "list",dict:=q,data:=.seq vs.toArray G,slots:=p }/\R (.ok<|.ret<|.bool<|jD xs ys) s)
 |[],ys,i,hi,hj,h1,h2=>by
  intro f w A R s h;obtain⟨E,g,d,v,C⟩:=s;obtain⟨j,o,h⟩:=h;have L:=jX h1
  wp_walk using ff j,ff o
  have a:us.toArray[((i:Nat):Int).toNat]?=none:=by simp;lia
  rw[a]
  wp_walk using ff j,ff o
  show R (.ok<|.ret<|.bool<|decide (us.toArray.size<vs.toArray.size)) _;have e:decide (us.toArray.size<vs.toArray.size)=jD [] ys:=by
   cases ys with
   |nil=>
    have:=jX h2;simp[jD];lia
   |cons y ys=>
    obtain⟨u,_⟩:=g_ h2;simp[jD];lia
  rw[e];exact h
 |x::xs,[],i,hi,hj,h1,h2=>by
  intro f w A R s h;obtain⟨E,g,d,v,C⟩:=s;obtain⟨j,o,h⟩:=h;have K:=jX h2;obtain⟨r,t,z,B⟩:=g_ h1
  wp_walk using ff j,ff o
  have a:us.toArray[((i:Nat):Int).toNat]?=ap us[i]:=by simp[r]
  have m:vs.toArray[((i:Nat):Int).toNat]?=none:=by simp;lia
  rw[a,m]
  wp_walk using ff j,ff o
  show R (.ok<|.ret<|.bool<|decide (us.toArray.size<vs.toArray.size)) _;have e:decide (us.toArray.size<vs.toArray.size)=jD (x::xs) []:=by simp[jD];lia
  rw[e];exact h
 |x::xs,y::ys,i,hi,hj,h1,h2=>by
  intro f w A R s h;obtain⟨E,g,d,v,C⟩:=s;obtain⟨j,o,h⟩:=h;obtain⟨r,t,z,B⟩:=g_ h1;obtain⟨u,t2,H,I⟩:=g_ h2
  wp_walk using ff j,ff o
  have a:us.toArray[((i:Nat):Int).toNat]?=ap (.int x t):=by simp[r,z]
  have m:vs.toArray[((i:Nat):Int).toNat]?=ap (.int y t2):=by simp[u,H]
  have J:((i:Int)+1)=((i+1:Nat):Int):=by push_cast;rfl
  rw[a,m];refine ax (wpAny_eqBool_int ?_);unfold jD at h
  by_cases c:x=y
  .rw[if_pos c]at h
   rw[show (x==y)=true from by simp[c]]
   wp_walk
   rw[J];exact#[XV plain_eq_loop _,Wp entry_eq_loop (by
    rw[Xh plain_eq_loop _];exact B2 l b us vs n G dd q F p xs ys (i+1) r u B I f w A R _ #[j,o,h])]
  .rw[if_neg c]at h
   rw[show (x==y)=cp from by simp[c]]
   wp_walk using ff j,ff o
   rw[a,m];refine ax (wpAny_lt_int ?_)
   wp_walk
   exact h
theorem Jp(l b:cb)(us vs:aaW)(n j:Nat)(dd e:Option cb)(i c:Array (Option ay))(xs ys:aaU)(o:re us xs)(m:re vs ys):aab (Builtin.«list.__lt__» #[[.ref l,.ref b],[]])
   (λA R s=>s.heap.get? l=ap { cls:=.type "list",dict:=dd,data:=.seq us.toArray n,slots:=i }/\s.heap.get? b=ap { cls:=.type "list",dict:=e,data:=.seq vs.toArray j,slots:=c }/\R (.ok<|.ret<|.bool<|jD xs ys) s):=by
 intro a w A R s h;obtain⟨g,f,h⟩:=h;have p:=PySem.AutoSeq1.sub_list_list
 wp_walk using ff g,ff f
 exact#[XV plain_eq_loop _,Wp entry_eq_loop (by
  exact B2 l b us vs n j dd e i c xs ys 0 (Va _) (Va _) o m a w A R _ #[g,f,h])]
inductive LstsAt(h:g4):List ay->List (List Int)->Prop
 |nil:LstsAt h [] []
 |cons {a:cb} {o:Obj} {us:aaW} {n:Nat} {k:aaU} {vs:aaW} {ks:aaT} (ho:h.get? a=ap o) (hc:o.cls=.type "list") (hd:o.data=.seq us.toArray n) (hi:re us k) (r:LstsAt h vs ks):LstsAt h (.ref a::vs) (k::ks)
theorem LstsAt.keep(t:LstsAt h vs ks)(k:∀b o,.ref b∈vs->h.get? b=ap o->h'.get? b=ap o):LstsAt h' vs ks:=by
 induction t with
 |nil=>exact .nil
 |cons ho hc hd hi r ih=>exact .cons (k _ _ (by simp) ho) hc hd hi (ih λb o a=>k b o (Ui _ a))
theorem LstsAt.len(t:LstsAt h vs ks):ks.length=vs.length:=by
 induction t<;>simp_all
theorem LstsAt.at{h:g4}{vs:aaW}(t:LstsAt h vs ks):∀i,i<vs.length->∃a o us n,vs.getD i U8=.ref a/\h.get? a=ap o/\o.cls=.type "list"/\o.data=.seq (Vn us) n/\re us (ks.getD i []):=by
 induction t with
 |nil=>intro i b;simp at b
 |@cons a o us n k vs ks ho hc hd b r ih=>
  intro i l;cases i with
  |zero=>exact#[a,o,us,n,rfl,ho,hc,hd,b]
  |succ i=>
   obtain⟨g,c,f,j,e,q⟩:=ih i (by simp_all)
   exact#[g,c,_,j,by simpa using e,by simpa using q]
theorem LstsAt.there(t:LstsAt h vs ks):∀v∈vs,∃a o,v=.ref a/\h.get? a=ap o/\o.cls=.type "list":=by
 induction t with
 |nil=>simp_all
 |cons ho hc hd hi r ih=>
  intro v hv;rcases Uj.mp hv with rfl|hv
  .exact#[_,_,rfl,ho,hc]
  exact ih v hv
theorem qc(L:A.units<k6)(t:LstsAt s.heap vs ks):oY vs.length (rk ks) (kas_ask prog w A oneType' vs) s:=by
 intro i j g x C h;obtain⟨a,o,l,n,y,f,K,z,I⟩:=t.at i g;obtain⟨v,r,G,B,m,b,e,c,p⟩:=t.at j x;rw[ML (by rw[t.len];exact g)]at h
 unfold kas_ask;rw[y,m];obtain⟨N,P,O,M⟩:=o;obtain⟨J,u,q,H⟩:=r;subst K z e c;refine ax (wpAny_cRoomFor L ?_);refine ax (wpAny_callSpecialIfBound?_slot #[_,f,rfl] Yx<|call_meets Yx #[_,f,rfl] PySem.F.entry_list_lt (PySem.F.args_list_lt_2 _ _) (Jp a v l _ n B _ _ _ _ _ _ I p) #[f,b,?_]);exact pa h
theorem oz(I:s.heap.get? a=ap (w6 "list" vs.toArray n))(X:A.units<k6)(Y:LstsAt s.heap vs ks)(F:∀b,UE b∈vs->b≠a)(H:vs.length<64)(h:∀p:Array Nat,Pm vs.length p->SU (rk ks) p vs.length->P (.done<|.ret .none) { s with heap:=sortedHeap s.heap a vs (Vn (p.toList.map λi=>vs.getD i U8)) }):
  ez (eC prog w) A (Builtin.«list.sort» #[[.ref a],[]]) P E s:=by
 rw[list_sort_plain];refine ax (aay I rfl ?_);refine ax (UF I rfl ?_ (by rw[Uo,k'];lia)<|Va _)
 obtain⟨y,q⟩:∃y,(s.heap.update a (UU λ_=>(Tw []))).get? a=ap (w6 "list" (Tw []) y):=#[_,get?_update_seq I λ_=>(Tw [])];refine ax (seqEpoch_at q rfl ?_);refine ax (wh ?_<|by show vs.length<=_;rw[k'];lia)
 refine ax (aam ?_<|Va _);refine kc ?_;have L:∀b o,b≠a->s.heap.get? b=ap o->(((s.heap.update a (UU λ_=>(Tw []))).push<|seqObj "tuple" vs.toArray 0).push<|seqObj "list" (Tw []) 0).get? b=ap o:=λb o z e=>
  Ua _ (Ua _<|(UX ..).extBut b o z e)
 have c:(((s.heap.update a (UU λ_=>(Tw []))).push<|seqObj "tuple" vs.toArray 0).push<|seqObj "list" (Tw []) 0).get? a=ap (w6 "list" (Tw []) y):=Ua _ (Ua _ q);have r:=Y.keep λb o z e=>L b o (F b z) e;show ez (eC prog w) A _ P E { s with heap:=((s.heap.update a (UU λ_=>(Tw []))).push<|seqObj "tuple" vs.toArray 0).push (w6 "list" (Tw []) 0) };dsimp only;have U:vs.toArray.size=vs.length:=by simp
 by_cases g:vs.toArray.size<2
 .rw[if_pos g,if_pos g]
  refine ax (cx ?_);rw[StateT.run_pure];refine ax (cx ?_);dsimp only;refine ax (seqEpoch_at c rfl ?_);have K:(arrOf<|SortSt.mk' general' (vs.toArray.zip vs.toArray) (Tw []) 7 bb).map (·.2)=Vn ((Vn<|Ut vs.length).toList.map λi=>vs.getD i U8):=by
   apply Array.toList_inj.mp;rw[Array.toList_map,Array.toList_zip,List.map_snd_zip (Uk _)];refine Xa (by simp) λi J g=>?_
   simp at J;simp[J]
  refine ax (UF c rfl ?_ (Va _)<|by rw[K];simp;rw[k'];lia)
  simp only[bne_self_eq_false,US,if_false];refine cx ?_;rw[K];refine h _ nB λi j M Z=>?_;have:i=j:=by lia
  rw[this];exact Uk _
 .rw[if_neg g,if_neg g]
  refine ax (kas_kind (T:=.type "list") (by simpa using g) (λv S=>?_) (by decide) rfl ?_)
  .obtain⟨a',o,rfl,C,W⟩:=r.there v S
   rw[<- W];exact(Looks.ld C).andThen .now
  refine ax (j0 (kat_run (Q:=λf l=>∃p:Array Nat,arrOf f=p.map _/\failedOf f=bb/\l={ s with heap:=((s.heap.update a (UU λ_=>(Tw []))).push<|seqObj "tuple" vs.toArray 0).push (w6 "list" (Tw []) 0) }/\Pm vs.length p/\SU (rk ks) p vs.length)
   (G:=λp l=>l={ s with heap:=((s.heap.update a (UU λ_=>(Tw []))).push<|seqObj "tuple" vs.toArray 0).push (w6 "list" (Tw []) 0) }/\Pm vs.length p/\SU (rk ks) p vs.length) rfl (by lia) H
   (λO f l a1 N R B=>#[O,N,R,B.1,B.2.1,B.2.2]) (yU (qc X r) (by lia) λp u x=>#[rfl,u,x])) ?_ λ_ _ e=>e)
  rintro⟨⟨⟩,f⟩ l ⟨p,har,hf,rfl,u,x⟩
  dsimp only;have m:=kat_snds rfl har;rw[m];refine ax (seqEpoch_at c rfl ?_);refine ax (UF c rfl ?_ (Va _)<|by have:=u.size;simp;rw[this,k'];lia)
  rw[hf];simp only[bne_self_eq_false,US,if_false];exact cx (h p u x)
theorem uy(v:s.heap.IsList l vs.toArray)(y:A.units+2<k6)(m:LstsAt s.heap vs ks)(j:vs.length<64)(h:∀p:Array Nat,Pm vs.length p->SU (rk ks) p vs.length->Q (.ref (s.heap.objs.size+1)) { s with heap:=sortedAll s.heap vs (Vn (p.toList.map λi=>vs.getD i U8)) }):
  ez (eC prog w) A (call (.builtin "sorted") [.ref l]) Q E s:=by
 refine Calls.call_function_entry kind_sorted plain_sorted entry_sorted (args_sorted1 _) ?_;refine ax (cx ?_);refine ax (collect_list v ?_<|by rw[k'];lia)
 refine ax (aam ?_<|by rw[k'];lia)
 have c:((s.heap.push<|seqObj "list" (Tw []) 0).update s.heap.objs.size<|UU (·++vs.toArray)).objs.size=s.heap.objs.size+1:=by
  simp_all
 have a:(((s.heap.push<|seqObj "list" (Tw []) 0).update s.heap.objs.size<|UU (·++vs.toArray)).push<|seqObj "list" vs.toArray 0).get? (s.heap.objs.size+1)=ap (w6 "list" vs.toArray 0):=by
  rw[<- c];exact Uh _ rfl
 have q:LstsAt (((s.heap.push<|seqObj "list" (Tw []) 0).update _<|UU (·++vs.toArray)).push<|seqObj "list" vs.toArray 0) vs ks:=m.keep λb o _ e=>
  Ua _ ((UX ..).extBut b o (Uv<|Ue e)<|Ua _ e)
 rw[c];have f:∀b,UE b∈vs->b≠s.heap.objs.size+1:=λb r=>by
  obtain⟨x,o,e,g,_⟩:=m.there _ r;cases e;exact Uv (XF<|Ue g)
 exact ax (kc<|wpAny_call_entry slot_list_sort #[_,a,rfl] entry_list_sort (oz a (by lia) q f j λp u n=>#[_,rfl,cx #[_,rfl,h p u n]])<|args_list_sort _)
end _S
namespace _3
open PySem _2 _S
def iw(M:Mem):List D->Option (List<|List Int)
 |[]=>ap []
 |d::ds=>match cG M d with
  |some xs=>match dS xs,iw M ds with
   |some k,ap ks=>ap (k::ks)
   |_,_=>bb
  |none=>bb
theorem sK(I:Inv X c Z H s)(g:RepH X.K H M):∀{ds:List D}{ks:aaT}{vs:List V}{aaR:aaW},iw M ds=ap ks->Rps X.K H ds vs->Vals vs aaR->LstsAt s.heap aaR ks
 |[],_,_,_,e,r,v=>by
  cases e;cases r;cases v;exact .nil
 |d::ds,ks,_,_,e,r,v=>by
  obtain⟨x,E,rfl,a,b⟩:=r;simp[iw]at e
  split at e
  .rename_i A w
   split at e
   .rename_i k i j h
    cases e;cases v with
    |cons rx v=>
     obtain⟨p,C,rfl,y,f⟩:=cY g a w;cases rx;obtain⟨z,m,pl,F⟩:=I.list (.inl y);obtain⟨o,e,q,n,l⟩:=pl.isList;have u:=jv f j;subst u;exact .cons e q l (uP m) (sK I g h b v)
   cases e
  cases e
theorem jQ(r:Rps K H ds vs):∀l:List Nat,(∀i∈l,i<ds.length)->Rps K H (l.map λi=>ds.getD i .non) (l.map λi=>vs.getD i .non)
 |[],_=>rfl
 |i::l,h=>by
  have e:ds[i]?=ap (ds.getD i .non):=by simp_all
  obtain⟨v,c,b⟩:=r.get e;have a:vs.getD i .non=v:=by simp_all
  rw[Ud,Ud,a];exact .cons b (jQ r l<|by simp_all)
def dG:oU:=λc M Q=>one c λd=>so (cG M d) λb=>so (iw M b) λa=>a.length<64/\∀l:List Nat,l.Perm (Ut a.length)->l.map (λi=>a.getD i [])=kT dh a->∀p,M p=bb->Q (.ref p) (M.upd p<|.lst (l.map λi=>b.getD i .non))
theorem pe(hu:X.A.units+2<k6):bt X (.builtin "sorted") (liftC X dG):=by
 rintro aaL s Z H xs us Q I r ⟨ds,M,QQ,rh,rp,h,up⟩
 unfold dG at h
 replace h:=h.inv;obtain⟨_,rfl,h⟩:=h
 obtain⟨v,rfl,rv⟩:=g6 (ds:=[]) rp;obtain⟨ys,e,h⟩:=h.inv;obtain⟨q,vs,rfl,hq,rr⟩:=cY rh rv e;obtain⟨ks,es,h⟩:=h.inv;obtain⟨h64,h⟩:=h;obtain⟨u,rfl,ru⟩:=iT r;cases ru;obtain⟨aaR,r',pl,hz⟩:=I.list (.inl hq);have hlen:=r'.length;have hl2:=rr.length;have ta:=sK I rh es rr r';have tl:=ta.len;refine uy pl.isList hu ta (by lia) λp hp hs=>?_
 rw[<- tl]at hp hs;have ea:=EF hp hs;obtain⟨k,hk⟩:=Xu _ _ _;have hn:=I.hok.fresh (VU _);have hin:∀i∈p.toList,i<ks.length:=λi hi=>UJ.mp ((WC hp).mp hi);refine#[.ref _,_,I.laid (λb o=>Xs) (VU _) (show ObjOk _ _ _ _ _ (.lst _) from #[?_,_,k,(j_ r' _ λi hi=>by have:=hin i hi;lia),hk]),rfl,?_]
 .rw[Ub,Vd,hp.size];exact Uu (V0 h64) (by decide)
 exact up _ _ (h _ hp ea _<|rh.fresh hn) _ _ (rh.put (by rw[hn];trivial) #[_,upd_same,(jQ rr _ λi hi=>by have:=hin i hi;lia).mono<|Imm.new hn]) (Frm.put<|.inl hn) rfl
theorem kJ:∀ks:List (List Int),iw M (ks.map λk=>D.lst (k.map D.int))=ap ks
 |[]=>rfl
 |k::ks=>by
  rw[Ud,iw];simp only[cG,fO,kJ ks]
theorem kM(e:cG M d=ap (ks.map λk=>D.lst (k.map D.int)))(a:ks.length<64)
  (h:∀p,M p=bb->Q (.ref p) (M.upd p<|.lst ((kT dh ks).map λk=>D.lst (k.map D.int)))):dG [d] M Q:=by
 unfold dG;simp only[t_,y9,e,kJ];refine#[a,λl g b p f=>?_];have:(l.map λi=>(ks.map λk=>D.lst (k.map D.int)).getD i .non)=(kT dh ks).map λk=>D.lst (k.map D.int):=by
  rw[<- b,Uq];refine UD λi c=>?_;simp[(UJ.mp<|(WC g).mp c)]
 rw[this];exact h p f
end _3
namespace _3
open PySem _2 _S PyProof.Rows
theorem oB(a:X.A.units+64<k6):bt X (.builtin "sorted") (liftC X dG):=pe (by lia)
end _3
namespace _2
open PySem PySem.Spec PyProof.Rows
section
variable{id:String}
theorem D2(hc:N9 X (.builtin id) kn (.ref f) r)(A:Gl X x)(v:X.mg x=bb)(u:eT x=ap (.builtin id))(c:Gl X y)(i:X.mg y=ap (.ref f))(z:PA X (e::es) t)(B:x≠"__name__")(j:(x==("__debug__":Str))=cp)
  (b:(y==("__debug__":Str))=cp)
  (w:g3 pos (eg (e::es) X.env)=(cp,fv e X.env)::g3 pos (eg es X.env)) (g:(g3 pos<|starEach (e::es) X.env).any (·.1)=cp):PE X (.Call (.Name x p) (e::es) [#[ap kn,.Name y yp,kp]] pos) (tCB r t):=by
 intro a s Z H Q I h;refine mo (di I A v u ?_ B j);refine callWith_kw (bu (z pos a s Z H _ I h) λo q ⟨n,H1,I1,l,m⟩=>?_) w g;exact kws_cons (gX I1 c i (kws_nil<|hc a q Z H1 n o Q I1 l m) b)
end
end _2
namespace _S
open PySem PySem.W PyProof.Rows
section
variable{vs kA:aaW}{st:SortSt}
theorem qe(j:s.heap.get? kS=ap (w6 "list" kA.toArray e))(i:s.heap.get? a=ap (w6 "list" (Tw []) e1))(c:a≠kS)(g:kA.length<64)(b:(arrOf st).map (·.2)=Vn out)(m:out.length<64)(l:failedOf st=bb)
  (h:P (.done<|.ret .none) { s with heap:=(s.heap.update kS (UU λ_=>(Tw []))).update a (UU λ_=>Vn out) }):ez (eC prog w) A (ksk_tail a cp e1 (.ref kS) st) P E s:=by
 have f:=((UX s.heap kS (UU λ_=>((Tw []):aa3))).2 a c).trans i;unfold ksk_tail;dsimp only;rw[b,l];refine ax (UF j rfl (ax<|wpAny_letGo<|wpAny_bind<|seqEpoch_at f rfl<|wpAny_bind<|listUpdate_at f rfl ?_ (Va _) ?_) ?_<|Va _)
 .simp only[bne_self_eq_false,US,if_false]
  exact cx h
 .simp
  rw[k'];lia
 .rw[Uo,k'];lia
theorem Ha(x:s.heap.get? kS=ap (w6 "list" kA.toArray e))(r:s.heap.get? a=ap (w6 "list" (Tw []) e1))(g:a≠kS)(I:A.units<k6)(u:LstsAt s.heap kA ks)(q:kA.length=vs.length)(l:vs.length<64)
  (h:∀p:Array Nat,Pm vs.length p->SU (rk ks) p vs.length->P (.done<|.ret .none) { s with heap:=(s.heap.update kS (UU λ_=>(Tw []))).update a (UU λ_=>Vn (p.toList.map λi=>vs.getD i U8)) }):
  ez (eC prog w) A (ksk_end a cp vs.toArray e1 (.ref kS) kA.toArray) P E s:=by
 unfold ksk_end;simp only[US,if_false]
 by_cases b:vs.toArray.size<2
 .rw[if_pos b,if_pos b]
  refine ax (cx<|qe x r g (by lia) ?_ (by simp_all) rfl (h _ nB λi j y K=>?_))
  .apply Array.toList_inj.mp
   rw[Array.toList_map,Array.toList_zip,List.map_snd_zip (by lia)]
   refine Xa (by simp) λi L b=>?_
   simp_all
  rw[Uo]at b;have:i=j:=by lia
  simp_all
 rw[if_neg b,if_neg b];rw[Uo]at b;refine ax (kas_kind (T:=.type "list") (by lia) (λv F=>?_) (by decide) rfl ?_)
 .obtain⟨J,o,rfl,n,H⟩:=u.there v F
  rw[<- H];exact(Looks.ld n).andThen .now
 refine ax (j0 (kat_run (Q:=λf c=>∃p:Array _,arrOf _=p.map _/\failedOf _=bb/\c=s/\Pm _ p/\SU (rk ks) p _)
  (G:=λp c=>c=s/\Pm vs.length p/\SU _ p vs.length) q (by lia) l
  (λB f c M z C m=>#[B,z,C,m.1,m.2.1,m.2.2]) (yU (q▸qc I u) (by lia)<|by lia)) ?_ λ_ _ e=>e)
 rintro⟨⟨⟩,f⟩ c ⟨p,har,hf,rfl,hp,hs⟩
 exact qe x r g (by lia) (kat_snds q har) (by rw[Ub,Vd,hp.size];exact l) hf (h p hp hs)
theorem Db(n:s.heap.IsList l vs.toArray)(p:vs.length<64)
  (h:∀i a,s.heap.objs.size<=a->(∀b o,s.heap.get? b=ap o->i.get? b=ap o)->i.get? a=ap (w6 "list" vs.toArray 0)->ez (eC prog w) A.in1.in1 (ksk_tree a (.ref f) cp) (λfin s'=>fin=.done (.ret .none)/\Q (.ref a) s') E { s with heap:=i }):
  ez (eC prog w) A (call (.builtin "sorted") [.ref l] [("key",.ref f)]) Q E s:=by
 refine call_function_entry_kw kind_sorted plain_sorted entry_sorted (ksk_s1 _ _) ?_;unfold Builtin.«sorted»;refine ax (m:=checkCount "sorted" 1 1 _) (cx ?_);refine ax (collect_list n ?_<|by rw[k'];lia)
 refine ax (aam ?_<|by rw[k'];lia)
 have g:((s.heap.push<|seqObj "list" (Tw []) 0).update s.heap.objs.size<|UU (·++vs.toArray)).objs.size=s.heap.objs.size+1:=by
  rw[Heap.size_update,size_push']
 have c:(((s.heap.push<|seqObj "list" (Tw []) 0).update s.heap.objs.size<|UU (·++vs.toArray)).push<|seqObj "list" vs.toArray 0).get? (s.heap.objs.size+1)=ap (w6 "list" vs.toArray 0):=by
  rw[<- g];exact Uh _ rfl
 show ez _ _ _ _ _ { s with heap:=((s.heap.push<|seqObj "list" (Tw []) 0).update s.heap.objs.size<|UU (·++vs.toArray)).push (w6 "list" vs.toArray 0) };rw[g];refine ax (kc<|wpAny_call_entry_kw slot_list_sort #[_,c,rfl] entry_list_sort (j0 (h _ _ (VU _) (λb o e=>
  Ua _ ((UX ..).extBut b o (Uv<|Ue e)<|Ua _ e)) c) (λfin s' j=>?_) λ_ _ e=>e)<|ksk_l1 _ _)
 obtain⟨rfl,q⟩:=j;exact#[_,rfl,cx #[_,rfl,q]]
end
end _S
namespace _3
open PySem _2 _S PyProof.Rows
def n_(T:Sd):List D->List D->Mem->(List D->Mem->Prop)->Prop
 |[],ks,M,Q=>Q ks M
 |d::ds,ks,M,Q=>calls T iS [d] M (λk M1=>n_ T ds (ks++[k]) M1 Q) #[]
def G8(xs:List D)(Q:DK)(kd:List D)(M:Mem):Prop:=so (iw M kd) λa=>∀l:List Nat,l.Perm (Ut a.length)->l.map (λi=>a.getD i [])=kT dh a->∀p,M p=bb->Q (.ref p) (M.upd p<|.lst (l.map λi=>xs.getD i .non))
def gx(T:Sd):oU:=λc M Q=>one c λd=>so (cG M d) λa=>a.length<64/\n_ T a [] M (G8 a Q)
def KZ(X:Cx)(x:Str)(T:Sd):Prop:=∃(st:ol)(f:cb)(fd:f')(ps:aaV)(k:Nat),GF X.K X.mg x st f fd ps/\FnOk X.prog X.w X.K X.mg X.base (m7 X.prog X.w) k f fd ps (bh X.K 1 T)/\Room (k+2) X.A
theorem KB(F:FnOk X.prog X.w X.K X.mg X.base (m7 X.prog X.w) k f fd ps (bh X.K 1 T))(n:Room k X.A.in1.in1)(p:Binds X.K fd ps [])(I:Inv X aaL Z H s)(o:RepH X.K H M)(l:Rp X.K H d v)(x:RelV v u)(h:calls T iS [d] M QQ #[])(m:Up X.K M H QQ Q):ez (eC X.prog X.w) X.A.in1.in1 (call (.ref f) [u]) (EP X aaL Z Q) E s:=by
 have c:bh X.K 1 T [v] H Q (λ_ _ _=>False):=cz h o (.cons l .nil) rfl m λC M' q=>q.elim;have j:=F.len _ _ _ _ c;refine aaf (q0 (F.run X.A.in1.in1 X.stack s H #[[u],[]] [u] [v] Q _ n I.env0.in1.in1 (p s [u] I.kIn j) (.cons x .nil) c) λr y a=>?_);cases r with
 |error e=>
  obtain⟨C,g⟩:=a;obtain⟨_,_,_,_,_,_,_,_,_,_,_,_,i⟩:=g;exact(show False from i).elim
 |ok fl=>
  cases fl with
  |ret u=>exact I.after a
  |next=>exact Vk a
  |brk=>exact Vk a
  |cont=>exact Vk a
theorem Frm.upd(g:Frm M H M' H')(h:H b=bb):Frm M H M' (_2.upd H' b u):=#[λc v e n=>#[by rw[aw (aX e h)];exact(g.keep c v e n).1,(g.keep c v e n).2]]
theorem Frm.mine(g:Frm M H M' H')(h:H b=bb):Frm M H (M'.upd b o) (_2.upd H' b u):=#[λc v e n=>#[by rw[aw (aX e h)];exact(g.keep c v e n).1,by rw[ae (aX e h)];exact(g.keep c v e n).2]]
theorem RepH.upd{K:Ug}(r:RepH K H M)(h:ut (H b))(n:M b=bb):RepH K (_2.upd H b u) M:=r.keep (.upd h) λc o e=>aw (by rintro rfl;rw[n]at e;cases e)
theorem HX(F:FnOk X.prog X.w X.K X.mg X.base (m7 X.prog X.w) k f fd ps (bh X.K 1 T))(hr:Room k X.A.in1.in1)(hb:Binds X.K fd ps [])(I:Inv X aaL Z H4 s)(rh:RepH X.K H4 M)(fm:Frm M H M H4)(h0:H a=bb)(h1:H kS=bb)(n0:M a=bb)(n1:M kS=bb)(ha:H4 a=ap (.ext λh=>h.get? a=ap (w6 "list" (Tw []) e1)))(hk:H4 kS=ap (.lst []))(hne:a≠kS)(rr:Rps X.K H4 ys vs)(r':Vals vs aaR)(h64:aaR.length<64)(h:n_ T ys [] M (G8 ys QQ))(up:Up X.K M H QQ Q):ez (eC X.prog X.w) X.A.in1.in1 (ksk_rest a (.ref f) cp aaR.toArray e1<|.ref kS) (λfin s'=>fin=.done (.ret .none)/\EP X aaL Z Q (.ref a) s') X.xe s:=by
 have l1:=r'.length;have l2:=rr.length;refine ax (F' ?_);rw[<- Y0]
 refine ax (ksk_fold (λi s'=>∃(H':Hp)(M':Mem)(kd:List D)(kv:List V),Inv X aaL Z H' s'/\RepH X.K H' M'/\Frm M H M' H'/\H' a=ap _/\M' a=bb/\H' kS=ap (.lst kv)/\M' kS=bb/\Rps X.K H' kd kv/\kv.length=i/\Rps X.K H' ys vs/\n_ T (ys.drop i) kd M' _) aaR 0 s
  #[H4,M,[],[],I,rh,fm,ha,n0,hk,n1,rfl,rfl,rr,h] ?step ?done)
 case step=>
  rintro j x s' hx ⟨H',M',kd,kv,I',rh',fm',ha',n0',hk',n1',rk,lk,rr',h'⟩
  simp only[Wh]at lk h' ⊢;have hj:=(UO.mp hx).1;have hjy:j<ys.length:=by lia
  obtain⟨v,hv,rv⟩:=rr'.get (Uc hjy);obtain⟨u,hu,ru⟩:=r'.get hv;rw[hx]at hu;cases hu;rw[VA hjy]at h';refine ax (p4 (j0 (KB (E:=λ_ _=>False) (Q:=λw H2=>∃d M2,RepH X.K H2 M2/\Frm M' H' M2 H2/\Rp X.K H2 d w/\n_ T _ (kd++[d]) M2 _) F hr hb I' rh' rv ru h' λd M2 q w H2 a1 a2 a3=>#[d,M2,a1,a2,a3,q]) (λu2 s2 hq=>?_) λ_ _ z=>z.elim));obtain⟨w,H2,I2,ru2,d,M2,rh2,f2,rw2,q2⟩:=hq;obtain⟨ha2,n02⟩:=f2.keep _ _ ha' n0';obtain⟨hk2,n12⟩:=f2.keep _ _ hk' n1';obtain⟨_,kA,e,rA,lA,hg⟩:=I2.lstM hk2;refine ax (UF hg rfl ?_ (by rw[Uo];lia)<|by rw[Array.size_push,Uo];lia)
  have im:=f2.imm rh';have im2:Imm H2 (_2.upd H2 kS<|.lst (kv++[w])):=.upd (by rw[hk2];trivial)
  exact cx #[rfl,_,M2,kd++[d],kv++[w],I2.lset hk2 hg (by simp) (rA.append<|.cons ru2 .nil) (by rw[UC,Vy,k'];lia),rh2.upd (by rw[hk2];trivial) n12,(fm'.trans f2).upd h1,
   by rw[aw hne];exact ha2,n02,upd_same,n12,((rk.mono im).mono im2).append (.cons (rw2.mono im2) .nil),by rw[UC,lk];rfl,(rr'.mono im).mono im2,q2]
 case done=>
  rintro s' ⟨H',M',kd,kv,I',rh',fm',ha',n0',hk',n1',rk,lk,rr',h'⟩
  rw[List.drop_of_length_le (by lia)]at h'
  obtain⟨_,kA,e,rA,lA,hg⟩:=I'.lstM hk';obtain⟨hga,_⟩:=I'.hok a _ ha';have h':G8 ys QQ kd M':=h';unfold G8 at h'
  replace h':=h'.inv;obtain⟨ks,es,h'⟩:=h'
  have ta:=sK I' rh' es rk rA;have tl:=ta.len;refine ax (aay hg rfl (Ha hg hga hne hr.units0 ta (by lia) h64 λp hp hs=>#[rfl,?_]))
  have e0:aaR.length=ks.length:=by lia
  rw[e0]at hp hs;have hin:∀i∈p.toList,i<ks.length:=λi hi=>UJ.mp ((WC hp).mp hi);have J1:=I'.lset (t':=s'.toks) (f:=λ_=>(Tw [])) hk' hg rfl .nil (Va _);have na:=((UX s'.heap kS (UU λ_=>(Tw []))).2 a hne).trans hga;have q:=get?_update_seq na λ_=>Vn (p.toList.map λi=>aaR.getD i U8);have vq:=j_ r' p.toList λi hi=>by simp_all
  have rq:=jQ rr' p.toList λi hi=>by have:=hin i hi;lia
  have J2:=J1.write (x:=a) (e:=a) (o:=.lst _) (t':=s'.toks) (by rw[aw hne,ha'];trivial) (.inl rfl) (λb u hb hu=>(Xc _ _<|UN hb).trans hu) #[_,q]
   #[by rw[Ub,Vd,hp.size];lia,_,_,vq,q]
  have im:Imm H' (_2.upd (_2.upd H' kS<|.lst []) a<|.lst (p.toList.map λi=>vs.getD i .non)):=(Imm.upd<|by rw[hk'];trivial).trans (.upd<|by rw[aw hne,ha'];trivial)
  exact#[.ref a,_,J2,rfl,up _ _ (h' _ hp (EF hp hs) a n0') _ _ ((rh'.upd (by rw[hk'];trivial) n1').put (by rw[aw hne,ha'];trivial) #[_,upd_same,rq.mono im]) ((fm'.upd h1).mine h0) rfl]
theorem qQ(F:FnOk X.prog X.w X.K X.mg X.base (m7 X.prog X.w) k f fd ps (bh X.K 1 T))(hr:Room (k+2) X.A)(hb:Binds X.K fd ps []):N9 X (.builtin "sorted") "key" (.ref f) (liftC X<|gx T):=by
 rintro aaL s Z H xs us Q I r ⟨ds,M,QQ,rh,rp,h,up⟩
 unfold gx at h
 replace h:=h.inv;obtain⟨_,rfl,h⟩:=h
 obtain⟨v,rfl,rv⟩:=g6 (ds:=[]) rp
 replace h:=h.inv;obtain⟨ys,e,h⟩:=h
 obtain⟨h64,h⟩:=h;obtain⟨q,vs,rfl,hq,rr⟩:=cY rh rv e;obtain⟨u,rfl,ru⟩:=iT r;cases ru;obtain⟨aaR,r',pl,hz⟩:=I.list (.inl hq);have l1:=r'.length;have l2:=rr.length;refine Db pl.isList (by lia) λh1 a ha keep ho=>?_
 obtain⟨e1,ho1⟩:∃e1,(h1.update a _).get? a=ap (w6 _ _ e1):=#[_,get?_update_seq ho _];refine ax (aay ho rfl<|wpAny_bind<|listUpdate_at ho rfl (ax<|seqEpoch_at ho1 rfl<|wpAny_bind<|wpAny_newTuple (ax<|wpAny_newList (kc ?_)<|by trivial) ?_) ?_<|by trivial)
 .have hn:=I.hok.fresh ha
  have k2:∀b o,s.heap.get? b=ap o->((h1.update a (UU λ_=>(Tw []))).push<|seqObj "tuple" aaR.toArray 0).get? b=ap o:=λb o e=>
   Ua _ ((UX ..).extBut b o (Uv<|Us (Ue e) ha)<|keep b o e)
  have ho2:((h1.update a _).push<|seqObj "tuple" aaR.toArray 0).get? a=ap _:=Ua _ ho1;have I1:=I.laid (t':=s.toks) (o:=.ext _) k2 ha #[ho2,#[_,ho2],λh h' p k=>k _ p];have hk0:=I1.fresh;have hk1:=aX upd_same hk0;have hk2:=(aw hk1.symm).symm.trans hk0;exact HX F (Room.in1<|Room.in1 hr) hb (I1.lnew (t':=s.toks) .nil<|by trivial) ((rh.new hn).new hk0) ((Frm.new hn).upd hk2) hn hk2 (rh.fresh hn) (rh.fresh hk2) (by rw[aw hk1];exact upd_same) upd_same hk1 ((rr.mono<|Imm.new hn).mono<|Imm.new hk0) r' (by lia) h up
 .simp_all
 simp_all
theorem wK(n:eT x=ap (.builtin "sorted"))(h:KZ X y T)(s:Gl X x)(o:X.mg x=bb)(c:Gl X y)(r:DA X B (e::es) t)(v:x≠"__name__")(j:(x==("__debug__":Str))=cp)(a:(y==("__debug__":Str))=cp)(q:g3 pos (eg (e::es) X.env)=(cp,fv e X.env)::g3 pos (eg es X.env))(i:(g3 pos<|starEach (e::es) X.env).any (·.1)=cp):
  DE X B (.Call (.Name x p) (e::es) [#[ap "key",.Name y yp,kp]] pos) (bn (gx T) t):=by
 obtain⟨w,f,fd,ps,k,g,F,l⟩:=h;exact aS (D2 (qQ F l g.b) s o n c g.m r v j a q i) λ_ _ _ h=>rK h
end _3
namespace _T
open PySem _2 _3
noncomputable def top(i:Nat):Stmt:=PySem.Challenge.pw_twinstride_k41_all_least_causes.main.body.getD i (.Pass #[0,0,0,0])
abbrev TU:Stmt:=eE (top 6) 0
abbrev Td:Stmt:=eE (top 6) 1
abbrev N3:Stmt:=eE (top 6) 2
abbrev LV:Stmt:=top 7
abbrev MU:Stmt:=top 8
abbrev Mg:Stmt:=top 9
abbrev LD:Stmt:=top 10
abbrev MW:Stmt:=top 12
abbrev Ly:Stmt:=top 13
abbrev Nk:Stmt:=top 14
abbrev Ls:Stmt:=top 15
abbrev LZ:Stmt:=top 16
abbrev Lu:Stmt:=top 18
abbrev Lw:Stmt:=top 19
abbrev LM:Stmt:=top 20
abbrev Nh:Stmt:=top 22
abbrev N0:Stmt:=top 24
abbrev Mi:Stmt:=top 26
abbrev LK:Stmt:=top 27
abbrev Nl:Stmt:=top 28
abbrev T2:Stmt:=eE (top 30) 0
abbrev SB:Stmt:=eE (top 30) 1
abbrev RM:Stmt:=eE (top 31) 0
abbrev Sl:Stmt:=eE (top 31) 1
abbrev MD:Stmt:=top 32
abbrev Mb:Stmt:=top 33
abbrev ME:Stmt:=top 34
abbrev MG:Stmt:=top 35
abbrev Mh:Stmt:=top 36
abbrev MP:Stmt:=top 38
abbrev Mw:Stmt:=top 39
abbrev MY:Stmt:=top 40
abbrev MF:Stmt:=top 41
abbrev R6:Stmt:=eE (top 43) 0
abbrev Ms:Stmt:=top 44
abbrev Na:Stmt:=top 45
abbrev LR:Stmt:=top 46
abbrev Mp:Stmt:=top 48
abbrev LW:Stmt:=top 49
abbrev Me:Stmt:=top 50
abbrev S7:Stmt:=top 51
abbrev MQ:Stmt:=top 53
abbrev Lx:Stmt:=top 54
abbrev LB:Stmt:=top 55
abbrev MV:Stmt:=top 56
abbrev LQ:Stmt:=top 57
abbrev Mo:Stmt:=top 58
abbrev Ml:Stmt:=top 59
abbrev Mx:Stmt:=top 60
abbrev LU:Stmt:=top 61
abbrev LF:Stmt:=top 62
abbrev MS:Stmt:=top 63
abbrev LI:Stmt:=top 64
abbrev LJ:Stmt:=top 65
abbrev Mu:Stmt:=top 66
abbrev Mm:Stmt:=top 67
abbrev My:Stmt:=top 68
abbrev Lz:Stmt:=top 69
abbrev MM:Stmt:=top 70
abbrev SN:Stmt:=top 71
abbrev LA:Stmt:=top 72
abbrev MC:Stmt:=top 73
abbrev Lv:Stmt:=top 74
abbrev MT:Stmt:=top 75
abbrev S3:Stmt:=top 76
abbrev Ni:Stmt:=top 77
abbrev LG:Stmt:=top 78
abbrev Nm:Stmt:=top 79
abbrev LC:Stmt:=top 80
abbrev km:Stmt:=top 81
set_option genInjectivity false in
structure Ad where
 C_Ends:cb
 C_Going:cb
 C_Outcome:cb
 C_Walk:cb
 C_Dry:cb
 C_NoCase:cb
 C_TooMany:cb
 (a1 a2 a3 a4 a5 a6 a7 a8 a9 a10 a11 a12 a13 a14 a15 a16 a17 a18 a19 a20 a21 a22 a23 a24 a25 a26 a27 a28 a29 a30 a31 a32 a33 a34 a35 a36 a37 a38 a39 a40 a41 a42 a43 a44 a45 a46 a47 a48 a49 a50 a51 a52 a53 a54 a55 a56 a57 a58 a59 a60 a61 a62 a63 a64 a65 a66 a67 a68 a69 a70:cb)
 (d1 d2 d3 d4 d5 d6 d7 d8 d9 d10 d11 d12 d13 d14 d15 d16 d17 d18 d19 d20 d21 d22 d23 d24 d25 d26 d27 d28 d29 d30 d31 d32 d33 d34 d35 d36 d37 d38 d39 d40 d41 d42 d43 d44 d45 d46 d47 d48 d49 d50 d51 d52 d53 d54 d55 d56 d57 d58 d59 d60 d61 d62 d63 d64 d65 d66 d67 d68 d69 d70:f')
section
variable{ad:Ad}{M:Mem}{Q:DK}{E:DX}{a b c e f g:D}
local macro_rules|`($q⁻¹)=>`({ nx:=λ_ x=>drp $q .non x,rt:=drp $q })
local macro_rules|`(¬$k:num)=>`(dC (.int $k))|`(¬$k:str)=>`(dC (.str $k))
def Hh(w:Ad)(y:DX):ar:=ai (cA w.C_Walk (ac 0) (ac 3) "most") (cA w.C_Walk (ac 0) (bw ag) "steps")
def Hz(w:Ad)(y:DX):ar:=ai (cA w.C_Walk (ac 0) (ah av (ac 2) ¬1) "pieces") (Hh w y)
def Ew(w:Ad)(y:DX):ar:=ai (cA w.C_Walk (ac 0) (gB<|aa (ah av (ac 1) ¬1)<|aa (ah av (ac 2) ¬0) ag) "numbers") (Hz w y)
def KO(w:Ad)(y:DX):ar:=ai (cA w.C_Walk (ac 0) (ac 1) "plan") (Ew w y)
def JG(ad:Ad):Sd:=aD ["self","plan","stand","most"] (KO ad)
theorem u_q6:JG ad [e,a,b,c] M Q E=KO ad (aJ E) Q⁻¹ [ap e,ap a,ap b,ap c] M:=rfl
def Gq(w:Ad)(y:DX):ar:=b6 (iN "list" bf (aV w.C_Walk (ac 0) "steps")<|aa (aU<|aa (ac 1)<|aa (ac 2) ag) ag)
def Kr(w:Ad)(y:DX):ar:=ai (aE (al<|ah oGe (bn cC<|aa (aV w.C_Walk (ac 0) "steps") ag)<|aV w.C_Walk (ac 0) "most") (nE w.C_Dry y) aB) (Gq w y)
def xw(ad:Ad):Sd:=aD ["self","place","number"] (Kr ad)
theorem u_q3:xw ad [c,a,b] M Q E=Kr ad (aJ E) Q⁻¹ [ap c,ap a,ap b] M:=rfl
def A8(w:Ad)(y:DX):ar:=ai (b6<|dm w.C_Walk "note_step" (xw w) y 3 (ac 0)<|aa (ac 1)<|aa (ac 3) ag) (az<|ac 3)
def yo(w:Ad)(y:DX):ar:=ai (aq (oi (al<|ah bR (ah av (aV w.C_Walk (ac 0) "numbers")<|ac 2) ¬0) (¬0) ¬1)<|af 3) (A8 w y)
def pJ(ad:Ad):Sd:=aD ["self","place","name","seen"] (yo ad)
theorem Rq:pJ ad [c,a,b] M Q E=yo ad (aJ E) Q⁻¹ [ap c,ap a,ap b,bb] M:=rfl
def BZ(w:Ad)(y:DX):ar:=az (ah g7 (ao<|ah bc (ac 1)<|ac 2)<|ac 3)
def zj(w:Ad)(y:DX):ar:=az (oi (al<|ah DL (ac 1)<|ac 2) (¬1) ¬0)
def Bi(w:Ad)(y:DX):ar:=az (oi (al<|ah bR (ac 1)<|ac 2) (¬1) ¬0)
def Ap(w:Ad)(y:DX):ar:=ai (aE (al<|ah bR (ac 0) ¬"less") (zj w y) aB) (Bi w y)
def BA(w:Ad)(y:DX):ar:=ai (aE (al<|ah bR (ac 0) ¬"by") (az<|ah g7 (ah jA (ac 1)<|ac 2)<|ac 3) aB) (Ap w y)
def zN(w:Ad)(y:DX):ar:=ai (aE (al<|ah bR (ac 0) ¬"sum") (BZ w y) aB) (BA w y)
def zH(ad:Ad):Sd:=aD ["word","y","z","wheel"] (zN ad)
theorem Ri:zH ad [e,a,b,c] M Q E=zN ad (aJ E) Q⁻¹ [ap e,ap a,ap b,ap c] M:=rfl
def Ba(w:Ad)(y:DX):ar:=az (ah g7 (ah av (ac 1)<|ah av (ac 2) ¬2)<|ah av (ac 0) ¬2)
def B9(w:Ad)(y:DX):ar:=ai (aE (al<|ah bR (ah av (ac 2) ¬0) ¬"pick") (Ba w y) aB) (az<|dC .non)
def i_(w:Ad)(y:DX):ar:=ai (aE (al<|ah bR (ah av (ac 2) ¬0) ¬"take") (az<|ah av (ac 2) ¬2) aB) (B9 w y)
def mv(ad:Ad):Sd:=aD ["plan","numbers","row"] (i_ ad)
theorem qg:mv ad [c,a,b] M Q E=i_ ad (aJ E) Q⁻¹ [ap c,ap a,ap b] M:=rfl
def zw(w:Ad)(y:DX):ar:=az (aj (zH w) y 4<|aa (ah av (ac 3) ¬0)<|aa (ah av (ac 1)<|ah av (ac 3) ¬2)<|aa (ah av (ac 1)<|ah av (ac 3) ¬3)<|aa (ah av (ac 0) ¬0) ag)
def BG(w:Ad)(y:DX):ar:=ai (aE (al<|ah fk (ac 4)<|dC .non) (az<|ah av (ac 2)<|ac 4) aB) (zw w y)
def zp(w:Ad)(y:DX):ar:=ai (aq (ao<|aj (mv w) y 3<|aa (ac 0)<|aa (ac 1)<|aa (ac 3) ag)<|af 4) (BG w y)
def gE(w:Ad)(y:DX):ar:=ai (aE (al<|ah bR (ah av (ac 3) ¬0) ¬"put") (az<|ah av (ac 3) ¬2) aB) (zp w y)
def nq(ad:Ad):Sd:=aD ["plan","numbers","pieces","row","piece"] (gE ad)
theorem kH:nq ad [e,a,b,c] M Q E=gE ad (aJ E) Q⁻¹ [ap e,ap a,ap b,ap c,bb] M:=rfl
def Am(w:Ad)(Za Zc Zd Ze:Sd)(y:DX):ar:=b6 (aj Zc y 3<|aa (ac 0)<|aa (ac 4)<|aa (ah bc (ac 2)<|aU<|aa (ac 3) ag) ag)
def z7(w:Ad)(Za Zc Zd Ze:Sd)(y:DX):ar:=cV (vA<|aa (ac 1) ag) (dk 2<|aM (af 3)<|aM (af 4) da) (Am w Za Zc Zd Ze y)
def Bp(w:Ad)(Za Zc Zd Ze:Sd)(y:DX):ar:=b6 (aj Zd y 3<|aa (ac 0)<|aa (ac 1)<|aa (ac 2) ag)
def yJ(w:Ad)(Za Zc Zd Ze:Sd)(y:DX):ar:=b6 (aj Ze y 3<|aa (ac 0)<|aa (ac 1)<|aa (ac 2) ag)
def Au(w:Ad)(Za Zc Zd Ze:Sd)(y:DX):ar:=aq (ac 3) (cW (aV w.C_Walk (ac 0) "numbers")<|ah av (ac 1) ¬1)
def Cn(w:Ad)(Za Zc Zd Ze:Sd)(y:DX):ar:=ai (b6<|dm w.C_Walk "note_step" (xw w) y 3 (ac 0)<|aa (ac 2)<|aa (ac 3) ag) (Au w Za Zc Zd Ze y)
def BP(w:Ad)(Za Zc Zd Ze:Sd)(y:DX):ar:=ai (aq (ao<|aj (nq w) y 4<|aa (aV w.C_Walk (ac 0) "plan")<|aa (aV w.C_Walk (ac 0) "numbers")<|aa (aV w.C_Walk (ac 0) "pieces")<|aa (ac 1) ag)<|af 3) (Cn w Za Zc Zd Ze y)
def B8(w:Ad)(Za Zc Zd Ze:Sd)(y:DX):ar:=aE (al<|ah bR (ah av (ac 1) ¬0) ¬"again") (yJ w Za Zc Zd Ze y) (BP w Za Zc Zd Ze y)
def qx(w:Ad)(Za Zc Zd Ze:Sd)(y:DX):ar:=aE (al<|ah bR (ah av (ac 1) ¬0) ¬"if") (Bp w Za Zc Zd Ze y) (B8 w Za Zc Zd Ze y)
def C0(w:Ad)(Za Zc Zd Ze:Sd)(y:DX):ar:=b6 (aj Za y 3<|aa (ac 0)<|aa (oi (al<|ah bR (ac 3) ¬1) (ah av (ac 1) ¬2)<|ah av (ac 1) ¬3)<|aa (ah bc (ac 2)<|aU<|aa (ac 3) ag) ag)
def Bb(w:Ad)(Za Zc Zd Ze:Sd)(y:DX):ar:=ai (aq (ao<|dm w.C_Walk "look" (pJ w) y 3 (ac 0)<|aa (ac 2)<|aa (ah av (ac 1) ¬1) ag)<|af 3) (C0 w Za Zc Zd Ze y)
def AO(w:Ad)(Za Zc Zd Ze:Sd)(y:DX):ar:=ai (b6<|aj Za y 3<|aa (ac 0)<|aa (ah av (ac 1) ¬2)<|aa (ah bc (ac 2)<|aU<|aa (ac 3) ag) ag) (Fi 3 (¬1) HJ)
def zE(w:Ad)(Za Zc Zd Ze:Sd)(y:DX):ar:=qI (al<|ah bR (ao<|dm w.C_Walk "look" (pJ w) y 3 (ac 0)<|aa (ah bc (ac 2)<|aU<|aa (ac 3) ag)<|aa (ah av (ac 1) ¬1) ag) ¬1) (AO w Za Zc Zd Ze y)
def Hf(w:Ad)(Za Zc Zd Ze:Sd)(y:DX):ar:=ai (aq (¬0)<|af 3) (zE w Za Zc Zd Ze y)
mutual
noncomputable def Za(ad:Ad):Nat->Sd
 |0=>λ_ _ _ _=>False
 |n+1=>aD ["walk","rows","place","j","row"] (z7 ad (Za ad n) (Zc ad n) (Zd ad n)<|Ze ad n)
noncomputable def Zc(ad:Ad):Nat->Sd
 |0=>λ_ _ _ _=>False
 |n+1=>aD ["walk","row","place","number"] (qx ad (Za ad n) (Zc ad n) (Zd ad n)<|Ze ad n)
noncomputable def Zd(ad:Ad):Nat->Sd
 |0=>λ_ _ _ _=>False
 |n+1=>aD ["walk","row","place","seen"] (Bb ad (Za ad n) (Zc ad n) (Zd ad n)<|Ze ad n)
noncomputable def Ze(ad:Ad):Nat->Sd
 |0=>λ_ _ _ _=>False
 |n+1=>aD ["walk","row","place","turn"] (Hf ad (Za ad n) (Zc ad n) (Zd ad n)<|Ze ad n)
end
theorem Sc{n:Nat}:Za ad (n+1) [c,a,b] M Q E=z7 ad (Za ad n) (Zc ad n) (Zd ad n) (Ze ad n) (aJ E) Q⁻¹ [ap c,ap a,ap b,bb,bb] M:=rfl
theorem FT{n:Nat}:Zc ad (n+1) [c,a,b] M Q E=qx ad (Za ad n) (Zc ad n) (Zd ad n) (Ze ad n) (aJ E) Q⁻¹ [ap c,ap a,ap b,bb] M:=rfl
theorem Tq{n:Nat}:Zd ad (n+1) [c,a,b] M Q E=Bb ad (Za ad n) (Zc ad n) (Zd ad n) (Ze ad n) (aJ E) Q⁻¹ [ap c,ap a,ap b,bb] M:=rfl
theorem u_q51{n:Nat}:Ze ad (n+1) [c,a,b] M Q E=Hf ad (Za ad n) (Zc ad n) (Zd ad n) (Ze ad n) (aJ E) Q⁻¹ [ap c,ap a,ap b,bb] M:=rfl
def BO(w:Ad)(y:DX):ar:=az (aU<|aa (aV w.C_Walk (ac 3) "steps")<|aa (bn b_<|aa (ao<|aO (bE<|ah av (ac 0) ¬1) ["name"] [3] (af 0) cP<|ah av (aV w.C_Walk (ac 1) "numbers")<|ac 0) ag) ag)
def yK(w:Ad)(y:DX):ar:=ai (Pf w.C_Dry (Za w 24) 3 (aa (ac 3)<|aa (ah av (ac 0) ¬3)<|aa (aU ag) ag)<|az<|aU<|aa (aV w.C_Walk (ac 3) "steps")<|aa (dC .non) ag) (BO w y)
def yi(w:Ad)(y:DX):ar:=ai (aq (iq w.C_Walk (JG w) y 4<|aa (ac 0)<|aa (ac 1)<|aa (ac 2) ag)<|af 3) (yK w y)
def ue(ad:Ad):Sd:=aD ["plan","stand","most","walk"] (yi ad)
theorem T1:ue ad [c,a,b] M Q E=yi ad (aJ E) Q⁻¹ [ap c,ap a,ap b,bb] M:=rfl
def za(w:Ad)(y:DX):ar:=az (ah av (ac 3)<|Ik iE (ah av (ac 0) ¬1)<|aa (ah av (ac 0) ¬4) ag)
def zg(w:Ad)(y:DX):ar:=ai (aE (al<|ah kX (ac 3)<|dC .non) (az<|dC .non) aB) (za w y)
def Az(w:Ad)(y:DX):ar:=ai (aq (ah av (qd<|aj (ue w) y 3<|aa (ac 0)<|aa (ac 1)<|aa (ac 2) ag) ¬1)<|af 3) (zg w y)
def qF(ad:Ad):Sd:=aD ["plan","stand","most","end"] (Az ad)
theorem TW:qF ad [c,a,b] M Q E=Az ad (aJ E) Q⁻¹ [ap c,ap a,ap b,bb] M:=rfl
def z9(w:Ad)(y:DX):ar:=az (ah bc (ao<|bn eG<|aa (ah av (ac 0) ¬1) ag)<|ao<|vt<|aa (ah av (ac 0) ¬2) ag)
def ug(ad:Ad):Sd:=aD ["plan"] (z9 ad)
theorem Ra:ug ad [a] M Q E=z9 ad (aJ E) Q⁻¹ [ap a] M:=rfl
def mj(w:Ad)(y:DX):ar:=az (aO (bE<|ao<|aj (ug w) y 1<|aa (ac 0) ag) ["thing"] [2] (af 0) (al<|ah vI (ac 0)<|ac 1)<|ac 0)
def B_(w:Ad)(y:DX):ar:=ai (aq (bn gl<|aa (ao<|aO (bE<|ac 1) ["thing"] [] (af 0) cP<|aU<|aa (ac 0)<|aa (dC<|.bl true) ag) ag)<|af 2) (mj w y)
def yv(ad:Ad):Sd:=aD ["plan","things","wanted"] (B_ ad)
theorem To:yv ad [b,a] M Q E=B_ ad (aJ E) Q⁻¹ [ap b,ap a,bb] M:=rfl
def By(w:Ad)(y:DX):ar:=az (ah av (ah av (ac 1) ¬0)<|Ik iE (ah av (ac 0) ¬1)<|aa (ac 2) ag)
def uG(w:Ad)(y:DX):ar:=ai (aE (cq<|bn dJ<|aa (ac 2)<|aa (dC<|.ty "str") ag) (By w y) aB) (az<|ah av (ah av (ac 1) ¬1)<|ac 2)
def oG(ad:Ad):Sd:=aD ["plan","stand","thing"] (uG ad)
theorem N5:oG ad [c,a,b] M Q E=uG ad (aJ E) Q⁻¹ [ap c,ap a,ap b] M:=rfl
def AB(w:Ad)(y:DX):ar:=az (bn eG<|aa (ao<|DY (ac 0) (fg ¬2) cJ) ag)
def AC(w:Ad)(y:DX):ar:=ai (aE (QN (al<|ah bR (ah av (ac 0) ¬0) ¬"put")<|al<|ah bR (ah av (ac 0) ¬0) ¬"take") (az<|bw ag) aB) (AB w y)
def jm(w:Ad)(y:DX):ar:=ai (aE (QN (al<|ah bR (ah av (ac 0) ¬0) ¬"if")<|al<|ah bR (ah av (ac 0) ¬0) ¬"again") (az<|bw<|aa (ah av (ac 0) ¬1) ag) aB) (AC w y)
def zn(ad:Ad):Sd:=aD ["row"] (jm ad)
theorem qq:zn ad [a] M Q E=jm ad (aJ E) Q⁻¹ [ap a] M:=rfl
def Gb(w:Ad)(y:DX):ar:=az (aO (bE<|ao<|aj (ug w) y 1<|aa (ac 0) ag) ["thing"] [0,2,1] (af 0) (al<|ah pG (ao<|aj (oG w) iS 3<|aa (ac 1)<|aa (ac 3)<|aa (ac 0) ag)<|ao<|aj (oG w) iS 3<|aa (ac 1)<|aa (ac 2)<|aa (ac 0) ag)<|ac 0)
def Bg(ad:Ad):Sd:=aD ["plan","one","other"] (Gb ad)
theorem u_q58:Bg ad [c,a,b] M Q E=Gb ad (aJ E) Q⁻¹ [ap c,ap a,ap b] M:=rfl
def Ae(w:Ad)(y:DX):ar:=ai (aE (al<|ah bR (ac 1)<|ac 2) (nE w.C_NoCase y) aB) (az<|aU<|aa (ac 1)<|aa (ac 2) ag)
def qK(w:Ad)(y:DX):ar:=ai (aE (QN (al<|ah kX (ac 1)<|dC .non)<|al<|ah kX (ac 2)<|dC .non) (nE w.C_NoCase y) aB) (Ae w y)
def tE(w:Ad)(y:DX):ar:=ai (aq (ao<|aj (qF w) y 3<|aa (ah av (ac 0) ¬0)<|aa (ah av (ac 0) ¬2)<|aa (ah av (ac 0) ¬3) ag)<|af 2) (qK w y)
def Ax(w:Ad)(y:DX):ar:=ai (aq (ao<|aj (qF w) y 3<|aa (ah av (ac 0) ¬0)<|aa (ah av (ac 0) ¬1)<|aa (ah av (ac 0) ¬3) ag)<|af 1) (tE w y)
def vU(ad:Ad):Sd:=aD ["case","sound","faulty"] (Ax ad)
theorem R8:vU ad [a] M Q E=Ax ad (aJ E) Q⁻¹ [ap a,bb,bb] M:=rfl
def GD(w:Ad)(y:DX):ar:=az (aj (Bg w) y 3<|aa (ah av (ac 0) ¬0)<|aa (ah av (ac 0) ¬1)<|aa (ah av (ac 0) ¬2) ag)
def pO(ad:Ad):Sd:=aD ["case"] (GD ad)
theorem u_q40:pO ad [a] M Q E=GD ad (aJ E) Q⁻¹ [ap a] M:=rfl
def Ai(w:Ad)(y:DX):ar:=ai (aE (al<|ah bR (ac 1)<|ah av (ac 0) ¬1) (az ¬"faulty") aB) (az ¬"other")
def vN(w:Ad)(y:DX):ar:=ai (aE (al<|ah bR (ac 1)<|ah av (ac 0) ¬0) (az ¬"sound") aB) (Ai w y)
def C7(ad:Ad):Sd:=aD ["two","one"] (vN ad)
theorem Mj:C7 ad [b,a] M Q E=vN ad (aJ E) Q⁻¹ [ap b,ap a] M:=rfl
def GJ(w:Ad)(y:DX):ar:=ai (cA w.C_Going (ac 0) (ac 4) "todo") (cA w.C_Going (ac 0) (ac 5) "left")
def FV(w:Ad)(y:DX):ar:=ai (cA w.C_Going (ac 0) (ac 3) "unsettled") (GJ w y)
def HF(w:Ad)(y:DX):ar:=ai (cA w.C_Going (ac 0) (ac 2) "pieces") (FV w y)
def Kv(w:Ad)(y:DX):ar:=ai (cA w.C_Going (ac 0) (ac 1) "numbers") (HF w y)
def Hd(ad:Ad):Sd:=aD ["self","numbers","pieces","unsettled","todo","left"] (Kv ad)
theorem u_q2:Hd ad [b,e,c,a,g,f] M Q E=Kv ad (aJ E) Q⁻¹ [ap b,ap e,ap c,ap a,ap g,ap f] M:=rfl
def E4(w:Ad)(y:DX):ar:=aq (ac 2) (cW (aV w.C_Going (ac 3) "numbers")<|ac 1)
def G7(w:Ad)(y:DX):ar:=aq (ac 2) (cW (aV w.C_Going (ac 3) "pieces")<|ac 1)
def Hx(w:Ad)(y:DX):ar:=ai (aE (cq<|bn dJ<|aa (ac 1)<|aa (dC<|.ty "str") ag) (E4 w y)<|G7 w y) (az<|ac 3)
def xk(w:Ad)(y:DX):ar:=ai (b6<|Hy (aV w.C_Going (ac 3) "unsettled")<|ac 1) (Hx w y)
def Jf(w:Ad)(y:DX):ar:=ai (aq (iq w.C_Going (Hd w) y 6<|aa (bn jH<|aa (aV w.C_Going (ac 0) "numbers") ag)<|aa (bn eG<|aa (aV w.C_Going (ac 0) "pieces") ag)<|aa (bn jH<|aa (aV w.C_Going (ac 0) "unsettled") ag)<|aa (aV w.C_Going (ac 0) "todo")<|aa (aV w.C_Going (ac 0) "left") ag)<|af 3) (xk w y)
def HW(ad:Ad):Sd:=aD ["self","thing","number","other"] (Jf ad)
theorem u_q8:HW ad [c,a,b] M Q E=Jf ad (aJ E) Q⁻¹ [ap c,ap a,ap b,bb] M:=rfl
def Jo(w:Ad)(y:DX):ar:=ai (cA w.C_Ends (ac 0) (ac 1) "limit") (cA w.C_Ends (ac 0) (¬0) "count")
def QD(ad:Ad):Sd:=aD ["self","limit"] (Jo ad)
theorem u_q4:QD ad [b,a] M Q E=Jo ad (aJ E) Q⁻¹ [ap b,ap a] M:=rfl
def xD(w:Ad)(y:DX):ar:=aE (al<|ah JN (aV w.C_Ends (ac 0) "count")<|aV w.C_Ends (ac 0) "limit") (nE w.C_TooMany y) aB
def Lm(w:Ad)(y:DX):ar:=ai (rL w.C_Ends (ac 0) (¬1) "count") (xD w y)
def GW(ad:Ad):Sd:=aD ["self"] (Lm ad)
theorem u_q5:GW ad [a] M Q E=Lm ad (aJ E) Q⁻¹ [ap a] M:=rfl
def sh(w:Ad)(y:DX):ar:=aq (aU<|aa (ac 2)<|aa (ac 1) ag) (af 1)
def Ag(w:Ad)(y:DX):ar:=ai (cV (NE<|aa (ac 0) ag) (af 2)<|sh w y) (az<|ac 1)
def nG(ad:Ad):Sd:=aD ["rows","todo","row"] (Ag ad)
theorem Re:nG ad [b,a] M Q E=Ag ad (aJ E) Q⁻¹ [ap b,ap a,bb] M:=rfl
def tU(w:Ad)(y:DX):ar:=az (iq w.C_Going (Hd w) y 6<|aa (gB<|aa (ah av (ac 1) ¬1)<|aa (ah av (ac 2) ¬0) ag)<|aa (bn eG<|aa (ah av (ac 2) ¬1) ag)<|aa (ac 3)<|aa (ao<|aj (nG w) y 2<|aa (ah av (ac 1) ¬3)<|aa (dC .non) ag)<|aa (ah av (ac 0) ¬3) ag)
def zS(w:Ad)(y:DX):ar:=ai (aq (bn gl<|aa (ao<|aO (bE<|ao<|aj (pO w) y 1<|aa (ac 0) ag) ["thing"] [] (af 0) cP<|aU<|aa (ac 0)<|aa (dC<|.bl true) ag) ag)<|af 3) (tU w y)
def Ce(w:Ad)(y:DX):ar:=ai (aq (ah av (ac 0) ¬1)<|af 2) (zS w y)
def Gi(w:Ad)(y:DX):ar:=ai (aq (ah av (ac 0) ¬0)<|af 1) (Ce w y)
def zZ(ad:Ad):Sd:=aD ["case","plan","sound","unsettled"] (Gi ad)
theorem RL:zZ ad [a] M Q E=Gi ad (aJ E) Q⁻¹ [ap a,bb,bb,bb] M:=rfl
def zy(w:Ad)(y:DX):ar:=az (ah av (ao<|aj (yv w) y 2<|aa (ac 0)<|aa (ac 3) ag) ¬0)
def qP(w:Ad)(y:DX):ar:=az (oi (al<|ah Fl (ac 4)<|aV w.C_Going (ac 1) "unsettled") (ac 4)<|dC .non)
def rg(w:Ad)(y:DX):ar:=ai (aq (ao<|aj (mv w) y 3<|aa (ac 0)<|aa (aV w.C_Going (ac 1) "numbers")<|aa (ac 2) ag)<|af 4) (qP w y)
def m3(w:Ad)(y:DX):ar:=ai (aE (cq<|ac 3) (zy w y) aB) (rg w y)
def z0(w:Ad)(y:DX):ar:=ai (dg (fG 3<|aO (bE<|ao<|aj (zn w) y 1<|aa (ac 2) ag) ["name"] [1] (af 0) (al<|ah vI (ac 0)<|aV w.C_Going (ac 1) "unsettled")<|ac 0) 3) (m3 w y)
def yf(w:Ad)(y:DX):ar:=ai (aE (fH<|cq<|aV w.C_Going (ac 1) "unsettled") (az<|dC .non) aB) (z0 w y)
def As(ad:Ad):Sd:=aD ["plan","going","row","found","piece"] (yf ad)
theorem SO:As ad [c,a,b] M Q E=yf ad (aJ E) Q⁻¹ [ap c,ap a,ap b,bb,bb] M:=rfl
def AR(w:Ad)(y:DX):ar:=cA w.C_Going (ac 1) (ao<|aj (nG w) y 2<|aa (oi (al<|ah bR (ah av (aV w.C_Going (ac 1) "numbers")<|ah av (ac 2) ¬1) ¬0) (ah av (ac 2) ¬3)<|ah av (ac 2) ¬2)<|aa (aV w.C_Going (ac 1) "todo") ag) "todo"
def yW(w:Ad)(y:DX):ar:=cA w.C_Going (ac 1) (ao<|aj (nG w) y 2<|aa (ah av (ac 2) ¬2)<|aa (aU<|aa (ac 2)<|aa (aV w.C_Going (ac 1) "todo") ag) ag) "todo"
def zP(w:Ad)(y:DX):ar:=aE (al<|ah pG (ah av (aV w.C_Going (ac 1) "numbers")<|ah av (ac 2) ¬1) ¬0) (yW w y) aB
def tT(w:Ad)(y:DX):ar:=b6 (GQ (aV w.C_Going (ac 1) "unsettled") (ah av (ac 2) ¬1)<|dC .non)
def gY(w:Ad)(y:DX):ar:=ai (aq (ao<|aj (nq w) y 4<|aa (ac 0)<|aa (aV w.C_Going (ac 1) "numbers")<|aa (aV w.C_Going (ac 1) "pieces")<|aa (ac 2) ag)<|cW (aV w.C_Going (ac 1) "numbers")<|ah av (ac 2) ¬1) (tT w y)
def C9(w:Ad)(y:DX):ar:=aE (al<|ah bR (ah av (ac 2) ¬0) ¬"again") (zP w y) (gY w y)
def B6(w:Ad)(y:DX):ar:=aE (al<|ah bR (ah av (ac 2) ¬0) ¬"if") (AR w y) (C9 w y)
def qU(w:Ad)(y:DX):ar:=ai (cA w.C_Going (ac 1) (ah av (aV w.C_Going (ac 1) "todo") ¬1) "todo") (B6 w y)
def BE(w:Ad)(y:DX):ar:=ai (rY w.C_Going (ac 1) (¬1) "left") (qU w y)
def Av(ad:Ad):Sd:=aD ["plan","going","row"] (BE ad)
theorem Rr:Av ad [c,a,b] M Q E=BE ad (aJ E) Q⁻¹ [ap c,ap a,ap b] M:=rfl
def tu(w:Ad)(y:DX):ar:=b6 (aj (Av w) y 3<|aa (ac 0)<|aa (ac 1)<|aa (ac 2) ag)
def sW(w:Ad)(y:DX):ar:=ai (aE (al<|ah fk (ac 3)<|dC .non) (az<|ac 3) aB) (tu w y)
def sg(w:Ad)(y:DX):ar:=ai (aq (ao<|aj (As w) y 3<|aa (ac 0)<|aa (ac 1)<|aa (ac 2) ag)<|af 3) (sW w y)
def sO(w:Ad)(y:DX):ar:=ai (aq (ah av (aV w.C_Going (ac 1) "todo") ¬0)<|af 2) (sg w y)
def h8(w:Ad)(y:DX):ar:=ai (aE (al<|ah oLe (aV w.C_Going (ac 1) "left") ¬0) (az<|dC .non) aB) (sO w y)
def sR(w:Ad)(y:DX):ar:=az (oi (al<|ah vI (ah av (ac 0) ¬4)<|aV w.C_Going (ac 1) "unsettled") (ah av (ac 0) ¬4)<|dC .non)
def Hq(w:Ad)(y:DX):ar:=ai (qI (al<|ah fk (aV w.C_Going (ac 1) "todo")<|dC .non)<|h8 w y) (sR w y)
def yk(ad:Ad):Sd:=aD ["plan","going","row","asked"] (Hq ad)
theorem u_q65:yk ad [b,a] M Q E=Hq ad (aJ E) Q⁻¹ [ap b,ap a,bb,bb] M:=rfl
def BD(w:Ad)(y:DX):ar:=az (oi (al<|ah kX (aV w.C_Going (ac 1) "todo")<|dC .non) (ah av (aV w.C_Going (ac 1) "numbers")<|ah av (ac 0) ¬4)<|dC .non)
def AF(ad:Ad):Sd:=aD ["plan","going"] (BD ad)
theorem T0:AF ad [b,a] M Q E=BD ad (aJ E) Q⁻¹ [ap b,ap a] M:=rfl
def A6(w:Ad)(y:DX):ar:=az (aO (bE<|ao<|DY (ac 0) (fg ¬1)<|fg ¬3) ["stand"] [2,1,0] (af 0) cP<|ao<|dm w.C_Going "settled" (HW w) iS 3 (ac 2)<|aa (ac 1)<|aa (ao<|aj (oG w) iS 3<|aa (ah av (ac 3) ¬0)<|aa (ac 0)<|aa (ac 1) ag) ag)
def BS(ad:Ad):Sd:=aD ["case","going","thing"] (A6 ad)
theorem Sz:BS ad [c,a,b] M Q E=A6 ad (aJ E) Q⁻¹ [ap c,ap a,ap b] M:=rfl
def zK(w:Ad)(Zg:Sd)(y:DX):ar:=az (aU<|aa (¬"end")<|aa (aj (AF w) y 2<|aa (ah av (ac 0) ¬0)<|aa (ac 1) ag) ag)
def zV(w:Ad)(Zg:Sd)(y:DX):ar:=az (aU<|aa (¬"ask")<|aa (ac 3)<|aa (aj Zg y 3<|aa (ac 0)<|aa (ah av (ac 4) ¬0)<|aa (ac 2) ag)<|aa (aj Zg y 3<|aa (ac 0)<|aa (ah av (ac 4) ¬1)<|aa (ac 2) ag) ag)
def A5(w:Ad)(Zg:Sd)(y:DX):ar:=ai (aq (ao<|aj (BS w) y 3<|aa (ac 0)<|aa (ac 1)<|aa (ac 3) ag)<|af 4) (zV w Zg y)
def zu(w:Ad)(Zg:Sd)(y:DX):ar:=ai (b6<|dm w.C_Ends "one_more" (GW w) y 1 (ac 2) ag) (A5 w Zg y)
def sS(w:Ad)(Zg:Sd)(y:DX):ar:=ai (aE (al<|ah kX (ac 3)<|dC .non) (zK w Zg y) aB) (zu w Zg y)
def Bk(w:Ad)(Zg:Sd)(y:DX):ar:=ai (aq (ao<|aj (yk w) y 2<|aa (ah av (ac 0) ¬0)<|aa (ac 1) ag)<|af 3) (sS w Zg y)
def Zg(ad:Ad):Nat->Sd
 |0=>λ_ _ _ _=>False
 |n+1=>aD ["case","going","ends","asked","ways"] (Bk ad<|Zg ad n)
theorem Tf{n:Nat}:Zg ad (n+1) [c,a,b] M Q E=Bk ad (Zg ad n) (aJ E) Q⁻¹ [ap c,ap a,ap b,bb,bb] M:=rfl
def yD(w:Ad)(y:DX):ar:=az (aj (Zg w 24) y 3<|aa (ac 0)<|aa (ao<|aj (zZ w) y 1<|aa (ac 0) ag)<|aa (ac 2) ag)
def AN(w:Ad)(y:DX):ar:=ai (b6<|dm w.C_Ends "one_more" (GW w) y 1 (ac 2) ag) (yD w y)
def Br(w:Ad)(y:DX):ar:=ai (aq (iq w.C_Ends (QD w) y 2<|aa (ac 1) ag)<|af 2) (AN w y)
def FJ(w:Ad)(y:DX):ar:=ai (b6<|aj (vU w) y 1<|aa (ac 0) ag) (Br w y)
def yn(ad:Ad):Sd:=aD ["case","limit","ends"] (FJ ad)
theorem u_q67:yn ad [b,a] M Q E=FJ ad (aJ E) Q⁻¹ [ap b,ap a,bb] M:=rfl
def Fs(w:Ad)(y:DX):ar:=ai (cA w.C_Outcome (ac 0) (ac 2) "sound") (cA w.C_Outcome (ac 0) (ac 3) "faulty")
def Lp(w:Ad)(y:DX):ar:=ai (cA w.C_Outcome (ac 0) (ac 1) "verdict") (Fs w y)
def KD(ad:Ad):Sd:=aD ["self","verdict","sound","faulty"] (Lp ad)
theorem u_q0:KD ad [e,a,b,c] M Q E=Lp ad (aJ E) Q⁻¹ [ap e,ap a,ap b,ap c] M:=rfl
def rj(w:Ad)(y:DX):ar:=b6 (iN "list" bf (ac 4)<|aa (iq w.C_Outcome (KD w) y 4<|aa (ao<|aj (C7 w) y 2<|aa (ac 2)<|aa (ah av (ah av (ac 6) ¬0) ¬1) ag)<|aa (ac 7)<|aa (ac 8) ag) ag)
def tO(w:Ad)(y:DX):ar:=b6 (iN "list" bf (ac 5)<|aa (aU<|aa (ah av (ah av (ac 6) ¬0) ¬3)<|aa (ac 7)<|aa (ah oOr (ac 8)<|ac 9) ag) ag)
def rT(w:Ad)(y:DX):ar:=ai (b6<|iN "list" bf (ac 5)<|aa (aU<|aa (ah av (ah av (ac 6) ¬0) ¬2)<|aa (ah oOr (ac 7)<|ac 9)<|aa (ac 8) ag) ag) (tO w y)
def qJ(w:Ad)(y:DX):ar:=ai (aq (ah av (ac 3)<|ah av (ah av (ac 6) ¬0) ¬1)<|af 9) (rT w y)
def sX(w:Ad)(y:DX):ar:=aE (al<|ah bR (ah av (ah av (ac 6) ¬0) ¬0) ¬"end") (rj w y) (qJ w y)
def tH(w:Ad)(y:DX):ar:=ai (aq (ah av (ac 6) ¬2)<|af 8) (sX w y)
def qM(w:Ad)(y:DX):ar:=ai (aq (ah av (ac 6) ¬1)<|af 7) (tH w y)
def h7(w:Ad)(y:DX):ar:=ai (aq (iN "list" DC (ac 5) ag)<|af 6) (qM w y)
def z5(w:Ad)(y:DX):ar:=ai (qI (cq<|ac 5)<|h7 w y) (az<|ac 4)
def uC(w:Ad)(y:DX):ar:=ai (aq (bw<|aa (aU<|aa (aj (yn w) y 2<|aa (ac 0)<|aa (ac 1) ag)<|aa (¬0)<|aa (¬0) ag) ag)<|af 5) (z5 w y)
def vT(w:Ad)(y:DX):ar:=ai (aq (bn gl<|aa (ao<|aO (vA<|aa (ao<|aj (pO w) y 1<|aa (ac 0) ag) ag) ["number","thing"] [] (dk 2<|aM (af 0)<|aM (af 1) da) cP<|aU<|aa (ac 1)<|aa (ah Rf (¬1)<|ac 0) ag) ag)<|af 3) (ai (aq (bw ag)<|af 4)<|uC w y)
def G3(w:Ad)(y:DX):ar:=ai (aq (ao<|aj (vU w) y 1<|aa (ac 0) ag)<|af 2) (vT w y)
def yR(ad:Ad):Sd:=aD ["case","limit","two","bit_of","found","waiting","here","sound","faulty","bit"] (G3 ad)
theorem u_q48:yR ad [b,a] M Q E=G3 ad (aJ E) Q⁻¹ [ap b,ap a,bb,bb,bb,bb,bb,bb,bb,bb] M:=rfl
def AD(w:Ad)(y:DX):ar:=az (aO (fb<|aa (iN "int" tK (ac 0) ag) ag) ["number"] [0] (af 0) (al<|ah bR (ah F5 (ah Sh (ac 1)<|ac 0) ¬1) ¬1)<|ac 0)
def ki(ad:Ad):Sd:=aD ["bits"] (AD ad)
theorem Rz:ki ad [a] M Q E=AD ad (aJ E) Q⁻¹ [ap a] M:=rfl
def BR(w:Ad)(y:DX):ar:=az (aO (bE<|ao<|aj (ki w) y 1<|aa (ac 1) ag) ["number"] [0] (af 0) cP<|ah av (ac 1)<|ac 0)
def oN(ad:Ad):Sd:=aD ["things","bits"] (BR ad)
theorem Tb:oN ad [b,a] M Q E=BR ad (aJ E) Q⁻¹ [ap b,ap a] M:=rfl
def Hk(w:Ad)(y:DX):ar:=az (aO (bE<|ao<|aj (yR w) y 2<|aa (ac 0)<|aa (ac 1) ag) ["one"] [] (af 0) (al<|ah bR (aV w.C_Outcome (ac 0) "verdict") ¬"faulty")<|aV w.C_Outcome (ac 0) "faulty")
def A7(ad:Ad):Sd:=aD ["case","limit"] (Hk ad)
theorem u_q24:A7 ad [b,a] M Q E=Hk ad (aJ E) Q⁻¹ [ap b,ap a] M:=rfl
def ic(w:Ad)(y:DX):ar:=aE (fH<|cq<|bn Jc<|aa (ao<|aO (bE<|ac 1) ["held"] [2] (af 0) cP<|ah bR (ah F5 (ac 0)<|ac 1)<|ac 0) ag) (b6<|iN "list" bf (ac 1)<|aa (ac 2) ag) aB
def lR(w:Ad)(y:DX):ar:=ai (cV (bE<|ao<|bn iQ<|aa (ac 0) ag) (af 2)<|ic w y) (az<|ac 1)
def Ch(w:Ad)(y:DX):ar:=ai (aq (bw ag)<|af 1) (lR w y)
def BM(ad:Ad):Sd:=aD ["many","found","bits"] (Ch ad)
theorem RE:BM ad [a] M Q E=Ch ad (aJ E) Q⁻¹ [ap a,bb,bb] M:=rfl
def rf(w:Ad)(y:DX):ar:=az (aO (bE<|ao<|bn (gx<|ki w)<|aa (ac 1) ag) ["bits"] [2] (af 0) cP<|aj (oN w) iS 2<|aa (ac 1)<|aa (ac 0) ag)
def IN(w:Ad)(y:DX):ar:=ai (aq (aj (pO w) y 1<|aa (ac 0) ag)<|af 2) (rf w y)
def Jt(ad:Ad):Sd:=aD ["case","many","things"] (IN ad)
theorem u_q1:Jt ad [b,a] M Q E=IN ad (aJ E) Q⁻¹ [ap b,ap a,bb] M:=rfl
def Ak(w:Ad)(y:DX):ar:=az (aj (Jt w) y 2<|aa (ac 0)<|aa (ao<|aj (BM w) y 1<|aa (ao<|aj (A7 w) y 2<|aa (ac 0)<|aa (ac 1) ag) ag) ag)
def pL(ad:Ad):Sd:=aD ["case","limit"] (Ak ad)
theorem Sb:pL ad [b,a] M Q E=Ak ad (aJ E) Q⁻¹ [ap b,ap a] M:=rfl
def Ac(w:Ad)(y:DX):ar:=ai (aq (ah g7 (ah jA (ah Tt (ac 2)<|ah vK (ac 2) ¬2147483648) ¬2685821657736338717) ¬18446744073709551616)<|af 2) (az<|ah vK (ac 2) ¬1048576)
def Bj(w:Ad)(y:DX):ar:=ai (aq (ah g7 (ah bc (ah bc (ah jA (ac 0) ¬6364136223846793005)<|ah jA (ac 1) ¬1442695040888963407) ¬97) ¬18446744073709551616)<|af 2) (Ac w y)
def mZ(ad:Ad):Sd:=aD ["cell","turn","one"] (Bj ad)
theorem Su:mZ ad [b,a] M Q E=Bj ad (aJ E) Q⁻¹ [ap b,ap a,bb] M:=rfl
def Bw(w:Ad)(y:DX):ar:=aq (ah g7 (ah bc (ah jA (ac 1) ¬1000003)<|ac 2) ¬18446744073709551616) (af 1)
def Ci(w:Ad)(y:DX):ar:=az (bw<|aa (bn eG<|aa (ao<|DY (ac 0) cJ<|fg ¬63) ag)<|aa (¬0)<|aa (¬0)<|aa (ac 1) ag)
def AU(w:Ad)(y:DX):ar:=ai (cV (bE<|ao<|DY (ac 0) cJ<|fg ¬63) (af 2)<|Bw w y) (Ci w y)
def BU(w:Ad)(y:DX):ar:=ai (aq (¬7)<|af 1) (AU w y)
def BL(ad:Ad):Sd:=aD ["script","seed","cell"] (BU ad)
theorem Ru:BL ad [a] M Q E=BU ad (aJ E) Q⁻¹ [ap a,bb,bb] M:=rfl
def zC(w:Ad)(y:DX):ar:=az (ah g7 (ao<|aj (mZ w) y 2<|aa (ac 2)<|aa (ah av (ac 0) ¬1) ag)<|ac 1)
def yy(w:Ad)(y:DX):ar:=ai (aE (al<|ah DL (ac 2)<|ah Q0 (¬10) ¬18) (zC w y) aB) (aq (ac 2)<|cW (ac 0) ¬2)
def zG(w:Ad)(y:DX):ar:=ai (aq (iN "list" DC (ah av (ac 0) ¬0)<|aa (¬0) ag)<|af 2) (yy w y)
def Aq(w:Ad)(y:DX):ar:=az (ah g7 (ao<|aj (mZ w) y 2<|aa (ah av (ac 0) ¬3)<|aa (ah av (ac 0) ¬1) ag)<|ac 1)
def Cj(w:Ad)(y:DX):ar:=ai (aq (ah vK (ah av (ac 0) ¬2)<|ac 1)<|cW (ac 0) ¬2) (az<|ac 3)
def Ar(w:Ad)(y:DX):ar:=ai (aq (ah g7 (ah av (ac 0) ¬2)<|ac 1)<|af 3) (Cj w y)
def BH(w:Ad)(y:DX):ar:=ai (aE (al<|ah bR (ah av (ac 0) ¬2) ¬0) (Aq w y) aB) (Ar w y)
def y_(w:Ad)(y:DX):ar:=ai (aE (kQ (al<|ah bR (ah av (ac 0) ¬2) ¬0)<|al<|ah pG (ah av (ac 0) ¬0)<|ao<|bw ag) (zG w y) aB) (BH w y)
def EU(w:Ad)(y:DX):ar:=ai (aq (ah bc (ah av (ac 0) ¬1) ¬1)<|cW (ac 0) ¬1) (y_ w y)
def aZ(ad:Ad):Sd:=aD ["pot","many","cell","found"] (EU ad)
theorem u_q44:aZ ad [b,a] M Q E=EU ad (aJ E) Q⁻¹ [ap b,ap a,bb,bb] M:=rfl
def B7(w:Ad)(y:DX):ar:=b6 (iN "list" bf (ac 3)<|aa (ah jA (ac 5)<|ah bc (¬1)<|ao<|aj (aZ w) y 2<|aa (ac 0)<|aa (¬8) ag) ag)
def zo(w:Ad)(y:DX):ar:=ai (aq (ah av (¬"abcdefghijklmnopqrstuvwxyz")<|ah g7 (ah bc (ac 2)<|ah jA (¬7)<|ac 4) ¬26)<|af 5) (B7 w y)
def z4(w:Ad)(y:DX):ar:=ai (cV (fb<|aa (ac 1) ag) (af 4)<|zo w y) (az<|bn b_<|aa (ac 3) ag)
def BQ(w:Ad)(y:DX):ar:=ai (aq (ao<|aj (aZ w) y 2<|aa (ac 0)<|aa (¬26) ag)<|af 2) (ai (aq (bw ag)<|af 3)<|z4 w y)
def AG(ad:Ad):Sd:=aD ["pot","many","turn","names","k","sign"] (BQ ad)
theorem RJ:AG ad [b,a] M Q E=BQ ad (aJ E) Q⁻¹ [ap b,ap a,bb,bb,bb,bb] M:=rfl
def zU(w:Ad)(y:DX):ar:=az (aU<|aa (ac 6)<|aa (ac 7)<|aa (aj (aZ w) y 2<|aa (ac 0)<|aa (ac 2) ag) ag)
def BK(w:Ad)(y:DX):ar:=az (aU<|aa (ac 6)<|aa (ac 7)<|aa (aj (aZ w) y 2<|aa (ac 0)<|aa (ac 4) ag) ag)
def B0(w:Ad)(y:DX):ar:=az (aU<|aa (ac 6)<|aa (ac 7)<|aa (ac 8) ag)
def Bl(w:Ad)(y:DX):ar:=az (aU<|aa (ac 6)<|aa (ac 7)<|aa (ac 8)<|aa (ah av (ac 3)<|ao<|aj (aZ w) y 2<|aa (ac 0)<|aa (bn cC<|aa (ac 3) ag) ag) ag)
def Bc(w:Ad)(y:DX):ar:=ai (aE (al<|ah bR (ac 6) ¬"pick") (B0 w y) aB) (Bl w y)
def BB(w:Ad)(y:DX):ar:=ai (aq (ah av (ac 3)<|ao<|aj (aZ w) y 2<|aa (ac 0)<|aa (bn cC<|aa (ac 3) ag) ag)<|af 8) (Bc w y)
def zq(w:Ad)(y:DX):ar:=ai (aE (al<|ah bR (ac 6) ¬"take") (BK w y) aB) (BB w y)
def BW(w:Ad)(y:DX):ar:=ai (aE (al<|ah bR (ac 6) ¬"put") (zU w y) aB) (zq w y)
def yb(w:Ad)(y:DX):ar:=ai (aq (ah av (ac 3)<|ao<|aj (aZ w) y 2<|aa (ac 0)<|aa (bn cC<|aa (ac 3) ag) ag)<|af 7) (BW w y)
def uo(w:Ad)(y:DX):ar:=ai (aq (ah av (ac 5)<|ao<|aj (aZ w) y 2<|aa (ac 0)<|aa (oi (al<|ah JN (ac 4) ¬0) (¬9) ¬7) ag)<|af 6) (yb w y)
def ua(w:Ad)(y:DX):ar:=ai (aq (ao<|bw<|aa (¬"put")<|aa (¬"sum")<|aa (¬"by")<|aa (¬"less")<|aa (¬"same")<|aa (¬"sum")<|aa (¬"put")<|aa (¬"take")<|aa (¬"pick") ag)<|af 5) (uo w y)
def BX(w:Ad)(y:DX):ar:=ai (aq (ac 1)<|dk 3<|aM (af 2)<|aM (af 3)<|aM (af 4) da) (ua w y)
def uv(ad:Ad):Sd:=aD ["pot","told","m","names","many","ways","way","x","y"] (BX ad)
theorem RK:uv ad [b,a] M Q E=BX ad (aJ E) Q⁻¹ [ap b,ap a,bb,bb,bb,bb,bb,bb,bb] M:=rfl
def yz(w:Ad)(Y9 Y8:Sd)(y:DX):ar:=az (bw<|aa (aU<|aa (¬"if")<|aa (ac 7)<|aa (ac 8)<|aa (aj Y8 y 5<|aa (ac 0)<|aa (ac 1)<|aa (ac 2)<|aa (ah bc (ac 3) ¬1)<|aa (¬5) ag) ag) ag)
def yr(w:Ad)(Y9 Y8:Sd)(y:DX):ar:=az (bw<|aa (aU<|aa (¬"again")<|aa (ac 7)<|aa (ac 8) ag) ag)
def zM(w:Ad)(Y9 Y8:Sd)(y:DX):ar:=az (bw<|aa (aU<|aa (¬"put")<|aa (ac 7)<|aa (aj (aZ w) y 2<|aa (ac 0)<|aa (bn F9<|aa (ac 4)<|aa (¬9) ag) ag) ag)<|aa (aU<|aa (¬"put")<|aa (ac 10)<|aa (ah ph (ac 4) ¬1) ag)<|aa (aU<|aa (¬"again")<|aa (ac 7)<|aa (ah bc (ac 8)<|aU<|aa (aU<|aa (¬"sum")<|aa (ac 7)<|aa (ac 7)<|aa (ac 10) ag) ag) ag) ag)
def AK(w:Ad)(Y9 Y8:Sd)(y:DX):ar:=ai (aq (ah av (ac 5)<|ao<|aj (aZ w) y 2<|aa (ac 0)<|aa (bn cC<|aa (ac 5) ag) ag)<|af 10) (zM w Y9 Y8 y)
def yH(w:Ad)(Y9 Y8:Sd)(y:DX):ar:=ai (aE (al<|ah bR (ac 9) ¬2) (yr w Y9 Y8 y) aB) (AK w Y9 Y8 y)
def Bt(w:Ad)(Y9 Y8:Sd)(y:DX):ar:=ai (aE (al<|ah DL (ac 9) ¬2) (yz w Y9 Y8 y) aB) (yH w Y9 Y8 y)
def ye(w:Ad)(Y9 Y8:Sd)(y:DX):ar:=ai (aq (ao<|aj (aZ w) y 2<|aa (ac 0)<|aa (¬5) ag)<|af 9) (Bt w Y9 Y8 y)
def B5(w:Ad)(Y9 Y8:Sd)(y:DX):ar:=ai (aq (ao<|aj Y8 y 5<|aa (ac 0)<|aa (ac 1)<|aa (ac 2)<|aa (ah bc (ac 3) ¬1)<|aa (¬5) ag)<|af 8) (ye w Y9 Y8 y)
def AL(w:Ad)(Y9 Y8:Sd)(y:DX):ar:=ai (aq (ah av (ac 5)<|ao<|aj (aZ w) y 2<|aa (ac 0)<|aa (bn cC<|aa (ac 5) ag) ag)<|af 7) (B5 w Y9 Y8 y)
def Al(w:Ad)(Y9 Y8:Sd)(y:DX):ar:=ai (aq (ac 1)<|dk 3<|aM (af 4)<|aM (af 5)<|aM (af 6) da) (AL w Y9 Y8 y)
def Bv(w:Ad)(Y9 Y8:Sd)(y:DX):ar:=aq (ah bc (ac 5)<|ao<|aj Y9 y 4<|aa (ac 0)<|aa (ac 1)<|aa (ac 2)<|aa (ac 3) ag) (af 5)
def yu(w:Ad)(Y9 Y8:Sd)(y:DX):ar:=ai (aq (ah ph (ah av (ac 2) ¬0) ¬4)<|cW (ac 2) ¬0) (Bv w Y9 Y8 y)
def yX(w:Ad)(Y9 Y8:Sd)(y:DX):ar:=b6 (iN "list" bf (ac 5)<|aa (ao<|aj (uv w) y 2<|aa (ac 0)<|aa (ac 1) ag) ag)
def z6(w:Ad)(Y9 Y8:Sd)(y:DX):ar:=ai (aq (ah ph (ah av (ac 2) ¬0) ¬1)<|cW (ac 2) ¬0) (yX w Y9 Y8 y)
def Ay(w:Ad)(Y9 Y8:Sd)(y:DX):ar:=aE (al<|ah JN (ah av (ac 2) ¬0) ¬0) (z6 w Y9 Y8 y) aB
def AI(w:Ad)(Y9 Y8:Sd)(y:DX):ar:=aE (kQ (al<|ah JN (ah av (ac 2) ¬0) ¬4)<|kQ (al<|ah DL (ac 3) ¬4)<|al<|ah bR (ao<|aj (aZ w) y 2<|aa (ac 0)<|aa (¬4) ag) ¬0) (yu w Y9 Y8 y) (Ay w Y9 Y8 y)
def yC(w:Ad)(Y9 Y8:Sd)(y:DX):ar:=ai (cV (fb<|aa (ao<|aj (aZ w) y 2<|aa (ac 0)<|aa (ac 4) ag) ag) (af 6)<|AI w Y9 Y8 y) (az<|bn b_<|aa (ac 5) ag)
def Aj(w:Ad)(Y9 Y8:Sd)(y:DX):ar:=ai (aq (bw ag)<|af 5) (yC w Y9 Y8 y)
mutual
noncomputable def Y9(ad:Ad):Nat->Sd
 |0=>λ_ _ _ _=>False
 |n+1=>aD ["pot","told","room","deep","m","names","many","x","first","way","y"] (Al ad (Y9 ad n)<|Y8 ad n)
noncomputable def Y8(ad:Ad):Nat->Sd
 |0=>λ_ _ _ _=>False
 |n+1=>aD ["pot","told","room","deep","most","rows","k"] (Aj ad (Y9 ad n)<|Y8 ad n)
end
theorem T7{n:Nat}:Y9 ad (n+1) [e,a,b,c] M Q E=Al ad (Y9 ad n) (Y8 ad n) (aJ E) Q⁻¹ [ap e,ap a,ap b,ap c,bb,bb,bb,bb,bb,bb,bb] M:=rfl
theorem Se{n:Nat}:Y8 ad (n+1) [b,e,c,a,f] M Q E=Aj ad (Y9 ad n) (Y8 ad n) (aJ E) Q⁻¹ [ap b,ap e,ap c,ap a,ap f,bb,bb] M:=rfl
def AA(w:Ad)(y:DX):ar:=az (aU<|aa (ac 2)<|aa (ac 3)<|aa (ac 4)<|aa (ac 5)<|aa (ah av (ac 3)<|ao<|aj (aZ w) y 2<|aa (ac 0)<|aa (bn cC<|aa (ac 3) ag) ag) ag)
def Cd(w:Ad)(y:DX):ar:=ai (aq (ao<|aj (Y8 w 24) y 5<|aa (ac 0)<|aa (aU<|aa (ac 2)<|aa (ac 3)<|aa (ac 4) ag)<|aa (bw<|aa (ac 1) ag)<|aa (¬0)<|aa (ah av (ao<|bw<|aa (¬6)<|aa (¬12)<|aa (¬30) ag)<|ao<|aj (aZ w) y 2<|aa (ac 0)<|aa (¬3) ag) ag)<|af 5) (AA w y)
def Aw(w:Ad)(y:DX):ar:=ai (aq (ah av (ao<|bw<|aa (¬0)<|aa (ah bc (¬1)<|ao<|aj (aZ w) y 2<|aa (ac 0)<|aa (¬4) ag)<|aa (ao<|aj (aZ w) y 2<|aa (ac 0)<|aa (¬41) ag) ag)<|ao<|aj (aZ w) y 2<|aa (ac 0)<|aa (¬3) ag)<|af 4) (Cd w y)
def AH(w:Ad)(y:DX):ar:=ai (aq (ao<|aj (AG w) y 2<|aa (ac 0)<|aa (ah bc (¬1)<|ao<|aj (aZ w) y 2<|aa (ac 0)<|aa (ah av (ao<|bw<|aa (¬3)<|aa (¬5)<|aa (¬12) ag)<|ao<|aj (aZ w) y 2<|aa (ac 0)<|aa (¬3) ag) ag) ag)<|af 3) (Aw w y)
def Ab(w:Ad)(y:DX):ar:=ai (aq (ah av (ao<|bw<|aa (¬2)<|aa (¬3)<|aa (ah bc (¬2)<|ao<|aj (aZ w) y 2<|aa (ac 0)<|aa (¬9) ag)<|aa (ah bc (¬2)<|ao<|aj (aZ w) y 2<|aa (ac 0)<|aa (¬996) ag) ag)<|ao<|aj (aZ w) y 2<|aa (ac 0)<|aa (¬4) ag)<|af 2) (AH w y)
def BV(ad:Ad):Sd:=aD ["pot","most","m","names","many","rows"] (Ab ad)
theorem S4:BV ad [b,a] M Q E=Ab ad (aJ E) Q⁻¹ [ap b,ap a,bb,bb,bb,bb] M:=rfl
def yI(w:Ad)(y:DX):ar:=az (aU<|aa (ac 2)<|aa (bn b_<|aa (ao<|aO (fb<|aa (ah av (ac 1) ¬2) ag) ["k"] [0,1] (af 0) cP<|ao<|aj (aZ w) iS 2<|aa (ac 1)<|aa (ah av (ac 2) ¬0) ag) ag) ag)
def HE(w:Ad)(y:DX):ar:=ai (aq (bn b_<|aa (ao<|aO (bE<|ah av (ac 1) ¬1) ["name"] [0,1] (af 0) cP<|ao<|aj (aZ w) iS 2<|aa (ac 1)<|aa (ah av (ac 2) ¬0) ag) ag)<|af 2) (yI w y)
def zF(ad:Ad):Sd:=aD ["pot","plan","numbers"] (HE ad)
theorem u_q31:zF ad [b,a] M Q E=HE ad (aJ E) Q⁻¹ [ap b,ap a,bb] M:=rfl
def Bu(w:Ad)(y:DX):ar:=az (ah av (ac 3)<|ah g7 (ah av (ac 2)<|ah av (ac 1) ¬2)<|bn cC<|aa (ac 3) ag)
def AJ(w:Ad)(y:DX):ar:=az (ah g7 (ao<|ah bc (ac 7)<|ac 8)<|ac 6)
def A1(w:Ad)(y:DX):ar:=az (oi (al<|ah DL (ac 7)<|ac 8) (¬1) ¬0)
def yc(w:Ad)(y:DX):ar:=az (oi (al<|ah bR (ac 7)<|ac 8) (¬1) ¬0)
def zb(w:Ad)(y:DX):ar:=ai (aE (al<|ah bR (ah av (ac 1) ¬0) ¬"less") (A1 w y) aB) (yc w y)
def AZ(w:Ad)(y:DX):ar:=ai (aE (al<|ah bR (ah av (ac 1) ¬0) ¬"by") (az<|ah g7 (ah jA (ac 7)<|ac 8)<|ac 6) aB) (zb w y)
def C2(w:Ad)(y:DX):ar:=ai (aE (al<|ah bR (ah av (ac 1) ¬0) ¬"sum") (AJ w y) aB) (AZ w y)
def yL(w:Ad)(y:DX):ar:=ai (aq (ah av (ac 2)<|ah av (ac 1) ¬3)<|af 8) (C2 w y)
def A_(w:Ad)(y:DX):ar:=ai (aq (ah av (ac 2)<|ah av (ac 1) ¬2)<|af 7) (yL w y)
def vp(w:Ad)(y:DX):ar:=ai (aE (al<|ah bR (ah av (ac 1) ¬0) ¬"pick") (Bu w y) aB) (A_ w y)
def uq(w:Ad)(y:DX):ar:=ai (aE (al<|ah bR (ah av (ac 1) ¬0) ¬"take") (az<|ah av (ac 3)<|ah av (ac 1) ¬2) aB) (vp w y)
def vY(w:Ad)(y:DX):ar:=ai (aE (al<|ah bR (ah av (ac 1) ¬0) ¬"put") (az<|ah av (ac 1) ¬2) aB) (uq w y)
def nP(w:Ad)(y:DX):ar:=ai (aq (ac 0)<|Dh 5<|aM (af 2)<|aM (af 3)<|aM (af 4)<|aM (af 5)<|aM (af 6) da) (vY w y)
def vf(ad:Ad):Sd:=aD ["gone","row","numbers","pieces","steps","most","m","one","other"] (nP ad)
theorem BC:vf ad [b,a] M Q E=nP ad (aJ E) Q⁻¹ [ap b,ap a,bb,bb,bb,bb,bb,bb,bb] M:=rfl
def yG(w:Ad)(y:DX):ar:=ai (b6<|iN "list" bf (ah av (ac 0) ¬2)<|aa (aU<|aa (ac 1)<|aa (ac 2) ag) ag) (az<|dC<|.bl true)
def AW(w:Ad)(y:DX):ar:=ai (aE (al<|ah bR (bn cC<|aa (ah av (ac 0) ¬2) ag)<|ah av (ac 0) ¬3) (az<|dC<|.bl cp) aB) (yG w y)
def ka(ad:Ad):Sd:=aD ["gone","place","number"] (AW ad)
theorem TJ:ka ad [c,a,b] M Q E=AW ad (aJ E) Q⁻¹ [ap c,ap a,ap b] M:=rfl
def qZ(w:Ad)(Zb Y7:Sd)(y:DX):ar:=aE (fH<|cq<|ao<|aj Y7 y 3<|aa (ac 0)<|aa (ah av (ac 1) ¬2)<|aa (ah bc (ac 2)<|aU<|aa (ac 3) ag) ag) (az<|dC<|.bl cp) aB
def yj(w:Ad)(Zb Y7:Sd)(y:DX):ar:=ai (aE (al<|ah bR (ac 4) ¬0) (az<|dC<|.bl true) aB) (qZ w Zb Y7 y)
def sw(w:Ad)(Zb Y7:Sd)(y:DX):ar:=ai (aE (fH<|cq<|ao<|aj (ka w) y 3<|aa (ac 0)<|aa (ah bc (ac 2)<|aU<|aa (ac 3) ag)<|aa (ac 4) ag) (az<|dC<|.bl cp) aB) (yj w Zb Y7 y)
def lQ(w:Ad)(Zb Y7:Sd)(y:DX):ar:=ai (aq (oi (al<|ah bR (ah av (ah av (ac 0) ¬0)<|ah av (ac 1) ¬1) ¬0) (¬0) ¬1)<|af 4) (sw w Zb Y7 y)
def Ah(w:Ad)(Zb Y7:Sd)(y:DX):ar:=ai (cV (fb<|aa (ah bc (ah av (ac 0) ¬3) ¬1) ag) (af 3)<|lQ w Zb Y7 y) (az<|dC<|.bl cp)
def sx(w:Ad)(Zb Y7:Sd)(y:DX):ar:=aE (fH<|cq<|ao<|aj Zb y 3<|aa (ac 0)<|aa (ac 4)<|aa (ac 5) ag) (az<|dC<|.bl cp) aB
def rP(w:Ad)(Zb Y7:Sd)(y:DX):ar:=aE (QN (fH<|cq<|ao<|aj (ka w) y 3<|aa (ac 0)<|aa (ac 5)<|aa (ac 6) ag)<|fH<|cq<|ao<|aj Y7 y 3<|aa (ac 0)<|aa (ac 7)<|aa (ah bc (ac 5)<|aU<|aa (ac 6) ag) ag) (az<|dC<|.bl cp) aB
def tD(w:Ad)(Zb Y7:Sd)(y:DX):ar:=ai (aq (ah av (ao<|bw<|aa (ah av (ac 4) ¬3)<|aa (ah av (ac 4) ¬2) ag)<|ac 6)<|af 7) (rP w Zb Y7 y)
def ra(w:Ad)(Zb Y7:Sd)(y:DX):ar:=ai (aq (oi (al<|ah bR (ah av (ah av (ac 0) ¬0)<|ah av (ac 4) ¬1) ¬0) (¬0) ¬1)<|af 6) (tD w Zb Y7 y)
def yE(w:Ad)(Zb Y7:Sd)(y:DX):ar:=aq (ac 8) (cW (ah av (ac 0) ¬0)<|ah av (ac 4) ¬1)
def lX(w:Ad)(Zb Y7:Sd)(y:DX):ar:=ai (aE (fH<|cq<|ao<|aj (ka w) y 3<|aa (ac 0)<|aa (ac 5)<|aa (ac 8) ag) (az<|dC<|.bl cp) aB) (yE w Zb Y7 y)
def lC(w:Ad)(Zb Y7:Sd)(y:DX):ar:=ai (aq (ao<|aj (vf w) y 2<|aa (ac 0)<|aa (ac 4) ag)<|af 8) (lX w Zb Y7 y)
def lV(w:Ad)(Zb Y7:Sd)(y:DX):ar:=aE (al<|ah bR (ah av (ac 4) ¬0) ¬"if") (ra w Zb Y7 y) (lC w Zb Y7 y)
def tL(w:Ad)(Zb Y7:Sd)(y:DX):ar:=aE (al<|ah bR (ah av (ac 4) ¬0) ¬"again") (sx w Zb Y7 y) (lV w Zb Y7 y)
def n8(w:Ad)(Zb Y7:Sd)(y:DX):ar:=ai (aq (ah bc (ac 2)<|aU<|aa (ac 3) ag)<|af 5) (tL w Zb Y7 y)
def zB(w:Ad)(Zb Y7:Sd)(y:DX):ar:=ai (cV (vA<|aa (ac 1) ag) (dk 2<|aM (af 3)<|aM (af 4) da)<|n8 w Zb Y7 y) (az<|dC<|.bl true)
mutual
noncomputable def Zb(ad:Ad):Nat->Sd
 |0=>λ_ _ _ _=>False
 |n+1=>aD ["gone","row","place","turn","look"] (Ah ad (Zb ad n)<|Y7 ad n)
noncomputable def Y7(ad:Ad):Nat->Sd
 |0=>λ_ _ _ _=>False
 |n+1=>aD ["gone","rows","place","at","row","here","look","inner","number"] (zB ad (Zb ad n)<|Y7 ad n)
end
theorem TR{n:Nat}:Zb ad (n+1) [c,a,b] M Q E=Ah ad (Zb ad n) (Y7 ad n) (aJ E) Q⁻¹ [ap c,ap a,ap b,bb,bb] M:=rfl
theorem S2{n:Nat}:Y7 ad (n+1) [c,a,b] M Q E=zB ad (Zb ad n) (Y7 ad n) (aJ E) Q⁻¹ [ap c,ap a,ap b,bb,bb,bb,bb,bb,bb] M:=rfl
def zI(w:Ad)(y:DX):ar:=az (aU<|aa (ah av (ac 3) ¬2)<|aa (dC .non) ag)
def yT(w:Ad)(y:DX):ar:=az (aU<|aa (ah av (ac 3) ¬2)<|aa (bn b_<|aa (ao<|aO (bE<|ah av (ac 0) ¬1) ["name"] [3] (af 0) cP<|ah av (ah av (ac 1) ¬0)<|ac 0) ag) ag)
def AV(w:Ad)(y:DX):ar:=ai (aE (fH<|cq<|ao<|aj (Y7 w 24) y 3<|aa (ac 3)<|aa (ah av (ac 0) ¬3)<|aa (aU ag) ag) (zI w y) aB) (yT w y)
def zx(w:Ad)(y:DX):ar:=ai (aq (bw<|aa (gB<|aa (ah av (ac 0) ¬1)<|aa (ah av (ac 1) ¬0) ag)<|aa (ah av (ac 1) ¬1)<|aa (bw ag)<|aa (ac 2)<|aa (ah av (ac 0) ¬0) ag)<|af 3) (AV w y)
def og(ad:Ad):Sd:=aD ["plan","stand","most","gone"] (zx ad)
theorem TD:og ad [c,a,b] M Q E=zx ad (aJ E) Q⁻¹ [ap c,ap a,ap b,bb] M:=rfl
def Hj(w:Ad)(y:DX):ar:=az (bn b_<|aa (ao<|aO (bE<|ac 0) ["row"] [] (af 0) (al<|ah nU (ah av (ac 0) ¬0)<|ao<|bw<|aa (¬"if")<|aa (¬"again") ag)<|ac 0) ag)
def uc(ad:Ad):Sd:=aD ["rows"] (Hj ad)
theorem u_q36:uc ad [a] M Q E=Hj ad (aJ E) Q⁻¹ [ap a] M:=rfl
def tV(w:Ad)(y:DX):ar:=az (aU<|aa (ah av (ah av (ac 4) ¬0)<|ac 5)<|aa (ah av (ah av (ac 4) ¬1)<|ac 5) ag)
def l_(w:Ad)(y:DX):ar:=ai (aq (Ik iE (ah av (ac 0) ¬1)<|aa (ah av (ac 0) ¬4) ag)<|af 5) (tV w y)
def lW(w:Ad)(y:DX):ar:=ai (aE (al<|ah vI (dC .non)<|ac 4) (az<|dC .non) aB) (l_ w y)
def yd(w:Ad)(y:DX):ar:=ai (dg (fG 4<|aO (bE<|ao<|bw<|aa (ac 1)<|aa (ac 2) ag) ["stand"] [0,3] (af 0) cP<|ah av (qd<|aj (og w) iS 3<|aa (ac 1)<|aa (ac 0)<|aa (ac 2) ag) ¬1) 4) (lW w y)
def oJ(ad:Ad):Sd:=aD ["plan","sound","faulty","most","last","at"] (yd ad)
theorem RG:oJ ad [e,a,b,c] M Q E=yd ad (aJ E) Q⁻¹ [ap e,ap a,ap b,ap c,bb,bb] M:=rfl
def yY(w:Ad)(y:DX):ar:=az (ah g7 (ao<|ah bc (ah bc (ac 2) ¬1)<|ao<|aj (aZ w) y 2<|aa (ac 0)<|aa (ah ph (ac 1) ¬1) ag)<|ac 1)
def mS(ad:Ad):Sd:=aD ["pot","m","number"] (yY ad)
theorem RU:mS ad [c,a,b] M Q E=yY ad (aJ E) Q⁻¹ [ap c,ap a,ap b] M:=rfl
def lI(w:Ad)(y:DX):ar:=aq (ah bc (ao<|DY (ac 0) cJ<|fg ¬3)<|aU<|aa (ah bc (ac 5)<|aU<|aa (ac 7) ag)<|aa (ah av (ac 0) ¬4) ag) (af 0)
def lq(w:Ad)(y:DX):ar:=ai (aq (aU<|aa (¬"sum")<|aa (ah av (ac 0) ¬4)<|aa (ah av (ac 0) ¬4)<|aa (ac 4) ag)<|af 7) (lI w y)
def la(w:Ad)(y:DX):ar:=ai (aE (al<|ah bR (ah av (ac 6) ¬0)<|ah av (ac 6) ¬1) (lq w y) aB) (az<|ac 0)
def mr(w:Ad)(y:DX):ar:=ai (aq (ao<|aj (oJ w) y 4<|aa (ac 0)<|aa (ac 1)<|aa (ac 2)<|aa (ac 3) ag)<|af 6) (la w y)
def lJ(w:Ad)(y:DX):ar:=ai (aq (ah bc (ao<|DY (ac 0) cJ<|fg ¬3)<|aU<|aa (ac 5)<|aa (ah av (ac 0) ¬4) ag)<|af 0) (mr w y)
def zr(w:Ad)(y:DX):ar:=ai (aq (bn b_<|aa (ao<|aO (bE<|ao<|aj (uc w) y 1<|aa (ah av (ac 0) ¬3) ag) ["row"] [4] (af 0) (al<|ah pG (ah av (ac 0) ¬1)<|ac 1)<|ac 0) ag)<|af 5) (lJ w y)
def yq(ad:Ad):Sd:=aD ["plan","sound","faulty","most","name","rows","both","more"] (zr ad)
theorem T9:yq ad [b,e,c,a,f] M Q E=zr ad (aJ E) Q⁻¹ [ap b,ap e,ap c,ap a,ap f,bb,bb,bb] M:=rfl
def rE(w:Ad)(y:DX):ar:=aq (aU<|aa (aU<|aa (¬"take")<|aa (ah av (ac 2) ¬0)<|aa (¬0) ag)<|aa (aU<|aa (¬"sum")<|aa (ah av (ac 0) ¬4)<|aa (ah av (ac 0) ¬4)<|aa (ah av (ac 2) ¬0) ag) ag) (af 1)
def mH(w:Ad)(y:DX):ar:=az (ah bc (ao<|DY (ac 0) cJ<|fg ¬3)<|aU<|aa (ao<|ah bc (ah av (ac 0) ¬3)<|ac 1)<|aa (ah av (ac 0) ¬4) ag)
def rO(w:Ad)(y:DX):ar:=ai (aE (al<|ah pG (ac 2)<|ao<|bw ag) (rE w y) aB) (mH w y)
def tF(w:Ad)(y:DX):ar:=ai (dg (fG 2<|aO (bE<|ah av (ac 0) ¬1) ["one"] [0] (af 0) (al<|ah pG (ac 0)<|ah av (ac 1) ¬4)<|ac 0) 2) (rO w y)
def Ju(w:Ad)(y:DX):ar:=ai (aq (aU<|aa (aU<|aa (¬"take")<|aa (ah av (ac 0) ¬4)<|aa (¬0) ag) ag)<|af 1) (tF w y)
def Ji(ad:Ad):Sd:=aD ["plan","more","rest"] (Ju ad)
theorem u_q7:Ji ad [a] M Q E=Ju ad (aJ E) Q⁻¹ [ap a,bb,bb] M:=rfl
def rU(w:Ad)(y:DX):ar:=aq (ao<|aj (mS w) y 3<|aa (ac 0)<|aa (ah av (ac 3) ¬0)<|aa (ah av (ac 5)<|ac 7) ag) (cW (ac 5)<|ac 7)
def sH(w:Ad)(y:DX):ar:=aq (ao<|ah bc (ac 8)<|bn F9<|aa (bn cC<|aa (ac 6) ag)<|aa (ah jA (¬2)<|ac 2) ag) (af 8)
def sD(w:Ad)(y:DX):ar:=ai (aq (ao<|aj (mS w) y 3<|aa (ac 0)<|aa (ah av (ac 3) ¬0)<|aa (ah av (ac 6) ¬0) ag)<|cW (ac 6) ¬0) (sH w y)
def tz(w:Ad)(y:DX):ar:=aq (ao<|aj (mS w) y 3<|aa (ac 0)<|aa (ah av (ac 3) ¬0)<|aa (ah av (ah av (ac 4) ¬0)<|ac 10) ag) (cW (ac 5)<|ac 10)
def qR(w:Ad)(y:DX):ar:=aq (ao<|aj (mS w) y 3<|aa (ac 0)<|aa (ah av (ac 3) ¬0)<|aa (ah av (ah av (ac 4) ¬1)<|ac 10) ag) (cW (ac 6)<|ac 10)
def tN(w:Ad)(y:DX):ar:=ai (aq (ah ph (ac 10)<|bn cC<|aa (ac 5) ag)<|af 10) (qR w y)
def tM(w:Ad)(y:DX):ar:=aE (al<|ah DL (ac 10)<|bn cC<|aa (ac 5) ag) (tz w y) (tN w y)
def sZ(w:Ad)(y:DX):ar:=ai (aq (ao<|aj (aZ w) y 2<|aa (ac 0)<|aa (ac 8) ag)<|af 10) (tM w y)
def Bq(w:Ad)(y:DX):ar:=aq (ah bc (ao<|DY (ac 3) cJ<|fg ¬3)<|aU<|aa (ao<|aj (uc w) y 1<|aa (ah av (ac 3) ¬3) ag)<|aa (ah av (ac 3) ¬4) ag) (af 3)
def mI(w:Ad)(y:DX):ar:=aq (ao<|aj (yq w) y 5<|aa (ac 3)<|aa (ac 4)<|aa (ac 11)<|aa (ac 12)<|aa (ah av (ah av (ac 3) ¬1)<|ac 7) ag) (af 3)
def ve(w:Ad)(y:DX):ar:=aq (ao<|aj (Ji w) y 1<|aa (ac 3) ag) (af 3)
def jp(w:Ad)(y:DX):ar:=aE (al<|ah DL (ac 7)<|bn cC<|aa (ac 5) ag) (mI w y) (ve w y)
def iW(w:Ad)(y:DX):ar:=az (aU<|aa (ac 3)<|aa (ac 4)<|aa (ac 11)<|aa (ac 12) ag)
def mB(w:Ad)(y:DX):ar:=ai (aE (al<|ah bR (ah av (ac 13) ¬0)<|ah av (ac 13) ¬1) (jp w y) aB) (iW w y)
def jy(w:Ad)(y:DX):ar:=ai (aq (ao<|aj (oJ w) y 4<|aa (ac 3)<|aa (ac 4)<|aa (ac 11)<|aa (ac 12) ag)<|af 13) (mB w y)
def jk(w:Ad)(y:DX):ar:=ai (aE (al<|ah kX (ao<|aj (oJ w) y 4<|aa (ac 3)<|aa (ac 4)<|aa (ac 11)<|aa (ah ph (ac 12) ¬4) ag)<|dC .non) (Bq w y) aB) (jy w y)
def nD(w:Ad)(y:DX):ar:=ai (aq (ah bc (¬30)<|ao<|aj (aZ w) y 2<|aa (ac 0)<|aa (¬20) ag)<|af 12) (jk w y)
def o7(w:Ad)(y:DX):ar:=ai (aq (aU<|aa (bn b_<|aa (ac 5) ag)<|aa (bn b_<|aa (ac 6) ag) ag)<|af 11) (nD w y)
def iU(w:Ad)(y:DX):ar:=ai (cV (fb<|aa (ah ph (ac 2) ¬1) ag) (af 9)<|sZ w y) (o7 w y)
def mJ(w:Ad)(y:DX):ar:=ai (aE (al<|ah DL (ac 7)<|bn cC<|aa (ac 5) ag) (rU w y)<|sD w y) (iU w y)
def oS(w:Ad)(y:DX):ar:=ai (aq (bn cC<|aa (ac 5) ag)<|af 8) (mJ w y)
def nC(w:Ad)(y:DX):ar:=ai (aq (ao<|aj (aZ w) y 2<|aa (ac 0)<|aa (ah jA (¬4)<|bn cC<|aa (ac 5) ag) ag)<|af 7) (oS w y)
def nL(w:Ad)(y:DX):ar:=ai (aq (bn eG<|aa (ah av (ac 4) ¬1) ag)<|af 6) (nC w y)
def mz(w:Ad)(y:DX):ar:=ai (aq (bn eG<|aa (ah av (ac 4) ¬0) ag)<|af 5) (nL w y)
def nc(w:Ad)(y:DX):ar:=ai (aq (ao<|aj (zF w) y 2<|aa (ac 0)<|aa (ac 3) ag)<|af 4) (mz w y)
def nT(w:Ad)(y:DX):ar:=ai (aq (ao<|ah bc (ah bc (ao<|DY (ac 3) cJ<|fg ¬2)<|aU<|aa (bn IH<|aa (¬1)<|aa (ah av (ac 3) ¬2) ag) ag)<|ao<|DY (ac 3) (fg ¬3) cJ)<|af 3) (nc w y)
def BF(w:Ad)(y:DX):ar:=ai (aq (ao<|aj (BV w) y 2<|aa (ac 0)<|aa (ac 1) ag)<|af 3) (nT w y)
def Cc(ad:Ad):Sd:=aD ["pot","most_rows","few","plan","sound","numbers","pieces","first","some","k","at","faulty","most","both"] (BF ad)
theorem T5:Cc ad [c,a,b] M Q E=BF ad (aJ E) Q⁻¹ [ap c,ap a,ap b,bb,bb,bb,bb,bb,bb,bb,bb,bb,bb,bb] M:=rfl
def sC(w:Ad)(y:DX):ar:=az (ah bc (ac 5)<|ao<|aO (fb<|aa (ah av (ac 1) ¬2) ag) ["k"] [2,3] (af 0) (al<|ah pG (ah av (ah av (ac 1) ¬1)<|ac 0)<|ah av (ah av (ac 2) ¬1)<|ac 0)<|ac 0)
def rJ(w:Ad)(y:DX):ar:=ai (dg (fG 5<|aO (ui<|aa (ah av (ac 1) ¬1)<|aa (ah av (ac 2) ¬0)<|aa (ah av (ac 3) ¬0) ag) ["name","one","other"] [] (dk 3<|aM (af 0)<|aM (af 1)<|aM (af 2) da) (al<|ah pG (ac 1)<|ac 2)<|ac 0) 5) (sC w y)
def BJ(w:Ad)(y:DX):ar:=ai (aq (ac 0)<|dk 4<|aM (af 1)<|aM (af 2)<|aM (af 3)<|aM (af 4) da) (rJ w y)
def uT(ad:Ad):Sd:=aD ["case","plan","sound","faulty","most","found"] (BJ ad)
theorem Rx:uT ad [a] M Q E=BJ ad (aJ E) Q⁻¹ [ap a,bb,bb,bb,bb,bb] M:=rfl
def jt(w:Ad)(y:DX):ar:=b6 (iN "list" bf (ac 6)<|aa (oi (al<|ah vI (ac 7)<|ac 1) (ac 9)<|ac 8) ag)
def si(w:Ad)(y:DX):ar:=az (aU<|aa (bn b_<|aa (ac 6) ag)<|aa (bn b_<|aa (ac 10) ag) ag)
def qL(w:Ad)(y:DX):ar:=ai (dg (fG 10<|aO (fb<|aa (ah av (ac 2) ¬2) ag) ["k"] [3,1,4] (af 0) cP<|oi (al<|ah vI (ac 0)<|ac 2) (ah av (ah av (ac 3) ¬1)<|ac 0)<|ah av (ah av (ac 1) ¬1)<|ac 0) 10) (si w y)
def sU(w:Ad)(y:DX):ar:=ai (cV (ui<|aa (ah av (ac 2) ¬1)<|aa (ah av (ac 3) ¬0)<|aa (ah av (ac 4) ¬0) ag) (dk 3<|aM (af 7)<|aM (af 8)<|aM (af 9) da)<|jt w y) (qL w y)
def zA(w:Ad)(y:DX):ar:=ai (aq (ac 0)<|dk 4<|aM (af 2)<|aM (af 3)<|aM (af 4)<|aM (af 5) da) (ai (aq (bw ag)<|af 6)<|sU w y)
def ya(ad:Ad):Sd:=aD ["case","mix","plan","sound","faulty","most","numbers","name","one","other","pieces"] (zA ad)
theorem Tc:ya ad [b,a] M Q E=zA ad (aJ E) Q⁻¹ [ap b,ap a,bb,bb,bb,bb,bb,bb,bb,bb,bb] M:=rfl
def lE(w:Ad)(y:DX):ar:=aq (ao<|ah bc (ac 1)<|ao<|aO (bE<|ac 1) ["one"] [2] (af 0) cP<|ao<|ah bc (ac 0)<|ao<|bw<|aa (ac 1) ag) (af 1)
def Bm(w:Ad)(y:DX):ar:=ai (cV (fb<|aa (ac 0) ag) (af 2)<|lE w y) (az<|ac 1)
def D_(w:Ad)(y:DX):ar:=ai (aq (ao<|bw<|aa (ao<|bw ag) ag)<|af 1) (Bm w y)
def AY(ad:Ad):Sd:=aD ["many","found","k"] (D_ ad)
theorem u_q10:AY ad [a] M Q E=D_ ad (aJ E) Q⁻¹ [ap a,bb,bb] M:=rfl
def rD(w:Ad)(y:DX):ar:=aq (ah av (ao<|bw<|aa (¬"sound")<|aa (¬"faulty") ag)<|Ik iV (ac 7)<|aa (ah av (ac 10)<|ac 6) ag) (af 11)
def nN(w:Ad)(y:DX):ar:=aq (ac 11) (cW (ac 8)<|bn b_<|aa (ac 9) ag)
def xB(w:Ad)(y:DX):ar:=ai (aE (kQ (al<|ah fk (ac 10)<|dC .non)<|al<|ah vI (ah av (ac 10)<|ac 6)<|ac 7) (rD w y) aB) (nN w y)
def xp(w:Ad)(y:DX):ar:=ai (aq (¬"other")<|af 11) (xB w y)
def jW(w:Ad)(y:DX):ar:=ai (aq (ah av (qd<|aj (og w) y 3<|aa (ac 1)<|aa (ao<|aj (ya w) y 2<|aa (ac 0)<|aa (ao<|aO (bE<|ac 9) ["k"] [5] (af 0) cP<|ah av (ac 1)<|ac 0) ag)<|aa (ac 4) ag) ¬1)<|af 10) (xp w y)
def Ga(w:Ad)(y:DX):ar:=ai (cV (bE<|ao<|aj (AY w) y 1<|aa (bn cC<|aa (ac 5) ag) ag) (af 9)<|jW w y) (az<|ac 8)
def EO(w:Ad)(y:DX):ar:=ai (aq (ao<|aj (oJ w) y 4<|aa (ac 1)<|aa (ac 2)<|aa (ac 3)<|aa (ac 4) ag)<|af 7) (ai (aq Nd<|af 8)<|Ga w y)
def xF(w:Ad)(y:DX):ar:=ai (aq (Ik iE (ah av (ac 1) ¬1)<|aa (ah av (ac 1) ¬4) ag)<|af 6) (EO w y)
def F6(w:Ad)(y:DX):ar:=ai (aq (ao<|aj (uT w) y 1<|aa (ac 0) ag)<|af 5) (xF w y)
def Px(w:Ad)(y:DX):ar:=ai (aq (ac 0)<|dk 4<|aM (af 1)<|aM (af 2)<|aM (af 3)<|aM (af 4) da) (F6 w y)
def Ko(ad:Ad):Sd:=aD ["case","plan","sound","faulty","most","some","at","both","found","numbers","end","word"] (Px ad)
theorem u_q9:Ko ad [a] M Q E=Px ad (aJ E) Q⁻¹ [ap a,bb,bb,bb,bb,bb,bb,bb,bb,bb,bb,bb] M:=rfl
def zD(w:Ad)(y:DX):ar:=az (ah bR (ao<|aO (bE<|ac 1) ["k"] [0] (af 0) (al<|ah nU (ac 0)<|ac 1)<|ac 0)<|ao<|bw ag)
def AT(ad:Ad):Sd:=aD ["one","other"] (zD ad)
theorem T4:AT ad [b,a] M Q E=zD ad (aJ E) Q⁻¹ [ap b,ap a] M:=rfl
def q_(w:Ad)(y:DX):ar:=b6 (iN "list" bf (ac 1)<|aa (ao<|bn eG<|aa (ac 2) ag) ag)
def iP(w:Ad)(y:DX):ar:=aE (al<|ah bR (ao<|aO (bE<|ac 0) ["other"] [2] (af 0) (kQ (al<|ah pG (ac 0)<|ac 1)<|cq<|ao<|aj (AT w) iS 2<|aa (ac 1)<|aa (ac 0) ag) ¬1)<|ao<|bw ag) (q_ w y) aB
def li(w:Ad)(y:DX):ar:=ai (cV (bE<|ac 0) (af 2)<|iP w y) (az<|bn dG<|aa (ac 1) ag)
def yQ(w:Ad)(y:DX):ar:=ai (aq (bw ag)<|af 1) (li w y)
def Bo(ad:Ad):Sd:=aD ["lists","found","one"] (yQ ad)
theorem RW:Bo ad [a] M Q E=yQ ad (aJ E) Q⁻¹ [ap a,bb,bb] M:=rfl
def k_(w:Ad)(y:DX):ar:=az (aO (bE<|ac 1) ["one"] [2] (af 0) cP<|ao<|aO (bE<|ac 0) ["k"] [1] (af 0) cP<|ah av (ac 1)<|ac 0)
def yP(w:Ad)(y:DX):ar:=ai (aq (ao<|aj (uT w) y 1<|aa (ac 0) ag)<|af 2) (k_ w y)
def yx(ad:Ad):Sd:=aD ["case","lists","some"] (yP ad)
theorem RQ:yx ad [b,a] M Q E=yP ad (aJ E) Q⁻¹ [ap b,ap a,bb] M:=rfl
def B3(w:Ad)(Zf:Sd)(y:DX):ar:=az (uu (bn dJ<|aa (ac 0)<|aa (dC<|.ty "bool") ag)<|ah bR (ac 0)<|ac 1)
def yg(w:Ad)(Zf:Sd)(y:DX):ar:=az (uu (bn dJ<|aa (ac 0)<|aa (dC<|.ty "int") ag)<|uu (Nj<|bn dJ<|aa (ac 0)<|aa (dC<|.ty "bool") ag)<|ah bR (ac 0)<|ac 1)
def zW(w:Ad)(Zf:Sd)(y:DX):ar:=az (uu (bn dJ<|aa (ac 0)<|aa (dC<|.ty "str") ag)<|ah bR (ac 0)<|ac 1)
def yV(w:Ad)(Zf:Sd)(y:DX):ar:=az (bn Oa<|aa (ao<|aO (So<|aa (ac 0)<|aa (ac 1) ag) ["one","other"] [] (dk 2<|aM (af 0)<|aM (af 1) da) cP<|ao<|aj Zf iS 2<|aa (ac 0)<|aa (ac 1) ag) ag)
def z8(w:Ad)(Zf:Sd)(y:DX):ar:=ai (aE (al<|ah pG (bn cC<|aa (ac 0) ag)<|bn cC<|aa (ac 1) ag) (az<|dC<|.bl cp) aB) (yV w Zf y)
def Bh(w:Ad)(Zf:Sd)(y:DX):ar:=ai (aE (QN (al<|ah pG (bn dJ<|aa (ac 1)<|aa (dC<|.ty "tuple") ag)<|bn dJ<|aa (ac 0)<|aa (dC<|.ty "tuple") ag)<|al<|ah pG (bn dJ<|aa (ac 1)<|aa (dC<|.ty "list") ag)<|bn dJ<|aa (ac 0)<|aa (dC<|.ty "list") ag) (az<|dC<|.bl cp) aB) (z8 w Zf y)
def yO(w:Ad)(Zf:Sd)(y:DX):ar:=ai (aE (cq<|bn dJ<|aa (ac 1)<|aa (dC<|.ty "str") ag) (zW w Zf y) aB) (Bh w Zf y)
def AQ(w:Ad)(Zf:Sd)(y:DX):ar:=ai (aE (cq<|bn dJ<|aa (ac 1)<|aa (dC<|.ty "int") ag) (yg w Zf y) aB) (yO w Zf y)
def zf(w:Ad)(Zf:Sd)(y:DX):ar:=ai (aE (cq<|bn dJ<|aa (ac 1)<|aa (dC<|.ty "bool") ag) (B3 w Zf y) aB) (AQ w Zf y)
def gg(w:Ad)(Zf:Sd)(y:DX):ar:=ai (aE (al<|ah kX (ac 1)<|dC .non) (az<|ah kX (ac 0)<|dC .non) aB) (zf w Zf y)
def Zf(ad:Ad):Nat->Sd
 |0=>λ_ _ _ _=>False
 |n+1=>aD ["found","due"] (gg ad<|Zf ad n)
theorem kI{n:Nat}:Zf ad (n+1) [b,a] M Q E=gg ad (Zf ad n) (aJ E) Q⁻¹ [ap b,ap a] M:=rfl
def tJ(w:Ad)(y:DX):ar:=b6 (iN "list" bf (ac 6)<|aa (¬"a") ag)
def m5(w:Ad)(y:DX):ar:=az (aj (Zf w 24) y 2<|aa (aj (pL w) y 2<|aa (ac 2)<|aa (¬64) ag)<|aa (ac 4) ag)
def lY(w:Ad)(y:DX):ar:=ai (b6<|iN "list" iY (ac 5) ag) (m5 w y)
def lO(w:Ad)(y:DX):ar:=ai (cV (bE<|ac 5) (af 6)<|tJ w y) (lY w y)
def ma(w:Ad)(y:DX):ar:=ai (aE (fH<|cq<|ao<|aj (Zf w 24) y 2<|aa (ac 5)<|aa (ac 4) ag) (az<|dC<|.bl cp) aB) (lO w y)
def lD(w:Ad)(y:DX):ar:=ai (aq (y3 (pL w) y 2 (500)<|aa (ac 2) ag)<|af 5) (ma w y)
def lH(w:Ad)(y:DX):ar:=ai (aq (ao<|aj (yx w) y 2<|aa (ac 2)<|aa (ao<|aj (Bo w) y 1<|aa (ao<|aO (zm<|ac 3) ["one"] [3] (af 0) (al<|ah bR (ah CP (ac 1)<|ac 0) ¬"faulty")<|ac 0) ag) ag)<|af 4) (lD w y)
def lN(w:Ad)(y:DX):ar:=ai (aq (Ep<|aj (Ko w) y 1<|aa (ac 2) ag)<|af 3) (lH w y)
def lc(w:Ad)(y:DX):ar:=ai (aq (ao<|aj (Cc w) y 3<|aa (ac 1)<|aa (¬24)<|aa (ah bc (¬1)<|ao<|aj (aZ w) y 2<|aa (ac 1)<|aa (¬5) ag) ag)<|af 2) (lN w y)
def C3(w:Ad)(y:DX):ar:=ai (aq (aj (BL w) y 1<|aa (ac 0) ag)<|af 1) (lc w y)
def F7(ad:Ad):Sd:=aD ["script","pot","case","verdicts","due","found","mix"] (C3 ad)
theorem TF:F7 ad [a] M Q E=C3 ad (aJ E) Q⁻¹ [ap a,bb,bb,bb,bb,bb,bb] M:=rfl
end
set_option genInjectivity false in
structure En(P:eS)(w:fx)(K:Ug)(mg:aa2)(base:g4)(ad:Ad):Prop where
 u0:Cls K ad.C_Ends
 u1:mg "Ends"=ap (.ref ad.C_Ends)
 u2:Cls K ad.C_Going
 u3:mg "Going"=ap (.ref ad.C_Going)
 u4:Cls K ad.C_Outcome
 u5:mg "Outcome"=ap (.ref ad.C_Outcome)
 u6:Cls K ad.C_Walk
 u7:mg "Walk"=ap (.ref ad.C_Walk)
 u8:NoAttr K ad.C_Ends "count"
 u9:NoAttr K ad.C_Ends "limit"
 u10:NoAttr K ad.C_Going "left"
 u11:NoAttr K ad.C_Going "numbers"
 u12:NoAttr K ad.C_Going "pieces"
 u13:NoAttr K ad.C_Going "todo"
 u14:NoAttr K ad.C_Going "unsettled"
 u15:NoAttr K ad.C_Outcome "faulty"
 u16:NoAttr K ad.C_Outcome "sound"
 u17:NoAttr K ad.C_Outcome "verdict"
 u18:NoAttr K ad.C_Walk "most"
 u19:NoAttr K ad.C_Walk "numbers"
 u20:NoAttr K ad.C_Walk "pieces"
 u21:NoAttr K ad.C_Walk "plan"
 u22:NoAttr K ad.C_Walk "steps"
 u23:ExcAt K ad.C_Dry
 u24:mg "Dry"=ap (.ref ad.C_Dry)
 u25:ExcAt K ad.C_NoCase
 u26:mg "NoCase"=ap (.ref ad.C_NoCase)
 u27:ExcAt K ad.C_TooMany
 u28:mg "TooMany"=ap (.ref ad.C_TooMany)
 u29:mg "all"=bb
 u30:mg "any"=bb
 u31:mg "bool"=bb
 u32:mg "dict"=bb
 u33:mg "enumerate"=bb
 u34:mg "int"=bb
 u35:mg "isinstance"=bb
 u36:mg "len"=bb
 u37:mg "list"=bb
 u38:mg "max"=bb
 u39:mg "min"=bb
 u40:mg "range"=bb
 u41:mg "reversed"=bb
 u42:mg "sorted"=bb
 u43:mg "str"=bb
 u44:mg "tuple"=bb
 u45:mg "zip"=bb
 f1:GI K ad.C_Walk "__init__" "Walk.__init__" TU ad.a1 ad.d1 ["self","plan","stand","most"]
 f2:GM K ad.C_Walk "note_step" "Walk.note_step" Td ad.a2 ad.d2 ["self","place","number"]
 f3:GM K ad.C_Walk "look" "Walk.look" N3 ad.a3 ad.d3 ["self","place","name"]
 f4:GF K mg "run" LV ad.a4 ad.d4 ["plan","stand","most"]
 f5:GF K mg "mark" MU ad.a5 ad.d5 ["plan","stand","most"]
 f6:GF K mg "do_rows" Mg ad.a6 ad.d6 ["walk","rows","place"]
 f7:GA K mg "do_row_runs" "do_row" LD ad.a7 ad.d7 ["walk","row","place"]
 f8:GF K mg "do_if" MW ad.a8 ad.d8 ["walk","row","place"]
 f9:GF K mg "do_again" Ly ad.a9 ad.d9 ["walk","row","place"]
 f10:GF K mg "number_of" Nk ad.a10 ad.d10 ["plan","numbers","pieces","row"]
 f11:GF K mg "piece_read" Ls ad.a11 ad.d11 ["plan","numbers","row"]
 f12:GF K mg "joined" LZ ad.a12 ad.d12 ["word","y","z","wheel"]
 f13:GF K mg "all_things" Lu ad.a13 ad.d13 ["plan"]
 f14:GF K mg "in_order" Lw ad.a14 ad.d14 ["plan","things"]
 f15:GF K mg "number_in" LM ad.a15 ad.d15 ["plan","stand","thing"]
 f16:GF K mg "names_read" Nh ad.a16 ad.d16 ["row"]
 f17:GF K mg "unlike" N0 ad.a17 ad.d17 ["plan","one","other"]
 f18:GF K mg "marks" Mi ad.a18 ad.d18 ["case"]
 f19:GF K mg "unlike_of" LK ad.a19 ad.d19 ["case"]
 f20:GF K mg "verdict_of" Nl ad.a20 ad.d20 ["two","one"]
 f21:GI K ad.C_Going "__init__" "Going.__init__" T2 ad.a21 ad.d21 ["self","numbers","pieces","unsettled","todo","left"]
 f22:GM K ad.C_Going "settled" "Going.settled" SB ad.a22 ad.d22 ["self","thing","number"]
 f23:GI K ad.C_Ends "__init__" "Ends.__init__" RM ad.a23 ad.d23 ["self","limit"]
 f24:GM K ad.C_Ends "one_more" "Ends.one_more" Sl ad.a24 ad.d24 ["self"]
 f25:GF K mg "start" MD ad.a25 ad.d25 ["case"]
 f26:GF K mg "put_ahead" Mb ad.a26 ad.d26 ["rows","todo"]
 f27:GF K mg "go_on" ME ad.a27 ad.d27 ["plan","going"]
 f28:GF K mg "asked_by" MG ad.a28 ad.d28 ["plan","going","row"]
 f29:GA K mg "do_row_trees" "do_row" Mh ad.a29 ad.d29 ["plan","going","row"]
 f30:GF K mg "mark_of" MP ad.a30 ad.d30 ["plan","going"]
 f31:GF K mg "both_ways" Mw ad.a31 ad.d31 ["case","going","thing"]
 f32:GV K mg "tree" MY ad.a32 ad.d32 ["case","limit"] (500)
 f33:GF K mg "grown" MF ad.a33 ad.d33 ["case","going","ends"]
 f34:GI K ad.C_Outcome "__init__" "Outcome.__init__" R6 ad.a34 ad.d34 ["self","verdict","sound","faulty"]
 f35:GF K mg "outcomes" Ms ad.a35 ad.d35 ["case","limit"]
 f36:GF K mg "numbers_of" Na ad.a36 ad.d36 ["bits"]
 f37:GF K mg "mix_of" LR ad.a37 ad.d37 ["things","bits"]
 f38:GV K mg "least_causes" Mp ad.a38 ad.d38 ["case","limit"] (500)
 f39:GF K mg "causes_met" LW ad.a39 ad.d39 ["case","limit"]
 f40:GF K mg "least_of" Me ad.a40 ad.d40 ["many"]
 f41:GF K mg "mixes_in_order" S7 ad.a41 ad.d41 ["case","many"]
 f42:GF K mg "_law_stirred" MQ ad.a42 ad.d42 ["cell","turn"]
 f43:GF K mg "_law_pot" Lx ad.a43 ad.d43 ["script"]
 f44:GF K mg "_law_draw" LB ad.a44 ad.d44 ["pot","many"]
 f45:GF K mg "_law_names" MV ad.a45 ad.d45 ["pot","many"]
 f46:GF K mg "_law_row" LQ ad.a46 ad.d46 ["pot","told"]
 f47:GF K mg "_law_block" Mo ad.a47 ad.d47 ["pot","told","room","deep"]
 f48:GF K mg "_law_rows" Ml ad.a48 ad.d48 ["pot","told","room","deep","most"]
 f49:GF K mg "_law_plan" Mx ad.a49 ad.d49 ["pot","most"]
 f50:GF K mg "_law_stand" LU ad.a50 ad.d50 ["pot","plan"]
 f51:GF K mg "_law_becomes" LF ad.a51 ad.d51 ["gone","row"]
 f52:GF K mg "_law_stepped" MS ad.a52 ad.d52 ["gone","place","number"]
 f53:GF K mg "_law_rounds" LI ad.a53 ad.d53 ["gone","row","place"]
 f54:GF K mg "_law_done" LJ ad.a54 ad.d54 ["gone","rows","place"]
 f55:GF K mg "_law_run" Mu ad.a55 ad.d55 ["plan","stand","most"]
 f56:GF K mg "_law_flat" Mm ad.a56 ad.d56 ["rows"]
 f57:GF K mg "_law_marks" My ad.a57 ad.d57 ["plan","sound","faulty","most"]
 f58:GF K mg "_law_other" Lz ad.a58 ad.d58 ["pot","m","number"]
 f59:GF K mg "_law_by_name" MM ad.a59 ad.d59 ["plan","sound","faulty","most","name"]
 f60:GF K mg "_law_by_piece" SN ad.a60 ad.d60 ["plan"]
 f61:GF K mg "_law_case" LA ad.a61 ad.d61 ["pot","most_rows","few"]
 f62:GF K mg "_law_things" MC ad.a62 ad.d62 ["case"]
 f63:GF K mg "_law_mixed" Lv ad.a63 ad.d63 ["case","mix"]
 f64:GF K mg "_law_subsets" MT ad.a64 ad.d64 ["many"]
 f65:GF K mg "_law_verdicts" S3 ad.a65 ad.d65 ["case"]
 f66:GF K mg "_law_has" Ni ad.a66 ad.d66 ["one","other"]
 f67:GF K mg "_law_least" LG ad.a67 ad.d67 ["lists"]
 f68:GF K mg "_law_told" Nm ad.a68 ad.d68 ["case","lists"]
 f69:GF K mg "_law_alike" LC ad.a69 ad.d69 ["found","due"]
 f70:GF K mg "law" km ad.a70 ad.d70 ["script"]
section
section
variable{X:Cx}{B:Bd}{a b o e:eX}{es:aaY}{ta tb to:ba}{t:eA}{i:Nat}{x:Str}{pos p aaQ aaP:Pos}(hU:X.A.units+64<k6)(hu:X.A.units+1<k6)(hg:X.A.guards=ap [])(hc:X.calm=true)(ha:DE X B a ta)(hb:DE X B b tb)(hd:DE X B c tc){TK:Sd}
def v0:=gn (pos:=pos) Lg ha hb
def v1:=gn (pos:=pos) IT ha hb
def v2:=gn (pos:=pos) KE ha hb
def v3:=gn (pos:=pos) Jk ha hb
def v4:=gn (pos:=pos) NH ha hb
def v5:=gn (pos:=pos) JA ha hb
def v6:=gn (pos:=pos) Jd ha hb
def v7:=gn (pos:=pos) Lf ha hb
def v8:=gn (pos:=pos) EJ ha hb
def v9:=gn (pos:=pos) Kw ha hb
def v10:=gn (pos:=pos) KL ha hb
def v11:=EL (pos:=pos) (F_ hU) ha hb
def v12:=EL (pos:=pos) AM ha hb
def v13:=cB (X:=X) (B:=B) (p:=p) (pos:=pos) (e:=e) (es:=es) (t:=t) CB Jz
def v14:=fQ (X:=X) (B:=B) (p:=p) (pos:=pos) (e:=e) (es:=es) (t:=t) uH ql
def v15:=fQ (X:=X) (B:=B) (p:=p) (pos:=pos) (e:=e) (es:=es) (t:=t) wA nY
def v16:=fQ (X:=X) (B:=B) (p:=p) (pos:=pos) (e:=e) (es:=es) (t:=t) (vk hc) vj
def v17:=cB (X:=X) (B:=B) (p:=p) (pos:=pos) (e:=e) (es:=es) (t:=t) tP nH
def v18:=fQ (X:=X) (B:=B) (p:=p) (pos:=pos) (e:=e) (es:=es) (t:=t) vG vj
def v19:=cB (X:=X) (B:=B) (p:=p) (pos:=pos) (e:=e) (es:=es) (t:=t) t9 iK
def v20:=cB (X:=X) (B:=B) (p:=p) (pos:=pos) (e:=e) (es:=es) (t:=t) (D3 hc) KI
def v21:=cB (X:=X) (B:=B) (p:=p) (pos:=pos) (e:=e) (es:=es) (t:=t) (CN hc) KP
def v22:=cB (X:=X) (B:=B) (p:=p) (pos:=pos) (e:=e) (es:=es) (t:=t) (Cp hc) Kl
def v23:=cB (X:=X) (B:=B) (p:=p) (pos:=pos) (e:=e) (es:=es) (t:=t) (oB hU) iK
def v24:=cB (X:=X) (B:=B) (p:=p) (pos:=pos) (e:=e) (es:=es) (t:=t) (D1 hc) KF
def v25:=wK (X:=X) (B:=B) (p:=p) (pos:=pos) (yp:=aaQ) (kp:=aaP) (e:=e) (es:=es) (t:=t) (y:=x) (T:=TK) iK
def v26:=on (X:=X) (B:=B) (pos:=pos) JC
def v27:=on (X:=X) (B:=B) (pos:=pos) GY
def v28:=on (X:=X) (B:=B) (pos:=pos) J6
def v29:=on (X:=X) (B:=B) (pos:=pos) ql
def v30:=on (X:=X) (B:=B) (pos:=pos) nY
def v31:=F8 (X:=X) (B:=B) (aaQ:=aaQ) (aaP:=aaP) (o:=o) (e:=e) (es:=es) (t:=t) (to:=to) V4 Xk PySem.F.type_list_append xO
def v32:=t6 (X:=X) (B:=B) (aaQ:=aaQ) (aaP:=aaP) (o:=o) (to:=to) V4 WG Yn zJ
def v33:=t6 (X:=X) (B:=B) (aaQ:=aaQ) (aaP:=aaP) (o:=o) (to:=to) PySem.F.plainAttrs_int PySem.F.slot_int_bit_length PySem.F.type_int_bit_length wH
def v34:=F8 (X:=X) (B:=B) (aaQ:=aaQ) (aaP:=aaP) (o:=o) (e:=e) (es:=es) (t:=t) (to:=to) V4 WG Yn zJ
def v35:=t6 (X:=X) (B:=B) (aaQ:=aaQ) (aaP:=aaP) (o:=o) (to:=to) V4 YC PySem.F.type_list_reverse uF
def v36:=EH (X:=X) (B:=B) (aaQ:=aaQ) (aaP:=aaP) (o:=o) (e:=e) (es:=es) (to:=to) (t:=t) VZ XZ xg
def v37:=EH (X:=X) (B:=B) (aaQ:=aaQ) (aaP:=aaP) (o:=o) (e:=e) (es:=es) (to:=to) (t:=t) VZ XZ xj
def v38:=IM (X:=X) (B:=B) (x:=x) (pos:=pos) (e:=e) (i:=i) (te:=ta) (pos':=p) Kb
def v39:=dR (pos:=pos) NA ha hb
def v40:=dR (pos:=pos) (F_ hU) ha hb
def v41:=dR (pos:=pos) NL ha hb
def v42:=dR (pos:=pos) El ha hb
def v43:=dR (pos:=pos) AM ha hb
def v44:=dR (pos:=pos) (FW hU) ha hb
def v45:=dR (pos:=pos) (NG hU) ha hb
def v46:=dR (pos:=pos) OT ha hb
def v47:=dR (pos:=pos) (Kn hU) ha hb
def v48:=dR (pos:=pos) QJ ha hb
def v49:=dR (pos:=pos) (Dj hU) ha hb
end
local macro_rules|`(tactic|exists $n:num)=>do
 let h<-`(?_);let u<-`(_);let I:=λs:String=>Lean.mkIdent s.toName;let p:=λa k=>Lean.Syntax.mkApp (I a) (Array.replicate k h)
 let t<-((["","dnm:u QR:0 NM:1 Ng:g:Pc QG:0 Hg:6 DZ:6 DE:ah:3:2 DE:bn:2:3 No:1 OQ:1 NR:4 Fn:3 RY:0 Ov:0 DE:dC:1:4 DE:iN:4:5 v36:7 v37:7 Ng:g:S5 JR:1 EG:3 O7:2 Q5:1 NT:1 Iy:1 KW:0 xK:9 xL:8 Gn:a Kd:3 JF:4 Fz:a Dc:a E7:a","v0:2 v1:2 v2:2 v3:2 v4:2 v5:2 v6:2 v7:2 v8:2 v9:2 v10:2 v11:4 v12:3","v13:7 v14:7 v15:7 v16:8 v17:7 v18:7 v19:7 v20:8 v21:8 v22:8 v23:8 v24:8 v25:10","v26:4 v27:4 v28:4 v29:4 v30:4","v31:8 v32:4 v33:4 v34:8 v35:4","TV:3 OS:6 NZ:5 Qc:1 JM:2 Pn:5 CG:4 CA:4 QE:6 HA:3 FI:6 O9:2 v38:5 Fd:a Iq:a","DT:al:1:8 Nv:1 QH:2 TX:1","v39:3 v40:4 v41:3 v42:3 v43:3 v44:4 v45:4 v46:3 v47:4 v48:3 v49:4","e_:2 h_:1 J5:0 Kt:1 OP:1 N_:2 Rk:2 Je:0 L1:1 K0:4 Of:4 NP:4 Py:4 GH:3 JI:0 Kk:4 Cy:4 IJ:5 Nz:5 Os:4 Jw:1 P2:1 FC.nil:a FC.cons:a JU:0 Lc:1"].getD n.getNat "").splitOn " ").toArray.mapM λs=>match s.splitOn ":" with
  |[a,"a"]=>`(Lean.Parser.Tactic.tacticSeq|apply $(I a))
  |[a,"d"]=>`(Lean.Parser.Tactic.tacticSeq|(apply $(I a);focus decide))
  |[a,"u"]=>`(Lean.Parser.Tactic.tacticSeq|refine $(I a) _ ?_ ?_ ?_ ?_)
  |[a,k]=>`(Lean.Parser.Tactic.tacticSeq|refine $(p a k.toNat!))
  |[a,_,b]=>`(Lean.Parser.Tactic.tacticSeq|refine $(I a) ($(p b 1)) ?_ ?_ ?_)
  |[d,a,k,m]=>`(Lean.Parser.Tactic.tacticSeq|(show $(I d) _ _ _ $(Lean.Syntax.mkApp (I a) (Array.replicate k.toNat! u));exists $(Lean.Syntax.mkNumLit m)))
  |_=>Lean.Macro.throwUnsupported
 `(tactic|first $[|$t]*)
local macro_rules | `(tactic| exists 0) => `(tactic| first
 |exact Or.inl rfl
 |exact⟨_,_,_,_,_,by assumption,by assumption,Room.mono (by assumption)<|by first|decide|lia⟩
 |exact⟨_,_,_,_,_,_,_,by assumption,by assumption,Room.mono (by assumption) (by first|decide|lia),Eg,by assumption⟩
 |exact⟨_,_,_,_,_,_,_,by assumption,by assumption,Room.mono (by assumption) (by first|decide|lia),y8,uxN⟩
 |exact⟨_,_,_,_,_,_,_,by first|exact .g (by assumption)|exact .a (by assumption)|exact .v (by assumption),by assumption,Room.mono (by assumption) (by first|decide|lia),Eg,by assumption⟩
 |exact⟨_,_,_,_,_,_,_,by first|exact .g (by assumption)|exact .a (by assumption)|exact .v (by assumption),by assumption,Room.mono (by assumption) (by first|decide|lia),y8,uxN⟩
 |assumption
 |exact Room.mono (by assumption) (by first|decide|lia)
 |with_reducible exact Eg
 |with_reducible exact y8
 |with_reducible exact uxN
 |exact FnScope.nd (by assumption)
 |(apply nomark;decide)
 |(apply nodC;decide)
 |exact PassesOwn.leaving
 |exact λ_ _=>rfl
 |exact Or.inr (Or.inl rfl)
 |exact Or.inr rfl
 |exact Or.inr (Or.inr rfl)
 |rfl
 |exact λ_=>rfl
 |decide
 |exact⟨rfl,rfl,rfl,rfl⟩
 |with_reducible intro _)
local macro_rules | `(tactic| trivial) => `(tactic| first
 |eq_refl
 |(with_reducible first
 |(show DE _ _ _ _;exists 1)
 |refine da_c ?_ ?_ ?_
 |exact QS
 |(show DT _ _ _ _;exists 7)
 |(show DS _ _ _ _;exists 6)
 |exists 9)
 |exists 0)
set_option hygiene false in
local macro_rules | `(tactic| exists $t:ident, $g, [$fs,*]) => do let hs <- fs.getElems.mapM fun f => `(tactic| have := $f); `(tactic| exact fnS rfl ($g).F ($g).b #[rfl, rfl, rfl, by decide +kernel, rfl, by decide +kernel, by decide +kernel] fun hS _ A _ s _ _ _ _ hr ux => (by have hU := hr.units; have hu := vD hr; have hg := hr.gd; ($[$hs];*); unfold $t:ident; (first | refine e_ ?_ ?_ | refine h_ ?_); repeat' trivial))
set_option hygiene false in
local macro_rules | `(tactic| exists $t:ident, $g, [$fs,*], $[$ps:ident],*) => `(tactic| exists (_), $t:ident, $g, [$fs,*], $[$ps:ident],*)
set_option hygiene false in
local macro_rules | `(tactic| exists ($k), $t:ident, $g, [$fs,*], $[$ps:ident],*) => do let hs <- fs.getElems.mapM fun f => `(tactic| have := $f); `(tactic| exact fnS (k := $k) rfl ($g).F ($g).b #[rfl, rfl, rfl, by decide +kernel, rfl, by decide +kernel, by decide +kernel] fun hS _ A _ s _ _ _ _ hr ux => (by have hU := hr.units; have hu := vD hr; have hg := hr.gd; ($[$hs];*); unfold $t:ident $[$ps:ident]*; (first | refine e_ ?_ ?_ | refine h_ ?_); repeat' trivial))
variable{P:eS}{w:fx}{K:Ug}{mg:aa2}{base:g4}{ad:Ad}(E:En P w K mg base ad)
include E
theorem Rt:cm P w mg base E.f1.F E.f1.b 1 (JG ad):=by
 exists KO,E.f1,[E.u6,E.u21,E.u19,E.u45,E.u32,E.u20,E.u18,E.u22],Ew,Hz,Hh
theorem Mn:cm P w mg base E.f2.F E.f2.b 1 (xw ad):=by
 exists Kr,E.f2,[E.u36,E.u6,E.u22,E.u18,E.u23,E.u24],Gq
theorem Nr:cm P w mg base E.f3.F E.f3.b 2 (pJ ad):=by
 have:=Mn E
 exists yo,E.f3,[E.u6,E.u19,E.f2],A8
theorem NC:cm P w mg base E.f12.F E.f12.b 1 (zH ad):=by
 exists zN,E.f12,[],BA,Ap,Bi,zj,BZ
theorem ES:cm P w mg base E.f11.F E.f11.b 1 (mv ad):=by
 exists i_,E.f11,[],B9,Ba
theorem EM:cm P w mg base E.f10.F E.f10.b 2 (nq ad):=by
 have:=NC E;have:=ES E
 exists gE,E.f10,[E.f11,E.f12],zp,BG,zw
theorem vE:∀n:Nat,cm P w mg base E.f6.F E.f6.b (2+n) (Za ad n)/\cm P w mg base E.f7.F E.f7.b (2+n) (Zc ad n)/\cm P w mg base E.f8.F E.f8.b (2+n) (Zd ad n)/\cm P w mg base E.f9.F E.f9.b (2+n) (Ze ad n):=by
 have:=Nr E;have:=Mn E;have:=EM E;intro n
 induction n with
 |zero=>exact#[eL,eL,eL,eL]
 |succ n ih=>
  obtain⟨_,_,_,_⟩:=ih;refine#[?_,?_,?_,?_]
  .exists (2+n),z7,E.f6,[E.u33,E.f7],Am
  .exists (2+n),qx,E.f7,[E.f8,E.f9,E.f10,E.u6,E.u21,E.u19,E.u20,E.f2],B8,BP,Cn,Au,yJ,Bp
  .exists (2+n),Bb,E.f8,[E.u6,E.f3,E.f6],C0
  .exists (2+n),Hf,E.f9,[E.u6,E.f3,E.f6],zE,AO
theorem Q9:cm P w mg base E.f4.F E.f4.b 27 (ue ad):=by
 have:=Rt E;obtain⟨_,_,_,_⟩:=vE E 24
 exists yi,E.f4,[E.f1,E.u7,E.u6,E.f6,E.u23,E.u24,E.u22,E.u44,E.u19],yK,BO
theorem O_:cm P w mg base E.f5.F E.f5.b 28 (qF ad):=by
 have:=Q9 E
 exists Az,E.f5,[E.f4],zg,za
theorem Gp:cm P w mg base E.f13.F E.f13.b 1 (ug ad):=by
 exists z9,E.f13,[E.u37,E.u40]
theorem Pi:cm P w mg base E.f14.F E.f14.b 2 (yv ad):=by
 have:=Gp E
 exists B_,E.f14,[E.u32,E.f13],mj
theorem EA:cm P w mg base E.f15.F E.f15.b 1 (oG ad):=by
 exists uG,E.f15,[E.u35,E.u43],By
theorem PJ:cm P w mg base E.f16.F E.f16.b 1 (zn ad):=by
 exists jm,E.f16,[E.u37],AC,AB
theorem PB:cm P w mg base E.f17.F E.f17.b 2 (Bg ad):=by
 have:=Gp E;have:=EA E
 exists Gb,E.f17,[E.f13,E.f15]
theorem Ej:cm P w mg base E.f18.F E.f18.b 29 (vU ad):=by
 have:=O_ E
 exists Ax,E.f18,[E.f5,E.u25,E.u26],tE,qK,Ae
theorem wv:cm P w mg base E.f19.F E.f19.b 3 (pO ad):=by
 have:=PB E
 exists GD,E.f19,[E.f17]
theorem NS:cm P w mg base E.f20.F E.f20.b 1 (C7 ad):=by
 exists vN,E.f20,[],Ai
theorem Mv:cm P w mg base E.f21.F E.f21.b 1 (Hd ad):=by
 exists Kv,E.f21,[E.u2,E.u11,E.u12,E.u14,E.u13,E.u10],HF,FV,GJ
theorem Sf:cm P w mg base E.f22.F E.f22.b 3 (HW ad):=by
 have:=Mv E
 exists Jf,E.f22,[E.f21,E.u3,E.u2,E.u32,E.u11,E.u37,E.u12,E.u14,E.u13,E.u10,E.u35,E.u43],xk,Hx,G7,E4
theorem RZ:cm P w mg base E.f23.F E.f23.b 1 (QD ad):=by
 exists Jo,E.f23,[E.u0,E.u9,E.u8]
theorem Nc:cm P w mg base E.f24.F E.f24.b 1 (GW ad):=by
 exists Lm,E.f24,[E.u0,E.u8,E.u9,E.u27,E.u28],xD
theorem Hu:cm P w mg base E.f26.F E.f26.b 1 (nG ad):=by
 exists Ag,E.f26,[E.u41],sh
theorem O6:cm P w mg base E.f25.F E.f25.b 4 (zZ ad):=by
 have:=Mv E;have:=Hu E;have:=wv E
 exists Gi,E.f25,[E.u32,E.f19,E.f21,E.u3,E.u2,E.u45,E.u37,E.f26],Ce,zS,tU
theorem OI:cm P w mg base E.f28.F E.f28.b 3 (As ad):=by
 have:=Pi E;have:=PJ E;have:=ES E
 exists yf,E.f28,[E.u2,E.u14,E.f16,E.f14,E.f11,E.u11],z0,m3,rg,qP,zy
theorem P8:cm P w mg base E.f29.F E.f29.b 3 (Av ad):=by
 have:=EM E;have:=Hu E
 exists BE,E.f29,[E.u2,E.u10,E.u13,E.f26,E.u11,E.f10,E.u12,E.u14],qU,B6,C9,gY,tT,zP,yW,AR
theorem NU:cm P w mg base E.f27.F E.f27.b 4 (yk ad):=by
 have:=OI E;have:=P8 E
 exists Hq,E.f27,[E.u2,E.u13,E.u10,E.f28,E.f29,E.u14],sR,h8,sO,sg,sW,tu
theorem OX:cm P w mg base E.f30.F E.f30.b 1 (AF ad):=by
 exists BD,E.f30,[E.u2,E.u13,E.u11]
theorem Qn:cm P w mg base E.f31.F E.f31.b 4 (BS ad):=by
 have:=Sf E;have:=EA E
 exists A6,E.f31,[E.u2,E.f22,E.f15]
theorem D6:∀n:Nat,cm P w mg base E.f33.F E.f33.b (4+n) (Zg ad n):=by
 have:=Nc E;have:=Qn E;have:=NU E;have:=OX E;intro n
 induction n with
 |zero=>exact eL
 |succ n ih=>
  exists (4+n),Bk,E.f33,[E.f33,E.f27,E.f30,E.u0,E.f24,E.f31],sS,zu,A5,zV,zK
theorem Q3:OkV P w mg base E.f32.F E.f32.b 30 (yn ad):=by
 have:=RZ E;have:=Nc E;have:=D6 E 24;have:=Ej E;have:=O6 E;exact Tp rfl E.f32.F E.f32.b #[rfl,rfl,rfl,by decide +kernel,rfl,by decide +kernel,by decide +kernel] λhS _ A _ s _ _ _ _ hr ux=>(by have hU:=hr.units;have hu:=vD hr;have hg:=hr.gd;have:=E.f18;have:=E.f23;have:=E.u1;have:=E.u0;have:=E.f24;have:=E.f33;have:=E.f25;unfold FJ Br AN yD;(first|refine e_ ?_ ?_|refine h_ ?_);repeat' trivial)
theorem RT:cm P w mg base E.f34.F E.f34.b 1 (KD ad):=by
 exists Lp,E.f34,[E.u4,E.u17,E.u16,E.u15],Fs
theorem O8:cm P w mg base E.f35.F E.f35.b 31 (yR ad):=by
 have:=RT E;have:=Ej E;have:=Q3 E;have:=wv E;have:=NS E
 exists G3,E.f35,[E.f18,E.u32,E.u33,E.f19,E.f32,E.f34,E.u5,E.u4,E.f20],vT,uC,z5,h7,qM,tH,sX,qJ,rT,tO,rj
theorem FD:cm P w mg base E.f36.F E.f36.b 1 (ki ad):=by
 exists AD,E.f36,[E.u40]
theorem NK:cm P w mg base E.f37.F E.f37.b 2 (oN ad):=by
 have:=FD E
 exists BR,E.f37,[E.f36]
theorem Pb:cm P w mg base E.f39.F E.f39.b 32 (A7 ad):=by
 have:=O8 E
 exists Hk,E.f39,[E.f35,E.u4,E.u17,E.u15]
theorem NJ:cm P w mg base E.f40.F E.f40.b 1 (BM ad):=by
 exists Ch,E.f40,[E.u42,E.u30],lR,ic
theorem Ro:cm P w mg base E.f41.F E.f41.b 4 (Jt ad):=by
 have:=NK E;have:=FD E;have:=wv E
 exists IN,E.f41,[E.f19,E.f36,E.u42,E.f37],rf
theorem Oj:OkV P w mg base E.f38.F E.f38.b 33 (pL ad):=by
 have:=Pb E;have:=NJ E;have:=Ro E;exact Tp rfl E.f38.F E.f38.b #[rfl,rfl,rfl,by decide +kernel,rfl,by decide +kernel,by decide +kernel] λhS _ A _ s _ _ _ _ hr ux=>(by have hU:=hr.units;have hu:=vD hr;have hg:=hr.gd;have:=E.f41;have:=E.f40;have:=E.f39;unfold Ak;(first|refine e_ ?_ ?_|refine h_ ?_);repeat' trivial)
theorem PR:cm P w mg base E.f42.F E.f42.b 1 (mZ ad):=by
 exists Bj,E.f42,[],Ac
theorem P4:cm P w mg base E.f43.F E.f43.b 1 (BL ad):=by
 exists BU,E.f43,[E.u37],AU,Ci,Bw
theorem gk:cm P w mg base E.f44.F E.f44.b 2 (aZ ad):=by
 have:=PR E
 exists EU,E.f44,[E.f42],y_,BH,Ar,Cj,Aq,zG,yy,zC
theorem Ol:cm P w mg base E.f45.F E.f45.b 3 (AG ad):=by
 have:=gk E
 exists BQ,E.f45,[E.f44,E.u40,E.u44],z4,zo,B7
theorem Ps:cm P w mg base E.f46.F E.f46.b 3 (uv ad):=by
 have:=gk E
 exists BX,E.f46,[E.f44,E.u36],ua,uo,yb,BW,zq,BB,Bc,Bl,B0,BK,zU
theorem nA:∀n:Nat,cm P w mg base E.f47.F E.f47.b (3+n) (Y9 ad n)/\cm P w mg base E.f48.F E.f48.b (3+n) (Y8 ad n):=by
 have:=gk E;have:=Ps E;intro n
 induction n with
 |zero=>exact#[eL,eL]
 |succ n ih=>
  obtain⟨_,_⟩:=ih;refine#[?_,?_]
  .exists (3+n),Al,E.f47,[E.f44,E.u36,E.f48,E.u39],AL,B5,ye,Bt,yH,AK,zM,yr,yz
  .exists (3+n),Aj,E.f48,[E.u40,E.f44,E.f47,E.f46,E.u44],yC,AI,Ay,z6,yX,yu,Bv
theorem QI:cm P w mg base E.f49.F E.f49.b 28 (BV ad):=by
 have:=gk E;have:=Ol E;obtain⟨_,_⟩:=nA E 24
 exists Ab,E.f49,[E.f44,E.f45,E.f48,E.u36],AH,Aw,Cd,AA
theorem O1:cm P w mg base E.f50.F E.f50.b 3 (zF ad):=by
 have:=gk E
 exists HE,E.f50,[E.u44,E.f44,E.u40],yI
theorem ON:cm P w mg base E.f51.F E.f51.b 1 (vf ad):=by
 exists nP,E.f51,[E.u36],vY,uq,vp,A_,yL,C2,AZ,zb,yc,A1,AJ,Bu
theorem On:cm P w mg base E.f52.F E.f52.b 1 (ka ad):=by
 exists AW,E.f52,[E.u36],yG
theorem kO:∀n:Nat,cm P w mg base E.f53.F E.f53.b (1+n) (Zb ad n)/\cm P w mg base E.f54.F E.f54.b (1+n) (Y7 ad n):=by
 have:=ON E;have:=On E;intro n
 induction n with
 |zero=>exact#[eL,eL]
 |succ n ih=>
  obtain⟨_,_⟩:=ih;refine#[?_,?_]
  .exists (1+n),Ah,E.f53,[E.u40,E.f52,E.f54],lQ,sw,yj,qZ
  .exists (1+n),zB,E.f54,[E.f54,E.u33,E.f53,E.f52,E.f51],n8,tL,lV,lC,lX,yE,ra,tD,rP,sx
theorem FY:cm P w mg base E.f55.F E.f55.b 26 (og ad):=by
 obtain⟨_,_⟩:=kO E 24
 exists zx,E.f55,[E.u45,E.u32,E.f54,E.u44],AV,yT,zI
theorem HD:cm P w mg base E.f56.F E.f56.b 1 (uc ad):=by
 exists Hj,E.f56,[E.u44]
theorem xu:cm P w mg base E.f57.F E.f57.b 27 (oJ ad):=by
 have:=FY E
 exists yd,E.f57,[E.f55],lW,l_,tV
theorem OZ:cm P w mg base E.f58.F E.f58.b 3 (mS ad):=by
 have:=gk E
 exists yY,E.f58,[E.f44]
theorem Pa:cm P w mg base E.f59.F E.f59.b 28 (yq ad):=by
 have:=HD E;have:=xu E
 exists zr,E.f59,[E.u44,E.f56,E.f57],lJ,mr,la,lq,lI
theorem TN:cm P w mg base E.f60.F E.f60.b 1 (Ji ad):=by
 exists Ju,E.f60,[],tF,rO,mH,rE
theorem P6:cm P w mg base E.f61.F E.f61.b 29 (Cc ad):=by
 have:=Pa E;have:=TN E;have:=gk E;have:=HD E;have:=xu E;have:=OZ E;have:=QI E;have:=O1 E
 exists BF,E.f61,[E.f49,E.u38,E.f50,E.u37,E.f44,E.u36,E.f58,E.u39,E.u40,E.u44,E.f57,E.f56,E.f59,E.f60],nT,nc,mz,nL,nC,oS,mJ,iU,o7,nD,jk,jy,mB,iW,jp,ve,mI,Bq,sZ,tM,tN,qR,tz,sD,sH,rU
theorem FZ:cm P w mg base E.f62.F E.f62.b 1 (uT ad):=by
 exists BJ,E.f62,[E.u45,E.u40],rJ,sC
theorem PF:cm P w mg base E.f63.F E.f63.b 1 (ya ad):=by
 exists zA,E.f63,[E.u45,E.u40,E.u44],sU,qL,si,jt
theorem Pq:cm P w mg base E.f64.F E.f64.b 1 (AY ad):=by
 exists D_,E.f64,[E.u40],Bm,lE
theorem Sw:cm P w mg base E.f65.F E.f65.b 28 (Ko ad):=by
 have:=xu E;have:=PF E;have:=FY E;have:=Pq E;have:=FZ E
 exists Px,E.f65,[E.f62,E.f57,E.f64,E.u36,E.f55,E.f63,E.u44],F6,xF,EO,Ga,jW,xp,xB,nN,rD
theorem Qy:cm P w mg base E.f66.F E.f66.b 1 (AT ad):=by
 exists zD,E.f66,[]
theorem Og:cm P w mg base E.f67.F E.f67.b 2 (Bo ad):=by
 have:=Qy E
 exists yQ,E.f67,[E.f66,E.u37,E.u42],li,iP,q_
theorem Np:cm P w mg base E.f68.F E.f68.b 2 (yx ad):=by
 have:=FZ E
 exists yP,E.f68,[E.f62],k_
theorem om:∀n:Nat,cm P w mg base E.f69.F E.f69.b (0+n) (Zf ad n):=by
 intro n
 induction n with
 |zero=>exact eL
 |succ n ih=>
  exists (0+n),gg,E.f69,[E.f69,E.u35,E.u31,E.u34,E.u43,E.u44,E.u37,E.u36,E.u29,E.u45],zf,AQ,yO,Bh,z8,yV,zW,yg,B3
theorem Qr:cm P w mg base E.f70.F E.f70.b 34 (F7 ad):=by
 have:=om E 24;have:=P6 E;have:=gk E;have:=Og E;have:=P4 E;have:=Np E;have:=Sw E;have:=Oj E
 exists C3,E.f70,[E.f43,E.f61,E.f44,E.f65,E.f68,E.f67,E.f69,E.f38],lc,lN,lH,lD,ma,lO,lY,m5,tJ
end
end _T
namespace _3
open PySem _2
theorem aI(c:∀Q' E',Q' d M->T ds M Q' E')(h:Q d M):calls T EE ds M Q b:=
 am λQ' E' a _=>c Q' E' (a d M h)
theorem bJ(h:0<=i):fE xs i=xs[i.toNat]?:=by
 cases i with
 |ofNat k=>rfl
 |negSucc k=>exact absurd h (by lia)
@[simp] theorem atI_0:fE xs 0=xs[0]?:=rfl
@[simp] theorem atI_1:fE xs 1=xs[1]?:=rfl
@[simp] theorem atI_2:fE xs 2=xs[2]?:=rfl
@[simp] theorem atI_3:fE xs 3=xs[3]?:=rfl
@[simp] theorem atI_4:fE xs 4=xs[4]?:=rfl
theorem cu(I:List D->Dl->Mem->Prop)(c:∀xs U M,I xs U M->ok M)(f:∀U M,I [] U M->DD.nx U M)
  (i:∀x xs U M,I (x::xs) U M->∀D':DEnds,(∀a M',I xs a M'->D'.nx a M')->(∀a M',I xs a M'->D'.ct a M')->D'.rt=DD.rt->D'.bk=DD.nx->g x U M λδ2 M2=>j D' δ2 M2):∀xs U M,I xs U M->jr g j DD ok b xs U M
 |[],U,M,h=>#[c _ _ _ h,f U M h]
 |x::xs,U,M,h=>#[c _ _ _ h,i x xs U M h _ (λa M' e=>cu I c f i xs a M' e) (λa M' e=>cu I c f i xs a M' e) rfl rfl]
theorem bH(I:List D->List D->Dl->Mem->Prop)(e:∀xs aaO U M,I xs aaO U M->ok M)(j:∀aaO U M,I [] aaO U M->Q aaO M)
  (l:∀x xs aaO U M,I (x::xs) aaO U M->∀N:Bool->D->Dl->Mem->Prop,(∀y a M',aaO.length<sizeLine->I xs (aaO++[y]) a M'->N true y a M')->(∀y a M',I xs aaO a M'->N cp y a M')->g x U M λδ2 M2=>tt δ2 M2 λc M3=>if c=true then te δ2 M3 λy M4=>N true y δ2 M4 else N cp .non δ2 M3)
  (m:∀x xs aaO U M,I (x::xs) aaO U M->aaO.length<sizeLine):∀xs aaO U M,I xs aaO U M->cU g tt te ok Q b xs aaO U M
 |[],aaO,U,M,h=>#[e _ _ _ _ h,j aaO U M h]
 |x::xs,aaO,U,M,h=>#[e _ _ _ _ h,l x xs aaO U M h (λk y a M'=>if k=true then aaO.length<sizeLine/\cU g tt te ok Q b xs (aaO++[y]) a M' else cU g tt te ok Q b xs aaO a M')
   (λy a M' f i=>by rw[if_pos rfl];exact#[f,bH I e j l m xs _ a M' i]) (λy a M' i=>by rw[if_neg (by simp)];exact bH I e j l m xs _ a M' i) |> λz=>by simpa using z]
theorem bj(h:n<=1000000):n<=sizeLine:=Uu h (by decide)
theorem fC(h:n<1000000):n<sizeLine:=Us h (by decide)
end _3
namespace _T
open PySem _2 _3
variable{x:Str}
inductive Rw where
 |put (x:Str) (k:Int)|take (x:Str) (i:Int)|pick (x y:Str)|two (w x y z:Str)|ifr (x:Str) (a b:List Rw)|again (x:Str) (a:List Rw)
mutual
noncomputable def Rw.d:Rw->D
 |.put x k=>.tup [.str "put",.str x,.int k]
 |.take x i=>.tup [.str "take",.str x,.int i]
 |.pick x y=>.tup [.str "pick",.str x,.str y]
 |.two w x y z=>.tup [.str w,.str x,.str y,.str z]
 |.ifr x a b=>.tup [.str "if",.str x,.tup (aG a),.tup (aG b)]
 |.again x a=>.tup [.str "again",.str x,.tup (aG a)]
noncomputable def aG:List Rw->List D
 |[]=>[]
 |r::rs=>r.d::aG rs
end
theorem ib:∀rs:List Rw,aG rs=rs.map Rw.d
 |[]=>rfl
 |r::rs=>by rw[aG,ib rs];rfl
abbrev cD:=List (Str×Int)
noncomputable def gN(n:cD)(x:Str):Option Int:=(n.find? λp=>decide (p.1=x)).map (·.2)
def nm(n:cD)(x:Str):Int:=(gN n x).getD 0
noncomputable def sN(n:cD)(x:Str)(v:Int):cD:=n.map λp=>if p.1=x then (p.1,v) else p
noncomputable def d_(n:cD):List (aC×D):=n.map λp=>(UL p.1,D.int p.2)
theorem MA:∀{n:cD}{x:Str},x∈n.map (·.1)->gN n x=ap (nm n x)
 |[],_,h=>by simp at h
 |(y,v)::n,x,h=>by
  by_cases e:y=x
  .simp[gN,nm,e]
  simpa [gN,nm,e] using (MA<|by simpa [eq_comm,e] using h)
theorem ci:∀{n:cD}{x:Str},cI (d_ n) (UL x)=(gN n x).map D.int
 |[],x=>rfl
 |(y,v)::n,x=>by
  by_cases e:y=x
  .simp[cI,d_,gN,e]
  simpa [cI,d_,gN,e] using (ci)
theorem Em:∀{n:cD}{x:Str},x∈n.map (·.1)->((d_ n).any λkv=>decide (kv.1=UL x))=true
 |[],_,h=>by simp at h
 |(y,v)::n,x,h=>by
  by_cases e:y=x
  .simp[d_,e]
  .have:=Em (by simpa [eq_comm,e] using h)
   simp[d_]at this ⊢
   simp_all
theorem mh(h:x∈n.map (·.1)):eh (d_ n) (UL x) (.int v)=d_ (sN n x v):=by
 unfold eh;rw[Em h];simp only[d_,sN,Uq];apply UD;intro p _
 by_cases e:p.1=x
 .simp[e]
 simp[e]
theorem ju:(sN n x v).map (·.1)=n.map (·.1):=by
 simp only[sN,Uq];apply UD;intro p _
 by_cases e:p.1=x<;>simp[e]
theorem RS(h:x∈n.map (·.1)):gN (sN n x v) y=if y=x then ap v else gN n y:=by
 induction n with
 |nil=>simp at h
 |cons p n ih=>
  obtain⟨k,u⟩:=p
  by_cases e:k=x
  .subst e
   by_cases a:y=k
   .subst a;simp[gN,sN]
   simp[if_neg a];have b:¬k=y:=λz=>a z.symm
   by_cases c:k∈n.map (·.1)
   .simpa [gN,sN,b,if_neg a] using (ih c)
   simp only[gN,sN,Ud,if_pos,VN,b,decide_false];have:n.map (λp=>if p.1=k then (p.1,v) else p)=n:=by
    conv=>rhs;rw[<- Vu n]
    apply UD;intro p g;have:p.1≠k:=λz=>c (by rw[<- z];exact UI g)
    simp[this]
   rw[this]
  have:=ih (by simpa [UN e,e] using h)
  by_cases a:y=x
  .subst a;simpa [gN,sN,e] using this
  by_cases f:k=y
  .subst f;simp[gN,sN,e]
  .simpa [gN,sN,e,f,a] using this
structure Cf where
 m:Int
 pieces:List Int
 most:Nat
structure Sx where
 nums:cD
 steps:List (List Int×Int)
noncomputable def A9(w:Str)(y z m:Int):Int:=if w="sum" then (y+z) % m else if w="by" then y*z % m else if w="less" then (if y<z then 1 else 0) else if y=z then 1 else 0
def num(c:Cf)(n:cD):Rw->Int
 |.put _ k=>k
 |.take _ i=>(c.pieces[i.toNat]?).getD 0
 |.pick _ y=>(c.pieces[(nm n y % (c.pieces.length:Int)).toNat]?).getD 0
 |.two w _ y z=>A9 w (nm n y) (nm n z) c.m
 |_=>0
noncomputable def iF:Rw->Str
 |.put x _=>x
 |.take x _=>x
 |.pick x _=>x
 |.two _ x _ _=>x
 |.ifr x _ _=>x
 |.again x _=>x
noncomputable def nt(c:Cf)(pl:aaU)(v:Int)(s:Sx):Bool×Sx:=if s.steps.length<c.most then (true,#[s.nums,s.steps++[(pl,v)]]) else (cp,s)
def lk(n:cD)(x:Str):Int:=if nm n x=0 then 0 else 1
def fh(c:Cf)(x:Str)(pl:aaU)(body:Nat->Sx->Bool×Sx):Nat->Nat->Sx->Bool×Sx
 |0,_,s=>(cp,s)
 |f+1,t,s=>if (nt c (pl++[(t:Int)]) (lk s.nums x) s).1=true then
   (if lk s.nums x=1 then
    (if (body t (nt c (pl++[(t:Int)]) (lk s.nums x) s).2).1=true then fh c x pl body f (t+1) (body t (nt c (pl++[(t:Int)]) (lk s.nums x) s).2).2 else body t (nt c (pl++[(t:Int)]) (lk s.nums x) s).2)
   else nt c (pl++[(t:Int)]) (lk s.nums x) s)
  else nt c (pl++[(t:Int)]) (lk s.nums x) s
mutual
noncomputable def iO(c:Cf):Rw->List Int->Sx->Bool×Sx
 |.ifr x a b,pl,s=>if (nt c pl (lk s.nums x) s).1=true then (if lk s.nums x=1 then cc c a (pl++[lk s.nums x]) 0 (nt c pl (lk s.nums x) s).2 else cc c b (pl++[lk s.nums x]) 0 (nt c pl (lk s.nums x) s).2) else nt c pl (lk s.nums x) s
 |.again x a,pl,s=>fh c x pl (λt s=>cc c a (pl++[(t:Int)]) 0 s) (c.most+1) 0 s
 |.put x k,pl,s=>if (nt c pl (num c s.nums<|.put x k) s).1=true then (true,#[sN s.nums x (num c s.nums<|.put x k),(nt c pl (num c s.nums<|.put x k) s).2.steps]) else nt c pl (num c s.nums<|.put x k) s
 |.take x i,pl,s=>if (nt c pl (num c s.nums<|.take x i) s).1=true then (true,#[sN s.nums x (num c s.nums<|.take x i),(nt c pl (num c s.nums<|.take x i) s).2.steps]) else nt c pl (num c s.nums<|.take x i) s
 |.pick x y,pl,s=>if (nt c pl (num c s.nums<|.pick x y) s).1=true then (true,#[sN s.nums x (num c s.nums<|.pick x y),(nt c pl (num c s.nums<|.pick x y) s).2.steps]) else nt c pl (num c s.nums<|.pick x y) s
 |.two w x y z,pl,s=>if (nt c pl (num c s.nums<|.two w x y z) s).1=true then (true,#[sN s.nums x (num c s.nums<|.two w x y z),(nt c pl (num c s.nums<|.two w x y z) s).2.steps]) else nt c pl (num c s.nums<|.two w x y z) s
noncomputable def cc(c:Cf):List Rw->List Int->Nat->Sx->Bool×Sx
 |[],_,_,s=>(true,s)
 |r::rs,pl,j,s=>if (iO c r (pl++[(j:Int)]) s).1=true then cc c rs pl (j+1) (iO c r (pl++[(j:Int)]) s).2 else iO c r (pl++[(j:Int)]) s
end
def kP(c:Cf)(r:Rw)(pl:aaU)(s:Sx):Bool×Sx:=if s.steps.length<c.most then (true,#[sN s.nums (iF r) (num c s.nums r),s.steps++[(pl,num c s.nums r)]]) else (cp,s)
noncomputable def bi:Rw->Bool
 |.ifr _ _ _=>cp
 |.again _ _=>cp
 |_=>true
theorem cF(h:bi r=true):iO c r pl s=kP c r pl s:=by
 cases r with
 |ifr x a b=>trivial
 |again x a=>trivial
 |_=>simp[iO,kP,nt,iF];lia
theorem ofs_inj(a b:String):(WE a=WE b)=(a=b):=by
 refine propext #[λh=>?_,by lia]
 rw[Str.ofString_eq_byList]at h;exact String.toList_inj.mp ((List.map_inj_right λx y=>Char.toNat_inj.mp).mp<|congrArg (λx:Str=>x.cps.toList) h)
end _T
open PySem _2 _3 _T
local macro_rules | `(tactic| simp! [$a,*]) => do let p <- ("Hh Hz Ew Gq A8 BZ zj Bi Ap BA Ba B9 zw BG zp Am Bp yJ Au Cn BP B8 C0 AO zE BO yK za zg mj By AB AC Ae qK tE Ai GJ FV HF E4 G7 Hx xk xD sh tU zS Ce zy qP rg m3 z0 AR yW zP tT gY C9 B6 qU tu sW sg sO h8 sR zK zV A5 zu sS yD AN Br Fs rj tO rT qJ sX tH qM h7 z5 uC vT ic lR rf Ac Bw Ci AU zC yy zG Aq Cj Ar BH y_ B7 zo z4 zU BK B0 Bl Bc BB zq BW yb uo ua yz yr zM AK yH Bt ye B5 AL Bv yu yX z6 Ay AI yC AA Cd Aw AH yI Bu AJ A1 yc zb AZ C2 yL A_ vp uq vY yG qZ yj sw lQ sx rP tD ra yE lX lC lV tL n8 zI yT AV tV l_ lW lI lq la mr lJ rE mH rO tF rU sH sD tz qR tN tM sZ Bq mI ve jp iW mB jy jk nD o7 iU mJ oS nC nL mz nc nT sC rJ jt si qL sU lE Bm rD nN xB xp jW Ga EO xF F6 q_ iP li k_ B3 yg zW yV z8 Bh yO AQ zf tJ m5 lY lO ma lD lH lN lc jH Hy GQ QZ Fl Ck NE y3 tK rY vt iV dG gx iQ dS aD startN ai aE al cq DM ah bR pG dv cN fits aR gj ac dC az oi aB fH kQ QN uu Nj oI lj jA av aQ cG ao frz bc kX fk kC aq af dk aM da cW qS aa ag aU bw bn cC eG b_ dJ cH Oa jc F9 IH aV cA b6 iN bf DC iY Ik iE k9 gB eV cE Dz vb nE Fi oSl DY fg cJ aj dm iq bE fb vA So br fG cP dg fJ qd frzT frzs Pf iD vI nU".splitOn " ").toArray.mapM (fun s => `(Lean.Parser.Tactic.simpLemma| ↓$(Lean.mkIdent s.toName):ident)); let q <- ("List.map_cons List.map_nil List.cons_append List.nil_append List.length_cons List.length_nil List.getElem?_cons_succ List.getElem?_cons_zero List.set_cons_succ List.set_cons_zero Nat.zero_add Nat.reduceAdd Nat.reduceSub List.replicate_succ List.replicate_zero List.append_nil true_and and_true if_true if_false Bool.false_eq_true decide_eq_true_eq decide_eq_false_iff_not Bool.not_true Bool.not_false Bool.and_true Bool.true_and Bool.and_false Bool.false_and Mem.upd_same Option.isSome_some Option.isSome_none y9 Ll s2e_s Jm P3 t_ two_2 nil_0 cns_c no_0 no_1 C8 GS uz onS_s onTy_t onT_t onF_f T6 onBB_t onBB_f onIST_i onIST_s onIST_t onIST_r onIST_l onSR_s onSR_r onLR_l onLR_r onTM_t onTM_m onTM_r onTM_l onTe_t onTe_r onTe_l onRe_r onRe_n onRe_b onRe_i onRe_s onRe_t onRe_l onRe_f onRe_m onRe_ml mL_l mK_k mT_t mN_n mLe_l mLe_k mLe_t mLe_n mLe_0 mSet_l mSet_k mSet_t ofs_inj String.reduceEq".splitOn " ").toArray.mapM (fun s => `(Lean.Parser.Tactic.simpLemma| $(Lean.mkIdent s.toName):ident)); let r : Lean.TSyntaxArray [`Lean.Parser.Tactic.simpStar, `Lean.Parser.Tactic.simpErase, `Lean.Parser.Tactic.simpLemma] := (p.map (⟨·.raw⟩)) ++ (q.map (⟨·.raw⟩)) ++ a.getElems; `(tactic| simp -dsimp only [$r,*])
local macro_rules | `(tactic| simp_arith! only [$a,*]) => do let q <- ("y9 Ll s2e_s Jm P3 t_ two_2 nil_0 cns_c no_0 no_1 C8 GS uz onS_s onTy_t onT_t onF_f T6 onBB_t onBB_f onIST_i onIST_s onIST_t onIST_r onIST_l onSR_s onSR_r onLR_l onLR_r onTM_t onTM_m onTM_r onTM_l onTe_t onTe_r onTe_l onRe_r onRe_n onRe_b onRe_i onRe_s onRe_t onRe_l onRe_f onRe_m onRe_ml mL_l mK_k mT_t mN_n mLe_l mLe_k mLe_t mLe_n mLe_0 mSet_l mSet_k mSet_t ag".splitOn " ").toArray.mapM (fun s => `(Lean.Parser.Tactic.simpLemma| $(Lean.mkIdent s.toName):ident)); let r : Lean.TSyntaxArray [`Lean.Parser.Tactic.simpStar, `Lean.Parser.Tactic.simpErase, `Lean.Parser.Tactic.simpLemma] := (q.map (⟨·.raw⟩)) ++ a.getElems; `(tactic| simp -dsimp only [$r,*])
namespace _T
open PySem _2 _3
variable{names:aaV}
theorem kt(b:0<m)(i:0<=y)(g:y<1000)(h:Q (.int<|A9 w y z m) M):zH ad [.str w,.int y,.int z,.int m] M Q E:=by
 have f:CMul y z:=.inl #[by lia,by lia]
 unfold A9 at h;simp![Ri,zN]
 split
 .rename_i e;rw[if_pos e]at h;exact#[b,ak h]
 rename_i e;rw[if_neg e]at h
 split
 .rename_i e;rw[if_pos e]at h;exact#[f,b,ak h]
 rename_i e;rw[if_neg e]at h
 split
 .rename_i e;rw[if_pos e]at h
  split<;>rename_i a
  .rw[if_pos a]at h;exact ak h
  .rw[if_neg a]at h;exact ak h
 .rename_i e;rw[if_neg e]at h
  split<;>rename_i a
  .rw[if_pos a]at h;exact ak h
  .rw[if_neg a]at h;exact ak h
def de(names:aaV)(m many:Int):Rw->Prop
 |.put x k=>x∈names/\0<=k/\k<m
 |.take x i=>x∈names/\0<=i/\i<many
 |.pick x y=>x∈names/\y∈names/\0<many
 |.two w x y z=>(w="sum"\/w="by"\/w="less"\/w="same")/\x∈names/\y∈names/\z∈names
 |_=>False
structure NOk(names:aaV)(m:Int)(n:cD):Prop where
 keys:n.map (·.1)=names
 rng:∀p∈n,0<=p.2/\p.2<m
theorem NOk.at(h:NOk names m n)(f:x∈names):gN n x=ap (nm n x)/\0<=nm n x/\nm n x<m:=by
 have e:=MA (by rw[h.keys];exact f)
 refine#[e,?_];obtain⟨p,b,a⟩:=Vc.mp e;rw[<- a];exact h.rng p (List.mem_of_find?_eq_some b)
theorem J4(g:2<=m):0<=A9 w y z m/\A9 w y z m<m:=by
 unfold A9;have b:=VE (y+z) (show m≠0 by lia)
 have a:=Vm (y+z) (show 0<m by lia)
 have f:=VE (y*z) (show m≠0 by lia)
 have e:=Vm (y*z) (show 0<m by lia)
 lia
structure COk(c:Cf):Prop where
 m2:2<=c.m
 m1:c.m<=997
 rng:∀v∈c.pieces,0<=v/\v<c.m
 few:c.pieces.length<=1000
 most:c.most<=10000
theorem COk.piece(h:COk c)(a:i<c.pieces.length):c.pieces[i]?=ap ((c.pieces[i]?).getD 0)/\0<=(c.pieces[i]?).getD 0/\(c.pieces[i]?).getD 0<c.m:=by
 rw[Uc a];exact#[rfl,h.rng _<|by simp_all]
theorem C6(h:COk c)(f:NOk names c.m n)(a:de names c.m c.pieces.length r):0<=num c n r/\num c n r<c.m:=by
 cases r with
 |put x k=>exact a.2
 |take x i=>exact(h.piece<|by have:=a.2;lia).2
 |pick x y=>
  have b:=a.2.2;have e:=Vm (nm n y) b;exact(h.piece<|by lia).2
 |two w x y z=>exact J4 h.m2
 |ifr=>exact a.elim
 |again=>exact a.elim
def aW(c:Cf)(names:aaV)(rows:List Rw)(mk:Str):D:=.tup [.int c.m,.tup (names.map D.str),.int (c.pieces.length:Nat),.tup (aG rows),.str mk]
theorem cw(g:NOk names c.m n)(a:de names c.m c.pieces.length r)(f:M b=ap (.dK<|d_ n))(h:Q (match r with|.take _ i=>.int i|.pick _ y=>.int (nm n y % (c.pieces.length:Int))|_=>.non) M):mv ad [aW c names rows mk,.ref b,r.d] M Q E:=by
 cases r with
 |put x k=>(simp![qg,i_,Rw.d,atI_0];exact ak h)
 |take x i=>(simp![qg,i_,Rw.d,atI_0];exact ak h)
 |pick x y=>
  simp![qg,i_,Rw.d,atI_0,atI_2,f,ci,(g.at a.2.1).1];exact#[a.2.2,ak h]
 |two w x y z=>
  obtain⟨e,_⟩:=a;rcases e with rfl|rfl|rfl|rfl<;>(simp![qg,i_,aW,Rw.d,atI_0];exact ak h)
 |ifr=>exact a.elim
 |again=>exact a.elim
theorem ng(o:COk c)(e:NOk names c.m n)(b:de names c.m c.pieces.length r)(f:M u=ap (.dK<|d_ n))(h:Q (.int<|num c n r) M):nq ad [aW c names rows mk,.ref u,.tup (c.pieces.map D.int),r.d] M Q E:=by
 have C:=o.m1;cases r with
 |put x k=>
  simp![kH,gE,Rw.d,atI_0];exact ak h
 |take x i=>
  have a:=b;obtain⟨p,g,G⟩:=a;have l:(c.pieces.map D.int)[i.toNat]?=ap (.int<|num c n<|.take x i):=by rw[Um,(o.piece (i:=i.toNat)<|by lia).1];rfl
  simp![kH,gE,aW,Rw.d,atI_0,atI_2];refine aI (d:=.int i) (λ_ _ q=>cw (c:=c) (names:=names) (rows:=rows) (mk:=mk) (r:=.take x i) e b f q) ?_;simp![bJ g,l];exact ak h
 |pick x y=>
  have a:=b;obtain⟨p,s,g⟩:=a;have F:=Vm (nm n y) g;have l:(c.pieces.map D.int)[(nm n y % (c.pieces.length:Int)).toNat]?=ap (.int<|num c n<|.pick x y):=by rw[Um,(o.piece (i:=(nm n y % (c.pieces.length:Int)).toNat)<|by lia).1];rfl
  simp![kH,gE,aW,Rw.d,atI_0,atI_2];refine aI (d:=.int (nm n y % (c.pieces.length:Int))) (λ_ _ q=>cw (c:=c) (names:=names) (rows:=rows) (mk:=mk) (r:=.pick x y) e b f q) ?_;simp![bJ (VE (nm n y) (show (c.pieces.length:Int)≠0 by lia)),l]
  exact ak h
 |two w x y z=>
  have a:=b;obtain⟨A,p,s,v⟩:=a;have B:=e.at s;have j:((w=WE "put")=False):=by rcases A with rfl|rfl|rfl|rfl<;>exact eq_false (by decide +kernel)
  simp![kH,gE,aW,Rw.d,atI_0,atI_2,j];refine aI (d:=.non) (λ_ _ q=>cw (c:=c) (names:=names) (rows:=rows) (mk:=mk) e b f q) ?_;simp![atI_0,atI_2,atI_3,f,ci,B.1,(e.at v).1,Ve];exact aI (λ_ _ q=>kt (by lia) (by lia) (by lia) q) (ak h)
 |ifr=>exact b.elim
 |again=>exact b.elim
structure Wk where
 a:cb
 dn:cb
 ls:cb
 h1:a≠dn
 h2:a≠ls
 h3:dn≠ls
noncomputable def io(l:aaU):D:=.tup (l.map D.int)
def ww(l:List (List Int×Int)):List D:=l.map λp=>.tup [io p.1,.int p.2]
def wM(ad:Ad)(k:Wk)(c:Cf)(pD:D)(s:Sx)(M:Mem):Mem:=
 ((M.upd k.a<|.ins ad.C_Walk [("plan",pD),("numbers",.ref k.dn),("pieces",.tup (c.pieces.map D.int)),("most",.int (c.most:Nat)),("steps",.ref k.ls)]).upd k.dn<|.dK<|d_ s.nums).upd k.ls (.lst<|ww s.steps)
theorem pq:wM ad k c pD s M k.a=ap (.ins ad.C_Walk [("plan",pD),("numbers",.ref k.dn),("pieces",.tup (c.pieces.map D.int)),("most",.int (c.most:Nat)),("steps",.ref k.ls)]):=by
 unfold wM;rw[ae k.h2,ae k.h1,Mem.upd_same]
theorem AS:wM ad k c pD s M k.dn=ap (.dK<|d_ s.nums):=by unfold wM;rw[ae k.h3,Mem.upd_same]
theorem MB:wM ad k c pD s M k.ls=ap (.lst<|ww s.steps):=by unfold wM;simp_all
theorem Gy:(wM ad k c pD s M).upd k.ls (.lst<|ww x)=wM ad k c pD #[s.nums,x] M:=by unfold wM;simp_all
theorem Lh:(wM ad k c pD s M).upd k.dn (.dK<|d_ x)=wM ad k c pD #[x,s.steps] M:=by
 unfold wM;rw[aA (UN k.h3),Mem.upd_upd]
theorem lf0:UW ("plan":Str) [(("plan":Str),x0),(("numbers":Str),x1),(("pieces":Str),x2),(("most":Str),x3),(("steps":Str),x4)]=ap (x0:D):=rfl
theorem Ij:UW ("numbers":Str) [(("plan":Str),x0),(("numbers":Str),x1),(("pieces":Str),x2),(("most":Str),x3),(("steps":Str),x4)]=ap (x1:D):=rfl
theorem lf2:UW ("pieces":Str) [(("plan":Str),x0),(("numbers":Str),x1),(("pieces":Str),x2),(("most":Str),x3),(("steps":Str),x4)]=ap (x2:D):=rfl
theorem lf3:UW ("most":Str) [(("plan":Str),x0),(("numbers":Str),x1),(("pieces":Str),x2),(("most":Str),x3),(("steps":Str),x4)]=ap (x3:D):=rfl
theorem lf4:UW ("steps":Str) [(("plan":Str),x0),(("numbers":Str),x1),(("pieces":Str),x2),(("most":Str),x3),(("steps":Str),x4)]=ap (x4:D):=rfl
theorem lfm:UW ("note_step":Str) [(("plan":Str),x0),(("numbers":Str),x1),(("pieces":Str),x2),(("most":Str),x3),(("steps":Str),x4)]=(none:Option D):=rfl
theorem lfl:UW ("look":Str) [(("plan":Str),x0),(("numbers":Str),x1),(("pieces":Str),x2),(("most":Str),x3),(("steps":Str),x4)]=(none:Option D):=rfl
theorem gu(g:c.most<=10000)(e:(nt c pl v s).1=true->Q .non (wM ad k c pD (nt c pl v s).2 M))(b:(nt c pl v s).1=cp->E ad.C_Dry (wM ad k c pD (nt c pl v s).2 M)):
  xw ad [.ref k.a,io pl,.int v] (wM ad k c pD s M) Q E:=by
 unfold nt at e b;simp![u_q3,Kr,pq,MB,lf3,lf4,ww,Ub]
 split
 .have:¬s.steps.length<c.most:=by lia
  rw[if_neg this]at b;exact eI (b rfl)
 have f:s.steps.length<c.most:=by lia
 rw[if_pos f]at e;refine#[bj (by decide),fC (by lia),ak ?_]
 have:=e rfl;rw[<- Gy]at this;simpa [ww] using this
end _T
namespace _3
open PySem _2
def fX:Nat->List D->List D
 |_,[]=>[]
 |k,x::xs=>.tup [.int (k:Nat),x]::fX (k+1) xs
theorem uJ:∀(xs:List D)(k:Nat),(xs.zipIdx k).map (λp=>D.tup [.int (p.2:Nat),p.1])=fX k xs
 |[],_=>rfl
 |x::xs,k=>by rw[W6,Ud,uJ xs _];rfl
theorem oy(xs:List D):uV xs=fX 0 xs:=uJ xs 0
theorem aK:DIt.ok #[xs,[]] M:=λ_ h=>by cases h
end _3
namespace _T
open PySem _2 _3
variable{ad:Ad}{b l:cb}{c:Cf}{C:Cse}{g:Gs}{a m many v:Int}{ns nums xs:aaU}{aaO rest rs:List Rw}{names:aaV}{ks u us:List aC}{M M':Mem}{fi i j n:Nat}{r:Rw}{z:Sta}{w x y:Str}{s:Sx}{q:aC}
mutual
def f_(names:aaV)(m many:Int):Rw->Prop
 |.ifr x a b=>x∈names/\bg names m many a/\bg names m many b
 |.again x a=>x∈names/\bg names m many a
 |.put x k=>de names m many (.put x k)
 |.take x k=>de names m many (.take x k)
 |.pick x k=>de names m many (.pick x k)
 |.two w x y z=>de names m many (.two w x y z)
def bg(names:aaV)(m many:Int):List Rw->Prop
 |[]=>True
 |r::rs=>f_ names m many r/\bg names m many rs
end
mutual
noncomputable def hR:Rw->Nat
 |.ifr _ a b=>1+max (dy a) (dy b)
 |.again _ a=>1+dy a
 |_=>0
noncomputable def dy:List Rw->Nat
 |[]=>0
 |r::rs=>max (hR r) (dy rs)
end
theorem Ff{n:cD}(f:NOk names c.m n)(B:0<=v/\v<c.m):NOk names c.m (sN n x v):=by
 refine#[by rw[ju];exact f.keys,λp e=>?_]
 simp only[sN,Ul]at e;obtain⟨q,h,rfl⟩:=e
 split
 .exact B
 exact f.rng q h
theorem fW:(nt c pl v s).2.nums=s.nums:=by unfold nt;split<;>rfl
theorem lh(f:COk c)(h:de names c.m c.pieces.length r)(e:NOk names c.m s.nums):NOk names c.m (kP c r pl s).2.nums:=by
 unfold kP
 split
 .exact Ff e (C6 f e h)
 exact e
theorem AX{x:Str}(B:∀t s,NOk names c.m s.nums->NOk names c.m (e t s).2.nums):∀(f t:Nat)(s:Sx),NOk names c.m s.nums->NOk names c.m (fh c x pl e f t s).2.nums
 |0,_,s,h=>h
 |f+1,t,s,h=>by
  have p:NOk names c.m (nt c (pl++[(t:Int)]) (lk s.nums x) s).2.nums:=by rw[fW];exact h
  unfold fh
  split
  .split
   .split
    .exact AX B f _ _ (B t _ p)
    simp_all
   exact p
  exact p
mutual
theorem rH(e:COk c):∀(r:Rw),f_ names c.m c.pieces.length r->∀(pl:aaU)(s:Sx),NOk names c.m s.nums->NOk names c.m (iO c r pl s).2.nums
 |.ifr x a b,h,pl,s,hn=>by
  have f:NOk names c.m (nt c pl (lk s.nums x) s).2.nums:=by rw[fW];exact hn
  simp only[f_]at h;unfold iO
  split
  .split
   .exact dq e a h.2.1 _ _ _ f
   .exact dq e b h.2.2 _ _ _ f
  .exact f
 |.again x a,h,pl,s,hn=>by
  simp only[f_]at h;unfold iO;exact AX (λt s p=>dq e a h.2 _ _ _ p) _ _ _ hn
 |.put x k,h,pl,s,hn=>by rw[cF rfl];exact lh e (by simpa only[f_] using h) hn
 |.take x k,h,pl,s,hn=>by rw[cF rfl];exact lh e (by simpa only[f_] using h) hn
 |.pick x k,h,pl,s,hn=>by rw[cF rfl];exact lh e (by simpa only[f_] using h) hn
 |.two w x y z,h,pl,s,hn=>by rw[cF rfl];exact lh e (by simpa only[f_] using h) hn
theorem dq(e:COk c):∀(rs:List Rw),bg names c.m c.pieces.length rs->∀(pl:aaU)(j:Nat)(s:Sx),NOk names c.m s.nums->NOk names c.m (cc c rs pl j s).2.nums
 |[],_,_,_,s,hn=>by simpa only[cc] using hn
 |r::rs,h,pl,j,s,hn=>by
  simp only[bg]at h;unfold cc
  split
  .exact dq e rs h.2 _ _ _ (rH e r h.1 _ _ hn)
  .exact rH e r h.1 _ _ hn
end
def Post(ad:Ad)(k:Wk)(c:Cf)(pD:D)(r:Bool×Sx)(M:Mem)(d:D)(Q:DK)(E:DX):Prop:=(r.1=true->Q d (wM ad k c pD r.2 M))/\(r.1=cp->E ad.C_Dry (wM ad k c pD r.2 M))
theorem bz{r:Bool×Sx}(F:∀Q' E',Post ad k c f r M d Q' E'->T ds M0 Q' E'){b:BxQ E Q}(h:Post ad k c f r M d Q E):calls T E ds M0 Q b:=
 am λQ' E' B p=>F Q' E' #[λe=>B _ _ (h.1 e),λe=>p _ _ (h.2 e)]
theorem Post.drp{r:Bool×Sx}(h:Post ad k c f r M d Q E):Post ad k c f r M d (_3.drp Q) (aJ E):=#[λe=>ak (h.1 e),λe=>eI (h.2 e)]
theorem pV(p:COk c)(F:NOk names c.m s.nums)(B:x∈names)(h:Post ad k c (aW c names aaS mk) (nt c pl (lk s.nums x) s) M (.int<|lk s.nums x) Q E):
  pJ ad [.ref k.a,io pl,.str x] (wM ad k c (aW c names aaS mk) s M) Q E:=by
 have f:∀v:Int,v=lk s.nums x->calls (xw ad) (aJ E) [.ref k.a,io pl,.int v] (wM ad k c (aW c names aaS mk) s M) (λ_ M1=>_3.drp Q (.int v) M1) #[]:=by
  rintro v rfl
  exact bz (λQ' E' z=>gu p.most z.1 z.2) #[λe=>ak (h.1 e),λe=>eI (h.2 e)]
 simp![Rq,yo,pq,AS,Ij,lfm,ci,(F.at B).1,Ve]
 split
 .rename_i e
  exact f 0 (by unfold lk;rw[if_pos e])
 rename_i e
 exact f 1 (by unfold lk;rw[if_neg e])
theorem k7(h:de names m many r):∃w rest,r.d=.tup (.str w::.str (iF r)::rest)/\(w="again")=False/\(w="if")=False:=by
 cases r with
 |two w x y z=>
  refine#[_,_,rfl,?_];rcases h.1 with rfl|rfl|rfl|rfl
  .exact#[by trivial,(eq_false<|by decide +kernel)]
  .exact#[(eq_false<|by decide +kernel),(eq_false<|by decide +kernel)]
  .exact#[(eq_false<|by decide +kernel),(eq_false<|by decide +kernel)]
  exact#[(eq_false<|by decide +kernel),(eq_false<|by decide +kernel)]
 |ifr=>exact h.elim
 |again=>exact h.elim
 |_=>exact#[_,_,rfl,(eq_false<|by decide +kernel),(eq_false<|by decide +kernel)]
theorem tq(R:names.length<=1000)(O:COk c)(H:NOk names c.m s.nums)(f:de names c.m c.pieces.length r)(h:Post ad k c (aW c names aaS mk) (kP c r pl s) M .non Q E):
  Zc ad (n+1) [.ref k.a,r.d,io pl] (wM ad k c (aW c names aaS mk) s M) Q E:=by
 obtain⟨w,rest,I,G,B⟩:=k7 f;have fin:calls (nq ad) (aJ E) [aW c names aaS mk,.ref k.dn,.tup (c.pieces.map D.int),r.d] (wM ad k c (aW c names aaS mk) s M) (λd M'=>frz d M' λx M1=>
   af 3 x [ap (.ref k.a),ap r.d,ap (io pl),bb] M1 λU M2=>ai (b6<|dm ad.C_Walk "note_step" (xw ad) (aJ E) 3 (ac 0)<|aa (ac 2)<|aa (ac 3) ag)
    (aq (ac 3)<|cW (aV ad.C_Walk (ac 0) "numbers")<|ah av (ac 1)<|dC<|.int 1) { nx:=λ_ M'=>_3.drp Q .non M',rt:=_3.drp Q } U M2) #[]:=by
  refine aI (λ_ _ q=>ng O H f AS q) ?_;simp![pq,lfm];refine bz (λQ' E' z=>gu O.most z.1 z.2) ?_;unfold kP at h;unfold nt;have e:iF r∈s.nums.map (·.1):=by
   rw[H.keys];cases r with
   |two w x y z=>exact f.2.1
   |ifr=>exact f.elim
   |again=>exact f.elim
   |_=>exact f.1
  split
  .rename_i F
   rw[if_pos F]at h;refine#[λ_=>?_,by lia]
   have J:=h.1 rfl;have P:wM ad k c (aW c names aaS mk) #[sN s.nums (iF r) (num c s.nums r),s.steps++[(pl,num c s.nums r)]] M=(wM ad k c (aW c names aaS mk) #[s.nums,s.steps++[(pl,num c s.nums r)]] M).upd k.dn (.dK<|eh (d_ s.nums) (UL<|iF r)<|.int<|num c s.nums r):=by
    rw[mh e,Lh]
   rw[P]at J;have p:(d_ s.nums).length<sizeLine:=by rw[d_,Ub,<- Ub,H.keys];exact fC (by lia)
   rw[I];simp![pq,AS,Ij,atI_1];exact#[p,ak J]
  .rename_i F
   rw[if_neg F]at h;exact#[by lia,λ_=>eI (h.2 rfl)]
 rw[I]at fin ⊢;simp![FT,qx,pq,lf0,Ij,lf2,atI_0,G,B];exact fin
def Gr(c:Cf)(s s':Sx):Prop:=s.steps.length<=s'.steps.length/\(s.steps.length<=c.most->s'.steps.length<=c.most)
theorem Gr.refl:Gr c s s:=#[by lia,id]
theorem Gr.trans{s2:Sx}(a:Gr c s e)(b:Gr c e s2):Gr c s s2:=#[Uu a.1 b.1,λh=>b.2 (a.2 h)]
theorem nt_gr:Gr c s (nt c pl v s).2:=by
 unfold nt
 split
 .refine#[by simp,λ_=>?_];simp;lia
 exact Gr.refl
theorem me:Gr c s (kP c r pl s).2:=by
 unfold kP
 split
 .refine#[by simp,λ_=>?_];simp;lia
 exact Gr.refl
theorem Bf{x:Str}(h:∀t s,Gr c s (e t s).2):∀(f t:Nat)(s:Sx),Gr c s (fh c x pl e f t s).2
 |0,_,s=>Gr.refl
 |f+1,t,s=>by
  unfold fh
  split
  .split
   .split
    .exact nt_gr.trans ((h t _).trans<|Bf h f _ _)
    exact nt_gr.trans (h t _)
   exact nt_gr
  exact nt_gr
mutual
theorem sY:∀(r:Rw)(pl:aaU)(s:Sx),Gr c s (iO c r pl s).2
 |.ifr x a b,pl,s=>by
  unfold iO
  split
  .split
   .exact nt_gr.trans (fP a _ _ _)
   .exact nt_gr.trans (fP b _ _ _)
  .exact nt_gr
 |.again x a,pl,s=>by
  unfold iO;exact Bf (λt s=>fP a _ _ _) _ _ _
 |.put x k,pl,s=>by rw[cF rfl];exact me
 |.take x k,pl,s=>by rw[cF rfl];exact me
 |.pick x k,pl,s=>by rw[cF rfl];exact me
 |.two w x y z,pl,s=>by rw[cF rfl];exact me
theorem fP:∀(rs:List Rw)(pl:aaU)(j:Nat)(s:Sx),Gr c s (cc c rs pl j s).2
 |[],_,_,s=>by unfold cc;exact Gr.refl
 |r::rs,pl,j,s=>by
  unfold cc
  split
  .exact(sY r _ _).trans (fP rs _ _ _)
  .exact sY r _ _
end
theorem gr:D.tup (pl.map D.int++[D.int v])=io (pl++[v]):=by simp[io]
def yF(ad:Ad)(k:Wk)(c:Cf)(names:aaV)(aaS:List Rw)(mk:Str)(n:Nat):Prop:=∀(rs:List Rw)(pl:aaU)(s:Sx)(M:Mem)(Q:DK)(E:DX),bg names c.m c.pieces.length rs->3*dy rs+2<=n->pl.length+2*dy rs+2<=1000->NOk names c.m s.nums->s.steps.length<=c.most->
 Post ad k c (aW c names aaS mk) (cc c rs pl 0 s) M .non Q E->Za ad n [.ref k.a,.tup (aG rs),io pl] (wM ad k c (aW c names aaS mk) s M) Q E
def Oh(ad:Ad)(k:Wk)(c:Cf)(names:aaV)(aaS:List Rw)(mk:Str)(n:Nat):Prop:=∀(r:Rw)(pl:aaU)(s:Sx)(M:Mem)(Q:DK)(E:DX),f_ names c.m c.pieces.length r->3*hR r+1<=n->pl.length+2*hR r+1<=1000->NOk names c.m s.nums->s.steps.length<=c.most->
 Post ad k c (aW c names aaS mk) (iO c r pl s) M .non Q E->Zc ad n [.ref k.a,r.d,io pl] (wM ad k c (aW c names aaS mk) s M) Q E
def PIf(ad:Ad)(k:Wk)(c:Cf)(names:aaV)(aaS:List Rw)(mk:Str)(n:Nat):Prop:=∀(x:Str)(a b:List Rw)(pl:aaU)(s:Sx)(M:Mem)(Q:DK)(E:DX),f_ names c.m c.pieces.length (.ifr x a b)->3*hR (.ifr x a b)<=n->pl.length+2*hR (.ifr x a b)+1<=1000->NOk names c.m s.nums->s.steps.length<=c.most->
 Post ad k c (aW c names aaS mk) (iO c (.ifr x a b) pl s) M .non Q E->Zd ad n [.ref k.a,(Rw.ifr x a b).d,io pl] (wM ad k c (aW c names aaS mk) s M) Q E
def PAg(ad:Ad)(k:Wk)(c:Cf)(names:aaV)(aaS:List Rw)(mk:Str)(n:Nat):Prop:=∀(x:Str)(a:List Rw)(pl:aaU)(s:Sx)(M:Mem)(Q:DK)(E:DX),f_ names c.m c.pieces.length (.again x a)->3*hR (.again x a)<=n->pl.length+2*hR (.again x a)+1<=1000->NOk names c.m s.nums->s.steps.length<=c.most->
 Post ad k c (aW c names aaS mk) (iO c (.again x a) pl s) M .non Q E->Ze ad n [.ref k.a,(Rw.again x a).d,io pl] (wM ad k c (aW c names aaS mk) s M) Q E
theorem Dn(T:COk c)(W:Oh ad k c names aaS mk n):yF ad k c names aaS mk (n+1):=by
 intro rs pl s M Q E p S H B F h;simp![Sc,z7,cV,oy]
 refine cu (λxs U M'=>∃(f:List Rw)(j:Nat)(G:Sx)(O P:Option D),xs=fX j (aG f)/\U=[ap _,ap _,ap _,O,P]/\M'=wM ad k c _ G M/\bg _ c.m _ f/\3*dy f+2<=n+1/\pl.length+2*dy f+2<=1000/\NOk _ _ G.nums/\G.steps.length<=c.most/\
  Post ad k c _ (cc c f pl j G) M _ Q E) (λ_ _ _ _=>aK) ?_ ?_ _ _ _ #[rs,0,s,_,_,rfl,rfl,rfl,p,S,H,B,F,h]
 .rintro U M' ⟨f,j,G,O,P,J,rfl,rfl,p,S,H,B,F,h⟩
  cases f with
  |nil=>exact ak (by simpa [cc] using h.1 (by simp[cc]))
  |cons r rs=>trivial
 rintro x xs U M' ⟨f,j,G,O,P,J,rfl,rfl,p,S,H,B,F,h⟩ D' R _ _ _
 cases f with
 |nil=>simp[aG,fX]at J
 |cons r f=>
  simp only[aG,fX,U7]at J;obtain⟨rfl,rfl⟩:=J;simp only[bg]at p;have X:hR r<=dy (r::f)/\dy f<=dy (r::f):=by simp only[dy];lia
  simp![io,UC,Ub];refine#[bj (by decide),bj (by lia),?_]
  rw[gr];refine bz (r:=iO c r (pl++[(j:Int)]) G) (d:=.non) (λQ' E' z=>W r (pl++[(j:Int)]) G M Q' E' p.1 (by lia) (by simp;lia) B F z) ?_
  simp only[cc]at h;cases I:(iO c r (pl++[(j:Int)]) G).1 with
  |true=>
   rw[if_pos I]at h;refine#[λ_=>R _ _ #[f,j+1,_,_,_,rfl,rfl,rfl,p.2,by lia,by lia,rH T r p.1 _ _ B,(sY r _ _).2 F,h],λe=>by rw[I]at e;cases e]
  |false=>
   rw[if_neg (by rw[I];simp)]at h
   exact#[λe=>(by rw[I]at e;cases e),λ_=>eI (h.2 I)]
theorem EC(H:names.length<=1000)(I:COk c)(F:PIf ad k c names aaS mk n)(G:PAg ad k c names aaS mk n):Oh ad k c names aaS mk (n+1):=by
 intro r pl s M Q E B J p e f h;cases r with
 |ifr x a b=>
  simp![FT,qx,Rw.d,atI_0];exact bz (λQ' E'=>F x a b pl s M Q' E' B (by lia) p e f) h.drp
 |again x a=>
  simp![FT,qx,Rw.d,atI_0];exact bz (λQ' E'=>G x a pl s M Q' E' B (by lia) p e f) h.drp
 |_=>rw[cF rfl]at h;exact tq H I e (by assumption) h
theorem IA(O:COk c)(I:yF ad k c names aaS mk n):PIf ad k c names aaS mk (n+1):=by
 intro x a b pl s M Q E p J F B G h;simp only[hR]at J F;simp![Tq,Bb,Rw.d,pq,lfl,atI_1,atI_2,atI_3];refine bz (λQ' E' z=>pV O B p.1 z) ?_;have hl:lk s.nums x=0\/lk s.nums x=1:=by unfold lk;split<;>simp
 have f:NOk names c.m (nt c pl (lk s.nums x) s).2.nums:=by rw[fW];exact B
 have e:=(nt_gr (pl:=pl) (v:=lk s.nums x)).2 G;unfold iO at h;cases H:(nt c pl _ s).1 with
 |false=>
  rw[if_neg (by rw[H];simp)]at h
  exact#[by lia,λ_=>eI (h.2 H)]
 |true=>
  rw[if_pos H]at h;refine#[λ_=>?_,by lia]
  rcases hl with hl|hl
  .rw[hl]at h f e ⊢
   simp![atI_2,atI_3,io,Ub];refine#[bj (by decide),bj (by lia),?_]
   rw[gr];exact bz (λQ' E' z=>I b _ _ M Q' E' p.2.2 (by lia) (by simp;lia) f e z) h.drp
  .rw[hl]at h f e ⊢
   simp![atI_2,atI_3,io,Ub];refine#[bj (by decide),bj (by lia),?_]
   rw[gr];exact bz (λQ' E' z=>I a _ _ M Q' E' p.2.1 (by lia) (by simp;lia) f e z) h.drp
theorem wY(hc:COk c)(ih:yF ad k c names aaS mk n):PAg ad k c names aaS mk (n+1):=by
 intro x a pl s M Q E I hn T G J h;simp only[f_]at I;simp only[hR]at hn T;refine#[c.most+1,?_];unfold iO at h
 have W:∀(f t:Nat)(s:Sx)(S:eW)(O:ar)(DD:DEnds)(b:BxW S O DD),NOk names c.m s.nums->s.steps.length<=c.most->c.most<s.steps.length+f->
   S=al (ah bR (ao<|dm ad.C_Walk "look" (pJ ad) (aJ E) 3 (ac 0)<|aa (ah bc (ac 2)<|aU<|aa (ac 3) ag)<|aa (ah av (ac 1)<|dC<|.int 1) ag)<|dC<|.int 1)->
   O=ai (b6<|aj (Za ad n) (aJ E) 3<|aa (ac 0)<|aa (ah av (ac 1)<|dC<|.int 2)<|aa (ah bc (ac 2)<|aU<|aa (ac 3) ag) ag) (Fi 3 (dC<|.int 1) HJ)->
   DD.nx=(λ_ M'=>_3.drp Q .non M')->
   Post ad k c (aW c names aaS mk) (fh c x pl (λt s=>cc c a (pl++[(t:Int)]) 0 s) f t s) M .non Q E->
   cK S O DD b f [ap (.ref k.a),ap (.tup [.str "again",.str x,.tup (aG a)]),ap (io pl),ap (.int (t:Int))] (wM ad k c (aW c names aaS mk) s M):=by
  intro f
  induction f with
  |zero=>intro t s S O DD b G J hf;lia
  |succ f ihf=>
   intro t s S O DD b G J hf Y X R h;unfold cK;subst Y;simp![pq,lfl,atI_1,io,UC,Ub];refine#[bj (by decide),bj (by lia),?_]
   rw[gr];refine bz (d:=.int (lk s.nums x)) (λQ' E' z=>pV hc G I.1 z) ?_;have hl:lk s.nums x=0\/lk s.nums x=1:=by unfold lk;split<;>simp
   have B:NOk names c.m (nt c (pl++[(t:Int)]) (lk s.nums x) s).2.nums:=by rw[fW];exact G
   have F:=(nt_gr (c:=c) (pl:=pl++[(t:Int)]) (v:=lk s.nums x) (s:=s)).2 J;unfold fh at h;cases H:(nt c (pl++[(t:Int)]) (lk s.nums x) s).1 with
   |false=>
    rw[if_neg (by rw[H];simp)]at h
    exact#[λe=>(by rw[H]at e;cases e),λ_=>eI (h.2 H)]
   |true=>
    rw[if_pos H]at h;refine#[λ_=>?_,λe=>by rw[H]at e;cases e]
    have P:(nt c (pl++[(t:Int)]) (lk s.nums x) s).2.steps.length=s.steps.length+1:=by
     unfold nt at H ⊢
     split at H
     .rename_i q;rw[if_pos q];simp
     .cases H
    rcases hl with hl|hl
    .rw[hl]at h ⊢
     simp![show ((0:Int)=1)=False from eq_false (by decide)]
     rw[R];rw[hl]at H;exact ak (h.1 H)
    .rw[if_pos hl]at h
     rw[hl]at h B F P ⊢;simp![];subst X;simp![atI_2,io,UC,Ub];refine#[bj (by decide),bj (by lia),?_]
     rw[gr];refine bz (λQ' E' z=>ih a (pl++[(t:Int)]) _ M Q' E' I.2 (by lia) (by simp;lia) B F z) ?_
     have Z:=fP (c:=c) a (pl++[(t:Int)]) 0 (nt c (pl++[(t:Int)]) 1 s).2;cases p:(cc c a (pl++[(t:Int)]) 0 (nt c (pl++[(t:Int)]) 1 s).2).1 with
     |true=>
      rw[if_pos p]at h;refine#[λ_=>?_,λe=>by rw[p]at e;cases e]
      simp![];exact ihf (t+1) _ _ _ _ _ (dq hc a I.2 _ _ _ B) (Z.2 F) (by have:=Z.1;lia) rfl rfl R h
     |false=>
      rw[if_neg (by rw[p];simp)]at h
      exact#[λe=>(by rw[p]at e;cases e),λ_=>eI (h.2 p)]
 exact W (c.most+1) 0 s _ _ _ _ G J (by lia) rfl rfl rfl h
theorem uw(f:names.length<=1000)(e:COk c):∀n:Nat,yF ad k c names aaS mk n/\Oh ad k c names aaS mk n/\PIf ad k c names aaS mk n/\PAg ad k c names aaS mk n
 |0=>#[λrs pl s M Q E _ h=>by lia,λr pl s M Q E _ h=>by lia,λx a b pl s M Q E _ h=>by simp[hR]at h;lia,λx a pl s M Q E _ h=>by simp[hR]at h;lia]
 |n+1=>by
  obtain⟨p,G,B,F⟩:=uw f e n;exact#[Dn e G,EC f e B F,IA e p,wY e p]
theorem uX:∀(names:aaV)(nums:aaU)(aaO:cD),names.length=nums.length->(aaO.map (·.1)++names).Nodup->
  ((names.map λx=>(UL x:aC)).zip<|nums.map D.int).foldl (λa p=>eh a p.1 p.2) (d_ aaO)=d_ (aaO++names.zip nums)
 |[],nums,aaO,_,_=>by simp
 |x::names,[],aaO,h,_=>by simp at h
 |x::names,v::nums,aaO,h,nd=>by
  have F:x∉aaO.map (·.1):=by
   exact λI=>((Wb.mp nd).2.2) x I x (by simp) rfl
  have f:((d_ aaO).any λG=>decide (G.1=UL x))=false:=by
   rw[Xz];intro p B;simp only[d_,Ul]at B;obtain⟨q,J,rfl⟩:=B;simp only[decide_eq_true_eq];intro e;exact F (by rw[<- (Sum.inr.inj e)];exact UI J)
  simp;have H:eh (d_ aaO) (UL x) (.int v)=d_ (aaO++[(x,v)]):=by
   unfold eh;rw[f];simp[d_]
  rw[H,uX _ _ _ (by simpa using h) (by simp_all)]
  simp
theorem eJ:∀names:List Str,eV (names.map D.str)=ap (names.map λx=>(UL x:aC))
 |[]=>rfl
 |x::names=>by simp[eV,cE,eJ _]
theorem gC(h:names.length=nums.length)(nd:names.Nodup):LL (names.map λx=>(UL x:aC)) (nums.map D.int)=d_ (names.zip nums):=by
 have:=uX _ _ [] h (by trivial)
 assumption
theorem dp1:bV "plan" d []=[(("plan":Str),d)]:=rfl
theorem dp2{a:D}:bV "numbers" d [(("plan":Str),a)]=[(("plan":Str),a),(("numbers":Str),d)]:=rfl
theorem dp3{a b:D}:bV "pieces" d [(("plan":Str),a),(("numbers":Str),b)]=[(("plan":Str),a),(("numbers":Str),b),(("pieces":Str),d)]:=rfl
theorem dp4{a b:D}:bV "most" d [(("plan":Str),a),(("numbers":Str),b),(("pieces":Str),e)]=[(("plan":Str),a),(("numbers":Str),b),(("pieces":Str),e),(("most":Str),d)]:=rfl
theorem dp5{a b g:D}:bV "steps" d [(("plan":Str),a),(("numbers":Str),b),(("pieces":Str),e),(("most":Str),g)]=[(("plan":Str),a),(("numbers":Str),b),(("pieces":Str),e),(("most":Str),g),(("steps":Str),d)]:=rfl
noncomputable def bC(nums pieces:aaU):D:=.tup [.tup (nums.map D.int),.tup (pieces.map D.int)]
theorem CH{a:cb}(J:M a=bb)(F:names.length=nums.length)(H:names.Nodup)(G:0<names.length)(I:names.length<=1000)(h:∀(k:Wk),k.a=a->M k.dn=bb->M k.ls=bb->Q .non (wM ad k c (aW c names rows mk) #[names.zip nums,[]] M)):
  JG ad [.ref a,aW c names rows mk,bC nums c.pieces,.int (c.most:Nat)] (M.upd a<|.ins ad.C_Walk []) Q E:=by
 simp![u_q6,KO,aW,bC,Mem.upd_upd,atI_0,atI_1,eJ,Ub,dp1];refine#[by decide,F,G,I,λdn p=>?_]
 have n1:=Mem.ne Mem.upd_same p;simp![ae n1,atI_1];refine#[by simp,?_]
 simp![dp2,dp3,aA (UN n1),Mem.upd_upd];refine#[by simp,?_]
 refine#[by simp,by trivial,λls f=>?_]
 have n2:a≠ls:=by
  rintro rfl
  rw[ae n1,Mem.upd_same]at f;cases f
 have B:dn≠ls:=by
  intro e;simp_all
 simp![ae n2,ae n1,dp4,aA (UN n1),Mem.upd_upd,gC F H];refine#[by simp,ak ?_]
 have:=h #[a,dn,ls,n1,n2,B] rfl (by rw[ae (UN n1)]at p;exact p) (by rw[ae (UN B),ae (UN n2)]at f;exact f)
 have e:wM ad #[a,dn,ls,n1,n2,B] c (aW c names rows mk) #[names.zip nums,[]] M=(((M.upd a<|.ins ad.C_Walk [("plan",aW c names rows mk),("numbers",.ref dn),("pieces",.tup (c.pieces.map D.int)),("most",.int c.most)]).upd dn<|.dK<|d_<|names.zip nums).upd ls<|.lst []).upd a (.ins ad.C_Walk [("plan",aW c names rows mk),("numbers",.ref dn),("pieces",.tup (c.pieces.map D.int)),("most",.int c.most),("steps",.ref ls)]):=by
  rw[aA (UN n2),aA (UN n1),Mem.upd_upd];rfl
 rw[e]at this;exact this
def dj(c:Cf)(names:aaV)(rows:List Rw)(nums:aaU):Bool×Sx:=cc c rows [] 0 #[names.zip nums,[]]
def dw(names:aaV)(r:Bool×Sx):D:=if r.1=true then .tup (names.map λx=>.int (nm r.2.nums x)) else .non
structure PlOk(c:Cf)(names:aaV)(rows:List Rw)(nums:aaU):Prop where
 co:COk c
 ln:names.length=nums.length
 nd:names.Nodup
 l0:0<names.length
 l1:names.length<=1000
 rng:∀v∈nums,0<=v/\v<c.m
 ok:bg names c.m c.pieces.length rows
 h:dy rows<=7
theorem gh:∀{names:aaV}{nums:aaU},names.length=nums.length->(names.zip nums).map (·.1)=names
 |[],[],_=>rfl
 |[],_::_,h=>by simp at h
 |_::_,[],h=>by simp at h
 |x::xs,v::vs,h=>by simp[gh (by simpa using h)]
theorem PlOk.nok(p:PlOk c names rows nums):NOk names c.m (names.zip nums):=#[gh p.ln,λq e=>p.rng _ (Wu e).2]
theorem Ft(p:PlOk c names rows nums)(h:∀l,M l=bb->Q (.tup [.ref l,dw names (dj c names rows nums)]) (M.upd l<|.lst<|ww (dj c names rows nums).2.steps)):
  ue ad [aW c names rows mk,bC nums c.pieces,.int (c.most:Nat)] M Q E:=by
 simp![T1,yi];intro a X;refine am λQ' E' I _=>CH X p.ln p.nd p.l0 p.l1 λk hk S G=>I _ _ ?_;subst hk;have f:∀(P:Sx),∀b o,(M.upd k.ls<|.lst<|ww P.steps) b=ap o->wM ad k c (aW c names rows mk) P M b=ap o:=by
  intro P b o e
  by_cases R:b=k.ls
  .subst R;rw[Mem.upd_same]at e;rw[MB];exact e
  .rw[ae R]at e
   have h2:b≠k.dn:=by rintro rfl;rw[S]at e;cases e
   have h3:b≠k.a:=by rintro rfl;rw[X]at e;cases e
   unfold wM;rw[ae R,ae h2,ae h3];exact e
 have Y:=(uw (ad:=ad) (k:=k) (aaS:=rows) (mk:=mk) p.l1 p.co 24).1 rows [] #[names.zip nums,[]] M;unfold aW at Y;simp![aW,atI_3];refine#[bj (by decide),?_]
 refine am λQ2 E2 W T=>Y Q2 E2 p.ok (by have:=p.h;lia) (by have:=p.h;simp;lia) p.nok (Va _) #[λe=>W _ _ ?_,λe=>T _ _ #[rfl,?_]]
 .have hn:NOk names c.m (dj c names rows nums).2.nums:=dq p.co rows p.ok [] 0 #[names.zip nums,[]] p.nok
  have J:(dj c names rows nums).1=true:=e;simp![pq,lf4,atI_1,aO]
  refine bH (λxs aaO U M'=>∃n1 n2 H,names=n1++n2/\xs=n2.map D.str/\aaO=n1.map (λx=>D.int (nm (dj c names rows nums).2.nums x))/\U=[H,ap (.ref k.a)]/\M'=wM ad k c (aW c names rows mk) (dj c names rows nums).2 M)
   (λ_ _ _ _ _=>aK) ?_ ?_ ?_ _ _ _ _ #[[],names,bb,rfl,rfl,rfl,rfl,rfl]
  .rintro aaO U M' ⟨n1,n2,H,B,F,rfl,rfl,rfl⟩
   have:n2=[]:=by cases n2 with|nil=>rfl|cons _ _=>simp at F
   subst this;intro q I;simp![Mem.upd_upd,Mem.upd_del,au I];refine#[bj (by decide),#[_,f _,?_]]
   have:=h k.ls G;unfold dw at this;rw[if_pos J]at this;have Z:n1=names:=by simpa using B.symm
   rw[Z];exact this
  .rintro x xs aaO U M' ⟨n1,n2,H,B,F,rfl,rfl,rfl⟩ N hN _
   cases n2 with
   |nil=>simp at F
   |cons y n2=>
    simp only[Ud,U7]at F;obtain⟨rfl,rfl⟩:=F;have hy:y∈names:=by rw[B];simp
    simp![pq,AS,Ij,ci,(hn.at hy).1,Ve];refine hN _ _ _ ?_ #[n1++[y],n2,_,by simp[B],rfl,by simp,rfl,rfl]
    have O:=congrArg VD B;have:=p.l1;simp at O ⊢;exact fC (by lia)
  .rintro x xs aaO U M' ⟨n1,n2,H,B,F,rfl,rfl,rfl⟩
   have O:=congrArg VD B;have:=p.l1;simp at O ⊢;exact fC (by lia)
 .have J:(dj c names rows nums).1=false:=e
  simp![pq,lf4];refine#[bj (by decide),#[_,f _,?_]]
  have:=h k.ls G;unfold dw at this;rw[if_neg (by rw[J];simp)]at this
  exact this
structure Pt where
 p:cb
 q:cb
 ne:p≠q
def Has(k:Pt)(M:Mem):Prop:=∃(cells:aaU)(t h sd:Int),cells.length<=63/\M k.p=ap (.lst [.ref k.q,.int t,.int h,.int sd])/\M k.q=ap (.lst<|cells.map D.int)
def Dr(k:Pt)(M M':Mem):Prop:=Has k M'/\∀b,b≠k.p->b≠k.q->M' b=M b
theorem Has.refl(h:Has k M):Dr k M M:=#[h,by lia]
theorem Dr.trans{M1 M2:Mem}(a:Dr k M M1)(b:Dr k M1 M2):Dr k M M2:=#[b.1,λx f e=>(b.2 x f e).trans (a.2 x f e)]
theorem Has.nep(h:Has k M)(F:M l=bb):l≠k.p/\l≠k.q:=by
 obtain⟨e,t,hh,sd,_,B,f⟩:=h;exact#[by lia,by lia]
theorem Has.upd(h:Has k M)(f:l≠k.p/\l≠k.q):Has k (M.upd l o):=by
 obtain⟨e,t,hh,sd,G,F,B⟩:=h;exact#[_,t,hh,sd,G,by rw[ae (UN f.1)];exact F,by rw[ae (UN f.2)];exact B]
theorem Has.del(h:Has k M)(f:l≠k.p/\l≠k.q):Has k (M.del l):=by
 obtain⟨e,t,hh,sd,G,F,B⟩:=h;exact#[_,t,hh,sd,G,by unfold Mem.del;rw[if_neg (UN f.1)];exact F,by unfold Mem.del;rw[if_neg (UN f.2)];exact B]
theorem Dr.none{k:Pt}(f:Has k M)(h:Dr k M M')(e:M l=bb):M' l=none:=by
 have:=f.nep e;rw[h.2 l this.1 this.2];exact e
theorem hZ:∀(n:Nat)(e:aaU),fits n (e.map D.int)=true
 |_,[]=>by rfl
 |n,c::e=>by
  rw[Ud];unfold fits;rw[hZ n e];rfl
theorem jg{b:Int}(h:∀r,Q (.int r) M):mZ ad [.int a,.int b] M Q E:=by
 simp![Su,Bj];refine#[.inr (by decide),.inr (by decide),by decide,by trivial,.inr (by decide),by decide,by trivial,ak<|h _]
theorem E5{x:α}{xs:List α}:fE (x::xs) 0=ap x:=by rfl
theorem wc(h:0<m):0<=a % m/\a % m<m:=#[VE _ (by lia),Vm _ h]
theorem jR{i:Int}(h:0<=i)(e:i<n):wQ n i=ap i.toNat:=by unfold wQ;simp_all
theorem ix0:wQ (n+1) 0=ap 0:=jR (by decide) (by lia)
theorem RH:wQ 4 2=ap 2:=rfl
theorem cy{s u:ar}(h:s { D0 with nx:=u D0 } U M):ai s u D0 U M:=h
theorem IQ{k:Pt}(e:U[0]?=ap (ap<|.ref k.p))(f:M k.p=ap (.lst [.ref k.q,.int t,.int hh,.int sd]))(h:D0.nx U (M.upd k.p<|.lst [.ref k.q,.int (t+1),.int hh,.int sd])):
  aq (ah bc (ah av (ac 0)<|dC<|.int 1)<|dC<|.int 1) (cW (ac 0)<|dC<|.int 1) D0 U M:=by
 simp![e,f,atI_1];exact h
theorem Ca{k:Pt}(e:0<many)(I:many<2 ^ 62)(h:M k.p=ap (.lst [.ref k.q,.int t,.int hh,.int sd]))(F:∀r,D0.rt (.int<|r % many) M)(H:D0.rt (.int<|hh % many) (M.upd k.p<|.lst [.ref k.q,.int t,.int (hh / many),.int sd])):
  (ai (aE (al<|ah bR (ah av (ac 0)<|dC<|.int 2)<|dC<|.int 0) (az<|ah g7 (ao<|aj (mZ ad) EE 2<|aa (ah av (ac 0)<|dC<|.int 3)<|aa (ah av (ac 0)<|dC<|.int 1) ag)<|ac 1) aB)
  (ai (aq (ah g7 (ah av (ac 0)<|dC<|.int 2)<|ac 1)<|af 3)
  (ai (aq (ah vK (ah av (ac 0)<|dC<|.int 2)<|ac 1)<|cW (ac 0)<|dC<|.int 2)
  (az<|ac 3)))) D0 [ap (.ref k.p),ap (.int many),G,bb] M:=by
 simp![h,atI_1,atI_2,atI_3]
 by_cases f:hh=0
 .rw[if_pos f]
  refine am λQ' E' B _=>jg λr=>B _ _ ?_;simp![];exact#[e,F r]
 .rw[if_neg f]
  simp![h,RH];exact#[e,#[e,by lia],H]
theorem J7{k:Pt}(J:0<many)(h:M k.p=ap (.lst [.ref k.q,.int t,.int hh,.int sd]))(G:M k.q=ap (.lst<|cells.map D.int))(R:D0.nx [ap (.ref k.p),ap (.int many),bb,bb] M)(P:∀c cs,hh=0->cells=c::cs->∀r,D0.rt (.int<|r % many) (M.upd k.q<|.lst<|cs.map D.int))(O:∀c cs,hh=0->cells=c::cs->¬c<10 ^ VO 18->D0.nx [ap (.ref k.p),ap (.int many),ap (.int c),bb] ((M.upd k.q<|.lst<|cs.map D.int).upd k.p<|.lst [.ref k.q,.int t,.int c,.int sd])):
  aE (kQ (al<|ah bR (ah av (ac 0)<|dC<|.int 2)<|dC<|.int 0)<|al<|ah pG (ah av (ac 0)<|dC<|.int 0)<|ao<|bw ag) (ai (aq (iN "list" DC (ah av (ac 0)<|dC<|.int 0)<|aa (dC<|.int 0) ag)<|af 2)
   (ai (aE (al<|ah DL (ac 2)<|ah Q0 (dC<|.int 10)<|dC<|.int 18) (az<|ah g7 (ao<|aj (mZ ad) EE 2<|aa (ac 2)<|aa (ah av (ac 0)<|dC<|.int 1) ag)<|ac 1) aB)
   (aq (ac 2)<|cW (ac 0)<|dC<|.int 2))) aB D0 [ap (.ref k.p),ap (.int many),bb,bb] M:=by
 simp![h,atI_2,E5]
 by_cases e:hh=0
 .rw[if_pos e]
  refine#[by trivial,λp F=>?_]
  simp[au F,G];cases cells with
  |nil=>
   trivial
  |cons c cs=>
   have H:∀B,(M.upd _ B) _=ap _:=λB=>by rw[ae k.ne,h]
   simp![Mem.upd_del,au F,E5,h,G,H,hZ,ix0,atI_1];refine#[by trivial,?_]
   by_cases f:c<10 ^ VO 18
   .rw[if_pos f]
    exact am λQ' E' I _=>jg λr=>I _ _ #[J,P c cs e rfl r]
   rw[if_neg f];exact O c cs e rfl f
 simp_all
theorem jK(hp:Has k M)(J:0<many)(S:many<2 ^ 62)(h:∀r M',0<=r->r<many->Dr k M M'->Q (.int r) M'):
  aZ ad [.ref k.p,.int many] M Q E:=by
 obtain⟨B,t,hh,sd,I,X,T⟩:=hp;have e:=k.ne;have fin:∀(r:Int)(M':Mem)(cells':List _)(R H G:Int),cells'.length<=63->(∀b,b≠k.p->b≠k.q->M' b=M b)->M' k.p=ap (.lst [.ref k.q,.int R,.int H,.int G])->M' k.q=ap (.lst<|cells'.map D.int)->drp Q (.int<|r % many) M':=by
  intro r M' cells' R H G a1 W Y a4;exact ak (h _ _ (wc J).1 (wc J).2 #[#[_,R,_,_,a1,Y,a4],W])
 have g1:∀o,(M.upd _ o) _=ap _:=λo=>by rw[ae (UN e)];exact T
 refine cy (IQ rfl X ?_);refine cy (J7 J Mem.upd_same (g1 _) ?_ (λc O Z P r=>?_) λc O Z P hb=>?_)
 .exact Ca J S Mem.upd_same (λr=>(fin _ _ B _ _ _ I (λb f F=>ae f) Mem.upd_same<|g1 _)) (fin _ _ B _ _ _ I (λb f F=>by rw[ae f,ae f]) Mem.upd_same<|by rw[ae (UN e),g1])
 .subst P
  exact fin _ _ O _ _ _ (by simp at I;lia) (λb f F=>by rw[ae F,ae f]) (by rw[ae e,Mem.upd_same]) Mem.upd_same
 .subst P
  exact Ca J S Mem.upd_same (λr=>(fin _ _ O _ _ _ (by simp at I;lia) (λb f F=>by rw[ae f,ae F,ae f]) Mem.upd_same<|by rw[ae (UN e),Mem.upd_same])) (fin _ _ O _ _ _ (by simp at I;lia) (λb f F=>by rw[ae f,ae f,ae F,ae f]) Mem.upd_same<|by rw[ae (UN e),ae (UN e),Mem.upd_same])
theorem Jh{xs:List D}{k:Nat}:oC xs bb (ap (k:Int))=xs.take k:=by
 unfold oC;rw[HT.Gc,HT.JB]
 simp_all
theorem GO(h:∀(k:Pt) M',Has k M'->(∀b,b≠k.p->b≠k.q->M' b=M b)->Q (.ref k.p) M'):BL ad [.ml (ns.map D.int)] M Q E:=by
 have B:oC (ns.map D.int) bb (ap 63)=(ns.take 63).map D.int:=by rw[List.map_take];exact Jh
 simp![Ru,BU,cV,B];intro a I;refine cu (λxs U M'=>∃(f:List _)(sd:Int)(G:Option D),xs=f.map _/\U=[ap _,ap (.int sd),G]/\M'=M) (λ_ _ _ _=>aK) ?_ ?_ _ _ _ #[_,7,_,rfl,rfl,by rw[Mem.upd_del,au I]]
 .rintro U M' ⟨f,sd,G,_,rfl,rfl⟩
  simp![B];intro b J;rw[Mem.upd_del,au J];intro q R;refine#[by trivial,λp S=>?_]
  have ne:p≠q:=by intro e;simp_all
  refine ak (h #[p,q,ne] _ #[ns.take 63,0,0,sd,by simp;lia,Mem.upd_same,?_] λb O P=>?_)
  .rw[ae (UN ne),Mem.upd_same]
  rw[ae O,ae P]
 rintro x xs U M' ⟨f,sd,G,F,rfl,rfl⟩ D' H _ _ _
 cases f with
 |nil=>simp at F
 |cons c f=>
  simp at F;obtain⟨rfl,rfl⟩:=F;simp![];exact#[.inr (by decide),by decide,H _ _<|by lia]
noncomputable def alpha:Str:="abcdefghijklmnopqrstuvwxyz"
theorem F1:∀i<26,alpha.cps.toList[i]?=ap (97+i):=by decide +kernel
theorem Dg:alpha.length<=sizeLine:=Uu (show alpha.length<=100 by trivial) (by decide)
theorem vF(F:names.length<=12)(h:∀(j:Nat)(p:j<names.length),names[j].cps[0]?=ap (97+(t+7*j) % 26)):names.Nodup:=by
 refine WS.mpr λi j B p f e=>?_
 grind
def Iu(x:Str):Prop:=∃(n c:Nat),1<=n/\n<=8/\97<=c/\c<=122/\x=#[V5 n c]
theorem xZ{many:Nat}(hp:Has k M)(h1:many<=12)(h:∀(names:aaV)(M':Mem),names.length=many->names.Nodup->(∀x∈names,Iu x)->Dr k M M'->Q (.tup<|names.map D.str) M'):AG ad [.ref k.p,.int many] M Q E:=by
 simp![RJ,BQ,cV];refine am λQ' E' Y _=>jK hp (by decide) (by decide) λturn M1 t0 t1 P=>Y _ _ ?_
 simp![];refine#[bj (by decide),λl hl=>?_]
 have f:=P.1.nep hl;refine#[by lia,by lia,?_]
 obtain⟨t,rfl⟩:=YF t0
 refine cu (λxs U M'=>∃(j:Nat)(aaO:aaV)(T c5:Option D),j<=many/\xs=(V8 j (many-j)).map (λ(i:Nat)=>D.int (0+(i:Int)))/\U=[ap (.ref k.p),ap (.int (many:Nat)),ap (.int (t:Nat)),ap (.ref l),T,c5]/\aaO.length=j/\(∀(i:Nat)(O:i<aaO.length),aaO[i].cps[0]?=ap (97+(t+7*i) % 26))/\(∀x∈aaO,Iu x)/\
  Has k M'/\M' l=ap (.lst<|aaO.map D.str)/\∀b,b≠k.p->b≠k.q->b≠l->M' b=M1 b) (λ_ _ _ _=>aK) ?_ ?_ _ _ _ #[0,[],bb,bb,Va _,?_,rfl,rfl,?_,by simp,P.1.upd f,Mem.upd_same,λb _ _ hb=>ae hb]
 .rintro U M' ⟨j,aaO,T,c5,hj,e,rfl,J,W,B,hh,R,hs⟩
  have:j=many:=by
   have:=congrArg VD e;simp at this;lia
  subst this;simp![R];refine#[M'.del l,λb o e=>?_,h aaO _ J (vF (by lia) W) B #[hh.del f,λb G H=>?_]]
  .unfold Mem.del at e;split at e
   .cases e
   .exact e
  .unfold Mem.del
   split
   .rename_i e;subst e;rw[<- P.2 b G H];exact hl.symm
   .rename_i e;rw[hs b G H e,P.2 b G H]
 .rintro x xs U M' ⟨j,aaO,T,c5,hj,e,rfl,J,W,B,hh,R,hs⟩ D' X _ _ _
  have hjl:j<many:=by
   have:=congrArg VD e;simp at this;lia
  obtain⟨n,hn⟩:∃n,many-j=n+1:=#[many-j-1,by lia]
  rw[hn,List.range'_succ,Ud,U7]at e;obtain⟨rfl,rfl⟩:=e;have F:fE alpha.cps.toList (((t:Nat)+7*(0+(j:Int))) % 26)=ap (97+(t+7*j) % 26):=by
   have:(((t:Nat):Int)+7*(0+(j:Int))) % 26=(((t+7*j) % 26:Nat):Int):=by lia
   rw[this,bJ (by lia),UM,F1 _ (by lia)]
  simp only[alpha]at F;simp![F,R];refine#[.inl (by decide),by decide,Dg,?_]
  refine am λQ' E' Y _=>jK hh (by decide) (by decide) λr M2 r0 r1 Z=>Y _ _ ?_
  have S:M2 l=ap (.lst<|aaO.map D.str):=by rw[Z.2 l f.1 f.2];exact R
  simp![S];refine#[by lia,by lia,by simp;exact fC (by lia),X _ _ #[j+1,aaO++[#[V5 (1+r).toNat (97+(t+7*j) % 26)]],_,_,by lia,?_,rfl,by simp[J],?_,?_,Z.1.upd f,?_,?_]]
  .rw[show many-(j+1)=n by lia]
  .intro i O
   by_cases I:i<aaO.length
   .rw[List.getElem_append_left I];exact W i I
   .have:i=aaO.length:=by simp at O;lia
    subst this;rw[List.getElem_append_right (Uk _)]
    simp_arith! only[Nat.sub_self,List.getElem_cons_zero]
    rw[Array.getElem?_replicate,if_pos (by lia),J]
  .intro x hx
   rcases Ux.mp hx with hx|hx
   .exact B x hx
   .simp at hx;subst hx
    exact#[(1+r).toNat,97+(t+7*j) % 26,by lia,by lia,by lia,by lia,rfl]
  .rw[Mem.upd_same];simp
  .intro b G H b3
   rw[ae b3,Z.2 b G H,hs b G H b3]
 .simp[cQ,VT]
 .intro i O;simp at O
@[simp] theorem atI_5{xs:List α}:fE xs 5=xs[5]?:=bJ (by decide)
@[simp] theorem atI_6{xs:List α}:fE xs 6=xs[6]?:=bJ (by decide)
@[simp] theorem atI_7{xs:List α}:fE xs 7=xs[7]?:=bJ (by decide)
@[simp] theorem atI_8{xs:List α}:fE xs 8=xs[8]?:=bJ (by decide)
theorem lS{r:Int}(f:0<=r)(h:r<names.length):∃y,y∈names/\fE (names.map D.str) r=ap (.str y):=by
 have e:r.toNat<names.length:=by lia
 refine#[_,VW e,?_];rw[bJ f,Um,Uc e];rfl
structure ToldOk(names:aaV)(m many:Int):Prop where
 m2:2<=m
 m1:m<=997
 n0:0<names.length
 n1:names.length<=12
 k0:0<=many
 k1:many<=40
noncomputable def ko(names:aaV)(m many:Int):D:=.tup [.int m,.tup (names.map D.str),.int many]
theorem aN{b:BxQ EE Q}(B:Has k M)(f:0<many)(F:many<2 ^ 62)(h:∀r M',0<=r->r<many->Dr k M M'->Q (.int r) M'):calls (aZ ad) EE [.ref k.p,.int many] M Q b:=
 am λQ' E' e _=>jK B f F λr M' H G d=>e _ _ (by simp_all)
theorem P7(h:te U M λd M1=>D0.nx (U.set i<|some d) M1):aq te (af i) D0 U M:=h
theorem GR(h:U[i]?=ap (ap d))(e:K d M):ac i U M K:=by simp_arith! only[ac,h];exact e
theorem xH{c:Str}(f:U[i]?=ap (ap<|.str w))(p:w=c->A D0 U M)(h:w≠c->B D0 U M):aE (al<|ah bR (ac i)<|dC<|.str c) A B D0 U M:=by
 have e:aE (al<|ah bR (ac i)<|dC<|.str c) A B D0 U M=(if w=c then A D0 U M else B D0 U M):=by
  simp[aE,al,ah,ac,dC,bR,cN,dv,aR,f,Ll,uz]
 rw[e]
 by_cases q:w=c
 .rw[if_pos q];exact p q
 rw[if_neg q];exact h q
theorem PH(e:U[0]?=ap (ap<|.ref k.p))(B:∀K:DK,K (.int v) M->te U M K)(f:Has k M)(v0:0<v)(v1:v<2 ^ 62)(h:∀r M',0<=r->r<v->Dr k M M'->K (.int r) M'):
  aj (aZ ad) EE 2 (aa (ac 0)<|aa te ag) U M K:=by
 simp_arith! only[aj,aa,ac,ag,e]
 refine B _ ?_;exact#[rfl,aN f v0 v1 h]
theorem Jr(h:te U M λd M'=>frz d M' K):ao te U M K:=h
theorem MI(h0:U[0]?=ap (ap<|.ref k.p))(ht:∀K:DK,K (.int v) M->te U M K)(hp:Has k M)(v0:0<v)(v1:v<2 ^ 62)(h:∀r M',0<=r->r<v->Dr k M M'->K (.int r) M'):
  ao (aj (aZ ad) EE 2<|aa (ac 0)<|aa te ag) U M K:=
 Jr (PH h0 ht hp v0 v1<|by trivial)
theorem Oe(H:U[0]?=ap (ap<|.ref k.p))(e:U[i]?=ap (ap<|.tup<|names.map D.str))(I:Has k M)(J:0<names.length)(n1:names.length<=12)(h:∀x M',x∈names->Dr k M M'->K (.str x) M'):
  ah av (ac i) (ao<|aj (aZ ad) EE 2<|aa (ac 0)<|aa (bn cC<|aa (ac i) ag) ag) U M K:=by
 have G:∀K:DK,K (.int names.length) M->bn cC (aa (ac i) ag) U M K:=λK B=>by
  simp![e,Ub];exact B
 simp only[ah];refine GR e (MI H G I (by lia) (by lia) λr M' a b d=>?_)
 obtain⟨x,f,F⟩:=lS a b;simp![F];exact h x M' f d
theorem Qs{a b:D}(f:U[i]?=ap (ap a))(e:U[j]?=ap (ap b))(h:te U M λd M'=>3<=sizeLine/\D0.rt (.tup [a,b,d]) M'):az (aU<|aa (ac i)<|aa (ac j)<|aa te ag) D0 U M:=by
 simp_arith! only[az,aU,aa,ac,f,e]
 exact h
theorem ret4{a b c:D}{l:Nat}(p:U[i]?=ap (ap a))(f:U[j]?=ap (ap b))(e:U[l]?=ap (ap c))(h:te U M λd M'=>4<=sizeLine/\D0.rt (.tup [a,b,c,d]) M'):az (aU<|aa (ac i)<|aa (ac j)<|aa (ac l)<|aa te ag) D0 U M:=by
 simp_arith! only[az,aU,aa,ac,p,f,e]
 exact h
theorem L4{a:Option D}{s:Dl}(h:D0.nx (a::ap (ko names m many)::ap (.int m)::ap (.tup<|names.map D.str)::ap (.int many)::s) M){b c:Option D}:
  aq (ac 1) (dk 3<|aM (af 2)<|aM (af 3)<|aM (af 4) da) D0 (a::ap (ko names m many)::b::c::d::s) M:=by
 trivial
noncomputable def waysL:List Str:=["put","sum","by","less","same","sum","put","take","pick"]
def Ma(many:Int)(w:Str):Prop:=w="put"\/(w="sum"\/w="by"\/w="less"\/w="same")\/(0<many/\(w="take"\/w="pick"))
theorem Iz(h:D0.nx (U.set 5<|some<|.lst<|waysL.map D.str) M):
  aq (ao<|bw<|aa (dC<|.str "put")<|aa (dC<|.str "sum")<|aa (dC<|.str "by")<|aa (dC<|.str "less")<|aa (dC<|.str "same")<|aa (dC<|.str "sum")<|aa (dC<|.str "put")<|aa (dC<|.str "take")<|aa (dC<|.str "pick") ag) (af 5) D0 U M:=by
 simp![];refine#[by trivial,λp e=>?_]
 rw[Mem.upd_del,au e];exact h
theorem OG(r:Nat)(h:r<if 0<many then 9 else 7):∃w,fE (waysL.map D.str) (r:Int)=ap (.str w)/\Ma many w:=by
 have f:r<9:=by lia
 have e:r=0\/r=1\/r=2\/r=3\/r=4\/r=5\/r=6\/r=7\/r=8:=by lia
 rcases e with rfl|rfl|rfl|rfl|rfl|rfl|rfl|rfl|rfl
 .exact#[_,rfl,.inl rfl]
 .exact#[_,rfl,.inr<|by lia]
 .exact#[_,rfl,.inr<|by lia]
 .exact#[_,rfl,.inr<|by lia]
 .exact#[_,rfl,.inr<|by lia]
 .exact#[_,rfl,.inr<|by lia]
 .exact#[_,rfl,.inl rfl]
 .exact#[_,rfl,.inr<|by lia]
 exact#[_,rfl,.inr<|by lia]
theorem wayE(B:U[0]?=ap (ap<|.ref k.p))(H:U[4]?=ap (ap<|.int many))(G:U[5]?=ap (ap<|.lst<|waysL.map D.str))(F:Has k M)(h:∀w M',Ma many w->Dr k M M'->K (.str w) M'):
  ah av (ac 5) (ao<|aj (aZ ad) EE 2<|aa (ac 0)<|aa (oi (al<|ah JN (ac 4)<|dC<|.int 0) (dC<|.int 9)<|dC<|.int 7) ag) U M K:=by
 have f:∀K:DK,K (.int (if 0<many then 9 else 7)) M->oi (al<|ah JN (ac 4)<|dC<|.int 0) (dC<|.int 9) (dC<|.int 7) U M K:=λK I=>by
  simp![H];lia
 refine GR G (MI B f F (by lia) (by split<;>decide) λr M' a b d=>?_)
 obtain⟨r,rfl⟩:=YF a;obtain⟨w,e,J⟩:=OG (many:=many) r (by split at b<;>(split<;>lia))
 simp![e]
 simp_all
theorem G0(T:Has k M)(W:ToldOk names m many)(h:∀(r:Rw) M',de names m many r->Dr k M M'->Q r.d M'):uv ad [.ref k.p,ko names m many] M Q E:=by
 obtain⟨Z,m1,F,n1,X,Y⟩:=W;rw[RK];unfold BX;refine cy (L4 ?_);dsimp only;refine cy (Iz ?_);dsimp only;refine cy (P7 (wayE rfl rfl rfl T λw M1 G d1=>?_));dsimp only;refine cy (P7 (Oe rfl rfl d1.1 F n1 λx M2 f d2=>?_));dsimp only;refine cy (xH rfl (λe=>?_) λB=>?_)
 .subst e
  refine Qs rfl rfl (PH rfl (λK q=>GR rfl q) d2.1 (by lia) (by lia) λr M3 a b d3=>?_)
  exact#[bj (by decide),ak<|h (.put x r) M3 #[f,a,b]<|d1.trans<|d2.trans d3]
 dsimp only[aB];refine cy (xH rfl (λe=>?_) λO=>?_)
 .subst e
  have I:0<many:=by
   rcases G with e|(e|e|e|e)|e
   .exact(B e).elim
   .exact absurd e (by decide +kernel)
   .exact absurd e (by decide +kernel)
   .exact absurd e (by decide +kernel)
   .exact absurd e (by decide +kernel)
   .exact e.1
  refine Qs rfl rfl (PH rfl (λK q=>GR rfl q) d2.1 (by lia) (by lia) λr M3 a b d3=>?_)
  exact#[bj (by decide),ak<|h (.take x r) M3 #[f,a,b]<|d1.trans<|d2.trans d3]
 dsimp only[aB];refine cy (P7 (Oe rfl rfl d2.1 F n1 λy M3 H d3=>?_));dsimp only;refine cy (xH rfl (λe=>?_) λS=>?_)
 .subst e
  have I:0<many:=by
   rcases G with e|(e|e|e|e)|e
   .exact(B e).elim
   .exact absurd e (by decide +kernel)
   .exact absurd e (by decide +kernel)
   .exact absurd e (by decide +kernel)
   .exact absurd e (by decide +kernel)
   .exact e.1
  exact Qs rfl rfl (GR rfl #[bj (by decide),ak<|h (.pick x y) M3 #[f,H,I]<|d1.trans<|d2.trans d3])
 dsimp only[aB];have P:w="sum"\/w="by"\/w="less"\/w="same":=by
  rcases G with e|e|⟨_,e|e⟩
  .exact(B e).elim
  .exact e
  .exact(O e).elim
  .exact(S e).elim
 refine ret4 rfl rfl rfl (Oe rfl rfl d3.1 F n1 λz M4 R J=>?_);exact#[bj (by decide),ak<|h (.two w x y z) M4 #[P,f,H,R]<|d1.trans<|d2.trans<|d3.trans J]
mutual
def LnR:Rw->Prop
 |.ifr _ a b=>(a.length<=200/\gP a)/\b.length<=200/\gP b
 |.again _ a=>a.length<=200/\gP a
 |_=>True
def gP:List Rw->Prop
 |[]=>True
 |r::rs=>LnR r/\gP rs
end
theorem LnRs_append:∀{a b:List Rw},gP (a++b)↔gP a/\gP b
 |[],b=>by simp[gP]
 |r::a,b=>by simp[gP,LnRs_append,and_assoc]
mutual
noncomputable def cR:Rw->Nat
 |.ifr _ a b=>1+cRs a+cRs b
 |.again _ a=>1+cRs a
 |.put _ _=>1
 |.take _ _=>1
 |.pick _ _=>1
 |.two _ _ _ _=>1
noncomputable def cRs:List Rw->Nat
 |[]=>0
 |r::rs=>cR r+cRs rs
end
theorem dP:∀{a b:List Rw},cRs (a++b)=cRs a+cRs b
 |[],b=>by simp[cRs]
 |r::a,b=>by simp[cRs,dP];lia
theorem Sj(h:de names m many r):cR r=1:=by
 cases r<;>trivial
def Rv(rm:cb)(M:Mem)(v:Int):Prop:=M rm=ap (.lst [.int v])/\0<=v
def Kp(k:Pt)(rm:cb)(M M':Mem):Prop:=Has k M'/\(∃v:Int,M' rm=ap (.lst [.int v]))/\∀b o,b≠k.p->b≠k.q->b≠rm->M b=ap o->M' b=ap o
theorem Kp.trans{M1 M2:Mem}(a:Kp k rm M M1)(b:Kp k rm M1 M2):Kp k rm M M2:=#[b.1,b.2.1,λx o p e f h=>b.2.2 x o p e f (a.2.2 x o p e f h)]
structure Rm(k:Pt)(rm:cb)(M:Mem):Prop where
 h:Has k M
 n1:rm≠k.p
 n2:rm≠k.q
 v:∃v:Int,M rm=ap (.lst [.int v])
theorem Rm.kp(r:Rm k rm M):Kp k rm M M:=#[r.h,r.v,by lia]
theorem Rm.go(r:Rm k rm M)(d:Kp k rm M M'):Rm k rm M':=#[d.1,r.n1,r.n2,d.2.1]
theorem Rm.dr(r:Rm k rm M)(d:Dr k M M'):Kp k rm M M':=#[d.1,by obtain⟨v,e⟩:=r.v;exact#[v,by rw[d.2 rm r.n1 r.n2];exact e],λb o h f _ e=>by rw[d.2 b h f];exact e]
theorem Rm.new(r:Rm k rm M)(f:M l=bb)(o:MO):Kp k rm M (M.upd l o):=by
 obtain⟨v,e⟩:=r.v;have b:=Mem.ne e f;exact#[r.h.upd (r.h.nep f),#[v,by rw[ae b];exact e],λc o _ _ _ e=>by rw[ae (Mem.ne e f)];exact e]
theorem Rm.set(r:Rm k rm M)(v:Int):Kp k rm M (M.upd rm<|.lst [.int v]):=
 #[r.h.upd #[r.n1,r.n2],#[v,Mem.upd_same],λc o _ _ h e=>by rw[ae h];exact e]
def PRo(ad:Ad)(k:Pt)(rm:cb)(names:aaV)(m many:Int)(n:Nat):Prop:=∀(deep:Nat)(most:Int)(M:Mem)(Q:DK)(E:DX),deep<=4->2*(4-deep)+1<=n->0<most->most<=30->Rm k rm M->∀v:Int,Rv rm M v->
 (∀(rs:List Rw)(M':Mem),(∃v',Rv rm M' v'/\(cRs rs:Int)+v'<=v)->bg names m many rs/\gP rs->dy rs+deep<=4->rs.length<=100->Kp k rm M M'->Q (.tup<|aG rs) M')->Y8 ad n [.ref k.p,ko names m many,.ref rm,.int deep,.int most] M Q E
def PBl(ad:Ad)(k:Pt)(rm:cb)(names:aaV)(m many:Int)(n:Nat):Prop:=∀(deep:Nat)(M:Mem)(Q:DK)(E:DX),deep<4->2*(4-deep)<=n->Rm k rm M->∀v:Int,Rv rm M v->
 (∀(rs:List Rw)(l:cb)(M':Mem),(∃v',Rv rm M' v'/\(cRs rs:Int)+v'<=v+4)->bg names m many rs/\gP rs->dy rs+deep<=4->rs.length<=3->Kp k rm M M'->M' l=bb->Q (.ref l) (M'.upd l<|.lst<|aG rs))->Y9 ad n [.ref k.p,ko names m many,.ref rm,.int deep] M Q E
theorem OkRs_append:∀{a b:List Rw},bg names m many (a++b)↔bg names m many a/\bg names m many b
 |[],b=>by simp[bg]
 |r::a,b=>by simp[bg,OkRs_append,and_assoc]
theorem dY:∀{a b:List Rw},dy (a++b)=max (dy a) (dy b)
 |[],b=>by simp[dy]
 |r::a,b=>by simp[dy,dY]
theorem bP:∀{a b:List Rw},aG (a++b)=aG a++aG b
 |[],b=>rfl
 |r::a,b=>by simp[aG,bP]
theorem bW:∀{a:List Rw},(aG a).length=a.length
 |[]=>rfl
 |r::a=>by simp[aG,bW]
theorem NB(h:de names m many r):f_ names m many r:=by
 cases r<;>trivial
theorem SV(h:de names m many r):hR r=0:=by
 cases r<;>trivial
theorem OU(h:de names m many r):LnR r:=by
 cases r with
 |ifr=>exact h.elim
 |again=>exact h.elim
 |_=>trivial
theorem xP(ht:ToldOk names m many)(ih:PRo ad k rm names m many n):PBl ad k rm names m many (n+1):=by
 intro e M Q E hd hn r v rv h;obtain⟨m2,m1,n0,n1,k0,k1⟩:=ht;have dd:e+1=(e+1:Nat):=by lia
 simp![T7,Al,ko,Ub];refine aN r.h (by lia) (by lia) λr1 M1 a1 b1 G=>?_
 have R1:=r.go (r.dr G);have T:Rv rm M1 v:=#[by rw[G.2 rm r.n1 r.n2];exact rv.1,rv.2]
 obtain⟨x,p,ex⟩:=lS a1 b1;simp![ex];refine am λQ' E' R _=>ih (e+1) 5 M1 Q' E' (by lia) (by lia) (by decide) (by decide) R1 v T λfirst M2 c2 B h2 l2 d2=>R _ _ ?_
 obtain⟨v2,O,c2⟩:=c2;have R2:=R1.go d2;simp![];refine aN R2.h (by decide) (by decide) λw M3 a3 b3 I=>?_
 have R3:=R2.go (R2.dr I);have f:Rv rm M3 v2:=#[by rw[I.2 rm r.n1 r.n2];exact O.1,O.2]
 simp![dd]
 by_cases hw:w<2
 .rw[if_pos hw]
  refine am λQ' E' R _=>ih (e+1) 5 M3 Q' E' (by lia) (by lia) (by decide) (by decide) R3 v2 f λP M4 Y o4 h4 l4 H=>R _ _ ?_
  obtain⟨v4,S,Y⟩:=Y;simp![];refine#[bj (by decide),bj (by decide),λl J=>ak (h [.ifr x _ _] l M4 #[v4,S,by simp[cRs,cR];lia] ?_ ?_ (by simp) ((r.dr G).trans<|d2.trans<|(R2.dr I).trans H) J)]
  .exact#[#[#[p,B.1,o4.1],trivial],#[#[by lia,B.2],by lia,o4.2],trivial]
  simp only[dy,hR];lia
 rw[if_neg hw]
 by_cases F:w=2
 .rw[if_pos F]
  refine#[bj (by decide),bj (by decide),λl J=>ak (h [.again x first] l M3 #[v2,f,by simp only[cRs,cR];lia] ?_ ?_ (by simp) ((r.dr G).trans<|d2.trans<|R2.dr I) J)]
  .simp only[bg,f_,gP,LnR];exact#[#[#[p,B.1],trivial],#[by lia,B.2],trivial]
  .simp only[dy,hR];lia
 .rw[if_neg F]
  simp only[Ub];refine aN R3.h (by lia) (by lia) λr4 M4 a4 b4 H=>?_
  have R4:=R3.go (R3.dr H);obtain⟨y,X,ey⟩:=lS a4 b4;simp![ey];refine aN R4.h (by split<;>lia) (by split<;>lia) λr5 M5 a5 b5 Z=>?_
  have W:r5<m:=by split at b5<;>lia
  simp![];refine#[bj (by decide),bj (by decide),bj (by decide),bj (by decide),bj (by rw[bW];lia),bj (by decide),bj (by decide),λl J=>ak ?_]
  have:=h [.put x r5,.put y (m-1),.again x (first++[.two "sum" x x y])] l M5 #[v2,#[by rw[Z.2 rm r.n1 r.n2,H.2 rm r.n1 r.n2];exact f.1,f.2],by simp only[cRs,cR,dP];lia] ?_ ?_ (by simp) ((r.dr G).trans<|d2.trans<|(R2.dr I).trans<|(R3.dr H).trans<|R4.dr Z) J
  .simp only[aG,Rw.d,bP]at this
   exact this
  .simp only[bg,f_,de,OkRs_append,gP,LnR,LnRs_append]
   exact#[#[#[p,a5,W],#[X,by lia,by lia],#[p,B.1,#[.inl trivial,p,p,X],trivial],trivial],trivial,trivial,#[by simp;lia,B.2,trivial,trivial],trivial]
  .simp only[dy,hR,dY];lia
theorem SZ:frz r.d M Q=Q r.d M:=by cases r<;>rfl
theorem zh{c:Int}(f:U[2]?=ap (ap<|.ref rm))(e:M rm=ap (.lst [.int v]))(h:D0.nx U (M.upd rm<|.lst [.int (v-c)])):
  aq (ah ph (ah av (ac 2)<|dC<|.int 0)<|dC<|.int c) (cW (ac 2)<|dC<|.int 0) D0 U M:=by
 simp![f,e,E5];exact h
theorem Qw(J:U[0]?=ap (ap<|.ref k.p))(P:U[2]?=ap (ap<|.ref rm))(R:U[3]?=ap (ap<|.int deep))(F:Has k M)(I:M rm=ap (.lst [.int v]))(O:∀M',4<v->deep<4->Dr k M M'->A D0 U M')(h:∀M',Dr k M M'->B D0 U M'):
  aE (kQ (al<|ah JN (ah av (ac 2)<|dC<|.int 0)<|dC<|.int 4)<|kQ (al<|ah DL (ac 3)<|dC<|.int 4)<|al<|ah bR (ao<|aj (aZ ad) EE 2<|aa (ac 0)<|aa (dC<|.int 4) ag)<|dC<|.int 0) A B D0 U M:=by
 simp![J,P,R,I,E5]
 by_cases f:4<v
 .rw[if_pos f]
  by_cases e:deep<4
  .rw[if_pos e]
   refine aN F (by decide) (by decide) λw M2 T S H=>?_
   simp![]
   by_cases G:w=0
   .rw[if_pos G];exact O _ f e H
   rw[if_neg G];exact h _ H
  rw[if_neg e];exact h _ F.refl
 rw[if_neg f];exact h _ F.refl
theorem I_(f:U[2]?=ap (ap<|.ref rm))(e:M rm=ap (.lst [.int v]))(h:0<v->A D0 U M)(p:D0.nx U M):
  aE (al<|ah JN (ah av (ac 2)<|dC<|.int 0)<|dC<|.int 0) A aB D0 U M:=by
 simp![f,e,E5]
 simp_all
theorem KC(I:U[0]?=ap (ap<|.ref k.p))(O:U[1]?=ap (ap<|ko names m many))(R:U[5]?=ap (ap<|.ref l))(P:Has k M)(J:ToldOk names m many)(n1:l≠k.p)(n2:l≠k.q)(F:M l=ap (.lst<|aG aaO))(S:aaO.length<=1000)(h:∀(r:Rw) M',de names m many r->Dr k M M'->D0.nx U (M'.upd l<|.lst (aG aaO++[r.d]))):
  b6 (iN "list" bf (ac 5)<|aa (ao<|aj (uv ad) EE 2<|aa (ac 0)<|aa (ac 1) ag) ag) D0 U M:=by
 simp![I,O,R,F];refine am λQ' E' H _=>G0 P J λG M3 e B=>H _ _ ?_;have f:M3 l=ap (.lst<|aG aaO):=by rw[B.2 l n1 n2];exact F
 have sz:(aG aaO).length+1<=sizeLine:=by rw[bW];exact fC (by lia)
 rw[SZ];simp![f];exact#[sz,(h _ M3 e B)]
theorem IR(P:PBl ad k rm names m many n)(O:U[0]?=ap (ap<|.ref k.p))(S:U[1]?=ap (ap<|ko names m many))(W:U[2]?=ap (ap<|.ref rm))(Y:U[3]?=ap (ap<|.int deep))(X:U[5]?=ap (ap<|.ref l))(Z:deep<4)(hn:2*(4-deep)<=n)(R:Rm k rm M)(n1:l≠k.p)(n2:l≠k.q)(T:l≠rm)(hl:M l=ap (.lst<|aG aaO))(ha:aaO.length<=1000)(rv:Rv rm M v)(h:∀(rs:List Rw)(e:cb)(M':Mem),(∃H,Rv rm M' H/\(cRs rs:Int)+H<=v+4)->bg names m many rs/\gP rs->dy rs+deep<=4->rs.length<=3->Kp k rm M M'->M' e=bb->D0.nx (U.set 5<|some<|.ref e) (M'.upd e<|.lst (aG aaO++aG rs))):
  aq (ah bc (ac 5)<|ao<|aj (Y9 ad n) EE 4<|aa (ac 0)<|aa (ac 1)<|aa (ac 2)<|aa (ac 3) ag) (af 5) D0 U M:=by
 simp![O,S,W,Y,X];refine am λQ' E' J _=>P _ M Q' E' Z hn R v rv λbl l2 M3 I f hh len3 G F=>J _ _ ?_;simp![Mem.upd_del,au F,(G.2.2 l _ n1 n2 T hl)];exact#[by rw[bW,bW];exact bj (by lia),λe B=>h bl e M3 I f hh len3 G B]
structure RInv(k:Pt)(rm:cb)(names:aaV)(m many:Int)(M:Mem)(v:Int)(deep:Nat)(n j:Nat)(aaO:List Rw)(l:cb)(M':Mem):Prop where
 cv:∃v',Rv rm M' v'/\(cRs aaO:Int)+v'<=v
 hj:n+j<=30
 ha:aaO.length<=3*j
 ok:bg names m many aaO
 ln:gP aaO
 hh:dy aaO+deep<=4
 kp:Kp k rm M M'
 hm:M' l=ap (.lst<|aG aaO)
 n1:l≠k.p
 n2:l≠k.q
 n3:l≠rm
 h0:M l=bb
theorem RInv.len(I:RInv k rm names m many M v deep n j aaO l M'):aaO.length<=100:=by
 have:=I.hj;have:=I.ha;lia
theorem nO(ht:ToldOk names m many)(ih:PBl ad k rm names m many n):PRo ad k rm names m many (n+1):=by
 intro deep Z M Q E hd hn h0 h1 r v0 T h;simp![Se,Aj,cV];refine#[bj (by decide),λl O=>?_]
 have R1:=r.go (r.new O<|.lst []);refine aN R1.h h0 (by lia) λcnt M1 a1 b1 d1=>?_
 have H:=r.h.nep O;refine#[by lia,by lia,?_]
 refine cu (λxs U M'=>∃(j:Nat)(aaO:List Rw)(l:cb)(c6:Option D),RInv k rm names m many M v0 deep xs.length j aaO l M'/\U=[ap (.ref k.p),ap _,ap (.ref rm),ap (.int deep),ap (.int Z),ap (.ref l),c6]) (λ_ _ _ _=>aK) ?_ ?_ _ _ _ #[0,[],l,bb,#[#[v0,#[?_,T.2],by simp[cRs]],?_,by simp,by trivial,by trivial,by simp only[dy];lia,(r.new O _).trans (R1.dr d1),?_,H.1,H.2,?_,O],rfl]
 .rintro U M' ⟨j,aaO,l,c6,I,rfl⟩
  simp![I.hm];exact ak (h aaO M' I.cv #[I.ok,I.ln] I.hh I.len I.kp)
 .rintro x xs U M' ⟨j,aaO,l,c6,I,rfl⟩ D' S _ _ _
  have R:=r.go I.kp;have hj:=I.hj;have ha:=I.ha;simp at hj;obtain⟨v,⟨hv,hv0⟩,hcv⟩:=I.cv;refine Qw rfl rfl rfl R.h hv (λM2 h4 h5 J=>?_) λM2 J=>?_
  .have X:=I.kp.trans (R.dr J)
   have R2:=r.go X;refine cy (zh rfl (by rw[J.2 rm r.n1 r.n2];exact hv) ?_)
   have W:=R2.set (v-4);dsimp only;refine IR (deep:=deep) (aaO:=aaO) ih rfl rfl rfl rfl rfl (by lia) (by lia) (R2.go W) I.n1 I.n2 I.n3 (by rw[ae I.n3,J.2 l I.n1 I.n2];exact I.hm) (by lia) (v:=v-4) #[Mem.upd_same,by lia] λbl l3 M3 c3 B hh3 len3 k3 F=>?_
   have f:=(X.trans W).trans k3;have R3:=r.go f;have G:=R3.h.nep F;have P:l3≠rm:=by
    obtain⟨u,eu⟩:=R3.v;exact λe=>by simp_all
   have hM3:M l3=none:=by
    cases e:M l3 with
    |none=>rfl
    |some o=>rw[f.2.2 l3 o G.1 G.2 P e]at F;cases F
   obtain⟨v3,Y,c3⟩:=c3;exact S _ _ #[j+1,aaO++bl,l3,_,#[#[v3,#[by rw[ae (UN P)];exact Y.1,Y.2],by rw[dP];lia],by lia,by rw[UC];lia,OkRs_append.mpr #[I.ok,B.1],LnRs_append.mpr #[I.ln,B.2],by rw[dY];exact Uu (YJ (Nat.add_max_add_right ..).symm) (Nat.max_le.mpr #[I.hh,hh3]),f.trans (R3.new F _),by rw[Mem.upd_same,bP],G.1,G.2,P,hM3],rfl]
  have X:=I.kp.trans (R.dr J);have R2:=r.go X;have hm2:M2 l=ap (.lst<|aG aaO):=by rw[J.2 l I.n1 I.n2];exact I.hm
  refine I_ rfl (by rw[J.2 rm r.n1 r.n2];exact hv) (λhz=>?_) ?_
  .refine cy (zh rfl (by rw[J.2 rm r.n1 r.n2];exact hv) ?_)
   have W:=R2.set (v-1);dsimp only;refine KC (aaO:=aaO) rfl rfl rfl W.1 ht I.n1 I.n2 (by rw[ae I.n3];exact hm2) (by lia) λrw1 M3 B d3=>?_
   have f:=(X.trans W).trans ((R2.go W).dr d3);refine S _ _ #[j+1,aaO++[rw1],l,_,#[#[v-1,#[by rw[ae (UN I.n3),d3.2 rm r.n1 r.n2,Mem.upd_same],by lia],by rw[dP];simp only[cRs,Sj B];lia],by lia,by rw[UC,Vy];lia,OkRs_append.mpr #[I.ok,by simp only[bg];exact#[NB B,trivial]],LnRs_append.mpr #[I.ln,by simp only[gP];exact#[OU B,trivial]],by rw[dY];simp only[dy,SV B,Nat.max_zero,Nat.max_self];exact I.hh,?_,by rw[Mem.upd_same,bP];rfl,I.n1,I.n2,I.n3,I.h0],rfl]
   refine#[f.1.upd #[I.n1,I.n2],?_,λb o h1 h2 h3 e=>?_]
   .obtain⟨u,eu⟩:=f.2.1
    exact#[u,by rw[ae (UN I.n3)];exact eu]
   .rw[ae (Mem.ne e I.h0)];exact f.2.2 b o h1 h2 h3 e
  .exact S _ _ #[j,aaO,l,_,#[#[v,#[by rw[J.2 rm r.n1 r.n2];exact hv,hv0],hcv],by lia,ha,I.ok,I.ln,I.hh,X,hm2,I.n1,I.n2,I.n3,I.h0],rfl]
 .rw[d1.2 rm r.n1 r.n2,ae (λz=>by rw[<- z,T.1]at O;cases O)];exact T.1
 .simp[cQ];lia
 .rw[d1.2 l H.1 H.2,Mem.upd_same];rfl
 obtain⟨v,e⟩:=r.v;exact λe'=>by rw[e',e]at O;cases O
theorem jP(f:ToldOk names m many):∀n:Nat,PRo ad k rm names m many n/\PBl ad k rm names m many n
 |0=>#[λe p M Q E _ h=>by lia,λe M Q E _ h=>by lia]
 |n+1=>#[nO f (jP f n).2,xP f (jP f n).1]
def Kq(k:Pt)(M M':Mem):Prop:=Has k M'/\∀b o,b≠k.p->b≠k.q->M b=ap o->M' b=ap o
theorem Kq.trans{M1 M2:Mem}(a:Kq k M M1)(b:Kq k M1 M2):Kq k M M2:=#[b.1,λx o f e h=>b.2 x o f e (a.2 x o f e h)]
theorem Dr.kq(d:Dr k M M'):Kq k M M':=#[d.1,λb o h f e=>by rw[d.2 b h f];exact e]
structure PlG(m many:Int)(names:aaV)(rows:List Rw)(mk:Str):Prop where
 t:ToldOk names m many
 nd:names.Nodup
 ok:bg names m many rows
 h:dy rows<=4
 cn:cRs rows<=60
 l:rows.length<=100
 ln:gP rows
 mkm:mk∈names
 one:∀x∈names,Iu x
def jY(m many:Int)(names:aaV)(rows:List Rw)(mk:Str):D:=.tup [.int m,.tup (names.map D.str),.int many,.tup (aG rows),.str mk]
theorem CW(v0:0<=v)(v60:v<=60)(hp:Has k M)(h:∀(m many:Int)(names:aaV)(rows:List Rw)(mk:Str)(M':Mem),PlG m many names rows mk->(cRs rows:Int)<=v->Kq k M M'->Q (jY m many names rows mk) M'):BV ad [.ref k.p,.int v] M Q E:=by
 simp![S4,Ab];refine aN hp (by decide) (by decide) λx1 M1 a1 b1 d1=>?_
 simp![];refine aN d1.1 (by decide) (by decide) λx2 M2 a2 b2 d2=>?_
 simp![];refine#[bj (by decide),λp f=>?_]
 rw[Mem.upd_del,au f];refine aN d2.1 (by decide) (by decide) λO M3 a3 b3 d3=>?_
 obtain⟨m,em,m2,m1⟩:∃m:Int,fE [D.int 2,.int 3,.int (2+x1),.int (2+x2)] O=ap (.int m)/\2<=m/\m<=997:=by
  have:O=0\/O=1\/O=2\/O=3:=by lia
  rcases this with rfl|rfl|rfl|rfl
  .exact#[2,by simp,by lia,by lia]
  .exact#[3,by simp,by lia,by lia]
  .exact#[2+x1,by simp,by lia,by lia]
  .exact#[2+x2,by simp,by lia,by lia]
 simp![em];refine#[bj (by decide),λp f=>?_]
 rw[Mem.upd_del,au f];refine aN d3.1 (by decide) (by decide) λW M4 a4 b4 d4=>?_
 obtain⟨w,ew,w2,w1⟩:∃m:Int,fE [D.int 3,.int 5,.int 12] W=ap (.int m)/\0<m/\m<=12:=by
  have:W=0\/W=1\/W=2:=by lia
  rcases this with rfl|rfl|rfl
  .exact#[3,by simp,by lia,by lia]
  .exact#[5,by simp,by lia,by lia]
  .exact#[12,by simp,by lia,by lia]
 simp![ew];refine aN d4.1 w2 (by lia) λx5 M5 a5 b5 d5=>?_
 simp![];obtain⟨nn,hnn⟩:∃nn:Nat,(1:Int)+x5=nn:=#[(1+x5).toNat,by lia]
 rw[hnn];refine am λQ' E' Z _=>xZ d5.1 (by lia) λnames M6 n6 X on6 d6=>Z _ _ ?_
 simp![];refine aN d6.1 (by decide) (by decide) λx7 M7 a7 b7 d7=>?_
 simp![];refine aN d7.1 (by decide) (by decide) λx8 M8 a8 b8 d8=>?_
 simp![];refine#[bj (by decide),λp f=>?_]
 rw[Mem.upd_del,au f];refine aN d8.1 (by decide) (by decide) λT M9 a9 b9 d9=>?_
 obtain⟨many,ek,k0,k1⟩:∃m:Int,fE [D.int 0,.int (1+x7),.int x8] T=ap (.int m)/\0<=m/\m<=40:=by
  have:T=0\/T=1\/T=2:=by lia
  rcases this with rfl|rfl|rfl
  .exact#[0,by simp,by lia,by lia]
  .exact#[1+x7,by simp,by lia,by lia]
  .exact#[x8,by simp,by lia,by lia]
 simp![ek];refine#[bj (by decide),bj (by decide),λrm S=>#[bj (by decide),λp f=>?_]]
 rw[Mem.upd_del,au f];have D9:=d1.trans (d2.trans<|d3.trans<|d4.trans<|d5.trans<|d6.trans<|d7.trans<|d8.trans d9);have B:=d9.1.nep S;have R9:Rm k rm (M9.upd rm<|.lst [.int v]):=#[d9.1.upd B,B.1,B.2,v,Mem.upd_same];refine aN R9.h (by decide) (by decide) λF M10 a10 b10 H=>?_
 have R10:=R9.go (R9.dr H);obtain⟨R,eo,o0,o1⟩:∃m:Int,fE [D.int 6,.int 12,.int 30] F=ap (.int m)/\0<m/\m<=30:=by
  have:F=0\/F=1\/F=2:=by lia
  rcases this with rfl|rfl|rfl
  .exact#[6,by simp,by lia,by lia]
  .exact#[12,by simp,by lia,by lia]
  .exact#[30,by simp,by lia,by lia]
 simp![eo];have ht:ToldOk names m many:=#[m2,m1,by lia,by lia,k0,k1]
 refine am λQ' E' Z _=>(jP ht 24).1 0 R M10 Q' E' (by decide) (by decide) o0 o1 R10 v #[by rw[H.2 rm B.1 B.2,Mem.upd_same],v0] λrows M11 J G h11 l11 I=>Z _ _ ?_
 obtain⟨v11,P,J⟩:=J;have v110:=P.2;simp![Ub];refine aN I.1 (by lia) (by lia) λx12 M12 a12 Y d12=>?_
 obtain⟨mk,hmk,emk⟩:=lS a12 Y;simp![emk];refine#[bj (by decide),ak<|h m many names rows mk M12 #[ht,X,G.1,by lia,by lia,l11,G.2,hmk,on6] (by lia) ?_]
 refine D9.kq.trans (Kq.trans ?_ d12.kq);refine#[I.1,λb o h1 h2 e=>?_];have hb:b≠rm:=Mem.ne e S;have:=(R9.dr H).2.2 b o h1 h2 hb (by rw[ae hb];exact e)
 exact I.2.2 b o h1 h2 hb this
theorem wZ(T:Has k M)(pl:PlG m many names rows mk)(h:∀(nums e:aaU)(M':Mem),nums.length=names.length->(e.length:Int)=many->(∀v∈nums,0<=v/\v<m)->(∀v∈e,0<=v/\v<m)->Kq k M M'->Q (bC nums e) M'):zF ad [.ref k.p,jY m many names rows mk] M Q E:=by
 have t1:=pl.t.m1;have t2:=pl.t.m2;have t3:=pl.t.n1;have t4:=pl.t.k0;have t5:=pl.t.k1;refine bH (λxs aaO U M'=>∃(nums:aaU)(G:Option D),xs.length+nums.length=names.length/\aaO=nums.map D.int/\U=[G,ap (.ref k.p),ap (jY m many names rows mk)]/\Dr k M M'/\∀v∈nums,0<=v/\v<m) (λ_ _ _ _ _=>aK) ?_ ?_ ?_ _ _ _ _ #[[],bb,by simp,rfl,rfl,T.refl,by simp]
 .rintro aaO U M' ⟨nums,G,S,rfl,rfl,R,hv⟩
  intro p H;simp![Mem.upd_del,au H,atI_2];refine#[by lia,by lia,?_]
  refine bH (λxs aaO U M'=>∃(ps:aaU)(G:Option D),xs.length+ps.length=many.toNat/\aaO=ps.map D.int/\U=[G,ap (.ref k.p),ap (jY m many names rows mk)]/\Dr k M M'/\∀v∈ps,0<=v/\v<m) (λ_ _ _ _ _=>aK) ?_ ?_ ?_ _ _ _ _ #[[],bb,by simp[cQ],rfl,rfl,R,by simp]
  .rintro aaO U M' ⟨ps,G,B,rfl,rfl,F,f⟩
   intro p H;simp![Mem.upd_del,au H];refine#[bj (by decide),ak<|h nums ps M' (by simpa using S) (by simp at B;lia) hv f F.kq]
  .rintro x xs aaO U M' ⟨ps,G,B,rfl,rfl,F,f⟩ N I _
   simp![jY,atI_0];refine aN F.1 (by lia) (by lia) λr M3 P J O=>?_
   simp![];simp only[Uz]at B;refine I _ _ _ (by simp;exact fC (by lia)) #[ps++[r],_,by simp;lia,by simp,rfl,F.trans O,λv hv=>?_]
   rcases Ux.mp hv with hv|hv
   .exact f v hv
   .simp at hv;subst hv;exact#[P,J]
  .rintro x xs aaO U M' ⟨ps,G,B,rfl,rfl,F,f⟩
   simp at B ⊢;exact fC (by lia)
 .rintro x xs aaO U M' ⟨ps,G,B,rfl,rfl,F,f⟩ N I _
  simp![jY,atI_0];refine aN F.1 (by lia) (by lia) λr M3 P J O=>?_
  simp![];simp only[Uz]at B;refine I _ _ _ (by simp;exact fC (by lia)) #[ps++[r],_,by simp;lia,by simp,rfl,F.trans O,λv hv=>?_]
  rcases Ux.mp hv with hv|hv
  .exact f v hv
  .simp at hv;subst hv;exact#[P,J]
 .rintro x xs aaO U M' ⟨ps,G,B,rfl,rfl,F,f⟩
  simp at B ⊢;exact fC (by lia)
theorem dA{b:BxC (af 0) tt te ok Q}{rest:Dl}{c:Option D}{xs:List D}(p:D->Bool)(f:D->D)(T:ok M)(W:xs.length<=100000)(S:∀x∈xs,∀K:Bool->Mem->Prop,K (p x) M->tt (ap x::rest) M K)(R:∀x∈xs,p x=true->∀K:DK,K (f x) M->te (ap x::rest) M K)(h:Q ((xs.filter p).map f) M):
  cU (af 0) tt te ok Q b xs [] (c::rest) M:=by
 refine bH (λF aaO U N=>∃(us:List D)(B:Option D),xs=us++F/\aaO=(us.filter p).map f/\U=B::rest/\M=N) (by lia) ?_ ?_ ?_ _ _ _ _ #[[],c,rfl,rfl,rfl,rfl]
 .rintro aaO U N ⟨us,B,e,rfl,rfl,rfl⟩
  simp_all
 .rintro y F aaO U N ⟨us,B,e,rfl,rfl,rfl⟩ N' H G
  have O:y∈xs:=by rw[e];simp
  have I:=congrArg VD e;simp at I;have P:=UK p us;refine S y O _ ?_;cases J:p y with
  |true=>
   exact R y O J _ (H _ _ _ (by rw[Ub];exact fC (by lia)) #[us++[y],_,by simp[e],by simp[J],rfl,rfl])
  |false=>
   exact G _ _ _ #[us++[y],_,by simp[e],by simp[J],rfl,rfl]
 rintro y F aaO U N ⟨us,B,e,rfl,rfl,rfl⟩
 have I:=congrArg VD e;simp at I;have P:=UK p us;rw[Ub];exact fC (by lia)
theorem dM{b:BxC (af 0) cP te ok Q}{rest:Dl}{c:Option D}{xs:List D}(f:D->D)(B:ok M)(F:xs.length<=100000)(p:∀x∈xs,∀K:DK,K (f x) M->te (ap x::rest) M K)(h:Q (xs.map f) M):cU (af 0) cP te ok Q b xs [] (c::rest) M:=by
 refine dA _ f B F (λx _ K q=>q) (λx e _=>p x e) ?_;rw[Wz.mpr λ_ _=>rfl];exact h
instance lawKey:LawfulBEq aC where
 eq_of_beq {a b} h:=by
  cases a<;>cases b
  .exact congrArg Vz (eq_of_beq (α:=Int) h)
  .cases h
  .cases h
  .exact congrArg UL (eq_of_beq (α:=Str) h)
 rfl {a}:=by
  cases a
  .exact beq_self_eq_true (α:=Int) _
  .exact beq_self_eq_true (α:=Str) _
noncomputable def kD:aC->D
 |.inl i=>.int i
 |.inr x=>.str x
theorem EK(a b:aC):aR (kD a) (kD b)=decide (a=b):=by
 cases a<;>cases b<;>simp[kD,aR]
theorem xW(n:Nat)(a:aC):cN n (kD a)=true:=by cases a<;>cases n<;>rfl
theorem ly(n:Nat):∀ks:List aC,fits n (ks.map kD)=true
 |[]=>by rfl
 |k::ks=>by simp[fits,xW,ly n ks]
theorem qo:∀ks:List aC,eV (ks.map kD)=ap ks
 |[]=>rfl
 |k::ks=>by
  cases k<;>simp[eV,kD,cE,(qo ks)]
theorem yh:∀a b:List aC,gj (a.map kD) (b.map kD)=decide (a=b)
 |[],[]=>rfl
 |[],_::_=>rfl
 |_::_,[]=>rfl
 |a::as,b::bs=>by
  simp only[Ud,gj,EK,yh as bs]
  simp_all
theorem ER:((ks.map kD).any λd=>aR d (kD k))=decide (k∈ks):=by
 induction ks with
 |nil=>rfl
 |cons a ks ih=>
  rw[Ud,Wo,EK]
  by_cases h:a=k
  .simp[h]
  have:¬k=a:=λe=>h e.symm
  simp_all
def Ao(ks:List aC):D:=.lst (ks.map kD)
theorem SS:dv M (kD k)=kD k:=by cases k<;>rfl
theorem Ja:iD M (kD k) (Ao ks)=ap (decide (k∈ks)):=by
 unfold iD Ao
 simp_arith! only[aQ,SS,xW,ly,and_self,if_true,ER]
structure Cse where
 w:Int
 many:Nat
 names:List Str
 rows:List Rw
 mn:Str
 most:Nat
structure Sta where
 nums:List Int
 pieces:List Int
def Sta.d(s:Sta):D:=bC s.nums s.pieces
noncomputable def Cse.cf(C:Cse)(s:Sta):Cf:=#[C.w,s.pieces,C.most]
def Cse.d(C:Cse):D:=.tup [.int C.w,.tup (C.names.map D.str),.int (C.many:Nat),.tup (aG C.rows),.str C.mn]
structure Cse.Ok(C:Cse):Prop where
 m2:2<=C.w
 m1:C.w<=997
 few:C.many<=100
 most:C.most<=10000
 nd:C.names.Nodup
 l0:0<C.names.length
 l1:C.names.length<=100
 ok:bg C.names C.w C.many C.rows
 h:dy C.rows<=7
 mn:C.mn∈C.names
structure SOk(C:Cse)(s:Sta):Prop where
 ln:s.nums.length=C.names.length
 lp:s.pieces.length=C.many
 rn:∀v∈s.nums,0<=v/\v<C.w
 rp:∀v∈s.pieces,0<=v/\v<C.w
def uj(mk:Str)(r:Bool×Sx):D:=if r.1=true then .int (nm r.2.nums mk) else .non
def Cse.run(C:Cse)(s:Sta):Bool×Sx:=dj (C.cf s) C.names C.rows s.nums
def Cse.mark(C:Cse)(s:Sta):D:=uj C.mn (C.run s)
section
variable{s:Sta}
theorem Cse.Ok.pl(o:C.Ok)(k:SOk C s):PlOk (C.cf s) C.names C.rows s.nums:=
 #[#[o.m2,o.m1,k.rp,by show s.pieces.length<=1000;rw[k.lp];have:=o.few;lia,o.most],k.ln.symm,o.nd,o.l0,by have:=o.l1;lia,k.rn,by show bg _ _ s.pieces.length _;rw[k.lp];exact o.ok,o.h]
theorem SOk.pd(k:SOk C s):C.d=aW (C.cf s) C.names C.rows C.mn:=by unfold Cse.d aW Cse.cf;rw[k.lp]
theorem xc(C:Cse)(s:Sta):C.mark s=.non\/∃v,C.mark s=.int v:=by
 unfold Cse.mark uj
 split
 .exact .inr #[_,rfl]
 exact .inl rfl
theorem uS(h:Q (C.mark s) M):frz (C.mark s) M Q:=by rcases xc C s with e|⟨v,e⟩<;>rw[e]at h ⊢<;>exact h
theorem oj:∀{names:aaV},mk∈names->∃j,names.findIdx? (λy=>decide (y=mk))=ap j/\names[j]?=ap mk
 |[],h=>by simp at h
 |x::names,h=>by
  by_cases e:x=mk
  .subst e;exact#[0,by simp[WJ],rfl]
  have f:mk∈names:=by
   rcases Uj.mp h with z|z
   .simp_all
   exact z
  obtain⟨j,p,B⟩:=oj f;exact#[j+1,by simp[WJ,e,p],by trivial]
theorem dX:∀names:List Str,k9 (names.map D.str)=ap names
 |[]=>rfl
 |x::names=>by rw[Ud,k9,dX _]
def CF(names:aaV)(r:Bool×Sx):D:=.tup [.lst (ww r.2.steps),dw names r]
theorem F0{b:BxQ EE λd M'=>frzT d M' Q}(p:PlOk c names rows nums)(h:Q (CF names<|dj c names rows nums) M):
  calls (ue ad) EE [aW c names rows mk,bC nums c.pieces,.int (c.most:Nat)] M (λd M'=>frzT d M' Q) b:=by
 refine am λQ' E' B _=>Ft p λl f=>B _ _ ?_;unfold CF dw at h;unfold dw;cases e:(dj c _ _ _).1 with
 |true=>
  rw[e]at h;rw[if_pos rfl];simp![Mem.upd_del,au f];exact h
 |false=>
  rw[e]at h;rw[if_neg (by simp)]
  simp![Mem.upd_del,au f];exact h
theorem D8(p:PlOk c names rows nums)(G:mk∈names)(h:Q (uj mk<|dj c names rows nums) M):qF ad [aW c names rows mk,bC nums c.pieces,.int (c.most:Nat)] M Q E:=by
 obtain⟨j,B,f⟩:=oj G;simp![TW,Az];refine F0 p ?_;simp![CF];unfold uj at h;unfold dw;cases e:(dj c _ _ _).1 with
 |true=>
  rw[e]at h;simp![aW,atI_1,atI_4,dX,B];refine#[p.l1,?_];have F:fE (names.map λx=>D.int (nm (dj c names rows nums).2.nums x)) j=ap (.int<|nm (dj c names rows nums).2.nums mk):=by
   rw[bJ (by lia),UM,Um,f];rfl
  simp![F];exact ak h
 |false=>
  rw[e]at h;exact ak h
theorem qp{b:BxQ EE Q}(o:C.Ok)(k:SOk C s)(h:Q (C.mark s) M):calls (qF ad) EE [C.d,s.d,.int (C.most:Nat)] M Q b:=by
 refine aI (λQ' E' q=>?_) h;rw[k.pd];exact D8 (o.pl k) o.mn q
def bo(C:Cse)(s t:Sta):D:=.tup [C.d,s.d,t.d,.int (C.most:Nat)]
theorem csE{C:Cse}{s t:Sta}:bo C s t=.tup [C.d,s.d,t.d,.int (C.most:Nat)]:=rfl
theorem DQ{C:Cse}:C.d=.tup [.int C.w,.tup (C.names.map D.str),.int (C.many:Nat),.tup (aG C.rows),.str C.mn]:=rfl
noncomputable def dZ(C:Cse):List aC:=C.names.map UL++(Ut C.many).map λ(i:Nat)=>Vz (i:Int)
def aH(C:Cse)(s:Sta):aC->Int
 |.inl i=>(s.pieces[i.toNat]?).getD 0
 |.inr x=>nm (C.names.zip s.nums) x
theorem jL:∀{names:aaV}{nums:aaU}{j:Nat}{x:Str},names.Nodup->names.length=nums.length->names[j]?=ap x->nums[j]?=ap (nm (names.zip nums) x)
 |[],_,j,x,_,_,h=>by simp at h
 |y::names,[],j,x,_,h,_=>by simp at h
 |y::names,v::nums,0,x,nd,hl,h=>by
  simp at h;subst h;simp[nm,gN]
 |y::names,v::nums,j+1,x,nd,hl,h=>by
  simp at h ⊢;have f:=Vr.mp nd;have p:¬y=x:=λe=>f.1 (e▸Vf h);rw[jL f.2 (by simp_all) h]
  simp[nm,gN,p]
theorem gW(h:k∈dZ C):(∃x,x∈C.names/\k=.inr x)\/∃i:Nat,i<C.many/\k=.inl (i:Int):=by
 rcases Ux.mp h with q|q
 .obtain⟨x,e,rfl⟩:=Ul.mp q
  exact .inl (by lia)
 obtain⟨i,f,rfl⟩:=Ul.mp q;exact .inr #[i,by simp_all,rfl]
theorem bG(o:C.Ok)(k:SOk C s)(f:t∈dZ C):0<=aH C s t/\aH C s t<C.w:=by
 rcases gW f with⟨x,e,rfl⟩|⟨i,hi,rfl⟩
 .exact((o.pl k).nok.at e).2
 exact((o.pl k).co.piece<|by show _<s.pieces.length;rw[k.lp];lia).2
theorem dU(o:C.Ok)(k:SOk C s)(F:t∈dZ C)(h:Q (.int<|aH C s t) M):oG ad [C.d,s.d,kD t] M Q E:=by
 have l1:=o.l1;rcases gW F with⟨x,f,rfl⟩|⟨i,hi,rfl⟩
 .obtain⟨j,p,B⟩:=oj f
  have e:fE (s.nums.map D.int) j=ap (.int<|nm (C.names.zip s.nums) x):=by
   rw[bJ (by lia),UM,Um,jL o.nd k.ln.symm B];rfl
  simp![N5,uG,kD,Cse.d,Sta.d,bC,nr,atI_0,atI_1,dX,p,W0,XA,Xd];refine#[by lia,?_]
  simp![e];exact ak h
 have e:fE (s.pieces.map D.int) i=ap (.int<|(s.pieces[(i:Int).toNat]?).getD 0):=by
  rw[bJ (by lia),Um,Uc (by rw[k.lp];exact hi)];rfl
 simp![N5,uG,kD,Sta.d,bC,nr,atI_1,e,W0,XA,Xd];exact ak h
end
def lM(k:Wk)(c:Cf)(s:Sx)(M:Mem):Mem:=
 ((M.upd k.a<|.lst [.ref k.dn,.tup (c.pieces.map D.int),.ref k.ls,.int (c.most:Nat),.int c.m]).upd k.dn<|.dK<|d_ s.nums).upd k.ls (.lst<|ww s.steps)
theorem mC:lM k c s M k.a=ap (.lst [.ref k.dn,.tup (c.pieces.map D.int),.ref k.ls,.int (c.most:Nat),.int c.m]):=by
 unfold lM;rw[ae k.h2,ae k.h1,Mem.upd_same]
theorem nJ:lM k c s M k.dn=ap (.dK<|d_ s.nums):=by unfold lM;rw[ae k.h3,Mem.upd_same]
theorem MH:lM k c s M k.ls=ap (.lst<|ww s.steps):=by unfold lM;simp_all
theorem EV{x:List (List Int×Int)}:(lM k c s M).upd k.ls (.lst<|ww x)=lM k c #[s.nums,x] M:=by unfold lM;simp_all
theorem Ky{x:cD}:(lM k c s M).upd k.dn (.dK<|d_ x)=lM k c #[x,s.steps] M:=by
 unfold lM;rw[aA (UN k.h3),Mem.upd_upd]
theorem t7(f:c.most<=10000)(e:s.steps.length<=c.most)(h:Q (.bl (nt c pl v s).1) (lM k c (nt c pl v s).2 M)):
  ka ad [.ref k.a,io pl,.int v] (lM k c s M) Q E:=by
 unfold nt at h;simp![TJ,AW,mC,MH,atI_2,atI_3,ww,Ub]
 by_cases q:s.steps.length<c.most
 .rw[if_pos q]at h
  rw[if_neg (by lia)]
  refine#[by trivial,fC (by lia),ak ?_]
  rw[<- EV]at h;simpa [ww] using h
 rw[if_neg q]at h;rw[if_pos (by lia)]
 exact ak h
theorem tR{b:BxQ EE Q}(p:c.most<=10000)(e:s.steps.length<=c.most)(h:Q (.bl (nt c pl v s).1) (lM k c (nt c pl v s).2 M)):
  calls (ka ad) EE [.ref k.a,io pl,.int v] (lM k c s M) Q b:=
 am λ_ _ f _=>t7 p e (f _ _ h)
theorem vP(f:COk c){i:Int}(e:0<=i)(h:i<c.pieces.length):fE (c.pieces.map D.int) i=ap (.int<|(c.pieces[i.toNat]?).getD 0):=by
 rw[bJ e,Um,Uc (by lia)];rfl
theorem sB(p:COk c)(B:NOk names c.m s.nums)(f:de names c.m c.pieces.length r)(h:Q (.int<|num c s.nums r) (lM k c s M)):
  vf ad [.ref k.a,r.d] (lM k c s M) Q E:=by
 have m2:=p.m2;have m1:=p.m1;cases r with
 |put x kk=>
  simp![BC,nP,Rw.d,↓Dh,mC,nJ,atI_0,atI_2,atI_3,Xy];exact ak h
 |take x i=>
  simp![BC,nP,Rw.d,↓Dh,mC,nJ,atI_0,atI_2,atI_3,Xy,vP p f.2.1 f.2.2];exact ak h
 |pick x y=>
  have G:=(B.at f.2.1).1;have J:=f.2.2;have X:=VE (nm s.nums y) (show (c.pieces.length:Int)≠0 by lia)
  have S:=Vm (nm s.nums y) J;simp![BC,nP,Rw.d,↓Dh,mC,nJ,atI_0,atI_2,atI_3,Xy,ci,G,Ve,Ub,vP p X S];exact#[J,ak h]
 |two w x y z=>
  obtain⟨T,Y,I,R⟩:=f;have G:=(B.at I).1;have W:=(B.at R).1;have Z:=(B.at I).2;have F:(w="put")=False/\(w="take")=False/\(w="pick")=False:=by
   rcases T with rfl|rfl|rfl|rfl
   .exact#[(eq_false<|by decide +kernel),(eq_false<|by decide +kernel),(eq_false<|by decide +kernel)]
   .exact#[(eq_false<|by decide +kernel),(eq_false<|by decide +kernel),(eq_false<|by decide +kernel)]
   .exact#[(eq_false<|by decide +kernel),(eq_false<|by decide +kernel),(eq_false<|by decide +kernel)]
   .exact#[(eq_false<|by decide +kernel),(eq_false<|by decide +kernel),(eq_false<|by decide +kernel)]
  simp![BC,nP,Rw.d,↓Dh,mC,nJ,atI_0,atI_2,atI_3,ci,G,W,Ve,F.1,F.2.1,F.2.2];have e:Q (.int<|A9 w (nm s.nums y) (nm s.nums z) c.m) (lM k c s M):=h;unfold A9 at e
  by_cases O:w="sum"
  .rw[if_pos O]at e ⊢;exact#[by lia,ak e]
  .rw[if_neg O]at e ⊢
   by_cases H:w="by"
   .rw[if_pos H]at e ⊢;exact#[(.inl #[by lia,by lia]),by lia,ak e]
   .rw[if_neg H]at e ⊢
    by_cases P:w="less"
    .rw[if_pos P]at e ⊢
     split<;>rename_i q
     .rw[if_pos q]at e;exact ak e
     .rw[if_neg q]at e;exact ak e
    .rw[if_neg P]at e ⊢
     split<;>rename_i q
     .rw[if_pos q]at e;exact ak e
     .rw[if_neg q]at e;exact ak e
 |ifr=>exact f.elim
 |again=>exact f.elim
theorem sM{b:BxQ EE Q}(e:d=r.d)(p:COk c)(B:NOk names c.m s.nums)(F:de names c.m c.pieces.length r)(h:Q (.int<|num c s.nums r) (lM k c s M)):
  calls (vf ad) EE [.ref k.a,d] (lM k c s M) Q b:=
 e▸am λ_ _ f _=>sB p B F (f _ _ h)
section
variable{k:Wk}
def my(ad:Ad)(k:Wk)(c:Cf)(names:aaV)(n:Nat):Prop:=∀(rs:List Rw)(pl:aaU)(s:Sx)(M:Mem)(Q:DK)(E:DX),bg names c.m c.pieces.length rs->2*dy rs+1<=n->pl.length+2*dy rs+2<=1000->NOk names c.m s.nums->s.steps.length<=c.most->
 Q (.bl (cc c rs pl 0 s).1) (lM k c (cc c rs pl 0 s).2 M)->Y7 ad n [.ref k.a,.tup (aG rs),io pl] (lM k c s M) Q E
def Ox(ad:Ad)(k:Wk)(c:Cf)(names:aaV)(n:Nat):Prop:=∀(x:Str)(a:List Rw)(pl:aaU)(s:Sx)(M:Mem)(Q:DK)(E:DX),f_ names c.m c.pieces.length (.again x a)->2*hR (.again x a)<=n->pl.length+2*hR (.again x a)+1<=1000->NOk names c.m s.nums->s.steps.length<=c.most->
 Q (.bl (iO c (.again x a) pl s).1) (lM k c (iO c (.again x a) pl s).2 M)->Zb ad n [.ref k.a,(Rw.again x a).d,io pl] (lM k c s M) Q E
theorem IK:kP c r pl s=if (nt c pl (num c s.nums r) s).1=true then (true,#[sN s.nums (iF r) (num c s.nums r),(nt c pl (num c s.nums r) s).2.steps]) else nt c pl (num c s.nums r) s:=by
 unfold kP nt;lia
theorem P0(f:NOk names c.m s.nums)(e:de names c.m c.pieces.length r):iF r∈s.nums.map (·.1):=by
 rw[f.keys];cases r with
 |two w x y z=>exact e.2.1
 |ifr=>exact e.elim
 |again=>exact e.elim
 |_=>exact e.1
theorem y0(G:COk c)(e:s.steps.length<=c.most)(B:U[0]?=ap (ap<|.ref k.a))(F:∀N K,K (io pl) N->h U N K)(p:∀N K,K (.int v) N->f U N K)(q:K (!(nt c pl v s).1) (lM k c (nt c pl v s).2 M)):fH (cq<|ao<|aj (ka ad) EE 3<|aa (ac 0)<|aa h<|aa f ag) U (lM k c s M) K:=by
 simp_arith! only[fH,cq,ao,aj,aa,ac,B]
 exact F _ _ (p _ _ #[rfl,tR G.most e q])
theorem Ge{rest:List D}{w:D}(f:gN s.nums x=ap (nm s.nums x))(e:U[0]?=ap (ap<|.ref k.a))(h:U[i]?=ap (ap<|.tup (w::.str x::rest)))(q:K (.int<|lk s.nums x) (lM k c s M)):
  oi (al<|ah bR (ah av (ah av (ac 0)<|dC<|.int 0)<|ah av (ac i)<|dC<|.int 1)<|dC<|.int 0) (dC<|.int 0) (dC<|.int 1) U (lM k c s M) K:=by
 simp![e,h,mC,nJ,atI_0,atI_1,ci,f,Ve];unfold lk at q;lia
theorem rW(p:pl.length<=1000)(h:U[i]?=ap (ap<|io pl))(f:U[j]?=ap (ap<|.int v))(q:K (io (pl++[v])) M):ah bc (ac i) (aU<|aa (ac j) ag) U M K:=by
 simp_arith! only[ah,ac,aU,aa,h,f,io,bc,Ub,Uz,Wv]
 refine#[by trivial,bj (by lia),?_]
 have e:pl.map D.int++[.int v]=(pl++[v]).map D.int:=by simp
 rw[e];exact q
theorem Fv(G:my ad k c names n)(H:U[0]?=ap (ap<|.ref k.a))(I:∀N K,K (.tup<|aG rs) N->B U N K)(J:∀N K,K (io pl) N->p U N K)(ok:bg names c.m c.pieces.length rs)(O:2*dy rs+1<=n)(f:pl.length+2*dy rs+2<=1000)(h:NOk names c.m s.nums)(e:s.steps.length<=c.most)(q:K (!(cc c rs pl 0 s).1) (lM k c (cc c rs pl 0 s).2 M)):
  fH (cq<|ao<|aj (Y7 ad n) EE 3<|aa (ac 0)<|aa B<|aa p ag) U (lM k c s M) K:=by
 simp_arith! only[fH,cq,ao,aj,aa,ac,H]
 refine I _ _ (J _ _ #[rfl,am λQ' E' F _=>G rs pl _ M Q' E' ok O f h e (F _ _ q)])
theorem Km(h:f_ names m many r)(e:bi r=true):de names m many r:=by
 cases r<;>first|assumption|cases e
theorem vQ{n:cD}:lk n x=0\/lk n x=1:=by unfold lk;split<;>simp
theorem kf{EE:DX}{S0:Sd}{n:Nat}{x:Str}{a:List Rw}{pl:aaU}{M:Mem}{Q:DK}{D':DEnds}{ok:Mem->Prop}{bx:BxF (af 3) (lQ ad S0 (Y7 ad n) EE) D' ok}(R:COk c)(W:my ad k c names n)(T:x∈names)(F:bg names c.m c.pieces.length a)(X:2*dy a+1<=n)(P:pl.length+2*dy a+3<=1000)
  (O:∀M,ok M) (e:D'.rt=_3.drp Q) (H:∀U M',_3.drp Q (.bl cp) M'->D'.nx U M'):∀(f t:Nat)(s:Sx)(J S:Option D),NOk names c.m s.nums->s.steps.length<=c.most->
  Q (.bl (fh c x pl (λt s=>cc c a (pl++[(t:Int)]) 0 s) f t s).1) (lM k c (fh c x pl (λt s=>cc c a (pl++[(t:Int)]) 0 s) f t s).2 M)->
  jr (af 3) (lQ ad S0 (Y7 ad n) EE) D' ok bx ((V8 t f).map λ(i:Nat)=>D.int (i:Int)) [ap (.ref k.a),ap (.tup [.str "again",.str x,.tup (aG a)]),ap (io pl),J,S] (lM k c s M)
 |0,t,s,J,S,hno,hst,h=>#[O _,H _ _<|ak h]
 |f+1,t,s,J,S,hno,hst,h=>by
  refine#[O _,?_];unfold fh at h;have p:=(nt_gr (pl:=pl++[(t:Int)]) (v:=lk s.nums x)).2 hst;have B:NOk names c.m (nt c (pl++[(t:Int)]) (lk s.nums x) s).2.nums:=by rw[fW];exact hno
  refine Ge (hno.at T).1 rfl rfl ?_;simp[af];unfold sw ai aE;refine y0 R hst rfl (λN K=>rW (by lia) rfl rfl) (λN K q=>q) ?_
  cases I:(nt c _ _ s).1 with
  |false=>
   rw[if_neg (by rw[I];simp),I]at h
   simp[e];exact ak h
  |true=>
   rw[if_pos I]at h;simp[aB];have Y:∀K:Bool->Mem->Prop,K (decide _) (lM k c (nt c (pl++[(t:Int)]) (lk s.nums x) s).2 M)->al (ah bR (ac 4)<|dC<|.int 0) [ap (.ref k.a),ap (.tup [.str "again",.str x,.tup (aG a)]),ap (io pl),ap (.int t),ap (.int<|lk s.nums x)] _ K:=λK q=>by
    trivial
   refine Y _ ?_;rcases vQ with hl|hl
   .rw[hl,if_neg (by decide),<- hl,I]at h
    simp[hl,e];rw[<- hl];exact ak h
   rw[hl,if_pos rfl,<- hl]at h;have n1:decide (lk s.nums x=0)=false:=by rw[hl];rfl
   simp[n1,aB];unfold qZ aE;refine Fv W rfl (λN K q=>?_) (λN K=>rW (by lia) rfl rfl) F X (by simp;lia) B p ?_
   .exact q
   cases G:(cc c a _ 0 _).1 with
   |false=>
    rw[if_neg (by simp_all),G]at h
    simp[e];exact ak h
   |true=>
    rw[if_pos G]at h;exact kf R W T F X P O e H f _ _ _ _ (dq R a F _ _ _ B) ((fP a _ 0 _).2 p) h
theorem vW(G:COk c)(J:my ad k c names n):Ox ad k c names (n+1):=by
 intro x a pl s M Q E f I B F p h;simp only[hR]at I B;have H:=G.most;rw[TR];unfold Ah
 simp_arith! only[ai,cV,fb,aa,ah,ac,dC,dt,av,aQ,mC]
 refine#[by lia,by lia,?_]
 have e:cQ 0 ((c.most:Int)+1).toNat=(V8 0 (c.most+1)).map λ(i:Nat)=>D.int i:=by
  unfold cQ;rw[VT]
  simp_all
 rw[e];exact kf G J f.1 f.2 (by lia) (by lia) (λ_=>aK) rfl (λ_ _ z=>z) _ 0 s _ _ F p h
theorem mF{rest:List D}(f:U[4]?=ap (ap<|.tup (.str w::rest)))(q:K (decide (w=e)) M):al (ah bR (ah av (ac 4)<|dC<|.int 0)<|dC<|.str e) U M K:=by
 simp_arith! only[al,ah,ac,f]
 trivial
def RGo(D':DEnds)(k:Wk)(c:Cf)(M:Mem)(d1 d2:Option D)(r:Bool×Sx):Prop:=(r.1=true->∀c3 c4 c5 c6 c7 c8,D'.nx [ap (.ref k.a),d1,d2,c3,c4,c5,c6,c7,c8] (lM k c r.2 M))/\(r.1=cp->D'.rt (.bl cp) (lM k c r.2 M))
theorem EW(F:COk c)(e:NOk names c.m s.nums)(p:s.steps.length<=c.most)(H:names.length<=1000)(B:de names c.m c.pieces.length r)(g:RGo D' k c M d1 d2 (kP c r pl s)):lC ad S0 S1 EE D' [ap (.ref k.a),d1,d2,d3,ap r.d,ap (io pl),d6,d7,d8] (lM k c s M):=by
 obtain⟨w,rest,G,_,_⟩:=k7 B;rw[IK]at g;unfold lC;generalize h:lX ad S0 S1 EE=K6;refine#[rfl,sM rfl F e B ?_];show af 8 _ _ _ _;simp[af];rw[<- h];unfold lX ai aE;refine y0 F p rfl (λ_ _ q=>q) (λ_ _ q=>q) ?_;cases f:(nt c pl _ s).1 with
 |false=>
  rw[if_neg (by rw[f];simp)]at g
  exact g.2 f
 |true=>
  rw[if_pos f]at g;rw[G];simp![mC,nJ,atI_0,atI_1,fW];refine#[(by rw[d_,Ub,<- Ub,e.keys];exact fC (by lia)),?_]
  rw[mh (P0 e B),(Ky (k:=k) (c:=c) (s:=(nt c pl (num c s.nums r) s).2) (M:=M) (x:=sN s.nums (iF r) (num c s.nums r)))];exact g.1 rfl _ _ _ _ _ _
theorem KM{a b:List Rw}(R:COk c)(h:NOk names c.m s.nums)(f:s.steps.length<=c.most)(P:my ad k c names n)(ok:f_ names c.m c.pieces.length (.ifr x a b))(B:2*dy a+1<=n/\2*dy b+1<=n/\pl.length+2*dy a+3<=1000/\pl.length+2*dy b+3<=1000)(g:RGo D' k c M d1 d2 (iO c (.ifr x a b) pl s)):
  ra ad S0 (Y7 ad n) EE D' [ap (.ref k.a),d1,d2,d3,ap (.tup [.str "if",.str x,.tup (aG a),.tup (aG b)]),ap (io pl),d6,d7,d8] (lM k c s M):=by
 refine Ge (h.at ok.1).1 rfl rfl ?_;obtain⟨rs,F,O,I,H,S⟩:∃rs,fE [D.tup (aG b),.tup (aG a)] (lk s.nums x)=ap (.tup _)/\(iO c (.ifr x a b) pl s=if (nt c pl (lk s.nums x) s).1=true then cc c rs (pl++[lk s.nums x]) 0 (nt c pl (lk s.nums x) s).2 else nt c pl (lk s.nums x) s)/\bg _ _ _ rs/\2*dy rs+1<=n/\pl.length+2*dy rs+3<=1000:=by
  unfold iO;rcases vQ with hl|hl<;>rw[hl]
  .exact#[b,rfl,rfl,ok.2.2,B.2.1,B.2.2.2]
  exact#[a,rfl,rfl,ok.2.1,B.1,B.2.2.1]
 rw[O]at g;unfold tD
 simp_arith! only[af,Uy,ai,aq,ah,ac,dt,TZ,av,aQ]
 refine#[bj (by simp),λp J=>?_]
 simp_arith! only[frz,Mem.upd_same,Mem.upd_del,au J,F,af]
 unfold rP aE QN;refine y0 R f rfl (λ_ _ q=>q) (λ_ _ q=>q) ?_;cases G:(nt c pl _ s).1 with
 |false=>
  rw[if_neg (by rw[G];simp)]at g
  exact g.2 G
 |true=>
  rw[if_pos G]at g;simp;refine Fv P rfl (λN K q=>q) (λN K=>rW (by lia) rfl rfl) I H (by simp;lia) (by rw[fW];exact h) (nt_gr.2 f) ?_
  cases e:(cc c rs _ 0 _).1 with
  |false=>
   exact g.2 e
  |true=>
   exact g.1 e _ _ _ _ _ _
theorem CV(hnl:names.length<=1000)(hc:COk c)(ihd:my ad k c names n)(ihr:Ox ad k c names n):my ad k c names (n+1):=by
 intro rs pl s M Q E f hn H p B h;rw[S2];unfold zB
 simp_arith! only[ai,cV,vA,aa,ac,dt,TZ,aQ,oy]
 refine cu (λxs U M'=>∃(e:List Rw)(j:Nat)(G:Sx)(R S W J O P:Option D),xs=fX j (aG e)/\U=[ap _,ap _,ap _,R,S,W,J,O,P]/\M'=lM k c G M/\bg _ _ _ e/\2*dy e+1<=n+1/\pl.length+2*dy e+2<=1000/\NOk _ _ G.nums/\G.steps.length<=c.most/\
  Q (.bl (cc c e pl j G).1) (lM k c (cc c e pl j G).2 M)) (λ_ _ _ _=>aK) ?_ ?_ _ _ _ #[rs,0,s,_,_,_,_,_,_,rfl,rfl,rfl,f,hn,H,p,B,h]
 .rintro U M' ⟨e,j,G,R,S,W,J,O,P,Y,rfl,rfl,f,hn,H,p,B,h⟩
  cases e with
  |nil=>
   exact ak h
  |cons r rs=>trivial
 rintro x xs U M' ⟨e,j,G,R,S,W,J,O,P,Y,rfl,rfl,f,hn,H,p,B,h⟩ D' T _ Z _
 cases e with
 |nil=>simp[aG,fX]at Y
 |cons r e=>
  simp only[aG,fX,U7]at Y;obtain⟨rfl,rfl⟩:=Y;simp only[bg]at f;have h1:hR r<=dy (r::e)/\dy e<=dy (r::e):=by simp only[dy];lia
  simp only[cc]at h;have g:RGo D' k c M (ap<|.tup<|aG rs) (ap<|io pl) (iO c r (pl++[(j:Int)]) G):=#[λI R S W J O P=>by
   rw[if_pos I]at h;exact T _ _ #[e,j+1,_,R,S,W,J,O,P,rfl,rfl,rfl,f.2,by lia,by lia,rH hc r f.1 _ _ p,(sY r _ _).2 B,h],λI=>by
   rw[if_neg (by rw[I];simp),I]at h
   rw[show D'.rt=_3.drp Q from Z];exact ak h]
  clear T h
  simp_arith! only[dk,aM,da,af,Uy]
  refine#[rfl,?_];unfold n8 ai aq;refine rW (by lia) rfl rfl ?_
  simp only[af,Uy];unfold tL aE
  by_cases F:bi r=true
  .have X:=Km f.1 F
   rw[cF F]at g;have ds:=EW (ad:=ad) (S0:=Zb ad n) (S1:=Y7 ad n) (EE:=aJ E) (d3:=ap (.int (j:Int))) (d6:=J) (d7:=O) (d8:=P) hc p B hnl X g;obtain⟨w,rest,er,hw1,hw2⟩:=k7 X;rw[er]at ds ⊢;have n1:decide (w=("again":Str))=false:=decide_eq_false λz=>by rw[hw1]at z;exact z
   have n2:decide (w=("if":Str))=false:=decide_eq_false λz=>by rw[hw2]at z;exact z
   refine mF rfl ?_;simp only[n1,US,if_false];unfold lV aE;refine mF rfl ?_;simp only[n2,US,if_false];exact ds
  cases r with
  |again x a=>
   simp only[Rw.d];refine mF rfl ?_;simp only[decide_true,if_true];unfold sx aE
   simp_arith! only[fH,cq,ao,aj,aa,ag,ac,dt,TZ]
   refine#[rfl,am λQ' E' hq _=>ihr x a (pl++[(j:Int)]) G M Q' E' f.1 (by lia) (by simp;lia) p B (hq _ _ ?_)]
   cases I:(iO c (.again x a) (pl++[(j:Int)]) G).1 with
   |true=>
    simp_arith! only[frz,DM,Yr,US,if_false,aB]
    exact g.1 I _ _ _ _ _ _
   |false=>
    simp_arith! only[frz,DM,Yc,if_true,az,dC]
    exact g.2 I
  |ifr x a b=>
   simp only[hR]at h1;simp only[Rw.d];have n1:decide (("if":Str)=("again":Str))=false:=by decide +kernel
   refine mF rfl ?_;simp only[n1,US,if_false];unfold lV aE;refine mF rfl ?_;simp only[decide_true,if_true];exact KM hc p B ihd f.1 #[by lia,by lia,by simp;lia,by simp;lia] g
  |_=>exact absurd rfl F
theorem vR(e:names.length<=1000)(f:COk c):∀n:Nat,my ad k c names n/\Ox ad k c names n
 |0=>#[λrs pl s M Q E _ h=>by lia,λx a pl s M Q E _ h=>by simp[hR]at h;lia]
 |n+1=>by
  obtain⟨p,B⟩:=vR e f n;exact#[CV e f p B,vW f p]
end
theorem PZ(p:M k.a=bb)(h:M k.dn=bb):∀b o,(M.upd k.ls<|.lst<|ww s.steps) b=ap o->lM k c s M b=ap o:=by
 intro b o e
 by_cases f:b=k.ls
 .subst f;rw[Mem.upd_same]at e;rw[MH];exact e
 rw[ae f]at e;unfold lM;rw[ae f,ae (Mem.ne e h),ae (Mem.ne e p)];exact e
theorem vX(p:PlOk c names rows nums)(h:∀l,M l=bb->Q (.tup [.ref l,dw names (dj c names rows nums)]) (M.upd l<|.lst<|ww (dj c names rows nums).2.steps)):
  og ad [aW c names rows mk,bC nums c.pieces,.int (c.most:Nat)] M Q E:=by
 have hl1:=p.l1;simp![TD,zx,aW,bC,atI_0,atI_1,atI_3,eJ,Ub];refine#[p.ln,p.l0,p.l1,λdn X=>?_];simp![gC p.ln p.nd];refine#[bj (by decide),λls e=>#[bj (by decide),λa G=>#[bj (by decide),?_]]]
 have W:dn≠ls:=by rintro rfl;rw[Mem.upd_same]at e;cases e
 have I:M ls=none:=by rw[ae (UN W)]at e;exact e
 have n2:a≠ls:=by rintro rfl;rw[Mem.upd_same]at G;cases G
 have n1:a≠dn:=by rintro rfl;rw[ae W,Mem.upd_same]at G;cases G
 have Y:M a=none:=by rw[ae n2,ae n1]at G;exact G
 obtain⟨k,J,O,R⟩:∃k:Wk,k.a=a/\k.dn=dn/\k.ls=ls:=#[#[a,dn,ls,n1,n2,W],rfl,rfl,rfl];have e0:((M.upd dn<|.dK<|d_<|names.zip nums).upd ls<|.lst []).upd a (.lst [.ref dn,.tup (c.pieces.map D.int),.ref ls,.int (c.most:Nat),.int c.m])=lM k c #[names.zip nums,[]] M:=by
  unfold lM;rw[J,O,R,aA (UN n2),aA (UN n1)];rfl
 rw[e0];have hD:=(vR (ad:=ad) (k:=k) p.l1 p.co 24).1 rows [] #[names.zip nums,[]] M;have hn:NOk names c.m (dj c names rows nums).2.nums:=dq p.co rows p.ok [] 0 #[names.zip nums,[]] p.nok;have P:=h ls I;subst J O R;have f:=PZ (c:=c) (k:=k) (s:=(dj c names rows nums).2) Y X;refine am λQ' E' T _=>hD Q' E' p.ok (by have:=p.h;lia) (by have:=p.h;simp;lia) p.nok (Va _) (T _ _ ?_)
 have er:cc c rows [] 0 #[names.zip nums,[]]=dj c names rows nums:=rfl;rw[er];unfold dw at P;cases Z:(dj c names rows nums).1 with
 |false=>
  rw[Z,if_neg (by simp)]at P
  simp![mC,atI_2];exact#[bj (by decide),#[_,f,P]]
 |true=>
  rw[Z,if_pos rfl]at P;simp![mC,atI_1,atI_2,↓aO]
  refine bH (λxs aaO U M'=>∃n1 n2 S,names=n1++n2/\xs=n2.map D.str/\aaO=n1.map (λx=>D.int (nm (dj c names rows nums).2.nums x))/\U=[S,ap (.ref k.a)]/\M'=lM k c (dj c names rows nums).2 M)
   (λ_ _ _ _ _=>aK) ?_ ?_ ?_ _ _ _ _ #[[],names,bb,rfl,rfl,rfl,rfl,rfl]
  .rintro aaO U M' ⟨n1,n2,S,B,F,rfl,rfl,rfl⟩ q T
   have:n2=[]:=by cases n2 with|nil=>rfl|cons _ _=>simp at F
   subst this;have en:n1=names:=by simpa using B.symm
   subst en;simp![Mem.upd_del,au T];exact#[bj (by decide),#[_,f,P]]
  .rintro x xs aaO U M' ⟨n1,n2,S,B,F,rfl,rfl,rfl⟩ N hN _
   cases n2 with
   |nil=>simp at F
   |cons y n2=>
    simp only[Ud,U7]at F;obtain⟨rfl,rfl⟩:=F;have hy:=(hn.at (x:=y)<|by rw[B];simp).1
    have H:n1.length+n2.length+1=names.length:=by rw[B];simp;lia
    simp![mC,nJ,atI_0,ci,hy,Ve];exact hN _ _ _ (by rw[Ub];exact fC (by lia)) #[n1++[y],n2,_,by rw[B];simp,rfl,by simp,rfl,rfl]
  .rintro x xs aaO U M' ⟨n1,n2,S,B,F,rfl,rfl,rfl⟩
   have H:n1.length+n2.length=names.length:=by rw[B];simp
   rw[Ub];exact fC (by lia)
theorem kF{b:BxQ EE λd M'=>frzT d M' Q}(p:PlOk c names rows nums)(h:Q (CF names<|dj c names rows nums) M):
  calls (og ad) EE [aW c names rows mk,bC nums c.pieces,.int (c.most:Nat)] M (λd M'=>frzT d M' Q) b:=by
 refine am λQ' E' B _=>vX p λl f=>B _ _ ?_;unfold CF dw at h;unfold dw;cases e:(dj c _ _ _).1 with
 |true=>
  rw[e]at h;rw[if_pos rfl];simp![Mem.upd_del,au f];exact h
 |false=>
  rw[e]at h;rw[if_neg (by simp)]
  simp![Mem.upd_del,au f];exact h
theorem whT(p:∀K:Bool->Mem->Prop,K true M->f U M K)(h:e { D' with nx:=cK f e D' bx n,ct:=cK f e D' bx n,bk:=D'.nx } U M):cK f e D' bx (n+1) U M:=by
 unfold cK
 simp_all
theorem whF(p:∀K:Bool->Mem->Prop,K cp M->e U M K)(h:D'.nx U M):cK e f D' bx (n+1) U M:=by
 unfold cK
 simp_all
theorem bM{xs:List D}(e:M p=bb)(h:Q (.lst xs) M):frz (.ref p) (M.upd p<|.lst xs) Q:=by
 simp_arith! only[frz,Mem.upd_same,Mem.upd_del,au e]
 exact h
section
variable{s:Sta}
def aL(C:Cse)(s t:Sta):List aC:=(dZ C).filter λk=>decide (aH C s k≠aH C t k)
theorem uk(o:C.Ok)(h:∀p,M p=bb->Q (.ref p) (M.upd p<|.lst<|(dZ C).map kD)):ug ad [C.d] M Q E:=by
 have l1:=o.l1;have few:=o.few;rw[Ra];unfold z9 Cse.d;simp![atI_1,atI_2];intro H B;simp only[Mem.upd_del,au B];refine#[by lia,λI G=>?_]
 simp[au G];refine#[bj (by simp[cQ];lia),λF f=>ak ?_]
 have:=h F f;have e:(dZ C).map kD=C.names.map D.str++cQ 0 (VO C.many):=by simp[dZ];congr 1;exact UD λi _=>by simp[kD]
 rw[e]at this;exact this
theorem FN(o:C.Ok)(H:SOk C s)(I:SOk C t)(h:∀p,M p=bb->Q (.ref p) (M.upd p<|.lst<|(aL C s t).map kD)):Bg ad [C.d,s.d,t.d] M Q E:=by
 have l1:=o.l1;have few:=o.few;have J:(dZ C).length=C.names.length+C.many:=by simp[dZ]
 refine#[rfl,am λQ' E' G _=>uk o λp f=>G _ _ (bM f ?_)];refine dA (λd=>match cE d with|some k=>decide (aH C s k≠aH C t k)|none=>cp) id aK (by simp;lia) (λx B K q=>?_) (λx B _ K q=>q) ?_
 .obtain⟨k,F,rfl⟩:=Ul.mp B
  refine#[rfl,aI (λ_ _ q=>dU o H F q) ?_];refine#[rfl,aI (λ_ _ q=>dU o I F q) ?_];refine#[rfl,rfl,?_];have e:cE (kD k)=ap k:=by cases k<;>rfl
  simp[e]at q
  assumption
 intro p f;have e:(((dZ C).map kD).filter λd=>match cE d with|some k=>decide (aH C s k≠aH C t k)|none=>cp).map id=(aL C s t).map kD:=by
  rw[Vu,Vb];congr 1;refine Wd λk _=>?_;cases k<;>rfl
 rw[e];exact ak (h p f)
theorem nM{b:Int}(o:C.Ok)(B:SOk C s)(G:SOk C t)(p:C.mark s=.int a)(F:C.mark t=.int b)(e:a≠b)(h:Q (.tup [.int a,.int b]) M):vU ad [bo C s t] M Q E:=by
 rw[R8];unfold Ax tE;generalize f:qK ad _=K;simp![bo,atI_0,atI_1,atI_3];refine qp o B (uS ?_);rw[p];simp![bo,atI_0,atI_2,atI_3];refine qp o G (uS ?_);rw[F,<- f];simp![e];exact#[by trivial,ak h]
theorem kN{b:Int}{m:D}(e:m=.non\/∃v,m=.int v)(h:Q (.str (if aR m (.int a)=true then "sound" else if aR m (.int b)=true then "faulty" else "other")) M):C7 ad [.tup [.int a,.int b],m] M Q E:=by
 rcases e with rfl|⟨v,rfl⟩
 .simp![Mj,vN,atI_0,atI_1]
  exact ak h
 simp![Mj,vN,atI_0,atI_1];simp[aR]at h
 split
 .rename_i q;rw[if_pos q]at h;exact ak h
 rename_i q;rw[if_neg q]at h
 split
 .rename_i q;rw[if_pos q]at h;exact ak h
 rename_i q;rw[if_neg q]at h;exact ak h
end
section
variable{κ:Type}[DecidableEq κ]
theorem Ir{aaN:List (κ×D)}{k j:κ}{v:D}:(cI (eh aaN k v) j).isSome=(decide (j=k)||(cI aaN j).isSome):=by
 unfold eh
 split
 .rename_i h
  induction aaN with
  |nil=>simp at h
  |cons p r ih=>
   obtain⟨f,J⟩:=p;simp only[Ud,cI,VN] at*
   by_cases e:f=k
   .subst e
    by_cases B:f=j
    .simp_all
    have H:¬j=f:=λz=>B z.symm;simp only[if_pos,B,decide_false,H,Ys]
    by_cases G:(r.any λF=>decide (F.1=f))=true
    .have:=ih G
     simp only[H]at this;exact this
    have:r.map (λF=>if F.1=f then (F.1,v) else F)=r:=by
     conv=>rhs;rw[<- Vu r]
     refine UD λq I=>?_;have:¬q.1=f:=λz=>G (Wl.mpr #[q,I,by simp[z]])
     simp[this]
    rw[this]
   rw[if_neg e]
   by_cases B:f=j
   .simp_all
   simp only[B];exact ih (by simp_all)
 unfold cI;rw[List.find?_append];cases q:aaN.find? _ with
 |some x=>simp
 |none=>
  by_cases e:j=k
  .subst e;simp
  have B:¬k=j:=λz=>e z.symm;simp[e,B]
theorem mY{aaN:List (κ×D)}{j:κ}:∀{a0:List (κ×D)},(cI (aaN.foldl (λa p=>eh a p.1 p.2) a0) j).isSome=(decide (j∈aaN.map (·.1))||(cI a0 j).isSome):=by
 induction aaN with
 |nil=>simp
 |cons p r ih=>
  intro a0;rw[Vs,ih,Ir,Ud]
  by_cases e:j=p.1
  .simp[e]
  simp only[Uj,e,false_or,decide_false,Ys]
theorem su{aaN:List (κ×D)}:∀{a0:List (κ×D)},(a0.map (·.1)++aaN.map (·.1)).Nodup->aaN.foldl (λa p=>eh a p.1 p.2) a0=a0++aaN:=by
 induction aaN with
 |nil=>simp
 |cons p r ih=>
  intro a0 h;have e:eh a0 p.1 p.2=a0++[p]:=by
   unfold eh;rw[if_neg];intro z;obtain⟨q,f,e⟩:=Wl.mp z;exact(Wb.mp h).2.2 _ (UI f) _ Uw (by lia)
  simp_all
end
noncomputable def uD(u:List aC):List (aC×D):=u.map λk=>(k,D.bl true)
theorem rM:(uD u).map (·.1)=u:=by
 unfold uD;rw[Uq];exact Vu u
theorem lU:(cI (uD u) k).isSome=decide (k∈u):=by
 have:=@mY _ _ (uD u) k []
 induction u with
 |nil=>rfl
 |cons a r ih=>
  unfold uD cI;rw[Ud,VN]
  by_cases e:a=k
  .subst e;simp
  have f:¬k=a:=λz=>e z.symm;simp only[e,Uj,f,false_or];exact ih (@mY _ _ _ k [] |>.trans (by rw[rM]))
theorem vV:pR (uD u) k=uD (u.filter λx=>decide (x≠k)):=by
 unfold pR uD;rw[Vb];rfl
theorem k8:∀ks:List aC,uR (ks.map λk=>D.tup [kD k,.bl true])=ap (uD ks)
 |[]=>rfl
 |k::ks=>by
  have e:cE (kD k)=ap k:=by cases k<;>rfl
  simp[uR,e,k8 ks];rfl
theorem fc:cE (kD k)=ap k:=by cases k<;>rfl
theorem tQ{a:cb}(h:M a=ap (.dK aaN)):iD M (kD k) (.ref a)=ap (cI aaN k).isSome:=by
 unfold iD;have:aQ M (.ref a)=none:=by simp_arith! only[aQ,h]
 rw[this];unfold vb;simp[h,fc]
theorem rF(o:C.Ok)(S:ks.length<=1000)(h:∀p,M p=bb->Q (.ref p) (M.upd p<|.lst<|((dZ C).filter λk=>decide (k∈ks)).map kD)):yv ad [C.d,Ao ks] M Q E:=by
 have l1:=o.l1;have few:=o.few;have W:(dZ C).length=C.names.length+C.many:=by simp[dZ]
 rw[To];unfold B_;generalize H:mj ad (aJ E)=K;unfold Ao
 simp_arith! only[ai,aq,bn,aa,ao,aO,bE,ac,ag,TZ,dt,aQ,br,bX,Ud,U2,UH,UB]
 refine dM (λd=>.tup [d,.bl true]) aK (by simp;lia) (λx F K q=>?_) ?_
 .simp_arith! only[aU,aa,ac,dC,ag,TZ,dt]
  exact#[bj (by simp),q]
 .intro p P
  refine bM P ?_;have e:(ks.map kD).map (λd=>D.tup [d,.bl true])=ks.map λk=>D.tup [kD k,.bl true]:=by simp
  rw[e]
  simp_arith! only[ag,gl,Ek,cG,k8]
  refine#[trivial,by simp[uD];lia,λI J=>?_]
  simp only[af,Uy];rw[<- H];unfold mj
  simp_arith! only[az,aO,bE,ao,aj,aa,ac,ag,TZ,dt]
  refine#[rfl,am λQ' E' R _=>uk o λX O=>R _ _ (bM O ?_)]
  simp_arith! only[aQ,br,bX,Ud,U2,UH,UB,TZ,dt,UZ]
  refine dA (λd=>match cE d with|some k=>decide (k∈ks)|none=>cp) id aK (by simp;lia) (λx F K q=>?_) (λx F _ K q=>q) ?_
  .obtain⟨k,S,rfl⟩:=Ul.mp F
   simp only[fc]at q
   simp_arith! only[al,ah,ac,TZ,dt,vI,tQ (Mem.upd_same),mY,rM]
   simpa [cI] using q
  .intro B f
   have e:(((dZ C).map kD).filter λd=>match cE d with|some k=>decide (k∈ks)|none=>cp).map id=((dZ C).filter λk=>decide (k∈ks)).map kD:=by
    rw[Vu,Vb];congr 1;refine Wd λk _=>?_;simp only[Function.comp,fc]
   rw[e];have n1:B≠I:=λz=>by rw[z,Mem.upd_same]at f;cases f
   rw[ae n1]at f;refine#[M.upd B (.lst<|((dZ C).filter λk=>decide (k∈ks)).map kD),λb T e=>?_,h B f]
   by_cases G:b=B
   .subst G;rw[Mem.upd_same]at e ⊢;exact e
   .rw[ae G]at e ⊢
    rw[ae (λz=>by rw[z,J]at e;cases e)]
    exact e
noncomputable def fw:Rw->List Str
 |.pick _ y=>[y]
 |.two _ _ y z=>[y,z]
 |.ifr x _ _=>[x]
 |.again x _=>[x]
 |_=>[]
theorem oo(B:f_ names m many r)(h:∀p,M p=bb->Q (.ref p) (M.upd p<|.lst<|(fw r).map D.str)):zn ad [r.d] M Q E:=by
 cases r with
 |put x k=>simp![qq,jm,Rw.d,atI_0];exact#[bj (by decide),λp e=>ak (h p e)]
 |take x i=>simp![qq,jm,Rw.d,atI_0];exact#[bj (by decide),λp e=>ak (h p e)]
 |pick x y=>simp![qq,jm,Rw.d,atI_0];exact λp e=>ak (h p e)
 |two w x y z=>
  obtain⟨f,_⟩:=B;rcases f with rfl|rfl|rfl|rfl<;>(simp![qq,jm,Rw.d,atI_0];exact λp e=>ak (h p e))
 |ifr x a b=>simp![qq,jm,Rw.d,atI_0,atI_1];exact#[bj (by decide),λp e=>ak (h p e)]
 |again x a=>simp![qq,jm,Rw.d,atI_0,atI_1];exact#[bj (by decide),λp e=>ak (h p e)]
structure Gk where
 a:cb
 dn:cb
 lp:cb
 du:cb
 h1:a≠dn
 h2:a≠lp
 h3:a≠du
 h4:dn≠lp
 h5:dn≠du
 h6:lp≠du
structure Gs where
 n:cD
 ps:List Int
 u:List aC
 td:List Rw
 left:Int
def oV:List Rw->D
 |[]=>.non
 |r::rs=>.tup [r.d,oV rs]
noncomputable def gF(k:Gk)(td:D)(left:Int):List (Str×D):=[("numbers",.ref k.dn),("pieces",.ref k.lp),("unsettled",.ref k.du),("todo",td),("left",.int left)]
def gM(ad:Ad)(k:Gk)(g:Gs)(M:Mem):Mem:=(((M.upd k.a<|.ins ad.C_Going<|gF k (oV g.td) g.left).upd k.dn<|.dK<|d_ g.n).upd k.lp<|.lst<|g.ps.map D.int).upd k.du (.dK<|uD g.u)
theorem gy:gM ad k g M k.du=ap (.dK<|uD g.u):=by unfold gM;simp_all
theorem qD:gM ad k g M k.lp=ap (.lst<|g.ps.map D.int):=by unfold gM;rw[ae k.h6,Mem.upd_same]
theorem gO:gM ad k g M k.dn=ap (.dK<|d_ g.n):=by unfold gM;rw[ae k.h5,ae k.h4,Mem.upd_same]
theorem cS:gM ad k g M k.a=ap (.ins ad.C_Going<|gF k (oV g.td) g.left):=by unfold gM;rw[ae k.h3,ae k.h2,ae k.h1,Mem.upd_same]
theorem mx(f:b≠k.a)(e:b≠k.dn)(p:b≠k.lp)(h:b≠k.du):gM ad k g M b=M b:=by
 unfold gM;rw[ae h,ae p,ae e,ae f]
structure Gk.Fr(k:Gk)(M:Mem):Prop where
 a:M k.a=bb
 dn:M k.dn=bb
 lp:M k.lp=bb
 du:M k.du=bb
theorem cj(h:gM ad k g M b=bb):b≠k.a/\b≠k.dn/\b≠k.lp/\b≠k.du/\M b=none:=by
 have p:b≠k.a:=λz=>by rw[z,cS]at h;cases h
 have e:b≠k.dn:=λz=>by rw[z,gO]at h;cases h
 have f:b≠k.lp:=λz=>by rw[z,qD]at h;cases h
 have B:b≠k.du:=λz=>by rw[z,gy]at h;cases h
 rw[mx p e f B]at h;trivial
theorem dI(f:k.Fr M)(e:M b=ap o):gM ad k g M b=ap o:=by
 rw[mx (λz=>by rw[z,f.a]at e;cases e) (λz=>by rw[z,f.dn]at e;cases e) (λz=>by rw[z,f.lp]at e;cases e) (λz=>by rw[z,f.du]at e;cases e)]
 exact e
theorem rB(f:k.Fr M)(e:M b=ap o):(gM ad k g M).upd b h=gM ad k g (M.upd b h):=by
 have n1:k.a≠b:=λz=>by rw[<- z,f.a]at e;cases e
 have n2:k.dn≠b:=λz=>by rw[<- z,f.dn]at e;cases e
 have p:k.lp≠b:=λz=>by rw[<- z,f.lp]at e;cases e
 unfold gM;rw[aA (λz=>by rw[<- z,f.du]at e;cases e),aA p,aA n2,aA n1]
theorem uf:(gM ad k g M).upd k.a (.ins ad.C_Going<|gF k (oV td) left)=gM ad k { g with td:=td,left:=left } M:=by
 unfold gM;rw[aA (UN k.h3),aA (UN k.h2),aA (UN k.h1),Mem.upd_upd]
theorem N8{n:cD}:(gM ad k g M).upd k.dn (.dK<|d_ n)=gM ad k { g with n:=n } M:=by
 unfold gM;rw[aA (UN k.h5),aA (UN k.h4),Mem.upd_upd]
theorem SY:(gM ad k g M).upd k.lp (.lst<|ps.map D.int)=gM ad k { g with ps:=ps } M:=by
 unfold gM;rw[aA (UN k.h6),Mem.upd_upd]
theorem N6:(gM ad k g M).upd k.du (.dK<|uD u)=gM ad k { g with u:=u } M:=by
 unfold gM
 simp_all
theorem LY:UW ("numbers":Str) (gF k td left)=ap (.ref k.dn):=rfl
theorem gf1:UW ("pieces":Str) (gF k td left)=ap (.ref k.lp):=rfl
theorem N7:UW ("unsettled":Str) (gF k td left)=ap (.ref k.du):=rfl
theorem R0:UW ("todo":Str) (gF k td left)=ap td:=rfl
theorem gf4:UW ("left":Str) (gF k td left)=ap (.int left):=rfl
theorem gfs:UW ("settled":Str) (gF k td left)=none:=rfl
theorem P_:bV "todo" d (gF k td left)=gF k d left:=rfl
theorem RV:bV "left" (.int v) (gF k td left)=gF k td v:=rfl
theorem gfl:(gF k td left).length=5:=rfl
theorem eQ(h:Q (oV (rs++td)) M):nG ad [.tup (aG rs),oV td] M Q E:=by
 rw[Re];unfold Ag
 simp_arith! only[ai,cV,NE,aa,ac,ag,TZ,dt]
 refine cu (λF U N=>∃(c:Option D)(us p:List Rw),rs=us++p/\F=(aG us).reverse/\U=[ap (.tup<|aG rs),ap (oV (p++td)),c]/\N=M) (λ_ _ _ _=>aK) ?_ ?_ _ _ _ #[bb,rs,[],by simp,rfl,rfl,rfl]
 .rintro U N ⟨c,us,p,B,f,rfl,rfl⟩
  have:us=[]:=by
   cases us with
   |nil=>rfl
   |cons a b=>rw[aG]at f;simp at f
  subst this;rw[UB]at B;subst B
  simp_arith! only[az,ac,TZ,dt]
  exact ak h
 .rintro y F U N ⟨c,us,p,B,f,rfl,rfl⟩ D' G _ _ _
  obtain⟨e,r,rfl⟩:∃e r,us=e++[r]:=by
   rcases List.eq_nil_or_concat us with z|⟨e,r,z⟩
   .subst z;rw[aG]at f;simp at f
   .exact#[e,r,by simpa using z]
  rw[ib,VM,List.reverse_append]at f;simp only[Ud,U2,Xw,List.reverse_nil,UB,UH,U7]at f;obtain⟨rfl,rfl⟩:=f;simp only[af,Uy];unfold sh
  simp_arith! only[aq,aU,aa,ac,ag,af,Uy,TZ,dt]
  exact#[bj (by simp),G _ _ #[_,e,r::p,by simp[B],by rw[ib],rfl,rfl]]
structure GOk(C:Cse)(g:Gs):Prop where
 n:NOk C.names C.w g.n
 lp:g.ps.length=C.many
 rp:∀v∈g.ps,0<=v/\v<C.w
 td:bg C.names C.w C.many g.td
noncomputable def Gs.cf(C:Cse)(g:Gs):Cf:=#[C.w,g.ps,C.most]
theorem GOk.pd(k:GOk C g):C.d=aW (g.cf C) C.names C.rows C.mn:=by unfold Cse.d aW Gs.cf;rw[k.lp]
theorem GOk.co(k:GOk C g)(o:C.Ok):COk (g.cf C):=#[o.m2,o.m1,k.rp,by show g.ps.length<=_;rw[k.lp];have:=o.few;lia,o.most]
def MN(C:Cse)(n:cD):Rw->Option Int
 |.take _ i=>ap i
 |.pick _ y=>ap (nm n y % (C.many:Int))
 |_=>bb
noncomputable def NX(o:Option Int):D:=match o with
 |some i=>.int i
 |none=>.non
theorem gZ(h:f_ names m many r)(e:bi r=true):de names m many r:=by
 cases r<;>first|exact h|cases e
theorem kK(k:GOk C g)(F:f_ C.names C.w C.many r)(B:M p=ap (.dK<|d_ g.n))(h:Q (NX<|MN C g.n r) M):mv ad [C.d,.ref p,r.d] M Q E:=by
 cases f:bi r with
 |true=>
  rw[k.pd];refine cw k.n (by have:=gZ F f;rw[<- k.lp]at this;exact this) B ?_
  have e:((g.cf C).pieces.length:Int)=C.many:=by show (g.ps.length:Int)=_;rw[k.lp]
  cases r with
  |pick x y=>
   show Q (.int _) M;rw[e];exact h
  |_=>exact h
 |false=>
  cases r with
  |ifr x a b=>simp![qg,i_,Cse.d,Rw.d,atI_0];exact ak h
  |again x a=>simp![qg,i_,Rw.d,atI_0];exact ak h
  |_=>cases f
theorem xy(o:C.Ok)(k:GOk C g)(T:f_ C.names C.w C.many r)(O:bi r=true)(W:M P=ap (.dK<|d_ g.n))(X:M lp=ap (.lst<|g.ps.map D.int))(h:Q (.int<|num (g.cf C) g.n r) M):
  nq ad [C.d,.ref P,.ref lp,r.d] M Q E:=by
 have hm1:=o.m1;have Z:=o.m2;have hc:=k.co o;have e:=gZ T O;have I:=k.lp;have B:∀i:Nat,i<C.many->(g.ps.map D.int)[i]?=ap (.int<|(g.ps[i]?).getD 0):=λi hi=>by
  rw[Um,Uc (by lia)];rfl
 have p:∀{K:DK},K (NX<|MN C g.n r) M->∀Q' E',(∀d M,K d M->Q' d M)->mv ad [C.d,.ref P,r.d] M Q' E':=λ{K} q Q' E' f=>kK k T W (f _ _ q);have F:=@DQ C;cases r with
 |put x v=>
  simp![kH,gE,F,Rw.d,atI_0,atI_2];exact ak h
 |take x i=>
  obtain⟨S,G,h1⟩:=e;have H:=B i.toNat (by lia)
  rw[Rw.d]at p ⊢;simp![kH,gE,atI_0,atI_2];refine am λQ' E' f _=>p (K:=λd M=>_) ?_ Q' E' f;simp![MN,NX,X,bJ G,H];exact ak h
 |pick x y=>
  obtain⟨S,R,G⟩:=e;have g0:=VE (nm g.n y) (show (C.many:Int)≠0 by lia)
  have g1:=Vm (nm g.n y) G;have H:=B (nm g.n y % (C.many:Int)).toNat (by lia)
  have Y:num (g.cf C) g.n (.pick x y)=(g.ps[(nm g.n y % (C.many:Int)).toNat]?).getD 0:=by show (g.ps[(nm g.n y % (g.ps.length:Int)).toNat]?).getD 0=_;rw[I]
  rw[Y]at h;rw[Rw.d]at p ⊢;simp![kH,gE,atI_0,atI_2];refine am λQ' E' f _=>p (K:=λd M=>_) ?_ Q' E' f;simp![MN,NX,X,bJ g0,H];exact ak h
 |two w x y z=>
  obtain⟨hw,S,R,hz⟩:=e;have a1:=k.n.at R;have a2:=k.n.at hz;have J:((w=WE "put")=False):=by rcases hw with rfl|rfl|rfl|rfl<;>exact eq_false (by decide +kernel)
  rw[Rw.d]at p ⊢;simp![kH,gE,atI_0,atI_2,J];refine am λQ' E' f _=>p (K:=λd M=>_) ?_ Q' E' f;simp![MN,NX,F,atI_0,atI_2,atI_3,W,ci,a1.1,a2.1,Ve];exact aI (d:=.int (num (g.cf C) g.n<|.two w x y z)) (λ_ _ q=>kt (by lia) (by lia) (by lia) q) (ak h)
 |ifr=>cases O
 |again=>cases O
def fK(C:Cse)(g:Gs)(r:Rw):Option aC:=
 if g.u=[] then bb else match (dZ C).filter λk=>decide (k∈((fw r).filter λx=>decide ((UL x:aC)∈g.u)).map UL) with
  |k::_=>ap k
  |[]=>match MN C g.n r with
   |some i=>if (Vz i:aC)∈g.u then ap (.inl i) else bb
   |none=>bb
def J0:Option aC->D
 |some k=>kD k
 |none=>.non
theorem z_(h:f_ names m many r):∀x∈fw r,x∈names:=by
 cases r with
 |pick x y=>intro z e;simp[fw]at e;subst e;exact h.2.1
 |two w x y z=>intro v f;simp[fw]at f;rcases f with rfl|rfl;exact h.2.2.1;exact h.2.2.2
 |ifr x a b=>intro z e;simp[fw]at e;subst e;exact h.1
 |again x a=>intro z e;simp[fw]at e;subst e;exact h.1
 |_=>simp[fw]
theorem F4:(fw r).length<=2:=by cases r<;>simp[fw]
theorem uD_emp:(uD u).isEmpty=u.isEmpty:=by cases u<;>rfl
theorem E_:iD (gM ad k g M) (.str x) (.ref k.du)=ap (decide ((UL x:aC)∈g.u)):=by
 have:=tQ (k:=.inr x) (gy (ad:=ad) (k:=k) (g:=g) (M:=M));rw[lU]at this;exact this
theorem s_(o:C.Ok)(ok:GOk C g)(R:f_ C.names C.w C.many r)(h:Q (J0<|fK C g r) (gM ad k g M)):As ad [C.d,.ref k.a,r.d] (gM ad k g M) Q E:=by
 have H:=z_ R;have O:=F4 (r:=r);rw[SO];unfold yf
 simp_arith! only[ai,aE,fH,cq,aV,ac,TZ,dt,cS,N7,DM,gy]
 refine#[trivial,?_];unfold fK at h;cases T:g.u with
 |nil=>
  rw[if_pos T]at h;exact ak h
 |cons u0 ur=>
  rw[if_neg (by rw[T];simp)]at h
  refine#[rfl,am λQ' E' P _=>oo R λp f=>P _ _ (bM f ?_)]
  simp_arith! only[aQ,bX,Ud,U2,UH,UB,TZ,dt,UZ]
  refine dA (λd=>match d with|.str x=>decide ((UL x)∈g.u)|_=>cp) id aK (by simp;lia) (λx B K q=>?_) (λx B _ K q=>q) ?_
  .obtain⟨y,hy,rfl⟩:=Ul.mp B
   simp_arith! only[al,ah,ac,aV,TZ,dt,cS,N7,vI,E_]
   trivial
  intro p f;generalize J:((fw r).filter _)=fnd at h;have e:(((fw r).map D.str).filter λd=>match d with|.str x=>decide ((UL x:aC)∈g.u)|_=>cp).map id=(fnd.map UL).map kD:=by
   rw[Vu,Vb,<- J,Uq];rfl
  have Y:∀x∈fnd,x∈C.names:=λx B=>by rw[<- J]at B;exact H x (Ur.mp B).1
  have Z:fnd.length<=2:=by rw[<- J];exact Uu (UK _ _) O
  rw[e];refine bM (Q:=λd M'=>(m3 ad<|aJ E) _ [ap C.d,ap (.ref k.a),ap r.d,ap d,bb] M') f ?_;unfold m3
  simp_arith! only[ai,aE,cq,ac,TZ,dt,DM]
  cases G:fnd with
  |nil=>
   have hz:((dZ C).filter λk=>decide (k∈(fnd.map UL:List aC)))=[]:=by rw[G];simp
   rw[hz]at h;simp only[aB];unfold rg qP
   simp_arith! only[ai,aq,ao,aj,aa,ac,ag,aV,TZ,dt,cS,LY]
   refine#[trivial,rfl,aI (λ_ _ q=>kK ok R gO q) ?_];cases f:MN C g.n r with
   |none=>
    simp only[f]at h
    simp_arith! only[NX,frz,af,Uy,az,oi,al,ah,ac,dC,aV,TZ,dt,cS,N7,Fl,Ck,gy]
    refine#[trivial,?_];exact ak h
   |some i=>
    simp only[f]at h;have I:=tQ (k:=.inl i) (gy (ad:=ad) (k:=k) (g:=g) (M:=M));rw[lU]at I;simp only[kD]at I
    simp_arith! only[NX,frz,af,Uy,az,oi,al,ah,ac,dC,aV,TZ,dt,cS,N7,Fl,Ck,I]
    refine#[trivial,?_]
    by_cases c:(Vz i:aC)∈g.u
    .rw[if_pos c]at h
     rw[if_pos (by simpa using c)]
     exact ak h
    .rw[if_neg c]at h
     rw[if_neg (by simpa using c)]
     exact ak h
  |cons f0 fr=>
   have F:∃W X,((dZ C).filter λk=>decide (k∈(fnd.map UL:List aC)))=W::X:=by
    have:(UL f0:aC)∈(dZ C).filter λk=>decide (k∈(fnd.map UL:List aC)):=by
     refine Ur.mpr #[U9 _ (by simp_all),?_]
     rw[G];simp
    cases q:(dZ C).filter _ with
    |nil=>rw[q]at this;cases this
    |cons a b=>exact#[a,b,rfl]
   obtain⟨W,X,S⟩:=F;rw[S]at h;simp only at h;refine#[rfl,am λQ' E' P _=>rF o (by rw[<- G,Ub];lia) λp f=>P _ _ (bM f ?_)]
   rw[<- G,S];exact ak h
theorem okRs_app{names:aaV}{m many:Int}:∀{a b:List Rw},bg names m many (a++b)↔bg names m many a/\bg names m many b
 |[],b=>by simp[bg]
 |r::a,b=>by simp[bg,okRs_app,and_assoc]
def pj(C:Cse)(g:Gs)(rest:List Rw):Rw->Gs
 |.ifr x a b=>{ g with left:=g.left-1,td:=(if nm g.n x=0 then b else a)++rest }
 |.again x a=>{ g with left:=g.left-1,td:=if nm g.n x=0 then rest else a++(.again x a::rest) }
 |r=>{ g with left:=g.left-1,td:=rest,n:=sN g.n (iF r) (num (g.cf C) g.n r),u:=g.u.filter λk=>decide (k≠.inr (iF r)) }
theorem oq:(pj C g rest r).left=g.left-1:=by cases r<;>rfl
theorem F3(o:C.Ok)(ok:GOk C g)(e:f_ C.names C.w C.many r)(f:bi r=true):0<=num (g.cf C) g.n r/\num (g.cf C) g.n r<C.w:=
 C6 (ok.co o) ok.n (by have:=gZ e f;rw[<- ok.lp]at this;exact this)
theorem xV(o:C.Ok)(ok:GOk C g)(e:g.td=r::rest):GOk C (pj C g rest r):=by
 have h:=ok.td;rw[e]at h;obtain⟨p,f⟩:=h;have B:bi r=true->GOk C { g with left:=g.left-1,td:=rest,n:=sN _ (iF r) _,u:=g.u.filter λk=>decide (k≠.inr (iF r)) }:=λF=>
  #[Ff (c:=g.cf C) ok.n (F3 o ok p F),ok.lp,ok.rp,f]
 cases r with
 |ifr x a b=>
  refine#[ok.n,ok.lp,ok.rp,okRs_app.mpr #[?_,f]]
  split
  .exact p.2.2
  exact p.2.1
 |again x a=>
  refine#[ok.n,ok.lp,ok.rp,?_];show bg _ _ _ (if nm _ x=0 then rest else a++(.again x a::rest))
  split
  .exact f
  exact okRs_app.mpr #[p.2,p,f]
 |_=>exact B rfl
theorem xG(h:de names m many r):iF r∈names:=by
 cases r with
 |two w x y z=>exact h.2.1
 |ifr=>exact h.elim
 |again=>exact h.elim
 |_=>exact h.1
theorem Ev:QZ (gM ad k g M) (.ref k.du)=true:=by simp[QZ,gy]
theorem JY(h:k∉u):u.filter (λx=>decide (x≠k))=u:=Wz.mpr (by lia)
theorem Qo(o:C.Ok)(ok:GOk C g)(f:f_ C.names C.w C.many r)(p:bi r=true)(h:D'.nx [ap C.d,ap (.ref k.a),ap r.d] (gM ad k { g with n:=sN g.n (iF r) (num (g.cf C) g.n r),u:=g.u.filter λk=>decide (k≠.inr (iF r)) } M)):
  gY ad EE D' [ap C.d,ap (.ref k.a),ap r.d] (gM ad k g M):=by
 have e:∀{M:Mem}{K:DK},K (.str<|iF r) M->av r.d (.int 1) M K:=λq=>by
  cases r<;>assumption
 unfold gY tT
 simp_arith! only[ai,aq,ao,aj,aa,ac,aV,TZ,dt,cS,LY]
 refine#[trivial,trivial,rfl,aI (λ_ _ q=>xy o ok f p gO qD q) ?_]
 simp_arith! only[frz,cW,aV,ah,ac,dC,TZ,dt,cS,LY]
 refine#[trivial,e ?_];have F:(d_ g.n).length<sizeLine:=by
  have H:(d_ g.n).length=C.names.length:=by rw[<- ok.n.keys];simp[d_]
  have:=o.l1;exact fC (by lia)
 simp_arith! only[qS,gO,cE,mh (by rw[ok.n.keys];exact(xG<|gZ f p)),N8]
 refine#[F,?_]
 simp_arith! only[b6,GQ,aV,ah,ac,dC,TZ,dt,cS,N7,Ev]
 refine#[trivial,trivial,e ?_]
 simp_arith! only[gy,cE]
 cases G:cI (uD _) _ with
 |some v=>simp only[Jm,vV,N6];exact h
 |none=>
  have B:(UL<|iF r)∉g.u:=λz=>by
   have:=lU (u:=g.u) (k:=.inr (iF r))
   simp_all
  rw[JY B]at h;exact h
theorem mW{rest:List D}(f:U[2]?=ap (ap<|.tup (.str w::rest)))(q:K (decide (w=e)) M):al (ah bR (ah av (ac 2)<|dC<|.int 0)<|dC<|.str e) U M K:=by
 simp_arith! only[al,ah,ac,f]
 trivial
theorem Cr(h:f_ C.names C.w C.many r)(e:bi r=true):∃w rest,r.d=.tup (.str w::rest)/\decide (w=("if":Str))=cp/\decide (w=("again":Str))=false:=by
 cases r with
 |ifr=>cases e
 |again=>cases e
 |two w x y z=>
  obtain⟨f,_⟩:=h;refine#[_,_,rfl,?_];rcases f with rfl|rfl|rfl|rfl<;>exact#[by rfl,by rfl]
 |_=>exact#[_,_,rfl,by rfl,by rfl]
theorem wJ(o:C.Ok)(ok:GOk C g)(e:g.td=r::rest)(h:Q .non (gM ad k (pj C g rest r) M)):Av ad [C.d,.ref k.a,r.d] (gM ad k g M) Q E:=by
 have htd:=ok.td;rw[e]at htd;obtain⟨hr,hrest⟩:=htd;have ok1:GOk C { g with td:=rest,left:=g.left-1 }:=#[ok.n,ok.lp,ok.rp,hrest];rw[Rr];unfold BE qU;have etd:oV g.td=.tup [r.d,oV rest]:=by rw[e];rfl
 have u1:=uf (ad:=ad) (k:=k) (g:=g) (M:=M) (td:=g.td) (left:=g.left-1)
 simp_arith! only[ai,rY,cA,aV,ah,ac,dC,TZ,dt,cS,gf4,gfl,RV,u1]
 refine#[trivial,by decide,trivial,trivial,?_]
 have u2:=uf (ad:=ad) (k:=k) (g:={ g with left:=g.left-1 }) (M:=M) (td:=rest) (left:=g.left-1);have u3:=uf (ad:=ad) (k:=k) (g:=g) (M:=M) (td:=rest) (left:=g.left-1)
 simp_arith! only[R0,gf4,RV,Mem.upd_same,Mem.upd_upd,u3,etd,dC,ac,av,aQ,atI_1,TZ,dt,cS,gfl,P_,u2]
 refine#[trivial,by decide,?_]
 have hset:bi r=true->∀{D':DEnds}{EE:DX},D'.nx [ap C.d,ap (.ref k.a),ap r.d] (gM ad k (pj C g rest r) M)->gY ad EE D' _ (gM ad k _ M):=λhs D' EE q=>Qo o ok1 hr hs (by
  cases r<;>trivial)
 have hset':bi r=true->(gY ad<|aJ E) { nx:=λ_ M'=>drp Q .non M',rt:=drp Q } _ _:=λhs=>by
  exact hset hs (ak h)
 by_cases hs:bi r=true
 .obtain⟨w,wr,er,n1,n2⟩:=Cr hr hs
  have:=hset' hs;rw[er]at this ⊢;refine mW rfl ?_;simp only[n1,if_false];refine mW rfl ?_
  simp_all
 cases r with
 |ifr x a b=>
  have hx:=hr.1;have hn:=(ok1.n.at hx).1;have u3:=λl=>uf (ad:=ad) (k:=k) (g:={ g with td:=rest,left:=g.left-1 }) (M:=M) (td:=l) (left:=g.left-1);have fin:∀l:List Rw,(pj C g rest<|.ifr x a b).td=l++rest->calls (nG ad) (aJ E) [.tup (aG l),oV rest] (gM ad k { g with td:=rest,left:=g.left-1 } M) (λd M'=>frz d M' λy M1=>match M1 k.a with
    |some (MO.ins C' fs)=>C'=ad.C_Going/\fs.length<1000/\drp Q D.non (M1.upd k.a<|MO.ins ad.C_Going<|bV (WE "todo") y fs)
    |_=>False) #[]:=λl hl=>by
   refine aI (λ_ _ q=>eQ q) ?_;have ft:∀{l:List Rw}{M:Mem}{Q:DK},Q (oV l) M->frz (oV l) M Q:=λ{l} {M} {Q} q=>by cases l<;>exact q
   refine ft ?_;simp only[cS,gfl,P_,u3];rw[<- hl];exact#[trivial,by decide,ak h]
  simp only[Rw.d];refine mW rfl ?_;simp![atI_1,atI_2,atI_3,cS,LY,R0,gO,ci,hn,Ve]
  by_cases c:nm g.n x=0
  .simp only[c,if_true]
   exact fin b (by simp only[pj,c,if_true])
  .simp only[c]
   exact fin a (by simp only[pj,c,if_false])
 |again x a=>
  have hx:=hr.1;have hn:=(ok1.n.at hx).1;have u3:=λl=>uf (ad:=ad) (k:=k) (g:={ g with td:=rest,left:=g.left-1 }) (M:=M) (td:=l) (left:=g.left-1);have n1:decide ("again"="if")=false:=by rfl
  simp only[Rw.d];refine mW rfl ?_;refine mW rfl ?_;simp;simp![atI_1,atI_2,cS,LY,R0,gO,ci,hn,Ve]
  by_cases c:nm g.n x=0
  .simp only[c,decide_true]
   refine ak ?_;have:pj C g rest (.again x a)={ g with td:=rest,left:=g.left-1 }:=by simp only[pj,c,if_true]
   simp_all
  simp only[c,decide_false,Yc,if_true];refine#[bj (by decide),?_]
  refine aI (λ_ _ q=>eQ (td:=.again x a::rest) q) ?_;have ft:∀{l:List Rw}{M:Mem}{Q:DK},Q (oV l) M->frz (oV l) M Q:=λ{l} {M} {Q} q=>by cases l<;>exact q
  refine ft ?_
  simp_arith! only[ac,TZ,dt,cS,gfl,P_,u3]
  have:pj C g rest (.again x a)={ g with td:=a++(.again x a::rest),left:=g.left-1 }:=by simp only[pj,c,if_false]
  rw[<- this];exact#[trivial,by decide,ak h]
 |_=>trivial
def bZ(C:Cse):Nat->Gs->Option aC×Gs
 |0,g=>(bb,g)
 |f+1,g=>match g.td with
  |[]=>(if (UL C.mn:aC)∈g.u then ap (.inr C.mn) else bb,g)
  |r::rest=>if g.left<=0 then (bb,g) else match fK C g r with
   |some k=>(ap k,g)
   |none=>bZ C f (pj C g rest r)
section
variable{k:Gk}
theorem PU:kC (oV td)=td.isEmpty:=by cases td<;>rfl
theorem qG(o:C.Ok):∀(f:Nat)(g:Gs),GOk C g->GOk C (bZ C f g).2
 |0,g,h=>h
 |f+1,g,h=>by
  unfold bZ;cases e:g.td with
  |nil=>exact h
  |cons r rest=>
   dsimp only
   split
   .exact h
   cases a:fK C g r with
   |some k=>exact h
   |none=>exact qG o f _ (xV o h e)
theorem Ln(o:C.Ok)(ok:GOk C g)(e:g.td=r::rest)(R:g.left<=0->D'.rt .non (gM ad k g M))(S:¬g.left<=0->∀q,fK C g r=ap q->D'.rt (kD q) (gM ad k g M))(h3:¬g.left<=0->fK C g r=bb->∀G F,D'.nx [ap C.d,ap (.ref k.a),G,F] (gM ad k (pj C g rest r) M)):h8 ad EE D' [ap C.d,ap (.ref k.a),G,F] (gM ad k g M):=by
 have f:=ok.td;rw[e]at f;obtain⟨O,B⟩:=f;have h:oV g.td=.tup [r.d,oV rest]:=by rw[e];rfl
 unfold h8
 simp_arith! only[ai,aE,al,ah,aV,ac,dC,oLe,lj,TZ,dt,cS,gf4]
 refine#[trivial,?_]
 by_cases p:g.left<=0
 .rw[if_pos (by simp_all)]
  exact R p
 rw[if_neg (by simp_all)]
 simp[aB];unfold sO sg
 simp_arith! only[ai,aq,ah,aV,ac,TZ,dt,cS,h]
 refine#[trivial,rfl,aI (λ_ _ q=>s_ o ok O q) ?_];have J:∀{q:Option _}{M:Mem}{Q:DK},Q (J0 q) M->frz (J0 q) M Q:=λ{q} {M} {Q} z=>by
  cases q with
  |none=>exact z
  |some k=>cases k<;>exact z
 refine J ?_;unfold sW tu;have P:kC (J0<|fK C g r)=(fK C g r).isNone:=by
  cases fK C g r with
  |none=>rfl
  |some k=>cases k<;>rfl
 simp_arith! only[af,Uy,ai,aE,al,ah,ac,dC,fk,TZ,dt,P]
 cases H:fK C g r with
 |some q=>
  exact S p q H
 |none=>
  exact#[rfl,am λQ' E' I _=>wJ o ok e (I _ _<|h3 p H _ _)]
theorem qt{EE:DX}{D':DEnds}{bx:BxW (al<|ah fk (aV ad.C_Going (ac 1) "todo")<|dC .non) (h8 ad EE) D'}(o:C.Ok):∀(f:Nat)(g:Gs)(p h:Option D),GOk C g->g.left<f->
  (∀p h g',(bZ C f g)=(if (UL C.mn:aC)∈g'.u then ap (.inr C.mn) else bb,g')->g'.td=[]->D'.nx [ap C.d,ap (.ref k.a),p,h] (gM ad k g' M))->
  (∀g' q,bZ C f g=(q,g')->D'.rt (J0 q) (gM ad k g' M))->0<=g.left->
  cK (al<|ah fk (aV ad.C_Going (ac 1) "todo")<|dC .non) (h8 ad EE) D' bx (f+1) [ap C.d,ap (.ref k.a),p,h] (gM ad k g M)
 |0,g,p,h,ok,hf,h1,h2,h0=>by lia
 |f+1,g,p,h,ok,hf,h1,h2,h0=>by
  have H:∀K:Bool->Mem->Prop,K _ _->al (ah fk (aV _ (ac 1) "todo")<|dC .non) [ap C.d,ap (.ref k.a),p,h] (gM ad k g M) K:=λK q=>by
   simp_arith! only[al,ah,aV,ac,dC,TZ,dt,cS,R0,fk,PU]
   trivial
  cases e:g.td with
  |nil=>
   refine whF (by simp_all) (h1 p h g ?_ e)
   unfold bZ;rw[e]
  |cons r rest=>
   have B:bZ C (f+1) g=if g.left<=0 then (bb,g) else match fK C g r with
    |some k=>(ap k,g)
    |none=>bZ C f (pj C g rest r):=by conv=>lhs;unfold bZ;rw[e]
   have I:(pj C g rest r).left=g.left-1:=oq;refine whT (by simp_all) (Ln o ok e (λF=>?_) (λF q G=>?_) λF G p h=>?_)
   .rw[if_pos F]at B
    exact h2 g _ B
   .rw[if_neg F,G]at B
    exact h2 g _ B
   exact qt o f _ _ _ (xV o ok e) (by lia) (by simp_all) (by lia) (by lia)
theorem Dy{f:Nat}(o:C.Ok)(ok:GOk C g)(B:0<=g.left)(F:g.left<f)(h:Q (J0 (bZ C f g).1) (gM ad k (bZ C f g).2 M)):yk ad [C.d,.ref k.a] (gM ad k g M) Q E:=by
 refine#[_,qt o f g _ _ ok F (λH G p e _=>?_) (λp q e=>?_) B]
 .unfold sR
  rw[e]at h
  simp_arith! only[(@DQ C),az,oi,al,ah,aV,ac,dC,TZ,dt,av,aQ,atI_4,cS,N7,vI,E_]
  refine#[trivial,?_]
  by_cases c:(UL C.mn)∈p.u
  .simp[if_pos c]at h
   rw[if_pos (by simpa using c)]
   exact ak h
  simp only[if_neg c]at h;rw[if_neg (by simpa using c)]
  exact ak h
 rw[e]at h;exact ak h
def QW(C:Cse)(g:Gs):D:=if g.td=[] then .int (nm g.n C.mn) else .non
theorem vS(o:C.Ok)(ok:GOk C g)(h:Q (QW C g) (gM ad k g M)):AF ad [C.d,.ref k.a] (gM ad k g M) Q E:=by
 rw[T0];unfold BD
 simp_arith! only[az,oi,al,ah,aV,ac,dC,TZ,dt,cS,R0,kX]
 refine#[trivial,?_];unfold QW at h;cases e:g.td with
 |nil=>
  rw[if_pos e]at h
  simp_arith! only[(@DQ C),ah,ac,dC,LY,av,aQ,atI_4,TZ,dt,gO,vb,cE,ci,((ok.n.at o.mn).1)]
  exact#[trivial,ak h]
 |cons r rest=>
  rw[if_neg (by rw[e];simp)]at h
  exact ak h
end
def eP(g:Gs)(q:aC)(v:Int):Gs:=match q with
 |.inl i=>{ g with u:=g.u.filter λk=>decide (k≠q),ps:=g.ps.set i.toNat v }
 |.inr x=>{ g with u:=g.u.filter λk=>decide (k≠q),n:=sN g.n x v }
theorem sI(ok:GOk C g)(e:0<=v/\v<C.w):GOk C (eP g q v):=by
 cases q with
 |inl i=>
  refine#[ok.n,by show (g.ps.set _ _).length=_;rw[VB];exact ok.lp,λz f=>?_,ok.td]
  rcases List.mem_or_eq_of_mem_set f with h|h
  .exact ok.rp z h
  rw[h];exact e
 |inr x=>exact#[Ff (c:=g.cf C) ok.n e,ok.lp,ok.rp,ok.td]
theorem eR:(eP g q v).u=g.u.filter λk=>decide (k≠q):=by cases q<;>rfl
theorem fD:(eP g q v).left=g.left:=by cases q<;>rfl
theorem o6{x:cb}(h:Q .non (M.upd x<|.ins ad.C_Going [("numbers",e),("pieces",f),("unsettled",d3),("todo",td),("left",.int left)])):
  Hd ad [.ref x,e,f,d3,td,.int left] (M.upd x<|.ins ad.C_Going []) Q E:=by
 have F:bV _ e []=[(("numbers":Str),e)]:=rfl;have G:bV "pieces" f [("numbers",e)]=[(("numbers":Str),e),("pieces",f)]:=rfl;have B:bV "unsettled" d3 [("numbers",e),("pieces",f)]=[(("numbers":Str),e),("pieces",f),("unsettled",d3)]:=rfl;have p:bV "todo" td [("numbers",e),("pieces",f),("unsettled",d3)]=[(("numbers":Str),e),("pieces",f),("unsettled",d3),("todo",td)]:=rfl;rw[u_q2];unfold Kv;simp![Mem.upd_upd,F,G,B,p];exact#[by decide,by decide,by decide,by decide,by decide,ak h]
structure Gat(ad:Ad)(k:Gk)(g:Gs)(N:Mem):Prop where
 a:N k.a=ap (.ins ad.C_Going<|gF k (oV g.td) g.left)
 dn:N k.dn=ap (.dK<|d_ g.n)
 lp:N k.lp=ap (.lst<|g.ps.map D.int)
 du:N k.du=ap (.dK<|uD g.u)
theorem Gat.of:Gat ad k g (gM ad k g M):=#[cS,gO,qD,gy]
theorem Gat.more(h:Gat ad k g M)(f:k1.Fr M):Gat ad k g (gM ad k1 e M):=#[dI f h.a,dI f h.dn,dI f h.lp,dI f h.du]
theorem tj(at':Gat ad k g N)(o:C.Ok)(ok:GOk C g)(hk:q∈dZ C)(hu:q∈g.u)(h:∀Y:Gk,Y.Fr N->Q (.ref Y.a) (gM ad Y (eP g q v) N)):
  HW ad [.ref k.a,kD q,.int v] N Q E:=by
 obtain⟨F,hdn,T,J⟩:=at';rw[u_q8];unfold Jf
 simp_arith! only[ai,aq,iq,aa,bn,aV,ac,dt,F,LY,jH,hdn]
 refine#[trivial,λP R=>?_];have a1:=Mem.ne F R;have l1:=Mem.ne T R;have u1:=Mem.ne J R
 simp_arith! only[ae a1,F,gf1,eG,aQ,ae l1,T]
 refine#[trivial,λS X=>?_];have G:=Mem.ne Mem.upd_same X;rw[ae G.symm]at X;have a2:=Mem.ne F X;have u2:=Mem.ne J X
 simp_arith! only[aa,bn,jH,aV,ac,dt,ae a2,ae a1,F,N7,ae u2,ae u1,J]
 refine#[trivial,λW O=>?_];have B:=Mem.ne Mem.upd_same O;rw[ae B.symm]at O;have I:=Mem.ne Mem.upd_same O;rw[ae I.symm]at O;have a3:=Mem.ne F O
 simp_arith! only[aa,aV,ac,dt,ae a3,ae a2,ae a1,F,R0]
 refine#[trivial,trivial,rfl,λx H=>?_];have f:=Mem.ne Mem.upd_same H;rw[ae f.symm]at H;have e:=Mem.ne Mem.upd_same H;rw[ae e.symm]at H;have p:=Mem.ne Mem.upd_same H;rw[ae p.symm]at H;refine am λQ' E' hq _=>o6 (hq _ _ ?_);have Z:((((N.upd P<|.dK<|d_ g.n).upd S<|.lst<|g.ps.map D.int).upd W<|.dK<|uD g.u).upd x<|.ins ad.C_Going [("numbers",.ref P),("pieces",.ref S),("unsettled",.ref W),("todo",oV g.td),("left",.int g.left)])=gM ad #[x,P,S,W,p.symm,e.symm,f.symm,G,I,B] g N:=by
  unfold gM gF;rw[aA f,aA e,aA p]
 rw[Z];have hfr:Gk.Fr #[x,P,S,W,p.symm,e.symm,f.symm,G,I,B] N:=#[H,R,X,O];have hh:=h _ hfr;generalize hk':(#[x,P,S,W,_,_,_,_,_,_]:Gk)=Y at *;have ex:x=Y.a:=by rw[<- hk']
 rw[ex];simp[af,Uy];unfold xk;have hv:=X7.mp (by rw[lU];simpa using hu)
 obtain⟨w,hv⟩:=hv
 simp_arith! only[ai,b6,Hy,aV,ac,TZ,dt,cS,N7,Ev,gy,fc,hv,vV,N6]
 rcases gW hk with⟨y,hy,rfl⟩|⟨i,hi,rfl⟩
 .have nl:(d_ g.n).length<sizeLine:=by
   have R:(d_ g.n).length=C.names.length:=by rw[<- ok.n.keys];simp[d_]
   have:=o.l1;exact fC (by lia)
  simp only[kD]at hh ⊢;simp![bQ,nr,W0,XA,W3,Ys,Xd,cS,LY,gO,mh (by rw[ok.n.keys];exact hy),N8]
  exact#[nl,ak hh]
 .have e3:wQ (g.ps.map D.int).length i=ap i:=by
   rw[jR (by lia) (by rw[Ub,ok.lp];lia),UM]
  have e4:(g.ps.map D.int).set i (.int v)=(g.ps.set i v).map D.int:=by simp_all
  simp only[kD]at hh ⊢;simp![nr,W0,XA,Xd,cS,gf1,qD,e3,e4,SY];exact ak hh
noncomputable def eO(ad:Ad)(L c:Nat):MO:=.ins ad.C_Ends [("limit",.int (L:Nat)),("count",.int (c:Nat))]
inductive Tr where
 |e (m:D)|a (q:aC) (x y:Tr)
def Tr.d:Tr->D
 |.e m=>.tup [.str "end",m]
 |.a q x y=>.tup [.str "ask",kD q,x.d,y.d]
def Tr.asks:Tr->Nat
 |.e _=>0
 |.a _ x y=>1+x.asks+y.asks
def df(C:Cse)(s t:Sta):Nat->Gs->Tr
 |0,_=>.e .non
 |n+1,g=>match (bZ C (C.most+1) g).1 with
  |none=>.e (QW C (bZ C (C.most+1) g).2)
  |some q=>.a q (df C s t n<|eP (bZ C (C.most+1) g).2 q<|aH C s q) (df C s t n<|eP (bZ C (C.most+1) g).2 q<|aH C t q)
section
variable{s:Sta}
theorem ja{c:Nat}(f:M e=ap (eO ad L c))(H:c+1<=L)(h:Q .non (M.upd e<|eO ad L (c+1))):GW ad [.ref e] M Q E:=by
 have p:∀v,bV "count" _ [("limit",D.int _),("count",D.int c)]=[(("limit":Str),D.int L),("count",D.int v)]:=λ_=>rfl;have F:∀v,UW ("count":Str) [("limit",D.int L),("count",D.int v)]=ap _:=λ_=>rfl;have G:∀v,UW ("limit":Str) [("limit",D.int L),("count",D.int v)]=ap _:=λ_=>rfl;have B:decide ((L:Int)<c+1)=false:=decide_eq_false (by lia)
 unfold eO at f h;rw[u_q5];unfold Lm xD
 simp_arith! only[ai,rL,aE,al,ah,aV,ac,dC,dt,f,p,F,G,Mem.upd_same,lj,B]
 refine#[trivial,by simp,trivial,trivial,trivial,?_]
 refine ak ?_
 assumption
theorem FQ{a:cb}{m:Str}(f:∀K:DK,K (.ref a) M->e U M K)(p:M a=ap (.ins Cl fs))(B:fs.lookup m=bb)(h:t U M λds M2=>ds.length+1=n/\calls T EE (.ref a::ds) M2 Q #[]):dm Cl m T EE n e t U M Q:=by
 refine f _ ?_;simp[C8,p];trivial
theorem Ti(f:Gat ad k g N)(o:C.Ok)(I:SOk C z)(ok:GOk C g)(B:q∈dZ C)(H:q∈g.u)(h:∀k1:Gk,k1.Fr N->K (.ref k1.a) (gM ad k1 (eP g q<|aH C z q) N)):
  ao (dm ad.C_Going "settled" (HW ad) iS 3 (ac 2)<|aa (ac 1)<|aa (ao<|aj (oG ad) iS 3<|aa (ah av (ac 3)<|dC<|.int 0)<|aa (ac 0)<|aa (ac 1) ag) ag) [ap z.d,ap (kD q),ap (.ref k.a),ap (bo C s t)] N K:=by
 have G:∀{a:cb}{M:Mem}{Q:DK}{fs:List _},M a=ap (.ins ad.C_Going fs)->Q _ M->frz (.ref a) M Q:=λ{a M Q fs} e z=>by simp_arith! only[frz,e];exact z
 exact FQ (λK q=>q) f.a gfs #[rfl,aI (λ_ _ z=>dU o I B z)<|(λz=>z) #[rfl,am λQ' E' F _=>tj f o ok B H λk1 p=>F _ _ (G cS<|h k1 p)]]
theorem pB(e:Gat ad k g N)(o:C.Ok)(O:SOk C s)(P:SOk C t)(ok:GOk C g)(R:q∈dZ C)(J:q∈g.u)(h:∀(k1 k2:Gk)(p:cb),k1.Fr N->k2.Fr (gM ad k1 (eP g q<|aH C s q) N)->gM ad k2 (eP g q<|aH C t q) (gM ad k1 (eP g q<|aH C s q) N) p=bb->
   Q (.ref p) ((gM ad k2 (eP g q<|aH C t q)<|gM ad k1 (eP g q<|aH C s q) N).upd p<|.lst [.ref k1.a,.ref k2.a])):
  BS ad [bo C s t,.ref k.a,kD q] N Q E:=by
 rw[Sz];unfold A6;generalize B:ao (dm _ _ _ _ 3 _ _)=te;have F:∀{N:Mem}{z:Sta}{K:DK},Gat ad k g N->SOk C z->(∀k1:Gk,k1.Fr N->K _ _)->te [ap _,ap _,ap _,ap (bo C s t)] N K:=λ{N z K} I G hh=>by
  rw[<- B];exact Ti I o G ok R J hh
 refine#[aK,?_];refine F e O λk1 f=>#[by trivial,?_]
 exact#[aK,F (e.more f) P λk2 H=>#[fC (by simp),#[aK,λp S=>ak (by simp_all)]]]
end
theorem HI(h:M b=ap o):M.upd b o=M:=by
 funext c;unfold Mem.upd
 simp_all
theorem JQ(h:k2.Fr (gM ad k1 e N)):gM ad k2 G (gM ad k1 e N)=gM ad k1 e (gM ad k2 G N):=by
 obtain⟨S,Y,a3,T,_⟩:=cj h.a;obtain⟨R,b2,I,b4,_⟩:=cj h.dn;obtain⟨c1,O,H,J,_⟩:=cj h.lp;obtain⟨P,W,Z,X,_⟩:=cj h.du;funext b
 by_cases B:b=k2.a
 .subst B;rw[cS,mx S Y a3 T,cS]
 by_cases f:b=k2.dn
 .subst f;rw[gO,mx R b2 I b4,gO]
 by_cases F:b=k2.lp
 .subst F;rw[qD,mx c1 O H J,qD]
 by_cases p:b=k2.du
 .subst p;rw[gy,mx P W Z X,gy]
 unfold gM;simp[Mem.upd,B,f,F,p]
section
variable{s:Sta}
theorem OR(h:fK C g r=ap q):q∈g.u:=by
 unfold fK at h
 split at h
 .cases h
 split at h
 .rename_i p B e
  cases h;have:q∈(dZ C).filter λk=>decide (k∈((fw r).filter λx=>decide ((UL x)∈g.u)).map UL):=by rw[e];simp
  obtain⟨x,f,rfl⟩:=Ul.mp (of_decide_eq_true<|(Ur.mp this).2)
  simp_all
 split at h
 .split at h
  .simp_all
  cases h
 cases h
theorem Ry:(pj C g rest r).u.length<=g.u.length/\∀x∈(pj C g rest r).u,x∈g.u:=by
 have f:∀z:aC,(g.u.filter λk=>decide (k≠z)).length<=g.u.length/\∀x∈g.u.filter (λk=>decide (k≠z)),x∈g.u:=λz=>#[UK _ _,λx e=>(Ur.mp e).1];cases r with
 |ifr=>exact#[Uk _,λ_ h=>h]
 |again=>exact#[Uk _,λ_ h=>h]
 |_=>exact f _
theorem jT:∀(f:Nat)(g:Gs),((bZ C f g).2.u.length<=g.u.length/\∀x∈(bZ C f g).2.u,x∈g.u)/\(0<=g.left->0<=(bZ C f g).2.left/\(bZ C f g).2.left<=g.left)/\∀q,(bZ C f g).1=ap q->q∈(bZ C f g).2.u
 |0,g=>#[#[Uk _,λ_ h=>h],λh=>#[h,Xm _],λq h=>by cases h]
 |f+1,g=>by
  unfold bZ;cases e:g.td with
  |nil=>
   simp_all
  |cons r rest=>
   dsimp only
   split
   .simp_all
   cases a:fK C g r with
   |some k=>
    refine#[by lia,by lia,λq h=>?_]
    cases h;exact OR a
   |none=>
    obtain⟨⟨F,I⟩,B,G⟩:=jT f _;obtain⟨p,J⟩:=Ry;have H:(pj C g rest r).left=g.left-1:=oq;exact#[#[Uu F p,by simp_all],λh=>#[(B<|by lia).1,by dsimp only;lia],G]
theorem r9(h:q∈u):(u.filter λk=>decide (k≠q)).length<u.length:=by
 rw[List.length_filter_lt_length_iff_exists]
 simp_all
theorem iI(o:C.Ok)(hs:SOk C s)(ht:SOk C t):∀(n:Nat)(g:Gs)(k:Gk)(M:Mem)(c:Nat)(Q:DK)(E:DX),GOk C g->0<=g.left->g.left<=C.most->(∀x∈g.u,x∈dZ C)->g.u.length<n->M e=ap (eO ad L c)->k.Fr M->
  c+(df C s t n g).asks<=L->Q (df C s t n g).d (M.upd e<|eO ad L (c+(df C s t n g).asks))->Zg ad n [bo C s t,.ref k.a,.ref e] (gM ad k g M) Q E
 |0,g,k,M,c,Q,E,ok,h0,hm,hu,hn,he,hf,hc,h=>by lia
 |n+1,g,k,M,c,Q,E,ok,h0,hm,hu,hn,he,hf,hc,h=>by
  have G:=qG o (C.most+1) g ok;obtain⟨⟨hlen,X⟩,hlft,Z⟩:=jT (C:=C) (C.most+1) g;rw[Tf];unfold Bk;refine#[rfl,am λQ' E' H _=>Dy (f:=C.most+1) o ok h0 (by lia) (H _ _ ?_)]
  have fo:∀{q:Option aC}{M:Mem}{Q:DK},Q (J0 q) M->frz (J0 q) M Q:=λ{q} {M} {Q} z=>by
   cases q with
   |none=>exact z
   |some k=>cases k<;>exact z
  refine fo ?_;simp only[af,Uy];unfold df at h hc;generalize hgo:bZ C (C.most+1) g=go at *;obtain⟨a,J⟩:=go;dsimp only at *;unfold sS;cases a with
  |none=>
   refine#[rfl,aI (λ_ _ z=>vS o G z) #[bj (by simp),?_]]
   simp only[Tr.asks,Tr.d,Nat.add_zero,HI he]at h;exact#[M,λb ob eb=>dI hf eb,h]
  |some q=>
   have P:=Z q rfl;have R:=hu q (X q P);have fl:=r9 P;simp only[Tr.asks,Tr.d]at h hc;have nn:kC (kD q)=false:=by cases q<;>rfl
   simp_arith! only[ai,aE,al,ah,ac,dC,J0,kX,nn,aB,TZ,dt]
   rw[if_neg (by simp)]
   have lo:UW ("one_more":Str) [(("limit":Str),D.int (L:Nat)),(("count":Str),D.int (c:Nat))]=none:=rfl;refine FQ (a:=e) (λK q=>q) (dI hf he) lo ?_;refine#[rfl,am λQ' E' H _=>ja (dI hf he) (by lia) (H _ _ ?_)]
   rw[rB hf he];have T:(M.upd e<|eO ad L (c+1)) e=ap (eO ad L (c+1)):=Mem.upd_same;have F:∀{o':MO},k.Fr (M.upd e o'):=λ{o'}=>#[by rw[ae (λz=>by rw[<- z,hf.a]at he;cases he)];exact hf.a,by rw[ae (λz=>by rw[<- z,hf.dn]at he;cases he)];exact hf.dn,by rw[ae (λz=>by rw[<- z,hf.lp]at he;cases he)];exact hf.lp,by rw[ae (λz=>by rw[<- z,hf.du]at he;cases he)];exact hf.du]
   refine#[rfl,am λQ' E' H _=>pB .of o hs ht G R P λk1 k2 p h1 I hp=>H _ _ (bM hp ?_)];generalize hg1:eP J q (aH C s q)=g1 at *;generalize hg2:eP J q (aH C t q)=g2 at *;have O:g1.u.length<n/\(∀x∈g1.u,x∈dZ C)/\g1.left=J.left/\GOk C g1:=by
    rw[<- hg1];exact#[by rw[eR];lia,λx hx=>by rw[eR]at hx;simp_all,fD,sI G<|bG o hs R]
   have S:g2.u.length<n/\(∀x∈g2.u,x∈dZ C)/\g2.left=J.left/\GOk C g2:=by
    rw[<- hg2];exact#[by rw[eR];lia,λx hx=>by rw[eR]at hx;simp_all,fD,sI G<|bG o ht R]
   rw[JQ I];have B:k2.Fr _:=#[(cj I.a).2.2.2.2,(cj I.dn).2.2.2.2,(cj I.lp).2.2.2.2,(cj I.du).2.2.2.2];obtain⟨a1,a2,a3,a4,_⟩:=cj I.a;obtain⟨b1,b2,b3,b4,_⟩:=cj I.dn;obtain⟨c1,c2,c3,c4,_⟩:=cj I.lp;obtain⟨d1,d2,d3,d4,_⟩:=cj I.du;have Y:gM ad k J (M.upd e<|eO ad L (c+1)) e=ap (eO ad L (c+1)):=dI F T;refine#[rfl,am λQ' E' H _=>iI o hs ht n g1 k1 _ (c+1) _ _ O.2.2.2 (by lia) (by lia) O.2.1 O.1 (dI B Y) #[by rw[mx a1.symm b1.symm c1.symm d1.symm];exact h1.a,by rw[mx a2.symm b2.symm c2.symm d2.symm];exact h1.dn,by rw[mx a3.symm b3.symm c3.symm d3.symm];exact h1.lp,by rw[mx a4.symm b4.symm c4.symm d4.symm];exact h1.du] (by lia) (H _ _ ?_)]
   rw[rB B Y,rB F T,Mem.upd_upd];have W:k2.Fr (gM ad k J<|M.upd e<|eO ad L (c+1+(df C s t n g1).asks)):=by
    have z:∀{b:cb},gM ad k J (M.upd e<|eO ad L (c+1)) b=bb->gM ad k J (M.upd e<|eO ad L (c+1+(df C s t n g1).asks)) b=none:=λ{b} hb=>by
     obtain⟨n1,n2,n3,n4,n5⟩:=cj hb;rw[mx n1 n2 n3 n4];have:b≠e:=λz=>by rw[z,Mem.upd_same]at n5;cases n5
     rw[ae this]at n5 ⊢;exact n5
    exact#[z B.a,z B.dn,z B.lp,z B.du]
   refine#[rfl,am λQ' E' H _=>iI o hs ht n g2 k2 _ (c+1+(df C s t n g1).asks) _ _ S.2.2.2 (by lia) (by lia) S.2.1 S.1 (dI F Mem.upd_same) W (by lia) (H _ _ ?_)]
   rw[rB F Mem.upd_same,Mem.upd_upd];refine#[bj (by simp),M.upd e (eO ad L (c+(1+(df C s t n g1).asks+(df C s t n g2).asks))),λb ob eb=>?_,h]
   have ec:c+1+(df C s t n g1).asks+(df C s t n g2).asks=c+(1+(df C s t n g1).asks+(df C s t n g2).asks):=by lia
   rw[ec];exact dI F eb
end
def g0(C:Cse)(s t:Sta):Gs:=#[C.names.zip s.nums,s.pieces,aL C s t,C.rows,(C.most:Nat)]
section
variable{s:Sta}
theorem rQ(o:C.Ok):(aL C s t).Nodup:=by
 refine List.Pairwise.filter _ ?_;show (dZ C).Nodup;unfold dZ;rw[Wb];refine#[?_,?_,?_]
 .exact Yb _ (by lia) o.nd
 .exact Yb _ (by lia) W7
 intro a e b f z;obtain⟨x,_,rfl⟩:=Ul.mp e;obtain⟨y,_,rfl⟩:=Ul.mp f;cases z
theorem sk:∀x∈aL C s t,x∈dZ C:=λx e=>(Ur.mp e).1
theorem oQ(o:C.Ok):(aL C s t).length<=200:=by
 have f:(aL C s t).length<=(dZ C).length:=UK _ _;have e:(dZ C).length=C.names.length+C.many:=by simp[dZ]
 have:=o.l1;have:=o.few;lia
theorem eK(o:C.Ok)(B:SOk C s)(F:SOk C t)(h:∀p,M p=bb->Q (.ref p) (M.upd p<|.lst<|(aL C s t).map kD)):pO ad [bo C s t] M Q E:=by
 exact#[rfl,am λQ' E' f _=>FN o B F λp e=>f _ _ (ak<|h p e)]
theorem Mt(o:C.Ok)(e:SOk C s):GOk C (g0 C s t):=#[(o.pl e).nok,e.lp,e.rp,o.ok]
theorem sdE:s.d=.tup [.tup (s.nums.map D.int),.tup (s.pieces.map D.int)]:=rfl
theorem xM(o:C.Ok)(hs:SOk C s)(ht:SOk C t)(h:∀k:Gk,k.Fr M->Q (.ref k.a) (gM ad k (g0 C s t) M)):zZ ad [bo C s t] M Q E:=by
 have ul:=oQ (s:=s) (t:=t) o;rw[RL];refine#[rfl,am λQ' E' W _=>eK o hs ht λp Y=>W _ _ (bM Y ?_)];refine dM (λd=>.tup [d,.bl true]) aK (by simp;lia) (λx f K q=>?_) ?_
 .exact#[bj (by simp),q]
 intro p Y;refine bM Y ?_;have e:((aL C s t).map kD).map (λd=>D.tup [d,.bl true])=(aL C s t).map λk=>D.tup [kD k,.bl true]:=by simp
 rw[e];have X:(([]:List (aC×D)).map (·.1)++(uD<|aL C s t).map (·.1)).Nodup:=by rw[rM];exact rQ o
 simp_arith! only[gl,Ek,cG,k8,su X]
 refine#[trivial,by simp[uD];lia,λP h3=>?_]
 simp[af];unfold tU
 simp_arith! only[az,iq,aa,gB,ah,ac,dC,dt,TZ,DQ,sdE,av,aQ,atI_0,atI_1,eJ,Ub]
 refine#[hs.ln.symm,o.l0,Uu o.l1 (by decide),λR T=>?_]
 have B:=Mem.ne Mem.upd_same T;rw[ae B.symm]at T;intro S O;have J:=Mem.ne Mem.upd_same O;rw[ae J.symm]at O;have G:=Mem.ne Mem.upd_same O;rw[ae G.symm]at O;refine#[rfl,aI (λ_ _ q=>eQ (td:=[]) q) ?_];have ft:∀{l:List Rw}{M:Mem}{Q:DK},Q (oV l) M->frz (oV l) M Q:=λ{l} {M} {Q} q=>by cases l<;>exact q
 rw[U0];refine ft ?_;refine#[rfl,λx f=>?_];have F:=Mem.ne Mem.upd_same f;rw[ae F.symm]at f;have H:=Mem.ne Mem.upd_same f;rw[ae H.symm]at f;have I:=Mem.ne Mem.upd_same f;rw[ae I.symm]at f;refine am λQ' E' W _=>o6 (W _ _ ?_);rw[gC hs.ln.symm o.nd];have Z:((((M.upd P<|.dK<|uD<|aL C s t).upd R<|.dK<|d_<|C.names.zip s.nums).upd S<|.lst<|s.pieces.map D.int).upd x<|.ins ad.C_Going [("numbers",.ref R),("pieces",.ref S),("unsettled",.ref P),("todo",oV C.rows),("left",.int C.most)])=gM ad #[x,R,S,P,H.symm,F.symm,I.symm,J,B.symm,G.symm] (g0 C s t) M:=by
  unfold gM gF g0;rw[aA F,aA H,aA I,aA B,aA G]
 rw[Z];exact ak (h #[x,R,S,P,_,_,_,_,_,_] #[f,T,O,h3])
def Cse.tree(C:Cse)(s t:Sta):Tr:=df C s t 24 (g0 C s t)
theorem Cw{b:Int}(o:C.Ok)(f:SOk C s)(B:SOk C t)(P:C.mark s=.int a)(p:C.mark t=.int b)(F:a≠b)(O:(aL C s t).length<24)(R:1+(C.tree s t).asks<=L)(h:Q (C.tree s t).d M):
  yn ad [bo C s t,.int (L:Nat)] M Q E:=by
 refine#[rfl,aI (λ_ _ q=>nM o f B P p F q) #[rfl,λe H=>?_]];have J:bV _ _ []=[(("limit":Str),D.int L)]:=rfl;refine am λQ' E' hq _=>?_;rw[u_q4];unfold Jo;simp![J];refine#[by decide,by decide,ak<|hq _ _ ?_]
 simp[T6];refine FQ (λK q=>q) Mem.upd_same rfl ?_;refine#[rfl,am λQ' E' hq _=>ja (c:=0) Mem.upd_same (by lia) (hq _ _ ?_)]
 rw[Mem.upd_upd];refine#[rfl,am λQ' E' hq _=>xM o f B λk I=>hq _ _ ?_];have G:∀{M:Mem}{Q:DK}{fs:List _},M k.a=ap (.ins ad.C_Going fs)->Q _ M->frz (.ref k.a) M Q:=λ{M Q fs} e z=>by simp_arith! only[frz,e];exact z
 refine G cS #[rfl,am λQ' E' hq _=>iI o f B 24 _ k _ 1 _ _ (Mt o f) (by show (0:Int)<=C.most;lia) (Xm _) sk O Mem.upd_same I R (hq _ _ ?_)]
 rw[Mem.upd_upd];refine#[M,λb S p=>?_,h];rw[ae (Mem.ne p H)];exact p
end
theorem CD(a b:Nat):Xi (a:Int) (b:Int)=((a ||| b:Nat):Int):=by
 have e:(-(-(a:Int)-1)-1).toNat=a:=by lia
 have f:(-(-(b:Int)-1)-1).toNat=b:=by lia
 unfold Xi VQ Builtin.bitNot;rw[(decide_eq_false<|by lia),(decide_eq_false<|by lia)]
 simp only[e,f];lia
theorem GG(a:Nat):VQ (a:Int) 1=((a % 2:Nat):Int):=by
 unfold VQ
 simp_all
noncomputable def J3(b:Nat):Nat:=Vo (b:Int)
def aF(b:Nat):List Nat:=(Ut<|J3 b).filter λi=>b.testBit i
theorem FM{b m:Nat}(h:b<2 ^ m):J3 b<=m:=by
 unfold J3 Vo
 split
 .lia
 rw[Int.natAbs_natCast];have:=(Nat.log2_lt<|by lia).mpr h
 lia
theorem dF{b m:Nat}(h:b<2 ^ m):aF b=(Ut m).filter λi=>b.testBit i:=by
 obtain⟨d,rfl⟩:∃d,m=J3 b+d:=#[m-J3 b,by have:=FM h;lia]
 unfold aF;rw[List.range_add,WK];have:((Ut d).map (J3 b+·)).filter b.testBit=[]:=by
  rw[Wc];intro i f;obtain⟨j,_,rfl⟩:=Ul.mp f;have e:b<2 ^ J3 b:=by
   unfold J3 Vo
   split
   .simp_all
   exact Nat.lt_log2_self
  rw[VJ (Us e<|UT (by decide)<|by lia)]
  simp
 rw[this,U0]
theorem gq{b:Nat}(I:b<2 ^ 200)(h:∀p,M p=bb->Q (.ref p) (M.upd p<|.lst ((aF b).map λ(i:Nat)=>D.int (i:Int)))):ki ad [.int (b:Nat)] M Q E:=by
 have H:=FM I;rw[Rz];unfold AD
 simp_arith! only[az,aO,dt,bX,Ud,U2,UH,UB,UZ]
 have F:(Vo b)<=200:=by have:Vo _<=200:=H;lia
 refine#[rfl,by lia,by lia,?_]
 refine dA (λd=>match d with|.int i=>b.testBit i.toNat|_=>cp) id aK ?_ (λx f K q=>?_) (λx f _ K q=>q) ?_
 .simp[cQ,Ub];lia
 .simp only[cQ,Ul]at f
  obtain⟨i,J,rfl⟩:=f;rw[Int.zero_add]at q ⊢;have G:(b:Int) / 2 ^ ((i:Int)).toNat=(b / 2 ^ i:Nat):=by simp
  simp_arith! only[al,ah,ac,dC,dt,TZ,F5,oI,lj,G,GG,bR,dv,cN,aR]
  simp[Nat.testBit_eq_decide_div_mod_eq]at q;have O:decide (((b / 2 ^ i % 2:Nat):Int)=1)=decide (b / 2 ^ i % 2=1):=by congr 1;exact propext (by lia)
  simp_all
 intro p B;have e:((cQ 0<|VO (Vo b:Nat)).filter λd=>match d with|.int i=>b.testBit i.toNat|_=>cp).map id=(aF b).map λ(i:Nat)=>D.int i:=by
  rw[Vu];unfold cQ aF J3;rw[Vb];have:∀l:List _,l.map (λ(i:Nat)=>D.int (0+i))=l.map λ(i:Nat)=>D.int i:=λl=>UD (by lia)
  rw[this];congr 1;refine Wd λi _=>?_;simp
 rw[e];exact ak (h p B)
theorem Be{b:BxC (dk 2<|aM (af 0)<|aM (af 1) da) cP te ok Q}{rest:Dl}(f:Nat->D->D)(e:ok M):∀(xs:List D)(j:Nat)(aaO:List D)(F B:Option D),aaO.length+xs.length<=100000->
  (∀(i:Nat) x,xs[i]?=ap x->∀K:DK,K (f (j+i) x) M->te (ap (.int ((j+i:Nat):Int))::ap x::rest) M K)->Q (aaO++(xs.zipIdx j).map λp=>f p.2 p.1) M->
  cU (dk 2<|aM (af 0)<|aM (af 1) da) cP te ok Q b (fX j xs) aaO (F::B::rest) M
 |[],j,aaO,F,B,hl,he,h=>by
  unfold fX cU;exact#[e,by simpa using h]
 |x::xs,j,aaO,F,B,hl,he,h=>by
  simp only[Uz]at hl;unfold fX cU;refine#[e,?_]
  simp_arith! only[dk,aM,da,af,Uy,cP,if_true]
  refine#[rfl,he 0 x rfl _ #[fC (by lia),?_]]
  refine Be f e xs (j+1) _ _ _ (by simp;lia) (λi y G K q=>?_) ?_
  .have:=he (i+1) y (by simpa using G) K (by rw[show j+(i+1)=j+1+i by lia];exact q)
   rw[show j+(i+1)=j+1+i by lia]at this
   exact this
  .simpa [W6] using h
structure Out where
 v:Str
 s:Nat
 f:Nat
noncomputable def DV(ad:Ad)(x:Out):MO:=.ins ad.C_Outcome [("verdict",.str x.v),("sound",.int (x.s:Nat)),("faulty",.int (x.f:Nat))]
def Ext(M M':Mem):Prop:=∀b o,M b=ap o->M' b=ap o
theorem Ext.refl:Ext M M:=λ_ _ e=>e
theorem Ext.trans{M1 M2:Mem}(a:Ext M M1)(b:Ext M1 M2):Ext M M2:=λx o e=>b x o (a x o e)
theorem Ext.no(h:Ext M M')(e:M' b=bb):M b=none:=by
 cases q:M b with
 |none=>rfl
 |some o=>rw[h b o q]at e;cases e
theorem Ext.new(h:M b=bb):Ext M (M.upd b o):=λx u e=>by rw[ae (Mem.ne e h)];exact e
theorem Ext.upd(x:Ext M M')(h:M b=bb):Ext M (M'.upd b o):=λc u e=>by rw[ae (Mem.ne e h)];exact x c u e
theorem Ext.del(x:Ext M M')(h:M b=bb):Ext M (M'.del b):=λc u e=>by unfold Mem.del;rw[if_neg (Mem.ne e h)];exact x c u e
inductive Lay(ad:Ad)(M:Mem):List cb->List Out->Prop
 |nil:Lay ad M [] []
 |cons {a:cb} {x:Out} {as:aaX} {xs:List Out} (h:M a=ap (DV ad x)) (t:Lay ad M as xs):Lay ad M (a::as) (x::xs)
theorem Lay.go{ad:Ad}{M M':Mem}:∀{as:aaX}{xs:List Out},Lay ad M as xs->(∀a x,M a=ap (DV ad x)->M' a=ap (DV ad x))->Lay ad M' as xs
 |_,_,.nil,_=>.nil
 |_,_,.cons h t,g=>.cons (g _ _ h) (t.go g)
theorem Lay.snoc{ad:Ad}{M:Mem}{a:cb}{x:Out}(h:M a=ap (DV ad x)):∀{as:aaX}{xs:List Out},Lay ad M as xs->Lay ad M (as++[a]) (xs++[x])
 |_,_,.nil=>.cons h .nil
 |_,_,.cons h' t=>.cons h' (t.snoc h)
theorem Lay.length{ad:Ad}{M:Mem}:∀{as:aaX}{xs:List Out},Lay ad M as xs->as.length=xs.length
 |_,_,.nil=>rfl
 |_,_,.cons _ t=>congrArg _ t.length
theorem HS{xs:List D}(h:M l=ap (.lst xs))(a:cb)(x:Out)(e:M a=ap (DV ad x)):(M.upd l<|.lst ys) a=ap (DV ad x):=by
 rw[ae (λz=>by rw[z,h]at e;cases e)];exact e
noncomputable def jO(a b:Int)(m:D):Str:=if aR m (.int a)=true then "sound" else if aR m (.int b)=true then "faulty" else "other"
noncomputable def bitK(us:List aC)(q:aC):Nat:=2 ^ us.idxOf q
def g9(a b:Int)(us:List aC):Tr->Nat->Nat->List Out
 |.e m,S,F=>[#[jO a b m,S,F]]
 |.a q x y,S,F=>g9 a b us y S (F ||| bitK us q)++g9 a b us x (S ||| bitK us q) F
def KN(us:List aC):Tr->Prop
 |.e m=>m=.non\/∃v,m=.int v
 |.a q x y=>q∈us/\KN us x/\KN us y
def g5:Tr->Nat
 |.e _=>1
 |.a _ x y=>1+g5 x+g5 y
def wD(w:Tr×Nat×Nat):D:=.tup [w.1.d,.int (w.2.1:Nat),.int (w.2.2:Nat)]
def xY(a b:Int)(us:List aC)(ws:List (Tr×Nat×Nat)):List Out:=(ws.map λw=>g9 a b us w.1 w.2.1 w.2.2).flatten
def cX(ws:List (Tr×Nat×Nat)):Nat:=(ws.map λw=>g5 w.1).sum
theorem qj:∀t:Tr,1<=g5 t
 |.e _=>Uk _
 |.a _ x y=>by unfold g5;lia
theorem SA:∀e:List (Tr×Nat×Nat),e.length<=cX e
 |[]=>Uk _
 |w::e=>by
  have:=SA e;have:=qj w.1;simp[cX]at *;lia
noncomputable def bD(us:List aC):List (aC×D):=us.zipIdx.map λp=>(p.1,D.int ((2 ^ p.2:Nat):Int))
theorem IB:(bD us).map (·.1)=us:=by
 unfold bD;rw[Uq];exact List.zipIdx_map_fst 0 us
theorem Ob(h:q∈us):cI (bD us) q=ap (.int ((bitK us q:Nat):Int)):=by
 have f:∀(l:List _)(j:Nat),q∈l->cI ((l.zipIdx j).map λp=>(p.1,D.int (2 ^ p.2))) q=ap (.int (2 ^ (j+l.idxOf q):Nat)):=by
  intro l
  induction l with
  |nil=>simp_all
  |cons a r ih=>
   intro j h;rw[W6,Ud];unfold cI;rw[VN]
   by_cases e:a=q
   .simp_all
   have B:(a==q)=false:=by simpa using e
   simp only[e,decide_false];have:=ih (j+1) (by rcases Uj.mp h with z|z;exact absurd z.symm e;exact z)
   unfold cI at this;rw[this,List.idxOf_cons,B];congr 4;simp;lia
 have:=f us 0 h;rw[Wh]at this;exact this
theorem w_{x:cb}{y:Out}(h:Q .non (M.upd x<|DV ad y)):KD ad [.ref x,.str y.v,.int (y.s:Nat),.int (y.f:Nat)] (M.upd x<|.ins ad.C_Outcome []) Q E:=by
 have e:bV _ _ []=[(("verdict":Str),D.str y.v)]:=rfl;have p:bV "sound" _ [("verdict",D.str y.v)]=[(("verdict":Str),D.str _),("sound",D.int y.s)]:=rfl;rw[u_q0];unfold Lp;simp![Mem.upd_upd,e,p];exact#[by decide,by decide,by decide,ak h]
structure OK(ad:Ad)(M0:Mem)(us:List aC)(db lf lw:cb)(as:aaX)(ds:List Out)(ws:List (Tr×Nat×Nat))(N:Mem):Prop where
 x:Ext M0 N
 f:M0 lf=bb
 w:M0 lw=bb
 b:M0 db=bb
 bd:N db=ap (.dK<|bD us)
 lf':N lf=ap (.lst<|as.map D.ref)
 lw':N lw=ap (.lst (ws.map wD).reverse)
 ne:lf≠lw
 nb:lf≠db
 ny:Lay ad N as ds
 few:as.length+cX ws<=100000
 tr:∀w∈ws,KN us w.1
theorem wDE:wD (e,S,F)=.tup [e.d,.int (S:Nat),.int (F:Nat)]:=rfl
theorem Fc{b:Int}{w:Tr×Nat×Nat}(I:OK ad M0 us J R B as ds (w::p) N)(h:∀as' ds' P N' c6 c7 c8 c9,OK ad M0 us J R B as' ds' P N'->cX P<cX (w::p)->ds'++xY a b us P=ds++xY a b us (w::p)->D'.nx [ap cs,ap ld,ap (.tup [.int a,.int b]),ap (.ref J),ap (.ref R),ap (.ref B),c6,c7,c8,c9] N'):
  h7 ad EE D' [ap cs,ap ld,ap (.tup [.int a,.int b]),ap (.ref J),ap (.ref R),ap (.ref B),c6,c7,c8,c9] N:=by
 obtain⟨tr,S,F⟩:=w;have ew:((((tr,S,F)::p).map wD).reverse)=(p.map wD).reverse++[wD (tr,S,F)]:=by simp
 have O:=I.lw';rw[ew]at O;have T:((p.map wD).reverse++[wD (tr,S,F)])[((p.map wD).reverse++[wD (tr,S,F)]).length-1]?=ap (wD (tr,S,F)):=by simp
 have Z:=I.tr _ Uw;have few:=I.few;have len:=SA p;simp only[cX,Ud,Xq]at few len;unfold h7
 simp_arith! only[ai,aq,iN,ac,ag,dt,TZ,cH,O,DC,T,List.dropLast_concat]
 refine#[trivial,?_];unfold qM tH
 simp_arith! only[ai,aq,ah,ac,dC,wDE,av,aQ,atI_1,atI_2,af,Uy,dt,TZ]
 have I1:∀{u:D},(N.upd B<|.lst (p.map wD).reverse) R=ap _:=λ{u}=>by rw[ae I.ne];exact I.lf'
 have ex1:Ext M0 (N.upd B<|.lst (p.map wD).reverse):=I.x.upd I.w;have X:Lay ad (N.upd B<|.lst (p.map wD).reverse) as ds:=I.ny.go λa x=>HS O a x;have W:J≠B:=λz=>by have:=I.bd;simp_all
 have G:(N.upd B<|.lst (p.map wD).reverse) J=ap (.dK<|bD us):=by rw[ae W];exact I.bd
 generalize hN1:N.upd B _=N1 at *;have H:N1 B=ap (.lst (p.map wD).reverse):=by rw[<- hN1,Mem.upd_same]
 have Ij:N1 R=ap _:=I1 (u:=.non);unfold sX;cases tr with
 |e m=>
  unfold rj
  simp_arith! only[aE,al,ah,ac,dC,av,aQ,atI_0,atI_1,Tr.d,bR,dv,cN,aR,if_true,dt,TZ,b6,iN,cH,Ij,aa,iq,ao,aj,ag]
  refine#[trivial,trivial,trivial,rfl,aI (λ_ _ q=>kN Z q) ?_];refine (λz=>z) #[rfl,λx Y=>am λQ' E' hq _=>w_ (y:=#[jO a b m,S,F]) (hq _ _ ?_)];have nx:R≠x:=Mem.ne Ij Y;have nw:B≠x:=Mem.ne H Y;have nd:J≠x:=Mem.ne G Y
  simp_arith! only[ag,bf,ae nx,Ij]
  refine#[by simp[g5]at *;exact fC (by lia),?_]
  refine h (as++[x]) (ds++[#[jO a b m,S,F]]) p _ _ _ _ _ #[(ex1.upd<|ex1.no Y).upd I.f,I.f,I.w,I.b,?_,?_,?_,I.ne,I.nb,?_,?_,λw hw=>I.tr w (Ui _ hw)] ?_ ?_
  .rw[ae (UN I.nb),ae nd];exact G
  .rw[Mem.upd_same];simp
  .rw[ae (UN I.ne),ae nw];exact H
  .refine Lay.snoc ?_ (X.go λa y e=>?_)
   .rw[ae (UN nx),Mem.upd_same]
   .rw[ae (λz=>by rw[z,Ij]at e;cases e),ae (Mem.ne e Y)];exact e
  .simp only[cX,UC,Vy,g5]at few ⊢;lia
  .simp[cX,g5]
  .simp[xY,g9]
 |a q x y=>
  obtain⟨hq,htx,hty⟩:=Z;have hne:decide (("ask":Str)=("end":Str))=false:=by decide +kernel
  have gd:vb N1 J (kD q)=ap (ap<|.int ((bitK us q:Nat):Int)):=by simp_arith! only[vb,G,fc,Ob hq]
  unfold qJ rT tO
  simp_arith! only[aE,al,ah,ac,dC,av,atI_0,atI_1,atI_2,atI_3,Tr.d,bR,dv,cN,aR,hne,dt,TZ,ai,aq,aQ,G,gd,af,Uy,b6,iN,cH,H,aa,aU,ag,oOr,lj,CD,bf,Mem.upd_same,Mem.upd_upd]
  refine#[trivial,trivial,?_];have hr:(p.map wD).reverse.length=p.length:=by simp
  refine#[trivial,bj (by simp),by rw[hr];exact fC (by lia),trivial,bj (by simp),by exact fC (by simp;lia),?_]
  have er:((p.map wD).reverse++[D.tup [x.d,.int ((S ||| bitK us q:Nat):Int),.int (F:Nat)]])++[D.tup [y.d,.int (S:Nat),.int ((F ||| bitK us q:Nat):Int)]]=(((y,S,F ||| bitK us q)::(x,S ||| bitK us q,F)::p).map wD).reverse:=by simp[wD]
  rw[er];refine h as ds _ _ _ _ _ _ #[ex1.upd I.w,I.f,I.w,I.b,by rw[ae W];exact G,by rw[ae I.ne];exact Ij,Mem.upd_same,I.ne,I.nb,X.go λa x=>HS H a x,?_,?_] ?_ ?_
  .simp only[cX,Ud,Xq,g5]at few ⊢;lia
  .intro w hw
   rcases Uj.mp hw with z|hw
   .rw[z];exact hty
   .rcases Uj.mp hw with z|hw
    .rw[z];exact htx
    .exact I.tr w (by simp_all)
  .simp only[cX,Ud,Xq,g5];lia
  .simp[xY,g9]
section
variable{s t:Sta}
theorem uA{us:List aC}{a b:Int}:∀(n:Nat)(as:aaX)(ds:List Out)(ws:List (Tr×Nat×Nat))(N:Mem)(f p B e:Option D),cX ws<=n->OK ad M0 us G J H as ds ws N->
  (∀F N' f p B e,OK ad M0 us G J H F (ds++xY a b us ws) [] N'->D'.nx [ap P,ap R,ap (.tup [.int a,.int b]),ap (.ref G),ap (.ref J),ap (.ref H),f,p,B,e] N')->
  cK (cq<|ac 5) (h7 ad EE) D' bx (n+1) [ap P,ap R,ap (.tup [.int a,.int b]),ap (.ref G),ap (.ref J),ap (.ref H),f,p,B,e] N
 |n,as,ds,[],N,f,p,B,e,hn,I,h=>by
  refine whF (λK q=>?_) (h as N f p B e<|by simpa [xY] using I)
  simp_arith! only[cq,ac,dt,TZ,DM,I.lw']
  exact q
 |0,as,ds,w::ws,N,f,p,B,e,hn,I,h=>by
  have:=qj w.1;simp[cX]at hn;lia
 |n+1,as,ds,w::ws,N,f,p,B,e,hn,I,h=>by
  refine whT (λK q=>?_) (Fc I λF Y Z N' d6 d7 d8 d9 I' hlt he=>?_)
  .have:((((w::ws).map wD).reverse).isEmpty)=false:=by simp
   simp_arith! only[cq,ac,dt,TZ,DM,I.lw',this]
   exact q
  exact uA n _ _ _ N' d6 d7 d8 d9 (by lia) I' λO N2 W X S T I2=>h O N2 W X S T (by simp_all)
theorem qV{us:List aC}:∀(n:Nat)(g:Gs),(∀x∈g.u,x∈us)->KN us (df C s t n g)
 |0,g,h=>.inl rfl
 |n+1,g,h=>by
  obtain⟨⟨F,p⟩,f,B⟩:=jT (C:=C) (C.most+1) g;unfold df;cases e:(bZ C _ g).1 with
  |none=>
   show QW C _=.non\/_;unfold QW
   split
   .simp_all
   simp_all
  |some q=>
   have hs:∀v,∀x∈(eP (bZ C (C.most+1) g).2 q v).u,x∈us:=λv x G=>by rw[eR]at G;simp_all
   exact#[by simp_all,qV n _ (hs _),qV n _<|hs _]
theorem nz:∀t:Tr,g5 t=2*t.asks+1
 |.e _=>rfl
 |.a _ x y=>by unfold g5 Tr.asks;rw[nz x,nz y];lia
theorem qy:∀(us:List aC)(j:Nat),uR ((us.zipIdx j).map λp=>D.tup [kD p.1,.int ((2 ^ p.2:Nat):Int)])=ap ((us.zipIdx j).map λp=>(p.1,D.int ((2 ^ p.2:Nat):Int)))
 |[],_=>rfl
 |k::ks,j=>by simp only[W6,Ud,uR,fc,qy ks _]
theorem pi{b:Int}(o:C.Ok)(S:SOk C s)(T:SOk C t)(ea:C.mark s=.int a)(eb:C.mark t=.int b)(J:a≠b)(hu:(aL C s t).length<24)(hc:1+(C.tree s t).asks<=L)(hL:L<=10000)(h:∀p as N,Ext M N->N p=ap (.lst<|as.map D.ref)->M p=bb->Lay ad N as (g9 a b (aL C s t) (C.tree s t) 0 0)->Q (.ref p) N):yR ad [bo C s t,.int (L:Nat)] M Q E:=by
 have ft:∀{xs:List D}{M:Mem}{Q:DK},Q _ M->frz (.tup xs) M Q:=λz=>z;refine#[rfl,aI (λ_ _ q=>nM o S T ea eb J q)<|ft ?_];refine#[rfl,am λQ' E' hq _=>eK o S T λp O=>hq _ _ (bM O ?_)]
 simp_arith! only[aQ,oy]
 refine Be (λi d=>.tup [d,.int (2 ^ i:Nat)]) aK _ 0 [] _ _ (by simp;lia) (λi x Z K q=>?_) ?_
 .have hi:i<200:=by
   have h1:i<((aL C s t).map kD).length:=by
    rcases VL i _ with z|z
    .exact z
    simp_all
   rw[Ub]at h1;lia
  refine#[#[by lia,by lia,by decide],bj (by simp),?_]
  simp_all
 intro p O;refine bM O ?_;have e:[]++(((aL C s t).map kD).zipIdx 0).map (λp=>D.tup [p.1,.int (2 ^ p.2:Nat)])=((aL C s t).zipIdx 0).map λp=>D.tup [kD p.1,.int (2 ^ p.2:Nat)]:=by
  rw[List.zipIdx_map,Uq];rfl
 rw[e];have R:(([]:List (aC×D)).map (·.1)++(bD<|aL C s t).map (·.1)).Nodup:=by rw[IB];exact rQ o
 have G:=su R
 simp_arith! only[gl,Ek,cG,qy]
 refine#[trivial,by simp;lia,λX H=>?_]
 have F:(List.foldl _ []<|List.map (λp=>(p.1,D.int _))<|List.zipIdx _)=bD _:=G;rw[F];refine#[by trivial,λP B=>?_]
 have n1:=Mem.ne Mem.upd_same B;rw[ae n1.symm]at B;refine#[rfl,aI (λ_ _ q=>Cw o S T ea eb J hu hc q) #[bj (by simp),bj (by simp),λW f=>?_]]
 have n2:=Mem.ne Mem.upd_same f;rw[ae n2.symm]at f;have Y:=Mem.ne Mem.upd_same f;rw[ae Y.symm]at f;have I:OK ad M (aL C s t) X P W [] [] [(C.tree s t,0,0)] (((M.upd X _).upd P<|.lst []).upd W _):=
  #[((Ext.new H).upd B).upd f,B,f,H,by rw[ae Y,ae n1,Mem.upd_same],by rw[ae n2,Mem.upd_same];rfl,Mem.upd_same,n2,n1.symm,.nil,by simp[cX,Ud,U2,Xq,List.sum_nil,Wv,nz];lia,λw hw=>by
   rcases Uj.mp hw with z|z
   .rw[z];exact qV 24 _ λx Z=>Z
   cases z]
 refine#[_,uA _ _ _ _ _ _ _ _ _ (Uk _) I λas' N' c6 c7 c8 c9 I'=>?_];refine ak (h P _ N' I'.x I'.lf' B ?_);simpa [xY] using I'.ny
end
def t8(cf:Cf)(n:cD)(rest:List Rw):Rw->cD×List Rw
 |.ifr x a b=>(n,(if nm n x=0 then b else a)++rest)
 |.again x a=>(n,if nm n x=0 then rest else a++(.again x a::rest))
 |r=>(sN n (iF r) (num cf n r),rest)
def fin(cf:Cf):Nat->cD->List Rw->Option cD
 |_,n,[]=>ap n
 |0,_,_::_=>bb
 |k+1,n,r::rest=>fin cf k (t8 cf n rest r).1 (t8 cf n rest r).2
theorem dz{n:cD}:fin cf k n []=ap n:=by cases k<;>rfl
def CS(cf:Cf)(b:Bool×Sx)(rest:List Rw):Option cD:=if b.1=true then fin cf (cf.most-b.2.steps.length) b.2.nums rest else bb
section
variable{cf:Cf}
theorem yS:CS cf (true,s) rest=fin cf (cf.most-s.steps.length) s.nums rest:=by rfl
theorem Fp:CS cf (cp,s) rest=none:=by rfl
theorem S8(h:s.steps.length<cf.most):nt cf pl v s=(true,#[s.nums,s.steps++[(pl,v)]]):=by unfold nt;rw[if_pos h]
theorem SC(h:¬s.steps.length<cf.most):nt cf pl v s=(cp,s):=by unfold nt;rw[if_neg h]
theorem rC{n:cD}(h:¬s.steps.length<cf.most):fin cf (cf.most-s.steps.length) n (r::rest)=none:=by
 have:cf.most-s.steps.length=0:=by lia
 rw[this];rfl
theorem wy{n:cD}(h:s.steps.length<cf.most):fin cf (cf.most-s.steps.length) n (r::rest)=fin cf (cf.most-(s.steps++[p]).length) (t8 cf n rest r).1 (t8 cf n rest r).2:=by
 have:cf.most-s.steps.length=(cf.most-(s.steps++[p]).length)+1:=by simp;lia
 rw[this];rfl
theorem va{x:Str}{a:List Rw}(F:∀pl s rest,fin cf (cf.most-s.steps.length) s.nums (a++rest)=CS cf (cc cf a pl 0 s) rest):∀(f t:Nat)(s:Sx)(rest:List Rw),cf.most-s.steps.length<f->
  fin cf (cf.most-s.steps.length) s.nums (.again x a::rest)=CS cf (fh cf x pl (λt s=>cc cf a (pl++[(t:Int)]) 0 s) f t s) rest
 |0,t,s,rest,h=>by lia
 |f+1,t,s,rest,h=>by
  unfold fh
  by_cases c:s.steps.length<cf.most
  .rw[S8 c,if_pos rfl,wy c]
   by_cases e:nm s.nums x=0
   .have p:lk s.nums x=0:=by unfold lk;rw[if_pos e]
    rw[p,if_neg (by decide),yS]
    simp[t8,if_pos e]
   have p:lk s.nums x=1:=by unfold lk;rw[if_neg e]
   rw[p];simp only[t8,if_neg e];have i1:=F (pl++[(t:Int)]) #[s.nums,s.steps++[(pl++[(t:Int)],1)]] (.again x a::rest);generalize G:cc cf a _ 0 _=ex at *;obtain⟨b,s2⟩:=ex;rw[i1];cases b with
   |true=>
    have B:s.steps.length+1<=s2.steps.length:=by
     have:=(fP (c:=cf) a (pl++[(t:Int)]) 0 #[s.nums,s.steps++[(pl++[(t:Int)],1)]]).1
     simp_all
    exact va F f _ s2 _ (by lia)
   |false=>rfl
  rw[SC c];exact rC c
theorem lb(f:bi r=true):fin cf (cf.most-s.steps.length) s.nums (r::rest)=CS cf (iO cf r pl s) rest:=by
 rw[cF f];unfold kP;have e:t8 cf s.nums rest r=(sN s.nums (iF r) (num cf s.nums r),rest):=by
  cases r<;>trivial
 by_cases c:s.steps.length<cf.most
 .rw[if_pos c,yS,wy c,e]
 rw[if_neg c];exact rC c
mutual
theorem Rg:∀(r:Rw)(pl:aaU)(s:Sx)(rest:List Rw),fin cf (cf.most-s.steps.length) s.nums (r::rest)=CS cf (iO cf r pl s) rest
 |.ifr x a b,pl,s,rest=>by
  unfold iO
  by_cases c:s.steps.length<cf.most
  .rw[S8 c,if_pos rfl,wy (p:=(pl,lk s.nums x)) c]
   by_cases e:nm s.nums x=0
   .have f:lk s.nums x=0:=by unfold lk;rw[if_pos e]
    rw[f,if_neg (by decide)]
    simp only[t8,if_pos e];exact iz b (pl++[0]) 0 #[s.nums,s.steps++[(pl,0)]] rest
   .have f:lk s.nums x=1:=by unfold lk;rw[if_neg e]
    rw[f,if_pos rfl];simp only[t8,if_neg e];exact iz a (pl++[1]) 0 #[s.nums,s.steps++[(pl,1)]] rest
  .rw[SC c,if_neg (by simp),Fp]
   exact rC c
 |.again x a,pl,s,rest=>by
  unfold iO;exact va (λpl s rest=>iz a pl 0 s rest) _ _ _ _ (by lia)
 |.put x k,pl,s,rest=>lb rfl
 |.take x k,pl,s,rest=>lb rfl
 |.pick x y,pl,s,rest=>lb rfl
 |.two w x y z,pl,s,rest=>lb rfl
theorem iz:∀(rs:List Rw)(pl:aaU)(j:Nat)(s:Sx)(rest:List Rw),fin cf (cf.most-s.steps.length) s.nums (rs++rest)=CS cf (cc cf rs pl j s) rest
 |[],pl,j,s,rest=>by unfold cc;rw[yS];rfl
 |r::rs,pl,j,s,rest=>by
  unfold cc;rw[UH,Rg r (pl++[(j:Int)]) s (rs++rest)];generalize iO cf r (pl++[(j:Int)]) s=ex;obtain⟨b,s2⟩:=ex;cases b with
  |true=>rw[yS,if_pos rfl];exact iz rs pl (j+1) s2 rest
  |false=>rw[Fp,if_neg (by simp),Fp]
end
end
def mkO(mn:Str):Option cD->D
 |some n=>.int (nm n mn)
 |none=>.non
theorem vc:C.mark z=mkO C.mn (fin (C.cf z) C.most (C.names.zip z.nums) C.rows):=by
 have h:=iz (cf:=C.cf z) C.rows [] 0 #[C.names.zip z.nums,[]] [];rw[U0]at h;have e:fin _ C.most _ _=CS _ (C.run z) []:=h;rw[e];unfold Cse.mark uj CS
 split
 .rw[dz];rfl
 rfl
def N4(p:aC->Bool):Tr->D
 |.e m=>m
 |.a q x y=>if p q=true then N4 p y else N4 p x
theorem ip{n:cD}(h:x∈n.map (·.1)):nm (sN n x v) y=if y=x then v else nm n y:=by
 unfold nm;rw[RS h]
 split<;>rfl
structure Rl(C:Cse)(z:Sta)(g:Gs)(n:cD):Prop where
 nk:∀x,(UL x:aC)∉g.u->nm g.n x=nm n x
 nu:∀x,(UL x:aC)∈g.u->nm n x=aH C z (.inr x)
 pk:∀i:Nat,(Vz (i:Int):aC)∉g.u->(g.ps[i]?).getD 0=(z.pieces[i]?).getD 0
 k:n.map (·.1)=C.names
section
variable{s t:Sta}{n:cD}{p:aC->Bool}
theorem FF(F:f_ C.names C.w C.many r)(h:fK C g r=bb):(∀x∈fw r,(UL x:aC)∉g.u)/\∀i,MN C g.n r=ap i->(Vz i:aC)∉g.u:=by
 unfold fK at h
 split at h
 .simp_all
 split at h
 .cases h
 rename_i e
 refine#[λx f B=>?_,λi G B=>?_]
 .have:(UL x)∈(dZ C).filter λk=>decide (k∈((fw r).filter λx=>decide ((UL x)∈g.u)).map UL):=by
   rw[Ur];refine#[Ux.mpr (.inl<|Ul.mpr #[x,z_ F x f,rfl]),decide_eq_true ?_]
   simp_all
  rw[e]at this;cases this
 simp_all
theorem Rl.num(R:Rl C z g n)(ok:GOk C g)(J:SOk C z)(f:de C.names C.w C.many r)(h:fK C g r=bb):num (g.cf C) g.n r=num (C.cf z) n r:=by
 have B:f_ C.names C.w C.many r:=by
  cases r with
  |ifr=>exact f.elim
  |again=>exact f.elim
  |_=>exact f
 obtain⟨F,G⟩:=FF B h;have I:g.ps.length=z.pieces.length:=by rw[ok.lp,J.lp]
 cases r with
 |put x k=>rfl
 |take x i=>
  exact(R.pk _<|by rw[Y6 f.2.1];exact G i rfl)
 |pick x y=>
  have e:=R.nk y (F y<|by simp[fw])
  have H:=G _ rfl;have O:=f.2.2;rw[<- Y6 (VE _<|by lia)]at H
  show (g.ps[(nm g.n y % (g.ps.length:Int)).toNat]?).getD 0=(z.pieces[(nm n y % (z.pieces.length:Int)).toNat]?).getD 0;rw[<- e,<- I,ok.lp];exact(R.pk _ H)
 |two w x y u=>
  show A9 w _ _ C.w=A9 w _ _ C.w;rw[R.nk y (F y<|by simp[fw]),R.nk u (F u<|by simp[fw])]
 |_=>exact f.elim
theorem Rl.step(R:Rl C z g n)(ok:GOk C g)(S:SOk C z)(J:f_ C.names C.w C.many r)(h:fK C g r=bb):Rl C z (pj C g rest r) (t8 (C.cf z) n rest r).1/\(pj C g rest r).td=(t8 (C.cf z) n rest r).2:=by
 have look:=λx B=>R.nk x ((FF J h).1 x B);have set:∀I,r=I->bi r=true->Rl C z { g with left:=g.left-1,td:=rest,n:=sN g.n _ (_T.num _ _ r),u:=g.u.filter λk=>decide (k≠.inr _) } (sN n _ _):=λI _ O=>by
  have e:=gZ J O;have B:=xG e;have f:iF r∈n.map (·.1):=by rw[R.k];exact B
  rw[R.num ok S e h];refine#[λy F=>?_,λy F=>?_,λi P=>?_,by rw[ju];exact R.k]
  .rw[ip (by rw[ok.n.keys];exact B),ip f]
   split
   .rfl
   rename_i c
   refine R.nk y λH=>F ?_;rw[Ur];exact#[H,decide_eq_true λz=>c (Sum.inr.inj z)]
  .have G:=Ur.mp F
   rw[ip f,if_neg (by lia)]
   exact R.nu y G.1
  refine R.pk i λH=>P ?_;rw[Ur];trivial
 cases r with
 |ifr x a b=>
  refine#[#[R.nk,R.nu,R.pk,R.k],?_];show (if nm _ x=0 then b else a)++rest=(if nm n x=0 then b else a)++rest
  rw[look x (by simp[fw])]
 |again x a=>
  refine#[#[R.nk,R.nu,R.pk,R.k],?_];show (if nm _ x=0 then rest else a++(.again x a::rest))=(if nm n x=0 then rest else a++(.again x a::rest))
  rw[look x (by simp[fw])]
 |_=>exact#[set _ rfl rfl,rfl]
theorem C5(o:C.Ok)(F:SOk C z):∀(f:Nat)(g:Gs)(n:cD),Rl C z g n->GOk C g->0<=g.left->g.left<f->∃B,Rl C z (bZ C f g).2 B/\fin (C.cf z) g.left.toNat n g.td=fin (C.cf z) (bZ C f g).2.left.toNat B (bZ C f g).2.td/\
  ((bZ C f g).1=bb->((bZ C f g).2.td=[]/\(UL C.mn:aC)∉(bZ C f g).2.u)\/((bZ C f g).2.td≠[]/\(bZ C f g).2.left<=0))
 |0,g,n,R,ok,h0,hf=>by lia
 |f+1,g,n,R,ok,h0,hf=>by
  unfold bZ;cases e:g.td with
  |nil=>
   refine#[n,R,by rw[e],λh=>.inl #[e,?_]]
   simp_all
  |cons r rest=>
   dsimp only;have G:f_ C.names C.w C.many r:=by
    have:=ok.td;rw[e]at this;exact this.1
   split
   .exact#[n,R,by rw[e],by lia]
   cases a:fK C g r with
   |some k=>exact#[n,R,by rw[e],by lia]
   |none=>
    obtain⟨R1,I⟩:=R.step ok F G a;have J:(pj C g rest r).left=g.left-1:=oq;obtain⟨B,R2,H,O⟩:=C5 o F f _ _ R1 (xV o ok e) (by lia) (by lia)
    refine#[B,R2,?_,O];rw[<- H,J,I];have:g.left.toNat=(g.left-1).toNat+1:=by lia
    rw[this];rfl
theorem Rl.set(R:Rl C z g n)(ok:GOk C g)(hq:q∈dZ C)(hu:q∈g.u):Rl C z (eP g q<|aH C z q) n:=by
 cases q with
 |inr x=>
  have hx:x∈C.names:=by
   rcases gW hq with⟨y,hy,e⟩|⟨i,_,e⟩
   .simp_all
   cases e
  refine#[λy hy=>?_,λy hy=>R.nu y (Ur.mp hy).1,λi hi=>R.pk i λhu=>hi (Ur.mpr<|by trivial),R.k]
  show nm (sN _ x _) y=_;rw[ip (by rw[ok.n.keys];exact hx)]
  split
  .rename_i c;subst c;exact(R.nu _ hu).symm
  exact R.nk y λhu=>hy (Ur.mpr<|by lia)
 |inl j=>
  obtain⟨i,hi,e⟩:∃i:Nat,i<C.many/\j=i:=by
   rcases gW hq with⟨y,hy,e⟩|⟨i,h,e⟩
   .cases e
   exact#[i,h,by lia]
  subst e;refine#[λy hy=>R.nk y λhu=>hy (Ur.mpr<|by trivial),λy hy=>R.nu y (Ur.mp hy).1,λk hk=>?_,R.k]
  show ((g.ps.set _ _)[k]?).getD 0=_;rw[Xx]
  split
  .rename_i c
   subst c;rw[if_pos (by rw[ok.lp];exact hi)]
   rfl
  exact R.pk k λhu=>hk (Ur.mpr<|by lia)
theorem yt(o:C.Ok)(hs:SOk C s)(ht:SOk C t)(P:SOk C z):∀(f:Nat)(g:Gs)(n:cD),(∀q∈g.u,aH C z q=aH C (if p q=true then t else s) q)->Rl C z g n->GOk C g->0<=g.left->g.left<=C.most->(∀x∈g.u,x∈dZ C)->g.u.length<f->
  N4 p (df C s t f g)=mkO C.mn (fin (C.cf z) g.left.toNat n g.td)
 |0,g,n,hp,R,ok,h0,hm,hu,hf=>by lia
 |f+1,g,n,hp,R,ok,h0,hm,hu,hf=>by
  obtain⟨n',R',e,O⟩:=C5 o P (C.most+1) g n R ok h0 (by lia)
  have I:=qG o (C.most+1) g ok;obtain⟨⟨T,F⟩,S,G⟩:=jT _ g;unfold df;rw[e];generalize bZ C _ g=go at *;obtain⟨a,H⟩:=go;dsimp only at *;cases a with
  |none=>
   unfold QW;rcases O rfl with⟨W,X⟩|⟨W,X⟩
   .rw[W,dz]
    show D.int _=D.int _;rw[R'.nk _ X]
   .have:H.left.toNat=0:=by lia
    rw[this];cases e3:H.td<;>trivial
  |some q=>
   have h:=G q rfl;have B:=hu q (F q h);have fl:=r9 h;have way:∀y:Sta,aH C z q=aH C y q->SOk C y->N4 p (df C s t f<|eP H q<|aH C y q)=mkO _ _:=λy hy ky=>by
    rw[<- hy]
    have:=yt o hs ht P f _ n' (λk Z=>by rw[eR]at Z;simp_all) (R'.set I B h) (sI I<|bG o P B) (by rw[fD];lia) (by rw[fD];lia)
     (λx Y=>by rw[eR]at Y;simp_all) (by rw[eR];lia)
    rw[fD]at this;have J:(eP H q<|aH C z q).td=H.td:=by cases q<;>rfl
    rw[J]at this;exact this
   show (if p q=true then N4 p _ else N4 p _)=_
   simp_all
theorem qu(f:C.names.length=nums.length)(h:x∉C.names):nm (C.names.zip nums) x=0:=by
 unfold nm gN;rw[List.find?_eq_none.mpr]
 .rfl
 intro q e;have:=(Wu e).1;lia
theorem wI(o:C.Ok)(B:SOk C s)(O:SOk C t)(h:SOk C z)(J:(aL C s t).length<24)(F:∀q∈dZ C,aH C z q=aH C (if p q=true then t else s) q):N4 p (C.tree s t)=C.mark z:=by
 rw[vc];have same:∀q∈dZ C,q∉aL C s t->aH C z q=aH C s q:=λq f I=>by
  rw[F q f];have:aH C s q=aH C t q:=Vw λc=>I (Ur.mpr #[f,decide_eq_true c])
  split
  .exact this.symm
  .rfl
 have:=yt (p:=p) o B O h 24 (g0 C s t) (C.names.zip z.nums) (λq f=>F q (sk q f)) #[λx G=>?_,λx _=>rfl,λi H=>?_,gh h.ln.symm] (Mt o B) (by show (0:Int)<=((C.most:Nat):Int);lia) (Xm _) sk J
 .have e:(g0 C s t).left.toNat=C.most:=rfl
  rw[e]at this;exact this
 .by_cases c:x∈C.names
  .exact(same (.inr x) (Ux.mpr<|.inl<|Ul.mpr #[x,c,rfl]) G).symm
  .show nm (C.names.zip s.nums) x=_
   rw[qu B.ln.symm c,qu h.ln.symm c]
 .show (s.pieces[i]?).getD 0=_
  by_cases c:i<C.many
  .have:=same (.inl (i:Int)) (Ux.mpr<|.inr<|Ul.mpr #[i,UJ.mpr c,rfl]) H
   exact this.symm
  .rw[Vj (by rw[B.lp];lia),Vj (by rw[h.lp];lia)]
theorem jZ:∀(f:Nat)(g:Gs),(df C s t f g).asks+1<=2 ^ g.u.length
 |0,g=>Nat.one_le_two_pow
 |f+1,g=>by
  obtain⟨⟨G,F⟩,_,h⟩:=jT (C:=C) (C.most+1) g;unfold df;generalize bZ C (C.most+1) g=go at *;obtain⟨a,B⟩:=go;dsimp only at *;cases a with
  |none=>exact Nat.one_le_two_pow
  |some q=>
   have J:=r9 (h q rfl);have H:=jZ f (eP B q<|aH C s q);have I:=jZ f (eP B q<|aH C t q);rw[eR]at H I;have e:2 ^ ((B.u.filter λk=>decide (k≠q)).length+1)<=2 ^ g.u.length:=UT (by decide) (by lia)
   rw[Nat.pow_succ]at e;show 1+_+_+1<=_;lia
theorem pW:1+(C.tree s t).asks<=2 ^ (aL C s t).length:=by
 have:=jZ (C:=C) (s:=s) (t:=t) 24 (g0 C s t);have e:(g0 C s t).u=aL C s t:=rfl;rw[e]at this;show 1+(df C s t 24 _).asks<=_;lia
end
structure OutOk(n:Nat)(x:Out):Prop where
 s:x.s<2 ^ n
 f:x.f<2 ^ n
 l:(aF x.f).length+(aF x.s).length<=n
theorem bU{b:Nat}(h:b<2 ^ n):i∈aF b↔i<n/\b.testBit i=true:=by
 rw[dF h,Ur,UJ]
def TrN:Tr->List aC->Prop
 |.e _,_=>True
 |.a q x y,u=>q∈u/\TrN x (u.filter λk=>decide (k≠q))/\TrN y (u.filter λk=>decide (k≠q))
theorem TrN.mono:∀{t:Tr}{u v:List aC},TrN t u->(∀k∈u,k∈v)->TrN t v
 |.e _,_,_,_,_=>trivial
 |.a q x y,u,v,h,s=>#[s q h.1,h.2.1.mono (by simp_all),h.2.2.mono<|by simp_all]
theorem wk{C:Cse}{s:Sta}:∀(f:Nat)(g:Gs),TrN (df C s t f g) g.u
 |0,_=>trivial
 |f+1,g=>by
  obtain⟨⟨_,e⟩,_,h⟩:=jT _ g;unfold df;generalize bZ C _ g=go at *;obtain⟨a,p⟩:=go;cases a with
  |none=>trivial
  |some q=>
   have w:∀v,TrN _ (g.u.filter λk=>decide (k≠q)):=λv=>by
    have:=wk (C:=C) (s:=s) (t:=t) f (eP p q v);rw[eR]at this;exact this.mono (by simp_all)
   exact#[by simp_all,w _,w _]
structure Wy(us:List aC)(u:List aC)(S F:Nat):Prop where
 s:S<2 ^ us.length
 f:F<2 ^ us.length
 sub:∀q∈u,q∈us
 no:∀q∈u,S.testBit (us.idxOf q)=cp/\F.testBit (us.idxOf q)=cp
 dis:∀i,¬(S.testBit i=true/\F.testBit i=true)
section
variable{b:Int}
theorem O0(e:q∈us):bitK us q<2 ^ us.length:=Nat.pow_lt_pow_right (by decide) (WB e)
theorem wL:(bitK us q).testBit i=decide (us.idxOf q=i):=by unfold bitK;grind
theorem J_(p:k∈us)(e:q∈us)(h:us.idxOf q=us.idxOf k):k=q:=by
 have f:=List.getElem_idxOf (WB e)
 simp_all
theorem Wy.swap(w:Wy us u S F):Wy us u F S:=#[w.f,w.s,w.sub,λq e=>(w.no q e).symm,λi h=>w.dis i h.symm]
theorem Wy.fa(w:Wy us u S F)(G:q∈u):Wy us (u.filter λk=>decide (k≠q)) S (F ||| bitK us q):=by
 have e:=w.sub q G;refine#[w.s,Nat.or_lt_two_pow w.f (O0 e),λk p=>w.sub k (Ur.mp p).1,λk p=>?_,λi h=>?_]
 .obtain⟨B,H⟩:=Ur.mp p
  refine#[(w.no k B).1,?_];rw[Yk,(w.no k B).2,wL];exact decide_eq_false λz=>(of_decide_eq_true H) (J_ (w.sub k B) e z)
 rw[Yk,wL]at h
 by_cases c:us.idxOf q=i
 .subst c;rw[(w.no q G).1]at h;exact absurd h.1 (by simp)
 rw[decide_eq_false c,W3]at h;exact w.dis i h
theorem Wy.so(w:Wy us u S F)(e:q∈u):Wy us (u.filter λk=>decide (k≠q)) (S ||| bitK us q) F:=(w.swap.fa e).swap
theorem u_{r:Nat->Bool}:∀(l:List Nat),(∀i,¬(p i=true/\r i=true))->(l.filter p).length+(l.filter r).length<=l.length
 |[],_=>by simp
 |i::l,h=>by
  have:=u_ l h;rw[UA,UA]
  split<;>split<;>simp_all<;>lia
theorem Wy.ok(w:Wy us u S F){v:Str}:OutOk us.length #[v,S,F]:=by
 refine#[w.s,w.f,?_];rw[dF w.f,dF w.s];have:=u_ (Ut us.length) λi h=>w.dis i h.symm
 simp_all
theorem sy:∀(t:Tr)(u:List aC)(S F:Nat),TrN t u->Wy us u S F->∀x∈g9 a b us t S F,OutOk us.length x
 |.e m,u,S,F,_,w,x,hx=>by
  have:x=#[jO a b m,S,F]:=by simpa [g9] using hx
  subst this;exact w.ok
 |.a q x y,u,S,F,h,w,o,ho=>by
  rcases Ux.mp ho with h1|h1
  .exact sy y _ _ _ h.2.2 (w.fa h.1) o h1
  exact sy x _ _ _ h.2.1 (w.so h.1) o h1
theorem Wy.zero(h:∀q∈u,q∈us):Wy us u 0 0:=#[Nat.two_pow_pos _,Nat.two_pow_pos _,h,λq _=>#[Nat.zero_testBit _,Nat.zero_testBit _],by simp_all]
end
section
variable{s:Sta}
theorem wd:TrN (C.tree s t) (aL C s t):=wk 24 _
end
theorem jq{a b:Int}{us:List aC}:∀(t:Tr){S F:Nat},(g9 a b us t S F).length=t.asks+1
 |.e m,S,F=>rfl
 |.a q x y,S,F=>by unfold g9 Tr.asks;rw[UC,jq x,jq y];lia
def flt(rs:List Rw):List Rw:=rs.filter bi
noncomputable def EY(d:D):Bool:=match d with
 |.tup (.str w::_)=>!(decide (w=("if":Str))||decide (w=("again":Str)))
 |_=>true
theorem PD(h:f_ names m many r):EY r.d=bi r:=by
 have e:∀w rest,EY (.tup (.str w::rest))=!(decide _||decide _):=λ_ _=>rfl
 cases r with
 |two w x y z=>
  simp[Rw.d,e,bi];rcases h.1 with rfl|rfl|rfl|rfl<;>decide +kernel
 |_=>rfl
theorem zi{names:aaV}{m many:Int}:∀{rs:List Rw},bg names m many rs->(aG rs).filter EY=aG (flt rs)
 |[],_=>rfl
 |r::rs,h=>by
  have e:=zi h.2;unfold flt at e ⊢;rw[aG,UA,UA,PD h.1,e]
  split<;>rfl
theorem wB{names:aaV}{m many:Int}:∀{rs:List Rw},bg names m many rs->bg names m many (flt rs)
 |[],_=>trivial
 |r::rs,h=>by
  have e:=wB h.2;unfold flt at e ⊢;rw[UA]
  split
  .exact#[h.1,e]
  exact e
theorem sL(h:f_ names m many r):∃(w:Str)(rest:List D),r.d=.tup (.str w::.str (iF r)::rest):=by
 cases r<;>exact#[_,_,rfl]
theorem ud(h:d∈aG rs):∃r∈rs,d=r.d:=by
 rw[ib]at h;obtain⟨r,e,rfl⟩:=Ul.mp h;exact#[r,e,rfl]
theorem j9{names:aaV}{m many:Int}:∀{rs:List Rw}{r:Rw},bg names m many rs->r∈rs->f_ names m many r
 |r::rs,q,h,hq=>by
  rcases Uj.mp hq with rfl|hq
  .exact h.1
  exact j9 h.2 hq
theorem qr(J:rs.length<=1000)(ok:bg names m many rs)(h:Q (.tup<|aG<|flt rs) M):uc ad [.tup (aG rs)] M Q E:=by
 refine dA EY id aK (by rw[bW];lia) (λx G K q=>?_) (λx G _ K q=>q) ?_
 .obtain⟨r,H,rfl⟩:=ud G
  obtain⟨w,rest,e⟩:=sL (j9 ok H);have I:EY r.d=!(decide (w="if")||decide (w="again")):=by rw[e];rfl
  rw[I]at q;rw[e];simp![atI_0];refine#[by trivial,λp B=>?_]
  rw[Mem.upd_del,au B];rcases Decidable.em (w="if") with c1|c1
  .subst c1
   assumption
  rcases Decidable.em (w="again") with c2|c2
  .subst c2
   assumption
  have f:¬"if"=w:=λz=>c1 z.symm;have F:¬"again"=w:=λz=>c2 z.symm;simpa [aR,c1,c2,f,F] using q
 intro p B;rw[Vu,zi ok];exact bM B (ak h)
theorem fV(f:Has k M)(G:2<=m)(B:m<=997)(F:0<=v/\v<m)(h:∀w M',0<=w->w<m->w≠v->Dr k M M'->Q (.int w) M'):mS ad [.ref k.p,.int m,.int v] M Q E:=by
 rw[RU];unfold yY;simp![];refine aN f (by lia) (by lia) λr M' a b d=>?_
 refine#[by lia,ak<|h _ _ (VE _<|by lia) (Vm _<|by lia) ?_ d]
 intro z
 by_cases c:v+1+r<m
 .rw[Int.emod_eq_of_lt (by lia) c]at z;lia
 have e:(v+1+r) % m=v+1+r-m:=by
  rw[<- Int.sub_emod_right,Int.emod_eq_of_lt (by lia) (by lia)]
 lia
def Il(C:Cse)(s t:Sta):D:=if (C.run s).1=true/\(C.run t).1=true then .tup [.int (nm (C.run s).2.nums C.mn),.int (nm (C.run t).2.nums C.mn)] else .non
theorem qB:∀(n:Nat)(f:Str->Int)(xs:aaV),fits n (xs.map λx=>D.int (f x))=true
 |n,f,[]=>by rfl
 |n,f,x::xs=>by
  have:=qB n f xs
  assumption
theorem J8{r:Bool×Sx}:cN 60 (dw names r)=true:=by
 unfold dw
 split
 .simp[cN,(qB 59 _ _)]
 rfl
theorem Ke{r:Bool×Sx}:aR (dw names r) .non=!r.1:=by
 unfold dw;cases r.1<;>rfl
theorem wE{r:Bool×Sx}(e:r.1=true)(f:names[j]?=ap mk):∃xs,dw names r=.tup xs/\fE xs (j:Int)=ap (.int<|nm r.2.nums mk):=by
 refine#[_,by unfold dw;rw[if_pos e],?_]
 rw[bJ (by lia),UM,Um,f];rfl
section
variable{s:Sta}
theorem RX(o:C.Ok)(e:SOk C z)(h:K (dw C.names<|C.run z) M):
  ah av (qd<|aj (og ad) EE 3<|aa (ac 1)<|aa (ac 0)<|aa (ac 2) ag) (dC<|.int 1) [ap z.d,ap C.d,ap (.int (C.most:Nat))] M K:=by
 rw[e.pd];refine#[rfl,kF (o.pl e) ?_]
 assumption
theorem eD(o:C.Ok)(X:SOk C s)(Y:SOk C t)(h:Q (Il C s t) M):oJ ad [C.d,s.d,t.d,.int (C.most:Nat)] M Q E:=by
 rw[RG];unfold yd;generalize B:lW ad _=K3;generalize F:(ah _ _ _)=te;have I:∀{z:Sta}{K:DK},SOk C z->K _ M->te _ M K:=λ{z K} O q=>by
  rw[<- F];exact RX o O q
 refine#[bj (by simp),λp H=>bM H ?_]
 refine#[aK,?_];refine I X #[by trivial,?_]
 refine#[aK,?_];refine I Y #[fC (by simp),?_]
 refine#[aK,λp H=>?_]
 simp_arith! only[UB,UH,Uy,dt,TZ,fJ,Mem.upd_same,Mem.upd_del,au H]
 rw[<- B];unfold lW;generalize f:l_ ad _=K2;unfold Il at h;have W:fits 60 [dw C.names (C.run s),dw C.names (C.run t)]=true:=by simp[fits,J8]
 simp_arith! only[ai,aE,al,ah,dC,ac,dt,TZ,vI,iD,aQ,dv,W,Wo,List.any_nil,Ke,W3]
 by_cases c:(C.run s).1=true/\(C.run t).1=true
 .rw[if_pos c]at h
  simp[c.1,c.2];rw[<- f];unfold l_;generalize G:tV ad _=K1;obtain⟨j,T,e⟩:=oj o.mn;obtain⟨xs,S,J⟩:=wE c.1 e;obtain⟨Z,R,P⟩:=wE c.2 e;rw[(@DQ C)];simp![atI_1,atI_4,dX,T];rw[<- G];simp![atI_0,atI_1,S,R,J,P];exact#[Uu o.l1 (by decide),by trivial,ak h]
 rw[if_neg c]at h;have:(!(C.run s).1||!(C.run t).1)=true:=by
  cases h1:(C.run s).1<;>cases h2:(C.run t).1<;>simp_all
 simp[this,dC];exact ak h
theorem lT(h:Q (Il C s t) M):frz (Il C s t) M Q:=by
 unfold Il at h ⊢
 split at h
 .rename_i c;rw[if_pos c];exact h
 rename_i c;rw[if_neg c];exact h
end
theorem JZ{n:cD}:t8 cf n (rs++rest) r=((t8 cf n rs r).1,(t8 cf n rs r).2++rest):=by
 cases r with
 |ifr x a b=>simp[t8]
 |again x a=>
  simp only[t8]
  split<;>simp
 |_=>rfl
theorem lZ:∀(k:Nat)(n:cD)(rs:List Rw)(f:cD),fin cf k n rs=ap f->∀(e:Nat)(rest:List Rw),∃j,e<=j/\fin cf (k+e) n (rs++rest)=fin cf j f rest
 |k,n,[],f,h,e,rest=>by
  rw[dz]at h;cases h;exact#[_,by lia,rfl]
 |0,n,r::rs,f,h,e,rest=>by cases h
 |k+1,n,r::rs,f,h,e,rest=>by
  obtain⟨j,B,p⟩:=lZ k _ _ _ h e _;refine#[j,B,?_];have:k+1+e=(k+e)+1:=by lia
  rw[this,UH];show fin cf (k+e) _ _=_;rw[JZ];exact p
theorem stp_cf{n:cD}:t8 #[m,ps,k1] n rest r=t8 #[m,ps,k2] n rest r:=by rfl
theorem GL{m:Int}:∀(k:Nat)(n:cD)(rs:List Rw),fin #[m,ps,k1] k n rs=fin #[m,ps,k2] k n rs
 |k,n,[]=>by rw[dz,dz]
 |0,n,r::rs=>rfl
 |k+1,n,r::rs=>by
  exact GL k _ _
def fz(cf:Cf)(n:cD)(rs:List Rw):cD:=rs.foldl (λn r=>sN n (iF r) (num cf n r)) n
theorem m4:∀(rs:List Rw)(k:Nat)(n:cD),(∀r∈rs,bi r=true)->rs.length<=k->fin cf k n rs=ap (fz cf n rs)
 |[],k,n,_,_=>dz
 |r::rs,0,n,_,h=>by simp at h
 |r::rs,k+1,n,hs,h=>by
  have f:=hs r (by simp_all)
  have e:t8 cf n rs r=(sN n (iF r) (num cf n r),rs):=by
   cases r<;>trivial
  show fin cf k _ _=_;rw[e];exact m4 rs k _ (by simp_all) (by simpa using h)
theorem JW{n:cD}:∀(rs:List Rw),(fz cf n rs).map (·.1)=n.map (·.1):=by
 intro rs
 induction rs generalizing n with
 |nil=>rfl
 |cons r rs ih=>
  show (fz cf _ rs).map _=_;rw[ih,ju]
theorem MK{y:Str}:∀(rs:List Rw)(n:cD),(∀r∈rs,iF r∈n.map (·.1))->(∀r∈rs,iF r≠y)->nm (fz cf n rs) y=nm n y
 |[],n,_,_=>rfl
 |r::rs,n,hk,hn=>by
  show nm (fz cf _ rs) y=_;rw[MK rs _ (λq e=>by rw[ju];simp_all) (by simp_all),ip (by simp_all),if_neg λz=>hn r (by simp_all) z.symm]
theorem Ea{q:Int}(hp:0<=p/\p<m)(hq:0<=q/\q<m)(h:p≠q):(a+p) % m≠(a+q) % m:=by
 intro z;obtain⟨c,hc⟩:=(Int.dvd_of_emod_eq_zero<|Int.emod_eq_emod_iff_emod_sub_eq_zero.mp z);have:c=0:=by
  rcases Int.lt_trichotomy c 0 with g|g|g
  .have:=XW (show c<=-1 by lia) (show 0<=m by lia)
   lia
  .exact g
  .have:=XW (by trivial) (show 0<=m by lia)
   lia
 subst this;lia
noncomputable def Cse.rw(C:Cse)(rs:List Rw):Cse:={ C with rows:=rs }
def Cse.two(C:Cse)(s t:Sta):Prop:=∃a b,C.mark s=.int a/\C.mark t=.int b/\a≠b
section
variable{n:cD}
theorem zT(o:C.Ok)(e:SOk C z):NOk C.names C.w (C.run z).2.nums:=dq (o.pl e).co _ (o.pl e).ok [] 0 _ (o.pl e).nok
theorem A3(h:(C.run z).1=true):fin (C.cf z) C.most (C.names.zip z.nums) C.rows=ap (C.run z).2.nums:=by
 have e:=iz (cf:=C.cf z) C.rows [] 0 #[C.names.zip z.nums,[]] [];rw[U0]at e;have f:fin _ C.most _ _=CS _ (C.run z) []:=e;rw[f];unfold CS;rw[if_pos h,dz]
theorem m9{n:cD}(h:fin (C.cf z) C.most (C.names.zip z.nums) C.rows=ap n):(C.run z).1=true/\(C.run z).2.nums=n:=by
 have e:=iz (cf:=C.cf z) C.rows [] 0 #[C.names.zip z.nums,[]] [];rw[U0]at e;have f:fin _ C.most _ _=CS _ (C.run z) []:=e;rw[f]at h;unfold CS at h
 split at h
 .rw[dz]at h
  simp_all
 cases h
theorem fj{n:cD}(h:fin (C.cf z) C.most (C.names.zip z.nums) C.rows=ap n):C.mark z=.int (nm n C.mn):=by
 rw[vc,h];rfl
theorem qi(h:fin (C.cf z) (C.most-4) (C.names.zip z.nums) C.rows=ap n)(G:4<=C.most)(p:∀r∈more,bi r=true)(F:more.length<=4):(C.rw (C.rows++more)).mark z=.int (nm (fz (C.cf z) n more) C.mn):=by
 obtain⟨j,B,e⟩:=lZ _ _ _ _ h 4 more;have f:C.most-4+4=C.most:=by lia
 rw[f,m4 more j n p (by lia)]at e
 exact fj (C:=C.rw (C.rows++more)) e
end
def oW(y:Str)(rs:List Rw):List Rw:=rs.filter λr=>decide (iF r≠y)
noncomputable def IE(y:Str)(d:D):Bool:=match d with
 |.tup (_::.str x::_)=>decide (x≠y)
 |_=>true
theorem uE{names:aaV}{m many:Int}{y:Str}:∀{rs:List Rw},bg names m many rs->(aG rs).filter (IE y)=aG (oW y rs)
 |[],_=>rfl
 |r::rs,h=>by
  have f:=uE (y:=y) h.2;obtain⟨w,rest,e⟩:=sL h.1;have p:IE y r.d=decide (iF r≠y):=by rw[e];rfl
  unfold oW at f ⊢;rw[aG,UA,UA,p,f]
  split<;>rfl
theorem zd{names:aaV}{m many:Int}:∀{rs:List Rw},bg names m many rs->bg names m many (rs.filter p)
 |[],_=>trivial
 |r::rs,h=>by
  have e:=zd (p:=p) h.2;rw[UA]
  split
  .exact#[h.1,e]
  exact e
theorem Dm:∀{rs:List Rw},bg names m many rs->(∀r∈rs,bi r=true)->∀r∈rs,de names m many r:=λh f r e=>gZ (j9 h e) (f r e)
theorem gD:∀{rs:List Rw},(∀r∈rs,bi r=true)->dy rs=0
 |[],_=>rfl
 |r::rs,h=>by
  have p:=h r (by simp_all)
  have f:=gD λq e=>h q (Ui _ e);cases r<;>trivial
theorem rZ:∀r∈flt rs,bi r=true:=λr e=>(Ur.mp e).2
theorem ia:∀r∈oW y (flt rs),bi r=true:=λr e=>rZ r (Ur.mp e).1
theorem Gw{a b c:D}:oC [a,b,c,d,e] bb (ap 3)=[a,b,c]:=rfl
section
variable{s:Sta}
theorem Cse.Ok.rw(o:C.Ok)(f:bg C.names C.w C.many rs)(e:dy rs<=7):(C.rw rs).Ok:=#[o.m2,o.m1,o.few,o.most,o.nd,o.l0,o.l1,f,e,o.mn]
theorem SOk.rw(k:SOk C s):SOk (C.rw rs) s:=#[k.ln,k.lp,k.rn,k.rp]
theorem mM(o:C.Ok)(f:∀r∈rs,bi r=true)(e:rs.length<=C.most):fin ((C.rw rs).cf z) (C.rw rs).most (C.names.zip z.nums) (C.rw rs).rows=ap (fz (C.cf z) (C.names.zip z.nums) rs):=m4 rs _ _ f e
theorem Dw(o:C.Ok)(f:∀r∈rs,bi r=true)(e:rs.length<=C.most):(C.rw rs).mark z=.int (nm (fz (C.cf z) (C.names.zip z.nums) rs) C.mn):=fj (mM o f e)
theorem GB{n:cD}(G:fin (C.cf s) C.most (C.names.zip s.nums) C.rows=ap n)(F:fin (C.cf t) C.most (C.names.zip t.nums) C.rows=ap e):Il C s t=.tup [.int (nm n C.mn),.int (nm e C.mn)]:=by
 obtain⟨p,h⟩:=m9 G;obtain⟨f,B⟩:=m9 F;unfold Il;rw[if_pos #[p,f],h,B]
theorem ne_e{w:D}{rest:List D}(q:K (!decide (x=y)) M):al (ah pG (ah av (ac 0)<|dC<|.int 1)<|ac 1) [ap (.tup (w::.str x::rest)),ap (.str y)] M K:=by
 trivial
theorem wa(o:C.Ok)(hs:SOk C s)(ht:SOk C t)(hy:y∈C.names)(hn:aH C s (.inr y)≠aH C t (.inr y))(hrl:C.rows.length<=1000)(hl:(flt C.rows).length+1<=C.most)(h:∀rs,(C.rw rs).Ok->(C.rw rs).two s t->(∀r∈rs,bi r=true)->rs.length<=(flt C.rows).length+1->Q (C.rw rs).d M):yq ad [C.d,s.d,t.d,.int (C.most:Nat),.str y] M Q E:=by
 have X:=@DQ C;have H:∀rs,(C.rw rs).d=.tup [.int C.w,.tup (C.names.map D.str),.int (C.many:Nat),.tup (aG rs),.str C.mn]:=λ_=>rfl;have B:=wB o.ok;have F:bg C.names C.w C.many (oW y<|flt C.rows):=zd B;have ln:(oW y<|flt C.rows).length<=(flt C.rows).length:=UK _ _;have lf:(flt C.rows).length<=C.rows.length:=UK _ _;have o1:=o.rw F (by rw[gD ia];decide)
 have f1:=mM (z:=s) o ia (show (oW y<|flt C.rows).length<=C.most by lia)
 have f2:=mM (z:=t) o ia (show (oW y<|flt C.rows).length<=C.most by lia)
 have em:=GB (C:=C.rw (oW y<|flt C.rows)) f1 f2;have rk:∀(z:Sta),SOk C z->∀r∈oW y (flt C.rows),iF r∈(C.names.zip z.nums).map (·.1):=λz I r G=>by
  rw[gh I.ln.symm];exact xG (Dm F ia r G)
 have ny:∀(z:Sta),SOk C z->nm (fz (C.cf z) (C.names.zip z.nums)<|oW y<|flt C.rows) y=aH C z (.inr y):=λz I=>MK _ _ (rk z I) λr G=>of_decide_eq_true (Ur.mp G).2;rw[T9];unfold zr;generalize Z:lJ ad (aJ E)=K5;rw[X];refine#[rfl,aI (λ_ _ q=>qr hrl o.ok q) ?_];refine dA (IE y) id aK (by rw[bW];lia) (λx hx K q=>?_) (λx hx _ K q=>q) ?_
 .obtain⟨r,G,rfl⟩:=ud hx
  obtain⟨w,rest,e⟩:=sL (j9 B G);have e2:IE y r.d=decide (iF r≠y):=by rw[e];rfl
  rw[e2]at q;rw[e];exact ne_e (by simpa [aR] using q)
 intro p hp;rw[Vu,uE B];rw[<- Z];unfold lJ;generalize W:mr ad (aJ E)=K4;simp![Mem.upd_del,au hp,Gw,atI_4];refine#[bj (by decide),bj (by decide),?_]
 rw[<- W];unfold mr;generalize R:la ad (aJ E)=K3;rw[<- H];refine#[rfl,aI (λ_ _ q=>eD (C:=C.rw (oW y<|flt C.rows)) o1 hs.rw ht.rw q)<|lT ?_];rw[em];simp only[af,Uy];rw[<- R];unfold la;generalize O:lq ad (aJ E)=K2;simp![atI_0,atI_1];generalize S:fz (C.cf s) (C.names.zip s.nums) (oW y<|flt C.rows)=ns at *;generalize T:fz (C.cf t) (C.names.zip t.nums) (oW y<|flt C.rows)=nt' at *;have P:(C.rw<|oW y<|flt C.rows).mn=C.mn:=rfl;rw[P]
 by_cases c:nm ns C.mn=nm nt' C.mn
 .simp only[if_pos c]
  rw[<- O];unfold lq;generalize Y:lI ad (aJ E)=K1;rw[H];simp![atI_4];refine#[bj (by decide),?_]
  rw[<- Y];unfold lI;simp![Gw,atI_4,bW];refine#[bj (by decide),bj (by lia),bj (by decide),bj (by decide),ak ?_]
  have er:aG (oW y<|flt C.rows)++[D.tup [.str "sum",.str C.mn,.str C.mn,.str y]]=aG (oW y (flt C.rows)++[.two "sum" C.mn C.mn y]):=by
   rw[bP];rfl
  rw[er,<- H];have f:∀r∈oW y (flt C.rows)++[.two "sum" C.mn C.mn y],bi r=true:=λr G=>by
   rcases Ux.mp G with h|h
   .exact ia r h
   .simp only[WI]at h;subst h;rfl
  have ok2:bg C.names C.w C.many (oW y (flt C.rows)++[.two "sum" C.mn C.mn y]):=OkRs_append.mpr #[F,#[#[.inl rfl,o.mn,o.mn,hy],trivial]];refine h _ (o.rw ok2<|by rw[gD f];decide) ?_ f (by simp_all)
  have g:∀(z:Sta),SOk C z->(C.rw _).mark z=.int ((nm (fz (C.cf z) (C.names.zip z.nums)<|oW y<|flt C.rows) C.mn+aH C z (.inr y)) % C.w):=λz I=>by
   refine (Dw o f<|by rw[UC,Vy];lia).trans ?_
   have e:fz (C.cf z) (C.names.zip z.nums) (oW y (flt C.rows)++[.two "sum" C.mn C.mn y])=sN (fz (C.cf z) (C.names.zip z.nums)<|oW y<|flt C.rows) C.mn (num (C.cf z) (fz (C.cf z) (C.names.zip z.nums)<|oW y<|flt C.rows)<|.two "sum" C.mn C.mn y):=by
    unfold fz;rw[List.foldl_append];rfl
   rw[e];rw[ip (by rw[JW,gh I.ln.symm];exact o.mn),if_pos rfl]
   show D.int (A9 "sum" _ _ _)=_;unfold A9;rw[if_pos rfl,ny z I];rfl
  refine#[_,_,g s hs,g t ht,?_];rw[S,T,c];have J:(UL y:aC)∈dZ C:=Ux.mpr (.inl<|Ul.mpr #[y,hy,rfl]);exact Ea (bG o hs J) (bG o ht J) hn
 .simp only[if_neg c]
  refine ak (h _ o1 #[_,_,?_,?_,c] ia<|by lia)
  .exact fj f1
  .exact fj f2
end
theorem pM:∀(n:Nat)(xs:aaV),fits n (xs.map D.str)=true
 |n,[]=>by rfl
 |n,x::xs=>by
  have:=pM n xs
  assumption
section
variable{s:Sta}
theorem ne_m(q:K (!decide (x=e)) M):al (ah pG (ac 0)<|ah av (ac 1)<|dC<|.int 4) [ap (.str x),ap (.tup [p,B,f,h,.str e])] M K:=by
 trivial
theorem LH{xs:aaV}{b:Bool}(F:b=!xs.isEmpty)(q:K b M):al (ah pG (ac 2)<|ao<|bw ag) [e,f,ap (.lst<|xs.map D.str)] M K:=by
 refine#[by trivial,λp h=>bM h ?_]
 have B:fits 59 []=true:=rfl;simp only[pG,dv,cN,(pM 59 xs),B];refine#[trivial,trivial,?_];rw[F]at q;cases xs<;>assumption
theorem xm:∀r∈[Rw.take h 0,.two "sum" f f h],bi r=true:=by
 intro r e;simp at e;rcases e with rfl|rfl<;>rfl
theorem tS(o:C.Ok)(hs:SOk C s)(ht:SOk C t)(h0:0<C.many)(hn:aH C s (.inl 0)≠aH C t (.inl 0))(hrl:C.rows.length<=1000)(h4:4<=C.most)(Z:fin (C.cf s) (C.most-4) (C.names.zip s.nums) C.rows=ap n1)(f2:fin (C.cf t) (C.most-4) (C.names.zip t.nums) C.rows=ap n2)(k1:n1.map (·.1)=C.names)(k2:n2.map (·.1)=C.names)(he:nm n1 C.mn=nm n2 C.mn)(h:∀more,(C.rw (C.rows++more)).Ok->(C.rw (C.rows++more)).two s t->(∀r∈more,bi r=true)->more.length<=2->Q (C.rw (C.rows++more)).d M):Ji ad [C.d] M Q E:=by
 have J:=@DQ C;have I:∀rs,(C.rw rs).d=.tup [.int C.w,.tup (C.names.map D.str),.int (C.many:Nat),.tup (aG rs),.str C.mn]:=λ_=>rfl;have l1:=o.l1;have H:(Vz 0:aC)∈dZ C:=Ux.mpr (.inr<|by simp_all)
 have Y:∀more:List Rw,(∀r∈more,bi r=true)->bg C.names C.w C.many more->(C.rw (C.rows++more)).Ok:=λmore e R=>o.rw (OkRs_append.mpr #[o.ok,R]) (by rw[dY,gD e];have:=o.h;lia)
 rw[u_q7];unfold Ju;generalize O:tF ad (aJ E)=K4;rw[J];simp![atI_4];refine#[bj (by decide),bj (by decide),?_]
 rw[<- O];unfold tF;generalize S:rO ad (aJ E)=K3;refine dA (λd=>match d with|.str x=>!decide (x=C.mn)|_=>true) id aK (by rw[Ub];lia) (λx F K q=>?_) (λx F _ K q=>q) ?_
 .obtain⟨y,hy,rfl⟩:=Ul.mp F
  exact ne_m q
 intro p hp;have ef:((C.names.map D.str).filter λd=>match d with|.str x=>!decide (x=C.mn)|_=>true)=(C.names.filter λx=>!decide (x=C.mn)).map D.str:=by
  rw[Vb];rfl
 rw[Vu,ef]
 simp_arith! only[fJ,Uy,dt,TZ,Mem.upd_same,Mem.upd_del,au hp]
 rw[<- S];unfold rO;generalize G:mH ad (aJ E)=K2;generalize P:rE ad (aJ E)=K1;cases hf:C.names.filter λx=>!decide (x=C.mn) with
 |nil=>
  unfold ai aE;refine LH (b:=cp) rfl ?_;rw[if_neg (by simp),<- G]
  unfold mH;simp![Gw,atI_3,atI_4,bW];refine#[bj (by lia),bj (by decide),bj (by decide),ak ?_]
  have T:aG C.rows++[D.tup [.str "take",.str C.mn,.int 0]]=aG (C.rows++[.take C.mn 0]):=by rw[bP];rfl
  rw[T,<- I];have e:∀r∈[Rw.take C.mn 0],bi r=true:=λr X=>by simp only[WI]at X;subst X;rfl
  have g:∀(z:Sta)(n:cD),fin (C.cf z) (C.most-4) (C.names.zip z.nums) C.rows=ap n->n.map (·.1)=C.names->(C.rw (C.rows++[.take C.mn 0])).mark z=.int (aH C z<|.inl 0):=λz n f k=>by
   refine (qi f h4 e<|by simp).trans ?_
   have:nm (fz (C.cf z) n [.take C.mn 0]) C.mn=aH C z (.inl 0):=by
    show nm (sN n C.mn _) C.mn=_;rw[ip (by rw[k];exact o.mn),if_pos rfl];rfl
   rw[this]
  exact h _ (Y _ e #[#[o.mn,Xm _,by lia],trivial]) #[_,_,g s n1 Z k1,g t n2 f2 k2,hn] e (by simp)
 |cons x0 xs=>
  have F:x0∈C.names.filter λx=>!decide (x=C.mn):=by rw[hf];exact Uw
  have B:=(Ur.mp F).1;have W:¬x0=C.mn:=by simpa using (Ur.mp F).2
  unfold ai aE;refine LH (b:=true) rfl ?_;rw[if_pos rfl,<- P];unfold rE;rw[Ud];simp![atI_0,atI_4];refine#[bj (by decide),bj (by decide),bj (by decide),?_]
  rw[<- G];unfold mH;simp![Gw,atI_3,atI_4,bW];refine#[bj (by lia),bj (by decide),bj (by decide),ak ?_]
  have T:aG C.rows++[D.tup [.str "take",.str x0,.int 0],D.tup [.str "sum",.str C.mn,.str C.mn,.str x0]]=aG (C.rows++[.take x0 0,.two "sum" C.mn C.mn x0]):=by rw[bP];rfl
  rw[T,<- I];have g:∀(z:Sta)(n:cD),fin (C.cf z) (C.most-4) (C.names.zip z.nums) C.rows=ap n->n.map (·.1)=C.names->(C.rw (C.rows++[.take x0 0,.two "sum" C.mn C.mn x0])).mark z=.int _:=λz n f k=>by
   refine (qi f h4 xm<|by simp).trans ?_
   have:nm (fz (C.cf z) n [.take x0 0,.two "sum" C.mn C.mn x0]) C.mn=(nm n C.mn+aH C z (.inl 0)) % C.w:=by
    show nm (sN (sN n x0<|aH C z<|.inl 0) C.mn<|A9 "sum" _ (nm (sN n x0<|aH C z<|.inl 0) x0) C.w) C.mn=_;rw[ip (by rw[ju,k];exact o.mn),if_pos rfl,ip (by rw[k];exact B),ip (by rw[k];exact B),if_neg λz=>W z.symm,if_pos rfl]
    unfold A9;rw[if_pos rfl]
   rw[this]
  refine h _ (Y _ xm #[#[B,Xm _,by lia],#[.inl rfl,o.mn,o.mn,B],trivial]) #[_,_,g s n1 Z k1,g t n2 f2 k2,?_] xm (by simp)
  rw[he];exact Ea (bG o hs H) (bG o ht H) hn
end
theorem vd:∀(rs:List Rw),cRs (rs.filter p)<=cRs rs
 |[]=>Uk _
 |r::rs=>by
  have:=vd (p:=p) rs;rw[UA]
  split
  .simp[cRs];lia
  simp[cRs];lia
theorem rR:∀(rs:List Rw),rs.length<=cRs rs
 |[]=>Uk _
 |r::rs=>by
  have:=rR rs;have:1<=cR r:=by cases r<;>simp[cR]<;>lia
  simp[cRs];lia
theorem sf:∀{rs:List Rw},(∀r∈rs,bi r=true)->cRs rs=rs.length
 |[],_=>rfl
 |r::rs,h=>by
  have p:=h r (by simp_all)
  have f:=sf λq e=>h q (Ui _ e);cases r with
  |ifr=>trivial
  |again=>trivial
  |_=>simp[cRs,cR];lia
section
variable{s:Sta}
def Tk(C:Cse)(s t:Sta)(fi:Nat):Prop:=if fi<C.names.length then ∀y,C.names[fi]?=ap y->aH C s (.inr y)≠aH C t (.inr y) else aH C s (.inl 0)≠aH C t (.inl 0)
theorem P9(o:C.Ok)(O:SOk C s)(J:SOk C t)(S:0<C.many)(hc:cRs C.rows<=24)(X:30<=C.most)(f:Tk C s t fi)(I:M ln=ap (.lst<|t.nums.map D.int))(W:fin (C.cf s) (C.most-4) (C.names.zip s.nums) C.rows=ap n1)(Y:fin (C.cf t) (C.most-4) (C.names.zip t.nums) C.rows=ap n2)(k1:n1.map (·.1)=C.names)(k2:n2.map (·.1)=C.names)(T:nm n1 C.mn=nm n2 C.mn)(h:∀rs,(C.rw rs).Ok->(C.rw rs).two s t->cRs rs<=26->∀e,D'.nx [d0,d1,d2,ap (C.rw rs).d,ap s.d,ap (.ref ln),d6,ap (.int (fi:Nat)),d8,d9,d10,ap t.d,ap (.int (C.most:Nat)),e] M):
  ∀e,jp ad EE D' [d0,d1,d2,ap C.d,ap s.d,ap (.ref ln),d6,ap (.int (fi:Nat)),d8,d9,d10,ap t.d,ap (.int (C.most:Nat)),e] M:=by
 intro e;have lr:=rR C.rows;have lf:(flt _).length<=C.rows.length:=UK _ _;have fd:∀{rs:List Rw}{M:Mem}{Q:DK},Q _ M->frz (C.rw rs).d M Q:=λq=>q;unfold jp;have Z:=J.ln
 simp_arith! only[aE,al,ah,ac,bn,aa,dt,TZ,cC,aQ,I,lj]
 unfold Tk at f
 by_cases c:fi<C.names.length
 .rw[if_pos c]at f
  rw[if_pos (by simp;lia)]
  obtain⟨y,F⟩:∃y,C.names[fi]?=ap y:=#[_,Uc c];have P:fE (C.names.map D.str) fi=ap (.str y):=by rw[bJ (by lia),UM,Um,F];rfl
  unfold mI
  simp_arith! only[aq,ao,aj,aa,ac,ah,dC,dt,TZ,(@DQ C),av,aQ,atI_1,P]
  refine#[rfl,am λQ' E' H _=>wa o O J (Vf F) (f y F) (by lia) (by lia) λrs G B p R=>H _ _ (fd ?_)]
  exact h rs G B (by rw[sf p];lia) _
 .rw[if_neg c]at f
  rw[if_neg (by simp;lia)]
  exact#[rfl,am λQ' E' H _=>tS o O J S f (by lia) (by lia) W Y k1 k2 T λmore G B p R=>H _ _ (fd<|h _ G B (by rw[dP,sf p];lia) _)]
theorem Ed(o:C.Ok)(G:SOk C s)(H:SOk C t)(Y:0<C.many)(hc:cRs C.rows<=24)(I:30<=C.most)(Z:Tk C s t fi)(F:M ln=ap (.lst<|t.nums.map D.int))(J:fin (C.cf s) (C.most-4) (C.names.zip s.nums) C.rows=ap n1)(O:fin (C.cf t) (C.most-4) (C.names.zip t.nums) C.rows=ap n2)(h:∀rs,(C.rw rs).Ok->(C.rw rs).two s t->cRs rs<=26->D'.rt (bo (C.rw rs) s t) M):
  jy ad EE D' [d0,d1,d2,ap C.d,ap s.d,ap (.ref ln),d6,ap (.int (fi:Nat)),d8,d9,d10,ap t.d,ap (.int (C.most:Nat)),bb] M:=by
 obtain⟨j1,_,B⟩:=lZ _ _ _ _ J 4 [];obtain⟨j2,_,p⟩:=lZ _ _ _ _ O 4 [];have R:C.most-4+4=C.most:=by lia
 rw[R,U0,dz]at B p;have W:=GB B p;have P:=m9 B;have T:=m9 p;have X:n1.map (·.1)=C.names:=by rw[<- P.2];exact(zT o G).keys
 have S:n2.map (·.1)=C.names:=by rw[<- T.2];exact(zT o H).keys
 have e:∀rs,(C.rw rs).Ok->(C.rw rs).two s t->cRs rs<=26->∀f,iW ad EE D' [d0,d1,d2,ap (C.rw rs).d,ap s.d,ap (.ref ln),d6,ap (.int (fi:Nat)),d8,d9,d10,ap t.d,ap (.int (C.most:Nat)),f] M:=λrs a b c f=>by
  unfold iW
  simp_arith! only[az,aU,aa,ac,ag,dt,TZ]
  exact#[bj (by simp),h rs a b c]
 unfold jy
 simp_arith! only[ai,aq,ao,aj,aa,ag,ac,dt,TZ]
 refine#[rfl,aI (λ_ _ q=>eD o G H q)<|lT ?_];rw[W];simp only[af,Uy];unfold mB
 simp_arith! only[ai,aE,al,ah,ac,dC,dt,TZ,av,aQ,atI_0,atI_1,bR,dv,cN,aR]
 refine#[trivial,trivial,?_]
 by_cases c:nm n1 C.mn=nm n2 C.mn
 .rw[if_pos (by simpa using c)]
  exact P9 o G H Y hc I Z F J O X S c e _
 .rw[if_neg (by simpa using c)]
  simp only[aB];exact e C.rows o #[_,_,fj B,fj p,c] (by lia) _
theorem PK(o:C.Ok)(f:SOk C s)(p:SOk C t)(P:0<C.many)(S:cRs C.rows<=24)(F:30<=C.most)(R:Tk C s t fi)(B:M ln=ap (.lst<|t.nums.map D.int))(h:∀rs,(C.rw rs).Ok->(C.rw rs).two s t->cRs rs<=26->D'.rt (bo (C.rw rs) s t) M):
  jk ad EE D' [d0,d1,d2,ap C.d,ap s.d,ap (.ref ln),d6,ap (.int (fi:Nat)),d8,d9,d10,ap t.d,ap (.int (C.most:Nat)),bb] M:=by
 have W:=@DQ C;have lr:=rR C.rows;have lf:(flt _).length<=C.rows.length:=UK _ _;generalize e:({ C with most:=C.most-4 })=C4;have Y:C4.Ok:=by subst e;exact#[o.m2,o.m1,o.few,by show C.most-4<=_;have:=o.most;lia,o.nd,o.l0,o.l1,o.ok,o.h,o.mn]
 have T:SOk C4 s:=by subst e;exact#[f.ln,f.lp,f.rn,f.rp]
 have t4:SOk C4 t:=by subst e;exact#[p.ln,p.lp,p.rn,p.rp]
 have H:C4.d=C.d:=by subst e;rfl
 have X:(C.most:Int)-4=C4.most:=by subst e;show _=((C.most-4:Nat):Int);lia
 have Z:∀z,fin (C4.cf z) C4.most (C4.names.zip z.nums) C4.rows=fin (C.cf z) _ (C.names.zip z.nums) _:=λz=>by
  subst e;exact GL _ _ _
 have G:=wB o.ok;have of:=o.rw G (by rw[gD rZ];decide)
 unfold jk
 simp_arith! only[ai,aE,al,ah,ao,aj,aa,ac,dC,dt,TZ,lj,X]
 rw[<- H];refine#[rfl,aI (λ_ _ q=>eD Y T t4 q)<|lT ?_];rw[H];unfold Il
 by_cases c:(C4.run s).1=true/\(C4.run t).1=true
 .rw[if_pos c]
  have O:=A3 c.1;have I:=A3 c.2;rw[Z]at O I;exact Ed o f p P S F R B O I h
 .rw[if_neg c]
  refine#[rfl,aI (λ_ _ q=>qr (by lia) o.ok q) ?_]
  simp_arith! only[Gw]
  refine#[bj (by simp),bj (by simp),?_]
  have J:∀z,fin ((C.rw<|flt C.rows).cf z) _ (C.names.zip z.nums) (flt C.rows)=ap _:=λz=>m4 _ _ _ rZ (by show _<=C.most-4;lia)
  exact Ed of f.rw p.rw P (Uu (vd _) S) F R B (J s) (J t) h
end
noncomputable def gA(xs:aaU)(i:Nat):Int:=(xs[i]?).getD 0
def He(xs ys:aaU):Nat:=((Ut xs.length).filter λi=>decide (gA xs i≠gA ys i)).length
theorem uM{q:Nat->Bool}{j:Nat}:∀(l:List Nat),l.Nodup->(∀i∈l,i≠j->p i=true->q i=true)->(l.filter p).length<=(l.filter q).length+if j∈l then 1 else 0
 |[],_,_=>by simp
 |i::l,nd,h=>by
  have f:=Vr.mp nd;have B:=uM (p:=p) (q:=q) (j:=j) l f.2 (by simp_all)
  by_cases e:i=j
  .subst e
   rw[if_neg f.1]at B;rw[UA,UA]
   split<;>split<;>(try simp)<;>lia
  have G:(if j∈i::l then 1 else 0)=if j∈l then 1 else 0:=by
   have:j∈i::l↔j∈l:=by simp[UN e,e]
   simp only[this]
  rw[G,UA,UA]
  by_cases F:p i=true
  .rw[if_pos F,if_pos (by simp_all),Uz,Uz];lia
  rw[if_neg F]
  split
  .rw[Uz];lia
  .exact B
theorem mU(e:j<xs.length):gA (xs.set j v) i=if i=j then v else gA xs i:=by
 unfold gA
 grind
theorem lG(h:j<ys.length):He xs (ys.set j v)<=He xs ys+1:=by
 unfold He;have:=uM (p:=λi=>decide (gA xs i≠gA (ys.set j v) i)) (q:=λi=>decide _) (Ut xs.length) W7 λi _ e f=>by
  rw[mU h,if_neg e]at f;exact f
 split at this<;>lia
theorem jd:He xs xs=0:=by
 unfold He;rw[Wc.mpr (by lia)];rfl
theorem sF(h:i<xs.length):gA xs i∈xs:=by
 unfold gA
 simp_all
theorem yB(h:i<xs.length):fE (xs.map D.int) (i:Int)=ap (.int<|gA xs i):=by
 rw[bJ (by lia),UM,Um]
 unfold gA;rw[Uc h];rfl
structure Cm(k:Pt)(ln lp:cb)(ns ps:aaU)(M0 M:Mem):Prop where
 has:Has k M
 a:ln≠k.p/\ln≠k.q
 b:lp≠k.p/\lp≠k.q
 ab:ln≠lp
 en:M ln=ap (.lst<|ns.map D.int)
 ep:M lp=ap (.lst<|ps.map D.int)
 n0:M0 ln=bb
 p0:M0 lp=bb
 keep:∀b o,b≠k.p->b≠k.q->M0 b=ap o->M b=ap o
structure Df(m:Int)(nums pieces ns ps:aaU)(fi cnt:Nat):Prop where
 ln:ns.length=nums.length
 lp:ps.length=pieces.length
 rn:∀v∈ns,0<=v/\v<m
 rp:∀v∈ps,0<=v/\v<m
 few:He nums ns+He pieces ps<=cnt
 fi:if fi<nums.length then gA nums fi≠gA ns fi else gA pieces 0≠gA ps 0
theorem Cm.dr(c:Cm k ln lp ns ps M0 M)(d:Dr k M M'):Cm k ln lp ns ps M0 M':=
 #[d.1,c.a,c.b,c.ab,by rw[d.2 ln c.a.1 c.a.2];exact c.en,by rw[d.2 lp c.b.1 c.b.2];exact c.ep,c.n0,c.p0,λb o e f=>by rw[d.2 b e f];exact c.keep b o e f]
theorem gU:(xs.map D.int).set j (.int v)=(xs.set j v).map D.int:=by simp_all
theorem Cm.sN(c:Cm k ln lp ns ps M0 M):Cm k ln lp (ns.set j v) ps M0 (M.upd ln<|.lst<|(ns.set j v).map D.int):=
 #[c.has.upd c.a,c.a,c.b,c.ab,Mem.upd_same,by rw[ae c.ab.symm];exact c.ep,c.n0,c.p0,λb o h f e=>by rw[ae (Mem.ne e c.n0)];exact c.keep b o h f e]
theorem Cm.sP(c:Cm k ln lp ns ps M0 M):Cm k ln lp ns (ps.set j v) M0 (M.upd lp<|.lst<|(ps.set j v).map D.int):=
 #[c.has.upd c.b,c.a,c.b,c.ab,by rw[ae c.ab];exact c.en,Mem.upd_same,c.n0,c.p0,λb o h f e=>by rw[ae (Mem.ne e c.p0)];exact c.keep b o h f e]
theorem lK(h:∀v∈xs,0<=v/\v<m)(f:0<=v/\v<m):∀w∈xs.set j v,0<=w/\w<m:=λw e=>by
 grind
theorem Df.sN(d:Df m nums pieces ns ps fi cnt)(B:j<nums.length)(h:0<=v/\v<m)(p:v≠gA nums j):Df m nums pieces (ns.set j v) ps fi (cnt+1):=by
 have f:j<ns.length:=by rw[d.ln];exact B
 refine#[by rw[VB];exact d.ln,d.lp,lK d.rn h,d.rp,?_,?_]
 .have:=lG (xs:=nums) (v:=v) f
  have:=d.few;lia
 have:=d.fi
 split at this
 .rename_i c
  rw[if_pos c,mU f]
  split
  .rename_i e;rw[e];exact λz=>p z.symm
  exact this
 rename_i c;rw[if_neg c];exact this
theorem Df.sP(d:Df m nums pieces ns ps fi cnt)(B:j<pieces.length)(h:0<=v/\v<m)(p:v≠gA pieces j):Df m nums pieces ns (ps.set j v) fi (cnt+1):=by
 have f:j<ps.length:=by rw[d.lp];exact B
 refine#[d.ln,by rw[VB];exact d.lp,d.rn,lK d.rp h,?_,?_]
 .have:=lG (xs:=pieces) (v:=v) f
  have:=d.few;lia
 have:=d.fi
 split at this
 .rename_i c;rw[if_pos c];exact this
 rename_i c
 rw[if_neg c,mU f]
 split
 .rename_i e;rw[e];exact λz=>p z.symm
 exact this
theorem RF(c:Cm k ln lp ns ps M0 M)(d:Df m nums pieces ns ps fi cnt)(m2:2<=m)(m1:m<=997)(rn:∀v∈nums,0<=v/\v<m)(rp:∀v∈pieces,0<=v/\v<m)(hp:fE pl 0=ap (.int m))(s0:0<sm)(s1:sm<=(nums.length:Int)+pieces.length)(hb:nums.length+pieces.length<=1000)(h:∀ns' ps' M' d10',Cm k ln lp ns' ps' M0 M'->Df m nums pieces ns' ps' fi (cnt+1)->D'.nx [ap (.ref k.p),d1,d2,ap (.tup pl),ap (bC nums pieces),ap (.ref ln),ap (.ref lp),d7,ap (.int sm),d9,d10',d11,d12,d13] M'):
  sZ ad EE D' [ap (.ref k.p),d1,d2,ap (.tup pl),ap (bC nums pieces),ap (.ref ln),ap (.ref lp),d7,ap (.int sm),d9,d10,d11,d12,d13] M:=by
 have fi':∀{v:Int}{M:Mem}{Q:DK},Q _ M->frz (.int v) M Q:=λz=>z;refine#[rfl,aN c.has s0 (by lia) λr M1 a1 b1 dr=>fi' ?_]
 have c1:=c.dr dr;simp[af];unfold tM
 simp_arith! only[aE,al,ah,bn,aa,ac,dt,TZ,cC,aQ,c1.en,Ub,lj,d.ln]
 obtain⟨j,hj⟩:∃j:Nat,r=j:=#[r.toNat,by lia]
 subst hj
 by_cases q:j<nums.length
 .rw[if_pos (by simp;lia)]
  unfold tz
  simp_arith! only[aq,ao,aj,aa,ac,ah,dC,bC,dt,TZ,av,aQ,hp,atI_0,yB q]
  refine#[rfl,am λQ' E' hq _=>fV c1.has m2 m1 (rn _<|sF q) λw M2 w0 w1 wn dr2=>hq _ _ (fi' ?_)];have c2:=c1.dr dr2
  simp_arith! only[cW,ac,dt,TZ,qS,c2.en,Ub,jR (by trivial) (show (j:Int)<ns.length by rw[d.ln];lia),gU]
  exact h _ _ _ _ c2.sN (d.sN q #[w0,w1] wn)
 rw[if_neg (by simp;lia)]
 unfold tN
 simp_arith! only[ai,aq,ah,bn,aa,ac,dt,TZ,cC,aQ,c1.en,Ub,lj,d.ln,af,Uy]
 obtain⟨i,hi,hi2⟩:∃i:Nat,j-nums.length=(i:Int)/\i<pieces.length:=#[j-nums.length,by lia,by lia]
 rw[hi];unfold qR
 simp_arith! only[aq,ao,aj,aa,ac,ah,dC,bC,dt,TZ,av,aQ,hp,atI_1,yB hi2]
 refine#[rfl,am λQ' E' hq _=>fV c1.has m2 m1 (rp _<|sF hi2) λw M2 w0 w1 wn dr2=>hq _ _ (fi' ?_)];have c2:=c1.dr dr2
 simp_arith! only[cW,ac,dt,TZ,qS,c2.ep,Ub,jR (by lia) (show (i:Int)<ps.length by rw[d.lp];lia),gU]
 exact h _ _ _ _ c2.sP (d.sP hi2 #[w0,w1] wn)
mutual
theorem Qv{names:aaV}{m a b:Int}(h:a<=b):∀(r:Rw),f_ names m a r->f_ names m b r
 |.put x k,h1=>h1
 |.take x i,h1=>#[h1.1,h1.2.1,Int.lt_of_lt_of_le h1.2.2 h]
 |.pick x y,h1=>#[h1.1,h1.2.1,Int.lt_of_lt_of_le h1.2.2 h]
 |.two w x y z,h1=>h1
 |.ifr x c d,h1=>by
  simp only[f_]at h1 ⊢;exact#[h1.1,jo h c h1.2.1,jo h d h1.2.2]
 |.again x c,h1=>by
  simp only[f_]at h1 ⊢;exact#[h1.1,jo h c h1.2]
theorem jo{names:aaV}{m a b:Int}(h:a<=b):∀(rs:List Rw),bg names m a rs->bg names m b rs
 |[],_=>trivial
 |r::rs,h1=>#[Qv h r h1.1,jo h rs h1.2]
end
theorem J9(l:aaV)(p:aC->Bool):((l.map UL).filter p).length=((Ut l.length).filter λi=>p (.inr<|(l[i]?).getD ("":Str))).length:=by
 have e:l=(Ut l.length).map λi=>l[i]?.getD ("":Str):=Xa (by simp) λi h f=>by simp_all
 conv=>lhs;rw[e]
 rw[Uq,Vb,Ub];rfl
structure CaOk(C:Cse)(s t:Sta)(few:Nat):Prop where
 o:C.Ok
 hs:SOk C s
 ht:SOk C t
 two:C.two s t
 un:(aL C s t).length<=few
 h0:0<C.many
 h1:C.many<=40
 cn:cRs C.rows<=26
 one:∀x∈C.names,Iu x
section
variable{s:Sta}
theorem sj(o:C.Ok)(e:SOk C s)(h:C.names[i]?=ap y):aH C s (.inr y)=gA s.nums i:=by
 unfold gA;rw[(jL o.nd e.ln.symm h)];rfl
theorem Lb(o:C.Ok)(f:SOk C s)(h:SOk C t):(aL C s t).length=He s.nums t.nums+He s.pieces t.pieces:=by
 unfold aL dZ;rw[WK,UC,J9];congr 1
 .unfold He
  rw[f.ln];congr 1;refine Wd λi p=>?_;have e:C.names[i]?=ap (C.names[i]?.getD ""):=by rw[Uc (by simp_all)];rfl
  rw[sj o f e,sj o h e]
 unfold He;rw[Vb,Ub,f.lp];rfl
theorem Ow:aL (C.rw rs) s t=aL C s t:=rfl
end
theorem cut2{a b c:D}:oC [a,b,c,d,e] bb (ap 2)=[a,b]:=rfl
theorem RD{a b c:D}:oC [a,b,c,d,e] (ap 3) bb=[d,e]:=rfl
theorem Cu(f1:1<=few)(f5:few<=5)(hp:Has k M)(h:∀C s t M',CaOk C s t few->Kq k M M'->Q (bo C s t) M'):Cc ad [.ref k.p,.int 24,.int (few:Nat)] M Q E:=by
 have ft:∀{xs:List D}{M:Mem}{Q:DK},Q (.tup xs) M->frz (.tup xs) M Q:=λz=>z;have H:∀{v:Int}{M:Mem}{Q:DK},Q (.int v) M->frz (.int v) M Q:=λz=>z;rw[T5];unfold BF
 simp_arith! only[ai,aq,ao,aj,aa,ag,ac,dt,TZ]
 refine#[rfl,am λQ' E' S _=>CW (v:=24) (by decide) (by decide) hp λm many names rows mk M1 pl hc q1=>S _ _ (ft ?_)]
 simp only[af,Uy];unfold nT;have t4:=pl.t.k0;have t5:=pl.t.k1;have m2:=pl.t.m2;have m1:=pl.t.m1;have l0:=pl.t.n0;have l1:=pl.t.n1;obtain⟨f,hmn,mn1,mn40,mle⟩:∃f:Nat,(if many>1 then many else 1)=(f:Int)/\1<=f/\f<=40/\many<=(f:Int):=by
  refine#[(if many>1 then many else 1).toNat,?_,?_,?_,?_]<;>split<;>lia
 simp_arith! only[ai,aq,ah,ao,DY,cJ,fg,aU,aa,ag,bn,ac,dC,jY,dt,TZ,oSl,cut2,RD,frz,av,aQ,atI_2,IH,hmn,bc,Uz,Wv]
 refine#[bj (by simp),bj (by simp),bj (by simp),?_]
 simp only[UH,UB,af,Uy];have pl':PlG m (f:Int) names rows mk:=#[#[pl.t.m2,pl.t.m1,pl.t.n0,pl.t.n1,by lia,by lia],pl.nd,jo mle _ pl.ok,pl.h,pl.cn,pl.l,pl.ln,pl.mkm,pl.one]
 have Z:D.tup [.int m,.tup (names.map D.str),.int (f:Int),.tup (aG rows),.str mk]=jY m (f:Int) names rows mk:=rfl
 try rw[Z]
 unfold nc
 simp_arith! only[ai,aq,ao,aj,aa,ag,ac,dt,TZ]
 refine#[rfl,am λQ' E' S _=>wZ q1.1 pl' λnums pieces M2 ln lp rn rp q2=>S _ _ (ft ?_)];simp only[af,Uy];unfold mz
 simp_arith! only[ai,aq,bn,ah,aa,ag,ac,dC,bC,dt,TZ,av,aQ,atI_0,eG]
 intro P W;simp only[af,Uy];unfold nL
 simp_arith! only[ai,aq,bn,ah,aa,ag,ac,dC,dt,TZ,av,aQ,atI_1,eG]
 intro I B;simp only[af,Uy];have nap:P≠I:=Mem.ne Mem.upd_same B;rw[ae nap.symm]at B;have hlN:nums.length=names.length:=ln;have hlP:pieces.length=f:=by lia
 have c0:Cm k P I nums pieces M2 ((M2.upd P<|.lst<|nums.map D.int).upd I<|.lst<|pieces.map D.int):=by
  have a:=q2.1.nep W;have b:=q2.1.nep B;exact#[(q2.1.upd a).upd b,a,b,nap,by rw[ae nap,Mem.upd_same],Mem.upd_same,W,B,λb' o _ _ e=>by rw[ae (Mem.ne e B),ae (Mem.ne e W)];exact e]
 generalize (M2.upd P<|.lst<|nums.map D.int).upd I (.lst<|pieces.map D.int)=M3 at c0 ⊢;have es:D.tup [.tup (nums.map D.int),.tup (pieces.map D.int)]=bC nums pieces:=rfl;rw[es];unfold nC
 simp_arith! only[ai,aq,ao,aj,ah,bn,aa,ag,ac,dC,dt,TZ,cC,aQ,c0.en,Ub,jA]
 refine#[.inl #[by decide,by decide],rfl,aN c0.has (by lia) (by lia) λr M4 a4 b4 d4=>H ?_]
 have O:=c0.dr d4;obtain⟨fi,hfi⟩:∃fi:Nat,r=(fi:Int):=#[r.toNat,by lia]
 subst hfi;simp only[af,Uy];unfold oS
 simp_arith! only[ai,aq,bn,aa,ag,ac,dt,TZ,cC,aQ,O.en,Ub,af,Uy]
 unfold mJ
 have rest:∀(ns ps:aaU)(M5:Mem)(sm:Int),Cm k P I ns ps M2 M5->Df m nums pieces ns ps fi 1->0<sm->sm<=(nums.length:Int)+pieces.length->
   (iU ad<|aJ E) { nx:=λx M'=>drp Q D.non M',rt:=drp Q } [ap (.ref k.p),ap (.int 24),ap (.int (few:Nat)),ap (jY m (f:Int) names rows mk),ap (bC nums pieces),ap (.ref P),ap (.ref I),ap (.int (fi:Nat)),ap (.int sm),bb,bb,bb,bb,bb] M5:=by
  intro ns ps M5 sm c5 d5 s0 s1;unfold iU
  simp_arith! only[ai,cV,fb,aa,ag,ah,ac,dC,dt,TZ,ph,lj]
  refine#[by lia,by lia,?_]
  refine cu (λxs U N=>∃(ns ps:aaU)(c9 R:Option D)(j:Nat),xs.length+j=few-1/\U=[ap (.ref k.p),ap (.int 24),ap (.int (few:Nat)),ap (jY m (f:Int) names rows mk),ap (bC nums pieces),ap (.ref P),ap (.ref I),ap (.int (fi:Nat)),ap (.int sm),c9,R,bb,bb,bb]/\Cm k P I ns ps M2 N/\Df m nums pieces ns ps fi (1+j))
   (λ_ _ _ _=>aK) ?_ ?_ _ _ _ #[ns,ps,bb,bb,0,by simp[cQ],rfl,c5,d5]
  .rintro U N ⟨ns,ps,c9,R,j,e1,rfl,G,J⟩
   have ej:1+j=few:=by simp at e1;lia
   rw[ej]at J;unfold o7
   simp_arith! only[ai,aq,aU,bn,aa,ag,ac,dt,TZ,b_,cG,aQ,G.en,G.ep]
   refine#[bj (by simp),?_]
   have et:D.tup [.tup (ns.map D.int),.tup (ps.map D.int)]=(Sta.mk ns ps).d:=rfl;simp only[af,Uy,et];unfold nD
   simp_arith! only[ai,aq,ao,aj,ah,aa,ag,ac,dC,dt,TZ]
   refine#[rfl,aN G.has (by decide) (by decide) λr2 M7 a7 b7 d7=>H ?_]
   have c7:=G.dr d7
   simp_arith! only[bc,af,Uy]
   obtain⟨Y,hmo,mo1,mo2⟩:∃Y:Nat,30+r2=(Y:Int)/\30<=Y/\Y<50:=#[(30+r2).toNat,by lia,by lia,by lia]
   rw[hmo];generalize F:(#[m,f,names,rows,mk,Y]:Cse)=C;have o:C.Ok:=by subst F;exact#[m2,m1,by show f<=100;lia,by show Y<=10000;lia,pl.nd,by show 0<names.length;lia,by show names.length<=100;lia,pl'.ok,Uu pl.h (by decide),pl.mkm]
   have hs:SOk C #[nums,pieces]:=by subst F;exact#[hlN,hlP,rn,rp]
   have ht:SOk C #[ns,ps]:=by subst F;exact#[J.ln.trans hlN,J.lp.trans hlP,J.rn,J.rp]
   have eN:C.names.length=nums.length:=by subst F;exact hlN.symm
   have ed:jY m (f:Int) names rows mk=C.d:=by subst F;rfl
   have es2:bC nums pieces=(Sta.mk nums pieces).d:=rfl;have em:(Y:Nat)=C.most:=by subst F;rfl
   rw[ed,es2,em];refine PK (s:=#[nums,pieces]) (t:=#[ns,ps]) o hs ht (by subst F;show 0<f;lia) (by subst F;show cRs rows<=24;lia) (by rw[<- em];lia) ?_ c7.en λrs o1 tw cr=>ak (h _ _ _ _ #[o1,hs.rw,ht.rw,tw,?_,by subst F;show 0<f;lia,by subst F;exact mn40,cr,by subst F;exact pl.one] ?_)
   .unfold Tk
    rw[eN];have hd:=J.fi
    split
    .rename_i c
     rw[if_pos c]at hd;intro y hy;rw[sj o hs hy,sj o ht hy];exact hd
    .rename_i c
     rw[if_neg c]at hd;exact hd
   .rw[Ow,Lb o hs ht]
    exact J.few
   .exact q1.trans (q2.trans #[c7.has,c7.keep])
  .rintro x xs U N ⟨ns,ps,c9,R,j,e1,rfl,G,J⟩ D' hD _ _ _
   simp only[Uz]at e1;simp only[af,Uy];refine RF G J m2 m1 rn rp (by simp) s0 s1 (by lia) λns' ps' M' d10' c' d'=>hD _ _ #[ns',ps',_,_,j+1,by lia,rfl,c',?_]
   rw[<- Nat.add_assoc];exact d'
 simp_arith! only[ai,aE,al,ah,bn,aa,ag,ac,dt,TZ,cC,aQ,O.en,Ub,DL,lj]
 have d0:∀{j:Nat}{v:Int}(hj:j<nums.length),fi=j->0<=v->v<m->v≠gA nums j->Df m nums pieces (nums.set j v) pieces fi 1:=λ{j v} hj e v0 v1 vn=>by
  subst e;refine#[VB,rfl,lK rn #[v0,v1],rp,?_,?_]
  .have h1:=lG (xs:=nums) (ys:=nums) (v:=v) hj
   have h2:=jd (xs:=nums);have h3:=jd (xs:=pieces);lia
  .rw[if_pos hj,mU hj,if_pos rfl];exact λz=>vn z.symm
 by_cases q:fi<nums.length
 .rw[if_pos (by simp;lia)]
  unfold rU;have T:fE [D.int m,.tup (names.map D.str),.int (f:Int),.tup (aG rows),.str mk] 0=ap (.int m):=by simp
  simp_arith! only[aq,ao,aj,aa,ag,ac,ah,dC,jY,dt,TZ,av,aQ,T,O.en,yB q]
  refine#[rfl,am λQ' E' S _=>fV O.has m2 m1 (rn _<|sF q) λw M5 w0 w1 wn X=>S _ _ (H ?_)];have c5:=O.dr X
  simp_arith! only[cW,ac,dt,TZ,qS,c5.en,Ub,jR (show (0:Int)<=(fi:Int) by lia) (show (fi:Int)<(nums.length:Nat) by lia),UM,gU]
  try rw[Z]
  exact rest _ _ _ _ c5.sN (d0 q rfl w0 w1 wn) (by lia) (by lia)
 .rw[if_neg (by simp;lia)]
  unfold sD;have hP:0<pieces.length:=by lia
  have T:fE [D.int m,.tup (names.map D.str),.int (f:Int),.tup (aG rows),.str mk] 0=ap (.int m):=by simp
  have ga0:=yB (xs:=pieces) hP;have ga0':fE (pieces.map D.int) 0=ap (.int<|gA pieces 0):=ga0
  simp_arith! only[ai,aq,ao,aj,aa,ag,ac,ah,dC,jY,dt,TZ,av,aQ,T,O.ep,ga0']
  refine#[rfl,am λQ' E' S _=>fV O.has m2 m1 (rp _<|sF hP) λw M5 w0 w1 wn X=>S _ _ (H ?_)];have c5:=O.dr X;have ix0':wQ pieces.length 0=ap 0:=jR (by decide) (by lia)
  simp_arith! only[cW,ac,dC,dt,TZ,qS,c5.ep,Ub,ix0',gU]
  have G:=c5.sP (j:=0) (v:=w);generalize M5.upd I (.lst<|(pieces.set 0 w).map D.int)=M6 at G ⊢;unfold sH
  simp_arith! only[aq,ao,ah,bn,aa,ag,ac,dC,dt,TZ,cC,aQ,G.ep,Ub,VB,jA,F9,bc,frz,af,Uy]
  refine#[.inl #[by decide,by decide],?_]
  try rw[Z]
  refine rest _ _ _ _ G #[rfl,VB,rn,lK rp #[w0,w1],?_,?_] (by split<;>lia) (by split<;>lia)
  .have h1:=lG (xs:=pieces) (ys:=pieces) (v:=w) hP
   have h2:=jd (xs:=nums);have h3:=jd (xs:=pieces);lia
  .rw[if_neg q,mU hP,if_pos rfl];exact λz=>wn z.symm
theorem G2{s:Sta}(h:Q (bo C s t) M):frz (bo C s t) M Q:=h
end _T
namespace _T
open PySem _2 _3
variable{ad:Ad}{C:Cse}{a b:Int}{M:Mem}{i n:Nat}{v:Nat->Str}{x:Out}
def Q4(us:List aC)(t:Tr)(B:Nat):D:=N4 (λq=>B.testBit (us.idxOf q)) t
structure Cms(x:Out)(B:Nat):Prop where
 f:∀i,x.f.testBit i=true->B.testBit i=true
 s:∀i,x.s.testBit i=true->B.testBit i=cp
theorem BN:(F ||| bitK us q).testBit i=(F.testBit i||decide (us.idxOf q=i)):=by rw[Yk,wL]
theorem Mz{t1 t2:Tr}:Q4 us (.a q t1 t2) B=if B.testBit (us.idxOf q)=true then Q4 us t2 B else Q4 us t1 B:=rfl
theorem mV:∀(t:Tr)(S F:Nat),(∀i,F.testBit i=true->B.testBit i=true)->(∀i,S.testBit i=true->B.testBit i=cp)->∃x∈g9 a b us t S F,Cms x B/\x.v=jO a b (Q4 us t B)
 |.e m,S,F,hF,hS=>#[_,WI.mpr rfl,#[hF,hS],rfl]
 |.a q t1 t2,S,F,hF,hS=>by
  rw[Mz]
  by_cases c:B.testBit (us.idxOf q)=true
  .rw[if_pos c]
   obtain⟨x,g,f⟩:=mV t2 S (F ||| bitK us q) (λi hi=>by
    rw[BN,Bool.or_eq_true]at hi;rcases hi with hi|hi
    .exact hF i hi
    simp_all) hS
   exact#[x,Ux.mpr (.inl g),f]
  rw[if_neg c];obtain⟨x,g,f⟩:=mV t1 (S ||| bitK us q) F hF (λi hi=>by
   rw[BN,Bool.or_eq_true]at hi;rcases hi with hi|hi
   .exact hS i hi
   simp_all)
  exact#[x,Ux.mpr (.inr g),f]
theorem mq:∀(t:Tr)(S F:Nat),x∈g9 a b us t S F->(∀i,F.testBit i=true->x.f.testBit i=true)/\∀i,S.testBit i=true->x.s.testBit i=true
 |.e m,S,F,h=>by
  have:x=#[jO a b m,S,F]:=by simpa [g9] using h
  simp_all
 |.a q t1 t2,S,F,h=>by
  rcases Ux.mp h with h1|h1
  .obtain⟨p,r⟩:=mq t2 _ _ h1
   simp_all
  obtain⟨p,r⟩:=mq t1 _ _ h1
  simp_all
theorem jE:∀(t:Tr)(S F:Nat),x∈g9 a b us t S F->Cms x B->x.v=jO a b (Q4 us t B)
 |.e m,S,F,h,_=>by
  have:x=#[jO a b m,S,F]:=by simpa [g9] using h
  subst this;rfl
 |.a q t1 t2,S,F,h,c=>by
  rw[Mz];rcases Ux.mp h with h1|h1
  .rw[if_pos (c.f _<|(mq t2 _ _ h1).1 _<|by rw[BN];simp)]
   exact jE t2 _ _ h1 c
  rw[if_neg (by rw[c.s _ ((mq t1 _ _ h1).2 _<|by rw[BN];simp)];simp)]
  exact jE t1 _ _ h1 c
theorem rN:∀(t:Tr)(u:List aC)(S F:Nat),TrN t u->Wy us u S F->x∈g9 a b us t S F->∀i,x.f.testBit i=true->x.s.testBit i=cp
 |.e m,u,S,F,_,w,h=>by
  have:x=#[jO a b m,S,F]:=by simpa [g9] using h
  subst this;exact λi c=>XB.mpr λz=>w.dis i #[z,c]
 |.a q t1 t2,u,S,F,hn,w,h=>by
  rcases Ux.mp h with h1|h1
  .exact rN t2 _ _ _ hn.2.2 (w.fa hn.1) h1
  exact rN t1 _ _ _ hn.2.1 (w.so hn.1) h1
def vB(C:Cse)(s t:Sta)(a b:Int)(B:Nat):Str:=jO a b (Q4 (aL C s t) (C.tree s t) B)
def kW(C:Cse)(s t:Sta)(a b:Int):List Out:=g9 a b (aL C s t) (C.tree s t) 0 0
theorem OJ:∃x∈kW C s t a b,Cms x B/\x.v=vB C s t a b B:=mV _ _ _ (by simp_all) (by simp_all)
theorem Kx(h:x∈kW C s t a b)(c:Cms x B):x.v=vB C s t a b B:=jE _ _ _ h c
theorem FS(h:x∈kW C s t a b):∀i,x.f.testBit i=true->x.s.testBit i=false:=rN _ _ _ _ wd (Wy.zero λ_ h=>h) h
theorem yN(h:x∈kW C s t a b):OutOk (aL C s t).length x:=sy _ _ _ _ wd (Wy.zero λ_ h=>h) x h
theorem Gm(h:x∈kW C s t a b):Cms x x.f:=#[λ_ h=>h,λi c=>XB.mpr λz=>by rw[FS h i z]at c;cases c]
theorem Pg(h:x∈kW C s t a b):vB C s t a b x.f=x.v:=(Kx h<|Gm h).symm
theorem Fh:(kW C s t a b).length<=2 ^ (aL C s t).length:=by
 unfold kW;rw[jq];have:=pW (C:=C) (s:=s) (t:=t);lia
theorem HU(e:A<2 ^ n)(f:B<2 ^ n)(h:aF A=aF B):A=B:=by
 refine Xl λi=>?_
 by_cases c:i<n
 .have j:=bU (i:=i) e
  have g:=bU (i:=i) f
  simp_all
 rw[VJ (Us e<|UT (by decide)<|by lia),VJ (Us f<|UT (by decide)<|by lia)]
def j7:Nat->List (List Nat)
 |0=>[[]]
 |n+1=>j7 n++(j7 n).map (·++[n])
theorem Hl(h:B<2 ^ n):aF (2 ^ n+B)=aF B++[n]:=by
 have c:2 ^ n+B<2 ^ (n+1):=by lia
 rw[dF c,dF h,List.range_succ,WK];congr 1
 .refine Wd λi e=>?_
  rw[Nat.testBit_two_pow_add_gt (by simp_all)]
 rw[UA,Nat.testBit_two_pow_add_eq,VJ h];rfl
theorem lP:∀n:Nat,j7 n=(Ut<|2 ^ n).map aF
 |0=>rfl
 |n+1=>by
  rw[j7,lP n,Nat.pow_succ,Nat.mul_two,List.range_add,VM,Uq,Uq];congr 1;exact UD λB c=>(Hl<|by simp_all).symm
theorem GZ:(j7 n).length=2 ^ n:=by rw[lP,Ub,WY]
abbrev Qu:=Str×Int×Int
noncomputable def Et(p:Qu):D:=.tup [.str p.1,.int p.2.1,.int p.2.2]
theorem oK:∀(c:aaV)(xs ys:aaU),iy (c.map D.str) (xs.map D.int) (ys.map D.int)=(c.zip<|xs.zip ys).map Et
 |[],_,_=>by simp[iy]
 |_::_,[],_=>by simp[iy]
 |_::_,_::_,[]=>by simp[iy]
 |n::c,x::xs,y::ys=>by
  have:=oK c xs ys;simp at this ⊢;rw[<- this];rfl
theorem Hi{c:aaV}(e:c.Nodup)(f:c.length=xs.length)(g:c.length=ys.length):c.zip (xs.zip ys)=c.map λx=>(x,nm (c.zip xs) x,nm (c.zip ys) x):=by
 refine WZ λi=>?_;rw[Um];cases h:c[i]? with
 |none=>
  rw[Option.map_none,Vj];rw[XU];have:=WT.mp h;lia
 |some x=>
  rw[Ve,V1];exact#[h,V1.mpr #[jL e f h,jL e g h]]
theorem mG{M:Mem}{b:BxC (dk 3<|aM (af 0)<|aM (af 1)<|aM (af 2) da) tt te ok Q}(p:Qu->Bool)(f:Qu->D)(g:ok M):∀(xs:List Qu)(aaO:List D)(j m l:Option D),aaO.length+xs.length<=100000->
  (∀x∈xs,∀K:Bool->Mem->Prop,K (p x) M->tt (ap (.str x.1)::ap (.int x.2.1)::ap (.int x.2.2)::c) M K)->(∀x∈xs,∀K:DK,K (f x) M->te (ap (.str x.1)::ap (.int x.2.1)::ap (.int x.2.2)::c) M K)->Q (aaO++(xs.filter p).map f) M->
  cU (dk 3<|aM (af 0)<|aM (af 1)<|aM (af 2) da) tt te ok Q b (xs.map Et) aaO (j::m::l::c) M
 |[],aaO,j,m,l,hl,ht,he,h=>#[g,by simpa using h]
 |x::xs,aaO,j,m,l,hl,ht,he,h=>by
  simp only[Uz]at hl;rw[Ud];refine#[g,?_]
  simp_arith! only[Et,dk,aM,da,af,Uy]
  refine#[rfl,ht x Uw _ ?_];cases o:p x with
  |true=>
   rw[if_pos rfl];refine he x Uw _ #[fC (by lia),mG p f g xs _ _ _ _ (by simp;lia) (λy e=>ht y (Ui _ e)) (λy e=>he y (Ui _ e)) ?_]
   rw[UA,if_pos o]at h;simpa using h
  |false=>
   rw[if_neg (by simp)]
   refine mG p f g xs _ _ _ _ (by lia) (λy e=>ht y (Ui _ e)) (λy e=>he y (Ui _ e)) ?_
   rw[UA,if_neg (by simp[o])]at h
   exact h
theorem BY(c:SOk C s)(e:i<C.many):fE (s.pieces.map D.int) (i:Nat)=ap (.int<|aH C s<|.inl (i:Int)):=by
 have f:i<s.pieces.length:=by rw[c.lp];exact e
 have:fE (s.pieces.map D.int) i=(s.pieces.map D.int)[i]?:=by rfl
 show _=ap (D.int<|(s.pieces[(VO i)]?).getD 0)
 simp_all
theorem kx(o:C.Ok)(y:SOk C s)(A:SOk C t)(h:∀p,M p=bb->Q (.ref p) (M.upd p<|.lst<|(aL C s t).map kD)):uT ad [bo C s t] M Q E:=by
 have l1:=o.l1;have few:=o.few;have r:=@csE C s t;have m:=@DQ C;have e:∀z:Sta,z.d=.tup _:=λ_=>rfl;rw[Rx];unfold BJ
 simp_arith! only[ai,aq,ac,dt,r,dk,aM,af,da,Uy]
 refine#[rfl,?_];unfold rJ;rw[m,e s,e t]
 simp_arith! only[ai,dg,fG,aO,ui,aa,ah,ac,dC,av,aQ,atI_0,atI_1,dt,TZ,br]
 rw[oK,Hi o.nd y.ln.symm A.ln.symm];refine mG (λx=>decide (x.2.1≠x.2.2)) _ aK _ _ _ _ _ (by simp;lia) (λx _ K q=>?_) (λx _ K q=>q) ?_
 .simp_arith! only[al,ah,ac,dt,TZ,pG,dv,cN,aR]
  simp_all
 intro p J;have G:(((C.names.map λx=>(x,nm (C.names.zip s.nums) x,nm (C.names.zip t.nums) x)).filter λx=>decide (x.2.1≠x.2.2)).map λx:Qu=>D.str x.1)=((C.names.map UL).filter λk=>decide (aH C s k≠aH C t k)).map kD:=by
  rw[Vb,Vb,Uq,Uq];rfl
 simp only[UB];rw[G]
 simp_arith! only[fJ,Uy,dt,TZ,Mem.upd_same,Mem.upd_del,au J]
 unfold sC
 simp_arith! only[az,ah,ac,ao,aO,dt,TZ,bX,U2,Ud,UH,UB,UZ]
 refine#[by lia,by lia,?_]
 rw[UM];refine dA (λd=>match d with|.int i=>decide (aH C s (.inl i)≠aH C t (.inl i))|_=>true) id aK (by simp[cQ];lia) (λx u K q=>?_) (λx u _ K q=>q) ?_
 .obtain⟨i,f,rfl⟩:=Ul.mp u
  have f:=UJ.mp f;have l:(0:Int)+i=i:=by lia
  rw[l]at q ⊢
  simp_arith! only[al,ah,ac,dC,av,aQ,atI_1,dt,TZ,BY y f,BY A f,pG,dv,cN,aR]
  refine#[trivial,trivial,?_];simpa using q
 intro L j;refine bM j ?_;have F:((cQ 0 C.many).filter λd=>match d with|.int i=>decide (aH C s (.inl i)≠aH C t (.inl i))|_=>true).map id=(((Ut C.many).map λ(i:Nat)=>(Vz i:aC)).filter λk=>decide (aH C s k≠aH C t k)).map kD:=by
  unfold cQ;rw[Vu,Vb,Vb,Uq];have l:∀i:Nat,(0:Int)+i=i:=λi=>by lia
  simp only[l];rfl
 rw[F];have w:((C.names.map UL).filter λk=>decide (aH C s k≠aH C t k)).map kD++(((Ut C.many).map λ(i:Nat)=>(Vz i:aC)).filter λk=>decide (aH C s k≠aH C t k)).map kD=(aL C s t).map kD:=by
  unfold aL dZ;rw[WK,VM]
 have c:=congrArg VD w;have H:=oQ (s:=s) (t:=t) o;rw[UC,Ub (as:=aL C s t)]at c;refine#[bj (by lia),?_]
 rw[w];exact λI g=>ak (h I g)
noncomputable def cO(ks:List Nat):List D:=ks.map λ(i:Nat)=>D.int (i:Int)
def DU(ks:List Nat):D:=.lst (cO ks)
def II:Nat->Nat->List D
 |_,0=>[]
 |j,n+1=>.int ((j:Nat):Int)::II (j+1) n
theorem AE:∀(n j:Nat),(V8 j n).map (λ(i:Nat)=>D.int ((i:Nat):Int))=II j n
 |0,_=>rfl
 |n+1,j=>by rw[List.range'_succ,Ud,AE n _];rfl
theorem Qf(n:Nat):cQ 0 n=II 0 n:=by
 rw[<- AE,<- VT];unfold cQ
 simp_all
theorem Gh(h:ks∈j7 n):∃B,B<2 ^ n/\ks=aF B:=by
 rw[lP]at h;obtain⟨B,c,rfl⟩:=Ul.mp h;exact#[B,by simp_all,rfl]
theorem gG(h:B<2 ^ n):(aF B).length<=n:=by
 rw[dF h]
 grind
section
theorem uQ{n:Nat}(l:ok M):∀(m j:Nat)(c:Option D),j+m<=10->(∀c,D'.nx [ap (.int (n:Nat)),ap (.lst<|(j7 (j+m)).map DU),c] M)->
  jr (af 2) (lE ad EE) D' ok bx (II j m) [ap (.int (n:Nat)),ap (.lst<|(j7 j).map DU),c] M
 |0,j,c,hl,h=>#[l,h c]
 |m+1,j,c,hl,h=>by
  have A:2 ^ j<=1024:=(UT (by decide) (show j<=10 by lia))
  have u:=GZ (n:=j);refine#[l,?_];refine dM (λd=>match d with|.lst xs=>.lst (xs++[.int j])|_=>.non) aK (by rw[Ub];lia) (λx o K q=>?_) ?_
  .obtain⟨z,r,rfl⟩:=Ul.mp o
   obtain⟨B,p,rfl⟩:=Gh r;have:=gG p;exact#[bj (by simp),λw g=>bM g #[bj (by simp[cO];lia),λy f=>bM f q]]
  intro w g;refine bM g ?_;refine#[bj (by simp;lia),λy f=>bM f ?_]
  have e:(j7 j).map DU++((j7 j).map DU).map (λd=>match d with|.lst xs=>.lst (xs++[.int j])|_=>.non)=(j7 (j+1)).map DU:=by
   rw[j7];simp[DU,cO]
  rw[e];exact uQ l m _ _ (by lia) λc=>by
   rw[show j+1+m=j+(m+1) by lia]
   exact(h c)
theorem sV(l:n<=10)(h:Q (.lst<|(j7 n).map DU) M):AY ad [.int (n:Nat)] M Q E:=by
 refine#[by trivial,λg e=>bM e #[by trivial,λj c=>bM c ?_]]
 refine#[by lia,by lia,?_]
 rw[Qf];refine uQ aK n 0 _ (by lia) λf=>?_
 simp_arith! only[Wh]
 exact ak h
def gb(C:Cse)(s t:Sta)(ks:List aC):Sta:=
 #[C.names.map λx=>aH C (if UL x∈ks then t else s) (.inr x),(Ut C.many).map λ(i:Nat)=>aH C (if Vz (i:Int)∈ks then t else s) (.inl (i:Int))]
variable{ks:List aC}
theorem ze(o:C.Ok)(f:SOk C s)(g:SOk C t):SOk C (gb C s t ks):=by
 refine#[by simp[gb],by simp[gb],λv c=>?_,λv c=>?_]
 .simp[gb]at c
  obtain⟨x,h,rfl⟩:=c;have e:UL x∈dZ C:=Ux.mpr (.inl<|by simp_all)
  split
  .exact bG o g e
  exact bG o f e
 simp only[gb,Ul]at c;obtain⟨i,j,rfl⟩:=c;have e:(Vz i:aC)∈dZ C:=Ux.mpr (.inr<|Ul.mpr<|by lia)
 split
 .exact bG o g e
 exact bG o f e
theorem LN(g:∀K,K (kD k) M->c U M K)(f:∀K,K (Ao ks) M->e U M K)(h:K (decide (k∈ks)) M):al (ah vI c e) U M K:=by
 refine g _ (f _ ?_);unfold vI;rw[Ja];exact h
noncomputable def QY(ks:List aC)(x:Qu):Int:=if UL x.1∈ks then x.2.2 else x.2.1
theorem vm{D':DEnds}{EE:DX}{ok:Mem->Prop}{bx:BxF (dk 3<|aM (af 7)<|aM (af 8)<|aM (af 9) da) (jt ad EE) D' ok}{l:cb}{u p d3 r o f:Option D}(w:∀xs,ok (M.upd l xs)):∀(xs:List Qu)(aaO:aaU)(j m g:Option D),aaO.length+xs.length<=1000->
  (∀j m g,D'.nx [u,ap (Ao ks),p,d3,r,o,ap (.ref l),j,m,g,f] (M.upd l<|.lst<|(aaO++xs.map (QY ks)).map D.int))->
  jr (dk 3<|aM (af 7)<|aM (af 8)<|aM (af 9) da) (jt ad EE) D' ok bx (xs.map Et) [u,ap (Ao ks),p,d3,r,o,ap (.ref l),j,m,g,f] (M.upd l<|.lst<|aaO.map D.int)
 |[],aaO,j,m,g,hl,h=>#[w _,by simp_all]
 |x::xs,aaO,j,m,g,hl,h=>by
  simp at hl;refine#[w _,?_]
  simp_arith! only[Et,dk,aM,da,af,Uy]
  refine#[rfl,?_];unfold jt;have fin:∀v:Int,v=QY ks x->bf (.ref l) [.int v] (M.upd l<|.lst<|aaO.map _) λ_ M1=>jr _ _ D' ok bx _ [u,ap _,p,d3,r,o,ap _,ap (.str x.1),ap (.int x.2.1),ap (.int x.2.2),f] M1:=λv y=>by
   simp_arith! only[bf,Mem.upd_same,Mem.upd_upd]
   refine#[by rw[Ub];exact fC (by lia),?_]
   have e:aaO.map D.int++[.int v]=(aaO++[v]).map D.int:=by simp
   rw[e];refine vm w xs _ _ _ _ (by simp;lia) λj m g=>?_
   simp_all
  simp_arith! only[b6,iN,ac,dt,TZ,cH,Mem.upd_same,true_and]
  refine LN (k:=.inr _) (λK q=>q) (λK q=>q) ?_
  by_cases c:(UL x.1)∈ks
  .rw[if_pos (by simpa using c)]
   exact fin _ (by unfold QY;rw[if_pos c])
  rw[if_neg (by simpa using c)]
  exact fin _ (by unfold QY;rw[if_neg c])
theorem wF(o:C.Ok)(r:SOk C s)(u:SOk C t)(h:Q (gb C s t ks).d M):ya ad [bo C s t,Ao ks] M Q E:=by
 have l1:=o.l1;have few:=o.few;have m:=@csE C s t;have j:=@DQ C;have f:∀z:Sta,z.d=.tup _:=λ_=>rfl;rw[Tc];unfold zA
 simp_arith! only[ai,aq,ac,dt,m,dk,aM,af,da,Uy,bw]
 refine#[rfl,by trivial,λl A=>?_]
 unfold sU;rw[j,f s,f t]
 simp_arith! only[ai,cV,ui,aa,ah,ac,dC,av,aQ,atI_0,atI_1,dt,TZ,br]
 rw[oK,Hi o.nd r.ln.symm u.ln.symm];refine vm (aaO:=[]) (λ_=>aK) _ _ _ _ (by simp;lia) λJ L H=>?_
 unfold qL
 simp_arith! only[ai,dg,fG,aO,fb,aa,ah,ac,dC,av,aQ,atI_2,dt,TZ,bX,U2,Ud,UH,UB,UZ]
 refine#[by lia,by lia,?_]
 refine dM (λd=>match d with|.int i=>.int (aH C (if Vz i∈ks then t else s)<|.inl i)|_=>.non) aK (by simp[cQ];lia) (λx w K q=>?_) ?_
 .obtain⟨i,g,rfl⟩:=Ul.mp w
  have g:=UJ.mp g;have y:(0:Int)+i=i:=by lia
  rw[y]at q ⊢;refine LN (k:=.inl _) (λK q=>q) (λK q=>q) ?_
  by_cases c:(Vz i:aC)∈ks
  .rw[if_pos (by simpa using c)]
   simp_arith! only[ah,ac,dC,av,aQ,atI_1,dt,TZ,BY u g]
   simp_all
  .simp_arith! only[ah,ac,dC,av,aQ,atI_1,dt,TZ,BY r g]
   simp_all
 intro p F
 simp_arith! only[fJ,Uy,dt,TZ,Mem.upd_same,Mem.upd_del,au F]
 unfold si
 simp_arith! only[az,aU,bn,aa,ac,dt,TZ,b_,cG,Mem.upd_same]
 refine#[bj (by simp),M,λb o e=>by rw[ae (Mem.ne e A)];exact e,?_]
 have I:(C.names.map λx=>(x,nm (C.names.zip s.nums) x,nm (C.names.zip t.nums) x)).map (QY ks)=(gb C s t ks).nums:=by
  rw[Uq];refine UD λx _=>?_;simp[QY]
  split<;>rfl
 have G:(cQ 0 C.many).map (λd=>match d with|.int i=>.int (aH C (if Vz i∈ks then t else s)<|.inl i)|_=>.non)=(gb C s t ks).pieces.map D.int:=by
  unfold cQ gb
  simp_all
 simp_all
theorem Dq(o:C.Ok)(g:q∈dZ C):aH C (gb C s t ks) q=aH C (if q∈ks then t else s) q:=by
 rcases gW g with⟨x,e,rfl⟩|⟨i,hi,rfl⟩
 .obtain⟨j,f⟩:=List.getElem?_of_mem e
  have c:(gb C s t ks).nums[j]?=ap (aH C (if UL x∈ks then t else s)<|.inr x):=by
   unfold gb
   simp_all
  rw[(jL o.nd (by simp[gb]) f)]at c
  exact U6 c
 show (((gb C s t ks).pieces[(VO i)]?).getD 0)=_;rw[UM];unfold gb;rw[Um,YX hi];rfl
end
def Ph(us:List aC)(B:Nat):List aC:=(aF B).map λi=>(us[i]?).getD (.inl 0)
theorem Lj(m:us.Nodup)(g:B<2 ^ us.length)(o:q∈us):q∈Ph us B↔B.testBit (us.idxOf q)=true:=by
 have l:=WB o;constructor
 .intro h
  obtain⟨i,c,e⟩:=Ul.mp h;obtain⟨f,j⟩:=(bU g).mp c;rw[Uc f]at e;have:us.idxOf q=i:=by rw[<- e];exact m.idxOf_getElem i f
  rw[this];exact j
 intro h;refine Ul.mpr #[_,(bU g).mpr #[l,h],?_]
 simp_all
theorem QC(g:B<2 ^ us.length)(h:q∈Ph us B):q∈us:=by
 obtain⟨i,c,e⟩:=Ul.mp h;obtain⟨f,_⟩:=(bU g).mp c;rw[Uc f]at e;rw[<- e];exact VW f
def ie(B:Nat):List aC:=(aF B).map λ(i:Nat)=>Vz (i:Int)
theorem wf:eV (cO<|aF B)=ap (ie B):=by
 have:cO (aF B)=(ie B).map kD:=by unfold cO ie;rw[Uq];rfl
 rw[this,qo]
theorem kZ(e:A<2 ^ n)(f:B<2 ^ n)(h:ie A=ie B):A=B:=by
 refine HU e f ?_;have c:=congrArg (List.map λk:aC=>match k with|.inl i=>i.toNat|.inr _=>0) h
 unfold ie at c;simpa [YM] using c
def Da(v:Nat->Str)(Bs:List Nat):List (List aC×D):=Bs.map λB=>(ie B,D.str (v B))
theorem E3(o:C.Ok)(e:SOk C s)(g:SOk C t)(j:(aL C s t).length<24)(f:B<2 ^ (aL C s t).length):C.mark (gb C s t<|Ph (aL C s t) B)=Q4 (aL C s t) (C.tree s t) B:=by
 refine (wI o e g (ze o e g) j λq h=>?_).symm;rw[Dq o h]
 by_cases c:q∈aL C s t
 .have:=Lj (rQ o) f c
  simp_all
 rw[if_neg (λz=>c (QC f z))]
 split
 .exact(Vw λz=>c (Ur.mpr<|by lia))
 rfl
theorem KJ(f:m=uj C.mn r)(c:w=jO a b m):(r.1=cp/\w=("other":Str))\/(r.1=true/\w=if nm r.2.nums C.mn=a then ("sound":Str) else if nm r.2.nums C.mn=b then ("faulty":Str) else ("other":Str)):=by
 subst f;unfold uj at c;cases e:r.1 with
 |false=>
  rw[e]at c;exact .inl #[rfl,c]
 |true=>
  rw[e,if_pos rfl]at c;refine .inr #[rfl,?_];unfold jO at c;rw[c];simp[aR]
theorem E8(o:C.Ok)(P:SOk C s)(O:SOk C t)(hu:(aL C s t).length<24)(R:B<2 ^ (aL C s t).length)(T:a≠b)(hj:C.names[j]?=ap C.mn)(hl:M l=bb)(hk:aaN.length<100000)(h:∀u g,D'.nx [ap (bo C s t),ap C.d,ap s.d,ap t.d,ap (.int (C.most:Nat)),ap (Ao<|aL C s t),ap (.int (j:Nat)),ap (.tup [.int a,.int b]),ap (.ref l),S,u,g] (M.upd l<|.dT<|eh aaN (ie B)<|.str<|vB C s t a b B))(h9:S=ap (DU<|aF B)):
  jW ad EE D' [ap (bo C s t),ap C.d,ap s.d,ap t.d,ap (.int (C.most:Nat)),ap (Ao<|aL C s t),ap (.int (j:Nat)),ap (.tup [.int a,.int b]),ap (.ref l),S,u,g] (M.upd l<|.dT aaN):=by
 subst h9;have ul:=oQ (C:=C) (s:=s) (t:=t) o;have nl:=gG R;have U:=E3 o P O hu R;have lu:(M.upd l<|.dT aaN) l=ap (.dT aaN):=Mem.upd_same;generalize hN:M.upd l (.dT aaN)=N at *;unfold jW
 simp_arith! only[ai,aq,ah,qd,aj,aa,ag,ac,dC,dt,TZ,ao,aO,bE,aQ,br,bX,Ud,U2,UH,UB,UZ,DU]
 refine dM (λd=>match d with|.int i=>kD (((aL C s t)[i.toNat]?).getD<|.inl 0)|_=>.non) aK (by simp[cO];lia) (λx hx K q=>?_) ?_
 .obtain⟨i,I,rfl⟩:=Ul.mp hx
  have I:=((bU R).mp I).1;have e:fE ((aL C s t).map kD) ((i:Nat):Int)=ap (kD<|((aL C s t)[i]?).getD<|.inl 0):=by
   rw[bJ (by lia),UM,Um,Uc I];rfl
  simp_arith! only[ah,ac,dt,TZ,Ao,av,aQ,e]
  simpa using q
 intro p A;refine bM A ?_;have Y:(cO<|aF B).map (λd=>match d with|.int i=>kD (((aL C s t)[i.toNat]?).getD<|.inl 0)|_=>.non)=(Ph (aL C s t) B).map kD:=by
  unfold cO Ph;rw[Uq,Uq];exact UD λi _=>by simp
 rw[Y];refine#[rfl,aI (λ_ _ q=>wF o P O q) ?_];show frz (gb C s t<|Ph (aL C s t) B).d N _;generalize W:gb C s t (Ph (aL C s t) B)=z at *;have f:SOk C z:=by rw[<- W];exact ze o P O
 have fz:∀{Q:DK},Q z.d N->frz z.d N Q:=λq=>q;refine fz ?_;rw[f.pd];refine#[rfl,kF (o.pl f) ?_];unfold CF;have er:dj (C.cf z) C.names C.rows z.nums=C.run z:=rfl;rw[er]
 simp_arith! only[av,aQ,atI_1,TZ,dt,af,Uy]
 rw[<- f.pd];unfold xp;simp only[ai,aq,dC,af,Uy];unfold xB;have fin:∀w:Str,w=vB C s t a b B->nN ad EE D' [ap (bo C s t),ap C.d,ap s.d,ap t.d,ap (.int (C.most:Nat)),ap (Ao<|aL C s t),ap (.int (j:Nat)),ap (.tup [.int a,.int b]),ap (.ref l),ap (.lst<|cO<|aF B),ap (dw C.names<|C.run z),ap (.str w)] N:=λw hw=>by
  unfold nN
  simp_arith! only[aq,ac,dt,TZ,cW,bn,aa,ag,b_,cG,qS,lu,Dz,wf]
  refine#[fC (by lia),?_]
  have:=h (ap<|dw C.names<|C.run z) (ap<|.str w);subst hw;rw[<- hN,Mem.upd_upd];exact this
 generalize nN ad EE=K2 at *;have vw:vB C s t a b B=jO a b (C.mark z):=by rw[U];rfl
 rcases KJ (C:=C) (r:=C.run z) (a:=a) (b:=b) (m:=C.mark z) rfl vw with⟨r0,Z⟩|⟨r1,w1⟩
 .have ee:dw C.names (C.run z)=.non:=by unfold dw;rw[r0,if_neg (by simp)]
  rw[ee]at fin ⊢
  simp_arith! only[ai,aE,kQ,al,ah,ac,dC,dt,TZ,fk,kC,Yr,US,if_false,aB]
  exact fin _ Z.symm
 .obtain⟨xs,X,H⟩:=wE r1 hj
  rw[X]at fin ⊢;generalize nm (C.run z).2.nums C.mn=v at *;have L:iD N (.int v) (.tup [.int a,.int b])=ap (decide (v=a)||decide (v=b)):=by
   simp_arith! only[iD,aQ,dv,fits,cN,Bool.and_self,and_self,if_true,Wo,List.any_nil,aR,W3]
   congr 2<;>exact decide_eq_decide.mpr #[Eq.symm,Eq.symm]
  simp_arith! only[ai,aE,kQ,al,ah,ac,dC,dt,TZ,fk,kC,Yc,if_true,av,aQ,atI_1,H,vI,L]
  by_cases c:v=a
  .rw[if_pos (by simp[c])]
   unfold rD;have G:[a,b].findIdx? (λy=>decide (y=v))=ap 0:=by simp[WJ,c]
   simp_arith! only[aq,ah,ao,bw,aa,ag,dC,Ik,ac,dt,TZ]
   refine#[bj (by simp),λp A=>bM A ?_]
   simp_arith! only[av,aQ,H,iV,dS,G]
   refine#[by simp,?_]
   simp_arith! only[Int.natCast_zero,atI_0,dt,af,Uy,aB]
   exact fin _ (by rw[w1,if_pos c])
  .by_cases F:v=b
   .rw[if_pos (by simp[F])]
    unfold rD;have G:[a,b].findIdx? (λy=>decide (y=v))=ap 1:=by
     have:¬a=v:=λz=>c z.symm;simp[WJ,F,this,T]
    simp_arith! only[aq,ah,ao,bw,aa,ag,dC,Ik,ac,dt,TZ]
    refine#[bj (by simp),λp A=>bM A ?_]
    simp_arith! only[av,aQ,H,iV,dS,G]
    refine#[by simp,?_]
    have J:fE [D.str "sound",.str "faulty"] ((1:Nat):Int)=ap (.str "faulty"):=rfl;simp only[J,af,Uy,aB];exact fin _ (by rw[w1,if_neg c,if_pos F])
   .rw[if_neg (by simp[c,F])]
    simp only[aB];exact fin _ (by rw[w1,if_neg c,if_neg F])
theorem Pv{k:List aC}(h:k∉aaN.map (·.1))(c:(aaN.map (·.1)).Nodup):eh aaN k d=aaN++[(k,d)]:=by
 have:=su (aaN:=[(k,d)]) (by
  rw[Wb];refine#[c,by simp,λx e y f=>?_]
  have:y=k:=by simp_all
  subst this;exact λz=>h (by simp_all))
 assumption
theorem ou:(Da v Bs).map (·.1)=Bs.map ie:=by unfold Da;rw[Uq];rfl
theorem Sr(h:j<=2 ^ n):((Ut j).map ie).Nodup:=by
 rw[List.nodup_iff_pairwise_ne,List.pairwise_map];refine List.Pairwise.imp_of_mem (λ{x y} c e f z=>f ?_) W7;have c:=UJ.mp c;have e:=UJ.mp e;exact kZ (n:=n) (by lia) (by lia) z
theorem P5(f:C.mark s=.int a)(c:C.mark t=.int b):Il C s t=.tup [.int a,.int b]:=by
 have g:∀{z:Sta}{v:Int},C.mark z=.int v->(C.run z).1=true/\nm (C.run z).2.nums C.mn=v:=λ{z v} e=>by
  unfold Cse.mark uj at e;lia
 unfold Il
 simp_all
theorem uB{i:Nat}(o:C.Ok)(F:SOk C s)(A:SOk C t)(w:(aL C s t).length<=10)(p:a≠b)(y:C.names[i]?=ap C.mn)(G:M l=bb)(r:∀N,ok N):∀(m j:Nat)(g f c:Option D),j+m=2 ^ (aL C s t).length->
  (∀g f c,D'.nx [ap (bo C s t),ap C.d,ap s.d,ap t.d,ap (.int (C.most:Nat)),ap (Ao<|aL C s t),ap (.int (i:Nat)),ap (.tup [.int a,.int b]),ap (.ref l),g,f,c] (M.upd l<|.dT<|Da (vB C s t a b)<|Ut<|2 ^ (aL C s t).length))->
  jr (af 9) (jW ad EE) D' ok bx ((V8 j m).map λB=>DU (aF B)) [ap (bo C s t),ap C.d,ap s.d,ap t.d,ap (.int (C.most:Nat)),ap (Ao<|aL C s t),ap (.int (i:Nat)),ap (.tup [.int a,.int b]),ap (.ref l),g,f,c] (M.upd l<|.dT<|Da (vB C s t a b)<|Ut j)
 |0,j,g,f,c,e,h=>#[r _,by simp_all]
 |m+1,j,g,f,c,e,h=>by
  have L:2 ^ (aL C s t).length<=2 ^ 10:=UT (by decide) w
  refine#[r _,?_];refine E8 o F A (by lia) (by lia) p y G (by simp[Da];lia) (λf c=>?_) rfl
  have J:ie j∉(Da (vB C s t a b)<|Ut j).map (·.1):=by
   rw[ou];intro z;obtain⟨B,u,I⟩:=Ul.mp z;have u:=UJ.mp u;have:=kZ (n:=(aL C s t).length) (by lia) (by lia) I
   lia
  rw[Pv J (by rw[ou];exact Sr (n:=(aL C s t).length) (by lia))]
  have H:Da (vB C s t a b) (Ut j)++[(ie j,.str (vB C s t a b j))]=Da (vB C s t a b) (Ut (j+1)):=by unfold Da;rw[List.range_succ,VM];rfl
  rw[H];exact uB o F A w p y G r m _ _ _ _ (by lia) h
theorem pv(o:C.Ok)(g:SOk C s)(j:SOk C t)(G:C.mark s=.int a)(H:C.mark t=.int b)(F:(aL C s t).length<=10)(m:a≠b)(h:∀p,M p=bb->Q (.ref p) (M.upd p<|.dT<|Da (vB C s t a b)<|Ut<|2 ^ (aL C s t).length)):Ko ad [bo C s t] M Q E:=by
 have f:=@DQ C;obtain⟨i,w,c⟩:=oj o.mn;have l1:=o.l1;rw[u_q9];refine#[rfl,?_];refine#[rfl,am λQ' E' e _=>kx o g j λp A=>e _ _ (bM A ?_)];simp[af];unfold xF;rw[f]
 simp_arith! only[ai,aq,Ik,ah,aa,ac,dC,dt,TZ,av,aQ,atI_1,atI_4,iE,dX,w]
 refine#[by lia,?_]
 refine#[rfl,am λQ' E' e _=>eD o g j (e _ _<|lT ?_)];rw[P5 G H];intro l r;refine#[rfl,aI (λ_ _ q=>sV (by simp_all) q) ?_]
 have u:(j7 ((aL C s t).map kD).length).map DU=(V8 0<|2 ^ (aL C s t).length).map λB=>DU (aF B):=by rw[Ub,lP,Uq,VT];rfl
 rw[u];exact uB o g j F m c r (λ_=>aK) _ 0 _ _ _ (by lia) λI y z=>ak (h l r)
def QX(v:Nat->Str)(n:Nat):D:=.fd ((Ut<|2 ^ n).map ie) ((Ut<|2 ^ n).map λB=>D.str (v B))
theorem Le(e:M p=bb)(h:Q (QX v n) M):FA (.ref p) (M.upd p<|.dT<|Da v<|Ut<|2 ^ n) Q:=by
 simp_arith! only[FA,Mem.upd_same,Mem.upd_del,au e]
 have c:(Da v<|Ut<|2 ^ n).map (·.2)=(Ut<|2 ^ n).map λB=>D.str (v B):=by unfold Da;rw[Uq];rfl
 rw[ou,c];exact h
def jI(B:Nat):D:=.tup (cO<|aF B)
theorem L7:Hc (ie B)=jI B:=by
 unfold Hc ie jI cO;rw[Uq];rfl
theorem Qg(m:B<2 ^ n):cI (((Ut<|2 ^ n).map ie).zip ((Ut<|2 ^ n).map λB=>D.str (v B))) (ie B)=ap (.str<|v B):=by
 have e:((Ut<|2 ^ n).map ie).zip ((Ut<|2 ^ n).map λB=>D.str (v B))=(Ut<|2 ^ n).map λB=>(ie B,D.str (v B)):=by grind
 rw[e];unfold cI;have f:∀l:List _,(∀A∈l,A<2 ^ n)->B∈l->(l.map λB=>(ie B,D.str (v B))).find? (λj=>decide (j.1=ie B))=ap (ie B,.str (v B)):=by
  intro l
  induction l with
  |nil=>simp_all
  |cons A l ih=>
   intro g h;rw[Ud,VN]
   by_cases c:A=B
   .subst c;simp
   have:¬ie A=ie B:=λz=>c (kZ (g A Uw) m z);simp only[this];exact ih (λx o=>g x (by simp_all)) ((Uj.mp h).resolve_left<|by lia)
 rw[f _ (λA=>UJ.mp) (by simp_all)]
 rfl
theorem TL(c:B<2 ^ n)(h:K (.str<|v B) M):CP (QX v n) (jI B) M K:=by
 unfold CP QX jI
 simp_arith! only[Dz,wf,Qg c]
 exact h
def Ih:Nat->D->Prop
 |_,.non=>True
 |_,.bl _=>True
 |_,.int _=>True
 |_,.str _=>True
 |n+1,.tup xs=>xs.length<=100000/\∀x∈xs,Ih n x
 |n+1,.lst xs=>xs.length<=100000/\∀x∈xs,Ih n x
 |_,_=>False
theorem dO:∀n:Nat,jc (UG n<|.bl true)=ap (UG n true)
 |0=>rfl
 |n+1=>by rw[VF,jc,dO n];rfl
theorem jw:(UG n true).all id=true:=by simp
theorem i1:bQ "tuple" "bool"=false:=by rfl
theorem i2:bQ "tuple" "int"=false:=by rfl
theorem i3:bQ "tuple" "str"=false:=by rfl
theorem i4:bQ "tuple" "tuple"=true:=by rfl
theorem i5:bQ "tuple" "list"=false:=by rfl
theorem i6:bQ "list" "bool"=false:=by rfl
theorem i7:bQ "list" "int"=false:=by rfl
theorem i8:bQ "list" "str"=false:=by rfl
theorem i9:bQ "list" "tuple"=false:=by rfl
theorem i10:bQ "list" "list"=true:=by rfl
theorem i11:bQ "bool" "bool"=true:=by rfl
theorem i12:bQ "int" "bool"=false:=by rfl
theorem i13:bQ "int" "int"=true:=by rfl
theorem i14:bQ "str" "bool"=false:=by rfl
theorem i15:bQ "str" "int"=false:=by rfl
theorem i16:bQ "str" "str"=true:=by rfl
theorem t1:nr "bool"=true:=by rfl
theorem t2:nr "int"=true:=by rfl
theorem t3:nr "str"=true:=by rfl
theorem t4:nr "tuple"=true:=by rfl
theorem t5:nr "list"=true:=by rfl
theorem iX:∀xs:List D,sE xs xs=xs.map (λz=>D.tup [z,z])
 |[]=>rfl
 |x::xs=>by
  have:=iX xs;simp[sE]at this ⊢;simp[this]
theorem iJ{ad:Ad}:∀(n:Nat)(x:D)(M:Mem)(Q:DK)(E:DX),Ih n x->Q (.bl true) M->Zf ad (n+1) [x,x] M Q E
 |n,x,M,Q,E,m,h=>by
  cases x with
  |non=>simp![kI,gg];exact ak h
  |bl b=>simp![kI,gg,i11,t1,beq_self_eq_true];exact ak h
  |int i=>simp![kI,gg,i12,i13,t1,t2];exact ak h
  |str i=>simp![kI,gg,i14,i15,i16,t1,t2,t3];exact ak h
  |tup xs=>
   cases n with
   |zero=>exact m.elim
   |succ n=>
    obtain⟨H,m⟩:=m;simp![kI,gg,i1,i2,i3,i4,i5,t1,t2,t3,t4,t5,aO];rw[if_neg (by decide),if_neg (by decide),if_neg (by decide)]
    refine bH (λu c U M'=>∃(e:List D)(j:Nat)(l o:Option D),u=e.map (λz=>D.tup [z,z])/\(∀z∈e,Ih n z)/\e.length+j<=100000/\c=UG j (.bl true)/\U=[l,o]/\M'=M) (λ_ _ _ _ _=>aK) ?_ ?_ ?_ _ _ _ _ #[xs,0,bb,bb,iX xs,m,by omega,rfl,rfl,rfl]
    .rintro c U M' ⟨e,j,l,o,f,g,A,rfl,rfl,rfl⟩ p r
     simp![Mem.upd_del,au r,dO,jw];exact ak h
    .rintro y u c U M' ⟨e,j,l,o,f,g,A,rfl,rfl,rfl⟩ N F _
     cases e with
     |nil=>simp at f
     |cons z e=>
      simp only[Ud,U7]at f;obtain⟨rfl,rfl⟩:=f;simp only[Uz]at A;simp![];refine aI (d:=.bl true) (λQ' E' q=>iJ n z M' Q' E' (g z<|Uw ..) q) ?_;simp![];exact F _ _ _ (by simp;exact fC (by omega)) #[e,j+1,_,_,rfl,λw G=>g w (Ui _ G),by omega,by rw[Wq],rfl,rfl]
    .rintro y u c U M' ⟨e,j,l,o,f,g,A,rfl,rfl,rfl⟩
     simp;exact fC (by omega)
  |lst xs=>
   cases n with
   |zero=>exact m.elim
   |succ n=>
    obtain⟨H,m⟩:=m;simp![kI,gg,i6,i7,i8,i9,i10,t1,t2,t3,t4,t5,aO];rw[if_neg (by decide),if_neg (by decide),if_neg (by decide)]
    refine bH (λu c U M'=>∃(e:List D)(j:Nat)(l o:Option D),u=e.map (λz=>D.tup [z,z])/\(∀z∈e,Ih n z)/\e.length+j<=100000/\c=UG j (.bl true)/\U=[l,o]/\M'=M) (λ_ _ _ _ _=>aK) ?_ ?_ ?_ _ _ _ _ #[xs,0,bb,bb,iX xs,m,by omega,rfl,rfl,rfl]
    .rintro c U M' ⟨e,j,l,o,f,g,A,rfl,rfl,rfl⟩ p r
     simp![Mem.upd_del,au r,dO,jw];exact ak h
    .rintro y u c U M' ⟨e,j,l,o,f,g,A,rfl,rfl,rfl⟩ N F _
     cases e with
     |nil=>simp at f
     |cons z e=>
      simp only[Ud,U7]at f;obtain⟨rfl,rfl⟩:=f;simp only[Uz]at A;simp![];refine aI (d:=.bl true) (λQ' E' q=>iJ n z M' Q' E' (g z<|Uw ..) q) ?_;simp![];exact F _ _ _ (by simp;exact fC (by omega)) #[e,j+1,_,_,rfl,λw G=>g w (Ui _ G),by omega,by rw[Wq],rfl,rfl]
    .rintro y u c U M' ⟨e,j,l,o,f,g,A,rfl,rfl,rfl⟩
     simp;exact fC (by omega)
  |_=>cases n<;>exact m.elim
theorem xT(a b:Nat):VQ (a:Int) (b:Int)=((a &&& b:Nat):Int):=by
 have e:decide ((0:Int)<=(a:Int))=true:=decide_eq_true (by lia)
 have c:decide ((0:Int)<=(b:Int))=true:=decide_eq_true (by lia)
 unfold VQ;rw[e,c];show (((a:Int).toNat &&& (b:Int).toNat:Nat):Int)=_;rw[UM,UM]
section
variable{b:BxC (af 0) tt te ok Q'}
theorem r8(p:Out->Bool)(f:Out->D)(e:ok N)(j:∀a x,N a=ap (DV ad x)->∀K:Bool->Mem->Prop,K (p x) N->tt (ap (.ref a)::rest) N K)(g:∀a x,N a=ap (DV ad x)->∀K:DK,K (f x) N->te (ap (.ref a)::rest) N K):
  ∀{as:aaX}{xs:List Out},Lay ad N as xs->∀(aaO:List D)(c:Option D),aaO.length+xs.length<=100000->Q' (aaO++(xs.filter p).map f) N->cU (af 0) tt te ok Q' b (as.map D.ref) aaO (c::rest) N
 |_,_,.nil,aaO,c,hl,h=>#[e,by simpa using h]
 |_,_,.cons (a:=a) (x:=x) (as:=as) (xs:=xs) hx t,aaO,c,hl,h=>by
  simp only[Uz]at hl;rw[Ud];refine#[e,?_];simp only[af,Uy];refine j a x hx _ ?_;cases l:p x with
  |true=>
   rw[if_pos rfl];refine g a x hx _ #[fC (by lia),r8 p f e j g t _ _ (by simp;lia) ?_]
   rw[UA,if_pos l]at h;simpa using h
  |false=>
   rw[if_neg (by simp)]
   refine r8 p f e j g t _ _ (by lia) ?_
   rw[UA,if_neg (by simp[l])]at h
   exact h
theorem SE{a:cb}(h:N a=ap (DV ad x))(q:K (.str x.v) N):aV ad.C_Outcome (ac 0) "verdict" (ap (.ref a)::rest) N K:=by
 simp_arith! only[aV,ac,dt,h]
 trivial
theorem Sm{a:cb}(c:U[i]?=ap (ap<|.ref a))(h:N a=ap (DV ad x))(q:K (.int (x.f:Nat)) N):aV ad.C_Outcome (ac i) "faulty" U N K:=by
 simp_arith! only[aV,ac,c,h]
 trivial
theorem is_v{a:cb}(h:N a=ap (DV ad x))(q:K (decide (x.v=w)) N):al (ah bR (aV ad.C_Outcome (ac 0) "verdict")<|dC<|.str w) (ap (.ref a)::rest) N K:=by
 unfold al ah;refine SE h ?_;simp only[dC,bR,dv,cN,aR];exact#[trivial,trivial,q]
end
end _T
namespace _T
open PySem _2 _3 _S
variable{ad:Ad}{p:cb}{C:Cse}{Q:DK}{E:DX}{a:Int}{Bs cl l:List Nat}{us:List aC}{M N:Mem}{B b m n:Nat}{s:Sta}{w:Str}
def nI(B:Nat):List Int:=(aF B).map λ(i:Nat)=>(i:Int)
theorem Si:(nI B).map D.int=cO (aF B):=by unfold nI cO;rw[Uq];rfl
theorem NY:(nI B).length=(aF B).length:=by simp[nI]
def xI(C:Cse)(s t:Sta)(a b:Int):List Out:=(kW C s t a b).filter λx=>decide (x.v=("faulty":Str))
section
variable{b:Int}
theorem ow(o:C.Ok)(X:SOk C s)(Y:SOk C t)(W:C.mark s=.int a)(g:C.mark t=.int b)(u:a≠b)(U:(aL C s t).length<24)(Z:1+(C.tree s t).asks<=L)(T:L<=10000)(h:∀p,M p=bb->Q (.ref p) (M.upd p<|.lst ((xI C s t a b).map λx=>D.int (x.f:Nat)))):A7 ad [bo C s t,.int (L:Nat)] M Q E:=by
 refine#[rfl,am λQ' E' S _=>pi o X Y W g u U Z T λp R N J H j P=>S _ _ ?_];have r:Lay ad (N.del p) R (kW C s t a b):=P.go λc y e=>by unfold Mem.del;rw[if_neg (λz=>by rw[z,H]at e;cases e)];exact e
 have ex1:=J.del j;have O:(kW C s t a b).length<=10000:=by unfold kW;rw[jq];lia
 simp_arith! only[frz,H]
 refine r8 _ _ aK (λa x i K=>is_v i) (λa x i K=>Sm rfl i) r [] _ (by simp;lia) ?_
 intro G q;refine#[_,λF I g=>?_,h G<|ex1.no q]
 by_cases v:F=G
 .subst v;rw[Mem.upd_same]at g ⊢;exact g
 rw[ae v]at g ⊢;exact ex1 F I g
end
theorem pK:∀bs:List Bool,jc (bs.map D.bl)=ap bs
 |[]=>rfl
 |b::bs=>by rw[Ud,jc,pK bs]
structure Lst(P l:List Nat):Prop where
 nd:l.Nodup
 mem:∀b,b∈l↔b∈P/\∀c∈P,c &&& b=c->c=b
theorem rG{a:Nat}(h:a &&& b=a):a<=b:=by rw[<- h];exact Nat.and_le_right
theorem xR{a c:Nat}(h:a &&& b=a)(g:b &&& c=b):a &&& c=a:=by
 have:a &&& b &&& c=a &&& b:=by rw[Nat.and_assoc,g]
 rw[h]at this;exact this
theorem Lst.below(h:Lst P l):∀(n c:Nat),c<=n->c∈P->∃m∈l,m &&& c=m
 |n,c,hn,hc=>by
  by_cases z:∃d,d∈P/\d &&& c=d/\d≠c
  .obtain⟨d,f,s,ne⟩:=z
   have:=rG s;cases n with
   |zero=>lia
   |succ n=>
    obtain⟨m,g,e⟩:=h.below n d (by lia) f
    exact#[m,g,xR e s]
  .exact#[c,(h.mem c).mpr #[hc,λd f s=>Vw λne=>z #[d,f,s,ne]],Nat.and_self c]
theorem Lst.old(h:Lst P l)(ge:∀c∈P,c<=b)(g:x∈l):x∈P++[b]/\∀c∈P++[b],c &&& x=c->c=x:=by
 obtain⟨e,f⟩:=(h.mem x).mp g;refine#[U9 _ e,λc hc s=>?_];rcases Ux.mp hc with hc|hc
 .exact f c hc s
 .have:c=b:=by simpa using hc
  subst this;have:=rG s;have:=ge x e;lia
theorem Lst.skip(h:Lst P l)(ge:∀c∈P,c<=b)(g:m∈l)(e:m &&& b=m):Lst (P++[b]) l:=by
 refine#[h.nd,λx=>#[h.old ge,λ⟨h1,f⟩=>?_]];rcases Ux.mp h1 with h1|h1
 .exact(h.mem x).mpr #[h1,λc i=>f c (U9 _ i)]
 .have:x=b:=by simpa using h1
  subst this;rw[<- f m (U9 _ ((h.mem m).mp g).1) e];exact g
theorem Lst.put(h:Lst P l)(ge:∀c∈P,c<=b)(no:∀m∈l,m &&& b≠m):Lst (P++[b]) (l++[b]):=by
 have j:b∉l:=λz=>no b z (Nat.and_self b);refine#[Wb.mpr #[h.nd,by simp,λa f c hc z=>?_],λx=>#[λhx=>?_,λ⟨h1,i⟩=>?_]]
 .have:c=b:=by simpa using hc
  rw[z,this]at f;exact j f
 .rcases Ux.mp hx with hx|hx
  .exact h.old ge hx
  .have:x=b:=by simpa using hx
   subst this;refine#[UP _ (by simp),λc hc s=>?_]
   rcases Ux.mp hc with hc|hc
   .obtain⟨m,g,e⟩:=h.below c c (Uk _) hc
    exact absurd (xR e s) (no m g)
   .simpa using hc
 .rcases Ux.mp h1 with h1|h1
  .exact U9 _ ((h.mem x).mpr #[h1,λc hc=>i c (U9 _ hc)])
  .exact UP _ h1
theorem Lst.perm(h:Lst P l)(p:P.Perm P'):Lst P' l:=#[h.nd,λb=>(h.mem b).trans #[λ⟨a,c⟩=>#[p.mem_iff.mp a,λd e=>c d (p.mem_iff.mpr e)],λ⟨a,c⟩=>#[p.mem_iff.mpr a,λd e=>c d (p.mem_iff.mp e)]]]
theorem Lst.same(h:Lst P l)(h':Lst P' r)(own:∀x∈P,x∈P')(f:∀x∈P',∃y∈P,y &&& x=y):l.Perm r:=by
 refine (X9 h.nd h'.nd).mpr λx=>#[λj=>?_,λj=>?_]
 .obtain⟨o,i⟩:=(h.mem x).mp j
  refine (h'.mem x).mpr #[own x o,λc q s=>?_];obtain⟨y,g,e⟩:=f c q;have:=i y g (xR e s);have:=rG e;have:=rG s;lia
 .obtain⟨o,i⟩:=(h'.mem x).mp j
  obtain⟨y,g,e⟩:=f x o;have:=i y (own y g) e;subst this;exact(h.mem y).mpr #[g,λc q=>i c (own c q)]
theorem Io:cO l=(l.map λ(i:Nat)=>(i:Int)).map D.int:=by unfold cO;rw[Uq];rfl
theorem iH{p:cb}(v:∀N,ok N)(L:M p=bb):
  ∀(ys P l:List Nat)(c:Option D),(P++ys).Pairwise (·<=·)->Lst P l->l.length+ys.length<64->(∀f u,Lst (P++ys) f->f.length<=l.length+ys.length->DD.nx [G,ap (.ref p),u] (M.upd p<|.lst<|cO f))->
  jr (af 2) (ic ad EE) DD ok bx (cO ys) [G,ap (.ref p),c] (M.upd p<|.lst<|cO l)
 |[],P,l,c,pw,hL,hz,h=>#[v _,h l c (by simpa using hL)<|by simp]
 |b::ys,P,l,c,pw,hL,hz,h=>by
  simp only[Uz]at hz;have ge:∀c∈P,c<=b:=λc W=>(List.pairwise_append.mp pw).2.2 c W b Uw;have g:((P++[b])++ys).Pairwise (·<=·):=by simpa using pw
  show jr (af 2) (ic ad EE) DD ok bx (D.int (b:Nat)::cO ys) [G,ap (.ref p),c] (M.upd p<|.lst<|cO l);refine#[v _,?_];simp only[af,Uy];unfold ic
  simp_arith! only[aE,fH,cq,bn,aa,ag,ao]
  unfold aO
  simp_arith! only[bE,ac,dt,TZ,aQ,Mem.upd_same,br,bX,Ud,U2,UH,UB,UZ]
  refine dM (λd=>match d with|.int i=>.bl (decide (i.toNat &&& b=i.toNat))|_=>.non) (λr H=>by simp only[br,U0,Uj,VV,or_false,y9,Ll,Jm,P3,t_,C8,GS,uz]at H;subst H;exact Mem.upd_same) (by simp[cO];lia) (λx O K q=>?_) ?_
  .obtain⟨j,X,rfl⟩:=Ul.mp O
   simp_arith! only[ah,ac,dt,TZ,F5,lj,xT,bR,dv,cN,aR]
   refine#[trivial,trivial,?_];have e:decide (((j &&& b:Nat):Int)=(j:Int))=decide (j &&& b=j):=decide_eq_decide.mpr Int.ofNat_inj;rw[e];simpa using q
  intro q o;have U:M q=none:=by
   by_cases z:q=p
   .rw[z,Mem.upd_same]at o;cases o
   .rw[ae z]at o;exact o
  refine bM o ?_;have S:(cO l).map (λd=>match d with|.int i=>.bl (decide (i.toNat &&& b=i.toNat))|_=>.non)=(l.map λj=>decide (j &&& b=j)).map D.bl:=by
   unfold cO;rw[Uq,Uq];exact UD λi _=>by simp
  rw[S]
  simp_arith! only[Jc,cG,pK,DM]
  have R:(l.map λj=>decide (j &&& b=j)).any id=l.any λj=>decide (j &&& b=j):=by rw[List.any_map];rfl
  rw[R];cases I:l.any λj=>decide (j &&& b=j) with
  |true=>
   rw[if_neg (by simp)]
   obtain⟨m,y,e⟩:=Wl.mp I;simp only[aB];exact iH v L ys (P++[b]) l _ g (hL.skip ge y<|of_decide_eq_true e) (by lia) λf u F J=>h f u (by simpa using F) (by simp;lia)
  |false=>
   rw[if_pos (by rfl)]
   simp_arith! only[b6,iN,aa,ag,ac,dt,TZ,cH,Mem.upd_same,true_and,bf,Mem.upd_upd]
   refine#[fC (by simp[cO];lia),?_]
   have T:cO l++[D.int (b:Nat)]=cO (l++[b]):=by unfold cO;rw[VM];rfl
   rw[T];refine iH v L ys (P++[b]) (l++[b]) _ g (hL.put ge λm y e=>?_) (by simp;lia) λf u F J=>h f u (by simpa using F) (by simp at J ⊢;lia)
   have:=Xz.mp I m y;exact this (decide_eq_true e)
theorem qW(J:∀N,Ext M N->cG N d=ap (cO xs))(I:xs.length<64)(h:∀l,Lst xs l->l.length<=xs.length->∀p,M p=bb->Q (.ref p) (M.upd p<|.lst<|cO l)):BM ad [d] M Q E:=by
 rw[RE];unfold Ch;generalize f:lR ad (aJ E)=K2;simp only[ai,aq,bw,ag];refine#[bj (by simp),λp o=>?_]
 simp only[af,Uy];rw[<- f];unfold lR
 simp_arith! only[ai,cV,bE,ao,bn,aa,ag,ac,dt,TZ,iQ,t_]
 rw[J _ (Ext.new o),Io];simp only[y9,fO];refine#[by simpa using I,λq v=>bM v ?_]
 have r:=dN Ez (xs.map λ(i:Nat)=>(i:Int));have H:=jf Ez (xs.map λ(i:Nat)=>(i:Int));generalize kT Ez (xs.map λ(i:Nat)=>(i:Int))=zs at *;have c:(zs.map VO).Perm xs:=by
  have:=r.map VO;rw[Uq]at this;have e:xs.map (VO ∘ λ(i:Nat)=>(i:Int))=xs:=by rw[UD (g:=id) λi _=>by simp,Vu]
  rwa [e]at this
 have F:zs.map D.int=cO (zs.map VO):=by
  unfold cO;rw[Uq];refine UD λz u=>?_;obtain⟨i,_,rfl⟩:=Ul.mp (r.mem_iff.mp u);simp
 have j:(zs.map VO).Pairwise (·<=·):=List.pairwise_map.mpr (H.imp λ{a b} z=>by
  have z:decide (b<a)=false:=z;have:=of_decide_eq_false z;lia)
 rw[F];generalize zs.map VO=ys at *;have K:=c.length_eq
 simp_arith! only[aQ,br]
 refine iH (λ_=>aK) o ys [] [] _ (by simpa using j) #[List.nodup_nil,λb=>by simp] (by simp;lia) λx L y G=>?_
 simp_arith! only[az,ac,dt,TZ]
 exact ak (h x ((UB ys▸y).perm c) (by simp at G;lia) p o)
def tY(us:List aC)(k:aaU):List D:=k.map λi=>kD ((us[i.toNat]?).getD<|.inl 0)
def Hs(N:Mem)(ps:List (cb×List D)):Prop:=∀z∈ps,N z.1=ap (.lst z.2)
noncomputable def pH(ps:List (cb×List D)):List D:=ps.map λz=>D.ref z.1
theorem Hs.go(h:Hs N ps)(e:Ext N N'):Hs N' ps:=λz c=>e _ _ (h z c)
theorem Hs.add(h:Hs N ps)(c:N p=bb):Hs (N.upd p<|.lst xs) (ps++[(p,xs)]):=λz hz=>by
 rcases Ux.mp hz with hz|hz
 .exact Ext.new c _ _ (h z hz)
 .have:z=(p,xs):=by simpa using hz
  subst this;exact Mem.upd_same
theorem B4:pH (ps++[(p,xs)])=pH ps++[.ref p]:=by unfold pH;simp
theorem uK(F:us.length<=200)(j:B<2 ^ us.length)(o:M q=ap (.lst<|us.map kD))(h:∀p,M p=bb->Q (.ref p) (M.upd p<|.lst<|tY us<|nI B)):oN ad [.ref q,.int (B:Nat)] M Q E:=by
 have g:B<2 ^ 200:=Us j (UT (by decide) F)
 have G:=gG j;rw[Tb];unfold BR
 simp_arith! only[az,aO,bE,ao,aj,aa,ag,ac,dt,TZ]
 refine#[rfl,am λQ' E' r _=>gq g λp y=>r _ _ (bM y ?_)]
 simp_arith! only[aQ,br,bX,Ud,U2,UH,UB,UZ,dt]
 refine dM (λd=>match d with|.int i=>kD ((us[i.toNat]?).getD<|.inl 0)|_=>.non) aK (by simp;lia) (λx u K q=>?_) ?_
 .obtain⟨i,c,rfl⟩:=Ul.mp u
  have c:=((bU j).mp c).1;have e:fE (us.map kD) ((i:Nat):Int)=ap (kD<|(us[i]?).getD<|.inl 0):=by
   rw[bJ (by lia),UM,Um,Uc c];rfl
  simp_arith! only[ah,ac,dt,TZ,av,aQ,o,e]
  simpa using q
 intro z f;have v:((aF B).map λ(i:Nat)=>D.int (i:Int)).map (λd=>match d with|.int i=>kD ((us[i.toNat]?).getD<|.inl 0)|_=>.non)=tY us (nI B):=by
  unfold tY nI;rw[Uq,Uq];exact UD λi _=>by simp
 rw[v];exact ak (h z f)
theorem w8:∀(Bs:List Nat)(ps:List (cb×List D))(N:Mem)(R:List D->Mem->Prop),(∀B∈Bs,B<2 ^ 200)->Hs N ps->(∀c N',Ext N N'->Hs N' c->c.map (·.2)=ps.map (·.2)++Bs.map (λB=>cO (aF B))->R (pH c) N')->n_ (ki ad) (cO Bs) (pH ps) N R
 |[],ps,N,R,_,hs,h=>h ps N Ext.refl hs (by simp)
 |B::Bs,ps,N,R,hB,hs,h=>by
  show calls (ki ad) iS [.int (B:Nat)] N (λk M1=>n_ (ki ad) (cO Bs) (pH ps++[k]) M1 R) #[];refine am λQ' E' o _=>gq (hB B Uw) λp g=>o _ _ ?_;have:=w8 Bs (ps++[(p,cO (aF B))]) (N.upd p<|.lst<|cO<|aF B) R (λA i=>hB A (Ui _ i)) (hs.add g) λc N' j f e=>h c N' ((Ext.new g).trans j) f (by rw[e];simp)
  rw[B4]at this;exact this
theorem qv{N:Mem}:∀(ps:List (cb×List D))(Bs:List Nat),Hs N ps->ps.map (·.2)=Bs.map (λB=>cO (aF B))->iw N (pH ps)=ap (Bs.map nI)
 |[],[],_,_=>rfl
 |[],_::_,_,e=>by simp at e
 |_::_,[],_,e=>by simp at e
 |(p,xs)::ps,B::Bs,hs,e=>by
  simp only[Ud,U7]at e;obtain⟨rfl,e⟩:=e;have h:N p=ap (.lst<|cO<|aF B):=hs _ Uw;have f:=qv ps Bs (λz c=>hs z (Ui _ c)) e;show iw N (D.ref p::pH ps)=_;have g:dS (cO<|aF B)=ap (nI B):=by rw[<- Si,fO]
  have i:cG N (.ref p)=ap (cO<|aF B):=by simp_arith! only[cG,h]
  simp only[iw,i,g,f,Ud]
theorem oa(o:∀N,ok N)(r:us.length<=200):
  ∀(Bs:List Nat)(ps:List (cb×List D))(c:Option D)(N:Mem),(∀B∈Bs,B<2 ^ us.length)->N q=ap (.lst<|us.map kD)->Hs N ps->ps.length+Bs.length<=100000->(∀f N',Ext N N'->Hs N' f->f.map (·.2)=ps.map (·.2)++Bs.map (λB=>tY us (nI B))->Q' (pH f) N')->
  cU (af 0) cP (aj (oN ad) iS 2<|aa (ac 1)<|aa (ac 0) ag) ok Q' bx (cO Bs) (pH ps) [c,ap (.ref q)] N
 |[],ps,c,N,_,_,hs,_,h=>#[o _,h ps N Ext.refl hs<|by simp]
 |B::Bs,ps,c,N,hB,hq,hs,hz,h=>by
  simp only[Uz]at hz;show cU (af 0) cP (aj (oN ad) iS 2<|aa (ac 1)<|aa (ac 0) ag) ok Q' bx (D.int (B:Nat)::cO Bs) (pH ps) [c,ap (.ref q)] N;refine#[o _,?_]
  simp_arith! only[af,Uy,cP,if_true,aj,aa,ag,ac,dt,TZ]
  refine#[rfl,am λQ1 E1 i _=>uK r (hB B Uw) hq λp g=>i _ _ #[fC (by unfold pH;rw[Ub];lia),?_]]
  have:=oa (bx:=bx) o r Bs (ps++[(p,tY us (nI B))]) (ap<|.int (B:Nat)) (N.upd p<|.lst<|tY us<|nI B) (λA u=>hB A (Ui _ u)) (Ext.new g _ _ hq) (hs.add g) (by simp;lia) λf N' v j e=>h f N' ((Ext.new g).trans v) j (by rw[e];simp)
  rw[B4]at this;exact this
structure Told(M N:Mem)(p:cb)(W:List (List D))(ps:List (cb×List D)):Prop where
 top:N p=ap (.lst<|pH ps)
 own:Hs N ps
 no:∀z∈ps,z.1≠p
 w:ps.map (·.2)=W
 ext:Ext M N
theorem Jj(e:l.Perm (Ut Bs.length)):l.map (λi=>(Bs.map nI).getD i [])=(l.map λi=>Bs.getD i 0).map nI:=by
 rw[Uq];refine UD λi c=>?_;have c:i<Bs.length:=UJ.mp (e.mem_iff.mp c);simp[c]
theorem Oq(e:l.Perm (Ut Bs.length)):l.map (λi=>(cO Bs).getD i .non)=cO (l.map λi=>Bs.getD i 0):=by
 unfold cO;rw[Uq];refine UD λi c=>?_;have c:i<Bs.length:=UJ.mp (e.mem_iff.mp c);simp[c]
theorem iZ(o:C.Ok)(u:SOk C s)(S:SOk C t)(W:(aL C s t).length<=24)(O:∀B∈Bs,B<2 ^ (aL C s t).length)(T:Bs.length<64)(h:∀N p ps,Told M N p ((kT dh<|Bs.map nI).map<|tY<|aL C s t) ps->Q (.ref p) N):Jt ad [bo C s t,.lst (cO Bs)] M Q E:=by
 rw[u_q1];unfold IN;generalize x:rf ad (aJ E)=K1
 simp_arith! only[ai,aq,aj,aa,ag,ac,dt]
 refine#[rfl,am λQ' E' R _=>eK o u S λq v=>R _ _ ?_];simp only[af,Uy];rw[<- x];unfold rf az aO
 simp_arith! only[bE,ao,bn,gx,aa,ag,ac,dt,TZ,cG]
 refine#[by simpa [cO] using T,?_]
 have J:∀B∈Bs,B<2 ^ 200:=λB H=>Us (O B H) (UT (by decide)<|by lia)
 refine w8 Bs [] _ _ J (λz g=>by cases g) λf N1 ex1 F y=>?_
 have y:f.map (·.2)=Bs.map (λB=>cO (aF B)):=y;unfold G8;rw[qv f Bs F y];simp only[y9];intro l j L U K;rw[Ub]at j;rw[Jj j]at L;rw[Oq j];refine bM K ?_;have G:∀B∈l.map (λi=>Bs.getD i 0),B<2 ^ (aL C s t).length:=λB H=>by
  obtain⟨i,r,rfl⟩:=Ul.mp H;have r:i<Bs.length:=UJ.mp (j.mem_iff.mp r);refine O _ ?_;rw[Vx,Uc r];exact VW r
 have len:(l.map λi=>Bs.getD i 0).length=Bs.length:=by rw[Ub,j.length_eq,WY]
 generalize l.map (λi=>Bs.getD i 0)=ls at*
 simp_arith! only[aQ,br,bX,Ud,U2,UH,UB,UZ,dt,TZ]
 refine oa (ps:=[]) (λ_=>aK) (by lia) ls _ _ G (ex1 _ _ Mem.upd_same) (λz g=>by cases g) (by simp;lia) λps N P u e=>?_
 intro p I;have e:ps.map (·.2)=ls.map (λB=>tY (aL C s t) (nI B)):=e;refine ak (h _ p ps #[Mem.upd_same,u.go (Ext.new I),λz g c=>?_,?_,((Ext.new v).trans<|ex1.trans P).trans<|Ext.new I])
 .have:=u z g
  rw[c,I]at this;cases this
 .rw[e,<- L,Uq];rfl
section
variable{b:Int}
theorem jF(o:C.Ok)(z:SOk C s)(y:SOk C t)(P:C.mark s=.int a)(S:C.mark t=.int b)(u:a≠b)(O:(aL C s t).length<=5)(R:64<=L)(K:L<=10000)(h:∀l,Lst ((xI C s t a b).map λx=>x.f) l->∀N p ps,Told M N p ((kT dh<|l.map nI).map<|tY<|aL C s t) ps->Q (.ref p) N):pL ad [bo C s t,.int (L:Nat)] M Q E:=by
 have i:2 ^ (aL C s t).length<=32:=(UT (by decide) O:2 ^ (aL C s t).length<=2 ^ 5)
 have r:=pW (C:=C) (s:=s) (t:=t);have F:(xI C s t a b).length<=32:=Uu (UK _ _) (Uu Fh i);have j:∀x∈xI C s t a b,OutOk (aL C s t).length x:=λx g=>yN (Ur.mp g).1;rw[Sb];unfold Ak
 simp_arith! only[az,aj,ao,aa,ag,ac,dt,TZ]
 refine#[rfl,am λQ' E' c _=>ow o z y P S u (by lia) (by lia) K λp J=>c _ _ (bM J ?_)]
 have e:(xI C s t a b).map (λx=>D.int (x.f:Nat))=cO ((xI C s t a b).map λx=>x.f):=by unfold cO;rw[Uq];rfl
 rw[e];refine#[rfl,am λQ' E' c _=>qW (λ_ _=>rfl) (by simp;lia) λl v G T q=>c _ _ (bM q ?_)]
 refine#[rfl,am λQ' E' c _=>iZ o z y (by lia) (λB I=>?_) (by simp at G;lia) λN H ps w=>c _ _ (ak<|h l v N H ps w)]
 obtain⟨x,g,rfl⟩:=Ul.mp ((v.mem B).mp I).1;exact(j x g).f
end
theorem fM{α:Type}(f:α->D)(p:α->Bool)(g:α->D)(j:ok M):∀(xs:List α)(aaO:List D)(c:Option D),aaO.length+xs.length<=100000->
  (∀x∈xs,∀K:Bool->Mem->Prop,K (p x) M->tt (ap (f x)::e) M K)->(∀x∈xs,∀K:DK,K (g x) M->te (ap (f x)::e) M K)->Q' (aaO++(xs.filter p).map g) M->cU (af 0) tt te ok Q' bx (xs.map f) aaO (c::e) M
 |[],aaO,c,_,_,_,h=>#[j,by simpa using h]
 |x::xs,aaO,c,hl,ht,he,h=>by
  simp only[Uz]at hl;rw[Ud];refine#[j,?_];simp only[af,Uy];refine ht x Uw _ ?_;cases o:p x with
  |true=>
   rw[if_pos rfl];refine he x Uw _ #[fC (by lia),fM f p g j xs _ _ (by simp;lia) (λy i=>ht y (Ui _ i)) (λy i=>he y (Ui _ i)) ?_]
   rw[UA,if_pos o]at h;simpa using h
  |false=>
   rw[if_neg (by simp)]
   refine fM f p g j xs _ _ (by lia) (λy i=>ht y (Ui _ i)) (λy i=>he y (Ui _ i)) ?_
   rw[UA,if_neg (by simp[o])]at h
   exact h
theorem rX:cO (aF B)=(ie B).map kD:=by unfold cO ie;rw[Uq];rfl
theorem ID:iD M (.int (j:Nat)) (jI B)=ap (decide (j∈aF B)):=by
 have f:=ER (ks:=ie B) (k:=.inl (j:Nat));have c:=ly 60 (ie B);unfold iD jI;rw[rX]
 simp_arith! only[aQ]
 rw[c];show (if cN 60 (kD<|.inl (j:Nat))=true/\true=true then ap (((ie B).map kD).any λd=>aR d (kD<|.inl (j:Nat))) else bb)=_
 rw[xW,f];simp only[and_self,if_true];congr 1;simp only[ie,Ul];exact decide_eq_decide.mpr #[λ⟨a,h,e⟩=>Int.ofNat_inj.mp (Sum.inl.inj e)▸h,λh=>#[j,h,rfl]]
theorem PY(c:A<2 ^ n)(f:B<2 ^ n):aR (jI A) (jI B)=decide (A=B):=by
 unfold jI;rw[rX,rX];show gj _ _=_;rw[yh];exact decide_eq_decide.mpr #[kZ c f,λe=>by rw[e]]
theorem Ef:cN 60 (jI A)=true:=by
 unfold jI;rw[rX];exact ly 59 (ie A)
theorem KQ:aR (.lst xs) (.lst [])=xs.isEmpty:=by cases xs<;>rfl
theorem L9(c:A<2 ^ n)(g:B<2 ^ n):(∀j∈aF A,j∈aF B)↔A &&& B=A:=by
 constructor
 .intro h
  refine Xl λi=>?_;rw[X2];cases e:A.testBit i with
  |false=>simp
  |true=>
   have r:i<n:=Vw λz=>by
    rw[VJ (Us c<|UT (by decide)<|by lia)]at e
    cases e
   rw[((bU g).mp<|h i<|(bU c).mpr #[r,e]).2];rfl
 .intro e j o
  obtain⟨q,f⟩:=(bU c).mp o;refine (bU g).mpr #[q,?_];rw[<- e,X2,Vl]at f;exact f.2
theorem uN(c:fits 59 xs=true)(q:K (.bl xs.isEmpty) M):bR (.lst xs) (.lst []) M K:=by
 simp only[bR,dv];refine#[c,rfl,?_];rw[KQ];exact q
theorem Gd(f:A<2 ^ n)(u:B<2 ^ n)(v:n<=100)(h:Q (.bl<|decide (A &&& B=A)) M):AT ad [jI B,jI A] M Q E:=by
 have c:=gG f;rw[T4];unfold zD;have o:aQ M (jI A)=ap (cO<|aF A):=rfl;have r:br (jI A) (cO<|aF A)=[]:=rfl;simp only[az,ah,ao];unfold aO
 simp_arith! only[bE,ac,dt,TZ,o,r,bX,Ud,U2,UH,UB,UZ]
 refine fM (λ(j:Nat)=>D.int (j:Nat)) (λj=>!decide (j∈aF B)) (λ(j:Nat)=>D.int (j:Nat)) aK (aF A) [] _ (by simp;lia) (λj _ K q=>?_) (λj _ K q=>q) ?_
 .simp_arith! only[al,ah,ac,dt,TZ,nU,ID]
  exact q
 intro p i;refine bM i ?_;simp only[bw,ag];refine#[bj (by simp),λl c=>bM c ?_]
 have e:(((aF A).filter λj=>!decide (j∈aF B)).map λ(j:Nat)=>D.int (j:Nat))=((((aF A).filter λj=>!decide (j∈aF B)).map λ(j:Nat)=>(j:Int))).map D.int:=by rw[Uq];rfl
 rw[UB,e];refine uN (hZ _ _) (ak ?_);have g:(((((aF A).filter λj=>!decide (j∈aF B)).map λ(j:Nat)=>(j:Int))).map D.int).isEmpty=decide (A &&& B=A):=by
  rw[W9,W9];refine XX.mpr ?_;rw[decide_eq_true_eq,<- L9 f u,List.isEmpty_iff,Wc];simp
 rw[g];exact h
noncomputable def CU(cl:List Nat)(b:Nat):Bool:=(cl.filter λa=>decide (a≠b)&&decide (a &&& b=a)).isEmpty
def QM(b:Nat):D:=.lst (cO<|aF b)
theorem JD:CU cl b=true↔∀c∈cl,c &&& b=c->c=b:=by
 unfold CU;rw[List.isEmpty_iff,Wc];refine#[λh c e s=>Vw λne=>h c e (by simp[ne,s]),λh c e z=>?_]
 rw[Vl,decide_eq_true_eq,decide_eq_true_eq]at z;exact z.1 (h c e z.2)
theorem Lk(c:cl.Nodup):Lst cl (cl.filter<|CU cl):=#[c.sublist Xn,λb=>by rw[Ur,JD]]
theorem tX{n:Nat}{cl:List Nat}{p:cb}(i:∀N,ok N)(I:M p=bb)(y:n<=100)(f:∀B∈cl,B<2 ^ n)(H:cl.length<=100):
  ∀(Bs l:List Nat)(c:Option D),(∀B∈Bs,B<2 ^ n)->l.length+Bs.length<=1000->(∀R,DD.nx [ap (.lst<|cl.map jI),ap (.ref p),R] (M.upd p<|.lst<|(l++Bs.filter (CU cl)).map QM))->jr (af 2) (iP ad EE) DD ok bx (Bs.map jI) [ap (.lst<|cl.map jI),ap (.ref p),c] (M.upd p<|.lst<|l.map QM)
 |[],l,c,_,_,h=>#[i _,by simpa using h c]
 |b::Bs,l,c,hB,hl,h=>by
  simp only[Uz]at hl;have G:=hB b Uw;rw[Ud];refine#[i _,?_];simp only[af,Uy];unfold iP
  simp_arith! only[aE,al,ah,ao]
  unfold aO
  simp_arith! only[bE,ac,dt,TZ,aQ,br,bX,Ud,U2,UH,UB,UZ]
  refine fM jI (λa=>decide (a≠b)&&decide (a &&& b=a)) (λ_=>D.int 1) aK cl [] _ (by simp;lia) (λa F K q=>?_) (λ_ _ K q=>q) ?_
  .have d:=PY (f a F) G
   have v:∀z N,dv N (jI z)=jI z:=λ_ _=>rfl
   simp_arith! only[kQ,al,cq,ah,ao,aj,aa,ag,ac,dt,TZ,pG,v,d]
   refine#[Ef,Ef,?_]
   by_cases z:a=b
   .rw[decide_eq_true z,decide_eq_false (by simp[z])] at*
    simpa using q
   .rw[decide_eq_false z]
    rw[decide_eq_true z,Bool.true_and]at q;rw[if_pos (by rfl)]
    exact#[rfl,aI (λ_ _ P=>Gd (f a F) G y P) q]
  intro U u;refine bM u ?_;simp only[bw,ag];refine#[bj (by simp),λS x=>bM x ?_]
  rw[UB];have e:∀r:List Nat,(r.map λ_=>D.int 1)=(r.map λ_=>(1:Int)).map D.int:=λr=>by rw[Uq];rfl
  rw[e];refine uN (hZ _ _) ?_;rw[W9,W9];have J:∀g,g++(b::Bs).filter (CU cl)=(if CU cl b=true then g++[b] else g)++Bs.filter (CU cl):=λg=>by
   rw[UA]
   split<;>simp
  rw[J]at h;show onB (D.bl<|CU cl b) _;rw[uz];cases e:CU cl b with
  |true=>
   rw[e,if_pos rfl]at h;rw[if_pos rfl];unfold q_
   simp_arith! only[b6,iN,bn,ao,eG,aa,ag,ac,dt,TZ]
   have O:aQ (M.upd p<|.lst<|l.map QM) (jI b)=ap (cO<|aF b):=rfl
   simp_arith! only[O,cH,Mem.upd_same,true_and,y9]
   intro T o;refine bM o ?_
   simp_arith! only[bf,Mem.upd_same,Mem.upd_upd]
   refine#[fC (by simp;lia),?_]
   have L:l.map QM++[D.lst (cO<|aF b)]=(l++[b]).map QM:=by rw[VM];rfl
   rw[L];exact tX i I y f H Bs (l++[b]) _ (λA j=>hB A (Ui _ j)) (by simp;lia) h
  |false=>
   rw[e,if_neg (by simp)]at h
   rw[if_neg (by simp)]
   simp only[aB];exact tX i I y f H Bs l _ (λA j=>hB A (Ui _ j)) (by lia) h
theorem oX(o:n<=100)(c:∀B∈cl,B<2 ^ n)(q:cl.Nodup)(u:cl.length<64)(h:∀l,Lst cl l->∀N p,Ext M N->N p=bb->Q (.ref p) (N.upd p<|.lst ((kT dh<|l.map nI).map λk=>D.lst (k.map D.int)))):Bo ad [.lst (cl.map jI)] M Q E:=by
 rw[RW];unfold yQ;generalize f:li ad (aJ E)=K3;simp only[ai,aq,bw,ag];refine#[bj (by simp),λp i=>?_]
 simp only[af,Uy];rw[<- f];unfold li
 simp_arith! only[ai,cV,bE,ac,dt,TZ,aQ,br]
 refine tX (λ_=>aK) i o c (by lia) cl [] _ c (by simp;lia) λr=>?_
 simp_arith! only[az,bn,aa,ag,ac,dt,TZ,UB]
 have len:(cl.filter<|CU cl).length<=cl.length:=UK _ _;have e:(cl.filter<|CU cl).map QM=((cl.filter<|CU cl).map nI).map λk=>D.lst (k.map D.int):=by
  rw[Uq];exact UD λB _=>by show QM B=D.lst ((nI B).map D.int);rw[Si];rfl
 rw[e];refine kM (ks:=(cl.filter<|CU cl).map nI) (by simp_arith! only[cG,Mem.upd_same]) (by simp;lia) λj g=>ak (h _ (Lk q) _ j (Ext.new i) g)
theorem wx{ks:aaT}(o:C.Ok)(G:SOk C s)(I:SOk C t)(O:ks.length<=1000)(H:∀k∈ks,k.length<=1000/\∀i∈k,∃j:Nat,i=(j:Int)/\j<(aL C s t).length)(h:∀p,M p=bb->Q (.ref p) (M.upd p<|.lst<|(ks.map<|tY<|aL C s t).map D.lst)):yx ad [bo C s t,.lst (ks.map λk=>D.lst (k.map D.int))] M Q E:=by
 rw[RQ];unfold yP;generalize f:k_ ad (aJ E)=K1
 simp_arith! only[ai,aq,ao,aj,aa,ag,ac,dt]
 refine#[rfl,am λQ' E' F _=>kx o G I λp y=>F _ _ (bM y ?_)];simp only[af,Uy];rw[<- f];unfold k_
 simp_arith! only[az,aO,bE,ac,dt,TZ,aQ,br,bX,Ud,U2,UH,UB,UZ]
 refine fM (λk=>D.lst (k.map D.int)) (λ_=>true) (λk=>D.lst (tY (aL C s t) k)) aK ks [] _ (by simp;lia) (λ_ _ K q=>?_) (λk g K q=>?_) ?_
 .exact q
 .obtain⟨L,z⟩:=H k g
  simp_arith! only[ao,aO,bE,ac,dt,TZ,aQ,br,bX,Ud,U2,UH,UB,UZ]
  refine fM D.int (λ_=>true) (λi=>kD (((aL C s t)[i.toNat]?).getD<|.inl 0)) aK k [] _ (by simp;lia) (λ_ _ K q=>by exact q) (λi x K q=>?_) ?_
  .obtain⟨j,rfl,u⟩:=z i x
   have e:fE ((aL C s t).map kD) ((j:Nat):Int)=ap (kD<|((aL C s t)[j]?).getD<|.inl 0):=by
    rw[bJ (by lia),UM,Um,Uc u];rfl
   simp_arith! only[ah,ac,dt,TZ,av,aQ,e]
   simpa using q
  intro J c;refine bM c ?_;rw[Wz.mpr λ_ _=>rfl];exact q
 intro v r;rw[Wz.mpr λ_ _=>rfl];have:=h v r;rw[Uq]at this;exact ak this
theorem GP(L:M p=ap (.lst xs))(H:xs.length<=100000/\∀x∈xs,Ih n x)(h:Q (.bl true) M):Zf ad (n+2) [.ref p,.lst xs] M Q E:=by
 obtain⟨O,H⟩:=H;simp![kI,gg,t1,t2,t3,t4,t5,L,↓aO];refine bH (λF c U M'=>∃(f:List D)(j:Nat)(g o:Option D),F=f.map _/\(∀z∈f,Ih n z)/\f.length+j<=100000/\c=UG j (.bl true)/\U=[g,o]/\M'=M) (λ_ _ _ _ ⟨_,_,_,_,_,_,_,_,_,e⟩=>by intro r K;simp[br]at K;simp_all) ?_ ?_ ?_ _ _ _ _ #[xs,0,_,_,iX xs,H,by lia,rfl,rfl,rfl]
 .rintro c U M' ⟨f,j,g,o,i,u,G,rfl,rfl,rfl⟩ p v
  simp![Mem.upd_del,au v,dO,jw];exact ak h
 .rintro y F c U M' ⟨f,j,g,o,i,u,G,rfl,rfl,rfl⟩ N I _
  cases f with
  |nil=>simp at i
  |cons z f=>
   obtain⟨rfl,rfl⟩:=i;simp at G;simp![];exact aI (λQ' E' q=>iJ n z M' Q' E' (by simp_all) q) (I _ _ _ (by simp;exact fC (by lia)) #[f,j+1,_,_,rfl,λw J=>u w (Ui _ J),by lia,by rw[Wq],rfl,rfl])
 rintro y F c U M' ⟨f,j,g,o,i,u,G,rfl,rfl,rfl⟩
 simp;exact fC (by lia)
theorem GT:∀ps:List (cb×List D),sE (pH ps) ((ps.map (·.2)).map D.lst)=ps.map λz=>D.tup [.ref z.1,.lst z.2]
 |[]=>rfl
 |z::ps=>by
  have:=GT ps;simp only[sE,pH]at this ⊢;simpa using this
theorem mw(w:Told N M p W ps)(T:W.length<=1000/\∀xs∈W,xs.length<=1000/\∀x∈xs,Ih n x)(h:Q (.bl true) M):Zf ad (n+3) [.ref p,.lst (W.map D.lst)] M Q E:=by
 obtain⟨I,own,no,rfl,ext⟩:=w;obtain⟨S,P⟩:=T;rw[Ub]at S;have O:(pH ps).length=ps.length:=by unfold pH;rw[Ub]
 simp![kI,gg,i6,i7,i8,i9,i10,t1,t2,t3,t4,t5,I,↓aO,O,Ub];rw[if_neg (by decide),if_neg (by decide),if_neg (by simp)]
 refine bH (λF c U M'=>∃(f:List (cb×List D))(j:Nat)(o u:Option D),F=f.map (λz=>D.tup [.ref z.1,.lst z.2])/\(∀z∈f,z∈ps)/\f.length+j<=100000/\c=UG j (.bl true)/\U=[o,u]/\M'=M) (λ_ _ _ _ ⟨_,_,_,_,_,_,_,_,_,e⟩=>by subst e;intro r J;simp only[br,U0,UH,UB,Uj,VV,or_false,y9,Ll,Jm,P3,t_,C8,GS,uz]at J;subst J;exact I) ?_ ?_ ?_ _ _ _ _ #[ps,0,bb,bb,GT ps,λ_ z=>z,by lia,rfl,rfl,rfl]
 .rintro c U M' ⟨f,j,o,u,g,i,G,rfl,rfl,rfl⟩ p v
  simp![Mem.upd_del,au v,dO,jw];exact ak h
 .rintro y F c U M' ⟨f,j,o,u,g,i,G,rfl,rfl,rfl⟩ N K _
  cases f with
  |nil=>simp at g
  |cons z f=>
   simp only[Ud,U7]at g;obtain⟨rfl,rfl⟩:=g;simp only[Uz]at G;simp![];have H:=i z Uw;obtain⟨X,R⟩:=P z.2 (Ul.mpr #[z,H,rfl]);refine aI (d:=.bl true) (λQ' E' q=>GP (n:=n) (own z H) #[by lia,R] q) ?_
   simp![];exact K _ _ _ (by simp;exact fC (by lia)) #[f,j+1,_,_,rfl,λw L=>i w (Ui _ L),by lia,by rw[Wq],rfl,rfl]
 .rintro y F c U M' ⟨f,j,o,u,g,i,G,rfl,rfl,rfl⟩
  simp;exact fC (by lia)
section
variable{t:Sta}{b:Int}
noncomputable def wV(w:Str)(v:Nat->Str)(n:Nat):List Nat:=(Ut<|2 ^ n).filter λB=>decide (v B=w)
theorem ver_in:B∈wV w v n↔B<2 ^ n/\v B=w:=by unfold wV;rw[Ur,UJ,decide_eq_true_eq]
theorem GU:(wV w v n).Nodup:=W7.sublist Xn
theorem sG(c:n<=5):(wV w v n).length<=32:=Uu (UK _ _) (by rw[WY];exact(UT (by decide) c:2 ^ n<=2 ^ 5))
theorem KS:(l.map ie).map Hc=l.map jI:=by rw[Uq];exact UD λB _=>L7
theorem Lq(c:U[i]?=ap (ap<|QX v n))(h:R #[((Ut<|2 ^ n).map ie).map Hc,[]] M):zm (ac i) U M R:=by
 simp_arith! only[zm,ac,c]
 exact h
theorem TB(c:B<2 ^ n)(q:K (decide (v B=w)) M):al (ah bR (ah CP (ac 1)<|ac 0)<|dC<|.str w) [ap (jI B),ap (QX v n)] M K:=by
 simp_arith! only[al,ah,ac,dC,dt,TZ]
 refine TL c ?_;simp only[bR,dv,cN,aR];exact#[trivial,trivial,q]
theorem QP(h:∀i,A.testBit i=true->B.testBit i=true):A &&& B=A:=Xl λi=>by
 rw[X2];cases e:A.testBit i with
 |false=>simp
 |true=>rw[h i e];rfl
theorem Go(p:l.Perm c):kT dh (l.map nI)=kT dh (c.map nI):=xq dh _ _ (jf dh _) (jf dh _) ((dN dh _).trans<|(p.map nI).trans (dN dh _).symm)
theorem FH{l g:List Nat}(h:Lst ((xI C s t a b).map λx=>x.f) l)(h':Lst (wV "faulty" (vB C s t a b) (aL C s t).length) g):kT dh (l.map nI)=kT dh (g.map nI):=by
 refine Go (h.same h' (λy j=>?_) λB i=>?_)
 .obtain⟨x,c,rfl⟩:=Ul.mp j
  obtain⟨e,o⟩:=Ur.mp c;exact ver_in.mpr #[(yN e).f,by rw[Pg e];exact of_decide_eq_true o]
 .obtain⟨x,c,q,r⟩:=OJ (C:=C) (s:=s) (t:=t) (a:=a) (b:=b) (B:=B)
  exact#[x.f,Ul.mpr #[x,Ur.mpr #[c,decide_eq_true<|by rw[r,(ver_in.mp i).2]],rfl],QP q.f]
theorem Oo(e:k∈kT dh (l.map nI)):∃B∈l,k=nI B:=by
 obtain⟨B,c,rfl⟩:=Ul.mp ((dN dh _).mem_iff.mp e);exact#[B,c,rfl]
theorem zO:(kT dh<|l.map nI).length=l.length:=by rw[(dN dh _).length_eq,Ub]
theorem Gv(h:n<=5)(hl:∀B∈l,B<2 ^ n)(g:k∈kT dh (l.map nI)):k.length<=1000/\∀i∈k,∃j:Nat,i=(j:Int)/\j<n:=by
 obtain⟨B,c,rfl⟩:=Oo g;have:=gG (hl B c);refine#[by rw[NY];omega,λi e=>?_]
 obtain⟨j,f,rfl⟩:=Ul.mp e;exact#[j,rfl,((bU<|hl B c).mp f).1]
theorem OW(h:k.length<=1000):(tY us k).length<=1000/\∀x∈tY us k,Ih m x:=by
 unfold tY;refine#[by rw[Ub];exact h,λx c=>?_]
 obtain⟨i,_,rfl⟩:=Ul.mp c;cases (us[i.toNat]?).getD (.inl 0)<;>cases m<;>trivial
theorem w_ok(g:n<=5)(f:∀B∈l,B<2 ^ n)(h:l.length<=1000):((kT dh<|l.map nI).map<|tY us).length<=1000/\∀xs∈(kT dh<|l.map nI).map (tY us),xs.length<=1000/\∀x∈xs,Ih m x:=by
 refine#[by rw[Ub,zO];exact h,λxs c=>?_]
 obtain⟨k,e,rfl⟩:=Ul.mp c;exact OW (Gv g f e).1
theorem JT(h:Lst P l)(nd:P.Nodup):l.length<=P.length:=by
 have:l.Perm (P.filter λb=>decide (b∈l)):=(X9 h.nd<|nd.sublist Xn).mpr λb=>by
  rw[Ur,decide_eq_true_eq];exact#[λz=>#[((h.mem b).mp z).1,z],λz=>z.2]
 rw[this.length_eq];exact UK _ _
structure Bent(N:Mem)(p:cb)(ps:List (cb×List D))(k:Nat):Prop where
 top:N p=ap (.lst<|pH ps)
 no:∀z∈ps,z.1≠p
 own:∀z∈ps,∃xs,N z.1=ap (.lst xs)/\xs.length+k<=3000
theorem Bent.put(h:Bent N p ps (k+1))(o:z∈ps)(e:N z.1=ap (.lst xs))(q:ys.length<=xs.length+1):Bent (N.upd z.1<|.lst ys) p ps k:=by
 refine#[by rw[ae (h.no z o).symm];exact h.top,h.no,λw i=>?_]
 by_cases c:w.1=z.1
 .obtain⟨f,g,j⟩:=h.own w i
  rw[c,e]at g;cases g;exact#[ys,by rw[c,Mem.upd_same],by omega]
 .obtain⟨f,g,j⟩:=h.own w i
  exact#[f,by rw[ae c];exact g,by omega]
end
theorem Di(ad:Ad)(ns:aaU)(Y:ns.length<=63):F7 ad [.ml (ns.map D.int)] (λ_=>bb) (λd _=>d=.bl true) iS:=by
 have fi':∀{v:Int}{M:Mem}{Q:DK},Q (.int v) M->frz (.int v) M Q:=λz=>z;have fb':∀{v:Bool}{M:Mem}{Q:DK},Q (.bl v) M->frz (.bl v) M Q:=λz=>z;rw[TF];unfold C3;generalize hK9:lc ad (aJ iS)=K9
 simp_arith! only[ai,aq,aj,aa,ag,ac,dt]
 refine#[rfl,am λQ' E' f _=>GO λk M1 hk _=>f _ _ ?_];simp only[af,Uy];rw[<- hK9];unfold lc;generalize hK8:lN ad (aJ iS)=K8
 simp_arith! only[ai,aq,ao,aj,aa,ag,ah,ac,dC,dt,TZ]
 refine#[rfl,aN hk (by decide) (by decide) λr M2 a2 b2 d2=>fi' ?_]
 simp_arith! only[bc]
 obtain⟨j,H,f1,f5⟩:∃j:Nat,1+r=(j:Int)/\1<=j/\j<=5:=#[(1+r).toNat,by lia,by lia,by lia]
 rw[H];refine#[rfl,am λQ' E' f _=>Cu f1 f5 d2.1 λC s t M3 c q3=>f _ _ (G2 ?_)];obtain⟨a,b,ea,eb,P⟩:=c.two;have hu:=c.un;have u:(aL C s t).length<=5:=by lia
 simp only[af,Uy];rw[<- hK8];unfold lN;generalize Z:lH ad (aJ iS)=K7
 simp_arith! only[ai,aq,Ep,aj,aa,ag,ac,dt,TZ]
 refine#[rfl,am λQ' E' f _=>pv c.o c.hs c.ht ea eb (by lia) P λp J=>f _ _ (Le J ?_)]
 have same:=@FH C a s t b;have ask:=λ(L:Nat)(M:Mem)(Q:DK)(E:DX)=>jF (L:=L) (ad:=ad) (M:=M) (Q:=Q) (E:=E) c.o c.hs c.ht ea eb P u;generalize vB C s t a b=v at *;simp only[af,Uy];rw[<- Z];unfold lH;generalize hK6:lD ad (aJ iS)=K6
 simp_arith! only[ai,aq,ao,aj,aa,ag,ac,dt,TZ]
 unfold aO;refine Lq (v:=v) (n:=(aL C s t).length) rfl ?_;rw[KS];refine fM jI (λB=>decide (v B=("faulty":Str))) jI aK _ [] _ (by have:=sG (v:=v) (w:="faulty") u;simp;have:2 ^ (aL C s t).length<=2 ^ 5:=UT (by decide) u;lia) (λB O K q=>TB (UJ.mp O) q) (λB _ K q=>?_) ?_
 .exact q
 intro X hp1;refine bM hp1 ?_;rw[UB];show _/\_;have I:∀B∈wV "faulty" v (aL C s t).length,B<2 ^ (aL C s t).length:=λB O=>(ver_in.mp O).1;refine#[rfl,am λQ' E' f _=>oX (cl:=wV "faulty" v (aL C s t).length) (n:=(aL C s t).length) (by lia) I GU (by have:=sG (v:=v) (w:="faulty") u;lia) λl Y N p ex J=>f _ _ (bM J ?_)]
 have ll:l.length<=32:=Uu (JT Y GU) (sG u);have S:∀B∈l,B<2 ^ (aL C s t).length:=λB O=>I B ((Y.mem B).mp O).1;refine#[rfl,am λQ' E' f _=>wx c.o c.hs c.ht (by rw[zO];lia) (λk hk=>Gv u S hk) λp J=>f _ _ (bM J ?_)]
 have go:∀(L:Nat)(M:Mem)(Q:DK)(E:DX),64<=L->L<=10000->(∀N p g,Told M N p ((kT dh<|l.map nI).map<|tY<|aL C s t) g->Q (.ref p) N)->pL ad [bo C s t,.int (L:Nat)] M Q E:=λL M Q E h1 h2 h=>ask L M Q E h1 h2 λl' hl' N p g w=>h N p g (by rw[same hl' Y]at w;exact w)
 have ok:=w_ok (us:=aL C s t) (m:=21) u S (by lia)
 generalize (kT dh<|l.map nI).map (tY<|aL C s t)=W at *;simp only[af,Uy];rw[<- hK6];unfold lD;generalize hK5:ma ad (aJ iS)=K5
 simp_arith! only[ai,aq,y3,aa,ag,ac,dt,TZ]
 refine#[rfl,am λQ' E' f _=>go 500 _ _ _ (by decide) (by decide) λN1 X g w=>f _ _ ?_]
 simp only[af,Uy];rw[<- hK5];unfold ma;generalize hK4:lO ad (aJ iS)=K4
 simp_arith! only[ai,aE,fH,cq,ao,aj,aa,ag,ac,dt,TZ]
 refine#[rfl,aI (λ_ _ q=>mw (n:=21) w ok q)<|fb' ?_]
 simp_arith! only[DM,Yr]
 rw[if_neg (by simp)]
 simp only[aB];rw[<- hK4];unfold lO;generalize hK3:lY ad (aJ iS)=K3;have pl:g.length<=1000:=by have:=congrArg VD w.w;rw[Ub]at this;rw[this];exact ok.1
 have R:Bent N1 X g g.length:=#[w.top,w.no,λz hz=>#[z.2,w.own z hz,by have:=(ok.2 z.2<|by rw[<- w.w];exact Ul.mpr #[z,hz,rfl]).1;lia]]
 simp_arith! only[ai,cV,bE,ac,dt,TZ,aQ,w.top]
 refine cu (λys U N=>∃(i:List (cb×List D))(T:Option D),ys=pH i/\(∀z∈i,z∈g)/\Bent N X g i.length/\U=[ap (.ml<|ns.map D.int),ap (.ref k.p),ap (bo C s t),ap (QX v (aL C s t).length),ap (.lst<|W.map D.lst),ap (.ref X),T]) ?_ ?_ ?_ _ _ _ #[g,_,rfl,λ_ z=>z,R,rfl]
 .rintro ys U N ⟨i,T,_,_,G,_⟩ r hr
  simp only[br,Uj,VV,or_false,y9,Ll,Jm,P3,t_,C8,GS,uz]at hr;subst hr;exact G.top
 .rintro U N ⟨i,T,e,_,G,rfl⟩
  rw[<- hK3];unfold lY;generalize hK2:m5 ad (aJ iS)=K2
  simp_arith! only[ai,b6,iN,aa,ag,ac,dt,TZ,cH,G.top,true_and,iY]
  rw[<- hK2];unfold m5 az
  simp_arith! only[aj,aa,ag,ac,dC,dt,TZ]
  refine#[rfl,am λQ' E' f _=>go 64 _ _ _ (by decide) (by decide) λN2 p2 ps2 w2=>f _ _ ?_]
  refine#[rfl,aI (λ_ _ q=>mw (n:=21) w2 ok q) ?_];dsimp only;exact ak rfl
 .rintro x xs U N ⟨i,T,e,F,G,rfl⟩ D' hnx _ _ _
  cases i with
  |nil=>simp[pH]at e
  |cons z i=>
   simp only[pH,Ud,U7]at e;obtain⟨rfl,rfl⟩:=e;obtain⟨xs,ex,lx⟩:=G.own z (F z Uw);simp only[Uz]at G lx;simp only[af,Uy];unfold tJ
   simp_arith! only[b6,iN,aa,ag,dC,ac,dt,TZ,cH,ex,true_and,bf]
   exact#[fC (by lia),hnx _ _ #[i,_,rfl,λy hy=>F y (Ui _ hy),G.put (F z Uw) ex (by simp),rfl]]
end _T
namespace _T
open PySem _2 _3
def Es(K:Ug):Sp:=λb H Q _=>∃(a:cb)(ns:aaU),b=[.ref a]/\Ey H/\SqL K H a (ns.map V.int)/\ns.length<=63/\∀H',Q (.bl true) H'
theorem Oz{l:W.OpenLaw}{f6 f7 f8 f9 f10 f11 f12 f13 f14 f15 f16 f17 f18 f19 f20 f21 f22 f23 f24 f25 f26 f27 f28 f29 f30 f31 f32 f33 f34 f35 f36 f37 f38 f39 f40 f41 f42 f43 f44 f45 f46 f47 f48 f49 f50 f51 f52 f53 f54 f55 f56 f57 f58 f59 S f61 f62 f63 f64 f65 f66 f67 f68 f69 f70:cb}(X:K.In h)(G:h.Ns eH mg)(hfa:mg "law"=ap (.ref fa))
  {e1 e2 e3 e4 e5 e6 e7 e8 e9 e10 e11 e12 e13 e14 e15 e16 e17 e18 e19 e20 e21 e22 e23 Y e25 e26 e27 e28 e29 e30 e31 e32 e33 e34 U e36 e37 e38 e39 e40 e41 e42 e43 e44 e45 e46 e47 e48 e49 e50 e51 e52 e53 e54 e55 e56 e57 e58 R e60 e61 e62 e63 e64 e65 e66 Z e68 e69 e70:f'}
  (p:Vp K eH "Ends"=ap (ap<|.ref C_Ends))
  (n:Vp K eH "Going"=ap (ap<|.ref C_Going))
  (g:Vp K eH "Outcome"=ap (ap<|.ref C_Outcome))
  (u:Vp K eH "Walk"=ap (ap<|.ref C_Walk))
  (x:Vp K eH "Dry"=ap (ap<|.ref C_Dry))
  (m:Vp K eH "NoCase"=ap (ap<|.ref C_NoCase))
  (i:Vp K eH "TooMany"=ap (ap<|.ref C_TooMany))
  (l1:Mf K C_Walk "__init__" "Walk.__init__" TU f1 e1)
  (l2:Mf K C_Walk "note_step" "Walk.note_step" Td f2 e2)
  (l3:Mf K C_Walk "look" "Walk.look" N3 f3 e3)
  (l4:Nf K "run" LV f4 e4)
  (l5:Nf K "mark" MU f5 e5)
  (l6:Nf K "do_rows" Mg f6 e6)
  (l7:Af K "do_row_runs" "do_row" LD f7 e7)
  (l8:Nf K "do_if" MW f8 e8)
  (l9:Nf K "do_again" Ly f9 e9)
  (l10:Nf K "number_of" Nk f10 e10)
  (l11:Nf K "piece_read" Ls f11 e11)
  (l12:Nf K "joined" LZ f12 e12)
  (l13:Nf K "all_things" Lu f13 e13)
  (l14:Nf K "in_order" Lw f14 e14)
  (l15:Nf K "number_in" LM f15 e15)
  (l16:Nf K "names_read" Nh f16 e16)
  (l17:Nf K "unlike" N0 f17 e17)
  (l18:Nf K "marks" Mi f18 e18)
  (l19:Nf K "unlike_of" LK f19 e19)
  (l20:Nf K "verdict_of" Nl f20 e20)
  (l21:Mf K C_Going "__init__" "Going.__init__" T2 f21 e21)
  (l22:Mf K C_Going "settled" "Going.settled" SB f22 e22)
  (l23:Mf K C_Ends "__init__" "Ends.__init__" RM f23 e23)
  (l24:Mf K C_Ends "one_more" "Ends.one_more" Sl f24 Y)
  (l25:Nf K "start" MD f25 e25)
  (l26:Nf K "put_ahead" Mb f26 e26)
  (l27:Nf K "go_on" ME f27 e27)
  (l28:Nf K "asked_by" MG f28 e28)
  (l29:Af K "do_row_trees" "do_row" Mh f29 e29)
  (l30:Nf K "mark_of" MP f30 e30)
  (l31:Nf K "both_ways" Mw f31 e31)
  (l32:NV K "tree" MY f32 e32 (500))
  (l33:Nf K "grown" MF f33 e33)
  (l34:Mf K C_Outcome "__init__" "Outcome.__init__" R6 f34 e34)
  (l35:Nf K "outcomes" Ms f35 U)
  (l36:Nf K "numbers_of" Na f36 e36)
  (l37:Nf K "mix_of" LR f37 e37)
  (l38:NV K "least_causes" Mp f38 e38 (500))
  (l39:Nf K "causes_met" LW f39 e39)
  (l40:Nf K "least_of" Me f40 e40)
  (l41:Nf K "mixes_in_order" S7 f41 e41)
  (l42:Nf K "_law_stirred" MQ f42 e42)
  (l43:Nf K "_law_pot" Lx f43 e43)
  (l44:Nf K "_law_draw" LB f44 e44)
  (l45:Nf K "_law_names" MV f45 e45)
  (l46:Nf K "_law_row" LQ f46 e46)
  (l47:Nf K "_law_block" Mo f47 e47)
  (l48:Nf K "_law_rows" Ml f48 e48)
  (l49:Nf K "_law_plan" Mx f49 e49)
  (l50:Nf K "_law_stand" LU f50 e50)
  (l51:Nf K "_law_becomes" LF f51 e51)
  (l52:Nf K "_law_stepped" MS f52 e52)
  (l53:Nf K "_law_rounds" LI f53 e53)
  (l54:Nf K "_law_done" LJ f54 e54)
  (l55:Nf K "_law_run" Mu f55 e55)
  (l56:Nf K "_law_flat" Mm f56 e56)
  (l57:Nf K "_law_marks" My f57 e57)
  (l58:Nf K "_law_other" Lz f58 e58)
  (l59:Nf K "_law_by_name" MM f59 R)
  (l60:Nf K "_law_by_piece" SN S e60)
  (l61:Nf K "_law_case" LA f61 e61)
  (l62:Nf K "_law_things" MC f62 e62)
  (l63:Nf K "_law_mixed" Lv f63 e63)
  (l64:Nf K "_law_subsets" MT f64 e64)
  (l65:Nf K "_law_verdicts" S3 f65 e65)
  (l66:Nf K "_law_has" Ni f66 e66)
  (l67:Nf K "_law_least" LG f67 Z)
  (l68:Nf K "_law_told" Nm f68 e68)
  (l69:Nf K "_law_alike" LC f69 e69)
  (C:Nf K "law" km f70 e70)
  (ZY:YU K C_Dry [.type "ValueError",.type "Exception",.type "BaseException",.type "object"] "ValueError.__new__"=true)
  (ZE:YU K C_NoCase [.type "ValueError",.type "Exception",.type "BaseException",.type "object"] "ValueError.__new__"=true)
  (ZD:YU K C_TooMany [.type "ValueError",.type "Exception",.type "BaseException",.type "object"] "ValueError.__new__"=true)
  (ZL:Ws K C_Ends XN=true)
  (ZM:Ww K C_Ends=true)
  (ZN:W5 K C_Ends=true)
  (ZO:U1 K (.ref C_Ends) "__setattr__"=ap (ap<|.builtin "object.__setattr__"))
  (ZP:Xe K C_Ends=true)
  (ZQ:Vq K (.ref C_Ends)=true)
  (ZF:Ws K C_Going XN=true)
  (ZG:Ww K C_Going=true)
  (ZH:W5 K C_Going=true)
  (ZI:U1 K (.ref C_Going) "__setattr__"=ap (ap<|.builtin "object.__setattr__"))
  (ZJ:Xe K C_Going=true)
  (ZK:Vq K (.ref C_Going)=true)
  (Zw:Ws K C_Outcome XN=true)
  (Zx:Ww K C_Outcome=true)
  (Zy:W5 K C_Outcome=true)
  (Zz:U1 K (.ref C_Outcome) "__setattr__"=ap (ap<|.builtin "object.__setattr__"))
  (ZA:Xe K C_Outcome=true)
  (ZC:Vq K (.ref C_Outcome)=true)
  (ZR:Ws K C_Walk XN=true)
  (ZT:Ww K C_Walk=true)
  (ZU:W5 K C_Walk=true)
  (ZV:U1 K (.ref C_Walk) "__setattr__"=ap (ap<|.builtin "object.__setattr__"))
  (ZW:Xe K C_Walk=true)
  (ZX:Vq K (.ref C_Walk)=true)
  (Zp:U1 K (.ref C_Ends) "count"=ap bb)
  (Zq:U1 K (.ref C_Ends) "limit"=ap bb)
  (Zr:U1 K (.ref C_Going) "left"=ap bb)
  (Zk:U1 K (.ref C_Going) "numbers"=ap bb)
  (Zm:U1 K (.ref C_Going) "pieces"=ap bb)
  (Zs:U1 K (.ref C_Going) "todo"=ap bb)
  (Zh:U1 K (.ref C_Going) "unsettled"=ap bb)
  (Zj:U1 K (.ref C_Outcome) "faulty"=ap bb)
  (Zl:U1 K (.ref C_Outcome) "sound"=ap bb)
  (Zi:U1 K (.ref C_Outcome) "verdict"=ap bb)
  (Zu:U1 K (.ref C_Walk) "most"=ap bb)
  (Zn:U1 K (.ref C_Walk) "numbers"=ap bb)
  (Zo:U1 K (.ref C_Walk) "pieces"=ap bb)
  (Zv:U1 K (.ref C_Walk) "plan"=ap bb)
  (Zt:U1 K (.ref C_Walk) "steps"=ap bb)
  (I:Vp K eH "all"=ap bb)
  (O:Vp K eH "any"=ap bb)
  (A:Vp K eH "bool"=ap bb)
  (z:Vp K eH "dict"=ap bb)
  (c:Vp K eH "enumerate"=ap bb)
  (J:Vp K eH "int"=ap bb)
  (b:Vp K eH "isinstance"=ap bb)
  (L:Vp K eH "len"=ap bb)
  (y:Vp K eH "list"=ap bb)
  (B:Vp K eH "max"=ap bb)
  (P:Vp K eH "min"=ap bb)
  (r:Vp K eH "range"=ap bb)
  (f:Vp K eH "reversed"=ap bb)
  (o:Vp K eH "sorted"=ap bb)
  (N:Vp K eH "str"=ap bb)
  (q:Vp K eH "tuple"=ap bb)
  (M:Vp K eH "zip"=ap bb):
  ∃fd:f',(∀(s:ca)(v:ay),aad s fd #[[v],[]] [("script",v)])/\∀j:g4,K.In j->j.Ns eH mg->FnOk l.prog w K mg j CX0 34 fa fd ["script"] (Es K):=by
 have e:=hfa.symm.trans (WM X G C.a);cases e;obtain⟨_,_,kV,dc,pm,an,cd,ct,_,rfl,_⟩:=C.F.ex;refine#[Wt "law" "law" (ck km) (bv km) (aP km) .none kV dc pm an cd ct,λs v=>.of_eq rfl,λj _ _=>?_]
 let ad:Ad:=#[C_Ends,C_Going,C_Outcome,C_Walk,C_Dry,C_NoCase,C_TooMany,f1,f2,f3,f4,f5,f6,f7,f8,f9,f10,f11,f12,f13,f14,f15,f16,f17,f18,f19,f20,f21,f22,f23,f24,f25,f26,f27,f28,f29,f30,f31,f32,f33,f34,f35,f36,f37,f38,f39,f40,f41,f42,f43,f44,f45,f46,f47,f48,f49,f50,f51,f52,f53,f54,f55,f56,f57,f58,f59,S,f61,f62,f63,f64,f65,f66,f67,f68,f69,fa,e1,e2,e3,e4,e5,e6,e7,e8,e9,e10,e11,e12,e13,e14,e15,e16,e17,e18,e19,e20,e21,e22,e23,Y,e25,e26,e27,e28,e29,e30,e31,e32,e33,e34,U,e36,e37,e38,e39,e40,e41,e42,e43,e44,e45,e46,e47,e48,e49,e50,e51,e52,e53,e54,e55,e56,e57,e58,R,e60,e61,e62,e63,e64,e65,e66,Z,e68,e69,Wt "law" "law" (ck km) (bv km) (aP km) .none kV dc pm an cd ct]
 have T:En l.prog w K mg j ad:=#[#[ZL,ZM,ZN,ZO],
  WM X G p,
  #[ZF,ZG,ZH,ZI],
  WM X G n,
  #[Zw,Zx,Zy,Zz],
  WM X G g,
  #[ZR,ZT,ZU,ZV],
  WM X G u,
  Zp,
  Zq,
  Zr,
  Zk,
  Zm,
  Zs,
  Zh,
  Zj,
  Zl,
  Zi,
  Zu,
  Zn,
  Zo,
  Zv,
  Zt,
  iG X ZY,
  WM X G x,
  iG X ZE,
  WM X G m,
  iG X ZD,
  WM X G i,
  U3 X G I,
  U3 X G O,
  U3 X G A,
  U3 X G z,
  U3 X G c,
  U3 X G J,
  U3 X G b,
  U3 X G L,
  U3 X G y,
  U3 X G B,
  U3 X G P,
  U3 X G r,
  U3 X G f,
  U3 X G o,
  U3 X G N,
  U3 X G q,
  U3 X G M,
  gi ZW ZX l1,
  gm l2,
  gm l3,
  gf X G l4,
  gf X G l5,
  gf X G l6,
  ga X G l7,
  gf X G l8,
  gf X G l9,
  gf X G l10,
  gf X G l11,
  gf X G l12,
  gf X G l13,
  gf X G l14,
  gf X G l15,
  gf X G l16,
  gf X G l17,
  gf X G l18,
  gf X G l19,
  gf X G l20,
  gi ZJ ZK l21,
  gm l22,
  gi ZP ZQ l23,
  gm l24,
  gf X G l25,
  gf X G l26,
  gf X G l27,
  gf X G l28,
  ga X G l29,
  gf X G l30,
  gf X G l31,
  gv X G l32 rfl λ_ _ _ _ _ _ _ _=>#[λ_=>#[_,rfl,rfl],λ_ _=>#[_,rfl,rfl]],
  gf X G l33,
  gi ZA ZC l34,
  gf X G l35,
  gf X G l36,
  gf X G l37,
  gv X G l38 rfl λ_ _ _ _ _ _ _ _=>#[λ_=>#[_,rfl,rfl],λ_ _=>#[_,rfl,rfl]],
  gf X G l39,
  gf X G l40,
  gf X G l41,
  gf X G l42,
  gf X G l43,
  gf X G l44,
  gf X G l45,
  gf X G l46,
  gf X G l47,
  gf X G l48,
  gf X G l49,
  gf X G l50,
  gf X G l51,
  gf X G l52,
  gf X G l53,
  gf X G l54,
  gf X G l55,
  gf X G l56,
  gf X G l57,
  gf X G l58,
  gf X G l59,
  gf X G l60,
  gf X G l61,
  gf X G l62,
  gf X G l63,
  gf X G l64,
  gf X G l65,
  gf X G l66,
  gf X G l67,
  gf X G l68,
  gf X G l69,
  gf X G C]
 exact(ND<|Qr T).imp λvs H Q E ⟨a,ns,e,hO,hS,hl,k⟩=>by subst e;exact IF hO hS (Di ad ns hl) k
theorem walk{l:W.OpenLaw}{K:Params->Ug}(o:l.most=ap 63)(e:d.params.defaults=[])
  (p:∀(w:fx)(h:g4),YP w h->(K w.params).In h)
  (F:∀(w:fx)(c:aa2)(fa:cb)(h:g4),(K w.params).In h->h.Ns eH c->c d.name=ap (.ref fa)->
   ∃fd:f',(∀(s:ca)(u:ay),aad s fd #[[u],[]] [("script",u)])/\∀b:g4,(K w.params).In b->b.Ns eH c->FnOk l.prog w (K w.params) c b CX0 34 fa fd ["script"] (Es<|K w.params)):
  W.WalkO q loose XP YP l.row.toRowW d [] (λf vs=>YT f vs):=
 _2.JL (n:=63) (k:=34) (x:="script") (CX:=λ_=>CX0) (sp:=λw=>Es (K w.params)) o (by decide) e #[rfl,by decide,by decide,rfl] p F (λ_ _ a j m g i=>#[a,j,rfl,g,i,m,λ_=>rfl]) λ_ _ _ _ _ z=>z
end _T
open PySem PySem.W PyProof.Rows
structure PySem.W.Fast:Prop where
 (tw5129911717686342500 tw1243265089696091146 tw3182692127007082016 tw16226424655114858992 tw7613461889592467617 tw6956578834845464277 tw8969035993952794931 tw13692432773781525836 tw2486306896893785096 tw17681483031862119223 tw10867995044457989792 tw9128719837315782261 tw18183101248382108023 tw14349584412302023695 tw16820849689412542867 tw9057987009688145600 tw15153910583759129042 tw4363073091075731168 tw1971583483454600869 tw15880600309806203923 tw1181376078235071869 tw8100315819155396752 tw12928270779825220391 tw2787753818956419231 tw17425502389107248974 tw12427322658058458323 tw15999530094408121553 tw5984654042051045943 tw17793324835658467775 tw12748315087511699867 tw5174014498109541476 tw292240313409184546 tw5504762466316878702 tw902412750889399048 tw7934353571680265550 tw4163831056424306198 tw11887663590728398741 tw10836386418408517547 tw10496897729557167181 tw14628275634148603055 tw8971513361106466493 tw16706121951616082017 tw11247854526326730729 tw1380669035452868725 tw10851485206757813214 tw16902478277872821105 tw14950553224521683581 tw2332920772756228354 tw13938003770836971698 tw9548649202479131678 tw14058683817036606882 tw13049269316241137130 tw11395386890123729398 tw4363991083909207810 tw13903259991391656289 tw3342150539678711431 tw5525328188505376988 tw5879802959041909707 tw1805682048512954716 tw2194876809658769784 tw8680373387488241918 tw10278077909104444411 tw11789857523740230968 tw12465461208261942207 tw11302452303874078241 tw3875917044326058606 tw4771299048882813253 tw12730057069723227523 tw17001811982933012116 tw1153856075773859783 tw6889667959908190957 tw10020252978090781269 tw1898209970413799236 tw11740456529685317306 tw3396385388385407989 tw12351245385202221248 tw13436906417227405109 tw5563400119008681409 tw4010505971784533550 tw16743378896570139227 tw11869202181141194886 tw14222332988001115627 tw8719823954163460744 tw14791492286308623516 tw17762119159183076802 tw10953450966603687773 tw12714281780412858020 tw17127052823880007870 tw2193296279192907859 tw177443248392530604 tw341581062041907691 tw7428118032013822457 tw4773858409600259051 tw17174098762710507732 tw15582624753378322039 tw5017591874445927017 tw172534392123112413 tw6703961334157041674 tw3018328430762698036 tw17811000308635644759 tw4789943983216490537 tw4510748558191772408 tw533214534369825840 tw7187505545448583806 tw4357786679575773813 tw15303805902576976845 tw1296246542070457954 tw5782655569158160416 tw16246884241917248599 tw12536627414152908856 tw1671655365967113617 tw10711924162783556223 tw13749672657166471673 tw2276669074762557636 tw5461531543424602631 tw2632455437566639090 tw1469487362880984681 tw1231111277608635031 tw10759967668885742485 tw259901405424453855 tw3862623711240477625 tw2359991420227183165 tw13780647859220129840 tw18217967294471356661 tw6845447958373579404 tw7930511515648941209 tw18060924997264737279 tw12306506744588794962 tw7936316663189305569 tw16492170356521993756 tw5367729774320571475 tw16048205563803870852 tw8996729088814312984 tw17036841499737331543 tw14090982987704475806 tw431036025120174653 tw9173602925302635906 tw1214772095700008369 tw17714640574206327843 tw7202271690108920580 tw11826864647868642567 tw1221649405892077148 tw17543336807045275353 tw5721651046328389202 tw11456663345596503621 tw13069000256740406091 tw11306918256855818354 tw2254963328844184411 tw1684230664342534134 tw15457014196300339918 tw16135214710773049825 tw11551610564922246243 tw10490416109972824724 tw3613393126785398966 tw4668437064482429478 tw10678136458617591251 tw3909155560188842215 tw6571294898530754153 tw7752192536494726778 tw2997588553074486287 tw9281630559565239304 tw8582150365642173024 tw5082777876783483851 tw9049115623243241724 tw4502854276286986414 tw14657896546155429901 tw9635537741887971111 tw3803506526546484661 tw1839377100179159766 tw5194448073042617997 tw8037081223416387824 tw7715007346468809224 tw6574860966694210788 tw1527854355046127180 tw6847737136313145912 tw9553165881861842034 tw6567074564198282108 tw4559450089768677356 tw1754315973592993836 tw13876668170861268173 tw7907526695257850829 tw18384476622103690659 tw12882614905918404310 tw1392027226828911740 tw18323231618170434894 tw10383799425876123651 tw8030607944435274857 tw15001365193013845476 tw17881222722156786682 tw16547939885718477080 tw15565990568173372472 tw10137771520913994679 tw16738086743317622476 tw13613075997808688499 tw2389835802651791102 tw15497829506703324592 tw1409294750432142691 tw8910470377343392606 tw3114218262873246443 tw17552066758959060375 tw14522966163632576598 tw4238483504468400116 tw18141386011997577141 tw3331594594946275856 tw5986999819037582157 tw5668668314422385310 tw18429817945632891731 tw6050569933555642781 tw5847639763054690378 tw16138630504234155619 tw7109144542056538963 tw16487714820466366389 tw5114517538785185604 tw4238995211267527814 tw6297109290680816016 tw3313444827560723925 tw16122169066221434219 tw2819456487771433369 tw12563057798035563655 tw5442369999649802390 tw8464267587391112843 tw3134266964750419928 tw12186671085436486198 tw1787570070851870331 tw2465095427006630796 tw2486385627144215968 tw7354988225413259839 tw1022091403301034345 tw7779401650961848212 tw14473403152261167742 tw3761781270192639853 tw5740612702350542841 tw14057720015024935643 tw15408423446022412550 tw6514374899432621844 tw7827303546130114884 tw6326898718832398604 tw15666686305921730533 tw8436178871161142085 tw9317793416897664314 tw4569299223218601741 tw10757913175354253289 tw18265600816866052007 tw10505130817967894567 tw14140074772282080400 tw7481739484925903797 tw511452231916029436 tw10488308801064812202 tw16794780134311502851 tw11407949255421392101 tw17021038747149940032 tw7574209790495076342 tw10599572162508672867 tw6704750444176879354 tw16235921012369737173 tw6146630843893849683 tw12379231112178338255 tw3838053891358341943 tw8280029970788782206 tw16768831077346221662 tw9783781737901172064 tw17854745442119012311 tw9624212661519164124 tw5972529412447186010 tw14062583294178534377 tw5183556886517516968 tw8950624520325896175 tw17631185408486445812 tw1157870741245340953 tw10694209114822423030 tw15868224643487687483 tw18368825469473142085 tw8088742812662873891 tw2233059958081049316 tw6478593438953958957 tw11056117859403386035 tw17397452304590166264 tw8772172240130591988 tw12297162663879166127 tw11455765357232471122 tw16245001126496531941 tw8138813100464979226 tw794693162311910766 tw14675620937595855162 tw12095983397081284277 tw9466493321830110902 tw11706307403875538875 tw14921969672517711596 tw16747689086214446944 tw2418809515508195925 tw14342341930388709757 tw12849474293151486630 tw10411328722895684881 tw2343765265566882546 tw1167886481528777705 tw3190024634642623661 tw13891613598191117998 tw3269053445641547035 tw4259662938223096937 tw17088991133165496804 tw9299578941625742874 tw4408407694088483772 tw1039903291038229395 tw15272936076171551073 tw17965485615562482085 tw6142287703855012713 tw9598439248080276742 tw388950472951032108 tw17215762455714378056 tw15684227277478108264 tw9910544849125845581 tw18319560858595902670 tw10323482249811983241 tw7050238092217076951 tw4529975518656781897 tw1139213881395670720 tw13628502891548092360 tw15697227870493527867 tw18235382186348507656 tw4514128935732091159 tw1746904174231860647 tw15641175045049057690 tw13381691646449937229 tw11306097916404419644 tw11832949132314421360 tw1244413746326452571 tw15931792686961893370 tw3466348623669186605 tw2308227801169268905 tw7150982158275509546 tw6934324039034842306 tw4835660707573571853 tw16955576801882242440 tw8801989488714469719 tw2268944760094389614 tw7308516012398783307 tw5278934293578493954 tw15096997660864925507 tw12055529564867857551 tw14419080944465875508 tw2189906653981387947 tw190916181322272597 tw15889942927595675422 tw8030198108611230111 tw12176363900487770868 tw5833398862461601146 tw11407352239528044328 tw6165237467090481382 tw3209450954938119508 tw981573761256069019 tw1966484706916149321 tw8750657006020399005 tw12789054656078996156 tw15207420400592279142 tw18333682515257738889 tw4613494556749978598 tw6373982072684158610 tw11261884798172828146 tw11161944839831138111 tw1328025809915654443 tw17409310044587615253 tw4744461609924904436 tw13460499897761933788 tw7986865259403621619 tw489985296160785355 tw4049559149344503109 tw5627316737502555013 tw16230950879461604148 tw9057074830343153782 tw2634334529626825075 tw16107219762654875151 tw16750849453019421243 tw14984289858896052216 tw4028409687268925864 tw3005678707751445667 tw7547688542400250773 tw10872498557641997212 tw3220552587729420202 tw15846798680378678269 tw3462746086840569818 tw11554624134658513133 tw2965429821994325969 tw16281160561403382023 tw7113996926572817324 tw17173742322582544128 tw1481560642682441724 tw13077941014890608685 tw2536668386667435281 tw880371357289280452 tw11401409644675770228 tw3334755772312792576 tw323872141089711543 tw6508285867874054976 tw8356887712963481560 tw11905145196566050313 tw2501591894251779761 tw8702718033173469248 tw12552079285151281714 tw12288466549018367474 tw6074780927258150255 tw15861936249312538148 tw12569161878655490385 tw14181108905595198348 tw18239680482523186208 tw9799244041468384801 tw3569487734048384686 tw16167110612159499683 tw15443904314772323753 tw7207587126522646064 tw15140240097389443421 tw964299987164083427 tw1951617089113846884 tw10781516773049002074 tw11818579443538382324 tw2717595596170074049 tw16341269312193789778 tw16784790378489523549 tw3576779036969029420 tw9629263080640565888 tw6089067064900170745 tw4603053482334384137 tw15145885081244278445 tw12668507428961249061 tw14134794626260511430 tw10815527541176985061 tw17059002547066007651 tw13951242699012757881 tw3404215208089135306 tw17285738341813603379 tw2911094473577824934 tw8195912946887901890 tw4603176539644988954 tw12316065552215660337 tw9695944904235473303 tw789206980042120891 tw15644316476930407410 tw8321004871218506884 tw11782834129737118042 tw4571743337940596387 tw1851848546028441040 tw5260673330282119484 tw6843499622089818811 tw11986144776850729381 tw13900848836109670539 tw10191620420377726850 tw953172055535562999 tw15168238027240661358 tw11408533669681870421 tw14510779775700822592 tw617066816262460686 tw16385468446777153812 tw15448387406323933220 tw18423287088257281831 tw8041657016501257738 tw9491651013831806848 tw2688805330506315764 tw217659738552327434 tw3214650799459214207 tw2406048678123986050 tw680900360280437313 tw5065033734508873073 tw10788719652397013300 tw3967563454279350768 tw11171666287412400940 tw15130094644352533546 tw2182302408035806903 tw13996542228797408157 tw2827353862079934383 tw266055069996697053 tw7751572388539546665 tw10527611700318895747 tw11639240940462155952 tw16748665462523754178 tw7877649055407090818 tw13997209593327830441 tw743727821353108652 tw1294793467739759753 tw5336389895482120638 tw15261133098178836132 tw17845506269758314965 tw1053939344816857641 tw17093678296530229062 tw1297195655163764259 tw2854134509658140832 tw11466366934835398088 tw5713321742171820579 tw15317609501496078722 tw3225523261714501201 tw6300526107159538463 tw10726056931307112434 tw13126367578358720916 tw4559079202705931513 tw8098602381212494962 tw8698295581957224538 tw9214879004248567865 tw12995521047651011925 tw10308135989386855990 tw7165127447144924502 tw9810484116531466448 tw1322736470960931921 tw11599661354112310952 tw11542564260763223195 tw5842295969059463440 tw8414588983771560446 tw2948394410971518706 tw9316128768302202996 tw15082385240493449247 tw2254035559460266251 tw5433640218972414947 tw16066965701014249717 tw10906919532475078670 tw14203885229529283486 tw6705321675656019403 tw8523415418014708012 tw17449353329841057558:True)
set_option maxRecDepth 100000 in
set_option maxHeartbeats 0 in
theorem PySem.Challenge.cw_twinstride_k41_all_least_causes_holds : PySem.Challenge.rw_twinstride_k41_all_least_causes.Holds := by
 w_on;o_law;k_head;(case hw=>w_witness2)
 k_fill
 refine _T.walk (l:=PySem.Challenge.rw_twinstride_k41_all_least_causes) rfl rfl (λw h Y=>W.kIn_of Y) ?F
 case F=>
  intro w b fa h KX G a;refine' _T.Oz KX G a ..
  any_goals k_is
  any_goals (first|refine' _3.Nf.mk ?_ (_2.xr ?_ ?_ ?_)|refine' _3.Mf.mk ?_ ?_ (_2.xr ?_ ?_ ?_)|refine' _3.Af.mk ?_ (_2.xr ?_ ?_ ?_)|refine' _3.TC ?_ ?_ ?_ ?_ ?_)
  any_goals k_is
  any_goals k_exc
